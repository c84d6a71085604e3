import PyProof.Rows.All
import Wide.All
import OpenK.AllK
import Wide.FinOn
import Lean
import PyProof.EqAt
import PyProof.EqKinds
import PyProof.TupleCall
import PyProof.NeKinds
import PyProof.ListMulRoad
import PyProof.WalkInts
import PyProof.ListRange
import KE.KRevIter
import PySem.Challenge.RW_purseweb_k44_one_coin_more
set_option Elab.async false
set_option linter.all false
set_option maxRecDepth 100000
namespace L2
open PySem PySem.Spec PyProof.Rows
abbrev Y4:=Sum Int Str
def QZ:Y4->Value->Bool
 | .inl k,v=>Value.isInt k v
 | .inr x,v=>Value.isStrOf x v
def Ce(w:World):Y4->Int
 | .inl k=>hashInt k
 | .inr x=>hashStr w x
theorem YI:∀{k:Y4}{v:Value},QZ k v=true->(∃i t,k=Sum.inl i/\v=Value.int i t)\/(∃x t,k=Sum.inr x/\v=Value.str x t)
 | .inl i,v,h=>by
  obtain⟨t,e⟩:=Value.isInt_shape (k:=i) (v:=v) h
  exact .inl ⟨i,t,rfl,e⟩
 | .inr x,v,h=>by
  obtain⟨t,e⟩:=Value.isStrOf_shape (x:=x) (v:=v) h
  exact .inr ⟨x,t,rfl,e⟩
theorem LT(i:Int)(t:Tok):QZ (.inl i) (.int i t)=true:=by simp[QZ,Value.isInt]
theorem LU(x:Str)(t:Tok):QZ (.inr x) (.str x t)=true:=by simp[QZ,Value.isStrOf]
theorem FL(a b:Int):decide ((Sum.inl a:Y4)=Sum.inl b)=(a==b):=by
 by_cases e:a=b
 ·subst e;simp
 ·have h:¬(Sum.inl a:Y4)=Sum.inl b:=fun q=>e (Sum.inl.inj q)
  rw[decide_eq_false h]
  exact(beq_eq_false_iff_ne.mpr e).symm
theorem FM(a b:Str):decide ((Sum.inr a:Y4)=Sum.inr b)=decide (a=b):=by
 by_cases e:a=b
 ·subst e;simp
 ·have h:¬(Sum.inr a:Y4)=Sum.inr b:=fun q=>e (Sum.inr.inj q)
  rw[decide_eq_false h,decide_eq_false e]
theorem FN(a:Int)(b:Str):decide ((Sum.inl a:Y4)=Sum.inr b)=false:=decide_eq_false (fun q=>nomatch q)
theorem FO(a:Str)(b:Int):decide ((Sum.inr a:Y4)=Sum.inl b)=false:=decide_eq_false (fun q=>nomatch q)
def YT(prog:Program)(w:World):PySem.KeyKind prog w Y4 where
 is:=QZ
 hash:=Ce w
 inj:=fun v a b ha hb=>by
  rcases YI ha with⟨i,t,rfl,rfl⟩ | ⟨x,t,rfl,rfl⟩
  ·rcases YI hb with⟨j,u,rfl,e⟩ | ⟨y,u,rfl,e⟩
   ·injection e with e1 _;rw[e1]
   ·exact nomatch e
  ·rcases YI hb with⟨j,u,rfl,e⟩ | ⟨y,u,rfl,e⟩
   ·exact nomatch e
   ·injection e with e1 _;rw[e1]
 byValue:=fun k v h=>by
  rcases YI h with⟨i,t,rfl,rfl⟩ | ⟨x,t,rfl,rfl⟩<;>rfl
 pyHash:=fun hv h=>by
  rcases YI hv with⟨i,t,rfl,rfl⟩ | ⟨x,t,rfl,rfl⟩
  ·exact wpAny_pyHash_int h
  ·exact wpAny_pyHash_str h
 eqBool:=fun hu hv h=>by
  rcases YI hu with⟨i,t,rfl,rfl⟩ | ⟨x,t,rfl,rfl⟩
  ·rcases YI hv with⟨j,u,rfl,rfl⟩ | ⟨y,u,rfl,rfl⟩
   ·rw[FL] at h;exact wpAny_eqBool_int h
   ·rw[FN] at h;exact SeqAt.EqAt.int_str i t y u _ _ _ _ h
  ·rcases YI hv with⟨j,u,rfl,rfl⟩ | ⟨y,u,rfl,rfl⟩
   ·rw[FO] at h;exact SeqAt.EqAt.str_int x t j u _ _ _ _ h
   ·rw[FM] at h;exact wpAny_eqBool_str h
 «strs»:=fun k x t v h=>by
  rcases YI h with⟨i,u,rfl,e⟩ | ⟨y,u,rfl,e⟩
  ·exact nomatch e
  ·injection e with e1 _
   subst e1
   cases v<;>rfl
theorem OH(prog:Program)(w:World)(i:Int)(t:Tok):(YT prog w).is (.inl i) (.int i t)=true:=LT i t
theorem OI(prog:Program)(w:World)(x:Str)(t:Tok):(YT prog w).is (.inr x) (.str x t)=true:=LU x t
inductive V where
 | non | bl (b:Bool) | int (i:Int) | str (x:Str) | byt (b:Array UInt8) | flt (b:UInt64) | ref (a:Addr) | ty (n:String)
 deriving DecidableEq
def RelV:V->Value->Prop
 | .non,u=>u=Value.none
 | .bl b,u=>u=Value.bool b
 | .int i,u=>∃t,u=Value.int i t
 | .str x,u=>∃t,u=Value.str x t
 | .byt b,u=>∃t,u=Value.bytes b t
 | .flt b,u=>∃t,u=Value.float b t
 | .ref a,u=>u=Value.ref a
 | .ty n,u=>u=Value.type n
abbrev Vals:List V->List Value->Prop:=Paired RelV
theorem Vals.length{xs:List V}{us:List Value}(r:Vals xs us):xs.length=us.length:=Paired.length r
theorem Vals.get:∀{xs:List V}{us:List Value}{i:Nat}{x:V},Vals xs us->xs[i]?=some x->∃u,us[i]?=some u/\RelV x u
 | _,_,_,_,.nil,e=>by simp at e
 | _,_,0,_,.cons r _,e=>by simp at e;subst e;exact⟨_,rfl,r⟩
 | _,_,i+1,x,.cons _ t,e=>by
  obtain⟨u,h1,h2⟩:=Vals.get (i:=i) (x:=x) t (by simpa using e)
  exact⟨u,by simpa using h1,h2⟩
theorem Vals.set{x:V}{u:Value}(r:RelV x u):∀{xs:List V}{us:List Value}(i:Nat),Vals xs us->Vals (xs.set i x) (us.set i u)
 | _,_,_,.nil=>.nil
 | _,_,0,.cons _ t=>.cons r t
 | _,_,i+1,.cons q t=>.cons q (Vals.set r i t)
theorem Vals.append:∀{xs ys:List V}{us ws:List Value},Vals xs us->Vals ys ws->Vals (xs++ys) (us++ws)
 | _,_,_,_,.nil,s=>s
 | _,_,_,_,.cons r t,s=>.cons r (Vals.append t s)
theorem Vals.take:∀{xs:List V}{us:List Value}(n:Nat),Vals xs us->Vals (xs.take n) (us.take n)
 | _,_,0,_=>.nil
 | _,_,_+1,.nil=>.nil
 | _,_,n+1,.cons r t=>.cons r (Vals.take n t)
theorem Vals.drop:∀{xs:List V}{us:List Value}(n:Nat),Vals xs us->Vals (xs.drop n) (us.drop n)
 | _,_,0,r=>r
 | _,_,_+1,.nil=>.nil
 | _,_,n+1,.cons _ t=>Vals.drop n t
def RelO:Option V->Option Value->Prop
 | some v,some u=>RelV v u
 | none,none=>True
 | _,_=>False
def KV{κ:Type}:List (κ×V)->List (κ×Value)->Prop:=Paired fun(p:κ×V) (q:κ×Value)=>p.1=q.1/\RelV p.2 q.2
def kV:Y4->V
 | .inl i=>.int i
 | .inr x=>.str x
inductive HO where
 /-- a list -/
 | lst (xs:List V)
 /-- a tuple (never changes) -/
 | tup (xs:List V)
 /-- a dict whose keys are ints and texts;one whose keys are tuples of ints and texts (the empty one is both) -/
 | dK (kvs:List (Y4×V)) | dT (kvs:List (List Y4×V))
 /-- a set of ints: its members,its size -/
 | set (S:Int->Bool) (n:Nat)
 /-- an instance of the class at C,its dict at dx,its attributes -/
 | ins (C dx:Addr) (fs:List (Str×V))
 /-- the dict of the instance at x -/
 | own (x:Addr)
 /-- the dict of an exception -/
 | xd (fs:List (Str×V))
 /-- a bound method,f of x -/
 | met (f x:Addr)
 /-- a range object lo,lo+1,.. below hi -/
 | rng (lo hi:Int)
 /-- a thing that is known to the object (the script;a dict while a loop walks it): read,never written while it is so -/
 | frz (o:Obj) (u:HO)
 /-- a code object's table -/
 | tbl (ps:Array Value)
 /-- any other thing,by what is true of its one object (a def of one's own: SetO a S n:=HO.ext fun h=>..) -/
 | ext (φ:Heap->Prop)
abbrev Hp:=Addr->Option HO
def upd(H:Hp)(a:Addr)(o:HO):Hp:=fun b=>if b=a then some o else H b
theorem upd_same{H:Hp}{a:Addr}{o:HO}:upd H a o a=some o:=by unfold upd;rw[if_pos rfl]
theorem upd_ne{H:Hp}{a b:Addr}{o:HO}(h:b≠a):upd H a o b=H b:=by unfold upd;rw[if_neg h]
theorem Fh{H:Hp}{a b:Addr}{o u:HO}(h:H a=some o)(h':H b=some u)(d:o≠u):a≠b:=by
 intro e;subst e;rw[h] at h';exact d (Option.some.inj h')
theorem ZI{H:Hp}{a b:Addr}{o:HO}(h:H a=some o)(h':H b=none):a≠b:=by
 intro e;subst e;rw[h] at h';cases h'
section
variable (P:Program) (w:World)
def ObjOk(H:Hp)(h:Heap)(a:Addr):HO->Prop
 | .lst xs=>xs.length<=sizeLine/\∃(its:List Value) (n:Nat),Vals xs its/\h.get? a=some { cls:=.type "list",data:=.seq its.toArray n }
 | .tup xs=>xs.length<=sizeLine/\∃its:List Value,Vals xs its/\IsTup h a its.toArray
 | .dK kvs=>kvs.length<=sizeLine/\(a==sysModules)=false/\∃vs,KV kvs vs/\h.DictOf (YT P w) a vs
 | .dT kvs=>kvs.length<=sizeLine/\(a==sysModules)=false/\∃xs:List (List Y4×Addr×Value),
   Paired (fun(p:List Y4×V) (q:List Y4×Addr×Value)=>p.1=q.1/\H q.2.1=some (.tup (p.1.map kV))/\RelV p.2 q.2.2) kvs xs/\
   ∃o es ep,h.get? a=some o/\o.ExactDict/\o.data = .dict es ep/\es.toList=xs.map (entryOfKey (tupleKind (YT P w)))/\(xs.map (·.1)).Nodup
 | .set S n=>h.SetOf (intKind P w) a S n
 | .ins C dx fs=>H dx=some (.own a)/\fs.length<=1000/\dx≠a/\h.get? a=some (PySem.W.instObj C dx)/\
   ∃mA,h.Ns1 dx mA/\(∀f,RelO (fs.lookup f) (mA f))/\PySem.Within mA (fs.map (·.1))
 | .own _=>∃o,h.get? a=some o
 | .xd fs=>∃mA,h.Ns1 a mA/\∀f,RelO (fs.lookup f) (mA f)
 | .rng lo hi=>∃t u v,h.get? a=some { cls:=.type "range",data:=.fields #[.int lo t,.int hi u,.int 1 v] }
 | .frz o u=>h.get? a=some o/\ObjOk H h a u
 | .tbl ps=>h.get? a=some { cls:=.none,data:=.fields ps }
 | .met f x=>h.get? a=some (PySem.W.methodObj (.ref f) (.ref x))
 | .ext φ=>φ h/\(∃o,h.get? a=some o)/\∀h1 h2:Heap,φ h1->(∀o,h1.get? a=some o->h2.get? a=some o)->φ h2
def HOk(H:Hp)(h:Heap):Prop:=∀a o,H a=some o->ObjOk P w H h a o
end
section
variable {P:Program} {w:World} {H H':Hp} {h h':Heap} {a:Addr} {o:HO}
theorem ObjOk.lt(x:ObjOk P w H h a o):a<h.objs.size:=by
 cases o with
 | lst xs=>obtain⟨_,_,_,_,e⟩:=x;exact Heap.lt_size e
 | tup xs=>obtain⟨_,_,_,p⟩:=x;exact p.lt
 | dK kvs=>obtain⟨_,_,_,_,o,_,_,e,_⟩:=x;exact Heap.lt_size e
 | dT kvs=>obtain⟨_,_,_,_,o,_,_,e,_⟩:=x;exact Heap.lt_size e
 | set S n=>obtain⟨o,_,_,_,e,_⟩:=x;exact Heap.lt_size e
 | ins C dx fs=>obtain⟨_,_,_,e,_⟩:=x;exact Heap.lt_size e
 | own y=>obtain⟨_,e⟩:=x;exact Heap.lt_size e
 | xd fs=>obtain⟨_,⟨_,_,_,e,_⟩,_⟩:=x;exact Heap.lt_size e
 | rng lo hi=>obtain⟨_,_,_,e⟩:=x;exact Heap.lt_size e
 | frz ob u=>obtain⟨e,_⟩:=x;exact Heap.lt_size e
 | tbl ps=>exact Heap.lt_size (show h.get? a=some _ from x)
 | met f y=>exact Heap.lt_size (show h.get? a=some _ from x)
 | ext φ=>obtain⟨_,⟨_,e⟩,_⟩:=x;exact Heap.lt_size e
theorem Paired.mapP{α β:Type}{F G:α->β->Prop}:∀{l₁:List α}{l₂:List β},Paired F l₁ l₂->(∀a b,F a b->G a b)->Paired G l₁ l₂
 | _,_,.nil,_=>.nil
 | _,_,.cons r t,f=>.cons (f _ _ r) (Paired.mapP t f)
theorem ObjOk.stay(x:ObjOk P w H h a o)(k:∀b u,(b=a\/H b=some (.own a))->h.get? b=some u->h'.get? b=some u)
  (ho:∀b,H b=some (.own a)->H' b=some (.own a)) (ht:∀b xs,H b=some (.tup xs)->H' b=some (.tup xs)):ObjOk P w H' h' a o:=by
 induction o with
 | lst xs=>obtain⟨z,its,n,r,e⟩:=x;exact⟨z,its,n,r,k _ _ (.inl rfl) e⟩
 | tup xs=>obtain⟨z,its,r,ob,e,c⟩:=x;exact⟨z,its,r,ob,k _ _ (.inl rfl) e,c⟩
 | dK kvs=>obtain⟨z,y,vs,r,ob,es,ep,e,c⟩:=x;exact⟨z,y,vs,r,ob,es,ep,k _ _ (.inl rfl) e,c⟩
 | dT kvs=>
  obtain⟨z,y,xs,r,ob,es,ep,e,c⟩:=x
  exact⟨z,y,xs,Paired.mapP r fun p q z=>⟨z.1,ht _ _ z.2.1,z.2.2⟩,ob,es,ep,k _ _ (.inl rfl) e,c⟩
 | set S n=>obtain⟨ob,es,ep,t,e,c⟩:=x;exact⟨ob,es,ep,t,k _ _ (.inl rfl) e,c⟩
 | ins C dx fs=>
  obtain⟨d,z,ne,e,mA,⟨od,es,ep,e2,c⟩,r⟩:=x
  exact⟨ho _ d,z,ne,k _ _ (.inl rfl) e,mA,⟨od,es,ep,k _ _ (.inr d) e2,c⟩,r⟩
 | own y=>obtain⟨ob,e⟩:=x;exact⟨ob,k _ _ (.inl rfl) e⟩
 | xd fs=>obtain⟨mA,⟨od,es,ep,e,c⟩,r⟩:=x;exact⟨mA,⟨od,es,ep,k _ _ (.inl rfl) e,c⟩,r⟩
 | rng lo hi=>obtain⟨t,u,v,e⟩:=x;exact⟨t,u,v,k _ _ (.inl rfl) e⟩
 | frz ob u ih=>obtain⟨e,q⟩:=x;exact⟨k _ _ (.inl rfl) e,ih q⟩
 | tbl ps=>
  have e:h.get? a=some { cls:=.none,data:=.fields ps }:=x
  show h'.get? a=some { cls:=.none,data:=.fields ps }
  exact k a _ (.inl rfl) e
 | met f y=>
  have e:h.get? a=some (PySem.W.methodObj (.ref f) (.ref y)):=x
  show h'.get? a=some (PySem.W.methodObj (.ref f) (.ref y))
  exact k a _ (.inl rfl) e
 | ext φ=>obtain⟨p,⟨o,e⟩,st⟩:=x;exact⟨st _ _ p fun o q=>k _ _ (.inl rfl) q,⟨o,k _ _ (.inl rfl) e⟩,st⟩
theorem HOk.lt(x:HOk P w H h)(e:H a=some o):a<h.objs.size:=(x a o e).lt
theorem HOk.fresh(x:HOk P w H h)(e:h.objs.size<=a):H a=none:=by
 cases q:H a with
 | none=>rfl
 | some u=>exact absurd (Nat.lt_of_lt_of_le (x.lt q) e) (Nat.lt_irrefl _)
theorem HOk.kept(x:HOk P w H h)(k:∀b u,h.get? b=some u->h'.get? b=some u):HOk P w H h':=fun a o e=>
 (x a o e).stay (fun b u _ q=>k b u q) (fun _ q=>q) fun _ _ q=>q
theorem HOk.laid(x:HOk P w H h)(k:∀b u,h.get? b=some u->h'.get? b=some u)(hp:h.objs.size<=a)(new:ObjOk P w (upd H a o) h' a o):HOk P w (upd H a o) h':=fun b u e=>by
 have hn:=x.fresh hp
 by_cases hb:b=a
 ·subst hb;rw[upd_same] at e;cases e;exact new
 ·rw[upd_ne hb] at e
  exact(x b u e).stay (fun c v _ q=>k c v q) (fun c q=>by rw[upd_ne (ZI q hn)];exact q) fun c xs q=>by rw[upd_ne (ZI q hn)];exact q
end
def Rd(H:Hp)(a:Addr)(u:HO):Prop:=H a=some u\/∃o,H a=some (.frz o u)
theorem Rd.ok{P:Program}{w:World}{H:Hp}{h:Heap}{a:Addr}{u:HO}(r:Rd H a u)(x:HOk P w H h):ObjOk P w H h a u:=by
 rcases r with r | ⟨o,r⟩
 ·exact x a u r
 ·obtain⟨_,q⟩:=x a _ r
  exact q
def WY:Option HO->Prop
 | some (.lst _)=>True
 | some (.dK _)=>True
 | some (.dT _)=>True
 | some (.set _ _)=>True
 | some (.ins _ _ _)=>True
 | some (.ext _)=>True
 | _=>False
section
variable {P:Program} {w:World} {H:Hp} {h h':Heap} {x e:Addr} {o':HO}
theorem HOk.write(ok:HOk P w H h)(mu:WY (H x))(he:e=x\/H e=some (.own x))(k:∀b u,b≠e->h.get? b=some u->h'.get? b=some u)(heo:∃u,h'.get? e=some u)
  (new:ObjOk P w (upd H x o') h' x o'):HOk P w (upd H x o') h':=fun b u q=>by
 have nown:∀c y,H c=some (.own y)->c≠x:=fun c y r z=>by subst z;rw[r] at mu;exact mu
 have ntup:∀c xs,H c=some (.tup xs)->c≠x:=fun c xs r z=>by subst z;rw[r] at mu;exact mu
 by_cases hb:b=x
 ·subst hb;rw[upd_same] at q;cases q;exact new
 ·rw[upd_ne hb] at q
  by_cases hbe:b=e
  ·have q':H b=some (.own x):=by
    rcases he with z | z
    ·exact absurd (hbe.trans z) hb
    ·rw[hbe];exact z
   rw[q] at q';cases q'
   obtain⟨v,hv⟩:=heo
   exact⟨v,by rw[hbe];exact hv⟩
  ·refine(ok b u q).stay (fun c v hc r=>k c v ?_ r) (fun c r=>by rw[upd_ne (nown c b r)];exact r) fun c xs r=>by rw[upd_ne (ntup c xs r)];exact r
   rcases hc with rfl | hc
   ·exact hbe
   ·rintro rfl
    rcases he with z | z
    ·exact nown c b hc z
    ·rw[hc] at z;cases z;exact hb rfl
end
structure Un(fs ex:List Addr)(H H':Hp)(h h':Heap):Prop where
 keep:∀b o,h.get? b=some o->H b=none->b∉fs->b∉ex->h'.get? b=some o
 slot:∀b o,h.get? b=some o->H b=none->b∈fs->b∉ex->∃sl,h'.get? b=some { o with slots:=sl }
 free:∀b o,h.get? b=some o->H b=none->b∉ex->H' b=none
 there:∀b o,h.get? b=some o->b∉ex->∃o',h'.get? b=some o'
 tups:∀b xs,H b=some (.tup xs)->H' b=some (.tup xs)
 frzs:∀b o u,H b=some (.frz o u)->H' b=some (.frz o u)
 tbls:∀b ps,H b=some (.tbl ps)->∃more,H' b=some (.tbl (ps++more))
section
variable {fs fs' ex ex':List Addr} {H H1 H2:Hp} {h h1 h2 h':Heap} {a x e:Addr} {o:HO}
theorem Un.any(u:Un fs ex H H1 h h1){b:Addr}{ob:Obj}(q:h.get? b=some ob)(n:H b=none)(hx:b∉ex):∃sl,h1.get? b=some { ob with slots:=sl }:=by
 by_cases hb:b∈fs
 ·exact u.slot b ob q n hb hx
 ·exact⟨ob.slots,u.keep b ob q n hb hx⟩
theorem Un.kept(k:∀b u,h.get? b=some u->h'.get? b=some u):Un fs ex H H h h':=
 ⟨fun b ob q _ _ _=>k b ob q,fun b ob q _ _ _=>⟨ob.slots,k b ob q⟩,fun _ _ _ n _=>n,fun b ob q _=>⟨ob,k b ob q⟩,fun _ _ q=>q,fun _ _ _ q=>q,fun _ ps q=>⟨#[],by rw[q];simp⟩⟩
theorem Un.refl:Un fs ex H H h h:=Un.kept fun _ _ q=>q
theorem Un.laid(k:∀b u,h.get? b=some u->h'.get? b=some u)(hp:h.objs.size<=a)(hn:H a=none):Un fs ex H (upd H a o) h h' where
 keep:=fun b u q _ _ _=>k b u q
 slot:=fun b u q _ _ _=>⟨u.slots,k b u q⟩
 free:=fun b u q n _=>by rw[upd_ne (Nat.ne_of_lt (Nat.lt_of_lt_of_le (Heap.lt_size q) hp))];exact n
 there:=fun b u q _=>⟨u,k b u q⟩
 tups:=fun b xs q=>by rw[upd_ne (ZI q hn)];exact q
 frzs:=fun b u xs q=>by rw[upd_ne (ZI q hn)];exact q
 tbls:=fun b ps q=>⟨#[],by rw[upd_ne (ZI q hn),q];simp⟩
theorem Un.write(mu:WY (H x))(he:e=x\/H e=some (.own x))(k:∀b u,b≠e->h.get? b=some u->h'.get? b=some u)(heo:∃u,h'.get? e=some u):Un fs ex H (upd H x o) h h':=by
 have hx:∀b,H b=none->b≠x:=fun b n z=>by subst z;rw[n] at mu;exact mu
 have hb:∀b,H b=none->b≠e:=fun b n z=>by
  subst z
  rcases he with r | r
  ·exact hx b n r
  ·rw[n] at r;cases r
 have hm:∀b u,H b=some u->¬WY (some u)->b≠x:=fun b u q nm z=>by subst z;rw[q] at mu;exact nm mu
 refine⟨fun b u q n _ _=>k b u (hb b n) q,fun b u q n _ _=>⟨u.slots,k b u (hb b n) q⟩,fun b u q n _=>by rw[upd_ne (hx b n)];exact n,fun b u q _=>?_,
  fun b xs q=>by rw[upd_ne (hm b _ q fun z=>z)];exact q,fun b u xs q=>by rw[upd_ne (hm b _ q fun z=>z)];exact q,fun b ps q=>⟨#[],by rw[upd_ne (hm b _ q fun z=>z),q];simp⟩⟩
 by_cases hbe:b=e
 ·subst hbe;exact heo
 ·exact⟨u,k b u hbe q⟩
end
def DX(h:Heap)(H:Hp):List Addr:=(List.range h.objs.size).filter fun a=>(H a).isSome
def PH(h:Heap)(H:Hp):Heap:=PySem.W.hideAll h (DX h H)
theorem LV(h:Heap)(H:Hp):(PH h H).objs.size=h.objs.size:=PySem.W.hideAll_size _ _
theorem K7{h:Heap}{H:Hp}{b:Addr}{o:Obj}(e:h.get? b=some o)(n:H b=none):(PH h H).get? b=some o:=
 PySem.W.hideAll_get _ e fun hm=>by
  have q:(H b).isSome=true:=(List.mem_filter.mp hm).2
  rw[n] at q;simp at q
theorem Ht{h:Heap}{H:Hp}{b:Addr}{o:Obj}(e:(PH h H).get? b=some o):h.get? b=some o/\H b=none:=by
 have e':h.get? b=some o:=PySem.W.of_hideAll (DX h H) e
 refine⟨e',?_⟩
 cases q:H b with
 | none=>rfl
 | some x=>
  have hm:b∈DX h H:=List.mem_filter.mpr ⟨List.mem_range.mpr (Heap.lt_size e'),by simp[q]⟩
  have z:(PH h H).get? b=none:=PySem.W.hideAll_none (DX h H) hm
  rw[z] at e;cases e
def Hu(g h:Heap)(L:Addr):List (Addr×Obj):=(List.range h.objs.size).filterMap fun a=>if a=L\/(g.get? a).isSome=true then none else(h.get? a).map fun o=>(a,o)
def YJ(g h:Heap)(L d:Addr):List (Addr×Obj):=(Hu g h L).filter fun p=>decide (p.1≠d)
structure Mod(K:PySem.W.Frag)(mg:Str->Option Value)(base:Heap):Prop where
 kin:K.In base
 glob:base.Ns mainGlobals mg
 blt:∃mb,base.Ns builtinsNs mb/\∀x:Str,x≠"__name__"->mb x=bootBuiltins x
 nolimit:base.NoLimit
structure Cx where
 prog:Program
 w:World
 K:PySem.W.Frag
 mg:Str->Option Value
 base:Heap
 A:Around
 N:List Str
 s₀:Shared
 H₀:Hp
 env:Env
 outer:List Env
 stack:List Env
 ex:List Addr
 fn:Str->Bool
 calm:Bool
 pn:List (Addr×Obj)
 xe:Value->Shared->Prop
def OJ(l:List Env):List Addr:=l.filterMap (·.frame)
abbrev Cx.fs(X:Cx):List Addr:=OJ X.outer
def Cf(sc:Scope)(x:Str):Prop:=sc.names.lookup x=some .local\/sc.names.lookup x=some .cell\/sc.names.lookup x=some .free
def E7(sc:Scope)(x:Str):Prop:=sc.names.lookup x=some .local\/sc.names.lookup x=some .cell
def Cg(env:Env)(h:Heap)(m:Str->Option Value)(x:Str)(u:Value):Prop:=
 (env.kindOf x=some .local/\m x=some u)\/((env.kindOf x=some .cell\/env.kindOf x=some .free)/\∃c,env.cells.lookup x=some c/\h.IsCell c (some u))
structure Cx.Ok(X:Cx):Prop where
 mod:Mod X.K X.mg X.base
 kind:X.env.scope.kind = .function
 glob:X.env.globals=mainGlobals
 blt:X.env.builtins=builtinsNs
 above:X.s₀.heap.objs.size<=X.env.locals
 inj:∀x y c,X.env.cells.lookup x=some c->X.env.cells.lookup y=some c->x=y
 has:∀x,(X.env.kindOf x=some .cell\/X.env.kindOf x=some .free)->∃c,X.env.cells.lookup x=some c
 cab:∀x c,X.fn x=true->X.env.cells.lookup x=some c->X.s₀.heap.objs.size<=c
 hd:X.calm=true->X.A.handled=none
 frames:X.A.frames=some X.stack
 stk:X.stack=X.outer\/(X.stack=X.env::X.outer/\X.env.frame=some X.env.locals)
 exf:∀b∈X.ex,b≠X.env.locals/\∀x c,X.env.cells.lookup x=some c->c≠b
 bs:∀b o,X.base.get? b=some o->X.s₀.heap.get? b=some o/\X.H₀ b=none
 bsz:X.base.objs.size<=X.s₀.heap.objs.size
 noex:∀b o,X.base.get? b=some o->b∉X.ex
 exfs:∀b∈X.ex,b∉X.fs
 funs:X.s₀.heap.FunFrames X.base X.outer
 frf:∀b∈X.fs,X.H₀ b=none
structure Inv(X:Cx)(pins:List (Addr×Obj))(σ:List (Option V))(H:Hp)(s:Shared):Prop where
 ok:X.Ok
 os:s.os=X.s₀.os
 bare:AllBare s.gens
 base:Un X.fs X.ex X.H₀ H X.s₀.heap s.heap
 loc:∃m,s.heap.Ns X.env.locals m/\∀(i:Nat)(x:Str)(v:V),X.N[i]?=some x->σ[i]?=some (some v)->Cf X.env.scope x->∃u,RelV v u/\Cg X.env s.heap m x u
 cell:∀x c,X.env.cells.lookup x=some c->∃v,s.heap.IsCell c v
 free:H X.env.locals=none
 freeC:∀x c,X.env.cells.lookup x=some c->H c=none
 pin:∀p∈X.pn++pins,s.heap.get? p.1=some p.2/\H p.1=none/\p.1≠X.env.locals/\p.1∉X.fs/\∀v,p.2.data≠.cell v
 hok:HOk X.prog X.w H s.heap
 len:σ.length=X.N.length
section
variable {X:Cx} {pins:List (Addr×Obj)} {σ:List (Option V)} {H H':Hp} {s:Shared} {h':Heap}
theorem Cx.Ok.nofr(ok:X.Ok){b:Addr}{o:Obj}(e:X.base.get? b=some o):b∉X.fs:=fun hb=>by
 have:=(ok.funs.mem hb).1
 rw[e] at this;cases this
theorem Inv.bs(I:Inv X pins σ H s):∀b o,X.base.get? b=some o->s.heap.get? b=some o/\H b=none:=fun b o e=>
 ⟨I.base.keep b o (I.ok.bs b o e).1 (I.ok.bs b o e).2 (I.ok.nofr e) (I.ok.noex b o e),I.base.free b o (I.ok.bs b o e).1 (I.ok.bs b o e).2 (I.ok.noex b o e)⟩
theorem Inv.bk(I:Inv X pins σ H s):∀b o,X.base.get? b=some o->s.heap.get? b=some o:=fun b o e=>(I.bs b o e).1
theorem Inv.mod(I:Inv X pins σ H s):Mod X.K X.mg X.base:=I.ok.mod
theorem Inv.kIn(I:Inv X pins σ H s):X.K.In s.heap:=I.ok.mod.kin.keeps I.bk
theorem Inv.fr(I:Inv X pins σ H s):∃m,Fr X.base X.env.locals s.heap m:=
 let⟨m,hn,_⟩:=I.loc
 ⟨m,hn,I.bk,Nat.le_trans I.ok.bsz I.ok.above⟩
theorem Inv.lt(I:Inv X pins σ H s):X.env.locals<s.heap.objs.size:=let⟨_,hn,_⟩:=I.loc;hn.lt
theorem Inv.sz(I:Inv X pins σ H s):X.s₀.heap.objs.size<=s.heap.objs.size:=Nat.le_trans I.ok.above (Nat.le_of_lt I.lt)
theorem Inv.nofs(I:Inv X pins σ H s){a:Addr}(h:s.heap.objs.size<=a):a∉X.fs:=fun hb=>by
 obtain⟨_,o,ho,_⟩:=I.ok.funs.mem hb
 exact absurd (Nat.lt_of_lt_of_le (Heap.lt_size ho) (Nat.le_trans I.sz h)) (Nat.lt_irrefl _)
theorem Inv.cne(I:Inv X pins σ H s):∀x c,X.env.cells.lookup x=some c->c≠X.env.locals:=fun x c e z=>by
 obtain⟨v,o,ho,hd⟩:=I.cell x c e
 obtain⟨m,⟨o',es,ep,ho',hd',_⟩,_⟩:=I.loc
 rw[z,ho'] at ho;cases ho;rw[hd'] at hd;cases hd
theorem Inv.funs(I:Inv X pins σ H s):s.heap.FunFrames X.base X.outer:=by
 have all:∀(l:List Env),(∀b∈OJ l,b∈X.fs)->X.s₀.heap.FunFrames X.base l->s.heap.FunFrames X.base l:=by
  intro l
  induction l with
  | nil=>intro _ _;trivial
  | cons env r ih=>
   intro hs hl
   obtain⟨hk,⟨L,o,hf,hn,ho,hd⟩,hr⟩:=hl
   have hL:L∈X.fs:=hs L (by unfold OJ;rw[List.filterMap_cons,hf];exact List.mem_cons_self)
   obtain⟨sl,e⟩:=I.base.slot L o ho (I.ok.frf L hL) hL fun z=>I.ok.exfs L z hL
   exact⟨hk,⟨L,_,hf,hn,e,hd⟩,ih (fun b hb=>hs b (by unfold OJ;rw[List.filterMap_cons,hf];exact List.mem_cons_of_mem _ hb)) hr⟩
 exact all X.outer (fun _ hb=>hb) I.ok.funs
theorem Inv.stack(I:Inv X pins σ H s):s.heap.FunFrames X.base X.stack:=by
 rcases I.ok.stk with e | ⟨e,hf⟩
 ·rw[e];exact I.funs
 ·rw[e]
  obtain⟨m,hn,_⟩:=I.loc
  refine .cons (by rw[I.ok.kind];decide) hf hn ?_ I.funs
  exact Heap.get?_none_of_le (Nat.le_trans I.ok.bsz I.ok.above)
theorem Inv.stkSub(I:Inv X pins σ H s):∀b∈OJ X.stack,b∈X.env.locals::X.fs:=fun b hb=>by
 rcases I.ok.stk with e | ⟨e,hf⟩
 ·rw[e] at hb;exact List.mem_cons_of_mem _ hb
 ·rw[e] at hb
  unfold OJ at hb;rw[List.filterMap_cons,hf] at hb;exact hb
theorem Inv.stkFree(I:Inv X pins σ H s):∀b∈OJ X.stack,H b=none:=fun b hb=>by
 rcases List.mem_cons.mp (I.stkSub b hb) with e | hb
 ·rw[e];exact I.free
 ·obtain⟨_,o,ho,_⟩:=I.ok.funs.mem hb
  exact I.base.free b o ho (I.ok.frf b hb) fun z=>I.ok.exfs b z hb
theorem Inv.step{g':Array GenState}{t':Nat}{d':Drawn}{ch:List Addr}(I:Inv X pins σ H s)
  (hch:∀b∈ch,(b∈X.ex\/X.s₀.heap.objs.size<=b)/\b≠X.env.locals/\(∀x c,X.env.cells.lookup x=some c->c≠b)/\∀p∈X.pn++pins,p.1≠b)
  (keep:∀b o,b≠X.env.locals->b∉X.fs->b∉ch->s.heap.get? b=some o->H b=none->h'.get? b=some o)
  (slot:∀b o,b≠X.env.locals->b∈X.fs->b∉ch->s.heap.get? b=some o->H b=none->∃sl,h'.get? b=some { o with slots:=sl }) (free:∀b o,b∉ch->s.heap.get? b=some o->H b=none->H' b=none)
  (there:∀b o,b∉ch->s.heap.get? b=some o->∃o',h'.get? b=some o')
  (tups:∀b xs,H b=some (.tup xs)->H' b=some (.tup xs)) (frzs:∀b o u,H b=some (.frz o u)->H' b=some (.frz o u)) (tbls:∀b ps,H b=some (.tbl ps)->∃more,H' b=some (.tbl (ps++more)))
  (ns:∀m,s.heap.Ns X.env.locals m->h'.Ns X.env.locals m) (hok:HOk X.prog X.w H' h') (hg:AllBare g') :
  Inv X pins σ H' { s with heap:=h',gens:=g',drawn:=d',toks:=t' }:=by
 have neL:∀b o,X.s₀.heap.get? b=some o->b≠X.env.locals:=fun b o e=>Nat.ne_of_lt (Nat.lt_of_lt_of_le (Heap.lt_size e) I.ok.above)
 have neC:∀b o,X.s₀.heap.get? b=some o->b∉X.ex->b∉ch:=fun b o e hx hb=>by
  rcases(hch b hb).1 with z | z
  ·exact hx z
  ·exact absurd (Nat.lt_of_lt_of_le (Heap.lt_size e) z) (Nat.lt_irrefl _)
 have cellK:∀x c,X.env.cells.lookup x=some c->∀v,s.heap.IsCell c v->h'.IsCell c v:=fun x c e v ⟨o,ho,hd⟩=>by
  have nch:c∉ch:=fun z=>(hch c z).2.2.1 x c e rfl
  by_cases hc:c∈X.fs
  ·obtain⟨sl,q⟩:=slot c o (I.cne x c e) hc nch ho (I.freeC x c e)
   exact⟨_,q,hd⟩
  ·exact⟨o,keep c o (I.cne x c e) hc nch ho (I.freeC x c e),hd⟩
 refine⟨I.ok,I.os,hg,⟨fun b o e n hb hx=>?_,fun b o e n hb hx=>?_,fun b o e n hx=>?_,fun b o e hx=>?_,fun b xs e=>tups b xs (I.base.tups b xs e),fun b o xs e=>frzs b o xs (I.base.frzs b o xs e),fun b ps e=>?_⟩,?_,fun x c e=>?_,?_,fun x c e=>?_,fun p hp=>?_,hok,I.len⟩
 ·exact keep b o (neL b o e) hb (neC b o e hx) (I.base.keep b o e n hb hx) (I.base.free b o e n hx)
 ·obtain⟨sl,e1⟩:=I.base.slot b o e n hb hx
  obtain⟨sl',e2⟩:=slot b _ (neL b o e) hb (neC b o e hx) e1 (I.base.free b o e n hx)
  exact⟨sl',e2⟩
 ·obtain⟨o',e1⟩:=I.base.there b o e hx
  exact free b o' (neC b o e hx) e1 (I.base.free b o e n hx)
 ·obtain⟨o',e1⟩:=I.base.there b o e hx
  exact there b o' (neC b o e hx) e1
 ·obtain⟨m1,e1⟩:=I.base.tbls b ps e
  obtain⟨m2,e2⟩:=tbls b _ e1
  exact⟨m1++m2,by rw[e2,Array.append_assoc]⟩
 ·obtain⟨m,hn,hl⟩:=I.loc
  refine⟨m,ns m hn,fun i x v e1 e2 e3=>?_⟩
  obtain⟨u,r,l⟩:=hl i x v e1 e2 e3
  refine⟨u,r,?_⟩
  rcases l with l | ⟨k,c,e,z⟩
  ·exact .inl l
  ·exact .inr ⟨k,c,e,cellK x c e _ z⟩
 ·obtain⟨v,z⟩:=I.cell x c e
  exact⟨v,cellK x c e v z⟩
 ·obtain⟨m,⟨o,_,_,ho,_⟩,_⟩:=I.loc
  exact free _ o (fun z=>(hch _ z).2.1 rfl) ho I.free
 ·obtain⟨v,o,ho,hd⟩:=I.cell x c e
  exact free c o (fun z=>(hch c z).2.2.1 x c e rfl) ho (I.freeC x c e)
 ·obtain⟨e,n,ne,nf,d⟩:=I.pin p hp
  have nch:p.1∉ch:=fun z=>(hch p.1 z).2.2.2 p hp rfl
  exact⟨keep p.1 p.2 ne nf nch e n,free p.1 p.2 nch e n,ne,nf,d⟩
theorem Inv.un{t':Nat}(I:Inv X pins σ H s)(u:Un X.fs [] H H' s.heap h')(hok:HOk X.prog X.w H' h'):Inv X pins σ H' { s with heap:=h',toks:=t' }:=by
 obtain⟨m,⟨o,es,ep,ho,r⟩,_⟩:=id I.loc
 obtain⟨sl,hL⟩:=u.any ho I.free (by simp)
 exact I.step (g':=s.gens) (d':=s.drawn) (ch:=[]) (fun _ z=>nomatch z) (fun b o _ hb _ e n=>u.keep b o e n hb (by simp)) (fun b o _ hb _ e n=>u.slot b o e n hb (by simp)) (fun b o _ e n=>u.free b o e n (by simp)) (fun b o _ e=>u.there b o e (by simp)) u.tups u.frzs u.tbls (fun m' hm=>by
  obtain⟨o',es',ep',ho',r'⟩:=hm
  rw[ho] at ho';cases ho'
  exact⟨_,es',ep',hL,r'⟩) hok I.bare
theorem Inv.call{g':Array GenState}{t':Nat}{d':Drawn}{ch:List Addr}(I:Inv X pins σ H s)(u:Un (OJ X.stack) ch H H' s.heap h')(hok:HOk X.prog X.w H' h')(hg:AllBare g')
  (hch:∀b∈ch,(b∈X.ex\/X.s₀.heap.objs.size<=b)/\b≠X.env.locals/\(∀x c,X.env.cells.lookup x=some c->c≠b)/\∀p∈X.pn++pins,p.1≠b) :
  Inv X pins σ H' { s with heap:=h',gens:=g',drawn:=d',toks:=t' }:=by
 obtain⟨m,⟨o,es,ep,ho,r⟩,_⟩:=id I.loc
 obtain⟨sl,hL⟩:=u.any ho I.free fun z=>(hch _ z).2.1 rfl
 exact I.step (ch:=ch) hch (fun b o hL hb hc e n=>u.keep b o e n (fun z=>(List.mem_cons.mp (I.stkSub b z)).elim hL hb) hc) (fun b o _ _ hc e n=>u.any e n hc) (fun b o hc e n=>u.free b o e n hc) (fun b o hc e=>u.there b o e hc) u.tups u.frzs u.tbls (fun m' hm=>by
  obtain⟨o',es',ep',ho',r'⟩:=hm
  rw[ho] at ho';cases ho'
  exact⟨_,es',ep',hL,r'⟩) hok hg
theorem Inv.turned{t':Nat}{it:Addr}(I:Inv X pins σ H s)(k:∀b o,b≠it->s.heap.get? b=some o->h'.get? b=some o)(hn:H it=none)(hL:it≠X.env.locals)
  (h1:it∈X.ex\/X.s₀.heap.objs.size<=it) (h2:∀x c,X.env.cells.lookup x=some c->c≠it) (h3:∀p∈X.pn++pins,p.1≠it):Inv X pins σ H { s with heap:=h',toks:=t' }:=by
 have nit:∀b u,H b=some u->b≠it:=fun b u e z=>by rw[z,hn] at e;cases e
 refine I.step (g':=s.gens) (d':=s.drawn) (ch:=[it]) (fun b hb=>?_) (fun b o _ _ hc e _=>k b o (fun z=>hc (by simp[z])) e) (fun b o _ _ hc e _=>⟨o.slots,k b o (fun z=>hc (by simp[z])) e⟩) (fun _ _ _ _ n=>n)
  (fun b o hc e=>⟨o,k b o (fun z=>hc (by simp[z])) e⟩) (fun _ _ e=>e) (fun _ _ _ e=>e) (fun b ps e=>⟨#[],by rw[e];simp⟩) (fun m hm=>?_) (fun b u e=>?_) I.bare
 ·have e:b=it:=by simpa using hb
  subst e
  exact⟨h1,hL,h2,h3⟩
 ·obtain⟨o,es,ep,ho,r⟩:=hm
  exact⟨o,es,ep,k _ o (Ne.symm hL) ho,r⟩
 ·refine(I.hok b u e).stay (fun c v hc q=>k c v ?_ q) (fun _ q=>q) fun _ _ q=>q
  rcases hc with z | z
  ·rw[z];exact nit b u e
  ·exact nit c _ z
theorem Inv.tok(I:Inv X pins σ H s)(t:Nat):Inv X pins σ H { s with toks:=t }:=I.un (h':=s.heap) (t':=t) Un.refl I.hok
theorem Inv.kept{t':Nat}(I:Inv X pins σ H s)(k:∀b u,s.heap.get? b=some u->h'.get? b=some u):Inv X pins σ H { s with heap:=h',toks:=t' }:=I.un (Un.kept k) (I.hok.kept k)
theorem Inv.laid{a:Addr}{o:HO}{t':Nat}(I:Inv X pins σ H s)(k:∀b u,s.heap.get? b=some u->h'.get? b=some u)(hp:s.heap.objs.size<=a)(new:ObjOk X.prog X.w (upd H a o) h' a o) :
  Inv X pins σ (upd H a o) { s with heap:=h',toks:=t' }:=I.un (Un.laid k hp (I.hok.fresh hp)) (I.hok.laid k hp new)
theorem Inv.write{x e:Addr}{o:HO}{t':Nat}(I:Inv X pins σ H s)(mu:WY (H x))(he:e=x\/H e=some (.own x))(k:∀b u,b≠e->s.heap.get? b=some u->h'.get? b=some u)(heo:∃u,h'.get? e=some u)
  (new:ObjOk X.prog X.w (upd H x o) h' x o):Inv X pins σ (upd H x o) { s with heap:=h',toks:=t' }:=I.un (Un.write mu he k heo) (I.hok.write mu he k heo new)
theorem Inv.weak{σ':List (Option V)}(I:Inv X pins σ H s)(hl:σ'.length=σ.length)(w:∀(i:Nat) v,σ'[i]?=some (some v)->σ[i]?=some (some v)):Inv X pins σ' H s:=
 ⟨I.ok,I.os,I.bare,I.base,let⟨m,hn,hl'⟩:=I.loc;⟨m,hn,fun i x v e1 e2 e3=>hl' i x v e1 (w i v e2) e3⟩,I.cell,I.free,I.freeC,I.pin,I.hok,hl.trans I.len⟩
theorem Inv.pins_of{pins':List (Addr×Obj)}(I:Inv X pins σ H s)(h:∀p∈pins',s.heap.get? p.1=some p.2/\H p.1=none/\p.1≠X.env.locals/\p.1∉X.fs/\∀v,p.2.data≠.cell v):Inv X pins' σ H s:=
 ⟨I.ok,I.os,I.bare,I.base,I.loc,I.cell,I.free,I.freeC,fun p hp=>(List.mem_append.mp hp).elim (fun z=>I.pin p (List.mem_append_left _ z)) (h p),I.hok,I.len⟩
theorem OK{N:List Str}(hN:N.Nodup){i j:Nat}{x:Str}(a:N[i]?=some x)(b:N[j]?=some x):i=j:=by
 obtain⟨h1,e1⟩:=List.getElem?_eq_some_iff.mp a
 obtain⟨h2,e2⟩:=List.getElem?_eq_some_iff.mp b
 exact(List.getElem_inj hN).mp (e1.trans e2.symm)
theorem LW{M:Model}{A:Around}{E:Value->Shared->Prop}{i:Nat}{x:Str}{v:V}{u:Value}{Q:Unit->Shared->Prop}(I:Inv X pins σ H s)(hN:X.N.Nodup)(hi:X.N[i]?=some x)(hx:E7 X.env.scope x)(r:RelV v u)
  (h:∀s',Inv X pins (σ.set i (some v)) H s'->(∃a,Heap.SameBut a s.heap s'.heap/\(a=X.env.locals\/X.env.cells.lookup x=some a))->Q () s') (hf:X.fn x=true\/X.env.scope.names.lookup x=some .local:=by first | exact .inl rfl | exact .inr rfl | assumption):wpAny M A (storeName X.env x u) Q E s:=by
 obtain⟨m,hn,hl⟩:=id I.loc
 have hcls:(X.env.scope.kind==.class || (X.env.scope.kind==.module&&X.env.locals != X.env.globals))=false:=by rw[I.ok.kind];rfl
 have hiσ:i<σ.length:=by rw[I.len];exact(List.getElem?_eq_some_iff.mp hi).1
 have cne:=I.cne
 have tracked:∀{a:Addr}{h':Heap},(∃o,s.heap.get? a=some o/\H a=none)->Heap.SameBut a s.heap h'->HOk X.prog X.w H h':=fun{a h'} ha hs b ob e=>by
  obtain⟨_,_,hfree⟩:=ha
  refine(I.hok b ob e).stay (fun c w' hc q=>(hs.2 c ?_).trans q) (fun _ q=>q) fun _ _ q=>q
  rintro rfl
  rcases hc with rfl | hc
  ·rw[hfree] at e;cases e
  ·rw[hfree] at hc;cases hc
 rcases hx with hk | hk
 ·refine wpAny_storeName_local hk hn (fun h' hn' hs=>?_) hcls
  obtain⟨oL,_,_,hoL,_⟩:=id hn
  refine h _ ⟨I.ok,I.os,I.bare,⟨fun b o e n hb hx=>?_,fun b o e n hb hx=>?_,I.base.free,fun b o e hx=>?_,I.base.tups,I.base.frzs,I.base.tbls⟩,⟨_,hn',fun j y v' e1 e2 e3=>?_⟩,fun y c e=>?_,I.free,I.freeC,fun p hp=>?_,tracked ⟨oL,hoL,I.free⟩ hs,by simpa using I.len⟩ ⟨_,hs,.inl rfl⟩
  ·exact(hs.2 b (Nat.ne_of_lt (Nat.lt_of_lt_of_le (Heap.lt_size e) I.ok.above))).trans (I.base.keep b o e n hb hx)
  ·obtain⟨sl,e1⟩:=I.base.slot b o e n hb hx
   exact⟨sl,(hs.2 b (Nat.ne_of_lt (Nat.lt_of_lt_of_le (Heap.lt_size e) I.ok.above))).trans e1⟩
  ·obtain⟨o',e1⟩:=I.base.there b o e hx
   exact⟨o',(hs.2 b (Nat.ne_of_lt (Nat.lt_of_lt_of_le (Heap.lt_size e) I.ok.above))).trans e1⟩
  ·by_cases hj:j=i
   ·subst hj
    rw[hi] at e1;cases e1;rw[List.getElem?_set_self hiσ] at e2;cases e2
    exact⟨u,r,.inl ⟨hk,by simp⟩⟩
   ·rw[List.getElem?_set_ne (Ne.symm hj)] at e2
    obtain⟨u',r',q⟩:=hl j y v' e1 e2 e3
    refine⟨u',r',?_⟩
    rcases q with⟨k,e⟩ | ⟨k,c,e,z⟩
    ·refine .inl ⟨k,?_⟩
     have:y≠x:=fun e=>hj (OK hN e1 (e▸hi))
     simp[this,e]
    ·exact .inr ⟨k,c,e,z.sameBut hs (cne y c e)⟩
  ·obtain⟨w',z⟩:=I.cell y c e
   exact⟨w',z.sameBut hs (cne y c e)⟩
  ·obtain⟨e,n,ne,nf,d⟩:=I.pin p hp
   exact⟨(hs.2 p.1 ne).trans e,n,ne,nf,d⟩
 ·have hfn:X.fn x=true:=by
   rcases hf with z | z
   ·exact z
   ·rw[z] at hk;cases hk
  obtain⟨c,hc⟩:=I.ok.has x (.inl hk)
  obtain⟨w',z⟩:=I.cell x c hc
  refine wpAny_storeName_cell I.ok.kind hk hc z (fun h' hc' hs=>?_)
  obtain⟨oc,hoc,hocd⟩:=id z
  refine h { s with heap:=h' } ⟨I.ok,I.os,I.bare,⟨fun b o e n hb hx=>?_,fun b o e n hb hx=>?_,I.base.free,fun b o e hx=>?_,I.base.tups,I.base.frzs,I.base.tbls⟩,⟨m,hn.sameBut hs (Ne.symm (cne x c hc)),fun j y v' e1 e2 e3=>?_⟩,fun y c' e=>?_,I.free,I.freeC,fun p hp=>?_,tracked ⟨oc,hoc,I.freeC x c hc⟩ hs,by simpa using I.len⟩ ⟨c,hs,.inr hc⟩
  ·exact(hs.2 b (Nat.ne_of_lt (Nat.lt_of_lt_of_le (Heap.lt_size e) (I.ok.cab x c hfn hc)))).trans (I.base.keep b o e n hb hx)
  ·obtain⟨sl,e1⟩:=I.base.slot b o e n hb hx
   exact⟨sl,(hs.2 b (Nat.ne_of_lt (Nat.lt_of_lt_of_le (Heap.lt_size e) (I.ok.cab x c hfn hc)))).trans e1⟩
  ·obtain⟨o',e1⟩:=I.base.there b o e hx
   exact⟨o',(hs.2 b (Nat.ne_of_lt (Nat.lt_of_lt_of_le (Heap.lt_size e) (I.ok.cab x c hfn hc)))).trans e1⟩
  ·by_cases hj:j=i
   ·subst hj
    rw[hi] at e1;cases e1;rw[List.getElem?_set_self hiσ] at e2;cases e2
    exact⟨u,r,.inr ⟨.inl hk,c,hc,hc'⟩⟩
   ·rw[List.getElem?_set_ne (Ne.symm hj)] at e2
    obtain⟨u',r',q⟩:=hl j y v' e1 e2 e3
    refine⟨u',r',?_⟩
    rcases q with q | ⟨k,c',e,z'⟩
    ·exact .inl q
    ·refine .inr ⟨k,c',e,z'.sameBut hs ?_⟩
     rintro rfl
     exact hj (OK hN e1 (I.ok.inj _ _ _ e hc▸hi))
  ·by_cases hcc:c'=c
   ·subst hcc;exact⟨_,hc'⟩
   ·obtain⟨w2,z2⟩:=I.cell y c' e
    exact⟨w2,z2.sameBut hs hcc⟩
  ·obtain⟨e,n,ne,nf,d⟩:=I.pin p hp
   refine⟨(hs.2 p.1 ?_).trans e,n,ne,nf,d⟩
   intro q;rw[q,hoc] at e
   have q':oc=p.2:=Option.some.inj e
   exact d w' (by rw[<-q'];exact hocd)
theorem RD{M:Model}{A:Around}{E:Value->Shared->Prop}{i:Nat}{x:Str}{v:V}{u:Value}{Q:Unit->Shared->Prop}(I:Inv X pins σ H s)(hN:X.N.Nodup)(hi:X.N[i]?=some x)(hx:E7 X.env.scope x)(r:RelV v u)
  (h:∀s',Inv X pins (σ.set i (some v)) H s'->Q () s') (hf:X.fn x=true\/X.env.scope.names.lookup x=some .local:=by first | exact .inl rfl | exact .inr rfl | assumption):wpAny M A (storeName X.env x u) Q E s:=
 LW I hN hi hx r (fun s' I' _=>h s' I') hf
theorem Inv.call'{s':Shared}{ch:List Addr}(I:Inv X pins σ H s)(ho:s'.os=s.os)(u:Un (OJ X.stack) ch H H' s.heap s'.heap)(hok:HOk X.prog X.w H' s'.heap)(hg:AllBare s'.gens)
  (hch:∀b∈ch,(b∈X.ex\/X.s₀.heap.objs.size<=b)/\b≠X.env.locals/\(∀x c,X.env.cells.lookup x=some c->c≠b)/\∀p∈X.pn++pins,p.1≠b):Inv X pins σ H' s':=by
 obtain⟨h',g',d',t',o'⟩:=s'
 have e:o'=s.os:=ho
 subst e
 exact I.call (g':=g') (t':=t') (d':=d') u hok hg hch
end
abbrev XK:=Value->Option Addr->Hp->Prop
abbrev St:=List (Option V)
abbrev VK:=V->Hp->Prop
abbrev TE:=St->Hp->VK->Prop
abbrev TT:=St->Hp->(Bool->Hp->Prop)->Prop
abbrev TA:=St->Hp->(List V->Hp->Prop)->Prop
structure U6 where
 nx:St->Hp->Prop
 rt:VK
 bk:St->Hp->Prop:=fun _ _=>False
 ct:St->Hp->Prop:=fun _ _=>False
abbrev TS:=U6->St->Hp->Prop
def EP(X:Cx)(pins:List (Addr×Obj))(σ:St)(Q:VK)(u:Value)(s':Shared):Prop:=∃v H',Inv X pins σ H' s'/\RelV v u/\Q v H'
def TP(X:Cx)(pins:List (Addr×Obj))(σ:St)(Q:Bool->Hp->Prop)(b:Bool)(s':Shared):Prop:=∃H',Inv X pins σ H' s'/\Q b H'
def AP(X:Cx)(pins:List (Addr×Obj))(σ:St)(Q:List V->Hp->Prop)(us:List Value)(s':Shared):Prop:=∃vs H',Inv X pins σ H' s'/\Vals vs us/\Q vs H'
def SP(X:Cx)(pins:List (Addr×Obj))(D:U6)(f:Flow)(s':Shared):Prop:=
 match f with
 | .next=>∃σ' H',Inv X pins σ' H' s'/\D.nx σ' H'
 | .brk=>∃σ' H',Inv X pins σ' H' s'/\D.bk σ' H'
 | .cont=>∃σ' H',Inv X pins σ' H' s'/\D.ct σ' H'
 | .ret u=>∃v σ' H',Inv X pins σ' H' s'/\RelV v u/\D.rt v H'
def PE(X:Cx)(e:Expr)(t:TE):Prop:=
 ∀(pins:List (Addr×Obj))(s:Shared)(σ:St)(H:Hp)(Q:VK),Inv X pins σ H s->t σ H Q->wpAny (model X.prog X.w) X.A (eval e X.env) (EP X pins σ Q) X.xe s
def PT(X:Cx)(e:Expr)(t:TT):Prop:=
 ∀(pins:List (Addr×Obj))(s:Shared)(σ:St)(H:Hp)(Q:Bool->Hp->Prop),Inv X pins σ H s->t σ H Q->wpAny (model X.prog X.w) X.A (isTrue e X.env (eval e X.env)) (TP X pins σ Q) X.xe s
def PW(X:Cx)(e:Expr)(t:TT):Prop:=
 ∀(whole:Sem Value)(pins:List (Addr×Obj))(s:Shared)(σ:St)(H:Hp)(Q:Bool->Hp->Prop),Inv X pins σ H s->t σ H Q->wpAny (model X.prog X.w) X.A (isTrue e X.env whole) (TP X pins σ Q) X.xe s
theorem PW.pt{X:Cx}{e:Expr}{t:TT}(h:PW X e t):PT X e t:=h _
def PA(X:Cx)(es:List Expr)(t:TA):Prop:=
 ∀(pos:Pos)(pins:List (Addr×Obj))(s:Shared)(σ:St)(H:Hp)(Q:List V->Hp->Prop),Inv X pins σ H s->t σ H Q->wpAny (model X.prog X.w) X.A (spliced (backTo pos (starEach es X.env))) (AP X pins σ Q) X.xe s
def PS(X:Cx)(st:Stmt)(t:TS):Prop:=
 ∀(pins:List (Addr×Obj))(s:Shared)(σ:St)(H:Hp)(D:U6),Inv X pins σ H s->t D σ H->wpAny (model X.prog X.w) X.A (exec st X.env) (SP X pins D) X.xe s
def PSs(X:Cx)(st:List Stmt)(t:TS):Prop:=
 ∀(pins:List (Addr×Obj))(s:Shared)(σ:St)(H:Hp)(D:U6),Inv X pins σ H s->t D σ H->wpAny (model X.prog X.w) X.A (execs st X.env) (SP X pins D) X.xe s
theorem YZ{α:Type}{t:Sem α}{Q Q':α->Shared->Prop}{M:Model}{A:Around}{E:Value->Shared->Prop}{s:Shared}(h:wpAny M A t Q E s)(hQ:∀a s,Q a s->Q' a s):wpAny M A t Q' E s:=wpAny_mono h hQ fun _ _ x=>x
section
variable {X:Cx}
theorem bin{a b:Expr}{ta tb:TE}(ha:PE X a ta)(hb:PE X b tb){pins:List (Addr×Obj)}{s:Shared}{σ:St}{H:Hp}{R:V->V->Hp->Prop}(I:Inv X pins σ H s)(h:ta σ H fun x H1=>tb σ H1 fun y H2=>R x y H2)
  {α:Type} {Q:α->Shared->Prop} {f:Value->Value->Sem α}
  (hf:∀v u s2 x y H2,Inv X pins σ H2 s2->RelV x v->RelV y u->R x y H2->wpAny (model X.prog X.w) X.A (f v u) Q X.xe s2) :
  wpAny (model X.prog X.w) X.A (eval a X.env) (fun v s₁=>wpAny (model X.prog X.w) X.A (eval b X.env) (fun u s₂=>wpAny (model X.prog X.w) X.A (f v u) Q X.xe s₂) X.xe s₁) X.xe s:=by
 refine YZ (ha pins s σ H _ I h) fun v s1 ⟨x,H1,I1,r1,q1⟩=>?_
 refine YZ (hb pins s1 σ H1 _ I1 q1) fun u s2 ⟨y,H2,I2,r2,q2⟩=>?_
 exact hf v u s2 x y H2 I2 r1 r2 q2
def V9(i:Nat):TE:=fun σ H Q=>∃v,σ[i]?=some (some v)/\Q v H
def tC(v:V):TE:=fun _ H Q=>Q v H
theorem FP{i:Nat}{x:Str}{pos:Pos}(hN:X.N[i]?=some x)(hv:Cf X.env.scope x)(hd:(x==("__debug__" : Str))=false:=by decide)(hcd:(x==("__classdict__" : Str))=false:=by decide):PE X (.Name x pos) (V9 i):=by
 intro pins s σ H Q I h
 obtain⟨v,e,h⟩:=h
 obtain⟨m,hn,hl⟩:=I.loc
 obtain⟨u,r,l⟩:=hl i x v hN e hv
 have fin:EP X pins σ Q u s:=⟨v,H,I,r,h⟩
 rcases l with⟨hk,hm⟩ | ⟨hk,c,hc,hcell⟩
 ·exact wpAny_Name (wpAny_loadName_local I.ok.kind hk hn hm fin) hd
 ·rcases hk with hk | hk
  ·exact wpAny_Name (wpAny_loadName_cell I.ok.kind hk hc hcell fin) hd
  ·exact wpAny_Name (wpAny_loadName_free I.ok.kind hk hc hcell fin hcd) hd
theorem FQ{i j pos}:PE X (.Constant (.int i) j pos) (tC (.int i)):=fun _ _ _ H _ I h=>wpAny_Constant_int ⟨.int i,H,I.tok _,⟨_,rfl⟩,h⟩
theorem E8{b j pos}:PE X (.Constant (.bool b) j pos) (tC (.bl b)):=fun _ _ _ H _ I h=>Constant_bool ⟨.bl b,H,I,rfl,h⟩
theorem FR{j pos}:PE X (.Constant .none j pos) (tC .non):=fun _ _ _ H _ I h=>Constant_none ⟨.non,H,I,rfl,h⟩
theorem FS{x j pos}:PE X (.Constant (.str x) j pos) (tC (.str x)):=fun _ _ _ H _ I h=>Calls.Constant_str ⟨.str x,H,I.tok _,⟨_,rfl⟩,h⟩
def Gl(X:Cx)(x:Str):Prop:=X.env.kindOf x=some .globalImplicit
theorem M5{E:Value->Shared->Prop}{pins:List (Addr×Obj)}{s:Shared}{σ:St}{H:Hp}{x:Str}{u:Value}{pos:Pos}{Q:Value->Shared->Prop}(I:Inv X pins σ H s)(hg:Gl X x)(hm:X.mg x=some u)(h:Q u s)
  (hd:(x==("__debug__" : Str))=false:=by decide):wpAny (model X.prog X.w) X.A (eval (.Name x pos) X.env) Q E s:=
 Calls.Name_function_global I.ok.kind hg (Calls.loadGlobal_global (by rw[I.ok.glob];exact I.mod.glob.keeps I.bk) hm h) hd
theorem Ua{E:Value->Shared->Prop}{pins:List (Addr×Obj)}{s:Shared}{σ:St}{H:Hp}{x:Str}{u:Value}{pos:Pos}{Q:Value->Shared->Prop}(I:Inv X pins σ H s)(hg:Gl X x)(hm:X.mg x=none)(hv:bootBuiltins x=some u)(h:Q u s)
  (hn:x≠"__name__":=by decide) (hd:(x==("__debug__" : Str))=false:=by decide):wpAny (model X.prog X.w) X.A (eval (.Name x pos) X.env) Q E s:=by
 obtain⟨mb,h1,h2⟩:=I.mod.blt
 exact Calls.Name_function_global I.ok.kind hg (Calls.loadGlobal_builtin (by rw[I.ok.glob];exact I.mod.glob.keeps I.bk) hm (by rw[I.ok.blt];exact h1.keeps I.bk) ((h2 x hn).trans hv) h) hd
theorem Hv{x:Str}{v:V}{u:Value}{pos:Pos}(hg:Gl X x)(hm:X.mg x=some u)(r:RelV v u)(hd:(x==("__debug__" : Str))=false:=by decide):PE X (.Name x pos) (tC v):=
 fun _ _ _ H _ I h=>M5 I hg hm ⟨v,H,I,r,h⟩ hd
variable {a b:Expr} {ta tb:TE} {pos:Pos}
def PC(X:Cx)(op:CmpOp)(a b:Expr)(t:TE):Prop:=
 ∀(pins:List (Addr×Obj))(s:Shared)(σ:St)(H:Hp)(Q:VK),Inv X pins σ H s->t σ H Q->
  wpAny (model X.prog X.w) X.A (eval a X.env) (fun v s₁=>wpAny (model X.prog X.w) X.A (eval b X.env) (fun u s₂=>wpAny (model X.prog X.w) X.A (compareOp op v u) (EP X pins σ Q) X.xe s₂) X.xe s₁) X.xe s
theorem K8(b:Expr){op:CmpOp}(h:op≠.In)(h2:op≠.NotIn):behindInMarks op b=false:=by
 have e1:(op==CmpOp.In)=false:=by cases op<;>first | rfl | exact absurd rfl h
 have e2:(op==CmpOp.NotIn)=false:=by cases op<;>first | rfl | exact absurd rfl h2
 cases b<;>simp[behindInMarks,e1,e2]
def Fi(ta:TE):TE:=fun σ H Q=>ta σ H fun x H1=>Q (.bl (!decide (x = .non))) H1
theorem RelV.none_iff{x:V}{v:Value}(r:RelV x v):(v==Value.none)=decide (x = .non):=by
 cases x with
 | non=>cases r;rfl
 | bl _=>cases r;rfl
 | int _=>obtain⟨t,rfl⟩:=r;rfl
 | str _=>obtain⟨t,rfl⟩:=r;rfl
 | byt _=>obtain⟨t,rfl⟩:=r;rfl
 | flt _=>obtain⟨t,rfl⟩:=r;rfl
 | ref _=>cases r;rfl
 | ty _=>cases r;rfl
theorem Hw{j pos'}(ha:PE X a ta):PC X .IsNot a (.Constant .none j pos') (Fi ta):=by
 intro pins s σ H Q I h
 refine YZ (ha pins s σ H _ I h) fun v s1 ⟨x,H1,I1,r1,q1⟩=>?_
 exact Constant_none (isnot_none_gen ⟨.bl _,H1,I1,by rw[r1.none_iff];rfl,q1⟩)
def tB(t:TE):TT:=fun σ H Q=>t σ H fun x H1=>∃c,x = .bl c/\Q c H1
theorem FT{op:CmpOp}{t:TE}(h:PC X op a b t)(h1:behindInMarks op b=false:=by first | exact K8 _ (by decide) (by decide) | rfl):PT X (.Compare a [op] [b] pos) (tB t):=by
 intro pins s σ H Q I hw
 refine wpAny_isTrue_Compare1 (YZ (h pins s σ H _ I hw) fun v s1 h1=>YZ h1 fun u s2 h2=>YZ h2 fun c s3 ⟨x,H1,I1,r1,q1⟩=>?_) h1
 obtain⟨d,rfl,q⟩:=q1
 cases r1
 exact wpAny_truthy_bool ⟨H1,I1,q⟩
theorem FU{e:Expr}{t:TE}(h:PE X e t)(he:∀whole,isTrue e X.env whole=(do let v <-whole;standAt e.pos;holding [v] (truthy v)):=by intro _;rfl):PT X e (tB t):=by
 intro pins s σ H Q I hw
 refine isTrue_plain (YZ (h pins s σ H _ I hw) fun v s1 ⟨x,H1,I1,r1,q1⟩=>?_) (he _)
 obtain⟨d,rfl,q⟩:=q1
 cases r1
 exact wpAny_truthy_bool ⟨H1,I1,q⟩
variable {tA tB':TT} {YJ:List Expr}
def E9(t u:TT):TT:=fun σ H Q=>t σ H fun c H1=>if c=true then u σ H1 Q else Q false H1
def CI(t u:TT):TT:=fun σ H Q=>t σ H fun c H1=>if c=true then Q true H1 else u σ H1 Q
theorem Hy(ha:PT X a tA):PW X (.BoolOp .And [a] pos) tA:=by
 intro wh pins s σ H Q I h
 refine isTrue_and (YZ (ha pins s σ H Q I h) fun c s1 e=>?_)
 cases c with
 | true=>exact isTrue_and_nil e
 | false=>exact e
theorem FV(ha:PT X a tA):PW X (.BoolOp .Or [a] pos) tA:=by
 intro wh pins s σ H Q I h
 refine isTrue_or (YZ (ha pins s σ H Q I h) fun c s1 e=>?_)
 cases c with
 | false=>exact isTrue_or_nil e
 | true=>exact e
theorem FW(ha:PT X a tA)(hb:PW X (.BoolOp .And (b::YJ) pos) tB'):PW X (.BoolOp .And (a::b::YJ) pos) (E9 tA tB'):=by
 intro wh pins s σ H Q I h
 refine isTrue_and (YZ (ha pins s σ H _ I h) fun c s1 ⟨H1,I1,q1⟩=>?_)
 cases c with
 | true=>exact hb wh pins s1 σ H1 Q I1 q1
 | false=>exact⟨H1,I1,q1⟩
theorem Da(ha:PT X a tA)(hb:PW X (.BoolOp .Or (b::YJ) pos) tB'):PW X (.BoolOp .Or (a::b::YJ) pos) (CI tA tB'):=by
 intro wh pins s σ H Q I h
 refine isTrue_or (YZ (ha pins s σ H _ I h) fun c s1 ⟨H1,I1,q1⟩=>?_)
 cases c with
 | true=>exact⟨H1,I1,q1⟩
 | false=>exact hb wh pins s1 σ H1 Q I1 q1
def Db(ta tb:TE):TE:=fun σ H Q=>ta σ H fun x H1=>∃c,x = .bl c/\if c=true then tb σ H1 Q else Q (.bl false) H1
theorem FX{op}{t:TE}(h:PE X a t):PE X (.BoolOp op [a] pos) t:=fun pins s σ H Q I hw=>BoolOp_one (h pins s σ H Q I hw)
theorem FY(ha:PE X a ta)(hb:PE X (.BoolOp .And (b::YJ) pos) tb):PE X (.BoolOp .And (a::b::YJ) pos) (Db ta tb):=by
 intro pins s σ H Q I h
 refine BoolOp_and (YZ (ha pins s σ H _ I h) fun v s1 ⟨x,H1,I1,r1,q1⟩=>?_)
 obtain⟨c,rfl,q1⟩:=q1
 cases r1
 refine wpAny_truthy_bool ?_
 cases c with
 | true=>exact hb pins s1 σ H1 Q I1 q1
 | false=>exact⟨.bl false,H1,I1,rfl,q1⟩
def CP(t:TT)(ta tb:TE):TE:=fun σ H Q=>t σ H fun c H1=>if c=true then ta σ H1 Q else tb σ H1 Q
theorem K9{c:Expr}(hc:PT X c tA)(ha:PE X a ta)(hb:PE X b tb):PE X (.IfExp c a b pos) (CP tA ta tb):=by
 intro pins s σ H Q I h
 refine wpAny_IfExp (YZ (hc pins s σ H _ I h) fun d s1 ⟨H1,I1,q1⟩=>?_)
 cases d with
 | true=>exact ha pins s1 σ H1 Q I1 q1
 | false=>exact hb pins s1 σ H1 Q I1 q1
end
def SqL(K:PySem.W.Frag)(H:Hp)(a:Addr)(xs:List V):Prop:=
 Rd H a (.lst xs)\/
  ∃(o:Obj) (its:Array Value) (n:Nat),K.lookup a=some o/\o.cls = .type "list"/\o.dict=none/\o.data = .seq its n/\its.size<=sizeLine/\Vals xs its.toList
def SqT(K:PySem.W.Frag)(H:Hp)(a:Addr)(xs:List V):Prop:=
 Rd H a (.tup xs)\/
  ∃(o:Obj) (its:Array Value) (n:Nat),K.lookup a=some o/\o.cls = .type "tuple"/\o.data = .seq its n/\its.size<=sizeLine/\Vals xs its.toList
def Ch:Value->Option V
 | .none=>some .non
 | .bool b=>some (.bl b)
 | .int i _=>some (.int i)
 | .str x _=>some (.str x)
 | .bytes b _=>some (.byt b)
 | .float b _=>some (.flt b)
 | .ref a=>some (.ref a)
 | .type n=>some (.ty n)
 | _=>none
theorem RelV.abs{x:V}{u:Value}(r:RelV x u):Ch u=some x:=by
 cases x with
 | non=>cases r;rfl
 | bl _=>cases r;rfl
 | int _=>obtain⟨t,rfl⟩:=r;rfl
 | str _=>obtain⟨t,rfl⟩:=r;rfl
 | byt _=>obtain⟨t,rfl⟩:=r;rfl
 | flt _=>obtain⟨t,rfl⟩:=r;rfl
 | ref _=>cases r;rfl
 | ty _=>cases r;rfl
theorem RelV.inj{x y:V}{u:Value}(r:RelV x u)(q:RelV y u):x=y:=Option.some.inj (r.abs.symm.trans q.abs)
theorem Vals.inj:∀{xs ys:List V}{us:List Value},Vals xs us->Vals ys us->xs=ys
 | _,_,_,.nil,.nil=>rfl
 | _,_,_,.cons r t,.cons r' t'=>by rw[r.inj r',Vals.inj t t']
section
variable {X:Cx} {pins:List (Addr×Obj)} {σ:St} {H:Hp} {s:Shared} {a:Addr} {xs ys:List V}
theorem SqL.of{K:PySem.W.Frag}(h:H a=some (.lst xs)):SqL K H a xs:=.inl (.inl h)
theorem SqT.of{K:PySem.W.Frag}(h:H a=some (.tup xs)):SqT K H a xs:=.inl (.inl h)
theorem Inv.list(I:Inv X pins σ H s)(h:SqL X.K H a xs):∃its:List Value,Vals xs its/\PlainL s.heap a its.toArray/\xs.length<=sizeLine:=by
 rcases h with h | ⟨o,its,n,hk,hc,hd,hs,hz,r⟩
 ·obtain⟨z,its,n,r,e⟩:=h.ok I.hok
  exact⟨its,r,⟨_,n,e,rfl,rfl,rfl⟩,z⟩
 ·refine⟨its.toList,r,⟨o,n,I.kIn a o hk,hc,hd,by simpa using hs⟩,?_⟩
  have e:=r.length;simp only[Array.length_toList] at e;omega
theorem Inv.tuple(I:Inv X pins σ H s)(h:SqT X.K H a xs):∃its:List Value,Vals xs its/\IsTup s.heap a its.toArray/\xs.length<=sizeLine:=by
 rcases h with h | ⟨o,its,n,hk,hc,hs,hz,r⟩
 ·obtain⟨z,its,r,p⟩:=h.ok I.hok
  exact⟨its,r,p,z⟩
 ·refine⟨its.toList,r,⟨o,I.kIn a o hk,hc,n,by simpa using hs⟩,?_⟩
  have e:=r.length;simp only[Array.length_toList] at e;omega
theorem Inv.list_inj(I:Inv X pins σ H s)(h:SqL X.K H a xs)(h':SqL X.K H a ys):xs=ys:=by
 obtain⟨its,r,⟨o,n,e,_,_,d⟩,_⟩:=I.list h
 obtain⟨its',r',⟨o',n',e',_,_,d'⟩,_⟩:=I.list h'
 rw[e] at e';cases e'
 rw[d] at d'
 injection d' with d1 _
 have:its=its':=by simpa using congrArg Array.toList d1
 subst this
 exact r.inj r'
theorem Inv.tuple_inj(I:Inv X pins σ H s)(h:SqT X.K H a xs)(h':SqT X.K H a ys):xs=ys:=by
 obtain⟨its,r,⟨o,e,_,n,d⟩,_⟩:=I.tuple h
 obtain⟨its',r',⟨o',e',_,n',d'⟩,_⟩:=I.tuple h'
 rw[e] at e';cases e'
 rw[d] at d'
 injection d' with d1 _
 have:its=its':=by simpa using congrArg Array.toList d1
 subst this
 exact r.inj r'
end
abbrev Cx.wish(X:Cx)(E:Value->Shared->Prop):Cx:={ X with xe:=E }
abbrev Cx.nox(X:Cx):Cx:=X.wish fun _ _=>False
theorem Cx.Ok.wish{X:Cx}(ok:X.Ok)(E:Value->Shared->Prop):(X.wish E).Ok:=
 ⟨ok.mod,ok.kind,ok.glob,ok.blt,ok.above,ok.inj,ok.has,ok.cab,ok.hd,ok.frames,ok.stk,ok.exf,ok.bs,ok.bsz,ok.noex,ok.exfs,ok.funs,ok.frf⟩
theorem Cx.Ok.unwish{X:Cx}{E:Value->Shared->Prop}(ok:(X.wish E).Ok):X.Ok:=
 ⟨ok.mod,ok.kind,ok.glob,ok.blt,ok.above,ok.inj,ok.has,ok.cab,ok.hd,ok.frames,ok.stk,ok.exf,ok.bs,ok.bsz,ok.noex,ok.exfs,ok.funs,ok.frf⟩
section
variable {X:Cx} {pins:List (Addr×Obj)} {σ:St} {H:Hp} {s:Shared} {E:Value->Shared->Prop}
theorem Inv.wish(I:Inv X pins σ H s)(E:Value->Shared->Prop):Inv (X.wish E) pins σ H s:=⟨I.ok.wish E,I.os,I.bare,I.base,I.loc,I.cell,I.free,I.freeC,I.pin,I.hok,I.len⟩
theorem Inv.unwish(I:Inv (X.wish E) pins σ H s):Inv X pins σ H s:=⟨I.ok.unwish,I.os,I.bare,I.base,I.loc,I.cell,I.free,I.freeC,I.pin,I.hok,I.len⟩
theorem SP.unwish{D:U6}{f:Flow}{s':Shared}(h:SP (X.wish E) pins D f s'):SP X pins D f s':=by
 cases f with
 | next=>obtain⟨σ',H',I,q⟩:=h;exact⟨σ',H',I.unwish,q⟩
 | brk=>obtain⟨σ',H',I,q⟩:=h;exact⟨σ',H',I.unwish,q⟩
 | cont=>obtain⟨σ',H',I,q⟩:=h;exact⟨σ',H',I.unwish,q⟩
 | ret u=>obtain⟨v,σ',H',I,r,q⟩:=h;exact⟨v,σ',H',I.unwish,r,q⟩
theorem PSs.nox{st:List Stmt}{t:TS}(h:PSs X.nox st t):PSs X st t:=fun pins s σ H D I hw=>
 wpAny_mono (h pins s σ H D (I.wish _) hw) (fun _ _ q=>q.unwish) fun _ _ z=>False.elim z
end
section
variable {X:Cx} {st:Stmt} {YJ:List Stmt} {t u:TS} {e:Expr} {te:TE} {pos:Pos}
def Fj:TS:=fun D σ H=>D.nx σ H
def Ci(t u:TS):TS:=fun D σ H=>t { D with nx:=u D } σ H
theorem Hz:PSs X [] Fj:=fun _ _ σ H _ I h=>wpAny_execs_nil ⟨σ,H,I,h⟩
theorem OL(h1:PS X st t)(h2:PSs X YJ u):PSs X (st::YJ) (Ci t u):=by
 intro pins s σ H D I h
 refine wpAny_execs_cons (YZ (h1 pins s σ H { D with nx:=u D } I h) fun f s1 q=>?_)
 cases f with
 | next=>
  obtain⟨σ',H',I',q⟩:=q
  exact h2 pins s1 σ' H' D I' q
 | ret v=>exact q
 | brk=>exact q
 | cont=>exact q
theorem HA(h1:PS X st t):PSs X [st] t:=by
 intro pins s σ H D I h
 refine wpAny_execs_cons (YZ (h1 pins s σ H D I h) fun f s1 q=>?_)
 cases f with
 | next=>exact wpAny_execs_nil q
 | ret v=>exact q
 | brk=>exact q
 | cont=>exact q
theorem Inv.quiet{pins:List (Addr×Obj)}{σ:St}{H:Hp}{s:Shared}(I:Inv X pins σ H s):interactive X.env=false:=by simp[interactive,I.ok.kind]
def OM(te:TE):TS:=fun D σ H=>te σ H fun _ H1=>D.nx σ H1
theorem Wu(he:PE X e te)(hs:swapsWith e none pos.line X.env=pure false:=by rfl):PS X (.Expr e pos) (OM te):=by
 intro pins s σ H D I h
 exact wpAny_Expr_any (YZ (he pins s σ H _ I h) fun v s1 ⟨x,H1,I1,r1,q1⟩=>⟨σ,H1,I1,q1⟩) I.quiet hs
def Cj(te:TE):TS:=fun D σ H=>te σ H D.rt
theorem RE(he:PE X e te):PS X (.Return (some e) pos) (Cj te):=by
 intro pins s σ H D I h
 exact wpAny_Return_some (YZ (he pins s σ H _ I h) fun v s1 ⟨x,H1,I1,r1,q1⟩=>⟨x,σ,H1,I1,r1,q1⟩)
def Ck(c:TT)(t u:TS):TS:=fun D σ H=>c σ H fun b H1=>if b=true then t D σ H1 else u D σ H1
theorem Dc{c:Expr}{a b:List Stmt}{tc:TT}(hc:PT X c tc)(ha:PSs X a t)(hb:PSs X b u):PS X (.If c a b pos) (Ck tc t u):=by
 intro pins s σ H D I h
 refine wpAny_If (YZ (hc pins s σ H _ I h) fun d s1 ⟨H1,I1,q1⟩=>?_)
 cases d with
 | true=>exact ha pins s1 σ H1 D I1 q1
 | false=>exact hb pins s1 σ H1 D I1 q1
end
abbrev TG:=V->St->Hp->(St->Hp->Prop)->Prop
abbrev Fk:=List V->St->Hp->(St->Hp->Prop)->Prop
def PG(X:Cx)(target:Expr)(t:TG):Prop:=
 ∀(pins:List (Addr×Obj))(s:Shared)(σ:St)(H:Hp)(v:V)(u:Value)(Q:St->Hp->Prop),Inv X pins σ H s->RelV v u->t v σ H Q->
  wpAny (model X.prog X.w) X.A (assign target X.env u) (fun _ s'=>∃σ' H',Inv X pins σ' H' s'/\Q σ' H') X.xe s
def DY(X:Cx)(ts:List Expr)(t:Fk):Prop:=
 ∀(pins:List (Addr×Obj))(s:Shared)(σ:St)(H:Hp)(vs:List V)(us:List Value)(Q:St->Hp->Prop),Inv X pins σ H s->Vals vs us->t vs σ H Q->
  wpAny (model X.prog X.w) X.A (assignInOrder ((assignEach ts X.env).map (·.2)) us) (fun _ s'=>∃σ' H',Inv X pins σ' H' s'/\Q σ' H') X.xe s
abbrev FZ:=V->V->V->Hp->(Hp->Prop)->Prop
def Dd(X:Cx)(t:FZ):Prop:=
 ∀(pins:List (Addr×Obj))(s:Shared)(σ:St)(H:Hp)(o i v:V)(ov iv u:Value)(Q:Hp->Prop),Inv X pins σ H s->RelV o ov->RelV i iv->RelV v u->t o i v H Q->
  wpAny (model X.prog X.w) X.A (setItem ov iv u) (fun _ s'=>∃H',Inv X pins σ H' s'/\Q H') X.xe s
section
variable {X:Cx} {pos:Pos}
def SM(i:Nat):TG:=fun v σ H Q=>Q (σ.set i (some v)) H
theorem Zv{i:Nat}{x:Str}(hN:X.N.Nodup)(hi:X.N[i]?=some x)(hx:E7 X.env.scope x)(hf:X.fn x=true\/X.env.scope.names.lookup x=some .local:=by first | exact .inl rfl | exact .inr rfl | assumption):PG X (.Name x pos) (SM i):=by
 intro pins s σ H v u Q I r h
 exact wpAny_assign_Name (RD I hN hi hx r (fun s' I'=>⟨_,H,I',h⟩) hf)
def De:Fk:=fun vs σ H Q=>vs=[]/\Q σ H
def Fl(t:TG)(u:Fk):Fk:=fun vs σ H Q=>∃v r,vs=v::r/\t v σ H fun σ' H'=>u r σ' H' Q
theorem Xe:DY X [] De:=by
 intro pins s σ H vs us Q I r h
 obtain⟨e,h⟩:=h
 subst e;cases r
 exact assignInOrder_nil ⟨σ,H,I,h⟩
theorem ZQ{e:Expr}{es:List Expr}{t:TG}{u:Fk}(h1:PG X e t)(h2:DY X es u)
  (hs:(assignEach (e::es) X.env).map (·.2)=assign e X.env::(assignEach es X.env).map (·.2):=by rfl):DY X (e::es) (Fl t u):=by
 intro pins s σ H vs us Q I r h
 obtain⟨v,vr,e1,h⟩:=h
 subst e1
 cases r with
 | cons r rr=>
  rw[hs]
  refine assignInOrder_cons (YZ (h1 pins s σ H _ _ _ I r h) fun _ s1 ⟨σ1,H1,I1,q1⟩=>?_)
  exact h2 pins s1 σ1 H1 _ _ Q I1 rr q1
def Dg(K:PySem.W.Frag)(n:Nat)(t:Fk):TG:=fun v σ H Q=>∃a xs,v = .ref a/\SqT K H a xs/\xs.length=n/\t xs σ H Q
theorem XM{es:List Expr}{k:Nat}{t:Fk}{n:Nat}(hc:X.calm=true)(h:DY X es t)
  (hn:(assignEach es X.env).length=n:=by rfl) (hst:(assignEach es X.env).findIdx? (·.1)=none:=by rfl):PG X (.Tuple es k pos) (Dg X.K n t):=by
 intro pins s σ H v u Q I r hw
 obtain⟨a,xs,e1,hq,hl,hw⟩:=hw
 subst e1;cases r
 obtain⟨its,rv,ht,hz⟩:=I.tuple hq
 refine assign_Tuple_tuple (I.ok.hd hc) ht (by simp[hn,<-hl,rv.length]) hst fun h' hx=>?_
 have I1:Inv X pins σ H { s with heap:=h' }:=I.kept (t':=s.toks) fun b o e=>hx b o (Nat.ne_of_lt (Heap.lt_size e)) e
 exact h pins _ σ H xs _ Q I1 (by simpa using rv) hw
def F0(to ti:TE)(t:FZ):TG:=fun v σ H Q=>to σ H fun o H1=>ti σ H1 fun i H2=>t o i v H2 fun H3=>Q σ H3
theorem RF{o i:Expr}{to ti:TE}{t:FZ}(ho:PE X o to)(hi:PE X i ti)(hs:Dd X t)
  (ha:∀v,assign (.Subscript o i pos) X.env v=(do
   let ov <-holding [v] (eval o X.env)
   let iv <-holding [v,ov] (eval i X.env)
   standAt pos
   holding [v,ov,iv] (setItem ov iv v)
   release [v,ov,iv] []):=by intro _;rfl):PG X (.Subscript o i pos) (F0 to ti t):=by
 intro pins s σ H v u Q I r h;rw[ha]
 refine wpAny_bind (wpAny_holding (YZ (ho pins s σ H _ I h) fun ov s1 ⟨x,H1,I1,r1,q1⟩=>?_))
 refine wpAny_bind (wpAny_holding (YZ (hi pins s1 σ H1 _ I1 q1) fun iv s2 ⟨y,H2,I2,r2,q2⟩=>?_))
 refine wpAny_bind (wpAny_standAt (wpAny_bind (wpAny_holding (YZ (hs pins s2 σ H2 x y v ov iv u _ I2 r1 r2 r q2) fun _ s3 ⟨H3,I3,q3⟩=>?_))))
 exact wpAny_release ⟨σ,H3,I3,q3⟩
def NM(te:TE)(g:TG):TS:=fun D σ H=>te σ H fun x H1=>g x σ H1 D.nx
theorem RG{tg e:Expr}{te:TE}{g:TG}(he:PE X e te)(hg:PG X tg g)(hs:swapsWithSole [tg] e pos.line X.env=pure false:=by rfl)(hw:swappedStores [tg] e X.env=pure none:=by rfl)
  (h1:(assignEach [tg] X.env).map (·.2)=[assign tg X.env]:=by rfl):PS X (.Assign [tg] e pos) (NM te g):=by
 intro pins s σ H D I h
 refine wpAny_Assign_stores (YZ (he pins s σ H _ I h) fun v s1 ⟨x,H1,I1,r1,q1⟩=>?_) hs hw
 rw[h1]
 exact YZ (hg pins s1 σ H1 x v _ I1 r1 q1) fun _ s2 q=>q
theorem F1{i:Nat}{x:Str}{e:Expr}{te:TE}{pos':Pos}(hN:X.N.Nodup)(hi:X.N[i]?=some x)(hx:E7 X.env.scope x)(he:PE X e te)(hs:swapsWith e (some (.Name x pos')) pos.line X.env=pure false:=by rfl)(hf:X.fn x=true\/X.env.scope.names.lookup x=some .local:=by first | exact .inl rfl | exact .inr rfl | assumption) :
  PS X (.Assign [.Name x pos'] e pos) (NM te (SM i)):=by
 intro pins s σ H D I h
 refine wpAny_Assign_Name (YZ (he pins s σ H _ I h) fun v s1 ⟨y,H1,I1,r1,q1⟩=>?_) hs
 exact RD I1 hN hi hx r1 (fun s2 I2=>⟨_,H1,I2,q1⟩) hf
end
section
variable {X:Cx} {pos:Pos}
def F2(c:TT)(tb:TS):TS:=fun D σ H=>∃W:Nat->St->Hp->Prop,(∃m,W m σ H)/\∀m σ H,W m σ H->
 c σ H fun b H1=>if b=true then ∃N:St->Hp->Prop,(∀σ' H',N σ' H'->∃m',m'<m/\W m' σ' H')/\tb { D with nx:=N,ct:=N,bk:=D.nx } σ H1 else D.nx σ H1
theorem Ja{c:Expr}{body:List Stmt}{tc:TT}{tb:TS}(hp:PassesOwn (model X.prog X.w) X.A X.env X.xe)(hc:PT X c tc)(hb:PSs X body tb):PS X (.While c body [] pos) (F2 tc tb):=by
 intro pins s σ H D I h
 obtain⟨W,⟨m0,w0⟩,turn⟩:=h
 refine wpAny_While (codeAny_whileLoop (fun n s'=>∃σ' H',Inv X pins σ' H' s'/\W n σ' H') ?_ m0 ⟨σ,H,I,w0⟩)
 rintro n s1 ⟨σ1,H1,I1,w1⟩
 refine wpAny_passesOwn hp (YZ (hc pins s1 σ1 H1 _ I1 (turn n σ1 H1 w1)) fun b s2 ⟨H2,I2,q2⟩=>?_)
 cases b with
 | true=>
  obtain⟨N,hN,q2⟩:=q2
  rw[if_pos rfl]
  refine wpAny_passesOwn hp (YZ (hb pins s2 σ1 H2 _ I2 q2) fun f s3 q3=>?_)
  cases f with
  | next=>
   obtain⟨σ3,H3,I3,n3⟩:=q3
   obtain⟨m',hm,w3⟩:=hN σ3 H3 n3
   exact⟨m',hm,σ3,H3,I3,w3⟩
  | cont=>
   obtain⟨σ3,H3,I3,n3⟩:=q3
   obtain⟨m',hm,w3⟩:=hN σ3 H3 n3
   exact⟨m',hm,σ3,H3,I3,w3⟩
  | brk=>exact q3
  | ret v=>exact q3
 | false=>
  rw[if_neg Bool.false_ne_true]
  exact wpAny_execs_nil ⟨σ1,H2,I2,q2⟩
end
structure It where
 go:Nat->Hp->Prop
 yld:Nat->Hp->V->Hp->Prop
 stop:Nat->Hp->Prop
def Tl(X:Cx)(pins:List (Addr×Obj))(H:Hp)(b:Addr):Prop:=
 H b=none/\b≠X.env.locals/\b∉X.fs/\(b∈X.ex\/X.s₀.heap.objs.size<=b)/\(∀x c,X.env.cells.lookup x=some c->c≠b)/\∀p∈X.pn++pins,p.1≠b
theorem Inv.fpOk{X:Cx}{pins:List (Addr×Obj)}{σ:St}{H H':Hp}{s:Shared}{b:Addr}(I:Inv X pins σ H s)(hb:s.heap.objs.size<=b)(hn:H' b=none):Tl X pins H' b:=by
 refine⟨hn,Nat.ne_of_gt (Nat.lt_of_lt_of_le I.lt hb),I.nofs hb,.inr (Nat.le_trans I.sz hb),fun x c e z=>?_,fun p hp z=>?_⟩
 ·obtain⟨v,q⟩:=I.cell x c e
  exact absurd (Nat.lt_of_lt_of_le q.lt (by rw[z];exact hb)) (Nat.lt_irrefl _)
 ·exact absurd (Nat.lt_of_lt_of_le (Heap.lt_size (I.pin p hp).1) (by rw[z];exact hb)) (Nat.lt_irrefl _)
structure PJ(P:Program)(w:World)(K:PySem.W.Frag)(tg:Expr)(J:It)(fp:List Addr)(it:Addr)(tn:Nat->Heap->Prop):Prop where
 mem:it∈fp
 obj:∀i h,tn i h->∀b∈fp,∃o,h.get? b=some o/\∀v,o.data≠.cell v
 keep:∀i h h',tn i h->(∀b∈fp,∀o,h.get? b=some o->h'.get? b=some o)->tn i h'
 item:∀(X:Cx),X.prog=P->X.w=w->X.K=K->X.calm=true->∀(i:Nat)(pins:List (Addr×Obj))(s:Shared)(σ:St)(H:Hp)(E:Value->Shared->Prop),Inv X pins σ H s->(∀b∈fp,Tl X pins H b)->tn i s.heap->J.go i H->
  wpAny (model P w) X.A (pyNext (.ref it)) (fun r s1=>∃u,r=some u/\
   wpAny (model P w) X.A (letOwnedTupleGo tg (.ref it) u) (fun _ s2=>∃x H',Inv X pins σ H' s2/\RelV x u/\J.yld i H x H'/\tn (i+1) s2.heap/\∀b∈fp,H' b=none) E s1) E s
 done:∀(X:Cx),X.prog=P->X.w=w->X.K=K->X.calm=true->∀(i:Nat)(pins:List (Addr×Obj))(s:Shared)(σ:St)(H:Hp)(E:Value->Shared->Prop),Inv X pins σ H s->(∀b∈fp,Tl X pins H b)->tn i s.heap->J.stop i H->
  wpAny (model P w) X.A (pyNext (.ref it)) (fun r s1=>r=none/\Inv X pins σ H s1) E s
 self:∀(A:Around)(i:Nat)(s:Shared)(Q:Value->Shared->Prop)(E:Value->Shared->Prop),tn i s.heap->Q (.ref it) s->wpAny (model P w) A (pyIter (.ref it)) Q E s
abbrev TI:=St->Hp->(It->Hp->Prop)->Prop
def DZ(X:Cx)(pins:List (Addr×Obj))(σ:St)(tg:Expr)(R:It->Hp->Prop)(itv:Value)(s2:Shared):Prop:=
 ∃(it:Addr) (fp:List Addr) (tn:Nat->Heap->Prop) (J:It) (H':Hp),itv = .ref it/\Inv X pins σ H' s2/\PJ X.prog X.w X.K tg J fp it tn/\tn 0 s2.heap/\(∀b∈fp,Tl X pins H' b)/\R J H'
def PI(X:Cx)(tg iter:Expr)(wi:TI):Prop:=
 ∀(pins:List (Addr×Obj))(s:Shared)(σ:St)(H:Hp)(R:It->Hp->Prop),Inv X pins σ H s->wi σ H R->
  wpAny (model X.prog X.w) X.A (eval iter X.env) (fun v s1=>wpAny (model X.prog X.w) X.A (pyIter v) (DZ X pins σ tg R) X.xe s1) X.xe s
theorem M6{M:Model}{A:Around}{E:Value->Shared->Prop}{s:Shared}{tg:Expr}{it:Addr}{u:Value}{o:Obj}{n:String}{vs:Array Value}{Q:Unit->Shared->Prop}(ho:s.heap.get? it=some o)(hc:o.cls = .type n)(hd:o.data = .fields vs)
    (hn:["enumerate","zip","dict_itemiterator","dict_reverseitemiterator","odict_iterator","itertools.zip_longest","itertools.pairwise"].contains n=false) (hQ:Q () s):wpAny M A (letOwnedTupleGo tg (.ref it) u) Q E s:=by
  unfold letOwnedTupleGo
  cases tg<;>first
    | exact wpAny_pure hQ
    | (cases u<;>first
        | exact wpAny_pure hQ
        | (refine wpAny_bind (wpAny_load ho ?_)
           rw[hc,hd]
           show wpAny M A (if(["enumerate","zip","dict_itemiterator","dict_reverseitemiterator","odict_iterator","itertools.zip_longest","itertools.pairwise"].contains n&&vs[0]?==some (rawInt _))=true then _ else _) Q E s
           rw[if_neg (by intro h;rw[hn,Bool.false_and] at h;cases h)]
           exact wpAny_pure hQ))
def Cl(K:PySem.W.Frag)(a:Addr):It:=
 ⟨fun i H=>∃xs x,SqL K H a xs/\xs[i]?=some x,fun i H x H'=>H'=H/\∀xs,SqL K H a xs->xs[i]?=some x,fun i H=>∃xs,SqL K H a xs/\xs.length<=i⟩
def CJ(K:PySem.W.Frag)(a:Addr):It:=
 ⟨fun i H=>∃xs x,SqT K H a xs/\xs[i]?=some x,fun i H x H'=>H'=H/\∀xs,SqT K H a xs->xs[i]?=some x,fun i H=>∃xs,SqT K H a xs/\xs.length<=i⟩
def Dh(lo:Int)(n:Nat):It:=⟨fun i _=>i<n,fun i H x H'=>H'=H/\x = .int (lo+i),fun i _=>n<=i⟩
theorem LX{P:Program}{w:World}{K:PySem.W.Frag}{tg:Expr}(a it:Addr):PJ P w K tg (Cl K a) [it] it (fun i h=>h.IsListIter it a i) where
 mem:=by simp
 obj:=fun i h st b hb=>by
  have e:b=it:=by simpa using hb
  subst e
  obtain⟨o,e,c,d⟩:=st
  exact⟨o,e,fun v z=>by rw[d] at z;cases z⟩
 keep:=fun i h h' st k=>st.at fun o e=>k it (by simp) o e
 item:=by
  intro X hP hw hK hc i pins s σ H E I hf st hg
  subst hP hw hK
  obtain⟨xs,x,hq,hx⟩:=hg
  obtain⟨its,rv,p,hz⟩:=I.list hq
  obtain⟨u,hu,ru⟩:=rv.get hx
  obtain⟨f0,f1,f2,f3,f4,f5⟩:=hf it (by simp)
  refine wpAny_pyNext_list_item st p.isList (x:=u) (by simpa using hu) fun h' st' sb=>?_
  have I1:Inv X pins σ H { s with heap:=h' }:=I.turned (t':=s.toks) (fun b o hb e=>(sb.2 b hb).trans e) f0 f1 f3 f4 f5
  obtain⟨o,e,c,d⟩:=id st'
  exact⟨u,rfl,M6 (s:={ s with heap:=h' }) e c d (by decide) ⟨x,H,I1,ru,⟨rfl,fun ys hy=>by rw[I.list_inj hy hq];exact hx⟩,st',fun b hb=>(hf b hb).1⟩⟩
 done:=by
  intro X hP hw hK hc i pins s σ H E I hf st hg
  subst hP hw hK
  obtain⟨xs,hq,hx⟩:=hg
  obtain⟨its,rv,p,hz⟩:=I.list hq
  obtain⟨f0,f1,f2,f3,f4,f5⟩:=hf it (by simp)
  have hl:=rv.length
  exact wpAny_pyNext_list_end (I.ok.hd hc) st p.isList (by simp;omega) fun h' eb=>⟨rfl,I.turned (t':=s.toks) (fun b o hb e=>eb b o hb e) f0 f1 f3 f4 f5⟩
 self:=fun _ _ _ _ _ st h=>wpAny_pyIter_listiter st h
theorem NN{P:Program}{w:World}{K:PySem.W.Frag}{tg:Expr}(a it:Addr):PJ P w K tg (CJ K a) [it] it (fun i h=>h.IsTupleIter it a i) where
 mem:=by simp
 obj:=fun i h st b hb=>by
  have e:b=it:=by simpa using hb
  subst e
  obtain⟨o,e,c,d⟩:=st
  exact⟨o,e,fun v z=>by rw[d] at z;cases z⟩
 keep:=fun i h h' st k=>st.at fun o e=>k it (by simp) o e
 item:=by
  intro X hP hw hK hc i pins s σ H E I hf st hg
  subst hP hw hK
  obtain⟨xs,x,hq,hx⟩:=hg
  obtain⟨its,rv,p,hz⟩:=I.tuple hq
  obtain⟨u,hu,ru⟩:=rv.get hx
  obtain⟨f0,f1,f2,f3,f4,f5⟩:=hf it (by simp)
  refine wpAny_pyNext_tuple_item st (show s.heap.IsTuple a its.toArray from p) (x:=u) (by simpa using hu) fun h' st' sb=>?_
  have I1:Inv X pins σ H { s with heap:=h' }:=I.turned (t':=s.toks) (fun b o hb e=>(sb.2 b hb).trans e) f0 f1 f3 f4 f5
  obtain⟨o,e,c,d⟩:=id st'
  exact⟨u,rfl,M6 (s:={ s with heap:=h' }) e c d (by decide) ⟨x,H,I1,ru,⟨rfl,fun ys hy=>by rw[I.tuple_inj hy hq];exact hx⟩,st',fun b hb=>(hf b hb).1⟩⟩
 done:=by
  intro X hP hw hK hc i pins s σ H E I hf st hg
  subst hP hw hK
  obtain⟨xs,hq,hx⟩:=hg
  obtain⟨its,rv,p,hz⟩:=I.tuple hq
  obtain⟨f0,f1,f2,f3,f4,f5⟩:=hf it (by simp)
  have hl:=rv.length
  exact wpAny_pyNext_tuple_end (I.ok.hd hc) st (show s.heap.IsTuple a its.toArray from p) (by simp;omega) fun h' eb=>⟨rfl,I.turned (t':=s.toks) (fun b o hb e=>eb b o hb e) f0 f1 f3 f4 f5⟩
 self:=fun _ _ _ _ _ st h=>wpAny_pyIter_tupleiter st h
theorem NO{P:Program}{w:World}{K:PySem.W.Frag}{tg:Expr}(it:Addr)(lo:Int)(n:Nat):PJ P w K tg (Dh lo n) [it] it (fun i h=>IsRangeIter h it (lo+(i:Nat)*1) ((n:Int)-(i:Nat)) 1) where
 mem:=by simp
 obj:=fun i h st b hb=>by
  have e:b=it:=by simpa using hb
  subst e
  exact⟨_,st,fun v z=>by
   have z':Data.fields _=Data.cell v:=z
   cases z'⟩
 keep:=fun i h h' st k=>k it (by simp) _ st
 item:=by
  intro X hP hw hK hc i pins s σ H E I hf st hg
  subst hP hw hK
  obtain⟨f0,f1,f2,f3,f4,f5⟩:=hf it (by simp)
  have W:=Walks.range (prog:=X.prog) (w:=X.w) (I.ok.hd hc) it lo 1 n
  refine W.item i s _ _ hg st fun v h' tk hv st' kk=>?_
  obtain⟨t,rfl⟩:=hv
  have I1:Inv X pins σ H { s with heap:=h',toks:=tk }:=I.turned (fun b o hb e=>kk b o (by simpa using hb) e) f0 f1 f3 f4 f5
  refine⟨_,rfl,M6 (s:={ s with heap:=h',toks:=tk }) (n:="range_iterator") st' rfl rfl (by decide) ⟨.int (lo+i),H,I1,⟨t,?_⟩,⟨rfl,rfl⟩,st',fun b hb=>(hf b hb).1⟩⟩
  rw[Int.mul_one]
 done:=by
  intro X hP hw hK hc i pins s σ H E I hf st hg
  subst hP hw hK
  obtain⟨f0,f1,f2,f3,f4,f5⟩:=hf it (by simp)
  exact wpAny_pyNext_range_end (I.ok.hd hc) st (by have:n<=i:=hg;omega) fun h' eb=>⟨rfl,I.turned (t':=s.toks) (fun b o hb e=>eb b o hb e) f0 f1 f3 f4 f5⟩
 self:=fun _ _ _ _ _ st h=>wpAny_pyIter_rangeiter st h
section
variable {X:Cx} {tg:Expr}
def Di(K:PySem.W.Frag)(tl:TE):TI:=fun σ H R=>tl σ H fun x H1=>∃a,x = .ref a/\(∃xs,SqL K H1 a xs)/\R (Cl K a) H1
def Cm(K:PySem.W.Frag)(tl:TE):TI:=fun σ H R=>tl σ H fun x H1=>∃a,x = .ref a/\(∃xs,SqT K H1 a xs)/\R (CJ K a) H1
theorem HB{l:Expr}{tl:TE}(hl:PE X l tl):PI X tg l (Di X.K tl):=by
 intro pins s σ H R I h
 refine YZ (hl pins s σ H _ I h) fun v s1 ⟨x,H1,I1,r1,q1⟩=>?_
 obtain⟨a,e,⟨xs,hq⟩,q⟩:=q1
 subst e;cases r1
 obtain⟨its,rv,p,hz⟩:=I1.list hq
 refine wpAny_pyIter_list p.isList ?_
 refine⟨s1.heap.objs.size,[s1.heap.objs.size],_,_,H1,rfl,I1.kept (t':=s1.toks) fun b o e=>Heap.get?_push_of_some _ e,LX a _,⟨_,Heap.get?_push_size _ rfl,rfl,rfl⟩,fun b hb=>?_,q⟩
 have e:b=s1.heap.objs.size:=by simpa using hb
 subst e
 exact I1.fpOk (Nat.le_refl _) (I1.hok.fresh (Nat.le_refl _))
theorem F3{l:Expr}{tl:TE}(hl:PE X l tl):PI X tg l (Cm X.K tl):=by
 intro pins s σ H R I h
 refine YZ (hl pins s σ H _ I h) fun v s1 ⟨x,H1,I1,r1,q1⟩=>?_
 obtain⟨a,e,⟨xs,hq⟩,q⟩:=q1
 subst e;cases r1
 obtain⟨its,rv,p,hz⟩:=I1.tuple hq
 refine wpAny_pyIter_tuple (show s1.heap.IsTuple a its.toArray from p) ?_
 refine⟨s1.heap.objs.size,[s1.heap.objs.size],_,_,H1,rfl,I1.kept (t':=s1.toks) fun b o e=>Heap.get?_push_of_some _ e,NN a _,⟨_,Heap.get?_push_size _ rfl,rfl,rfl⟩,fun b hb=>?_,q⟩
 have e:b=s1.heap.objs.size:=by simpa using hb
 subst e
 exact I1.fpOk (Nat.le_refl _) (I1.hok.fresh (Nat.le_refl _))
theorem ON{pins:List (Addr×Obj)}{σ:St}{H:Hp}{s:Shared}{R:It->Hp->Prop}{E:Value->Shared->Prop}{lo hi:Int}{t u v:Tok}{tk:Nat}(I:Inv X pins σ H s)(h1 : -(2^62)<=lo)(h2:lo<2^62)(h3 : -(2^62)<=hi)(h4:hi<2^62)
  (q:R (Dh lo (hi-lo).toNat) H):wpAny (model X.prog X.w) X.A (pyIter (.ref s.heap.objs.size)) (DZ X pins σ tg R) E { s with heap:=s.heap.push { cls:=.type "range",data:=.fields #[.int lo t,.int hi u,.int 1 v] },toks:=tk }:=by
 refine wpAny_pyIter_range (IsRange.new ..) (small_one h1 h2 h3 h4) ?_
 have I1:Inv X pins σ H { s with heap:=s.heap.push { cls:=.type "range",data:=.fields #[.int lo t,.int hi u,.int 1 v] },toks:=tk }:=I.kept fun b o e=>Heap.get?_push_of_some _ e
 refine⟨(s.heap.push { cls:=.type "range",data:=.fields #[.int lo t,.int hi u,.int 1 v] }).objs.size,[(s.heap.push { cls:=.type "range",data:=.fields #[.int lo t,.int hi u,.int 1 v] }).objs.size],_,_,H,rfl,
  I1.kept (t':=tk) fun b o e=>Heap.get?_push_of_some _ e,NO _ lo (hi-lo).toNat,?_,fun b hb=>?_,q⟩
 ·have e1:lo+((0:Nat):Int)*1=lo:=by simp
  have e2:(((hi-lo).toNat:Nat):Int)-((0:Nat):Int)=Builtin.Range.rangeSize lo hi 1:=by rw[rangeSize_one];split<;>omega
  show IsRangeIter _ _ (lo+((0:Nat):Int)*1) ((((hi-lo).toNat:Nat):Int)-((0:Nat):Int)) 1
  rw[e1,e2]
  exact Heap.get?_push_size _ rfl
 ·have e:b=(s.heap.push { cls:=.type "range",data:=.fields #[.int lo t,.int hi u,.int 1 v] }).objs.size:=by simpa using hb
  subst e
  exact I1.fpOk (Nat.le_refl _) (I1.hok.fresh (Nat.le_refl _))
def Dj(ta:TA):TI:=fun σ H R=>ta σ H fun vs H1=>∃j:Int,vs=[.int j]/\-(2^62)<=j/\j<2^62/\R (Dh 0 j.toNat) H1
def Dk(ta:TA):TI:=fun σ H R=>ta σ H fun vs H1=>∃i j:Int,vs=[.int i,.int j]/\(-(2^62)<=i/\i<2^62/\-(2^62)<=j/\j<2^62)/\R (Dh i (j-i).toNat) H1
theorem LY{a:Expr}{ta:TA}{p pos:Pos}(hg:Gl X "range")(hm:X.mg "range" = none)(ha:PA X [a] ta)(hs:starEach [a] X.env=[(false,eval a X.env)]:=by rfl):PI X tg (.Call (.Name "range" p) [a] [] pos) (Dj ta):=by
 intro pins s σ H R I h
 refine Call_ (Ua I hg hm boot_range (PyProof.Rows.callWith_type1 (YZ (ha pos pins s σ H _ I h) fun us s1 ⟨vs,H1,I1,r1,q1⟩=>?_) hs rfl))
 obtain⟨j,e,q1,q2,q⟩:=q1
 subst e
 cases r1 with
 | cons r rr=>
  cases rr
  obtain⟨t,rfl⟩:=r
  exact call_range_1 (ON I1 (by omega) (by omega) q1 q2 (by simpa using q))
theorem LZ{a b:Expr}{ta:TA}{p pos:Pos}(hg:Gl X "range")(hm:X.mg "range" = none)(ha:PA X [a,b] ta)(hs:starEach [a,b] X.env=[(false,eval a X.env),(false,eval b X.env)]:=by rfl)(hs2:starEach [b] X.env=[(false,eval b X.env)]:=by rfl) :
  PI X tg (.Call (.Name "range" p) [a,b] [] pos) (Dk ta):=by
 intro pins s σ H R I h
 refine Call_ (Ua I hg hm boot_range (PyProof.Rows.callWith_type1 (YZ (ha pos pins s σ H _ I h) fun us s1 ⟨vs,H1,I1,r1,q1⟩=>?_) (by rw[hs,hs2]) (by rw[hs2];rfl)))
 obtain⟨i,j,e,⟨q1,q2,q3,q4⟩,q⟩:=q1
 subst e
 cases r1 with
 | cons r rr=>
  cases rr with
  | cons r' rr=>
   cases rr
   obtain⟨t,rfl⟩:=r
   obtain⟨t',rfl⟩:=r'
   exact call_range_2 (ON I1 q1 q2 q3 q4 q)
def F4(wi:TI)(g:TG)(tb:TS):TS:=fun D σ H=>wi σ H fun J H1=>∃W:Nat->Nat->St->Hp->Prop,(∃m,W 0 m σ H1)/\∀i m σ H,W i m σ H->
 (J.stop i H/\D.nx σ H)\/(J.go i H/\∃N:St->Hp->Prop,(∀σ' H',N σ' H'->∃m',m'<m/\W (i+1) m' σ' H')/\∀x H',J.yld i H x H'->g x σ H' fun σ2 H2=>tb { D with nx:=N,ct:=N,bk:=D.nx } σ2 H2)
def TZ(fp:List Addr)(h:Heap):List (Addr×Obj):=fp.filterMap fun b=>(h.get? b).map fun o=>(b,o)
theorem Vy{fp:List Addr}{h:Heap}{b:Addr}{o:Obj}(hb:b∈fp)(e:h.get? b=some o):(b,o)∈TZ fp h:=List.mem_filterMap.mpr ⟨b,hb,by rw[e];rfl⟩
theorem L0{fp:List Addr}{h:Heap}{p:Addr×Obj}(hp:p∈TZ fp h):p.1∈fp/\h.get? p.1=some p.2:=by
 obtain⟨b,hb,e⟩:=List.mem_filterMap.mp hp
 cases q:h.get? b with
 | none=>rw[q] at e;cases e
 | some o=>
  rw[q] at e
  have e':(b,o)=p:=Option.some.inj e
  subst e'
  exact⟨hb,q⟩
theorem Inv.pinned{pins:List (Addr×Obj)}{σ:St}{H:Hp}{s:Shared}{fp:List Addr}(I:Inv X pins σ H s)(hf:∀b∈fp,Tl X pins H b)(ho:∀b∈fp,∃o,s.heap.get? b=some o/\∀v,o.data≠.cell v):Inv X (pins++TZ fp s.heap) σ H s:=
 I.pins_of fun p hp=>(List.mem_append.mp hp).elim (fun z=>I.pin p (List.mem_append_right _ z)) fun z=>by
  obtain⟨hb,e⟩:=L0 z
  obtain⟨f0,f1,f2,_⟩:=hf p.1 hb
  obtain⟨o,e',d⟩:=ho p.1 hb
  rw[e] at e';cases e'
  exact⟨e,f0,f1,f2,d⟩
theorem Inv.unpinned{pins pl:List (Addr×Obj)}{σ:St}{H:Hp}{s:Shared}(I:Inv X (pins++pl) σ H s):Inv X pins σ H s:=I.pins_of fun p hp=>I.pin p (List.mem_append_right _ (List.mem_append_left _ hp))
theorem Jb{iter:Expr}{body:List Stmt}{wi:TI}{g:TG}{tb:TS}{pos:Pos}(hp:PassesOwn (model X.prog X.w) X.A X.env X.xe)(hc:X.calm=true)(hi:PI X tg iter wi)(hg:PG X tg g)(hb:PSs X body tb)
  (hs:∀x,foldedSetIterable iter X.env x=pure x:=by intro _;rfl):PS X (.For tg iter body [] pos) (F4 wi g tb):=by
 intro pins s σ H D I h
 refine wpAny_For (YZ (hi pins s σ H _ I h) fun v s1 h1=>YZ h1 fun itv s2 h2=>?_) hs
 obtain⟨it,fp,tn,J,H2,e,I2,T,st2,f2,W,⟨m0,w0⟩,turn⟩:=h2
 subst e
 -- what stays true of the iterator's objects through the loop
 have stat:∀{H':Hp},(∀b∈fp,H' b=none)->∀b∈fp,Tl X pins H' b:=fun hn b hb=>⟨hn b hb,(f2 b hb).2⟩
 refine codeAny_forLoop_any (fun n s'=>∃i σ' H',Inv X pins σ' H' s'/\tn i s'.heap/\(∀b∈fp,H' b=none)/\W i n σ' H') ?_ m0 ⟨0,σ,H2,I2,st2,fun b hb=>(f2 b hb).1,w0⟩
 rintro n s3 ⟨i,σ3,H3,I3,st3,fr3,w3⟩
 rcases turn i n σ3 H3 w3 with⟨stop,qn⟩ | ⟨go,N,hN,step⟩
 ·refine wpAny_passesOwn hp (YZ (T.done X rfl rfl rfl hc i pins s3 σ3 H3 X.xe I3 (stat fr3) st3 stop) fun r s4 ⟨hr,I4⟩=>?_)
  subst hr
  exact wpAny_execs_nil ⟨σ3,H3,I4,qn⟩
 ·refine wpAny_passesOwn hp (YZ (T.item X rfl rfl rfl hc i pins s3 σ3 H3 X.xe I3 (stat fr3) st3 go) fun r s4 ⟨u,hr,h4⟩=>?_)
  subst hr
  refine wpAny_passesOwn hp (YZ h4 fun _ s5 ⟨x,H5,I5,r5,y5,st5,fr5⟩=>?_)
  have I5':=I5.pinned (stat fr5) (T.obj _ _ st5)
  refine wpAny_passesOwn hp (YZ (hg _ s5 σ3 H5 x u _ I5' r5 (step x H5 y5)) fun _ s6 ⟨σ6,H6,I6,q6⟩=>?_)
  refine wpAny_passesOwn hp (YZ (hb _ s6 σ6 H6 _ I6 q6) fun f s7 q7=>?_)
  have again:∀{σ7:St}{H7:Hp},Inv X (pins++TZ fp s5.heap) σ7 H7 s7->N σ7 H7->∃m,m<n/\∃i σ' H',Inv X pins σ' H' s7/\tn i s7.heap/\(∀b∈fp,H' b=none)/\W i m σ' H':=fun{σ7 H7} I7 n7=>by
   obtain⟨m',hm,w7⟩:=hN σ7 H7 n7
   refine⟨m',hm,i+1,σ7,H7,I7.unpinned,T.keep _ _ _ st5 fun b hb o e=>(I7.pin (b,o) (List.mem_append_right _ (List.mem_append_right _ (Vy hb e)))).1,fun b hb=>?_,w7⟩
   obtain⟨o,e,d⟩:=T.obj _ _ st5 b hb
   exact(I7.pin (b,o) (List.mem_append_right _ (List.mem_append_right _ (Vy hb e)))).2.1
  cases f with
  | next=>obtain⟨σ7,H7,I7,n7⟩:=q7;exact again I7 n7
  | cont=>obtain⟨σ7,H7,I7,n7⟩:=q7;exact again I7 n7
  | brk=>obtain⟨σ7,H7,I7,q7⟩:=q7;exact⟨σ7,H7,I7.unpinned,q7⟩
  | ret v=>obtain⟨x7,σ7,H7,I7,r7,q7⟩:=q7;exact⟨x7,σ7,H7,I7.unpinned,r7,q7⟩
end
abbrev R2:=V->V->Hp->VK->Prop
def Uv(X:Cx)(f:Value->Value->Sem Value)(r:R2):Prop:=
 ∀(pins:List (Addr×Obj))(s:Shared)(σ:St)(H:Hp)(x y:V)(v u:Value)(Q:VK),Inv X pins σ H s->RelV x v->RelV y u->r x y H Q->
  wpAny (model X.prog X.w) X.A (f v u) (EP X pins σ Q) X.xe s
def Cn(X:Cx)(f:Value->Sem Value)(r:V->Hp->VK->Prop):Prop:=
 ∀(pins:List (Addr×Obj))(s:Shared)(σ:St)(H:Hp)(x:V)(v:Value)(Q:VK),Inv X pins σ H s->RelV x v->r x H Q->
  wpAny (model X.prog X.w) X.A (f v) (EP X pins σ Q) X.xe s
def V2(X:Cx)(f:Value)(r:List V->Hp->VK->Prop):Prop:=
 ∀(pins:List (Addr×Obj))(s:Shared)(σ:St)(H:Hp)(xs:List V)(us:List Value)(Q:VK),Inv X pins σ H s->Vals xs us->r xs H Q->
  wpAny (model X.prog X.w) X.A (call f us) (EP X pins σ Q) X.xe s
def Co(X:Cx)(r:V->Hp->(Bool->Hp->Prop)->Prop):Prop:=
 ∀(pins:List (Addr×Obj))(s:Shared)(σ:St)(H:Hp)(x:V)(v:Value)(Q:Bool->Hp->Prop),Inv X pins σ H s->RelV x v->r x H Q->
  wpAny (model X.prog X.w) X.A (truthy v) (TP X pins σ Q) X.xe s
def Fm(r:R2)(ta tb:TE):TE:=fun σ H Q=>ta σ H fun x H1=>tb σ H1 fun y H2=>r x y H2 Q
def CQ(r:V->Hp->VK->Prop)(ta:TE):TE:=fun σ H Q=>ta σ H fun x H1=>r x H1 Q
def rI(C:Int->Int->Prop)(g:Int->Int->V):R2:=fun x y H Q=>∃i j,x = .int i/\y = .int j/\C i j/\Q (g i j) H
def Hs(g:Int->Int->V):R2:=fun x y H Q=>∃i j,x = .int i/\y = .int j/\Q (g i j) H
def rU(g:Int->V):V->Hp->VK->Prop:=fun x H Q=>∃i,x = .int i/\Q (g i) H
section
variable {X:Cx} {a b c:Expr} {ta tb tc:TE} {pos:Pos}
theorem F5(ha:PE X a ta)(hb:PE X b tb){pins:List (Addr×Obj)}{s:Shared}{σ:St}{H:Hp}{R:V->V->Hp->Prop}(I:Inv X pins σ H s)
  (h:ta σ H fun x H1=>tb σ H1 fun y H2=>R x y H2) {Q:Value->Shared->Prop} {f:Value->Value->Sem Value}
  (hf:∀v u s2 x y H2,Inv X pins σ H2 s2->RelV x v->RelV y u->R x y H2->wpAny (model X.prog X.w) X.A (f v u) Q X.xe s2) :
  wpAny (model X.prog X.w) X.A (eval a X.env) (fun v s₁=>wpAny (model X.prog X.w) X.A (eval b X.env) (fun u s₂=>wpAny (model X.prog X.w) X.A (f v u) Q X.xe s₂) X.xe s₁) X.xe s:=by
 refine YZ (ha pins s σ H _ I h) fun v s1 ⟨x,H1,I1,r1,q1⟩=>?_
 refine YZ (hb pins s1 σ H1 _ I1 q1) fun u s2 ⟨y,H2,I2,r2,q2⟩=>?_
 exact hf v u s2 x y H2 I2 r1 r2 q2
theorem Jc{op:Operator}{r:R2}(ho:Uv X (binaryOp op) r)(ha:PE X a ta)(hb:PE X b tb):PE X (.BinOp a op b pos) (Fm r ta tb):=by
 intro pins s σ H Q I h
 exact wpAny_BinOp (F5 ha hb I h fun v u s2 x y H2 I2 rx ry q=>ho pins s2 σ H2 x y v u Q I2 rx ry q)
theorem Dl{op:UnaryOp}{r:V->Hp->VK->Prop}(ho:Cn X (unaryOp op) r)(ha:PE X a ta):PE X (.UnaryOp op a pos) (CQ r ta):=by
 intro pins s σ H Q I h
 exact UnaryOp_ (YZ (ha pins s σ H _ I h) fun v s1 ⟨x,H1,I1,r1,q1⟩=>ho pins s1 σ H1 x v Q I1 r1 q1)
theorem E3{f:Value->Value->Sem Value}{C:Int->Int->Prop}{g:Int->Int->Int}
  (rule:∀(i j:Int)(t u:Tok)(s:Shared)(Q:Value->Shared->Prop)(E:Value->Shared->Prop),C i j->Q (.int (g i j) s.toks) { s with toks:=s.toks+1 }->wpAny (model X.prog X.w) X.A (f (.int i t) (.int j u)) Q E s) :
  Uv X f (rI C fun i j=>.int (g i j)):=by
 intro pins s σ H x y v u Q I rx ry h
 obtain⟨i,j,rfl,rfl,hc,q⟩:=h
 obtain⟨t,rfl⟩:=rx
 obtain⟨t',rfl⟩:=ry
 exact rule i j t t' s _ _ hc ⟨.int (g i j),H,I.tok _,⟨_,rfl⟩,q⟩
theorem Dm{f:Value->Value->Sem Value}{g:Int->Int->Int}
  (rule:∀(i j:Int)(t u:Tok)(s:Shared)(Q:Value->Shared->Prop)(E:Value->Shared->Prop),Q (.int (g i j) s.toks) { s with toks:=s.toks+1 }->wpAny (model X.prog X.w) X.A (f (.int i t) (.int j u)) Q E s) :
  Uv X f (Hs fun i j=>.int (g i j)):=by
 intro pins s σ H x y v u Q I rx ry h
 obtain⟨i,j,rfl,rfl,q⟩:=h
 obtain⟨t,rfl⟩:=rx
 obtain⟨t',rfl⟩:=ry
 exact rule i j t t' s _ _ ⟨.int (g i j),H,I.tok _,⟨_,rfl⟩,q⟩
theorem HC{f:Value->Value->Sem Value}{g:Int->Int->Bool}
  (rule:∀(i j:Int)(t u:Tok)(s:Shared)(Q:Value->Shared->Prop)(E:Value->Shared->Prop),Q (.bool (g i j)) s->wpAny (model X.prog X.w) X.A (f (.int i t) (.int j u)) Q E s) :
  Uv X f (Hs fun i j=>.bl (g i j)):=by
 intro pins s σ H x y v u Q I rx ry h
 obtain⟨i,j,rfl,rfl,q⟩:=h
 obtain⟨t,rfl⟩:=rx
 obtain⟨t',rfl⟩:=ry
 exact rule i j t t' s _ _ ⟨.bl (g i j),H,I,rfl,q⟩
def T0(i j:Int):Prop:=0<j/\j<1073741824
def Fo(i j:Int):Prop:=j≠0/\j.natAbs<1073741824
def L3(i j:Int):Prop:=0<=j/\j<=1000000/\i.natAbs<2^64
def CMul(i j:Int):Prop:=(-(2^64)<i/\i<2^64)\/(-(2^64)<j/\j<2^64)
theorem CMul.ok{i j:Int}(h:CMul i j):IntMulOk i j:=by
 rcases h with⟨h1,h2⟩ | ⟨h1,h2⟩
 ·exact .of_left (intBits_le_64 h1 h2)
 ·exact .of_right (intBits_le_64 h1 h2)
theorem F6:Uv X (binaryOp .Add) (Hs fun i j=>.int (i+j)):=Dm fun _ _ _ _ _ _ _ q=>add_int q
theorem F7:Uv X (binaryOp .Sub) (Hs fun i j=>.int (i-j)):=Dm fun _ _ _ _ _ _ _ q=>sub_int q
theorem F8:Uv X (binaryOp .Mult) (rI CMul fun i j=>.int (i*j)):=E3 fun _ _ _ _ _ _ _ hc q=>mul_int q hc.ok
theorem HD:Uv X (binaryOp .FloorDiv) (rI T0 fun i j=>.int (i/j)):=E3 fun i j _ _ _ _ _ hc q=>by
 have h1:(0:Int)<j:=hc.1
 have h2:j<1073741824:=hc.2
 exact floordiv_int (by omega) (by rw[Int.fdiv_eq_ediv_of_nonneg i (by omega)];exact q) (.inl (PyProof.noPylong_small (by omega)))
theorem F9:Uv X (binaryOp .Mod) (rI (fun _ j=>0<j) fun i j=>.int (i%j)):=E3 fun i j _ _ _ _ _ hc q=>by
 have h1:(0:Int)<j:=hc
 exact mod_int' (by omega) (by rw[Int.fmod_eq_emod_of_nonneg i (by omega)];exact q)
theorem Ea:Uv X (binaryOp .Pow) (rI L3 fun i j=>.int (i^j.toNat)):=E3 fun _ _ _ _ _ _ _ hc q=>pow_int_small hc.1 hc.2.1 hc.2.2 q
theorem CS{f:Value->Sem Value}{g:Int->Int}
  (rule:∀(i:Int)(t:Tok)(s:Shared)(Q:Value->Shared->Prop)(E:Value->Shared->Prop),Q (.int (g i) s.toks) { s with toks:=s.toks+1 }->wpAny (model X.prog X.w) X.A (f (.int i t)) Q E s) :
  Cn X f (rU fun i=>.int (g i)):=by
 intro pins s σ H x v Q I rx h
 obtain⟨i,rfl,q⟩:=h
 obtain⟨t,rfl⟩:=rx
 exact rule i t s _ _ ⟨.int (g i),H,I.tok _,⟨_,rfl⟩,q⟩
theorem Eb:Cn X (unaryOp .USub) (rU fun i=>.int (-i)):=CS fun _ _ _ _ _ q=>neg_int q
end
section
variable {X:Cx} {a b c:Expr} {ta tb tc:TE} {pos:Pos}
theorem Fp:Uv X (compareOp .Lt) (Hs fun i j=>.bl (decide (i<j))):=HC fun _ _ _ _ _ _ _ q=>lt_int q
theorem M7:Uv X (compareOp .LtE) (Hs fun i j=>.bl (decide (i<=j))):=HC fun _ _ _ _ _ _ _ q=>le_int q
theorem Fq:Uv X (compareOp .Gt) (Hs fun i j=>.bl (decide (j<i))):=HC fun _ _ _ _ _ _ _ q=>gt_int q
theorem Fs:Uv X (compareOp .GtE) (Hs fun i j=>.bl (decide (j<=i))):=HC fun _ _ _ _ _ _ _ q=>ge_int q
theorem Ub(b:Expr){op:CmpOp}(h:op≠.In:=by decide)(h2:op≠.NotIn:=by decide):behindInMarks op b=false:=by
 have e1:(op==CmpOp.In)=false:=by cases op<;>first | rfl | exact absurd rfl h
 have e2:(op==CmpOp.NotIn)=false:=by cases op<;>first | rfl | exact absurd rfl h2
 cases b<;>simp[behindInMarks,e1,e2]
theorem HE{op:CmpOp}{r:R2}(ho:Uv X (compareOp op) r)(ha:PE X a ta)(hb:PE X b tb)(hm:behindInMarks op b=false):PE X (.Compare a [op] [b] pos) (Fm r ta tb):=by
 intro pins s σ H Q I h
 exact wpAny_Compare1 (F5 ha hb I h fun v u s2 x y H2 I2 rx ry q=>ho pins s2 σ H2 x y v u Q I2 rx ry q) hm
def M8(t:TE):TT:=fun σ H Q=>t σ H fun x H'=>∃k,x = .bl k/\Q k H'
theorem HF{op:CmpOp}{r:R2}(ho:Uv X (compareOp op) r)(ha:PE X a ta)(hb:PE X b tb)(hm:behindInMarks op b=false):PT X (.Compare a [op] [b] pos) (M8 (Fm r ta tb)):=by
 intro pins s σ H Q I h
 refine wpAny_isTrue_Compare1 (YZ (ha pins s σ H _ I h) fun v s1 ⟨x,H1,I1,r1,q1⟩=>YZ (hb pins s1 σ H1 _ I1 q1) fun u s2 ⟨y,H2,I2,r2,q2⟩=>
  YZ (ho pins s2 σ H2 x y v u _ I2 r1 r2 q2) fun c s3 ⟨z,H3,I3,r3,k,e,q3⟩=>?_) hm
 subst e;cases r3
 exact wpAny_truthy_bool ⟨H3,I3,q3⟩
def Jd(r r':R2)(ta tb tc:TE):TE:=fun σ H Q=>ta σ H fun x H1=>tb σ H1 fun y H2=>r x y H2 fun z H3=>∃k,z = .bl k/\
 (if k=true then tc σ H3 fun w' H4=>r' y w' H4 Q else Q (.bl false) H3)
theorem Je{op op':CmpOp}{r r':R2}(ho:Uv X (compareOp op) r)(ho':Uv X (compareOp op') r')(ha:PE X a ta)(hb:PE X b tb)(hc:PE X c tc)
  (hm:lastMarks [op,op'] [b,c]=false:=by with_unfolding_all rfl):PE X (.Compare a [op,op'] [b,c] pos) (Jd r r' ta tb tc):=by
 intro pins s σ H Q I h
 refine Compare_chain (YZ (ha pins s σ H _ I h) fun v s1 ⟨x,H1,I1,r1,q1⟩=>chain_link (YZ (hb pins s1 σ H1 _ I1 q1) fun u s2 ⟨y,H2,I2,r2,q2⟩=>
  YZ (ho pins s2 σ H2 x y v u _ I2 r1 r2 q2) fun d s3 ⟨z,H3,I3,r3,k,e,q3⟩=>?_)) hm
 subst e;cases r3
 refine wpAny_truthy_bool ?_
 cases k with
 | false=>exact ite_ff ⟨.bl false,H3,I3,rfl,q3⟩
 | true=>exact ite_tt (chain_last (YZ (hc pins s3 σ H3 _ I3 q3) fun w' s4 ⟨z',H4,I4,r4,q4⟩=>ho' pins s4 σ H4 y z' u w' Q I4 r2 r4 q4))
def Cp(K:PySem.W.Frag)(x:V)(H:Hp)(k:Bool):Prop:=
 match x with
 | .non=>k=false
 | .bl b=>k=b
 | .int i=>k=(i != 0)
 | .str y=>y.length<=sizeLine/\k=((y.length:Int) != 0)
 | .byt y=>y.size<=sizeLine/\k=((y.size:Int) != 0)
 | .ref p=>(∃xs,SqL K H p xs/\k = !xs.isEmpty)\/(∃xs,SqT K H p xs/\k = !xs.isEmpty)\/∃kvs,H p=some (.dK kvs)/\k = !kvs.isEmpty
 | _=>False
theorem NP{κ:Type}{kvs:List (κ×V)}{vs:List (κ×Value)}(r:KV kvs vs):(!vs.isEmpty) = !kvs.isEmpty:=by
 cases r<;>rfl
theorem RH{xs:List V}{its:List Value}(r:Vals xs its):(!its.toArray.isEmpty) = !xs.isEmpty:=by
 cases r<;>simp
theorem T1:(sizeLine:Nat)<2^63:=by rw[sizeLine_eq];decide
theorem tru_ok:Co X (fun x H Q=>∃k,Cp X.K x H k/\Q k H):=by
 intro pins s σ H x v Q I rx h
 obtain⟨k,e,q⟩:=h
 have hl:=T1
 have hs:sizeLine=16777216:=sizeLine_eq
 cases x with
 | non=>
  cases rx
  have e':k=false:=e
  subst e'
  exact truthy_none ⟨H,I,q⟩
 | bl b=>
  cases rx
  have e':k=b:=e
  subst e'
  exact wpAny_truthy_bool ⟨H,I,q⟩
 | int i=>
  obtain⟨t,rfl⟩:=rx
  have e':k=(i != 0):=e
  subst e'
  exact PySem.P.truthy_int ⟨H,I,q⟩
 | str y=>
  obtain⟨t,rfl⟩:=rx
  obtain⟨hy,e'⟩:y.length<=sizeLine/\k=((y.length:Int) != 0):=e
  subst e'
  exact PySem.P.truthy_str (by omega) ⟨H,I.tok _,q⟩
 | byt y=>
  obtain⟨t,rfl⟩:=rx
  obtain⟨hy,e'⟩:y.size<=sizeLine/\k=((y.size:Int) != 0):=e
  subst e'
  exact PySem.W.truthy_bytes (by omega) ⟨H,I.tok _,q⟩
 | ref p=>
  cases rx
  have e':(∃xs,SqL X.K H p xs/\k = !xs.isEmpty)\/(∃xs,SqT X.K H p xs/\k = !xs.isEmpty)\/∃kvs,H p=some (.dK kvs)/\k = !kvs.isEmpty:=e
  rcases e' with⟨xs,hx,e'⟩ | ⟨xs,hx,e'⟩ | ⟨kvs,hx,e'⟩
  ·subst e'
   obtain⟨its,r,pl,hz⟩:=I.list hx
   have hlen:=r.length
   exact wpAny_truthy_list pl.isList (by simp only[List.size_toArray];omega) ⟨H,I.tok _,by rw[RH r];exact q⟩
  ·subst e'
   obtain⟨its,r,pl,hz⟩:=I.tuple hx
   have hlen:=r.length
   exact truthy_tuple pl (by simp only[List.size_toArray];omega) ⟨H,I.tok _,by rw[RH r];exact q⟩
  ·subst e'
   obtain⟨hz,hS,vs,r,m⟩:kvs.length<=sizeLine/\(p==sysModules)=false/\∃vs,KV kvs vs/\s.heap.DictOf (YT X.prog X.w) p vs:=I.hok p _ hx
   have hlen:kvs.length=vs.length:=Paired.length r
   exact wpAny_truthy_dict hS m (by omega) ⟨H,I.tok _,by rw[NP r];exact q⟩
 | _=>exact(show False from e).elim
theorem RI{x:V}{us:List Value}(r:Vals [x] us):∃u,us=[u]/\RelV x u:=by
 cases r with
 | cons r1 r2=>cases r2;exact⟨_,rfl,r1⟩
theorem Dn{x y:V}{us:List Value}(r:Vals [x,y] us):∃u w',us=[u,w']/\RelV x u/\RelV y w':=by
 cases r with
 | cons r1 r2=>
  cases r2 with
  | cons r3 r4=>cases r4;exact⟨_,_,rfl,r1,r3⟩
theorem T2(hc:X.calm=true):V2 X (.builtin "max") (fun xs H Q=>∃i j,xs=[.int i,.int j]/\Q (.int (if j>i then j else i)) H):=by
 intro pins s σ H xs us Q I r h
 obtain⟨i,j,rfl,q⟩:=h
 obtain⟨u,w',rfl,⟨t,rfl⟩,⟨t',rfl⟩⟩:=Dn r
 refine max_two_ints (I.ok.hd hc) fun h' tk k=>⟨_,H,I.kept k,?_,q⟩
 by_cases hj:j>i
 ·rw[if_pos hj,if_pos hj];exact⟨_,rfl⟩
 ·rw[if_neg hj,if_neg hj];exact⟨_,rfl⟩
theorem L4:V2 X (.type "int") (fun xs H Q=>(∃i,xs=[.int i]/\Q (.int i) H)\/∃k,xs=[.bl k]/\Q (.int (if k then 1 else 0)) H):=by
 intro pins s σ H xs us Q I r h
 rcases h with⟨i,rfl,q⟩ | ⟨k,rfl,q⟩
 ·obtain⟨u,rfl,t,rfl⟩:=RI r
  exact call_int_int ⟨.int i,H,I,⟨_,rfl⟩,q⟩
 ·obtain⟨u,rfl,r1⟩:=RI r
  cases r1
  exact call_int_bool ⟨.int (if k then 1 else 0),H,I.tok _,⟨_,rfl⟩,q⟩
def Dp(K:PySem.W.Frag)(x:V)(H:Hp)(n:Nat):Prop:=
 match x with
 | .str y=>y.length<=sizeLine/\n=y.length
 | .byt y=>y.size<=sizeLine/\n=y.size
 | .ref p=>(∃xs,SqL K H p xs/\n=xs.length)\/∃xs,SqT K H p xs/\n=xs.length
 | _=>False
theorem Yg:V2 X (.builtin "len") (fun xs H Q=>∃x n,xs=[x]/\Dp X.K x H n/\Q (.int n) H):=by
 intro pins s σ H xs us Q I r h
 obtain⟨x,n,rfl,e,q⟩:=h
 obtain⟨u,rfl,rx⟩:=RI r
 have hl:=T1
 have hs:sizeLine=16777216:=sizeLine_eq
 cases x with
 | str y=>
  obtain⟨t,rfl⟩:=rx
  obtain⟨hy,e'⟩:y.length<=sizeLine/\n=y.length:=e
  subst e'
  exact len_str (by omega) ⟨.int _,H,I.tok _,⟨_,rfl⟩,q⟩
 | byt y=>
  obtain⟨t,rfl⟩:=rx
  obtain⟨hy,e'⟩:y.size<=sizeLine/\n=y.size:=e
  subst e'
  exact PySem.W.len_bytes (by omega) ⟨.int _,H,I.tok _,⟨_,rfl⟩,q⟩
 | ref p=>
  cases rx
  have e':(∃xs,SqL X.K H p xs/\n=xs.length)\/∃xs,SqT X.K H p xs/\n=xs.length:=e
  rcases e' with⟨xs,hx,e'⟩ | ⟨xs,hx,e'⟩
  ·subst e'
   obtain⟨its,r',pl,hz⟩:=I.list hx
   have hlen:=r'.length
   exact Calls.call_len_list pl.isList (by simp only[List.size_toArray];omega) ⟨.int xs.length,H,I.tok _,⟨_,by simp only[List.size_toArray];rw[hlen]⟩,q⟩
  ·subst e'
   obtain⟨its,r',pl,hz⟩:=I.tuple hx
   have hlen:=r'.length
   exact len_tuple pl (by simp only[List.size_toArray];omega) ⟨.int xs.length,H,I.tok _,⟨_,by simp only[List.size_toArray];rw[hlen]⟩,q⟩
 | _=>exact(show False from e).elim
end
structure Room(k:Nat)(A:Around):Prop where
 hd:A.handled=none
 dp:A.depth+3*k+5<recursionLimit
 un:A.units+16*k+200<cLine
 gd:A.guards=some []
theorem Room.mono{j k:Nat}{A:Around}(r:Room k A)(h:j<=k):Room j A:=⟨r.hd,by have:=r.dp;omega,by have:=r.un;omega,r.gd⟩
theorem Room.deeper{k:Nat}{A:Around}(r:Room (k+1) A)(env:Env):Room k (A.deeper env):=
 ⟨r.hd,by have:=r.dp;show A.depth+1+3*k+5<_;omega,by have:=r.un;show A.units+3+16*k+200<_;omega,r.gd⟩
theorem Room.depth{k:Nat}{A:Around}(r:Room k A):A.depth<recursionLimit:=by have:=r.dp;omega
theorem Room.units{k:Nat}{A:Around}(r:Room k A):A.units+64<cLine:=by have:=r.un;omega
def NQ:TA:=fun _ H Q=>Q [] H
def Vo(ta:TE)(tr:TA):TA:=fun σ H Q=>ta σ H fun x H1=>tr σ H1 fun xs H2=>Q (x::xs) H2
section
variable {X:Cx} {e:Expr} {es:List Expr} {te:TE} {t:TA} {pos:Pos}
theorem XB:PA X [] NQ:=fun _ _ _ _ H Q I h=>Calls.spliced_nil ⟨[],H,I,.nil,h⟩
theorem Z9(ha:PE X e te)(hr:PA X es t)(hs:starEach (e::es) X.env=(false,eval e X.env)::starEach es X.env:=by rfl):PA X (e::es) (Vo te t):=by
 intro pos pins s σ H Q I h;rw[hs]
 show wpAny _ _ (spliced ((false,eval e X.env)::backTo pos (starEach es X.env))) _ _ s
 refine Calls.spliced_cons (YZ (ha pins s σ H _ I h) fun u s1 ⟨x,H1,I1,r1,q1⟩=>?_)
 exact YZ (hr pos pins s1 σ H1 _ I1 q1) fun us s2 ⟨xs,H2,I2,r2,q2⟩=>⟨x::xs,H2,I2,.cons r1 r2,q2⟩
def HG(t:TA):TE:=fun σ H Q=>t σ H fun xs H1=>xs.length<=sizeLine/\∀p,H1 p=none->Q (.ref p) (upd H1 p (.tup xs))
def Cq(t:TA):TE:=fun σ H Q=>t σ H fun xs H1=>xs.length<=sizeLine/\∀p,H1 p=none->Q (.ref p) (upd H1 p (.lst xs))
theorem U7{x1}(h:PA X es t):PE X (.Tuple es x1 pos) (HG t):=by
 intro pins s σ H Q I hq
 refine wpAny_Tuple_spliced (YZ (h pos pins s σ H _ I hq) fun us s1 ⟨xs,H1,I1,r,z,q⟩=>⟨by rw[<-r.length];exact z,?_⟩)
 have hf:H1 s1.heap.objs.size=none:=I1.hok.fresh (Nat.le_refl _)
 refine⟨.ref s1.heap.objs.size,upd H1 s1.heap.objs.size (.tup xs),I1.laid (t':=s1.toks) (fun b u e=>Heap.get?_push_of_some _ e) (Nat.le_refl _) ?_,rfl,q _ hf⟩
 exact⟨z,us,r,⟨_,Heap.get?_push_size _ rfl,rfl,_,rfl⟩⟩
theorem Jf(h:PA X es t):PE X (.List es pos) (Cq t):=by
 intro pins s σ H Q I hq
 refine wpAny_List_spliced (YZ (h pos pins s σ H _ I hq) fun us s1 ⟨xs,H1,I1,r,z,q⟩=>⟨by rw[<-r.length];exact z,?_⟩)
 have hf:H1 s1.heap.objs.size=none:=I1.hok.fresh (Nat.le_refl _)
 refine⟨.ref s1.heap.objs.size,upd H1 s1.heap.objs.size (.lst xs),I1.laid (t':=s1.toks) (fun b u e=>Heap.get?_push_of_some _ e) (Nat.le_refl _) ?_,rfl,q _ hf⟩
 exact⟨z,us,0,r,Heap.get?_push_size _ rfl⟩
end
abbrev Sp:=List V->Hp->VK->XK->Prop
abbrev HH:=List Env->Hp->Shared->XK->Value->Shared->Prop
structure HI(P:Program)(w:World)(K:PySem.W.Frag)(mg:Str->Option Value)(base:Heap)(A:Around)(outer:List Env)(s:Shared)(H:Hp):Prop where
 frames:A.frames=some outer
 mod:Mod K mg base
 bs:∀b o,base.get? b=some o->s.heap.get? b=some o/\H b=none
 bsz:base.objs.size<=s.heap.objs.size
 funs:s.heap.FunFrames base outer
 frf:∀b∈OJ outer,H b=none
 hok:HOk P w H s.heap
 bare:AllBare s.gens
def CE(outer:List Env)(P:Program)(w:World)(H:Hp)(s:Shared)(Q:VK)(u:Value)(s':Shared):Prop:=
 ∃v H',s'.os=s.os/\AllBare s'.gens/\Un (OJ outer) [] H H' s.heap s'.heap/\HOk P w H' s'.heap/\RelV v u/\Q v H'
def CR(CX:HH)(outer:List Env)(P:Program)(w:World)(H:Hp)(s:Shared)(Q:VK)(E:XK)(r:Result)(s':Shared):Prop:=
 match r with
 | .ok (.ret u)=>CE outer P w H s Q u s'
 | .ok _=>False
 | .error e=>CX outer H s E e s'
structure SX(P:Program)(w:World)(K:PySem.W.Frag)(mg:Str->Option Value)(base:Heap)(CX:HH)(k:Nat)(f:Addr)(fd:FuncData)(ps:List Str)(sp:Sp):Prop where
 len:∀vs H Q E,sp vs H Q E->vs.length=ps.length
 run:∀(A:Around)(outer:List Env)(s:Shared)(H:Hp)(args:Args)(us:List Value)(vs:List V)(Q:VK)(E:XK),Room k A->HI P w K mg base A outer s H->BindsTo s fd args (ps.zip us)->Vals vs us->sp vs H Q E->
  codeAny (model P w) A (.call (.ref f) args) (CR CX outer P w H s Q E) s
section
variable {X:Cx} {pins:List (Addr×Obj)} {σ:St} {H:Hp} {s s':Shared}
theorem Inv.env0(I:Inv X pins σ H s):HI X.prog X.w X.K X.mg X.base X.A X.stack s H:=
 ⟨I.ok.frames,I.ok.mod,I.bs,Nat.le_trans I.ok.bsz I.sz,I.stack,I.stkFree,I.hok,I.bare⟩
theorem Inv.after{Q:VK}{u:Value}(I:Inv X pins σ H s)(h:CE X.stack X.prog X.w H s Q u s'):EP X pins σ Q u s':=by
 obtain⟨v,H',os,bare,un,hok,r,q⟩:=h
 obtain⟨hh,g,d,t,os'⟩:=s'
 obtain rfl:os'=s.os:=os
 exact⟨v,H',I.call (h':=hh) (g':=g) (d':=d) (t':=t) (ch:=[]) un hok bare (fun b z=>absurd z (by simp)),r,q⟩
end
def Ft(sp:Sp)(dvs:List V)(E:XK)(t:TA):TE:=fun σ H Q=>t σ H fun vs H1=>sp (vs++dvs) H1 Q E
def Binds(K:PySem.W.Frag)(fd:FuncData)(ps:List Str)(ds:List Value):Prop:=
 ∀(s:Shared)(us:List Value),K.In s.heap->(us++ds).length=ps.length->BindsTo s fd ⟨us,[]⟩ (ps.zip (us++ds))
theorem Binds.all{K:PySem.W.Frag}{fd:FuncData}{ps:List Str}(h:∀us:List Value,us.length=ps.length->bindArgs fd ⟨us,[]⟩=pure (ps.zip us)):Binds K fd ps []:=fun s us _ hl=>by
 rw[List.append_nil] at hl ⊢
 exact .of_eq (h us hl)
def NR(CX:HH)(X:Cx)(E:XK):Prop:=∀(pins:List (Addr×Obj))(σ:St)(H:Hp)(s:Shared)(e:Value)(s':Shared),Inv X pins σ H s->CX X.stack H s E e s'->X.xe e s'
section
variable {X:Cx} {CX:HH} {k:Nat} {f C:Addr} {fd:FuncData} {ps:List Str} {sp:Sp} {dvs:List V} {ds:List Value} {E:XK} {x m:Str} {p pos apos:Pos} {e o:Expr} {es:List Expr} {ta:TE} {t:TA}
theorem Ec{pins:List (Addr×Obj)}{σ:St}{H:Hp}{s:Shared}{Q:VK}{us:List Value}{vs:List V}(F:SX X.prog X.w X.K X.mg X.base CX k f fd ps sp)(hr:Room k X.A)(hb:Binds X.K fd ps ds)(hd:Vals dvs ds)(hx:NR CX X E)
  (I:Inv X pins σ H s) (r:Vals vs us) (h:sp (vs++dvs) H Q E):wpAny (model X.prog X.w) X.A (call (.ref f) us) (EP X pins σ Q) X.xe s:=by
 have r2:Vals (vs++dvs) (us++ds):=r.append hd
 have hl:(us++ds).length=ps.length:=by rw[<-r2.length];exact F.len _ _ _ _ h
 refine wpAny_call (codeAny_mono (F.run X.A X.stack s H ⟨us,[]⟩ (us++ds) (vs++dvs) Q E hr I.env0 (hb s us I.kIn hl) r2 h) fun r s' hq=>?_)
 cases r with
 | error e=>exact hx pins σ H s e s' I hq
 | ok fl=>
  cases fl with
  | ret u=>exact I.after hq
  | next=>exact False.elim hq
  | brk=>exact False.elim hq
  | cont=>exact False.elim hq
theorem HJ(F:SX X.prog X.w X.K X.mg X.base CX k f fd ps sp)(hr:Room k X.A)(hg:Gl X x)(hm:X.mg x=some (.ref f))(hk:PySem.W.keepIn X.K (.ref f)=true)(hb:Binds X.K fd ps ds)(hd:Vals dvs ds)(hx:NR CX X E)
  (ha:PA X (e::es) t) (hdb:(x==("__debug__" : Str))=false:=by decide) (he:starEach (e::es) X.env=(false,eval e X.env)::starEach es X.env:=by rfl) (hpl:(backTo pos (starEach es X.env)).any (·.1)=false:=by rfl) :
  PE X (.Call (.Name x p) (e::es) [] pos) (Ft sp dvs E t):=by
 intro pins s σ H Q I h
 refine wpAny_Call_Name_kw (M5 I hg hm ?_ hdb)
 refine PySem.W.callWith_K (h₀:=X.base) I.ok.mod.kin hk (YZ (ha pos pins s σ H _ I h) fun us s1 ⟨vs,H1,I1,r,q⟩=>⟨I1.kIn,?_⟩) he hpl
 exact Ec F hr hb hd hx I1 r q
end
structure ZH(N P:List Str)(sc:Scope):Prop where
 kind:sc.kind = .function
 co:sc.isCoroutine=false
 gen:sc.isGenerator=false
 nd:N.Nodup
 pre:N.take P.length=P
 par:∀x∈P,sc.names.lookup x=some .local\/sc.names.lookup x=some .cell
 nofree:∀y∈sc.names,y.2≠.free
theorem Q0{kindOf:Str->Option NameKind}{x:Str}:∀{binds:List (Str×Value)}{m:Str->Option Value},(∀v,(x,v)∉binds)->bindL kindOf binds m x=m x
 | [],_,_=>rfl
 | (n,v)::r,m,h=>by
  unfold bindL;rw[Q0 fun w hw=>h w (List.mem_cons_of_mem _ hw)]
  split
  ·have:x≠n:=by rintro rfl;exact h v List.mem_cons_self
   simp[this]
  ·rfl
theorem Q1{kindOf:Str->Option NameKind}{x:Str}:∀{binds:List (Str×Value)}{m:Str->Option Value},(∀v,(x,v)∉binds)->bindC kindOf binds m x=m x
 | [],_,_=>rfl
 | (n,v)::r,m,h=>by
  unfold bindC;rw[Q1 fun w hw=>h w (List.mem_cons_of_mem _ hw)]
  split
  ·rfl
  ·have:x≠n:=by rintro rfl;exact h v List.mem_cons_self
   simp[this]
theorem Q2{kindOf:Str->Option NameKind}{x:Str}{v:Value}:∀{P:List Str}{vs:List Value}{i:Nat}{m:Str->Option Value},P.Nodup->P[i]?=some x->vs[i]?=some v->kindOf x=some .local->
  bindL kindOf (P.zip vs) m x=some v
 | [],_,_,_,_,h,_,_=>by simp at h
 | _::_,[],_,_,_,_,h,_=>by simp at h
 | p::P,w::vs,0,m,nd,h1,h2,hk=>by
  simp at h1 h2;subst h1;subst h2
  show bindL kindOf ((p,w)::P.zip vs) m p=_
  unfold bindL;rw[Q0 fun v hv=>(List.nodup_cons.mp nd).1 (List.of_mem_zip hv).1,if_pos hk]
  simp
 | p::P,w::vs,i+1,m,nd,h1,h2,hk=>by
  show bindL kindOf ((p,w)::P.zip vs) m x=_
  unfold bindL
  exact Q2 (i:=i) (List.nodup_cons.mp nd).2 (by simpa using h1) (by simpa using h2) hk
theorem Q3{kindOf:Str->Option NameKind}{x:Str}{v:Value}:∀{P:List Str}{vs:List Value}{i:Nat}{m:Str->Option Value},P.Nodup->P[i]?=some x->vs[i]?=some v->kindOf x≠some .local->
  bindC kindOf (P.zip vs) m x=some v
 | [],_,_,_,_,h,_,_=>by simp at h
 | _::_,[],_,_,_,_,h,_=>by simp at h
 | p::P,w::vs,0,m,nd,h1,h2,hk=>by
  simp at h1 h2;subst h1;subst h2
  show bindC kindOf ((p,w)::P.zip vs) m p=_
  unfold bindC;rw[Q1 fun v hv=>(List.nodup_cons.mp nd).1 (List.of_mem_zip hv).1,if_neg hk]
  simp
 | p::P,w::vs,i+1,m,nd,h1,h2,hk=>by
  show bindC kindOf ((p,w)::P.zip vs) m x=_
  unfold bindC
  exact Q3 (i:=i) (List.nodup_cons.mp nd).2 (by simpa using h1) (by simpa using h2) hk
def start(N:List Str)(vs:List V):St:=vs.map some++List.replicate (N.length-vs.length) none
def QP(CX:HH)(P:Program)(w:World)(K:PySem.W.Frag)(mg:Str->Option Value)(base:Heap)(N:List Str)(qual:Str)(scope:Scope)(f:Addr)(cd:Value)(A:Around)(outer:List Env)(s:Shared)(H:Hp)(E:XK):Cx where
 prog:=P
 w:=w
 K:=K
 mg:=mg
 base:=base
 A:=A.deeper (envOfC qual scope s.heap.objs.size f cd)
 N:=N
 s₀:=s
 H₀:=H
 env:=envOfC qual scope s.heap.objs.size f cd
 outer:=outer
 stack:=envOfC qual scope s.heap.objs.size f cd::outer
 ex:=[]
 calm:=true
 fn:=fun _=>true
 pn:=[]
 xe:=fun e s'=>wpAny (model P w) (A.deeper (envOfC qual scope s.heap.objs.size f cd)) (leaving (envOfC qual scope s.heap.objs.size f cd) e) (fun _ s''=>CX outer H s E e s'') (fun e' s''=>CX outer H s E e' s'') s'
theorem OO{sc:Scope}{n:Nat}{x:Str}(h:sc.names.lookup x=some .cell):∃c,(cellsFrom n sc.names []).lookup x=some c:=by
 have q:=PySem.W.cellsFrom_some sc.names n [] (.inl h)
 exact Option.isSome_iff_exists.mp q
theorem L5{CX:HH}{P:Program}{w:World}{K:PySem.W.Frag}{mg:Str->Option Value}{base:Heap}{N ps:List Str}{qual:Str}{scope:Scope}{f:Addr}{cd:Value}{A:Around}{outer:List Env}{s s1:Shared}{H:Hp}{E:XK}{us:List Value}{vs:List V}
  (S:ZH N ps scope) (hd:A.handled=none) (e0:HI P w K mg base A outer s H) (hl:vs.length=ps.length) (r:Vals vs us)
  (x:InCallC s s.heap.objs.size (bindL (envOfC qual scope s.heap.objs.size f cd).kindOf (ps.zip us) fun _=>none) (cellsFrom (s.heap.objs.size+1) scope.names []) (bindC (envOfC qual scope s.heap.objs.size f cd).kindOf (ps.zip us) fun _=>none) s1) :
  Inv (QP CX P w K mg base N qual scope f cd A outer s H E) [] (start N vs) H s1:=by
 have hpl:ps.length<=N.length:=by have:=congrArg List.length S.pre;rw[List.length_take] at this;omega
 obtain⟨h1,tk,rfl,hk⟩:=x.done
 have noA:∀b:Addr,b∉(QP CX P w K mg base N qual scope f cd A outer s H E).ex:=fun b z=>absurd (show b∈([]:List Addr) from z) (by simp)
 refine⟨⟨e0.mod,S.kind,rfl,rfl,Nat.le_refl _,fun y z c h1 h2=>?_,fun y hy=>?_,fun y c _ h=>?_,fun _=>hd,Around.frames_deeper e0.frames,.inr ⟨rfl,rfl⟩,fun b z=>absurd z (noA b),e0.bs,e0.bsz,fun b _ _=>noA b,fun b z=>absurd z (noA b),e0.funs,e0.frf⟩,
  rfl,e0.bare,Un.kept hk,⟨_,x.toInCall.ns,fun i y v h1 h2 h3=>?_⟩,fun y c h=>⟨_,x.cell y c h⟩,e0.hok.fresh (Nat.le_refl _),fun y c h=>?_,fun p hp=>absurd (show p∈([]:List (Addr×Obj)) from hp) (by simp),e0.hok.kept hk,?_⟩
 ·exact name_of_addr x.apart (PySem.mem_of_lookup h1) (PySem.mem_of_lookup h2)
 ·have hy:scope.names.lookup y=some .cell\/scope.names.lookup y=some .free:=hy
  rcases hy with hy | hy
  ·exact OO hy
  ·exact absurd rfl (S.nofree _ (PySem.mem_of_lookup hy))
 ·exact Nat.le_of_lt (x.above y c (PySem.mem_of_lookup h))
 ·have hi:i<vs.length:=by
   unfold start at h2
   by_cases hi:i<vs.length
   ·exact hi
   ·rw[List.getElem?_append_right (by simpa using hi)] at h2
    rw[List.getElem?_replicate] at h2
    split at h2<;>cases h2
  have ha:vs[i]?=some v:=by
   unfold start at h2;rw[List.getElem?_append_left (by simpa using hi),List.getElem?_map] at h2
   cases e:vs[i]? with
   | none=>rw[e] at h2;cases h2
   | some a=>rw[e] at h2;cases h2;rfl
  obtain⟨u,hu,rv⟩:=r.get ha
  have hp:ps[i]?=some y:=by
   rw[<-S.pre,List.getElem?_take_of_lt (by omega)];exact h1
  have ndP:ps.Nodup:=by rw[<-S.pre];exact S.nd.sublist (List.take_sublist _ _)
  refine⟨u,rv,?_⟩
  rcases S.par y (List.mem_of_getElem? hp) with k | k
  ·exact .inl ⟨k,Q2 ndP hp hu k⟩
  ·obtain⟨c,e⟩:=OO (n:=s.heap.objs.size+1) k
   refine .inr ⟨.inl k,c,e,?_⟩
   have q:=x.cell y c e
   rw[Q3 ndP hp hu (by show scope.names.lookup y≠_;rw[k];decide)] at q
   exact q
 ·exact e0.hok.fresh (Nat.le_of_lt (x.above y c (PySem.mem_of_lookup h)))
 ·unfold start
  show _=N.length
  rw[List.length_append,List.length_map,List.length_replicate];omega
theorem Dq{CX:HH}{P:Program}{w:World}{K:PySem.W.Frag}{mg:Str->Option Value}{base:Heap}{k:Nat}{f:Addr}{name qual:Str}{params:Arguments}{body:List Stmt}{scope:Scope}{dV kV doc pm cdv ct oc:Value}{an od:Option Addr}
  {osl:Array (Option Value)} {N ps:List Str} {sp:Sp} (lk:K.lookup f=some ⟨oc,od,.func (PySem.W.fnOf name qual params body scope dV kV doc pm an cdv ct),osl⟩) (hcd:PySem.W.codeIn K cdv qual=true) (S:ZH N ps scope)
  (len:∀vs H Q E,sp vs H Q E->vs.length=ps.length)
  (hbody:∀(A:Around)(outer:List Env)(s:Shared)(H:Hp)(vs:List V)(Q:VK)(E:XK),Room k (A.deeper (envOfC qual scope s.heap.objs.size f cdv))->sp vs H Q E->
   ∃t,PSs (QP CX P w K mg base N qual scope f cdv A outer s H E) body t/\t { nx:=fun _ H'=>Q .non H',rt:=Q } (start N vs) H) :
  SX P w K mg base CX (k+1) f (PySem.W.fnOf name qual params body scope dV kV doc pm an cdv ct) ps sp:=by
 refine⟨len,fun A outer s H args us vs Q E hr e0 hb r hsp=>?_⟩
 have hl:=len _ _ _ _ hsp
 have KX:K.In s.heap:=e0.mod.kin.keeps fun b o e=>(e0.bs b o e).1
 have lim:s.heap.NoLimit:=e0.mod.nolimit.keeps fun b o e=>(e0.bs b o e).1
 have hkind:∀y∈ps.zip us,scope.names.lookup y.1=some .local\/(scope.names.lookup y.1=some .cell/\((cellsFrom (s.heap.objs.size+1) scope.names []).lookup y.1).isSome=true):=fun⟨n,v⟩ hy=>by
  rcases S.par n (List.of_mem_zip hy).1 with q | q
  ·exact .inl q
  ·exact .inr ⟨q,PySem.W.cellsFrom_some _ _ _ (.inl q)⟩
 refine codeAny_call_function hr.depth (KX _ _ lk) rfl S.co S.gen rfl (PySem.W.codeRec_of KX hcd) (hb _ _ _ _ ?_)
 refine wpAny_newFunctionEnv_cells S.kind hkind fun env he s1 x=>?_
 subst he
 refine⟨lim.keeps x.toInCall.keep,codeAny_func ?_⟩
 obtain⟨t,ht,hq⟩:=hbody A outer s H vs Q E (hr.deeper _) hsp
 have I:Inv (QP CX P w K mg base N qual scope f cdv A outer s H E) [] (start N vs) H s1:=L5 S hr.hd e0 hl r x
 refine wpAny_mono (ht [] s1 (start N vs) H _ I hq) (fun fl s' hs=>?_) fun e s' hs=>hs
 have fin:∀{σ':St}{H':Hp}{v:V}{u:Value},Inv (QP CX P w K mg base N qual scope f cdv A outer s H E) [] σ' H' s'->RelV v u->Q v H'->CE outer P w H s Q u s':=
  fun{σ' H' v u} J rv q=>⟨v,H',J.os,J.bare,J.base,J.hok,rv,q⟩
 cases fl with
 | ret u=>
  obtain⟨v,σ',H',J,rv,q⟩:=hs
  exact fin J rv q
 | next=>
  obtain⟨σ',H',J,q⟩:=hs
  exact fin (v:=V.non) (u:=Value.none) J rfl q
 | brk=>
  obtain⟨_,_,_,q⟩:=hs
  exact False.elim q
 | cont=>
  obtain⟨_,_,_,q⟩:=hs
  exact False.elim q
section
variable {X:Cx} {x:Str} {p pos:Pos} {e:Expr} {es:List Expr} {t:TA} {id T:String} {r:List V->Hp->VK->Prop}
def D3(r:List V->Hp->VK->Prop)(t:TA):TE:=fun σ H Q=>t σ H fun vs H1=>r vs H1 Q
theorem Jg(hc:V2 X (.builtin id) r)(hg:Gl X x)(hm:X.mg x=none)(hv:bootBuiltins x=some (.builtin id))(ha:PA X (e::es) t)(hn:x≠"__name__":=by decide)(hdb:(x==("__debug__" : Str))=false:=by decide)
  (he:starEach (e::es) X.env=(false,eval e X.env)::starEach es X.env:=by rfl) (hpl:(backTo pos (starEach es X.env)).any (·.1)=false:=by rfl):PE X (.Call (.Name x p) (e::es) [] pos) (D3 r t):=by
 intro pins s σ H Q I h
 refine wpAny_Call_Name_kw (Ua I hg hm hv ?_ hn hdb)
 exact PyProof.Rows.callWith_builtin1 (YZ (ha pos pins s σ H _ I h) fun us s1 ⟨vs,H1,I1,r1,q1⟩=>hc pins s1 σ H1 vs us Q I1 r1 q1) he hpl
theorem Q4(hc:V2 X (.type T) r)(hg:Gl X x)(hm:X.mg x=none)(hv:bootBuiltins x=some (.type T))(ha:PA X (e::es) t)(hn:x≠"__name__":=by decide)(hdb:(x==("__debug__" : Str))=false:=by decide)
  (he:starEach (e::es) X.env=(false,eval e X.env)::starEach es X.env:=by rfl) (hpl:(backTo pos (starEach es X.env)).any (·.1)=false:=by rfl):PE X (.Call (.Name x p) (e::es) [] pos) (D3 r t):=by
 intro pins s σ H Q I h
 refine wpAny_Call_Name_kw (Ua I hg hm hv ?_ hn hdb)
 exact PyProof.Rows.callWith_type1 (YZ (ha pos pins s σ H _ I h) fun us s1 ⟨vs,H1,I1,r1,q1⟩=>hc pins s1 σ H1 vs us Q I1 r1 q1) he hpl
end
end L2
namespace HT
open PySem PyProof.Rows
section
variable {prog:Program} {w:World} {A:Around} {E:Value->Shared->Prop} {s:Shared}
theorem cat_tup{t b:Addr}{vs ws:List Value}{Q:Value->Shared->Prop}(ht:IsTup s.heap t vs.toArray)(hb:IsTup s.heap b ws.toArray)(hv:vs≠[])
  (h1:ws=[]->Q (.ref t) s) (h2:ws≠[]->Q (.ref s.heap.objs.size) { s with heap:=s.heap.push { cls:=.type "tuple",data:=.seq (vs++ws).toArray } })
  (hsz:vs.length+ws.length<=sizeLine):wpAny (model prog w) A (binaryOp .Add (.ref t) (.ref b)) Q E s:=by
 obtain⟨⟨cls,dd,data,sl⟩,ho,hc,n,hd⟩:=id ht
 obtain⟨⟨cls2,dd2,data2,sl2⟩,ho2,hc2,n2,hd2⟩:=id hb
 simp only at hc hd hc2 hd2
 subst hc hd hc2 hd2
 have e:vs.toArray++ws.toArray=(vs++ws).toArray:=by simp
 by_cases hw:ws=[]
 ·exact concat_meets ⟨_,ho,rfl⟩ ⟨_,ho2,rfl⟩ noFill_tuple_add seq_tuple_add PySem.F.slot_tuple_add PySem.F.entry_tuple_add (PySem.F.args_tuple_add_2 _ _)
   (tuple_addW1 t b vs.toArray ws.toArray n n2 dd dd2 sl sl2 (by simpa using hv) (by simp[hw])) ⟨ho,ho2,h1 hw⟩
 ·refine concat_meets ⟨_,ho,rfl⟩ ⟨_,ho2,rfl⟩ noFill_tuple_add seq_tuple_add PySem.F.slot_tuple_add PySem.F.entry_tuple_add (PySem.F.args_tuple_add_2 _ _)
   (tuple_addW2 t b vs.toArray ws.toArray n n2 dd dd2 sl sl2 (by simpa using hv) (by simpa using hw) (by rw[List.size_toArray,List.size_toArray];exact hsz)) ⟨ho,ho2,?_⟩
  rw[e]
  exact h2 hw
def sIx(n d:Nat):Option Int->Nat
 | none=>d
 | some v=>if v<0 then(v+(n:Int)).toNat else min v.toNat n
theorem sIx_none(n d:Nat):sIx n d none=d:=rfl
theorem sIx_nat(n d k:Nat):sIx n d (some (k:Int))=min k n:=by
 show(if(k:Int)<0 then((k:Int)+(n:Int)).toNat else min (k:Int).toNat n)=min k n
 rw[if_neg (by omega),Int.toNat_natCast]
theorem Ed(n d:Nat)(hd:d<=n)(o:Option Int):sIx n d o<=n:=by
 cases o with
 | none=>exact hd
 | some v=>
  show(if v<0 then(v+(n:Int)).toNat else min v.toNat n)<=n
  by_cases hv:v<0
  ·rw[if_pos hv];omega
  ·rw[if_neg hv];exact Nat.min_le_right _ _
theorem M9(v:Int)(n d:Nat):(if v<0 then max (v+(n:Int)) 0 else min v (n:Int))=((sIx n d (some v):Nat):Int):=by
 show(if v<0 then max (v+(n:Int)) 0 else min v (n:Int))=(((if v<0 then(v+(n:Int)).toNat else min v.toNat n):Nat):Int)
 by_cases hv:v<0
 ·simp only[if_pos hv];omega
 ·simp only[if_neg hv];omega
theorem NS(lo hi:Option Int)(n:Nat):Builtin.Slice.sliceAdjust lo hi 1 (n:Int)=(((sIx n 0 lo:Nat):Int),((sIx n n hi:Nat):Int)):=by
 have h1:¬((1:Int)<0):=by omega
 unfold Builtin.Slice.sliceAdjust;simp only[h1,if_false]
 refine Prod.ext ?_ ?_
 ·cases lo with
  | none=>rfl
  | some v=>exact M9 v n 0
 ·cases hi with
  | none=>rfl
  | some v=>exact M9 v n n
theorem NT(i j:Nat):Builtin.Slice.slicePlaces (i:Int) (j:Int) 1=j-i:=by
 unfold Builtin.Slice.slicePlaces
 have h1:(1:Int)>0:=by omega
 simp only[h1,if_true,Int.ediv_one]
 split<;>omega
theorem RJ{v:Value}{o:Option Int}{Q:Option Int->Shared->Prop}(p:IsPart v o)(h:Q o s):wpAny (model prog w) A (Builtin.Slice.slicePartIndex v) Q E s:=by
 cases p with
 | none=>exact slicePart_none h
 | int i t=>exact slicePart_int h
theorem T3{sl:Addr}{vl vu:Value}{lo hi:Option Int}{n:Nat}{Q:Int×Int×Nat->Shared->Prop}(hs:s.heap.IsSliceOf sl vl vu .none)(pl:IsPart vl lo)(pu:IsPart vu hi)
  (h:Q (((sIx n 0 lo:Nat):Int),1,sIx n n hi-sIx n 0 lo) s):wpAny (model prog w) A (Builtin.Slice.sliceApplied (.ref sl) (pure (n:Int))) Q E s:=by
 obtain⟨os,hos,hcs,hds⟩:=id hs
 unfold Builtin.Slice.sliceApplied Builtin.Slice.sliceFields
 refine wpAny_bind (wpAny_bind (wpAny_field hos hds (x:=vl) rfl (wpAny_bind (wpAny_field hos hds (x:=vu) rfl (wpAny_bind (wpAny_field hos hds (x:=.none) rfl (wpAny_pure ?_)))))))
 refine wpAny_bind (slicePart_none ?_)
 show wpAny _ _ (if((1:Int)==0)=true then _ else _) _ _ s
 rw[if_neg (by decide)]
 refine wpAny_bind (RJ pl (wpAny_bind (RJ pu (wpAny_bind (wpAny_pure ?_)))))
 show wpAny _ _ (match Builtin.Slice.sliceAdjust lo hi 1 (n:Int) with | (lo,hi)=>pure (lo,(1:Int),Builtin.Slice.slicePlaces lo hi 1)) _ _ s
 rw[NS lo hi n]
 show wpAny _ _ (pure (((sIx n 0 lo:Nat):Int),(1:Int),Builtin.Slice.slicePlaces ((sIx n 0 lo:Nat):Int) ((sIx n n hi:Nat):Int) 1)) _ _ s
 rw[NT]
 exact wpAny_pure h
theorem Jh(xs:Array Value)(i k:Nat):((List.range k).filterMap fun(m:Nat)=>xs[((i:Int)+(m:Int)*1).toNat]?).toArray=((xs.toList.drop i).take k).toArray:=by
 have e:(fun(m:Nat)=>xs[((i:Int)+(m:Int)*1).toNat]?)=fun m=>xs[i+m]?:=by
  funext m
  have:((i:Int)+(m:Int)*1).toNat=i+m:=by omega
  rw[this]
 rw[e]
 have:=pick_run xs i k
 rw[List.filterMap_map] at this
 have e2:((fun x=>xs[x]?) ∘ fun x=>i+x)=fun m=>xs[i+m]?:=rfl
 rw[e2] at this;rw[this]
theorem getItem_tuple_cut{t sl:Addr}{items:Array Value}{vl vu:Value}{lo hi:Option Int}{Q:Value->Shared->Prop}(ht:IsTup s.heap t items)(hs:s.heap.IsSliceOf sl vl vu .none)(pl:IsPart vl lo)(pu:IsPart vu hi)
  (hw:¬(sIx items.size 0 lo=0/\sIx items.size items.size hi=items.size))
  (h:Q (.ref s.heap.objs.size) { s with heap:=s.heap.push { cls:=.type "tuple",data:=.seq ((items.toList.drop (sIx items.size 0 lo)).take (sIx items.size items.size hi-sIx items.size 0 lo)).toArray } })
  (hsz:items.size<=sizeLine):wpAny (model prog w) A (getItem (.ref t) (.ref sl)) Q E s:=by
 have htake:sizeOk (.seq ((items.toList.drop (sIx items.size 0 lo)).take (sIx items.size items.size hi-sIx items.size 0 lo)).toArray):=by
  show((items.toList.drop (sIx items.size 0 lo)).take (sIx items.size items.size hi-sIx items.size 0 lo)).toArray.size<=sizeLine
  rw[List.size_toArray,List.length_take,List.length_drop,Array.length_toList];omega
 have hj:sIx items.size items.size hi<=items.size:=Ed _ _ (Nat.le_refl _) hi
 obtain⟨os,hos,hcs,hds⟩:=id hs
 have hTs:s.TypeIs (.ref sl) "slice":=⟨os,hos,hcs⟩
 unfold getItem
 try with_reducible refine wpAny_holding ?_
 first | refine wpAny_bind (wpAny_pure ?_) | skip
 refine wpAny_bind (wpAny_sequenceKey ht.typeIs (by decide) ?_)
 refine wpAny_bind (wpAny_callSpecial?_slot (name:=Str.ofString "__getitem__") ht.typeIs PyProof.Rows.slot_tuple_getitem
  (wpAny_call_entry PyProof.Rows.slot_tuple_getitem ht.typeIs entry_tuple_getitem ?_ (args_tuple_getitem _ _)))
 show wpAny _ _ (Builtin.Tuple.tupleItemsOf (.ref t) >>= _) _ _ s
 refine wpAny_bind (tupleItemsOf_ ht ?_)
 refine wpAny_bind (wpAny_typeOf hTs ?_)
 rw[if_pos (by decide)]
 refine wpAny_bind (T3 hs pl pu ?_)
 have hno:¬((((sIx items.size 0 lo:Nat):Int)==0&&(1:Int)==1&&(sIx items.size items.size hi-sIx items.size 0 lo)==items.size)=true):=by
  intro q;rw[Bool.and_eq_true,Bool.and_eq_true] at q
  have q1:((sIx items.size 0 lo:Nat):Int)=0:=eq_of_beq q.1.1
  have q2:sIx items.size items.size hi-sIx items.size 0 lo=items.size:=eq_of_beq q.2
  exact hw ⟨by omega,by omega⟩
 show wpAny _ _ (if(((sIx items.size 0 lo:Nat):Int)==0&&(1:Int)==1&&(sIx items.size items.size hi-sIx items.size 0 lo)==items.size)=true then _ else _) _ _ s
 rw[if_neg hno,Jh]
 first
  | exact wpAny_bind (m:=Builtin.Tuple.tupleExact _) (wpAny_newObj_type (wpAny_pure ⟨_,rfl,wpAny_pure h⟩) htake)
  | exact wpAny_bind (m:=Builtin.Tuple.tupleExact _) (wpAny_newObj_type (wpAny_bind (wpAny_pure (wpAny_pure ⟨_,rfl,wpAny_pure h⟩))) htake)
  | exact wpAny_bind (wpAny_bind (m:=Builtin.Tuple.tupleExact _) (wpAny_newObj_type (wpAny_pure (wpAny_pure ⟨_,rfl,wpAny_pure h⟩)) htake))
  | exact wpAny_bind (wpAny_bind (m:=Builtin.Tuple.tupleExact _) (wpAny_newObj_type (wpAny_pure ⟨_,rfl,wpAny_pure h⟩) htake))
end
end HT
namespace L2
open PySem PySem.Spec PyProof.Rows
abbrev TO:=St->Hp->(Option Int->Hp->Prop)->Prop
def PO(X:Cx)(e:Option Expr)(t:TO):Prop:=
 ∀(pins:List (Addr×Obj))(s:Shared)(σ:St)(H:Hp)(Q:Option Int->Hp->Prop),Inv X pins σ H s->t σ H Q->
  wpAny (model X.prog X.w) X.A (evalPart e X.env) (fun u s'=>∃o H',Inv X pins σ H' s'/\IsPart u o/\Q o H') X.xe s
def HK:TO:=fun _ H Q=>Q none H
def Dr(t:TE):TO:=fun σ H Q=>t σ H fun x H1=>∃i,x = .int i/\Q (some i) H1
section
variable {X:Cx} {e:Expr} {te:TE} {lo hi:Option Expr} {tl th:TO} {pos p2:Pos}
theorem HL:PO X none HK:=by
 intro pins s σ H Q I h;rw[evalPart_none]
 exact wpAny_pure ⟨none,H,I,.none,h⟩
theorem HM(h:PE X e te):PO X (some e) (Dr te):=by
 intro pins s σ H Q I hw;rw[evalPart_some]
 refine YZ (h pins s σ H _ I hw) fun u s1 ⟨x,H1,I1,r1,q1⟩=>?_
 obtain⟨i,rfl,q⟩:=q1
 obtain⟨t,rfl⟩:=r1
 exact⟨some i,H1,I1,.int i t,q⟩
def Cr(X:Cx)(r:V->Option Int->Option Int->Hp->VK->Prop):Prop:=
 ∀(pins:List (Addr×Obj))(s:Shared)(σ:St)(H:Hp)(x:V)(v vl vu:Value)(lo hi:Option Int)(sl:Addr)(Q:VK),Inv X pins σ H s->RelV x v->s.heap.IsSliceOf sl vl vu .none->IsPart vl lo->IsPart vu hi->r x lo hi H Q->
  ∃T id,typeLookup (.type T) "__getitem__" = pure (some (.builtin id))/\s.TypeIs v T/\wpAny (model X.prog X.w) X.A (getItem v (.ref sl)) (EP X pins σ Q) X.xe s
def CT(r:V->Option Int->Option Int->Hp->VK->Prop)(te:TE)(tl th:TO):TE:=fun σ H Q=>te σ H fun x H1=>tl σ H1 fun l H2=>th σ H2 fun u H3=>r x l u H3 Q
theorem OP{r:V->Option Int->Option Int->Hp->VK->Prop}(hr:Cr X r)(he:PE X e te)(hl:PO X lo tl)(hu:PO X hi th):PE X (.Subscript e (.Slice lo hi none p2) pos) (CT r te tl th):=by
 intro pins s σ H Q I h
 refine Subscript_ (YZ (he pins s σ H _ I h) fun v s1 ⟨x,H1,I1,r1,q1⟩=>?_)
 refine wpAny_Slice (YZ (hl pins s1 σ H1 _ I1 q1) fun vl s2 ⟨l,H2,I2,pl,q2⟩=>YZ (hu pins s2 σ H2 _ I2 q2) fun vu s3 ⟨u,H3,I3,pu,q3⟩=>?_)
 rw[evalPart_none]
 refine wpAny_pure ?_
 have I4:Inv X pins σ H3 { s3 with heap:=s3.heap.push { cls:=.type "slice",data:=.fields #[vl,vu,.none] } }:=I3.kept (t':=s3.toks) fun b ob q=>Heap.get?_push_of_some _ q
 obtain⟨T,id,hT,ht,hg⟩:=hr pins { s3 with heap:=s3.heap.push { cls:=.type "slice",data:=.fields #[vl,vu,.none] } } σ H3 x v vl vu l u s3.heap.objs.size Q I4 r1 (Heap.IsSliceOf.new ..) pl pu q3
 show wpAny (model X.prog X.w) X.A (subscriptTail e (.Slice lo hi none p2) v (.ref s3.heap.objs.size)) (EP X pins σ Q) X.xe { s3 with heap:=s3.heap.push { cls:=.type "slice",data:=.fields #[vl,vu,.none] } }
 exact tail_any (ops:=[.ref s3.heap.objs.size,v]) ht hT hg (by with_unfolding_all rfl)
def OQ(xs:List V)(lo hi:Option Int):List V:=(xs.drop (HT.sIx xs.length 0 lo)).take (HT.sIx xs.length xs.length hi-HT.sIx xs.length 0 lo)
theorem SN(xs:List V)(lo hi:Option Int):(OQ xs lo hi).length<=xs.length:=by
 unfold OQ;rw[List.length_take,List.length_drop];omega
def Cs(K:PySem.W.Frag):V->Option Int->Option Int->Hp->VK->Prop:=fun x lo hi H Q=>∃a xs,x = .ref a/\SqT K H a xs/\
 ¬(HT.sIx xs.length 0 lo=0/\HT.sIx xs.length xs.length hi=xs.length)/\∀p,H p=none->Q (.ref p) (upd H p (.tup (OQ xs lo hi)))
theorem Ee:Cr X (Cs X.K):=by
 intro pins s σ H x v vl vu lo hi sl Q I rx hs pl pu h
 obtain⟨a,xs,rfl,hx,hw,q⟩:=h
 cases rx
 obtain⟨its,r,ht,hz⟩:=I.tuple hx
 have hlen:its.toArray.size=xs.length:=by rw[List.size_toArray];exact r.length.symm
 refine⟨"tuple",_,PyProof.Rows.slot_tuple_getitem.lookup,ht.typeIs,?_⟩
 refine HT.getItem_tuple_cut ht hs pl pu (by rw[hlen];exact hw) ?_ (by rw[hlen];exact hz)
 rw[hlen]
 refine⟨.ref s.heap.objs.size,_,I.laid (t':=s.toks) (o:=.tup (OQ xs lo hi)) (fun b ob q=>Heap.get?_push_of_some _ q) (Nat.le_refl _) ?_,rfl,q _ (I.hok.fresh (Nat.le_refl _))⟩
 exact⟨Nat.le_trans (SN xs lo hi) hz,_,(r.drop (HT.sIx xs.length 0 lo)).take (HT.sIx xs.length xs.length hi-HT.sIx xs.length 0 lo),IsTup.new _ _⟩
def Ds(K:PySem.W.Frag):R2:=fun x y H Q=>∃a b xs ys,x = .ref a/\y = .ref b/\SqT K H a xs/\SqT K H b ys/\xs≠[]/\xs.length+ys.length<=sizeLine/\
 (ys=[]->Q (.ref a) H)/\(ys≠[]->∀p,H p=none->Q (.ref p) (upd H p (.tup (xs++ys))))
theorem Vals.nil_iff{xs:List V}{us:List Value}(r:Vals xs us):us=[]↔xs=[]:=by
 cases r with
 | nil=>simp
 | cons _ _=>simp
theorem HN:Uv X (binaryOp .Add) (Ds X.K):=by
 intro pins s σ H x y v u Q I rx ry h
 obtain⟨a,b,xs,ys,rfl,rfl,ha,hb,hx,hz,q1,q2⟩:=h
 cases rx;cases ry
 obtain⟨its,r1,p1,_⟩:=I.tuple ha
 obtain⟨its2,r2,p2,_⟩:=I.tuple hb
 refine HT.cat_tup p1 p2 (fun z=>hx (r1.nil_iff.mp z)) (fun z=>⟨.ref a,H,I,rfl,q1 (r2.nil_iff.mp z)⟩) (fun z=>?_) (by rw[<-r1.length,<-r2.length];exact hz)
 refine⟨.ref s.heap.objs.size,_,I.laid (t':=s.toks) (o:=.tup (xs++ys)) (fun b ob q=>Heap.get?_push_of_some _ q) (Nat.le_refl _) ?_,rfl,q2 (fun w=>z (r2.nil_iff.mpr w)) _ (I.hok.fresh (Nat.le_refl _))⟩
 exact⟨by rw[List.length_append];exact hz,_,r1.append r2,IsTup.new _ _⟩
end
def OF(n:Nat)(i:Int):Option Nat:=if 0<=i then(if i<n then some i.toNat else none) else if -(n:Int)<=i then some (i+n).toNat else none
def TY{α:Type}(xs:List α)(i:Int):Option α:=(OF xs.length i).bind fun j=>xs[j]?
theorem La{n:Nat}{i:Int}{j:Nat}(h:OF n i=some j):seqIndex? i n=some j/\j<n/\-(n:Int)<=i/\i<n:=by
 unfold OF at h
 by_cases h0:0<=i
 ·rw[if_pos h0] at h
  by_cases h1:i<n
  ·rw[if_pos h1] at h
   have e:i.toNat=j:=Option.some.inj h
   exact⟨by rw[seqIndex_of h0 h1,e],by omega,by omega,h1⟩
  ·rw[if_neg h1] at h;cases h
 ·rw[if_neg h0] at h
  by_cases h1 : -(n:Int)<=i
  ·rw[if_pos h1] at h
   have e:(i+n).toNat=j:=Option.some.inj h
   exact⟨by rw[seqIndex_neg (by omega) h1,e],by omega,h1,by omega⟩
  ·rw[if_neg h1] at h;cases h
theorem PK{α:Type}{xs:List α}{i:Int}{v:α}(h:TY xs i=some v):∃j,seqIndex? i xs.length=some j/\xs[j]?=some v/\j<xs.length/\-(xs.length:Int)<=i/\i<xs.length:=by
 unfold TY at h
 cases e:OF xs.length i with
 | none=>rw[e] at h;cases h
 | some j=>
  rw[e] at h
  obtain⟨h1,h2,h3,h4⟩:=La e
  exact⟨j,h1,h,h2,h3,h4⟩
theorem Vz{α:Type}{xs:List α}{j:Nat}{v:α}(h:xs[j]?=some v):TY xs (j:Int)=some v:=by
 have hj:j<xs.length:=(List.getElem?_eq_some_iff.mp h).1
 have e:OF xs.length (j:Int)=some j:=by
  unfold OF
  rw[if_pos (by omega),if_pos (by omega)];simp
 unfold TY;rw[e];exact h
def PL(b:Expr):Prop:=∀o i,subscripted b false o i=operate [o,i] (getItem o i)
def IxR(X:Cx)(r:R2):Prop:=
 ∀(value slice:Expr)(pins:List (Addr×Obj))(s:Shared)(σ:St)(H:Hp)(x y:V)(v u:Value)(Q:VK),Inv X pins σ H s->RelV x v->RelV y u->r x y H Q->
  subscripted slice false v u=operate [v,u] (getItem v u)->wpAny (model X.prog X.w) X.A (subscriptTail value slice v u) (EP X pins σ Q) X.xe s
def CU(X:Cx)(id:String)(r:V->List V->Hp->VK->Prop):Prop:=
 ∀(pins:List (Addr×Obj))(s:Shared)(σ:St)(H:Hp)(x:V)(xs:List V)(v:Value)(us:List Value)(Q:VK),Inv X pins σ H s->RelV x v->Vals xs us->r x xs H Q->
  wpAny (model X.prog X.w) X.A (call (.builtin id) (v::us)) (EP X pins σ Q) X.xe s
section
variable {X:Cx} {a b:Expr} {ta tb:TE} {pos:Pos}
theorem IxR.or{r r':R2}(h:IxR X r)(h':IxR X r'):IxR X (fun x y H Q=>r x y H Q\/r' x y H Q):=by
 intro value slice pins s σ H x y v u Q I rx ry q hs
 rcases q with q | q
 ·exact h value slice pins s σ H x y v u Q I rx ry q hs
 ·exact h' value slice pins s σ H x y v u Q I rx ry q hs
theorem Uc{r:R2}(hr:IxR X r)(ha:PE X a ta)(hb:PE X b tb)(hs:PL b):PE X (.Subscript a b pos) (Fm r ta tb):=by
 intro pins s σ H Q I h
 exact Subscript_ (F5 ha hb I h fun v u s2 x y H2 I2 rx ry q=>hr a b pins s2 σ H2 x y v u Q I2 rx ry q (hs _ _))
def Ef(K:PySem.W.Frag):R2:=fun x y H Q=>∃p xs i v,x = .ref p/\y = .int i/\SqL K H p xs/\TY xs i=some v/\Q v H
def HP(K:PySem.W.Frag):R2:=fun x y H Q=>∃p xs i v,x = .ref p/\y = .int i/\SqT K H p xs/\TY xs i=some v/\Q v H
def Dt:R2:=fun x y H Q=>∃z i c,x = .str z/\y = .int i/\z.length<=sizeLine/\TY z.cps.toList i=some c/\Q (.str ⟨#[c]⟩) H
theorem ix_list:IxR X (Ef X.K):=by
 intro value slice pins s σ H x y v u Q I rx ry h hs
 obtain⟨p,xs,i,z,rfl,rfl,hq,he,q⟩:=h
 cases rx
 obtain⟨t,rfl⟩:=ry
 obtain⟨its,r,pl,hz⟩:=I.list hq
 obtain⟨j,h1,h2,h3,h4,h5⟩:=PK he
 obtain⟨w,ew,Ym⟩:=r.get h2
 have hl:=r.length;have hn:=T1
 have fin:EP X pins σ Q w s:=⟨z,H,I,Ym,q⟩
 by_cases h0:0<=i
 ·have hj:i.toNat=j:=by
   rw[seqIndex_of h0 h5] at h1
   exact Option.some.inj h1
  exact item_listR pl.isList h0 (by omega) (by rw[hj];simpa using ew) fin hs
 ·have hj:(i+(its.toArray.size:Int)).toNat=j:=by
   rw[seqIndex_neg (by omega) h4] at h1;rw[List.size_toArray,<-hl]
   exact Option.some.inj h1
  exact subscriptTail_builtinR (x:=w) pl.isList.typeIs slot_list_getitem.lookup
   (wpAny_getItem_list_neg (Q:=fun r s'=>r=w/\EP X pins σ Q r s') pl.isList (by omega) (by rw[List.size_toArray]<;>omega) (by omega) (by rw[hj];simpa using ew) ⟨rfl,fin⟩) hs
theorem ix_tup:IxR X (HP X.K):=by
 intro value slice pins s σ H x y v u Q I rx ry h hs
 obtain⟨p,xs,i,z,rfl,rfl,hq,he,q⟩:=h
 cases rx
 obtain⟨t,rfl⟩:=ry
 obtain⟨its,r,pl,hz⟩:=I.tuple hq
 obtain⟨j,h1,h2,h3,h4,h5⟩:=PK he
 obtain⟨w,ew,Ym⟩:=r.get h2
 have hl:=r.length;have hn:=T1
 have fin:EP X pins σ Q w s:=⟨z,H,I,Ym,q⟩
 exact subscriptTail_builtinR (x:=w) pl.typeIs slot_tuple_getitem.lookup
  (getItem_tuple (j:=j) (Q:=fun r s'=>r=w/\EP X pins σ Q r s') pl (by omega) (by omega) (by rw[List.size_toArray,<-hl];exact h1) (by simpa using ew) ⟨rfl,fin⟩) hs
theorem Eg:IxR X Dt:=by
 intro value slice pins s σ H x y v u Q I rx ry h hs
 obtain⟨z,i,c,rfl,rfl,hz,he,q⟩:=h
 obtain⟨t,rfl⟩:=rx
 obtain⟨t',rfl⟩:=ry
 obtain⟨j,h1,h2,h3,h4,h5⟩:=PK he
 have hl:z.cps.toList.length=z.length:=by simp[Str.length]
 rw[hl] at h1 h4 h5
 have hn:=T1
 exact tail_any (typeIs_str s z t) slot_str_getitem.lookup (getItem_str (c:=c) (by
  have e1:decide (i < -(2^63:Int))=false:=decide_eq_false (by omega)
  have e2:decide (i ≥ 2^63)=false:=decide_eq_false (by omega)
  rw[e1,e2,Bool.or_false]) (by rw[h1];simpa using h2) ⟨.str ⟨#[c]⟩,H,I.tok _,⟨_,rfl⟩,q⟩) hs
def CK(K:PySem.W.Frag):R2:=fun x y H Q=>Ef K x y H Q\/HP K x y H Q\/Dt x y H Q
theorem Eh:IxR X (CK X.K):=ix_list.or (ix_tup.or Eg)
theorem NU(its:List Value)(n j:Nat)(u:Value):Obj.mapSeq (·.setIfInBounds j u) { cls:=.type "list",data:=.seq its.toArray n }={ cls:=.type "list",data:=.seq (its.set j u).toArray n }:=by
 simp[Obj.mapSeq]
theorem Inv.lst{pins:List (Addr×Obj)}{σ:St}{H:Hp}{s:Shared}{p:Addr}{xs:List V}(I:Inv X pins σ H s)(h:H p=some (.lst xs)) :
  ∃(its:List Value) (n:Nat),Vals xs its/\s.heap.get? p=some { cls:=.type "list",data:=.seq its.toArray n }/\xs.length<=sizeLine:=by
 obtain⟨z,its,n,r,e⟩:=I.hok p _ h
 exact⟨its,n,r,e,z⟩
theorem Inv.lstUpd{pins:List (Addr×Obj)}{σ:St}{H:Hp}{s:Shared}{p:Addr}{xs ys:List V}{its its':List Value}{n n':Nat}{f:Obj->Obj}(I:Inv X pins σ H s)(h:H p=some (.lst xs))
  (ho:s.heap.get? p=some { cls:=.type "list",data:=.seq its.toArray n }) (hf:f { cls:=.type "list",data:=.seq its.toArray n }={ cls:=.type "list",data:=.seq its'.toArray n' }) (r:Vals ys its') (hz:ys.length<=sizeLine) (t:Nat) :
  Inv X pins σ (upd H p (.lst ys)) { s with heap:=s.heap.update p f,toks:=t }:=by
 have e:(s.heap.update p f).get? p=some { cls:=.type "list",data:=.seq its'.toArray n' }:=by
  rw[Heap.get?_update_self f ho (by rw[hf]<;>rfl),hf]
 refine I.write (x:=p) (e:=p) (by rw[h];trivial) (.inl rfl) (fun b u hb q=>(Heap.get?_update_other _ _ (Ne.symm hb)).trans q) ⟨_,e⟩ ?_
 exact⟨hz,its',n',r,e⟩
def Ji:V->V->V->Hp->(Hp->Prop)->Prop:=fun o i v H Q=>∃p xs k j,o = .ref p/\i = .int k/\H p=some (.lst xs)/\OF xs.length k=some j/\Q (upd H p (.lst (xs.set j v)))
theorem Ud:Dd X Ji:=by
 intro pins s σ H o i v ov iv u Q I ro ri rv h
 obtain⟨p,xs,k,j,rfl,rfl,hp,hj,q⟩:=h
 cases ro
 obtain⟨t,rfl⟩:=ri
 obtain⟨its,n,r,ho,hz⟩:=I.lst hp
 obtain⟨h1,h2,h3,h4⟩:=La hj
 have hl:=r.length;have hn:=T1
 have I':Inv X pins σ (upd H p (.lst (xs.set j v))) { s with heap:=s.heap.update p (Obj.mapSeq (·.setIfInBounds j u)) }:=
  I.lstUpd hp ho (NU its n j u) (r.set rv j) (by rw[List.length_set];exact hz) s.toks
 by_cases h0:0<=k
 ·have hk:k.toNat=j:=by
   rw[seqIndex_of h0 h4] at h1
   exact Option.some.inj h1
  exact PySem.W.ki_setAt ho h0 (by omega) (by rw[List.size_toArray,<-hl];exact h4) (by rw[hk];exact⟨_,I',q⟩)
 ·have hk:(k+(its.toArray.size:Int)).toNat=j:=by
   rw[seqIndex_neg (by omega) h3] at h1;rw[List.size_toArray,<-hl]
   exact Option.some.inj h1
  exact PySem.W.ki_setBack ho (by omega) (by rw[List.size_toArray,<-hl];exact h3) (by omega) (by rw[hk];exact⟨_,I',q⟩)
theorem PM(lo hi:Option Int)(n:Nat):(sliceBounds lo hi none n).1=((HT.sIx n 0 lo:Nat):Int)/\(sliceBounds lo hi none n).2.1=((HT.sIx n n hi:Nat):Int)/\(sliceBounds lo hi none n).2.2=1:=by
 refine⟨?_,?_,rfl⟩
 ·cases lo with
  | none=>simp[sliceBounds,HT.sIx]
  | some i=>
   simp only[sliceBounds,HT.sIx,Option.getD_none,show(1:Int)>0 by decide,if_true]
   by_cases h:i<0
   ·simp only[h,if_true]<;>omega
   ·simp only[h,if_false]<;>omega
 ·cases hi with
  | none=>simp[sliceBounds,HT.sIx]
  | some i=>
   simp only[sliceBounds,HT.sIx,Option.getD_none,show(1:Int)>0 by decide,if_true]
   by_cases h:i<0
   ·simp only[h,if_true]<;>omega
   ·simp only[h,if_false]<;>omega
theorem QQ(its:List Value)(lo hi:Option Int):slicePick its.toArray lo hi none=((its.drop (HT.sIx its.length 0 lo)).take (HT.sIx its.length its.length hi-HT.sIx its.length 0 lo)).toArray:=by
 obtain⟨h1,h2,h3⟩:=PM lo hi its.toArray.size
 unfold slicePick;rw[h1,h2,h3]
 simp only[sliceRange_one,pick_run,List.size_toArray]<;>rfl
def Ct(K:PySem.W.Frag):V->Option Int->Option Int->Hp->VK->Prop:=fun x lo hi H Q=>∃a xs,x = .ref a/\SqL K H a xs/\∀p,H p=none->Q (.ref p) (upd H p (.lst (OQ xs lo hi)))
theorem HQ:Cr X (Ct X.K):=by
 intro pins s σ H x v vl vu lo hi sl Q I rx hs pl pu h
 obtain⟨a,xs,rfl,hx,q⟩:=h
 cases rx
 obtain⟨its,r,ht,hz⟩:=I.list hx
 have hlen:=r.length
 refine⟨"list",_,slot_list_getitem.lookup,ht.isList.typeIs,?_⟩
 refine wpAny_getItem_list_slice ht.isList hs pl pu .none (by simp) ?_ (by rw[List.size_toArray]<;>omega)
 rw[QQ,<-hlen]
 refine⟨.ref s.heap.objs.size,_,I.laid (t':=s.toks) (o:=.lst (OQ xs lo hi)) (fun b ob q=>Heap.get?_push_of_some _ q) (Nat.le_refl _) ?_,rfl,q _ (I.hok.fresh (Nat.le_refl _))⟩
 exact⟨Nat.le_trans (SN xs lo hi) hz,_,0,(r.drop (HT.sIx xs.length 0 lo)).take (HT.sIx xs.length xs.length hi-HT.sIx xs.length 0 lo),Heap.get?_push_size _ rfl⟩
theorem PN:V2 X (.type "list") (fun xs H Q=>∃p ys,xs=[.ref p]/\(SqL X.K H p ys\/SqT X.K H p ys)/\∀l,H l=none->Q (.ref l) (upd H l (.lst ys))):=by
 intro pins s σ H xs us Q I r h
 obtain⟨p,ys,rfl,hq,q⟩:=h
 obtain⟨u,rfl,rx⟩:=RI r
 cases rx
 have fin:∀(its:List Value),Vals ys its->ys.length<=sizeLine->∀(h':Heap)(c':Nat),(∀b o',s.heap.get? b=some o'->h'.get? b=some o')->
   h'.get? s.heap.objs.size=some { cls:=.type "list",dict:=none,data:=.seq its.toArray c',slots:=#[] }->EP X pins σ Q (.ref s.heap.objs.size) { s with heap:=h' }:=fun its r' hz h' c' kp e=>
  ⟨.ref s.heap.objs.size,_,I.laid (t':=s.toks) kp (Nat.le_refl _) (show ObjOk X.prog X.w _ h' _ (.lst ys) from⟨hz,its,c',r',e⟩),rfl,q _ (I.hok.fresh (Nat.le_refl _))⟩
 rcases hq with hq | hq
 ·obtain⟨its,r',pl,hz⟩:=I.list hq
  have hlen:=r'.length
  obtain⟨o,ho,hc,n,hd⟩:=pl.isList
  exact call_list_seq p (.inl rfl) ho hc hd (fun h' c' kp e=>fin its r' hz h' c' kp e) (by simp only[List.size_toArray]<;>omega)
 ·obtain⟨its,r',pl,hz⟩:=I.tuple hq
  have hlen:=r'.length
  obtain⟨o,ho,hc,n,hd⟩:=pl
  exact call_list_seq p (.inr rfl) ho hc hd (fun h' c' kp e=>fin its r' hz h' c' kp e) (by simp only[List.size_toArray]<;>omega)
theorem ZJ:V2 X (.type "tuple") (fun xs H Q=>∃p ys,xs=[.ref p]/\((SqL X.K H p ys/\∀l,H l=none->Q (.ref l) (upd H l (.tup ys)))\/(SqT X.K H p ys/\Q (.ref p) H))):=by
 intro pins s σ H xs us Q I r h
 obtain⟨p,ys,rfl,h⟩:=h
 obtain⟨u,rfl,rx⟩:=RI r
 cases rx
 rcases h with⟨hq,q⟩ | ⟨hq,q⟩
 ·obtain⟨its,r',pl,hz⟩:=I.list hq
  have hlen:=r'.length
  refine call_tuple_list pl.isList (fun h' kp=>?_) (by simp only[List.size_toArray]<;>omega)
  have I1:Inv X pins σ H { s with heap:=h' }:=I.kept (t':=s.toks) kp
  have I2:Inv X pins σ (upd H h'.objs.size (.tup ys)) { s with heap:=h'.push { cls:=.type "tuple",data:=.seq its.toArray } }:=
   I1.laid (t':=s.toks) (fun b o e=>Heap.get?_push_of_some _ e) (Nat.le_refl _) (show ObjOk X.prog X.w _ _ _ (.tup ys) from⟨hz,its,r',IsTup.new _ _⟩)
  exact⟨.ref h'.objs.size,_,I2,rfl,q _ (I1.hok.fresh (Nat.le_refl _))⟩
 ·obtain⟨its,r',pl,hz⟩:=I.tuple hq
  exact call_tuple_same pl ⟨.ref p,H,I,rfl,q⟩
def Cu(K:PySem.W.Frag)(T:String)(x:V)(H:Hp):Prop:=match x with
 | .str _=>T = "str"
 | .int _=>T = "int"
 | .ref p=>(T = "list"/\∃xs,SqL K H p xs)\/(T = "tuple"/\∃o,K.lookup p=some o/\o.cls = .type "tuple"/\o.dict=none)\/
   (T = "dict"/\((∃kvs,H p=some (.dK kvs))\/∃kvs,H p=some (.dT kvs)))\/(T = "set"/\∃S n,H p=some (.set S n))
 | _=>False
theorem Ei{pins:List (Addr×Obj)}{σ:St}{H:Hp}{s:Shared}{T:String}{x:V}{v:Value}(I:Inv X pins σ H s)(r:RelV x v)(ty:Cu X.K T x H) :
  s.TypeIs v T/\∀a,v = .ref a->∃ob,s.heap.get? a=some ob/\ob.dict=none:=by
 cases x with
 | str z=>
  obtain⟨t,rfl⟩:=r
  cases (show T = "str" from ty)
  exact⟨typeIs_str s z t,fun _ e=>nomatch e⟩
 | int i=>
  obtain⟨t,rfl⟩:=r
  cases (show T = "int" from ty)
  exact⟨typeIs_int s i t,fun _ e=>nomatch e⟩
 | ref p=>
  cases r
  rcases ty with⟨rfl,xs,hq⟩ | ⟨rfl,o,hk,hc,hd⟩ | ⟨rfl,hk⟩ | ⟨rfl,S,n,hk⟩
  ·obtain⟨its,_,pl,_⟩:=I.list hq
   refine⟨pl.isList.typeIs,fun a e=>?_⟩
   cases e
   obtain⟨o,n,e,c,hd,_⟩:=pl
   exact⟨o,e,hd⟩
  ·refine⟨⟨o,I.kIn p o hk,hc⟩,fun a e=>?_⟩
   cases e
   exact⟨o,I.kIn _ o hk,hd⟩
  ·have z:∃o,s.heap.get? p=some o/\o.ExactDict:=by
    rcases hk with⟨kvs,hk⟩ | ⟨kvs,hk⟩
    ·obtain⟨_,_,_,_,o,_,_,e,ex,_⟩:=I.hok p _ hk
     exact⟨o,e,ex⟩
    ·obtain⟨_,_,_,_,o,_,_,e,ex,_⟩:=I.hok p _ hk
     exact⟨o,e,ex⟩
   obtain⟨o,e,ex⟩:=z
   refine⟨⟨o,e,ex.1⟩,fun a e2=>?_⟩
   cases e2
   exact⟨o,e,ex.2.1⟩
  ·obtain⟨o,_,_,_,e,ex,_⟩:=I.hok p _ hk
   refine⟨⟨o,e,ex.1⟩,fun a e2=>?_⟩
   cases e2
   exact⟨o,e,ex.2.1⟩
 | _=>exact False.elim ty
def D4(K:PySem.W.Frag)(T:String)(r:V->List V->Hp->VK->Prop)(to:TE)(t:TA):TE:=fun σ H Q=>to σ H fun x H1=>Cu K T x H1/\t σ H1 fun xs H2=>r x xs H2 Q
variable {o e:Expr} {es:List Expr} {to:TE} {t:TA} {name:Str} {apos cpos:Pos} {T id:String} {r:V->List V->Hp->VK->Prop}
theorem SO(pa:PlainAttrs T)(slot:Slot T name id)(hty:typeOf (.builtin id)=pure (.type "method_descriptor"))(hm:CU X id r)(ho:PE X o to)(ha:PA X (e::es) t)
  (hbase:attributeBase o name X.env (eval o X.env)=eval o X.env:=by rfl)
  (hfew:((backTo cpos (starEach (e::es) X.env)).all (fun x=>!x.1)&&(backToKw cpos (keywordEach [] X.env)).all (fun x=>x.1.isSome)
   &&decide ((e::es).length+([]:List Keyword).length+(if([]:List Keyword).isEmpty then 0 else 1)<30))=true:=by rfl)
  (hline:(apos.endLine==cpos.line)=true:=by rfl) (hs:starEach (e::es) X.env=(false,eval e X.env)::starEach es X.env:=by rfl) (hplain:(backTo cpos (starEach es X.env)).any (·.1)=false:=by rfl) :
  PE X (.Call (.Attribute o name apos) (e::es) [] cpos) (D4 X.K T r to t):=by
 intro pins s σ H Q I h
 refine wpAny_Call_method_late hbase hfew hline rfl (YZ (ho pins s σ H _ I h) fun v s1 ⟨x,H1,I1,r1,ty,q1⟩=>?_)
 obtain⟨h1,h2⟩:=Ei I1 r1 ty
 refine⟨T,id,pa,slot,hty,h1,h2,?_⟩
 have hA:=ha cpos pins s1 σ H1 _ I1 q1
 rw[hs] at hA ⊢
 refine Calls.callWith_builtin (by show(false || (backTo cpos (starEach es X.env)).any (·.1))=false;rw[hplain]<;>rfl) (Calls.evalArgs_plain ?_)
 exact YZ hA fun us s2 ⟨vs,H2,I2,r2,q2⟩=>hm pins s2 σ H2 x vs v us Q I2 r1 r2 q2
end
def Cv(X:Cx)(id:String)(r:V->List V->Hp->VK->Prop):Prop:=
 ∀(pins:List (Addr×Obj))(s:Shared)(σ:St)(H:Hp)(x:V)(xs:List V)(v:Value)(us:List Value)(Q:VK),Inv X pins σ H s->RelV x v->Vals xs us->r x xs H Q->
  wpAny (model X.prog X.w) X.A (call (.builtin id) (v::us)) (EP X pins σ Q) X.xe s
theorem Vals.one:∀{x:V}{us:List Value},Vals [x] us->∃u,us=[u]/\RelV x u
 | _,_,.cons r .nil=>⟨_,rfl,r⟩
theorem Vals.two:∀{x y:V}{us:List Value},Vals [x,y] us->∃u v,us=[u,v]/\RelV x u/\RelV y v
 | _,_,_,.cons r (.cons q .nil)=>⟨_,_,rfl,r,q⟩
theorem Vals.dropLast{xs:List V}{us:List Value}(h:Vals xs us):Vals xs.dropLast us.dropLast:=by
 induction h with
 | nil=>exact .nil
 | cons r t ih=>
  cases t with
  | nil=>exact .nil
  | cons q t'=>exact .cons r ih
theorem Vals.rep{xs:List V}{us:List Value}(h:Vals xs us):∀k:Nat,Vals (List.replicate k xs).flatten (List.replicate k us).flatten
 | 0=>.nil
 | k+1=>by
  rw[List.replicate_succ,List.replicate_succ,List.flatten_cons,List.flatten_cons]
  exact Vals.append h (Vals.rep h k)
theorem T4(its:List Value):∀(k:Nat)(acc:List Value),
  List.foldl (fun x1 x2=>x1++x2) acc.toArray (List.replicate k its.toArray)=(acc++(List.replicate k its).flatten).toArray
 | 0,acc=>by simp
 | k+1,acc=>by
  have e:acc.toArray++its.toArray=(acc++its).toArray:=by simp
  have e2:(acc++its)++(List.replicate k its).flatten=acc++(List.replicate (k+1) its).flatten:=by
   rw[List.replicate_succ,List.flatten_cons,List.append_assoc]
  rw[<-e2,<-T4 its k (acc++its),<-e,List.replicate_succ,List.foldl_cons]
section
variable {X:Cx} {pins:List (Addr×Obj)} {σ:St} {H:Hp} {s:Shared} {l b:Addr} {xs ys zs:List V}
theorem Inv.lset{its its':List Value}{n:Nat}{f:Array Value->Array Value}{t':Nat}(I:Inv X pins σ H s)(hH:H l=some (.lst xs))
  (e:s.heap.get? l=some { cls:=.type "list",data:=.seq its.toArray n }) (hf:f its.toArray=its'.toArray) (hv:Vals ys its') (hz:ys.length<=sizeLine) :
  Inv X pins σ (upd H l (.lst ys)) { s with heap:=s.heap.update l (Obj.mapSeq f),toks:=t' }:=by
 have q:=PySem.IsL.update e f;rw[hf] at q
 refine I.write (x:=l) (e:=l) (by rw[hH];exact trivial) (.inl rfl) (fun b' u hb hu=>(Heap.get?_update_other s.heap (Obj.mapSeq f) (Ne.symm hb)).trans hu) ⟨_,q⟩ ?_
 exact⟨hz,its',_,hv,q⟩
theorem Inv.lnew{its:List Value}{t':Nat}(I:Inv X pins σ H s)(hv:Vals ys its)(hz:ys.length<=sizeLine) :
  Inv X pins σ (upd H s.heap.objs.size (.lst ys)) { s with heap:=s.heap.push { cls:=.type "list",data:=.seq its.toArray },toks:=t' }:=
 I.laid (fun _ _ q=>Heap.get?_push_of_some _ q) (Nat.le_refl _) ⟨hz,its,0,hv,Heap.get?_push_size _ rfl⟩
theorem Inv.fresh(I:Inv X pins σ H s):H s.heap.objs.size=none:=I.hok.fresh (Nat.le_refl _)
theorem Inv.lstM(I:Inv X pins σ H s)(hH:H l=some (.lst xs)):xs.length<=sizeLine/\∃(its:List Value) (n:Nat),Vals xs its/\xs.length=its.length/\s.heap.get? l=some { cls:=.type "list",data:=.seq its.toArray n }:=by
 obtain⟨z,its,n,r,e⟩:=I.hok l _ hH
 exact⟨z,its,n,r,r.length,e⟩
theorem OR{n:Nat}(h:n<=sizeLine):Builtin.List.listTooLong n=false:=by
 unfold Builtin.List.listTooLong
 exact decide_eq_false (by omega)
end
section
variable {X:Cx}
def Lb:V->List V->Hp->VK->Prop:=fun x vs H Q=>∃l xs y,x = .ref l/\vs=[y]/\H l=some (.lst xs)/\xs.length<sizeLine/\Q .non (upd H l (.lst (xs++[y])))
theorem Vp:Cv X "list.append" Lb:=by
 intro pins s σ H x vs v us Q I rx rv h
 obtain⟨l,xs,y,rfl,rfl,hH,hz,q⟩:=h
 cases rx
 obtain⟨u,rfl,ru⟩:=rv.one
 obtain⟨z,its,n,r,hl,e⟩:=I.lstM hH
 refine call_meets F.slot_list_append ⟨_,e,rfl⟩ F.entry_list_append (F.args_list_append_2 _ _) (PySem.list_append l its.toArray n u (by rw[List.size_toArray];omega)) ⟨e,?_⟩
 refine⟨.non,_,I.lset (its':=its++[u]) hH e (by simp) (r.append (.cons ru .nil)) ?_,rfl,q⟩
 rw[List.length_append,List.length_singleton];omega
def Lc:V->List V->Hp->VK->Prop:=fun x vs H Q=>∃l b xs zs,x = .ref l/\vs=[.ref b]/\H l=some (.lst xs)/\H b=some (.lst zs)/\xs.length+zs.length<=sizeLine/\Q .non (upd H l (.lst (xs++zs)))
theorem L6:Cv X "list.extend" Lc:=by
 intro pins s σ H x vs v us Q I rx rv h
 obtain⟨l,b,xs,zs,rfl,rfl,hH,hB,hz,q⟩:=h
 cases rx
 obtain⟨u,rfl,ru⟩:=rv.one
 cases ru
 obtain⟨z,its,n,r,hl,e⟩:=I.lstM hH
 obtain⟨z2,its2,n2,r2,hl2,e2⟩:=I.lstM hB
 have hsz:its.toArray.size+its2.toArray.size<=sizeLine:=by rw[List.size_toArray,List.size_toArray];omega
 have hlong:¬(!its.toArray.isEmpty&&Builtin.List.listTooLong (its.toArray.size+its2.toArray.size))=true:=by
  rw[OR hsz,Bool.and_false];exact Bool.false_ne_true
 refine call_meets F.slot_list_extend ⟨_,e,rfl⟩ F.entry_list_extend (F.args_list_extend_2 _ _)
  (AutoSeq1.list_extend_list_list_0 l its.toArray n b its2.toArray n2 hlong (by rw[List.size_toArray];omega) (by omega)) ⟨e,e2,?_⟩
 refine⟨.non,_,I.lset (its':=its++its2) hH e (by simp) (r.append r2) ?_,rfl,q⟩
 rw[List.length_append];omega
def Du:R2:=fun x y H Q=>∃l b xs zs,x = .ref l/\y = .ref b/\H l=some (.lst xs)/\H b=some (.lst zs)/\xs.length+zs.length<=sizeLine/\∀p,H p=none->Q (.ref p) (upd H p (.lst (xs++zs)))
theorem Jj:Uv X (binaryOp .Add) Du:=by
 intro pins s σ H x y v u Q I rx ry h
 obtain⟨l,b,xs,zs,rfl,rfl,hH,hB,hz,q⟩:=h
 cases rx;cases ry
 obtain⟨z,its,n,r,hl,e⟩:=I.lstM hH
 obtain⟨z2,its2,n2,r2,hl2,e2⟩:=I.lstM hB
 refine PySem.P.add_list e e2 ?_ (by rw[List.size_toArray,List.size_toArray];omega)
 have ea:its.toArray++its2.toArray=(its++its2).toArray:=by simp
 rw[ea]
 exact⟨.ref _,_,I.lnew (t':=s.toks) (r.append r2) (by rw[List.length_append];omega),rfl,q _ I.fresh⟩
def Cw:R2:=fun x y H Q=>∃l k xs,x = .ref l/\y = .int k/\H l=some (.lst xs)/\-(2^63)<=k/\k<2^63/\xs.length*k.toNat<=sizeLine/\
 ∀p,H p=none->Q (.ref p) (upd H p (.lst (List.replicate k.toNat xs).flatten))
theorem PP{α:Type}(xs:List α)(k:Nat):(List.replicate k xs).flatten.length=k*xs.length:=by
 induction k with
 | zero=>simp
 | succ k ih=>rw[List.replicate_succ,List.flatten_cons,List.length_append,ih,Nat.succ_mul,Nat.add_comm]
theorem Ej:Uv X (binaryOp .Mult) Cw:=by
 intro pins s σ H x y v u Q I rx ry h
 obtain⟨l,k,xs,rfl,rfl,hH,h1,h2,hz,q⟩:=h
 cases rx
 obtain⟨t,rfl⟩:=ry
 obtain⟨z,its,n,r,hl,e⟩:=I.lstM hH
 have hlen:its.toArray.size*k.toNat<=sizeLine:=by rw[List.size_toArray,<-hl];exact hz
 have hcap:¬its.toArray.size*k.toNat>(2^63-1)/8:=by
  have:(sizeLine:Nat)<=(2^63-1)/8:=by decide
  omega
 have hfit:¬(!Builtin.List.listFitsIndex k)=true:=by
  rw[fitsIndex_both h1 h2];exact Bool.false_ne_true
 have hlong:¬Builtin.List.listTooLong (its.toArray.size*k.toNat)=true:=by
  rw[OR hlen];exact Bool.false_ne_true
 have hnew:List.foldl (fun x1 x2=>x1++x2) #[] (List.replicate (if its.toArray.isEmpty=true then 0 else k.toNat) its.toArray)=(List.replicate k.toNat its).flatten.toArray:=by
  have f0:∀m:Nat,List.foldl (fun x1 x2=>x1++x2) #[] (List.replicate m its.toArray)=(List.replicate m its).flatten.toArray:=fun m=>by
   have:=T4 its m []
   rw[List.nil_append] at this;exact this
  rw[f0]
  cases its with
  | nil=>simp
  | cons a r'=>rw[if_neg (by simp)]
 refine wpAny_binaryOp_repeat_ref (T:="list") (U:="int") (by decide) ⟨_,e,rfl⟩ (fun s'=>typeIs_int s' k t) noFill_list_mul F.fills_int_mul F.slot_int_rmul repeat_list F.slot_int_index.lookup
  (call_meets F.slot_int_rmul (typeIs_int s k t) F.entry_int_rmul (F.args_int_rmul_2 _ _) (int___rmul___int_list k t l its.toArray n)
   ⟨e,rfl,⟨_,e,rfl⟩,call_meets F.slot_list_mul ⟨_,e,rfl⟩ F.entry_list_mul (F.args_list_mul_2 _ _) (AutoListH.list___mul___list_int_3 l its.toArray n k t hfit hcap hlong) ⟨e,?_⟩⟩)
 rw[hnew]
 exact⟨.ref _,_,I.lnew (t':=s.toks) (r.rep k.toNat) (by rw[PP,Nat.mul_comm];exact hz),rfl,q _ I.fresh⟩
end
end L2
namespace Att
open PySem PySem.W PySem.Calls PyProof.Rows
theorem SY{P:Params}{h:Heap}:∀(ns:List Int)(vs:List Value),WellAll P h vs (ns.map WData.int)->IntsAre vs ns:=by
 intro ns
 induction ns with
 | nil=>
  intro vs w;rw[List.map_nil] at w;cases w;exact .nil
 | cons n ns ih=>
  intro vs w;rw[List.map_cons] at w
  cases w with
  | cons a b=>
   cases a
   exact .cons _ _ (ih _ b)
theorem script_of{l:OpenLaw}{n:Nat}(hn:l.most=some n){P:Params}{h:Heap}{args:List WData}{vals:List Value}
  (hpre:l.row.toRowW.claim.pre args=true) (hwl:WellAll P h vals args) :
  ∃a vs ns,vals=[Value.ref a]/\args=[WData.list (ns.map WData.int)]/\h.get? a=some { cls:=.type "list",data:=.seq vs.toArray }/\IntsAre vs ns/\ns.length<=n:=by
 have hsh:WShape.hasAll [] args [.list .int]=true:=(pre_splitW hpre).1
 have hc:l.pre.holds [] { args:=args }=true:=(pre_splitW hpre).2
 obtain⟨d,r,rfl,h1,h2⟩:=hasAllW_cons hsh
 obtain rfl:=hasAllW_nil h2
 obtain⟨xs,rfl,h3⟩:=hasW_list h1
 obtain⟨ns,rfl⟩:=items_int h3
 have hlen:ns.length<=n:=by
  unfold OpenLaw.pre at hc
  have h4:(WTm.not (.lt (.lit (.int (n:Int))) (.len (.arg 0)))).holds [] { args:=[.list (ns.map .int)] }=true:=by
   have h4:=(holds_andW hc).1
   rw[hn] at h4;exact h4
  have h5:=condW_of h4 (w_not (w_lt w_lit (w_len_list (w_arg rfl))))
  rw[List.length_map] at h5
  refine Nat.le_of_not_lt fun q=>?_
  have q':(n:Int)<((ns.length:Nat):Int):=by omega
  first
   | (rw[decide_eq_true q'] at h5;exact absurd h5 (by decide))
   | (simp at h5;omega)
 cases hwl with
 | cons w1 w2=>
  cases w2
  cases w1 with
  | list ho hall=>exact⟨_,_,ns,rfl,rfl,ho,SY ns _ hall,hlen⟩
theorem post_true(l:OpenLaw)(args:List WData):l.row.toRowW.claim.post args (.bool true) args=true:=
 postW_of (r:=l.row.toRowW) (X:=(true==true))
  (show WShape.has [] (.bool true) .bool=true by first | rfl | decide | simp[WShape.has,WShape.arms,WShape.armsAll])
  (show(WTm.eq .res (.lit (.bool true))).value [] { args:=args,res:=some (.bool true),after:=args }=some (.bool (true==true)) from w_eq_bool (w_res rfl) w_lit) rfl
end Att
namespace L2
open PySem PySem.Spec PyProof.Rows
section
variable {κ:Type} [DecidableEq κ]
def U8(kvs:List (κ×V))(k:κ):Option V:=(kvs.find? fun kv=>decide (kv.1=k)).map (·.2)
def T5(kvs:List (κ×V))(k:κ)(v:V):List (κ×V):=
 if(kvs.any fun kv=>decide (kv.1=k))=true then kvs.map (fun kv=>if kv.1=k then(kv.1,v) else kv) else kvs++[(k,v)]
theorem OS{p:κ×V}{r:List (κ×V)}{k:κ}(e:p.1=k):U8 (p::r) k=some p.2:=by simp[U8,List.find?_cons,e]
theorem OT{p:κ×V}{r:List (κ×V)}{k:κ}(e:¬p.1=k):U8 (p::r) k=U8 r k:=by simp[U8,List.find?_cons,e]
theorem OU(k:κ):∀kvs:List (κ×V),(kvs.any fun kv=>decide (kv.1=k))=(U8 kvs k).isSome
 | []=>rfl
 | p::r=>by
  rw[List.any_cons]
  by_cases e:p.1=k
  ·simp only[OS e,decide_eq_true e,Bool.true_or,Option.isSome_some]
  ·rw[OT e,decide_eq_false e,Bool.false_or];exact OU k r
theorem OV(kvs:List (κ×V))(k:κ)(v:V):(T5 kvs k v).length<=kvs.length+1:=by
 unfold T5
 split
 ·rw[List.length_map];omega
 ·rw[List.length_append,List.length_cons,List.length_nil];omega
theorem RelO.isSome_eq{o:Option V}{u:Option Value}(r:RelO o u):o.isSome=u.isSome:=by
 cases o with
 | none=>cases u with
  | none=>rfl
  | some _=>exact(show False from r).elim
 | some _=>cases u with
  | none=>exact(show False from r).elim
  | some _=>rfl
end
theorem Dv{P:Program}{w:World}{k:Y4}{u:Value}(r:RelV (kV k) u):(YT P w).is k u=true:=by
 cases k with
 | inl i=>obtain⟨t,e⟩:=(show ∃t,u=Value.int i t from r);subst e;exact OH P w i t
 | inr x=>obtain⟨t,e⟩:=(show ∃t,u=Value.str x t from r);subst e;exact OI P w x t
theorem Q5{P:Program}{w:World}:∀{ks:List Y4}{us:List Value},Vals (ks.map kV) us->ItemsAre (YT P w) ks us
 | [],_,r=>by rw[List.map_nil] at r;cases r;exact .nil
 | k::ks,_,r=>by
  rw[List.map_cons] at r
  cases r with
  | cons h t=>exact .cons (Dv h) (Q5 t)
abbrev KT(H:Hp):List (List Y4×V)->List (List Y4×Addr×Value)->Prop:=Paired fun p q=>p.1=q.1/\H q.2.1=some (.tup (p.1.map kV))/\RelV p.2 q.2.2
theorem KT.val{H:Hp}{kvs:List (List Y4×V)}{xs:List (List Y4×Addr×Value)}(r:KT H kvs xs)(k:List Y4):RelO (U8 kvs k) ((atKey xs k).map (·.2)):=by
 induction r with
 | nil=>exact True.intro
 | @cons p q ps qs h t ih=>
  obtain⟨h1,_,h2⟩:=h
  by_cases e:p.1=k
  ·have e':q.1=k:=h1.symm.trans e
   have b:atKey (q::qs) k=some q.2:=by simp[atKey,List.find?_cons,e']
   rw[OS e,b];exact h2
  ·have e':¬q.1=k:=fun z=>e (h1.trans z)
   have b:atKey (q::qs) k=atKey qs k:=by simp[atKey,List.find?_cons,e']
   rw[OT e,b];exact ih
theorem KT.repl{H:Hp}{kvs:List (List Y4×V)}{xs:List (List Y4×Addr×Value)}(r:KT H kvs xs)(k:List Y4){y:V}{u:Value}(ry:RelV y u) :
  KT H (kvs.map fun kv=>if kv.1=k then(kv.1,y) else kv) (xs.map (putAt k u)):=by
 induction r with
 | nil=>exact .nil
 | @cons p q ps qs h t ih=>
  rw[List.map_cons,List.map_cons]
  refine .cons ?_ ih
  obtain⟨h1,h2,h3⟩:=h
  unfold putAt
  by_cases e:p.1=k
  ·rw[if_pos e,if_pos (h1.symm.trans e)];exact⟨h1,h2,ry⟩
  ·rw[if_neg e,if_neg (fun z=>e (h1.trans z))];exact⟨h1,h2,h3⟩
theorem KT.put{H:Hp}{kvs:List (List Y4×V)}{xs:List (List Y4×Addr×Value)}(r:KT H kvs xs)(k:List Y4){b:Addr}{y:V}{u:Value}(hb:H b=some (.tup (k.map kV)))(ry:RelV y u) :
  KT H (T5 kvs k y) (storedH xs k b u):=by
 have e:(kvs.any fun kv=>decide (kv.1=k))=(atKey xs k).isSome:=by
  rw[OU,(r.val k).isSome_eq,Option.isSome_map]
 unfold T5 storedH;rw[e]
 by_cases q:(atKey xs k).isSome=true
 ·rw[if_pos q,if_pos q];exact r.repl k ry
 ·rw[if_neg q,if_neg q];exact Paired.snoc r ⟨rfl,hb,ry⟩
theorem KT.keeps{H H':Hp}{kvs:List (List Y4×V)}{xs:List (List Y4×Addr×Value)}(r:KT H kvs xs)(ht:∀b ys,H b=some (.tup ys)->H' b=some (.tup ys)):KT H' kvs xs:=
 Paired.mapP r fun _ _ z=>⟨z.1,ht _ _ z.2.1,z.2.2⟩
section
variable {P:Program} {w:World} {H:Hp} {h:Heap} {a:Addr}
theorem Fu{u:HO}(ok:HOk P w H h)(e:Rd H a u):ObjOk P w H h a u:=e.ok ok
theorem Dw{kvs:List (Y4×V)}(ok:HOk P w H h)(e:Rd H a (.dK kvs)):kvs.length<=sizeLine/\(a==sysModules)=false/\∃vs,KV kvs vs/\h.DictOf (YT P w) a vs:=
 show ObjOk P w H h a (.dK kvs) from Fu ok e
theorem NV{ks:List Y4}(ok:HOk P w H h)(e:H a=some (.tup (ks.map kV))):(tupleKind (YT P w)).is h ks a:=by
 obtain⟨_,its,r,o,h1,h2,n,h3⟩:=(show ObjOk P w H h a (.tup (ks.map kV)) from ok a _ e)
 exact⟨o,its.toArray,n,h1,h2,h3,by simpa using Q5 r⟩
theorem Fv{kvs:List (List Y4×V)}(ok:HOk P w H h)(e:Rd H a (.dT kvs)):kvs.length<=sizeLine/\(a==sysModules)=false/\
  ∃xs,KT H kvs xs/\h.DictOfH (tupleKind (YT P w)) a xs:=by
 obtain⟨z,y,xs,r,o,es,ep,h1,h2,h3,h4,h5⟩:=(show ObjOk P w H h a (.dT kvs) from Fu ok e)
 refine⟨z,y,xs,r,o,es,ep,h1,h2,h3,h4,fun x hx=>?_,h5⟩
 have all:∀{l:List (List Y4×V)}{m:List (List Y4×Addr×Value)},KT H l m->∀x∈m,(tupleKind (YT P w)).is h x.1 x.2.1:=by
  intro l m q
  induction q with
  | nil=>intro x hx;exact nomatch hx
  | @cons p q ps qs hq t ih=>
   intro x hx
   rcases List.mem_cons.mp hx with e | hx
   ·subst e
    exact NV ok (by rw[<-hq.1];exact hq.2.1)
   ·exact ih x hx
 exact all r x hx
theorem Fw{kvs:List (List Y4×V)}(ok:HOk P w H h)(e:H a=some (.dT kvs)):kvs.length<=sizeLine/\(a==sysModules)=false/\
  ∃xs,KT H kvs xs/\h.DictOfH (tupleKind (YT P w)) a xs:=Fv ok (.inl e)
end
section
variable {X:Cx} {pins:List (Addr×Obj)} {σ:St} {H:Hp} {s:Shared} {a:Addr} {y v:V} {u r:Value} {o:Option V} {A:Around} {E:Value->Shared->Prop}
theorem Inv.big(I:Inv X pins σ H s):sysModules<s.heap.objs.size:=by
 have h:mainGlobals<s.heap.objs.size:=(I.mod.glob.keeps I.bk).lt
 exact Nat.lt_trans (by decide) h
theorem Ld{h':Heap}{t':Nat}{ob:HO}(I:Inv X pins σ H s)(mu:WY (H a))(hs:Heap.SameBut a s.heap h')(he:∃q,h'.get? a=some q)(new:ObjOk X.prog X.w (upd H a ob) h' a ob) :
  Inv X pins σ (upd H a ob) { s with heap:=h',toks:=t' }:=
 I.write (x:=a) (e:=a) mu (.inl rfl) (fun b q hb z=>(hs.2 b hb).trans z) he new
end
theorem OW{P:Program}{w:World}{H:Hp}(h:Heap)(hb:sysModules<h.objs.size):ObjOk P w H (h.push { cls:=.type "dict",data:=.dict #[] }) h.objs.size (.dT []):=
 ⟨Nat.zero_le _,beq_eq_false_iff_ne.mpr (Ne.symm (Nat.ne_of_lt hb)),[],.nil,_,#[],0,Heap.get?_push_size _ rfl,⟨rfl,rfl,rfl⟩,rfl,rfl,List.nodup_nil⟩
def Ek:TE:=fun _ H Q=>∀p,H p=none->Q (.ref p) (upd H p (.dT []))
section
variable {X:Cx} {pos:Pos}
theorem Jk:PE X (.Dict [] [] pos) Ek:=fun pins s σ H Q I h=>
 wpAny_Dict_empty ⟨.ref s.heap.objs.size,_,I.laid (a:=s.heap.objs.size) (o:=.dT []) (t':=s.toks) (fun _ _ q=>Heap.get?_push_of_some _ q) (Nat.le_refl _) (OW s.heap I.big),rfl,h _ (I.hok.fresh (Nat.le_refl _))⟩
end
def Jl:List (TE×TE)->St->Hp->(List (V×V)->Hp->Prop)->Prop
 | [],_,H,Q=>Q [] H
 | (tk,tv)::r,σ,H,Q=>tk σ H fun x H1=>tv σ H1 fun y H2=>Jl r σ H2 fun ps H3=>Q ((x,y)::ps) H3
abbrev VV:List (V×V)->List (Value×Value)->Prop:=Paired fun p q=>RelV p.1 q.1/\RelV p.2 q.2
def D5(X:Cx)(pos:Pos)(keys:List (Option Expr))(values:List Expr)(trs:List (TE×TE)):Prop:=
 ∀(pins:List (Addr×Obj))(s:Shared)(σ:St)(H:Hp)(Q:List (V×V)->Hp->Prop),Inv X pins σ H s->Jl trs σ H Q->
  wpAny (model X.prog X.w) X.A (evalPairs (pairTrees keys values X.env pos)) (fun vs s'=>∃ps H',Inv X pins σ H' s'/\VV ps vs/\Q ps H') X.xe s
theorem HR{X:Cx}{pos:Pos}:D5 X pos [] [] []:=fun pins s σ H Q I h=>pairTrees_nil_walk ⟨[],H,I,.nil,h⟩
theorem Jm{X:Cx}{pos:Pos}{k v:Expr}{ks:List (Option Expr)}{vs:List Expr}{tk tv:TE}{trs:List (TE×TE)}(hk:PE X k tk)(hv:PE X v tv)(hr:D5 X pos ks vs trs) :
  D5 X pos (some k::ks) (v::vs) ((tk,tv)::trs):=fun pins s σ H Q I h=>
 pairTrees_cons_walk (YZ (hk pins s σ H _ I h) fun u s1 ⟨x,H1,I1,rx,q1⟩=>YZ (hv pins s1 σ H1 _ I1 q1) fun w2 s2 ⟨y,H2,I2,ry,q2⟩=>
  YZ (hr pins s2 σ H2 _ I2 q2) fun ws s3 ⟨ps,H3,I3,rel,q3⟩=>⟨(x,y)::ps,H3,I3,.cons ⟨rx,ry⟩ rel,q3⟩)
structure M2(X:Cx)(o:Expr)(m:Str)(apos:Pos)(e f:Expr)(cpos:Pos):Prop where
 base:attributeBase o m X.env (eval o X.env)=eval o X.env
 few:((backTo cpos (starEach [e,f] X.env)).all (fun x=>!x.1)&&(backToKw cpos (keywordEach [] X.env)).all (fun x=>x.1.isSome)
  &&decide (([e,f]:List Expr).length+([]:List Keyword).length+(if([]:List Keyword).isEmpty then 0 else 1)<30))=true
 line:(apos.endLine==cpos.line)=true
 trees:backTo cpos (starEach [e,f] X.env)=[(false,eval e X.env),(false,eval f X.env)]
def CM(H:Hp)(a:Addr):Prop:=(∃kvs,Rd H a (.dK kvs))\/∃kvs,Rd H a (.dT kvs)
theorem Jn{X:Cx}{pins:List (Addr×Obj)}{σ:St}{H:Hp}{s:Shared}{a:Addr}(I:Inv X pins σ H s)(d:CM H a) :
  s.TypeIs (.ref a) "dict"/\(∀b,Value.ref a = .ref b->∃ob,s.heap.get? b=some ob/\ob.dict=none)/\(a==sysModules)=false:=by
 rcases d with⟨kvs,e⟩ | ⟨kvs,e⟩
 ·obtain⟨_,hd,vs,_,dd⟩:=Dw I.hok e
  refine⟨dd.typeIs,fun b q=>?_,hd⟩
  cases q
  obtain⟨ob,_,_,h1,h2,_⟩:=dd
  exact⟨ob,h1,h2.2.1⟩
 ·obtain⟨_,hd,xs,_,dd⟩:=Fv I.hok e
  refine⟨dd.typeIs,fun b q=>?_,hd⟩
  cases q
  obtain⟨ob,_,_,h1,h2,_⟩:=dd
  exact⟨ob,h1,h2.2.1⟩
theorem Q6:∀{vs:List Value}{ns:List Int},IntsAre vs ns->Vals (ns.map V.int) vs
 | _,_,.nil=>.nil
 | _,_,.cons n t h=>.cons ⟨t,rfl⟩ (Q6 h)
def El(H:Hp):Prop:=∀b,H b=none\/∃o xs,H b=some (.frz o (.lst xs))
theorem law_call{P:Program}{w:World}{K:PySem.W.Frag}{mg mb:Str->Option Value}{CX:HH}{k:Nat}{fa a:Addr}{fd:FuncData}{x:Str}{sp:Sp}{s₁:Shared}{vs:List Value}{ns:List Int}
  (KX:K.In s₁.heap) (hns:s₁.heap.Ns mainGlobals mg) (hb:s₁.heap.Ns builtinsNs mb) (hbb:∀x:Str,x≠"__name__"->mb x=bootBuiltins x) (hlim:s₁.heap.NoLimit) (hg:s₁.gens = #[])
  (ha:s₁.heap.get? a=some { cls:=.type "list",data:=.seq vs.toArray }) (hi:IntsAre vs ns) (hl:ns.length<=sizeLine) (hr:Room k callerA)
  (F:∀base:Heap,K.In base->base.Ns mainGlobals mg->SX P w K mg base CX k fa fd [x] sp) (hbind:∀(s:Shared)(u:Value),BindsTo s fd ⟨[u],[]⟩ [(x,u)])
  (hsp:∀H:Hp,El H->SqL K H a (ns.map V.int)->sp [.ref a] H (fun v _=>v = .bl true) fun _ _ _=>False)
  (hCX:∀H e s',CX [] H s₁ (fun _ _ _=>False) e s'->False) :
  codeAny (model P w) callerA (.call (.ref fa) ⟨[.ref a],[]⟩) (fun r s'=>r = .ok (.ret (.bool true))/\OldK s₁.heap s'.heap/\s'.os=s₁.os/\AllBare s'.gens) s₁:=by
 have rv:=Q6 hi;have lenV:=hi.length
 -- from an abstract heap in which nothing but the script may be tracked
 have core:∀H:Hp,El H->SqL K H a (ns.map V.int)->HOk P w H s₁.heap->(∀b,H b≠none->b=a)->(H a≠none->K.lookup a=none)->
   codeAny (model P w) callerA (.call (.ref fa) ⟨[.ref a],[]⟩) (fun r s'=>r = .ok (.ret (.bool true))/\OldK s₁.heap s'.heap/\s'.os=s₁.os/\AllBare s'.gens) s₁:=by
  intro H hO hS hok hA hK
  have base_of:∀{b:Addr}{o:Obj},s₁.heap.get? b=some o->H b=none->(PH s₁.heap H).get? b=some o:=fun e n=>K7 e n
  have noA:∀{b:Addr}{o:Obj}{es:Array DictEntry}{ep:Nat},s₁.heap.get? b=some o->o.data = .dict es ep->H b=none:=fun{b o es ep} e d=>by
   cases q:H b with
   | none=>rfl
   | some u=>
    have e':b=a:=hA b (by rw[q];simp)
    subst e'
    rw[ha] at e;cases e
    have d':Data.seq vs.toArray _=Data.dict es ep:=d
    cases d'
  have nsK:∀{b:Addr}{m:Str->Option Value},s₁.heap.Ns b m->(PH s₁.heap H).Ns b m:=fun{b m} ⟨o,es,ep,e,d,r⟩=>⟨o,es,ep,base_of e (noA e d),d,r⟩
  have hKb:K.In (PH s₁.heap H):=fun b o e=>base_of (KX b o e) (by
   cases q:H b with
   | none=>rfl
   | some u=>
    have e':b=a:=hA b (by rw[q];simp)
    subst e'
    rw[hK (by rw[q];simp)] at e;cases e)
  have hM:Mod K mg (PH s₁.heap H):=⟨hKb,nsK hns,⟨mb,nsK hb,hbb⟩,let⟨mc,h1,h2⟩:=hlim;⟨mc,nsK h1,h2⟩⟩
  have e0:HI P w K mg (PH s₁.heap H) callerA [] s₁ H:=⟨rfl,hM,fun b o e=>Ht e,Nat.le_of_eq (LV _ _),trivial,fun b hb=>absurd (show b∈([]:List Addr) from hb) (by simp),hok,.of_eq hg⟩
  refine codeAny_mono ((F _ hKb (nsK hns)).run callerA [] s₁ H ⟨[.ref a],[]⟩ [.ref a] [.ref a] _ _ hr e0 (hbind s₁ (.ref a)) (.cons rfl .nil) (hsp H hO hS)) fun r s' h=>?_
  cases r with
  | error e=>exact(hCX H e s' h).elim
  | ok fl=>
   cases fl with
   | next=>exact False.elim h
   | brk=>exact False.elim h
   | cont=>exact False.elim h
   | ret u=>
    obtain⟨v,H',os,bare,un,hok',r',q⟩:=h
    have q':v = .bl true:=q
    subst q'
    obtain rfl:u=Value.bool true:=r'
    refine⟨rfl,OldK.of_keep fun b o e=>?_,os,bare⟩
    cases q:H b with
    | none=>exact un.keep b o e q (by intro z;exact absurd (show b∈([]:List Addr) from z) (by simp)) (by simp)
    | some u=>
     rcases hO b with z | ⟨ob,xs,z⟩
     ·rw[q] at z;cases z
     ·have z2:=un.frzs b ob _ z
      obtain⟨e1,_⟩:=hok b _ z
      obtain⟨e2,_⟩:=hok' b _ z2
      rw[e] at e1;cases e1;exact e2
 cases hk:K.lookup a with
 | some o=>
  -- the script is one of the module's own objects
  have e:=KX a o hk;rw[ha] at e;cases e
  refine core (fun _=>none) (fun _=>.inl rfl) (.inr ⟨_,vs.toArray,_,hk,rfl,rfl,rfl,by rw[List.size_toArray,lenV];exact hl,by simpa using rv⟩) (fun b u z=>by have z':(none:Option HO)=some u:=z;cases z') (fun b z=>absurd rfl z) fun z=>absurd rfl z
 | none=>
  refine core (fun b=>if b=a then some (.frz { cls:=.type "list",data:=.seq vs.toArray } (.lst (ns.map V.int))) else none) (fun b=>?_) (.inl (.inr ⟨{ cls:=.type "list",data:=.seq vs.toArray },if_pos rfl⟩)) (fun b u z=>?_) (fun b z=>?_) fun _=>hk
  ·by_cases hb:b=a
   ·exact .inr ⟨_,_,if_pos hb⟩
   ·exact .inl (if_neg hb)
  ·by_cases hb:b=a
   ·have z':=(if_pos hb).symm.trans z
    cases z'
    subst hb
    exact⟨ha,by rw[List.length_map];exact hl,vs,_,rv,ha⟩
   ·have z':=(if_neg hb).symm.trans z
    cases z'
  ·by_cases hb:b=a
   ·exact hb
   ·exact absurd (if_neg hb) z
def Wv(s:Stmt):Arguments:=match s with
 | .FunctionDef _ a _ _ _ _ _ _ _ _=>a
 | _=>{ posonlyargs:=[],args:=[],vararg:=none,kwonlyargs:=[],kw_defaults:=[],kwarg:=none,defaults:=[] }
def Xf(s:Stmt):List Stmt:=match s with
 | .FunctionDef _ _ b _ _ _ _ _ _ _=>b
 | _=>[]
def Zp(s:Stmt):Scope:=match s with
 | .FunctionDef _ _ _ _ _ _ sc _ _ _=>sc
 | _=>{ kind:=.function,names:=[],isGenerator:=false,isCoroutine:=false }
abbrev Lf:HH:=fun _ _ _ _ _ _=>False
abbrev E0:XK:=fun _ _ _=>False
theorem Dx{X:Cx}:NR Lf X E0:=fun _ _ _ _ _ _ _ h=>h.elim
structure Fun(K:PySem.W.Frag)(x qual:Str)(st:Stmt)(f:Addr)(fd:FuncData):Prop where
 ex:∃(oc:Value) (od:Option Addr) (kV doc pm:Value) (an:Option Addr) (cdv ct:Value) (osl:Array (Option Value)),
  fd=PySem.W.fnOf x qual (Wv st) (Xf st) (Zp st) .none kV doc pm an cdv ct/\K.lookup f=some ⟨oc,od,.func fd,osl⟩/\PySem.W.codeIn K cdv qual=true
 kp:PySem.W.keepIn K (.ref f)=true
section
variable {P:Program} {w:World} {K:PySem.W.Frag} {mg:Str->Option Value} {base:Heap}
theorem Fun.ok{x qual:Str}{st:Stmt}{f:Addr}{fd:FuncData}{N ps:List Str}{k:Nat}{sp:Sp}(F:Fun K x qual st f fd)(S:ZH N ps (Zp st))(len:∀vs H Q E,sp vs H Q E->vs.length=ps.length)
  (hbody:∀(cdv:Value)(A:Around)(outer:List Env)(s:Shared)(H:Hp)(vs:List V)(Q:VK)(E:XK),Room k (A.deeper (envOfC qual (Zp st) s.heap.objs.size f cdv))->sp vs H Q E->
   ∃t,PSs (QP Lf P w K mg base N qual (Zp st) f cdv A outer s H E).nox (Xf st) t/\t { nx:=fun _ H'=>Q .non H',rt:=Q } (start N vs) H):SX P w K mg base Lf (k+1) f fd ps sp:=by
 obtain⟨oc,od,kV,doc,pm,an,cdv,ct,osl,rfl,lk,hcd⟩:=F.ex
 refine Dq lk hcd S len fun A outer s H vs Q E hr hsp=>?_
 obtain⟨t,h,q⟩:=hbody cdv A outer s H vs Q E hr hsp
 exact⟨t,h.nox,q⟩
theorem Fun.binds{x qual:Str}{st:Stmt}{f:Addr}{fd:FuncData}{ps:List Str}(F:Fun K x qual st f fd)
  (h:∀(kV doc pm:Value)(an:Option Addr)(cdv ct:Value)(us:List Value),us.length=ps.length->bindArgs (PySem.W.fnOf x qual (Wv st) (Xf st) (Zp st) .none kV doc pm an cdv ct) ⟨us,[]⟩=pure (ps.zip us)):Binds K fd ps []:=by
 obtain⟨oc,od,kV,doc,pm,an,cdv,ct,osl,rfl,lk,hcd⟩:=F.ex
 exact .all (h kV doc pm an cdv ct)
theorem Em{x qual:Str}{st:Stmt}{f:Addr}{oc:Value}{od an:Option Addr}{osl:Array (Option Value)}{kV doc pm cdv ct:Value}(l:K.lookup f=some ⟨oc,od,.func (PySem.W.fnOf x qual (Wv st) (Xf st) (Zp st) .none kV doc pm an cdv ct),osl⟩)
  (c:PySem.W.codeIn K cdv qual=true) (k:PySem.W.keepIn K (.ref f)=true):Fun K x qual st f (PySem.W.fnOf x qual (Wv st) (Xf st) (Zp st) .none kV doc pm an cdv ct):=⟨⟨oc,od,kV,doc,pm,an,cdv,ct,osl,rfl,l,c⟩,k⟩
end
theorem Fx{A:Around}{k:Nat}(hr:Room k A):A.units+1<cLine:=Nat.lt_of_le_of_lt (Nat.add_le_add_left (by decide:1<=64) _) hr.units
section
variable {X:Cx}
theorem pv(i:Nat){x:Str}{pos:Pos}(hN:X.N[i]?=some x:=by rfl)(hv:Cf X.env.scope x:=by first | exact Or.inl rfl | exact Or.inr (Or.inl rfl) | exact Or.inr (Or.inr rfl))(hd:(x==("__debug__" : Str))=false:=by decide)
  (hcd:(x==("__classdict__" : Str))=false:=by decide):PE X (.Name x pos) (V9 i):=FP hN hv hd hcd
end
theorem Dy{A B:Prop}(h:B):if false=true then A else B:=by
 rw[if_neg Bool.false_ne_true];exact h
theorem Dz{A B:Prop}(h:A):if true=true then A else B:=by
 rw[if_pos rfl];exact h
def Same(H H':Hp):Prop:=∀b o,H b=some o->H' b=some o
theorem Same.refl(H:Hp):Same H H:=fun _ _ h=>h
theorem Same.trans{H H1 H2:Hp}(a:Same H H1)(b:Same H1 H2):Same H H2:=fun c o h=>b c o (a c o h)
theorem Same.free{H H':Hp}(e:Same H H'){l:Addr}(h:H' l=Option.none):H l=Option.none:=by
 cases q:H l with
 | none=>rfl
 | some o=>
  rw[e l o q] at h;cases h
end L2
set_option maxHeartbeats 4000000
namespace L2
open PySem PySem.Spec PyProof.Rows
def Xt(cells:List (Str×Addr)):List (Str×NameKind)->List (Str×Addr)->List (Str×Addr)
 | [],acc=>acc
 | (n,k)::r,acc=>Xt cells r (if(k==NameKind.free)=true then(n,(cells.lookup n).getD 0)::acc else acc)
theorem U1{env:Env}:∀(names:List (Str×NameKind))(acc:List (Str×Addr)),(∀y∈names,y.2 = .free->(env.cells.lookup y.1).isSome=true)->
  (forIn (m:=Sem) names acc fun(x:Str×NameKind) (cs:List (Str×Addr))=>
   match x with
   | (name,kind)=>if(kind==NameKind.free)=true then do
     let c <-cellOf env name
     pure (ForInStep.yield ((name,c)::cs))
    else pure (ForInStep.yield cs))=pure (Xt env.cells names acc)
 | [],acc,_=>rfl
 | (n,k)::r,acc,h=>by
  rw[List.forIn_cons]
  have ih:=fun acc'=>U1 r acc' fun y hy=>h y (List.mem_cons_of_mem _ hy)
  cases hk:(k==NameKind.free) with
  | true=>
   have hs:=h (n,k) List.mem_cons_self (by simpa using hk)
   obtain⟨c,hc⟩:=Option.isSome_iff_exists.mp hs
   have hc:env.cells.lookup n=some c:=hc
   have e1:cellOf env n=pure c:=by unfold cellOf;rw[hc]
   dsimp only
   rw[hk,if_pos rfl,e1]
   refine Eq.trans (ih ((n,c)::acc)) ?_
   show _=pure (Xt env.cells r (if(k==NameKind.free)=true then(n,(env.cells.lookup n).getD 0)::acc else acc))
   rw[if_pos hk,hc];rfl
  | false=>
   dsimp only
   rw[hk,if_neg Bool.false_ne_true]
   refine Eq.trans (ih acc) ?_
   show _=pure (Xt env.cells r (if(k==NameKind.free)=true then(n,(env.cells.lookup n).getD 0)::acc else acc))
   rw[if_neg (by rw[hk];exact Bool.false_ne_true)]
theorem U2{scope:Scope}{env:Env}(h:∀y∈scope.names,y.2 = .free->(env.cells.lookup y.1).isSome=true):closureFor scope env=pure (Xt env.cells scope.names []):=by
 have e:=U1 (env:=env) scope.names [] h
 unfold closureFor
 dsimp only
 rw[e];rfl
theorem T6{cells:List (Str×Addr)}{x:Str}{c:Addr}:∀(names:List (Str×NameKind))(acc:List (Str×Addr)),(∀y∈names,y.2 = .free->(cells.lookup y.1).isSome=true)->(acc.lookup x=some c->cells.lookup x=some c)->
  (Xt cells names acc).lookup x=some c->cells.lookup x=some c
 | [],_,_,h,e=>h e
 | (n,k)::r,acc,hf,h,e=>by
  refine T6 r _ (fun y hy=>hf y (List.mem_cons_of_mem _ hy)) ?_ e
  intro q
  by_cases hk:(k==NameKind.free)=true
  ·rw[if_pos hk,List.lookup_cons] at q
   cases hx:x==n with
   | true=>
    rw[hx] at q
    have exn:x=n:=by simpa using hx
    obtain⟨d,hd⟩:=Option.isSome_iff_exists.mp (hf (n,k) List.mem_cons_self (by simpa using hk))
    have hd:cells.lookup n=some d:=hd
    rw[hd] at q
    rw[exn,hd];exact q
   | false=>rw[hx] at q;exact h q
  ·rw[if_neg hk] at q;exact h q
theorem RK{cells:List (Str×Addr)}{x:Str}:∀(names:List (Str×NameKind))(acc:List (Str×Addr)),(acc.lookup x).isSome=true->((Xt cells names acc).lookup x).isSome=true
 | [],_,h=>h
 | (n,k)::r,acc,h=>by
  refine RK r _ ?_
  split
  ·rw[List.lookup_cons];split<;>simp_all
  ·exact h
theorem T7{cells:List (Str×Addr)}{x:Str}:∀(names:List (Str×NameKind))(acc:List (Str×Addr)),(x,NameKind.free)∈names->((Xt cells names acc).lookup x).isSome=true
 | (n,k)::r,acc,h=>by
  rcases List.mem_cons.mp h with e | h
  ·cases e
   refine RK r _ ?_
   rw[if_pos (by decide),List.lookup_cons]
   simp
  ·exact T7 r _ h
structure CompScope(N:List Str)(around scope:Scope)(own fr:List Str)(ix:List Nat):Prop where
 kind:scope.kind = .function
 nocell:∀y∈scope.names,y.2≠.cell
 names:∀y∈scope.names,y.2 = .local->scope.names.lookup y.1=some .local
 frees:∀y∈scope.names,y.2 = .free->(around.names.lookup y.1=some .cell\/around.names.lookup y.1=some .free)
 slots:fr.map some=ix.map (fun i=>N[i]?)
 outs:∀x∈fr,(x,NameKind.free)∈scope.names
 apart:∀x∈fr,scope.names.lookup x≠some .local
def ZW(X:Cx)(N':List Str)(scope:Scope)(cl:List (Str×Addr))(C:Addr)(s:Shared)(H:Hp)(ex:List Addr):Cx:=
 { X with N:=N',s₀:=s,H₀:=H,env:=compEnvC scope cl C X.env,outer:=X.stack,ex:=ex,fn:=fun _=>false,pn:=[],xe:=fun _ _=>False }
def YE(n:Nat)(ix:List Nat)(σ:St):St:=List.replicate n none++ix.map (fun i=>(σ[i]?).join)
theorem Ww{env:Env}{x:Str}:∀{names:List (Str×NameKind)}{k:NameKind},names.lookup x=some k->
  (names.map fun(n,k)=>if(k==NameKind.free&&env.scope.kind==.function&&env.kindOf n==some .cell) then(n,NameKind.cell) else(n,k)).lookup x =
   some (if(k==NameKind.free&&env.scope.kind==.function&&env.kindOf x==some .cell)=true then NameKind.cell else k)
 | [],_,h=>by simp at h
 | (n,k')::r,k,h=>by
  show List.lookup x ((if(k'==NameKind.free&&env.scope.kind==.function&&env.kindOf n==some .cell)=true then(n,NameKind.cell) else(n,k'))::_)=_
  cases hx:x==n with
  | true=>
   simp only[List.lookup_cons,hx] at h;cases h
   have e:x=n:=by simpa using hx
   subst e
   split
   ·simp[List.lookup_cons]
   ·simp[List.lookup_cons]
  | false=>
   simp only[List.lookup_cons,hx] at h
   split
   ·simp only[List.lookup_cons,hx];exact Ww h
   ·simp only[List.lookup_cons,hx];exact Ww h
theorem VB{env:Env}{x:Str}:∀{names:List (Str×NameKind)}{k':NameKind},
  (names.map fun(n,k)=>if(k==NameKind.free&&env.scope.kind==.function&&env.kindOf n==some .cell) then(n,NameKind.cell) else(n,k)).lookup x=some k'->∃k,names.lookup x=some k
 | [],_,h=>by simp at h
 | (n,k0)::r,k',h=>by
  have h:List.lookup x ((if(k0==NameKind.free&&env.scope.kind==.function&&env.kindOf n==some .cell)=true then(n,NameKind.cell) else(n,k0))::_)=some k':=h
  cases hx:x==n with
  | true=>exact⟨k0,by simp[List.lookup_cons,hx]⟩
  | false=>
   have:∃k,r.lookup x=some k:=by
    apply VB (env:=env) (k':=k')
    split at h<;>simpa [List.lookup_cons,hx] using h
   obtain⟨k,e⟩:=this
   exact⟨k,by simp[List.lookup_cons,hx,e]⟩
section
variable {X:Cx} {pins:List (Addr×Obj)} {σ:St} {H:Hp} {s:Shared} {own fr:List Str} {ix:List Nat} {scope:Scope}
theorem CompScope.clos(S:CompScope X.N X.env.scope scope own fr ix)(I:Inv X pins σ H s):∀y∈scope.names,y.2 = .free->(X.env.cells.lookup y.1).isSome=true:=fun y hy hf=>by
 obtain⟨c,e⟩:=I.ok.has y.1 (S.frees y hy hf)
 rw[e];rfl
end
theorem PQ{prog:Program}{w:World}{A:Around}{R:Result->Shared->Prop}{s:Shared}{elt target iter:Expr}{ifs:List Expr}{scope:Scope}{pos:Pos}{it acc:Value}{env:Env}(I:Nat->Shared->Prop)
  (turn:∀n s,I n s->wpAny (model prog w) A (pyNext it) (fun r s₁=>match r with
   | none=>R (.ok .next) s₁
   | some v=>wpAny (model prog w) A (letOwnedTupleGo target it v) (fun _ s₁'=>wpAny (model prog w) A (assign target env v) (fun _ s₂=>
     wpAny (model prog w) A (forIn ifs true fun c r=>if r=true then do let ok <-isTrue c env (eval c env);pure (ForInStep.yield ok) else pure (ForInStep.yield r)) (fun ok s₃=>
      if ok=true then wpAny (model prog w) A (eval elt env) (fun x s₄=>
       wpAny (model prog w) A (call (.builtin "list.append") [acc,x]) (fun _ s₅=>∃m,m<n/\I m s₅) (notedBy (model prog w) A env fun e s'=>R (.error e) s') s₄) (notedBy (model prog w) A env fun e s'=>R (.error e) s') s₃
      else ∃m,m<n/\I m s₃) (notedBy (model prog w) A env fun e s'=>R (.error e) s') s₂) (notedBy (model prog w) A env fun e s'=>R (.error e) s') s₁') (notedBy (model prog w) A env fun e s'=>R (.error e) s') s₁) (notedBy (model prog w) A env fun e s'=>R (.error e) s') s)
  (n:Nat) (h:I n s) :
  codeAny (model prog w) A (.compLoop (.ListComp elt [⟨target,iter,ifs,0⟩] scope pos) 0 it acc env) R s:=by
 refine codeAny_loop rfl I (fun n s hI=>?_) n h
 show wpAny _ A ((compTurn (.ListComp elt [⟨target,iter,ifs,0⟩] scope pos) 0 it acc env).onRaise (fun x=>do noteFrame x env;theTreesLotGoes x)) _ _ s
 refine wpAny_noted ?_
 rw[compTurn_list]
 refine wpAny_bind (wpAny_standAt (wpAny_bind (wpAny_mono (turn n s hI) (fun r s₁ h₁=>?_) fun _ _ h'=>h')))
 cases r with
 | none=>exact wpAny_pure h₁
 | some v=>
  refine wpAny_bind (wpAny_mono h₁ (fun _ s₁' h₁'=>?_) fun _ _ h'=>h')
  refine wpAny_bind (wpAny_mono h₁' (fun _ s₂ h₂=>wpAny_bind (wpAny_mono h₂ (fun ok s₃ h₃=>?_) fun _ _ h'=>h')) fun _ _ h'=>h')
  cases ok with
  | false=>exact wpAny_pure ⟨rfl,h₃⟩
  | true=>
   exact wpAny_bind (wpAny_bind (wpAny_mono h₃ (fun x s₄ h₄=>wpAny_bind (wpAny_mono h₄ (fun _ s₅ h₅=>wpAny_pure (wpAny_pure ⟨rfl,h₅⟩)) fun _ _ h'=>h')) fun _ _ h'=>h'))
def K3(X:Cx)(ifs:List Expr)(t:TT):Prop:=
 ∀(pins:List (Addr×Obj))(s:Shared)(σ:St)(H:Hp)(Q:Bool->Hp->Prop),Inv X pins σ H s->t σ H Q->
  wpAny (model X.prog X.w) X.A (forIn ifs true fun c r=>if r=true then do let ok <-isTrue c X.env (eval c X.env);pure (ForInStep.yield ok) else pure (ForInStep.yield r)) (TP X pins σ Q) X.xe s
def DA:TT:=fun _ H Q=>Q true H
theorem HS{X:Cx}:K3 X [] DA:=fun _ _ _ H _ I h=>wpAny_tests_nil ⟨H,I,h⟩
theorem HU{X:Cx}{c:Expr}{t:TT}(h:PT X c t):K3 X [c] t:=fun pins s σ H Q I hq=>wpAny_tests_one (h pins s σ H Q I hq)
def DB(n:Nat)(ix:List Nat)(g:TG)(tt:TT)(te:TE)(σ:St)(Q:VK)(J:It)(H1:Hp):Prop:=
 ∃W:Nat->Nat->List V->Hp->Prop,(∃m,W 0 m [] H1)/\∀i m ys H,W i m ys H->ys.length<=sizeLine/\
  ((J.stop i H/\∀p,H p=none->Q (.ref p) (upd H p (.lst ys)))\/
   (J.go i H/\∃N:List V->Hp->Prop,(∀ys' H',N ys' H'->∃m',m'<m/\W (i+1) m' ys' H')/\
    ∀x H',J.yld i H x H'->g x (YE n ix σ) H' fun σ2 H2=>σ2.drop n=(YE n ix σ).drop n/\tt σ2 H2 fun b H3=>if b=true then te σ2 H3 fun y H4=>N (ys++[y]) H4 else N ys H3))
def RL(n:Nat)(ix:List Nat)(wi:TI)(g:TG)(tt:TT)(te:TE):TE:=fun σ H Q=>wi σ H fun J H1=>DB n ix g tt te σ Q J H1
theorem L7{n:Nat}{ix:List Nat}{σ σ2:St}(hd:σ2.drop n=(YE n ix σ).drop n):∀(i:Nat) v,(YE n ix σ)[i]?=some (some v)->σ2[i]?=some (some v):=fun i v e=>by
 by_cases hi:i<n
 ·unfold YE at e
  rw[List.getElem?_append_left (by simpa using hi),List.getElem?_replicate] at e
  rw[if_pos hi] at e;cases e
 ·have q:=congrArg (fun l=>l[i-n]?) hd
  simp only[List.getElem?_drop] at q;rw[show n+(i-n)=i by omega] at q
  rw[q];exact e
section
variable {X:Cx} {tg elt iter:Expr} {ifs:List Expr} {scope:Scope} {pos:Pos} {own fr:List Str} {ix:List Nat} {wi:TI} {g:TG} {tt:TT} {te:TE}
theorem Jo{pins:List (Addr×Obj)}{σ:St}{H2:Hp}{s2:Shared}{fp:List Addr}{h₁:Heap}{tk:Nat}{C:Addr}(S:CompScope X.N X.env.scope scope own fr ix)(I2:Inv X pins σ H2 s2)(f2:∀b∈fp,Tl X pins H2 b)(hfp:∀b∈fp,b<s2.heap.objs.size)
  (hC:s2.heap.objs.size<=C) (hns:h₁.Ns C fun _=>none) (old:∀b o,s2.heap.get? b=some o->h₁.get? b=some o) :
  Inv (ZW X (own++fr) scope (Xt X.env.cells scope.names []) C s2 H2 fp) [] (YE own.length ix σ) H2 { s2 with heap:=h₁,toks:=tk }:=by
 have cs:=S.clos I2
 have sub:∀x c,(Xt X.env.cells scope.names []).lookup x=some c->X.env.cells.lookup x=some c:=fun x c e=>T6 scope.names [] cs (fun h=>by simp at h) e
 have stk:=I2.stkSub
 have okk:(ZW X (own++fr) scope (Xt X.env.cells scope.names []) C s2 H2 fp).Ok:=by
  refine⟨I2.ok.mod,S.kind,I2.ok.glob,I2.ok.blt,hC,fun x y c h1 h2=>I2.ok.inj x y c (sub x c h1) (sub y c h2),fun x hx=>?_,fun x c h _=>?_,I2.ok.hd,I2.ok.frames,.inl rfl,fun b hb=>⟨?_,fun x c e=>?_⟩,I2.bs,?_,fun b o e hb=>?_,fun b hb z=>?_,I2.stack,I2.stkFree⟩
  ·-- the cells of the block's free names
   have hx:(relabel scope X.env).names.lookup x=some .cell\/(relabel scope X.env).names.lookup x=some .free:=hx
   have key:(x,NameKind.free)∈scope.names:=by
    have:∃k',(relabel scope X.env).names.lookup x=some k'/\(k' = .cell\/k' = .free):=by
     rcases hx with h | h
     ·exact⟨_,h,.inl rfl⟩
     ·exact⟨_,h,.inr rfl⟩
    obtain⟨k',e,hk'⟩:=this
    obtain⟨k,e0⟩:=VB e
    have e1:=Ww (env:=X.env) e0
    have e:(scope.names.map fun(n,k)=>if(k==NameKind.free&&X.env.scope.kind==.function&&X.env.kindOf n==some .cell) then(n,NameKind.cell) else(n,k)).lookup x=some k':=e
    rw[e1] at e;have m:=PySem.mem_of_lookup e0
    cases k with
    | free=>exact m
    | cell=>exact absurd rfl (S.nocell _ m)
    | _=>simp at e;subst e;rcases hk' with z | z<;>cases z
   exact Option.isSome_iff_exists.mp (T7 _ _ key)
  ·cases h
  ·-- fp differs from the frame
   exact Nat.ne_of_lt (Nat.lt_of_lt_of_le (hfp b hb) hC)
  ·exact(f2 b hb).2.2.2.2.1 x c (sub x c e)
  ·exact Nat.le_trans I2.ok.bsz I2.sz
  ·rcases(f2 b hb).2.2.2.1 with z | z
   ·exact I2.ok.noex b o e z
   ·exact absurd (Nat.lt_of_lt_of_le (Heap.lt_size (I2.ok.bs b o e).1) z) (Nat.lt_irrefl _)
  ·rcases List.mem_cons.mp (stk b z) with e | e
   ·exact(f2 b hb).2.1 e
   ·exact(f2 b hb).2.2.1 e
 have sl:fr.length=ix.length:=by simpa using congrArg List.length S.slots
 refine⟨okk,rfl,I2.bare,Un.kept old,⟨_,hns,fun i x v h1 h2 h3=>?_⟩,fun x c e=>?_,I2.hok.fresh hC,fun x c e=>I2.freeC x c (sub x c e),fun p hp=>absurd (show p∈([]:List (Addr×Obj)) from hp) (by simp),I2.hok.kept old,?_⟩
 ·-- a name of the def around
  have h1:(own++fr)[i]?=some x:=h1
  have hi:¬i<own.length:=fun hi=>by
   unfold YE at h2;rw[List.getElem?_append_left (by simpa using hi),List.getElem?_replicate,if_pos hi] at h2;cases h2
  rw[List.getElem?_append_right (by omega)] at h1;unfold YE at h2;rw[List.getElem?_append_right (by simpa using hi),List.length_replicate,List.getElem?_map] at h2
  cases ej:ix[i-own.length]? with
  | none=>rw[ej] at h2;cases h2
  | some j=>
   rw[ej] at h2
   have h2:(σ[j]?).join=some v:=by simpa using h2
   have h2:σ[j]?=some (some v):=by
    cases q:σ[j]? with
    | none=>rw[q] at h2;cases h2
    | some z=>rw[q] at h2;exact congrArg some h2
   have hN:X.N[j]?=some x:=by
    have q:=congrArg (fun l=>l[i-own.length]?) S.slots
    simp only[List.getElem?_map,h1,ej,Option.map_some] at q
    exact(Option.some.inj q).symm
   have hm:=S.outs x (List.mem_of_getElem? h1)
   have hk:=S.frees _ hm rfl
   have hk:X.env.scope.names.lookup x=some .cell\/X.env.scope.names.lookup x=some .free:=hk
   obtain⟨m,hn,hl⟩:=I2.loc
   obtain⟨u,r,l⟩:=hl j x v hN h2 (by rcases hk with k | k;exact .inr (.inl k);exact .inr (.inr k))
   refine⟨u,r,?_⟩
   rcases l with⟨k,_⟩ | ⟨_,c,hc,hcell⟩
   ·have k:X.env.scope.names.lookup x=some .local:=k
    rcases hk with q | q<;>rw[k] at q<;>cases q
   ·obtain⟨c',hc'⟩:=Option.isSome_iff_exists.mp (T7 (cells:=X.env.cells) _ [] hm)
    have ec:=sub x c' hc'
    rw[hc] at ec;cases ec
    refine .inr ⟨?_,c,hc',?_⟩
    ·have h3:(relabel scope X.env).names.lookup x=some .local\/(relabel scope X.env).names.lookup x=some .cell\/(relabel scope X.env).names.lookup x=some .free:=h3
     rcases h3 with h3 | h3
     ·obtain⟨k0,e0⟩:=VB h3
      have e1:=Ww (env:=X.env) e0
      have h3:(scope.names.map fun(n,k)=>if(k==NameKind.free&&X.env.scope.kind==.function&&X.env.kindOf n==some .cell) then(n,NameKind.cell) else(n,k)).lookup x=some .local:=h3
      rw[e1] at h3
      have k0l:k0 = .local:=by
       cases k0<;>simp at h3 ⊢
       split at h3<;>cases h3
      subst k0l
      exact absurd e0 (S.apart x (List.mem_of_getElem? h1))
     ·exact h3
    ·obtain⟨o,ho,hd⟩:=hcell
     exact⟨o,old _ _ ho,hd⟩
 ·obtain⟨v,o,ho,hd⟩:=I2.cell x c (sub x c e)
  exact⟨v,o,old _ _ ho,hd⟩
 ·show(YE own.length ix σ).length=(own++fr).length
  unfold YE;rw[List.length_append,List.length_replicate,List.length_map,List.length_append,sl]
theorem RM{pins:List (Addr×Obj)}{σ:St}{H2:Hp}{s2:Shared}{fp:List Addr}{it:Addr}{tn:Nat->Heap->Prop}{J:It}{Fin:List V->Hp->Prop}{RR:Value->Addr->Result->Shared->Prop}{E:Value->Shared->Prop}
  (hcalm:X.calm=true) (S:CompScope X.N X.env.scope scope own fr ix)
  (hg:∀cl C s H ex,PG (ZW X (own++fr) scope cl C s H ex) tg g) (ht:∀cl C s H ex,K3 (ZW X (own++fr) scope cl C s H ex) ifs tt) (he:∀cl C s H ex,PE (ZW X (own++fr) scope cl C s H ex) elt te)
  (I2:Inv X pins σ H2 s2) (T:PJ X.prog X.w X.K tg J fp it tn) (st2:tn 0 s2.heap) (f2:∀b∈fp,Tl X pins H2 b)
  {W:Nat->Nat->List V->Hp->Prop} {m0:Nat} (w0:W 0 m0 [] H2)
  (turn:∀i m ys H,W i m ys H->ys.length<=sizeLine/\
   ((J.stop i H/\Fin ys H)\/
    (J.go i H/\∃N:List V->Hp->Prop,(∀ys' H',N ys' H'->∃m',m'<m/\W (i+1) m' ys' H')/\
     ∀x H',J.yld i H x H'->g x (YE own.length ix σ) H' fun σ2 H2=>σ2.drop own.length=(YE own.length ix σ).drop own.length/\tt σ2 H2 fun b H3=>if b=true then te σ2 H3 fun y H4=>N (ys++[y]) H4 else N ys H3)))
  (hRR:∀(D C:Addr)(oC:Obj)(m:Str->Option Value)(s':Shared)(H':Hp)(ys:List V),Inv X (pins++[(C,oC)]) σ (upd H' D (.lst ys)) s'->s'.heap.get? C=some oC->s'.heap.Ns C m->Tl X pins (upd H' D (.lst ys)) C->H' D=none->Fin ys H'->RR (.ref D) C (.ok .next) s') :
  wpAny (model X.prog X.w) X.A (newList []) (fun acc s₃=>wpAny (model X.prog X.w) X.A (newFunctionEnv scope X.env.globals (Xt X.env.cells scope.names []) [] X.env.qual none .none (some X.env)) (fun cenv s₄=>
   codeAny (model X.prog X.w) X.A (.compStart (.ListComp elt [⟨tg,iter,ifs,0⟩] scope pos) 0 (.ref it) acc { cenv with scope:=relabel scope X.env }) (RR acc cenv.locals) s₄) E s₃) E s2:=by
 have hfp:∀b∈fp,b<s2.heap.objs.size:=fun b hb=>by
  obtain⟨o,e,_⟩:=T.obj 0 s2.heap st2 b hb
  exact Heap.lt_size e
 refine wpAny_newObj_type (wpAny_newFunctionEnv S.nocell (by intro y hy;simp at hy) (fun h₁ hns₁ hsb₁=>?_) S.kind)
 dsimp only at hns₁ hsb₁ ⊢
 generalize hH2:s2.heap.push { cls:=.type "list",dict:=none,data:=.seq ([]:List Value).toArray }=G2 at hns₁ hsb₁ ⊢
 have hC:G2.objs.size=s2.heap.objs.size+1:=by rw[<-hH2,Heap.size_push]
 generalize hCC:G2.objs.size=C at hns₁ hsb₁ hC ⊢
 generalize hDD:s2.heap.objs.size=D at hC ⊢
 have hDC:D≠C:=by omega
 have below:∀b,b<s2.heap.objs.size->b≠C/\b≠D:=fun b hb=>by
  rw[hDD] at hb
  exact⟨Nat.ne_of_lt (by omega),Nat.ne_of_lt hb⟩
 have old:∀b o,s2.heap.get? b=some o->h₁.get? b=some o:=fun b o e=>hsb₁.extBut b o (below b (Heap.lt_size e)).1 (Heap.get?_push_of_some _ (hH2▸Heap.get?_push_of_some _ e))
 have hacc:h₁.get? D=some { cls:=.type "list",data:=.seq ([]:List Value).toArray 0 }:=by
  have e0:G2.get? D=some { cls:=.type "list",data:=.seq ([]:List Value).toArray 0 }:=by
   rw[<-hH2,<-hDD]
   exact Heap.get?_push_size _ rfl
  exact hsb₁.extBut _ _ hDC (Heap.get?_push_of_some _ e0)
 have hns₁':h₁.Ns C fun _=>none:=by simpa using hns₁
 have I0:=fun tk=>Jo (tk:=tk) S I2 f2 hfp (C:=C) (by omega) hns₁' old
 -- what stays true of the iterator's objects in the block
 have loop:∀s₃:Shared,s₃={ s2 with heap:=h₁,toks:=s2.toks+([]:List (Str×Value)).length }->
   codeAny (model X.prog X.w) X.A (.compLoop (.ListComp elt [⟨tg,iter,ifs,0⟩] scope pos) 0 (.ref it) (.ref D) (compEnvC scope (Xt X.env.cells scope.names []) C X.env)) (RR (.ref D) C) s₃:=by
  rintro s₃ rfl
  generalize hY:ZW X (own++fr) scope (Xt X.env.cells scope.names []) C s2 H2 fp=Y at I0
  have stat:∀{H':Hp}{pn:List (Addr×Obj)},(∀b∈fp,H' b=none)->(∀p∈pn,∀b∈fp,p.1≠b)->∀b∈fp,Tl Y pn H' b:=fun{H' pn} hn hp b hb=>by
   subst hY
   refine⟨hn b hb,(below b (hfp b hb)).1,fun z=>?_,.inl hb,fun x c e=>?_,fun p hp'=>hp p hp' b hb⟩
   ·exact(I0 0).ok.exfs b hb z
   ·exact((I0 0).ok.exf b hb).2 x c e
  have dfp:∀b∈fp,D≠b:=fun b hb=>Ne.symm (below b (hfp b hb)).2
  have hcellD:∀x c,Y.env.cells.lookup x=some c->c≠D:=fun x c e z=>by
   subst hY
   have e:(Xt X.env.cells scope.names []).lookup x=some c:=e
   have e':=T6 scope.names [] (S.clos I2) (fun h=>by simp at h) e
   obtain⟨v,q⟩:=I2.cell x c e'
   exact(below c q.lt).2 z
  have hfsD:D∉Y.fs:=fun z=>by
   subst hY
   obtain⟨_,o,ho,_⟩:=(I0 0).ok.funs.mem z
   have:=Heap.lt_size ho
   have:D<s2.heap.objs.size:=this
   omega
  have eL:Y.env.locals=C:=by subst hY;rfl
  have eS:Y.s₀=s2:=by subst hY;rfl
  have eP:Y.pn=[]:=by subst hY;rfl
  refine PQ (fun n s'=>∃i ys its nn H',Inv Y [] (YE own.length ix σ) H' s'/\tn i s'.heap/\(∀b∈fp,H' b=none)/\s'.heap.get? D=some { cls:=.type "list",data:=.seq its nn }/\Vals ys its.toList/\H' D=none/\W i n ys H') ?_ m0
   ⟨0,[],#[],0,H2,I0 _,T.keep _ _ _ st2 fun b _ o e=>old b o e,fun b hb=>(f2 b hb).1,hacc,.nil,I2.hok.fresh (by omega),w0⟩
  rintro n s3 ⟨i,ys,its,nn,H3,I3,st3,fr3,oD,vD,nD,w3⟩
  obtain⟨hlen,cases3⟩:=turn i n ys H3 w3
  have hsize:its.size<=sizeLine:=by
   have:=vD.length
   simp only[Array.length_toList] at this;omega
  have pD:Inv Y [(D,{ cls:=.type "list",data:=.seq its nn })] (YE own.length ix σ) H3 s3:=I3.pins_of fun p hp=>by
   rw[List.mem_singleton.mp hp]
   exact⟨oD,nD,by rw[eL];exact hDC,hfsD,fun v z=>by cases z⟩
  have YP:Y.prog=X.prog:=by subst hY;rfl
  have Yw:Y.w=X.w:=by subst hY;rfl
  have YK:Y.K=X.K:=by subst hY;rfl
  have YA:Y.A=X.A:=by subst hY;rfl
  have Yx:Y.xe=fun _ _=>False:=by subst hY;rfl
  have Ye:Y.env=compEnvC scope (Xt X.env.cells scope.names []) C X.env:=by subst hY;rfl
  have ne1:∀p∈[((D,{ cls:=.type "list",data:=.seq its nn }):Addr×Obj)],∀b∈fp,p.1≠b:=fun p hp b hb=>by rw[List.mem_singleton.mp hp];exact dfp b hb
  rcases cases3 with⟨stop,qn⟩ | ⟨go,N,hN,step⟩
  ·have d:=T.done Y YP Yw YK (by subst hY;exact hcalm) i _ s3 _ H3 (notedBy (model X.prog X.w) X.A (compEnvC scope (Xt X.env.cells scope.names []) C X.env) fun e s'=>RR (.ref D) C (.error e) s') pD (stat fr3 ne1) st3 stop
   rw[YA] at d
   refine YZ d fun r s4 ⟨hr,I4⟩=>?_
   subst hr
   show RR (.ref D) C (.ok .next) s4
   obtain⟨oD4,nD4,_⟩:=I4.pin (D,_) (by rw[eP];exact List.mem_cons_self)
   obtain⟨m,hn,_⟩:=I4.loc
   rw[eL] at hn
   obtain⟨oC,es,ep,hoC,hdC,hrest⟩:=id hn
   have hfreeC:H3 C=none:=by have:=I4.free;rw[eL] at this;exact this
   have un:Un (OJ X.stack) fp H2 H3 s2.heap s4.heap:=by
    have:=I4.base
    subst hY;exact this
   have lt2:∀b o,s2.heap.get? b=some o->b≠D:=fun b o e=>(below b (Heap.lt_size e)).2
   have un':Un (OJ X.stack) fp H2 (upd H3 D (.lst ys)) s2.heap s4.heap:=by
    refine⟨un.keep,un.slot,fun b o e n hx=>?_,un.there,fun b xs e=>?_,fun b o u e=>?_,fun b ps e=>?_⟩
    ·rw[upd_ne (lt2 b o e)];exact un.free b o e n hx
    ·have q:=un.tups b xs e
     rw[upd_ne (ZI q nD4)];exact q
    ·have q:=un.frzs b o u e
     rw[upd_ne (ZI q nD4)];exact q
    ·obtain⟨more,q⟩:=un.tbls b ps e
     exact⟨more,by rw[upd_ne (ZI q nD4)];exact q⟩
   have hok4:HOk X.prog X.w H3 s4.heap:=by
    have:=I4.hok
    rw[YP,Yw] at this;exact this
   have hok':HOk X.prog X.w (upd H3 D (.lst ys)) s4.heap:=fun b u q=>by
    by_cases hb:b=D
    ·subst hb
     rw[upd_same] at q;cases q
     exact⟨hlen,its.toList,nn,vD,by simpa using oD4⟩
    ·rw[upd_ne hb] at q
     exact(hok4 b u q).stay (fun c v _ z=>z) (fun c z=>by rw[upd_ne (ZI z nD4)];exact z) fun c xs z=>by rw[upd_ne (ZI z nD4)];exact z
   have os4:s4.os=s2.os:=by rw[I4.os,eS]
   have I5:Inv X pins σ (upd H3 D (.lst ys)) s4:=I2.call' os4 un' hok' I4.bare fun b hb=>⟨(f2 b hb).2.2.2.1,(f2 b hb).2.1,(f2 b hb).2.2.2.2.1,(f2 b hb).2.2.2.2.2⟩
   have CL:C≠X.env.locals:=fun z=>by
    exact(below _ I2.lt).1 z.symm
   have fpC:Tl X pins (upd H3 D (.lst ys)) C:=I2.fpOk (by omega) (by rw[upd_ne (Ne.symm hDC)];exact hfreeC)
   refine hRR D C oC m s4 H3 ys (I5.pins_of fun p hp=>?_) hoC hn fpC nD4 qn
   rcases List.mem_append.mp hp with z | z
   ·exact I5.pin p (List.mem_append_right _ z)
   ·rw[List.mem_singleton.mp z]
    exact⟨hoC,fpC.1,fpC.2.1,fpC.2.2.1,fun v z=>by rw[hdC] at z;cases z⟩
  ·have d:=T.item Y YP Yw YK (by subst hY;exact hcalm) i _ s3 _ H3 (fun _ _=>False) pD (stat fr3 ne1) st3 go
   rw[YA] at d
   refine wpAny_mono d (fun r s4 ⟨u,hr,h4⟩=>?_) fun _ _ z=>z.elim
   subst hr
   refine wpAny_mono h4 (fun _ s5 ⟨x,H5,I5,r5,y5,st5,fr5⟩=>?_) fun _ _ z=>z.elim
   have I5':=I5.pinned (stat fr5 ne1) (T.obj _ _ st5)
   have hg':=hg (Xt X.env.cells scope.names []) C s2 H2 fp
   have ht':=ht (Xt X.env.cells scope.names []) C s2 H2 fp
   have he':=he (Xt X.env.cells scope.names []) C s2 H2 fp
   rw[hY] at hg' ht' he'
   have a6:=hg' _ s5 _ H5 x u _ I5' r5 (step x H5 y5)
   rw[YP,Yw,YA,Ye,Yx] at a6
   refine wpAny_mono a6 (fun _ s6 ⟨σ6,H6,I6,dr,q6⟩=>?_) fun _ _ z=>z.elim
   have a7:=ht' _ s6 σ6 H6 _ I6 q6;rw[YP,Yw,YA,Ye,Yx] at a7
   refine wpAny_mono a7 (fun ok s7 ⟨H7,I7,q7⟩=>?_) fun _ _ z=>z.elim
   have back:∀{H8:Hp}{s8:Shared},Inv Y ([((D,{ cls:=.type "list",data:=.seq its nn }):Addr×Obj)]++TZ fp s5.heap) σ6 H8 s8->
     s8.heap.get? D=some { cls:=.type "list",data:=.seq its nn }/\H8 D=none/\tn (i+1) s8.heap/\(∀b∈fp,H8 b=none):=fun{H8 s8} I8=>by
    obtain⟨e1,e2,_⟩:=I8.pin (D,{ cls:=.type "list",data:=.seq its nn }) (by rw[eP];exact List.mem_cons_self)
    refine⟨e1,e2,T.keep _ _ _ st5 fun b hb o e=>(I8.pin (b,o) (by rw[eP];exact List.mem_cons_of_mem _ (Vy hb e))).1,fun b hb=>?_⟩
    obtain⟨o,e,_⟩:=T.obj _ _ st5 b hb
    exact(I8.pin (b,o) (by rw[eP];exact List.mem_cons_of_mem _ (Vy hb e))).2.1
   have unp:∀{H8:Hp}{s8:Shared},Inv Y ([((D,{ cls:=.type "list",data:=.seq its nn }):Addr×Obj)]++TZ fp s5.heap) σ6 H8 s8->Inv Y [] (YE own.length ix σ) H8 s8:=fun{H8 s8} I8=>
    (I8.pins_of (pins':=[]) fun p hp=>absurd hp (by simp)).weak (by
     have e1:=(I0 0).len
     have e2:=I8.len
     rw[e1,e2]) (L7 dr)
   cases ok with
   | false=>
    rw[if_neg Bool.false_ne_true] at q7
    show ∃m,m<n/\_
    obtain⟨e1,e2,e3,e4⟩:=back I7
    obtain⟨m',hm,w7⟩:=hN _ _ q7
    exact⟨m',hm,i+1,ys,its,nn,H7,unp I7,e3,e4,e1,vD,e2,w7⟩
   | true=>
    rw[if_pos rfl] at q7
    show wpAny _ _ _ _ _ _
    have a8:=he' _ s7 σ6 H7 _ I7 q7;rw[YP,Yw,YA,Ye,Yx] at a8
    refine wpAny_mono a8 (fun yv s8 ⟨y,H8,I8,ry,q8⟩=>?_) fun _ _ z=>z.elim
    obtain⟨e1,e2,e3,e4⟩:=back I8
    obtain⟨m',hm,w8⟩:=hN _ _ q8
    refine append_at e1 (fun h9 hs9 hD9=>?_) hsize
    have I9:Inv Y [] (YE own.length ix σ) H8 { s8 with heap:=h9 }:=(unp I8).turned (t':=s8.toks) (it:=D) (fun b o hb e=>hs9.extBut b o hb e) e2 (by rw[eL];exact hDC) (.inr (by rw[eS];omega)) hcellD (fun p hp=>absurd (show p∈([]:List (Addr×Obj)) by rw[eP] at hp;exact hp) (by simp))
    refine⟨m',hm,i+1,ys++[y],its.push yv,nn+1,H8,I9,T.keep _ _ _ e3 fun b hb o e=>hs9.extBut b o (Ne.symm (dfp b hb)) e,e4,hD9,?_,e2,w8⟩
    rw[Array.toList_push]
    exact vD.append (.cons ry .nil)
 exact codeAny_compStart_list (loop _ rfl) (T.self X.A 0 _ _ _ (T.keep _ _ _ st2 fun b _ o e=>old b o e) (loop _ rfl))
theorem HV(hcalm:X.calm=true)(hi:PI X tg iter wi)(S:CompScope X.N X.env.scope scope own fr ix)
  (hg:∀cl C s H ex,PG (ZW X (own++fr) scope cl C s H ex) tg g) (ht:∀cl C s H ex,K3 (ZW X (own++fr) scope cl C s H ex) ifs tt) (he:∀cl C s H ex,PE (ZW X (own++fr) scope cl C s H ex) elt te)
  (hs:∀x,foldedSetIterable iter X.env x=pure x:=by intro _;rfl):PE X (.ListComp elt [⟨tg,iter,ifs,0⟩] scope pos) (RL own.length ix wi g tt te):=by
 intro pins s σ H Q I h;rw[eval_ListComp]
 refine wpAny_comprehension_free (use:=none) (cl:=Xt X.env.cells scope.names []) rfl hs (U2 (S.clos I)) S.kind S.names (YZ (hi pins s σ H _ I h) fun v s1 h1=>YZ h1 fun itv s2 h2=>?_)
 obtain⟨it,fp,tn,J,H2,e,I2,T,st2,f2,W,⟨m0,w0⟩,turn⟩:=h2
 subst e
 refine RM (Fin:=fun ys H=>∀p,H p=none->Q (.ref p) (upd H p (.lst ys))) (RR:=fun acc C=>compPost (model X.prog X.w) X.A X.xe none (EP X pins σ Q) acc C) hcalm S hg ht he I2 T st2 f2 w0 turn ?_
 intro D C oC m s' H' ys I5 hoC hn fpC nD fin
 refine⟨m,hn,fun h' hs'=>⟨.ref D,upd H' D (.lst ys),?_,rfl,fin D nD⟩⟩
 exact(I5.unpinned (pl:=[(C,oC)])).turned (t':=s'.toks) (it:=C) (fun b o hb e=>hs'.extBut b o hb e) fpC.1 fpC.2.1 fpC.2.2.2.1 fpC.2.2.2.2.1 fpC.2.2.2.2.2
theorem HW{i:Nat}{y:Str}{py spos:Pos}(hN:X.N.Nodup)(hy:X.N[i]?=some y)(hloc:X.env.scope.names.lookup y=some .local)(hcalm:X.calm=true)(hi:PI X tg iter wi)(S:CompScope X.N X.env.scope scope own fr ix)
  (hg:∀cl C s H ex,PG (ZW X (own++fr) scope cl C s H ex) tg g) (ht:∀cl C s H ex,K3 (ZW X (own++fr) scope cl C s H ex) ifs tt) (he:∀cl C s H ex,PE (ZW X (own++fr) scope cl C s H ex) elt te)
  (hsw:swapsWith (.ListComp elt [⟨tg,iter,ifs,0⟩] scope pos) (some (.Name y py)) spos.line X.env=pure true:=by rfl)
  (hs:∀x,foldedSetIterable iter X.env x=pure x:=by intro _;rfl):PS X (.Assign [.Name y py] (.ListComp elt [⟨tg,iter,ifs,0⟩] scope pos) spos) (NM (RL own.length ix wi g tt te) (SM i)):=by
 intro pins s σ H D0 I h;rw[exec_Assign_Name_used _ _ _ _ hsw]
 refine wpAny_bind (wpAny_standAt (wpAny_bind ?_))
 show wpAny _ X.A (do let _ <-comprehension (.ListComp elt [⟨tg,iter,ifs,0⟩] scope pos) scope X.env _ (newList []) false (eval iter X.env) (some (assign (.Name y py) X.env))) _ _ s
 refine wpAny_bind (wpAny_mono (wpAny_comprehension_free (cl:=Xt X.env.cells scope.names []) (use:=some (assign (.Name y py) X.env)) (Q:=fun _ s'=>SP X pins D0 .next s') (E:=X.xe) rfl hs (U2 (S.clos I)) S.kind S.names
  (YZ (hi pins s σ H _ I h) fun v s1 h1=>YZ h1 fun itv s2 h2=>?_)) (fun _ s' hq=>wpAny_pure (wpAny_pure hq)) fun _ _ e=>e)
 obtain⟨it,fp,tn,J,H2,e,I2,T,st2,f2,W,⟨m0,w0⟩,turn⟩:=h2
 subst e
 refine RM (Fin:=fun ys H=>∀p,H p=none->SM i (.ref p) σ (upd H p (.lst ys)) D0.nx) (RR:=fun acc C=>compPost (model X.prog X.w) X.A X.xe (some (assign (.Name y py) X.env)) (fun _ s'=>SP X pins D0 .next s') acc C) hcalm S hg ht he I2 T st2 f2 w0 turn ?_
 intro D C oC m s' H' ys I5 hoC hn fpC nD fin
 show wpAny _ X.A (assign (.Name y py) X.env (.ref D)) _ _ _
 refine wpAny_assign_Name (RD I5 hN hy (.inl hloc) (v:=.ref D) rfl (fun s6 I6=>?_) (.inr hloc))
 obtain⟨e6,_⟩:=I6.pin (C,oC) (List.mem_append_right _ (List.mem_append_right _ List.mem_cons_self))
 obtain⟨o',es,ep,ho',r'⟩:=hn
 rw[hoC] at ho';cases ho'
 refine⟨m,⟨oC,es,ep,e6,r'⟩,fun h' hs'=>⟨_,upd H' D (.lst ys),?_,fin D nD⟩⟩
 exact(I6.unpinned (pl:=[(C,oC)])).turned (t':=s6.toks) (it:=C) (fun b o hb e=>hs'.extBut b o hb e) fpC.1 fpC.2.1 fpC.2.2.2.1 fpC.2.2.2.2.1 fpC.2.2.2.2.2
end
open AutoSeq1 (wpAny_loadPart')
section
variable {prog:Program} {w:World} {A:Around} {E:Value->Shared->Prop} {s:Shared}
theorem Tm{it l:Addr}{i:Nat}{items}{x:Value}{Q:Value->Shared->Prop}(hit:s.heap.IsTupleIter it l i)
  (hl:s.heap.IsTuple l items) (hx:items[i]?=some x)
  (hQ:∀h',h'.IsTupleIter it l (i+1)->Heap.SameBut it s.heap h'->Q x { s with heap:=h' }) :
  wpAny (model prog w) A (Builtin.SmallTypes.nextOf (.ref it)) Q E s:=by
 obtain⟨o,ho,hc,hd⟩:=id hit
 obtain⟨ol,hol,_,nl,hdl⟩:=hl
 unfold Builtin.SmallTypes.nextOf
 refine wpAny_bind (wpAny_callSpecial?_slot (name:=Str.ofString "__next__") hit.typeIs F.slot_tuple_iterator_next
  (wpAny_call_entry F.slot_tuple_iterator_next hit.typeIs F.entry_tuple_iterator_next ?_ (F.args_tuple_iterator_next_1 _)))
 show wpAny _ _ (field (.ref it) 0 >>= _) _ _ s
 refine wpAny_bind (wpAny_field ho hd (x:=.ref l) rfl ?_)
 show wpAny _ _ (if(Value.ref l==Value.none)=true then _ else _) _ _ s
 rw[if_neg (show ¬((Value.ref l==Value.none)=true) from Bool.false_ne_true)]
 show wpAny _ _ (field (.ref it) 1 >>= _) _ _ s
 refine wpAny_bind (wpAny_field ho hd (x:=.int i 0) rfl ?_)
 show wpAny _ _ (seqItems? (.ref l) >>= _) _ _ s
 refine wpAny_bind (wpAny_seqItems hol hdl ?_)
 simp only[Int.toNat_natCast,hx]
 refine wpAny_bind (wpAny_setField ho hd (by simp) (wpAny_pure ⟨x,rfl,wpAny_pure (hQ _ ?_ (Heap.SameBut.update ..))⟩))
 exact⟨_,Heap.get?_update_self _ ho (Obj.isFreed_of_fields (Obj.data_mapFields hd _)),(Obj.cls_mapFields ..).trans hc,by
  rw[Obj.data_mapFields hd];simp[rawInt]⟩
theorem T8{it l:Addr}{i:Nat}{items}{Q:Value->Shared->Prop}(hh:A.handled=none)
  (hit:s.heap.IsTupleIter it l i) (hl:s.heap.IsTuple l items) (hx:items[i]?=none)
  (hE:∀h' e,Heap.ExtBut it s.heap h'->(∃o,h'.get? e=some o/\o.cls = .type "StopIteration")->E (.ref e) { s with heap:=h' }) :
  wpAny (model prog w) A (Builtin.SmallTypes.nextOf (.ref it)) Q E s:=by
 obtain⟨o,ho,hc,hd⟩:=id hit
 obtain⟨ol,hol,_,nl,hdl⟩:=hl
 unfold Builtin.SmallTypes.nextOf
 refine wpAny_bind (wpAny_callSpecial?_slot (name:=Str.ofString "__next__") hit.typeIs F.slot_tuple_iterator_next
  (wpAny_call_entry F.slot_tuple_iterator_next hit.typeIs F.entry_tuple_iterator_next ?_ (F.args_tuple_iterator_next_1 _)))
 show wpAny _ _ (field (.ref it) 0 >>= _) _ _ s
 refine wpAny_bind (wpAny_field ho hd (x:=.ref l) rfl ?_)
 show wpAny _ _ (if(Value.ref l==Value.none)=true then _ else _) _ _ s
 rw[if_neg (show ¬((Value.ref l==Value.none)=true) from Bool.false_ne_true)]
 show wpAny _ _ (field (.ref it) 1 >>= _) _ _ s
 refine wpAny_bind (wpAny_field ho hd (x:=.int i 0) rfl ?_)
 show wpAny _ _ (seqItems? (.ref l) >>= _) _ _ s
 refine wpAny_bind (wpAny_seqItems hol hdl ?_)
 simp only[Int.toNat_natCast,hx]
 refine wpAny_bind (wpAny_rule (wpAny_bind (wpAny_setField ho hd (by simp) ?_)))
 show wpAny _ _ (newExc (.type "StopIteration") [] >>= _) _ _ _
 refine wpAny_bind ?_
 simp only[newExc,newTuple]
 refine wpAny_bind (wpAny_newObj_type ?_ (by size_fits))
 refine wpAny_bind (m:=firstArgMember _ _) (wpAny_of_eq (a:=Value.none) (by first | rfl | (simp only[firstArgMember];rfl)) ?_)
 refine wpAny_newObj_type ?_ (by size_fits)
 simp only[raiseNew]
 refine wpAny_bind (wpAny_handled ?_)
 first | rw[show A.in1.handled=none from hh] | rw[hh]
 refine wpAny_bind (wpAny_pure (wpAny_throw ?_))
 exact hE _ _ (((Heap.SameBut.update ..).extBut.push _).push _) ⟨_,Heap.get?_push_size _ rfl,rfl⟩
end
def SeqB(b:Bool)(h:Heap)(a:Addr)(its:Array Value):Prop:=if b=true then h.IsList a its else h.IsTuple a its
def IterB(b:Bool)(h:Heap)(it a:Addr)(i:Nat):Prop:=if b=true then h.IsListIter it a i else h.IsTupleIter it a i
def Q7(b:Bool)(K:PySem.W.Frag)(H:Hp)(a:Addr)(xs:List V):Prop:=if b=true then SqL K H a xs else SqT K H a xs
def V3(b:Bool)(a:Addr):Obj:={ cls:=.type (if b=true then "list_iterator" else "tuple_iterator"),data:=.fields #[.ref a,.int 0 0] }
theorem SeqB.at{b:Bool}{h h':Heap}{a:Addr}{its:Array Value}(x:SeqB b h a its)(k:∀o,h.get? a=some o->h'.get? a=some o):SeqB b h' a its:=by
 cases b with
 | true=>obtain⟨o,e,r⟩:=(show h.IsList a its from x);exact⟨o,k o e,r⟩
 | false=>obtain⟨o,e,r⟩:=(show h.IsTuple a its from x);exact⟨o,k o e,r⟩
theorem SeqB.has{b:Bool}{h:Heap}{a:Addr}{its:Array Value}(x:SeqB b h a its):∃o,h.get? a=some o:=by
 cases b with
 | true=>obtain⟨o,e,r⟩:=(show h.IsList a its from x);exact⟨o,e⟩
 | false=>obtain⟨o,e,r⟩:=(show h.IsTuple a its from x);exact⟨o,e⟩
theorem IterB.at{b:Bool}{h h':Heap}{it a:Addr}{i:Nat}(x:IterB b h it a i)(k:∀o,h.get? it=some o->h'.get? it=some o):IterB b h' it a i:=by
 cases b with
 | true=>obtain⟨o,e,r⟩:=(show h.IsListIter it a i from x);exact⟨o,k o e,r⟩
 | false=>obtain⟨o,e,r⟩:=(show h.IsTupleIter it a i from x);exact⟨o,k o e,r⟩
theorem IterB.has{b:Bool}{h:Heap}{it a:Addr}{i:Nat}(x:IterB b h it a i):∃o,h.get? it=some o/\∀v,o.data≠.cell v:=by
 cases b with
 | true=>obtain⟨o,e,_,d⟩:=(show h.IsListIter it a i from x);exact⟨o,e,fun v z=>by rw[d] at z;cases z⟩
 | false=>obtain⟨o,e,_,d⟩:=(show h.IsTupleIter it a i from x);exact⟨o,e,fun v z=>by rw[d] at z;cases z⟩
theorem IterB.new{b:Bool}{h:Heap}{it a:Addr}(e:h.get? it=some (V3 b a)):IterB b h it a 0:=by
 cases b with
 | true=>exact⟨_,e,rfl,rfl⟩
 | false=>exact⟨_,e,rfl,rfl⟩
section
variable {X:Cx} {pins:List (Addr×Obj)} {σ:St} {H:Hp} {s:Shared} {a:Addr} {xs ys:List V} {b:Bool}
theorem Inv.seqB(I:Inv X pins σ H s)(h:Q7 b X.K H a xs):∃its:List Value,Vals xs its/\SeqB b s.heap a its.toArray/\xs.length<=sizeLine:=by
 cases b with
 | true=>
  obtain⟨its,r,p,z⟩:=I.list (show SqL X.K H a xs from h)
  exact⟨its,r,p.isList,z⟩
 | false=>
  obtain⟨its,r,p,z⟩:=I.tuple (show SqT X.K H a xs from h)
  exact⟨its,r,p,z⟩
theorem Inv.seqB_inj(I:Inv X pins σ H s)(h:Q7 b X.K H a xs)(h':Q7 b X.K H a ys):xs=ys:=by
 cases b with
 | true=>exact I.list_inj (show SqL X.K H a xs from h) (show SqL X.K H a ys from h')
 | false=>exact I.tuple_inj (show SqT X.K H a xs from h) (show SqT X.K H a ys from h')
end
theorem Draws.seq{prog:Program}{w:World}{A:Around}(b:Bool)(hh:A.handled=none)(it l:Addr)(hne:l≠it)(items:Array Value) :
  Draws prog w A it [it,l] items.size (fun i v=>items[i]?=some v) (fun i h=>IterB b h it l i/\SeqB b h l items) where
 live:=fun _ _ st=>let⟨o,ho,_⟩:=st.1.has;⟨o,ho⟩
 frame:=fun _ _ _ st hk=>⟨st.1.at fun o e=>hk it (by simp) o e,st.2.at fun o e=>hk l (by simp) o e⟩
 item:=fun i s Q E hi st hQ=>by
  cases b with
  | true=>
   refine wpAny_nextOf_list_item (show s.heap.IsListIter it l i from st.1) (show s.heap.IsList l items from st.2) (x:=items[i]) (by simp[hi]) fun h' hit' hs'=>?_
   exact hQ _ h' s.toks (by simp[hi]) ⟨hit',st.2.at fun o e=>hs'.extBut l o hne e⟩ hs'
  | false=>
   refine Tm (show s.heap.IsTupleIter it l i from st.1) (show s.heap.IsTuple l items from st.2) (x:=items[i]) (by simp[hi]) fun h' hit' hs'=>?_
   exact hQ _ h' s.toks (by simp[hi]) ⟨hit',st.2.at fun o e=>hs'.extBut l o hne e⟩ hs'
 done:=fun s Q E st hE=>by
  cases b with
  | true=>exact wpAny_nextOf_list_end hh (show s.heap.IsListIter it l _ from st.1) (show s.heap.IsList l items from st.2) (by simp) hE
  | false=>exact T8 hh (show s.heap.IsTupleIter it l _ from st.1) (show s.heap.IsTuple l items from st.2) (by simp) hE
theorem Xi{prog:Program}{w:World}{A:Around}{E:Value->Shared->Prop}{s:Shared}{b:Bool}{a:Addr}{its:Array Value}{Q:Value->Shared->Prop}(h:SeqB b s.heap a its)
  (hQ:Q (.ref s.heap.objs.size) { s with heap:=s.heap.push (V3 b a) }):wpAny (model prog w) A (pyIter (.ref a)) Q E s:=by
 cases b with
 | true=>exact wpAny_pyIter_list (show s.heap.IsList a its from h) hQ
 | false=>exact wpAny_pyIter_tuple (show s.heap.IsTuple a its from h) hQ
set_option maxHeartbeats 4000000 in
theorem RN(b:Bool)(l:Addr)(items:Array Value) :
  Meets (Builtin.«enumerate.__new__» ⟨[.type "enumerate",.ref l],[]⟩) (fun _ R s=>SeqB b s.heap l items/\
   R (.ok (.ret (.ref (s.heap.push (V3 b l)).objs.size)))
    { s with heap:=(s.heap.push (V3 b l)).push { cls:=.type "enumerate",data:=.fields #[.none,.bool false,.ref s.heap.objs.size,rawInt 0,.none,.none] } }):=
 .of_wp fun prog w A R s h=>by
  obtain⟨hp,g,d,tk,os⟩:=s;obtain⟨hl,h⟩:=h
  have hsub:=sub_enumerate
  obtain⟨o,ho⟩:=hl.has
  have hL:SeqB b (Shared.heap ⟨hp,g,d,tk,os⟩) l items:=hl
  wp_walk using wpAny_loadPart' ho
  refine wpAny_stack_any fun st=>wpAny_pure ?_
  split
  ·rename_i c _ _ _ _ _
   cases (c==Value.type "enumerate")
   ·wp_walk using wpAny_loadPart' ho,Xi hL
    exact⟨_,rfl,h⟩
   ·wp_walk using wpAny_loadPart' ho,Xi hL
    exact⟨_,rfl,h⟩
  ·wp_walk using wpAny_loadPart' ho,Xi hL
   exact⟨_,rfl,h⟩
section
variable {prog:Program} {w:World} {A:Around} {E:Value->Shared->Prop} {s:Shared}
theorem QR{b:Bool}{l:Addr}{items:Array Value}{Q:Value->Shared->Prop}(hL:SeqB b s.heap l items)
  (h:∀h',IsEnum h' (s.heap.objs.size+1) s.heap.objs.size 0 .none->IterB b h' s.heap.objs.size l 0->h'.objs.size=s.heap.objs.size+2->
   (∀b o,s.heap.get? b=some o->h'.get? b=some o)->Q (.ref (s.heap.objs.size+1)) { s with heap:=h' }) :
  wpAny (model prog w) A (call (.type "enumerate") [.ref l]) Q E s:=by
 refine callType_new F.called_enumerate (by decide) (F.typeCall_enumerate_1 _) (F.newCall_enumerate_1 _) (fun obj=>F.args_object_init_2 obj _) F.entry_enumerate_new
  (RN b l items) ⟨hL,?_⟩
 have hz:(s.heap.push (V3 b l)).objs.size=s.heap.objs.size+1:=Heap.size_push ..
 show _/\_
 rw[hz]
 have he:IsEnum ((s.heap.push (V3 b l)).push
   { cls:=.type "enumerate",data:=.fields #[.none,.bool false,.ref s.heap.objs.size,rawInt 0,.none,.none] }) (s.heap.objs.size+1) s.heap.objs.size 0 .none:=by
  have:=Heap.get?_push_size (s.heap.push (V3 b l))
   (o:={ cls:=.type "enumerate",data:=.fields #[.none,.bool false,.ref s.heap.objs.size,rawInt 0,.none,.none] }) rfl
  rw[hz] at this;exact this
 refine⟨⟨_,he,rfl⟩,h _ he (IterB.new (Heap.get?_push_of_some _ (Heap.get?_push_size _ rfl))) (by rw[Heap.size_push,hz]) fun b o x=>Heap.get?_push_of_some _ (Heap.get?_push_of_some _ x)⟩
end
def CN(b:Bool)(K:PySem.W.Frag)(a:Addr):It:=
  ⟨fun i H=>∃xs x,Q7 b K H a xs/\xs[i]?=some x,
   fun i H v H'=>∃p x,H p=none/\v = .ref p/\H'=upd H p (.tup [.int i,x])/\∀xs,Q7 b K H a xs->xs[i]?=some x,
   fun i H=>∃xs,Q7 b K H a xs/\xs.length=i⟩
theorem L8{P:Program}{w:World}{K:PySem.W.Frag}{elts:List Expr}{k:Nat}{pos:Pos}(b:Bool)(a e it:Addr)(hei:e≠it) :
  PJ P w K (.Tuple elts k pos) (CN b K a) [e,it] e (fun i h=>(∃old,IsEnum h e it i old)/\IterB b h it a i) where
 mem:=by simp
 obj:=fun i h st c hc=>by
  rcases List.mem_cons.mp hc with rfl | hc
  ·obtain⟨⟨old,q⟩,_⟩:=st
   exact⟨_,q,fun v z=>by cases z⟩
  ·rw[List.mem_singleton.mp hc]
   exact st.2.has
 keep:=fun i h h' st kk=>⟨let⟨old,q⟩:=st.1;⟨old,kk e (by simp) _ q⟩,st.2.at fun o q=>kk it (by simp) o q⟩
 item:=by
  intro X hP hw hK hc i pins s σ H E I hf st hg
  subst hP hw hK
  obtain⟨xs,x,hq,hx⟩:=hg
  obtain⟨its,rv,p,hz⟩:=I.seqB hq
  obtain⟨u,hu,ru⟩:=rv.get hx
  obtain⟨⟨old,he⟩,hit⟩:=st
  have fe:=hf e (by simp)
  have fi:=hf it (by simp)
  obtain⟨oa,hoa⟩:=p.has
  have tra:H a=none->a<X.s₀.heap.objs.size\/True:=fun _=>.inr trivial
  -- the sequence is neither record
  have ne_of_fp:∀c,Tl X pins H c->(∃oc,s.heap.get? c=some oc/\∃n vs,oc.cls = .type n/\oc.data = .fields vs)->a≠c:=fun c _ ⟨oc,hoc,n,vs,hn,hv⟩ z=>by
   subst z
   rw[hoa] at hoc;cases hoc
   cases b with
   | true=>obtain⟨o,e1,_,m,d⟩:=(show s.heap.IsList a its.toArray from p);rw[hoa] at e1;cases e1;rw[hv] at d;cases d
   | false=>obtain⟨o,e1,_,m,d⟩:=(show s.heap.IsTuple a its.toArray from p);rw[hoa] at e1;cases e1;rw[hv] at d;cases d
  have ae:a≠e:=ne_of_fp e fe ⟨_,he,_,_,rfl,rfl⟩
  have ai:a≠it:=ne_of_fp it fi (by
   cases b with
   | true=>obtain⟨o,e1,c1,d1⟩:=(show s.heap.IsListIter it a i from hit);exact⟨o,e1,_,_,c1,d1⟩
   | false=>obtain⟨o,e1,c1,d1⟩:=(show s.heap.IsTupleIter it a i from hit);exact⟨o,e1,_,_,c1,d1⟩)
  have D:=Draws.seq (prog:=X.prog) (w:=X.w) (A:=X.A.in1) b (I.ok.hd hc) it a ai its.toArray
  have hlt:i<its.toArray.size:=by
   have:=(List.getElem?_eq_some_iff.mp hu).1
   simpa using this
  refine wpAny_pyNext_enum_itemD D he ⟨hit,p⟩ hlt hei (by simp[hei,Ne.symm ae]) fun y h' tk hPy ho hs' hT hsz hk=>?_
  have ey:y=u:=by
   have q1:its.toArray[i]?=some y:=hPy
   have q2:its.toArray[i]?=some u:=by simpa using hu
   rw[q1] at q2;exact Option.some.inj q2
  subst ey
  refine⟨_,rfl,wpAny_letOwnedTupleGo_enum ho fun h2 he2 hs2=>?_⟩
  have hs2:Heap.SameBut e h' h2:=hs2
  have Tne:s.heap.objs.size≠e:=Nat.ne_of_gt (Heap.lt_size he)
  have hTn:H s.heap.objs.size=none:=I.hok.fresh (Nat.le_refl _)
  have kk:∀c o,c∉[e,it]->s.heap.get? c=some o->h2.get? c=some o:=fun c o hc' q=>hs2.extBut c o (fun z=>hc' (by simp[z])) (hk c o (fun z=>hc' (by simp[z])) (fun z=>hc' (by simp[z])) q)
  have hT2:h2.get? s.heap.objs.size=some { cls:=.type "tuple",data:=.seq #[.int i tk,y] }:=hs2.extBut _ _ Tne hT
  have hcs:∀c∈[e,it],(c∈X.ex\/X.s₀.heap.objs.size<=c)/\c≠X.env.locals/\(∀x d,X.env.cells.lookup x=some d->d≠c)/\∀p∈X.pn++pins,p.1≠c:=fun c hc'=>by
   have f:=hf c hc'
   exact⟨f.2.2.2.1,f.2.1,f.2.2.2.2.1,f.2.2.2.2.2⟩
  have nfp:∀c u',H c=some u'->c∉[e,it]:=fun c u' q hc'=>by rw[(hf c hc').1] at q;cases q
  have hok0:HOk X.prog X.w H h2:=fun c u' q=>(I.hok c u' q).stay (fun d v hd q'=>kk d v (by
    rcases hd with z | z
    ·rw[z];exact nfp c u' q
    ·exact nfp d _ z) q') (fun _ z=>z) fun _ _ z=>z
  have new:ObjOk X.prog X.w (upd H s.heap.objs.size (.tup [.int i,x])) h2 s.heap.objs.size (.tup [.int i,x]):=
   ⟨by show 2<=sizeLine;decide,[.int i tk,y],.cons ⟨tk,rfl⟩ (.cons ru .nil),⟨_,hT2,rfl,_,rfl⟩⟩
  have hok1:HOk X.prog X.w (upd H s.heap.objs.size (.tup [.int i,x])) h2:=fun c u' q=>by
   by_cases hb:c=s.heap.objs.size
   ·subst hb;rw[upd_same] at q;cases q;exact new
   ·rw[upd_ne hb] at q
    exact(hok0 c u' q).stay (fun d v _ q'=>q') (fun d z=>by rw[upd_ne (ZI z hTn)];exact z) fun d zs z=>by rw[upd_ne (ZI z hTn)];exact z
  have un:Un (OJ X.stack) [e,it] H (upd H s.heap.objs.size (.tup [.int i,x])) s.heap h2:=by
   refine⟨fun c o q _ _ hx'=>kk c o hx' q,fun c o q _ _ hx'=>⟨o.slots,kk c o hx' q⟩,fun c o q n _=>?_,fun c o q hx'=>⟨o,kk c o hx' q⟩,fun c zs q=>?_,fun c o zs q=>?_,fun c ps q=>⟨#[],?_⟩⟩
   ·rw[upd_ne (Nat.ne_of_lt (Heap.lt_size q))];exact n
   ·rw[upd_ne (ZI q hTn)];exact q
   ·rw[upd_ne (ZI q hTn)];exact q
   ·rw[upd_ne (ZI q hTn),q];simp
  have I2:Inv X pins σ (upd H s.heap.objs.size (.tup [.int i,x])) { s with heap:=h2,toks:=tk+1 }:=I.call (g':=s.gens) (d':=s.drawn) un hok1 I.bare hcs
  refine⟨.ref s.heap.objs.size,upd H s.heap.objs.size (.tup [.int i,x]),I2,rfl,⟨_,x,hTn,rfl,rfl,fun zs hzs=>by rw[I.seqB_inj hzs hq];exact hx⟩,⟨⟨y,by simpa using he2⟩,?_⟩,fun c hc'=>?_⟩
  ·exact hs'.1.at fun o q=>hs2.extBut it o (Ne.symm hei) q
  ·rw[upd_ne (Nat.ne_of_lt (by
    rcases List.mem_cons.mp hc' with rfl | hc'
    ·exact Heap.lt_size he
    ·rw[List.mem_singleton.mp hc'];obtain⟨o,q,_⟩:=hit.has;exact Heap.lt_size q))]
   exact(hf c hc').1
 done:=by
  intro X hP hw hK hc i pins s σ H E I hf st hg
  subst hP hw hK
  obtain⟨xs,hq,hx⟩:=hg
  obtain⟨its,rv,p,hz⟩:=I.seqB hq
  obtain⟨⟨old,he⟩,hit⟩:=st
  have fi:=hf it (by simp)
  obtain⟨oa,hoa⟩:=p.has
  have ai:a≠it:=fun z=>by
   subst z
   cases b with
   | true=>
    obtain⟨o,e1,_,m,d⟩:=(show s.heap.IsList a its.toArray from p)
    obtain⟨o',e2,_,d2⟩:=(show s.heap.IsListIter a a i from hit)
    rw[e1] at e2;cases e2;rw[d] at d2;cases d2
   | false=>
    obtain⟨o,e1,_,m,d⟩:=(show s.heap.IsTuple a its.toArray from p)
    obtain⟨o',e2,_,d2⟩:=(show s.heap.IsTupleIter a a i from hit)
    rw[e1] at e2;cases e2;rw[d] at d2;cases d2
  have D:=Draws.seq (prog:=X.prog) (w:=X.w) (A:=X.A.in1) b (I.ok.hd hc) it a ai its.toArray
  have hl:=rv.length
  have hi:i=its.toArray.size:=by simp;omega
  refine wpAny_pyNext_enum_endD D he (by rw[<-hi];exact⟨hit,p⟩) fun h' hx'=>⟨rfl,?_⟩
  obtain⟨f0,f1,f2,f3,f4,f5⟩:=fi
  exact I.turned (t':=s.toks) (fun c o hb q=>hx' c o hb q) f0 f1 f3 f4 f5
 self:=fun A i s Q E st hQ=>by
  obtain⟨⟨old,he⟩,_⟩:=st
  exact wpAny_pyIter_enum he hQ
end L2
namespace L2
open PySem PySem.Spec PyProof.Rows
section
variable {X:Cx}
def DC(b:Bool)(K:PySem.W.Frag)(ta:TA):TI:=fun σ H R=>ta σ H fun vs H1=>∃a,vs=[.ref a]/\(∃xs,Q7 b K H1 a xs)/\R (CN b K a) H1
theorem HX{elts:List Expr}{k:Nat}{tpos:Pos}(b:Bool){a:Expr}{ta:TA}{p pos:Pos}(hg:Gl X "enumerate")(hm:X.mg "enumerate" = none)(ha:PA X [a] ta)(hs:starEach [a] X.env=[(false,eval a X.env)]:=by rfl) :
  PI X (.Tuple elts k tpos) (.Call (.Name "enumerate" p) [a] [] pos) (DC b X.K ta):=by
 intro pins s σ H R I h
 refine Call_ (Ua I hg hm (by decide +kernel:bootBuiltins "enumerate" = some (.type "enumerate")) (PyProof.Rows.callWith_type1 (YZ (ha pos pins s σ H _ I h) fun us s1 ⟨vs,H1,I1,r1,q1⟩=>?_) hs rfl))
 obtain⟨a,e,⟨xs,hq⟩,q⟩:=q1
 subst e
 cases r1 with
 | cons r rr=>
  cases rr;cases r
  obtain⟨its,rv,hseq,hz⟩:=I1.seqB hq
  refine QR hseq fun h' he hit hsz hk=>?_
  refine wpAny_pyIter_enum he ?_
  have I2:Inv X pins σ H1 { s1 with heap:=h' }:=I1.kept (t':=s1.toks) hk
  have ne:s1.heap.objs.size+1≠s1.heap.objs.size:=Nat.ne_of_gt (Nat.lt_succ_self _)
  refine⟨s1.heap.objs.size+1,[s1.heap.objs.size+1,s1.heap.objs.size],_,_,H1,rfl,I2,L8 b a (s1.heap.objs.size+1) s1.heap.objs.size ne,⟨⟨.none,he⟩,hit⟩,fun c hc=>?_,q⟩
  rcases List.mem_cons.mp hc with rfl | hc
  ·exact I1.fpOk (Nat.le_succ _) (I1.hok.fresh (Nat.le_succ _))
  ·rw[List.mem_singleton.mp hc]
   exact I1.fpOk (Nat.le_refl _) (I1.hok.fresh (Nat.le_refl _))
end
section
variable {prog:Program} {w:World} {A:Around} {E:Value->Shared->Prop} {s:Shared}
structure Q8(z TI TO i1 i2:Addr)(fp1 fp2:List Addr):Prop where
 TIz:TI≠z
 TOz:TO≠z
 i1z:i1≠z
 i2z:i2≠z
 TITO:TI≠TO
 TIi1:TI≠i1
 TIi2:TI≠i2
 TOi1:TO≠i1
 TOi2:TO≠i2
 i12:i1≠i2
 z1:z∉fp1
 TO1:TO∉fp1
 i21:i2∉fp1
 z2:z∉fp2
 TO2:TO∉fp2
 i12':i1∉fp2
theorem Jp{z TI TO i1 i2:Addr}{fp1 fp2:List Addr}{n1 n2 k:Nat}{P1 P2:Nat->Value->Prop}{St1 St2:Nat->Heap->Prop}{a b:Value}{Q:Value->Shared->Prop}(D:Q8 z TI TO i1 i2 fp1 fp2)
  (D1:Draws prog w A i1 fp1 n1 P1 St1) (D2:Draws prog w A i2 fp2 n2 P2 St2)
  (hz:IsZip s.heap z TI TO .none) (hTI:IsPair s.heap TI (.ref i1) (.ref i2)) (hTO:IsPair s.heap TO a b)
  (h1:St1 k s.heap) (h2:St2 k s.heap) (hx:k<n1) (hy:k<n2)
  (hQ:∀x y h' tk,P1 k x->P2 k y->IsZip h' z TI TO (rawInt s.heap.objs.size)->IsPair h' TO x y->St1 (k+1) h'->St2 (k+1) h'->IsPair h' s.heap.objs.size x y->h'.objs.size=s.heap.objs.size+1->
   (∀c o,c≠z->c≠TO->c≠i1->c≠i2->s.heap.get? c=some o->h'.get? c=some o)->Q (.ref s.heap.objs.size) { s with heap:=h',toks:=tk }) :
  wpAny (model prog w) A (Builtin.«zip.__next__» ⟨[.ref z],[]⟩) (fun fin s'=>∃v,fin = .done (.ret v)/\Q v s') E s:=by
 show wpAny _ _ (field (.ref z) 2 >>= _) _ _ _
 refine wpAny_bind (wpAny_field hz rfl (x:=.bool false) rfl ?_)
 show wpAny _ _ (field (.ref z) 3 >>= _) _ _ _
 refine wpAny_bind (wpAny_field hz rfl (x:=.ref TI) rfl ?_)
 refine wpAny_bind (wpAny_seqItems hTI rfl ?_)
 show wpAny _ _ (Builtin.SmallTypes.ownedTupleIsFree (.ref z) >>= _) _ _ _
 refine wpAny_bind ?_
 unfold Builtin.SmallTypes.ownedTupleIsFree
 refine wpAny_bind (wpAny_field hz rfl (x:=.none) rfl (wpAny_pure ?_))
 simp only[if_true]
 refine wpAny_bind (wpAny_rule ?_)
 refine wpAny_bind (wpAny_field hz rfl (x:=.ref TO) rfl ?_)
 refine wpAny_bind (wpAny_setField_rec hz (by simp) fun h₁ hz₁ hs₁=>?_)
 replace hz₁:IsZip h₁ z TI TO .ellipsis:=hz₁
 refine wpAny_bind ?_
 simp only[List.zipIdx_cons,List.zipIdx_nil,List.forIn_cons,List.forIn_nil]
 refine wpAny_bind (wpAny_bind (wpAny_onRaise ?_))
 show wpAny _ _ (Builtin.SmallTypes.nextOf (.ref i1) >>= _) _ _ _
 have st1:St1 k h₁:=D1.frame _ _ _ h1 fun c hc o e=>hs₁.extBut c o (fun q=>D.z1 (q▸hc)) e
 refine wpAny_bind (D1.item k _ _ _ hx st1 fun x h₂ tk₂ hPx h1₂ hs₂=>wpAny_pure ?_)
 replace hs₂:Heap.SameBut i1 h₁ h₂:=hs₂
 have hTO₂:IsPair h₂ TO a b:=hs₂.extBut _ _ D.TOi1 (hs₁.extBut _ _ D.TOz hTO)
 refine wpAny_bind (wpAny_seqItems hTO₂ rfl ?_)
 refine wpAny_bind (wpAny_updateSeq_pair hTO₂ fun h₃ hTO₃ hs₃=>?_)
 replace hTO₃:IsPair h₃ TO x b:=hTO₃
 replace hs₃:Heap.SameBut TO h₂ h₃:=hs₃
 refine wpAny_bind (wpAny_letGo (wpAny_pure ?_))
 refine wpAny_bind (wpAny_bind (wpAny_onRaise ?_))
 show wpAny _ _ (Builtin.SmallTypes.nextOf (.ref i2) >>= _) _ _ _
 have st2:St2 k h₃:=D2.frame _ _ _ h2 fun c hc o e=>hs₃.extBut c o (fun q=>D.TO2 (q▸hc)) (hs₂.extBut c o (fun q=>D.i12' (q▸hc)) (hs₁.extBut c o (fun q=>D.z2 (q▸hc)) e))
 refine wpAny_bind (D2.item k _ _ _ hy st2 fun y h₄ tk₄ hPy h2₄ hs₄=>wpAny_pure ?_)
 replace hs₄:Heap.SameBut i2 h₃ h₄:=hs₄
 have hTO₄:IsPair h₄ TO x b:=hs₄.extBut _ _ D.TOi2 hTO₃
 refine wpAny_bind (wpAny_seqItems hTO₄ rfl ?_)
 refine wpAny_bind (wpAny_updateSeq_pair hTO₄ fun h₅ hTO₅ hs₅=>?_)
 replace hTO₅:IsPair h₅ TO x y:=hTO₅
 replace hs₅:Heap.SameBut TO h₄ h₅:=hs₅
 refine wpAny_bind (wpAny_letGo (wpAny_pure (wpAny_pure ?_)))
 refine wpAny_bind (wpAny_seqItems hTO₅ rfl ?_)
 refine wpAny_bind (wpAny_newTuple ?_)
 have hsz:h₅.objs.size=s.heap.objs.size:=by rw[hs₅.1,hs₄.1,hs₃.1,hs₂.1,hs₁.1]
 have hz₅:IsZip h₅ z TI TO .ellipsis:=hs₅.extBut _ _ D.TOz.symm (hs₄.extBut _ _ D.i2z.symm (hs₃.extBut _ _ D.TOz.symm (hs₂.extBut _ _ D.i1z.symm hz₁)))
 have hk₅:∀c o,c≠z->c≠TO->c≠i1->c≠i2->s.heap.get? c=some o->h₅.get? c=some o:=fun c o c1 c2 c3 c4 e=>
  hs₅.extBut _ _ c2 (hs₄.extBut _ _ c4 (hs₃.extBut _ _ c2 (hs₂.extBut _ _ c3 (hs₁.extBut _ _ c1 e))))
 have h1₅:St1 (k+1) h₅:=D1.frame _ _ _ h1₂ fun c hc o e=>hs₅.extBut c o (fun q=>D.TO1 (q▸hc)) (hs₄.extBut c o (fun q=>D.i21 (q▸hc)) (hs₃.extBut c o (fun q=>D.TO1 (q▸hc)) e))
 have h2₅:St2 (k+1) h₅:=D2.frame _ _ _ h2₄ fun c hc o e=>hs₅.extBut c o (fun q=>D.TO2 (q▸hc)) e
 have hzlt:z<h₅.objs.size:=Heap.lt_size hz₅
 have hTOlt:TO<h₅.objs.size:=Heap.lt_size hTO₅
 show wpAny _ _ (Builtin.SmallTypes.ownedTupleHandOut (.ref z) (.ref h₅.objs.size) >>= _) _ _ _
 refine wpAny_bind ?_
 unfold Builtin.SmallTypes.ownedTupleHandOut
 have hz₆:IsZip (h₅.push { cls:=.type "tuple",data:=.seq #[x,y] }) z TI TO .ellipsis:=Heap.get?_push_of_some _ hz₅
 refine wpAny_bind (wpAny_setField_rec hz₆ (by simp) fun h₇ hz₇ hs₇=>?_)
 replace hz₇:IsZip h₇ z TI TO (rawInt h₅.objs.size):=hz₇
 refine wpAny_setField_rec hz₇ (by simp) fun h₈ hz₈ hs₈=>?_
 replace hz₈:IsZip h₈ z TI TO (rawInt h₅.objs.size):=hz₈
 have up:∀c o,c≠z->h₅.get? c=some o->h₈.get? c=some o:=fun c o c1 e=>hs₈.extBut _ _ c1 (hs₇.extBut _ _ c1 (Heap.get?_push_of_some _ e))
 have hT₈:IsPair h₈ h₅.objs.size x y:=hs₈.extBut _ _ (Nat.ne_of_gt hzlt) (hs₇.extBut _ _ (Nat.ne_of_gt hzlt) (Heap.get?_push_size _ rfl))
 have hz8:h₈.objs.size=h₅.objs.size+1:=by rw[hs₈.1,hs₇.1,Heap.size_push]
 rw[hsz] at hz₈ hT₈ hz8
 refine wpAny_pure ⟨_,rfl,?_⟩
 show Q (.ref h₅.objs.size) _
 rw[hsz]
 exact hQ x y h₈ tk₄ hPx hPy hz₈ (up _ _ D.TOz hTO₅) (D1.frame _ _ _ h1₅ fun c hc o e=>up c o (fun q=>D.z1 (q▸hc)) e) (D2.frame _ _ _ h2₅ fun c hc o e=>up c o (fun q=>D.z2 (q▸hc)) e) hT₈ hz8 fun c o c1 c2 c3 c4 e=>up c o c1 (hk₅ c o c1 c2 c3 c4 e)
theorem HY{z TI TO i1 i2:Addr}{fp1 fp2:List Addr}{n1 n2 k:Nat}{P1 P2:Nat->Value->Prop}{St1 St2:Nat->Heap->Prop}{a b:Value}{Q:PySem.Fin->Shared->Prop}(D:Q8 z TI TO i1 i2 fp1 fp2)
  (D1:Draws prog w A i1 fp1 n1 P1 St1) (D2:Draws prog w A i2 fp2 n2 P2 St2)
  (hz:IsZip s.heap z TI TO .none) (hTI:IsPair s.heap TI (.ref i1) (.ref i2)) (hTO:IsPair s.heap TO a b)
  (h1:St1 k s.heap) (h2:St2 k s.heap) (hend:k=n1\/(k<n1/\k=n2))
  (hE:∀h' tk e,(∀c o,c≠z->c≠TO->c≠i1->c≠i2->s.heap.get? c=some o->h'.get? c=some o)->(∃o,h'.get? e=some o/\o.cls = .type "StopIteration")->E (.ref e) { s with heap:=h',toks:=tk }) :
  wpAny (model prog w) A (Builtin.«zip.__next__» ⟨[.ref z],[]⟩) Q E s:=by
 show wpAny _ _ (field (.ref z) 2 >>= _) _ _ _
 refine wpAny_bind (wpAny_field hz rfl (x:=.bool false) rfl ?_)
 show wpAny _ _ (field (.ref z) 3 >>= _) _ _ _
 refine wpAny_bind (wpAny_field hz rfl (x:=.ref TI) rfl ?_)
 refine wpAny_bind (wpAny_seqItems hTI rfl ?_)
 show wpAny _ _ (Builtin.SmallTypes.ownedTupleIsFree (.ref z) >>= _) _ _ _
 refine wpAny_bind ?_
 unfold Builtin.SmallTypes.ownedTupleIsFree
 refine wpAny_bind (wpAny_field hz rfl (x:=.none) rfl (wpAny_pure ?_))
 simp only[if_true]
 refine wpAny_bind (wpAny_rule ?_)
 refine wpAny_bind (wpAny_field hz rfl (x:=.ref TO) rfl ?_)
 refine wpAny_bind (wpAny_setField_rec hz (by simp) fun h₁ hz₁ hs₁=>?_)
 replace hz₁:IsZip h₁ z TI TO .ellipsis:=hz₁
 replace hs₁:Heap.SameBut z s.heap h₁:=hs₁
 refine wpAny_bind ?_
 simp only[List.zipIdx_cons,List.zipIdx_nil,List.forIn_cons,List.forIn_nil]
 refine wpAny_bind (wpAny_bind (wpAny_onRaise ?_))
 show wpAny _ _ (Builtin.SmallTypes.nextOf (.ref i1) >>= _) _ _ _
 have st1:St1 k h₁:=D1.frame _ _ _ h1 fun c hc o e=>hs₁.extBut c o (fun q=>D.z1 (q▸hc)) e
 rcases hend with hk | ⟨hx,hk⟩
 ·rw[hk] at st1
  refine wpAny_bind (D1.done _ _ _ st1 fun h₂ e hs₂ he=>?_)
  replace hs₂:Heap.ExtBut i1 h₁ h₂:=hs₂
  obtain⟨oe,hoe,hce⟩:=he
  have hz₂:IsZip h₂ z TI TO .ellipsis:=hs₂ _ _ D.i1z.symm hz₁
  have hez:e≠z:=fun x=>by subst x;rw[hz₂] at hoe;cases hoe;simp at hce
  refine wpAny_setField_rec hz₂ (by simp) fun h₃ _ hs₃=>?_
  replace hs₃:Heap.SameBut z h₂ h₃:=hs₃
  exact hE h₃ _ e (fun c o c1 _ c3 _ x=>hs₃.extBut _ _ c1 (hs₂ _ _ c3 (hs₁.extBut _ _ c1 x))) ⟨oe,hs₃.extBut _ _ hez hoe,hce⟩
 ·refine wpAny_bind (D1.item k _ _ _ hx st1 fun x h₂ tk₂ hPx h1₂ hs₂=>wpAny_pure ?_)
  replace hs₂:Heap.SameBut i1 h₁ h₂:=hs₂
  have hTO₂:IsPair h₂ TO a b:=hs₂.extBut _ _ D.TOi1 (hs₁.extBut _ _ D.TOz hTO)
  refine wpAny_bind (wpAny_seqItems hTO₂ rfl ?_)
  refine wpAny_bind (wpAny_updateSeq_pair hTO₂ fun h₃ hTO₃ hs₃=>?_)
  replace hs₃:Heap.SameBut TO h₂ h₃:=hs₃
  refine wpAny_bind (wpAny_letGo (wpAny_pure ?_))
  refine wpAny_bind (wpAny_bind (wpAny_onRaise ?_))
  show wpAny _ _ (Builtin.SmallTypes.nextOf (.ref i2) >>= _) _ _ _
  have st2:St2 k h₃:=D2.frame _ _ _ h2 fun c hc o e=>hs₃.extBut c o (fun q=>D.TO2 (q▸hc)) (hs₂.extBut c o (fun q=>D.i12' (q▸hc)) (hs₁.extBut c o (fun q=>D.z2 (q▸hc)) e))
  rw[hk] at st2
  refine wpAny_bind (D2.done _ _ _ st2 fun h₄ e hs₄ he=>?_)
  replace hs₄:Heap.ExtBut i2 h₃ h₄:=hs₄
  obtain⟨oe,hoe,hce⟩:=he
  have hz₄:IsZip h₄ z TI TO .ellipsis:=hs₄ _ _ D.i2z.symm (hs₃.extBut _ _ D.TOz.symm (hs₂.extBut _ _ D.i1z.symm hz₁))
  have hez:e≠z:=fun x=>by subst x;rw[hz₄] at hoe;cases hoe;simp at hce
  refine wpAny_setField_rec hz₄ (by simp) fun h₅ _ hs₅=>?_
  replace hs₅:Heap.SameBut z h₄ h₅:=hs₅
  exact hE h₅ _ e (fun c o c1 c2 c3 c4 x=>hs₅.extBut _ _ c1 (hs₄ _ _ c4 (hs₃.extBut _ _ c2 (hs₂.extBut _ _ c3 (hs₁.extBut _ _ c1 x))))) ⟨oe,hs₅.extBut _ _ hez hoe,hce⟩
theorem SZ{z TI TO i1 i2:Addr}{fp1 fp2:List Addr}{n1 n2 k:Nat}{P1 P2:Nat->Value->Prop}{St1 St2:Nat->Heap->Prop}{a b:Value}{Q:Option Value->Shared->Prop}(D:Q8 z TI TO i1 i2 fp1 fp2)
  (D1:Draws prog w A.in1 i1 fp1 n1 P1 St1) (D2:Draws prog w A.in1 i2 fp2 n2 P2 St2)
  (hz:IsZip s.heap z TI TO .none) (hTI:IsPair s.heap TI (.ref i1) (.ref i2)) (hTO:IsPair s.heap TO a b)
  (h1:St1 k s.heap) (h2:St2 k s.heap) (hx:k<n1) (hy:k<n2)
  (hQ:∀x y h' tk,P1 k x->P2 k y->IsZip h' z TI TO (rawInt s.heap.objs.size)->IsPair h' TO x y->St1 (k+1) h'->St2 (k+1) h'->IsPair h' s.heap.objs.size x y->h'.objs.size=s.heap.objs.size+1->
   (∀c o,c≠z->c≠TO->c≠i1->c≠i2->s.heap.get? c=some o->h'.get? c=some o)->Q (some (.ref s.heap.objs.size)) { s with heap:=h',toks:=tk }) :
  wpAny (model prog w) A (pyNext (.ref z)) Q E s:=by
 have hT:s.TypeIs (.ref z) "zip":=⟨_,hz,rfl⟩
 unfold pyNext
 exact wpAny_bind (wpAny_attempt (wpAny_callSpecial?_slot (name:=Str.ofString "__next__") hT F.slot_zip_next
  (wpAny_call_entry F.slot_zip_next hT F.entry_zip_next
   (Jp D D1 D2 hz hTI hTO h1 h2 hx hy fun x y h' tk p1 p2 a1 a2 a3 a4 a5 a6 a7=>wpAny_pure (hQ x y h' tk p1 p2 a1 a2 a3 a4 a5 a6 a7)) (F.args_zip_next_1 _))))
theorem RO{z TI TO i1 i2:Addr}{fp1 fp2:List Addr}{n1 n2 k:Nat}{P1 P2:Nat->Value->Prop}{St1 St2:Nat->Heap->Prop}{a b:Value}{Q:Option Value->Shared->Prop}(D:Q8 z TI TO i1 i2 fp1 fp2)
  (D1:Draws prog w A.in1 i1 fp1 n1 P1 St1) (D2:Draws prog w A.in1 i2 fp2 n2 P2 St2)
  (hz:IsZip s.heap z TI TO .none) (hTI:IsPair s.heap TI (.ref i1) (.ref i2)) (hTO:IsPair s.heap TO a b)
  (h1:St1 k s.heap) (h2:St2 k s.heap) (hend:k=n1\/(k<n1/\k=n2))
  (hQ:∀h' tk,(∀c o,c≠z->c≠TO->c≠i1->c≠i2->s.heap.get? c=some o->h'.get? c=some o)->Q none { s with heap:=h',toks:=tk }):wpAny (model prog w) A (pyNext (.ref z)) Q E s:=by
 have hT:s.TypeIs (.ref z) "zip":=⟨_,hz,rfl⟩
 unfold pyNext
 refine wpAny_bind (wpAny_attempt (wpAny_callSpecial?_slot (name:=Str.ofString "__next__") hT F.slot_zip_next
  (wpAny_call_entry F.slot_zip_next hT F.entry_zip_next (HY D D1 D2 hz hTI hTO h1 h2 hend fun h' tk e hk he=>?_) (F.args_zip_next_1 _))))
 obtain⟨o,ho,hc⟩:=he
 refine wpAny_bind (wpAny_isInstance (T:="StopIteration") (b:=true) ⟨o,ho,hc⟩ isSubtype_stop ?_)
 exact wpAny_pure (hQ _ tk hk)
end
abbrev D6(h:Heap)(b1:Bool)(l1:Addr):Heap:=h.push (V3 b1 l1)
abbrev D7(h:Heap)(b1 b2:Bool)(l1 l2:Addr):Heap:=(D6 h b1 l1).push (V3 b2 l2)
abbrev D8(h:Heap)(b1 b2:Bool)(l1 l2:Addr):Heap:=(D7 h b1 b2 l1 l2).push { cls:=.type "tuple",data:=.seq #[.ref h.objs.size,.ref (D6 h b1 l1).objs.size] }
abbrev D9(h:Heap)(b1 b2:Bool)(l1 l2:Addr):Heap:=(D8 h b1 b2 l1 l2).push { cls:=.type "tuple",data:=.seq #[.none,.none] }
abbrev En(h:Heap)(b1 b2:Bool)(l1 l2:Addr):Heap:=(D9 h b1 b2 l1 l2).push { cls:=.type "zip",data:=.fields #[.none,.bool false,.bool false,.ref (D7 h b1 b2 l1 l2).objs.size,.ref (D8 h b1 b2 l1 l2).objs.size] }
theorem QS(b1 b2:Bool)(l1 l2:Addr)(xs ys:Array Value) :
  Meets (Builtin.«zip.__new__» ⟨[.type "zip",.ref l1,.ref l2],[]⟩) (fun _ R s=>SeqB b1 s.heap l1 xs/\SeqB b2 s.heap l2 ys/\
   R (.ok (.ret (.ref (D9 s.heap b1 b2 l1 l2).objs.size))) { s with heap:=En s.heap b1 b2 l1 l2 }):=
 .of_wp fun prog w A R s h=>by
  obtain⟨hp,g,d,tk,os⟩:=s;obtain⟨hl1,hl2,h⟩:=h
  have hsub:=sub_zip
  have hL1:SeqB b1 (Shared.heap ⟨hp,g,d,tk,os⟩) l1 xs:=hl1
  have hL2:SeqB b2 (Shared.heap ⟨hp.push (V3 b1 l1),g,d,tk,os⟩) l2 ys:=hl2.at fun o e=>Heap.get?_push_of_some _ e
  wp_walk using Xi hL1,Xi hL2
  exact⟨_,rfl,h⟩
section
variable {prog:Program} {w:World} {A:Around} {E:Value->Shared->Prop} {s:Shared}
theorem PR{b1 b2:Bool}{l1 l2:Addr}{xs ys:Array Value}{Q:Value->Shared->Prop}(hl1:SeqB b1 s.heap l1 xs)(hl2:SeqB b2 s.heap l2 ys)
  (h:∀h',IsZip h' (s.heap.objs.size+4) (s.heap.objs.size+2) (s.heap.objs.size+3) .none->IsPair h' (s.heap.objs.size+2) (.ref s.heap.objs.size) (.ref (s.heap.objs.size+1))->
   IsPair h' (s.heap.objs.size+3) .none .none->IterB b1 h' s.heap.objs.size l1 0->IterB b2 h' (s.heap.objs.size+1) l2 0->h'.objs.size=s.heap.objs.size+5->
   (∀c o,s.heap.get? c=some o->h'.get? c=some o)->Q (.ref (s.heap.objs.size+4)) { s with heap:=h' }) :
  wpAny (model prog w) A (call (.type "zip") [.ref l1,.ref l2]) Q E s:=by
 refine callType_new F.called_zip (by decide) (F.typeCall_zip_2 _ _) (F.newCall_zip_2 _ _) (fun obj=>F.args_object_init_3 obj _ _) F.entry_zip_new
  (QS b1 b2 l1 l2 xs ys) ⟨hl1,hl2,?_⟩
 have z1:(D6 s.heap b1 l1).objs.size=s.heap.objs.size+1:=Heap.size_push ..
 have z2:(D7 s.heap b1 b2 l1 l2).objs.size=s.heap.objs.size+2:=by rw[Heap.size_push,z1]
 have z3:(D8 s.heap b1 b2 l1 l2).objs.size=s.heap.objs.size+3:=by rw[Heap.size_push,z2]
 have z4:(D9 s.heap b1 b2 l1 l2).objs.size=s.heap.objs.size+4:=by rw[Heap.size_push,z3]
 have z5:(En s.heap b1 b2 l1 l2).objs.size=s.heap.objs.size+5:=by rw[Heap.size_push,z4]
 have g5:(En s.heap b1 b2 l1 l2).get? (D9 s.heap b1 b2 l1 l2).objs.size=some _:=Heap.get?_push_size _ rfl
 have g4:(En s.heap b1 b2 l1 l2).get? (D8 s.heap b1 b2 l1 l2).objs.size=some _:=Heap.get?_push_of_some _ (Heap.get?_push_size _ rfl)
 have g3:(En s.heap b1 b2 l1 l2).get? (D7 s.heap b1 b2 l1 l2).objs.size=some _:=Heap.get?_push_of_some _ (Heap.get?_push_of_some _ (Heap.get?_push_size _ rfl))
 have g2:(En s.heap b1 b2 l1 l2).get? (D6 s.heap b1 l1).objs.size=some (V3 b2 l2):=Heap.get?_push_of_some _ (Heap.get?_push_of_some _ (Heap.get?_push_of_some _ (Heap.get?_push_size _ rfl)))
 have g1:(En s.heap b1 b2 l1 l2).get? s.heap.objs.size=some (V3 b1 l1):=Heap.get?_push_of_some _ (Heap.get?_push_of_some _ (Heap.get?_push_of_some _ (Heap.get?_push_of_some _ (Heap.get?_push_size _ rfl))))
 show _/\_
 rw[z2,z3,z4] at g5;rw[z1,z2] at g3;rw[z3] at g4;rw[z1] at g2;rw[z4]
 exact⟨⟨_,g5,rfl⟩,h _ g5 g3 g4 (IterB.new g1) (IterB.new g2) z5 fun c o x=>
  Heap.get?_push_of_some _ (Heap.get?_push_of_some _ (Heap.get?_push_of_some _ (Heap.get?_push_of_some _ (Heap.get?_push_of_some _ x))))⟩
end
theorem Inv.newTup{X:Cx}{pins:List (Addr×Obj)}{σ:St}{H:Hp}{s:Shared}{fp:List Addr}{h2:Heap}{tk n:Nat}{us:List Value}{xs:List V}(I:Inv X pins σ H s)(hf:∀b∈fp,Tl X pins H b)
  (kk:∀c o,c∉fp->s.heap.get? c=some o->h2.get? c=some o) (hT:h2.get? s.heap.objs.size=some { cls:=.type "tuple",data:=.seq us.toArray n }) (rv:Vals xs us) (hz:xs.length<=sizeLine) :
  Inv X pins σ (upd H s.heap.objs.size (.tup xs)) { s with heap:=h2,toks:=tk }:=by
 have hTn:H s.heap.objs.size=none:=I.hok.fresh (Nat.le_refl _)
 have hcs:∀c∈fp,(c∈X.ex\/X.s₀.heap.objs.size<=c)/\c≠X.env.locals/\(∀x d,X.env.cells.lookup x=some d->d≠c)/\∀p∈X.pn++pins,p.1≠c:=fun c hc'=>by
  have f:=hf c hc'
  exact⟨f.2.2.2.1,f.2.1,f.2.2.2.2.1,f.2.2.2.2.2⟩
 have nfp:∀c u',H c=some u'->c∉fp:=fun c u' q hc'=>by rw[(hf c hc').1] at q;cases q
 have hok0:HOk X.prog X.w H h2:=fun c u' q=>(I.hok c u' q).stay (fun d v hd q'=>kk d v (by
   rcases hd with z | z
   ·rw[z];exact nfp c u' q
   ·exact nfp d _ z) q') (fun _ z=>z) fun _ _ z=>z
 have new:ObjOk X.prog X.w (upd H s.heap.objs.size (.tup xs)) h2 s.heap.objs.size (.tup xs):=
  ⟨hz,us,rv,⟨_,hT,rfl,_,rfl⟩⟩
 have hok1:HOk X.prog X.w (upd H s.heap.objs.size (.tup xs)) h2:=fun c u' q=>by
  by_cases hb:c=s.heap.objs.size
  ·subst hb;rw[upd_same] at q;cases q;exact new
  ·rw[upd_ne hb] at q
   exact(hok0 c u' q).stay (fun d v _ q'=>q') (fun d z=>by rw[upd_ne (ZI z hTn)];exact z) fun d zs z=>by rw[upd_ne (ZI z hTn)];exact z
 have un:Un (OJ X.stack) fp H (upd H s.heap.objs.size (.tup xs)) s.heap h2:=by
  refine⟨fun c o q _ _ hx'=>kk c o hx' q,fun c o q _ _ hx'=>⟨o.slots,kk c o hx' q⟩,fun c o q n _=>?_,fun c o q hx'=>⟨o,kk c o hx' q⟩,fun c zs q=>?_,fun c o zs q=>?_,fun c ps q=>⟨#[],?_⟩⟩
  ·rw[upd_ne (Nat.ne_of_lt (Heap.lt_size q))];exact n
  ·rw[upd_ne (ZI q hTn)];exact q
  ·rw[upd_ne (ZI q hTn)];exact q
  ·rw[upd_ne (ZI q hTn),q];simp
 exact I.call (g':=s.gens) (d':=s.drawn) un hok1 I.bare hcs
theorem Inv.turnedL{X:Cx}{pins:List (Addr×Obj)}{σ:St}{H:Hp}{s:Shared}{fp:List Addr}{h2:Heap}{tk:Nat}(I:Inv X pins σ H s)(hf:∀b∈fp,Tl X pins H b)
  (kk:∀c o,c∉fp->s.heap.get? c=some o->h2.get? c=some o):Inv X pins σ H { s with heap:=h2,toks:=tk }:=by
 have hcs:∀c∈fp,(c∈X.ex\/X.s₀.heap.objs.size<=c)/\c≠X.env.locals/\(∀x d,X.env.cells.lookup x=some d->d≠c)/\∀p∈X.pn++pins,p.1≠c:=fun c hc'=>by
  have f:=hf c hc'
  exact⟨f.2.2.2.1,f.2.1,f.2.2.2.2.1,f.2.2.2.2.2⟩
 have nfp:∀c u',H c=some u'->c∉fp:=fun c u' q hc'=>by rw[(hf c hc').1] at q;cases q
 have hok0:HOk X.prog X.w H h2:=fun c u' q=>(I.hok c u' q).stay (fun d v hd q'=>kk d v (by
   rcases hd with z | z
   ·rw[z];exact nfp c u' q
   ·exact nfp d _ z) q') (fun _ z=>z) fun _ _ z=>z
 have un:Un (OJ X.stack) fp H H s.heap h2:=
  ⟨fun c o q _ _ hx'=>kk c o hx' q,fun c o q _ _ hx'=>⟨o.slots,kk c o hx' q⟩,fun c o q n _=>n,fun c o q hx'=>⟨o,kk c o hx' q⟩,fun c zs q=>q,fun c o zs q=>q,fun c ps q=>⟨#[],by rw[q];simp⟩⟩
 exact I.call (g':=s.gens) (d':=s.drawn) un hok0 I.bare hcs
theorem SeqB.ne_rec{b:Bool}{h:Heap}{a c:Addr}{its:Array Value}{o:Obj}{vs:Array Value}(p:SeqB b h a its)(e:h.get? c=some o)(d:o.data = .fields vs):a≠c:=fun z=>by
 subst z
 cases b with
 | true=>obtain⟨o',e1,_,m,d'⟩:=(show h.IsList a its from p);rw[e] at e1;cases e1;rw[d] at d';cases d'
 | false=>obtain⟨o',e1,_,m,d'⟩:=(show h.IsTuple a its from p);rw[e] at e1;cases e1;rw[d] at d';cases d'
theorem IterB.rec{b:Bool}{h:Heap}{it a:Addr}{i:Nat}(x:IterB b h it a i):∃o,h.get? it=some o/\∃vs,o.data = .fields vs:=by
 cases b with
 | true=>obtain⟨o,e,_,d⟩:=(show h.IsListIter it a i from x);exact⟨o,e,_,d⟩
 | false=>obtain⟨o,e,_,d⟩:=(show h.IsTupleIter it a i from x);exact⟨o,e,_,d⟩
structure Eo(a1 a2 TO TI:Addr):Prop where
 a:a1≠TO
 b:a2≠TO
 c:a1≠TI
 d:a2≠TI
def CO(b1 b2:Bool)(K:PySem.W.Frag)(a1 a2:Addr):It:=
  ⟨fun i H=>∃xs ys x y,Q7 b1 K H a1 xs/\Q7 b2 K H a2 ys/\xs[i]?=some x/\ys[i]?=some y,
   fun i H v H'=>∃p x y,H p=none/\v = .ref p/\H'=upd H p (.tup [x,y])/\(∀xs,Q7 b1 K H a1 xs->xs[i]?=some x)/\∀ys,Q7 b2 K H a2 ys->ys[i]?=some y,
   fun i H=>∃xs ys,Q7 b1 K H a1 xs/\Q7 b2 K H a2 ys/\(i=xs.length\/(i<xs.length/\i=ys.length))⟩
theorem Jq{P:Program}{w:World}{K:PySem.W.Frag}{elts:List Expr}{k:Nat}{pos:Pos}(b1 b2:Bool)(a1 a2 z TI TO i1 i2:Addr)(d:[z,TI,TO,i1,i2].Nodup) :
  PJ P w K (.Tuple elts k pos) (CO b1 b2 K a1 a2) [z,TI,TO,i1,i2] z
   (fun i h=>IsZip h z TI TO .none/\IsPair h TI (.ref i1) (.ref i2)/\(∃u v,IsPair h TO u v/\Eo a1 a2 TO TI)/\IterB b1 h i1 a1 i/\IterB b2 h i2 a2 i) where
 mem:=by simp
 obj:=fun i h st c hc=>by
  obtain⟨hz,hTI,⟨u,v,hTO,_⟩,h1,h2⟩:=st
  simp only[List.mem_cons,List.not_mem_nil,or_false] at hc
  rcases hc with rfl | rfl | rfl | rfl | rfl
  ·exact⟨_,hz,fun v q=>by cases q⟩
  ·exact⟨_,hTI,fun v q=>by cases q⟩
  ·exact⟨_,hTO,fun v q=>by cases q⟩
  ·exact h1.has
  ·exact h2.has
 keep:=fun i h h' st kk=>by
  obtain⟨hz,hTI,⟨u,v,hTO,f⟩,h1,h2⟩:=st
  exact⟨kk z (by simp) _ hz,kk TI (by simp) _ hTI,⟨u,v,kk TO (by simp) _ hTO,f⟩,h1.at fun o q=>kk i1 (by simp) o q,h2.at fun o q=>kk i2 (by simp) o q⟩
 item:=by
  intro X hP hw hK hc i pins s σ H E I hf st hg
  subst hP hw hK
  obtain⟨xs,ys,x,y,hq1,hq2,hx,hy⟩:=hg
  obtain⟨its1,rv1,p1,hz1⟩:=I.seqB hq1
  obtain⟨its2,rv2,p2,hz2⟩:=I.seqB hq2
  obtain⟨u,hu,ru⟩:=rv1.get hx
  obtain⟨v,hv,rv⟩:=rv2.get hy
  obtain⟨hz,hTI,⟨q1,q2,hTO,f⟩,h1,h2⟩:=st
  obtain⟨o1,e1,vs1,d1⟩:=h1.rec
  obtain⟨o2,e2,vs2,d2⟩:=h2.rec
  have A1z:a1≠z:=p1.ne_rec hz rfl
  have A2z:a2≠z:=p2.ne_rec hz rfl
  have A11:a1≠i1:=p1.ne_rec e1 d1
  have A12:a1≠i2:=p1.ne_rec e2 d2
  have A21:a2≠i1:=p2.ne_rec e1 d1
  have A22:a2≠i2:=p2.ne_rec e2 d2
  simp only[List.nodup_cons,List.mem_cons,List.not_mem_nil,or_false,not_or,List.nodup_nil,and_true,not_false_eq_true] at d
  obtain⟨⟨dzTI,dzTO,dz1,dz2⟩,⟨dIO,dI1,dI2⟩,⟨dO1,dO2⟩,d12⟩:=d
  obtain⟨f1,f2,f3,f4⟩:=f
  have D:Q8 z TI TO i1 i2 [i1,a1] [i2,a2]:=⟨Ne.symm dzTI,Ne.symm dzTO,Ne.symm dz1,Ne.symm dz2,dIO,dI1,dI2,dO1,dO2,d12,by simp[dz1,Ne.symm A1z],by simp[dO1,Ne.symm f1],by simp[Ne.symm d12,Ne.symm A12],by simp[dz2,Ne.symm A2z],by simp[dO2,Ne.symm f2],by simp[d12,Ne.symm A21]⟩
  have D1:=Draws.seq (prog:=X.prog) (w:=X.w) (A:=X.A.in1) b1 (I.ok.hd hc) i1 a1 A11 its1.toArray
  have D2:=Draws.seq (prog:=X.prog) (w:=X.w) (A:=X.A.in1) b2 (I.ok.hd hc) i2 a2 A22 its2.toArray
  have l1:i<its1.toArray.size:=by simpa using(List.getElem?_eq_some_iff.mp hu).1
  have l2:i<its2.toArray.size:=by simpa using(List.getElem?_eq_some_iff.mp hv).1
  refine SZ D D1 D2 hz hTI hTO ⟨h1,p1⟩ ⟨h2,p2⟩ l1 l2 fun x' y' h' tk hPx hPy c1 c2 c3 c4 c5 c6 hk=>?_
  have ex':x'=u:=by
   have w1:its1.toArray[i]?=some x':=hPx
   have w2:its1.toArray[i]?=some u:=by simpa using hu
   rw[w1] at w2;exact Option.some.inj w2
  have ey':y'=v:=by
   have w1:its2.toArray[i]?=some y':=hPy
   have w2:its2.toArray[i]?=some v:=by simpa using hv
   rw[w1] at w2;exact Option.some.inj w2
  subst ex' ey'
  refine⟨_,rfl,wpAny_letOwnedTupleGo_zip c1 fun h3 hz3 hs3=>?_⟩
  replace hs3:Heap.SameBut z h' h3:=hs3
  have kk:∀c o,c∉[z,TI,TO,i1,i2]->s.heap.get? c=some o->h3.get? c=some o:=fun c o hc' q=>
   hs3.extBut c o (fun e=>hc' (by simp[e])) (hk c o (fun e=>hc' (by simp[e])) (fun e=>hc' (by simp[e])) (fun e=>hc' (by simp[e])) (fun e=>hc' (by simp[e])) q)
  have hTn:H s.heap.objs.size=none:=I.hok.fresh (Nat.le_refl _)
  have hT3:h3.get? s.heap.objs.size=some { cls:=.type "tuple",data:=.seq [x',y'].toArray }:=hs3.extBut _ _ (Nat.ne_of_gt (Heap.lt_size hz)) c5
  have I2:=I.newTup (tk:=tk) hf kk hT3 (.cons ru (.cons rv .nil)) (by show 2<=sizeLine;decide)
  refine⟨.ref s.heap.objs.size,_,I2,rfl,⟨_,x,y,hTn,rfl,rfl,fun zs hzs=>by rw[I.seqB_inj hzs hq1];exact hx,fun zs hzs=>by rw[I.seqB_inj hzs hq2];exact hy⟩,⟨hz3,hs3.extBut _ _ (Ne.symm dzTI) (hk _ _ (Ne.symm dzTI) dIO dI1 dI2 hTI),⟨_,_,hs3.extBut _ _ (Ne.symm dzTO) c2,f1,f2,f3,f4⟩,c3.1.at fun o q=>hs3.extBut _ o (Ne.symm dz1) q,c4.1.at fun o q=>hs3.extBut _ o (Ne.symm dz2) q⟩,fun c hc'=>?_⟩
  rw[upd_ne (Nat.ne_of_lt ?_)]
  ·exact(hf c hc').1
  ·simp only[List.mem_cons,List.not_mem_nil,or_false] at hc'
   rcases hc' with rfl | rfl | rfl | rfl | rfl
   ·exact Heap.lt_size hz
   ·exact Heap.lt_size hTI
   ·exact Heap.lt_size hTO
   ·exact Heap.lt_size e1
   ·exact Heap.lt_size e2
 done:=by
  intro X hP hw hK hc i pins s σ H E I hf st hg
  subst hP hw hK
  obtain⟨xs,ys,hq1,hq2,hx⟩:=hg
  obtain⟨its1,rv1,p1,hz1⟩:=I.seqB hq1
  obtain⟨its2,rv2,p2,hz2⟩:=I.seqB hq2
  obtain⟨hz,hTI,⟨q1,q2,hTO,f⟩,h1,h2⟩:=st
  obtain⟨o1,e1,vs1,d1⟩:=h1.rec
  obtain⟨o2,e2,vs2,d2⟩:=h2.rec
  have A1z:a1≠z:=p1.ne_rec hz rfl
  have A2z:a2≠z:=p2.ne_rec hz rfl
  have A11:a1≠i1:=p1.ne_rec e1 d1
  have A12:a1≠i2:=p1.ne_rec e2 d2
  have A21:a2≠i1:=p2.ne_rec e1 d1
  have A22:a2≠i2:=p2.ne_rec e2 d2
  simp only[List.nodup_cons,List.mem_cons,List.not_mem_nil,or_false,not_or,List.nodup_nil,and_true,not_false_eq_true] at d
  obtain⟨⟨dzTI,dzTO,dz1,dz2⟩,⟨dIO,dI1,dI2⟩,⟨dO1,dO2⟩,d12⟩:=d
  obtain⟨f1,f2,f3,f4⟩:=f
  have D:Q8 z TI TO i1 i2 [i1,a1] [i2,a2]:=⟨Ne.symm dzTI,Ne.symm dzTO,Ne.symm dz1,Ne.symm dz2,dIO,dI1,dI2,dO1,dO2,d12,by simp[dz1,Ne.symm A1z],by simp[dO1,Ne.symm f1],by simp[Ne.symm d12,Ne.symm A12],by simp[dz2,Ne.symm A2z],by simp[dO2,Ne.symm f2],by simp[d12,Ne.symm A21]⟩
  have D1:=Draws.seq (prog:=X.prog) (w:=X.w) (A:=X.A.in1) b1 (I.ok.hd hc) i1 a1 A11 its1.toArray
  have D2:=Draws.seq (prog:=X.prog) (w:=X.w) (A:=X.A.in1) b2 (I.ok.hd hc) i2 a2 A22 its2.toArray
  have n1:=rv1.length;have n2:=rv2.length
  refine RO D D1 D2 hz hTI hTO ⟨h1,p1⟩ ⟨h2,p2⟩ (by simp only[List.size_toArray];omega) fun h' tk hk=>⟨rfl,?_⟩
  exact I.turnedL hf fun c o hc' q=>hk c o (fun e=>hc' (by simp[e])) (fun e=>hc' (by simp[e])) (fun e=>hc' (by simp[e])) (fun e=>hc' (by simp[e])) q
 self:=fun A i s Q E st hQ=>wpAny_pyIter_zip st.1 hQ
section
variable {X:Cx}
def Cy(b1 b2:Bool)(K:PySem.W.Frag)(ta:TA):TI:=fun σ H R=>ta σ H fun vs H1=>∃a1 a2,vs=[.ref a1,.ref a2]/\(∃xs,Q7 b1 K H1 a1 xs)/\(∃ys,Q7 b2 K H1 a2 ys)/\R (CO b1 b2 K a1 a2) H1
theorem Ep{elts:List Expr}{k:Nat}{tpos:Pos}(b1 b2:Bool){a b:Expr}{ta:TA}{p pos:Pos}(hg:Gl X "zip")(hm:X.mg "zip" = none)(ha:PA X [a,b] ta)
  (hs:starEach [a,b] X.env=[(false,eval a X.env),(false,eval b X.env)]:=by rfl) (hs2:starEach [b] X.env=[(false,eval b X.env)]:=by rfl) :
  PI X (.Tuple elts k tpos) (.Call (.Name "zip" p) [a,b] [] pos) (Cy b1 b2 X.K ta):=by
 intro pins s σ H R I h
 refine Call_ (Ua I hg hm boot_zip (PyProof.Rows.callWith_type1 (YZ (ha pos pins s σ H _ I h) fun us s1 ⟨vs,H1,I1,r1,q1⟩=>?_) (by rw[hs,hs2]) (by rw[hs2];rfl)))
 obtain⟨a1,a2,e,⟨xs,hq1⟩,⟨ys,hq2⟩,q⟩:=q1
 subst e
 cases r1 with
 | cons r rr=>
  cases rr with
  | cons r' rr=>
   cases rr;cases r
   cases r'
   obtain⟨its1,rv1,p1,_⟩:=I1.seqB hq1
   obtain⟨its2,rv2,p2,_⟩:=I1.seqB hq2
   refine PR p1 p2 fun h' c1 c2 c3 c4 c5 c6 hk=>?_
   refine wpAny_pyIter_zip c1 ?_
   have I2:Inv X pins σ H1 { s1 with heap:=h' }:=I1.kept (t':=s1.toks) hk
   have L1:a1<s1.heap.objs.size:=let⟨_,e⟩:=p1.has;Heap.lt_size e
   have L2:a2<s1.heap.objs.size:=let⟨_,e⟩:=p2.has;Heap.lt_size e
   generalize hn:s1.heap.objs.size=n at *
   have ne:∀(a:Addr)(j:Nat),a<n->a≠n+j:=fun a j h=>Nat.ne_of_lt (Nat.lt_of_lt_of_le h (Nat.le_add_right _ _))
   have nd:([n+4,n+2,n+3,n,n+1]:List Addr).Nodup:=by
    have hh:∀(i j:Nat),i≠j->(n+i:Nat)≠n+j:=fun i j h e=>h (Nat.add_left_cancel e)
    have h0:∀(i:Nat),i≠0->(n+i:Nat)≠n:=fun i h e=>h (Nat.add_left_cancel (e.trans (Nat.add_zero n).symm))
    simp only[List.nodup_cons,List.mem_cons,List.not_mem_nil,or_false,not_or,List.nodup_nil,and_true,not_false_eq_true]
    exact⟨⟨hh 4 2 (by decide),hh 4 3 (by decide),h0 4 (by decide),hh 4 1 (by decide)⟩,⟨hh 2 3 (by decide),h0 2 (by decide),hh 2 1 (by decide)⟩,⟨h0 3 (by decide),hh 3 1 (by decide)⟩,(h0 1 (by decide)).symm⟩
   refine⟨n+4,[n+4,n+2,n+3,n,n+1],_,_,H1,rfl,I2,Jq b1 b2 a1 a2 (n+4) (n+2) (n+3) n (n+1) nd,⟨c1,c2,⟨_,_,c3,ne a1 3 L1,ne a2 3 L2,ne a1 2 L1,ne a2 2 L2⟩,c4,c5⟩,fun c hc=>?_,q⟩
   have hle:s1.heap.objs.size<=c:=by
    rw[hn];simp only[List.mem_cons,List.not_mem_nil,or_false] at hc
    rcases hc with rfl | rfl | rfl | rfl | rfl
    ·exact Nat.le_add_right _ _
    ·exact Nat.le_add_right _ _
    ·exact Nat.le_add_right _ _
    ·exact Nat.le_refl _
    ·exact Nat.le_add_right _ _
   exact I1.fpOk hle (I1.hok.fresh hle)
end
section
variable {prog:Program} {w:World} {A:Around} {E:Value->Shared->Prop} {s:Shared}
theorem PU{d:Addr}{o:Obj}{es:Array DictEntry}{ep:Nat}{Q:Value->Shared->Prop}(hd:(d==sysModules)=false)(ho:s.heap.get? d=some o)(hc:o.ExactDict)(hdat:o.data = .dict es ep)
  (hQ:Q (.ref s.heap.objs.size) { s with heap:=s.heap.push { cls:=.type "dict_keyiterator",data:=.fields #[.ref d,.int 0 0,.int es.size 0,.int ep 0] } }) :
  wpAny (model prog w) A (pyIter (.ref d)) Q E s:=by
 have hT:s.TypeIs (.ref d) "dict":=⟨o,ho,hc.1⟩
 refine wpAny_pyIter_slot hT F.slot_dict_iter (wpAny_call_entry F.slot_dict_iter hT F.entry_dict_iter ?_ (F.args_dict_iter_1 _))
 unfold Builtin.«dict.__iter__»
 refine wpAny_bind ?_
 unfold Builtin.Dict.dictSlotNone
 refine wpAny_bind (wpAny_notOrdered_dict hT ?_)
 show wpAny _ _ (pure (Value.ref d)) _ _ s
 refine wpAny_pure ?_
 show wpAny _ _ (Builtin.Dict.showsAll d >>= _) _ _ s
 unfold Builtin.Dict.showsAll
 rw[if_neg (by rw[hd];exact Bool.false_ne_true)]
 refine wpAny_bind (wpAny_pure ?_)
 refine wpAny_bind (wpAny_dictEntries ho hdat ?_)
 refine wpAny_bind (wpAny_dictEpoch ho hdat ?_)
 refine wpAny_bind (wpAny_newObj_type (wpAny_pure ⟨_,rfl,"dict_keyiterator",_,⟨_,Heap.get?_push_size _ rfl,rfl⟩,F.slot_dict_keyiterator_next.lookup,?_⟩))
 simpa [rawInt] using hQ
theorem Tn{it d:Addr}{i ep:Nat}{od:Obj}{es:Array DictEntry}{e:DictEntry}{Q:Option Value->Shared->Prop}(hit:s.heap.IsKeyIter it d i es.size ep)
  (hod:s.heap.get? d=some od) (hdd:od.data = .dict es ep) (hx:es[i]?=some e)
  (hQ:∀h',h'.IsKeyIter it d (i+1) es.size ep->Heap.SameBut it s.heap h'->Q (some e.key) { s with heap:=h' }) :
  wpAny (model prog w) A (pyNext (.ref it)) Q E s:=by
 obtain⟨o,ho,hc,hd⟩:=id hit
 unfold pyNext
 refine wpAny_bind (wpAny_attempt (wpAny_callSpecial?_slot (name:=Str.ofString "__next__") hit.typeIs F.slot_dict_keyiterator_next
  (wpAny_call_entry F.slot_dict_keyiterator_next hit.typeIs F.entry_dict_keyiterator_next ?_ (F.args_dict_keyiterator_next_1 _))))
 refine wpAny_bind (wpAny_pure ?_)
 refine wpAny_bind ?_
 refine wpAny_bind ?_
 first | refine wpAny_bind (wpAny_typeNameOfWhole_keyiter hit.typeIs (wpAny_pure ?_)) | refine wpAny_bind (wpAny_typeNameOf_keyiter hit.typeIs (wpAny_pure ?_))
 refine wpAny_bind (wpAny_fieldsOf ho hd ?_)
 have hown:Builtin.Dict_items.ownsTuple "dict_keyiterator" = false:=by decide
 simp only[hown,Bool.false_eq_true,if_false]
 show wpAny _ _ (if(Value.ref d==Value.none)=true then _ else _) _ _ s
 rw[if_neg (show ¬((Value.ref d==Value.none)=true) from Bool.false_ne_true)]
 refine wpAny_bind (wpAny_pure ?_)
 refine wpAny_bind (wpAny_dictEntries hod hdd ?_)
 rw[if_neg (by simp)]
 refine wpAny_bind (wpAny_pure ?_)
 refine wpAny_bind (wpAny_dictEpoch hod hdd ?_)
 rw[if_neg (by simp)]
 refine wpAny_pure ?_
 obtain⟨hlt',he⟩:=Array.getElem?_eq_some_iff.mp hx
 subst he;simp only[show ¬((i:Int)<0) from by omega,if_false,Int.toNat_natCast,Array.getElem?_eq_getElem hlt']
 refine wpAny_bind ?_
 first | refine wpAny_bind (wpAny_typeNameOfWhole_keyiter hit.typeIs (wpAny_pure ?_)) | refine wpAny_bind (wpAny_typeNameOf_keyiter hit.typeIs (wpAny_pure ?_))
 refine wpAny_bind (wpAny_isOneOf_keyiter hit.typeIs ?_)
 show wpAny _ _ (setField (.ref it) 1 (rawInt ((i:Int)+1)) >>= _) _ _ s
 refine wpAny_bind (wpAny_setField ho hd (by simp) ?_)
 have hit':(s.heap.update it (Obj.mapFields (·.setIfInBounds 1 (rawInt ((i:Int)+1))))).IsKeyIter it d (i+1) es.size ep:=
  ⟨_,Heap.get?_update_self _ ho (Obj.isFreed_of_fields (Obj.data_mapFields hd _)),(Obj.cls_mapFields ..).trans hc,by rw[Obj.data_mapFields hd];simp[rawInt]⟩
 refine wpAny_bind (wpAny_holding ?_)
 refine wpAny_bind (wpAny_isOneOf_keyiter (s:={ s with heap:=s.heap.update it (Obj.mapFields (·.setIfInBounds 1 (rawInt ((i:Int)+1)))) }) hit'.typeIs ?_)
 show wpAny _ _ (pure es[i].key) _ _ _
 exact wpAny_pure (wpAny_pure ⟨_,rfl,wpAny_pure (hQ _ hit' (Heap.SameBut.update ..))⟩)
theorem T9{it d:Addr}{ep:Nat}{od:Obj}{es:Array DictEntry}{Q:Option Value->Shared->Prop}(hh:A.handled=none)(hit:s.heap.IsKeyIter it d es.size es.size ep)
  (hod:s.heap.get? d=some od) (hdd:od.data = .dict es ep)
  (hQ:∀h',Heap.ExtBut it s.heap h'->Q none { s with heap:=h' }):wpAny (model prog w) A (pyNext (.ref it)) Q E s:=by
 obtain⟨o,ho,hc,hd⟩:=id hit
 unfold pyNext
 refine wpAny_bind (wpAny_attempt (wpAny_callSpecial?_slot (name:=Str.ofString "__next__") hit.typeIs F.slot_dict_keyiterator_next
  (wpAny_call_entry F.slot_dict_keyiterator_next hit.typeIs F.entry_dict_keyiterator_next ?_ (F.args_dict_keyiterator_next_1 _))))
 refine wpAny_bind (wpAny_pure ?_)
 refine wpAny_bind ?_
 refine wpAny_bind ?_
 first | refine wpAny_bind (wpAny_typeNameOfWhole_keyiter hit.typeIs (wpAny_pure ?_)) | refine wpAny_bind (wpAny_typeNameOf_keyiter hit.typeIs (wpAny_pure ?_))
 refine wpAny_bind (wpAny_fieldsOf ho hd ?_)
 have hown:Builtin.Dict_items.ownsTuple "dict_keyiterator" = false:=by decide
 simp only[hown,Bool.false_eq_true,if_false]
 show wpAny _ _ (if(Value.ref d==Value.none)=true then _ else _) _ _ s
 rw[if_neg (show ¬((Value.ref d==Value.none)=true) from Bool.false_ne_true)]
 refine wpAny_bind (wpAny_pure ?_)
 refine wpAny_bind (wpAny_dictEntries hod hdd ?_)
 rw[if_neg (by simp)]
 refine wpAny_bind (wpAny_pure ?_)
 refine wpAny_bind (wpAny_dictEpoch hod hdd ?_)
 rw[if_neg (by simp)]
 refine wpAny_pure ?_
 simp only[show ¬((es.size:Int)<0) from by omega,if_false,Int.toNat_natCast,Array.getElem?_eq_none (Nat.le_refl es.size)]
 refine wpAny_bind ?_
 first | refine wpAny_bind (wpAny_typeNameOfWhole_keyiter hit.typeIs (wpAny_pure ?_)) | refine wpAny_bind (wpAny_typeNameOf_keyiter hit.typeIs (wpAny_pure ?_))
 show wpAny _ _ (setField (.ref it) 0 .none >>= _) _ _ s
 refine wpAny_bind (wpAny_setField ho hd (by simp) ?_)
 show wpAny _ _ (newExc (.type "StopIteration") [] >>= _) _ _ _
 refine wpAny_bind ?_
 simp only[newExc,newTuple]
 refine wpAny_bind (wpAny_newObj_type ?_ (by size_fits))
 refine wpAny_bind (m:=firstArgMember _ _) (wpAny_of_eq (a:=Value.none) (by first | rfl | (simp only[firstArgMember];rfl)) ?_)
 refine wpAny_newObj_type ?_ (by size_fits)
 simp only[raiseNew]
 refine wpAny_bind (wpAny_handled ?_)
 rw[show A.in1.handled=none from hh]
 refine wpAny_bind (wpAny_pure (wpAny_throw ?_))
 refine wpAny_bind (wpAny_isInstance (T:="StopIteration") (b:=true) ⟨_,Heap.get?_push_size _ rfl,rfl⟩ isSubtype_stop ?_)
 exact wpAny_pure (hQ _ (((Heap.SameBut.update ..).extBut.push _).push _))
end
def Er(d:Addr)(o:Obj)(kvs:List (List Y4×V)):It:=
  ⟨fun i H=>H d=some (.frz o (.dT kvs))/\i<kvs.length,
   fun i H v H'=>H'=H/\∃b k y,kvs[i]?=some (k,y)/\v = .ref b/\H b=some (.tup (k.map kV)),
   fun i H=>H d=some (.frz o (.dT kvs))/\i=kvs.length⟩
theorem KT.get{H:Hp}:∀{kvs:List (List Y4×V)}{xs:List (List Y4×Addr×Value)}{i:Nat}{p:List Y4×V},KT H kvs xs->kvs[i]?=some p->∃q,xs[i]?=some q/\p.1=q.1/\H q.2.1=some (.tup (p.1.map kV))/\RelV p.2 q.2.2
 | _,_,_,_,.nil,e=>by simp at e
 | _,_,0,_,.cons r _,e=>by simp at e;subst e;exact⟨_,rfl,r⟩
 | _,_,i+1,p,.cons _ t,e=>by
  obtain⟨q,h1,h2⟩:=KT.get (i:=i) (p:=p) t (by simpa using e)
  exact⟨q,by simpa using h1,h2⟩
theorem L9{P:Program}{w:World}{K:PySem.W.Frag}{tg:Expr}(d it:Addr)(o:Obj)(es:Array DictEntry)(ep:Nat)(kvs:List (List Y4×V))(ho:o.data = .dict es ep)(hlen:es.size=kvs.length) :
  PJ P w K tg (Er d o kvs) [it] it (fun i h=>h.IsKeyIter it d i es.size ep) where
 mem:=by simp
 obj:=fun i h st b hb=>by
  rw[List.mem_singleton.mp hb]
  obtain⟨o,e,c,q⟩:=st
  exact⟨o,e,fun v z=>by rw[q] at z;cases z⟩
 keep:=fun i h h' st k=>by
  obtain⟨o,e,r⟩:=st
  exact⟨o,k it (by simp) o e,r⟩
 item:=by
  intro X hP hw hK hc i pins s σ H E I hf st hg
  subst hP hw hK
  obtain⟨hd,hi⟩:=hg
  obtain⟨e1,z,y,xs,r,o',es',ep',h1,h2,h3,h4,h5⟩:=(show ObjOk X.prog X.w H s.heap d (.frz o (.dT kvs)) from I.hok d _ hd)
  rw[e1] at h1;cases h1
  rw[ho] at h3;cases h3
  have hk:kvs[i]?=some kvs[i]:=List.getElem?_eq_getElem hi
  obtain⟨q,hq,eq,hb,rv⟩:=KT.get r hk
  have he:es[i]?=some (entryOfKey (tupleKind (YT X.prog X.w)) q):=by
   have:=congrArg (fun l=>l[i]?) h4
   simp only[List.getElem?_map,hq,Option.map_some] at this
   simpa using this
  obtain⟨f0,f1,f2,f3,f4,f5⟩:=hf it (by simp)
  refine Tn st e1 ho he fun h' st' sb=>?_
  have I1:Inv X pins σ H { s with heap:=h' }:=I.turned (t':=s.toks) (fun b o hb e=>(sb.2 b hb).trans e) f0 f1 f3 f4 f5
  obtain⟨o2,e2,c2,d2⟩:=id st'
  exact⟨_,rfl,M6 (s:={ s with heap:=h' }) e2 c2 d2 (by decide) ⟨.ref q.2.1,H,I1,rfl,⟨rfl,q.2.1,_,_,hk,rfl,hb⟩,st',fun b hb=>(hf b hb).1⟩⟩
 done:=by
  intro X hP hw hK hc i pins s σ H E I hf st hg
  subst hP hw hK
  obtain⟨hd,hi⟩:=hg
  obtain⟨e1,_⟩:=(show ObjOk X.prog X.w H s.heap d (.frz o (.dT kvs)) from I.hok d _ hd)
  obtain⟨f0,f1,f2,f3,f4,f5⟩:=hf it (by simp)
  rw[hi,<-hlen] at st
  exact T9 (I.ok.hd hc) st e1 ho fun h' eb=>⟨rfl,I.turned (t':=s.toks) (fun b o hb e=>eb b o hb e) f0 f1 f3 f4 f5⟩
 self:=fun A i s Q E st hQ=>by
  refine wpAny_pyIter_slot st.typeIs F.slot_dict_keyiterator_iter (wpAny_call_entry F.slot_dict_keyiterator_iter st.typeIs F.entry_dict_keyiterator_iter ?_ (F.args_dict_keyiterator_iter_1 _))
  show wpAny _ _ (ret (.ref it)) _ _ s
  exact wpAny_pure ⟨_,rfl,"dict_keyiterator",_,st.typeIs,F.slot_dict_keyiterator_next.lookup,hQ⟩
section
variable {X:Cx} {tg:Expr}
theorem Inv.freeze{pins:List (Addr×Obj)}{σ:St}{H:Hp}{s:Shared}{d:Addr}{kvs:List (List Y4×V)}{o:Obj}(I:Inv X pins σ H s)(hd:H d=some (.dT kvs))(ho:s.heap.get? d=some o) :
  Inv X pins σ (upd H d (.frz o (.dT kvs))) s:=by
 have ne:∀b u,H b=some u->(∀k,u≠.dT k)->b≠d:=fun b u q n z=>by rw[z,hd] at q;exact n _ (Option.some.inj q).symm
 have nn:∀b,H b=none->b≠d:=fun b q z=>by rw[z,hd] at q;cases q
 have un:Un X.fs [] H (upd H d (.frz o (.dT kvs))) s.heap s.heap:=
  ⟨fun b o q _ _ _=>q,fun b o q _ _ _=>⟨o.slots,q⟩,fun b o q n _=>by rw[upd_ne (nn b n)];exact n,fun b o q _=>⟨o,q⟩,
   fun b xs q=>by rw[upd_ne (ne b _ q fun _ z=>nomatch z)];exact q,fun b o u q=>by rw[upd_ne (ne b _ q fun _ z=>nomatch z)];exact q,fun b ps q=>⟨#[],by rw[upd_ne (ne b _ q fun _ z=>nomatch z),q];simp⟩⟩
 have hok:HOk X.prog X.w (upd H d (.frz o (.dT kvs))) s.heap:=fun b u q=>by
  have hown:∀c y,H c=some (.own y)->upd H d (.frz o (.dT kvs)) c=some (.own y):=fun c y z=>by rw[upd_ne (ne c _ z fun _ z=>nomatch z)];exact z
  have htup:∀c xs,H c=some (.tup xs)->upd H d (.frz o (.dT kvs)) c=some (.tup xs):=fun c y z=>by rw[upd_ne (ne c _ z fun _ z=>nomatch z)];exact z
  by_cases hb:b=d
  ·subst hb
   rw[upd_same] at q;cases q
   exact⟨ho,(I.hok b _ hd).stay (fun _ _ _ z=>z) (fun c z=>hown c _ z) htup⟩
  ·rw[upd_ne hb] at q
   exact(I.hok b u q).stay (fun _ _ _ z=>z) (fun c z=>hown c _ z) htup
 have:=I.un (t':=s.toks) un hok
 exact this
def DD(tl:TE):TI:=fun σ H R=>tl σ H fun x H1=>∃d kvs,x = .ref d/\((H1 d=some (.dT kvs)/\∀o,R (Er d o kvs) (upd H1 d (.frz o (.dT kvs))))\/∃o,H1 d=some (.frz o (.dT kvs))/\R (Er d o kvs) H1)
theorem HZ{l:Expr}{tl:TE}(hl:PE X l tl):PI X tg l (DD tl):=by
 intro pins s σ H R I h
 refine YZ (hl pins s σ H _ I h) fun v s1 ⟨x,H1,I1,r1,q1⟩=>?_
 obtain⟨d,kvs,e,q⟩:=q1
 subst e;cases r1
 have core:∀(o:Obj)(H2:Hp),Inv X pins σ H2 s1->H2 d=some (.frz o (.dT kvs))->R (Er d o kvs) H2->wpAny (model X.prog X.w) X.A (pyIter (.ref d)) (DZ X pins σ tg R) X.xe s1:=fun o H2 I2 e2 q2=>by
  obtain⟨e1,z,y,xs,r,o',es,ep,h1,h2,h3,h4,h5⟩:=(show ObjOk X.prog X.w H2 s1.heap d (.frz o (.dT kvs)) from I2.hok d _ e2)
  rw[e1] at h1;cases h1
  have hsz:es.size=kvs.length:=by
   have a1:=congrArg List.length h4;have a2:=Paired.length r;simp only[Array.length_toList,List.length_map] at a1;omega
  refine PU y e1 h2 h3 ?_
  refine⟨s1.heap.objs.size,[s1.heap.objs.size],_,_,H2,rfl,I2.kept (t':=s1.toks) fun b o e=>Heap.get?_push_of_some _ e,L9 d _ o es ep kvs h3 hsz,⟨_,Heap.get?_push_size _ rfl,rfl,rfl⟩,fun b hb=>?_,q2⟩
  rw[List.mem_singleton.mp hb]
  exact I2.fpOk (Nat.le_refl _) (I2.hok.fresh (Nat.le_refl _))
 rcases q with⟨hd,q⟩ | ⟨o,hd,q⟩
 ·obtain⟨z,y,xs,r,o,es,ep,h1,h2,h3,h4,h5⟩:=(show ObjOk X.prog X.w H1 s1.heap d (.dT kvs) from I1.hok d _ hd)
  exact core o _ (I1.freeze hd h1) upd_same (q o)
 ·exact core o H1 I1 hd q
end
theorem Walks.seqB{prog:Program}{w:World}{A:Around}(b:Bool)(hh:A.handled=none)(I ax:Addr)(hne:ax≠I)(items:Array Value) :
  Walks prog w A I [I,ax] [I] items.size (fun i v=>items[i]?=some v) (fun i h=>IterB b h I ax i/\SeqB b h ax items):=by
 cases b with
 | true=>exact Walks.list hh I ax hne items
 | false=>exact Walks.tuple hh I ax hne items
section
variable {X:Cx}
theorem YH(hc:X.calm=true):V2 X (.builtin "sum") (fun xs H Q=>∃(b:Bool) (p:Addr) (ns:List Int),xs=[.ref p]/\Q7 b X.K H p (ns.map V.int)/\Q (.int ns.sum) H):=by
 intro pins s σ H xs us Q I r h
 obtain⟨b,p,ns,rfl,hq,q⟩:=h
 obtain⟨u,rfl,rx⟩:=RI r
 cases rx
 obtain⟨its,rv,hseq,hz⟩:=I.seqB hq
 have hp:p<s.heap.objs.size:=let⟨_,e⟩:=hseq.has;Heap.lt_size e
 refine call_sum_walkG (Xi hseq ?_)
 refine⟨_,_,_,_,_,_,fun i=>ns.getD i 0,rfl,Walks.seqB (A:=X.A.in1) b (I.ok.hd hc) s.heap.objs.size p (Nat.ne_of_lt hp) its.toArray,⟨IterB.new (Heap.get?_push_size _ rfl),hseq.at fun o e=>Heap.get?_push_of_some _ e⟩,fun c hcm=>?_,fun i v hv=>?_,fun h' tk t' hk=>?_⟩
 ·show c<(s.heap.push _).objs.size
  rw[Heap.size_push]
  rcases List.mem_cons.mp hcm with rfl | hcm
  ·exact Nat.lt_succ_self _
  ·rw[List.mem_singleton.mp hcm];exact Nat.lt_succ_of_lt hp
 ·have hv:its.toArray[i]?=some v:=hv
  have hv:its[i]?=some v:=by simpa using hv
  have hl:=rv.length;rw[List.length_map] at hl
  have hi:i<ns.length:=by rw[hl];exact(List.getElem?_eq_some_iff.mp hv).1
  obtain⟨u,hu,ru⟩:=rv.get (i:=i) (x:=.int ns[i]) (by rw[List.getElem?_map,List.getElem?_eq_getElem hi];rfl)
  rw[hv] at hu;cases hu
  obtain⟨t,rfl⟩:=ru
  refine⟨t,?_⟩
  show Value.int ns[i] t=Value.int (ns.getD i 0) t
  rw[List.getD_eq_getElem?_getD,List.getElem?_eq_getElem hi];rfl
 ·have e:preSum (fun i=>ns.getD i 0) its.toArray.size=ns.sum:=by
   have hl:=rv.length;rw[List.length_map] at hl;rw[List.size_toArray,<-hl]
   have gen:∀k,k<=ns.length->preSum (fun i=>ns.getD i 0) k=(ns.take k).sum:=by
    intro k
    induction k with
    | zero=>intro _;simp[preSum]
    | succ k ih=>
     intro hk;rw[preSum,ih (by omega),List.take_add_one,List.getD_eq_getElem?_getD,List.getElem?_eq_getElem (by omega),List.sum_append]
     simp
   rw[gen _ (Nat.le_refl _),List.take_length]
  rw[e]
  refine⟨.int ns.sum,H,I.kept (fun c o hco=>hk c o ?_ (Heap.get?_push_of_some _ hco)),⟨_,rfl⟩,q⟩
  intro hm;rw[List.mem_singleton.mp hm] at hco
  exact absurd (Heap.lt_size hco) (Nat.lt_irrefl _)
def Lg:V->List V->Hp->VK->Prop:=fun x vs H Q=>∃l xs k y,x = .ref l/\vs=[.int k,y]/\H l=some (.lst xs)/\0<=k/\k<2^63/\xs.length<sizeLine/\Q .non (upd H l (.lst (xs.take k.toNat++y::xs.drop k.toNat)))
theorem Q9:Cv X "list.insert" Lg:=by
 intro pins s σ H x vs v us Q I rx rv h
 obtain⟨l,xs,k,y,rfl,rfl,hH,h0,h1,hz,q⟩:=h
 cases rx
 obtain⟨u1,u2,rfl,r1,r2⟩:=rv.two
 obtain⟨t,rfl⟩:=r1
 obtain⟨z,its,n,r,hl,e⟩:=I.lstM hH
 have hfit:¬(!Builtin.List.listFitsIndex k)=true:=by
  rw[fitsIndex_both (by omega) h1];exact Bool.false_ne_true
 refine call_meets F.slot_list_insert ⟨_,e,rfl⟩ F.entry_list_insert (F.args_list_insert_3 _ _ _) (AutoListH.list_insert_list_int_val_1 l its.toArray n k t u2 hfit (by rw[List.size_toArray];omega)) ⟨e,?_⟩
 refine⟨.non,_,I.lset (its':=its.take k.toNat++u2::its.drop k.toNat) hH e ?_ ((r.take k.toNat).append (.cons r2 (r.drop k.toNat))) ?_,rfl,q⟩
 ·show(have j:=if k<0 then(k+((its.toArray.size:Nat):Int)).toNat else min k.toNat its.toArray.size;(its.toArray.extract 0 j).push u2++its.toArray.extract j)=_
  rw[if_neg (by omega)]
  dsimp only
  by_cases hle:k.toNat<=its.length
  ·rw[Nat.min_eq_left (by rw[List.size_toArray];exact hle)]
   simp
   rw[List.take_of_length_le (by rw[List.length_drop];exact Nat.le_refl _)]
  ·rw[Nat.min_eq_right (by rw[List.size_toArray];omega)]
   rw[List.take_of_length_le (by omega),List.drop_eq_nil_of_le (by omega)]
   simp
 ·rw[List.length_append,List.length_cons,List.length_take,List.length_drop]
  omega
end
def TK(H H':Hp):Prop:=∀b xs,H b=some (.tup xs)->H' b=some (.tup xs)
theorem Same.tk{H H':Hp}(s:Same H H'):TK H H':=fun b xs h=>s b _ h
theorem Same.new{H:Hp}{p:Addr}(h:H p=none)(o:HO):Same H (upd H p o):=fun b u q=>by rw[upd_ne (ZI q h)];exact q
class Rep(α:Type) where
 is:Hp->V->α->Prop
 keep:∀{H H':Hp}{v:V}{a:α},TK H H'->is H v a->is H' v a
 inj:∀{H:Hp}{v:V}{a a':α},is H v a->is H v a'->a=a'
 dep:Nat
 eqA:∀{X:Cx}{pins:List (Addr×Obj)}{σ:St}{H:Hp}{s:Shared}{v v':V}{a a':α}{u u':Value}{A:Around},Inv X pins σ H s->A.units+dep<cLine->is H v a->is H v' a'->RelV v u->RelV v' u'->
  ∃b,SeqAt.EqAt A s u u' b/\(b=true↔a=a')
instance:Rep Int where
 is:=fun _ v i=>v = .int i
 keep:=fun _ h=>h
 inj:=fun{H v a a'} h h'=>by subst h;exact V.int.inj h'
 dep:=0
 eqA:=fun{X pins σ H s v v' a a' u u' A} _ _ h h' r r'=>by
  subst h;subst h'
  obtain⟨t,rfl⟩:=r
  obtain⟨t',rfl⟩:=r'
  exact⟨_,SeqAt.EqAt.int_int a t a' t',by simp⟩
instance:Rep Bool where
 is:=fun _ v i=>v = .bl i
 keep:=fun _ h=>h
 inj:=fun{H v a a'} h h'=>by subst h;exact V.bl.inj h'
 dep:=0
 eqA:=fun{X pins σ H s v v' a a' u u' A} _ _ h h' r r'=>by
  subst h;subst h'
  cases r
  cases r'
  exact⟨_,SeqAt.EqAt.bool_bool a a',by simp⟩
instance:Rep Str where
 is:=fun _ v i=>v = .str i
 keep:=fun _ h=>h
 inj:=fun{H v a a'} h h'=>by subst h;exact V.str.inj h'
 dep:=0
 eqA:=fun{X pins σ H s v v' a a' u u' A} _ _ h h' r r'=>by
  subst h;subst h'
  obtain⟨t,rfl⟩:=r
  obtain⟨t',rfl⟩:=r'
  exact⟨_,SeqAt.EqAt.str_str a t a' t',by simp⟩
abbrev Items{α:Type}[Rep α](H:Hp):List V->List α->Prop:=Paired (Rep.is H)
section
variable {α:Type} [Rep α]
theorem Items.keep{H H':Hp}(k:TK H H'){xs:List V}{l:List α}(h:Items H xs l):Items H' xs l:=Paired.mapP h fun _ _ z=>Rep.keep k z
theorem Items.len{H:Hp}{xs:List V}{l:List α}(h:Items H xs l):xs.length=l.length:=Paired.length h
end
theorem Items.inj{α:Type}[Rep α]{H:Hp}:∀{xs:List V}{l m:List α},Items H xs l->Items H xs m->l=m
 | _,_,_,.nil,.nil=>rfl
 | _,_,_,.cons r t,.cons r' t'=>by rw[Rep.inj r r',Items.inj t t']
theorem Items.eqs{α:Type}[Rep α]{X:Cx}{pins:List (Addr×Obj)}{σ:St}{H:Hp}{s:Shared}{A:Around}(I:Inv X pins σ H s)(hu:A.units+Rep.dep α<cLine) :
  ∀{xs ys:List V}{l m:List α}{us ws:List Value},Items H xs l->Items H ys m->Vals xs us->Vals ys ws->
  ∃e:Nat->Bool,(∀j (h1:j<us.length) (h2:j<ws.length),SeqAt.EqAt A s us[j] ws[j] (e j))/\((List.range (min us.length ws.length)).all e=true↔l.take (min us.length ws.length)=m.take (min us.length ws.length))
 | _,_,_,_,_,_,.nil,_,.nil,_=>⟨fun _=>true,fun j h1=>by simp at h1,by simp⟩
 | _,_,_,_,_,_,.cons _ _,.nil,.cons _ _,.nil=>⟨fun _=>true,fun j h1 h2=>by simp at h2,by simp⟩
 | _,_,_,_,_,_,.cons r t,.cons r' t',.cons q v,.cons q' v'=>by
  obtain⟨b,hb,hb'⟩:=Rep.eqA I hu r r' q q'
  obtain⟨e,he,he'⟩:=Items.eqs I hu t t' v v'
  refine⟨fun j=>match j with | 0=>b | k+1=>e k,fun j h1 h2=>?_,?_⟩
  ·cases j with
   | zero=>exact hb
   | succ k=>exact he k (by simpa using h1) (by simpa using h2)
  ·simp only[List.length_cons,Nat.succ_min_succ,List.range_succ_eq_map,List.all_cons,List.all_map,Bool.and_eq_true,List.take_succ_cons,List.cons.injEq]
   exact and_congr hb' he'
theorem Items.same{α:Type}[Rep α]{H:Hp}{xs ys:List V}{l m:List α}{us ws:List Value}(h:Items H xs l)(h':Items H ys m)(r:Vals xs us)(r':Vals ys ws) :
  (l.take (min us.length ws.length)=m.take (min us.length ws.length)/\us.length=ws.length)↔l=m:=by
 have e1:=h.len;have e2:=h'.len;have e3:=r.length;have e4:=r'.length;constructor
 ·rintro⟨a,b⟩
  rw[List.take_of_length_le (by omega),List.take_of_length_le (by omega)] at a;exact a
 ·intro a
  subst a
  exact⟨rfl,by omega⟩
abbrev CV(α:Type):Type:=List α
def DE{α:Type}[Rep α](H:Hp)(v:V)(l:List α):Prop:=∃p xs,v = .ref p/\H p=some (.tup xs)/\Items H xs l
instance {α:Type} [Rep α]:Rep (CV α) where
 is:=fun H v l=>DE (α:=α) H v l
 keep:=fun{H H' v a} k h=>by
  obtain⟨p,xs,e,hp,it⟩:=h
  exact⟨p,xs,e,k p xs hp,it.keep k⟩
 inj:=fun{H v a a'} h h'=>by
  obtain⟨p,xs,e,hp,it⟩:=h
  obtain⟨p',xs',e',hp',it'⟩:=h'
  rw[e] at e';cases e'
  rw[hp] at hp';cases hp'
  exact Items.inj it it'
 dep:=Rep.dep α+2
 eqA:=fun{X pins σ H s v v' a a' u u' A} I hu h h' r r'=>by
  obtain⟨p,xs,rfl,hp,it⟩:=h
  obtain⟨p',xs',rfl,hp',it'⟩:=h'
  cases r
  cases r'
  obtain⟨us,rv,q,_⟩:=I.tuple (SqT.of hp)
  obtain⟨us',rv',q',_⟩:=I.tuple (SqT.of hp')
  by_cases e:p=p'
  ·subst e
   refine⟨true,SeqAt.EqAt.same _,?_⟩
   rw[hp] at hp';cases hp'
   have:a=a':=Items.inj it it'
   simp[this]
  ·obtain⟨f,hf,hf'⟩:=Items.eqs (A:=A.in1) I (by show A.units+1+Rep.dep α<cLine;omega) it it' rv rv'
   refine⟨_,SeqAt.EqAt.of_refs e (SeqAt.RcAt.tuples (e:=f) (show s.heap.IsTuple p us.toArray from q) (show s.heap.IsTuple p' us'.toArray from q') (by omega) (fun j h1 h2=>hf j (by simpa using h1) (by simpa using h2))),?_⟩
   simp only[List.size_toArray,Bool.and_eq_true,beq_iff_eq];rw[hf']
   exact Items.same it it' rv rv'
structure Def(K:PySem.W.Frag)(mg:Str->Option Value)(x:Str)(st:Stmt):Prop where
 ex:∃f fd,mg x=some (.ref f)/\Fun K x x st f fd
theorem def_mk{K:PySem.W.Frag}{h:Heap}{mg:Str->Option Value}{x:Str}{st:Stmt}{f:Addr}{oc:Value}{od an:Option Addr}{osl:Array (Option Value)}{kV doc pm cdv ct:Value}(X:K.In h)(G:h.Ns mainGlobals mg)
  (a:PySem.W.nsIn K mainGlobals x=some (some (.ref f))) (l:K.lookup f=some ⟨oc,od,.func (PySem.W.fnOf x x (Wv st) (Xf st) (Zp st) .none kV doc pm an cdv ct),osl⟩)
  (c:PySem.W.codeIn K cdv x=true) (k:PySem.W.keepIn K (.ref f)=true):Def K mg x st:=⟨f,_,PySem.W.mg_of X G a,Em (st:=st) l c k⟩
structure YF(P:Program)(w:World)(K:PySem.W.Frag)(mg:Str->Option Value)(base:Heap)(x:Str)(ps:List Str)(sp:Sp)(k:Nat):Prop where
 ex:∃f fd,mg x=some (.ref f)/\PySem.W.keepIn K (.ref f)=true/\Binds K fd ps []/\SX P w K mg base Lf k f fd ps sp
section
variable {P:Program} {w:World} {K:PySem.W.Frag} {mg:Str->Option Value} {base:Heap}
theorem Def.cal{x:Str}{st:Stmt}{N ps:List Str}{k:Nat}{sp:Sp}(D:Def K mg x st)(S:ZH N ps (Zp st))
  (hb:∀(kV doc pm:Value)(an:Option Addr)(cdv ct:Value)(us:List Value),us.length=ps.length->bindArgs (PySem.W.fnOf x x (Wv st) (Xf st) (Zp st) .none kV doc pm an cdv ct) ⟨us,[]⟩=pure (ps.zip us))
  (len:∀vs H Q E,sp vs H Q E->vs.length=ps.length)
  (hbody:∀(f:Addr)(cdv:Value)(A:Around)(outer:List Env)(s:Shared)(H:Hp)(vs:List V)(Q:VK)(E:XK),Room k (A.deeper (envOfC x (Zp st) s.heap.objs.size f cdv))->sp vs H Q E->
   ∃t,PSs (QP Lf P w K mg base N x (Zp st) f cdv A outer s H E).nox (Xf st) t/\t { nx:=fun _ H'=>Q .non H',rt:=Q } (start N vs) H):YF P w K mg base x ps sp (k+1):=by
 obtain⟨f,fd,hm,F⟩:=D.ex
 exact⟨f,fd,hm,F.kp,F.binds hb,F.ok S len fun cdv A outer s H vs Q E hr h=>hbody f cdv A outer s H vs Q E hr h⟩
end
section
variable {X:Cx} {x:Str} {ps:List Str} {sp:Sp} {k:Nat} {e:Expr} {es:List Expr} {t:TA} {p pos:Pos}
theorem Es(C:YF X.prog X.w X.K X.mg X.base x ps sp k)(hr:Room k X.A)(hg:Gl X x)(ha:PA X (e::es) t)
  (hdb:(x==("__debug__" : Str))=false:=by decide) (he:starEach (e::es) X.env=(false,eval e X.env)::starEach es X.env:=by rfl) (hpl:(backTo pos (starEach es X.env)).any (·.1)=false:=by rfl) :
  PE X (.Call (.Name x p) (e::es) [] pos) (Ft sp [] E0 t):=by
 obtain⟨f,fd,a,b,c,d⟩:=C.ex
 exact HJ d hr hg a b c .nil Dx ha hdb he hpl
end
def Ue(N:List Str)(around scope:Scope)(own fr:List Str)(ix:List Nat):Bool:=
 (match scope.kind with | .function=>true | _=>false)&&scope.names.all (fun y=>y.2 != .cell)&&scope.names.all (fun y=>y.2 != .local || scope.names.lookup y.1==some .local)&&
 scope.names.all (fun y=>y.2 != .free || (around.names.lookup y.1==some .cell || around.names.lookup y.1==some .free))&&(fr.map some==ix.map (fun i=>N[i]?))&&
 fr.all (fun x=>scope.names.contains (x,NameKind.free))&&fr.all (fun x=>scope.names.lookup x != some .local)
theorem Pa{N:List Str}{around scope:Scope}{own fr:List Str}{ix:List Nat}(h:Ue N around scope own fr ix=true):CompScope N around scope own fr ix:=by
 unfold Ue at h;simp only[Bool.and_eq_true] at h
 obtain⟨⟨⟨⟨⟨⟨h1,h2⟩,h3⟩,h4⟩,h5⟩,h6⟩,h7⟩:=h
 refine⟨?_,fun y hy=>?_,fun y hy e=>?_,fun y hy e=>?_,by simpa using h5,fun x hx=>?_,fun x hx=>?_⟩
 ·split at h1
  ·assumption
  ·cases h1
 ·simpa using List.all_eq_true.mp h2 y hy
 ·have:=List.all_eq_true.mp h3 y hy
  rw[e] at this
  simpa using this
 ·have:=List.all_eq_true.mp h4 y hy
  rw[e] at this
  simpa using this
 ·simpa using List.all_eq_true.mp h6 x hx
 ·simpa using List.all_eq_true.mp h7 x hx
section
variable {X:Cx} {tg elt iter:Expr} {ifs:List Expr} {scope:Scope} {pos:Pos} {wi:TI} {g:TG} {tt:TT} {te:TE}
theorem RP(own fr:List Str)(ix:List Nat)(hcalm:X.calm=true)(hi:PI X tg iter wi)(S:Ue X.N X.env.scope scope own fr ix=true)
  (hg:∀cl C s H ex,PG (ZW X (own++fr) scope cl C s H ex) tg g) (ht:∀cl C s H ex,K3 (ZW X (own++fr) scope cl C s H ex) ifs tt) (he:∀cl C s H ex,PE (ZW X (own++fr) scope cl C s H ex) elt te)
  (hs:∀x,foldedSetIterable iter X.env x=pure x:=by intro _;rfl):PE X (.ListComp elt [⟨tg,iter,ifs,0⟩] scope pos) (RL own.length ix wi g tt te):=
 HV hcalm hi (Pa S) hg ht he hs
theorem Jr(own fr:List Str)(ix:List Nat){i:Nat}{y:Str}{py spos:Pos}(hN:X.N.Nodup)(hy:X.N[i]?=some y)(hloc:X.env.scope.names.lookup y=some .local)(hcalm:X.calm=true)(hi:PI X tg iter wi)(S:Ue X.N X.env.scope scope own fr ix=true)
  (hg:∀cl C s H ex,PG (ZW X (own++fr) scope cl C s H ex) tg g) (ht:∀cl C s H ex,K3 (ZW X (own++fr) scope cl C s H ex) ifs tt) (he:∀cl C s H ex,PE (ZW X (own++fr) scope cl C s H ex) elt te)
  (hsw:swapsWith (.ListComp elt [⟨tg,iter,ifs,0⟩] scope pos) (some (.Name y py)) spos.line X.env=pure true:=by rfl)
  (hs:∀x,foldedSetIterable iter X.env x=pure x:=by intro _;rfl):PS X (.Assign [.Name y py] (.ListComp elt [⟨tg,iter,ifs,0⟩] scope pos) spos) (NM (RL own.length ix wi g tt te) (SM i)):=
 HW hN hy hloc hcalm hi (Pa S) hg ht he hsw hs
end
structure V4(mg:Str->Option Value):Prop where
 «len» : mg "len" = none
 «sum» : mg "sum" = none
 «range» : mg "range" = none
 «enumerate» : mg "enumerate" = none
 «zip» : mg "zip" = none
 «tuple» : mg "tuple" = none
 «list» : mg "list" = none
 «all» : mg "all" = none
 «any» : mg "any" = none
 «isinstance» : mg "isinstance" = none
 «int» : mg "int" = none
 «bool» : mg "bool" = none
 «str» : mg "str" = none
 «min» : mg "min" = none
 «max» : mg "max" = none
 «sorted» : mg "sorted" = none
 «abs» : mg "abs" = none
 «ValueError» : mg "ValueError" = none
 «reversed» : mg "reversed" = none
abbrev Et(g:TG)(tb:TS)(D:U6)(σ:St)(J:It)(H:Hp):Prop:=
 ∃W:Nat->Nat->St->Hp->Prop,(∃m,W 0 m σ H)/\∀i m σ H,W i m σ H->
   (J.stop i H/\D.nx σ H)\/(J.go i H/\∃N:St->Hp->Prop,(∀σ' H',N σ' H'->∃m',m'<m/\W (i+1) m' σ' H')/\∀x H',J.yld i H x H'->g x σ H' fun σ2 H2=>tb { D with nx:=N,ct:=N,bk:=D.nx } σ2 H2)
def Zl(l:List Int)(i:Nat):Int:=l.getD i 0
theorem Sa(l:List Int):(List.range l.length).map (Zl l)=l:=by
 apply List.ext_getElem?
 intro i;rw[List.getElem?_map]
 by_cases h:i<l.length
 ·rw[List.getElem?_eq_getElem (by simpa using h),List.getElem?_eq_getElem h]
  simp[Zl,List.getD_eq_getElem?_getD,List.getElem?_eq_getElem h]
 ·rw[List.getElem?_eq_none (by simpa using h),List.getElem?_eq_none (by omega)];rfl
theorem ZO{f:Nat->Int}{n i:Nat}(h:i<n):Zl ((List.range n).map f) i=f i:=by
 unfold Zl
 rw[List.getD_eq_getElem?_getD,List.getElem?_map,List.getElem?_range h];rfl
def ZB(w:List (List Int))(i:Nat):List Int:=w.getD i []
theorem RQ{w:List (List Int)}{i:Nat}(h:i<w.length):w[i]?=some (ZB w i):=by
 unfold ZB
 rw[List.getD_eq_getElem?_getD,List.getElem?_eq_getElem h];rfl
def Ya(w:List (List Int))(i j:Nat):Int:=Zl (ZB w i) j
structure ZF(w:List (List Int)):Prop where
 pos:1<=w.length
 few:w.length<=7
 sq:∀i,i<w.length->(ZB w i).length=w.length
 lo:∀i j,i<w.length->j<w.length->0<=Ya w i j
 hi:∀i j,i<w.length->j<w.length->Ya w i j<=9
 sym:∀i j,i<w.length->j<w.length->Ya w i j=Ya w j i
 dia:∀i,i<w.length->Ya w i i=0
def Eu(K:PySem.W.Frag):List V->Hp->VK->Prop:=fun xs H Q=>∃p ys,xs=[.ref p]/\((SqL K H p ys/\∀l,H l=none->Q (.ref l) (upd H l (.tup ys)))\/(SqT K H p ys/\Q (.ref p) H))
def H9(K:PySem.W.Frag):List V->Hp->VK->Prop:=fun xs H Q=>∃p ys,xs=[.ref p]/\(SqL K H p ys\/SqT K H p ys)/\∀l,H l=none->Q (.ref l) (upd H l (.lst ys))
theorem Same.off{H Hc:Hp}{p:Addr}(s:Same H Hc)(n:Hc p=none):H p=none:=s.free n
abbrev CW:=Nat×Nat×Int
def Vq(M:List (List Int))(a b:Nat)(t:Int):List (List Int):=M.set a ((ZB M a).set b t)
structure MatOk(n:Nat)(M:List (List Int)):Prop where
 len:M.length=n
 row:∀i,i<n->(ZB M i).length=n
 lo:∀i j,i<n->j<n->0<=Ya M i j
 hi:∀i j,i<n->j<n->Ya M i j<=9
 sym:∀i j,i<n->j<n->Ya M i j=Ya M j i
 dia:∀i,i<n->Ya M i i=0
theorem Pb{M:List (List Int)}{a i:Nat}{r:List Int}(ha:a<M.length):ZB (M.set a r) i=if a=i then r else ZB M i:=by
 unfold ZB;rw[List.getD_eq_getElem?_getD,List.getD_eq_getElem?_getD,List.getElem?_set]
 by_cases h:a=i
 ·subst h;simp[ha]
 ·simp[h]
theorem nth_set{l:List Int}{b j:Nat}{t:Int}(hb:b<l.length):Zl (l.set b t) j=if b=j then t else Zl l j:=by
 unfold Zl;rw[List.getD_eq_getElem?_getD,List.getD_eq_getElem?_getD,List.getElem?_set]
 by_cases h:b=j
 ·subst h;simp[hb]
 ·simp[h]
theorem RS{n:Nat}{M:List (List Int)}{a b i j:Nat}{t:Int}(hl:M.length=n)(hr:∀i,i<n->(ZB M i).length=n)(ha:a<n)(hb:b<n):Ya (Vq M a b t) i j=if a=i/\b=j then t else Ya M i j:=by
 show Zl (ZB (M.set a ((ZB M a).set b t)) i) j=_
 rw[Pb (by omega)]
 by_cases h:a=i
 ·subst h
  rw[if_pos rfl,nth_set (by rw[hr a ha];exact hb)]
  by_cases q:b=j
  ·rw[if_pos q,if_pos ⟨rfl,q⟩]
  ·rw[if_neg q,if_neg (fun z=>q z.2)];rfl
 ·rw[if_neg h,if_neg (fun z=>h z.1)];rfl
theorem WI{n:Nat}{M:List (List Int)}{a b:Nat}{t:Int}(hl:M.length=n)(hr:∀i,i<n->(ZB M i).length=n)(ha:a<n):(Vq M a b t).length=n/\∀i,i<n->(ZB (Vq M a b t) i).length=n:=by
 refine⟨by unfold Vq;rw[List.length_set];exact hl,fun i hi=>?_⟩
 show(ZB (M.set a ((ZB M a).set b t)) i).length=n
 rw[Pb (by omega)]
 split
 ·rw[List.length_set];exact hr a ha
 ·exact hr i hi
theorem MatOk.zero(n:Nat):MatOk n (List.replicate n (List.replicate n 0)):=by
 have r:∀i,i<n->ZB (List.replicate n (List.replicate n (0:Int))) i=List.replicate n 0:=fun i hi=>by
  unfold ZB
  rw[List.getD_eq_getElem?_getD,List.getElem?_replicate,if_pos hi];rfl
 have z:∀i j,i<n->j<n->Ya (List.replicate n (List.replicate n (0:Int))) i j=0:=fun i j hi hj=>by
  show Zl (ZB _ i) j=0
  rw[r i hi];unfold Zl
  rw[List.getD_eq_getElem?_getD,List.getElem?_replicate,if_pos hj];rfl
 exact⟨by simp,fun i hi=>by rw[r i hi];simp,fun i j hi hj=>by rw[z i j hi hj];omega,fun i j hi hj=>by rw[z i j hi hj];omega,fun i j hi hj=>by rw[z i j hi hj,z j i hj hi],fun i hi=>z i i hi hi⟩
theorem MatOk.web{n:Nat}{M:List (List Int)}(h:MatOk n M)(h1:1<=n)(h7:n<=7):ZF M:=by
 have e:=h.len;subst e
 exact⟨h1,h7,h.row,h.lo,h.hi,h.sym,h.dia⟩
theorem Yh(f:Nat->Int)(n:Nat):((List.range (n+1)).map f).sum=((List.range n).map f).sum+f n:=by
 rw[List.range_succ,List.map_append,List.sum_append];simp
theorem Ys{f g:Nat->Int}{n:Nat}(h:∀i,i<n->f i=g i):((List.range n).map f).sum=((List.range n).map g).sum:=by
 congr 1
 apply List.map_congr_left
 intro i hi
 exact h i (List.mem_range.mp hi)
theorem PX(f g:Nat->Int)(n:Nat):((List.range n).map fun i=>f i+g i).sum=((List.range n).map f).sum+((List.range n).map g).sum:=by
 induction n with
 | zero=>simp
 | succ n ih=>rw[Yh,Yh,Yh,ih];omega
theorem Rf(f g:Nat->Int)(n:Nat):((List.range n).map fun i=>f i-g i).sum=((List.range n).map f).sum-((List.range n).map g).sum:=by
 induction n with
 | zero=>simp
 | succ n ih=>rw[Yh,Yh,Yh,ih];omega
theorem Sb(c:Int)(n:Nat):((List.range n).map fun _=>c).sum=n*c:=by
 induction n with
 | zero=>simp
 | succ n ih=>rw[Yh,ih];rw[show((n+1:Nat):Int)=(n:Int)+1 by omega,Int.add_mul];omega
theorem OX(f:Nat->Nat->Int)(m n:Nat):((List.range m).map fun i=>((List.range n).map fun j=>f i j).sum).sum=((List.range n).map fun j=>((List.range m).map fun i=>f i j).sum).sum:=by
 induction m with
 | zero=>simp[Sb]
 | succ m ih=>
  rw[Yh,ih,<-PX]
  apply Ys
  intro j _;rw[Yh]
theorem Rh(l:List Int):((List.range l.length).map (Zl l)).sum=l.sum:=by rw[Sa]
theorem Js(e:Nat->Nat->Int)(n:Nat)(hs:∀i j,i<n->j<n->e i j=e j i)(hd:∀i,i<n->e i i=0) :
  ((List.range n).map fun i=>((List.range n).map fun j=>e i j).sum).sum=2*((List.range n).map fun a=>((List.range (n-(a+1))).map fun j=>e a (a+1+j)).sum).sum:=by
 induction n with
 | zero=>simp
 | succ n ih=>
  have ih:=ih (fun i j hi hj=>hs i j (by omega) (by omega)) fun i hi=>hd i (by omega)
  rw[Yh,Yh,Yh]
  have a1:((List.range n).map fun i=>((List.range (n+1)).map fun j=>e i j).sum).sum=((List.range n).map fun i=>((List.range n).map fun j=>e i j).sum).sum+((List.range n).map fun i=>e i n).sum:=by
   rw[<-PX]
   apply Ys
   intro i _;rw[Yh]
  have a2:((List.range n).map fun a=>((List.range (n+1-(a+1))).map fun j=>e a (a+1+j)).sum).sum=((List.range n).map fun a=>((List.range (n-(a+1))).map fun j=>e a (a+1+j)).sum).sum+((List.range n).map fun i=>e i n).sum:=by
   rw[<-PX]
   apply Ys
   intro i hi;rw[show n+1-(i+1)=(n-(i+1))+1 by omega,Yh,show i+1+(n-(i+1))=n by omega]
  have a3:((List.range n).map fun j=>e n j).sum=((List.range n).map fun i=>e i n).sum:=by
   apply Ys
   intro i hi
   exact hs n i (by omega) (by omega)
  rw[a1,a2,a3,hd n (by omega),show n+1-(n+1)=0 by omega]
  simp
  omega
theorem Jt{α:Type}(n:Nat)(x:α):(List.replicate n [x]).flatten=List.replicate n x:=by
 induction n with
 | zero=>rfl
 | succ n ih=>rw[List.replicate_succ,List.flatten_cons,ih];rfl
structure NamesOk(i:Nat)(l:List Int):Prop where
 len:l.length=i
 nd:l.Nodup
 lo:∀x∈l,0<=x
 hi:∀x∈l,x<i
theorem NamesOk.nil:NamesOk 0 []:=⟨rfl,List.nodup_nil,fun _ h=>by simp at h,fun _ h=>by simp at h⟩
theorem NamesOk.ins{i:Nat}{l:List Int}(h:NamesOk i l)(k:Nat):NamesOk (i+1) (l.take k++(i:Int)::l.drop k):=by
 have hp:(l.take k++(i:Int)::l.drop k).Perm ((i:Int)::l):=by
  have:=List.perm_middle (a:=(i:Int)) (l₁:=l.take k) (l₂:=l.drop k)
  rw[List.take_append_drop] at this;exact this
 refine⟨by rw[hp.length_eq,List.length_cons,h.len],?_,fun x hx=>?_,fun x hx=>?_⟩
 ·rw[hp.nodup_iff,List.nodup_cons]
  exact⟨fun hm=>by have:=h.hi _ hm;omega,h.nd⟩
 ·rcases List.mem_cons.mp (hp.mem_iff.mp hx) with e | e
  ·omega
  ·exact h.lo x e
 ·rcases List.mem_cons.mp (hp.mem_iff.mp hx) with e | e
  ·omega
  ·have:=h.hi x e;omega
theorem NamesOk.at{i:Nat}{l:List Int}(h:NamesOk i l){x:Nat}(hx:x<i):0<=Zl l x/\Zl l x<i:=by
 have e:Zl l x=l[x]'(by rw[h.len];exact hx):=by
  unfold Zl
  rw[List.getD_eq_getElem?_getD,List.getElem?_eq_getElem (by rw[h.len];exact hx)];rfl
 rw[e]
 exact⟨h.lo _ (List.getElem_mem _),h.hi _ (List.getElem_mem _)⟩
theorem NamesOk.ne{i:Nat}{l:List Int}(h:NamesOk i l){x y:Nat}(hx:x<i)(hy:y<i)(n:x≠y):Zl l x≠Zl l y:=by
 have ex:Zl l x=l[x]'(by rw[h.len];exact hx):=by
  unfold Zl
  rw[List.getD_eq_getElem?_getD,List.getElem?_eq_getElem (by rw[h.len];exact hx)];rfl
 have ey:Zl l y=l[y]'(by rw[h.len];exact hy):=by
  unfold Zl
  rw[List.getD_eq_getElem?_getD,List.getElem?_eq_getElem (by rw[h.len];exact hy)];rfl
 rw[ex,ey];intro e
 exact n ((List.getElem_inj h.nd).mp e)
theorem lt_size{n:Nat}(h:n<=10000):n<sizeLine:=Nat.lt_of_le_of_lt h (by decide)
end L2
namespace VL
open PySem PySem.Spec PyProof.Rows L2
variable {K:PySem.W.Frag}
inductive PV where
 | non | bl (b:Bool) | int (i:Int) | str (x:Str) | ty (n:String) | exc (n:Str)
 | tup (l:List PV) | lst (l:List PV) | cst (l:List PV)
 | dK (ks:List Y4) (vs:List PV) | dT (ks:List (List Y4)) (vs:List PV)
instance:Inhabited PV:=⟨.non⟩
mutual
/-- nothing in it can be changed -/
def ZM:PV->Bool
 | .tup l=>ZN l
 | .cst l=>ZN l
 | .lst _=>false
 | .dK _ _=>false
 | .dT _ _=>false
 | .non=>true
 | .bl _=>true
 | .int _=>true
 | .str _=>true
 | .ty _=>true
 | .exc _=>true
def ZN:List PV->Bool
 | []=>true
 | x::r=>ZM x&&ZN r
end
theorem Vr:∀l:List PV,ZN l=l.all ZM
 | []=>rfl
 | x::r=>by rw[List.all_cons,<-Vr r];rfl
def KL(K:PySem.W.Frag)(a:Addr)(xs:List V):Prop:=
 ∃(o:Obj) (its:Array Value) (n:Nat),K.lookup a=some o/\o.cls = .type "list"/\o.dict=none/\o.data = .seq its n/\its.size<=sizeLine/\Vals xs its.toList
def CsK(K:PySem.W.Frag)(H:Hp)(p:Addr)(xs:List V):Prop:=(∃o,H p=some (.frz o (.lst xs)))\/KL K p xs
theorem CsK.sq{K:PySem.W.Frag}{H:Hp}{p:Addr}{xs:List V}(h:CsK K H p xs):SqL K H p xs:=by
 rcases h with h | h
 ·exact .inl (.inr h)
 ·exact .inr h
mutual
/-- v is the tree l in the heap H;fp: the addresses of its lists and dicts -/
def Is(K:PySem.W.Frag)(H:Hp):PV->V->List Addr->Prop
 | .non,v,fp=>v = .non/\fp=[]
 | .bl b,v,fp=>v = .bl b/\fp=[]
 | .int i,v,fp=>v = .int i/\fp=[]
 | .str x,v,fp=>v = .str x/\fp=[]
 | .ty n,v,fp=>v = .ty n/\fp=[]
 | .exc n,v,fp=>(∃e o x C,v = .ref e/\H e=some (.frz o (.own x))/\o.cls = .ref C/\PySem.W.nsIn K mainGlobals n=some (some (.ref C))/\o.dict=none/\∃vs,o.data = .fields vs)/\fp=[]
 | .tup l,v,fp=>∃p xs,v = .ref p/\H p=some (.tup xs)/\Iss K H l xs fp
 | .lst l,v,fp=>∃p xs fq,v = .ref p/\H p=some (.lst xs)/\Iss K H l xs fq/\fp=p::fq
 | .cst l,v,fp=>∃p xs,v = .ref p/\CsK K H p xs/\Iss K H l xs fp
 | .dK ks l,v,fp=>∃p kvs fq,v = .ref p/\Rd H p (.dK kvs)/\kvs.map (·.1)=ks/\Iss K H l (kvs.map (·.2)) fq/\fp=p::fq
 | .dT ks l,v,fp=>∃p kvs fq,v = .ref p/\Rd H p (.dT kvs)/\kvs.map (·.1)=ks/\Iss K H l (kvs.map (·.2)) fq/\fp=p::fq
def Iss(K:PySem.W.Frag)(H:Hp):List PV->List V->List Addr->Prop
 | [],xs,fp=>xs=[]/\fp=[]
 | l::ls,xs,fp=>∃x r f1 f2,xs=x::r/\Is K H l x f1/\Iss K H ls r f2/\fp=f1++f2
end
def RdK(H H':Hp)(p:Addr):Prop:=(∀xs,H p=some (.lst xs)->H' p=some (.lst xs))/\(∀kvs,Rd H p (.dK kvs)->Rd H' p (.dK kvs))/\∀kvs,Rd H p (.dT kvs)->Rd H' p (.dT kvs)
theorem RdK.of{H H':Hp}{p:Addr}(h:∀o,H p=some o->H' p=some o):RdK H H' p:=by
 have r:∀u,Rd H p u->Rd H' p u:=fun u q=>by
  rcases q with q | ⟨o,q⟩
  ·exact .inl (h _ q)
  ·exact .inr ⟨o,h _ q⟩
 exact⟨fun _=>h _,fun _=>r _,fun _=>r _⟩
structure TK2(H H':Hp):Prop where
 tup:TK H H'
 frz:∀b o xs,H b=some (.frz o (.lst xs))->H' b=some (.frz o (.lst xs))
 exc:∀b o x,H b=some (.frz o (.own x))->H' b=some (.frz o (.own x))
theorem Same.tk2{H H':Hp}(s:Same H H'):TK2 H H':=⟨s.tk,fun b o xs h=>s b _ h,fun b o x h=>s b _ h⟩
theorem CsK.tr{K:PySem.W.Frag}{H H':Hp}(t:TK2 H H'){p:Addr}{xs:List V}(h:CsK K H p xs):CsK K H' p xs:=by
 rcases h with⟨o,h⟩ | h
 ·exact .inl ⟨o,t.frz p o xs h⟩
 ·exact .inr h
mutual
theorem Is.tr{H H':Hp}(ht:TK2 H H'):∀(l:PV)(v:V)(fp:List Addr),(∀p∈fp,RdK H H' p)->Is K H l v fp->Is K H' l v fp
 | .non,_,_,_,h=>by simpa only[Is] using h
 | .bl _,_,_,_,h=>by simpa only[Is] using h
 | .int _,_,_,_,h=>by simpa only[Is] using h
 | .str _,_,_,_,h=>by simpa only[Is] using h
 | .ty _,_,_,_,h=>by simpa only[Is] using h
 | .exc _,_,_,_,h=>by
  simp only[Is] at h ⊢
  obtain⟨⟨e,o,x,C,a,b,c⟩,d⟩:=h
  exact⟨⟨e,o,x,C,a,ht.exc e o x b,c⟩,d⟩
 | .tup l,v,fp,hm,h=>by
  simp only[Is] at h ⊢
  obtain⟨p,xs,e,hp,hi⟩:=h
  exact⟨p,xs,e,ht.tup p xs hp,Iss.tr ht l xs fp hm hi⟩
 | .lst l,v,fp,hm,h=>by
  simp only[Is] at h ⊢
  obtain⟨p,xs,fq,e,hr,hi,rfl⟩:=h
  exact⟨p,xs,fq,e,(hm p List.mem_cons_self).1 _ hr,Iss.tr ht l xs fq (fun q hq=>hm q (List.mem_cons_of_mem _ hq)) hi,rfl⟩
 | .cst l,v,fp,hm,h=>by
  simp only[Is] at h ⊢
  obtain⟨p,xs,e,hr,hi⟩:=h
  exact⟨p,xs,e,hr.tr ht,Iss.tr ht l xs fp hm hi⟩
 | .dK ks l,v,fp,hm,h=>by
  simp only[Is] at h ⊢
  obtain⟨p,kvs,fq,e,hr,hk,hi,rfl⟩:=h
  exact⟨p,kvs,fq,e,(hm p List.mem_cons_self).2.1 _ hr,hk,Iss.tr ht l _ fq (fun q hq=>hm q (List.mem_cons_of_mem _ hq)) hi,rfl⟩
 | .dT ks l,v,fp,hm,h=>by
  simp only[Is] at h ⊢
  obtain⟨p,kvs,fq,e,hr,hk,hi,rfl⟩:=h
  exact⟨p,kvs,fq,e,(hm p List.mem_cons_self).2.2 _ hr,hk,Iss.tr ht l _ fq (fun q hq=>hm q (List.mem_cons_of_mem _ hq)) hi,rfl⟩
theorem Iss.tr{H H':Hp}(ht:TK2 H H'):∀(l:List PV)(xs:List V)(fp:List Addr),(∀p∈fp,RdK H H' p)->Iss K H l xs fp->Iss K H' l xs fp
 | [],_,_,_,h=>by simpa only[Iss] using h
 | l::ls,xs,fp,hm,h=>by
  simp only[Iss] at h ⊢
  obtain⟨x,r,f1,f2,e,h1,h2,rfl⟩:=h
  exact⟨x,r,f1,f2,e,Is.tr ht l x f1 (fun q hq=>hm q (List.mem_append_left _ hq)) h1,Iss.tr ht ls r f2 (fun q hq=>hm q (List.mem_append_right _ hq)) h2,rfl⟩
end
theorem Is.mono{H H':Hp}(s:Same H H'){l:PV}{v:V}{fp:List Addr}(h:Is K H l v fp):Is K H' l v fp:=Is.tr (Same.tk2 s) l v fp (fun p _=>RdK.of fun o q=>s p o q) h
theorem Iss.mono{H H':Hp}(s:Same H H'){l:List PV}{v:List V}{fp:List Addr}(h:Iss K H l v fp):Iss K H' l v fp:=Iss.tr (Same.tk2 s) l v fp (fun p _=>RdK.of fun o q=>s p o q) h
mutual
theorem Is.pure{H:Hp}:∀(l:PV)(v:V)(fp:List Addr),ZM l=true->Is K H l v fp->fp=[]
 | .non,_,_,_,h=>by simp only[Is] at h;exact h.2
 | .bl _,_,_,_,h=>by simp only[Is] at h;exact h.2
 | .int _,_,_,_,h=>by simp only[Is] at h;exact h.2
 | .str _,_,_,_,h=>by simp only[Is] at h;exact h.2
 | .ty _,_,_,_,h=>by simp only[Is] at h;exact h.2
 | .exc _,_,_,_,h=>by simp only[Is] at h;exact h.2
 | .tup l,v,fp,hp,h=>by
  simp only[Is] at h
  obtain⟨p,xs,e,_,hi⟩:=h
  exact Iss.pure l xs fp (by simpa only[ZM] using hp) hi
 | .lst l,v,fp,hp,h=>by simp[ZM] at hp
 | .cst l,v,fp,hp,h=>by
  simp only[Is] at h
  obtain⟨p,xs,e,_,hi⟩:=h
  exact Iss.pure l xs fp (by simpa only[ZM] using hp) hi
 | .dK ks l,v,fp,hp,h=>by simp[ZM] at hp
 | .dT ks l,v,fp,hp,h=>by simp[ZM] at hp
theorem Iss.pure{H:Hp}:∀(l:List PV)(xs:List V)(fp:List Addr),ZN l=true->Iss K H l xs fp->fp=[]
 | [],_,_,_,h=>by simp only[Iss] at h;exact h.2
 | l::ls,xs,fp,hp,h=>by
  simp only[Iss] at h;simp only[ZN,Bool.and_eq_true] at hp
  obtain⟨x,r,f1,f2,e,h1,h2,rfl⟩:=h
  rw[Is.pure l x f1 hp.1 h1,Iss.pure ls r f2 hp.2 h2];rfl
end
section
variable {H H':Hp}
theorem Iss.len:∀{l:List PV}{xs:List V}{fp:List Addr},Iss K H l xs fp->xs.length=l.length
 | [],xs,fp,h=>by simp only[Iss] at h;rw[h.1];rfl
 | l::ls,xs,fp,h=>by
  simp only[Iss] at h
  obtain⟨x,r,f1,f2,rfl,_,h2,_⟩:=h
  rw[List.length_cons,List.length_cons,h2.len]
theorem Iss.get:∀{l:List PV}{xs:List V}{fp:List Addr}{i:Nat}{a:PV},Iss K H l xs fp->l[i]?=some a->∃x f1,xs[i]?=some x/\Is K H a x f1/\∀p∈f1,p∈fp
 | [],xs,fp,i,a,h,e=>by simp at e
 | l::ls,xs,fp,0,a,h,e=>by
  simp only[Iss] at h
  obtain⟨x,r,f1,f2,rfl,h1,_,rfl⟩:=h
  simp at e;subst e
  exact⟨x,f1,rfl,h1,fun p hp=>List.mem_append_left _ hp⟩
 | l::ls,xs,fp,i+1,a,h,e=>by
  simp only[Iss] at h
  obtain⟨x,r,f1,f2,rfl,_,h2,rfl⟩:=h
  obtain⟨y,g,h3,h4,h5⟩:=h2.get (i:=i) (a:=a) (by simpa using e)
  exact⟨y,g,by simpa using h3,h4,fun p hp=>List.mem_append_right _ (h5 p hp)⟩
theorem Iss.get'{l:List PV}{xs:List V}{fp:List Addr}{i:Nat}{x:V}(h:Iss K H l xs fp)(e:xs[i]?=some x):∃a f1,l[i]?=some a/\Is K H a x f1/\∀p∈f1,p∈fp:=by
 have hi:i<l.length:=by rw[<-h.len];exact(List.getElem?_eq_some_iff.mp e).1
 obtain⟨y,f1,h1,h2,h3⟩:=h.get (List.getElem?_eq_getElem hi)
 rw[e] at h1;cases h1
 exact⟨_,f1,List.getElem?_eq_getElem hi,h2,h3⟩
theorem Iss.nil:Iss K H [] [] []:=by simp[Iss]
theorem Iss.cons{l:PV}{ls:List PV}{x:V}{xs:List V}{f1 f2:List Addr}(h1:Is K H l x f1)(h2:Iss K H ls xs f2):Iss K H (l::ls) (x::xs) (f1++f2):=by
 simp only[Iss];exact⟨x,xs,f1,f2,rfl,h1,h2,rfl⟩
theorem Iss.inv{l:PV}{ls:List PV}{xs:List V}{fp:List Addr}(h:Iss K H (l::ls) xs fp):∃x r f1 f2,xs=x::r/\Is K H l x f1/\Iss K H ls r f2/\fp=f1++f2:=by
 simpa only[Iss] using h
theorem Iss.append:∀{l m:List PV}{xs ys:List V}{f1 f2:List Addr},Iss K H l xs f1->Iss K H m ys f2->Iss K H (l++m) (xs++ys) (f1++f2)
 | [],m,xs,ys,f1,f2,h,h'=>by
  simp only[Iss] at h
  rw[h.1,h.2];exact h'
 | l::ls,m,xs,ys,f1,f2,h,h'=>by
  obtain⟨x,r,g1,g2,rfl,a,b,rfl⟩:=h.inv
  rw[List.append_assoc]
  exact Iss.cons a (b.append h')
theorem Iss.one{l:PV}{x:V}{f:List Addr}(h:Is K H l x f):Iss K H [l] [x] f:=by
 have:=Iss.cons h (Iss.nil (H:=H))
 rwa [List.append_nil] at this
theorem Iss.take:∀{l:List PV}{xs:List V}{fp:List Addr}(n:Nat),Iss K H l xs fp->∃f1,Iss K H (l.take n) (xs.take n) f1/\∀p∈f1,p∈fp
 | l,xs,fp,0,h=>⟨[],by rw[List.take_zero,List.take_zero];exact Iss.nil,fun p hp=>by simp at hp⟩
 | [],xs,fp,n+1,h=>by
  simp only[Iss] at h;rw[h.1]
  exact⟨[],by rw[List.take_nil,List.take_nil];exact Iss.nil,fun p hp=>by simp at hp⟩
 | l::ls,xs,fp,n+1,h=>by
  obtain⟨x,r,f1,f2,rfl,h1,h2,rfl⟩:=h.inv
  obtain⟨f3,a,b⟩:=h2.take n
  refine⟨f1++f3,Iss.cons h1 a,fun p hp=>?_⟩
  rcases List.mem_append.mp hp with h | h
  ·exact List.mem_append_left _ h
  ·exact List.mem_append_right _ (b p h)
theorem Iss.drop:∀{l:List PV}{xs:List V}{fp:List Addr}(n:Nat),Iss K H l xs fp->∃f1,Iss K H (l.drop n) (xs.drop n) f1/\∀p∈f1,p∈fp
 | l,xs,fp,0,h=>⟨fp,h,fun p hp=>hp⟩
 | [],xs,fp,n+1,h=>by
  simp only[Iss] at h;rw[h.1]
  exact⟨[],by rw[List.drop_nil,List.drop_nil];exact Iss.nil,fun p hp=>by simp at hp⟩
 | l::ls,xs,fp,n+1,h=>by
  obtain⟨x,r,f1,f2,rfl,h1,h2,rfl⟩:=h.inv
  obtain⟨f3,a,b⟩:=h2.drop n
  exact⟨f3,a,fun p hp=>List.mem_append_right _ (b p hp)⟩
theorem Iss.setP:∀{l:List PV}{xs:List V}{a:PV}{x:V}(i:Nat),ZN l=true->ZM a=true->Iss K H l xs []->Is K H a x []->Iss K H (l.set i a) (xs.set i x) []
 | [],xs,a,x,i,_,_,h,_=>by
  simp only[Iss] at h
  rw[h.1];simp only[List.set_nil];exact Iss.nil
 | l::ls,xs,a,x,0,hp,_,h,ha=>by
  simp only[ZN,Bool.and_eq_true] at hp
  obtain⟨y,r,f1,f2,rfl,_,h2,e⟩:=h.inv
  have e2:=Iss.pure _ _ _ hp.2 h2;subst e2
  exact Iss.cons (f1:=[]) ha h2
 | l::ls,xs,a,x,i+1,hp,hq,h,ha=>by
  simp only[ZN,Bool.and_eq_true] at hp
  obtain⟨y,r,f1,f2,rfl,h1,h2,e⟩:=h.inv
  have e1:=Is.pure _ _ _ hp.1 h1;have e2:=Iss.pure _ _ _ hp.2 h2
  subst e1 e2
  exact Iss.cons (f1:=[]) h1 (Iss.setP i hp.2 hq h2 ha)
theorem Is.int_inv{i:Int}{v:V}{fp:List Addr}(h:Is K H (.int i) v fp):v = .int i/\fp=[]:=by simpa only[Is] using h
theorem Is.int(i:Int):Is K H (.int i) (.int i) []:=by simp[Is]
theorem Is.bl(i:Bool):Is K H (.bl i) (.bl i) []:=by simp[Is]
theorem Is.non:Is K H .non .non []:=by simp[Is]
theorem Is.str(x:Str):Is K H (.str x) (.str x) []:=by simp[Is]
theorem Is.bl_inv{i:Bool}{v:V}{fp:List Addr}(h:Is K H (.bl i) v fp):v = .bl i/\fp=[]:=by simpa only[Is] using h
theorem Is.str_inv{i:Str}{v:V}{fp:List Addr}(h:Is K H (.str i) v fp):v = .str i/\fp=[]:=by simpa only[Is] using h
theorem Is.non_inv{v:V}{fp:List Addr}(h:Is K H .non v fp):v = .non/\fp=[]:=by simpa only[Is] using h
theorem Is.ty_inv{n:String}{v:V}{fp:List Addr}(h:Is K H (.ty n) v fp):v = .ty n/\fp=[]:=by simpa only[Is] using h
theorem Is.tup_inv{l:List PV}{v:V}{fp:List Addr}(h:Is K H (.tup l) v fp):∃p xs,v = .ref p/\H p=some (.tup xs)/\Iss K H l xs fp:=by simpa only[Is] using h
theorem Is.tup{l:List PV}{p:Addr}{xs:List V}{fp:List Addr}(h:H p=some (.tup xs))(hi:Iss K H l xs fp):Is K H (.tup l) (.ref p) fp:=by simp only[Is];exact⟨p,xs,rfl,h,hi⟩
theorem Is.lst_inv{l:List PV}{v:V}{fp:List Addr}(h:Is K H (.lst l) v fp):∃p xs fq,v = .ref p/\H p=some (.lst xs)/\Iss K H l xs fq/\fp=p::fq:=by simpa only[Is] using h
theorem Is.lst{l:List PV}{p:Addr}{xs:List V}{fp:List Addr}(h:H p=some (.lst xs))(hi:Iss K H l xs fp):Is K H (.lst l) (.ref p) (p::fp):=by
 simp only[Is];exact⟨p,xs,fp,rfl,h,hi,rfl⟩
theorem Is.cst_inv{l:List PV}{v:V}{fp:List Addr}(h:Is K H (.cst l) v fp):∃p xs,v = .ref p/\CsK K H p xs/\Iss K H l xs fp:=by simpa only[Is] using h
theorem Is.cst{l:List PV}{p:Addr}{xs:List V}{fp:List Addr}(h:CsK K H p xs)(hi:Iss K H l xs fp):Is K H (.cst l) (.ref p) fp:=by
 simp only[Is];exact⟨p,xs,rfl,h,hi⟩
theorem Is.dT_inv{ks:List (List Y4)}{l:List PV}{v:V}{fp:List Addr}(h:Is K H (.dT ks l) v fp):∃p kvs fq,v = .ref p/\Rd H p (.dT kvs)/\kvs.map (·.1)=ks/\Iss K H l (kvs.map (·.2)) fq/\fp=p::fq:=by simpa only[Is] using h
theorem Is.dT{ks:List (List Y4)}{l:List PV}{p:Addr}{kvs:List (List Y4×V)}{fp:List Addr}(h:H p=some (.dT kvs))(hk:kvs.map (·.1)=ks)(hi:Iss K H l (kvs.map (·.2)) fp):Is K H (.dT ks l) (.ref p) (p::fp):=by
 simp only[Is];exact⟨p,kvs,fp,rfl,.inl h,hk,hi,rfl⟩
theorem Is.dK_inv{ks:List Y4}{l:List PV}{v:V}{fp:List Addr}(h:Is K H (.dK ks l) v fp):∃p kvs fq,v = .ref p/\Rd H p (.dK kvs)/\kvs.map (·.1)=ks/\Iss K H l (kvs.map (·.2)) fq/\fp=p::fq:=by simpa only[Is] using h
end
abbrev iL(l:List Int):List PV:=l.map PV.int
theorem Y8(l:List Int):ZN (iL l)=true:=by
 rw[Vr,List.all_eq_true];intro x hx
 obtain⟨i,_,rfl⟩:=List.mem_map.mp hx
 rfl
theorem Iss.iL{H:Hp}:∀{l:List Int}{xs:List V}{fp:List Addr},Iss K H (VL.iL l) xs fp->xs=l.map V.int/\fp=[]
 | [],xs,fp,h=>by simpa only[VL.iL,List.map_nil,Iss] using h
 | i::l,xs,fp,h=>by
  obtain⟨x,r,f1,f2,rfl,h1,h2,rfl⟩:=Iss.inv (show Iss K H (PV.int i::VL.iL l) xs fp from h)
  obtain⟨rfl,rfl⟩:=h1.int_inv
  obtain⟨rfl,rfl⟩:=h2.iL
  exact⟨rfl,rfl⟩
theorem Iss.ofInts{H:Hp}:∀(l:List Int),Iss K H (VL.iL l) (l.map V.int) []
 | []=>Iss.nil
 | i::l=>Iss.cons (f1:=[]) (Is.int i) (Iss.ofInts l)
end VL
namespace VL
open PySem PySem.Spec PyProof.Rows L2
variable {K:PySem.W.Frag}
abbrev Sc:=L2.St
abbrev ZU:=List (Option PV)
abbrev XE:=ZU->Option PV
structure EnvIs(K:PySem.W.Frag)(Rm:Addr->Prop)(H:Hp)(s:ZU)(σ:Sc):Prop where
 is:∀(i:Nat) l,s[i]?=some (some l)->∃v fp,σ[i]?=some (some v)/\Is K H l v fp/\∀p∈fp,¬Rm p
theorem EnvIs.mono{Rm:Addr->Prop}{H H':Hp}{s:ZU}{σ:Sc}(h:EnvIs K Rm H s σ)(e:Same H H'):EnvIs K Rm H' s σ:=⟨fun i l q=>by
 obtain⟨v,fp,a,b,c⟩:=h.is i l q
 exact⟨v,fp,a,b.mono e,c⟩⟩
theorem EnvIs.free{Rm:Addr->Prop}{H:Hp}{s:ZU}{σ:Sc}(h:EnvIs K Rm H s σ):EnvIs K (fun _=>False) H s σ:=⟨fun i l q=>by
 obtain⟨v,fp,a,b,c⟩:=h.is i l q
 exact⟨v,fp,a,b,fun _ _ z=>z⟩⟩
theorem Same.mut{H H':Hp}(e:Same H H'){p:Addr}(h:WY (H p)):WY (H' p):=by
 cases q:H p with
 | none=>rw[q] at h;exact h.elim
 | some o=>rw[e p o q,<-q];exact h
theorem Xx{H:Hp}{p:Addr}(h:WY (H p)):H p≠none:=fun z=>by rw[z] at h;exact h
def tF(K:PySem.W.Frag)(f:XE):TE:=fun σ H Q=>∃(Rm:Addr->Prop) (s:ZU) (l:PV),(∀p,Rm p->WY (H p))/\EnvIs K Rm H s σ/\f s=some l/\∀v H' fp,Same H H'->Is K H' l v fp->(∀p∈fp,¬Rm p)->Q v H'
def tM(K:PySem.W.Frag)(f:XE):TE:=fun σ H Q=>∃(s:ZU) (l:PV),EnvIs K (fun _=>False) H s σ/\f s=some l/\∀v H' fp,Same H H'->Is K H' l v fp->fp.Nodup->(∀p∈fp,H p=none/\WY (H' p))->Q v H'
def VE(X:Cx)(e:Expr)(f:XE):Prop:=PE X e (tF X.K f)
def VM(X:Cx)(e:Expr)(f:XE):Prop:=PE X e (tM X.K f)
section
variable {X:Cx} {e:Expr} {f g:XE} {t t':TE}
theorem PE.imp(h:PE X e t)(i:∀σ H Q,t' σ H Q->t σ H Q):PE X e t':=fun pins s σ H Q I q=>h pins s σ H Q I (i σ H Q q)
theorem VM.ve(h:VM X e f):VE X e f:=PE.imp h fun σ H Q ⟨Rm,s,l,hd,env,e,k⟩=>
 ⟨s,l,env.free,e,fun v H' fp sm i _ n=>k v H' fp sm i fun p hp z=>Xx (hd p z) (n p hp).1⟩
def eP(f:XE):XE:=fun s=>(f s).bind fun l=>if ZM l=true then some l else none
theorem Ga{s:ZU}{l:PV}(h:eP f s=some l):f s=some l/\ZM l=true:=by
 unfold eP at h
 cases q:f s with
 | none=>rw[q] at h;cases h
 | some a=>
  rw[q] at h;simp only[Option.bind_some] at h
  split at h
  ·cases h;exact⟨rfl,by assumption⟩
  ·cases h
theorem VE.pure(h:VE X e f):VM X e (eP f):=PE.imp h fun σ H Q ⟨s,l,env,e,k⟩=>by
 obtain⟨e1,e2⟩:=Ga e
 refine⟨fun _=>False,s,l,fun _ z=>z.elim,env,e1,fun v H' fp sm i n=>?_⟩
 have:=Is.pure l v fp e2 i
 subst this
 exact k v H' [] sm i List.nodup_nil fun p hp=>by simp at hp
end
def Za(i:Nat):XE:=fun s=>(s[i]?).join
def eC(l:PV):XE:=fun _=>some l
theorem Pc{i:Nat}{s:ZU}{l:PV}(h:Za i s=some l):s[i]?=some (some l):=by
 unfold Za at h
 cases q:s[i]? with
 | none=>rw[q] at h;cases h
 | some o=>rw[q] at h;cases o with
  | none=>cases h
  | some a=>cases h;rfl
section
variable {X:Cx} {pos:Pos}
theorem Zd{e:Expr}{i:Nat}(h:PE X e (V9 i)):VE X e (Za i):=PE.imp h fun σ H Q ⟨Rm,s,l,hd,env,e,k⟩=>by
 obtain⟨v,fp,a,b,c⟩:=env.is i l (Pc e)
 exact⟨v,a,k v H fp (Same.refl H) b c⟩
theorem Ju{e:Expr}{v:V}{l:PV}(h:PE X e (tC v))(hv:∀H,Is X.K H l v []):VE X e (eC l):=PE.imp h fun σ H Q ⟨Rm,s,l',hd,env,e,k⟩=>by
 cases e
 exact k v H [] (Same.refl H) (hv H) fun p hp=>by simp at hp
theorem Zi{i j}:VE X (.Constant (.int i) j pos) (eC (.int i)):=Ju FQ fun _=>Is.int i
theorem Jw{i j}:VE X (.Constant (.bool i) j pos) (eC (.bl i)):=Ju E8 fun _=>Is.bl i
theorem Ev{j}:VE X (.Constant .none j pos) (eC .non):=Ju FR fun _=>Is.non
theorem Jx{i j}:VE X (.Constant (.str i) j pos) (eC (.str i)):=Ju FS fun _=>Is.str i
end
def RB(K:PySem.W.Frag)(r:R2)(g:PV->PV->Option PV):Prop:=∀(H:Hp)(x y:V)(a b l:PV)(fa fb:List Addr),Is K H a x fa->Is K H b y fb->g a b=some l->∀Q:VK,
 (∀v H' fp,Same H H'->Is K H' l v fp->(∀p∈fp,p∈fa\/p∈fb\/H p=none)->Q v H')->r x y H Q
def Zh(g:PV->PV->Option PV)(a b:XE):XE:=fun s=>(a s).bind fun x=>(b s).bind fun y=>g x y
theorem RT{g:PV->PV->Option PV}{a b:XE}{s:ZU}{l:PV}(h:Zh g a b s=some l):∃x y,a s=some x/\b s=some y/\g x y=some l:=by
 unfold Zh at h
 cases q:a s with
 | none=>rw[q] at h;cases h
 | some x=>cases q2:b s with
  | none=>rw[q,q2] at h;cases h
  | some y=>rw[q,q2] at h;exact⟨x,y,rfl,rfl,h⟩
section
variable {X:Cx} {a b:Expr} {fa fb:XE} {pos:Pos}
theorem Lh{r:R2}{g:PV->PV->Option PV}(hr:RB K r g):∀σ H Q,tF K (Zh g fa fb) σ H Q->Fm r (tF K fa) (tF K fb) σ H Q:=fun σ H Q ⟨Rm,s,l,hd,env,e,k⟩=>by
 obtain⟨x',y',ex,ey,e⟩:=RT e
 refine⟨Rm,s,x',hd,env,ex,fun x H1 f1 s1 i1 n1=>⟨Rm,s,y',fun p hp=>Same.mut s1 (hd p hp),env.mono s1,ey,fun y H2 f2 s2 i2 n2=>?_⟩⟩
 refine hr H2 x y x' y' l f1 f2 (i1.mono s2) i2 e Q fun v H3 fp s3 i3 n3=>k v H3 fp (s1.trans (s2.trans s3)) i3 fun p hp z=>?_
 rcases n3 p hp with h | h | h
 ·exact n1 p h z
 ·exact n2 p h z
 ·exact Xx (Same.mut (s1.trans s2) (hd p z)) h
theorem Wt{op:Operator}{r:R2}{g:PV->PV->Option PV}(ho:Uv X (binaryOp op) r)(hr:RB X.K r g)(ha:VE X a fa)(hb:VE X b fb):VE X (.BinOp a op b pos) (Zh g fa fb):=
 PE.imp (Jc ho ha hb) (Lh hr)
theorem NW{op:CmpOp}{r:R2}{g:PV->PV->Option PV}(ho:Uv X (compareOp op) r)(hr:RB X.K r g)(ha:VE X a fa)(hb:VE X b fb)(hm:behindInMarks op b=false):VE X (.Compare a [op] [b] pos) (Zh g fa fb):=
 PE.imp (HE ho ha hb hm) (Lh hr)
theorem DF{r:R2}{g:PV->PV->Option PV}(ho:IxR X r)(hr:RB X.K r g)(ha:VE X a fa)(hb:VE X b fb)(hs:PL b):VE X (.Subscript a b pos) (Zh g fa fb):=
 PE.imp (Uc ho ha hb hs) (Lh hr)
end
def gI(g:Int->Int->Int):PV->PV->Option PV
 | .int i,.int j=>some (.int (g i j))
 | _,_=>none
def gB(g:Int->Int->Bool):PV->PV->Option PV
 | .int i,.int j=>some (.bl (g i j))
 | _,_=>none
def Jy(C:Int->Int->Prop)[∀i j,Decidable (C i j)](g:Int->Int->Int):PV->PV->Option PV
 | .int i,.int j=>if C i j then some (.int (g i j)) else none
 | _,_=>none
theorem Gb{g:Int->Int->Int}{a b l:PV}(h:gI g a b=some l):∃i j,a = .int i/\b = .int j/\l = .int (g i j):=by
 unfold gI at h;split at h
 ·cases h;exact⟨_,_,rfl,rfl,rfl⟩
 ·cases h
theorem Gc{g:Int->Int->Bool}{a b l:PV}(h:gB g a b=some l):∃i j,a = .int i/\b = .int j/\l = .bl (g i j):=by
 unfold gB at h;split at h
 ·cases h;exact⟨_,_,rfl,rfl,rfl⟩
 ·cases h
theorem Jz{C:Int->Int->Prop}[∀i j,Decidable (C i j)]{g:Int->Int->Int}{a b l:PV}(h:Jy C g a b=some l):∃i j,a = .int i/\b = .int j/\C i j/\l = .int (g i j):=by
 unfold Jy at h;split at h
 ·split at h
  ·cases h;exact⟨_,_,rfl,rfl,by assumption,rfl⟩
  ·cases h
 ·cases h
theorem DG(g:Int->Int->Int):RB K (Hs fun i j=>.int (g i j)) (gI g):=fun H x y a b l fa fb ha hb e Q k=>by
 obtain⟨i,j,rfl,rfl,rfl⟩:=Gb e
 exact⟨i,j,ha.int_inv.1,hb.int_inv.1,k _ H [] (Same.refl H) (Is.int _) fun p hp=>by simp at hp⟩
theorem QT(g:Int->Int->Bool):RB K (Hs fun i j=>.bl (g i j)) (gB g):=fun H x y a b l fa fb ha hb e Q k=>by
 obtain⟨i,j,rfl,rfl,rfl⟩:=Gc e
 exact⟨i,j,ha.int_inv.1,hb.int_inv.1,k _ H [] (Same.refl H) (Is.bl _) fun p hp=>by simp at hp⟩
theorem Pd(C:Int->Int->Prop)[∀i j,Decidable (C i j)](g:Int->Int->Int):RB K (rI C fun i j=>.int (g i j)) (Jy C g):=fun H x y a b l fa fb ha hb e Q k=>by
 obtain⟨i,j,rfl,rfl,c,rfl⟩:=Jz e
 exact⟨i,j,ha.int_inv.1,hb.int_inv.1,c,k _ H [] (Same.refl H) (Is.int _) fun p hp=>by simp at hp⟩
instance (i j:Int):Decidable (CMul i j):=by unfold CMul;infer_instance
instance (i j:Int):Decidable (T0 i j):=by unfold T0;infer_instance
instance (i j:Int):Decidable (Fo i j):=by unfold Fo;infer_instance
instance (i j:Int):Decidable (L3 i j):=by unfold L3;infer_instance
abbrev ZL:=gI (· + ·)
abbrev ZP:=gI (· - ·)
abbrev UW:=Jy CMul (· * ·)
abbrev WZ:=Jy T0 (· / ·)
abbrev Yn:=Jy (fun _ j=>0<j) (· % ·)
abbrev UX:=Jy L3 (fun i j=>i^j.toNat)
abbrev UY:=gB (fun i j=>decide (i<j))
abbrev K4:=gB (fun i j=>decide (i<=j))
abbrev Sd:=gB (fun i j=>decide (j<i))
abbrev Gd:=gB (fun i j=>decide (j<=i))
section
variable {X:Cx} {a b:Expr} {fa fb:XE} {pos:Pos}
theorem Z4(ha:VE X a fa)(hb:VE X b fb):VE X (.BinOp a .Add b pos) (Zh ZL fa fb):=Wt F6 (DG _) ha hb
theorem Yi(ha:VE X a fa)(hb:VE X b fb):VE X (.BinOp a .Sub b pos) (Zh ZP fa fb):=Wt F7 (DG _) ha hb
theorem Se(ha:VE X a fa)(hb:VE X b fb):VE X (.BinOp a .Mult b pos) (Zh UW fa fb):=Wt F8 (Pd _ _) ha hb
theorem Wx(ha:VE X a fa)(hb:VE X b fb):VE X (.BinOp a .FloorDiv b pos) (Zh WZ fa fb):=Wt HD (Pd _ _) ha hb
theorem Xu(ha:VE X a fa)(hb:VE X b fb):VE X (.BinOp a .Mod b pos) (Zh Yn fa fb):=Wt F9 (Pd _ _) ha hb
theorem PY(ha:VE X a fa)(hb:VE X b fb):VE X (.BinOp a .Pow b pos) (Zh UX fa fb):=Wt Ea (Pd _ _) ha hb
theorem DH(ha:VE X a fa)(hb:VE X b fb):VE X (.Compare a [.Lt] [b] pos) (Zh UY fa fb):=NW Fp (QT _) ha hb (Ub _)
theorem JA(ha:VE X a fa)(hb:VE X b fb):VE X (.Compare a [.Gt] [b] pos) (Zh Sd fa fb):=NW Fq (QT _) ha hb (Ub _)
theorem DI(ha:VE X a fa)(hb:VE X b fb):VE X (.Compare a [.GtE] [b] pos) (Zh Gd fa fb):=NW Fs (QT _) ha hb (Ub _)
end
def ZS:PV->PV->Option PV
 | .lst l,.int i=>TY l i
 | .cst l,.int i=>TY l i
 | .tup l,.int i=>TY l i
 | .str z,.int i=>if z.length<=sizeLine then(TY z.cps.toList i).map fun c=>.str ⟨#[c]⟩ else none
 | _,_=>none
theorem NX{l:List PV}{xs:List V}{H:Hp}{fp:List Addr}{i:Int}{a:PV}(h:Iss K H l xs fp)(e:TY l i=some a):∃x f1,TY xs i=some x/\Is K H a x f1/\∀p∈f1,p∈fp:=by
 unfold TY at e ⊢
 rw[h.len]
 cases q:OF l.length i with
 | none=>rw[q] at e;cases e
 | some j=>rw[q] at e;exact h.get e
theorem DJ:RB K (CK K) ZS:=fun H x y a b l fa fb ha hb e Q k=>by
 unfold ZS at e;split at e
 ·obtain⟨p,xs,fq,rfl,hp,hi,rfl⟩:=ha.lst_inv
  obtain⟨z,f1,h1,h2,h3⟩:=NX hi e
  exact .inl ⟨p,xs,_,z,rfl,hb.int_inv.1,SqL.of hp,h1,k z H f1 (Same.refl H) h2 fun q hq=>.inl (List.mem_cons_of_mem _ (h3 q hq))⟩
 ·obtain⟨p,xs,rfl,hp,hi⟩:=ha.cst_inv
  obtain⟨z,f1,h1,h2,h3⟩:=NX hi e
  exact .inl ⟨p,xs,_,z,rfl,hb.int_inv.1,hp.sq,h1,k z H f1 (Same.refl H) h2 fun q hq=>.inl (h3 q hq)⟩
 ·obtain⟨p,xs,rfl,hp,hi⟩:=ha.tup_inv
  obtain⟨z,f1,h1,h2,h3⟩:=NX hi e
  exact .inr (.inl ⟨p,xs,_,z,rfl,hb.int_inv.1,SqT.of hp,h1,k z H f1 (Same.refl H) h2 fun q hq=>.inl (h3 q hq)⟩)
 ·split at e
  ·cases q:TY _ _ with
   | none=>rw[q] at e;cases e
   | some c=>
    rw[q] at e;cases e
    exact .inr (.inr ⟨_,_,c,ha.str_inv.1,hb.int_inv.1,by assumption,q,k _ H [] (Same.refl H) (Is.str _) fun p hp=>by simp at hp⟩)
  ·cases e
 ·cases e
section
variable {X:Cx} {a b:Expr} {fa fb:XE} {pos:Pos}
theorem Zx(ha:VE X a fa)(hb:VE X b fb)(hs:PL b:=by exact fun _ _=>rfl):VE X (.Subscript a b pos) (Zh ZS fa fb):=DF Eh DJ ha hb hs
end
abbrev XT:=ZU->Option Bool
def OG(K:PySem.W.Frag)(f:XT):TT:=fun σ H Q=>∃(Rm:Addr->Prop) (s:ZU) (c:Bool),(∀p,Rm p->WY (H p))/\EnvIs K Rm H s σ/\f s=some c/\∀H',Same H H'->Q c H'
def VT(X:Cx)(e:Expr)(f:XT):Prop:=PT X e (OG X.K f)
def VW(X:Cx)(e:Expr)(f:XT):Prop:=PW X e (OG X.K f)
section
variable {X:Cx} {e:Expr} {f:XT}
theorem PT.imp{t t':TT}(h:PT X e t)(i:∀σ H Q,t' σ H Q->t σ H Q):PT X e t':=fun pins s σ H Q I q=>h pins s σ H Q I (i σ H Q q)
theorem PW.imp{t t':TT}(h:PW X e t)(i:∀σ H Q,t' σ H Q->t σ H Q):PW X e t':=fun whole pins s σ H Q I q=>h whole pins s σ H Q I (i σ H Q q)
theorem VW.vt(h:VW X e f):VT X e f:=PW.pt h
end
def xB(f:XE):XT:=fun s=>match f s with | some (.bl c)=>some c | _=>none
theorem Rj{f:XE}{s:ZU}{c:Bool}(h:xB f s=some c):f s=some (.bl c):=by
 unfold xB at h;split at h
 ·cases h;assumption
 ·cases h
section
variable {X:Cx} {a b c:Expr} {YJ:List Expr} {fa fb:XE} {ga gb:XT} {pos:Pos}
theorem Ew(h:VE X a fa)(he:∀whole,isTrue a X.env whole=(do let v <-whole;standAt a.pos;holding [v] (truthy v)):=by intro _;rfl):VT X a (xB fa):=
 PT.imp (FU h he) fun σ H Q ⟨Rm,s,c,hd,env,e,k⟩=>⟨Rm,s,.bl c,hd,env,Rj e,fun v H' fp sm i n=>⟨c,i.bl_inv.1,k H' sm⟩⟩
theorem JB:∀σ H Q,OG K (xB fa) σ H Q->M8 (tF K fa) σ H Q:=fun σ H Q ⟨Rm,s,c,hd,env,e,k⟩=>⟨Rm,s,.bl c,hd,env,Rj e,fun v H' fp sm i n=>⟨c,i.bl_inv.1,k H' sm⟩⟩
theorem NY{t t':TE}(i:∀σ H Q,t' σ H Q->t σ H Q):∀σ H Q,M8 t' σ H Q->M8 t σ H Q:=fun σ H Q h=>i σ H _ h
theorem U9{op:CmpOp}{r:R2}{g:PV->PV->Option PV}(ho:Uv X (compareOp op) r)(hr:RB X.K r g)(ha:VE X a fa)(hb:VE X b fb)(hm:behindInMarks op b=false):VT X (.Compare a [op] [b] pos) (xB (Zh g fa fb)):=
 PT.imp (HF ho ha hb hm) fun σ H Q h=>NY (Lh hr) σ H Q (JB σ H Q h)
theorem SQ(ha:VE X a fa)(hb:VE X b fb):VT X (.Compare a [.Lt] [b] pos) (xB (Zh UY fa fb)):=U9 Fp (QT _) ha hb (Ub _)
theorem Fy(ha:VE X a fa)(hb:VE X b fb):VT X (.Compare a [.Gt] [b] pos) (xB (Zh Sd fa fb)):=U9 Fq (QT _) ha hb (Ub _)
theorem Fz(ha:VE X a fa)(hb:VE X b fb):VT X (.Compare a [.GtE] [b] pos) (xB (Zh Gd fa fb)):=U9 Fs (QT _) ha hb (Ub _)
def S1(a b:XT):XT:=fun s=>(a s).bind fun c=>if c=true then b s else some false
def Ge(a b:XT):XT:=fun s=>(a s).bind fun c=>if c=true then some true else b s
def Cz(a:XT):XT:=fun s=>(a s).map not
theorem Gg:∀σ H Q,OG K (S1 ga gb) σ H Q->E9 (OG K ga) (OG K gb) σ H Q:=fun σ H Q ⟨Rm,s,c,hd,env,e,k⟩=>by
 unfold S1 at e
 cases q:ga s with
 | none=>rw[q] at e;cases e
 | some d=>
  rw[q] at e
  refine⟨Rm,s,d,hd,env,q,fun H1 s1=>?_⟩
  cases d with
  | true=>
   simp only[Option.bind_some,if_true] at e;rw[if_pos rfl]
   exact⟨Rm,s,c,fun p hp=>Same.mut s1 (hd p hp),env.mono s1,e,fun H2 s2=>k H2 (s1.trans s2)⟩
  | false=>
   simp only[Option.bind_some,Bool.false_eq_true,if_false] at e;cases e;rw[if_neg Bool.false_ne_true]
   exact k H1 s1
theorem Ex:∀σ H Q,OG K (Ge ga gb) σ H Q->CI (OG K ga) (OG K gb) σ H Q:=fun σ H Q ⟨Rm,s,c,hd,env,e,k⟩=>by
 unfold Ge at e
 cases q:ga s with
 | none=>rw[q] at e;cases e
 | some d=>
  rw[q] at e
  refine⟨Rm,s,d,hd,env,q,fun H1 s1=>?_⟩
  cases d with
  | true=>
   simp only[Option.bind_some,if_true] at e;cases e;rw[if_pos rfl]
   exact k H1 s1
  | false=>
   simp only[Option.bind_some,Bool.false_eq_true,if_false] at e;rw[if_neg Bool.false_ne_true]
   exact⟨Rm,s,c,fun p hp=>Same.mut s1 (hd p hp),env.mono s1,e,fun H2 s2=>k H2 (s1.trans s2)⟩
theorem Rk(ha:VT X a ga):VW X (.BoolOp .And [a] pos) ga:=Hy ha
theorem Ey(ha:VT X a ga):VW X (.BoolOp .Or [a] pos) ga:=FV ha
theorem PZ(ha:VT X a ga)(hb:VW X (.BoolOp .And (b::YJ) pos) gb):VW X (.BoolOp .And (a::b::YJ) pos) (S1 ga gb):=PW.imp (FW ha hb) Gg
theorem DK(ha:VT X a ga)(hb:VW X (.BoolOp .Or (b::YJ) pos) gb):VW X (.BoolOp .Or (a::b::YJ) pos) (Ge ga gb):=PW.imp (Da ha hb) Ex
end
section
variable {X:Cx} {a b c:Expr} {YJ:List Expr} {fa fb:XE} {gc:XT} {pos:Pos}
def Ta(a b:XE):XE:=fun s=>(xB a s).bind fun c=>if c=true then b s else some (.bl false)
def CY(a b:XE):XE:=fun s=>(xB a s).bind fun c=>if c=true then some (.bl true) else b s
def CA(a:XE):XE:=fun s=>(xB a s).map fun c=>.bl !c
def OY(c:XT)(a b:XE):XE:=fun s=>(c s).bind fun k=>if k=true then a s else b s
theorem JC{op}(h:VE X a fa):VE X (.BoolOp op [a] pos) fa:=FX h
theorem P0(ha:VE X a fa)(hb:VE X (.BoolOp .And (b::YJ) pos) fb):VE X (.BoolOp .And (a::b::YJ) pos) (Ta fa fb):=PE.imp (FY ha hb) fun σ H Q ⟨Rm,s,l,hd,env,e,k⟩=>by
 unfold Ta at e
 cases q:xB fa s with
 | none=>rw[q] at e;cases e
 | some d=>
  rw[q] at e
  refine⟨Rm,s,.bl d,hd,env,Rj q,fun v H1 fp s1 i1 _=>⟨d,i1.bl_inv.1,?_⟩⟩
  cases d with
  | true=>
   simp only[Option.bind_some,if_true] at e;rw[if_pos rfl]
   exact⟨Rm,s,l,fun p hp=>Same.mut s1 (hd p hp),env.mono s1,e,fun v2 H2 fp2 s2 i2 n2=>k v2 H2 fp2 (s1.trans s2) i2 n2⟩
  | false=>
   simp only[Option.bind_some,Bool.false_eq_true,if_false] at e;cases e;rw[if_neg Bool.false_ne_true]
   exact k _ H1 [] s1 (Is.bl false) fun p hp=>by simp at hp
theorem OZ(hc:VT X c gc)(ha:VE X a fa)(hb:VE X b fb):VE X (.IfExp c a b pos) (OY gc fa fb):=PE.imp (K9 hc ha hb) fun σ H Q ⟨Rm,s,l,hd,env,e,k⟩=>by
 unfold OY at e
 cases q:gc s with
 | none=>rw[q] at e;cases e
 | some d=>
  rw[q] at e
  refine⟨Rm,s,d,hd,env,q,fun H1 s1=>?_⟩
  cases d with
  | true=>
   simp only[Option.bind_some,if_true] at e;rw[if_pos rfl]
   exact⟨Rm,s,l,fun p hp=>Same.mut s1 (hd p hp),env.mono s1,e,fun v2 H2 fp2 s2 i2 n2=>k v2 H2 fp2 (s1.trans s2) i2 n2⟩
  | false=>
   simp only[Option.bind_some,Bool.false_eq_true,if_false] at e;rw[if_neg Bool.false_ne_true]
   exact⟨Rm,s,l,fun p hp=>Same.mut s1 (hd p hp),env.mono s1,e,fun v2 H2 fp2 s2 i2 n2=>k v2 H2 fp2 (s1.trans s2) i2 n2⟩
end
section
variable {X:Cx} {a b c:Expr} {fa fb fc:XE} {pos:Pos}
def JD(neg:Bool):PV->Option PV
 | .non=>some (.bl !neg)
 | _=>some (.bl neg)
def JE:PV->Bool
 | .non=>true
 | _=>false
theorem NZ{H:Hp}{l:PV}{v:V}{fp:List Addr}(i:Is K H l v fp):decide (v=V.non)=JE l:=by
 cases l with
 | non=>rw[i.non_inv.1];rfl
 | bl b=>rw[i.bl_inv.1];rfl
 | int j=>rw[i.int_inv.1];rfl
 | str y=>rw[i.str_inv.1];rfl
 | ty n=>rw[i.ty_inv.1];rfl
 | exc C=>simp only[Is] at i;obtain⟨⟨e,o,x,C,rfl,_⟩,_⟩:=i;rfl
 | lst l=>obtain⟨p,xs,fq,rfl,_⟩:=i.lst_inv;rfl
 | cst l=>obtain⟨p,xs,rfl,_⟩:=i.cst_inv;rfl
 | tup l=>obtain⟨p,xs,rfl,_⟩:=i.tup_inv;rfl
 | dK ks l=>obtain⟨p,xs,fq,rfl,_⟩:=i.dK_inv;rfl
 | dT ks l=>obtain⟨p,xs,fq,rfl,_⟩:=i.dT_inv;rfl
def Ka(neg:Bool)(a:XE):XE:=fun s=>(a s).bind (JD neg)
theorem JF:∀σ H Q,tF K (Ka true fa) σ H Q->Fi (tF K fa) σ H Q:=fun σ H Q ⟨Rm,s,l,hd,env,e,k⟩=>by
 unfold Ka at e
 cases q:fa s with
 | none=>rw[q] at e;cases e
 | some m=>
  rw[q] at e;simp only[Option.bind_some] at e
  refine⟨Rm,s,m,hd,env,q,fun v H1 fp s1 i1 _=>?_⟩
  show Q _ H1
  rw[NZ i1]
  have:l = .bl (!JE m):=by cases m<;>cases e<;>rfl
  subst this
  exact k _ H1 [] s1 (Is.bl _) fun p hp=>by simp at hp
theorem DL:∀σ H Q,OG K (xB fa) σ H Q->tB (tF K fa) σ H Q:=fun σ H Q ⟨Rm,s,c,hd,env,e,k⟩=>⟨Rm,s,.bl c,hd,env,Rj e,fun v H' fp sm i n=>⟨c,i.bl_inv.1,k H' sm⟩⟩
theorem Gh{t t':TE}(i:∀σ H Q,t' σ H Q->t σ H Q):∀σ H Q,tB t' σ H Q->tB t σ H Q:=fun σ H Q h=>i σ H _ h
theorem Gi{j pos'}(ha:VE X a fa):VT X (.Compare a [.IsNot] [.Constant .none j pos'] pos) (xB (Ka true fa)):=PT.imp (FT (Hw ha)) fun σ H Q h=>Gh JF σ H Q (DL σ H Q h)
def W0:PV->Option PV
 | .int i=>some (.int (-i))
 | _=>none
def SR(g:PV->Option PV)(a:XE):XE:=fun s=>(a s).bind g
theorem Tc(ha:VE X a fa):VE X (.UnaryOp .USub a pos) (SR W0 fa):=PE.imp (Dl Eb ha) fun σ H Q ⟨Rm,s,l,hd,env,e,k⟩=>by
 unfold SR at e
 cases q:fa s with
 | none=>rw[q] at e;cases e
 | some m=>
  rw[q] at e;simp only[Option.bind_some] at e;unfold W0 at e
  split at e
  ·cases e
   exact⟨Rm,s,_,hd,env,q,fun v H1 fp s1 i1 _=>⟨_,i1.int_inv.1,k _ H1 [] s1 (Is.int _) fun p hp=>by simp at hp⟩⟩
  ·cases e
end
end VL
namespace VL
open PySem PySem.Spec PyProof.Rows L2
variable {K:PySem.W.Frag}
def Sg:List XE->ZU->Option (List PV)
 | [],_=>some []
 | f::fs,s=>(f s).bind fun x=>(Sg fs s).map (x::·)
theorem RU{f:XE}{fs:List XE}{s:ZU}{ls:List PV}(h:Sg (f::fs) s=some ls):∃x r,f s=some x/\Sg fs s=some r/\ls=x::r:=by
 unfold Sg at h
 cases q:f s with
 | none=>rw[q] at h;cases h
 | some x=>cases q2:Sg fs s with
  | none=>rw[q,q2] at h;cases h
  | some r=>rw[q,q2] at h;cases h;exact⟨x,r,rfl,rfl,rfl⟩
theorem Uw:∀{fs:List XE}{s:ZU}{ls:List PV},Sg fs s=some ls->ls.length=fs.length
 | [],_,_,h=>by cases h;rfl
 | f::fs,s,ls,h=>by
  obtain⟨x,r,_,h2,rfl⟩:=RU h
  rw[List.length_cons,List.length_cons,Uw h2]
def CB(K:PySem.W.Frag)(fs:List XE):TA:=fun σ H Q=>∃(Rm:Addr->Prop) (s:ZU) (ls:List PV),(∀p,Rm p->WY (H p))/\EnvIs K Rm H s σ/\Sg fs s=some ls/\∀vs H' fp,Same H H'->Iss K H' ls vs fp->(∀p∈fp,¬Rm p)->Q vs H'
def CZ(K:PySem.W.Frag)(fs:List XE):TA:=fun σ H Q=>∃(s:ZU) (ls:List PV),EnvIs K (fun _=>False) H s σ/\Sg fs s=some ls/\∀vs H' fp,Same H H'->Iss K H' ls vs fp->fp.Nodup->(∀p∈fp,H p=none/\WY (H' p))->Q vs H'
def VA(X:Cx)(es:List Expr)(fs:List XE):Prop:=PA X es (CB X.K fs)
def DM(X:Cx)(es:List Expr)(fs:List XE):Prop:=PA X es (CZ X.K fs)
section
variable {X:Cx} {e:Expr} {es:List Expr} {f:XE} {fs:List XE} {pos:Pos} {k:Nat}
theorem PA.imp{t t':TA}(h:PA X es t)(i:∀σ H Q,t' σ H Q->t σ H Q):PA X es t':=fun pos pins s σ H Q I q=>h pos pins s σ H Q I (i σ H Q q)
theorem Zf:VA X [] []:=PA.imp XB fun σ H Q ⟨Rm,s,ls,hd,env,e,k⟩=>by
 cases e
 exact k [] H [] (Same.refl H) Iss.nil fun p hp=>by simp at hp
theorem Zc(ha:VE X e f)(hr:VA X es fs)(hs:starEach (e::es) X.env=(false,eval e X.env)::starEach es X.env:=by rfl):VA X (e::es) (f::fs):=PA.imp (Z9 ha hr hs) fun σ H Q ⟨Rm,s,ls,hd,env,e,k⟩=>by
 obtain⟨x',r',h1,h2,rfl⟩:=RU e
 refine⟨Rm,s,x',hd,env,h1,fun x H1 f1 s1 i1 n1=>⟨Rm,s,r',fun p hp=>Same.mut s1 (hd p hp),env.mono s1,h2,fun xs H2 f2 s2 i2 n2=>?_⟩⟩
 refine k _ H2 (f1++f2) (s1.trans s2) (Iss.cons (i1.mono s2) i2) fun p hp=>?_
 rcases List.mem_append.mp hp with h | h
 ·exact n1 p h
 ·exact n2 p h
theorem VC:DM X [] []:=PA.imp XB fun σ H Q ⟨s,ls,env,e,k⟩=>by
 cases e
 exact k [] H [] (Same.refl H) Iss.nil List.nodup_nil fun p hp=>by simp at hp
theorem To(ha:VM X e f)(hr:DM X es fs)(hs:starEach (e::es) X.env=(false,eval e X.env)::starEach es X.env:=by rfl):DM X (e::es) (f::fs):=PA.imp (Z9 ha hr hs) fun σ H Q ⟨s,ls,env,e,k⟩=>by
 obtain⟨x',r',h1,h2,rfl⟩:=RU e
 refine⟨s,x',env,h1,fun x H1 f1 s1 i1 d1 n1=>⟨s,r',env.mono s1,h2,fun xs H2 f2 s2 i2 d2 n2=>?_⟩⟩
 refine k _ H2 (f1++f2) (s1.trans s2) (Iss.cons (i1.mono s2) i2) ?_ fun p hp=>?_
 ·refine List.nodup_append.mpr ⟨d1,d2,fun a ha b hb z=>?_⟩
  subst z
  exact Xx (n1 a ha).2 (n2 a hb).1
 ·rcases List.mem_append.mp hp with h | h
  ·exact⟨(n1 p h).1,Same.mut s2 (n1 p h).2⟩
  ·exact⟨Same.off s1 (n2 p h).1,(n2 p h).2⟩
def Xv(fs:List XE):XE:=fun s=>(Sg fs s).map .tup
def Wm(fs:List XE):XE:=fun s=>(Sg fs s).map .lst
theorem map_some{α β:Type}{o:Option α}{g:α->β}{b:β}(h:o.map g=some b):∃a,o=some a/\b=g a:=by
 cases o with
 | none=>cases h
 | some a=>cases h;exact⟨a,rfl,rfl⟩
theorem Td(h:VA X es fs)(hl:fs.length<=1000:=by decide):VE X (.Tuple es k pos) (Xv fs):=PE.imp (U7 h) fun σ H Q ⟨Rm,s,l,hd,env,e,q⟩=>by
 obtain⟨ls,e1,rfl⟩:=map_some e
 refine⟨Rm,s,ls,hd,env,e1,fun vs H1 fp s1 i1 n1=>⟨?_,fun p hp=>?_⟩⟩
 ·rw[i1.len,Uw e1];exact Nat.le_of_lt (lt_size (by omega))
 ·exact q _ _ fp (s1.trans (Same.new hp _)) (Is.tup upd_same (i1.mono (Same.new hp _))) n1
theorem Ez(h:DM X es fs)(hl:fs.length<=1000:=by decide):VM X (.Tuple es k pos) (Xv fs):=PE.imp (U7 h) fun σ H Q ⟨s,l,env,e,q⟩=>by
 obtain⟨ls,e1,rfl⟩:=map_some e
 refine⟨s,ls,env,e1,fun vs H1 fp s1 i1 d1 n1=>⟨?_,fun p hp=>?_⟩⟩
 ·rw[i1.len,Uw e1];exact Nat.le_of_lt (lt_size (by omega))
 ·exact q _ _ fp (s1.trans (Same.new hp _)) (Is.tup upd_same (i1.mono (Same.new hp _))) d1 fun a ha=>⟨(n1 a ha).1,Same.mut (Same.new hp _) (n1 a ha).2⟩
theorem RV(h:VA X es fs)(hl:fs.length<=1000:=by decide):VE X (.List es pos) (Wm fs):=PE.imp (Jf h) fun σ H Q ⟨Rm,s,l,hd,env,e,q⟩=>by
 obtain⟨ls,e1,rfl⟩:=map_some e
 refine⟨Rm,s,ls,hd,env,e1,fun vs H1 fp s1 i1 n1=>⟨?_,fun p hp=>?_⟩⟩
 ·rw[i1.len,Uw e1];exact Nat.le_of_lt (lt_size (by omega))
 ·refine q _ _ (p::fp) (s1.trans (Same.new hp _)) (Is.lst upd_same (i1.mono (Same.new hp _))) fun a ha z=>?_
  rcases List.mem_cons.mp ha with rfl | ha
  ·exact Xx (Same.mut s1 (hd a z)) hp
  ·exact n1 a ha z
theorem Sh(h:DM X es fs)(hl:fs.length<=1000:=by decide):VM X (.List es pos) (Wm fs):=PE.imp (Jf h) fun σ H Q ⟨s,l,env,e,q⟩=>by
 obtain⟨ls,e1,rfl⟩:=map_some e
 refine⟨s,ls,env,e1,fun vs H1 fp s1 i1 d1 n1=>⟨?_,fun p hp=>?_⟩⟩
 ·rw[i1.len,Uw e1];exact Nat.le_of_lt (lt_size (by omega))
 ·refine q _ _ (p::fp) (s1.trans (Same.new hp _)) (Is.lst upd_same (i1.mono (Same.new hp _))) (List.nodup_cons.mpr ⟨fun z=>Xx (n1 p z).2 hp,d1⟩) fun a ha=>?_
  rcases List.mem_cons.mp ha with rfl | ha
  ·exact⟨Same.off s1 hp,by rw[upd_same];exact True.intro⟩
  ·exact⟨(n1 a ha).1,Same.mut (Same.new hp _) (n1 a ha).2⟩
theorem JG:VM X (.Dict [] [] pos) (eC (.dT [] [])):=PE.imp Jk fun σ H Q ⟨s,l,env,e,q⟩ p hp=>by
 cases e
 exact q _ _ [p] (Same.new hp _) (Is.dT upd_same rfl Iss.nil) (by simp) fun a ha=>by
  rw[List.mem_singleton.mp ha]
  exact⟨hp,by rw[upd_same];exact True.intro⟩
end
def Yz(K:PySem.W.Frag)(D:List PV->Option PV)(n:Nat):Sp:=fun vs H Q _=>vs.length=n/\∃ls fp l,Iss K H ls vs fp/\D ls=some l/\∀v H' fq,Same H H'->Is K H' l v fq->fq.Nodup->(∀p∈fq,H p=none/\WY (H' p))->Q v H'
def Ze(D:List PV->Option PV)(fs:List XE):XE:=fun s=>(Sg fs s).bind D
theorem Zg{α β:Type}{o:Option α}{g:α->Option β}{b:β}(h:o.bind g=some b):∃a,o=some a/\g a=some b:=by
 cases o with
 | none=>cases h
 | some a=>exact⟨a,rfl,h⟩
section
variable {X:Cx} {x:Str} {ps:List Str} {k:Nat} {e:Expr} {es:List Expr} {fs:List XE} {p pos:Pos}
theorem Zn{D:List PV->Option PV}{n:Nat}(C:YF X.prog X.w X.K X.mg X.base x ps (Yz X.K D n) k)(hr:Room k X.A)(hg:Gl X x)(ha:VA X (e::es) fs)(hn:fs.length=n:=by rfl)
  (hdb:(x==("__debug__" : Str))=false:=by decide) (he:starEach (e::es) X.env=(false,eval e X.env)::starEach es X.env:=by rfl) (hpl:(backTo pos (starEach es X.env)).any (·.1)=false:=by rfl) :
  VM X (.Call (.Name x p) (e::es) [] pos) (Ze D fs):=PE.imp (Es C hr hg ha hdb he hpl) fun σ H Q ⟨s,l,env,e,q⟩=>by
 obtain⟨ls,e1,e2⟩:=Zg e
 refine⟨fun _=>False,s,ls,fun _ z=>z.elim,env,e1,fun vs H1 fp s1 i1 n1=>?_⟩
 show Yz X.K D n (vs++[]) H1 Q E0
 rw[List.append_nil]
 exact⟨by rw[i1.len,Uw e1,hn],ls,fp,l,i1,e2,fun v H2 fq s2 i2 d2 n2=>q v H2 fq (s1.trans s2) i2 d2 fun a ha=>⟨Same.off s1 (n2 a ha).1,(n2 a ha).2⟩⟩
end
def RC(K:PySem.W.Frag)(r:List V->Hp->VK->Prop)(g:List PV->Option PV):Prop:=∀(H:Hp)(vs:List V)(ls:List PV)(l:PV)(fp:List Addr),Iss K H ls vs fp->g ls=some l->∀Q:VK,
 (∀v H' fq,Same H H'->Is K H' l v fq->(∀p∈fq,p∈fp\/H p=none)->Q v H')->r vs H Q
def CC(K:PySem.W.Frag)(r:List V->Hp->VK->Prop)(g:List PV->Option PV):Prop:=∀(H:Hp)(vs:List V)(ls:List PV)(l:PV)(fp:List Addr),Iss K H ls vs fp->g ls=some l->∀Q:VK,
 (∀v H' fq,Same H H'->Is K H' l v fq->fq.Nodup->(∀p∈fq,H p=none/\WY (H' p))->Q v H')->r vs H Q
theorem FA{r:List V->Hp->VK->Prop}{g:List PV->Option PV}{fs:List XE}(hr:RC K r g):∀σ H Q,tF K (Ze g fs) σ H Q->D3 r (CB K fs) σ H Q:=fun σ H Q ⟨Rm,s,l,hd,env,e,k⟩=>by
 obtain⟨ls,e1,e2⟩:=Zg e
 refine⟨Rm,s,ls,hd,env,e1,fun vs H1 fp s1 i1 n1=>hr H1 vs ls l fp i1 e2 Q fun v H2 fq s2 i2 n2=>k v H2 fq (s1.trans s2) i2 fun p hp z=>?_⟩
 rcases n2 p hp with h | h
 ·exact n1 p h z
 ·exact Xx (Same.mut s1 (hd p z)) h
theorem DN{r:List V->Hp->VK->Prop}{g:List PV->Option PV}{fs:List XE}(hr:CC K r g):∀σ H Q,tM K (Ze g fs) σ H Q->D3 r (CB K fs) σ H Q:=fun σ H Q ⟨s,l,env,e,k⟩=>by
 obtain⟨ls,e1,e2⟩:=Zg e
 exact⟨fun _=>False,s,ls,fun _ z=>z.elim,env,e1,fun vs H1 fp s1 i1 n1=>hr H1 vs ls l fp i1 e2 Q fun v H2 fq s2 i2 d2 n2=>k v H2 fq (s1.trans s2) i2 d2 fun p hp=>⟨Same.off s1 (n2 p hp).1,(n2 p hp).2⟩⟩
section
variable {X:Cx} {x:Str} {k:Nat} {e:Expr} {es:List Expr} {fs:List XE} {p pos:Pos} {id T:String} {r:List V->Hp->VK->Prop} {g:List PV->Option PV}
theorem ZG(hc:V2 X (.builtin id) r)(hr:RC X.K r g)(hg:Gl X x)(hm:X.mg x=none)(hv:bootBuiltins x=some (.builtin id))(ha:VA X (e::es) fs)(hn:x≠"__name__":=by decide)(hdb:(x==("__debug__" : Str))=false:=by decide)
  (he:starEach (e::es) X.env=(false,eval e X.env)::starEach es X.env:=by rfl) (hpl:(backTo pos (starEach es X.env)).any (·.1)=false:=by rfl):VE X (.Call (.Name x p) (e::es) [] pos) (Ze g fs):=
 PE.imp (Jg hc hg hm hv ha hn hdb he hpl) (FA hr)
theorem ZZ(hc:V2 X (.type T) r)(hr:RC X.K r g)(hg:Gl X x)(hm:X.mg x=none)(hv:bootBuiltins x=some (.type T))(ha:VA X (e::es) fs)(hn:x≠"__name__":=by decide)(hdb:(x==("__debug__" : Str))=false:=by decide)
  (he:starEach (e::es) X.env=(false,eval e X.env)::starEach es X.env:=by rfl) (hpl:(backTo pos (starEach es X.env)).any (·.1)=false:=by rfl):VE X (.Call (.Name x p) (e::es) [] pos) (Ze g fs):=
 PE.imp (Q4 hc hg hm hv ha hn hdb he hpl) (FA hr)
theorem Kb(hc:V2 X (.type T) r)(hr:CC X.K r g)(hg:Gl X x)(hm:X.mg x=none)(hv:bootBuiltins x=some (.type T))(ha:VA X (e::es) fs)(hn:x≠"__name__":=by decide)(hdb:(x==("__debug__" : Str))=false:=by decide)
  (he:starEach (e::es) X.env=(false,eval e X.env)::starEach es X.env:=by rfl) (hpl:(backTo pos (starEach es X.env)).any (·.1)=false:=by rfl):VM X (.Call (.Name x p) (e::es) [] pos) (Ze g fs):=
 PE.imp (Q4 hc hg hm hv ha hn hdb he hpl) (DN hr)
end
theorem Iss.one_inv{H:Hp}{l:PV}{vs:List V}{fp:List Addr}(h:Iss K H [l] vs fp):∃v,vs=[v]/\Is K H l v fp:=by
 obtain⟨x,r,f1,f2,rfl,a,b,rfl⟩:=h.inv
 simp only[Iss] at b
 rw[b.1,b.2,List.append_nil];exact⟨x,rfl,a⟩
theorem Iss.two_inv{H:Hp}{l m:PV}{vs:List V}{fp:List Addr}(h:Iss K H [l,m] vs fp):∃v w f1 f2,vs=[v,w]/\Is K H l v f1/\Is K H m w f2/\fp=f1++f2:=by
 obtain⟨x,r,f1,f2,rfl,a,b,rfl⟩:=h.inv
 obtain⟨y,rfl,c⟩:=b.one_inv
 exact⟨x,y,f1,f2,rfl,a,c,rfl⟩
def QU:PV->Option (List PV)
 | .lst l=>some l
 | .cst l=>some l
 | .tup l=>some l
 | _=>none
theorem Ux{H:Hp}{l:PV}{v:V}{fp:List Addr}{m:List PV}(h:Is K H l v fp)(e:QU l=some m):∃p xs fq,v = .ref p/\(SqL K H p xs\/SqT K H p xs)/\Iss K H m xs fq/\∀q∈fq,q∈fp:=by
 cases l with
 | lst l=>
  cases e
  obtain⟨p,xs,fq,rfl,hp,hi,rfl⟩:=h.lst_inv
  exact⟨p,xs,fq,rfl,.inl (SqL.of hp),hi,fun q hq=>List.mem_cons_of_mem _ hq⟩
 | cst l=>
  cases e
  obtain⟨p,xs,rfl,hp,hi⟩:=h.cst_inv
  exact⟨p,xs,fp,rfl,.inl hp.sq,hi,fun q hq=>hq⟩
 | tup l=>
  cases e
  obtain⟨p,xs,rfl,hp,hi⟩:=h.tup_inv
  exact⟨p,xs,fp,rfl,.inr (SqT.of hp),hi,fun q hq=>hq⟩
 | _=>cases e
def Yb:List PV->Option PV
 | [.str z]=>if z.length<=sizeLine then some (.int z.length) else none
 | [l]=>(QU l).map fun m=>.int m.length
 | _=>none
theorem YV:RC K (fun xs H Q=>∃x n,xs=[x]/\Dp K x H n/\Q (.int n) H) Yb:=fun H vs ls l fp h e Q k=>by
 unfold Yb at e
 split at e
 ·split at e
  ·cases e
   obtain⟨v,rfl,i⟩:=h.one_inv
   exact⟨v,_,rfl,by rw[i.str_inv.1];exact⟨by assumption,rfl⟩,k _ H [] (Same.refl H) (Is.int _) fun p hp=>by simp at hp⟩
  ·cases e
 ·obtain⟨m,e1,rfl⟩:=map_some e
  obtain⟨v,rfl,i⟩:=h.one_inv
  obtain⟨p,xs,fq,rfl,hp,hi,_⟩:=Ux (K:=K) i e1
  refine⟨_,xs.length,rfl,?_,?_⟩
  ·rcases hp with hp | hp
   ·exact .inl ⟨xs,hp,rfl⟩
   ·exact .inr ⟨xs,hp,rfl⟩
  ·rw[hi.len]
   exact k _ H [] (Same.refl H) (Is.int _) fun p hp=>by simp at hp
 ·cases e
def Z5:List PV->Option PV
 | [l]=>(QU l).map .tup
 | _=>none
theorem Yj:RC K (Eu K) Z5:=fun H vs ls l fp h e Q k=>by
 unfold Z5 at e
 split at e
 ·obtain⟨m,e1,rfl⟩:=map_some e
  obtain⟨v,rfl,i⟩:=h.one_inv
  rename_i l0
  cases l0 with
  | tup l=>
   cases e1
   obtain⟨p,xs,rfl,hp,hi⟩:=id i.tup_inv
   exact⟨p,xs,rfl,.inr ⟨SqT.of hp,k _ H fp (Same.refl H) i fun a ha=>.inl ha⟩⟩
  | lst l=>
   cases e1
   obtain⟨p,xs,fq,rfl,hp,hi,rfl⟩:=i.lst_inv
   exact⟨p,xs,rfl,.inl ⟨SqL.of hp,fun q hq=>k _ _ fq (Same.new hq _) (Is.tup upd_same (hi.mono (Same.new hq _))) fun a ha=>.inl (List.mem_cons_of_mem _ ha)⟩⟩
  | cst l=>
   cases e1
   obtain⟨p,xs,rfl,hp,hi⟩:=i.cst_inv
   exact⟨p,xs,rfl,.inl ⟨hp.sq,fun q hq=>k _ _ fp (Same.new hq _) (Is.tup upd_same (hi.mono (Same.new hq _))) fun a ha=>.inl ha⟩⟩
  | _=>cases e1
 ·cases e
def Uf:List PV->Option PV
 | [l]=>(QU l).bind fun m=>if ZN m=true then some (.lst m) else none
 | _=>none
theorem JH:CC K (H9 K) Uf:=fun H vs ls l fp h e Q k=>by
 unfold Uf at e
 split at e
 ·obtain⟨m,e1,e2⟩:=Zg e
  split at e2
  ·cases e2
   obtain⟨v,rfl,i⟩:=h.one_inv
   obtain⟨p,xs,fq,rfl,hp,hi,hs⟩:=Ux (K:=K) i e1
   have:=Iss.pure _ _ _ (by assumption) hi
   subst this
   refine⟨p,xs,rfl,hp,fun q hq=>k _ _ [q] (Same.new hq _) (Is.lst upd_same (hi.mono (Same.new hq _))) (by simp) fun a ha=>?_⟩
   rw[List.mem_singleton.mp ha]
   exact⟨hq,by rw[upd_same];exact True.intro⟩
  ·cases e2
 ·cases e
def VD:List PV->Option (List Int)
 | []=>some []
 | .int i::r=>(VD r).map (i::·)
 | _=>none
theorem Wa:∀l:List Int,VD (iL l)=some l
 | []=>rfl
 | i::r=>by show(VD (iL r)).map (i::·)=_;rw[Wa r];rfl
theorem Ug:∀{m:List PV}{l:List Int},VD m=some l->m=iL l
 | [],l,h=>by cases h;rfl
 | .int i::r,l,h=>by
  obtain⟨a,e,rfl⟩:=map_some (show(VD r).map (i::·)=some l from h)
  rw[Ug e];rfl
 | .non::_,_,h=>by cases h
 | .bl _::_,_,h=>by cases h
 | .str _::_,_,h=>by cases h
 | .ty _::_,_,h=>by cases h
 | .exc _::_,_,h=>by cases h
 | .tup _::_,_,h=>by cases h
 | .lst _::_,_,h=>by cases h
 | .cst _::_,_,h=>by cases h
 | .dK _ _::_,_,h=>by cases h
 | .dT _ _::_,_,h=>by cases h
abbrev bL(l:List Bool):List PV:=l.map PV.bl
theorem JI{H:Hp}{p:Addr}{xs:List V}(h:SqL K H p xs\/SqT K H p xs):∃b,Q7 b K H p xs:=by
 rcases h with h | h
 ·exact⟨true,h⟩
 ·exact⟨false,h⟩
def Y1:List PV->Option PV
 | [l]=>(QU l).bind fun m=>(VD m).map fun ns=>.int ns.sum
 | _=>none
theorem Wn:RC K (fun xs H Q=>∃(b:Bool) (p:Addr) (ns:List Int),xs=[.ref p]/\Q7 b K H p (ns.map V.int)/\Q (.int ns.sum) H) Y1:=fun H vs ls l fp h e Q k=>by
 unfold Y1 at e
 split at e
 ·obtain⟨m,e1,e2⟩:=Zg e
  obtain⟨ns,e3,rfl⟩:=map_some e2
  obtain⟨v,rfl,i⟩:=h.one_inv
  obtain⟨p,xs,fq,rfl,hp,hi,hs⟩:=Ux (K:=K) i e1
  have em:=Ug e3;subst em
  obtain⟨rfl,rfl⟩:=hi.iL
  obtain⟨b,hb⟩:=JI hp
  exact⟨b,p,ns,rfl,hb,k _ H [] (Same.refl H) (Is.int _) fun p hp=>by simp at hp⟩
 ·cases e
def DO:List PV->Option PV
 | [.int i,.int j]=>some (.int (if j<i then j else i))
 | _=>none
def W6:List PV->Option PV
 | [.int i,.int j]=>some (.int (if j>i then j else i))
 | _=>none
def SS:List PV->Option PV
 | [.int i]=>some (.int i)
 | [.bl c]=>some (.int (if c then 1 else 0))
 | _=>none
theorem P3:RC K (fun xs H Q=>∃i j,xs=[.int i,.int j]/\Q (.int (if j>i then j else i)) H) W6:=fun H vs ls l fp h e Q k=>by
 unfold W6 at e
 split at e
 ·cases e
  obtain⟨v,w,f1,f2,rfl,a,b,rfl⟩:=h.two_inv
  exact⟨_,_,by rw[a.int_inv.1,b.int_inv.1],k _ H [] (Same.refl H) (Is.int _) fun p hp=>by simp at hp⟩
 ·cases e
theorem Gj:RC K (fun xs H Q=>(∃i,xs=[.int i]/\Q (.int i) H)\/∃k,xs=[.bl k]/\Q (.int (if k then 1 else 0)) H) SS:=fun H vs ls l fp h e Q k=>by
 unfold SS at e
 split at e
 ·cases e
  obtain⟨v,rfl,a⟩:=h.one_inv
  exact .inl ⟨_,by rw[a.int_inv.1],k _ H [] (Same.refl H) (Is.int _) fun p hp=>by simp at hp⟩
 ·cases e
  obtain⟨v,rfl,a⟩:=h.one_inv
  exact .inr ⟨_,by rw[a.bl_inv.1],k _ H [] (Same.refl H) (Is.int _) fun p hp=>by simp at hp⟩
 ·cases e
section
variable {X:Cx} {e:Expr} {es:List Expr} {fs:List XE} {p pos:Pos}
def Li:List PV->Option PV
 | [.int _,.ty "int"]=>some (.bl true)
 | [.int _,.ty "bool"]=>some (.bl false)
 | [.bl _,.ty "bool"]=>some (.bl true)
 | [.tup _,.ty "tuple"]=>some (.bl true)
 | [.lst _,.ty "list"]=>some (.bl true)
 | [.str _,.ty "str"]=>some (.bl true)
 | _=>none
end
end VL
namespace VL
open PySem PySem.Spec PyProof.Rows L2
variable {K:PySem.W.Frag}
open Classical in
noncomputable instance:DecidableEq PV:=fun a b=>propDecidable (a=b)
def WK:Nat->PV->PV->Bool
 | _+1,.non,.non=>true
 | _+1,.bl _,.bl _=>true
 | _+1,.int _,.int _=>true
 | _+1,.str _,.str _=>true
 | n+1,.tup l,.tup m=>(l.zip m).all fun z=>WK n z.1 z.2
 | n+1,.lst l,.lst m=>(l.zip m).all fun z=>WK n z.1 z.2
 | _,_,_=>false
theorem Tp{α β:Type}{p:α×β->Bool}{a:α}{b:β}{l:List α}{m:List β}(h:((a::l).zip (b::m)).all p=true):p (a,b)=true/\(l.zip m).all p=true:=by
 rw[List.zip_cons_cons,List.all_cons,Bool.and_eq_true] at h;exact h
theorem Iss.inj'{n:Nat}{H:Hp}(ih:∀a b v fa fb,WK n a b=true->Is K H a v fa->Is K H b v fb->a=b):∀{l m:List PV}{xs:List V}{fa fb:List Addr},(l.zip m).all (fun z=>WK n z.1 z.2)=true->Iss K H l xs fa->Iss K H m xs fb->l=m
 | [],m,xs,fa,fb,_,h,h'=>by
  simp only[Iss] at h
  rw[h.1] at h'
  have:=h'.len
  cases m with
  | nil=>rfl
  | cons _ _=>simp at this
 | a::l,m,xs,fa,fb,hc,h,h'=>by
  obtain⟨x,r,f1,f2,rfl,h1,h2,rfl⟩:=h.inv
  cases m with
  | nil=>have:=h'.len;simp at this
  | cons b m=>
   obtain⟨x',r',g1,g2,e,h3,h4,rfl⟩:=h'.inv
   cases e
   obtain⟨c1,c2⟩:=Tp hc
   rw[ih a b x f1 g1 c1 h1 h3,Iss.inj' ih c2 h2 h4]
theorem Is.inj'{H:Hp}:∀(n:Nat)(a b:PV)(v:V)(fa fb:List Addr),WK n a b=true->Is K H a v fa->Is K H b v fb->a=b
 | 0,a,b,v,fa,fb,hc,_,_=>by unfold WK at hc;simp at hc
 | n+1,a,b,v,fa,fb,hc,ha,hb=>by
  cases a<;>cases b<;>first
   | (exfalso;revert hc;unfold WK;simp;done)
   | skip
  ·rfl
  ·rw[ha.bl_inv.1] at hb;have:=hb.bl_inv.1;cases this;rfl
  ·rw[ha.int_inv.1] at hb;have:=hb.int_inv.1;cases this;rfl
  ·rw[ha.str_inv.1] at hb;have:=hb.str_inv.1;cases this;rfl
  ·obtain⟨p,xs,rfl,hp,hi⟩:=ha.tup_inv
   obtain⟨p',ys,e,hp',hi'⟩:=hb.tup_inv
   cases e
   rw[hp] at hp';cases hp'
   unfold WK at hc;rw[Iss.inj' (Is.inj' n) hc hi hi']
  ·obtain⟨p,xs,fq,rfl,hp,hi,_⟩:=ha.lst_inv
   obtain⟨p',ys,fq',e,hp',hi',_⟩:=hb.lst_inv
   cases e
   rw[hp] at hp';cases hp'
   unfold WK at hc;rw[Iss.inj' (Is.inj' n) hc hi hi']
section
variable {X:Cx} {pins:List (Addr×Obj)} {σ:Sc} {H:Hp} {s:Shared} {A:Around}
theorem N1{n:Nat}(ih:∀a b x y fa fb u w,WK n a b=true->Is K H a x fa->Is K H b y fb->RelV x u->RelV y w->∃r,SeqAt.EqAt A s u w r/\(r=true↔a=b)) :
  ∀{l m:List PV}{xs ys:List V}{fa fb:List Addr}{us ws:List Value},(l.zip m).all (fun z=>WK n z.1 z.2)=true->Iss K H l xs fa->Iss K H m ys fb->Vals xs us->Vals ys ws->
  ∃e:Nat->Bool,(∀j (h1:j<us.length) (h2:j<ws.length),SeqAt.EqAt A s us[j] ws[j] (e j))/\((List.range (min us.length ws.length)).all e=true↔l.take (min us.length ws.length)=m.take (min us.length ws.length))
 | [],m,xs,ys,fa,fb,us,ws,_,h,_,r,_=>by
  simp only[Iss] at h
  obtain⟨rfl,_⟩:=h
  cases r
  exact⟨fun _=>true,fun j h1=>by simp at h1,by simp⟩
 | a::l,[],xs,ys,fa,fb,us,ws,_,_,h,_,r=>by
  simp only[Iss] at h
  obtain⟨rfl,_⟩:=h
  cases r
  exact⟨fun _=>true,fun j h1 h2=>by simp at h2,by simp⟩
 | a::l,b::m,xs,ys,fa,fb,us,ws,hc,h,h',r,r'=>by
  obtain⟨x,xr,f1,f2,rfl,h1,h2,rfl⟩:=h.inv
  obtain⟨y,yr,g1,g2,rfl,h3,h4,rfl⟩:=h'.inv
  obtain⟨c1,c2⟩:=Tp hc
  cases r with
  | cons q v=>cases r' with
   | cons q' v'=>
    obtain⟨t,ht,ht'⟩:=ih a b x y f1 g1 _ _ c1 h1 h3 q q'
    obtain⟨e,he,he'⟩:=N1 ih c2 h2 h4 v v'
    refine⟨fun j=>match j with | 0=>t | k+1=>e k,fun j h1 h2=>?_,?_⟩
    ·cases j with
     | zero=>exact ht
     | succ k=>exact he k (by simpa using h1) (by simpa using h2)
    ·simp only[List.length_cons,Nat.succ_min_succ,List.range_succ_eq_map,List.all_cons,List.all_map,Bool.and_eq_true,List.take_succ_cons,List.cons.injEq]
     exact and_congr ht' he'
theorem Iss.same'{l m:List PV}{xs ys:List V}{fa fb:List Addr}{us ws:List Value}(h:Iss K H l xs fa)(h':Iss K H m ys fb)(r:Vals xs us)(r':Vals ys ws) :
  (l.take (min us.length ws.length)=m.take (min us.length ws.length)/\us.length=ws.length)↔l=m:=by
 have e1:=h.len;have e2:=h'.len;have e3:=r.length;have e4:=r'.length;constructor
 ·rintro⟨a,b⟩
  rw[List.take_of_length_le (by omega),List.take_of_length_le (by omega)] at a;exact a
 ·intro a
  subst a
  exact⟨rfl,by omega⟩
def FB(A:Around)(s:Shared)(u w:Value)(r:Bool):Prop:=SeqAt.RcAt A s u w r/\SeqAt.RcNeAt A s u w !r
theorem RW(I:Inv X pins σ H s):∀(n:Nat)(A:Around)(a b:PV)(x y:V)(fa fb:List Addr)(u w:Value),A.units+2*n+2<cLine->WK n a b=true->Is K H a x fa->Is K H b y fb->RelV x u->RelV y w->
  (∃r,SeqAt.EqAt A s u w r/\(r=true↔a=b))/\∃r,FB A s u w r/\(r=true↔a=b)
 | 0,A,a,b,x,y,fa,fb,u,w,hu,hc,_,_,_,_=>by unfold WK at hc;simp at hc
 | n+1,A,a,b,x,y,fa,fb,u,w,hu,hc,ha,hb,ru,Ym=>by
  cases a<;>cases b<;>first
   | (exfalso;revert hc;unfold WK;simp;done)
   | skip
  ·rw[ha.non_inv.1] at ru;rw[hb.non_inv.1] at Ym
   cases ru;cases Ym
   exact⟨⟨true,SeqAt.EqAt.same _,by simp⟩,true,⟨SeqAt.RcAt.none_none,SeqAt.RcNeAt.none_none⟩,by simp⟩
  ·rw[ha.bl_inv.1] at ru;rw[hb.bl_inv.1] at Ym
   cases ru;cases Ym
   exact⟨⟨_,SeqAt.EqAt.bool_bool _ _,by simp⟩,_,⟨SeqAt.RcAt.bool_bool _ _,SeqAt.RcNeAt.bool_bool _ _⟩,by simp⟩
  ·rw[ha.int_inv.1] at ru;rw[hb.int_inv.1] at Ym
   obtain⟨t,rfl⟩:=ru
   obtain⟨t',rfl⟩:=Ym
   exact⟨⟨_,SeqAt.EqAt.int_int _ _ _ _,by simp⟩,_,⟨SeqAt.RcAt.int_int _ _ _ _,SeqAt.RcNeAt.int_int _ _ _ _⟩,by simp⟩
  ·rw[ha.str_inv.1] at ru;rw[hb.str_inv.1] at Ym
   obtain⟨t,rfl⟩:=ru
   obtain⟨t',rfl⟩:=Ym
   exact⟨⟨_,SeqAt.EqAt.str_str _ _ _ _,by simp⟩,_,⟨SeqAt.RcAt.str_str _ _ _ _,SeqAt.RcNeAt.str_str _ _ _ _⟩,by simp⟩
  ·rename_i l1 l2
   obtain⟨p,xs,rfl,hp,hi⟩:=id ha.tup_inv
   obtain⟨p',ys,rfl,hp',hi'⟩:=id hb.tup_inv
   cases ru;cases Ym;have hc':=hc
   unfold WK at hc'
   obtain⟨us,rv,q,_⟩:=I.tuple (SqT.of hp)
   obtain⟨ws,rv',q',_⟩:=I.tuple (SqT.of hp')
   obtain⟨f,hf,hf'⟩:=N1 (A:=A.in1) (fun a b x y fa fb u w c i1 i2 r1 r2=>(RW I n A.in1 a b x y fa fb u w (by show A.units+1+2*n+2<cLine;omega) c i1 i2 r1 r2).1) hc' hi hi' rv rv'
   have rc:=SeqAt.RcAt.tuples (A:=A) (e:=f) (show s.heap.IsTuple p us.toArray from q) (show s.heap.IsTuple p' ws.toArray from q') (by omega) (fun j h1 h2=>hf j (by simpa using h1) (by simpa using h2))
   have rn:=SeqAt.RcNeAt.tuples (A:=A) (e:=f) (show s.heap.IsTuple p us.toArray from q) (show s.heap.IsTuple p' ws.toArray from q') (by omega) (fun j h1 h2=>hf j (by simpa using h1) (by simpa using h2))
   have key:(((List.range (min us.toArray.size ws.toArray.size)).all f&&us.toArray.size==ws.toArray.size)=true)↔PV.tup l1=PV.tup l2:=by
    simp only[List.size_toArray,Bool.and_eq_true,beq_iff_eq,PV.tup.injEq];rw[hf']
    exact Iss.same' hi hi' rv rv'
   refine⟨?_,_,⟨rc,rn⟩,key⟩
   by_cases e:p=p'
   ·subst e
    exact⟨true,SeqAt.EqAt.same _,by simp[Is.inj' (n+1) _ _ _ _ _ hc ha hb]⟩
   ·exact⟨_,SeqAt.EqAt.of_refs e rc,key⟩
  ·rename_i l1 l2
   obtain⟨p,xs,fq,rfl,hp,hi,_⟩:=id ha.lst_inv
   obtain⟨p',ys,fq',rfl,hp',hi',_⟩:=id hb.lst_inv
   cases ru;cases Ym;have hc':=hc
   unfold WK at hc'
   obtain⟨us,rv,q,_⟩:=I.list (SqL.of hp)
   obtain⟨ws,rv',q',_⟩:=I.list (SqL.of hp')
   obtain⟨f,hf,hf'⟩:=N1 (A:=A.in1) (fun a b x y fa fb u w c i1 i2 r1 r2=>(RW I n A.in1 a b x y fa fb u w (by show A.units+1+2*n+2<cLine;omega) c i1 i2 r1 r2).1) hc' hi hi' rv rv'
   have fin:∃r,FB A s (.ref p) (.ref p') r/\(r=true↔PV.lst l1=PV.lst l2):=by
    have key:=Iss.same' hi hi' rv rv'
    by_cases hsz:us.length=ws.length
    ·refine⟨_,⟨SeqAt.RcAt.lists (e:=f) q.isList q'.isList (by simpa using hsz) (by omega) (fun j h1 h2=>hf j (by simpa using h1) (by simpa using h2)),SeqAt.RcNeAt.lists (e:=f) q.isList q'.isList (by simpa using hsz) (by omega) (fun j h1 h2=>hf j (by simpa using h1) (by simpa using h2))⟩,?_⟩
     rw[hsz,Nat.min_self] at hf' key
     simp only[List.size_toArray,PV.lst.injEq];rw[hsz,hf',<-key]
     simp
    ·refine⟨false,⟨SeqAt.RcAt.lists_lengths q.isList q'.isList (by simpa using hsz) (by omega),SeqAt.RcNeAt.lists_lengths q.isList q'.isList (by simpa using hsz) (by omega)⟩,?_⟩
     rw[PV.lst.injEq,<-key];simp[hsz]
   obtain⟨r,hr,hk⟩:=fin
   refine⟨?_,r,hr,hk⟩
   by_cases e:p=p'
   ·subst e
    exact⟨true,SeqAt.EqAt.same _,by simp[Is.inj' (n+1) _ _ _ _ _ hc ha hb]⟩
   ·exact⟨r,SeqAt.EqAt.of_refs e hr.1,hk⟩
end
def EA(K:PySem.W.Frag)(neg:Bool):R2:=fun x y H Q=>∃a b fa fb,Is K H a x fa/\Is K H b y fb/\WK 8 a b=true/\∀r:Bool,(r=true↔a=b)->Q (.bl (if neg then !r else r)) H
section
variable {X:Cx}
theorem EB(hu:X.A.units+64<cLine):Uv X (compareOp .Eq) (EA X.K false):=by
 intro pins s σ H x y v u Q I rx ry h
 obtain⟨a,b,fa,fb,ha,hb,hc,q⟩:=h
 obtain⟨_,r,hr,hk⟩:=RW I 8 X.A a b x y fa fb v u (by omega) hc ha hb rx ry
 exact hr.1 X.prog X.w X.xe _ ⟨.bl r,H,I,rfl,q r hk⟩
theorem EC(hu:X.A.units+64<cLine):Uv X (compareOp .NotEq) (EA X.K true):=by
 intro pins s σ H x y v u Q I rx ry h
 obtain⟨a,b,fa,fb,ha,hb,hc,q⟩:=h
 obtain⟨_,r,hr,hk⟩:=RW I 8 X.A a b x y fa fb v u (by omega) hc ha hb rx ry
 exact hr.2 X.prog X.w X.xe _ ⟨.bl !r,H,I,rfl,q r hk⟩
end
noncomputable def V5(neg:Bool):PV->PV->Option PV:=fun a b=>if WK 8 a b=true then some (.bl (if neg then !decide (a=b) else decide (a=b))) else none
theorem JJ(neg:Bool):RB K (EA K neg) (V5 neg):=fun H x y a b l fa fb ha hb e Q k=>by
 unfold V5 at e
 split at e
 ·cases e
  refine⟨a,b,fa,fb,ha,hb,by assumption,fun r hr=>?_⟩
  have:r=decide (a=b):=by
   cases r with
   | true=>exact(decide_eq_true (hr.mp rfl)).symm
   | false=>exact(decide_eq_false fun z=>Bool.false_ne_true (hr.mpr z)).symm
  subst this
  exact k _ H [] (Same.refl H) (Is.bl _) fun p hp=>by simp at hp
 ·cases e
def ED(K:PySem.W.Frag)(neg:Bool):R2:=fun x y H Q=>∃a b m fa fb,Is K H a x fa/\Is K H b y fb/\QU b=some m/\(m.all fun z=>WK 8 z a)=true/\∀r:Bool,(r=true↔a∈m)->Q (.bl (if neg then !r else r)) H
section
variable {X:Cx} {pins:List (Addr×Obj)} {σ:Sc} {H:Hp} {s:Shared}
theorem Rl{a:PV}{x:V}{fa:List Addr}{u:Value}{A:Around}(I:Inv X pins σ H s)(hu:A.units+18<cLine)(ha:Is K H a x fa)(rx:RelV x u):∀{m:List PV}{xs:List V}{fb:List Addr}{us:List Value},(m.all fun z=>WK 8 z a)=true->Iss K H m xs fb->Vals xs us->
  ∃e:Value->Bool,(∀y∈us,SeqAt.EqAt A s y u (e y))/\(us.any e=true↔a∈m):=fun{m xs fb us} hc h r=>by
 -- each one's answer
 have each:∀y∈us,∃t:Bool,SeqAt.EqAt A s y u t/\(t=true↔∃b,b∈m/\b=a/\∃z f,Is K H b z f/\RelV z y):=fun y hy=>by
  obtain⟨j,hj,e⟩:=List.mem_iff_getElem.mp hy
  have hl:=r.length
  have hxj:xs[j]?=some xs[j]:=List.getElem?_eq_getElem (by omega)
  obtain⟨b,f,hb,ib,_⟩:=h.get' hxj
  obtain⟨w,hw,Ym⟩:=r.get hxj
  rw[List.getElem?_eq_getElem hj] at hw;cases hw;rw[e] at Ym
  have hbm:b∈m:=List.mem_of_getElem? hb
  have cb:=List.all_eq_true.mp hc b hbm
  obtain⟨⟨t,ht,hk⟩,_⟩:=RW I 8 A b a xs[j] x f fa y u (by omega) cb ib ha Ym rx
  refine⟨t,ht,hk.trans ⟨fun z=>⟨b,hbm,z,xs[j],f,ib,Ym⟩,fun⟨b',hb',e',z,f',i',r'⟩=>?_⟩⟩
  have ez:z=xs[j]:=r'.inj Ym
  subst ez;have cb':=List.all_eq_true.mp hc b' hb'
  subst e'
  exact Is.inj' 8 b b' _ _ _ cb ib i'
 classical
 refine⟨fun y=>if hy:y∈us then(each y hy).choose else false,fun y hy=>?_,?_⟩
 ·simp only[dif_pos hy];exact(each y hy).choose_spec.1
 ·rw[List.any_eq_true]
  constructor
  ·rintro⟨y,hy,e⟩
   rw[dif_pos hy] at e
   obtain⟨b,hb,rfl,_⟩:=(each y hy).choose_spec.2.mp e
   exact hb
  ·intro hm
   obtain⟨j,hj,e⟩:=List.mem_iff_getElem.mp hm
   obtain⟨z,f,hz,iz,_⟩:=h.get (List.getElem?_eq_getElem hj)
   obtain⟨y,hy,ry⟩:=r.get hz
   have hyu:y∈us:=List.mem_of_getElem? hy
   refine⟨y,hyu,?_⟩
   rw[dif_pos hyu]
   exact(each y hyu).choose_spec.2.mpr ⟨a,hm,rfl,z,f,e▸iz,ry⟩
end
section
variable {X:Cx}
theorem EE(hu:X.A.units+64<cLine):Uv X (compareOp .In) (ED X.K false):=by
 intro pins s σ H x y v u Q I rx ry h
 obtain⟨a,b,m,fa,fb,ha,hb,hm,hc,q⟩:=h
 obtain⟨p,xs,fq,rfl,hp,hi,_⟩:=Ux (K:=X.K) hb hm
 cases ry
 rcases hp with hp | hp
 ·obtain⟨us,rv,t,_⟩:=I.list hp
  obtain⟨e,he,hk⟩:=Rl (A:=X.A.in1) I (by show X.A.units+1+18<cLine;omega) ha rx hc hi rv
  refine SeqAt.in_listAt e t.isList (fun w hw=>he w (by simpa using hw)) ⟨.bl _,H,I,rfl,?_⟩
  rw[show us.toArray.any e=us.any e by simp]
  exact q _ hk
 ·obtain⟨us,rv,t,_⟩:=I.tuple hp
  obtain⟨e,he,hk⟩:=Rl (A:=X.A.in1) I (by show X.A.units+1+18<cLine;omega) ha rx hc hi rv
  refine SeqAt.in_tupleAt e t (fun w hw=>he w (by simpa using hw)) ⟨.bl _,H,I,rfl,?_⟩
  rw[show us.toArray.any e=us.any e by simp]
  exact q _ hk
theorem Kc(hu:X.A.units+64<cLine):Uv X (compareOp .NotIn) (ED X.K true):=by
 intro pins s σ H x y v u Q I rx ry h
 obtain⟨a,b,m,fa,fb,ha,hb,hm,hc,q⟩:=h
 obtain⟨p,xs,fq,rfl,hp,hi,_⟩:=Ux (K:=X.K) hb hm
 cases ry
 rcases hp with hp | hp
 ·obtain⟨us,rv,t,_⟩:=I.list hp
  obtain⟨e,he,hk⟩:=Rl (A:=X.A.in1) I (by show X.A.units+1+18<cLine;omega) ha rx hc hi rv
  refine SeqAt.notIn_listAt e t.isList (fun w hw=>he w (by simpa using hw)) ⟨.bl _,H,I,rfl,?_⟩
  rw[show us.toArray.any e=us.any e by simp]
  exact q _ hk
 ·obtain⟨us,rv,t,_⟩:=I.tuple hp
  obtain⟨e,he,hk⟩:=Rl (A:=X.A.in1) I (by show X.A.units+1+18<cLine;omega) ha rx hc hi rv
  refine SeqAt.notIn_tupleAt e t (fun w hw=>he w (by simpa using hw)) ⟨.bl _,H,I,rfl,?_⟩
  rw[show us.toArray.any e=us.any e by simp]
  exact q _ hk
end
noncomputable def Lj(neg:Bool):PV->PV->Option PV:=fun a b=>(QU b).bind fun m=>if(m.all fun z=>WK 8 z a)=true then some (.bl (if neg then !decide (a∈m) else decide (a∈m))) else none
theorem JK(neg:Bool):RB K (ED K neg) (Lj neg):=fun H x y a b l fa fb ha hb e Q k=>by
 obtain⟨m,hm,e⟩:=Zg e
 split at e
 ·cases e
  refine⟨a,b,m,fa,fb,ha,hb,hm,by assumption,fun r hr=>?_⟩
  have:r=decide (a∈m):=by
   cases r with
   | true=>exact(decide_eq_true (hr.mp rfl)).symm
   | false=>exact(decide_eq_false fun z=>Bool.false_ne_true (hr.mpr z)).symm
  subst this
  exact k _ H [] (Same.refl H) (Is.bl _) fun p hp=>by simp at hp
 ·cases e
end VL
namespace VL
open PySem PySem.Spec PyProof.Rows L2
variable {K:PySem.W.Frag}
mutual
theorem Is.dom{H:Hp}:∀(l:PV)(v:V)(fp:List Addr),Is K H l v fp->∀p∈fp,H p≠none
 | .non,_,_,h=>by simp only[Is] at h;rw[h.2];simp
 | .bl _,_,_,h=>by simp only[Is] at h;rw[h.2];simp
 | .int _,_,_,h=>by simp only[Is] at h;rw[h.2];simp
 | .str _,_,_,h=>by simp only[Is] at h;rw[h.2];simp
 | .ty _,_,_,h=>by simp only[Is] at h;rw[h.2];simp
 | .exc _,_,_,h=>by simp only[Is] at h;rw[h.2];simp
 | .tup l,v,fp,h=>by
  obtain⟨p,xs,_,_,hi⟩:=h.tup_inv
  exact Iss.dom l xs fp hi
 | .lst l,v,fp,h=>by
  obtain⟨p,xs,fq,_,hp,hi,rfl⟩:=h.lst_inv
  intro q hq
  rcases List.mem_cons.mp hq with rfl | hq
  ·rw[hp];simp
  ·exact Iss.dom l xs fq hi q hq
 | .cst l,v,fp,h=>by
  obtain⟨p,xs,_,_,hi⟩:=h.cst_inv
  exact Iss.dom l xs fp hi
 | .dK ks l,v,fp,h=>by
  obtain⟨p,kvs,fq,_,hp,_,hi,rfl⟩:=h.dK_inv
  intro q hq
  rcases List.mem_cons.mp hq with rfl | hq
  ·rcases hp with e | ⟨o,e⟩<;>rw[e]<;>simp
  ·exact Iss.dom l _ fq hi q hq
 | .dT ks l,v,fp,h=>by
  obtain⟨p,kvs,fq,_,hp,_,hi,rfl⟩:=h.dT_inv
  intro q hq
  rcases List.mem_cons.mp hq with rfl | hq
  ·rcases hp with e | ⟨o,e⟩<;>rw[e]<;>simp
  ·exact Iss.dom l _ fq hi q hq
theorem Iss.dom{H:Hp}:∀(l:List PV)(xs:List V)(fp:List Addr),Iss K H l xs fp->∀p∈fp,H p≠none
 | [],_,_,h=>by simp only[Iss] at h;rw[h.2];simp
 | l::ls,xs,fp,h=>by
  obtain⟨x,r,f1,f2,_,h1,h2,rfl⟩:=h.inv
  intro q hq
  rcases List.mem_append.mp hq with hq | hq
  ·exact Is.dom l x f1 h1 q hq
  ·exact Iss.dom ls r f2 h2 q hq
end
def Ab(Rm:Addr->Prop)(H H':Hp):Prop:=∀b o,H b=some o->¬Rm b->H' b=some o
theorem Same.ab{Rm:Addr->Prop}{H H':Hp}(s:Same H H'):Ab Rm H H':=fun b o h _=>s b o h
theorem Ab.tk{Rm:Addr->Prop}{H H':Hp}(a:Ab Rm H H')(hd:∀p,Rm p->WY (H p)):TK2 H H':=⟨fun b xs h=>a b _ h fun z=>by
 have:=hd b z
 rw[h] at this;exact this,fun b o xs h=>a b _ h fun z=>by
 have:=hd b z
 rw[h] at this;exact this,fun b o x h=>a b _ h fun z=>by
 have:=hd b z
 rw[h] at this;exact this⟩
theorem Is.ab{Rm:Addr->Prop}{H H':Hp}(a:Ab Rm H H')(hd:∀p,Rm p->WY (H p)){l:PV}{v:V}{fp:List Addr}(n:∀p∈fp,¬Rm p)(h:Is K H l v fp):Is K H' l v fp:=
 Is.tr (a.tk hd) l v fp (fun p hp=>RdK.of fun o q=>a p o q (n p hp)) h
structure DP(K:PySem.W.Frag)(Rm:Addr->Prop)(H1:Hp)(J:It)(ls:List PV):Prop where
 stop:∀H',Ab Rm H1 H'->J.stop ls.length H'
 go:∀H' (i:Nat) l,Ab Rm H1 H'->ls[i]?=some l->J.go i H'
 yld:∀H' (i:Nat) l x H'',Ab Rm H1 H'->ls[i]?=some l->J.yld i H' x H''->Same H' H''/\∃fp,Is K H'' l x fp/\∀p∈fp,H1 p≠none/\¬Rm p
abbrev XL:=ZU->Option (List PV)
def iF(K:PySem.W.Frag)(f:XL):TI:=fun σ H R=>∃(Rm:Addr->Prop) (s:ZU) (ls:List PV),(∀p,Rm p->WY (H p))/\EnvIs K Rm H s σ/\f s=some ls/\∀J H1,Same H H1->DP K Rm H1 J ls->R J H1
def VI(X:Cx)(tg e:Expr)(f:XL):Prop:=PI X tg e (iF X.K f)
section
variable {X:Cx} {tg e:Expr} {es:List Expr}
theorem PI.imp{t t':TI}(h:PI X tg e t)(i:∀σ H R,t' σ H R->t σ H R):PI X tg e t':=fun pins s σ H R I q=>h pins s σ H R I (i σ H R q)
def E4:PV->Option (List PV)
 | .lst m=>some m
 | .cst m=>some m
 | _=>none
def Wo(f:XE):XL:=fun s=>(f s).bind E4
def UZ(f:XE):XL:=fun s=>match f s with | some (.tup m)=>some m | _=>none
theorem JL{a:PV}{m:List PV}(h:E4 a=some m):a = .lst m\/a = .cst m:=by
 unfold E4 at h;split at h
 ·cases h;exact .inl rfl
 ·cases h;exact .inr rfl
 ·cases h
theorem Kd{f:XE}{s:ZU}{m:List PV}(h:UZ f s=some m):f s=some (.tup m):=by
 unfold UZ at h;split at h
 ·cases h;assumption
 ·cases h
theorem W7{f:XE}(h:VE X e f):VI X tg e (Wo f):=PI.imp (HB h) fun σ H R ⟨Rm,s,ls,hd,env,e,k⟩=>by
 obtain⟨l,e1,e2⟩:=Zg e
 refine⟨Rm,s,l,hd,env,e1,fun v H1 fp s1 i1 n1=>?_⟩
 have hd1:∀p,Rm p->WY (H1 p):=fun p hp=>Same.mut s1 (hd p hp)
 have main:∀a xs fq,v = .ref a->SqL X.K H1 a xs->(∀H',Ab Rm H1 H'->SqL X.K H' a xs)->Iss X.K H1 ls xs fq->(∀p∈fq,p∈fp)->∃a,v = .ref a/\(∃xs,SqL X.K H1 a xs)/\R (Cl X.K a) H1:=by
  rintro a xs fq rfl ha keep hi sub
  refine⟨a,rfl,⟨xs,ha⟩,k _ H1 s1 ⟨fun H' ab=>⟨xs,keep H' ab,by rw[hi.len];exact Nat.le_refl _⟩,fun H' i l ab hl=>?_,fun H' i l x H'' ab hl y=>?_⟩⟩
  ·obtain⟨x,f1,hx,_,_⟩:=hi.get hl
   exact⟨xs,x,keep H' ab,hx⟩
  ·obtain⟨rfl,y⟩:=y
   obtain⟨x',f1,hx,ix,sub'⟩:=hi.get hl
   have:=y xs (keep _ ab)
   rw[hx] at this;cases this
   have n1':∀p∈f1,¬Rm p:=fun p hp=>n1 p (sub p (sub' p hp))
   exact⟨Same.refl _,f1,ix.ab ab hd1 n1',fun p hp=>⟨Is.dom _ _ _ ix p hp,n1' p hp⟩⟩
 rcases JL e2 with rfl | rfl
 ·obtain⟨a,xs,fq,rfl,ha,hi,rfl⟩:=i1.lst_inv
  exact main a xs fq rfl (SqL.of ha) (fun H' ab=>SqL.of (ab a _ ha (n1 a List.mem_cons_self))) hi fun p hp=>List.mem_cons_of_mem _ hp
 ·obtain⟨a,xs,rfl,ha,hi⟩:=i1.cst_inv
  exact main a xs fp rfl ha.sq (fun H' ab=>(ha.tr (ab.tk hd1)).sq) hi fun p hp=>hp
theorem N2{f:XE}(h:VE X e f):VI X tg e (UZ f):=PI.imp (F3 h) fun σ H R ⟨Rm,s,ls,hd,env,e,k⟩=>by
 refine⟨Rm,s,.tup ls,hd,env,Kd e,fun v H1 fp s1 i1 n1=>?_⟩
 obtain⟨a,xs,rfl,ha,hi⟩:=i1.tup_inv
 have hd1:∀p,Rm p->WY (H1 p):=fun p hp=>Same.mut s1 (hd p hp)
 have keep:∀H',Ab Rm H1 H'->SqT X.K H' a xs:=fun H' ab=>SqT.of ((ab.tk hd1).tup a xs ha)
 refine⟨a,rfl,⟨xs,SqT.of ha⟩,k _ H1 s1 ⟨fun H' ab=>⟨xs,keep H' ab,by rw[hi.len];exact Nat.le_refl _⟩,fun H' i l ab hl=>?_,fun H' i l x H'' ab hl y=>?_⟩⟩
 ·obtain⟨x,f1,hx,_,_⟩:=hi.get hl
  exact⟨xs,x,keep H' ab,hx⟩
 ·obtain⟨rfl,y⟩:=y
  obtain⟨x',f1,hx,ix,sub⟩:=hi.get hl
  have:=y xs (keep _ ab)
  rw[hx] at this;cases this
  have n1':∀p∈f1,¬Rm p:=fun p hp=>n1 p (sub p hp)
  exact⟨Same.refl _,f1,ix.ab ab hd1 n1',fun p hp=>⟨Is.dom _ _ _ ix p hp,n1' p hp⟩⟩
def V6(n:Nat):List PV:=(List.range n).map fun(i:Nat)=>PV.int (i:Int)
def W3(lo:Int)(n:Nat):List PV:=(List.range n).map fun(i:Nat)=>PV.int (lo+(i:Int))
def ZT(fs:List XE):XL:=fun s=>match Sg fs s with | some [.int j]=>if -1000000<=j/\j<=1000000 then some (V6 j.toNat) else none | _=>none
def W8(fs:List XE):XL:=fun s=>match Sg fs s with | some [.int i,.int j]=>if -1000000<=i/\i<=1000000/\-1000000<=j/\j<=1000000 then some (W3 i (j-i).toNat) else none | _=>none
theorem Lk{Rm:Addr->Prop}{H1:Hp}(lo:Int)(n:Nat):DP K Rm H1 (Dh lo n) (W3 lo n):=by
 refine⟨fun H' _=>by unfold W3;rw[List.length_map,List.length_range];exact Nat.le_refl n,fun H' i l _ hl=>?_,fun H' i l x H'' _ hl y=>?_⟩
 ·have:=(List.getElem?_eq_some_iff.mp hl).1
  unfold W3 at this;rw[List.length_map,List.length_range] at this;exact this
 ·obtain⟨rfl,rfl⟩:=y
  have hi:=(List.getElem?_eq_some_iff.mp hl).1
  unfold W3 at hi hl;rw[List.length_map,List.length_range] at hi;rw[List.getElem?_map,List.getElem?_range hi] at hl;cases hl
  exact⟨Same.refl _,[],Is.int _,fun p hp=>by simp at hp⟩
theorem Gk(n:Nat):V6 n=W3 0 n:=by
 unfold V6 W3
 apply List.map_congr_left
 intro i _;rw[Int.zero_add]
theorem Yl{a:Expr}{fs:List XE}{p pos:Pos}(hg:Gl X "range")(hm:X.mg "range" = none)(ha:VA X [a] fs)(hs:starEach [a] X.env=[(false,eval a X.env)]:=by rfl):VI X tg (.Call (.Name "range" p) [a] [] pos) (ZT fs):=
 PI.imp (LY hg hm ha hs) fun σ H R ⟨Rm,s,ls,hd,env,e,k⟩=>by
 unfold ZT at e
 split at e
 ·split at e
  ·cases e
   rename_i j he hb
   refine⟨Rm,s,_,hd,env,he,fun vs H1 fp s1 i1 _=>?_⟩
   obtain⟨v,rfl,i⟩:=i1.one_inv
   refine⟨j,by rw[i.int_inv.1],by omega,by omega,k _ H1 s1 ?_⟩
   rw[Gk];exact Lk _ _
  ·cases e
 ·cases e
theorem Si{a b:Expr}{fs:List XE}{p pos:Pos}(hg:Gl X "range")(hm:X.mg "range" = none)(ha:VA X [a,b] fs)(hs:starEach [a,b] X.env=[(false,eval a X.env),(false,eval b X.env)]:=by rfl)(hs2:starEach [b] X.env=[(false,eval b X.env)]:=by rfl):VI X tg (.Call (.Name "range" p) [a,b] [] pos) (W8 fs):=
 PI.imp (LZ hg hm ha hs hs2) fun σ H R ⟨Rm,s,ls,hd,env,e,k⟩=>by
 unfold W8 at e
 split at e
 ·split at e
  ·cases e
   rename_i i j he hb
   refine⟨Rm,s,_,hd,env,he,fun vs H1 fp s1 i1 _=>?_⟩
   obtain⟨v,w,f1,f2,rfl,iv,iw,_⟩:=i1.two_inv
   exact⟨i,j,by rw[iv.int_inv.1,iw.int_inv.1],⟨by omega,by omega,by omega,by omega⟩,k _ H1 s1 (Lk _ _)⟩
  ·cases e
 ·cases e
def W9(m:List PV):List PV:=m.zipIdx.map fun z=>.tup [.int (z.2:Nat),z.1]
def Te(m n:List PV):List PV:=(m.zip n).map fun z=>.tup [z.1,z.2]
theorem Pe{m:List PV}{i:Nat}{l:PV}(h:(W9 m)[i]?=some l):∃a,m[i]?=some a/\l = .tup [.int (i:Nat),a]:=by
 unfold W9 at h;rw[List.getElem?_map,List.getElem?_zipIdx] at h
 cases q:m[i]? with
 | none=>rw[q] at h;cases h
 | some a=>rw[q] at h;cases h;exact⟨a,rfl,by simp⟩
theorem Uy(m:List PV):(W9 m).length=m.length:=by unfold W9;rw[List.length_map,List.length_zipIdx]
theorem O0{m n:List PV}{i:Nat}{l:PV}(h:(Te m n)[i]?=some l):∃a b,m[i]?=some a/\n[i]?=some b/\l = .tup [a,b]:=by
 unfold Te at h;rw[List.getElem?_map] at h
 cases q:(m.zip n)[i]? with
 | none=>rw[q] at h;cases h
 | some z=>
  rw[q] at h;cases h
  obtain⟨q1,q2⟩:=List.getElem?_zip_eq_some.mp q
  exact⟨z.1,z.2,q1,q2,rfl⟩
theorem O1(m n:List PV):(Te m n).length=min m.length n.length:=by unfold Te;rw[List.length_map,List.length_zip]
def seqB:Bool->PV->Option (List PV)
 | true,.lst l=>some l
 | true,.cst l=>some l
 | false,.tup l=>some l
 | _,_=>none
theorem P4{H:Hp}{b:Bool}{l:PV}{v:V}{fp:List Addr}{m:List PV}(h:Is K H l v fp)(e:seqB b l=some m):∃p xs fq,v = .ref p/\Iss K H m xs fq/\(∀q∈fq,q∈fp)/\∀(Rm:Addr->Prop) H',Ab Rm H H'->(∀p,Rm p->WY (H p))->(∀p∈fp,¬Rm p)->Q7 b K H' p xs:=by
 cases b with
 | true=>cases l with
  | lst l=>
   cases e
   obtain⟨p,xs,fq,rfl,hp,hi,rfl⟩:=h.lst_inv
   exact⟨p,xs,fq,rfl,hi,fun q hq=>List.mem_cons_of_mem _ hq,fun Rm H' ab _ n=>SqL.of (ab p _ hp (n p List.mem_cons_self))⟩
  | cst l=>
   cases e
   obtain⟨p,xs,rfl,hp,hi⟩:=h.cst_inv
   exact⟨p,xs,fp,rfl,hi,fun q hq=>hq,fun Rm H' ab hd _=>(hp.tr (ab.tk hd)).sq⟩
  | _=>cases e
 | false=>cases l with
  | tup l=>
   cases e
   obtain⟨p,xs,rfl,hp,hi⟩:=h.tup_inv
   exact⟨p,xs,fp,rfl,hi,fun q hq=>hq,fun Rm H' ab hd _=>SqT.of ((ab.tk hd).tup p xs hp)⟩
  | _=>cases e
def Xj(b:Bool)(fs:List XE):XL:=fun s=>match Sg fs s with | some [l]=>(seqB b l).map W9 | _=>none
def U0(b1 b2:Bool)(fs:List XE):XL:=fun s=>match Sg fs s with | some [l,r]=>(seqB b1 l).bind fun m=>(seqB b2 r).map fun n=>Te m n | _=>none
theorem VF{elts:List Expr}{k:Nat}{tpos:Pos}(b:Bool){a:Expr}{fs:List XE}{p pos:Pos}(hg:Gl X "enumerate")(hm:X.mg "enumerate" = none)(ha:VA X [a] fs)(hs:starEach [a] X.env=[(false,eval a X.env)]:=by rfl) :
  VI X (.Tuple elts k tpos) (.Call (.Name "enumerate" p) [a] [] pos) (Xj b fs):=PI.imp (HX b hg hm ha hs) fun σ H R ⟨Rm,s,ls,hd,env,e,k⟩=>by
 unfold Xj at e
 split at e
 ·rename_i l he
  obtain⟨m,e1,rfl⟩:=map_some e
  refine⟨Rm,s,_,hd,env,he,fun vs H1 fp s1 i1 n1=>?_⟩
  obtain⟨v,rfl,i⟩:=i1.one_inv
  have hd1:∀p,Rm p->WY (H1 p):=fun p hp=>Same.mut s1 (hd p hp)
  obtain⟨a,xs,fq,rfl,hi,sub,keep⟩:=P4 (K:=X.K) i e1
  have kp:=fun H' ab=>keep Rm H' ab hd1 n1
  refine⟨a,rfl,⟨xs,kp H1 (Same.ab (Same.refl H1))⟩,k _ H1 s1 ⟨fun H' ab=>⟨xs,kp H' ab,by rw[Uy,hi.len]⟩,fun H' i l ab hl=>?_,fun H' i l x H'' ab hl y=>?_⟩⟩
  ·obtain⟨c,hc,rfl⟩:=Pe hl
   obtain⟨x,f1,hx,_,_⟩:=hi.get hc
   exact⟨xs,x,kp H' ab,hx⟩
  ·obtain⟨c,hc,rfl⟩:=Pe hl
   obtain⟨x',f1,hx,ix,sb⟩:=hi.get hc
   obtain⟨q,z,hq,rfl,rfl,y⟩:=y
   have:=y xs (kp _ ab)
   rw[hx] at this;cases this
   have n1':∀p∈f1,¬Rm p:=fun p hp=>n1 p (sub p (sb p hp))
   refine⟨Same.new hq _,f1,Is.tup upd_same ?_,fun p hp=>⟨Is.dom _ _ _ ix p hp,n1' p hp⟩⟩
   exact Iss.cons (f1:=[]) (Is.int _) (Iss.one ((ix.ab ab hd1 n1').mono (Same.new hq _)))
 ·cases e
theorem P5{elts:List Expr}{k:Nat}{tpos:Pos}(b1 b2:Bool){a b:Expr}{fs:List XE}{p pos:Pos}(hg:Gl X "zip")(hm:X.mg "zip" = none)(ha:VA X [a,b] fs)
  (hs:starEach [a,b] X.env=[(false,eval a X.env),(false,eval b X.env)]:=by rfl) (hs2:starEach [b] X.env=[(false,eval b X.env)]:=by rfl) :
  VI X (.Tuple elts k tpos) (.Call (.Name "zip" p) [a,b] [] pos) (U0 b1 b2 fs):=PI.imp (Ep b1 b2 hg hm ha hs hs2) fun σ H R ⟨Rm,s,ls,hd,env,e,k⟩=>by
 unfold U0 at e
 split at e
 ·rename_i l r he
  obtain⟨m,e1,e⟩:=Zg e
  obtain⟨n,e2,rfl⟩:=map_some e
  refine⟨Rm,s,_,hd,env,he,fun vs H1 fp s1 i1 n1=>?_⟩
  obtain⟨v,w,g1,g2,rfl,iv,iw,rfl⟩:=i1.two_inv
  have hd1:∀p,Rm p->WY (H1 p):=fun p hp=>Same.mut s1 (hd p hp)
  have ng1:∀p∈g1,¬Rm p:=fun p hp=>n1 p (List.mem_append_left _ hp)
  have ng2:∀p∈g2,¬Rm p:=fun p hp=>n1 p (List.mem_append_right _ hp)
  obtain⟨a1,xs,fq,rfl,hi,sub,keep⟩:=P4 (K:=X.K) iv e1
  obtain⟨a2,ys,fr,rfl,hj,sub2,keep2⟩:=P4 (K:=X.K) iw e2
  have kp:=fun H' ab=>keep Rm H' ab hd1 ng1
  have kp2:=fun H' ab=>keep2 Rm H' ab hd1 ng2
  refine⟨a1,a2,rfl,⟨xs,kp H1 (Same.ab (Same.refl H1))⟩,⟨ys,kp2 H1 (Same.ab (Same.refl H1))⟩,k _ H1 s1 ⟨fun H' ab=>⟨xs,ys,kp H' ab,kp2 H' ab,?_⟩,fun H' i l ab hl=>?_,fun H' i l x H'' ab hl y=>?_⟩⟩
  ·rw[O1,hi.len,hj.len]
   omega
  ·obtain⟨c,d,hc,hd',rfl⟩:=O0 hl
   obtain⟨x,f1,hx,_,_⟩:=hi.get hc
   obtain⟨y,f2,hy,_,_⟩:=hj.get hd'
   exact⟨xs,ys,x,y,kp H' ab,kp2 H' ab,hx,hy⟩
  ·obtain⟨c,d,hc,hd',rfl⟩:=O0 hl
   obtain⟨x',f1,hx,ix,sb⟩:=hi.get hc
   obtain⟨y',f2,hy,iy,sb2⟩:=hj.get hd'
   obtain⟨q,z,z',hq,rfl,rfl,y1,y2⟩:=y
   have:=y1 xs (kp _ ab)
   rw[hx] at this;cases this
   have:=y2 ys (kp2 _ ab)
   rw[hy] at this;cases this
   have n1':∀p∈f1,¬Rm p:=fun p hp=>ng1 p (sub p (sb p hp))
   have n2':∀p∈f2,¬Rm p:=fun p hp=>ng2 p (sub2 p (sb2 p hp))
   refine⟨Same.new hq _,f1++f2,Is.tup upd_same ?_,fun p hp=>?_⟩
   ·exact Iss.cons ((ix.ab ab hd1 n1').mono (Same.new hq _)) (Iss.one ((iy.ab ab hd1 n2').mono (Same.new hq _)))
   ·rcases List.mem_append.mp hp with hp | hp
    ·exact⟨Is.dom _ _ _ ix p hp,n1' p hp⟩
    ·exact⟨Is.dom _ _ _ iy p hp,n2' p hp⟩
 ·cases e
end
inductive Tgt where
 | one (i:Nat) | many (is:List Nat)
def Tgt.slots:Tgt->List Nat
 | .one i=>[i]
 | .many is=>is
def setAll:List Nat->List PV->ZU->ZU
 | i::is,l::ls,s=>setAll is ls (s.set i (some l))
 | _,_,s=>s
def Xm:List Nat->List V->Sc->Sc
 | i::is,l::ls,s=>Xm is ls (s.set i (some l))
 | _,_,s=>s
def Va:Tgt->PV->ZU->Option ZU
 | .one i,l,s=>some (s.set i (some l))
 | .many is,.tup ls,s=>if ls.length=is.length then some (setAll is ls s) else none
 | _,_,_=>none
def N3:List Nat->Fk
 | []=>De
 | i::is=>Fl (SM i) (N3 is)
def gT(K:PySem.W.Frag):Tgt->TG
 | .one i=>SM i
 | .many is=>Dg K is.length (N3 is)
theorem RX:∀{is:List Nat}{vs:List V}{σ:Sc}{H:Hp}{Q:Sc->Hp->Prop},vs.length=is.length->Q (Xm is vs σ) H->N3 is vs σ H Q
 | [],[],_,_,_,_,q=>⟨rfl,q⟩
 | [],_::_,_,_,_,h,_=>by simp at h
 | _::_,[],_,_,_,h,_=>by simp at h
 | i::is,v::vs,σ,H,Q,h,q=>⟨v,vs,rfl,RX (is:=is) (vs:=vs) (by simpa using h) q⟩
theorem N4{T:Tgt}{l:PV}{v:V}{fp:List Addr}{s s':ZU}{H:Hp}(h:Is K H l v fp)(e:Va T l s=some s') :
  ∃ls vs fs,s'=setAll T.slots ls s/\Iss K H ls vs fs/\ls.length=T.slots.length/\(∀p∈fs,p∈fp)/\∀σ (Q:Sc->Hp->Prop),Q (Xm T.slots vs σ) H->gT K T v σ H Q:=by
 cases T with
 | one i=>
  cases e
  exact⟨[l],[v],fp,rfl,Iss.one h,rfl,fun p hp=>hp,fun σ Q q=>q⟩
 | many is=>
  cases l with
  | tup ls=>
   have e:(if ls.length=is.length then some (VL.setAll is ls s) else none)=some s':=e
   split at e
   ·cases e
    obtain⟨p,xs,rfl,hp,hi⟩:=h.tup_inv
    exact⟨ls,xs,fp,rfl,hi,by assumption,fun p hp=>hp,fun σ Q q=>⟨p,xs,rfl,SqT.of hp,by rw[hi.len];assumption,RX (by rw[hi.len];assumption) q⟩⟩
   ·cases e
  | _=>cases e
theorem VG:∀{is:List Nat}{vs:List V}{σ:Sc}{n:Nat},(∀i∈is,i<n)->(Xm is vs σ).drop n=σ.drop n
 | [],_,_,_,_=>rfl
 | _::_,[],_,_,_=>rfl
 | i::is,v::vs,σ,n,h=>by
  show(Xm is vs (σ.set i (some v))).drop n=_
  rw[VG (fun j hj=>h j (List.mem_cons_of_mem _ hj))]
  have:=h i List.mem_cons_self
  rw[List.drop_set,if_pos this]
theorem EnvIs.set{Rm:Addr->Prop}{H:Hp}{s:ZU}{σ:Sc}{i:Nat}{l:PV}{v:V}{fp:List Addr}(h:EnvIs K Rm H s σ)(hl:s.length=σ.length)(hi:Is K H l v fp)(n:∀p∈fp,¬Rm p):EnvIs K Rm H (s.set i (some l)) (σ.set i (some v)):=⟨fun j a e=>by
 rw[List.getElem?_set] at e
 by_cases hj:i=j
 ·subst hj
  rw[if_pos rfl] at e
  split at e
  ·cases e
   exact⟨v,fp,by rw[List.getElem?_set,if_pos rfl,if_pos (by omega)],hi,n⟩
  ·cases e
 ·rw[if_neg hj] at e
  obtain⟨w,f,h1,h2,h3⟩:=h.is j a e
  exact⟨w,f,by rw[List.getElem?_set,if_neg hj];exact h1,h2,h3⟩⟩
theorem EnvIs.setAll{Rm:Addr->Prop}{H:Hp}:∀{is:List Nat}{ls:List PV}{vs:List V}{fs:List Addr}{s:ZU}{σ:Sc},EnvIs K Rm H s σ->s.length=σ.length->Iss K H ls vs fs->(∀p∈fs,¬Rm p)->EnvIs K Rm H (VL.setAll is ls s) (Xm is vs σ)
 | [],_,_,_,_,_,h,_,_,_=>by unfold VL.setAll Xm;exact h
 | i::is,[],vs,fs,s,σ,h,_,hi,_=>by
  simp only[Iss] at hi;rw[hi.1];exact h
 | i::is,l::ls,vs,fs,s,σ,h,hl,hi,n=>by
  obtain⟨x,r,f1,f2,rfl,h1,h2,rfl⟩:=hi.inv
  show EnvIs K Rm H (VL.setAll is ls (s.set i (some l))) (Xm is r (σ.set i (some x)))
  exact EnvIs.setAll (h.set hl h1 fun p hp=>n p (List.mem_append_left _ hp)) (by rw[List.length_set,List.length_set];exact hl) h2 fun p hp=>n p (List.mem_append_right _ hp)
def Yc(n:Nat)(ix:List Nat)(s:ZU):ZU:=List.replicate n none++ix.map (fun i=>(s[i]?).join)
def WL(T:Tgt)(ft:XT)(fe:XE)(s0:ZU):List PV->Option (List PV)
 | []=>some []
 | l::r=>(Va T l s0).bind fun s1=>(ft s1).bind fun c=>if c=true then(fe s1).bind fun y=>(WL T ft fe s0 r).map (y::·) else WL T ft fe s0 r
def Zy(n:Nat)(ix:List Nat)(fi:XL)(T:Tgt)(ft:XT)(fe:XE):XE:=fun s=>(fi s).bind fun ls=>if ls.length<=10000 then(WL T ft fe (Yc n ix s) ls).map .lst else none
def ZE:XT:=fun _=>some true
theorem join_some{α:Type}{o:Option (Option α)}{a:α}(h:o.join=some a):o=some (some a):=by
 cases o with
 | none=>cases h
 | some b=>cases b with
  | none=>cases h
  | some c=>cases h;rfl
theorem EnvIs.comp{Rm:Addr->Prop}{H:Hp}{s:ZU}{σ:Sc}{n:Nat}{ix:List Nat}(h:EnvIs K Rm H s σ):EnvIs K Rm H (Yc n ix s) (YE n ix σ):=⟨fun i l e=>by
 unfold Yc at e;unfold YE
 by_cases hi:i<n
 ·rw[List.getElem?_append_left (by simpa using hi),List.getElem?_replicate,if_pos hi] at e
  cases e
 ·rw[List.getElem?_append_right (by simpa using hi),List.length_replicate,List.getElem?_map] at e
  rw[List.getElem?_append_right (by simpa using hi),List.length_replicate,List.getElem?_map]
  cases q:ix[i-n]? with
  | none=>rw[q] at e;cases e
  | some j=>
   rw[q] at e
   have e:=join_some (Option.some.inj e)
   obtain⟨v,fp,a,b,c⟩:=h.is j l e
   exact⟨v,fp,by show some ((σ[j]?).join)=_;rw[a];rfl,b,c⟩⟩
theorem O2(n:Nat)(ix:List Nat)(s:ZU)(σ:Sc):(Yc n ix s).length=(YE n ix σ).length:=by unfold Yc YE;simp
theorem RY{T:Tgt}{ft:XT}{fe:XE}{s0:ZU}{l:PV}{r ys:List PV}(h:WL T ft fe s0 (l::r)=some ys):∃s1 c,Va T l s0=some s1/\ft s1=some c/\((c=true/\∃y zs,fe s1=some y/\WL T ft fe s0 r=some zs/\ys=y::zs)\/(c=false/\WL T ft fe s0 r=some ys)):=by
 unfold WL at h
 obtain⟨s1,e1,h⟩:=Zg h
 obtain⟨c,e2,h⟩:=Zg h
 refine⟨s1,c,e1,e2,?_⟩
 cases c with
 | true=>
  rw[if_pos rfl] at h
  obtain⟨y,e3,h⟩:=Zg h
  obtain⟨zs,e4,rfl⟩:=map_some h
  exact .inl ⟨rfl,y,zs,e3,e4,rfl⟩
 | false=>
  rw[if_neg Bool.false_ne_true] at h
  exact .inr ⟨rfl,h⟩
theorem RZ{α:Type}{l:List α}{i:Nat}{a:α}{r:List α}(h:l.drop i=a::r):l[i]?=some a/\l.drop (i+1)=r:=by
 constructor
 ·have:=congrArg (fun z=>z[0]?) h
  simpa [List.getElem?_drop] using this
 ·rw[<-List.drop_drop,h];rfl
section
variable {n:Nat} {ix:List Nat} {fi:XL} {T:Tgt} {ft:XT} {fe:XE}
theorem Ll(hT:∀i∈T.slots,i<n):∀σ H Q,tF K (Zy n ix fi T ft fe) σ H Q->RL n ix (iF K fi) (gT K T) (OG K ft) (tF K fe) σ H Q:=fun σ H Q ⟨Rm,s,L,hd,env,e,k⟩=>by
 obtain⟨ls,e1,e⟩:=Zg e
 split at e
 case isFalse=>cases e
 rename_i hlen
 obtain⟨ys,e2,rfl⟩:=map_some e
 refine⟨Rm,s,ls,hd,env,e1,fun J H1 s1 jis=>?_⟩
 have hd1:∀p,Rm p->WY (H1 p):=fun p hp=>Same.mut s1 (hd p hp)
 refine⟨fun i m vs Hc=>m=ls.length-i/\i<=ls.length/\Same H1 Hc/\∃dn YJ fp,ys=dn++YJ/\dn.length<=i/\WL T ft fe (Yc n ix s) (ls.drop i)=some YJ/\Iss K Hc dn vs fp/\∀p∈fp,¬Rm p,
  ⟨ls.length,by simp,Nat.zero_le _,Same.refl H1,[],ys,[],rfl,Nat.le_refl _,e2,Iss.nil,fun p hp=>by simp at hp⟩,?_⟩
 rintro i m vs Hc ⟨rfl,hi,sc,dn,YJ,fp,rfl,hdl,ec,iv,nv⟩
 refine⟨by rw[iv.len];exact Nat.le_of_lt (lt_size (by omega)),?_⟩
 cases q:ls.drop i with
 | nil=>
  have hil:i=ls.length:=by
   have:=congrArg List.length q
   rw[List.length_drop] at this
   simp at this;omega
  subst hil;rw[q] at ec;cases ec
  refine .inl ⟨jis.stop Hc (Same.ab sc),fun p hp=>k _ _ (p::fp) (s1.trans (sc.trans (Same.new hp _))) ?_ fun a ha z=>?_⟩
  ·rw[List.append_nil]
   exact Is.lst upd_same (iv.mono (Same.new hp _))
  ·rcases List.mem_cons.mp ha with rfl | ha
   ·exact Xx (Same.mut (s1.trans sc) (hd a z)) hp
   ·exact nv a ha z
 | cons l r=>
  obtain⟨hl,hr⟩:=RZ q
  have hilt:i<ls.length:=(List.getElem?_eq_some_iff.mp hl).1
  rw[q] at ec
  obtain⟨sb,c,eb,et,alt⟩:=RY ec
  refine .inr ⟨jis.go Hc i l (Same.ab sc) hl,fun vs' H'=>Same H1 H'/\∃dn' rest' fp',dn++YJ=dn'++rest'/\dn'.length<=i+1/\WL T ft fe (Yc n ix s) (ls.drop (i+1))=some rest'/\Iss K H' dn' vs' fp'/\∀p∈fp',¬Rm p,
   fun vs' H' h'=>⟨ls.length-(i+1),by omega,rfl,hilt,h'.1,h'.2⟩,fun x H2 y=>?_⟩
  obtain⟨s2,fx,ix',nx⟩:=jis.yld Hc i l x H2 (Same.ab sc) hl y
  have hd2:∀p,Rm p->WY (H2 p):=fun p hp=>Same.mut (sc.trans s2) (hd1 p hp)
  obtain⟨bl,bv,bf,rfl,bi,_,bsub,buse⟩:=N4 (K:=K) ix' eb
  have env2:EnvIs K Rm H2 (Yc n ix s) (YE n ix σ):=(env.mono (s1.trans (sc.trans s2))).comp
  have env3:=env2.setAll (is:=T.slots) (O2 n ix s σ) bi fun p hp=>(nx p (bsub p hp)).2
  refine buse _ _ ⟨VG hT,Rm,_,c,hd2,env3,et,fun H3 s3=>?_⟩
  have hd3:∀p,Rm p->WY (H3 p):=fun p hp=>Same.mut s3 (hd2 p hp)
  rcases alt with⟨rfl,y',zs,ey,ez,rfl⟩ | ⟨rfl,ez⟩
  ·refine Dz ?_
   refine⟨Rm,_,y',hd3,env3.mono s3,ey,fun v H4 f4 s4 i4 n4=>?_⟩
   refine⟨sc.trans (s2.trans (s3.trans s4)),dn++[y'],zs,fp++f4,by rw[List.append_assoc];rfl,by rw[List.length_append];simp;exact hdl,by rw[hr];exact ez,(iv.mono (s2.trans (s3.trans s4))).append (Iss.one i4),fun p hp=>?_⟩
   rcases List.mem_append.mp hp with h | h
   ·exact nv p h
   ·exact n4 p h
  ·refine Dy ?_
   exact⟨sc.trans (s2.trans s3),dn,YJ,fp,rfl,Nat.le_succ_of_le hdl,by rw[hr];exact ez,iv.mono (s2.trans s3),nv⟩
theorem Lm(hT:∀i∈T.slots,i<n):∀σ H Q,tM K (Zy n ix fi T ft fe) σ H Q->RL n ix (iF K fi) (gT K T) (OG K ft) (tM K fe) σ H Q:=fun σ H Q ⟨s,L,env,e,k⟩=>by
 obtain⟨ls,e1,e⟩:=Zg e
 split at e
 case isFalse=>cases e
 rename_i hlen
 obtain⟨ys,e2,rfl⟩:=map_some e
 have hd:∀(H:Hp) p,(fun _=>False:Addr->Prop) p->WY (H p):=fun _ _ z=>z.elim
 refine⟨fun _=>False,s,ls,hd H,env,e1,fun J H1 s1 jis=>?_⟩
 refine⟨fun i m vs Hc=>m=ls.length-i/\i<=ls.length/\Same H1 Hc/\∃dn YJ fp,ys=dn++YJ/\dn.length<=i/\WL T ft fe (Yc n ix s) (ls.drop i)=some YJ/\Iss K Hc dn vs fp/\fp.Nodup/\∀p∈fp,H1 p=none/\WY (Hc p),
  ⟨ls.length,by simp,Nat.zero_le _,Same.refl H1,[],ys,[],rfl,Nat.le_refl _,e2,Iss.nil,List.nodup_nil,fun p hp=>by simp at hp⟩,?_⟩
 rintro i m vs Hc ⟨rfl,hi,sc,dn,YJ,fp,rfl,hdl,ec,iv,dv,nv⟩
 refine⟨by rw[iv.len];exact Nat.le_of_lt (lt_size (by omega)),?_⟩
 cases q:ls.drop i with
 | nil=>
  have hil:i=ls.length:=by
   have:=congrArg List.length q
   rw[List.length_drop] at this
   simp at this;omega
  subst hil;rw[q] at ec;cases ec
  refine .inl ⟨jis.stop Hc (Same.ab sc),fun p hp=>k _ _ (p::fp) (s1.trans (sc.trans (Same.new hp _))) ?_ (List.nodup_cons.mpr ⟨fun z=>Xx (nv p z).2 hp,dv⟩) fun a ha=>?_⟩
  ·rw[List.append_nil]
   exact Is.lst upd_same (iv.mono (Same.new hp _))
  ·rcases List.mem_cons.mp ha with rfl | ha
   ·exact⟨Same.off (s1.trans sc) hp,by rw[upd_same];exact True.intro⟩
   ·exact⟨Same.off s1 (nv a ha).1,Same.mut (Same.new hp _) (nv a ha).2⟩
 | cons l r=>
  obtain⟨hl,hr⟩:=RZ q
  have hilt:i<ls.length:=(List.getElem?_eq_some_iff.mp hl).1
  rw[q] at ec
  obtain⟨sb,c,eb,et,alt⟩:=RY ec
  refine .inr ⟨jis.go Hc i l (Same.ab sc) hl,fun vs' H'=>Same H1 H'/\∃dn' rest' fp',dn++YJ=dn'++rest'/\dn'.length<=i+1/\WL T ft fe (Yc n ix s) (ls.drop (i+1))=some rest'/\Iss K H' dn' vs' fp'/\fp'.Nodup/\∀p∈fp',H1 p=none/\WY (H' p),
   fun vs' H' h'=>⟨ls.length-(i+1),by omega,rfl,hilt,h'.1,h'.2⟩,fun x H2 y=>?_⟩
  obtain⟨s2,fx,ix',nx⟩:=jis.yld Hc i l x H2 (Same.ab sc) hl y
  obtain⟨bl,bv,bf,rfl,bi,_,bsub,buse⟩:=N4 (K:=K) ix' eb
  have env2:EnvIs K (fun _=>False) H2 (Yc n ix s) (YE n ix σ):=(env.mono (s1.trans (sc.trans s2))).comp
  have env3:=env2.setAll (is:=T.slots) (O2 n ix s σ) bi fun p hp=>(nx p (bsub p hp)).2
  refine buse _ _ ⟨VG hT,fun _=>False,_,c,hd H2,env3,et,fun H3 s3=>?_⟩
  rcases alt with⟨rfl,y',zs,ey,ez,rfl⟩ | ⟨rfl,ez⟩
  ·refine Dz ?_
   refine⟨_,y',env3.mono s3,ey,fun v H4 f4 s4 i4 d4 n4=>?_⟩
   refine⟨sc.trans (s2.trans (s3.trans s4)),dn++[y'],zs,fp++f4,by rw[List.append_assoc];rfl,by rw[List.length_append];simp;exact hdl,by rw[hr];exact ez,(iv.mono (s2.trans (s3.trans s4))).append (Iss.one i4),List.nodup_append.mpr ⟨dv,d4,fun a ha b hb z=>?_⟩,fun p hp=>?_⟩
   ·subst z
    exact Xx (Same.mut (s2.trans s3) (nv a ha).2) (n4 a hb).1
   ·rcases List.mem_append.mp hp with h | h
    ·exact⟨(nv p h).1,Same.mut (s2.trans (s3.trans s4)) (nv p h).2⟩
    ·exact⟨Same.off (sc.trans (s2.trans s3)) (n4 p h).1,(n4 p h).2⟩
  ·refine Dy ?_
   exact⟨sc.trans (s2.trans s3),dn,YJ,fp,rfl,Nat.le_succ_of_le hdl,by rw[hr];exact ez,iv.mono (s2.trans s3),dv,fun p hp=>⟨(nv p hp).1,Same.mut (s2.trans s3) (nv p hp).2⟩⟩
end
def E5(X:Cx)(ifs:List Expr)(f:XT):Prop:=K3 X ifs (OG X.K f)
section
variable {X:Cx} {tg elt iter c:Expr} {ifs:List Expr} {scope:Scope} {pos:Pos} {fi:XL} {T:Tgt} {ft:XT} {fe:XE}
theorem Z6:E5 X [] ZE:=fun pins s σ H Q I ⟨Rm,s',c,hd,env,e,k⟩=>by
 cases e
 exact HS pins s σ H Q I (k H (Same.refl H))
theorem P6(h:VT X c ft):E5 X [c] ft:=HU h
theorem YL(own fr:List Str)(ix:List Nat)(hcalm:X.calm=true)(hi:VI X tg iter fi)(S:Ue X.N X.env.scope scope own fr ix=true)
  (hg:∀cl C s H ex,PG (ZW X (own++fr) scope cl C s H ex) tg (gT X.K T)) (ht:∀cl C s H ex,E5 (ZW X (own++fr) scope cl C s H ex) ifs ft) (he:∀cl C s H ex,VE (ZW X (own++fr) scope cl C s H ex) elt fe)
  (hT:∀i∈T.slots,i<own.length:=by decide) (hs:∀x,foldedSetIterable iter X.env x=pure x:=by intro _;rfl):VE X (.ListComp elt [⟨tg,iter,ifs,0⟩] scope pos) (Zy own.length ix fi T ft fe):=
 PE.imp (RP own fr ix hcalm hi S hg (fun cl C s H ex=>(show K3 (ZW X (own++fr) scope cl C s H ex) ifs (OG X.K ft) from ht cl C s H ex)) (fun cl C s H ex=>(show PE (ZW X (own++fr) scope cl C s H ex) elt (tF X.K fe) from he cl C s H ex)) hs) (Ll hT)
theorem Rq(own fr:List Str)(ix:List Nat)(hcalm:X.calm=true)(hi:VI X tg iter fi)(S:Ue X.N X.env.scope scope own fr ix=true)
  (hg:∀cl C s H ex,PG (ZW X (own++fr) scope cl C s H ex) tg (gT X.K T)) (ht:∀cl C s H ex,E5 (ZW X (own++fr) scope cl C s H ex) ifs ft) (he:∀cl C s H ex,VM (ZW X (own++fr) scope cl C s H ex) elt fe)
  (hT:∀i∈T.slots,i<own.length:=by decide) (hs:∀x,foldedSetIterable iter X.env x=pure x:=by intro _;rfl):VM X (.ListComp elt [⟨tg,iter,ifs,0⟩] scope pos) (Zy own.length ix fi T ft fe):=
 PE.imp (RP own fr ix hcalm hi S hg (fun cl C s H ex=>(show K3 (ZW X (own++fr) scope cl C s H ex) ifs (OG X.K ft) from ht cl C s H ex)) (fun cl C s H ex=>(show PE (ZW X (own++fr) scope cl C s H ex) elt (tM X.K fe) from he cl C s H ex)) hs) (Lm hT)
end
def Vf(xs:List PV)(lo hi:Option Int):List PV:=(xs.drop (HT.sIx xs.length 0 lo)).take (HT.sIx xs.length xs.length hi-HT.sIx xs.length 0 lo)
theorem Iss.cut{H:Hp}{l:List PV}{xs:List V}{fp:List Addr}(lo hi:Option Int)(h:Iss K H l xs fp):∃f1,Iss K H (Vf l lo hi) (OQ xs lo hi) f1/\∀p∈f1,p∈fp:=by
 unfold Vf OQ;rw[h.len]
 obtain⟨f1,a,b⟩:=h.drop (HT.sIx l.length 0 lo)
 obtain⟨f2,c,d⟩:=a.take (HT.sIx l.length l.length hi-HT.sIx l.length 0 lo)
 exact⟨f2,c,fun p hp=>b p (d p hp)⟩
abbrev XO:=ZU->Option (Option Int)
def C2(K:PySem.W.Frag)(f:XO):TO:=fun σ H Q=>∃(Rm:Addr->Prop) (s:ZU) (i:Option Int),(∀p,Rm p->WY (H p))/\EnvIs K Rm H s σ/\f s=some i/\∀H',Same H H'->Q i H'
def VO(X:Cx)(e:Option Expr)(f:XO):Prop:=PO X e (C2 X.K f)
def Vg:XO:=fun _=>some none
def WM(f:XE):XO:=fun s=>match f s with | some (.int i)=>some (some i) | _=>none
def Vh(x:PV)(lo hi:Option Int):Option PV:=match x with | .lst l=>some (.lst (Vf l lo hi)) | .cst l=>some (.lst (Vf l lo hi)) | _=>none
def XN(x:PV)(lo hi:Option Int):Option PV:=match x with | .tup l=>if HT.sIx l.length 0 lo=0/\HT.sIx l.length l.length hi=l.length then none else some (.tup (Vf l lo hi)) | _=>none
def Vn(g:PV->Option Int->Option Int->Option PV)(a:XE)(lo hi:XO):XE:=fun s=>(a s).bind fun x=>(lo s).bind fun l=>(hi s).bind fun u=>g x l u
section
variable {X:Cx} {e:Expr} {lo hi:Option Expr} {p2 pos:Pos} {fa:XE} {fl fh:XO}
theorem X6:VO X none Vg:=fun pins s σ H Q I ⟨Rm,s',i,hd,env,e,k⟩=>by
 cases e
 exact HL pins s σ H Q I (k H (Same.refl H))
theorem X7{e:Expr}(h:VE X e fa):VO X (some e) (WM fa):=fun pins s σ H Q I ⟨Rm,s',i,hd,env,e,k⟩=>by
 unfold WM at e
 split at e
 ·cases e
  rename_i j hj
  exact HM h pins s σ H Q I ⟨Rm,s',.int j,hd,env,hj,fun v H' fp sm i n=>⟨j,i.int_inv.1,k H' sm⟩⟩
 ·cases e
theorem Uz(ha:VE X e fa)(hl:VO X lo fl)(hh:VO X hi fh):VE X (.Subscript e (.Slice lo hi none p2) pos) (Vn Vh fa fl fh):=PE.imp (OP HQ ha hl hh) fun σ H Q ⟨Rm,s,l,hd,env,e,k⟩=>by
 obtain⟨x,e1,e⟩:=Zg e
 obtain⟨a,e2,e⟩:=Zg e
 obtain⟨b,e3,e⟩:=Zg e
 refine⟨Rm,s,x,hd,env,e1,fun v H1 fp s1 i1 n1=>⟨Rm,s,a,fun p hp=>Same.mut s1 (hd p hp),env.mono s1,e2,fun H2 s2=>⟨Rm,s,b,fun p hp=>Same.mut (s1.trans s2) (hd p hp),env.mono (s1.trans s2),e3,fun H3 s3=>?_⟩⟩⟩
 cases x with
 | lst l=>
  cases e
  obtain⟨p,xs,fq,rfl,hp,hi,rfl⟩:=(i1.mono (s2.trans s3)).lst_inv
  obtain⟨f1,c,d⟩:=hi.cut a b
  refine⟨p,xs,rfl,SqL.of hp,fun q hq=>k _ _ (q::f1) (s1.trans (s2.trans (s3.trans (Same.new hq _)))) (Is.lst upd_same (c.mono (Same.new hq _))) fun r hr z=>?_⟩
  rcases List.mem_cons.mp hr with rfl | hr
  ·exact Xx (Same.mut (s1.trans (s2.trans s3)) (hd r z)) hq
  ·exact n1 r (List.mem_cons_of_mem _ (d r hr)) z
 | cst l=>
  cases e
  obtain⟨p,xs,rfl,hp,hi⟩:=(i1.mono (s2.trans s3)).cst_inv
  obtain⟨f1,c,d⟩:=hi.cut a b
  refine⟨p,xs,rfl,hp.sq,fun q hq=>k _ _ (q::f1) (s1.trans (s2.trans (s3.trans (Same.new hq _)))) (Is.lst upd_same (c.mono (Same.new hq _))) fun r hr z=>?_⟩
  rcases List.mem_cons.mp hr with rfl | hr
  ·exact Xx (Same.mut (s1.trans (s2.trans s3)) (hd r z)) hq
  ·exact n1 r (d r hr) z
 | _=>cases e
theorem WC(ha:VE X e fa)(hl:VO X lo fl)(hh:VO X hi fh):VE X (.Subscript e (.Slice lo hi none p2) pos) (Vn XN fa fl fh):=PE.imp (OP Ee ha hl hh) fun σ H Q ⟨Rm,s,l,hd,env,e,k⟩=>by
 obtain⟨x,e1,e⟩:=Zg e
 obtain⟨a,e2,e⟩:=Zg e
 obtain⟨b,e3,e⟩:=Zg e
 refine⟨Rm,s,x,hd,env,e1,fun v H1 fp s1 i1 n1=>⟨Rm,s,a,fun p hp=>Same.mut s1 (hd p hp),env.mono s1,e2,fun H2 s2=>⟨Rm,s,b,fun p hp=>Same.mut (s1.trans s2) (hd p hp),env.mono (s1.trans s2),e3,fun H3 s3=>?_⟩⟩⟩
 cases x with
 | tup l=>
  unfold XN at e
  simp only at e
  split at e
  ·cases e
  ·rename_i hne
   cases e
   obtain⟨p,xs,rfl,hp,hi⟩:=(i1.mono (s2.trans s3)).tup_inv
   obtain⟨f1,c,d⟩:=hi.cut a b
   refine⟨p,xs,rfl,SqT.of hp,by rw[hi.len];exact hne,fun q hq=>k _ _ f1 (s1.trans (s2.trans (s3.trans (Same.new hq _)))) (Is.tup upd_same (c.mono (Same.new hq _))) fun r hr=>n1 r (d r hr)⟩
 | _=>cases e
end
end VL
namespace VL
open PySem PySem.Spec PyProof.Rows L2
variable {K:PySem.W.Frag}
structure Rel(K:PySem.W.Frag)(O:List Nat)(H0:Hp)(fps:Nat->List Addr)(s:ZU)(σ:Sc)(H:Hp):Prop where
 same:Same H0 H
 len:s.length=σ.length
 is:∀(i:Nat) l,s[i]?=some (some l)->∃v,σ[i]?=some (some v)/\Is K H l v (fps i)
 emp:∀(i:Nat),(∀l,s[i]?≠some (some l))->fps i=[]
 nd:∀i∈O,(fps i).Nodup
 own:∀i∈O,∀p∈fps i,H0 p=none/\WY (H p)
 dis:∀i∈O,∀j,j≠i->∀p∈fps i,p∉fps j
def Ow(O:List Nat)(fps:Nat->List Addr)(p:Addr):Prop:=∃i∈O,p∈fps i
def YG(O:List Nat)(s:ZU):ZU:=O.foldl (fun s i=>s.set i none) s
theorem R0:∀{O:List Nat}{s:ZU}{i:Nat}{l:PV},(YG O s)[i]?=some (some l)->i∉O/\s[i]?=some (some l)
 | [],s,i,l,h=>⟨by simp,h⟩
 | o::O,s,i,l,h=>by
  obtain⟨h1,h2⟩:=R0 (O:=O) (s:=s.set o none) h
  rw[List.getElem?_set] at h2
  by_cases e:o=i
  ·rw[if_pos e] at h2;split at h2<;>cases h2
  ·rw[if_neg e] at h2
   exact⟨by simp only[List.mem_cons,not_or];exact⟨fun z=>e z.symm,h1⟩,h2⟩
section
variable {O:List Nat} {H0 H H':Hp} {fps:Nat->List Addr} {s:ZU} {σ:Sc}
theorem Rel.at(r:Rel K O H0 fps s σ H)(i:Nat){p:Addr}(hp:p∈fps i):∃l v,s[i]?=some (some l)/\σ[i]?=some (some v)/\Is K H l v (fps i):=by
 cases q:s[i]? with
 | none=>rw[r.emp i (fun l z=>by rw[q] at z;cases z)] at hp;simp at hp
 | some o=>cases o with
  | none=>rw[r.emp i (fun l z=>by rw[q] at z;cases z)] at hp;simp at hp
  | some l=>
   obtain⟨v,a,b⟩:=r.is i l q
   exact⟨l,v,rfl,a,b⟩
theorem Rel.dom(r:Rel K O H0 fps s σ H)(i:Nat):∀p∈fps i,H p≠none:=fun p hp=>by
 obtain⟨l,v,_,_,b⟩:=r.at i hp
 exact Is.dom _ _ _ b p hp
theorem Rel.env(r:Rel K O H0 fps s σ H):EnvIs K (fun _=>False) H s σ:=⟨fun i l e=>by
 obtain⟨v,a,b⟩:=r.is i l e
 exact⟨v,_,a,b,fun _ _ z=>z⟩⟩
theorem Rel.envO(r:Rel K O H0 fps s σ H):EnvIs K (Ow O fps) H (YG O s) σ:=⟨fun i l e=>by
 obtain⟨n,e⟩:=R0 e
 obtain⟨v,a,b⟩:=r.is i l e
 exact⟨v,_,a,b,fun p hp ⟨j,hj,hpj⟩=>r.dis j hj i (fun z=>n (z▸hj)) p hpj hp⟩⟩
theorem Rel.owMut(r:Rel K O H0 fps s σ H):∀p,Ow O fps p->WY (H p):=fun p ⟨i,hi,hp⟩=>(r.own i hi p hp).2
theorem Rel.grow(r:Rel K O H0 fps s σ H)(e:Same H H'):Rel K O H0 fps s σ H':=
 ⟨r.same.trans e,r.len,fun i l q=>by obtain⟨v,a,b⟩:=r.is i l q;exact⟨v,a,b.mono e⟩,r.emp,r.nd,fun i hi p hp=>⟨(r.own i hi p hp).1,Same.mut e (r.own i hi p hp).2⟩,r.dis⟩
theorem Rel.less{F:Hp}(r:Rel K O F fps s σ H)(e:Same H0 F):Rel K O H0 fps s σ H:=
 ⟨e.trans r.same,r.len,r.is,r.emp,r.nd,fun i hi p hp=>⟨Same.off e (r.own i hi p hp).1,(r.own i hi p hp).2⟩,r.dis⟩
theorem Rel.weak{O':List Nat}(r:Rel K O H0 fps s σ H)(h:∀i∈O',i∈O):Rel K O' H0 fps s σ H:=
 ⟨r.same,r.len,r.is,r.emp,fun i hi=>r.nd i (h i hi),fun i hi=>r.own i (h i hi),fun i hi=>r.dis i (h i hi)⟩
open Classical in
noncomputable def Wb(H:Hp)(Rm:Addr->Prop):Hp:=fun b=>if Rm b then none else H b
theorem Pf{Rm:Addr->Prop}:Same (Wb H Rm) H:=fun b o h=>by
 unfold Wb at h
 split at h
 ·cases h
 ·exact h
theorem Rel.frame(r:Rel K O H0 fps s σ H):Rel K O (Wb H (Ow O fps)) fps s σ H:=
 ⟨Pf,r.len,r.is,r.emp,r.nd,fun i hi p hp=>⟨by unfold Wb;rw[if_pos ⟨i,hi,hp⟩],(r.own i hi p hp).2⟩,r.dis⟩
theorem Rel.under(r:Rel K O H0 fps s σ H):Same H0 (Wb H (Ow O fps)):=fun b o h=>by
 unfold Wb
 rw[if_neg (fun⟨i,hi,hp⟩=>by rw[(r.own i hi b hp).1] at h;cases h)]
 exact r.same b o h
open Classical in
noncomputable def S2(fps:Nat->List Addr)(n:Nat)(i:Nat)(fp:List Addr):Nat->List Addr:=fun j=>if j=i/\i<n then fp else fps j
theorem YC{n i j:Nat}{fp:List Addr}(h:j≠i):S2 fps n i fp j=fps j:=by unfold S2;rw[if_neg (fun z=>h z.1)]
theorem Ln{n i:Nat}{fp:List Addr}(h:i<n):S2 fps n i fp i=fp:=by unfold S2;rw[if_pos ⟨rfl,h⟩]
theorem Rel.set(r:Rel K O H0 fps s σ H){i:Nat}{l:PV}{v:V}{fp:List Addr}(hi:Is K H l v fp)(ho:i∈O->fp.Nodup/\∀p∈fp,H0 p=none/\WY (H p))
  (hd:∀j,j≠i->(j∈O\/i∈O)->∀p∈fp,p∉fps j):Rel K O H0 (S2 fps s.length i fp) (s.set i (some l)) (σ.set i (some v)) H:=by
 by_cases hlt:i<s.length
 ·have e1:S2 fps s.length i fp i=fp:=Ln hlt
  refine⟨r.same,by rw[List.length_set,List.length_set];exact r.len,fun j a e=>?_,fun j h=>?_,fun j hj=>?_,fun j hj p hp=>?_,fun j hj k hk p hp=>?_⟩
  ·rw[List.getElem?_set] at e
   by_cases hj:i=j
   ·subst hj
    rw[if_pos rfl,if_pos hlt] at e;cases e;rw[e1]
    exact⟨v,by rw[List.getElem?_set,if_pos rfl,if_pos (by rw[<-r.len];exact hlt)],hi⟩
   ·rw[if_neg hj] at e
    obtain⟨w,h1,h2⟩:=r.is j a e
    rw[YC (Ne.symm hj)]
    exact⟨w,by rw[List.getElem?_set,if_neg hj];exact h1,h2⟩
  ·by_cases hj:i=j
   ·subst hj
    exact absurd (by rw[List.getElem?_set,if_pos rfl,if_pos hlt]) (h l)
   ·rw[YC (Ne.symm hj)]
    exact r.emp j fun a z=>h a (by rw[List.getElem?_set,if_neg hj];exact z)
  ·by_cases e:j=i
   ·subst e;rw[e1];exact(ho hj).1
   ·rw[YC e];exact r.nd j hj
  ·by_cases e:j=i
   ·subst e;rw[e1] at hp;exact(ho hj).2 p hp
   ·rw[YC e] at hp;exact r.own j hj p hp
  ·by_cases e:j=i
   ·subst e
    rw[e1] at hp;rw[YC hk]
    exact hd k hk (.inr hj) p hp
   ·rw[YC e] at hp
    by_cases e2:k=i
    ·subst e2
     rw[e1]
     exact fun z=>hd j e (.inl hj) p z hp
    ·rw[YC e2];exact r.dis j hj k hk p hp
 ·have e1:s.set i (some l)=s:=List.set_eq_of_length_le (by omega)
  have e2:σ.set i (some v)=σ:=List.set_eq_of_length_le (by rw[<-r.len];omega)
  have e3:S2 fps s.length i fp=fps:=by funext j;unfold S2;rw[if_neg (fun z=>hlt z.2)]
  rw[e1,e2,e3];exact r
theorem Rel.mutate(r:Rel K O H0 fps s σ H){i:Nat}(hi:i∈O){p:Addr}(hp:p∈fps i){o:HO}{l':PV}{v:V}{fp':List Addr}(hv:σ[i]?=some (some v))(hlt:i<s.length)
  (h':Is K (upd H p o) l' v fp') (nd:fp'.Nodup) (hm:∀q∈fp',H0 q=none/\WY (upd H p o q)) (hd:∀j,j≠i->∀q∈fp',q∉fps j) (hmo:WY (some o)):Rel K O H0 (S2 fps s.length i fp') (s.set i (some l')) σ (upd H p o):=by
 have mu:=(r.own i hi p hp).2
 have pn:H0 p=none:=(r.own i hi p hp).1
 have e1:S2 fps s.length i fp' i=fp':=Ln hlt
 have tk:TK2 H (upd H p o):=⟨fun b xs h=>by
  rw[upd_ne (fun z=>by rw[z] at h;rw[h] at mu;exact mu)];exact h,fun b o xs h=>by
  rw[upd_ne (fun z=>by rw[z] at h;rw[h] at mu;exact mu)];exact h,fun b o x h=>by
  rw[upd_ne (fun z=>by rw[z] at h;rw[h] at mu;exact mu)];exact h⟩
 refine⟨fun b u h=>by rw[upd_ne (ZI h pn)];exact r.same b u h,by rw[List.length_set];exact r.len,fun j a e=>?_,fun j h=>?_,fun j hj=>?_,fun j hj q hq=>?_,fun j hj k hk q hq=>?_⟩
 ·rw[List.getElem?_set] at e
  by_cases hj:i=j
  ·subst hj
   rw[if_pos rfl,if_pos hlt] at e;cases e
   rw[e1];exact⟨v,hv,h'⟩
  ·rw[if_neg hj] at e
   obtain⟨w,h1,h2⟩:=r.is j a e
   rw[YC (Ne.symm hj)]
   refine⟨w,h1,Is.tr tk _ _ _ (fun q hq=>RdK.of fun u hu=>?_) h2⟩
   have ne:q≠p:=fun z=>r.dis i hi j (Ne.symm hj) p hp (z▸hq)
   rw[upd_ne ne];exact hu
 ·by_cases hj:i=j
  ·subst hj
   exact absurd (by rw[List.getElem?_set,if_pos rfl,if_pos hlt]) (h l')
  ·rw[YC (Ne.symm hj)]
   exact r.emp j fun a z=>h a (by rw[List.getElem?_set,if_neg hj];exact z)
 ·by_cases e:j=i
  ·subst e;rw[e1];exact nd
  ·rw[YC e];exact r.nd j hj
 ·by_cases e:j=i
  ·subst e;rw[e1] at hq;exact hm q hq
  ·rw[YC e] at hq
   refine⟨(r.own j hj q hq).1,?_⟩
   have ne:q≠p:=fun z=>r.dis j hj i (Ne.symm e) q hq (z▸hp)
   rw[upd_ne ne];exact(r.own j hj q hq).2
 ·by_cases e:j=i
  ·subst e
   rw[e1] at hq;rw[YC hk]
   exact hd k hk q hq
  ·rw[YC e] at hq
   by_cases e2:k=i
   ·subst e2
    rw[e1]
    exact fun z=>hd j e q z hq
   ·rw[YC e2];exact r.dis j hj k hk q hq
end
def Kep(a b:List Addr):Prop:=a=b\/a=[]
theorem Kep.refl(a:List Addr):Kep a a:=.inl rfl
theorem Kep.trans{a b c:List Addr}(h:Kep a b)(k:Kep b c):Kep a c:=by
 rcases h with rfl | h
 ·exact k
 ·exact .inr h
inductive Out where
 | nx (s:ZU) | rt (l:PV) | bk (s:ZU) | ct (s:ZU)
abbrev XS:=ZU->Option Out
def OutOk(K:PySem.W.Frag)(O W:List Nat)(H0:Hp)(fps:Nat->List Addr)(σ:Sc)(D:U6):Out->Prop
 | .nx s'=>∀fps' σ' H',Rel K O H0 fps' s' σ' H'->(∀j,j∉W->σ'[j]?=σ[j]?/\Kep (fps' j) (fps j))->D.nx σ' H'
 | .bk s'=>∀fps' σ' H',Rel K O H0 fps' s' σ' H'->(∀j,j∉W->σ'[j]?=σ[j]?/\Kep (fps' j) (fps j))->D.bk σ' H'
 | .ct s'=>∀fps' σ' H',Rel K O H0 fps' s' σ' H'->(∀j,j∉W->σ'[j]?=σ[j]?/\Kep (fps' j) (fps j))->D.ct σ' H'
 | .rt l=>∀v fp H',Same H0 H'->Is K H' l v fp->fp.Nodup->(∀p∈fp,H0 p=none/\WY (H' p))->D.rt v H'
def FC(K:PySem.W.Frag)(O W:List Nat)(f:XS):TS:=fun D σ H=>∃H0 fps s out,Rel K O H0 fps s σ H/\f s=some out/\OutOk K O W H0 fps σ D out
def VS(X:Cx)(O W:List Nat)(st:Stmt)(f:XS):Prop:=PS X st (FC X.K O W f)
def VSs(X:Cx)(O W:List Nat)(st:List Stmt)(f:XS):Prop:=PSs X st (FC X.K O W f)
theorem OutOk.same{O W W':List Nat}{H0:Hp}{fps fps1:Nat->List Addr}{σ σ1:Sc}{D:U6}{out:Out}(h:OutOk K O W' H0 fps σ D out)(k:∀j,j∉W'->σ1[j]?=σ[j]?/\Kep (fps1 j) (fps j))(hs:∀j,j∉W'->j∉W):OutOk K O W H0 fps1 σ1 D out:=by
 cases out with
 | nx s'=>exact fun fps' σ' H' r q=>h fps' σ' H' r fun j hj=>⟨(q j (hs j hj)).1.trans (k j hj).1,(q j (hs j hj)).2.trans (k j hj).2⟩
 | bk s'=>exact fun fps' σ' H' r q=>h fps' σ' H' r fun j hj=>⟨(q j (hs j hj)).1.trans (k j hj).1,(q j (hs j hj)).2.trans (k j hj).2⟩
 | ct s'=>exact fun fps' σ' H' r q=>h fps' σ' H' r fun j hj=>⟨(q j (hs j hj)).1.trans (k j hj).1,(q j (hs j hj)).2.trans (k j hj).2⟩
 | rt l=>exact h
theorem OutOk.less{O W:List Nat}{H0 F:Hp}{fps:Nat->List Addr}{σ:Sc}{D:U6}{out:Out}(h:OutOk K O W H0 fps σ D out)(e:Same H0 F):OutOk K O W F fps σ D out:=by
 cases out with
 | nx s'=>exact fun fps' σ' H' r q=>h fps' σ' H' (r.less e) q
 | bk s'=>exact fun fps' σ' H' r q=>h fps' σ' H' (r.less e) q
 | ct s'=>exact fun fps' σ' H' r q=>h fps' σ' H' (r.less e) q
 | rt l=>exact fun v fp H' sm i d n=>h v fp H' (e.trans sm) i d fun p hp=>⟨Same.off e (n p hp).1,(n p hp).2⟩
def Y5:XS:=fun s=>some (.nx s)
def Zs(f g:XS):XS:=fun s=>(f s).bind fun o=>match o with | .nx s'=>g s' | r=>some r
def Rr(c:XT)(f g:XS):XS:=fun s=>(c s).bind fun k=>if k=true then f s else g s
def Yo(f:XE):XS:=fun s=>(f s).map .rt
def Zr(i:Nat)(f:XE):XS:=fun s=>(f s).map fun l=>.nx (s.set i (some l))
section
variable {X:Cx} {O W W1 W2:List Nat} {st:Stmt} {YJ:List Stmt} {f g:XS} {pos:Pos}
theorem PS.imp{t t':TS}(h:PS X st t)(i:∀D σ H,t' D σ H->t D σ H):PS X st t':=fun pins s σ H D I q=>h pins s σ H D I (i D σ H q)
theorem PSs.imp{t t':TS}(h:PSs X YJ t)(i:∀D σ H,t' D σ H->t D σ H):PSs X YJ t':=fun pins s σ H D I q=>h pins s σ H D I (i D σ H q)
theorem JM:∀D σ H,FC K O W Y5 D σ H->Fj D σ H:=fun D σ H ⟨H0,fps,s,out,r,e,k⟩=>by
 cases e
 exact k fps σ H r fun j _=>⟨rfl,Kep.refl _⟩
theorem X8:VSs X O [] [] Y5:=PSs.imp Hz JM
theorem Zu(h:VS X O W st f):VSs X O W [st] f:=HA h
theorem Zj(h1:VS X O W1 st f)(h2:VSs X O W2 YJ g):VSs X O (W1++W2) (st::YJ) (Zs f g):=PSs.imp (OL h1 h2) fun D σ H ⟨H0,fps,s,out,r,e,k⟩=>by
 obtain⟨o1,e1,e⟩:=Zg e
 have sub1:∀j,j∉W1++W2->j∉W1:=fun j hj z=>hj (List.mem_append_left _ z)
 have sub2:∀j,j∉W1++W2->j∉W2:=fun j hj z=>hj (List.mem_append_right _ z)
 refine⟨H0,fps,s,o1,r,e1,?_⟩
 cases o1 with
 | nx s1=>
  intro fps1 σ1 H1 r1 q1
  exact⟨H0,fps1,s1,out,r1,e,k.same (fun j hj=>q1 j (sub1 j hj)) sub2⟩
 | bk s1=>cases e;exact fun fps' σ' H' r' q'=>k fps' σ' H' r' fun j hj=>q' j (sub1 j hj)
 | ct s1=>cases e;exact fun fps' σ' H' r' q'=>k fps' σ' H' r' fun j hj=>q' j (sub1 j hj)
 | rt l=>cases e;exact k
theorem U3{c:Expr}{a b:List Stmt}{fc:XT}(hc:VT X c fc)(ha:VSs X O W1 a f)(hb:VSs X O W2 b g):VS X O (W1++W2) (.If c a b pos) (Rr fc f g):=PS.imp (Dc hc ha hb) fun D σ H ⟨H0,fps,s,out,r,e,k⟩=>by
 obtain⟨c,e1,e⟩:=Zg e
 have sub1:∀j,j∉W1++W2->j∉W1:=fun j hj z=>hj (List.mem_append_left _ z)
 have sub2:∀j,j∉W1++W2->j∉W2:=fun j hj z=>hj (List.mem_append_right _ z)
 refine⟨fun _=>False,s,c,fun _ z=>z.elim,r.env,e1,fun H1 s1=>?_⟩
 cases c with
 | true=>
  rw[if_pos rfl] at e ⊢
  exact⟨H0,fps,s,out,r.grow s1,e,k.same (fun j _=>⟨rfl,Kep.refl _⟩) sub1⟩
 | false=>
  rw[if_neg Bool.false_ne_true] at e ⊢
  exact⟨H0,fps,s,out,r.grow s1,e,k.same (fun j _=>⟨rfl,Kep.refl _⟩) sub2⟩
theorem ZX{e:Expr}{fe:XE}(he:VM X e fe):VS X O [] (.Return (some e) pos) (Yo fe):=PS.imp (RE he) fun D σ H ⟨H0,fps,s,out,r,e,k⟩=>by
 obtain⟨l,e1,rfl⟩:=map_some e
 exact⟨s,l,r.env,e1,fun v H' fp sm i d n=>k v fp H' (r.same.trans sm) i d fun p hp=>⟨Same.off r.same (n p hp).1,(n p hp).2⟩⟩
theorem P7{e:Expr}{i:Nat}(he:PE X e (V9 i))(hi:i∈O:=by decide):VS X O [] (.Return (some e) pos) (Yo (Za i)):=PS.imp (RE he) fun D σ H ⟨H0,fps,s,out,r,e,k⟩=>by
 obtain⟨l,e1,rfl⟩:=map_some e
 obtain⟨v,a,b⟩:=r.is i l (Pc e1)
 exact⟨v,a,k v _ H r.same b (r.nd i hi) (r.own i hi)⟩
theorem Lo{t:TE}{i:Nat}{fe:XE}(ht:∀σ H Q,tM K fe σ H Q->t σ H Q):∀D σ H,FC K O [i] (Zr i fe) D σ H->NM t (SM i) D σ H:=fun D σ H ⟨H0,fps,s,out,r,e,k⟩=>by
 obtain⟨l,e1,rfl⟩:=map_some e
 refine ht σ H _ ⟨s,l,r.env,e1,fun v H' fp sm is d n=>?_⟩
 refine k _ _ H' ((r.grow sm).set (i:=i) is (fun _=>⟨d,fun p hp=>⟨Same.off r.same (n p hp).1,(n p hp).2⟩⟩) fun j _ _ p hp z=>r.dom j p z (n p hp).1) fun j hj=>?_
 have:j≠i:=by simpa using hj
 exact⟨by rw[List.getElem?_set,if_neg (Ne.symm this)],.inl (YC this)⟩
theorem Zw{i:Nat}{x:Str}{e:Expr}{fe:XE}{pos':Pos}(hN:X.N.Nodup)(hi:X.N[i]?=some x)(hx:E7 X.env.scope x)(he:VM X e fe)(hs:swapsWith e (some (.Name x pos')) pos.line X.env=pure false:=by rfl)(hf:X.fn x=true\/X.env.scope.names.lookup x=some .local:=by first | exact .inl rfl | exact .inr rfl | assumption) :
  VS X O [i] (.Assign [.Name x pos'] e pos) (Zr i fe):=PS.imp (F1 hN hi hx he hs hf) (Lo fun _ _ _ h=>h)
end
def Wp(T:Tgt)(fb:XS):List PV->ZU->Option Out
 | [],s=>some (.nx s)
 | l::r,s=>(Va T l s).bind fun s1=>(fb s1).bind fun o=>match o with | .nx s2=>Wp T fb r s2 | .ct s2=>Wp T fb r s2 | .bk s2=>some (.nx s2) | .rt v=>some (.rt v)
def XQ(O:List Nat)(fi:XL)(T:Tgt)(fb:XS):XS:=fun s=>(fi (YG O s)).bind fun ls=>Wp T fb ls s
theorem Rel.setAll{O:List Nat}{H0 H:Hp}:∀{is:List Nat}{ls:List PV}{vs:List V}{fs:List Addr}{fps:Nat->List Addr}{s:ZU}{σ:Sc},Rel K O H0 fps s σ H->Iss K H ls vs fs->ls.length=is.length->(∀i∈is,i∉O)->(∀i∈O,∀p∈fps i,p∉fs)->
  ∃fps',Rel K O H0 fps' (VL.setAll is ls s) (Xm is vs σ) H/\∀j,j∉is->(Xm is vs σ)[j]?=σ[j]?/\Kep (fps' j) (fps j)
 | [],ls,vs,fs,fps,s,σ,r,_,_,_,_=>⟨fps,by unfold VL.setAll Xm;exact r,fun j _=>⟨by unfold Xm;rfl,Kep.refl _⟩⟩
 | i::is,[],vs,fs,fps,s,σ,r,_,hl,_,_=>by simp at hl
 | i::is,l::ls,vs,fs,fps,s,σ,r,hi,hl,hO,hd=>by
  obtain⟨x,rr,f1,f2,rfl,h1,h2,rfl⟩:=hi.inv
  have hiO:=hO i List.mem_cons_self
  have r1:=r.set (i:=i) h1 (fun z=>absurd z hiO) fun j hj hjo p hp z=>by
   rcases hjo with hjo | hjo
   ·exact hd j hjo p z (List.mem_append_left _ hp)
   ·exact absurd hjo hiO
  obtain⟨fps',r2,q2⟩:=Rel.setAll (is:=is) r1 h2 (by simpa using hl) (fun j hj=>hO j (List.mem_cons_of_mem _ hj)) fun j hj p hp z=>by
   have hji:j≠i:=fun e=>hiO (by rw[<-e];exact hj)
   rw[YC hji] at hp
   exact hd j hj p hp (List.mem_append_right _ z)
  refine⟨fps',r2,fun j hj=>?_⟩
  have hji:j≠i:=fun e=>hj (e▸List.mem_cons_self)
  obtain⟨a,b⟩:=q2 j (fun z=>hj (List.mem_cons_of_mem _ z))
  exact⟨a.trans (by rw[List.getElem?_set,if_neg (Ne.symm hji)]),b.trans (.inl (YC hji))⟩
section
variable {O W:List Nat} {T:Tgt} {fb:XS}
theorem R1{H1:Hp}{fps:Nat->List Addr}{s:ZU}{σ:Sc}{D:U6}{J:It}{ls:List PV}{out:Out}(r:Rel K O (Wb H1 (Ow O fps)) fps s σ H1)(jis:DP K (Ow O fps) H1 J ls)(e:Wp T fb ls s=some out)(hT:∀i∈T.slots,i∉O)
  (k:OutOk K O (T.slots++W) (Wb H1 (Ow O fps)) fps σ D out):Et (gT K T) (FC K O W fb) D σ J H1:=by
 have subT:∀j,j∉T.slots++W->j∉T.slots:=fun j hj z=>hj (List.mem_append_left _ z)
 have subW:∀j,j∉T.slots++W->j∉W:=fun j hj z=>hj (List.mem_append_right _ z)
 refine⟨fun i m σ' H'=>m=ls.length-i/\i<=ls.length/\∃fps' s',Rel K O (Wb H1 (Ow O fps)) fps' s' σ' H'/\Wp T fb (ls.drop i) s'=some out/\∀j,j∉T.slots++W->σ'[j]?=σ[j]?/\Kep (fps' j) (fps j),
  ⟨ls.length,by simp,Nat.zero_le _,fps,s,r,e,fun j _=>⟨rfl,Kep.refl _⟩⟩,?_⟩
 rintro i m σ' H' ⟨rfl,hi,fps',s',r',e',q'⟩
 have ab:Ab (Ow O fps) H1 H':=fun b o h n=>r'.same b o (by unfold Wb;rw[if_neg n];exact h)
 cases q:ls.drop i with
 | nil=>
  have hil:i=ls.length:=by
   have:=congrArg List.length q
   rw[List.length_drop] at this
   simp at this;omega
  subst hil
  rw[q] at e'
  cases e'
  exact .inl ⟨jis.stop H' ab,k fps' σ' H' r' q'⟩
 | cons l rr=>
  obtain⟨hl,hr⟩:=RZ q
  have hilt:i<ls.length:=(List.getElem?_eq_some_iff.mp hl).1
  rw[q] at e'
  unfold Wp at e'
  obtain⟨sb,eb,e'⟩:=Zg e'
  obtain⟨o,eo,e'⟩:=Zg e'
  refine .inr ⟨jis.go H' i l ab hl,fun σ2 H2=>∃fps2 s2,Rel K O (Wb H1 (Ow O fps)) fps2 s2 σ2 H2/\Wp T fb (ls.drop (i+1)) s2=some out/\∀j,j∉T.slots++W->σ2[j]?=σ[j]?/\Kep (fps2 j) (fps j),
   fun σ2 H2 h2=>⟨ls.length-(i+1),by omega,rfl,hilt,h2⟩,fun x H2 y=>?_⟩
  obtain⟨s2,fx,ix,nx⟩:=jis.yld H' i l x H2 ab hl y
  obtain⟨bl,bv,bf,rfl,bi,blen,bsub,buse⟩:=N4 (K:=K) ix eb
  obtain⟨fps3,r3,q3⟩:=Rel.setAll (is:=T.slots) (r'.grow s2) bi blen hT fun j hj p hp z=>by
   obtain⟨n1,n2⟩:=nx p (bsub p z)
   have:=(r'.own j hj p hp).1
   unfold Wb at this;rw[if_neg n2] at this
   exact n1 this
  refine buse _ _ ⟨_,fps3,_,o,r3,eo,?_⟩
  have keep:∀j,j∉T.slots++W->(Xm T.slots bv σ')[j]?=σ[j]?/\Kep (fps3 j) (fps j):=fun j hj=>⟨(q3 j (subT j hj)).1.trans (q' j hj).1,(q3 j (subT j hj)).2.trans (q' j hj).2⟩
  cases o with
  | nx s4=>exact fun fps4 σ4 H4 r4 q4=>⟨fps4,s4,r4,by rw[hr];exact e',fun j hj=>⟨(q4 j (subW j hj)).1.trans (keep j hj).1,(q4 j (subW j hj)).2.trans (keep j hj).2⟩⟩
  | ct s4=>exact fun fps4 σ4 H4 r4 q4=>⟨fps4,s4,r4,by rw[hr];exact e',fun j hj=>⟨(q4 j (subW j hj)).1.trans (keep j hj).1,(q4 j (subW j hj)).2.trans (keep j hj).2⟩⟩
  | bk s4=>
   cases e'
   exact fun fps4 σ4 H4 r4 q4=>k fps4 σ4 H4 r4 fun j hj=>⟨(q4 j (subW j hj)).1.trans (keep j hj).1,(q4 j (subW j hj)).2.trans (keep j hj).2⟩
  | rt v=>
   cases e'
   exact k
end
section
variable {X:Cx} {O W:List Nat} {tg iter:Expr} {body:List Stmt} {fi:XL} {T:Tgt} {fb:XS} {pos:Pos}
theorem X0(hp:PassesOwn (model X.prog X.w) X.A X.env X.xe)(hc:X.calm=true)(hi:VI X tg iter fi)(hg:PG X tg (gT X.K T))(hb:VSs X O W body fb)(hT:∀i∈T.slots,i∉O:=by decide)
  (hs:∀x,foldedSetIterable iter X.env x=pure x:=by intro _;rfl):VS X O (T.slots++W) (.For tg iter body [] pos) (XQ O fi T fb):=PS.imp (Jb hp hc hi hg hb hs) fun D σ H ⟨H0,fps,s,out,r,e,k⟩=>by
 obtain⟨ls,e1,e⟩:=Zg e
 refine⟨Ow O fps,YG O s,ls,r.owMut,r.envO,e1,fun J H1 s1 jis=>?_⟩
 exact R1 (r.grow s1).frame jis e hT (k.less (r.grow s1).under)
end
def YW(c:XT)(fb:XS):Nat->ZU->Option Out
 | 0,_=>none
 | n+1,s=>(c s).bind fun k=>if k=true then(fb s).bind fun o=>match o with | .nx s2=>YW c fb n s2 | .ct s2=>YW c fb n s2 | .bk s2=>some (.nx s2) | .rt v=>some (.rt v) else some (.nx s)
theorem Uh{c:XT}{fb:XS}:∀{n:Nat}{s:ZU}{o:Out},YW c fb n s=some o->YW c fb (n+1) s=some o
 | 0,_,_,h=>by cases h
 | n+1,s,o,h=>by
  unfold YW at h ⊢
  obtain⟨k,e1,h⟩:=Zg h
  rw[e1]
  cases k with
  | false=>exact h
  | true=>
   rw[if_pos rfl] at h
   obtain⟨o1,e2,h⟩:=Zg h
   simp only[Option.bind_some,if_true,e2]
   cases o1 with
   | nx s2=>exact Uh h
   | ct s2=>exact Uh h
   | bk s2=>exact h
   | rt v=>exact h
theorem Pg{c:XT}{fb:XS}{n m:Nat}{s:ZU}{o:Out}(h:YW c fb n s=some o)(hm:n<=m):YW c fb m s=some o:=by
 induction m with
 | zero=>
  have:n=0:=by omega
  subst this;exact h
 | succ m ih=>
  by_cases e:n=m+1
  ·subst e;exact h
  ·exact Uh (ih (by omega))
open Classical in
noncomputable def VH(c:XT)(fb:XS):XS:=fun s=>if h:∃n,(YW c fb n s).isSome=true then YW c fb h.choose s else none
theorem Ph{c:XT}{fb:XS}{n:Nat}{s:ZU}{o:Out}(h:YW c fb n s=some o):VH c fb s=some o:=by
 have ex:∃n,(YW c fb n s).isSome=true:=⟨n,by rw[h];rfl⟩
 unfold VH;rw[dif_pos ex]
 obtain⟨o',e⟩:=Option.isSome_iff_exists.mp ex.choose_spec
 rw[e]
 rcases Nat.le_total n ex.choose with hl | hl
 ·rw[Pg h hl] at e;exact e.symm
 ·rw[Pg e hl] at h;exact h
section
variable {X:Cx} {O W:List Nat} {c:Expr} {body:List Stmt} {fc:XT} {fb:XS} {pos:Pos}
theorem R3(hp:PassesOwn (model X.prog X.w) X.A X.env X.xe)(hc:VT X c fc)(hb:VSs X O W body fb):VS X O W (.While c body [] pos) (VH fc fb):=PS.imp (Ja hp hc hb) fun D σ H ⟨H0,fps,s,out,r,e,k⟩=>by
 unfold VH at e
 split at e
 case isFalse=>cases e
 rename_i ex
 generalize ex.choose=n at e
 refine⟨fun m σ' H'=>∃fps' s',Rel X.K O H0 fps' s' σ' H'/\YW fc fb m s'=some out/\∀j,j∉W->σ'[j]?=σ[j]?/\Kep (fps' j) (fps j),⟨n,fps,s,r,e,fun j _=>⟨rfl,Kep.refl _⟩⟩,?_⟩
 rintro m σ' H' ⟨fps',s',r',e',q'⟩
 cases m with
 | zero=>cases e'
 | succ m=>
  unfold YW at e'
  obtain⟨b,e1,e'⟩:=Zg e'
  refine⟨fun _=>False,s',b,fun _ z=>z.elim,r'.env,e1,fun H2 s2=>?_⟩
  cases b with
  | false=>
   rw[if_neg Bool.false_ne_true] at e' ⊢
   cases e'
   exact k fps' σ' H2 (r'.grow s2) q'
  | true=>
   rw[if_pos rfl] at e' ⊢
   obtain⟨o,eo,e'⟩:=Zg e'
   refine⟨fun σ2 H2=>∃fps2 s2,Rel X.K O H0 fps2 s2 σ2 H2/\YW fc fb m s2=some out/\∀j,j∉W->σ2[j]?=σ[j]?/\Kep (fps2 j) (fps j),fun σ2 H2 h2=>⟨m,Nat.lt_succ_self m,h2⟩,H0,fps',s',o,r'.grow s2,eo,?_⟩
   cases o with
   | nx s4=>exact fun fps4 σ4 H4 r4 q4=>⟨fps4,s4,r4,e',fun j hj=>⟨(q4 j hj).1.trans (q' j hj).1,(q4 j hj).2.trans (q' j hj).2⟩⟩
   | ct s4=>exact fun fps4 σ4 H4 r4 q4=>⟨fps4,s4,r4,e',fun j hj=>⟨(q4 j hj).1.trans (q' j hj).1,(q4 j hj).2.trans (q' j hj).2⟩⟩
   | bk s4=>
    cases e'
    exact fun fps4 σ4 H4 r4 q4=>k fps4 σ4 H4 r4 fun j hj=>⟨(q4 j hj).1.trans (q' j hj).1,(q4 j hj).2.trans (q' j hj).2⟩
   | rt v=>cases e';exact k
end
end VL
namespace VL
open PySem PySem.Spec PyProof.Rows L2
variable {K:PySem.W.Frag}
section
variable {O:List Nat} {H0 H H':Hp} {fps:Nat->List Addr} {s:ZU} {σ:Sc}
theorem Rel.lst_at(r:Rel K O H0 fps s σ H){i:Nat}(hi:i∈O){m:List PV}(e:s[i]?=some (some (.lst m))):∃p xs fq,σ[i]?=some (some (.ref p))/\H p=some (.lst xs)/\Iss K H m xs fq/\fps i=p::fq:=by
 obtain⟨v,a,b⟩:=r.is i _ e
 obtain⟨p,xs,fq,rfl,hp,hm,ef⟩:=b.lst_inv
 exact⟨p,xs,fq,a,hp,hm,ef⟩
theorem Rel.dT_at(r:Rel K O H0 fps s σ H){i:Nat}(hi:i∈O){ks:List (List Y4)}{m:List PV}(e:s[i]?=some (some (.dT ks m))):∃p kvs fq,σ[i]?=some (some (.ref p))/\H p=some (.dT kvs)/\kvs.map (·.1)=ks/\Iss K H m (kvs.map (·.2)) fq/\fps i=p::fq:=by
 obtain⟨v,a,b⟩:=r.is i _ e
 obtain⟨p,xs,fq,rfl,hp,hk,hm,ef⟩:=b.dT_inv
 refine⟨p,xs,fq,a,?_,hk,hm,ef⟩
 have mu:=(r.own i hi p (by rw[ef];exact List.mem_cons_self)).2
 rcases hp with hp | ⟨o,hp⟩
 ·exact hp
 ·rw[hp] at mu;exact mu.elim
theorem Sj{α:Type}{l:List α}{i:Nat}{a:α}(h:l[i]?=some a):i<l.length:=(List.getElem?_eq_some_iff.mp h).1
theorem TK.upd'{p:Addr}{o:HO}(mu:WY (H p)):TK2 H (L2.upd H p o):=⟨fun b xs h=>by
 rw[upd_ne (fun z=>by rw[z] at h;rw[h] at mu;exact mu)];exact h,fun b o xs h=>by
 rw[upd_ne (fun z=>by rw[z] at h;rw[h] at mu;exact mu)];exact h,fun b o x h=>by
 rw[upd_ne (fun z=>by rw[z] at h;rw[h] at mu;exact mu)];exact h⟩
theorem RdK.upd_ne{p q:Addr}{o:HO}(ne:q≠p):RdK H (L2.upd H p o) q:=RdK.of fun u hu=>by rw[L2.upd_ne ne];exact hu
theorem Rel.relist(r:Rel K O H0 fps s σ H){i:Nat}(hi:i∈O){m m':List PV}(e:s[i]?=some (some (.lst m))){p:Addr}{fq fq':List Addr}{xs':List V}(ef:fps i=p::fq)(hv:σ[i]?=some (some (.ref p)))
  (h':Iss K H m' xs' fq') (nd:(p::fq').Nodup) (hf:∀q∈fq',q∈fq\/((H0 q=none/\WY (H q))/\∀j,q∉fps j)):Rel K O H0 (S2 fps s.length i (p::fq')) (s.set i (some (.lst m'))) σ (L2.upd H p (.lst xs')):=by
 have hp:p∈fps i:=by rw[ef];exact List.mem_cons_self
 have mu:=(r.own i hi p hp).2
 have np:p∉fq':=(List.nodup_cons.mp nd).1
 refine r.mutate hi hp hv (Sj e) (Is.lst upd_same (Iss.tr (TK.upd' mu) _ _ _ (fun q hq=>RdK.upd_ne fun z=>np (z▸hq)) h')) nd (fun q hq=>?_) (fun j hj q hq z=>?_) True.intro
 ·rcases List.mem_cons.mp hq with rfl | hq
  ·exact⟨(r.own i hi q hp).1,by rw[upd_same];exact True.intro⟩
  ·have ne:q≠p:=fun z=>np (z▸hq)
   rw[L2.upd_ne ne]
   rcases hf q hq with h | h
   ·exact r.own i hi q (by rw[ef];exact List.mem_cons_of_mem _ h)
   ·exact h.1
 ·rcases List.mem_cons.mp hq with rfl | hq
  ·exact r.dis i hi j hj q hp z
  ·rcases hf q hq with h | h
   ·exact r.dis i hi j hj q (by rw[ef];exact List.mem_cons_of_mem _ h) z
   ·exact h.2 j z
end
def Lp(s:ZU)(i:Nat):Option (List PV):=match s[i]? with | some (some (.lst m))=>some m | _=>none
def K5:PV->Option Int
 | .int k=>some k
 | _=>none
def DQ:PV->Option (List PV)
 | .lst k=>some k
 | _=>none
theorem Ui{s:ZU}{i:Nat}{m:List PV}(h:Lp s i=some m):s[i]?=some (some (.lst m)):=by
 unfold Lp at h;split at h
 ·cases h;assumption
 ·cases h
theorem Tq{a:PV}{k:Int}(h:K5 a=some k):a = .int k:=by
 unfold K5 at h;split at h
 ·cases h;rfl
 ·cases h
theorem O3{a:PV}{k:List PV}(h:DQ a=some k):a = .lst k:=by
 unfold DQ at h;split at h
 ·cases h;rfl
 ·cases h
def gd(c:Bool):Option Unit:=if c=true then some () else none
theorem UA{c:Bool}{u:Unit}(h:gd c=some u):c=true:=by
 unfold gd at h;split at h
 ·assumption
 ·cases h
def YM(i:Nat)(f:XE):XS:=fun s=>(f s).bind fun l=>(Lp s i).bind fun m=>(gd (decide (m.length<=10000))).bind fun _=>some (.nx (s.set i (some (.lst (m++[l])))))
def VJ(i:Nat)(f:XE):XS:=fun s=>(f s).bind fun l=>(DQ l).bind fun n=>(Lp s i).bind fun m=>(gd (decide (m.length+n.length<=10000))).bind fun _=>some (.nx (s.set i (some (.lst (m++n)))))
def Vb(i:Nat)(fk:XE)(f:XE):XS:=fun s=>(fk s).bind fun k=>(f s).bind fun l=>(K5 k).bind fun k=>(Lp s i).bind fun m=>(gd (ZN m&&ZM l&&decide (0<=k/\k<=1000000/\m.length<=10000))).bind fun _=>some (.nx (s.set i (some (.lst (m.take k.toNat++l::m.drop k.toNat)))))
def R4(i:Nat)(fk:XE)(f:XE):XS:=fun s=>(f s).bind fun l=>(fk s).bind fun k=>(K5 k).bind fun k=>(Lp s i).bind fun m=>(gd (ZN m&&ZM l)).bind fun _=>(OF m.length k).map fun j=>.nx (s.set i (some (.lst (m.set j l))))
section
variable {X:Cx} {O:List Nat} {i:Nat} {st:Stmt} {f fk:XE}
theorem CD{H:Hp}{p:Addr}{xs:List V}(h:H p=some (.lst xs)):Cu K "list" (.ref p) H:=.inl ⟨rfl,_,SqL.of h⟩
theorem Pi{s:ZU}{σ:Sc}{fps:Nat->List Addr}{fp:List Addr}:∀j,j∉[i]->σ[j]?=σ[j]?/\Kep (S2 fps s.length i fp j) (fps j):=fun j hj=>⟨rfl,.inl (YC (by simpa using hj))⟩
theorem Vs(h:PS X st (OM (D4 X.K "list" Lb (V9 i) (Vo (tM X.K f) NQ))))(hi:i∈O:=by decide):VS X O [i] st (YM i f):=PS.imp h fun D σ H ⟨H0,fps,s,out,r,e,k⟩=>by
 obtain⟨l,e1,e⟩:=Zg e
 obtain⟨m,em,e⟩:=Zg e
 obtain⟨_,eg,e⟩:=Zg e
 have em:=Ui em
 have hlen:=of_decide_eq_true (UA eg)
 cases e
 obtain⟨p,xs,fq,hv,hp,hm,ef⟩:=r.lst_at hi em
 refine⟨.ref p,hv,CD hp,s,l,r.env,e1,fun y H2 fe s2 i2 d2 n2=>?_⟩
 refine⟨p,xs,y,rfl,rfl,s2 _ _ hp,by rw[hm.len];exact lt_size (by omega),?_⟩
 have r2:=r.grow s2
 have fr:∀q∈fe,∀j,q∉fps j:=fun q hq j z=>r.dom j q z (n2 q hq).1
 refine k _ _ _ (r2.relist hi em ef hv ((hm.mono s2).append (Iss.one i2)) ?_ fun q hq=>?_) Pi
 ·have nd:=r.nd i hi
  rw[ef] at nd;rw[<-List.cons_append]
  exact List.nodup_append.mpr ⟨nd,d2,fun a ha b hb z=>fr b hb i (by rw[ef,<-z];exact ha)⟩
 ·rcases List.mem_append.mp hq with h | h
  ·exact .inl h
  ·exact .inr ⟨⟨Same.off r.same (n2 q h).1,(n2 q h).2⟩,fr q h⟩
theorem Ke(h:PS X st (OM (D4 X.K "list" Lc (V9 i) (Vo (tM X.K f) NQ))))(hi:i∈O:=by decide):VS X O [i] st (VJ i f):=PS.imp h fun D σ H ⟨H0,fps,s,out,r,e,k⟩=>by
 obtain⟨l,e1,e⟩:=Zg e
 obtain⟨n,en,e⟩:=Zg e
 obtain⟨m,em,e⟩:=Zg e
 obtain⟨_,eg,e⟩:=Zg e
 rw[O3 en] at e1;have em:=Ui em
 have hlen:=of_decide_eq_true (UA eg)
 cases e
 obtain⟨p,xs,fq,hv,hp,hm,ef⟩:=r.lst_at hi em
 refine⟨.ref p,hv,CD hp,s,_,r.env,e1,fun y H2 fe s2 i2 d2 n2=>?_⟩
 obtain⟨b,zs,fb,rfl,hb,hz,rfl⟩:=i2.lst_inv
 have hb':H2 b=some (.lst zs):=hb
 refine⟨p,b,xs,zs,rfl,rfl,s2 _ _ hp,hb',by rw[hm.len,hz.len];exact Nat.le_of_lt (lt_size (by omega)),?_⟩
 have r2:=r.grow s2
 have fr:∀q∈fb,∀j,q∉fps j:=fun q hq j z=>r.dom j q z (n2 q (List.mem_cons_of_mem _ hq)).1
 refine k _ _ _ (r2.relist hi em ef hv ((hm.mono s2).append hz) ?_ fun q hq=>?_) Pi
 ·have nd:=r.nd i hi
  rw[ef] at nd;rw[<-List.cons_append]
  exact List.nodup_append.mpr ⟨nd,(List.nodup_cons.mp d2).2,fun a ha b hb z=>fr b hb i (by rw[ef,<-z];exact ha)⟩
 ·rcases List.mem_append.mp hq with h | h
  ·exact .inl h
  ·exact .inr ⟨⟨Same.off r.same (n2 q (List.mem_cons_of_mem _ h)).1,(n2 q (List.mem_cons_of_mem _ h)).2⟩,fr q h⟩
theorem Iss.pureEq{H:Hp}{l:List PV}{xs:List V}{fp:List Addr}(h:Iss K H l xs fp)(hp:ZN l=true):Iss K H l xs []:=by
 have:=Iss.pure _ _ _ hp h
 subst this;exact h
theorem N5{l:List PV}(n:Nat)(h:ZN l=true):ZN (l.take n)=true:=by
 rw[Vr,List.all_eq_true] at *
 exact fun x hx=>h x (List.mem_of_mem_take hx)
theorem N6{l:List PV}(n:Nat)(h:ZN l=true):ZN (l.drop n)=true:=by
 rw[Vr,List.all_eq_true] at *
 exact fun x hx=>h x (List.mem_of_mem_drop hx)
theorem Pj(h:PS X st (OM (D4 X.K "list" Lg (V9 i) (Vo (tF X.K fk) (Vo (tF X.K f) NQ)))))(hi:i∈O:=by decide):VS X O [i] st (Vb i fk f):=PS.imp h fun D σ H ⟨H0,fps,s,out,r,e,k⟩=>by
 obtain⟨kk,e0,e⟩:=Zg e
 obtain⟨l,e1,e⟩:=Zg e
 obtain⟨ki,ek,e⟩:=Zg e
 obtain⟨m,em,e⟩:=Zg e
 obtain⟨_,eg,e⟩:=Zg e
 rw[Tq ek] at e0;have em:=Ui em;have hc:=UA eg;simp only[Bool.and_eq_true,decide_eq_true_eq] at hc
 obtain⟨⟨pm,pl⟩,k0,k1,hlen⟩:=hc
 cases e
 obtain⟨p,xs,fq,hv,hp,hm,ef⟩:=r.lst_at hi em
 refine⟨.ref p,hv,CD hp,fun _=>False,s,_,fun _ z=>z.elim,r.env,e0,fun z H1 fz s1 i1 _=>⟨fun _=>False,s,l,fun _ z=>z.elim,r.env.mono s1,e1,fun y H2 fe s2 i2 _=>?_⟩⟩
 have s12:=s1.trans s2
 obtain⟨rfl,_⟩:=i1.int_inv
 have:=Is.pure _ _ _ pl i2
 subst this
 refine⟨p,xs,ki,y,rfl,rfl,s12 _ _ hp,k0,by omega,by rw[hm.len];exact lt_size (by omega),?_⟩
 have hm':=(hm.mono s12).pureEq pm
 obtain⟨f1,a1,_⟩:=hm'.take ki.toNat
 obtain⟨f2,a2,_⟩:=hm'.drop ki.toNat
 have a1:=a1.pureEq (N5 _ pm)
 have a2:=a2.pureEq (N6 _ pm)
 exact k _ _ _ ((r.grow s12).relist hi em ef hv (a1.append (Iss.cons i2 a2)) (by simp) fun q hq=>by simp at hq) Pi
theorem JN(h:PS X st (NM (tF X.K f) (F0 (V9 i) (tF X.K fk) Ji)))(hi:i∈O:=by decide):VS X O [i] st (R4 i fk f):=PS.imp h fun D σ H ⟨H0,fps,s,out,r,e,k⟩=>by
 obtain⟨l,e0,e⟩:=Zg e
 obtain⟨kk,e1,e⟩:=Zg e
 obtain⟨ki,ek,e⟩:=Zg e
 obtain⟨m,em,e⟩:=Zg e
 obtain⟨_,eg,e⟩:=Zg e
 rw[Tq ek] at e1;have em:=Ui em;have hc:=UA eg;simp only[Bool.and_eq_true] at hc
 obtain⟨pm,pl⟩:=hc
 obtain⟨j,ej,rfl⟩:=map_some e
 obtain⟨p,xs,fq,hv,hp,hm,ef⟩:=r.lst_at hi em
 refine⟨fun _=>False,s,l,fun _ z=>z.elim,r.env,e0,fun y H1 fy s1 i1 _=>?_⟩
 refine⟨.ref p,hv,fun _=>False,s,_,fun _ z=>z.elim,r.env.mono s1,e1,fun z H2 fz s2 i2 _=>?_⟩
 have s12:=s1.trans s2
 obtain⟨rfl,_⟩:=i2.int_inv
 have:=Is.pure _ _ _ pl i1
 subst this
 refine⟨p,xs,ki,j,rfl,rfl,s12 _ _ hp,by rw[hm.len];exact ej,?_⟩
 exact k _ _ _ ((r.grow s12).relist hi em ef hv (Iss.setP j pm pl ((hm.mono s12).pureEq pm) (i1.mono s2)) (by simp) fun q hq=>by simp at hq) Pi
end
theorem Iss.setRow{H:Hp}{o:List V}:∀{m:List PV}{xs:List V}{fq:List Addr}{j:Nat}{n n':List PV}{q:Addr},Iss K H m xs fq->m[j]?=some (.lst n)->xs[j]?=some (.ref q)->fq.Nodup->WY (H q)->ZN n=true->Iss K (L2.upd H q (.lst o)) n' o []->
  Iss K (L2.upd H q (.lst o)) (m.set j (.lst n')) xs fq
 | [],_,_,_,_,_,_,_,e,_,_,_,_,_=>by simp at e
 | a::m,xs,fq,0,n,n',q,h,e,ex,nd,mu,pn,h'=>by
  obtain⟨x,r,f1,f2,rfl,h1,h2,rfl⟩:=h.inv
  simp at e ex
  subst e ex
  obtain⟨p',zs,fz,e,hp,hz,rfl⟩:=h1.lst_inv
  cases e
  have:=Iss.pure _ _ _ pn hz
  subst this
  have nq:q∉f2:=(List.nodup_cons.mp nd).1
  exact Iss.cons (Is.lst upd_same h') (Iss.tr (TK.upd' mu) _ _ _ (fun z hz=>RdK.upd_ne fun e=>nq (e▸hz)) h2)
 | a::m,xs,fq,j+1,n,n',q,h,e,ex,nd,mu,pn,h'=>by
  obtain⟨x,r,f1,f2,rfl,h1,h2,rfl⟩:=h.inv
  simp at e ex
  obtain⟨nd1,nd2,nd3⟩:=List.nodup_append.mp nd
  obtain⟨y,fy,hy,iy,suby⟩:=h2.get e
  rw[ex] at hy;cases hy
  obtain⟨p',zs,fz,e',_,_,rfl⟩:=iy.lst_inv
  cases e'
  have nq:q∉f1:=fun z=>nd3 q z q (suby q List.mem_cons_self) rfl
  exact Iss.cons (Is.tr (TK.upd' mu) _ _ _ (fun z hz=>RdK.upd_ne fun e=>nq (e▸hz)) h1) (Iss.setRow h2 e ex nd2 mu pn h')
def YN(i:Nat)(fa fb:XE)(f:XE):XS:=fun s=>(f s).bind fun l=>(fa s).bind fun a=>(fb s).bind fun b=>(K5 a).bind fun a=>(K5 b).bind fun b=>(Lp s i).bind fun m=>(OF m.length a).bind fun j=>(m[j]?).bind fun r=>(DQ r).bind fun n=>
 (gd (ZN n&&ZM l)).bind fun _=>(OF n.length b).map fun c=>.nx (s.set i (some (.lst (m.set j (.lst (n.set c l))))))
theorem UB{X:Cx}{O:List Nat}{i:Nat}{st:Stmt}{f fa fb:XE}(h:PS X st (NM (tF X.K f) (F0 (Fm (Ef X.K) (V9 i) (tF X.K fa)) (tF X.K fb) Ji)))(hi:i∈O:=by decide):VS X O [i] st (YN i fa fb f):=PS.imp h fun D σ H ⟨H0,fps,s,out,r,e,k⟩=>by
 obtain⟨l,e0,e⟩:=Zg e
 obtain⟨a,e1,e⟩:=Zg e
 obtain⟨b,e2,e⟩:=Zg e
 obtain⟨ai,ea,e⟩:=Zg e
 obtain⟨bi,eb,e⟩:=Zg e
 obtain⟨m,em,e⟩:=Zg e
 obtain⟨j,ej,e⟩:=Zg e
 obtain⟨Ym,en,e⟩:=Zg e
 obtain⟨n,er,e⟩:=Zg e
 obtain⟨_,eg,e⟩:=Zg e
 rw[Tq ea] at e1;rw[Tq eb] at e2;rw[O3 er] at en;have em:=Ui em;have hc:=UA eg;simp only[Bool.and_eq_true] at hc
 obtain⟨pn,pl⟩:=hc
 obtain⟨c,ec,rfl⟩:=map_some e
 obtain⟨p,xs,fq,hv,hp,hm,ef⟩:=r.lst_at hi em
 refine⟨fun _=>False,s,l,fun _ z=>z.elim,r.env,e0,fun y H1 fy s1 i1 _=>?_⟩
 refine⟨.ref p,hv,fun _=>False,s,_,fun _ z=>z.elim,r.env.mono s1,e1,fun z H2 fz s2 i2 _=>?_⟩
 obtain⟨rfl,_⟩:=i2.int_inv
 have s12:=s1.trans s2
 obtain⟨q,f1,hq,iq,subq⟩:=(hm.mono s12).get en
 obtain⟨qa,zs,fz',rfl,hqa,hz,rfl⟩:=id iq.lst_inv
 refine⟨p,xs,ai,.ref qa,rfl,rfl,SqL.of (s12 _ _ hp),?_,fun _=>False,s,_,fun _ z=>z.elim,r.env.mono s12,e2,fun w H3 fw s3 i3 _=>?_⟩
 ·unfold TY;rw[hm.len,ej];exact hq
 obtain⟨rfl,_⟩:=i3.int_inv
 have s123:=s12.trans s3;have r3:=r.grow s123
 have hqf:qa∈fps i:=by rw[ef];exact List.mem_cons_of_mem _ (subq qa List.mem_cons_self)
 have mu:=(r3.own i hi qa hqf).2
 have hqa3:H3 qa=some (.lst zs):=s3 _ _ hqa
 have:=Is.pure _ _ _ pl i1
 subst this
 refine⟨qa,zs,bi,c,rfl,rfl,hqa3,by rw[hz.len];exact ec,?_⟩
 have nd:=r.nd i hi;rw[ef] at nd
 have hqp:qa≠p:=fun z=>(List.nodup_cons.mp nd).1 (z▸subq qa List.mem_cons_self)
 have newrow:Iss X.K (L2.upd H3 qa (.lst (zs.set c y))) (n.set c l) (zs.set c y) []:=Iss.tr (TK.upd' mu) _ _ _ (fun q hq=>by simp at hq) (Iss.setP c pn pl ((hz.mono s3).pureEq pn) (i1.mono (s2.trans s3)))
 have rows:=Iss.setRow (hm.mono s123) en hq (List.nodup_cons.mp nd).2 mu pn newrow
 refine k _ _ _ (r3.mutate (o:=.lst (zs.set c y)) (l':=.lst (m.set j (.lst (n.set c l)))) (fp':=p::fq) hi hqf hv (Sj em) (Is.lst (by rw[L2.upd_ne (Ne.symm hqp)];exact s123 _ _ hp) rows) nd (fun q hq=>?_) (fun j hj q hq z=>r.dis i hi j hj q (by rw[ef];exact hq) z) True.intro) Pi
 refine⟨(r.own i hi q (by rw[ef];exact hq)).1,?_⟩
 by_cases e:q=qa
 ·subst e;rw[upd_same];exact True.intro
 ·rw[L2.upd_ne e];exact(r3.own i hi q (by rw[ef];exact hq)).2
end VL
namespace VL
open PySem PySem.Spec PyProof.Rows L2
variable {K:PySem.W.Frag}
def Gn:PV->Option Y4
 | .int i=>some (.inl i)
 | .str x=>some (.inr x)
 | _=>none
def R5:List PV->Option (List Y4)
 | []=>some []
 | a::r=>(Gn a).bind fun k=>(R5 r).map (k::·)
def N7:PV->Option (List Y4)
 | .tup l=>R5 l
 | _=>none
def kP:Y4->PV
 | .inl i=>.int i
 | .inr x=>.str x
theorem Go{H:Hp}{a:PV}{k:Y4}{v:V}{fp:List Addr}(e:Gn a=some k)(h:Is K H a v fp):v=kV k/\fp=[]:=by
 cases a with
 | int i=>cases e;exact h.int_inv
 | str x=>cases e;exact h.str_inv
 | _=>cases e
theorem O4{H:Hp}:∀{l:List PV}{ks:List Y4}{xs:List V}{fp:List Addr},R5 l=some ks->Iss K H l xs fp->xs=ks.map kV/\fp=[]
 | [],ks,xs,fp,e,h=>by
  cases e
  simpa only[List.map_nil,Iss] using h
 | a::r,ks,xs,fp,e,h=>by
  obtain⟨k,e1,e⟩:=Zg (show(Gn a).bind (fun k=>(R5 r).map (k::·))=some ks from e)
  obtain⟨kr,e2,rfl⟩:=map_some e
  obtain⟨x,rr,f1,f2,rfl,h1,h2,rfl⟩:=h.inv
  obtain⟨rfl,rfl⟩:=Go e1 h1
  obtain⟨rfl,rfl⟩:=O4 e2 h2
  exact⟨rfl,rfl⟩
theorem Lq{H:Hp}{a:PV}{k:List Y4}{v:V}{fp:List Addr}(e:N7 a=some k)(h:Is K H a v fp):∃b,v = .ref b/\H b=some (.tup (k.map kV)):=by
 cases a with
 | tup l=>
  obtain⟨p,xs,rfl,hp,hi⟩:=h.tup_inv
  obtain⟨rfl,_⟩:=O4 (show R5 l=some k from e) hi
  exact⟨p,rfl,hp⟩
 | _=>cases e
theorem DR{H:Hp}(k:Y4):Is K H (kP k) (kV k) []:=by
 cases k with
 | inl i=>exact Is.int i
 | inr x=>exact Is.str x
theorem N8{H:Hp}:∀(ks:List Y4),Iss K H (ks.map kP) (ks.map kV) []
 | []=>Iss.nil
 | k::r=>Iss.cons (f1:=[]) (DR k) (N8 r)
section
variable {κ:Type} [DecidableEq κ]
def R6(ks:List κ)(k:κ):List κ:=if k∈ks then ks else ks++[k]
def R7(ks:List κ)(vs:List PV)(k:κ)(v:PV):List PV:=if k∈ks then(ks.zip vs).map fun z=>if z.1=k then v else z.2 else vs++[v]
theorem any_mem{kvs:List (κ×V)}{k:κ}:(kvs.any fun kv=>decide (kv.1=k))=true↔k∈kvs.map (·.1):=by
 rw[List.any_eq_true,List.mem_map];constructor
 ·rintro⟨x,hx,e⟩;exact⟨x,hx,of_decide_eq_true e⟩
 ·rintro⟨x,hx,e⟩;exact⟨x,hx,decide_eq_true e⟩
theorem Gp{kvs:List (κ×V)}{k:κ}{x:V}:(T5 kvs k x).map (·.1)=R6 (kvs.map (·.1)) k:=by
 unfold T5 R6
 by_cases h:k∈kvs.map (·.1)
 ·rw[if_pos (any_mem.mpr h),if_pos h,List.map_map]
  apply List.map_congr_left
  intro z _
  show(if z.1=k then(z.1,x) else z).1=z.1
  split<;>rfl
 ·rw[if_neg (fun z=>h (any_mem.mp z)),if_neg h,List.map_append];rfl
theorem Gq{H:Hp}{kvs:List (κ×V)}{l:List PV}{k:κ}{a:PV}{x:V}(h:Iss K H l (kvs.map (·.2)) [])(hp:ZN l=true)(ha:Is K H a x [])(pa:ZM a=true):Iss K H (R7 (kvs.map (·.1)) l k a) ((T5 kvs k x).map (·.2)) []:=by
 unfold T5 R7
 by_cases hk:k∈kvs.map (·.1)
 ·rw[if_pos (any_mem.mpr hk),if_pos hk]
  clear hk
  induction kvs generalizing l with
  | nil=>
   have:=h.len
   cases l with
   | nil=>exact Iss.nil
   | cons _ _=>simp at this
  | cons kv r ih=>
   cases l with
   | nil=>have:=h.len;simp at this
   | cons b l=>
    obtain⟨y,rr,f1,f2,e,h1,h2,e2⟩:=h.inv
    cases e;simp only[ZN,Bool.and_eq_true] at hp;have z1:=Is.pure _ _ _ hp.1 h1;have z2:=Iss.pure _ _ _ hp.2 h2
    subst z1 z2
    have ih:=ih h2 hp.2;rw[List.map_cons,List.zip_cons_cons,List.map_cons,List.map_cons,List.map_cons]
    by_cases e:kv.1=k
    ·rw[if_pos e,if_pos e]
     exact Iss.cons (f1:=[]) ha ih
    ·rw[if_neg e,if_neg e]
     exact Iss.cons (f1:=[]) h1 ih
 ·rw[if_neg (fun z=>hk (any_mem.mp z)),if_neg hk,List.map_append]
  exact h.append (Iss.one ha)
end
end VL
namespace VL
open PySem PySem.Spec PyProof.Rows L2
variable {K:PySem.W.Frag}
section
variable {X:Cx} {a b c d:Expr} {fa fb fc fd:XE} {pos:Pos}
theorem O5(hu:X.A.units+64<cLine)(ha:VE X a fa)(hb:VE X b fb):VT X (.Compare a [.Eq] [b] pos) (xB (Zh (V5 false) fa fb)):=U9 (EB hu) (JJ false) ha hb (Ub _)
theorem O6(hu:X.A.units+64<cLine)(ha:VE X a fa)(hb:VE X b fb):VT X (.Compare a [.NotEq] [b] pos) (xB (Zh (V5 true) fa fb)):=U9 (EC hu) (JJ true) ha hb (Ub _)
theorem DS(hu:X.A.units+64<cLine)(ha:VE X a fa)(hb:VE X b fb)(hm:behindInMarks .In b=false:=by with_unfolding_all rfl):VT X (.Compare a [.In] [b] pos) (xB (Zh (Lj false) fa fb)):=U9 (EE hu) (JK false) ha hb hm
theorem JO(hu:X.A.units+64<cLine)(ha:VE X a fa)(hb:VE X b fb)(hm:behindInMarks .NotIn b=false:=by with_unfolding_all rfl):VT X (.Compare a [.NotIn] [b] pos) (xB (Zh (Lj true) fa fb)):=U9 (Kc hu) (JK true) ha hb hm
def FD:PV->Option Bool
 | .bl c=>some c
 | _=>none
theorem JP{a:PV}{k:Bool}(h:FD a=some k):a = .bl k:=by
 unfold FD at h;split at h
 ·cases h;rfl
 ·cases h
def FE(g h:PV->PV->Option PV)(a b c:XE):XE:=fun s=>(a s).bind fun x=>(b s).bind fun y=>((g x y).bind FD).bind fun k=>if k=true then(c s).bind fun z=>h y z else some (.bl false)
theorem JQ{r r':R2}{g h:PV->PV->Option PV}(hr:RB K r g)(hr':RB K r' h):∀σ H Q,tF K (FE g h fa fb fc) σ H Q->Jd r r' (tF K fa) (tF K fb) (tF K fc) σ H Q:=fun σ H Q ⟨Rm,s,l,hd,env,e,k⟩=>by
 obtain⟨x',e1,e⟩:=Zg e
 obtain⟨y',e2,e⟩:=Zg e
 obtain⟨b,e3,e⟩:=Zg e
 obtain⟨z',e3,eb⟩:=Zg e3
 rw[JP eb] at e3
 refine⟨Rm,s,x',hd,env,e1,fun x H1 f1 s1 i1 n1=>⟨Rm,s,y',fun p hp=>Same.mut s1 (hd p hp),env.mono s1,e2,fun y H2 f2 s2 i2 n2=>?_⟩⟩
 refine hr H2 x y x' y' _ f1 f2 (i1.mono s2) i2 e3 _ fun v H3 fp s3 i3 n3=>⟨b,i3.bl_inv.1,?_⟩
 have s123:=s1.trans (s2.trans s3)
 cases b with
 | false=>
  rw[if_neg Bool.false_ne_true] at e ⊢
  cases e
  exact k _ H3 [] s123 (Is.bl _) fun p hp=>by simp at hp
 | true=>
  rw[if_pos rfl] at e ⊢
  obtain⟨w',e4,e⟩:=Zg e
  refine⟨Rm,s,w',fun p hp=>Same.mut s123 (hd p hp),env.mono s123,e4,fun w H4 f4 s4 i4 n4=>?_⟩
  refine hr' H4 y w y' w' l f2 f4 (i2.mono (s3.trans s4)) i4 e Q fun v H5 fp5 s5 i5 n5=>k v H5 fp5 (s123.trans (s4.trans s5)) i5 fun p hp z=>?_
  rcases n5 p hp with q | q | q
  ·exact n2 p q z
  ·exact n4 p q z
  ·exact Xx (Same.mut (s123.trans s4) (hd p z)) q
theorem O7{op op':CmpOp}{r r':R2}{g h:PV->PV->Option PV}(ho:Uv X (compareOp op) r)(ho':Uv X (compareOp op') r')(hr:RB X.K r g)(hr':RB X.K r' h)(ha:VE X a fa)(hb:VE X b fb)(hc:VE X c fc)
  (hm:lastMarks [op,op'] [b,c]=false:=by with_unfolding_all rfl):VE X (.Compare a [op,op'] [b,c] pos) (FE g h fa fb fc):=PE.imp (Je ho ho' ha hb hc hm) (JQ hr hr')
end
section
variable {X:Cx} {a b:Expr} {fa fb:XE} {pos:Pos}
def N9:PV->PV->Option PV
 | .lst m,.lst n=>if m.length+n.length<=10000 then some (.lst (m++n)) else none
 | _,_=>none
def R8:PV->PV->Option PV
 | .lst m,.lst n=>if m.length+n.length<=10000/\ZN m=true/\ZN n=true then some (.lst (m++n)) else none
 | _,_=>none
theorem Lr(ha:VE X a fa)(hb:VE X b fb):VM X (.BinOp a .Add b pos) (Zh R8 fa fb):=PE.imp (Jc Jj ha hb) fun σ H Q ⟨s,l,env,e,k⟩=>by
 obtain⟨x',y',e1,e2,e⟩:=RT e
 refine⟨fun _=>False,s,x',fun _ z=>z.elim,env,e1,fun x H1 f1 s1 i1 _=>⟨fun _=>False,s,y',fun _ z=>z.elim,env.mono s1,e2,fun y H2 f2 s2 i2 _=>?_⟩⟩
 cases x' with
 | lst m=>cases y' with
  | lst n=>
   have e:(if m.length+n.length<=10000/\ZN m=true/\ZN n=true then some (PV.lst (m++n)) else none)=some l:=e
   split at e
   case isFalse=>cases e
   rename_i hl
   cases e
   obtain⟨p,xs,fq,rfl,hp,hi,rfl⟩:=i1.lst_inv
   obtain⟨p',ys,fq',rfl,hp',hi',rfl⟩:=i2.lst_inv
   refine⟨p,p',xs,ys,rfl,rfl,s2 _ _ hp,hp',by rw[hi.len,hi'.len];exact Nat.le_of_lt (lt_size hl.1),fun q hq=>?_⟩
   refine k _ _ [q] (s1.trans (s2.trans (Same.new hq _))) (Is.lst upd_same ((((hi.mono s2).pureEq hl.2.1).append (hi'.pureEq hl.2.2)).mono (Same.new hq _))) (by simp) fun r hr=>?_
   rw[List.mem_singleton.mp hr]
   exact⟨Same.off (s1.trans s2) hq,by rw[upd_same];exact True.intro⟩
  | _=>cases e
 | _=>cases e
def Ma:PV->PV->Option PV
 | .lst m,.int k=>if ZN m=true/\-1000000<=k/\k<=1000000/\m.length*k.toNat<=10000 then some (.lst (List.replicate k.toNat m).flatten) else none
 | _,_=>none
theorem Iss.rep{H:Hp}{m:List PV}{xs:List V}(h:Iss K H m xs []):∀k:Nat,Iss K H (List.replicate k m).flatten (List.replicate k xs).flatten []
 | 0=>Iss.nil
 | k+1=>by
  rw[List.replicate_succ,List.replicate_succ,List.flatten_cons,List.flatten_cons]
  exact h.append (Iss.rep h k)
theorem JR(ha:VE X a fa)(hb:VE X b fb):VM X (.BinOp a .Mult b pos) (Zh Ma fa fb):=PE.imp (Jc Ej ha hb) fun σ H Q ⟨s,l,env,e,k⟩=>by
 obtain⟨x',y',e1,e2,e⟩:=RT e
 refine⟨fun _=>False,s,x',fun _ z=>z.elim,env,e1,fun x H1 f1 s1 i1 _=>⟨fun _=>False,s,y',fun _ z=>z.elim,env.mono s1,e2,fun y H2 f2 s2 i2 _=>?_⟩⟩
 cases x' with
 | lst m=>cases y' with
  | int n=>
   have e:(if ZN m=true/\-1000000<=n/\n<=1000000/\m.length*n.toNat<=10000 then some (PV.lst (List.replicate n.toNat m).flatten) else none)=some l:=e
   split at e
   case isFalse=>cases e
   rename_i hl
   cases e
   obtain⟨p,xs,fq,rfl,hp,hi,rfl⟩:=i1.lst_inv
   refine⟨p,n,xs,rfl,i2.int_inv.1,s2 _ _ hp,by omega,by omega,by rw[hi.len];exact Nat.le_of_lt (lt_size hl.2.2.2),fun q hq=>?_⟩
   refine k _ _ [q] (s1.trans (s2.trans (Same.new hq _))) (Is.lst upd_same ((Iss.rep ((hi.mono s2).pureEq hl.1) n.toNat).mono (Same.new hq _))) (by simp) fun r hr=>?_
   rw[List.mem_singleton.mp hr]
   exact⟨Same.off (s1.trans s2) hq,by rw[upd_same];exact True.intro⟩
  | _=>cases e
 | _=>cases e
end
theorem Iss.fps{H:Hp}:∀{ls:List PV}{vs:List V}{fp:List Addr},Iss K H ls vs fp->∃fps:Nat->List Addr,(∀(i:Nat) l,ls[i]?=some l->∃v,vs[i]?=some v/\Is K H l v (fps i))/\∀i,ls.length<=i->fps i=[]
 | [],vs,fp,h=>⟨fun _=>[],fun i l e=>by simp at e,fun _ _=>rfl⟩
 | a::ls,vs,fp,h=>by
  obtain⟨x,r,f1,f2,rfl,h1,h2,rfl⟩:=h.inv
  obtain⟨fps,p1,p2⟩:=h2.fps
  refine⟨fun i=>match i with | 0=>f1 | k+1=>fps k,fun i l e=>?_,fun i hi=>?_⟩
  ·cases i with
   | zero=>simp at e;subst e;exact⟨x,rfl,h1⟩
   | succ k=>
    obtain⟨v,a,b⟩:=p1 k l (by simpa using e)
    exact⟨v,by simpa using a,b⟩
  ·cases i with
   | zero=>simp at hi
   | succ k=>exact p2 k (by simpa using hi)
def Yv(m:Nat)(ls:List PV):ZU:=ls.map some++List.replicate (m-ls.length) none
def Xn:Out->Option PV
 | .rt v=>some v
 | .nx _=>some .non
 | _=>none
def YU(m:Nat)(f:XS):List PV->Option PV:=fun ls=>(f (Yv m ls)).bind Xn
theorem Ls{N:List Str}{n:Nat}{O W:List Nat}{f:XS}{vs:List V}{H:Hp}{Q:VK}{E:XK}(hO:∀i∈O,n<=i)(h:Yz K (YU N.length f) n vs H Q E):FC K O W f { nx:=fun _ H'=>Q .non H',rt:=Q } (L2.start N vs) H:=by
 obtain⟨hl,ls,fp,l,hi,e,q⟩:=h
 obtain⟨out,e1,e2⟩:=Zg e
 obtain⟨fps,p1,p2⟩:=hi.fps
 have hlen:=hi.len
 have hout:∀i:Nat,ls.length<=i->∀l,(Yv N.length ls)[i]?≠some (some l):=fun i hi l z=>by
  unfold Yv at z;rw[List.getElem?_append_right (by simpa using hi),List.getElem?_replicate] at z
  split at z<;>cases z
 have rel:Rel K O H fps (Yv N.length ls) (L2.start N vs) H:=by
  refine⟨Same.refl H,?_,fun i a z=>?_,fun i hne=>?_,fun i hi=>?_,fun i hi p hp=>?_,fun i hi j hj p hp=>?_⟩
  ·unfold Yv L2.start;simp[hlen]
  ·by_cases hil:i<ls.length
   ·unfold Yv at z
    rw[List.getElem?_append_left (by simpa using hil),List.getElem?_map] at z
    cases q:ls[i]? with
    | none=>rw[q] at z;cases z
    | some b=>
     rw[q] at z;cases z
     obtain⟨v,a1,b1⟩:=p1 i a q
     refine⟨v,?_,b1⟩
     unfold L2.start
     rw[List.getElem?_append_left (by simpa [hlen] using hil),List.getElem?_map,a1];rfl
   ·exact absurd z (hout i (by omega) a)
  ·by_cases hil:i<ls.length
   ·exact absurd (by unfold Yv;rw[List.getElem?_append_left (by simpa using hil),List.getElem?_map,List.getElem?_eq_getElem hil];rfl) (hne ls[i])
   ·exact p2 i (by omega)
  ·rw[p2 i (by have:=hO i hi;omega)];exact List.nodup_nil
  ·rw[p2 i (by have:=hO i hi;omega)] at hp;simp at hp
  ·rw[p2 i (by have:=hO i hi;omega)] at hp;simp at hp
 refine⟨H,fps,Yv N.length ls,out,rel,e1,?_⟩
 cases out with
 | nx s'=>
  cases e2
  exact fun fps' σ' H' r' _=>q .non H' [] r'.same Is.non List.nodup_nil fun p hp=>by simp at hp
 | rt v=>
  cases e2
  exact fun v fp H' sm i d n=>q v H' fp sm i d n
 | bk s'=>cases e2
 | ct s'=>cases e2
section
variable {P:Program} {w:World} {mg:Str->Option Value} {base:Heap}
theorem Z3{x:Str}{st:Stmt}{N ps:List Str}{k n:Nat}{O W:List Nat}(m:Nat)(f:XS)(D:Def K mg x st)(S:ZH N ps (Zp st))
  (hb:∀(kV doc pm:Value)(an:Option Addr)(cdv ct:Value)(us:List Value),us.length=ps.length->bindArgs (PySem.W.fnOf x x (Wv st) (Xf st) (Zp st) .none kV doc pm an cdv ct) ⟨us,[]⟩=pure (ps.zip us))
  (hn:ps.length=n) (hm:N.length=m) (hO:∀i∈O,n<=i)
  (hbody:∀(fa:Addr)(cdv:Value)(A:Around)(outer:List Env)(s:Shared)(H:Hp)(E:XK),Room k (A.deeper (envOfC x (Zp st) s.heap.objs.size fa cdv))->VSs (QP Lf P w K mg base N x (Zp st) fa cdv A outer s H E).nox O W (Xf st) f) :
  YF P w K mg base x ps (Yz K (YU m f) n) (k+1):=by
 subst hm
 refine D.cal S hb (fun vs H Q E h=>by rw[hn];exact h.1) fun fa cdv A outer s H vs Q E hr h=>⟨_,hbody fa cdv A outer s H E hr,Ls hO h⟩
end
end VL
namespace VL
open PySem PySem.Spec PyProof.Rows L2
variable {K:PySem.W.Frag}
theorem Inv.thaw{X:Cx}{pins:List (Addr×Obj)}{σ:Sc}{H:Hp}{s:Shared}{d:Addr}{kvs:List (List Y4×V)}{o:Obj}(I:L2.Inv X pins σ H s)(hd:H d=some (.frz o (.dT kvs)))(h0:∀o u,X.H₀ d≠some (.frz o u)) :
  L2.Inv X pins σ (upd H d (.dT kvs)) s:=by
 have ne:∀b u,H b=some u->(∀o v,u≠.frz o v)->b≠d:=fun b u q n z=>by rw[z,hd] at q;exact n _ _ (Option.some.inj q).symm
 have nn:∀b,H b=none->b≠d:=fun b q z=>by rw[z,hd] at q;cases q
 have hok:HOk X.prog X.w (upd H d (.dT kvs)) s.heap:=fun b u q=>by
  have hown:∀c y,H c=some (.own y)->upd H d (.dT kvs) c=some (.own y):=fun c y z=>by rw[upd_ne (ne c _ z fun _ _ z=>nomatch z)];exact z
  have htup:∀c xs,H c=some (.tup xs)->upd H d (.dT kvs) c=some (.tup xs):=fun c y z=>by rw[upd_ne (ne c _ z fun _ _ z=>nomatch z)];exact z
  by_cases hb:b=d
  ·subst hb
   rw[upd_same] at q;cases q
   obtain⟨_,x⟩:=(show ObjOk X.prog X.w H s.heap b (.frz o (.dT kvs)) from I.hok b _ hd)
   exact ObjOk.stay x (fun _ _ _ z=>z) (fun c z=>hown c _ z) htup
  ·rw[upd_ne hb] at q
   exact(I.hok b u q).stay (fun _ _ _ z=>z) (fun c z=>hown c _ z) htup
 refine⟨I.ok,I.os,I.bare,⟨I.base.keep,I.base.slot,fun b o q n hx=>?_,I.base.there,fun b xs q=>?_,fun b o u q=>?_,fun b ps q=>?_⟩,I.loc,I.cell,?_,fun x c e=>?_,fun p hp=>?_,hok,I.len⟩
 ·have z:=I.base.free b o q n hx
  rw[upd_ne (nn b z)];exact z
 ·have z:=I.base.tups b xs q
  rw[upd_ne (ne b _ z fun _ _ z=>nomatch z)];exact z
 ·have z:=I.base.frzs b o u q
  have hb:b≠d:=fun e=>h0 o u (by rw[<-e];exact q)
  rw[upd_ne hb];exact z
 ·obtain⟨more,z⟩:=I.base.tbls b ps q
  exact⟨more,by rw[upd_ne (ne b _ z fun _ _ z=>nomatch z)];exact z⟩
 ·rw[upd_ne (nn _ I.free)];exact I.free
 ·rw[upd_ne (nn _ (I.freeC x c e))];exact I.freeC x c e
 ·obtain⟨a,b,c⟩:=I.pin p hp
  exact⟨a,by rw[upd_ne (nn _ b)];exact b,c⟩
def thaw(d:Addr)(kvs:List (List Y4×V))(D:U6):U6 where
 nx:=fun σ H=>(∃o,H d=some (.frz o (.dT kvs)))/\D.nx σ (upd H d (.dT kvs))
 bk:=fun σ H=>(∃o,H d=some (.frz o (.dT kvs)))/\D.bk σ (upd H d (.dT kvs))
 ct:=fun σ H=>(∃o,H d=some (.frz o (.dT kvs)))/\D.ct σ (upd H d (.dT kvs))
 rt:=fun v H=>(∃o,H d=some (.frz o (.dT kvs)))/\D.rt v (upd H d (.dT kvs))
def Sk(k:List Y4):PV:=.tup (k.map kP)
theorem JS{Rm:Addr->Prop}{H1:Hp}{d:Addr}{o:Obj}{kvs:List (List Y4×V)}(hd:H1 d=some (.frz o (.dT kvs)))(hn:¬Rm d):DP K Rm H1 (Er d o kvs) ((kvs.map (·.1)).map Sk):=by
 refine⟨fun H' ab=>⟨ab d _ hd hn,by simp⟩,fun H' i l ab hl=>⟨ab d _ hd hn,by have:=(List.getElem?_eq_some_iff.mp hl).1;simpa using this⟩,fun H' i l x H'' ab hl y=>?_⟩
 obtain⟨rfl,b,k,v,hk,rfl,hb⟩:=y
 rw[List.getElem?_map,List.getElem?_map,hk] at hl;cases hl
 exact⟨Same.refl _,[],Is.tup hb (N8 k),fun p hp=>by simp at hp⟩
def Pk:PV->Option (List PV)
 | .dT ks _=>some (ks.map Sk)
 | _=>none
theorem Rd.dT_inj{H:Hp}{p:Addr}{xs ys:List (List Y4×V)}(a:Rd H p (.dT xs))(b:Rd H p (.dT ys)):xs=ys:=by
 rcases a with a | ⟨o,a⟩<;>rcases b with b | ⟨o',b⟩<;>rw[a] at b<;>cases b<;>rfl
theorem RdK.swap{H H':Hp}{d:Addr}{kvs:List (List Y4×V)}(h:Rd H d (.dT kvs))(h':Rd H' d (.dT kvs))(hs:∀b,b≠d->H' b=H b)(p:Addr):RdK H H' p:=by
 by_cases hp:p=d
 ·subst hp
  refine⟨fun xs z=>?_,fun k z=>?_,fun k z=>?_⟩
  ·rcases h with h | ⟨o,h⟩<;>rw[h] at z<;>cases z
  ·rcases h with h | ⟨o,h⟩<;>rcases z with z | ⟨o',z⟩<;>rw[h] at z<;>cases z
  ·rw[<-Rd.dT_inj h z];exact h'
 ·exact RdK.of fun o z=>by rw[hs p hp];exact z
theorem TK2.swap{H H':Hp}{d:Addr}{kvs:List (List Y4×V)}(h:Rd H d (.dT kvs))(hs:∀b,b≠d->H' b=H b):TK2 H H':=by
 have ne:∀b u,H b=some u->(∀k,u≠.dT k)->(∀o k,u≠.frz o (.dT k))->b≠d:=fun b u q n n' z=>by
  rw[z] at q
  rcases h with h | ⟨o,h⟩<;>rw[h] at q<;>cases q
  ·exact n _ rfl
  ·exact n' _ _ rfl
 exact⟨fun b xs z=>by rw[hs b (ne b _ z (fun _ z=>nomatch z) fun _ _ z=>nomatch z)];exact z,fun b o xs z=>by rw[hs b (ne b _ z (fun _ z=>nomatch z) fun o k z=>by cases z)];exact z,fun b o xs z=>by rw[hs b (ne b _ z (fun _ z=>nomatch z) fun o k z=>by cases z)];exact z⟩
end VL
namespace VL
open PySem PySem.Spec PyProof.Rows L2
variable {K:PySem.W.Frag}
section
variable {X:Cx} {O:List Nat} {tg elt iter:Expr} {ifs:List Expr} {scope:Scope} {pos:Pos} {fi:XL} {T:Tgt} {ft:XT} {fe:XE}
theorem VN(own fr:List Str)(ix:List Nat){i:Nat}{y:Str}{py spos:Pos}(hN:X.N.Nodup)(hy:X.N[i]?=some y)(hloc:X.env.scope.names.lookup y=some .local)(hcalm:X.calm=true)(hi:VI X tg iter fi)(S:Ue X.N X.env.scope scope own fr ix=true)
  (hg:∀cl C s H ex,PG (ZW X (own++fr) scope cl C s H ex) tg (gT X.K T)) (ht:∀cl C s H ex,E5 (ZW X (own++fr) scope cl C s H ex) ifs ft) (he:∀cl C s H ex,VM (ZW X (own++fr) scope cl C s H ex) elt fe)
  (hT:∀i∈T.slots,i<own.length:=by decide)
  (hsw:swapsWith (.ListComp elt [⟨tg,iter,ifs,0⟩] scope pos) (some (.Name y py)) spos.line X.env=pure true:=by rfl)
  (hs:∀x,foldedSetIterable iter X.env x=pure x:=by intro _;rfl):VS X O [i] (.Assign [.Name y py] (.ListComp elt [⟨tg,iter,ifs,0⟩] scope pos) spos) (Zr i (Zy own.length ix fi T ft fe)):=
 PS.imp (Jr own fr ix hN hy hloc hcalm hi S hg (fun cl C s H ex=>(show K3 (ZW X (own++fr) scope cl C s H ex) ifs (OG X.K ft) from ht cl C s H ex)) (fun cl C s H ex=>(show PE (ZW X (own++fr) scope cl C s H ex) elt (tM X.K fe) from he cl C s H ex)) hsw hs) (Lo (Lm hT))
end
section
variable {P:Program} {w:World} {mg:Str->Option Value} {base:Heap}
theorem EF{x:Str}{st:Stmt}{N ps:List Str}{k n:Nat}{O W:List Nat}{fa:Addr}{fd:FuncData}(m:Nat)(f:XS)(F:Fun K x x st fa fd)(S:ZH N ps (Zp st))
  (hn:ps.length=n) (hm:N.length=m) (hO:∀i∈O,n<=i)
  (hbody:∀(fa:Addr)(cdv:Value)(A:Around)(outer:List Env)(s:Shared)(H:Hp)(E:XK),Room k (A.deeper (envOfC x (Zp st) s.heap.objs.size fa cdv))->VSs (QP Lf P w K mg base N x (Zp st) fa cdv A outer s H E).nox O W (Xf st) f) :
  SX P w K mg base Lf (k+1) fa fd ps (Yz K (YU m f) n):=by
 subst hm
 refine F.ok S (fun vs H Q E h=>by rw[hn];exact h.1) fun cdv A outer s H vs Q E hr h=>⟨_,hbody fa cdv A outer s H E hr,?_⟩
 exact Ls hO h
theorem JT{st:Stmt}{x:Str}{D:List PV->Option PV}{k:Nat}{fa:Addr}(Df:Def K mg "law" st)(hfa:mg "law" = some (.ref fa))
  (hb:∀(kV doc pm:Value)(an:Option Addr)(cdv ct u:Value),bindArgs (PySem.W.fnOf "law" "law" (Wv st) (Xf st) (Zp st) .none kV doc pm an cdv ct) ⟨[u],[]⟩=pure [(x,u)])
  (H:∀(base:Heap)(f:Addr)(fd:FuncData),K.In base->base.Ns mainGlobals mg->Fun K "law" "law" st f fd->SX P w K mg base Lf k f fd [x] (Yz K D 1)) :
  ∃fd:FuncData,(∀(s:Shared)(u:Value),BindsTo s fd ⟨[u],[]⟩ [(x,u)])/\∀base:Heap,K.In base->base.Ns mainGlobals mg->SX P w K mg base Lf k fa fd [x] (Yz K D 1):=by
 obtain⟨f,fd,hm,F⟩:=Df.ex
 have e:=hfa.symm.trans hm;cases e
 refine⟨fd,?_,fun base h1 h2=>H base fa fd h1 h2 F⟩
 obtain⟨oc,od,kV,doc,pm,an,cdv,ct,osl,rfl,lk,hcd⟩:=F.ex
 exact fun s u=>.of_eq (hb kV doc pm an cdv ct u)
end
theorem EG{H:Hp}{a:Addr}{ns:List Int}{D:List PV->Option PV}{E:XK}(hD:D [.cst (iL ns)]=some (.bl true))(hO:El H)(hS:SqL K H a (ns.map V.int)):Yz K D 1 [.ref a] H (fun v _=>v = .bl true) E:=by
 have cs:CsK K H a (ns.map V.int):=by
  rcases hS with h | h
  ·rcases h with h | ⟨o,h⟩
   ·rcases hO a with z | ⟨o,xs,z⟩
    ·rw[h] at z;cases z
    ·rw[h] at z;cases z
   ·exact .inl ⟨o,h⟩
  ·exact .inr h
 exact⟨rfl,[.cst (iL ns)],[],.bl true,Iss.one (Is.cst cs (Iss.ofInts ns)),hD,fun v H' fq _ i _ _=>i.bl_inv.1⟩
end VL
namespace VL
open PySem L2
@[simp] theorem R9(i:Nat)(s:ZU):Za i s=(s[i]?).join:=rfl
@[simp] theorem eC_def(l:PV)(s:ZU):eC l s=some l:=rfl
@[simp] theorem ZV(g:PV->PV->Option PV)(a b:XE)(s:ZU):Zh g a b s=(a s).bind fun x=>(b s).bind fun y=>g x y:=rfl
@[simp] theorem eUn_def(g:PV->Option PV)(a:XE)(s:ZU):SR g a s=(a s).bind g:=rfl
@[simp] theorem Xc(f:XE)(s:ZU):eP f s=(f s).bind fun l=>if ZM l=true then some l else none:=rfl
@[simp] theorem P8(s:ZU):Sg [] s=some []:=rfl
@[simp] theorem Zk(f:XE)(fs:List XE)(s:ZU):Sg (f::fs) s=(f s).bind fun x=>(Sg fs s).map (x::·):=rfl
@[simp] theorem Zz(D:List PV->Option PV)(fs:List XE)(s:ZU):Ze D fs s=(Sg fs s).bind D:=rfl
@[simp] theorem JU(fs:List XE)(s:ZU):Xv fs s=(Sg fs s).map .tup:=rfl
@[simp] theorem JV(fs:List XE)(s:ZU):Wm fs s=(Sg fs s).map .lst:=rfl
@[simp] theorem eSl_def(g:PV->Option Int->Option Int->Option PV)(a:XE)(lo hi:XO)(s:ZU):Vn g a lo hi s=(a s).bind fun x=>(lo s).bind fun l=>(hi s).bind fun u=>g x l u:=rfl
@[simp] theorem xoN_def(s:ZU):Vg s=some none:=rfl
@[simp] theorem gI_ii(g:Int->Int->Int)(i j:Int):gI g (.int i) (.int j)=some (.int (g i j)):=rfl
@[simp] theorem gB_ii(g:Int->Int->Bool)(i j:Int):gB g (.int i) (.int j)=some (.bl (g i j)):=rfl
@[simp] theorem EH(C:Int->Int->Prop)[∀i j,Decidable (C i j)](g:Int->Int->Int)(i j:Int):Jy C g (.int i) (.int j)=if C i j then some (.int (g i j)) else none:=rfl
@[simp] theorem gIx_ti(l:List PV)(i:Int):ZS (.tup l) (.int i)=TY l i:=rfl
@[simp] theorem gIx_li(l:List PV)(i:Int):ZS (.lst l) (.int i)=TY l i:=rfl
@[simp] theorem gIx_ci(l:List PV)(i:Int):ZS (.cst l) (.int i)=TY l i:=rfl
@[simp] theorem XR(f:XE)(s:ZU):xB f s=(f s).bind FD:=by
 unfold xB
 cases f s with
 | none=>rfl
 | some a=>cases a<;>rfl
@[simp] theorem Qa(b:Bool):FD (.bl b)=some b:=rfl
@[simp] theorem O8(a b:XT)(s:ZU):S1 a b s=(a s).bind fun c=>if c=true then b s else some false:=rfl
@[simp] theorem P9(a b:XT)(s:ZU):Ge a b s=(a s).bind fun c=>if c=true then some true else b s:=rfl
@[simp] theorem xNot_def(a:XT)(s:ZU):Cz a s=(a s).map not:=rfl
@[simp] theorem Tr(a b:XE)(s:ZU):Ta a b s=(xB a s).bind fun c=>if c=true then b s else some (.bl false):=rfl
@[simp] theorem eOr_def(a b:XE)(s:ZU):CY a b s=(xB a s).bind fun c=>if c=true then some (.bl true) else b s:=rfl
@[simp] theorem eNot_def(a:XE)(s:ZU):CA a s=(xB a s).map fun c=>.bl !c:=rfl
@[simp] theorem UC(c:XT)(a b:XE)(s:ZU):OY c a b s=(c s).bind fun k=>if k=true then a s else b s:=rfl
@[simp] theorem eIsN_def(neg:Bool)(a:XE)(s:ZU):Ka neg a s=(a s).bind (JD neg):=rfl
@[simp] theorem sNext_def(s:ZU):Y5 s=some (.nx s):=rfl
@[simp] theorem Qb(f g:XS)(s:ZU):Zs f g s=(f s).bind fun o=>match o with | .nx s'=>g s' | r=>some r:=rfl
@[simp] theorem Xg(c:XT)(f g:XS)(s:ZU):Rr c f g s=(c s).bind fun k=>if k=true then f s else g s:=rfl
@[simp] theorem JW(f:XE)(s:ZU):Yo f s=(f s).map .rt:=rfl
@[simp] theorem Zm(i:Nat)(f:XE)(s:ZU):Zr i f s=(f s).map fun l=>.nx (s.set i (some l)):=rfl
@[simp] theorem retO_rt(v:PV):Xn (.rt v)=some v:=rfl
@[simp] theorem pureV_int(i:Int):ZM (.int i)=true:=rfl
@[simp] theorem pureV_bl(i:Bool):ZM (.bl i)=true:=rfl
@[simp] theorem pureV_str(i:Str):ZM (.str i)=true:=rfl
@[simp] theorem pureV_non:ZM .non=true:=rfl
@[simp] theorem Pl(l:List PV):ZM (.tup l)=ZN l:=by rw[ZM]
@[simp] theorem pureL_nil:ZN []=true:=rfl
@[simp] theorem pureL_cons(a:PV)(l:List PV):ZN (a::l)=(ZM a&&ZN l):=rfl
theorem Pm{α:Type}{l:List α}{f:α->PV}(h:∀a∈l,ZM (f a)=true):ZN (l.map f)=true:=by
 rw[Vr,List.all_map,List.all_eq_true];exact h
@[simp] theorem pureL_iL(l:List Int):ZN (l.map PV.int)=true:=Y8 l
abbrev pP(l:List Int):PV:=.tup (iL l)
abbrev wP(W:List (List Int)):PV:=.tup (W.map pP)
@[simp] theorem Qc(W:List (List Int)):ZN (W.map pP)=true:=Pm fun a _=>by simp
theorem Mc{l:List Int}{k:Nat}(h:k<l.length):(iL l)[k]?=some (.int (Zl l k)):=by
 rw[List.getElem?_map,List.getElem?_eq_getElem h];simp[Zl,List.getD_eq_getElem?_getD,List.getElem?_eq_getElem h]
theorem XC{l:List Int}{k:Nat}(h:k<l.length):TY (iL l) (k:Int)=some (.int (Zl l k)):=Vz (Mc h)
theorem Ts{W:List (List Int)}{k:Nat}(h:k<W.length):TY (W.map pP) (k:Int)=some (pP (ZB W k)):=by
 refine Vz ?_
 rw[List.getElem?_map,RQ h];rfl
@[simp] theorem JX(l:List Int):Y1 [.tup (l.map PV.int)]=some (.int l.sum):=by
 simp[Y1,QU,Wa l]
@[simp] theorem Oa(l:List Int):Y1 [.lst (l.map PV.int)]=some (.int l.sum):=by
 simp[Y1,QU,Wa l]
@[simp] theorem gLen_t(l:List PV):Yb [.tup l]=some (.int l.length):=rfl
@[simp] theorem gLen_l(l:List PV):Yb [.lst l]=some (.int l.length):=rfl
@[simp] theorem gLen_c(l:List PV):Yb [.cst l]=some (.int l.length):=rfl
@[simp] theorem JY(l:List PV):Z5 [.lst l]=some (.tup l):=rfl
@[simp] theorem gTuple_t(l:List PV):Z5 [.tup l]=some (.tup l):=rfl
@[simp] theorem JZ(l:List PV):Uf [.tup l]=if ZN l=true then some (.lst l) else none:=rfl
@[simp] theorem J0(l:List PV):Uf [.lst l]=if ZN l=true then some (.lst l) else none:=rfl
@[simp] theorem gMin2_ii(i j:Int):DO [.int i,.int j]=some (.int (if j<i then j else i)):=rfl
@[simp] theorem gMax2_ii(i j:Int):W6 [.int i,.int j]=some (.int (if j>i then j else i)):=rfl
@[simp] theorem gInt1_b(c:Bool):SS [.bl c]=some (.int (if c then 1 else 0)):=rfl
@[simp] theorem gInt1_i(c:Int):SS [.int c]=some (.int c):=rfl
@[simp] theorem gInst_ii(i:Int):Li [.int i,.ty "int"]=some (.bl true):=rfl
@[simp] theorem gInst_ib(i:Int):Li [.int i,.ty "bool"]=some (.bl false):=rfl
@[simp] theorem gInst_tt(l:List PV):Li [.tup l,.ty "tuple"]=some (.bl true):=rfl
@[simp] theorem gInst_ll(l:List PV):Li [.lst l,.ty "list"]=some (.bl true):=rfl
theorem Gr(n:Nat)(i j:Int):WK (n+1) (.int i) (.int j)=true:=rfl
@[simp] theorem Md(neg:Bool)(i j:Int):V5 neg (.int i) (.int j)=some (.bl (if neg then !decide (i=j) else decide (i=j))):=by
 unfold V5;rw[if_pos (Gr 7 i j)]
 congr 2
 cases neg<;>simp
theorem Pn{α:Type}{T:Tgt}{ft:XT}{fe:XE}{s0:ZU}{q g:α->PV}:∀{ls:List α},(∀a∈ls,∃s1,Va T (q a) s0=some s1/\ft s1=some true/\fe s1=some (g a))->WL T ft fe s0 (ls.map q)=some (ls.map g)
 | [],_=>rfl
 | a::r,h=>by
  obtain⟨s1,h1,h2,h3⟩:=h a List.mem_cons_self
  have ih:=Pn (ls:=r) fun b hb=>h b (List.mem_cons_of_mem _ hb)
  rw[List.map_cons,List.map_cons];unfold WL;rw[h1];simp only[Option.bind_some,h2,if_true,h3,ih,Option.map_some]
theorem Tt{α:Type}{T:Tgt}{ft:XT}{fe:XE}{s0:ZU}{q g:α->PV}{c:α->Bool}:∀{ls:List α},(∀a∈ls,∃s1,Va T (q a) s0=some s1/\ft s1=some (c a)/\(c a=true->fe s1=some (g a)))->WL T ft fe s0 (ls.map q)=some ((ls.filter c).map g)
 | [],_=>rfl
 | a::r,h=>by
  obtain⟨s1,h1,h2,h3⟩:=h a List.mem_cons_self
  have ih:=Tt (ls:=r) fun b hb=>h b (List.mem_cons_of_mem _ hb)
  rw[List.map_cons];unfold WL;rw[h1];simp only[Option.bind_some,h2]
  cases hc:c a with
  | true=>simp[h3 hc,ih,hc]
  | false=>simp[ih,hc]
theorem Z2{α:Type}{n:Nat}{ix:List Nat}{fi:XL}{T:Tgt}{ft:XT}{fe:XE}{s:ZU}(ls:List α)(q g:α->PV)(hfi:fi s=some (ls.map q))(hl:ls.length<=10000)
  (h:∀a∈ls,∃s1,Va T (q a) (Yc n ix s)=some s1/\ft s1=some true/\fe s1=some (g a)):Zy n ix fi T ft fe s=some (.lst (ls.map g)):=by
 unfold Zy;rw[hfi];simp only[Option.bind_some,List.length_map,if_pos hl,Pn h,Option.map_some]
theorem VP{α:Type}{n:Nat}{ix:List Nat}{fi:XL}{T:Tgt}{ft:XT}{fe:XE}{s:ZU}(ls:List α)(q g:α->PV)(c:α->Bool)(hfi:fi s=some (ls.map q))(hl:ls.length<=10000)
  (h:∀a∈ls,∃s1,Va T (q a) (Yc n ix s)=some s1/\ft s1=some (c a)/\(c a=true->fe s1=some (g a))):Zy n ix fi T ft fe s=some (.lst ((ls.filter c).map g)):=by
 unfold Zy;rw[hfi];simp only[Option.bind_some,List.length_map,if_pos hl,Tt h,Option.map_some]
theorem YO{T:Tgt}{fb:XS}:∀{ls:List PV}{s:ZU}(Jv:Nat->ZU->Prop),Jv 0 s->(∀(i:Nat) l st,ls[i]?=some l->Jv i st->∃s1 s2,Va T l st=some s1/\fb s1=some (.nx s2)/\Jv (i+1) s2)->
  ∃s',Wp T fb ls s=some (.nx s')/\Jv ls.length s'
 | [],s,Jv,h0,_=>⟨s,rfl,h0⟩
 | l::r,s,Jv,h0,h=>by
  obtain⟨s1,s2,a,b,c⟩:=h 0 l s rfl h0
  obtain⟨s',d,e⟩:=YO (ls:=r) (s:=s2) (fun i=>Jv (i+1)) c fun i l' st hl hi=>h (i+1) l' st (by simpa using hl) hi
  refine⟨s',?_,e⟩
  unfold Wp;rw[a];simp only[Option.bind_some,b];exact d
theorem WN{n i:Nat}{l:PV}(h:(V6 n)[i]?=some l):i<n/\l = .int (i:Int):=by
 have hi:=(List.getElem?_eq_some_iff.mp h).1
 unfold V6 at hi h;rw[List.length_map,List.length_range] at hi;rw[List.getElem?_map,List.getElem?_range hi] at h
 exact⟨hi,(Option.some.inj h).symm⟩
theorem Qd{lo:Int}{n i:Nat}{l:PV}(h:(W3 lo n)[i]?=some l):i<n/\l = .int (lo+(i:Int)):=by
 have hi:=(List.getElem?_eq_some_iff.mp h).1
 unfold W3 at hi h;rw[List.length_map,List.length_range] at hi;rw[List.getElem?_map,List.getElem?_range hi] at h
 exact⟨hi,(Option.some.inj h).symm⟩
@[simp] theorem WO(n:Nat):(V6 n).length=n:=by unfold V6;simp
@[simp] theorem J1(lo:Int)(n:Nat):(W3 lo n).length=n:=by unfold W3;simp
@[simp] theorem bindT_one(i:Nat)(l:PV)(s:ZU):Va (.one i) l s=some (s.set i (some l)):=rfl
theorem Kf(i j:Nat)(a b:PV)(s:ZU):Va (.many [i,j]) (.tup [a,b]) s=some ((s.set i (some a)).set j (some b)):=rfl
theorem Uj(m:List PV):W9 m=(List.range m.length).map fun(i:Nat)=>.tup [.int (i:Int),m.getD i .non]:=by
 apply List.ext_getElem?
 intro i;rw[List.getElem?_map]
 by_cases h:i<m.length
 ·have:(W9 m)[i]?=some (.tup [.int (i:Int),m[i]]):=by
   unfold W9;rw[List.getElem?_map,List.getElem?_zipIdx,List.getElem?_eq_getElem h]
   simp
  rw[this,List.getElem?_range h];simp[List.getD_eq_getElem?_getD,List.getElem?_eq_getElem h]
 ·rw[List.getElem?_eq_none (by rw[Uy];omega),List.getElem?_eq_none (by simpa using h)];rfl
theorem VQ(m n:List PV)(h:n.length=m.length):Te m n=(List.range m.length).map fun(i:Nat)=>.tup [m.getD i .non,n.getD i .non]:=by
 apply List.ext_getElem?
 intro i;rw[List.getElem?_map]
 by_cases hi:i<m.length
 ·have:(Te m n)[i]?=some (.tup [m[i],n[i]]):=by
   unfold Te
   rw[List.getElem?_map,List.getElem?_zip_eq_some (z:=(m[i],n[i])) |>.mpr ⟨List.getElem?_eq_getElem hi,List.getElem?_eq_getElem (by omega)⟩]
   rfl
  rw[this,List.getElem?_range hi];simp[List.getD_eq_getElem?_getD,List.getElem?_eq_getElem hi,List.getElem?_eq_getElem (show i<n.length by omega)]
 ·rw[List.getElem?_eq_none (by rw[O1];omega),List.getElem?_eq_none (by simpa using hi)];rfl
theorem Vc(l:List Int)(i:Nat)(h:i<l.length):(iL l).getD i .non = .int (Zl l i):=by
 rw[List.getD_eq_getElem?_getD,Mc h];rfl
theorem J2(W:List (List Int))(i:Nat)(h:i<W.length):(W.map pP).getD i .non=pP (ZB W i):=by
 rw[List.getD_eq_getElem?_getD,List.getElem?_map,RQ h];rfl
@[simp] theorem Gs(f:XE)(s:ZU):ZT [f] s=(f s).bind fun a=>(K5 a).bind fun j=>if -1000000<=j/\j<=1000000 then some (V6 j.toNat) else none:=by
 unfold ZT
 cases h:f s with
 | none=>simp[h]
 | some a=>cases a<;>simp[h,K5]
@[simp] theorem Gu(f g:XE)(s:ZU):W8 [f,g] s=(f s).bind fun a=>(g s).bind fun b=>(K5 a).bind fun i=>(K5 b).bind fun j=>if -1000000<=i/\i<=1000000/\-1000000<=j/\j<=1000000 then some (W3 i (j-i).toNat) else none:=by
 unfold W8
 cases h:f s with
 | none=>simp[h]
 | some a=>cases h2:g s with
  | none=>simp[h,h2]
  | some b=>cases a<;>cases b<;>simp[h,h2,K5]
@[simp] theorem Tu(i:Int):K5 (.int i)=some i:=rfl
@[simp] theorem Lu(i:List PV):DQ (.lst i)=some i:=rfl
@[simp] theorem Kg(b:Bool)(f:XE)(s:ZU):Xj b [f] s=(f s).bind fun l=>(seqB b l).map W9:=by
 unfold Xj
 cases h:f s<;>simp[h]
@[simp] theorem xZip_def(b1 b2:Bool)(f g:XE)(s:ZU):U0 b1 b2 [f,g] s=(f s).bind fun l=>(g s).bind fun r=>(seqB b1 l).bind fun m=>(seqB b2 r).map fun n=>Te m n:=by
 unfold U0
 cases h:f s<;>cases h2:g s<;>simp[h,h2]
@[simp] theorem EI(l:List PV):seqB false (.tup l)=some l:=rfl
@[simp] theorem seqB_t(l:List PV):seqB true (.lst l)=some l:=rfl
@[simp] theorem seqB_c(l:List PV):seqB true (.cst l)=some l:=rfl
@[simp] theorem xLst_def(f:XE)(s:ZU):Wo f s=(f s).bind E4:=rfl
@[simp] theorem asS_l(l:List PV):E4 (.lst l)=some l:=rfl
@[simp] theorem asS_c(l:List PV):E4 (.cst l)=some l:=rfl
theorem J3{f:XE}{s:ZU}{l:List PV}(h:f s=some (.tup l)):UZ f s=some l:=by unfold UZ;rw[h]
@[simp] theorem O9(O:List Nat)(fi:XL)(T:Tgt)(fb:XS)(s:ZU):XQ O fi T fb s=(fi (YG O s)).bind fun ls=>Wp T fb ls s:=rfl
@[simp] theorem xTrue_def(s:ZU):ZE s=some true:=rfl
theorem Yt{f:XE}{s:ZU}{n:Nat}(h:f s=some (.int (n:Int)))(hn:n<=10000):ZT [f] s=some (V6 n):=by
 rw[Gs,h];simp only[Option.bind_some,Tu];rw[if_pos ⟨by omega,by omega⟩,Int.toNat_natCast]
theorem Sl{f g:XE}{s:ZU}{i j:Int}(h:f s=some (.int i))(h':g s=some (.int j))(hi : -10000<=i/\i<=10000)(hj : -10000<=j/\j<=10000):W8 [f,g] s=some (W3 i (j-i).toNat):=by
 rw[Gu,h,h'];simp only[Option.bind_some,Tu];rw[if_pos ⟨by omega,by omega,by omega,by omega⟩]
theorem EJ{i j:Int}(h0 : -10000<=i)(h:i<=10000):CMul i j:=by
 refine .inl ?_
 have e:(2^64:Int)=18446744073709551616:=by decide
 rw[e];omega
theorem UD{c:Bool}(h:c=true):gd c=some ():=by unfold gd;rw[if_pos h]
theorem Me{i:Nat}{f:XE}{s:ZU}{m n:List PV}(h:f s=some (.lst n))(hm:Lp s i=some m)(hl:m.length+n.length<=10000):VJ i f s=some (.nx (s.set i (some (.lst (m++n))))):=by
 unfold VJ;rw[h];simp only[Option.bind_some,Lu,hm,UD (decide_eq_true hl)]
theorem WP{i:Nat}{f:XE}{s:ZU}{m:List PV}{l:PV}(h:f s=some l)(hm:Lp s i=some m)(hl:m.length<=10000):YM i f s=some (.nx (s.set i (some (.lst (m++[l]))))):=by
 unfold YM;rw[h];simp only[Option.bind_some,hm,UD (decide_eq_true hl)]
theorem Qe{i:Nat}{fk f:XE}{s:ZU}{m:List PV}{l:PV}{k:Int}(hk:fk s=some (.int k))(h:f s=some l)(hm:Lp s i=some m)(hp:ZN m=true)(hq:ZM l=true)(h0:0<=k)(h1:k<=1000000)(hl:m.length<=10000) :
  Vb i fk f s=some (.nx (s.set i (some (.lst (m.take k.toNat++l::m.drop k.toNat))))):=by
 unfold Vb;rw[hk,h]
 have c:(ZN m&&ZM l&&decide (0<=k/\k<=1000000/\m.length<=10000))=true:=by rw[hp,hq,decide_eq_true ⟨h0,h1,hl⟩];rfl
 simp only[Option.bind_some,Tu,hm,UD c]
theorem Kh{i:Nat}{fk f:XE}{s:ZU}{m:List PV}{l:PV}{k:Int}{j:Nat}(h:f s=some l)(hk:fk s=some (.int k))(hm:Lp s i=some m)(hp:ZN m=true)(hq:ZM l=true)(hj:OF m.length k=some j) :
  R4 i fk f s=some (.nx (s.set i (some (.lst (m.set j l))))):=by
 unfold R4;rw[hk,h]
 have c:(ZN m&&ZM l)=true:=by rw[hp,hq];rfl
 simp only[Option.bind_some,Tu,hm,UD c,hj,Option.map_some]
theorem Qf{i:Nat}{fa fb f:XE}{s:ZU}{m n:List PV}{l:PV}{a b:Int}{j c:Nat}(h:f s=some l)(ha:fa s=some (.int a))(hb:fb s=some (.int b))(hm:Lp s i=some m)(hj:OF m.length a=some j)(hn:m[j]?=some (.lst n))(hp:ZN n=true)(hq:ZM l=true)(hc:OF n.length b=some c) :
  YN i fa fb f s=some (.nx (s.set i (some (.lst (m.set j (.lst (n.set c l))))))):=by
 unfold YN;rw[h,ha,hb]
 have cc:(ZN n&&ZM l)=true:=by rw[hp,hq];rfl
 simp only[Option.bind_some,Tu,Lu,hm,hj,hn,UD cc,hc,Option.map_some]
theorem Tv{n k:Nat}(h:k<n):OF n (k:Int)=some k:=by
 unfold OF
 rw[if_pos (by omega),if_pos (by omega)];rfl
end VL
namespace VL
open PySem PySem.Spec PyProof.Rows L2
variable {K:PySem.W.Frag}
def FF(K:PySem.W.Frag):R2:=fun x y H Q=>∃a b xs ys,x = .ref a/\y = .ref b/\SqT K H a xs/\SqT K H b ys/\xs.length+ys.length<=sizeLine/\
 (xs=[]->Q (.ref b) H)/\(ys=[]->Q (.ref a) H)/\∀p,H p=none->Q (.ref p) (upd H p (.tup (xs++ys)))
theorem UE{X:Cx}:Uv X (binaryOp .Add) (FF X.K):=by
 intro pins s σ H x y v u Q I rx ry h
 obtain⟨a,b,xs,ys,rfl,rfl,ha,hb,hz,q0,q1,q2⟩:=h
 by_cases hx:xs=[]
 ·cases rx
  cases ry
  obtain⟨its,r1,p1,_⟩:=I.tuple ha
  obtain⟨its2,r2,p2,_⟩:=I.tuple hb
  obtain⟨⟨cls,dd,data,sl⟩,ho,hc,n,hd⟩:=id p1
  obtain⟨⟨cls2,dd2,data2,sl2⟩,ho2,hc2,n2,hd2⟩:=id p2
  simp only at hc hd hc2 hd2
  subst hc hd hc2 hd2
  exact concat_meets ⟨_,ho,rfl⟩ ⟨_,ho2,rfl⟩ noFill_tuple_add seq_tuple_add PySem.F.slot_tuple_add PySem.F.entry_tuple_add (PySem.F.args_tuple_add_2 _ _)
   (tuple_addW0 a b its.toArray its2.toArray n n2 dd dd2 sl sl2 (by simp[r1.nil_iff.mpr hx])) ⟨ho,ho2,.ref b,H,I,rfl,q0 hx⟩
 ·exact HN _ _ _ _ _ _ _ _ _ I rx ry ⟨a,b,xs,ys,rfl,rfl,ha,hb,hx,hz,q1,fun _=>q2⟩
def Y6:PV->PV->Option PV
 | .tup m,.tup n=>if m.length+n.length<=10000 then some (.tup (m++n)) else none
 | _,_=>none
theorem UF:RB K (FF K) Y6:=fun H x y a b l fa fb ha hb e Q k=>by
 cases a with
 | tup m=>cases b with
  | tup n=>
   have e:(if m.length+n.length<=10000 then some (PV.tup (m++n)) else none)=some l:=e
   split at e
   case isFalse=>cases e
   rename_i hl
   cases e
   obtain⟨p,xs,rfl,hp,hi⟩:=ha.tup_inv
   obtain⟨p',ys,rfl,hp',hi'⟩:=hb.tup_inv
   refine⟨p,p',xs,ys,rfl,rfl,SqT.of hp,SqT.of hp',by rw[hi.len,hi'.len];exact Nat.le_of_lt (lt_size hl),fun z=>?_,fun z=>?_,fun q hq=>?_⟩
   ·have:m=[]:=List.length_eq_zero_iff.mp (by rw[<-hi.len,z];rfl)
    subst this
    exact k _ _ fb (Same.refl _) hb fun r hr=>.inr (.inl hr)
   ·have:n=[]:=List.length_eq_zero_iff.mp (by rw[<-hi'.len,z];rfl)
    subst this;rw[List.append_nil] at k
    exact k _ _ fa (Same.refl _) ha fun r hr=>.inl hr
   ·exact k _ _ (fa++fb) (Same.new hq _) (Is.tup upd_same ((hi.append hi').mono (Same.new hq _))) fun r hr=>(List.mem_append.mp hr).elim .inl fun z=>.inr (.inl z)
  | _=>cases e
 | _=>cases e
end VL
namespace VL
open PySem
open PySem.Sem (wp)
open PySem.Builtin
theorem Sn:fillsNumberSlot (.type "tuple") "mul" = pure false:=
 fillsNumberSlot_seq (id:="tuple.__mul__") (r:=some (.builtin "tuple.__rmul__")) F.slot_tuple_mul.lookup (by decide +kernel) F.slot_tuple_rmul.lookup (by decide +kernel)
theorem Ob:seqRepeat? (.type "tuple")=pure (some (.builtin "tuple.__mul__")):=by
 unfold seqRepeat?
 rw[seqSlot_of (T:="tuple") (name:="__mul__") (id:="tuple.__mul__") F.slot_tuple_mul.lookup (by decide +kernel),seqSlot_of (T:="tuple") (name:="__rmul__") (id:="tuple.__rmul__") F.slot_tuple_rmul.lookup (by decide +kernel)];rfl
theorem Qg(a:Int)(t:Tok)(l:Addr)(items:Array Value)(n:Nat)(dd:Option Addr)(sl:Array (Option Value)) :
  Meets (Builtin.«int.__rmul__» ⟨[.int a t,.ref l],[]⟩) (fun _ R s=>s.heap.get? l=some { cls:=.type "tuple",dict:=dd,data:=.seq items n,slots:=sl }/\R (.ok (.ret Value.notImplemented)) s):=
 .of_wp fun prog w A R s h=>by obtain⟨hp,g,d,tk,os⟩:=s;obtain⟨hl,h⟩:=h;wp_walk;exact⟨_,rfl,h⟩
theorem Qh(l:Addr)(items:Array Value)(n:Nat)(dd:Option Addr)(sl:Array (Option Value))(x:Int)(u:Tok)(h1:1<x)(h2:x<2^63)(he:items.isEmpty=false)(hz:items.size*x.toNat<=sizeLine)
  (ys:Array Value) (hf:List.foldl (fun x1 x2=>x1++x2) #[] (List.replicate x.toNat items)=ys) (hy:ys.size<=sizeLine) :
  Meets (Builtin.«tuple.__mul__» ⟨[.ref l,.int x u],[]⟩) (fun _ R s=>s.heap.get? l=some { cls:=.type "tuple",dict:=dd,data:=.seq items n,slots:=sl }/\R (.ok (.ret (Value.ref s.heap.objs.size))) { s with heap:=s.heap.push { cls:=Value.type "tuple",data:=Data.seq ys },toks:=s.toks }):=
 .of_wp fun prog w A R s h=>by
  obtain⟨hp,g,d,tk,os⟩:=s;obtain⟨hl,h⟩:=h
  have hlen:items.size*x.toNat<=2^40:=by rw[sizeLine_eq] at hz;omega
  have hx:(items.size:Int)*x=((items.size*x.toNat:Nat):Int):=by rw[Int.natCast_mul,Int.toNat_of_nonneg (by omega)]
  wp_walk
  refine wpAny_ite_false (by simp;omega) ?_
  wp_walk
  refine wpAny_ite_false (by simp[he];omega) ?_
  wp_walk
  refine wpAny_ite_false (by simp[he];omega) ?_
  wp_walk
  refine wpAny_ite_false (decide_eq_false (by rw[hx];omega)) ?_
  wp_walk
  refine wpAny_ite_false (decide_eq_false (by rw[hx];unfold Tuple.tupleTooMany;simp only[decide_eq_true_eq];omega)) ?_
  wp_walk
  rw[hf]
  exact⟨_,rfl,h⟩
theorem QV(l:Addr)(items:Array Value)(n:Nat)(dd:Option Addr)(sl:Array (Option Value))(u:Tok) :
  Meets (Builtin.«tuple.__mul__» ⟨[.ref l,.int 1 u],[]⟩) (fun _ R s=>s.heap.get? l=some { cls:=.type "tuple",dict:=dd,data:=.seq items n,slots:=sl }/\R (.ok (.ret (Value.ref l))) s):=
 .of_wp fun prog w A R s h=>by
  obtain⟨hp,g,d,tk,os⟩:=s;obtain⟨hl,h⟩:=h
  wp_walk
  exact⟨_,rfl,h⟩
end VL
namespace VL
open PySem PySem.Spec PyProof.Rows L2
def FG(K:PySem.W.Frag):R2:=fun x y H Q=>∃a k xs,x = .ref a/\y = .int k/\SqT K H a xs/\xs≠[]/\1<=k/\k<2^62/\xs.length*k.toNat<=sizeLine/\
 (k=1->Q (.ref a) H)/\∀p,H p=none->Q (.ref p) (upd H p (.tup (List.replicate k.toNat xs).flatten))
theorem Gv{X:Cx}:Uv X (binaryOp .Mult) (FG X.K):=by
 intro pins s σ H x y v u Q I rx ry h
 obtain⟨a,k,xs,rfl,rfl,ha,hx,h1,h2,hz,q1,q2⟩:=h
 cases rx
 obtain⟨t,rfl⟩:=ry
 obtain⟨its,r1,p1,_⟩:=I.tuple ha
 obtain⟨⟨cls,dd,data,sl⟩,ho,hc,n,hd⟩:=id p1
 simp only at hc hd
 subst hc hd
 have hl:xs.length=its.length:=r1.length
 refine wpAny_binaryOp_repeat_ref (T:="tuple") (U:="int") (by decide) ⟨_,ho,rfl⟩ (fun s'=>typeIs_int s' k t) Sn F.fills_int_mul F.slot_int_rmul Ob F.slot_int_index.lookup
  (call_meets F.slot_int_rmul (typeIs_int s k t) F.entry_int_rmul (F.args_int_rmul_2 _ _) (Qg k t a its.toArray n dd sl) ⟨ho,rfl,⟨_,ho,rfl⟩,?_⟩)
 by_cases hk:k=1
 ·subst hk
  exact call_meets F.slot_tuple_mul ⟨_,ho,rfl⟩ F.entry_tuple_mul (F.args_tuple_mul_2 _ _) (QV a its.toArray n dd sl t) ⟨ho,.ref a,H,I,rfl,q1 rfl⟩
 ·have hne:its.toArray.isEmpty=false:=by
   cases its with
   | nil=>exact absurd (r1.nil_iff.mp rfl) hx
   | cons _ _=>rfl
  have hf:List.foldl (fun x1 x2=>x1++x2) #[] (List.replicate k.toNat its.toArray)=(List.replicate k.toNat its).flatten.toArray:=by
   have:=T4 its k.toNat []
   rw[List.nil_append] at this;exact this
  have hw:(List.replicate k.toNat its).flatten.length<=sizeLine:=by rw[PP,Nat.mul_comm,<-hl];exact hz
  refine call_meets F.slot_tuple_mul ⟨_,ho,rfl⟩ F.entry_tuple_mul (F.args_tuple_mul_2 _ _) (Qh a its.toArray n dd sl k t (by omega) (by omega) hne (by rw[List.size_toArray,<-hl];exact hz) _ hf (by rw[List.size_toArray];exact hw)) ⟨ho,?_⟩
  refine⟨.ref s.heap.objs.size,_,I.laid (t':=s.toks) (o:=.tup (List.replicate k.toNat xs).flatten) (fun b ob q=>Heap.get?_push_of_some _ q) (Nat.le_refl _) ?_,rfl,q2 _ (I.hok.fresh (Nat.le_refl _))⟩
  exact⟨by rw[PP,Nat.mul_comm];exact hz,_,r1.rep k.toNat,IsTup.new _ _⟩
def Qi:PV->PV->Option PV
 | .tup m,.int k=>if ZN m=true/\m≠[]/\1<=k/\k<=1000000/\m.length*k.toNat<=10000 then some (.tup (List.replicate k.toNat m).flatten) else none
 | _,_=>none
theorem Gw{K:PySem.W.Frag}:RB K (FG K) Qi:=fun H x y a b l fa fb ha hb e Q k=>by
 cases a with
 | tup m=>cases b with
  | int n=>
   unfold Qi at e
   simp only at e
   split at e
   case isFalse=>cases e
   rename_i hl
   cases e
   obtain⟨p,xs,rfl,hp,hi⟩:=ha.tup_inv
   refine⟨p,n,xs,rfl,hb.int_inv.1,SqT.of hp,fun z=>hl.2.1 (List.length_eq_zero_iff.mp (by rw[<-hi.len,z];rfl)),hl.2.2.1,by omega,by rw[hi.len];exact Nat.le_of_lt (lt_size hl.2.2.2.2),fun z=>?_,fun q hq=>?_⟩
   ·subst z
    have e1:(List.replicate (Int.toNat 1) m).flatten=m:=by simp
    rw[e1] at k
    exact k _ _ fa (Same.refl _) ha fun r hr=>.inl hr
   ·exact k _ _ [] (Same.new hq _) (Is.tup upd_same ((Iss.rep (hi.pureEq hl.1) n.toNat).mono (Same.new hq _))) fun r hr=>by simp at hr
  | _=>cases e
 | _=>cases e
end VL
namespace PW
open PySem L2 VL
noncomputable def So:XS:=(Yo (eP (Ze Y1 [(Zh ZS (Za 0) (Za 1))])))
noncomputable def Xo:List PV->Option PV:=YU 2 So
noncomputable def UG:XS:=(Zs (Zr 1 (Wm []))
  (Zs (XQ [1] (Xj false [(Za 0)]) (.many [2,3]) (XQ [1] (W8 [(Zh ZL (Za 2) (eC (.int 1))),(Ze Yb [(Za 0)])]) (.one 4) (VJ 1 (Zy 1 [2,4] (ZT [(Zh ZS (Za 3) (Za 4))]) (.one 0) ZE (eP (Xv [(Za 1),(Za 2),(Za 0)]))))))
  (Yo (Za 1))))
noncomputable def UH:List PV->Option PV:=YU 5 UG
noncomputable def Oc:XS:=(Yo (eP (Zh ZL (Zh ZP (Ze Yb [(Ze UH [(Za 0)])]) (Ze Yb [(Za 0)])) (eC (.int 1)))))
noncomputable def Xy:List PV->Option PV:=YU 1 Oc
noncomputable def Od:XS:=(Yo (eP (Ze Y1 [(Za 0)])))
noncomputable def YQ:List PV->Option PV:=YU 1 Od
noncomputable def Mf:XS:=(Yo (eP (Ze Y1 [(Zy 2 [1,2] (Xj false [(Zh ZS (Za 0) (Za 2))]) (.many [0,1]) ZE (Zh UW (Za 1) (Zh ZP (Zh ZS (Za 2) (Za 0)) (Zh ZS (Za 2) (Za 3)))))])))
noncomputable def Sq:List PV->Option PV:=YU 3 Mf
noncomputable def J4:XS:=(Yo (eP (Ze Z5 [(Zy 2 [0,2] (Xj false [(Za 1)]) (.many [0,1]) ZE (Zh ZL (Za 1) (Ze Sq [(Za 2),(Za 3),(Za 0)])))])))
noncomputable def Uk:List PV->Option PV:=YU 3 J4
noncomputable def Mg:XS:=(Yo (eP (Ze Z5 [(Zy 2 [] (U0 false false [(Za 0),(Za 1)]) (.many [0,1]) ZE (Zh ZL (Za 0) (Za 1)))])))
noncomputable def Wq:List PV->Option PV:=YU 2 Mg
noncomputable def Oe:XS:=(Yo (eP (Ze Z5 [(Zy 2 [] (U0 false false [(Za 0),(Za 1)]) (.many [0,1]) ZE (Zh ZP (Za 0) (Za 1)))])))
noncomputable def Y2:List PV->Option PV:=YU 2 Oe
noncomputable def Qj:XS:=(Yo (eP (Ze Z5 [(Zy 2 [0] (Xj false [(Za 1)]) (.many [0,1]) ZE (Zh ZP (Zh ZP (Ze Xo [(Za 2),(Za 0)]) (eC (.int 2))) (Za 1)))])))
noncomputable def Wc:List PV->Option PV:=YU 2 Qj
end PW
namespace VL
open PySem PySem.Spec PyProof.Rows L2
def Xd:List Int->Int
 | []=>0
 | [x]=>x
 | x::y::r=>if Xd (y::r)<x then Xd (y::r) else x
theorem UI:∀{l:List Int},l≠[]->Xd l∈l/\∀x∈l,Xd l<=x
 | [],h=>absurd rfl h
 | [x],_=>by simp[Xd]
 | x::y::r,_=>by
  obtain⟨a,b⟩:=UI (l:=y::r) (by simp)
  unfold Xd
  split
  ·rename_i h
   refine⟨List.mem_cons_of_mem _ a,fun z hz=>?_⟩
   rcases List.mem_cons.mp hz with rfl | hz
   ·omega
   ·exact b z hz
  ·rename_i h
   refine⟨by simp,fun z hz=>?_⟩
   rcases List.mem_cons.mp hz with rfl | hz
   ·omega
   ·have:=b z hz;omega
theorem Lv{l:List Int}{m:Int}(h:m∈l)(g:∀x∈l,m<=x):Xd l=m:=by
 obtain⟨a,b⟩:=UI (l:=l) (by intro z;subst z;simp at h)
 have:=b m h
 have:=g _ a
 omega
theorem Qk(val:Nat->Int):∀k,argBest (fun i j=>decide (val i<val j)) k<=k/\∀j,j<=k->val (argBest (fun i j=>decide (val i<val j)) k)<=val j
 | 0=>⟨Nat.le_refl _,fun j hj=>by rw[Nat.le_zero.mp hj];exact Int.le_refl _⟩
 | k+1=>by
  obtain⟨a,b⟩:=Qk val k
  unfold argBest
  split
  ·rename_i h
   have h:=of_decide_eq_true h
   refine⟨Nat.le_refl _,fun j hj=>?_⟩
   by_cases e:j=k+1
   ·subst e;exact Int.le_refl _
   ·have:=b j (by omega);omega
  ·rename_i h
   have h:¬_:=fun z=>h (decide_eq_true z)
   refine⟨by omega,fun j hj=>?_⟩
   by_cases e:j=k+1
   ·subst e;omega
   ·exact b j (by omega)
def J5(f:List Int->Int)(K:PySem.W.Frag):List V->Hp->VK->Prop:=fun xs H Q=>∃(b:Bool) (p:Addr) (ns:List Int),xs=[.ref p]/\ns≠[]/\Q7 b K H p (ns.map V.int)/\Q (.int (f ns)) H
section
variable {X:Cx}
theorem Po(hc:X.calm=true):V2 X (.builtin "min") (J5 Xd X.K):=by
 intro pins s σ H xs us Q I r h
 obtain⟨b,p,ns,rfl,hne,hq,q⟩:=h
 obtain⟨u,rfl,rx⟩:=RI r
 cases rx
 obtain⟨its,rv,hseq,hz⟩:=I.seqB hq
 have hp:p<s.heap.objs.size:=let⟨_,e⟩:=hseq.has;Heap.lt_size e
 have hl:=rv.length;rw[List.length_map] at hl
 have hpos:0<ns.length:=List.length_pos_iff.mpr hne
 have hval:∀(i:Nat)(v:Value),its.toArray[i]?=some v->∃t,v=Value.int (ns.getD i 0) t:=fun(i:Nat) (v:Value) hv=>by
  have hv:its[i]?=some v:=by simpa using hv
  have hi:i<ns.length:=by rw[hl];exact(List.getElem?_eq_some_iff.mp hv).1
  obtain⟨u,hu,ru⟩:=rv.get (i:=i) (x:=.int ns[i]) (by rw[List.getElem?_map,List.getElem?_eq_getElem hi];rfl)
  rw[hv] at hu;cases hu
  obtain⟨t,rfl⟩:=ru
  refine⟨t,?_⟩
  show Value.int ns[i] t=Value.int (ns.getD i 0) t
  rw[List.getD_eq_getElem?_getD,List.getElem?_eq_getElem hi];rfl
 refine call_min_walk (Xi hseq ?_)
 refine⟨_,_,_,_,_,_,fun i j=>decide (ns.getD i 0<ns.getD j 0),rfl,Walks.seqB (A:=X.A.in1) b (I.ok.hd hc) s.heap.objs.size p (Nat.ne_of_lt hp) its.toArray,⟨IterB.new (Heap.get?_push_size _ rfl),hseq.at fun o e=>Heap.get?_push_of_some _ e⟩,fun c hcm=>?_,by rw[List.size_toArray,<-hl];exact hpos,CmpOf.ints_lt (fun i=>ns.getD i 0) hval,fun v h' tk hv hk=>?_⟩
 ·show c<(s.heap.push _).objs.size
  rw[Heap.size_push]
  rcases List.mem_cons.mp hcm with rfl | hcm
  ·exact Nat.lt_succ_self _
  ·rw[List.mem_singleton.mp hcm];exact Nat.lt_succ_of_lt hp
 ·obtain⟨t,rfl⟩:=hval _ _ hv
  obtain⟨g1,g2⟩:=Qk (fun i=>ns.getD i 0) (its.toArray.size-1)
  rw[List.size_toArray,<-hl] at g1 g2
  have e:Xd ns=ns.getD (argBest (fun i j=>decide (ns.getD i 0<ns.getD j 0)) (its.toArray.size-1)) 0:=by
   rw[List.size_toArray,<-hl]
   refine Lv ?_ fun x hx=>?_
   ·rw[List.getD_eq_getElem?_getD,List.getElem?_eq_getElem (by omega)]
    exact List.getElem_mem _
   ·obtain⟨j,hj,ej⟩:=List.getElem_of_mem hx
    have:=g2 j (by omega)
    rw[List.getD_eq_getElem?_getD (i:=j),List.getElem?_eq_getElem hj,ej] at this;exact this
  refine⟨.int (Xd ns),H,I.kept (fun c o hco=>hk c o ?_ (Heap.get?_push_of_some _ hco)),⟨t,by rw[e]⟩,q⟩
  intro hm;rw[List.mem_singleton.mp hm] at hco
  exact absurd (Heap.lt_size hco) (Nat.lt_irrefl _)
end
def Na(f:List Int->Int):List PV->Option PV
 | [l]=>(QU l).bind fun m=>(VD m).bind fun ns=>if ns=[] then none else some (.int (f ns))
 | _=>none
abbrev Nc:List PV->Option PV:=Na Xd
theorem Gy{K:PySem.W.Frag}(f:List Int->Int):RC K (J5 f K) (Na f):=fun H vs ls l fp h e Q k=>by
 unfold Na at e
 split at e
 ·obtain⟨m,e1,e2⟩:=Zg e
  obtain⟨ns,e3,e4⟩:=Zg e2
  split at e4
  ·cases e4
  ·rename_i hne
   cases e4
   obtain⟨v,rfl,i⟩:=h.one_inv
   obtain⟨p,xs,fq,rfl,hp,hi,hs⟩:=Ux (K:=K) i e1
   have em:=Ug e3;subst em
   obtain⟨rfl,rfl⟩:=hi.iL
   obtain⟨b,hb⟩:=JI hp
   exact⟨b,p,ns,rfl,hne,hb,k _ H [] (Same.refl H) (Is.int _) fun p hp=>by simp at hp⟩
 ·cases e
theorem Lw{K:PySem.W.Frag}:RC K (J5 Xd K) Nc:=Gy Xd
theorem Gz(f:List Int->Int){l:List Int}(h:l≠[]):Na f [pP l]=some (.int (f l)):=by
 show(VD (iL l)).bind _=_
 rw[Wa];simp only[Option.bind_some];rw[if_neg h]
theorem GA(f:List Int->Int){l:List Int}(h:l≠[]):Na f [.lst (iL l)]=some (.int (f l)):=by
 show(VD (iL l)).bind _=_
 rw[Wa];simp only[Option.bind_some];rw[if_neg h]
variable {K:PySem.W.Frag}
def EK(mg:Str->Option Value)(x:Str)(k:Int):Prop:=∃t,mg x=some (Value.int k t)
theorem Sr{X:Cx}{x:Str}{k:Int}{pos:Pos}(hg:Gl X x)(hm:EK X.mg x k)(hd:(x==("__debug__" : Str))=false:=by decide):VE X (.Name x pos) (eC (.int k)):=by
 obtain⟨t,e⟩:=hm
 exact Ju (Hv hg e (v:=.int k) ⟨t,rfl⟩ hd) fun _=>Is.int k
end VL
namespace VL
open PySem PySem.Spec PyProof.Rows L2
variable {K:PySem.W.Frag}
def CMulW(i j:Int):Prop:=i.natAbs.log2<67108863/\j.natAbs.log2<67108863
def Tw(i j:Int):Prop:=j≠0/\j.natAbs.log2<9000
instance (i j:Int):Decidable (CMulW i j):=by unfold CMulW;infer_instance
instance (i j:Int):Decidable (Tw i j):=by unfold Tw;infer_instance
theorem Lx(i:Int):Builtin.Int.intBits i<=i.natAbs.log2+1:=by
 unfold Builtin.Int.intBits
 split
 ·exact Nat.zero_le _
 ·exact Nat.le_refl _
theorem CMulW.ok{i j:Int}(h:CMulW i j):IntMulOk i j:=by
 unfold IntMulOk Builtin.Int.intTooBig;have h1:=Lx i;have h2:=Lx j;have h3:=h.1;have h4:=h.2
 have:decide (((Builtin.Int.intBits i:Int)+(Builtin.Int.intBits j:Int))>(bitsLine:Int))=false:=decide_eq_false (by
  have e:(bitsLine:Int)=134217728:=rfl
  rw[e];omega)
 rw[this]
 simp
section
variable {X:Cx} {a b:Expr} {fa fb:XE} {pos:Pos}
theorem GB:Uv X (binaryOp .Mult) (rI CMulW fun i j=>.int (i*j)):=E3 fun _ _ _ _ _ _ _ hc q=>mul_int q hc.ok
theorem J6:Uv X (binaryOp .FloorDiv) (rI Tw fun i j=>.int (i.fdiv j)):=E3 fun _ _ _ _ _ _ _ hc q=>floordiv_int hc.1 q (.inl (PyProof.noPylong_of_log2 hc.2))
abbrev WQ:=Jy CMulW (· * ·)
abbrev U4:=Jy Tw Int.fdiv
theorem Tx(ha:VE X a fa)(hb:VE X b fb):VE X (.BinOp a .Mult b pos) (Zh WQ fa fb):=Wt GB (Pd _ _) ha hb
theorem Ty(ha:VE X a fa)(hb:VE X b fb):VE X (.BinOp a .FloorDiv b pos) (Zh U4 fa fb):=Wt J6 (Pd _ _) ha hb
end
theorem Ql:∀{ns:List Int}{n:Int},n∈ns->n.natAbs.log2<=PySem.W.WData.weightAll (ns.map .int)
 | m::r,n,h=>by
  rw[List.map_cons];simp only[PySem.W.WData.weightAll,PySem.W.WData.weight]
  rcases List.mem_cons.mp h with rfl | h
  ·by_cases h0:n=0
   ·subst h0
    have:Nat.log2 (Int.natAbs 0)=0:=by decide +kernel
    omega
   ·rw[if_neg (by simpa using h0)];omega
  ·have:=Ql h
   omega
open PySem.W PySem.Calls in
theorem law_walkB{l:PySem.W.OpenLaw}{q:Program}{loose:List Str}{XP:(Str->Option Value)->Heap->Prop}{YP:World->Heap->Prop}{d:DefRec}{KK:Params->PySem.W.Frag}{x:Str}{D:List PV->Option PV}(k:Nat)(hn:l.most=some 63)(hdf:d.params.defaults=[])
  (hr:Room k callerA) (hD:∀ns:List Int,ns.length<=63->(∀n∈ns,n.natAbs.log2<=1048576)->D [.cst (iL ns)]=some (.bl true))
  (hY:∀(w:World)(h:Heap),YP w h->(KK w.params).In h)
  (F:∀(w:World)(mg:Str->Option Value)(fa:Addr)(h:Heap),(KK w.params).In h->h.Ns mainGlobals mg->mg d.name=some (.ref fa)->
   ∃fd:FuncData,(∀(s:Shared)(u:Value),BindsTo s fd ⟨[u],[]⟩ [(x,u)])/\∀base:Heap,(KK w.params).In base->base.Ns mainGlobals mg->SX l.prog w (KK w.params) mg base Lf k fa fd [x] (Yz (KK w.params) D 1)) :
  PySem.W.WalkO q loose XP YP l.row.toRowW d [] (fun f vs=>PySem.call f vs):=by
 intro w s₀ s₁ mg mb gr yy fa o pm cd doc dv kv ho hd hcd hdd hmg hgen args vals as hpre hlay hrd hwl hlo
 obtain rfl:dv = .none:=Dflts.none hdd hdf
 obtain rfl:kv = .none:=Dflts.noKw hdd
 obtain⟨a,vs,ns,rfl,rfl,hobj,hints,hlen⟩:=Att.script_of hn hpre hwl
 have hw:∀n∈ns,n.natAbs.log2<=1048576:=fun n h=>by
  have h1:(WData.list (ns.map WData.int)).layable=true:=List.all_eq_true.mp hlay _ (List.mem_singleton.mpr rfl)
  unfold WData.layable at h1
  have h2:=of_decide_eq_true (Bool.and_eq_true_iff.mp h1).2
  have h3:WData.weightAll (ns.map WData.int)<=1048576:=by simpa [WData.weight] using h2
  exact Nat.le_trans (Ql h) h3
 have kx:=hY w _ yy
 obtain⟨fd,hb,hF⟩:=F w mg fa _ kx gr.T.g hmg
 refine enter_call (codeAny_mono (L2.law_call kx gr.T.g gr.T.b gr.T.builtins gr.T.nolimit hgen hobj hints (Nat.le_trans hlen (by decide)) hr hF hb (fun H hO hS=>EG (hD ns hlen hw) hO hS) fun H e s' z=>z) fun r s' hq=>?_)
 obtain⟨rfl,h2,h3,h4⟩:=hq
 exact⟨.inl ⟨.bool true,.bool true,[],rfl,fun _=>rfl,.bool true,Att.post_true l _,fun _=>⟨List.Pairwise.nil,fun _ hm=>(nomatch hm)⟩⟩,h2,h3,h4⟩
end VL
namespace VL
open PySem PySem.Spec PyProof.Rows L2
variable {K:PySem.W.Frag}
theorem Iss.getS{H:Hp}:∀{l:List PV}{xs:List V}{fp:List Addr}{i:Nat}{a:PV},Iss K H l xs fp->l[i]?=some a->∃x f1,xs[i]?=some x/\Is K H a x f1/\f1.Sublist fp
 | [],xs,fp,i,a,h,e=>by simp at e
 | l::ls,xs,fp,0,a,h,e=>by
  obtain⟨x,r,f1,f2,rfl,h1,_,rfl⟩:=h.inv
  simp at e;subst e
  exact⟨x,f1,rfl,h1,List.sublist_append_left _ _⟩
 | l::ls,xs,fp,i+1,a,h,e=>by
  obtain⟨x,r,f1,f2,rfl,_,h2,rfl⟩:=h.inv
  obtain⟨y,g,h3,h4,h5⟩:=h2.getS (i:=i) (a:=a) (by simpa using e)
  exact⟨y,g,by simpa using h3,h4,h5.trans (List.sublist_append_right _ _)⟩
def Wd(i:Nat)(f0:XE)(a b:Nat):XS:=fun s=>(f0 s).bind fun l0=>match s[i]? with
 | some (some (.tup m))=>(m[a]?).bind fun la=>(m[b]?).bind fun lb=>if ZM l0=true/\ZM la=true then some (.rt (.tup [l0,la,lb])) else none
 | _=>none
theorem Tf{X:Cx}{O:List Nat}{e:Expr}{i a b:Nat}{f0:XE}{pos:Pos}(he:PE X e (HG (Vo (tF X.K f0) (Vo (Fm (HP X.K) (V9 i) (tF X.K (eC (.int (a:Int))))) (Vo (Fm (HP X.K) (V9 i) (tF X.K (eC (.int (b:Int))))) NQ)))))(hi:i∈O:=by decide):VS X O [] (.Return (some e) pos) (Wd i f0 a b):=PS.imp (RE he) fun D σ H ⟨H0,fps,s,out,r,e,k⟩=>by
 obtain⟨l0,e0,e⟩:=Zg e
 split at e
 case h_2=>cases e
 rename_i m em
 obtain⟨la,ea,e⟩:=Zg e
 obtain⟨lb,eb,e⟩:=Zg e
 split at e
 case isFalse=>cases e
 rename_i pu
 cases e
 obtain⟨v,hv,iv⟩:=r.is i _ em
 obtain⟨p,xs,rfl,hp,hm⟩:=iv.tup_inv
 refine⟨fun _=>False,s,l0,fun _ z=>z.elim,r.env,e0,fun v0 H1 f1 s1 i1 _=>?_⟩
 have:=Is.pure _ _ _ pu.1 i1
 subst this
 refine⟨.ref p,hv,fun _=>False,s,_,fun _ z=>z.elim,r.env.mono s1,rfl,fun y1 H2 fy1 s2 j1 _=>?_⟩
 obtain⟨rfl,_⟩:=j1.int_inv
 have s12:=s1.trans s2
 obtain⟨xa,fa,hxa,ia,suba⟩:=(hm.mono s12).getS ea
 have:=Is.pure _ _ _ pu.2 ia
 subst this
 refine⟨p,xs,(a:Int),xa,rfl,rfl,SqT.of (s12 _ _ hp),Vz hxa,.ref p,hv,fun _=>False,s,_,fun _ z=>z.elim,r.env.mono s12,rfl,fun y2 H3 fy2 s3 j2 _=>?_⟩
 obtain⟨rfl,_⟩:=j2.int_inv
 have s123:=s12.trans s3
 obtain⟨xb,fb,hxb,ib,subb⟩:=(hm.mono s123).getS eb
 refine⟨p,xs,(b:Int),xb,rfl,rfl,SqT.of (s123 _ _ hp),Vz hxb,(by show 3<=sizeLine;decide),fun q hq=>?_⟩
 have sn:Same H3 (upd H3 q (.tup [v0,xa,xb])):=Same.new hq _
 have r3:=r.grow s123
 refine k _ fb _ (r3.same.trans sn) (Is.tup upd_same ?_) ((r.nd i hi).sublist subb) fun z hz=>?_
 ·have h1:=Iss.cons (i1.mono (s2.trans (s3.trans sn))) (Iss.cons (ia.mono (s3.trans sn)) (Iss.one (ib.mono sn)))
  simpa using h1
 ·have:=r3.own i hi z (subb.subset hz)
  exact⟨this.1,Same.mut sn this.2⟩
def EL(K:PySem.W.Frag)(H0:Hp)(D:U6):Out->Prop
 | .nx _=>∀σ' H',Same H0 H'->D.nx σ' H'
 | .rt l=>∀v fp H',Same H0 H'->Is K H' l v fp->fp.Nodup->(∀p∈fp,H0 p=none/\WY (H' p))->D.rt v H'
 | _=>False
def DT(K:PySem.W.Frag)(O:List Nat)(f:XS):TS:=fun D σ H=>∃H0 fps s out,Rel K O H0 fps s σ H/\f s=some out/\EL K H0 D out
def Ki(X:Cx)(O:List Nat)(st:List Stmt)(f:XS):Prop:=PSs X st (DT X.K O f)
section
variable {X:Cx} {O O' W:List Nat} {st:Stmt} {YJ:List Stmt} {f g:XS}
theorem VSs.r(h:VSs X O W YJ f):Ki X O YJ f:=PSs.imp h fun D σ H ⟨H0,fps,s,out,r,e,k⟩=>⟨H0,fps,s,out,r,e,by
 cases out with
 | nx s'=>exact fun fps' σ' H' r' _=>k σ' H' r'.same
 | rt l=>exact k
 | bk s'=>exact k.elim
 | ct s'=>exact k.elim⟩
theorem Y9(h1:VS X O W st f)(h2:Ki X O YJ g):Ki X O (st::YJ) (Zs f g):=PSs.imp (OL h1 h2) fun D σ H ⟨H0,fps,s,out,r,e,k⟩=>by
 obtain⟨o1,e1,e⟩:=Zg e
 refine⟨H0,fps,s,o1,r,e1,?_⟩
 cases o1 with
 | nx s1=>exact fun fps1 σ1 H1 r1 _=>⟨H0,fps1,s1,out,r1,e,k⟩
 | bk s1=>cases e;exact k.elim
 | ct s1=>cases e;exact k.elim
 | rt l=>cases e;exact k
theorem Kj(h:Ki X O' YJ g)(hs:∀i∈O',i∈O:=by decide):Ki X O YJ g:=PSs.imp h fun D σ H ⟨H0,fps,s,out,r,e,k⟩=>⟨H0,fps,s,out,r.weak hs,e,k⟩
end
theorem Kk{N:List Str}{n:Nat}{O:List Nat}{vs:List V}{H:Hp}{ls:List PV}{fp:List Addr}(hO:∀i∈O,n<=i)(hl:vs.length=n)(hi:Iss K H ls vs fp):∃fps,Rel K O H fps (Yv N.length ls) (L2.start N vs) H:=by
 obtain⟨fps,p1,p2⟩:=hi.fps
 have hlen:=hi.len
 have hout:∀i:Nat,ls.length<=i->∀l,(Yv N.length ls)[i]?≠some (some l):=fun i hi l z=>by
  unfold Yv at z;rw[List.getElem?_append_right (by simpa using hi),List.getElem?_replicate] at z
  split at z<;>cases z
 refine⟨fps,Same.refl H,?_,fun i a z=>?_,fun i hne=>?_,fun i hi=>?_,fun i hi p hp=>?_,fun i hi j hj p hp=>?_⟩
 ·unfold Yv L2.start;simp[hlen]
 ·by_cases hil:i<ls.length
  ·unfold Yv at z
   rw[List.getElem?_append_left (by simpa using hil),List.getElem?_map] at z
   cases q:ls[i]? with
   | none=>rw[q] at z;cases z
   | some b=>
    rw[q] at z;cases z
    obtain⟨v,a1,b1⟩:=p1 i a q
    refine⟨v,?_,b1⟩
    unfold L2.start
    rw[List.getElem?_append_left (by simpa [hlen] using hil),List.getElem?_map,a1];rfl
  ·exact absurd z (hout i (by omega) a)
 ·by_cases hil:i<ls.length
  ·exact absurd (by unfold Yv;rw[List.getElem?_append_left (by simpa using hil),List.getElem?_map,List.getElem?_eq_getElem hil];rfl) (hne ls[i])
  ·exact p2 i (by omega)
 ·rw[p2 i (by have:=hO i hi;omega)];exact List.nodup_nil
 ·rw[p2 i (by have:=hO i hi;omega)] at hp;simp at hp
 ·rw[p2 i (by have:=hO i hi;omega)] at hp;simp at hp
theorem J7{N:List Str}{n:Nat}{O:List Nat}{f:XS}{vs:List V}{H:Hp}{Q:VK}{E:XK}(hO:∀i∈O,n<=i)(h:Yz K (YU N.length f) n vs H Q E):DT K O f { nx:=fun _ H'=>Q .non H',rt:=Q } (L2.start N vs) H:=by
 obtain⟨hl,ls,fp,l,hi,e,q⟩:=h
 obtain⟨out,e1,e2⟩:=Zg e
 obtain⟨fps,rel⟩:=Kk (N:=N) hO hl hi
 refine⟨H,fps,Yv N.length ls,out,rel,e1,?_⟩
 cases out with
 | nx s'=>
  cases e2
  exact fun σ' H' sm=>q .non H' [] sm Is.non List.nodup_nil fun p hp=>by simp at hp
 | rt v=>
  cases e2
  exact fun v fp H' sm i d n=>q v H' fp sm i d n
 | bk s'=>cases e2
 | ct s'=>cases e2
end VL
namespace VL
open PySem PySem.Spec PyProof.Rows L2
variable {K:PySem.W.Frag}
theorem GC{X:Cx}{st:Stmt}{t:TS}(h:PS X st t):PS X st (fun D σ H=>(∃d kvs,H d=some (.dT kvs)/\t (thaw d kvs D) σ H)\/t D σ H):=by
 intro pins s σ H D I hq
 rcases hq with⟨d,kvs,hd,q⟩ | q
 ·have h0:∀o u,X.H₀ d≠some (.frz o u):=fun o u z=>by
   have:=I.base.frzs d o u z
   rw[hd] at this;cases this
  refine YZ (h pins s σ H (thaw d kvs D) I q) fun f s' hsp=>?_
  cases f with
  | next=>
   obtain⟨σ',H',I',⟨o,ho⟩,q'⟩:=hsp
   exact⟨σ',_,Inv.thaw I' ho h0,q'⟩
  | brk=>
   obtain⟨σ',H',I',⟨o,ho⟩,q'⟩:=hsp
   exact⟨σ',_,Inv.thaw I' ho h0,q'⟩
  | cont=>
   obtain⟨σ',H',I',⟨o,ho⟩,q'⟩:=hsp
   exact⟨σ',_,Inv.thaw I' ho h0,q'⟩
  | ret u=>
   obtain⟨v,σ',H',I',r',⟨o,ho⟩,q'⟩:=hsp
   exact⟨v,σ',_,Inv.thaw I' ho h0,r',q'⟩
 ·exact h pins s σ H D I q
section
variable {X:Cx} {e st:Expr} {te:TE} {ts:TO} {pos p2:Pos} {fa:XE}
def Nd:PV->Option PV
 | .lst l=>if ZN l=true then some (.lst l.reverse) else none
 | _=>none
theorem Iss.rev{H:Hp}:∀{l:List PV}{xs:List V},Iss K H l xs []->Iss K H l.reverse xs.reverse []
 | [],xs,h=>by simp only[Iss] at h;rw[h.1];exact Iss.nil
 | a::r,xs,h=>by
  obtain⟨x,t,f1,f2,rfl,h1,h2,ef⟩:=h.inv
  obtain⟨rfl,rfl⟩:f1=[]/\f2=[]:=List.append_eq_nil_iff.mp ef.symm
  rw[List.reverse_cons,List.reverse_cons]
  exact Iss.append (Iss.rev h2) (Iss.one h1)
end
end VL
namespace VL
open PySem PySem.Spec PyProof.Rows L2
def J8(i:Nat)(f0:XE):XS:=fun s=>(f0 s).bind fun l0=>match s[i]? with
 | some (some l)=>if ZM l0=true then some (.rt (.tup [l0,l])) else none
 | _=>none
theorem J9{X:Cx}{O:List Nat}{e:Expr}{i:Nat}{f0:XE}{pos:Pos}(he:PE X e (HG (Vo (tF X.K f0) (Vo (V9 i) NQ))))(hi:i∈O:=by decide):VS X O [] (.Return (some e) pos) (J8 i f0):=PS.imp (RE he) fun D σ H ⟨H0,fps,s,out,r,e,k⟩=>by
 obtain⟨l0,e0,e⟩:=Zg e
 split at e
 case h_2=>cases e
 rename_i l em
 split at e
 case isFalse=>cases e
 rename_i pu
 cases e
 obtain⟨v,hv,iv⟩:=r.is i _ em
 refine⟨fun _=>False,s,l0,fun _ z=>z.elim,r.env,e0,fun v0 H1 f1 s1 i1 _=>?_⟩
 have:=Is.pure _ _ _ pu i1
 subst this
 refine⟨v,hv,(by show 2<=sizeLine;decide),fun q hq=>?_⟩
 have sn:Same H1 (upd H1 q (.tup [v0,v])):=Same.new hq _
 have r3:=r.grow s1
 refine k _ (fps i) _ (r3.same.trans sn) (Is.tup upd_same ?_) (r.nd i hi) fun z hz=>?_
 ·have h1:=Iss.cons (i1.mono sn) (Iss.one ((iv.mono s1).mono sn))
  simpa using h1
 ·have:=r3.own i hi z hz
  exact⟨this.1,Same.mut sn this.2⟩
end VL
namespace PW
open PySem L2 VL
noncomputable def UJ:XS:=(Yo (eP (Ze Y1 [(Zy 1 [0,1] (Wo (Za 2)) (.one 0) ZE (Zh ZS (Zh ZS (Za 1) (Za 2)) (Za 0)))])))
noncomputable def Vt:List PV->Option PV:=YU 3 UJ
noncomputable def Xz:XS:=(Zs (XQ [] (Xj false [(Za 1)]) (.many [3,4]) (Rr (S1 (xB (Zh (Lj true) (Za 3) (Za 2))) (xB (Zh UY (Za 4) (Ze Vt [(Za 0),(Za 3),(Za 2)])))) (Yo (eP (Za 3))) Y5))
  (Yo (eP (eC .non))))
noncomputable def Yd:List PV->Option PV:=YU 5 Xz
noncomputable def Rt:XS:=(Zs (Zr 3 (Wm [(eP (Za 2))]))
  (Zs (Zr 4 (Ze Yd [(Za 0),(Za 1),(Za 3)]))
  (Zs (VH (xB (Ka true (Za 4))) (Zs (YM 3 (eP (Za 4)))
  (Zr 4 (Ze Yd [(Za 0),(Za 1),(Za 3)]))))
  (Yo (Za 3)))))
noncomputable def Tz:List PV->Option PV:=YU 5 Rt
noncomputable def UK:XS:=(Yo (Zy 2 [1] (Xj false [(Za 0)]) (.many [0,1]) (S1 (xB (Zh (V5 true) (Za 0) (Za 2))) (xB (Zh UY (Za 1) (eC (.int 0))))) (eP (Za 0))))
noncomputable def Xa:List PV->Option PV:=YU 2 UK
noncomputable def UL:XS:=(Yo (eP (Ze Z5 [(Zy 2 [3,1,2,0] (U0 false false [(Za 0),(Za 1)]) (.many [0,1]) ZE (Zh U4 (Zh ZP (Zh WQ (Zh ZS (Za 3) (Za 4)) (Za 0)) (Zh WQ (Zh ZS (Za 5) (Za 4)) (Za 1))) (Za 2)))])))
noncomputable def XD:List PV->Option PV:=YU 4 UL
noncomputable def TB:XS:=(Zs (Zr 1 (Ze Uf [(Za 0)]))
  (Zs (Zr 2 (eP (eC (.int 1))))
  (Zs (XQ [1] (ZT [(Ze Yb [(Za 0)])]) (.one 3) (Zs (Zr 4 (eP (Zh ZS (Za 1) (Za 3))))
  (Zs (Zr 1 (Zy 2 [3,4,2] (Xj true [(Za 1)]) (.many [0,1]) ZE (eP (OY (xB (Zh (V5 false) (Za 0) (Za 2))) (Za 1) (Ze XD [(Za 1),(Za 3),(Za 2),(Za 4)])))))
  (Zr 2 (eP (Zh ZS (Za 4) (Za 3)))))))
  (J8 1 (Za 2)))))
noncomputable def Vu:List PV->Option PV:=YU 5 TB
noncomputable def XU:XS:=(Zs (Zr 2 (Ze Vu [(Zy 2 [] (U0 false false [(Za 0),(Za 1)]) (.many [0,1]) ZE (Zh Y6 (Za 0) (Xv [(Za 1)])))]))
  (Yo (Zy 1 [2] (Wo (Zh ZS (Za 2) (eC (.int 1)))) (.one 0) ZE (eP (Zh U4 (Zh ZS (Za 0) (SR W0 (eC (.int 1)))) (Zh ZS (Za 1) (eC (.int 0))))))))
noncomputable def YX:List PV->Option PV:=YU 3 XU
noncomputable def TC:XS:=(Yo (eP (Ze Z5 [(Zy 1 [1,0] (Wo (Za 2)) (.one 0) ZE (OY (xB (Zh (V5 false) (Za 0) (Za 1))) (Ze Xo [(Za 2),(Za 1)]) (SR W0 (Zh ZS (Zh ZS (Za 2) (Za 1)) (Za 0)))))])))
noncomputable def Ul:List PV->Option PV:=YU 3 TC
noncomputable def Xp:XS:=(Zs (Zr 2 (Zy 1 [1] (ZT [(Ze Yb [(Za 0)])]) (.one 0) (xB (Zh (V5 true) (Za 0) (Za 1))) (eP (Za 0))))
  (Yo (eP (Ze Z5 [(Zy 1 [0,2] (Wo (Za 2)) (.one 0) ZE (Ze Ul [(Za 1),(Za 0),(Za 2)]))]))))
noncomputable def Yp:List PV->Option PV:=YU 3 Xp
noncomputable def UM:XS:=(Zs (Zr 3 (eP (Zh Y6 (Vn XN (Za 1) Vg (WM (Za 2))) (Vn XN (Za 1) (WM (Zh ZL (Za 2) (eC (.int 1)))) Vg))))
  (Zs (Zr 4 (Ze YX [(Ze Yp [(Za 0),(Za 2)]),(Za 3)]))
  (Zs (Vb 4 (Za 2) (eC (.int 0)))
  (Yo (eP (Ze Z5 [(Za 4)]))))))
noncomputable def X1:List PV->Option PV:=YU 5 UM
noncomputable def Vd:XS:=(Yo (eP (Ze Z5 [(Zy 1 [1] (ZT [(Ze Yb [(Za 0)])]) (.one 0) ZE (OY (xB (Zh (Lj false) (Za 0) (Za 1))) (SR W0 (eC (.int 1))) (eC (.int 0))))])))
noncomputable def Xk:List PV->Option PV:=YU 2 Vd
noncomputable def Of:XS:=(Zs (Zr 1 (eP (Ze Nc [(Za 0)])))
  (Yo (eP (Ze Z5 [(Zy 1 [1] (UZ (Za 0)) (.one 0) ZE (Zh ZP (Za 0) (Za 1)))]))))
noncomputable def X9:List PV->Option PV:=YU 2 Of
noncomputable def TD:XS:=(Zs (Zr 3 (Ze X1 [(Za 0),(Za 1),(Za 2)]))
  (Zs (Zr 4 (Ze Uk [(Za 0),(Za 1),(Za 3)]))
  (Zs (Zr 5 (Ze Xa [(Za 4),(Za 2)]))
  (Zs (VH (xB (Zh Sd (Ze Yb [(Za 5)]) (eC (.int 0)))) (Zs (Zr 6 (Ze Xk [(Za 0),(Za 5)]))
  (Zs (Zr 3 (Ze Wq [(Za 3),(Za 6)]))
  (Zs (Zr 4 (Ze Uk [(Za 0),(Za 4),(Za 6)]))
  (Zr 5 (Ze Xa [(Za 4),(Za 2)]))))))
  (Yo (Xv [(Ze X9 [(Za 3)]),(eP (Za 4)),(Ze Tz [(Za 0),(Za 4),(Za 2)])]))))))
noncomputable def Yy:List PV->Option PV:=YU 7 TD
noncomputable def XF:XS:=(Zs (Zr 2 (Ze Yy [(Za 0),(Za 1),(eC (.int 0))]))
  (Zs (Rr (xB (Zh Gd (Zh ZS (Zh ZS (Za 2) (eC (.int 1))) (eC (.int 0))) (eC (.int 0)))) (Wd 2 (eC (.str "free")) 0 1) Y5)
  (Wd 2 (eC (.str "never")) 0 2)))
noncomputable def XG:List PV->Option PV:=YU 3 XF
end PW
namespace L2
open PySem PySem.Spec PyProof.Rows
section
variable {prog:Program} {w:World} {A:Around} {E:Value->Shared->Prop} {s:Shared}
theorem Og(d:Addr)(nd:(d==sysModules)=false):MeetsIn prog w (Builtin.«dict.items» ⟨[.ref d],[]⟩) (fun _ R s=>s.TypeIs (.ref d) "dict"/\R (.ok (.ret (.ref s.heap.objs.size))) { s with heap:=s.heap.push { cls:=.type "dict_items",data:=.fields #[.ref d] } }):=
 .of_wp fun A R s ⟨hT,h⟩=>by
  unfold Builtin.«dict.items» Builtin.Dict.noArgs
  refine wpAny_bind (wpAny_bind (wpAny_notOrdered_dict hT (show wpAny _ _ (pure d) _ _ s from wpAny_pure ?_)))
  show wpAny _ _ (Builtin.Dict.showsAll d >>= fun _=>_) _ _ s
  unfold Builtin.Dict.showsAll
  rw[if_neg (fun z=>by rw[nd] at z;cases z)]
  exact wpAny_bind (wpAny_pure (wpAny_bind (wpAny_newObj_type (wpAny_pure ⟨_,rfl,h⟩))))
theorem Nf{v d:Addr}{o:Obj}{es:Array DictEntry}{ep:Nat}{Q:Value->Shared->Prop}(hv:s.heap.IsItemsView v d)(ho:s.heap.get? d=some o)(hdat:o.data = .dict es ep)
  (hQ:Q (.ref s.heap.objs.size) { s with heap:=s.heap.push { cls:=.type "dict_itemiterator",data:=.fields #[.none,.bool false,.ref d,.int 0 0,.int es.size 0,.int ep 0,.none,.none] } }):wpAny (model prog w) A (pyIter (.ref v)) Q E s:=by
 obtain⟨ov,e1,e2,e3⟩:=id hv
 refine wpAny_pyIter_slot hv.typeIs F.slot_dict_items_iter (wpAny_call_entry F.slot_dict_items_iter hv.typeIs F.entry_dict_items_iter ?_ (F.args_dict_items_iter_1 _))
 unfold Builtin.«dict_items.__iter__» Builtin.Dict_items.dictOf Builtin.Dict_items.newIterator
 refine wpAny_bind (wpAny_pure (wpAny_bind (wpAny_bind (wpAny_field e1 e3 (x:=.ref d) rfl (wpAny_pure (wpAny_bind (wpAny_bind (wpAny_dictEntries ho hdat (wpAny_bind (wpAny_dictEpoch ho hdat ?_))))))))))
 simp only[show Builtin.Dict_items.ownsTuple "dict_itemiterator" = true by decide,if_true]
 refine wpAny_newObj_type (wpAny_pure ⟨_,rfl,"dict_itemiterator",_,⟨_,Heap.get?_push_size _ rfl,rfl⟩,F.slot_dict_itemiterator_next.lookup,?_⟩) (by
  simp only[sizeOk,Builtin.Dict_items.ownedTupleFields,List.size_toArray,List.length_append,List.length_cons,List.length_nil,sizeLine_eq];omega)
 simpa [rawInt,Builtin.Dict_items.ownedTupleFields] using hQ
theorem Ng{it d:Addr}{i ep:Nat}{od:Obj}{es:Array DictEntry}{e:DictEntry}{ok ov:Value}{Q:Option Value->Shared->Prop}(hit:IsItemIter s.heap it d i es.size ep ok ov)(hod:s.heap.get? d=some od)(hdd:od.data = .dict es ep)(hx:es[i]?=some e)
  (hQ:∀h',IsItemIterOut h' it d (i+1) es.size ep e.key e.val s.heap.objs.size->h'.get? s.heap.objs.size=some { cls:=.type "tuple",data:=.seq #[e.key,e.val] }->(∀b o,b≠it->s.heap.get? b=some o->h'.get? b=some o)->Q (some (.ref s.heap.objs.size)) { s with heap:=h' }):wpAny (model prog w) A (pyNext (.ref it)) Q E s:=by
 obtain⟨hp,g,dr,tk,os⟩:=s
 have hT:Shared.TypeIs ⟨hp,g,dr,tk,os⟩ (.ref it) "dict_itemiterator":=⟨_,hit,rfl⟩
 obtain⟨hlt,he⟩:=Array.getElem?_eq_some_iff.mp hx
 subst he;unfold pyNext
 refine wpAny_bind (wpAny_attempt (wpAny_callSpecial?_slot (name:=Str.ofString "__next__") hT F.slot_dict_itemiterator_next (wpAny_call_entry F.slot_dict_itemiterator_next hT F.entry_dict_itemiterator_next (wpAny_bind (wpAny_pure (wpAny_bind (wpAny_bind ?_)))) (F.args_dict_itemiterator_next_1 _))))
 first | refine wpAny_bind (wpAny_typeNameOfWhole_itemiter hT (wpAny_pure (wpAny_bind (wpAny_fieldsOf hit rfl ?_)))) | refine wpAny_bind (wpAny_typeNameOf_itemiter hT (wpAny_pure (wpAny_bind (wpAny_fieldsOf hit rfl ?_))))
 simp only[show Builtin.Dict_items.ownsTuple "dict_itemiterator" = true by decide,if_true]
 show wpAny _ _ (if(Value.ref d==Value.none)=true then _ else _) _ _ _
 rw[if_neg (show ¬(Value.ref d==Value.none)=true from fun z=>Bool.false_ne_true z)]
 refine wpAny_bind (wpAny_pure (wpAny_bind (wpAny_dictEntries hod hdd ?_)))
 rw[if_neg (by simp)]
 refine wpAny_bind (wpAny_pure (wpAny_bind (wpAny_dictEpoch hod hdd ?_)))
 rw[if_neg (by simp)]
 refine wpAny_pure ?_
 simp only[show ¬((i:Int)<0) from by omega,if_false,Int.toNat_natCast,Array.getElem?_eq_getElem hlt]
 first | refine wpAny_bind (wpAny_bind (wpAny_typeNameOfWhole_itemiter hT (wpAny_pure (wpAny_bind (wpAny_isOneOf_itemiter hT ?_))))) | refine wpAny_bind (wpAny_bind (wpAny_typeNameOf_itemiter hT (wpAny_pure (wpAny_bind (wpAny_isOneOf_itemiter hT ?_)))))
 show wpAny _ _ (setField (.ref it) 3 (rawInt ((i:Int)+1)) >>= fun _=>_) _ _ ⟨hp,g,dr,tk,os⟩
 refine wpAny_bind (wpAny_setField_rec hit (by simp) fun k1 q1 m1=>?_)
 have m1:Heap.SameBut it hp k1:=m1
 have q1:IsItemIter k1 it d (i+1) es.size ep ok ov:=by
  have z:((i+1:Nat):Int)=(i:Int)+1:=by omega
  unfold IsItemIter;rw[z];simpa [rawInt] using q1
 have hT1:Shared.TypeIs ⟨k1,g,dr,tk,os⟩ (.ref it) "dict_itemiterator":=⟨_,q1,rfl⟩
 refine wpAny_bind (wpAny_holding (wpAny_bind (wpAny_isOneOf_itemiter hT1 (wpAny_bind (wpAny_isOneOf_itemiter hT1 ?_)))))
 show wpAny _ _ (Builtin.Dict_items.pairFromOwner (.ref it) 6 es[i].key es[i].val) _ _ ⟨k1,g,dr,tk,os⟩
 unfold Builtin.Dict_items.pairFromOwner
 refine wpAny_bind (wpAny_newTuple ?_)
 have q2:IsItemIter (k1.push { cls:=.type "tuple",data:=.seq #[es[i].key,es[i].val] }) it d (i+1) es.size ep ok ov:=Heap.get?_push_of_some _ q1
 generalize hk2:k1.push { cls:=.type "tuple",data:=.seq #[es[i].key,es[i].val] }=k2 at q2
 have z1:k1.objs.size=hp.objs.size:=m1.1
 have lt:it<hp.objs.size:=Heap.lt_size hit
 have t2:k2.get? hp.objs.size=some { cls:=.type "tuple",data:=.seq #[es[i].key,es[i].val] }:=by rw[<-hk2,<-z1];exact Heap.get?_push_size _ rfl
 have o2:∀b o,b≠it->hp.get? b=some o->k2.get? b=some o:=fun b o hb z=>by rw[<-hk2];exact Heap.get?_push_of_some _ (m1.extBut b o hb z)
 show wpAny _ _ (Builtin.Dict_items.ownedTupleIsFree (.ref it) >>= fun _=>_) _ _ ⟨k2,g,dr,tk,os⟩
 rw[z1];unfold Builtin.Dict_items.ownedTupleIsFree
 refine wpAny_bind (wpAny_bind (wpAny_field q2 rfl (x:=.none) rfl (wpAny_pure ?_)))
 simp only[if_true]
 refine wpAny_bind (wpAny_field q2 rfl (x:=ok) rfl (wpAny_bind (wpAny_field q2 rfl (x:=ov) rfl (wpAny_bind (wpAny_setField_rec q2 (by simp) fun k3 q3 m3=>?_)))))
 have m3:Heap.SameBut it k2 k3:=m3
 have q3:IsItemIter k3 it d (i+1) es.size ep es[i].key ov:=q3
 refine wpAny_bind (wpAny_setField_rec q3 (by simp) fun k4 q4 m4=>?_)
 have m4:Heap.SameBut it k3 k4:=m4
 have q4:IsItemIter k4 it d (i+1) es.size ep es[i].key es[i].val:=q4
 refine wpAny_bind (wpAny_setField_rec q4 (by simp) fun k5 q5 m5=>?_)
 have m5:Heap.SameBut it k4 k5:=m5
 have q5:IsItemIterOut k5 it d (i+1) es.size ep es[i].key es[i].val hp.objs.size:=q5
 refine wpAny_bind (wpAny_setField_rec q5 (by simp) fun k6 q6 m6=>?_)
 have m6:Heap.SameBut it k5 k6:=m6
 have q6:IsItemIterOut k6 it d (i+1) es.size ep es[i].key es[i].val hp.objs.size:=q6
 have all:∀b o,b≠it->k2.get? b=some o->k6.get? b=some o:=fun b o hb z=>m6.extBut b o hb (m5.extBut b o hb (m4.extBut b o hb (m3.extBut b o hb z)))
 exact wpAny_bind (wpAny_letGo (wpAny_pure (wpAny_pure ⟨_,rfl,wpAny_pure (hQ k6 q6 (all _ _ (Nat.ne_of_gt lt) t2) fun b o hb z=>all b o hb (o2 b o hb z))⟩)))
theorem Mh{it d:Addr}{ep:Nat}{od:Obj}{es:Array DictEntry}{ok ov:Value}{Q:Option Value->Shared->Prop}(hh:A.handled=none)(hit:IsItemIter s.heap it d es.size es.size ep ok ov)(hod:s.heap.get? d=some od)(hdd:od.data = .dict es ep)
  (hQ:∀h',Heap.ExtBut it s.heap h'->Q none { s with heap:=h' }):wpAny (model prog w) A (pyNext (.ref it)) Q E s:=by
 have hT:s.TypeIs (.ref it) "dict_itemiterator":=⟨_,hit,rfl⟩
 unfold pyNext
 refine wpAny_bind (wpAny_attempt (wpAny_callSpecial?_slot (name:=Str.ofString "__next__") hT F.slot_dict_itemiterator_next (wpAny_call_entry F.slot_dict_itemiterator_next hT F.entry_dict_itemiterator_next (wpAny_bind (wpAny_pure (wpAny_bind (wpAny_bind ?_)))) (F.args_dict_itemiterator_next_1 _))))
 first | refine wpAny_bind (wpAny_typeNameOfWhole_itemiter hT (wpAny_pure (wpAny_bind (wpAny_fieldsOf hit rfl ?_)))) | refine wpAny_bind (wpAny_typeNameOf_itemiter hT (wpAny_pure (wpAny_bind (wpAny_fieldsOf hit rfl ?_))))
 simp only[show Builtin.Dict_items.ownsTuple "dict_itemiterator" = true by decide,if_true]
 show wpAny _ _ (if(Value.ref d==Value.none)=true then _ else _) _ _ _
 rw[if_neg (show ¬(Value.ref d==Value.none)=true from fun z=>Bool.false_ne_true z)]
 refine wpAny_bind (wpAny_pure (wpAny_bind (wpAny_dictEntries hod hdd ?_)))
 rw[if_neg (by simp)]
 refine wpAny_bind (wpAny_pure (wpAny_bind (wpAny_dictEpoch hod hdd ?_)))
 rw[if_neg (by simp)]
 refine wpAny_pure ?_
 simp only[show ¬((es.size:Int)<0) from by omega,if_false,Int.toNat_natCast,Array.getElem?_eq_none (Nat.le_refl es.size)]
 first | refine wpAny_bind (wpAny_bind (wpAny_typeNameOfWhole_itemiter hT (wpAny_pure ?_))) | refine wpAny_bind (wpAny_bind (wpAny_typeNameOf_itemiter hT (wpAny_pure ?_)))
 show wpAny _ _ (setField (.ref it) 2 .none >>= fun _=>_) _ _ s
 refine wpAny_bind (wpAny_setField hit rfl (by simp) ?_)
 show wpAny _ _ (newExc (.type "StopIteration") [] >>= fun _=>_) _ _ _
 refine wpAny_bind ?_
 simp only[newExc,newTuple]
 refine wpAny_bind (wpAny_newObj_type (wpAny_bind (m:=firstArgMember _ _) (wpAny_of_eq (a:=Value.none) (by first | rfl | (simp only[firstArgMember];rfl)) (wpAny_newObj_type ?_ (by size_fits)))) (by size_fits))
 simp only[raiseNew]
 refine wpAny_bind (wpAny_handled ?_)
 rw[show A.in1.handled=none from hh]
 refine wpAny_bind (wpAny_pure ?_)
 refine wpAny_throw ?_
 refine wpAny_bind ?_
 refine wpAny_isInstance (b:=true) (T:="StopIteration") (by exact⟨_,Heap.get?_push_size _ rfl,rfl⟩) isSubtype_stop ?_
 exact wpAny_pure (hQ _ (((Heap.SameBut.update ..).extBut.push _).push _))
end
def Ca(d:Addr)(o:Obj)(kvs:List (List Y4×V)):It:=
  ⟨fun i H=>H d=some (.frz o (.dT kvs))/\i<kvs.length,
   fun i H v H'=>∃p b k y,H p=none/\kvs[i]?=some (k,y)/\v = .ref p/\H b=some (.tup (k.map kV))/\H'=upd H p (.tup [.ref b,y]),
   fun i H=>H d=some (.frz o (.dT kvs))/\i=kvs.length⟩
theorem Mi{P:Program}{w:World}{K:PySem.W.Frag}{elts:List Expr}{k:Nat}{pos:Pos}(d it:Addr)(o:Obj)(es:Array DictEntry)(ep:Nat)(kvs:List (List Y4×V))(ho:o.data = .dict es ep)(hlen:es.size=kvs.length) :
  PJ P w K (.Tuple elts k pos) (Ca d o kvs) [it] it (fun i h=>∃ok ov,IsItemIter h it d i es.size ep ok ov) where
 mem:=by simp
 obj:=fun i h ⟨ok,ov,st⟩ b hb=>by
  rw[List.mem_singleton.mp hb]
  exact⟨_,st,fun v z=>by cases z⟩
 keep:=fun i h h' ⟨ok,ov,st⟩ kk=>⟨ok,ov,kk it (by simp) _ st⟩
 item:=by
  intro X hP hw hK hc i pins s σ H E I hf st hg
  subst hP hw hK
  obtain⟨ok,ov,st⟩:=st
  obtain⟨hd,hi⟩:=hg
  obtain⟨e1,z,y,xs,r,o',es',ep',h1,h2,h3,h4,h5⟩:=(show ObjOk X.prog X.w H s.heap d (.frz o (.dT kvs)) from I.hok d _ hd)
  rw[e1] at h1;cases h1
  rw[ho] at h3;cases h3
  have hk:kvs[i]?=some kvs[i]:=List.getElem?_eq_getElem hi
  obtain⟨q,hq,eq,hb,rv⟩:=KT.get r hk
  have he:es[i]?=some (entryOfKey (tupleKind (YT X.prog X.w)) q):=by
   have:=congrArg (fun l=>l[i]?) h4
   simp only[List.getElem?_map,hq,Option.map_some] at this
   simpa using this
  have fi:=hf it (by simp)
  refine Ng st e1 ho he fun h' out hT kp=>⟨_,rfl,wpAny_letOwnedTupleGo_items out fun h2' he2 hs2=>?_⟩
  have hs2:Heap.SameBut it h' h2':=hs2
  have lt:it<s.heap.objs.size:=Heap.lt_size st
  have Tne:s.heap.objs.size≠it:=Nat.ne_of_gt lt
  have hTn:H s.heap.objs.size=none:=I.hok.fresh (Nat.le_refl _)
  have kk:∀c o,c∉[it]->s.heap.get? c=some o->h2'.get? c=some o:=fun c o hc' q=>hs2.extBut c o (fun z=>hc' (by simp[z])) (kp c o (fun z=>hc' (by simp[z])) q)
  have hT2:h2'.get? s.heap.objs.size=some { cls:=.type "tuple",data:=.seq #[.ref q.2.1,q.2.2] }:=hs2.extBut _ _ Tne hT
  have hcs:∀c∈[it],(c∈X.ex\/X.s₀.heap.objs.size<=c)/\c≠X.env.locals/\(∀x d,X.env.cells.lookup x=some d->d≠c)/\∀p∈X.pn++pins,p.1≠c:=fun c hc'=>by
   have f:=hf c hc'
   exact⟨f.2.2.2.1,f.2.1,f.2.2.2.2.1,f.2.2.2.2.2⟩
  have nfp:∀c u',H c=some u'->c∉[it]:=fun c u' q hc'=>by rw[(hf c hc').1] at q;cases q
  have hok0:HOk X.prog X.w H h2':=fun c u' q=>(I.hok c u' q).stay (fun d v hd q'=>kk d v (by
    rcases hd with z | z
    ·rw[z];exact nfp c u' q
    ·exact nfp d _ z) q') (fun _ z=>z) fun _ _ z=>z
  have new:ObjOk X.prog X.w (upd H s.heap.objs.size (.tup [.ref q.2.1,kvs[i].2])) h2' s.heap.objs.size (.tup [.ref q.2.1,kvs[i].2]):=
   ⟨by show 2<=sizeLine;decide,[.ref q.2.1,q.2.2],.cons rfl (.cons rv .nil),⟨_,hT2,rfl,_,rfl⟩⟩
  have hok1:HOk X.prog X.w (upd H s.heap.objs.size (.tup [.ref q.2.1,kvs[i].2])) h2':=fun c u' q=>by
   by_cases hb:c=s.heap.objs.size
   ·subst hb;rw[upd_same] at q;cases q;exact new
   ·rw[upd_ne hb] at q
    exact(hok0 c u' q).stay (fun d v _ q'=>q') (fun d z=>by rw[upd_ne (ZI z hTn)];exact z) fun d zs z=>by rw[upd_ne (ZI z hTn)];exact z
  have un:Un (OJ X.stack) [it] H (upd H s.heap.objs.size (.tup [.ref q.2.1,kvs[i].2])) s.heap h2':=by
   refine⟨fun c o q _ _ hx'=>kk c o hx' q,fun c o q _ _ hx'=>⟨o.slots,kk c o hx' q⟩,fun c o q n _=>?_,fun c o q hx'=>⟨o,kk c o hx' q⟩,fun c zs q=>?_,fun c o zs q=>?_,fun c ps q=>⟨#[],?_⟩⟩
   ·rw[upd_ne (Nat.ne_of_lt (Heap.lt_size q))];exact n
   ·rw[upd_ne (ZI q hTn)];exact q
   ·rw[upd_ne (ZI q hTn)];exact q
   ·rw[upd_ne (ZI q hTn),q];simp
  have I2:Inv X pins σ (upd H s.heap.objs.size (.tup [.ref q.2.1,kvs[i].2])) { s with heap:=h2' }:=I.call (g':=s.gens) (d':=s.drawn) (t':=s.toks) un hok1 I.bare hcs
  refine⟨.ref s.heap.objs.size,_,I2,rfl,⟨_,q.2.1,_,_,hTn,hk,rfl,hb,rfl⟩,⟨_,_,he2⟩,fun c hc'=>?_⟩
  rw[List.mem_singleton.mp hc',upd_ne (Nat.ne_of_lt lt)];exact fi.1
 done:=by
  intro X hP hw hK hc i pins s σ H E I hf st hg
  subst hP hw hK
  obtain⟨ok,ov,st⟩:=st
  obtain⟨hd,hi⟩:=hg
  obtain⟨e1,_⟩:=(show ObjOk X.prog X.w H s.heap d (.frz o (.dT kvs)) from I.hok d _ hd)
  obtain⟨f0,f1,f2,f3,f4,f5⟩:=hf it (by simp)
  rw[hi,<-hlen] at st
  exact Mh (I.ok.hd hc) st e1 ho fun h' eb=>⟨rfl,I.turned (t':=s.toks) (fun b o hb e=>eb b o hb e) f0 f1 f3 f4 f5⟩
 self:=fun A i s Q E ⟨ok,ov,st⟩ hQ=>by
  have hT:s.TypeIs (.ref it) "dict_itemiterator":=⟨_,st,rfl⟩
  refine wpAny_pyIter_slot hT F.slot_dict_itemiterator_iter (wpAny_call_entry F.slot_dict_itemiterator_iter hT PySem.W.kcp_entry ?_ (F.args_dict_itemiterator_iter_1 _))
  show wpAny _ _ (ret (.ref it)) _ _ s
  exact wpAny_pure ⟨_,rfl,"dict_itemiterator",_,hT,F.slot_dict_itemiterator_next.lookup,hQ⟩
abbrev WJ:=Addr->Obj->List (List Y4×V)->It
def Nh(J:WJ)(tl:TE):TI:=fun σ H R=>tl σ H fun x H1=>∃d kvs,x = .ref d/\((H1 d=some (.dT kvs)/\∀o,R (J d o kvs) (upd H1 d (.frz o (.dT kvs))))\/∃o,H1 d=some (.frz o (.dT kvs))/\R (J d o kvs) H1)
section
variable {X:Cx} {l:Expr} {tl:TE} {apos cpos:Pos} {elts:List Expr} {k:Nat} {tpos:Pos}
theorem Ni(hl:PE X l tl)(hbase:attributeBase l "items" X.env (eval l X.env)=eval l X.env:=by rfl)(hline:(apos.endLine==cpos.line)=true:=by rfl):PI X (.Tuple elts k tpos) (.Call (.Attribute l "items" apos) [] [] cpos) (Nh Ca tl):=by
 intro pins s σ H R I h
 refine wpAny_Call_method0_late hbase hline (YZ (hl pins s σ H _ I h) fun v s1 ⟨x,H1,I1,r1,d,kvs,ex,q⟩=>?_)
 subst ex;cases r1
 have rd:Rd H1 d (.dT kvs):=by
  rcases q with⟨hd,_⟩ | ⟨o,hd,_⟩
  ·exact .inl hd
  ·exact .inr ⟨o,hd⟩
 obtain⟨t1,t2,t3⟩:=Jn I1 (.inr ⟨kvs,rd⟩)
 refine⟨"dict","dict.items",PySem.F.plainAttrs_dict,PySem.F.slot_dict_items,PySem.F.type_dict_items,t1,t2,Calls.callWith_builtin rfl (PySem.evalArgs_none (call_meetsIn PySem.F.slot_dict_items t1 PySem.F.entry_dict_items (PySem.F.args_dict_items_1 _) (Og d t3) ⟨t1,?_⟩))⟩
 have kept:∀b u,s1.heap.get? b=some u->(s1.heap.push { cls:=.type "dict_items",data:=.fields #[.ref d] }).get? b=some u:=fun b u e=>Heap.get?_push_of_some _ e
 have core:∀(o:Obj)(H2:Hp),Inv X pins σ H2 s1->H2 d=some (.frz o (.dT kvs))->R (Ca d o kvs) H2->wpAny (model X.prog X.w) X.A (pyIter (.ref s1.heap.objs.size)) (DZ X pins σ (.Tuple elts k tpos) R) X.xe { s1 with heap:=s1.heap.push { cls:=.type "dict_items",data:=.fields #[.ref d] } }:=fun o H2 I2 e2 q2=>by
  obtain⟨e1,z,y,xs,r,o',es,ep,h1,h2,h3,h4,h5⟩:=(show ObjOk X.prog X.w H2 s1.heap d (.frz o (.dT kvs)) from I2.hok d _ e2)
  rw[e1] at h1;cases h1
  have hsz:es.size=kvs.length:=by
   have a1:=congrArg List.length h4;have a2:=Paired.length r;simp only[Array.length_toList,List.length_map] at a1;omega
  have I3:Inv X pins σ H2 { s1 with heap:=s1.heap.push { cls:=.type "dict_items",data:=.fields #[.ref d] } }:=I2.kept (t':=s1.toks) kept
  refine Nf (v:=s1.heap.objs.size) (d:=d) ⟨_,Heap.get?_push_size _ rfl,rfl,rfl⟩ (kept _ _ e1) h3 ?_
  refine⟨_,[_],_,_,H2,rfl,I3.kept (t':=s1.toks) fun b o e=>Heap.get?_push_of_some _ e,Mi d _ o es ep kvs h3 hsz,⟨_,_,Heap.get?_push_size _ rfl⟩,fun b hb=>?_,q2⟩
  rw[List.mem_singleton.mp hb]
  exact I3.fpOk (Nat.le_refl _) (I3.hok.fresh (Nat.le_refl _))
 rcases q with⟨hd,q⟩ | ⟨o,hd,q⟩
 ·obtain⟨z,y,xs,r,o,es,ep,h1,h2,h3,h4,h5⟩:=(show ObjOk X.prog X.w H1 s1.heap d (.dT kvs) from I1.hok d _ hd)
  exact core o _ (I1.freeze hd h1) upd_same (q o)
 ·exact core o H1 I1 hd q
end
end L2
namespace VL
open PySem PySem.Spec PyProof.Rows L2
variable {K:PySem.W.Frag}
structure Wk(K:PySem.W.Frag)(J:WJ)(dk:PV->Option (List PV)):Prop where
 inv:∀dv ls,dk dv=some ls->∃ks vs,dv = .dT ks vs
 jis:∀{Rm:Addr->Prop}{H1:Hp}{d:Addr}{o:Obj}{kvs:List (List Y4×V)}{vs ls:List PV}{fq:List Addr},(∀p,Rm p->WY (H1 p))->H1 d=some (.frz o (.dT kvs))->¬Rm d->Iss K H1 vs (kvs.map (·.2)) fq->dk (.dT (kvs.map (·.1)) vs)=some ls->DP K Rm H1 (J d o kvs) ls
theorem GD:Wk K Er Pk where
 inv:=fun dv ls h=>by
  cases dv with
  | dT ks vs=>exact⟨ks,vs,rfl⟩
  | _=>cases h
 jis:=fun _ hd hn _ e=>by cases e;exact JS hd hn
def VR:PV->Option (List PV)
 | .dT ks vs=>if ZN vs=true then some ((ks.zip vs).map fun z=>.tup [Sk z.1,z.2]) else none
 | _=>none
theorem GE{kvs:List (List Y4×V)}{vs:List PV}{fq:List Addr}{H:Hp}:∀{i:Nat}{l:PV}{k:List Y4}{y:V},ZN vs=true->Iss K H vs (kvs.map (·.2)) fq->(((kvs.map (·.1)).zip vs).map fun z=>PV.tup [Sk z.1,z.2])[i]?=some l->kvs[i]?=some (k,y)->∃v,l = .tup [Sk k,v]/\ZM v=true/\Is K H v y []:=by
 induction kvs generalizing vs fq with
 | nil=>intro i l k y _ _ _ h;simp at h
 | cons p r ih=>
  intro i l k y hp h hl hk
  cases vs with
  | nil=>simp at hl
  | cons v vs=>
   obtain⟨x,xs,f1,f2,e1,e2,e3,e4⟩:=h.inv
   have hp':ZM v=true/\ZN vs=true:=by
    have:(ZM v&&ZN vs)=true:=hp
    simpa using this
   cases e1
   cases i with
   | zero=>
    simp at hl hk
    subst hk hl
    have:=Is.pure _ _ _ hp'.1 e2
    subst this
    exact⟨v,rfl,hp'.1,e2⟩
   | succ i=>exact ih (i:=i) hp'.2 e3 (by simpa using hl) (by simpa using hk)
theorem Kl(dv:PV)(ls:List PV)(h:VR dv=some ls):∃ks vs,dv = .dT ks vs:=by
 cases dv with
 | dT ks vs=>exact⟨ks,vs,rfl⟩
 | _=>cases h
theorem Nj:Wk K Ca VR:=⟨Kl,fun{Rm H1 d o kvs vs ls fq} hm hd hn hi e=>by
 have e:(if ZN vs=true then some (((kvs.map (·.1)).zip vs).map fun z=>PV.tup [Sk z.1,z.2]) else none)=some ls:=e
 split at e
 case isFalse=>cases e
 rename_i hp
 cases e
 have hl:vs.length=kvs.length:=by have:=hi.len;simp at this;omega
 have hl2:(((kvs.map (·.1)).zip vs).map fun z=>PV.tup [Sk z.1,z.2]).length=kvs.length:=by simp[hl]
 refine⟨fun H' ab=>⟨ab d _ hd hn,hl2⟩,fun H' i l ab hl=>⟨ab d _ hd hn,by have:=(List.getElem?_eq_some_iff.mp hl).1;rw[hl2] at this;exact this⟩,fun H' i l x H'' ab hl y=>?_⟩
 obtain⟨p,b,k,v,hp0,hk,rfl,hb,rfl⟩:=y
 obtain⟨u,rfl,hu,iu⟩:=GE hp hi hl hk
 have sn:Same H' (upd H' p (.tup [.ref b,v])):=Same.new hp0 _
 have iu':Is K H' u v []:=Is.tr (Ab.tk ab hm) _ _ _ (fun q hq=>by simp at hq) iu
 refine⟨sn,[],Is.tup upd_same ?_,fun q hq=>by simp at hq⟩
 have h1:Is K (upd H' p (.tup [.ref b,v])) (Sk k) (.ref b) []:=Is.tup (sn b _ hb) (N8 k)
 have:=Iss.cons h1 (Iss.one (iu'.mono sn))
 simpa using this⟩
theorem GF{X:Cx}{e:Expr}{t:TE}(h:PE X e t):PE X e (fun σ H Q=>(∃d kvs,H d=some (.dT kvs)/\t σ H (fun v H2=>(∃o,H2 d=some (.frz o (.dT kvs)))/\Q v (upd H2 d (.dT kvs))))\/t σ H Q):=by
 intro pins s σ H Q I hq
 rcases hq with⟨d,kvs,hd,q⟩ | q
 ·have h0:∀o u,X.H₀ d≠some (.frz o u):=fun o u z=>by
   have:=I.base.frzs d o u z
   rw[hd] at this;cases this
  exact YZ (h pins s σ H _ I q) fun v s' ⟨x,H',I',r',⟨o,ho⟩,q'⟩=>⟨x,_,Inv.thaw I' ho h0,r',q'⟩
 ·exact h pins s σ H Q I q
def Vi(dk:PV->Option (List PV))(n:Nat)(ix:List Nat)(k:Nat)(T:Tgt)(ft:XT)(fe:XE):XE:=Zy n ix (fun s=>(s[k]?).join.bind dk) T ft fe
section
variable {X:Cx} {tg elt iter:Expr} {ifs:List Expr} {scope:Scope} {pos:Pos} {T:Tgt} {ft:XT} {fe:XE} {J:WJ} {dk:PV->Option (List PV)}
theorem Pp{n:Nat}{ix:List Nat}{ls vs:List PV}(wk:Wk K J dk)(hT:∀i∈T.slots,i<n){Rm:Addr->Prop}{σ:Sc}{H1:Hp}{s:ZU}{l:PV}{d:Addr}{o:Obj}{kvs:List (List Y4×V)}{fq:List Addr}{Q:VK}(hm:∀p,Rm p->WY (H1 p))(env:EnvIs K Rm H1 s σ)(hd:H1 d=some (.frz o (.dT kvs)))
  (hi:Iss K H1 vs (kvs.map (·.2)) fq) (hls:dk (.dT (kvs.map (·.1)) vs)=some ls) (e:Zy n ix (fun _=>some ls) T ft fe s=some l) (k:∀v H' fp,Same H1 H'->Is K H' l v fp->(∀p∈fp,¬Rm p)->Q v H') (Rest:It->Hp->Prop) (hR:RL n ix (iF K fun _=>some ls) (gT K T) (OG K ft) (tF K fe) σ H1 Q=iF K (fun _=>some ls) σ H1 Rest):Rest (J d o kvs) H1:=by
 have main:=Ll (K:=K) (n:=n) (ix:=ix) (fi:=fun _=>some ls) (T:=T) (ft:=ft) (fe:=fe) hT σ H1 Q ⟨Rm,s,l,hm,env,e,k⟩
 rw[hR] at main
 obtain⟨Rm',s',ls',hm',env',efi,use⟩:=main
 cases efi
 exact use (J d o kvs) H1 (Same.refl H1) (wk.jis hm' hd (fun z=>by have:=hm' d z;rw[hd] at this;exact this) hi hls)
theorem Nk(wk:Wk X.K J dk)(own fr:List Str)(ix:List Nat){j:Nat}(hcalm:X.calm=true)(hi:PI X tg iter (Nh J (V9 j)))(S:Ue X.N X.env.scope scope own fr ix=true)
  (hg:∀cl C s H ex,PG (ZW X (own++fr) scope cl C s H ex) tg (gT X.K T)) (ht:∀cl C s H ex,E5 (ZW X (own++fr) scope cl C s H ex) ifs ft) (he:∀cl C s H ex,VE (ZW X (own++fr) scope cl C s H ex) elt fe)
  (hT:∀i∈T.slots,i<own.length:=by decide) (hs:∀x,foldedSetIterable iter X.env x=pure x:=by intro _;rfl):VE X (.ListComp elt [⟨tg,iter,ifs,0⟩] scope pos) (Vi dk own.length ix j T ft fe):=
 PE.imp (GF (RP own fr ix hcalm hi S hg (fun cl C s H ex=>(show K3 (ZW X (own++fr) scope cl C s H ex) ifs (OG X.K ft) from ht cl C s H ex)) (fun cl C s H ex=>(show PE (ZW X (own++fr) scope cl C s H ex) elt (tF X.K fe) from he cl C s H ex)) hs)) fun σ H Q ⟨Rm,s,l,hm,env,e1,kk⟩=>by
 obtain⟨ls,el,_⟩:=Zg (show((s[j]?).join.bind dk).bind _=some l from e1)
 have e2:Zy own.length ix (fun _=>some ls) T ft fe s=some l:=by
  rw[<-e1]
  show(some ls).bind _=((s[j]?).join.bind dk).bind _
  rw[el]
 obtain⟨dv,ed,ek⟩:=Zg el
 have ed:=join_some ed
 obtain⟨ks,vs,rfl⟩:=wk.inv _ _ ek
 obtain⟨v,fp0,hv,iv,nr⟩:=env.is j _ ed
 obtain⟨d,kvs,fq,rfl,hd,rfl,hvs,efp⟩:=id iv.dT_inv
 have nrd:¬Rm d:=nr d (by rw[efp];exact List.mem_cons_self)
 rcases hd with hd | ⟨o,hd⟩
 ·left
  refine⟨d,kvs,hd,.ref d,hv,d,kvs,rfl,.inl ⟨hd,fun o=>?_⟩⟩
  have h2:upd H d (.frz o (.dT kvs)) d=some (.frz o (.dT kvs)):=upd_same
  have hsw':∀b,b≠d->upd H d (.frz o (.dT kvs)) b=H b:=fun b hb=>upd_ne hb
  have tr1:∀l v fp,Is X.K H l v fp->Is X.K (upd H d (.frz o (.dT kvs))) l v fp:=fun l v fp b=>Is.tr (TK2.swap (d:=d) (kvs:=kvs) (.inl hd) hsw') _ _ _ (fun p _=>RdK.swap (d:=d) (kvs:=kvs) (.inl hd) (.inr ⟨o,h2⟩) hsw' p) b
  have env1:EnvIs X.K Rm (upd H d (.frz o (.dT kvs))) s σ:=⟨fun k l q=>by
   obtain⟨w,fp,a,b,c⟩:=env.is k l q
   exact⟨w,fp,a,tr1 _ _ _ b,c⟩⟩
  have vs1:Iss X.K (upd H d (.frz o (.dT kvs))) vs (kvs.map (·.2)) fq:=by
   obtain⟨d',kvs',fq',e1,e2,e3,e4,e5⟩:=(tr1 _ _ _ iv).dT_inv
   cases e1
   cases Rd.dT_inj (.inr ⟨o,h2⟩) e2
   rw[efp] at e5;cases e5;exact e4
  refine Pp wk hT (fun p hp=>by rw[hsw' p (fun z=>nrd (z▸hp))];exact hm p hp) env1 h2 vs1 ek e2 (fun v H' fp sm is fresh=>?_) _ rfl
  have fd:H' d=some (.frz o (.dT kvs)):=sm d _ h2
  have sw2:∀b,b≠d->upd H' d (.dT kvs) b=H' b:=fun b hb=>upd_ne hb
  have same:Same H (upd H' d (.dT kvs)):=fun b u hb=>by
   by_cases q:b=d
   ·subst q
    rw[hd] at hb;cases hb;exact upd_same
   ·rw[upd_ne q]
    exact sm b u (by rw[hsw' b q];exact hb)
  exact⟨⟨o,fd⟩,kk _ _ fp same (Is.tr (TK2.swap (d:=d) (kvs:=kvs) (.inr ⟨o,fd⟩) sw2) _ _ _ (fun p _=>RdK.swap (d:=d) (kvs:=kvs) (.inr ⟨o,fd⟩) (.inl upd_same) sw2 p) is) fresh⟩
 ·right
  refine⟨.ref d,hv,d,kvs,rfl,.inr ⟨o,hd,?_⟩⟩
  exact Pp wk hT hm env hd hvs ek e2 (fun v H' fp sm is fresh=>kk _ _ fp sm is fresh) _ rfl
end
def FH(J:WJ)(i:Nat)(g:TG)(tb:TS):TS:=fun D σ H=>∃d kvs,σ[i]?=some (some (.ref d))/\
 ((H d=some (.dT kvs)/\∀o,Et g tb (thaw d kvs D) σ (J d o kvs) (upd H d (.frz o (.dT kvs))))\/∃o,H d=some (.frz o (.dT kvs))/\Et g tb D σ (J d o kvs) H)
theorem GG{J:WJ}{X:Cx}{st:Stmt}{i:Nat}{g:TG}{tb:TS}(h:PS X st (F4 (Nh J (V9 i)) g tb)):PS X st (FH J i g tb):=by
 intro pins s σ H D I hq
 obtain⟨d,kvs,hv,alt⟩:=hq
 rcases alt with⟨hd,q⟩ | ⟨o,hd,q⟩
 ·exact GC h pins s σ H D I (.inl ⟨d,kvs,hd,.ref d,hv,d,kvs,rfl,.inl ⟨hd,q⟩⟩)
 ·exact h pins s σ H D I ⟨.ref d,hv,d,kvs,rfl,.inr ⟨o,hd,q⟩⟩
def Ia(dk:PV->Option (List PV))(i:Nat)(T:Tgt)(fb:XS):XS:=fun s=>((s[i]?).join.bind dk).bind fun ls=>Wp T fb ls s
section
variable {O W:List Nat} {T:Tgt} {fb:XS} {i:Nat}
theorem Km{J:WJ}{dk:PV->Option (List PV)}(wk:Wk K J dk){ls0:List PV}{O':List Nat}{H0 H:Hp}{fps:Nat->List Addr}{s:ZU}{σ:Sc}{D:U6}{out:Out}{ks:List (List Y4)}{vs:List PV}(r:Rel K O H0 fps s σ H)(hO':∀j∈O',j∈O/\j≠i)(e:s[i]?=some (some (.dT ks vs)))
  (el:dk (.dT ks vs)=some ls0) (ef:Wp T fb ls0 s=some out) (hT:∀j∈T.slots,j∉O')
  (k:∀(F:Hp)(th:Hp->Hp),(∀b,H b≠none->¬Ow O' fps b->F b≠none)->Same H0 (th F)->(∀H',Same F H'->Same (th F) (th H')/\TK2 H' (th H')/\(∀p,RdK H' (th H') p)/\(∀p,F p=none->th H' p=H' p)/\(∀p,p∈fps i->¬Ow O' fps p->H p=th H' p))->(∀p,F p=none->H0 p=none)->
   ∀out',out=out'->match out' with
    | .nx s'=>∀fps' σ' H',Rel K O' F fps' s' σ' H'->(∀j,j∉T.slots++W->σ'[j]?=σ[j]?/\Kep (fps' j) (fps j))->D.nx σ' (th H')
    | .rt l=>∀v fp H',Same F H'->Is K H' l v fp->fp.Nodup->(∀p∈fp,F p=none/\WY (H' p))->D.rt v (th H')
    | _=>True):FH J i (gT K T) (FC K O' W fb) D σ H:=by
 obtain⟨v,hv,iv⟩:=r.is i _ e
 obtain⟨d,kvs,fq,rfl,hd,rfl,hi,efp⟩:=iv.dT_inv
 have dO:¬Ow O' fps d:=fun⟨j,hj,hp⟩=>r.dis j (hO' j hj).1 i (Ne.symm (hO' j hj).2) d hp (by rw[efp];exact List.mem_cons_self)
 have owm:∀p,Ow O' fps p->H0 p=none/\WY (H p):=fun p ⟨j,hj,hp⟩=>r.own j (hO' j hj).1 p hp
 -- the frame and the relation at the loop's start,in a heap that differs from H at d alone
 have start:∀H2:Hp,Rd H2 d (.dT kvs)->(∀b,b≠d->H2 b=H b)->Rel K O' (Wb H2 (Ow O' fps)) fps s σ H2:=fun H2 h2 hs=>by
  refine⟨Pf,r.len,fun j l q=>?_,r.emp,fun j hj=>r.nd j (hO' j hj).1,fun j hj p hp=>⟨by unfold Wb;rw[if_pos ⟨j,hj,hp⟩],?_⟩,fun j hj=>r.dis j (hO' j hj).1⟩
  ·obtain⟨w,a,b⟩:=r.is j l q
   exact⟨w,a,Is.tr (TK2.swap hd hs) _ _ _ (fun p _=>RdK.swap hd h2 hs p) b⟩
  ·have pd:p≠d:=fun z=>dO ⟨j,hj,z▸hp⟩
   rw[hs p pd];exact(r.own j (hO' j hj).1 p hp).2
 have mutOw:∀H2:Hp,(∀b,b≠d->H2 b=H b)->∀p,Ow O' fps p->WY (H2 p):=fun H2 hs p hp=>by
  rw[hs p (fun z=>dO (z▸hp))];exact(owm p hp).2
 have isW:∀H2:Hp,Rd H2 d (.dT kvs)->(∀b,b≠d->H2 b=H b)->Iss K H2 vs (kvs.map (·.2)) fq:=fun H2 h2 hs=>by
  obtain⟨d',kvs',fq',e1,e2,e3,e4,e5⟩:=(Is.tr (TK2.swap hd hs) _ _ _ (fun p _=>RdK.swap hd h2 hs p) iv).dT_inv
  cases e1
  cases Rd.dT_inj h2 e2
  rw[efp] at e5;cases e5;exact e4
 have outk:∀(F:Hp)(th:Hp->Hp)(D':U6),(∀σ' H',Same F H'->D.nx σ' (th H')->D'.nx σ' H')->(∀v H',Same F H'->D.rt v (th H')->D'.rt v H')->(∀b,H b≠none->¬Ow O' fps b->F b≠none)->Same H0 (th F)->(∀H',Same F H'->Same (th F) (th H')/\TK2 H' (th H')/\(∀p,RdK H' (th H') p)/\(∀p,F p=none->th H' p=H' p)/\(∀p,p∈fps i->¬Ow O' fps p->H p=th H' p))->(∀p,F p=none->H0 p=none)->(∀s',out≠.bk s')->(∀s',out≠.ct s')->OutOk K O' (T.slots++W) F fps σ D' out:=fun F th D' h1 h2 h3 h4 h5 h6 hb hc=>by
  have kk:=k F th h3 h4 h5 h6 out rfl
  cases out with
  | nx s'=>exact fun fps' σ' H' r' q'=>h1 σ' H' r'.same (kk fps' σ' H' r' q')
  | rt l=>exact fun v fp H' sm i d n=>h2 v H' sm (kk v fp H' sm i d n)
  | bk s'=>exact absurd rfl (hb s')
  | ct s'=>exact absurd rfl (hc s')
 have nobc:(∀s',out≠.bk s')/\(∀s',out≠.ct s'):=by
  have:∀(ls:List PV)(s:ZU)(o:Out),Wp T fb ls s=some o->(∀s',o≠.bk s')/\(∀s',o≠.ct s'):=by
   intro ls
   induction ls with
   | nil=>intro s o h;cases h;exact⟨fun _ z=>(nomatch z),fun _ z=>(nomatch z)⟩
   | cons l rr ih=>
    intro s o h;unfold Wp at h
    obtain⟨s1,_,h⟩:=Zg h
    obtain⟨o1,_,h⟩:=Zg h
    cases o1 with
    | nx s2=>exact ih s2 o h
    | ct s2=>exact ih s2 o h
    | bk s2=>cases h;exact⟨fun _ z=>(nomatch z),fun _ z=>(nomatch z)⟩
    | rt v=>cases h;exact⟨fun _ z=>(nomatch z),fun _ z=>(nomatch z)⟩
  exact this _ _ _ ef
 rcases hd with hd | ⟨o,hd⟩
 ·refine⟨d,kvs,hv,.inl ⟨hd,fun o=>?_⟩⟩
  have h2:upd H d (.frz o (.dT kvs)) d=some (.frz o (.dT kvs)):=upd_same
  have hs:∀b,b≠d->upd H d (.frz o (.dT kvs)) b=H b:=fun b hb=>upd_ne hb
  have Fd:Wb (upd H d (.frz o (.dT kvs))) (Ow O' fps) d=some (.frz o (.dT kvs)):=by unfold Wb;rw[if_neg dO];exact h2
  refine R1 (K:=K) (start _ (.inr ⟨o,h2⟩) hs) (wk.jis (mutOw _ hs) h2 dO (isW _ (.inr ⟨o,h2⟩) hs) el) ef hT (outk _ (fun Hx=>upd Hx d (.dT kvs)) (thaw d kvs D) (fun σ' H' sm q=>⟨⟨o,sm d _ Fd⟩,q⟩) (fun v H' sm q=>⟨⟨o,sm d _ Fd⟩,q⟩) (fun b hb nb=>?_) (fun b u h=>?_) (fun H' sm=>⟨?_,?_,fun p=>?_,fun p hp=>?_,fun p hp np=>?_⟩) (fun p hp=>?_) nobc.1 nobc.2)
  ·unfold Wb;rw[if_neg nb]
   by_cases e:b=d
   ·subst e;rw[h2];simp
   ·rw[hs b e];exact hb
  ·by_cases e:b=d
   ·subst e
    have:=r.same b u h
    rw[hd] at this;cases this;exact upd_same
   ·rw[upd_ne e]
    unfold Wb
    rw[if_neg (fun z=>by rw[(owm b z).1] at h;cases h),hs b e]
    exact r.same b u h
  ·intro b u h
   by_cases e:b=d
   ·subst e;rw[upd_same] at h ⊢;exact h
   ·rw[upd_ne e] at h ⊢;exact sm b u h
  ·exact TK2.swap (d:=d) (kvs:=kvs) (.inr ⟨o,sm d _ Fd⟩) fun b hb=>upd_ne hb
  ·exact RdK.swap (d:=d) (kvs:=kvs) (.inr ⟨o,sm d _ Fd⟩) (.inl upd_same) (fun b hb=>upd_ne hb) p
  ·exact upd_ne fun e=>by rw[e,Fd] at hp;cases hp
  ·by_cases e:p=d
   ·subst e;rw[hd];exact upd_same.symm
   ·show H p=upd H' d (.dT kvs) p
    rw[upd_ne e];have hpn:=r.dom i p hp
    cases q:H p with
    | none=>exact absurd q hpn
    | some u=>exact(sm p u (by unfold Wb;rw[if_neg np,hs p e];exact q)).symm
  ·cases q:H0 p with
   | none=>rfl
   | some u=>
    exfalso
    have hpd:p≠d:=fun e=>by rw[e,Fd] at hp;cases hp
    unfold Wb at hp
    rw[if_neg (fun z=>by rw[(owm p z).1] at q;cases q),hs p hpd,r.same p u q] at hp
    cases hp
 ·refine⟨d,kvs,hv,.inr ⟨o,hd,?_⟩⟩
  have Fd:Wb H (Ow O' fps) d=some (.frz o (.dT kvs)):=by unfold Wb;rw[if_neg dO];exact hd
  refine R1 (K:=K) (start H (.inr ⟨o,hd⟩) fun _ _=>rfl) (wk.jis (mutOw _ fun _ _=>rfl) hd dO (isW _ (.inr ⟨o,hd⟩) fun _ _=>rfl) el) ef hT (outk _ (fun Hx=>Hx) D (fun σ' H' sm q=>q) (fun v H' sm q=>q) (fun b hb nb=>by unfold Wb;rw[if_neg nb];exact hb) (fun b u h=>?_) (fun H' sm=>⟨sm,Same.tk2 (Same.refl _),fun p=>RdK.of fun _ z=>z,fun p _=>rfl,fun p hp np=>?_⟩) (fun p hp=>?_) nobc.1 nobc.2)
  ·unfold Wb
   rw[if_neg (fun z=>by rw[(owm b z).1] at h;cases h)]
   exact r.same b u h
  ·have hpn:=r.dom i p hp
   cases q:H p with
   | none=>exact absurd q hpn
   | some u=>exact(sm p u (by unfold Wb;rw[if_neg np];exact q)).symm
  ·cases q:H0 p with
   | none=>rfl
   | some u=>
    exfalso;unfold Wb at hp
    rw[if_neg (fun z=>by rw[(owm p z).1] at q;cases q),r.same p u q] at hp
    cases hp
end
section
variable {X:Cx} {O W:List Nat} {T:Tgt} {fb:XS} {i:Nat} {st:Stmt} {J:WJ} {dk:PV->Option (List PV)}
theorem GH(wk:Wk X.K J dk)(h:PS X st (F4 (Nh J (V9 i)) (gT X.K T) (FC X.K O W fb)))(hi:i∉O:=by decide)(hT:∀j∈T.slots,j∉O:=by decide):VS X O (T.slots++W) st (Ia dk i T fb):=PS.imp (GG h) fun D σ H ⟨H0,fps,s,out,r,e,k⟩=>by
 obtain⟨ls,e1,e⟩:=Zg e
 obtain⟨d,e2,e3⟩:=Zg e1
 have e2:=join_some e2
 obtain⟨ks,vs,rfl⟩:=wk.inv _ _ e3
 refine Km wk (O':=O) r (fun j hj=>⟨hj,fun z=>hi (z▸hj)⟩) e2 e3 e hT fun F th _ h4 h5 h6 out' eo=>?_
 subst eo
 cases out with
 | nx s'=>
  intro fps' σ' H' r' q'
  obtain⟨t1,t2,t3,t4,_⟩:=h5 H' r'.same
  refine k fps' σ' (th H') ⟨h4.trans t1,r'.len,fun j l q=>?_,r'.emp,r'.nd,fun j hj p hp=>⟨h6 p (r'.own j hj p hp).1,by rw[t4 p (r'.own j hj p hp).1];exact(r'.own j hj p hp).2⟩,r'.dis⟩ q'
  obtain⟨v,a,b⟩:=r'.is j l q
  exact⟨v,a,Is.tr t2 _ _ _ (fun p _=>t3 p) b⟩
 | rt l=>
  intro v fp H' sm is nd fr
  obtain⟨t1,t2,t3,t4,_⟩:=h5 H' sm
  exact k v fp (th H') (h4.trans t1) (Is.tr t2 _ _ _ (fun p _=>t3 p) is) nd fun p hp=>⟨h6 p (fr p hp).1,by rw[t4 p (fr p hp).1];exact(fr p hp).2⟩
 | bk s'=>trivial
 | ct s'=>trivial
end
end VL
namespace L2
open PySem PySem.Spec PyProof.Rows
section
variable {prog:Program} {w:World} {κ:Type} [DecidableEq κ] {knd:HeapKind prog w κ} {A:Around} {E:Value->Shared->Prop} {s:Shared}
theorem Ib{d a:Addr}{xs:List (κ×Addr×Value)}{k:κ}{v:Value}{Q:Value->Shared->Prop}(hu:knd.room A)(hkey:knd.is s.heap k a)(hm:s.heap.DictOfH knd d xs)(hsz:xs.length<=sizeLine)
  (h1:∀p,atKey xs k=some p->Q p.2 { s with toks:=s.toks+knd.draws k })
  (h2:atKey xs k=none->∀h',h'.DictOfH knd d (storedH xs k a v)->Heap.SameBut d s.heap h'->Q v { s with heap:=h',toks:=s.toks+knd.draws k }):wpAny (model prog w) A (dictSetDefault d (.ref a) v) Q E s:=by
 obtain⟨o,es,ep,ho,hc,hd,he,his,hn⟩:=hm
 unfold dictSetDefault
 try with_reducible refine wpAny_holding ?_
 refine wpAny_bind (knd.pyHash hu hkey (wpAny_bind (wpAny_dictFind_heap (s:={ s with toks:=s.toks+knd.draws k }) hu hkey ho hd he his hn (fun hno=>?_) fun j p hj=>?_)))
 ·have none':=atKey_none_of_get hno
  have hnot:k∉xs.map (·.1):=not_mem_keys_of_get hno
  refine wpAny_bind (wpAny_rule (wpAny_bind (wpAny_updateDictKeys (hz:=by have e:=size_of_entries he;omega) (s:={ s with toks:=s.toks+knd.draws k }) ho hd (wpAny_pure (h2 none' _ ⟨_,_,ep+1,Heap.get?_update_self _ ho (Obj.isFreed_of_dict (Obj.data_mapDictKeys hd _)),hc.mapDictKeys _,Obj.data_mapDictKeys hd _,?_,?_,?_⟩ (Heap.SameBut.update ..))))))
  ·rw[storedH_new none'];simp[he,entryOfKey]
  ·rw[storedH_new none']
   intro x hx
   rcases List.mem_append.mp hx with hx | hx
   ·exact knd.keeps (his x hx) ho hd (Heap.SameBut.update ..)
   ·rw[List.mem_singleton.mp hx];exact knd.keeps hkey ho hd (Heap.SameBut.update ..)
  ·rw[storedH_new none',List.map_append,List.nodup_append]
   refine⟨hn,by simp,fun x hx y hy=>?_⟩
   simp only[List.map_cons,List.map_nil,List.mem_singleton] at hy
   exact fun e=>hnot (by rw[<-hy,<-e];exact hx)
 ·refine wpAny_bind (wpAny_dictEntries (s:={ s with toks:=s.toks+knd.draws k }) ho hd ?_)
  rw[entry_at he j,hj]
  exact wpAny_bind (wpAny_rule (wpAny_pure (h1 p (atKey_of_get hn hj))))
theorem QW(d a:Addr)(nd:(d==sysModules)=false)(dflt:Value):MeetsIn prog w (Builtin.«dict.setdefault» ⟨[.ref d,.ref a,dflt],[]⟩) (fun A R s=>knd.room A.in1/\∃k xs,knd.is s.heap k a/\s.heap.DictOfH knd d xs/\xs.length<=sizeLine/\
  (∀p,atKey xs k=some p->R (.ok (.ret p.2)) { s with toks:=s.toks+knd.draws k })/\(atKey xs k=none->∀h',h'.DictOfH knd d (storedH xs k a dflt)->Heap.SameBut d s.heap h'->R (.ok (.ret dflt)) { s with heap:=h',toks:=s.toks+knd.draws k })):=
 .of_wp fun A R s ⟨hu,k,xs,hkey,hm,hz,h1,h2⟩=>by
  unfold Builtin.«dict.setdefault» Builtin.Dict.keyAndDefault
  refine wpAny_bind (wpAny_bind (wpAny_notOrdered_dict hm.typeIs (show wpAny _ _ (pure (d,Value.ref a,some dflt)) _ _ s from wpAny_pure ?_)))
  show wpAny _ _ (if(d==sysModules)=true then _ else(dictSetDefault d (.ref a) dflt >>= fun _=>_)) _ _ s
  rw[if_neg (fun z=>by rw[nd] at z;cases z)]
  exact wpAny_bind (Ib hu hkey hm hz (fun p hp=>wpAny_pure ⟨_,rfl,h1 p hp⟩) fun hn h' hm' hs'=>wpAny_pure ⟨_,rfl,h2 hn h' hm' hs'⟩)
end
section
variable {X:Cx} {pins:List (Addr×Obj)} {σ:St} {H:Hp} {s:Shared} {a b:Addr} {A:Around} {E:Value->Shared->Prop}
theorem Ic{kvs:List (List Y4×V)}{k:List Y4}{v:V}{r:Value}{Q:Value->Shared->Prop}(hu:A.units+1<cLine)(I:Inv X pins σ H s)(e:H a=some (.dT kvs))(eb:H b=some (.tup (k.map kV)))(l:kvs.length<sizeLine)(rv:RelV v r)
  (h1:∀x,U8 kvs k=some x->∀u s',Inv X pins σ H s'->RelV x u->Q u s') (h2:U8 kvs k=none->∀s',Inv X pins σ (upd H a (.dT (T5 kvs k v))) s'->Q r s'):wpAny (model X.prog X.w) A (call (.builtin "dict.setdefault") [.ref a,.ref b,r]) Q E s:=by
 obtain⟨z,hd,xs,rel,dd⟩:=Fw I.hok e
 have hz:xs.length<=sizeLine:=by rw[<-Paired.length rel];exact z
 have hl:(T5 kvs k v).length<=sizeLine:=by have:=OV kvs k v;omega
 refine call_meetsIn PySem.F.slot_dict_setdefault dd.typeIs PySem.F.entry_dict_setdefault (PySem.F.args_dict_setdefault_3 _ _ _) (QW (knd:=tupleKind (YT X.prog X.w)) a b hd r) ⟨tupleKind_room_in1 hu,k,xs,NV I.hok eb,dd,hz,fun p hp=>?_,fun hn h' dd' hs=>?_⟩
 ·have q:=rel.val k
  rw[hp] at q
  cases hv:U8 kvs k with
  | none=>rw[hv] at q;exact q.elim
  | some x=>rw[hv] at q;exact h1 x hv _ _ (I.tok _) q
 ·have q:=rel.val k
  rw[hn] at q
  cases hv:U8 kvs k with
  | some x=>rw[hv] at q;exact q.elim
  | none=>
   refine h2 hv _ ?_
   obtain⟨q,es,ep,hq,g2,g3,g4,_,g5⟩:=dd'
   refine Ld I (by rw[e];exact True.intro) hs ⟨q,hq⟩ ⟨hl,hd,_,(rel.put k eb rv).keeps fun c ys ec=>?_,q,es,ep,hq,g2,g3,g4,g5⟩
   rw[upd_ne (Fh ec e (fun z=>nomatch z))];exact ec
end
def Nl(td ty tx:TE):TE:=fun σ H Q=>td σ H fun x H1=>∃a,x = .ref a/\CM H1 a/\ty σ H1 fun y H2=>tx σ H2 fun z H3=>∃kvs k b,H3 a=some (.dT kvs)/\y = .ref b/\H3 b=some (.tup (k.map kV))/\kvs.length<sizeLine/\(∀v,U8 kvs k=some v->Q v H3)/\(U8 kvs k=none->Q z (upd H3 a (.dT (T5 kvs k z))))
def EM(tk tv:TE):TE:=fun σ H Q=>∀p,H p=none->tk σ (upd H p (.dT [])) fun x H1=>tv σ H1 fun y H2=>H2 p=some (.dT [])/\∃k b,x = .ref b/\H2 b=some (.tup (k.map kV))/\Q (.ref p) (upd H2 p (.dT [(k,y)]))
section
variable {X:Cx} {o e f:Expr} {apos cpos pos:Pos} {td ty tx tk tv:TE}
theorem Mj(hu:X.A.units+1<cLine)(ho:PE X o td)(he:PE X e ty)(hf:PE X f tx)(m:M2 X o "setdefault" apos e f cpos):PE X (.Call (.Attribute o "setdefault" apos) [e,f] [] cpos) (Nl td ty tx):=by
 intro pins s σ H Q I h
 refine wpAny_Call_method m.base m.few m.line PySem.F.plainAttrs_dict PySem.F.slot_dict_setdefault PySem.F.type_dict_setdefault (YZ (ho pins s σ H _ I h) fun u s1 ⟨x,H1,I1,rx,a,ex,d,q1⟩=>?_)
 subst ex
 obtain rfl:u=Value.ref a:=rx
 obtain⟨t1,t2,_⟩:=Jn I1 d
 refine⟨t1,t2,?_⟩
 rw[m.trees]
 refine Calls.callWith_builtin rfl (Calls.evalArgs_plain (Calls.spliced_cons (YZ (he pins s1 σ H1 _ I1 q1) fun iv s2 ⟨y,H2,I2,ry,q2⟩=>Calls.spliced_cons (YZ (hf pins s2 σ H2 _ I2 q2) fun fv s3 ⟨z,H3,I3,rz,kvs,k,b,ea,ey,eb,l,q3,q4⟩=>Calls.spliced_nil ?_))))
 subst ey
 cases (show iv=Value.ref b from ry)
 exact Ic hu I3 ea eb l rz (fun x hx u s4 I4 ru=>⟨x,H3,I4,ru,q3 x hx⟩) fun hn s4 I4=>⟨z,_,I4,rz,q4 hn⟩
theorem Ie(hu:X.A.units<cLine)(hk:PE X e tk)(hv:PE X f tv):PE X (.Dict [some e] [f] pos) (EM tk tv):=by
 intro pins s σ H Q I h
 have hn:=I.hok.fresh (Nat.le_refl s.heap.objs.size)
 have I1:=I.laid (a:=s.heap.objs.size) (o:=.dT []) (h':=s.heap.push { cls:=.type "dict",data:=.dict #[] }) (t':=s.toks) (fun _ _ q=>Heap.get?_push_of_some _ q) (Nat.le_refl _) (OW s.heap I.big)
 have P1:D5 X pos [some e] [f] [(tk,tv)]:=Jm hk hv HR
 refine wpAny_Dict_any rfl rfl (by simp) (by simp) (YZ (P1 pins _ σ _ (fun ps H2=>match ps with
  | [(x,y)]=>H2 s.heap.objs.size=some (.dT [])/\∃k b,x = .ref b/\H2 b=some (.tup (k.map kV))/\Q (.ref s.heap.objs.size) (upd H2 s.heap.objs.size (.dT [(k,y)]))
  | _=>False) I1 (h _ hn)) fun ws s2 ⟨ps,H2,I2,rel,q2⟩=>?_)
 split at q2
 case h_2=>exact q2.elim
 case h_1 x y=>
  obtain⟨e2,k,b,ex,eb,q2⟩:=q2
  cases rel with
  | @cons p q ps qs r0 YJ=>
   cases YJ
   obtain⟨u,r⟩:=q
   obtain⟨rx,ry⟩:=r0
   subst ex
   cases (show u=Value.ref b from rx)
   obtain⟨z,hd,xs,rel,dd⟩:=Fw I2.hok e2
   cases rel;unfold storeAll;rw[List.forIn_cons]
   refine wpAny_bind (wpAny_bind (wpAny_dictSet_heap (hsz:=by simp) (knd:=tupleKind (YT X.prog X.w)) hu (NV I2.hok eb) dd fun h' dd' hs=>wpAny_pure ?_))
   show wpAny _ _ (forIn ([]:List (Value×Value)) PUnit.unit _) _ _ _
   rw[List.forIn_nil]
   refine wpAny_pure ⟨.ref s.heap.objs.size,_,?_,rfl,q2⟩
   obtain⟨q,es,ep,hq,g2,g3,g4,_,g5⟩:=dd'
   have rel0:KT H2 (T5 [] k y) (storedH [] k b r):=KT.put .nil k eb ry
   refine Ld I2 (by rw[e2];exact True.intro) hs ⟨q,hq⟩ ⟨by show 1<=sizeLine;decide,hd,_,rel0.keeps fun c ys ec=>?_,q,es,ep,hq,g2,g3,g4,g5⟩
   rw[upd_ne (Fh ec e2 (fun z=>nomatch z))];exact ec
end
end L2
namespace VL
open PySem PySem.Spec PyProof.Rows L2
variable {K:PySem.W.Frag}
theorem valV_none{κ:Type}[DecidableEq κ]{kvs:List (κ×V)}{k:κ}:U8 kvs k=none↔k∉kvs.map (·.1):=by
 unfold U8;rw[Option.map_eq_none_iff,List.find?_eq_none]
 simp
 constructor
 ·intro h v hv;exact h k v hv rfl
 ·rintro h a b hab rfl;exact h b hab
def Ig{κ:Type}[DecidableEq κ](ks:List κ)(k:κ):Bool:=decide (k∈ks)
theorem hasK_iff{κ:Type}[DecidableEq κ]{ks:List κ}{k:κ}:Ig ks k=true↔k∈ks:=decide_eq_true_iff
theorem Kn{κ:Type}[DecidableEq κ]{ks:List κ}{k:κ}(h:k∉ks):R6 ks k=ks++[k]:=if_neg h
theorem Ko{κ:Type}[DecidableEq κ]{ks:List κ}{vs:List PV}{k:κ}{v:PV}(h:k∉ks):R7 ks vs k v=vs++[v]:=if_neg h
def UN(i:Nat)(fk fv:XE):XS:=fun s=>(fk s).bind fun k=>(fv s).bind fun v=>((s[i]?).join).bind fun d=>match d with
 | .dT ks vs=>(gd (ZN vs&&ZM v&&decide (ks.length<=10000))).bind fun _=>(N7 k).map fun kt=>if Ig ks kt=true then .nx s else .nx (s.set i (some (.dT (R6 ks kt) (R7 ks vs kt v))))
 | _=>none
theorem Kp{X:Cx}{O:List Nat}{i:Nat}{st:Stmt}{fk fv:XE}(h:PS X st (OM (Nl (V9 i) (tF X.K fk) (tF X.K fv))))(hi:i∈O:=by decide):VS X O [i] st (UN i fk fv):=PS.imp h fun D σ H ⟨H0,fps,s,out,r,e,k⟩=>by
 obtain⟨kk,e2,e⟩:=Zg e
 obtain⟨v,e1,e⟩:=Zg e
 obtain⟨d,em,e⟩:=Zg e
 have em:=join_some em
 cases d with
 | dT ks vs=>
  obtain⟨_,eg,ed⟩:=Zg (show(gd (ZN vs&&ZM v&&decide (ks.length<=10000))).bind (fun _=>(N7 kk).map fun kt=>if Ig ks kt=true then Out.nx s else Out.nx (s.set i (some (.dT (R6 ks kt) (R7 ks vs kt v)))))=some out from e)
  have hc:=UA eg;simp only[Bool.and_eq_true,decide_eq_true_eq] at hc
  obtain⟨⟨pm,pl⟩,hlen⟩:=hc
  obtain⟨kt,e3,eo⟩:=map_some ed
  obtain⟨p,kvs,fq,hv,hp,rfl,hm,ef⟩:=r.dT_at hi em
  refine⟨.ref p,hv,p,rfl,.inr ⟨kvs,.inl hp⟩,fun _=>False,s,kk,fun _ z=>z.elim,r.env,e2,fun z H1 fz s1 i2 _=>⟨fun _=>False,s,v,fun _ z=>z.elim,r.env.mono s1,e1,fun y H2 fy s2 i1 _=>?_⟩⟩
  have s12:=s1.trans s2
  obtain⟨b,rfl,hb⟩:=Lq e3 i2
  have z1:=Is.pure _ _ _ pl i1;subst z1
  have hm':=(hm.mono s12).pureEq pm
  have z2:=Iss.pure _ _ _ pm hm;subst z2;have r2:=r.grow s12
  have hpf:p∈fps i:=by rw[ef];exact List.mem_cons_self
  have mu:=(r2.own i hi p hpf).2
  refine⟨kvs,kt,b,s12 _ _ hp,rfl,s2 _ _ hb,by rw[<-List.length_map (·.1)];exact lt_size hlen,fun x hx=>?_,fun hn=>?_⟩
  ·have mem:kt∈kvs.map (·.1):=by
    refine Classical.byContradiction fun c=>?_
    rw[valV_none.mpr c] at hx;cases hx
   rw[if_pos (hasK_iff.mpr mem)] at eo;subst eo
   exact k fps σ H2 r2 fun j hj=>⟨rfl,.inl rfl⟩
  ·have nm:=valV_none.mp hn
   rw[if_neg (fun z=>nm (hasK_iff.mp z))] at eo;subst eo
   refine k _ _ _ (r2.mutate (o:=.dT (T5 kvs kt y)) (l':=.dT (R6 (kvs.map (·.1)) kt) (R7 (kvs.map (·.1)) vs kt v)) (fp':=[p]) hi hpf hv (Sj em) (Is.dT upd_same Gp (Iss.tr (TK.upd' mu) _ _ _ (fun q hq=>by simp at hq) (Gq hm' pm i1 pl))) (by simp) (fun q hq=>?_) (fun j hj q hq z=>r.dis i hi j hj q (by rw[ef];exact hq) z) True.intro) Pi
   rw[List.mem_singleton.mp hq]
   exact⟨(r.own i hi p hpf).1,by rw[upd_same];exact True.intro⟩
 | _=>cases e
def Qm(fk fv:XE):XE:=fun s=>(fk s).bind fun k=>(fv s).bind fun v=>(N7 k).bind fun kt=>if ZM v=true then some (.dT [kt] [v]) else none
theorem Ih{X:Cx}{e f:Expr}{pos:Pos}{fk fv:XE}(hu:X.A.units<cLine)(hk:VE X e fk)(hv:VE X f fv):VM X (.Dict [some e] [f] pos) (Qm fk fv):=PE.imp (Ie hu hk hv) fun σ H Q ⟨s,l,env,e,k⟩ p hp=>by
 obtain⟨kk,e2,e⟩:=Zg e
 obtain⟨v,e1,e⟩:=Zg e
 obtain⟨kt,e3,e⟩:=Zg e
 split at e
 case isFalse=>cases e
 rename_i pl
 cases e
 have s0:Same H (upd H p (.dT [])):=Same.new hp _
 refine⟨fun _=>False,s,kk,fun _ z=>z.elim,env.mono s0,e2,fun z H1 fz s1 i2 _=>⟨fun _=>False,s,v,fun _ z=>z.elim,env.mono (s0.trans s1),e1,fun y H2 fy s2 i1 _=>?_⟩⟩
 obtain⟨b,rfl,hb⟩:=Lq e3 i2
 have z1:=Is.pure _ _ _ pl i1;subst z1;have s12:=s1.trans s2
 have h2:H2 p=some (.dT []):=s12 _ _ upd_same
 refine⟨h2,kt,b,rfl,s2 _ _ hb,?_⟩
 have mu:WY (H2 p):=by rw[h2];exact True.intro
 have sw:Same H (upd H2 p (.dT [(kt,y)])):=fun q u hq=>by
  have ne:q≠p:=fun z=>by rw[z,hp] at hq;cases hq
  rw[upd_ne ne]
  exact s12 q u (s0 q u hq)
 refine k (.ref p) _ [p] sw (Is.dT upd_same rfl ?_) (by simp) fun q hq=>?_
 ·exact Iss.one (Is.tr (TK.upd' mu) _ _ _ (fun q hq=>by simp at hq) i1)
 ·rw[List.mem_singleton.mp hq]
  exact⟨hp,by rw[upd_same];exact True.intro⟩
end VL
namespace L2
open PySem PySem.Spec PyProof.Rows
theorem lri_hint:Slot "list_reverseiterator" "__length_hint__" "list_reverseiterator.__length_hint__":=
 .of (owner:="list_reverseiterator") (n:="__length_hint__") (by rw[typeLookup_type,builtinLookup_eq_fast];kernel_rfl) (by decide +kernel) (by decide +kernel) (by decide +kernel) (by first | exact .inl (by decide +kernel) | exact .inr (by decide +kernel)) (by rw[isSubtype_type];kernel_rfl)
theorem Mk:typeLookup (.type "list_reverseiterator") "__len__" = pure none:=by rw[typeLookup_type,builtinLookup_eq_fast];kernel_rfl
section
variable {prog:Program} {w:World} {A:Around} {E:Value->Shared->Prop} {s:Shared}
theorem Ii{I l:Addr}{i:Int}{Q:Bool->Shared->Prop}(hit:s.heap.IsRevIter I l i)(h:Q false s):wpAny (model prog w) A (Builtin.List.listLengthHint (.ref I)) Q E s:=by
 unfold Builtin.List.listLengthHint
 refine wpAny_bind (wpAny_specialOf hit.typeIs Mk ?_)
 show wpAny _ _ (specialOf (Value.ref I) (Str.ofString "__length_hint__") >>= fun _=>_) _ _ _
 refine wpAny_bind (wpAny_specialOf hit.typeIs lri_hint.lookup ?_)
 generalize hid:("list_reverseiterator.__length_hint__" : String)=id0
 wp_delta
 rw[show splitId id0=some ("list_reverseiterator","__length_hint__") from by subst hid;decide +kernel]
 subst hid
 refine wpAny_bind (wpAny_isInstance (T:="list_reverseiterator") (b:=true) hit.typeIs (by rw[isSubtype_type];kernel_rfl) ?_)
 refine wpAny_ite_split (fun z=>absurd z (by decide)) fun _=>?_
 refine wpAny_ite_split (fun _=>?_) fun z=>absurd (by decide +kernel) z
 refine wpAny_ite_split (fun z=>absurd z (by decide +kernel)) fun _=>?_
 exact wpAny_pure h
theorem GI{R:Result->Shared->Prop}{I l:Addr}{items:Array Value}(hh:A.handled=none)(hit:s.heap.IsRevIter I l ((items.size:Int)-1))(hl:s.heap.IsList l items)(hne:l≠I)(hz:items.size<=sizeLine)(S:Addr)(res:Value)(c₀:Nat)
  (hSI:S≠I) (hSl:S≠l) (hS:s.heap.get? S=some { cls:=.type "list",data:=.seq #[] c₀ })
  (hR:∀h' tk acc' c',(∀b o,b≠S->b≠I->s.heap.get? b=some o->h'.get? b=some o)->h'.get? S=some { cls:=.type "list",dict:=none,data:=.seq acc' c',slots:=#[] }->ItemsOf (fun i v=>items[items.size-1-i]?=some v) acc' items.size->R (.ok (.ret res)) { s with heap:=h',toks:=tk }) :
  wpAny (model prog w) A.in1 (Builtin.List.listExtendWith (.ref S) (.ref I) res) (fun fin s'=>match fin with | .done f=>R (.ok f) s' | .again c'=>c'.quiet=true/\codeAny (model prog w) A c' R s') (fun e s'=>R (.error e) s') s:=by
 have W:=(Walks.listRev (prog:=prog) (w:=w) (A:=A.in1) hh I l hne items).toS
 unfold Builtin.List.listExtendWith
 refine wpAny_bind (wpAny_typeOf hit.typeIs ?_)
 simp only[show Builtin.List.listSameRef (.ref S) (.ref I)=false by simp[Builtin.List.listSameRef,hSI],show(Value.type "list_reverseiterator"==Value.type "list")=false by decide,show(Value.type "list_reverseiterator"==Value.type "tuple")=false by decide,Bool.or_false,Bool.false_eq_true,if_false]
 refine wpAny_bind (wpAny_pyIter_revIter hit (wpAny_bind (wpAny_holding (Ii hit ?_))))
 refine wpAny_ite_split (fun z=>absurd z (by decide)) fun _=>wpAny_pure ⟨plainId_quiet F.plain_extend_loop _,?_⟩
 refine codeAny_extend_loopS W (by rw[sizeLine_eq] at hz ⊢;omega) S (by simp[hSI,hSl]) res items.size 0 _ #[] c₀ rfl (Nat.zero_le _) ⟨Nat.zero_le _,by simpa using hit,hl⟩ hS (ItemsOf.nil _) fun s' acc' c' hm hS' hacc=>?_
 rw[Moved.eq_with hm]
 exact hR s'.heap s'.toks acc' c' (fun b o hb hb' e=>hm.heap b o (fun z=>by
  rcases List.mem_cons.mp z with z | z
  ·exact hb z
  ·exact hb' (List.mem_singleton.mp z)) e) hS' hacc
theorem Ij{R:Result->Shared->Prop}{I l:Addr}{items:Array Value}(hh:A.handled=none)(hit:s.heap.IsRevIter I l ((items.size:Int)-1))(hl:s.heap.IsList l items)(hne:l≠I)(hz:items.size<=sizeLine)(S:Addr)
  (hSI:S≠I) (hSl:S≠l) (hS:s.heap.get? S=some { cls:=.type "list",data:=.seq #[] })
  (hR:∀h' tk acc' c',(∀b o,b≠S->b≠I->s.heap.get? b=some o->h'.get? b=some o)->h'.get? S=some { cls:=.type "list",dict:=none,data:=.seq acc' c',slots:=#[] }->ItemsOf (fun i v=>items[items.size-1-i]?=some v) acc' items.size->R (.ok (.ret .none)) { s with heap:=h',toks:=tk }) :
  wpAny (model prog w) A.in1 (Builtin.«list.__init__» ⟨[.ref S,.ref I],[]⟩) (fun fin s'=>match fin with | .done f=>R (.ok f) s' | .again c'=>c'.quiet=true/\codeAny (model prog w) A c' R s') (fun e s'=>R (.error e) s') s:=by
 show wpAny _ _ (do let old <-Builtin.List.listItems (.ref S);Builtin.List.listUpdate (.ref S) (fun _=>#[]);letGo old.toList.reverse;Builtin.List.listExtendWith (.ref S) (.ref I) .none) _ _ s
 unfold Builtin.List.listItems
 refine wpAny_bind (wpAny_bind (wpAny_seqItems hS rfl (wpAny_pure ?_)))
 show wpAny _ _ (updateSeq S (fun _=>#[]) >>= fun _=>letGo (#[]:Array Value).toList.reverse >>= fun _=>Builtin.List.listExtendWith (.ref S) (.ref I) .none) _ _ s
 have WG:∀b o,b≠S->s.heap.get? b=some o->(s.heap.update S (Obj.mapSeq (fun _=>(#[]:Array Value)))).get? b=some o:=fun b o hb e=>(Heap.get?_update_other _ _ (Ne.symm hb)).trans e
 refine wpAny_bind (wpAny_updateSeq hS rfl (wpAny_bind (wpAny_letGo ?_)))
 refine GI hh (hit.at fun o e=>WG I o (Ne.symm hSI) e) (hl.at fun o e=>WG l o (Ne.symm hSl) e) hne hz S .none _ hSI hSl (Heap.get?_update_self (Obj.mapSeq (fun _=>(#[]:Array Value))) hS rfl) fun h' tk acc' c' hk hS' hacc=>?_
 exact hR h' tk acc' c' (fun b o hb hb' e=>hk b o hb hb' (WG b o hb e)) hS' hacc
theorem Ik{I l:Addr}{items:Array Value}{Q:Value->Shared->Prop}(hh:A.handled=none)(hit:s.heap.IsRevIter I l ((items.size:Int)-1))(hl:s.heap.IsList l items)(hne:l≠I)(hz:items.size<=sizeLine)
  (hQ:∀h' tk acc' c',(∀b o,b≠I->s.heap.get? b=some o->h'.get? b=some o)->h'.get? s.heap.objs.size=some { cls:=.type "list",dict:=none,data:=.seq acc' c',slots:=#[] }->ItemsOf (fun i v=>items[items.size-1-i]?=some v) acc' items.size->Q (.ref s.heap.objs.size) { s with heap:=h',toks:=tk }) :
  wpAny (model prog w) A (call (.type "list") [.ref I]) Q E s:=by
 refine callType_codes (Q₁:=fun obj s₁=>obj = .ref s.heap.objs.size/\s₁={ s with heap:=s.heap.push { cls:=.type "list",data:=.seq #[] } }) F.called_list (F.typeCall_list_1 _) F.entry_list_init (code_list_new _ ⟨rfl,rfl⟩) fun obj s₁ h₁=>?_
 obtain⟨rfl,rfl⟩:=h₁
 have hS:(s.heap.push { cls:=.type "list",data:=.seq #[] }).get? s.heap.objs.size=some { cls:=.type "list",data:=.seq #[] }:=Heap.get?_push_size _ rfl
 have kp:∀b o,s.heap.get? b=some o->(s.heap.push { cls:=.type "list",data:=.seq #[] }).get? b=some o:=fun b o e=>Heap.get?_push_of_some _ e
 obtain⟨oI,eI,_⟩:=id hit
 obtain⟨ol,el,_⟩:=id hl
 refine⟨⟨_,hS,rfl⟩,F.args_list_init_2 _ _,Ij (A:=A.in1) hh (hit.at fun o e=>kp I o e) (hl.at fun o e=>kp l o e) hne hz _ (Nat.ne_of_gt (Heap.lt_size eI)) (Nat.ne_of_gt (Heap.lt_size el)) hS fun h' tk acc' c' hk hS' hacc=>?_⟩
 exact⟨rfl,hQ h' tk acc' c' (fun b o hb e=>hk b o (Nat.ne_of_lt (Heap.lt_size e)) hb (kp b o e)) hS' hacc⟩
end
end L2
namespace VL
open PySem PySem.Spec PyProof.Rows L2
theorem Il{xs:List V}{us vs:List Value}(r:Vals xs us)(hl:vs.length=us.length)(h:∀(i:Nat) v,vs[i]?=some v->us[us.length-1-i]?=some v):Vals xs.reverse vs:=by
 have e:vs=us.reverse:=by
  apply List.ext_getElem?
  intro i
  by_cases hi:i<us.length
  ·have hi':i<vs.length:=by omega
   rw[List.getElem?_reverse hi,h i vs[i] (List.getElem?_eq_getElem hi'),List.getElem?_eq_getElem hi']
  ·rw[List.getElem?_eq_none (by omega),List.getElem?_eq_none (by simp;omega)]
 rw[e]
 exact rev2 r
where rev2:∀{xs:List V}{us:List Value},Vals xs us->Vals xs.reverse us.reverse
 | [],_,.nil=>.nil
 | x::xs,u::us,.cons a b=>by
  rw[List.reverse_cons,List.reverse_cons]
  exact(rev2 b).append (.cons a .nil)
def C3(K:PySem.W.Frag)(ta:TA):TE:=fun σ H Q=>ta σ H fun vs H1=>∃a xs,vs=[.ref a]/\SqL K H1 a xs/\∀l,H1 l=none->Q (.ref l) (upd H1 l (.lst xs.reverse))
section
variable {X:Cx} {a:Expr} {ta:TA} {p p2 pos pos2:Pos}
theorem Ml(hc:X.calm=true)(hgl:Gl X "list")(hml:X.mg "list" = none)(hgr:Gl X "reversed")(hmr:X.mg "reversed" = none)(ha:PA X [a] ta)(hs:starEach [a] X.env=[(false,eval a X.env)]:=by rfl)
  (he:starEach [.Call (.Name "reversed" p2) [a] [] pos2] X.env=(false,eval (.Call (.Name "reversed" p2) [a] [] pos2) X.env)::starEach [] X.env:=by rfl) (hpl:(backTo pos (starEach [] X.env)).any (·.1)=false:=by rfl) :
  PE X (.Call (.Name "list" p) [.Call (.Name "reversed" p2) [a] [] pos2] [] pos) (C3 X.K ta):=by
 intro pins s σ H Q I h
 refine wpAny_Call_Name_kw (Ua I hgl hml (u:=.type "list") (by decide +kernel) ?_)
 refine PyProof.Rows.callWith_type1 (T:="list") ?_ he hpl
 rw[he]
 show wpAny _ _ (spliced ((false,eval (.Call (.Name "reversed" p2) [a] [] pos2) X.env)::[])) _ _ s
 refine Calls.spliced_cons ?_
 refine Call_ (Ua I hgr hmr (u:=.type "reversed") (by decide +kernel) (PyProof.Rows.callWith_type1 (YZ (ha pos2 pins s σ H _ I h) fun us s1 ⟨vs,H1,I1,r1,q1⟩=>?_) hs rfl))
 obtain⟨b,xs,e,hq,q⟩:=q1
 subst e
 cases r1 with
 | cons r rr=>
  cases rr;cases r
  obtain⟨its,rv,pl,hz⟩:=I1.list hq
  refine call_reversed_list pl.isList (Calls.spliced_nil ?_)
  have I2:=I1.kept (t':=s1.toks) (h':=s1.heap.push (revObj b ((its.toArray.size:Int)-1))) fun b o e=>Heap.get?_push_of_some _ e
  obtain⟨ol,el,_⟩:=id pl.isList
  have bl:b<s1.heap.objs.size:=Heap.lt_size el
  refine Ik (I:=s1.heap.objs.size) (l:=b) (items:=its.toArray) (I.ok.hd hc) ⟨_,Heap.get?_push_size _ rfl,rfl,rfl⟩ (pl.isList.at fun o e=>Heap.get?_push_of_some _ e) (Nat.ne_of_lt bl) (by have:=rv.length;simp only[List.size_toArray];omega) fun h' tk acc' c' hk hS hacc=>?_
  have bI:∀c o,s1.heap.get? c=some o->h'.get? c=some o:=fun c o e=>hk c o (Nat.ne_of_lt (Heap.lt_size e)) (Heap.get?_push_of_some _ e)
  have sz:(s1.heap.push (revObj b ((its.toArray.size:Int)-1))).objs.size=s1.heap.objs.size+1:=Heap.size_push ..
  have fr:H1 (s1.heap.objs.size+1)=none:=I1.hok.fresh (Nat.le_succ _)
  have hS':h'.get? (s1.heap.objs.size+1)=some { cls:=.type "list",dict:=none,data:=.seq acc' c',slots:=#[] }:=by rw[<-sz];exact hS
  have I3:Inv X pins σ (upd H1 (s1.heap.objs.size+1) (.lst xs.reverse)) { s1 with heap:=h',toks:=tk }:=I1.laid (t':=tk) bI (Nat.le_succ _) (show ObjOk X.prog X.w _ _ _ (.lst xs.reverse) from⟨by rw[List.length_reverse];exact hz,acc'.toList,c',Il rv (by rw[Array.length_toList,hacc.1];simp) fun i v hv=>by
   have:=hacc.2 i v (by simpa using hv)
   simpa using this,by rw[Array.toArray_toList];exact hS'⟩)
  rw[sz]
  exact⟨.ref (s1.heap.objs.size+1),_,I3,rfl,q _ fr⟩
end
theorem Mm{X:Cx}{a:Expr}{fa:XE}{p p2 pos pos2:Pos}(hc:X.calm=true)(hgl:Gl X "list")(hml:X.mg "list" = none)(hgr:Gl X "reversed")(hmr:X.mg "reversed" = none)(ha:VE X a fa)(hs:starEach [a] X.env=[(false,eval a X.env)]:=by rfl)
  (he:starEach [.Call (.Name "reversed" p2) [a] [] pos2] X.env=(false,eval (.Call (.Name "reversed" p2) [a] [] pos2) X.env)::starEach [] X.env:=by rfl) (hpl:(backTo pos (starEach [] X.env)).any (·.1)=false:=by rfl) :
  VM X (.Call (.Name "list" p) [.Call (.Name "reversed" p2) [a] [] pos2] [] pos) (SR Nd fa):=
 PE.imp (Ml hc hgl hml hgr hmr (Zc ha Zf hs) hs he hpl) fun σ H Q ⟨s,l,env,e,k⟩=>by
  obtain⟨x,e1,e2⟩:=Zg e
  refine⟨fun _=>False,s,[x],fun _ z=>z.elim,env,by show(fa s).bind _=_;rw[e1];rfl,fun vs H1 fp s1 i1 _=>?_⟩
  obtain⟨w,rfl,iw⟩:=i1.one_inv
  cases x with
  | lst m=>
   unfold Nd at e2
   simp only at e2
   split at e2
   case isFalse=>cases e2
   rename_i hp
   cases e2
   obtain⟨q,xs,fq,rfl,hq,hm,_⟩:=iw.lst_inv
   have z:=Iss.pure _ _ _ hp hm;subst z
   refine⟨q,xs,rfl,SqL.of hq,fun r hr=>?_⟩
   have sn:=Same.new (H:=H1) hr (.lst xs.reverse)
   refine k _ _ [r] (s1.trans sn) (Is.lst upd_same ((hm.rev).mono sn)) (by simp) fun r' hr'=>?_
   rw[List.mem_singleton.mp hr']
   exact⟨Same.off s1 hr,by rw[upd_same];exact True.intro⟩
  | _=>cases e2
theorem GJ{X:Cx}{tg l:Expr}{tl:TE}(hl:PE X l tl):PI X tg l (Nh Er tl):=HZ hl
section
variable {K:PySem.W.Frag} {P:Program} {w:World} {mg:Str->Option Value} {base:Heap}
theorem GK{x:Str}{st:Stmt}{N ps:List Str}{k n:Nat}{O:List Nat}(m:Nat)(f:XS)(D:Def K mg x st)(S:ZH N ps (Zp st))
  (hb:∀(kV doc pm:Value)(an:Option Addr)(cdv ct:Value)(us:List Value),us.length=ps.length->bindArgs (PySem.W.fnOf x x (Wv st) (Xf st) (Zp st) .none kV doc pm an cdv ct) ⟨us,[]⟩=pure (ps.zip us))
  (hn:ps.length=n) (hm:N.length=m) (hO:∀i∈O,n<=i)
  (hbody:∀(fa:Addr)(cdv:Value)(A:Around)(outer:List Env)(s:Shared)(H:Hp)(E:XK),Room k (A.deeper (envOfC x (Zp st) s.heap.objs.size fa cdv))->Ki (QP Lf P w K mg base N x (Zp st) fa cdv A outer s H E).nox O (Xf st) f) :
  YF P w K mg base x ps (Yz K (YU m f) n) (k+1):=by
 subst hm
 refine D.cal S hb (fun vs H Q E h=>by rw[hn];exact h.1) fun fa cdv A outer s H vs Q E hr h=>⟨_,hbody fa cdv A outer s H E hr,J7 hO h⟩
end
theorem GL{K:PySem.W.Frag}:RB K Du N9:=fun H x y a b l fa fb ha hb e Q k=>by
 cases a with
 | lst m=>cases b with
  | lst n=>
   have e:(if m.length+n.length<=10000 then some (PV.lst (m++n)) else none)=some l:=e
   split at e
   case isFalse=>cases e
   rename_i hl
   cases e
   obtain⟨p,xs,fq,rfl,hp,hi,rfl⟩:=ha.lst_inv
   obtain⟨p',ys,fq',rfl,hp',hi',rfl⟩:=hb.lst_inv
   refine⟨p,p',xs,ys,rfl,rfl,hp,hp',by rw[hi.len,hi'.len];exact Nat.le_of_lt (lt_size hl),fun q hq=>?_⟩
   refine k _ _ (q::(fq++fq')) (Same.new hq _) (Is.lst upd_same ((hi.append hi').mono (Same.new hq _))) fun r hr=>?_
   rcases List.mem_cons.mp hr with rfl | hr
   ·exact .inr (.inr hq)
   ·rcases List.mem_append.mp hr with hr | hr
    ·exact .inl (List.mem_cons_of_mem _ hr)
    ·exact .inr (.inl (List.mem_cons_of_mem _ hr))
  | _=>cases e
 | _=>cases e
theorem GM{X:Cx}{a b:Expr}{fa fb:XE}{pos:Pos}(ha:VE X a fa)(hb:VE X b fb):VE X (.BinOp a .Add b pos) (Zh N9 fa fb):=Wt Jj GL ha hb
def Ru(i:Nat)(f0 f1:XE):XS:=fun s=>(f0 s).bind fun l0=>(f1 s).bind fun l1=>match s[i]? with
 | some (some l)=>if ZM l0=true/\ZM l1=true then some (.rt (.tup [l0,l1,l])) else none
 | _=>none
theorem Kq{X:Cx}{O:List Nat}{e:Expr}{i:Nat}{f0 f1:XE}{pos:Pos}(he:PE X e (HG (Vo (tF X.K f0) (Vo (tF X.K f1) (Vo (V9 i) NQ)))))(hi:i∈O:=by decide):VS X O [] (.Return (some e) pos) (Ru i f0 f1):=PS.imp (RE he) fun D σ H ⟨H0,fps,s,out,r,e,k⟩=>by
 obtain⟨l0,e0,e⟩:=Zg e
 obtain⟨l1,e1,e⟩:=Zg e
 split at e
 case h_2=>cases e
 rename_i l em
 split at e
 case isFalse=>cases e
 rename_i pu
 cases e
 obtain⟨v,hv,iv⟩:=r.is i _ em
 refine⟨fun _=>False,s,l0,fun _ z=>z.elim,r.env,e0,fun v0 H1 f1 s1 i1 _=>?_⟩
 have:=Is.pure _ _ _ pu.1 i1
 subst this
 refine⟨fun _=>False,s,l1,fun _ z=>z.elim,r.env.mono s1,e1,fun v1 H2 f2 s2 i2 _=>?_⟩
 have:=Is.pure _ _ _ pu.2 i2
 subst this;have s12:=s1.trans s2
 refine⟨v,hv,(by show 3<=sizeLine;decide),fun q hq=>?_⟩
 have sn:Same H2 (upd H2 q (.tup [v0,v1,v])):=Same.new hq _
 have r3:=r.grow s12
 refine k _ (fps i) _ (r3.same.trans sn) (Is.tup upd_same ?_) (r.nd i hi) fun z hz=>?_
 ·have h1:=Iss.cons (i1.mono (s2.trans sn)) (Iss.cons (i2.mono sn) (Iss.one ((iv.mono s12).mono sn)))
  simpa using h1
 ·have:=r3.own i hi z hz
  exact⟨this.1,Same.mut sn this.2⟩
end VL
namespace PW
open PySem L2 VL
noncomputable def TF:XS:=(Zs (Zr 3 (eP (Zh Yn (Zh UW (Zh ZL (Zh Yn (Za 0) (eC (.int 999983))) (Za 1)) (Zh ZL (Za 1) (eC (.int 389)))) (eC (.int 999983)))))
  (Zs (Zr 3 (eP (Zh Yn (Zh ZL (Zh ZL (Zh UW (Za 3) (Za 3)) (Zh WZ (Za 0) (eC (.int 999983)))) (Za 1)) (eC (.int 999979)))))
  (Yo (eP (Zh Yn (Zh WZ (Za 3) (eC (.int 3))) (Za 2))))))
noncomputable def Zt:List PV->Option PV:=YU 4 TF
noncomputable def Wy:XS:=(Zs (Zr 3 (eP (Zh ZS (Za 1) (Zh Yn (Za 0) (Ze Yb [(Za 1)])))))
  (Zs (Zr 0 (eP (Zh WZ (Za 0) (Ze Yb [(Za 1)]))))
  (Zs (Zr 4 (Wm []))
  (Zs (Zr 5 (Wm []))
  (Zs (XQ [4,5,9] (ZT [(Za 3)]) (.one 6) (Zs (Vb 4 (Zh Yn (Za 0) (Zh ZL (Za 6) (eC (.int 1)))) (Za 6))
  (Zr 0 (eP (Zh WZ (Za 0) (Zh ZL (Za 6) (eC (.int 1))))))))
  (Zs (XQ [4,5,9] (W8 [(eC (.int 1)),(Za 3)]) (.one 6) (Zs (YM 5 (eP (Xv [(Za 6),(Zh Yn (Za 0) (Za 6))])))
  (Zr 0 (eP (Zh WZ (Za 0) (Za 6))))))
  (Zs (Zr 7 (eP (Zh UW (Ze SS [(Zh Sd (Za 3) (eC (.int 1)))]) (Zh Yn (Za 0) (Zh ZL (Zh ZP (Za 2) (Za 3)) (eC (.int 2)))))))
  (Zs (Zr 0 (eP (Zh WZ (Za 0) (Zh ZL (Zh ZP (Za 2) (Za 3)) (eC (.int 2))))))
  (Zs (XQ [4,5,9] (ZT [(Za 7)]) (.one 6) (Zs (Zr 8 (eP (Zh Yn (Za 0) (Za 3))))
  (Zs (Zr 0 (eP (Zh WZ (Za 0) (Za 3))))
  (Zs (YM 5 (eP (Xv [(Za 8),(Zh Yn (Zh ZL (Zh ZL (Za 8) (eC (.int 1))) (Zh Yn (Za 0) (Zh ZP (Za 3) (eC (.int 1))))) (Za 3))])))
  (Zr 0 (eP (Zh WZ (Za 0) (Zh ZP (Za 3) (eC (.int 1))))))))))
  (Zs (Zr 9 (Zy 1 [3] (ZT [(Za 3)]) (.one 0) ZE (Zh Ma (Wm [(eC (.int 0))]) (Za 1))))
  (Zs (XQ [9] (Wo (Za 5)) (.many [8,10]) (Zs (Zr 11 (eP (Zh ZL (Zh ZS (Zh ZS (Za 9) (Zh ZS (Za 4) (Za 8))) (Zh ZS (Za 4) (Za 10))) (eC (.int 1)))))
  (Zs (YN 9 (Zh ZS (Za 4) (Za 8)) (Zh ZS (Za 4) (Za 10)) (Za 11))
  (YN 9 (Zh ZS (Za 4) (Za 10)) (Zh ZS (Za 4) (Za 8)) (Za 11)))))
  (Yo (eP (Ze Z5 [(Zy 1 [] (Wo (Za 9)) (.one 0) ZE (Ze Z5 [(Za 0)]))]))))))))))))))
noncomputable def Wz:List PV->Option PV:=YU 12 Wy
noncomputable def Oh:XS:=(Yo (eP (OY (xB (Zh UY (Za 1) (Ze Yb [(Za 0)]))) (Zh ZS (Za 0) (Za 1)) (eC (.int 0)))))
noncomputable def ZD:List PV->Option PV:=YU 2 Oh
noncomputable def UO:XS:=(Zs (Rr (xB (Zh (V5 false) (Zh Yn (Ze ZD [(Za 0),(eC (.int 0))]) (eC (.int 2))) (eC (.int 1)))) (Yo (Ze Wz [(Ze ZD [(Za 0),(eC (.int 1))]),(Za 1),(Za 2)])) Y5)
  (Zs (Zr 3 (eP (Zh ZS (Za 1) (Ze Zt [(Ze ZD [(Za 0),(eC (.int 0))]),(eC (.int 1)),(Ze Yb [(Za 1)])]))))
  (Zs (Zr 4 (Zy 1 [3] (ZT [(Za 3)]) (.one 0) ZE (Zh Ma (Wm [(eC (.int 0))]) (Za 1))))
  (Zs (Zr 5 (eP (eC (.int 0))))
  (Zs (XQ [4] (W8 [(eC (.int 1)),(eC (.int 13))]) (.one 6) (Zs (Zr 7 (Ze ZD [(Za 0),(Za 6)]))
  (Zs (Zr 8 (Ze Zt [(Za 7),(eC (.int 13)),(Za 3)]))
  (Zs (Zr 9 (eP (Zh Yn (Zh ZL (Zh ZL (Za 8) (eC (.int 1))) (Ze Zt [(Za 7),(eC (.int 17)),(Ze W6 [(eC (.int 1)),(Zh ZP (Za 3) (eC (.int 1)))])])) (Za 3))))
  (Zs (Rr (xB (Zh UY (Za 6) (Za 3))) (Zs (Zr 8 (eP (Za 6)))
  (Zr 9 (Ze Zt [(Za 7),(eC (.int 5)),(Za 6)]))) Y5)
  (Zs (Zr 10 (eP (Ta (Zh Sd (Za 3) (eC (.int 1))) (Ta (Zh UY (Za 5) (Za 2)) (Zh Sd (Ze Zt [(Za 7),(eC (.int 3)),(eC (.int 3))]) (eC (.int 0)))))))
  (Rr (Ge (xB (Zh UY (Za 6) (Za 3))) (xB (Za 10))) (Zs (YN 4 (Za 8) (Za 9) (Zh ZL (Zh ZS (Zh ZS (Za 4) (Za 8)) (Za 9)) (eC (.int 1))))
  (Zs (YN 4 (Za 9) (Za 8) (Zh ZS (Zh ZS (Za 4) (Za 8)) (Za 9)))
  (Zr 5 (eP (Zh ZL (Za 5) (eC (.int 1))))))) Y5)))))))
  (Zs (Zr 11 (Ze Zt [(Ze ZD [(Za 0),(eC (.int 0))]),(eC (.int 7)),(Za 3)]))
  (Zs (Zr 4 (Zy 1 [11] (Wo (Zh N9 (Vn Vh (Za 4) (WM (Za 11)) Vg) (Vn Vh (Za 4) Vg (WM (Za 11))))) (.one 0) ZE (Zh R8 (Vn Vh (Za 0) (WM (Za 1)) Vg) (Vn Vh (Za 0) Vg (WM (Za 1))))))
  (Yo (eP (Ze Z5 [(Zy 1 [] (Wo (Za 4)) (.one 0) ZE (Ze Z5 [(Za 0)]))]))))))))))
noncomputable def UP:List PV->Option PV:=YU 12 UO
noncomputable def TH:XS:=(Zs (Zr 3 (Wm []))
  (Zs (XQ [3] (ZT [(Ze Yb [(Za 0)])]) (.one 4) (Zs (Zr 5 (eP (Zh ZS (Za 1) (Za 4))))
  (Zs (XQ [3] (ZT [(Ze Yb [(Za 0)])]) (.one 6) (Zs (Zr 7 (eP (Zh ZP (Zh ZS (Za 2) (Za 4)) (Zh ZS (Za 2) (Za 6)))))
  (Zr 5 (eP (Zh ZP (Za 5) (Zh UW (Zh ZS (Zh ZS (Za 0) (Za 4)) (Za 6)) (Za 7)))))))
  (YM 3 (eP (Za 5))))))
  (Yo (eP (Ze Z5 [(Za 3)])))))
noncomputable def We:List PV->Option PV:=YU 8 TH
noncomputable def WD:XS:=(Zs (Zr 3 (eP (Ze Yb [(Za 1)])))
  (Zs (Rr (xB (Zh (V5 false) (Zh Yn (Ze ZD [(Za 0),(eC (.int 0))]) (eC (.int 2))) (eC (.int 1)))) (Zs (Zr 4 (eP (Zh U4 (Ze ZD [(Za 0),(Za 2)]) (eC (.int 8)))))
  (Zs (Zr 5 (Wm []))
  (Zs (XQ [5] (ZT [(Zh ZP (Za 3) (eC (.int 1)))]) (.one 6) (Zs (YM 5 (eP (Zh ZP (Zh Yn (Za 4) (Zh ZL (Zh WQ (eC (.int 2)) (Zh UX (eC (.int 10)) (eC (.int 20)))) (eC (.int 1)))) (Zh UX (eC (.int 10)) (eC (.int 20))))))
  (Zr 4 (eP (Zh U4 (Za 4) (Zh ZL (Zh WQ (eC (.int 2)) (Zh UX (eC (.int 10)) (eC (.int 20)))) (eC (.int 1))))))))
  (Yo (eP (Ze Z5 [(Zh R8 (Za 5) (Wm [(Zh ZP (Zh ZP (Zh Yn (Ze ZD [(Za 0),(Za 2)]) (eC (.int 8))) (eC (.int 2))) (Ze Y1 [(Za 5)]))]))])))))) Y5)
  (Zs (Zr 5 (Zy 1 [0,2] (ZT [(Za 3)]) (.one 0) ZE (eP (Zh ZP (Ze Zt [(Ze ZD [(Za 1),(Zh ZL (Za 2) (Za 0))]),(eC (.int 23)),(eC (.int 7))]) (eC (.int 3))))))
  (Zs (R4 5 (eC (.int 0)) (Zh ZL (Zh ZP (Zh ZS (Za 5) (eC (.int 0))) (Ze W6 [(eC (.int 0)),(Zh ZP (Ze Y1 [(Za 5)]) (eC (.int 5)))])) (Ze W6 [(eC (.int 0)),(Zh ZP (SR W0 (eC (.int 2))) (Ze Y1 [(Za 5)]))])))
  (Zs (Zr 7 (eP (Zh ZS (Wm [(eC (.int 1)),(eC (.int 1)),(Zh ZL (Zh UX (eC (.int 10)) (eC (.int 18))) (eC (.int 9)))]) (Ze Zt [(Ze ZD [(Za 0),(Za 2)]),(eC (.int 31)),(eC (.int 3))]))))
  (Zs (Zr 8 (Zy 1 [7,0,2] (ZT [(Za 3)]) (.one 0) ZE (eP (Zh WQ (Ze Zt [(Ze ZD [(Za 2),(Zh ZL (Za 3) (Za 0))]),(eC (.int 29)),(eC (.int 4))]) (Za 1)))))
  (Yo (Ze We [(Za 1),(Ze Z5 [(Za 5)]),(Za 8)]))))))))
noncomputable def WE:List PV->Option PV:=YU 9 WD
noncomputable def XV:XS:=(Zs (Zr 3 (Ze X9 [(Ze Z5 [(Zy 1 [] (UZ (Zh ZS (Za 2) (eC (.int 1)))) (.one 0) ZE (SR W0 (Za 0)))])]))
  (Zs (Zr 4 (SR Nd (Zh ZS (Za 2) (eC (.int 2)))))
  (Ru 4 (Zh ZP (Zh ZL (Zh ZL (Zh ZS (Za 2) (eC (.int 0))) (Ze YQ [(Za 1)])) (eC (.int 1))) (Ze Xy [(Za 0)])) (Za 3))))
noncomputable def XW:List PV->Option PV:=YU 5 XV
noncomputable def TJ:XS:=(Yo (eP (Ze Z5 [(Zy 1 [1] (ZT [(Ze Yb [(Za 0)])]) (.one 0) ZE (OY (xB (Zh (V5 false) (Za 0) (Za 1))) (eC (.int 1)) (eC (.int 0))))])))
noncomputable def WR:List PV->Option PV:=YU 2 TJ
noncomputable def Xq:XS:=(Zs (Zr 2 (eC (.dT [] [])))
  (Zs (Ia VR 1 (.many [3,4]) (XQ [2] (ZT [(Ze Yb [(Za 0)])]) (.one 5) (Zs (Zr 6 (Ze WR [(Za 0),(Za 5)]))
  (UN 2 (Zh ZS (Ze Yy [(Za 0),(Ze Y2 [(Za 3),(Za 6)]),(eC (.int 0))]) (eC (.int 1))) (Ze Wq [(Za 4),(Za 6)])))))
  (Yo (Za 2))))
noncomputable def Yq:List PV->Option PV:=YU 7 Xq
noncomputable def XX:XS:=(Zs (Zr 2 (eP (Zh ZS (Ze Yy [(Za 0),(Za 1),(eC (.int 0))]) (eC (.int 1)))))
  (Zs (Zr 3 (Qm (Za 2) (Zh Qi (Xv [(eC (.int 0))]) (Ze Yb [(Za 0)]))))
  (Zs (VH (xB (Zh Gd (Ze Nc [(Vi Pk 1 [] 3 (.one 0) ZE (Zh ZS (Za 0) (eC (.int 0))))]) (eC (.int 0)))) (Zr 3 (Ze Yq [(Za 0),(Za 3)])))
  (Yo (eP (Zh ZS (Vi VR 2 [] 3 (.many [0,1]) (xB (Zh UY (Zh ZS (Za 0) (eC (.int 0))) (eC (.int 0)))) (Za 1)) (eC (.int 0))))))))
noncomputable def YY:List PV->Option PV:=YU 4 XX
noncomputable def VU:XS:=(Zs (Zr 2 (Ze YY [(Za 0),(Za 1)]))
  (Zs (Zr 3 (Ze XG [(Za 0),(Ze Y2 [(Za 1),(Za 2)])]))
  (Wd 3 (Zh ZP (Ze YQ [(Za 2)]) (eC (.int 1))) 1 2)))
noncomputable def X2:List PV->Option PV:=YU 4 VU
noncomputable def UQ:XS:=(Zs (Rr (xB (Zh UY (Ze YQ [(Za 1)]) (Ze Xy [(Za 0)]))) (Yo (Ze X2 [(Za 0),(Za 1)])) Y5)
  (Yo (Ze XW [(Za 0),(Za 1),(Ze X2 [(Za 0),(Ze Wc [(Za 0),(Za 1)])])])))
noncomputable def Xh:List PV->Option PV:=YU 2 UQ
noncomputable def UR:XS:=(Yo (eP (Zh ZL (Zh ZP (Zh WZ (Ze Y1 [(Zy 1 [] (UZ (Za 0)) (.one 0) ZE (Ze Y1 [(Za 0)]))]) (eC (.int 2))) (Ze Yb [(Za 0)])) (eC (.int 1)))))
noncomputable def Xb:List PV->Option PV:=YU 1 UR
noncomputable def Ly:XS:=(Zs (Zr 1 (Ze UP [(Za 0),(Wm [(eC (.int 1)),(eC (.int 2)),(eC (.int 3)),(eC (.int 3)),(eC (.int 3)),(eC (.int 4))]),(eC (.int 5))]))
  (Zs (Zr 2 (Ze WE [(Za 0),(Za 1),(eC (.int 13))]))
  (Zs (Zr 3 (eP (Zh ZS (Ze Xh [(Za 1),(Za 2)]) (eC (.int 0)))))
  (Zs (Rr (S1 (xB (Zh UY (Ze Y1 [(Za 2)]) (eC (.int 0)))) (xB (Zh (V5 true) (Za 3) (SR W0 (eC (.int 1)))))) (Yo (eP (eC (.bl false)))) Y5)
  (Zs (Rr (S1 (xB (Zh Sd (Ze Y1 [(Za 2)]) (Zh ZP (Zh UW (eC (.int 2)) (Ze Xb [(Za 1)])) (eC (.int 2))))) (xB (Zh (V5 true) (Za 3) (Zh ZP (Ze Y1 [(Za 2)]) (Ze Xb [(Za 1)]))))) (Yo (eP (eC (.bl false)))) Y5)
  (Zs (Zr 4 (Zy 1 [0] (ZT [(Ze Yb [(Za 1)])]) (.one 0) ZE (eP (Zh ZP (Ze Zt [(Ze ZD [(Za 1),(Zh ZL (eC (.int 17)) (Za 0))]),(eC (.int 41)),(eC (.int 9))]) (eC (.int 4))))))
  (Zs (Rr (xB (Zh (V5 true) (Zh ZS (Ze Xh [(Za 1),(Ze We [(Za 1),(Za 2),(Za 4)])]) (eC (.int 0))) (Za 3))) (Yo (eP (eC (.bl false)))) Y5)
  (Zs (Zr 5 (Ze Zt [(Ze ZD [(Za 0),(eC (.int 21))]),(eC (.int 43)),(Ze Yb [(Za 1)])]))
  (Zs (Zr 6 (eP (Zh ZS (Ze Xh [(Za 1),(Zh Y6 (Zh Y6 (Vn XN (Za 2) Vg (WM (Za 5))) (Xv [(Zh ZL (Zh ZS (Za 2) (Za 5)) (eC (.int 1)))])) (Vn XN (Za 2) (WM (Zh ZL (Za 5) (eC (.int 1)))) Vg))]) (eC (.int 0)))))
  (Zs (Zr 7 (eP (Zh ZS (Ze Xh [(Za 1),(Zh Y6 (Zh Y6 (Vn XN (Za 2) Vg (WM (Za 5))) (Xv [(Zh ZP (Zh ZS (Za 2) (Za 5)) (eC (.int 1)))])) (Vn XN (Za 2) (WM (Zh ZL (Za 5) (eC (.int 1)))) Vg))]) (eC (.int 0)))))
  (Yo (eP (Ta (FE K4 K4 (Za 3) (Za 6) (Zh ZL (Za 3) (eC (.int 1)))) (Ta (FE K4 K4 (Zh ZP (Za 3) (eC (.int 1))) (Za 7) (Za 3)) (Zh Gd (Za 7) (SR W0 (eC (.int 1))))))))))))))))))
noncomputable def D_law:List PV->Option PV:=YU 8 Ly
def V7(i:Nat):Stmt:=PySem.Challenge.pw_purseweb_k44_one_coin_more.main.body.getD i (.Pass ⟨0,0,0,0⟩)
section
variable {P:Program} {w:World} {K:PySem.W.Frag} {mg:Str->Option Value} {base:Heap}
abbrev Qn:Stmt:=V7 41
theorem sc_l_pick:ZH (["_law_cell","_law_salt","_law_many","_law_number"]:List Str) (["_law_cell","_law_salt","_law_many"]:List Str) (Zp Qn):=⟨rfl,rfl,rfl,by decide +kernel,rfl,by decide +kernel,by decide +kernel⟩
theorem Kr(Df:Def K mg "_law_pick" Qn)(B:V4 mg):YF P w K mg base "_law_pick" (["_law_cell","_law_salt","_law_many"]:List Str) (Yz K Zt 3) 1:=
 Z3 (O:=[]) (k:=0) 4 TF Df sc_l_pick (fun _ _ _ _ _ _ us hl=>match us,hl with | [_,_,_],_=>rfl) rfl rfl (by decide) (fun fa cdv A outer s H E hr=>
  (Zj (Zw (i:=3) sc_l_pick.nd rfl (Or.inl rfl) (VE.pure (Xu (Se (Z4 (Xu (Zd (pv 0)) Zi) (Zd (pv 1))) (Z4 (Zd (pv 1)) Zi)) Zi)))
  (Zj (Zw (i:=3) sc_l_pick.nd rfl (Or.inl rfl) (VE.pure (Xu (Z4 (Z4 (Se (Zd (pv 3)) (Zd (pv 3))) (Wx (Zd (pv 0)) Zi)) (Zd (pv 1))) Zi)))
  (Zu (ZX (VE.pure (Xu (Wx (Zd (pv 3)) Zi) (Zd (pv 2)))))))))
abbrev VX:Stmt:=V7 42
theorem sc_l_read_web:ZH (["_law_number","_law_sizes","_law_most","_law_many","_law_order","_law_pairs","_law_k","_law_more","_law_one","_law_rows","_law_other","_law_times"]:List Str) (["_law_number","_law_sizes","_law_most"]:List Str) (Zp VX):=⟨rfl,rfl,rfl,by decide +kernel,rfl,by decide +kernel,by decide +kernel⟩
theorem QX(Df:Def K mg "_law_read_web" VX)(B:V4 mg):YF P w K mg base "_law_read_web" (["_law_number","_law_sizes","_law_most"]:List Str) (Yz K Wz 3) 1:=
 GK (O:=[4,5,9]) (k:=0) 12 Wy Df sc_l_read_web (fun _ _ _ _ _ _ us hl=>match us,hl with | [_,_,_],_=>rfl) rfl rfl (by decide) (fun fa cdv A outer s H E hr=>
  (Y9 (Zw (i:=3) sc_l_read_web.nd rfl (Or.inr rfl) (VE.pure (Zx (Zd (pv 1)) (Xu (Zd (pv 0)) (ZG Yg YV rfl B.len (by decide +kernel) (Zc (Zd (pv 1)) Zf))))))
  (Y9 (Zw (i:=0) sc_l_read_web.nd rfl (Or.inl rfl) (VE.pure (Wx (Zd (pv 0)) (ZG Yg YV rfl B.len (by decide +kernel) (Zc (Zd (pv 1)) Zf)))))
  (Y9 (Zw (i:=4) sc_l_read_web.nd rfl (Or.inl rfl) (Sh VC))
  (Y9 (Zw (i:=5) sc_l_read_web.nd rfl (Or.inl rfl) (Sh VC))
  (Y9 (X0 PassesOwn.never rfl (Yl rfl B.range (Zc (Zd (pv 3)) Zf)) (Zv (i:=6) sc_l_read_web.nd rfl (Or.inl rfl)) (Zj (Pj (Wu (SO PySem.F.plainAttrs_list PySem.F.slot_list_insert PySem.F.type_list_insert Q9 (pv 4) (Z9 (Xu (Zd (pv 0)) (Z4 (Zd (pv 6)) Zi)) (Z9 (Zd (pv 6)) XB)))))
  (Zu (Zw (i:=0) sc_l_read_web.nd rfl (Or.inl rfl) (VE.pure (Wx (Zd (pv 0)) (Z4 (Zd (pv 6)) Zi)))))))
  (Y9 (X0 PassesOwn.never rfl (Si rfl B.range (Zc Zi (Zc (Zd (pv 3)) Zf))) (Zv (i:=6) sc_l_read_web.nd rfl (Or.inl rfl)) (Zj (Vs (Wu (SO PySem.F.plainAttrs_list PySem.F.slot_list_append PySem.F.type_list_append Vp (pv 5) (Z9 (VE.pure (Td (Zc (Zd (pv 6)) (Zc (Xu (Zd (pv 0)) (Zd (pv 6))) Zf)))) XB))))
  (Zu (Zw (i:=0) sc_l_read_web.nd rfl (Or.inl rfl) (VE.pure (Wx (Zd (pv 0)) (Zd (pv 6))))))))
  (Y9 (Zw (i:=7) sc_l_read_web.nd rfl (Or.inl rfl) (VE.pure (Se (ZZ L4 Gj rfl B.int (by decide +kernel) (Zc (JA (Zd (pv 3)) Zi) Zf)) (Xu (Zd (pv 0)) (Z4 (Yi (Zd (pv 2)) (Zd (pv 3))) Zi)))))
  (Y9 (Zw (i:=0) sc_l_read_web.nd rfl (Or.inl rfl) (VE.pure (Wx (Zd (pv 0)) (Z4 (Yi (Zd (pv 2)) (Zd (pv 3))) Zi))))
  (Y9 (X0 PassesOwn.never rfl (Yl rfl B.range (Zc (Zd (pv 7)) Zf)) (Zv (i:=6) sc_l_read_web.nd rfl (Or.inl rfl)) (Zj (Zw (i:=8) sc_l_read_web.nd rfl (Or.inl rfl) (VE.pure (Xu (Zd (pv 0)) (Zd (pv 3)))))
  (Zj (Zw (i:=0) sc_l_read_web.nd rfl (Or.inl rfl) (VE.pure (Wx (Zd (pv 0)) (Zd (pv 3)))))
  (Zj (Vs (Wu (SO PySem.F.plainAttrs_list PySem.F.slot_list_append PySem.F.type_list_append Vp (pv 5) (Z9 (VE.pure (Td (Zc (Zd (pv 8)) (Zc (Xu (Z4 (Z4 (Zd (pv 8)) Zi) (Xu (Zd (pv 0)) (Yi (Zd (pv 3)) Zi))) (Zd (pv 3))) Zf)))) XB))))
  (Zu (Zw (i:=0) sc_l_read_web.nd rfl (Or.inl rfl) (VE.pure (Wx (Zd (pv 0)) (Yi (Zd (pv 3)) Zi)))))))))
  (Y9 (VN (["_law_house"]:List Str) (["_law_many"]:List Str) [3] (i:=9) sc_l_read_web.nd rfl rfl rfl (Yl rfl B.range (Zc (Zd (pv 3)) Zf)) (by kernel_rfl) (fun _ _ _ _ _=>(Zv (i:=0) (show((["_law_house"]:List Str)++(["_law_many"]:List Str)).Nodup by decide +kernel) rfl (Or.inl rfl) (.inr rfl))) (fun _ _ _ _ _=>Z6) (fun _ _ _ _ _=>(JR (RV (Zc Zi Zf)) (Zd (pv 1)))))
  (Kj (O':=[9]) (VSs.r (Zj (X0 PassesOwn.never rfl (W7 (Zd (pv 5))) (XM (n:=2) rfl (ZQ (Zv (i:=8) sc_l_read_web.nd rfl (Or.inl rfl)) (ZQ (Zv (i:=10) sc_l_read_web.nd rfl (Or.inl rfl)) Xe))) (Zj (Zw (i:=11) sc_l_read_web.nd rfl (Or.inl rfl) (VE.pure (Z4 (Zx (Zx (Zd (pv 9)) (Zx (Zd (pv 4)) (Zd (pv 8)))) (Zx (Zd (pv 4)) (Zd (pv 10)))) Zi)))
  (Zj (UB (RG (Zd (pv 11)) (RF (Uc ix_list (pv 9) (Zx (Zd (pv 4)) (Zd (pv 8))) (fun _ _=>rfl)) (Zx (Zd (pv 4)) (Zd (pv 10))) Ud)))
  (Zu (UB (RG (Zd (pv 11)) (RF (Uc ix_list (pv 9) (Zx (Zd (pv 4)) (Zd (pv 10))) (fun _ _=>rfl)) (Zx (Zd (pv 4)) (Zd (pv 8))) Ud)))))))
  (Zu (ZX (VE.pure (ZZ ZJ Yj rfl B.tuple (by decide +kernel) (Zc (YL (["_law_row"]:List Str) ([]:List Str) [] rfl (W7 (Zd (pv 9))) (by kernel_rfl) (fun _ _ _ _ _=>(Zv (i:=0) (show((["_law_row"]:List Str)++([]:List Str)).Nodup by decide +kernel) rfl (Or.inl rfl) (.inr rfl))) (fun _ _ _ _ _=>Z6) (fun _ _ _ _ _=>(ZZ ZJ Yj rfl B.tuple (by decide +kernel) (Zc (Zd (pv 0)) Zf)))) Zf)))))))))))))))))))
abbrev Mn:Stmt:=V7 40
theorem GN:ZH (["_law_script","_law_k"]:List Str) (["_law_script","_law_k"]:List Str) (Zp Mn):=⟨rfl,rfl,rfl,by decide +kernel,rfl,by decide +kernel,by decide +kernel⟩
theorem GO(Df:Def K mg "_law_at" Mn)(B:V4 mg):YF P w K mg base "_law_at" (["_law_script","_law_k"]:List Str) (Yz K ZD 2) 1:=
 Z3 (O:=[]) (k:=0) 2 Oh Df GN (fun _ _ _ _ _ _ us hl=>match us,hl with | [_,_],_=>rfl) rfl rfl (by decide) (fun fa cdv A outer s H E hr=>
  (Zu (ZX (VE.pure (OZ (SQ (Zd (pv 1)) (ZG Yg YV rfl B.len (by decide +kernel) (Zc (Zd (pv 0)) Zf))) (Zx (Zd (pv 0)) (Zd (pv 1))) Zi)))))
abbrev Oi:Stmt:=V7 43
theorem sc_p_web:ZH (["_law_script","_law_sizes","_law_most","_law_many","_law_rows","_law_ties","_law_k","_law_cell","_law_one","_law_other","_law_more","_law_by"]:List Str) (["_law_script","_law_sizes","_law_most"]:List Str) (Zp Oi):=⟨rfl,rfl,rfl,by decide +kernel,rfl,by decide +kernel,by decide +kernel⟩
theorem Im(Df:Def K mg "_law_web" Oi)(B:V4 mg)(C_l_at:YF P w K mg base "_law_at" (["_law_script","_law_k"]:List Str) (Yz K ZD 2) 1)(C_l_read_web:YF P w K mg base "_law_read_web" (["_law_number","_law_sizes","_law_most"]:List Str) (Yz K Wz 3) 1)(C_l_pick:YF P w K mg base "_law_pick" (["_law_cell","_law_salt","_law_many"]:List Str) (Yz K Zt 3) 1):YF P w K mg base "_law_web" (["_law_script","_law_sizes","_law_most"]:List Str) (Yz K UP 3) 2:=
 Z3 (O:=[4]) (k:=1) 12 UO Df sc_p_web (fun _ _ _ _ _ _ us hl=>match us,hl with | [_,_,_],_=>rfl) rfl rfl (by decide) (fun fa cdv A outer s H E hr=>
  (Zj (U3 (O5 hr.units (Xu (VM.ve (Zn C_l_at (hr.mono (by decide)) rfl (Zc (Zd (pv 0)) (Zc Zi Zf)))) Zi) Zi) (Zu (ZX (Zn C_l_read_web (hr.mono (by decide)) rfl (Zc (VM.ve (Zn C_l_at (hr.mono (by decide)) rfl (Zc (Zd (pv 0)) (Zc Zi Zf)))) (Zc (Zd (pv 1)) (Zc (Zd (pv 2)) Zf)))))) X8)
  (Zj (Zw (i:=3) sc_p_web.nd rfl (Or.inr rfl) (VE.pure (Zx (Zd (pv 1)) (VM.ve (Zn C_l_pick (hr.mono (by decide)) rfl (Zc (VM.ve (Zn C_l_at (hr.mono (by decide)) rfl (Zc (Zd (pv 0)) (Zc Zi Zf)))) (Zc Zi (Zc (ZG Yg YV rfl B.len (by decide +kernel) (Zc (Zd (pv 1)) Zf)) Zf))))))))
  (Zj (VN (["_law_house"]:List Str) (["_law_many"]:List Str) [3] (i:=4) sc_p_web.nd rfl rfl rfl (Yl rfl B.range (Zc (Zd (pv 3)) Zf)) (by kernel_rfl) (fun _ _ _ _ _=>(Zv (i:=0) (show((["_law_house"]:List Str)++(["_law_many"]:List Str)).Nodup by decide +kernel) rfl (Or.inl rfl) (.inr rfl))) (fun _ _ _ _ _=>Z6) (fun _ _ _ _ _=>(JR (RV (Zc Zi Zf)) (Zd (pv 1)))))
  (Zj (Zw (i:=5) sc_p_web.nd rfl (Or.inl rfl) (VE.pure Zi))
  (Zj (X0 PassesOwn.never rfl (Si rfl B.range (Zc Zi (Zc Zi Zf))) (Zv (i:=6) sc_p_web.nd rfl (Or.inl rfl)) (Zj (Zw (i:=7) sc_p_web.nd rfl (Or.inl rfl) (Zn C_l_at (hr.mono (by decide)) rfl (Zc (Zd (pv 0)) (Zc (Zd (pv 6)) Zf))))
  (Zj (Zw (i:=8) sc_p_web.nd rfl (Or.inl rfl) (Zn C_l_pick (hr.mono (by decide)) rfl (Zc (Zd (pv 7)) (Zc Zi (Zc (Zd (pv 3)) Zf)))))
  (Zj (Zw (i:=9) sc_p_web.nd rfl (Or.inl rfl) (VE.pure (Xu (Z4 (Z4 (Zd (pv 8)) Zi) (VM.ve (Zn C_l_pick (hr.mono (by decide)) rfl (Zc (Zd (pv 7)) (Zc Zi (Zc (ZG (T2 rfl) P3 rfl B.max (by decide +kernel) (Zc Zi (Zc (Yi (Zd (pv 3)) Zi) Zf))) Zf)))))) (Zd (pv 3)))))
  (Zj (U3 (SQ (Zd (pv 6)) (Zd (pv 3))) (Zj (Zw (i:=8) sc_p_web.nd rfl (Or.inl rfl) (VE.pure (Zd (pv 6))))
  (Zu (Zw (i:=9) sc_p_web.nd rfl (Or.inl rfl) (Zn C_l_pick (hr.mono (by decide)) rfl (Zc (Zd (pv 7)) (Zc Zi (Zc (Zd (pv 6)) Zf))))))) X8)
  (Zj (Zw (i:=10) sc_p_web.nd rfl (Or.inl rfl) (VE.pure (P0 (JA (Zd (pv 3)) Zi) (P0 (DH (Zd (pv 5)) (Zd (pv 2))) (JC (JA (VM.ve (Zn C_l_pick (hr.mono (by decide)) rfl (Zc (Zd (pv 7)) (Zc Zi (Zc Zi Zf))))) Zi))))))
  (Zu (U3 (VW.vt (DK (SQ (Zd (pv 6)) (Zd (pv 3))) (Ey (Ew (Zd (pv 10)))))) (Zj (UB (RG (Z4 (Zx (Zx (Zd (pv 4)) (Zd (pv 8))) (Zd (pv 9))) Zi) (RF (Uc ix_list (pv 4) (Zd (pv 8)) (fun _ _=>rfl)) (Zd (pv 9)) Ud)))
  (Zj (UB (RG (Zx (Zx (Zd (pv 4)) (Zd (pv 8))) (Zd (pv 9))) (RF (Uc ix_list (pv 4) (Zd (pv 9)) (fun _ _=>rfl)) (Zd (pv 8)) Ud)))
  (Zu (Zw (i:=5) sc_p_web.nd rfl (Or.inl rfl) (VE.pure (Z4 (Zd (pv 5)) Zi)))))) X8))))))))
  (Zj (Zw (i:=11) sc_p_web.nd rfl (Or.inr rfl) (Zn C_l_pick (hr.mono (by decide)) rfl (Zc (VM.ve (Zn C_l_at (hr.mono (by decide)) rfl (Zc (Zd (pv 0)) (Zc Zi Zf)))) (Zc Zi (Zc (Zd (pv 3)) Zf)))))
  (Zj (VN (["_law_row"]:List Str) (["_law_by"]:List Str) [11] (i:=4) sc_p_web.nd rfl rfl rfl (W7 (GM (Uz (Zd (pv 4)) (X7 (Zd (pv 11))) X6) (Uz (Zd (pv 4)) X6 (X7 (Zd (pv 11)))))) (by kernel_rfl) (fun _ _ _ _ _=>(Zv (i:=0) (show((["_law_row"]:List Str)++(["_law_by"]:List Str)).Nodup by decide +kernel) rfl (Or.inl rfl) (.inr rfl))) (fun _ _ _ _ _=>Z6) (fun _ _ _ _ _=>(Lr (Uz (Zd (pv 0)) (X7 (Zd (pv 1))) X6) (Uz (Zd (pv 0)) X6 (X7 (Zd (pv 1)))))))
  (Zu (ZX (VE.pure (ZZ ZJ Yj rfl B.tuple (by decide +kernel) (Zc (YL (["_law_row"]:List Str) ([]:List Str) [] rfl (W7 (Zd (pv 4))) (by kernel_rfl) (fun _ _ _ _ _=>(Zv (i:=0) (show((["_law_row"]:List Str)++([]:List Str)).Nodup by decide +kernel) rfl (Or.inl rfl) (.inr rfl))) (fun _ _ _ _ _=>Z6) (fun _ _ _ _ _=>(ZZ ZJ Yj rfl B.tuple (by decide +kernel) (Zc (Zd (pv 0)) Zf)))) Zf)))))))))))))
abbrev Qo:Stmt:=V7 46
theorem sc_l_lend:ZH (["_law_web_here","_law_purse_here","_law_script","_law_found","_law_house","_law_coins","_law_other","_law_step"]:List Str) (["_law_web_here","_law_purse_here","_law_script"]:List Str) (Zp Qo):=⟨rfl,rfl,rfl,by decide +kernel,rfl,by decide +kernel,by decide +kernel⟩
theorem Ks(Df:Def K mg "_law_lend" Qo)(B:V4 mg):YF P w K mg base "_law_lend" (["_law_web_here","_law_purse_here","_law_script"]:List Str) (Yz K We 3) 1:=
 Z3 (O:=[3]) (k:=0) 8 TH Df sc_l_lend (fun _ _ _ _ _ _ us hl=>match us,hl with | [_,_,_],_=>rfl) rfl rfl (by decide) (fun fa cdv A outer s H E hr=>
  (Zj (Zw (i:=3) sc_l_lend.nd rfl (Or.inl rfl) (Sh VC))
  (Zj (X0 PassesOwn.never rfl (Yl rfl B.range (Zc (ZG Yg YV rfl B.len (by decide +kernel) (Zc (Zd (pv 0)) Zf)) Zf)) (Zv (i:=4) sc_l_lend.nd rfl (Or.inl rfl)) (Zj (Zw (i:=5) sc_l_lend.nd rfl (Or.inl rfl) (VE.pure (Zx (Zd (pv 1)) (Zd (pv 4)))))
  (Zj (X0 PassesOwn.never rfl (Yl rfl B.range (Zc (ZG Yg YV rfl B.len (by decide +kernel) (Zc (Zd (pv 0)) Zf)) Zf)) (Zv (i:=6) sc_l_lend.nd rfl (Or.inl rfl)) (Zj (Zw (i:=7) sc_l_lend.nd rfl (Or.inl rfl) (VE.pure (Yi (Zx (Zd (pv 2)) (Zd (pv 4))) (Zx (Zd (pv 2)) (Zd (pv 6))))))
  (Zu (Zw (i:=5) sc_l_lend.nd rfl (Or.inl rfl) (VE.pure (Yi (Zd (pv 5)) (Se (Zx (Zx (Zd (pv 0)) (Zd (pv 4))) (Zd (pv 6))) (Zd (pv 7)))))))))
  (Zu (Vs (Wu (SO PySem.F.plainAttrs_list PySem.F.slot_list_append PySem.F.type_list_append Vp (pv 3) (Z9 (VE.pure (Zd (pv 5))) XB))))))))
  (Zu (ZX (VE.pure (ZZ ZJ Yj rfl B.tuple (by decide +kernel) (Zc (Zd (pv 3)) Zf))))))))
abbrev Ss:Stmt:=V7 48
theorem sc_p_purse:ZH (["_law_script","_law_web_here","_law_at_here","_law_many","_law_number","_law_coins","_law_house","_law_far","_law_lends"]:List Str) (["_law_script","_law_web_here","_law_at_here"]:List Str) (Zp Ss):=⟨rfl,rfl,rfl,by decide +kernel,rfl,by decide +kernel,by decide +kernel⟩
theorem Mo(Df:Def K mg "_law_purse" Ss)(B:V4 mg)(C_l_at:YF P w K mg base "_law_at" (["_law_script","_law_k"]:List Str) (Yz K ZD 2) 1)(C_l_pick:YF P w K mg base "_law_pick" (["_law_cell","_law_salt","_law_many"]:List Str) (Yz K Zt 3) 1)(C_l_lend:YF P w K mg base "_law_lend" (["_law_web_here","_law_purse_here","_law_script"]:List Str) (Yz K We 3) 1):YF P w K mg base "_law_purse" (["_law_script","_law_web_here","_law_at_here"]:List Str) (Yz K WE 3) 2:=
 Z3 (O:=[5]) (k:=1) 9 WD Df sc_p_purse (fun _ _ _ _ _ _ us hl=>match us,hl with | [_,_,_],_=>rfl) rfl rfl (by decide) (fun fa cdv A outer s H E hr=>
  (Zj (Zw (i:=3) sc_p_purse.nd rfl (Or.inl rfl) (VE.pure (ZG Yg YV rfl B.len (by decide +kernel) (Zc (Zd (pv 1)) Zf))))
  (Zj (U3 (O5 hr.units (Xu (VM.ve (Zn C_l_at (hr.mono (by decide)) rfl (Zc (Zd (pv 0)) (Zc Zi Zf)))) Zi) Zi) (Zj (Zw (i:=4) sc_p_purse.nd rfl (Or.inl rfl) (VE.pure (Ty (VM.ve (Zn C_l_at (hr.mono (by decide)) rfl (Zc (Zd (pv 0)) (Zc (Zd (pv 2)) Zf)))) Zi)))
  (Zj (Zw (i:=5) sc_p_purse.nd rfl (Or.inl rfl) (Sh VC))
  (Zj (X0 PassesOwn.never rfl (Yl rfl B.range (Zc (Yi (Zd (pv 3)) Zi) Zf)) (Zv (i:=6) sc_p_purse.nd rfl (Or.inl rfl)) (Zj (Vs (Wu (SO PySem.F.plainAttrs_list PySem.F.slot_list_append PySem.F.type_list_append Vp (pv 5) (Z9 (VE.pure (Yi (Xu (Zd (pv 4)) (Z4 (Tx Zi (PY Zi Zi)) Zi)) (PY Zi Zi))) XB))))
  (Zu (Zw (i:=4) sc_p_purse.nd rfl (Or.inl rfl) (VE.pure (Ty (Zd (pv 4)) (Z4 (Tx Zi (PY Zi Zi)) Zi)))))))
  (Zu (ZX (VE.pure (ZZ ZJ Yj rfl B.tuple (by decide +kernel) (Zc (VM.ve (Lr (Zd (pv 5)) (RV (Zc (Yi (Yi (Xu (VM.ve (Zn C_l_at (hr.mono (by decide)) rfl (Zc (Zd (pv 0)) (Zc (Zd (pv 2)) Zf)))) Zi) Zi) (ZG (YH rfl) Wn rfl B.sum (by decide +kernel) (Zc (Zd (pv 5)) Zf))) Zf)))) Zf)))))))) X8)
  (Zj (VN (["_law_house"]:List Str) (["_law_script","_law_at_here"]:List Str) [0,2] (i:=5) sc_p_purse.nd rfl rfl rfl (Yl rfl B.range (Zc (Zd (pv 3)) Zf)) (by kernel_rfl) (fun _ _ _ _ _=>(Zv (i:=0) (show((["_law_house"]:List Str)++(["_law_script","_law_at_here"]:List Str)).Nodup by decide +kernel) rfl (Or.inl rfl) (.inr rfl))) (fun _ _ _ _ _=>Z6) (fun _ _ _ _ _=>(VE.pure (Yi (VM.ve (Zn C_l_pick (hr.mono (by decide)) rfl (Zc (VM.ve (Zn C_l_at (hr.mono (by decide)) rfl (Zc (Zd (pv 1)) (Zc (Z4 (Zd (pv 2)) (Zd (pv 0))) Zf)))) (Zc Zi (Zc Zi Zf))))) Zi))))
  (Zj (JN (RG (Z4 (Yi (Zx (Zd (pv 5)) Zi) (ZG (T2 rfl) P3 rfl B.max (by decide +kernel) (Zc Zi (Zc (Yi (ZG (YH rfl) Wn rfl B.sum (by decide +kernel) (Zc (Zd (pv 5)) Zf)) Zi) Zf)))) (ZG (T2 rfl) P3 rfl B.max (by decide +kernel) (Zc Zi (Zc (Yi (Tc Zi) (ZG (YH rfl) Wn rfl B.sum (by decide +kernel) (Zc (Zd (pv 5)) Zf))) Zf)))) (RF (pv 5) Zi Ud)))
  (Zj (Zw (i:=7) sc_p_purse.nd rfl (Or.inr rfl) (VE.pure (Zx (RV (Zc Zi (Zc Zi (Zc (Z4 (PY Zi Zi) Zi) Zf)))) (VM.ve (Zn C_l_pick (hr.mono (by decide)) rfl (Zc (VM.ve (Zn C_l_at (hr.mono (by decide)) rfl (Zc (Zd (pv 0)) (Zc (Zd (pv 2)) Zf)))) (Zc Zi (Zc Zi Zf))))))))
  (Zj (VN (["_law_house"]:List Str) (["_law_far","_law_script","_law_at_here"]:List Str) [7,0,2] (i:=8) sc_p_purse.nd rfl rfl rfl (Yl rfl B.range (Zc (Zd (pv 3)) Zf)) (by kernel_rfl) (fun _ _ _ _ _=>(Zv (i:=0) (show((["_law_house"]:List Str)++(["_law_far","_law_script","_law_at_here"]:List Str)).Nodup by decide +kernel) rfl (Or.inl rfl) (.inr rfl))) (fun _ _ _ _ _=>Z6) (fun _ _ _ _ _=>(VE.pure (Tx (VM.ve (Zn C_l_pick (hr.mono (by decide)) rfl (Zc (VM.ve (Zn C_l_at (hr.mono (by decide)) rfl (Zc (Zd (pv 2)) (Zc (Z4 (Zd (pv 3)) (Zd (pv 0))) Zf)))) (Zc Zi (Zc Zi Zf))))) (Zd (pv 1))))))
  (Zu (ZX (Zn C_l_lend (hr.mono (by decide)) rfl (Zc (Zd (pv 1)) (Zc (ZZ ZJ Yj rfl B.tuple (by decide +kernel) (Zc (Zd (pv 5)) Zf)) (Zc (Zd (pv 8)) Zf)))))))))))))
abbrev Oj:Stmt:=V7 14
theorem sc_least:ZH (["script","lowest"]:List Str) (["script"]:List Str) (Zp Oj):=⟨rfl,rfl,rfl,by decide +kernel,rfl,by decide +kernel,by decide +kernel⟩
theorem Io(Df:Def K mg "least" Oj)(B:V4 mg):YF P w K mg base "least" (["script"]:List Str) (Yz K X9 1) 1:=
 Z3 (O:=[]) (k:=0) 2 Of Df sc_least (fun _ _ _ _ _ _ us hl=>match us,hl with | [_],_=>rfl) rfl rfl (by decide) (fun fa cdv A outer s H E hr=>
  (Zj (Zw (i:=1) sc_least.nd rfl (Or.inr rfl) (VE.pure (ZG (Po rfl) Lw rfl B.min (by decide +kernel) (Zc (Zd (pv 0)) Zf))))
  (Zu (ZX (VE.pure (ZZ ZJ Yj rfl B.tuple (by decide +kernel) (Zc (YL (["often"]:List Str) (["lowest"]:List Str) [1] rfl (N2 (Zd (pv 0))) (by kernel_rfl) (fun _ _ _ _ _=>(Zv (i:=0) (show((["often"]:List Str)++(["lowest"]:List Str)).Nodup by decide +kernel) rfl (Or.inl rfl) (.inr rfl))) (fun _ _ _ _ _=>Z6) (fun _ _ _ _ _=>(Yi (Zd (pv 0)) (Zd (pv 1))))) Zf)))))))
abbrev Su:Stmt:=V7 7
theorem sc_ties_of:ZH (["web","ties","a","row","b"]:List Str) (["web"]:List Str) (Zp Su):=⟨rfl,rfl,rfl,by decide +kernel,rfl,by decide +kernel,by decide +kernel⟩
theorem Mp(Df:Def K mg "ties_of" Su)(B:V4 mg):YF P w K mg base "ties_of" (["web"]:List Str) (Yz K UH 1) 1:=
 Z3 (O:=[1]) (k:=0) 5 UG Df sc_ties_of (fun _ _ _ _ _ _ us hl=>match us,hl with | [_],_=>rfl) rfl rfl (by decide) (fun fa cdv A outer s H E hr=>
  (Zj (Zw (i:=1) sc_ties_of.nd rfl (Or.inl rfl) (Sh VC))
  (Zj (X0 PassesOwn.never rfl (VF false rfl B.enumerate (Zc (Zd (pv 0)) Zf)) (XM (n:=2) rfl (ZQ (Zv (i:=2) sc_ties_of.nd rfl (Or.inr rfl)) (ZQ (Zv (i:=3) sc_ties_of.nd rfl (Or.inl rfl)) Xe))) (Zu (X0 PassesOwn.never rfl (Si rfl B.range (Zc (Z4 (Zd (pv 2)) Zi) (Zc (ZG Yg YV rfl B.len (by decide +kernel) (Zc (Zd (pv 0)) Zf)) Zf))) (Zv (i:=4) sc_ties_of.nd rfl (Or.inr rfl)) (Zu (Ke (Wu (SO PySem.F.plainAttrs_list PySem.F.slot_list_extend PySem.F.type_list_extend L6 (pv 1) (Z9 (Rq (["nth"]:List Str) (["a","b"]:List Str) [2,4] rfl (Yl rfl B.range (Zc (Zx (Zd (pv 3)) (Zd (pv 4))) Zf)) (by kernel_rfl) (fun _ _ _ _ _=>(Zv (i:=0) (show((["nth"]:List Str)++(["a","b"]:List Str)).Nodup by decide +kernel) rfl (Or.inl rfl) (.inr rfl))) (fun _ _ _ _ _=>Z6) (fun _ _ _ _ _=>(VE.pure (Td (Zc (Zd (pv 1)) (Zc (Zd (pv 2)) (Zc (Zd (pv 0)) Zf))))))) XB))))))))
  (Zu (P7 (pv 1))))))
abbrev Ol:Stmt:=V7 8
theorem Ip:ZH (["web"]:List Str) (["web"]:List Str) (Zp Ol):=⟨rfl,rfl,rfl,by decide +kernel,rfl,by decide +kernel,by decide +kernel⟩
theorem Iq(Df:Def K mg "loops" Ol)(B:V4 mg)(C_ties_of:YF P w K mg base "ties_of" (["web"]:List Str) (Yz K UH 1) 1):YF P w K mg base "loops" (["web"]:List Str) (Yz K Xy 1) 2:=
 Z3 (O:=[]) (k:=1) 1 Oc Df Ip (fun _ _ _ _ _ _ us hl=>match us,hl with | [_],_=>rfl) rfl rfl (by decide) (fun fa cdv A outer s H E hr=>
  (Zu (ZX (VE.pure (Z4 (Yi (ZG Yg YV rfl B.len (by decide +kernel) (Zc (VM.ve (Zn C_ties_of (hr.mono (by decide)) rfl (Zc (Zd (pv 0)) Zf))) Zf)) (ZG Yg YV rfl B.len (by decide +kernel) (Zc (Zd (pv 0)) Zf))) Zi)))))
abbrev Om:Stmt:=V7 10
theorem Ir:ZH (["purse"]:List Str) (["purse"]:List Str) (Zp Om):=⟨rfl,rfl,rfl,by decide +kernel,rfl,by decide +kernel,by decide +kernel⟩
theorem Iu(Df:Def K mg "total" Om)(B:V4 mg):YF P w K mg base "total" (["purse"]:List Str) (Yz K YQ 1) 1:=
 Z3 (O:=[]) (k:=0) 1 Od Df Ir (fun _ _ _ _ _ _ us hl=>match us,hl with | [_],_=>rfl) rfl rfl (by decide) (fun fa cdv A outer s H E hr=>
  (Zu (ZX (VE.pure (ZG (YH rfl) Wn rfl B.sum (by decide +kernel) (Zc (Zd (pv 0)) Zf))))))
abbrev WS:Stmt:=V7 38
theorem sc_turned_about:ZH (["web","purse","told","script","order"]:List Str) (["web","purse","told"]:List Str) (Zp WS):=⟨rfl,rfl,rfl,by decide +kernel,rfl,by decide +kernel,by decide +kernel⟩
theorem S4(Df:Def K mg "turned_about" WS)(B:V4 mg)(C_least:YF P w K mg base "least" (["script"]:List Str) (Yz K X9 1) 1)(C_total:YF P w K mg base "total" (["purse"]:List Str) (Yz K YQ 1) 1)(C_loops:YF P w K mg base "loops" (["web"]:List Str) (Yz K Xy 1) 2):YF P w K mg base "turned_about" (["web","purse","told"]:List Str) (Yz K XW 3) 3:=
 Z3 (O:=[4]) (k:=2) 5 XV Df sc_turned_about (fun _ _ _ _ _ _ us hl=>match us,hl with | [_,_,_],_=>rfl) rfl rfl (by decide) (fun fa cdv A outer s H E hr=>
  (Zj (Zw (i:=3) sc_turned_about.nd rfl (Or.inl rfl) (Zn C_least (hr.mono (by decide)) rfl (Zc (ZZ ZJ Yj rfl B.tuple (by decide +kernel) (Zc (YL (["often"]:List Str) ([]:List Str) [] rfl (N2 (Zx (Zd (pv 2)) Zi)) (by kernel_rfl) (fun _ _ _ _ _=>(Zv (i:=0) (show((["often"]:List Str)++([]:List Str)).Nodup by decide +kernel) rfl (Or.inl rfl) (.inr rfl))) (fun _ _ _ _ _=>Z6) (fun _ _ _ _ _=>(Tc (Zd (pv 0))))) Zf)) Zf)))
  (Zj (Zw (i:=4) sc_turned_about.nd rfl (Or.inl rfl) (Mm rfl rfl B.list rfl B.reversed (Zx (Zd (pv 2)) Zi)))
  (Zu (Kq (U7 (Z9 (Yi (Z4 (Z4 (Zx (Zd (pv 2)) Zi) (VM.ve (Zn C_total (hr.mono (by decide)) rfl (Zc (Zd (pv 1)) Zf)))) Zi) (VM.ve (Zn C_loops (hr.mono (by decide)) rfl (Zc (Zd (pv 0)) Zf)))) (Z9 (Zd (pv 3)) (Z9 (pv 4) XB)))))))))
abbrev Sv:Stmt:=V7 21
theorem Mq:ZH (["row","by","place","divisor"]:List Str) (["row","by","place","divisor"]:List Str) (Zp Sv):=⟨rfl,rfl,rfl,by decide +kernel,rfl,by decide +kernel,by decide +kernel⟩
theorem Mr(Df:Def K mg "reduced" Sv)(B:V4 mg):YF P w K mg base "reduced" (["row","by","place","divisor"]:List Str) (Yz K XD 4) 1:=
 Z3 (O:=[]) (k:=0) 4 UL Df Mq (fun _ _ _ _ _ _ us hl=>match us,hl with | [_,_,_,_],_=>rfl) rfl rfl (by decide) (fun fa cdv A outer s H E hr=>
  (Zu (ZX (VE.pure (ZZ ZJ Yj rfl B.tuple (by decide +kernel) (Zc (YL (["number","other"]:List Str) (["divisor","by","place","row"]:List Str) [3,1,2,0] rfl (P5 false false rfl B.zip (Zc (Zd (pv 0)) (Zc (Zd (pv 1)) Zf))) (by kernel_rfl) (fun _ _ _ _ _=>(XM (n:=2) rfl (ZQ (Zv (i:=0) (show((["number","other"]:List Str)++(["divisor","by","place","row"]:List Str)).Nodup by decide +kernel) rfl (Or.inl rfl) (.inr rfl)) (ZQ (Zv (i:=1) (show((["number","other"]:List Str)++(["divisor","by","place","row"]:List Str)).Nodup by decide +kernel) rfl (Or.inl rfl) (.inr rfl)) Xe)))) (fun _ _ _ _ _=>Z6) (fun _ _ _ _ _=>(Ty (Yi (Tx (Zx (Zd (pv 3)) (Zd (pv 4))) (Zd (pv 0))) (Tx (Zx (Zd (pv 5)) (Zd (pv 4))) (Zd (pv 1)))) (Zd (pv 2))))) Zf))))))
abbrev Qp:Stmt:=V7 20
theorem sc_evened:ZH (["rows","left","divisor","place","by"]:List Str) (["rows"]:List Str) (Zp Qp):=⟨rfl,rfl,rfl,by decide +kernel,rfl,by decide +kernel,by decide +kernel⟩
theorem Kt(Df:Def K mg "evened" Qp)(B:V4 mg)(C_reduced:YF P w K mg base "reduced" (["row","by","place","divisor"]:List Str) (Yz K XD 4) 1):YF P w K mg base "evened" (["rows"]:List Str) (Yz K Vu 1) 2:=
 Z3 (O:=[1]) (k:=1) 5 TB Df sc_evened (fun _ _ _ _ _ _ us hl=>match us,hl with | [_],_=>rfl) rfl rfl (by decide) (fun fa cdv A outer s H E hr=>
  (Zj (Zw (i:=1) sc_evened.nd rfl (Or.inl rfl) (Kb PN JH rfl B.list (by decide +kernel) (Zc (Zd (pv 0)) Zf)))
  (Zj (Zw (i:=2) sc_evened.nd rfl (Or.inr rfl) (VE.pure Zi))
  (Zj (X0 PassesOwn.never rfl (Yl rfl B.range (Zc (ZG Yg YV rfl B.len (by decide +kernel) (Zc (Zd (pv 0)) Zf)) Zf)) (Zv (i:=3) sc_evened.nd rfl (Or.inr rfl)) (Zj (Zw (i:=4) sc_evened.nd rfl (Or.inr rfl) (VE.pure (Zx (Zd (pv 1)) (Zd (pv 3)))))
  (Zj (VN (["at","row"]:List Str) (["place","by","divisor"]:List Str) [3,4,2] (i:=1) sc_evened.nd rfl rfl rfl (VF true rfl B.enumerate (Zc (Zd (pv 1)) Zf)) (by kernel_rfl) (fun _ _ _ _ _=>(XM (n:=2) rfl (ZQ (Zv (i:=0) (show((["at","row"]:List Str)++(["place","by","divisor"]:List Str)).Nodup by decide +kernel) rfl (Or.inl rfl) (.inr rfl)) (ZQ (Zv (i:=1) (show((["at","row"]:List Str)++(["place","by","divisor"]:List Str)).Nodup by decide +kernel) rfl (Or.inl rfl) (.inr rfl)) Xe)))) (fun _ _ _ _ _=>Z6) (fun _ _ _ _ _=>(VE.pure (OZ (O5 hr.units (Zd (pv 0)) (Zd (pv 2))) (Zd (pv 1)) (VM.ve (Zn C_reduced (hr.mono (by decide)) rfl (Zc (Zd (pv 1)) (Zc (Zd (pv 3)) (Zc (Zd (pv 2)) (Zc (Zd (pv 4)) Zf))))))))))
  (Zu (Zw (i:=2) sc_evened.nd rfl (Or.inr rfl) (VE.pure (Zx (Zd (pv 4)) (Zd (pv 3)))))))))
  (Zu (J9 (U7 (Z9 (Zd (pv 2)) (Z9 (pv 1) XB)))))))))
abbrev WT:Stmt:=V7 19
theorem sc_solved_below:ZH (["square","column","told"]:List Str) (["square","column"]:List Str) (Zp WT):=⟨rfl,rfl,rfl,by decide +kernel,rfl,by decide +kernel,by decide +kernel⟩
theorem S5(Df:Def K mg "solved_below" WT)(B:V4 mg)(C_evened:YF P w K mg base "evened" (["rows"]:List Str) (Yz K Vu 1) 2):YF P w K mg base "solved_below" (["square","column"]:List Str) (Yz K YX 2) 3:=
 Z3 (O:=[]) (k:=2) 3 XU Df sc_solved_below (fun _ _ _ _ _ _ us hl=>match us,hl with | [_,_],_=>rfl) rfl rfl (by decide) (fun fa cdv A outer s H E hr=>
  (Zj (Zw (i:=2) sc_solved_below.nd rfl (Or.inr rfl) (Zn C_evened (hr.mono (by decide)) rfl (Zc (YL (["row","number"]:List Str) ([]:List Str) [] rfl (P5 false false rfl B.zip (Zc (Zd (pv 0)) (Zc (Zd (pv 1)) Zf))) (by kernel_rfl) (fun _ _ _ _ _=>(XM (n:=2) rfl (ZQ (Zv (i:=0) (show((["row","number"]:List Str)++([]:List Str)).Nodup by decide +kernel) rfl (Or.inl rfl) (.inr rfl)) (ZQ (Zv (i:=1) (show((["row","number"]:List Str)++([]:List Str)).Nodup by decide +kernel) rfl (Or.inl rfl) (.inr rfl)) Xe)))) (fun _ _ _ _ _=>Z6) (fun _ _ _ _ _=>(Wt UE UF (Zd (pv 0)) (Td (Zc (Zd (pv 1)) Zf))))) Zf)))
  (Zu (ZX (Rq (["row"]:List Str) (["told"]:List Str) [2] rfl (W7 (Zx (Zd (pv 2)) Zi)) (by kernel_rfl) (fun _ _ _ _ _=>(Zv (i:=0) (show((["row"]:List Str)++(["told"]:List Str)).Nodup by decide +kernel) rfl (Or.inl rfl) (.inr rfl))) (fun _ _ _ _ _=>Z6) (fun _ _ _ _ _=>(VE.pure (Ty (Zx (Zd (pv 0)) (Tc Zi)) (Zx (Zd (pv 1)) Zi)))))))))
abbrev Sw:Stmt:=V7 6
theorem Ms:ZH (["web","house"]:List Str) (["web","house"]:List Str) (Zp Sw):=⟨rfl,rfl,rfl,by decide +kernel,rfl,by decide +kernel,by decide +kernel⟩
theorem Mu(Df:Def K mg "ties_at" Sw)(B:V4 mg):YF P w K mg base "ties_at" (["web","house"]:List Str) (Yz K Xo 2) 1:=
 Z3 (O:=[]) (k:=0) 2 So Df Ms (fun _ _ _ _ _ _ us hl=>match us,hl with | [_,_],_=>rfl) rfl rfl (by decide) (fun fa cdv A outer s H E hr=>
  (Zu (ZX (VE.pure (ZG (YH rfl) Wn rfl B.sum (by decide +kernel) (Zc (Zx (Zd (pv 0)) (Zd (pv 1))) Zf))))))
abbrev Qq:Stmt:=V7 24
theorem Ku:ZH (["web","house","others"]:List Str) (["web","house","others"]:List Str) (Zp Qq):=⟨rfl,rfl,rfl,by decide +kernel,rfl,by decide +kernel,by decide +kernel⟩
theorem Kv(Df:Def K mg "row_of" Qq)(B:V4 mg)(C_ties_at:YF P w K mg base "ties_at" (["web","house"]:List Str) (Yz K Xo 2) 1):YF P w K mg base "row_of" (["web","house","others"]:List Str) (Yz K Ul 3) 2:=
 Z3 (O:=[]) (k:=1) 3 TC Df Ku (fun _ _ _ _ _ _ us hl=>match us,hl with | [_,_,_],_=>rfl) rfl rfl (by decide) (fun fa cdv A outer s H E hr=>
  (Zu (ZX (VE.pure (ZZ ZJ Yj rfl B.tuple (by decide +kernel) (Zc (YL (["other"]:List Str) (["house","web"]:List Str) [1,0] rfl (W7 (Zd (pv 2))) (by kernel_rfl) (fun _ _ _ _ _=>(Zv (i:=0) (show((["other"]:List Str)++(["house","web"]:List Str)).Nodup by decide +kernel) rfl (Or.inl rfl) (.inr rfl))) (fun _ _ _ _ _=>Z6) (fun _ _ _ _ _=>(OZ (O5 hr.units (Zd (pv 0)) (Zd (pv 1))) (VM.ve (Zn C_ties_at (hr.mono (by decide)) rfl (Zc (Zd (pv 2)) (Zc (Zd (pv 1)) Zf)))) (Tc (Zx (Zx (Zd (pv 2)) (Zd (pv 1))) (Zd (pv 0))))))) Zf))))))
abbrev X3:Stmt:=V7 23
theorem sc_square_without:ZH (["web","base","others"]:List Str) (["web","base"]:List Str) (Zp X3):=⟨rfl,rfl,rfl,by decide +kernel,rfl,by decide +kernel,by decide +kernel⟩
theorem TL(Df:Def K mg "square_without" X3)(B:V4 mg)(C_row_of:YF P w K mg base "row_of" (["web","house","others"]:List Str) (Yz K Ul 3) 2):YF P w K mg base "square_without" (["web","base"]:List Str) (Yz K Yp 2) 3:=
 Z3 (O:=[]) (k:=2) 3 Xp Df sc_square_without (fun _ _ _ _ _ _ us hl=>match us,hl with | [_,_],_=>rfl) rfl rfl (by decide) (fun fa cdv A outer s H E hr=>
  (Zj (Zw (i:=2) sc_square_without.nd rfl (Or.inr rfl) (Rq (["house"]:List Str) (["base"]:List Str) [1] rfl (Yl rfl B.range (Zc (ZG Yg YV rfl B.len (by decide +kernel) (Zc (Zd (pv 0)) Zf)) Zf)) (by kernel_rfl) (fun _ _ _ _ _=>(Zv (i:=0) (show((["house"]:List Str)++(["base"]:List Str)).Nodup by decide +kernel) rfl (Or.inl rfl) (.inr rfl))) (fun _ _ _ _ _=>(P6 (O6 hr.units (Zd (pv 0)) (Zd (pv 1))))) (fun _ _ _ _ _=>(VE.pure (Zd (pv 0))))))
  (Zu (ZX (VE.pure (ZZ ZJ Yj rfl B.tuple (by decide +kernel) (Zc (YL (["house"]:List Str) (["web","others"]:List Str) [0,2] rfl (W7 (Zd (pv 2))) (by kernel_rfl) (fun _ _ _ _ _=>(Zv (i:=0) (show((["house"]:List Str)++(["web","others"]:List Str)).Nodup by decide +kernel) rfl (Or.inl rfl) (.inr rfl))) (fun _ _ _ _ _=>Z6) (fun _ _ _ _ _=>(VM.ve (Zn C_row_of (hr.mono (by decide)) rfl (Zc (Zd (pv 1)) (Zc (Zd (pv 0)) (Zc (Zd (pv 2)) Zf))))))) Zf)))))))
abbrev Sy:Stmt:=V7 27
theorem sc_nearing:ZH (["web","purse","base","column","script"]:List Str) (["web","purse","base"]:List Str) (Zp Sy):=⟨rfl,rfl,rfl,by decide +kernel,rfl,by decide +kernel,by decide +kernel⟩
theorem Mv(Df:Def K mg "nearing" Sy)(B:V4 mg)(C_solved_below:YF P w K mg base "solved_below" (["square","column"]:List Str) (Yz K YX 2) 3)(C_square_without:YF P w K mg base "square_without" (["web","base"]:List Str) (Yz K Yp 2) 3):YF P w K mg base "nearing" (["web","purse","base"]:List Str) (Yz K X1 3) 4:=
 Z3 (O:=[4]) (k:=3) 5 UM Df sc_nearing (fun _ _ _ _ _ _ us hl=>match us,hl with | [_,_,_],_=>rfl) rfl rfl (by decide) (fun fa cdv A outer s H E hr=>
  (Zj (Zw (i:=3) sc_nearing.nd rfl (Or.inl rfl) (VE.pure (Wt UE UF (WC (Zd (pv 1)) X6 (X7 (Zd (pv 2)))) (WC (Zd (pv 1)) (X7 (Z4 (Zd (pv 2)) Zi)) X6))))
  (Zj (Zw (i:=4) sc_nearing.nd rfl (Or.inl rfl) (Zn C_solved_below (hr.mono (by decide)) rfl (Zc (VM.ve (Zn C_square_without (hr.mono (by decide)) rfl (Zc (Zd (pv 0)) (Zc (Zd (pv 2)) Zf)))) (Zc (Zd (pv 3)) Zf))))
  (Zj (Pj (Wu (SO PySem.F.plainAttrs_list PySem.F.slot_list_insert PySem.F.type_list_insert Q9 (pv 4) (Z9 (Zd (pv 2)) (Z9 Zi XB)))))
  (Zu (ZX (VE.pure (ZZ ZJ Yj rfl B.tuple (by decide +kernel) (Zc (Zd (pv 4)) Zf)))))))))
abbrev Mw:Stmt:=V7 13
theorem GP:ZH (["web","script","house"]:List Str) (["web","script","house"]:List Str) (Zp Mw):=⟨rfl,rfl,rfl,by decide +kernel,rfl,by decide +kernel,by decide +kernel⟩
theorem GQ(Df:Def K mg "gain" Mw)(B:V4 mg):YF P w K mg base "gain" (["web","script","house"]:List Str) (Yz K Sq 3) 1:=
 Z3 (O:=[]) (k:=0) 3 Mf Df GP (fun _ _ _ _ _ _ us hl=>match us,hl with | [_,_,_],_=>rfl) rfl rfl (by decide) (fun fa cdv A outer s H E hr=>
  (Zu (ZX (VE.pure (ZG (YH rfl) Wn rfl B.sum (by decide +kernel) (Zc (YL (["other","times"]:List Str) (["script","house"]:List Str) [1,2] rfl (VF false rfl B.enumerate (Zc (Zx (Zd (pv 0)) (Zd (pv 2))) Zf)) (by kernel_rfl) (fun _ _ _ _ _=>(XM (n:=2) rfl (ZQ (Zv (i:=0) (show((["other","times"]:List Str)++(["script","house"]:List Str)).Nodup by decide +kernel) rfl (Or.inl rfl) (.inr rfl)) (ZQ (Zv (i:=1) (show((["other","times"]:List Str)++(["script","house"]:List Str)).Nodup by decide +kernel) rfl (Or.inl rfl) (.inr rfl)) Xe)))) (fun _ _ _ _ _=>Z6) (fun _ _ _ _ _=>(Se (Zd (pv 1)) (Yi (Zx (Zd (pv 2)) (Zd (pv 0))) (Zx (Zd (pv 2)) (Zd (pv 3))))))) Zf))))))
abbrev Iv:Stmt:=V7 12
theorem EN:ZH (["web","purse","script"]:List Str) (["web","purse","script"]:List Str) (Zp Iv):=⟨rfl,rfl,rfl,by decide +kernel,rfl,by decide +kernel,by decide +kernel⟩
theorem EO(Df:Def K mg "run" Iv)(B:V4 mg)(C_gain:YF P w K mg base "gain" (["web","script","house"]:List Str) (Yz K Sq 3) 1):YF P w K mg base "run" (["web","purse","script"]:List Str) (Yz K Uk 3) 2:=
 Z3 (O:=[]) (k:=1) 3 J4 Df EN (fun _ _ _ _ _ _ us hl=>match us,hl with | [_,_,_],_=>rfl) rfl rfl (by decide) (fun fa cdv A outer s H E hr=>
  (Zu (ZX (VE.pure (ZZ ZJ Yj rfl B.tuple (by decide +kernel) (Zc (YL (["house","coins"]:List Str) (["web","script"]:List Str) [0,2] rfl (VF false rfl B.enumerate (Zc (Zd (pv 1)) Zf)) (by kernel_rfl) (fun _ _ _ _ _=>(XM (n:=2) rfl (ZQ (Zv (i:=0) (show((["house","coins"]:List Str)++(["web","script"]:List Str)).Nodup by decide +kernel) rfl (Or.inl rfl) (.inr rfl)) (ZQ (Zv (i:=1) (show((["house","coins"]:List Str)++(["web","script"]:List Str)).Nodup by decide +kernel) rfl (Or.inl rfl) (.inr rfl)) Xe)))) (fun _ _ _ _ _=>Z6) (fun _ _ _ _ _=>(Z4 (Zd (pv 1)) (VM.ve (Zn C_gain (hr.mono (by decide)) rfl (Zc (Zd (pv 2)) (Zc (Zd (pv 3)) (Zc (Zd (pv 0)) Zf)))))))) Zf))))))
abbrev Sz:Stmt:=V7 4
theorem Mx:ZH (["purse","base"]:List Str) (["purse","base"]:List Str) (Zp Sz):=⟨rfl,rfl,rfl,by decide +kernel,rfl,by decide +kernel,by decide +kernel⟩
theorem My(Df:Def K mg "in_debt" Sz)(B:V4 mg):YF P w K mg base "in_debt" (["purse","base"]:List Str) (Yz K Xa 2) 1:=
 Z3 (O:=[]) (k:=0) 2 UK Df Mx (fun _ _ _ _ _ _ us hl=>match us,hl with | [_,_],_=>rfl) rfl rfl (by decide) (fun fa cdv A outer s H E hr=>
  (Zu (ZX (Rq (["house","coins"]:List Str) (["base"]:List Str) [1] rfl (VF false rfl B.enumerate (Zc (Zd (pv 0)) Zf)) (by kernel_rfl) (fun _ _ _ _ _=>(XM (n:=2) rfl (ZQ (Zv (i:=0) (show((["house","coins"]:List Str)++(["base"]:List Str)).Nodup by decide +kernel) rfl (Or.inl rfl) (.inr rfl)) (ZQ (Zv (i:=1) (show((["house","coins"]:List Str)++(["base"]:List Str)).Nodup by decide +kernel) rfl (Or.inl rfl) (.inr rfl)) Xe)))) (fun _ _ _ _ _=>(P6 (VW.vt (PZ (O6 hr.units (Zd (pv 0)) (Zd (pv 2))) (Rk (SQ (Zd (pv 1)) Zi)))))) (fun _ _ _ _ _=>(VE.pure (Zd (pv 0))))))))
abbrev Um:Stmt:=V7 28
theorem On:ZH (["web","houses"]:List Str) (["web","houses"]:List Str) (Zp Um):=⟨rfl,rfl,rfl,by decide +kernel,rfl,by decide +kernel,by decide +kernel⟩
theorem Oo(Df:Def K mg "borrowing" Um)(B:V4 mg):YF P w K mg base "borrowing" (["web","houses"]:List Str) (Yz K Xk 2) 1:=
 Z3 (O:=[]) (k:=0) 2 Vd Df On (fun _ _ _ _ _ _ us hl=>match us,hl with | [_,_],_=>rfl) rfl rfl (by decide) (fun fa cdv A outer s H E hr=>
  (Zu (ZX (VE.pure (ZZ ZJ Yj rfl B.tuple (by decide +kernel) (Zc (YL (["house"]:List Str) (["houses"]:List Str) [1] rfl (Yl rfl B.range (Zc (ZG Yg YV rfl B.len (by decide +kernel) (Zc (Zd (pv 0)) Zf)) Zf)) (by kernel_rfl) (fun _ _ _ _ _=>(Zv (i:=0) (show((["house"]:List Str)++(["houses"]:List Str)).Nodup by decide +kernel) rfl (Or.inl rfl) (.inr rfl))) (fun _ _ _ _ _=>Z6) (fun _ _ _ _ _=>(OZ (DS hr.units (Zd (pv 0)) (Zd (pv 1))) (Tc Zi) Zi))) Zf))))))
abbrev Mz:Stmt:=V7 15
theorem GR:ZH (["one","other"]:List Str) (["one","other"]:List Str) (Zp Mz):=⟨rfl,rfl,rfl,by decide +kernel,rfl,by decide +kernel,by decide +kernel⟩
theorem GS(Df:Def K mg "plus" Mz)(B:V4 mg):YF P w K mg base "plus" (["one","other"]:List Str) (Yz K Wq 2) 1:=
 Z3 (O:=[]) (k:=0) 2 Mg Df GR (fun _ _ _ _ _ _ us hl=>match us,hl with | [_,_],_=>rfl) rfl rfl (by decide) (fun fa cdv A outer s H E hr=>
  (Zu (ZX (VE.pure (ZZ ZJ Yj rfl B.tuple (by decide +kernel) (Zc (YL (["first","second"]:List Str) ([]:List Str) [] rfl (P5 false false rfl B.zip (Zc (Zd (pv 0)) (Zc (Zd (pv 1)) Zf))) (by kernel_rfl) (fun _ _ _ _ _=>(XM (n:=2) rfl (ZQ (Zv (i:=0) (show((["first","second"]:List Str)++([]:List Str)).Nodup by decide +kernel) rfl (Or.inl rfl) (.inr rfl)) (ZQ (Zv (i:=1) (show((["first","second"]:List Str)++([]:List Str)).Nodup by decide +kernel) rfl (Or.inl rfl) (.inr rfl)) Xe)))) (fun _ _ _ _ _=>Z6) (fun _ _ _ _ _=>(Z4 (Zd (pv 0)) (Zd (pv 1))))) Zf))))))
abbrev SA:Stmt:=V7 3
theorem MA:ZH (["web","house","others"]:List Str) (["web","house","others"]:List Str) (Zp SA):=⟨rfl,rfl,rfl,by decide +kernel,rfl,by decide +kernel,by decide +kernel⟩
theorem MB(Df:Def K mg "ties_to" SA)(B:V4 mg):YF P w K mg base "ties_to" (["web","house","others"]:List Str) (Yz K Vt 3) 1:=
 Z3 (O:=[]) (k:=0) 3 UJ Df MA (fun _ _ _ _ _ _ us hl=>match us,hl with | [_,_,_],_=>rfl) rfl rfl (by decide) (fun fa cdv A outer s H E hr=>
  (Zu (ZX (VE.pure (ZG (YH rfl) Wn rfl B.sum (by decide +kernel) (Zc (YL (["other"]:List Str) (["web","house"]:List Str) [0,1] rfl (W7 (Zd (pv 2))) (by kernel_rfl) (fun _ _ _ _ _=>(Zv (i:=0) (show((["other"]:List Str)++(["web","house"]:List Str)).Nodup by decide +kernel) rfl (Or.inl rfl) (.inr rfl))) (fun _ _ _ _ _=>Z6) (fun _ _ _ _ _=>(Zx (Zx (Zd (pv 1)) (Zd (pv 2))) (Zd (pv 0))))) Zf))))))
abbrev Wr:Stmt:=V7 2
theorem sc_house_to_burn:ZH (["web","purse","fire","house","coins"]:List Str) (["web","purse","fire"]:List Str) (Zp Wr):=⟨rfl,rfl,rfl,by decide +kernel,rfl,by decide +kernel,by decide +kernel⟩
theorem SB(Df:Def K mg "house_to_burn" Wr)(B:V4 mg)(C_ties_to:YF P w K mg base "ties_to" (["web","house","others"]:List Str) (Yz K Vt 3) 1):YF P w K mg base "house_to_burn" (["web","purse","fire"]:List Str) (Yz K Yd 3) 2:=
 Z3 (O:=[]) (k:=1) 5 Xz Df sc_house_to_burn (fun _ _ _ _ _ _ us hl=>match us,hl with | [_,_,_],_=>rfl) rfl rfl (by decide) (fun fa cdv A outer s H E hr=>
  (Zj (X0 PassesOwn.never rfl (VF false rfl B.enumerate (Zc (Zd (pv 1)) Zf)) (XM (n:=2) rfl (ZQ (Zv (i:=3) sc_house_to_burn.nd rfl (Or.inl rfl)) (ZQ (Zv (i:=4) sc_house_to_burn.nd rfl (Or.inl rfl)) Xe))) (Zu (U3 (VW.vt (PZ (JO hr.units (Zd (pv 3)) (Zd (pv 2))) (Rk (SQ (Zd (pv 4)) (VM.ve (Zn C_ties_to (hr.mono (by decide)) rfl (Zc (Zd (pv 0)) (Zc (Zd (pv 3)) (Zc (Zd (pv 2)) Zf))))))))) (Zu (ZX (VE.pure (Zd (pv 3))))) X8)))
  (Zu (ZX (VE.pure Ev)))))
abbrev Op:Stmt:=V7 1
theorem sc_burnt:ZH (["web","purse","base","fire","house"]:List Str) (["web","purse","base"]:List Str) (Zp Op):=⟨rfl,rfl,rfl,by decide +kernel,rfl,by decide +kernel,by decide +kernel⟩
theorem Iw(Df:Def K mg "burnt" Op)(B:V4 mg)(C_house_to_burn:YF P w K mg base "house_to_burn" (["web","purse","fire"]:List Str) (Yz K Yd 3) 2):YF P w K mg base "burnt" (["web","purse","base"]:List Str) (Yz K Tz 3) 3:=
 Z3 (O:=[3]) (k:=2) 5 Rt Df sc_burnt (fun _ _ _ _ _ _ us hl=>match us,hl with | [_,_,_],_=>rfl) rfl rfl (by decide) (fun fa cdv A outer s H E hr=>
  (Zj (Zw (i:=3) sc_burnt.nd rfl (Or.inl rfl) (Sh (To (VE.pure (Zd (pv 2))) VC)))
  (Zj (Zw (i:=4) sc_burnt.nd rfl (Or.inl rfl) (Zn C_house_to_burn (hr.mono (by decide)) rfl (Zc (Zd (pv 0)) (Zc (Zd (pv 1)) (Zc (Zd (pv 3)) Zf)))))
  (Zj (R3 PassesOwn.never (Gi (Zd (pv 4))) (Zj (Vs (Wu (SO PySem.F.plainAttrs_list PySem.F.slot_list_append PySem.F.type_list_append Vp (pv 3) (Z9 (VE.pure (Zd (pv 4))) XB))))
  (Zu (Zw (i:=4) sc_burnt.nd rfl (Or.inl rfl) (Zn C_house_to_burn (hr.mono (by decide)) rfl (Zc (Zd (pv 0)) (Zc (Zd (pv 1)) (Zc (Zd (pv 3)) Zf))))))))
  (Zu (P7 (pv 3)))))))
abbrev Qr:Stmt:=V7 26
theorem sc_settle:ZH (["web","purse","base","script","near","indebted","step"]:List Str) (["web","purse","base"]:List Str) (Zp Qr):=⟨rfl,rfl,rfl,by decide +kernel,rfl,by decide +kernel,by decide +kernel⟩
theorem Kw(Df:Def K mg "settle" Qr)(B:V4 mg)(C_nearing:YF P w K mg base "nearing" (["web","purse","base"]:List Str) (Yz K X1 3) 4)(C_run:YF P w K mg base "run" (["web","purse","script"]:List Str) (Yz K Uk 3) 2)(C_in_debt:YF P w K mg base "in_debt" (["purse","base"]:List Str) (Yz K Xa 2) 1)(C_borrowing:YF P w K mg base "borrowing" (["web","houses"]:List Str) (Yz K Xk 2) 1)(C_plus:YF P w K mg base "plus" (["one","other"]:List Str) (Yz K Wq 2) 1)(C_burnt:YF P w K mg base "burnt" (["web","purse","base"]:List Str) (Yz K Tz 3) 3)(C_least:YF P w K mg base "least" (["script"]:List Str) (Yz K X9 1) 1):YF P w K mg base "settle" (["web","purse","base"]:List Str) (Yz K Yy 3) 5:=
 Z3 (O:=[]) (k:=4) 7 TD Df sc_settle (fun _ _ _ _ _ _ us hl=>match us,hl with | [_,_,_],_=>rfl) rfl rfl (by decide) (fun fa cdv A outer s H E hr=>
  (Zj (Zw (i:=3) sc_settle.nd rfl (Or.inl rfl) (Zn C_nearing (hr.mono (by decide)) rfl (Zc (Zd (pv 0)) (Zc (Zd (pv 1)) (Zc (Zd (pv 2)) Zf)))))
  (Zj (Zw (i:=4) sc_settle.nd rfl (Or.inl rfl) (Zn C_run (hr.mono (by decide)) rfl (Zc (Zd (pv 0)) (Zc (Zd (pv 1)) (Zc (Zd (pv 3)) Zf)))))
  (Zj (Zw (i:=5) sc_settle.nd rfl (Or.inl rfl) (Zn C_in_debt (hr.mono (by decide)) rfl (Zc (Zd (pv 4)) (Zc (Zd (pv 2)) Zf))))
  (Zj (R3 PassesOwn.never (Fy (ZG Yg YV rfl B.len (by decide +kernel) (Zc (Zd (pv 5)) Zf)) Zi) (Zj (Zw (i:=6) sc_settle.nd rfl (Or.inl rfl) (Zn C_borrowing (hr.mono (by decide)) rfl (Zc (Zd (pv 0)) (Zc (Zd (pv 5)) Zf))))
  (Zj (Zw (i:=3) sc_settle.nd rfl (Or.inl rfl) (Zn C_plus (hr.mono (by decide)) rfl (Zc (Zd (pv 3)) (Zc (Zd (pv 6)) Zf))))
  (Zj (Zw (i:=4) sc_settle.nd rfl (Or.inl rfl) (Zn C_run (hr.mono (by decide)) rfl (Zc (Zd (pv 0)) (Zc (Zd (pv 4)) (Zc (Zd (pv 6)) Zf)))))
  (Zu (Zw (i:=5) sc_settle.nd rfl (Or.inl rfl) (Zn C_in_debt (hr.mono (by decide)) rfl (Zc (Zd (pv 4)) (Zc (Zd (pv 2)) Zf)))))))))
  (Zu (ZX (Ez (To (Zn C_least (hr.mono (by decide)) rfl (Zc (Zd (pv 3)) Zf)) (To (VE.pure (Zd (pv 4))) (To (Zn C_burnt (hr.mono (by decide)) rfl (Zc (Zd (pv 0)) (Zc (Zd (pv 4)) (Zc (Zd (pv 2)) Zf)))) VC)))))))))))
abbrev Qs:Stmt:=V7 11
theorem Kx:ZH (["web","house"]:List Str) (["web","house"]:List Str) (Zp Qs):=⟨rfl,rfl,rfl,by decide +kernel,rfl,by decide +kernel,by decide +kernel⟩
theorem Ky(Df:Def K mg "one_at" Qs)(B:V4 mg):YF P w K mg base "one_at" (["web","house"]:List Str) (Yz K WR 2) 1:=
 Z3 (O:=[]) (k:=0) 2 TJ Df Kx (fun _ _ _ _ _ _ us hl=>match us,hl with | [_,_],_=>rfl) rfl rfl (by decide) (fun fa cdv A outer s H E hr=>
  (Zu (ZX (VE.pure (ZZ ZJ Yj rfl B.tuple (by decide +kernel) (Zc (YL (["other"]:List Str) (["house"]:List Str) [1] rfl (Yl rfl B.range (Zc (ZG Yg YV rfl B.len (by decide +kernel) (Zc (Zd (pv 0)) Zf)) Zf)) (by kernel_rfl) (fun _ _ _ _ _=>(Zv (i:=0) (show((["other"]:List Str)++(["house"]:List Str)).Nodup by decide +kernel) rfl (Or.inl rfl) (.inr rfl))) (fun _ _ _ _ _=>Z6) (fun _ _ _ _ _=>(OZ (O5 hr.units (Zd (pv 0)) (Zd (pv 1))) Zi Zi))) Zf))))))
abbrev Oq:Stmt:=V7 16
theorem Ix:ZH (["one","other"]:List Str) (["one","other"]:List Str) (Zp Oq):=⟨rfl,rfl,rfl,by decide +kernel,rfl,by decide +kernel,by decide +kernel⟩
theorem Iy(Df:Def K mg "minus" Oq)(B:V4 mg):YF P w K mg base "minus" (["one","other"]:List Str) (Yz K Y2 2) 1:=
 Z3 (O:=[]) (k:=0) 2 Oe Df Ix (fun _ _ _ _ _ _ us hl=>match us,hl with | [_,_],_=>rfl) rfl rfl (by decide) (fun fa cdv A outer s H E hr=>
  (Zu (ZX (VE.pure (ZZ ZJ Yj rfl B.tuple (by decide +kernel) (Zc (YL (["first","second"]:List Str) ([]:List Str) [] rfl (P5 false false rfl B.zip (Zc (Zd (pv 0)) (Zc (Zd (pv 1)) Zf))) (by kernel_rfl) (fun _ _ _ _ _=>(XM (n:=2) rfl (ZQ (Zv (i:=0) (show((["first","second"]:List Str)++([]:List Str)).Nodup by decide +kernel) rfl (Or.inl rfl) (.inr rfl)) (ZQ (Zv (i:=1) (show((["first","second"]:List Str)++([]:List Str)).Nodup by decide +kernel) rfl (Or.inl rfl) (.inr rfl)) Xe)))) (fun _ _ _ _ _=>Z6) (fun _ _ _ _ _=>(Yi (Zd (pv 0)) (Zd (pv 1))))) Zf))))))
abbrev X4:Stmt:=V7 37
theorem sc_greater_by_one:ZH (["web","takings","found","left","taking","house","coin"]:List Str) (["web","takings"]:List Str) (Zp X4):=⟨rfl,rfl,rfl,by decide +kernel,rfl,by decide +kernel,by decide +kernel⟩
theorem TM(Df:Def K mg "greater_by_one" X4)(B:V4 mg)(Z_BASE_spare:EK mg "BASE_spare" 0)(C_one_at:YF P w K mg base "one_at" (["web","house"]:List Str) (Yz K WR 2) 1)(C_settle:YF P w K mg base "settle" (["web","purse","base"]:List Str) (Yz K Yy 3) 5)(C_minus:YF P w K mg base "minus" (["one","other"]:List Str) (Yz K Y2 2) 1)(C_plus:YF P w K mg base "plus" (["one","other"]:List Str) (Yz K Wq 2) 1):YF P w K mg base "greater_by_one" (["web","takings"]:List Str) (Yz K Yq 2) 6:=
 Z3 (O:=[2]) (k:=5) 7 Xq Df sc_greater_by_one (fun _ _ _ _ _ _ us hl=>match us,hl with | [_,_],_=>rfl) rfl rfl (by decide) (fun fa cdv A outer s H E hr=>
  (Zj (Zw (i:=2) sc_greater_by_one.nd rfl (Or.inl rfl) JG)
  (Zj (GH Nj (Jb PassesOwn.never rfl (Ni (pv 1)) (XM (n:=2) rfl (ZQ (Zv (i:=3) sc_greater_by_one.nd rfl (Or.inl rfl)) (ZQ (Zv (i:=4) sc_greater_by_one.nd rfl (Or.inl rfl)) Xe))) (Zu (X0 PassesOwn.never rfl (Yl rfl B.range (Zc (ZG Yg YV rfl B.len (by decide +kernel) (Zc (Zd (pv 0)) Zf)) Zf)) (Zv (i:=5) sc_greater_by_one.nd rfl (Or.inl rfl)) (Zj (Zw (i:=6) sc_greater_by_one.nd rfl (Or.inl rfl) (Zn C_one_at (hr.mono (by decide)) rfl (Zc (Zd (pv 0)) (Zc (Zd (pv 5)) Zf))))
  (Zu (Kp (Wu (Mj (Fx hr) (pv 2) (Zx (VM.ve (Zn C_settle (hr.mono (by decide)) rfl (Zc (Zd (pv 0)) (Zc (VM.ve (Zn C_minus (hr.mono (by decide)) rfl (Zc (Zd (pv 3)) (Zc (Zd (pv 6)) Zf)))) (Zc (Sr rfl Z_BASE_spare) Zf))))) Zi) (VM.ve (Zn C_plus (hr.mono (by decide)) rfl (Zc (Zd (pv 4)) (Zc (Zd (pv 6)) Zf)))) ⟨rfl,rfl,rfl,rfl⟩)))))))))
  (Zu (P7 (pv 2))))))
abbrev WU:Stmt:=V7 36
theorem sc_least_taking:ZH (["web","purse","settled","takings"]:List Str) (["web","purse"]:List Str) (Zp WU):=⟨rfl,rfl,rfl,by decide +kernel,rfl,by decide +kernel,by decide +kernel⟩
theorem S6(Df:Def K mg "least_taking" WU)(B:V4 mg)(Z_BASE_spare:EK mg "BASE_spare" 0)(C_settle:YF P w K mg base "settle" (["web","purse","base"]:List Str) (Yz K Yy 3) 5)(C_greater_by_one:YF P w K mg base "greater_by_one" (["web","takings"]:List Str) (Yz K Yq 2) 6):YF P w K mg base "least_taking" (["web","purse"]:List Str) (Yz K YY 2) 7:=
 Z3 (O:=[]) (k:=6) 4 XX Df sc_least_taking (fun _ _ _ _ _ _ us hl=>match us,hl with | [_,_],_=>rfl) rfl rfl (by decide) (fun fa cdv A outer s H E hr=>
  (Zj (Zw (i:=2) sc_least_taking.nd rfl (Or.inl rfl) (VE.pure (Zx (VM.ve (Zn C_settle (hr.mono (by decide)) rfl (Zc (Zd (pv 0)) (Zc (Zd (pv 1)) (Zc (Sr rfl Z_BASE_spare) Zf))))) Zi)))
  (Zj (Zw (i:=3) sc_least_taking.nd rfl (Or.inl rfl) (Ih (Nat.lt_of_succ_lt (Fx hr)) (Zd (pv 2)) (Wt Gv Gw (Td (Zc Zi Zf)) (ZG Yg YV rfl B.len (by decide +kernel) (Zc (Zd (pv 0)) Zf)))))
  (Zj (R3 PassesOwn.never (Fz (ZG (Po rfl) Lw rfl B.min (by decide +kernel) (Zc (Nk GD (["left"]:List Str) ([]:List Str) [] rfl (GJ (pv 3)) (by kernel_rfl) (fun _ _ _ _ _=>(Zv (i:=0) (show((["left"]:List Str)++([]:List Str)).Nodup by decide +kernel) rfl (Or.inl rfl) (.inr rfl))) (fun _ _ _ _ _=>Z6) (fun _ _ _ _ _=>(Zx (Zd (pv 0)) (Sr rfl Z_BASE_spare)))) Zf)) Zi) (Zu (Zw (i:=3) sc_least_taking.nd rfl (Or.inl rfl) (Zn C_greater_by_one (hr.mono (by decide)) rfl (Zc (Zd (pv 0)) (Zc (Zd (pv 3)) Zf))))))
  (Zu (ZX (VE.pure (Zx (Nk Nj (["left","taking"]:List Str) ([]:List Str) [] rfl (Ni (pv 3)) (by kernel_rfl) (fun _ _ _ _ _=>(XM (n:=2) rfl (ZQ (Zv (i:=0) (show((["left","taking"]:List Str)++([]:List Str)).Nodup by decide +kernel) rfl (Or.inl rfl) (.inr rfl)) (ZQ (Zv (i:=1) (show((["left","taking"]:List Str)++([]:List Str)).Nodup by decide +kernel) rfl (Or.inl rfl) (.inr rfl)) Xe)))) (fun _ _ _ _ _=>(P6 (SQ (Zx (Zd (pv 0)) (Sr rfl Z_BASE_spare)) Zi))) (fun _ _ _ _ _=>(Zd (pv 1)))) Zi))))))))
abbrev Uo:Stmt:=V7 31
theorem sc_m_cleared:ZH (["web","purse","told"]:List Str) (["web","purse"]:List Str) (Zp Uo):=⟨rfl,rfl,rfl,by decide +kernel,rfl,by decide +kernel,by decide +kernel⟩
theorem Os(Df:Def K mg "cleared" Uo)(B:V4 mg)(Z_BASE_clear:EK mg "BASE_clear" 0)(C_settle:YF P w K mg base "settle" (["web","purse","base"]:List Str) (Yz K Yy 3) 5):YF P w K mg base "cleared" (["web","purse"]:List Str) (Yz K XG 2) 6:=
 Z3 (O:=[2]) (k:=5) 3 XF Df sc_m_cleared (fun _ _ _ _ _ _ us hl=>match us,hl with | [_,_],_=>rfl) rfl rfl (by decide) (fun fa cdv A outer s H E hr=>
  (Zj (Zw (i:=2) sc_m_cleared.nd rfl (Or.inl rfl) (Zn C_settle (hr.mono (by decide)) rfl (Zc (Zd (pv 0)) (Zc (Zd (pv 1)) (Zc (Sr rfl Z_BASE_clear) Zf)))))
  (Zj (U3 (Fz (Zx (Zx (Zd (pv 2)) Zi) (Sr rfl Z_BASE_clear)) Zi) (Zu (Tf (a:=0) (b:=1) (U7 (Z9 Jx (Z9 (Uc ix_tup (pv 2) Zi (fun _ _=>rfl)) (Z9 (Uc ix_tup (pv 2) Zi (fun _ _=>rfl)) XB)))))) X8)
  (Zu (Tf (a:=0) (b:=2) (U7 (Z9 Jx (Z9 (Uc ix_tup (pv 2) Zi (fun _ _=>rfl)) (Z9 (Uc ix_tup (pv 2) Zi (fun _ _=>rfl)) XB)))))))))
abbrev Tg:Stmt:=V7 35
theorem sc_searched:ZH (["web","purse","taking","never"]:List Str) (["web","purse"]:List Str) (Zp Tg):=⟨rfl,rfl,rfl,by decide +kernel,rfl,by decide +kernel,by decide +kernel⟩
theorem Nm(Df:Def K mg "searched" Tg)(B:V4 mg)(C_least_taking:YF P w K mg base "least_taking" (["web","purse"]:List Str) (Yz K YY 2) 7)(C_m_cleared:YF P w K mg base "cleared" (["web","purse"]:List Str) (Yz K XG 2) 6)(C_minus:YF P w K mg base "minus" (["one","other"]:List Str) (Yz K Y2 2) 1)(C_total:YF P w K mg base "total" (["purse"]:List Str) (Yz K YQ 1) 1):YF P w K mg base "searched" (["web","purse"]:List Str) (Yz K X2 2) 8:=
 Z3 (O:=[3]) (k:=7) 4 VU Df sc_searched (fun _ _ _ _ _ _ us hl=>match us,hl with | [_,_],_=>rfl) rfl rfl (by decide) (fun fa cdv A outer s H E hr=>
  (Zj (Zw (i:=2) sc_searched.nd rfl (Or.inl rfl) (Zn C_least_taking (hr.mono (by decide)) rfl (Zc (Zd (pv 0)) (Zc (Zd (pv 1)) Zf))))
  (Zj (Zw (i:=3) sc_searched.nd rfl (Or.inl rfl) (Zn C_m_cleared (hr.mono (by decide)) rfl (Zc (Zd (pv 0)) (Zc (VM.ve (Zn C_minus (hr.mono (by decide)) rfl (Zc (Zd (pv 1)) (Zc (Zd (pv 2)) Zf)))) Zf))))
  (Zu (Tf (a:=1) (b:=2) (U7 (Z9 (Yi (VM.ve (Zn C_total (hr.mono (by decide)) rfl (Zc (Zd (pv 2)) Zf))) Zi) (Z9 (Uc ix_tup (pv 3) Zi (fun _ _=>rfl)) (Z9 (Uc ix_tup (pv 3) Zi (fun _ _=>rfl)) XB)))))))))
abbrev Qt:Stmt:=V7 17
theorem Kz:ZH (["web","purse"]:List Str) (["web","purse"]:List Str) (Zp Qt):=⟨rfl,rfl,rfl,by decide +kernel,rfl,by decide +kernel,by decide +kernel⟩
theorem KA(Df:Def K mg "turned" Qt)(B:V4 mg)(C_ties_at:YF P w K mg base "ties_at" (["web","house"]:List Str) (Yz K Xo 2) 1):YF P w K mg base "turned" (["web","purse"]:List Str) (Yz K Wc 2) 2:=
 Z3 (O:=[]) (k:=1) 2 Qj Df Kz (fun _ _ _ _ _ _ us hl=>match us,hl with | [_,_],_=>rfl) rfl rfl (by decide) (fun fa cdv A outer s H E hr=>
  (Zu (ZX (VE.pure (ZZ ZJ Yj rfl B.tuple (by decide +kernel) (Zc (YL (["house","coins"]:List Str) (["web"]:List Str) [0] rfl (VF false rfl B.enumerate (Zc (Zd (pv 1)) Zf)) (by kernel_rfl) (fun _ _ _ _ _=>(XM (n:=2) rfl (ZQ (Zv (i:=0) (show((["house","coins"]:List Str)++(["web"]:List Str)).Nodup by decide +kernel) rfl (Or.inl rfl) (.inr rfl)) (ZQ (Zv (i:=1) (show((["house","coins"]:List Str)++(["web"]:List Str)).Nodup by decide +kernel) rfl (Or.inl rfl) (.inr rfl)) Xe)))) (fun _ _ _ _ _=>Z6) (fun _ _ _ _ _=>(Yi (Yi (VM.ve (Zn C_ties_at (hr.mono (by decide)) rfl (Zc (Zd (pv 2)) (Zc (Zd (pv 0)) Zf)))) Zi) (Zd (pv 1))))) Zf))))))
abbrev Ot:Stmt:=V7 34
theorem Iz:ZH (["web","purse"]:List Str) (["web","purse"]:List Str) (Zp Ot):=⟨rfl,rfl,rfl,by decide +kernel,rfl,by decide +kernel,by decide +kernel⟩
theorem IA(Df:Def K mg "spare" Ot)(B:V4 mg)(C_total:YF P w K mg base "total" (["purse"]:List Str) (Yz K YQ 1) 1)(C_loops:YF P w K mg base "loops" (["web"]:List Str) (Yz K Xy 1) 2)(C_searched:YF P w K mg base "searched" (["web","purse"]:List Str) (Yz K X2 2) 8)(C_turned_about:YF P w K mg base "turned_about" (["web","purse","told"]:List Str) (Yz K XW 3) 3)(C_turned:YF P w K mg base "turned" (["web","purse"]:List Str) (Yz K Wc 2) 2):YF P w K mg base "spare" (["web","purse"]:List Str) (Yz K Xh 2) 9:=
 Z3 (O:=[]) (k:=8) 2 UQ Df Iz (fun _ _ _ _ _ _ us hl=>match us,hl with | [_,_],_=>rfl) rfl rfl (by decide) (fun fa cdv A outer s H E hr=>
  (Zj (U3 (SQ (VM.ve (Zn C_total (hr.mono (by decide)) rfl (Zc (Zd (pv 1)) Zf))) (VM.ve (Zn C_loops (hr.mono (by decide)) rfl (Zc (Zd (pv 0)) Zf)))) (Zu (ZX (Zn C_searched (hr.mono (by decide)) rfl (Zc (Zd (pv 0)) (Zc (Zd (pv 1)) Zf))))) X8)
  (Zu (ZX (Zn C_turned_about (hr.mono (by decide)) rfl (Zc (Zd (pv 0)) (Zc (Zd (pv 1)) (Zc (VM.ve (Zn C_searched (hr.mono (by decide)) rfl (Zc (Zd (pv 0)) (Zc (VM.ve (Zn C_turned (hr.mono (by decide)) rfl (Zc (Zd (pv 0)) (Zc (Zd (pv 1)) Zf)))) Zf)))) Zf))))))))
abbrev SC:Stmt:=V7 47
theorem MC:ZH (["_law_web_here"]:List Str) (["_law_web_here"]:List Str) (Zp SC):=⟨rfl,rfl,rfl,by decide +kernel,rfl,by decide +kernel,by decide +kernel⟩
theorem MD(Df:Def K mg "_law_loops" SC)(B:V4 mg):YF P w K mg base "_law_loops" (["_law_web_here"]:List Str) (Yz K Xb 1) 1:=
 Z3 (O:=[]) (k:=0) 1 UR Df MC (fun _ _ _ _ _ _ us hl=>match us,hl with | [_],_=>rfl) rfl rfl (by decide) (fun fa cdv A outer s H E hr=>
  (Zu (ZX (VE.pure (Z4 (Yi (Wx (ZG (YH rfl) Wn rfl B.sum (by decide +kernel) (Zc (YL (["_law_row"]:List Str) ([]:List Str) [] rfl (N2 (Zd (pv 0))) (by kernel_rfl) (fun _ _ _ _ _=>(Zv (i:=0) (show((["_law_row"]:List Str)++([]:List Str)).Nodup by decide +kernel) rfl (Or.inl rfl) (.inr rfl))) (fun _ _ _ _ _=>Z6) (fun _ _ _ _ _=>(ZG (YH rfl) Wn rfl B.sum (by decide +kernel) (Zc (Zd (pv 0)) Zf)))) Zf)) Zi) (ZG Yg YV rfl B.len (by decide +kernel) (Zc (Zd (pv 0)) Zf))) Zi)))))
abbrev IB:Stmt:=V7 49
theorem sc_law:ZH (["_law_script","_law_web_here","_law_purse_here","_law_coins","_law_lends","_law_house","_law_more","_law_fewer"]:List Str) (["_law_script"]:List Str) (Zp IB):=⟨rfl,rfl,rfl,by decide +kernel,rfl,by decide +kernel,by decide +kernel⟩
theorem EQ{ff:Addr}{fd:FuncData}(Fn:Fun K "law" "law" IB ff fd)(B:V4 mg)(C_p_web:YF P w K mg base "_law_web" (["_law_script","_law_sizes","_law_most"]:List Str) (Yz K UP 3) 2)(C_p_purse:YF P w K mg base "_law_purse" (["_law_script","_law_web_here","_law_at_here"]:List Str) (Yz K WE 3) 2)(C_spare:YF P w K mg base "spare" (["web","purse"]:List Str) (Yz K Xh 2) 9)(C_p_loops:YF P w K mg base "_law_loops" (["_law_web_here"]:List Str) (Yz K Xb 1) 1)(C_l_pick:YF P w K mg base "_law_pick" (["_law_cell","_law_salt","_law_many"]:List Str) (Yz K Zt 3) 1)(C_l_at:YF P w K mg base "_law_at" (["_law_script","_law_k"]:List Str) (Yz K ZD 2) 1)(C_l_lend:YF P w K mg base "_law_lend" (["_law_web_here","_law_purse_here","_law_script"]:List Str) (Yz K We 3) 1):SX P w K mg base Lf 10 ff fd (["_law_script"]:List Str) (Yz K D_law 1):=
 EF (O:=[]) (k:=9) 8 Ly Fn sc_law rfl rfl (by decide) (fun fa cdv A outer s H E hr=>
  (Zj (Zw (i:=1) sc_law.nd rfl (Or.inl rfl) (Zn C_p_web (hr.mono (by decide)) rfl (Zc (Zd (pv 0)) (Zc (RV (Zc Zi (Zc Zi (Zc Zi (Zc Zi (Zc Zi (Zc Zi Zf))))))) (Zc Zi Zf)))))
  (Zj (Zw (i:=2) sc_law.nd rfl (Or.inl rfl) (Zn C_p_purse (hr.mono (by decide)) rfl (Zc (Zd (pv 0)) (Zc (Zd (pv 1)) (Zc Zi Zf)))))
  (Zj (Zw (i:=3) sc_law.nd rfl (Or.inl rfl) (VE.pure (Zx (VM.ve (Zn C_spare (hr.mono (by decide)) rfl (Zc (Zd (pv 1)) (Zc (Zd (pv 2)) Zf)))) Zi)))
  (Zj (U3 (VW.vt (PZ (SQ (ZG (YH rfl) Wn rfl B.sum (by decide +kernel) (Zc (Zd (pv 2)) Zf)) Zi) (Rk (O6 hr.units (Zd (pv 3)) (Tc Zi))))) (Zu (ZX (VE.pure Jw))) X8)
  (Zj (U3 (VW.vt (PZ (Fy (ZG (YH rfl) Wn rfl B.sum (by decide +kernel) (Zc (Zd (pv 2)) Zf)) (Yi (Se Zi (VM.ve (Zn C_p_loops (hr.mono (by decide)) rfl (Zc (Zd (pv 1)) Zf)))) Zi)) (Rk (O6 hr.units (Zd (pv 3)) (Yi (ZG (YH rfl) Wn rfl B.sum (by decide +kernel) (Zc (Zd (pv 2)) Zf)) (VM.ve (Zn C_p_loops (hr.mono (by decide)) rfl (Zc (Zd (pv 1)) Zf)))))))) (Zu (ZX (VE.pure Jw))) X8)
  (Zj (VN (["_law_house"]:List Str) (["_law_script"]:List Str) [0] (i:=4) sc_law.nd rfl rfl rfl (Yl rfl B.range (Zc (ZG Yg YV rfl B.len (by decide +kernel) (Zc (Zd (pv 1)) Zf)) Zf)) (by kernel_rfl) (fun _ _ _ _ _=>(Zv (i:=0) (show((["_law_house"]:List Str)++(["_law_script"]:List Str)).Nodup by decide +kernel) rfl (Or.inl rfl) (.inr rfl))) (fun _ _ _ _ _=>Z6) (fun _ _ _ _ _=>(VE.pure (Yi (VM.ve (Zn C_l_pick (hr.mono (by decide)) rfl (Zc (VM.ve (Zn C_l_at (hr.mono (by decide)) rfl (Zc (Zd (pv 1)) (Zc (Z4 Zi (Zd (pv 0))) Zf)))) (Zc Zi (Zc Zi Zf))))) Zi))))
  (Zj (U3 (O6 hr.units (Zx (VM.ve (Zn C_spare (hr.mono (by decide)) rfl (Zc (Zd (pv 1)) (Zc (VM.ve (Zn C_l_lend (hr.mono (by decide)) rfl (Zc (Zd (pv 1)) (Zc (Zd (pv 2)) (Zc (Zd (pv 4)) Zf))))) Zf)))) Zi) (Zd (pv 3))) (Zu (ZX (VE.pure Jw))) X8)
  (Zj (Zw (i:=5) sc_law.nd rfl (Or.inl rfl) (Zn C_l_pick (hr.mono (by decide)) rfl (Zc (VM.ve (Zn C_l_at (hr.mono (by decide)) rfl (Zc (Zd (pv 0)) (Zc Zi Zf)))) (Zc Zi (Zc (ZG Yg YV rfl B.len (by decide +kernel) (Zc (Zd (pv 1)) Zf)) Zf)))))
  (Zj (Zw (i:=6) sc_law.nd rfl (Or.inl rfl) (VE.pure (Zx (VM.ve (Zn C_spare (hr.mono (by decide)) rfl (Zc (Zd (pv 1)) (Zc (Wt UE UF (Wt UE UF (WC (Zd (pv 2)) X6 (X7 (Zd (pv 5)))) (Td (Zc (Z4 (Zx (Zd (pv 2)) (Zd (pv 5))) Zi) Zf))) (WC (Zd (pv 2)) (X7 (Z4 (Zd (pv 5)) Zi)) X6)) Zf)))) Zi)))
  (Zj (Zw (i:=7) sc_law.nd rfl (Or.inl rfl) (VE.pure (Zx (VM.ve (Zn C_spare (hr.mono (by decide)) rfl (Zc (Zd (pv 1)) (Zc (Wt UE UF (Wt UE UF (WC (Zd (pv 2)) X6 (X7 (Zd (pv 5)))) (Td (Zc (Yi (Zx (Zd (pv 2)) (Zd (pv 5))) Zi) Zf))) (WC (Zd (pv 2)) (X7 (Z4 (Zd (pv 5)) Zi)) X6)) Zf)))) Zi)))
  (Zu (ZX (VE.pure (P0 (O7 M7 M7 (QT _) (QT _) (Zd (pv 3)) (Zd (pv 6)) (Z4 (Zd (pv 3)) Zi)) (P0 (O7 M7 M7 (QT _) (QT _) (Yi (Zd (pv 3)) Zi) (Zd (pv 7)) (Zd (pv 3))) (JC (DI (Zd (pv 7)) (Tc Zi)))))))))))))))))))
end
end PW
namespace PW
open L2 VL
theorem Qu{W:List (List Int)}{h:Nat}(hh:h<W.length):Xo [wP W,.int (h:Int)]=some (.int (ZB W h).sum):=by
 simp[Xo,So,YU,Yv,Ts hh]
theorem Qv(l:List Int):YQ [pP l]=some (.int l.sum):=by
 simp[YQ,Od,YU,Yv]
def W4(a b:List Int):List Int:=(List.range a.length).map fun i=>Zl a i+Zl b i
def YB(a b:List Int):List Int:=(List.range a.length).map fun i=>Zl a i-Zl b i
theorem Lz{a b:List Int}(h:b.length=a.length)(hl:a.length<=1000):Wq [pP a,pP b]=some (pP (W4 a b)):=by
 have hz:Te (iL a) (iL b)=(List.range a.length).map fun(i:Nat)=>.tup [.int (Zl a i),.int (Zl b i)]:=by
  rw[VQ _ _ (by simpa using h),List.length_map]
  apply List.map_congr_left
  intro i hi;have hi:=List.mem_range.mp hi;rw[Vc a i hi,Vc b i (by omega)]
 have hc:Zy 2 [] (U0 false false [Za 0,Za 1]) (.many [0,1]) ZE (Zh ZL (Za 0) (Za 1)) [some (pP a),some (pP b)]=some (.lst (iL (W4 a b))):=by
  rw[Z2 (List.range a.length) (fun(i:Nat)=>.tup [.int (Zl a i),.int (Zl b i)]) (fun i=>.int (Zl a i+Zl b i)) (by simp[hz]) (by simp;omega) (fun i _=>⟨_,rfl,rfl,by simp[setAll,Yc]⟩)]
  simp[W4]
 simp[Wq,Mg,YU,Yv,hc]
theorem Nn{a b:List Int}(h:b.length=a.length)(hl:a.length<=1000):Y2 [pP a,pP b]=some (pP (YB a b)):=by
 have hz:Te (iL a) (iL b)=(List.range a.length).map fun(i:Nat)=>.tup [.int (Zl a i),.int (Zl b i)]:=by
  rw[VQ _ _ (by simpa using h),List.length_map]
  apply List.map_congr_left
  intro i hi;have hi:=List.mem_range.mp hi;rw[Vc a i hi,Vc b i (by omega)]
 have hc:Zy 2 [] (U0 false false [Za 0,Za 1]) (.many [0,1]) ZE (Zh ZP (Za 0) (Za 1)) [some (pP a),some (pP b)]=some (.lst (iL (YB a b))):=by
  rw[Z2 (List.range a.length) (fun(i:Nat)=>.tup [.int (Zl a i),.int (Zl b i)]) (fun i=>.int (Zl a i-Zl b i)) (by simp[hz]) (by simp;omega) (fun i _=>⟨_,rfl,rfl,by simp[setAll,Yc]⟩)]
  simp[YB]
 simp[Y2,Oe,YU,Yv,hc]
theorem TN(l:List Int):W9 (iL l)=(List.range l.length).map fun(i:Nat)=>.tup [.int (i:Int),.int (Zl l i)]:=by
 rw[Uj,List.length_map]
 apply List.map_congr_left
 intro i hi;rw[Vc l i (List.mem_range.mp hi)]
def Wf(W:List (List Int))(S:List Int)(h:Nat):Int:=((List.range W.length).map fun i=>Ya W h i*(Zl S i-Zl S h)).sum
theorem GT{W:List (List Int)}{S:List Int}{h:Nat}(ok:ZF W)(hh:h<W.length)(hs:S.length=W.length):Sq [wP W,pP S,.int (h:Int)]=some (.int (Wf W S h)):=by
 have hr:=ok.sq h hh;have hf:=ok.few
 have hc:Zy 2 [1,2] (Xj false [Zh ZS (Za 0) (Za 2)]) (.many [0,1]) ZE (Zh UW (Za 1) (Zh ZP (Zh ZS (Za 2) (Za 0)) (Zh ZS (Za 2) (Za 3)))) [some (wP W),some (pP S),some (.int (h:Int))]=some (.lst (iL ((List.range W.length).map fun i=>Ya W h i*(Zl S i-Zl S h)))):=by
  rw[Z2 (List.range W.length) (fun(i:Nat)=>.tup [.int (i:Int),.int (Ya W h i)]) (fun i=>.int (Ya W h i*(Zl S i-Zl S h))) (by simp[Ts hh,TN,hr];intro a _;rfl) (by simp;omega) (fun i hi=>?_)]
  ·simp
  ·have hi:=List.mem_range.mp hi
   refine⟨_,rfl,rfl,?_⟩
   have b1:=ok.lo h i hh hi;have b2:=ok.hi h i hh hi
   have hm:∀j,CMul (Ya W h i) j:=fun j=>EJ (by omega) (by omega)
   simp[setAll,Yc,XC (show i<S.length by omega),XC (show h<S.length by omega),hm]
 simp[Sq,Mf,YU,Yv,hc,Wf,-List.map_map]
def ZA(W:List (List Int))(D S:List Int):List Int:=(List.range D.length).map fun h=>Zl D h+Wf W S h
theorem IC{W:List (List Int)}{D S:List Int}(ok:ZF W)(hd:D.length=W.length)(hs:S.length=W.length):Uk [wP W,pP D,pP S]=some (pP (ZA W D S)):=by
 have hf:=ok.few
 have hc:Zy 2 [0,2] (Xj false [Za 1]) (.many [0,1]) ZE (Zh ZL (Za 1) (Ze Sq [Za 2,Za 3,Za 0])) [some (wP W),some (pP D),some (pP S)]=some (.lst (iL (ZA W D S))):=by
  rw[Z2 (List.range D.length) (fun(i:Nat)=>.tup [.int (i:Int),.int (Zl D i)]) (fun h=>.int (Zl D h+Wf W S h)) (by simp[TN]) (by simp;omega) (fun i hi=>?_)]
  ·simp[ZA]
  ·have hi:=List.mem_range.mp hi
   refine⟨_,rfl,rfl,?_⟩
   simp[setAll,Yc,GT ok (show i<W.length by omega) hs]
 simp[Uk,J4,YU,Yv,hc]
def YR(W:List (List Int))(D:List Int):List Int:=(List.range D.length).map fun h=>(ZB W h).sum-2-Zl D h
theorem KB{W:List (List Int)}{D:List Int}(hd:D.length=W.length)(hl:D.length<=1000):Wc [wP W,pP D]=some (pP (YR W D)):=by
 have hc:Zy 2 [0] (Xj false [Za 1]) (.many [0,1]) ZE (Zh ZP (Zh ZP (Ze Xo [Za 2,Za 0]) (eC (.int 2))) (Za 1)) [some (wP W),some (pP D)]=some (.lst (iL (YR W D))):=by
  rw[Z2 (List.range D.length) (fun(i:Nat)=>.tup [.int (i:Int),.int (Zl D i)]) (fun h=>.int ((ZB W h).sum-2-Zl D h)) (by simp[TN]) (by simp;omega) (fun i hi=>?_)]
  ·simp[YR]
  ·have hi:=List.mem_range.mp hi
   refine⟨_,rfl,rfl,?_⟩
   simp[setAll,Yc,Qu (show i<W.length by omega)]
 simp[Wc,Qj,YU,Yv,hc]
def Ws(W:List (List Int))(a b:Nat):List (List Int):=(List.range (Ya W a b).toNat).map fun(t:Nat)=>[(a:Int),(b:Int),(t:Int)]
def U5(W:List (List Int))(a:Nat):List (List Int):=(List.range (W.length-(a+1))).flatMap fun j=>Ws W a (a+1+j)
def Y0(W:List (List Int)):List (List Int):=(List.range W.length).flatMap (U5 W)
theorem Vv{α:Type}(f:Nat->List α)(i:Nat):(List.range (i+1)).flatMap f=(List.range i).flatMap f++f i:=by rw[List.range_succ,List.flatMap_append];simp
theorem ME{W:List (List Int)}(ok:ZF W){a b:Nat}(ha:a<W.length)(hb:b<W.length):(Ws W a b).length<=9:=by
 have:=ok.hi a b ha hb
 unfold Ws;simp;omega
theorem KC{W:List (List Int)}(ok:ZF W){a b:Nat}(ha:a<W.length)(hb:b<W.length)(t:Option PV):Zy 1 [2,4] (ZT [Zh ZS (Za 3) (Za 4)]) (.one 0) ZE (eP (Xv [Za 1,Za 2,Za 0])) [some (wP W),t,some (.int (a:Int)),some (pP (ZB W a)),some (.int (b:Int))]=some (.lst ((Ws W a b).map pP)):=by
 have hr:=ok.sq a ha;have b1:=ok.lo a b ha hb;have b2:=ok.hi a b ha hb
 rw[Z2 (List.range (Ya W a b).toNat) (fun(i:Nat)=>.int (i:Int)) (fun(t:Nat)=>pP [(a:Int),(b:Int),(t:Int)]) ?_ (by simp;omega) (fun i hi=>⟨_,rfl,rfl,by simp[Yc]⟩)]
 ·simp[Ws]
 ·exact Yt (by simp[XC (show b<(ZB W a).length by omega)];show Ya W a b=max (Ya W a b) 0;omega) (by omega)
theorem MF{W:List (List Int)}(ok:ZF W){a:Nat}(ha:a<W.length)(acc:List (List Int))(hacc:acc.length<=1000)(b0:Option PV) :
  ∃b',Wp (.one 4) (VJ 1 (Zy 1 [2,4] (ZT [Zh ZS (Za 3) (Za 4)]) (.one 0) ZE (eP (Xv [Za 1,Za 2,Za 0])))) (W3 ((a:Int)+1) (W.length-(a+1))) [some (wP W),some (.lst (acc.map pP)),some (.int (a:Int)),some (pP (ZB W a)),b0]
   = some (.nx [some (wP W),some (.lst ((acc++U5 W a).map pP)),some (.int (a:Int)),some (pP (ZB W a)),b'])/\(U5 W a).length<=63:=by
 have hf:=ok.few
 obtain⟨s',h1,b',h2,h3⟩:=YO (T:=.one 4) (fb:=VJ 1 (Zy 1 [2,4] (ZT [Zh ZS (Za 3) (Za 4)]) (.one 0) ZE (eP (Xv [Za 1,Za 2,Za 0])))) (ls:=W3 ((a:Int)+1) (W.length-(a+1))) (s:=[some (wP W),some (.lst (acc.map pP)),some (.int (a:Int)),some (pP (ZB W a)),b0])
  (fun j st=>∃b',st=[some (wP W),some (.lst ((acc++(List.range j).flatMap fun j=>Ws W a (a+1+j)).map pP)),some (.int (a:Int)),some (pP (ZB W a)),b']/\((List.range j).flatMap fun j=>Ws W a (a+1+j)).length<=9*j)
  ⟨b0,by simp,by simp⟩ (fun j l st hl hJ=>by
   obtain⟨hj,rfl⟩:=Qd hl
   obtain⟨b',rfl,hlen⟩:=hJ
   have hb:a+1+j<W.length:=by omega
   have e1:(a:Int)+1+(j:Int)=((a+1+j:Nat):Int):=by omega
   rw[e1]
   have hc:=KC ok ha hb (some (.lst ((acc++(List.range j).flatMap fun j=>Ws W a (a+1+j)).map pP)))
   have hl2:=ME ok ha hb
   have hg:(acc.length+((List.range j).flatMap fun j=>Ws W a (a+1+j)).length)+(Ws W a (a+1+j)).length<=10000:=by omega
   refine⟨_,_,rfl,?_,some (.int ((a+1+j:Nat):Int)),rfl,?_⟩
   ·refine(Me hc rfl (by rw[List.length_map,List.length_map,List.length_append];exact hg)).trans ?_
    simp[Vv]
   ·rw[Vv,List.length_append];omega)
 rw[J1] at h2 h3
 refine⟨b',?_,?_⟩
 ·rw[h1,h2];rfl
 ·have:U5 W a=(List.range (W.length-(a+1))).flatMap fun j=>Ws W a (a+1+j):=rfl
  rw[this];omega
theorem MG{W:List (List Int)}(ok:ZF W):UH [wP W]=some (.lst ((Y0 W).map pP))/\(Y0 W).length<=441:=by
 have hf:=ok.few
 have enumW:W9 (W.map pP)=(List.range W.length).map fun(i:Nat)=>.tup [.int (i:Int),pP (ZB W i)]:=by
  rw[Uj,List.length_map]
  apply List.map_congr_left
  intro i hi;rw[J2 W i (List.mem_range.mp hi)]
 obtain⟨s',h1,x,y,z,h2,h3⟩:=YO (T:=.many [2,3]) (fb:=XQ [1] (W8 [Zh ZL (Za 2) (eC (.int 1)),Ze Yb [Za 0]]) (.one 4) (VJ 1 (Zy 1 [2,4] (ZT [Zh ZS (Za 3) (Za 4)]) (.one 0) ZE (eP (Xv [Za 1,Za 2,Za 0]))))) (ls:=W9 (W.map pP)) (s:=[some (wP W),some (.lst []),none,none,none])
  (fun i st=>∃x y z,st=[some (wP W),some (.lst (((List.range i).flatMap (U5 W)).map pP)),x,y,z]/\((List.range i).flatMap (U5 W)).length<=63*i)
  ⟨none,none,none,by simp,by simp⟩ (fun i l st hl hJ=>by
   obtain⟨x,y,z,rfl,hlen⟩:=hJ
   have hi:i<W.length:=by
    have:=(List.getElem?_eq_some_iff.mp hl).1
    rw[Uy,List.length_map] at this;exact this
   rw[enumW,List.getElem?_map,List.getElem?_range hi] at hl;cases hl
   obtain⟨b',e1,e2⟩:=MF ok hi ((List.range i).flatMap (U5 W)) (by omega) z
   refine⟨_,_,rfl,?_,some (.int (i:Int)),some (pP (ZB W i)),b',rfl,?_⟩
   ·have hr:W8 [Zh ZL (Za 2) (eC (.int 1)),Ze Yb [Za 0]] (YG [1] [some (wP W),some (.lst (((List.range i).flatMap (U5 W)).map pP)),some (.int (i:Int)),some (pP (ZB W i)),z])=some (W3 ((i:Int)+1) (W.length-(i+1))):=by
     rw[Sl (i:=(i:Int)+1) (j:=(W.length:Int)) (by simp[YG]) (by simp[YG]) ⟨by omega,by omega⟩ ⟨by omega,by omega⟩]
     congr 2;omega
    show XQ _ _ _ _ [some (wP W),_,some (.int (i:Int)),some (pP (ZB W i)),z]=_
    rw[O9,hr];simp only[Option.bind_some];rw[e1,Vv]
   ·rw[Vv,List.length_append];omega)
 rw[Uy,List.length_map] at h2 h3
 refine⟨?_,by have:Y0 W=(List.range W.length).flatMap (U5 W):=rfl;rw[this];omega⟩
 have hs:YU 5 UG [wP W]=some (.lst ((Y0 W).map pP)):=by
  unfold UG;simp only[YU,Yv,List.map_cons,List.map_nil,List.length_cons,List.length_nil,Qb,Zm,JV,P8,Option.map_some,Option.bind_some];rw[O9];simp only[Kg]
  have:(YG [1] (([some (wP W)]++List.replicate (5-(0+1)) none:ZU).set 1 (some (.lst []))))=[some (wP W),none,none,none,none]:=rfl
  rw[this];simp only[R9,List.getElem?_cons_zero,Option.join_some,Option.bind_some,EI,Option.map_some]
  show((Wp _ _ (W9 (W.map pP)) [some (wP W),some (.lst []),none,none,none]).bind _).bind Xn=_
  rw[h1,h2];rfl
 exact hs
theorem No{W:List (List Int)}(ok:ZF W):Xy [wP W]=some (.int (((Y0 W).length:Int)-(W.length:Int)+1)):=by
 simp[Xy,Oc,YU,Yv,(MG ok).1]
def tk(e:CW):List Y4:=[.inl (e.1:Int),.inl (e.2.1:Int)]
def Vj(W:List (List Int)):Prop:=∀P:Nat->Prop,(∀a b,a<W.length->b<W.length->0<Ya W a b->(P a↔P b))->∀i j,i<W.length->j<W.length->(P i↔P j)
theorem Qw:∀{l m:List Int},l.Nodup->(∀x∈l,x∈m)->l.length<=m.length
 | [],m,_,_=>Nat.zero_le _
 | x::r,m,nd,h=>by
  have hx:x∈m:=h x (by simp)
  have nd':=List.nodup_cons.mp nd
  have:=Qw (l:=r) (m:=m.erase x) nd'.2 fun y hy=>(List.mem_erase_of_ne (show y≠x from fun z=>nd'.1 (by rw[<-z];exact hy))).mpr (h y (by simp[hy]))
  rw[List.length_erase_of_mem hx] at this;have hp:=List.length_pos_of_mem hx
  rw[List.length_cons];omega
theorem ER{n:Nat}{l:List Int}(nd:l.Nodup)(h:∀x∈l,∃k:Nat,k<n/\x=(k:Int))(hl:l.length=n){j:Nat}(hj:j<n):(j:Int)∈l:=by
 by_cases q:(j:Int)∈l
 ·exact q
 ·have:=Qw (l:=(j:Int)::l) (m:=(List.range n).map fun(k:Nat)=>(k:Int)) (List.nodup_cons.mpr ⟨q,nd⟩) (fun x hx=>by
   rcases List.mem_cons.mp hx with rfl | hx
   ·exact List.mem_map.mpr ⟨j,List.mem_range.mpr hj,rfl⟩
   ·obtain⟨k,hk,rfl⟩:=h x hx
    exact List.mem_map.mpr ⟨k,List.mem_range.mpr hk,rfl⟩)
  rw[List.length_cons,List.length_map,List.length_range] at this;omega
def rL(M:List (List Int)):List PV:=M.map fun r=>.lst (iL r)
theorem MH{M:List (List Int)}{a:Nat}(h:a<M.length):(rL M)[a]?=some (.lst (iL (ZB M a))):=by
 unfold rL
 rw[List.getElem?_map,RQ h];rfl
theorem ID{M:List (List Int)}{a b:Nat}{t:Int}:(rL M).set a (.lst ((iL (ZB M a)).set b (.int t)))=rL (Vq M a b t):=by
 unfold rL Vq;rw[List.map_set]
 show _=(List.map (fun r=>PV.lst (iL r)) M).set a (PV.lst (((ZB M a).set b t).map PV.int))
 rw[List.map_set]
theorem IE(l:List Int)(k:Nat)(x:Int):(iL l).take k++PV.int x::(iL l).drop k=iL (l.take k++x::l.drop k):=by
 show(l.map PV.int).take k++PV.int x::(l.map PV.int).drop k=(l.take k++x::l.drop k).map PV.int
 rw[List.map_append,List.map_cons,List.map_take,List.map_drop]
theorem FI(neg:Bool)(a:Int)(l:List Int):Lj neg (.int a) (.lst (iL l))=some (.bl (if neg then !decide (a∈l) else decide (a∈l))):=by
 unfold Lj
 have c:((iL l).all fun z=>WK 8 z (.int a))=true:=by
  rw[List.all_map,List.all_eq_true]
  intro x _;rfl
 show(some (iL l)).bind _=_
 simp only[Option.bind_some,if_pos c]
 have:decide (PV.int a∈iL l)=decide (a∈l):=decide_eq_decide.mpr (by
  rw[List.mem_map];constructor
  ·rintro⟨x,hx,e⟩;cases e;exact hx
  ·intro h;exact⟨a,h,rfl⟩)
 rw[this]
theorem ZK{f g:XS}{s s1:ZU}(e1:f s=some (.nx s1)):Zs f g s=g s1:=by
 simp only[Qb,e1,Option.bind_some]
theorem Wg(a b:List Int):(W4 a b).length=a.length:=by simp[W4]
theorem ZC(a b:List Int):(YB a b).length=a.length:=by simp[YB]
theorem ZR(W:List (List Int))(D S:List Int):(ZA W D S).length=D.length:=by simp[ZA]
theorem Xw{a b:List Int}{i:Nat}(h:i<a.length):Zl (W4 a b) i=Zl a i+Zl b i:=ZO h
theorem Z7{a b:List Int}{i:Nat}(h:i<a.length):Zl (YB a b) i=Zl a i-Zl b i:=ZO h
theorem Vw{W:List (List Int)}{a b:List Int}{i:Nat}(h:i<a.length):Zl (ZA W a b) i=Zl a i+Wf W b i:=ZO h
theorem XA{a b:List Int}(hl:a.length=b.length)(h:∀i,i<a.length->Zl a i=Zl b i):a=b:=by
 rw[<-Sa a,<-Sa b,hl]
 apply List.map_congr_left
 intro i hi
 exact h i (by rw[hl];exact List.mem_range.mp hi)
theorem WA{W:List (List Int)}(ok:ZF W){i:Nat}(hi:i<W.length):(ZB W i).sum=((List.range W.length).map fun j=>Ya W i j).sum:=by
 rw[<-Rh (ZB W i),ok.sq i hi];rfl
theorem MI{W:List (List Int)}(ok:ZF W):((Y0 W).length:Int)=((List.range W.length).map fun a=>((List.range (W.length-(a+1))).map fun j=>Ya W a (a+1+j)).sum).sum:=by
 have len_flat:∀(f:Nat->List (List Int))(n:Nat),(((List.range n).flatMap f).length:Int)=((List.range n).map fun i=>((f i).length:Int)).sum:=by
  intro f n
  induction n with
  | zero=>rfl
  | succ n ih=>rw[Vv,List.length_append,Yh,<-ih];omega
 unfold Y0;rw[len_flat]
 apply Ys
 intro a ha;unfold U5;rw[len_flat]
 apply Ys
 intro j hj
 have:=ok.lo a (a+1+j) ha (by omega)
 unfold Ws
 rw[List.length_map,List.length_range];omega
theorem Up{W:List (List Int)}(ok:ZF W):((List.range W.length).map fun i=>(ZB W i).sum).sum=2*((Y0 W).length:Int):=by
 rw[MI ok,<-Js (fun i j=>Ya W i j) W.length (fun i j hi hj=>ok.sym i j hi hj) (fun i hi=>ok.dia i hi)]
 apply Ys
 intro i hi
 exact WA ok hi
theorem VY{W:List (List Int)}{a:List Int}(ok:ZF W)(h:a.length=W.length):a.sum+(YR W a).sum=2*(((Y0 W).length:Int)-(W.length:Int)+1)-2:=by
 have e1:(YR W a).sum=((List.range W.length).map fun i=>(ZB W i).sum).sum-2*(W.length:Int)-a.sum:=by
  unfold YR;rw[h,Rf (fun i=>(ZB W i).sum-2) (fun i=>Zl a i),Rf (fun i=>(ZB W i).sum) (fun _=>2),Sb]
  have:((List.range W.length).map fun i=>Zl a i).sum=a.sum:=by rw[<-h];exact Rh a
  rw[this];omega
 rw[e1,Up ok];omega
theorem Vx{n m:Nat}{ix:List Nat}{fi:XL}{ft:XT}{fe:XE}{s:ZU}(g:Nat->Int)(hfi:fi s=some (V6 m))(hm:m<=1000)(h:∀i:Nat,i<m->∃s1,Va (.one 0) (.int (i:Int)) (Yc n ix s)=some s1/\ft s1=some true/\fe s1=some (.int (g i))) :
  Zy n ix fi (.one 0) ft fe s=some (.lst (iL ((List.range m).map g))):=by
 rw[Z2 (List.range m) (fun(i:Nat)=>.int (i:Int)) (fun i=>.int (g i)) hfi (by simp;omega) (fun i hi=>h i (List.mem_range.mp hi))]
 simp
theorem Qx(f g:Nat->Int)(n:Nat):((List.range n).map fun i=>f i+g i).sum=((List.range n).map f).sum+((List.range n).map g).sum:=by
 induction n with
 | zero=>rfl
 | succ n ih=>rw[Yh,Yh,Yh,ih];omega
theorem OX(f:Nat->Nat->Int)(n m:Nat):((List.range n).map fun i=>((List.range m).map fun j=>f i j).sum).sum=((List.range m).map fun j=>((List.range n).map fun i=>f i j).sum).sum:=by
 induction n with
 | zero=>
  have:((List.range m).map fun j=>((List.range 0).map fun i=>f i j).sum).sum=0:=by
   have:=Sb 0 m
   simpa using this
  rw[this];rfl
 | succ n ih=>
  rw[Yh,ih,<-Qx]
  apply Ys
  intro j _;rw[Yh]
theorem KD{W:List (List Int)}{S U T:List Int}{h:Nat}(e:∀i,i<W.length->Zl T i=Zl S i+Zl U i)(hh:h<W.length):Wf W T h=Wf W S h+Wf W U h:=by
 unfold Wf;rw[<-Qx]
 apply Ys
 intro i hi;rw[e i hi,e h hh,<-Int.mul_add]
 congr 1
 omega
theorem Rv{W:List (List Int)}{D S U T:List Int}(hd:D.length=W.length)(e:∀i,i<W.length->Zl T i=Zl S i+Zl U i):ZA W (ZA W D S) U=ZA W D T:=XA (by simp[ZR]) fun i hi=>by
 rw[ZR,ZR] at hi
 rw[Vw (by rw[ZR];exact hi),Vw hi,Vw hi,KD e (by omega)]
 omega
theorem KF{W:List (List Int)}{S T:List Int}{h:Nat}(c:Int)(e:∀i,i<W.length->Zl T i=Zl S i+c)(hh:h<W.length):Wf W T h=Wf W S h:=by
 unfold Wf
 apply Ys
 intro i hi;rw[e i hi,e h hh]
 congr 1
 omega
theorem IF{W:List (List Int)}(ok:ZF W)(S:List Int):((List.range W.length).map fun h=>Wf W S h).sum=0:=by
 have e1:((List.range W.length).map fun h=>Wf W S h).sum=((List.range W.length).map fun i=>((List.range W.length).map fun j=>Ya W i j*Zl S j).sum).sum-((List.range W.length).map fun i=>((List.range W.length).map fun j=>Ya W i j*Zl S i).sum).sum:=by
  rw[<-Rf]
  apply Ys
  intro i _;unfold Wf;rw[<-Rf]
  apply Ys
  intro j _;rw[Int.mul_sub]
 have e2:((List.range W.length).map fun i=>((List.range W.length).map fun j=>Ya W i j*Zl S i).sum).sum=((List.range W.length).map fun i=>((List.range W.length).map fun j=>Ya W i j*Zl S j).sum).sum:=by
  rw[OX]
  apply Ys
  intro i hi
  apply Ys
  intro j hj;rw[ok.sym j i hj hi]
 rw[e1,e2];omega
theorem US{W:List (List Int)}{D S:List Int}(ok:ZF W)(hd:D.length=W.length):(ZA W D S).sum=D.sum:=by
 unfold ZA;rw[Qx,Rh,hd,IF ok,Int.add_zero]
theorem nth_set{l:List Int}{h i:Nat}{v:Int}(hi:i<l.length):Zl (l.set h v) i=if i=h then v else Zl l i:=by
 unfold Zl;rw[List.getD_eq_getElem?_getD,List.getD_eq_getElem?_getD,List.getElem?_set]
 by_cases e:h=i
 ·subst e
  rw[if_pos rfl,if_pos rfl,if_pos hi];rfl
 ·rw[if_neg e,if_neg (Ne.symm e)]
theorem MJ(l:List Int)(k:Nat):Vf (iL l) none (some (k:Int))=iL (l.take k):=by
 unfold Vf;rw[HT.sIx_none,HT.sIx_nat,List.length_map,List.drop_zero,Nat.sub_zero,<-List.map_take]
 congr 1
 by_cases h:k<=l.length
 ·rw[Nat.min_eq_left h]
 ·rw[Nat.min_eq_right (by omega),List.take_of_length_le (Nat.le_refl _),List.take_of_length_le (by omega)]
theorem MK(l:List Int)(k:Nat):Vf (iL l) (some (k:Int)) none=iL (l.drop k):=by
 unfold Vf;rw[HT.sIx_none,HT.sIx_nat,List.length_map,<-List.map_drop,<-List.map_take]
 congr 1
 by_cases h:k<=l.length
 ·rw[Nat.min_eq_left h,List.take_of_length_le (by rw[List.length_drop];omega)]
 ·rw[Nat.min_eq_right (by omega),List.drop_eq_nil_of_le (Nat.le_refl _),List.drop_eq_nil_of_le (by omega)];simp
theorem LA{l:List Int}{i:Nat}(h:i<l.length):Zl l i∈l:=by
 unfold Zl;rw[List.getD_eq_getElem?_getD,List.getElem?_eq_getElem h]
 exact List.getElem_mem h
theorem Ou{l:List Int}{x:Int}(h:x∈l):∃i,i<l.length/\Zl l i=x:=by
 obtain⟨i,hi,e⟩:=List.getElem_of_mem h
 refine⟨i,hi,?_⟩
 unfold Zl
 rw[List.getD_eq_getElem?_getD,List.getElem?_eq_getElem hi,e];rfl
theorem KG{l l':List Int}(c:Int)(hl:l'.length=l.length)(hp:0<l.length)(e:∀i,i<l.length->Zl l' i=Zl l i+c):Xd l'=Xd l+c:=by
 obtain⟨a,b⟩:=UI (l:=l) (List.length_pos_iff.mp hp)
 obtain⟨i,hi,ei⟩:=Ou a
 refine Lv ?_ fun x hx=>?_
 ·have:=LA (l:=l') (i:=i) (by omega)
  rw[e i hi,ei] at this;exact this
 ·obtain⟨j,hj,ej⟩:=Ou hx
  have h1:=b _ (LA (l:=l) (i:=j) (by omega))
  rw[e j (by omega)] at ej;omega
def Z8(l:List Int):List Int:=(List.range l.length).map fun i=>Zl l i-Xd l
theorem Th(l:List Int):(Z8 l).length=l.length:=by simp[Z8]
theorem Ti{l:List Int}{i:Nat}(h:i<l.length):Zl (Z8 l) i=Zl l i-Xd l:=ZO h
theorem Pq{W:List (List Int)}{D S T:List Int}(c:Int)(hd:D.length=W.length)(e:∀i,i<W.length->Zl T i=Zl S i+c):ZA W D T=ZA W D S:=XA (by simp[ZR]) fun i hi=>by
 rw[ZR] at hi;rw[Vw hi,Vw hi,KF c e (by omega)]
theorem IG{f g:XS}{s:ZU}{v:PV}(e1:f s=some (.rt v)):Zs f g s=some (.rt v):=by rw[Qb,e1];rfl
section
variable {s:ZU} {f g:XE} {a b:Int} {C:Int->Int->Prop} [∀i j,Decidable (C i j)] {op:Int->Int->Int}
theorem vC(h1:f s=some (.int a))(h2:g s=some (.int b))(c:C a b):Zh (Jy C op) f g s=some (.int (op a b)):=by
 rw[ZV,h1,h2];simp only[Option.bind_some,EH,if_pos c]
theorem vI(h1:f s=some (.int a))(h2:g s=some (.int b)):Zh (gI op) f g s=some (.int (op a b)):=by
 rw[ZV,h1,h2];rfl
theorem vP(h1:f s=some (.int a)):eP f s=some (.int a):=by
 rw[Xc,h1];rfl
theorem W5{v:PV}(h1:f s=some v):Yo f s=some (.rt v):=by
 rw[JW,h1];rfl
end
def KH(M:List (List Int))(a b:Nat)(t:Int):List (List Int):=Vq (Vq M a b t) b a t
theorem Rw{n:Nat}{M:List (List Int)}{a b:Nat}{t:Int}(ok:MatOk n M)(ha:a<n)(hb:b<n)(i j:Nat):Ya (KH M a b t) i j=if b=i/\a=j then t else if a=i/\b=j then t else Ya M i j:=by
 obtain⟨l1,r1⟩:=WI (t:=t) (b:=b) ok.len ok.row ha
 unfold KH;rw[RS l1 r1 hb ha,RS ok.len ok.row ha hb]
theorem ES{n:Nat}{M:List (List Int)}{a b:Nat}{t:Int}(ok:MatOk n M)(ha:a<n)(hb:b<n)(hab:a≠b)(h1:0<=t)(h9:t<=9):MatOk n (KH M a b t):=by
 obtain⟨l1,r1⟩:=WI (t:=t) (b:=b) ok.len ok.row ha
 obtain⟨l2,r2⟩:=WI (t:=t) (b:=a) l1 r1 hb
 have E:=Rw (t:=t) ok ha hb
 refine⟨l2,r2,fun i j hi hj=>?_,fun i j hi hj=>?_,fun i j hi hj=>?_,fun i hi=>?_⟩
 ·have:=ok.lo i j hi hj
  rw[E];split<;>(try split)<;>omega
 ·have:=ok.hi i j hi hj
  rw[E];split<;>(try split)<;>omega
 ·have:=ok.sym i j hi hj
  rw[E,E]
  by_cases p:b=i/\a=j
  ·rw[if_pos p]
   by_cases p2:b=j/\a=i
   ·rw[if_pos p2]
   ·rw[if_neg p2,if_pos ⟨p.2,p.1⟩]
  ·rw[if_neg p]
   by_cases p2:a=i/\b=j
   ·rw[if_pos p2,if_pos ⟨p2.2,p2.1⟩]
   ·rw[if_neg p2,if_neg (fun z=>p2 ⟨z.2,z.1⟩),if_neg (fun z=>p ⟨z.2,z.1⟩)];exact this
 ·rw[E,if_neg (fun z=>hab (by omega)),if_neg (fun z=>hab (by omega))];exact ok.dia i hi
theorem Ps{s:ZU}{n:Nat}(h:s[3]?=some (some (.int (n:Int))))(hn:n<=7):Zy 1 [3] (ZT [Za 3]) (.one 0) ZE (Zh Ma (Wm [eC (.int 0)]) (Za 1)) s=some (.lst (rL (List.replicate n (List.replicate n 0)))):=by
 rw[Z2 (List.range n) (fun(i:Nat)=>.int (i:Int)) (fun _=>.lst (iL (List.replicate n 0))) (Yt (by simp[h]) (by omega)) (by simp;omega) (fun i _=>⟨_,rfl,rfl,?_⟩)]
 ·unfold rL
  rw[List.map_const',List.length_range,List.map_replicate]
 ·have e:Ma (.lst [.int 0]) (.int (n:Int))=some (.lst (iL (List.replicate n 0))):=by
   show(if ZN [PV.int 0]=true/\(-1000000:Int)<=(n:Int)/\(n:Int)<=1000000/\[PV.int 0].length*((n:Int)).toNat<=10000 then some (PV.lst (List.replicate ((n:Int)).toNat [PV.int 0]).flatten) else none)=_
   rw[if_pos ⟨rfl,by omega,by omega,by simp;omega⟩,Int.toNat_natCast,Jt]
   simp
  simp[Yc,h,e]
def Grown(M:List (List Int))(l:List Int)(k:Nat):Prop:=∀j,1<=j->j<k->∃j',j'<j/\0<Ya M (Zl l j).toNat (Zl l j').toNat
theorem Grown.mono{M M':List (List Int)}{l:List Int}{k:Nat}(h:Grown M l k)(g:∀i j,0<Ya M i j->0<Ya M' i j):Grown M' l k:=fun j h1 h2=>by
 obtain⟨j',a,b⟩:=h j h1 h2
 exact⟨j',a,g _ _ b⟩
theorem Grown.conn{M:List (List Int)}{l:List Int}{n:Nat}(h:Grown M l n)(hl:M.length=n)(nk:NamesOk n l):Vj M:=by
 intro P hP i j hi hj
 rw[hl] at hi hj
 have h0:0<n:=by omega
 have lt:∀x,x<n->(Zl l x).toNat<M.length:=fun x hx=>by have:=nk.at hx;omega
 have all:∀k,k<n->(P (Zl l k).toNat↔P (Zl l 0).toNat):=by
  intro k
  induction k using Nat.strongRecOn with
  | ind k ih=>
   intro hk
   by_cases q:k=0
   ·subst q;exact Iff.rfl
   ·obtain⟨j',a,b⟩:=h k (by omega) hk
    exact(hP _ _ (lt k hk) (lt j' (by omega)) b).trans (ih j' a (by omega))
 have at':∀i,i<n->∃x,x<n/\(Zl l x).toNat=i:=fun i hi=>by
  have:=ER (n:=n) nk.nd (fun x hx=>⟨x.toNat,by have:=nk.hi x hx;have:=nk.lo x hx;omega,by have:=nk.lo x hx;omega⟩) nk.len hi
  obtain⟨x,hx,e⟩:=Ou this
  exact⟨x,by rw[<-nk.len];exact hx,by rw[e];rfl⟩
 obtain⟨x,hx,rfl⟩:=at' i hi
 obtain⟨y,hy,rfl⟩:=at' j hj
 exact(all x hx).trans (all y hy).symm
theorem GU{n:Nat}{M:List (List Int)}{a b:Nat}{t:Int}(ok:MatOk n M)(ha:a<n)(hb:b<n)(ht:0<t):(∀i j,0<Ya M i j->0<Ya (KH M a b t) i j)/\0<Ya (KH M a b t) a b:=by
 refine⟨fun i j h=>?_,?_⟩
 ·rw[Rw ok ha hb];split
  ·exact ht
  ·split
   ·exact ht
   ·exact h
 ·rw[Rw ok ha hb];split
  ·exact ht
  ·rw[if_pos ⟨rfl,rfl⟩];exact ht
theorem Pt{z:Int}(h:z.natAbs<2^1000):z.natAbs.log2<67108863:=by
 by_cases h0:z.natAbs=0
 ·rw[h0];decide +kernel
 ·have:=(Nat.log2_lt h0).mpr h
  omega
def nL(l:List Nat):List Int:=l.map fun(i:Nat)=>(i:Int)
theorem IH{y:Nat}{l:List Nat}:(y:Int)∈nL l↔y∈l:=by
 unfold nL;rw[List.mem_map]
 exact⟨fun⟨a,h,e⟩=>by rw[show y=a by omega];exact h,fun h=>⟨y,h,rfl⟩⟩
def ZY(W:List (List Int))(h:Nat)(F:List Nat):Int:=(F.map fun o=>Ya W h o).sum
theorem ML{W:List (List Int)}{h i j k:Nat}{F:List Nat}{s:ZU}(ok:ZF W)(hh:h<W.length)(hF:∀x∈F,x<W.length)(hl:F.length<=100)(e0:s[i]?=some (some (wP W)))(e1:s[j]?=some (some (.int (h:Int))))(e2:s[k]?=some (some (.lst (iL (nL F))))) :
  Ze Y1 [(Zy 1 [i,j] (Wo (Za k)) (.one 0) ZE (Zh ZS (Zh ZS (Za 1) (Za 2)) (Za 0)))] s=some (.int (ZY W h F)):=by
 have hc:Zy 1 [i,j] (Wo (Za k)) (.one 0) ZE (Zh ZS (Zh ZS (Za 1) (Za 2)) (Za 0)) s=some (.lst (iL (F.map fun o=>Ya W h o))):=by
  rw[Z2 F (fun(o:Nat)=>.int (o:Int)) (fun o=>.int (Ya W h o)) (by simp[e2,nL]) (by omega) (fun o ho=>⟨_,rfl,rfl,?_⟩)]
  ·simp
  ·have hr:=ok.sq h hh
   have:=XC (l:=ZB W h) (k:=o) (by rw[hr];exact hF o ho)
   simp[Yc,e0,e1,Ts hh,this];rfl
 simp only[Zz,Zk,P8,hc,Option.bind_some,Option.map_some]
 exact Oa _
theorem MM{W:List (List Int)}{h:Nat}{F:List Nat}(ok:ZF W)(hh:h<W.length)(hF:∀x∈F,x<W.length)(hl:F.length<=100):Vt [wP W,.int (h:Int),.lst (iL (nL F))]=some (.int (ZY W h F)):=by
 show YU 3 UJ _=_
 unfold UJ
 show(Yo _ [some (wP W),some (.int (h:Int)),some (.lst (iL (nL F)))]).bind Xn=_
 rw[W5 (vP (ML (i:=0) (j:=1) (k:=2) ok hh hF hl rfl rfl rfl))];rfl
theorem Pu{α:Type}{T:Tgt}{fb:XS}{q g:α->PV}{c:α->Bool}(S:ZU->Prop):∀{ls:List α}{s:ZU},(∀a∈ls,∀s,S s->∃s1,Va T (q a) s=some s1/\((c a=true->fb s1=some (.rt (g a)))/\(c a=false->∃s2,fb s1=some (.nx s2)/\S s2)))->S s->
  match ls.find? c with | some a=>Wp T fb (ls.map q) s=some (.rt (g a)) | none=>∃s',Wp T fb (ls.map q) s=some (.nx s')/\S s'
 | [],s,_,h0=>⟨s,rfl,h0⟩
 | a::r,s,h,h0=>by
  obtain⟨s1,e1,ht,hf⟩:=h a List.mem_cons_self s h0
  rw[List.find?_cons]
  cases ca:c a with
  | true=>
   show Wp T fb (q a::r.map q) s=_
   unfold Wp;rw[e1];simp only[Option.bind_some,ht ca]
  | false=>
   obtain⟨s2,e2,h2⟩:=hf ca
   have ih:=Pu S (ls:=r) (s:=s2) (fun b hb=>h b (List.mem_cons_of_mem _ hb)) h2
   have e:Wp T fb ((a::r).map q) s=Wp T fb (r.map q) s2:=by
    show Wp T fb (q a::r.map q) s=_
    unfold Wp;rw[e1];simp only[Option.bind_some,e2]
    cases r.map q<;>rfl
   rw[e];exact ih
def XZ(W:List (List Int))(D:List Int)(F:List Nat):Option Nat:=(List.range W.length).find? fun h=>!decide (h∈F)&&decide (Zl D h<ZY W h F)
def SD:Option Nat->PV
 | none=>.non
 | some h=>.int (h:Int)
theorem MN(y:Nat)(l:List Nat):Lj true (.int (y:Int)) (.lst (iL (nL l)))=some (.bl (!decide (y∈l))):=by
 rw[FI]
 have:=IH (y:=y) (l:=l)
 simp[this]
theorem GV(y:Nat)(l:List Nat):Lj false (.int (y:Int)) (.lst (iL (nL l)))=some (.bl (decide (y∈l))):=by
 rw[FI]
 have:=IH (y:=y) (l:=l)
 simp[this]
theorem SE{W:List (List Int)}{D:List Int}{F:List Nat}(ok:ZF W)(hd:D.length=W.length)(hF:∀x∈F,x<W.length)(hl:F.length<=100):Yd [wP W,pP D,.lst (iL (nL F))]=some (SD (XZ W D F)):=by
 have hf:=ok.few
 have key:=Pu (T:=.many [3,4]) (fb:=Rr (S1 (xB (Zh (Lj true) (Za 3) (Za 2))) (xB (Zh UY (Za 4) (Ze Vt [(Za 0),(Za 3),(Za 2)])))) (Yo (eP (Za 3))) Y5) (q:=fun(i:Nat)=>.tup [.int (i:Int),.int (Zl D i)]) (g:=fun(i:Nat)=>.int (i:Int)) (c:=fun h=>!decide (h∈F)&&decide (Zl D h<ZY W h F))
  (fun st=>∃x y,st=[some (wP W),some (pP D),some (.lst (iL (nL F))),x,y]) (ls:=List.range W.length) (s:=[some (wP W),some (pP D),some (.lst (iL (nL F))),none,none]) (by
   rintro h hh st ⟨x,y,rfl⟩
   have hh:=List.mem_range.mp hh;have et:=MM ok hh hF hl
   refine⟨_,rfl,fun hc=>?_,fun hc=>?_⟩
   ·simp only[Bool.and_eq_true,Bool.not_eq_true',decide_eq_false_iff_not,decide_eq_true_eq] at hc
    simp[setAll,MN,hc.1,et,hc.2]
   ·refine⟨[some (wP W),some (pP D),some (.lst (iL (nL F))),some (.int (h:Int)),some (.int (Zl D h))],?_,_,_,rfl⟩
    by_cases q:h∈F
    ·simp[setAll,MN,q]
    ·have:¬Zl D h<ZY W h F:=fun z=>by simp[q,z] at hc
     simp[setAll,MN,q,et,this]) ⟨_,_,rfl⟩
 have en:Xj false [Za 1] [some (wP W),some (pP D),some (.lst (iL (nL F))),none,none]=some ((List.range W.length).map fun(i:Nat)=>.tup [.int (i:Int),.int (Zl D i)]):=by
  have:=TN D
  rw[hd] at this;simp[this]
 show YU 5 Xz _=_
 unfold Xz
 show(Zs (XQ [] _ _ _) _ [some (wP W),some (pP D),some (.lst (iL (nL F))),none,none]).bind Xn=_
 unfold XZ
 cases q:(List.range W.length).find? fun h=>!decide (h∈F)&&decide (Zl D h<ZY W h F) with
 | some h=>
  rw[q] at key;rw[IG (v:=.int (h:Int))]
  ·rfl
  ·show(Xj false [Za 1] [some (wP W),some (pP D),some (.lst (iL (nL F))),none,none]).bind _=_
   rw[en];exact key
 | none=>
  rw[q] at key
  obtain⟨s',k1,x,y,rfl⟩:=key
  rw[ZK (s1:=[some (wP W),some (pP D),some (.lst (iL (nL F))),x,y])]
  ·rfl
  ·show(Xj false [Za 1] [some (wP W),some (pP D),some (.lst (iL (nL F))),none,none]).bind _=_
   rw[en];exact k1
theorem ET{c:XT}{fb:XS}(Jv:ZU->Prop)(μ:ZU->Nat)(step:∀st,Jv st->c st=some false\/(c st=some true/\∃s2,fb st=some (.nx s2)/\Jv s2/\μ s2<μ st)){s:ZU}(h0:Jv s) :
  ∃s',VH c fb s=some (.nx s')/\Jv s'/\c s'=some false:=by
 have gen:∀(k:Nat)(st:ZU),μ st<k->Jv st->∃s',YW c fb k st=some (.nx s')/\Jv s'/\c s'=some false:=by
  intro k
  induction k with
  | zero=>intro st h;omega
  | succ k ih=>
   intro st hk hJ
   rcases step st hJ with hc | ⟨hc,s2,e,hJ2,hm⟩
   ·exact⟨st,by unfold YW;rw[hc];rfl,hJ,hc⟩
   ·obtain⟨s',a,b,d⟩:=ih s2 (by omega) hJ2
    refine⟨s',?_,b,d⟩
    unfold YW;rw[hc];simp only[Option.bind_some,if_true,e];exact a
 obtain⟨s',a,b,d⟩:=gen (μ s+1) s (by omega) h0
 exact⟨s',Ph a,b,d⟩
structure Burn(W:List (List Int))(D:List Int)(b:Nat)(F:List Nat):Prop where
 nd:F.Nodup
 lt:∀x∈F,x<W.length
 hd:F[0]?=some b
 st:∀k,1<=k->k<F.length->XZ W D (F.take k)=F[k]?
theorem Burn.len{W:List (List Int)}{D:List Int}{b:Nat}{F:List Nat}(h:Burn W D b F):F.length<=W.length:=by
 have nd:(nL F).Nodup:=List.Pairwise.map _ (fun a b z=>by omega) h.nd
 have:=Qw (l:=nL F) (m:=nL (List.range W.length)) nd fun y hy=>by
  obtain⟨a,ha,rfl⟩:=List.mem_map.mp hy
  exact List.mem_map.mpr ⟨a,List.mem_range.mpr (h.lt a ha),rfl⟩
 simpa [nL] using this
theorem Burn.pos{W:List (List Int)}{D:List Int}{b:Nat}{F:List Nat}(h:Burn W D b F):1<=F.length:=(List.getElem?_eq_some_iff.mp h.hd).1
theorem Burn.one{W:List (List Int)}{D:List Int}{b:Nat}(hb:b<W.length):Burn W D b [b]:=⟨by simp,fun x hx=>by rw[List.mem_singleton.mp hx];exact hb,rfl,fun k h1 h2=>by simp at h2;omega⟩
theorem Tj{W:List (List Int)}{D:List Int}{F:List Nat}{h:Nat}(e:XZ W D F=some h):h<W.length/\h∉F/\Zl D h<ZY W h F:=by
 have h1:=List.find?_some e
 have h2:=List.mem_of_find?_eq_some e
 simp only[Bool.and_eq_true,Bool.not_eq_true',decide_eq_false_iff_not,decide_eq_true_eq] at h1
 exact⟨List.mem_range.mp h2,h1⟩
theorem MO{W:List (List Int)}{D:List Int}{F:List Nat}(e:XZ W D F=none){h:Nat}(hh:h<W.length)(hF:h∉F):ZY W h F<=Zl D h:=by
 have:=List.find?_eq_none.mp e h (List.mem_range.mpr hh)
 simp[hF] at this;exact this
theorem Burn.add{W:List (List Int)}{D:List Int}{b h:Nat}{F:List Nat}(B:Burn W D b F)(e:XZ W D F=some h):Burn W D b (F++[h]):=by
 obtain⟨h1,h2,_⟩:=Tj e
 have hp:=B.pos
 refine⟨?_,fun x hx=>?_,?_,fun k k1 k2=>?_⟩
 ·rw[List.nodup_append]
  exact⟨B.nd,by simp,fun a ha c hc z=>by rw[List.mem_singleton.mp hc] at z;exact h2 (z▸ha)⟩
 ·rcases List.mem_append.mp hx with hx | hx
  ·exact B.lt x hx
  ·rw[List.mem_singleton.mp hx];exact h1
 ·rw[List.getElem?_append_left (by omega)];exact B.hd
 ·rw[List.length_append,List.length_singleton] at k2
  by_cases q:k<F.length
  ·rw[List.take_append_of_le_length (by omega),List.getElem?_append_left q];exact B.st k k1 q
  ·have:k=F.length:=by omega
   subst this;rw[List.take_left',e,List.getElem?_append_right (by omega)]
   ·simp
   ·rfl
theorem II{W:List (List Int)}{D:List Int}{b:Nat}(ok:ZF W)(hd:D.length=W.length)(hb:b<W.length):∃F,Tz [wP W,pP D,.int (b:Int)]=some (.lst (iL (nL F)))/\Burn W D b F/\XZ W D F=none:=by
 have hf:=ok.few
 have hn:∀F:List Nat,Burn W D b F->Yd [wP W,pP D,.lst (iL (nL F))]=some (SD (XZ W D F)):=fun F B=>SE ok hd B.lt (by have:=B.len;omega)
 obtain⟨s',q1,⟨F,rfl,B⟩,q3⟩:=ET (c:=xB (Ka true (Za 4))) (fb:=Zs (YM 3 (eP (Za 4))) (Zr 4 (Ze Yd [(Za 0),(Za 1),(Za 3)])))
  (fun st=>∃F,st=[some (wP W),some (pP D),some (.int (b:Int)),some (.lst (iL (nL F))),some (SD (XZ W D F))]/\Burn W D b F)
  (fun st=>match st[3]? with | some (some (PV.lst l))=>8-l.length | _=>0) (by
   rintro st ⟨F,rfl,B⟩
   cases e:XZ W D F with
   | none=>exact .inl (by simp[JD,SD])
   | some h=>
    have B':=B.add e;have hl:=B'.len;rw[List.length_append,List.length_singleton] at hl
    refine .inr ⟨by simp[JD,SD],[some (wP W),some (pP D),some (.int (b:Int)),some (.lst (iL (nL (F++[h])))),some (SD (XZ W D (F++[h])))],?_,⟨F++[h],rfl,B'⟩,?_⟩
    ·have e1:YM 3 (eP (Za 4)) [some (wP W),some (pP D),some (.int (b:Int)),some (.lst (iL (nL F))),some (SD (some h))]=some (.nx [some (wP W),some (pP D),some (.int (b:Int)),some (.lst (iL (nL (F++[h])))),some (SD (some h))]):=by
      rw[WP (m:=iL (nL F)) (l:=.int (h:Int)) rfl rfl (by simp[nL];omega)]
      simp[nL]
     have e2:Zr 4 (Ze Yd [(Za 0),(Za 1),(Za 3)]) [some (wP W),some (pP D),some (.int (b:Int)),some (.lst (iL (nL (F++[h])))),some (SD (some h))]=some (.nx [some (wP W),some (pP D),some (.int (b:Int)),some (.lst (iL (nL (F++[h])))),some (SD (XZ W D (F++[h])))]):=by
      have:=hn _ B'
      generalize hh:iL (nL (F++[h]))=z at this ⊢
      simp[this]
     rw[ZK e1,e2]
    ·show 8-(iL (nL (F++[h]))).length<8-(iL (nL F)).length
     simp[nL];omega) (s:=[some (wP W),some (pP D),some (.int (b:Int)),some (.lst (iL (nL [b]))),some (SD (XZ W D [b]))]) ⟨[b],rfl,Burn.one hb⟩
 have en:XZ W D F=none:=by
  cases e:XZ W D F with
  | none=>rfl
  | some h=>rw[e] at q3;simp[JD,SD] at q3
 refine⟨F,?_,B,en⟩
 have e1:Zr 3 (Wm [(eP (Za 2))]) [some (wP W),some (pP D),some (.int (b:Int)),none,none]=some (.nx [some (wP W),some (pP D),some (.int (b:Int)),some (.lst (iL (nL [b]))),none]):=by simp[nL]
 have e2:Zr 4 (Ze Yd [(Za 0),(Za 1),(Za 3)]) [some (wP W),some (pP D),some (.int (b:Int)),some (.lst (iL (nL [b]))),none]=some (.nx [some (wP W),some (pP D),some (.int (b:Int)),some (.lst (iL (nL [b]))),some (SD (XZ W D [b]))]):=by
  have:=hn _ (Burn.one hb)
  generalize hh:iL (nL [b])=z at this ⊢
  simp[this]
 show YU 5 Rt _=_
 unfold Rt
 show(Zs _ _ [some (wP W),some (pP D),some (.int (b:Int)),none,none]).bind Xn=_
 rw[ZK e1,ZK e2,ZK q1];rfl
def XH(D:List Int)(b:Nat):List Nat:=(List.range D.length).filter fun h=>!decide (h=b)&&decide (Zl D h<0)
theorem Qy{D:List Int}{b:Nat}(hl:D.length<=1000):Xa [pP D,.int (b:Int)]=some (.lst (iL (nL (XH D b)))):=by
 have en:Xj false [Za 0] [some (pP D),some (.int (b:Int))]=some ((List.range D.length).map fun(i:Nat)=>.tup [.int (i:Int),.int (Zl D i)]):=by
  have:=TN D
  simp[this]
 have hc:Zy 2 [1] (Xj false [(Za 0)]) (.many [0,1]) (S1 (xB (Zh (V5 true) (Za 0) (Za 2))) (xB (Zh UY (Za 1) (eC (.int 0))))) (eP (Za 0)) [some (pP D),some (.int (b:Int))]=some (.lst (iL (nL (XH D b)))):=by
  rw[VP (List.range D.length) (fun(i:Nat)=>.tup [.int (i:Int),.int (Zl D i)]) (fun(i:Nat)=>.int (i:Int)) (fun h=>!decide (h=b)&&decide (Zl D h<0)) en (by simp;omega) fun y hy=>⟨[some (.int (y:Int)),some (.int (Zl D y)),some (.int (b:Int))],by simp[Yc,Kf],?_,fun _=>by simp⟩]
  ·unfold nL XH iL
   rw[List.map_map];rfl
  ·by_cases q:y=b
   ·subst q;simp
   ·have q':¬(y:Int)=(b:Int):=by omega
    simp[q,q']
 show YU 2 UK _=_
 unfold UK
 show(Yo _ [some (pP D),some (.int (b:Int))]).bind Xn=_
 rw[W5 hc];rfl
theorem debt_nil{D:List Int}{b:Nat}:XH D b=[]↔∀h,h<D.length->h≠b->0<=Zl D h:=by
 unfold XH;rw[List.filter_eq_nil_iff];constructor
 ·intro h x hx hb
  have:=h x (List.mem_range.mpr hx)
  simp[hb] at this;exact this
 ·intro h x hx
  by_cases q:x=b
  ·simp[q]
  ·have:=h x (List.mem_range.mp hx) q
   simp[q];omega
theorem IJ{D:List Int}{b h:Nat}:h∈XH D b↔h<D.length/\h≠b/\Zl D h<0:=by
 unfold XH;rw[List.mem_filter,List.mem_range]
 simp
end PW
namespace PW
def sN:Nat->(Nat->Int)->Int
 | 0,_=>0
 | n+1,f=>sN n f+f n
theorem Zq{f g:Nat->Int}:∀{n:Nat},(∀i,i<n->f i=g i)->sN n f=sN n g
 | 0,_=>rfl
 | n+1,h=>by
  show sN n f+f n=sN n g+g n
  rw[Zq fun i hi=>h i (by omega),h n (by omega)]
theorem WB{f:Nat->Int}{n:Nat}(h:∀i,i<n->f i=0):sN n f=0:=by
 rw[Zq (g:=fun _=>0) h]
 clear h
 induction n with
 | zero=>rfl
 | succ n ih=>show sN n _+0=0;rw[ih];rfl
theorem Yr(f g:Nat->Int):∀n,sN n (fun i=>f i+g i)=sN n f+sN n g
 | 0=>rfl
 | n+1=>by
  show sN n _+(f n+g n)=(sN n f+f n)+(sN n g+g n)
  rw[Yr f g n];omega
theorem Yf(c:Int)(f:Nat->Int):∀n,sN n (fun i=>c*f i)=c*sN n f
 | 0=>by show(0:Int)=c*0;simp
 | n+1=>by
  show sN n _+c*f n=c*(sN n f+f n)
  rw[Yf c f n,Int.mul_add]
theorem Rx(f:Nat->Nat->Int)(m:Nat):∀n,sN n (fun i=>sN m (f i))=sN m (fun j=>sN n fun i=>f i j)
 | 0=>by
  show(0:Int)=sN m fun _=>0
  rw[WB (fun _ _=>rfl)]
 | n+1=>by
  show sN n (fun i=>sN m (f i))+sN m (f n)=sN m (fun j=>(sN n fun i=>f i j)+f n j)
  rw[Yr,Rx f m n]
theorem YD{f:Nat->Int}{k:Nat}:∀{n:Nat},k<n->(∀i,i<n->i≠k->f i=0)->sN n f=f k
 | 0,h,_=>by omega
 | n+1,h,z=>by
  show sN n f+f n=f k
  by_cases q:k=n
  ·subst q
   rw[WB fun i hi=>z i (by omega) (by omega)];omega
  ·rw[YD (n:=n) (by omega) fun i hi=>z i (by omega),z n (by omega) (by omega)];omega
theorem IK{f:Nat->Int}{k:Nat}:∀{n:Nat},k+1<n->(∀i,i<n->i≠k->i≠k+1->f i=0)->sN n f=f k+f (k+1)
 | 0,h,_=>by omega
 | n+1,h,z=>by
  show sN n f+f n=_
  by_cases q:k+1=n
  ·subst q
   rw[YD (k:=k) (by omega) fun i hi hk=>z i (by omega) hk (by omega)]
  ·rw[IK (n:=n) (by omega) fun i hi=>z i (by omega),z n (by omega) (by omega) (by omega)];omega
theorem YS(f:Nat->Int)(n:Nat):((List.range n).map f).sum=sN n f:=by
 induction n with
 | zero=>rfl
 | succ n ih=>rw[List.range_succ,List.map_append,List.sum_append,ih];simp[sN]
abbrev Mt:=Nat->Nat->Int
def S7(i:Nat)(A:Mt):Mt:=fun r c=>A (if r<i then r else r+1) (c+1)
def sg:Nat->Int
 | 0=>1
 | n+1=>- sg n
def WV:Nat->Mt->Int
 | 0,_=>1
 | n+1,A=>sN (n+1) fun i=>sg i*A i 0*WV n (S7 i A)
theorem Wh(n:Nat)(A:Mt):WV (n+1) A=sN (n+1) fun i=>sg i*A i 0*WV n (S7 i A):=rfl
theorem WF:∀{n:Nat}{A B:Mt},(∀r c,r<n->c<n->A r c=B r c)->WV n A=WV n B
 | 0,_,_,_=>rfl
 | n+1,A,B,h=>by
  rw[Wh,Wh]
  refine Zq fun i hi=>?_
  rw[h i 0 hi (by omega),WF (n:=n) (A:=S7 i A) (B:=S7 i B) fun r c hr hc=>?_];unfold S7
  exact h _ _ (by split<;>omega) (by omega)
theorem LB:∀{n:Nat}{A B C:Mt}{k:Nat}{x y:Int},k<n->(∀r c,r<n->c<n->r≠k->A r c=C r c/\B r c=C r c)->(∀c,c<n->C k c=x*A k c+y*B k c)->WV n C=x*WV n A+y*WV n B
 | 0,_,_,_,k,_,_,h,_,_=>by omega
 | n+1,A,B,C,k,x,y,hk,h1,h2=>by
  rw[Wh,Wh,Wh,<-Yf,<-Yf,<-Yr]
  refine Zq fun i hi=>?_
  by_cases q:i=k
  ·subst q
   have e1:WV n (S7 i A)=WV n (S7 i C):=WF fun r c hr hc=>by
    unfold S7
    exact(h1 _ _ (by split<;>omega) (by omega) (by split<;>omega)).1
   have e2:WV n (S7 i B)=WV n (S7 i C):=WF fun r c hr hc=>by
    unfold S7
    exact(h1 _ _ (by split<;>omega) (by omega) (by split<;>omega)).2
   rw[e1,e2,h2 0 (by omega),Int.mul_add,Int.add_mul];simp only[Int.mul_assoc,Int.mul_left_comm]
  ·obtain⟨a1,a2⟩:=h1 i 0 hi (by omega) q
   have e:WV n (S7 i C)=x*WV n (S7 i A)+y*WV n (S7 i B):=LB (k:=if k<i then k else k-1) (by split<;>omega) (fun r c hr hc hrk=>by
    unfold S7
    exact h1 _ _ (by split<;>omega) (by omega) (by split at hrk<;>split<;>omega)) (fun c hc=>by
    have e:(if(if k<i then k else k-1)<i then(if k<i then k else k-1) else(if k<i then k else k-1)+1)=k:=by split<;>(try split)<;>omega
    unfold S7;rw[e]
    exact h2 (c+1) (by omega))
   rw[a1,a2,e,Int.mul_add];simp only[Int.mul_assoc,Int.mul_left_comm]
theorem Ry:∀{n:Nat}{A:Mt}{k:Nat},k+1<n->(∀c,c<n->A k c=A (k+1) c)->WV n A=0
 | 0,_,k,h,_=>by omega
 | n+1,A,k,hk,he=>by
  rw[Wh,IK hk]
  ·have e:WV n (S7 k A)=WV n (S7 (k+1) A):=WF fun r c hr hc=>by
    unfold S7
    by_cases q:r<k
    ·rw[if_pos q,if_pos (by omega)]
    ·rw[if_neg q]
     by_cases q2:r=k
     ·subst q2
      rw[if_pos (by omega)]
      exact(he (c+1) (by omega)).symm
     ·rw[if_neg (by omega)]
   rw[e,he 0 (by omega)]
   show sg k*_*_ + - sg k*_*_=0
   rw[Int.neg_mul,Int.neg_mul];omega
  ·intro i hi h1 h2
   rw[Ry (n:=n) (A:=S7 i A) (k:=if k+1<i then k else k-1) (by split<;>omega) fun c hc=>?_,Int.mul_zero]
   have e1:(if(if k+1<i then k else k-1)<i then(if k+1<i then k else k-1) else(if k+1<i then k else k-1)+1)=k:=by split<;>(try split)<;>omega
   have e2:(if(if k+1<i then k else k-1)+1<i then(if k+1<i then k else k-1)+1 else(if k+1<i then k else k-1)+1+1)=k+1:=by split<;>(try split)<;>omega
   unfold S7;rw[e1,e2]
   exact he (c+1) (by omega)
def put(k:Nat)(v:Nat->Int)(A:Mt):Mt:=fun r=>if r=k then v else A r
theorem Y7(k:Nat)(v:Nat->Int)(A:Mt):put k v A k=v:=by unfold put;rw[if_pos rfl]
theorem Vk{k r:Nat}(v:Nat->Int)(A:Mt)(h:r≠k):put k v A r=A r:=by unfold put;rw[if_neg h]
theorem TQ{n k:Nat}{A:Mt}{u v:Nat->Int}{x y:Int}(hk:k<n):WV n (put k (fun c=>x*u c+y*v c) A)=x*WV n (put k u A)+y*WV n (put k v A):=
 LB hk (fun r c _ _ h=>by rw[Vk _ _ h,Vk _ _ h,Vk _ _ h];exact⟨rfl,rfl⟩) (fun c _=>by rw[Y7,Y7,Y7])
def Cb(k:Nat)(A:Mt):Mt:=put k (A (k+1)) (put (k+1) (A k) A)
theorem GW{n k:Nat}{A:Mt}(hk:k+1<n):WV n (Cb k A) = - WV n A:=by
 have two:∀u v:Nat->Int,WV n (put k (fun c=>1*u c+1*v c) (put (k+1) (fun c=>1*u c+1*v c) A))=0:=fun u v=>Ry hk fun c _=>by
  rw[Y7,Vk _ _ (by omega),Y7]
 have same:∀u:Nat->Int,WV n (put k u (put (k+1) u A))=0:=fun u=>Ry hk fun c _=>by
  rw[Y7,Vk _ _ (by omega),Y7]
 have comm:∀u v:Nat->Int,put k u (put (k+1) v A)=put (k+1) v (put k u A):=fun u v=>by
  funext r
  unfold put
  by_cases q:r=k
  ·rw[if_pos q,if_neg (by omega),if_pos q]
  ·rw[if_neg q]
   by_cases q2:r=k+1
   ·rw[if_pos q2,if_pos q2]
   ·rw[if_neg q2,if_neg q2,if_neg q]
 have h:=two (A k) (A (k+1))
 rw[TQ (by omega),comm,TQ hk,comm,TQ hk,<-comm,<-comm,<-comm,<-comm,same,same] at h
 have e:put k (A k) (put (k+1) (A (k+1)) A)=A:=by
  funext r
  unfold put
  by_cases q:r=k
  ·rw[if_pos q,q]
  ·rw[if_neg q]
   by_cases q2:r=k+1
   ·rw[if_pos q2,q2]
   ·rw[if_neg q2]
 rw[e] at h;unfold Cb;omega
theorem Uq:∀(d:Nat){n i:Nat}{A:Mt},i+1+d<n->(∀c,c<n->A i c=A (i+1+d) c)->WV n A=0
 | 0,n,i,A,h,e=>Ry h e
 | d+1,n,i,A,h,e=>by
  have h1:WV n (Cb (i+1+d) A)=0:=Uq d (n:=n) (i:=i) (by omega) fun c hc=>by
   unfold Cb;rw[Vk _ _ (by omega),Vk _ _ (by omega),Y7]
   exact e c hc
  rw[GW (by omega)] at h1;omega
theorem Np{n i j:Nat}{A:Mt}(hi:i<n)(hj:j<n)(hij:i≠j)(e:∀c,c<n->A i c=A j c):WV n A=0:=by
 rcases Nat.lt_or_gt_of_ne hij with h | h
 ·exact Uq (j-i-1) (i:=i) (by omega) fun c hc=>by rw[show i+1+(j-i-1)=j by omega];exact e c hc
 ·exact Uq (i-j-1) (i:=j) (by omega) fun c hc=>by rw[show j+1+(i-j-1)=i by omega];exact(e c hc).symm
theorem Nq:∀{n:Nat}{A:Mt},(∀c,c<n->A n c=0)->WV (n+1) A=A n n*WV n A
 | 0,A,_=>by
  show 0+1*A 0 0*1=A 0 0*1
  omega
 | n+1,A,h=>by
  rw[Wh (n+1)]
  show sN (n+1) _+sg (n+1)*A (n+1) 0*_=_
  rw[h 0 (by omega),Int.mul_zero,Int.zero_mul,Int.add_zero,Wh n,<-Yf]
  refine Zq fun i hi=>?_
  rw[Nq (n:=n) (A:=S7 i A) fun c hc=>?_]
  ·have e:S7 i A n n=A (n+1) (n+1):=by unfold S7;rw[if_neg (by omega)]
   rw[e];simp only[Int.mul_assoc,Int.mul_left_comm]
  ·unfold S7;rw[if_neg (by omega)];exact h (c+1) (by omega)
theorem Qz{n j:Nat}{A:Mt}{a:Nat->Int}{v:Nat->Nat->Int}(hj:j<n):∀m,WV n (put j (fun c=>sN m fun k=>a k*v k c) A)=sN m fun k=>a k*WV n (put j (v k) A)
 | 0=>by
  have:WV n (put j (fun c=>0*(0:Int)+0*(0:Int)) A)=0*WV n (put j (fun _=>0) A)+0*WV n (put j (fun _=>0) A):=TQ (u:=fun _=>0) (v:=fun _=>0) hj
  simp only[Int.zero_mul,Int.add_zero] at this;exact this
 | m+1=>by
  have:=TQ (n:=n) (A:=A) (u:=fun c=>sN m fun k=>a k*v k c) (v:=v m) (x:=1) (y:=a m) hj
  simp only[Int.one_mul] at this
  show WV n (put j (fun c=>(sN m fun k=>a k*v k c)+a m*v m c) A)=_
  rw[this,Qz hj m];rfl
theorem GX{n j:Nat}{A:Mt}{a:Nat->Int}(hj:j<n):WV n (put j (fun c=>sN n fun k=>a k*A k c) A)=a j*WV n A:=by
 rw[Qz hj n,YD (k:=j) hj]
 ·have:put j (A j) A=A:=by funext r;unfold put;split<;>simp_all
  rw[this]
 ·intro i hi hij
  rw[Np (i:=i) (j:=j) hi hj hij fun c _=>by rw[Vk _ _ hij,Y7],Int.mul_zero]
def Nr(n:Nat)(A:Mt)(i j:Nat):Int:=WV n (put j (fun c=>if c=i then 1 else 0) A)
theorem GY{n:Nat}{A:Mt}{j:Nat}(hj:j<n)(v:Nat->Int):sN n (fun i=>v i*Nr n A i j)=WV n (put j v A):=by
 unfold Nr;rw[<-Qz (v:=fun i c=>if c=i then 1 else 0) hj n]
 refine WF fun r c hr hc=>?_
 unfold put
 split
 ·show sN n (fun k=>v k*if c=k then 1 else 0)=v c
  rw[YD (k:=c) hc]
  ·simp
  ·intro i hi hic
   rw[if_neg (fun z=>hic z.symm),Int.mul_zero]
 ·rfl
theorem LC{n:Nat}{A:Mt}{k j:Nat}(hk:k<n)(hj:j<n):sN n (fun i=>A k i*Nr n A i j)=if k=j then WV n A else 0:=by
 rw[GY hj]
 split
 ·rename_i h
  subst h
  have:put k (A k) A=A:=by funext r;unfold put;split<;>simp_all
  rw[this]
 ·rename_i h
  exact Np (i:=k) (j:=j) hk hj h fun c _=>by rw[Vk _ _ h,Y7]
theorem SF{f:Nat->Int}{q:Nat}:∀{m:Nat},q<=m->(∀k,q<=k->k<m->f k=0)->sN m f=sN q f
 | 0,h,_=>by rw[show q=0 by omega]
 | m+1,h,z=>by
  by_cases e:q=m+1
  ·rw[e]
  ·show sN m f+f m=_
   rw[SF (m:=m) (by omega) (fun k h1 h2=>z k h1 (by omega)),z m (by omega) (by omega)];omega
theorem LD{f:Nat->Int}{q i:Nat}:∀{m:Nat},q<=i->i<m->(∀k,q<=k->k<m->k≠i->f k=0)->sN m f=sN q f+f i
 | 0,_,h,_=>by omega
 | m+1,hq,hi,z=>by
  show sN m f+f m=_
  by_cases e:i=m
  ·subst e
   rw[SF (q:=q) (by omega) fun k h1 h2=>z k h1 (by omega) (by omega)]
  ·rw[LD (m:=m) hq (by omega) (fun k h1 h2=>z k h1 (by omega)),z m (by omega) (by omega) (fun q=>e q.symm)];omega
def XI(m:Nat)(X:Mt):Nat->Mt×Int
 | 0=>(X,1)
 | p+1=>(fun i j=>if i=p then(XI m X p).1 i j else((XI m X p).1 p p*(XI m X p).1 i j-(XI m X p).1 i p*(XI m X p).1 p j).fdiv (XI m X p).2,(XI m X p).1 p p)
structure EU(m:Nat)(A X:Mt):Prop where
 sym:∀i j,i<m->j<m->A i j=A j i
 inj:∀p,p<=m->∀z:Nat->Int,(∀j,j<p->sN p (fun k=>z k*A k j)=0)->∀k,k<p->z k=0
 ext:∀i j,i<m->j<m->X i j=A i j
structure CF(m p:Nat)(X:Mt)(E:Mt)(d:Int)(i:Nat)(a:Nat->Int):Prop where
 off:∀k,k<m->p<=k->k≠i->a k=0
 on:p<=i->a i=d
 val:∀j,j<=m->E i j=sN m (fun k=>a k*X k j)
 uni:∀j,j<p->E i j=if i=j then d else 0
structure EV(m:Nat)(A X:Mt)(p:Nat)(E:Mt)(d:Int):Prop where
 de:d=WV p A
 nz:d≠0
 row:∀i,i<m->∃a,CF m p X E d i a
theorem QA{m:Nat}{A X:Mt}{p:Nat}{E:Mt}{d:Int}(ok:EU m A X)(hp:p<m)(I:EV m A X p E d) :
  EV m A X (p+1) (fun i j=>if i=p then E i j else(E p p*E i j-E i p*E p j).fdiv d) (E p p)/\∀i j,i<m->j<=m->i≠p->∃q,E p p*E i j-E i p*E p j=d*q:=by
 obtain⟨ap,Rp⟩:=I.row p hp
 have hd:=I.nz
 -- the pivot's row
 have rowp:∀j,j<m->E p j=sN (p+1) (fun k=>ap k*A k j):=fun j hj=>by
  rw[Rp.val j (by omega),SF (q:=p+1) (by omega) fun k h1 h2=>by rw[Rp.off k h2 (by omega) (by omega),Int.zero_mul]]
  exact Zq fun k hk=>by rw[ok.ext k j (by omega) hj]
 have pd:E p p=WV (p+1) A:=by
  have h1:=GX (n:=p+1) (j:=p) (A:=A) (a:=ap) (by omega)
  have h2:=Nq (n:=p) (A:=put p (fun c=>sN (p+1) fun k=>ap k*A k c) A) fun c hc=>by
   rw[Y7]
   show sN (p+1) (fun k=>ap k*A k c)=0
   rw[<-rowp c (by omega),Rp.uni c hc,if_neg (by omega)]
  have h3:WV p (put p (fun c=>sN (p+1) fun k=>ap k*A k c) A)=WV p A:=WF fun r c hr hc=>by rw[Vk _ _ (by omega)]
  rw[Y7,h3,h1,Rp.on (Nat.le_refl p),<-I.de] at h2
  have h4:d*WV (p+1) A=E p p*d:=by
   rw[h2]
   show sN (p+1) (fun k=>ap k*A k p)*d=_
   rw[<-rowp p hp]
  have h5:d*(WV (p+1) A)=d*E p p:=by rw[h4,Int.mul_comm]
  exact(Int.eq_of_mul_eq_mul_left hd h5).symm
 have pz:E p p≠0:=fun z=>by
  have:=ok.inj (p+1) (by omega) ap (fun j hj=>by
   rw[<-rowp j (by omega)]
   by_cases q:j=p
   ·rw[q];exact z
   ·rw[Rp.uni j (by omega),if_neg (by omega)]) p (by omega)
  rw[Rp.on (Nat.le_refl p)] at this
  exact hd this
 -- the other rows
 have other:∀i,i<m->i≠p->∃b:Nat->Int,(∀k,k<m->p+1<=k->k≠i->b k=0)/\(p+1<=i->b i=E p p)/\(∀l,l<p+1->sN m (fun k=>b k*A k l)=if i=l then E p p else 0)/\∀j,j<=m->E p p*E i j-E i p*E p j=d*sN m (fun k=>b k*X k j):=by
  intro i hi hip
  obtain⟨b,b1,b2,b3⟩:∃b:Nat->Int,(∀k,k<m->p+1<=k->k≠i->b k=0)/\(p+1<=i->b i=E p p)/\(∀l,l<p+1->sN m (fun k=>b k*A k l)=if i=l then E p p else 0):=by
   have cm:∀j l,j<p+1->l<p+1->sN (p+1) (fun k=>Nr (p+1) A k j*A k l)=if l=j then E p p else 0:=fun j l hj hl=>by
    rw[pd,<-LC (A:=A) hl hj]
    exact Zq fun k hk=>by rw[ok.sym l k (by omega) (by omega),Int.mul_comm]
   by_cases q:i<p
   ·obtain⟨b,hb⟩:∃b:Nat->Int,∀k,b k=if k<p+1 then Nr (p+1) A k i else 0:=⟨_,fun _=>rfl⟩
    refine⟨b,fun k hk h1 _=>by rw[hb,if_neg (by omega)],fun h=>by omega,fun l hl=>?_⟩
    rw[SF (q:=p+1) (by omega) fun k h1 h2=>by rw[hb,if_neg (by omega),Int.zero_mul]]
    rw[Zq (g:=fun k=>Nr (p+1) A k i*A k l) fun k hk=>by rw[hb,if_pos hk],cm i l (by omega) hl]
    by_cases e:i=l
    ·rw[if_pos e,if_pos e.symm]
    ·rw[if_neg e,if_neg (fun z=>e z.symm)]
   ·obtain⟨b,hb⟩:∃b:Nat->Int,∀k,b k=if k<p+1 then-sN (p+1) (fun j=>A i j*Nr (p+1) A k j) else if k=i then E p p else 0:=⟨_,fun _=>rfl⟩
    have hbi:b i=E p p:=by rw[hb,if_neg (by omega),if_pos rfl]
    refine⟨b,fun k hk h1 h2=>by rw[hb,if_neg (by omega),if_neg h2],fun h=>hbi,fun l hl=>?_⟩
    rw[LD (q:=p+1) (i:=i) (by omega) hi fun k h1 h2 h3=>by rw[hb,if_neg (by omega),if_neg h3,Int.zero_mul]]
    rw[hbi,if_neg (show ¬i=l by omega)]
    have e1:sN (p+1) (fun k=>b k*A k l)=sN (p+1) (fun k=>(-1)*sN (p+1) (fun j=>A i j*(Nr (p+1) A k j*A k l))):=Zq fun k hk=>by
     rw[hb,if_pos hk,Int.neg_mul,Int.mul_comm _ (A k l),<-Yf,Int.neg_mul,Int.one_mul]
     congr 1
     exact Zq fun j _=>by rw[Int.mul_comm (A k l),Int.mul_assoc]
    rw[e1,Yf,Rx]
    have e2:(sN (p+1) fun j=>sN (p+1) fun k=>A i j*(Nr (p+1) A k j*A k l))=A i l*E p p:=by
     rw[Zq (g:=fun j=>A i j*(if l=j then E p p else 0)) fun j hj=>by rw[Yf,cm j l hj hl]]
     rw[YD (k:=l) hl fun j _ hjl=>by rw[if_neg (fun z=>hjl z.symm),Int.mul_zero],if_pos rfl]
    rw[e2,Int.mul_comm (E p p)];omega
  refine⟨b,b1,b2,b3,?_⟩
  obtain⟨ai,Ri⟩:=I.row i hi
  have hw:∀k,k<m->E p p*ai k-E i p*ap k-d*b k=0:=by
   have hi2:∀k,k<m->p+1<=k->E p p*ai k-E i p*ap k-d*b k=0:=fun k hk h1=>by
    have zp:=Rp.off k hk (by omega) (by omega)
    by_cases q:k=i
    ·subst q
     rw[Ri.on (by omega),zp,b2 h1,Int.mul_comm d];omega
    ·rw[Ri.off k hk (by omega) q,zp,b1 k hk h1 q];omega
   intro k hk
   by_cases q:k<p+1
   ·refine ok.inj (p+1) (by omega) (fun k=>E p p*ai k-E i p*ap k-d*b k) (fun l hl=>?_) k q
    rw[<-SF (q:=p+1) (m:=m) (by omega) fun k h1 h2=>by rw[hi2 k h2 h1,Int.zero_mul]]
    have e1:sN m (fun k=>(E p p*ai k-E i p*ap k-d*b k)*A k l)=E p p*sN m (fun k=>ai k*A k l)+((- E i p)*sN m (fun k=>ap k*A k l)+(- d)*sN m (fun k=>b k*A k l)):=by
     rw[<-Yf,<-Yf,<-Yf,<-Yr,<-Yr]
     exact Zq fun k _=>by
      rw[Int.sub_mul,Int.sub_mul];simp only[Int.mul_assoc,Int.neg_mul];omega
    have eX:∀a:Nat->Int,sN m (fun k=>a k*X k l)=sN m (fun k=>a k*A k l):=fun a=>Zq fun k hk=>by rw[ok.ext k l hk (by omega)]
    rw[e1,b3 l hl,<-eX,<-eX,<-Ri.val l (by omega),<-Rp.val l (by omega)]
    by_cases q2:l=p
    ·subst q2
     rw[if_neg hip,Int.mul_comm (E l l),Int.neg_mul];omega
    ·rw[Ri.uni l (by omega),Rp.uni l (by omega),if_neg (show ¬p=l by omega)]
     by_cases q3:i=l
     ·rw[if_pos q3,if_pos q3,Int.neg_mul d,Int.mul_comm d];omega
     ·rw[if_neg q3,if_neg q3];omega
   ·exact hi2 k hk (by omega)
  intro j hj;rw[Ri.val j hj,Rp.val j hj,<-Yf,<-Yf,<-Yf]
  have:sN m (fun k=>E p p*(ai k*X k j))=sN m (fun k=>d*(b k*X k j))+sN m (fun k=>E i p*(ap k*X k j)):=by
   rw[<-Yr]
   refine Zq fun k hk=>?_
   have:=hw k hk
   rw[<-Int.mul_assoc,<-Int.mul_assoc,<-Int.mul_assoc,<-Int.add_mul]
   congr 1
   omega
  omega
 refine⟨⟨pd,pz,fun i hi=>?_⟩,fun i j hi hj hip=>?_⟩
 ·by_cases hip:i=p
  ·subst hip
   refine⟨ap,fun k hk h1 h2=>Rp.off k hk (by omega) h2,fun h=>by omega,fun j hj=>by rw[if_pos rfl];exact Rp.val j hj,fun j hj=>?_⟩
   rw[if_pos rfl]
   by_cases q:i=j
   ·subst q;rw[if_pos rfl]
   ·rw[if_neg q,Rp.uni j (by omega),if_neg q]
  ·obtain⟨b,b1,b2,b3,b4⟩:=other i hi hip
   have hv:∀j,j<=m->(E p p*E i j-E i p*E p j).fdiv d=sN m (fun k=>b k*X k j):=fun j hj=>by rw[b4 j hj,Int.mul_fdiv_cancel_left _ hd]
   refine⟨b,b1,b2,fun j hj=>by rw[if_neg hip];exact hv j hj,fun j hj=>?_⟩
   rw[if_neg hip,hv j (by omega),<-b3 j hj]
   exact Zq fun k hk=>by rw[ok.ext k j hk (by omega)]
 ·obtain⟨b,b1,b2,b3,b4⟩:=other i hi hip
  exact⟨_,b4 j hj⟩
theorem X5{m:Nat}{A X:Mt}(ok:EU m A X):∀{p:Nat},p<=m->EV m A X p (XI m X p).1 (XI m X p).2
 | 0,_=>⟨rfl,(show(1:Int)≠0 by decide),fun i hi=>⟨fun k=>if k=i then 1 else 0,fun k _ _ h=>if_neg h,fun _=>if_pos rfl,fun j hj=>by
   rw[YD (k:=i) hi fun k _ hk=>by rw[if_neg hk,Int.zero_mul],if_pos rfl,Int.one_mul];rfl,fun j hj=>by omega⟩⟩
 | p+1,h=>(QA ok (by omega) (X5 ok (p:=p) (by omega))).1
theorem KI{m:Nat}{A X:Mt}(ok:EU m A X){k:Nat}(hk:k<m):sN m (fun i=>A k i*(XI m X m).1 i m)=(XI m X m).2*X k m:=by
 have I:=X5 ok (Nat.le_refl m)
 generalize hE:(XI m X m).1=E at I ⊢
 generalize hd:(XI m X m).2=d at I ⊢
 have nz:=I.nz
 have hr:∀k,k<m->sN m (fun i=>A k i*sN m (fun j=>Nr m A i j*X j m))=d*X k m:=fun k hk=>by
  rw[Zq (g:=fun i=>sN m (fun j=>A k i*(Nr m A i j*X j m))) fun i _=>by rw[Yf]]
  rw[Rx,Zq (g:=fun j=>(if k=j then d else 0)*X j m) fun j hj=>by
   rw[I.de,<-LC (A:=A) hk hj,Int.mul_comm _ (X j m),<-Yf]
   exact Zq fun i _=>by rw[Int.mul_comm (X j m),Int.mul_assoc]]
  rw[YD (k:=k) hk fun j _ h=>by rw[if_neg (fun z=>h z.symm),Int.zero_mul],if_pos rfl]
 have he:∀i,i<m->E i m=sN m (fun j=>Nr m A i j*X j m):=fun i hi=>by
  obtain⟨a,R⟩:=I.row i hi
  refine Int.eq_of_mul_eq_mul_left nz ?_
  rw[R.val m (Nat.le_refl m),<-Yf]
  have e1:sN m (fun k=>d*(a k*X k m))=sN m (fun k=>a k*sN m (fun l=>A k l*sN m (fun j=>Nr m A l j*X j m))):=Zq fun k hk=>by rw[hr k hk,Int.mul_left_comm]
  rw[e1,Zq (g:=fun k=>sN m (fun l=>a k*A k l*sN m (fun j=>Nr m A l j*X j m))) fun k _=>by
   rw[<-Yf];exact Zq fun l _=>by rw[Int.mul_assoc]]
  rw[Rx,Zq (g:=fun l=>(if i=l then d else 0)*sN m (fun j=>Nr m A l j*X j m)) fun l hl=>by
   rw[<-R.uni l hl,R.val l (by omega),Int.mul_comm _ (sN m fun j=>Nr m A l j*X j m),<-Yf]
   exact Zq fun k hk=>by rw[ok.ext k l hk hl,Int.mul_comm]]
  rw[YD (k:=i) hi fun l _ h=>by rw[if_neg (fun z=>h z.symm),Int.zero_mul],if_pos rfl]
 rw[Zq (g:=fun i=>A k i*sN m (fun j=>Nr m A i j*X j m)) fun i hi=>by rw[he i hi]]
 exact hr k hk
open L2 VL
theorem IL{z:Int}(h:z.natAbs<2^1000):z.natAbs.log2<1000:=by
 by_cases h0:z.natAbs=0
 ·rw[h0];decide +kernel
 ·exact(Nat.log2_lt h0).mpr h
theorem Ov{a b:Int}(h:a.natAbs<2^1000)(h':b.natAbs<2^1000):CMulW a b:=⟨by have:=IL h;omega,by have:=IL h';omega⟩
theorem LE{a b:Int}(h0:b≠0)(h:b.natAbs<2^1000):Tw a b:=⟨h0,by have:=IL h;omega⟩
def Mb:Nat->Nat
 | 0=>2^7
 | p+1=>2*Mb p*Mb p
def Nb:Nat->Nat
 | 0=>2^208
 | p+1=>2*Mb p*Nb p
theorem DU{p:Nat}(h:p<=6):Mb p<2^1000:=by
 have:p=0\/p=1\/p=2\/p=3\/p=4\/p=5\/p=6:=by omega
 rcases this with rfl | rfl | rfl | rfl | rfl | rfl | rfl<;>decide +kernel
theorem CG{p:Nat}(h:p<=6):Nb p<2^1000:=by
 have:p=0\/p=1\/p=2\/p=3\/p=4\/p=5\/p=6:=by omega
 rcases this with rfl | rfl | rfl | rfl | rfl | rfl | rfl<;>decide +kernel
theorem LF{a b c d:Int}{M N:Nat}(ha:a.natAbs<=M)(hb:b.natAbs<=N)(hc:c.natAbs<=M)(hd:d.natAbs<=N):(a*b-c*d).natAbs<=2*M*N:=by
 have h1:(a*b).natAbs<=M*N:=by rw[Int.natAbs_mul];exact Nat.mul_le_mul ha hb
 have h2:(c*d).natAbs<=M*N:=by rw[Int.natAbs_mul];exact Nat.mul_le_mul hc hd
 have h3:(a*b-c*d).natAbs<=(a*b).natAbs+(c*d).natAbs:=by omega
 have h4:2*M*N=M*N+M*N:=by rw[Nat.mul_assoc];omega
 omega
theorem Nt{x d q:Int}(hd:d≠0)(e:x=d*q):(x.fdiv d).natAbs<=x.natAbs:=by
 rw[e,Int.mul_fdiv_cancel_left _ hd,Int.natAbs_mul]
 have:1<=d.natAbs:=by omega
 calc q.natAbs=1*q.natAbs:=by omega
  _<=d.natAbs*q.natAbs:=Nat.mul_le_mul_right _ this
theorem GZ(p:Nat):Mb p<=Mb (p+1):=by
 have h:∀p,1<=Mb p:=fun p=>by
  induction p with
  | zero=>decide
  | succ p ih=>show 1<=2*Mb p*Mb p;exact Nat.mul_le_mul (show 1<=2*Mb p by omega) ih
 show Mb p<=2*Mb p*Mb p
 calc Mb p=1*Mb p:=by omega
  _<=2*Mb p*Mb p:=Nat.mul_le_mul_right _ (by have:=h p;omega)
theorem G0(p:Nat):Nb p<=Nb (p+1):=by
 have h:∀p,1<=Mb p:=fun p=>by
  induction p with
  | zero=>decide
  | succ p ih=>show 1<=2*Mb p*Mb p;exact Nat.mul_le_mul (show 1<=2*Mb p by omega) ih
 show Nb p<=2*Mb p*Nb p
 calc Nb p=1*Nb p:=by omega
  _<=2*Mb p*Nb p:=Nat.mul_le_mul_right _ (by have:=h p;omega)
theorem SG{m:Nat}{A X:Mt}(ok:EU m A X)(h0:∀i j,i<m->j<m->(X i j).natAbs<=2^7)(h1:∀i,i<m->(X i m).natAbs<=2^208):∀{p:Nat},p<=m->(∀i j,i<m->j<m->((XI m X p).1 i j).natAbs<=Mb p)/\∀i,i<m->((XI m X p).1 i m).natAbs<=Nb p
 | 0,_=>⟨h0,h1⟩
 | p+1,hp=>by
  obtain⟨b1,b2⟩:=SG ok h0 h1 (p:=p) (by omega)
  have I:=X5 ok (p:=p) (by omega)
  have ex:=(QA ok (by omega) I).2
  refine⟨fun i j hi hj=>?_,fun i hi=>?_⟩
  ·show(if i=p then(XI m X p).1 i j else _).natAbs<=_
   split
   ·exact Nat.le_trans (b1 i j hi hj) (GZ p)
   ·rename_i hip
    obtain⟨q,e⟩:=ex i j hi (by omega) hip
    exact Nat.le_trans (Nt I.nz e) (LF (b1 p p (by omega) (by omega)) (b1 i j hi hj) (b1 i p hi (by omega)) (b1 p j (by omega) hj))
  ·show(if i=p then(XI m X p).1 i m else _).natAbs<=_
   split
   ·exact Nat.le_trans (b2 i hi) (G0 p)
   ·rename_i hip
    obtain⟨q,e⟩:=ex i m hi (by omega) hip
    exact Nat.le_trans (Nt I.nz e) (LF (b1 p p (by omega) (by omega)) (b2 i hi) (b1 i p hi (by omega)) (b2 p (by omega)))
def Ym(w:Nat)(f:Nat->Int):List Int:=(List.range w).map f
theorem XY(w:Nat)(f:Nat->Int):(Ym w f).length=w:=by simp[Ym]
theorem Ur{w:Nat}{f:Nat->Int}{j:Nat}(h:j<w):Zl (Ym w f) j=f j:=ZO h
theorem IM{l:List Int}:(Option.bind ((Option.bind (some (PV.lst (iL l))) fun x=>(Sg [] s).map (x::·)).bind Z5) fun l=>if ZM l=true then some l else none)=some (pP l):=by
 show(if ZM (pP l)=true then some (pP l) else none)=_
 rw[if_pos (by simp)]
theorem MP{w p:Nat}{f g:Nat->Int}{d:Int}(hw:w<=100)(hp:p<w)(hf:∀j,j<w->(f j).natAbs<2^1000)(hg:∀j,j<w->(g j).natAbs<2^1000)(hd:d≠0)(hdb:d.natAbs<2^1000) :
  XD [pP (Ym w f),pP (Ym w g),.int (p:Int),.int d]=some (pP (Ym w fun j=>(g p*f j-f p*g j).fdiv d)):=by
 have hz:Te (iL (Ym w f)) (iL (Ym w g))=(List.range w).map fun(j:Nat)=>.tup [.int (f j),.int (g j)]:=by
  rw[VQ _ _ (by simp[XY]),List.length_map,XY]
  apply List.map_congr_left
  intro i hi;have hi:=List.mem_range.mp hi
  rw[Vc _ i (by rw[XY];exact hi),Vc _ i (by rw[XY];exact hi),Ur hi,Ur hi]
 have hx:U0 false false [Za 0,Za 1] [some (pP (Ym w f)),some (pP (Ym w g)),some (.int (p:Int)),some (.int d)]=some ((List.range w).map fun(j:Nat)=>.tup [.int (f j),.int (g j)]):=by
  show some (Te (iL (Ym w f)) (iL (Ym w g)))=_
  rw[hz]
 have hc:Zy 2 [3,1,2,0] (U0 false false [(Za 0),(Za 1)]) (.many [0,1]) ZE (Zh U4 (Zh ZP (Zh WQ (Zh ZS (Za 3) (Za 4)) (Za 0)) (Zh WQ (Zh ZS (Za 5) (Za 4)) (Za 1))) (Za 2)) [some (pP (Ym w f)),some (pP (Ym w g)),some (.int (p:Int)),some (.int d)]=some (.lst (iL (Ym w fun j=>(g p*f j-f p*g j).fdiv d))):=by
  rw[Z2 (List.range w) (fun(j:Nat)=>.tup [.int (f j),.int (g j)]) (fun j=>.int ((g p*f j-f p*g j).fdiv d)) hx (by simp;omega) (fun j hj=>⟨[some (.int (f j)),some (.int (g j)),some (.int d),some (pP (Ym w g)),some (.int (p:Int)),some (pP (Ym w f))],rfl,rfl,?_⟩)]
  ·simp[Ym]
  ·have hj:=List.mem_range.mp hj
   have i1:=XC (l:=Ym w g) (k:=p) (by rw[XY];exact hp)
   have i2:=XC (l:=Ym w f) (k:=p) (by rw[XY];exact hp)
   rw[Ur hp] at i1 i2
   exact(vC (C:=Tw) (op:=Int.fdiv) (vI (vC (C:=CMulW) (op:=(· * ·)) (a:=g p) (b:=f j) i1 rfl (Ov (hg p hp) (hf j hj))) (vC (C:=CMulW) (op:=(· * ·)) (a:=f p) (b:=g j) i2 rfl (Ov (hf p hp) (hg j hj)))) rfl (LE hd hdb))
 show YU 4 UL _=_
 unfold UL
 show(Yo _ [some (pP (Ym w f)),some (pP (Ym w g)),some (.int (p:Int)),some (.int d)]).bind Xn=_
 rw[W5 (v:=pP (Ym w fun j=>(g p*f j-f p*g j).fdiv d)) (by rw[Xc,Zz,Zk,hc];exact IM)]
 rfl
def Vl(m w:Nat)(E:Mt):List (List Int):=(List.range m).map fun i=>Ym w (E i)
theorem G1(m w:Nat)(E:Mt):(Vl m w E).length=m:=by simp[Vl]
def tL(M:List (List Int)):List PV:=M.map pP
theorem QB(m w:Nat)(E:Mt):tL (Vl m w E)=(List.range m).map fun i=>pP (Ym w (E i)):=by
 unfold tL Vl;rw[List.map_map];rfl
theorem QC(m w:Nat)(E:Mt):(tL (Vl m w E)).length=m:=by simp[tL,G1]
theorem MQ{m w:Nat}{E:Mt}{i:Nat}(h:i<m):(tL (Vl m w E))[i]?=some (pP (Ym w (E i))):=by
 rw[QB,List.getElem?_map,List.getElem?_range h];rfl
theorem LG(M:List (List Int)):ZN (tL M)=true:=Qc M
theorem KJ{m w:Nat}{A X:Mt}(hm:m<=6)(hw:m<=w)(hw1:w<=m+1)(ok:EU m A X)(h0:∀i j,i<m->j<m->(X i j).natAbs<=2^7)(h1:∀i,i<m->(X i m).natAbs<=2^208){R:PV}(hR:R = .lst (tL (Vl m w X))\/R = .tup (tL (Vl m w X))) :
  Vu [R]=some (.tup [.int (XI m X m).2,.lst (tL (Vl m w (XI m X m).1))]):=by
 have bd:∀{p:Nat},p<=m->∀i j,i<m->j<m+1->((XI m X p).1 i j).natAbs<2^1000:=fun{p} hp i j hi hj=>by
  obtain⟨b1,b2⟩:=SG ok h0 h1 hp
  by_cases q:j<m
  ·exact Nat.lt_of_le_of_lt (b1 i j hi q) (DU (by omega))
  ·rw[show j=m by omega];exact Nat.lt_of_le_of_lt (b2 i hi) (CG (by omega))
 have db:∀{p:Nat},p<=m->(XI m X p).2.natAbs<2^1000:=fun{p} hp=>by
  cases p with
  | zero=>show(1:Int).natAbs<_;decide +kernel
  | succ p=>exact bd (p:=p) (by omega) p p (by omega) (by omega)
 let st:Nat->Option PV->Option PV->ZU:=fun p x3 x4=>[some R,some (.lst (tL (Vl m w (XI m X p).1))),some (.int (XI m X p).2),x3,x4]
 have e1:Zr 1 (Ze Uf [(Za 0)]) [some R,none,none,none,none]=some (.nx [some R,some (.lst (tL (Vl m w X))),none,none,none]):=by
  have:Ze Uf [(Za 0)] [some R,none,none,none,none]=some (.lst (tL (Vl m w X))):=by
   show Uf [R]=_
   rcases hR with rfl | rfl
   ·rw[J0,if_pos (LG _)]
   ·rw[JZ,if_pos (LG _)]
  rw[Zm,this];rfl
 have e2:Zr 2 (eP (eC (.int 1))) [some R,some (.lst (tL (Vl m w X))),none,none,none]=some (.nx (st 0 none none)):=by
  rw[Zm,vP (a:=1) rfl];rfl
 let fb:XS:=(Zs (Zr 4 (eP (Zh ZS (Za 1) (Za 3))))
  (Zs (Zr 1 (Zy 2 [3,4,2] (Xj true [(Za 1)]) (.many [0,1]) ZE (eP (OY (xB (Zh (V5 false) (Za 0) (Za 2))) (Za 1) (Ze XD [(Za 1),(Za 3),(Za 2),(Za 4)])))))
  (Zr 2 (eP (Zh ZS (Za 4) (Za 3))))))
 obtain⟨s',f1,x3,x4,hs⟩:=YO (T:=.one 3) (fb:=fb) (ls:=V6 m) (s:=st 0 none none) (fun p s=>∃x3 x4,s=st p x3 x4) ⟨none,none,rfl⟩ (by
  rintro p l s hl ⟨x3,x4,rfl⟩
  obtain⟨hp,rfl⟩:=WN hl
  generalize hE:(XI m X p).1=E
  generalize hd:(XI m X p).2=d
  have I:=X5 ok (p:=p) (by omega)
  have bE:∀i j,i<m->j<w->(E i j).natAbs<2^1000:=by rw[<-hE];exact fun i j hi hj=>bd (by omega) i j hi (by omega)
  have bD:d.natAbs<2^1000:=by rw[<-hd];exact db (by omega)
  rw[hE,hd] at I
  let E':Mt:=fun i j=>if i=p then E i j else(E p p*E i j-E i p*E p j).fdiv d
  have hs1:(XI m X (p+1)).1=E':=by
   show(fun i j=>if i=p then(XI m X p).1 i j else((XI m X p).1 p p*(XI m X p).1 i j-(XI m X p).1 i p*(XI m X p).1 p j).fdiv (XI m X p).2)=E'
   rw[hE,hd]
  have hs2:(XI m X (p+1)).2=E p p:=by rw[<-hE];rfl
  have q0:st p (some (.int (p:Int))) x4=[some R,some (.lst (tL (Vl m w E))),some (.int d),some (.int (p:Int)),x4]:=by rw[<-hE,<-hd]
  have q1:Zr 4 (eP (Zh ZS (Za 1) (Za 3))) [some R,some (.lst (tL (Vl m w E))),some (.int d),some (.int (p:Int)),x4]=some (.nx [some R,some (.lst (tL (Vl m w E))),some (.int d),some (.int (p:Int)),some (pP (Ym w (E p)))]):=by
   have:TY (tL (Vl m w E)) (p:Int)=some (pP (Ym w (E p))):=Vz (MQ hp)
   have:eP (Zh ZS (Za 1) (Za 3)) [some R,some (.lst (tL (Vl m w E))),some (.int d),some (.int (p:Int)),x4]=some (pP (Ym w (E p))):=by
    show(Option.bind (TY (tL (Vl m w E)) (p:Int)) fun l=>if ZM l=true then some l else none)=_
    rw[this]
    show(if ZM (pP (Ym w (E p)))=true then _ else _)=_
    rw[if_pos (by simp)]
   rw[Zm,this];rfl
  have q2:Zr 1 (Zy 2 [3,4,2] (Xj true [(Za 1)]) (.many [0,1]) ZE (eP (OY (xB (Zh (V5 false) (Za 0) (Za 2))) (Za 1) (Ze XD [(Za 1),(Za 3),(Za 2),(Za 4)])))) [some R,some (.lst (tL (Vl m w E))),some (.int d),some (.int (p:Int)),some (pP (Ym w (E p)))]=some (.nx [some R,some (.lst (tL (Vl m w E'))),some (.int d),some (.int (p:Int)),some (pP (Ym w (E p)))]):=by
   have hx:Xj true [Za 1] [some R,some (.lst (tL (Vl m w E))),some (.int d),some (.int (p:Int)),some (pP (Ym w (E p)))]=some ((List.range m).map fun(i:Nat)=>.tup [.int (i:Int),pP (Ym w (E i))]):=by
    show some (W9 (tL (Vl m w E)))=_
    rw[Uj,QC]
    congr 1
    apply List.map_congr_left
    intro i hi;have hi:=List.mem_range.mp hi
    rw[List.getD_eq_getElem?_getD,MQ hi];rfl
   have hc:Zy 2 [3,4,2] (Xj true [(Za 1)]) (.many [0,1]) ZE (eP (OY (xB (Zh (V5 false) (Za 0) (Za 2))) (Za 1) (Ze XD [(Za 1),(Za 3),(Za 2),(Za 4)]))) [some R,some (.lst (tL (Vl m w E))),some (.int d),some (.int (p:Int)),some (pP (Ym w (E p)))]=some (.lst (tL (Vl m w E'))):=by
    rw[Z2 (List.range m) (fun(i:Nat)=>.tup [.int (i:Int),pP (Ym w (E i))]) (fun i=>pP (Ym w (E' i))) hx (by simp;omega) (fun i hi=>⟨[some (.int (i:Int)),some (pP (Ym w (E i))),some (.int (p:Int)),some (pP (Ym w (E p))),some (.int d)],rfl,rfl,?_⟩),QB]
    have hi:=List.mem_range.mp hi
    have ev:OY (xB (Zh (V5 false) (Za 0) (Za 2))) (Za 1) (Ze XD [(Za 1),(Za 3),(Za 2),(Za 4)]) [some (.int (i:Int)),some (pP (Ym w (E i))),some (.int (p:Int)),some (pP (Ym w (E p))),some (.int d)]=some (pP (Ym w (E' i))):=by
     by_cases q:i=p
     ·have t:xB (Zh (V5 false) (Za 0) (Za 2)) [some (.int (i:Int)),some (pP (Ym w (E i))),some (.int (p:Int)),some (pP (Ym w (E p))),some (.int d)]=some true:=by simp[q]
      rw[UC,t]
      have:E' i=E i:=by funext j;show(if i=p then _ else _)=_;rw[if_pos q]
      rw[this];rfl
     ·have q':¬(i:Int)=(p:Int):=by omega
      have t:xB (Zh (V5 false) (Za 0) (Za 2)) [some (.int (i:Int)),some (pP (Ym w (E i))),some (.int (p:Int)),some (pP (Ym w (E p))),some (.int d)]=some false:=by simp[q']
      rw[UC,t]
      have:E' i=fun j=>(E p p*E i j-E i p*E p j).fdiv d:=by funext j;show(if i=p then _ else _)=_;rw[if_neg q]
      rw[this]
      exact MP (f:=E i) (g:=E p) (by omega) (by omega) (fun j hj=>bE i j hi hj) (fun j hj=>bE p j hp hj) I.nz bD
    rw[Xc,ev]
    show(if ZM (pP (Ym w (E' i)))=true then _ else _)=_
    rw[if_pos (by simp)]
   rw[Zm,hc];rfl
  have q3:Zr 2 (eP (Zh ZS (Za 4) (Za 3))) [some R,some (.lst (tL (Vl m w E'))),some (.int d),some (.int (p:Int)),some (pP (Ym w (E p)))]=some (.nx [some R,some (.lst (tL (Vl m w E'))),some (.int (E p p)),some (.int (p:Int)),some (pP (Ym w (E p)))]):=by
   have:=XC (l:=Ym w (E p)) (k:=p) (by rw[XY];omega)
   rw[Ur (by omega)] at this
   rw[Zm,vP (a:=E p p) this];rfl
  refine⟨st p (some (.int (p:Int))) x4,st (p+1) (some (.int (p:Int))) (some (pP (Ym w (E p)))),rfl,?_,_,_,rfl⟩
  rw[q0]
  show Zs _ _ _=_
  rw[ZK q1,ZK q2,q3]
  show _=some (Out.nx [some R,some (.lst (tL (Vl m w (XI m X (p+1)).1))),some (.int (XI m X (p+1)).2),_,_])
  rw[hs1,hs2])
 subst hs;rw[WO] at f1
 have e3:XQ [1] (ZT [(Ze Yb [(Za 0)])]) (.one 3) fb (st 0 none none)=some (.nx (st m x3 x4)):=by
  show(ZT [(Ze Yb [(Za 0)])] (YG [1] (st 0 none none))).bind _=_
  have:Ze Yb [(Za 0)] (YG [1] (st 0 none none))=some (.int (m:Int)):=by
   rcases hR with rfl | rfl
   ·show some (PV.int ((tL (Vl m w X)).length:Int))=_
    rw[QC]
   ·show some (PV.int ((tL (Vl m w X)).length:Int))=_
    rw[QC]
  rw[Yt (n:=m) this (by omega)];exact f1
 show YU 5 TB _=_
 unfold TB
 show(Zs _ _ [some R,none,none,none,none]).bind Xn=_
 rw[ZK e1,ZK e2,ZK e3];rfl
theorem KM{m:Nat}{A X:Mt}(hm:m<=6)(ok:EU m A X)(h0:∀i j,i<m->j<m->(X i j).natAbs<=2^7)(h1:∀i,i<m->(X i m).natAbs<=2^208) :
  YX [wP (Vl m m A),pP (Ym m fun i=>X i m)]=some (.lst (iL (Ym m fun i=>((XI m X m).1 i m).fdiv (XI m X m).2))):=by
 let R:PV:=wP (Vl m m A)
 let Cc:PV:=pP (Ym m fun i=>X i m)
 let T:PV:=.tup [.int (XI m X m).2,.lst (tL (Vl m (m+1) (XI m X m).1))]
 have e1:Zr 2 (Ze Vu [(Zy 2 [] (U0 false false [(Za 0),(Za 1)]) (.many [0,1]) ZE (Zh Y6 (Za 0) (Xv [(Za 1)])))]) [some R,some Cc,none]=some (.nx [some R,some Cc,some T]):=by
  have hz:Te (tL (Vl m m A)) (iL (Ym m fun i=>X i m))=(List.range m).map fun(i:Nat)=>.tup [pP (Ym m (A i)),.int (X i m)]:=by
   rw[VQ _ _ (by rw[QC,List.length_map,XY]),QC]
   apply List.map_congr_left
   intro i hi;have hi:=List.mem_range.mp hi
   rw[Vc _ i (by rw[XY];exact hi),Ur hi,List.getD_eq_getElem?_getD,MQ hi];rfl
  have hx:U0 false false [Za 0,Za 1] [some R,some Cc,none]=some ((List.range m).map fun(i:Nat)=>.tup [pP (Ym m (A i)),.int (X i m)]):=by
   show some (Te (tL (Vl m m A)) (iL (Ym m fun i=>X i m)))=_
   rw[hz]
  have hc:Zy 2 [] (U0 false false [(Za 0),(Za 1)]) (.many [0,1]) ZE (Zh Y6 (Za 0) (Xv [(Za 1)])) [some R,some Cc,none]=some (.lst (tL (Vl m (m+1) X))):=by
   rw[Z2 (List.range m) (fun(i:Nat)=>.tup [pP (Ym m (A i)),.int (X i m)]) (fun i=>pP (Ym (m+1) (X i))) hx (by simp;omega) (fun i hi=>⟨[some (pP (Ym m (A i))),some (.int (X i m))],rfl,rfl,?_⟩),QB]
   have hi:=List.mem_range.mp hi
   have hl:(iL (Ym m (A i))).length+[PV.int (X i m)].length<=10000:=by simp[XY];omega
   have e:Y6 (pP (Ym m (A i))) (.tup [.int (X i m)])=some (.tup (iL (Ym m (A i))++[.int (X i m)])):=by
    show(if _ then _ else _)=_
    rw[if_pos hl]
   have e2:iL (Ym m (A i))++[PV.int (X i m)]=iL (Ym (m+1) (X i)):=by
    unfold Ym;rw[List.range_succ,List.map_append]
    simp
    exact fun j hj=>(ok.ext i j hi hj).symm
   show(Zh Y6 (Za 0) (Xv [(Za 1)])) [some (pP (Ym m (A i))),some (.int (X i m))]=some (.tup (iL (Ym (m+1) (X i))))
   rw[<-e2,<-e];rfl
  have:Ze Vu [(Zy 2 [] (U0 false false [(Za 0),(Za 1)]) (.many [0,1]) ZE (Zh Y6 (Za 0) (Xv [(Za 1)])))] [some R,some Cc,none]=some T:=by
   rw[Zz,Zk,hc]
   exact KJ hm (by omega) (by omega) ok h0 h1 (.inl rfl)
  rw[Zm,this];rfl
 have I:=X5 ok (Nat.le_refl m)
 have bD:(XI m X m).2.natAbs<2^1000:=by
  obtain⟨b1,b2⟩:=SG ok h0 h1 (p:=m-1) (by omega)
  by_cases q:m=0
  ·rw[q];show(1:Int).natAbs<_;decide +kernel
  ·have:(XI m X m).2=(XI m X (m-1)).1 (m-1) (m-1):=by
    obtain⟨k,rfl⟩:∃k,m=k+1:=⟨m-1,by omega⟩
    rfl
   rw[this]
   exact Nat.lt_of_le_of_lt (b1 _ _ (by omega) (by omega)) (DU (by omega))
 have hc:Zy 1 [2] (Wo (Zh ZS (Za 2) (eC (.int 1)))) (.one 0) ZE (eP (Zh U4 (Zh ZS (Za 0) (SR W0 (eC (.int 1)))) (Zh ZS (Za 1) (eC (.int 0))))) [some R,some Cc,some T]=some (.lst (iL (Ym m fun i=>((XI m X m).1 i m).fdiv (XI m X m).2))):=by
  have hx:Wo (Zh ZS (Za 2) (eC (.int 1))) [some R,some Cc,some T]=some ((List.range m).map fun i=>pP (Ym (m+1) ((XI m X m).1 i))):=by
   show some (tL (Vl m (m+1) (XI m X m).1))=_
   rw[QB]
  rw[Z2 (List.range m) (fun i=>pP (Ym (m+1) ((XI m X m).1 i))) (fun i=>.int (((XI m X m).1 i m).fdiv (XI m X m).2)) hx (by simp;omega) (fun i hi=>⟨[some (pP (Ym (m+1) ((XI m X m).1 i))),some T],rfl,rfl,?_⟩)]
  ·simp[Ym]
  ·have hi:=List.mem_range.mp hi
   have ix:TY (iL (Ym (m+1) ((XI m X m).1 i))) (-1)=some (.int ((XI m X m).1 i m)):=by
    have:OF (iL (Ym (m+1) ((XI m X m).1 i))).length (-1)=some m:=by
     rw[List.length_map,XY];unfold OF;rw[if_neg (by omega),if_pos (by omega)]
     congr 1
     omega
    unfold TY;rw[this]
    show(iL (Ym (m+1) ((XI m X m).1 i)))[m]?=_
    rw[Mc (by rw[XY];omega),Ur (by omega)]
   exact vP (vC (C:=Tw) (op:=Int.fdiv) ix rfl (LE I.nz bD))
 show YU 3 XU _=_
 unfold XU
 show(Zs _ _ [some R,some Cc,none]).bind Xn=_
 rw[ZK e1,W5 hc];rfl
def WG(b i:Nat):Nat:=if i<b then i else i+1
def LH(b h:Nat):Nat:=if h<b then h else h-1
theorem IN(b i:Nat):WG b i≠b:=by unfold WG;split<;>omega
theorem VZ{b i m:Nat}(h:i<m):WG b i<m+1:=by unfold WG;split<;>omega
theorem LI(b i:Nat):LH b (WG b i)=i:=by unfold LH WG;split<;>(try split)<;>omega
theorem Rz{b h:Nat}(q:h≠b):WG b (LH b h)=h:=by unfold LH WG;split<;>(try split)<;>omega
theorem MR{b h m:Nat}(hb:b<m+1)(hh:h<m+1)(q:h≠b):LH b h<m:=by unfold LH;split<;>omega
theorem Nu{n b:Nat}(hn:n<=7)(hb:b<n):(List.range n).filter (fun h=>!decide (h=b))=(List.range (n-1)).map (WG b):=by
 have:∀n,n<8->∀b,b<8->b<n->(List.range n).filter (fun h=>!decide (h=b))=(List.range (n-1)).map (WG b):=by decide
 exact this n (by omega) b (by omega) hb
theorem IP{f:Nat->Int}{b:Nat}(h0:f b=0):∀{m:Nat},b<m+1->sN (m+1) f=sN m (fun i=>f (WG b i))
 | 0,h=>by
  have:b=0:=by omega
  subst this
  show 0+f 0=0
  rw[h0];rfl
 | m+1,h=>by
  by_cases q:b=m+1
  ·subst q
   show sN (m+1) f+f (m+1)=_
   rw[h0,Int.add_zero]
   exact Zq fun i hi=>by unfold WG;rw[if_pos hi]
  ·show sN (m+1) f+f (m+1)=sN m (fun i=>f (WG b i))+f (WG b m)
   rw[IP h0 (m:=m) (by omega),show WG b m=m+1 by unfold WG;rw[if_neg (by omega)]]
theorem Us{f:Nat->Int}:∀{n:Nat},(∀i,i<n->0<=f i)->sN n f<=0->∀i,i<n->f i=0
 | 0,_,_,i,h=>by omega
 | n+1,h,s,i,hi=>by
  have s:sN n f+f n<=0:=s
  have h1:0<=sN n f:=by
   have:∀k,k<=n->0<=sN k f:=by
    intro k
    induction k with
    | zero=>intro _;exact Int.le_refl 0
    | succ k ih=>intro hk;have:=ih (by omega);have:=h k (by omega);show 0<=sN k f+f k;omega
   exact this n (Nat.le_refl n)
  have h2:=h n (by omega)
  by_cases q:i=n
  ·subst q;omega
  ·exact Us (n:=n) (fun i hi=>h i (by omega)) (by omega) i (by omega)
theorem Yu{f:Nat->Int}:∀{n:Nat},(∀i,i<n->0<=f i)->0<=sN n f
 | 0,_=>Int.le_refl 0
 | n+1,h=>by
  have:=Yu (n:=n) fun i hi=>h i (by omega)
  have:=h n (by omega)
  show 0<=sN n f+f n
  omega
theorem QD(Y:Nat->Int):∀{n:Nat},0<n->∃h,h<n/\∀g,g<n->Y h<=Y g
 | 0,h=>by omega
 | 1,_=>⟨0,by omega,fun g hg=>by rw[show g=0 by omega];exact Int.le_refl _⟩
 | n+2,_=>by
  obtain⟨h,h1,h2⟩:=QD Y (n:=n+1) (by omega)
  by_cases q:Y h<=Y (n+1)
  ·exact⟨h,by omega,fun g hg=>by
    by_cases e:g=n+1
    ·rw[e];exact q
    ·exact h2 g (by omega)⟩
  ·exact⟨n+1,by omega,fun g hg=>by
    by_cases e:g=n+1
    ·rw[e];exact Int.le_refl _
    ·have:=h2 g (by omega);omega⟩
def gN(W:List (List Int))(Y:Nat->Int)(h:Nat):Int:=sN W.length (fun g=>Ya W h g*(Y g-Y h))
theorem G4{W:List (List Int)}(ok:ZF W)(cn:Vj W){Y:Nat->Int}{b:Nat}(hb:b<W.length)(hyp:∀h,h<W.length->h≠b->Y h<Y b->gN W Y h<=0):∀h,h<W.length->Y b<=Y h:=by
 intro h hh
 refine Int.not_lt.mp fun hlt=>?_
 obtain⟨h0,l0,m0⟩:=QD Y (n:=W.length) (by omega)
 have lt0:Y h0<Y b:=by have:=m0 h hh;omega
 have step:∀a c,a<W.length->c<W.length->0<Ya W a c->Y a=Y h0->Y c=Y h0:=fun a c ha hc hp ea=>by
  have s:=hyp a ha (fun z=>by rw[z] at ea;omega) (by omega)
  have t:=Us (f:=fun g=>Ya W a g*(Y g-Y a)) (fun g hg=>Int.mul_nonneg (ok.lo a g ha hg) (by have:=m0 g hg;omega)) s c hc
  have:Y c-Y a=0:=by
   rcases Int.mul_eq_zero.mp t with z | z
   ·omega
   ·exact z
  omega
 have:=(cn (fun x=>Y x=Y h0) (fun a c ha hc hp=>⟨step a c ha hc hp,step c a hc ha (by rw[ok.sym c a hc ha];exact hp)⟩) h0 b l0 hb).mp rfl
 omega
theorem Ox{W:List (List Int)}(Y Z:Nat->Int)(h:Nat):gN W (fun x=>Y x+Z x) h=gN W Y h+gN W Z h:=by
 unfold gN;rw[<-Yr]
 exact Zq fun g _=>by
  show Ya W h g*(Y g+Z g-(Y h+Z h))=_
  rw[<-Int.mul_add];congr 1;omega
theorem V0{W:List (List Int)}(c:Int)(Y:Nat->Int)(h:Nat):gN W (fun x=>c*Y x) h=c*gN W Y h:=by
 unfold gN;rw[<-Yf]
 exact Zq fun g _=>by
  show Ya W h g*(c*Y g-c*Y h)=_
  rw[<-Int.mul_sub,Int.mul_left_comm]
theorem QE{W:List (List Int)}{Y Z:Nat->Int}{h:Nat}(hh:h<W.length)(e:∀g,g<W.length->Y g=Z g):gN W Y h=gN W Z h:=Zq fun g hg=>by rw[e g hg,e h hh]
theorem G5(W:List (List Int))(S:List Int)(h:Nat):Wf W S h=gN W (Zl S) h:=by
 unfold Wf gN;rw[YS]
def V8(W:List (List Int))(b:Nat):Mt:=fun i j=>if WG b j=WG b i then(ZB W (WG b i)).sum else-Ya W (WG b i) (WG b j)
def Wi(W:List (List Int))(b:Nat)(c:Nat->Int):Mt:=fun i j=>if j<W.length-1 then V8 W b i j else c (WG b i)
theorem IQ{W:List (List Int)}(ok:ZF W){b:Nat}(hb:b<W.length){Y:Nat->Int}(h0:Y b=0){k:Nat}(hk:k<W.length-1):gN W Y (WG b k) = - sN (W.length-1) (fun i=>V8 W b k i*Y (WG b i)):=by
 have hp:=ok.pos
 obtain⟨m,hm⟩:∃m,W.length=m+1:=⟨W.length-1,by omega⟩
 have hm1:W.length-1=m:=by omega
 rw[hm1] at hk ⊢
 generalize hh:WG b k=h
 have hhn:h<W.length:=by rw[hm,<-hh];exact VZ hk
 have e1:sN m (fun i=>V8 W b k i*Y (WG b i))=sN (m+1) (fun g=>(if g=h then(ZB W h).sum else-Ya W h g)*Y g):=by
  rw[IP (b:=b) (f:=fun g=>(if g=h then(ZB W h).sum else-Ya W h g)*Y g) (by rw[h0,Int.mul_zero]) (by omega)]
  exact Zq fun i _=>by unfold V8;rw[hh]
 have e2:sN (m+1) (fun g=>(if g=h then(ZB W h).sum else-Ya W h g)*Y g)=(-1)*sN (m+1) (fun g=>Ya W h g*Y g)+(ZB W h).sum*Y h:=by
  have:sN (m+1) (fun g=>if g=h then(ZB W h).sum*Y h else 0)=(ZB W h).sum*Y h:=by
   rw[YD (k:=h) (by omega) fun i _ hi=>if_neg hi,if_pos rfl]
  rw[<-this,<-Yf,<-Yr]
  refine Zq fun g hg=>?_
  by_cases q:g=h
  ·subst q
   rw[if_pos rfl,if_pos rfl,ok.dia g hhn];omega
  ·rw[if_neg q,if_neg q,Int.neg_mul,Int.neg_mul,Int.one_mul];omega
 have e3:(ZB W h).sum=sN (m+1) (fun g=>Ya W h g):=by rw[WA ok hhn,YS,hm]
 have e4:gN W Y h=sN (m+1) (fun g=>Ya W h g*Y g)+(- Y h)*sN (m+1) (fun g=>Ya W h g):=by
  unfold gN;rw[hm,<-Yf,<-Yr]
  exact Zq fun g _=>by rw[Int.mul_sub,Int.mul_comm (- Y h),Int.mul_neg];omega
 rw[e4,e1,e2,e3,Int.mul_comm (sN (m+1) fun g=>Ya W h g) (Y h),Int.neg_mul];omega
theorem MS{W:List (List Int)}(ok:ZF W)(cn:Vj W){b:Nat}(hb:b<W.length)(c:Nat->Int):EU (W.length-1) (V8 W b) (Wi W b c):=by
 have hp:=ok.pos
 obtain⟨m,hm⟩:∃m,W.length=m+1:=⟨W.length-1,by omega⟩
 have hm1:W.length-1=m:=by omega
 have sym:∀i j,i<m->j<m->V8 W b i j=V8 W b j i:=fun i j hi hj=>by
  unfold V8
  by_cases q:WG b j=WG b i
  ·rw[if_pos q,if_pos q.symm,q]
  ·rw[if_neg q,if_neg (fun z=>q z.symm),ok.sym _ _ (by rw[hm];exact VZ hi) (by rw[hm];exact VZ hj)]
 rw[hm1]
 refine⟨sym,fun p hp' z hz k hk=>?_,fun i j hi hj=>by unfold Wi;rw[hm1,if_pos hj]⟩
 obtain⟨Z,hZ⟩:∃Z:Nat->Int,∀h,Z h=if h=b then 0 else if LH b h<p then z (LH b h) else 0:=⟨_,fun _=>rfl⟩
 have Zb:Z b=0:=by rw[hZ,if_pos rfl]
 have Zo:∀i,Z (WG b i)=if i<p then z i else 0:=fun i=>by rw[hZ,if_neg (IN b i),LI]
 have flat:∀j,j<p->gN W Z (WG b j)=0:=fun j hj=>by
  rw[IQ ok hb Zb (by omega),hm1]
  have e:sN m (fun i=>V8 W b j i*Z (WG b i))=sN p (fun k=>z k*V8 W b k j):=by
   rw[SF (q:=p) hp' fun k h1 h2=>by rw[Zo,if_neg (by omega),Int.mul_zero]]
   exact Zq fun k hk=>by rw[Zo,if_pos hk,sym j k (by omega) (by omega),Int.mul_comm]
  rw[e,hz j hj];rfl
 have off:∀h,h<W.length->Z h≠0->gN W Z h=0:=fun h hh ne=>by
  have hb':h≠b:=fun z=>ne (by rw[z];exact Zb)
  have hi:LH b h<p:=by
   refine Nat.not_le.mp fun q=>ne ?_
   rw[hZ,if_neg hb',if_neg (by omega)]
  have:=flat _ hi
  rw[Rz hb'] at this;exact this
 have up:=G4 ok cn (Y:=Z) hb (fun h hh _ hlt=>by rw[off h hh (by rw[Zb] at hlt;omega)];exact Int.le_refl _)
 have dn:=G4 ok cn (Y:=fun x=>(-1)*Z x) hb (fun h hh _ hlt=>by
  simp only[Zb] at hlt
  rw[V0,off h hh (by omega)];decide)
 have h1:=up (WG b k) (by rw[hm];exact VZ (by omega))
 have h2:=dn (WG b k) (by rw[hm];exact VZ (by omega))
 simp only[Zb,Zo,if_pos hk] at h1 h2
 omega
theorem Pv{W:List (List Int)}(ok:ZF W)(cn:Vj W){b:Nat}(hb:b<W.length)(c:Nat->Int) :
  ∃R:Nat->Int,R b=0/\(∀i,i<W.length-1->R (WG b i)=(XI (W.length-1) (Wi W b c) (W.length-1)).1 i (W.length-1))/\∀h,h<W.length->h≠b->gN W R h = - ((XI (W.length-1) (Wi W b c) (W.length-1)).2*c h):=by
 have hp:=ok.pos;have bk:=MS ok cn hb c
 obtain⟨R,hR⟩:∃R:Nat->Int,∀h,R h=if h=b then 0 else(XI (W.length-1) (Wi W b c) (W.length-1)).1 (LH b h) (W.length-1):=⟨_,fun _=>rfl⟩
 have Rb:R b=0:=by rw[hR,if_pos rfl]
 have Ro:∀i,R (WG b i)=(XI (W.length-1) (Wi W b c) (W.length-1)).1 i (W.length-1):=fun i=>by rw[hR,if_neg (IN b i),LI]
 refine⟨R,Rb,fun i _=>Ro i,fun h hh hne=>?_⟩
 have hk:LH b h<W.length-1:=MR (m:=W.length-1) (by omega) (by omega) hne
 have e:=IQ ok hb Rb hk;rw[Rz hne] at e;have s:=KI bk hk
 have x:Wi W b c (LH b h) (W.length-1)=c h:=by unfold Wi;rw[if_neg (by omega),Rz hne]
 rw[x] at s;rw[e,<-s]
 congr 1
 exact Zq fun i _=>by rw[Ro]
theorem IR(l:List Int)(g:Int->Int):l.map g=(List.range l.length).map fun i=>g (Zl l i):=by
 refine XA (by simp) fun i hi=>?_
 rw[List.length_map] at hi;rw[ZO (by omega)];simp[Zl,List.getD_eq_getElem?_getD,List.getElem?_eq_getElem hi]
theorem QF{n:Nat}{ix:List Nat}{fi:XL}{ft:XT}{fe:XE}{s:ZU}{l:List Int}(g:Int->Int)(hfi:fi s=some (iL l))(hl:l.length<=1000)(h:∀x∈l,∃s1,Va (.one 0) (.int x) (Yc n ix s)=some s1/\ft s1=some true/\fe s1=some (.int (g x))) :
  Zy n ix fi (.one 0) ft fe s=some (.lst (iL (l.map g))):=by
 rw[Z2 l (fun(x:Int)=>.int x) (fun x=>.int (g x)) hfi (by omega) (fun x hx=>h x hx)]
 simp
theorem QG{l:List Int}(hp:0<l.length)(hl:l.length<=1000):X9 [pP l]=some (pP (Z8 l)):=by
 have hc:Zy 1 [1] (UZ (Za 0)) (.one 0) ZE (Zh ZP (Za 0) (Za 1)) [some (pP l),some (.int (Xd l))]=some (.lst (iL (Z8 l))):=by
  rw[show Z8 l=l.map fun x=>x-Xd l from(IR l fun x=>x-Xd l).symm]
  exact QF (fun x=>x-Xd l) (J3 rfl) hl fun x hx=>⟨_,rfl,rfl,by simp[Yc]⟩
 have hm:=Gz Xd (l:=l) (List.length_pos_iff.mp hp)
 simp[X9,Of,YU,Yv,hm,hc]
theorem KN{W:List (List Int)}{h m:Nat}{f:Nat->Nat}(ok:ZF W)(hh:h<W.length)(hm:m<=6)(hf:∀i,i<m->f i<W.length) :
  Ul [wP W,.int (h:Int),.lst (iL (nL ((List.range m).map f)))]=some (pP (Ym m fun j=>if f j=h then(ZB W h).sum else-Ya W h (f j))):=by
 have hc:Zy 1 [1,0] (Wo (Za 2)) (.one 0) ZE (OY (xB (Zh (V5 false) (Za 0) (Za 1))) (Ze Xo [(Za 2),(Za 1)]) (SR W0 (Zh ZS (Zh ZS (Za 2) (Za 1)) (Za 0)))) [some (wP W),some (.int (h:Int)),some (.lst (iL (nL ((List.range m).map f))))]=some (.lst (iL (Ym m fun j=>if f j=h then(ZB W h).sum else-Ya W h (f j)))):=by
  rw[Z2 (List.range m) (fun(j:Nat)=>.int ((f j:Nat):Int)) (fun j=>.int (if f j=h then(ZB W h).sum else-Ya W h (f j))) (by simp[nL]) (by simp;omega) (fun j hj=>⟨[some (.int ((f j:Nat):Int)),some (.int (h:Int)),some (wP W)],rfl,rfl,?_⟩)]
  ·simp[Ym]
  ·have hj:=List.mem_range.mp hj
   have hfj:=hf j hj
   by_cases q:f j=h
   ·have t:xB (Zh (V5 false) (Za 0) (Za 1)) [some (.int ((f j:Nat):Int)),some (.int (h:Int)),some (wP W)]=some true:=by simp[q]
    rw[if_pos q];rw[UC,t]
    exact Qu hh
   ·have q':¬((f j:Nat):Int)=(h:Int):=by omega
    have t:xB (Zh (V5 false) (Za 0) (Za 1)) [some (.int ((f j:Nat):Int)),some (.int (h:Int)),some (wP W)]=some false:=by simp[q']
    rw[if_neg q];rw[UC,t]
    have:=XC (l:=ZB W h) (k:=f j) (by rw[ok.sq h hh];exact hfj)
    simp[Ts hh,this,W0];rfl
 show YU 3 TC _=_
 unfold TC
 show(Yo _ [some (wP W),some (.int (h:Int)),some (.lst (iL (nL ((List.range m).map f))))]).bind Xn=_
 rw[W5 (v:=pP (Ym m fun j=>if f j=h then(ZB W h).sum else-Ya W h (f j))) (by rw[Xc,Zz,Zk,hc];exact IM)]
 rfl
theorem TR{W:List (List Int)}{b:Nat}(ok:ZF W)(hb:b<W.length) :
  Yp [wP W,.int (b:Int)]=some (wP (Vl (W.length-1) (W.length-1) (V8 W b))):=by
 have hp:=ok.pos;have hf:=ok.few
 obtain⟨m,hm⟩:∃m,W.length=m+1:=⟨W.length-1,by omega⟩
 have hm1:W.length-1=m:=by omega
 rw[hm1]
 let os:=(List.range m).map (WG b)
 have fo:∀i,i<m->WG b i<W.length:=fun i hi=>by rw[hm];exact VZ hi
 have e1:Zr 2 (Zy 1 [1] (ZT [(Ze Yb [(Za 0)])]) (.one 0) (xB (Zh (V5 true) (Za 0) (Za 1))) (eP (Za 0))) [some (wP W),some (.int (b:Int)),none]=some (.nx [some (wP W),some (.int (b:Int)),some (.lst (iL (nL os)))]):=by
  have hc:Zy 1 [1] (ZT [(Ze Yb [(Za 0)])]) (.one 0) (xB (Zh (V5 true) (Za 0) (Za 1))) (eP (Za 0)) [some (wP W),some (.int (b:Int)),none]=some (.lst (iL (nL os))):=by
   rw[VP (List.range W.length) (fun(i:Nat)=>.int (i:Int)) (fun(i:Nat)=>.int (i:Int)) (fun h=>!decide (h=b)) (Yt (n:=W.length) (by simp) (by omega)) (by simp;omega) fun y hy=>⟨[some (.int (y:Int)),some (.int (b:Int))],rfl,?_,fun _=>by simp⟩]
   ·rw[Nu hf hb,hm1]
    simp[nL,os]
   ·by_cases q:y=b
    ·simp[q]
    ·have q':¬(y:Int)=(b:Int):=by omega
     simp[q,q']
  rw[Zm,hc];rfl
 have hc:Zy 1 [0,2] (Wo (Za 2)) (.one 0) ZE (Ze Ul [(Za 1),(Za 0),(Za 2)]) [some (wP W),some (.int (b:Int)),some (.lst (iL (nL os)))]=some (.lst (tL (Vl m m (V8 W b)))):=by
  rw[Z2 (List.range m) (fun(i:Nat)=>.int ((WG b i:Nat):Int)) (fun i=>pP (Ym m (V8 W b i))) (by simp[nL,os]) (by simp;omega) (fun i hi=>⟨[some (.int ((WG b i:Nat):Int)),some (wP W),some (.lst (iL (nL os)))],rfl,rfl,?_⟩),QB]
  exact KN (f:=WG b) ok (fo i (List.mem_range.mp hi)) (by omega) fo
 show YU 3 Xp _=_
 unfold Xp
 show(Zs _ _ [some (wP W),some (.int (b:Int)),none]).bind Xn=_
 rw[ZK e1,W5 (v:=wP (Vl m m (V8 W b))) (by
  rw[Xc,Zz,Zk,hc]
  show(if ZM (wP (Vl m m (V8 W b)))=true then some (wP (Vl m m (V8 W b))) else none)=_
  rw[if_pos (by rw[Pl];exact Qc _)])]
 rfl
theorem LJ{l:List Int}{b h:Nat}{x:Int}(hb:b<=l.length)(hh:h<l.length+1):Zl (l.take b++x::l.drop b) h=if h=b then x else Zl l (LH b h):=by
 unfold Zl LH;rw[List.getD_eq_getElem?_getD,List.getD_eq_getElem?_getD]
 by_cases q:h<b
 ·rw[if_neg (by omega),if_pos q,List.getElem?_append_left (by rw[List.length_take];omega),List.getElem?_take_of_lt q]
 ·rw[List.getElem?_append_right (by rw[List.length_take];omega),List.length_take,Nat.min_eq_left hb]
  by_cases q2:h=b
  ·rw[if_pos q2,q2,Nat.sub_self];rfl
  ·rw[if_neg q2,if_neg q,show h-b=(h-b-1)+1 by omega,List.getElem?_cons_succ,List.getElem?_drop,show b+(h-b-1)=h-1 by omega]
theorem TU{f:Nat->Int}:∀{n:Nat},(∀i,i<n->0<=f i/\f i<=9)->0<=sN n f/\sN n f<=9*n
 | 0,_=>⟨Int.le_refl _,by show(0:Int)<=_;omega⟩
 | n+1,h=>by
  obtain⟨a,b⟩:=TU (n:=n) fun i hi=>h i (by omega)
  have:=h n (by omega)
  refine⟨?_,?_⟩
  ·show 0<=sN n f+f n;omega
  ·show sN n f+f n<=_;omega
theorem KO{W:List (List Int)}(ok:ZF W){b:Nat}{c:Nat->Int}{i j:Nat}(hi:i<W.length-1)(hj:j<W.length-1):(Wi W b c i j).natAbs<=2^7:=by
 have hp:=ok.pos;have hf:=ok.few
 have h1:WG b i<W.length:=by have:=VZ (b:=b) hi;omega
 have h2:WG b j<W.length:=by have:=VZ (b:=b) hj;omega
 unfold Wi V8;rw[if_pos hj]
 split
 ·rw[WA ok h1,YS]
  obtain⟨a,b⟩:=TU (f:=fun j=>Ya W (WG b i) j) (n:=W.length) fun j hj=>⟨ok.lo _ j h1 hj,ok.hi _ j h1 hj⟩
  omega
 ·have:=ok.lo _ _ h1 h2
  have:=ok.hi _ _ h1 h2
  omega
theorem MT{W:List (List Int)}{D:List Int}{b:Nat}(ok:ZF W)(cn:Vj W)(hd:D.length=W.length)(hb:b<W.length)(hD:∀h,h<W.length->(Zl D h).natAbs<=2^208) :
  ∃(S0:List Int) (d:Int) (R:Nat->Int),X1 [wP W,pP D,.int (b:Int)]=some (pP S0)/\S0.length=W.length/\0<d/\R b=0/\Zl S0 b=0/\(∀h,h<W.length->d*Zl S0 h<=R h/\R h<d*Zl S0 h+d)/\∀h,h<W.length->h≠b->gN W R h = - (d*Zl D h):=by
 have hp:=ok.pos;have hf:=ok.few
 obtain⟨m,hm⟩:∃m,W.length=m+1:=⟨W.length-1,by omega⟩
 have hm1:W.length-1=m:=by omega
 obtain⟨R,Rb,Ro,Rg⟩:=Pv ok cn hb (Zl D)
 have bk:=MS ok cn hb (Zl D)
 have I:=X5 bk (Nat.le_refl _)
 have se:=KM (m:=W.length-1) (by omega) bk (fun i j hi hj=>KO ok hi hj) (fun i hi=>by
  show(Wi W b (Zl D) i (W.length-1)).natAbs<=_
  unfold Wi;rw[if_neg (by omega)]
  exact hD _ (by have:=VZ (b:=b) hi;omega))
 generalize hE:(XI (W.length-1) (Wi W b (Zl D)) (W.length-1)).1=E at Ro I se
 generalize hdd:(XI (W.length-1) (Wi W b (Zl D)) (W.length-1)).2=d at Rg I se
 rw[hm1] at Ro se I
 have nz:=I.nz
 have cc:D.take b++D.drop (b+1)=Ym m fun i=>Wi W b (Zl D) i m:=by
  refine XA (by rw[List.length_append,List.length_take,List.length_drop,XY];omega) fun i hi=>?_
  have hi:i<m:=by rw[List.length_append,List.length_take,List.length_drop] at hi;omega
  rw[Ur hi];unfold Wi;rw[hm1,if_neg (by omega)];unfold WG Zl;rw[List.getD_eq_getElem?_getD,List.getD_eq_getElem?_getD]
  by_cases q:i<b
  ·rw[if_pos q,List.getElem?_append_left (by rw[List.length_take];omega),List.getElem?_take_of_lt q]
  ·rw[if_neg q,List.getElem?_append_right (by rw[List.length_take];omega),List.length_take,Nat.min_eq_left (by omega),List.getElem?_drop]
   congr 2
   omega
 have e1:Zr 3 (eP (Zh Y6 (Vn XN (Za 1) Vg (WM (Za 2))) (Vn XN (Za 1) (WM (Zh ZL (Za 2) (eC (.int 1)))) Vg))) [some (wP W),some (pP D),some (.int (b:Int)),none,none]=some (.nx [some (wP W),some (pP D),some (.int (b:Int)),some (pP (Ym m fun i=>Wi W b (Zl D) i m)),none]):=by
  have s1:XN (pP D) none (some (b:Int))=some (pP (D.take b)):=by
   show(if HT.sIx (iL D).length 0 none=0/\HT.sIx (iL D).length (iL D).length (some (b:Int))=(iL D).length then none else some (PV.tup (Vf (iL D) none (some (b:Int)))))=_
   rw[if_neg (by rw[HT.sIx_nat,List.length_map,hd];omega),MJ]
  have s2:XN (pP D) (some ((b:Int)+1)) none=some (pP (D.drop (b+1))):=by
   show(if HT.sIx (iL D).length 0 (some ((b:Int)+1))=0/\HT.sIx (iL D).length (iL D).length none=(iL D).length then none else some (PV.tup (Vf (iL D) (some ((b:Int)+1)) none)))=_
   rw[show((b:Int)+1)=((b+1:Nat):Int) by omega,if_neg (by rw[HT.sIx_nat,List.length_map,hd];omega),MK]
  have s3:Y6 (pP (D.take b)) (pP (D.drop (b+1)))=some (pP (Ym m fun i=>Wi W b (Zl D) i m)):=by
   show(if(iL (D.take b)).length+(iL (D.drop (b+1))).length<=10000 then some (PV.tup (iL (D.take b)++iL (D.drop (b+1)))) else none)=_
   rw[if_pos (by rw[List.length_map,List.length_map,List.length_take,List.length_drop];omega),<-List.map_append,cc]
  have:Zh Y6 (Vn XN (Za 1) Vg (WM (Za 2))) (Vn XN (Za 1) (WM (Zh ZL (Za 2) (eC (.int 1)))) Vg) [some (wP W),some (pP D),some (.int (b:Int)),none,none]=some (pP (Ym m fun i=>Wi W b (Zl D) i m)):=by
   show(Option.bind (XN (pP D) none (some (b:Int))) fun x=>Option.bind (XN (pP D) (some ((b:Int)+1)) none) fun y=>Y6 x y)=_
   rw[s1,s2];exact s3
  rw[Zm,Xc,this]
  show Option.map _ (if ZM (pP (Ym m fun i=>Wi W b (Zl D) i m))=true then _ else _)=_
  rw[if_pos (by simp)];rfl
 have e3:Zr 4 (Ze YX [(Ze Yp [(Za 0),(Za 2)]),(Za 3)]) [some (wP W),some (pP D),some (.int (b:Int)),some (pP (Ym m fun i=>Wi W b (Zl D) i m)),none]=some (.nx [some (wP W),some (pP D),some (.int (b:Int)),some (pP (Ym m fun i=>Wi W b (Zl D) i m)),some (.lst (iL (Ym m fun i=>(E i m).fdiv d)))]):=by
  have sq:=TR ok hb;rw[hm1] at sq
  have:Ze YX [(Ze Yp [(Za 0),(Za 2)]),(Za 3)] [some (wP W),some (pP D),some (.int (b:Int)),some (pP (Ym m fun i=>Wi W b (Zl D) i m)),none]=some (.lst (iL (Ym m fun i=>(E i m).fdiv d))):=by
   have c1:Ze Yp [(Za 0),(Za 2)] [some (wP W),some (pP D),some (.int (b:Int)),some (pP (Ym m fun i=>Wi W b (Zl D) i m)),none]=some (wP (Vl m m (V8 W b))):=sq
   rw[Zz,Zk,c1];exact se
  rw[Zm,this];rfl
 generalize hl:Ym m (fun i=>(E i m).fdiv d)=l at e3
 have ll:l.length=m:=by rw[<-hl,XY]
 generalize pP (Ym m fun i=>Wi W b (Zl D) i m)=col at e1 e3
 have e4:Vb 4 (Za 2) (eC (.int 0)) [some (wP W),some (pP D),some (.int (b:Int)),some col,some (.lst (iL l))]=some (.nx [some (wP W),some (pP D),some (.int (b:Int)),some col,some (.lst (iL (l.take b++0::l.drop b)))]):=by
  rw[Qe (k:=(b:Int)) (l:=.int 0) (m:=iL l) rfl rfl rfl (Y8 l) rfl (by omega) (by omega) (by rw[List.length_map,ll];omega),Int.toNat_natCast,IE]
  rfl
 have S0at:∀h,h<W.length->Zl (l.take b++0::l.drop b) h=(R h).fdiv d:=fun h hh=>by
  rw[LJ (by omega) (by omega)]
  by_cases q:h=b
  ·rw[if_pos q,q,Rb];simp
  ·rw[if_neg q,<-hl,Ur (MR (m:=m) (by omega) (by omega) q),<-Ro _ (MR (m:=m) (by omega) (by omega) q),Rz q]
 have run:X1 [wP W,pP D,.int (b:Int)]=some (pP (l.take b++0::l.drop b)):=by
  show YU 5 UM _=_
  unfold UM
  show(Zs _ _ [some (wP W),some (pP D),some (.int (b:Int)),none,none]).bind Xn=_
  rw[ZK e1,ZK e3,ZK e4]
  generalize l.take b++0::l.drop b=z
  simp
 have len:(l.take b++0::l.drop b).length=W.length:=by
  rw[List.length_append,List.length_take,List.length_cons,List.length_drop,ll];omega
 have S0b:Zl (l.take b++0::l.drop b) b=0:=by rw[LJ (by omega) (by omega),if_pos rfl]
 rcases Int.lt_or_gt_of_ne nz with neg | pos
 ·refine⟨_,- d,fun h=>- R h,run,len,by omega,by show-R b=0;rw[Rb];rfl,S0b,fun h hh=>?_,fun h hh hne=>?_⟩
  ·have e:(R h).fdiv d=(- R h)/(- d):=by rw[<-Int.neg_fdiv_neg,Int.fdiv_eq_ediv_of_nonneg _ (by omega)]
   rw[S0at h hh,e]
   exact⟨Int.mul_ediv_self_le (by omega),Int.lt_mul_ediv_self_add (by omega)⟩
  ·have:=V0 (W:=W) (-1) R h
   rw[Rg h hh hne] at this
   rw[QE (Z:=fun x=>(-1)*R x) hh (fun g _=>by show-R g=(-1)*R g;omega),this,Int.neg_mul d];omega
 ·refine⟨_,d,R,run,len,pos,Rb,S0b,fun h hh=>?_,Rg⟩
  rw[S0at h hh,Int.fdiv_eq_ediv_of_nonneg _ (by omega)]
  exact⟨Int.mul_ediv_self_le (by omega),Int.lt_mul_ediv_self_add pos⟩
theorem IS{c:XT}{fb:XS}(Jv:Nat->ZU->Prop)(step:∀k st,Jv k st->c st=some false\/(c st=some true/\∃s2 k',fb st=some (.nx s2)/\k'<k/\Jv k' s2)){k:Nat}{s:ZU}(h0:Jv k s) :
  ∃s' k',VH c fb s=some (.nx s')/\Jv k' s'/\c s'=some false:=by
 have gen:∀(n k:Nat)(st:ZU),k<n->Jv k st->∃s' k',YW c fb n st=some (.nx s')/\Jv k' s'/\c s'=some false:=by
  intro n
  induction n with
  | zero=>intro k st h;omega
  | succ n ih=>
   intro k st hk hJ
   rcases step k st hJ with hc | ⟨hc,s2,k',e,hm,hJ2⟩
   ·exact⟨st,k,by unfold YW;rw[hc];rfl,hJ,hc⟩
   ·obtain⟨s',k2,a,b,d⟩:=ih k' s2 (by omega) hJ2
    refine⟨s',k2,?_,b,d⟩
    unfold YW;rw[hc];simp only[Option.bind_some,if_true,e];exact a
 obtain⟨s',k',a,b,d⟩:=gen (k+1) k s (by omega) h0
 exact⟨s',k',Ph a,b,d⟩
def Vm(n:Nat)(L:List Nat):List Int:=(List.range n).map fun h=>if h∈L then -1 else 0
theorem Oy{W:List (List Int)}{L:List Nat}(hf:W.length<=7):Xk [wP W,.lst (iL (nL L))]=some (pP (Vm W.length L)):=by
 have hc:Zy 1 [1] (ZT [(Ze Yb [(Za 0)])]) (.one 0) ZE (OY (xB (Zh (Lj false) (Za 0) (Za 1))) (SR W0 (eC (.int 1))) (eC (.int 0))) [some (wP W),some (.lst (iL (nL L)))]=some (.lst (iL (Vm W.length L))):=by
  rw[Vx (fun h=>if h∈L then -1 else 0) (Yt (n:=W.length) (by simp) (by omega)) (by omega) fun i hi=>⟨[some (.int (i:Int)),some (.lst (iL (nL L)))],rfl,rfl,?_⟩]
  ·rfl
  ·have g:=GV i L
   have t:xB (Zh (Lj false) (Za 0) (Za 1)) [some (.int (i:Int)),some (.lst (iL (nL L)))]=some (decide (i∈L)):=by
    rw[XR]
    show(Lj false (.int (i:Int)) (.lst (iL (nL L)))).bind FD=_
    rw[g];rfl
   rw[UC,t]
   by_cases q:i∈L
   ·rw[if_pos q,decide_eq_true q];rfl
   ·rw[if_neg q,decide_eq_false q];rfl
 show YU 2 Vd _=_
 unfold Vd
 show(Yo _ [some (wP W),some (.lst (iL (nL L)))]).bind Xn=_
 have:Ze Z5 [(Zy 1 [1] (ZT [(Ze Yb [(Za 0)])]) (.one 0) ZE (OY (xB (Zh (Lj false) (Za 0) (Za 1))) (SR W0 (eC (.int 1))) (eC (.int 0))))] [some (wP W),some (.lst (iL (nL L)))]=some (pP (Vm W.length L)):=by
  simp only[Zz,Zk,P8,hc,Option.bind_some,Option.map_some,JY]
 rw[W5 (v:=pP (Vm W.length L)) (by rw[Xc,this];simp)]
 rfl
theorem G6{n:Nat}{L:List Nat}{h:Nat}(hh:h<n):Zl (Vm n L) h=if h∈L then -1 else 0:=ZO hh
theorem V1{W:List (List Int)}{D S:List Int}{h:Nat}(hh:h<D.length):Zl (ZA W D S) h=Zl D h+gN W (Zl S) h:=by rw[Vw hh,G5]
structure Nv(W:List (List Int))(b:Nat)(n0:Nat->Int)(B:Nat->Int):Prop where
 pos:∀h,h<W.length->0<=B h
 base:B b=0
 free:∀h,h<W.length->h≠b->0<=n0 h-gN W B h
theorem G7{W:List (List Int)}(ok:ZF W)(cn:Vj W){b:Nat}(hb:b<W.length)(n0:Nat->Int):∃B,Nv W b n0 B:=by
 obtain⟨z,zb,_,zg⟩:=Pv ok cn hb (fun _=>1)
 have nz:=(X5 (MS ok cn hb (fun _=>1)) (Nat.le_refl _)).nz
 generalize (XI (W.length-1) (Wi W b fun _=>1) (W.length-1)).2=d at zg nz
 obtain⟨y,yb,yg⟩:∃y:Nat->Int,y b=0/\∀h,h<W.length->h≠b->gN W y h<=-1:=by
  rcases Int.lt_or_gt_of_ne nz with neg | pos
  ·exact⟨fun x=>(-1)*z x,by show(-1)*z b=0;rw[zb];rfl,fun h hh hne=>by rw[V0,zg h hh hne];omega⟩
  ·exact⟨z,zb,fun h hh hne=>by rw[zg h hh hne];omega⟩
 have yp:=G4 ok cn (Y:=y) hb (fun h hh hne _=>by have:=yg h hh hne;omega)
 rw[yb] at yp
 obtain⟨K,hK⟩:∃K:Int,K=sN W.length (fun h=>((n0 h).natAbs:Int)):=⟨_,rfl⟩
 have K0:0<=K:=by rw[hK];exact Yu fun i _=>by omega
 have Kge:∀h,h<W.length->- n0 h<=K:=fun h hh=>by
  have:∀n,h<n->- n0 h<=sN n (fun h=>((n0 h).natAbs:Int)):=by
   intro n
   induction n with
   | zero=>intro q;omega
   | succ n ih=>
    intro q
    show _<=sN n (fun h=>((n0 h).natAbs:Int))+((n0 n).natAbs:Int)
    by_cases e:h=n
    ·subst e
     have:=Yu (f:=fun h=>((n0 h).natAbs:Int)) (n:=h) fun i _=>by omega
     omega
    ·have:=ih (by omega);omega
  rw[hK];exact this _ hh
 refine⟨fun x=>K*y x,fun h hh=>Int.mul_nonneg K0 (yp h hh),by show K*y b=0;rw[yb,Int.mul_zero],fun h hh hne=>?_⟩
 rw[V0];have h1:=yg h hh hne
 have h2:K*gN W y h<=K*(-1):=Int.mul_le_mul_of_nonneg_left h1 K0
 have h3:=Kge h hh;omega
theorem KP{W:List (List Int)}(ok:ZF W){b:Nat}{n0 B B':Nat->Int}(f:Nv W b n0 B')(le:∀h,h<W.length->B h<=B' h){h:Nat}(hh:h<W.length)(hne:h≠b)(debt:n0 h-gN W B h<0):B h<B' h:=by
 refine Int.lt_iff_le_and_ne.mpr ⟨le h hh,fun e=>?_⟩
 have h1:=f.free h hh hne
 have h2:gN W B h<=gN W B' h:=by
  have:0<=sN W.length (fun g=>Ya W h g*(B' g-B' h)+(-1)*(Ya W h g*(B g-B h))):=Yu fun g hg=>by
   have e1:Ya W h g*(B' g-B' h)+(-1)*(Ya W h g*(B g-B h))=Ya W h g*(B' g-B g):=by
    rw[e,Int.neg_mul,Int.one_mul,<-Int.sub_eq_add_neg,<-Int.mul_sub];congr 1;omega
   rw[e1]
   exact Int.mul_nonneg (ok.lo h g hh hg) (by have:=le g hg;omega)
  rw[Yr,Yf] at this;unfold gN;omega
 omega
structure Settled(W:List (List Int))(b:Nat)(N:List Int)(F:List Nat):Prop where
 free:∀h,h<W.length->h≠b->0<=Zl N h
 burn:Burn W N b F
 stop:XZ W N F=none
 all:∀h,h<W.length->h∈F
theorem IT{W:List (List Int)}{N:List Int}(ok:ZF W)(cn:Vj W){b:Nat}(hb:b<W.length){n0 B R:Nat->Int}{d:Int}(hd0:0<d)(Rb:R b=0)(Re:∀h,h<W.length->0<=R h/\R h<d)(Rn:∀h,h<W.length->h≠b->gN W R h = - (d*n0 h))
  (hN:∀h,h<W.length->Zl N h=n0 h-gN W B h) (f:Nv W b n0 B) (least:∀B',Nv W b n0 B'->∀h,h<W.length->B h<=B' h) {F:List Nat} (Bu:Burn W N b F) (st:XZ W N F=none):∀h,h<W.length->h∈F:=by
 intro x hx
 refine Classical.byContradiction fun hxF=>?_
 have bF:b∈F:=List.mem_of_getElem? Bu.hd
 obtain⟨T,hT⟩:∃T:Nat->Int,∀h,T h=if h∈F then 0 else 1:=⟨_,fun _=>rfl⟩
 have Tb:T b=0:=by rw[hT,if_pos bF]
 have T01:∀h,0<=T h/\T h<=1:=fun h=>by rw[hT];split<;>omega
 -- what the houses outside lend to those that burn
 have tie:∀h,h<W.length->h∉F->gN W T h = - ZY W h F:=fun h hh hF=>by
  have e1:gN W T h=(-1)*sN W.length (fun g=>if g∈F then Ya W h g else 0):=by
   unfold gN;rw[<-Yf]
   refine Zq fun g hg=>?_
   rw[hT,hT,if_neg hF]
   split
   ·rw[Int.zero_sub,Int.mul_neg,Int.mul_one];omega
   ·simp
  have e2:sN W.length (fun g=>if g∈F then Ya W h g else 0)=ZY W h F:=by
   have gen:∀l:List Nat,l.Nodup->(∀x∈l,x<W.length)->sN W.length (fun g=>if g∈l then Ya W h g else 0)=(l.map fun o=>Ya W h o).sum:=by
    intro l
    induction l with
    | nil=>intro _ _;rw[WB fun i _=>by simp];rfl
    | cons a r ih=>
     intro nd lt;rw[List.nodup_cons] at nd;rw[List.map_cons,List.sum_cons,<-ih nd.2 fun x hx=>lt x (List.mem_cons_of_mem _ hx)]
     have:Ya W h a=sN W.length (fun g=>if g=a then Ya W h a else 0):=by
      rw[YD (k:=a) (lt a List.mem_cons_self) fun i _ hi=>if_neg hi,if_pos rfl]
     rw[this,<-Yr]
     refine Zq fun g hg=>?_
     by_cases q:g=a
     ·subst q
      rw[if_pos List.mem_cons_self,if_pos rfl,if_neg nd.1];omega
     ·by_cases q2:g∈r
      ·rw[if_pos (List.mem_cons_of_mem _ q2),if_neg q,if_pos q2];omega
      ·rw[if_neg (fun z=>(List.mem_cons.mp z).elim q q2),if_neg q,if_neg q2];rfl
   exact gen F Bu.nd Bu.lt
  rw[e1,e2];omega
 have tie':∀h,h<W.length->h∈F->0<=gN W T h:=fun h hh hF=>Yu fun g hg=>by
  rw[show T h=0 by rw[hT,if_pos hF]]
  exact Int.mul_nonneg (ok.lo h g hh hg) (by have:=(T01 g).1;omega)
 have sub:∀h,gN W (fun x=>B x+(-1)*T x) h=gN W B h-gN W T h:=fun h=>by rw[Ox,V0];omega
 have free:∀h,h<W.length->h≠b->0<=n0 h-gN W (fun x=>B x+(-1)*T x) h:=fun h hh hne=>by
  rw[sub]
  by_cases q:h∈F
  ·have:=tie' h hh q
   have:=f.free h hh hne
   omega
  ·have h1:=tie h hh q
   have h2:=MO st hh q;rw[hN h hh] at h2;omega
 have f2:Nv W b n0 (fun x=>B x+(-1)*T x):=by
  refine⟨fun h hh=>?_,by show B b+(-1)*T b=0;rw[f.base,Tb];rfl,free⟩
  have up:=G4 ok cn (Y:=fun x=>R x+d*(B x+(-1)*T x)) hb (fun h hh hne _=>by
   rw[Ox R (fun x=>d*(B x+(-1)*T x)),V0,Rn h hh hne]
   have:=free h hh hne
   have h3:0<=d*(n0 h-gN W (fun x=>B x+(-1)*T x) h):=Int.mul_nonneg (by omega) this
   rw[Int.mul_sub] at h3
   omega) h hh
  have up:R b+d*(B b+(-1)*T b)<=R h+d*(B h+(-1)*T h):=up
  rw[Rb,f.base,Tb] at up
  have:=(Re h hh).2
  refine Int.not_lt.mp fun neg=>?_
  have h4:B h+(-1)*T h<=-1:=by
   have neg:B h+(-1)*T h<0:=neg
   omega
  have h5:d*(B h+(-1)*T h)<=d*(-1):=Int.mul_le_mul_of_nonneg_left h4 (by omega)
  omega
 have h1:=least _ f2 x hx
 have h1:B x<=B x+(-1)*T x:=h1
 rw[show T x=1 by rw[hT,if_neg hxF]] at h1
 omega
theorem SH{W:List (List Int)}{D:List Int}{b:Nat}(ok:ZF W)(cn:Vj W)(hd:D.length=W.length)(hb:b<W.length)(hD:∀h,h<W.length->(Zl D h).natAbs<=2^208) :
  ∃(S N:List Int) (F:List Nat),Yy [wP W,pP D,.int (b:Int)]=some (.tup [pP (Z8 S),pP N,.lst (iL (nL F))])/\S.length=W.length/\N=ZA W D S/\Settled W b N F:=by
 have hp:=ok.pos;have hf:=ok.few
 obtain⟨S0,d,R,en,l0,d0,Rb,S0b,Rs,Rg⟩:=MT ok cn hd hb hD
 obtain⟨n0,hn0⟩:∃n0:Nat->Int,∀h,n0 h=Zl D h+gN W (Zl S0) h:=⟨_,fun _=>rfl⟩
 obtain⟨Bs,fs⟩:=G7 ok cn hb n0
 have rl:∀S:List Int,(ZA W D S).length=W.length:=fun S=>by rw[ZR,hd]
 let st:List Int->Option PV->ZU:=fun S x6=>[some (wP W),some (pP D),some (.int (b:Int)),some (pP S),some (pP (ZA W D S)),some (.lst (iL (nL (XH (ZA W D S) b)))),x6]
 have near:∀(S:List Int)(B:Nat->Int),(∀h,h<W.length->Zl S h=Zl S0 h-B h)->∀h,h<W.length->Zl (ZA W D S) h=n0 h-gN W B h:=fun S B e h hh=>by
  rw[V1 (by omega),hn0,QE (Z:=fun x=>Zl S0 x+(-1)*B x) hh (fun g hg=>by rw[e g hg];omega),Ox,V0];omega
 let J:Nat->ZU->Prop:=fun k s=>∃(S:List Int) (B:Nat->Int) (x6:Option PV),s=st S x6/\S.length=W.length/\(∀h,h<W.length->Zl S h=Zl S0 h-B h)/\(∀h,h<W.length->0<=B h)/\B b=0/\(∀B',Nv W b n0 B'->∀h,h<W.length->B h<=B' h)/\k=(sN W.length (fun h=>Bs h-B h)).toNat
 have j0:J (sN W.length (fun h=>Bs h-0)).toNat (st S0 none):=⟨S0,fun _=>0,none,rfl,l0,fun h _=>by(show Zl S0 h=Zl S0 h-0);omega,fun h _=>Int.le_refl 0,rfl,fun B' f h hh=>f.pos h hh,rfl⟩
 obtain⟨s',k',w1,⟨S,B,x6,rfl,lS,eS,B0,Bb,Bl,_⟩,w3⟩:=IS (c:=xB (Zh Sd (Ze Yb [(Za 5)]) (eC (.int 0)))) (fb:=(Zs (Zr 6 (Ze Xk [(Za 0),(Za 5)]))
  (Zs (Zr 3 (Ze Wq [(Za 3),(Za 6)]))
  (Zs (Zr 4 (Ze Uk [(Za 0),(Za 4),(Za 6)]))
  (Zr 5 (Ze Xa [(Za 4),(Za 2)])))))) J (by
   rintro k s ⟨S,B,x6,rfl,lS,eS,B0,Bb,Bl,rfl⟩
   have cv:xB (Zh Sd (Ze Yb [(Za 5)]) (eC (.int 0))) (st S x6)=some (decide ((0:Int)<((XH (ZA W D S) b).length:Int))):=by
    show some (decide ((0:Int)<((iL (nL (XH (ZA W D S) b))).length:Int)))=_
    simp[nL]
   by_cases q:XH (ZA W D S) b=[]
   ·left
    rw[cv,q];rfl
   ·right
    have ql:0<(XH (ZA W D S) b).length:=List.length_pos_iff.mpr q
    refine⟨by rw[cv,decide_eq_true (by omega)],?_⟩
    generalize hL:XH (ZA W D S) b=L at *
    have memL:∀h,h∈L↔h<W.length/\h≠b/\Zl (ZA W D S) h<0:=fun h=>by rw[<-hL,IJ,rl]
    let S':=W4 S (Vm W.length L)
    have lb:(Vm W.length L).length=W.length:=by simp[Vm]
    have lS':S'.length=W.length:=by rw[Wg];exact lS
    have e1:Zr 6 (Ze Xk [(Za 0),(Za 5)]) [some (wP W),some (pP D),some (.int (b:Int)),some (pP S),some (pP (ZA W D S)),some (.lst (iL (nL L))),x6]=some (.nx [some (wP W),some (pP D),some (.int (b:Int)),some (pP S),some (pP (ZA W D S)),some (.lst (iL (nL L))),some (pP (Vm W.length L))]):=by
     have:Ze Xk [(Za 0),(Za 5)] [some (wP W),some (pP D),some (.int (b:Int)),some (pP S),some (pP (ZA W D S)),some (.lst (iL (nL L))),x6]=some (pP (Vm W.length L)):=Oy hf
     rw[Zm,this];rfl
    have e2:Zr 3 (Ze Wq [(Za 3),(Za 6)]) [some (wP W),some (pP D),some (.int (b:Int)),some (pP S),some (pP (ZA W D S)),some (.lst (iL (nL L))),some (pP (Vm W.length L))]=some (.nx [some (wP W),some (pP D),some (.int (b:Int)),some (pP S'),some (pP (ZA W D S)),some (.lst (iL (nL L))),some (pP (Vm W.length L))]):=by
     have:Ze Wq [(Za 3),(Za 6)] [some (wP W),some (pP D),some (.int (b:Int)),some (pP S),some (pP (ZA W D S)),some (.lst (iL (nL L))),some (pP (Vm W.length L))]=some (pP S'):=Lz (by omega) (by omega)
     rw[Zm,this];rfl
    have rr:ZA W (ZA W D S) (Vm W.length L)=ZA W D S':=Rv hd fun i hi=>Xw (by omega)
    have e3:Zr 4 (Ze Uk [(Za 0),(Za 4),(Za 6)]) [some (wP W),some (pP D),some (.int (b:Int)),some (pP S'),some (pP (ZA W D S)),some (.lst (iL (nL L))),some (pP (Vm W.length L))]=some (.nx [some (wP W),some (pP D),some (.int (b:Int)),some (pP S'),some (pP (ZA W D S')),some (.lst (iL (nL L))),some (pP (Vm W.length L))]):=by
     have:Ze Uk [(Za 0),(Za 4),(Za 6)] [some (wP W),some (pP D),some (.int (b:Int)),some (pP S'),some (pP (ZA W D S)),some (.lst (iL (nL L))),some (pP (Vm W.length L))]=some (pP (ZA W D S')):=by
      rw[<-rr];exact IC ok (rl S) lb
     rw[Zm,this];rfl
    have e4:Zr 5 (Ze Xa [(Za 4),(Za 2)]) [some (wP W),some (pP D),some (.int (b:Int)),some (pP S'),some (pP (ZA W D S')),some (.lst (iL (nL L))),some (pP (Vm W.length L))]=some (.nx (st S' (some (pP (Vm W.length L))))):=by
     have:Ze Xa [(Za 4),(Za 2)] [some (wP W),some (pP D),some (.int (b:Int)),some (pP S'),some (pP (ZA W D S')),some (.lst (iL (nL L))),some (pP (Vm W.length L))]=some (.lst (iL (nL (XH (ZA W D S') b)))):=Qy (by rw[rl];omega)
     rw[Zm,this];rfl
    obtain⟨B',hB'⟩:∃B':Nat->Int,∀h,B' h=B h+(if h∈L then 1 else 0):=⟨_,fun _=>rfl⟩
    have less:∀C,Nv W b n0 C->∀h,h<W.length->B' h<=C h:=fun C fc h hh=>by
     rw[hB']
     by_cases z:h∈L
     ·rw[if_pos z]
      obtain⟨_,z2,z3⟩:=(memL h).mp z
      rw[near S B eS h hh] at z3
      have:=KP ok fc (fun g hg=>Bl C fc g hg) hh z2 z3
      omega
     ·rw[if_neg z]
      have:=Bl C fc h hh
      omega
    refine⟨st S' (some (pP (Vm W.length L))),(sN W.length (fun h=>Bs h-B' h)).toNat,?_,?_,S',B',_,rfl,lS',fun h hh=>?_,fun h hh=>?_,?_,less,rfl⟩
    ·show Zs _ _ [some (wP W),some (pP D),some (.int (b:Int)),some (pP S),some (pP (ZA W D S)),some (.lst (iL (nL (XH (ZA W D S) b)))),x6]=_
     rw[hL,ZK e1,ZK e2,ZK e3,e4]
    ·have p1:0<=sN W.length (fun h=>Bs h-B' h):=Yu fun h hh=>by have:=less Bs fs h hh;omega
     have p2:sN W.length (fun h=>Bs h-B h)=sN W.length (fun h=>Bs h-B' h)+sN W.length (fun h=>if h∈L then 1 else 0):=by
      rw[<-Yr]
      exact Zq fun h _=>by rw[hB'];omega
     have p3:0<sN W.length (fun h=>if h∈L then(1:Int) else 0):=by
      refine Int.not_le.mp fun z=>?_
      obtain⟨x,hx⟩:=List.exists_mem_of_length_pos ql
      have:=Us (f:=fun h=>if h∈L then(1:Int) else 0) (fun i _=>by split<;>omega) z x ((memL x).mp hx).1
      rw[if_pos hx] at this;omega
     omega
    ·rw[Xw (by omega),G6 hh,eS h hh,hB']
     split<;>omega
    ·have:=B0 h hh
     rw[hB'];split<;>omega
    ·rw[hB',if_neg (fun z=>((memL b).mp z).2.1 rfl),Bb];rfl) j0
 have hnil:XH (ZA W D S) b=[]:=by
  refine Classical.byContradiction fun q=>?_
  have ql:0<(XH (ZA W D S) b).length:=List.length_pos_iff.mpr q
  have cv:xB (Zh Sd (Ze Yb [(Za 5)]) (eC (.int 0))) (st S x6)=some (decide ((0:Int)<((XH (ZA W D S) b).length:Int))):=by
   show some (decide ((0:Int)<((iL (nL (XH (ZA W D S) b))).length:Int)))=_
   simp[nL]
  rw[cv,decide_eq_true (by omega)] at w3;cases w3
 have free:=debt_nil.mp hnil;rw[rl] at free;have nr:=near S B eS
 have fB:Nv W b n0 B:=⟨B0,Bb,fun h hh hne=>by rw[<-nr h hh];exact free h hh hne⟩
 obtain⟨F,eF,Bu,stp⟩:=II (D:=ZA W D S) ok (rl S) hb
 -- what the rounding left
 have all:=IT (N:=ZA W D S) ok cn hb (n0:=n0) (B:=B) (R:=fun h=>R h+(- d)*Zl S0 h) d0 (by show R b+(- d)*Zl S0 b=0;rw[Rb,S0b,Int.mul_zero];rfl)
  (fun h hh=>by
   have:=Rs h hh
   show 0<=R h+(- d)*Zl S0 h/\R h+(- d)*Zl S0 h<d
   rw[Int.neg_mul]
   omega)
  (fun h hh hne=>by rw[Ox R (fun x=>(- d)*Zl S0 x),V0,Rg h hh hne,hn0,Int.mul_add,Int.neg_mul];omega) nr fB Bl Bu stp
 refine⟨S,ZA W D S,F,?_,lS,rfl,free,Bu,stp,all⟩
 have e1:Zr 3 (Ze X1 [(Za 0),(Za 1),(Za 2)]) [some (wP W),some (pP D),some (.int (b:Int)),none,none,none,none]=some (.nx [some (wP W),some (pP D),some (.int (b:Int)),some (pP S0),none,none,none]):=by
  have:Ze X1 [(Za 0),(Za 1),(Za 2)] [some (wP W),some (pP D),some (.int (b:Int)),none,none,none,none]=some (pP S0):=en
  rw[Zm,this];rfl
 have e2:Zr 4 (Ze Uk [(Za 0),(Za 1),(Za 3)]) [some (wP W),some (pP D),some (.int (b:Int)),some (pP S0),none,none,none]=some (.nx [some (wP W),some (pP D),some (.int (b:Int)),some (pP S0),some (pP (ZA W D S0)),none,none]):=by
  have:Ze Uk [(Za 0),(Za 1),(Za 3)] [some (wP W),some (pP D),some (.int (b:Int)),some (pP S0),none,none,none]=some (pP (ZA W D S0)):=IC ok hd l0
  rw[Zm,this];rfl
 have e3:Zr 5 (Ze Xa [(Za 4),(Za 2)]) [some (wP W),some (pP D),some (.int (b:Int)),some (pP S0),some (pP (ZA W D S0)),none,none]=some (.nx (st S0 none)):=by
  have:Ze Xa [(Za 4),(Za 2)] [some (wP W),some (pP D),some (.int (b:Int)),some (pP S0),some (pP (ZA W D S0)),none,none]=some (.lst (iL (nL (XH (ZA W D S0) b)))):=Qy (by rw[rl];omega)
  rw[Zm,this];rfl
 show YU 7 TD _=_
 unfold TD
 show(Zs _ _ [some (wP W),some (pP D),some (.int (b:Int)),none,none,none,none]).bind Xn=_
 rw[ZK e1,ZK e2,ZK e3,ZK w1]
 have g1:Ze X9 [(Za 3)] (st S x6)=some (pP (Z8 S)):=QG (by omega) (by omega)
 have g2:eP (Za 4) (st S x6)=some (pP (ZA W D S)):=by
  show(some (pP (ZA W D S))).bind (fun l=>if ZM l=true then some l else none)=_
  simp
 have g3:Ze Tz [(Za 0),(Za 4),(Za 2)] (st S x6)=some (.lst (iL (nL F))):=eF
 rw[W5 (v:=.tup [pP (Z8 S),pP (ZA W D S),.lst (iL (nL F))]) (by rw[JU,Zk,Zk,Zk,g1,g2,g3];rfl)]
 rfl
theorem Nw{n:Nat}{l:List Int}(h:l.length=n):∀k:Nat,k<n->ZS (pP l) (.int (k:Int))=some (.int (Zl l k)):=fun k hk=>XC (by omega)
theorem IU{n:Nat}{l:List Int}(h:l.length=n):∀k:Nat,k<n->ZS (.lst (iL l)) (.int (k:Int))=some (.int (Zl l k)):=fun k hk=>XC (by omega)
theorem Pw{l:List Int}(hp:0<l.length):Xd (Z8 l)=0:=by
 rw[KG (- Xd l) (Th l) hp fun i hi=>by rw[Ti hi];omega];omega
theorem G8(Y:Nat->Int){n:Nat}(h:0<n):∃h,h<n/\∀g,g<n->Y g<=Y h:=by
 obtain⟨x,h1,h2⟩:=QD (fun i=>- Y i) h
 exact⟨x,h1,fun g hg=>by have:=h2 g hg;have : - Y x<=- Y g:=this;omega⟩
theorem LK{W:List (List Int)}(ok:ZF W){h:Nat}(hh:h<W.length){P:Nat->Prop}[DecidablePred P]:∀{l:List Nat},l.Nodup->(∀x∈l,x<W.length/\¬P x)->ZY W h l<=sN W.length (fun g=>if P g then 0 else Ya W h g):=by
 intro l nd hl
 have gen:∀l:List Nat,l.Nodup->(∀x∈l,x<W.length)->sN W.length (fun g=>if g∈l then Ya W h g else 0)=(l.map fun o=>Ya W h o).sum:=by
  intro l
  induction l with
  | nil=>intro _ _;rw[WB fun i _=>by simp];rfl
  | cons a r ih=>
   intro nd lt;rw[List.nodup_cons] at nd;rw[List.map_cons,List.sum_cons,<-ih nd.2 fun x hx=>lt x (List.mem_cons_of_mem _ hx)]
   have:Ya W h a=sN W.length (fun g=>if g=a then Ya W h a else 0):=by
    rw[YD (k:=a) (lt a List.mem_cons_self) fun i _ hi=>if_neg hi,if_pos rfl]
   rw[this,<-Yr]
   refine Zq fun g hg=>?_
   by_cases q:g=a
   ·subst q
    rw[if_pos List.mem_cons_self,if_pos rfl,if_neg nd.1];omega
   ·by_cases q2:g∈r
    ·rw[if_pos (List.mem_cons_of_mem _ q2),if_neg q,if_pos q2];omega
    ·rw[if_neg (fun z=>(List.mem_cons.mp z).elim q q2),if_neg q,if_neg q2];rfl
 unfold ZY;rw[<-gen l nd fun x hx=>(hl x hx).1]
 have:0<=sN W.length (fun g=>(if P g then 0 else Ya W h g)+(-1)*(if g∈l then Ya W h g else 0)):=Yu fun g hg=>by
  have:=ok.lo h g hh hg
  by_cases q:g∈l
  ·rw[if_pos q,if_neg (hl g q).2];omega
  ·rw[if_neg q];split<;>omega
 rw[Yr,Yf] at this;omega
theorem SI{f:Nat->Int}{M:Nat}:∀{n:Nat},(∀i,i<n->(f i).natAbs<=M)->(sN n f).natAbs<=n*M
 | 0,_=>by show(0:Int).natAbs<=_;simp
 | n+1,h=>by
  have h1:=SI (n:=n) fun i hi=>h i (by omega)
  have h2:=h n (by omega)
  show(sN n f+f n).natAbs<=_
  rw[Nat.add_mul,Nat.one_mul];omega
theorem EW{W:List (List Int)}(ok:ZF W){Y:Nat->Int}{M:Nat}(hY:∀g,g<W.length->(Y g).natAbs<=M){h:Nat}(hh:h<W.length):(gN W Y h).natAbs<=126*M:=by
 have hf:=ok.few
 have:=SI (f:=fun g=>Ya W h g*(Y g-Y h)) (M:=18*M) (n:=W.length) fun g hg=>by
  have lo:=ok.lo h g hh hg;have hi:=ok.hi h g hh hg;rw[Int.natAbs_mul]
  have h1:(Ya W h g).natAbs<=9:=by omega
  have h2:(Y g-Y h).natAbs<=2*M:=by have:=hY g hg;have:=hY h hh;omega
  calc (Ya W h g).natAbs*(Y g-Y h).natAbs<=9*(2*M):=Nat.mul_le_mul h1 h2
   _=18*M:=by omega
 unfold gN
 have h3:W.length*(18*M)<=7*(18*M):=Nat.mul_le_mul_right _ hf
 omega
theorem LL{W:List (List Int)}(ok:ZF W){D S:List Int}{A M:Nat}(hd:D.length=W.length)(hD:∀h,h<W.length->(Zl D h).natAbs<=A)(hS:∀h,h<W.length->(Zl S h).natAbs<=M){h:Nat}(hh:h<W.length):(Zl (ZA W D S) h).natAbs<=A+126*M:=by
 rw[V1 (by omega)]
 have:=EW ok hS hh
 have:=hD h hh
 omega
theorem SU{W:List (List Int)}{N:List Int}{b:Nat}{F:List Nat}(ok:ZF W)(st:Settled W b N F){h:Nat}(hh:h<W.length)(hb:h≠b):0<=Zl N h/\Zl N h<=63:=by
 have hf:=ok.few
 refine⟨st.free h hh hb,?_⟩
 obtain⟨k,hk,e⟩:=List.getElem_of_mem (st.all h hh)
 have ek:F[k]?=some h:=by rw[List.getElem?_eq_getElem hk,e]
 have kp:1<=k:=by
  refine Nat.not_lt.mp fun q=>?_
  have:k=0:=by omega
  subst this;rw[st.burn.hd] at ek;cases ek
  exact hb rfl
 have s:=st.burn.st k kp hk;rw[ek] at s
 obtain⟨_,_,lt⟩:=Tj s
 have tl:=LK (h:=h) ok hh (P:=fun _=>False) (l:=F.take k) (st.burn.nd.sublist (List.take_sublist _ _)) fun y hy=>⟨st.burn.lt y (List.mem_of_mem_take hy),fun z=>z⟩
 have sl:=TU (f:=fun g=>if False then 0 else Ya W h g) (n:=W.length) fun g hg=>by
  rw[if_neg (fun z=>z)]
  exact⟨ok.lo h g hh hg,ok.hi h g hh hg⟩
 omega
theorem Yk(l:List Int):l.sum=sN l.length (Zl l):=by rw[<-YS,Rh]
theorem Nx{W:List (List Int)}{D S N:List Int}{b:Nat}{F:List Nat}{A:Nat}(ok:ZF W)(hb:b<W.length)(hd:D.length=W.length)(hN:N=ZA W D S)(st:Settled W b N F)(hD:∀h,h<W.length->(Zl D h).natAbs<=A){h:Nat}(hh:h<W.length):(Zl N h).natAbs<=7*A+441:=by
 have hf:=ok.few
 by_cases q:h=b
 ·subst q
  have ln:N.length=W.length:=by rw[hN,ZR,hd]
  have e:N.sum=D.sum:=by rw[hN];exact US ok hd
  rw[Yk,Yk,ln,hd] at e
  have e2:sN W.length (Zl N)=sN W.length (fun i=>if i=h then 0 else Zl N i)+Zl N h:=by
   have:Zl N h=sN W.length (fun i=>if i=h then Zl N h else 0):=by rw[YD (k:=h) hh fun i _ hi=>if_neg hi,if_pos rfl]
   rw[this,<-Yr]
   refine Zq fun i hi=>?_
   by_cases z:i=h
   ·rw[if_pos z,if_pos z,z];omega
   ·rw[if_neg z,if_neg z];omega
  have a1:=SI (f:=Zl D) hD
  have a2:=SI (f:=fun i=>if i=h then 0 else Zl N i) (M:=63) (n:=W.length) fun i hi=>by
   split
   ·decide
   ·rename_i z
    have:=SU ok st hi z
    omega
  have h3:W.length*A<=7*A:=Nat.mul_le_mul_right _ hf
  omega
 ·have:=SU ok st hh q
  omega
theorem UT{n:Nat}{f:Nat->Int}:∀{l:List Nat},l.Nodup->(∀x∈l,x<n)->(l.map f).sum=sN n (fun g=>if g∈l then f g else 0)
 | [],_,_=>by rw[WB fun i _=>by simp];rfl
 | a::r,nd,lt=>by
  rw[List.nodup_cons] at nd;rw[List.map_cons,List.sum_cons,UT nd.2 fun x hx=>lt x (List.mem_cons_of_mem _ hx)]
  have:f a=sN n (fun g=>if g=a then f a else 0):=by
   rw[YD (k:=a) (lt a List.mem_cons_self) fun i _ hi=>if_neg hi,if_pos rfl]
  rw[this,<-Yr]
  refine Zq fun g hg=>?_
  by_cases q:g=a
  ·subst q
   rw[if_pos List.mem_cons_self,if_pos rfl,if_neg nd.1];omega
  ·by_cases q2:g∈r
   ·rw[if_pos (List.mem_cons_of_mem _ q2),if_neg q,if_pos q2];omega
   ·rw[if_neg (fun z=>(List.mem_cons.mp z).elim q q2),if_neg q,if_neg q2];rfl
structure Never(W:List (List Int))(N:List Int)(G:List Nat):Prop where
 nd:G.Nodup
 lt:∀x∈G,x<W.length
 all:∀h,h<W.length->h∈G
 few:∀k h,G[k]?=some h->Zl N h<ZY W h (G.take k)
theorem Never.debt{W:List (List Int)}{N:List Int}{G:List Nat}(ok:ZF W)(nv:Never W N G)(T:Nat->Int):∃h,h<W.length/\Zl N h+gN W T h<0:=by
 have hp:=ok.pos
 obtain⟨m,lm,mm⟩:=G8 T (n:=W.length) (by omega)
 have first:∀k:Nat,(∃h,G[k]?=some h/\T h=T m)->∃k h:Nat,G[k]?=some h/\T h=T m/\∀j,j<k->∀h,G[j]?=some h->T h≠T m:=by
  intro k
  induction k using Nat.strongRecOn with
  | ind k ih=>
   rintro⟨h,e,t⟩
   by_cases q:∃j,j<k/\∃h,G[j]?=some h/\T h=T m
   ·obtain⟨j,hj,q⟩:=q
    exact ih j hj q
   ·exact⟨k,h,e,t,fun j hj h hh e=>q ⟨j,hj,h,hh,e⟩⟩
 obtain⟨k0,hk0,e0⟩:=List.getElem_of_mem (nv.all m lm)
 obtain⟨k,h,ek,et,hfst⟩:=first k0 ⟨m,by rw[List.getElem?_eq_getElem hk0,e0],rfl⟩
 have hh:h<W.length:=nv.lt h (List.mem_of_getElem? ek)
 have lt:=nv.few k h ek
 have tl:=LK (h:=h) ok hh (P:=fun g=>T g=T m) (nv.nd.sublist (List.take_sublist k G)) fun y hy=>by
  refine⟨nv.lt y (List.mem_of_mem_take hy),fun z=>?_⟩
  obtain⟨j,hj,e⟩:=List.getElem_of_mem hy
  rw[List.length_take] at hj
  exact hfst j (by omega) y (by rw[<-List.getElem?_take_of_lt (show j<k by omega),List.getElem?_eq_getElem (by rw[List.length_take];exact hj),e]) z
 have g1:gN W T h<=- sN W.length (fun g=>if T g=T m then 0 else Ya W h g):=by
  have:0<=sN W.length (fun g=>(-1)*(if T g=T m then 0 else Ya W h g)+(-1)*(Ya W h g*(T g-T h))):=Yu fun g hg=>by
   have lo:=ok.lo h g hh hg;have mg:=mm g hg;rw[et]
   by_cases q:T g=T m
   ·rw[if_pos q,q];simp
   ·rw[if_neg q]
    have:0<=Ya W h g*(T m-T g-1):=Int.mul_nonneg lo (by omega)
    have e:Ya W h g*(T m-T g-1)=(-1)*Ya W h g+(-1)*(Ya W h g*(T g-T m)):=by
     rw[Int.mul_sub,Int.mul_sub,Int.mul_one,Int.mul_sub];omega
    omega
  rw[Yr,Yf,Yf] at this;unfold gN;omega
 exact⟨h,hh,by omega⟩
def KQ(W:List (List Int)):Int:=sN W.length (fun a=>sN W.length (fun b=>Ya W a b))
theorem SV(W:List (List Int))(h x:Nat)(l:List Nat):ZY W h (l++[x])=ZY W h l+Ya W h x:=by
 unfold ZY;rw[List.map_append,List.sum_append];simp
theorem KR{W:List (List Int)}(ok:ZF W){G:List Nat}(lt:∀x∈G,x<W.length):∀k,k<=G.length->2*sN k (fun j=>ZY W (G.getD j 0) (G.take j))=((G.take k).map fun a=>ZY W a (G.take k)).sum:=by
 intro k
 induction k with
 | zero=>intro _;rfl
 | succ k ih=>
  intro hk
  have e:=ih (by omega)
  have hx:G[k]?=some (G.getD k 0):=by rw[List.getD_eq_getElem?_getD,List.getElem?_eq_getElem (by omega)];rfl
  generalize G.getD k 0=x at hx
  have hxl:x<W.length:=lt x (List.mem_of_getElem? hx)
  have ht:G.take (k+1)=G.take k++[x]:=by rw[List.take_succ,hx];rfl
  have hgx:G.getD k 0=x:=by rw[List.getD_eq_getElem?_getD,hx];rfl
  show 2*(sN k (fun j=>ZY W (G.getD j 0) (G.take j))+ZY W (G.getD k 0) (G.take k))=_
  rw[Int.mul_add,e,hgx,ht,List.map_append,List.sum_append]
  have lt':∀a∈G.take k,a<W.length:=fun a ha=>lt a (List.mem_of_mem_take ha)
  generalize G.take k=P at lt' ⊢
  have e1:(P.map fun a=>ZY W a (P++[x])).sum=(P.map fun a=>ZY W a P).sum+ZY W x P:=by
   have:∀Q:List Nat,(∀a∈Q,a<W.length)->(Q.map fun a=>ZY W a (P++[x])).sum=(Q.map fun a=>ZY W a P).sum+ZY W x Q:=by
    intro Q
    induction Q with
    | nil=>intro _;rfl
    | cons a r ih2=>
     intro hQ;rw[List.map_cons,List.map_cons,List.sum_cons,List.sum_cons,ih2 fun y hy=>hQ y (List.mem_cons_of_mem _ hy),SV]
     have:ZY W x (a::r)=Ya W x a+ZY W x r:=by unfold ZY;rw[List.map_cons,List.sum_cons]
     rw[this,ok.sym a x (hQ a List.mem_cons_self) hxl];omega
   exact this P lt'
  rw[e1];simp only[List.map_cons,List.map_nil,List.sum_cons,List.sum_nil]
  rw[SV,ok.dia x hxl];omega
theorem QH{W:List (List Int)}(ok:ZF W){G:List Nat}(nd:G.Nodup)(lt:∀x∈G,x<W.length)(all:∀h,h<W.length->h∈G):2*sN G.length (fun j=>ZY W (G.getD j 0) (G.take j))=KQ W:=by
 rw[KR ok lt G.length (Nat.le_refl _),List.take_length,UT (n:=W.length) nd lt]
 refine Zq fun a ha=>?_
 rw[if_pos (all a ha)];unfold ZY;rw[UT (n:=W.length) nd lt]
 exact Zq fun b hb=>if_pos (all b hb)
theorem SJ{n:Nat}{G:List Nat}(nd:G.Nodup)(lt:∀x∈G,x<n)(all:∀h,h<n->h∈G):G.length=n:=by
 have h1:=UT (n:=n) (f:=fun _=>1) nd lt
 rw[Zq (g:=fun _=>1) fun i hi=>if_pos (all i hi)] at h1
 have h2:∀n,sN n (fun _=>(1:Int))=(n:Int):=fun n=>by
  induction n with
  | zero=>rfl
  | succ n ih=>show sN n _+1=_;rw[ih];omega
 have h3:∀l:List Nat,(l.map fun _=>(1:Int)).sum=(l.length:Int):=fun l=>by
  induction l with
  | nil=>rfl
  | cons a r ih=>rw[List.map_cons,List.sum_cons,ih,List.length_cons];omega
 rw[h2,h3] at h1;omega
theorem QI{n:Nat}{G:List Nat}(nd:G.Nodup)(lt:∀x∈G,x<n)(all:∀h,h<n->h∈G)(f:Nat->Int):sN n f=sN n (fun j=>f (G.getD j 0)):=by
 have h1:=UT (n:=n) (f:=f) nd lt
 rw[Zq (g:=f) fun i hi=>if_pos (all i hi)] at h1;rw[<-h1,<-YS];have hl:=SJ nd lt all
 congr 1
 refine List.ext_getElem (by simp[hl]) fun i h1 h2=>?_
 simp at h1
 simp[List.getD_eq_getElem?_getD,List.getElem?_eq_getElem h1]
theorem Never.sum{W:List (List Int)}{N:List Int}{G:List Nat}(ok:ZF W)(ln:N.length=W.length)(nv:Never W N G):2*(N.sum+(W.length:Int))<=KQ W:=by
 have hl:=SJ nv.nd nv.lt nv.all;have e:=QH ok nv.nd nv.lt nv.all;rw[hl] at e;rw[Yk,ln,QI nv.nd nv.lt nv.all]
 have h1:∀n,n<=G.length->sN n (fun j=>Zl N (G.getD j 0))+(n:Int)<=sN n (fun j=>ZY W (G.getD j 0) (G.take j)):=by
  intro n
  induction n with
  | zero=>intro _;exact Int.le_refl 0
  | succ n ih=>
   intro hn
   have:=ih (by omega)
   have hx:G[n]?=some (G.getD n 0):=by rw[List.getD_eq_getElem?_getD,List.getElem?_eq_getElem (by omega)];rfl
   have:=nv.few n _ hx
   show sN n _+Zl N (G.getD n 0)+((n+1:Nat):Int)<=sN n _+ZY W (G.getD n 0) (G.take n)
   omega
 have:=h1 W.length (by omega)
 omega
def Free(W:List (List Int))(D:List Int):Prop:=∃S:List Int,S.length=W.length/\∀h,h<W.length->0<=Zl (ZA W D S) h
theorem Free.run{W:List (List Int)}{D T:List Int}(hd:D.length=W.length)(lT:T.length=W.length):Free W (ZA W D T)↔Free W D:=by
 constructor
 ·rintro⟨S,lS,f⟩
  refine⟨W4 T S,by rw[Wg];exact lT,fun h hh=>?_⟩
  rw[<-Rv (S:=T) (U:=S) hd fun i hi=>Xw (by omega)]
  exact f h hh
 ·rintro⟨S,lS,f⟩
  refine⟨YB S T,by rw[ZC];exact lS,fun h hh=>?_⟩
  rw[Rv (T:=S) hd fun i hi=>by rw[Z7 (by omega)];omega]
  exact f h hh
theorem Free.more{W:List (List Int)}{D E:List Int}(hd:D.length=W.length)(le:E.length=W.length)(h:∀i,i<W.length->Zl D i<=Zl E i)(f:Free W D):Free W E:=by
 obtain⟨S,lS,f⟩:=f
 refine⟨S,lS,fun x hx=>?_⟩
 have:=f x hx
 rw[V1 (by omega)] at this ⊢
 have:=h x hx
 omega
theorem Free.sum{W:List (List Int)}{D:List Int}(ok:ZF W)(hd:D.length=W.length)(f:Free W D):0<=D.sum:=by
 obtain⟨S,lS,f⟩:=f
 rw[<-US (S:=S) ok hd,Yk,ZR,hd]
 exact Yu f
theorem Never.notFree{W:List (List Int)}{D S N:List Int}{G:List Nat}(ok:ZF W)(hd:D.length=W.length)(lS:S.length=W.length)(hN:N=ZA W D S)(nv:Never W N G):¬Free W D:=fun f=>by
 have f2:=(Free.run hd lS).mpr f
 rw[<-hN] at f2
 obtain⟨T,lT,f2⟩:=f2
 obtain⟨h,hh,lt⟩:=nv.debt ok (Zl T)
 have:=f2 h hh
 rw[V1 (by rw[hN,ZR];omega)] at this
 omega
theorem Settled.never{W:List (List Int)}{N:List Int}{F:List Nat}{b:Nat}(st:Settled W b N F)(h0:Zl N b<0):Never W N F:=by
 refine⟨st.burn.nd,st.burn.lt,st.all,fun k h ek=>?_⟩
 by_cases q:k=0
 ·subst q
  rw[st.burn.hd] at ek;cases ek;exact h0
 ·have kl:=(List.getElem?_eq_some_iff.mp ek).1
  have s:=st.burn.st k (by omega) kl
  rw[ek] at s
  exact(Tj s).2.2
inductive Told(W:List (List Int))(D:List Int):PV->Prop
 | free (L N:List Int):L.length=W.length->Xd L=0->N=ZA W D L->(∀h,h<W.length->0<=Zl N h)->Free W D->Told W D (.tup [.str "free",pP L,pP N])
 | never (L N:List Int) (G:List Nat):L.length=W.length->Xd L=0->N=ZA W D L->Never W N G->¬Free W D->Told W D (.tup [.str "never",pP L,.lst (iL (nL G))])
theorem Tk{W:List (List Int)}{D:List Int}(ok:ZF W)(cn:Vj W)(hd:D.length=W.length)(bD:∀h,h<W.length->(Zl D h).natAbs<=2^208):∃v,XG [wP W,pP D]=some v/\Told W D v:=by
 have hp:=ok.pos
 obtain⟨S,N,F,eS,lS,hN,st⟩:=SH ok cn hd (b:=0) (by omega) bD
 have ln:N.length=W.length:=by rw[hN,ZR,hd]
 have lL:(Z8 S).length=W.length:=by rw[Th];exact lS
 have hN':N=ZA W D (Z8 S):=by
  rw[hN];exact(Pq (- Xd S) hd fun i hi=>by rw[Ti (by omega)];omega).symm
 have h0:Xd (Z8 S)=0:=Pw (by omega)
 generalize Z8 S=L at eS lL hN' h0
 let T:PV:=.tup [pP L,pP N,.lst (iL (nL F))]
 have e1:Zr 2 (Ze Yy [(Za 0),(Za 1),(eC (.int 0))]) [some (wP W),some (pP D),none]=some (.nx [some (wP W),some (pP D),some T]):=by
  have:Ze Yy [(Za 0),(Za 1),(eC (.int 0))] [some (wP W),some (pP D),none]=some T:=eS
  rw[Zm,this];rfl
 have c:xB (Zh Gd (Zh ZS (Zh ZS (Za 2) (eC (.int 1))) (eC (.int 0))) (eC (.int 0))) [some (wP W),some (pP D),some T]=some (decide (0<=Zl N 0)):=by
  have h1:Zh ZS (Zh ZS (Za 2) (eC (.int 1))) (eC (.int 0)) [some (wP W),some (pP D),some T]=some (.int (Zl N 0)):=Nw ln 0 (by omega)
  rw[XR,ZV,h1];rfl
 by_cases q:0<=Zl N 0
 ·have fr:∀h,h<W.length->0<=Zl N h:=fun h hh=>by
   by_cases z:h=0
   ·rw[z];exact q
   ·exact st.free h hh z
  refine⟨_,?_,Told.free L N lL h0 hN' fr ⟨L,lL,fun h hh=>by rw[<-hN'];exact fr h hh⟩⟩
  show YU 3 XF _=_
  unfold XF
  show(Zs _ _ [some (wP W),some (pP D),none]).bind Xn=_
  rw[ZK e1,IG (v:=.tup [.str "free",pP L,pP N])]
  ·rfl
  ·rw[Xg,c,decide_eq_true q]
   show Wd 2 (eC (.str "free")) 0 1 [some (wP W),some (pP D),some T]=_
   show(if ZM (.str "free")=true/\ZM (pP L)=true then some (Out.rt (.tup [.str "free",pP L,pP N])) else none)=_
   rw[if_pos ⟨rfl,by simp⟩]
 ·have nv:=st.never (by omega)
  refine⟨_,?_,Told.never L N F lL h0 hN' nv (nv.notFree ok hd lL hN')⟩
  show YU 3 XF _=_
  unfold XF
  show(Zs _ _ [some (wP W),some (pP D),none]).bind Xn=_
  rw[ZK e1,ZK (s1:=[some (wP W),some (pP D),some T])]
  ·have:Wd 2 (eC (.str "never")) 0 2 [some (wP W),some (pP D),some T]=some (.rt (.tup [.str "never",pP L,.lst (iL (nL F))])):=by
    show(if ZM (.str "never")=true/\ZM (pP L)=true then some (Out.rt (.tup [.str "never",pP L,.lst (iL (nL F))])) else none)=_
    rw[if_pos ⟨rfl,by simp⟩]
   rw[this];rfl
  ·rw[Xg,c,decide_eq_false q];rfl
structure Ordr(W:List (List Int))(G:List Nat):Prop where
 nd:G.Nodup
 lt:∀x∈G,x<W.length
 all:∀h,h<W.length->h∈G
theorem Never.ordr{W:List (List Int)}{N:List Int}{G:List Nat}(nv:Never W N G):Ordr W G:=⟨nv.nd,nv.lt,nv.all⟩
def QY:List Nat->Nat->List Nat
 | [],_=>[]
 | x::r,h=>if x=h then [] else x::QY r h
def Px(W:List (List Int))(G:List Nat)(h:Nat):Int:=ZY W h (QY G h)
theorem Ny{A B:List Nat}{h:Nat}:h∉A->QY (A++h::B) h=A:=by
 induction A with
 | nil=>intro _;simp[QY]
 | cons x r ih=>
  intro n
  have n1:x≠h:=fun z=>n (by rw[z];exact List.mem_cons_self)
  have n2:h∉r:=fun z=>n (List.mem_cons_of_mem _ z)
  show(if x=h then [] else x::QY (r++h::B) h)=_
  rw[if_neg n1,ih n2]
theorem LM:∀{G:List Nat}{k h:Nat},G.Nodup->G[k]?=some h->QY G h=G.take k
 | [],k,h,_,e=>by simp at e
 | x::r,0,h,_,e=>by simp at e;subst e;simp[QY]
 | x::r,k+1,h,nd,e=>by
  have e':r[k]?=some h:=by simpa using e
  have nd':=List.nodup_cons.mp nd
  have n1:x≠h:=fun z=>nd'.1 (by rw[z];exact List.mem_of_getElem? e')
  show(if x=h then [] else x::QY r h)=_
  rw[if_neg n1,LM nd'.2 e'];rfl
theorem Ordr.len{W:List (List Int)}{G:List Nat}(o:Ordr W G):G.length=W.length:=SJ o.nd o.lt o.all
theorem Ordr.pick{W:List (List Int)}{G:List Nat}(o:Ordr W G)(f:Nat->Int):sN W.length f=sN W.length (fun j=>f (G.getD j 0)):=QI o.nd o.lt o.all f
theorem Ordr.ahd_at{W:List (List Int)}{G:List Nat}(o:Ordr W G){k:Nat}(hk:k<W.length):Px W G (G.getD k 0)=ZY W (G.getD k 0) (G.take k):=by
 unfold Px
 have hk':k<G.length:=by rw[o.len];exact hk
 rw[LM o.nd (k:=k) (by rw[List.getD_eq_getElem?_getD,List.getElem?_eq_getElem hk'];rfl)]
theorem Ordr.rev{W:List (List Int)}{G:List Nat}(o:Ordr W G):Ordr W G.reverse:=⟨(List.reverse_perm G).nodup_iff.mpr o.nd,fun x h=>o.lt x (List.mem_reverse.mp h),fun h hh=>List.mem_reverse.mpr (o.all h hh)⟩
theorem Ordr.both{W:List (List Int)}{G:List Nat}(ok:ZF W)(o:Ordr W G){h:Nat}(hh:h<W.length):Px W G h+Px W G.reverse h=(ZB W h).sum:=by
 obtain⟨A,B,e⟩:=List.append_of_mem (o.all h hh)
 have nd:=o.nd;rw[e] at nd
 have nA:h∉A:=fun z=>by
  rw[List.nodup_append] at nd
  exact nd.2.2 h z h List.mem_cons_self rfl
 have nB:h∉B:=fun z=>by
  rw[List.nodup_append] at nd
  exact(List.nodup_cons.mp nd.2.1).1 z
 have e1:QY G h=A:=by rw[e];exact Ny nA
 have e2:QY G.reverse h=B.reverse:=by
  rw[e,List.reverse_append,List.reverse_cons,List.append_assoc]
  exact Ny (fun z=>nB (List.mem_reverse.mp z))
 have s1:(G.map fun g=>Ya W h g).sum=(ZB W h).sum:=by
  rw[UT (n:=W.length) o.nd o.lt,WA ok hh,YS]
  exact Zq fun g hg=>if_pos (o.all g hg)
 have s2:(G.map fun g=>Ya W h g).sum=(A.map fun g=>Ya W h g).sum+(B.map fun g=>Ya W h g).sum:=by
  rw[e,List.map_append,List.sum_append,List.map_cons,List.sum_cons,ok.dia h hh];omega
 unfold Px ZY;rw[e1,e2,List.map_reverse,List.sum_reverse];omega
def G9(x:Int):Int:=if x>0 then x else 0
theorem MU(x:Int):0<=G9 x/\x<=G9 x:=by unfold G9;split<;>omega
theorem Fa(x:Int):G9 (-x)=G9 x-x:=by unfold G9;split<;>split<;>omega
theorem EX{x y:Int}(h:x<=y)(h0:0<=y):G9 x<=y:=by unfold G9;split<;>omega
def Nz(W:List (List Int))(N:List Int)(G:List Nat)(h:Nat):Int:=G9 (Zl N h-(Px W G h-1))
def IV(W:List (List Int))(N:List Int)(G:List Nat):List Int:=(List.range W.length).map (Nz W N G)
def abv(W:List (List Int))(N:List Int)(G:List Nat):Int:=sN W.length (Nz W N G)
theorem IW(W:List (List Int))(N:List Int)(G:List Nat):(IV W N G).length=W.length:=by simp[IV]
theorem IX(W:List (List Int))(N:List Int)(G:List Nat):(IV W N G).sum=abv W N G:=YS _ _
theorem LN{W:List (List Int)}{N:List Int}{G:List Nat}{h:Nat}(hh:h<W.length):Zl (IV W N G) h=Nz W N G h:=ZO hh
theorem RA{W:List (List Int)}{D E S:List Int}(hd:D.length=W.length):ZA W (YB D E) S=YB (ZA W D S) E:=XA (by rw[ZR,ZC,ZC,ZR]) fun i hi=>by
 rw[ZR,ZC] at hi
 rw[V1 (by rw[ZC];exact hi),Z7 hi,Z7 (by rw[ZR];exact hi),V1 hi];omega
theorem KS{W:List (List Int)}{D S:List Int}{G:List Nat}(ok:ZF W)(hd:D.length=W.length)(lS:S.length=W.length)(o:Ordr W G):¬Free W (YB D (IV W (ZA W D S) G)):=by
 refine Never.notFree (S:=S) (G:=G) ok (by rw[ZC];exact hd) lS (RA hd).symm ⟨o.nd,o.lt,o.all,fun k h e=>?_⟩
 have hh:=o.lt h (List.mem_of_getElem? e)
 have hk:k<W.length:=by rw[<-o.len];exact(List.getElem?_eq_some_iff.mp e).1
 have ge:G.getD k 0=h:=by rw[List.getD_eq_getElem?_getD,e];rfl
 have a:=o.ahd_at hk;rw[ge] at a
 rw[Z7 (by rw[ZR,hd];exact hh),LN hh,<-a]
 have:=(MU (Zl (ZA W D S) h-(Px W G h-1))).2
 unfold Nz;omega
def WW(W:List (List Int))(D:List Int)(c:Int):Prop:=∀E:List Int,E.length=W.length->(∀h,h<W.length->0<=Zl E h)->E.sum<=c->Free W (YB D E)
theorem Xr{W:List (List Int)}{D S:List Int}{G:List Nat}{c:Int}(ok:ZF W)(hd:D.length=W.length)(lS:S.length=W.length)(o:Ordr W G)(sp:WW W D c):c+1<=abv W (ZA W D S) G:=by
 refine Classical.byContradiction fun q=>KS ok hd lS o (sp _ (IW _ _ _) (fun h hh=>?_) ?_)
 ·rw[LN hh];exact(MU _).1
 ·rw[IX];omega
structure SpareIs(W:List (List Int))(D:List Int)(c:Int)(S:List Int)(G:List Nat):Prop where
 len:S.length=W.length
 low:Xd S=0
 ord:Ordr W G
 abv:abv W (ZA W D S) G=c+1
 min:WW W D c
theorem NA{W:List (List Int)}{D E S:List Int}{G:List Nat}(hd:D.length=W.length)(hE:∀h,h<W.length->0<=Zl E h)(le:E.length=W.length)(nv:Never W (ZA W (YB D E) S) G):abv W (ZA W D S) G<=E.sum:=by
 have o:=nv.ordr;rw[Yk,le]
 have:0<=sN W.length (fun h=>Zl E h+(-1)*Nz W (ZA W D S) G h):=Yu fun h hh=>by
  obtain⟨k,hk,e⟩:=List.getElem_of_mem (o.all h hh)
  have ek:G[k]?=some h:=by rw[List.getElem?_eq_getElem hk,e]
  have f:=nv.few k h ek
  have hk':k<W.length:=by rw[<-o.len];exact hk
  have a:=o.ahd_at hk'
  rw[show G.getD k 0=h by rw[List.getD_eq_getElem?_getD,ek];rfl] at a
  rw[RA hd,Z7 (by rw[ZR,hd];exact hh),<-a] at f
  have:=EX (x:=Zl (ZA W D S) h-(Px W G h-1)) (y:=Zl E h) (by omega) (hE h hh)
  unfold Nz;omega
 rw[Yr,Yf] at this;unfold abv;omega
theorem S8{W:List (List Int)}{D T S:List Int}{G:List Nat}(ok:ZF W)(hd:D.length=W.length)(lT:T.length=W.length)(hT:∀h,h<W.length->0<=Zl T h)(lS:S.length=W.length)(h0:Xd S=0)(nv:Never W (ZA W (YB D T) S) G)(sp:WW W D (T.sum-1)):SpareIs W D (T.sum-1) S G:=by
 have a:=NA hd hT lT nv;have b:=Xr ok hd lS nv.ordr sp
 exact⟨lS,h0,nv.ordr,by omega,sp⟩
theorem Ut{W:List (List Int)}{D:List Int}(hd:D.length=W.length){h:Nat}(hh:h<W.length):Zl (YR W D) h=(ZB W h).sum-2-Zl D h:=by
 unfold YR;exact ZO (by omega)
theorem Xl(W:List (List Int))(D:List Int):(YR W D).length=D.length:=by simp[YR]
def XJ(S:List Int):List Int:=S.map fun x=>- x
theorem TV(S:List Int):(XJ S).length=S.length:=by simp[XJ]
theorem Fb{S:List Int}{h:Nat}(hh:h<S.length):Zl (XJ S) h = - Zl S h:=by
 unfold XJ Zl
 rw[List.getD_eq_getElem?_getD,List.getD_eq_getElem?_getD,List.getElem?_map,List.getElem?_eq_getElem hh];rfl
theorem MV{W:List (List Int)}{D:List Int}(hd:D.length=W.length):YR W (YR W D)=D:=XA (by rw[Xl,Xl]) fun i hi=>by
 rw[Xl,Xl] at hi
 rw[Ut (by rw[Xl];exact hd) (by omega),Ut hd (by omega)];omega
theorem IY{W:List (List Int)}{D S:List Int}(hd:D.length=W.length)(lS:S.length=W.length){h:Nat}(hh:h<W.length):Zl (ZA W (YR W D) (XJ S)) h=(ZB W h).sum-2-Zl (ZA W D S) h:=by
 rw[V1 (by rw[Xl];omega),V1 (by omega),Ut hd hh]
 have:=V0 (W:=W) (-1) (Zl S) h
 rw[QE (Z:=fun x=>(-1)*Zl S x) hh (fun g hg=>by rw[Fb (by omega)];omega),this]
 omega
theorem NB{W:List (List Int)}{D S:List Int}{G:List Nat}(ok:ZF W)(hd:D.length=W.length)(lS:S.length=W.length)(o:Ordr W G):abv W (ZA W (YR W D) (XJ S)) G.reverse=abv W (ZA W D S) G-D.sum+(((Y0 W).length:Int)-(W.length:Int)):=by
 have e1:abv W (ZA W (YR W D) (XJ S)) G.reverse=sN W.length (fun h=>Nz W (ZA W D S) G h+(-1)*(Zl (ZA W D S) h-(Px W G h-1))):=by
  unfold abv
  refine Zq fun h hh=>?_
  have b:=o.both ok hh;unfold Nz;rw[IY hd lS hh,show(ZB W h).sum-2-Zl (ZA W D S) h-(Px W G.reverse h-1) = - (Zl (ZA W D S) h-(Px W G h-1)) by omega,Fa];omega
 have e2:sN W.length (fun h=>Zl (ZA W D S) h-(Px W G h-1))=D.sum-(((Y0 W).length:Int)-(W.length:Int)):=by
  have t:=QH ok o.nd o.lt o.all;rw[o.len] at t
  have p:=o.pick (fun h=>Px W G h)
  rw[Zq (f:=fun j=>Px W G (G.getD j 0)) (g:=fun j=>ZY W (G.getD j 0) (G.take j)) fun j hj=>o.ahd_at hj] at p
  have s2:KQ W=2*((Y0 W).length:Int):=by
   rw[<-Up ok,YS];unfold KQ
   exact Zq fun a ha=>by rw[WA ok ha,YS]
  have s3:sN W.length (fun h=>Zl (ZA W D S) h)=D.sum:=by
   rw[<-US (S:=S) ok hd,Yk,ZR,hd]
  have s4:∀m:Nat,sN m (fun h=>Zl (ZA W D S) h-(Px W G h-1))=sN m (fun h=>Zl (ZA W D S) h)-sN m (fun h=>Px W G h)+(m:Int):=by
   intro m
   induction m with
   | zero=>rfl
   | succ m ih=>
    show sN m (fun h=>Zl (ZA W D S) h-(Px W G h-1))+(Zl (ZA W D S) m-(Px W G m-1))=sN m (fun h=>Zl (ZA W D S) h)+Zl (ZA W D S) m-(sN m (fun h=>Px W G h)+Px W G m)+((m+1:Nat):Int)
    rw[ih];omega
  rw[s4,s3];omega
 rw[e1,Yr,Yf,e2];unfold abv;omega
theorem WH{f:Nat->Int}:∀{n:Nat},(∀i,i<n->0<=f i)->∀{k:Nat},k<n->f k<=sN n f
 | 0,_,k,h=>by omega
 | n+1,z,k,h=>by
  show f k<=sN n f+f n
  have h0:=z n (by omega)
  by_cases q:k=n
  ·subst q
   have:=Yu (n:=k) fun i hi=>z i (by omega)
   omega
  ·have:=WH (n:=n) (fun i hi=>z i (by omega)) (k:=k) (by omega)
   omega
theorem NC{W:List (List Int)}{D:List Int}{c:Int}(ok:ZF W)(cn:Vj W)(hd:D.length=W.length)(bD:∀h,h<W.length->(Zl D h).natAbs<=2^207)(hc:c<=2^200)(sp:WW W (YR W D) (c-D.sum-1+(((Y0 W).length:Int)-(W.length:Int)+1))):WW W D c:=by
 intro E le hE hs
 have bE:∀h,h<W.length->(Zl (YB D E) h).natAbs<=2^208:=fun h hh=>by
  have e0:=hE h hh
  have e1:Zl E h<=E.sum:=by
   rw[Yk,le]
   exact WH hE hh
  rw[Z7 (by omega)]
  have:=bD h hh
  have:(2:Int)^200<=2^207:=by decide
  have:((2^207:Nat):Int)=2^207:=by decide
  have:(2:Nat)^208=2^207+2^207:=by decide
  omega
 obtain⟨v,_,told⟩:=Tk ok cn (D:=YB D E) (by rw[ZC];exact hd) bE
 cases told with
 | free L N _ _ _ _ f=>exact f
 | never L N G lL h0 hN nv nf=>
  exfalso;rw[hN] at nv;have a:=NA hd hE le nv;have o:=nv.ordr;have t:=NB ok hd lL o
  have b:=Xr (D:=YR W D) (S:=XJ L) ok (by rw[Xl];exact hd) (by rw[TV];exact lL) o.rev sp
  omega
theorem QJ{W:List (List Int)}{D S:List Int}{G:List Nat}{c:Int}(ok:ZF W)(cn:Vj W)(hd:D.length=W.length)(bD:∀h,h<W.length->(Zl D h).natAbs<=2^207)(hc:c+D.sum+1-(((Y0 W).length:Int)-(W.length:Int)+1)<=2^200)(sp:SpareIs W (YR W D) c S G) :
  SpareIs W D (c+D.sum+1-(((Y0 W).length:Int)-(W.length:Int)+1)) (Z8 (XJ S)) G.reverse:=by
 have hp:=ok.pos
 have lt:(YR W D).length=W.length:=by rw[Xl];exact hd
 have ln:(XJ S).length=W.length:=by rw[TV];exact sp.len
 refine⟨by rw[Th];exact ln,Pw (by omega),sp.ord.rev,?_,NC ok cn hd bD hc ?_⟩
 ·rw[Pq (S:=XJ S) (- Xd (XJ S)) hd fun i hi=>by rw[Ti (by omega)];omega]
  have t:=NB ok lt sp.len sp.ord;rw[MV hd] at t
  have tt:=VY (a:=D) ok hd
  rw[t,sp.abv];omega
 ·have e:c+D.sum+1-(((Y0 W).length:Int)-(W.length:Int)+1)-D.sum-1+(((Y0 W).length:Int)-(W.length:Int)+1)=c:=by omega
  rw[e];exact sp.min
theorem KU{W:List (List Int)}{D S S':List Int}{G G':List Nat}{c c':Int}(ok:ZF W)(hd:D.length=W.length)(a:SpareIs W D c S G)(b:SpareIs W D c' S' G'):c=c':=by
 have h1:=Xr ok hd b.len b.ord a.min;have h2:=Xr ok hd a.len a.ord b.min
 have:=a.abv
 have:=b.abv
 omega
def kI(N:List Int):List Y4:=N.map Sum.inl
abbrev Pr:=List Int×List Int
def MW(ps:List Pr):PV:=.dT (ps.map fun p=>kI p.1) (ps.map fun p=>pP p.2)
theorem IZ(N:List Int):N7 (pP N)=some (kI N):=by
 show R5 (iL N)=_
 induction N with
 | nil=>rfl
 | cons x r ih=>
  show(Gn (.int x)).bind (fun k=>(R5 (iL r)).map (k::·))=_
  rw[ih];rfl
theorem Ha(N:List Int):Sk (kI N)=pP N:=by
 unfold Sk kI
 rw[List.map_map];rfl
theorem EY{N M:List Int}(h:kI N=kI M):N=M:=by
 have:∀{N M:List Int},kI N=kI M->N=M:=by
  intro N
  induction N with
  | nil=>intro M h;cases M with
   | nil=>rfl
   | cons y s=>simp[kI] at h
  | cons x r ih=>intro M h;cases M with
   | nil=>simp[kI] at h
   | cons y s=>
    simp[kI] at h
    obtain⟨h1,h2⟩:=h
    rw[h1,ih (by unfold kI;exact(by simpa using h2))]
 exact this h
theorem Fc(ps:List Pr):Pk (MW ps)=some (ps.map fun p=>pP p.1):=by
 show some ((ps.map fun p=>kI p.1).map Sk)=_
 rw[List.map_map]
 congr 1
 exact List.map_congr_left fun p _=>Ha p.1
theorem LO(ps:List Pr):ZN (ps.map fun p=>pP p.2)=true:=Pm fun p _=>by simp
theorem ND(ps:List Pr):VR (MW ps)=some (ps.map fun p=>.tup [pP p.1,pP p.2]):=by
 show(if ZN (ps.map fun p=>pP p.2)=true then some (((ps.map fun p=>kI p.1).zip (ps.map fun p=>pP p.2)).map fun z=>PV.tup [Sk z.1,z.2]) else none)=_
 rw[if_pos (LO ps),List.zip_map',List.map_map]
 congr 1
 refine List.map_congr_left fun p _=>?_
 show PV.tup [Sk (kI p.1),pP p.2]=_
 rw[Ha]
def S9(ps:List Pr)(N T:List Int):List Pr:=if N∈ps.map (·.1) then ps else ps++[(N,T)]
theorem kI_mem{ps:List Pr}{N:List Int}:kI N∈(ps.map fun p=>kI p.1)↔N∈ps.map (·.1):=by
 constructor
 ·intro h
  obtain⟨p,hp,e⟩:=List.mem_map.mp h
  exact List.mem_map.mpr ⟨p,hp,EY e⟩
 ·intro h
  obtain⟨p,hp,e⟩:=List.mem_map.mp h
  exact List.mem_map.mpr ⟨p,hp,by rw[e]⟩
theorem Hb{i:Nat}{s:ZU}{v:Option PV}(h:s[i]?=some v):s.set i v=s:=by
 apply List.ext_getElem?
 intro j;rw[List.getElem?_set]
 by_cases q:i=j
 ·subst q
  have:=(List.getElem?_eq_some_iff.mp h).1
  rw[if_pos rfl,if_pos this,h]
 ·rw[if_neg q]
theorem KW{n:Nat}(h1:1<=n)(h:n<=4):Qi (.tup [.int 0]) (.int (n:Int))=some (pP (List.replicate n 0)):=by
 have:n=1\/n=2\/n=3\/n=4:=by omega
 rcases this with rfl | rfl | rfl | rfl<;>rfl
theorem KY{i:Nat}{fk fv:XE}{s:ZU}{ps:List Pr}{N T:List Int}(hk:fk s=some (pP N))(hv:fv s=some (pP T))(hs:s[i]?=some (some (MW ps)))(hl:ps.length<=10000):UN i fk fv s=some (.nx (s.set i (some (MW (S9 ps N T))))):=by
 unfold UN;rw[hk,hv,hs]
 show(gd (ZN (ps.map fun p=>pP p.2)&&ZM (pP T)&&decide ((ps.map fun p=>kI p.1).length<=10000))).bind (fun _=>(N7 (pP N)).map fun kt=>if Ig (ps.map fun p=>kI p.1) kt=true then Out.nx s else Out.nx (s.set i (some (.dT (R6 (ps.map fun p=>kI p.1) kt) (R7 (ps.map fun p=>kI p.1) (ps.map fun p=>pP p.2) kt (pP T))))))=_
 rw[UD (by rw[LO,decide_eq_true (by simpa using hl)];simp),IZ]
 show some (if Ig (ps.map fun p=>kI p.1) (kI N)=true then Out.nx s else _)=_
 unfold S9
 by_cases q:N∈ps.map (·.1)
 ·rw[if_pos (hasK_iff.mpr (kI_mem.mpr q)),if_pos q]
  congr 2
  exact(Hb hs).symm
 ·rw[if_neg (fun z=>q (kI_mem.mp (hasK_iff.mp z))),if_neg q]
  rw[Kn (fun z=>q (kI_mem.mp z)),Ko (fun z=>q (kI_mem.mp z))];unfold MW;rw[List.map_append,List.map_append];rfl
theorem Hd(ps:List Pr)(N T:List Int):(S9 ps N T).length<=ps.length+1:=by
 unfold S9;split<;>simp
theorem NE{ps:List Pr}{N T:List Int}{p:Pr}(h:p∈ps):p∈S9 ps N T:=by
 unfold S9;split
 ·exact h
 ·exact List.mem_append_left _ h
theorem He(ps:List Pr)(N T:List Int):∃p∈S9 ps N T,p.1=N:=by
 unfold S9;split
 ·rename_i h
  obtain⟨p,hp,e⟩:=List.mem_map.mp h
  exact⟨p,hp,e⟩
 ·exact⟨(N,T),by simp,rfl⟩
theorem Hf{ps:List Pr}{N T:List Int}{p:Pr}(h:p∈S9 ps N T):p∈ps\/p=(N,T):=by
 unfold S9 at h
 split at h
 ·exact .inl h
 ·rcases List.mem_append.mp h with h | h
  ·exact .inl h
  ·exact .inr (List.mem_singleton.mp h)
def SK(n h:Nat):List Int:=(List.range n).map fun g=>if g=h then 1 else 0
theorem QK(n h:Nat):(SK n h).length=n:=by simp[SK]
theorem TW{n h g:Nat}(hg:g<n):Zl (SK n h) g=if g=h then 1 else 0:=ZO hg
theorem QL{n h:Nat}(hh:h<n):(SK n h).sum=1:=by
 show((List.range n).map fun g=>if g=h then(1:Int) else 0).sum=1
 rw[YS,YD (k:=h) hh fun i _ hi=>if_neg hi,if_pos rfl]
theorem KZ{W:List (List Int)}{h:Nat}(hf:W.length<=7):WR [wP W,.int (h:Int)]=some (pP (SK W.length h)):=by
 have hc:Zy 1 [1] (ZT [(Ze Yb [(Za 0)])]) (.one 0) ZE (OY (xB (Zh (V5 false) (Za 0) (Za 1))) (eC (.int 1)) (eC (.int 0))) [some (wP W),some (.int (h:Int))]=some (.lst (iL (SK W.length h))):=
  Vx (fun g=>if g=h then 1 else 0) (Yt (n:=W.length) (by simp) (by omega)) (by omega) fun g hg=>⟨[some (.int (g:Int)),some (.int (h:Int))],rfl,rfl,by
   by_cases q:g=h
   ·subst q;simp
   ·have q':¬(g:Int)=(h:Int):=by omega
    simp[q,q']⟩
 show YU 2 TJ _=_
 unfold TJ
 show(Yo _ [some (wP W),some (.int (h:Int))]).bind Xn=_
 rw[W5 (v:=pP (SK W.length h)) (by rw[Xc,Zz,Zk,hc];exact IM)]
 rfl
def Left(W:List (List Int))(D E N:List Int):Prop:=∃S F,S.length=W.length/\N=ZA W (YB D E) S/\Settled W 0 N F
theorem Left.free{W:List (List Int)}{D E N:List Int}(ok:ZF W)(hd:D.length=W.length)(l:Left W D E N):(0<=Zl N 0->Free W (YB D E))/\(Zl N 0<0->¬Free W (YB D E)):=by
 obtain⟨S,F,lS,hN,st⟩:=l
 have hsd:(YB D E).length=W.length:=by rw[ZC];exact hd
 refine⟨fun h0=>⟨S,lS,fun h hh=>?_⟩,fun h0=>Never.notFree ok hsd lS hN (st.never h0)⟩
 rw[<-hN]
 by_cases z:h=0
 ·rw[z];exact h0
 ·exact st.free h hh z
structure E6(W:List (List Int))(D:List Int)(k:Nat)(p:Pr):Prop where
 len:p.2.length=W.length
 pos:∀h,h<W.length->0<=Zl p.2 h
 sum:p.2.sum=(k:Int)
 left:Left W D p.2 p.1
theorem Hg{D T C:List Int}(h:T.length=D.length):YB (YB D T) C=YB D (W4 T C):=XA (by rw[ZC,ZC,ZC]) fun i hi=>by
 rw[ZC,ZC] at hi
 rw[Z7 (by rw[ZC];exact hi),Z7 hi,Z7 hi,Xw (by omega)];omega
theorem QM{a b:List Int}(h:b.length=a.length):(W4 a b).sum=a.sum+b.sum:=by
 rw[Yk,Yk a,Yk b,Wg,h,<-Yr]
 exact Zq fun i hi=>Xw hi
theorem Left.more{W:List (List Int)}{D E N N' S' C:List Int}{F':List Nat}(hd:D.length=W.length)(le:E.length=W.length)(l:Left W D E N)(lS:S'.length=W.length)(hN:N'=ZA W (YB N C) S')(st:Settled W 0 N' F'):Left W D (W4 E C) N':=by
 obtain⟨S,F,lS0,h0,_⟩:=l
 refine⟨W4 S S',F',by rw[Wg];exact lS0,?_,st⟩
 rw[hN,h0,<-RA (by rw[ZC];exact hd),Hg (by omega)]
 exact Rv (by rw[ZC];exact hd) fun i hi=>Xw (by omega)
theorem MX{W:List (List Int)}{D E N:List Int}{k:Int}(ok:ZF W)(hd:D.length=W.length)(bD:∀h,h<W.length->(Zl D h).natAbs<=2^190)(le:E.length=W.length)(hE:∀h,h<W.length->0<=Zl E h)(hs:E.sum<=1000)(l:Left W D E N):N.length=W.length/\∀h,h<W.length->(Zl N h).natAbs<=2^200:=by
 obtain⟨S,F,lS,hN,st⟩:=l
 have hsd:(YB D E).length=W.length:=by rw[ZC];exact hd
 refine⟨by rw[hN,ZR];exact hsd,fun h hh=>?_⟩
 have:=Nx (A:=2^190+1000) ok ok.pos hsd hN st (fun g hg=>by
  have e1:Zl E g<=E.sum:=by
   rw[Yk,le]
   exact WH hE hg
  have:=hE g hg
  have:=bD g hg
  rw[Z7 (by omega)]
  omega) hh
 have:7*(2^190+1000)+441<=2^200:=by decide
 omega
theorem MY{W:List (List Int)}{D:List Int}{k:Nat}{ps:List Pr}(ok:ZF W)(cn:Vj W)(hd:D.length=W.length)(bD:∀h,h<W.length->(Zl D h).natAbs<=2^190)(hk:k<=900)(hl:ps.length*W.length<=9000)(hps:∀p∈ps,E6 W D k p) :
  ∃qs,Yq [wP W,MW ps]=some (MW qs)/\(∀q∈qs,E6 W D (k+1) q)/\(∀p∈ps,∀h,h<W.length->∃q∈qs,∃S F,S.length=W.length/\q.1=ZA W (YB p.1 (SK W.length h)) S/\Settled W 0 q.1 F)/\qs.length<=ps.length*W.length:=by
 have hf:=ok.few
 let w0:Option PV:=some (wP W)
 let d0:Option PV:=some (MW ps)
 let st:List Pr->Option PV->Option PV->Option PV->Option PV->ZU:=fun qs x3 x4 x5 x6=>[w0,d0,some (MW qs),x3,x4,x5,x6]
 let Good:Pr->Nat->List Pr->Prop:=fun p h qs=>∃q∈qs,∃S F,S.length=W.length/\q.1=ZA W (YB p.1 (SK W.length h)) S/\Settled W 0 q.1 F
 let fi:XS:=(Zs (Zr 6 (Ze WR [(Za 0),(Za 5)]))
  (UN 2 (Zh ZS (Ze Yy [(Za 0),(Ze Y2 [(Za 3),(Za 6)]),(eC (.int 0))]) (eC (.int 1))) (Ze Wq [(Za 4),(Za 6)])))
 let fb:XS:=XQ [2] (ZT [(Ze Yb [(Za 0)])]) (.one 5) fi
 obtain⟨s',f1,qs,x3,x4,x5,x6,hs,g1,g2,g3⟩:=YO (T:=.many [3,4]) (fb:=fb) (ls:=ps.map fun p=>.tup [pP p.1,pP p.2]) (s:=st [] none none none none)
  (fun i s=>∃qs x3 x4 x5 x6,s=st qs x3 x4 x5 x6/\(∀q∈qs,E6 W D (k+1) q)/\(∀j p,j<i->ps[j]?=some p->∀h,h<W.length->Good p h qs)/\qs.length<=i*W.length)
  ⟨[],none,none,none,none,rfl,fun q hq=>by simp at hq,fun j p hj=>by omega,by simp⟩ (by
  rintro i l s hl' ⟨qs,x3,x4,x5,x6,rfl,g1,g2,g3⟩
  obtain⟨hi,hpe⟩:i<ps.length/\∃p,ps[i]?=some p/\l = .tup [pP p.1,pP p.2]:=by
   rw[List.getElem?_map] at hl'
   cases q:ps[i]? with
   | none=>rw[q] at hl';cases hl'
   | some p=>rw[q] at hl';cases hl';exact⟨(List.getElem?_eq_some_iff.mp q).1,p,rfl,rfl⟩
  obtain⟨p,hp,rfl⟩:=hpe
  have lv:=hps p (List.mem_of_getElem? hp)
  obtain⟨lN,bN⟩:=MX (k:=k) ok hd bD lv.len lv.pos (by rw[lv.sum];omega) lv.left
  have il:i*W.length+W.length<=9000:=by
   have:(i+1)*W.length<=ps.length*W.length:=Nat.mul_le_mul_right _ hi
   rw[Nat.add_mul] at this;omega
  obtain⟨s2,e1,qs2,y5,y6,hs2,h1,h2,h3,h4⟩:=YO (T:=.one 5) (fb:=fi) (ls:=V6 W.length) (s:=st qs (some (pP p.1)) (some (pP p.2)) x5 x6)
   (fun j s=>∃qs' y5 y6,s=st qs' (some (pP p.1)) (some (pP p.2)) y5 y6/\(∀q∈qs',E6 W D (k+1) q)/\(∀q∈qs,q∈qs')/\(∀h,h<j->Good p h qs')/\qs'.length<=qs.length+j)
   ⟨qs,x5,x6,rfl,g1,fun q h=>h,fun h z=>by omega,by omega⟩ (by
   rintro j l s hl'' ⟨qs',y5,y6,rfl,h1,h2,h3,h4⟩
   obtain⟨hj,rfl⟩:=WN hl''
   let C:=SK W.length j
   have lC:C.length=W.length:=QK _ _
   obtain⟨S',N',F',eS,lS',hN',st'⟩:=SH ok cn (D:=YB p.1 C) (b:=0) (by rw[ZC];exact lN) ok.pos (fun h hh=>by
    rw[Z7 (by omega),TW hh]
    have:=bN h hh
    have:(2:Nat)^200+1<=2^208:=by decide
    split<;>omega)
   have lv':E6 W D (k+1) (N',W4 p.2 C):=⟨by rw[Wg];exact lv.len,fun h hh=>by
     show 0<=Zl (W4 p.2 C) h
     rw[Xw (by rw[lv.len];exact hh),TW hh]
     have:=lv.pos h hh
     split<;>omega,by
     show(W4 p.2 C).sum=_
     rw[QM (by rw[lv.len];exact lC),lv.sum,QL hj];omega,lv.left.more hd lv.len lS' hN' st'⟩
   have q1:Zr 6 (Ze WR [(Za 0),(Za 5)]) (st qs' (some (pP p.1)) (some (pP p.2)) (some (.int (j:Int))) y6)=some (.nx (st qs' (some (pP p.1)) (some (pP p.2)) (some (.int (j:Int))) (some (pP C)))):=by
    have:Ze WR [(Za 0),(Za 5)] (st qs' (some (pP p.1)) (some (pP p.2)) (some (.int (j:Int))) y6)=some (pP C):=KZ hf
    rw[Zm,this];rfl
   have q2:UN 2 (Zh ZS (Ze Yy [(Za 0),(Ze Y2 [(Za 3),(Za 6)]),(eC (.int 0))]) (eC (.int 1))) (Ze Wq [(Za 4),(Za 6)]) (st qs' (some (pP p.1)) (some (pP p.2)) (some (.int (j:Int))) (some (pP C)))=some (.nx (st (S9 qs' N' (W4 p.2 C)) (some (pP p.1)) (some (pP p.2)) (some (.int (j:Int))) (some (pP C)))):=by
    have m:Ze Y2 [(Za 3),(Za 6)] (st qs' (some (pP p.1)) (some (pP p.2)) (some (.int (j:Int))) (some (pP C)))=some (pP (YB p.1 C)):=Nn (by omega) (by omega)
    have sx:Ze Yy [(Za 0),(Ze Y2 [(Za 3),(Za 6)]),(eC (.int 0))] (st qs' (some (pP p.1)) (some (pP p.2)) (some (.int (j:Int))) (some (pP C)))=some (.tup [pP (Z8 S'),pP N',.lst (iL (nL F'))]):=by
     rw[Zz,Zk,Zk,m];exact eS
    refine KY (ps:=qs') (by rw[ZV,sx];rfl) (Lz (by rw[lv.len];exact lC) (by rw[lv.len];omega)) rfl (by omega)
   refine⟨st qs' (some (pP p.1)) (some (pP p.2)) (some (.int (j:Int))) y6,_,rfl,(by show Zs _ _ _=_;rw[ZK q1,q2]),S9 qs' N' (W4 p.2 C),_,_,rfl,fun q hq=>?_,fun q hq=>NE (h2 q hq),fun h hh=>?_,?_⟩
   ·rcases Hf hq with hq | rfl
    ·exact h1 q hq
    ·exact lv'
   ·by_cases z:h=j
    ·subst z
     obtain⟨q,hq,e⟩:=He qs' N' (W4 p.2 C)
     exact⟨q,hq,S',F',lS',by rw[e];exact hN',by rw[e];exact st'⟩
    ·obtain⟨q,hq,r⟩:=h3 h (by omega)
     exact⟨q,NE hq,r⟩
   ·have:=Hd qs' N' (W4 p.2 C)
    omega)
  subst hs2
  rw[WO] at h3 h4
  refine⟨st qs (some (pP p.1)) (some (pP p.2)) x5 x6,_,rfl,?_,qs2,some (pP p.1),some (pP p.2),y5,y6,rfl,h1,fun j p' hj hp' h hh=>?_,?_⟩
  ·show(ZT [(Ze Yb [(Za 0)])] (YG [2] (st qs (some (pP p.1)) (some (pP p.2)) x5 x6))).bind _=_
   have:Ze Yb [(Za 0)] (YG [2] (st qs (some (pP p.1)) (some (pP p.2)) x5 x6))=some (.int (W.length:Int)):=by
    show some (PV.int ((W.map pP).length:Int))=_
    rw[List.length_map]
   rw[Yt (n:=W.length) this (by omega)];exact e1
  ·by_cases z:j=i
   ·subst z
    rw[hp] at hp';cases hp'
    exact h3 h hh
   ·obtain⟨q,hq,r⟩:=g2 j p' (by omega) hp' h hh
    exact⟨q,h2 q hq,r⟩
  ·rw[Nat.add_mul];omega)
 subst hs
 rw[List.length_map] at g2 g3
 refine⟨qs,?_,g1,fun p hp h hh=>?_,g3⟩
 ·have e2:Ia VR 1 (.many [3,4]) fb (st [] none none none none)=some (.nx (st qs x3 x4 x5 x6)):=by
   show(Option.bind (VR (MW ps)) fun ls=>Wp (.many [3,4]) fb ls (st [] none none none none))=_
   rw[ND];exact f1
  show YU 7 Xq _=_
  unfold Xq
  show(Zs _ _ [w0,d0,none,none,none,none,none]).bind Xn=_
  rw[ZK (s1:=st [] none none none none) rfl,ZK e2]
  rfl
 ·obtain⟨j,hj,e⟩:=List.getElem_of_mem hp
  exact g2 j p hj (by rw[List.getElem?_eq_getElem hj,e]) h hh
structure EZ(W:List (List Int))(D:List Int)(k:Nat)(ps:List Pr):Prop where
 all:∀p∈ps,E6 W D k p
 cov:∀E:List Int,E.length=W.length->(∀h,h<W.length->0<=Zl E h)->E.sum=(k:Int)->∃p∈ps,Left W D E p.1
 ne:ps≠[]
 below:∀E:List Int,E.length=W.length->(∀h,h<W.length->0<=Zl E h)->E.sum<(k:Int)->Free W (YB D E)
 few:ps.length<=W.length^k
theorem Hh{W:List (List Int)}{D:List Int}{k:Nat}{ps:List Pr}(ok:ZF W)(cn:Vj W)(hd:D.length=W.length)(bD:∀h,h<W.length->(Zl D h).natAbs<=2^190)(hk:k<=900)(hl:W.length^(k+1)<=9000)(lv:EZ W D k ps)(fr:∀p∈ps,0<=Zl p.1 0) :
  ∃qs,Yq [wP W,MW ps]=some (MW qs)/\EZ W D (k+1) qs:=by
 have hp0:=ok.pos
 have hm:ps.length*W.length<=W.length^(k+1):=by rw[Nat.pow_succ];exact Nat.mul_le_mul_right _ lv.few
 obtain⟨qs,e,q1,q2,q3⟩:=MY ok cn hd bD hk (by omega) lv.all
 refine⟨qs,e,q1,fun E le hE hs=>?_,fun z=>?_,fun E le hE hs=>?_,by omega⟩
 ·obtain⟨h,hh,h1⟩:∃h,h<W.length/\1<=Zl E h:=Classical.byContradiction fun c=>by
   have:E.sum=0:=by
    rw[Yk,le]
    exact WB fun i hi=>by
     have:=hE i hi
     have:¬1<=Zl E i:=fun z=>c ⟨i,hi,z⟩
     omega
   omega
  let C:=SK W.length h
  have lC:C.length=W.length:=QK _ _
  have lE0:(YB E C).length=W.length:=by rw[ZC];exact le
  have back:W4 (YB E C) C=E:=XA (by rw[Wg,ZC]) fun i hi=>by
   rw[Wg,ZC] at hi
   rw[Xw (by rw[ZC];exact hi),Z7 hi];omega
  have s0:(YB E C).sum=(k:Int):=by
   have:=QM (a:=YB E C) (b:=C) (by omega)
   rw[back,QL hh] at this;omega
  obtain⟨p,hp,l⟩:=lv.cov (YB E C) lE0 (fun g hg=>by
   rw[Z7 (by omega),TW hg]
   have:=hE g hg
   by_cases z:g=h
   ·subst z;rw[if_pos rfl];omega
   ·rw[if_neg z];omega) s0
  obtain⟨q,hq,S,F,lS,hN,st⟩:=q2 p hp h hh
  have:=l.more hd lE0 lS hN st
  rw[back] at this
  exact⟨q,hq,this⟩
 ·obtain⟨p,hp⟩:=List.exists_mem_of_ne_nil ps lv.ne
  obtain⟨q,hq,_⟩:=q2 p hp 0 hp0
  rw[z] at hq
  simp at hq
 ·by_cases z:E.sum<(k:Int)
  ·exact lv.below E le hE z
  ·obtain⟨p,hp,l⟩:=lv.cov E le hE (by omega)
   exact(l.free ok hd).1 (fr p hp)
theorem NF{W:List (List Int)}{D E N:List Int}(ok:ZF W)(hd:D.length=W.length)(le:E.length=W.length)(l:Left W D E N):N.sum=D.sum-E.sum/\(N.sum<0->Zl N 0<0):=by
 obtain⟨S,F,lS,hN,st⟩:=l
 have hsd:(YB D E).length=W.length:=by rw[ZC];exact hd
 have ln:N.length=W.length:=by rw[hN,ZR];exact hsd
 constructor
 ·rw[hN,US ok hsd,Yk,ZC,Yk D,Yk E,le,hd]
  have:sN W.length (Zl (YB D E))=sN W.length (fun i=>Zl D i+(-1)*Zl E i):=Zq fun i hi=>by rw[Z7 (by omega)];omega
  rw[this,Yr,Yf];omega
 ·intro h
  refine Classical.byContradiction fun c=>?_
  have:0<=N.sum:=by
   rw[Yk,ln]
   refine Yu fun i hi=>?_
   by_cases z:i=0
   ·rw[z];omega
   ·exact st.free i hi z
  omega
theorem Hi{W:List (List Int)}{D N:List Int}(ok:ZF W)(hd:D.length=W.length)(l:Left W D (List.replicate W.length 0) N):EZ W D 0 [(N,List.replicate W.length 0)]:=by
 have rz:∀h,Zl (List.replicate W.length (0:Int)) h=0:=fun h=>by
  unfold Zl;rw[List.getD_eq_getElem?_getD,List.getElem?_replicate]
  split<;>rfl
 refine⟨fun p hp=>?_,fun E le hE hs=>⟨_,List.mem_singleton.mpr rfl,?_⟩,by simp,fun E le hE hs=>?_,by simp⟩
 ·rw[List.mem_singleton.mp hp]
  exact⟨by simp,fun h _=>by show 0<=Zl (List.replicate W.length 0) h;rw[rz];omega,by simp,l⟩
 ·have:E=List.replicate W.length 0:=XA (by simp[le]) fun i hi=>by
   rw[rz]
   have h1:=WH (f:=Zl E) (n:=W.length) hE (k:=i) (by omega)
   rw[<-le,<-Yk] at h1
   have:=hE i (by omega)
   have hs':E.sum=0:=hs
   omega
  rw[this];exact l
 ·exfalso
  have:0<=E.sum:=by rw[Yk,le];exact Yu hE
  have hs':E.sum<0:=hs
  omega
theorem Ra{W:List (List Int)}{D:List Int}(ok:ZF W)(cn:Vj W)(hd:D.length=W.length)(bD:∀h,h<W.length->(Zl D h).natAbs<=2^190)(h4:W.length<=4)(hs:D.sum<=4) :
  ∃T:List Int,YY [wP W,pP D]=some (pP T)/\T.length=W.length/\(∀h,h<W.length->0<=Zl T h)/\¬Free W (YB D T)/\WW W D (T.sum-1)/\T.sum<=5:=by
 have hp:=ok.pos
 let Z:=List.replicate W.length (0:Int)
 have rz:∀h,Zl Z h=0:=fun h=>by
  show Zl (List.replicate W.length (0:Int)) h=0
  unfold Zl;rw[List.getD_eq_getElem?_getD,List.getElem?_replicate]
  split<;>rfl
 have dz:YB D Z=D:=XA (by rw[ZC]) fun i hi=>by
  rw[ZC] at hi
  rw[Z7 hi,rz];omega
 obtain⟨S,N,F,eS,lS,hN,st⟩:=SH ok cn hd (b:=0) (by omega) (fun h hh=>by
  have:=bD h hh
  have:(2:Nat)^190<=2^208:=by decide
  omega)
 have l0:Left W D Z N:=⟨S,F,lS,by rw[dz];exact hN,st⟩
 let st:List Pr->ZU:=fun ps=>[some (wP W),some (pP D),some (pP N),some (MW ps)]
 have e1:Zr 2 (eP (Zh ZS (Ze Yy [(Za 0),(Za 1),(eC (.int 0))]) (eC (.int 1)))) [some (wP W),some (pP D),none,none]=some (.nx [some (wP W),some (pP D),some (pP N),none]):=by
  have a:Ze Yy [(Za 0),(Za 1),(eC (.int 0))] [some (wP W),some (pP D),none,none]=some (.tup [pP (Z8 S),pP N,.lst (iL (nL F))]):=eS
  have b:Zh ZS (Ze Yy [(Za 0),(Za 1),(eC (.int 0))]) (eC (.int 1)) [some (wP W),some (pP D),none,none]=some (pP N):=by rw[ZV,a];rfl
  rw[Zm,Xc,b]
  show Option.map _ (if ZM (pP N)=true then some (pP N) else none)=_
  rw[if_pos (by simp)];rfl
 have e2:Zr 3 (Qm (Za 2) (Zh Qi (Xv [(eC (.int 0))]) (Ze Yb [(Za 0)]))) [some (wP W),some (pP D),some (pP N),none]=some (.nx (st [(N,Z)])):=by
  have a:Zh Qi (Xv [(eC (.int 0))]) (Ze Yb [(Za 0)]) [some (wP W),some (pP D),some (pP N),none]=some (pP Z):=by
   have:Ze Yb [(Za 0)] [some (wP W),some (pP D),some (pP N),none]=some (.int (W.length:Int)):=by
    show some (PV.int ((W.map pP).length:Int))=_
    rw[List.length_map]
   rw[ZV,this]
   exact KW hp h4
  have b:Qm (Za 2) (Zh Qi (Xv [(eC (.int 0))]) (Ze Yb [(Za 0)])) [some (wP W),some (pP D),some (pP N),none]=some (MW [(N,Z)]):=by
   unfold Qm;rw[a]
   show(N7 (pP N)).bind (fun kt=>if ZM (pP Z)=true then some (PV.dT [kt] [pP Z]) else none)=_
   rw[IZ]
   show(if ZM (pP Z)=true then some (PV.dT [kI N] [pP Z]) else none)=_
   rw[if_pos (by simp)];rfl
  rw[Zm,b];rfl
 let c:XT:=xB (Zh Gd (Ze Nc [(Vi Pk 1 [] 3 (.one 0) ZE (Zh ZS (Za 0) (eC (.int 0))))]) (eC (.int 0)))
 have test:∀k ps,EZ W D k ps->k<=5->c (st ps)=some (decide (0<=Xd (ps.map fun p=>Zl p.1 0))):=fun k ps lv hk=>by
  have pw:W.length^k<=1024:=by
   calc W.length^k<=4^k:=Nat.pow_le_pow_left h4 k
    _<=4^5:=Nat.pow_le_pow_right (by omega) hk
  have hc:Vi Pk 1 [] 3 (.one 0) ZE (Zh ZS (Za 0) (eC (.int 0))) (st ps)=some (.lst (iL (ps.map fun p=>Zl p.1 0))):=by
   unfold Vi
   rw[Z2 ps (fun p=>pP p.1) (fun p=>.int (Zl p.1 0)) (Fc ps) (by have:=lv.few;omega) fun p hp=>⟨[some (pP p.1)],rfl,rfl,?_⟩]
   ·simp
   ·have ln:p.1.length=W.length:=by
     obtain⟨S,F,_,hN,_⟩:=(lv.all p hp).left
     rw[hN,ZR,ZC];exact hd
    exact Nw ln 0 (by omega)
  have hm:Ze Nc [(Vi Pk 1 [] 3 (.one 0) ZE (Zh ZS (Za 0) (eC (.int 0))))] (st ps)=some (.int (Xd (ps.map fun p=>Zl p.1 0))):=by
   rw[Zz,Zk,hc]
   exact GA Xd (by intro z;exact lv.ne (List.map_eq_nil_iff.mp z))
  show xB (Zh Gd _ _) (st ps)=_
  rw[XR,ZV,hm];rfl
 have few:∀k ps,EZ W D k ps->(0<=Xd (ps.map fun p=>Zl p.1 0)↔∀p∈ps,0<=Zl p.1 0):=fun k ps lv=>by
  have ne:(ps.map fun p=>Zl p.1 0)≠[]:=by intro z;exact lv.ne (List.map_eq_nil_iff.mp z)
  have sp:=UI ne;constructor
  ·intro h p hp
   have:=sp.2 _ (List.mem_map.mpr ⟨p,hp,rfl⟩)
   omega
  ·intro h
   obtain⟨p,hp,e⟩:=List.mem_map.mp sp.1
   rw[<-e];exact h p hp
 have stop:∀k ps,EZ W D k ps->(∀p∈ps,0<=Zl p.1 0)->(k:Int)<=D.sum:=fun k ps lv h=>by
  obtain⟨p,hp⟩:=List.exists_mem_of_ne_nil ps lv.ne
  have l:=lv.all p hp
  obtain⟨s1,s2⟩:=NF ok hd l.len l.left
  have:=h p hp
  have:=l.sum
  refine Classical.byContradiction fun z=>?_
  have:=s2 (by omega)
  omega
 obtain⟨s',m,ew,⟨k,ps,hm,rfl,lv⟩,hcf⟩:=IS (c:=c) (fb:=Zr 3 (Ze Yq [(Za 0),(Za 3)])) (fun m s=>∃k ps,k+m=5/\s=st ps/\EZ W D k ps) (fun m s hJ=>by
  obtain⟨k,ps,hm,rfl,lv⟩:=hJ
  rw[test k ps lv (by omega)]
  by_cases q:0<=Xd (ps.map fun p=>Zl p.1 0)
  ·right
   have fr:=(few k ps lv).mp q
   have hk:=stop k ps lv fr
   have pw:W.length^(k+1)<=9000:=by
    calc W.length^(k+1)<=4^(k+1):=Nat.pow_le_pow_left h4 _
     _<=4^5:=Nat.pow_le_pow_right (by omega) (by omega)
     _<=9000:=by decide
   obtain⟨qs,e,lv'⟩:=Hh ok cn hd bD (by omega) pw lv fr
   refine⟨by rw[decide_eq_true q],st qs,m-1,?_,by omega,k+1,qs,by omega,rfl,lv'⟩
   have:Ze Yq [(Za 0),(Za 3)] (st ps)=some (MW qs):=e
   rw[Zm,this];rfl
  ·left;rw[decide_eq_false q]) (k:=5) (s:=st [(N,Z)]) ⟨0,_,rfl,rfl,Hi ok hd l0⟩
 rw[test k ps lv (by omega)] at hcf
 have q:¬0<=Xd (ps.map fun p=>Zl p.1 0):=fun z=>by rw[decide_eq_true z] at hcf;cases hcf
 have ex0:∃p∈ps,Zl p.1 0<0:=Classical.byContradiction fun z=>q ((few k ps lv).mpr fun p hp=>by
  have:¬Zl p.1 0<0:=fun y=>z ⟨p,hp,y⟩
  omega)
 have pw:W.length^k<=1024:=by
  calc W.length^k<=4^k:=Nat.pow_le_pow_left h4 k
   _<=4^5:=Nat.pow_le_pow_right (by omega) (by omega)
 have hc:Vi VR 2 [] 3 (.many [0,1]) (xB (Zh UY (Zh ZS (Za 0) (eC (.int 0))) (eC (.int 0)))) (Za 1) (st ps)=some (.lst ((ps.filter fun p=>decide (Zl p.1 0<0)).map fun p=>pP p.2)):=by
  unfold Vi
  refine VP ps (fun p=>.tup [pP p.1,pP p.2]) (fun p=>pP p.2) (fun p=>decide (Zl p.1 0<0)) (ND ps) (by have:=lv.few;omega) fun p hp=>⟨[some (pP p.1),some (pP p.2)],rfl,?_,fun _=>rfl⟩
  have ln:p.1.length=W.length:=by
   obtain⟨S,F,_,hN,_⟩:=(lv.all p hp).left
   rw[hN,ZR,ZC];exact hd
  have a:Zh ZS (Za 0) (eC (.int 0)) [some (pP p.1),some (pP p.2)]=some (.int (Zl p.1 0)):=Nw ln 0 (by omega)
  rw[XR,ZV,a];rfl
 cases hfl:ps.filter fun p=>decide (Zl p.1 0<0) with
 | nil=>
  exfalso
  obtain⟨p,hp,h⟩:=ex0
  have:p∈ps.filter fun p=>decide (Zl p.1 0<0):=List.mem_filter.mpr ⟨hp,by rw[decide_eq_true h]⟩
  rw[hfl] at this
  simp at this
 | cons p r=>
  have pm:p∈ps.filter fun p=>decide (Zl p.1 0<0):=by rw[hfl];exact List.mem_cons_self
  obtain⟨hp',hn⟩:=List.mem_filter.mp pm
  have hn:=of_decide_eq_true hn;have l:=lv.all p hp';have hsum:=l.sum
  refine⟨p.2,?_,l.len,l.pos,(l.left.free ok hd).2 hn,fun E le hE hs'=>lv.below E le hE (by omega),by omega⟩
  show YU 4 XX _=_
  unfold XX
  show(Zs _ _ [some (wP W),some (pP D),none,none]).bind Xn=_
  rw[ZK e1,ZK e2,ZK ew]
  have a:Zh ZS (Vi VR 2 [] 3 (.many [0,1]) (xB (Zh UY (Zh ZS (Za 0) (eC (.int 0))) (eC (.int 0)))) (Za 1)) (eC (.int 0)) (st ps)=some (pP p.2):=by
   rw[ZV,hc,hfl]
   show TY (pP p.2::r.map fun p=>pP p.2) ((0:Nat):Int)=_
   exact Vz rfl
  rw[W5 (v:=pP p.2) (by
   rw[Xc,a]
   show(if ZM (pP p.2)=true then _ else _)=_
   rw[if_pos (by simp)])]
  rfl
def UU(W:List (List Int)):Int:=((Y0 W).length:Int)-(W.length:Int)+1
theorem SW{W:List (List Int)}{D:List Int}(ok:ZF W)(cn:Vj W)(hd:D.length=W.length)(bD:∀h,h<W.length->(Zl D h).natAbs<=2^190)(h4:W.length<=4)(hs:D.sum<=4) :
  ∃(c:Int) (S:List Int) (G:List Nat),X2 [wP W,pP D]=some (.tup [.int c,pP S,.lst (iL (nL G))])/\SpareIs W D c S G/\c<=4:=by
 obtain⟨T,eT,lT,hT,nf,sp,ts⟩:=Ra ok cn hd bD h4 hs
 have em:Y2 [pP D,pP T]=some (pP (YB D T)):=Nn (by omega) (by omega)
 obtain⟨v,ev,told⟩:=Tk ok cn (D:=YB D T) (by rw[ZC];exact hd) (fun h hh=>by
  have e1:Zl T h<=T.sum:=by
   rw[Yk,lT]
   exact WH hT hh
  have:=hT h hh
  have:=bD h hh
  have:(2:Nat)^190+5<=2^208:=by decide
  rw[Z7 (by omega)]
  omega)
 cases told with
 | free L N _ _ _ _ f=>exact absurd f nf
 | never L N G lL h0 hN nv _=>
  rw[hN] at nv
  refine⟨T.sum-1,L,G,?_,S8 ok hd lT hT lL h0 nv sp,by omega⟩
  let V:PV:=.tup [.str "never",pP L,.lst (iL (nL G))]
  have e1:Zr 2 (Ze YY [(Za 0),(Za 1)]) [some (wP W),some (pP D),none,none]=some (.nx [some (wP W),some (pP D),some (pP T),none]):=by
   have:Ze YY [(Za 0),(Za 1)] [some (wP W),some (pP D),none,none]=some (pP T):=eT
   rw[Zm,this];rfl
  have e2:Zr 3 (Ze XG [(Za 0),(Ze Y2 [(Za 1),(Za 2)])]) [some (wP W),some (pP D),some (pP T),none]=some (.nx [some (wP W),some (pP D),some (pP T),some V]):=by
   have a:Ze Y2 [(Za 1),(Za 2)] [some (wP W),some (pP D),some (pP T),none]=some (pP (YB D T)):=em
   have:Ze XG [(Za 0),(Ze Y2 [(Za 1),(Za 2)])] [some (wP W),some (pP D),some (pP T),none]=some V:=by
    rw[Zz,Zk,Zk,a];exact ev
   rw[Zm,this];rfl
  have f0:Zh ZP (Ze YQ [(Za 2)]) (eC (.int 1)) [some (wP W),some (pP D),some (pP T),some V]=some (.int (T.sum-1)):=by
   have:Ze YQ [(Za 2)] [some (wP W),some (pP D),some (pP T),some V]=some (.int T.sum):=Qv T
   exact vI (op:=(· - ·)) this rfl
  have e3:Wd 3 (Zh ZP (Ze YQ [(Za 2)]) (eC (.int 1))) 1 2 [some (wP W),some (pP D),some (pP T),some V]=some (.rt (.tup [.int (T.sum-1),pP L,.lst (iL (nL G))])):=by
   unfold Wd;rw[f0]
   show(if ZM (.int (T.sum-1))=true/\ZM (pP L)=true then some (Out.rt (.tup [.int (T.sum-1),pP L,.lst (iL (nL G))])) else none)=_
   rw[if_pos ⟨rfl,by simp⟩]
  show YU 4 VU _=_
  unfold VU
  show(Zs _ _ [some (wP W),some (pP D),none,none]).bind Xn=_
  rw[ZK e1,ZK e2,e3];rfl
theorem K1(l:List Int):Nd (.lst (iL l))=some (.lst (iL l.reverse)):=by
 show(if ZN (iL l)=true then some (PV.lst (iL l).reverse) else none)=_
 rw[if_pos (Y8 l)]
 show some (PV.lst (List.map PV.int l).reverse)=some (PV.lst (List.map PV.int l.reverse))
 rw[List.map_reverse]
theorem E1(G:List Nat):(nL G).reverse=nL G.reverse:=by unfold nL;rw[List.map_reverse]
theorem Rc{W:List (List Int)}{D S:List Int}{G:List Nat}{c:Int}(ok:ZF W)(lS:S.length=W.length)(h4:W.length<=7) :
  XW [wP W,pP D,.tup [.int c,pP S,.lst (iL (nL G))]]=some (.tup [.int (c+D.sum+1-UU W),pP (Z8 (XJ S)),.lst (iL (nL G.reverse))]):=by
 have hp:=ok.pos
 let V:PV:=.tup [.int c,pP S,.lst (iL (nL G))]
 have e1:Zr 3 (Ze X9 [(Ze Z5 [(Zy 1 [] (UZ (Zh ZS (Za 2) (eC (.int 1)))) (.one 0) ZE (SR W0 (Za 0)))])]) [some (wP W),some (pP D),some V,none,none]=some (.nx [some (wP W),some (pP D),some V,some (pP (Z8 (XJ S))),none]):=by
  have hc:Zy 1 [] (UZ (Zh ZS (Za 2) (eC (.int 1)))) (.one 0) ZE (SR W0 (Za 0)) [some (wP W),some (pP D),some V,none,none]=some (.lst (iL (XJ S))):=
   QF (fun x=>- x) rfl (by omega) fun x hx=>⟨[some (.int x)],rfl,rfl,rfl⟩
  have a:Ze Z5 [(Zy 1 [] (UZ (Zh ZS (Za 2) (eC (.int 1)))) (.one 0) ZE (SR W0 (Za 0)))] [some (wP W),some (pP D),some V,none,none]=some (pP (XJ S)):=by
   rw[Zz,Zk,hc];rfl
  have:Ze X9 [(Ze Z5 [(Zy 1 [] (UZ (Zh ZS (Za 2) (eC (.int 1)))) (.one 0) ZE (SR W0 (Za 0)))])] [some (wP W),some (pP D),some V,none,none]=some (pP (Z8 (XJ S))):=by
   rw[Zz,Zk,a]
   exact QG (by rw[TV];omega) (by rw[TV];omega)
  rw[Zm,this];rfl
 have e2:Zr 4 (SR Nd (Zh ZS (Za 2) (eC (.int 2)))) [some (wP W),some (pP D),some V,some (pP (Z8 (XJ S))),none]=some (.nx [some (wP W),some (pP D),some V,some (pP (Z8 (XJ S))),some (.lst (iL (nL G.reverse)))]):=by
  have a:Zh ZS (Za 2) (eC (.int 2)) [some (wP W),some (pP D),some V,some (pP (Z8 (XJ S))),none]=some (.lst (iL (nL G))):=rfl
  have:SR Nd (Zh ZS (Za 2) (eC (.int 2))) [some (wP W),some (pP D),some V,some (pP (Z8 (XJ S))),none]=some (.lst (iL (nL G.reverse))):=by
   show(Zh ZS (Za 2) (eC (.int 2)) [some (wP W),some (pP D),some V,some (pP (Z8 (XJ S))),none]).bind Nd=_
   rw[a]
   show Nd (.lst (iL (nL G)))=_
   rw[K1,E1]
  rw[Zm,this];rfl
 have f0:Zh ZP (Zh ZL (Zh ZL (Zh ZS (Za 2) (eC (.int 0))) (Ze YQ [(Za 1)])) (eC (.int 1))) (Ze Xy [(Za 0)]) [some (wP W),some (pP D),some V,some (pP (Z8 (XJ S))),some (.lst (iL (nL G.reverse)))]=some (.int (c+D.sum+1-UU W)):=by
  have a:Ze YQ [(Za 1)] [some (wP W),some (pP D),some V,some (pP (Z8 (XJ S))),some (.lst (iL (nL G.reverse)))]=some (.int D.sum):=Qv D
  have b:Ze Xy [(Za 0)] [some (wP W),some (pP D),some V,some (pP (Z8 (XJ S))),some (.lst (iL (nL G.reverse)))]=some (.int (UU W)):=No ok
  exact vI (op:=(· - ·)) (vI (op:=(· + ·)) (vI (op:=(· + ·)) (a:=c) rfl a) rfl) b
 have e3:Ru 4 (Zh ZP (Zh ZL (Zh ZL (Zh ZS (Za 2) (eC (.int 0))) (Ze YQ [(Za 1)])) (eC (.int 1))) (Ze Xy [(Za 0)])) (Za 3) [some (wP W),some (pP D),some V,some (pP (Z8 (XJ S))),some (.lst (iL (nL G.reverse)))]=some (.rt (.tup [.int (c+D.sum+1-UU W),pP (Z8 (XJ S)),.lst (iL (nL G.reverse))])):=by
  unfold Ru;rw[f0]
  show(if ZM (.int (c+D.sum+1-UU W))=true/\ZM (pP (Z8 (XJ S)))=true then some (Out.rt (.tup [.int (c+D.sum+1-UU W),pP (Z8 (XJ S)),.lst (iL (nL G.reverse))])) else none)=_
  rw[if_pos ⟨rfl,by simp⟩]
 show YU 5 XV _=_
 unfold XV
 show(Zs _ _ [some (wP W),some (pP D),some V,none,none]).bind Xn=_
 rw[ZK e1,ZK e2,e3];rfl
theorem Uu{W:List (List Int)}{D:List Int}(ok:ZF W)(cn:Vj W)(hd:D.length=W.length)(bD:∀h,h<W.length->(Zl D h).natAbs<=2^180)(h4:W.length<=4)(hl:UU W<=5) :
  ∃(c:Int) (S:List Int) (G:List Nat),Xh [wP W,pP D]=some (.tup [.int c,pP S,.lst (iL (nL G))])/\SpareIs W D c S G:=by
 have hp:=ok.pos
 have b190:∀h,h<W.length->(Zl D h).natAbs<=2^190:=fun h hh=>by
  have:=bD h hh
  have:(2:Nat)^180<=2^190:=by decide
  omega
 have c1:xB (Zh UY (Ze YQ [(Za 1)]) (Ze Xy [(Za 0)])) [some (wP W),some (pP D)]=some (decide (D.sum<UU W)):=by
  have a:Ze YQ [(Za 1)] [some (wP W),some (pP D)]=some (.int D.sum):=Qv D
  have b:Ze Xy [(Za 0)] [some (wP W),some (pP D)]=some (.int (UU W)):=No ok
  rw[XR,ZV,a,b];rfl
 by_cases q:D.sum<UU W
 ·obtain⟨c,S,G,e,sp,_⟩:=SW ok cn hd b190 h4 (by omega)
  refine⟨c,S,G,?_,sp⟩
  show YU 2 UQ _=_
  unfold UQ
  show(Zs _ _ [some (wP W),some (pP D)]).bind Xn=_
  rw[IG (v:=.tup [.int c,pP S,.lst (iL (nL G))])]
  ·rfl
  ·rw[Xg,c1,decide_eq_true q]
   exact W5 e
 ·have tt:=VY (a:=D) ok hd
  have lt:(YR W D).length=W.length:=by rw[Xl];exact hd
  have ts:(YR W D).sum<=4:=by unfold UU at hl q;omega
  have bt:∀h,h<W.length->(Zl (YR W D) h).natAbs<=2^190:=fun h hh=>by
   rw[Ut hd hh,WA ok hh,YS]
   obtain⟨a,b⟩:=TU (f:=fun j=>Ya W h j) (n:=W.length) fun j hj=>⟨ok.lo _ j hh hj,ok.hi _ j hh hj⟩
   have:=bD h hh
   have:(2:Nat)^180+100<=2^190:=by decide
   omega
  obtain⟨c,S,G,e,sp,c4⟩:=SW ok cn lt bt h4 ts
  have sumb:D.sum<=4*2^180:=by
   have:=SI (f:=Zl D) (M:=2^180) (n:=W.length) bD
   rw[<-hd,<-Yk] at this
   have h5:W.length*2^180<=4*2^180:=Nat.mul_le_mul_right _ h4
   rw[hd] at this
   have e4:((4*2^180:Nat):Int)=4*2^180:=by decide
   omega
  have b207:∀h,h<W.length->(Zl D h).natAbs<=2^207:=fun h hh=>by
   have:=bD h hh
   have:(2:Nat)^180<=2^207:=by decide
   omega
  have fit:c+D.sum+1-(((Y0 W).length:Int)-(W.length:Int)+1)<=2^200:=by
   have h0:(0:Int)<=((Y0 W).length:Int):=Int.natCast_nonneg _
   have h9:(4:Int)*2^180+100<=2^200:=by decide
   omega
  refine⟨_,_,_,?_,QJ ok cn hd b207 fit sp⟩
  have et:Wc [wP W,pP D]=some (pP (YR W D)):=KB hd (by omega)
  have ea:=Rc (D:=D) (G:=G) (c:=c) ok sp.len (by omega)
  show YU 2 UQ _=_
  unfold UQ
  show(Zs _ _ [some (wP W),some (pP D)]).bind Xn=_
  rw[ZK (s1:=[some (wP W),some (pP D)]) (by rw[Xg,c1,decide_eq_false q];rfl)]
  rw[W5 (v:=.tup [.int (c+D.sum+1-UU W),pP (Z8 (XJ S)),.lst (iL (nL G.reverse))]) (by
   have a1:Ze Wc [(Za 0),(Za 1)] [some (wP W),some (pP D)]=some (pP (YR W D)):=et
   have a2:Ze X2 [(Za 0),(Ze Wc [(Za 0),(Za 1)])] [some (wP W),some (pP D)]=some (.tup [.int c,pP S,.lst (iL (nL G))]):=by
    rw[Zz,Zk,Zk,a1];exact e
   rw[Zz,Zk,Zk,Zk,a2]
   exact ea)]
  rfl
theorem Ve{ns:List Int}(h:ns.length<=63)(k:Nat):ZD [.cst (iL ns),.int (k:Int)]=some (.int (Zl ns k)):=by
 have c:xB (Zh UY (Za 1) (Ze Yb [(Za 0)])) [some (.cst (iL ns)),some (.int (k:Int))]=some (decide (k<ns.length)):=by
  show some (decide ((k:Int)<((iL ns).length:Int)))=_
  congr 1
  rw[List.length_map]
  by_cases q:k<ns.length
  ·rw[decide_eq_true q,decide_eq_true (by omega)]
  ·rw[decide_eq_false q,decide_eq_false (by omega)]
 have v:OY (xB (Zh UY (Za 1) (Ze Yb [(Za 0)]))) (Zh ZS (Za 0) (Za 1)) (eC (.int 0)) [some (.cst (iL ns)),some (.int (k:Int))]=some (.int (Zl ns k)):=by
  rw[UC,c]
  by_cases q:k<ns.length
  ·rw[decide_eq_true q]
   exact XC q
  ·rw[decide_eq_false q]
   have:Zl ns k=0:=by
    unfold Zl
    rw[List.getD_eq_getElem?_getD,List.getElem?_eq_none (by omega)];rfl
   rw[this];rfl
 show YU 2 Oh _=_
 unfold Oh
 show(Yo _ [some (.cst (iL ns)),some (.int (k:Int))]).bind Xn=_
 rw[W5 (vP v)];rfl
theorem Xs(c:Int){t m:Nat}(ht:t<=1000)(hm:0<m):∃v:Nat,v<m/\Zt [.int c,.int (t:Int),.int (m:Int)]=some (.int (v:Int)):=by
 have hm':(0:Int)<(m:Int):=by omega
 have fin:∀x:Int,∃v:Nat,v<m/\x%(m:Int)=(v:Int):=fun x=>by
  have h0:=Int.emod_nonneg x (show(m:Int)≠0 by omega)
  have h1:=Int.emod_lt_of_pos x hm'
  exact⟨(x%(m:Int)).toNat,by omega,by omega⟩
 generalize hx1:(c%999983+(t:Int))*((t:Int)+389)%999983=x1
 have b1:0<=x1/\x1<2000000:=by
  have h0:=Int.emod_nonneg ((c%999983+(t:Int))*((t:Int)+389)) (show(999983:Int)≠0 by decide)
  have h1:=Int.emod_lt_of_pos ((c%999983+(t:Int))*((t:Int)+389)) (show(0:Int)<999983 by decide)
  omega
 have b0:0<=c%999983/\c%999983<999983:=⟨Int.emod_nonneg _ (by decide),Int.emod_lt_of_pos _ (by decide)⟩
 generalize hx2:(x1*x1+c/999983+(t:Int))%999979=x2
 obtain⟨v,hv,ev⟩:=fin (x2/3)
 refine⟨v,hv,?_⟩
 have cm1:CMul (c%999983+(t:Int)) ((t:Int)+389):=.inl (by omega)
 have cm2:CMul x1 x1:=.inl (by omega)
 have e1:Zr 3 (eP (Zh Yn (Zh UW (Zh ZL (Zh Yn (Za 0) (eC (.int 999983))) (Za 1)) (Zh ZL (Za 1) (eC (.int 389)))) (eC (.int 999983)))) [some (.int c),some (.int (t:Int)),some (.int (m:Int)),none]=some (.nx [some (.int c),some (.int (t:Int)),some (.int (m:Int)),some (.int x1)]):=by
  rw[Zm,vP (a:=x1) (by
   rw[<-hx1]
   exact vC (C:=fun _ j=>0<j) (op:=(· % ·)) (vC (C:=CMul) (op:=(· * ·)) (vI (op:=(· + ·)) (vC (C:=fun _ j=>0<j) (op:=(· % ·)) (a:=c) rfl rfl (by decide)) rfl) (vI (op:=(· + ·)) (a:=(t:Int)) rfl rfl) cm1) rfl (by decide))]
  rfl
 have e2:Zr 3 (eP (Zh Yn (Zh ZL (Zh ZL (Zh UW (Za 3) (Za 3)) (Zh WZ (Za 0) (eC (.int 999983)))) (Za 1)) (eC (.int 999979)))) [some (.int c),some (.int (t:Int)),some (.int (m:Int)),some (.int x1)]=some (.nx [some (.int c),some (.int (t:Int)),some (.int (m:Int)),some (.int x2)]):=by
  rw[Zm,vP (a:=x2) (by
   rw[<-hx2]
   exact vC (C:=fun _ j=>0<j) (op:=(· % ·)) (vI (op:=(· + ·)) (vI (op:=(· + ·)) (vC (C:=CMul) (op:=(· * ·)) (a:=x1) (b:=x1) rfl rfl cm2) (vC (C:=T0) (op:=(· / ·)) (a:=c) rfl rfl ⟨by decide,by decide⟩)) rfl) rfl (by decide))]
  rfl
 show YU 4 TF _=_
 unfold TF
 show(Zs _ _ [some (.int c),some (.int (t:Int)),some (.int (m:Int)),none]).bind Xn=_
 rw[ZK e1,ZK e2,W5 (v:=.int (v:Int)) (vP (by
  rw[<-ev]
  exact vC (C:=fun _ j=>0<j) (op:=(· % ·)) (vC (C:=T0) (op:=(· / ·)) (a:=x2) rfl rfl ⟨by decide,by decide⟩) rfl hm'))]
 rfl
theorem DV{α:Type}(l:List α)(f:α->Int):iL (l.map f)=l.map fun g=>.int (f g):=List.map_map
theorem MZ(a:List Int)(x:Int):iL (a++[x])=iL a++[.int x]:=List.map_append ..
theorem Py{W:List (List Int)}{D S:List Int}{Y:PV}(ok:ZF W)(hd:D.length=W.length)(hy:∀k:Nat,k<W.length->ZS Y (.int (k:Int))=some (.int (Zl S k))) :
  We [wP W,pP D,Y]=some (pP (ZA W D S)):=by
 have hf:=ok.few
 let w0:Option PV:=some (wP W)
 let st:Nat->Option PV->Option PV->Option PV->Option PV->ZU:=fun i x4 x5 x6 x7=>[w0,some (pP D),some Y,some (.lst (iL ((ZA W D S).take i))),x4,x5,x6,x7]
 let part:Nat->Nat->Int:=fun h j=>Zl D h-sN j (fun g=>Ya W h g*(Zl S h-Zl S g))
 let fi:XS:=(Zs (Zr 7 (eP (Zh ZP (Zh ZS (Za 2) (Za 4)) (Zh ZS (Za 2) (Za 6)))))
  (Zr 5 (eP (Zh ZP (Za 5) (Zh UW (Zh ZS (Zh ZS (Za 0) (Za 4)) (Za 6)) (Za 7))))))
 let fb:XS:=(Zs (Zr 5 (eP (Zh ZS (Za 1) (Za 4))))
  (Zs (XQ [3] (ZT [(Ze Yb [(Za 0)])]) (.one 6) fi)
  (YM 3 (eP (Za 5)))))
 have len:∀s:ZU,s[0]?=some w0->ZT [(Ze Yb [(Za 0)])] s=some (V6 W.length):=fun s h=>by
  have a:Za 0 s=some (wP W):=by
   show s[0]?.bind id=_
   rw[h];rfl
  refine Yt (n:=W.length) ?_ (by omega)
  rw[Zz,Zk,a]
  show some (PV.int ((W.map pP).length:Int))=_
  rw[List.length_map]
 obtain⟨s',f1,x4,x5,x6,x7,hs⟩:=YO (T:=.one 4) (fb:=fb) (ls:=V6 W.length) (s:=st 0 none none none none) (fun i s=>∃x4 x5 x6 x7,s=st i x4 x5 x6 x7) ⟨none,none,none,none,rfl⟩ (by
  rintro h l s hl ⟨x4,x5,x6,x7,rfl⟩
  obtain⟨hh,rfl⟩:=WN hl
  obtain⟨s2,g1,y6,y7,hs2⟩:=YO (T:=.one 6) (fb:=fi) (ls:=V6 W.length) (s:=st h (some (.int (h:Int))) (some (.int (part h 0))) x6 x7) (fun j s=>∃y6 y7,s=st h (some (.int (h:Int))) (some (.int (part h j))) y6 y7) ⟨x6,x7,rfl⟩ (by
   rintro j l s hl ⟨y6,y7,rfl⟩
   obtain⟨hj,rfl⟩:=WN hl
   refine⟨st h (some (.int (h:Int))) (some (.int (part h j))) (some (.int (j:Int))) y7,st h (some (.int (h:Int))) (some (.int (part h (j+1)))) (some (.int (j:Int))) (some (.int (Zl S h-Zl S j))),rfl,?_,_,_,rfl⟩
   have q1:Zr 7 (eP (Zh ZP (Zh ZS (Za 2) (Za 4)) (Zh ZS (Za 2) (Za 6)))) (st h (some (.int (h:Int))) (some (.int (part h j))) (some (.int (j:Int))) y7)=some (.nx (st h (some (.int (h:Int))) (some (.int (part h j))) (some (.int (j:Int))) (some (.int (Zl S h-Zl S j))))):=by
    have a:Zh ZS (Za 2) (Za 4) (st h (some (.int (h:Int))) (some (.int (part h j))) (some (.int (j:Int))) y7)=some (.int (Zl S h)):=hy h hh
    have b:Zh ZS (Za 2) (Za 6) (st h (some (.int (h:Int))) (some (.int (part h j))) (some (.int (j:Int))) y7)=some (.int (Zl S j)):=hy j hj
    rw[Zm,vP (vI (op:=(· - ·)) a b)];rfl
   have q2:Zr 5 (eP (Zh ZP (Za 5) (Zh UW (Zh ZS (Zh ZS (Za 0) (Za 4)) (Za 6)) (Za 7)))) (st h (some (.int (h:Int))) (some (.int (part h j))) (some (.int (j:Int))) (some (.int (Zl S h-Zl S j))))=some (.nx (st h (some (.int (h:Int))) (some (.int (part h (j+1)))) (some (.int (j:Int))) (some (.int (Zl S h-Zl S j))))):=by
    have a1:Zh ZS (Za 0) (Za 4) (st h (some (.int (h:Int))) (some (.int (part h j))) (some (.int (j:Int))) (some (.int (Zl S h-Zl S j))))=some (pP (ZB W h)):=Ts hh
    have a2:Zh ZS (Zh ZS (Za 0) (Za 4)) (Za 6) (st h (some (.int (h:Int))) (some (.int (part h j))) (some (.int (j:Int))) (some (.int (Zl S h-Zl S j))))=some (.int (Ya W h j)):=by
     rw[ZV,a1]
     exact XC (l:=ZB W h) (k:=j) (by rw[ok.sq h hh];exact hj)
    have lo:=ok.lo h j hh hj;have hi:=ok.hi h j hh hj
    have e:part h j-Ya W h j*(Zl S h-Zl S j)=part h (j+1):=by
     show Zl D h-sN j (fun g=>Ya W h g*(Zl S h-Zl S g))-Ya W h j*(Zl S h-Zl S j)=Zl D h-(sN j (fun g=>Ya W h g*(Zl S h-Zl S g))+Ya W h j*(Zl S h-Zl S j))
     omega
    rw[Zm,vP (a:=part h (j+1)) (by
     rw[<-e]
     exact vI (op:=(· - ·)) (a:=part h j) rfl (vC (C:=CMul) (op:=(· * ·)) a2 rfl (.inl (by omega))))]
    rfl
   show Zs _ _ _=_
   rw[ZK q1,q2])
  subst hs2;rw[WO] at g1
  have pe:part h W.length=Zl (ZA W D S) h:=by
   rw[V1 (by omega)]
   show Zl D h-sN W.length _=_
   have:sN W.length (fun g=>Ya W h g*(Zl S h-Zl S g))=(-1)*gN W (Zl S) h:=by
    unfold gN;rw[<-Yf]
    exact Zq fun g _=>by rw[Int.mul_sub,Int.mul_sub];omega
   rw[this];omega
  have q1:Zr 5 (eP (Zh ZS (Za 1) (Za 4))) (st h (some (.int (h:Int))) x5 x6 x7)=some (.nx (st h (some (.int (h:Int))) (some (.int (part h 0))) x6 x7)):=by
   have a:Zh ZS (Za 1) (Za 4) (st h (some (.int (h:Int))) x5 x6 x7)=some (.int (Zl D h)):=Nw hd h hh
   have e:part h 0=Zl D h:=by show Zl D h-0=_;omega
   rw[Zm,vP a,e];rfl
  have q2:XQ [3] (ZT [(Ze Yb [(Za 0)])]) (.one 6) fi (st h (some (.int (h:Int))) (some (.int (part h 0))) x6 x7)=some (.nx (st h (some (.int (h:Int))) (some (.int (part h W.length))) y6 y7)):=by
   show(ZT [(Ze Yb [(Za 0)])] (YG [3] (st h (some (.int (h:Int))) (some (.int (part h 0))) x6 x7))).bind _=_
   rw[len _ rfl];exact g1
  refine⟨st h (some (.int (h:Int))) x5 x6 x7,st (h+1) (some (.int (h:Int))) (some (.int (part h W.length))) y6 y7,rfl,?_,_,_,_,_,rfl⟩
  show Zs _ _ _=_
  rw[ZK q1,ZK q2,WP (l:=.int (Zl (ZA W D S) h)) (m:=iL ((ZA W D S).take h)) (by rw[<-pe];exact vP rfl) rfl (by simp;omega)]
  have hkl:h<(ZA W D S).length:=by rw[ZR];omega
  have tk:(ZA W D S).take (h+1)=(ZA W D S).take h++[Zl (ZA W D S) h]:=by
   rw[List.take_succ_eq_append_getElem hkl];simp[Zl,List.getD_eq_getElem?_getD,List.getElem?_eq_getElem hkl]
  show some (Out.nx [w0,some (pP D),some Y,some (.lst (iL ((ZA W D S).take h)++[.int (Zl (ZA W D S) h)])),_,_,_,_])=some (Out.nx [w0,some (pP D),some Y,some (.lst (iL ((ZA W D S).take (h+1)))),_,_,_,_])
  rw[tk,MZ])
 subst hs;rw[WO] at f1
 have e2:XQ [3] (ZT [(Ze Yb [(Za 0)])]) (.one 4) fb (st 0 none none none none)=some (.nx (st W.length x4 x5 x6 x7)):=by
  show(ZT [(Ze Yb [(Za 0)])] (YG [3] (st 0 none none none none))).bind _=_
  rw[len _ rfl];exact f1
 have ER:(ZA W D S).take W.length=ZA W D S:=List.take_of_length_le (by rw[ZR];omega)
 show YU 8 TH _=_
 unfold TH
 show(Zs _ _ [w0,some (pP D),some Y,none,none,none,none,none]).bind Xn=_
 rw[ZK (s1:=st 0 none none none none) rfl,ZK e2]
 rw[W5 (v:=pP (ZA W D S)) (by
  rw[Xc]
  show(Option.bind (Z5 [.lst (iL ((ZA W D S).take W.length))]) fun l=>if ZM l=true then some l else none)=_
  rw[ER]
  exact IM (s:=[]))]
 rfl
def QN(n:Nat)(M:List (List Int)):Int:=sN n (fun i=>sN n (fun j=>Ya M i j))
structure Tied(n:Nat)(M:List (List Int))(t:Nat):Prop where
 mat:MatOk n M
 few:∀i j,i<n->j<n->Ya M i j<=(t:Int)
 sum:QN n M=2*(t:Int)
def K2(M:List (List Int))(a b:Nat):List (List Int):=KH M a b (Ya M a b+1)
theorem Hj{n:Nat}{M:List (List Int)}{a b:Nat}(ok:MatOk n M)(ha:a<n)(hb:b<n)(ne:a≠b)(i j:Nat):Ya (K2 M a b) i j=Ya M i j+((if i=a then(if j=b then 1 else 0) else 0)+(if i=b then(if j=a then 1 else 0) else 0)):=by
 unfold K2;rw[Rw ok ha hb]
 by_cases q1:b=i/\a=j
 ·obtain⟨rfl,rfl⟩:=q1
  rw[if_pos ⟨rfl,rfl⟩,if_neg (fun z=>ne z.symm),if_pos rfl,if_pos rfl,ok.sym a b ha hb];omega
 ·rw[if_neg q1]
  by_cases q2:a=i/\b=j
  ·obtain⟨rfl,rfl⟩:=q2
   rw[if_pos ⟨rfl,rfl⟩,if_pos rfl,if_pos rfl,if_neg ne];omega
  ·rw[if_neg q2]
   have h1:(if i=a then(if j=b then(1:Int) else 0) else 0)=0:=by
    by_cases z:i=a
    ·rw[if_pos z,if_neg (fun y=>q2 ⟨z.symm,y.symm⟩)]
    ·rw[if_neg z]
   have h2:(if i=b then(if j=a then(1:Int) else 0) else 0)=0:=by
    by_cases z:i=b
    ·rw[if_pos z,if_neg (fun y=>q1 ⟨z.symm,y.symm⟩)]
    ·rw[if_neg z]
   rw[h1,h2];omega
theorem LP{n a b:Nat}(ha:a<n)(hb:b<n):sN n (fun i=>sN n (fun j=>if i=a then(if j=b then(1:Int) else 0) else 0))=1:=by
 rw[YD (k:=a) ha fun i _ hi=>WB fun j _=>if_neg hi]
 rw[YD (k:=b) hb fun j _ hj=>by rw[if_pos rfl,if_neg hj],if_pos rfl,if_pos rfl]
theorem Tied.up{n t:Nat}{M:List (List Int)}{a b:Nat}(h:Tied n M t)(h8:t<=8)(ha:a<n)(hb:b<n)(ne:a≠b):Tied n (K2 M a b) (t+1):=by
 have f:=h.few a b ha hb;have lo:=h.mat.lo a b ha hb
 refine⟨ES h.mat ha hb ne (by omega) (by omega),fun i j hi hj=>?_,?_⟩
 ·rw[Hj h.mat ha hb ne]
  have g:=h.few i j hi hj
  by_cases q1:i=a
  ·have:i≠b:=fun z=>ne (q1.symm.trans z)
   rw[if_pos q1,if_neg this]
   split<;>omega
  ·rw[if_neg q1]
   by_cases q2:i=b
   ·rw[if_pos q2];split<;>omega
   ·rw[if_neg q2];omega
 ·unfold QN
  have:sN n (fun i=>sN n (fun j=>Ya (K2 M a b) i j))=sN n (fun i=>sN n (fun j=>Ya M i j)+(sN n (fun j=>if i=a then(if j=b then(1:Int) else 0) else 0)+sN n (fun j=>if i=b then(if j=a then(1:Int) else 0) else 0))):=
   Zq fun i _=>by
    rw[<-Yr,<-Yr]
    exact Zq fun j _=>Hj h.mat ha hb ne i j
  rw[this,Yr,Yr,LP ha hb,LP hb ha]
  have:=h.sum
  unfold QN at this;omega
theorem Tied.zero(n:Nat):Tied n (List.replicate n (List.replicate n 0)) 0:=by
 have z:∀i j,i<n->j<n->Ya (List.replicate n (List.replicate n (0:Int))) i j=0:=fun i j hi hj=>by
  have a:=(MatOk.zero n).lo i j hi hj
  have:ZB (List.replicate n (List.replicate n (0:Int))) i=List.replicate n 0:=by
   unfold ZB
   rw[List.getD_eq_getElem?_getD,List.getElem?_replicate,if_pos hi];rfl
  unfold Ya;rw[this];unfold Zl
  rw[List.getD_eq_getElem?_getD,List.getElem?_replicate,if_pos hj];rfl
 refine⟨MatOk.zero n,fun i j hi hj=>by rw[z i j hi hj];omega,?_⟩
 unfold QN
 exact WB fun i hi=>WB fun j hj=>z i j hi hj
theorem Tied.grow{n t:Nat}{M:List (List Int)}{a b:Nat}(h:Tied n M t)(ha:a<n)(hb:b<n):(∀i j,0<Ya M i j->0<Ya (K2 M a b) i j)/\0<Ya (K2 M a b) a b:=by
 have lo:=h.mat.lo a b ha hb
 exact GU h.mat ha hb (by omega)
theorem Pz{n t:Nat}{W:List (List Int)}(ok:ZF W)(hn:W.length=n)(hs:QN n W=2*(t:Int))(h5:t<=5):UU W<=5:=by
 have h1:=Up ok;rw[YS] at h1
 have h2:sN W.length (fun i=>(ZB W i).sum)=QN n W:=by
  unfold QN;rw[hn]
  exact Zq fun i hi=>by rw[WA ok (by omega),YS,hn]
 rw[h2,hs] at h1
 have:=ok.pos
 unfold UU;omega
theorem NG{i:Nat}{fa fb ft:XE}{s:ZU}{n:Nat}{M:List (List Int)}{a b:Nat}(ok:MatOk n M)(ha:a<n)(hb:b<n)(hs:Lp s i=some (rL M))(t:Int)(e1:fa s=some (.int (a:Int)))(e2:fb s=some (.int (b:Int)))(e3:ft s=some (.int t)) :
  YN i fa fb ft s=some (.nx (s.set i (some (.lst (rL (Vq M a b t)))))):=by
 have lenM:(rL M).length=n:=by unfold rL;rw[List.length_map];exact ok.len
 rw[Qf (l:=.int t) (a:=(a:Int)) (b:=(b:Int)) (j:=a) (c:=b) (m:=rL M) (n:=iL (ZB M a)) e3 e1 e2 hs (Tv (by rw[lenM];exact ha)) (MH (by rw[ok.len];exact ha)) (Y8 _) rfl (Tv (by rw[List.length_map,ok.row a ha];exact hb)),ID]
theorem PB{i:Nat}{fa fb ft:XE}{s:ZU}{n:Nat}{M:List (List Int)}{a b:Nat}{u:Int}(ok:MatOk n M)(ha:a<n)(hb:b<n)(hs:Lp s i=some (rL (Vq M a b u)))(t:Int)(e1:fa s=some (.int (b:Int)))(e2:fb s=some (.int (a:Int)))(e3:ft s=some (.int t)) :
  YN i fa fb ft s=some (.nx (s.set i (some (.lst (rL (Vq (Vq M a b u) b a t)))))):=by
 have sh:=WI (t:=u) (b:=b) ok.len ok.row ha
 have lenM:(rL (Vq M a b u)).length=n:=by unfold rL;rw[List.length_map];exact sh.1
 rw[Qf (l:=.int t) (a:=(b:Int)) (b:=(a:Int)) (j:=b) (c:=a) (m:=rL (Vq M a b u)) (n:=iL (ZB (Vq M a b u) b)) e3 e1 e2 hs (Tv (by rw[lenM];exact hb)) (MH (by rw[sh.1];exact hb)) (Y8 _) rfl (Tv (by rw[List.length_map,sh.2 b hb];exact ha)),ID]
theorem Oz{s:ZU}{fm fa fb:XE}{n:Nat}{M:List (List Int)}{a b:Nat}(hl:M.length=n)(hr:∀i,i<n->(ZB M i).length=n)(ha:a<n)(hb:b<n)(e0:fm s=some (.lst (rL M)))(e1:fa s=some (.int (a:Int)))(e2:fb s=some (.int (b:Int))):Zh ZS (Zh ZS fm fa) fb s=some (.int (Ya M a b)):=by
 have i1:TY (rL M) (a:Int)=some (.lst (iL (ZB M a))):=Vz (MH (by rw[hl];exact ha))
 have i2:TY (iL (ZB M a)) (b:Int)=some (.int (Ya M a b)):=XC (by rw[hr a ha];exact hb)
 have h1:Zh ZS fm fa s=some (.lst (iL (ZB M a))):=by rw[ZV,e0,e1];exact i1
 rw[ZV,h1,e2];exact i2
theorem LQ{M:List (List Int)}{n k:Nat}{s:ZU}(hl:M.length<=7)(h:s[k]?=some (some (.lst (rL M)))):eP (Ze Z5 [(Zy 1 [] (Wo (Za k)) (.one 0) ZE (Ze Z5 [(Za 0)]))]) s=some (wP M):=by
 have a:Za k s=some (.lst (rL M)):=by
  show s[k]?.bind id=_
  rw[h];rfl
 have hc:Zy 1 [] (Wo (Za k)) (.one 0) ZE (Ze Z5 [(Za 0)]) s=some (.lst (tL M)):=by
  refine Z2 M (fun r=>.lst (iL r)) pP (by unfold Wo;rw[a];rfl) (by omega) (fun r _=>⟨[some (.lst (iL r))],rfl,rfl,rfl⟩)
 rw[Xc,Zz,Zk,hc]
 show(if ZM (wP M)=true then some (wP M) else none)=_
 rw[if_pos (by rw[Pl];exact Qc _)]
abbrev Y3:PV:=.lst (iL [1,2,3,3,3,4])
theorem NH(v:Nat)(h:v<6):∃n:Nat,1<=n/\n<=4/\ZS Y3 (.int (v:Int))=some (.int (n:Int)):=by
 have:v=0\/v=1\/v=2\/v=3\/v=4\/v=5:=by omega
 rcases this with rfl | rfl | rfl | rfl | rfl | rfl
 ·exact⟨1,by omega,by omega,rfl⟩
 ·exact⟨2,by omega,by omega,rfl⟩
 ·exact⟨3,by omega,by omega,rfl⟩
 ·exact⟨3,by omega,by omega,rfl⟩
 ·exact⟨3,by omega,by omega,rfl⟩
 ·exact⟨4,by omega,by omega,rfl⟩
theorem Wj(x:Int){m:Nat}(h:0<m):∃v:Nat,v<m/\x%(m:Int)=(v:Int):=by
 have h0:=Int.emod_nonneg x (show(m:Int)≠0 by omega)
 have h1:=Int.emod_lt_of_pos x (show(0:Int)<(m:Int) by omega)
 exact⟨(x%(m:Int)).toNat,by omega,by omega⟩
def E2(n:Nat)(p:Nat×Nat):Prop:=p.1<n/\p.2<n/\p.1≠p.2
def NL(p:Nat×Nat):PV:=.tup [.int (p.1:Int),.int (p.2:Int)]
abbrev Wl(x:Int)(n:Nat)(o:List Int)(ps:List (Nat×Nat))(x6 x7 x8:Option PV):ZU:=[some (.int x),some Y3,some (.int 5),some (.int (n:Int)),some (.lst (iL o)),some (.lst (ps.map NL)),x6,x7,x8,none,none,none]
theorem NI(x:Int):∃(W:List (List Int)) (t:Nat),Wz [.int x,Y3,.int 5]=some (wP W)/\ZF W/\Vj W/\W.length<=4/\QN W.length W=2*(t:Int)/\t<=5:=by
 obtain⟨v,hv,ev⟩:=Wj x (m:=6) (by omega)
 obtain⟨n,n1,n4,en⟩:=NH v hv
 have e1:Zr 3 (eP (Zh ZS (Za 1) (Zh Yn (Za 0) (Ze Yb [(Za 1)])))) [some (.int x),some Y3,some (.int 5),none,none,none,none,none,none,none,none,none]=some (.nx [some (.int x),some Y3,some (.int 5),some (.int (n:Int)),none,none,none,none,none,none,none,none]):=by
  have a:Zh Yn (Za 0) (Ze Yb [(Za 1)]) [some (.int x),some Y3,some (.int 5),none,none,none,none,none,none,none,none,none]=some (.int (v:Int)):=by
   rw[<-ev]
   exact vC (C:=fun _ j=>0<j) (op:=(· % ·)) (a:=x) (b:=((6:Nat):Int)) rfl rfl (by decide)
  rw[Zm,vP (a:=(n:Int)) (by rw[ZV,a];exact en)];rfl
 have e2:Zr 0 (eP (Zh WZ (Za 0) (Ze Yb [(Za 1)]))) [some (.int x),some Y3,some (.int 5),some (.int (n:Int)),none,none,none,none,none,none,none,none]=some (.nx [some (.int (x/6)),some Y3,some (.int 5),some (.int (n:Int)),none,none,none,none,none,none,none,none]):=by
  rw[Zm,vP (a:=x/6) (vC (C:=T0) (op:=(· / ·)) (a:=x) (b:=6) rfl rfl ⟨by decide,by decide⟩)];rfl
 -- the order
 let f1:XS:=(Zs (Vb 4 (Zh Yn (Za 0) (Zh ZL (Za 6) (eC (.int 1)))) (Za 6)) (Zr 0 (eP (Zh WZ (Za 0) (Zh ZL (Za 6) (eC (.int 1)))))))
 obtain⟨s1,g1,y1,o,z6,hs1,nk⟩:=YO (T:=.one 6) (fb:=f1) (ls:=V6 n) (s:=Wl (x/6) n [] [] none none none) (fun i s=>∃y o z6,s=Wl y n o [] z6 none none/\NamesOk i o) ⟨x/6,[],none,rfl,NamesOk.nil⟩ (by
  rintro i l s hl ⟨y,o,z6,rfl,nk⟩
  obtain⟨hi,rfl⟩:=WN hl
  obtain⟨r,hr,er⟩:=Wj y (m:=i+1) (by omega)
  have ci:(i:Int)+1=((i+1:Nat):Int):=by omega
  have a:Zh Yn (Za 0) (Zh ZL (Za 6) (eC (.int 1))) (Wl y n o [] (some (.int (i:Int))) none none)=some (.int (r:Int)):=by
   rw[<-er,<-ci]
   exact vC (C:=fun _ j=>0<j) (op:=(· % ·)) (a:=y) rfl (vI (op:=(· + ·)) (a:=(i:Int)) rfl rfl) (by omega)
  have q1:Vb 4 (Zh Yn (Za 0) (Zh ZL (Za 6) (eC (.int 1)))) (Za 6) (Wl y n o [] (some (.int (i:Int))) none none)=some (.nx (Wl y n (o.take r++(i:Int)::o.drop r) [] (some (.int (i:Int))) none none)):=by
   rw[Qe (k:=(r:Int)) (l:=.int (i:Int)) (m:=iL o) a rfl rfl (Y8 o) rfl (by omega) (by omega) (by rw[List.length_map,nk.len];omega),Int.toNat_natCast,IE]
   rfl
  have q2:Zr 0 (eP (Zh WZ (Za 0) (Zh ZL (Za 6) (eC (.int 1))))) (Wl y n (o.take r++(i:Int)::o.drop r) [] (some (.int (i:Int))) none none)=some (.nx (Wl (y/((i:Int)+1)) n (o.take r++(i:Int)::o.drop r) [] (some (.int (i:Int))) none none)):=by
   rw[Zm,vP (a:=y/((i:Int)+1)) (vC (C:=T0) (op:=(· / ·)) (a:=y) rfl (vI (op:=(· + ·)) (a:=(i:Int)) rfl rfl) ⟨by omega,by omega⟩)];rfl
  exact⟨Wl y n o [] (some (.int (i:Int))) none none,_,rfl,(by show Zs _ _ _=_;rw[ZK q1,q2]),_,_,_,rfl,nk.ins r⟩)
 subst hs1;rw[WO] at nk
 have e5:XQ [4,5,9] (ZT [(Za 3)]) (.one 6) f1 (Wl (x/6) n [] [] none none none)=some (.nx (Wl y1 n o [] z6 none none)):=by
  show(ZT [(Za 3)] (YG [4,5,9] (Wl (x/6) n [] [] none none none))).bind _=_
  rw[Yt (n:=n) rfl (by omega)];exact g1
 -- each to one ahead
 let f2:XS:=(Zs (YM 5 (eP (Xv [(Za 6),(Zh Yn (Za 0) (Za 6))]))) (Zr 0 (eP (Zh WZ (Za 0) (Za 6)))))
 let Pre:List (Nat×Nat)->Prop:=fun ps=>∀j p,ps[j]?=some p->p.1=j+1/\p.2<j+1
 obtain⟨s2,g2,y2,ps,w6,hs2,lp,pre⟩:=YO (T:=.one 6) (fb:=f2) (ls:=W3 1 (n-1)) (s:=Wl y1 n o [] z6 none none) (fun i s=>∃y ps z6,s=Wl y n o ps z6 none none/\ps.length=i/\Pre ps) ⟨y1,[],z6,rfl,rfl,fun j p h=>by simp at h⟩ (by
  rintro i l s hl ⟨y,ps,z6,rfl,lp,pre⟩
  obtain⟨hi,rfl⟩:=Qd hl
  have ci:(1:Int)+(i:Int)=((i+1:Nat):Int):=by omega
  rw[ci]
  obtain⟨r,hr,er⟩:=Wj y (m:=i+1) (by omega)
  have q1:YM 5 (eP (Xv [(Za 6),(Zh Yn (Za 0) (Za 6))])) (Wl y n o ps (some (.int ((i+1:Nat):Int))) none none)=some (.nx (Wl y n o (ps++[(i+1,r)]) (some (.int ((i+1:Nat):Int))) none none)):=by
   have a:Zh Yn (Za 0) (Za 6) (Wl y n o ps (some (.int ((i+1:Nat):Int))) none none)=some (.int (r:Int)):=by
    rw[<-er]
    exact vC (C:=fun _ j=>0<j) (op:=(· % ·)) (a:=y) rfl rfl (by omega)
   rw[WP (l:=NL (i+1,r)) (m:=ps.map NL) (by
    rw[Xc,show Xv [(Za 6),(Zh Yn (Za 0) (Za 6))] (Wl y n o ps (some (.int ((i+1:Nat):Int))) none none)=some (NL (i+1,r)) by
     show(Sg [(Za 6),(Zh Yn (Za 0) (Za 6))] (Wl y n o ps (some (.int ((i+1:Nat):Int))) none none)).map PV.tup=_
     rw[Zk,Zk,a];rfl]
    rfl) rfl (by simp;omega)]
   show some (Out.nx [_,_,_,_,_,some (.lst (ps.map NL++[NL (i+1,r)])),_,_,_,_,_,_])=some (Out.nx [_,_,_,_,_,some (.lst ((ps++[(i+1,r)]).map NL)),_,_,_,_,_,_])
   rw[List.map_append];rfl
  have q2:Zr 0 (eP (Zh WZ (Za 0) (Za 6))) (Wl y n o (ps++[(i+1,r)]) (some (.int ((i+1:Nat):Int))) none none)=some (.nx (Wl (y/((i+1:Nat):Int)) n o (ps++[(i+1,r)]) (some (.int ((i+1:Nat):Int))) none none)):=by
   rw[Zm,vP (a:=y/((i+1:Nat):Int)) (vC (C:=T0) (op:=(· / ·)) (a:=y) rfl rfl ⟨by omega,by omega⟩)];rfl
  refine⟨Wl y n o ps (some (.int ((i+1:Nat):Int))) none none,_,rfl,(by show Zs _ _ _=_;rw[ZK q1,q2]),_,_,_,rfl,by simp[lp],fun j p h=>?_⟩
  by_cases z:j<ps.length
  ·rw[List.getElem?_append_left z] at h
   exact pre j p h
  ·rw[List.getElem?_append_right (by omega)] at h
   have:j=ps.length:=by
    have:=(List.getElem?_eq_some_iff.mp h).1
    simp at this;omega
   subst this
   simp at h
   subst h
   rw[lp];exact⟨rfl,hr⟩)
 subst hs2
 rw[show(W3 1 (n-1)).length=n-1 by simp[W3]] at lp
 have e6:XQ [4,5,9] (W8 [(eC (.int 1)),(Za 3)]) (.one 6) f2 (Wl y1 n o [] z6 none none)=some (.nx (Wl y2 n o ps w6 none none)):=by
  show(W8 [(eC (.int 1)),(Za 3)] (YG [4,5,9] (Wl y1 n o [] z6 none none))).bind _=_
  rw[Sl (i:=1) (j:=(n:Int)) rfl rfl (by omega) (by omega),show((n:Int)-1).toNat=n-1 by omega];exact g2
 -- how many more
 obtain⟨r,hr,er⟩:=Wj y2 (m:=7-n) (by omega)
 have c7:(5:Int)-(n:Int)+2=((7-n:Nat):Int):=by omega
 have am:∀z7,Zh Yn (Za 0) (Zh ZL (Zh ZP (Za 2) (Za 3)) (eC (.int 2))) (Wl y2 n o ps w6 z7 none)=some (.int (r:Int)):=fun z7=>by
  rw[<-er,<-c7]
  exact vC (C:=fun _ j=>0<j) (op:=(· % ·)) (a:=y2) rfl (vI (op:=(· + ·)) (vI (op:=(· - ·)) (a:=5) rfl rfl) rfl) (by omega)
 obtain⟨mo,hmo,em,m1⟩:∃mo:Nat,mo+n<=6/\Zr 7 (eP (Zh UW (Ze SS [(Zh Sd (Za 3) (eC (.int 1)))]) (Zh Yn (Za 0) (Zh ZL (Zh ZP (Za 2) (Za 3)) (eC (.int 2)))))) (Wl y2 n o ps w6 none none)=some (.nx (Wl y2 n o ps w6 (some (.int (mo:Int))) none))/\(1<=mo->2<=n):=by
  by_cases q:1<n
  ·have g:Ze SS [(Zh Sd (Za 3) (eC (.int 1)))] (Wl y2 n o ps w6 none none)=some (.int 1):=by
    have q':(n:Int)>1:=by omega
    have:Zh Sd (Za 3) (eC (.int 1)) (Wl y2 n o ps w6 none none)=some (.bl true):=by
     show some (PV.bl (decide ((n:Int)>1)))=_
     rw[decide_eq_true q']
    rw[Zz,Zk,this];rfl
   refine⟨r,by omega,?_,fun _=>by omega⟩
   rw[Zm,vP (a:=1*(r:Int)) (vC (C:=CMul) (op:=(· * ·)) g (am none) (.inl (by omega)))]
   rw[Int.one_mul];rfl
  ·have g:Ze SS [(Zh Sd (Za 3) (eC (.int 1)))] (Wl y2 n o ps w6 none none)=some (.int 0):=by
    have q':¬(n:Int)>1:=by omega
    have:Zh Sd (Za 3) (eC (.int 1)) (Wl y2 n o ps w6 none none)=some (.bl false):=by
     show some (PV.bl (decide ((n:Int)>1)))=_
     rw[decide_eq_false q']
    rw[Zz,Zk,this];rfl
   refine⟨0,by omega,?_,fun h=>by omega⟩
   rw[Zm,vP (a:=0*(r:Int)) (vC (C:=CMul) (op:=(· * ·)) g (am none) (.inl (by omega)))]
   rw[Int.zero_mul];rfl
 have e8:Zr 0 (eP (Zh WZ (Za 0) (Zh ZL (Zh ZP (Za 2) (Za 3)) (eC (.int 2))))) (Wl y2 n o ps w6 (some (.int (mo:Int))) none)=some (.nx (Wl (y2/((5:Int)-(n:Int)+2)) n o ps w6 (some (.int (mo:Int))) none)):=by
  rw[Zm,vP (a:=y2/((5:Int)-(n:Int)+2)) (vC (C:=T0) (op:=(· / ·)) (a:=y2) rfl (vI (op:=(· + ·)) (vI (op:=(· - ·)) (a:=5) rfl rfl) rfl) ⟨by omega,by omega⟩)];rfl
 -- more pairs
 let f3:XS:=(Zs (Zr 8 (eP (Zh Yn (Za 0) (Za 3)))) (Zs (Zr 0 (eP (Zh WZ (Za 0) (Za 3)))) (Zs (YM 5 (eP (Xv [(Za 8),(Zh Yn (Zh ZL (Zh ZL (Za 8) (eC (.int 1))) (Zh Yn (Za 0) (Zh ZP (Za 3) (eC (.int 1))))) (Za 3))]))) (Zr 0 (eP (Zh WZ (Za 0) (Zh ZP (Za 3) (eC (.int 1)))))))))
 let All:List (Nat×Nat)->Prop:=fun qs=>(∀j,j<n-1->qs[j]?=ps[j]?)/\∀p∈qs,E2 n p
 have all0:All ps:=⟨fun j _=>rfl,fun p hp=>by
  obtain⟨j,hj,e⟩:=List.getElem_of_mem hp
  have:=pre j p (by rw[List.getElem?_eq_getElem hj,e])
  exact⟨by omega,by omega,by omega⟩⟩
 obtain⟨s3,g3,y3,qs,v6,v8,hs3,lq,all⟩:=YO (T:=.one 6) (fb:=f3) (ls:=V6 mo) (s:=Wl (y2/((5:Int)-(n:Int)+2)) n o ps w6 (some (.int (mo:Int))) none) (fun i s=>∃y qs z6 z8,s=Wl y n o qs z6 (some (.int (mo:Int))) z8/\qs.length=n-1+i/\All qs) ⟨_,ps,w6,none,rfl,by omega,all0⟩ (by
  rintro i l s hl ⟨y,qs,z6,z8,rfl,lq,all⟩
  obtain⟨hi,rfl⟩:=WN hl
  have n2:=m1 (by omega)
  obtain⟨a,ha,ea⟩:=Wj y (m:=n) (by omega)
  obtain⟨b,hb,eb⟩:=Wj (y/(n:Int)) (m:=n-1) (by omega)
  obtain⟨c,hc,ec⟩:=Wj ((a:Int)+1+(b:Int)) (m:=n) (by omega)
  have cn:(n:Int)-1=((n-1:Nat):Int):=by omega
  have ne:a≠c:=fun z=>by
   subst z
   have h1:((a:Int)+1+(b:Int))=((a+1+b:Nat):Int):=by omega
   rw[h1] at ec
   have ec':(a+1+b)%n=a:=by
    have:=ec
    rw[<-Int.natCast_emod] at this;omega
   by_cases w:a+1+b<n
   ·rw[Nat.mod_eq_of_lt w] at ec';omega
   ·rw[Nat.mod_eq_sub_mod (by omega),Nat.mod_eq_of_lt (by omega)] at ec';omega
  have q1:Zr 8 (eP (Zh Yn (Za 0) (Za 3))) (Wl y n o qs (some (.int (i:Int))) (some (.int (mo:Int))) z8)=some (.nx (Wl y n o qs (some (.int (i:Int))) (some (.int (mo:Int))) (some (.int (a:Int))))):=by
   rw[Zm,vP (a:=(a:Int)) (by rw[<-ea];exact vC (C:=fun _ j=>0<j) (op:=(· % ·)) (a:=y) rfl rfl (by omega))];rfl
  have q2:Zr 0 (eP (Zh WZ (Za 0) (Za 3))) (Wl y n o qs (some (.int (i:Int))) (some (.int (mo:Int))) (some (.int (a:Int))))=some (.nx (Wl (y/(n:Int)) n o qs (some (.int (i:Int))) (some (.int (mo:Int))) (some (.int (a:Int))))):=by
   rw[Zm,vP (a:=y/(n:Int)) (vC (C:=T0) (op:=(· / ·)) (a:=y) rfl rfl ⟨by omega,by omega⟩)];rfl
  have q3:YM 5 (eP (Xv [(Za 8),(Zh Yn (Zh ZL (Zh ZL (Za 8) (eC (.int 1))) (Zh Yn (Za 0) (Zh ZP (Za 3) (eC (.int 1))))) (Za 3))])) (Wl (y/(n:Int)) n o qs (some (.int (i:Int))) (some (.int (mo:Int))) (some (.int (a:Int))))=some (.nx (Wl (y/(n:Int)) n o (qs++[(a,c)]) (some (.int (i:Int))) (some (.int (mo:Int))) (some (.int (a:Int))))):=by
   have a1:Zh Yn (Za 0) (Zh ZP (Za 3) (eC (.int 1))) (Wl (y/(n:Int)) n o qs (some (.int (i:Int))) (some (.int (mo:Int))) (some (.int (a:Int))))=some (.int (b:Int)):=by
    rw[<-eb,<-cn]
    exact vC (C:=fun _ j=>0<j) (op:=(· % ·)) (a:=y/(n:Int)) rfl (vI (op:=(· - ·)) (a:=(n:Int)) rfl rfl) (by omega)
   have a2:Zh Yn (Zh ZL (Zh ZL (Za 8) (eC (.int 1))) (Zh Yn (Za 0) (Zh ZP (Za 3) (eC (.int 1))))) (Za 3) (Wl (y/(n:Int)) n o qs (some (.int (i:Int))) (some (.int (mo:Int))) (some (.int (a:Int))))=some (.int (c:Int)):=by
    rw[<-ec]
    exact vC (C:=fun _ j=>0<j) (op:=(· % ·)) (vI (op:=(· + ·)) (vI (op:=(· + ·)) (a:=(a:Int)) rfl rfl) a1) rfl (by omega)
   rw[WP (l:=NL (a,c)) (m:=qs.map NL) (by
    rw[Xc,show Xv [(Za 8),(Zh Yn (Zh ZL (Zh ZL (Za 8) (eC (.int 1))) (Zh Yn (Za 0) (Zh ZP (Za 3) (eC (.int 1))))) (Za 3))] (Wl (y/(n:Int)) n o qs (some (.int (i:Int))) (some (.int (mo:Int))) (some (.int (a:Int))))=some (NL (a,c)) by
     show(Sg [(Za 8),(Zh Yn (Zh ZL (Zh ZL (Za 8) (eC (.int 1))) (Zh Yn (Za 0) (Zh ZP (Za 3) (eC (.int 1))))) (Za 3))] (Wl (y/(n:Int)) n o qs (some (.int (i:Int))) (some (.int (mo:Int))) (some (.int (a:Int))))).map PV.tup=_
     rw[Zk,Zk,a2];rfl]
    rfl) rfl (by simp;omega)]
   show some (Out.nx [_,_,_,_,_,some (.lst (qs.map NL++[NL (a,c)])),_,_,_,_,_,_])=some (Out.nx [_,_,_,_,_,some (.lst ((qs++[(a,c)]).map NL)),_,_,_,_,_,_])
   rw[List.map_append];rfl
  have q4:Zr 0 (eP (Zh WZ (Za 0) (Zh ZP (Za 3) (eC (.int 1))))) (Wl (y/(n:Int)) n o (qs++[(a,c)]) (some (.int (i:Int))) (some (.int (mo:Int))) (some (.int (a:Int))))=some (.nx (Wl (y/(n:Int)/((n:Int)-1)) n o (qs++[(a,c)]) (some (.int (i:Int))) (some (.int (mo:Int))) (some (.int (a:Int))))):=by
   rw[Zm,vP (a:=y/(n:Int)/((n:Int)-1)) (vC (C:=T0) (op:=(· / ·)) (a:=y/(n:Int)) rfl (vI (op:=(· - ·)) (a:=(n:Int)) rfl rfl) ⟨by omega,by omega⟩)];rfl
  refine⟨Wl y n o qs (some (.int (i:Int))) (some (.int (mo:Int))) z8,_,rfl,(by show Zs _ _ _=_;rw[ZK q1,ZK q2,ZK q3,q4]),_,_,_,_,rfl,by simp[lq];omega,fun j hj=>?_,fun p hp=>?_⟩
  ·rw[List.getElem?_append_left (by omega)]
   exact all.1 j hj
  ·rcases List.mem_append.mp hp with hp | hp
   ·exact all.2 p hp
   ·rw[List.mem_singleton.mp hp]
    exact⟨ha,hc,ne⟩)
 subst hs3;rw[WO] at lq
 have e9:XQ [4,5,9] (ZT [(Za 7)]) (.one 6) f3 (Wl (y2/((5:Int)-(n:Int)+2)) n o ps w6 (some (.int (mo:Int))) none)=some (.nx (Wl y3 n o qs v6 (some (.int (mo:Int))) v8)):=by
  show(ZT [(Za 7)] (YG [4,5,9] (Wl (y2/((5:Int)-(n:Int)+2)) n o ps w6 (some (.int (mo:Int))) none))).bind _=_
  rw[Yt (n:=mo) rfl (by omega)];exact g3
 -- the rows
 let Z:=List.replicate n (List.replicate n (0:Int))
 let stT:List (List Int)->Option PV->Option PV->Option PV->ZU:=fun M z8 z10 z11=>[some (.int y3),some Y3,some (.int 5),some (.int (n:Int)),some (.lst (iL o)),some (.lst (qs.map NL)),v6,some (.int (mo:Int)),z8,some (.lst (rL M)),z10,z11]
 have e10:Zr 9 (Zy 1 [3] (ZT [(Za 3)]) (.one 0) ZE (Zh Ma (Wm [(eC (.int 0))]) (Za 1))) (Wl y3 n o qs v6 (some (.int (mo:Int))) v8)=some (.nx (stT Z v8 none none)):=by
  rw[Zm,Ps (n:=n) rfl (by omega)];rfl
 let f4:XS:=(Zs (Zr 11 (eP (Zh ZL (Zh ZS (Zh ZS (Za 9) (Zh ZS (Za 4) (Za 8))) (Zh ZS (Za 4) (Za 10))) (eC (.int 1))))) (Zs (YN 9 (Zh ZS (Za 4) (Za 8)) (Zh ZS (Za 4) (Za 10)) (Za 11)) (YN 9 (Zh ZS (Za 4) (Za 10)) (Zh ZS (Za 4) (Za 8)) (Za 11))))
 obtain⟨s4,g4,M,t8,t10,t11,hs4,td,gr⟩:=YO (T:=.many [8,10]) (fb:=f4) (ls:=qs.map NL) (s:=stT Z v8 none none) (fun i s=>∃M z8 z10 z11,s=stT M z8 z10 z11/\Tied n M i/\Grown M o (min (i+1) n)) ⟨Z,v8,none,none,rfl,Tied.zero n,fun j h1 h2=>by omega⟩ (by
  rintro i l s hl ⟨M,z8,z10,z11,rfl,td,gr⟩
  obtain⟨⟨p1,p2⟩,hp,rfl⟩:∃p,qs[i]?=some p/\l=NL p:=by
   rw[List.getElem?_map] at hl
   cases q:qs[i]? with
   | none=>rw[q] at hl;cases hl
   | some p=>rw[q] at hl;cases hl;exact⟨p,rfl,rfl⟩
  have hi:i<qs.length:=(List.getElem?_eq_some_iff.mp hp).1
  obtain⟨h1,h2,h3⟩:=all.2 _ (List.mem_of_getElem? hp)
  have h1:p1<n:=h1
  have h2:p2<n:=h2
  have h3:p1≠p2:=h3
  have na:=nk.at (x:=p1) h1
  have nb:=nk.at (x:=p2) h2
  have nn:=nk.ne (x:=p1) (y:=p2) h1 h2 h3
  obtain⟨a,ea⟩:∃a:Nat,Zl o p1=(a:Int):=⟨(Zl o p1).toNat,by omega⟩
  obtain⟨b,eb⟩:∃b:Nat,Zl o p2=(b:Int):=⟨(Zl o p2).toNat,by omega⟩
  have ha:a<n:=by omega
  have hb:b<n:=by omega
  have ab:a≠b:=by omega
  have ia:∀M z11,Zh ZS (Za 4) (Za 8) (stT M (some (.int (p1:Int))) (some (.int (p2:Int))) z11)=some (.int (a:Int)):=fun M z11=>by
   have:=XC (l:=o) (k:=p1) (by rw[nk.len];exact h1)
   rw[ea] at this;exact this
  have ib:∀M z11,Zh ZS (Za 4) (Za 10) (stT M (some (.int (p1:Int))) (some (.int (p2:Int))) z11)=some (.int (b:Int)):=fun M z11=>by
   have:=XC (l:=o) (k:=p2) (by rw[nk.len];exact h2)
   rw[eb] at this;exact this
  let t:=Ya M a b+1
  have q1:Zr 11 (eP (Zh ZL (Zh ZS (Zh ZS (Za 9) (Zh ZS (Za 4) (Za 8))) (Zh ZS (Za 4) (Za 10))) (eC (.int 1)))) (stT M (some (.int (p1:Int))) (some (.int (p2:Int))) z11)=some (.nx (stT M (some (.int (p1:Int))) (some (.int (p2:Int))) (some (.int t)))):=by
   rw[Zm,vP (vI (op:=(· + ·)) (Oz td.mat.len td.mat.row ha hb rfl (ia M z11) (ib M z11)) rfl)];rfl
  have q2:YN 9 (Zh ZS (Za 4) (Za 8)) (Zh ZS (Za 4) (Za 10)) (Za 11) (stT M (some (.int (p1:Int))) (some (.int (p2:Int))) (some (.int t)))=some (.nx (stT (Vq M a b t) (some (.int (p1:Int))) (some (.int (p2:Int))) (some (.int t)))):=by
   rw[NG td.mat ha hb rfl t (ia M _) (ib M _) rfl];rfl
  have q3:YN 9 (Zh ZS (Za 4) (Za 10)) (Zh ZS (Za 4) (Za 8)) (Za 11) (stT (Vq M a b t) (some (.int (p1:Int))) (some (.int (p2:Int))) (some (.int t)))=some (.nx (stT (K2 M a b) (some (.int (p1:Int))) (some (.int (p2:Int))) (some (.int t)))):=by
   rw[PB td.mat ha hb rfl t (ib _ _) (ia _ _) rfl];rfl
  obtain⟨gr1,gr2⟩:=td.grow ha hb
  refine⟨stT M (some (.int (p1:Int))) (some (.int (p2:Int))) z11,_,rfl,(by show Zs _ _ _=_;rw[ZK q1,ZK q2,q3]),_,_,_,_,rfl,td.up (by omega) ha hb ab,fun j h1 h2=>?_⟩
  by_cases w:j<min (i+1) n
  ·exact(gr.mono gr1) j h1 w
  ·have hj:j=i+1:=by omega
   have hin:i<n-1:=by omega
   have pp:=pre i (p1,p2) (by rw[<-all.1 i hin];exact hp)
   refine⟨p2,by omega,?_⟩
   have e1:p1=j:=by have:=pp.1;simp at this;omega
   rw[<-e1,ea,eb]
   exact gr2)
 subst hs4
 rw[List.length_map,lq] at td gr
 have e11:XQ [9] (Wo (Za 5)) (.many [8,10]) f4 (stT Z v8 none none)=some (.nx (stT M t8 t10 t11)):=by
  show(Wo (Za 5) (YG [9] (stT Z v8 none none))).bind _=_
  exact g4
 have ok:ZF M:=td.mat.web (by omega) (by omega)
 refine⟨M,n-1+mo,?_,ok,Grown.conn (n:=n) (fun j h1 h2=>gr j h1 (by omega)) td.mat.len nk,by rw[td.mat.len];exact n4,by rw[td.mat.len];exact td.sum,by omega⟩
 show YU 12 Wy _=_
 unfold Wy
 show(Zs _ _ [some (.int x),some Y3,some (.int 5),none,none,none,none,none,none,none,none,none]).bind Xn=_
 rw[ZK e1,ZK e2,ZK (s1:=[some (.int (x/6)),some Y3,some (.int 5),some (.int (n:Int)),some (.lst (iL [])),none,none,none,none,none,none,none]) rfl,ZK (s1:=Wl (x/6) n [] [] none none none) rfl,ZK e5,ZK e6,ZK em,ZK e8,ZK e9,ZK e10,ZK e11,W5 (LQ (n:=n) (by rw[td.mat.len];omega) rfl)]
 rfl
theorem Fe(l:List PV){k:Nat}(h:k<=l.length):Vf l none (some (k:Int))=l.take k:=by
 unfold Vf;rw[HT.sIx_nat,HT.sIx_none,Nat.min_eq_left h,List.drop_zero,Nat.sub_zero]
theorem Ff(l:List PV){k:Nat}(h:k<=l.length):Vf l (some (k:Int)) none=l.drop k:=by
 unfold Vf
 rw[HT.sIx_nat,HT.sIx_none,Nat.min_eq_left h,List.take_of_length_le (by rw[List.length_drop];omega)]
def SL{α:Type}(k:Nat)(l:List α):List α:=l.drop k++l.take k
theorem OA{α:Type}{k:Nat}{l:List α}(h:k<=l.length):(SL k l).length=l.length:=by unfold SL;rw[List.length_append,List.length_drop,List.length_take];omega
theorem OB{α:Type}{k i:Nat}{l:List α}(h:k<=l.length)(hi:i<l.length):(SL k l)[i]?=l[(i+k)%l.length]?:=by
 unfold SL
 by_cases q:i<l.length-k
 ·rw[List.getElem?_append_left (by rw[List.length_drop];exact q),List.getElem?_drop,Nat.mod_eq_of_lt (by omega),Nat.add_comm]
 ·rw[List.getElem?_append_right (by rw[List.length_drop];omega),List.length_drop,Nat.mod_eq_sub_mod (by omega),Nat.mod_eq_of_lt (by omega),List.getElem?_take_of_lt (by omega)]
  congr 1
  omega
def TX(k:Nat)(M:List (List Int)):List (List Int):=(SL k M).map (SL k)
theorem WX{n k:Nat}{M:List (List Int)}(ok:MatOk n M)(hk:k<n){i j:Nat}(hi:i<n)(hj:j<n):Ya (TX k M) i j=Ya M ((i+k)%n) ((j+k)%n):=by
 have hm:(i+k)%n<n:=Nat.mod_lt _ (by omega)
 have r1:ZB (TX k M) i=SL k (ZB M ((i+k)%n)):=by
  unfold ZB TX
  rw[List.getD_eq_getElem?_getD,List.getElem?_map,OB (by rw[ok.len];omega) (by rw[ok.len];exact hi),ok.len,List.getElem?_eq_getElem (by rw[ok.len];exact hm),List.getD_eq_getElem?_getD,List.getElem?_eq_getElem (by rw[ok.len];exact hm)]
  rfl
 have lr:=ok.row _ hm;unfold Ya;rw[r1];unfold Zl
 rw[List.getD_eq_getElem?_getD,List.getD_eq_getElem?_getD,OB (by rw[lr];omega) (by rw[lr];exact hj),lr]
theorem LR{n k:Nat}{M:List (List Int)}(ok:MatOk n M)(hk:k<n):MatOk n (TX k M):=by
 have hm:∀i,(i+k)%n<n:=fun i=>Nat.mod_lt _ (by omega)
 refine⟨by unfold TX;rw[List.length_map,OA (by rw[ok.len];omega),ok.len],fun i hi=>?_,fun i j hi hj=>?_,fun i j hi hj=>?_,fun i j hi hj=>?_,fun i hi=>?_⟩
 ·have:ZB (TX k M) i=SL k (ZB M ((i+k)%n)):=by
   unfold ZB TX
   rw[List.getD_eq_getElem?_getD,List.getElem?_map,OB (by rw[ok.len];omega) (by rw[ok.len];exact hi),ok.len,List.getElem?_eq_getElem (by rw[ok.len];exact hm i),List.getD_eq_getElem?_getD,List.getElem?_eq_getElem (by rw[ok.len];exact hm i)]
   rfl
  rw[this,OA (by rw[ok.row _ (hm i)];omega),ok.row _ (hm i)]
 ·rw[WX ok hk hi hj];exact ok.lo _ _ (hm i) (hm j)
 ·rw[WX ok hk hi hj];exact ok.hi _ _ (hm i) (hm j)
 ·rw[WX ok hk hi hj,WX ok hk hj hi];exact ok.sym _ _ (hm i) (hm j)
 ·rw[WX ok hk hi hi];exact ok.dia _ (hm i)
theorem NJ{n k:Nat}(hn:n<=4)(hk:k<n)(f:Nat->Int):sN n (fun i=>f ((i+k)%n))=sN n f:=by
 have:n=1\/n=2\/n=3\/n=4:=by omega
 have:k=0\/k=1\/k=2\/k=3:=by omega
 rcases ‹n=1\/_› with rfl | rfl | rfl | rfl<;>rcases ‹k=0\/_› with rfl | rfl | rfl | rfl<;>first
  | (exfalso;omega)
  | (simp[sN];done)
  | (simp[sN];omega)
theorem Fg{n k:Nat}{M:List (List Int)}(ok:MatOk n M)(hn:n<=4)(hk:k<n):QN n (TX k M)=QN n M:=by
 unfold QN;rw[Zq (g:=fun i=>sN n (fun j=>Ya M ((i+k)%n) ((j+k)%n))) fun i hi=>Zq fun j hj=>WX ok hk hi hj];rw[NJ hn hk (fun x=>sN n (fun j=>Ya M x ((j+k)%n)))]
 exact Zq fun x _=>NJ hn hk (fun y=>Ya M x y)
def DW(n:Nat):List Int:=(List.range n).map fun(i:Nat)=>(i:Int)
theorem OC{n i:Nat}(h:i<n):Zl (DW n) i=(i:Int):=ZO h
def Cd(n k:Nat):List Int:=(List.range n).map fun(i:Nat)=>(((i+n-k)%n:Nat):Int)
theorem Hk{n k i:Nat}(h:i<n):Zl (Cd n k) i=(((i+n-k)%n:Nat):Int):=ZO h
theorem LS{n k i:Nat}(hk:k<n)(hi:i<n):((i+n-k)%n+k)%n=i:=by
 rw[Nat.mod_add_mod,show i+n-k+k=i+n by omega,Nat.add_mod_right,Nat.mod_eq_of_lt hi]
theorem Hl{n k:Nat}(hn:n<=4)(hk:k<n):NamesOk n (Cd n k):=by
 refine⟨by simp[Cd],?_,fun x hx=>?_,fun x hx=>?_⟩
 ·have:n=1\/n=2\/n=3\/n=4:=by omega
  have:k=0\/k=1\/k=2\/k=3:=by omega
  rcases ‹n=1\/_› with rfl | rfl | rfl | rfl<;>rcases ‹k=0\/_› with rfl | rfl | rfl | rfl<;>first
   | (exfalso;omega)
   | decide
 ·obtain⟨i,_,rfl⟩:=List.mem_map.mp hx
  omega
 ·obtain⟨i,_,rfl⟩:=List.mem_map.mp hx
  have:(i+n-k)%n<n:=Nat.mod_lt _ (by omega)
  omega
theorem Hm{n k:Nat}{M:List (List Int)}(ok:MatOk n M)(hn:n<=4)(hk:k<n)(gr:Grown M (DW n) n):Vj (TX k M):=by
 refine Grown.conn (n:=n) (l:=Cd n k) (fun j h1 h2=>?_) (LR ok hk).len (Hl hn hk)
 obtain⟨j',hj',e⟩:=gr j h1 h2
 refine⟨j',hj',?_⟩
 rw[Hk h2,Hk (by omega),Int.toNat_natCast,Int.toNat_natCast,WX ok hk (Nat.mod_lt _ (by omega)) (Nat.mod_lt _ (by omega)),LS hk h2,LS hk (by omega)];rw[OC h2,OC (by omega),Int.toNat_natCast,Int.toNat_natCast] at e;exact e
theorem Hn{ns:List Int}(hns:ns.length<=63):∃W,UP [.cst (iL ns),Y3,.int 5]=some (wP W)/\ZF W/\Vj W/\W.length<=4/\UU W<=5:=by
 have at0:ZD [.cst (iL ns),.int 0]=some (.int (Zl ns 0)):=Ve hns 0
 let s0:ZU:=[some (.cst (iL ns)),some Y3,some (.int 5),none,none,none,none,none,none,none,none,none]
 have a0:∀s:ZU,s[0]?=some (some (.cst (iL ns)))->Ze ZD [(Za 0),(eC (.int 0))] s=some (.int (Zl ns 0)):=fun s h=>by
  have:Za 0 s=some (.cst (iL ns)):=by
   show s[0]?.bind id=_
   rw[h];rfl
  rw[Zz,Zk,this];exact at0
 have c0:xB (Zh (V5 false) (Zh Yn (Ze ZD [(Za 0),(eC (.int 0))]) (eC (.int 2))) (eC (.int 1))) s0=some (decide (Zl ns 0%2=1)):=by
  have m:Zh Yn (Ze ZD [(Za 0),(eC (.int 0))]) (eC (.int 2)) s0=some (.int (Zl ns 0%2)):=vC (C:=fun _ j=>0<j) (op:=(· % ·)) (a0 s0 rfl) rfl (by decide)
  rw[XR,ZV,m]
  show(V5 false (.int (Zl ns 0%2)) (.int 1)).bind FD=_
  rw[Md];rfl
 by_cases q:Zl ns 0%2=1
 ·obtain⟨W,t,e,ok,cn,l4,sm,t5⟩:=NI (Zl ns 1)
  refine⟨W,?_,ok,cn,l4,Pz ok rfl sm t5⟩
  have at1:ZD [.cst (iL ns),.int 1]=some (.int (Zl ns 1)):=Ve hns 1
  show YU 12 UO _=_
  unfold UO
  show(Zs _ _ s0).bind Xn=_
  rw[IG (v:=wP W)]
  ·rfl
  ·rw[Xg,c0,decide_eq_true q]
   refine W5 ?_
   have a1:Ze ZD [(Za 0),(eC (.int 1))] s0=some (.int (Zl ns 1)):=at1
   rw[Zz,Zk,a1];exact e
 ·obtain⟨v,hv,ev⟩:=Xs (Zl ns 0) (t:=1) (m:=6) (by omega) (by omega)
  obtain⟨n,n1,n4,en⟩:=NH v hv
  have e1:Zr 3 (eP (Zh ZS (Za 1) (Ze Zt [(Ze ZD [(Za 0),(eC (.int 0))]),(eC (.int 1)),(Ze Yb [(Za 1)])]))) s0=some (.nx [some (.cst (iL ns)),some Y3,some (.int 5),some (.int (n:Int)),none,none,none,none,none,none,none,none]):=by
   have a:Ze Zt [(Ze ZD [(Za 0),(eC (.int 0))]),(eC (.int 1)),(Ze Yb [(Za 1)])] s0=some (.int (v:Int)):=by
    rw[Zz,Zk,a0 s0 rfl];exact ev
   rw[Zm,vP (a:=(n:Int)) (by rw[ZV,a];exact en)];rfl
  let Z:=List.replicate n (List.replicate n (0:Int))
  let st:List (List Int)->Nat->Option PV->Option PV->Option PV->Option PV->Option PV->ZU:=fun M t x6 x7 x8 x9 x10=>[some (.cst (iL ns)),some Y3,some (.int 5),some (.int (n:Int)),some (.lst (rL M)),some (.int (t:Int)),x6,x7,x8,x9,x10,none]
  have e2:Zr 4 (Zy 1 [3] (ZT [(Za 3)]) (.one 0) ZE (Zh Ma (Wm [(eC (.int 0))]) (Za 1))) [some (.cst (iL ns)),some Y3,some (.int 5),some (.int (n:Int)),none,none,none,none,none,none,none,none]=some (.nx [some (.cst (iL ns)),some Y3,some (.int 5),some (.int (n:Int)),some (.lst (rL Z)),none,none,none,none,none,none,none]):=by
   rw[Zm,Ps (n:=n) rfl (by omega)];rfl
  have e3:Zr 5 (eP (eC (.int 0))) [some (.cst (iL ns)),some Y3,some (.int 5),some (.int (n:Int)),some (.lst (rL Z)),none,none,none,none,none,none,none]=some (.nx (st Z 0 none none none none none)):=by
   rw[Zm,vP (a:=0) rfl];rfl
  let fT:XS:=(Zs (YN 4 (Za 8) (Za 9) (Zh ZL (Zh ZS (Zh ZS (Za 4) (Za 8)) (Za 9)) (eC (.int 1))))
   (Zs (YN 4 (Za 9) (Za 8) (Zh ZS (Zh ZS (Za 4) (Za 8)) (Za 9)))
   (Zr 5 (eP (Zh ZL (Za 5) (eC (.int 1)))))))
  have tie:∀(M:List (List Int))(t:Nat)(x6 x7 x10:Option PV)(a b:Nat),MatOk n M->a<n->b<n->fT (st M t x6 x7 (some (.int (a:Int))) (some (.int (b:Int))) x10)=some (.nx (st (K2 M a b) (t+1) x6 x7 (some (.int (a:Int))) (some (.int (b:Int))) x10)):=fun M t x6 x7 x10 a b ok ha hb=>by
   have q1:YN 4 (Za 8) (Za 9) (Zh ZL (Zh ZS (Zh ZS (Za 4) (Za 8)) (Za 9)) (eC (.int 1))) (st M t x6 x7 (some (.int (a:Int))) (some (.int (b:Int))) x10)=some (.nx (st (Vq M a b (Ya M a b+1)) t x6 x7 (some (.int (a:Int))) (some (.int (b:Int))) x10)):=by
    rw[NG ok ha hb rfl (Ya M a b+1) rfl rfl (vI (op:=(· + ·)) (Oz ok.len ok.row ha hb rfl rfl rfl) rfl)];rfl
   have q2:YN 4 (Za 9) (Za 8) (Zh ZS (Zh ZS (Za 4) (Za 8)) (Za 9)) (st (Vq M a b (Ya M a b+1)) t x6 x7 (some (.int (a:Int))) (some (.int (b:Int))) x10)=some (.nx (st (K2 M a b) t x6 x7 (some (.int (a:Int))) (some (.int (b:Int))) x10)):=by
    have sh:=WI (t:=Ya M a b+1) (b:=b) ok.len ok.row ha
    have rd:=Oz (s:=st (Vq M a b (Ya M a b+1)) t x6 x7 (some (.int (a:Int))) (some (.int (b:Int))) x10) (fm:=Za 4) (fa:=Za 8) (fb:=Za 9) sh.1 sh.2 ha hb rfl rfl rfl
    rw[RS ok.len ok.row ha hb,if_pos ⟨rfl,rfl⟩] at rd
    rw[PB ok ha hb rfl (Ya M a b+1) rfl rfl rd];rfl
   have q3:Zr 5 (eP (Zh ZL (Za 5) (eC (.int 1)))) (st (K2 M a b) t x6 x7 (some (.int (a:Int))) (some (.int (b:Int))) x10)=some (.nx (st (K2 M a b) (t+1) x6 x7 (some (.int (a:Int))) (some (.int (b:Int))) x10)):=by
    have e:(t:Int)+1=((t+1:Nat):Int):=by omega
    rw[Zm,vP (a:=((t+1:Nat):Int)) (by rw[<-e];exact vI (op:=(· + ·)) (a:=(t:Int)) rfl rfl)];rfl
   show Zs _ _ _=_
   rw[ZK q1,ZK q2,q3]
  let fb:XS:=(Zs (Zr 7 (Ze ZD [(Za 0),(Za 6)]))
   (Zs (Zr 8 (Ze Zt [(Za 7),(eC (.int 13)),(Za 3)]))
   (Zs (Zr 9 (eP (Zh Yn (Zh ZL (Zh ZL (Za 8) (eC (.int 1))) (Ze Zt [(Za 7),(eC (.int 17)),(Ze W6 [(eC (.int 1)),(Zh ZP (Za 3) (eC (.int 1)))])])) (Za 3))))
   (Zs (Rr (xB (Zh UY (Za 6) (Za 3))) (Zs (Zr 8 (eP (Za 6)))
   (Zr 9 (Ze Zt [(Za 7),(eC (.int 5)),(Za 6)]))) Y5)
   (Zs (Zr 10 (eP (Ta (Zh Sd (Za 3) (eC (.int 1))) (Ta (Zh UY (Za 5) (Za 2)) (Zh Sd (Ze Zt [(Za 7),(eC (.int 3)),(eC (.int 3))]) (eC (.int 0)))))))
   (Rr (Ge (xB (Zh UY (Za 6) (Za 3))) (xB (Za 10))) fT Y5))))))
  obtain⟨s4,g4,M,t,y6,y7,y8,y9,y10,hs4,td,t5,tl,gr⟩:=YO (T:=.one 6) (fb:=fb) (ls:=W3 1 12) (s:=st Z 0 none none none none none)
   (fun i s=>∃M t x6 x7 x8 x9 x10,s=st M t x6 x7 x8 x9 x10/\Tied n M t/\t<=5/\(i<=n-1->t=i)/\Grown M (DW n) (min (i+1) n)) ⟨Z,0,none,none,none,none,none,rfl,Tied.zero n,by omega,fun _=>rfl,fun j h1 h2=>by omega⟩ (by
   rintro i l s hl ⟨M,t,x6,x7,x8,x9,x10,rfl,td,t5,tl,gr⟩
   obtain⟨hi,rfl⟩:=Qd hl
   have ci:(1:Int)+(i:Int)=((i+1:Nat):Int):=by omega
   rw[ci]
   let K6:Option PV:=some (.int ((i+1:Nat):Int))
   let c:=Zl ns (i+1)
   let C7:Option PV:=some (.int c)
   obtain⟨a,ha,ea⟩:=Xs c (t:=13) (m:=n) (by omega) (by omega)
   obtain⟨b,hb,eb⟩:=Xs c (t:=17) (m:=max 1 (n-1)) (by omega) (by omega)
   obtain⟨d,hd,ed⟩:=Wj ((a:Int)+1+(b:Int)) (m:=n) (by omega)
   obtain⟨r,hr,er⟩:=Xs c (t:=3) (m:=3) (by omega) (by omega)
   have q1:Zr 7 (Ze ZD [(Za 0),(Za 6)]) (st M t K6 x7 x8 x9 x10)=some (.nx (st M t K6 C7 x8 x9 x10)):=by
    have:Ze ZD [(Za 0),(Za 6)] (st M t K6 x7 x8 x9 x10)=some (.int c):=Ve hns (i+1)
    rw[Zm,this];rfl
   have q2:Zr 8 (Ze Zt [(Za 7),(eC (.int 13)),(Za 3)]) (st M t K6 C7 x8 x9 x10)=some (.nx (st M t K6 C7 (some (.int (a:Int))) x9 x10)):=by
    have:Ze Zt [(Za 7),(eC (.int 13)),(Za 3)] (st M t K6 C7 x8 x9 x10)=some (.int (a:Int)):=ea
    rw[Zm,this];rfl
   have q3:Zr 9 (eP (Zh Yn (Zh ZL (Zh ZL (Za 8) (eC (.int 1))) (Ze Zt [(Za 7),(eC (.int 17)),(Ze W6 [(eC (.int 1)),(Zh ZP (Za 3) (eC (.int 1)))])])) (Za 3))) (st M t K6 C7 (some (.int (a:Int))) x9 x10)=some (.nx (st M t K6 C7 (some (.int (a:Int))) (some (.int (d:Int))) x10)):=by
    have m1:Zh ZP (Za 3) (eC (.int 1)) (st M t K6 C7 (some (.int (a:Int))) x9 x10)=some (.int ((n:Int)-1)):=vI (op:=(· - ·)) rfl rfl
    have m2:Ze W6 [(eC (.int 1)),(Zh ZP (Za 3) (eC (.int 1)))] (st M t K6 C7 (some (.int (a:Int))) x9 x10)=some (.int ((max 1 (n-1):Nat):Int)):=by
     rw[Zz,Zk,Zk,m1]
     show some (PV.int (if(n:Int)-1>1 then(n:Int)-1 else 1))=_
     congr 2
     split<;>omega
    have m3:Ze Zt [(Za 7),(eC (.int 17)),(Ze W6 [(eC (.int 1)),(Zh ZP (Za 3) (eC (.int 1)))])] (st M t K6 C7 (some (.int (a:Int))) x9 x10)=some (.int (b:Int)):=by
     rw[Zz,Zk,Zk,Zk,m2];exact eb
    rw[Zm,vP (a:=(d:Int)) (by
     rw[<-ed]
     exact vC (C:=fun _ j=>0<j) (op:=(· % ·)) (vI (op:=(· + ·)) (vI (op:=(· + ·)) (a:=(a:Int)) rfl rfl) m3) rfl (by omega))]
    rfl
   have c6:∀x8 x9 x10,xB (Zh UY (Za 6) (Za 3)) (st M t K6 C7 x8 x9 x10)=some (decide (i+1<n)):=fun x8 x9 x10=>by
    show some (decide (((i+1:Nat):Int)<(n:Int)))=_
    congr 1
    by_cases w:i+1<n
    ·rw[decide_eq_true w,decide_eq_true (by omega)]
    ·rw[decide_eq_false w,decide_eq_false (by omega)]
   have m10:∀x8 x9 x10,Ta (Zh Sd (Za 3) (eC (.int 1))) (Ta (Zh UY (Za 5) (Za 2)) (Zh Sd (Ze Zt [(Za 7),(eC (.int 3)),(eC (.int 3))]) (eC (.int 0)))) (st M t K6 C7 x8 x9 x10)=some (.bl (decide (1<n)&&(decide (t<5)&&decide (0<r)))):=fun x8 x9 x10=>by
    have b1:xB (Zh Sd (Za 3) (eC (.int 1))) (st M t K6 C7 x8 x9 x10)=some (decide (1<n)):=by
     show some (decide ((n:Int)>1))=_
     congr 1
     by_cases w:1<n
     ·rw[decide_eq_true w,decide_eq_true (by omega)]
     ·rw[decide_eq_false w,decide_eq_false (by omega)]
    have b2:xB (Zh UY (Za 5) (Za 2)) (st M t K6 C7 x8 x9 x10)=some (decide (t<5)):=by
     show some (decide ((t:Int)<5))=_
     congr 1
     by_cases w:t<5
     ·rw[decide_eq_true w,decide_eq_true (by omega)]
     ·rw[decide_eq_false w,decide_eq_false (by omega)]
    have b3:Zh Sd (Ze Zt [(Za 7),(eC (.int 3)),(eC (.int 3))]) (eC (.int 0)) (st M t K6 C7 x8 x9 x10)=some (.bl (decide (0<r))):=by
     have:Ze Zt [(Za 7),(eC (.int 3)),(eC (.int 3))] (st M t K6 C7 x8 x9 x10)=some (.int (r:Int)):=er
     rw[ZV,this]
     show some (PV.bl (decide ((r:Int)>0)))=_
     congr 2
     by_cases w:0<r
     ·rw[decide_eq_true w,decide_eq_true (by omega)]
     ·rw[decide_eq_false w,decide_eq_false (by omega)]
    rw[Tr,b1]
    by_cases w1:1<n
    ·rw[decide_eq_true w1]
     simp only[Option.bind_some,if_true,Bool.true_and];rw[Tr,b2]
     by_cases w2:t<5
     ·rw[decide_eq_true w2]
      simp only[Option.bind_some,if_true,Bool.true_and];exact b3
     ·rw[decide_eq_false w2];rfl
    ·rw[decide_eq_false w1];rfl
   by_cases w:i+1<n
   ·obtain⟨e,he,ee⟩:=Xs c (t:=5) (m:=i+1) (by omega) (by omega)
    have q4:Rr (xB (Zh UY (Za 6) (Za 3))) (Zs (Zr 8 (eP (Za 6))) (Zr 9 (Ze Zt [(Za 7),(eC (.int 5)),(Za 6)]))) Y5 (st M t K6 C7 (some (.int (a:Int))) (some (.int (d:Int))) x10)=some (.nx (st M t K6 C7 K6 (some (.int (e:Int))) x10)):=by
     rw[Xg,c6,decide_eq_true w];simp only[Option.bind_some,if_true]
     have r1:Zr 8 (eP (Za 6)) (st M t K6 C7 (some (.int (a:Int))) (some (.int (d:Int))) x10)=some (.nx (st M t K6 C7 K6 (some (.int (d:Int))) x10)):=by
      rw[Zm,vP (a:=((i+1:Nat):Int)) rfl];rfl
     have r2:Zr 9 (Ze Zt [(Za 7),(eC (.int 5)),(Za 6)]) (st M t K6 C7 K6 (some (.int (d:Int))) x10)=some (.nx (st M t K6 C7 K6 (some (.int (e:Int))) x10)):=by
      have:Ze Zt [(Za 7),(eC (.int 5)),(Za 6)] (st M t K6 C7 K6 (some (.int (d:Int))) x10)=some (.int (e:Int)):=ee
      rw[Zm,this];rfl
     rw[ZK r1,r2]
    let B:=decide (1<n)&&(decide (t<5)&&decide (0<r))
    have q5:Zr 10 (eP (Ta (Zh Sd (Za 3) (eC (.int 1))) (Ta (Zh UY (Za 5) (Za 2)) (Zh Sd (Ze Zt [(Za 7),(eC (.int 3)),(eC (.int 3))]) (eC (.int 0)))))) (st M t K6 C7 K6 (some (.int (e:Int))) x10)=some (.nx (st M t K6 C7 K6 (some (.int (e:Int))) (some (.bl B)))):=by
     rw[Zm,Xc,m10];rfl
    have q6:Rr (Ge (xB (Zh UY (Za 6) (Za 3))) (xB (Za 10))) fT Y5 (st M t K6 C7 K6 (some (.int (e:Int))) (some (.bl B)))=some (.nx (st (K2 M (i+1) e) (t+1) K6 C7 K6 (some (.int (e:Int))) (some (.bl B)))):=by
     rw[Xg,P9,c6,decide_eq_true w];simp only[Option.bind_some,if_true]
     exact tie M t K6 C7 (some (.bl B)) (i+1) e td.mat w (by omega)
    have te:=tl (by omega)
    obtain⟨gr1,gr2⟩:=td.grow (a:=i+1) (b:=e) w (by omega)
    refine⟨st M t K6 x7 x8 x9 x10,_,rfl,(by show Zs _ _ _=_;rw[ZK q1,ZK q2,ZK q3,ZK q4,ZK q5,q6]),_,_,_,_,_,_,_,rfl,td.up (by omega) w (by omega) (by omega),by omega,fun _=>by omega,fun j h1 h2=>?_⟩
    by_cases z:j<min (i+1) n
    ·exact(gr.mono gr1) j h1 z
    ·have hj:j=i+1:=by omega
     refine⟨e,by omega,?_⟩
     rw[hj,OC w,OC (by omega),Int.toNat_natCast,Int.toNat_natCast];exact gr2
   ·have q4:Rr (xB (Zh UY (Za 6) (Za 3))) (Zs (Zr 8 (eP (Za 6))) (Zr 9 (Ze Zt [(Za 7),(eC (.int 5)),(Za 6)]))) Y5 (st M t K6 C7 (some (.int (a:Int))) (some (.int (d:Int))) x10)=some (.nx (st M t K6 C7 (some (.int (a:Int))) (some (.int (d:Int))) x10)):=by
     rw[Xg,c6,decide_eq_false w];rfl
    let B:=decide (1<n)&&(decide (t<5)&&decide (0<r))
    have q5:Zr 10 (eP (Ta (Zh Sd (Za 3) (eC (.int 1))) (Ta (Zh UY (Za 5) (Za 2)) (Zh Sd (Ze Zt [(Za 7),(eC (.int 3)),(eC (.int 3))]) (eC (.int 0)))))) (st M t K6 C7 (some (.int (a:Int))) (some (.int (d:Int))) x10)=some (.nx (st M t K6 C7 (some (.int (a:Int))) (some (.int (d:Int))) (some (.bl B)))):=by
     rw[Zm,Xc,m10];rfl
    have gr':Grown M (DW n) (min (i+1+1) n):=fun j h1 h2=>gr j h1 (by omega)
    by_cases hB:B=true
    ·have hB':1<n/\t<5/\0<r:=by
      have:=hB
      simp only[B,Bool.and_eq_true,decide_eq_true_eq] at this;exact this
     have ne:a≠d:=fun z=>by
      subst z
      have h1:((a:Int)+1+(b:Int))=((a+1+b:Nat):Int):=by omega
      rw[h1] at ed
      have ed':(a+1+b)%n=a:=by
       have:=ed
       rw[<-Int.natCast_emod] at this;omega
      by_cases w:a+1+b<n
      ·rw[Nat.mod_eq_of_lt w] at ed';omega
      ·rw[Nat.mod_eq_sub_mod (by omega),Nat.mod_eq_of_lt (by omega)] at ed';omega
     have q6:Rr (Ge (xB (Zh UY (Za 6) (Za 3))) (xB (Za 10))) fT Y5 (st M t K6 C7 (some (.int (a:Int))) (some (.int (d:Int))) (some (.bl B)))=some (.nx (st (K2 M a d) (t+1) K6 C7 (some (.int (a:Int))) (some (.int (d:Int))) (some (.bl B)))):=by
      have c10:xB (Za 10) (st M t K6 C7 (some (.int (a:Int))) (some (.int (d:Int))) (some (.bl B)))=some true:=by
       show some B=_
       rw[hB]
      rw[Xg,P9,c6,decide_eq_false w];simp only[Option.bind_some,Bool.false_eq_true,if_false];rw[c10];simp only[Option.bind_some,if_true]
      exact tie M t K6 C7 (some (.bl B)) a d td.mat ha hd
     obtain⟨gr1,gr2⟩:=td.grow (a:=a) (b:=d) ha hd
     refine⟨st M t K6 x7 x8 x9 x10,_,rfl,(by show Zs _ _ _=_;rw[ZK q1,ZK q2,ZK q3,ZK q4,ZK q5,q6]),_,_,_,_,_,_,_,rfl,td.up (by omega) ha hd ne,by omega,fun h=>by omega,gr'.mono gr1⟩
    ·have q6:Rr (Ge (xB (Zh UY (Za 6) (Za 3))) (xB (Za 10))) fT Y5 (st M t K6 C7 (some (.int (a:Int))) (some (.int (d:Int))) (some (.bl B)))=some (.nx (st M t K6 C7 (some (.int (a:Int))) (some (.int (d:Int))) (some (.bl B)))):=by
      have c10:xB (Za 10) (st M t K6 C7 (some (.int (a:Int))) (some (.int (d:Int))) (some (.bl B)))=some false:=by
       show some B=_
       rw[Bool.not_eq_true] at hB;rw[hB]
      rw[Xg,P9,c6,decide_eq_false w];simp only[Option.bind_some,Bool.false_eq_true,if_false]
      rw[c10];rfl
     exact⟨st M t K6 x7 x8 x9 x10,_,rfl,(by show Zs _ _ _=_;rw[ZK q1,ZK q2,ZK q3,ZK q4,ZK q5,q6]),_,_,_,_,_,_,_,rfl,td,t5,fun h=>by omega,gr'⟩)
  subst hs4
  rw[show(W3 1 12).length=12 by simp[W3]] at gr
  have e4:XQ [4] (W8 [(eC (.int 1)),(eC (.int 13))]) (.one 6) fb (st Z 0 none none none none none)=some (.nx (st M t y6 y7 y8 y9 y10)):=by
   show(W8 [(eC (.int 1)),(eC (.int 13))] (YG [4] (st Z 0 none none none none none))).bind _=_
   rw[Sl (i:=1) (j:=13) rfl rfl (by omega) (by omega)];exact g4
  have gr:Grown M (DW n) n:=fun j h1 h2=>gr j h1 (by omega)
  obtain⟨k,hk,ek⟩:=Xs (Zl ns 0) (t:=7) (m:=n) (by omega) (by omega)
  let st2:List (List Int)->ZU:=fun M=>[some (.cst (iL ns)),some Y3,some (.int 5),some (.int (n:Int)),some (.lst (rL M)),some (.int (t:Int)),y6,y7,y8,y9,y10,some (.int (k:Int))]
  have e5:Zr 11 (Ze Zt [(Ze ZD [(Za 0),(eC (.int 0))]),(eC (.int 7)),(Za 3)]) (st M t y6 y7 y8 y9 y10)=some (.nx (st2 M)):=by
   have:Ze Zt [(Ze ZD [(Za 0),(eC (.int 0))]),(eC (.int 7)),(Za 3)] (st M t y6 y7 y8 y9 y10)=some (.int (k:Int)):=by
    rw[Zz,Zk,a0 _ rfl];exact ek
   rw[Zm,this];rfl
  have lenM:(rL M).length=n:=by unfold rL;rw[List.length_map];exact td.mat.len
  have e6:Zr 4 (Zy 1 [11] (Wo (Zh N9 (Vn Vh (Za 4) (WM (Za 11)) Vg) (Vn Vh (Za 4) Vg (WM (Za 11))))) (.one 0) ZE (Zh R8 (Vn Vh (Za 0) (WM (Za 1)) Vg) (Vn Vh (Za 0) Vg (WM (Za 1))))) (st2 M)=some (.nx (st2 (TX k M))):=by
   have s1:Vn Vh (Za 4) (WM (Za 11)) Vg (st2 M)=some (.lst ((rL M).drop k)):=by
    show some (PV.lst (Vf (rL M) (some (k:Int)) none))=_
    rw[Ff _ (by omega)]
   have s2:Vn Vh (Za 4) Vg (WM (Za 11)) (st2 M)=some (.lst ((rL M).take k)):=by
    show some (PV.lst (Vf (rL M) none (some (k:Int))))=_
    rw[Fe _ (by omega)]
   have s3:Wo (Zh N9 (Vn Vh (Za 4) (WM (Za 11)) Vg) (Vn Vh (Za 4) Vg (WM (Za 11)))) (st2 M)=some ((SL k M).map fun r=>.lst (iL r)):=by
    have:Zh N9 (Vn Vh (Za 4) (WM (Za 11)) Vg) (Vn Vh (Za 4) Vg (WM (Za 11))) (st2 M)=some (.lst ((SL k M).map fun r=>.lst (iL r))):=by
     rw[ZV,s1,s2]
     show(if((rL M).drop k).length+((rL M).take k).length<=10000 then some (PV.lst ((rL M).drop k++(rL M).take k)) else none)=_
     rw[if_pos (by rw[List.length_drop,List.length_take];omega)]
     unfold SL rL;rw[List.map_append,List.map_drop,List.map_take]
    unfold Wo
    rw[this];rfl
   have hc:Zy 1 [11] (Wo (Zh N9 (Vn Vh (Za 4) (WM (Za 11)) Vg) (Vn Vh (Za 4) Vg (WM (Za 11))))) (.one 0) ZE (Zh R8 (Vn Vh (Za 0) (WM (Za 1)) Vg) (Vn Vh (Za 0) Vg (WM (Za 1)))) (st2 M)=some (.lst (rL (TX k M))):=by
    rw[Z2 (SL k M) (fun r=>.lst (iL r)) (fun r=>.lst (iL (SL k r))) s3 (by rw[OA (by rw[td.mat.len];omega),td.mat.len];omega) (fun r hr=>⟨[some (.lst (iL r)),some (.int (k:Int))],rfl,rfl,?_⟩)]
    ·unfold TX rL
     rw[List.map_map];rfl
    ·have lr:r.length=n:=by
      have:r∈M:=by
       rcases List.mem_append.mp hr with h | h
       ·exact List.mem_of_mem_drop h
       ·exact List.mem_of_mem_take h
      obtain⟨i,hi,e⟩:=List.getElem_of_mem this
      have hi':i<n:=by rw[<-td.mat.len];exact hi
      have:=td.mat.row i hi'
      unfold ZB at this;rw[List.getD_eq_getElem?_getD,List.getElem?_eq_getElem hi] at this
      rw[<-e];exact this
     have u1:Vn Vh (Za 0) (WM (Za 1)) Vg [some (.lst (iL r)),some (.int (k:Int))]=some (.lst (iL (r.drop k))):=by
      show some (PV.lst (Vf (iL r) (some (k:Int)) none))=_
      rw[MK]
     have u2:Vn Vh (Za 0) Vg (WM (Za 1)) [some (.lst (iL r)),some (.int (k:Int))]=some (.lst (iL (r.take k))):=by
      show some (PV.lst (Vf (iL r) none (some (k:Int))))=_
      rw[MJ]
     rw[ZV,u1,u2]
     show(if(iL (r.drop k)).length+(iL (r.take k)).length<=10000/\ZN (iL (r.drop k))=true/\ZN (iL (r.take k))=true then some (PV.lst (iL (r.drop k)++iL (r.take k))) else none)=_
     rw[if_pos ⟨by rw[List.length_map,List.length_map,List.length_drop,List.length_take];omega,Y8 _,Y8 _⟩,<-List.map_append]
     rfl
   rw[Zm,hc];rfl
  have okW:=LR td.mat hk
  have ok:ZF (TX k M):=okW.web (by omega) (by omega)
  refine⟨TX k M,?_,ok,Hm td.mat n4 hk gr,by rw[okW.len];exact n4,Pz ok okW.len (by rw[Fg td.mat n4 hk];exact td.sum) t5⟩
  show YU 12 UO _=_
  unfold UO
  show(Zs _ _ s0).bind Xn=_
  rw[ZK (s1:=s0) (by rw[Xg,c0,decide_eq_false q];rfl),ZK e1,ZK e2,ZK e3,ZK e4,ZK e5,ZK e6,W5 (LQ (n:=n) (by rw[okW.len];omega) rfl)]
  rfl
theorem M0{ns:List Int}{W:List (List Int)}{a:Nat}(hns:ns.length<=63)(ok:ZF W)(h4:W.length<=4):∃D,WE [.cst (iL ns),wP W,.int (a:Int)]=some (pP D)/\D.length=W.length/\(∀h,h<W.length->(Zl D h).natAbs<=2^100)/\D.sum<=5:=by
 have hp:=ok.pos
 let s0:ZU:=[some (.cst (iL ns)),some (wP W),some (.int (a:Int)),none,none,none,none,none,none]
 let n:=W.length
 have at0:ZD [.cst (iL ns),.int 0]=some (.int (Zl ns 0)):=Ve hns 0
 have ata:ZD [.cst (iL ns),.int (a:Int)]=some (.int (Zl ns a)):=Ve hns a
 let st:Option PV->Option PV->Option PV->Option PV->Option PV->ZU:=fun x4 x5 x6 x7 x8=>[some (.cst (iL ns)),some (wP W),some (.int (a:Int)),some (.int (n:Int)),x4,x5,x6,x7,x8]
 have aa:∀x4 x5 x6 x7 x8,Ze ZD [(Za 0),(Za 2)] (st x4 x5 x6 x7 x8)=some (.int (Zl ns a)):=fun x4 x5 x6 x7 x8=>ata
 have e1:Zr 3 (eP (Ze Yb [(Za 1)])) s0=some (.nx (st none none none none none)):=by
  have:Ze Yb [(Za 1)] s0=some (.int (n:Int)):=by
   show some (PV.int ((W.map pP).length:Int))=_
   rw[List.length_map]
  rw[Zm,vP this];rfl
 have c0:xB (Zh (V5 false) (Zh Yn (Ze ZD [(Za 0),(eC (.int 0))]) (eC (.int 2))) (eC (.int 1))) (st none none none none none)=some (decide (Zl ns 0%2=1)):=by
  have a0:Ze ZD [(Za 0),(eC (.int 0))] (st none none none none none)=some (.int (Zl ns 0)):=at0
  have m:Zh Yn (Ze ZD [(Za 0),(eC (.int 0))]) (eC (.int 2)) (st none none none none none)=some (.int (Zl ns 0%2)):=vC (C:=fun _ j=>0<j) (op:=(· % ·)) a0 rfl (by decide)
  rw[XR,ZV,m]
  show(V5 false (.int (Zl ns 0%2)) (.int 1)).bind FD=_
  rw[Md];rfl
 have p20:∀s:ZU,Zh UX (eC (.int 10)) (eC (.int 20)) s=some (.int (10^20)):=fun s=>vC (a:=10) (b:=20) (C:=L3) (op:=fun i j=>i^j.toNat) rfl rfl (by decide)
 have c2:CMulW 2 (10^20):=⟨Pt (by decide),Pt (by decide)⟩
 have pT:∀s:ZU,Zh ZL (Zh WQ (eC (.int 2)) (Zh UX (eC (.int 10)) (eC (.int 20)))) (eC (.int 1)) s=some (.int (2*10^20+1)):=fun s=>vI (op:=(· + ·)) (vC (C:=CMulW) (op:=(· * ·)) (a:=2) rfl (p20 s) c2) rfl
 by_cases q:Zl ns 0%2=1
 ·let x0:=(Zl ns a).fdiv 8
  let Small:List Int->Prop:=fun l=>∀x∈l,-(10^20)<=x/\x<=10^20
  have q1:Zr 4 (eP (Zh U4 (Ze ZD [(Za 0),(Za 2)]) (eC (.int 8)))) (st none none none none none)=some (.nx (st (some (.int x0)) none none none none)):=by
   rw[Zm,vP (a:=x0) (vC (C:=Tw) (op:=Int.fdiv) (aa _ _ _ _ _) rfl ⟨by decide,by decide +kernel⟩)];rfl
  let f1:XS:=(Zs (YM 5 (eP (Zh ZP (Zh Yn (Za 4) (Zh ZL (Zh WQ (eC (.int 2)) (Zh UX (eC (.int 10)) (eC (.int 20)))) (eC (.int 1)))) (Zh UX (eC (.int 10)) (eC (.int 20))))))
   (Zr 4 (eP (Zh U4 (Za 4) (Zh ZL (Zh WQ (eC (.int 2)) (Zh UX (eC (.int 10)) (eC (.int 20)))) (eC (.int 1)))))))
  obtain⟨s1,g1,y,l,z6,hs1,ll,sm⟩:=YO (T:=.one 6) (fb:=f1) (ls:=V6 (n-1)) (s:=st (some (.int x0)) (some (.lst (iL []))) none none none) (fun i s=>∃y l z6,s=st (some (.int y)) (some (.lst (iL l))) z6 none none/\l.length=i/\Small l) ⟨x0,[],none,rfl,rfl,fun x h=>by simp at h⟩ (by
   rintro i lv s hl ⟨y,l,z6,rfl,ll,sm⟩
   obtain⟨hi,rfl⟩:=WN hl
   let v:=y%(2*10^20+1)-10^20
   have r1:YM 5 (eP (Zh ZP (Zh Yn (Za 4) (Zh ZL (Zh WQ (eC (.int 2)) (Zh UX (eC (.int 10)) (eC (.int 20)))) (eC (.int 1)))) (Zh UX (eC (.int 10)) (eC (.int 20))))) (st (some (.int y)) (some (.lst (iL l))) (some (.int (i:Int))) none none)=some (.nx (st (some (.int y)) (some (.lst (iL (l++[v])))) (some (.int (i:Int))) none none)):=by
    rw[WP (l:=.int v) (m:=iL l) (vP (vI (op:=(· - ·)) (vC (C:=fun _ j=>0<j) (op:=(· % ·)) (a:=y) rfl (pT _) (by decide)) (p20 _))) rfl (by rw[List.length_map];omega),MZ]
    rfl
   have r2:Zr 4 (eP (Zh U4 (Za 4) (Zh ZL (Zh WQ (eC (.int 2)) (Zh UX (eC (.int 10)) (eC (.int 20)))) (eC (.int 1))))) (st (some (.int y)) (some (.lst (iL (l++[v])))) (some (.int (i:Int))) none none)=some (.nx (st (some (.int (y.fdiv (2*10^20+1)))) (some (.lst (iL (l++[v])))) (some (.int (i:Int))) none none)):=by
    rw[Zm,vP (a:=y.fdiv (2*10^20+1)) (vC (C:=Tw) (op:=Int.fdiv) (a:=y) rfl (pT _) ⟨by decide,by decide +kernel⟩)];rfl
   refine⟨st (some (.int y)) (some (.lst (iL l))) (some (.int (i:Int))) none none,_,rfl,(by show Zs _ _ _=_;rw[ZK r1,r2]),_,_,_,rfl,by simp[ll],fun x hx=>?_⟩
   rcases List.mem_append.mp hx with hx | hx
   ·exact sm x hx
   ·rw[List.mem_singleton.mp hx]
    have h0:=Int.emod_nonneg y (show(2*10^20+1:Int)≠0 by decide)
    have h1:=Int.emod_lt_of_pos y (show(0:Int)<2*10^20+1 by decide)
    show -(10^20)<=y%(2*10^20+1)-10^20/\y%(2*10^20+1)-10^20<=10^20
    omega)
  subst hs1;rw[WO] at ll
  have q3:XQ [5] (ZT [(Zh ZP (Za 3) (eC (.int 1)))]) (.one 6) f1 (st (some (.int x0)) (some (.lst (iL []))) none none none)=some (.nx (st (some (.int y)) (some (.lst (iL l))) z6 none none)):=by
   show(ZT [(Zh ZP (Za 3) (eC (.int 1)))] (YG [5] (st (some (.int x0)) (some (.lst (iL []))) none none none))).bind _=_
   have:Zh ZP (Za 3) (eC (.int 1)) (YG [5] (st (some (.int x0)) (some (.lst (iL []))) none none none))=some (.int ((n-1:Nat):Int)):=by
    have e:((n-1:Nat):Int)=(n:Int)-1:=by show((W.length-1:Nat):Int)=(W.length:Int)-1;omega
    rw[e]
    exact vI (op:=(· - ·)) rfl rfl
   rw[Yt (n:=n-1) this (by show W.length-1<=_;omega)];exact g1
  let last:=Zl ns a%8-2-l.sum
  have q4:Yo (eP (Ze Z5 [(Zh R8 (Za 5) (Wm [(Zh ZP (Zh ZP (Zh Yn (Ze ZD [(Za 0),(Za 2)]) (eC (.int 8))) (eC (.int 2))) (Ze Y1 [(Za 5)]))]))])) (st (some (.int y)) (some (.lst (iL l))) z6 none none)=some (.rt (pP (l++[last]))):=by
   have b1:Ze Y1 [(Za 5)] (st (some (.int y)) (some (.lst (iL l))) z6 none none)=some (.int l.sum):=Oa l
   have b2:Zh ZP (Zh ZP (Zh Yn (Ze ZD [(Za 0),(Za 2)]) (eC (.int 8))) (eC (.int 2))) (Ze Y1 [(Za 5)]) (st (some (.int y)) (some (.lst (iL l))) z6 none none)=some (.int last):=vI (op:=(· - ·)) (vI (op:=(· - ·)) (vC (C:=fun _ j=>0<j) (op:=(· % ·)) (aa _ _ _ _ _) rfl (by decide)) rfl) b1
   have b3:Wm [(Zh ZP (Zh ZP (Zh Yn (Ze ZD [(Za 0),(Za 2)]) (eC (.int 8))) (eC (.int 2))) (Ze Y1 [(Za 5)]))] (st (some (.int y)) (some (.lst (iL l))) z6 none none)=some (.lst [.int last]):=by
    show(Sg [_] _).map PV.lst=_
    rw[Zk,b2];rfl
   have b4:Zh R8 (Za 5) (Wm [(Zh ZP (Zh ZP (Zh Yn (Ze ZD [(Za 0),(Za 2)]) (eC (.int 8))) (eC (.int 2))) (Ze Y1 [(Za 5)]))]) (st (some (.int y)) (some (.lst (iL l))) z6 none none)=some (.lst (iL (l++[last]))):=by
    rw[ZV,b3]
    show(if(iL l).length+[PV.int last].length<=10000/\ZN (iL l)=true/\ZN [PV.int last]=true then some (PV.lst (iL l++[PV.int last])) else none)=_
    rw[if_pos ⟨by rw[List.length_map];show l.length+1<=_;have:l.length=W.length-1:=ll;omega,Y8 _,rfl⟩,MZ]
   refine W5 ?_
   rw[Xc,Zz,Zk,b4];exact IM
  have lD:(l++[last]).length=W.length:=by rw[List.length_append];show l.length+1=W.length;have:l.length=W.length-1:=ll;omega
  have ls:(l++[last]).sum<=5:=by
   rw[List.sum_append]
   have h1:=Int.emod_lt_of_pos (Zl ns a) (show(0:Int)<8 by decide)
   show l.sum+[Zl ns a%8-2-l.sum].sum<=5
   simp only[List.sum_cons,List.sum_nil];omega
  refine⟨l++[last],?_,lD,fun h hh=>?_,ls⟩
  ·show YU 9 WD _=_
   unfold WD
   show(Zs _ _ s0).bind Xn=_
   rw[ZK e1,IG (v:=pP (l++[last]))]
   ·rfl
   ·rw[Xg,c0,decide_eq_true q]
    simp only[Option.bind_some,if_true]
    rw[ZK q1,ZK (s1:=st (some (.int x0)) (some (.lst (iL []))) none none none) rfl,ZK q3,q4]
  ·have sb : -(3*10^20)<=l.sum/\l.sum<=3*10^20:=by
    have:∀l:List Int,(∀x∈l,-(10^20)<=x/\x<=10^20)->-((l.length:Int)*10^20)<=l.sum/\l.sum<=(l.length:Int)*10^20:=by
     intro l
     induction l with
     | nil=>intro _;simp
     | cons x r ih=>
      intro h;have h1:=h x List.mem_cons_self
      have h2:=ih fun y hy=>h y (List.mem_cons_of_mem _ hy)
      rw[List.sum_cons,List.length_cons];omega
    have t:=this l sm
    have:l.length=W.length-1:=ll
    omega
   have lb : -(4*10^20)<=last/\last<=4*10^20:=by
    have h0:=Int.emod_nonneg (Zl ns a) (show(8:Int)≠0 by decide)
    have h1:=Int.emod_lt_of_pos (Zl ns a) (show(0:Int)<8 by decide)
    show -(4*10^20)<=Zl ns a%8-2-l.sum/\Zl ns a%8-2-l.sum<=4*10^20
    omega
   have mem:Zl (l++[last]) h∈l++[last]:=by
    unfold Zl;rw[List.getD_eq_getElem?_getD,List.getElem?_eq_getElem (by omega)]
    exact List.getElem_mem _
   have big:(4*10^20:Nat)<=2^100:=by decide
   rcases List.mem_append.mp mem with m | m
   ·have:=sm _ m;omega
   ·rw[List.mem_singleton.mp m];omega
 ·-- few coins,lent about
  have pk:∀(b:Nat)(t m:Nat),t<=1000->0<m->∃v:Nat,v<m/\Zt [.int (Zl ns b),.int (t:Int),.int (m:Int)]=some (.int (v:Int)):=fun b t m h1 h2=>Xs (Zl ns b) h1 h2
  let cf:Nat->Int:=fun i=>(((pk (a+i) 23 7 (by omega) (by omega)).choose:Nat):Int)-3
  have cfs:∀i,Zt [.int (Zl ns (a+i)),.int 23,.int 7]=some (.int (cf i+3))/\-3<=cf i/\cf i<=3:=fun i=>by
   have:=(pk (a+i) 23 7 (by omega) (by omega)).choose_spec
   refine⟨?_,?_,?_⟩
   ·rw[show cf i+3=(((pk (a+i) 23 7 (by omega) (by omega)).choose:Nat):Int) by show _-3+3=_;omega]
    exact this.2
   ·show -3<=_-3;omega
   ·show _-3<=3;have:=this.1;omega
  let lf:Nat->Int:=fun i=>(((pk (a+i) 29 4 (by omega) (by omega)).choose:Nat):Int)
  have lfs:∀i,Zt [.int (Zl ns (a+i)),.int 29,.int 4]=some (.int (lf i))/\0<=lf i/\lf i<=3:=fun i=>by
   have:=(pk (a+i) 29 4 (by omega) (by omega)).choose_spec
   exact⟨this.2,by show 0<=((_:Nat):Int);omega,by show((_:Nat):Int)<=3;have:=this.1;omega⟩
  have ai:∀(i:Nat)(s:ZU)(f:XE),f s=some (.cst (iL ns))->∀g:XE,g s=some (.int (a:Int))->∀h:XE,h s=some (.int (i:Int))->Ze ZD [f,(Zh ZL g h)] s=some (.int (Zl ns (a+i))):=fun i s f hf g hg h hh=>by
   have e:((a+i:Nat):Int)=(a:Int)+(i:Int):=by omega
   have:=Ve hns (a+i)
   rw[e] at this;rw[Zz,Zk,hf,Zk,vI (op:=(· + ·)) hg hh];exact this
  let C0:List Int:=(List.range n).map cf
  have lC0:C0.length=n:=by show((List.range n).map cf).length=n;simp
  have q1:Zr 5 (Zy 1 [0,2] (ZT [(Za 3)]) (.one 0) ZE (eP (Zh ZP (Ze Zt [(Ze ZD [(Za 1),(Zh ZL (Za 2) (Za 0))]),(eC (.int 23)),(eC (.int 7))]) (eC (.int 3))))) (st none none none none none)=some (.nx (st none (some (.lst (iL C0))) none none none)):=by
   have hc:Zy 1 [0,2] (ZT [(Za 3)]) (.one 0) ZE (eP (Zh ZP (Ze Zt [(Ze ZD [(Za 1),(Zh ZL (Za 2) (Za 0))]),(eC (.int 23)),(eC (.int 7))]) (eC (.int 3)))) (st none none none none none)=some (.lst (iL C0)):=
    Vx cf (Yt (n:=n) rfl (by show W.length<=_;omega)) (by show W.length<=_;omega) fun i hi=>⟨[some (.int (i:Int)),some (.cst (iL ns)),some (.int (a:Int))],rfl,rfl,by
     have b:Ze Zt [(Ze ZD [(Za 1),(Zh ZL (Za 2) (Za 0))]),(eC (.int 23)),(eC (.int 7))] [some (.int (i:Int)),some (.cst (iL ns)),some (.int (a:Int))]=some (.int (cf i+3)):=by
      rw[Zz,Zk,ai i _ (Za 1) rfl (Za 2) rfl (Za 0) rfl];exact(cfs i).1
     rw[vP (a:=cf i+3-3) (vI (op:=(· - ·)) b rfl)]
     congr 2;omega⟩
   rw[Zm,hc];rfl
  let u:=Zl C0 0-(if C0.sum-5>0 then C0.sum-5 else 0)+(if -2-C0.sum>0 then -2-C0.sum else 0)
  let C1:=C0.set 0 u
  have lC1:C1.length=W.length:=by show(C0.set 0 u).length=W.length;rw[List.length_set];exact lC0
  have q2:R4 5 (eC (.int 0)) (Zh ZL (Zh ZP (Zh ZS (Za 5) (eC (.int 0))) (Ze W6 [(eC (.int 0)),(Zh ZP (Ze Y1 [(Za 5)]) (eC (.int 5)))])) (Ze W6 [(eC (.int 0)),(Zh ZP (SR W0 (eC (.int 2))) (Ze Y1 [(Za 5)]))])) (st none (some (.lst (iL C0))) none none none)=some (.nx (st none (some (.lst (iL C1))) none none none)):=by
   have b0:Zh ZS (Za 5) (eC (.int 0)) (st none (some (.lst (iL C0))) none none none)=some (.int (Zl C0 0)):=IU (n:=n) lC0 0 (by show 0<W.length;omega)
   have b1:Ze Y1 [(Za 5)] (st none (some (.lst (iL C0))) none none none)=some (.int C0.sum):=Oa C0
   have b2:Ze W6 [(eC (.int 0)),(Zh ZP (Ze Y1 [(Za 5)]) (eC (.int 5)))] (st none (some (.lst (iL C0))) none none none)=some (.int (if C0.sum-5>0 then C0.sum-5 else 0)):=by
    rw[Zz,Zk,Zk,vI (op:=(· - ·)) b1 rfl];rfl
   have b3:Ze W6 [(eC (.int 0)),(Zh ZP (SR W0 (eC (.int 2))) (Ze Y1 [(Za 5)]))] (st none (some (.lst (iL C0))) none none none)=some (.int (if -2-C0.sum>0 then -2-C0.sum else 0)):=by
    rw[Zz,Zk,Zk,vI (op:=(· - ·)) (a:=-2) rfl b1];rfl
   rw[Kh (m:=iL C0) (j:=0) (k:=0) (l:=.int u) (vI (op:=(· + ·)) (vI (op:=(· - ·)) b0 b2) b3) rfl rfl (Y8 _) rfl (by
    have:(iL C0).length=W.length:=by rw[List.length_map];exact lC0
    rw[this]
    exact Tv (k:=0) (by omega))]
   rw[show(iL C0).set 0 (.int u)=iL C1 from(List.map_set ..).symm];rfl
  obtain⟨w,hw,ew⟩:=pk a 31 3 (by omega) (by omega)
  obtain⟨far,f1,f2,q3⟩:∃far:Int,1<=far/\far<=10^18+9/\Zr 7 (eP (Zh ZS (Wm [(eC (.int 1)),(eC (.int 1)),(Zh ZL (Zh UX (eC (.int 10)) (eC (.int 18))) (eC (.int 9)))]) (Ze Zt [(Ze ZD [(Za 0),(Za 2)]),(eC (.int 31)),(eC (.int 3))]))) (st none (some (.lst (iL C1))) none none none)=some (.nx (st none (some (.lst (iL C1))) none (some (.int far)) none)):=by
   have b0:Ze Zt [(Ze ZD [(Za 0),(Za 2)]),(eC (.int 31)),(eC (.int 3))] (st none (some (.lst (iL C1))) none none none)=some (.int (w:Int)):=by
    rw[Zz,Zk,aa];exact ew
   have p18:Zh UX (eC (.int 10)) (eC (.int 18)) (st none (some (.lst (iL C1))) none none none)=some (.int (10^18)):=vC (a:=10) (b:=18) (C:=L3) (op:=fun i j=>i^j.toNat) rfl rfl (by decide)
   have b1:Wm [(eC (.int 1)),(eC (.int 1)),(Zh ZL (Zh UX (eC (.int 10)) (eC (.int 18))) (eC (.int 9)))] (st none (some (.lst (iL C1))) none none none)=some (.lst (iL [1,1,10^18+9])):=by
    show(Sg [_,_,_] _).map PV.lst=_
    rw[Zk,Zk,Zk,vI (op:=(· + ·)) p18 rfl];rfl
   have:w=0\/w=1\/w=2:=by omega
   rcases this with rfl | rfl | rfl
   ·refine⟨1,by decide,by decide,?_⟩
    rw[Zm,vP (a:=1) (by rw[ZV,b1,b0];rfl)];rfl
   ·refine⟨1,by decide,by decide,?_⟩
    rw[Zm,vP (a:=1) (by rw[ZV,b1,b0];rfl)];rfl
   ·refine⟨10^18+9,by decide,by decide,?_⟩
    rw[Zm,vP (a:=10^18+9) (by rw[ZV,b1,b0];rfl)];rfl
  let L:List Int:=(List.range n).map fun i=>lf i*far
  have q4:Zr 8 (Zy 1 [7,0,2] (ZT [(Za 3)]) (.one 0) ZE (eP (Zh WQ (Ze Zt [(Ze ZD [(Za 2),(Zh ZL (Za 3) (Za 0))]),(eC (.int 29)),(eC (.int 4))]) (Za 1)))) (st none (some (.lst (iL C1))) none (some (.int far)) none)=some (.nx (st none (some (.lst (iL C1))) none (some (.int far)) (some (.lst (iL L))))):=by
   have hc:Zy 1 [7,0,2] (ZT [(Za 3)]) (.one 0) ZE (eP (Zh WQ (Ze Zt [(Ze ZD [(Za 2),(Zh ZL (Za 3) (Za 0))]),(eC (.int 29)),(eC (.int 4))]) (Za 1))) (st none (some (.lst (iL C1))) none (some (.int far)) none)=some (.lst (iL L)):=
    Vx (fun i=>lf i*far) (Yt (n:=n) rfl (by show W.length<=_;omega)) (by show W.length<=_;omega) fun i hi=>⟨[some (.int (i:Int)),some (.int far),some (.cst (iL ns)),some (.int (a:Int))],rfl,rfl,by
     have b:Ze Zt [(Ze ZD [(Za 2),(Zh ZL (Za 3) (Za 0))]),(eC (.int 29)),(eC (.int 4))] [some (.int (i:Int)),some (.int far),some (.cst (iL ns)),some (.int (a:Int))]=some (.int (lf i)):=by
      rw[Zz,Zk,ai i _ (Za 2) rfl (Za 3) rfl (Za 0) rfl];exact(lfs i).1
     have l0:=(lfs i).2
     have big:(10^19:Nat)<2^1000:=by decide +kernel
     have b1:(lf i).natAbs<2^1000:=by omega
     have b2:far.natAbs<2^1000:=by omega
     exact vP (vC (C:=CMulW) (op:=(· * ·)) b rfl (Ov b1 b2))⟩
   rw[Zm,hc];rfl
  have lL:L.length=W.length:=by show((List.range n).map _).length=W.length;simp[n]
  have el:=Py (D:=C1) (S:=L) (Y:=.lst (iL L)) ok lC1 (fun k hk=>IU lL k hk)
  have sumC : -12<=C0.sum/\C0.sum<=12:=by
   have:∀m:Nat,-(3*(m:Int))<=sN m cf/\sN m cf<=3*(m:Int):=by
    intro m
    induction m with
    | zero=>exact⟨by show _<=(0:Int);omega,by show(0:Int)<=_;omega⟩
    | succ m ih=>
     have:=(cfs m).2
     refine⟨?_,?_⟩
     ·show _<=sN m cf+cf m;omega
     ·show sN m cf+cf m<=_;omega
   have t:=this n
   have e:C0.sum=sN n cf:=YS cf n
   have hn:n<=4:=h4
   omega
  have c1b:∀h,h<W.length->(Zl C1 h).natAbs<=100:=fun h hh=>by
   have e0:∀i,i<n->Zl C0 i=cf i:=fun i hi=>ZO hi
   show(Zl (C0.set 0 u) h).natAbs<=100
   rw[PW.nth_set (by rw[lC0];exact hh),e0 h hh]
   split
   ·have:=(cfs 0).2
    have e:=e0 0 (by show 0<W.length;omega)
    show(Zl C0 0-(if C0.sum-5>0 then C0.sum-5 else 0)+(if -2-C0.sum>0 then -2-C0.sum else 0)).natAbs<=100
    rw[e]
    split<;>split<;>omega
   ·have:=(cfs h).2;omega
  have lb:∀h,h<W.length->(Zl L h).natAbs<=4*10^18:=fun h hh=>by
   rw[show Zl L h=lf h*far from ZO hh]
   have l0:=(lfs h).2
   have:lf h=0\/lf h=1\/lf h=2\/lf h=3:=by omega
   rcases this with z | z | z | z<;>rw[z]<;>omega
  have ls:(ZA W C1 L).sum<=5:=by
   rw[US ok lC1]
   have e0:∀i,i<n->Zl C1 i=Zl C0 i+(if i=0 then u-Zl C0 0 else 0):=fun i hi=>by
    show Zl (C0.set 0 u) i=_
    rw[PW.nth_set (by rw[lC0];exact hi)]
    by_cases z:i=0
    ·rw[if_pos z,if_pos z,z];omega
    ·rw[if_neg z,if_neg z];omega
   have s1:C1.sum=C0.sum+(u-Zl C0 0):=by
    rw[Yk,Yk C0,lC0,show C1.length=n from lC1,Zq (g:=fun i=>Zl C0 i+(if i=0 then u-Zl C0 0 else 0)) e0,Yr,YD (k:=0) (by show 0<W.length;omega) (fun i _ hi=>if_neg hi),if_pos rfl]
   have s2:u-Zl C0 0 = - (if C0.sum-5>0 then C0.sum-5 else 0)+(if -2-C0.sum>0 then -2-C0.sum else 0):=by
    show Zl C0 0-(if C0.sum-5>0 then C0.sum-5 else 0)+(if -2-C0.sum>0 then -2-C0.sum else 0)-Zl C0 0=_
    omega
   rw[s1,s2]
   split<;>split<;>omega
  refine⟨ZA W C1 L,?_,by rw[ZR];exact lC1,fun h hh=>?_,ls⟩
  ·show YU 9 WD _=_
   unfold WD
   show(Zs _ _ s0).bind Xn=_
   rw[ZK e1,ZK (s1:=st none none none none none) (by rw[Xg,c0,decide_eq_false q];rfl),ZK q1,ZK q2,ZK q3,ZK q4]
   rw[W5 (v:=pP (ZA W C1 L)) (by
    have b:Ze Z5 [(Za 5)] (st none (some (.lst (iL C1))) none (some (.int far)) (some (.lst (iL L))))=some (pP C1):=rfl
    rw[Zz,Zk,Zk,b];exact el)]
   rfl
  ·have:=LL ok lC1 c1b lb hh
   have big:100+126*(4*10^18)<=2^100:=by decide
   omega
theorem SpareIs.ge{W:List (List Int)}{D S:List Int}{G:List Nat}{c:Int}(sp:SpareIs W D c S G) : -1<=c:=by
 have:0<=PW.abv W (ZA W D S) G:=Yu fun h _=>(MU _).1
 have:=sp.abv
 omega
theorem UV(n h:Nat):Zl (List.replicate n (0:Int)) h=0:=by
 unfold Zl;rw[List.getD_eq_getElem?_getD,List.getElem?_replicate]
 split<;>rfl
theorem PD{W:List (List Int)}{D E:List Int}(hd:D.length=W.length)(z:∀h,h<W.length->Zl E h=0):YB D E=D:=XA (by rw[ZC]) fun i hi=>by
 rw[ZC] at hi
 rw[Z7 hi,z i (by omega)];omega
theorem SpareIs.free{W:List (List Int)}{D S:List Int}{G:List Nat}{c:Int}(ok:ZF W)(hd:D.length=W.length)(sp:SpareIs W D c S G):0<=c↔Free W D:=by
 constructor
 ·intro h
  have:=sp.min (List.replicate W.length 0) (by simp) (fun h _=>by rw[UV];omega) (by simp;exact h)
  rw[PD hd fun h _=>UV _ h] at this;exact this
 ·intro f
  have s0:WW W D 0:=fun E le hE hs=>by
   have z:∀h,h<W.length->Zl E h=0:=fun h hh=>by
    have h1:=WH (f:=Zl E) (n:=W.length) hE hh
    rw[<-le,<-Yk] at h1
    have:=hE h hh
    omega
   rw[PD hd z];exact f
  have:=Xr ok hd sp.len sp.ord s0
  have:=sp.abv
  omega
theorem SpareIs.le_sum{W:List (List Int)}{D S:List Int}{G:List Nat}{c:Int}(ok:ZF W)(hd:D.length=W.length)(sp:SpareIs W D c S G)(h0:0<=c):c<=D.sum:=by
 have hp:=ok.pos
 have f:0<=D.sum:=(((sp.free ok hd).mp h0).sum ok hd)
 refine Classical.byContradiction fun q=>?_
 let E:List Int:=(List.range W.length).map fun h=>if h=0 then D.sum+1 else 0
 have lE:E.length=W.length:=by show((List.range W.length).map _).length=_;simp
 have nE:∀h,h<W.length->Zl E h=if h=0 then D.sum+1 else 0:=fun h hh=>ZO hh
 have sE:E.sum=D.sum+1:=by
  rw[Yk,lE,Zq nE,YD (k:=0) (by omega) fun i _ hi=>if_neg hi,if_pos rfl]
 have fr:=sp.min E lE (fun h hh=>by rw[nE h hh];split<;>omega) (by omega)
 have:=fr.sum ok (by rw[ZC];exact hd)
 have e:(YB D E).sum=D.sum-E.sum:=by
  rw[Yk,ZC,Yk D,Yk E,lE,hd]
  have:sN W.length (Zl (YB D E))=sN W.length (fun i=>Zl D i+(-1)*Zl E i):=Zq fun i hi=>by rw[Z7 (by omega)];omega
  rw[this,Yr,Yf];omega
 omega
theorem M1{W:List (List Int)}{D L S S':List Int}{G G':List Nat}{c c':Int}(ok:ZF W)(hd:D.length=W.length)(lL:L.length=W.length)(a:SpareIs W D c S G)(b:SpareIs W (ZA W D L) c' S' G'):c'=c:=by
 have hd2:(ZA W D L).length=W.length:=by rw[ZR];exact hd
 have fr:∀E:List Int,Free W (YB (ZA W D L) E)↔Free W (YB D E):=fun E=>by
  rw[<-RA hd]
  exact Free.run (by rw[ZC];exact hd) lL
 have m1:WW W (ZA W D L) c:=fun E le hE hs=>(fr E).mpr (a.min E le hE hs)
 have m2:WW W D c':=fun E le hE hs=>(fr E).mp (b.min E le hE hs)
 have h1:=Xr ok hd2 b.len b.ord m1;have h2:=Xr ok hd a.len a.ord m2
 have:=a.abv
 have:=b.abv
 omega
theorem NK{W:List (List Int)}{D D' S S':List Int}{G G':List Nat}{c c':Int}{h:Nat}(ok:ZF W)(hh:h<W.length)(hd:D.length=W.length)(hd':D'.length=W.length)(e:∀g,g<W.length->Zl D' g=Zl D g+(if g=h then 1 else 0))(a:SpareIs W D c S G)(b:SpareIs W D' c' S' G'):c<=c'/\c'<=c+1:=by
 have m1:WW W D' c:=fun E le hE hs=>(a.min E le hE hs).more (by rw[ZC];exact hd) (by rw[ZC];exact hd') fun i hi=>by
  rw[Z7 (by omega),Z7 (by omega),e i hi]
  split<;>omega
 have m2:WW W D (c'-1):=fun E le hE hs=>by
  have:=b.min (W4 E (SK W.length h)) (by rw[Wg];exact le) (fun g hg=>by
   rw[Xw (by omega),TW hg]
   have:=hE g hg
   split<;>omega) (by rw[QM (by rw[QK];omega),QL hh];omega)
  have ee:YB D' (W4 E (SK W.length h))=YB D E:=XA (by rw[ZC,ZC];omega) fun i hi=>by
   rw[ZC] at hi;rw[Z7 hi,Z7 (by omega),Xw (by omega),TW (by omega),e i (by omega)];omega
  rw[ee] at this;exact this
 have h1:=Xr ok hd' b.len b.ord m1;have h2:=Xr ok hd a.len a.ord m2
 have:=a.abv
 have:=b.abv
 omega
theorem M3{W:List (List Int)}{D S S':List Int}{G G':List Nat}{c c':Int}(ok:ZF W)(cn:Vj W)(hd:D.length=W.length)(bD:∀h,h<W.length->(Zl D h).natAbs<=2^180)(hs:D.sum<=2^190)(hs':(YR W D).sum<=2^190)(hl:0<=UU W)(a:SpareIs W D c S G)(b:SpareIs W (YR W D) c' S' G'):c=c'+D.sum+1-UU W:=by
 have tt:=VY (a:=D) ok hd
 have lt:(YR W D).length=W.length:=by rw[Xl];exact hd
 have fit:c'+D.sum+1-(((Y0 W).length:Int)-(W.length:Int)+1)<=2^200:=by
  have h9:(3:Int)*2^190+1000<=2^200:=by decide
  have big:(2:Int)^190 ≥ 1000:=by decide
  by_cases q:0<=c'
  ·have:=b.le_sum ok lt q
   unfold UU at hl;omega
  ·unfold UU at hl
   omega
 have t:=QJ ok cn hd (fun h hh=>Nat.le_trans (bD h hh) (by decide)) fit b
 exact KU ok hd a t
theorem Ho{W:List (List Int)}(ok:ZF W):KQ W=2*((Y0 W).length:Int):=by
 rw[<-Up ok,YS];unfold KQ
 exact Zq fun a ha=>by rw[WA ok ha,YS]
theorem PF{W:List (List Int)}(ok:ZF W)(cn:Vj W):0<=UU W:=by
 have hp:=ok.pos
 obtain⟨m,hm⟩:∃m,W.length=m+1:=⟨W.length-1,by omega⟩
 have hd:((-1:Int)::List.replicate m 0).length=W.length:=by simp[hm]
 have hs:((-1:Int)::List.replicate m 0).sum = -1:=by
  rw[Yk,List.length_cons,List.length_replicate]
  have:∀k,sN (k+1) (Zl ((-1:Int)::List.replicate m 0)) = -1:=by
   intro k
   induction k with
   | zero=>rfl
   | succ k ih=>
    show sN (k+1) _+Zl (List.replicate m 0) k = -1
    rw[ih,UV];rfl
  exact this m
 have bD:∀h,h<W.length->(Zl ((-1:Int)::List.replicate m 0) h).natAbs<=2^208:=by
  intro h _
  cases h with
  | zero=>show(-1:Int).natAbs<=2^208;decide
  | succ k=>
   show(Zl (List.replicate m 0) k).natAbs<=2^208
   rw[UV];decide
 obtain⟨v,_,t⟩:=Tk ok cn hd bD
 cases t with
 | free L N _ _ _ _ f=>have:=f.sum ok hd;omega
 | never L N G lL _ eN nv _=>
  have ln:N.length=W.length:=by rw[eN,ZR];exact hd
  have s:=nv.sum ok ln
  have e:N.sum = -1:=by rw[eN,US ok hd];exact hs
  rw[Ho ok,e] at s
  unfold UU;omega
theorem M4{W:List (List Int)}(ok:ZF W):Xb [wP W]=some (.int (UU W)):=by
 have hf:=ok.few
 have hc:Zy 1 [] (UZ (Za 0)) (.one 0) ZE (Ze Y1 [(Za 0)]) [some (wP W)]=some (.lst (iL (W.map fun r=>r.sum))):=by
  rw[Z2 W pP (fun r=>.int r.sum) rfl (by omega) (fun r _=>⟨[some (pP r)],rfl,rfl,JX r⟩),DV]
 have e:(W.map fun r=>r.sum).sum=2*((Y0 W).length:Int):=by
  rw[<-Up ok]
  congr 1
  apply List.ext_getElem?
  intro i
  by_cases hi:i<W.length
  ·rw[List.getElem?_map,List.getElem?_map,List.getElem?_range hi,List.getElem?_eq_getElem hi]
   unfold ZB;simp[List.getD_eq_getElem?_getD,List.getElem?_eq_getElem hi]
  ·rw[List.getElem?_eq_none (by simp;omega),List.getElem?_eq_none (by simp;omega)]
 have a1:Ze Y1 [(Zy 1 [] (UZ (Za 0)) (.one 0) ZE (Ze Y1 [(Za 0)]))] [some (wP W)]=some (.int (2*((Y0 W).length:Int))):=by
  rw[Zz,Zk,hc]
  show Y1 [.lst (iL (W.map fun r=>r.sum))]=_
  rw[Oa,e]
 have a2:Ze Yb [(Za 0)] [some (wP W)]=some (.int (W.length:Int)):=by
  show some (PV.int ((W.map pP).length:Int))=_
  rw[List.length_map]
 have a3:Zh WZ (Ze Y1 [(Zy 1 [] (UZ (Za 0)) (.one 0) ZE (Ze Y1 [(Za 0)]))]) (eC (.int 2)) [some (wP W)]=some (.int ((Y0 W).length:Int)):=by
  rw[vC (C:=T0) (op:=(· / ·)) (b:=2) a1 rfl ⟨by decide,by decide⟩]
  congr 2
  show 2*((Y0 W).length:Int)/2=_
  omega
 show YU 1 UR _=_
 unfold UR
 show(Yo _ [some (wP W)]).bind Xn=_
 rw[W5 (v:=.int (UU W)) (vP (vI (op:=(· + ·)) (vI (op:=(· - ·)) a3 a2) rfl))];rfl
theorem Hq{n:Nat}{D:List Int}{h:Nat}{v:Int}{s:ZU}{fD fh fv:XE}(hd:D.length=n)(hn:n<=100)(hh:h<n)(e1:fD s=some (pP D))(e2:fh s=some (.int (h:Int)))(e3:fv s=some (.int v)) :
  Zh Y6 (Zh Y6 (Vn XN fD Vg (WM fh)) (Xv [fv])) (Vn XN fD (WM (Zh ZL fh (eC (.int 1)))) Vg) s=some (pP (D.set h v)):=by
 have s1:XN (pP D) none (some (h:Int))=some (pP (D.take h)):=by
  show(if HT.sIx (iL D).length 0 none=0/\HT.sIx (iL D).length (iL D).length (some (h:Int))=(iL D).length then none else some (PV.tup (Vf (iL D) none (some (h:Int)))))=_
  rw[if_neg (by rw[HT.sIx_nat,List.length_map,hd];omega),MJ]
 have s2:XN (pP D) (some ((h:Int)+1)) none=some (pP (D.drop (h+1))):=by
  show(if HT.sIx (iL D).length 0 (some ((h:Int)+1))=0/\HT.sIx (iL D).length (iL D).length none=(iL D).length then none else some (PV.tup (Vf (iL D) (some ((h:Int)+1)) none)))=_
  rw[show((h:Int)+1)=((h+1:Nat):Int) by omega,if_neg (by rw[HT.sIx_nat,List.length_map,hd];omega),MK]
 have x2:WM fh s=some (some (h:Int)):=by unfold WM;rw[e2]
 have x3:WM (Zh ZL fh (eC (.int 1))) s=some (some ((h:Int)+1)):=by
  unfold WM;rw[vI (op:=(· + ·)) e2 rfl]
 have u1:Vn XN fD Vg (WM fh) s=some (pP (D.take h)):=by
  show((fD s).bind fun x=>(Vg s).bind fun l=>(WM fh s).bind fun u=>XN x l u)=_
  rw[e1,x2];exact s1
 have u2:Vn XN fD (WM (Zh ZL fh (eC (.int 1)))) Vg s=some (pP (D.drop (h+1))):=by
  show((fD s).bind fun x=>(WM (Zh ZL fh (eC (.int 1))) s).bind fun l=>(Vg s).bind fun u=>XN x l u)=_
  rw[e1,x3];exact s2
 have u3:Xv [fv] s=some (pP [v]):=by
  show(Sg [fv] s).map PV.tup=_
  rw[Zk,e3];rfl
 have c1:Y6 (pP (D.take h)) (pP [v])=some (pP (D.take h++[v])):=by
  show(if(iL (D.take h)).length+(iL [v]).length<=10000 then some (PV.tup (iL (D.take h)++iL [v])) else none)=_
  rw[if_pos (by rw[List.length_map,List.length_map,List.length_take];simp;omega),<-List.map_append]
 have c2:Y6 (pP (D.take h++[v])) (pP (D.drop (h+1)))=some (pP (D.set h v)):=by
  show(if(iL (D.take h++[v])).length+(iL (D.drop (h+1))).length<=10000 then some (PV.tup (iL (D.take h++[v])++iL (D.drop (h+1)))) else none)=_
  rw[if_pos (by rw[List.length_map,List.length_map,List.length_append,List.length_take,List.length_drop];simp;omega),<-List.map_append]
  congr 3
  rw[List.set_eq_take_append_cons_drop,if_pos (by omega),List.append_assoc];rfl
 have w1:Zh Y6 (Vn XN fD Vg (WM fh)) (Xv [fv]) s=some (pP (D.take h++[v])):=by
  rw[ZV,u1,u3];exact c1
 rw[ZV,w1,u2];exact c2
theorem OD{n:Nat}{D:List Int}{h g:Nat}{v:Int}(hd:D.length=n)(hg:g<n):Zl (D.set h v) g=if g=h then v else Zl D g:=PW.nth_set (by omega)
theorem C4{f g:XE}{s:ZU}{a b:Int}(h1:f s=some (.int a))(h2:g s=some (.int b)):Zh UY f g s=some (.bl (decide (a<b))):=by rw[ZV,h1,h2];rfl
theorem C5{f g:XE}{s:ZU}{a b:Int}(h1:f s=some (.int a))(h2:g s=some (.int b)):Zh Sd f g s=some (.bl (decide (a>b))):=by rw[ZV,h1,h2];rfl
theorem CH{f g:XE}{s:ZU}{a b:Int}(h1:f s=some (.int a))(h2:g s=some (.int b)):Zh (V5 true) f g s=some (.bl (!decide (a=b))):=by
 rw[ZV,h1,h2]
 show V5 true (.int a) (.int b)=_
 rw[Md];rfl
theorem OE{W:List (List Int)}{D:List Int}{c:Int}{x y:PV}{s:ZU}{fW fD:XE}(eW:fW s=some (wP W))(eD:fD s=some (pP D))(e:Xh [wP W,pP D]=some (.tup [.int c,x,y])):Zh ZS (Ze Xh [fW,fD]) (eC (.int 0)) s=some (.int c):=by
 have h:Ze Xh [fW,fD] s=some (.tup [.int c,x,y]):=by
  rw[Zz,Zk,eW,Zk,eD];exact e
 rw[ZV,h];rfl
theorem FJ{f g h:XE}{s:ZU}{a b c:Int}(h1:f s=some (.int a))(h2:g s=some (.int b))(h3:h s=some (.int c))(x:a<=b)(y:b<=c):FE K4 K4 f g h s=some (.bl true):=by
 have e1:K4 (.int a) (.int b)=some (.bl true):=by
  show some (PV.bl (decide (a<=b)))=_
  rw[decide_eq_true x]
 have e2:K4 (.int b) (.int c)=some (.bl true):=by
  show some (PV.bl (decide (b<=c)))=_
  rw[decide_eq_true y]
 unfold FE;rw[h1];simp only[Option.bind_some];rw[h2];simp only[Option.bind_some];rw[e1];simp only[Option.bind_some,Qa,if_true];rw[h3];exact e2
theorem QO{t:XT}{f:XS}{s:ZU}(h:t s=some false):Rr t f Y5 s=some (.nx s):=by rw[Xg,h];rfl
theorem FK{W:List (List Int)}(h4:W.length<=4){X:List Int}(lx:X.length=W.length)(bx:∀h,h<W.length->(Zl X h).natAbs<=2^180):X.sum<=2^190:=by
 have:=SI (f:=Zl X) (M:=2^180) (n:=W.length) bx
 rw[<-lx,<-Yk] at this;rw[lx] at this
 have h5:W.length*2^180<=4*2^180:=Nat.mul_le_mul_right _ h4
 have e4:((4*2^180:Nat):Int)<=2^190:=by decide
 omega
theorem Hr{W:List (List Int)}{D:List Int}(ok:ZF W)(hd:D.length=W.length)(bD:∀h,h<W.length->(Zl D h).natAbs<=2^100):∀h,h<W.length->(Zl (YR W D) h).natAbs<=2^180:=fun h hh=>by
 have hf:=ok.few;rw[Ut hd hh,WA ok hh,YS]
 obtain⟨a,b⟩:=TU (f:=fun j=>Ya W h j) (n:=W.length) fun j hj=>⟨ok.lo _ j hh hj,ok.hi _ j hh hj⟩
 have:=bD h hh
 have:(2:Nat)^100+100<=2^180:=by decide
 omega
theorem law_true(ns:List Int)(hns:ns.length<=63)(hbd:∀n∈ns,n.natAbs.log2<=1048576):D_law [.cst (iL ns)]=some (.bl true):=by
 obtain⟨W,eW,ok,cn,h4,hl⟩:=Hn hns
 obtain⟨D,eD,hd,bD,_⟩:=M0 (a:=13) hns ok h4
 have hp:=ok.pos;have hf:=ok.few
 have le180:∀{x:Nat},x<=2^100+1000->x<=2^180:=fun h=>Nat.le_trans h (by decide)
 have b1:∀h,h<W.length->(Zl D h).natAbs<=2^180:=fun h hh=>le180 (Nat.le_trans (bD h hh) (by decide))
 obtain⟨c,S,G,es,sp⟩:=Uu ok cn hd b1 h4 hl
 have lt:(YR W D).length=W.length:=by rw[Xl];exact hd
 have bt:=Hr ok hd bD
 obtain⟨c',S',G',_,sp'⟩:=Uu ok cn lt bt h4 hl
 have main:=M3 ok cn hd b1 (FK h4 hd b1) (FK h4 lt bt) (PF ok cn) sp sp'
 have low:∀{X:List Int}{x:Int}{Sx:List Int}{Gx:List Nat},X.length=W.length->SpareIs W X x Sx Gx->X.sum<0->x = -1:=fun{_ x _ _} lx s h=>by
  have h1:=s.ge
  by_cases h0:0<=x
  ·have:=((s.free ok lx).mp h0).sum ok lx
   omega
  ·omega
 have f1:D.sum<0->c = -1:=low hd sp
 have f2:D.sum>2*UU W-2->c=D.sum-UU W:=fun h=>by
  have tt:=VY (a:=D) ok hd
  have:c' = -1:=low lt sp' (by unfold UU at h;omega)
  omega
 let N0:Option PV:=some (.cst (iL ns))
 let w0:Option PV:=some (wP W)
 let d0:Option PV:=some (pP D)
 let c0:Option PV:=some (.int c)
 have e1:Zr 1 (Ze UP [(Za 0),(Wm [(eC (.int 1)),(eC (.int 2)),(eC (.int 3)),(eC (.int 3)),(eC (.int 3)),(eC (.int 4))]),(eC (.int 5))]) [N0,none,none,none,none,none,none,none]=some (.nx [N0,w0,none,none,none,none,none,none]):=by
  have:Ze UP [(Za 0),(Wm [(eC (.int 1)),(eC (.int 2)),(eC (.int 3)),(eC (.int 3)),(eC (.int 3)),(eC (.int 4))]),(eC (.int 5))] [N0,none,none,none,none,none,none,none]=some (wP W):=eW
  rw[Zm,this];rfl
 have e2:Zr 2 (Ze WE [(Za 0),(Za 1),(eC (.int 13))]) [N0,w0,none,none,none,none,none,none]=some (.nx [N0,w0,d0,none,none,none,none,none]):=by
  have:Ze WE [(Za 0),(Za 1),(eC (.int 13))] [N0,w0,none,none,none,none,none,none]=some (pP D):=eD
  rw[Zm,this];rfl
 have e3:Zr 3 (eP (Zh ZS (Ze Xh [(Za 1),(Za 2)]) (eC (.int 0)))) [N0,w0,d0,none,none,none,none,none]=some (.nx [N0,w0,d0,c0,none,none,none,none]):=by
  rw[Zm,vP (OE (D:=D) rfl rfl es)];rfl
 let s3:ZU:=[N0,w0,d0,c0,none,none,none,none]
 have gs:Ze Y1 [(Za 2)] s3=some (.int D.sum):=JX D
 have gl:Ze Xb [(Za 1)] s3=some (.int (UU W)):=M4 ok
 have v3:Za 3 s3=some (.int c):=rfl
 have e4:Rr (S1 (xB (Zh UY (Ze Y1 [(Za 2)]) (eC (.int 0)))) (xB (Zh (V5 true) (Za 3) (SR W0 (eC (.int 1)))))) (Yo (eP (eC (.bl false)))) Y5 s3=some (.nx s3):=by
  refine QO ?_
  rw[O8,XR,C4 gs rfl];simp only[Option.bind_some,Qa]
  by_cases q:D.sum<0
  ·rw[decide_eq_true q,if_pos rfl,XR,CH (b:=-1) v3 rfl,f1 q];rfl
  ·rw[decide_eq_false q];rfl
 have e5:Rr (S1 (xB (Zh Sd (Ze Y1 [(Za 2)]) (Zh ZP (Zh UW (eC (.int 2)) (Ze Xb [(Za 1)])) (eC (.int 2))))) (xB (Zh (V5 true) (Za 3) (Zh ZP (Ze Y1 [(Za 2)]) (Ze Xb [(Za 1)]))))) (Yo (eP (eC (.bl false)))) Y5 s3=some (.nx s3):=by
  refine QO ?_
  have lp:UU W<=5/\0<=UU W:=⟨hl,PF ok cn⟩
  have m:Zh UW (eC (.int 2)) (Ze Xb [(Za 1)]) s3=some (.int (2*UU W)):=by
   refine vC (op:=(· * ·)) (a:=2) rfl gl ?_
   have h2:(UU W).natAbs<=5:=by omega
   revert h2
   generalize UU W=z
   intro h2
   have:z = -5\/z = -4\/z = -3\/z = -2\/z = -1\/z=0\/z=1\/z=2\/z=3\/z=4\/z=5:=by omega
   rcases this with h | h | h | h | h | h | h | h | h | h | h<;>subst h<;>decide
  have r:Zh ZP (Zh UW (eC (.int 2)) (Ze Xb [(Za 1)])) (eC (.int 2)) s3=some (.int (2*UU W-2)):=vI (op:=(· - ·)) m rfl
  rw[O8,XR,C5 gs r];simp only[Option.bind_some,Qa]
  by_cases q:D.sum>2*UU W-2
  ·rw[decide_eq_true q,if_pos rfl,XR,CH v3 (vI (op:=(· - ·)) gs gl),f2 q]
   simp
  ·rw[decide_eq_false q];rfl
 let pk:Nat->Int:=fun h=>Zl ns (17+h)
 have lends:∃L:List Int,L.length=W.length/\(∀h,h<W.length->(Zl L h).natAbs<=8)/\Zy 1 [0] (ZT [(Ze Yb [(Za 1)])]) (.one 0) ZE (eP (Zh ZP (Ze Zt [(Ze ZD [(Za 1),(Zh ZL (eC (.int 17)) (Za 0))]),(eC (.int 41)),(eC (.int 9))]) (eC (.int 4)))) s3=some (.lst (iL L)):=by
  have ex:∀h:Nat,∃v:Nat,v<9/\Zt [.int (pk h),.int ((41:Nat):Int),.int ((9:Nat):Int)]=some (.int (v:Int)):=fun h=>Xs (pk h) (t:=41) (m:=9) (by decide) (by decide)
  refine⟨(List.range W.length).map fun h=>((Classical.choose (ex h):Nat):Int)-4,by simp,fun h hh=>?_,?_⟩
  ·rw[ZO hh]
   have:=(Classical.choose_spec (ex h)).1
   omega
  ·refine Vx (fun h=>((Classical.choose (ex h):Nat):Int)-4) (Yt (n:=W.length) (by
    show some (PV.int ((W.map pP).length:Int))=_
    rw[List.length_map]) (by omega)) (by omega) fun h hh=>⟨[some (.int (h:Int)),N0],rfl,rfl,?_⟩
   have a1:Ze ZD [(Za 1),(Zh ZL (eC (.int 17)) (Za 0))] [some (.int (h:Int)),N0]=some (.int (pk h)):=by
    have a0:Zh ZL (eC (.int 17)) (Za 0) [some (.int (h:Int)),N0]=some (.int ((17+h:Nat):Int)):=vI (op:=(· + ·)) (a:=17) (b:=(h:Int)) rfl rfl
    rw[Zz,Zk,Zk,a0]
    exact Ve hns (17+h)
   have a2:Ze Zt [(Ze ZD [(Za 1),(Zh ZL (eC (.int 17)) (Za 0))]),(eC (.int 41)),(eC (.int 9))] [some (.int (h:Int)),N0]=some (.int ((Classical.choose (ex h):Nat):Int)):=by
    rw[Zz,Zk,a1]
    exact(Classical.choose_spec (ex h)).2
   exact vP (vI (op:=(· - ·)) a2 rfl)
 obtain⟨L,lL,bL,eL⟩:=lends
 let l0:Option PV:=some (.lst (iL L))
 have e6:Zr 4 (Zy 1 [0] (ZT [(Ze Yb [(Za 1)])]) (.one 0) ZE (eP (Zh ZP (Ze Zt [(Ze ZD [(Za 1),(Zh ZL (eC (.int 17)) (Za 0))]),(eC (.int 41)),(eC (.int 9))]) (eC (.int 4))))) s3=some (.nx [N0,w0,d0,c0,l0,none,none,none]):=by
  rw[Zm,eL];rfl
 let s4:ZU:=[N0,w0,d0,c0,l0,none,none,none]
 have lr:(ZA W D L).length=W.length:=by rw[ZR];exact hd
 have br:∀h,h<W.length->(Zl (ZA W D L) h).natAbs<=2^180:=fun h hh=>by
  have:=LL ok hd bD bL hh
  exact Nat.le_trans this (by decide)
 obtain⟨c3,S3,G3,es3,sp3⟩:=Uu ok cn lr br h4 hl
 have q3:=M1 ok hd lL sp sp3
 have e7:Rr (xB (Zh (V5 true) (Zh ZS (Ze Xh [(Za 1),(Ze We [(Za 1),(Za 2),(Za 4)])]) (eC (.int 0))) (Za 3))) (Yo (eP (eC (.bl false)))) Y5 s4=some (.nx s4):=by
  refine QO ?_
  have a1:Ze We [(Za 1),(Za 2),(Za 4)] s4=some (pP (ZA W D L)):=Py (Y:=.lst (iL L)) ok hd (IU lL)
  rw[XR,CH (OE (W:=W) (fW:=Za 1) rfl a1 es3) (show Za 3 s4=some (.int c) from rfl),q3]
  simp
 obtain⟨h,hh,eh⟩:=Xs (Zl ns 21) (t:=43) (m:=W.length) (by decide) (by omega)
 let h0:Option PV:=some (.int (h:Int))
 have e8:Zr 5 (Ze Zt [(Ze ZD [(Za 0),(eC (.int 21))]),(eC (.int 43)),(Ze Yb [(Za 1)])]) s4=some (.nx [N0,w0,d0,c0,l0,h0,none,none]):=by
  have a1:Ze ZD [(Za 0),(eC (.int 21))] s4=some (.int (Zl ns 21)):=Ve hns 21
  have a2:Ze Yb [(Za 1)] s4=some (.int (W.length:Int)):=by
   show some (PV.int ((W.map pP).length:Int))=_
   rw[List.length_map]
  have:Ze Zt [(Ze ZD [(Za 0),(eC (.int 21))]),(eC (.int 43)),(Ze Yb [(Za 1)])] s4=some (.int (h:Int)):=by
   rw[Zz,Zk,a1,Zk,Zk,a2];exact eh
  rw[Zm,this];rfl
 have ls:∀v,(D.set h v).length=W.length:=fun v=>by rw[List.length_set];exact hd
 have bs:∀v:Int,v.natAbs<=2^100+1->∀g,g<W.length->(Zl (D.set h v) g).natAbs<=2^180:=fun v hv g hg=>by
  rw[OD hd hg]
  split
  ·exact le180 (by omega)
  ·exact b1 g hg
 have hb:=bD h hh
 obtain⟨cm,Sm,Gm,em,spm⟩:=Uu ok cn (ls (Zl D h+1)) (bs _ (by omega)) h4 hl
 obtain⟨cf,Sf,Gf,ef,spf⟩:=Uu ok cn (ls (Zl D h-1)) (bs _ (by omega)) h4 hl
 have m1:=NK ok hh hd (ls (Zl D h+1)) (fun g hg=>by
  rw[OD hd hg];split
  ·subst_vars;rfl
  ·omega) sp spm
 have m2:=NK ok hh (ls (Zl D h-1)) hd (fun g hg=>by
  rw[OD hd hg];split
  ·subst_vars;omega
  ·omega) spf sp
 have m3:=spf.ge
 let s5:ZU:=[N0,w0,d0,c0,l0,h0,none,none]
 have ix:∀s:ZU,s[2]?=some d0->s[5]?=some h0->Zh ZS (Za 2) (Za 5) s=some (.int (Zl D h)):=fun s x y=>by
  rw[ZV,show Za 2 s=some (pP D) by rw[R9,x];rfl,show Za 5 s=some (.int (h:Int)) by rw[R9,y];rfl]
  exact Nw hd h hh
 have e9:Zr 6 (eP (Zh ZS (Ze Xh [(Za 1),(Zh Y6 (Zh Y6 (Vn XN (Za 2) Vg (WM (Za 5))) (Xv [(Zh ZL (Zh ZS (Za 2) (Za 5)) (eC (.int 1)))])) (Vn XN (Za 2) (WM (Zh ZL (Za 5) (eC (.int 1)))) Vg))]) (eC (.int 0)))) s5=some (.nx [N0,w0,d0,c0,l0,h0,some (.int cm),none]):=by
  have a1:=Hq (n:=W.length) (D:=D) (h:=h) (v:=Zl D h+1) (s:=s5) (fD:=Za 2) (fh:=Za 5) hd (by omega) hh rfl rfl (vI (op:=(· + ·)) (ix s5 rfl rfl) (g:=eC (.int 1)) rfl)
  rw[Zm,vP (OE (W:=W) (fW:=Za 1) rfl a1 em)];rfl
 let s6:ZU:=[N0,w0,d0,c0,l0,h0,some (.int cm),none]
 have e10:Zr 7 (eP (Zh ZS (Ze Xh [(Za 1),(Zh Y6 (Zh Y6 (Vn XN (Za 2) Vg (WM (Za 5))) (Xv [(Zh ZP (Zh ZS (Za 2) (Za 5)) (eC (.int 1)))])) (Vn XN (Za 2) (WM (Zh ZL (Za 5) (eC (.int 1)))) Vg))]) (eC (.int 0)))) s6=some (.nx [N0,w0,d0,c0,l0,h0,some (.int cm),some (.int cf)]):=by
  have a1:=Hq (n:=W.length) (D:=D) (h:=h) (v:=Zl D h-1) (s:=s6) (fD:=Za 2) (fh:=Za 5) hd (by omega) hh rfl rfl (vI (op:=(· - ·)) (ix s6 rfl rfl) (g:=eC (.int 1)) rfl)
  rw[Zm,vP (OE (W:=W) (fW:=Za 1) rfl a1 ef)];rfl
 show YU 8 Ly _=_
 unfold Ly
 show(Zs _ _ [N0,none,none,none,none,none,none,none]).bind Xn=_
 rw[ZK e1,ZK e2,ZK e3,ZK e4,ZK e5,ZK e6,ZK e7,ZK e8,ZK e9,ZK e10]
 let s7:ZU:=[N0,w0,d0,c0,l0,h0,some (.int cm),some (.int cf)]
 have r1:FE K4 K4 (Za 3) (Za 6) (Zh ZL (Za 3) (eC (.int 1))) s7=some (.bl true):=by
  exact FJ (c:=c+1) rfl rfl rfl m1.1 m1.2
 have r2:FE K4 K4 (Zh ZP (Za 3) (eC (.int 1))) (Za 7) (Za 3) s7=some (.bl true):=by
  exact FJ (a:=c-1) rfl rfl rfl (by omega) m2.1
 have r3:Zh Gd (Za 7) (SR W0 (eC (.int 1))) s7=some (.bl true):=by
  show some (PV.bl (decide (cf ≥ -1)))=_
  rw[decide_eq_true (by omega:cf ≥ -1)]
 rw[W5 (v:=.bl true) (by
  rw[Xc,Tr,XR,r1];simp only[Option.bind_some,Qa,if_true];rw[Tr,XR,r2];simp only[Option.bind_some,Qa,if_true]
  rw[r3];rfl)]
 rfl
end PW
namespace PW
open PySem L2 VL
theorem cst_mk{K:PySem.W.Frag}{h:Heap}{mg:Str->Option Value}{x:Str}{v:Int}{t:Tok}(X:K.In h)(G:h.Ns mainGlobals mg)(y:PySem.W.nsIn K mainGlobals x=some (some (.int v t))):EK mg x v:=⟨t,PySem.W.mg_of X G y⟩
theorem all_mk{P:Program}{w:World}{K:PySem.W.Frag}{mg:Str->Option Value}{fa:Addr}(hfa:mg "law" = some (.ref fa))(B:V4 mg)
  (Z_BASE_clear:EK mg "BASE_clear" 0)
  (Z_BASE_spare:EK mg "BASE_spare" 0)
  (d0:Def K mg "_law_pick" Qn)
  (d1:Def K mg "_law_read_web" VX)
  (d2:Def K mg "_law_at" Mn)
  (d3:Def K mg "_law_web" Oi)
  (d4:Def K mg "_law_lend" Qo)
  (d5:Def K mg "_law_purse" Ss)
  (d6:Def K mg "least" Oj)
  (d7:Def K mg "ties_of" Su)
  (d8:Def K mg "loops" Ol)
  (d9:Def K mg "total" Om)
  (d10:Def K mg "turned_about" WS)
  (d11:Def K mg "reduced" Sv)
  (d12:Def K mg "evened" Qp)
  (d13:Def K mg "solved_below" WT)
  (d14:Def K mg "ties_at" Sw)
  (d15:Def K mg "row_of" Qq)
  (d16:Def K mg "square_without" X3)
  (d17:Def K mg "nearing" Sy)
  (d18:Def K mg "gain" Mw)
  (d19:Def K mg "run" Iv)
  (d20:Def K mg "in_debt" Sz)
  (d21:Def K mg "borrowing" Um)
  (d22:Def K mg "plus" Mz)
  (d23:Def K mg "ties_to" SA)
  (d24:Def K mg "house_to_burn" Wr)
  (d25:Def K mg "burnt" Op)
  (d26:Def K mg "settle" Qr)
  (d27:Def K mg "one_at" Qs)
  (d28:Def K mg "minus" Oq)
  (d29:Def K mg "greater_by_one" X4)
  (d30:Def K mg "least_taking" WU)
  (d31:Def K mg "cleared" Uo)
  (d32:Def K mg "searched" Tg)
  (d33:Def K mg "turned" Qt)
  (d34:Def K mg "spare" Ot)
  (d35:Def K mg "_law_loops" SC)
  (d36:Def K mg "law" IB)
  : ∃fd:FuncData,(∀(s:Shared)(u:Value),BindsTo s fd ⟨[u],[]⟩ [("_law_script",u)])/\∀base:Heap,K.In base->base.Ns mainGlobals mg->SX P w K mg base Lf 10 fa fd ["_law_script"] (Yz K D_law 1):=by
 refine JT d36 hfa (fun _ _ _ _ _ _ _=>rfl) fun base f fd _ _ F=>?_
 have C_l_pick:=Kr (P:=P) (w:=w) (base:=base) d0 B
 have C_l_read_web:=QX (P:=P) (w:=w) (base:=base) d1 B
 have C_l_at:=GO (P:=P) (w:=w) (base:=base) d2 B
 have C_p_web:=Im (P:=P) (w:=w) (base:=base) d3 B C_l_at C_l_read_web C_l_pick
 have C_l_lend:=Ks (P:=P) (w:=w) (base:=base) d4 B
 have C_p_purse:=Mo (P:=P) (w:=w) (base:=base) d5 B C_l_at C_l_pick C_l_lend
 have C_least:=Io (P:=P) (w:=w) (base:=base) d6 B
 have C_ties_of:=Mp (P:=P) (w:=w) (base:=base) d7 B
 have C_loops:=Iq (P:=P) (w:=w) (base:=base) d8 B C_ties_of
 have C_total:=Iu (P:=P) (w:=w) (base:=base) d9 B
 have C_turned_about:=S4 (P:=P) (w:=w) (base:=base) d10 B C_least C_total C_loops
 have C_reduced:=Mr (P:=P) (w:=w) (base:=base) d11 B
 have C_evened:=Kt (P:=P) (w:=w) (base:=base) d12 B C_reduced
 have C_solved_below:=S5 (P:=P) (w:=w) (base:=base) d13 B C_evened
 have C_ties_at:=Mu (P:=P) (w:=w) (base:=base) d14 B
 have C_row_of:=Kv (P:=P) (w:=w) (base:=base) d15 B C_ties_at
 have C_square_without:=TL (P:=P) (w:=w) (base:=base) d16 B C_row_of
 have C_nearing:=Mv (P:=P) (w:=w) (base:=base) d17 B C_solved_below C_square_without
 have C_gain:=GQ (P:=P) (w:=w) (base:=base) d18 B
 have C_run:=EO (P:=P) (w:=w) (base:=base) d19 B C_gain
 have C_in_debt:=My (P:=P) (w:=w) (base:=base) d20 B
 have C_borrowing:=Oo (P:=P) (w:=w) (base:=base) d21 B
 have C_plus:=GS (P:=P) (w:=w) (base:=base) d22 B
 have C_ties_to:=MB (P:=P) (w:=w) (base:=base) d23 B
 have C_house_to_burn:=SB (P:=P) (w:=w) (base:=base) d24 B C_ties_to
 have C_burnt:=Iw (P:=P) (w:=w) (base:=base) d25 B C_house_to_burn
 have C_settle:=Kw (P:=P) (w:=w) (base:=base) d26 B C_nearing C_run C_in_debt C_borrowing C_plus C_burnt C_least
 have C_one_at:=Ky (P:=P) (w:=w) (base:=base) d27 B
 have C_minus:=Iy (P:=P) (w:=w) (base:=base) d28 B
 have C_greater_by_one:=TM (P:=P) (w:=w) (base:=base) d29 B Z_BASE_spare C_one_at C_settle C_minus C_plus
 have C_least_taking:=S6 (P:=P) (w:=w) (base:=base) d30 B Z_BASE_spare C_settle C_greater_by_one
 have C_m_cleared:=Os (P:=P) (w:=w) (base:=base) d31 B Z_BASE_clear C_settle
 have C_searched:=Nm (P:=P) (w:=w) (base:=base) d32 B C_least_taking C_m_cleared C_minus C_total
 have C_turned:=KA (P:=P) (w:=w) (base:=base) d33 B C_ties_at
 have C_spare:=IA (P:=P) (w:=w) (base:=base) d34 B C_total C_loops C_searched C_turned_about C_turned
 have C_p_loops:=MD (P:=P) (w:=w) (base:=base) d35 B
 exact EQ F B C_p_web C_p_purse C_spare C_p_loops C_l_pick C_l_at C_l_lend
end PW
def PySem.W.Fast.tw12910238532793598646:Unit:=()
def PySem.W.Fast.tw4181637472267754553:Unit:=()
def PySem.W.Fast.tw6946907810002740641:Unit:=()
def PySem.W.Fast.tw17793296398725135515:Unit:=()
def PySem.W.Fast.tw13185067959440339444:Unit:=()
def PySem.W.Fast.tw16404868942888528597:Unit:=()
def PySem.W.Fast.tw16119647890748959020:Unit:=()
def PySem.W.Fast.tw16026446469596524715:Unit:=()
def PySem.W.Fast.tw1474485323263340425:Unit:=()
def PySem.W.Fast.tw10848991601576374007:Unit:=()
open PySem PySem.W PyProof.Rows
set_option maxRecDepth 100000 in
set_option maxHeartbeats 0 in
theorem PySem.Challenge.cw_purseweb_k44_one_coin_more_holds : PySem.Challenge.rw_purseweb_k44_one_coin_more.Holds := by
 w_on;o_law;k_head;(case hw=>w_witness2)
 k_fill
 refine VL.law_walkB (l:=PySem.Challenge.rw_purseweb_k44_one_coin_more) (D:=PW.D_law) (x:="_law_script") 10 rfl rfl ⟨rfl,by decide,by decide,rfl⟩ PW.law_true (fun w h Y=>PySem.W.kIn_of Y) ?F
 case F=>
  intro w mg fa h KX G hmg
  refine' PW.all_mk hmg ?B ?Z0 ?Z1 ?d0 ?d1 ?d2 ?d3 ?d4 ?d5 ?d6 ?d7 ?d8 ?d9 ?d10 ?d11 ?d12 ?d13 ?d14 ?d15 ?d16 ?d17 ?d18 ?d19 ?d20 ?d21 ?d22 ?d23 ?d24 ?d25 ?d26 ?d27 ?d28 ?d29 ?d30 ?d31 ?d32 ?d33 ?d34 ?d35 ?d36
  case B=>constructor<;>(refine PySem.W.mg_none_of KX G ?_;k_is)
  case Z0 | Z1=>(refine' PW.cst_mk KX G ?y;(case y=>k_is))
  case d0 | d1 | d2 | d3 | d4 | d5 | d6 | d7 | d8 | d9 | d10 | d11 | d12 | d13 | d14 | d15 | d16 | d17 | d18 | d19 | d20 | d21 | d22 | d23 | d24 | d25 | d26 | d27 | d28 | d29 | d30 | d31 | d32 | d33 | d34 | d35 | d36=>(refine' L2.def_mk KX G ?a ?l ?c ?k;(case a=>k_is);(case l=>k_is);(case c=>k_is);(case k=>k_is))
