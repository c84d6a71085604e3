import PyProof.Rows.All
import Wide.All
import OpenK.AllK
import Wide.FinOn
import Lean
import PyProof.EqAt
import PyProof.EqKinds
import PyProof.TupleCall
import PyProof.NeKinds
import PyProof.ListMulRoad
import PyProof.WalkInts
import PyProof.ListRange
import KE.KRevIter
import KE.KSortTup
import KE.KDictSum
import PyProof.Rows.SortWalk
import PyProof.ExcInit
import PyProof.InstStoreFacts
import OpenK.KMake
import OpenK.KCls
import PyProof.FString2
import PySem.Challenge.RW_purseweb_k71_break_purses_made
set_option Elab.async false
set_option linter.all false
set_option maxRecDepth 100000
namespace L2
open PySem PySem.Spec PyProof.Rows
abbrev Sq:=Sum Int Str
def Gn:Sq->Value->Bool
 | .inl k,v=>Value.isInt k v
 | .inr x,v=>Value.isStrOf x v
def DJ(w:World):Sq->Int
 | .inl k=>hashInt k
 | .inr x=>hashStr w x
theorem Yy:∀{k:Sq}{v:Value},Gn k v=true->(∃i t,k=Sum.inl i/\v=Value.int i t)\/(∃x t,k=Sum.inr x/\v=Value.str x t)
 | .inl i,v,h=>by
  obtain⟨t,e⟩:=Value.isInt_shape (k:=i) (v:=v) h
  exact .inl ⟨i,t,rfl,e⟩
 | .inr x,v,h=>by
  obtain⟨t,e⟩:=Value.isStrOf_shape (x:=x) (v:=v) h
  exact .inr ⟨x,t,rfl,e⟩
theorem GN(a b:Int):decide ((Sum.inl a:Sq)=Sum.inl b)=(a==b):=by
 by_cases e:a=b
 ·subst e;simp
 ·have h:¬(Sum.inl a:Sq)=Sum.inl b:=fun q=>e (Sum.inl.inj q)
  rw[decide_eq_false h]
  exact(beq_eq_false_iff_ne.mpr e).symm
theorem GO(a b:Str):decide ((Sum.inr a:Sq)=Sum.inr b)=decide (a=b):=by
 by_cases e:a=b
 ·subst e;simp
 ·have h:¬(Sum.inr a:Sq)=Sum.inr b:=fun q=>e (Sum.inr.inj q)
  rw[decide_eq_false h,decide_eq_false e]
theorem GP(a:Int)(b:Str):decide ((Sum.inl a:Sq)=Sum.inr b)=false:=decide_eq_false (fun q=>nomatch q)
theorem GQ(a:Str)(b:Int):decide ((Sum.inr a:Sq)=Sum.inl b)=false:=decide_eq_false (fun q=>nomatch q)
def QU(prog:Program)(w:World):PySem.KeyKind prog w Sq where
 is:=Gn
 hash:=DJ w
 inj:=fun v a b ha hb=>by
  rcases Yy ha with⟨i,t,rfl,rfl⟩ | ⟨x,t,rfl,rfl⟩
  ·rcases Yy hb with⟨j,u,rfl,e⟩ | ⟨y,u,rfl,e⟩
   ·injection e with e1 _;rw[e1]
   ·exact nomatch e
  ·rcases Yy hb with⟨j,u,rfl,e⟩ | ⟨y,u,rfl,e⟩
   ·exact nomatch e
   ·injection e with e1 _;rw[e1]
 byValue:=fun k v h=>by
  rcases Yy h with⟨i,t,rfl,rfl⟩ | ⟨x,t,rfl,rfl⟩<;>rfl
 pyHash:=fun hv h=>by
  rcases Yy hv with⟨i,t,rfl,rfl⟩ | ⟨x,t,rfl,rfl⟩
  ·exact wpAny_pyHash_int h
  ·exact wpAny_pyHash_str h
 eqBool:=fun hu hv h=>by
  rcases Yy hu with⟨i,t,rfl,rfl⟩ | ⟨x,t,rfl,rfl⟩
  ·rcases Yy hv with⟨j,u,rfl,rfl⟩ | ⟨y,u,rfl,rfl⟩
   ·rw[GN] at h;exact wpAny_eqBool_int h
   ·rw[GP] at h;exact SeqAt.EqAt.int_str i t y u _ _ _ _ h
  ·rcases Yy hv with⟨j,u,rfl,rfl⟩ | ⟨y,u,rfl,rfl⟩
   ·rw[GQ] at h;exact SeqAt.EqAt.str_int x t j u _ _ _ _ h
   ·rw[GO] at h;exact wpAny_eqBool_str h
 «strs»:=fun k x t v h=>by
  rcases Yy h with⟨i,u,rfl,e⟩ | ⟨y,u,rfl,e⟩
  ·exact nomatch e
  ·injection e with e1 _
   subst e1
   cases v<;>rfl
inductive V where
 | non | bl (b:Bool) | int (i:Int) | str (x:Str) | byt (b:Array UInt8) | flt (b:UInt64) | ref (a:Addr) | ty (n:String)
 deriving DecidableEq
def RelV:V->Value->Prop
 | .non,u=>u=Value.none
 | .bl b,u=>u=Value.bool b
 | .int i,u=>∃t,u=Value.int i t
 | .str x,u=>∃t,u=Value.str x t
 | .byt b,u=>∃t,u=Value.bytes b t
 | .flt b,u=>∃t,u=Value.float b t
 | .ref a,u=>u=Value.ref a
 | .ty n,u=>u=Value.type n
abbrev Vals:List V->List Value->Prop:=Paired RelV
theorem Vals.length{xs:List V}{us:List Value}(r:Vals xs us):xs.length=us.length:=Paired.length r
theorem Vals.get:∀{xs:List V}{us:List Value}{i:Nat}{x:V},Vals xs us->xs[i]?=some x->∃u,us[i]?=some u/\RelV x u
 | _,_,_,_,.nil,e=>by simp at e
 | _,_,0,_,.cons r _,e=>by simp at e;subst e;exact⟨_,rfl,r⟩
 | _,_,i+1,x,.cons _ t,e=>by
  obtain⟨u,h1,h2⟩:=Vals.get (i:=i) (x:=x) t (by simpa using e)
  exact⟨u,by simpa using h1,h2⟩
theorem Vals.set{x:V}{u:Value}(r:RelV x u):∀{xs:List V}{us:List Value}(i:Nat),Vals xs us->Vals (xs.set i x) (us.set i u)
 | _,_,_,.nil=>.nil
 | _,_,0,.cons _ t=>.cons r t
 | _,_,i+1,.cons q t=>.cons q (Vals.set r i t)
theorem Vals.append:∀{xs ys:List V}{us ws:List Value},Vals xs us->Vals ys ws->Vals (xs++ys) (us++ws)
 | _,_,_,_,.nil,s=>s
 | _,_,_,_,.cons r t,s=>.cons r (Vals.append t s)
theorem Vals.take:∀{xs:List V}{us:List Value}(n:Nat),Vals xs us->Vals (xs.take n) (us.take n)
 | _,_,0,_=>.nil
 | _,_,_+1,.nil=>.nil
 | _,_,n+1,.cons r t=>.cons r (Vals.take n t)
theorem Vals.drop:∀{xs:List V}{us:List Value}(n:Nat),Vals xs us->Vals (xs.drop n) (us.drop n)
 | _,_,0,r=>r
 | _,_,_+1,.nil=>.nil
 | _,_,n+1,.cons _ t=>Vals.drop n t
def GR:Option V->Option Value->Prop
 | some v,some u=>RelV v u
 | none,none=>True
 | _,_=>False
def KV{κ:Type}:List (κ×V)->List (κ×Value)->Prop:=Paired fun(p:κ×V) (q:κ×Value)=>p.1=q.1/\RelV p.2 q.2
def kV:Sq->V
 | .inl i=>.int i
 | .inr x=>.str x
inductive HO where
 /-- a list -/
 | lst (xs:List V)
 /-- a tuple (never changes) -/
 | tup (xs:List V)
 /-- a dict whose keys are ints and texts;one whose keys are tuples of ints and texts (the empty one is both) -/
 | dK (kvs:List (Sq×V)) | dT (kvs:List (List Sq×V))
 /-- a set of ints: its members,its size -/
 | set (S:Int->Bool) (n:Nat)
 /-- an instance of the class at C,its dict at dx,its attributes -/
 | ins (C dx:Addr) (fs:List (Str×V))
 /-- the dict of the instance at x -/
 | own (x:Addr)
 /-- the dict of an exception -/
 | xd (fs:List (Str×V))
 /-- a bound method,f of x -/
 | met (f x:Addr)
 /-- a range object lo,lo+1,.. below hi -/
 | rng (lo hi:Int)
 /-- a thing that is known to the object (the script;a dict while a loop walks it): read,never written while it is so -/
 | frz (o:Obj) (u:HO)
 /-- a code object's table -/
 | tbl (ps:Array Value)
 /-- any other thing,by what is true of its one object (a def of one's own: SetO a S n:=HO.ext fun h=>..) -/
 | ext (φ:Heap->Prop)
abbrev Hp:=Addr->Option HO
def upd(H:Hp)(a:Addr)(o:HO):Hp:=fun b=>if b=a then some o else H b
theorem Zs{H:Hp}{a:Addr}{o:HO}:upd H a o a=some o:=by unfold upd;rw[if_pos rfl]
theorem upd_ne{H:Hp}{a b:Addr}{o:HO}(h:b≠a):upd H a o b=H b:=by unfold upd;rw[if_neg h]
theorem ZA{H:Hp}{a b:Addr}{o:HO}(h:H a=some o)(h':H b=none):a≠b:=by
 intro e;subst e;rw[h] at h';cases h'
theorem SS{h:Heap}{T:Value}{xs:Array Value}{n:Nat}{o:Obj}(e:(h.push { cls:=T,data:=.seq xs n }).get? h.objs.size=some o):o.dict=none:=by
 rw[Heap.get?_push_size _ rfl] at e;cases e;rfl
section
variable (P:Program) (w:World)
def ObjOk(H:Hp)(h:Heap)(a:Addr):HO->Prop
 | .lst xs=>xs.length<=sizeLine/\∃(its:List Value) (n:Nat),Vals xs its/\h.get? a=some { cls:=.type "list",data:=.seq its.toArray n }
 | .tup xs=>(xs.length<=sizeLine/\∀o,h.get? a=some o->o.dict=none)/\∃its:List Value,Vals xs its/\IsTup h a its.toArray
 | .dK kvs=>kvs.length<=sizeLine/\(a==sysModules)=false/\∃vs,KV kvs vs/\h.DictOf (QU P w) a vs
 | .dT kvs=>kvs.length<=sizeLine/\(a==sysModules)=false/\∃xs:List (List Sq×Addr×Value),
   Paired (fun(p:List Sq×V) (q:List Sq×Addr×Value)=>p.1=q.1/\H q.2.1=some (.tup (p.1.map kV))/\RelV p.2 q.2.2) kvs xs/\
   ∃o es ep,h.get? a=some o/\o.ExactDict/\o.data = .dict es ep/\es.toList=xs.map (entryOfKey (tupleKind (QU P w)))/\(xs.map (·.1)).Nodup
 | .set S n=>h.SetOf (intKind P w) a S n
 | .ins C dx fs=>H dx=some (.own a)/\fs.length<=1000/\dx≠a/\h.get? a=some (PySem.W.instObj C dx)/\
   ∃mA,h.Ns1 dx mA/\(∀f,GR (fs.lookup f) (mA f))/\PySem.Within mA (fs.map (·.1))
 | .own _=>∃o,h.get? a=some o
 | .xd fs=>∃mA,h.Ns1 a mA/\∀f,GR (fs.lookup f) (mA f)
 | .rng lo hi=>∃t u v,h.get? a=some { cls:=.type "range",data:=.fields #[.int lo t,.int hi u,.int 1 v] }
 | .frz o u=>h.get? a=some o/\ObjOk H h a u
 | .tbl ps=>h.get? a=some { cls:=.none,data:=.fields ps }
 | .met f x=>h.get? a=some (PySem.W.methodObj (.ref f) (.ref x))
 | .ext φ=>φ h/\(∃o,h.get? a=some o)/\∀h1 h2:Heap,φ h1->(∀o,h1.get? a=some o->h2.get? a=some o)->φ h2
def HOk(H:Hp)(h:Heap):Prop:=∀a o,H a=some o->ObjOk P w H h a o
end
section
variable {P:Program} {w:World} {H H':Hp} {h h':Heap} {a:Addr} {o:HO}
theorem ObjOk.lt(x:ObjOk P w H h a o):a<h.objs.size:=by
 cases o with
 | lst xs=>obtain⟨_,_,_,_,e⟩:=x;exact Heap.lt_size e
 | tup xs=>obtain⟨_,_,_,p⟩:=x;exact p.lt
 | dK kvs=>obtain⟨_,_,_,_,o,_,_,e,_⟩:=x;exact Heap.lt_size e
 | dT kvs=>obtain⟨_,_,_,_,o,_,_,e,_⟩:=x;exact Heap.lt_size e
 | set S n=>obtain⟨o,_,_,_,e,_⟩:=x;exact Heap.lt_size e
 | ins C dx fs=>obtain⟨_,_,_,e,_⟩:=x;exact Heap.lt_size e
 | own y=>obtain⟨_,e⟩:=x;exact Heap.lt_size e
 | xd fs=>obtain⟨_,⟨_,_,_,e,_⟩,_⟩:=x;exact Heap.lt_size e
 | rng lo hi=>obtain⟨_,_,_,e⟩:=x;exact Heap.lt_size e
 | frz ob u=>obtain⟨e,_⟩:=x;exact Heap.lt_size e
 | tbl ps=>exact Heap.lt_size (show h.get? a=some _ from x)
 | met f y=>exact Heap.lt_size (show h.get? a=some _ from x)
 | ext φ=>obtain⟨_,⟨_,e⟩,_⟩:=x;exact Heap.lt_size e
theorem Paired.mapP{α β:Type}{F G:α->β->Prop}:∀{l₁:List α}{l₂:List β},Paired F l₁ l₂->(∀a b,F a b->G a b)->Paired G l₁ l₂
 | _,_,.nil,_=>.nil
 | _,_,.cons r t,f=>.cons (f _ _ r) (Paired.mapP t f)
theorem ObjOk.stay(x:ObjOk P w H h a o)(k:∀b u,(b=a\/H b=some (.own a))->h.get? b=some u->h'.get? b=some u)
  (ho:∀b,H b=some (.own a)->H' b=some (.own a)) (ht:∀b xs,H b=some (.tup xs)->H' b=some (.tup xs)):ObjOk P w H' h' a o:=by
 induction o with
 | lst xs=>obtain⟨z,its,n,r,e⟩:=x;exact⟨z,its,n,r,k _ _ (.inl rfl) e⟩
 | tup xs=>obtain⟨z,its,r,ob,e,c⟩:=x;exact⟨⟨z.1,fun o q=>by rw[k _ _ (.inl rfl) e] at q;cases q;exact z.2 _ e⟩,its,r,ob,k _ _ (.inl rfl) e,c⟩
 | dK kvs=>obtain⟨z,y,vs,r,ob,es,ep,e,c⟩:=x;exact⟨z,y,vs,r,ob,es,ep,k _ _ (.inl rfl) e,c⟩
 | dT kvs=>
  obtain⟨z,y,xs,r,ob,es,ep,e,c⟩:=x
  exact⟨z,y,xs,Paired.mapP r fun p q z=>⟨z.1,ht _ _ z.2.1,z.2.2⟩,ob,es,ep,k _ _ (.inl rfl) e,c⟩
 | set S n=>obtain⟨ob,es,ep,t,e,c⟩:=x;exact⟨ob,es,ep,t,k _ _ (.inl rfl) e,c⟩
 | ins C dx fs=>
  obtain⟨d,z,ne,e,mA,⟨od,es,ep,e2,c⟩,r⟩:=x
  exact⟨ho _ d,z,ne,k _ _ (.inl rfl) e,mA,⟨od,es,ep,k _ _ (.inr d) e2,c⟩,r⟩
 | own y=>obtain⟨ob,e⟩:=x;exact⟨ob,k _ _ (.inl rfl) e⟩
 | xd fs=>obtain⟨mA,⟨od,es,ep,e,c⟩,r⟩:=x;exact⟨mA,⟨od,es,ep,k _ _ (.inl rfl) e,c⟩,r⟩
 | rng lo hi=>obtain⟨t,u,v,e⟩:=x;exact⟨t,u,v,k _ _ (.inl rfl) e⟩
 | frz ob u ih=>obtain⟨e,q⟩:=x;exact⟨k _ _ (.inl rfl) e,ih q⟩
 | tbl ps=>
  have e:h.get? a=some { cls:=.none,data:=.fields ps }:=x
  show h'.get? a=some { cls:=.none,data:=.fields ps }
  exact k a _ (.inl rfl) e
 | met f y=>
  have e:h.get? a=some (PySem.W.methodObj (.ref f) (.ref y)):=x
  show h'.get? a=some (PySem.W.methodObj (.ref f) (.ref y))
  exact k a _ (.inl rfl) e
 | ext φ=>obtain⟨p,⟨o,e⟩,st⟩:=x;exact⟨st _ _ p fun o q=>k _ _ (.inl rfl) q,⟨o,k _ _ (.inl rfl) e⟩,st⟩
theorem HOk.lt(x:HOk P w H h)(e:H a=some o):a<h.objs.size:=(x a o e).lt
theorem HOk.fresh(x:HOk P w H h)(e:h.objs.size<=a):H a=none:=by
 cases q:H a with
 | none=>rfl
 | some u=>exact absurd (Nat.lt_of_lt_of_le (x.lt q) e) (Nat.lt_irrefl _)
theorem HOk.kept(x:HOk P w H h)(k:∀b u,h.get? b=some u->h'.get? b=some u):HOk P w H h':=fun a o e=>
 (x a o e).stay (fun b u _ q=>k b u q) (fun _ q=>q) fun _ _ q=>q
theorem HOk.laid(x:HOk P w H h)(k:∀b u,h.get? b=some u->h'.get? b=some u)(hp:h.objs.size<=a)(new:ObjOk P w (upd H a o) h' a o):HOk P w (upd H a o) h':=fun b u e=>by
 have hn:=x.fresh hp
 by_cases hb:b=a
 ·subst hb;rw[Zs] at e;cases e;exact new
 ·rw[upd_ne hb] at e
  exact(x b u e).stay (fun c v _ q=>k c v q) (fun c q=>by rw[upd_ne (ZA q hn)];exact q) fun c xs q=>by rw[upd_ne (ZA q hn)];exact q
end
def Rd(H:Hp)(a:Addr)(u:HO):Prop:=H a=some u\/∃o,H a=some (.frz o u)
theorem Rd.ok{P:Program}{w:World}{H:Hp}{h:Heap}{a:Addr}{u:HO}(r:Rd H a u)(x:HOk P w H h):ObjOk P w H h a u:=by
 rcases r with r | ⟨o,r⟩
 ·exact x a u r
 ·obtain⟨_,q⟩:=x a _ r
  exact q
def W3:Option HO->Prop
 | some (.lst _)=>True
 | some (.dK _)=>True
 | some (.dT _)=>True
 | some (.set _ _)=>True
 | some (.ins _ _ _)=>True
 | some (.ext _)=>True
 | _=>False
section
variable {P:Program} {w:World} {H:Hp} {h h':Heap} {x e:Addr} {o':HO}
theorem HOk.write(ok:HOk P w H h)(mu:W3 (H x))(he:e=x\/H e=some (.own x))(k:∀b u,b≠e->h.get? b=some u->h'.get? b=some u)(heo:∃u,h'.get? e=some u)
  (new:ObjOk P w (upd H x o') h' x o'):HOk P w (upd H x o') h':=fun b u q=>by
 have nown:∀c y,H c=some (.own y)->c≠x:=fun c y r z=>by subst z;rw[r] at mu;exact mu
 have ntup:∀c xs,H c=some (.tup xs)->c≠x:=fun c xs r z=>by subst z;rw[r] at mu;exact mu
 by_cases hb:b=x
 ·subst hb;rw[Zs] at q;cases q;exact new
 ·rw[upd_ne hb] at q
  by_cases hbe:b=e
  ·have q':H b=some (.own x):=by
    rcases he with z | z
    ·exact absurd (hbe.trans z) hb
    ·rw[hbe];exact z
   rw[q] at q';cases q'
   obtain⟨v,hv⟩:=heo
   exact⟨v,by rw[hbe];exact hv⟩
  ·refine(ok b u q).stay (fun c v hc r=>k c v ?_ r) (fun c r=>by rw[upd_ne (nown c b r)];exact r) fun c xs r=>by rw[upd_ne (ntup c xs r)];exact r
   rcases hc with rfl | hc
   ·exact hbe
   ·rintro rfl
    rcases he with z | z
    ·exact nown c b hc z
    ·rw[hc] at z;cases z;exact hb rfl
end
structure Un(fs ex:List Addr)(H H':Hp)(h h':Heap):Prop where
 keep:∀b o,h.get? b=some o->H b=none->b∉fs->b∉ex->h'.get? b=some o
 slot:∀b o,h.get? b=some o->H b=none->b∈fs->b∉ex->∃sl,h'.get? b=some { o with slots:=sl }
 free:∀b o,h.get? b=some o->H b=none->b∉ex->H' b=none
 there:∀b o,h.get? b=some o->b∉ex->∃o',h'.get? b=some o'
 tups:∀b xs,H b=some (.tup xs)->H' b=some (.tup xs)
 frzs:∀b o u,H b=some (.frz o u)->H' b=some (.frz o u)
 tbls:∀b ps,H b=some (.tbl ps)->∃more,H' b=some (.tbl (ps++more))
section
variable {fs fs' ex ex':List Addr} {H H1 H2:Hp} {h h1 h2 h':Heap} {a x e:Addr} {o:HO}
theorem Un.any(u:Un fs ex H H1 h h1){b:Addr}{ob:Obj}(q:h.get? b=some ob)(n:H b=none)(hx:b∉ex):∃sl,h1.get? b=some { ob with slots:=sl }:=by
 by_cases hb:b∈fs
 ·exact u.slot b ob q n hb hx
 ·exact⟨ob.slots,u.keep b ob q n hb hx⟩
theorem Un.kept(k:∀b u,h.get? b=some u->h'.get? b=some u):Un fs ex H H h h':=
 ⟨fun b ob q _ _ _=>k b ob q,fun b ob q _ _ _=>⟨ob.slots,k b ob q⟩,fun _ _ _ n _=>n,fun b ob q _=>⟨ob,k b ob q⟩,fun _ _ q=>q,fun _ _ _ q=>q,fun _ ps q=>⟨#[],by rw[q];simp⟩⟩
theorem Un.refl:Un fs ex H H h h:=Un.kept fun _ _ q=>q
theorem Un.laid(k:∀b u,h.get? b=some u->h'.get? b=some u)(hp:h.objs.size<=a)(hn:H a=none):Un fs ex H (upd H a o) h h' where
 keep:=fun b u q _ _ _=>k b u q
 slot:=fun b u q _ _ _=>⟨u.slots,k b u q⟩
 free:=fun b u q n _=>by rw[upd_ne (Nat.ne_of_lt (Nat.lt_of_lt_of_le (Heap.lt_size q) hp))];exact n
 there:=fun b u q _=>⟨u,k b u q⟩
 tups:=fun b xs q=>by rw[upd_ne (ZA q hn)];exact q
 frzs:=fun b u xs q=>by rw[upd_ne (ZA q hn)];exact q
 tbls:=fun b ps q=>⟨#[],by rw[upd_ne (ZA q hn),q];simp⟩
theorem Un.write(mu:W3 (H x))(he:e=x\/H e=some (.own x))(k:∀b u,b≠e->h.get? b=some u->h'.get? b=some u)(heo:∃u,h'.get? e=some u):Un fs ex H (upd H x o) h h':=by
 have hx:∀b,H b=none->b≠x:=fun b n z=>by subst z;rw[n] at mu;exact mu
 have hb:∀b,H b=none->b≠e:=fun b n z=>by
  subst z
  rcases he with r | r
  ·exact hx b n r
  ·rw[n] at r;cases r
 have hm:∀b u,H b=some u->¬W3 (some u)->b≠x:=fun b u q nm z=>by subst z;rw[q] at mu;exact nm mu
 refine⟨fun b u q n _ _=>k b u (hb b n) q,fun b u q n _ _=>⟨u.slots,k b u (hb b n) q⟩,fun b u q n _=>by rw[upd_ne (hx b n)];exact n,fun b u q _=>?_,
  fun b xs q=>by rw[upd_ne (hm b _ q fun z=>z)];exact q,fun b u xs q=>by rw[upd_ne (hm b _ q fun z=>z)];exact q,fun b ps q=>⟨#[],by rw[upd_ne (hm b _ q fun z=>z),q];simp⟩⟩
 by_cases hbe:b=e
 ·subst hbe;exact heo
 ·exact⟨u,k b u hbe q⟩
end
def Du(h:Heap)(H:Hp):List Addr:=(List.range h.objs.size).filter fun a=>(H a).isSome
def QV(h:Heap)(H:Hp):Heap:=PySem.W.hideAll h (Du h H)
theorem M8(h:Heap)(H:Hp):(QV h H).objs.size=h.objs.size:=PySem.W.hideAll_size _ _
theorem Km{h:Heap}{H:Hp}{b:Addr}{o:Obj}(e:h.get? b=some o)(n:H b=none):(QV h H).get? b=some o:=
 PySem.W.hideAll_get _ e fun hm=>by
  have q:(H b).isSome=true:=(List.mem_filter.mp hm).2
  rw[n] at q;simp at q
theorem Iq{h:Heap}{H:Hp}{b:Addr}{o:Obj}(e:(QV h H).get? b=some o):h.get? b=some o/\H b=none:=by
 have e':h.get? b=some o:=PySem.W.of_hideAll (Du h H) e
 refine⟨e',?_⟩
 cases q:H b with
 | none=>rfl
 | some x=>
  have hm:b∈Du h H:=List.mem_filter.mpr ⟨List.mem_range.mpr (Heap.lt_size e'),by simp[q]⟩
  have z:(QV h H).get? b=none:=PySem.W.hideAll_none (Du h H) hm
  rw[z] at e;cases e
def Ir(g h:Heap)(L:Addr):List (Addr×Obj):=(List.range h.objs.size).filterMap fun a=>if a=L\/(g.get? a).isSome=true then none else(h.get? a).map fun o=>(a,o)
def Yh(g h:Heap)(L d:Addr):List (Addr×Obj):=(Ir g h L).filter fun p=>decide (p.1≠d)
structure Mod(K:PySem.W.Frag)(mg:Str->Option Value)(base:Heap):Prop where
 kin:K.In base
 glob:base.Ns mainGlobals mg
 blt:∃mb,base.Ns builtinsNs mb/\∀x:Str,x≠"__name__"->mb x=bootBuiltins x
 nolimit:base.NoLimit
structure Cx where
 prog:Program
 w:World
 K:PySem.W.Frag
 mg:Str->Option Value
 base:Heap
 A:Around
 N:List Str
 s₀:Shared
 H₀:Hp
 env:Env
 outer:List Env
 stack:List Env
 ex:List Addr
 fn:Str->Bool
 calm:Bool
 pn:List (Addr×Obj)
 xe:Value->Shared->Prop
def Qd(l:List Env):List Addr:=l.filterMap (·.frame)
abbrev Cx.fs(X:Cx):List Addr:=Qd X.outer
def DK(sc:Scope)(x:Str):Prop:=sc.names.lookup x=some .local\/sc.names.lookup x=some .cell\/sc.names.lookup x=some .free
def Ew(sc:Scope)(x:Str):Prop:=sc.names.lookup x=some .local\/sc.names.lookup x=some .cell
def DL(env:Env)(h:Heap)(m:Str->Option Value)(x:Str)(u:Value):Prop:=
 (env.kindOf x=some .local/\m x=some u)\/((env.kindOf x=some .cell\/env.kindOf x=some .free)/\∃c,env.cells.lookup x=some c/\h.IsCell c (some u))
structure Cx.Ok(X:Cx):Prop where
 mod:Mod X.K X.mg X.base
 kind:X.env.scope.kind = .function
 glob:X.env.globals=mainGlobals
 blt:X.env.builtins=builtinsNs
 above:X.s₀.heap.objs.size<=X.env.locals
 inj:∀x y c,X.env.cells.lookup x=some c->X.env.cells.lookup y=some c->x=y
 has:∀x,(X.env.kindOf x=some .cell\/X.env.kindOf x=some .free)->∃c,X.env.cells.lookup x=some c
 cab:∀x c,X.fn x=true->X.env.cells.lookup x=some c->X.s₀.heap.objs.size<=c
 hd:X.calm=true->X.A.handled=none
 frames:X.A.frames=some X.stack
 stk:X.stack=X.outer\/(X.stack=X.env::X.outer/\X.env.frame=some X.env.locals)
 exf:∀b∈X.ex,b≠X.env.locals/\∀x c,X.env.cells.lookup x=some c->c≠b
 bs:∀b o,X.base.get? b=some o->X.s₀.heap.get? b=some o/\X.H₀ b=none
 bsz:X.base.objs.size<=X.s₀.heap.objs.size
 noex:∀b o,X.base.get? b=some o->b∉X.ex
 exfs:∀b∈X.ex,b∉X.fs
 funs:X.s₀.heap.FunFrames X.base X.outer
 frf:∀b∈X.fs,X.H₀ b=none
structure Inv(X:Cx)(pins:List (Addr×Obj))(σ:List (Option V))(H:Hp)(s:Shared):Prop where
 ok:X.Ok
 os:s.os=X.s₀.os
 bare:AllBare s.gens
 base:Un X.fs X.ex X.H₀ H X.s₀.heap s.heap
 loc:∃m,s.heap.Ns X.env.locals m/\∀(i:Nat)(x:Str)(v:V),X.N[i]?=some x->σ[i]?=some (some v)->DK X.env.scope x->∃u,RelV v u/\DL X.env s.heap m x u
 cell:∀x c,X.env.cells.lookup x=some c->∃v,s.heap.IsCell c v
 free:H X.env.locals=none
 freeC:∀x c,X.env.cells.lookup x=some c->H c=none
 pin:∀p∈X.pn++pins,s.heap.get? p.1=some p.2/\H p.1=none/\p.1≠X.env.locals/\p.1∉X.fs/\∀v,p.2.data≠.cell v
 hok:HOk X.prog X.w H s.heap
 len:σ.length=X.N.length
section
variable {X:Cx} {pins:List (Addr×Obj)} {σ:List (Option V)} {H H':Hp} {s:Shared} {h':Heap}
theorem Cx.Ok.nofr(ok:X.Ok){b:Addr}{o:Obj}(e:X.base.get? b=some o):b∉X.fs:=fun hb=>by
 have:=(ok.funs.mem hb).1
 rw[e] at this;cases this
theorem Inv.bs(I:Inv X pins σ H s):∀b o,X.base.get? b=some o->s.heap.get? b=some o/\H b=none:=fun b o e=>
 ⟨I.base.keep b o (I.ok.bs b o e).1 (I.ok.bs b o e).2 (I.ok.nofr e) (I.ok.noex b o e),I.base.free b o (I.ok.bs b o e).1 (I.ok.bs b o e).2 (I.ok.noex b o e)⟩
theorem Inv.bk(I:Inv X pins σ H s):∀b o,X.base.get? b=some o->s.heap.get? b=some o:=fun b o e=>(I.bs b o e).1
theorem Inv.mod(I:Inv X pins σ H s):Mod X.K X.mg X.base:=I.ok.mod
theorem Inv.kIn(I:Inv X pins σ H s):X.K.In s.heap:=I.ok.mod.kin.keeps I.bk
theorem Inv.fr(I:Inv X pins σ H s):∃m,Fr X.base X.env.locals s.heap m:=
 let⟨m,hn,_⟩:=I.loc
 ⟨m,hn,I.bk,Nat.le_trans I.ok.bsz I.ok.above⟩
theorem Inv.lt(I:Inv X pins σ H s):X.env.locals<s.heap.objs.size:=let⟨_,hn,_⟩:=I.loc;hn.lt
theorem Inv.sz(I:Inv X pins σ H s):X.s₀.heap.objs.size<=s.heap.objs.size:=Nat.le_trans I.ok.above (Nat.le_of_lt I.lt)
theorem Inv.nofs(I:Inv X pins σ H s){a:Addr}(h:s.heap.objs.size<=a):a∉X.fs:=fun hb=>by
 obtain⟨_,o,ho,_⟩:=I.ok.funs.mem hb
 exact absurd (Nat.lt_of_lt_of_le (Heap.lt_size ho) (Nat.le_trans I.sz h)) (Nat.lt_irrefl _)
theorem Inv.cne(I:Inv X pins σ H s):∀x c,X.env.cells.lookup x=some c->c≠X.env.locals:=fun x c e z=>by
 obtain⟨v,o,ho,hd⟩:=I.cell x c e
 obtain⟨m,⟨o',es,ep,ho',hd',_⟩,_⟩:=I.loc
 rw[z,ho'] at ho;cases ho;rw[hd'] at hd;cases hd
theorem Inv.funs(I:Inv X pins σ H s):s.heap.FunFrames X.base X.outer:=by
 have all:∀(l:List Env),(∀b∈Qd l,b∈X.fs)->X.s₀.heap.FunFrames X.base l->s.heap.FunFrames X.base l:=by
  intro l
  induction l with
  | nil=>intro _ _;trivial
  | cons env r ih=>
   intro hs hl
   obtain⟨hk,⟨L,o,hf,hn,ho,hd⟩,hr⟩:=hl
   have hL:L∈X.fs:=hs L (by unfold Qd;rw[List.filterMap_cons,hf];exact List.mem_cons_self)
   obtain⟨sl,e⟩:=I.base.slot L o ho (I.ok.frf L hL) hL fun z=>I.ok.exfs L z hL
   exact⟨hk,⟨L,_,hf,hn,e,hd⟩,ih (fun b hb=>hs b (by unfold Qd;rw[List.filterMap_cons,hf];exact List.mem_cons_of_mem _ hb)) hr⟩
 exact all X.outer (fun _ hb=>hb) I.ok.funs
theorem Inv.stack(I:Inv X pins σ H s):s.heap.FunFrames X.base X.stack:=by
 rcases I.ok.stk with e | ⟨e,hf⟩
 ·rw[e];exact I.funs
 ·rw[e]
  obtain⟨m,hn,_⟩:=I.loc
  refine .cons (by rw[I.ok.kind];decide) hf hn ?_ I.funs
  exact Heap.get?_none_of_le (Nat.le_trans I.ok.bsz I.ok.above)
theorem Inv.stkSub(I:Inv X pins σ H s):∀b∈Qd X.stack,b∈X.env.locals::X.fs:=fun b hb=>by
 rcases I.ok.stk with e | ⟨e,hf⟩
 ·rw[e] at hb;exact List.mem_cons_of_mem _ hb
 ·rw[e] at hb
  unfold Qd at hb;rw[List.filterMap_cons,hf] at hb;exact hb
theorem Inv.stkFree(I:Inv X pins σ H s):∀b∈Qd X.stack,H b=none:=fun b hb=>by
 rcases List.mem_cons.mp (I.stkSub b hb) with e | hb
 ·rw[e];exact I.free
 ·obtain⟨_,o,ho,_⟩:=I.ok.funs.mem hb
  exact I.base.free b o ho (I.ok.frf b hb) fun z=>I.ok.exfs b z hb
theorem Inv.step{g':Array GenState}{t':Nat}{d':Drawn}{ch:List Addr}(I:Inv X pins σ H s)
  (hch:∀b∈ch,(b∈X.ex\/X.s₀.heap.objs.size<=b)/\b≠X.env.locals/\(∀x c,X.env.cells.lookup x=some c->c≠b)/\∀p∈X.pn++pins,p.1≠b)
  (keep:∀b o,b≠X.env.locals->b∉X.fs->b∉ch->s.heap.get? b=some o->H b=none->h'.get? b=some o)
  (slot:∀b o,b≠X.env.locals->b∈X.fs->b∉ch->s.heap.get? b=some o->H b=none->∃sl,h'.get? b=some { o with slots:=sl }) (free:∀b o,b∉ch->s.heap.get? b=some o->H b=none->H' b=none)
  (there:∀b o,b∉ch->s.heap.get? b=some o->∃o',h'.get? b=some o')
  (tups:∀b xs,H b=some (.tup xs)->H' b=some (.tup xs)) (frzs:∀b o u,H b=some (.frz o u)->H' b=some (.frz o u)) (tbls:∀b ps,H b=some (.tbl ps)->∃more,H' b=some (.tbl (ps++more)))
  (ns:∀m,s.heap.Ns X.env.locals m->h'.Ns X.env.locals m) (hok:HOk X.prog X.w H' h') (hg:AllBare g') :
  Inv X pins σ H' { s with heap:=h',gens:=g',drawn:=d',toks:=t' }:=by
 have neL:∀b o,X.s₀.heap.get? b=some o->b≠X.env.locals:=fun b o e=>Nat.ne_of_lt (Nat.lt_of_lt_of_le (Heap.lt_size e) I.ok.above)
 have neC:∀b o,X.s₀.heap.get? b=some o->b∉X.ex->b∉ch:=fun b o e hx hb=>by
  rcases(hch b hb).1 with z | z
  ·exact hx z
  ·exact absurd (Nat.lt_of_lt_of_le (Heap.lt_size e) z) (Nat.lt_irrefl _)
 have cellK:∀x c,X.env.cells.lookup x=some c->∀v,s.heap.IsCell c v->h'.IsCell c v:=fun x c e v ⟨o,ho,hd⟩=>by
  have nch:c∉ch:=fun z=>(hch c z).2.2.1 x c e rfl
  by_cases hc:c∈X.fs
  ·obtain⟨sl,q⟩:=slot c o (I.cne x c e) hc nch ho (I.freeC x c e)
   exact⟨_,q,hd⟩
  ·exact⟨o,keep c o (I.cne x c e) hc nch ho (I.freeC x c e),hd⟩
 refine⟨I.ok,I.os,hg,⟨fun b o e n hb hx=>?_,fun b o e n hb hx=>?_,fun b o e n hx=>?_,fun b o e hx=>?_,fun b xs e=>tups b xs (I.base.tups b xs e),fun b o xs e=>frzs b o xs (I.base.frzs b o xs e),fun b ps e=>?_⟩,?_,fun x c e=>?_,?_,fun x c e=>?_,fun p hp=>?_,hok,I.len⟩
 ·exact keep b o (neL b o e) hb (neC b o e hx) (I.base.keep b o e n hb hx) (I.base.free b o e n hx)
 ·obtain⟨sl,e1⟩:=I.base.slot b o e n hb hx
  obtain⟨sl',e2⟩:=slot b _ (neL b o e) hb (neC b o e hx) e1 (I.base.free b o e n hx)
  exact⟨sl',e2⟩
 ·obtain⟨o',e1⟩:=I.base.there b o e hx
  exact free b o' (neC b o e hx) e1 (I.base.free b o e n hx)
 ·obtain⟨o',e1⟩:=I.base.there b o e hx
  exact there b o' (neC b o e hx) e1
 ·obtain⟨m1,e1⟩:=I.base.tbls b ps e
  obtain⟨m2,e2⟩:=tbls b _ e1
  exact⟨m1++m2,by rw[e2,Array.append_assoc]⟩
 ·obtain⟨m,hn,hl⟩:=I.loc
  refine⟨m,ns m hn,fun i x v e1 e2 e3=>?_⟩
  obtain⟨u,r,l⟩:=hl i x v e1 e2 e3
  refine⟨u,r,?_⟩
  rcases l with l | ⟨k,c,e,z⟩
  ·exact .inl l
  ·exact .inr ⟨k,c,e,cellK x c e _ z⟩
 ·obtain⟨v,z⟩:=I.cell x c e
  exact⟨v,cellK x c e v z⟩
 ·obtain⟨m,⟨o,_,_,ho,_⟩,_⟩:=I.loc
  exact free _ o (fun z=>(hch _ z).2.1 rfl) ho I.free
 ·obtain⟨v,o,ho,hd⟩:=I.cell x c e
  exact free c o (fun z=>(hch c z).2.2.1 x c e rfl) ho (I.freeC x c e)
 ·obtain⟨e,n,ne,nf,d⟩:=I.pin p hp
  have nch:p.1∉ch:=fun z=>(hch p.1 z).2.2.2 p hp rfl
  exact⟨keep p.1 p.2 ne nf nch e n,free p.1 p.2 nch e n,ne,nf,d⟩
theorem Inv.un{t':Nat}(I:Inv X pins σ H s)(u:Un X.fs [] H H' s.heap h')(hok:HOk X.prog X.w H' h'):Inv X pins σ H' { s with heap:=h',toks:=t' }:=by
 obtain⟨m,⟨o,es,ep,ho,r⟩,_⟩:=id I.loc
 obtain⟨sl,hL⟩:=u.any ho I.free (by simp)
 exact I.step (g':=s.gens) (d':=s.drawn) (ch:=[]) (fun _ z=>nomatch z) (fun b o _ hb _ e n=>u.keep b o e n hb (by simp)) (fun b o _ hb _ e n=>u.slot b o e n hb (by simp)) (fun b o _ e n=>u.free b o e n (by simp)) (fun b o _ e=>u.there b o e (by simp)) u.tups u.frzs u.tbls (fun m' hm=>by
  obtain⟨o',es',ep',ho',r'⟩:=hm
  rw[ho] at ho';cases ho'
  exact⟨_,es',ep',hL,r'⟩) hok I.bare
theorem Inv.call{g':Array GenState}{t':Nat}{d':Drawn}{ch:List Addr}(I:Inv X pins σ H s)(u:Un (Qd X.stack) ch H H' s.heap h')(hok:HOk X.prog X.w H' h')(hg:AllBare g')
  (hch:∀b∈ch,(b∈X.ex\/X.s₀.heap.objs.size<=b)/\b≠X.env.locals/\(∀x c,X.env.cells.lookup x=some c->c≠b)/\∀p∈X.pn++pins,p.1≠b) :
  Inv X pins σ H' { s with heap:=h',gens:=g',drawn:=d',toks:=t' }:=by
 obtain⟨m,⟨o,es,ep,ho,r⟩,_⟩:=id I.loc
 obtain⟨sl,hL⟩:=u.any ho I.free fun z=>(hch _ z).2.1 rfl
 exact I.step (ch:=ch) hch (fun b o hL hb hc e n=>u.keep b o e n (fun z=>(List.mem_cons.mp (I.stkSub b z)).elim hL hb) hc) (fun b o _ _ hc e n=>u.any e n hc) (fun b o hc e n=>u.free b o e n hc) (fun b o hc e=>u.there b o e hc) u.tups u.frzs u.tbls (fun m' hm=>by
  obtain⟨o',es',ep',ho',r'⟩:=hm
  rw[ho] at ho';cases ho'
  exact⟨_,es',ep',hL,r'⟩) hok hg
theorem Inv.turned{t':Nat}{it:Addr}(I:Inv X pins σ H s)(k:∀b o,b≠it->s.heap.get? b=some o->h'.get? b=some o)(hn:H it=none)(hL:it≠X.env.locals)
  (h1:it∈X.ex\/X.s₀.heap.objs.size<=it) (h2:∀x c,X.env.cells.lookup x=some c->c≠it) (h3:∀p∈X.pn++pins,p.1≠it):Inv X pins σ H { s with heap:=h',toks:=t' }:=by
 have nit:∀b u,H b=some u->b≠it:=fun b u e z=>by rw[z,hn] at e;cases e
 refine I.step (g':=s.gens) (d':=s.drawn) (ch:=[it]) (fun b hb=>?_) (fun b o _ _ hc e _=>k b o (fun z=>hc (by simp[z])) e) (fun b o _ _ hc e _=>⟨o.slots,k b o (fun z=>hc (by simp[z])) e⟩) (fun _ _ _ _ n=>n)
  (fun b o hc e=>⟨o,k b o (fun z=>hc (by simp[z])) e⟩) (fun _ _ e=>e) (fun _ _ _ e=>e) (fun b ps e=>⟨#[],by rw[e];simp⟩) (fun m hm=>?_) (fun b u e=>?_) I.bare
 ·have e:b=it:=by simpa using hb
  subst e
  exact⟨h1,hL,h2,h3⟩
 ·obtain⟨o,es,ep,ho,r⟩:=hm
  exact⟨o,es,ep,k _ o (Ne.symm hL) ho,r⟩
 ·refine(I.hok b u e).stay (fun c v hc q=>k c v ?_ q) (fun _ q=>q) fun _ _ q=>q
  rcases hc with z | z
  ·rw[z];exact nit b u e
  ·exact nit c _ z
theorem Inv.tok(I:Inv X pins σ H s)(t:Nat):Inv X pins σ H { s with toks:=t }:=I.un (h':=s.heap) (t':=t) Un.refl I.hok
theorem Inv.kept{t':Nat}(I:Inv X pins σ H s)(k:∀b u,s.heap.get? b=some u->h'.get? b=some u):Inv X pins σ H { s with heap:=h',toks:=t' }:=I.un (Un.kept k) (I.hok.kept k)
theorem Inv.laid{a:Addr}{o:HO}{t':Nat}(I:Inv X pins σ H s)(k:∀b u,s.heap.get? b=some u->h'.get? b=some u)(hp:s.heap.objs.size<=a)(new:ObjOk X.prog X.w (upd H a o) h' a o) :
  Inv X pins σ (upd H a o) { s with heap:=h',toks:=t' }:=I.un (Un.laid k hp (I.hok.fresh hp)) (I.hok.laid k hp new)
theorem Inv.write{x e:Addr}{o:HO}{t':Nat}(I:Inv X pins σ H s)(mu:W3 (H x))(he:e=x\/H e=some (.own x))(k:∀b u,b≠e->s.heap.get? b=some u->h'.get? b=some u)(heo:∃u,h'.get? e=some u)
  (new:ObjOk X.prog X.w (upd H x o) h' x o):Inv X pins σ (upd H x o) { s with heap:=h',toks:=t' }:=I.un (Un.write mu he k heo) (I.hok.write mu he k heo new)
theorem Inv.weak{σ':List (Option V)}(I:Inv X pins σ H s)(hl:σ'.length=σ.length)(w:∀(i:Nat) v,σ'[i]?=some (some v)->σ[i]?=some (some v)):Inv X pins σ' H s:=
 ⟨I.ok,I.os,I.bare,I.base,let⟨m,hn,hl'⟩:=I.loc;⟨m,hn,fun i x v e1 e2 e3=>hl' i x v e1 (w i v e2) e3⟩,I.cell,I.free,I.freeC,I.pin,I.hok,hl.trans I.len⟩
theorem Inv.pins_of{pins':List (Addr×Obj)}(I:Inv X pins σ H s)(h:∀p∈pins',s.heap.get? p.1=some p.2/\H p.1=none/\p.1≠X.env.locals/\p.1∉X.fs/\∀v,p.2.data≠.cell v):Inv X pins' σ H s:=
 ⟨I.ok,I.os,I.bare,I.base,I.loc,I.cell,I.free,I.freeC,fun p hp=>(List.mem_append.mp hp).elim (fun z=>I.pin p (List.mem_append_left _ z)) (h p),I.hok,I.len⟩
theorem SU{N:List Str}(hN:N.Nodup){i j:Nat}{x:Str}(a:N[i]?=some x)(b:N[j]?=some x):i=j:=by
 obtain⟨h1,e1⟩:=List.getElem?_eq_some_iff.mp a
 obtain⟨h2,e2⟩:=List.getElem?_eq_some_iff.mp b
 exact(List.getElem_inj hN).mp (e1.trans e2.symm)
theorem M9{M:Model}{A:Around}{E:Value->Shared->Prop}{i:Nat}{x:Str}{v:V}{u:Value}{Q:Unit->Shared->Prop}(I:Inv X pins σ H s)(hN:X.N.Nodup)(hi:X.N[i]?=some x)(hx:Ew X.env.scope x)(r:RelV v u)
  (h:∀s',Inv X pins (σ.set i (some v)) H s'->(∃a,Heap.SameBut a s.heap s'.heap/\(a=X.env.locals\/X.env.cells.lookup x=some a))->Q () s') (hf:X.fn x=true\/X.env.scope.names.lookup x=some .local:=by first | exact .inl rfl | exact .inr rfl | assumption):wpAny M A (storeName X.env x u) Q E s:=by
 obtain⟨m,hn,hl⟩:=id I.loc
 have hcls:(X.env.scope.kind==.class || (X.env.scope.kind==.module&&X.env.locals != X.env.globals))=false:=by rw[I.ok.kind];rfl
 have hiσ:i<σ.length:=by rw[I.len];exact(List.getElem?_eq_some_iff.mp hi).1
 have cne:=I.cne
 have tracked:∀{a:Addr}{h':Heap},(∃o,s.heap.get? a=some o/\H a=none)->Heap.SameBut a s.heap h'->HOk X.prog X.w H h':=fun{a h'} ha hs b ob e=>by
  obtain⟨_,_,hfree⟩:=ha
  refine(I.hok b ob e).stay (fun c w' hc q=>(hs.2 c ?_).trans q) (fun _ q=>q) fun _ _ q=>q
  rintro rfl
  rcases hc with rfl | hc
  ·rw[hfree] at e;cases e
  ·rw[hfree] at hc;cases hc
 rcases hx with hk | hk
 ·refine wpAny_storeName_local hk hn (fun h' hn' hs=>?_) hcls
  obtain⟨oL,_,_,hoL,_⟩:=id hn
  refine h _ ⟨I.ok,I.os,I.bare,⟨fun b o e n hb hx=>?_,fun b o e n hb hx=>?_,I.base.free,fun b o e hx=>?_,I.base.tups,I.base.frzs,I.base.tbls⟩,⟨_,hn',fun j y v' e1 e2 e3=>?_⟩,fun y c e=>?_,I.free,I.freeC,fun p hp=>?_,tracked ⟨oL,hoL,I.free⟩ hs,by simpa using I.len⟩ ⟨_,hs,.inl rfl⟩
  ·exact(hs.2 b (Nat.ne_of_lt (Nat.lt_of_lt_of_le (Heap.lt_size e) I.ok.above))).trans (I.base.keep b o e n hb hx)
  ·obtain⟨sl,e1⟩:=I.base.slot b o e n hb hx
   exact⟨sl,(hs.2 b (Nat.ne_of_lt (Nat.lt_of_lt_of_le (Heap.lt_size e) I.ok.above))).trans e1⟩
  ·obtain⟨o',e1⟩:=I.base.there b o e hx
   exact⟨o',(hs.2 b (Nat.ne_of_lt (Nat.lt_of_lt_of_le (Heap.lt_size e) I.ok.above))).trans e1⟩
  ·by_cases hj:j=i
   ·subst hj
    rw[hi] at e1;cases e1;rw[List.getElem?_set_self hiσ] at e2;cases e2
    exact⟨u,r,.inl ⟨hk,by simp⟩⟩
   ·rw[List.getElem?_set_ne (Ne.symm hj)] at e2
    obtain⟨u',r',q⟩:=hl j y v' e1 e2 e3
    refine⟨u',r',?_⟩
    rcases q with⟨k,e⟩ | ⟨k,c,e,z⟩
    ·refine .inl ⟨k,?_⟩
     have:y≠x:=fun e=>hj (SU hN e1 (e▸hi))
     simp[this,e]
    ·exact .inr ⟨k,c,e,z.sameBut hs (cne y c e)⟩
  ·obtain⟨w',z⟩:=I.cell y c e
   exact⟨w',z.sameBut hs (cne y c e)⟩
  ·obtain⟨e,n,ne,nf,d⟩:=I.pin p hp
   exact⟨(hs.2 p.1 ne).trans e,n,ne,nf,d⟩
 ·have hfn:X.fn x=true:=by
   rcases hf with z | z
   ·exact z
   ·rw[z] at hk;cases hk
  obtain⟨c,hc⟩:=I.ok.has x (.inl hk)
  obtain⟨w',z⟩:=I.cell x c hc
  refine wpAny_storeName_cell I.ok.kind hk hc z (fun h' hc' hs=>?_)
  obtain⟨oc,hoc,hocd⟩:=id z
  refine h { s with heap:=h' } ⟨I.ok,I.os,I.bare,⟨fun b o e n hb hx=>?_,fun b o e n hb hx=>?_,I.base.free,fun b o e hx=>?_,I.base.tups,I.base.frzs,I.base.tbls⟩,⟨m,hn.sameBut hs (Ne.symm (cne x c hc)),fun j y v' e1 e2 e3=>?_⟩,fun y c' e=>?_,I.free,I.freeC,fun p hp=>?_,tracked ⟨oc,hoc,I.freeC x c hc⟩ hs,by simpa using I.len⟩ ⟨c,hs,.inr hc⟩
  ·exact(hs.2 b (Nat.ne_of_lt (Nat.lt_of_lt_of_le (Heap.lt_size e) (I.ok.cab x c hfn hc)))).trans (I.base.keep b o e n hb hx)
  ·obtain⟨sl,e1⟩:=I.base.slot b o e n hb hx
   exact⟨sl,(hs.2 b (Nat.ne_of_lt (Nat.lt_of_lt_of_le (Heap.lt_size e) (I.ok.cab x c hfn hc)))).trans e1⟩
  ·obtain⟨o',e1⟩:=I.base.there b o e hx
   exact⟨o',(hs.2 b (Nat.ne_of_lt (Nat.lt_of_lt_of_le (Heap.lt_size e) (I.ok.cab x c hfn hc)))).trans e1⟩
  ·by_cases hj:j=i
   ·subst hj
    rw[hi] at e1;cases e1;rw[List.getElem?_set_self hiσ] at e2;cases e2
    exact⟨u,r,.inr ⟨.inl hk,c,hc,hc'⟩⟩
   ·rw[List.getElem?_set_ne (Ne.symm hj)] at e2
    obtain⟨u',r',q⟩:=hl j y v' e1 e2 e3
    refine⟨u',r',?_⟩
    rcases q with q | ⟨k,c',e,z'⟩
    ·exact .inl q
    ·refine .inr ⟨k,c',e,z'.sameBut hs ?_⟩
     rintro rfl
     exact hj (SU hN e1 (I.ok.inj _ _ _ e hc▸hi))
  ·by_cases hcc:c'=c
   ·subst hcc;exact⟨_,hc'⟩
   ·obtain⟨w2,z2⟩:=I.cell y c' e
    exact⟨w2,z2.sameBut hs hcc⟩
  ·obtain⟨e,n,ne,nf,d⟩:=I.pin p hp
   refine⟨(hs.2 p.1 ?_).trans e,n,ne,nf,d⟩
   intro q;rw[q,hoc] at e
   have q':oc=p.2:=Option.some.inj e
   exact d w' (by rw[<-q'];exact hocd)
theorem Vu{M:Model}{A:Around}{E:Value->Shared->Prop}{i:Nat}{x:Str}{v:V}{u:Value}{Q:Unit->Shared->Prop}(I:Inv X pins σ H s)(hN:X.N.Nodup)(hi:X.N[i]?=some x)(hx:Ew X.env.scope x)(r:RelV v u)
  (h:∀s',Inv X pins (σ.set i (some v)) H s'->Q () s') (hf:X.fn x=true\/X.env.scope.names.lookup x=some .local:=by first | exact .inl rfl | exact .inr rfl | assumption):wpAny M A (storeName X.env x u) Q E s:=
 M9 I hN hi hx r (fun s' I' _=>h s' I') hf
theorem Inv.call'{s':Shared}{ch:List Addr}(I:Inv X pins σ H s)(ho:s'.os=s.os)(u:Un (Qd X.stack) ch H H' s.heap s'.heap)(hok:HOk X.prog X.w H' s'.heap)(hg:AllBare s'.gens)
  (hch:∀b∈ch,(b∈X.ex\/X.s₀.heap.objs.size<=b)/\b≠X.env.locals/\(∀x c,X.env.cells.lookup x=some c->c≠b)/\∀p∈X.pn++pins,p.1≠b):Inv X pins σ H' s':=by
 obtain⟨h',g',d',t',o'⟩:=s'
 have e:o'=s.os:=ho
 subst e
 exact I.call (g':=g') (t':=t') (d':=d') u hok hg hch
end
abbrev XK:=Value->Option Addr->Hp->Prop
abbrev St:=List (Option V)
abbrev VK:=V->Hp->Prop
abbrev TE:=St->Hp->VK->Prop
abbrev TT:=St->Hp->(Bool->Hp->Prop)->Prop
abbrev TA:=St->Hp->(List V->Hp->Prop)->Prop
structure Uz where
 nx:St->Hp->Prop
 rt:VK
 bk:St->Hp->Prop:=fun _ _=>False
 ct:St->Hp->Prop:=fun _ _=>False
abbrev TS:=Uz->St->Hp->Prop
def EP(X:Cx)(pins:List (Addr×Obj))(σ:St)(Q:VK)(u:Value)(s':Shared):Prop:=∃v H',Inv X pins σ H' s'/\RelV v u/\Q v H'
def TP(X:Cx)(pins:List (Addr×Obj))(σ:St)(Q:Bool->Hp->Prop)(b:Bool)(s':Shared):Prop:=∃H',Inv X pins σ H' s'/\Q b H'
def AP(X:Cx)(pins:List (Addr×Obj))(σ:St)(Q:List V->Hp->Prop)(us:List Value)(s':Shared):Prop:=∃vs H',Inv X pins σ H' s'/\Vals vs us/\Q vs H'
def SP(X:Cx)(pins:List (Addr×Obj))(D:Uz)(f:Flow)(s':Shared):Prop:=
 match f with
 | .next=>∃σ' H',Inv X pins σ' H' s'/\D.nx σ' H'
 | .brk=>∃σ' H',Inv X pins σ' H' s'/\D.bk σ' H'
 | .cont=>∃σ' H',Inv X pins σ' H' s'/\D.ct σ' H'
 | .ret u=>∃v σ' H',Inv X pins σ' H' s'/\RelV v u/\D.rt v H'
def PE(X:Cx)(e:Expr)(t:TE):Prop:=
 ∀(pins:List (Addr×Obj))(s:Shared)(σ:St)(H:Hp)(Q:VK),Inv X pins σ H s->t σ H Q->wpAny (model X.prog X.w) X.A (eval e X.env) (EP X pins σ Q) X.xe s
def PT(X:Cx)(e:Expr)(t:TT):Prop:=
 ∀(pins:List (Addr×Obj))(s:Shared)(σ:St)(H:Hp)(Q:Bool->Hp->Prop),Inv X pins σ H s->t σ H Q->wpAny (model X.prog X.w) X.A (isTrue e X.env (eval e X.env)) (TP X pins σ Q) X.xe s
def PW(X:Cx)(e:Expr)(t:TT):Prop:=
 ∀(whole:Sem Value)(pins:List (Addr×Obj))(s:Shared)(σ:St)(H:Hp)(Q:Bool->Hp->Prop),Inv X pins σ H s->t σ H Q->wpAny (model X.prog X.w) X.A (isTrue e X.env whole) (TP X pins σ Q) X.xe s
theorem PW.pt{X:Cx}{e:Expr}{t:TT}(h:PW X e t):PT X e t:=h _
def PA(X:Cx)(es:List Expr)(t:TA):Prop:=
 ∀(pos:Pos)(pins:List (Addr×Obj))(s:Shared)(σ:St)(H:Hp)(Q:List V->Hp->Prop),Inv X pins σ H s->t σ H Q->wpAny (model X.prog X.w) X.A (spliced (backTo pos (starEach es X.env))) (AP X pins σ Q) X.xe s
def PS(X:Cx)(st:Stmt)(t:TS):Prop:=
 ∀(pins:List (Addr×Obj))(s:Shared)(σ:St)(H:Hp)(D:Uz),Inv X pins σ H s->t D σ H->wpAny (model X.prog X.w) X.A (exec st X.env) (SP X pins D) X.xe s
def PSs(X:Cx)(st:List Stmt)(t:TS):Prop:=
 ∀(pins:List (Addr×Obj))(s:Shared)(σ:St)(H:Hp)(D:Uz),Inv X pins σ H s->t D σ H->wpAny (model X.prog X.w) X.A (execs st X.env) (SP X pins D) X.xe s
theorem YT{α:Type}{t:Sem α}{Q Q':α->Shared->Prop}{M:Model}{A:Around}{E:Value->Shared->Prop}{s:Shared}(h:wpAny M A t Q E s)(hQ:∀a s,Q a s->Q' a s):wpAny M A t Q' E s:=wpAny_mono h hQ fun _ _ x=>x
section
variable {X:Cx}
theorem bin{a b:Expr}{ta tb:TE}(ha:PE X a ta)(hb:PE X b tb){pins:List (Addr×Obj)}{s:Shared}{σ:St}{H:Hp}{R:V->V->Hp->Prop}(I:Inv X pins σ H s)(h:ta σ H fun x H1=>tb σ H1 fun y H2=>R x y H2)
  {α:Type} {Q:α->Shared->Prop} {f:Value->Value->Sem α}
  (hf:∀v u s2 x y H2,Inv X pins σ H2 s2->RelV x v->RelV y u->R x y H2->wpAny (model X.prog X.w) X.A (f v u) Q X.xe s2) :
  wpAny (model X.prog X.w) X.A (eval a X.env) (fun v s₁=>wpAny (model X.prog X.w) X.A (eval b X.env) (fun u s₂=>wpAny (model X.prog X.w) X.A (f v u) Q X.xe s₂) X.xe s₁) X.xe s:=by
 refine YT (ha pins s σ H _ I h) fun v s1 ⟨x,H1,I1,r1,q1⟩=>?_
 refine YT (hb pins s1 σ H1 _ I1 q1) fun u s2 ⟨y,H2,I2,r2,q2⟩=>?_
 exact hf v u s2 x y H2 I2 r1 r2 q2
def RW(i:Nat):TE:=fun σ H Q=>∃v,σ[i]?=some (some v)/\Q v H
def tC(v:V):TE:=fun _ H Q=>Q v H
theorem GS{i:Nat}{x:Str}{pos:Pos}(hN:X.N[i]?=some x)(hv:DK X.env.scope x)(hd:(x==("__debug__" : Str))=false:=by decide)(hcd:(x==("__classdict__" : Str))=false:=by decide):PE X (.Name x pos) (RW i):=by
 intro pins s σ H Q I h
 obtain⟨v,e,h⟩:=h
 obtain⟨m,hn,hl⟩:=I.loc
 obtain⟨u,r,l⟩:=hl i x v hN e hv
 have fin:EP X pins σ Q u s:=⟨v,H,I,r,h⟩
 rcases l with⟨hk,hm⟩ | ⟨hk,c,hc,hcell⟩
 ·exact wpAny_Name (wpAny_loadName_local I.ok.kind hk hn hm fin) hd
 ·rcases hk with hk | hk
  ·exact wpAny_Name (wpAny_loadName_cell I.ok.kind hk hc hcell fin) hd
  ·exact wpAny_Name (wpAny_loadName_free I.ok.kind hk hc hcell fin hcd) hd
theorem GU{i j pos}:PE X (.Constant (.int i) j pos) (tC (.int i)):=fun _ _ _ H _ I h=>wpAny_Constant_int ⟨.int i,H,I.tok _,⟨_,rfl⟩,h⟩
theorem Ex{b j pos}:PE X (.Constant (.bool b) j pos) (tC (.bl b)):=fun _ _ _ H _ I h=>Constant_bool ⟨.bl b,H,I,rfl,h⟩
theorem Kn{x j pos}:PE X (.Constant (.str x) j pos) (tC (.str x)):=fun _ _ _ H _ I h=>Calls.Constant_str ⟨.str x,H,I.tok _,⟨_,rfl⟩,h⟩
def Gl(X:Cx)(x:Str):Prop:=X.env.kindOf x=some .globalImplicit
theorem V3{E:Value->Shared->Prop}{pins:List (Addr×Obj)}{s:Shared}{σ:St}{H:Hp}{x:Str}{u:Value}{pos:Pos}{Q:Value->Shared->Prop}(I:Inv X pins σ H s)(hg:Gl X x)(hm:X.mg x=some u)(h:Q u s)
  (hd:(x==("__debug__" : Str))=false:=by decide):wpAny (model X.prog X.w) X.A (eval (.Name x pos) X.env) Q E s:=
 Calls.Name_function_global I.ok.kind hg (Calls.loadGlobal_global (by rw[I.ok.glob];exact I.mod.glob.keeps I.bk) hm h) hd
theorem Xy{E:Value->Shared->Prop}{pins:List (Addr×Obj)}{s:Shared}{σ:St}{H:Hp}{x:Str}{u:Value}{pos:Pos}{Q:Value->Shared->Prop}(I:Inv X pins σ H s)(hg:Gl X x)(hm:X.mg x=none)(hv:bootBuiltins x=some u)(h:Q u s)
  (hn:x≠"__name__":=by decide) (hd:(x==("__debug__" : Str))=false:=by decide):wpAny (model X.prog X.w) X.A (eval (.Name x pos) X.env) Q E s:=by
 obtain⟨mb,h1,h2⟩:=I.mod.blt
 exact Calls.Name_function_global I.ok.kind hg (Calls.loadGlobal_builtin (by rw[I.ok.glob];exact I.mod.glob.keeps I.bk) hm (by rw[I.ok.blt];exact h1.keeps I.bk) ((h2 x hn).trans hv) h) hd
theorem Iu{x:Str}{v:V}{u:Value}{pos:Pos}(hg:Gl X x)(hm:X.mg x=none)(hv:bootBuiltins x=some u)(r:RelV v u)(hn:x≠"__name__":=by decide)(hd:(x==("__debug__" : Str))=false:=by decide):PE X (.Name x pos) (tC v):=
 fun _ _ _ H _ I h=>Xy I hg hm hv ⟨v,H,I,r,h⟩ hn hd
variable {a b:Expr} {ta tb:TE} {pos:Pos}
def PC(X:Cx)(op:CmpOp)(a b:Expr)(t:TE):Prop:=
 ∀(pins:List (Addr×Obj))(s:Shared)(σ:St)(H:Hp)(Q:VK),Inv X pins σ H s->t σ H Q->
  wpAny (model X.prog X.w) X.A (eval a X.env) (fun v s₁=>wpAny (model X.prog X.w) X.A (eval b X.env) (fun u s₂=>wpAny (model X.prog X.w) X.A (compareOp op v u) (EP X pins σ Q) X.xe s₂) X.xe s₁) X.xe s
theorem Ko(b:Expr){op:CmpOp}(h:op≠.In)(h2:op≠.NotIn):behindInMarks op b=false:=by
 have e1:(op==CmpOp.In)=false:=by cases op<;>first | rfl | exact absurd rfl h
 have e2:(op==CmpOp.NotIn)=false:=by cases op<;>first | rfl | exact absurd rfl h2
 cases b<;>simp[behindInMarks,e1,e2]
def tB(t:TE):TT:=fun σ H Q=>t σ H fun x H1=>∃c,x = .bl c/\Q c H1
theorem pt_cmp{op:CmpOp}{t:TE}(h:PC X op a b t)(h1:behindInMarks op b=false:=by first | exact Ko _ (by decide) (by decide) | rfl):PT X (.Compare a [op] [b] pos) (tB t):=by
 intro pins s σ H Q I hw
 refine wpAny_isTrue_Compare1 (YT (h pins s σ H _ I hw) fun v s1 h1=>YT h1 fun u s2 h2=>YT h2 fun c s3 ⟨x,H1,I1,r1,q1⟩=>?_) h1
 obtain⟨d,rfl,q⟩:=q1
 cases r1
 exact wpAny_truthy_bool ⟨H1,I1,q⟩
theorem GV{e:Expr}{t:TE}(h:PE X e t)(he:∀whole,isTrue e X.env whole=(do let v <-whole;standAt e.pos;holding [v] (truthy v)):=by intro _;rfl):PT X e (tB t):=by
 intro pins s σ H Q I hw
 refine isTrue_plain (YT (h pins s σ H _ I hw) fun v s1 ⟨x,H1,I1,r1,q1⟩=>?_) (he _)
 obtain⟨d,rfl,q⟩:=q1
 cases r1
 exact wpAny_truthy_bool ⟨H1,I1,q⟩
variable {tA tB':TT} {Yh:List Expr}
def Ey(t u:TT):TT:=fun σ H Q=>t σ H fun c H1=>if c=true then u σ H1 Q else Q false H1
def Cj(t u:TT):TT:=fun σ H Q=>t σ H fun c H1=>if c=true then Q true H1 else u σ H1 Q
def DM(t:TT):TT:=fun σ H Q=>t σ H fun c H1=>Q (!c) H1
theorem Iv(ha:PT X a tA):PW X (.BoolOp .And [a] pos) tA:=by
 intro wh pins s σ H Q I h
 refine isTrue_and (YT (ha pins s σ H Q I h) fun c s1 e=>?_)
 cases c with
 | true=>exact isTrue_and_nil e
 | false=>exact e
theorem GW(ha:PT X a tA):PW X (.BoolOp .Or [a] pos) tA:=by
 intro wh pins s σ H Q I h
 refine isTrue_or (YT (ha pins s σ H Q I h) fun c s1 e=>?_)
 cases c with
 | false=>exact isTrue_or_nil e
 | true=>exact e
theorem GX(ha:PT X a tA)(hb:PW X (.BoolOp .And (b::Yh) pos) tB'):PW X (.BoolOp .And (a::b::Yh) pos) (Ey tA tB'):=by
 intro wh pins s σ H Q I h
 refine isTrue_and (YT (ha pins s σ H _ I h) fun c s1 ⟨H1,I1,q1⟩=>?_)
 cases c with
 | true=>exact hb wh pins s1 σ H1 Q I1 q1
 | false=>exact⟨H1,I1,q1⟩
theorem Ez(ha:PT X a tA)(hb:PW X (.BoolOp .Or (b::Yh) pos) tB'):PW X (.BoolOp .Or (a::b::Yh) pos) (Cj tA tB'):=by
 intro wh pins s σ H Q I h
 refine isTrue_or (YT (ha pins s σ H _ I h) fun c s1 ⟨H1,I1,q1⟩=>?_)
 cases c with
 | true=>exact⟨H1,I1,q1⟩
 | false=>exact hb wh pins s1 σ H1 Q I1 q1
theorem GY(ha:PT X a tA):PT X (.UnaryOp .Not a pos) (DM tA):=by
 intro pins s σ H Q I h
 exact isTrue_not (ha pins s σ H (fun c H1=>Q (!c) H1) I h)
def EA(ta tb:TE):TE:=fun σ H Q=>ta σ H fun x H1=>∃c,x = .bl c/\if c=true then tb σ H1 Q else Q (.bl false) H1
def EB(ta:TE):TE:=fun σ H Q=>ta σ H fun x H1=>∃c,x = .bl c/\Q (.bl (!c)) H1
theorem GZ{op}{t:TE}(h:PE X a t):PE X (.BoolOp op [a] pos) t:=fun pins s σ H Q I hw=>BoolOp_one (h pins s σ H Q I hw)
theorem G0(ha:PE X a ta)(hb:PE X (.BoolOp .And (b::Yh) pos) tb):PE X (.BoolOp .And (a::b::Yh) pos) (EA ta tb):=by
 intro pins s σ H Q I h
 refine BoolOp_and (YT (ha pins s σ H _ I h) fun v s1 ⟨x,H1,I1,r1,q1⟩=>?_)
 obtain⟨c,rfl,q1⟩:=q1
 cases r1
 refine wpAny_truthy_bool ?_
 cases c with
 | true=>exact hb pins s1 σ H1 Q I1 q1
 | false=>exact⟨.bl false,H1,I1,rfl,q1⟩
theorem G1(ha:PE X a ta):PE X (.UnaryOp .Not a pos) (EB ta):=by
 intro pins s σ H Q I h
 refine UnaryOp_ (YT (ha pins s σ H _ I h) fun v s1 ⟨x,H1,I1,r1,q1⟩=>?_)
 obtain⟨c,rfl,q1⟩:=q1
 cases r1
 exact not_of (wpAny_truthy_bool ⟨.bl (!c),H1,I1,rfl,q1⟩)
def Cu(t:TT)(ta tb:TE):TE:=fun σ H Q=>t σ H fun c H1=>if c=true then ta σ H1 Q else tb σ H1 Q
theorem Kp{c:Expr}(hc:PT X c tA)(ha:PE X a ta)(hb:PE X b tb):PE X (.IfExp c a b pos) (Cu tA ta tb):=by
 intro pins s σ H Q I h
 refine wpAny_IfExp (YT (hc pins s σ H _ I h) fun d s1 ⟨H1,I1,q1⟩=>?_)
 cases d with
 | true=>exact ha pins s1 σ H1 Q I1 q1
 | false=>exact hb pins s1 σ H1 Q I1 q1
end
def SqL(K:PySem.W.Frag)(H:Hp)(a:Addr)(xs:List V):Prop:=
 Rd H a (.lst xs)\/
  ∃(o:Obj) (its:Array Value) (n:Nat),K.lookup a=some o/\o.cls = .type "list"/\o.dict=none/\o.data = .seq its n/\its.size<=sizeLine/\Vals xs its.toList
def SqT(K:PySem.W.Frag)(H:Hp)(a:Addr)(xs:List V):Prop:=
 Rd H a (.tup xs)\/
  ∃(o:Obj) (its:Array Value) (n:Nat),K.lookup a=some o/\o.cls = .type "tuple"/\o.data = .seq its n/\its.size<=sizeLine/\Vals xs its.toList
def DN:Value->Option V
 | .none=>some .non
 | .bool b=>some (.bl b)
 | .int i _=>some (.int i)
 | .str x _=>some (.str x)
 | .bytes b _=>some (.byt b)
 | .float b _=>some (.flt b)
 | .ref a=>some (.ref a)
 | .type n=>some (.ty n)
 | _=>none
theorem RelV.abs{x:V}{u:Value}(r:RelV x u):DN u=some x:=by
 cases x with
 | non=>cases r;rfl
 | bl _=>cases r;rfl
 | int _=>obtain⟨t,rfl⟩:=r;rfl
 | str _=>obtain⟨t,rfl⟩:=r;rfl
 | byt _=>obtain⟨t,rfl⟩:=r;rfl
 | flt _=>obtain⟨t,rfl⟩:=r;rfl
 | ref _=>cases r;rfl
 | ty _=>cases r;rfl
theorem RelV.inj{x y:V}{u:Value}(r:RelV x u)(q:RelV y u):x=y:=Option.some.inj (r.abs.symm.trans q.abs)
theorem Vals.inj:∀{xs ys:List V}{us:List Value},Vals xs us->Vals ys us->xs=ys
 | _,_,_,.nil,.nil=>rfl
 | _,_,_,.cons r t,.cons r' t'=>by rw[r.inj r',Vals.inj t t']
section
variable {X:Cx} {pins:List (Addr×Obj)} {σ:St} {H:Hp} {s:Shared} {a:Addr} {xs ys:List V}
theorem SqL.of{K:PySem.W.Frag}(h:H a=some (.lst xs)):SqL K H a xs:=.inl (.inl h)
theorem SqT.of{K:PySem.W.Frag}(h:H a=some (.tup xs)):SqT K H a xs:=.inl (.inl h)
theorem Inv.list(I:Inv X pins σ H s)(h:SqL X.K H a xs):∃its:List Value,Vals xs its/\PlainL s.heap a its.toArray/\xs.length<=sizeLine:=by
 rcases h with h | ⟨o,its,n,hk,hc,hd,hs,hz,r⟩
 ·obtain⟨z,its,n,r,e⟩:=h.ok I.hok
  exact⟨its,r,⟨_,n,e,rfl,rfl,rfl⟩,z⟩
 ·refine⟨its.toList,r,⟨o,n,I.kIn a o hk,hc,hd,by simpa using hs⟩,?_⟩
  have e:=r.length;simp only[Array.length_toList] at e;omega
theorem Inv.tuple(I:Inv X pins σ H s)(h:SqT X.K H a xs):∃its:List Value,Vals xs its/\IsTup s.heap a its.toArray/\xs.length<=sizeLine:=by
 rcases h with h | ⟨o,its,n,hk,hc,hs,hz,r⟩
 ·obtain⟨z,its,r,p⟩:=h.ok I.hok
  exact⟨its,r,p,z.1⟩
 ·refine⟨its.toList,r,⟨o,I.kIn a o hk,hc,n,by simpa using hs⟩,?_⟩
  have e:=r.length;simp only[Array.length_toList] at e;omega
theorem Inv.list_inj(I:Inv X pins σ H s)(h:SqL X.K H a xs)(h':SqL X.K H a ys):xs=ys:=by
 obtain⟨its,r,⟨o,n,e,_,_,d⟩,_⟩:=I.list h
 obtain⟨its',r',⟨o',n',e',_,_,d'⟩,_⟩:=I.list h'
 rw[e] at e';cases e'
 rw[d] at d'
 injection d' with d1 _
 have:its=its':=by simpa using congrArg Array.toList d1
 subst this
 exact r.inj r'
theorem Inv.tuple_inj(I:Inv X pins σ H s)(h:SqT X.K H a xs)(h':SqT X.K H a ys):xs=ys:=by
 obtain⟨its,r,⟨o,e,_,n,d⟩,_⟩:=I.tuple h
 obtain⟨its',r',⟨o',e',_,n',d'⟩,_⟩:=I.tuple h'
 rw[e] at e';cases e'
 rw[d] at d'
 injection d' with d1 _
 have:its=its':=by simpa using congrArg Array.toList d1
 subst this
 exact r.inj r'
end
abbrev Cx.wish(X:Cx)(E:Value->Shared->Prop):Cx:={ X with xe:=E }
abbrev Cx.nox(X:Cx):Cx:=X.wish fun _ _=>False
theorem Cx.Ok.wish{X:Cx}(ok:X.Ok)(E:Value->Shared->Prop):(X.wish E).Ok:=
 ⟨ok.mod,ok.kind,ok.glob,ok.blt,ok.above,ok.inj,ok.has,ok.cab,ok.hd,ok.frames,ok.stk,ok.exf,ok.bs,ok.bsz,ok.noex,ok.exfs,ok.funs,ok.frf⟩
theorem Cx.Ok.unwish{X:Cx}{E:Value->Shared->Prop}(ok:(X.wish E).Ok):X.Ok:=
 ⟨ok.mod,ok.kind,ok.glob,ok.blt,ok.above,ok.inj,ok.has,ok.cab,ok.hd,ok.frames,ok.stk,ok.exf,ok.bs,ok.bsz,ok.noex,ok.exfs,ok.funs,ok.frf⟩
section
variable {X:Cx} {pins:List (Addr×Obj)} {σ:St} {H:Hp} {s:Shared} {E:Value->Shared->Prop}
theorem Inv.wish(I:Inv X pins σ H s)(E:Value->Shared->Prop):Inv (X.wish E) pins σ H s:=⟨I.ok.wish E,I.os,I.bare,I.base,I.loc,I.cell,I.free,I.freeC,I.pin,I.hok,I.len⟩
theorem Inv.unwish(I:Inv (X.wish E) pins σ H s):Inv X pins σ H s:=⟨I.ok.unwish,I.os,I.bare,I.base,I.loc,I.cell,I.free,I.freeC,I.pin,I.hok,I.len⟩
theorem SP.unwish{D:Uz}{f:Flow}{s':Shared}(h:SP (X.wish E) pins D f s'):SP X pins D f s':=by
 cases f with
 | next=>obtain⟨σ',H',I,q⟩:=h;exact⟨σ',H',I.unwish,q⟩
 | brk=>obtain⟨σ',H',I,q⟩:=h;exact⟨σ',H',I.unwish,q⟩
 | cont=>obtain⟨σ',H',I,q⟩:=h;exact⟨σ',H',I.unwish,q⟩
 | ret u=>obtain⟨v,σ',H',I,r,q⟩:=h;exact⟨v,σ',H',I.unwish,r,q⟩
theorem PSs.nox{st:List Stmt}{t:TS}(h:PSs X.nox st t):PSs X st t:=fun pins s σ H D I hw=>
 wpAny_mono (h pins s σ H D (I.wish _) hw) (fun _ _ q=>q.unwish) fun _ _ z=>False.elim z
end
section
variable {X:Cx} {st:Stmt} {Yh:List Stmt} {t u:TS} {e:Expr} {te:TE} {pos:Pos}
def Gp:TS:=fun D σ H=>D.nx σ H
def DO(t u:TS):TS:=fun D σ H=>t { D with nx:=u D } σ H
theorem Iw:PSs X [] Gp:=fun _ _ σ H _ I h=>wpAny_execs_nil ⟨σ,H,I,h⟩
theorem SV(h1:PS X st t)(h2:PSs X Yh u):PSs X (st::Yh) (DO t u):=by
 intro pins s σ H D I h
 refine wpAny_execs_cons (YT (h1 pins s σ H { D with nx:=u D } I h) fun f s1 q=>?_)
 cases f with
 | next=>
  obtain⟨σ',H',I',q⟩:=q
  exact h2 pins s1 σ' H' D I' q
 | ret v=>exact q
 | brk=>exact q
 | cont=>exact q
theorem Ml(h1:PS X st t):PSs X [st] t:=by
 intro pins s σ H D I h
 refine wpAny_execs_cons (YT (h1 pins s σ H D I h) fun f s1 q=>?_)
 cases f with
 | next=>exact wpAny_execs_nil q
 | ret v=>exact q
 | brk=>exact q
 | cont=>exact q
theorem Inv.quiet{pins:List (Addr×Obj)}{σ:St}{H:Hp}{s:Shared}(I:Inv X pins σ H s):interactive X.env=false:=by simp[interactive,I.ok.kind]
def Mm(te:TE):TS:=fun D σ H=>te σ H fun _ H1=>D.nx σ H1
theorem W4(he:PE X e te)(hs:swapsWith e none pos.line X.env=pure false:=by rfl):PS X (.Expr e pos) (Mm te):=by
 intro pins s σ H D I h
 exact wpAny_Expr_any (YT (he pins s σ H _ I h) fun v s1 ⟨x,H1,I1,r1,q1⟩=>⟨σ,H1,I1,q1⟩) I.quiet hs
def DP(te:TE):TS:=fun D σ H=>te σ H D.rt
theorem Kq(he:PE X e te):PS X (.Return (some e) pos) (DP te):=by
 intro pins s σ H D I h
 exact wpAny_Return_some (YT (he pins s σ H _ I h) fun v s1 ⟨x,H1,I1,r1,q1⟩=>⟨x,σ,H1,I1,r1,q1⟩)
def DQ(c:TT)(t u:TS):TS:=fun D σ H=>c σ H fun b H1=>if b=true then t D σ H1 else u D σ H1
theorem Gq{c:Expr}{a b:List Stmt}{tc:TT}(hc:PT X c tc)(ha:PSs X a t)(hb:PSs X b u):PS X (.If c a b pos) (DQ tc t u):=by
 intro pins s σ H D I h
 refine wpAny_If (YT (hc pins s σ H _ I h) fun d s1 ⟨H1,I1,q1⟩=>?_)
 cases d with
 | true=>exact ha pins s1 σ H1 D I1 q1
 | false=>exact hb pins s1 σ H1 D I1 q1
end
abbrev TG:=V->St->Hp->(St->Hp->Prop)->Prop
abbrev Gr:=List V->St->Hp->(St->Hp->Prop)->Prop
def PG(X:Cx)(target:Expr)(t:TG):Prop:=
 ∀(pins:List (Addr×Obj))(s:Shared)(σ:St)(H:Hp)(v:V)(u:Value)(Q:St->Hp->Prop),Inv X pins σ H s->RelV v u->t v σ H Q->
  wpAny (model X.prog X.w) X.A (assign target X.env u) (fun _ s'=>∃σ' H',Inv X pins σ' H' s'/\Q σ' H') X.xe s
def Dv(X:Cx)(ts:List Expr)(t:Gr):Prop:=
 ∀(pins:List (Addr×Obj))(s:Shared)(σ:St)(H:Hp)(vs:List V)(us:List Value)(Q:St->Hp->Prop),Inv X pins σ H s->Vals vs us->t vs σ H Q->
  wpAny (model X.prog X.w) X.A (assignInOrder ((assignEach ts X.env).map (·.2)) us) (fun _ s'=>∃σ' H',Inv X pins σ' H' s'/\Q σ' H') X.xe s
abbrev G3:=V->V->V->Hp->(Hp->Prop)->Prop
def EC(X:Cx)(t:G3):Prop:=
 ∀(pins:List (Addr×Obj))(s:Shared)(σ:St)(H:Hp)(o i v:V)(ov iv u:Value)(Q:Hp->Prop),Inv X pins σ H s->RelV o ov->RelV i iv->RelV v u->t o i v H Q->
  wpAny (model X.prog X.w) X.A (setItem ov iv u) (fun _ s'=>∃H',Inv X pins σ H' s'/\Q H') X.xe s
section
variable {X:Cx} {pos:Pos}
def US(i:Nat):TG:=fun v σ H Q=>Q (σ.set i (some v)) H
theorem Zx{i:Nat}{x:Str}(hN:X.N.Nodup)(hi:X.N[i]?=some x)(hx:Ew X.env.scope x)(hf:X.fn x=true\/X.env.scope.names.lookup x=some .local:=by first | exact .inl rfl | exact .inr rfl | assumption):PG X (.Name x pos) (US i):=by
 intro pins s σ H v u Q I r h
 exact wpAny_assign_Name (Vu I hN hi hx r (fun s' I'=>⟨_,H,I',h⟩) hf)
def ED:Gr:=fun vs σ H Q=>vs=[]/\Q σ H
def Gs(t:TG)(u:Gr):Gr:=fun vs σ H Q=>∃v r,vs=v::r/\t v σ H fun σ' H'=>u r σ' H' Q
theorem Wd:Dv X [] ED:=by
 intro pins s σ H vs us Q I r h
 obtain⟨e,h⟩:=h
 subst e;cases r
 exact assignInOrder_nil ⟨σ,H,I,h⟩
theorem Z9{e:Expr}{es:List Expr}{t:TG}{u:Gr}(h1:PG X e t)(h2:Dv X es u)
  (hs:(assignEach (e::es) X.env).map (·.2)=assign e X.env::(assignEach es X.env).map (·.2):=by rfl):Dv X (e::es) (Gs t u):=by
 intro pins s σ H vs us Q I r h
 obtain⟨v,vr,e1,h⟩:=h
 subst e1
 cases r with
 | cons r rr=>
  rw[hs]
  refine assignInOrder_cons (YT (h1 pins s σ H _ _ _ I r h) fun _ s1 ⟨σ1,H1,I1,q1⟩=>?_)
  exact h2 pins s1 σ1 H1 _ _ Q I1 rr q1
def EE(K:PySem.W.Frag)(n:Nat)(t:Gr):TG:=fun v σ H Q=>∃a xs,v = .ref a/\SqT K H a xs/\xs.length=n/\t xs σ H Q
theorem W5{es:List Expr}{k:Nat}{t:Gr}{n:Nat}(hc:X.calm=true)(h:Dv X es t)
  (hn:(assignEach es X.env).length=n:=by rfl) (hst:(assignEach es X.env).findIdx? (·.1)=none:=by rfl):PG X (.Tuple es k pos) (EE X.K n t):=by
 intro pins s σ H v u Q I r hw
 obtain⟨a,xs,e1,hq,hl,hw⟩:=hw
 subst e1;cases r
 obtain⟨its,rv,ht,hz⟩:=I.tuple hq
 refine assign_Tuple_tuple (I.ok.hd hc) ht (by simp[hn,<-hl,rv.length]) hst fun h' hx=>?_
 have I1:Inv X pins σ H { s with heap:=h' }:=I.kept (t':=s.toks) fun b o e=>hx b o (Nat.ne_of_lt (Heap.lt_size e)) e
 exact h pins _ σ H xs _ Q I1 (by simpa using rv) hw
def G4(to ti:TE)(t:G3):TG:=fun v σ H Q=>to σ H fun o H1=>ti σ H1 fun i H2=>t o i v H2 fun H3=>Q σ H3
theorem SW{o i:Expr}{to ti:TE}{t:G3}(ho:PE X o to)(hi:PE X i ti)(hs:EC X t)
  (ha:∀v,assign (.Subscript o i pos) X.env v=(do
   let ov <-holding [v] (eval o X.env)
   let iv <-holding [v,ov] (eval i X.env)
   standAt pos
   holding [v,ov,iv] (setItem ov iv v)
   release [v,ov,iv] []):=by intro _;rfl):PG X (.Subscript o i pos) (G4 to ti t):=by
 intro pins s σ H v u Q I r h;rw[ha]
 refine wpAny_bind (wpAny_holding (YT (ho pins s σ H _ I h) fun ov s1 ⟨x,H1,I1,r1,q1⟩=>?_))
 refine wpAny_bind (wpAny_holding (YT (hi pins s1 σ H1 _ I1 q1) fun iv s2 ⟨y,H2,I2,r2,q2⟩=>?_))
 refine wpAny_bind (wpAny_standAt (wpAny_bind (wpAny_holding (YT (hs pins s2 σ H2 x y v ov iv u _ I2 r1 r2 r q2) fun _ s3 ⟨H3,I3,q3⟩=>?_))))
 exact wpAny_release ⟨σ,H3,I3,q3⟩
def QW(te:TE)(g:TG):TS:=fun D σ H=>te σ H fun x H1=>g x σ H1 D.nx
theorem UA{tg e:Expr}{te:TE}{g:TG}(he:PE X e te)(hg:PG X tg g)(hs:swapsWithSole [tg] e pos.line X.env=pure false:=by rfl)(hw:swappedStores [tg] e X.env=pure none:=by rfl)
  (h1:(assignEach [tg] X.env).map (·.2)=[assign tg X.env]:=by rfl):PS X (.Assign [tg] e pos) (QW te g):=by
 intro pins s σ H D I h
 refine wpAny_Assign_stores (YT (he pins s σ H _ I h) fun v s1 ⟨x,H1,I1,r1,q1⟩=>?_) hs hw
 rw[h1]
 exact YT (hg pins s1 σ H1 x v _ I1 r1 q1) fun _ s2 q=>q
theorem Kr{i:Nat}{x:Str}{e:Expr}{te:TE}{pos':Pos}(hN:X.N.Nodup)(hi:X.N[i]?=some x)(hx:Ew X.env.scope x)(he:PE X e te)(hs:swapsWith e (some (.Name x pos')) pos.line X.env=pure false:=by rfl)(hf:X.fn x=true\/X.env.scope.names.lookup x=some .local:=by first | exact .inl rfl | exact .inr rfl | assumption) :
  PS X (.Assign [.Name x pos'] e pos) (QW te (US i)):=by
 intro pins s σ H D I h
 refine wpAny_Assign_Name (YT (he pins s σ H _ I h) fun v s1 ⟨y,H1,I1,r1,q1⟩=>?_) hs
 exact Vu I1 hN hi hx r1 (fun s2 I2=>⟨_,H1,I2,q1⟩) hf
end
structure It where
 go:Nat->Hp->Prop
 yld:Nat->Hp->V->Hp->Prop
 stop:Nat->Hp->Prop
def W7(X:Cx)(pins:List (Addr×Obj))(H:Hp)(b:Addr):Prop:=
 H b=none/\b≠X.env.locals/\b∉X.fs/\(b∈X.ex\/X.s₀.heap.objs.size<=b)/\(∀x c,X.env.cells.lookup x=some c->c≠b)/\∀p∈X.pn++pins,p.1≠b
theorem Inv.fpOk{X:Cx}{pins:List (Addr×Obj)}{σ:St}{H H':Hp}{s:Shared}{b:Addr}(I:Inv X pins σ H s)(hb:s.heap.objs.size<=b)(hn:H' b=none):W7 X pins H' b:=by
 refine⟨hn,Nat.ne_of_gt (Nat.lt_of_lt_of_le I.lt hb),I.nofs hb,.inr (Nat.le_trans I.sz hb),fun x c e z=>?_,fun p hp z=>?_⟩
 ·obtain⟨v,q⟩:=I.cell x c e
  exact absurd (Nat.lt_of_lt_of_le q.lt (by rw[z];exact hb)) (Nat.lt_irrefl _)
 ·exact absurd (Nat.lt_of_lt_of_le (Heap.lt_size (I.pin p hp).1) (by rw[z];exact hb)) (Nat.lt_irrefl _)
structure P0(P:Program)(w:World)(K:PySem.W.Frag)(tg:Expr)(J:It)(fp:List Addr)(it:Addr)(tn:Nat->Heap->Prop):Prop where
 mem:it∈fp
 obj:∀i h,tn i h->∀b∈fp,∃o,h.get? b=some o/\∀v,o.data≠.cell v
 keep:∀i h h',tn i h->(∀b∈fp,∀o,h.get? b=some o->h'.get? b=some o)->tn i h'
 item:∀(X:Cx),X.prog=P->X.w=w->X.K=K->X.calm=true->∀(i:Nat)(pins:List (Addr×Obj))(s:Shared)(σ:St)(H:Hp)(E:Value->Shared->Prop),Inv X pins σ H s->(∀b∈fp,W7 X pins H b)->tn i s.heap->J.go i H->
  wpAny (model P w) X.A (pyNext (.ref it)) (fun r s1=>∃u,r=some u/\
   wpAny (model P w) X.A (letOwnedTupleGo tg (.ref it) u) (fun _ s2=>∃x H',Inv X pins σ H' s2/\RelV x u/\J.yld i H x H'/\tn (i+1) s2.heap/\∀b∈fp,H' b=none) E s1) E s
 done:∀(X:Cx),X.prog=P->X.w=w->X.K=K->X.calm=true->∀(i:Nat)(pins:List (Addr×Obj))(s:Shared)(σ:St)(H:Hp)(E:Value->Shared->Prop),Inv X pins σ H s->(∀b∈fp,W7 X pins H b)->tn i s.heap->J.stop i H->
  wpAny (model P w) X.A (pyNext (.ref it)) (fun r s1=>r=none/\Inv X pins σ H s1) E s
 self:∀(A:Around)(i:Nat)(s:Shared)(Q:Value->Shared->Prop)(E:Value->Shared->Prop),tn i s.heap->Q (.ref it) s->wpAny (model P w) A (pyIter (.ref it)) Q E s
abbrev TI:=St->Hp->(It->Hp->Prop)->Prop
def Ck(X:Cx)(pins:List (Addr×Obj))(σ:St)(tg:Expr)(R:It->Hp->Prop)(itv:Value)(s2:Shared):Prop:=
 ∃(it:Addr) (fp:List Addr) (tn:Nat->Heap->Prop) (J:It) (H':Hp),itv = .ref it/\Inv X pins σ H' s2/\P0 X.prog X.w X.K tg J fp it tn/\tn 0 s2.heap/\(∀b∈fp,W7 X pins H' b)/\R J H'
def PI(X:Cx)(tg iter:Expr)(wi:TI):Prop:=
 ∀(pins:List (Addr×Obj))(s:Shared)(σ:St)(H:Hp)(R:It->Hp->Prop),Inv X pins σ H s->wi σ H R->
  wpAny (model X.prog X.w) X.A (eval iter X.env) (fun v s1=>wpAny (model X.prog X.w) X.A (pyIter v) (Ck X pins σ tg R) X.xe s1) X.xe s
theorem Ks{M:Model}{A:Around}{E:Value->Shared->Prop}{s:Shared}{tg:Expr}{it:Addr}{u:Value}{o:Obj}{n:String}{vs:Array Value}{Q:Unit->Shared->Prop}(ho:s.heap.get? it=some o)(hc:o.cls = .type n)(hd:o.data = .fields vs)
    (hn:["enumerate","zip","dict_itemiterator","dict_reverseitemiterator","odict_iterator","itertools.zip_longest","itertools.pairwise"].contains n=false) (hQ:Q () s):wpAny M A (letOwnedTupleGo tg (.ref it) u) Q E s:=by
  unfold letOwnedTupleGo
  cases tg<;>first
    | exact wpAny_pure hQ
    | (cases u<;>first
        | exact wpAny_pure hQ
        | (refine wpAny_bind (wpAny_load ho ?_)
           rw[hc,hd]
           show wpAny M A (if(["enumerate","zip","dict_itemiterator","dict_reverseitemiterator","odict_iterator","itertools.zip_longest","itertools.pairwise"].contains n&&vs[0]?==some (rawInt _))=true then _ else _) Q E s
           rw[if_neg (by intro h;rw[hn,Bool.false_and] at h;cases h)]
           exact wpAny_pure hQ))
def DR(K:PySem.W.Frag)(a:Addr):It:=
 ⟨fun i H=>∃xs x,SqL K H a xs/\xs[i]?=some x,fun i H x H'=>H'=H/\∀xs,SqL K H a xs->xs[i]?=some x,fun i H=>∃xs,SqL K H a xs/\xs.length<=i⟩
def Cm(K:PySem.W.Frag)(a:Addr):It:=
 ⟨fun i H=>∃xs x,SqT K H a xs/\xs[i]?=some x,fun i H x H'=>H'=H/\∀xs,SqT K H a xs->xs[i]?=some x,fun i H=>∃xs,SqT K H a xs/\xs.length<=i⟩
def EF(lo:Int)(n:Nat):It:=⟨fun i _=>i<n,fun i H x H'=>H'=H/\x = .int (lo+i),fun i _=>n<=i⟩
theorem La{P:Program}{w:World}{K:PySem.W.Frag}{tg:Expr}(a it:Addr):P0 P w K tg (DR K a) [it] it (fun i h=>h.IsListIter it a i) where
 mem:=by simp
 obj:=fun i h st b hb=>by
  have e:b=it:=by simpa using hb
  subst e
  obtain⟨o,e,c,d⟩:=st
  exact⟨o,e,fun v z=>by rw[d] at z;cases z⟩
 keep:=fun i h h' st k=>st.at fun o e=>k it (by simp) o e
 item:=by
  intro X hP hw hK hc i pins s σ H E I hf st hg
  subst hP hw hK
  obtain⟨xs,x,hq,hx⟩:=hg
  obtain⟨its,rv,p,hz⟩:=I.list hq
  obtain⟨u,hu,ru⟩:=rv.get hx
  obtain⟨f0,f1,f2,f3,f4,f5⟩:=hf it (by simp)
  refine wpAny_pyNext_list_item st p.isList (x:=u) (by simpa using hu) fun h' st' sb=>?_
  have I1:Inv X pins σ H { s with heap:=h' }:=I.turned (t':=s.toks) (fun b o hb e=>(sb.2 b hb).trans e) f0 f1 f3 f4 f5
  obtain⟨o,e,c,d⟩:=id st'
  exact⟨u,rfl,Ks (s:={ s with heap:=h' }) e c d (by decide) ⟨x,H,I1,ru,⟨rfl,fun ys hy=>by rw[I.list_inj hy hq];exact hx⟩,st',fun b hb=>(hf b hb).1⟩⟩
 done:=by
  intro X hP hw hK hc i pins s σ H E I hf st hg
  subst hP hw hK
  obtain⟨xs,hq,hx⟩:=hg
  obtain⟨its,rv,p,hz⟩:=I.list hq
  obtain⟨f0,f1,f2,f3,f4,f5⟩:=hf it (by simp)
  have hl:=rv.length
  exact wpAny_pyNext_list_end (I.ok.hd hc) st p.isList (by simp;omega) fun h' eb=>⟨rfl,I.turned (t':=s.toks) (fun b o hb e=>eb b o hb e) f0 f1 f3 f4 f5⟩
 self:=fun _ _ _ _ _ st h=>wpAny_pyIter_listiter st h
theorem Nn{P:Program}{w:World}{K:PySem.W.Frag}{tg:Expr}(a it:Addr):P0 P w K tg (Cm K a) [it] it (fun i h=>h.IsTupleIter it a i) where
 mem:=by simp
 obj:=fun i h st b hb=>by
  have e:b=it:=by simpa using hb
  subst e
  obtain⟨o,e,c,d⟩:=st
  exact⟨o,e,fun v z=>by rw[d] at z;cases z⟩
 keep:=fun i h h' st k=>st.at fun o e=>k it (by simp) o e
 item:=by
  intro X hP hw hK hc i pins s σ H E I hf st hg
  subst hP hw hK
  obtain⟨xs,x,hq,hx⟩:=hg
  obtain⟨its,rv,p,hz⟩:=I.tuple hq
  obtain⟨u,hu,ru⟩:=rv.get hx
  obtain⟨f0,f1,f2,f3,f4,f5⟩:=hf it (by simp)
  refine wpAny_pyNext_tuple_item st (show s.heap.IsTuple a its.toArray from p) (x:=u) (by simpa using hu) fun h' st' sb=>?_
  have I1:Inv X pins σ H { s with heap:=h' }:=I.turned (t':=s.toks) (fun b o hb e=>(sb.2 b hb).trans e) f0 f1 f3 f4 f5
  obtain⟨o,e,c,d⟩:=id st'
  exact⟨u,rfl,Ks (s:={ s with heap:=h' }) e c d (by decide) ⟨x,H,I1,ru,⟨rfl,fun ys hy=>by rw[I.tuple_inj hy hq];exact hx⟩,st',fun b hb=>(hf b hb).1⟩⟩
 done:=by
  intro X hP hw hK hc i pins s σ H E I hf st hg
  subst hP hw hK
  obtain⟨xs,hq,hx⟩:=hg
  obtain⟨its,rv,p,hz⟩:=I.tuple hq
  obtain⟨f0,f1,f2,f3,f4,f5⟩:=hf it (by simp)
  have hl:=rv.length
  exact wpAny_pyNext_tuple_end (I.ok.hd hc) st (show s.heap.IsTuple a its.toArray from p) (by simp;omega) fun h' eb=>⟨rfl,I.turned (t':=s.toks) (fun b o hb e=>eb b o hb e) f0 f1 f3 f4 f5⟩
 self:=fun _ _ _ _ _ st h=>wpAny_pyIter_tupleiter st h
theorem Np{P:Program}{w:World}{K:PySem.W.Frag}{tg:Expr}(it:Addr)(lo:Int)(n:Nat):P0 P w K tg (EF lo n) [it] it (fun i h=>IsRangeIter h it (lo+(i:Nat)*1) ((n:Int)-(i:Nat)) 1) where
 mem:=by simp
 obj:=fun i h st b hb=>by
  have e:b=it:=by simpa using hb
  subst e
  exact⟨_,st,fun v z=>by
   have z':Data.fields _=Data.cell v:=z
   cases z'⟩
 keep:=fun i h h' st k=>k it (by simp) _ st
 item:=by
  intro X hP hw hK hc i pins s σ H E I hf st hg
  subst hP hw hK
  obtain⟨f0,f1,f2,f3,f4,f5⟩:=hf it (by simp)
  have W:=Walks.range (prog:=X.prog) (w:=X.w) (I.ok.hd hc) it lo 1 n
  refine W.item i s _ _ hg st fun v h' tk hv st' kk=>?_
  obtain⟨t,rfl⟩:=hv
  have I1:Inv X pins σ H { s with heap:=h',toks:=tk }:=I.turned (fun b o hb e=>kk b o (by simpa using hb) e) f0 f1 f3 f4 f5
  refine⟨_,rfl,Ks (s:={ s with heap:=h',toks:=tk }) (n:="range_iterator") st' rfl rfl (by decide) ⟨.int (lo+i),H,I1,⟨t,?_⟩,⟨rfl,rfl⟩,st',fun b hb=>(hf b hb).1⟩⟩
  rw[Int.mul_one]
 done:=by
  intro X hP hw hK hc i pins s σ H E I hf st hg
  subst hP hw hK
  obtain⟨f0,f1,f2,f3,f4,f5⟩:=hf it (by simp)
  exact wpAny_pyNext_range_end (I.ok.hd hc) st (by have:n<=i:=hg;omega) fun h' eb=>⟨rfl,I.turned (t':=s.toks) (fun b o hb e=>eb b o hb e) f0 f1 f3 f4 f5⟩
 self:=fun _ _ _ _ _ st h=>wpAny_pyIter_rangeiter st h
section
variable {X:Cx} {tg:Expr}
def EG(K:PySem.W.Frag)(tl:TE):TI:=fun σ H R=>tl σ H fun x H1=>∃a,x = .ref a/\(∃xs,SqL K H1 a xs)/\R (DR K a) H1
def DS(K:PySem.W.Frag)(tl:TE):TI:=fun σ H R=>tl σ H fun x H1=>∃a,x = .ref a/\(∃xs,SqT K H1 a xs)/\R (Cm K a) H1
theorem Iy{l:Expr}{tl:TE}(hl:PE X l tl):PI X tg l (EG X.K tl):=by
 intro pins s σ H R I h
 refine YT (hl pins s σ H _ I h) fun v s1 ⟨x,H1,I1,r1,q1⟩=>?_
 obtain⟨a,e,⟨xs,hq⟩,q⟩:=q1
 subst e;cases r1
 obtain⟨its,rv,p,hz⟩:=I1.list hq
 refine wpAny_pyIter_list p.isList ?_
 refine⟨s1.heap.objs.size,[s1.heap.objs.size],_,_,H1,rfl,I1.kept (t':=s1.toks) fun b o e=>Heap.get?_push_of_some _ e,La a _,⟨_,Heap.get?_push_size _ rfl,rfl,rfl⟩,fun b hb=>?_,q⟩
 have e:b=s1.heap.objs.size:=by simpa using hb
 subst e
 exact I1.fpOk (Nat.le_refl _) (I1.hok.fresh (Nat.le_refl _))
theorem G5{l:Expr}{tl:TE}(hl:PE X l tl):PI X tg l (DS X.K tl):=by
 intro pins s σ H R I h
 refine YT (hl pins s σ H _ I h) fun v s1 ⟨x,H1,I1,r1,q1⟩=>?_
 obtain⟨a,e,⟨xs,hq⟩,q⟩:=q1
 subst e;cases r1
 obtain⟨its,rv,p,hz⟩:=I1.tuple hq
 refine wpAny_pyIter_tuple (show s1.heap.IsTuple a its.toArray from p) ?_
 refine⟨s1.heap.objs.size,[s1.heap.objs.size],_,_,H1,rfl,I1.kept (t':=s1.toks) fun b o e=>Heap.get?_push_of_some _ e,Nn a _,⟨_,Heap.get?_push_size _ rfl,rfl,rfl⟩,fun b hb=>?_,q⟩
 have e:b=s1.heap.objs.size:=by simpa using hb
 subst e
 exact I1.fpOk (Nat.le_refl _) (I1.hok.fresh (Nat.le_refl _))
theorem P4{pins:List (Addr×Obj)}{σ:St}{H:Hp}{s:Shared}{R:It->Hp->Prop}{E:Value->Shared->Prop}{lo hi:Int}{t u v:Tok}{tk:Nat}(I:Inv X pins σ H s)(h1 : -(2^62)<=lo)(h2:lo<2^62)(h3 : -(2^62)<=hi)(h4:hi<2^62)
  (q:R (EF lo (hi-lo).toNat) H):wpAny (model X.prog X.w) X.A (pyIter (.ref s.heap.objs.size)) (Ck X pins σ tg R) E { s with heap:=s.heap.push { cls:=.type "range",data:=.fields #[.int lo t,.int hi u,.int 1 v] },toks:=tk }:=by
 refine wpAny_pyIter_range (IsRange.new ..) (small_one h1 h2 h3 h4) ?_
 have I1:Inv X pins σ H { s with heap:=s.heap.push { cls:=.type "range",data:=.fields #[.int lo t,.int hi u,.int 1 v] },toks:=tk }:=I.kept fun b o e=>Heap.get?_push_of_some _ e
 refine⟨(s.heap.push { cls:=.type "range",data:=.fields #[.int lo t,.int hi u,.int 1 v] }).objs.size,[(s.heap.push { cls:=.type "range",data:=.fields #[.int lo t,.int hi u,.int 1 v] }).objs.size],_,_,H,rfl,
  I1.kept (t':=tk) fun b o e=>Heap.get?_push_of_some _ e,Np _ lo (hi-lo).toNat,?_,fun b hb=>?_,q⟩
 ·have e1:lo+((0:Nat):Int)*1=lo:=by simp
  have e2:(((hi-lo).toNat:Nat):Int)-((0:Nat):Int)=Builtin.Range.rangeSize lo hi 1:=by rw[rangeSize_one];split<;>omega
  show IsRangeIter _ _ (lo+((0:Nat):Int)*1) ((((hi-lo).toNat:Nat):Int)-((0:Nat):Int)) 1
  rw[e1,e2]
  exact Heap.get?_push_size _ rfl
 ·have e:b=(s.heap.push { cls:=.type "range",data:=.fields #[.int lo t,.int hi u,.int 1 v] }).objs.size:=by simpa using hb
  subst e
  exact I1.fpOk (Nat.le_refl _) (I1.hok.fresh (Nat.le_refl _))
def EH(ta:TA):TI:=fun σ H R=>ta σ H fun vs H1=>∃j:Int,vs=[.int j]/\-(2^62)<=j/\j<2^62/\R (EF 0 j.toNat) H1
def EI(ta:TA):TI:=fun σ H R=>ta σ H fun vs H1=>∃i j:Int,vs=[.int i,.int j]/\(-(2^62)<=i/\i<2^62/\-(2^62)<=j/\j<2^62)/\R (EF i (j-i).toNat) H1
theorem Lb{a:Expr}{ta:TA}{p pos:Pos}(hg:Gl X "range")(hm:X.mg "range" = none)(ha:PA X [a] ta)(hs:starEach [a] X.env=[(false,eval a X.env)]:=by rfl):PI X tg (.Call (.Name "range" p) [a] [] pos) (EH ta):=by
 intro pins s σ H R I h
 refine Call_ (Xy I hg hm boot_range (PyProof.Rows.callWith_type1 (YT (ha pos pins s σ H _ I h) fun us s1 ⟨vs,H1,I1,r1,q1⟩=>?_) hs rfl))
 obtain⟨j,e,q1,q2,q⟩:=q1
 subst e
 cases r1 with
 | cons r rr=>
  cases rr
  obtain⟨t,rfl⟩:=r
  exact call_range_1 (P4 I1 (by omega) (by omega) q1 q2 (by simpa using q))
theorem Lc{a b:Expr}{ta:TA}{p pos:Pos}(hg:Gl X "range")(hm:X.mg "range" = none)(ha:PA X [a,b] ta)(hs:starEach [a,b] X.env=[(false,eval a X.env),(false,eval b X.env)]:=by rfl)(hs2:starEach [b] X.env=[(false,eval b X.env)]:=by rfl) :
  PI X tg (.Call (.Name "range" p) [a,b] [] pos) (EI ta):=by
 intro pins s σ H R I h
 refine Call_ (Xy I hg hm boot_range (PyProof.Rows.callWith_type1 (YT (ha pos pins s σ H _ I h) fun us s1 ⟨vs,H1,I1,r1,q1⟩=>?_) (by rw[hs,hs2]) (by rw[hs2];rfl)))
 obtain⟨i,j,e,⟨q1,q2,q3,q4⟩,q⟩:=q1
 subst e
 cases r1 with
 | cons r rr=>
  cases rr with
  | cons r' rr=>
   cases rr
   obtain⟨t,rfl⟩:=r
   obtain⟨t',rfl⟩:=r'
   exact call_range_2 (P4 I1 q1 q2 q3 q4 q)
def DT(wi:TI)(g:TG)(tb:TS):TS:=fun D σ H=>wi σ H fun J H1=>∃W:Nat->Nat->St->Hp->Prop,(∃m,W 0 m σ H1)/\∀i m σ H,W i m σ H->
 (J.stop i H/\D.nx σ H)\/(J.go i H/\∃N:St->Hp->Prop,(∀σ' H',N σ' H'->∃m',m'<m/\W (i+1) m' σ' H')/\∀x H',J.yld i H x H'->g x σ H' fun σ2 H2=>tb { D with nx:=N,ct:=N,bk:=D.nx } σ2 H2)
def Vv(fp:List Addr)(h:Heap):List (Addr×Obj):=fp.filterMap fun b=>(h.get? b).map fun o=>(b,o)
theorem XW{fp:List Addr}{h:Heap}{b:Addr}{o:Obj}(hb:b∈fp)(e:h.get? b=some o):(b,o)∈Vv fp h:=List.mem_filterMap.mpr ⟨b,hb,by rw[e];rfl⟩
theorem Ld{fp:List Addr}{h:Heap}{p:Addr×Obj}(hp:p∈Vv fp h):p.1∈fp/\h.get? p.1=some p.2:=by
 obtain⟨b,hb,e⟩:=List.mem_filterMap.mp hp
 cases q:h.get? b with
 | none=>rw[q] at e;cases e
 | some o=>
  rw[q] at e
  have e':(b,o)=p:=Option.some.inj e
  subst e'
  exact⟨hb,q⟩
theorem Inv.pinned{pins:List (Addr×Obj)}{σ:St}{H:Hp}{s:Shared}{fp:List Addr}(I:Inv X pins σ H s)(hf:∀b∈fp,W7 X pins H b)(ho:∀b∈fp,∃o,s.heap.get? b=some o/\∀v,o.data≠.cell v):Inv X (pins++Vv fp s.heap) σ H s:=
 I.pins_of fun p hp=>(List.mem_append.mp hp).elim (fun z=>I.pin p (List.mem_append_right _ z)) fun z=>by
  obtain⟨hb,e⟩:=Ld z
  obtain⟨f0,f1,f2,_⟩:=hf p.1 hb
  obtain⟨o,e',d⟩:=ho p.1 hb
  rw[e] at e';cases e'
  exact⟨e,f0,f1,f2,d⟩
theorem Inv.unpinned{pins pl:List (Addr×Obj)}{σ:St}{H:Hp}{s:Shared}(I:Inv X (pins++pl) σ H s):Inv X pins σ H s:=I.pins_of fun p hp=>I.pin p (List.mem_append_right _ (List.mem_append_left _ hp))
theorem G6{iter:Expr}{body:List Stmt}{wi:TI}{g:TG}{tb:TS}{pos:Pos}(hp:PassesOwn (model X.prog X.w) X.A X.env X.xe)(hc:X.calm=true)(hi:PI X tg iter wi)(hg:PG X tg g)(hb:PSs X body tb)
  (hs:∀x,foldedSetIterable iter X.env x=pure x:=by intro _;rfl):PS X (.For tg iter body [] pos) (DT wi g tb):=by
 intro pins s σ H D I h
 refine wpAny_For (YT (hi pins s σ H _ I h) fun v s1 h1=>YT h1 fun itv s2 h2=>?_) hs
 obtain⟨it,fp,tn,J,H2,e,I2,T,st2,f2,W,⟨m0,w0⟩,turn⟩:=h2
 subst e
 -- what stays true of the iterator's objects through the loop
 have stat:∀{H':Hp},(∀b∈fp,H' b=none)->∀b∈fp,W7 X pins H' b:=fun hn b hb=>⟨hn b hb,(f2 b hb).2⟩
 refine codeAny_forLoop_any (fun n s'=>∃i σ' H',Inv X pins σ' H' s'/\tn i s'.heap/\(∀b∈fp,H' b=none)/\W i n σ' H') ?_ m0 ⟨0,σ,H2,I2,st2,fun b hb=>(f2 b hb).1,w0⟩
 rintro n s3 ⟨i,σ3,H3,I3,st3,fr3,w3⟩
 rcases turn i n σ3 H3 w3 with⟨stop,qn⟩ | ⟨go,N,hN,step⟩
 ·refine wpAny_passesOwn hp (YT (T.done X rfl rfl rfl hc i pins s3 σ3 H3 X.xe I3 (stat fr3) st3 stop) fun r s4 ⟨hr,I4⟩=>?_)
  subst hr
  exact wpAny_execs_nil ⟨σ3,H3,I4,qn⟩
 ·refine wpAny_passesOwn hp (YT (T.item X rfl rfl rfl hc i pins s3 σ3 H3 X.xe I3 (stat fr3) st3 go) fun r s4 ⟨u,hr,h4⟩=>?_)
  subst hr
  refine wpAny_passesOwn hp (YT h4 fun _ s5 ⟨x,H5,I5,r5,y5,st5,fr5⟩=>?_)
  have I5':=I5.pinned (stat fr5) (T.obj _ _ st5)
  refine wpAny_passesOwn hp (YT (hg _ s5 σ3 H5 x u _ I5' r5 (step x H5 y5)) fun _ s6 ⟨σ6,H6,I6,q6⟩=>?_)
  refine wpAny_passesOwn hp (YT (hb _ s6 σ6 H6 _ I6 q6) fun f s7 q7=>?_)
  have again:∀{σ7:St}{H7:Hp},Inv X (pins++Vv fp s5.heap) σ7 H7 s7->N σ7 H7->∃m,m<n/\∃i σ' H',Inv X pins σ' H' s7/\tn i s7.heap/\(∀b∈fp,H' b=none)/\W i m σ' H':=fun{σ7 H7} I7 n7=>by
   obtain⟨m',hm,w7⟩:=hN σ7 H7 n7
   refine⟨m',hm,i+1,σ7,H7,I7.unpinned,T.keep _ _ _ st5 fun b hb o e=>(I7.pin (b,o) (List.mem_append_right _ (List.mem_append_right _ (XW hb e)))).1,fun b hb=>?_,w7⟩
   obtain⟨o,e,d⟩:=T.obj _ _ st5 b hb
   exact(I7.pin (b,o) (List.mem_append_right _ (List.mem_append_right _ (XW hb e)))).2.1
  cases f with
  | next=>obtain⟨σ7,H7,I7,n7⟩:=q7;exact again I7 n7
  | cont=>obtain⟨σ7,H7,I7,n7⟩:=q7;exact again I7 n7
  | brk=>obtain⟨σ7,H7,I7,q7⟩:=q7;exact⟨σ7,H7,I7.unpinned,q7⟩
  | ret v=>obtain⟨x7,σ7,H7,I7,r7,q7⟩:=q7;exact⟨x7,σ7,H7,I7.unpinned,r7,q7⟩
end
abbrev R2:=V->V->Hp->VK->Prop
def UB(X:Cx)(f:Value->Value->Sem Value)(r:R2):Prop:=
 ∀(pins:List (Addr×Obj))(s:Shared)(σ:St)(H:Hp)(x y:V)(v u:Value)(Q:VK),Inv X pins σ H s->RelV x v->RelV y u->r x y H Q->
  wpAny (model X.prog X.w) X.A (f v u) (EP X pins σ Q) X.xe s
def DU(X:Cx)(f:Value->Sem Value)(r:V->Hp->VK->Prop):Prop:=
 ∀(pins:List (Addr×Obj))(s:Shared)(σ:St)(H:Hp)(x:V)(v:Value)(Q:VK),Inv X pins σ H s->RelV x v->r x H Q->
  wpAny (model X.prog X.w) X.A (f v) (EP X pins σ Q) X.xe s
def XQ(X:Cx)(f:Value)(r:List V->Hp->VK->Prop):Prop:=
 ∀(pins:List (Addr×Obj))(s:Shared)(σ:St)(H:Hp)(xs:List V)(us:List Value)(Q:VK),Inv X pins σ H s->Vals xs us->r xs H Q->
  wpAny (model X.prog X.w) X.A (call f us) (EP X pins σ Q) X.xe s
def DV(X:Cx)(r:V->Hp->(Bool->Hp->Prop)->Prop):Prop:=
 ∀(pins:List (Addr×Obj))(s:Shared)(σ:St)(H:Hp)(x:V)(v:Value)(Q:Bool->Hp->Prop),Inv X pins σ H s->RelV x v->r x H Q->
  wpAny (model X.prog X.w) X.A (truthy v) (TP X pins σ Q) X.xe s
def En(r:R2)(ta tb:TE):TE:=fun σ H Q=>ta σ H fun x H1=>tb σ H1 fun y H2=>r x y H2 Q
def Cv(r:V->Hp->VK->Prop)(ta:TE):TE:=fun σ H Q=>ta σ H fun x H1=>r x H1 Q
def rI(C:Int->Int->Prop)(g:Int->Int->V):R2:=fun x y H Q=>∃i j,x = .int i/\y = .int j/\C i j/\Q (g i j) H
def Io(g:Int->Int->V):R2:=fun x y H Q=>∃i j,x = .int i/\y = .int j/\Q (g i j) H
def rU(g:Int->V):V->Hp->VK->Prop:=fun x H Q=>∃i,x = .int i/\Q (g i) H
section
variable {X:Cx} {a b c:Expr} {ta tb tc:TE} {pos:Pos}
theorem G7(ha:PE X a ta)(hb:PE X b tb){pins:List (Addr×Obj)}{s:Shared}{σ:St}{H:Hp}{R:V->V->Hp->Prop}(I:Inv X pins σ H s)
  (h:ta σ H fun x H1=>tb σ H1 fun y H2=>R x y H2) {Q:Value->Shared->Prop} {f:Value->Value->Sem Value}
  (hf:∀v u s2 x y H2,Inv X pins σ H2 s2->RelV x v->RelV y u->R x y H2->wpAny (model X.prog X.w) X.A (f v u) Q X.xe s2) :
  wpAny (model X.prog X.w) X.A (eval a X.env) (fun v s₁=>wpAny (model X.prog X.w) X.A (eval b X.env) (fun u s₂=>wpAny (model X.prog X.w) X.A (f v u) Q X.xe s₂) X.xe s₁) X.xe s:=by
 refine YT (ha pins s σ H _ I h) fun v s1 ⟨x,H1,I1,r1,q1⟩=>?_
 refine YT (hb pins s1 σ H1 _ I1 q1) fun u s2 ⟨y,H2,I2,r2,q2⟩=>?_
 exact hf v u s2 x y H2 I2 r1 r2 q2
theorem Kt{op:Operator}{r:R2}(ho:UB X (binaryOp op) r)(ha:PE X a ta)(hb:PE X b tb):PE X (.BinOp a op b pos) (En r ta tb):=by
 intro pins s σ H Q I h
 exact wpAny_BinOp (G7 ha hb I h fun v u s2 x y H2 I2 rx ry q=>ho pins s2 σ H2 x y v u Q I2 rx ry q)
theorem EJ{op:UnaryOp}{r:V->Hp->VK->Prop}(ho:DU X (unaryOp op) r)(ha:PE X a ta):PE X (.UnaryOp op a pos) (Cv r ta):=by
 intro pins s σ H Q I h
 exact UnaryOp_ (YT (ha pins s σ H _ I h) fun v s1 ⟨x,H1,I1,r1,q1⟩=>ho pins s1 σ H1 x v Q I1 r1 q1)
theorem Dw{f:Value->Value->Sem Value}{C:Int->Int->Prop}{g:Int->Int->Int}
  (rule:∀(i j:Int)(t u:Tok)(s:Shared)(Q:Value->Shared->Prop)(E:Value->Shared->Prop),C i j->Q (.int (g i j) s.toks) { s with toks:=s.toks+1 }->wpAny (model X.prog X.w) X.A (f (.int i t) (.int j u)) Q E s) :
  UB X f (rI C fun i j=>.int (g i j)):=by
 intro pins s σ H x y v u Q I rx ry h
 obtain⟨i,j,rfl,rfl,hc,q⟩:=h
 obtain⟨t,rfl⟩:=rx
 obtain⟨t',rfl⟩:=ry
 exact rule i j t t' s _ _ hc ⟨.int (g i j),H,I.tok _,⟨_,rfl⟩,q⟩
theorem G8{f:Value->Value->Sem Value}{g:Int->Int->Int}
  (rule:∀(i j:Int)(t u:Tok)(s:Shared)(Q:Value->Shared->Prop)(E:Value->Shared->Prop),Q (.int (g i j) s.toks) { s with toks:=s.toks+1 }->wpAny (model X.prog X.w) X.A (f (.int i t) (.int j u)) Q E s) :
  UB X f (Io fun i j=>.int (g i j)):=by
 intro pins s σ H x y v u Q I rx ry h
 obtain⟨i,j,rfl,rfl,q⟩:=h
 obtain⟨t,rfl⟩:=rx
 obtain⟨t',rfl⟩:=ry
 exact rule i j t t' s _ _ ⟨.int (g i j),H,I.tok _,⟨_,rfl⟩,q⟩
theorem G9{f:Value->Value->Sem Value}{g:Int->Int->Bool}
  (rule:∀(i j:Int)(t u:Tok)(s:Shared)(Q:Value->Shared->Prop)(E:Value->Shared->Prop),Q (.bool (g i j)) s->wpAny (model X.prog X.w) X.A (f (.int i t) (.int j u)) Q E s) :
  UB X f (Io fun i j=>.bl (g i j)):=by
 intro pins s σ H x y v u Q I rx ry h
 obtain⟨i,j,rfl,rfl,q⟩:=h
 obtain⟨t,rfl⟩:=rx
 obtain⟨t',rfl⟩:=ry
 exact rule i j t t' s _ _ ⟨.bl (g i j),H,I,rfl,q⟩
def Vw(i j:Int):Prop:=0<j/\j<1073741824
def Gu(i j:Int):Prop:=j≠0/\j.natAbs<1073741824
def EK(i j:Int):Prop:=0<=j/\j<=1000000/\i.natAbs<2^64
def CMul(i j:Int):Prop:=(-(2^64)<i/\i<2^64)\/(-(2^64)<j/\j<2^64)
theorem CMul.ok{i j:Int}(h:CMul i j):IntMulOk i j:=by
 rcases h with⟨h1,h2⟩ | ⟨h1,h2⟩
 ·exact .of_left (intBits_le_64 h1 h2)
 ·exact .of_right (intBits_le_64 h1 h2)
theorem Nq(k:Nat):(0:Int)<=2^k:=by
 rw[two_pow_cast]
 exact Int.natCast_nonneg _
theorem Fb:UB X (binaryOp .Add) (Io fun i j=>.int (i+j)):=G8 fun _ _ _ _ _ _ _ q=>add_int q
theorem Fc:UB X (binaryOp .Sub) (Io fun i j=>.int (i-j)):=G8 fun _ _ _ _ _ _ _ q=>sub_int q
theorem Fd:UB X (binaryOp .Mult) (rI CMul fun i j=>.int (i*j)):=Dw fun _ _ _ _ _ _ _ hc q=>mul_int q hc.ok
theorem Iz:UB X (binaryOp .FloorDiv) (rI Vw fun i j=>.int (i/j)):=Dw fun i j _ _ _ _ _ hc q=>by
 have h1:(0:Int)<j:=hc.1
 have h2:j<1073741824:=hc.2
 exact floordiv_int (by omega) (by rw[Int.fdiv_eq_ediv_of_nonneg i (by omega)];exact q) (.inl (PyProof.noPylong_small (by omega)))
theorem Fe:UB X (binaryOp .Mod) (rI (fun _ j=>0<j) fun i j=>.int (i%j)):=Dw fun i j _ _ _ _ _ hc q=>by
 have h1:(0:Int)<j:=hc
 exact mod_int' (by omega) (by rw[Int.fmod_eq_emod_of_nonneg i (by omega)];exact q)
theorem Ff:UB X (binaryOp .RShift) (rI (fun _ j=>0<=j) fun i j=>.int (i/2^j.toNat)):=Dw fun i j _ _ _ _ _ hc q=>
 rshift_int hc (by rw[Int.fdiv_eq_ediv_of_nonneg i (Nq _)];exact q)
theorem Fg:UB X (binaryOp .BitAnd) (Io fun i j=>.int (Builtin.bitAnd i j)):=G8 fun _ _ _ _ _ _ _ q=>and_int q
theorem Cw{f:Value->Sem Value}{g:Int->Int}
  (rule:∀(i:Int)(t:Tok)(s:Shared)(Q:Value->Shared->Prop)(E:Value->Shared->Prop),Q (.int (g i) s.toks) { s with toks:=s.toks+1 }->wpAny (model X.prog X.w) X.A (f (.int i t)) Q E s) :
  DU X f (rU fun i=>.int (g i)):=by
 intro pins s σ H x v Q I rx h
 obtain⟨i,rfl,q⟩:=h
 obtain⟨t,rfl⟩:=rx
 exact rule i t s _ _ ⟨.int (g i),H,I.tok _,⟨_,rfl⟩,q⟩
theorem Fh:DU X (unaryOp .USub) (rU fun i=>.int (-i)):=Cw fun _ _ _ _ _ q=>neg_int q
end
section
variable {X:Cx} {a b c:Expr} {ta tb tc:TE} {pos:Pos}
theorem Mn:UB X (compareOp .Lt) (Io fun i j=>.bl (decide (i<j))):=G9 fun _ _ _ _ _ _ _ q=>lt_int q
theorem Gv:UB X (compareOp .LtE) (Io fun i j=>.bl (decide (i<=j))):=G9 fun _ _ _ _ _ _ _ q=>le_int q
theorem Gw:UB X (compareOp .Gt) (Io fun i j=>.bl (decide (j<i))):=G9 fun _ _ _ _ _ _ _ q=>gt_int q
theorem Vx(b:Expr){op:CmpOp}(h:op≠.In:=by decide)(h2:op≠.NotIn:=by decide):behindInMarks op b=false:=by
 have e1:(op==CmpOp.In)=false:=by cases op<;>first | rfl | exact absurd rfl h
 have e2:(op==CmpOp.NotIn)=false:=by cases op<;>first | rfl | exact absurd rfl h2
 cases b<;>simp[behindInMarks,e1,e2]
theorem IA{op:CmpOp}{r:R2}(ho:UB X (compareOp op) r)(ha:PE X a ta)(hb:PE X b tb)(hm:behindInMarks op b=false):PE X (.Compare a [op] [b] pos) (En r ta tb):=by
 intro pins s σ H Q I h
 exact wpAny_Compare1 (G7 ha hb I h fun v u s2 x y H2 I2 rx ry q=>ho pins s2 σ H2 x y v u Q I2 rx ry q) hm
def Mo(t:TE):TT:=fun σ H Q=>t σ H fun x H'=>∃k,x = .bl k/\Q k H'
theorem IB{op:CmpOp}{r:R2}(ho:UB X (compareOp op) r)(ha:PE X a ta)(hb:PE X b tb)(hm:behindInMarks op b=false):PT X (.Compare a [op] [b] pos) (Mo (En r ta tb)):=by
 intro pins s σ H Q I h
 refine wpAny_isTrue_Compare1 (YT (ha pins s σ H _ I h) fun v s1 ⟨x,H1,I1,r1,q1⟩=>YT (hb pins s1 σ H1 _ I1 q1) fun u s2 ⟨y,H2,I2,r2,q2⟩=>
  YT (ho pins s2 σ H2 x y v u _ I2 r1 r2 q2) fun c s3 ⟨z,H3,I3,r3,k,e,q3⟩=>?_) hm
 subst e;cases r3
 exact wpAny_truthy_bool ⟨H3,I3,q3⟩
def Ku(r r':R2)(ta tb tc:TE):TE:=fun σ H Q=>ta σ H fun x H1=>tb σ H1 fun y H2=>r x y H2 fun z H3=>∃k,z = .bl k/\
 (if k=true then tc σ H3 fun w' H4=>r' y w' H4 Q else Q (.bl false) H3)
theorem Kv{op op':CmpOp}{r r':R2}(ho:UB X (compareOp op) r)(ho':UB X (compareOp op') r')(ha:PE X a ta)(hb:PE X b tb)(hc:PE X c tc)
  (hm:lastMarks [op,op'] [b,c]=false:=by with_unfolding_all rfl):PE X (.Compare a [op,op'] [b,c] pos) (Ku r r' ta tb tc):=by
 intro pins s σ H Q I h
 refine Compare_chain (YT (ha pins s σ H _ I h) fun v s1 ⟨x,H1,I1,r1,q1⟩=>chain_link (YT (hb pins s1 σ H1 _ I1 q1) fun u s2 ⟨y,H2,I2,r2,q2⟩=>
  YT (ho pins s2 σ H2 x y v u _ I2 r1 r2 q2) fun d s3 ⟨z,H3,I3,r3,k,e,q3⟩=>?_)) hm
 subst e;cases r3
 refine wpAny_truthy_bool ?_
 cases k with
 | false=>exact ite_ff ⟨.bl false,H3,I3,rfl,q3⟩
 | true=>exact ite_tt (chain_last (YT (hc pins s3 σ H3 _ I3 q3) fun w' s4 ⟨z',H4,I4,r4,q4⟩=>ho' pins s4 σ H4 y z' u w' Q I4 r2 r4 q4))
def DW(K:PySem.W.Frag)(x:V)(H:Hp)(k:Bool):Prop:=
 match x with
 | .non=>k=false
 | .bl b=>k=b
 | .int i=>k=(i != 0)
 | .str y=>y.length<=sizeLine/\k=((y.length:Int) != 0)
 | .byt y=>y.size<=sizeLine/\k=((y.size:Int) != 0)
 | .ref p=>(∃xs,SqL K H p xs/\k = !xs.isEmpty)\/(∃xs,SqT K H p xs/\k = !xs.isEmpty)\/∃kvs,H p=some (.dK kvs)/\k = !kvs.isEmpty
 | _=>False
theorem Nr{κ:Type}{kvs:List (κ×V)}{vs:List (κ×Value)}(r:KV kvs vs):(!vs.isEmpty) = !kvs.isEmpty:=by
 cases r<;>rfl
theorem SX{xs:List V}{its:List Value}(r:Vals xs its):(!its.toArray.isEmpty) = !xs.isEmpty:=by
 cases r<;>simp
theorem TJ:(sizeLine:Nat)<2^63:=by rw[sizeLine_eq];decide
theorem tru_ok:DV X (fun x H Q=>∃k,DW X.K x H k/\Q k H):=by
 intro pins s σ H x v Q I rx h
 obtain⟨k,e,q⟩:=h
 have hl:=TJ
 have hs:sizeLine=16777216:=sizeLine_eq
 cases x with
 | non=>
  cases rx
  have e':k=false:=e
  subst e'
  exact truthy_none ⟨H,I,q⟩
 | bl b=>
  cases rx
  have e':k=b:=e
  subst e'
  exact wpAny_truthy_bool ⟨H,I,q⟩
 | int i=>
  obtain⟨t,rfl⟩:=rx
  have e':k=(i != 0):=e
  subst e'
  exact PySem.P.truthy_int ⟨H,I,q⟩
 | str y=>
  obtain⟨t,rfl⟩:=rx
  obtain⟨hy,e'⟩:y.length<=sizeLine/\k=((y.length:Int) != 0):=e
  subst e'
  exact PySem.P.truthy_str (by omega) ⟨H,I.tok _,q⟩
 | byt y=>
  obtain⟨t,rfl⟩:=rx
  obtain⟨hy,e'⟩:y.size<=sizeLine/\k=((y.size:Int) != 0):=e
  subst e'
  exact PySem.W.truthy_bytes (by omega) ⟨H,I.tok _,q⟩
 | ref p=>
  cases rx
  have e':(∃xs,SqL X.K H p xs/\k = !xs.isEmpty)\/(∃xs,SqT X.K H p xs/\k = !xs.isEmpty)\/∃kvs,H p=some (.dK kvs)/\k = !kvs.isEmpty:=e
  rcases e' with⟨xs,hx,e'⟩ | ⟨xs,hx,e'⟩ | ⟨kvs,hx,e'⟩
  ·subst e'
   obtain⟨its,r,pl,hz⟩:=I.list hx
   have hlen:=r.length
   exact wpAny_truthy_list pl.isList (by simp only[List.size_toArray];omega) ⟨H,I.tok _,by rw[SX r];exact q⟩
  ·subst e'
   obtain⟨its,r,pl,hz⟩:=I.tuple hx
   have hlen:=r.length
   exact truthy_tuple pl (by simp only[List.size_toArray];omega) ⟨H,I.tok _,by rw[SX r];exact q⟩
  ·subst e'
   obtain⟨hz,hS,vs,r,m⟩:kvs.length<=sizeLine/\(p==sysModules)=false/\∃vs,KV kvs vs/\s.heap.DictOf (QU X.prog X.w) p vs:=I.hok p _ hx
   have hlen:kvs.length=vs.length:=Paired.length r
   exact wpAny_truthy_dict hS m (by omega) ⟨H,I.tok _,by rw[Nr r];exact q⟩
 | _=>exact(show False from e).elim
theorem Us{x:V}{us:List Value}(r:Vals [x] us):∃u,us=[u]/\RelV x u:=by
 cases r with
 | cons r1 r2=>cases r2;exact⟨_,rfl,r1⟩
theorem Mp{x y:V}{us:List Value}(r:Vals [x,y] us):∃u w',us=[u,w']/\RelV x u/\RelV y w':=by
 cases r with
 | cons r1 r2=>
  cases r2 with
  | cons r3 r4=>cases r4;exact⟨_,_,rfl,r1,r3⟩
theorem Lf(hc:X.calm=true):XQ X (.builtin "max") (fun xs H Q=>∃i j,xs=[.int i,.int j]/\Q (.int (if j>i then j else i)) H):=by
 intro pins s σ H xs us Q I r h
 obtain⟨i,j,rfl,q⟩:=h
 obtain⟨u,w',rfl,⟨t,rfl⟩,⟨t',rfl⟩⟩:=Mp r
 refine max_two_ints (I.ok.hd hc) fun h' tk k=>⟨_,H,I.kept k,?_,q⟩
 by_cases hj:j>i
 ·rw[if_pos hj,if_pos hj];exact⟨_,rfl⟩
 ·rw[if_neg hj,if_neg hj];exact⟨_,rfl⟩
theorem Qe:XQ X (.type "int") (fun xs H Q=>(∃i,xs=[.int i]/\Q (.int i) H)\/∃k,xs=[.bl k]/\Q (.int (if k then 1 else 0)) H):=by
 intro pins s σ H xs us Q I r h
 rcases h with⟨i,rfl,q⟩ | ⟨k,rfl,q⟩
 ·obtain⟨u,rfl,t,rfl⟩:=Us r
  exact call_int_int ⟨.int i,H,I,⟨_,rfl⟩,q⟩
 ·obtain⟨u,rfl,r1⟩:=Us r
  cases r1
  exact call_int_bool ⟨.int (if k then 1 else 0),H,I.tok _,⟨_,rfl⟩,q⟩
def EL(K:PySem.W.Frag)(x:V)(H:Hp)(n:Nat):Prop:=
 match x with
 | .str y=>y.length<=sizeLine/\n=y.length
 | .byt y=>y.size<=sizeLine/\n=y.size
 | .ref p=>(∃xs,SqL K H p xs/\n=xs.length)\/∃xs,SqT K H p xs/\n=xs.length
 | _=>False
theorem Zv:XQ X (.builtin "len") (fun xs H Q=>∃x n,xs=[x]/\EL X.K x H n/\Q (.int n) H):=by
 intro pins s σ H xs us Q I r h
 obtain⟨x,n,rfl,e,q⟩:=h
 obtain⟨u,rfl,rx⟩:=Us r
 have hl:=TJ
 have hs:sizeLine=16777216:=sizeLine_eq
 cases x with
 | str y=>
  obtain⟨t,rfl⟩:=rx
  obtain⟨hy,e'⟩:y.length<=sizeLine/\n=y.length:=e
  subst e'
  exact len_str (by omega) ⟨.int _,H,I.tok _,⟨_,rfl⟩,q⟩
 | byt y=>
  obtain⟨t,rfl⟩:=rx
  obtain⟨hy,e'⟩:y.size<=sizeLine/\n=y.size:=e
  subst e'
  exact PySem.W.len_bytes (by omega) ⟨.int _,H,I.tok _,⟨_,rfl⟩,q⟩
 | ref p=>
  cases rx
  have e':(∃xs,SqL X.K H p xs/\n=xs.length)\/∃xs,SqT X.K H p xs/\n=xs.length:=e
  rcases e' with⟨xs,hx,e'⟩ | ⟨xs,hx,e'⟩
  ·subst e'
   obtain⟨its,r',pl,hz⟩:=I.list hx
   have hlen:=r'.length
   exact Calls.call_len_list pl.isList (by simp only[List.size_toArray];omega) ⟨.int xs.length,H,I.tok _,⟨_,by simp only[List.size_toArray];rw[hlen]⟩,q⟩
  ·subst e'
   obtain⟨its,r',pl,hz⟩:=I.tuple hx
   have hlen:=r'.length
   exact len_tuple pl (by simp only[List.size_toArray];omega) ⟨.int xs.length,H,I.tok _,⟨_,by simp only[List.size_toArray];rw[hlen]⟩,q⟩
 | _=>exact(show False from e).elim
end
structure ObjM(h:Heap)(x dx C:Addr)(mA:Str->Option Value):Prop where
 obj:h.get? x=some (PySem.W.instObj C dx)
 ns:h.Ns1 dx mA
 ne:dx≠x
theorem Lg{h:Heap}{dx:Addr}{mA:Str->Option Value}(n:h.Ns1 dx mA):∃od,h.get? dx=some od/\∀name,PySem.W.lookIn name od=some (mA name):=by
 obtain⟨o,es,ep,ho,hd,hk,_,hm⟩:=n
 refine⟨o,ho,fun name=>?_⟩
 have e:=hm name;unfold nsFind findBy at e;rw[<-Array.find?_toList] at e;unfold PySem.W.lookIn;rw[hd]
 dsimp only
 split
 ·rename_i y q
  rw[q] at e
  exact congrArg some e
 ·rename_i q
  rw[q] at e
  have a:es.toList.any (·.refKey)=false:=by
   rw[List.any_eq_false];intro y hy
   obtain⟨z,t,hkey⟩:=hk y (Array.mem_toList_iff.mp hy)
   simp[DictEntry.refKey,hkey]
  have a':¬es.toList.any (·.refKey)=true:=by rw[a];exact Bool.false_ne_true
  rw[if_neg a']
  exact congrArg some e
theorem ObjM.look{h:Heap}{x dx C:Addr}{mA:Str->Option Value}(I:ObjM h x dx C mA):∃od,PySem.W.InstAt h x (PySem.W.instObj C dx) C (some od)/\∀name,PySem.W.lookIn name od=some (mA name):=
 let⟨od,ho,hl⟩:=Lg I.ns
 ⟨od,⟨I.obj,rfl,rfl,ho⟩,hl⟩
section
variable {P:Program} {w:World} {H H':Hp} {h h':Heap} {a C dx:Addr} {fs fs':List (Str×V)}
theorem IC(hok:HOk P w H h)(e:H a=some (.ins C dx fs)):∃mA,ObjM h a dx C mA/\(∀f,GR (fs.lookup f) (mA f))/\PySem.Within mA (fs.map (·.1))/\fs.length<=1000/\H dx=some (.own a):=by
 obtain⟨d,z,ne,ob,mA,n,r,q⟩:=(show ObjOk P w H h a (.ins C dx fs) from hok a _ e)
 exact⟨mA,⟨ob,n,ne⟩,r,q,z,d⟩
end
structure Cls(K:PySem.W.Frag)(C:Addr):Prop where
 pg:PySem.W.plainGet K C Str.empty=true
 hd:PySem.W.hasDictIn K C=true
 po:PySem.W.plainOver K C=true
 sa:PySem.W.findIn K (.ref C) "__setattr__" = some (some (.builtin "object.__setattr__"))
theorem Cls.get{K:PySem.W.Frag}{C:Addr}(c:Cls K C)(f:Str):PySem.W.plainGet K C f=true:=c.pg
section
variable {X:Cx} {pins:List (Addr×Obj)} {σ:St} {H:Hp} {s:Shared} {A:Around} {E:Value->Shared->Prop} {Q:Value->Shared->Prop} {c:Value} {b:Bool}
inductive TyOf(K:PySem.W.Frag)(H:Hp):V->Value->Prop where
 | non:TyOf K H .non (.type "NoneType")
 | bl (x:Bool):TyOf K H (.bl x) (.type "bool")
 | int (i:Int):TyOf K H (.int i) (.type "int")
 | str (x:Str):TyOf K H (.str x) (.type "str")
 | flt (x:UInt64):TyOf K H (.flt x) (.type "float")
 | lst {a:Addr} {xs:List V} (e:H a=some (.lst xs)):TyOf K H (.ref a) (.type "list")
 | frz {a:Addr} {o:Obj} {xs:List V} (e:H a=some (.frz o (.lst xs))):TyOf K H (.ref a) (.type "list")
 | tup {a:Addr} {xs:List V} (e:H a=some (.tup xs)):TyOf K H (.ref a) (.type "tuple")
 | dK {a:Addr} {kvs:List (Sq×V)} (e:H a=some (.dK kvs)):TyOf K H (.ref a) (.type "dict")
 | dT {a:Addr} {kvs:List (List Sq×V)} (e:H a=some (.dT kvs)):TyOf K H (.ref a) (.type "dict")
 | ins {a C dx:Addr} {fs:List (Str×V)} (e:H a=some (.ins C dx fs)) (cl:Cls K C) (ha:PySem.W.findIn K (.ref C) "__class__" = some (some (.builtin "object.__class__")))
   (hn:PySem.W.specialIn K (.builtin "object.__class__") "__get__" = some (some (.builtin "getset_descriptor.__get__"))) (htk:PySem.W.takesIn K (.builtin "object.__class__")=some true)
   (hm:PySem.W.mroIn K C (.type "object")=some true):TyOf K H (.ref a) (.ref C)
theorem Lh{x:V}{u t:Value}(I:Inv X pins σ H s)(rx:RelV x u)(ty:TyOf X.K H x t)(e:PySem.W.kitOne X.K t c=some b)(h:∀tk,Q (.bool b) { s with toks:=tk }) :
  wpAny (model X.prog X.w) A (call (.builtin "isinstance") [u,c]) Q E s:=by
 cases ty with
 | non=>cases (show u=Value.none from rx);exact PySem.W.kia_one PySem.W.kitx_none I.kIn True.intro e (fun z=>nomatch z) h
 | bl y=>cases (show u=Value.bool y from rx);exact PySem.W.kia_one PySem.W.kitx_bool I.kIn True.intro e (fun z=>nomatch z) h
 | int i=>obtain⟨t,q⟩:=(show ∃t,u=Value.int i t from rx);cases q;exact PySem.W.kia_one PySem.W.kitx_int I.kIn True.intro e (fun z=>nomatch z) h
 | str y=>obtain⟨t,q⟩:=(show ∃t,u=Value.str y t from rx);cases q;exact PySem.W.kia_one PySem.W.kitx_str I.kIn True.intro e (fun z=>nomatch z) h
 | flt y=>obtain⟨t,q⟩:=(show ∃t,u=Value.float y t from rx);cases q;exact PySem.W.kia_one PySem.W.kitx_float I.kIn True.intro e (fun z=>nomatch z) h
 | @lst a xs ea=>
  cases (show u=Value.ref a from rx)
  obtain⟨_,_,n,_,h1⟩:=(show ObjOk X.prog X.w H s.heap a (.lst xs) from I.hok a _ ea)
  exact PySem.W.kia_one PySem.W.kitx_list I.kIn ⟨_,h1,rfl⟩ e (fun z=>nomatch z) h
 | @frz a ob xs ea=>
  cases (show u=Value.ref a from rx)
  obtain⟨_,_,_,n,_,h1⟩:=(show ObjOk X.prog X.w H s.heap a (.frz ob (.lst xs)) from I.hok a _ ea)
  exact PySem.W.kia_one PySem.W.kitx_list I.kIn ⟨_,h1,rfl⟩ e (fun z=>nomatch z) h
 | @tup a xs ea=>
  cases (show u=Value.ref a from rx)
  obtain⟨_,_,_,p⟩:=(show ObjOk X.prog X.w H s.heap a (.tup xs) from I.hok a _ ea)
  obtain⟨o,h1,h2,_⟩:=p
  exact PySem.W.kia_one PySem.W.kitx_tuple I.kIn ⟨o,h1,h2⟩ e (fun z=>nomatch z) h
 | @dK a kvs ea=>
  cases (show u=Value.ref a from rx)
  obtain⟨_,_,vs,_,p⟩:=(show ObjOk X.prog X.w H s.heap a (.dK kvs) from I.hok a _ ea)
  obtain⟨o,es,ep,h1,h2,_⟩:=p
  exact PySem.W.kia_one PySem.W.kitx_dict I.kIn ⟨o,h1,h2.1⟩ e (fun z=>nomatch z) h
 | @dT a kvs ea=>
  cases (show u=Value.ref a from rx)
  obtain⟨_,_,xs,_,o,es,ep,h1,h2,_⟩:=(show ObjOk X.prog X.w H s.heap a (.dT kvs) from I.hok a _ ea)
  exact PySem.W.kia_one PySem.W.kitx_dict I.kIn ⟨o,h1,h2.1⟩ e (fun z=>nomatch z) h
 | @ins a C dx fs ea cl ha hn htk hm=>
  cases (show u=Value.ref a from rx)
  obtain⟨mA,O,_⟩:=IC I.hok ea
  obtain⟨od,J,_⟩:=O.look
  exact PySem.W.kia_one (PySem.W.kitx_own (cl.get _) cl.hd ha hn htk hm) I.kIn J e (fun z=>nomatch z) h
end
structure Room(k:Nat)(A:Around):Prop where
 hd:A.handled=none
 dp:A.depth+3*k+5<recursionLimit
 un:A.units+16*k+200<cLine
 gd:A.guards=some []
theorem Room.mono{j k:Nat}{A:Around}(r:Room k A)(h:j<=k):Room j A:=⟨r.hd,by have:=r.dp;omega,by have:=r.un;omega,r.gd⟩
theorem Room.deeper{k:Nat}{A:Around}(r:Room (k+1) A)(env:Env):Room k (A.deeper env):=
 ⟨r.hd,by have:=r.dp;show A.depth+1+3*k+5<_;omega,by have:=r.un;show A.units+3+16*k+200<_;omega,r.gd⟩
theorem Room.depth{k:Nat}{A:Around}(r:Room k A):A.depth<recursionLimit:=by have:=r.dp;omega
theorem Room.units{k:Nat}{A:Around}(r:Room k A):A.units+64<cLine:=by have:=r.un;omega
def Nt:TA:=fun _ H Q=>Q [] H
def SY(ta:TE)(tr:TA):TA:=fun σ H Q=>ta σ H fun x H1=>tr σ H1 fun xs H2=>Q (x::xs) H2
section
variable {X:Cx} {e:Expr} {es:List Expr} {te:TE} {t:TA} {pos:Pos}
theorem XX:PA X [] Nt:=fun _ _ _ _ H Q I h=>Calls.spliced_nil ⟨[],H,I,.nil,h⟩
theorem YE(ha:PE X e te)(hr:PA X es t)(hs:starEach (e::es) X.env=(false,eval e X.env)::starEach es X.env:=by rfl):PA X (e::es) (SY te t):=by
 intro pos pins s σ H Q I h;rw[hs]
 show wpAny _ _ (spliced ((false,eval e X.env)::backTo pos (starEach es X.env))) _ _ s
 refine Calls.spliced_cons (YT (ha pins s σ H _ I h) fun u s1 ⟨x,H1,I1,r1,q1⟩=>?_)
 exact YT (hr pos pins s1 σ H1 _ I1 q1) fun us s2 ⟨xs,H2,I2,r2,q2⟩=>⟨x::xs,H2,I2,.cons r1 r2,q2⟩
def DY(t:TA):TE:=fun σ H Q=>t σ H fun xs H1=>xs.length<=sizeLine/\∀p,H1 p=none->Q (.ref p) (upd H1 p (.tup xs))
def DZ(t:TA):TE:=fun σ H Q=>t σ H fun xs H1=>xs.length<=sizeLine/\∀p,H1 p=none->Q (.ref p) (upd H1 p (.lst xs))
theorem Kw{x1}(h:PA X es t):PE X (.Tuple es x1 pos) (DY t):=by
 intro pins s σ H Q I hq
 refine wpAny_Tuple_spliced (YT (h pos pins s σ H _ I hq) fun us s1 ⟨xs,H1,I1,r,z,q⟩=>⟨by rw[<-r.length];exact z,?_⟩)
 have hf:H1 s1.heap.objs.size=none:=I1.hok.fresh (Nat.le_refl _)
 refine⟨.ref s1.heap.objs.size,upd H1 s1.heap.objs.size (.tup xs),I1.laid (t':=s1.toks) (fun b u e=>Heap.get?_push_of_some _ e) (Nat.le_refl _) ?_,rfl,q _ hf⟩
 exact⟨⟨z,fun o e=>SS e⟩,us,r,⟨_,Heap.get?_push_size _ rfl,rfl,_,rfl⟩⟩
theorem Kx(h:PA X es t):PE X (.List es pos) (DZ t):=by
 intro pins s σ H Q I hq
 refine wpAny_List_spliced (YT (h pos pins s σ H _ I hq) fun us s1 ⟨xs,H1,I1,r,z,q⟩=>⟨by rw[<-r.length];exact z,?_⟩)
 have hf:H1 s1.heap.objs.size=none:=I1.hok.fresh (Nat.le_refl _)
 refine⟨.ref s1.heap.objs.size,upd H1 s1.heap.objs.size (.lst xs),I1.laid (t':=s1.toks) (fun b u e=>Heap.get?_push_of_some _ e) (Nat.le_refl _) ?_,rfl,q _ hf⟩
 exact⟨z,us,0,r,Heap.get?_push_size _ rfl⟩
end
abbrev Sp:=List V->Hp->VK->XK->Prop
abbrev Ky:=List Env->Hp->Shared->XK->Value->Shared->Prop
structure ID(P:Program)(w:World)(K:PySem.W.Frag)(mg:Str->Option Value)(base:Heap)(A:Around)(outer:List Env)(s:Shared)(H:Hp):Prop where
 frames:A.frames=some outer
 mod:Mod K mg base
 bs:∀b o,base.get? b=some o->s.heap.get? b=some o/\H b=none
 bsz:base.objs.size<=s.heap.objs.size
 funs:s.heap.FunFrames base outer
 frf:∀b∈Qd outer,H b=none
 hok:HOk P w H s.heap
 bare:AllBare s.gens
def CE(outer:List Env)(P:Program)(w:World)(H:Hp)(s:Shared)(Q:VK)(u:Value)(s':Shared):Prop:=
 ∃v H',s'.os=s.os/\AllBare s'.gens/\Un (Qd outer) [] H H' s.heap s'.heap/\HOk P w H' s'.heap/\RelV v u/\Q v H'
def CR(CX:Ky)(outer:List Env)(P:Program)(w:World)(H:Hp)(s:Shared)(Q:VK)(E:XK)(r:Result)(s':Shared):Prop:=
 match r with
 | .ok (.ret u)=>CE outer P w H s Q u s'
 | .ok _=>False
 | .error e=>CX outer H s E e s'
structure UC(P:Program)(w:World)(K:PySem.W.Frag)(mg:Str->Option Value)(base:Heap)(CX:Ky)(k:Nat)(f:Addr)(fd:FuncData)(ps:List Str)(sp:Sp):Prop where
 len:∀vs H Q E,sp vs H Q E->vs.length=ps.length
 run:∀(A:Around)(outer:List Env)(s:Shared)(H:Hp)(args:Args)(us:List Value)(vs:List V)(Q:VK)(E:XK),Room k A->ID P w K mg base A outer s H->BindsTo s fd args (ps.zip us)->Vals vs us->sp vs H Q E->
  codeAny (model P w) A (.call (.ref f) args) (CR CX outer P w H s Q E) s
section
variable {X:Cx} {pins:List (Addr×Obj)} {σ:St} {H:Hp} {s s':Shared}
theorem Inv.env0(I:Inv X pins σ H s):ID X.prog X.w X.K X.mg X.base X.A X.stack s H:=
 ⟨I.ok.frames,I.ok.mod,I.bs,Nat.le_trans I.ok.bsz I.sz,I.stack,I.stkFree,I.hok,I.bare⟩
theorem Inv.after{Q:VK}{u:Value}(I:Inv X pins σ H s)(h:CE X.stack X.prog X.w H s Q u s'):EP X pins σ Q u s':=by
 obtain⟨v,H',os,bare,un,hok,r,q⟩:=h
 obtain⟨hh,g,d,t,os'⟩:=s'
 obtain rfl:os'=s.os:=os
 exact⟨v,H',I.call (h':=hh) (g':=g) (d':=d) (t':=t) (ch:=[]) un hok bare (fun b z=>absurd z (by simp)),r,q⟩
end
def Kz(sp:Sp)(dvs:List V)(E:XK)(t:TA):TE:=fun σ H Q=>t σ H fun vs H1=>sp (vs++dvs) H1 Q E
def Binds(K:PySem.W.Frag)(fd:FuncData)(ps:List Str)(ds:List Value):Prop:=
 ∀(s:Shared)(us:List Value),K.In s.heap->(us++ds).length=ps.length->BindsTo s fd ⟨us,[]⟩ (ps.zip (us++ds))
theorem Binds.all{K:PySem.W.Frag}{fd:FuncData}{ps:List Str}(h:∀us:List Value,us.length=ps.length->bindArgs fd ⟨us,[]⟩=pure (ps.zip us)):Binds K fd ps []:=fun s us _ hl=>by
 rw[List.append_nil] at hl ⊢
 exact .of_eq (h us hl)
def QX(CX:Ky)(X:Cx)(E:XK):Prop:=∀(pins:List (Addr×Obj))(σ:St)(H:Hp)(s:Shared)(e:Value)(s':Shared),Inv X pins σ H s->CX X.stack H s E e s'->X.xe e s'
section
variable {X:Cx} {CX:Ky} {k:Nat} {f C:Addr} {fd:FuncData} {ps:List Str} {sp:Sp} {dvs:List V} {ds:List Value} {E:XK} {x m:Str} {p pos apos:Pos} {e o:Expr} {es:List Expr} {ta:TE} {t:TA}
theorem KA{pins:List (Addr×Obj)}{σ:St}{H:Hp}{s:Shared}{Q:VK}{us:List Value}{vs:List V}(F:UC X.prog X.w X.K X.mg X.base CX k f fd ps sp)(hr:Room k X.A)(hb:Binds X.K fd ps ds)(hd:Vals dvs ds)(hx:QX CX X E)
  (I:Inv X pins σ H s) (r:Vals vs us) (h:sp (vs++dvs) H Q E):wpAny (model X.prog X.w) X.A (call (.ref f) us) (EP X pins σ Q) X.xe s:=by
 have r2:Vals (vs++dvs) (us++ds):=r.append hd
 have hl:(us++ds).length=ps.length:=by rw[<-r2.length];exact F.len _ _ _ _ h
 refine wpAny_call (codeAny_mono (F.run X.A X.stack s H ⟨us,[]⟩ (us++ds) (vs++dvs) Q E hr I.env0 (hb s us I.kIn hl) r2 h) fun r s' hq=>?_)
 cases r with
 | error e=>exact hx pins σ H s e s' I hq
 | ok fl=>
  cases fl with
  | ret u=>exact I.after hq
  | next=>exact False.elim hq
  | brk=>exact False.elim hq
  | cont=>exact False.elim hq
theorem IE(F:UC X.prog X.w X.K X.mg X.base CX k f fd ps sp)(hr:Room k X.A)(hg:Gl X x)(hm:X.mg x=some (.ref f))(hk:PySem.W.keepIn X.K (.ref f)=true)(hb:Binds X.K fd ps ds)(hd:Vals dvs ds)(hx:QX CX X E)
  (ha:PA X (e::es) t) (hdb:(x==("__debug__" : Str))=false:=by decide) (he:starEach (e::es) X.env=(false,eval e X.env)::starEach es X.env:=by rfl) (hpl:(backTo pos (starEach es X.env)).any (·.1)=false:=by rfl) :
  PE X (.Call (.Name x p) (e::es) [] pos) (Kz sp dvs E t):=by
 intro pins s σ H Q I h
 refine wpAny_Call_Name_kw (V3 I hg hm ?_ hdb)
 refine PySem.W.callWith_K (h₀:=X.base) I.ok.mod.kin hk (YT (ha pos pins s σ H _ I h) fun us s1 ⟨vs,H1,I1,r,q⟩=>⟨I1.kIn,?_⟩) he hpl
 exact KA F hr hb hd hx I1 r q
theorem KC(F:UC X.prog X.w X.K X.mg X.base CX k f fd ps sp)(hr:Room k X.A)(hg:Gl X x)(hm:X.mg x=some (.ref f))(hk:PySem.W.keepIn X.K (.ref f)=true)(hb:Binds X.K fd ps ds)(hd:Vals dvs ds)(hx:QX CX X E)
  (hdb:(x==("__debug__" : Str))=false:=by decide):PE X (.Call (.Name x p) [] [] pos) (Kz sp dvs E Nt):=by
 intro pins s σ H Q I h
 refine wpAny_Call_Name_kw (V3 I hg hm ?_ hdb)
 exact PySem.W.callWith_K0 I.kIn hk (KA (us:=[]) F hr hb hd hx I .nil h)
end
def PK(X:Cx)(kws:List Keyword)(t:TA):Prop:=
 ∀(pos:Pos)(pins:List (Addr×Obj))(s:Shared)(σ:St)(H:Hp)(Q:List V->Hp->Prop),Inv X pins σ H s->t σ H Q->wpAny (model X.prog X.w) X.A (evalAll ((backToKw pos (keywordEach kws X.env)).map (·.2))) (AP X pins σ Q) X.xe s
structure ZS(N P:List Str)(sc:Scope):Prop where
 kind:sc.kind = .function
 co:sc.isCoroutine=false
 gen:sc.isGenerator=false
 nd:N.Nodup
 pre:N.take P.length=P
 par:∀x∈P,sc.names.lookup x=some .local\/sc.names.lookup x=some .cell
 nofree:∀y∈sc.names,y.2≠.free
theorem Qf{kindOf:Str->Option NameKind}{x:Str}:∀{binds:List (Str×Value)}{m:Str->Option Value},(∀v,(x,v)∉binds)->bindL kindOf binds m x=m x
 | [],_,_=>rfl
 | (n,v)::r,m,h=>by
  unfold bindL;rw[Qf fun w hw=>h w (List.mem_cons_of_mem _ hw)]
  split
  ·have:x≠n:=by rintro rfl;exact h v List.mem_cons_self
   simp[this]
  ·rfl
theorem Qg{kindOf:Str->Option NameKind}{x:Str}:∀{binds:List (Str×Value)}{m:Str->Option Value},(∀v,(x,v)∉binds)->bindC kindOf binds m x=m x
 | [],_,_=>rfl
 | (n,v)::r,m,h=>by
  unfold bindC;rw[Qg fun w hw=>h w (List.mem_cons_of_mem _ hw)]
  split
  ·rfl
  ·have:x≠n:=by rintro rfl;exact h v List.mem_cons_self
   simp[this]
theorem Qh{kindOf:Str->Option NameKind}{x:Str}{v:Value}:∀{P:List Str}{vs:List Value}{i:Nat}{m:Str->Option Value},P.Nodup->P[i]?=some x->vs[i]?=some v->kindOf x=some .local->
  bindL kindOf (P.zip vs) m x=some v
 | [],_,_,_,_,h,_,_=>by simp at h
 | _::_,[],_,_,_,_,h,_=>by simp at h
 | p::P,w::vs,0,m,nd,h1,h2,hk=>by
  simp at h1 h2;subst h1;subst h2
  show bindL kindOf ((p,w)::P.zip vs) m p=_
  unfold bindL;rw[Qf fun v hv=>(List.nodup_cons.mp nd).1 (List.of_mem_zip hv).1,if_pos hk]
  simp
 | p::P,w::vs,i+1,m,nd,h1,h2,hk=>by
  show bindL kindOf ((p,w)::P.zip vs) m x=_
  unfold bindL
  exact Qh (i:=i) (List.nodup_cons.mp nd).2 (by simpa using h1) (by simpa using h2) hk
theorem Qi{kindOf:Str->Option NameKind}{x:Str}{v:Value}:∀{P:List Str}{vs:List Value}{i:Nat}{m:Str->Option Value},P.Nodup->P[i]?=some x->vs[i]?=some v->kindOf x≠some .local->
  bindC kindOf (P.zip vs) m x=some v
 | [],_,_,_,_,h,_,_=>by simp at h
 | _::_,[],_,_,_,_,h,_=>by simp at h
 | p::P,w::vs,0,m,nd,h1,h2,hk=>by
  simp at h1 h2;subst h1;subst h2
  show bindC kindOf ((p,w)::P.zip vs) m p=_
  unfold bindC;rw[Qg fun v hv=>(List.nodup_cons.mp nd).1 (List.of_mem_zip hv).1,if_neg hk]
  simp
 | p::P,w::vs,i+1,m,nd,h1,h2,hk=>by
  show bindC kindOf ((p,w)::P.zip vs) m x=_
  unfold bindC
  exact Qi (i:=i) (List.nodup_cons.mp nd).2 (by simpa using h1) (by simpa using h2) hk
def start(N:List Str)(vs:List V):St:=vs.map some++List.replicate (N.length-vs.length) none
def Sr(CX:Ky)(P:Program)(w:World)(K:PySem.W.Frag)(mg:Str->Option Value)(base:Heap)(N:List Str)(qual:Str)(scope:Scope)(f:Addr)(cd:Value)(A:Around)(outer:List Env)(s:Shared)(H:Hp)(E:XK):Cx where
 prog:=P
 w:=w
 K:=K
 mg:=mg
 base:=base
 A:=A.deeper (envOfC qual scope s.heap.objs.size f cd)
 N:=N
 s₀:=s
 H₀:=H
 env:=envOfC qual scope s.heap.objs.size f cd
 outer:=outer
 stack:=envOfC qual scope s.heap.objs.size f cd::outer
 ex:=[]
 calm:=true
 fn:=fun _=>true
 pn:=[]
 xe:=fun e s'=>wpAny (model P w) (A.deeper (envOfC qual scope s.heap.objs.size f cd)) (leaving (envOfC qual scope s.heap.objs.size f cd) e) (fun _ s''=>CX outer H s E e s'') (fun e' s''=>CX outer H s E e' s'') s'
theorem P5{sc:Scope}{n:Nat}{x:Str}(h:sc.names.lookup x=some .cell):∃c,(cellsFrom n sc.names []).lookup x=some c:=by
 have q:=PySem.W.cellsFrom_some sc.names n [] (.inl h)
 exact Option.isSome_iff_exists.mp q
theorem Li{CX:Ky}{P:Program}{w:World}{K:PySem.W.Frag}{mg:Str->Option Value}{base:Heap}{N ps:List Str}{qual:Str}{scope:Scope}{f:Addr}{cd:Value}{A:Around}{outer:List Env}{s s1:Shared}{H:Hp}{E:XK}{us:List Value}{vs:List V}
  (S:ZS N ps scope) (hd:A.handled=none) (e0:ID P w K mg base A outer s H) (hl:vs.length=ps.length) (r:Vals vs us)
  (x:InCallC s s.heap.objs.size (bindL (envOfC qual scope s.heap.objs.size f cd).kindOf (ps.zip us) fun _=>none) (cellsFrom (s.heap.objs.size+1) scope.names []) (bindC (envOfC qual scope s.heap.objs.size f cd).kindOf (ps.zip us) fun _=>none) s1) :
  Inv (Sr CX P w K mg base N qual scope f cd A outer s H E) [] (start N vs) H s1:=by
 have hpl:ps.length<=N.length:=by have:=congrArg List.length S.pre;rw[List.length_take] at this;omega
 obtain⟨h1,tk,rfl,hk⟩:=x.done
 have noA:∀b:Addr,b∉(Sr CX P w K mg base N qual scope f cd A outer s H E).ex:=fun b z=>absurd (show b∈([]:List Addr) from z) (by simp)
 refine⟨⟨e0.mod,S.kind,rfl,rfl,Nat.le_refl _,fun y z c h1 h2=>?_,fun y hy=>?_,fun y c _ h=>?_,fun _=>hd,Around.frames_deeper e0.frames,.inr ⟨rfl,rfl⟩,fun b z=>absurd z (noA b),e0.bs,e0.bsz,fun b _ _=>noA b,fun b z=>absurd z (noA b),e0.funs,e0.frf⟩,
  rfl,e0.bare,Un.kept hk,⟨_,x.toInCall.ns,fun i y v h1 h2 h3=>?_⟩,fun y c h=>⟨_,x.cell y c h⟩,e0.hok.fresh (Nat.le_refl _),fun y c h=>?_,fun p hp=>absurd (show p∈([]:List (Addr×Obj)) from hp) (by simp),e0.hok.kept hk,?_⟩
 ·exact name_of_addr x.apart (PySem.mem_of_lookup h1) (PySem.mem_of_lookup h2)
 ·have hy:scope.names.lookup y=some .cell\/scope.names.lookup y=some .free:=hy
  rcases hy with hy | hy
  ·exact P5 hy
  ·exact absurd rfl (S.nofree _ (PySem.mem_of_lookup hy))
 ·exact Nat.le_of_lt (x.above y c (PySem.mem_of_lookup h))
 ·have hi:i<vs.length:=by
   unfold start at h2
   by_cases hi:i<vs.length
   ·exact hi
   ·rw[List.getElem?_append_right (by simpa using hi)] at h2
    rw[List.getElem?_replicate] at h2
    split at h2<;>cases h2
  have ha:vs[i]?=some v:=by
   unfold start at h2;rw[List.getElem?_append_left (by simpa using hi),List.getElem?_map] at h2
   cases e:vs[i]? with
   | none=>rw[e] at h2;cases h2
   | some a=>rw[e] at h2;cases h2;rfl
  obtain⟨u,hu,rv⟩:=r.get ha
  have hp:ps[i]?=some y:=by
   rw[<-S.pre,List.getElem?_take_of_lt (by omega)];exact h1
  have ndP:ps.Nodup:=by rw[<-S.pre];exact S.nd.sublist (List.take_sublist _ _)
  refine⟨u,rv,?_⟩
  rcases S.par y (List.mem_of_getElem? hp) with k | k
  ·exact .inl ⟨k,Qh ndP hp hu k⟩
  ·obtain⟨c,e⟩:=P5 (n:=s.heap.objs.size+1) k
   refine .inr ⟨.inl k,c,e,?_⟩
   have q:=x.cell y c e
   rw[Qi ndP hp hu (by show scope.names.lookup y≠_;rw[k];decide)] at q
   exact q
 ·exact e0.hok.fresh (Nat.le_of_lt (x.above y c (PySem.mem_of_lookup h)))
 ·unfold start
  show _=N.length
  rw[List.length_append,List.length_map,List.length_replicate];omega
theorem Gx{CX:Ky}{P:Program}{w:World}{K:PySem.W.Frag}{mg:Str->Option Value}{base:Heap}{k:Nat}{f:Addr}{name qual:Str}{params:Arguments}{body:List Stmt}{scope:Scope}{dV kV doc pm cdv ct oc:Value}{an od:Option Addr}
  {osl:Array (Option Value)} {N ps:List Str} {sp:Sp} (lk:K.lookup f=some ⟨oc,od,.func (PySem.W.fnOf name qual params body scope dV kV doc pm an cdv ct),osl⟩) (hcd:PySem.W.codeIn K cdv qual=true) (S:ZS N ps scope)
  (len:∀vs H Q E,sp vs H Q E->vs.length=ps.length)
  (hbody:∀(A:Around)(outer:List Env)(s:Shared)(H:Hp)(vs:List V)(Q:VK)(E:XK),Room k (A.deeper (envOfC qual scope s.heap.objs.size f cdv))->sp vs H Q E->
   ∃t,PSs (Sr CX P w K mg base N qual scope f cdv A outer s H E) body t/\t { nx:=fun _ H'=>Q .non H',rt:=Q } (start N vs) H) :
  UC P w K mg base CX (k+1) f (PySem.W.fnOf name qual params body scope dV kV doc pm an cdv ct) ps sp:=by
 refine⟨len,fun A outer s H args us vs Q E hr e0 hb r hsp=>?_⟩
 have hl:=len _ _ _ _ hsp
 have KX:K.In s.heap:=e0.mod.kin.keeps fun b o e=>(e0.bs b o e).1
 have lim:s.heap.NoLimit:=e0.mod.nolimit.keeps fun b o e=>(e0.bs b o e).1
 have hkind:∀y∈ps.zip us,scope.names.lookup y.1=some .local\/(scope.names.lookup y.1=some .cell/\((cellsFrom (s.heap.objs.size+1) scope.names []).lookup y.1).isSome=true):=fun⟨n,v⟩ hy=>by
  rcases S.par n (List.of_mem_zip hy).1 with q | q
  ·exact .inl q
  ·exact .inr ⟨q,PySem.W.cellsFrom_some _ _ _ (.inl q)⟩
 refine codeAny_call_function hr.depth (KX _ _ lk) rfl S.co S.gen rfl (PySem.W.codeRec_of KX hcd) (hb _ _ _ _ ?_)
 refine wpAny_newFunctionEnv_cells S.kind hkind fun env he s1 x=>?_
 subst he
 refine⟨lim.keeps x.toInCall.keep,codeAny_func ?_⟩
 obtain⟨t,ht,hq⟩:=hbody A outer s H vs Q E (hr.deeper _) hsp
 have I:Inv (Sr CX P w K mg base N qual scope f cdv A outer s H E) [] (start N vs) H s1:=Li S hr.hd e0 hl r x
 refine wpAny_mono (ht [] s1 (start N vs) H _ I hq) (fun fl s' hs=>?_) fun e s' hs=>hs
 have fin:∀{σ':St}{H':Hp}{v:V}{u:Value},Inv (Sr CX P w K mg base N qual scope f cdv A outer s H E) [] σ' H' s'->RelV v u->Q v H'->CE outer P w H s Q u s':=
  fun{σ' H' v u} J rv q=>⟨v,H',J.os,J.bare,J.base,J.hok,rv,q⟩
 cases fl with
 | ret u=>
  obtain⟨v,σ',H',J,rv,q⟩:=hs
  exact fin J rv q
 | next=>
  obtain⟨σ',H',J,q⟩:=hs
  exact fin (v:=V.non) (u:=Value.none) J rfl q
 | brk=>
  obtain⟨_,_,_,q⟩:=hs
  exact False.elim q
 | cont=>
  obtain⟨_,_,_,q⟩:=hs
  exact False.elim q
section
variable {X:Cx} {x:Str} {p pos:Pos} {e:Expr} {es:List Expr} {t:TA} {id T:String} {r:List V->Hp->VK->Prop}
def Dx(r:List V->Hp->VK->Prop)(t:TA):TE:=fun σ H Q=>t σ H fun vs H1=>r vs H1 Q
theorem UT(hc:XQ X (.builtin id) r)(hg:Gl X x)(hm:X.mg x=none)(hv:bootBuiltins x=some (.builtin id))(ha:PA X (e::es) t)(hn:x≠"__name__":=by decide)(hdb:(x==("__debug__" : Str))=false:=by decide)
  (he:starEach (e::es) X.env=(false,eval e X.env)::starEach es X.env:=by rfl) (hpl:(backTo pos (starEach es X.env)).any (·.1)=false:=by rfl):PE X (.Call (.Name x p) (e::es) [] pos) (Dx r t):=by
 intro pins s σ H Q I h
 refine wpAny_Call_Name_kw (Xy I hg hm hv ?_ hn hdb)
 exact PyProof.Rows.callWith_builtin1 (YT (ha pos pins s σ H _ I h) fun us s1 ⟨vs,H1,I1,r1,q1⟩=>hc pins s1 σ H1 vs us Q I1 r1 q1) he hpl
theorem Qj(hc:XQ X (.type T) r)(hg:Gl X x)(hm:X.mg x=none)(hv:bootBuiltins x=some (.type T))(ha:PA X (e::es) t)(hn:x≠"__name__":=by decide)(hdb:(x==("__debug__" : Str))=false:=by decide)
  (he:starEach (e::es) X.env=(false,eval e X.env)::starEach es X.env:=by rfl) (hpl:(backTo pos (starEach es X.env)).any (·.1)=false:=by rfl):PE X (.Call (.Name x p) (e::es) [] pos) (Dx r t):=by
 intro pins s σ H Q I h
 refine wpAny_Call_Name_kw (Xy I hg hm hv ?_ hn hdb)
 exact PyProof.Rows.callWith_type1 (YT (ha pos pins s σ H _ I h) fun us s1 ⟨vs,H1,I1,r1,q1⟩=>hc pins s1 σ H1 vs us Q I1 r1 q1) he hpl
end
end L2
namespace HT
open PySem PyProof.Rows
section
variable {prog:Program} {w:World} {A:Around} {E:Value->Shared->Prop} {s:Shared}
theorem cat_tup{t b:Addr}{vs ws:List Value}{Q:Value->Shared->Prop}(ht:IsTup s.heap t vs.toArray)(hb:IsTup s.heap b ws.toArray)(hv:vs≠[])
  (h1:ws=[]->Q (.ref t) s) (h2:ws≠[]->Q (.ref s.heap.objs.size) { s with heap:=s.heap.push { cls:=.type "tuple",data:=.seq (vs++ws).toArray } })
  (hsz:vs.length+ws.length<=sizeLine):wpAny (model prog w) A (binaryOp .Add (.ref t) (.ref b)) Q E s:=by
 obtain⟨⟨cls,dd,data,sl⟩,ho,hc,n,hd⟩:=id ht
 obtain⟨⟨cls2,dd2,data2,sl2⟩,ho2,hc2,n2,hd2⟩:=id hb
 simp only at hc hd hc2 hd2
 subst hc hd hc2 hd2
 have e:vs.toArray++ws.toArray=(vs++ws).toArray:=by simp
 by_cases hw:ws=[]
 ·exact concat_meets ⟨_,ho,rfl⟩ ⟨_,ho2,rfl⟩ noFill_tuple_add seq_tuple_add PySem.F.slot_tuple_add PySem.F.entry_tuple_add (PySem.F.args_tuple_add_2 _ _)
   (tuple_addW1 t b vs.toArray ws.toArray n n2 dd dd2 sl sl2 (by simpa using hv) (by simp[hw])) ⟨ho,ho2,h1 hw⟩
 ·refine concat_meets ⟨_,ho,rfl⟩ ⟨_,ho2,rfl⟩ noFill_tuple_add seq_tuple_add PySem.F.slot_tuple_add PySem.F.entry_tuple_add (PySem.F.args_tuple_add_2 _ _)
   (tuple_addW2 t b vs.toArray ws.toArray n n2 dd dd2 sl sl2 (by simpa using hv) (by simpa using hw) (by rw[List.size_toArray,List.size_toArray];exact hsz)) ⟨ho,ho2,?_⟩
  rw[e]
  exact h2 hw
def sIx(n d:Nat):Option Int->Nat
 | none=>d
 | some v=>if v<0 then(v+(n:Int)).toNat else min v.toNat n
theorem sIx_none(n d:Nat):sIx n d none=d:=rfl
theorem sIx_nat(n d k:Nat):sIx n d (some (k:Int))=min k n:=by
 show(if(k:Int)<0 then((k:Int)+(n:Int)).toNat else min (k:Int).toNat n)=min k n
 rw[if_neg (by omega),Int.toNat_natCast]
theorem Fi(n d:Nat)(hd:d<=n)(o:Option Int):sIx n d o<=n:=by
 cases o with
 | none=>exact hd
 | some v=>
  show(if v<0 then(v+(n:Int)).toNat else min v.toNat n)<=n
  by_cases hv:v<0
  ·rw[if_pos hv];omega
  ·rw[if_neg hv];exact Nat.min_le_right _ _
theorem Mq(v:Int)(n d:Nat):(if v<0 then max (v+(n:Int)) 0 else min v (n:Int))=((sIx n d (some v):Nat):Int):=by
 show(if v<0 then max (v+(n:Int)) 0 else min v (n:Int))=(((if v<0 then(v+(n:Int)).toNat else min v.toNat n):Nat):Int)
 by_cases hv:v<0
 ·simp only[if_pos hv];omega
 ·simp only[if_neg hv];omega
theorem Nu(lo hi:Option Int)(n:Nat):Builtin.Slice.sliceAdjust lo hi 1 (n:Int)=(((sIx n 0 lo:Nat):Int),((sIx n n hi:Nat):Int)):=by
 have h1:¬((1:Int)<0):=by omega
 unfold Builtin.Slice.sliceAdjust;simp only[h1,if_false]
 refine Prod.ext ?_ ?_
 ·cases lo with
  | none=>rfl
  | some v=>exact Mq v n 0
 ·cases hi with
  | none=>rfl
  | some v=>exact Mq v n n
theorem Nv(i j:Nat):Builtin.Slice.slicePlaces (i:Int) (j:Int) 1=j-i:=by
 unfold Builtin.Slice.slicePlaces
 have h1:(1:Int)>0:=by omega
 simp only[h1,if_true,Int.ediv_one]
 split<;>omega
theorem UD{v:Value}{o:Option Int}{Q:Option Int->Shared->Prop}(p:IsPart v o)(h:Q o s):wpAny (model prog w) A (Builtin.Slice.slicePartIndex v) Q E s:=by
 cases p with
 | none=>exact slicePart_none h
 | int i t=>exact slicePart_int h
theorem WL{sl:Addr}{vl vu:Value}{lo hi:Option Int}{n:Nat}{Q:Int×Int×Nat->Shared->Prop}(hs:s.heap.IsSliceOf sl vl vu .none)(pl:IsPart vl lo)(pu:IsPart vu hi)
  (h:Q (((sIx n 0 lo:Nat):Int),1,sIx n n hi-sIx n 0 lo) s):wpAny (model prog w) A (Builtin.Slice.sliceApplied (.ref sl) (pure (n:Int))) Q E s:=by
 obtain⟨os,hos,hcs,hds⟩:=id hs
 unfold Builtin.Slice.sliceApplied Builtin.Slice.sliceFields
 refine wpAny_bind (wpAny_bind (wpAny_field hos hds (x:=vl) rfl (wpAny_bind (wpAny_field hos hds (x:=vu) rfl (wpAny_bind (wpAny_field hos hds (x:=.none) rfl (wpAny_pure ?_)))))))
 refine wpAny_bind (slicePart_none ?_)
 show wpAny _ _ (if((1:Int)==0)=true then _ else _) _ _ s
 rw[if_neg (by decide)]
 refine wpAny_bind (UD pl (wpAny_bind (UD pu (wpAny_bind (wpAny_pure ?_)))))
 show wpAny _ _ (match Builtin.Slice.sliceAdjust lo hi 1 (n:Int) with | (lo,hi)=>pure (lo,(1:Int),Builtin.Slice.slicePlaces lo hi 1)) _ _ s
 rw[Nu lo hi n]
 show wpAny _ _ (pure (((sIx n 0 lo:Nat):Int),(1:Int),Builtin.Slice.slicePlaces ((sIx n 0 lo:Nat):Int) ((sIx n n hi:Nat):Int) 1)) _ _ s
 rw[Nv]
 exact wpAny_pure h
theorem KD(xs:Array Value)(i k:Nat):((List.range k).filterMap fun(m:Nat)=>xs[((i:Int)+(m:Int)*1).toNat]?).toArray=((xs.toList.drop i).take k).toArray:=by
 have e:(fun(m:Nat)=>xs[((i:Int)+(m:Int)*1).toNat]?)=fun m=>xs[i+m]?:=by
  funext m
  have:((i:Int)+(m:Int)*1).toNat=i+m:=by omega
  rw[this]
 rw[e]
 have:=pick_run xs i k
 rw[List.filterMap_map] at this
 have e2:((fun x=>xs[x]?) ∘ fun x=>i+x)=fun m=>xs[i+m]?:=rfl
 rw[e2] at this;rw[this]
theorem getItem_tuple_cut{t sl:Addr}{items:Array Value}{vl vu:Value}{lo hi:Option Int}{Q:Value->Shared->Prop}(ht:IsTup s.heap t items)(hs:s.heap.IsSliceOf sl vl vu .none)(pl:IsPart vl lo)(pu:IsPart vu hi)
  (hw:¬(sIx items.size 0 lo=0/\sIx items.size items.size hi=items.size))
  (h:Q (.ref s.heap.objs.size) { s with heap:=s.heap.push { cls:=.type "tuple",data:=.seq ((items.toList.drop (sIx items.size 0 lo)).take (sIx items.size items.size hi-sIx items.size 0 lo)).toArray } })
  (hsz:items.size<=sizeLine):wpAny (model prog w) A (getItem (.ref t) (.ref sl)) Q E s:=by
 have htake:sizeOk (.seq ((items.toList.drop (sIx items.size 0 lo)).take (sIx items.size items.size hi-sIx items.size 0 lo)).toArray):=by
  show((items.toList.drop (sIx items.size 0 lo)).take (sIx items.size items.size hi-sIx items.size 0 lo)).toArray.size<=sizeLine
  rw[List.size_toArray,List.length_take,List.length_drop,Array.length_toList];omega
 have hj:sIx items.size items.size hi<=items.size:=Fi _ _ (Nat.le_refl _) hi
 obtain⟨os,hos,hcs,hds⟩:=id hs
 have hTs:s.TypeIs (.ref sl) "slice":=⟨os,hos,hcs⟩
 unfold getItem
 try with_reducible refine wpAny_holding ?_
 first | refine wpAny_bind (wpAny_pure ?_) | skip
 refine wpAny_bind (wpAny_sequenceKey ht.typeIs (by decide) ?_)
 refine wpAny_bind (wpAny_callSpecial?_slot (name:=Str.ofString "__getitem__") ht.typeIs PyProof.Rows.slot_tuple_getitem
  (wpAny_call_entry PyProof.Rows.slot_tuple_getitem ht.typeIs entry_tuple_getitem ?_ (args_tuple_getitem _ _)))
 show wpAny _ _ (Builtin.Tuple.tupleItemsOf (.ref t) >>= _) _ _ s
 refine wpAny_bind (tupleItemsOf_ ht ?_)
 refine wpAny_bind (wpAny_typeOf hTs ?_)
 rw[if_pos (by decide)]
 refine wpAny_bind (WL hs pl pu ?_)
 have hno:¬((((sIx items.size 0 lo:Nat):Int)==0&&(1:Int)==1&&(sIx items.size items.size hi-sIx items.size 0 lo)==items.size)=true):=by
  intro q;rw[Bool.and_eq_true,Bool.and_eq_true] at q
  have q1:((sIx items.size 0 lo:Nat):Int)=0:=eq_of_beq q.1.1
  have q2:sIx items.size items.size hi-sIx items.size 0 lo=items.size:=eq_of_beq q.2
  exact hw ⟨by omega,by omega⟩
 show wpAny _ _ (if(((sIx items.size 0 lo:Nat):Int)==0&&(1:Int)==1&&(sIx items.size items.size hi-sIx items.size 0 lo)==items.size)=true then _ else _) _ _ s
 rw[if_neg hno,KD]
 first
  | exact wpAny_bind (m:=Builtin.Tuple.tupleExact _) (wpAny_newObj_type (wpAny_pure ⟨_,rfl,wpAny_pure h⟩) htake)
  | exact wpAny_bind (m:=Builtin.Tuple.tupleExact _) (wpAny_newObj_type (wpAny_bind (wpAny_pure (wpAny_pure ⟨_,rfl,wpAny_pure h⟩))) htake)
  | exact wpAny_bind (wpAny_bind (m:=Builtin.Tuple.tupleExact _) (wpAny_newObj_type (wpAny_pure (wpAny_pure ⟨_,rfl,wpAny_pure h⟩)) htake))
  | exact wpAny_bind (wpAny_bind (m:=Builtin.Tuple.tupleExact _) (wpAny_newObj_type (wpAny_pure ⟨_,rfl,wpAny_pure h⟩) htake))
end
end HT
namespace L2
open PySem PySem.Spec PyProof.Rows
abbrev TO:=St->Hp->(Option Int->Hp->Prop)->Prop
def PO(X:Cx)(e:Option Expr)(t:TO):Prop:=
 ∀(pins:List (Addr×Obj))(s:Shared)(σ:St)(H:Hp)(Q:Option Int->Hp->Prop),Inv X pins σ H s->t σ H Q->
  wpAny (model X.prog X.w) X.A (evalPart e X.env) (fun u s'=>∃o H',Inv X pins σ H' s'/\IsPart u o/\Q o H') X.xe s
def IF:TO:=fun _ H Q=>Q none H
def EM(t:TE):TO:=fun σ H Q=>t σ H fun x H1=>∃i,x = .int i/\Q (some i) H1
theorem W8{ns:List Int}:∀{us:List Value},Vals (ns.map V.int) us->IntsAre us ns:=by
 induction ns with
 | nil=>intro us r;rw[List.map_nil] at r;cases r;exact .nil
 | cons n ns ih=>
  intro us r;rw[List.map_cons] at r
  cases r with
  | cons r1 r2=>
   obtain⟨t,e⟩:=r1
   subst e
   exact .cons n t (ih r2)
section
variable {X:Cx} {e:Expr} {te:TE} {lo hi:Option Expr} {tl th:TO} {pos p2:Pos}
theorem IG:PO X none IF:=by
 intro pins s σ H Q I h;rw[evalPart_none]
 exact wpAny_pure ⟨none,H,I,.none,h⟩
theorem Mr(h:PE X e te):PO X (some e) (EM te):=by
 intro pins s σ H Q I hw;rw[evalPart_some]
 refine YT (h pins s σ H _ I hw) fun u s1 ⟨x,H1,I1,r1,q1⟩=>?_
 obtain⟨i,rfl,q⟩:=q1
 obtain⟨t,rfl⟩:=r1
 exact⟨some i,H1,I1,.int i t,q⟩
def Dy(X:Cx)(r:V->Option Int->Option Int->Hp->VK->Prop):Prop:=
 ∀(pins:List (Addr×Obj))(s:Shared)(σ:St)(H:Hp)(x:V)(v vl vu:Value)(lo hi:Option Int)(sl:Addr)(Q:VK),Inv X pins σ H s->RelV x v->s.heap.IsSliceOf sl vl vu .none->IsPart vl lo->IsPart vu hi->r x lo hi H Q->
  ∃T id,typeLookup (.type T) "__getitem__" = pure (some (.builtin id))/\s.TypeIs v T/\wpAny (model X.prog X.w) X.A (getItem v (.ref sl)) (EP X pins σ Q) X.xe s
def Cy(r:V->Option Int->Option Int->Hp->VK->Prop)(te:TE)(tl th:TO):TE:=fun σ H Q=>te σ H fun x H1=>tl σ H1 fun l H2=>th σ H2 fun u H3=>r x l u H3 Q
theorem P6{r:V->Option Int->Option Int->Hp->VK->Prop}(hr:Dy X r)(he:PE X e te)(hl:PO X lo tl)(hu:PO X hi th):PE X (.Subscript e (.Slice lo hi none p2) pos) (Cy r te tl th):=by
 intro pins s σ H Q I h
 refine Subscript_ (YT (he pins s σ H _ I h) fun v s1 ⟨x,H1,I1,r1,q1⟩=>?_)
 refine wpAny_Slice (YT (hl pins s1 σ H1 _ I1 q1) fun vl s2 ⟨l,H2,I2,pl,q2⟩=>YT (hu pins s2 σ H2 _ I2 q2) fun vu s3 ⟨u,H3,I3,pu,q3⟩=>?_)
 rw[evalPart_none]
 refine wpAny_pure ?_
 have I4:Inv X pins σ H3 { s3 with heap:=s3.heap.push { cls:=.type "slice",data:=.fields #[vl,vu,.none] } }:=I3.kept (t':=s3.toks) fun b ob q=>Heap.get?_push_of_some _ q
 obtain⟨T,id,hT,ht,hg⟩:=hr pins { s3 with heap:=s3.heap.push { cls:=.type "slice",data:=.fields #[vl,vu,.none] } } σ H3 x v vl vu l u s3.heap.objs.size Q I4 r1 (Heap.IsSliceOf.new ..) pl pu q3
 show wpAny (model X.prog X.w) X.A (subscriptTail e (.Slice lo hi none p2) v (.ref s3.heap.objs.size)) (EP X pins σ Q) X.xe { s3 with heap:=s3.heap.push { cls:=.type "slice",data:=.fields #[vl,vu,.none] } }
 exact tail_any (ops:=[.ref s3.heap.objs.size,v]) ht hT hg (by with_unfolding_all rfl)
def QY(xs:List V)(lo hi:Option Int):List V:=(xs.drop (HT.sIx xs.length 0 lo)).take (HT.sIx xs.length xs.length hi-HT.sIx xs.length 0 lo)
theorem Sg(xs:List V)(lo hi:Option Int):(QY xs lo hi).length<=xs.length:=by
 unfold QY;rw[List.length_take,List.length_drop];omega
def D3(K:PySem.W.Frag):V->Option Int->Option Int->Hp->VK->Prop:=fun x lo hi H Q=>∃a xs,x = .ref a/\SqT K H a xs/\
 ¬(HT.sIx xs.length 0 lo=0/\HT.sIx xs.length xs.length hi=xs.length)/\∀p,H p=none->Q (.ref p) (upd H p (.tup (QY xs lo hi)))
theorem Fj:Dy X (D3 X.K):=by
 intro pins s σ H x v vl vu lo hi sl Q I rx hs pl pu h
 obtain⟨a,xs,rfl,hx,hw,q⟩:=h
 cases rx
 obtain⟨its,r,ht,hz⟩:=I.tuple hx
 have hlen:its.toArray.size=xs.length:=by rw[List.size_toArray];exact r.length.symm
 refine⟨"tuple",_,PyProof.Rows.slot_tuple_getitem.lookup,ht.typeIs,?_⟩
 refine HT.getItem_tuple_cut ht hs pl pu (by rw[hlen];exact hw) ?_ (by rw[hlen];exact hz)
 rw[hlen]
 refine⟨.ref s.heap.objs.size,_,I.laid (t':=s.toks) (o:=.tup (QY xs lo hi)) (fun b ob q=>Heap.get?_push_of_some _ q) (Nat.le_refl _) ?_,rfl,q _ (I.hok.fresh (Nat.le_refl _))⟩
 exact⟨⟨Nat.le_trans (Sg xs lo hi) hz,fun o e=>SS e⟩,_,(r.drop (HT.sIx xs.length 0 lo)).take (HT.sIx xs.length xs.length hi-HT.sIx xs.length 0 lo),IsTup.new _ _⟩
def EN(K:PySem.W.Frag):R2:=fun x y H Q=>∃a b xs ys,x = .ref a/\y = .ref b/\SqT K H a xs/\SqT K H b ys/\xs≠[]/\xs.length+ys.length<=sizeLine/\
 (ys=[]->Q (.ref a) H)/\(ys≠[]->∀p,H p=none->Q (.ref p) (upd H p (.tup (xs++ys))))
theorem Vals.nil_iff{xs:List V}{us:List Value}(r:Vals xs us):us=[]↔xs=[]:=by
 cases r with
 | nil=>simp
 | cons _ _=>simp
theorem IH:UB X (binaryOp .Add) (EN X.K):=by
 intro pins s σ H x y v u Q I rx ry h
 obtain⟨a,b,xs,ys,rfl,rfl,ha,hb,hx,hz,q1,q2⟩:=h
 cases rx;cases ry
 obtain⟨its,r1,p1,_⟩:=I.tuple ha
 obtain⟨its2,r2,p2,_⟩:=I.tuple hb
 refine HT.cat_tup p1 p2 (fun z=>hx (r1.nil_iff.mp z)) (fun z=>⟨.ref a,H,I,rfl,q1 (r2.nil_iff.mp z)⟩) (fun z=>?_) (by rw[<-r1.length,<-r2.length];exact hz)
 refine⟨.ref s.heap.objs.size,_,I.laid (t':=s.toks) (o:=.tup (xs++ys)) (fun b ob q=>Heap.get?_push_of_some _ q) (Nat.le_refl _) ?_,rfl,q2 (fun w=>z (r2.nil_iff.mpr w)) _ (I.hok.fresh (Nat.le_refl _))⟩
 exact⟨⟨by rw[List.length_append];exact hz,fun o e=>SS e⟩,_,r1.append r2,IsTup.new _ _⟩
end
def Nj(n:Nat)(i:Int):Option Nat:=if 0<=i then(if i<n then some i.toNat else none) else if -(n:Int)<=i then some (i+n).toNat else none
def Sz{α:Type}(xs:List α)(i:Int):Option α:=(Nj xs.length i).bind fun j=>xs[j]?
theorem Ms{n:Nat}{i:Int}{j:Nat}(h:Nj n i=some j):seqIndex? i n=some j/\j<n/\-(n:Int)<=i/\i<n:=by
 unfold Nj at h
 by_cases h0:0<=i
 ·rw[if_pos h0] at h
  by_cases h1:i<n
  ·rw[if_pos h1] at h
   have e:i.toNat=j:=Option.some.inj h
   exact⟨by rw[seqIndex_of h0 h1,e],by omega,by omega,h1⟩
  ·rw[if_neg h1] at h;cases h
 ·rw[if_neg h0] at h
  by_cases h1 : -(n:Int)<=i
  ·rw[if_pos h1] at h
   have e:(i+n).toNat=j:=Option.some.inj h
   exact⟨by rw[seqIndex_neg (by omega) h1,e],by omega,h1,by omega⟩
  ·rw[if_neg h1] at h;cases h
theorem QZ{α:Type}{xs:List α}{i:Int}{v:α}(h:Sz xs i=some v):∃j,seqIndex? i xs.length=some j/\xs[j]?=some v/\j<xs.length/\-(xs.length:Int)<=i/\i<xs.length:=by
 unfold Sz at h
 cases e:Nj xs.length i with
 | none=>rw[e] at h;cases h
 | some j=>
  rw[e] at h
  obtain⟨h1,h2,h3,h4⟩:=Ms e
  exact⟨j,h1,h,h2,h3,h4⟩
theorem SA{α:Type}{xs:List α}{j:Nat}{v:α}(h:xs[j]?=some v):Sz xs (j:Int)=some v:=by
 have hj:j<xs.length:=(List.getElem?_eq_some_iff.mp h).1
 have e:Nj xs.length (j:Int)=some j:=by
  unfold Nj
  rw[if_pos (by omega),if_pos (by omega)];simp
 unfold Sz;rw[e];exact h
def Q0(b:Expr):Prop:=∀o i,subscripted b false o i=operate [o,i] (getItem o i)
def IxR(X:Cx)(r:R2):Prop:=
 ∀(value slice:Expr)(pins:List (Addr×Obj))(s:Shared)(σ:St)(H:Hp)(x y:V)(v u:Value)(Q:VK),Inv X pins σ H s->RelV x v->RelV y u->r x y H Q->
  subscripted slice false v u=operate [v,u] (getItem v u)->wpAny (model X.prog X.w) X.A (subscriptTail value slice v u) (EP X pins σ Q) X.xe s
def Cn(X:Cx)(id:String)(r:V->List V->Hp->VK->Prop):Prop:=
 ∀(pins:List (Addr×Obj))(s:Shared)(σ:St)(H:Hp)(x:V)(xs:List V)(v:Value)(us:List Value)(Q:VK),Inv X pins σ H s->RelV x v->Vals xs us->r x xs H Q->
  wpAny (model X.prog X.w) X.A (call (.builtin id) (v::us)) (EP X pins σ Q) X.xe s
section
variable {X:Cx} {a b:Expr} {ta tb:TE} {pos:Pos}
theorem IxR.or{r r':R2}(h:IxR X r)(h':IxR X r'):IxR X (fun x y H Q=>r x y H Q\/r' x y H Q):=by
 intro value slice pins s σ H x y v u Q I rx ry q hs
 rcases q with q | q
 ·exact h value slice pins s σ H x y v u Q I rx ry q hs
 ·exact h' value slice pins s σ H x y v u Q I rx ry q hs
theorem P7{r:R2}(hr:IxR X r)(ha:PE X a ta)(hb:PE X b tb)(hs:Q0 b):PE X (.Subscript a b pos) (En r ta tb):=by
 intro pins s σ H Q I h
 exact Subscript_ (G7 ha hb I h fun v u s2 x y H2 I2 rx ry q=>hr a b pins s2 σ H2 x y v u Q I2 rx ry q (hs _ _))
def Fm(K:PySem.W.Frag):R2:=fun x y H Q=>∃p xs i v,x = .ref p/\y = .int i/\SqL K H p xs/\Sz xs i=some v/\Q v H
def EO(K:PySem.W.Frag):R2:=fun x y H Q=>∃p xs i v,x = .ref p/\y = .int i/\SqT K H p xs/\Sz xs i=some v/\Q v H
def ER:R2:=fun x y H Q=>∃z i c,x = .str z/\y = .int i/\z.length<=sizeLine/\Sz z.cps.toList i=some c/\Q (.str ⟨#[c]⟩) H
theorem ix_list:IxR X (Fm X.K):=by
 intro value slice pins s σ H x y v u Q I rx ry h hs
 obtain⟨p,xs,i,z,rfl,rfl,hq,he,q⟩:=h
 cases rx
 obtain⟨t,rfl⟩:=ry
 obtain⟨its,r,pl,hz⟩:=I.list hq
 obtain⟨j,h1,h2,h3,h4,h5⟩:=QZ he
 obtain⟨w,ew,RO⟩:=r.get h2
 have hl:=r.length;have hn:=TJ
 have fin:EP X pins σ Q w s:=⟨z,H,I,RO,q⟩
 by_cases h0:0<=i
 ·have hj:i.toNat=j:=by
   rw[seqIndex_of h0 h5] at h1
   exact Option.some.inj h1
  exact item_listR pl.isList h0 (by omega) (by rw[hj];simpa using ew) fin hs
 ·have hj:(i+(its.toArray.size:Int)).toNat=j:=by
   rw[seqIndex_neg (by omega) h4] at h1;rw[List.size_toArray,<-hl]
   exact Option.some.inj h1
  exact subscriptTail_builtinR (x:=w) pl.isList.typeIs slot_list_getitem.lookup
   (wpAny_getItem_list_neg (Q:=fun r s'=>r=w/\EP X pins σ Q r s') pl.isList (by omega) (by rw[List.size_toArray]<;>omega) (by omega) (by rw[hj];simpa using ew) ⟨rfl,fin⟩) hs
theorem ix_tup:IxR X (EO X.K):=by
 intro value slice pins s σ H x y v u Q I rx ry h hs
 obtain⟨p,xs,i,z,rfl,rfl,hq,he,q⟩:=h
 cases rx
 obtain⟨t,rfl⟩:=ry
 obtain⟨its,r,pl,hz⟩:=I.tuple hq
 obtain⟨j,h1,h2,h3,h4,h5⟩:=QZ he
 obtain⟨w,ew,RO⟩:=r.get h2
 have hl:=r.length;have hn:=TJ
 have fin:EP X pins σ Q w s:=⟨z,H,I,RO,q⟩
 exact subscriptTail_builtinR (x:=w) pl.typeIs slot_tuple_getitem.lookup
  (getItem_tuple (j:=j) (Q:=fun r s'=>r=w/\EP X pins σ Q r s') pl (by omega) (by omega) (by rw[List.size_toArray,<-hl];exact h1) (by simpa using ew) ⟨rfl,fin⟩) hs
theorem Fo:IxR X ER:=by
 intro value slice pins s σ H x y v u Q I rx ry h hs
 obtain⟨z,i,c,rfl,rfl,hz,he,q⟩:=h
 obtain⟨t,rfl⟩:=rx
 obtain⟨t',rfl⟩:=ry
 obtain⟨j,h1,h2,h3,h4,h5⟩:=QZ he
 have hl:z.cps.toList.length=z.length:=by simp[Str.length]
 rw[hl] at h1 h4 h5
 have hn:=TJ
 exact tail_any (typeIs_str s z t) slot_str_getitem.lookup (getItem_str (c:=c) (by
  have e1:decide (i < -(2^63:Int))=false:=decide_eq_false (by omega)
  have e2:decide (i ≥ 2^63)=false:=decide_eq_false (by omega)
  rw[e1,e2,Bool.or_false]) (by rw[h1];simpa using h2) ⟨.str ⟨#[c]⟩,H,I.tok _,⟨_,rfl⟩,q⟩) hs
def Co(K:PySem.W.Frag):R2:=fun x y H Q=>Fm K x y H Q\/EO K x y H Q\/ER x y H Q
theorem Fp:IxR X (Co X.K):=ix_list.or (ix_tup.or Fo)
theorem Nw(its:List Value)(n j:Nat)(u:Value):Obj.mapSeq (·.setIfInBounds j u) { cls:=.type "list",data:=.seq its.toArray n }={ cls:=.type "list",data:=.seq (its.set j u).toArray n }:=by
 simp[Obj.mapSeq]
theorem Inv.lst{pins:List (Addr×Obj)}{σ:St}{H:Hp}{s:Shared}{p:Addr}{xs:List V}(I:Inv X pins σ H s)(h:H p=some (.lst xs)) :
  ∃(its:List Value) (n:Nat),Vals xs its/\s.heap.get? p=some { cls:=.type "list",data:=.seq its.toArray n }/\xs.length<=sizeLine:=by
 obtain⟨z,its,n,r,e⟩:=I.hok p _ h
 exact⟨its,n,r,e,z⟩
theorem Inv.lstUpd{pins:List (Addr×Obj)}{σ:St}{H:Hp}{s:Shared}{p:Addr}{xs ys:List V}{its its':List Value}{n n':Nat}{f:Obj->Obj}(I:Inv X pins σ H s)(h:H p=some (.lst xs))
  (ho:s.heap.get? p=some { cls:=.type "list",data:=.seq its.toArray n }) (hf:f { cls:=.type "list",data:=.seq its.toArray n }={ cls:=.type "list",data:=.seq its'.toArray n' }) (r:Vals ys its') (hz:ys.length<=sizeLine) (t:Nat) :
  Inv X pins σ (upd H p (.lst ys)) { s with heap:=s.heap.update p f,toks:=t }:=by
 have e:(s.heap.update p f).get? p=some { cls:=.type "list",data:=.seq its'.toArray n' }:=by
  rw[Heap.get?_update_self f ho (by rw[hf]<;>rfl),hf]
 refine I.write (x:=p) (e:=p) (by rw[h];trivial) (.inl rfl) (fun b u hb q=>(Heap.get?_update_other _ _ (Ne.symm hb)).trans q) ⟨_,e⟩ ?_
 exact⟨hz,its',n',r,e⟩
def KG:V->V->V->Hp->(Hp->Prop)->Prop:=fun o i v H Q=>∃p xs k j,o = .ref p/\i = .int k/\H p=some (.lst xs)/\Nj xs.length k=some j/\Q (upd H p (.lst (xs.set j v)))
theorem Vy:EC X KG:=by
 intro pins s σ H o i v ov iv u Q I ro ri rv h
 obtain⟨p,xs,k,j,rfl,rfl,hp,hj,q⟩:=h
 cases ro
 obtain⟨t,rfl⟩:=ri
 obtain⟨its,n,r,ho,hz⟩:=I.lst hp
 obtain⟨h1,h2,h3,h4⟩:=Ms hj
 have hl:=r.length;have hn:=TJ
 have I':Inv X pins σ (upd H p (.lst (xs.set j v))) { s with heap:=s.heap.update p (Obj.mapSeq (·.setIfInBounds j u)) }:=
  I.lstUpd hp ho (Nw its n j u) (r.set rv j) (by rw[List.length_set];exact hz) s.toks
 by_cases h0:0<=k
 ·have hk:k.toNat=j:=by
   rw[seqIndex_of h0 h4] at h1
   exact Option.some.inj h1
  exact PySem.W.ki_setAt ho h0 (by omega) (by rw[List.size_toArray,<-hl];exact h4) (by rw[hk];exact⟨_,I',q⟩)
 ·have hk:(k+(its.toArray.size:Int)).toNat=j:=by
   rw[seqIndex_neg (by omega) h3] at h1;rw[List.size_toArray,<-hl]
   exact Option.some.inj h1
  exact PySem.W.ki_setBack ho (by omega) (by rw[List.size_toArray,<-hl];exact h3) (by omega) (by rw[hk];exact⟨_,I',q⟩)
theorem Q1(lo hi:Option Int)(n:Nat):(sliceBounds lo hi none n).1=((HT.sIx n 0 lo:Nat):Int)/\(sliceBounds lo hi none n).2.1=((HT.sIx n n hi:Nat):Int)/\(sliceBounds lo hi none n).2.2=1:=by
 refine⟨?_,?_,rfl⟩
 ·cases lo with
  | none=>simp[sliceBounds,HT.sIx]
  | some i=>
   simp only[sliceBounds,HT.sIx,Option.getD_none,show(1:Int)>0 by decide,if_true]
   by_cases h:i<0
   ·simp only[h,if_true]<;>omega
   ·simp only[h,if_false]<;>omega
 ·cases hi with
  | none=>simp[sliceBounds,HT.sIx]
  | some i=>
   simp only[sliceBounds,HT.sIx,Option.getD_none,show(1:Int)>0 by decide,if_true]
   by_cases h:i<0
   ·simp only[h,if_true]<;>omega
   ·simp only[h,if_false]<;>omega
theorem RX(its:List Value)(lo hi:Option Int):slicePick its.toArray lo hi none=((its.drop (HT.sIx its.length 0 lo)).take (HT.sIx its.length its.length hi-HT.sIx its.length 0 lo)).toArray:=by
 obtain⟨h1,h2,h3⟩:=Q1 lo hi its.toArray.size
 unfold slicePick;rw[h1,h2,h3]
 simp only[sliceRange_one,pick_run,List.size_toArray]<;>rfl
def D4(K:PySem.W.Frag):V->Option Int->Option Int->Hp->VK->Prop:=fun x lo hi H Q=>∃a xs,x = .ref a/\SqL K H a xs/\∀p,H p=none->Q (.ref p) (upd H p (.lst (QY xs lo hi)))
theorem II:Dy X (D4 X.K):=by
 intro pins s σ H x v vl vu lo hi sl Q I rx hs pl pu h
 obtain⟨a,xs,rfl,hx,q⟩:=h
 cases rx
 obtain⟨its,r,ht,hz⟩:=I.list hx
 have hlen:=r.length
 refine⟨"list",_,slot_list_getitem.lookup,ht.isList.typeIs,?_⟩
 refine wpAny_getItem_list_slice ht.isList hs pl pu .none (by simp) ?_ (by rw[List.size_toArray]<;>omega)
 rw[RX,<-hlen]
 refine⟨.ref s.heap.objs.size,_,I.laid (t':=s.toks) (o:=.lst (QY xs lo hi)) (fun b ob q=>Heap.get?_push_of_some _ q) (Nat.le_refl _) ?_,rfl,q _ (I.hok.fresh (Nat.le_refl _))⟩
 exact⟨Nat.le_trans (Sg xs lo hi) hz,_,0,(r.drop (HT.sIx xs.length 0 lo)).take (HT.sIx xs.length xs.length hi-HT.sIx xs.length 0 lo),Heap.get?_push_size _ rfl⟩
theorem UU:XQ X (.type "list") (fun xs H Q=>∃p ys,xs=[.ref p]/\(SqL X.K H p ys\/SqT X.K H p ys)/\∀l,H l=none->Q (.ref l) (upd H l (.lst ys))):=by
 intro pins s σ H xs us Q I r h
 obtain⟨p,ys,rfl,hq,q⟩:=h
 obtain⟨u,rfl,rx⟩:=Us r
 cases rx
 have fin:∀(its:List Value),Vals ys its->ys.length<=sizeLine->∀(h':Heap)(c':Nat),(∀b o',s.heap.get? b=some o'->h'.get? b=some o')->
   h'.get? s.heap.objs.size=some { cls:=.type "list",dict:=none,data:=.seq its.toArray c',slots:=#[] }->EP X pins σ Q (.ref s.heap.objs.size) { s with heap:=h' }:=fun its r' hz h' c' kp e=>
  ⟨.ref s.heap.objs.size,_,I.laid (t':=s.toks) kp (Nat.le_refl _) (show ObjOk X.prog X.w _ h' _ (.lst ys) from⟨hz,its,c',r',e⟩),rfl,q _ (I.hok.fresh (Nat.le_refl _))⟩
 rcases hq with hq | hq
 ·obtain⟨its,r',pl,hz⟩:=I.list hq
  have hlen:=r'.length
  obtain⟨o,ho,hc,n,hd⟩:=pl.isList
  exact call_list_seq p (.inl rfl) ho hc hd (fun h' c' kp e=>fin its r' hz h' c' kp e) (by simp only[List.size_toArray]<;>omega)
 ·obtain⟨its,r',pl,hz⟩:=I.tuple hq
  have hlen:=r'.length
  obtain⟨o,ho,hc,n,hd⟩:=pl
  exact call_list_seq p (.inr rfl) ho hc hd (fun h' c' kp e=>fin its r' hz h' c' kp e) (by simp only[List.size_toArray]<;>omega)
theorem ZR:XQ X (.type "tuple") (fun xs H Q=>∃p ys,xs=[.ref p]/\((SqL X.K H p ys/\∀l,H l=none->Q (.ref l) (upd H l (.tup ys)))\/(SqT X.K H p ys/\Q (.ref p) H))):=by
 intro pins s σ H xs us Q I r h
 obtain⟨p,ys,rfl,h⟩:=h
 obtain⟨u,rfl,rx⟩:=Us r
 cases rx
 rcases h with⟨hq,q⟩ | ⟨hq,q⟩
 ·obtain⟨its,r',pl,hz⟩:=I.list hq
  have hlen:=r'.length
  refine call_tuple_list pl.isList (fun h' kp=>?_) (by simp only[List.size_toArray]<;>omega)
  have I1:Inv X pins σ H { s with heap:=h' }:=I.kept (t':=s.toks) kp
  have I2:Inv X pins σ (upd H h'.objs.size (.tup ys)) { s with heap:=h'.push { cls:=.type "tuple",data:=.seq its.toArray } }:=
   I1.laid (t':=s.toks) (fun b o e=>Heap.get?_push_of_some _ e) (Nat.le_refl _) (show ObjOk X.prog X.w _ _ _ (.tup ys) from⟨⟨hz,fun o e=>SS e⟩,its,r',IsTup.new _ _⟩)
  exact⟨.ref h'.objs.size,_,I2,rfl,q _ (I1.hok.fresh (Nat.le_refl _))⟩
 ·obtain⟨its,r',pl,hz⟩:=I.tuple hq
  exact call_tuple_same pl ⟨.ref p,H,I,rfl,q⟩
def D5(K:PySem.W.Frag)(T:String)(x:V)(H:Hp):Prop:=match x with
 | .str _=>T = "str"
 | .int _=>T = "int"
 | .ref p=>(T = "list"/\∃xs,SqL K H p xs)\/(T = "tuple"/\∃o,K.lookup p=some o/\o.cls = .type "tuple"/\o.dict=none)\/
   (T = "dict"/\((∃kvs,H p=some (.dK kvs))\/∃kvs,H p=some (.dT kvs)))\/(T = "set"/\∃S n,H p=some (.set S n))\/(T = "tuple"/\∃xs,H p=some (.tup xs))
 | _=>False
theorem Fq{pins:List (Addr×Obj)}{σ:St}{H:Hp}{s:Shared}{T:String}{x:V}{v:Value}(I:Inv X pins σ H s)(r:RelV x v)(ty:D5 X.K T x H) :
  s.TypeIs v T/\∀a,v = .ref a->∃ob,s.heap.get? a=some ob/\ob.dict=none:=by
 cases x with
 | str z=>
  obtain⟨t,rfl⟩:=r
  cases (show T = "str" from ty)
  exact⟨typeIs_str s z t,fun _ e=>nomatch e⟩
 | int i=>
  obtain⟨t,rfl⟩:=r
  cases (show T = "int" from ty)
  exact⟨typeIs_int s i t,fun _ e=>nomatch e⟩
 | ref p=>
  cases r
  rcases ty with⟨rfl,xs,hq⟩ | ⟨rfl,o,hk,hc,hd⟩ | ⟨rfl,hk⟩ | ⟨rfl,S,n,hk⟩ | ⟨rfl,xs,hk⟩
  rotate_left 4
  ·obtain⟨z,its,_,o,e1,e2,_⟩:=(show ObjOk X.prog X.w H s.heap p (.tup xs) from I.hok p _ hk)
   refine⟨⟨o,e1,e2⟩,fun a e=>?_⟩
   cases e
   exact⟨o,e1,z.2 o e1⟩
  ·obtain⟨its,_,pl,_⟩:=I.list hq
   refine⟨pl.isList.typeIs,fun a e=>?_⟩
   cases e
   obtain⟨o,n,e,c,hd,_⟩:=pl
   exact⟨o,e,hd⟩
  ·refine⟨⟨o,I.kIn p o hk,hc⟩,fun a e=>?_⟩
   cases e
   exact⟨o,I.kIn _ o hk,hd⟩
  ·have z:∃o,s.heap.get? p=some o/\o.ExactDict:=by
    rcases hk with⟨kvs,hk⟩ | ⟨kvs,hk⟩
    ·obtain⟨_,_,_,_,o,_,_,e,ex,_⟩:=I.hok p _ hk
     exact⟨o,e,ex⟩
    ·obtain⟨_,_,_,_,o,_,_,e,ex,_⟩:=I.hok p _ hk
     exact⟨o,e,ex⟩
   obtain⟨o,e,ex⟩:=z
   refine⟨⟨o,e,ex.1⟩,fun a e2=>?_⟩
   cases e2
   exact⟨o,e,ex.2.1⟩
  ·obtain⟨o,_,_,_,e,ex,_⟩:=I.hok p _ hk
   refine⟨⟨o,e,ex.1⟩,fun a e2=>?_⟩
   cases e2
   exact⟨o,e,ex.2.1⟩
 | _=>exact False.elim ty
def ES(K:PySem.W.Frag)(T:String)(r:V->List V->Hp->VK->Prop)(to:TE)(t:TA):TE:=fun σ H Q=>to σ H fun x H1=>D5 K T x H1/\t σ H1 fun xs H2=>r x xs H2 Q
variable {o e:Expr} {es:List Expr} {to:TE} {t:TA} {name:Str} {apos cpos:Pos} {T id:String} {r:V->List V->Hp->VK->Prop}
theorem Sh(pa:PlainAttrs T)(slot:Slot T name id)(hty:typeOf (.builtin id)=pure (.type "method_descriptor"))(hm:Cn X id r)(ho:PE X o to)(ha:PA X (e::es) t)
  (hbase:attributeBase o name X.env (eval o X.env)=eval o X.env:=by rfl)
  (hfew:((backTo cpos (starEach (e::es) X.env)).all (fun x=>!x.1)&&(backToKw cpos (keywordEach [] X.env)).all (fun x=>x.1.isSome)
   &&decide ((e::es).length+([]:List Keyword).length+(if([]:List Keyword).isEmpty then 0 else 1)<30))=true:=by rfl)
  (hline:(apos.endLine==cpos.line)=true:=by rfl) (hs:starEach (e::es) X.env=(false,eval e X.env)::starEach es X.env:=by rfl) (hplain:(backTo cpos (starEach es X.env)).any (·.1)=false:=by rfl) :
  PE X (.Call (.Attribute o name apos) (e::es) [] cpos) (ES X.K T r to t):=by
 intro pins s σ H Q I h
 refine wpAny_Call_method_late hbase hfew hline rfl (YT (ho pins s σ H _ I h) fun v s1 ⟨x,H1,I1,r1,ty,q1⟩=>?_)
 obtain⟨h1,h2⟩:=Fq I1 r1 ty
 refine⟨T,id,pa,slot,hty,h1,h2,?_⟩
 have hA:=ha cpos pins s1 σ H1 _ I1 q1
 rw[hs] at hA ⊢
 refine Calls.callWith_builtin (by show(false || (backTo cpos (starEach es X.env)).any (·.1))=false;rw[hplain]<;>rfl) (Calls.evalArgs_plain ?_)
 exact YT hA fun us s2 ⟨vs,H2,I2,r2,q2⟩=>hm pins s2 σ H2 x vs v us Q I2 r1 r2 q2
end
def Dz(X:Cx)(id:String)(r:V->List V->Hp->VK->Prop):Prop:=
 ∀(pins:List (Addr×Obj))(s:Shared)(σ:St)(H:Hp)(x:V)(xs:List V)(v:Value)(us:List Value)(Q:VK),Inv X pins σ H s->RelV x v->Vals xs us->r x xs H Q->
  wpAny (model X.prog X.w) X.A (call (.builtin id) (v::us)) (EP X pins σ Q) X.xe s
theorem Vals.one:∀{x:V}{us:List Value},Vals [x] us->∃u,us=[u]/\RelV x u
 | _,_,.cons r .nil=>⟨_,rfl,r⟩
theorem Vals.two:∀{x y:V}{us:List Value},Vals [x,y] us->∃u v,us=[u,v]/\RelV x u/\RelV y v
 | _,_,_,.cons r (.cons q .nil)=>⟨_,_,rfl,r,q⟩
theorem Vals.dropLast{xs:List V}{us:List Value}(h:Vals xs us):Vals xs.dropLast us.dropLast:=by
 induction h with
 | nil=>exact .nil
 | cons r t ih=>
  cases t with
  | nil=>exact .nil
  | cons q t'=>exact .cons r ih
theorem Vals.eraseIdx:∀{xs:List V}{us:List Value}(i:Nat),Vals xs us->Vals (xs.eraseIdx i) (us.eraseIdx i)
 | _,_,_,.nil=>.nil
 | _,_,0,.cons _ t=>t
 | _,_,i+1,.cons r t=>.cons r (Vals.eraseIdx i t)
theorem Vals.reverse{xs:List V}{us:List Value}(h:Vals xs us):Vals xs.reverse us.reverse:=by
 induction h with
 | nil=>exact .nil
 | cons r t ih=>rw[List.reverse_cons,List.reverse_cons];exact Vals.append ih (.cons r .nil)
theorem Vals.rep{xs:List V}{us:List Value}(h:Vals xs us):∀k:Nat,Vals (List.replicate k xs).flatten (List.replicate k us).flatten
 | 0=>.nil
 | k+1=>by
  rw[List.replicate_succ,List.replicate_succ,List.flatten_cons,List.flatten_cons]
  exact Vals.append h (Vals.rep h k)
theorem Qk{α:Type}:∀(l:List α)(i:Nat),(l.eraseIdx i).length<=l.length
 | [],_=>Nat.le_refl _
 | _::_,0=>Nat.le_succ _
 | _::r,i+1=>Nat.succ_le_succ (Qk r i)
theorem Ql(its:List Value):∀(k:Nat)(acc:List Value),
  List.foldl (fun x1 x2=>x1++x2) acc.toArray (List.replicate k its.toArray)=(acc++(List.replicate k its).flatten).toArray
 | 0,acc=>by simp
 | k+1,acc=>by
  have e:acc.toArray++its.toArray=(acc++its).toArray:=by simp
  have e2:(acc++its)++(List.replicate k its).flatten=acc++(List.replicate (k+1) its).flatten:=by
   rw[List.replicate_succ,List.flatten_cons,List.append_assoc]
  rw[<-e2,<-Ql its k (acc++its),<-e,List.replicate_succ,List.foldl_cons]
section
variable {X:Cx} {pins:List (Addr×Obj)} {σ:St} {H:Hp} {s:Shared} {l b:Addr} {xs ys zs:List V}
theorem Inv.lset{its its':List Value}{n:Nat}{f:Array Value->Array Value}{t':Nat}(I:Inv X pins σ H s)(hH:H l=some (.lst xs))
  (e:s.heap.get? l=some { cls:=.type "list",data:=.seq its.toArray n }) (hf:f its.toArray=its'.toArray) (hv:Vals ys its') (hz:ys.length<=sizeLine) :
  Inv X pins σ (upd H l (.lst ys)) { s with heap:=s.heap.update l (Obj.mapSeq f),toks:=t' }:=by
 have q:=PySem.IsL.update e f;rw[hf] at q
 refine I.write (x:=l) (e:=l) (by rw[hH];exact trivial) (.inl rfl) (fun b' u hb hu=>(Heap.get?_update_other s.heap (Obj.mapSeq f) (Ne.symm hb)).trans hu) ⟨_,q⟩ ?_
 exact⟨hz,its',_,hv,q⟩
theorem Inv.lnew{its:List Value}{t':Nat}(I:Inv X pins σ H s)(hv:Vals ys its)(hz:ys.length<=sizeLine) :
  Inv X pins σ (upd H s.heap.objs.size (.lst ys)) { s with heap:=s.heap.push { cls:=.type "list",data:=.seq its.toArray },toks:=t' }:=
 I.laid (fun _ _ q=>Heap.get?_push_of_some _ q) (Nat.le_refl _) ⟨hz,its,0,hv,Heap.get?_push_size _ rfl⟩
theorem Inv.fresh(I:Inv X pins σ H s):H s.heap.objs.size=none:=I.hok.fresh (Nat.le_refl _)
theorem Inv.lstM(I:Inv X pins σ H s)(hH:H l=some (.lst xs)):xs.length<=sizeLine/\∃(its:List Value) (n:Nat),Vals xs its/\xs.length=its.length/\s.heap.get? l=some { cls:=.type "list",data:=.seq its.toArray n }:=by
 obtain⟨z,its,n,r,e⟩:=I.hok l _ hH
 exact⟨z,its,n,r,r.length,e⟩
theorem P8{n:Nat}(h:n<=sizeLine):Builtin.List.listTooLong n=false:=by
 unfold Builtin.List.listTooLong
 exact decide_eq_false (by omega)
end
section
variable {X:Cx}
def Mu:V->List V->Hp->VK->Prop:=fun x vs H Q=>∃l xs y,x = .ref l/\vs=[y]/\H l=some (.lst xs)/\xs.length<sizeLine/\Q .non (upd H l (.lst (xs++[y])))
theorem TM:Dz X "list.append" Mu:=by
 intro pins s σ H x vs v us Q I rx rv h
 obtain⟨l,xs,y,rfl,rfl,hH,hz,q⟩:=h
 cases rx
 obtain⟨u,rfl,ru⟩:=rv.one
 obtain⟨z,its,n,r,hl,e⟩:=I.lstM hH
 refine call_meets F.slot_list_append ⟨_,e,rfl⟩ F.entry_list_append (F.args_list_append_2 _ _) (PySem.list_append l its.toArray n u (by rw[List.size_toArray];omega)) ⟨e,?_⟩
 refine⟨.non,_,I.lset (its':=its++[u]) hH e (by simp) (r.append (.cons ru .nil)) ?_,rfl,q⟩
 rw[List.length_append,List.length_singleton];omega
def Mv:V->List V->Hp->VK->Prop:=fun x vs H Q=>∃l b xs zs,x = .ref l/\vs=[.ref b]/\H l=some (.lst xs)/\H b=some (.lst zs)/\xs.length+zs.length<=sizeLine/\Q .non (upd H l (.lst (xs++zs)))
theorem Qm:Dz X "list.extend" Mv:=by
 intro pins s σ H x vs v us Q I rx rv h
 obtain⟨l,b,xs,zs,rfl,rfl,hH,hB,hz,q⟩:=h
 cases rx
 obtain⟨u,rfl,ru⟩:=rv.one
 cases ru
 obtain⟨z,its,n,r,hl,e⟩:=I.lstM hH
 obtain⟨z2,its2,n2,r2,hl2,e2⟩:=I.lstM hB
 have hsz:its.toArray.size+its2.toArray.size<=sizeLine:=by rw[List.size_toArray,List.size_toArray];omega
 have hlong:¬(!its.toArray.isEmpty&&Builtin.List.listTooLong (its.toArray.size+its2.toArray.size))=true:=by
  rw[P8 hsz,Bool.and_false];exact Bool.false_ne_true
 refine call_meets F.slot_list_extend ⟨_,e,rfl⟩ F.entry_list_extend (F.args_list_extend_2 _ _)
  (AutoSeq1.list_extend_list_list_0 l its.toArray n b its2.toArray n2 hlong (by rw[List.size_toArray];omega) (by omega)) ⟨e,e2,?_⟩
 refine⟨.non,_,I.lset (its':=its++its2) hH e (by simp) (r.append r2) ?_,rfl,q⟩
 rw[List.length_append];omega
def KH:V->List V->Hp->VK->Prop:=fun x vs H Q=>∃l xs i k y,x = .ref l/\vs=[.int i]/\H l=some (.lst xs)/\-(2^63)<=i/\i<2^63/\seqIndex? i xs.length=some k/\xs[k]?=some y/\Q y (upd H l (.lst (xs.eraseIdx k)))
theorem KI:Dz X "list.pop" KH:=by
 intro pins s σ H x vs v us Q I rx rv h
 obtain⟨l,xs,i,k,y,rfl,rfl,hH,h1,h2,hk,hy,q⟩:=h
 cases rx
 obtain⟨u,rfl,ru⟩:=rv.one
 obtain⟨t,rfl⟩:=ru
 obtain⟨z,its,n,r,hl,e⟩:=I.lstM hH
 obtain⟨w,hw,RO⟩:=r.get hy
 refine call_meets F.slot_list_pop ⟨_,e,rfl⟩ F.entry_list_pop (F.args_list_pop_2 _ _)
  (MeetsSeq.list_pop_at l its.toArray n i t k w (fitsIndex_both h1 h2) (by rw[List.size_toArray,<-hl];exact hk) (by rw[<-Array.getElem?_toList];exact hw) (by rw[List.size_toArray];omega)) ⟨e,?_⟩
 refine⟨y,_,I.lset (its':=its.eraseIdx k) hH e ?_ (r.eraseIdx k) ?_,RO,q⟩
 ·show its.toArray.eraseIdxIfInBounds k=(its.eraseIdx k).toArray
  rw[List.eraseIdxIfInBounds_toArray]
 ·have:=Qk xs k
  omega
def ET:R2:=fun x y H Q=>∃l b xs zs,x = .ref l/\y = .ref b/\H l=some (.lst xs)/\H b=some (.lst zs)/\xs.length+zs.length<=sizeLine/\∀p,H p=none->Q (.ref p) (upd H p (.lst (xs++zs)))
theorem KJ:UB X (binaryOp .Add) ET:=by
 intro pins s σ H x y v u Q I rx ry h
 obtain⟨l,b,xs,zs,rfl,rfl,hH,hB,hz,q⟩:=h
 cases rx;cases ry
 obtain⟨z,its,n,r,hl,e⟩:=I.lstM hH
 obtain⟨z2,its2,n2,r2,hl2,e2⟩:=I.lstM hB
 refine PySem.P.add_list e e2 ?_ (by rw[List.size_toArray,List.size_toArray];omega)
 have ea:its.toArray++its2.toArray=(its++its2).toArray:=by simp
 rw[ea]
 exact⟨.ref _,_,I.lnew (t':=s.toks) (r.append r2) (by rw[List.length_append];omega),rfl,q _ I.fresh⟩
def D6:R2:=fun x y H Q=>∃l k xs,x = .ref l/\y = .int k/\H l=some (.lst xs)/\-(2^63)<=k/\k<2^63/\xs.length*k.toNat<=sizeLine/\
 ∀p,H p=none->Q (.ref p) (upd H p (.lst (List.replicate k.toNat xs).flatten))
theorem IJ{α:Type}(xs:List α)(k:Nat):(List.replicate k xs).flatten.length=k*xs.length:=by
 induction k with
 | zero=>simp
 | succ k ih=>rw[List.replicate_succ,List.flatten_cons,List.length_append,ih,Nat.succ_mul,Nat.add_comm]
theorem Fs:UB X (binaryOp .Mult) D6:=by
 intro pins s σ H x y v u Q I rx ry h
 obtain⟨l,k,xs,rfl,rfl,hH,h1,h2,hz,q⟩:=h
 cases rx
 obtain⟨t,rfl⟩:=ry
 obtain⟨z,its,n,r,hl,e⟩:=I.lstM hH
 have hlen:its.toArray.size*k.toNat<=sizeLine:=by rw[List.size_toArray,<-hl];exact hz
 have hcap:¬its.toArray.size*k.toNat>(2^63-1)/8:=by
  have:(sizeLine:Nat)<=(2^63-1)/8:=by decide
  omega
 have hfit:¬(!Builtin.List.listFitsIndex k)=true:=by
  rw[fitsIndex_both h1 h2];exact Bool.false_ne_true
 have hlong:¬Builtin.List.listTooLong (its.toArray.size*k.toNat)=true:=by
  rw[P8 hlen];exact Bool.false_ne_true
 have hnew:List.foldl (fun x1 x2=>x1++x2) #[] (List.replicate (if its.toArray.isEmpty=true then 0 else k.toNat) its.toArray)=(List.replicate k.toNat its).flatten.toArray:=by
  have f0:∀m:Nat,List.foldl (fun x1 x2=>x1++x2) #[] (List.replicate m its.toArray)=(List.replicate m its).flatten.toArray:=fun m=>by
   have:=Ql its m []
   rw[List.nil_append] at this;exact this
  rw[f0]
  cases its with
  | nil=>simp
  | cons a r'=>rw[if_neg (by simp)]
 refine wpAny_binaryOp_repeat_ref (T:="list") (U:="int") (by decide) ⟨_,e,rfl⟩ (fun s'=>typeIs_int s' k t) noFill_list_mul F.fills_int_mul F.slot_int_rmul repeat_list F.slot_int_index.lookup
  (call_meets F.slot_int_rmul (typeIs_int s k t) F.entry_int_rmul (F.args_int_rmul_2 _ _) (int___rmul___int_list k t l its.toArray n)
   ⟨e,rfl,⟨_,e,rfl⟩,call_meets F.slot_list_mul ⟨_,e,rfl⟩ F.entry_list_mul (F.args_list_mul_2 _ _) (AutoListH.list___mul___list_int_3 l its.toArray n k t hfit hcap hlong) ⟨e,?_⟩⟩)
 rw[hnew]
 exact⟨.ref _,_,I.lnew (t':=s.toks) (r.rep k.toNat) (by rw[IJ,Nat.mul_comm];exact hz),rfl,q _ I.fresh⟩
end
end L2
namespace Att
open PySem PySem.W PySem.Calls PyProof.Rows
theorem Ss{P:Params}{h:Heap}:∀(ns:List Int)(vs:List Value),WellAll P h vs (ns.map WData.int)->IntsAre vs ns:=by
 intro ns
 induction ns with
 | nil=>
  intro vs w;rw[List.map_nil] at w;cases w;exact .nil
 | cons n ns ih=>
  intro vs w;rw[List.map_cons] at w
  cases w with
  | cons a b=>
   cases a
   exact .cons _ _ (ih _ b)
theorem Lj{l:OpenLaw}{n:Nat}(hn:l.most=some n){P:Params}{h:Heap}{args:List WData}{vals:List Value}
  (hpre:l.row.toRowW.claim.pre args=true) (hwl:WellAll P h vals args) :
  ∃a vs ns,vals=[Value.ref a]/\args=[WData.list (ns.map WData.int)]/\h.get? a=some { cls:=.type "list",data:=.seq vs.toArray }/\IntsAre vs ns/\ns.length<=n:=by
 have hsh:WShape.hasAll [] args [.list .int]=true:=(pre_splitW hpre).1
 have hc:l.pre.holds [] { args:=args }=true:=(pre_splitW hpre).2
 obtain⟨d,r,rfl,h1,h2⟩:=hasAllW_cons hsh
 obtain rfl:=hasAllW_nil h2
 obtain⟨xs,rfl,h3⟩:=hasW_list h1
 obtain⟨ns,rfl⟩:=items_int h3
 have hlen:ns.length<=n:=by
  unfold OpenLaw.pre at hc
  have h4:(WTm.not (.lt (.lit (.int (n:Int))) (.len (.arg 0)))).holds [] { args:=[.list (ns.map .int)] }=true:=by
   have h4:=(holds_andW hc).1
   rw[hn] at h4;exact h4
  have h5:=condW_of h4 (w_not (w_lt w_lit (w_len_list (w_arg rfl))))
  rw[List.length_map] at h5
  refine Nat.le_of_not_lt fun q=>?_
  have q':(n:Int)<((ns.length:Nat):Int):=by omega
  first
   | (rw[decide_eq_true q'] at h5;exact absurd h5 (by decide))
   | (simp at h5;omega)
 cases hwl with
 | cons w1 w2=>
  cases w2
  cases w1 with
  | list ho hall=>exact⟨_,_,ns,rfl,rfl,ho,Ss ns _ hall,hlen⟩
theorem Lk(l:OpenLaw)(args:List WData):l.row.toRowW.claim.post args (.bool true) args=true:=
 postW_of (r:=l.row.toRowW) (X:=(true==true))
  (show WShape.has [] (.bool true) .bool=true by first | rfl | decide | simp[WShape.has,WShape.arms,WShape.armsAll])
  (show(WTm.eq .res (.lit (.bool true))).value [] { args:=args,res:=some (.bool true),after:=args }=some (.bool (true==true)) from w_eq_bool (w_res rfl) w_lit) rfl
theorem attach_call{l:OpenLaw}{n:Nat}{q:Program}{loose:List Str}{XP:(Str->Option Value)->Heap->Prop}{YP:World->Heap->Prop}{d:DefRec}
  (hn:l.most=some n) (hdf:d.params.defaults=[])
  (call:∀(w:World)(s₀ s₁:Shared)(mg mb:Str->Option Value)(fa:Addr)(o:Obj)(pm cd doc:Value)(a:Addr)(vs:List Value)(ns:List Int),
   Ground q loose [] XP w s₀ mg mb s₁.heap->YP w s₁.heap->
   s₁.heap.get? fa=some o->o.data = .func (docDef d.name d.params d.body d.scope pm cd doc)->s₁.heap.CodeRec cd d.name->mg d.name=some (.ref fa)->
   s₁.heap.get? a=some { cls:=.type "list",data:=.seq vs.toArray }->IntsAre vs ns->ns.length<=n->s₁.gens = #[]->
   codeAny (model l.prog w) callerA (.call (.ref fa) ⟨[.ref a],[]⟩) (fun r s'=>r = .ok (.ret (.bool true))/\OldK s₁.heap s'.heap/\s'.os=s₁.os/\AllBare s'.gens) s₁) :
  WalkO q loose XP YP l.row.toRowW d [] (fun f vs=>PySem.call f vs):=by
 intro w s₀ s₁ mg mb G Y fa o pm cd doc dV kV ho hd hcd hD hmg hg args vals as hpre hlay hrd hwl hlo
 obtain rfl:dV = .none:=Dflts.none hD hdf
 obtain rfl:kV = .none:=Dflts.noKw hD
 obtain⟨a,vs,ns,rfl,rfl,hobj,hints,hlen⟩:=Lj hn hpre hwl
 refine enter_call (codeAny_mono (call w s₀ s₁ mg mb fa o pm cd doc a vs ns G Y ho (fd_plain hd) hcd hmg hobj hints hlen hg) fun r s' hq=>?_)
 obtain⟨rfl,h2,h3,h4⟩:=hq
 exact⟨.inl ⟨.bool true,.bool true,[],rfl,fun _=>rfl,.bool true,Lk l _,fun _=>⟨List.Pairwise.nil,fun _ hm=>(nomatch hm)⟩⟩,h2,h3,h4⟩
end Att
namespace L2
open PySem PySem.Spec PyProof.Rows
theorem Qn:∀{vs:List Value}{ns:List Int},IntsAre vs ns->Vals (ns.map V.int) vs
 | _,_,.nil=>.nil
 | _,_,.cons n t h=>.cons ⟨t,rfl⟩ (Qn h)
def IK(H:Hp):Prop:=∀b,H b=none\/∃o xs,H b=some (.frz o (.lst xs))
theorem KN{P:Program}{w:World}{K:PySem.W.Frag}{mg mb:Str->Option Value}{CX:Ky}{k:Nat}{fa a:Addr}{fd:FuncData}{x:Str}{sp:Sp}{s₁:Shared}{vs:List Value}{ns:List Int}
  (KX:K.In s₁.heap) (hns:s₁.heap.Ns mainGlobals mg) (hb:s₁.heap.Ns builtinsNs mb) (hbb:∀x:Str,x≠"__name__"->mb x=bootBuiltins x) (hlim:s₁.heap.NoLimit) (hg:s₁.gens = #[])
  (ha:s₁.heap.get? a=some { cls:=.type "list",data:=.seq vs.toArray }) (hi:IntsAre vs ns) (hl:ns.length<=sizeLine) (hr:Room k callerA)
  (F:∀base:Heap,K.In base->base.Ns mainGlobals mg->UC P w K mg base CX k fa fd [x] sp) (hbind:∀(s:Shared)(u:Value),BindsTo s fd ⟨[u],[]⟩ [(x,u)])
  (hsp:∀H:Hp,IK H->SqL K H a (ns.map V.int)->sp [.ref a] H (fun v _=>v = .bl true) fun _ _ _=>False)
  (hCX:∀H e s',CX [] H s₁ (fun _ _ _=>False) e s'->False) :
  codeAny (model P w) callerA (.call (.ref fa) ⟨[.ref a],[]⟩) (fun r s'=>r = .ok (.ret (.bool true))/\OldK s₁.heap s'.heap/\s'.os=s₁.os/\AllBare s'.gens) s₁:=by
 have rv:=Qn hi;have lenV:=hi.length
 -- from an abstract heap in which nothing but the script may be tracked
 have core:∀H:Hp,IK H->SqL K H a (ns.map V.int)->HOk P w H s₁.heap->(∀b,H b≠none->b=a)->(H a≠none->K.lookup a=none)->
   codeAny (model P w) callerA (.call (.ref fa) ⟨[.ref a],[]⟩) (fun r s'=>r = .ok (.ret (.bool true))/\OldK s₁.heap s'.heap/\s'.os=s₁.os/\AllBare s'.gens) s₁:=by
  intro H hO hS hok hA hK
  have base_of:∀{b:Addr}{o:Obj},s₁.heap.get? b=some o->H b=none->(QV s₁.heap H).get? b=some o:=fun e n=>Km e n
  have noA:∀{b:Addr}{o:Obj}{es:Array DictEntry}{ep:Nat},s₁.heap.get? b=some o->o.data = .dict es ep->H b=none:=fun{b o es ep} e d=>by
   cases q:H b with
   | none=>rfl
   | some u=>
    have e':b=a:=hA b (by rw[q];simp)
    subst e'
    rw[ha] at e;cases e
    have d':Data.seq vs.toArray _=Data.dict es ep:=d
    cases d'
  have nsK:∀{b:Addr}{m:Str->Option Value},s₁.heap.Ns b m->(QV s₁.heap H).Ns b m:=fun{b m} ⟨o,es,ep,e,d,r⟩=>⟨o,es,ep,base_of e (noA e d),d,r⟩
  have hKb:K.In (QV s₁.heap H):=fun b o e=>base_of (KX b o e) (by
   cases q:H b with
   | none=>rfl
   | some u=>
    have e':b=a:=hA b (by rw[q];simp)
    subst e'
    rw[hK (by rw[q];simp)] at e;cases e)
  have hM:Mod K mg (QV s₁.heap H):=⟨hKb,nsK hns,⟨mb,nsK hb,hbb⟩,let⟨mc,h1,h2⟩:=hlim;⟨mc,nsK h1,h2⟩⟩
  have e0:ID P w K mg (QV s₁.heap H) callerA [] s₁ H:=⟨rfl,hM,fun b o e=>Iq e,Nat.le_of_eq (M8 _ _),trivial,fun b hb=>absurd (show b∈([]:List Addr) from hb) (by simp),hok,.of_eq hg⟩
  refine codeAny_mono ((F _ hKb (nsK hns)).run callerA [] s₁ H ⟨[.ref a],[]⟩ [.ref a] [.ref a] _ _ hr e0 (hbind s₁ (.ref a)) (.cons rfl .nil) (hsp H hO hS)) fun r s' h=>?_
  cases r with
  | error e=>exact(hCX H e s' h).elim
  | ok fl=>
   cases fl with
   | next=>exact False.elim h
   | brk=>exact False.elim h
   | cont=>exact False.elim h
   | ret u=>
    obtain⟨v,H',os,bare,un,hok',r',q⟩:=h
    have q':v = .bl true:=q
    subst q'
    obtain rfl:u=Value.bool true:=r'
    refine⟨rfl,OldK.of_keep fun b o e=>?_,os,bare⟩
    cases q:H b with
    | none=>exact un.keep b o e q (by intro z;exact absurd (show b∈([]:List Addr) from z) (by simp)) (by simp)
    | some u=>
     rcases hO b with z | ⟨ob,xs,z⟩
     ·rw[q] at z;cases z
     ·have z2:=un.frzs b ob _ z
      obtain⟨e1,_⟩:=hok b _ z
      obtain⟨e2,_⟩:=hok' b _ z2
      rw[e] at e1;cases e1;exact e2
 cases hk:K.lookup a with
 | some o=>
  -- the script is one of the module's own objects
  have e:=KX a o hk;rw[ha] at e;cases e
  refine core (fun _=>none) (fun _=>.inl rfl) (.inr ⟨_,vs.toArray,_,hk,rfl,rfl,rfl,by rw[List.size_toArray,lenV];exact hl,by simpa using rv⟩) (fun b u z=>by have z':(none:Option HO)=some u:=z;cases z') (fun b z=>absurd rfl z) fun z=>absurd rfl z
 | none=>
  refine core (fun b=>if b=a then some (.frz { cls:=.type "list",data:=.seq vs.toArray } (.lst (ns.map V.int))) else none) (fun b=>?_) (.inl (.inr ⟨{ cls:=.type "list",data:=.seq vs.toArray },if_pos rfl⟩)) (fun b u z=>?_) (fun b z=>?_) fun _=>hk
  ·by_cases hb:b=a
   ·exact .inr ⟨_,_,if_pos hb⟩
   ·exact .inl (if_neg hb)
  ·by_cases hb:b=a
   ·have z':=(if_pos hb).symm.trans z
    cases z'
    subst hb
    exact⟨ha,by rw[List.length_map];exact hl,vs,_,rv,ha⟩
   ·have z':=(if_neg hb).symm.trans z
    cases z'
  ·by_cases hb:b=a
   ·exact hb
   ·exact absurd (if_neg hb) z
theorem walk_of{l:PySem.W.OpenLaw}{n k:Nat}{q:Program}{loose:List Str}{XP:(Str->Option Value)->Heap->Prop}{YP:World->Heap->Prop}{d:DefRec}{K:Params->PySem.W.Frag}{CX:World->Ky}{sp:World->Sp}{x:Str}
  (hn:l.most=some n) (hn2:n<=sizeLine) (hdf:d.params.defaults=[]) (hr:Room k callerA)
  (hY:∀(w:World)(h:Heap),YP w h->(K w.params).In h)
  (F:∀(w:World)(mg:Str->Option Value)(fa:Addr)(h:Heap),(K w.params).In h->h.Ns mainGlobals mg->mg d.name=some (.ref fa)->
   ∃fd:FuncData,(∀(s:Shared)(u:Value),BindsTo s fd ⟨[u],[]⟩ [(x,u)])/\
    ∀base:Heap,(K w.params).In base->base.Ns mainGlobals mg->UC l.prog w (K w.params) mg base (CX w) k fa fd [x] (sp w))
  (hsp:∀(w:World)(H:Hp)(a:Addr)(ns:List Int),ns.length<=n->IK H->SqL (K w.params) H a (ns.map V.int)->sp w [.ref a] H (fun v _=>v = .bl true) fun _ _ _=>False)
  (hCX:∀(w:World)(H:Hp)(s:Shared)(e:Value)(s':Shared),CX w [] H s (fun _ _ _=>False) e s'->False) :
  PySem.W.WalkO q loose XP YP l.row.toRowW d [] (fun f vs=>PySem.call f vs):=by
 refine Att.attach_call hn hdf fun w s₀ s₁ mg mb fa o pm cd doc a vs ns G Y ho hd hcd hmg hobj hints hlen hg=>?_
 have KX:=hY w _ Y
 obtain⟨fd,hb,hF⟩:=F w mg fa _ KX G.T.g hmg
 exact KN KX G.T.g G.T.b G.T.builtins G.T.nolimit hg hobj hints (Nat.le_trans hlen hn2) hr hF hb (fun H hO hS=>hsp w H a ns hlen hO hS) fun H e s'=>hCX w H s₁ e s'
def X3(s:Stmt):Arguments:=match s with
 | .FunctionDef _ a _ _ _ _ _ _ _ _=>a
 | _=>{ posonlyargs:=[],args:=[],vararg:=none,kwonlyargs:=[],kw_defaults:=[],kwarg:=none,defaults:=[] }
def YF(s:Stmt):List Stmt:=match s with
 | .FunctionDef _ _ b _ _ _ _ _ _ _=>b
 | _=>[]
def Zr(s:Stmt):Scope:=match s with
 | .FunctionDef _ _ _ _ _ _ sc _ _ _=>sc
 | _=>{ kind:=.function,names:=[],isGenerator:=false,isCoroutine:=false }
abbrev Nx:Ky:=fun _ _ _ _ _ _=>False
abbrev E0:XK:=fun _ _ _=>False
theorem Gy{X:Cx}:QX Nx X E0:=fun _ _ _ _ _ _ _ h=>h.elim
structure Fun(K:PySem.W.Frag)(x qual:Str)(st:Stmt)(f:Addr)(fd:FuncData):Prop where
 ex:∃(oc:Value) (od:Option Addr) (kV doc pm:Value) (an:Option Addr) (cdv ct:Value) (osl:Array (Option Value)),
  fd=PySem.W.fnOf x qual (X3 st) (YF st) (Zr st) .none kV doc pm an cdv ct/\K.lookup f=some ⟨oc,od,.func fd,osl⟩/\PySem.W.codeIn K cdv qual=true
 kp:PySem.W.keepIn K (.ref f)=true
section
variable {P:Program} {w:World} {K:PySem.W.Frag} {mg:Str->Option Value} {base:Heap}
theorem Fun.ok{x qual:Str}{st:Stmt}{f:Addr}{fd:FuncData}{N ps:List Str}{k:Nat}{sp:Sp}(F:Fun K x qual st f fd)(S:ZS N ps (Zr st))(len:∀vs H Q E,sp vs H Q E->vs.length=ps.length)
  (hbody:∀(cdv:Value)(A:Around)(outer:List Env)(s:Shared)(H:Hp)(vs:List V)(Q:VK)(E:XK),Room k (A.deeper (envOfC qual (Zr st) s.heap.objs.size f cdv))->sp vs H Q E->
   ∃t,PSs (Sr Nx P w K mg base N qual (Zr st) f cdv A outer s H E).nox (YF st) t/\t { nx:=fun _ H'=>Q .non H',rt:=Q } (start N vs) H):UC P w K mg base Nx (k+1) f fd ps sp:=by
 obtain⟨oc,od,kV,doc,pm,an,cdv,ct,osl,rfl,lk,hcd⟩:=F.ex
 refine Gx lk hcd S len fun A outer s H vs Q E hr hsp=>?_
 obtain⟨t,h,q⟩:=hbody cdv A outer s H vs Q E hr hsp
 exact⟨t,h.nox,q⟩
theorem Fun.binds{x qual:Str}{st:Stmt}{f:Addr}{fd:FuncData}{ps:List Str}(F:Fun K x qual st f fd)
  (h:∀(kV doc pm:Value)(an:Option Addr)(cdv ct:Value)(us:List Value),us.length=ps.length->bindArgs (PySem.W.fnOf x qual (X3 st) (YF st) (Zr st) .none kV doc pm an cdv ct) ⟨us,[]⟩=pure (ps.zip us)):Binds K fd ps []:=by
 obtain⟨oc,od,kV,doc,pm,an,cdv,ct,osl,rfl,lk,hcd⟩:=F.ex
 exact .all (h kV doc pm an cdv ct)
theorem Ft{x qual:Str}{st:Stmt}{f:Addr}{oc:Value}{od an:Option Addr}{osl:Array (Option Value)}{kV doc pm cdv ct:Value}(l:K.lookup f=some ⟨oc,od,.func (PySem.W.fnOf x qual (X3 st) (YF st) (Zr st) .none kV doc pm an cdv ct),osl⟩)
  (c:PySem.W.codeIn K cdv qual=true) (k:PySem.W.keepIn K (.ref f)=true):Fun K x qual st f (PySem.W.fnOf x qual (X3 st) (YF st) (Zr st) .none kV doc pm an cdv ct):=⟨⟨oc,od,kV,doc,pm,an,cdv,ct,osl,rfl,l,c⟩,k⟩
end
section
variable {X:Cx}
theorem pv(i:Nat){x:Str}{pos:Pos}(hN:X.N[i]?=some x:=by rfl)(hv:DK X.env.scope x:=by first | exact Or.inl rfl | exact Or.inr (Or.inl rfl) | exact Or.inr (Or.inr rfl))(hd:(x==("__debug__" : Str))=false:=by decide)
  (hcd:(x==("__classdict__" : Str))=false:=by decide):PE X (.Name x pos) (RW i):=GS hN hv hd hcd
end
theorem EU{A B:Prop}(h:B):if false=true then A else B:=by
 rw[if_neg Bool.false_ne_true];exact h
theorem EV{A B:Prop}(h:A):if true=true then A else B:=by
 rw[if_pos rfl];exact h
def Same(H H':Hp):Prop:=∀b o,H b=some o->H' b=some o
theorem Same.refl(H:Hp):Same H H:=fun _ _ h=>h
theorem Same.trans{H H1 H2:Hp}(a:Same H H1)(b:Same H1 H2):Same H H2:=fun c o h=>b c o (a c o h)
theorem Same.free{H H':Hp}(e:Same H H'){l:Addr}(h:H' l=Option.none):H l=Option.none:=by
 cases q:H l with
 | none=>rfl
 | some o=>
  rw[e l o q] at h;cases h
end L2
set_option maxHeartbeats 4000000
namespace L2
open PySem PySem.Spec PyProof.Rows
def YX(cells:List (Str×Addr)):List (Str×NameKind)->List (Str×Addr)->List (Str×Addr)
 | [],acc=>acc
 | (n,k)::r,acc=>YX cells r (if(k==NameKind.free)=true then(n,(cells.lookup n).getD 0)::acc else acc)
theorem Ut{env:Env}:∀(names:List (Str×NameKind))(acc:List (Str×Addr)),(∀y∈names,y.2 = .free->(env.cells.lookup y.1).isSome=true)->
  (forIn (m:=Sem) names acc fun(x:Str×NameKind) (cs:List (Str×Addr))=>
   match x with
   | (name,kind)=>if(kind==NameKind.free)=true then do
     let c <-cellOf env name
     pure (ForInStep.yield ((name,c)::cs))
    else pure (ForInStep.yield cs))=pure (YX env.cells names acc)
 | [],acc,_=>rfl
 | (n,k)::r,acc,h=>by
  rw[List.forIn_cons]
  have ih:=fun acc'=>Ut r acc' fun y hy=>h y (List.mem_cons_of_mem _ hy)
  cases hk:(k==NameKind.free) with
  | true=>
   have hs:=h (n,k) List.mem_cons_self (by simpa using hk)
   obtain⟨c,hc⟩:=Option.isSome_iff_exists.mp hs
   have hc:env.cells.lookup n=some c:=hc
   have e1:cellOf env n=pure c:=by unfold cellOf;rw[hc]
   dsimp only
   rw[hk,if_pos rfl,e1]
   refine Eq.trans (ih ((n,c)::acc)) ?_
   show _=pure (YX env.cells r (if(k==NameKind.free)=true then(n,(env.cells.lookup n).getD 0)::acc else acc))
   rw[if_pos hk,hc];rfl
  | false=>
   dsimp only
   rw[hk,if_neg Bool.false_ne_true]
   refine Eq.trans (ih acc) ?_
   show _=pure (YX env.cells r (if(k==NameKind.free)=true then(n,(env.cells.lookup n).getD 0)::acc else acc))
   rw[if_neg (by rw[hk];exact Bool.false_ne_true)]
theorem WH{scope:Scope}{env:Env}(h:∀y∈scope.names,y.2 = .free->(env.cells.lookup y.1).isSome=true):closureFor scope env=pure (YX env.cells scope.names []):=by
 have e:=Ut (env:=env) scope.names [] h
 unfold closureFor
 dsimp only
 rw[e];rfl
theorem TN{cells:List (Str×Addr)}{x:Str}{c:Addr}:∀(names:List (Str×NameKind))(acc:List (Str×Addr)),(∀y∈names,y.2 = .free->(cells.lookup y.1).isSome=true)->(acc.lookup x=some c->cells.lookup x=some c)->
  (YX cells names acc).lookup x=some c->cells.lookup x=some c
 | [],_,_,h,e=>h e
 | (n,k)::r,acc,hf,h,e=>by
  refine TN r _ (fun y hy=>hf y (List.mem_cons_of_mem _ hy)) ?_ e
  intro q
  by_cases hk:(k==NameKind.free)=true
  ·rw[if_pos hk,List.lookup_cons] at q
   cases hx:x==n with
   | true=>
    rw[hx] at q
    have exn:x=n:=by simpa using hx
    obtain⟨d,hd⟩:=Option.isSome_iff_exists.mp (hf (n,k) List.mem_cons_self (by simpa using hk))
    have hd:cells.lookup n=some d:=hd
    rw[hd] at q
    rw[exn,hd];exact q
   | false=>rw[hx] at q;exact h q
  ·rw[if_neg hk] at q;exact h q
theorem S0{cells:List (Str×Addr)}{x:Str}:∀(names:List (Str×NameKind))(acc:List (Str×Addr)),(acc.lookup x).isSome=true->((YX cells names acc).lookup x).isSome=true
 | [],_,h=>h
 | (n,k)::r,acc,h=>by
  refine S0 r _ ?_
  split
  ·rw[List.lookup_cons];split<;>simp_all
  ·exact h
theorem TQ{cells:List (Str×Addr)}{x:Str}:∀(names:List (Str×NameKind))(acc:List (Str×Addr)),(x,NameKind.free)∈names->((YX cells names acc).lookup x).isSome=true
 | (n,k)::r,acc,h=>by
  rcases List.mem_cons.mp h with e | h
  ·cases e
   refine S0 r _ ?_
   rw[if_pos (by decide),List.lookup_cons]
   simp
  ·exact TQ r _ h
structure CompScope(N:List Str)(around scope:Scope)(own fr:List Str)(ix:List Nat):Prop where
 kind:scope.kind = .function
 nocell:∀y∈scope.names,y.2≠.cell
 names:∀y∈scope.names,y.2 = .local->scope.names.lookup y.1=some .local
 frees:∀y∈scope.names,y.2 = .free->(around.names.lookup y.1=some .cell\/around.names.lookup y.1=some .free)
 slots:fr.map some=ix.map (fun i=>N[i]?)
 outs:∀x∈fr,(x,NameKind.free)∈scope.names
 apart:∀x∈fr,scope.names.lookup x≠some .local
def ZV(X:Cx)(N':List Str)(scope:Scope)(cl:List (Str×Addr))(C:Addr)(s:Shared)(H:Hp)(ex:List Addr):Cx:=
 { X with N:=N',s₀:=s,H₀:=H,env:=compEnvC scope cl C X.env,outer:=X.stack,ex:=ex,fn:=fun _=>false,pn:=[],xe:=fun _ _=>False }
def ZZ(n:Nat)(ix:List Nat)(σ:St):St:=List.replicate n none++ix.map (fun i=>(σ[i]?).join)
theorem Xz{env:Env}{x:Str}:∀{names:List (Str×NameKind)}{k:NameKind},names.lookup x=some k->
  (names.map fun(n,k)=>if(k==NameKind.free&&env.scope.kind==.function&&env.kindOf n==some .cell) then(n,NameKind.cell) else(n,k)).lookup x =
   some (if(k==NameKind.free&&env.scope.kind==.function&&env.kindOf x==some .cell)=true then NameKind.cell else k)
 | [],_,h=>by simp at h
 | (n,k')::r,k,h=>by
  show List.lookup x ((if(k'==NameKind.free&&env.scope.kind==.function&&env.kindOf n==some .cell)=true then(n,NameKind.cell) else(n,k'))::_)=_
  cases hx:x==n with
  | true=>
   simp only[List.lookup_cons,hx] at h;cases h
   have e:x=n:=by simpa using hx
   subst e
   split
   ·simp[List.lookup_cons]
   ·simp[List.lookup_cons]
  | false=>
   simp only[List.lookup_cons,hx] at h
   split
   ·simp only[List.lookup_cons,hx];exact Xz h
   ·simp only[List.lookup_cons,hx];exact Xz h
theorem We{env:Env}{x:Str}:∀{names:List (Str×NameKind)}{k':NameKind},
  (names.map fun(n,k)=>if(k==NameKind.free&&env.scope.kind==.function&&env.kindOf n==some .cell) then(n,NameKind.cell) else(n,k)).lookup x=some k'->∃k,names.lookup x=some k
 | [],_,h=>by simp at h
 | (n,k0)::r,k',h=>by
  have h:List.lookup x ((if(k0==NameKind.free&&env.scope.kind==.function&&env.kindOf n==some .cell)=true then(n,NameKind.cell) else(n,k0))::_)=some k':=h
  cases hx:x==n with
  | true=>exact⟨k0,by simp[List.lookup_cons,hx]⟩
  | false=>
   have:∃k,r.lookup x=some k:=by
    apply We (env:=env) (k':=k')
    split at h<;>simpa [List.lookup_cons,hx] using h
   obtain⟨k,e⟩:=this
   exact⟨k,by simp[List.lookup_cons,hx,e]⟩
section
variable {X:Cx} {pins:List (Addr×Obj)} {σ:St} {H:Hp} {s:Shared} {own fr:List Str} {ix:List Nat} {scope:Scope}
theorem CompScope.clos(S:CompScope X.N X.env.scope scope own fr ix)(I:Inv X pins σ H s):∀y∈scope.names,y.2 = .free->(X.env.cells.lookup y.1).isSome=true:=fun y hy hf=>by
 obtain⟨c,e⟩:=I.ok.has y.1 (S.frees y hy hf)
 rw[e];rfl
end
theorem UW{prog:Program}{w:World}{A:Around}{R:Result->Shared->Prop}{s:Shared}{elt target iter:Expr}{ifs:List Expr}{scope:Scope}{pos:Pos}{it acc:Value}{env:Env}(I:Nat->Shared->Prop)
  (turn:∀n s,I n s->wpAny (model prog w) A (pyNext it) (fun r s₁=>match r with
   | none=>R (.ok .next) s₁
   | some v=>wpAny (model prog w) A (letOwnedTupleGo target it v) (fun _ s₁'=>wpAny (model prog w) A (assign target env v) (fun _ s₂=>
     wpAny (model prog w) A (forIn ifs true fun c r=>if r=true then do let ok <-isTrue c env (eval c env);pure (ForInStep.yield ok) else pure (ForInStep.yield r)) (fun ok s₃=>
      if ok=true then wpAny (model prog w) A (eval elt env) (fun x s₄=>
       wpAny (model prog w) A (call (.builtin "list.append") [acc,x]) (fun _ s₅=>∃m,m<n/\I m s₅) (notedBy (model prog w) A env fun e s'=>R (.error e) s') s₄) (notedBy (model prog w) A env fun e s'=>R (.error e) s') s₃
      else ∃m,m<n/\I m s₃) (notedBy (model prog w) A env fun e s'=>R (.error e) s') s₂) (notedBy (model prog w) A env fun e s'=>R (.error e) s') s₁') (notedBy (model prog w) A env fun e s'=>R (.error e) s') s₁) (notedBy (model prog w) A env fun e s'=>R (.error e) s') s)
  (n:Nat) (h:I n s) :
  codeAny (model prog w) A (.compLoop (.ListComp elt [⟨target,iter,ifs,0⟩] scope pos) 0 it acc env) R s:=by
 refine codeAny_loop rfl I (fun n s hI=>?_) n h
 show wpAny _ A ((compTurn (.ListComp elt [⟨target,iter,ifs,0⟩] scope pos) 0 it acc env).onRaise (fun x=>do noteFrame x env;theTreesLotGoes x)) _ _ s
 refine wpAny_noted ?_
 rw[compTurn_list]
 refine wpAny_bind (wpAny_standAt (wpAny_bind (wpAny_mono (turn n s hI) (fun r s₁ h₁=>?_) fun _ _ h'=>h')))
 cases r with
 | none=>exact wpAny_pure h₁
 | some v=>
  refine wpAny_bind (wpAny_mono h₁ (fun _ s₁' h₁'=>?_) fun _ _ h'=>h')
  refine wpAny_bind (wpAny_mono h₁' (fun _ s₂ h₂=>wpAny_bind (wpAny_mono h₂ (fun ok s₃ h₃=>?_) fun _ _ h'=>h')) fun _ _ h'=>h')
  cases ok with
  | false=>exact wpAny_pure ⟨rfl,h₃⟩
  | true=>
   exact wpAny_bind (wpAny_bind (wpAny_mono h₃ (fun x s₄ h₄=>wpAny_bind (wpAny_mono h₄ (fun _ s₅ h₅=>wpAny_pure (wpAny_pure ⟨rfl,h₅⟩)) fun _ _ h'=>h')) fun _ _ h'=>h'))
def Mw(X:Cx)(ifs:List Expr)(t:TT):Prop:=
 ∀(pins:List (Addr×Obj))(s:Shared)(σ:St)(H:Hp)(Q:Bool->Hp->Prop),Inv X pins σ H s->t σ H Q->
  wpAny (model X.prog X.w) X.A (forIn ifs true fun c r=>if r=true then do let ok <-isTrue c X.env (eval c X.env);pure (ForInStep.yield ok) else pure (ForInStep.yield r)) (TP X pins σ Q) X.xe s
def EW:TT:=fun _ H Q=>Q true H
theorem IL{X:Cx}:Mw X [] EW:=fun _ _ _ H _ I h=>wpAny_tests_nil ⟨H,I,h⟩
theorem IM{X:Cx}{c:Expr}{t:TT}(h:PT X c t):Mw X [c] t:=fun pins s σ H Q I hq=>wpAny_tests_one (h pins s σ H Q I hq)
def EX(n:Nat)(ix:List Nat)(g:TG)(tt:TT)(te:TE)(σ:St)(Q:VK)(J:It)(H1:Hp):Prop:=
 ∃W:Nat->Nat->List V->Hp->Prop,(∃m,W 0 m [] H1)/\∀i m ys H,W i m ys H->ys.length<=sizeLine/\
  ((J.stop i H/\∀p,H p=none->Q (.ref p) (upd H p (.lst ys)))\/
   (J.go i H/\∃N:List V->Hp->Prop,(∀ys' H',N ys' H'->∃m',m'<m/\W (i+1) m' ys' H')/\
    ∀x H',J.yld i H x H'->g x (ZZ n ix σ) H' fun σ2 H2=>σ2.drop n=(ZZ n ix σ).drop n/\tt σ2 H2 fun b H3=>if b=true then te σ2 H3 fun y H4=>N (ys++[y]) H4 else N ys H3))
def S1(n:Nat)(ix:List Nat)(wi:TI)(g:TG)(tt:TT)(te:TE):TE:=fun σ H Q=>wi σ H fun J H1=>EX n ix g tt te σ Q J H1
theorem Qo{n:Nat}{ix:List Nat}{σ σ2:St}(hd:σ2.drop n=(ZZ n ix σ).drop n):∀(i:Nat) v,(ZZ n ix σ)[i]?=some (some v)->σ2[i]?=some (some v):=fun i v e=>by
 by_cases hi:i<n
 ·unfold ZZ at e
  rw[List.getElem?_append_left (by simpa using hi),List.getElem?_replicate] at e
  rw[if_pos hi] at e;cases e
 ·have q:=congrArg (fun l=>l[i-n]?) hd
  simp only[List.getElem?_drop] at q;rw[show n+(i-n)=i by omega] at q
  rw[q];exact e
section
variable {X:Cx} {tg elt iter:Expr} {ifs:List Expr} {scope:Scope} {pos:Pos} {own fr:List Str} {ix:List Nat} {wi:TI} {g:TG} {tt:TT} {te:TE}
theorem KO{pins:List (Addr×Obj)}{σ:St}{H2:Hp}{s2:Shared}{fp:List Addr}{h₁:Heap}{tk:Nat}{C:Addr}(S:CompScope X.N X.env.scope scope own fr ix)(I2:Inv X pins σ H2 s2)(f2:∀b∈fp,W7 X pins H2 b)(hfp:∀b∈fp,b<s2.heap.objs.size)
  (hC:s2.heap.objs.size<=C) (hns:h₁.Ns C fun _=>none) (old:∀b o,s2.heap.get? b=some o->h₁.get? b=some o) :
  Inv (ZV X (own++fr) scope (YX X.env.cells scope.names []) C s2 H2 fp) [] (ZZ own.length ix σ) H2 { s2 with heap:=h₁,toks:=tk }:=by
 have cs:=S.clos I2
 have sub:∀x c,(YX X.env.cells scope.names []).lookup x=some c->X.env.cells.lookup x=some c:=fun x c e=>TN scope.names [] cs (fun h=>by simp at h) e
 have stk:=I2.stkSub
 have okk:(ZV X (own++fr) scope (YX X.env.cells scope.names []) C s2 H2 fp).Ok:=by
  refine⟨I2.ok.mod,S.kind,I2.ok.glob,I2.ok.blt,hC,fun x y c h1 h2=>I2.ok.inj x y c (sub x c h1) (sub y c h2),fun x hx=>?_,fun x c h _=>?_,I2.ok.hd,I2.ok.frames,.inl rfl,fun b hb=>⟨?_,fun x c e=>?_⟩,I2.bs,?_,fun b o e hb=>?_,fun b hb z=>?_,I2.stack,I2.stkFree⟩
  ·-- the cells of the block's free names
   have hx:(relabel scope X.env).names.lookup x=some .cell\/(relabel scope X.env).names.lookup x=some .free:=hx
   have key:(x,NameKind.free)∈scope.names:=by
    have:∃k',(relabel scope X.env).names.lookup x=some k'/\(k' = .cell\/k' = .free):=by
     rcases hx with h | h
     ·exact⟨_,h,.inl rfl⟩
     ·exact⟨_,h,.inr rfl⟩
    obtain⟨k',e,hk'⟩:=this
    obtain⟨k,e0⟩:=We e
    have e1:=Xz (env:=X.env) e0
    have e:(scope.names.map fun(n,k)=>if(k==NameKind.free&&X.env.scope.kind==.function&&X.env.kindOf n==some .cell) then(n,NameKind.cell) else(n,k)).lookup x=some k':=e
    rw[e1] at e;have m:=PySem.mem_of_lookup e0
    cases k with
    | free=>exact m
    | cell=>exact absurd rfl (S.nocell _ m)
    | _=>simp at e;subst e;rcases hk' with z | z<;>cases z
   exact Option.isSome_iff_exists.mp (TQ _ _ key)
  ·cases h
  ·-- fp differs from the frame
   exact Nat.ne_of_lt (Nat.lt_of_lt_of_le (hfp b hb) hC)
  ·exact(f2 b hb).2.2.2.2.1 x c (sub x c e)
  ·exact Nat.le_trans I2.ok.bsz I2.sz
  ·rcases(f2 b hb).2.2.2.1 with z | z
   ·exact I2.ok.noex b o e z
   ·exact absurd (Nat.lt_of_lt_of_le (Heap.lt_size (I2.ok.bs b o e).1) z) (Nat.lt_irrefl _)
  ·rcases List.mem_cons.mp (stk b z) with e | e
   ·exact(f2 b hb).2.1 e
   ·exact(f2 b hb).2.2.1 e
 have sl:fr.length=ix.length:=by simpa using congrArg List.length S.slots
 refine⟨okk,rfl,I2.bare,Un.kept old,⟨_,hns,fun i x v h1 h2 h3=>?_⟩,fun x c e=>?_,I2.hok.fresh hC,fun x c e=>I2.freeC x c (sub x c e),fun p hp=>absurd (show p∈([]:List (Addr×Obj)) from hp) (by simp),I2.hok.kept old,?_⟩
 ·-- a name of the def around
  have h1:(own++fr)[i]?=some x:=h1
  have hi:¬i<own.length:=fun hi=>by
   unfold ZZ at h2;rw[List.getElem?_append_left (by simpa using hi),List.getElem?_replicate,if_pos hi] at h2;cases h2
  rw[List.getElem?_append_right (by omega)] at h1;unfold ZZ at h2;rw[List.getElem?_append_right (by simpa using hi),List.length_replicate,List.getElem?_map] at h2
  cases ej:ix[i-own.length]? with
  | none=>rw[ej] at h2;cases h2
  | some j=>
   rw[ej] at h2
   have h2:(σ[j]?).join=some v:=by simpa using h2
   have h2:σ[j]?=some (some v):=by
    cases q:σ[j]? with
    | none=>rw[q] at h2;cases h2
    | some z=>rw[q] at h2;exact congrArg some h2
   have hN:X.N[j]?=some x:=by
    have q:=congrArg (fun l=>l[i-own.length]?) S.slots
    simp only[List.getElem?_map,h1,ej,Option.map_some] at q
    exact(Option.some.inj q).symm
   have hm:=S.outs x (List.mem_of_getElem? h1)
   have hk:=S.frees _ hm rfl
   have hk:X.env.scope.names.lookup x=some .cell\/X.env.scope.names.lookup x=some .free:=hk
   obtain⟨m,hn,hl⟩:=I2.loc
   obtain⟨u,r,l⟩:=hl j x v hN h2 (by rcases hk with k | k;exact .inr (.inl k);exact .inr (.inr k))
   refine⟨u,r,?_⟩
   rcases l with⟨k,_⟩ | ⟨_,c,hc,hcell⟩
   ·have k:X.env.scope.names.lookup x=some .local:=k
    rcases hk with q | q<;>rw[k] at q<;>cases q
   ·obtain⟨c',hc'⟩:=Option.isSome_iff_exists.mp (TQ (cells:=X.env.cells) _ [] hm)
    have ec:=sub x c' hc'
    rw[hc] at ec;cases ec
    refine .inr ⟨?_,c,hc',?_⟩
    ·have h3:(relabel scope X.env).names.lookup x=some .local\/(relabel scope X.env).names.lookup x=some .cell\/(relabel scope X.env).names.lookup x=some .free:=h3
     rcases h3 with h3 | h3
     ·obtain⟨k0,e0⟩:=We h3
      have e1:=Xz (env:=X.env) e0
      have h3:(scope.names.map fun(n,k)=>if(k==NameKind.free&&X.env.scope.kind==.function&&X.env.kindOf n==some .cell) then(n,NameKind.cell) else(n,k)).lookup x=some .local:=h3
      rw[e1] at h3
      have k0l:k0 = .local:=by
       cases k0<;>simp at h3 ⊢
       split at h3<;>cases h3
      subst k0l
      exact absurd e0 (S.apart x (List.mem_of_getElem? h1))
     ·exact h3
    ·obtain⟨o,ho,hd⟩:=hcell
     exact⟨o,old _ _ ho,hd⟩
 ·obtain⟨v,o,ho,hd⟩:=I2.cell x c (sub x c e)
  exact⟨v,o,old _ _ ho,hd⟩
 ·show(ZZ own.length ix σ).length=(own++fr).length
  unfold ZZ;rw[List.length_append,List.length_replicate,List.length_map,List.length_append,sl]
theorem S2{pins:List (Addr×Obj)}{σ:St}{H2:Hp}{s2:Shared}{fp:List Addr}{it:Addr}{tn:Nat->Heap->Prop}{J:It}{Fin:List V->Hp->Prop}{RR:Value->Addr->Result->Shared->Prop}{E:Value->Shared->Prop}
  (hcalm:X.calm=true) (S:CompScope X.N X.env.scope scope own fr ix)
  (hg:∀cl C s H ex,PG (ZV X (own++fr) scope cl C s H ex) tg g) (ht:∀cl C s H ex,Mw (ZV X (own++fr) scope cl C s H ex) ifs tt) (he:∀cl C s H ex,PE (ZV X (own++fr) scope cl C s H ex) elt te)
  (I2:Inv X pins σ H2 s2) (T:P0 X.prog X.w X.K tg J fp it tn) (st2:tn 0 s2.heap) (f2:∀b∈fp,W7 X pins H2 b)
  {W:Nat->Nat->List V->Hp->Prop} {m0:Nat} (w0:W 0 m0 [] H2)
  (turn:∀i m ys H,W i m ys H->ys.length<=sizeLine/\
   ((J.stop i H/\Fin ys H)\/
    (J.go i H/\∃N:List V->Hp->Prop,(∀ys' H',N ys' H'->∃m',m'<m/\W (i+1) m' ys' H')/\
     ∀x H',J.yld i H x H'->g x (ZZ own.length ix σ) H' fun σ2 H2=>σ2.drop own.length=(ZZ own.length ix σ).drop own.length/\tt σ2 H2 fun b H3=>if b=true then te σ2 H3 fun y H4=>N (ys++[y]) H4 else N ys H3)))
  (hRR:∀(D C:Addr)(oC:Obj)(m:Str->Option Value)(s':Shared)(H':Hp)(ys:List V),Inv X (pins++[(C,oC)]) σ (upd H' D (.lst ys)) s'->s'.heap.get? C=some oC->s'.heap.Ns C m->W7 X pins (upd H' D (.lst ys)) C->H' D=none->Fin ys H'->RR (.ref D) C (.ok .next) s') :
  wpAny (model X.prog X.w) X.A (newList []) (fun acc s₃=>wpAny (model X.prog X.w) X.A (newFunctionEnv scope X.env.globals (YX X.env.cells scope.names []) [] X.env.qual none .none (some X.env)) (fun cenv s₄=>
   codeAny (model X.prog X.w) X.A (.compStart (.ListComp elt [⟨tg,iter,ifs,0⟩] scope pos) 0 (.ref it) acc { cenv with scope:=relabel scope X.env }) (RR acc cenv.locals) s₄) E s₃) E s2:=by
 have hfp:∀b∈fp,b<s2.heap.objs.size:=fun b hb=>by
  obtain⟨o,e,_⟩:=T.obj 0 s2.heap st2 b hb
  exact Heap.lt_size e
 refine wpAny_newObj_type (wpAny_newFunctionEnv S.nocell (by intro y hy;simp at hy) (fun h₁ hns₁ hsb₁=>?_) S.kind)
 dsimp only at hns₁ hsb₁ ⊢
 generalize hH2:s2.heap.push { cls:=.type "list",dict:=none,data:=.seq ([]:List Value).toArray }=G2 at hns₁ hsb₁ ⊢
 have hC:G2.objs.size=s2.heap.objs.size+1:=by rw[<-hH2,Heap.size_push]
 generalize hCC:G2.objs.size=C at hns₁ hsb₁ hC ⊢
 generalize hDD:s2.heap.objs.size=D at hC ⊢
 have hDC:D≠C:=by omega
 have below:∀b,b<s2.heap.objs.size->b≠C/\b≠D:=fun b hb=>by
  rw[hDD] at hb
  exact⟨Nat.ne_of_lt (by omega),Nat.ne_of_lt hb⟩
 have old:∀b o,s2.heap.get? b=some o->h₁.get? b=some o:=fun b o e=>hsb₁.extBut b o (below b (Heap.lt_size e)).1 (Heap.get?_push_of_some _ (hH2▸Heap.get?_push_of_some _ e))
 have hacc:h₁.get? D=some { cls:=.type "list",data:=.seq ([]:List Value).toArray 0 }:=by
  have e0:G2.get? D=some { cls:=.type "list",data:=.seq ([]:List Value).toArray 0 }:=by
   rw[<-hH2,<-hDD]
   exact Heap.get?_push_size _ rfl
  exact hsb₁.extBut _ _ hDC (Heap.get?_push_of_some _ e0)
 have hns₁':h₁.Ns C fun _=>none:=by simpa using hns₁
 have I0:=fun tk=>KO (tk:=tk) S I2 f2 hfp (C:=C) (by omega) hns₁' old
 -- what stays true of the iterator's objects in the block
 have loop:∀s₃:Shared,s₃={ s2 with heap:=h₁,toks:=s2.toks+([]:List (Str×Value)).length }->
   codeAny (model X.prog X.w) X.A (.compLoop (.ListComp elt [⟨tg,iter,ifs,0⟩] scope pos) 0 (.ref it) (.ref D) (compEnvC scope (YX X.env.cells scope.names []) C X.env)) (RR (.ref D) C) s₃:=by
  rintro s₃ rfl
  generalize hY:ZV X (own++fr) scope (YX X.env.cells scope.names []) C s2 H2 fp=Y at I0
  have stat:∀{H':Hp}{pn:List (Addr×Obj)},(∀b∈fp,H' b=none)->(∀p∈pn,∀b∈fp,p.1≠b)->∀b∈fp,W7 Y pn H' b:=fun{H' pn} hn hp b hb=>by
   subst hY
   refine⟨hn b hb,(below b (hfp b hb)).1,fun z=>?_,.inl hb,fun x c e=>?_,fun p hp'=>hp p hp' b hb⟩
   ·exact(I0 0).ok.exfs b hb z
   ·exact((I0 0).ok.exf b hb).2 x c e
  have dfp:∀b∈fp,D≠b:=fun b hb=>Ne.symm (below b (hfp b hb)).2
  have hcellD:∀x c,Y.env.cells.lookup x=some c->c≠D:=fun x c e z=>by
   subst hY
   have e:(YX X.env.cells scope.names []).lookup x=some c:=e
   have e':=TN scope.names [] (S.clos I2) (fun h=>by simp at h) e
   obtain⟨v,q⟩:=I2.cell x c e'
   exact(below c q.lt).2 z
  have hfsD:D∉Y.fs:=fun z=>by
   subst hY
   obtain⟨_,o,ho,_⟩:=(I0 0).ok.funs.mem z
   have:=Heap.lt_size ho
   have:D<s2.heap.objs.size:=this
   omega
  have eL:Y.env.locals=C:=by subst hY;rfl
  have eS:Y.s₀=s2:=by subst hY;rfl
  have eP:Y.pn=[]:=by subst hY;rfl
  refine UW (fun n s'=>∃i ys its nn H',Inv Y [] (ZZ own.length ix σ) H' s'/\tn i s'.heap/\(∀b∈fp,H' b=none)/\s'.heap.get? D=some { cls:=.type "list",data:=.seq its nn }/\Vals ys its.toList/\H' D=none/\W i n ys H') ?_ m0
   ⟨0,[],#[],0,H2,I0 _,T.keep _ _ _ st2 fun b _ o e=>old b o e,fun b hb=>(f2 b hb).1,hacc,.nil,I2.hok.fresh (by omega),w0⟩
  rintro n s3 ⟨i,ys,its,nn,H3,I3,st3,fr3,oD,vD,nD,w3⟩
  obtain⟨hlen,cases3⟩:=turn i n ys H3 w3
  have hsize:its.size<=sizeLine:=by
   have:=vD.length
   simp only[Array.length_toList] at this;omega
  have pD:Inv Y [(D,{ cls:=.type "list",data:=.seq its nn })] (ZZ own.length ix σ) H3 s3:=I3.pins_of fun p hp=>by
   rw[List.mem_singleton.mp hp]
   exact⟨oD,nD,by rw[eL];exact hDC,hfsD,fun v z=>by cases z⟩
  have YP:Y.prog=X.prog:=by subst hY;rfl
  have Yw:Y.w=X.w:=by subst hY;rfl
  have YK:Y.K=X.K:=by subst hY;rfl
  have YA:Y.A=X.A:=by subst hY;rfl
  have Yx:Y.xe=fun _ _=>False:=by subst hY;rfl
  have Ye:Y.env=compEnvC scope (YX X.env.cells scope.names []) C X.env:=by subst hY;rfl
  have ne1:∀p∈[((D,{ cls:=.type "list",data:=.seq its nn }):Addr×Obj)],∀b∈fp,p.1≠b:=fun p hp b hb=>by rw[List.mem_singleton.mp hp];exact dfp b hb
  rcases cases3 with⟨stop,qn⟩ | ⟨go,N,hN,step⟩
  ·have d:=T.done Y YP Yw YK (by subst hY;exact hcalm) i _ s3 _ H3 (notedBy (model X.prog X.w) X.A (compEnvC scope (YX X.env.cells scope.names []) C X.env) fun e s'=>RR (.ref D) C (.error e) s') pD (stat fr3 ne1) st3 stop
   rw[YA] at d
   refine YT d fun r s4 ⟨hr,I4⟩=>?_
   subst hr
   show RR (.ref D) C (.ok .next) s4
   obtain⟨oD4,nD4,_⟩:=I4.pin (D,_) (by rw[eP];exact List.mem_cons_self)
   obtain⟨m,hn,_⟩:=I4.loc
   rw[eL] at hn
   obtain⟨oC,es,ep,hoC,hdC,hrest⟩:=id hn
   have hfreeC:H3 C=none:=by have:=I4.free;rw[eL] at this;exact this
   have un:Un (Qd X.stack) fp H2 H3 s2.heap s4.heap:=by
    have:=I4.base
    subst hY;exact this
   have lt2:∀b o,s2.heap.get? b=some o->b≠D:=fun b o e=>(below b (Heap.lt_size e)).2
   have un':Un (Qd X.stack) fp H2 (upd H3 D (.lst ys)) s2.heap s4.heap:=by
    refine⟨un.keep,un.slot,fun b o e n hx=>?_,un.there,fun b xs e=>?_,fun b o u e=>?_,fun b ps e=>?_⟩
    ·rw[upd_ne (lt2 b o e)];exact un.free b o e n hx
    ·have q:=un.tups b xs e
     rw[upd_ne (ZA q nD4)];exact q
    ·have q:=un.frzs b o u e
     rw[upd_ne (ZA q nD4)];exact q
    ·obtain⟨more,q⟩:=un.tbls b ps e
     exact⟨more,by rw[upd_ne (ZA q nD4)];exact q⟩
   have hok4:HOk X.prog X.w H3 s4.heap:=by
    have:=I4.hok
    rw[YP,Yw] at this;exact this
   have hok':HOk X.prog X.w (upd H3 D (.lst ys)) s4.heap:=fun b u q=>by
    by_cases hb:b=D
    ·subst hb
     rw[Zs] at q;cases q
     exact⟨hlen,its.toList,nn,vD,by simpa using oD4⟩
    ·rw[upd_ne hb] at q
     exact(hok4 b u q).stay (fun c v _ z=>z) (fun c z=>by rw[upd_ne (ZA z nD4)];exact z) fun c xs z=>by rw[upd_ne (ZA z nD4)];exact z
   have os4:s4.os=s2.os:=by rw[I4.os,eS]
   have I5:Inv X pins σ (upd H3 D (.lst ys)) s4:=I2.call' os4 un' hok' I4.bare fun b hb=>⟨(f2 b hb).2.2.2.1,(f2 b hb).2.1,(f2 b hb).2.2.2.2.1,(f2 b hb).2.2.2.2.2⟩
   have CL:C≠X.env.locals:=fun z=>by
    exact(below _ I2.lt).1 z.symm
   have fpC:W7 X pins (upd H3 D (.lst ys)) C:=I2.fpOk (by omega) (by rw[upd_ne (Ne.symm hDC)];exact hfreeC)
   refine hRR D C oC m s4 H3 ys (I5.pins_of fun p hp=>?_) hoC hn fpC nD4 qn
   rcases List.mem_append.mp hp with z | z
   ·exact I5.pin p (List.mem_append_right _ z)
   ·rw[List.mem_singleton.mp z]
    exact⟨hoC,fpC.1,fpC.2.1,fpC.2.2.1,fun v z=>by rw[hdC] at z;cases z⟩
  ·have d:=T.item Y YP Yw YK (by subst hY;exact hcalm) i _ s3 _ H3 (fun _ _=>False) pD (stat fr3 ne1) st3 go
   rw[YA] at d
   refine wpAny_mono d (fun r s4 ⟨u,hr,h4⟩=>?_) fun _ _ z=>z.elim
   subst hr
   refine wpAny_mono h4 (fun _ s5 ⟨x,H5,I5,r5,y5,st5,fr5⟩=>?_) fun _ _ z=>z.elim
   have I5':=I5.pinned (stat fr5 ne1) (T.obj _ _ st5)
   have hg':=hg (YX X.env.cells scope.names []) C s2 H2 fp
   have ht':=ht (YX X.env.cells scope.names []) C s2 H2 fp
   have he':=he (YX X.env.cells scope.names []) C s2 H2 fp
   rw[hY] at hg' ht' he'
   have a6:=hg' _ s5 _ H5 x u _ I5' r5 (step x H5 y5)
   rw[YP,Yw,YA,Ye,Yx] at a6
   refine wpAny_mono a6 (fun _ s6 ⟨σ6,H6,I6,dr,q6⟩=>?_) fun _ _ z=>z.elim
   have a7:=ht' _ s6 σ6 H6 _ I6 q6;rw[YP,Yw,YA,Ye,Yx] at a7
   refine wpAny_mono a7 (fun ok s7 ⟨H7,I7,q7⟩=>?_) fun _ _ z=>z.elim
   have back:∀{H8:Hp}{s8:Shared},Inv Y ([((D,{ cls:=.type "list",data:=.seq its nn }):Addr×Obj)]++Vv fp s5.heap) σ6 H8 s8->
     s8.heap.get? D=some { cls:=.type "list",data:=.seq its nn }/\H8 D=none/\tn (i+1) s8.heap/\(∀b∈fp,H8 b=none):=fun{H8 s8} I8=>by
    obtain⟨e1,e2,_⟩:=I8.pin (D,{ cls:=.type "list",data:=.seq its nn }) (by rw[eP];exact List.mem_cons_self)
    refine⟨e1,e2,T.keep _ _ _ st5 fun b hb o e=>(I8.pin (b,o) (by rw[eP];exact List.mem_cons_of_mem _ (XW hb e))).1,fun b hb=>?_⟩
    obtain⟨o,e,_⟩:=T.obj _ _ st5 b hb
    exact(I8.pin (b,o) (by rw[eP];exact List.mem_cons_of_mem _ (XW hb e))).2.1
   have unp:∀{H8:Hp}{s8:Shared},Inv Y ([((D,{ cls:=.type "list",data:=.seq its nn }):Addr×Obj)]++Vv fp s5.heap) σ6 H8 s8->Inv Y [] (ZZ own.length ix σ) H8 s8:=fun{H8 s8} I8=>
    (I8.pins_of (pins':=[]) fun p hp=>absurd hp (by simp)).weak (by
     have e1:=(I0 0).len
     have e2:=I8.len
     rw[e1,e2]) (Qo dr)
   cases ok with
   | false=>
    rw[if_neg Bool.false_ne_true] at q7
    show ∃m,m<n/\_
    obtain⟨e1,e2,e3,e4⟩:=back I7
    obtain⟨m',hm,w7⟩:=hN _ _ q7
    exact⟨m',hm,i+1,ys,its,nn,H7,unp I7,e3,e4,e1,vD,e2,w7⟩
   | true=>
    rw[if_pos rfl] at q7
    show wpAny _ _ _ _ _ _
    have a8:=he' _ s7 σ6 H7 _ I7 q7;rw[YP,Yw,YA,Ye,Yx] at a8
    refine wpAny_mono a8 (fun yv s8 ⟨y,H8,I8,ry,q8⟩=>?_) fun _ _ z=>z.elim
    obtain⟨e1,e2,e3,e4⟩:=back I8
    obtain⟨m',hm,w8⟩:=hN _ _ q8
    refine append_at e1 (fun h9 hs9 hD9=>?_) hsize
    have I9:Inv Y [] (ZZ own.length ix σ) H8 { s8 with heap:=h9 }:=(unp I8).turned (t':=s8.toks) (it:=D) (fun b o hb e=>hs9.extBut b o hb e) e2 (by rw[eL];exact hDC) (.inr (by rw[eS];omega)) hcellD (fun p hp=>absurd (show p∈([]:List (Addr×Obj)) by rw[eP] at hp;exact hp) (by simp))
    refine⟨m',hm,i+1,ys++[y],its.push yv,nn+1,H8,I9,T.keep _ _ _ e3 fun b hb o e=>hs9.extBut b o (Ne.symm (dfp b hb)) e,e4,hD9,?_,e2,w8⟩
    rw[Array.toList_push]
    exact vD.append (.cons ry .nil)
 exact codeAny_compStart_list (loop _ rfl) (T.self X.A 0 _ _ _ (T.keep _ _ _ st2 fun b _ o e=>old b o e) (loop _ rfl))
theorem IP(hcalm:X.calm=true)(hi:PI X tg iter wi)(S:CompScope X.N X.env.scope scope own fr ix)
  (hg:∀cl C s H ex,PG (ZV X (own++fr) scope cl C s H ex) tg g) (ht:∀cl C s H ex,Mw (ZV X (own++fr) scope cl C s H ex) ifs tt) (he:∀cl C s H ex,PE (ZV X (own++fr) scope cl C s H ex) elt te)
  (hs:∀x,foldedSetIterable iter X.env x=pure x:=by intro _;rfl):PE X (.ListComp elt [⟨tg,iter,ifs,0⟩] scope pos) (S1 own.length ix wi g tt te):=by
 intro pins s σ H Q I h;rw[eval_ListComp]
 refine wpAny_comprehension_free (use:=none) (cl:=YX X.env.cells scope.names []) rfl hs (WH (S.clos I)) S.kind S.names (YT (hi pins s σ H _ I h) fun v s1 h1=>YT h1 fun itv s2 h2=>?_)
 obtain⟨it,fp,tn,J,H2,e,I2,T,st2,f2,W,⟨m0,w0⟩,turn⟩:=h2
 subst e
 refine S2 (Fin:=fun ys H=>∀p,H p=none->Q (.ref p) (upd H p (.lst ys))) (RR:=fun acc C=>compPost (model X.prog X.w) X.A X.xe none (EP X pins σ Q) acc C) hcalm S hg ht he I2 T st2 f2 w0 turn ?_
 intro D C oC m s' H' ys I5 hoC hn fpC nD fin
 refine⟨m,hn,fun h' hs'=>⟨.ref D,upd H' D (.lst ys),?_,rfl,fin D nD⟩⟩
 exact(I5.unpinned (pl:=[(C,oC)])).turned (t':=s'.toks) (it:=C) (fun b o hb e=>hs'.extBut b o hb e) fpC.1 fpC.2.1 fpC.2.2.2.1 fpC.2.2.2.2.1 fpC.2.2.2.2.2
theorem IQ{i:Nat}{y:Str}{py spos:Pos}(hN:X.N.Nodup)(hy:X.N[i]?=some y)(hloc:X.env.scope.names.lookup y=some .local)(hcalm:X.calm=true)(hi:PI X tg iter wi)(S:CompScope X.N X.env.scope scope own fr ix)
  (hg:∀cl C s H ex,PG (ZV X (own++fr) scope cl C s H ex) tg g) (ht:∀cl C s H ex,Mw (ZV X (own++fr) scope cl C s H ex) ifs tt) (he:∀cl C s H ex,PE (ZV X (own++fr) scope cl C s H ex) elt te)
  (hsw:swapsWith (.ListComp elt [⟨tg,iter,ifs,0⟩] scope pos) (some (.Name y py)) spos.line X.env=pure true:=by rfl)
  (hs:∀x,foldedSetIterable iter X.env x=pure x:=by intro _;rfl):PS X (.Assign [.Name y py] (.ListComp elt [⟨tg,iter,ifs,0⟩] scope pos) spos) (QW (S1 own.length ix wi g tt te) (US i)):=by
 intro pins s σ H D0 I h;rw[exec_Assign_Name_used _ _ _ _ hsw]
 refine wpAny_bind (wpAny_standAt (wpAny_bind ?_))
 show wpAny _ X.A (do let _ <-comprehension (.ListComp elt [⟨tg,iter,ifs,0⟩] scope pos) scope X.env _ (newList []) false (eval iter X.env) (some (assign (.Name y py) X.env))) _ _ s
 refine wpAny_bind (wpAny_mono (wpAny_comprehension_free (cl:=YX X.env.cells scope.names []) (use:=some (assign (.Name y py) X.env)) (Q:=fun _ s'=>SP X pins D0 .next s') (E:=X.xe) rfl hs (WH (S.clos I)) S.kind S.names
  (YT (hi pins s σ H _ I h) fun v s1 h1=>YT h1 fun itv s2 h2=>?_)) (fun _ s' hq=>wpAny_pure (wpAny_pure hq)) fun _ _ e=>e)
 obtain⟨it,fp,tn,J,H2,e,I2,T,st2,f2,W,⟨m0,w0⟩,turn⟩:=h2
 subst e
 refine S2 (Fin:=fun ys H=>∀p,H p=none->US i (.ref p) σ (upd H p (.lst ys)) D0.nx) (RR:=fun acc C=>compPost (model X.prog X.w) X.A X.xe (some (assign (.Name y py) X.env)) (fun _ s'=>SP X pins D0 .next s') acc C) hcalm S hg ht he I2 T st2 f2 w0 turn ?_
 intro D C oC m s' H' ys I5 hoC hn fpC nD fin
 show wpAny _ X.A (assign (.Name y py) X.env (.ref D)) _ _ _
 refine wpAny_assign_Name (Vu I5 hN hy (.inl hloc) (v:=.ref D) rfl (fun s6 I6=>?_) (.inr hloc))
 obtain⟨e6,_⟩:=I6.pin (C,oC) (List.mem_append_right _ (List.mem_append_right _ List.mem_cons_self))
 obtain⟨o',es,ep,ho',r'⟩:=hn
 rw[hoC] at ho';cases ho'
 refine⟨m,⟨oC,es,ep,e6,r'⟩,fun h' hs'=>⟨_,upd H' D (.lst ys),?_,fin D nD⟩⟩
 exact(I6.unpinned (pl:=[(C,oC)])).turned (t':=s6.toks) (it:=C) (fun b o hb e=>hs'.extBut b o hb e) fpC.1 fpC.2.1 fpC.2.2.2.1 fpC.2.2.2.2.1 fpC.2.2.2.2.2
end
open AutoSeq1 (wpAny_loadPart')
section
variable {prog:Program} {w:World} {A:Around} {E:Value->Shared->Prop} {s:Shared}
theorem UX{it l:Addr}{i:Nat}{items}{x:Value}{Q:Value->Shared->Prop}(hit:s.heap.IsTupleIter it l i)
  (hl:s.heap.IsTuple l items) (hx:items[i]?=some x)
  (hQ:∀h',h'.IsTupleIter it l (i+1)->Heap.SameBut it s.heap h'->Q x { s with heap:=h' }) :
  wpAny (model prog w) A (Builtin.SmallTypes.nextOf (.ref it)) Q E s:=by
 obtain⟨o,ho,hc,hd⟩:=id hit
 obtain⟨ol,hol,_,nl,hdl⟩:=hl
 unfold Builtin.SmallTypes.nextOf
 refine wpAny_bind (wpAny_callSpecial?_slot (name:=Str.ofString "__next__") hit.typeIs F.slot_tuple_iterator_next
  (wpAny_call_entry F.slot_tuple_iterator_next hit.typeIs F.entry_tuple_iterator_next ?_ (F.args_tuple_iterator_next_1 _)))
 show wpAny _ _ (field (.ref it) 0 >>= _) _ _ s
 refine wpAny_bind (wpAny_field ho hd (x:=.ref l) rfl ?_)
 show wpAny _ _ (if(Value.ref l==Value.none)=true then _ else _) _ _ s
 rw[if_neg (show ¬((Value.ref l==Value.none)=true) from Bool.false_ne_true)]
 show wpAny _ _ (field (.ref it) 1 >>= _) _ _ s
 refine wpAny_bind (wpAny_field ho hd (x:=.int i 0) rfl ?_)
 show wpAny _ _ (seqItems? (.ref l) >>= _) _ _ s
 refine wpAny_bind (wpAny_seqItems hol hdl ?_)
 simp only[Int.toNat_natCast,hx]
 refine wpAny_bind (wpAny_setField ho hd (by simp) (wpAny_pure ⟨x,rfl,wpAny_pure (hQ _ ?_ (Heap.SameBut.update ..))⟩))
 exact⟨_,Heap.get?_update_self _ ho (Obj.isFreed_of_fields (Obj.data_mapFields hd _)),(Obj.cls_mapFields ..).trans hc,by
  rw[Obj.data_mapFields hd];simp[rawInt]⟩
theorem TR{it l:Addr}{i:Nat}{items}{Q:Value->Shared->Prop}(hh:A.handled=none)
  (hit:s.heap.IsTupleIter it l i) (hl:s.heap.IsTuple l items) (hx:items[i]?=none)
  (hE:∀h' e,Heap.ExtBut it s.heap h'->(∃o,h'.get? e=some o/\o.cls = .type "StopIteration")->E (.ref e) { s with heap:=h' }) :
  wpAny (model prog w) A (Builtin.SmallTypes.nextOf (.ref it)) Q E s:=by
 obtain⟨o,ho,hc,hd⟩:=id hit
 obtain⟨ol,hol,_,nl,hdl⟩:=hl
 unfold Builtin.SmallTypes.nextOf
 refine wpAny_bind (wpAny_callSpecial?_slot (name:=Str.ofString "__next__") hit.typeIs F.slot_tuple_iterator_next
  (wpAny_call_entry F.slot_tuple_iterator_next hit.typeIs F.entry_tuple_iterator_next ?_ (F.args_tuple_iterator_next_1 _)))
 show wpAny _ _ (field (.ref it) 0 >>= _) _ _ s
 refine wpAny_bind (wpAny_field ho hd (x:=.ref l) rfl ?_)
 show wpAny _ _ (if(Value.ref l==Value.none)=true then _ else _) _ _ s
 rw[if_neg (show ¬((Value.ref l==Value.none)=true) from Bool.false_ne_true)]
 show wpAny _ _ (field (.ref it) 1 >>= _) _ _ s
 refine wpAny_bind (wpAny_field ho hd (x:=.int i 0) rfl ?_)
 show wpAny _ _ (seqItems? (.ref l) >>= _) _ _ s
 refine wpAny_bind (wpAny_seqItems hol hdl ?_)
 simp only[Int.toNat_natCast,hx]
 refine wpAny_bind (wpAny_rule (wpAny_bind (wpAny_setField ho hd (by simp) ?_)))
 show wpAny _ _ (newExc (.type "StopIteration") [] >>= _) _ _ _
 refine wpAny_bind ?_
 simp only[newExc,newTuple]
 refine wpAny_bind (wpAny_newObj_type ?_ (by size_fits))
 refine wpAny_bind (m:=firstArgMember _ _) (wpAny_of_eq (a:=Value.none) (by first | rfl | (simp only[firstArgMember];rfl)) ?_)
 refine wpAny_newObj_type ?_ (by size_fits)
 simp only[raiseNew]
 refine wpAny_bind (wpAny_handled ?_)
 first | rw[show A.in1.handled=none from hh] | rw[hh]
 refine wpAny_bind (wpAny_pure (wpAny_throw ?_))
 exact hE _ _ (((Heap.SameBut.update ..).extBut.push _).push _) ⟨_,Heap.get?_push_size _ rfl,rfl⟩
end
def SeqB(b:Bool)(h:Heap)(a:Addr)(its:Array Value):Prop:=if b=true then h.IsList a its else h.IsTuple a its
def IterB(b:Bool)(h:Heap)(it a:Addr)(i:Nat):Prop:=if b=true then h.IsListIter it a i else h.IsTupleIter it a i
def Qp(b:Bool)(K:PySem.W.Frag)(H:Hp)(a:Addr)(xs:List V):Prop:=if b=true then SqL K H a xs else SqT K H a xs
def Vl(b:Bool)(a:Addr):Obj:={ cls:=.type (if b=true then "list_iterator" else "tuple_iterator"),data:=.fields #[.ref a,.int 0 0] }
theorem SeqB.at{b:Bool}{h h':Heap}{a:Addr}{its:Array Value}(x:SeqB b h a its)(k:∀o,h.get? a=some o->h'.get? a=some o):SeqB b h' a its:=by
 cases b with
 | true=>obtain⟨o,e,r⟩:=(show h.IsList a its from x);exact⟨o,k o e,r⟩
 | false=>obtain⟨o,e,r⟩:=(show h.IsTuple a its from x);exact⟨o,k o e,r⟩
theorem SeqB.has{b:Bool}{h:Heap}{a:Addr}{its:Array Value}(x:SeqB b h a its):∃o,h.get? a=some o:=by
 cases b with
 | true=>obtain⟨o,e,r⟩:=(show h.IsList a its from x);exact⟨o,e⟩
 | false=>obtain⟨o,e,r⟩:=(show h.IsTuple a its from x);exact⟨o,e⟩
theorem IterB.at{b:Bool}{h h':Heap}{it a:Addr}{i:Nat}(x:IterB b h it a i)(k:∀o,h.get? it=some o->h'.get? it=some o):IterB b h' it a i:=by
 cases b with
 | true=>obtain⟨o,e,r⟩:=(show h.IsListIter it a i from x);exact⟨o,k o e,r⟩
 | false=>obtain⟨o,e,r⟩:=(show h.IsTupleIter it a i from x);exact⟨o,k o e,r⟩
theorem IterB.has{b:Bool}{h:Heap}{it a:Addr}{i:Nat}(x:IterB b h it a i):∃o,h.get? it=some o/\∀v,o.data≠.cell v:=by
 cases b with
 | true=>obtain⟨o,e,_,d⟩:=(show h.IsListIter it a i from x);exact⟨o,e,fun v z=>by rw[d] at z;cases z⟩
 | false=>obtain⟨o,e,_,d⟩:=(show h.IsTupleIter it a i from x);exact⟨o,e,fun v z=>by rw[d] at z;cases z⟩
theorem IterB.new{b:Bool}{h:Heap}{it a:Addr}(e:h.get? it=some (Vl b a)):IterB b h it a 0:=by
 cases b with
 | true=>exact⟨_,e,rfl,rfl⟩
 | false=>exact⟨_,e,rfl,rfl⟩
section
variable {X:Cx} {pins:List (Addr×Obj)} {σ:St} {H:Hp} {s:Shared} {a:Addr} {xs ys:List V} {b:Bool}
theorem Inv.seqB(I:Inv X pins σ H s)(h:Qp b X.K H a xs):∃its:List Value,Vals xs its/\SeqB b s.heap a its.toArray/\xs.length<=sizeLine:=by
 cases b with
 | true=>
  obtain⟨its,r,p,z⟩:=I.list (show SqL X.K H a xs from h)
  exact⟨its,r,p.isList,z⟩
 | false=>
  obtain⟨its,r,p,z⟩:=I.tuple (show SqT X.K H a xs from h)
  exact⟨its,r,p,z⟩
theorem Inv.seqB_inj(I:Inv X pins σ H s)(h:Qp b X.K H a xs)(h':Qp b X.K H a ys):xs=ys:=by
 cases b with
 | true=>exact I.list_inj (show SqL X.K H a xs from h) (show SqL X.K H a ys from h')
 | false=>exact I.tuple_inj (show SqT X.K H a xs from h) (show SqT X.K H a ys from h')
end
theorem Draws.seq{prog:Program}{w:World}{A:Around}(b:Bool)(hh:A.handled=none)(it l:Addr)(hne:l≠it)(items:Array Value) :
  Draws prog w A it [it,l] items.size (fun i v=>items[i]?=some v) (fun i h=>IterB b h it l i/\SeqB b h l items) where
 live:=fun _ _ st=>let⟨o,ho,_⟩:=st.1.has;⟨o,ho⟩
 frame:=fun _ _ _ st hk=>⟨st.1.at fun o e=>hk it (by simp) o e,st.2.at fun o e=>hk l (by simp) o e⟩
 item:=fun i s Q E hi st hQ=>by
  cases b with
  | true=>
   refine wpAny_nextOf_list_item (show s.heap.IsListIter it l i from st.1) (show s.heap.IsList l items from st.2) (x:=items[i]) (by simp[hi]) fun h' hit' hs'=>?_
   exact hQ _ h' s.toks (by simp[hi]) ⟨hit',st.2.at fun o e=>hs'.extBut l o hne e⟩ hs'
  | false=>
   refine UX (show s.heap.IsTupleIter it l i from st.1) (show s.heap.IsTuple l items from st.2) (x:=items[i]) (by simp[hi]) fun h' hit' hs'=>?_
   exact hQ _ h' s.toks (by simp[hi]) ⟨hit',st.2.at fun o e=>hs'.extBut l o hne e⟩ hs'
 done:=fun s Q E st hE=>by
  cases b with
  | true=>exact wpAny_nextOf_list_end hh (show s.heap.IsListIter it l _ from st.1) (show s.heap.IsList l items from st.2) (by simp) hE
  | false=>exact TR hh (show s.heap.IsTupleIter it l _ from st.1) (show s.heap.IsTuple l items from st.2) (by simp) hE
theorem Y0{prog:Program}{w:World}{A:Around}{E:Value->Shared->Prop}{s:Shared}{b:Bool}{a:Addr}{its:Array Value}{Q:Value->Shared->Prop}(h:SeqB b s.heap a its)
  (hQ:Q (.ref s.heap.objs.size) { s with heap:=s.heap.push (Vl b a) }):wpAny (model prog w) A (pyIter (.ref a)) Q E s:=by
 cases b with
 | true=>exact wpAny_pyIter_list (show s.heap.IsList a its from h) hQ
 | false=>exact wpAny_pyIter_tuple (show s.heap.IsTuple a its from h) hQ
set_option maxHeartbeats 4000000 in
theorem S3(b:Bool)(l:Addr)(items:Array Value) :
  Meets (Builtin.«enumerate.__new__» ⟨[.type "enumerate",.ref l],[]⟩) (fun _ R s=>SeqB b s.heap l items/\
   R (.ok (.ret (.ref (s.heap.push (Vl b l)).objs.size)))
    { s with heap:=(s.heap.push (Vl b l)).push { cls:=.type "enumerate",data:=.fields #[.none,.bool false,.ref s.heap.objs.size,rawInt 0,.none,.none] } }):=
 .of_wp fun prog w A R s h=>by
  obtain⟨hp,g,d,tk,os⟩:=s;obtain⟨hl,h⟩:=h
  have hsub:=sub_enumerate
  obtain⟨o,ho⟩:=hl.has
  have hL:SeqB b (Shared.heap ⟨hp,g,d,tk,os⟩) l items:=hl
  wp_walk using wpAny_loadPart' ho
  refine wpAny_stack_any fun st=>wpAny_pure ?_
  split
  ·rename_i c _ _ _ _ _
   cases (c==Value.type "enumerate")
   ·wp_walk using wpAny_loadPart' ho,Y0 hL
    exact⟨_,rfl,h⟩
   ·wp_walk using wpAny_loadPart' ho,Y0 hL
    exact⟨_,rfl,h⟩
  ·wp_walk using wpAny_loadPart' ho,Y0 hL
   exact⟨_,rfl,h⟩
section
variable {prog:Program} {w:World} {A:Around} {E:Value->Shared->Prop} {s:Shared}
theorem RY{b:Bool}{l:Addr}{items:Array Value}{Q:Value->Shared->Prop}(hL:SeqB b s.heap l items)
  (h:∀h',IsEnum h' (s.heap.objs.size+1) s.heap.objs.size 0 .none->IterB b h' s.heap.objs.size l 0->h'.objs.size=s.heap.objs.size+2->
   (∀b o,s.heap.get? b=some o->h'.get? b=some o)->Q (.ref (s.heap.objs.size+1)) { s with heap:=h' }) :
  wpAny (model prog w) A (call (.type "enumerate") [.ref l]) Q E s:=by
 refine callType_new F.called_enumerate (by decide) (F.typeCall_enumerate_1 _) (F.newCall_enumerate_1 _) (fun obj=>F.args_object_init_2 obj _) F.entry_enumerate_new
  (S3 b l items) ⟨hL,?_⟩
 have hz:(s.heap.push (Vl b l)).objs.size=s.heap.objs.size+1:=Heap.size_push ..
 show _/\_
 rw[hz]
 have he:IsEnum ((s.heap.push (Vl b l)).push
   { cls:=.type "enumerate",data:=.fields #[.none,.bool false,.ref s.heap.objs.size,rawInt 0,.none,.none] }) (s.heap.objs.size+1) s.heap.objs.size 0 .none:=by
  have:=Heap.get?_push_size (s.heap.push (Vl b l))
   (o:={ cls:=.type "enumerate",data:=.fields #[.none,.bool false,.ref s.heap.objs.size,rawInt 0,.none,.none] }) rfl
  rw[hz] at this;exact this
 refine⟨⟨_,he,rfl⟩,h _ he (IterB.new (Heap.get?_push_of_some _ (Heap.get?_push_size _ rfl))) (by rw[Heap.size_push,hz]) fun b o x=>Heap.get?_push_of_some _ (Heap.get?_push_of_some _ x)⟩
end
def Cp(b:Bool)(K:PySem.W.Frag)(a:Addr):It:=
  ⟨fun i H=>∃xs x,Qp b K H a xs/\xs[i]?=some x,
   fun i H v H'=>∃p x,H p=none/\v = .ref p/\H'=upd H p (.tup [.int i,x])/\∀xs,Qp b K H a xs->xs[i]?=some x,
   fun i H=>∃xs,Qp b K H a xs/\xs.length=i⟩
theorem Ll{P:Program}{w:World}{K:PySem.W.Frag}{elts:List Expr}{k:Nat}{pos:Pos}(b:Bool)(a e it:Addr)(hei:e≠it) :
  P0 P w K (.Tuple elts k pos) (Cp b K a) [e,it] e (fun i h=>(∃old,IsEnum h e it i old)/\IterB b h it a i) where
 mem:=by simp
 obj:=fun i h st c hc=>by
  rcases List.mem_cons.mp hc with rfl | hc
  ·obtain⟨⟨old,q⟩,_⟩:=st
   exact⟨_,q,fun v z=>by cases z⟩
  ·rw[List.mem_singleton.mp hc]
   exact st.2.has
 keep:=fun i h h' st kk=>⟨let⟨old,q⟩:=st.1;⟨old,kk e (by simp) _ q⟩,st.2.at fun o q=>kk it (by simp) o q⟩
 item:=by
  intro X hP hw hK hc i pins s σ H E I hf st hg
  subst hP hw hK
  obtain⟨xs,x,hq,hx⟩:=hg
  obtain⟨its,rv,p,hz⟩:=I.seqB hq
  obtain⟨u,hu,ru⟩:=rv.get hx
  obtain⟨⟨old,he⟩,hit⟩:=st
  have fe:=hf e (by simp)
  have fi:=hf it (by simp)
  obtain⟨oa,hoa⟩:=p.has
  have tra:H a=none->a<X.s₀.heap.objs.size\/True:=fun _=>.inr trivial
  -- the sequence is neither record
  have ne_of_fp:∀c,W7 X pins H c->(∃oc,s.heap.get? c=some oc/\∃n vs,oc.cls = .type n/\oc.data = .fields vs)->a≠c:=fun c _ ⟨oc,hoc,n,vs,hn,hv⟩ z=>by
   subst z
   rw[hoa] at hoc;cases hoc
   cases b with
   | true=>obtain⟨o,e1,_,m,d⟩:=(show s.heap.IsList a its.toArray from p);rw[hoa] at e1;cases e1;rw[hv] at d;cases d
   | false=>obtain⟨o,e1,_,m,d⟩:=(show s.heap.IsTuple a its.toArray from p);rw[hoa] at e1;cases e1;rw[hv] at d;cases d
  have ae:a≠e:=ne_of_fp e fe ⟨_,he,_,_,rfl,rfl⟩
  have ai:a≠it:=ne_of_fp it fi (by
   cases b with
   | true=>obtain⟨o,e1,c1,d1⟩:=(show s.heap.IsListIter it a i from hit);exact⟨o,e1,_,_,c1,d1⟩
   | false=>obtain⟨o,e1,c1,d1⟩:=(show s.heap.IsTupleIter it a i from hit);exact⟨o,e1,_,_,c1,d1⟩)
  have D:=Draws.seq (prog:=X.prog) (w:=X.w) (A:=X.A.in1) b (I.ok.hd hc) it a ai its.toArray
  have hlt:i<its.toArray.size:=by
   have:=(List.getElem?_eq_some_iff.mp hu).1
   simpa using this
  refine wpAny_pyNext_enum_itemD D he ⟨hit,p⟩ hlt hei (by simp[hei,Ne.symm ae]) fun y h' tk hPy ho hs' hT hsz hk=>?_
  have ey:y=u:=by
   have q1:its.toArray[i]?=some y:=hPy
   have q2:its.toArray[i]?=some u:=by simpa using hu
   rw[q1] at q2;exact Option.some.inj q2
  subst ey
  refine⟨_,rfl,wpAny_letOwnedTupleGo_enum ho fun h2 he2 hs2=>?_⟩
  have hs2:Heap.SameBut e h' h2:=hs2
  have Tne:s.heap.objs.size≠e:=Nat.ne_of_gt (Heap.lt_size he)
  have hTn:H s.heap.objs.size=none:=I.hok.fresh (Nat.le_refl _)
  have kk:∀c o,c∉[e,it]->s.heap.get? c=some o->h2.get? c=some o:=fun c o hc' q=>hs2.extBut c o (fun z=>hc' (by simp[z])) (hk c o (fun z=>hc' (by simp[z])) (fun z=>hc' (by simp[z])) q)
  have hT2:h2.get? s.heap.objs.size=some { cls:=.type "tuple",data:=.seq #[.int i tk,y] }:=hs2.extBut _ _ Tne hT
  have hcs:∀c∈[e,it],(c∈X.ex\/X.s₀.heap.objs.size<=c)/\c≠X.env.locals/\(∀x d,X.env.cells.lookup x=some d->d≠c)/\∀p∈X.pn++pins,p.1≠c:=fun c hc'=>by
   have f:=hf c hc'
   exact⟨f.2.2.2.1,f.2.1,f.2.2.2.2.1,f.2.2.2.2.2⟩
  have nfp:∀c u',H c=some u'->c∉[e,it]:=fun c u' q hc'=>by rw[(hf c hc').1] at q;cases q
  have hok0:HOk X.prog X.w H h2:=fun c u' q=>(I.hok c u' q).stay (fun d v hd q'=>kk d v (by
    rcases hd with z | z
    ·rw[z];exact nfp c u' q
    ·exact nfp d _ z) q') (fun _ z=>z) fun _ _ z=>z
  have new:ObjOk X.prog X.w (upd H s.heap.objs.size (.tup [.int i,x])) h2 s.heap.objs.size (.tup [.int i,x]):=
   ⟨⟨by show 2<=sizeLine;decide,fun o e=>by rw[hT2] at e;cases e;rfl⟩,[.int i tk,y],.cons ⟨tk,rfl⟩ (.cons ru .nil),⟨_,hT2,rfl,_,rfl⟩⟩
  have hok1:HOk X.prog X.w (upd H s.heap.objs.size (.tup [.int i,x])) h2:=fun c u' q=>by
   by_cases hb:c=s.heap.objs.size
   ·subst hb;rw[Zs] at q;cases q;exact new
   ·rw[upd_ne hb] at q
    exact(hok0 c u' q).stay (fun d v _ q'=>q') (fun d z=>by rw[upd_ne (ZA z hTn)];exact z) fun d zs z=>by rw[upd_ne (ZA z hTn)];exact z
  have un:Un (Qd X.stack) [e,it] H (upd H s.heap.objs.size (.tup [.int i,x])) s.heap h2:=by
   refine⟨fun c o q _ _ hx'=>kk c o hx' q,fun c o q _ _ hx'=>⟨o.slots,kk c o hx' q⟩,fun c o q n _=>?_,fun c o q hx'=>⟨o,kk c o hx' q⟩,fun c zs q=>?_,fun c o zs q=>?_,fun c ps q=>⟨#[],?_⟩⟩
   ·rw[upd_ne (Nat.ne_of_lt (Heap.lt_size q))];exact n
   ·rw[upd_ne (ZA q hTn)];exact q
   ·rw[upd_ne (ZA q hTn)];exact q
   ·rw[upd_ne (ZA q hTn),q];simp
  have I2:Inv X pins σ (upd H s.heap.objs.size (.tup [.int i,x])) { s with heap:=h2,toks:=tk+1 }:=I.call (g':=s.gens) (d':=s.drawn) un hok1 I.bare hcs
  refine⟨.ref s.heap.objs.size,upd H s.heap.objs.size (.tup [.int i,x]),I2,rfl,⟨_,x,hTn,rfl,rfl,fun zs hzs=>by rw[I.seqB_inj hzs hq];exact hx⟩,⟨⟨y,by simpa using he2⟩,?_⟩,fun c hc'=>?_⟩
  ·exact hs'.1.at fun o q=>hs2.extBut it o (Ne.symm hei) q
  ·rw[upd_ne (Nat.ne_of_lt (by
    rcases List.mem_cons.mp hc' with rfl | hc'
    ·exact Heap.lt_size he
    ·rw[List.mem_singleton.mp hc'];obtain⟨o,q,_⟩:=hit.has;exact Heap.lt_size q))]
   exact(hf c hc').1
 done:=by
  intro X hP hw hK hc i pins s σ H E I hf st hg
  subst hP hw hK
  obtain⟨xs,hq,hx⟩:=hg
  obtain⟨its,rv,p,hz⟩:=I.seqB hq
  obtain⟨⟨old,he⟩,hit⟩:=st
  have fi:=hf it (by simp)
  obtain⟨oa,hoa⟩:=p.has
  have ai:a≠it:=fun z=>by
   subst z
   cases b with
   | true=>
    obtain⟨o,e1,_,m,d⟩:=(show s.heap.IsList a its.toArray from p)
    obtain⟨o',e2,_,d2⟩:=(show s.heap.IsListIter a a i from hit)
    rw[e1] at e2;cases e2;rw[d] at d2;cases d2
   | false=>
    obtain⟨o,e1,_,m,d⟩:=(show s.heap.IsTuple a its.toArray from p)
    obtain⟨o',e2,_,d2⟩:=(show s.heap.IsTupleIter a a i from hit)
    rw[e1] at e2;cases e2;rw[d] at d2;cases d2
  have D:=Draws.seq (prog:=X.prog) (w:=X.w) (A:=X.A.in1) b (I.ok.hd hc) it a ai its.toArray
  have hl:=rv.length
  have hi:i=its.toArray.size:=by simp;omega
  refine wpAny_pyNext_enum_endD D he (by rw[<-hi];exact⟨hit,p⟩) fun h' hx'=>⟨rfl,?_⟩
  obtain⟨f0,f1,f2,f3,f4,f5⟩:=fi
  exact I.turned (t':=s.toks) (fun c o hb q=>hx' c o hb q) f0 f1 f3 f4 f5
 self:=fun A i s Q E st hQ=>by
  obtain⟨⟨old,he⟩,_⟩:=st
  exact wpAny_pyIter_enum he hQ
end L2
namespace L2
open PySem PySem.Spec PyProof.Rows
section
variable {X:Cx}
def EY(b:Bool)(K:PySem.W.Frag)(ta:TA):TI:=fun σ H R=>ta σ H fun vs H1=>∃a,vs=[.ref a]/\(∃xs,Qp b K H1 a xs)/\R (Cp b K a) H1
theorem IS{elts:List Expr}{k:Nat}{tpos:Pos}(b:Bool){a:Expr}{ta:TA}{p pos:Pos}(hg:Gl X "enumerate")(hm:X.mg "enumerate" = none)(ha:PA X [a] ta)(hs:starEach [a] X.env=[(false,eval a X.env)]:=by rfl) :
  PI X (.Tuple elts k tpos) (.Call (.Name "enumerate" p) [a] [] pos) (EY b X.K ta):=by
 intro pins s σ H R I h
 refine Call_ (Xy I hg hm (by decide +kernel:bootBuiltins "enumerate" = some (.type "enumerate")) (PyProof.Rows.callWith_type1 (YT (ha pos pins s σ H _ I h) fun us s1 ⟨vs,H1,I1,r1,q1⟩=>?_) hs rfl))
 obtain⟨a,e,⟨xs,hq⟩,q⟩:=q1
 subst e
 cases r1 with
 | cons r rr=>
  cases rr;cases r
  obtain⟨its,rv,hseq,hz⟩:=I1.seqB hq
  refine RY hseq fun h' he hit hsz hk=>?_
  refine wpAny_pyIter_enum he ?_
  have I2:Inv X pins σ H1 { s1 with heap:=h' }:=I1.kept (t':=s1.toks) hk
  have ne:s1.heap.objs.size+1≠s1.heap.objs.size:=Nat.ne_of_gt (Nat.lt_succ_self _)
  refine⟨s1.heap.objs.size+1,[s1.heap.objs.size+1,s1.heap.objs.size],_,_,H1,rfl,I2,Ll b a (s1.heap.objs.size+1) s1.heap.objs.size ne,⟨⟨.none,he⟩,hit⟩,fun c hc=>?_,q⟩
  rcases List.mem_cons.mp hc with rfl | hc
  ·exact I1.fpOk (Nat.le_succ _) (I1.hok.fresh (Nat.le_succ _))
  ·rw[List.mem_singleton.mp hc]
   exact I1.fpOk (Nat.le_refl _) (I1.hok.fresh (Nat.le_refl _))
end
section
variable {prog:Program} {w:World} {A:Around} {E:Value->Shared->Prop} {s:Shared}
structure Qq(z TI TO i1 i2:Addr)(fp1 fp2:List Addr):Prop where
 TIz:TI≠z
 TOz:TO≠z
 i1z:i1≠z
 i2z:i2≠z
 TITO:TI≠TO
 TIi1:TI≠i1
 TIi2:TI≠i2
 TOi1:TO≠i1
 TOi2:TO≠i2
 i12:i1≠i2
 z1:z∉fp1
 TO1:TO∉fp1
 i21:i2∉fp1
 z2:z∉fp2
 TO2:TO∉fp2
 i12':i1∉fp2
theorem KP{z TI TO i1 i2:Addr}{fp1 fp2:List Addr}{n1 n2 k:Nat}{P1 P2:Nat->Value->Prop}{St1 St2:Nat->Heap->Prop}{a b:Value}{Q:Value->Shared->Prop}(D:Qq z TI TO i1 i2 fp1 fp2)
  (D1:Draws prog w A i1 fp1 n1 P1 St1) (D2:Draws prog w A i2 fp2 n2 P2 St2)
  (hz:IsZip s.heap z TI TO .none) (hTI:IsPair s.heap TI (.ref i1) (.ref i2)) (hTO:IsPair s.heap TO a b)
  (h1:St1 k s.heap) (h2:St2 k s.heap) (hx:k<n1) (hy:k<n2)
  (hQ:∀x y h' tk,P1 k x->P2 k y->IsZip h' z TI TO (rawInt s.heap.objs.size)->IsPair h' TO x y->St1 (k+1) h'->St2 (k+1) h'->IsPair h' s.heap.objs.size x y->h'.objs.size=s.heap.objs.size+1->
   (∀c o,c≠z->c≠TO->c≠i1->c≠i2->s.heap.get? c=some o->h'.get? c=some o)->Q (.ref s.heap.objs.size) { s with heap:=h',toks:=tk }) :
  wpAny (model prog w) A (Builtin.«zip.__next__» ⟨[.ref z],[]⟩) (fun fin s'=>∃v,fin = .done (.ret v)/\Q v s') E s:=by
 show wpAny _ _ (field (.ref z) 2 >>= _) _ _ _
 refine wpAny_bind (wpAny_field hz rfl (x:=.bool false) rfl ?_)
 show wpAny _ _ (field (.ref z) 3 >>= _) _ _ _
 refine wpAny_bind (wpAny_field hz rfl (x:=.ref TI) rfl ?_)
 refine wpAny_bind (wpAny_seqItems hTI rfl ?_)
 show wpAny _ _ (Builtin.SmallTypes.ownedTupleIsFree (.ref z) >>= _) _ _ _
 refine wpAny_bind ?_
 unfold Builtin.SmallTypes.ownedTupleIsFree
 refine wpAny_bind (wpAny_field hz rfl (x:=.none) rfl (wpAny_pure ?_))
 simp only[if_true]
 refine wpAny_bind (wpAny_rule ?_)
 refine wpAny_bind (wpAny_field hz rfl (x:=.ref TO) rfl ?_)
 refine wpAny_bind (wpAny_setField_rec hz (by simp) fun h₁ hz₁ hs₁=>?_)
 replace hz₁:IsZip h₁ z TI TO .ellipsis:=hz₁
 refine wpAny_bind ?_
 simp only[List.zipIdx_cons,List.zipIdx_nil,List.forIn_cons,List.forIn_nil]
 refine wpAny_bind (wpAny_bind (wpAny_onRaise ?_))
 show wpAny _ _ (Builtin.SmallTypes.nextOf (.ref i1) >>= _) _ _ _
 have st1:St1 k h₁:=D1.frame _ _ _ h1 fun c hc o e=>hs₁.extBut c o (fun q=>D.z1 (q▸hc)) e
 refine wpAny_bind (D1.item k _ _ _ hx st1 fun x h₂ tk₂ hPx h1₂ hs₂=>wpAny_pure ?_)
 replace hs₂:Heap.SameBut i1 h₁ h₂:=hs₂
 have hTO₂:IsPair h₂ TO a b:=hs₂.extBut _ _ D.TOi1 (hs₁.extBut _ _ D.TOz hTO)
 refine wpAny_bind (wpAny_seqItems hTO₂ rfl ?_)
 refine wpAny_bind (wpAny_updateSeq_pair hTO₂ fun h₃ hTO₃ hs₃=>?_)
 replace hTO₃:IsPair h₃ TO x b:=hTO₃
 replace hs₃:Heap.SameBut TO h₂ h₃:=hs₃
 refine wpAny_bind (wpAny_letGo (wpAny_pure ?_))
 refine wpAny_bind (wpAny_bind (wpAny_onRaise ?_))
 show wpAny _ _ (Builtin.SmallTypes.nextOf (.ref i2) >>= _) _ _ _
 have st2:St2 k h₃:=D2.frame _ _ _ h2 fun c hc o e=>hs₃.extBut c o (fun q=>D.TO2 (q▸hc)) (hs₂.extBut c o (fun q=>D.i12' (q▸hc)) (hs₁.extBut c o (fun q=>D.z2 (q▸hc)) e))
 refine wpAny_bind (D2.item k _ _ _ hy st2 fun y h₄ tk₄ hPy h2₄ hs₄=>wpAny_pure ?_)
 replace hs₄:Heap.SameBut i2 h₃ h₄:=hs₄
 have hTO₄:IsPair h₄ TO x b:=hs₄.extBut _ _ D.TOi2 hTO₃
 refine wpAny_bind (wpAny_seqItems hTO₄ rfl ?_)
 refine wpAny_bind (wpAny_updateSeq_pair hTO₄ fun h₅ hTO₅ hs₅=>?_)
 replace hTO₅:IsPair h₅ TO x y:=hTO₅
 replace hs₅:Heap.SameBut TO h₄ h₅:=hs₅
 refine wpAny_bind (wpAny_letGo (wpAny_pure (wpAny_pure ?_)))
 refine wpAny_bind (wpAny_seqItems hTO₅ rfl ?_)
 refine wpAny_bind (wpAny_newTuple ?_)
 have hsz:h₅.objs.size=s.heap.objs.size:=by rw[hs₅.1,hs₄.1,hs₃.1,hs₂.1,hs₁.1]
 have hz₅:IsZip h₅ z TI TO .ellipsis:=hs₅.extBut _ _ D.TOz.symm (hs₄.extBut _ _ D.i2z.symm (hs₃.extBut _ _ D.TOz.symm (hs₂.extBut _ _ D.i1z.symm hz₁)))
 have hk₅:∀c o,c≠z->c≠TO->c≠i1->c≠i2->s.heap.get? c=some o->h₅.get? c=some o:=fun c o c1 c2 c3 c4 e=>
  hs₅.extBut _ _ c2 (hs₄.extBut _ _ c4 (hs₃.extBut _ _ c2 (hs₂.extBut _ _ c3 (hs₁.extBut _ _ c1 e))))
 have h1₅:St1 (k+1) h₅:=D1.frame _ _ _ h1₂ fun c hc o e=>hs₅.extBut c o (fun q=>D.TO1 (q▸hc)) (hs₄.extBut c o (fun q=>D.i21 (q▸hc)) (hs₃.extBut c o (fun q=>D.TO1 (q▸hc)) e))
 have h2₅:St2 (k+1) h₅:=D2.frame _ _ _ h2₄ fun c hc o e=>hs₅.extBut c o (fun q=>D.TO2 (q▸hc)) e
 have hzlt:z<h₅.objs.size:=Heap.lt_size hz₅
 have hTOlt:TO<h₅.objs.size:=Heap.lt_size hTO₅
 show wpAny _ _ (Builtin.SmallTypes.ownedTupleHandOut (.ref z) (.ref h₅.objs.size) >>= _) _ _ _
 refine wpAny_bind ?_
 unfold Builtin.SmallTypes.ownedTupleHandOut
 have hz₆:IsZip (h₅.push { cls:=.type "tuple",data:=.seq #[x,y] }) z TI TO .ellipsis:=Heap.get?_push_of_some _ hz₅
 refine wpAny_bind (wpAny_setField_rec hz₆ (by simp) fun h₇ hz₇ hs₇=>?_)
 replace hz₇:IsZip h₇ z TI TO (rawInt h₅.objs.size):=hz₇
 refine wpAny_setField_rec hz₇ (by simp) fun h₈ hz₈ hs₈=>?_
 replace hz₈:IsZip h₈ z TI TO (rawInt h₅.objs.size):=hz₈
 have up:∀c o,c≠z->h₅.get? c=some o->h₈.get? c=some o:=fun c o c1 e=>hs₈.extBut _ _ c1 (hs₇.extBut _ _ c1 (Heap.get?_push_of_some _ e))
 have hT₈:IsPair h₈ h₅.objs.size x y:=hs₈.extBut _ _ (Nat.ne_of_gt hzlt) (hs₇.extBut _ _ (Nat.ne_of_gt hzlt) (Heap.get?_push_size _ rfl))
 have hz8:h₈.objs.size=h₅.objs.size+1:=by rw[hs₈.1,hs₇.1,Heap.size_push]
 rw[hsz] at hz₈ hT₈ hz8
 refine wpAny_pure ⟨_,rfl,?_⟩
 show Q (.ref h₅.objs.size) _
 rw[hsz]
 exact hQ x y h₈ tk₄ hPx hPy hz₈ (up _ _ D.TOz hTO₅) (D1.frame _ _ _ h1₅ fun c hc o e=>up c o (fun q=>D.z1 (q▸hc)) e) (D2.frame _ _ _ h2₅ fun c hc o e=>up c o (fun q=>D.z2 (q▸hc)) e) hT₈ hz8 fun c o c1 c2 c3 c4 e=>up c o c1 (hk₅ c o c1 c2 c3 c4 e)
theorem IT{z TI TO i1 i2:Addr}{fp1 fp2:List Addr}{n1 n2 k:Nat}{P1 P2:Nat->Value->Prop}{St1 St2:Nat->Heap->Prop}{a b:Value}{Q:PySem.Fin->Shared->Prop}(D:Qq z TI TO i1 i2 fp1 fp2)
  (D1:Draws prog w A i1 fp1 n1 P1 St1) (D2:Draws prog w A i2 fp2 n2 P2 St2)
  (hz:IsZip s.heap z TI TO .none) (hTI:IsPair s.heap TI (.ref i1) (.ref i2)) (hTO:IsPair s.heap TO a b)
  (h1:St1 k s.heap) (h2:St2 k s.heap) (hend:k=n1\/(k<n1/\k=n2))
  (hE:∀h' tk e,(∀c o,c≠z->c≠TO->c≠i1->c≠i2->s.heap.get? c=some o->h'.get? c=some o)->(∃o,h'.get? e=some o/\o.cls = .type "StopIteration")->E (.ref e) { s with heap:=h',toks:=tk }) :
  wpAny (model prog w) A (Builtin.«zip.__next__» ⟨[.ref z],[]⟩) Q E s:=by
 show wpAny _ _ (field (.ref z) 2 >>= _) _ _ _
 refine wpAny_bind (wpAny_field hz rfl (x:=.bool false) rfl ?_)
 show wpAny _ _ (field (.ref z) 3 >>= _) _ _ _
 refine wpAny_bind (wpAny_field hz rfl (x:=.ref TI) rfl ?_)
 refine wpAny_bind (wpAny_seqItems hTI rfl ?_)
 show wpAny _ _ (Builtin.SmallTypes.ownedTupleIsFree (.ref z) >>= _) _ _ _
 refine wpAny_bind ?_
 unfold Builtin.SmallTypes.ownedTupleIsFree
 refine wpAny_bind (wpAny_field hz rfl (x:=.none) rfl (wpAny_pure ?_))
 simp only[if_true]
 refine wpAny_bind (wpAny_rule ?_)
 refine wpAny_bind (wpAny_field hz rfl (x:=.ref TO) rfl ?_)
 refine wpAny_bind (wpAny_setField_rec hz (by simp) fun h₁ hz₁ hs₁=>?_)
 replace hz₁:IsZip h₁ z TI TO .ellipsis:=hz₁
 replace hs₁:Heap.SameBut z s.heap h₁:=hs₁
 refine wpAny_bind ?_
 simp only[List.zipIdx_cons,List.zipIdx_nil,List.forIn_cons,List.forIn_nil]
 refine wpAny_bind (wpAny_bind (wpAny_onRaise ?_))
 show wpAny _ _ (Builtin.SmallTypes.nextOf (.ref i1) >>= _) _ _ _
 have st1:St1 k h₁:=D1.frame _ _ _ h1 fun c hc o e=>hs₁.extBut c o (fun q=>D.z1 (q▸hc)) e
 rcases hend with hk | ⟨hx,hk⟩
 ·rw[hk] at st1
  refine wpAny_bind (D1.done _ _ _ st1 fun h₂ e hs₂ he=>?_)
  replace hs₂:Heap.ExtBut i1 h₁ h₂:=hs₂
  obtain⟨oe,hoe,hce⟩:=he
  have hz₂:IsZip h₂ z TI TO .ellipsis:=hs₂ _ _ D.i1z.symm hz₁
  have hez:e≠z:=fun x=>by subst x;rw[hz₂] at hoe;cases hoe;simp at hce
  refine wpAny_setField_rec hz₂ (by simp) fun h₃ _ hs₃=>?_
  replace hs₃:Heap.SameBut z h₂ h₃:=hs₃
  exact hE h₃ _ e (fun c o c1 _ c3 _ x=>hs₃.extBut _ _ c1 (hs₂ _ _ c3 (hs₁.extBut _ _ c1 x))) ⟨oe,hs₃.extBut _ _ hez hoe,hce⟩
 ·refine wpAny_bind (D1.item k _ _ _ hx st1 fun x h₂ tk₂ hPx h1₂ hs₂=>wpAny_pure ?_)
  replace hs₂:Heap.SameBut i1 h₁ h₂:=hs₂
  have hTO₂:IsPair h₂ TO a b:=hs₂.extBut _ _ D.TOi1 (hs₁.extBut _ _ D.TOz hTO)
  refine wpAny_bind (wpAny_seqItems hTO₂ rfl ?_)
  refine wpAny_bind (wpAny_updateSeq_pair hTO₂ fun h₃ hTO₃ hs₃=>?_)
  replace hs₃:Heap.SameBut TO h₂ h₃:=hs₃
  refine wpAny_bind (wpAny_letGo (wpAny_pure ?_))
  refine wpAny_bind (wpAny_bind (wpAny_onRaise ?_))
  show wpAny _ _ (Builtin.SmallTypes.nextOf (.ref i2) >>= _) _ _ _
  have st2:St2 k h₃:=D2.frame _ _ _ h2 fun c hc o e=>hs₃.extBut c o (fun q=>D.TO2 (q▸hc)) (hs₂.extBut c o (fun q=>D.i12' (q▸hc)) (hs₁.extBut c o (fun q=>D.z2 (q▸hc)) e))
  rw[hk] at st2
  refine wpAny_bind (D2.done _ _ _ st2 fun h₄ e hs₄ he=>?_)
  replace hs₄:Heap.ExtBut i2 h₃ h₄:=hs₄
  obtain⟨oe,hoe,hce⟩:=he
  have hz₄:IsZip h₄ z TI TO .ellipsis:=hs₄ _ _ D.i2z.symm (hs₃.extBut _ _ D.TOz.symm (hs₂.extBut _ _ D.i1z.symm hz₁))
  have hez:e≠z:=fun x=>by subst x;rw[hz₄] at hoe;cases hoe;simp at hce
  refine wpAny_setField_rec hz₄ (by simp) fun h₅ _ hs₅=>?_
  replace hs₅:Heap.SameBut z h₄ h₅:=hs₅
  exact hE h₅ _ e (fun c o c1 c2 c3 c4 x=>hs₅.extBut _ _ c1 (hs₄ _ _ c4 (hs₃.extBut _ _ c2 (hs₂.extBut _ _ c3 (hs₁.extBut _ _ c1 x))))) ⟨oe,hs₅.extBut _ _ hez hoe,hce⟩
theorem Su{z TI TO i1 i2:Addr}{fp1 fp2:List Addr}{n1 n2 k:Nat}{P1 P2:Nat->Value->Prop}{St1 St2:Nat->Heap->Prop}{a b:Value}{Q:Option Value->Shared->Prop}(D:Qq z TI TO i1 i2 fp1 fp2)
  (D1:Draws prog w A.in1 i1 fp1 n1 P1 St1) (D2:Draws prog w A.in1 i2 fp2 n2 P2 St2)
  (hz:IsZip s.heap z TI TO .none) (hTI:IsPair s.heap TI (.ref i1) (.ref i2)) (hTO:IsPair s.heap TO a b)
  (h1:St1 k s.heap) (h2:St2 k s.heap) (hx:k<n1) (hy:k<n2)
  (hQ:∀x y h' tk,P1 k x->P2 k y->IsZip h' z TI TO (rawInt s.heap.objs.size)->IsPair h' TO x y->St1 (k+1) h'->St2 (k+1) h'->IsPair h' s.heap.objs.size x y->h'.objs.size=s.heap.objs.size+1->
   (∀c o,c≠z->c≠TO->c≠i1->c≠i2->s.heap.get? c=some o->h'.get? c=some o)->Q (some (.ref s.heap.objs.size)) { s with heap:=h',toks:=tk }) :
  wpAny (model prog w) A (pyNext (.ref z)) Q E s:=by
 have hT:s.TypeIs (.ref z) "zip":=⟨_,hz,rfl⟩
 unfold pyNext
 exact wpAny_bind (wpAny_attempt (wpAny_callSpecial?_slot (name:=Str.ofString "__next__") hT F.slot_zip_next
  (wpAny_call_entry F.slot_zip_next hT F.entry_zip_next
   (KP D D1 D2 hz hTI hTO h1 h2 hx hy fun x y h' tk p1 p2 a1 a2 a3 a4 a5 a6 a7=>wpAny_pure (hQ x y h' tk p1 p2 a1 a2 a3 a4 a5 a6 a7)) (F.args_zip_next_1 _))))
theorem S4{z TI TO i1 i2:Addr}{fp1 fp2:List Addr}{n1 n2 k:Nat}{P1 P2:Nat->Value->Prop}{St1 St2:Nat->Heap->Prop}{a b:Value}{Q:Option Value->Shared->Prop}(D:Qq z TI TO i1 i2 fp1 fp2)
  (D1:Draws prog w A.in1 i1 fp1 n1 P1 St1) (D2:Draws prog w A.in1 i2 fp2 n2 P2 St2)
  (hz:IsZip s.heap z TI TO .none) (hTI:IsPair s.heap TI (.ref i1) (.ref i2)) (hTO:IsPair s.heap TO a b)
  (h1:St1 k s.heap) (h2:St2 k s.heap) (hend:k=n1\/(k<n1/\k=n2))
  (hQ:∀h' tk,(∀c o,c≠z->c≠TO->c≠i1->c≠i2->s.heap.get? c=some o->h'.get? c=some o)->Q none { s with heap:=h',toks:=tk }):wpAny (model prog w) A (pyNext (.ref z)) Q E s:=by
 have hT:s.TypeIs (.ref z) "zip":=⟨_,hz,rfl⟩
 unfold pyNext
 refine wpAny_bind (wpAny_attempt (wpAny_callSpecial?_slot (name:=Str.ofString "__next__") hT F.slot_zip_next
  (wpAny_call_entry F.slot_zip_next hT F.entry_zip_next (IT D D1 D2 hz hTI hTO h1 h2 hend fun h' tk e hk he=>?_) (F.args_zip_next_1 _))))
 obtain⟨o,ho,hc⟩:=he
 refine wpAny_bind (wpAny_isInstance (T:="StopIteration") (b:=true) ⟨o,ho,hc⟩ isSubtype_stop ?_)
 exact wpAny_pure (hQ _ tk hk)
end
abbrev DA(h:Heap)(b1:Bool)(l1:Addr):Heap:=h.push (Vl b1 l1)
abbrev DB(h:Heap)(b1 b2:Bool)(l1 l2:Addr):Heap:=(DA h b1 l1).push (Vl b2 l2)
abbrev DC(h:Heap)(b1 b2:Bool)(l1 l2:Addr):Heap:=(DB h b1 b2 l1 l2).push { cls:=.type "tuple",data:=.seq #[.ref h.objs.size,.ref (DA h b1 l1).objs.size] }
abbrev DD(h:Heap)(b1 b2:Bool)(l1 l2:Addr):Heap:=(DC h b1 b2 l1 l2).push { cls:=.type "tuple",data:=.seq #[.none,.none] }
abbrev Fu(h:Heap)(b1 b2:Bool)(l1 l2:Addr):Heap:=(DD h b1 b2 l1 l2).push { cls:=.type "zip",data:=.fields #[.none,.bool false,.bool false,.ref (DB h b1 b2 l1 l2).objs.size,.ref (DC h b1 b2 l1 l2).objs.size] }
theorem RZ(b1 b2:Bool)(l1 l2:Addr)(xs ys:Array Value) :
  Meets (Builtin.«zip.__new__» ⟨[.type "zip",.ref l1,.ref l2],[]⟩) (fun _ R s=>SeqB b1 s.heap l1 xs/\SeqB b2 s.heap l2 ys/\
   R (.ok (.ret (.ref (DD s.heap b1 b2 l1 l2).objs.size))) { s with heap:=Fu s.heap b1 b2 l1 l2 }):=
 .of_wp fun prog w A R s h=>by
  obtain⟨hp,g,d,tk,os⟩:=s;obtain⟨hl1,hl2,h⟩:=h
  have hsub:=sub_zip
  have hL1:SeqB b1 (Shared.heap ⟨hp,g,d,tk,os⟩) l1 xs:=hl1
  have hL2:SeqB b2 (Shared.heap ⟨hp.push (Vl b1 l1),g,d,tk,os⟩) l2 ys:=hl2.at fun o e=>Heap.get?_push_of_some _ e
  wp_walk using Y0 hL1,Y0 hL2
  exact⟨_,rfl,h⟩
section
variable {prog:Program} {w:World} {A:Around} {E:Value->Shared->Prop} {s:Shared}
theorem Q2{b1 b2:Bool}{l1 l2:Addr}{xs ys:Array Value}{Q:Value->Shared->Prop}(hl1:SeqB b1 s.heap l1 xs)(hl2:SeqB b2 s.heap l2 ys)
  (h:∀h',IsZip h' (s.heap.objs.size+4) (s.heap.objs.size+2) (s.heap.objs.size+3) .none->IsPair h' (s.heap.objs.size+2) (.ref s.heap.objs.size) (.ref (s.heap.objs.size+1))->
   IsPair h' (s.heap.objs.size+3) .none .none->IterB b1 h' s.heap.objs.size l1 0->IterB b2 h' (s.heap.objs.size+1) l2 0->h'.objs.size=s.heap.objs.size+5->
   (∀c o,s.heap.get? c=some o->h'.get? c=some o)->Q (.ref (s.heap.objs.size+4)) { s with heap:=h' }) :
  wpAny (model prog w) A (call (.type "zip") [.ref l1,.ref l2]) Q E s:=by
 refine callType_new F.called_zip (by decide) (F.typeCall_zip_2 _ _) (F.newCall_zip_2 _ _) (fun obj=>F.args_object_init_3 obj _ _) F.entry_zip_new
  (RZ b1 b2 l1 l2 xs ys) ⟨hl1,hl2,?_⟩
 have z1:(DA s.heap b1 l1).objs.size=s.heap.objs.size+1:=Heap.size_push ..
 have z2:(DB s.heap b1 b2 l1 l2).objs.size=s.heap.objs.size+2:=by rw[Heap.size_push,z1]
 have z3:(DC s.heap b1 b2 l1 l2).objs.size=s.heap.objs.size+3:=by rw[Heap.size_push,z2]
 have z4:(DD s.heap b1 b2 l1 l2).objs.size=s.heap.objs.size+4:=by rw[Heap.size_push,z3]
 have z5:(Fu s.heap b1 b2 l1 l2).objs.size=s.heap.objs.size+5:=by rw[Heap.size_push,z4]
 have g5:(Fu s.heap b1 b2 l1 l2).get? (DD s.heap b1 b2 l1 l2).objs.size=some _:=Heap.get?_push_size _ rfl
 have g4:(Fu s.heap b1 b2 l1 l2).get? (DC s.heap b1 b2 l1 l2).objs.size=some _:=Heap.get?_push_of_some _ (Heap.get?_push_size _ rfl)
 have g3:(Fu s.heap b1 b2 l1 l2).get? (DB s.heap b1 b2 l1 l2).objs.size=some _:=Heap.get?_push_of_some _ (Heap.get?_push_of_some _ (Heap.get?_push_size _ rfl))
 have g2:(Fu s.heap b1 b2 l1 l2).get? (DA s.heap b1 l1).objs.size=some (Vl b2 l2):=Heap.get?_push_of_some _ (Heap.get?_push_of_some _ (Heap.get?_push_of_some _ (Heap.get?_push_size _ rfl)))
 have g1:(Fu s.heap b1 b2 l1 l2).get? s.heap.objs.size=some (Vl b1 l1):=Heap.get?_push_of_some _ (Heap.get?_push_of_some _ (Heap.get?_push_of_some _ (Heap.get?_push_of_some _ (Heap.get?_push_size _ rfl))))
 show _/\_
 rw[z2,z3,z4] at g5;rw[z1,z2] at g3;rw[z3] at g4;rw[z1] at g2;rw[z4]
 exact⟨⟨_,g5,rfl⟩,h _ g5 g3 g4 (IterB.new g1) (IterB.new g2) z5 fun c o x=>
  Heap.get?_push_of_some _ (Heap.get?_push_of_some _ (Heap.get?_push_of_some _ (Heap.get?_push_of_some _ (Heap.get?_push_of_some _ x))))⟩
end
theorem Inv.newTup{X:Cx}{pins:List (Addr×Obj)}{σ:St}{H:Hp}{s:Shared}{fp:List Addr}{h2:Heap}{tk n:Nat}{us:List Value}{xs:List V}(I:Inv X pins σ H s)(hf:∀b∈fp,W7 X pins H b)
  (kk:∀c o,c∉fp->s.heap.get? c=some o->h2.get? c=some o) (hT:h2.get? s.heap.objs.size=some { cls:=.type "tuple",data:=.seq us.toArray n }) (rv:Vals xs us) (hz:xs.length<=sizeLine) :
  Inv X pins σ (upd H s.heap.objs.size (.tup xs)) { s with heap:=h2,toks:=tk }:=by
 have hTn:H s.heap.objs.size=none:=I.hok.fresh (Nat.le_refl _)
 have hcs:∀c∈fp,(c∈X.ex\/X.s₀.heap.objs.size<=c)/\c≠X.env.locals/\(∀x d,X.env.cells.lookup x=some d->d≠c)/\∀p∈X.pn++pins,p.1≠c:=fun c hc'=>by
  have f:=hf c hc'
  exact⟨f.2.2.2.1,f.2.1,f.2.2.2.2.1,f.2.2.2.2.2⟩
 have nfp:∀c u',H c=some u'->c∉fp:=fun c u' q hc'=>by rw[(hf c hc').1] at q;cases q
 have hok0:HOk X.prog X.w H h2:=fun c u' q=>(I.hok c u' q).stay (fun d v hd q'=>kk d v (by
   rcases hd with z | z
   ·rw[z];exact nfp c u' q
   ·exact nfp d _ z) q') (fun _ z=>z) fun _ _ z=>z
 have new:ObjOk X.prog X.w (upd H s.heap.objs.size (.tup xs)) h2 s.heap.objs.size (.tup xs):=
  ⟨⟨hz,fun o e=>by rw[hT] at e;cases e;rfl⟩,us,rv,⟨_,hT,rfl,_,rfl⟩⟩
 have hok1:HOk X.prog X.w (upd H s.heap.objs.size (.tup xs)) h2:=fun c u' q=>by
  by_cases hb:c=s.heap.objs.size
  ·subst hb;rw[Zs] at q;cases q;exact new
  ·rw[upd_ne hb] at q
   exact(hok0 c u' q).stay (fun d v _ q'=>q') (fun d z=>by rw[upd_ne (ZA z hTn)];exact z) fun d zs z=>by rw[upd_ne (ZA z hTn)];exact z
 have un:Un (Qd X.stack) fp H (upd H s.heap.objs.size (.tup xs)) s.heap h2:=by
  refine⟨fun c o q _ _ hx'=>kk c o hx' q,fun c o q _ _ hx'=>⟨o.slots,kk c o hx' q⟩,fun c o q n _=>?_,fun c o q hx'=>⟨o,kk c o hx' q⟩,fun c zs q=>?_,fun c o zs q=>?_,fun c ps q=>⟨#[],?_⟩⟩
  ·rw[upd_ne (Nat.ne_of_lt (Heap.lt_size q))];exact n
  ·rw[upd_ne (ZA q hTn)];exact q
  ·rw[upd_ne (ZA q hTn)];exact q
  ·rw[upd_ne (ZA q hTn),q];simp
 exact I.call (g':=s.gens) (d':=s.drawn) un hok1 I.bare hcs
theorem Inv.turnedL{X:Cx}{pins:List (Addr×Obj)}{σ:St}{H:Hp}{s:Shared}{fp:List Addr}{h2:Heap}{tk:Nat}(I:Inv X pins σ H s)(hf:∀b∈fp,W7 X pins H b)
  (kk:∀c o,c∉fp->s.heap.get? c=some o->h2.get? c=some o):Inv X pins σ H { s with heap:=h2,toks:=tk }:=by
 have hcs:∀c∈fp,(c∈X.ex\/X.s₀.heap.objs.size<=c)/\c≠X.env.locals/\(∀x d,X.env.cells.lookup x=some d->d≠c)/\∀p∈X.pn++pins,p.1≠c:=fun c hc'=>by
  have f:=hf c hc'
  exact⟨f.2.2.2.1,f.2.1,f.2.2.2.2.1,f.2.2.2.2.2⟩
 have nfp:∀c u',H c=some u'->c∉fp:=fun c u' q hc'=>by rw[(hf c hc').1] at q;cases q
 have hok0:HOk X.prog X.w H h2:=fun c u' q=>(I.hok c u' q).stay (fun d v hd q'=>kk d v (by
   rcases hd with z | z
   ·rw[z];exact nfp c u' q
   ·exact nfp d _ z) q') (fun _ z=>z) fun _ _ z=>z
 have un:Un (Qd X.stack) fp H H s.heap h2:=
  ⟨fun c o q _ _ hx'=>kk c o hx' q,fun c o q _ _ hx'=>⟨o.slots,kk c o hx' q⟩,fun c o q n _=>n,fun c o q hx'=>⟨o,kk c o hx' q⟩,fun c zs q=>q,fun c o zs q=>q,fun c ps q=>⟨#[],by rw[q];simp⟩⟩
 exact I.call (g':=s.gens) (d':=s.drawn) un hok0 I.bare hcs
theorem SeqB.ne_rec{b:Bool}{h:Heap}{a c:Addr}{its:Array Value}{o:Obj}{vs:Array Value}(p:SeqB b h a its)(e:h.get? c=some o)(d:o.data = .fields vs):a≠c:=fun z=>by
 subst z
 cases b with
 | true=>obtain⟨o',e1,_,m,d'⟩:=(show h.IsList a its from p);rw[e] at e1;cases e1;rw[d] at d';cases d'
 | false=>obtain⟨o',e1,_,m,d'⟩:=(show h.IsTuple a its from p);rw[e] at e1;cases e1;rw[d] at d';cases d'
theorem IterB.rec{b:Bool}{h:Heap}{it a:Addr}{i:Nat}(x:IterB b h it a i):∃o,h.get? it=some o/\∃vs,o.data = .fields vs:=by
 cases b with
 | true=>obtain⟨o,e,_,d⟩:=(show h.IsListIter it a i from x);exact⟨o,e,_,d⟩
 | false=>obtain⟨o,e,_,d⟩:=(show h.IsTupleIter it a i from x);exact⟨o,e,_,d⟩
structure Fv(a1 a2 TO TI:Addr):Prop where
 a:a1≠TO
 b:a2≠TO
 c:a1≠TI
 d:a2≠TI
def Cq(b1 b2:Bool)(K:PySem.W.Frag)(a1 a2:Addr):It:=
  ⟨fun i H=>∃xs ys x y,Qp b1 K H a1 xs/\Qp b2 K H a2 ys/\xs[i]?=some x/\ys[i]?=some y,
   fun i H v H'=>∃p x y,H p=none/\v = .ref p/\H'=upd H p (.tup [x,y])/\(∀xs,Qp b1 K H a1 xs->xs[i]?=some x)/\∀ys,Qp b2 K H a2 ys->ys[i]?=some y,
   fun i H=>∃xs ys,Qp b1 K H a1 xs/\Qp b2 K H a2 ys/\(i=xs.length\/(i<xs.length/\i=ys.length))⟩
theorem KQ{P:Program}{w:World}{K:PySem.W.Frag}{elts:List Expr}{k:Nat}{pos:Pos}(b1 b2:Bool)(a1 a2 z TI TO i1 i2:Addr)(d:[z,TI,TO,i1,i2].Nodup) :
  P0 P w K (.Tuple elts k pos) (Cq b1 b2 K a1 a2) [z,TI,TO,i1,i2] z
   (fun i h=>IsZip h z TI TO .none/\IsPair h TI (.ref i1) (.ref i2)/\(∃u v,IsPair h TO u v/\Fv a1 a2 TO TI)/\IterB b1 h i1 a1 i/\IterB b2 h i2 a2 i) where
 mem:=by simp
 obj:=fun i h st c hc=>by
  obtain⟨hz,hTI,⟨u,v,hTO,_⟩,h1,h2⟩:=st
  simp only[List.mem_cons,List.not_mem_nil,or_false] at hc
  rcases hc with rfl | rfl | rfl | rfl | rfl
  ·exact⟨_,hz,fun v q=>by cases q⟩
  ·exact⟨_,hTI,fun v q=>by cases q⟩
  ·exact⟨_,hTO,fun v q=>by cases q⟩
  ·exact h1.has
  ·exact h2.has
 keep:=fun i h h' st kk=>by
  obtain⟨hz,hTI,⟨u,v,hTO,f⟩,h1,h2⟩:=st
  exact⟨kk z (by simp) _ hz,kk TI (by simp) _ hTI,⟨u,v,kk TO (by simp) _ hTO,f⟩,h1.at fun o q=>kk i1 (by simp) o q,h2.at fun o q=>kk i2 (by simp) o q⟩
 item:=by
  intro X hP hw hK hc i pins s σ H E I hf st hg
  subst hP hw hK
  obtain⟨xs,ys,x,y,hq1,hq2,hx,hy⟩:=hg
  obtain⟨its1,rv1,p1,hz1⟩:=I.seqB hq1
  obtain⟨its2,rv2,p2,hz2⟩:=I.seqB hq2
  obtain⟨u,hu,ru⟩:=rv1.get hx
  obtain⟨v,hv,rv⟩:=rv2.get hy
  obtain⟨hz,hTI,⟨q1,q2,hTO,f⟩,h1,h2⟩:=st
  obtain⟨o1,e1,vs1,d1⟩:=h1.rec
  obtain⟨o2,e2,vs2,d2⟩:=h2.rec
  have A1z:a1≠z:=p1.ne_rec hz rfl
  have A2z:a2≠z:=p2.ne_rec hz rfl
  have A11:a1≠i1:=p1.ne_rec e1 d1
  have A12:a1≠i2:=p1.ne_rec e2 d2
  have A21:a2≠i1:=p2.ne_rec e1 d1
  have A22:a2≠i2:=p2.ne_rec e2 d2
  simp only[List.nodup_cons,List.mem_cons,List.not_mem_nil,or_false,not_or,List.nodup_nil,and_true,not_false_eq_true] at d
  obtain⟨⟨dzTI,dzTO,dz1,dz2⟩,⟨dIO,dI1,dI2⟩,⟨dO1,dO2⟩,d12⟩:=d
  obtain⟨f1,f2,f3,f4⟩:=f
  have D:Qq z TI TO i1 i2 [i1,a1] [i2,a2]:=⟨Ne.symm dzTI,Ne.symm dzTO,Ne.symm dz1,Ne.symm dz2,dIO,dI1,dI2,dO1,dO2,d12,by simp[dz1,Ne.symm A1z],by simp[dO1,Ne.symm f1],by simp[Ne.symm d12,Ne.symm A12],by simp[dz2,Ne.symm A2z],by simp[dO2,Ne.symm f2],by simp[d12,Ne.symm A21]⟩
  have D1:=Draws.seq (prog:=X.prog) (w:=X.w) (A:=X.A.in1) b1 (I.ok.hd hc) i1 a1 A11 its1.toArray
  have D2:=Draws.seq (prog:=X.prog) (w:=X.w) (A:=X.A.in1) b2 (I.ok.hd hc) i2 a2 A22 its2.toArray
  have l1:i<its1.toArray.size:=by simpa using(List.getElem?_eq_some_iff.mp hu).1
  have l2:i<its2.toArray.size:=by simpa using(List.getElem?_eq_some_iff.mp hv).1
  refine Su D D1 D2 hz hTI hTO ⟨h1,p1⟩ ⟨h2,p2⟩ l1 l2 fun x' y' h' tk hPx hPy c1 c2 c3 c4 c5 c6 hk=>?_
  have ex':x'=u:=by
   have w1:its1.toArray[i]?=some x':=hPx
   have w2:its1.toArray[i]?=some u:=by simpa using hu
   rw[w1] at w2;exact Option.some.inj w2
  have ey':y'=v:=by
   have w1:its2.toArray[i]?=some y':=hPy
   have w2:its2.toArray[i]?=some v:=by simpa using hv
   rw[w1] at w2;exact Option.some.inj w2
  subst ex' ey'
  refine⟨_,rfl,wpAny_letOwnedTupleGo_zip c1 fun h3 hz3 hs3=>?_⟩
  replace hs3:Heap.SameBut z h' h3:=hs3
  have kk:∀c o,c∉[z,TI,TO,i1,i2]->s.heap.get? c=some o->h3.get? c=some o:=fun c o hc' q=>
   hs3.extBut c o (fun e=>hc' (by simp[e])) (hk c o (fun e=>hc' (by simp[e])) (fun e=>hc' (by simp[e])) (fun e=>hc' (by simp[e])) (fun e=>hc' (by simp[e])) q)
  have hTn:H s.heap.objs.size=none:=I.hok.fresh (Nat.le_refl _)
  have hT3:h3.get? s.heap.objs.size=some { cls:=.type "tuple",data:=.seq [x',y'].toArray }:=hs3.extBut _ _ (Nat.ne_of_gt (Heap.lt_size hz)) c5
  have I2:=I.newTup (tk:=tk) hf kk hT3 (.cons ru (.cons rv .nil)) (by show 2<=sizeLine;decide)
  refine⟨.ref s.heap.objs.size,_,I2,rfl,⟨_,x,y,hTn,rfl,rfl,fun zs hzs=>by rw[I.seqB_inj hzs hq1];exact hx,fun zs hzs=>by rw[I.seqB_inj hzs hq2];exact hy⟩,⟨hz3,hs3.extBut _ _ (Ne.symm dzTI) (hk _ _ (Ne.symm dzTI) dIO dI1 dI2 hTI),⟨_,_,hs3.extBut _ _ (Ne.symm dzTO) c2,f1,f2,f3,f4⟩,c3.1.at fun o q=>hs3.extBut _ o (Ne.symm dz1) q,c4.1.at fun o q=>hs3.extBut _ o (Ne.symm dz2) q⟩,fun c hc'=>?_⟩
  rw[upd_ne (Nat.ne_of_lt ?_)]
  ·exact(hf c hc').1
  ·simp only[List.mem_cons,List.not_mem_nil,or_false] at hc'
   rcases hc' with rfl | rfl | rfl | rfl | rfl
   ·exact Heap.lt_size hz
   ·exact Heap.lt_size hTI
   ·exact Heap.lt_size hTO
   ·exact Heap.lt_size e1
   ·exact Heap.lt_size e2
 done:=by
  intro X hP hw hK hc i pins s σ H E I hf st hg
  subst hP hw hK
  obtain⟨xs,ys,hq1,hq2,hx⟩:=hg
  obtain⟨its1,rv1,p1,hz1⟩:=I.seqB hq1
  obtain⟨its2,rv2,p2,hz2⟩:=I.seqB hq2
  obtain⟨hz,hTI,⟨q1,q2,hTO,f⟩,h1,h2⟩:=st
  obtain⟨o1,e1,vs1,d1⟩:=h1.rec
  obtain⟨o2,e2,vs2,d2⟩:=h2.rec
  have A1z:a1≠z:=p1.ne_rec hz rfl
  have A2z:a2≠z:=p2.ne_rec hz rfl
  have A11:a1≠i1:=p1.ne_rec e1 d1
  have A12:a1≠i2:=p1.ne_rec e2 d2
  have A21:a2≠i1:=p2.ne_rec e1 d1
  have A22:a2≠i2:=p2.ne_rec e2 d2
  simp only[List.nodup_cons,List.mem_cons,List.not_mem_nil,or_false,not_or,List.nodup_nil,and_true,not_false_eq_true] at d
  obtain⟨⟨dzTI,dzTO,dz1,dz2⟩,⟨dIO,dI1,dI2⟩,⟨dO1,dO2⟩,d12⟩:=d
  obtain⟨f1,f2,f3,f4⟩:=f
  have D:Qq z TI TO i1 i2 [i1,a1] [i2,a2]:=⟨Ne.symm dzTI,Ne.symm dzTO,Ne.symm dz1,Ne.symm dz2,dIO,dI1,dI2,dO1,dO2,d12,by simp[dz1,Ne.symm A1z],by simp[dO1,Ne.symm f1],by simp[Ne.symm d12,Ne.symm A12],by simp[dz2,Ne.symm A2z],by simp[dO2,Ne.symm f2],by simp[d12,Ne.symm A21]⟩
  have D1:=Draws.seq (prog:=X.prog) (w:=X.w) (A:=X.A.in1) b1 (I.ok.hd hc) i1 a1 A11 its1.toArray
  have D2:=Draws.seq (prog:=X.prog) (w:=X.w) (A:=X.A.in1) b2 (I.ok.hd hc) i2 a2 A22 its2.toArray
  have n1:=rv1.length;have n2:=rv2.length
  refine S4 D D1 D2 hz hTI hTO ⟨h1,p1⟩ ⟨h2,p2⟩ (by simp only[List.size_toArray];omega) fun h' tk hk=>⟨rfl,?_⟩
  exact I.turnedL hf fun c o hc' q=>hk c o (fun e=>hc' (by simp[e])) (fun e=>hc' (by simp[e])) (fun e=>hc' (by simp[e])) (fun e=>hc' (by simp[e])) q
 self:=fun A i s Q E st hQ=>wpAny_pyIter_zip st.1 hQ
section
variable {X:Cx}
def D7(b1 b2:Bool)(K:PySem.W.Frag)(ta:TA):TI:=fun σ H R=>ta σ H fun vs H1=>∃a1 a2,vs=[.ref a1,.ref a2]/\(∃xs,Qp b1 K H1 a1 xs)/\(∃ys,Qp b2 K H1 a2 ys)/\R (Cq b1 b2 K a1 a2) H1
theorem Fw{elts:List Expr}{k:Nat}{tpos:Pos}(b1 b2:Bool){a b:Expr}{ta:TA}{p pos:Pos}(hg:Gl X "zip")(hm:X.mg "zip" = none)(ha:PA X [a,b] ta)
  (hs:starEach [a,b] X.env=[(false,eval a X.env),(false,eval b X.env)]:=by rfl) (hs2:starEach [b] X.env=[(false,eval b X.env)]:=by rfl) :
  PI X (.Tuple elts k tpos) (.Call (.Name "zip" p) [a,b] [] pos) (D7 b1 b2 X.K ta):=by
 intro pins s σ H R I h
 refine Call_ (Xy I hg hm boot_zip (PyProof.Rows.callWith_type1 (YT (ha pos pins s σ H _ I h) fun us s1 ⟨vs,H1,I1,r1,q1⟩=>?_) (by rw[hs,hs2]) (by rw[hs2];rfl)))
 obtain⟨a1,a2,e,⟨xs,hq1⟩,⟨ys,hq2⟩,q⟩:=q1
 subst e
 cases r1 with
 | cons r rr=>
  cases rr with
  | cons r' rr=>
   cases rr;cases r
   cases r'
   obtain⟨its1,rv1,p1,_⟩:=I1.seqB hq1
   obtain⟨its2,rv2,p2,_⟩:=I1.seqB hq2
   refine Q2 p1 p2 fun h' c1 c2 c3 c4 c5 c6 hk=>?_
   refine wpAny_pyIter_zip c1 ?_
   have I2:Inv X pins σ H1 { s1 with heap:=h' }:=I1.kept (t':=s1.toks) hk
   have L1:a1<s1.heap.objs.size:=let⟨_,e⟩:=p1.has;Heap.lt_size e
   have L2:a2<s1.heap.objs.size:=let⟨_,e⟩:=p2.has;Heap.lt_size e
   generalize hn:s1.heap.objs.size=n at *
   have ne:∀(a:Addr)(j:Nat),a<n->a≠n+j:=fun a j h=>Nat.ne_of_lt (Nat.lt_of_lt_of_le h (Nat.le_add_right _ _))
   have nd:([n+4,n+2,n+3,n,n+1]:List Addr).Nodup:=by
    have hh:∀(i j:Nat),i≠j->(n+i:Nat)≠n+j:=fun i j h e=>h (Nat.add_left_cancel e)
    have h0:∀(i:Nat),i≠0->(n+i:Nat)≠n:=fun i h e=>h (Nat.add_left_cancel (e.trans (Nat.add_zero n).symm))
    simp only[List.nodup_cons,List.mem_cons,List.not_mem_nil,or_false,not_or,List.nodup_nil,and_true,not_false_eq_true]
    exact⟨⟨hh 4 2 (by decide),hh 4 3 (by decide),h0 4 (by decide),hh 4 1 (by decide)⟩,⟨hh 2 3 (by decide),h0 2 (by decide),hh 2 1 (by decide)⟩,⟨h0 3 (by decide),hh 3 1 (by decide)⟩,(h0 1 (by decide)).symm⟩
   refine⟨n+4,[n+4,n+2,n+3,n,n+1],_,_,H1,rfl,I2,KQ b1 b2 a1 a2 (n+4) (n+2) (n+3) n (n+1) nd,⟨c1,c2,⟨_,_,c3,ne a1 3 L1,ne a2 3 L2,ne a1 2 L1,ne a2 2 L2⟩,c4,c5⟩,fun c hc=>?_,q⟩
   have hle:s1.heap.objs.size<=c:=by
    rw[hn];simp only[List.mem_cons,List.not_mem_nil,or_false] at hc
    rcases hc with rfl | rfl | rfl | rfl | rfl
    ·exact Nat.le_add_right _ _
    ·exact Nat.le_add_right _ _
    ·exact Nat.le_add_right _ _
    ·exact Nat.le_refl _
    ·exact Nat.le_add_right _ _
   exact I1.fpOk hle (I1.hok.fresh hle)
end
theorem Walks.seqB{prog:Program}{w:World}{A:Around}(b:Bool)(hh:A.handled=none)(I ax:Addr)(hne:ax≠I)(items:Array Value) :
  Walks prog w A I [I,ax] [I] items.size (fun i v=>items[i]?=some v) (fun i h=>IterB b h I ax i/\SeqB b h ax items):=by
 cases b with
 | true=>exact Walks.list hh I ax hne items
 | false=>exact Walks.tuple hh I ax hne items
section
variable {X:Cx}
theorem call_sumR(hc:X.calm=true):XQ X (.builtin "sum") (fun xs H Q=>∃(b:Bool) (p:Addr) (ns:List Int),xs=[.ref p]/\Qp b X.K H p (ns.map V.int)/\Q (.int ns.sum) H):=by
 intro pins s σ H xs us Q I r h
 obtain⟨b,p,ns,rfl,hq,q⟩:=h
 obtain⟨u,rfl,rx⟩:=Us r
 cases rx
 obtain⟨its,rv,hseq,hz⟩:=I.seqB hq
 have hp:p<s.heap.objs.size:=let⟨_,e⟩:=hseq.has;Heap.lt_size e
 refine call_sum_walkG (Y0 hseq ?_)
 refine⟨_,_,_,_,_,_,fun i=>ns.getD i 0,rfl,Walks.seqB (A:=X.A.in1) b (I.ok.hd hc) s.heap.objs.size p (Nat.ne_of_lt hp) its.toArray,⟨IterB.new (Heap.get?_push_size _ rfl),hseq.at fun o e=>Heap.get?_push_of_some _ e⟩,fun c hcm=>?_,fun i v hv=>?_,fun h' tk t' hk=>?_⟩
 ·show c<(s.heap.push _).objs.size
  rw[Heap.size_push]
  rcases List.mem_cons.mp hcm with rfl | hcm
  ·exact Nat.lt_succ_self _
  ·rw[List.mem_singleton.mp hcm];exact Nat.lt_succ_of_lt hp
 ·have hv:its.toArray[i]?=some v:=hv
  have hv:its[i]?=some v:=by simpa using hv
  have hl:=rv.length;rw[List.length_map] at hl
  have hi:i<ns.length:=by rw[hl];exact(List.getElem?_eq_some_iff.mp hv).1
  obtain⟨u,hu,ru⟩:=rv.get (i:=i) (x:=.int ns[i]) (by rw[List.getElem?_map,List.getElem?_eq_getElem hi];rfl)
  rw[hv] at hu;cases hu
  obtain⟨t,rfl⟩:=ru
  refine⟨t,?_⟩
  show Value.int ns[i] t=Value.int (ns.getD i 0) t
  rw[List.getD_eq_getElem?_getD,List.getElem?_eq_getElem hi];rfl
 ·have e:preSum (fun i=>ns.getD i 0) its.toArray.size=ns.sum:=by
   have hl:=rv.length;rw[List.length_map] at hl;rw[List.size_toArray,<-hl]
   have gen:∀k,k<=ns.length->preSum (fun i=>ns.getD i 0) k=(ns.take k).sum:=by
    intro k
    induction k with
    | zero=>intro _;simp[preSum]
    | succ k ih=>
     intro hk;rw[preSum,ih (by omega),List.take_add_one,List.getD_eq_getElem?_getD,List.getElem?_eq_getElem (by omega),List.sum_append]
     simp
   rw[gen _ (Nat.le_refl _),List.take_length]
  rw[e]
  refine⟨.int ns.sum,H,I.kept (fun c o hco=>hk c o ?_ (Heap.get?_push_of_some _ hco)),⟨_,rfl⟩,q⟩
  intro hm;rw[List.mem_singleton.mp hm] at hco
  exact absurd (Heap.lt_size hco) (Nat.lt_irrefl _)
theorem Wk(hc:X.calm=true):XQ X (.builtin "all") (fun xs H Q=>∃(b:Bool) (p:Addr) (bs:List Bool),xs=[.ref p]/\Qp b X.K H p (bs.map V.bl)/\Q (.bl (bs.all id)) H):=by
 intro pins s σ H xs us Q I r h
 obtain⟨b,p,bs,rfl,hq,q⟩:=h
 obtain⟨u,rfl,rx⟩:=Us r
 cases rx
 obtain⟨its,rv,hseq,hz⟩:=I.seqB hq
 have hp:p<s.heap.objs.size:=let⟨_,e⟩:=hseq.has;Heap.lt_size e
 have hl:=rv.length;rw[List.length_map] at hl
 refine call_all_walk (Y0 hseq ?_)
 refine⟨_,_,_,_,_,_,fun i=>bs.getD i true,rfl,Walks.seqB (A:=X.A.in1) b (I.ok.hd hc) s.heap.objs.size p (Nat.ne_of_lt hp) its.toArray,⟨IterB.new (Heap.get?_push_size _ rfl),hseq.at fun o e=>Heap.get?_push_of_some _ e⟩,fun i v s' Q' E' hv hQ=>?_,fun h' tk hk=>?_⟩
 ·have hv:its.toArray[i]?=some v:=hv
  have hv:its[i]?=some v:=by simpa using hv
  have hi:i<bs.length:=by rw[hl];exact(List.getElem?_eq_some_iff.mp hv).1
  obtain⟨u,hu,ru⟩:=rv.get (i:=i) (x:=.bl bs[i]) (by rw[List.getElem?_map,List.getElem?_eq_getElem hi];rfl)
  rw[hv] at hu;cases hu;cases ru
  refine wpAny_truthy_bool ?_
  have e:bs.getD i true=bs[i]:=by rw[List.getD_eq_getElem?_getD,List.getElem?_eq_getElem hi];rfl
  rw[<-e];exact hQ
 ·have e:(List.range its.toArray.size).all (fun i=>bs.getD i true)=bs.all id:=by
   rw[List.size_toArray,<-hl,Bool.eq_iff_iff,List.all_eq_true,List.all_eq_true];constructor
   ·intro h x hx
    obtain⟨i,hi,rfl⟩:=List.mem_iff_getElem.mp hx
    have:=h i (List.mem_range.mpr hi)
    rw[List.getD_eq_getElem?_getD,List.getElem?_eq_getElem hi] at this;exact this
   ·intro h i hi
    have hi:=List.mem_range.mp hi;rw[List.getD_eq_getElem?_getD,List.getElem?_eq_getElem hi]
    exact h _ (List.getElem_mem hi)
  rw[e]
  refine⟨.bl (bs.all id),H,I.kept (fun c o hco=>hk c o ?_ (Heap.get?_push_of_some _ hco)),rfl,q⟩
  intro hm;rw[List.mem_singleton.mp hm] at hco
  exact absurd (Heap.lt_size hco) (Nat.lt_irrefl _)
theorem Vz:XQ X (.builtin "isinstance") (fun xs H Q=>∃x T t b,xs=[x,.ty T]/\TyOf X.K H x t/\PySem.W.kitOne X.K t (.type T)=some b/\Q (.bl b) H):=by
 intro pins s σ H xs us Q I r h
 obtain⟨x,T,t,b,rfl,ht,hk,q⟩:=h
 obtain⟨u,v,rfl,ru,rv⟩:=Mp r
 cases rv
 exact Lh I ru ht hk fun tk=>⟨.bl b,H,I.tok tk,rfl,q⟩
theorem P9{K:PySem.W.Frag}:PySem.W.kitOne K (.type "int") (.type "int")=some true:=rfl
theorem Q3{K:PySem.W.Frag}:PySem.W.kitOne K (.type "int") (.type "bool")=some false:=by first | rfl | decide | (unfold PySem.W.kitOne;rw[if_neg (by decide)];first | rfl | decide | kernel_rfl)
theorem Oa{K:PySem.W.Frag}:PySem.W.kitOne K (.type "tuple") (.type "tuple")=some true:=rfl
theorem R0{K:PySem.W.Frag}:PySem.W.kitOne K (.type "list") (.type "list")=some true:=rfl
theorem Ob{K:PySem.W.Frag}:PySem.W.kitOne K (.type "str") (.type "str")=some true:=rfl
def Mx:V->List V->Hp->VK->Prop:=fun x vs H Q=>∃l xs k y,x = .ref l/\vs=[.int k,y]/\H l=some (.lst xs)/\0<=k/\k<2^63/\xs.length<sizeLine/\Q .non (upd H l (.lst (xs.take k.toNat++y::xs.drop k.toNat)))
theorem Lm:Dz X "list.insert" Mx:=by
 intro pins s σ H x vs v us Q I rx rv h
 obtain⟨l,xs,k,y,rfl,rfl,hH,h0,h1,hz,q⟩:=h
 cases rx
 obtain⟨u1,u2,rfl,r1,r2⟩:=rv.two
 obtain⟨t,rfl⟩:=r1
 obtain⟨z,its,n,r,hl,e⟩:=I.lstM hH
 have hfit:¬(!Builtin.List.listFitsIndex k)=true:=by
  rw[fitsIndex_both (by omega) h1];exact Bool.false_ne_true
 refine call_meets F.slot_list_insert ⟨_,e,rfl⟩ F.entry_list_insert (F.args_list_insert_3 _ _ _) (AutoListH.list_insert_list_int_val_1 l its.toArray n k t u2 hfit (by rw[List.size_toArray];omega)) ⟨e,?_⟩
 refine⟨.non,_,I.lset (its':=its.take k.toNat++u2::its.drop k.toNat) hH e ?_ ((r.take k.toNat).append (.cons r2 (r.drop k.toNat))) ?_,rfl,q⟩
 ·show(have j:=if k<0 then(k+((its.toArray.size:Nat):Int)).toNat else min k.toNat its.toArray.size;(its.toArray.extract 0 j).push u2++its.toArray.extract j)=_
  rw[if_neg (by omega)]
  dsimp only
  by_cases hle:k.toNat<=its.length
  ·rw[Nat.min_eq_left (by rw[List.size_toArray];exact hle)]
   simp
   rw[List.take_of_length_le (by rw[List.length_drop];exact Nat.le_refl _)]
  ·rw[Nat.min_eq_right (by rw[List.size_toArray];omega)]
   rw[List.take_of_length_le (by omega),List.drop_eq_nil_of_le (by omega)]
   simp
 ·rw[List.length_append,List.length_cons,List.length_take,List.length_drop]
  omega
end
def TK(H H':Hp):Prop:=∀b xs,H b=some (.tup xs)->H' b=some (.tup xs)
theorem Same.tk{H H':Hp}(s:Same H H'):TK H H':=fun b xs h=>s b _ h
theorem Same.new{H:Hp}{p:Addr}(h:H p=none)(o:HO):Same H (upd H p o):=fun b u q=>by rw[upd_ne (ZA q h)];exact q
structure Def(K:PySem.W.Frag)(mg:Str->Option Value)(x:Str)(st:Stmt):Prop where
 ex:∃f fd,mg x=some (.ref f)/\Fun K x x st f fd
theorem def_mk{K:PySem.W.Frag}{h:Heap}{mg:Str->Option Value}{x:Str}{st:Stmt}{f:Addr}{oc:Value}{od an:Option Addr}{osl:Array (Option Value)}{kV doc pm cdv ct:Value}(X:K.In h)(G:h.Ns mainGlobals mg)
  (a:PySem.W.nsIn K mainGlobals x=some (some (.ref f))) (l:K.lookup f=some ⟨oc,od,.func (PySem.W.fnOf x x (X3 st) (YF st) (Zr st) .none kV doc pm an cdv ct),osl⟩)
  (c:PySem.W.codeIn K cdv x=true) (k:PySem.W.keepIn K (.ref f)=true):Def K mg x st:=⟨f,_,PySem.W.mg_of X G a,Ft (st:=st) l c k⟩
structure XA(P:Program)(w:World)(K:PySem.W.Frag)(mg:Str->Option Value)(base:Heap)(x:Str)(ps:List Str)(sp:Sp)(k:Nat):Prop where
 ex:∃f fd,mg x=some (.ref f)/\PySem.W.keepIn K (.ref f)=true/\Binds K fd ps []/\UC P w K mg base Nx k f fd ps sp
section
variable {P:Program} {w:World} {K:PySem.W.Frag} {mg:Str->Option Value} {base:Heap}
theorem Def.cal{x:Str}{st:Stmt}{N ps:List Str}{k:Nat}{sp:Sp}(D:Def K mg x st)(S:ZS N ps (Zr st))
  (hb:∀(kV doc pm:Value)(an:Option Addr)(cdv ct:Value)(us:List Value),us.length=ps.length->bindArgs (PySem.W.fnOf x x (X3 st) (YF st) (Zr st) .none kV doc pm an cdv ct) ⟨us,[]⟩=pure (ps.zip us))
  (len:∀vs H Q E,sp vs H Q E->vs.length=ps.length)
  (hbody:∀(f:Addr)(cdv:Value)(A:Around)(outer:List Env)(s:Shared)(H:Hp)(vs:List V)(Q:VK)(E:XK),Room k (A.deeper (envOfC x (Zr st) s.heap.objs.size f cdv))->sp vs H Q E->
   ∃t,PSs (Sr Nx P w K mg base N x (Zr st) f cdv A outer s H E).nox (YF st) t/\t { nx:=fun _ H'=>Q .non H',rt:=Q } (start N vs) H):XA P w K mg base x ps sp (k+1):=by
 obtain⟨f,fd,hm,F⟩:=D.ex
 exact⟨f,fd,hm,F.kp,F.binds hb,F.ok S len fun cdv A outer s H vs Q E hr h=>hbody f cdv A outer s H vs Q E hr h⟩
end
section
variable {X:Cx} {x:Str} {ps:List Str} {sp:Sp} {k:Nat} {e:Expr} {es:List Expr} {t:TA} {p pos:Pos}
theorem Fx(C:XA X.prog X.w X.K X.mg X.base x ps sp k)(hr:Room k X.A)(hg:Gl X x)(ha:PA X (e::es) t)
  (hdb:(x==("__debug__" : Str))=false:=by decide) (he:starEach (e::es) X.env=(false,eval e X.env)::starEach es X.env:=by rfl) (hpl:(backTo pos (starEach es X.env)).any (·.1)=false:=by rfl) :
  PE X (.Call (.Name x p) (e::es) [] pos) (Kz sp [] E0 t):=by
 obtain⟨f,fd,a,b,c,d⟩:=C.ex
 exact IE d hr hg a b c .nil Gy ha hdb he hpl
end
def UE(N:List Str)(around scope:Scope)(own fr:List Str)(ix:List Nat):Bool:=
 (match scope.kind with | .function=>true | _=>false)&&scope.names.all (fun y=>y.2 != .cell)&&scope.names.all (fun y=>y.2 != .local || scope.names.lookup y.1==some .local)&&
 scope.names.all (fun y=>y.2 != .free || (around.names.lookup y.1==some .cell || around.names.lookup y.1==some .free))&&(fr.map some==ix.map (fun i=>N[i]?))&&
 fr.all (fun x=>scope.names.contains (x,NameKind.free))&&fr.all (fun x=>scope.names.lookup x != some .local)
theorem Qr{N:List Str}{around scope:Scope}{own fr:List Str}{ix:List Nat}(h:UE N around scope own fr ix=true):CompScope N around scope own fr ix:=by
 unfold UE at h;simp only[Bool.and_eq_true] at h
 obtain⟨⟨⟨⟨⟨⟨h1,h2⟩,h3⟩,h4⟩,h5⟩,h6⟩,h7⟩:=h
 refine⟨?_,fun y hy=>?_,fun y hy e=>?_,fun y hy e=>?_,by simpa using h5,fun x hx=>?_,fun x hx=>?_⟩
 ·split at h1
  ·assumption
  ·cases h1
 ·simpa using List.all_eq_true.mp h2 y hy
 ·have:=List.all_eq_true.mp h3 y hy
  rw[e] at this
  simpa using this
 ·have:=List.all_eq_true.mp h4 y hy
  rw[e] at this
  simpa using this
 ·simpa using List.all_eq_true.mp h6 x hx
 ·simpa using List.all_eq_true.mp h7 x hx
section
variable {X:Cx} {tg elt iter:Expr} {ifs:List Expr} {scope:Scope} {pos:Pos} {wi:TI} {g:TG} {tt:TT} {te:TE}
theorem Oc(own fr:List Str)(ix:List Nat)(hcalm:X.calm=true)(hi:PI X tg iter wi)(S:UE X.N X.env.scope scope own fr ix=true)
  (hg:∀cl C s H ex,PG (ZV X (own++fr) scope cl C s H ex) tg g) (ht:∀cl C s H ex,Mw (ZV X (own++fr) scope cl C s H ex) ifs tt) (he:∀cl C s H ex,PE (ZV X (own++fr) scope cl C s H ex) elt te)
  (hs:∀x,foldedSetIterable iter X.env x=pure x:=by intro _;rfl):PE X (.ListComp elt [⟨tg,iter,ifs,0⟩] scope pos) (S1 own.length ix wi g tt te):=
 IP hcalm hi (Qr S) hg ht he hs
theorem KR(own fr:List Str)(ix:List Nat){i:Nat}{y:Str}{py spos:Pos}(hN:X.N.Nodup)(hy:X.N[i]?=some y)(hloc:X.env.scope.names.lookup y=some .local)(hcalm:X.calm=true)(hi:PI X tg iter wi)(S:UE X.N X.env.scope scope own fr ix=true)
  (hg:∀cl C s H ex,PG (ZV X (own++fr) scope cl C s H ex) tg g) (ht:∀cl C s H ex,Mw (ZV X (own++fr) scope cl C s H ex) ifs tt) (he:∀cl C s H ex,PE (ZV X (own++fr) scope cl C s H ex) elt te)
  (hsw:swapsWith (.ListComp elt [⟨tg,iter,ifs,0⟩] scope pos) (some (.Name y py)) spos.line X.env=pure true:=by rfl)
  (hs:∀x,foldedSetIterable iter X.env x=pure x:=by intro _;rfl):PS X (.Assign [.Name y py] (.ListComp elt [⟨tg,iter,ifs,0⟩] scope pos) spos) (QW (S1 own.length ix wi g tt te) (US i)):=
 IQ hN hy hloc hcalm hi (Qr S) hg ht he hsw hs
end
structure S5(mg:Str->Option Value):Prop where
 «len» : mg "len" = none
 «sum» : mg "sum" = none
 «range» : mg "range" = none
 «enumerate» : mg "enumerate" = none
 «zip» : mg "zip" = none
 «tuple» : mg "tuple" = none
 «list» : mg "list" = none
 «all» : mg "all" = none
 «any» : mg "any" = none
 «isinstance» : mg "isinstance" = none
 «int» : mg "int" = none
 «bool» : mg "bool" = none
 «str» : mg "str" = none
 «min» : mg "min" = none
 «max» : mg "max" = none
 «sorted» : mg "sorted" = none
 «abs» : mg "abs" = none
 «ValueError» : mg "ValueError" = none
 «reversed» : mg "reversed" = none
 «set» : mg "set" = none
abbrev D8(g:TG)(tb:TS)(D:Uz)(σ:St)(J:It)(H:Hp):Prop:=
 ∃W:Nat->Nat->St->Hp->Prop,(∃m,W 0 m σ H)/\∀i m σ H,W i m σ H->
   (J.stop i H/\D.nx σ H)\/(J.go i H/\∃N:St->Hp->Prop,(∀σ' H',N σ' H'->∃m',m'<m/\W (i+1) m' σ' H')/\∀x H',J.yld i H x H'->g x σ H' fun σ2 H2=>tb { D with nx:=N,ct:=N,bk:=D.nx } σ2 H2)
def YJ(l:List Int)(i:Nat):Int:=l.getD i 0
theorem TU(l:List Int):(List.range l.length).map (YJ l)=l:=by
 apply List.ext_getElem?
 intro i;rw[List.getElem?_map]
 by_cases h:i<l.length
 ·rw[List.getElem?_eq_getElem (by simpa using h),List.getElem?_eq_getElem h]
  simp[YJ,List.getD_eq_getElem?_getD,List.getElem?_eq_getElem h]
 ·rw[List.getElem?_eq_none (by simpa using h),List.getElem?_eq_none (by omega)];rfl
theorem X4{f:Nat->Int}{n i:Nat}(h:i<n):YJ ((List.range n).map f) i=f i:=by
 unfold YJ
 rw[List.getD_eq_getElem?_getD,List.getElem?_map,List.getElem?_range h];rfl
def ZN(w:List (List Int))(i:Nat):List Int:=w.getD i []
theorem S6{w:List (List Int)}{i:Nat}(h:i<w.length):w[i]?=some (ZN w i):=by
 unfold ZN
 rw[List.getD_eq_getElem?_getD,List.getElem?_eq_getElem h];rfl
def Y1(w:List (List Int))(i j:Nat):Int:=YJ (ZN w i) j
structure Z7(w:List (List Int)):Prop where
 pos:1<=w.length
 few:w.length<=7
 sq:∀i,i<w.length->(ZN w i).length=w.length
 lo:∀i j,i<w.length->j<w.length->0<=Y1 w i j
 hi:∀i j,i<w.length->j<w.length->Y1 w i j<=9
 sym:∀i j,i<w.length->j<w.length->Y1 w i j=Y1 w j i
 dia:∀i,i<w.length->Y1 w i i=0
def Fy(K:PySem.W.Frag):List V->Hp->VK->Prop:=fun xs H Q=>∃p ys,xs=[.ref p]/\((SqL K H p ys/\∀l,H l=none->Q (.ref l) (upd H l (.tup ys)))\/(SqT K H p ys/\Q (.ref p) H))
def IU(K:PySem.W.Frag):List V->Hp->VK->Prop:=fun xs H Q=>∃p ys,xs=[.ref p]/\(SqL K H p ys\/SqT K H p ys)/\∀l,H l=none->Q (.ref l) (upd H l (.lst ys))
theorem Same.off{H Hc:Hp}{p:Addr}(s:Same H Hc)(n:Hc p=none):H p=none:=s.free n
abbrev Cz:=Nat×Nat×Int
def WM(M:List (List Int))(a b:Nat)(t:Int):List (List Int):=M.set a ((ZN M a).set b t)
structure MatOk(n:Nat)(M:List (List Int)):Prop where
 len:M.length=n
 row:∀i,i<n->(ZN M i).length=n
 lo:∀i j,i<n->j<n->0<=Y1 M i j
 hi:∀i j,i<n->j<n->Y1 M i j<=9
 sym:∀i j,i<n->j<n->Y1 M i j=Y1 M j i
 dia:∀i,i<n->Y1 M i i=0
theorem Qs{M:List (List Int)}{a i:Nat}{r:List Int}(ha:a<M.length):ZN (M.set a r) i=if a=i then r else ZN M i:=by
 unfold ZN;rw[List.getD_eq_getElem?_getD,List.getD_eq_getElem?_getD,List.getElem?_set]
 by_cases h:a=i
 ·subst h;simp[ha]
 ·simp[h]
theorem nth_set{l:List Int}{b j:Nat}{t:Int}(hb:b<l.length):YJ (l.set b t) j=if b=j then t else YJ l j:=by
 unfold YJ;rw[List.getD_eq_getElem?_getD,List.getD_eq_getElem?_getD,List.getElem?_set]
 by_cases h:b=j
 ·subst h;simp[hb]
 ·simp[h]
theorem S7{n:Nat}{M:List (List Int)}{a b i j:Nat}{t:Int}(hl:M.length=n)(hr:∀i,i<n->(ZN M i).length=n)(ha:a<n)(hb:b<n):Y1 (WM M a b t) i j=if a=i/\b=j then t else Y1 M i j:=by
 show YJ (ZN (M.set a ((ZN M a).set b t)) i) j=_
 rw[Qs (by omega)]
 by_cases h:a=i
 ·subst h
  rw[if_pos rfl,nth_set (by rw[hr a ha];exact hb)]
  by_cases q:b=j
  ·rw[if_pos q,if_pos ⟨rfl,q⟩]
  ·rw[if_neg q,if_neg (fun z=>q z.2)];rfl
 ·rw[if_neg h,if_neg (fun z=>h z.1)];rfl
theorem Wn{n:Nat}{M:List (List Int)}{a b:Nat}{t:Int}(hl:M.length=n)(hr:∀i,i<n->(ZN M i).length=n)(ha:a<n):(WM M a b t).length=n/\∀i,i<n->(ZN (WM M a b t) i).length=n:=by
 refine⟨by unfold WM;rw[List.length_set];exact hl,fun i hi=>?_⟩
 show(ZN (M.set a ((ZN M a).set b t)) i).length=n
 rw[Qs (by omega)]
 split
 ·rw[List.length_set];exact hr a ha
 ·exact hr i hi
theorem MatOk.zero(n:Nat):MatOk n (List.replicate n (List.replicate n 0)):=by
 have r:∀i,i<n->ZN (List.replicate n (List.replicate n (0:Int))) i=List.replicate n 0:=fun i hi=>by
  unfold ZN
  rw[List.getD_eq_getElem?_getD,List.getElem?_replicate,if_pos hi];rfl
 have z:∀i j,i<n->j<n->Y1 (List.replicate n (List.replicate n (0:Int))) i j=0:=fun i j hi hj=>by
  show YJ (ZN _ i) j=0
  rw[r i hi];unfold YJ
  rw[List.getD_eq_getElem?_getD,List.getElem?_replicate,if_pos hj];rfl
 exact⟨by simp,fun i hi=>by rw[r i hi];simp,fun i j hi hj=>by rw[z i j hi hj];omega,fun i j hi hj=>by rw[z i j hi hj];omega,fun i j hi hj=>by rw[z i j hi hj,z j i hj hi],fun i hi=>z i i hi hi⟩
theorem MatOk.web{n:Nat}{M:List (List Int)}(h:MatOk n M)(h1:1<=n)(h7:n<=7):Z7 M:=by
 have e:=h.len;subst e
 exact⟨h1,h7,h.row,h.lo,h.hi,h.sym,h.dia⟩
theorem XB(f:Nat->Int)(n:Nat):((List.range (n+1)).map f).sum=((List.range n).map f).sum+f n:=by
 rw[List.range_succ,List.map_append,List.sum_append];simp
theorem Wl{f g:Nat->Int}{n:Nat}(h:∀i,i<n->f i=g i):((List.range n).map f).sum=((List.range n).map g).sum:=by
 congr 1
 apply List.map_congr_left
 intro i hi
 exact h i (List.mem_range.mp hi)
theorem My(f g:Nat->Int)(n:Nat):((List.range n).map fun i=>f i+g i).sum=((List.range n).map f).sum+((List.range n).map g).sum:=by
 induction n with
 | zero=>simp
 | succ n ih=>rw[XB,XB,XB,ih];omega
theorem IV(l:List Int):((List.range l.length).map (YJ l)).sum=l.sum:=by rw[TU]
theorem KS(e:Nat->Nat->Int)(n:Nat)(hs:∀i j,i<n->j<n->e i j=e j i)(hd:∀i,i<n->e i i=0) :
  ((List.range n).map fun i=>((List.range n).map fun j=>e i j).sum).sum=2*((List.range n).map fun a=>((List.range (n-(a+1))).map fun j=>e a (a+1+j)).sum).sum:=by
 induction n with
 | zero=>simp
 | succ n ih=>
  have ih:=ih (fun i j hi hj=>hs i j (by omega) (by omega)) fun i hi=>hd i (by omega)
  rw[XB,XB,XB]
  have a1:((List.range n).map fun i=>((List.range (n+1)).map fun j=>e i j).sum).sum=((List.range n).map fun i=>((List.range n).map fun j=>e i j).sum).sum+((List.range n).map fun i=>e i n).sum:=by
   rw[<-My]
   apply Wl
   intro i _;rw[XB]
  have a2:((List.range n).map fun a=>((List.range (n+1-(a+1))).map fun j=>e a (a+1+j)).sum).sum=((List.range n).map fun a=>((List.range (n-(a+1))).map fun j=>e a (a+1+j)).sum).sum+((List.range n).map fun i=>e i n).sum:=by
   rw[<-My]
   apply Wl
   intro i hi;rw[show n+1-(i+1)=(n-(i+1))+1 by omega,XB,show i+1+(n-(i+1))=n by omega]
  have a3:((List.range n).map fun j=>e n j).sum=((List.range n).map fun i=>e i n).sum:=by
   apply Wl
   intro i hi
   exact hs n i (by omega) (by omega)
  rw[a1,a2,a3,hd n (by omega),show n+1-(n+1)=0 by omega]
  simp
  omega
theorem Od{α:Type}(n:Nat)(x:α):(List.replicate n [x]).flatten=List.replicate n x:=by
 induction n with
 | zero=>rfl
 | succ n ih=>rw[List.replicate_succ,List.flatten_cons,ih];rfl
structure NamesOk(i:Nat)(l:List Int):Prop where
 len:l.length=i
 nd:l.Nodup
 lo:∀x∈l,0<=x
 hi:∀x∈l,x<i
theorem NamesOk.nil:NamesOk 0 []:=⟨rfl,List.nodup_nil,fun _ h=>by simp at h,fun _ h=>by simp at h⟩
theorem NamesOk.ins{i:Nat}{l:List Int}(h:NamesOk i l)(k:Nat):NamesOk (i+1) (l.take k++(i:Int)::l.drop k):=by
 have hp:(l.take k++(i:Int)::l.drop k).Perm ((i:Int)::l):=by
  have:=List.perm_middle (a:=(i:Int)) (l₁:=l.take k) (l₂:=l.drop k)
  rw[List.take_append_drop] at this;exact this
 refine⟨by rw[hp.length_eq,List.length_cons,h.len],?_,fun x hx=>?_,fun x hx=>?_⟩
 ·rw[hp.nodup_iff,List.nodup_cons]
  exact⟨fun hm=>by have:=h.hi _ hm;omega,h.nd⟩
 ·rcases List.mem_cons.mp (hp.mem_iff.mp hx) with e | e
  ·omega
  ·exact h.lo x e
 ·rcases List.mem_cons.mp (hp.mem_iff.mp hx) with e | e
  ·omega
  ·have:=h.hi x e;omega
theorem NamesOk.at{i:Nat}{l:List Int}(h:NamesOk i l){x:Nat}(hx:x<i):0<=YJ l x/\YJ l x<i:=by
 have e:YJ l x=l[x]'(by rw[h.len];exact hx):=by
  unfold YJ
  rw[List.getD_eq_getElem?_getD,List.getElem?_eq_getElem (by rw[h.len];exact hx)];rfl
 rw[e]
 exact⟨h.lo _ (List.getElem_mem _),h.hi _ (List.getElem_mem _)⟩
theorem NamesOk.ne{i:Nat}{l:List Int}(h:NamesOk i l){x y:Nat}(hx:x<i)(hy:y<i)(n:x≠y):YJ l x≠YJ l y:=by
 have ex:YJ l x=l[x]'(by rw[h.len];exact hx):=by
  unfold YJ
  rw[List.getD_eq_getElem?_getD,List.getElem?_eq_getElem (by rw[h.len];exact hx)];rfl
 have ey:YJ l y=l[y]'(by rw[h.len];exact hy):=by
  unfold YJ
  rw[List.getD_eq_getElem?_getD,List.getElem?_eq_getElem (by rw[h.len];exact hy)];rfl
 rw[ex,ey];intro e
 exact n ((List.getElem_inj h.nd).mp e)
theorem lt_size{n:Nat}(h:n<=10000):n<sizeLine:=Nat.lt_of_le_of_lt h (by decide)
end L2
namespace VL
open PySem PySem.Spec PyProof.Rows L2
variable {K:PySem.W.Frag}
def CA(od:Obj)(f:Str)(u:Value):Prop:=∀(hp:Heap)(dx:Addr),hp.get? dx=some od->hp.Ns1 dx (fun n=>if n=f then some u else none)
def IW(n:Str):Str:=if n = "NoWeb" then "place" else if n = "Apart" then "houses" else if n = "TooMany" then "most" else "total"
inductive PV where
 | non | bl (b:Bool) | int (i:Int) | str (x:Str) | ty (n:String) | exc (n:Str) | exf (n:Str) (l:PV)
 | tup (l:List PV) | lst (l:List PV) | cst (l:List PV)
 | dK (ks:List Sq) (vs:List PV) | dT (ks:List (List Sq)) (vs:List PV)
instance:Inhabited PV:=⟨.non⟩
mutual
/-- nothing in it can be changed -/
def Z0:PV->Bool
 | .tup l=>ZJ l
 | .cst l=>ZJ l
 | .lst _=>false
 | .dK _ _=>false
 | .dT _ _=>false
 | .non=>true
 | .bl _=>true
 | .int _=>true
 | .str _=>true
 | .ty _=>true
 | .exc _=>true
 | .exf _ _=>true
def ZJ:List PV->Bool
 | []=>true
 | x::r=>Z0 x&&ZJ r
end
theorem XY:∀l:List PV,ZJ l=l.all Z0
 | []=>rfl
 | x::r=>by rw[List.all_cons,<-XY r];rfl
def KL(K:PySem.W.Frag)(a:Addr)(xs:List V):Prop:=
 ∃(o:Obj) (its:Array Value) (n:Nat),K.lookup a=some o/\o.cls = .type "list"/\o.dict=none/\o.data = .seq its n/\its.size<=sizeLine/\Vals xs its.toList
def CsK(K:PySem.W.Frag)(H:Hp)(p:Addr)(xs:List V):Prop:=(∃o,H p=some (.frz o (.lst xs)))\/KL K p xs
theorem CsK.sq{K:PySem.W.Frag}{H:Hp}{p:Addr}{xs:List V}(h:CsK K H p xs):SqL K H p xs:=by
 rcases h with h | h
 ·exact .inl (.inr h)
 ·exact .inr h
mutual
/-- v is the tree l in the heap H;fp: the addresses of its lists and dicts -/
def Is(K:PySem.W.Frag)(H:Hp):PV->V->List Addr->Prop
 | .non,v,fp=>v = .non/\fp=[]
 | .bl b,v,fp=>v = .bl b/\fp=[]
 | .int i,v,fp=>v = .int i/\fp=[]
 | .str x,v,fp=>v = .str x/\fp=[]
 | .ty n,v,fp=>v = .ty n/\fp=[]
 | .exc n,v,fp=>(∃e o x C,v = .ref e/\H e=some (.frz o (.own x))/\o.cls = .ref C/\PySem.W.nsIn K mainGlobals n=some (some (.ref C))/\o.dict=none/\∃vs,o.data = .fields vs)/\fp=[]
 | .exf n l,v,fp=>(∃e o x C dx od u z,v = .ref e/\H e=some (.frz o (.own x))/\o.cls = .ref C/\PySem.W.nsIn K mainGlobals n=some (some (.ref C))/\o.dict=some dx/\(∃vs,o.data = .fields vs)/\H dx=some (.frz od (.own dx))/\CA od (IW n) u/\RelV z u/\Is K H l z [])/\fp=[]
 | .tup l,v,fp=>∃p xs,v = .ref p/\H p=some (.tup xs)/\Iss K H l xs fp
 | .lst l,v,fp=>∃p xs fq,v = .ref p/\H p=some (.lst xs)/\Iss K H l xs fq/\fp=p::fq
 | .cst l,v,fp=>∃p xs,v = .ref p/\CsK K H p xs/\Iss K H l xs fp
 | .dK ks l,v,fp=>∃p kvs fq,v = .ref p/\Rd H p (.dK kvs)/\kvs.map (·.1)=ks/\Iss K H l (kvs.map (·.2)) fq/\fp=p::fq
 | .dT ks l,v,fp=>∃p kvs fq,v = .ref p/\Rd H p (.dT kvs)/\kvs.map (·.1)=ks/\Iss K H l (kvs.map (·.2)) fq/\fp=p::fq
def Iss(K:PySem.W.Frag)(H:Hp):List PV->List V->List Addr->Prop
 | [],xs,fp=>xs=[]/\fp=[]
 | l::ls,xs,fp=>∃x r f1 f2,xs=x::r/\Is K H l x f1/\Iss K H ls r f2/\fp=f1++f2
end
def RdK(H H':Hp)(p:Addr):Prop:=(∀xs,H p=some (.lst xs)->H' p=some (.lst xs))/\(∀kvs,Rd H p (.dK kvs)->Rd H' p (.dK kvs))/\∀kvs,Rd H p (.dT kvs)->Rd H' p (.dT kvs)
theorem RdK.of{H H':Hp}{p:Addr}(h:∀o,H p=some o->H' p=some o):RdK H H' p:=by
 have r:∀u,Rd H p u->Rd H' p u:=fun u q=>by
  rcases q with q | ⟨o,q⟩
  ·exact .inl (h _ q)
  ·exact .inr ⟨o,h _ q⟩
 exact⟨fun _=>h _,fun _=>r _,fun _=>r _⟩
structure Fz(H H':Hp):Prop where
 tup:TK H H'
 frz:∀b o xs,H b=some (.frz o (.lst xs))->H' b=some (.frz o (.lst xs))
 exc:∀b o x,H b=some (.frz o (.own x))->H' b=some (.frz o (.own x))
theorem Same.tk2{H H':Hp}(s:Same H H'):Fz H H':=⟨s.tk,fun b o xs h=>s b _ h,fun b o x h=>s b _ h⟩
theorem CsK.tr{K:PySem.W.Frag}{H H':Hp}(t:Fz H H'){p:Addr}{xs:List V}(h:CsK K H p xs):CsK K H' p xs:=by
 rcases h with⟨o,h⟩ | h
 ·exact .inl ⟨o,t.frz p o xs h⟩
 ·exact .inr h
mutual
theorem Is.tr{H H':Hp}(ht:Fz H H'):∀(l:PV)(v:V)(fp:List Addr),(∀p∈fp,RdK H H' p)->Is K H l v fp->Is K H' l v fp
 | .non,_,_,_,h=>by simpa only[Is] using h
 | .bl _,_,_,_,h=>by simpa only[Is] using h
 | .int _,_,_,_,h=>by simpa only[Is] using h
 | .str _,_,_,_,h=>by simpa only[Is] using h
 | .ty _,_,_,_,h=>by simpa only[Is] using h
 | .exc _,_,_,_,h=>by
  simp only[Is] at h ⊢
  obtain⟨⟨e,o,x,C,a,b,c⟩,d⟩:=h
  exact⟨⟨e,o,x,C,a,ht.exc e o x b,c⟩,d⟩
 | .exf _ l,_,_,_,h=>by
  simp only[Is] at h ⊢
  obtain⟨⟨e,o,x,C,dx,od,u,z,a,b,c1,c2,c3,c4,c5,c6,c7,c8⟩,d⟩:=h
  exact⟨⟨e,o,x,C,dx,od,u,z,a,ht.exc e o x b,c1,c2,c3,c4,ht.exc dx od dx c5,c6,c7,Is.tr ht l z [] (fun p hp=>by simp at hp) c8⟩,d⟩
 | .tup l,v,fp,hm,h=>by
  simp only[Is] at h ⊢
  obtain⟨p,xs,e,hp,hi⟩:=h
  exact⟨p,xs,e,ht.tup p xs hp,Iss.tr ht l xs fp hm hi⟩
 | .lst l,v,fp,hm,h=>by
  simp only[Is] at h ⊢
  obtain⟨p,xs,fq,e,hr,hi,rfl⟩:=h
  exact⟨p,xs,fq,e,(hm p List.mem_cons_self).1 _ hr,Iss.tr ht l xs fq (fun q hq=>hm q (List.mem_cons_of_mem _ hq)) hi,rfl⟩
 | .cst l,v,fp,hm,h=>by
  simp only[Is] at h ⊢
  obtain⟨p,xs,e,hr,hi⟩:=h
  exact⟨p,xs,e,hr.tr ht,Iss.tr ht l xs fp hm hi⟩
 | .dK ks l,v,fp,hm,h=>by
  simp only[Is] at h ⊢
  obtain⟨p,kvs,fq,e,hr,hk,hi,rfl⟩:=h
  exact⟨p,kvs,fq,e,(hm p List.mem_cons_self).2.1 _ hr,hk,Iss.tr ht l _ fq (fun q hq=>hm q (List.mem_cons_of_mem _ hq)) hi,rfl⟩
 | .dT ks l,v,fp,hm,h=>by
  simp only[Is] at h ⊢
  obtain⟨p,kvs,fq,e,hr,hk,hi,rfl⟩:=h
  exact⟨p,kvs,fq,e,(hm p List.mem_cons_self).2.2 _ hr,hk,Iss.tr ht l _ fq (fun q hq=>hm q (List.mem_cons_of_mem _ hq)) hi,rfl⟩
theorem Iss.tr{H H':Hp}(ht:Fz H H'):∀(l:List PV)(xs:List V)(fp:List Addr),(∀p∈fp,RdK H H' p)->Iss K H l xs fp->Iss K H' l xs fp
 | [],_,_,_,h=>by simpa only[Iss] using h
 | l::ls,xs,fp,hm,h=>by
  simp only[Iss] at h ⊢
  obtain⟨x,r,f1,f2,e,h1,h2,rfl⟩:=h
  exact⟨x,r,f1,f2,e,Is.tr ht l x f1 (fun q hq=>hm q (List.mem_append_left _ hq)) h1,Iss.tr ht ls r f2 (fun q hq=>hm q (List.mem_append_right _ hq)) h2,rfl⟩
end
theorem Is.mono{H H':Hp}(s:Same H H'){l:PV}{v:V}{fp:List Addr}(h:Is K H l v fp):Is K H' l v fp:=Is.tr (Same.tk2 s) l v fp (fun p _=>RdK.of fun o q=>s p o q) h
theorem Iss.mono{H H':Hp}(s:Same H H'){l:List PV}{v:List V}{fp:List Addr}(h:Iss K H l v fp):Iss K H' l v fp:=Iss.tr (Same.tk2 s) l v fp (fun p _=>RdK.of fun o q=>s p o q) h
mutual
theorem Is.pure{H:Hp}:∀(l:PV)(v:V)(fp:List Addr),Z0 l=true->Is K H l v fp->fp=[]
 | .non,_,_,_,h=>by simp only[Is] at h;exact h.2
 | .bl _,_,_,_,h=>by simp only[Is] at h;exact h.2
 | .int _,_,_,_,h=>by simp only[Is] at h;exact h.2
 | .str _,_,_,_,h=>by simp only[Is] at h;exact h.2
 | .ty _,_,_,_,h=>by simp only[Is] at h;exact h.2
 | .exc _,_,_,_,h=>by simp only[Is] at h;exact h.2
 | .exf _ _,_,_,_,h=>by simp only[Is] at h;exact h.2
 | .tup l,v,fp,hp,h=>by
  simp only[Is] at h
  obtain⟨p,xs,e,_,hi⟩:=h
  exact Iss.pure l xs fp (by simpa only[Z0] using hp) hi
 | .lst l,v,fp,hp,h=>by simp[Z0] at hp
 | .cst l,v,fp,hp,h=>by
  simp only[Is] at h
  obtain⟨p,xs,e,_,hi⟩:=h
  exact Iss.pure l xs fp (by simpa only[Z0] using hp) hi
 | .dK ks l,v,fp,hp,h=>by simp[Z0] at hp
 | .dT ks l,v,fp,hp,h=>by simp[Z0] at hp
theorem Iss.pure{H:Hp}:∀(l:List PV)(xs:List V)(fp:List Addr),ZJ l=true->Iss K H l xs fp->fp=[]
 | [],_,_,_,h=>by simp only[Iss] at h;exact h.2
 | l::ls,xs,fp,hp,h=>by
  simp only[Iss] at h;simp only[ZJ,Bool.and_eq_true] at hp
  obtain⟨x,r,f1,f2,e,h1,h2,rfl⟩:=h
  rw[Is.pure l x f1 hp.1 h1,Iss.pure ls r f2 hp.2 h2];rfl
end
section
variable {H H':Hp}
theorem Iss.len:∀{l:List PV}{xs:List V}{fp:List Addr},Iss K H l xs fp->xs.length=l.length
 | [],xs,fp,h=>by simp only[Iss] at h;rw[h.1];rfl
 | l::ls,xs,fp,h=>by
  simp only[Iss] at h
  obtain⟨x,r,f1,f2,rfl,_,h2,_⟩:=h
  rw[List.length_cons,List.length_cons,h2.len]
theorem Iss.get:∀{l:List PV}{xs:List V}{fp:List Addr}{i:Nat}{a:PV},Iss K H l xs fp->l[i]?=some a->∃x f1,xs[i]?=some x/\Is K H a x f1/\∀p∈f1,p∈fp
 | [],xs,fp,i,a,h,e=>by simp at e
 | l::ls,xs,fp,0,a,h,e=>by
  simp only[Iss] at h
  obtain⟨x,r,f1,f2,rfl,h1,_,rfl⟩:=h
  simp at e;subst e
  exact⟨x,f1,rfl,h1,fun p hp=>List.mem_append_left _ hp⟩
 | l::ls,xs,fp,i+1,a,h,e=>by
  simp only[Iss] at h
  obtain⟨x,r,f1,f2,rfl,_,h2,rfl⟩:=h
  obtain⟨y,g,h3,h4,h5⟩:=h2.get (i:=i) (a:=a) (by simpa using e)
  exact⟨y,g,by simpa using h3,h4,fun p hp=>List.mem_append_right _ (h5 p hp)⟩
theorem Iss.get'{l:List PV}{xs:List V}{fp:List Addr}{i:Nat}{x:V}(h:Iss K H l xs fp)(e:xs[i]?=some x):∃a f1,l[i]?=some a/\Is K H a x f1/\∀p∈f1,p∈fp:=by
 have hi:i<l.length:=by rw[<-h.len];exact(List.getElem?_eq_some_iff.mp e).1
 obtain⟨y,f1,h1,h2,h3⟩:=h.get (List.getElem?_eq_getElem hi)
 rw[e] at h1;cases h1
 exact⟨_,f1,List.getElem?_eq_getElem hi,h2,h3⟩
theorem Iss.nil:Iss K H [] [] []:=by simp[Iss]
theorem Iss.cons{l:PV}{ls:List PV}{x:V}{xs:List V}{f1 f2:List Addr}(h1:Is K H l x f1)(h2:Iss K H ls xs f2):Iss K H (l::ls) (x::xs) (f1++f2):=by
 simp only[Iss];exact⟨x,xs,f1,f2,rfl,h1,h2,rfl⟩
theorem Iss.inv{l:PV}{ls:List PV}{xs:List V}{fp:List Addr}(h:Iss K H (l::ls) xs fp):∃x r f1 f2,xs=x::r/\Is K H l x f1/\Iss K H ls r f2/\fp=f1++f2:=by
 simpa only[Iss] using h
theorem Iss.append:∀{l m:List PV}{xs ys:List V}{f1 f2:List Addr},Iss K H l xs f1->Iss K H m ys f2->Iss K H (l++m) (xs++ys) (f1++f2)
 | [],m,xs,ys,f1,f2,h,h'=>by
  simp only[Iss] at h
  rw[h.1,h.2];exact h'
 | l::ls,m,xs,ys,f1,f2,h,h'=>by
  obtain⟨x,r,g1,g2,rfl,a,b,rfl⟩:=h.inv
  rw[List.append_assoc]
  exact Iss.cons a (b.append h')
theorem Iss.one{l:PV}{x:V}{f:List Addr}(h:Is K H l x f):Iss K H [l] [x] f:=by
 have:=Iss.cons h (Iss.nil (H:=H))
 rwa [List.append_nil] at this
theorem Iss.take:∀{l:List PV}{xs:List V}{fp:List Addr}(n:Nat),Iss K H l xs fp->∃f1,Iss K H (l.take n) (xs.take n) f1/\∀p∈f1,p∈fp
 | l,xs,fp,0,h=>⟨[],by rw[List.take_zero,List.take_zero];exact Iss.nil,fun p hp=>by simp at hp⟩
 | [],xs,fp,n+1,h=>by
  simp only[Iss] at h;rw[h.1]
  exact⟨[],by rw[List.take_nil,List.take_nil];exact Iss.nil,fun p hp=>by simp at hp⟩
 | l::ls,xs,fp,n+1,h=>by
  obtain⟨x,r,f1,f2,rfl,h1,h2,rfl⟩:=h.inv
  obtain⟨f3,a,b⟩:=h2.take n
  refine⟨f1++f3,Iss.cons h1 a,fun p hp=>?_⟩
  rcases List.mem_append.mp hp with h | h
  ·exact List.mem_append_left _ h
  ·exact List.mem_append_right _ (b p h)
theorem Iss.drop:∀{l:List PV}{xs:List V}{fp:List Addr}(n:Nat),Iss K H l xs fp->∃f1,Iss K H (l.drop n) (xs.drop n) f1/\∀p∈f1,p∈fp
 | l,xs,fp,0,h=>⟨fp,h,fun p hp=>hp⟩
 | [],xs,fp,n+1,h=>by
  simp only[Iss] at h;rw[h.1]
  exact⟨[],by rw[List.drop_nil,List.drop_nil];exact Iss.nil,fun p hp=>by simp at hp⟩
 | l::ls,xs,fp,n+1,h=>by
  obtain⟨x,r,f1,f2,rfl,h1,h2,rfl⟩:=h.inv
  obtain⟨f3,a,b⟩:=h2.drop n
  exact⟨f3,a,fun p hp=>List.mem_append_right _ (b p hp)⟩
theorem Iss.setP:∀{l:List PV}{xs:List V}{a:PV}{x:V}(i:Nat),ZJ l=true->Z0 a=true->Iss K H l xs []->Is K H a x []->Iss K H (l.set i a) (xs.set i x) []
 | [],xs,a,x,i,_,_,h,_=>by
  simp only[Iss] at h
  rw[h.1];simp only[List.set_nil];exact Iss.nil
 | l::ls,xs,a,x,0,hp,_,h,ha=>by
  simp only[ZJ,Bool.and_eq_true] at hp
  obtain⟨y,r,f1,f2,rfl,_,h2,e⟩:=h.inv
  have e2:=Iss.pure _ _ _ hp.2 h2;subst e2
  exact Iss.cons (f1:=[]) ha h2
 | l::ls,xs,a,x,i+1,hp,hq,h,ha=>by
  simp only[ZJ,Bool.and_eq_true] at hp
  obtain⟨y,r,f1,f2,rfl,h1,h2,e⟩:=h.inv
  have e1:=Is.pure _ _ _ hp.1 h1;have e2:=Iss.pure _ _ _ hp.2 h2
  subst e1 e2
  exact Iss.cons (f1:=[]) h1 (Iss.setP i hp.2 hq h2 ha)
theorem Is.int_inv{i:Int}{v:V}{fp:List Addr}(h:Is K H (.int i) v fp):v = .int i/\fp=[]:=by simpa only[Is] using h
theorem Is.int(i:Int):Is K H (.int i) (.int i) []:=by simp[Is]
theorem Is.bl(i:Bool):Is K H (.bl i) (.bl i) []:=by simp[Is]
theorem Is.non:Is K H .non .non []:=by simp[Is]
theorem Is.str(x:Str):Is K H (.str x) (.str x) []:=by simp[Is]
theorem Is.ty(n:String):Is K H (.ty n) (.ty n) []:=by simp[Is]
theorem Is.bl_inv{i:Bool}{v:V}{fp:List Addr}(h:Is K H (.bl i) v fp):v = .bl i/\fp=[]:=by simpa only[Is] using h
theorem Is.str_inv{i:Str}{v:V}{fp:List Addr}(h:Is K H (.str i) v fp):v = .str i/\fp=[]:=by simpa only[Is] using h
theorem Is.non_inv{v:V}{fp:List Addr}(h:Is K H .non v fp):v = .non/\fp=[]:=by simpa only[Is] using h
theorem Is.ty_inv{n:String}{v:V}{fp:List Addr}(h:Is K H (.ty n) v fp):v = .ty n/\fp=[]:=by simpa only[Is] using h
theorem Is.tup_inv{l:List PV}{v:V}{fp:List Addr}(h:Is K H (.tup l) v fp):∃p xs,v = .ref p/\H p=some (.tup xs)/\Iss K H l xs fp:=by simpa only[Is] using h
theorem Is.tup{l:List PV}{p:Addr}{xs:List V}{fp:List Addr}(h:H p=some (.tup xs))(hi:Iss K H l xs fp):Is K H (.tup l) (.ref p) fp:=by simp only[Is];exact⟨p,xs,rfl,h,hi⟩
theorem Is.lst_inv{l:List PV}{v:V}{fp:List Addr}(h:Is K H (.lst l) v fp):∃p xs fq,v = .ref p/\H p=some (.lst xs)/\Iss K H l xs fq/\fp=p::fq:=by simpa only[Is] using h
theorem Is.lst{l:List PV}{p:Addr}{xs:List V}{fp:List Addr}(h:H p=some (.lst xs))(hi:Iss K H l xs fp):Is K H (.lst l) (.ref p) (p::fp):=by
 simp only[Is];exact⟨p,xs,fp,rfl,h,hi,rfl⟩
theorem Is.cst_inv{l:List PV}{v:V}{fp:List Addr}(h:Is K H (.cst l) v fp):∃p xs,v = .ref p/\CsK K H p xs/\Iss K H l xs fp:=by simpa only[Is] using h
theorem Is.cst{l:List PV}{p:Addr}{xs:List V}{fp:List Addr}(h:CsK K H p xs)(hi:Iss K H l xs fp):Is K H (.cst l) (.ref p) fp:=by
 simp only[Is];exact⟨p,xs,rfl,h,hi⟩
theorem Is.dT_inv{ks:List (List Sq)}{l:List PV}{v:V}{fp:List Addr}(h:Is K H (.dT ks l) v fp):∃p kvs fq,v = .ref p/\Rd H p (.dT kvs)/\kvs.map (·.1)=ks/\Iss K H l (kvs.map (·.2)) fq/\fp=p::fq:=by simpa only[Is] using h
theorem Is.dK_inv{ks:List Sq}{l:List PV}{v:V}{fp:List Addr}(h:Is K H (.dK ks l) v fp):∃p kvs fq,v = .ref p/\Rd H p (.dK kvs)/\kvs.map (·.1)=ks/\Iss K H l (kvs.map (·.2)) fq/\fp=p::fq:=by simpa only[Is] using h
end
abbrev iL(l:List Int):List PV:=l.map PV.int
theorem Yv(l:List Int):ZJ (iL l)=true:=by
 rw[XY,List.all_eq_true];intro x hx
 obtain⟨i,_,rfl⟩:=List.mem_map.mp hx
 rfl
theorem Iss.iL{H:Hp}:∀{l:List Int}{xs:List V}{fp:List Addr},Iss K H (VL.iL l) xs fp->xs=l.map V.int/\fp=[]
 | [],xs,fp,h=>by simpa only[VL.iL,List.map_nil,Iss] using h
 | i::l,xs,fp,h=>by
  obtain⟨x,r,f1,f2,rfl,h1,h2,rfl⟩:=Iss.inv (show Iss K H (PV.int i::VL.iL l) xs fp from h)
  obtain⟨rfl,rfl⟩:=h1.int_inv
  obtain⟨rfl,rfl⟩:=h2.iL
  exact⟨rfl,rfl⟩
theorem Iss.ofInts{H:Hp}:∀(l:List Int),Iss K H (VL.iL l) (l.map V.int) []
 | []=>Iss.nil
 | i::l=>Iss.cons (f1:=[]) (Is.int i) (Iss.ofInts l)
end VL
namespace VL
open PySem PySem.Spec PyProof.Rows L2
variable {K:PySem.W.Frag}
abbrev Si:=L2.St
abbrev ZP:=List (Option PV)
abbrev XE:=ZP->Option PV
structure EnvIs(K:PySem.W.Frag)(Rm:Addr->Prop)(H:Hp)(s:ZP)(σ:Si):Prop where
 is:∀(i:Nat) l,s[i]?=some (some l)->∃v fp,σ[i]?=some (some v)/\Is K H l v fp/\∀p∈fp,¬Rm p
theorem EnvIs.mono{Rm:Addr->Prop}{H H':Hp}{s:ZP}{σ:Si}(h:EnvIs K Rm H s σ)(e:Same H H'):EnvIs K Rm H' s σ:=⟨fun i l q=>by
 obtain⟨v,fp,a,b,c⟩:=h.is i l q
 exact⟨v,fp,a,b.mono e,c⟩⟩
theorem EnvIs.free{Rm:Addr->Prop}{H:Hp}{s:ZP}{σ:Si}(h:EnvIs K Rm H s σ):EnvIs K (fun _=>False) H s σ:=⟨fun i l q=>by
 obtain⟨v,fp,a,b,c⟩:=h.is i l q
 exact⟨v,fp,a,b,fun _ _ z=>z⟩⟩
theorem Same.mut{H H':Hp}(e:Same H H'){p:Addr}(h:W3 (H p)):W3 (H' p):=by
 cases q:H p with
 | none=>rw[q] at h;exact h.elim
 | some o=>rw[e p o q,<-q];exact h
theorem Xj{H:Hp}{p:Addr}(h:W3 (H p)):H p≠none:=fun z=>by rw[z] at h;exact h
def tF(K:PySem.W.Frag)(f:XE):TE:=fun σ H Q=>∃(Rm:Addr->Prop) (s:ZP) (l:PV),(∀p,Rm p->W3 (H p))/\EnvIs K Rm H s σ/\f s=some l/\∀v H' fp,Same H H'->Is K H' l v fp->(∀p∈fp,¬Rm p)->Q v H'
def tM(K:PySem.W.Frag)(f:XE):TE:=fun σ H Q=>∃(s:ZP) (l:PV),EnvIs K (fun _=>False) H s σ/\f s=some l/\∀v H' fp,Same H H'->Is K H' l v fp->fp.Nodup->(∀p∈fp,H p=none/\W3 (H' p))->Q v H'
def VE(X:Cx)(e:Expr)(f:XE):Prop:=PE X e (tF X.K f)
def VM(X:Cx)(e:Expr)(f:XE):Prop:=PE X e (tM X.K f)
section
variable {X:Cx} {e:Expr} {f g:XE} {t t':TE}
theorem PE.imp(h:PE X e t)(i:∀σ H Q,t' σ H Q->t σ H Q):PE X e t':=fun pins s σ H Q I q=>h pins s σ H Q I (i σ H Q q)
theorem VM.ve(h:VM X e f):VE X e f:=PE.imp h fun σ H Q ⟨Rm,s,l,hd,env,e,k⟩=>
 ⟨s,l,env.free,e,fun v H' fp sm i _ n=>k v H' fp sm i fun p hp z=>Xj (hd p z) (n p hp).1⟩
def eP(f:XE):XE:=fun s=>(f s).bind fun l=>if Z0 l=true then some l else none
theorem IX{s:ZP}{l:PV}(h:eP f s=some l):f s=some l/\Z0 l=true:=by
 unfold eP at h
 cases q:f s with
 | none=>rw[q] at h;cases h
 | some a=>
  rw[q] at h;simp only[Option.bind_some] at h
  split at h
  ·cases h;exact⟨rfl,by assumption⟩
  ·cases h
theorem VE.pure(h:VE X e f):VM X e (eP f):=PE.imp h fun σ H Q ⟨s,l,env,e,k⟩=>by
 obtain⟨e1,e2⟩:=IX e
 refine⟨fun _=>False,s,l,fun _ z=>z.elim,env,e1,fun v H' fp sm i n=>?_⟩
 have:=Is.pure l v fp e2 i
 subst this
 exact k v H' [] sm i List.nodup_nil fun p hp=>by simp at hp
end
def Za(i:Nat):XE:=fun s=>(s[i]?).join
def eC(l:PV):XE:=fun _=>some l
theorem Qt{i:Nat}{s:ZP}{l:PV}(h:Za i s=some l):s[i]?=some (some l):=by
 unfold Za at h
 cases q:s[i]? with
 | none=>rw[q] at h;cases h
 | some o=>rw[q] at h;cases o with
  | none=>cases h
  | some a=>cases h;rfl
section
variable {X:Cx} {pos:Pos}
theorem Zd{e:Expr}{i:Nat}(h:PE X e (RW i)):VE X e (Za i):=PE.imp h fun σ H Q ⟨Rm,s,l,hd,env,e,k⟩=>by
 obtain⟨v,fp,a,b,c⟩:=env.is i l (Qt e)
 exact⟨v,a,k v H fp (Same.refl H) b c⟩
theorem IY{e:Expr}{v:V}{l:PV}(h:PE X e (tC v))(hv:∀H,Is X.K H l v []):VE X e (eC l):=PE.imp h fun σ H Q ⟨Rm,s,l',hd,env,e,k⟩=>by
 cases e
 exact k v H [] (Same.refl H) (hv H) fun p hp=>by simp at hp
theorem Zi{i j}:VE X (.Constant (.int i) j pos) (eC (.int i)):=IY GU fun _=>Is.int i
theorem XU{i j}:VE X (.Constant (.bool i) j pos) (eC (.bl i)):=IY Ex fun _=>Is.bl i
theorem KU{i j}:VE X (.Constant (.str i) j pos) (eC (.str i)):=IY Kn fun _=>Is.str i
end
def RB(K:PySem.W.Frag)(r:R2)(g:PV->PV->Option PV):Prop:=∀(H:Hp)(x y:V)(a b l:PV)(fa fb:List Addr),Is K H a x fa->Is K H b y fb->g a b=some l->∀Q:VK,
 (∀v H' fp,Same H H'->Is K H' l v fp->(∀p∈fp,p∈fa\/p∈fb\/H p=none)->Q v H')->r x y H Q
def Zf(g:PV->PV->Option PV)(a b:XE):XE:=fun s=>(a s).bind fun x=>(b s).bind fun y=>g x y
theorem UY{g:PV->PV->Option PV}{a b:XE}{s:ZP}{l:PV}(h:Zf g a b s=some l):∃x y,a s=some x/\b s=some y/\g x y=some l:=by
 unfold Zf at h
 cases q:a s with
 | none=>rw[q] at h;cases h
 | some x=>cases q2:b s with
  | none=>rw[q,q2] at h;cases h
  | some y=>rw[q,q2] at h;exact⟨x,y,rfl,rfl,h⟩
section
variable {X:Cx} {a b:Expr} {fa fb:XE} {pos:Pos}
theorem Mz{r:R2}{g:PV->PV->Option PV}(hr:RB K r g):∀σ H Q,tF K (Zf g fa fb) σ H Q->En r (tF K fa) (tF K fb) σ H Q:=fun σ H Q ⟨Rm,s,l,hd,env,e,k⟩=>by
 obtain⟨x',y',ex,ey,e⟩:=UY e
 refine⟨Rm,s,x',hd,env,ex,fun x H1 f1 s1 i1 n1=>⟨Rm,s,y',fun p hp=>Same.mut s1 (hd p hp),env.mono s1,ey,fun y H2 f2 s2 i2 n2=>?_⟩⟩
 refine hr H2 x y x' y' l f1 f2 (i1.mono s2) i2 e Q fun v H3 fp s3 i3 n3=>k v H3 fp (s1.trans (s2.trans s3)) i3 fun p hp z=>?_
 rcases n3 p hp with h | h | h
 ·exact n1 p h z
 ·exact n2 p h z
 ·exact Xj (Same.mut (s1.trans s2) (hd p z)) h
theorem Wc{op:Operator}{r:R2}{g:PV->PV->Option PV}(ho:UB X (binaryOp op) r)(hr:RB X.K r g)(ha:VE X a fa)(hb:VE X b fb):VE X (.BinOp a op b pos) (Zf g fa fb):=
 PE.imp (Kt ho ha hb) (Mz hr)
theorem S8{op:CmpOp}{r:R2}{g:PV->PV->Option PV}(ho:UB X (compareOp op) r)(hr:RB X.K r g)(ha:VE X a fa)(hb:VE X b fb)(hm:behindInMarks op b=false):VE X (.Compare a [op] [b] pos) (Zf g fa fb):=
 PE.imp (IA ho ha hb hm) (Mz hr)
theorem EZ{r:R2}{g:PV->PV->Option PV}(ho:IxR X r)(hr:RB X.K r g)(ha:VE X a fa)(hb:VE X b fb)(hs:Q0 b):VE X (.Subscript a b pos) (Zf g fa fb):=
 PE.imp (P7 ho ha hb hs) (Mz hr)
end
def gI(g:Int->Int->Int):PV->PV->Option PV
 | .int i,.int j=>some (.int (g i j))
 | _,_=>none
def gB(g:Int->Int->Bool):PV->PV->Option PV
 | .int i,.int j=>some (.bl (g i j))
 | _,_=>none
def IZ(C:Int->Int->Prop)[∀i j,Decidable (C i j)](g:Int->Int->Int):PV->PV->Option PV
 | .int i,.int j=>if C i j then some (.int (g i j)) else none
 | _,_=>none
theorem Ha{g:Int->Int->Int}{a b l:PV}(h:gI g a b=some l):∃i j,a = .int i/\b = .int j/\l = .int (g i j):=by
 unfold gI at h;split at h
 ·cases h;exact⟨_,_,rfl,rfl,rfl⟩
 ·cases h
theorem Hb{g:Int->Int->Bool}{a b l:PV}(h:gB g a b=some l):∃i j,a = .int i/\b = .int j/\l = .bl (g i j):=by
 unfold gB at h;split at h
 ·cases h;exact⟨_,_,rfl,rfl,rfl⟩
 ·cases h
theorem KW{C:Int->Int->Prop}[∀i j,Decidable (C i j)]{g:Int->Int->Int}{a b l:PV}(h:IZ C g a b=some l):∃i j,a = .int i/\b = .int j/\C i j/\l = .int (g i j):=by
 unfold IZ at h;split at h
 ·split at h
  ·cases h;exact⟨_,_,rfl,rfl,by assumption,rfl⟩
  ·cases h
 ·cases h
theorem FA(g:Int->Int->Int):RB K (Io fun i j=>.int (g i j)) (gI g):=fun H x y a b l fa fb ha hb e Q k=>by
 obtain⟨i,j,rfl,rfl,rfl⟩:=Ha e
 exact⟨i,j,ha.int_inv.1,hb.int_inv.1,k _ H [] (Same.refl H) (Is.int _) fun p hp=>by simp at hp⟩
theorem Oe(g:Int->Int->Bool):RB K (Io fun i j=>.bl (g i j)) (gB g):=fun H x y a b l fa fb ha hb e Q k=>by
 obtain⟨i,j,rfl,rfl,rfl⟩:=Hb e
 exact⟨i,j,ha.int_inv.1,hb.int_inv.1,k _ H [] (Same.refl H) (Is.bl _) fun p hp=>by simp at hp⟩
theorem MA(C:Int->Int->Prop)[∀i j,Decidable (C i j)](g:Int->Int->Int):RB K (rI C fun i j=>.int (g i j)) (IZ C g):=fun H x y a b l fa fb ha hb e Q k=>by
 obtain⟨i,j,rfl,rfl,c,rfl⟩:=KW e
 exact⟨i,j,ha.int_inv.1,hb.int_inv.1,c,k _ H [] (Same.refl H) (Is.int _) fun p hp=>by simp at hp⟩
instance (i j:Int):Decidable (CMul i j):=by unfold CMul;infer_instance
instance (i j:Int):Decidable (Vw i j):=by unfold Vw;infer_instance
instance (i j:Int):Decidable (Gu i j):=by unfold Gu;infer_instance
instance (i j:Int):Decidable (EK i j):=by unfold EK;infer_instance
abbrev ZD:=gI (· + ·)
abbrev Xd:=gI (· - ·)
abbrev Xo:=IZ CMul (· * ·)
abbrev Xp:=IZ Vw (· / ·)
abbrev ZX:=IZ (fun _ j=>0<j) (· % ·)
abbrev KY:=IZ (fun _ j=>0<=j) (fun i j=>i/2^j.toNat)
abbrev Hd:=gI Builtin.bitAnd
abbrev UG:=gB (fun i j=>decide (i<j))
abbrev FC:=gB (fun i j=>decide (i<=j))
abbrev UH:=gB (fun i j=>decide (j<i))
section
variable {X:Cx} {a b:Expr} {fa fb:XE} {pos:Pos}
theorem Z1(ha:VE X a fa)(hb:VE X b fb):VE X (.BinOp a .Add b pos) (Zf ZD fa fb):=Wc Fb (FA _) ha hb
theorem VB(ha:VE X a fa)(hb:VE X b fb):VE X (.BinOp a .Sub b pos) (Zf Xd fa fb):=Wc Fc (FA _) ha hb
theorem UI(ha:VE X a fa)(hb:VE X b fb):VE X (.BinOp a .Mult b pos) (Zf Xo fa fb):=Wc Fd (MA _ _) ha hb
theorem Xk(ha:VE X a fa)(hb:VE X b fb):VE X (.BinOp a .FloorDiv b pos) (Zf Xp fa fb):=Wc Iz (MA _ _) ha hb
theorem Y2(ha:VE X a fa)(hb:VE X b fb):VE X (.BinOp a .Mod b pos) (Zf ZX fa fb):=Wc Fe (MA _ _) ha hb
theorem FD(ha:VE X a fa)(hb:VE X b fb):VE X (.BinOp a .RShift b pos) (Zf KY fa fb):=Wc Ff (MA _ _) ha hb
theorem He(ha:VE X a fa)(hb:VE X b fb):VE X (.BinOp a .BitAnd b pos) (Zf Hd fa fb):=Wc Fg (FA _) ha hb
theorem E1(ha:VE X a fa)(hb:VE X b fb):VE X (.Compare a [.Lt] [b] pos) (Zf UG fa fb):=S8 Mn (Oe _) ha hb (Vx _)
theorem KZ(ha:VE X a fa)(hb:VE X b fb):VE X (.Compare a [.Gt] [b] pos) (Zf UH fa fb):=S8 Gw (Oe _) ha hb (Vx _)
end
def ZK:PV->PV->Option PV
 | .lst l,.int i=>Sz l i
 | .cst l,.int i=>Sz l i
 | .tup l,.int i=>Sz l i
 | .str z,.int i=>if z.length<=sizeLine then(Sz z.cps.toList i).map fun c=>.str ⟨#[c]⟩ else none
 | _,_=>none
theorem Ny{l:List PV}{xs:List V}{H:Hp}{fp:List Addr}{i:Int}{a:PV}(h:Iss K H l xs fp)(e:Sz l i=some a):∃x f1,Sz xs i=some x/\Is K H a x f1/\∀p∈f1,p∈fp:=by
 unfold Sz at e ⊢
 rw[h.len]
 cases q:Nj l.length i with
 | none=>rw[q] at e;cases e
 | some j=>rw[q] at e;exact h.get e
theorem E2:RB K (Co K) ZK:=fun H x y a b l fa fb ha hb e Q k=>by
 unfold ZK at e;split at e
 ·obtain⟨p,xs,fq,rfl,hp,hi,rfl⟩:=ha.lst_inv
  obtain⟨z,f1,h1,h2,h3⟩:=Ny hi e
  exact .inl ⟨p,xs,_,z,rfl,hb.int_inv.1,SqL.of hp,h1,k z H f1 (Same.refl H) h2 fun q hq=>.inl (List.mem_cons_of_mem _ (h3 q hq))⟩
 ·obtain⟨p,xs,rfl,hp,hi⟩:=ha.cst_inv
  obtain⟨z,f1,h1,h2,h3⟩:=Ny hi e
  exact .inl ⟨p,xs,_,z,rfl,hb.int_inv.1,hp.sq,h1,k z H f1 (Same.refl H) h2 fun q hq=>.inl (h3 q hq)⟩
 ·obtain⟨p,xs,rfl,hp,hi⟩:=ha.tup_inv
  obtain⟨z,f1,h1,h2,h3⟩:=Ny hi e
  exact .inr (.inl ⟨p,xs,_,z,rfl,hb.int_inv.1,SqT.of hp,h1,k z H f1 (Same.refl H) h2 fun q hq=>.inl (h3 q hq)⟩)
 ·split at e
  ·cases q:Sz _ _ with
   | none=>rw[q] at e;cases e
   | some c=>
    rw[q] at e;cases e
    exact .inr (.inr ⟨_,_,c,ha.str_inv.1,hb.int_inv.1,by assumption,q,k _ H [] (Same.refl H) (Is.str _) fun p hp=>by simp at hp⟩)
  ·cases e
 ·cases e
section
variable {X:Cx} {a b:Expr} {fa fb:XE} {pos:Pos}
theorem ZF(ha:VE X a fa)(hb:VE X b fb)(hs:Q0 b:=by exact fun _ _=>rfl):VE X (.Subscript a b pos) (Zf ZK fa fb):=EZ Fp E2 ha hb hs
end
abbrev XT:=ZP->Option Bool
def Nk(K:PySem.W.Frag)(f:XT):TT:=fun σ H Q=>∃(Rm:Addr->Prop) (s:ZP) (c:Bool),(∀p,Rm p->W3 (H p))/\EnvIs K Rm H s σ/\f s=some c/\∀H',Same H H'->Q c H'
def VT(X:Cx)(e:Expr)(f:XT):Prop:=PT X e (Nk X.K f)
def VW(X:Cx)(e:Expr)(f:XT):Prop:=PW X e (Nk X.K f)
section
variable {X:Cx} {e:Expr} {f:XT}
theorem PT.imp{t t':TT}(h:PT X e t)(i:∀σ H Q,t' σ H Q->t σ H Q):PT X e t':=fun pins s σ H Q I q=>h pins s σ H Q I (i σ H Q q)
theorem PW.imp{t t':TT}(h:PW X e t)(i:∀σ H Q,t' σ H Q->t σ H Q):PW X e t':=fun whole pins s σ H Q I q=>h whole pins s σ H Q I (i σ H Q q)
theorem VW.vt(h:VW X e f):VT X e f:=PW.pt h
end
def xB(f:XE):XT:=fun s=>match f s with | some (.bl c)=>some c | _=>none
theorem SD{f:XE}{s:ZP}{c:Bool}(h:xB f s=some c):f s=some (.bl c):=by
 unfold xB at h;split at h
 ·cases h;assumption
 ·cases h
section
variable {X:Cx} {a b c:Expr} {Yh:List Expr} {fa fb:XE} {ga gb:XT} {pos:Pos}
theorem Xe(h:VE X a fa)(he:∀whole,isTrue a X.env whole=(do let v <-whole;standAt a.pos;holding [v] (truthy v)):=by intro _;rfl):VT X a (xB fa):=
 PT.imp (GV h he) fun σ H Q ⟨Rm,s,c,hd,env,e,k⟩=>⟨Rm,s,.bl c,hd,env,SD e,fun v H' fp sm i n=>⟨c,i.bl_inv.1,k H' sm⟩⟩
theorem K0:∀σ H Q,Nk K (xB fa) σ H Q->Mo (tF K fa) σ H Q:=fun σ H Q ⟨Rm,s,c,hd,env,e,k⟩=>⟨Rm,s,.bl c,hd,env,SD e,fun v H' fp sm i n=>⟨c,i.bl_inv.1,k H' sm⟩⟩
theorem Nz{t t':TE}(i:∀σ H Q,t' σ H Q->t σ H Q):∀σ H Q,Mo t' σ H Q->Mo t σ H Q:=fun σ H Q h=>i σ H _ h
theorem S9{op:CmpOp}{r:R2}{g:PV->PV->Option PV}(ho:UB X (compareOp op) r)(hr:RB X.K r g)(ha:VE X a fa)(hb:VE X b fb)(hm:behindInMarks op b=false):VT X (.Compare a [op] [b] pos) (xB (Zf g fa fb)):=
 PT.imp (IB ho ha hb hm) fun σ H Q h=>Nz (Mz hr) σ H Q (K0 σ H Q h)
theorem K1(ha:VE X a fa)(hb:VE X b fb):VT X (.Compare a [.Lt] [b] pos) (xB (Zf UG fa fb)):=S9 Mn (Oe _) ha hb (Vx _)
theorem K2(ha:VE X a fa)(hb:VE X b fb):VT X (.Compare a [.Gt] [b] pos) (xB (Zf UH fa fb)):=S9 Gw (Oe _) ha hb (Vx _)
def R1(a b:XT):XT:=fun s=>(a s).bind fun c=>if c=true then b s else some false
def UR(a b:XT):XT:=fun s=>(a s).bind fun c=>if c=true then some true else b s
def YW(a:XT):XT:=fun s=>(a s).map not
theorem Hf:∀σ H Q,Nk K (R1 ga gb) σ H Q->Ey (Nk K ga) (Nk K gb) σ H Q:=fun σ H Q ⟨Rm,s,c,hd,env,e,k⟩=>by
 unfold R1 at e
 cases q:ga s with
 | none=>rw[q] at e;cases e
 | some d=>
  rw[q] at e
  refine⟨Rm,s,d,hd,env,q,fun H1 s1=>?_⟩
  cases d with
  | true=>
   simp only[Option.bind_some,if_true] at e;rw[if_pos rfl]
   exact⟨Rm,s,c,fun p hp=>Same.mut s1 (hd p hp),env.mono s1,e,fun H2 s2=>k H2 (s1.trans s2)⟩
  | false=>
   simp only[Option.bind_some,Bool.false_eq_true,if_false] at e;cases e;rw[if_neg Bool.false_ne_true]
   exact k H1 s1
theorem FE:∀σ H Q,Nk K (UR ga gb) σ H Q->Cj (Nk K ga) (Nk K gb) σ H Q:=fun σ H Q ⟨Rm,s,c,hd,env,e,k⟩=>by
 unfold UR at e
 cases q:ga s with
 | none=>rw[q] at e;cases e
 | some d=>
  rw[q] at e
  refine⟨Rm,s,d,hd,env,q,fun H1 s1=>?_⟩
  cases d with
  | true=>
   simp only[Option.bind_some,if_true] at e;cases e;rw[if_pos rfl]
   exact k H1 s1
  | false=>
   simp only[Option.bind_some,Bool.false_eq_true,if_false] at e;rw[if_neg Bool.false_ne_true]
   exact⟨Rm,s,c,fun p hp=>Same.mut s1 (hd p hp),env.mono s1,e,fun H2 s2=>k H2 (s1.trans s2)⟩
theorem Q4(ha:VT X a ga):VW X (.BoolOp .And [a] pos) ga:=Iv ha
theorem W9(ha:VT X a ga):VW X (.BoolOp .Or [a] pos) ga:=GW ha
theorem NA(ha:VT X a ga)(hb:VW X (.BoolOp .And (b::Yh) pos) gb):VW X (.BoolOp .And (a::b::Yh) pos) (R1 ga gb):=PW.imp (GX ha hb) Hf
theorem Uu(ha:VT X a ga)(hb:VW X (.BoolOp .Or (b::Yh) pos) gb):VW X (.BoolOp .Or (a::b::Yh) pos) (UR ga gb):=PW.imp (Ez ha hb) FE
theorem XZ(ha:VT X a ga):VT X (.UnaryOp .Not a pos) (YW ga):=PT.imp (GY ha) fun σ H Q ⟨Rm,s,c,hd,env,e,k⟩=>by
 unfold YW at e
 cases q:ga s with
 | none=>rw[q] at e;cases e
 | some d=>rw[q] at e;cases e;exact⟨Rm,s,d,hd,env,q,k⟩
end
section
variable {X:Cx} {a b c:Expr} {Yh:List Expr} {fa fb:XE} {gc:XT} {pos:Pos}
def VC(a b:XE):XE:=fun s=>(xB a s).bind fun c=>if c=true then b s else some (.bl false)
def CB(a b:XE):XE:=fun s=>(xB a s).bind fun c=>if c=true then some (.bl true) else b s
def Hg(a:XE):XE:=fun s=>(xB a s).map fun c=>.bl !c
def Nl(c:XT)(a b:XE):XE:=fun s=>(c s).bind fun k=>if k=true then a s else b s
theorem NB{op}(h:VE X a fa):VE X (.BoolOp op [a] pos) fa:=GZ h
theorem Q5(ha:VE X a fa)(hb:VE X (.BoolOp .And (b::Yh) pos) fb):VE X (.BoolOp .And (a::b::Yh) pos) (VC fa fb):=PE.imp (G0 ha hb) fun σ H Q ⟨Rm,s,l,hd,env,e,k⟩=>by
 unfold VC at e
 cases q:xB fa s with
 | none=>rw[q] at e;cases e
 | some d=>
  rw[q] at e
  refine⟨Rm,s,.bl d,hd,env,SD q,fun v H1 fp s1 i1 _=>⟨d,i1.bl_inv.1,?_⟩⟩
  cases d with
  | true=>
   simp only[Option.bind_some,if_true] at e;rw[if_pos rfl]
   exact⟨Rm,s,l,fun p hp=>Same.mut s1 (hd p hp),env.mono s1,e,fun v2 H2 fp2 s2 i2 n2=>k v2 H2 fp2 (s1.trans s2) i2 n2⟩
  | false=>
   simp only[Option.bind_some,Bool.false_eq_true,if_false] at e;cases e;rw[if_neg Bool.false_ne_true]
   exact k _ H1 [] s1 (Is.bl false) fun p hp=>by simp at hp
theorem FF(ha:VE X a fa):VE X (.UnaryOp .Not a pos) (Hg fa):=PE.imp (G1 ha) fun σ H Q ⟨Rm,s,l,hd,env,e,k⟩=>by
 unfold Hg at e
 cases q:xB fa s with
 | none=>rw[q] at e;cases e
 | some d=>
  rw[q] at e;cases e
  exact⟨Rm,s,.bl d,hd,env,SD q,fun v H1 fp s1 i1 _=>⟨d,i1.bl_inv.1,k _ H1 [] s1 (Is.bl _) fun p hp=>by simp at hp⟩⟩
theorem MB(hc:VT X c gc)(ha:VE X a fa)(hb:VE X b fb):VE X (.IfExp c a b pos) (Nl gc fa fb):=PE.imp (Kp hc ha hb) fun σ H Q ⟨Rm,s,l,hd,env,e,k⟩=>by
 unfold Nl at e
 cases q:gc s with
 | none=>rw[q] at e;cases e
 | some d=>
  rw[q] at e
  refine⟨Rm,s,d,hd,env,q,fun H1 s1=>?_⟩
  cases d with
  | true=>
   simp only[Option.bind_some,if_true] at e;rw[if_pos rfl]
   exact⟨Rm,s,l,fun p hp=>Same.mut s1 (hd p hp),env.mono s1,e,fun v2 H2 fp2 s2 i2 n2=>k v2 H2 fp2 (s1.trans s2) i2 n2⟩
  | false=>
   simp only[Option.bind_some,Bool.false_eq_true,if_false] at e;rw[if_neg Bool.false_ne_true]
   exact⟨Rm,s,l,fun p hp=>Same.mut s1 (hd p hp),env.mono s1,e,fun v2 H2 fp2 s2 i2 n2=>k v2 H2 fp2 (s1.trans s2) i2 n2⟩
end
section
variable {X:Cx} {a b c:Expr} {fa fb fc:XE} {pos:Pos}
def E3(neg:Bool):PV->Option PV
 | .non=>some (.bl !neg)
 | _=>some (.bl neg)
def D9(neg:Bool)(a:XE):XE:=fun s=>(a s).bind (E3 neg)
def FG:PV->Option PV
 | .int i=>some (.int (-i))
 | _=>none
def Uo(g:PV->Option PV)(a:XE):XE:=fun s=>(a s).bind g
theorem FH(ha:VE X a fa):VE X (.UnaryOp .USub a pos) (Uo FG fa):=PE.imp (EJ Fh ha) fun σ H Q ⟨Rm,s,l,hd,env,e,k⟩=>by
 unfold Uo at e
 cases q:fa s with
 | none=>rw[q] at e;cases e
 | some m=>
  rw[q] at e;simp only[Option.bind_some] at e;unfold FG at e
  split at e
  ·cases e
   exact⟨Rm,s,_,hd,env,q,fun v H1 fp s1 i1 _=>⟨_,i1.int_inv.1,k _ H1 [] s1 (Is.int _) fun p hp=>by simp at hp⟩⟩
  ·cases e
end
end VL
namespace VL
open PySem PySem.Spec PyProof.Rows L2
variable {K:PySem.W.Frag}
def UZ:List XE->ZP->Option (List PV)
 | [],_=>some []
 | f::fs,s=>(f s).bind fun x=>(UZ fs s).map (x::·)
theorem Ra{f:XE}{fs:List XE}{s:ZP}{ls:List PV}(h:UZ (f::fs) s=some ls):∃x r,f s=some x/\UZ fs s=some r/\ls=x::r:=by
 unfold UZ at h
 cases q:f s with
 | none=>rw[q] at h;cases h
 | some x=>cases q2:UZ fs s with
  | none=>rw[q,q2] at h;cases h
  | some r=>rw[q,q2] at h;cases h;exact⟨x,r,rfl,rfl,rfl⟩
theorem V4:∀{fs:List XE}{s:ZP}{ls:List PV},UZ fs s=some ls->ls.length=fs.length
 | [],_,_,h=>by cases h;rfl
 | f::fs,s,ls,h=>by
  obtain⟨x,r,_,h2,rfl⟩:=Ra h
  rw[List.length_cons,List.length_cons,V4 h2]
def Ca(K:PySem.W.Frag)(fs:List XE):TA:=fun σ H Q=>∃(Rm:Addr->Prop) (s:ZP) (ls:List PV),(∀p,Rm p->W3 (H p))/\EnvIs K Rm H s σ/\UZ fs s=some ls/\∀vs H' fp,Same H H'->Iss K H' ls vs fp->(∀p∈fp,¬Rm p)->Q vs H'
def CC(K:PySem.W.Frag)(fs:List XE):TA:=fun σ H Q=>∃(s:ZP) (ls:List PV),EnvIs K (fun _=>False) H s σ/\UZ fs s=some ls/\∀vs H' fp,Same H H'->Iss K H' ls vs fp->fp.Nodup->(∀p∈fp,H p=none/\W3 (H' p))->Q vs H'
def VA(X:Cx)(es:List Expr)(fs:List XE):Prop:=PA X es (Ca X.K fs)
def DE(X:Cx)(es:List Expr)(fs:List XE):Prop:=PA X es (CC X.K fs)
section
variable {X:Cx} {e:Expr} {es:List Expr} {f:XE} {fs:List XE} {pos:Pos} {k:Nat}
theorem PA.imp{t t':TA}(h:PA X es t)(i:∀σ H Q,t' σ H Q->t σ H Q):PA X es t':=fun pos pins s σ H Q I q=>h pos pins s σ H Q I (i σ H Q q)
theorem Ze:VA X [] []:=PA.imp XX fun σ H Q ⟨Rm,s,ls,hd,env,e,k⟩=>by
 cases e
 exact k [] H [] (Same.refl H) Iss.nil fun p hp=>by simp at hp
theorem Zb(ha:VE X e f)(hr:VA X es fs)(hs:starEach (e::es) X.env=(false,eval e X.env)::starEach es X.env:=by rfl):VA X (e::es) (f::fs):=PA.imp (YE ha hr hs) fun σ H Q ⟨Rm,s,ls,hd,env,e,k⟩=>by
 obtain⟨x',r',h1,h2,rfl⟩:=Ra e
 refine⟨Rm,s,x',hd,env,h1,fun x H1 f1 s1 i1 n1=>⟨Rm,s,r',fun p hp=>Same.mut s1 (hd p hp),env.mono s1,h2,fun xs H2 f2 s2 i2 n2=>?_⟩⟩
 refine k _ H2 (f1++f2) (s1.trans s2) (Iss.cons (i1.mono s2) i2) fun p hp=>?_
 rcases List.mem_append.mp hp with h | h
 ·exact n1 p h
 ·exact n2 p h
theorem Wf:DE X [] []:=PA.imp XX fun σ H Q ⟨s,ls,env,e,k⟩=>by
 cases e
 exact k [] H [] (Same.refl H) Iss.nil List.nodup_nil fun p hp=>by simp at hp
theorem U0(ha:VM X e f)(hr:DE X es fs)(hs:starEach (e::es) X.env=(false,eval e X.env)::starEach es X.env:=by rfl):DE X (e::es) (f::fs):=PA.imp (YE ha hr hs) fun σ H Q ⟨s,ls,env,e,k⟩=>by
 obtain⟨x',r',h1,h2,rfl⟩:=Ra e
 refine⟨s,x',env,h1,fun x H1 f1 s1 i1 d1 n1=>⟨s,r',env.mono s1,h2,fun xs H2 f2 s2 i2 d2 n2=>?_⟩⟩
 refine k _ H2 (f1++f2) (s1.trans s2) (Iss.cons (i1.mono s2) i2) ?_ fun p hp=>?_
 ·refine List.nodup_append.mpr ⟨d1,d2,fun a ha b hb z=>?_⟩
  subst z
  exact Xj (n1 a ha).2 (n2 a hb).1
 ·rcases List.mem_append.mp hp with h | h
  ·exact⟨(n1 p h).1,Same.mut s2 (n1 p h).2⟩
  ·exact⟨Same.off s1 (n2 p h).1,(n2 p h).2⟩
def Xh(fs:List XE):XE:=fun s=>(UZ fs s).map .tup
def YC(fs:List XE):XE:=fun s=>(UZ fs s).map .lst
theorem map_some{α β:Type}{o:Option α}{g:α->β}{b:β}(h:o.map g=some b):∃a,o=some a/\b=g a:=by
 cases o with
 | none=>cases h
 | some a=>cases h;exact⟨a,rfl,rfl⟩
theorem VD(h:VA X es fs)(hl:fs.length<=1000:=by decide):VE X (.Tuple es k pos) (Xh fs):=PE.imp (Kw h) fun σ H Q ⟨Rm,s,l,hd,env,e,q⟩=>by
 obtain⟨ls,e1,rfl⟩:=map_some e
 refine⟨Rm,s,ls,hd,env,e1,fun vs H1 fp s1 i1 n1=>⟨?_,fun p hp=>?_⟩⟩
 ·rw[i1.len,V4 e1];exact Nat.le_of_lt (lt_size (by omega))
 ·exact q _ _ fp (s1.trans (Same.new hp _)) (Is.tup Zs (i1.mono (Same.new hp _))) n1
theorem VF(h:VA X es fs)(hl:fs.length<=1000:=by decide):VE X (.List es pos) (YC fs):=PE.imp (Kx h) fun σ H Q ⟨Rm,s,l,hd,env,e,q⟩=>by
 obtain⟨ls,e1,rfl⟩:=map_some e
 refine⟨Rm,s,ls,hd,env,e1,fun vs H1 fp s1 i1 n1=>⟨?_,fun p hp=>?_⟩⟩
 ·rw[i1.len,V4 e1];exact Nat.le_of_lt (lt_size (by omega))
 ·refine q _ _ (p::fp) (s1.trans (Same.new hp _)) (Is.lst Zs (i1.mono (Same.new hp _))) fun a ha z=>?_
  rcases List.mem_cons.mp ha with rfl | ha
  ·exact Xj (Same.mut s1 (hd a z)) hp
  ·exact n1 a ha z
theorem Va(h:DE X es fs)(hl:fs.length<=1000:=by decide):VM X (.List es pos) (YC fs):=PE.imp (Kx h) fun σ H Q ⟨s,l,env,e,q⟩=>by
 obtain⟨ls,e1,rfl⟩:=map_some e
 refine⟨s,ls,env,e1,fun vs H1 fp s1 i1 d1 n1=>⟨?_,fun p hp=>?_⟩⟩
 ·rw[i1.len,V4 e1];exact Nat.le_of_lt (lt_size (by omega))
 ·refine q _ _ (p::fp) (s1.trans (Same.new hp _)) (Is.lst Zs (i1.mono (Same.new hp _))) (List.nodup_cons.mpr ⟨fun z=>Xj (n1 p z).2 hp,d1⟩) fun a ha=>?_
  rcases List.mem_cons.mp ha with rfl | ha
  ·exact⟨Same.off s1 hp,by rw[Zs];exact True.intro⟩
  ·exact⟨(n1 a ha).1,Same.mut (Same.new hp _) (n1 a ha).2⟩
end
def Y8(K:PySem.W.Frag)(D:List PV->Option PV)(n:Nat):Sp:=fun vs H Q _=>vs.length=n/\∃ls fp l,Iss K H ls vs fp/\D ls=some l/\∀v H' fq,Same H H'->Is K H' l v fq->fq.Nodup->(∀p∈fq,H p=none/\W3 (H' p))->Q v H'
def Zc(D:List PV->Option PV)(fs:List XE):XE:=fun s=>(UZ fs s).bind D
theorem Zg{α β:Type}{o:Option α}{g:α->Option β}{b:β}(h:o.bind g=some b):∃a,o=some a/\g a=some b:=by
 cases o with
 | none=>cases h
 | some a=>exact⟨a,rfl,h⟩
section
variable {X:Cx} {x:Str} {ps:List Str} {k:Nat} {e:Expr} {es:List Expr} {fs:List XE} {p pos:Pos}
theorem Zt{D:List PV->Option PV}{n:Nat}(C:XA X.prog X.w X.K X.mg X.base x ps (Y8 X.K D n) k)(hr:Room k X.A)(hg:Gl X x)(ha:VA X (e::es) fs)(hn:fs.length=n:=by rfl)
  (hdb:(x==("__debug__" : Str))=false:=by decide) (he:starEach (e::es) X.env=(false,eval e X.env)::starEach es X.env:=by rfl) (hpl:(backTo pos (starEach es X.env)).any (·.1)=false:=by rfl) :
  VM X (.Call (.Name x p) (e::es) [] pos) (Zc D fs):=PE.imp (Fx C hr hg ha hdb he hpl) fun σ H Q ⟨s,l,env,e,q⟩=>by
 obtain⟨ls,e1,e2⟩:=Zg e
 refine⟨fun _=>False,s,ls,fun _ z=>z.elim,env,e1,fun vs H1 fp s1 i1 n1=>?_⟩
 show Y8 X.K D n (vs++[]) H1 Q E0
 rw[List.append_nil]
 exact⟨by rw[i1.len,V4 e1,hn],ls,fp,l,i1,e2,fun v H2 fq s2 i2 d2 n2=>q v H2 fq (s1.trans s2) i2 d2 fun a ha=>⟨Same.off s1 (n2 a ha).1,(n2 a ha).2⟩⟩
end
def RC(K:PySem.W.Frag)(r:List V->Hp->VK->Prop)(g:List PV->Option PV):Prop:=∀(H:Hp)(vs:List V)(ls:List PV)(l:PV)(fp:List Addr),Iss K H ls vs fp->g ls=some l->∀Q:VK,
 (∀v H' fq,Same H H'->Is K H' l v fq->(∀p∈fq,p∈fp\/H p=none)->Q v H')->r vs H Q
def Eo(K:PySem.W.Frag)(r:List V->Hp->VK->Prop)(g:List PV->Option PV):Prop:=∀(H:Hp)(vs:List V)(ls:List PV)(l:PV)(fp:List Addr),Iss K H ls vs fp->g ls=some l->∀Q:VK,
 (∀v H' fq,Same H H'->Is K H' l v fq->fq.Nodup->(∀p∈fq,H p=none/\W3 (H' p))->Q v H')->r vs H Q
theorem Gz{r:List V->Hp->VK->Prop}{g:List PV->Option PV}{fs:List XE}(hr:RC K r g):∀σ H Q,tF K (Zc g fs) σ H Q->Dx r (Ca K fs) σ H Q:=fun σ H Q ⟨Rm,s,l,hd,env,e,k⟩=>by
 obtain⟨ls,e1,e2⟩:=Zg e
 refine⟨Rm,s,ls,hd,env,e1,fun vs H1 fp s1 i1 n1=>hr H1 vs ls l fp i1 e2 Q fun v H2 fq s2 i2 n2=>k v H2 fq (s1.trans s2) i2 fun p hp z=>?_⟩
 rcases n2 p hp with h | h
 ·exact n1 p h z
 ·exact Xj (Same.mut s1 (hd p z)) h
theorem GA{r:List V->Hp->VK->Prop}{g:List PV->Option PV}{fs:List XE}(hr:Eo K r g):∀σ H Q,tM K (Zc g fs) σ H Q->Dx r (Ca K fs) σ H Q:=fun σ H Q ⟨s,l,env,e,k⟩=>by
 obtain⟨ls,e1,e2⟩:=Zg e
 exact⟨fun _=>False,s,ls,fun _ z=>z.elim,env,e1,fun vs H1 fp s1 i1 n1=>hr H1 vs ls l fp i1 e2 Q fun v H2 fq s2 i2 d2 n2=>k v H2 fq (s1.trans s2) i2 d2 fun p hp=>⟨Same.off s1 (n2 p hp).1,(n2 p hp).2⟩⟩
section
variable {X:Cx} {x:Str} {k:Nat} {e:Expr} {es:List Expr} {fs:List XE} {p pos:Pos} {id T:String} {r:List V->Hp->VK->Prop} {g:List PV->Option PV}
theorem Zp(hc:XQ X (.builtin id) r)(hr:RC X.K r g)(hg:Gl X x)(hm:X.mg x=none)(hv:bootBuiltins x=some (.builtin id))(ha:VA X (e::es) fs)(hn:x≠"__name__":=by decide)(hdb:(x==("__debug__" : Str))=false:=by decide)
  (he:starEach (e::es) X.env=(false,eval e X.env)::starEach es X.env:=by rfl) (hpl:(backTo pos (starEach es X.env)).any (·.1)=false:=by rfl):VE X (.Call (.Name x p) (e::es) [] pos) (Zc g fs):=
 PE.imp (UT hc hg hm hv ha hn hdb he hpl) (Gz hr)
theorem Rb(hc:XQ X (.builtin id) r)(hr:Eo X.K r g)(hg:Gl X x)(hm:X.mg x=none)(hv:bootBuiltins x=some (.builtin id))(ha:VA X (e::es) fs)(hn:x≠"__name__":=by decide)(hdb:(x==("__debug__" : Str))=false:=by decide)
  (he:starEach (e::es) X.env=(false,eval e X.env)::starEach es X.env:=by rfl) (hpl:(backTo pos (starEach es X.env)).any (·.1)=false:=by rfl):VM X (.Call (.Name x p) (e::es) [] pos) (Zc g fs):=
 PE.imp (UT hc hg hm hv ha hn hdb he hpl) (GA hr)
theorem Ya(hc:XQ X (.type T) r)(hr:RC X.K r g)(hg:Gl X x)(hm:X.mg x=none)(hv:bootBuiltins x=some (.type T))(ha:VA X (e::es) fs)(hn:x≠"__name__":=by decide)(hdb:(x==("__debug__" : Str))=false:=by decide)
  (he:starEach (e::es) X.env=(false,eval e X.env)::starEach es X.env:=by rfl) (hpl:(backTo pos (starEach es X.env)).any (·.1)=false:=by rfl):VE X (.Call (.Name x p) (e::es) [] pos) (Zc g fs):=
 PE.imp (Qj hc hg hm hv ha hn hdb he hpl) (Gz hr)
theorem Qu(hc:XQ X (.type T) r)(hr:Eo X.K r g)(hg:Gl X x)(hm:X.mg x=none)(hv:bootBuiltins x=some (.type T))(ha:VA X (e::es) fs)(hn:x≠"__name__":=by decide)(hdb:(x==("__debug__" : Str))=false:=by decide)
  (he:starEach (e::es) X.env=(false,eval e X.env)::starEach es X.env:=by rfl) (hpl:(backTo pos (starEach es X.env)).any (·.1)=false:=by rfl):VM X (.Call (.Name x p) (e::es) [] pos) (Zc g fs):=
 PE.imp (Qj hc hg hm hv ha hn hdb he hpl) (GA hr)
end
theorem Iss.one_inv{H:Hp}{l:PV}{vs:List V}{fp:List Addr}(h:Iss K H [l] vs fp):∃v,vs=[v]/\Is K H l v fp:=by
 obtain⟨x,r,f1,f2,rfl,a,b,rfl⟩:=h.inv
 simp only[Iss] at b
 rw[b.1,b.2,List.append_nil];exact⟨x,rfl,a⟩
theorem Iss.two_inv{H:Hp}{l m:PV}{vs:List V}{fp:List Addr}(h:Iss K H [l,m] vs fp):∃v w f1 f2,vs=[v,w]/\Is K H l v f1/\Is K H m w f2/\fp=f1++f2:=by
 obtain⟨x,r,f1,f2,rfl,a,b,rfl⟩:=h.inv
 obtain⟨y,rfl,c⟩:=b.one_inv
 exact⟨x,y,f1,f2,rfl,a,c,rfl⟩
def Of:PV->Option (List PV)
 | .lst l=>some l
 | .cst l=>some l
 | .tup l=>some l
 | _=>none
theorem U1{H:Hp}{l:PV}{v:V}{fp:List Addr}{m:List PV}(h:Is K H l v fp)(e:Of l=some m):∃p xs fq,v = .ref p/\(SqL K H p xs\/SqT K H p xs)/\Iss K H m xs fq/\∀q∈fq,q∈fp:=by
 cases l with
 | lst l=>
  cases e
  obtain⟨p,xs,fq,rfl,hp,hi,rfl⟩:=h.lst_inv
  exact⟨p,xs,fq,rfl,.inl (SqL.of hp),hi,fun q hq=>List.mem_cons_of_mem _ hq⟩
 | cst l=>
  cases e
  obtain⟨p,xs,rfl,hp,hi⟩:=h.cst_inv
  exact⟨p,xs,fp,rfl,.inl hp.sq,hi,fun q hq=>hq⟩
 | tup l=>
  cases e
  obtain⟨p,xs,rfl,hp,hi⟩:=h.tup_inv
  exact⟨p,xs,fp,rfl,.inr (SqT.of hp),hi,fun q hq=>hq⟩
 | _=>cases e
def Zq:List PV->Option PV
 | [.str z]=>if z.length<=sizeLine then some (.int z.length) else none
 | [l]=>(Of l).map fun m=>.int m.length
 | _=>none
theorem ZL:RC K (fun xs H Q=>∃x n,xs=[x]/\EL K x H n/\Q (.int n) H) Zq:=fun H vs ls l fp h e Q k=>by
 unfold Zq at e
 split at e
 ·split at e
  ·cases e
   obtain⟨v,rfl,i⟩:=h.one_inv
   exact⟨v,_,rfl,by rw[i.str_inv.1];exact⟨by assumption,rfl⟩,k _ H [] (Same.refl H) (Is.int _) fun p hp=>by simp at hp⟩
  ·cases e
 ·obtain⟨m,e1,rfl⟩:=map_some e
  obtain⟨v,rfl,i⟩:=h.one_inv
  obtain⟨p,xs,fq,rfl,hp,hi,_⟩:=U1 (K:=K) i e1
  refine⟨_,xs.length,rfl,?_,?_⟩
  ·rcases hp with hp | hp
   ·exact .inl ⟨xs,hp,rfl⟩
   ·exact .inr ⟨xs,hp,rfl⟩
  ·rw[hi.len]
   exact k _ H [] (Same.refl H) (Is.int _) fun p hp=>by simp at hp
 ·cases e
def Z2:List PV->Option PV
 | [l]=>(Of l).map .tup
 | _=>none
theorem YG:RC K (Fy K) Z2:=fun H vs ls l fp h e Q k=>by
 unfold Z2 at e
 split at e
 ·obtain⟨m,e1,rfl⟩:=map_some e
  obtain⟨v,rfl,i⟩:=h.one_inv
  rename_i l0
  cases l0 with
  | tup l=>
   cases e1
   obtain⟨p,xs,rfl,hp,hi⟩:=id i.tup_inv
   exact⟨p,xs,rfl,.inr ⟨SqT.of hp,k _ H fp (Same.refl H) i fun a ha=>.inl ha⟩⟩
  | lst l=>
   cases e1
   obtain⟨p,xs,fq,rfl,hp,hi,rfl⟩:=i.lst_inv
   exact⟨p,xs,rfl,.inl ⟨SqL.of hp,fun q hq=>k _ _ fq (Same.new hq _) (Is.tup Zs (hi.mono (Same.new hq _))) fun a ha=>.inl (List.mem_cons_of_mem _ ha)⟩⟩
  | cst l=>
   cases e1
   obtain⟨p,xs,rfl,hp,hi⟩:=i.cst_inv
   exact⟨p,xs,rfl,.inl ⟨hp.sq,fun q hq=>k _ _ fp (Same.new hq _) (Is.tup Zs (hi.mono (Same.new hq _))) fun a ha=>.inl ha⟩⟩
  | _=>cases e1
 ·cases e
def Wo:List PV->Option PV
 | [l]=>(Of l).bind fun m=>if ZJ m=true then some (.lst m) else none
 | _=>none
theorem Og:Eo K (IU K) Wo:=fun H vs ls l fp h e Q k=>by
 unfold Wo at e
 split at e
 ·obtain⟨m,e1,e2⟩:=Zg e
  split at e2
  ·cases e2
   obtain⟨v,rfl,i⟩:=h.one_inv
   obtain⟨p,xs,fq,rfl,hp,hi,hs⟩:=U1 (K:=K) i e1
   have:=Iss.pure _ _ _ (by assumption) hi
   subst this
   refine⟨p,xs,rfl,hp,fun q hq=>k _ _ [q] (Same.new hq _) (Is.lst Zs (hi.mono (Same.new hq _))) (by simp) fun a ha=>?_⟩
   rw[List.mem_singleton.mp ha]
   exact⟨hq,by rw[Zs];exact True.intro⟩
  ·cases e2
 ·cases e
def YH:List PV->Option (List Int)
 | []=>some []
 | .int i::r=>(YH r).map (i::·)
 | _=>none
theorem Y3:∀l:List Int,YH (iL l)=some l
 | []=>rfl
 | i::r=>by show(YH (iL r)).map (i::·)=_;rw[Y3 r];rfl
theorem YL:∀{m:List PV}{l:List Int},YH m=some l->m=iL l
 | [],l,h=>by cases h;rfl
 | .int i::r,l,h=>by
  obtain⟨a,e,rfl⟩:=map_some (show(YH r).map (i::·)=some l from h)
  rw[YL e];rfl
 | .non::_,_,h=>by cases h
 | .bl _::_,_,h=>by cases h
 | .str _::_,_,h=>by cases h
 | .ty _::_,_,h=>by cases h
 | .exc _::_,_,h=>by cases h
 | .exf _ _::_,_,h=>by cases h
 | .tup _::_,_,h=>by cases h
 | .lst _::_,_,h=>by cases h
 | .cst _::_,_,h=>by cases h
 | .dK _ _::_,_,h=>by cases h
 | .dT _ _::_,_,h=>by cases h
abbrev bL(l:List Bool):List PV:=l.map PV.bl
def V5:List PV->Option (List Bool)
 | []=>some []
 | .bl i::r=>(V5 r).map (i::·)
 | _=>none
theorem Uv:∀l:List Bool,V5 (bL l)=some l
 | []=>rfl
 | i::r=>by show(V5 (bL r)).map (i::·)=_;rw[Uv r];rfl
theorem U2:∀{m:List PV}{l:List Bool},V5 m=some l->m=bL l
 | [],l,h=>by cases h;rfl
 | .bl i::r,l,h=>by
  obtain⟨a,e,rfl⟩:=map_some (show(V5 r).map (i::·)=some l from h)
  rw[U2 e];rfl
 | .non::_,_,h=>by cases h
 | .int _::_,_,h=>by cases h
 | .str _::_,_,h=>by cases h
 | .ty _::_,_,h=>by cases h
 | .exc _::_,_,h=>by cases h
 | .exf _ _::_,_,h=>by cases h
 | .tup _::_,_,h=>by cases h
 | .lst _::_,_,h=>by cases h
 | .cst _::_,_,h=>by cases h
 | .dK _ _::_,_,h=>by cases h
 | .dT _ _::_,_,h=>by cases h
theorem Iss.bL{H:Hp}:∀{l:List Bool}{xs:List V}{fp:List Addr},Iss K H (VL.bL l) xs fp->xs=l.map V.bl/\fp=[]
 | [],xs,fp,h=>by simpa only[VL.bL,List.map_nil,Iss] using h
 | i::l,xs,fp,h=>by
  obtain⟨x,r,f1,f2,rfl,h1,h2,rfl⟩:=Iss.inv (show Iss K H (PV.bl i::VL.bL l) xs fp from h)
  obtain⟨rfl,rfl⟩:=h1.bl_inv
  obtain⟨rfl,rfl⟩:=h2.bL
  exact⟨rfl,rfl⟩
theorem FI{H:Hp}{p:Addr}{xs:List V}(h:SqL K H p xs\/SqT K H p xs):∃b,Qp b K H p xs:=by
 rcases h with h | h
 ·exact⟨true,h⟩
 ·exact⟨false,h⟩
def Vb:List PV->Option PV
 | [l]=>(Of l).bind fun m=>(V5 m).map fun bs=>.bl (bs.all id)
 | _=>none
theorem TV:RC K (fun xs H Q=>∃(b:Bool) (p:Addr) (bs:List Bool),xs=[.ref p]/\Qp b K H p (bs.map V.bl)/\Q (.bl (bs.all id)) H) Vb:=fun H vs ls l fp h e Q k=>by
 unfold Vb at e
 split at e
 ·obtain⟨m,e1,e2⟩:=Zg e
  obtain⟨ns,e3,rfl⟩:=map_some e2
  obtain⟨v,rfl,i⟩:=h.one_inv
  obtain⟨p,xs,fq,rfl,hp,hi,hs⟩:=U1 (K:=K) i e1
  have em:=U2 e3;subst em
  obtain⟨rfl,rfl⟩:=hi.bL
  obtain⟨b,hb⟩:=FI hp
  exact⟨b,p,ns,rfl,hb,k _ H [] (Same.refl H) (Is.bl _) fun p hp=>by simp at hp⟩
 ·cases e
def E4:List PV->Option PV
 | [.int i,.int j]=>some (.int (if j<i then j else i))
 | _=>none
def U3:List PV->Option PV
 | [.int i,.int j]=>some (.int (if j>i then j else i))
 | _=>none
def VG:List PV->Option PV
 | [.int i]=>some (.int i)
 | [.bl c]=>some (.int (if c then 1 else 0))
 | _=>none
theorem Hh:RC K (fun xs H Q=>∃i j,xs=[.int i,.int j]/\Q (.int (if j>i then j else i)) H) U3:=fun H vs ls l fp h e Q k=>by
 unfold U3 at e
 split at e
 ·cases e
  obtain⟨v,w,f1,f2,rfl,a,b,rfl⟩:=h.two_inv
  exact⟨_,_,by rw[a.int_inv.1,b.int_inv.1],k _ H [] (Same.refl H) (Is.int _) fun p hp=>by simp at hp⟩
 ·cases e
theorem MC:RC K (fun xs H Q=>(∃i,xs=[.int i]/\Q (.int i) H)\/∃k,xs=[.bl k]/\Q (.int (if k then 1 else 0)) H) VG:=fun H vs ls l fp h e Q k=>by
 unfold VG at e
 split at e
 ·cases e
  obtain⟨v,rfl,a⟩:=h.one_inv
  exact .inl ⟨_,by rw[a.int_inv.1],k _ H [] (Same.refl H) (Is.int _) fun p hp=>by simp at hp⟩
 ·cases e
  obtain⟨v,rfl,a⟩:=h.one_inv
  exact .inr ⟨_,by rw[a.bl_inv.1],k _ H [] (Same.refl H) (Is.int _) fun p hp=>by simp at hp⟩
 ·cases e
section
variable {X:Cx} {e:Expr} {es:List Expr} {fs:List XE} {p pos:Pos}
def VH:List PV->Option PV
 | [.int _,.ty "int"]=>some (.bl true)
 | [.int _,.ty "bool"]=>some (.bl false)
 | [.bl _,.ty "bool"]=>some (.bl true)
 | [.tup _,.ty "tuple"]=>some (.bl true)
 | [.lst _,.ty "list"]=>some (.bl true)
 | [.str _,.ty "str"]=>some (.bl true)
 | _=>none
theorem R3:PySem.W.kitOne K (.type "bool") (.type "bool")=some true:=rfl
theorem Q6:RC K (fun xs H Q=>∃x T t b,xs=[x,.ty T]/\TyOf K H x t/\PySem.W.kitOne K t (.type T)=some b/\Q (.bl b) H) VH:=fun H vs ls l fp h e Q k=>by
  have fin:∀b:Bool,l = .bl b->Q (.bl b) H:=fun b z=>by subst z;exact k _ H [] (Same.refl H) (Is.bl _) fun p hp=>by simp at hp
  unfold VH at e
  split at e<;>first
    | (cases e
       obtain⟨v,w,f1,f2,rfl,a,b,rfl⟩:=h.two_inv
       first
         | (obtain⟨rfl,_⟩:=a.int_inv;first
             | exact⟨_,_,_,_,by rw[b.ty_inv.1],TyOf.int _,P9,fin _ rfl⟩
             | exact⟨_,_,_,_,by rw[b.ty_inv.1],TyOf.int _,Q3,fin _ rfl⟩)
         | (obtain⟨rfl,_⟩:=a.bl_inv;exact⟨_,_,_,_,by rw[b.ty_inv.1],TyOf.bl _,R3,fin _ rfl⟩)
         | (obtain⟨rfl,_⟩:=a.str_inv;exact⟨_,_,_,_,by rw[b.ty_inv.1],TyOf.str _,Ob,fin _ rfl⟩)
         | (obtain⟨q,xs,rfl,hp,_⟩:=a.tup_inv;exact⟨_,_,_,_,by rw[b.ty_inv.1],TyOf.tup hp,Oa,fin _ rfl⟩)
         | (obtain⟨q,xs,fq,rfl,hp,_⟩:=a.lst_inv
            exact⟨_,_,_,_,by rw[b.ty_inv.1],TyOf.lst hp,R0,fin _ rfl⟩))
    | cases e
theorem K3{x:Str}{n:String}(hg:Gl X x)(hm:X.mg x=none)(hv:bootBuiltins x=some (.type n))(hn:x≠"__name__":=by decide)(hd:(x==("__debug__" : Str))=false:=by decide):VE X (.Name x pos) (eC (.ty n)):=
 IY (Iu hg hm hv (v:=.ty n) rfl hn hd) fun _=>Is.ty n
end
end VL
namespace VL
open PySem PySem.Spec PyProof.Rows L2
variable {K:PySem.W.Frag}
open Classical in
noncomputable instance:DecidableEq PV:=fun a b=>propDecidable (a=b)
def X6:Nat->PV->PV->Bool
 | _+1,.non,.non=>true
 | _+1,.bl _,.bl _=>true
 | _+1,.int _,.int _=>true
 | _+1,.str _,.str _=>true
 | n+1,.tup l,.tup m=>(l.zip m).all fun z=>X6 n z.1 z.2
 | n+1,.lst l,.lst m=>(l.zip m).all fun z=>X6 n z.1 z.2
 | _,_,_=>false
theorem U4{α β:Type}{p:α×β->Bool}{a:α}{b:β}{l:List α}{m:List β}(h:((a::l).zip (b::m)).all p=true):p (a,b)=true/\(l.zip m).all p=true:=by
 rw[List.zip_cons_cons,List.all_cons,Bool.and_eq_true] at h;exact h
theorem Iss.inj'{n:Nat}{H:Hp}(ih:∀a b v fa fb,X6 n a b=true->Is K H a v fa->Is K H b v fb->a=b):∀{l m:List PV}{xs:List V}{fa fb:List Addr},(l.zip m).all (fun z=>X6 n z.1 z.2)=true->Iss K H l xs fa->Iss K H m xs fb->l=m
 | [],m,xs,fa,fb,_,h,h'=>by
  simp only[Iss] at h
  rw[h.1] at h'
  have:=h'.len
  cases m with
  | nil=>rfl
  | cons _ _=>simp at this
 | a::l,m,xs,fa,fb,hc,h,h'=>by
  obtain⟨x,r,f1,f2,rfl,h1,h2,rfl⟩:=h.inv
  cases m with
  | nil=>have:=h'.len;simp at this
  | cons b m=>
   obtain⟨x',r',g1,g2,e,h3,h4,rfl⟩:=h'.inv
   cases e
   obtain⟨c1,c2⟩:=U4 hc
   rw[ih a b x f1 g1 c1 h1 h3,Iss.inj' ih c2 h2 h4]
theorem Is.inj'{H:Hp}:∀(n:Nat)(a b:PV)(v:V)(fa fb:List Addr),X6 n a b=true->Is K H a v fa->Is K H b v fb->a=b
 | 0,a,b,v,fa,fb,hc,_,_=>by unfold X6 at hc;simp at hc
 | n+1,a,b,v,fa,fb,hc,ha,hb=>by
  cases a<;>cases b<;>first
   | (exfalso;revert hc;unfold X6;simp;done)
   | skip
  ·rfl
  ·rw[ha.bl_inv.1] at hb;have:=hb.bl_inv.1;cases this;rfl
  ·rw[ha.int_inv.1] at hb;have:=hb.int_inv.1;cases this;rfl
  ·rw[ha.str_inv.1] at hb;have:=hb.str_inv.1;cases this;rfl
  ·obtain⟨p,xs,rfl,hp,hi⟩:=ha.tup_inv
   obtain⟨p',ys,e,hp',hi'⟩:=hb.tup_inv
   cases e
   rw[hp] at hp';cases hp'
   unfold X6 at hc;rw[Iss.inj' (Is.inj' n) hc hi hi']
  ·obtain⟨p,xs,fq,rfl,hp,hi,_⟩:=ha.lst_inv
   obtain⟨p',ys,fq',e,hp',hi',_⟩:=hb.lst_inv
   cases e
   rw[hp] at hp';cases hp'
   unfold X6 at hc;rw[Iss.inj' (Is.inj' n) hc hi hi']
section
variable {X:Cx} {pins:List (Addr×Obj)} {σ:Si} {H:Hp} {s:Shared} {A:Around}
theorem NC{n:Nat}(ih:∀a b x y fa fb u w,X6 n a b=true->Is K H a x fa->Is K H b y fb->RelV x u->RelV y w->∃r,SeqAt.EqAt A s u w r/\(r=true↔a=b)) :
  ∀{l m:List PV}{xs ys:List V}{fa fb:List Addr}{us ws:List Value},(l.zip m).all (fun z=>X6 n z.1 z.2)=true->Iss K H l xs fa->Iss K H m ys fb->Vals xs us->Vals ys ws->
  ∃e:Nat->Bool,(∀j (h1:j<us.length) (h2:j<ws.length),SeqAt.EqAt A s us[j] ws[j] (e j))/\((List.range (min us.length ws.length)).all e=true↔l.take (min us.length ws.length)=m.take (min us.length ws.length))
 | [],m,xs,ys,fa,fb,us,ws,_,h,_,r,_=>by
  simp only[Iss] at h
  obtain⟨rfl,_⟩:=h
  cases r
  exact⟨fun _=>true,fun j h1=>by simp at h1,by simp⟩
 | a::l,[],xs,ys,fa,fb,us,ws,_,_,h,_,r=>by
  simp only[Iss] at h
  obtain⟨rfl,_⟩:=h
  cases r
  exact⟨fun _=>true,fun j h1 h2=>by simp at h2,by simp⟩
 | a::l,b::m,xs,ys,fa,fb,us,ws,hc,h,h',r,r'=>by
  obtain⟨x,xr,f1,f2,rfl,h1,h2,rfl⟩:=h.inv
  obtain⟨y,yr,g1,g2,rfl,h3,h4,rfl⟩:=h'.inv
  obtain⟨c1,c2⟩:=U4 hc
  cases r with
  | cons q v=>cases r' with
   | cons q' v'=>
    obtain⟨t,ht,ht'⟩:=ih a b x y f1 g1 _ _ c1 h1 h3 q q'
    obtain⟨e,he,he'⟩:=NC ih c2 h2 h4 v v'
    refine⟨fun j=>match j with | 0=>t | k+1=>e k,fun j h1 h2=>?_,?_⟩
    ·cases j with
     | zero=>exact ht
     | succ k=>exact he k (by simpa using h1) (by simpa using h2)
    ·simp only[List.length_cons,Nat.succ_min_succ,List.range_succ_eq_map,List.all_cons,List.all_map,Bool.and_eq_true,List.take_succ_cons,List.cons.injEq]
     exact and_congr ht' he'
theorem Iss.same'{l m:List PV}{xs ys:List V}{fa fb:List Addr}{us ws:List Value}(h:Iss K H l xs fa)(h':Iss K H m ys fb)(r:Vals xs us)(r':Vals ys ws) :
  (l.take (min us.length ws.length)=m.take (min us.length ws.length)/\us.length=ws.length)↔l=m:=by
 have e1:=h.len;have e2:=h'.len;have e3:=r.length;have e4:=r'.length;constructor
 ·rintro⟨a,b⟩
  rw[List.take_of_length_le (by omega),List.take_of_length_le (by omega)] at a;exact a
 ·intro a
  subst a
  exact⟨rfl,by omega⟩
def GB(A:Around)(s:Shared)(u w:Value)(r:Bool):Prop:=SeqAt.RcAt A s u w r/\SeqAt.RcNeAt A s u w !r
theorem Rc(I:Inv X pins σ H s):∀(n:Nat)(A:Around)(a b:PV)(x y:V)(fa fb:List Addr)(u w:Value),A.units+2*n+2<cLine->X6 n a b=true->Is K H a x fa->Is K H b y fb->RelV x u->RelV y w->
  (∃r,SeqAt.EqAt A s u w r/\(r=true↔a=b))/\∃r,GB A s u w r/\(r=true↔a=b)
 | 0,A,a,b,x,y,fa,fb,u,w,hu,hc,_,_,_,_=>by unfold X6 at hc;simp at hc
 | n+1,A,a,b,x,y,fa,fb,u,w,hu,hc,ha,hb,ru,RO=>by
  cases a<;>cases b<;>first
   | (exfalso;revert hc;unfold X6;simp;done)
   | skip
  ·rw[ha.non_inv.1] at ru;rw[hb.non_inv.1] at RO
   cases ru;cases RO
   exact⟨⟨true,SeqAt.EqAt.same _,by simp⟩,true,⟨SeqAt.RcAt.none_none,SeqAt.RcNeAt.none_none⟩,by simp⟩
  ·rw[ha.bl_inv.1] at ru;rw[hb.bl_inv.1] at RO
   cases ru;cases RO
   exact⟨⟨_,SeqAt.EqAt.bool_bool _ _,by simp⟩,_,⟨SeqAt.RcAt.bool_bool _ _,SeqAt.RcNeAt.bool_bool _ _⟩,by simp⟩
  ·rw[ha.int_inv.1] at ru;rw[hb.int_inv.1] at RO
   obtain⟨t,rfl⟩:=ru
   obtain⟨t',rfl⟩:=RO
   exact⟨⟨_,SeqAt.EqAt.int_int _ _ _ _,by simp⟩,_,⟨SeqAt.RcAt.int_int _ _ _ _,SeqAt.RcNeAt.int_int _ _ _ _⟩,by simp⟩
  ·rw[ha.str_inv.1] at ru;rw[hb.str_inv.1] at RO
   obtain⟨t,rfl⟩:=ru
   obtain⟨t',rfl⟩:=RO
   exact⟨⟨_,SeqAt.EqAt.str_str _ _ _ _,by simp⟩,_,⟨SeqAt.RcAt.str_str _ _ _ _,SeqAt.RcNeAt.str_str _ _ _ _⟩,by simp⟩
  ·rename_i l1 l2
   obtain⟨p,xs,rfl,hp,hi⟩:=id ha.tup_inv
   obtain⟨p',ys,rfl,hp',hi'⟩:=id hb.tup_inv
   cases ru;cases RO;have hc':=hc
   unfold X6 at hc'
   obtain⟨us,rv,q,_⟩:=I.tuple (SqT.of hp)
   obtain⟨ws,rv',q',_⟩:=I.tuple (SqT.of hp')
   obtain⟨f,hf,hf'⟩:=NC (A:=A.in1) (fun a b x y fa fb u w c i1 i2 r1 r2=>(Rc I n A.in1 a b x y fa fb u w (by show A.units+1+2*n+2<cLine;omega) c i1 i2 r1 r2).1) hc' hi hi' rv rv'
   have rc:=SeqAt.RcAt.tuples (A:=A) (e:=f) (show s.heap.IsTuple p us.toArray from q) (show s.heap.IsTuple p' ws.toArray from q') (by omega) (fun j h1 h2=>hf j (by simpa using h1) (by simpa using h2))
   have rn:=SeqAt.RcNeAt.tuples (A:=A) (e:=f) (show s.heap.IsTuple p us.toArray from q) (show s.heap.IsTuple p' ws.toArray from q') (by omega) (fun j h1 h2=>hf j (by simpa using h1) (by simpa using h2))
   have key:(((List.range (min us.toArray.size ws.toArray.size)).all f&&us.toArray.size==ws.toArray.size)=true)↔PV.tup l1=PV.tup l2:=by
    simp only[List.size_toArray,Bool.and_eq_true,beq_iff_eq,PV.tup.injEq];rw[hf']
    exact Iss.same' hi hi' rv rv'
   refine⟨?_,_,⟨rc,rn⟩,key⟩
   by_cases e:p=p'
   ·subst e
    exact⟨true,SeqAt.EqAt.same _,by simp[Is.inj' (n+1) _ _ _ _ _ hc ha hb]⟩
   ·exact⟨_,SeqAt.EqAt.of_refs e rc,key⟩
  ·rename_i l1 l2
   obtain⟨p,xs,fq,rfl,hp,hi,_⟩:=id ha.lst_inv
   obtain⟨p',ys,fq',rfl,hp',hi',_⟩:=id hb.lst_inv
   cases ru;cases RO;have hc':=hc
   unfold X6 at hc'
   obtain⟨us,rv,q,_⟩:=I.list (SqL.of hp)
   obtain⟨ws,rv',q',_⟩:=I.list (SqL.of hp')
   obtain⟨f,hf,hf'⟩:=NC (A:=A.in1) (fun a b x y fa fb u w c i1 i2 r1 r2=>(Rc I n A.in1 a b x y fa fb u w (by show A.units+1+2*n+2<cLine;omega) c i1 i2 r1 r2).1) hc' hi hi' rv rv'
   have fin:∃r,GB A s (.ref p) (.ref p') r/\(r=true↔PV.lst l1=PV.lst l2):=by
    have key:=Iss.same' hi hi' rv rv'
    by_cases hsz:us.length=ws.length
    ·refine⟨_,⟨SeqAt.RcAt.lists (e:=f) q.isList q'.isList (by simpa using hsz) (by omega) (fun j h1 h2=>hf j (by simpa using h1) (by simpa using h2)),SeqAt.RcNeAt.lists (e:=f) q.isList q'.isList (by simpa using hsz) (by omega) (fun j h1 h2=>hf j (by simpa using h1) (by simpa using h2))⟩,?_⟩
     rw[hsz,Nat.min_self] at hf' key
     simp only[List.size_toArray,PV.lst.injEq];rw[hsz,hf',<-key]
     simp
    ·refine⟨false,⟨SeqAt.RcAt.lists_lengths q.isList q'.isList (by simpa using hsz) (by omega),SeqAt.RcNeAt.lists_lengths q.isList q'.isList (by simpa using hsz) (by omega)⟩,?_⟩
     rw[PV.lst.injEq,<-key];simp[hsz]
   obtain⟨r,hr,hk⟩:=fin
   refine⟨?_,r,hr,hk⟩
   by_cases e:p=p'
   ·subst e
    exact⟨true,SeqAt.EqAt.same _,by simp[Is.inj' (n+1) _ _ _ _ _ hc ha hb]⟩
   ·exact⟨r,SeqAt.EqAt.of_refs e hr.1,hk⟩
end
def FJ(K:PySem.W.Frag)(neg:Bool):R2:=fun x y H Q=>∃a b fa fb,Is K H a x fa/\Is K H b y fb/\X6 8 a b=true/\∀r:Bool,(r=true↔a=b)->Q (.bl (if neg then !r else r)) H
section
variable {X:Cx}
theorem K4(hu:X.A.units+64<cLine):UB X (compareOp .Eq) (FJ X.K false):=by
 intro pins s σ H x y v u Q I rx ry h
 obtain⟨a,b,fa,fb,ha,hb,hc,q⟩:=h
 obtain⟨_,r,hr,hk⟩:=Rc I 8 X.A a b x y fa fb v u (by omega) hc ha hb rx ry
 exact hr.1 X.prog X.w X.xe _ ⟨.bl r,H,I,rfl,q r hk⟩
theorem K5(hu:X.A.units+64<cLine):UB X (compareOp .NotEq) (FJ X.K true):=by
 intro pins s σ H x y v u Q I rx ry h
 obtain⟨a,b,fa,fb,ha,hb,hc,q⟩:=h
 obtain⟨_,r,hr,hk⟩:=Rc I 8 X.A a b x y fa fb v u (by omega) hc ha hb rx ry
 exact hr.2 X.prog X.w X.xe _ ⟨.bl !r,H,I,rfl,q r hk⟩
end
noncomputable def Z8(neg:Bool):PV->PV->Option PV:=fun a b=>if X6 8 a b=true then some (.bl (if neg then !decide (a=b) else decide (a=b))) else none
theorem Q7(neg:Bool):RB K (FJ K neg) (Z8 neg):=fun H x y a b l fa fb ha hb e Q k=>by
 unfold Z8 at e
 split at e
 ·cases e
  refine⟨a,b,fa,fb,ha,hb,by assumption,fun r hr=>?_⟩
  have:r=decide (a=b):=by
   cases r with
   | true=>exact(decide_eq_true (hr.mp rfl)).symm
   | false=>exact(decide_eq_false fun z=>Bool.false_ne_true (hr.mpr z)).symm
  subst this
  exact k _ H [] (Same.refl H) (Is.bl _) fun p hp=>by simp at hp
 ·cases e
def FK(K:PySem.W.Frag)(neg:Bool):R2:=fun x y H Q=>∃a b m fa fb,Is K H a x fa/\Is K H b y fb/\Of b=some m/\(m.all fun z=>X6 8 z a)=true/\∀r:Bool,(r=true↔a∈m)->Q (.bl (if neg then !r else r)) H
section
variable {X:Cx} {pins:List (Addr×Obj)} {σ:Si} {H:Hp} {s:Shared}
theorem SE{a:PV}{x:V}{fa:List Addr}{u:Value}{A:Around}(I:Inv X pins σ H s)(hu:A.units+18<cLine)(ha:Is K H a x fa)(rx:RelV x u):∀{m:List PV}{xs:List V}{fb:List Addr}{us:List Value},(m.all fun z=>X6 8 z a)=true->Iss K H m xs fb->Vals xs us->
  ∃e:Value->Bool,(∀y∈us,SeqAt.EqAt A s y u (e y))/\(us.any e=true↔a∈m):=fun{m xs fb us} hc h r=>by
 -- each one's answer
 have each:∀y∈us,∃t:Bool,SeqAt.EqAt A s y u t/\(t=true↔∃b,b∈m/\b=a/\∃z f,Is K H b z f/\RelV z y):=fun y hy=>by
  obtain⟨j,hj,e⟩:=List.mem_iff_getElem.mp hy
  have hl:=r.length
  have hxj:xs[j]?=some xs[j]:=List.getElem?_eq_getElem (by omega)
  obtain⟨b,f,hb,ib,_⟩:=h.get' hxj
  obtain⟨w,hw,RO⟩:=r.get hxj
  rw[List.getElem?_eq_getElem hj] at hw;cases hw;rw[e] at RO
  have hbm:b∈m:=List.mem_of_getElem? hb
  have cb:=List.all_eq_true.mp hc b hbm
  obtain⟨⟨t,ht,hk⟩,_⟩:=Rc I 8 A b a xs[j] x f fa y u (by omega) cb ib ha RO rx
  refine⟨t,ht,hk.trans ⟨fun z=>⟨b,hbm,z,xs[j],f,ib,RO⟩,fun⟨b',hb',e',z,f',i',r'⟩=>?_⟩⟩
  have ez:z=xs[j]:=r'.inj RO
  subst ez;have cb':=List.all_eq_true.mp hc b' hb'
  subst e'
  exact Is.inj' 8 b b' _ _ _ cb ib i'
 classical
 refine⟨fun y=>if hy:y∈us then(each y hy).choose else false,fun y hy=>?_,?_⟩
 ·simp only[dif_pos hy];exact(each y hy).choose_spec.1
 ·rw[List.any_eq_true]
  constructor
  ·rintro⟨y,hy,e⟩
   rw[dif_pos hy] at e
   obtain⟨b,hb,rfl,_⟩:=(each y hy).choose_spec.2.mp e
   exact hb
  ·intro hm
   obtain⟨j,hj,e⟩:=List.mem_iff_getElem.mp hm
   obtain⟨z,f,hz,iz,_⟩:=h.get (List.getElem?_eq_getElem hj)
   obtain⟨y,hy,ry⟩:=r.get hz
   have hyu:y∈us:=List.mem_of_getElem? hy
   refine⟨y,hyu,?_⟩
   rw[dif_pos hyu]
   exact(each y hyu).choose_spec.2.mpr ⟨a,hm,rfl,z,f,e▸iz,ry⟩
end
section
variable {X:Cx}
theorem FL(hu:X.A.units+64<cLine):UB X (compareOp .In) (FK X.K false):=by
 intro pins s σ H x y v u Q I rx ry h
 obtain⟨a,b,m,fa,fb,ha,hb,hm,hc,q⟩:=h
 obtain⟨p,xs,fq,rfl,hp,hi,_⟩:=U1 (K:=X.K) hb hm
 cases ry
 rcases hp with hp | hp
 ·obtain⟨us,rv,t,_⟩:=I.list hp
  obtain⟨e,he,hk⟩:=SE (A:=X.A.in1) I (by show X.A.units+1+18<cLine;omega) ha rx hc hi rv
  refine SeqAt.in_listAt e t.isList (fun w hw=>he w (by simpa using hw)) ⟨.bl _,H,I,rfl,?_⟩
  rw[show us.toArray.any e=us.any e by simp]
  exact q _ hk
 ·obtain⟨us,rv,t,_⟩:=I.tuple hp
  obtain⟨e,he,hk⟩:=SE (A:=X.A.in1) I (by show X.A.units+1+18<cLine;omega) ha rx hc hi rv
  refine SeqAt.in_tupleAt e t (fun w hw=>he w (by simpa using hw)) ⟨.bl _,H,I,rfl,?_⟩
  rw[show us.toArray.any e=us.any e by simp]
  exact q _ hk
theorem Ln(hu:X.A.units+64<cLine):UB X (compareOp .NotIn) (FK X.K true):=by
 intro pins s σ H x y v u Q I rx ry h
 obtain⟨a,b,m,fa,fb,ha,hb,hm,hc,q⟩:=h
 obtain⟨p,xs,fq,rfl,hp,hi,_⟩:=U1 (K:=X.K) hb hm
 cases ry
 rcases hp with hp | hp
 ·obtain⟨us,rv,t,_⟩:=I.list hp
  obtain⟨e,he,hk⟩:=SE (A:=X.A.in1) I (by show X.A.units+1+18<cLine;omega) ha rx hc hi rv
  refine SeqAt.notIn_listAt e t.isList (fun w hw=>he w (by simpa using hw)) ⟨.bl _,H,I,rfl,?_⟩
  rw[show us.toArray.any e=us.any e by simp]
  exact q _ hk
 ·obtain⟨us,rv,t,_⟩:=I.tuple hp
  obtain⟨e,he,hk⟩:=SE (A:=X.A.in1) I (by show X.A.units+1+18<cLine;omega) ha rx hc hi rv
  refine SeqAt.notIn_tupleAt e t (fun w hw=>he w (by simpa using hw)) ⟨.bl _,H,I,rfl,?_⟩
  rw[show us.toArray.any e=us.any e by simp]
  exact q _ hk
end
noncomputable def U5(neg:Bool):PV->PV->Option PV:=fun a b=>(Of b).bind fun m=>if(m.all fun z=>X6 8 z a)=true then some (.bl (if neg then !decide (a∈m) else decide (a∈m))) else none
theorem K8(neg:Bool):RB K (FK K neg) (U5 neg):=fun H x y a b l fa fb ha hb e Q k=>by
 obtain⟨m,hm,e⟩:=Zg e
 split at e
 ·cases e
  refine⟨a,b,m,fa,fb,ha,hb,hm,by assumption,fun r hr=>?_⟩
  have:r=decide (a∈m):=by
   cases r with
   | true=>exact(decide_eq_true (hr.mp rfl)).symm
   | false=>exact(decide_eq_false fun z=>Bool.false_ne_true (hr.mpr z)).symm
  subst this
  exact k _ H [] (Same.refl H) (Is.bl _) fun p hp=>by simp at hp
 ·cases e
end VL
namespace VL
open PySem PySem.Spec PyProof.Rows L2
variable {K:PySem.W.Frag}
mutual
theorem Is.dom{H:Hp}:∀(l:PV)(v:V)(fp:List Addr),Is K H l v fp->∀p∈fp,H p≠none
 | .non,_,_,h=>by simp only[Is] at h;rw[h.2];simp
 | .bl _,_,_,h=>by simp only[Is] at h;rw[h.2];simp
 | .int _,_,_,h=>by simp only[Is] at h;rw[h.2];simp
 | .str _,_,_,h=>by simp only[Is] at h;rw[h.2];simp
 | .ty _,_,_,h=>by simp only[Is] at h;rw[h.2];simp
 | .exc _,_,_,h=>by simp only[Is] at h;rw[h.2];simp
 | .exf _ _,_,_,h=>by simp only[Is] at h;rw[h.2];simp
 | .tup l,v,fp,h=>by
  obtain⟨p,xs,_,_,hi⟩:=h.tup_inv
  exact Iss.dom l xs fp hi
 | .lst l,v,fp,h=>by
  obtain⟨p,xs,fq,_,hp,hi,rfl⟩:=h.lst_inv
  intro q hq
  rcases List.mem_cons.mp hq with rfl | hq
  ·rw[hp];simp
  ·exact Iss.dom l xs fq hi q hq
 | .cst l,v,fp,h=>by
  obtain⟨p,xs,_,_,hi⟩:=h.cst_inv
  exact Iss.dom l xs fp hi
 | .dK ks l,v,fp,h=>by
  obtain⟨p,kvs,fq,_,hp,_,hi,rfl⟩:=h.dK_inv
  intro q hq
  rcases List.mem_cons.mp hq with rfl | hq
  ·rcases hp with e | ⟨o,e⟩<;>rw[e]<;>simp
  ·exact Iss.dom l _ fq hi q hq
 | .dT ks l,v,fp,h=>by
  obtain⟨p,kvs,fq,_,hp,_,hi,rfl⟩:=h.dT_inv
  intro q hq
  rcases List.mem_cons.mp hq with rfl | hq
  ·rcases hp with e | ⟨o,e⟩<;>rw[e]<;>simp
  ·exact Iss.dom l _ fq hi q hq
theorem Iss.dom{H:Hp}:∀(l:List PV)(xs:List V)(fp:List Addr),Iss K H l xs fp->∀p∈fp,H p≠none
 | [],_,_,h=>by simp only[Iss] at h;rw[h.2];simp
 | l::ls,xs,fp,h=>by
  obtain⟨x,r,f1,f2,_,h1,h2,rfl⟩:=h.inv
  intro q hq
  rcases List.mem_append.mp hq with hq | hq
  ·exact Is.dom l x f1 h1 q hq
  ·exact Iss.dom ls r f2 h2 q hq
end
def Ab(Rm:Addr->Prop)(H H':Hp):Prop:=∀b o,H b=some o->¬Rm b->H' b=some o
theorem Same.ab{Rm:Addr->Prop}{H H':Hp}(s:Same H H'):Ab Rm H H':=fun b o h _=>s b o h
theorem Ab.tk{Rm:Addr->Prop}{H H':Hp}(a:Ab Rm H H')(hd:∀p,Rm p->W3 (H p)):Fz H H':=⟨fun b xs h=>a b _ h fun z=>by
 have:=hd b z
 rw[h] at this;exact this,fun b o xs h=>a b _ h fun z=>by
 have:=hd b z
 rw[h] at this;exact this,fun b o x h=>a b _ h fun z=>by
 have:=hd b z
 rw[h] at this;exact this⟩
theorem Is.ab{Rm:Addr->Prop}{H H':Hp}(a:Ab Rm H H')(hd:∀p,Rm p->W3 (H p)){l:PV}{v:V}{fp:List Addr}(n:∀p∈fp,¬Rm p)(h:Is K H l v fp):Is K H' l v fp:=
 Is.tr (a.tk hd) l v fp (fun p hp=>RdK.of fun o q=>a p o q (n p hp)) h
structure Cc(K:PySem.W.Frag)(Rm:Addr->Prop)(H1:Hp)(J:It)(ls:List PV):Prop where
 stop:∀H',Ab Rm H1 H'->J.stop ls.length H'
 go:∀H' (i:Nat) l,Ab Rm H1 H'->ls[i]?=some l->J.go i H'
 yld:∀H' (i:Nat) l x H'',Ab Rm H1 H'->ls[i]?=some l->J.yld i H' x H''->Same H' H''/\∃fp,Is K H'' l x fp/\∀p∈fp,H1 p≠none/\¬Rm p
abbrev XL:=ZP->Option (List PV)
def iF(K:PySem.W.Frag)(f:XL):TI:=fun σ H R=>∃(Rm:Addr->Prop) (s:ZP) (ls:List PV),(∀p,Rm p->W3 (H p))/\EnvIs K Rm H s σ/\f s=some ls/\∀J H1,Same H H1->Cc K Rm H1 J ls->R J H1
def VI(X:Cx)(tg e:Expr)(f:XL):Prop:=PI X tg e (iF X.K f)
section
variable {X:Cx} {tg e:Expr} {es:List Expr}
theorem PI.imp{t t':TI}(h:PI X tg e t)(i:∀σ H R,t' σ H R->t σ H R):PI X tg e t':=fun pins s σ H R I q=>h pins s σ H R I (i σ H R q)
def Ep:PV->Option (List PV)
 | .lst m=>some m
 | .cst m=>some m
 | _=>none
def Y4(f:XE):XL:=fun s=>(f s).bind Ep
def WI(f:XE):XL:=fun s=>match f s with | some (.tup m)=>some m | _=>none
theorem K9{a:PV}{m:List PV}(h:Ep a=some m):a = .lst m\/a = .cst m:=by
 unfold Ep at h;split at h
 ·cases h;exact .inl rfl
 ·cases h;exact .inr rfl
 ·cases h
theorem Lo{f:XE}{s:ZP}{m:List PV}(h:WI f s=some m):f s=some (.tup m):=by
 unfold WI at h;split at h
 ·cases h;assumption
 ·cases h
theorem Ww{f:XE}(h:VE X e f):VI X tg e (Y4 f):=PI.imp (Iy h) fun σ H R ⟨Rm,s,ls,hd,env,e,k⟩=>by
 obtain⟨l,e1,e2⟩:=Zg e
 refine⟨Rm,s,l,hd,env,e1,fun v H1 fp s1 i1 n1=>?_⟩
 have hd1:∀p,Rm p->W3 (H1 p):=fun p hp=>Same.mut s1 (hd p hp)
 have main:∀a xs fq,v = .ref a->SqL X.K H1 a xs->(∀H',Ab Rm H1 H'->SqL X.K H' a xs)->Iss X.K H1 ls xs fq->(∀p∈fq,p∈fp)->∃a,v = .ref a/\(∃xs,SqL X.K H1 a xs)/\R (DR X.K a) H1:=by
  rintro a xs fq rfl ha keep hi sub
  refine⟨a,rfl,⟨xs,ha⟩,k _ H1 s1 ⟨fun H' ab=>⟨xs,keep H' ab,by rw[hi.len];exact Nat.le_refl _⟩,fun H' i l ab hl=>?_,fun H' i l x H'' ab hl y=>?_⟩⟩
  ·obtain⟨x,f1,hx,_,_⟩:=hi.get hl
   exact⟨xs,x,keep H' ab,hx⟩
  ·obtain⟨rfl,y⟩:=y
   obtain⟨x',f1,hx,ix,sub'⟩:=hi.get hl
   have:=y xs (keep _ ab)
   rw[hx] at this;cases this
   have n1':∀p∈f1,¬Rm p:=fun p hp=>n1 p (sub p (sub' p hp))
   exact⟨Same.refl _,f1,ix.ab ab hd1 n1',fun p hp=>⟨Is.dom _ _ _ ix p hp,n1' p hp⟩⟩
 rcases K9 e2 with rfl | rfl
 ·obtain⟨a,xs,fq,rfl,ha,hi,rfl⟩:=i1.lst_inv
  exact main a xs fq rfl (SqL.of ha) (fun H' ab=>SqL.of (ab a _ ha (n1 a List.mem_cons_self))) hi fun p hp=>List.mem_cons_of_mem _ hp
 ·obtain⟨a,xs,rfl,ha,hi⟩:=i1.cst_inv
  exact main a xs fp rfl ha.sq (fun H' ab=>(ha.tr (ab.tk hd1)).sq) hi fun p hp=>hp
theorem TX{f:XE}(h:VE X e f):VI X tg e (WI f):=PI.imp (G5 h) fun σ H R ⟨Rm,s,ls,hd,env,e,k⟩=>by
 refine⟨Rm,s,.tup ls,hd,env,Lo e,fun v H1 fp s1 i1 n1=>?_⟩
 obtain⟨a,xs,rfl,ha,hi⟩:=i1.tup_inv
 have hd1:∀p,Rm p->W3 (H1 p):=fun p hp=>Same.mut s1 (hd p hp)
 have keep:∀H',Ab Rm H1 H'->SqT X.K H' a xs:=fun H' ab=>SqT.of ((ab.tk hd1).tup a xs ha)
 refine⟨a,rfl,⟨xs,SqT.of ha⟩,k _ H1 s1 ⟨fun H' ab=>⟨xs,keep H' ab,by rw[hi.len];exact Nat.le_refl _⟩,fun H' i l ab hl=>?_,fun H' i l x H'' ab hl y=>?_⟩⟩
 ·obtain⟨x,f1,hx,_,_⟩:=hi.get hl
  exact⟨xs,x,keep H' ab,hx⟩
 ·obtain⟨rfl,y⟩:=y
  obtain⟨x',f1,hx,ix,sub⟩:=hi.get hl
  have:=y xs (keep _ ab)
  rw[hx] at this;cases this
  have n1':∀p∈f1,¬Rm p:=fun p hp=>n1 p (sub p hp)
  exact⟨Same.refl _,f1,ix.ab ab hd1 n1',fun p hp=>⟨Is.dom _ _ _ ix p hp,n1' p hp⟩⟩
def U6(n:Nat):List PV:=(List.range n).map fun(i:Nat)=>PV.int (i:Int)
def Wa(lo:Int)(n:Nat):List PV:=(List.range n).map fun(i:Nat)=>PV.int (lo+(i:Int))
def ZO(fs:List XE):XL:=fun s=>match UZ fs s with | some [.int j]=>if -1000000<=j/\j<=1000000 then some (U6 j.toNat) else none | _=>none
def Xw(fs:List XE):XL:=fun s=>match UZ fs s with | some [.int i,.int j]=>if -1000000<=i/\i<=1000000/\-1000000<=j/\j<=1000000 then some (Wa i (j-i).toNat) else none | _=>none
theorem MD{Rm:Addr->Prop}{H1:Hp}(lo:Int)(n:Nat):Cc K Rm H1 (EF lo n) (Wa lo n):=by
 refine⟨fun H' _=>by unfold Wa;rw[List.length_map,List.length_range];exact Nat.le_refl n,fun H' i l _ hl=>?_,fun H' i l x H'' _ hl y=>?_⟩
 ·have:=(List.getElem?_eq_some_iff.mp hl).1
  unfold Wa at this;rw[List.length_map,List.length_range] at this;exact this
 ·obtain⟨rfl,rfl⟩:=y
  have hi:=(List.getElem?_eq_some_iff.mp hl).1
  unfold Wa at hi hl;rw[List.length_map,List.length_range] at hi;rw[List.getElem?_map,List.getElem?_range hi] at hl;cases hl
  exact⟨Same.refl _,[],Is.int _,fun p hp=>by simp at hp⟩
theorem Hi(n:Nat):U6 n=Wa 0 n:=by
 unfold U6 Wa
 apply List.map_congr_left
 intro i _;rw[Int.zero_add]
theorem Yb{a:Expr}{fs:List XE}{p pos:Pos}(hg:Gl X "range")(hm:X.mg "range" = none)(ha:VA X [a] fs)(hs:starEach [a] X.env=[(false,eval a X.env)]:=by rfl):VI X tg (.Call (.Name "range" p) [a] [] pos) (ZO fs):=
 PI.imp (Lb hg hm ha hs) fun σ H R ⟨Rm,s,ls,hd,env,e,k⟩=>by
 unfold ZO at e
 split at e
 ·split at e
  ·cases e
   rename_i j he hb
   refine⟨Rm,s,_,hd,env,he,fun vs H1 fp s1 i1 _=>?_⟩
   obtain⟨v,rfl,i⟩:=i1.one_inv
   refine⟨j,by rw[i.int_inv.1],by omega,by omega,k _ H1 s1 ?_⟩
   rw[Hi];exact MD _ _
  ·cases e
 ·cases e
theorem V6{a b:Expr}{fs:List XE}{p pos:Pos}(hg:Gl X "range")(hm:X.mg "range" = none)(ha:VA X [a,b] fs)(hs:starEach [a,b] X.env=[(false,eval a X.env),(false,eval b X.env)]:=by rfl)(hs2:starEach [b] X.env=[(false,eval b X.env)]:=by rfl):VI X tg (.Call (.Name "range" p) [a,b] [] pos) (Xw fs):=
 PI.imp (Lc hg hm ha hs hs2) fun σ H R ⟨Rm,s,ls,hd,env,e,k⟩=>by
 unfold Xw at e
 split at e
 ·split at e
  ·cases e
   rename_i i j he hb
   refine⟨Rm,s,_,hd,env,he,fun vs H1 fp s1 i1 _=>?_⟩
   obtain⟨v,w,f1,f2,rfl,iv,iw,_⟩:=i1.two_inv
   exact⟨i,j,by rw[iv.int_inv.1,iw.int_inv.1],⟨by omega,by omega,by omega,by omega⟩,k _ H1 s1 (MD _ _)⟩
  ·cases e
 ·cases e
def WN(m:List PV):List PV:=m.zipIdx.map fun z=>.tup [.int (z.2:Nat),z.1]
def Q9(m n:List PV):List PV:=(m.zip n).map fun z=>.tup [z.1,z.2]
theorem Qv{m:List PV}{i:Nat}{l:PV}(h:(WN m)[i]?=some l):∃a,m[i]?=some a/\l = .tup [.int (i:Nat),a]:=by
 unfold WN at h;rw[List.getElem?_map,List.getElem?_zipIdx] at h
 cases q:m[i]? with
 | none=>rw[q] at h;cases h
 | some a=>rw[q] at h;cases h;exact⟨a,rfl,by simp⟩
theorem V7(m:List PV):(WN m).length=m.length:=by unfold WN;rw[List.length_map,List.length_zipIdx]
theorem Oh{m n:List PV}{i:Nat}{l:PV}(h:(Q9 m n)[i]?=some l):∃a b,m[i]?=some a/\n[i]?=some b/\l = .tup [a,b]:=by
 unfold Q9 at h;rw[List.getElem?_map] at h
 cases q:(m.zip n)[i]? with
 | none=>rw[q] at h;cases h
 | some z=>
  rw[q] at h;cases h
  obtain⟨q1,q2⟩:=List.getElem?_zip_eq_some.mp q
  exact⟨z.1,z.2,q1,q2,rfl⟩
theorem Oi(m n:List PV):(Q9 m n).length=min m.length n.length:=by unfold Q9;rw[List.length_map,List.length_zip]
def seqB:Bool->PV->Option (List PV)
 | true,.lst l=>some l
 | true,.cst l=>some l
 | false,.tup l=>some l
 | _,_=>none
theorem Pa{H:Hp}{b:Bool}{l:PV}{v:V}{fp:List Addr}{m:List PV}(h:Is K H l v fp)(e:seqB b l=some m):∃p xs fq,v = .ref p/\Iss K H m xs fq/\(∀q∈fq,q∈fp)/\∀(Rm:Addr->Prop) H',Ab Rm H H'->(∀p,Rm p->W3 (H p))->(∀p∈fp,¬Rm p)->Qp b K H' p xs:=by
 cases b with
 | true=>cases l with
  | lst l=>
   cases e
   obtain⟨p,xs,fq,rfl,hp,hi,rfl⟩:=h.lst_inv
   exact⟨p,xs,fq,rfl,hi,fun q hq=>List.mem_cons_of_mem _ hq,fun Rm H' ab _ n=>SqL.of (ab p _ hp (n p List.mem_cons_self))⟩
  | cst l=>
   cases e
   obtain⟨p,xs,rfl,hp,hi⟩:=h.cst_inv
   exact⟨p,xs,fp,rfl,hi,fun q hq=>hq,fun Rm H' ab hd _=>(hp.tr (ab.tk hd)).sq⟩
  | _=>cases e
 | false=>cases l with
  | tup l=>
   cases e
   obtain⟨p,xs,rfl,hp,hi⟩:=h.tup_inv
   exact⟨p,xs,fp,rfl,hi,fun q hq=>hq,fun Rm H' ab hd _=>SqT.of ((ab.tk hd).tup p xs hp)⟩
  | _=>cases e
def VJ(b:Bool)(fs:List XE):XL:=fun s=>match UZ fs s with | some [l]=>(seqB b l).map WN | _=>none
def Rf(b1 b2:Bool)(fs:List XE):XL:=fun s=>match UZ fs s with | some [l,r]=>(seqB b1 l).bind fun m=>(seqB b2 r).map fun n=>Q9 m n | _=>none
theorem Pb{elts:List Expr}{k:Nat}{tpos:Pos}(b:Bool){a:Expr}{fs:List XE}{p pos:Pos}(hg:Gl X "enumerate")(hm:X.mg "enumerate" = none)(ha:VA X [a] fs)(hs:starEach [a] X.env=[(false,eval a X.env)]:=by rfl) :
  VI X (.Tuple elts k tpos) (.Call (.Name "enumerate" p) [a] [] pos) (VJ b fs):=PI.imp (IS b hg hm ha hs) fun σ H R ⟨Rm,s,ls,hd,env,e,k⟩=>by
 unfold VJ at e
 split at e
 ·rename_i l he
  obtain⟨m,e1,rfl⟩:=map_some e
  refine⟨Rm,s,_,hd,env,he,fun vs H1 fp s1 i1 n1=>?_⟩
  obtain⟨v,rfl,i⟩:=i1.one_inv
  have hd1:∀p,Rm p->W3 (H1 p):=fun p hp=>Same.mut s1 (hd p hp)
  obtain⟨a,xs,fq,rfl,hi,sub,keep⟩:=Pa (K:=X.K) i e1
  have kp:=fun H' ab=>keep Rm H' ab hd1 n1
  refine⟨a,rfl,⟨xs,kp H1 (Same.ab (Same.refl H1))⟩,k _ H1 s1 ⟨fun H' ab=>⟨xs,kp H' ab,by rw[V7,hi.len]⟩,fun H' i l ab hl=>?_,fun H' i l x H'' ab hl y=>?_⟩⟩
  ·obtain⟨c,hc,rfl⟩:=Qv hl
   obtain⟨x,f1,hx,_,_⟩:=hi.get hc
   exact⟨xs,x,kp H' ab,hx⟩
  ·obtain⟨c,hc,rfl⟩:=Qv hl
   obtain⟨x',f1,hx,ix,sb⟩:=hi.get hc
   obtain⟨q,z,hq,rfl,rfl,y⟩:=y
   have:=y xs (kp _ ab)
   rw[hx] at this;cases this
   have n1':∀p∈f1,¬Rm p:=fun p hp=>n1 p (sub p (sb p hp))
   refine⟨Same.new hq _,f1,Is.tup Zs ?_,fun p hp=>⟨Is.dom _ _ _ ix p hp,n1' p hp⟩⟩
   exact Iss.cons (f1:=[]) (Is.int _) (Iss.one ((ix.ab ab hd1 n1').mono (Same.new hq _)))
 ·cases e
theorem ND{elts:List Expr}{k:Nat}{tpos:Pos}(b1 b2:Bool){a b:Expr}{fs:List XE}{p pos:Pos}(hg:Gl X "zip")(hm:X.mg "zip" = none)(ha:VA X [a,b] fs)
  (hs:starEach [a,b] X.env=[(false,eval a X.env),(false,eval b X.env)]:=by rfl) (hs2:starEach [b] X.env=[(false,eval b X.env)]:=by rfl) :
  VI X (.Tuple elts k tpos) (.Call (.Name "zip" p) [a,b] [] pos) (Rf b1 b2 fs):=PI.imp (Fw b1 b2 hg hm ha hs hs2) fun σ H R ⟨Rm,s,ls,hd,env,e,k⟩=>by
 unfold Rf at e
 split at e
 ·rename_i l r he
  obtain⟨m,e1,e⟩:=Zg e
  obtain⟨n,e2,rfl⟩:=map_some e
  refine⟨Rm,s,_,hd,env,he,fun vs H1 fp s1 i1 n1=>?_⟩
  obtain⟨v,w,g1,g2,rfl,iv,iw,rfl⟩:=i1.two_inv
  have hd1:∀p,Rm p->W3 (H1 p):=fun p hp=>Same.mut s1 (hd p hp)
  have ng1:∀p∈g1,¬Rm p:=fun p hp=>n1 p (List.mem_append_left _ hp)
  have ng2:∀p∈g2,¬Rm p:=fun p hp=>n1 p (List.mem_append_right _ hp)
  obtain⟨a1,xs,fq,rfl,hi,sub,keep⟩:=Pa (K:=X.K) iv e1
  obtain⟨a2,ys,fr,rfl,hj,sub2,keep2⟩:=Pa (K:=X.K) iw e2
  have kp:=fun H' ab=>keep Rm H' ab hd1 ng1
  have kp2:=fun H' ab=>keep2 Rm H' ab hd1 ng2
  refine⟨a1,a2,rfl,⟨xs,kp H1 (Same.ab (Same.refl H1))⟩,⟨ys,kp2 H1 (Same.ab (Same.refl H1))⟩,k _ H1 s1 ⟨fun H' ab=>⟨xs,ys,kp H' ab,kp2 H' ab,?_⟩,fun H' i l ab hl=>?_,fun H' i l x H'' ab hl y=>?_⟩⟩
  ·rw[Oi,hi.len,hj.len]
   omega
  ·obtain⟨c,d,hc,hd',rfl⟩:=Oh hl
   obtain⟨x,f1,hx,_,_⟩:=hi.get hc
   obtain⟨y,f2,hy,_,_⟩:=hj.get hd'
   exact⟨xs,ys,x,y,kp H' ab,kp2 H' ab,hx,hy⟩
  ·obtain⟨c,d,hc,hd',rfl⟩:=Oh hl
   obtain⟨x',f1,hx,ix,sb⟩:=hi.get hc
   obtain⟨y',f2,hy,iy,sb2⟩:=hj.get hd'
   obtain⟨q,z,z',hq,rfl,rfl,y1,y2⟩:=y
   have:=y1 xs (kp _ ab)
   rw[hx] at this;cases this
   have:=y2 ys (kp2 _ ab)
   rw[hy] at this;cases this
   have n1':∀p∈f1,¬Rm p:=fun p hp=>ng1 p (sub p (sb p hp))
   have n2':∀p∈f2,¬Rm p:=fun p hp=>ng2 p (sub2 p (sb2 p hp))
   refine⟨Same.new hq _,f1++f2,Is.tup Zs ?_,fun p hp=>?_⟩
   ·exact Iss.cons ((ix.ab ab hd1 n1').mono (Same.new hq _)) (Iss.one ((iy.ab ab hd1 n2').mono (Same.new hq _)))
   ·rcases List.mem_append.mp hp with hp | hp
    ·exact⟨Is.dom _ _ _ ix p hp,n1' p hp⟩
    ·exact⟨Is.dom _ _ _ iy p hp,n2' p hp⟩
 ·cases e
end
inductive Tgt where
 | one (i:Nat) | many (is:List Nat)
def Tgt.slots:Tgt->List Nat
 | .one i=>[i]
 | .many is=>is
def setAll:List Nat->List PV->ZP->ZP
 | i::is,l::ls,s=>setAll is ls (s.set i (some l))
 | _,_,s=>s
def Y9:List Nat->List V->Si->Si
 | i::is,l::ls,s=>Y9 is ls (s.set i (some l))
 | _,_,s=>s
def Wx:Tgt->PV->ZP->Option ZP
 | .one i,l,s=>some (s.set i (some l))
 | .many is,.tup ls,s=>if ls.length=is.length then some (setAll is ls s) else none
 | _,_,_=>none
def NF:List Nat->Gr
 | []=>ED
 | i::is=>Gs (US i) (NF is)
def gT(K:PySem.W.Frag):Tgt->TG
 | .one i=>US i
 | .many is=>EE K is.length (NF is)
theorem Rg:∀{is:List Nat}{vs:List V}{σ:Si}{H:Hp}{Q:Si->Hp->Prop},vs.length=is.length->Q (Y9 is vs σ) H->NF is vs σ H Q
 | [],[],_,_,_,_,q=>⟨rfl,q⟩
 | [],_::_,_,_,_,h,_=>by simp at h
 | _::_,[],_,_,_,h,_=>by simp at h
 | i::is,v::vs,σ,H,Q,h,q=>⟨v,vs,rfl,Rg (is:=is) (vs:=vs) (by simpa using h) q⟩
theorem Pc{T:Tgt}{l:PV}{v:V}{fp:List Addr}{s s':ZP}{H:Hp}(h:Is K H l v fp)(e:Wx T l s=some s') :
  ∃ls vs fs,s'=setAll T.slots ls s/\Iss K H ls vs fs/\ls.length=T.slots.length/\(∀p∈fs,p∈fp)/\∀σ (Q:Si->Hp->Prop),Q (Y9 T.slots vs σ) H->gT K T v σ H Q:=by
 cases T with
 | one i=>
  cases e
  exact⟨[l],[v],fp,rfl,Iss.one h,rfl,fun p hp=>hp,fun σ Q q=>q⟩
 | many is=>
  cases l with
  | tup ls=>
   have e:(if ls.length=is.length then some (VL.setAll is ls s) else none)=some s':=e
   split at e
   ·cases e
    obtain⟨p,xs,rfl,hp,hi⟩:=h.tup_inv
    exact⟨ls,xs,fp,rfl,hi,by assumption,fun p hp=>hp,fun σ Q q=>⟨p,xs,rfl,SqT.of hp,by rw[hi.len];assumption,Rg (by rw[hi.len];assumption) q⟩⟩
   ·cases e
  | _=>cases e
theorem Vc:∀{is:List Nat}{vs:List V}{σ:Si}{n:Nat},(∀i∈is,i<n)->(Y9 is vs σ).drop n=σ.drop n
 | [],_,_,_,_=>rfl
 | _::_,[],_,_,_=>rfl
 | i::is,v::vs,σ,n,h=>by
  show(Y9 is vs (σ.set i (some v))).drop n=_
  rw[Vc (fun j hj=>h j (List.mem_cons_of_mem _ hj))]
  have:=h i List.mem_cons_self
  rw[List.drop_set,if_pos this]
theorem EnvIs.set{Rm:Addr->Prop}{H:Hp}{s:ZP}{σ:Si}{i:Nat}{l:PV}{v:V}{fp:List Addr}(h:EnvIs K Rm H s σ)(hl:s.length=σ.length)(hi:Is K H l v fp)(n:∀p∈fp,¬Rm p):EnvIs K Rm H (s.set i (some l)) (σ.set i (some v)):=⟨fun j a e=>by
 rw[List.getElem?_set] at e
 by_cases hj:i=j
 ·subst hj
  rw[if_pos rfl] at e
  split at e
  ·cases e
   exact⟨v,fp,by rw[List.getElem?_set,if_pos rfl,if_pos (by omega)],hi,n⟩
  ·cases e
 ·rw[if_neg hj] at e
  obtain⟨w,f,h1,h2,h3⟩:=h.is j a e
  exact⟨w,f,by rw[List.getElem?_set,if_neg hj];exact h1,h2,h3⟩⟩
theorem EnvIs.setAll{Rm:Addr->Prop}{H:Hp}:∀{is:List Nat}{ls:List PV}{vs:List V}{fs:List Addr}{s:ZP}{σ:Si},EnvIs K Rm H s σ->s.length=σ.length->Iss K H ls vs fs->(∀p∈fs,¬Rm p)->EnvIs K Rm H (VL.setAll is ls s) (Y9 is vs σ)
 | [],_,_,_,_,_,h,_,_,_=>by unfold VL.setAll Y9;exact h
 | i::is,[],vs,fs,s,σ,h,_,hi,_=>by
  simp only[Iss] at hi;rw[hi.1];exact h
 | i::is,l::ls,vs,fs,s,σ,h,hl,hi,n=>by
  obtain⟨x,r,f1,f2,rfl,h1,h2,rfl⟩:=hi.inv
  show EnvIs K Rm H (VL.setAll is ls (s.set i (some l))) (Y9 is r (σ.set i (some x)))
  exact EnvIs.setAll (h.set hl h1 fun p hp=>n p (List.mem_append_left _ hp)) (by rw[List.length_set,List.length_set];exact hl) h2 fun p hp=>n p (List.mem_append_right _ hp)
def Yl(n:Nat)(ix:List Nat)(s:ZP):ZP:=List.replicate n none++ix.map (fun i=>(s[i]?).join)
def Wq(T:Tgt)(ft:XT)(fe:XE)(s0:ZP):List PV->Option (List PV)
 | []=>some []
 | l::r=>(Wx T l s0).bind fun s1=>(ft s1).bind fun c=>if c=true then(fe s1).bind fun y=>(Wq T ft fe s0 r).map (y::·) else Wq T ft fe s0 r
def Zw(n:Nat)(ix:List Nat)(fi:XL)(T:Tgt)(ft:XT)(fe:XE):XE:=fun s=>(fi s).bind fun ls=>if ls.length<=10000 then(Wq T ft fe (Yl n ix s) ls).map .lst else none
def ZG:XT:=fun _=>some true
theorem join_some{α:Type}{o:Option (Option α)}{a:α}(h:o.join=some a):o=some (some a):=by
 cases o with
 | none=>cases h
 | some b=>cases b with
  | none=>cases h
  | some c=>cases h;rfl
theorem EnvIs.comp{Rm:Addr->Prop}{H:Hp}{s:ZP}{σ:Si}{n:Nat}{ix:List Nat}(h:EnvIs K Rm H s σ):EnvIs K Rm H (Yl n ix s) (ZZ n ix σ):=⟨fun i l e=>by
 unfold Yl at e;unfold ZZ
 by_cases hi:i<n
 ·rw[List.getElem?_append_left (by simpa using hi),List.getElem?_replicate,if_pos hi] at e
  cases e
 ·rw[List.getElem?_append_right (by simpa using hi),List.length_replicate,List.getElem?_map] at e
  rw[List.getElem?_append_right (by simpa using hi),List.length_replicate,List.getElem?_map]
  cases q:ix[i-n]? with
  | none=>rw[q] at e;cases e
  | some j=>
   rw[q] at e
   have e:=join_some (Option.some.inj e)
   obtain⟨v,fp,a,b,c⟩:=h.is j l e
   exact⟨v,fp,by show some ((σ[j]?).join)=_;rw[a];rfl,b,c⟩⟩
theorem Oj(n:Nat)(ix:List Nat)(s:ZP)(σ:Si):(Yl n ix s).length=(ZZ n ix σ).length:=by unfold Yl ZZ;simp
theorem Rh{T:Tgt}{ft:XT}{fe:XE}{s0:ZP}{l:PV}{r ys:List PV}(h:Wq T ft fe s0 (l::r)=some ys):∃s1 c,Wx T l s0=some s1/\ft s1=some c/\((c=true/\∃y zs,fe s1=some y/\Wq T ft fe s0 r=some zs/\ys=y::zs)\/(c=false/\Wq T ft fe s0 r=some ys)):=by
 unfold Wq at h
 obtain⟨s1,e1,h⟩:=Zg h
 obtain⟨c,e2,h⟩:=Zg h
 refine⟨s1,c,e1,e2,?_⟩
 cases c with
 | true=>
  rw[if_pos rfl] at h
  obtain⟨y,e3,h⟩:=Zg h
  obtain⟨zs,e4,rfl⟩:=map_some h
  exact .inl ⟨rfl,y,zs,e3,e4,rfl⟩
 | false=>
  rw[if_neg Bool.false_ne_true] at h
  exact .inr ⟨rfl,h⟩
theorem Ri{α:Type}{l:List α}{i:Nat}{a:α}{r:List α}(h:l.drop i=a::r):l[i]?=some a/\l.drop (i+1)=r:=by
 constructor
 ·have:=congrArg (fun z=>z[0]?) h
  simpa [List.getElem?_drop] using this
 ·rw[<-List.drop_drop,h];rfl
section
variable {n:Nat} {ix:List Nat} {fi:XL} {T:Tgt} {ft:XT} {fe:XE}
theorem ME(hT:∀i∈T.slots,i<n):∀σ H Q,tF K (Zw n ix fi T ft fe) σ H Q->S1 n ix (iF K fi) (gT K T) (Nk K ft) (tF K fe) σ H Q:=fun σ H Q ⟨Rm,s,L,hd,env,e,k⟩=>by
 obtain⟨ls,e1,e⟩:=Zg e
 split at e
 case isFalse=>cases e
 rename_i hlen
 obtain⟨ys,e2,rfl⟩:=map_some e
 refine⟨Rm,s,ls,hd,env,e1,fun J H1 s1 jis=>?_⟩
 have hd1:∀p,Rm p->W3 (H1 p):=fun p hp=>Same.mut s1 (hd p hp)
 refine⟨fun i m vs Hc=>m=ls.length-i/\i<=ls.length/\Same H1 Hc/\∃dn Yh fp,ys=dn++Yh/\dn.length<=i/\Wq T ft fe (Yl n ix s) (ls.drop i)=some Yh/\Iss K Hc dn vs fp/\∀p∈fp,¬Rm p,
  ⟨ls.length,by simp,Nat.zero_le _,Same.refl H1,[],ys,[],rfl,Nat.le_refl _,e2,Iss.nil,fun p hp=>by simp at hp⟩,?_⟩
 rintro i m vs Hc ⟨rfl,hi,sc,dn,Yh,fp,rfl,hdl,ec,iv,nv⟩
 refine⟨by rw[iv.len];exact Nat.le_of_lt (lt_size (by omega)),?_⟩
 cases q:ls.drop i with
 | nil=>
  have hil:i=ls.length:=by
   have:=congrArg List.length q
   rw[List.length_drop] at this
   simp at this;omega
  subst hil;rw[q] at ec;cases ec
  refine .inl ⟨jis.stop Hc (Same.ab sc),fun p hp=>k _ _ (p::fp) (s1.trans (sc.trans (Same.new hp _))) ?_ fun a ha z=>?_⟩
  ·rw[List.append_nil]
   exact Is.lst Zs (iv.mono (Same.new hp _))
  ·rcases List.mem_cons.mp ha with rfl | ha
   ·exact Xj (Same.mut (s1.trans sc) (hd a z)) hp
   ·exact nv a ha z
 | cons l r=>
  obtain⟨hl,hr⟩:=Ri q
  have hilt:i<ls.length:=(List.getElem?_eq_some_iff.mp hl).1
  rw[q] at ec
  obtain⟨sb,c,eb,et,alt⟩:=Rh ec
  refine .inr ⟨jis.go Hc i l (Same.ab sc) hl,fun vs' H'=>Same H1 H'/\∃dn' rest' fp',dn++Yh=dn'++rest'/\dn'.length<=i+1/\Wq T ft fe (Yl n ix s) (ls.drop (i+1))=some rest'/\Iss K H' dn' vs' fp'/\∀p∈fp',¬Rm p,
   fun vs' H' h'=>⟨ls.length-(i+1),by omega,rfl,hilt,h'.1,h'.2⟩,fun x H2 y=>?_⟩
  obtain⟨s2,fx,ix',nx⟩:=jis.yld Hc i l x H2 (Same.ab sc) hl y
  have hd2:∀p,Rm p->W3 (H2 p):=fun p hp=>Same.mut (sc.trans s2) (hd1 p hp)
  obtain⟨bl,bv,bf,rfl,bi,_,bsub,buse⟩:=Pc (K:=K) ix' eb
  have env2:EnvIs K Rm H2 (Yl n ix s) (ZZ n ix σ):=(env.mono (s1.trans (sc.trans s2))).comp
  have env3:=env2.setAll (is:=T.slots) (Oj n ix s σ) bi fun p hp=>(nx p (bsub p hp)).2
  refine buse _ _ ⟨Vc hT,Rm,_,c,hd2,env3,et,fun H3 s3=>?_⟩
  have hd3:∀p,Rm p->W3 (H3 p):=fun p hp=>Same.mut s3 (hd2 p hp)
  rcases alt with⟨rfl,y',zs,ey,ez,rfl⟩ | ⟨rfl,ez⟩
  ·refine EV ?_
   refine⟨Rm,_,y',hd3,env3.mono s3,ey,fun v H4 f4 s4 i4 n4=>?_⟩
   refine⟨sc.trans (s2.trans (s3.trans s4)),dn++[y'],zs,fp++f4,by rw[List.append_assoc];rfl,by rw[List.length_append];simp;exact hdl,by rw[hr];exact ez,(iv.mono (s2.trans (s3.trans s4))).append (Iss.one i4),fun p hp=>?_⟩
   rcases List.mem_append.mp hp with h | h
   ·exact nv p h
   ·exact n4 p h
  ·refine EU ?_
   exact⟨sc.trans (s2.trans s3),dn,Yh,fp,rfl,Nat.le_succ_of_le hdl,by rw[hr];exact ez,iv.mono (s2.trans s3),nv⟩
theorem MF(hT:∀i∈T.slots,i<n):∀σ H Q,tM K (Zw n ix fi T ft fe) σ H Q->S1 n ix (iF K fi) (gT K T) (Nk K ft) (tM K fe) σ H Q:=fun σ H Q ⟨s,L,env,e,k⟩=>by
 obtain⟨ls,e1,e⟩:=Zg e
 split at e
 case isFalse=>cases e
 rename_i hlen
 obtain⟨ys,e2,rfl⟩:=map_some e
 have hd:∀(H:Hp) p,(fun _=>False:Addr->Prop) p->W3 (H p):=fun _ _ z=>z.elim
 refine⟨fun _=>False,s,ls,hd H,env,e1,fun J H1 s1 jis=>?_⟩
 refine⟨fun i m vs Hc=>m=ls.length-i/\i<=ls.length/\Same H1 Hc/\∃dn Yh fp,ys=dn++Yh/\dn.length<=i/\Wq T ft fe (Yl n ix s) (ls.drop i)=some Yh/\Iss K Hc dn vs fp/\fp.Nodup/\∀p∈fp,H1 p=none/\W3 (Hc p),
  ⟨ls.length,by simp,Nat.zero_le _,Same.refl H1,[],ys,[],rfl,Nat.le_refl _,e2,Iss.nil,List.nodup_nil,fun p hp=>by simp at hp⟩,?_⟩
 rintro i m vs Hc ⟨rfl,hi,sc,dn,Yh,fp,rfl,hdl,ec,iv,dv,nv⟩
 refine⟨by rw[iv.len];exact Nat.le_of_lt (lt_size (by omega)),?_⟩
 cases q:ls.drop i with
 | nil=>
  have hil:i=ls.length:=by
   have:=congrArg List.length q
   rw[List.length_drop] at this
   simp at this;omega
  subst hil;rw[q] at ec;cases ec
  refine .inl ⟨jis.stop Hc (Same.ab sc),fun p hp=>k _ _ (p::fp) (s1.trans (sc.trans (Same.new hp _))) ?_ (List.nodup_cons.mpr ⟨fun z=>Xj (nv p z).2 hp,dv⟩) fun a ha=>?_⟩
  ·rw[List.append_nil]
   exact Is.lst Zs (iv.mono (Same.new hp _))
  ·rcases List.mem_cons.mp ha with rfl | ha
   ·exact⟨Same.off (s1.trans sc) hp,by rw[Zs];exact True.intro⟩
   ·exact⟨Same.off s1 (nv a ha).1,Same.mut (Same.new hp _) (nv a ha).2⟩
 | cons l r=>
  obtain⟨hl,hr⟩:=Ri q
  have hilt:i<ls.length:=(List.getElem?_eq_some_iff.mp hl).1
  rw[q] at ec
  obtain⟨sb,c,eb,et,alt⟩:=Rh ec
  refine .inr ⟨jis.go Hc i l (Same.ab sc) hl,fun vs' H'=>Same H1 H'/\∃dn' rest' fp',dn++Yh=dn'++rest'/\dn'.length<=i+1/\Wq T ft fe (Yl n ix s) (ls.drop (i+1))=some rest'/\Iss K H' dn' vs' fp'/\fp'.Nodup/\∀p∈fp',H1 p=none/\W3 (H' p),
   fun vs' H' h'=>⟨ls.length-(i+1),by omega,rfl,hilt,h'.1,h'.2⟩,fun x H2 y=>?_⟩
  obtain⟨s2,fx,ix',nx⟩:=jis.yld Hc i l x H2 (Same.ab sc) hl y
  obtain⟨bl,bv,bf,rfl,bi,_,bsub,buse⟩:=Pc (K:=K) ix' eb
  have env2:EnvIs K (fun _=>False) H2 (Yl n ix s) (ZZ n ix σ):=(env.mono (s1.trans (sc.trans s2))).comp
  have env3:=env2.setAll (is:=T.slots) (Oj n ix s σ) bi fun p hp=>(nx p (bsub p hp)).2
  refine buse _ _ ⟨Vc hT,fun _=>False,_,c,hd H2,env3,et,fun H3 s3=>?_⟩
  rcases alt with⟨rfl,y',zs,ey,ez,rfl⟩ | ⟨rfl,ez⟩
  ·refine EV ?_
   refine⟨_,y',env3.mono s3,ey,fun v H4 f4 s4 i4 d4 n4=>?_⟩
   refine⟨sc.trans (s2.trans (s3.trans s4)),dn++[y'],zs,fp++f4,by rw[List.append_assoc];rfl,by rw[List.length_append];simp;exact hdl,by rw[hr];exact ez,(iv.mono (s2.trans (s3.trans s4))).append (Iss.one i4),List.nodup_append.mpr ⟨dv,d4,fun a ha b hb z=>?_⟩,fun p hp=>?_⟩
   ·subst z
    exact Xj (Same.mut (s2.trans s3) (nv a ha).2) (n4 a hb).1
   ·rcases List.mem_append.mp hp with h | h
    ·exact⟨(nv p h).1,Same.mut (s2.trans (s3.trans s4)) (nv p h).2⟩
    ·exact⟨Same.off (sc.trans (s2.trans s3)) (n4 p h).1,(n4 p h).2⟩
  ·refine EU ?_
   exact⟨sc.trans (s2.trans s3),dn,Yh,fp,rfl,Nat.le_succ_of_le hdl,by rw[hr];exact ez,iv.mono (s2.trans s3),dv,fun p hp=>⟨(nv p hp).1,Same.mut (s2.trans s3) (nv p hp).2⟩⟩
end
def Er(X:Cx)(ifs:List Expr)(f:XT):Prop:=Mw X ifs (Nk X.K f)
section
variable {X:Cx} {tg elt iter c:Expr} {ifs:List Expr} {scope:Scope} {pos:Pos} {fi:XL} {T:Tgt} {ft:XT} {fe:XE}
theorem Yi:Er X [] ZG:=fun pins s σ H Q I ⟨Rm,s',c,hd,env,e,k⟩=>by
 cases e
 exact IL pins s σ H Q I (k H (Same.refl H))
theorem SF(h:VT X c ft):Er X [c] ft:=IM h
theorem Xa(own fr:List Str)(ix:List Nat)(hcalm:X.calm=true)(hi:VI X tg iter fi)(S:UE X.N X.env.scope scope own fr ix=true)
  (hg:∀cl C s H ex,PG (ZV X (own++fr) scope cl C s H ex) tg (gT X.K T)) (ht:∀cl C s H ex,Er (ZV X (own++fr) scope cl C s H ex) ifs ft) (he:∀cl C s H ex,VE (ZV X (own++fr) scope cl C s H ex) elt fe)
  (hT:∀i∈T.slots,i<own.length:=by decide) (hs:∀x,foldedSetIterable iter X.env x=pure x:=by intro _;rfl):VE X (.ListComp elt [⟨tg,iter,ifs,0⟩] scope pos) (Zw own.length ix fi T ft fe):=
 PE.imp (Oc own fr ix hcalm hi S hg (fun cl C s H ex=>(show Mw (ZV X (own++fr) scope cl C s H ex) ifs (Nk X.K ft) from ht cl C s H ex)) (fun cl C s H ex=>(show PE (ZV X (own++fr) scope cl C s H ex) elt (tF X.K fe) from he cl C s H ex)) hs) (ME hT)
theorem U7(own fr:List Str)(ix:List Nat)(hcalm:X.calm=true)(hi:VI X tg iter fi)(S:UE X.N X.env.scope scope own fr ix=true)
  (hg:∀cl C s H ex,PG (ZV X (own++fr) scope cl C s H ex) tg (gT X.K T)) (ht:∀cl C s H ex,Er (ZV X (own++fr) scope cl C s H ex) ifs ft) (he:∀cl C s H ex,VM (ZV X (own++fr) scope cl C s H ex) elt fe)
  (hT:∀i∈T.slots,i<own.length:=by decide) (hs:∀x,foldedSetIterable iter X.env x=pure x:=by intro _;rfl):VM X (.ListComp elt [⟨tg,iter,ifs,0⟩] scope pos) (Zw own.length ix fi T ft fe):=
 PE.imp (Oc own fr ix hcalm hi S hg (fun cl C s H ex=>(show Mw (ZV X (own++fr) scope cl C s H ex) ifs (Nk X.K ft) from ht cl C s H ex)) (fun cl C s H ex=>(show PE (ZV X (own++fr) scope cl C s H ex) elt (tM X.K fe) from he cl C s H ex)) hs) (MF hT)
end
def Xq(xs:List PV)(lo hi:Option Int):List PV:=(xs.drop (HT.sIx xs.length 0 lo)).take (HT.sIx xs.length xs.length hi-HT.sIx xs.length 0 lo)
theorem Iss.cut{H:Hp}{l:List PV}{xs:List V}{fp:List Addr}(lo hi:Option Int)(h:Iss K H l xs fp):∃f1,Iss K H (Xq l lo hi) (QY xs lo hi) f1/\∀p∈f1,p∈fp:=by
 unfold Xq QY;rw[h.len]
 obtain⟨f1,a,b⟩:=h.drop (HT.sIx l.length 0 lo)
 obtain⟨f2,c,d⟩:=a.take (HT.sIx l.length l.length hi-HT.sIx l.length 0 lo)
 exact⟨f2,c,fun p hp=>b p (d p hp)⟩
abbrev XO:=ZP->Option (Option Int)
def CD(K:PySem.W.Frag)(f:XO):TO:=fun σ H Q=>∃(Rm:Addr->Prop) (s:ZP) (i:Option Int),(∀p,Rm p->W3 (H p))/\EnvIs K Rm H s σ/\f s=some i/\∀H',Same H H'->Q i H'
def VO(X:Cx)(e:Option Expr)(f:XO):Prop:=PO X e (CD X.K f)
def XM:XO:=fun _=>some none
def YZ(f:XE):XO:=fun s=>match f s with | some (.int i)=>some (some i) | _=>none
def Xr(x:PV)(lo hi:Option Int):Option PV:=match x with | .lst l=>some (.lst (Xq l lo hi)) | .cst l=>some (.lst (Xq l lo hi)) | _=>none
def Xl(g:PV->Option Int->Option Int->Option PV)(a:XE)(lo hi:XO):XE:=fun s=>(a s).bind fun x=>(lo s).bind fun l=>(hi s).bind fun u=>g x l u
theorem Lp{l:List PV}(lo hi:Option Int)(h:ZJ l=true):ZJ (Xq l lo hi)=true:=by
 rw[XY,List.all_eq_true] at *
 intro x hx;unfold Xq at hx
 exact h x (List.mem_of_mem_drop (List.mem_of_mem_take hx))
section
variable {X:Cx} {e:Expr} {lo hi:Option Expr} {p2 pos:Pos} {fa:XE} {fl fh:XO}
theorem YN:VO X none XM:=fun pins s σ H Q I ⟨Rm,s',i,hd,env,e,k⟩=>by
 cases e
 exact IG pins s σ H Q I (k H (Same.refl H))
theorem Yz{e:Expr}(h:VE X e fa):VO X (some e) (YZ fa):=fun pins s σ H Q I ⟨Rm,s',i,hd,env,e,k⟩=>by
 unfold YZ at e
 split at e
 ·cases e
  rename_i j hj
  exact Mr h pins s σ H Q I ⟨Rm,s',.int j,hd,env,hj,fun v H' fp sm i n=>⟨j,i.int_inv.1,k H' sm⟩⟩
 ·cases e
theorem WO(ha:VE X e fa)(hl:VO X lo fl)(hh:VO X hi fh):VE X (.Subscript e (.Slice lo hi none p2) pos) (Xl Xr fa fl fh):=PE.imp (P6 II ha hl hh) fun σ H Q ⟨Rm,s,l,hd,env,e,k⟩=>by
 obtain⟨x,e1,e⟩:=Zg e
 obtain⟨a,e2,e⟩:=Zg e
 obtain⟨b,e3,e⟩:=Zg e
 refine⟨Rm,s,x,hd,env,e1,fun v H1 fp s1 i1 n1=>⟨Rm,s,a,fun p hp=>Same.mut s1 (hd p hp),env.mono s1,e2,fun H2 s2=>⟨Rm,s,b,fun p hp=>Same.mut (s1.trans s2) (hd p hp),env.mono (s1.trans s2),e3,fun H3 s3=>?_⟩⟩⟩
 cases x with
 | lst l=>
  cases e
  obtain⟨p,xs,fq,rfl,hp,hi,rfl⟩:=(i1.mono (s2.trans s3)).lst_inv
  obtain⟨f1,c,d⟩:=hi.cut a b
  refine⟨p,xs,rfl,SqL.of hp,fun q hq=>k _ _ (q::f1) (s1.trans (s2.trans (s3.trans (Same.new hq _)))) (Is.lst Zs (c.mono (Same.new hq _))) fun r hr z=>?_⟩
  rcases List.mem_cons.mp hr with rfl | hr
  ·exact Xj (Same.mut (s1.trans (s2.trans s3)) (hd r z)) hq
  ·exact n1 r (List.mem_cons_of_mem _ (d r hr)) z
 | cst l=>
  cases e
  obtain⟨p,xs,rfl,hp,hi⟩:=(i1.mono (s2.trans s3)).cst_inv
  obtain⟨f1,c,d⟩:=hi.cut a b
  refine⟨p,xs,rfl,hp.sq,fun q hq=>k _ _ (q::f1) (s1.trans (s2.trans (s3.trans (Same.new hq _)))) (Is.lst Zs (c.mono (Same.new hq _))) fun r hr z=>?_⟩
  rcases List.mem_cons.mp hr with rfl | hr
  ·exact Xj (Same.mut (s1.trans (s2.trans s3)) (hd r z)) hq
  ·exact n1 r (d r hr) z
 | _=>cases e
end
end VL
namespace VL
open PySem PySem.Spec PyProof.Rows L2
variable {K:PySem.W.Frag}
structure Rel(K:PySem.W.Frag)(O:List Nat)(H0:Hp)(fps:Nat->List Addr)(s:ZP)(σ:Si)(H:Hp):Prop where
 same:Same H0 H
 len:s.length=σ.length
 is:∀(i:Nat) l,s[i]?=some (some l)->∃v,σ[i]?=some (some v)/\Is K H l v (fps i)
 emp:∀(i:Nat),(∀l,s[i]?≠some (some l))->fps i=[]
 nd:∀i∈O,(fps i).Nodup
 own:∀i∈O,∀p∈fps i,H0 p=none/\W3 (H p)
 dis:∀i∈O,∀j,j≠i->∀p∈fps i,p∉fps j
def Ow(O:List Nat)(fps:Nat->List Addr)(p:Addr):Prop:=∃i∈O,p∈fps i
def Yc(O:List Nat)(s:ZP):ZP:=O.foldl (fun s i=>s.set i none) s
theorem Rj:∀{O:List Nat}{s:ZP}{i:Nat}{l:PV},(Yc O s)[i]?=some (some l)->i∉O/\s[i]?=some (some l)
 | [],s,i,l,h=>⟨by simp,h⟩
 | o::O,s,i,l,h=>by
  obtain⟨h1,h2⟩:=Rj (O:=O) (s:=s.set o none) h
  rw[List.getElem?_set] at h2
  by_cases e:o=i
  ·rw[if_pos e] at h2;split at h2<;>cases h2
  ·rw[if_neg e] at h2
   exact⟨by simp only[List.mem_cons,not_or];exact⟨fun z=>e z.symm,h1⟩,h2⟩
section
variable {O:List Nat} {H0 H H':Hp} {fps:Nat->List Addr} {s:ZP} {σ:Si}
theorem Rel.at(r:Rel K O H0 fps s σ H)(i:Nat){p:Addr}(hp:p∈fps i):∃l v,s[i]?=some (some l)/\σ[i]?=some (some v)/\Is K H l v (fps i):=by
 cases q:s[i]? with
 | none=>rw[r.emp i (fun l z=>by rw[q] at z;cases z)] at hp;simp at hp
 | some o=>cases o with
  | none=>rw[r.emp i (fun l z=>by rw[q] at z;cases z)] at hp;simp at hp
  | some l=>
   obtain⟨v,a,b⟩:=r.is i l q
   exact⟨l,v,rfl,a,b⟩
theorem Rel.dom(r:Rel K O H0 fps s σ H)(i:Nat):∀p∈fps i,H p≠none:=fun p hp=>by
 obtain⟨l,v,_,_,b⟩:=r.at i hp
 exact Is.dom _ _ _ b p hp
theorem Rel.env(r:Rel K O H0 fps s σ H):EnvIs K (fun _=>False) H s σ:=⟨fun i l e=>by
 obtain⟨v,a,b⟩:=r.is i l e
 exact⟨v,_,a,b,fun _ _ z=>z⟩⟩
theorem Rel.envO(r:Rel K O H0 fps s σ H):EnvIs K (Ow O fps) H (Yc O s) σ:=⟨fun i l e=>by
 obtain⟨n,e⟩:=Rj e
 obtain⟨v,a,b⟩:=r.is i l e
 exact⟨v,_,a,b,fun p hp ⟨j,hj,hpj⟩=>r.dis j hj i (fun z=>n (z▸hj)) p hpj hp⟩⟩
theorem Rel.owMut(r:Rel K O H0 fps s σ H):∀p,Ow O fps p->W3 (H p):=fun p ⟨i,hi,hp⟩=>(r.own i hi p hp).2
theorem Rel.grow(r:Rel K O H0 fps s σ H)(e:Same H H'):Rel K O H0 fps s σ H':=
 ⟨r.same.trans e,r.len,fun i l q=>by obtain⟨v,a,b⟩:=r.is i l q;exact⟨v,a,b.mono e⟩,r.emp,r.nd,fun i hi p hp=>⟨(r.own i hi p hp).1,Same.mut e (r.own i hi p hp).2⟩,r.dis⟩
theorem Rel.less{F:Hp}(r:Rel K O F fps s σ H)(e:Same H0 F):Rel K O H0 fps s σ H:=
 ⟨e.trans r.same,r.len,r.is,r.emp,r.nd,fun i hi p hp=>⟨Same.off e (r.own i hi p hp).1,(r.own i hi p hp).2⟩,r.dis⟩
theorem Rel.weak{O':List Nat}(r:Rel K O H0 fps s σ H)(h:∀i∈O',i∈O):Rel K O' H0 fps s σ H:=
 ⟨r.same,r.len,r.is,r.emp,fun i hi=>r.nd i (h i hi),fun i hi=>r.own i (h i hi),fun i hi=>r.dis i (h i hi)⟩
open Classical in
noncomputable def Sv(H:Hp)(Rm:Addr->Prop):Hp:=fun b=>if Rm b then none else H b
theorem Lq{Rm:Addr->Prop}:Same (Sv H Rm) H:=fun b o h=>by
 unfold Sv at h
 split at h
 ·cases h
 ·exact h
theorem Rel.frame(r:Rel K O H0 fps s σ H):Rel K O (Sv H (Ow O fps)) fps s σ H:=
 ⟨Lq,r.len,r.is,r.emp,r.nd,fun i hi p hp=>⟨by unfold Sv;rw[if_pos ⟨i,hi,hp⟩],(r.own i hi p hp).2⟩,r.dis⟩
theorem Rel.under(r:Rel K O H0 fps s σ H):Same H0 (Sv H (Ow O fps)):=fun b o h=>by
 unfold Sv
 rw[if_neg (fun⟨i,hi,hp⟩=>by rw[(r.own i hi b hp).1] at h;cases h)]
 exact r.same b o h
open Classical in
noncomputable def TY(fps:Nat->List Addr)(n:Nat)(i:Nat)(fp:List Addr):Nat->List Addr:=fun j=>if j=i/\i<n then fp else fps j
theorem Yj{n i j:Nat}{fp:List Addr}(h:j≠i):TY fps n i fp j=fps j:=by unfold TY;rw[if_neg (fun z=>h z.1)]
theorem MG{n i:Nat}{fp:List Addr}(h:i<n):TY fps n i fp i=fp:=by unfold TY;rw[if_pos ⟨rfl,h⟩]
theorem Rel.set(r:Rel K O H0 fps s σ H){i:Nat}{l:PV}{v:V}{fp:List Addr}(hi:Is K H l v fp)(ho:i∈O->fp.Nodup/\∀p∈fp,H0 p=none/\W3 (H p))
  (hd:∀j,j≠i->(j∈O\/i∈O)->∀p∈fp,p∉fps j):Rel K O H0 (TY fps s.length i fp) (s.set i (some l)) (σ.set i (some v)) H:=by
 by_cases hlt:i<s.length
 ·have e1:TY fps s.length i fp i=fp:=MG hlt
  refine⟨r.same,by rw[List.length_set,List.length_set];exact r.len,fun j a e=>?_,fun j h=>?_,fun j hj=>?_,fun j hj p hp=>?_,fun j hj k hk p hp=>?_⟩
  ·rw[List.getElem?_set] at e
   by_cases hj:i=j
   ·subst hj
    rw[if_pos rfl,if_pos hlt] at e;cases e;rw[e1]
    exact⟨v,by rw[List.getElem?_set,if_pos rfl,if_pos (by rw[<-r.len];exact hlt)],hi⟩
   ·rw[if_neg hj] at e
    obtain⟨w,h1,h2⟩:=r.is j a e
    rw[Yj (Ne.symm hj)]
    exact⟨w,by rw[List.getElem?_set,if_neg hj];exact h1,h2⟩
  ·by_cases hj:i=j
   ·subst hj
    exact absurd (by rw[List.getElem?_set,if_pos rfl,if_pos hlt]) (h l)
   ·rw[Yj (Ne.symm hj)]
    exact r.emp j fun a z=>h a (by rw[List.getElem?_set,if_neg hj];exact z)
  ·by_cases e:j=i
   ·subst e;rw[e1];exact(ho hj).1
   ·rw[Yj e];exact r.nd j hj
  ·by_cases e:j=i
   ·subst e;rw[e1] at hp;exact(ho hj).2 p hp
   ·rw[Yj e] at hp;exact r.own j hj p hp
  ·by_cases e:j=i
   ·subst e
    rw[e1] at hp;rw[Yj hk]
    exact hd k hk (.inr hj) p hp
   ·rw[Yj e] at hp
    by_cases e2:k=i
    ·subst e2
     rw[e1]
     exact fun z=>hd j e (.inl hj) p z hp
    ·rw[Yj e2];exact r.dis j hj k hk p hp
 ·have e1:s.set i (some l)=s:=List.set_eq_of_length_le (by omega)
  have e2:σ.set i (some v)=σ:=List.set_eq_of_length_le (by rw[<-r.len];omega)
  have e3:TY fps s.length i fp=fps:=by funext j;unfold TY;rw[if_neg (fun z=>hlt z.2)]
  rw[e1,e2,e3];exact r
theorem Rel.mutate(r:Rel K O H0 fps s σ H){i:Nat}(hi:i∈O){p:Addr}(hp:p∈fps i){o:HO}{l':PV}{v:V}{fp':List Addr}(hv:σ[i]?=some (some v))(hlt:i<s.length)
  (h':Is K (upd H p o) l' v fp') (nd:fp'.Nodup) (hm:∀q∈fp',H0 q=none/\W3 (upd H p o q)) (hd:∀j,j≠i->∀q∈fp',q∉fps j) (hmo:W3 (some o)):Rel K O H0 (TY fps s.length i fp') (s.set i (some l')) σ (upd H p o):=by
 have mu:=(r.own i hi p hp).2
 have pn:H0 p=none:=(r.own i hi p hp).1
 have e1:TY fps s.length i fp' i=fp':=MG hlt
 have tk:Fz H (upd H p o):=⟨fun b xs h=>by
  rw[upd_ne (fun z=>by rw[z] at h;rw[h] at mu;exact mu)];exact h,fun b o xs h=>by
  rw[upd_ne (fun z=>by rw[z] at h;rw[h] at mu;exact mu)];exact h,fun b o x h=>by
  rw[upd_ne (fun z=>by rw[z] at h;rw[h] at mu;exact mu)];exact h⟩
 refine⟨fun b u h=>by rw[upd_ne (ZA h pn)];exact r.same b u h,by rw[List.length_set];exact r.len,fun j a e=>?_,fun j h=>?_,fun j hj=>?_,fun j hj q hq=>?_,fun j hj k hk q hq=>?_⟩
 ·rw[List.getElem?_set] at e
  by_cases hj:i=j
  ·subst hj
   rw[if_pos rfl,if_pos hlt] at e;cases e
   rw[e1];exact⟨v,hv,h'⟩
  ·rw[if_neg hj] at e
   obtain⟨w,h1,h2⟩:=r.is j a e
   rw[Yj (Ne.symm hj)]
   refine⟨w,h1,Is.tr tk _ _ _ (fun q hq=>RdK.of fun u hu=>?_) h2⟩
   have ne:q≠p:=fun z=>r.dis i hi j (Ne.symm hj) p hp (z▸hq)
   rw[upd_ne ne];exact hu
 ·by_cases hj:i=j
  ·subst hj
   exact absurd (by rw[List.getElem?_set,if_pos rfl,if_pos hlt]) (h l')
  ·rw[Yj (Ne.symm hj)]
   exact r.emp j fun a z=>h a (by rw[List.getElem?_set,if_neg hj];exact z)
 ·by_cases e:j=i
  ·subst e;rw[e1];exact nd
  ·rw[Yj e];exact r.nd j hj
 ·by_cases e:j=i
  ·subst e;rw[e1] at hq;exact hm q hq
  ·rw[Yj e] at hq
   refine⟨(r.own j hj q hq).1,?_⟩
   have ne:q≠p:=fun z=>r.dis j hj i (Ne.symm e) q hq (z▸hp)
   rw[upd_ne ne];exact(r.own j hj q hq).2
 ·by_cases e:j=i
  ·subst e
   rw[e1] at hq;rw[Yj hk]
   exact hd k hk q hq
  ·rw[Yj e] at hq
   by_cases e2:k=i
   ·subst e2
    rw[e1]
    exact fun z=>hd j e q z hq
   ·rw[Yj e2];exact r.dis j hj k hk q hq
end
def Kep(a b:List Addr):Prop:=a=b\/a=[]
theorem Kep.refl(a:List Addr):Kep a a:=.inl rfl
theorem Kep.trans{a b c:List Addr}(h:Kep a b)(k:Kep b c):Kep a c:=by
 rcases h with rfl | h
 ·exact k
 ·exact .inr h
inductive Out where
 | nx (s:ZP) | rt (l:PV) | bk (s:ZP) | ct (s:ZP)
abbrev XS:=ZP->Option Out
def OutOk(K:PySem.W.Frag)(O W:List Nat)(H0:Hp)(fps:Nat->List Addr)(σ:Si)(D:Uz):Out->Prop
 | .nx s'=>∀fps' σ' H',Rel K O H0 fps' s' σ' H'->(∀j,j∉W->σ'[j]?=σ[j]?/\Kep (fps' j) (fps j))->D.nx σ' H'
 | .bk s'=>∀fps' σ' H',Rel K O H0 fps' s' σ' H'->(∀j,j∉W->σ'[j]?=σ[j]?/\Kep (fps' j) (fps j))->D.bk σ' H'
 | .ct s'=>∀fps' σ' H',Rel K O H0 fps' s' σ' H'->(∀j,j∉W->σ'[j]?=σ[j]?/\Kep (fps' j) (fps j))->D.ct σ' H'
 | .rt l=>∀v fp H',Same H0 H'->Is K H' l v fp->fp.Nodup->(∀p∈fp,H0 p=none/\W3 (H' p))->D.rt v H'
def FN(K:PySem.W.Frag)(O W:List Nat)(f:XS):TS:=fun D σ H=>∃H0 fps s out,Rel K O H0 fps s σ H/\f s=some out/\OutOk K O W H0 fps σ D out
def VS(X:Cx)(O W:List Nat)(st:Stmt)(f:XS):Prop:=PS X st (FN X.K O W f)
def VSs(X:Cx)(O W:List Nat)(st:List Stmt)(f:XS):Prop:=PSs X st (FN X.K O W f)
theorem OutOk.same{O W W':List Nat}{H0:Hp}{fps fps1:Nat->List Addr}{σ σ1:Si}{D:Uz}{out:Out}(h:OutOk K O W' H0 fps σ D out)(k:∀j,j∉W'->σ1[j]?=σ[j]?/\Kep (fps1 j) (fps j))(hs:∀j,j∉W'->j∉W):OutOk K O W H0 fps1 σ1 D out:=by
 cases out with
 | nx s'=>exact fun fps' σ' H' r q=>h fps' σ' H' r fun j hj=>⟨(q j (hs j hj)).1.trans (k j hj).1,(q j (hs j hj)).2.trans (k j hj).2⟩
 | bk s'=>exact fun fps' σ' H' r q=>h fps' σ' H' r fun j hj=>⟨(q j (hs j hj)).1.trans (k j hj).1,(q j (hs j hj)).2.trans (k j hj).2⟩
 | ct s'=>exact fun fps' σ' H' r q=>h fps' σ' H' r fun j hj=>⟨(q j (hs j hj)).1.trans (k j hj).1,(q j (hs j hj)).2.trans (k j hj).2⟩
 | rt l=>exact h
theorem OutOk.less{O W:List Nat}{H0 F:Hp}{fps:Nat->List Addr}{σ:Si}{D:Uz}{out:Out}(h:OutOk K O W H0 fps σ D out)(e:Same H0 F):OutOk K O W F fps σ D out:=by
 cases out with
 | nx s'=>exact fun fps' σ' H' r q=>h fps' σ' H' (r.less e) q
 | bk s'=>exact fun fps' σ' H' r q=>h fps' σ' H' (r.less e) q
 | ct s'=>exact fun fps' σ' H' r q=>h fps' σ' H' (r.less e) q
 | rt l=>exact fun v fp H' sm i d n=>h v fp H' (e.trans sm) i d fun p hp=>⟨Same.off e (n p hp).1,(n p hp).2⟩
def ZH:XS:=fun s=>some (.nx s)
def Zm(f g:XS):XS:=fun s=>(f s).bind fun o=>match o with | .nx s'=>g s' | r=>some r
def Xc(c:XT)(f g:XS):XS:=fun s=>(c s).bind fun k=>if k=true then f s else g s
def ZY(f:XE):XS:=fun s=>(f s).map .rt
def Zn(i:Nat)(f:XE):XS:=fun s=>(f s).map fun l=>.nx (s.set i (some l))
section
variable {X:Cx} {O W W1 W2:List Nat} {st:Stmt} {Yh:List Stmt} {f g:XS} {pos:Pos}
theorem PS.imp{t t':TS}(h:PS X st t)(i:∀D σ H,t' D σ H->t D σ H):PS X st t':=fun pins s σ H D I q=>h pins s σ H D I (i D σ H q)
theorem PSs.imp{t t':TS}(h:PSs X Yh t)(i:∀D σ H,t' D σ H->t D σ H):PSs X Yh t':=fun pins s σ H D I q=>h pins s σ H D I (i D σ H q)
theorem Ja:∀D σ H,FN K O W ZH D σ H->Gp D σ H:=fun D σ H ⟨H0,fps,s,out,r,e,k⟩=>by
 cases e
 exact k fps σ H r fun j _=>⟨rfl,Kep.refl _⟩
theorem ZU:VSs X O [] [] ZH:=PSs.imp Iw Ja
theorem Zo(h:VS X O W st f):VSs X O W [st] f:=Ml h
theorem Zh(h1:VS X O W1 st f)(h2:VSs X O W2 Yh g):VSs X O (W1++W2) (st::Yh) (Zm f g):=PSs.imp (SV h1 h2) fun D σ H ⟨H0,fps,s,out,r,e,k⟩=>by
 obtain⟨o1,e1,e⟩:=Zg e
 have sub1:∀j,j∉W1++W2->j∉W1:=fun j hj z=>hj (List.mem_append_left _ z)
 have sub2:∀j,j∉W1++W2->j∉W2:=fun j hj z=>hj (List.mem_append_right _ z)
 refine⟨H0,fps,s,o1,r,e1,?_⟩
 cases o1 with
 | nx s1=>
  intro fps1 σ1 H1 r1 q1
  exact⟨H0,fps1,s1,out,r1,e,k.same (fun j hj=>q1 j (sub1 j hj)) sub2⟩
 | bk s1=>cases e;exact fun fps' σ' H' r' q'=>k fps' σ' H' r' fun j hj=>q' j (sub1 j hj)
 | ct s1=>cases e;exact fun fps' σ' H' r' q'=>k fps' σ' H' r' fun j hj=>q' j (sub1 j hj)
 | rt l=>cases e;exact k
theorem YI{c:Expr}{a b:List Stmt}{fc:XT}(hc:VT X c fc)(ha:VSs X O W1 a f)(hb:VSs X O W2 b g):VS X O (W1++W2) (.If c a b pos) (Xc fc f g):=PS.imp (Gq hc ha hb) fun D σ H ⟨H0,fps,s,out,r,e,k⟩=>by
 obtain⟨c,e1,e⟩:=Zg e
 have sub1:∀j,j∉W1++W2->j∉W1:=fun j hj z=>hj (List.mem_append_left _ z)
 have sub2:∀j,j∉W1++W2->j∉W2:=fun j hj z=>hj (List.mem_append_right _ z)
 refine⟨fun _=>False,s,c,fun _ z=>z.elim,r.env,e1,fun H1 s1=>?_⟩
 cases c with
 | true=>
  rw[if_pos rfl] at e ⊢
  exact⟨H0,fps,s,out,r.grow s1,e,k.same (fun j _=>⟨rfl,Kep.refl _⟩) sub1⟩
 | false=>
  rw[if_neg Bool.false_ne_true] at e ⊢
  exact⟨H0,fps,s,out,r.grow s1,e,k.same (fun j _=>⟨rfl,Kep.refl _⟩) sub2⟩
theorem ZT{e:Expr}{fe:XE}(he:VM X e fe):VS X O [] (.Return (some e) pos) (ZY fe):=PS.imp (Kq he) fun D σ H ⟨H0,fps,s,out,r,e,k⟩=>by
 obtain⟨l,e1,rfl⟩:=map_some e
 exact⟨s,l,r.env,e1,fun v H' fp sm i d n=>k v fp H' (r.same.trans sm) i d fun p hp=>⟨Same.off r.same (n p hp).1,(n p hp).2⟩⟩
theorem Pd{e:Expr}{i:Nat}(he:PE X e (RW i))(hi:i∈O:=by decide):VS X O [] (.Return (some e) pos) (ZY (Za i)):=PS.imp (Kq he) fun D σ H ⟨H0,fps,s,out,r,e,k⟩=>by
 obtain⟨l,e1,rfl⟩:=map_some e
 obtain⟨v,a,b⟩:=r.is i l (Qt e1)
 exact⟨v,a,k v _ H r.same b (r.nd i hi) (r.own i hi)⟩
theorem MH{t:TE}{i:Nat}{fe:XE}(ht:∀σ H Q,tM K fe σ H Q->t σ H Q):∀D σ H,FN K O [i] (Zn i fe) D σ H->QW t (US i) D σ H:=fun D σ H ⟨H0,fps,s,out,r,e,k⟩=>by
 obtain⟨l,e1,rfl⟩:=map_some e
 refine ht σ H _ ⟨s,l,r.env,e1,fun v H' fp sm is d n=>?_⟩
 refine k _ _ H' ((r.grow sm).set (i:=i) is (fun _=>⟨d,fun p hp=>⟨Same.off r.same (n p hp).1,(n p hp).2⟩⟩) fun j _ _ p hp z=>r.dom j p z (n p hp).1) fun j hj=>?_
 have:j≠i:=by simpa using hj
 exact⟨by rw[List.getElem?_set,if_neg (Ne.symm this)],.inl (Yj this)⟩
theorem Zy{i:Nat}{x:Str}{e:Expr}{fe:XE}{pos':Pos}(hN:X.N.Nodup)(hi:X.N[i]?=some x)(hx:Ew X.env.scope x)(he:VM X e fe)(hs:swapsWith e (some (.Name x pos')) pos.line X.env=pure false:=by rfl)(hf:X.fn x=true\/X.env.scope.names.lookup x=some .local:=by first | exact .inl rfl | exact .inr rfl | assumption) :
  VS X O [i] (.Assign [.Name x pos'] e pos) (Zn i fe):=PS.imp (Kr hN hi hx he hs hf) (MH fun _ _ _ h=>h)
end
def U8(T:Tgt)(fb:XS):List PV->ZP->Option Out
 | [],s=>some (.nx s)
 | l::r,s=>(Wx T l s).bind fun s1=>(fb s1).bind fun o=>match o with | .nx s2=>U8 T fb r s2 | .ct s2=>U8 T fb r s2 | .bk s2=>some (.nx s2) | .rt v=>some (.rt v)
def Xf(O:List Nat)(fi:XL)(T:Tgt)(fb:XS):XS:=fun s=>(fi (Yc O s)).bind fun ls=>U8 T fb ls s
theorem Rel.setAll{O:List Nat}{H0 H:Hp}:∀{is:List Nat}{ls:List PV}{vs:List V}{fs:List Addr}{fps:Nat->List Addr}{s:ZP}{σ:Si},Rel K O H0 fps s σ H->Iss K H ls vs fs->ls.length=is.length->(∀i∈is,i∉O)->(∀i∈O,∀p∈fps i,p∉fs)->
  ∃fps',Rel K O H0 fps' (VL.setAll is ls s) (Y9 is vs σ) H/\∀j,j∉is->(Y9 is vs σ)[j]?=σ[j]?/\Kep (fps' j) (fps j)
 | [],ls,vs,fs,fps,s,σ,r,_,_,_,_=>⟨fps,by unfold VL.setAll Y9;exact r,fun j _=>⟨by unfold Y9;rfl,Kep.refl _⟩⟩
 | i::is,[],vs,fs,fps,s,σ,r,_,hl,_,_=>by simp at hl
 | i::is,l::ls,vs,fs,fps,s,σ,r,hi,hl,hO,hd=>by
  obtain⟨x,rr,f1,f2,rfl,h1,h2,rfl⟩:=hi.inv
  have hiO:=hO i List.mem_cons_self
  have r1:=r.set (i:=i) h1 (fun z=>absurd z hiO) fun j hj hjo p hp z=>by
   rcases hjo with hjo | hjo
   ·exact hd j hjo p z (List.mem_append_left _ hp)
   ·exact absurd hjo hiO
  obtain⟨fps',r2,q2⟩:=Rel.setAll (is:=is) r1 h2 (by simpa using hl) (fun j hj=>hO j (List.mem_cons_of_mem _ hj)) fun j hj p hp z=>by
   have hji:j≠i:=fun e=>hiO (by rw[<-e];exact hj)
   rw[Yj hji] at hp
   exact hd j hj p hp (List.mem_append_right _ z)
  refine⟨fps',r2,fun j hj=>?_⟩
  have hji:j≠i:=fun e=>hj (e▸List.mem_cons_self)
  obtain⟨a,b⟩:=q2 j (fun z=>hj (List.mem_cons_of_mem _ z))
  exact⟨a.trans (by rw[List.getElem?_set,if_neg (Ne.symm hji)]),b.trans (.inl (Yj hji))⟩
section
variable {O W:List Nat} {T:Tgt} {fb:XS}
theorem Jb{H1:Hp}{fps:Nat->List Addr}{s:ZP}{σ:Si}{D:Uz}{J:It}{ls:List PV}{out:Out}(r:Rel K O (Sv H1 (Ow O fps)) fps s σ H1)(jis:Cc K (Ow O fps) H1 J ls)(e:U8 T fb ls s=some out)(hT:∀i∈T.slots,i∉O)
  (k:OutOk K O (T.slots++W) (Sv H1 (Ow O fps)) fps σ D out):D8 (gT K T) (FN K O W fb) D σ J H1:=by
 have subT:∀j,j∉T.slots++W->j∉T.slots:=fun j hj z=>hj (List.mem_append_left _ z)
 have subW:∀j,j∉T.slots++W->j∉W:=fun j hj z=>hj (List.mem_append_right _ z)
 refine⟨fun i m σ' H'=>m=ls.length-i/\i<=ls.length/\∃fps' s',Rel K O (Sv H1 (Ow O fps)) fps' s' σ' H'/\U8 T fb (ls.drop i) s'=some out/\∀j,j∉T.slots++W->σ'[j]?=σ[j]?/\Kep (fps' j) (fps j),
  ⟨ls.length,by simp,Nat.zero_le _,fps,s,r,e,fun j _=>⟨rfl,Kep.refl _⟩⟩,?_⟩
 rintro i m σ' H' ⟨rfl,hi,fps',s',r',e',q'⟩
 have ab:Ab (Ow O fps) H1 H':=fun b o h n=>r'.same b o (by unfold Sv;rw[if_neg n];exact h)
 cases q:ls.drop i with
 | nil=>
  have hil:i=ls.length:=by
   have:=congrArg List.length q
   rw[List.length_drop] at this
   simp at this;omega
  subst hil
  rw[q] at e'
  cases e'
  exact .inl ⟨jis.stop H' ab,k fps' σ' H' r' q'⟩
 | cons l rr=>
  obtain⟨hl,hr⟩:=Ri q
  have hilt:i<ls.length:=(List.getElem?_eq_some_iff.mp hl).1
  rw[q] at e'
  unfold U8 at e'
  obtain⟨sb,eb,e'⟩:=Zg e'
  obtain⟨o,eo,e'⟩:=Zg e'
  refine .inr ⟨jis.go H' i l ab hl,fun σ2 H2=>∃fps2 s2,Rel K O (Sv H1 (Ow O fps)) fps2 s2 σ2 H2/\U8 T fb (ls.drop (i+1)) s2=some out/\∀j,j∉T.slots++W->σ2[j]?=σ[j]?/\Kep (fps2 j) (fps j),
   fun σ2 H2 h2=>⟨ls.length-(i+1),by omega,rfl,hilt,h2⟩,fun x H2 y=>?_⟩
  obtain⟨s2,fx,ix,nx⟩:=jis.yld H' i l x H2 ab hl y
  obtain⟨bl,bv,bf,rfl,bi,blen,bsub,buse⟩:=Pc (K:=K) ix eb
  obtain⟨fps3,r3,q3⟩:=Rel.setAll (is:=T.slots) (r'.grow s2) bi blen hT fun j hj p hp z=>by
   obtain⟨n1,n2⟩:=nx p (bsub p z)
   have:=(r'.own j hj p hp).1
   unfold Sv at this;rw[if_neg n2] at this
   exact n1 this
  refine buse _ _ ⟨_,fps3,_,o,r3,eo,?_⟩
  have keep:∀j,j∉T.slots++W->(Y9 T.slots bv σ')[j]?=σ[j]?/\Kep (fps3 j) (fps j):=fun j hj=>⟨(q3 j (subT j hj)).1.trans (q' j hj).1,(q3 j (subT j hj)).2.trans (q' j hj).2⟩
  cases o with
  | nx s4=>exact fun fps4 σ4 H4 r4 q4=>⟨fps4,s4,r4,by rw[hr];exact e',fun j hj=>⟨(q4 j (subW j hj)).1.trans (keep j hj).1,(q4 j (subW j hj)).2.trans (keep j hj).2⟩⟩
  | ct s4=>exact fun fps4 σ4 H4 r4 q4=>⟨fps4,s4,r4,by rw[hr];exact e',fun j hj=>⟨(q4 j (subW j hj)).1.trans (keep j hj).1,(q4 j (subW j hj)).2.trans (keep j hj).2⟩⟩
  | bk s4=>
   cases e'
   exact fun fps4 σ4 H4 r4 q4=>k fps4 σ4 H4 r4 fun j hj=>⟨(q4 j (subW j hj)).1.trans (keep j hj).1,(q4 j (subW j hj)).2.trans (keep j hj).2⟩
  | rt v=>
   cases e'
   exact k
end
section
variable {X:Cx} {O W:List Nat} {tg iter:Expr} {body:List Stmt} {fi:XL} {T:Tgt} {fb:XS} {pos:Pos}
theorem XC(hp:PassesOwn (model X.prog X.w) X.A X.env X.xe)(hc:X.calm=true)(hi:VI X tg iter fi)(hg:PG X tg (gT X.K T))(hb:VSs X O W body fb)(hT:∀i∈T.slots,i∉O:=by decide)
  (hs:∀x,foldedSetIterable iter X.env x=pure x:=by intro _;rfl):VS X O (T.slots++W) (.For tg iter body [] pos) (Xf O fi T fb):=PS.imp (G6 hp hc hi hg hb hs) fun D σ H ⟨H0,fps,s,out,r,e,k⟩=>by
 obtain⟨ls,e1,e⟩:=Zg e
 refine⟨Ow O fps,Yc O s,ls,r.owMut,r.envO,e1,fun J H1 s1 jis=>?_⟩
 exact Jb (r.grow s1).frame jis e hT (k.less (r.grow s1).under)
end
end VL
namespace VL
open PySem PySem.Spec PyProof.Rows L2
variable {K:PySem.W.Frag}
section
variable {O:List Nat} {H0 H H':Hp} {fps:Nat->List Addr} {s:ZP} {σ:Si}
theorem Rel.lst_at(r:Rel K O H0 fps s σ H){i:Nat}(hi:i∈O){m:List PV}(e:s[i]?=some (some (.lst m))):∃p xs fq,σ[i]?=some (some (.ref p))/\H p=some (.lst xs)/\Iss K H m xs fq/\fps i=p::fq:=by
 obtain⟨v,a,b⟩:=r.is i _ e
 obtain⟨p,xs,fq,rfl,hp,hm,ef⟩:=b.lst_inv
 exact⟨p,xs,fq,a,hp,hm,ef⟩
theorem Qw{α:Type}{l:List α}{i:Nat}{a:α}(h:l[i]?=some a):i<l.length:=(List.getElem?_eq_some_iff.mp h).1
theorem TK.upd'{p:Addr}{o:HO}(mu:W3 (H p)):Fz H (L2.upd H p o):=⟨fun b xs h=>by
 rw[upd_ne (fun z=>by rw[z] at h;rw[h] at mu;exact mu)];exact h,fun b o xs h=>by
 rw[upd_ne (fun z=>by rw[z] at h;rw[h] at mu;exact mu)];exact h,fun b o x h=>by
 rw[upd_ne (fun z=>by rw[z] at h;rw[h] at mu;exact mu)];exact h⟩
theorem RdK.upd_ne{p q:Addr}{o:HO}(ne:q≠p):RdK H (L2.upd H p o) q:=RdK.of fun u hu=>by rw[L2.upd_ne ne];exact hu
theorem Rel.relist(r:Rel K O H0 fps s σ H){i:Nat}(hi:i∈O){m m':List PV}(e:s[i]?=some (some (.lst m))){p:Addr}{fq fq':List Addr}{xs':List V}(ef:fps i=p::fq)(hv:σ[i]?=some (some (.ref p)))
  (h':Iss K H m' xs' fq') (nd:(p::fq').Nodup) (hf:∀q∈fq',q∈fq\/((H0 q=none/\W3 (H q))/\∀j,q∉fps j)):Rel K O H0 (TY fps s.length i (p::fq')) (s.set i (some (.lst m'))) σ (L2.upd H p (.lst xs')):=by
 have hp:p∈fps i:=by rw[ef];exact List.mem_cons_self
 have mu:=(r.own i hi p hp).2
 have np:p∉fq':=(List.nodup_cons.mp nd).1
 refine r.mutate hi hp hv (Qw e) (Is.lst Zs (Iss.tr (TK.upd' mu) _ _ _ (fun q hq=>RdK.upd_ne fun z=>np (z▸hq)) h')) nd (fun q hq=>?_) (fun j hj q hq z=>?_) True.intro
 ·rcases List.mem_cons.mp hq with rfl | hq
  ·exact⟨(r.own i hi q hp).1,by rw[Zs];exact True.intro⟩
  ·have ne:q≠p:=fun z=>np (z▸hq)
   rw[L2.upd_ne ne]
   rcases hf q hq with h | h
   ·exact r.own i hi q (by rw[ef];exact List.mem_cons_of_mem _ h)
   ·exact h.1
 ·rcases List.mem_cons.mp hq with rfl | hq
  ·exact r.dis i hi j hj q hp z
  ·rcases hf q hq with h | h
   ·exact r.dis i hi j hj q (by rw[ef];exact List.mem_cons_of_mem _ h) z
   ·exact h.2 j z
end
def NG(s:ZP)(i:Nat):Option (List PV):=match s[i]? with | some (some (.lst m))=>some m | _=>none
def Lr:PV->Option Int
 | .int k=>some k
 | _=>none
def E5:PV->Option (List PV)
 | .lst k=>some k
 | _=>none
theorem WQ{s:ZP}{i:Nat}{m:List PV}(h:NG s i=some m):s[i]?=some (some (.lst m)):=by
 unfold NG at h;split at h
 ·cases h;assumption
 ·cases h
theorem VN{a:PV}{k:Int}(h:Lr a=some k):a = .int k:=by
 unfold Lr at h;split at h
 ·cases h;rfl
 ·cases h
theorem Ol{a:PV}{k:List PV}(h:E5 a=some k):a = .lst k:=by
 unfold E5 at h;split at h
 ·cases h;rfl
 ·cases h
def gd(c:Bool):Option Unit:=if c=true then some () else none
theorem V8{c:Bool}{u:Unit}(h:gd c=some u):c=true:=by
 unfold gd at h;split at h
 ·assumption
 ·cases h
def Xm(i:Nat)(f:XE):XS:=fun s=>(f s).bind fun l=>(NG s i).bind fun m=>(gd (decide (m.length<=10000))).bind fun _=>some (.nx (s.set i (some (.lst (m++[l])))))
def Xn(i:Nat)(f:XE):XS:=fun s=>(f s).bind fun l=>(E5 l).bind fun n=>(NG s i).bind fun m=>(gd (decide (m.length+n.length<=10000))).bind fun _=>some (.nx (s.set i (some (.lst (m++n)))))
def V9(i:Nat)(fk:XE)(f:XE):XS:=fun s=>(fk s).bind fun k=>(f s).bind fun l=>(Lr k).bind fun k=>(NG s i).bind fun m=>(gd (ZJ m&&Z0 l&&decide (0<=k/\k<=1000000/\m.length<=10000))).bind fun _=>some (.nx (s.set i (some (.lst (m.take k.toNat++l::m.drop k.toNat)))))
def TZ(i:Nat)(fk:XE)(f:XE):XS:=fun s=>(f s).bind fun l=>(fk s).bind fun k=>(Lr k).bind fun k=>(NG s i).bind fun m=>(gd (ZJ m&&Z0 l)).bind fun _=>(Nj m.length k).map fun j=>.nx (s.set i (some (.lst (m.set j l))))
section
variable {X:Cx} {O:List Nat} {i:Nat} {st:Stmt} {f fk:XE}
theorem DF{H:Hp}{p:Addr}{xs:List V}(h:H p=some (.lst xs)):D5 K "list" (.ref p) H:=.inl ⟨rfl,_,SqL.of h⟩
theorem Om{s:ZP}{σ:Si}{fps:Nat->List Addr}{fp:List Addr}:∀j,j∉[i]->σ[j]?=σ[j]?/\Kep (TY fps s.length i fp j) (fps j):=fun j hj=>⟨rfl,.inl (Yj (by simpa using hj))⟩
theorem T1(h:PS X st (Mm (ES X.K "list" Mu (RW i) (SY (tM X.K f) Nt))))(hi:i∈O:=by decide):VS X O [i] st (Xm i f):=PS.imp h fun D σ H ⟨H0,fps,s,out,r,e,k⟩=>by
 obtain⟨l,e1,e⟩:=Zg e
 obtain⟨m,em,e⟩:=Zg e
 obtain⟨_,eg,e⟩:=Zg e
 have em:=WQ em
 have hlen:=of_decide_eq_true (V8 eg)
 cases e
 obtain⟨p,xs,fq,hv,hp,hm,ef⟩:=r.lst_at hi em
 refine⟨.ref p,hv,DF hp,s,l,r.env,e1,fun y H2 fe s2 i2 d2 n2=>?_⟩
 refine⟨p,xs,y,rfl,rfl,s2 _ _ hp,by rw[hm.len];exact lt_size (by omega),?_⟩
 have r2:=r.grow s2
 have fr:∀q∈fe,∀j,q∉fps j:=fun q hq j z=>r.dom j q z (n2 q hq).1
 refine k _ _ _ (r2.relist hi em ef hv ((hm.mono s2).append (Iss.one i2)) ?_ fun q hq=>?_) Om
 ·have nd:=r.nd i hi
  rw[ef] at nd;rw[<-List.cons_append]
  exact List.nodup_append.mpr ⟨nd,d2,fun a ha b hb z=>fr b hb i (by rw[ef,<-z];exact ha)⟩
 ·rcases List.mem_append.mp hq with h | h
  ·exact .inl h
  ·exact .inr ⟨⟨Same.off r.same (n2 q h).1,(n2 q h).2⟩,fr q h⟩
theorem Qx(h:PS X st (Mm (ES X.K "list" Mv (RW i) (SY (tM X.K f) Nt))))(hi:i∈O:=by decide):VS X O [i] st (Xn i f):=PS.imp h fun D σ H ⟨H0,fps,s,out,r,e,k⟩=>by
 obtain⟨l,e1,e⟩:=Zg e
 obtain⟨n,en,e⟩:=Zg e
 obtain⟨m,em,e⟩:=Zg e
 obtain⟨_,eg,e⟩:=Zg e
 rw[Ol en] at e1;have em:=WQ em
 have hlen:=of_decide_eq_true (V8 eg)
 cases e
 obtain⟨p,xs,fq,hv,hp,hm,ef⟩:=r.lst_at hi em
 refine⟨.ref p,hv,DF hp,s,_,r.env,e1,fun y H2 fe s2 i2 d2 n2=>?_⟩
 obtain⟨b,zs,fb,rfl,hb,hz,rfl⟩:=i2.lst_inv
 have hb':H2 b=some (.lst zs):=hb
 refine⟨p,b,xs,zs,rfl,rfl,s2 _ _ hp,hb',by rw[hm.len,hz.len];exact Nat.le_of_lt (lt_size (by omega)),?_⟩
 have r2:=r.grow s2
 have fr:∀q∈fb,∀j,q∉fps j:=fun q hq j z=>r.dom j q z (n2 q (List.mem_cons_of_mem _ hq)).1
 refine k _ _ _ (r2.relist hi em ef hv ((hm.mono s2).append hz) ?_ fun q hq=>?_) Om
 ·have nd:=r.nd i hi
  rw[ef] at nd;rw[<-List.cons_append]
  exact List.nodup_append.mpr ⟨nd,(List.nodup_cons.mp d2).2,fun a ha b hb z=>fr b hb i (by rw[ef,<-z];exact ha)⟩
 ·rcases List.mem_append.mp hq with h | h
  ·exact .inl h
  ·exact .inr ⟨⟨Same.off r.same (n2 q (List.mem_cons_of_mem _ h)).1,(n2 q (List.mem_cons_of_mem _ h)).2⟩,fr q h⟩
theorem Iss.pureEq{H:Hp}{l:List PV}{xs:List V}{fp:List Addr}(h:Iss K H l xs fp)(hp:ZJ l=true):Iss K H l xs []:=by
 have:=Iss.pure _ _ _ hp h
 subst this;exact h
theorem Rk{l:List PV}(n:Nat)(h:ZJ l=true):ZJ (l.take n)=true:=by
 rw[XY,List.all_eq_true] at *
 exact fun x hx=>h x (List.mem_of_mem_take hx)
theorem Rl{l:List PV}(n:Nat)(h:ZJ l=true):ZJ (l.drop n)=true:=by
 rw[XY,List.all_eq_true] at *
 exact fun x hx=>h x (List.mem_of_mem_drop hx)
theorem Ls(h:PS X st (Mm (ES X.K "list" Mx (RW i) (SY (tF X.K fk) (SY (tF X.K f) Nt)))))(hi:i∈O:=by decide):VS X O [i] st (V9 i fk f):=PS.imp h fun D σ H ⟨H0,fps,s,out,r,e,k⟩=>by
 obtain⟨kk,e0,e⟩:=Zg e
 obtain⟨l,e1,e⟩:=Zg e
 obtain⟨ki,ek,e⟩:=Zg e
 obtain⟨m,em,e⟩:=Zg e
 obtain⟨_,eg,e⟩:=Zg e
 rw[VN ek] at e0;have em:=WQ em;have hc:=V8 eg;simp only[Bool.and_eq_true,decide_eq_true_eq] at hc
 obtain⟨⟨pm,pl⟩,k0,k1,hlen⟩:=hc
 cases e
 obtain⟨p,xs,fq,hv,hp,hm,ef⟩:=r.lst_at hi em
 refine⟨.ref p,hv,DF hp,fun _=>False,s,_,fun _ z=>z.elim,r.env,e0,fun z H1 fz s1 i1 _=>⟨fun _=>False,s,l,fun _ z=>z.elim,r.env.mono s1,e1,fun y H2 fe s2 i2 _=>?_⟩⟩
 have s12:=s1.trans s2
 obtain⟨rfl,_⟩:=i1.int_inv
 have:=Is.pure _ _ _ pl i2
 subst this
 refine⟨p,xs,ki,y,rfl,rfl,s12 _ _ hp,k0,by omega,by rw[hm.len];exact lt_size (by omega),?_⟩
 have hm':=(hm.mono s12).pureEq pm
 obtain⟨f1,a1,_⟩:=hm'.take ki.toNat
 obtain⟨f2,a2,_⟩:=hm'.drop ki.toNat
 have a1:=a1.pureEq (Rk _ pm)
 have a2:=a2.pureEq (Rl _ pm)
 exact k _ _ _ ((r.grow s12).relist hi em ef hv (a1.append (Iss.cons i2 a2)) (by simp) fun q hq=>by simp at hq) Om
theorem Jc(h:PS X st (QW (tF X.K f) (G4 (RW i) (tF X.K fk) KG)))(hi:i∈O:=by decide):VS X O [i] st (TZ i fk f):=PS.imp h fun D σ H ⟨H0,fps,s,out,r,e,k⟩=>by
 obtain⟨l,e0,e⟩:=Zg e
 obtain⟨kk,e1,e⟩:=Zg e
 obtain⟨ki,ek,e⟩:=Zg e
 obtain⟨m,em,e⟩:=Zg e
 obtain⟨_,eg,e⟩:=Zg e
 rw[VN ek] at e1;have em:=WQ em;have hc:=V8 eg;simp only[Bool.and_eq_true] at hc
 obtain⟨pm,pl⟩:=hc
 obtain⟨j,ej,rfl⟩:=map_some e
 obtain⟨p,xs,fq,hv,hp,hm,ef⟩:=r.lst_at hi em
 refine⟨fun _=>False,s,l,fun _ z=>z.elim,r.env,e0,fun y H1 fy s1 i1 _=>?_⟩
 refine⟨.ref p,hv,fun _=>False,s,_,fun _ z=>z.elim,r.env.mono s1,e1,fun z H2 fz s2 i2 _=>?_⟩
 have s12:=s1.trans s2
 obtain⟨rfl,_⟩:=i2.int_inv
 have:=Is.pure _ _ _ pl i1
 subst this
 refine⟨p,xs,ki,j,rfl,rfl,s12 _ _ hp,by rw[hm.len];exact ej,?_⟩
 exact k _ _ _ ((r.grow s12).relist hi em ef hv (Iss.setP j pm pl ((hm.mono s12).pureEq pm) (i1.mono s2)) (by simp) fun q hq=>by simp at hq) Om
end
theorem Iss.setRow{H:Hp}{o:List V}:∀{m:List PV}{xs:List V}{fq:List Addr}{j:Nat}{n n':List PV}{q:Addr},Iss K H m xs fq->m[j]?=some (.lst n)->xs[j]?=some (.ref q)->fq.Nodup->W3 (H q)->ZJ n=true->Iss K (L2.upd H q (.lst o)) n' o []->
  Iss K (L2.upd H q (.lst o)) (m.set j (.lst n')) xs fq
 | [],_,_,_,_,_,_,_,e,_,_,_,_,_=>by simp at e
 | a::m,xs,fq,0,n,n',q,h,e,ex,nd,mu,pn,h'=>by
  obtain⟨x,r,f1,f2,rfl,h1,h2,rfl⟩:=h.inv
  simp at e ex
  subst e ex
  obtain⟨p',zs,fz,e,hp,hz,rfl⟩:=h1.lst_inv
  cases e
  have:=Iss.pure _ _ _ pn hz
  subst this
  have nq:q∉f2:=(List.nodup_cons.mp nd).1
  exact Iss.cons (Is.lst Zs h') (Iss.tr (TK.upd' mu) _ _ _ (fun z hz=>RdK.upd_ne fun e=>nq (e▸hz)) h2)
 | a::m,xs,fq,j+1,n,n',q,h,e,ex,nd,mu,pn,h'=>by
  obtain⟨x,r,f1,f2,rfl,h1,h2,rfl⟩:=h.inv
  simp at e ex
  obtain⟨nd1,nd2,nd3⟩:=List.nodup_append.mp nd
  obtain⟨y,fy,hy,iy,suby⟩:=h2.get e
  rw[ex] at hy;cases hy
  obtain⟨p',zs,fz,e',_,_,rfl⟩:=iy.lst_inv
  cases e'
  have nq:q∉f1:=fun z=>nd3 q z q (suby q List.mem_cons_self) rfl
  exact Iss.cons (Is.tr (TK.upd' mu) _ _ _ (fun z hz=>RdK.upd_ne fun e=>nq (e▸hz)) h1) (Iss.setRow h2 e ex nd2 mu pn h')
def Yo(i:Nat)(fa fb:XE)(f:XE):XS:=fun s=>(f s).bind fun l=>(fa s).bind fun a=>(fb s).bind fun b=>(Lr a).bind fun a=>(Lr b).bind fun b=>(NG s i).bind fun m=>(Nj m.length a).bind fun j=>(m[j]?).bind fun r=>(E5 r).bind fun n=>
 (gd (ZJ n&&Z0 l)).bind fun _=>(Nj n.length b).map fun c=>.nx (s.set i (some (.lst (m.set j (.lst (n.set c l))))))
theorem Ua{X:Cx}{O:List Nat}{i:Nat}{st:Stmt}{f fa fb:XE}(h:PS X st (QW (tF X.K f) (G4 (En (Fm X.K) (RW i) (tF X.K fa)) (tF X.K fb) KG)))(hi:i∈O:=by decide):VS X O [i] st (Yo i fa fb f):=PS.imp h fun D σ H ⟨H0,fps,s,out,r,e,k⟩=>by
 obtain⟨l,e0,e⟩:=Zg e
 obtain⟨a,e1,e⟩:=Zg e
 obtain⟨b,e2,e⟩:=Zg e
 obtain⟨ai,ea,e⟩:=Zg e
 obtain⟨bi,eb,e⟩:=Zg e
 obtain⟨m,em,e⟩:=Zg e
 obtain⟨j,ej,e⟩:=Zg e
 obtain⟨RO,en,e⟩:=Zg e
 obtain⟨n,er,e⟩:=Zg e
 obtain⟨_,eg,e⟩:=Zg e
 rw[VN ea] at e1;rw[VN eb] at e2;rw[Ol er] at en;have em:=WQ em;have hc:=V8 eg;simp only[Bool.and_eq_true] at hc
 obtain⟨pn,pl⟩:=hc
 obtain⟨c,ec,rfl⟩:=map_some e
 obtain⟨p,xs,fq,hv,hp,hm,ef⟩:=r.lst_at hi em
 refine⟨fun _=>False,s,l,fun _ z=>z.elim,r.env,e0,fun y H1 fy s1 i1 _=>?_⟩
 refine⟨.ref p,hv,fun _=>False,s,_,fun _ z=>z.elim,r.env.mono s1,e1,fun z H2 fz s2 i2 _=>?_⟩
 obtain⟨rfl,_⟩:=i2.int_inv
 have s12:=s1.trans s2
 obtain⟨q,f1,hq,iq,subq⟩:=(hm.mono s12).get en
 obtain⟨qa,zs,fz',rfl,hqa,hz,rfl⟩:=id iq.lst_inv
 refine⟨p,xs,ai,.ref qa,rfl,rfl,SqL.of (s12 _ _ hp),?_,fun _=>False,s,_,fun _ z=>z.elim,r.env.mono s12,e2,fun w H3 fw s3 i3 _=>?_⟩
 ·unfold Sz;rw[hm.len,ej];exact hq
 obtain⟨rfl,_⟩:=i3.int_inv
 have s123:=s12.trans s3;have r3:=r.grow s123
 have hqf:qa∈fps i:=by rw[ef];exact List.mem_cons_of_mem _ (subq qa List.mem_cons_self)
 have mu:=(r3.own i hi qa hqf).2
 have hqa3:H3 qa=some (.lst zs):=s3 _ _ hqa
 have:=Is.pure _ _ _ pl i1
 subst this
 refine⟨qa,zs,bi,c,rfl,rfl,hqa3,by rw[hz.len];exact ec,?_⟩
 have nd:=r.nd i hi;rw[ef] at nd
 have hqp:qa≠p:=fun z=>(List.nodup_cons.mp nd).1 (z▸subq qa List.mem_cons_self)
 have newrow:Iss X.K (L2.upd H3 qa (.lst (zs.set c y))) (n.set c l) (zs.set c y) []:=Iss.tr (TK.upd' mu) _ _ _ (fun q hq=>by simp at hq) (Iss.setP c pn pl ((hz.mono s3).pureEq pn) (i1.mono (s2.trans s3)))
 have rows:=Iss.setRow (hm.mono s123) en hq (List.nodup_cons.mp nd).2 mu pn newrow
 refine k _ _ _ (r3.mutate (o:=.lst (zs.set c y)) (l':=.lst (m.set j (.lst (n.set c l)))) (fp':=p::fq) hi hqf hv (Qw em) (Is.lst (by rw[L2.upd_ne (Ne.symm hqp)];exact s123 _ _ hp) rows) nd (fun q hq=>?_) (fun j hj q hq z=>r.dis i hi j hj q (by rw[ef];exact hq) z) True.intro) Om
 refine⟨(r.own i hi q (by rw[ef];exact hq)).1,?_⟩
 by_cases e:q=qa
 ·subst e;rw[Zs];exact True.intro
 ·rw[L2.upd_ne e];exact(r3.own i hi q (by rw[ef];exact hq)).2
def U9(T:Tgt)(f:XE):XS:=fun s=>(f s).bind fun l=>if Z0 l=true then(Wx T l s).map .nx else none
theorem MI{X:Cx}{O:List Nat}{st:Stmt}{f:XE}{T:Tgt}(h:PS X st (QW (tF X.K f) (gT X.K T)))(hT:∀i∈T.slots,i∉O:=by decide):VS X O T.slots st (U9 T f):=PS.imp h fun D σ H ⟨H0,fps,s,out,r,e,k⟩=>by
 obtain⟨l,e1,e⟩:=Zg e
 split at e
 case isFalse=>cases e
 rename_i pl
 obtain⟨s',e2,rfl⟩:=map_some e
 refine⟨fun _=>False,s,l,fun _ z=>z.elim,r.env,e1,fun v H1 fp s1 i1 _=>?_⟩
 have:=Is.pure _ _ _ pl i1
 subst this
 obtain⟨ls,vs,fs,rfl,hi,hl,sub,use⟩:=Pc (K:=X.K) i1 e2
 obtain⟨fps',r2,q2⟩:=Rel.setAll (is:=T.slots) (r.grow s1) hi hl hT fun j hj p hp z=>by have:=sub p z;simp at this
 exact use σ D.nx (k fps' _ H1 r2 q2)
end VL
namespace VL
open PySem PySem.Spec PyProof.Rows L2
variable {K:PySem.W.Frag}
section
variable {X:Cx} {a b c d:Expr} {fa fb fc fd:XE} {pos:Pos}
theorem GC(hu:X.A.units+64<cLine)(ha:VE X a fa)(hb:VE X b fb):VE X (.Compare a [.Eq] [b] pos) (Zf (Z8 false) fa fb):=S8 (K4 hu) (Q7 false) ha hb (Vx _)
theorem E6(hu:X.A.units+64<cLine)(ha:VE X a fa)(hb:VE X b fb):VE X (.Compare a [.NotEq] [b] pos) (Zf (Z8 true) fa fb):=S8 (K5 hu) (Q7 true) ha hb (Vx _)
theorem Vm(hu:X.A.units+64<cLine)(ha:VE X a fa)(hb:VE X b fb):VT X (.Compare a [.Eq] [b] pos) (xB (Zf (Z8 false) fa fb)):=S9 (K4 hu) (Q7 false) ha hb (Vx _)
theorem Vn(hu:X.A.units+64<cLine)(ha:VE X a fa)(hb:VE X b fb):VT X (.Compare a [.NotEq] [b] pos) (xB (Zf (Z8 true) fa fb)):=S9 (K5 hu) (Q7 true) ha hb (Vx _)
theorem Jd(hu:X.A.units+64<cLine)(ha:VE X a fa)(hb:VE X b fb)(hm:behindInMarks .In b=false:=by with_unfolding_all rfl):VE X (.Compare a [.In] [b] pos) (Zf (U5 false) fa fb):=S8 (FL hu) (K8 false) ha hb hm
theorem Ta(hu:X.A.units+64<cLine)(ha:VE X a fa)(hb:VE X b fb)(hm:behindInMarks .NotIn b=false:=by with_unfolding_all rfl):VT X (.Compare a [.NotIn] [b] pos) (xB (Zf (U5 true) fa fb)):=S9 (Ln hu) (K8 true) ha hb hm
def SG:PV->Option Bool
 | .bl c=>some c
 | _=>none
theorem Je{a:PV}{k:Bool}(h:SG a=some k):a = .bl k:=by
 unfold SG at h;split at h
 ·cases h;rfl
 ·cases h
def FO(g h:PV->PV->Option PV)(a b c:XE):XE:=fun s=>(a s).bind fun x=>(b s).bind fun y=>((g x y).bind SG).bind fun k=>if k=true then(c s).bind fun z=>h y z else some (.bl false)
theorem Jf{r r':R2}{g h:PV->PV->Option PV}(hr:RB K r g)(hr':RB K r' h):∀σ H Q,tF K (FO g h fa fb fc) σ H Q->Ku r r' (tF K fa) (tF K fb) (tF K fc) σ H Q:=fun σ H Q ⟨Rm,s,l,hd,env,e,k⟩=>by
 obtain⟨x',e1,e⟩:=Zg e
 obtain⟨y',e2,e⟩:=Zg e
 obtain⟨b,e3,e⟩:=Zg e
 obtain⟨z',e3,eb⟩:=Zg e3
 rw[Je eb] at e3
 refine⟨Rm,s,x',hd,env,e1,fun x H1 f1 s1 i1 n1=>⟨Rm,s,y',fun p hp=>Same.mut s1 (hd p hp),env.mono s1,e2,fun y H2 f2 s2 i2 n2=>?_⟩⟩
 refine hr H2 x y x' y' _ f1 f2 (i1.mono s2) i2 e3 _ fun v H3 fp s3 i3 n3=>⟨b,i3.bl_inv.1,?_⟩
 have s123:=s1.trans (s2.trans s3)
 cases b with
 | false=>
  rw[if_neg Bool.false_ne_true] at e ⊢
  cases e
  exact k _ H3 [] s123 (Is.bl _) fun p hp=>by simp at hp
 | true=>
  rw[if_pos rfl] at e ⊢
  obtain⟨w',e4,e⟩:=Zg e
  refine⟨Rm,s,w',fun p hp=>Same.mut s123 (hd p hp),env.mono s123,e4,fun w H4 f4 s4 i4 n4=>?_⟩
  refine hr' H4 y w y' w' l f2 f4 (i2.mono (s3.trans s4)) i4 e Q fun v H5 fp5 s5 i5 n5=>k v H5 fp5 (s123.trans (s4.trans s5)) i5 fun p hp z=>?_
  rcases n5 p hp with q | q | q
  ·exact n2 p q z
  ·exact n4 p q z
  ·exact Xj (Same.mut (s123.trans s4) (hd p z)) q
theorem Oo{op op':CmpOp}{r r':R2}{g h:PV->PV->Option PV}(ho:UB X (compareOp op) r)(ho':UB X (compareOp op') r')(hr:RB X.K r g)(hr':RB X.K r' h)(ha:VE X a fa)(hb:VE X b fb)(hc:VE X c fc)
  (hm:lastMarks [op,op'] [b,c]=false:=by with_unfolding_all rfl):VE X (.Compare a [op,op'] [b,c] pos) (FO g h fa fb fc):=PE.imp (Kv ho ho' ha hb hc hm) (Jf hr hr')
end
section
variable {X:Cx} {a b:Expr} {fa fb:XE} {pos:Pos}
def Oq:PV->PV->Option PV
 | .lst m,.lst n=>if m.length+n.length<=10000 then some (.lst (m++n)) else none
 | _,_=>none
def Uw:PV->PV->Option PV
 | .lst m,.lst n=>if m.length+n.length<=10000/\ZJ m=true/\ZJ n=true then some (.lst (m++n)) else none
 | _,_=>none
theorem MJ(ha:VE X a fa)(hb:VE X b fb):VM X (.BinOp a .Add b pos) (Zf Uw fa fb):=PE.imp (Kt KJ ha hb) fun σ H Q ⟨s,l,env,e,k⟩=>by
 obtain⟨x',y',e1,e2,e⟩:=UY e
 refine⟨fun _=>False,s,x',fun _ z=>z.elim,env,e1,fun x H1 f1 s1 i1 _=>⟨fun _=>False,s,y',fun _ z=>z.elim,env.mono s1,e2,fun y H2 f2 s2 i2 _=>?_⟩⟩
 cases x' with
 | lst m=>cases y' with
  | lst n=>
   have e:(if m.length+n.length<=10000/\ZJ m=true/\ZJ n=true then some (PV.lst (m++n)) else none)=some l:=e
   split at e
   case isFalse=>cases e
   rename_i hl
   cases e
   obtain⟨p,xs,fq,rfl,hp,hi,rfl⟩:=i1.lst_inv
   obtain⟨p',ys,fq',rfl,hp',hi',rfl⟩:=i2.lst_inv
   refine⟨p,p',xs,ys,rfl,rfl,s2 _ _ hp,hp',by rw[hi.len,hi'.len];exact Nat.le_of_lt (lt_size hl.1),fun q hq=>?_⟩
   refine k _ _ [q] (s1.trans (s2.trans (Same.new hq _))) (Is.lst Zs ((((hi.mono s2).pureEq hl.2.1).append (hi'.pureEq hl.2.2)).mono (Same.new hq _))) (by simp) fun r hr=>?_
   rw[List.mem_singleton.mp hr]
   exact⟨Same.off (s1.trans s2) hq,by rw[Zs];exact True.intro⟩
  | _=>cases e
 | _=>cases e
def Rn:PV->PV->Option PV
 | .lst m,.int k=>if ZJ m=true/\-1000000<=k/\k<=1000000/\m.length*k.toNat<=10000 then some (.lst (List.replicate k.toNat m).flatten) else none
 | _,_=>none
theorem Iss.rep{H:Hp}{m:List PV}{xs:List V}(h:Iss K H m xs []):∀k:Nat,Iss K H (List.replicate k m).flatten (List.replicate k xs).flatten []
 | 0=>Iss.nil
 | k+1=>by
  rw[List.replicate_succ,List.replicate_succ,List.flatten_cons,List.flatten_cons]
  exact h.append (Iss.rep h k)
theorem NH(ha:VE X a fa)(hb:VE X b fb):VM X (.BinOp a .Mult b pos) (Zf Rn fa fb):=PE.imp (Kt Fs ha hb) fun σ H Q ⟨s,l,env,e,k⟩=>by
 obtain⟨x',y',e1,e2,e⟩:=UY e
 refine⟨fun _=>False,s,x',fun _ z=>z.elim,env,e1,fun x H1 f1 s1 i1 _=>⟨fun _=>False,s,y',fun _ z=>z.elim,env.mono s1,e2,fun y H2 f2 s2 i2 _=>?_⟩⟩
 cases x' with
 | lst m=>cases y' with
  | int n=>
   have e:(if ZJ m=true/\-1000000<=n/\n<=1000000/\m.length*n.toNat<=10000 then some (PV.lst (List.replicate n.toNat m).flatten) else none)=some l:=e
   split at e
   case isFalse=>cases e
   rename_i hl
   cases e
   obtain⟨p,xs,fq,rfl,hp,hi,rfl⟩:=i1.lst_inv
   refine⟨p,n,xs,rfl,i2.int_inv.1,s2 _ _ hp,by omega,by omega,by rw[hi.len];exact Nat.le_of_lt (lt_size hl.2.2.2),fun q hq=>?_⟩
   refine k _ _ [q] (s1.trans (s2.trans (Same.new hq _))) (Is.lst Zs ((Iss.rep ((hi.mono s2).pureEq hl.1) n.toNat).mono (Same.new hq _))) (by simp) fun r hr=>?_
   rw[List.mem_singleton.mp hr]
   exact⟨Same.off (s1.trans s2) hq,by rw[Zs];exact True.intro⟩
  | _=>cases e
 | _=>cases e
end
theorem Iss.fps{H:Hp}:∀{ls:List PV}{vs:List V}{fp:List Addr},Iss K H ls vs fp->∃fps:Nat->List Addr,(∀(i:Nat) l,ls[i]?=some l->∃v,vs[i]?=some v/\Is K H l v (fps i))/\∀i,ls.length<=i->fps i=[]
 | [],vs,fp,h=>⟨fun _=>[],fun i l e=>by simp at e,fun _ _=>rfl⟩
 | a::ls,vs,fp,h=>by
  obtain⟨x,r,f1,f2,rfl,h1,h2,rfl⟩:=h.inv
  obtain⟨fps,p1,p2⟩:=h2.fps
  refine⟨fun i=>match i with | 0=>f1 | k+1=>fps k,fun i l e=>?_,fun i hi=>?_⟩
  ·cases i with
   | zero=>simp at e;subst e;exact⟨x,rfl,h1⟩
   | succ k=>
    obtain⟨v,a,b⟩:=p1 k l (by simpa using e)
    exact⟨v,by simpa using a,b⟩
  ·cases i with
   | zero=>simp at hi
   | succ k=>exact p2 k (by simpa using hi)
def YO(m:Nat)(ls:List PV):ZP:=ls.map some++List.replicate (m-ls.length) none
def X1:Out->Option PV
 | .rt v=>some v
 | .nx _=>some .non
 | _=>none
def X5(m:Nat)(f:XS):List PV->Option PV:=fun ls=>(f (YO m ls)).bind X1
theorem Pe{N:List Str}{n:Nat}{O W:List Nat}{f:XS}{vs:List V}{H:Hp}{Q:VK}{E:XK}(hO:∀i∈O,n<=i)(h:Y8 K (X5 N.length f) n vs H Q E):FN K O W f { nx:=fun _ H'=>Q .non H',rt:=Q } (L2.start N vs) H:=by
 obtain⟨hl,ls,fp,l,hi,e,q⟩:=h
 obtain⟨out,e1,e2⟩:=Zg e
 obtain⟨fps,p1,p2⟩:=hi.fps
 have hlen:=hi.len
 have hout:∀i:Nat,ls.length<=i->∀l,(YO N.length ls)[i]?≠some (some l):=fun i hi l z=>by
  unfold YO at z;rw[List.getElem?_append_right (by simpa using hi),List.getElem?_replicate] at z
  split at z<;>cases z
 have rel:Rel K O H fps (YO N.length ls) (L2.start N vs) H:=by
  refine⟨Same.refl H,?_,fun i a z=>?_,fun i hne=>?_,fun i hi=>?_,fun i hi p hp=>?_,fun i hi j hj p hp=>?_⟩
  ·unfold YO L2.start;simp[hlen]
  ·by_cases hil:i<ls.length
   ·unfold YO at z
    rw[List.getElem?_append_left (by simpa using hil),List.getElem?_map] at z
    cases q:ls[i]? with
    | none=>rw[q] at z;cases z
    | some b=>
     rw[q] at z;cases z
     obtain⟨v,a1,b1⟩:=p1 i a q
     refine⟨v,?_,b1⟩
     unfold L2.start
     rw[List.getElem?_append_left (by simpa [hlen] using hil),List.getElem?_map,a1];rfl
   ·exact absurd z (hout i (by omega) a)
  ·by_cases hil:i<ls.length
   ·exact absurd (by unfold YO;rw[List.getElem?_append_left (by simpa using hil),List.getElem?_map,List.getElem?_eq_getElem hil];rfl) (hne ls[i])
   ·exact p2 i (by omega)
  ·rw[p2 i (by have:=hO i hi;omega)];exact List.nodup_nil
  ·rw[p2 i (by have:=hO i hi;omega)] at hp;simp at hp
  ·rw[p2 i (by have:=hO i hi;omega)] at hp;simp at hp
 refine⟨H,fps,YO N.length ls,out,rel,e1,?_⟩
 cases out with
 | nx s'=>
  cases e2
  exact fun fps' σ' H' r' _=>q .non H' [] r'.same Is.non List.nodup_nil fun p hp=>by simp at hp
 | rt v=>
  cases e2
  exact fun v fp H' sm i d n=>q v H' fp sm i d n
 | bk s'=>cases e2
 | ct s'=>cases e2
section
variable {P:Program} {w:World} {mg:Str->Option Value} {base:Heap}
theorem YQ{x:Str}{st:Stmt}{N ps:List Str}{k n:Nat}{O W:List Nat}(m:Nat)(f:XS)(D:Def K mg x st)(S:ZS N ps (Zr st))
  (hb:∀(kV doc pm:Value)(an:Option Addr)(cdv ct:Value)(us:List Value),us.length=ps.length->bindArgs (PySem.W.fnOf x x (X3 st) (YF st) (Zr st) .none kV doc pm an cdv ct) ⟨us,[]⟩=pure (ps.zip us))
  (hn:ps.length=n) (hm:N.length=m) (hO:∀i∈O,n<=i)
  (hbody:∀(fa:Addr)(cdv:Value)(A:Around)(outer:List Env)(s:Shared)(H:Hp)(E:XK),Room k (A.deeper (envOfC x (Zr st) s.heap.objs.size fa cdv))->VSs (Sr Nx P w K mg base N x (Zr st) fa cdv A outer s H E).nox O W (YF st) f) :
  XA P w K mg base x ps (Y8 K (X5 m f) n) (k+1):=by
 subst hm
 refine D.cal S hb (fun vs H Q E h=>by rw[hn];exact h.1) fun fa cdv A outer s H vs Q E hr h=>⟨_,hbody fa cdv A outer s H E hr,Pe hO h⟩
end
end VL
namespace VL
open PySem PySem.Spec PyProof.Rows L2
variable {K:PySem.W.Frag}
section
variable {X:Cx} {O:List Nat} {tg elt iter:Expr} {ifs:List Expr} {scope:Scope} {pos:Pos} {fi:XL} {T:Tgt} {ft:XT} {fe:XE}
theorem Ub(own fr:List Str)(ix:List Nat){i:Nat}{y:Str}{py spos:Pos}(hN:X.N.Nodup)(hy:X.N[i]?=some y)(hloc:X.env.scope.names.lookup y=some .local)(hcalm:X.calm=true)(hi:VI X tg iter fi)(S:UE X.N X.env.scope scope own fr ix=true)
  (hg:∀cl C s H ex,PG (ZV X (own++fr) scope cl C s H ex) tg (gT X.K T)) (ht:∀cl C s H ex,Er (ZV X (own++fr) scope cl C s H ex) ifs ft) (he:∀cl C s H ex,VM (ZV X (own++fr) scope cl C s H ex) elt fe)
  (hT:∀i∈T.slots,i<own.length:=by decide)
  (hsw:swapsWith (.ListComp elt [⟨tg,iter,ifs,0⟩] scope pos) (some (.Name y py)) spos.line X.env=pure true:=by rfl)
  (hs:∀x,foldedSetIterable iter X.env x=pure x:=by intro _;rfl):VS X O [i] (.Assign [.Name y py] (.ListComp elt [⟨tg,iter,ifs,0⟩] scope pos) spos) (Zn i (Zw own.length ix fi T ft fe)):=
 PS.imp (KR own fr ix hN hy hloc hcalm hi S hg (fun cl C s H ex=>(show Mw (ZV X (own++fr) scope cl C s H ex) ifs (Nk X.K ft) from ht cl C s H ex)) (fun cl C s H ex=>(show PE (ZV X (own++fr) scope cl C s H ex) elt (tM X.K fe) from he cl C s H ex)) hsw hs) (MH (MF hT))
end
section
variable {P:Program} {w:World} {mg:Str->Option Value} {base:Heap}
theorem FP{x:Str}{st:Stmt}{N ps:List Str}{k n:Nat}{O W:List Nat}{fa:Addr}{fd:FuncData}(m:Nat)(f:XS)(F:Fun K x x st fa fd)(S:ZS N ps (Zr st))
  (hn:ps.length=n) (hm:N.length=m) (hO:∀i∈O,n<=i)
  (hbody:∀(fa:Addr)(cdv:Value)(A:Around)(outer:List Env)(s:Shared)(H:Hp)(E:XK),Room k (A.deeper (envOfC x (Zr st) s.heap.objs.size fa cdv))->VSs (Sr Nx P w K mg base N x (Zr st) fa cdv A outer s H E).nox O W (YF st) f) :
  UC P w K mg base Nx (k+1) fa fd ps (Y8 K (X5 m f) n):=by
 subst hm
 refine F.ok S (fun vs H Q E h=>by rw[hn];exact h.1) fun cdv A outer s H vs Q E hr h=>⟨_,hbody fa cdv A outer s H E hr,?_⟩
 exact Pe hO h
theorem Jg{st:Stmt}{x:Str}{D:List PV->Option PV}{k:Nat}{fa:Addr}(Df:Def K mg "law" st)(hfa:mg "law" = some (.ref fa))
  (hb:∀(kV doc pm:Value)(an:Option Addr)(cdv ct u:Value),bindArgs (PySem.W.fnOf "law" "law" (X3 st) (YF st) (Zr st) .none kV doc pm an cdv ct) ⟨[u],[]⟩=pure [(x,u)])
  (H:∀(base:Heap)(f:Addr)(fd:FuncData),K.In base->base.Ns mainGlobals mg->Fun K "law" "law" st f fd->UC P w K mg base Nx k f fd [x] (Y8 K D 1)) :
  ∃fd:FuncData,(∀(s:Shared)(u:Value),BindsTo s fd ⟨[u],[]⟩ [(x,u)])/\∀base:Heap,K.In base->base.Ns mainGlobals mg->UC P w K mg base Nx k fa fd [x] (Y8 K D 1):=by
 obtain⟨f,fd,hm,F⟩:=Df.ex
 have e:=hfa.symm.trans hm;cases e
 refine⟨fd,?_,fun base h1 h2=>H base fa fd h1 h2 F⟩
 obtain⟨oc,od,kV,doc,pm,an,cdv,ct,osl,rfl,lk,hcd⟩:=F.ex
 exact fun s u=>.of_eq (hb kV doc pm an cdv ct u)
end
theorem FQ{H:Hp}{a:Addr}{ns:List Int}{D:List PV->Option PV}{E:XK}(hD:D [.cst (iL ns)]=some (.bl true))(hO:IK H)(hS:SqL K H a (ns.map V.int)):Y8 K D 1 [.ref a] H (fun v _=>v = .bl true) E:=by
 have cs:CsK K H a (ns.map V.int):=by
  rcases hS with h | h
  ·rcases h with h | ⟨o,h⟩
   ·rcases hO a with z | ⟨o,xs,z⟩
    ·rw[h] at z;cases z
    ·rw[h] at z;cases z
   ·exact .inl ⟨o,h⟩
  ·exact .inr h
 exact⟨rfl,[.cst (iL ns)],[],.bl true,Iss.one (Is.cst cs (Iss.ofInts ns)),hD,fun v H' fq _ i _ _=>i.bl_inv.1⟩
theorem law_walk{l:PySem.W.OpenLaw}{q:Program}{loose:List Str}{XP:(Str->Option Value)->Heap->Prop}{YP:World->Heap->Prop}{d:DefRec}{KK:Params->PySem.W.Frag}{x:Str}{D:List PV->Option PV}(k:Nat)(hn:l.most=some 63)(hdf:d.params.defaults=[])
  (hr:Room k callerA) (hD:∀ns:List Int,ns.length<=63->D [.cst (iL ns)]=some (.bl true))
  (hY:∀(w:World)(h:Heap),YP w h->(KK w.params).In h)
  (F:∀(w:World)(mg:Str->Option Value)(fa:Addr)(h:Heap),(KK w.params).In h->h.Ns mainGlobals mg->mg d.name=some (.ref fa)->
   ∃fd:FuncData,(∀(s:Shared)(u:Value),BindsTo s fd ⟨[u],[]⟩ [(x,u)])/\∀base:Heap,(KK w.params).In base->base.Ns mainGlobals mg->UC l.prog w (KK w.params) mg base Nx k fa fd [x] (Y8 (KK w.params) D 1)) :
  PySem.W.WalkO q loose XP YP l.row.toRowW d [] (fun f vs=>PySem.call f vs):=
 L2.walk_of (n:=63) (k:=k) (x:=x) (CX:=fun _=>Nx) (sp:=fun w=>Y8 (KK w.params) D 1) hn (by decide) hdf hr hY F (fun w H a ns hl hO hS=>FQ (hD ns hl) hO hS) fun _ _ _ _ _ z=>z
end VL
namespace VL
open PySem L2
@[simp] theorem Jh(i:Nat)(s:ZP):Za i s=(s[i]?).join:=rfl
@[simp] theorem eC_def(l:PV)(s:ZP):eC l s=some l:=rfl
@[simp] theorem ZI(g:PV->PV->Option PV)(a b:XE)(s:ZP):Zf g a b s=(a s).bind fun x=>(b s).bind fun y=>g x y:=rfl
@[simp] theorem Hj(g:PV->Option PV)(a:XE)(s:ZP):Uo g a s=(a s).bind g:=rfl
@[simp] theorem Xg(f:XE)(s:ZP):eP f s=(f s).bind fun l=>if Z0 l=true then some l else none:=rfl
@[simp] theorem Hk(s:ZP):UZ [] s=some []:=rfl
@[simp] theorem Zk(f:XE)(fs:List XE)(s:ZP):UZ (f::fs) s=(f s).bind fun x=>(UZ fs s).map (x::·):=rfl
@[simp] theorem Zu(D:List PV->Option PV)(fs:List XE)(s:ZP):Zc D fs s=(UZ fs s).bind D:=rfl
@[simp] theorem eTup_def(fs:List XE)(s:ZP):Xh fs s=(UZ fs s).map .tup:=rfl
@[simp] theorem Ji(fs:List XE)(s:ZP):YC fs s=(UZ fs s).map .lst:=rfl
@[simp] theorem MK(g:PV->Option Int->Option Int->Option PV)(a:XE)(lo hi:XO)(s:ZP):Xl g a lo hi s=(a s).bind fun x=>(lo s).bind fun l=>(hi s).bind fun u=>g x l u:=rfl
@[simp] theorem xoN_def(s:ZP):XM s=some none:=rfl
@[simp] theorem gI_ii(g:Int->Int->Int)(i j:Int):gI g (.int i) (.int j)=some (.int (g i j)):=rfl
@[simp] theorem gB_ii(g:Int->Int->Bool)(i j:Int):gB g (.int i) (.int j)=some (.bl (g i j)):=rfl
@[simp] theorem FR(C:Int->Int->Prop)[∀i j,Decidable (C i j)](g:Int->Int->Int)(i j:Int):IZ C g (.int i) (.int j)=if C i j then some (.int (g i j)) else none:=rfl
@[simp] theorem gIx_ti(l:List PV)(i:Int):ZK (.tup l) (.int i)=Sz l i:=rfl
@[simp] theorem gIx_li(l:List PV)(i:Int):ZK (.lst l) (.int i)=Sz l i:=rfl
@[simp] theorem gIx_ci(l:List PV)(i:Int):ZK (.cst l) (.int i)=Sz l i:=rfl
@[simp] theorem Z3(f:XE)(s:ZP):xB f s=(f s).bind SG:=by
 unfold xB
 cases f s with
 | none=>rfl
 | some a=>cases a<;>rfl
@[simp] theorem Jj(b:Bool):SG (.bl b)=some b:=rfl
@[simp] theorem X7(a b:XT)(s:ZP):R1 a b s=(a s).bind fun c=>if c=true then b s else some false:=rfl
@[simp] theorem XD(a b:XT)(s:ZP):UR a b s=(a s).bind fun c=>if c=true then some true else b s:=rfl
@[simp] theorem XG(a:XT)(s:ZP):YW a s=(a s).map not:=rfl
@[simp] theorem Ro(a b:XE)(s:ZP):VC a b s=(xB a s).bind fun c=>if c=true then b s else some (.bl false):=rfl
@[simp] theorem eOr_def(a b:XE)(s:ZP):CB a b s=(xB a s).bind fun c=>if c=true then some (.bl true) else b s:=rfl
@[simp] theorem eNot_def(a:XE)(s:ZP):Hg a s=(xB a s).map fun c=>.bl !c:=rfl
@[simp] theorem SH(c:XT)(a b:XE)(s:ZP):Nl c a b s=(c s).bind fun k=>if k=true then a s else b s:=rfl
@[simp] theorem eIsN_def(neg:Bool)(a:XE)(s:ZP):D9 neg a s=(a s).bind (E3 neg):=rfl
@[simp] theorem sNext_def(s:ZP):ZH s=some (.nx s):=rfl
@[simp] theorem Rp(f g:XS)(s:ZP):Zm f g s=(f s).bind fun o=>match o with | .nx s'=>g s' | r=>some r:=rfl
@[simp] theorem ZC(c:XT)(f g:XS)(s:ZP):Xc c f g s=(c s).bind fun k=>if k=true then f s else g s:=rfl
@[simp] theorem Jk(f:XE)(s:ZP):ZY f s=(f s).map .rt:=rfl
@[simp] theorem Zl(i:Nat)(f:XE)(s:ZP):Zn i f s=(f s).map fun l=>.nx (s.set i (some l)):=rfl
@[simp] theorem retO_rt(v:PV):X1 (.rt v)=some v:=rfl
@[simp] theorem pureV_int(i:Int):Z0 (.int i)=true:=rfl
@[simp] theorem pureV_bl(i:Bool):Z0 (.bl i)=true:=rfl
@[simp] theorem pureV_str(i:Str):Z0 (.str i)=true:=rfl
@[simp] theorem pureV_non:Z0 .non=true:=rfl
@[simp] theorem Lu(l:List PV):Z0 (.tup l)=ZJ l:=by rw[Z0]
@[simp] theorem pureL_nil:ZJ []=true:=rfl
@[simp] theorem pureL_cons(a:PV)(l:List PV):ZJ (a::l)=(Z0 a&&ZJ l):=rfl
theorem Lv{α:Type}{l:List α}{f:α->PV}(h:∀a∈l,Z0 (f a)=true):ZJ (l.map f)=true:=by
 rw[XY,List.all_map,List.all_eq_true];exact h
@[simp] theorem pureL_iL(l:List Int):ZJ (l.map PV.int)=true:=Yv l
abbrev pP(l:List Int):PV:=.tup (iL l)
abbrev wP(W:List (List Int)):PV:=.tup (W.map pP)
@[simp] theorem Jl(W:List (List Int)):ZJ (W.map pP)=true:=Lv fun a _=>by simp
theorem Wr{l:List PV}{k:Nat}{a:PV}(h:l[k]?=some a):Sz l (k:Int)=some a:=SA h
theorem Rq{l:List Int}{k:Nat}(h:k<l.length):(iL l)[k]?=some (.int (YJ l k)):=by
 rw[List.getElem?_map,List.getElem?_eq_getElem h];simp[YJ,List.getD_eq_getElem?_getD,List.getElem?_eq_getElem h]
theorem VP{l:List Int}{k:Nat}(h:k<l.length):Sz (iL l) (k:Int)=some (.int (YJ l k)):=SA (Rq h)
theorem Hl{W:List (List Int)}{k:Nat}(h:k<W.length):Sz (W.map pP) (k:Int)=some (pP (ZN W k)):=by
 refine SA ?_
 rw[List.getElem?_map,S6 h];rfl
@[simp] theorem NI(l:List Bool):Vb [.lst (l.map PV.bl)]=some (.bl (l.all id)):=by
 simp[Vb,Of,Uv l]
@[simp] theorem gLen_t(l:List PV):Zq [.tup l]=some (.int l.length):=rfl
@[simp] theorem gLen_l(l:List PV):Zq [.lst l]=some (.int l.length):=rfl
@[simp] theorem gLen_c(l:List PV):Zq [.cst l]=some (.int l.length):=rfl
@[simp] theorem gTuple_l(l:List PV):Z2 [.lst l]=some (.tup l):=rfl
@[simp] theorem gTuple_t(l:List PV):Z2 [.tup l]=some (.tup l):=rfl
@[simp] theorem gListP_t(l:List PV):Wo [.tup l]=if ZJ l=true then some (.lst l) else none:=rfl
@[simp] theorem gListP_l(l:List PV):Wo [.lst l]=if ZJ l=true then some (.lst l) else none:=rfl
@[simp] theorem gMin2_ii(i j:Int):E4 [.int i,.int j]=some (.int (if j<i then j else i)):=rfl
@[simp] theorem gMax2_ii(i j:Int):U3 [.int i,.int j]=some (.int (if j>i then j else i)):=rfl
@[simp] theorem gInt1_b(c:Bool):VG [.bl c]=some (.int (if c then 1 else 0)):=rfl
@[simp] theorem gInt1_i(c:Int):VG [.int c]=some (.int c):=rfl
@[simp] theorem gInst_ii(i:Int):VH [.int i,.ty "int"]=some (.bl true):=rfl
@[simp] theorem gInst_ib(i:Int):VH [.int i,.ty "bool"]=some (.bl false):=rfl
@[simp] theorem gInst_tt(l:List PV):VH [.tup l,.ty "tuple"]=some (.bl true):=rfl
@[simp] theorem gInst_ll(l:List PV):VH [.lst l,.ty "list"]=some (.bl true):=rfl
theorem Pf(n:Nat)(i j:Int):X6 (n+1) (.int i) (.int j)=true:=rfl
theorem VQ{α β:Type}{f:α->PV}{g:β->PV}{p:PV->PV->Bool}(h:∀a b,p (f a) (g b)=true):∀(l:List α)(m:List β),((l.map f).zip (m.map g)).all (fun z=>p z.1 z.2)=true
 | [],_=>by simp
 | _::_,[]=>by simp
 | a::l,b::m=>by
  rw[List.map_cons,List.map_cons,List.zip_cons_cons,List.all_cons,VQ h l m,h a b];rfl
theorem Hm(n:Nat)(l m:List Int):X6 (n+2) (pP l) (pP m)=true:=VQ (fun a b=>Pf n a b) l m
theorem Hn(n:Nat)(l m:List Int):X6 (n+2) (.lst (iL l)) (.lst (iL m))=true:=VQ (fun a b=>Pf n a b) l m
theorem Jm{l m:List Int}:iL l=iL m↔l=m:=by
 constructor
 ·intro h
  exact(List.map_inj_right (fun a b e=>PV.int.inj e)).mp h
 ·intro h;rw[h]
theorem FT{l m:List Int}:pP l=pP m↔l=m:=by
 rw[PV.tup.injEq];exact Jm
@[simp] theorem Xs(neg:Bool)(i j:Int):Z8 neg (.int i) (.int j)=some (.bl (if neg then !decide (i=j) else decide (i=j))):=by
 unfold Z8;rw[if_pos (Pf 7 i j)]
 congr 2
 cases neg<;>simp
@[simp] theorem FU(neg:Bool)(l m:List Int):Z8 neg (.tup (l.map PV.int)) (.tup (m.map PV.int))=some (.bl (if neg then !decide (l=m) else decide (l=m))):=by
 unfold Z8;rw[if_pos (Hm 6 l m)]
 have:decide ((PV.tup (l.map PV.int)) = .tup (m.map PV.int))=decide (l=m):=decide_eq_decide.mpr FT
 rw[this]
@[simp] theorem Jn(neg:Bool)(l m:List Int):Z8 neg (.lst (l.map PV.int)) (.lst (m.map PV.int))=some (.bl (if neg then !decide (l=m) else decide (l=m))):=by
 unfold Z8;rw[if_pos (Hn 6 l m)]
 have:decide ((PV.lst (l.map PV.int)) = .lst (m.map PV.int))=decide (l=m):=decide_eq_decide.mpr (by rw[PV.lst.injEq];exact Jm)
 rw[this]
theorem Qy{α:Type}{T:Tgt}{ft:XT}{fe:XE}{s0:ZP}{q g:α->PV}:∀{ls:List α},(∀a∈ls,∃s1,Wx T (q a) s0=some s1/\ft s1=some true/\fe s1=some (g a))->Wq T ft fe s0 (ls.map q)=some (ls.map g)
 | [],_=>rfl
 | a::r,h=>by
  obtain⟨s1,h1,h2,h3⟩:=h a List.mem_cons_self
  have ih:=Qy (ls:=r) fun b hb=>h b (List.mem_cons_of_mem _ hb)
  rw[List.map_cons,List.map_cons];unfold Wq;rw[h1];simp only[Option.bind_some,h2,if_true,h3,ih,Option.map_some]
theorem Tb{α:Type}{T:Tgt}{ft:XT}{fe:XE}{s0:ZP}{q g:α->PV}{c:α->Bool}:∀{ls:List α},(∀a∈ls,∃s1,Wx T (q a) s0=some s1/\ft s1=some (c a)/\(c a=true->fe s1=some (g a)))->Wq T ft fe s0 (ls.map q)=some ((ls.filter c).map g)
 | [],_=>rfl
 | a::r,h=>by
  obtain⟨s1,h1,h2,h3⟩:=h a List.mem_cons_self
  have ih:=Tb (ls:=r) fun b hb=>h b (List.mem_cons_of_mem _ hb)
  rw[List.map_cons];unfold Wq;rw[h1];simp only[Option.bind_some,h2]
  cases hc:c a with
  | true=>simp[h3 hc,ih,hc]
  | false=>simp[ih,hc]
theorem Yd{α:Type}{n:Nat}{ix:List Nat}{fi:XL}{T:Tgt}{ft:XT}{fe:XE}{s:ZP}(ls:List α)(q g:α->PV)(hfi:fi s=some (ls.map q))(hl:ls.length<=10000)
  (h:∀a∈ls,∃s1,Wx T (q a) (Yl n ix s)=some s1/\ft s1=some true/\fe s1=some (g a)):Zw n ix fi T ft fe s=some (.lst (ls.map g)):=by
 unfold Zw;rw[hfi];simp only[Option.bind_some,List.length_map,if_pos hl,Qy h,Option.map_some]
theorem Vd{α:Type}{n:Nat}{ix:List Nat}{fi:XL}{T:Tgt}{ft:XT}{fe:XE}{s:ZP}(ls:List α)(q g:α->PV)(c:α->Bool)(hfi:fi s=some (ls.map q))(hl:ls.length<=10000)
  (h:∀a∈ls,∃s1,Wx T (q a) (Yl n ix s)=some s1/\ft s1=some (c a)/\(c a=true->fe s1=some (g a))):Zw n ix fi T ft fe s=some (.lst ((ls.filter c).map g)):=by
 unfold Zw;rw[hfi];simp only[Option.bind_some,List.length_map,if_pos hl,Tb h,Option.map_some]
theorem YB{T:Tgt}{fb:XS}:∀{ls:List PV}{s:ZP}(Jv:Nat->ZP->Prop),Jv 0 s->(∀(i:Nat) l st,ls[i]?=some l->Jv i st->∃s1 s2,Wx T l st=some s1/\fb s1=some (.nx s2)/\Jv (i+1) s2)->
  ∃s',U8 T fb ls s=some (.nx s')/\Jv ls.length s'
 | [],s,Jv,h0,_=>⟨s,rfl,h0⟩
 | l::r,s,Jv,h0,h=>by
  obtain⟨s1,s2,a,b,c⟩:=h 0 l s rfl h0
  obtain⟨s',d,e⟩:=YB (ls:=r) (s:=s2) (fun i=>Jv (i+1)) c fun i l' st hl hi=>h (i+1) l' st (by simpa using hl) hi
  refine⟨s',?_,e⟩
  unfold U8;rw[a];simp only[Option.bind_some,b];exact d
theorem Tc{n i:Nat}{l:PV}(h:(U6 n)[i]?=some l):i<n/\l = .int (i:Int):=by
 have hi:=(List.getElem?_eq_some_iff.mp h).1
 unfold U6 at hi h;rw[List.length_map,List.length_range] at hi;rw[List.getElem?_map,List.getElem?_range hi] at h
 exact⟨hi,(Option.some.inj h).symm⟩
theorem Td{lo:Int}{n i:Nat}{l:PV}(h:(Wa lo n)[i]?=some l):i<n/\l = .int (lo+(i:Int)):=by
 have hi:=(List.getElem?_eq_some_iff.mp h).1
 unfold Wa at hi h;rw[List.length_map,List.length_range] at hi;rw[List.getElem?_map,List.getElem?_range hi] at h
 exact⟨hi,(Option.some.inj h).symm⟩
@[simp] theorem Te(n:Nat):(U6 n).length=n:=by unfold U6;simp
@[simp] theorem Ot(lo:Int)(n:Nat):(Wa lo n).length=n:=by unfold Wa;simp
@[simp] theorem bindT_one(i:Nat)(l:PV)(s:ZP):Wx (.one i) l s=some (s.set i (some l)):=rfl
theorem Sj(m:List PV):WN m=(List.range m.length).map fun(i:Nat)=>.tup [.int (i:Int),m.getD i .non]:=by
 apply List.ext_getElem?
 intro i;rw[List.getElem?_map]
 by_cases h:i<m.length
 ·have:(WN m)[i]?=some (.tup [.int (i:Int),m[i]]):=by
   unfold WN;rw[List.getElem?_map,List.getElem?_zipIdx,List.getElem?_eq_getElem h]
   simp
  rw[this,List.getElem?_range h];simp[List.getD_eq_getElem?_getD,List.getElem?_eq_getElem h]
 ·rw[List.getElem?_eq_none (by rw[V7];omega),List.getElem?_eq_none (by simpa using h)];rfl
theorem NJ(m n:List PV)(h:n.length=m.length):Q9 m n=(List.range m.length).map fun(i:Nat)=>.tup [m.getD i .non,n.getD i .non]:=by
 apply List.ext_getElem?
 intro i;rw[List.getElem?_map]
 by_cases hi:i<m.length
 ·have:(Q9 m n)[i]?=some (.tup [m[i],n[i]]):=by
   unfold Q9
   rw[List.getElem?_map,List.getElem?_zip_eq_some (z:=(m[i],n[i])) |>.mpr ⟨List.getElem?_eq_getElem hi,List.getElem?_eq_getElem (by omega)⟩]
   rfl
  rw[this,List.getElem?_range hi];simp[List.getD_eq_getElem?_getD,List.getElem?_eq_getElem hi,List.getElem?_eq_getElem (show i<n.length by omega)]
 ·rw[List.getElem?_eq_none (by rw[Oi];omega),List.getElem?_eq_none (by simpa using hi)];rfl
theorem Ho(l:List Int)(i:Nat)(h:i<l.length):(iL l).getD i .non = .int (YJ l i):=by
 rw[List.getD_eq_getElem?_getD,Rq h];rfl
theorem Jo(W:List (List Int))(i:Nat)(h:i<W.length):(W.map pP).getD i .non=pP (ZN W i):=by
 rw[List.getD_eq_getElem?_getD,List.getElem?_map,S6 h];rfl
@[simp] theorem Hq(f:XE)(s:ZP):ZO [f] s=(f s).bind fun a=>(Lr a).bind fun j=>if -1000000<=j/\j<=1000000 then some (U6 j.toNat) else none:=by
 unfold ZO
 cases h:f s with
 | none=>simp[h]
 | some a=>cases a<;>simp[h,Lr]
@[simp] theorem Hr(f g:XE)(s:ZP):Xw [f,g] s=(f s).bind fun a=>(g s).bind fun b=>(Lr a).bind fun i=>(Lr b).bind fun j=>if -1000000<=i/\i<=1000000/\-1000000<=j/\j<=1000000 then some (Wa i (j-i).toNat) else none:=by
 unfold Xw
 cases h:f s with
 | none=>simp[h]
 | some a=>cases h2:g s with
  | none=>simp[h,h2]
  | some b=>cases a<;>cases b<;>simp[h,h2,Lr]
@[simp] theorem Tf(i:Int):Lr (.int i)=some i:=rfl
@[simp] theorem ML(i:List PV):E5 (.lst i)=some i:=rfl
@[simp] theorem Qz(b:Bool)(f:XE)(s:ZP):VJ b [f] s=(f s).bind fun l=>(seqB b l).map WN:=by
 unfold VJ
 cases h:f s<;>simp[h]
@[simp] theorem FV(l:List PV):seqB false (.tup l)=some l:=rfl
@[simp] theorem seqB_t(l:List PV):seqB true (.lst l)=some l:=rfl
@[simp] theorem seqB_c(l:List PV):seqB true (.cst l)=some l:=rfl
@[simp] theorem xLst_def(f:XE)(s:ZP):Y4 f s=(f s).bind Ep:=rfl
@[simp] theorem asS_l(l:List PV):Ep (.lst l)=some l:=rfl
@[simp] theorem asS_c(l:List PV):Ep (.cst l)=some l:=rfl
theorem Ou{f:XE}{s:ZP}{l:List PV}(h:f s=some (.tup l)):WI f s=some l:=by unfold WI;rw[h]
@[simp] theorem Rr(O:List Nat)(fi:XL)(T:Tgt)(fb:XS)(s:ZP):Xf O fi T fb s=(fi (Yc O s)).bind fun ls=>U8 T fb ls s:=rfl
@[simp] theorem xTrue_def(s:ZP):ZG s=some true:=rfl
theorem Yp{f:XE}{s:ZP}{n:Nat}(h:f s=some (.int (n:Int)))(hn:n<=10000):ZO [f] s=some (U6 n):=by
 rw[Hq,h];simp only[Option.bind_some,Tf];rw[if_pos ⟨by omega,by omega⟩,Int.toNat_natCast]
theorem Uc{f g:XE}{s:ZP}{i j:Int}(h:f s=some (.int i))(h':g s=some (.int j))(hi : -10000<=i/\i<=10000)(hj : -10000<=j/\j<=10000):Xw [f,g] s=some (Wa i (j-i).toNat):=by
 rw[Hr,h,h'];simp only[Option.bind_some,Tf];rw[if_pos ⟨by omega,by omega,by omega,by omega⟩]
theorem Jp{i j:Int}(h0 : -10000<=i)(h:i<=10000):CMul i j:=by
 refine .inl ?_
 have e:(2^64:Int)=18446744073709551616:=by decide
 rw[e];omega
theorem Ud{c:Bool}(h:c=true):gd c=some ():=by unfold gd;rw[if_pos h]
theorem Rt{i:Nat}{f:XE}{s:ZP}{m n:List PV}(h:f s=some (.lst n))(hm:NG s i=some m)(hl:m.length+n.length<=10000):Xn i f s=some (.nx (s.set i (some (.lst (m++n))))):=by
 unfold Xn;rw[h];simp only[Option.bind_some,ML,hm,Ud (decide_eq_true hl)]
theorem UJ{i:Nat}{f:XE}{s:ZP}{m:List PV}{l:PV}(h:f s=some l)(hm:NG s i=some m)(hl:m.length<=10000):Xm i f s=some (.nx (s.set i (some (.lst (m++[l]))))):=by
 unfold Xm;rw[h];simp only[Option.bind_some,hm,Ud (decide_eq_true hl)]
theorem NK{i:Nat}{fk f:XE}{s:ZP}{m:List PV}{l:PV}{k:Int}(hk:fk s=some (.int k))(h:f s=some l)(hm:NG s i=some m)(hp:ZJ m=true)(hq:Z0 l=true)(h0:0<=k)(h1:k<=1000000)(hl:m.length<=10000) :
  V9 i fk f s=some (.nx (s.set i (some (.lst (m.take k.toNat++l::m.drop k.toNat))))):=by
 unfold V9;rw[hk,h]
 have c:(ZJ m&&Z0 l&&decide (0<=k/\k<=1000000/\m.length<=10000))=true:=by rw[hp,hq,decide_eq_true ⟨h0,h1,hl⟩];rfl
 simp only[Option.bind_some,Tf,hm,Ud c]
theorem Lw{i:Nat}{fk f:XE}{s:ZP}{m:List PV}{l:PV}{k:Int}{j:Nat}(h:f s=some l)(hk:fk s=some (.int k))(hm:NG s i=some m)(hp:ZJ m=true)(hq:Z0 l=true)(hj:Nj m.length k=some j) :
  TZ i fk f s=some (.nx (s.set i (some (.lst (m.set j l))))):=by
 unfold TZ;rw[hk,h]
 have c:(ZJ m&&Z0 l)=true:=by rw[hp,hq];rfl
 simp only[Option.bind_some,Tf,hm,Ud c,hj,Option.map_some]
theorem Ru{i:Nat}{fa fb f:XE}{s:ZP}{m n:List PV}{l:PV}{a b:Int}{j c:Nat}(h:f s=some l)(ha:fa s=some (.int a))(hb:fb s=some (.int b))(hm:NG s i=some m)(hj:Nj m.length a=some j)(hn:m[j]?=some (.lst n))(hp:ZJ n=true)(hq:Z0 l=true)(hc:Nj n.length b=some c) :
  Yo i fa fb f s=some (.nx (s.set i (some (.lst (m.set j (.lst (n.set c l))))))):=by
 unfold Yo;rw[h,ha,hb]
 have cc:(ZJ n&&Z0 l)=true:=by rw[hp,hq];rfl
 simp only[Option.bind_some,Tf,ML,hm,hj,hn,Ud cc,hc,Option.map_some]
theorem Tg{n k:Nat}(h:k<n):Nj n (k:Int)=some k:=by
 unfold Nj
 rw[if_pos (by omega),if_pos (by omega)];rfl
theorem NL{i j:Int}(h0:0<j)(h:j<=10000):Vw i j:=⟨h0,by omega⟩
end VL
namespace VL
open PySem PySem.Spec PyProof.Rows L2
variable {K:PySem.W.Frag}
def GD(K:PySem.W.Frag):R2:=fun x y H Q=>∃a b xs ys,x = .ref a/\y = .ref b/\SqT K H a xs/\SqT K H b ys/\xs.length+ys.length<=sizeLine/\
 (xs=[]->Q (.ref b) H)/\(ys=[]->Q (.ref a) H)/\∀p,H p=none->Q (.ref p) (upd H p (.tup (xs++ys)))
theorem Wy{X:Cx}:UB X (binaryOp .Add) (GD X.K):=by
 intro pins s σ H x y v u Q I rx ry h
 obtain⟨a,b,xs,ys,rfl,rfl,ha,hb,hz,q0,q1,q2⟩:=h
 by_cases hx:xs=[]
 ·cases rx
  cases ry
  obtain⟨its,r1,p1,_⟩:=I.tuple ha
  obtain⟨its2,r2,p2,_⟩:=I.tuple hb
  obtain⟨⟨cls,dd,data,sl⟩,ho,hc,n,hd⟩:=id p1
  obtain⟨⟨cls2,dd2,data2,sl2⟩,ho2,hc2,n2,hd2⟩:=id p2
  simp only at hc hd hc2 hd2
  subst hc hd hc2 hd2
  exact concat_meets ⟨_,ho,rfl⟩ ⟨_,ho2,rfl⟩ noFill_tuple_add seq_tuple_add PySem.F.slot_tuple_add PySem.F.entry_tuple_add (PySem.F.args_tuple_add_2 _ _)
   (tuple_addW0 a b its.toArray its2.toArray n n2 dd dd2 sl sl2 (by simp[r1.nil_iff.mpr hx])) ⟨ho,ho2,.ref b,H,I,rfl,q0 hx⟩
 ·exact IH _ _ _ _ _ _ _ _ _ I rx ry ⟨a,b,xs,ys,rfl,rfl,ha,hb,hx,hz,q1,fun _=>q2⟩
def Xi:PV->PV->Option PV
 | .tup m,.tup n=>if m.length+n.length<=10000 then some (.tup (m++n)) else none
 | _,_=>none
theorem Wz:RB K (GD K) Xi:=fun H x y a b l fa fb ha hb e Q k=>by
 cases a with
 | tup m=>cases b with
  | tup n=>
   have e:(if m.length+n.length<=10000 then some (PV.tup (m++n)) else none)=some l:=e
   split at e
   case isFalse=>cases e
   rename_i hl
   cases e
   obtain⟨p,xs,rfl,hp,hi⟩:=ha.tup_inv
   obtain⟨p',ys,rfl,hp',hi'⟩:=hb.tup_inv
   refine⟨p,p',xs,ys,rfl,rfl,SqT.of hp,SqT.of hp',by rw[hi.len,hi'.len];exact Nat.le_of_lt (lt_size hl),fun z=>?_,fun z=>?_,fun q hq=>?_⟩
   ·have:m=[]:=List.length_eq_zero_iff.mp (by rw[<-hi.len,z];rfl)
    subst this
    exact k _ _ fb (Same.refl _) hb fun r hr=>.inr (.inl hr)
   ·have:n=[]:=List.length_eq_zero_iff.mp (by rw[<-hi'.len,z];rfl)
    subst this;rw[List.append_nil] at k
    exact k _ _ fa (Same.refl _) ha fun r hr=>.inl hr
   ·exact k _ _ (fa++fb) (Same.new hq _) (Is.tup Zs ((hi.append hi').mono (Same.new hq _))) fun r hr=>(List.mem_append.mp hr).elim .inl fun z=>.inr (.inl z)
  | _=>cases e
 | _=>cases e
end VL
namespace PW
open PySem L2 VL
noncomputable def Ue:XS:=(Zm (Zn 1 (YC []))
  (Zm (Xf [1] (VJ false [(Za 0)]) (.many [2,3]) (Xf [1] (Xw [(Zf ZD (Za 2) (eC (.int 1))),(Zc Zq [(Za 0)])]) (.one 4) (Xn 1 (Zw 1 [2,4] (ZO [(Zf ZK (Za 3) (Za 4))]) (.one 0) ZG (eP (Xh [(Za 1),(Za 2),(Za 0)]))))))
  (ZY (Za 1))))
noncomputable def Yf:List PV->Option PV:=X5 5 Ue
noncomputable def T2:XS:=(ZY (eP (VC (Zc VH [(Za 0),(eC (.ty "int"))]) (Hg (Zc VH [(Za 0),(eC (.ty "bool"))])))))
noncomputable def Wm:List PV->Option PV:=X5 1 T2
end PW
namespace VL
open PySem PySem.Spec PyProof.Rows L2
def sortI(l:List Int):List Int:=l.mergeSort fun a b=>decide (a<=b)
theorem sortI_perm(l:List Int):(sortI l).Perm l:=List.mergeSort_perm l _
theorem Th(l:List Int):(sortI l).Pairwise (·<=·):=by
 have:=List.pairwise_mergeSort (le:=fun a b:Int=>decide (a<=b)) (fun a b c h1 h2=>by simp only[decide_eq_true_eq] at *;omega) (fun a b=>by simp only[Bool.or_eq_true,decide_eq_true_eq];omega) l
 exact this.imp fun h=>of_decide_eq_true h
theorem sortI_eq{l m:List Int}(hp:m.Perm l)(hs:m.Pairwise (·<=·)):m=sortI l:=
 List.Perm.eq_of_pairwise (le:=(·<=·)) (fun a b _ _ h1 h2=>Int.le_antisymm h1 h2) hs (Th l) (hp.trans (sortI_perm l).symm)
theorem Wg:∀{us:List Value}{ns:List Int},IntsAre us ns->Vals (ns.map V.int) us
 | _,_,.nil=>.nil
 | _,_,.cons n t h=>.cons ⟨t,rfl⟩ (Wg h)
def Pg(K:PySem.W.Frag):List V->Hp->VK->Prop:=fun xs H Q=>∃p ns,xs=[.ref p]/\SqL K H p (ns.map V.int)/\ns.length<64/\∀l,H l=none->Q (.ref l) (upd H l (.lst ((sortI ns).map V.int)))
theorem Ph{X:Cx}:XQ X (.builtin "sorted") (Pg X.K):=by
 intro pins s σ H xs us Q I r h
 obtain⟨p,ns,rfl,hq,hl,q⟩:=h
 obtain⟨u,rfl,rx⟩:=Us r
 cases rx
 obtain⟨its,r',pl,hz⟩:=I.list hq
 have hlen:=r'.length
 rw[List.length_map] at hlen hz
 refine sorted_ints pl.isList (W8 r') (by omega) fun out ns' a1 a2 a3=>?_
 obtain⟨e,he⟩:=sortedAll_at s.heap its out
 have hns:=sortI_eq a2 a3;subst hns
 refine⟨.ref (s.heap.objs.size+1),_,I.laid (t':=s.toks) (fun b o=>sortedAll_old) (Nat.le_succ _) (show ObjOk X.prog X.w _ _ _ (.lst ((sortI ns).map V.int)) from⟨?_,out.toList,e,Wg a1,?_⟩),rfl,q _ (I.hok.fresh (Nat.le_succ _))⟩
 ·rw[List.length_map,(sortI_perm ns).length_eq];exact hz
 ·rw[Array.toArray_toList];exact he
def Ti:List PV->Option PV
 | [.lst l]=>(YH l).bind fun ns=>if ns.length<64 then some (.lst (iL (sortI ns))) else none
 | [.cst l]=>(YH l).bind fun ns=>if ns.length<64 then some (.lst (iL (sortI ns))) else none
 | _=>none
theorem NM{K:PySem.W.Frag}:Eo K (Pg K) Ti:=fun H vs ls l fp h e Q k=>by
 have fin:∀(p:Addr)(ns:List Int),SqL K H p (ns.map V.int)->ns.length<64->l = .lst (iL (sortI ns))->Pg K [.ref p] H Q:=by
  rintro p ns hp hl rfl
  refine⟨p,ns,rfl,hp,hl,fun q hq=>k _ _ [q] (Same.new hq _) (Is.lst Zs (Iss.ofInts _)) (by simp) fun r hr=>?_⟩
  rw[List.mem_singleton.mp hr]
  exact⟨hq,by rw[Zs];exact True.intro⟩
 unfold Ti at e
 split at e
 ·obtain⟨ns,e1,e2⟩:=Zg e
  split at e2
  ·cases e2
   obtain⟨v,rfl,i⟩:=h.one_inv
   have em:=YL e1;subst em
   obtain⟨p,xs,fq,rfl,hp,hi,_⟩:=i.lst_inv
   obtain⟨rfl,rfl⟩:=hi.iL
   exact fin p ns (.inl (.inl hp)) (by assumption) rfl
  ·cases e2
 ·obtain⟨ns,e1,e2⟩:=Zg e
  split at e2
  ·cases e2
   obtain⟨v,rfl,i⟩:=h.one_inv
   have em:=YL e1;subst em
   obtain⟨p,xs,rfl,hp,hi⟩:=i.cst_inv
   obtain⟨rfl,rfl⟩:=hi.iL
   exact fin p ns hp.sq (by assumption) rfl
  ·cases e2
 ·cases e
def WK:XS:=fun _=>none
theorem Tj{X:Cx}{O W:List Nat}{st:Stmt}:VS X O W st WK:=by
 intro pins s σ H D I h;unfold FN at h;simp only[WK] at h
 obtain⟨_,_,_,_,_,q,_⟩:=h
 cases q
theorem Rv:∀(us:List Value)(k:Nat),(∀(i:Nat)(v:Value),us[i]?=some v->∃t,v=Value.int ((k+i:Nat):Int) t)->Vals ((List.range us.length).map fun i=>V.int ((k+i:Nat):Int)) us
 | [],k,_=>.nil
 | u::us,k,h=>by
  obtain⟨t,rfl⟩:=h 0 u rfl
  rw[List.length_cons,List.range_succ_eq_map,List.map_cons,List.map_map]
  refine .cons ⟨t,rfl⟩ ?_
  have:=Rv us (k+1) fun i v hv=>by
   obtain⟨t,e⟩:=h (i+1) v (by simpa using hv)
   exact⟨t,by rw[e];congr 2;omega⟩
  refine Eq.mp (congrArg (fun l=>Vals l us) (List.map_congr_left fun i _=>?_)) this
  show V.int _=V.int _
  congr 2;omega
def CF(ta:TA):TE:=fun σ H Q=>ta σ H fun vs H1=>∃j:Nat,vs=[.int (j:Int)]/\j<=10000/\∀l,H1 l=none->Q (.ref l) (upd H1 l (.lst ((List.range j).map fun(i:Nat)=>V.int (i:Int))))
section
variable {X:Cx} {a:Expr} {ta:TA} {p p2 pos pos2:Pos}
theorem Pj(hc:X.calm=true)(hgl:Gl X "list")(hml:X.mg "list" = none)(hgr:Gl X "range")(hmr:X.mg "range" = none)(ha:PA X [a] ta)(hs:starEach [a] X.env=[(false,eval a X.env)]:=by rfl)
  (he:starEach [.Call (.Name "range" p2) [a] [] pos2] X.env=(false,eval (.Call (.Name "range" p2) [a] [] pos2) X.env)::starEach [] X.env:=by rfl) (hpl:(backTo pos (starEach [] X.env)).any (·.1)=false:=by rfl) :
  PE X (.Call (.Name "list" p) [.Call (.Name "range" p2) [a] [] pos2] [] pos) (CF ta):=by
 intro pins s σ H Q I h
 refine wpAny_Call_Name_kw (Xy I hgl hml (u:=.type "list") (by decide +kernel) ?_)
 refine PyProof.Rows.callWith_type1 (T:="list") ?_ he hpl
 rw[he]
 show wpAny _ _ (spliced ((false,eval (.Call (.Name "range" p2) [a] [] pos2) X.env)::[])) _ _ s
 refine Calls.spliced_cons ?_
 refine Call_ (Xy I hgr hmr boot_range (PyProof.Rows.callWith_type1 (YT (ha pos2 pins s σ H _ I h) fun us s1 ⟨vs,H1,I1,r1,q1⟩=>?_) hs rfl))
 obtain⟨j,e,hj,q⟩:=q1
 subst e
 cases r1 with
 | cons r rr=>
  cases rr
  obtain⟨t,rfl⟩:=r
  refine call_range_1 (Calls.spliced_nil ?_)
  have sz:sizeLine=2^24:=rfl
  refine call_list_range (n:=j) (I.ok.hd hc) (IsRange.new ..) (small_one (by omega) (by omega) (by omega) (by omega)) (by rw[rangeSize_one];split<;>omega) (by omega) fun h' tk acc' c' hk hS hacc=>?_
  have I2:=I1.kept (t':=s1.toks+1+1) (h':=s1.heap.push { cls:=.type "range",data:=.fields #[.int 0 s1.toks,.int (j:Int) t,.int 1 (s1.toks+1)] }) fun b o e=>Heap.get?_push_of_some _ e
  refine⟨.ref _,_,I2.laid (t':=tk) hk (Nat.le_refl _) (show ObjOk X.prog X.w _ _ _ (.lst ((List.range j).map fun(i:Nat)=>V.int (i:Int))) from⟨by simp;omega,acc'.toList,c',?_,?_⟩),rfl,q _ (I2.hok.fresh (Nat.le_refl _))⟩
  ·have:=Rv acc'.toList 0 fun i v hv=>by
    obtain⟨t',e⟩:=hacc.2 i v (by simpa using hv)
    exact⟨t',by rw[e];congr 1;omega⟩
   rw[Array.length_toList,hacc.1] at this
   refine Eq.mp (congrArg (fun l=>Vals l acc'.toList) (List.map_congr_left fun i _=>?_)) this
   show V.int _=V.int _
   congr 2;omega
  ·rw[Array.toArray_toList];exact hS
end
def YR:PV->Option PV
 | .int k=>if 0<=k/\k<=10000 then some (.lst (iL ((List.range k.toNat).map fun(i:Nat)=>(i:Int)))) else none
 | _=>none
theorem Wh{X:Cx}{a:Expr}{fa:XE}{p p2 pos pos2:Pos}(hc:X.calm=true)(hgl:Gl X "list")(hml:X.mg "list" = none)(hgr:Gl X "range")(hmr:X.mg "range" = none)(ha:VE X a fa)(hs:starEach [a] X.env=[(false,eval a X.env)]:=by rfl)
  (he:starEach [.Call (.Name "range" p2) [a] [] pos2] X.env=(false,eval (.Call (.Name "range" p2) [a] [] pos2) X.env)::starEach [] X.env:=by rfl) (hpl:(backTo pos (starEach [] X.env)).any (·.1)=false:=by rfl) :
  VM X (.Call (.Name "list" p) [.Call (.Name "range" p2) [a] [] pos2] [] pos) (Uo YR fa):=
 PE.imp (Pj hc hgl hml hgr hmr (Zb ha Ze hs) hs he hpl) fun σ H Q ⟨s,l,env,e,k⟩=>by
  obtain⟨x,e1,e2⟩:=Zg e
  refine⟨fun _=>False,s,[x],fun _ z=>z.elim,env,by show(fa s).bind _=_;rw[e1];rfl,fun vs H1 fp s1 i1 _=>?_⟩
  obtain⟨w,rfl,iw⟩:=i1.one_inv
  cases x with
  | int kk=>
   unfold YR at e2
   simp only at e2
   split at e2
   case isFalse=>cases e2
   rename_i hk
   cases e2
   refine⟨kk.toNat,by rw[iw.int_inv.1];congr 2;omega,by omega,fun q hq=>?_⟩
   have hm:(List.range kk.toNat).map (fun(i:Nat)=>V.int (i:Int))=((List.range kk.toNat).map fun(i:Nat)=>(i:Int)).map V.int:=by rw[List.map_map];rfl
   rw[hm]
   refine k _ _ [q] (s1.trans (Same.new hq _)) (Is.lst Zs (Iss.ofInts _)) (by simp) fun r hr=>?_
   rw[List.mem_singleton.mp hr]
   exact⟨Same.off s1 hq,by rw[Zs];exact True.intro⟩
  | _=>cases e2
variable {K:PySem.W.Frag}
def GF(i j:Int):Prop:=i.natAbs.log2<67108863/\j.natAbs.log2<67108863
def GG(i j:Int):Prop:=j≠0/\j.natAbs.log2<9000
instance (i j:Int):Decidable (GF i j):=by unfold GF;infer_instance
instance (i j:Int):Decidable (GG i j):=by unfold GG;infer_instance
end VL
namespace VL
open PySem PySem.Spec PyProof.Rows L2
variable {K:PySem.W.Frag}
def FW(K:PySem.W.Frag)(H0:Hp)(D:Uz):Out->Prop
 | .nx _=>∀σ' H',Same H0 H'->D.nx σ' H'
 | .rt l=>∀v fp H',Same H0 H'->Is K H' l v fp->fp.Nodup->(∀p∈fp,H0 p=none/\W3 (H' p))->D.rt v H'
 | _=>False
def E7(K:PySem.W.Frag)(O:List Nat)(f:XS):TS:=fun D σ H=>∃H0 fps s out,Rel K O H0 fps s σ H/\f s=some out/\FW K H0 D out
def Lx(X:Cx)(O:List Nat)(st:List Stmt)(f:XS):Prop:=PSs X st (E7 X.K O f)
section
variable {X:Cx} {O O' W:List Nat} {st:Stmt} {Yh:List Stmt} {f g:XS}
theorem VSs.r(h:VSs X O W Yh f):Lx X O Yh f:=PSs.imp h fun D σ H ⟨H0,fps,s,out,r,e,k⟩=>⟨H0,fps,s,out,r,e,by
 cases out with
 | nx s'=>exact fun fps' σ' H' r' _=>k σ' H' r'.same
 | rt l=>exact k
 | bk s'=>exact k.elim
 | ct s'=>exact k.elim⟩
theorem YV(h1:VS X O W st f)(h2:Lx X O Yh g):Lx X O (st::Yh) (Zm f g):=PSs.imp (SV h1 h2) fun D σ H ⟨H0,fps,s,out,r,e,k⟩=>by
 obtain⟨o1,e1,e⟩:=Zg e
 refine⟨H0,fps,s,o1,r,e1,?_⟩
 cases o1 with
 | nx s1=>exact fun fps1 σ1 H1 r1 _=>⟨H0,fps1,s1,out,r1,e,k⟩
 | bk s1=>cases e;exact k.elim
 | ct s1=>cases e;exact k.elim
 | rt l=>cases e;exact k
theorem Ly(h:Lx X O' Yh g)(hs:∀i∈O',i∈O:=by decide):Lx X O Yh g:=PSs.imp h fun D σ H ⟨H0,fps,s,out,r,e,k⟩=>⟨H0,fps,s,out,r.weak hs,e,k⟩
end
theorem Lz{N:List Str}{n:Nat}{O:List Nat}{vs:List V}{H:Hp}{ls:List PV}{fp:List Addr}(hO:∀i∈O,n<=i)(hl:vs.length=n)(hi:Iss K H ls vs fp):∃fps,Rel K O H fps (YO N.length ls) (L2.start N vs) H:=by
 obtain⟨fps,p1,p2⟩:=hi.fps
 have hlen:=hi.len
 have hout:∀i:Nat,ls.length<=i->∀l,(YO N.length ls)[i]?≠some (some l):=fun i hi l z=>by
  unfold YO at z;rw[List.getElem?_append_right (by simpa using hi),List.getElem?_replicate] at z
  split at z<;>cases z
 refine⟨fps,Same.refl H,?_,fun i a z=>?_,fun i hne=>?_,fun i hi=>?_,fun i hi p hp=>?_,fun i hi j hj p hp=>?_⟩
 ·unfold YO L2.start;simp[hlen]
 ·by_cases hil:i<ls.length
  ·unfold YO at z
   rw[List.getElem?_append_left (by simpa using hil),List.getElem?_map] at z
   cases q:ls[i]? with
   | none=>rw[q] at z;cases z
   | some b=>
    rw[q] at z;cases z
    obtain⟨v,a1,b1⟩:=p1 i a q
    refine⟨v,?_,b1⟩
    unfold L2.start
    rw[List.getElem?_append_left (by simpa [hlen] using hil),List.getElem?_map,a1];rfl
  ·exact absurd z (hout i (by omega) a)
 ·by_cases hil:i<ls.length
  ·exact absurd (by unfold YO;rw[List.getElem?_append_left (by simpa using hil),List.getElem?_map,List.getElem?_eq_getElem hil];rfl) (hne ls[i])
  ·exact p2 i (by omega)
 ·rw[p2 i (by have:=hO i hi;omega)];exact List.nodup_nil
 ·rw[p2 i (by have:=hO i hi;omega)] at hp;simp at hp
 ·rw[p2 i (by have:=hO i hi;omega)] at hp;simp at hp
theorem Jq{N:List Str}{n:Nat}{O:List Nat}{f:XS}{vs:List V}{H:Hp}{Q:VK}{E:XK}(hO:∀i∈O,n<=i)(h:Y8 K (X5 N.length f) n vs H Q E):E7 K O f { nx:=fun _ H'=>Q .non H',rt:=Q } (L2.start N vs) H:=by
 obtain⟨hl,ls,fp,l,hi,e,q⟩:=h
 obtain⟨out,e1,e2⟩:=Zg e
 obtain⟨fps,rel⟩:=Lz (N:=N) hO hl hi
 refine⟨H,fps,YO N.length ls,out,rel,e1,?_⟩
 cases out with
 | nx s'=>
  cases e2
  exact fun σ' H' sm=>q .non H' [] sm Is.non List.nodup_nil fun p hp=>by simp at hp
 | rt v=>
  cases e2
  exact fun v fp H' sm i d n=>q v H' fp sm i d n
 | bk s'=>cases e2
 | ct s'=>cases e2
end VL
namespace VL
open PySem PySem.Spec PyProof.Rows L2
variable {K:PySem.W.Frag}
section
variable {X:Cx} {e st:Expr} {te:TE} {ts:TO} {pos p2:Pos} {fa:XE}
theorem Iss.rev{H:Hp}:∀{l:List PV}{xs:List V},Iss K H l xs []->Iss K H l.reverse xs.reverse []
 | [],xs,h=>by simp only[Iss] at h;rw[h.1];exact Iss.nil
 | a::r,xs,h=>by
  obtain⟨x,t,f1,f2,rfl,h1,h2,ef⟩:=h.inv
  obtain⟨rfl,rfl⟩:f1=[]/\f2=[]:=List.append_eq_nil_iff.mp ef.symm
  rw[List.reverse_cons,List.reverse_cons]
  exact Iss.append (Iss.rev h2) (Iss.one h1)
end
end VL
namespace L2
open PySem PySem.Spec PyProof.Rows
abbrev WJ:=Addr->Obj->List (List Sq×V)->It
end L2
namespace VL
open PySem PySem.Spec PyProof.Rows L2
section
variable {K:PySem.W.Frag} {P:Program} {w:World} {mg:Str->Option Value} {base:Heap}
theorem Hs{x:Str}{st:Stmt}{N ps:List Str}{k n:Nat}{O:List Nat}(m:Nat)(f:XS)(D:Def K mg x st)(S:ZS N ps (Zr st))
  (hb:∀(kV doc pm:Value)(an:Option Addr)(cdv ct:Value)(us:List Value),us.length=ps.length->bindArgs (PySem.W.fnOf x x (X3 st) (YF st) (Zr st) .none kV doc pm an cdv ct) ⟨us,[]⟩=pure (ps.zip us))
  (hn:ps.length=n) (hm:N.length=m) (hO:∀i∈O,n<=i)
  (hbody:∀(fa:Addr)(cdv:Value)(A:Around)(outer:List Env)(s:Shared)(H:Hp)(E:XK),Room k (A.deeper (envOfC x (Zr st) s.heap.objs.size fa cdv))->Lx (Sr Nx P w K mg base N x (Zr st) fa cdv A outer s H E).nox O (YF st) f) :
  XA P w K mg base x ps (Y8 K (X5 m f) n) (k+1):=by
 subst hm
 refine D.cal S hb (fun vs H Q E h=>by rw[hn];exact h.1) fun fa cdv A outer s H vs Q E hr h=>⟨_,hbody fa cdv A outer s H E hr,Jq hO h⟩
end
theorem Ht{K:PySem.W.Frag}:RB K ET Oq:=fun H x y a b l fa fb ha hb e Q k=>by
 cases a with
 | lst m=>cases b with
  | lst n=>
   have e:(if m.length+n.length<=10000 then some (PV.lst (m++n)) else none)=some l:=e
   split at e
   case isFalse=>cases e
   rename_i hl
   cases e
   obtain⟨p,xs,fq,rfl,hp,hi,rfl⟩:=ha.lst_inv
   obtain⟨p',ys,fq',rfl,hp',hi',rfl⟩:=hb.lst_inv
   refine⟨p,p',xs,ys,rfl,rfl,hp,hp',by rw[hi.len,hi'.len];exact Nat.le_of_lt (lt_size hl),fun q hq=>?_⟩
   refine k _ _ (q::(fq++fq')) (Same.new hq _) (Is.lst Zs ((hi.append hi').mono (Same.new hq _))) fun r hr=>?_
   rcases List.mem_cons.mp hr with rfl | hr
   ·exact .inr (.inr hq)
   ·rcases List.mem_append.mp hr with hr | hr
    ·exact .inl (List.mem_cons_of_mem _ hr)
    ·exact .inr (.inl (List.mem_cons_of_mem _ hr))
  | _=>cases e
 | _=>cases e
theorem Hu{X:Cx}{a b:Expr}{fa fb:XE}{pos:Pos}(ha:VE X a fa)(hb:VE X b fb):VE X (.BinOp a .Add b pos) (Zf Oq fa fb):=Wc KJ Ht ha hb
end VL
namespace PW
open PySem L2 VL
noncomputable def Tn:XS:=(Zm (Zn 3 (eP (Zf ZX (Zf Xo (Zf ZD (Zf ZX (Za 0) (eC (.int 999983))) (Za 1)) (Zf ZD (Za 1) (eC (.int 389)))) (eC (.int 999983)))))
  (Zm (Zn 3 (eP (Zf ZX (Zf ZD (Zf ZD (Zf Xo (Za 3) (Za 3)) (Zf Xp (Za 0) (eC (.int 999983)))) (Za 1)) (eC (.int 999979)))))
  (ZY (eP (Zf ZX (Zf Xp (Za 3) (eC (.int 3))) (Za 2))))))
noncomputable def Zj:List PV->Option PV:=X5 4 Tn
noncomputable def Wi:XS:=(Zm (Zn 3 (eP (Zf ZK (Za 1) (Zf ZX (Za 0) (Zc Zq [(Za 1)])))))
  (Zm (Zn 0 (eP (Zf Xp (Za 0) (Zc Zq [(Za 1)]))))
  (Zm (Zn 4 (YC []))
  (Zm (Zn 5 (YC []))
  (Zm (Xf [4,5,9] (ZO [(Za 3)]) (.one 6) (Zm (V9 4 (Zf ZX (Za 0) (Zf ZD (Za 6) (eC (.int 1)))) (Za 6))
  (Zn 0 (eP (Zf Xp (Za 0) (Zf ZD (Za 6) (eC (.int 1))))))))
  (Zm (Xf [4,5,9] (Xw [(eC (.int 1)),(Za 3)]) (.one 6) (Zm (Xm 5 (eP (Xh [(Za 6),(Zf ZX (Za 0) (Za 6))])))
  (Zn 0 (eP (Zf Xp (Za 0) (Za 6))))))
  (Zm (Zn 7 (eP (Zf Xo (Zc VG [(Zf UH (Za 3) (eC (.int 1)))]) (Zf ZX (Za 0) (Zf ZD (Zf Xd (Za 2) (Za 3)) (eC (.int 2)))))))
  (Zm (Zn 0 (eP (Zf Xp (Za 0) (Zf ZD (Zf Xd (Za 2) (Za 3)) (eC (.int 2))))))
  (Zm (Xf [4,5,9] (ZO [(Za 7)]) (.one 6) (Zm (Zn 8 (eP (Zf ZX (Za 0) (Za 3))))
  (Zm (Zn 0 (eP (Zf Xp (Za 0) (Za 3))))
  (Zm (Xm 5 (eP (Xh [(Za 8),(Zf ZX (Zf ZD (Zf ZD (Za 8) (eC (.int 1))) (Zf ZX (Za 0) (Zf Xd (Za 3) (eC (.int 1))))) (Za 3))])))
  (Zn 0 (eP (Zf Xp (Za 0) (Zf Xd (Za 3) (eC (.int 1))))))))))
  (Zm (Zn 9 (Zw 1 [3] (ZO [(Za 3)]) (.one 0) ZG (Zf Rn (YC [(eC (.int 0))]) (Za 1))))
  (Zm (Xf [9] (Y4 (Za 5)) (.many [8,10]) (Zm (Zn 11 (eP (Zf ZD (Zf ZK (Zf ZK (Za 9) (Zf ZK (Za 4) (Za 8))) (Zf ZK (Za 4) (Za 10))) (eC (.int 1)))))
  (Zm (Yo 9 (Zf ZK (Za 4) (Za 8)) (Zf ZK (Za 4) (Za 10)) (Za 11))
  (Yo 9 (Zf ZK (Za 4) (Za 10)) (Zf ZK (Za 4) (Za 8)) (Za 11)))))
  (ZY (eP (Zc Z2 [(Zw 1 [] (Y4 (Za 9)) (.one 0) ZG (Zc Z2 [(Za 0)]))]))))))))))))))
noncomputable def XH:List PV->Option PV:=X5 12 Wi
noncomputable def Pk:XS:=(ZY (eP (Nl (xB (Zf UG (Za 1) (Zc Zq [(Za 0)]))) (Zf ZK (Za 0) (Za 1)) (eC (.int 0)))))
noncomputable def ZQ:List PV->Option PV:=X5 2 Pk
noncomputable def To:XS:=(Zm (Xc (xB (Zf (Z8 false) (Zf ZX (Zc ZQ [(Za 0),(eC (.int 0))]) (eC (.int 2))) (eC (.int 1)))) (ZY (Zc XH [(Zc ZQ [(Za 0),(eC (.int 1))]),(Za 1),(Za 2)])) ZH)
  (Zm (Zn 3 (eP (Zf ZK (Za 1) (Zc Zj [(Zc ZQ [(Za 0),(eC (.int 0))]),(eC (.int 1)),(Zc Zq [(Za 1)])]))))
  (Zm (Zn 4 (Zw 1 [3] (ZO [(Za 3)]) (.one 0) ZG (Zf Rn (YC [(eC (.int 0))]) (Za 1))))
  (Zm (Zn 5 (eP (eC (.int 0))))
  (Zm (Xf [4] (Xw [(eC (.int 1)),(eC (.int 13))]) (.one 6) (Zm (Zn 7 (Zc ZQ [(Za 0),(Za 6)]))
  (Zm (Zn 8 (Zc Zj [(Za 7),(eC (.int 13)),(Za 3)]))
  (Zm (Zn 9 (eP (Zf ZX (Zf ZD (Zf ZD (Za 8) (eC (.int 1))) (Zc Zj [(Za 7),(eC (.int 17)),(Zc U3 [(eC (.int 1)),(Zf Xd (Za 3) (eC (.int 1)))])])) (Za 3))))
  (Zm (Xc (xB (Zf UG (Za 6) (Za 3))) (Zm (Zn 8 (eP (Za 6)))
  (Zn 9 (Zc Zj [(Za 7),(eC (.int 5)),(Za 6)]))) ZH)
  (Zm (Zn 10 (eP (VC (Zf UH (Za 3) (eC (.int 1))) (VC (Zf UG (Za 5) (Za 2)) (Zf UH (Zc Zj [(Za 7),(eC (.int 3)),(eC (.int 3))]) (eC (.int 0)))))))
  (Xc (UR (xB (Zf UG (Za 6) (Za 3))) (xB (Za 10))) (Zm (Yo 4 (Za 8) (Za 9) (Zf ZD (Zf ZK (Zf ZK (Za 4) (Za 8)) (Za 9)) (eC (.int 1))))
  (Zm (Yo 4 (Za 9) (Za 8) (Zf ZK (Zf ZK (Za 4) (Za 8)) (Za 9)))
  (Zn 5 (eP (Zf ZD (Za 5) (eC (.int 1))))))) ZH)))))))
  (Zm (Zn 11 (Zc Zj [(Zc ZQ [(Za 0),(eC (.int 0))]),(eC (.int 7)),(Za 3)]))
  (Zm (Zn 4 (Zw 1 [11] (Y4 (Zf Oq (Xl Xr (Za 4) (YZ (Za 11)) XM) (Xl Xr (Za 4) XM (YZ (Za 11))))) (.one 0) ZG (Zf Uw (Xl Xr (Za 0) (YZ (Za 1)) XM) (Xl Xr (Za 0) XM (YZ (Za 1))))))
  (ZY (eP (Zc Z2 [(Zw 1 [] (Y4 (Za 4)) (.one 0) ZG (Zc Z2 [(Za 0)]))]))))))))))
noncomputable def Hv:List PV->Option PV:=X5 12 To
noncomputable def Ve:XS:=(Zm (Xc (UR (YW (xB (Zc VH [(Za 0),(eC (.ty "tuple"))]))) (xB (Zf (Z8 true) (Zc Zq [(Za 0)]) (Za 1)))) (ZY (eP (eC (.bl false)))) ZH)
  (ZY (eP (Zc Vb [(Zw 1 [] (WI (Za 0)) (.one 0) ZG (Zc Wm [(Za 0)]))]))))
noncomputable def Xt:List PV->Option PV:=X5 2 Ve
end PW
namespace VL
open PySem PySem.W PyProof.Rows
section
variable {r:Nat->Int} {n:Nat}
def Cr(p:Array Nat)(i:Nat):Nat:=p.getD i 0
end
section
variable {prog:Program} {w:World} {A:Around} {E:Value->Shared->Prop} {s:Shared}
theorem Ov{l:Addr}{vs:List Value}{Q:List Value->Shared->Prop}(hl:IsTup s.heap l vs.toArray)
  (h:Q vs { s with heap:=(s.heap.push (seqObj "list" #[] 0)).update s.heap.objs.size (Obj.mapSeq (·++vs.toArray)) }) (hsz:vs.length<=sizeLine:=by size_fits) :
  wpAny (model prog w) A (collect (.ref l)) Q E s:=by
 obtain⟨o,ho,hc,n,hd⟩:=id hl
 unfold collect
 refine wpAny_bind (wpAny_runValue (codeAny_builtin entry_proto_collect' ?_))
 show wpAny _ _ (do again (.builtin "list.__iadd__" ⟨[<-newList [],.ref l],[]⟩)) _ _ s
 refine wpAny_bind (wpAny_newList (wpAny_pure ⟨Code.quiet_builtin _ (by decide +kernel),codeAny_builtin entry_list_iadd' ?_⟩))
 show wpAny _ _ (Builtin.List.listExtendWith (.ref s.heap.objs.size) (.ref l) (.ref s.heap.objs.size)) _ _ { s with heap:=s.heap.push (seqObj "list" #[] 0) }
 unfold Builtin.List.listExtendWith
 have ho':(s.heap.push (seqObj "list" #[] 0)).get? l=some o:=Heap.get?_push_of_some _ ho
 refine wpAny_bind (wpAny_typeOf (T:="tuple") ⟨o,ho',hc⟩ ?_)
 have ht:(Value.type "tuple"==Value.type "tuple")=true:=by rfl
 rw[if_pos (by rw[ht];simp)]
 refine wpAny_bind (listItems_at ho' hd ?_)
 refine wpAny_bind (listItems_at (xs:=#[]) (n:=0) (Heap.get?_push_size _ rfl) rfl ?_)
 rw[if_neg (by simp)]
 refine wpAny_bind (listUpdate_at (xs:=#[]) (n:=0) (Heap.get?_push_size _ rfl) rfl ?_ (Nat.zero_le _) (by show(#[]++vs.toArray).size<=sizeLine+1;simp only[Array.size_append,List.size_toArray,List.length_nil];omega))
 refine wpAny_pure ?_
 show wpAny (model prog w) A (do
   let o <-load s.heap.objs.size
   match o.data with
   | .seq xs _=>pure xs.toList
   | _=>unsupported "internal:collect") Q E { s with heap:=(s.heap.push (seqObj "list" #[] 0)).update s.heap.objs.size (Obj.mapSeq (·++vs.toArray)) }
 refine wpAny_bind (wpAny_load (get?_update_seq (Heap.get?_push_size _ rfl) _) ?_)
 show wpAny _ _ (pure ((#[]:Array Value)++vs.toArray).toList) Q E _
 rw[show((#[]:Array Value)++vs.toArray).toList=vs by simp]
 exact wpAny_pure h
theorem Pl{l:Addr}{vs:List Value}{ns:List Int}{Q:Value->Shared->Prop}(hl:IsTup s.heap l vs.toArray)(hI:IntsAre vs ns)(h64:vs.length<64)
  (h:∀(out:Array Value)(ns':List Int),IntsAre out.toList ns'->ns'.Perm ns->ns'.Pairwise (·<=·)->Q (.ref (s.heap.objs.size+1)) { s with heap:=sortedAll s.heap vs out }) :
  wpAny (model prog w) A (call (.builtin "sorted") [.ref l]) Q E s:=by
 refine Calls.call_function_entry kind_sorted plain_sorted entry_sorted (args_sorted1 _) ?_
 unfold Builtin.«sorted»
 refine wpAny_bind (m:=checkCount "sorted" 1 1 _) (wpAny_pure ?_)
 refine wpAny_bind (Ov hl ?_ (by rw[sizeLine_eq];omega))
 refine wpAny_bind (wpAny_newList ?_ (by rw[sizeLine_eq];omega))
 have hsz:((s.heap.push (seqObj "list" #[] 0)).update s.heap.objs.size (Obj.mapSeq (·++vs.toArray))).objs.size=s.heap.objs.size+1:=by
  rw[Heap.size_update,size_push']
 have hoL:(((s.heap.push (seqObj "list" #[] 0)).update s.heap.objs.size (Obj.mapSeq (·++vs.toArray))).push (seqObj "list" vs.toArray 0)).get? (s.heap.objs.size+1)=some (seqObj "list" vs.toArray 0):=by
  rw[<-hsz];exact Heap.get?_push_size _ rfl
 show wpAny _ _ _ _ _ { s with heap:=((s.heap.push (seqObj "list" #[] 0)).update s.heap.objs.size (Obj.mapSeq (·++vs.toArray))).push (seqObj "list" vs.toArray 0) }
 rw[hsz]
 refine wpAny_bind (wpAny_holding (wpAny_call_entry slot_list_sort ⟨_,hoL,rfl⟩ entry_list_sort (list_sort_tree hoL hI h64 fun out ns' a1 a2 a3=>⟨_,rfl,?_⟩) (args_list_sort _)))
 exact wpAny_pure ⟨_,rfl,h out ns' a1 a2 a3⟩
end
end VL
namespace VL
open PySem PySem.W PyProof.Rows L2
def pairK:List Sq->Option (Int×Int)
 | [.inl x,.inl y]=>some (x,y)
 | _=>none
def Ox(K:PySem.W.Frag):List V->Hp->VK->Prop:=fun xs H Q=>∃p ns,xs=[.ref p]/\SqT K H p (ns.map V.int)/\ns.length<64/\∀l,H l=none->Q (.ref l) (upd H l (.lst ((sortI ns).map V.int)))
theorem Tp{X:Cx}:XQ X (.builtin "sorted") (Ox X.K):=by
 intro pins s σ H xs us Q I r h
 obtain⟨p,ns,rfl,hq,hl,q⟩:=h
 obtain⟨u,rfl,rx⟩:=Us r
 cases rx
 obtain⟨its,r',pl,hz⟩:=I.tuple hq
 have hlen:=r'.length
 rw[List.length_map] at hlen hz
 refine Pl pl (W8 r') (by omega) fun out ns' a1 a2 a3=>?_
 obtain⟨e,he⟩:=sortedAll_at s.heap its out
 have hns:=sortI_eq a2 a3;subst hns
 refine⟨.ref (s.heap.objs.size+1),_,I.laid (t':=s.toks) (fun b o=>sortedAll_old) (Nat.le_succ _) (show ObjOk X.prog X.w _ _ _ (.lst ((sortI ns).map V.int)) from⟨?_,out.toList,e,Wg a1,?_⟩),rfl,q _ (I.hok.fresh (Nat.le_succ _))⟩
 ·rw[List.length_map,(sortI_perm ns).length_eq];exact hz
 ·rw[Array.toArray_toList];exact he
def XI:List PV->Option PV
 | [.tup l]=>(YH l).bind fun ns=>if ns.length<64 then some (.lst (iL (sortI ns))) else none
 | _=>none
theorem Sk{K:PySem.W.Frag}:Eo K (Ox K) XI:=fun H vs ls l fp h e Q k=>by
 unfold XI at e
 split at e
 ·obtain⟨ns,e1,e2⟩:=Zg e
  split at e2
  ·cases e2
   obtain⟨v,rfl,i⟩:=h.one_inv
   have em:=YL e1;subst em
   obtain⟨p,xs,rfl,hp,hi⟩:=i.tup_inv
   obtain⟨rfl,rfl⟩:=hi.iL
   refine⟨p,ns,rfl,.inl (.inl hp),by assumption,fun q hq=>k _ _ [q] (Same.new hq _) (Is.lst Zs (Iss.ofInts _)) (by simp) fun r hr=>?_⟩
   rw[List.mem_singleton.mp hr]
   exact⟨hq,by rw[Zs];exact True.intro⟩
  ·cases e2
 ·cases e
end VL
namespace VL
open PySem PySem.Spec PyProof.Rows L2
variable {K:PySem.W.Frag}
instance (x:Str) (n:Int):Decidable (MulOk x n):=by unfold MulOk;infer_instance
end VL
namespace VL
open PySem PySem.Spec PyProof.Rows L2
variable {K:PySem.W.Frag}
def Jr(j i:Nat)(fk:XE):XS:=fun s=>(fk s).bind fun kk=>(Lr kk).bind fun k=>(NG s i).bind fun m=>
 (gd (ZJ m&&decide (0<=k/\k<10000/\m.length<=10000))).bind fun _=>(m[k.toNat]?).bind fun l=>some (.nx ((s.set i (some (.lst (m.take k.toNat++m.drop (k.toNat+1))))).set j (some l)))
theorem LA{m:List PV}(h:ZJ m=true){k:Nat}{l:PV}(e:m[k]?=some l):Z0 l=true:=by
 rw[XY,List.all_eq_true] at h
 exact h l (List.mem_of_getElem? e)
section
variable {X:Cx} {O:List Nat} {st:Stmt} {i j:Nat} {fk:XE}
theorem FX(h:PS X st (QW (ES X.K "list" KH (RW i) (SY (tF X.K fk) Nt)) (US j)))(hi:i∈O:=by decide)(hj:j∉O:=by decide):VS X O [j,i] st (Jr j i fk):=PS.imp h fun D σ H ⟨H0,fps,s,out,r,e,k⟩=>by
 obtain⟨kk,e0,e⟩:=Zg e
 obtain⟨ki,ek,e⟩:=Zg e
 obtain⟨m,em,e⟩:=Zg e
 obtain⟨_,eg,e⟩:=Zg e
 obtain⟨l,el,e⟩:=Zg e
 rw[VN ek] at e0;have em:=WQ em;have hc:=V8 eg;simp only[Bool.and_eq_true,decide_eq_true_eq] at hc
 obtain⟨pm,k0,k1,hlen⟩:=hc
 cases e
 have hij:i≠j:=fun z=>hj (z▸hi)
 obtain⟨p,xs,fq,hv,hp,hm,ef⟩:=r.lst_at hi em
 refine⟨.ref p,hv,DF hp,fun _=>False,s,_,fun _ z=>z.elim,r.env,e0,fun z H1 fz s1 i1 _=>?_⟩
 obtain⟨rfl,_⟩:=i1.int_inv
 have hm':=(hm.mono s1).pureEq pm
 obtain⟨y,f1,hy,iy,_⟩:=hm'.get el
 have hkl:ki.toNat<xs.length:=(List.getElem?_eq_some_iff.mp hy).1
 have:=Is.pure _ _ _ (LA pm el) iy
 subst this
 refine⟨p,xs,ki,ki.toNat,y,rfl,rfl,s1 _ _ hp,by omega,by omega,?_,hy,?_⟩
 ·have q:(0:Int)<=ki/\ki<(xs.length:Int):=by omega
  simp[seqIndex?,show ¬ki<0 by omega,q.1,q.2]
 obtain⟨g1,a1,_⟩:=hm'.take ki.toNat
 obtain⟨g2,a2,_⟩:=hm'.drop (ki.toNat+1)
 have a1:=a1.pureEq (Rk _ pm)
 have a2:=a2.pureEq (Rl _ pm)
 rw[List.eraseIdx_eq_take_drop_succ]
 have r2:=(r.grow s1).relist hi em ef hv (a1.append a2) (by simp) fun q hq=>by simp at hq
 have mu:=(r.grow s1).own i hi p (by rw[ef];exact List.mem_cons_self)
 have iy':Is X.K (L2.upd H1 p (.lst (xs.take ki.toNat++xs.drop (ki.toNat+1)))) l y []:=Is.tr (TK.upd' mu.2) _ _ _ (fun q hq=>by simp at hq) iy
 have r3:=r2.set (i:=j) iy' (fun z=>absurd z hj) (fun q _ _ p hp=>by simp at hp)
 refine k _ _ _ r3 fun q hq=>?_
 have hq1:q≠j:=fun z=>hq (by rw[z];simp)
 have hq2:q≠i:=fun z=>hq (by rw[z];simp)
 exact⟨by rw[List.getElem?_set,if_neg (Ne.symm hq1)],by rw[Yj hq1];exact .inl (Yj hq2)⟩
end
end VL
set_option maxHeartbeats 1000000
namespace VL
open PySem
def Rise(xs:Array Nat):Prop:=xs.toList.Pairwise (· < ·)
theorem Tq{xs:Array Nat}{i:Nat}(h:i<xs.size)(d:Nat):xs.getD i d=xs[i]:=by
 unfold Array.getD;rw[dif_pos h];rfl
theorem Rise.at{xs:Array Nat}(h:Rise xs){i k:Nat}(hi:i<k)(hk:k<xs.size)(d:Nat):xs.getD i d<xs.getD k d:=by
 have:=List.pairwise_iff_getElem.mp h i k (by simp;omega) (by simpa using hk) hi
 simp only[Array.getElem_toList] at this;unfold Array.getD;rw[dif_pos hk,dif_pos (show i<xs.size by omega)];exact this
theorem Pm{xs:Array Nat}{j:Nat}(h:Rise xs):∀(fuel lo hi:Nat),lo<=hi->hi<=xs.size->hi-lo<=fuel->(∀i,i<lo->xs.getD i j<j)->(∀i,hi<=i->i<xs.size->j<=xs.getD i j)->
  SetTable.below.go xs j fuel lo hi<=xs.size/\(∀i,i<SetTable.below.go xs j fuel lo hi->xs.getD i j<j)/\∀i,SetTable.below.go xs j fuel lo hi<=i->i<xs.size->j<=xs.getD i j
 | 0,lo,hi,h1,h2,h3,h4,h5=>by
  unfold SetTable.below.go
  exact⟨by omega,h4,fun i hi'=>h5 i (by omega)⟩
 | fuel+1,lo,hi,h1,h2,h3,h4,h5=>by
  unfold SetTable.below.go
  by_cases q:lo<hi
  ·rw[if_pos q]
   simp only
   by_cases p:xs.getD ((lo+hi)/2) j<j
   ·rw[if_pos p]
    refine Pm h fuel _ hi (by omega) h2 (by omega) (fun i hi'=>?_) h5
    by_cases e:i=(lo+hi)/2
    ·rw[e];exact p
    ·have:=h.at (show i<(lo+hi)/2 by omega) (show(lo+hi)/2<xs.size by omega) j
     omega
   ·rw[if_neg p]
    refine Pm h fuel lo _ (by omega) (by omega) (by omega) h4 (fun i hi' hs=>?_)
    by_cases e:i=(lo+hi)/2
    ·rw[e];omega
    ·have:=h.at (show(lo+hi)/2<i by omega) hs j
     omega
  ·rw[if_neg q]
   exact⟨by omega,h4,fun i hi'=>h5 i (by omega)⟩
theorem UK{xs:Array Nat}(h:Rise xs)(j:Nat):SetTable.below xs j<=xs.size/\(∀i,i<SetTable.below xs j->xs.getD i j<j)/\∀i,SetTable.below xs j<=i->i<xs.size->j<=xs.getD i j:=
 Pm h xs.size 0 xs.size (Nat.zero_le _) (Nat.le_refl _) (by omega) (fun i hi=>by omega) (fun i h1 h2=>by omega)
theorem NN{xs:Array Nat}(h:Rise xs):SetTable.below xs 0=0:=by
 have hb:=UK h 0
 by_cases q:SetTable.below xs 0=0
 ·exact q
 ·have:=hb.2.1 0 (by omega)
  omega
theorem NO{xs:Array Nat}(h:Rise xs){i:Nat}(hi:i<xs.size):SetTable.below xs (xs[i]+1)=i+1:=by
 have hb:=UK h (xs[i]+1)
 have gi:∀d,xs.getD i d=xs[i]:=fun d=>Tq hi d
 have h1:i<SetTable.below xs (xs[i]+1):=by
  by_cases q:SetTable.below xs (xs[i]+1)<=i
  ·have:=hb.2.2 i q hi
   rw[gi] at this;omega
  ·omega
 by_cases q:SetTable.below xs (xs[i]+1)=i+1
 ·exact q
 ·have h2:=hb.2.1 (i+1) (by omega)
  have h3:=h.at (show i<i+1 by omega) (show i+1<xs.size by omega) (xs[i]+1)
  rw[gi] at h3;omega
theorem NP(n:Nat):Rise (Array.range n):=by
 unfold Rise;rw[Array.toList_range];exact List.pairwise_lt_range
theorem Js{xs:Array Nat}(h:Rise xs){j:Nat}(hj:¬xs[SetTable.below xs j]?=some j):Rise (SetTable.insertAt xs (SetTable.below xs j) j):=by
 have hb:=UK h j
 generalize SetTable.below xs j=p at hb hj
 unfold Rise SetTable.insertAt;simp only[Array.toList_append,Array.toList_push,Array.toList_extract];rw[List.pairwise_append,List.pairwise_append]
 have hx:xs.toList.Pairwise (· < ·):=h
 have take:(xs.toList.extract 0 p)=xs.toList.take p:=by simp[List.extract]
 have drop:(xs.toList.extract p xs.size)=xs.toList.drop p:=by
  simp only[List.extract]
  exact List.take_of_length_le (by simp)
 rw[take,drop]
 have lt:∀a∈xs.toList.take p,a<j:=fun a ha=>by
  obtain⟨i,hi,rfl⟩:=List.getElem_of_mem ha
  rw[List.length_take] at hi
  have:=hb.2.1 i (by omega)
  rw[List.getElem_take];unfold Array.getD at this;rw[dif_pos (show i<xs.size by simp at hi;omega)] at this
  simpa using this
 have gt:∀a∈xs.toList.drop p,j<a:=fun a ha=>by
  obtain⟨i,hi,rfl⟩:=List.getElem_of_mem ha
  rw[List.length_drop] at hi
  have hs:p+i<xs.size:=by simp at hi;omega
  rw[List.getElem_drop]
  have h1:=hb.2.2 (p+i) (by omega) hs
  unfold Array.getD at h1;rw[dif_pos hs] at h1
  have h0:¬xs[p]=j:=fun z=>hj (by rw[Array.getElem?_eq_getElem (by omega),z])
  have h3:j<=xs[p]:=by
   have:=hb.2.2 p (Nat.le_refl _) (by omega)
   unfold Array.getD at this;rw[dif_pos (show p<xs.size by omega)] at this;exact this
  by_cases z:i=0
  ·subst z
   simp only[Nat.add_zero,Array.getElem_toList];omega
  ·have h4:=h.at (show p<p+i by omega) hs 0
   rw[Tq hs,Tq (show p<xs.size by omega)] at h4;simp only[Array.getElem_toList];omega
 refine⟨⟨hx.sublist (List.take_sublist _ _),by simp,fun a ha b hb'=>?_⟩,hx.sublist (List.drop_sublist _ _),fun a ha b hb'=>?_⟩
 ·rw[List.mem_singleton.mp hb'];exact lt a ha
 ·rcases List.mem_append.mp ha with q | q
  ·have:=lt a q;have:=gt b hb';omega
  ·rw[List.mem_singleton.mp q];exact gt b hb'
structure Ws(led:Bool)(t:SetTable):Prop where
 rise:Rise t.place
 dum:t.dummies = #[]
 led:t.led=led
theorem LB(led:Bool):Ws led (SetTable.fresh 0 0 led):=⟨by unfold Rise SetTable.fresh;simp,rfl,rfl⟩
theorem WA{led:Bool}{t:SetTable}(h:Ws led t)(n:Nat):Ws led (t.standIn n):=⟨NP n,rfl,h.led⟩
theorem Oy{t:SetTable}(hd:t.dummies = #[]){f:Nat->Int}{h:Int}:∀(fuel:Nat)(p:SetTable.Probe),p.dummy=none->∀j d,SetTable.probe.go t f h fuel p=some (.empty j d)->d=none/\¬t.place[SetTable.below t.place j]?=some j
 | 0,p,hp,j,d,e=>by simp[SetTable.probe.go] at e
 | fuel+1,p,hp,j,d,e=>by
  unfold SetTable.probe.go at e
  have hh:SetTable.has t.dummies p.j=false:=by
   rw[hd];unfold SetTable.has;simp
  have adv:(t.advance p).dummy=none:=by
   unfold SetTable.advance
   split
   ·exact hp
   ·exact hp
  cases hs:t.slot p.j with
  | empty=>
   rw[hs] at e;simp only[Option.some.injEq,SetTable.Met.empty.injEq] at e
   obtain⟨rfl,rfl⟩:=e
   refine⟨hp,fun z=>?_⟩
   unfold SetTable.slot at hs
   simp only at hs
   rw[z] at hs
   simp at hs
  | dummy=>
   exfalso;unfold SetTable.slot at hs
   simp only at hs
   rw[hh] at hs
   split at hs<;>simp at hs
  | live i=>
   rw[hs] at e
   simp only at e
   split at e
   ·cases e
   ·exact Oy hd fuel _ adv j d e
theorem Hw{t:SetTable}(hd:t.dummies = #[]){h:Int}{j:Nat}{b:Bool}(e:t.freeSlot h=some (j,b)):b=false/\¬t.place[SetTable.below t.place j]?=some j:=by
 unfold SetTable.freeSlot at e
 split at e
 ·rename_i j' d hp
  have:=Oy hd _ _ rfl j' d hp
  obtain⟨rfl,hn⟩:=this
  simp at e
  obtain⟨rfl,rfl⟩:=e
  exact⟨rfl,hn⟩
 ·cases e
theorem Hx{led:Bool}{t:SetTable}(h:Ws led t){j:Nat}(hj:¬t.place[SetTable.below t.place j]?=some j):Ws led (t.put j).1:=by
 refine⟨Js h.rise hj,?_,h.led⟩
 show(if SetTable.has t.dummies j=true then _ else t.dummies) = #[]
 have hh:SetTable.has t.dummies j=false:=by
  rw[h.dum];unfold SetTable.has;simp
 rw[hh];exact h.dum
theorem NQ{led:Bool}{t:SetTable}(h:Ws led t)(es:Array (Int×Value))(hs:Int)(x:Value):Ws led (layNew t es hs x).2.1:=by
 unfold layNew
 cases e:t.freeSlot hs with
 | none=>exact WA h _
 | some jb=>
  obtain⟨j,b⟩:=jb
  have:=Hw h.dum e
  have tp:=Hx h this.2
  show Ws led ((t.put j).1.orStandIn _)
  unfold SetTable.orStandIn
  split
  ·exact tp
  ·exact WA tp _
theorem LC{led:Bool}{t:SetTable}(h:Ws led t)(es:Array (Int×Value))(n:Nat):Ws led (relayAll t es n).2.1:=by
 unfold relayAll
 cases e:t.relaid (es.map (·.1)) n with
 | none=>exact WA h _
 | some to=>
  obtain⟨t',o⟩:=to
  simp only
  split
  ·show Ws led t'
   unfold SetTable.relaid SetTable.laid at e;simp only[Option.pure_def,Option.bind_eq_bind,Option.bind_eq_some_iff,Option.some.injEq,Prod.mk.injEq] at e
   obtain⟨ow,_,rfl,_⟩:=e
   refine⟨?_,rfl,h.led⟩
   show List.Pairwise (· < ·) (List.map _ _).toArray.toList
   rw[List.toList_toArray,List.map_filterMap]
   refine List.Pairwise.filterMap (R:=(· < ·)) _ (fun a a' haa b hb b' hb'=>?_) List.pairwise_lt_range
   simp at hb hb'
   omega
  ·exact WA h _
end VL
set_option maxHeartbeats 3200000
namespace VL
open PySem PySem.Spec PyProof.Rows
section
variable {prog:Program} {w:World} {A:Around} {E:Value->Shared->Prop} {s:Shared}
def T3(w:World):Bool:=!w.params.followText "set-order"
def Sw(w:World):Obj:={ cls:=.type "set",dict:=none,data:=.set #[] 0 (.fresh 0 0 (T3 w)) }
theorem Jt(v:Value){Q:Value->Shared->Prop}(h:Q (.ref s.heap.objs.size) { s with heap:=s.heap.push (Sw w) }) :
  codeAny (model prog w) A (.call (.builtin "set.__new__") ⟨[.type "set",v],[]⟩) (wants Q E) s:=by
 refine codeAny_of_tree ?_
 refine wpAny_bind (m:=checkBuiltinCall "set.__new__" ⟨[.type "set",v],[]⟩) (wpAny_of_eq (F.newCall_set_1 v) (wpAny_pure ⟨plainId_quiet F.plain_set_new _,codeAny_builtin F.entry_set_new ?_⟩))
 rw[Around.under_plainId F.plain_set_new _]
 unfold Builtin.«set.__new__» Builtin.Frozenset.newClass
 have self:=sub_set_self;cases s
 simp only
 wp_walk
 refine wpAny_askSetting (wpAny_pure ?_)
 simp only[newObj]
 exact wpAny_bind (wpAny_alloc (wpAny_pure (wpAny_pure h)))
end
theorem Oz:∀{us:List Value}{ns:List Int},IntsAre us ns->us.length=ns.length
 | _,_,.nil=>rfl
 | _,_,.cons n t h=>by simp[Oz h]
end VL
namespace VL
open PySem PySem.W PyProof.Rows L2
theorem Sl{α:Type}:∀{l:List α}{p:Nat}(h:p<l.length),(l[p]::l.eraseIdx p).Perm l
 | a::l,0,h=>List.Perm.refl _
 | a::l,p+1,h=>by
  have:=Sl (l:=l) (p:=p) (by simpa using h)
  simp only[List.getElem_cons_succ,List.eraseIdx_cons_succ]
  exact(List.Perm.swap _ _ _).trans (this.cons a)
theorem MM{α:Type}(next:Nat->Nat):∀(fuel k:Nat)(left:List α)(out:Array α),left.length=fuel->∃l,(pickOrder.go next fuel k left out).toList=out.toList++l/\l.Perm left
 | 0,k,left,out,h=>⟨[],by unfold pickOrder.go;simp,by rw[List.length_eq_zero_iff.mp h]⟩
 | fuel+1,k,left,out,h=>by
  have hx:next k%left.length<left.length:=Nat.mod_lt _ (by omega)
  obtain⟨l,e1,e2⟩:=MM next fuel (k+1) (left.eraseIdx (next k%left.length)) (out.push left[next k%left.length]) (by rw[List.length_eraseIdx_of_lt hx];omega)
  refine⟨left[next k%left.length]::l,?_,?_⟩
  ·unfold pickOrder.go
   rw[List.getElem?_eq_getElem hx]
   simp only
   rw[e1]
   simp
  ·exact(e2.cons _).trans (Sl hx)
theorem LD{α:Type}(next:Nat->Nat)(xs:Array α):(pickOrder next xs).toList.Perm xs.toList:=by
 obtain⟨l,e1,e2⟩:=MM next xs.size 0 xs.toList #[] (by simp)
 unfold pickOrder;rw[e1]
 simpa using e2
def Up(w:World)(a:Addr)(ep:Nat)(es:Array (Int×Value)):Array (Int×Value):=if w.params.followText "set-order" = true then pickOrder (w.params.setOrder a ep) es else es
theorem OA(w:World)(a:Addr)(ep:Nat)(es:Array (Int×Value)):(Up w a ep es).toList.Perm es.toList:=by
 unfold Up
 split
 ·exact LD _ _
 ·exact List.Perm.refl _
theorem Tr(w:World)(a:Addr)(ep:Nat)(es:Array (Int×Value)):(Up w a ep es).size=es.size:=by
 have:=(OA w a ep es).length_eq
 simpa using this
def PY(w:World)(t:SetTable)(i:Nat):Nat:=if w.params.followText "set-order" = true then 0 else match i with
 | 0=>0
 | j+1=>t.place.getD j 0+1
def IsSetIter(h:Heap)(it a:Addr)(st i n ep:Nat):Prop:=∃o,h.get? it=some o/\o.cls = .type "set_iterator"/\o.data = .fields #[.int st 0,.int i 0,.ref a,.int n 0,.int ep 0]
theorem slot_setit_next:Slot "set_iterator" "__next__" "set_iterator.__next__":=
 .of (owner:="set_iterator") (n:="__next__") (by rw[typeLookup_type,builtinLookup_eq_fast];kernel_rfl) (by decide +kernel) (by decide +kernel) (by decide +kernel)
  (by first | exact .inl (by decide +kernel) | exact .inr (by decide +kernel)) (by rw[isSubtype_type];kernel_rfl)
theorem WR:entryFor table "set_iterator.__next__" = some Builtin.«set_iterator.__next__»:=entryFor_of_tree (by kernel_rfl)
theorem Sm:Manifest.owners.lookup (String.ofList ['r','o','t','a','r','e','t','i','_','t','e','s'].reverse)=some Manifest.sig_set_iterator:=by kernel_rfl
theorem Vo(a:Value):argsOk "set_iterator.__next__" ⟨[a],[]⟩:=by
 unfold argsOk;rw[signature?_of (id:="set_iterator.__next__") (n:=['_','_','t','x','e','n','_','_']) (o:=['r','o','t','a','r','e','t','i','_','t','e','s']) (by kernel_rfl) Sm];kernel_rfl
theorem Vp:Slot "set_iterator" "__iter__" "set_iterator.__iter__":=
 .of (owner:="set_iterator") (n:="__iter__") (by rw[typeLookup_type,builtinLookup_eq_fast];kernel_rfl) (by decide +kernel) (by decide +kernel) (by decide +kernel)
  (by first | exact .inl (by decide +kernel) | exact .inr (by decide +kernel)) (by rw[isSubtype_type];kernel_rfl)
theorem Sx(a:Value):argsOk "set_iterator.__iter__" ⟨[a],[]⟩:=by
 unfold argsOk;rw[signature?_of (id:="set_iterator.__iter__") (n:=['_','_','r','e','t','i','_','_']) (o:=['r','o','t','a','r','e','t','i','_','t','e','s']) (by kernel_rfl) Sm];kernel_rfl
theorem Rw:entryFor table "set.__iter__" = some Builtin.«frozenset.__iter__»:=
 entryFor_alias (id':="frozenset.__iter__") (by kernel_rfl) rfl (by decide +kernel) (by kernel_rfl)
section
variable {prog:Program} {w:World} {A:Around} {E:Value->Shared->Prop} {s:Shared} {it a:Addr} {i ep:Nat} {o:Obj} {es:Array (Int×Value)} {t:SetTable} {ks:List Nat}
theorem IsSetIter.typeIs{st i n ep:Nat}(x:IsSetIter s.heap it a st i n ep):s.TypeIs (.ref it) "set_iterator":=let⟨o,ho,hc,_⟩:=x;⟨o,ho,hc⟩
theorem IsSetIter.at{h h':Heap}{st i n ep:Nat}(x:IsSetIter h it a st i n ep)(e:∀o,h.get? it=some o->h'.get? it=some o):IsSetIter h' it a st i n ep:=let⟨o,ho,r⟩:=x;⟨o,e _ ho,r⟩
theorem T4{Q:Bool->Shared->Prop}(h:Q (w.params.followText "set-order") s):wpAny (model prog w) A setsByText Q E s:=wpAny_bind (wpAny_askSetting (wpAny_pure h))
theorem NR{st i n ep:Nat}{Q:Value->Shared->Prop}(hit:IsSetIter s.heap it a st i n ep)(h:Q (.ref it) s):wpAny (model prog w) A (pyIter (.ref it)) Q E s:=by
 obtain⟨b,hb⟩:∃b,entryFor table "set_iterator.__iter__" = some b/\∀(A:Around)(E:Value->Shared->Prop)(s:Shared)(v:Value)(Q:PySem.Fin->Shared->Prop),Q (.done (.ret v)) s->wpAny (model prog w) A (b ⟨[v],[]⟩) Q E s:=
  ⟨Builtin.«dict_keyiterator.__iter__»,entryFor_alias (id':="dict_keyiterator.__iter__") (by kernel_rfl) rfl (by decide +kernel) (by kernel_rfl),fun A E s v Q h=>by
   show wpAny _ _ (ret v) _ _ s
   exact wpAny_pure h⟩
 refine wpAny_pyIter_slot hit.typeIs Vp (wpAny_call_entry Vp hit.typeIs hb.1 (hb.2 _ _ _ _ _ ?_) (Sx _))
 exact⟨_,rfl,"set_iterator",_,hit.typeIs,slot_setit_next.lookup,h⟩
theorem Ju{Q:Bool->Shared->Prop}(hT:s.TypeIs (.ref a) "set")(h:Q false s):wpAny (model prog w) A (Builtin.List.listLengthHint (.ref a)) Q E s:=by
 unfold Builtin.List.listLengthHint
 refine wpAny_bind (wpAny_specialOf hT PySem.F.slot_set_len.lookup ?_)
 generalize hid:("set.__len__" : String)=id0
 wp_delta
 rw[show splitId id0=some ("set","__len__") from by subst hid;decide +kernel]
 subst hid
 refine wpAny_bind (wpAny_isInstance (T:="set") (b:=true) hT (by rw[isSubtype_type];kernel_rfl) ?_)
 refine wpAny_ite_split (fun hab=>absurd hab (by decide)) (fun _=>?_)
 refine wpAny_ite_split (fun _=>?_) (fun hab=>absurd (by decide +kernel) hab)
 refine wpAny_bind (wpAny_typeOf hT ?_)
 exact wpAny_pure h
end
def LF:Value->Int
 | .int n _=>n
 | _=>0
theorem QA:∀{us:List Value},(∀v∈us,∃n t,v=Value.int n t)->IntsAre us (us.map LF)
 | [],_=>.nil
 | u::us,h=>by
  obtain⟨n,t,rfl⟩:=h u (by simp)
  exact .cons n t (QA fun v hv=>h v (by simp[hv]))
theorem OB(ns:List Nat):(ns.map fun(k:Nat)=>V.int (k:Int))=(ns.map fun(k:Nat)=>(k:Int)).map V.int:=by
 rw[List.map_map];rfl
end VL
namespace VX
open PySem PySem.Spec PyProof.Rows L2
structure Eff(fs ch:List Addr)(h h':Heap):Prop where
 keep:∀b o,h.get? b=some o->b∉ch->b∉fs->h'.get? b=some o
 slot:∀b o,h.get? b=some o->b∉ch->b∈fs->∃sl,h'.get? b=some { o with slots:=sl }
 there:∀b o,h.get? b=some o->∃o',h'.get? b=some o'
theorem Eff.trans{fs ch:List Addr}{h h1 h2:Heap}(x:Eff fs ch h h1)(y:Eff fs ch h1 h2):Eff fs ch h h2:=
 ⟨fun b o e hc hf=>y.keep b o (x.keep b o e hc hf) hc hf,fun b o e hc hf=>by
  obtain⟨sl,e1⟩:=x.slot b o e hc hf
  obtain⟨sl2,e2⟩:=y.slot b _ e1 hc hf
  exact⟨sl2,e2⟩,fun b o e=>by
  obtain⟨o1,e1⟩:=x.there b o e
  exact y.there b o1 e1⟩
theorem Eff.mono{fs ch ch':List Addr}{h h':Heap}(x:Eff fs ch h h')(hs:∀b∈ch,b∈ch'):Eff fs ch' h h':=
 ⟨fun b o e hc hf=>x.keep b o e (fun z=>hc (hs b z)) hf,fun b o e hc hf=>x.slot b o e (fun z=>hc (hs b z)) hf,x.there⟩
theorem Eff.field{fs:List Addr}{h:Heap}{a:Addr}{o:Obj}{vs:Array Value}{f:Array Value->Array Value}(ha:h.get? a=some o)(hd:o.data = .fields vs):Eff fs [a] h (h.update a (Obj.mapFields f)):=
  ⟨fun b u e hc _=>by rw[Heap.get?_update_other _ _ (fun z=>hc (by rw[z];exact .head _))];exact e,
   fun b u e hc _=>⟨u.slots,by rw[Heap.get?_update_other _ _ (fun z=>hc (by rw[z];exact .head _))];exact e⟩,
   fun b u e=>by
    by_cases q:a=b
    · subst q;exact⟨_,Heap.get?_update_self _ ha (Obj.isFreed_of_fields (Obj.data_mapFields hd f))⟩
    · exact⟨u,by rw[Heap.get?_update_other _ _ q];exact e⟩⟩
theorem Eff.funs{fs:List Addr}{ch:List Addr}{h h' base:Heap}{l:List Env}(x:Eff fs ch h h')(hl:h.FunFrames base l)(hc:∀b∈ch,∀o,h.get? b=some o->∃vs,o.data = .fields vs):h'.FunFrames base l:=
 hl.of_keeps fun b o e hn=>by
  have hb:b∉ch:=fun z=>by obtain⟨vs,q⟩:=hc b z o e;exact hn vs q
  by_cases hf:b∈fs
  ·obtain⟨sl,q⟩:=x.slot b o e hb hf;exact⟨_,q,rfl⟩
  ·exact⟨o,x.keep b o e hb hf,rfl⟩
section
variable {M:Model} {A:Around} {E:Value->Shared->Prop} {s:Shared}
theorem Rx{base:Heap}{env:Env}{outer:List Env}{L e:Addr}{oe:Obj}{vs:Array Value}{head:Value}{hadNext:Bool}{Q:Unit->Shared->Prop}
  (hfr:A.frames=some (env::outer)) (hl:s.heap.FunFrames base (env::outer)) (hf:env.frame=some L)
  (he:s.heap.get? e=some oe) (hd:oe.data = .fields vs) (hsz:1<vs.size)
  (h:∀h' T,s.heap.objs.size<=T->h'.get? e=some (oe.mapFields (·.setIfInBounds 1 (.ref T)))->(∃oT ts,h'.get? T=some oT/\oT.data = .fields ts/\ts[3]?=some (rawInt L))->Eff ((env::outer).filterMap (·.frame)) [e] s.heap h'->Q () { s with heap:=h' }) :
  wpAny M A (do let a <-frameOf env;let pl <-entryPlaceOf L hadNext;let b <-EntryCells.newEntry head a .none (rawInt L) .none pl;setField (.ref e) 1 b) Q E s:=by
 have hene:e∉(env::outer).filterMap (·.frame):=fun hm=>by
  obtain⟨_,o,ho,hnf⟩:=hl.mem hm
  rw[he] at ho;injection ho with ho;subst ho;exact hnf vs hd
 refine wpAny_bind (wpAny_frameOf_fun hfr hl hf fun h₁ hs₁=>?_)
 refine wpAny_bind (wpAny_entryPlaceOf fun pl hpl=>?_)
 unfold EntryCells.newEntry newFields
 refine wpAny_bind (wpAny_newObj_type ?_ (hpl.sizeOk5 _ _ _ _ _))
 have he₁:h₁.get? e=some oe:=(hs₁.2.1 e hene).trans he
 have he₂:=Heap.get?_push_of_some (h:=h₁) { cls:=.type "traceback",dict:=none,data:=.fields ([head,.ref L,.none,rawInt L,.none]++(if pl.isEmpty then List.replicate 6 Value.none else pl)).toArray } he₁
 have hsize:h₁.objs.size=s.heap.objs.size:=hs₁.1
 have p1:=Heap.get?_update_self (Obj.mapFields (·.setIfInBounds 1 (Value.ref h₁.objs.size))) he₂ (Obj.isFreed_of_fields (Obj.data_mapFields hd _))
 have p2:=(Heap.get?_update_other (h₁.push { cls:=.type "traceback",dict:=none,data:=.fields ([head,.ref L,.none,rawInt L,.none]++(if pl.isEmpty then List.replicate 6 Value.none else pl)).toArray })
  (Obj.mapFields (·.setIfInBounds 1 (Value.ref h₁.objs.size))) (Nat.ne_of_lt (Heap.lt_size he₁))).trans (Heap.get?_push_size h₁ rfl)
 have p3:Eff ((env::outer).filterMap (·.frame)) [e] s.heap ((h₁.push { cls:=.type "traceback",dict:=none,data:=.fields ([head,.ref L,.none,rawInt L,.none]++(if pl.isEmpty then List.replicate 6 Value.none else pl)).toArray }).update e (Obj.mapFields (·.setIfInBounds 1 (Value.ref h₁.objs.size)))):=
  Eff.trans (h1:=h₁) ⟨fun b o q _ hb=>(hs₁.2.1 b hb).trans q,fun b o q _ _=>hs₁.2.2 b o q,fun b o q=>by obtain⟨sl,z⟩:=hs₁.2.2 b o q;exact⟨_,z⟩⟩ (Eff.trans (h1:=h₁.push _) ⟨fun b o q _ _=>Heap.get?_push_of_some _ q,fun b o q _ _=>⟨o.slots,Heap.get?_push_of_some _ q⟩,fun b o q=>⟨o,Heap.get?_push_of_some _ q⟩⟩ (Eff.field he₂ hd))
 refine wpAny_setField he₂ hd hsz (h _ h₁.objs.size (by omega) p1 ⟨_,_,p2,rfl,?_⟩ p3)
 simp
def FY(h:Heap)(e:Addr)(cls:Value)(dd:Option Addr):Prop:=∃oe vs,h.get? e=some oe/\oe.cls=cls/\oe.dict=dd/\oe.data = .fields vs/\vs[1]?=some .none
def Hy(h:Heap)(e:Addr)(cls:Value)(dd:Option Addr)(T:Addr)(fl:Value):Prop:=
 ∃oe vs oT ts,h.get? e=some oe/\oe.cls=cls/\oe.dict=dd/\oe.data = .fields vs/\vs[1]?=some (.ref T)/\T≠e/\h.get? T=some oT/\oT.data = .fields ts/\ts[3]?=some fl
theorem VR(o:Obj)(f:Array Value->Array Value):(o.mapFields f).dict=o.dict:=by
 unfold Obj.mapFields
 split<;>rfl
variable {base:Heap} {env:Env} {outer:List Env} {L e T:Addr} {cls fl:Value} {dd:Option Addr} {Q:Unit->Shared->Prop}
theorem E8(hfr:A.frames=some (env::outer))(hl:s.heap.FunFrames base (env::outer))(hf:env.frame=some L)(x:FY s.heap e cls dd)
  (h:∀h' T,s.heap.objs.size<=T->Hy h' e cls dd T (rawInt L)->Eff ((env::outer).filterMap (·.frame)) [e] s.heap h'->Q () { s with heap:=h' }):wpAny M A (noteFrame (.ref e) env) Q E s:=by
 obtain⟨oe,vs,he,hc,hdd,hd,h1⟩:=x
 unfold noteFrame;simp only[hf]
 refine wpAny_bind (wpAny_field he hd h1 ?_)
 rw[if_neg (by decide)]
 have hsz:=(Array.getElem?_eq_some_iff.mp h1).1
 refine Rx hfr hl hf he hd hsz fun h' T hT p1 ⟨oT,ts,p2,p3,p4⟩ p5=>h h' T hT ⟨_,_,oT,ts,p1,(Obj.cls_mapFields _ _).trans hc,(VR _ _).trans hdd,Obj.data_mapFields hd _,by simp[hsz],?_,p2,p3,p4⟩ p5
 exact Nat.ne_of_gt (Nat.lt_of_lt_of_le (Heap.lt_size he) hT)
theorem E9(hfr:A.frames=some (env::outer))(hl:s.heap.FunFrames base (env::outer))(hf:env.frame=some L)(x:Hy s.heap e cls dd T .none)
  (h:∀h' T',s.heap.objs.size<=T'->Hy h' e cls dd T' (rawInt L)->Eff ((env::outer).filterMap (·.frame)) [e,T] s.heap h'->Q () { s with heap:=h' }):wpAny M A (noteFrame (.ref e) env) Q E s:=by
 obtain⟨oe,vs,oT,ts,he,hc,hdd,hd,h1,hTe,hT,hdT,h3⟩:=x
 unfold noteFrame;simp only[hf]
 refine wpAny_bind (wpAny_field he hd h1 ?_)
 rw[if_pos (show(Value.ref T != Value.none)=true from by simp)]
 refine wpAny_bind (wpAny_field hT hdT h3 ?_)
 rw[if_neg (show ¬((Value.none==rawInt L)=true) from by simp[rawInt])]
 refine wpAny_bind (wpAny_setField hT hdT (Array.getElem?_eq_some_iff.mp h3).1 ?_)
 have hsz:=(Array.getElem?_eq_some_iff.mp h1).1
 have ef:Eff ((env::outer).filterMap (·.frame)) [T] s.heap (s.heap.update T (Obj.mapFields (·.setIfInBounds 3 Value.none))):=Eff.field hT hdT
 have hl':=ef.funs hl (fun b hb o q=>by rw[List.mem_singleton.mp hb,hT] at q;cases q;exact⟨_,hdT⟩)
 have he':=(Heap.get?_update_other s.heap (Obj.mapFields (·.setIfInBounds 3 Value.none)) hTe).trans he
 have hz:(s.heap.update T (Obj.mapFields (·.setIfInBounds 3 Value.none))).objs.size=s.heap.objs.size:=by simp
 refine Rx (s:={ s with heap:=s.heap.update T (Obj.mapFields (·.setIfInBounds 3 Value.none)) }) hfr hl' hf he' hd hsz fun h' T' hT' p1 ⟨oT',ts',p2,p3,p4⟩ p5=>h h' T' (by rw[<-hz];exact hT') ⟨_,_,oT',ts',p1,(Obj.cls_mapFields _ _).trans hc,(VR _ _).trans hdd,Obj.data_mapFields hd _,by simp[hsz],?_,p2,p3,p4⟩ ?_
 ·have hT':(s.heap.update T (Obj.mapFields (·.setIfInBounds 3 Value.none))).objs.size<=T':=hT'
  rw[hz] at hT'
  exact Nat.ne_of_gt (Nat.lt_of_lt_of_le (Heap.lt_size he) hT')
 ·exact(ef.mono fun b hb=>by simp at hb;simp[hb]).trans (p5.mono fun b hb=>by simp at hb;simp[hb])
theorem NS(x:Hy s.heap e cls dd T fl){fs:List Addr}(h:∀h',Hy h' e cls dd T .none->Eff fs [T] s.heap h'->h'.objs.size=s.heap.objs.size->Q () { s with heap:=h' }):wpAny M A (setFlight (.ref e) none) Q E s:=by
 obtain⟨oe,vs,oT,ts,he,hc,hdd,hd,h1,hTe,hT,hdT,h3⟩:=x
 have hsz:=(Array.getElem?_eq_some_iff.mp h3).1
 unfold setFlight
 refine wpAny_bind (wpAny_field he hd h1 ?_)
 rw[if_pos (show(Value.ref T != Value.none)=true from by simp)]
 refine wpAny_setField hT hdT hsz (h _ ⟨oe,vs,_,_,(Heap.get?_update_other _ _ hTe).trans he,hc,hdd,hd,h1,hTe,Heap.get?_update_self _ hT (Obj.isFreed_of_fields (Obj.data_mapFields hdT _)),Obj.data_mapFields hdT _,by simp[hsz]⟩ (Eff.field hT hdT) (by simp))
theorem Jw(hfr:A.frames=some (env::outer))(hl:s.heap.FunFrames base (env::outer))(hf:env.frame=some L)(x:FY s.heap e cls dd)
  (h:∀h' T,s.heap.objs.size<=T->Hy h' e cls dd T .none->Eff ((env::outer).filterMap (·.frame)) [e] s.heap h'->Q () { s with heap:=h' }):wpAny M A (leaving env (.ref e)) Q E s:=by
 unfold leaving
 refine wpAny_bind (E8 hfr hl hf x fun h1 T hT x1 e1=>?_)
 refine NS x1 (fs:=(env::outer).filterMap (·.frame)) fun h2 x2 e2 _=>h h2 T hT x2 ?_
 have nT:∀b o,s.heap.get? b=some o->b≠T:=fun b o q z=>by
  subst z
  exact Nat.lt_irrefl _ (Nat.lt_of_lt_of_le (Heap.lt_size q) hT)
 exact⟨fun b o q hc hf=>e2.keep b o (e1.keep b o q hc hf) (by simpa using nT b o q) hf,fun b o q hc hf=>by
  obtain⟨sl,q1⟩:=e1.slot b o q hc hf
  obtain⟨sl2,q2⟩:=e2.slot b _ q1 (by simpa using nT b o q) hf
  exact⟨sl2,q2⟩,fun b o q=>by
  obtain⟨o1,q1⟩:=e1.there b o q
  exact e2.there b o1 q1⟩
end
section
variable {P:Program} {w:World} {fs ch:List Addr} {H:Hp} {h h':Heap}
theorem MN(x:HOk P w H h)(e:Eff fs ch h h')(hc:∀b∈ch,H b=none)(hf:∀b∈fs,H b=none):HOk P w H h':=fun a o ha=>
 (x a o ha).stay (fun b u hb q=>by
  have hb':∃o',H b=some o':=by
   rcases hb with z | z
   ·exact⟨o,by rw[z];exact ha⟩
   ·exact⟨_,z⟩
  obtain⟨o',hb'⟩:=hb'
  exact e.keep b u q (fun z=>by rw[hc b z] at hb';cases hb') (fun z=>by rw[hf b z] at hb';cases hb')) (fun _ q=>q) fun _ _ q=>q
end
def Fl(H':Hp)(h0 h:Heap)(e:Addr)(cls:Value)(dd:Option Addr):Prop:=∃T,Hy h e cls dd T .none/\H' e=none/\H' T=none/\h0.get? e=none/\h0.get? T=none
def Es(P:Program)(w:World):Ky:=fun outer H s E v s'=>
 ∃e cls dd H',v = .ref e/\s'.os=s.os/\AllBare s'.gens/\Un (Qd outer) [] H H' s.heap s'.heap/\HOk P w H' s'.heap/\Fl H' s.heap s'.heap e cls dd/\E cls dd H'
section
variable {X:Cx} {pins:List (Addr×Obj)} {σ:L2.St} {H:Hp} {s:Shared} {e:Addr} {cls:Value} {dd:Option Addr} {E:XK}
structure Jx(X:Cx)(E:XK):Prop where
 stk:X.stack=X.env::X.outer
 fr:X.env.frame=some X.env.locals
 ex:X.ex=[]
 xe:X.xe=fun v s'=>wpAny (model X.prog X.w) X.A (leaving X.env v) (fun _ s''=>Es X.prog X.w X.outer X.H₀ X.s₀ E v s'') (fun v' s''=>Es X.prog X.w X.outer X.H₀ X.s₀ E v' s'') s'
theorem LG(D:Jx X E)(I:Inv X pins σ H s){ch:List Addr}{h':Heap}{T:Addr}(hT:X.s₀.heap.get? T=none)(he:X.s₀.heap.get? e=none)(hH:H e=none)(hHT:H T=none)(hc:∀b∈ch,H b=none/\X.s₀.heap.get? b=none)(x:Hy h' e cls dd T .none)
  (ef:Eff ((X.env::X.outer).filterMap (·.frame)) ch s.heap h') (q:E cls dd H):Es X.prog X.w X.outer X.H₀ X.s₀ E (.ref e) { s with heap:=h' }:=by
 have hf:∀b∈(X.env::X.outer).filterMap (·.frame),H b=none:=fun b hb=>by
  have:=I.stkFree b
  rw[D.stk] at this
  exact this hb
 refine⟨e,cls,dd,H,rfl,I.os,I.bare,?_,MN I.hok ef (fun b hb=>(hc b hb).1) hf,⟨T,x,hH,hHT,he,hT⟩,q⟩
 have ub:=I.base
 have lt:∀b o,X.s₀.heap.get? b=some o->b∉ch:=fun b o z hb=>by rw[(hc b hb).2] at z;cases z
 have nL:∀b o,X.s₀.heap.get? b=some o->b≠X.env.locals:=fun b o z hb=>by
  subst hb
  exact Nat.lt_irrefl _ (Nat.lt_of_lt_of_le (Heap.lt_size z) I.ok.above)
 have mem:∀b o,X.s₀.heap.get? b=some o->(b∈(X.env::X.outer).filterMap (·.frame)↔b∈Qd X.outer):=fun b o z=>by
  rw[List.filterMap_cons_some D.fr,List.mem_cons]
  exact⟨fun h=>h.elim (fun q=>absurd q (nL b o z)) fun q=>q,.inr⟩
 have nex:∀b:Addr,b∉X.ex:=fun b z=>by rw[D.ex] at z;simp at z
 refine⟨fun b o z n hb _=>?_,fun b o z n hb _=>?_,fun b o z n _=>ub.free b o z n (nex b),fun b o z _=>?_,ub.tups,ub.frzs,ub.tbls⟩
 ·exact ef.keep b o (ub.keep b o z n hb (nex b)) (lt b o z) (fun q=>hb ((mem b o z).mp q))
 ·obtain⟨sl,z1⟩:=ub.slot b o z n hb (nex b)
  obtain⟨sl2,z2⟩:=ef.slot b _ z1 (lt b o z) ((mem b o z).mpr hb)
  exact⟨sl2,z2⟩
 ·obtain⟨o1,z1⟩:=ub.there b o z (nex b)
  exact ef.there b o1 z1
theorem FZ(D:Jx X E)(I:Inv X pins σ H s)(x:FY s.heap e cls dd)(he:X.s₀.heap.get? e=none)(hH:H e=none)(q:E cls dd H):X.xe (.ref e) s:=by
 rw[D.xe];have hst:=I.stack;rw[D.stk] at hst;have hfr:=I.ok.frames;rw[D.stk] at hfr
 refine Jw hfr hst D.fr x fun h' T hT x' ef=>?_
 exact LG D I (Heap.get?_none_of_le (Nat.le_trans I.sz hT)) he hH (I.hok.fresh hT) (fun b hb=>by rw[List.mem_singleton.mp hb];exact⟨hH,he⟩) x' ef q
theorem MO{P:Program}{w:World}{K:PySem.W.Frag}{mg:Str->Option Value}{base:Heap}{N:List Str}{qual:Str}{scope:Scope}{f:Addr}{cd:Value}{A:Around}{outer:List Env}{s:Shared}{H:Hp}{E:XK} :
  Jx (Sr (Es P w) P w K mg base N qual scope f cd A outer s H E) E:=⟨rfl,rfl,rfl,rfl⟩
end
theorem F0{K:PySem.W.Frag}{h:Heap}{C:Addr}{bmB:List Value}{newId:String}(X:K.In h)(q:PySem.W.excIn K C bmB newId=true) :
  ∃bm N nm qn bs hdct sn sub ab col dd k0 k1 k2 k3 k5 mN,h.get? C=some (excClassObj nm qn C N bs bm hdct sn sub ab col dd k0 k1 k2 k3 k5 newId)/\h.Ns N mN/\mN "__init__" = none/\OwnTail h bmB bm:=by
 unfold PySem.W.excIn at q
 split at q
 ·rename_i dd cd sl ho
  split at q
  ·rename_i C' bm k0 k1 k2 k3 n k5 hm hs
   simp only[Bool.and_eq_true,beq_iff_eq,Bool.not_eq_true'] at q
   obtain⟨⟨⟨⟨⟨rfl,rfl⟩,hdel⟩,ht⟩,hok⟩,hni⟩:=q
   obtain⟨nm,bs,mro,ns,qn,hd,sn,sub,ab,col,CI⟩:=cd
   dsimp only at hm hdel hok hni
   subst hm hdel
   have hsl:sl = #[k0,k1,k2,k3,some (.builtin n),k5]:=by
    obtain⟨l⟩:=sl
    simp only at hs
    rw[hs]
   subst hsl
   exact⟨bm,ns,nm,qn,bs,hd,sn,sub,ab,col,dd,k0,k1,k2,k3,k5,_,X _ _ ho,.of_isNs (PySem.W.isNs_of_in X hok),PySem.W.nsMap_none_of_in X hok hni,PySem.W.tail_of_in X ht⟩
  ·cases q
 ·cases q
theorem LH{P:Program}{w:World}{H:Hp}{h:Heap}{a:Addr}{o:HO}(x:ObjOk P w H h a o):∃ob,h.get? a=some ob:=by
 cases o with
 | lst xs=>obtain⟨_,_,_,_,e⟩:=x;exact⟨_,e⟩
 | tup xs=>obtain⟨_,_,_,p⟩:=x;obtain⟨ob,e,_⟩:=p;exact⟨_,e⟩
 | dK kvs=>obtain⟨_,_,_,_,o,_,_,e,_⟩:=x;exact⟨_,e⟩
 | dT kvs=>obtain⟨_,_,_,_,o,_,_,e,_⟩:=x;exact⟨_,e⟩
 | set S n=>obtain⟨o,_,_,_,e,_⟩:=x;exact⟨_,e⟩
 | ins C dx fs=>obtain⟨_,_,_,e,_⟩:=x;exact⟨_,e⟩
 | own y=>exact x
 | xd fs=>obtain⟨_,⟨_,_,_,e,_⟩,_⟩:=x;exact⟨_,e⟩
 | rng lo hi=>obtain⟨_,_,_,e⟩:=x;exact⟨_,e⟩
 | frz ob u=>exact⟨_,x.1⟩
 | tbl ps=>exact⟨_,x⟩
 | met f y=>exact⟨_,x⟩
 | ext φ=>exact x.2.1
section
variable {X:Cx} {E:XK} {C:Addr} {bmB:List Value} {B newId initId:String} {x:Str} {np cpos pos:Pos} {a:Expr} {ta:TE}
theorem Jy(F:ExcBaseFacts B newId initId bmB)(hq:PySem.W.excIn X.K C bmB newId=true)(hg:Gl X x)(hm:X.mg x=some (.ref C))(hcalm:X.calm=true)(DX:Jx X E)(ha:PE X a ta)
  (hdb:(x==("__debug__" : Str))=false:=by decide) (he:starEach [a] X.env=(false,eval a X.env)::starEach [] X.env:=by rfl):PS X (.Raise (some (.Call (.Name x np) [a] [] cpos)) none pos) (fun _ σ H=>ta σ H fun v H1=>[v].length=1/\E (.ref C) none H1):=by
 intro pins s σ H D I h
 have X0:X.K.In X.base:=I.ok.mod.kin
 obtain⟨bm,N,nm,qn,bs,hdct,sn,sub,ab,col,dd,k0,k1,k2,k3,k5,mN,hC,hN,hni,TL⟩:=F0 X0 hq
 refine wpAny_Raise_call_subT (nm:=nm) (q:=qn) (N:=N) (bs:=bs) (hdct:=hdct) (sn:=sn) (sub:=sub) (ab:=ab) (col:=col) (dd:=dd) (k0:=k0) (k1:=k1) (k2:=k2) (k3:=k3) (k5:=k5) F (mN:=mN) (TL.hasType F.hasBase) (I.ok.hd hcalm) (by rw[he];rfl) hni (V3 I hg hm ⟨rfl,?_⟩ hdb)
 have pa:PA X [a] (SY ta Nt):=YE ha XX (hs:=he)
 have key:wpAny (model X.prog X.w) X.A (spliced (backTo cpos (starEach [a] X.env))) (fun us s₂=>us.length<=sizeLine/\s₂.heap.get? C=some (excClassObj nm qn C N bs bm hdct sn sub ab col dd k0 k1 k2 k3 k5 newId)/\s₂.heap.Ns N mN/\OwnTail s₂.heap bmB bm/\
    ∀h' e,Heap.MadeExcOf s₂.heap h' e (.ref C) us->X.xe (.ref e) { s₂ with heap:=h' }) X.xe s:=by
  refine YT (pa cpos pins s σ H (fun vs H1=>vs.length=1/\E (.ref C) none H1) I h) fun us s₂ ⟨vs,H1,I1,r,hl,q⟩=>?_
  have lu:us.length=1:=by rw[<-r.length];exact hl
  refine⟨by rw[lu];decide,I1.bk _ _ hC,hN.keeps I1.bk,TL.keeps I1.bk,fun h' e hm=>?_⟩
  have I2:Inv X pins σ H1 { s₂ with heap:=h' }:=I1.kept (t':=s₂.toks) hm.keeps
  obtain⟨t,ht,_,_⟩:=hm.there
  refine FZ DX I2 ⟨_,_,ht,rfl,rfl,rfl,rfl⟩ ?_ ?_ q
  ·cases z:X.s₀.heap.get? e with
   | none=>rfl
   | some o=>
    obtain⟨o',z'⟩:=I1.base.there e o z (by rw[DX.ex];simp)
    rw[hm.new] at z';cases z'
  ·cases z:H1 e with
   | none=>rfl
   | some o=>
    obtain⟨o',z'⟩:=LH (I1.hok e o z)
    rw[hm.new] at z';cases z'
 rw[he] at key ⊢
 exact Calls.evalArgs_plain (wpAny_mono key (fun us s₂ h2=>⟨rfl,h2⟩) fun _ _ z=>z)
end
theorem LI(is:List Int):PyData.shownAll (is.map PyData.int)=is.map fun i=>Str.ofString (toString i):=by
 induction is with
 | nil=>rfl
 | cons i r ih=>rw[List.map_cons,PyData.shownAll,ih];rfl
theorem Pn{is:List Int}(h:∀i∈is,i.natAbs.log2<1920):PyData.showableAll (is.map PyData.int)=true:=by
 induction is with
 | nil=>rfl
 | cons i r ih=>
  rw[List.map_cons,PyData.showableAll,ih fun j hj=>h j (by simp[hj])]
  simp[PyData.showable,h i (by simp)]
theorem NT(is:List Int):PyData.hasDictAll (is.map PyData.int)=false:=by
 induction is with
 | nil=>rfl
 | cons i r ih=>rw[List.map_cons,PyData.hasDictAll,ih];rfl
theorem QB{h:Heap}:∀{is:List Int}{us:List Value},Vals (is.map V.int) us->ReadsAll h us (is.map PyData.int) []
 | [],_,.nil=>.nil
 | i::r,_,.cons h1 h2=>by
  obtain⟨t,rfl⟩:=h1
  exact ReadsAll.cons (as:=[]) (bs:=[]) (.int i t) (QB h2)
theorem LJ(is:List Int):PyData.depthAll (is.map PyData.int)<=1:=by
 induction is with
 | nil=>decide
 | cons i r ih=>
  rw[List.map_cons,PyData.depthAll];simp[PyData.depth];omega
end VX
namespace VX
open PySem PySem.Spec PyProof.Rows L2 VL
abbrev XR:=ZP->Option Str
def Cd(K:PySem.W.Frag)(O:List Nat)(fx:XR)(E:XK):TS:=fun _ σ H=>∃H0 fps s n,Rel K O H0 fps s σ H/\fx s=some n/\∀C H',PySem.W.nsIn K mainGlobals n=some (some (.ref C))->Same H0 H'->E (.ref C) none H'
def VX(X:Cx)(O:List Nat)(E:XK)(st:Stmt)(fx:XR):Prop:=PS X st (Cd X.K O fx E)
def F1(X:Cx)(O:List Nat)(E:XK)(st:List Stmt)(fx:XR):Prop:=PSs X st (Cd X.K O fx E)
def rMsg(n:Str)(f:XE):XR:=fun s=>match f s with
 | some (.lst l)=>(match YH l with
  | some is=>if is.length<=100/\∀i∈is,i.natAbs.log2<1920 then some n else none
  | none=>none)
 | _=>none
def LK(fc:XT)(f g:XR):XR:=fun s=>(fc s).bind fun c=>if c=true then f s else g s
def Uq(f1:XR)(f:XS)(g:XR):XR:=fun s=>match f1 s with
 | some c=>some c
 | none=>(match f s with
  | some (.nx s')=>g s'
  | _=>none)
def Nm:XR:=fun _=>none
section
variable {X:Cx} {O W:List Nat} {E:XK} {C:Addr} {bmB:List Value} {B newId initId:String} {x y:Str} {np cpos pos p1 p2 p3:Pos} {jj k:Nat} {e:Expr} {f:XE}
variable {st:Stmt} {Yh a b:List Stmt} {c:Expr} {fc:XT} {f1 g1:XR} {fs:XS}
theorem GH:VX X O E st Nm:=fun pins s σ H D I ⟨_,_,_,_,_,e,_⟩=>by cases e
theorem Jz:F1 X O E Yh Nm:=fun pins s σ H D I ⟨_,_,_,_,_,e,_⟩=>by cases e
theorem GI(hc:VT X c fc)(ha:F1 X O E a f1)(hb:F1 X O E b g1):VX X O E (.If c a b pos) (LK fc f1 g1):=PS.imp (Gq hc ha hb) fun D σ H ⟨H0,fps,s,cls,r,e,q⟩=>by
 obtain⟨d,e1,e⟩:=Zg e
 refine⟨fun _=>False,s,d,fun _ z=>z.elim,r.env,e1,fun H1 s1=>?_⟩
 cases d with
 | true=>rw[if_pos rfl] at e ⊢;exact⟨H0,fps,s,cls,r.grow s1,e,q⟩
 | false=>rw[if_neg Bool.false_ne_true] at e ⊢;exact⟨H0,fps,s,cls,r.grow s1,e,q⟩
theorem Po(h:VX X O E st f1):F1 X O E [st] f1:=Ml h
theorem LL{t:TS}(h1:PS X st t)(hx:∀D D' σ H,t D σ H->t D' σ H):PSs X (st::Yh) (fun _ σ H=>t { nx:=fun _ _=>False,rt:=fun _ _=>False } σ H):=by
 intro pins s σ H D I h
 refine wpAny_execs_cons (YT (h1 pins s σ H { nx:=fun _ _=>False,rt:=fun _ _=>False } I h) fun f s1 q=>?_)
 cases f with
 | next=>obtain⟨_,_,_,z⟩:=q;exact z.elim
 | ret u=>obtain⟨_,_,_,_,_,z⟩:=q;exact z.elim
 | brk=>obtain⟨_,_,_,z⟩:=q;exact z.elim
 | cont=>obtain⟨_,_,_,z⟩:=q;exact z.elim
theorem Ry(h1:VX X O E st f1)(hs:VS X O W st fs)(h2:F1 X O E Yh g1):F1 X O E (st::Yh) (Uq f1 fs g1):=by
 intro pins s σ H D I ⟨H0,fps,sp,cls,r,e,q⟩
 unfold Uq at e
 split at e
 ·rename_i c hc
  cases e
  exact LL h1 (fun _ _ _ _ z=>z) pins s σ H D I ⟨H0,fps,sp,_,r,hc,q⟩
 ·split at e
  ·rename_i s' hf
   refine SV hs h2 pins s σ H D I ⟨H0,fps,sp,.nx s',r,hf,fun fps' σ' H' r' _=>?_⟩
   exact⟨H0,fps',s',cls,r',e,q⟩
  ·cases e
end
def spX(K:PySem.W.Frag)(R:List PV->Option Str)(n:Nat):Sp:=fun vs H _ E=>vs.length=n/\∃ls fp nm,Iss K H ls vs fp/\R ls=some nm/\∀C H',PySem.W.nsIn K mainGlobals nm=some (some (.ref C))->Same H H'->E (.ref C) none H'
def DG(m:Nat)(fx:XR):List PV->Option Str:=fun ls=>fx (YO m ls)
structure CalX(P:Program)(w:World)(K:PySem.W.Frag)(mg:Str->Option Value)(base:Heap)(x:Str)(ps:List Str)(sp:Sp)(k:Nat):Prop where
 ex:∃f fd,mg x=some (.ref f)/\PySem.W.keepIn K (.ref f)=true/\Binds K fd ps []/\UC P w K mg base (Es P w) k f fd ps sp
section
variable {K:PySem.W.Frag} {P:Program} {w:World} {mg:Str->Option Value} {base:Heap}
open Classical in
theorem F2{N:List Str}{O:List Nat}{n:Nat}{fx:XR}{vs:List V}{H:Hp}{Q:VK}{E:XK}{D:Uz}(hO:∀i∈O,n<=i)(h:spX K (DG N.length fx) n vs H Q E):Cd K O fx E D (L2.start N vs) H:=by
 obtain⟨hl,ls,fp,cls,hi,e,q⟩:=h
 obtain⟨H0,fps,s,out,r,e1,k⟩:=Pe (N:=N) (n:=n) (O:=O) (W:=[]) (f:=fun s=>if s=YO N.length ls then some (.rt .non) else none) (vs:=vs) (H:=H) (Q:=fun _ H'=>Same H H') (E:=fun _ _ _=>True) hO ⟨hl,ls,fp,.non,hi,by unfold X5;simp[X1],fun _ H' _ sm _ _ _=>sm⟩
 simp only at e1
 split at e1
 ·rename_i hs
  cases e1;subst hs
  exact⟨H0,fps,_,cls,r,e,fun C H' hc sm=>q C H' hc (k .non [] H' sm Is.non List.nodup_nil fun p hp=>by simp at hp)⟩
 ·cases e1
theorem def_x{x:Str}{st:Stmt}{N ps:List Str}{k n:Nat}{O:List Nat}(m:Nat)(fx:XR)(D:Def K mg x st)(S:ZS N ps (Zr st))
  (hb:∀(kV doc pm:Value)(an:Option Addr)(cdv ct:Value)(us:List Value),us.length=ps.length->bindArgs (PySem.W.fnOf x x (X3 st) (YF st) (Zr st) .none kV doc pm an cdv ct) ⟨us,[]⟩=pure (ps.zip us))
  (hn:ps.length=n) (hm:N.length=m) (hO:∀i∈O,n<=i)
  (hbody:∀(fa:Addr)(cdv:Value)(A:Around)(outer:List Env)(s:Shared)(H:Hp)(E:XK),Room k (A.deeper (envOfC x (Zr st) s.heap.objs.size fa cdv))->F1 (Sr (Es P w) P w K mg base N x (Zr st) fa cdv A outer s H E) O E (YF st) fx) :
  CalX P w K mg base x ps (spX K (DG m fx) n) (k+1):=by
 subst hm
 obtain⟨f,fd,hm,F⟩:=D.ex
 refine⟨f,fd,hm,F.kp,F.binds hb,?_⟩
 obtain⟨oc,od,kV,doc,pm,an,cdv,ct,osl,rfl,lk,hcd⟩:=F.ex
 exact Gx lk hcd S (fun vs H Q E h=>by rw[hn];exact h.1) fun A outer s H vs Q E hr hsp=>⟨_,hbody f cdv A outer s H E hr,F2 hO hsp⟩
end
section
variable {X:Cx} {pins:List (Addr×Obj)} {σ:L2.St} {H:Hp} {s:Shared}
theorem LM{A:Around}{E:Value->Shared->Prop}{i:Nat}{n:Str}{pos:Pos}{Q:Unit->Shared->Prop}(I:Inv X pins σ H s)(hN:X.N.Nodup)(hi:X.N[i]?=some n)(hk:X.env.scope.names.lookup n=some .local)
  (h:∀s',Inv X pins (σ.set i none) H s'->Q () s'):wpAny (model X.prog X.w) A (do bindName X.env n .none;unbindBehindTheSuite X.env n pos) Q E s:=by
 refine wpAny_bind (wpAny_bindName (Vu I hN hi (.inl hk) (v:=.non) (u:=Value.none) rfl (fun s1 I1=>?_) (.inr hk)))
 unfold unbindBehindTheSuite
 refine wpAny_onRaise ?_
 have hcls:(X.env.scope.kind==.class || (X.env.scope.kind==.module&&X.env.locals != X.env.globals))=false:=by rw[I.ok.kind];rfl
 have hiσ:i<σ.length:=by rw[I.len];exact(List.getElem?_eq_some_iff.mp hi).1
 obtain⟨m,hn,hl⟩:=id I1.loc
 obtain⟨u,ru,lk⟩:=hl i n .non hi (by rw[List.getElem?_set_self hiσ]) (.inl hk)
 have hkl:X.env.kindOf n=some .local:=hk
 have hv:m n=some u:=by
  rcases lk with⟨_,z⟩ | ⟨z,_⟩
  ·exact z
  ·rw[hkl] at z;rcases z with z | z<;>cases z
 have cne:=I1.cne
 refine wpAny_unbindName_local hkl hn hv hcls fun h' u' hn' hs=>h _ ?_
 obtain⟨oL,_,_,hoL,_⟩:=id hn
 refine⟨I1.ok,I1.os,I1.bare,⟨fun b o e n hb hx=>?_,fun b o e n hb hx=>?_,I1.base.free,fun b o e hx=>?_,I1.base.tups,I1.base.frzs,I1.base.tbls⟩,⟨_,hn',fun j y v' e1 e2 e3=>?_⟩,fun y c e=>?_,I1.free,I1.freeC,fun p hp=>?_,fun b ob e=>?_,by have:=I1.len;simpa using this⟩
 ·exact(hs.2 b (Nat.ne_of_lt (Nat.lt_of_lt_of_le (Heap.lt_size e) I1.ok.above))).trans (I1.base.keep b o e n hb hx)
 ·obtain⟨sl,e1⟩:=I1.base.slot b o e n hb hx
  exact⟨sl,(hs.2 b (Nat.ne_of_lt (Nat.lt_of_lt_of_le (Heap.lt_size e) I1.ok.above))).trans e1⟩
 ·obtain⟨o',e1⟩:=I1.base.there b o e hx
  exact⟨o',(hs.2 b (Nat.ne_of_lt (Nat.lt_of_lt_of_le (Heap.lt_size e) I1.ok.above))).trans e1⟩
 ·by_cases hj:j=i
  ·subst hj
   rw[List.getElem?_set_self hiσ] at e2;cases e2
  ·have e2':(σ.set i (some V.non))[j]?=some (some v'):=by rw[List.getElem?_set_ne (Ne.symm hj)] at e2 ⊢;exact e2
   obtain⟨u2,r2,q⟩:=hl j y v' e1 e2' e3
   refine⟨u2,r2,?_⟩
   rcases q with⟨k,e⟩ | ⟨k,c,e,z⟩
   ·refine .inl ⟨k,?_⟩
    have:y≠n:=fun e=>hj (SU hN e1 (e▸hi))
    simp[this,e]
   ·exact .inr ⟨k,c,e,z.sameBut hs (cne y c e)⟩
 ·obtain⟨w',z⟩:=I1.cell y c e
  exact⟨w',z.sameBut hs (cne y c e)⟩
 ·obtain⟨e,n,ne,nf,d⟩:=I1.pin p hp
  exact⟨(hs.2 p.1 ne).trans e,n,ne,nf,d⟩
 ·refine(I1.hok b ob e).stay (fun c w' hc q=>(hs.2 c ?_).trans q) (fun _ q=>q) fun _ _ q=>q
  rintro rfl
  have hf:=I1.free
  rcases hc with rfl | hc
  ·rw[hf] at e;cases e
  ·rw[hf] at hc;cases hc
abbrev Cx.mark(X:Cx)(e:Addr):Cx:={ X with A:=X.A.mark (some (.ref e)),calm:=false,xe:=fun _ _=>False }
theorem OC{e:Addr}(I:Inv X pins σ H s):Inv (Cx.mark X e) pins σ H s:=
 ⟨⟨I.ok.mod,I.ok.kind,I.ok.glob,I.ok.blt,I.ok.above,I.ok.inj,I.ok.has,I.ok.cab,(fun z=>by cases z),I.ok.frames,I.ok.stk,I.ok.exf,I.ok.bs,I.ok.bsz,I.ok.noex,I.ok.exfs,I.ok.funs,I.ok.frf⟩,I.os,I.bare,I.base,I.loc,I.cell,I.free,I.freeC,I.pin,I.hok,I.len⟩
theorem NU{e:Addr}(ok:X.Ok)(I:Inv (Cx.mark X e) pins σ H s):Inv X pins σ H s:=
 ⟨ok,I.os,I.bare,I.base,I.loc,I.cell,I.free,I.freeC,I.pin,I.hok,I.len⟩
def F3(X:Cx)(pins:List (Addr×Obj))(b:Addr):Prop:=X.s₀.heap.get? b=none/\b≠X.env.locals/\(∀x c,X.env.cells.lookup x=some c->c≠b)/\∀p∈X.pn++pins,p.1≠b
theorem NV{b:Addr}(I:Inv X pins σ H s)(hx:X.ex=[])(h:s.heap.get? b=none):F3 X pins b:=by
 refine⟨?_,fun z=>?_,fun x c hc z=>?_,fun p hp z=>?_⟩
 ·cases r:X.s₀.heap.get? b with
  | none=>rfl
  | some o=>
   obtain⟨o',r'⟩:=I.base.there b o r (by rw[hx];simp)
   rw[h] at r';cases r'
 ·obtain⟨m,⟨o,_,_,ho,_⟩,_⟩:=I.loc
  rw[z,ho] at h;cases h
 ·obtain⟨v,o,ho,_⟩:=I.cell x c hc
  rw[z] at ho;rw[ho] at h;cases h
 ·have:=(I.pin p hp).1
  rw[z] at this;rw[this] at h;cases h
theorem Pp{ch:List Addr}{h':Heap}(I:Inv X pins σ H s)(hx:X.ex=[])(hfr:X.env.frame=some X.env.locals)(ef:Eff ((X.env::X.outer).filterMap (·.frame)) ch s.heap h')(hc:∀b∈ch,H b=none/\F3 X pins b)(hst:X.stack=X.env::X.outer):Inv X pins σ H { s with heap:=h' }:=by
 have hf:∀b∈(X.env::X.outer).filterMap (·.frame),H b=none:=fun b hb=>by
  have:=I.stkFree b
  rw[hst] at this
  exact this hb
 have lt:∀b o,X.s₀.heap.get? b=some o->b∉ch:=fun b o z hb=>by rw[(hc b hb).2.1] at z;cases z
 have nL:∀b o,X.s₀.heap.get? b=some o->b≠X.env.locals:=fun b o z hb=>by
  subst hb
  exact Nat.lt_irrefl _ (Nat.lt_of_lt_of_le (Heap.lt_size z) I.ok.above)
 have mem:∀b,b≠X.env.locals->(b∈(X.env::X.outer).filterMap (·.frame)↔b∈X.fs):=fun b z=>by
  rw[List.filterMap_cons_some hfr,List.mem_cons]
  exact⟨fun h=>h.elim (fun q=>absurd q z) fun q=>q,.inr⟩
 have any:∀b o,s.heap.get? b=some o->b∉ch->∃sl,h'.get? b=some { o with slots:=sl }:=fun b o q hb=>by
  by_cases z:b∈(X.env::X.outer).filterMap (·.frame)
  ·exact ef.slot b o q hb z
  ·exact⟨o.slots,ef.keep b o q hb z⟩
 obtain⟨m,⟨oL,es,ep,hoL,rL⟩,hl⟩:=id I.loc
 have nLc:X.env.locals∉ch:=fun z=>(hc _ z).2.2.1 rfl
 obtain⟨slL,hL⟩:=any _ _ hoL nLc
 have cellK:∀c v,(∀b∈ch,c≠b)->s.heap.IsCell c v->h'.IsCell c v:=fun c v hne ⟨o,ho,hd⟩=>by
  obtain⟨sl,q⟩:=any c o ho fun z=>hne c z rfl
  exact⟨_,q,hd⟩
 have cne:∀x c,X.env.cells.lookup x=some c->∀b∈ch,c≠b:=fun x c q b hb=>(hc b hb).2.2.2.1 x c q
 refine⟨I.ok,I.os,I.bare,⟨fun b o e n hb hx'=>?_,fun b o e n hb hx'=>?_,I.base.free,fun b o e hx'=>?_,I.base.tups,I.base.frzs,I.base.tbls⟩,⟨m,⟨_,es,ep,hL,rL⟩,fun j y v' e1 e2 e3=>?_⟩,fun y c e=>?_,I.free,I.freeC,fun p hp=>?_,MN I.hok ef (fun b hb=>(hc b hb).1) hf,I.len⟩
 ·exact ef.keep b o (I.base.keep b o e n hb hx') (lt b o e) fun z=>hb ((mem b (nL b o e)).mp z)
 ·obtain⟨sl,z1⟩:=I.base.slot b o e n hb hx'
  obtain⟨sl2,z2⟩:=ef.slot b _ z1 (lt b o e) ((mem b (nL b o e)).mpr hb)
  exact⟨sl2,z2⟩
 ·obtain⟨o1,z1⟩:=I.base.there b o e hx'
  exact ef.there b o1 z1
 ·obtain⟨u',r',q⟩:=hl j y v' e1 e2 e3
  refine⟨u',r',?_⟩
  rcases q with q | ⟨k,c,e,z⟩
  ·exact .inl q
  ·exact .inr ⟨k,c,e,cellK c _ (cne y c e) z⟩
 ·obtain⟨w',z⟩:=I.cell y c e
  exact⟨w',cellK c _ (cne y c e) z⟩
 ·obtain⟨e,n,ne,nf,d⟩:=I.pin p hp
  exact⟨ef.keep p.1 p.2 e (fun z=>(hc _ z).2.2.2.2 p hp rfl) (fun z=>nf ((mem p.1 ne).mp z)),n,ne,nf,d⟩
theorem LN{e:Addr}{oe:Obj}(I:Inv X pins σ H s)(he:s.heap.get? e=some oe)(hH:H e=none)(ho:F3 X pins e):Inv X pins σ (upd H e (.frz oe (.own e))) s:=by
 have ne:∀b u,H b=some u->b≠e:=fun b u q z=>by rw[z,hH] at q;cases q
 refine⟨I.ok,I.os,I.bare,⟨I.base.keep,I.base.slot,fun b o q n hx=>?_,I.base.there,fun b xs q=>?_,fun b o u q=>?_,fun b ps q=>?_⟩,I.loc,I.cell,?_,fun x c q=>?_,fun p hp=>?_,fun b u q=>?_,I.len⟩
 ·rw[upd_ne (fun z=>by rw[z,ho.1] at q;cases q)];exact I.base.free b o q n hx
 ·have:=I.base.tups b xs q;rw[upd_ne (ne _ _ this)];exact this
 ·have:=I.base.frzs b o u q;rw[upd_ne (ne _ _ this)];exact this
 ·obtain⟨more,z⟩:=I.base.tbls b ps q
  exact⟨more,by rw[upd_ne (ne _ _ z)];exact z⟩
 ·rw[upd_ne (Ne.symm ho.2.1)];exact I.free
 ·rw[upd_ne (ho.2.2.1 x c q)];exact I.freeC x c q
 ·obtain⟨e1,n,r⟩:=I.pin p hp
  exact⟨e1,by rw[upd_ne (ho.2.2.2 p hp)];exact n,r⟩
 ·by_cases z:b=e
  ·subst z
   rw[Zs] at q;cases q
   exact⟨he,_,he⟩
  ·rw[upd_ne z] at q
   exact(I.hok b u q).stay (fun _ _ _ r=>r) (fun c r=>by rw[upd_ne (ne _ _ r)];exact r) fun c xs r=>by rw[upd_ne (ne _ _ r)];exact r
end
section
variable {M:Model} {A:Around} {E:Value->Shared->Prop}
variable {nm q nm' q':Str} {C N Cb N':Addr} {bs bm bs' bm':List Value} {hdct hdct':Bool} {sn sn':List Str} {sub sub':List Value} {ab ab':Bool} {col col':Option Bool} {dd dd':Option Addr} {k0 k1 k2 k3 k5 j0 j1 j2 j3 j5:Option Value} {newId newId':String}
theorem OD{h:Heap}{g:Array GenState}{d:Drawn}{t:Nat}{os:OsState}{e:Addr}{oe:Obj}{Q:Bool->Shared->Prop}
  (hC:h.get? C=some (excClassObj nm q C N bs bm hdct sn sub ab col dd k0 k1 k2 k3 k5 newId)) (hB:h.get? Cb=some (excClassObj nm' q' Cb N' bs' bm' hdct' sn' sub' ab' col' dd' j0 j1 j2 j3 j5 newId')) (he:h.get? e=some oe) (hcls:oe.cls = .ref C) (hbase:bm'.contains (.type "BaseException")=true)
  (hq:Q ((Value.ref C::bm).contains (.ref Cb)) ⟨h,g,d,t,os⟩):wpAny M A (excMatches (.ref e) (.ref Cb)) Q E ⟨h,g,d,t,os⟩:=by
 have hcB:(Value.ref Cb::bm').contains (.type "BaseException")=true:=by rw[List.contains_cons,hbase,Bool.or_true]
 have f:=tc_notTuple;unfold excMatches
 cases hcC:(Value.ref C::bm).contains (.ref Cb) with
 | true=>
  rw[hcC] at hq
  repeat (first | (with_reducible refine wpAny_loadPart_at he ?_;rw[hcls]) | with_reducible refine wpAny_loadPart_at hB ?_ | (with_reducible refine wpAny_isSubtype_exc hB ?_;rw[hcB]) | (with_reducible refine wpAny_isSubtype_exc hC ?_;rw[hcC]) | wp_step)
  exact hq
 | false=>
  rw[hcC] at hq
  repeat (first | (with_reducible refine wpAny_loadPart_at he ?_;rw[hcls]) | with_reducible refine wpAny_loadPart_at hB ?_ | (with_reducible refine wpAny_isSubtype_exc hB ?_;rw[hcB]) | (with_reducible refine wpAny_isSubtype_exc hC ?_;rw[hcC]) | wp_step)
  exact hq
end
def belowIn(K:PySem.W.Frag)(C Cb:Addr):Bool:=match K.lookup C with
 | some ⟨_,_,.cls cd,_⟩=>cd.mro.contains (.ref Cb)
 | _=>false
theorem JA{K:PySem.W.Frag}{h:Heap}{C Cb:Addr}{nm qn:Str}{N:Addr}{bs bm:List Value}{hdct:Bool}{sn:List Str}{sub:List Value}{ab:Bool}{col:Option Bool}{dd:Option Addr}{k0 k1 k2 k3 k5:Option Value}{newId:String}(X:K.In h)(e:belowIn K C Cb=true)
  (hC:h.get? C=some (excClassObj nm qn C N bs bm hdct sn sub ab col dd k0 k1 k2 k3 k5 newId)):(Value.ref C::bm).contains (.ref Cb)=true:=by
 unfold belowIn at e
 split at e
 ·rename_i ho
  have:=X _ _ ho
  rw[hC] at this;cases this;exact e
 ·cases e
section
variable {X:Cx} {pins:List (Addr×Obj)} {σ:L2.St} {H:Hp} {s:Shared} {e T C Cb:Addr} {dd:Option Addr} {cx n:Str} {np pos:Pos} {b₀:Stmt} {suite:List Stmt} {Yh:List ExceptHandler} {ts:TS} {D:Uz} {i:Nat}
def JB(i:Nat)(D:Uz):Uz:={ nx:=fun σ H=>D.nx (σ.set i none) H,rt:=D.rt,bk:=fun σ H=>D.bk (σ.set i none) H,ct:=fun σ H=>D.ct (σ.set i none) H }
theorem Cf(I:Inv X pins σ H s)(hx:X.ex=[])(hst:X.stack=X.env::X.outer)(hfr:X.env.frame=some X.env.locals)(x:Hy s.heap e (.ref C) dd T .none)(hH:H e=none)(hHT:H T=none)(oe:F3 X pins e)(oT:F3 X pins T)
  (hN:X.N.Nodup) (hi:X.N[i]?=some n) (hk:X.env.scope.names.lookup n=some .local) (hg:Gl X cx) (hm:X.mg cx=some (.ref Cb)) (hC:PySem.W.ktsIn X.K C "BaseException" = true) (hB:PySem.W.ktsIn X.K Cb "BaseException" = true) (hb:belowIn X.K C Cb=true)
  (hs:PSs (Cx.mark X e) (b₀::suite) ts) (q:∀oe:Obj,oe.cls = .ref C->oe.dict=dd->(∃vs,oe.data = .fields vs)->ts (JB i D) (σ.set i (some (.ref e))) (upd H e (.frz oe (.own e))))
  (hdb:(cx==("__debug__" : Str))=false:=by decide) :
  wpAny (model X.prog X.w) X.A (noteFrame (.ref e) X.env) (fun _ s₂=>wpAny (model X.prog X.w) X.A (setFlight (.ref e) none) (fun _ s₃=>
   wpAny (model X.prog X.w) X.A (handleBy (.ref e) X.env (.ExceptHandler (some (.Name cx np)) (some n) (b₀::suite) pos::Yh)) (SP X pins D) X.xe s₃) X.xe s₂) X.xe s:=by
 have hstk:=I.stack;rw[hst] at hstk;have hfrs:=I.ok.frames;rw[hst] at hfrs
 refine E9 hfrs hstk hfr x fun h1 T' hT' x1 e1=>?_
 have I1:Inv X pins σ H { s with heap:=h1 }:=Pp I hx hfr e1 (fun b hb=>by
  rcases List.mem_cons.mp hb with z | z
  ·rw[z];exact⟨hH,oe⟩
  ·rw[List.mem_singleton.mp z];exact⟨hHT,oT⟩) hst
 have oT':F3 X pins T':=NV I hx (Heap.get?_none_of_le hT')
 have hHT':H T'=none:=I.hok.fresh hT'
 have tch:∀b∈[T'],H b=none/\F3 X pins b:=fun b hb=>by rw[List.mem_singleton.mp hb];exact⟨hHT',oT'⟩
 refine NS x1 (fs:=(X.env::X.outer).filterMap (·.frame)) fun h2 x2 e2 _=>?_
 have I2:Inv X pins σ H { s with heap:=h2 }:=Pp (s:={ s with heap:=h1 }) I1 hx hfr e2 tch hst
 refine wpAny_handleBy_cons (codeAny_handlers_test ?_) (by intro z;cases z)
 have I2m:Inv (Cx.mark X e) pins σ H { s with heap:=h2 }:=OC I2
 refine V3 (X:=Cx.mark X e) I2m hg hm ?_ hdb
 obtain⟨nm,qn,N,bs,bm,hdct,sn,sub,ab,col,dc,k0,k1,k2,k3,k5,nid,hCo,_,_⟩:=PySem.W.kts_cls I2.kIn hC
 obtain⟨nm',qn',N',bs',bm',hdct',sn',sub',ab',col',dc',j0,j1,j2,j3,j5,nid',hBo,hbase,_⟩:=PySem.W.kts_cls I2.kIn hB
 obtain⟨ob,vs,oT2,tsx,heo,hcls,hdd,hdat,_⟩:=id x2
 refine OD hCo hBo heo hcls hbase ?_
 rw[JA I2.kIn hb hCo]
 refine codeAny_handlers_suite_as ?_
 refine NS (s:={ s with heap:=h2 }) x2 (fs:=(X.env::X.outer).filterMap (·.frame)) fun h3 x3 e3 _=>?_
 have I3:Inv X pins σ H { s with heap:=h3 }:=Pp (s:={ s with heap:=h2 }) I2 hx hfr e3 tch hst
 obtain⟨ob3,vs3,oT3,ts3,heo3,hcls3,hdd3,hdat3,_⟩:=id x3
 have I4:=LN (s:={ s with heap:=h3 }) I3 heo3 hH oe
 refine Vu (X:=Cx.mark X e) (OC I4) hN hi (.inl hk) (v:=.ref e) (u:=.ref e) rfl (fun s5 I5=>?_) (.inr hk)
 refine wpAny_mono (hs pins s5 _ _ (JB i D) I5 (q ob3 hcls3 hdd3 ⟨_,hdat3⟩)) (fun f s6 h6=>?_) fun _ _ z=>z.elim
 have go:∀σ' H' s6,Inv (Cx.mark X e) pins σ' H' s6->(∀s7,Inv X pins (σ'.set i none) H' s7->SP X pins D f s7)->wpAny (model X.prog X.w) X.A (do bindName X.env n .none;unbindBehindTheSuite X.env n pos) (fun _ s₃=>SP X pins D f s₃) X.xe s6:=fun σ' H' s6 I6 k=>
  LM (NU I.ok I6) hN hi hk k
 cases f with
 | next=>
  obtain⟨σ',H',I6,z⟩:=h6
  exact go σ' H' s6 I6 fun s7 I7=>⟨_,_,I7,z⟩
 | ret u=>
  obtain⟨v,σ',H',I6,r6,z⟩:=h6
  exact go σ' H' s6 I6 fun s7 I7=>⟨v,_,_,I7,r6,z⟩
 | brk=>
  obtain⟨σ',H',I6,z⟩:=h6
  exact go σ' H' s6 I6 fun s7 I7=>⟨_,_,I7,z⟩
 | cont=>
  obtain⟨σ',H',I6,z⟩:=h6
  exact go σ' H' s6 I6 fun s7 I7=>⟨_,_,I7,z⟩
end
def GJ(i:Nat):Out->Out
 | .nx s=>.nx (s.set i none)
 | .bk s=>.bk (s.set i none)
 | .ct s=>.ct (s.set i none)
 | .rt l=>.rt l
def Hz(R:List PV->Option Str)(fs:List XE)(i:Nat)(f:XS):XS:=fun s=>(UZ fs s).bind fun ls=>(R ls).bind fun n=>(f (s.set i (some (.exc n)))).map (GJ i)
theorem Rz{K:PySem.W.Frag}{O:List Nat}{H0 H:Hp}{fps:Nat->List Addr}{s:ZP}{σ:Si}{i:Nat}(hiO:i∉O)(r:Rel K O H0 fps s σ H):Rel K O H0 (fun j=>if j=i then [] else fps j) (s.set i none) (σ.set i none) H:=by
 refine⟨r.same,by rw[List.length_set,List.length_set];exact r.len,fun j a e=>?_,fun j h=>?_,fun j hj=>?_,fun j hj p hp=>?_,fun j hj k hk p hp=>?_⟩
 ·by_cases hji:j=i
  ·subst hji
   rw[List.getElem?_set] at e
   simp at e
  ·rw[List.getElem?_set_ne (Ne.symm hji)] at e ⊢
   rw[if_neg hji]
   exact r.is j a e
 ·by_cases hji:j=i
  ·rw[if_pos hji]
  ·rw[if_neg hji]
   refine r.emp j fun l z=>h l ?_
   rw[List.getElem?_set_ne (Ne.symm hji)];exact z
 ·have hji:j≠i:=fun z=>hiO (z▸hj)
  simp only[if_neg hji];exact r.nd j hj
 ·have hji:j≠i:=fun z=>hiO (z▸hj)
  simp only[if_neg hji] at hp;exact r.own j hj p hp
 ·have hji:j≠i:=fun z=>hiO (z▸hj)
  simp only[if_neg hji] at hp
  by_cases hki:k=i
  ·rw[if_pos hki];simp
  ·rw[if_neg hki];exact r.dis j hj k hk p hp
section
variable {X:Cx} {O W:List Nat} {k n i:Nat} {x cx nm:Str} {ps:List Str} {R:List PV->Option Str} {e:Expr} {es:List Expr} {fs:List XE} {p cp ep np hp pos:Pos} {b₀:Stmt} {suite:List Stmt} {f:XS} {Cb:Addr} {Yh:List ExceptHandler}
theorem F4(CX:CalX X.prog X.w X.K X.mg X.base x ps (spX X.K R n) k)(hr:Room k X.A)(hg:Gl X x)(ha:VA X.nox (e::es) fs)(hx:X.ex=[])(hst:X.stack=X.env::X.outer)(hfr:X.env.frame=some X.env.locals)
  (hN:X.N.Nodup) (hi:X.N[i]?=some nm) (hk:X.env.scope.names.lookup nm=some .local) (hgc:Gl X cx) (hmc:X.mg cx=some (.ref Cb)) (hB:PySem.W.ktsIn X.K Cb "BaseException" = true)
  (hR:∀ls m,R ls=some m->∃C,PySem.W.nsIn X.K mainGlobals m=some (some (.ref C))/\PySem.W.ktsIn X.K C "BaseException" = true/\belowIn X.K C Cb=true)
  (hs:∀e,VSs (Cx.mark X e) O W (b₀::suite) f) (hiO:i∉O) (hsw:swapsWith (.Call (.Name x p) (e::es) [] cp) none ep.line X.env=pure false:=by rfl) (hn:fs.length=n:=by rfl)
  (hdb:(x==("__debug__" : Str))=false:=by decide) (hdb2:(cx==("__debug__" : Str))=false:=by decide) (he:starEach (e::es) X.env=(false,eval e X.env)::starEach es X.env:=by rfl) (hpl:(backTo cp (starEach es X.env)).any (·.1)=false:=by rfl) :
  VS X O (i::W) (.Try [.Expr (.Call (.Name x p) (e::es) [] cp) ep] (.ExceptHandler (some (.Name cx np)) (some nm) (b₀::suite) hp::Yh) [] [] pos) (Hz R fs i f):=by
 intro pins s σ H D I ⟨H0,fps,sp,out,r,e1,ok⟩
 obtain⟨ls,e2,e1⟩:=Zg e1
 obtain⟨m,e3,e1⟩:=Zg e1
 obtain⟨o1,e4,rfl⟩:=map_some e1
 obtain⟨C,hns,hC,hb⟩:=hR ls m e3
 obtain⟨fa,fd,hmx,hkp,hbd,F⟩:=CX.ex
 refine wpAny_Try_except (wpAny_execs_cons (wpAny_Expr_any ?_ I.quiet hsw))
 refine wpAny_Call_Name_kw (V3 I hg hmx ?_ hdb)
 refine PySem.W.callWith_K (h₀:=X.base) I.ok.mod.kin hkp ?_ he hpl
 refine wpAny_mono (ha cp pins s σ H (fun vs H1=>Same H H1/\∃fp,Iss X.K H1 ls vs fp) (I.wish _) ⟨fun _=>False,sp,ls,fun _ z=>z.elim,r.env,e2,fun vs H1 fp s1 i1 _=>⟨s1,fp,i1⟩⟩) (fun us s1 ⟨vs,H1,I1,rv,sm,fp,i1⟩=>?_) fun _ _ z=>z.elim
 have I1:Inv X pins σ H1 s1:=I1.unwish
 have lv:vs.length=n:=by rw[i1.len,V4 e2,hn]
 have hsp:spX X.K R n vs H1 (fun _ _=>False) (fun cls dd H'=>cls = .ref C/\dd=none/\Same H1 H'):=⟨lv,ls,fp,m,i1,e3,fun C' H' hc sm=>⟨by rw[hns] at hc;cases hc;rfl,rfl,sm⟩⟩
 have hl:(us++[]).length=ps.length:=by rw[List.append_nil,<-rv.length,lv];have:=F.len _ _ _ _ hsp;omega
 have hbb:=hbd s1 us I1.kIn hl;rw[List.append_nil] at hbb
 refine⟨I1.kIn,wpAny_call (codeAny_mono (F.run X.A X.stack s1 H1 ⟨us,[]⟩ us vs _ _ hr I1.env0 hbb rv hsp) fun res s' hq=>?_)⟩
 cases res with
 | ok fl=>
  cases fl with
  | ret u=>obtain⟨_,_,_,_,_,_,_,z⟩:=hq;exact z.elim
  | next=>exact False.elim hq
  | brk=>exact False.elim hq
  | cont=>exact False.elim hq
 | error v=>
  obtain⟨ea,cls,dd,H',rfl,hos,hgn,u,hok,⟨T,xx,hH,hHT,he0,hT0⟩,rfl,rfl,sm1⟩:=hq
  have I2:Inv X pins σ H' s':=I1.call' hos u hok hgn fun b hb=>nomatch hb
  refine Cf I2 hx hst hfr xx hH hHT (NV I1 hx he0) (NV I1 hx hT0) hN hi hk hgc hmc hC hB hb (hs ea) (fun oe h1 h2 h3=>?_) hdb2
  have sm2:Same H (upd H' ea (.frz oe (.own ea))):=fun b o q=>by
   have q':=sm1 b o (sm b o q)
   rw[upd_ne (ZA q' hH)];exact q'
  have iE:Is X.K (upd H' ea (.frz oe (.own ea))) (.exc m) (.ref ea) []:=by
   simp only[Is]
   exact⟨⟨ea,oe,ea,C,rfl,Zs,h1,hns,h2,h3⟩,trivial⟩
  have hlt:i<sp.length:=by
   have:=(List.getElem?_eq_some_iff.mp hi).1
   rw[r.len,I.len];exact this
  have r2:=(r.grow sm2).set (i:=i) iE (fun z=>absurd z hiO) (fun k _ _ p hp=>by simp at hp)
  refine⟨H0,_,_,o1,r2,e4,?_⟩
  have fin:∀(fps':Nat->List Addr)(σ':Si)(H'':Hp)(s':ZP),(∀j,j∉W->σ'[j]?=(σ.set i (some (V.ref ea)))[j]?/\Kep (fps' j) (TY fps sp.length i [] j))->∀j,j∉i::W->(σ'.set i none)[j]?=σ[j]?/\Kep (if j=i then [] else fps' j) (fps j):=fun fps' σ' H'' s' h j hj=>by
   have hji:j≠i:=fun z=>hj (by rw[z];exact .head _)
   obtain⟨a1,a2⟩:=h j fun z=>hj (.tail _ z)
   rw[List.getElem?_set_ne (Ne.symm hji)] at a1 ⊢
   rw[Yj hji] at a2;rw[if_neg hji]
   exact⟨a1,a2⟩
  cases o1 with
  | nx s'=>exact fun fps' σ' H'' r' k'=>ok _ _ _ (Rz hiO r') (fin fps' σ' H'' s' k')
  | bk s'=>exact fun fps' σ' H'' r' k'=>ok _ _ _ (Rz hiO r') (fin fps' σ' H'' s' k')
  | ct s'=>exact fun fps' σ' H'' r' k'=>ok _ _ _ (Rz hiO r') (fin fps' σ' H'' s' k')
  | rt l=>exact ok
end
end VX
namespace VX
open PySem PySem.Spec PyProof.Rows L2
theorem OE{m:Nat}:∀{ts:List Str},(∀t∈ts,t.length<=m)->piled ts<=ts.length*(m+2)
 | [],_=>by simp[piled]
 | t::r,h=>by
  have h1:=OE (m:=m) (ts:=r) fun u hu=>h u (by simp[hu])
  have h2:=h t (by simp)
  rw[List.length_cons,Nat.add_mul,piled_cons];omega
theorem HA{m:Nat}{ts:List Str}(h:∀t∈ts,t.length<=m):(Str.join ", " ts).length<=ts.length*(m+2):=by
 by_cases q:ts=[]
 ·subst q
  rw[show(Str.join ", " ([]:List Str)).length=0 from by decide]
  exact Nat.zero_le _
 ·have:=join_length_add ts q
  have:=OE h
  omega
theorem Pq{m:Nat}{ts:List Str}(h:∀t∈ts,t.length<=m):(tupleText ts).length<=3+ts.length*(m+2):=by
 unfold tupleText;rw[strLen_append,strLen_append]
 have:=HA h
 have e1:(Str.ofString "(").length=1:=by decide
 have e2:(Str.ofString (if(ts.length==1)=true then ",)" else ")" : String)).length<=2:=by split<;>decide
 omega
def GK(H:Hp)(v:V):Prop:=v = .non\/(∃i:Int,v = .int i/\i.natAbs.log2<1920)\/∃(a:Addr) (is:List Int),v = .ref a/\H a=some (.tup (is.map V.int))/\is.length<=100/\∀i∈is,i.natAbs.log2<1920
section
variable {X:Cx} {k:Nat} {e:Expr} {te:TE} {y:Str} {p1 p2 p3:Pos} {jj:Nat}
def Dc(te:TE):TE:=fun σ H Q=>te σ H fun v H1=>GK H1 v/\∀z,Q (.str z) H1
theorem HB(hr:Room k X.A)(he:PE X e te)(hy:y.length<=1000:=by decide):PE X (.JoinedStr [.Constant (.str y) jj p1,.FormattedValue e (-1) none p2] p3) (Dc te):=by
 intro pins s σ H Q I h
 refine wpAny_JoinedStr ?_
 show wpAny _ _ (eval (.Constant (.str y) jj p1) X.env) _ _ s
 refine YT (Kn (X:=X) (x:=y) (j:=jj) (pos:=p1) pins s σ H (fun v H1=>v = .str y/\H1=H) I ⟨rfl,rfl⟩) fun u s1 ⟨v,H1,I1,r,hv,hH⟩=>?_
 subst hv hH
 obtain⟨t,rfl⟩:=r
 have e0:(Str.empty++y).length=y.length:=by rw[strLen_append];show 0+_=_;omega
 have sz:(1000:Nat)+200000<=sizeLine:=by decide
 refine⟨y,t,rfl,by omega,?_⟩
 show wpAny _ _ (eval (.FormattedValue e (-1) none p2) X.env) _ _ s1
 refine wpAny_FormattedValue_plain ?_
 refine YT (he pins s1 σ H1 _ I1 h) fun u s2 ⟨v,H2,I2,r,sh,q⟩=>?_
 have fin:∀(x:Str)(u:Tok)(s3:Shared),x.length<=200000->Inv X pins σ H2 s3->∃(b:Str) (t2:Tok),Value.str x u=Value.str b t2/\(Str.empty++y++b).length<=sizeLine/\(Str.empty++y++b).length<=sizeLine/\EP X pins σ Q (.str (Str.empty++y++b) s3.toks) { s3 with toks:=s3.toks+1 }:=fun x u s3 hx I3=>by
  refine⟨x,u,rfl,?_,?_,.str _,H2,I3.tok _,⟨_,rfl⟩,q _⟩
  ·rw[strLen_append,e0];omega
  ·rw[strLen_append,e0];omega
 rcases sh with rfl | ⟨i,rfl,hi⟩ | ⟨a,is,rfl,ha,hl,hs⟩
 ·obtain rfl:u=Value.none:=r
  refine wpAny_formatField_none ?_
  have I3:Inv X pins σ H2 { s2 with toks:=s2.toks+1+1 }:=I2.kept (t':=s2.toks+1+1) fun _ _ z=>z
  exact fin "None" _ _ (by decide) I3
 ·obtain⟨t2,rfl⟩:=r
  refine formatField_int_small hi ?_
  have:=int_text_length_le (k:=1920) (by decide) hi
  exact fin (toString i) _ _ (by rw[PySem.ofString_length];omega) (I2.tok _)
 ·obtain rfl:u=Value.ref a:=r
  obtain⟨_,its,rv,ob,ho,hc,n,hd⟩:=(show ObjOk X.prog X.w H2 s2.heap a (.tup (is.map V.int)) from I2.hok a _ ha)
  have rd:Reads s2.heap (.ref a) (.tuple (is.map PyData.int)) []:=.tuple ho hc hd (QB (by simpa using rv))
  have sl:(PyData.tuple (is.map PyData.int)).shown.length<=3+is.length*(1930+2):=by
   show(tupleText (PyData.shownAll (is.map PyData.int))).length<=_
   rw[LI]
   have:=Pq (ts:=is.map fun i=>Str.ofString (toString i)) (m:=1930) fun t ht=>by
    obtain⟨i,hi,rfl⟩:=List.mem_map.mp ht
    have:=int_text_length_le (k:=1920) (by decide) (hs i hi)
    rw[PySem.ofString_length];omega
   rwa [List.length_map] at this
  have s2':is.length*(1930+2)<=193200:=by omega
  have hu:=hr.un;have dp:=LJ is
  refine formatField_of_reads rd (Pn hs) (fun z=>by rw[show(PyData.tuple (is.map PyData.int)).hasDict=PyData.hasDictAll (is.map PyData.int) from rfl,NT] at z;cases z) hr.gd (by
   show X.A.units+(PyData.depth (.tuple (is.map PyData.int))+2)<cLine
   simp only[PyData.depth]
   omega) (fun _ _ z=>z) (fun h' u tk hk=>?_) (by omega)
  have I3:Inv X pins σ H2 { s2 with heap:=h',toks:=tk }:=I2.kept hk
  exact fin _ u _ (by omega) I3
end
end VX
namespace VX
open PySem PySem.Spec PyProof.Rows L2 VL
abbrev XF:=ZP->Option (Str×PV)
def OF:PV->Bool
 | .non=>true
 | .int i=>decide (i.natAbs.log2<1920)
 | .tup l=>match YH l with
  | some is=>decide (is.length<=100)&&is.all fun i=>decide (i.natAbs.log2<1920)
  | none=>false
 | _=>false
theorem JC{K:PySem.W.Frag}{H:Hp}{l:PV}{v:V}{fp:List Addr}(h:Is K H l v fp)(g:OF l=true):GK H v/\fp=[]:=by
 cases l with
 | non=>exact⟨.inl h.non_inv.1,h.non_inv.2⟩
 | int i=>exact⟨.inr (.inl ⟨i,h.int_inv.1,of_decide_eq_true g⟩),h.int_inv.2⟩
 | tup l=>
  have g':(match YH l with | some is=>decide (is.length<=100)&&is.all fun i=>decide (i.natAbs.log2<1920) | none=>false)=true:=g
  split at g'
  ·rename_i is his
   have:=YL his
   subst this
   obtain⟨p,xs,rfl,hp,hi⟩:=h.tup_inv
   obtain⟨rfl,rfl⟩:=hi.iL
   rw[Bool.and_eq_true] at g'
   exact⟨.inr (.inr ⟨p,is,rfl,hp,of_decide_eq_true g'.1,fun i hi=>of_decide_eq_true (List.all_eq_true.mp g'.2 i hi)⟩),rfl⟩
  ·cases g'
 | bl b=>cases g
 | str x=>cases g
 | ty n=>cases g
 | exc n=>cases g
 | exf n l=>cases g
 | lst l=>cases g
 | cst l=>cases g
 | dK ks l=>cases g
 | dT ks l=>cases g
section
variable {prog:Program} {w:World} {A:Around} {E:Value->Shared->Prop} {K:PySem.W.Frag} {a C:Addr}
theorem LO{s:Shared}{Q:Option Value->Shared->Prop}(X:K.In s.heap){o:Obj}{vs:Array Value}(hx:s.heap.get? a=some o)(hc:o.cls = .ref C)(hd:o.data = .fields vs)(hdd:o.dict=none)
  (g1:PySem.W.findIn K (.ref C) "__getattribute__" = some (some (.builtin "BaseException.__getattribute__")))
  (g2:PySem.W.findIn K (.ref C) "__getattr__" = some none) (g3:PySem.W.findIn K (.ref C) "__class__" = some (some (.builtin "object.__class__"))) (g4:PySem.W.mroIn K C (.type "object")=some true) (g5:PySem.W.ktsIn K C "BaseException" = true)
  (h:Q (some (.ref C)) { s with toks:=s.toks+1 }):wpAny (model prog w) A (getAttr? (.ref a) "__class__") Q E s:=by
 obtain⟨hh,g,d,t,os⟩:=s
 have I:PySem.W.InstAt hh a o C none:=⟨hx,hc,by unfold PySem.W.notCls;rw[hd],by rw[hdd];trivial⟩
 have L0:=I.type (M:=model prog w)
 have L1:=PySem.W.looks_findIn (M:=model prog w) X g1
 unfold getAttr? getAttrBy? getAttrBy
 refine wpAny_bind (wpAny_mkText (wpAny_bind (wpAny_attempt (wpAny_holding (wpAny_bind (L0.at (wpAny_bind (L1.at ?_))))))))
 have L2:=PySem.W.looks_findIn (M:=model prog w) X g2
 have L3:=PySem.W.looks_findIn (M:=model prog w) X g3
 show wpAny (model prog w) A (getAttrByItsOwn (.ref a) (.str "__class__" t) (.ref C) (.builtin "BaseException.__getattribute__") false false) _ _ _
 have f3:=F.attr_ValueError.ga.bind (.ref a)
 unfold getAttrByItsOwn
 repeat (any_goals (first | assumption | wp_step | (refine wpAny_bind (L2.at ?_)) | (refine L2.at ?_)))
 obtain⟨nm,qn,N,bs,bm,hdct,sn,sub,ab,col,dc,k0,k1,k2,k3,k5,nid,hC,hbase,_⟩:=PySem.W.kts_cls X g5
 have hC:hh.get? C=some (excClassObj nm qn C N bs bm hdct sn sub ab col dc k0 k1 k2 k3 k5 nid):=hC
 have hcB:(Value.ref C::bm).contains (.type "BaseException")=true:=by rw[List.contains_cons,hbase,Bool.or_true]
 have L0':=I.type (M:=model prog w)
 show codeAny (model prog w) A (.call (.builtin "BaseException.__getattribute__") ⟨[.ref a,.str "__class__" t],[]⟩) _ ⟨hh,g,d,t+1,os⟩
 refine codeAny_call_builtin F.attr_ValueError.ga.plain F.entry_bexc_ga ?_
 have hk:builtinKind "BaseException.__getattribute__" = some .slot:=by decide +kernel
 have hsplit:splitId "BaseException.__getattribute__" = some ("BaseException","__getattribute__"):=by decide +kernel
 have ha:=F.args_bexc_ga (.ref a) (.str "__class__" t)
 simp only[checkBuiltinCall,hk,hsplit]
 refine wpAny_bind ?_
 unfold isInstance
 repeat (first | (with_reducible refine wpAny_loadPart_at hx ?_;rw[hc]) | (with_reducible refine wpAny_isSubtype_exc hC ?_;rw[hcB]) | wp_step)
 refine L3.at ?_
 have f5:=PySem.W.KF.type_class;have f6:=F.slot_gs_get.lookup;have f7:=F.slot_gs_set.lookup
 repeat (any_goals (first | assumption | (with_reducible refine wpAny_loadPart_at hx ?_;rw[hc]) | wp_step))
 have X':K.In (⟨hh,g,d,t+1,os⟩:Shared).heap:=X
 have I':PySem.W.InstAt (⟨hh,g,d,t+1,os⟩:Shared).heap a o C none:=I
 refine PySem.W.class_get X' I' g4 ?_
 repeat (any_goals (first | assumption | wp_step))
end
def Cg(a C:Addr)(h:Heap):Prop:=∃o,h.get? a=some o/\o.cls = .ref C/\o.dict=none/\∃vs,o.data = .fields vs
structure QC(K:PySem.W.Frag)(C:Addr):Prop where
 ga:PySem.W.findIn K (.ref C) "__getattribute__" = some (some (.builtin "BaseException.__getattribute__"))
 gr:PySem.W.findIn K (.ref C) "__getattr__" = some none
 cl:PySem.W.findIn K (.ref C) "__class__" = some (some (.builtin "object.__class__"))
 mr:PySem.W.mroIn K C (.type "object")=some true
 kt:PySem.W.ktsIn K C "BaseException" = true
theorem OG{K:PySem.W.Frag}{a C:Addr}(c:QC K C):PySem.W.KitX K (.ref a) (.ref C) (Cg a C) where
 ty:=fun M h _ ⟨o,h1,h2,_⟩=>h2▸(PySem.W.Looks.ld h1).andThen .now
 it:=fun M h X _=>by
  obtain⟨nm,qn,N,bs,bm,hdct,sn,sub,ab,col,dc,k0,k1,k2,k3,k5,nid,hC,_⟩:=PySem.W.kts_cls X c.kt
  intro A' Q' E' s' k q
  unfold isType loadHead
  exact wpAny_bind (wpAny_loadPart (k _ _ hC) (wpAny_pure q))
 ne:=fun h tp dd its n sl X htp=>by
  obtain⟨nm,qn,N,bs,bm,hdct,sn,sub,ab,col,dc,k0,k1,k2,k3,k5,nid,hC,_⟩:=PySem.W.kts_cls X c.kt
  refine Bool.eq_false_iff.mpr fun q=>?_
  have e:C=tp:=Value.ref.inj (beq_iff_eq.mp q)
  subst e;rw[hC] at htp
  exact absurd (congrArg Obj.cls (Option.some.inj htp)) (show ¬(Value.type "type" = Value.type "tuple") by decide)
 ca:=fun X ⟨o,h1,h2,h3,vs,h4⟩ k=>LO X h1 h2 h4 h3 c.ga c.gr c.cl c.mr c.kt k
def Wj(tb:Str->Option Bool)(f:XE):XE:=fun s=>match f s with
 | some (.exc n)=>(tb n).map PV.bl
 | _=>none
inductive ClsV:V->Value->Prop
 | own (C:Addr):ClsV (.ref C) (.ref C)
 | ty (T:String):ClsV (.ty T) (.type T)
theorem ClsV.rel{cv:V}{c u:Value}(h:ClsV cv c)(r:RelV cv u):u=c:=by
 cases h with
 | own C=>exact r
 | ty T=>exact r
section
variable {X:Cx} {e:Expr} {f:XE} {cx:Str} {p p2 pos:Pos} {tb:Str->Option Bool} {c:Value} {cv:V}
theorem NW:XQ X (.builtin "isinstance") (fun xs H Q=>∃a C cv c b o x,xs=[.ref a,cv]/\ClsV cv c/\H a=some (.frz o (.own x))/\o.cls = .ref C/\o.dict=none/\(∃vs,o.data = .fields vs)/\QC X.K C/\PySem.W.kitOne X.K (.ref C) c=some b/\Q (.bl b) H):=by
 intro pins s σ H xs us Q I r h
 obtain⟨a,C,cv,c,b,o,x,rfl,hcv,hH,hc,hd,hv,ec,hk,q⟩:=h
 obtain⟨u,v,rfl,ru,rv⟩:=Mp r
 obtain rfl:=hcv.rel rv
 obtain rfl:u=Value.ref a:=ru
 exact PySem.W.kia_one (OG ec) I.kIn ⟨o,(I.hok a _ hH).1,hc,hd,hv⟩ hk (fun z=>nomatch z) fun tk=>⟨.bl b,H,I.tok tk,rfl,q⟩
theorem MP{C:Addr}(hg:Gl X cx)(hm:X.mg cx=some (.ref C))(hdb:(cx==("__debug__" : Str))=false:=by decide):PE X (.Name cx p2) (fun _ H Q=>Q (.ref C) H):=fun pins s σ H Q I h=>V3 I hg hm ⟨.ref C,H,I,rfl,h⟩ hdb
theorem HC{T:String}(hg:Gl X cx)(hm:X.mg cx=none)(hv:bootBuiltins cx=some (.type T))(hn:cx≠"__name__":=by decide)(hdb:(cx==("__debug__" : Str))=false:=by decide):PE X (.Name cx p2) (fun _ H Q=>Q (.ty T) H):=fun pins s σ H Q I h=>Xy I hg hm hv ⟨.ty T,H,I,rfl,h⟩ hn hdb
theorem JD(hgi:Gl X "isinstance")(hm:X.mg "isinstance" = none)(he:VE X e f)(hcv:ClsV cv c)(hc:PE X (.Name cx p2) (fun _ H Q=>Q cv H))
  (ht:∀n b,tb n=some b->∃C,PySem.W.nsIn X.K mainGlobals n=some (some (.ref C))/\QC X.K C/\PySem.W.kitOne X.K (.ref C) c=some b)
  (hst:starEach [e,.Name cx p2] X.env=(false,eval e X.env)::starEach [.Name cx p2] X.env:=by rfl) (hst2:starEach [.Name cx p2] X.env=(false,eval (.Name cx p2) X.env)::starEach [] X.env:=by rfl) (hpl:(backTo pos (starEach [.Name cx p2] X.env)).any (·.1)=false:=by rfl):VM X (.Call (.Name "isinstance" p) [e,.Name cx p2] [] pos) (Wj tb f):=
 PE.imp (UT NW hgi hm (by decide +kernel) (YE he (YE hc XX (hs:=hst2)) (hs:=hst)) (by decide) (by decide) hst hpl) fun σ H Q ⟨s,l,env,e1,k⟩=>by
  unfold Wj at e1
  split at e1
  ·rename_i n hn
   obtain⟨b,hb,rfl⟩:=map_some e1
   obtain⟨C,hns,ec,hk⟩:=ht n b hb
   refine⟨fun _=>False,s,.exc n,fun _ z=>z.elim,env,hn,fun v H1 fp s1 i1 _=>?_⟩
   simp only[Is] at i1
   obtain⟨⟨ea,o,x,C',rfl,hH,hcl,hn',hd,hv⟩,_⟩:=i1
   rw[hns] at hn'
   cases hn'
   exact⟨ea,C,cv,c,b,o,x,rfl,hcv,hH,hcl,hd,hv,ec,hk,k _ H1 [] s1 (Is.bl _) List.nodup_nil fun p hp=>by simp at hp⟩
  ·cases e1
end
section
variable {X:Cx} {O W:List Nat} {k n i:Nat} {x y cx nm:Str} {ps:List Str} {R:List PV->Option Str} {e:Expr} {es:List Expr} {fs:List XE} {p py cp ep np hp pos:Pos} {b₀:Stmt} {suite:List Stmt} {f:XS} {Cb:Addr} {Yh:List ExceptHandler}
theorem HD{body:List Stmt}{h₀:ExceptHandler}{hs:List ExceptHandler}(hb:VSs X.nox O W body f):VS X O W (.Try body (h₀::hs) [] [] pos) f:=by
 intro pins s σ H D I h
 refine wpAny_Try_except (wpAny_mono (hb pins s σ H D (I.wish _) h) (fun fl s1 q=>?_) fun _ _ z=>z.elim)
 cases fl with
 | next=>
  obtain⟨σ',H',I',z⟩:=q
  exact wpAny_execs_nil ⟨σ',H',I'.unwish,z⟩
 | ret u=>
  obtain⟨v,σ',H',I',r,z⟩:=q
  exact⟨v,σ',H',I'.unwish,r,z⟩
 | brk=>
  obtain⟨σ',H',I',z⟩:=q
  exact⟨σ',H',I'.unwish,z⟩
 | cont=>
  obtain⟨σ',H',I',z⟩:=q
  exact⟨σ',H',I'.unwish,z⟩
def Dd(f g:XS):XS:=fun s=>match f s with
 | some o=>some o
 | none=>g s
theorem De{st:Stmt}{g:XS}{W1 W2:List Nat}(h1:VS X O W1 st f)(h2:VS X O W2 st g):VS X O (W1++W2) st (Dd f g):=by
 intro pins s σ H D I ⟨H0,fps,sp,out,r,e,k⟩
 have s1:∀j,j∉W1++W2->j∉W1:=fun j hj z=>hj (List.mem_append_left _ z)
 have s2:∀j,j∉W1++W2->j∉W2:=fun j hj z=>hj (List.mem_append_right _ z)
 unfold Dd at e
 split at e
 ·rename_i o ho
  cases e
  exact h1 pins s σ H D I ⟨H0,fps,sp,_,r,ho,k.same (fun j _=>⟨rfl,Kep.refl _⟩) s1⟩
 ·exact h2 pins s σ H D I ⟨H0,fps,sp,_,r,e,k.same (fun j _=>⟨rfl,Kep.refl _⟩) s2⟩
end
def nms:List Str:=["NoWeb","Apart","NoText","NoOrder","TooMany","NotSettled","NoTree","NoTotal","NoEnds","NoRow","NoName"]
structure QN(nm:Str)(K:PySem.W.Frag)(mg:Str->Option Value)(C Cb:Addr):Prop where
 no:PySem.W.nsIn K mainGlobals nm=some (some (.ref C))
 mgo:mg nm=some (.ref C)
 mgb:mg "PurseError" = some (.ref Cb)
 ex:PySem.W.excIn K C [.type "ValueError",.type "Exception",.type "BaseException",.type "object"] "ValueError.__new__" = true
 ec:QC K C
 kb:PySem.W.ktsIn K Cb "BaseException" = true
 bl:belowIn K C Cb=true
 cls:∀cx∈nms,∃D,mg cx=some (.ref D)/\PySem.W.kitOne K (.ref C) (.ref D)=some (decide (cx=nm))
 ve:PySem.W.kitOne K (.ref C) (.type "ValueError")=some true
def Cs(f:XE):XS:=fun s=>(f s).map fun _=>.nx s
theorem Dg{X:Cx}{O:List Nat}{e:Expr}{f:XE}{pos:Pos}(he:VE X e f)(hs:swapsWith e none pos.line X.env=pure false:=by rfl):VS X O [] (.Expr e pos) (Cs f):=PS.imp (W4 he hs) fun D σ H ⟨H0,fps,s,out,r,e,k⟩=>by
 obtain⟨l,e1,rfl⟩:=map_some e
 exact⟨fun _=>False,s,l,fun _ z=>z.elim,r.env,e1,fun v H' fp sm is _=>k fps σ H' (r.grow sm) fun j _=>⟨rfl,Kep.refl _⟩⟩
end VX
namespace PW
open PySem L2 VL
noncomputable def Ts:XS:=(Zm (Zn 1 (YC []))
  (Zm (Xf [1] (ZO [(Zc Zq [(Za 0)])]) (.one 2) (Xf [1] (Xw [(Zf ZD (Za 2) (eC (.int 1))),(Zc Zq [(Za 0)])]) (.one 3) (Xn 1 (Zw 1 [2,3] (ZO [(Zf ZK (Zf ZK (Za 0) (Za 2)) (Za 3))]) (.one 0) ZG (eP (Xh [(Za 1),(Za 2)]))))))
  (ZY (Za 1))))
noncomputable def Z4:List PV->Option PV:=X5 4 Ts
noncomputable def Tt:XS:=(Zm (Zn 2 (Zc Z4 [(Za 0)]))
  (Zm (Zn 3 (Uo YR (Zc Zq [(Za 0)])))
  (Zm (Zn 4 (YC []))
  (Zm (Zn 5 (Uo YR (Zc Zq [(Za 2)])))
  (Zm (Zn 6 (eP (Zf Xp (Za 1) (eC (.int 2)))))
  (Zm (Xf [4,5] (ZO [(Zc Zq [(Za 2)])]) (.one 7) (Zm (Zn 8 (Zc Zj [(Zf ZD (Za 1) (Zf Xo (Zf Xo (eC (.int 53)) (Za 7)) (Za 7))),(Zf ZD (eC (.int 47)) (Za 7)),(Zc Zq [(Za 5)])]))
  (Zm (Xc (xB (Zf (Z8 false) (Zf ZX (Za 1) (eC (.int 2))) (eC (.int 1)))) (Zm (Zn 8 (eP (Zf ZX (Za 6) (Zc Zq [(Za 5)]))))
  (Zn 6 (eP (Zf Xp (Za 6) (Zc Zq [(Za 5)]))))) ZH)
  (Zm (Jr 8 5 (Za 8))
  (Zm (U9 (.many [9,10]) (Zf ZK (Za 2) (Za 8)))
  (Xc (xB (Zf (Z8 true) (Zf ZK (Za 3) (Za 9)) (Zf ZK (Za 3) (Za 10)))) (Zm (Zn 11 (eP (Zf ZK (Za 3) (Za 9))))
  (Zm (Zn 3 (Zw 1 [11,3,10] (Y4 (Za 3)) (.one 0) ZG (eP (Nl (xB (Zf (Z8 false) (Za 0) (Za 1))) (Zf ZK (Za 2) (Za 3)) (Za 0)))))
  (Xm 4 (eP (Za 8))))) ZH))))))
  (ZY (eP (Zc Z2 [(Zc Ti [(Za 4)])])))))))))
noncomputable def WS:List PV->Option PV:=X5 12 Tt
noncomputable def Ug:XS:=(Zm (Zn 2 (Zf Rn (YC [(eC (.int 0))]) (Zc Zq [(Za 0)])))
  (Zm (Xf [2] (WI (Za 1)) (.one 3) (TZ 2 (Za 3) (Zf ZD (Zf ZK (Za 2) (Za 3)) (eC (.int 1)))))
  (ZY (eP (Zc Z2 [(Za 2)])))))
noncomputable def X2:List PV->Option PV:=X5 4 Ug
noncomputable def WB:XS:=(Zm (Zn 2 (Zc Z4 [(Za 0)]))
  (ZY (Zw 1 [2,1] (ZO [(Zc Zq [(Za 2)])]) (.one 0) (xB (Zf (U5 true) (Za 0) (Za 2))) (eP (Zf ZK (Za 1) (Za 0))))))
noncomputable def ZW:List PV->Option PV:=X5 3 WB
noncomputable def WT:XS:=(Zm (Zn 3 (Zc ZW [(Za 0),(Za 1)]))
  (Zm (Xc (xB (Zf (Z8 false) (Zf ZX (Za 2) (eC (.int 2))) (eC (.int 1)))) (Zm (Zn 4 (eP (Zf Xp (Zf Xp (Za 2) (eC (.int 2))) (eC (.int 479001600)))))
  (ZY (eP (Zc Z2 [(Zw 1 [3,4] (ZO [(Zc Zq [(Za 3)])]) (.one 0) ZG (Zf ZK (Zf ZK (Za 1) (Za 0)) (Zf Hd (Zf KY (Za 2) (Za 0)) (eC (.int 1)))))])))) ZH)
  (ZY (eP (Zc Z2 [(Zw 1 [3,2] (ZO [(Zc Zq [(Za 3)])]) (.one 0) ZG (Zf ZK (Zf ZK (Za 1) (Za 0)) (Zc Zj [(Zf ZD (Za 2) (Zf Xo (Zf Xo (eC (.int 59)) (Za 0)) (Za 0))),(Zf ZD (eC (.int 61)) (Za 0)),(eC (.int 2))])))])))))
noncomputable def WU:List PV->Option PV:=X5 5 WT
end PW
namespace VL
open PySem
theorem NX{mask:Nat}{ow:Array (Option Nat)}{i p f:Nat}(h:(ow.getD i (some 0)).isNone=true):SetTable.layClean.free mask ow (f+1) i p=some i:=by
 unfold SetTable.layClean.free
 have hr:∃r,SetTable.runEnd mask i+1-i=r+1:=⟨SetTable.runEnd mask i-i,by unfold SetTable.runEnd;split<;>omega⟩
 obtain⟨r,hr⟩:=hr
 rw[hr,List.range_succ_eq_map,List.find?_cons];simp only[Nat.add_zero,h]
def NY(ks:List Nat)(j:Nat):Option Nat:=if j∈ks then some (ks.idxOf j) else none
def Tu(mask:Nat)(acc:Option (Array (Option Nat)×Nat))(h:Int):Option (Array (Option Nat)×Nat):=acc.bind fun z=>(SetTable.layClean.free mask z.1 (SetTable.turns mask) (SetTable.bits h%(mask+1)) (SetTable.bits h)).bind fun j=>some (z.1.setIfInBounds j (some z.2),z.2+1)
theorem VU{ow:Array (Option Nat)}{j:Nat}(h:j<ow.size)(d:Option Nat):ow.getD j d=ow[j]:=by
 unfold Array.getD;rw[dif_pos h];rfl
end VL
namespace VL
open PySem PySem.Spec PyProof.Rows
theorem Pr{k:Nat}(h:k<=31):SetTable.bits (k:Int)=k:=by
 unfold SetTable.bits;omega
theorem JE{led:Bool}{t:SetTable}(ht:Ws led t)(hm:31<=t.mask){k:Nat}(hk:k<=31)(hn:k∉t.place.toList):t.freeSlot (k:Int)=some (k,false):=by
 have no:¬t.place[SetTable.below t.place k]?=some k:=fun z=>hn (by
  rw[<-Array.getElem?_toList] at z
  exact List.mem_of_getElem? z)
 have hh:SetTable.has t.dummies k=false:=by
  rw[ht.dum];unfold SetTable.has;simp
 have sl:t.slot k = .empty:=by
  unfold SetTable.slot
  simp only
  rw[if_neg (by simpa using no),hh];rfl
 have st:(t.probeStart (k:Int)).j=k:=by
  unfold SetTable.probeStart
  simp only
  rw[Pr hk]
  exact Nat.mod_eq_of_lt (by omega)
 have pr:t.probe (fun _=>(k:Int)+1) (k:Int) (t.probeStart (k:Int))=some (.empty k none):=by
  unfold SetTable.probe
  obtain⟨f,hf⟩:∃f,10*SetTable.turns t.mask=f+1:=⟨10*SetTable.turns t.mask-1,by unfold SetTable.turns;omega⟩
  rw[hf];unfold SetTable.probe.go;rw[st,sl];rfl
 unfold SetTable.freeSlot;rw[pr];rfl
def DH(j:Nat):Nat:=(j*5+1)%8
def HE:Nat->Nat->Nat
 | 0,j=>j
 | n+1,j=>HE n (DH j)
theorem MQ{t:SetTable}(hd:t.dummies = #[]){j:Nat}(h:t.slot j≠.empty):j∈t.place.toList/\∃i,t.slot j = .live i:=by
 have hh:SetTable.has t.dummies j=false:=by
  rw[hd];unfold SetTable.has;simp
 unfold SetTable.slot at h ⊢
 simp only at h ⊢
 by_cases q:(t.place[SetTable.below t.place j]?==some j)=true
 ·rw[if_pos q]
  have q':t.place[SetTable.below t.place j]?=some j:=by simpa using q
  rw[<-Array.getElem?_toList] at q'
  exact⟨List.mem_of_getElem? q',_,rfl⟩
 ·rw[if_neg q,hh] at h
  exact absurd rfl h
theorem MR{t:SetTable}(hd:t.dummies = #[])(hm:t.mask=7){h:Int}:∀(n fuel:Nat)(p:SetTable.Probe),n<fuel->p.more=0->p.i=p.j->p.perturb<32->p.dummy=none->t.slot (HE n p.j) = .empty->
  ∃j,SetTable.probe.go t (fun _=>h+1) h fuel p=some (.empty j none)
 | n,0,p,hf,_,_,_,_,_=>by omega
 | n,fuel+1,p,hf,h1,h2,h3,h4,he=>by
  unfold SetTable.probe.go
  by_cases q:t.slot p.j = .empty
  ·rw[q]
   exact⟨p.j,by rw[h4]⟩
  ·obtain⟨_,i,hi⟩:=MQ hd q
   rw[hi]
   have ne:((h+1:Int)==h)=false:=by simp;omega
   simp only[ne]
   cases n with
   | zero=>exact absurd he q
   | succ n=>
    have adv:t.advance p={ p with j:=DH p.j,more:=0,i:=DH p.j,perturb:=0 }:=by
     unfold SetTable.advance SetTable.leap SetTable.runEnd
     have h0:p.perturb/32=0:=by omega
     rw[if_neg (by omega)];simp only[hm,h2,h0]
     have lt:(p.j*5+1+0)%(7+1)<8:=Nat.mod_lt _ (by decide)
     rw[if_neg (by omega)];unfold DH
     simp
    rw[adv]
    exact MR hd hm n fuel _ (by omega) rfl rfl (by show 0<32;decide) h4 he
theorem HF:∀j,j<8->[HE 0 j,HE 1 j,HE 2 j,HE 3 j,HE 4 j].Nodup:=by decide
theorem OH:∀{l m:List Nat},l.Nodup->(∀x∈l,x∈m)->l.length<=m.length
 | [],m,_,_=>Nat.zero_le _
 | x::l,m,nd,sub=>by
  have nd':=List.nodup_cons.mp nd
  have hx:=sub x (by simp)
  have:=OH (l:=l) (m:=m.erase x) nd'.2 fun y hy=>(List.mem_erase_of_ne (fun z:y=x=>nd'.1 (by rw[<-z];exact hy))).mpr (sub y (by simp[hy]))
  rw[List.length_erase_of_mem hx] at this
  have:0<m.length:=List.length_pos_of_mem hx
  simp only[List.length_cons];omega
theorem JF{led:Bool}{t:SetTable}(ht:Ws led t)(hm:t.mask=7)(hs:t.place.size<=4){k:Nat}(hk:k<=31):∃j,t.freeSlot (k:Int)=some (j,false):=by
 have h8:k%8<8:=Nat.mod_lt _ (by decide)
 obtain⟨n,n5,hn⟩:∃n,n<5/\t.slot (HE n (k%8)) = .empty:=by
  refine Classical.byContradiction fun q=>?_
  have all:∀n,n<5->HE n (k%8)∈t.place.toList:=fun n h=>(MQ ht.dum fun z=>q ⟨n,h,z⟩).1
  have:=OH (HF (k%8) h8) (m:=t.place.toList) (fun x hx=>by
   simp only[List.mem_cons,List.not_mem_nil,or_false] at hx
   rcases hx with rfl | rfl | rfl | rfl | rfl
   ·exact all 0 (by decide)
   ·exact all 1 (by decide)
   ·exact all 2 (by decide)
   ·exact all 3 (by decide)
   ·exact all 4 (by decide))
  simp at this
  omega
 have st:t.probeStart (k:Int)={ j:=k%8,more:=0,i:=k%8,perturb:=k,dummy:=none }:=by
  unfold SetTable.probeStart SetTable.runEnd;rw[Pr hk,hm]
  have:k%(7+1)<8:=Nat.mod_lt _ (by decide)
  simp only
  rw[if_neg (by omega)]
  simp
 obtain⟨j,hj⟩:=MR ht.dum hm (h:=(k:Int)) n (10*SetTable.turns t.mask) { j:=k%8,more:=0,i:=k%8,perturb:=k,dummy:=none } (by unfold SetTable.turns;omega) rfl rfl (by show k<32;omega) rfl hn
 refine⟨j,?_⟩
 unfold SetTable.freeSlot SetTable.probe;rw[st,hj];rfl
theorem QD{mask:Nat}(hm:31<=mask):∀(ks dn:List Nat)(ow:Array (Option Nat)),(dn++ks).Nodup->(∀k∈ks,k<=31)->ow.size=mask+1->(∀j,j<=mask->ow.getD j none=NY dn j)->
  ∃ow',(ks.map fun(k:Nat)=>(k:Int)).foldl (Tu mask) (some (ow,dn.length))=some (ow',(dn++ks).length)/\ow'.size=mask+1/\∀j,j<=mask->ow'.getD j none=NY (dn++ks) j
 | [],dn,ow,_,_,hs,ho=>⟨ow,by simp,hs,by simpa using ho⟩
 | k::ks,dn,ow,nd,hk,hs,ho=>by
  have k7:=hk k (by simp)
  have kn:k∉dn:=fun z=>by
   rw[List.nodup_append] at nd
   exact nd.2.2 k z k (by simp) rfl
  have fr:(ow.getD k (some 0)).isNone=true:=by
   have:=ho k (by omega)
   rw[VU (by omega)] at this;rw[VU (by omega),this];unfold NY
   rw[if_neg kn];rfl
  obtain⟨f,hf⟩:∃f,SetTable.turns mask=f+1:=⟨mask+14,rfl⟩
  have st:Tu mask (some (ow,dn.length)) (k:Int)=some (ow.setIfInBounds k (some dn.length),dn.length+1):=by
   unfold Tu;simp only[Option.bind_some];rw[Pr k7,Nat.mod_eq_of_lt (show k<mask+1 by omega),hf,NX fr];rfl
  obtain⟨ow',e1,e2,e3⟩:=QD hm ks (dn++[k]) (ow.setIfInBounds k (some dn.length)) (by simpa using nd) (fun q hq=>hk q (by simp[hq])) (by simpa using hs) (fun j hj=>by
   rw[VU (by simp;omega),Array.getElem_setIfInBounds (by omega)]
   have o:=ho j hj;rw[VU (by omega)] at o
   by_cases q:k=j
   ·subst q
    rw[if_pos rfl];unfold NY;rw[if_pos (by simp),List.idxOf_append,if_neg kn]
    simp
   ·rw[if_neg q,o]
    unfold NY
    by_cases z:j∈dn
    ·rw[if_pos z,if_pos (by simp[z]),List.idxOf_append,if_pos z]
    ·rw[if_neg z,if_neg (by simp[z];exact fun y=>q y.symm)])
  refine⟨ow',?_,e2,by simpa using e3⟩
  rw[List.map_cons,List.foldl_cons,st]
  have:dn.length+1=(dn++[k]).length:=by simp
  rw[this,e1]
  simp
theorem R4(mask:Nat)(hs:Array Int):SetTable.layClean mask hs=(hs.toList.foldl (Tu mask) (some (Array.replicate (mask+1) none,0))).map (·.1):=by
 unfold SetTable.layClean;rw[<-Array.foldl_toList];rfl
theorem OI{α β:Type}{f g:α->Option β}:∀{l:List α},(∀j∈l,f j=g j)->l.filterMap f=l.filterMap g
 | [],_=>rfl
 | a::l,h=>by
  rw[List.filterMap_cons,List.filterMap_cons,h a (by simp),OI fun j hj=>h j (by simp[hj])]
theorem GL{α β:Type}(p:α->Bool)(g:α->β):∀l:List α,(l.filterMap fun j=>if p j=true then some (g j) else none)=(l.filter p).map g
 | []=>rfl
 | a::l=>by
  have:=GL p g l
  cases h:p a<;>simp[List.filterMap_cons,List.filter,h,this]
theorem LP{ks:List Nat}(nd:ks.Nodup):ks.map (fun j=>ks.idxOf j)=List.range ks.length:=by
 apply List.ext_getElem
 ·simp
 ·intro i h1 h2
  simp only[List.length_map] at h1;rw[List.getElem_map,List.getElem_range]
  have hi:ks.idxOf ks[i]<ks.length:=List.idxOf_lt_length_iff.mpr (List.getElem_mem h1)
  exact(List.getElem_inj nd).mp (List.getElem_idxOf hi)
theorem LQ{t:SetTable}{es:Array (Int×Value)}{ks:List Nat}(hk:es.toList.map (·.1)=ks.map fun(k:Nat)=>(k:Int))(nd:ks.Nodup)(h31:∀k∈ks,k<=31)(hl:ks.length<=18)(hp:t.plain=true) :
  ∃es2 t2,relayAll t es 20=(es2,t2,false)/\t2.plain=true/\t2.mask=31/\es2.toList.map (·.1)=t2.place.toList.map fun(k:Nat)=>(k:Int):=by
 have hsz:es.size=ks.length:=by
  have:=congrArg List.length hk
  simpa using this
 obtain⟨ow,e1,e2,e3⟩:=QD (mask:=31) (by decide) ks [] (Array.replicate 32 none) (by simpa using nd) h31 (by simp) (fun j hj=>by
  unfold NY;rw[VU (by simp;omega)]
  simp)
 have ls:SetTable.layClean 31 (es.map (·.1))=some ow:=by
  rw[R4,Array.toList_map,hk]
  have:(ks.map fun(k:Nat)=>(k:Int)).foldl (Tu 31) (some (Array.replicate (31+1) none,0))=some (ow,([]++ks).length):=e1
  rw[this];rfl
 let SJ:=(List.range 32).filter fun j=>decide (j∈ks)
 have live:((List.range (31+1)).filterMap fun j=>(ow.getD j none).map fun z=>(j,z))=SJ.map fun j=>(j,ks.idxOf j):=by
  rw[<-GL (fun j=>decide (j∈ks)) (fun j=>(j,ks.idxOf j))]
  refine OI fun j hj=>?_
  have hj':j<=31:=by have:=List.mem_range.mp hj;omega
  rw[e3 j hj'];unfold NY;simp only[List.nil_append]
  by_cases q:j∈ks<;>simp[q]
 have pm:SJ.Perm ks:=(List.perm_ext_iff_of_nodup (List.nodup_range.filter _) nd).mpr fun x=>by
  show x∈(List.range 32).filter (fun j=>decide (j∈ks))↔_
  rw[List.mem_filter,List.mem_range,decide_eq_true_eq]
  exact⟨fun h=>h.2,fun h=>⟨by have:=h31 x h;omega,h⟩⟩
 let t2:SetTable:={ mask:=31,place:=SJ.toArray,dummies:=#[],finger:=t.finger,led:=t.led,moves:=t.movedTo 31,plain:=t.plain }
 have rl:t.relaid (es.map (·.1)) 20=some (t2,(SJ.map fun j=>ks.idxOf j).toArray):=by
  show SetTable.laid 31 t.finger (t.movedTo 31) t.led t.plain (es.map (·.1))=_
  unfold SetTable.laid;rw[ls];simp only[Option.bind_eq_bind,Option.bind_some,Option.pure_def];rw[live,List.map_map,List.map_map];simp only[Function.comp_def,List.map_id'];rfl
 have inj:∀j∈SJ,∃e,es[ks.idxOf j]?=some e/\e.1=(j:Int):=fun j hj=>by
  have jk:j∈ks:=pm.mem_iff.mp hj
  have li:=List.idxOf_lt_length_iff.mpr jk
  have l2:ks.idxOf j<es.size:=by omega
  refine⟨es[ks.idxOf j],by simp[l2],?_⟩
  have g:=congrArg (fun l=>l[ks.idxOf j]?) hk
  simp only[List.getElem?_map] at g;rw[List.getElem?_eq_getElem li,Array.getElem?_toList,Array.getElem?_eq_getElem l2] at g;simp only[Option.map_some,Option.some.injEq] at g;rw[g,List.getElem_idxOf]
 have em:∀l:List Nat,(∀j∈l,∃e,es[ks.idxOf j]?=some e/\e.1=(j:Int))->(((l.map fun j=>ks.idxOf j).filterMap fun i=>es[i]?).map (·.1))=l.map fun(j:Nat)=>(j:Int):=by
  intro l
  induction l with
  | nil=>intro _;rfl
  | cons j l ih=>
   intro h
   obtain⟨e,e1,e2⟩:=h j (by simp)
   rw[List.map_cons,List.filterMap_cons,e1];simp only[List.map_cons]
   rw[ih fun x hx=>h x (by simp[hx]),e2]
 let es2:=((SJ.map fun j=>ks.idxOf j).toArray.filterMap fun i=>es[i]?)
 have e2l:es2.toList.map (·.1)=SJ.map fun(j:Nat)=>(j:Int):=by
  show((SJ.map fun j=>ks.idxOf j).toArray.filterMap fun i=>es[i]?).toList.map (·.1)=_
  rw[Array.toList_filterMap]
  exact em SJ inj
 have ln2:es2.size=ks.length:=by
  have:=congrArg List.length e2l
  simp only[List.length_map,Array.length_toList] at this;rw[this,pm.length_eq]
 have cv:coversAll (SJ.map fun j=>ks.idxOf j).toArray es.size=true:=by
  unfold coversAll;rw[List.isPerm_iff,hsz,<-LP nd]
  exact pm.map _
 have ft:t2.fits es2.size=true:=by
  unfold SetTable.fits SetTable.fill;rw[ln2]
  have:SJ.length=ks.length:=pm.length_eq
  simp[t2,this];omega
 refine⟨es2,t2,?_,hp,rfl,e2l⟩
 unfold relayAll;rw[rl]
 show(if(coversAll (SJ.map fun j=>ks.idxOf j).toArray es.size&&t2.fits es2.size)=true then(es2,t2,false) else _)=_
 rw[cv,ft];rfl
structure HG(led:Bool)(RD:Nat)(es:Array (Int×Value))(t:SetTable):Prop where
 tab:Ws led t
 plain:t.plain=true
 fits:t.fits es.size=true
 val:∀e∈es.toList,∃tg,e.2=Value.int e.1 tg
 way:∃ks:List Nat,es.toList.map (·.1)=(ks.map fun(k:Nat)=>(k:Int))/\ks.Nodup/\(∀k∈ks,k<=31)/\((t.mask=7/\ks.length<=RD)\/(t.mask=31/\t.place.toList=ks))
theorem OJ{α:Type}(xs:Array α)(p:Nat)(x:α):(SetTable.insertAt xs p x).toList=xs.toList.take p++x::xs.toList.drop p:=by
 unfold SetTable.insertAt;simp only[Array.toList_append,Array.toList_push,Array.toList_extract]
 have take:(xs.toList.extract 0 p)=xs.toList.take p:=by simp[List.extract]
 have drop:(xs.toList.extract p xs.size)=xs.toList.drop p:=by
  simp only[List.extract]
  exact List.take_of_length_le (by simp)
 rw[take,drop]
 simp
theorem WV{t:SetTable}{n:Nat}(h:t.fits n=true):t.place.size=n:=by
 unfold SetTable.fits at h;simp only[Bool.and_eq_true,beq_iff_eq,decide_eq_true_eq] at h;exact h.1
theorem LR{led:Bool}{es:Array (Int×Value)}{t:SetTable}(h:HG led 4 es t){k:Nat}(hk:k<=31)(hn:(k:Int)∉es.toList.map (·.1))(hl:es.size<=17)(tg:Tok) :
  ∃es1 t1,layNew t es (k:Int) (.int k tg)=(es1,t1,false,false)/\HG led 5 es1 t1:=by
 obtain⟨ks,e1,nd,h31,way⟩:=h.way
 have hsz:ks.length=es.size:=by
  have:=congrArg List.length e1
  simpa using this.symm
 have ps:=WV h.fits
 have kn:k∉ks:=fun z=>hn (by rw[e1];exact List.mem_map.mpr ⟨k,z,rfl⟩)
 obtain⟨j,hj,hB⟩:∃j,t.freeSlot (k:Int)=some (j,false)/\(t.mask=31->j=k):=by
  rcases way with⟨m,l4⟩ | ⟨m,pl⟩
  ·obtain⟨j,hj⟩:=JF h.tab m (by omega) hk
   exact⟨j,hj,fun z=>by omega⟩
  ·exact⟨k,JE h.tab (by omega) hk (by rw[pl];exact kn),fun _=>rfl⟩
 have hh:SetTable.has t.dummies j=false:=by
  rw[h.tab.dum];unfold SetTable.has;simp
 let p:=SetTable.below t.place j
 let t1:SetTable:={ t with place:=SetTable.insertAt t.place p j }
 let es1:=SetTable.insertAt es p ((k:Int),Value.int (k:Int) tg)
 have pt:t.put j=(t1,p):=by
  unfold SetTable.put;simp only[hh];rfl
 have l1:es1.toList=es.toList.take p++((k:Int),Value.int (k:Int) tg)::es.toList.drop p:=OJ _ _ _
 have lp:t1.place.toList=t.place.toList.take p++j::t.place.toList.drop p:=OJ _ _ _
 have s1:es1.size=es.size+1:=by
  have:=congrArg List.length l1
  rw[List.length_append,List.length_cons,List.length_take,List.length_drop] at this;simp only[Array.length_toList] at this;omega
 have sp:t1.place.size=es.size+1:=by
  have:=congrArg List.length lp
  rw[List.length_append,List.length_cons,List.length_take,List.length_drop] at this;simp only[Array.length_toList] at this;omega
 have ft:t1.fits es1.size=true:=by
  unfold SetTable.fits SetTable.fill;rw[sp,s1]
  have d:t1.dummies.size=0:=by show t.dummies.size=0;rw[h.tab.dum];rfl
  rw[d]
  have m:t1.mask=t.mask:=rfl
  rw[m];simp only[beq_self_eq_true,Bool.true_and,decide_eq_true_eq]
  rcases way with⟨m,l4⟩ | ⟨m,pl⟩<;>omega
 have ly:layNew t es (k:Int) (.int k tg)=(es1,t1,false,false):=by
  unfold layNew;rw[hj];simp only[pt]
  show(es1,t1.orStandIn es1.size,false,!t1.fits es1.size)=_
  unfold SetTable.orStandIn;rw[ft];rfl
 have tk:=NQ h.tab es (k:Int) (.int k tg)
 rw[ly] at tk
 refine⟨es1,t1,ly,tk,h.plain,ft,fun e he=>?_,ks.take p++k::ks.drop p,?_,?_,fun x hx=>?_,?_⟩
 ·rw[l1] at he
  rcases List.mem_append.mp he with z | z
  ·exact h.val e (List.mem_of_mem_take z)
  ·rcases List.mem_cons.mp z with rfl | z
   ·exact⟨tg,rfl⟩
   ·exact h.val e (List.mem_of_mem_drop z)
 ·rw[l1,List.map_append,List.map_cons,List.map_take,List.map_drop,e1,List.map_append,List.map_cons,List.map_take,List.map_drop]
 ·have pm:(ks.take p++k::ks.drop p).Perm (k::ks):=by
   have:=List.perm_middle (a:=k) (l₁:=ks.take p) (l₂:=ks.drop p)
   rwa [List.take_append_drop] at this
  exact pm.nodup_iff.mpr (List.nodup_cons.mpr ⟨kn,nd⟩)
 ·rcases List.mem_append.mp hx with z | z
  ·exact h31 x (List.mem_of_mem_take z)
  ·rcases List.mem_cons.mp z with rfl | z
   ·exact hk
   ·exact h31 x (List.mem_of_mem_drop z)
 ·rcases way with⟨m,l4⟩ | ⟨m,pl⟩
  ·left
   refine⟨m,?_⟩
   rw[List.length_append,List.length_cons,List.length_take,List.length_drop];omega
  ·right
   refine⟨m,?_⟩
   rw[lp,pl,hB m]
def Vq(N:List Int)(k:Int):List Int:=if k∈N then N else N++[k]
section
variable {prog:Program} {w:World} {A:Around} {E:Value->Shared->Prop} {s:Shared}
def SetP(prog:Program)(w:World)(led:Bool)(h:Heap)(a:Addr)(N:List Int):Prop:=
 ∃o es ep t,h.get? a=some o/\o.ExactSet/\o.data = .set es ep t/\ElemsOf (intKind prog w) es.toList/\(es.toList.map (·.1)).Perm N/\HG led 4 es t
theorem SetP.keep{led:Bool}{h h':Heap}{a:Addr}{N:List Int}(x:SetP prog w led h a N)(k:∀o,h.get? a=some o->h'.get? a=some o):SetP prog w led h' a N:=by
 obtain⟨o,es,ep,t,h1,r⟩:=x
 exact⟨o,es,ep,t,k o h1,r⟩
theorem QF{h:Heap}{a:Addr}{o:Obj}{es es':Array (Int×Value)}{ep:Nat}{t t':SetTable}(ho:h.get? a=some o)(hd:o.data = .set es ep t):(h.update a (Obj.putSet es' t')).get? a=some { o with data:=.set es' (ep+1) t' }:=by
 have:=Heap.get?_update_self (Obj.putSet es' t') ho (by rw[putSet_of _ _ hd];rfl)
 rw[putSet_of _ _ hd] at this;exact this
theorem HH{k:Nat}(h:k<=31):hashInt (k:Int)=k:=by
 have:∀k,k<=31->hashInt ((k:Nat):Int)=(k:Int):=by decide +kernel
 exact this k h
theorem JG{a:Addr}{N:List Int}{k:Nat}{tg:Tok}{led:Bool}{Q:Bool->Shared->Prop}(hS:SetP prog w led s.heap a N)(k31:k<=31)(hl:N.length<=17)
  (h:∀h' b,Heap.SameBut a s.heap h'->SetP prog w led h' a (Vq N (k:Int))->Q b { s with heap:=h' }):wpAny (model prog w) A (setAddHashed a (.int k tg) ((intKind prog w).hash k)) Q E s:=by
 obtain⟨o,es,ep,t,ho,hx,hd,he,hN,ht⟩:=hS
 have hf:=ht.fits
 have hz:es.size=N.length:=by
  have:=hN.length_eq
  simpa using this
 have hb:es.size<scanBound:=by
  have:scanBound=4096:=rfl
  omega
 have hki:(intKind prog w).is (k:Int) (.int k tg)=true:=intKind_is _ _ _ _
 have hsc:(Value.int (k:Int) tg).scannable=true:=rfl
 have hsame:∀e∈es.toList,(intKind prog w).is (k:Int) e.2=true↔e.1=(k:Int):=fun e hm=>by
  obtain⟨u,hu⟩:=ht.val e hm
  rw[hu];constructor
  ·intro z
   exact(intKind prog w).inj _ _ _ (intKind_is prog w e.1 u) z
  ·intro z
   rw[z];exact intKind_is _ _ _ _
 unfold setAddHashed setAddHashedIn
 refine wpAny_holding (wpAny_bind (wpAny_setState_of ho hd hf ?_))
 simp only[byScan_of hsc hb he,if_true];unfold setAddByScan
 refine wpAny_bind (wpAny_bind (wpAny_rule (wpAny_bind (wpAny_setScan_of hki ho hd hf he ?_))))
 cases q:List.findIdx? (fun e=>(intKind prog w).is (k:Int) e.2) es.toList with
 | some j=>
  obtain⟨lj,pj,_⟩:=List.findIdx?_eq_some_iff_getElem.mp q
  have hin:(k:Int)∈N:=hN.mem_iff.mp (List.mem_map.mpr ⟨_,List.getElem_mem lj,(hsame _ (List.getElem_mem lj)).mp pj⟩)
  refine wpAny_pure (wpAny_pure ?_)
  have g:=h s.heap false (Heap.SameBut.refl a s.heap)
  unfold Vq at g;rw[if_pos hin] at g
  exact g ⟨o,es,ep,t,ho,hx,hd,he,hN,ht⟩
 | none=>
  have nin:(k:Int)∉es.toList.map (·.1):=fun z=>by
   obtain⟨e,hm,e1⟩:=List.mem_map.mp z
   have:=List.findIdx?_eq_none_iff.mp q e hm
   rw[(hsame e hm).mpr e1] at this;cases this
  have nN:(k:Int)∉N:=fun z=>nin (hN.mem_iff.mpr z)
  have hh:(intKind prog w).hash (k:Int)=(k:Int):=HH k31
  rw[hh]
  obtain⟨es1,t1,ly,t5⟩:=LR ht k31 nin (by omega) tg
  have pm:=layNew_perm t es (k:Int) (.int k tg)
  rw[ly,Array.toList_push] at pm
  have he1:ElemsOf (intKind prog w) es1.toList:=by
   have:=he.push hki hsc
   rw[hh] at this
   exact this.perm pm
  have hN1:(es1.toList.map (·.1)).Perm (Vq N (k:Int)):=by
   unfold Vq;rw[if_neg nN]
   have p2:=pm.map (fun e:Int×Value=>e.1)
   rw[List.map_append] at p2
   exact p2.trans (hN.append_right [(k:Int)])
  have sz1:es1.size=N.length+1:=by
   have:=hN1.length_eq
   unfold Vq at this;rw[if_neg nN,List.length_append] at this
   simpa using this
  simp only[ly]
  refine wpAny_bind (wpAny_pure ?_)
  refine wpAny_ite_split (fun _=>?_) (fun z=>absurd t5.plain z)
  refine wpAny_bind ?_
  rw[hashByValue_scannable 8 hsc]
  refine wpAny_pure ?_
  have pk:plainKind (Value.int (k:Int) tg)=true:=rfl
  simp only[pk,if_true]
  have room:∀{m:Nat},m<=18->m<=sizeLine:=fun{m} q=>by rw[sizeLine_eq];omega
  have g1:=QF (es':=es1) (t':=t1) ho hd
  refine wpAny_bind (wpAny_storeSet_of ho hd ?_ (room (by omega)))
  obtain⟨ks,k1,nd,h31,way⟩:=t5.way
  have lk:ks.length=es1.size:=by
   have:=congrArg List.length k1
   simpa using this.symm
  refine wpAny_ite_split (fun z=>?_) (fun z=>?_)
  ·have tf:t1.tooFull=true:=by simpa using z
   unfold SetTable.tooFull SetTable.fill at tf;rw[WV t5.fits,t5.tab.dum] at tf;simp only[List.size_toArray,List.length_nil,Nat.add_zero,decide_eq_true_eq] at tf
   have s5:es1.size=5:=by
    rcases way with⟨m,l5⟩ | ⟨m,_⟩
    ·rw[m] at tf;omega
    ·rw[m] at tf;omega
   have gr:SetTable.grown es1.size=20:=by rw[s5];rfl
   obtain⟨es2,t2,rl,p2,m2,o2⟩:=LQ (t:=t1) k1 nd h31 (by omega) t5.plain
   have tk:=LC t5.tab es1 20;have ft:=relayAll_fits t1 es1 20;have pr:=relayAll_perm t1 es1 20
   rw[rl] at tk ft pr
   rw[gr];simp only[rl]
   refine wpAny_bind (wpAny_pure ?_)
   have g2:=QF (es':=es2) (t':=t2) g1 rfl
   have sz2:es2.size=es1.size:=by
    have:=pr.length_eq
    simpa using this
   refine wpAny_bind (wpAny_storeSet_of g1 rfl ?_ (room (by omega)))
   have pl2:t2.place.toList.map (fun(k:Nat)=>(k:Int))=(t2.place.toList).map fun(k:Nat)=>(k:Int):=rfl
   have nd2:t2.place.toList.Nodup:=tk.rise.imp fun q=>by omega
   have e31:∀x∈t2.place.toList,x<=31:=fun x hx'=>by
    have:(x:Int)∈es2.toList.map (·.1):=by rw[o2];exact List.mem_map.mpr ⟨x,hx',rfl⟩
    have:=(pr.map (fun e:Int×Value=>e.1)).mem_iff.mp this
    rw[k1] at this
    obtain⟨y,hy,ey⟩:=List.mem_map.mp this
    have:=h31 y hy
    omega
   exact wpAny_pure (wpAny_pure (h _ true ((Heap.SameBut.update s.heap a _).trans (Heap.SameBut.update _ a _)) ⟨_,es2,_,t2,g2,hx,rfl,he1.perm pr,(pr.map (fun e:Int×Value=>e.1)).trans hN1,tk,p2,ft,fun e hm=>t5.val e (pr.mem_iff.mp hm),t2.place.toList,o2,nd2,e31,.inr ⟨m2,rfl⟩⟩))
  ·have tf:t1.tooFull=false:=by
    cases q:t1.tooFull with
    | false=>rfl
    | true=>exact absurd (by rw[q];rfl) z
   have t4:HG led 4 es1 t1:=by
    refine⟨t5.tab,t5.plain,t5.fits,t5.val,ks,k1,nd,h31,?_⟩
    rcases way with⟨m,l5⟩ | r
    ·left
     refine⟨m,?_⟩
     unfold SetTable.tooFull SetTable.fill at tf;rw[WV t5.fits,t5.tab.dum,m] at tf;simp only[List.size_toArray,List.length_nil,Nat.add_zero,decide_eq_false_iff_not] at tf;omega
    ·exact .inr r
   exact wpAny_pure (wpAny_pure (h _ true (Heap.SameBut.update s.heap a _) ⟨_,es1,_,t1,g1,hx,rfl,he1,hN1,t4⟩))
end
end VL
namespace VW
open PySem PySem.W PyProof.Rows L2 VL
structure NZ(led:Bool)(es:Array (Int×Value))(t:SetTable):Prop where
 tab:Ws led t
 plain:t.plain=true
 fits:t.fits es.size=true
section
variable {prog:Program} {w:World} {A:Around} {E:Value->Shared->Prop} {s:Shared} {it a:Addr} {i ep:Nat} {o:Obj} {es:Array (Int×Value)} {t:SetTable}
theorem RA{Q:Option (Value×Nat)->Shared->Prop}(ho:s.heap.get? a=some o)(hd:o.data = .set es ep t)(ht:NZ (T3 w) es t)(hi:i<=es.size)
  (h:Q (((Up w a ep es)[i]?).map fun e=>(e.2,PY w t (i+1))) s):wpAny (model prog w) A (setNext a (PY w t i) i ep) Q E s:=by
 have hf:=ht.fits;unfold setNext
 refine wpAny_bind (wpAny_setState_of ho hd hf ?_)
 refine wpAny_bind (T4 ?_)
 cases q:w.params.followText "set-order" with
 | true=>
  have hO:Up w a ep es=pickOrder (w.params.setOrder a ep) es:=by unfold Up;rw[if_pos q]
  have hs:∀j,PY w t j=0:=fun j=>by unfold PY;rw[if_pos q]
  rw[hO,hs] at h;rw[hs]
  refine wpAny_ite_split (fun _=>?_) (fun z=>absurd rfl z)
  refine wpAny_ite_split (fun z=>absurd z (by simp)) (fun _=>?_)
  refine wpAny_bind ?_
  unfold setWalk
  refine wpAny_bind (wpAny_setState_of ho hd hf ?_)
  refine wpAny_bind (T4 ?_)
  rw[q]
  refine wpAny_ite_split (fun _=>?_) (fun z=>absurd rfl z)
  exact wpAny_bind (wpAny_askSetting (wpAny_pure (wpAny_pure h)))
 | false=>
  have hO:Up w a ep es=es:=by unfold Up;rw[if_neg (by rw[q];decide)]
  have hL:t.led=true:=by rw[ht.tab.led];unfold T3;rw[q];rfl
  have hb:SetTable.below t.place (PY w t i)=i:=by
   unfold PY
   rw[if_neg (by rw[q];decide)]
   cases i with
   | zero=>exact NN ht.tab.rise
   | succ j=>
    have lj:j<t.place.size:=by rw[WV ht.fits];omega
    simp only
    rw[Tq lj]
    exact NO ht.tab.rise lj
  rw[hO] at h
  refine wpAny_ite_split (fun z=>absurd z (by decide)) (fun _=>?_)
  refine wpAny_ite_split (fun z=>absurd (show(!t.plain&&decide (es.size>1))=true from z) (by rw[ht.plain];simp)) (fun _=>?_)
  refine wpAny_bind ?_
  refine wpAny_ite_split (fun z=>absurd z (by rw[hL];simp)) (fun _=>wpAny_pure ?_)
  simp only[hb]
  by_cases z:i<es.size
  ·have lp:i<t.place.size:=by rw[WV ht.fits];omega
   rw[Array.getElem?_eq_getElem z] at h ⊢
   rw[Array.getElem?_eq_getElem lp];simp only[Option.map_some] at h
   have:PY w t (i+1)=t.place[i]+1:=by
    unfold PY
    rw[if_neg (by rw[q];decide)]
    simp only
    rw[Tq lp]
   rw[this] at h
   exact wpAny_pure h
  ·rw[Array.getElem?_eq_none (by omega)] at h ⊢
   exact wpAny_pure h
theorem R5{e:Int×Value}{Q:Option Value->Shared->Prop}(hit:IsSetIter s.heap it a (PY w t i) i es.size ep)(ho:s.heap.get? a=some o)(hd:o.data = .set es ep t)(ht:NZ (T3 w) es t)(hx:(Up w a ep es)[i]?=some e)
  (hQ:∀h',IsSetIter h' it a (PY w t (i+1)) (i+1) es.size ep->Heap.SameBut it s.heap h'->Q (some e.2) { s with heap:=h' }):wpAny (model prog w) A (pyNext (.ref it)) Q E s:=by
 obtain⟨oi,hoi,hc,hdi⟩:=id hit
 have hi:i<es.size:=by
  have:=(Array.getElem?_eq_some_iff.mp hx).1
  rwa [Tr] at this
 unfold pyNext
 refine wpAny_bind (wpAny_attempt (wpAny_callSpecial?_slot (name:=Str.ofString "__next__") hit.typeIs slot_setit_next
  (wpAny_call_entry slot_setit_next hit.typeIs WR ?_ (Vo _))))
 unfold Builtin.«set_iterator.__next__»
 refine wpAny_bind (wpAny_pure ?_)
 refine wpAny_bind (wpAny_fieldsOf hoi hdi ?_)
 simp only
 refine wpAny_bind (wpAny_setEntries_of ho hd ht.fits ?_)
 rw[if_neg (by simp)];simp only[Int.toNat_natCast]
 refine wpAny_bind (RA ho hd ht (Nat.le_of_lt hi) ?_)
 rw[hx];simp only[Option.map_some]
 refine wpAny_bind (wpAny_setField hoi hdi (by simp) ?_)
 have g1:(s.heap.update it (Obj.mapFields (·.setIfInBounds 0 (rawInt (PY w t (i+1)))))).get? it=some (oi.mapFields (·.setIfInBounds 0 (rawInt (PY w t (i+1))))):=Heap.get?_update_self _ hoi (Obj.isFreed_of_fields (Obj.data_mapFields hdi _))
 have d1:=Obj.data_mapFields hdi (·.setIfInBounds 0 (rawInt (PY w t (i+1))))
 refine wpAny_bind (wpAny_setField g1 d1 (by simp) ?_)
 refine wpAny_pure ⟨_,rfl,wpAny_pure (hQ _ ⟨_,Heap.get?_update_self _ g1 (Obj.isFreed_of_fields (Obj.data_mapFields d1 _)),(Obj.cls_mapFields ..).trans ((Obj.cls_mapFields ..).trans hc),?_⟩ ((Heap.SameBut.update ..).trans (Heap.SameBut.update ..)))⟩
 rw[Obj.data_mapFields d1];simp[rawInt]
theorem Pt{Q:Option Value->Shared->Prop}(hh:A.handled=none)(hit:IsSetIter s.heap it a (PY w t es.size) es.size es.size ep)(ho:s.heap.get? a=some o)(hd:o.data = .set es ep t)(ht:NZ (T3 w) es t)
  (hQ:∀h',Heap.ExtBut it s.heap h'->Q none { s with heap:=h' }):wpAny (model prog w) A (pyNext (.ref it)) Q E s:=by
 obtain⟨oi,hoi,hc,hdi⟩:=id hit
 unfold pyNext
 refine wpAny_bind (wpAny_attempt (wpAny_callSpecial?_slot (name:=Str.ofString "__next__") hit.typeIs slot_setit_next
  (wpAny_call_entry slot_setit_next hit.typeIs WR ?_ (Vo _))))
 unfold Builtin.«set_iterator.__next__»
 refine wpAny_bind (wpAny_pure ?_)
 refine wpAny_bind (wpAny_fieldsOf hoi hdi ?_)
 simp only
 refine wpAny_bind (wpAny_setEntries_of ho hd ht.fits ?_)
 rw[if_neg (by simp)];simp only[Int.toNat_natCast]
 refine wpAny_bind (RA ho hd ht (Nat.le_refl _) ?_)
 rw[Array.getElem?_eq_none (by rw[Tr];exact Nat.le_refl _)]
 simp only[Option.map_none]
 refine wpAny_bind (wpAny_setField hoi hdi (by simp) ?_)
 show wpAny _ _ (newExc (.type "StopIteration") [] >>= _) _ _ _
 refine wpAny_bind ?_
 simp only[newExc,newTuple]
 refine wpAny_bind (wpAny_newObj_type ?_ (by size_fits))
 refine wpAny_bind (m:=firstArgMember _ _) (wpAny_of_eq (a:=Value.none) (by first | rfl | (simp only[firstArgMember];rfl)) ?_)
 refine wpAny_newObj_type ?_ (by size_fits)
 simp only[raiseNew]
 refine wpAny_bind (wpAny_handled ?_)
 rw[show A.in1.handled=none from hh]
 refine wpAny_bind (wpAny_pure (wpAny_throw ?_))
 refine wpAny_bind (wpAny_isInstance (T:="StopIteration") (b:=true) ⟨_,Heap.get?_push_size _ rfl,rfl⟩ isSubtype_stop ?_)
 exact wpAny_pure (hQ _ (((Heap.SameBut.update ..).extBut.push _).push _))
theorem JH{Q:Value->Shared->Prop}(ho:s.heap.get? a=some o)(hx:o.ExactSet)(hd:o.data = .set es ep t)(ht:NZ (T3 w) es t)
  (hQ:Q (.ref s.heap.objs.size) { s with heap:=s.heap.push { cls:=.type "set_iterator",data:=.fields #[.int 0 0,.int 0 0,.ref a,.int es.size 0,.int ep 0] } }):wpAny (model prog w) A (pyIter (.ref a)) Q E s:=by
 have hT:s.TypeIs (.ref a) "set":=⟨o,ho,hx.1⟩
 have hf:=ht.fits
 refine wpAny_pyIter_slot hT PySem.F.slot_set_iter (wpAny_call_entry PySem.F.slot_set_iter hT Rw ?_ (PySem.F.args_set_iter_1 _))
 unfold Builtin.«frozenset.__iter__» Builtin.Frozenset.slot0
 refine wpAny_bind (wpAny_bind (wpAny_pure (wpAny_pure ?_)))
 refine wpAny_bind (wpAny_bind (wpAny_setEntries_of ho hd hf (wpAny_pure ?_)))
 unfold setDrawn
 refine wpAny_bind (wpAny_bind (wpAny_setState_of ho hd hf (wpAny_bind (T4 (wpAny_pure ?_)))))
 refine wpAny_ite_split (fun z=>absurd (show(!(w.params.followText "set-order")&&(!t.plain&&decide (es.size>1)))=true from z) (by rw[ht.plain];simp)) (fun _=>?_)
 refine wpAny_bind (wpAny_pure ?_)
 unfold setEpoch
 refine wpAny_bind (wpAny_bind (wpAny_setState_of ho hd hf (wpAny_pure ?_)))
 refine wpAny_bind (wpAny_newObj_type (wpAny_pure ⟨_,rfl,"set_iterator",_,⟨_,Heap.get?_push_size _ rfl,rfl⟩,slot_setit_next.lookup,?_⟩))
 simpa [rawInt] using hQ
end
section
variable {prog:Program} {w:World} {a:Addr} {ep:Nat} {o:Obj} {es:Array (Int×Value)} {t:SetTable}
theorem LS{A:Around}{it:Addr}(hh:A.handled=none)(hne:a≠it)(hd:o.data = .set es ep t)(ht:NZ (T3 w) es t) :
  Walks prog w A it [it,a] [it] es.size (fun i v=>∃e,(Up w a ep es)[i]?=some e/\v=e.2) (fun i h=>IsSetIter h it a (PY w t i) i es.size ep/\h.get? a=some o) where
 sub:=fun b hb=>by
  rw[List.mem_singleton.mp hb];exact List.mem_cons_self
 frame:=fun _ _ _ st hk=>⟨st.1.at fun o e=>hk _ (by simp) o e,hk a (by simp) o st.2⟩
 item:=fun i s' Q E hi st hQ=>by
  have hi':i<(Up w a ep es).size:=by rw[Tr];exact hi
  refine R5 st.1 st.2 hd ht (e:=(Up w a ep es)[i]) (by simp[hi']) fun h' hit sb=>?_
  exact hQ _ h' s'.toks ⟨(Up w a ep es)[i],by simp[hi'],rfl⟩ ⟨hit,sb.extBut a o hne st.2⟩ fun b o hb e=>sb.extBut b o (fun h=>hb (by simp[h])) e
 done:=fun s' Q E st hQ=>Pt hh st.1 st.2 hd ht fun h' eb=>hQ h' s'.toks fun b o hb e=>eb b o (fun h=>hb (by simp[h])) e
 self:=fun _ _ _ _ st hQ=>NR st.1 hQ
theorem HI(hx:o.ExactSet)(hd:o.data = .set es ep t)(ht:NZ (T3 w) es t) :
  KdlSrc prog w "set" a a es.size (fun i v=>∃e,(Up w a ep es)[i]?=some e/\v=e.2) (fun h=>h.get? a=some o) where
 type:=fun _ hm=>⟨o,hm,hx.1⟩
 there:=fun _ hm=>⟨Heap.lt_size hm,Heap.lt_size hm⟩
 keep:=fun _ _ hm hk=>hk a (.inl rfl) o hm
 notList:=by decide
 notTuple:=by decide
 hint:=fun _ _ _ _ hm hq=>Ju ⟨o,hm,hx.1⟩ hq
 iter:=fun A s hh hm=>⟨_,fun i h=>IsSetIter h s.heap.objs.size a (PY w t i) i es.size ep/\h.get? a=some o,(fun _ _ hq=>JH hm hx hd ht hq),LS hh (Nat.ne_of_lt (Heap.lt_size hm)) hd ht,⟨⟨_,Heap.get?_push_size _ rfl,rfl,by
  have:PY w t 0=0:=by unfold PY;split<;>rfl
  rw[this];rfl⟩,Heap.get?_push_of_some _ hm⟩⟩
end
section
variable {prog:Program} {w:World} {A:Around} {E:Value->Shared->Prop} {s:Shared}
theorem N0{a:Addr}{ep:Nat}{o:Obj}{es:Array (Int×Value)}{t:SetTable}{Q:Value->Shared->Prop}(hh:A.handled=none)(ho:s.heap.get? a=some o)(hx:o.ExactSet)(hd:o.data = .set es ep t)(ht:NZ (T3 w) es t)
  (hv:∀e∈es.toList,∃tg,e.2=Value.int e.1 tg) (h18:es.size<=20) (h:∀(D:Addr)(h1 h':Heap)(tk:Nat)(out:Array Value)(ns':List Int)(e:Nat),(∀b o,s.heap.get? b=some o->h1.get? b=some o)->h1.objs.size<=D->(∀b o,h1.get? b=some o->h'.get? b=some o)->h'.get? D=some (seqObj "list" out e)->
   IntsAre out.toList ns'->ns'.Perm (es.toList.map (·.1))->ns'.Pairwise (·<=·)->Q (.ref D) { s with heap:=h',toks:=tk }) :
  wpAny (model prog w) A (call (.builtin "sorted") [.ref a]) Q E s:=by
 refine Calls.call_function_entry kind_sorted plain_sorted entry_sorted (args_sorted1 _) ?_
 unfold Builtin.«sorted»
 refine wpAny_bind (m:=checkCount "sorted" 1 1 _) (wpAny_pure ?_)
 refine wpAny_bind (kdu_collect (A:=A.in1) (HI hx hd ht) hh ho (by rw[sizeLine_eq];omega) fun h1 tk acc hk hacc=>?_)
 have hvs:acc.toList=(Up w a ep es).toList.map (·.2):=by
  apply List.ext_getElem?
  intro i;rw[List.getElem?_map]
  by_cases q:i<acc.size
  ·have e1:acc.toList[i]?=some acc[i]:=by simp[q]
   obtain⟨e,e2,e3⟩:=hacc.2 i acc[i] (by simp[q])
   rw[e1,Array.getElem?_toList,e2,e3];rfl
  ·have e1:acc.toList[i]?=none:=by simp;omega
   have e2:(Up w a ep es).toList[i]?=none:=by
    have:=hacc.1
    have:=Tr w a ep es
    simp;omega
   rw[e1,e2];rfl
 have hp:acc.toList.Perm (es.toList.map (·.2)):=by
  rw[hvs]
  exact(OA w a ep es).map _
 have hI:IntsAre acc.toList (acc.toList.map LF):=QA fun v hv'=>by
  obtain⟨e,he,rfl⟩:=List.mem_map.mp (hp.mem_iff.mp hv')
  obtain⟨u,hu⟩:=hv e he
  exact⟨_,u,hu⟩
 have hN:(acc.toList.map LF).Perm (es.toList.map (·.1)):=by
  have e1:(es.toList.map (·.2)).map LF=es.toList.map (·.1):=by
   rw[List.map_map]
   refine List.map_congr_left fun e he=>?_
   obtain⟨u,hu⟩:=hv e he
   show LF e.2=e.1
   rw[hu];rfl
  rw[<-e1]
  exact hp.map LF
 have hlen:acc.toList.length<=20:=by
  have:=hN.length_eq
  simp only[List.length_map,Array.length_toList] at this;rw[Array.length_toList];omega
 refine wpAny_bind (wpAny_newList ?_ (by rw[sizeLine_eq];omega))
 have hoL:(h1.push (seqObj "list" acc.toList.toArray 0)).get? h1.objs.size=some (seqObj "list" acc.toList.toArray 0):=Heap.get?_push_size _ rfl
 show wpAny _ _ _ _ _ { s with heap:=h1.push (seqObj "list" acc.toList.toArray 0),toks:=tk }
 refine wpAny_bind (wpAny_holding (wpAny_call_entry slot_list_sort ⟨_,hoL,rfl⟩ entry_list_sort (list_sort_tree hoL hI (by omega) fun out ns' a1 a2 a3=>⟨_,rfl,?_⟩) (args_list_sort _)))
 obtain⟨e,he⟩:=sortedHeap_at (out:=out) hoL
 refine wpAny_pure ⟨_,rfl,h h1.objs.size h1 _ tk out ns' e hk (Nat.le_refl _) (fun b o q=>?_) he a1 (a2.trans hN) a3⟩
 rw[sortedHeap_old (Nat.ne_of_lt (Heap.lt_size q)) (by rw[size_push'];exact Nat.lt_succ_of_lt (Heap.lt_size q))]
 exact Heap.get?_push_of_some _ q
end
end VW
namespace VW
open PySem PySem.W PySem.Spec PyProof.Rows L2 VL
def Vr(ns:List Nat):List Int:=(ns.map fun(k:Nat)=>(k:Int)).foldl Vq []
theorem LU(ns:List Nat)(k:Nat):Vr (ns++[k])=Vq (Vr ns) (k:Int):=by
 unfold Vr
 rw[List.map_append,List.foldl_append];rfl
theorem OK:∀(l N:List Int),(l.foldl Vq N).length<=N.length+l.length
 | [],N=>by simp
 | k::l,N=>by
  have:=OK l (Vq N k)
  have h:(Vq N k).length<=N.length+1:=by
   unfold Vq
   split<;>simp
  rw[List.foldl_cons,List.length_cons];omega
theorem OL(ns:List Nat):(Vr ns).length<=ns.length:=by
 have:=OK (ns.map fun(k:Nat)=>(k:Int)) []
 simpa [Vr] using this
section
variable {prog:Program} {w:World} {A:Around} {R:Result->Shared->Prop} {I a:Addr} {fp wr:List Addr} {G:Array GenState->Array GenState->Prop} {P:Nat->Value->Prop} {St:Nat->Shared->Prop} {led:Bool} {ns:List Nat}
theorem QG(W:WalksS prog w A.in1 I fp wr G ns.length P St)(ha:a∉fp)(hv:∀i v,P i v->∃t,v = .int ((ns.getD i 0:Nat):Int) t)(h31:∀k∈ns,k<=31)(hl:ns.length<=17) :
  ∀(m i:Nat)(s:Shared),i+m=ns.length->St i s->SetP prog w led s.heap a (Vr (ns.take i))->
   (∀s',Moved (a::wr) G s s'->SetP prog w led s'.heap a (Vr ns)->R (.ok (.ret .none)) s')->
   codeAny (model prog w) A (.builtin "set.update.loop" ⟨[.ref a,.ref I],[]⟩) R s
 | 0,i,s,e,st,hS,k=>by
  have hi:i=ns.length:=by omega
  subst hi
  have ha':a∉wr:=fun z=>ha (W.sub _ z)
  rw[List.take_length] at hS
  refine codeAny_builtin PyProof.Rows.F.entry_set_update_loop ?_
  rw[Around.under_plainId PyProof.Rows.F.plain_set_update_loop _]
  refine wpAny_bind (m:=pyNext (.ref I)) (W.done s _ _ st fun s' mv=>?_)
  exact wpAny_pure (k s' (mv.mono fun b z=>List.mem_cons_of_mem _ z) (hS.keep fun o z=>mv.heap a o ha' z))
 | m+1,i,s,e,st,hS,k=>by
  have ha':a∉wr:=fun z=>ha (W.sub _ z)
  have hi:i<ns.length:=by omega
  refine codeAny_builtin PyProof.Rows.F.entry_set_update_loop ?_
  rw[Around.under_plainId PyProof.Rows.F.plain_set_update_loop _]
  refine wpAny_bind (m:=pyNext (.ref I)) (W.item i s _ _ (by omega) st fun v s' hp st' mv=>?_)
  obtain⟨t,rfl⟩:=hv i v hp
  have gd:ns.getD i 0=ns[i]:=by simp[hi]
  rw[gd]
  refine wpAny_bind (m:=holding [Value.int ((ns[i]:Nat):Int) t] (setAdd a (.int ((ns[i]:Nat):Int) t))) (wpAny_holding ?_)
  unfold setAdd
  refine wpAny_holding (wpAny_bind ((intKind prog w).pyHash (k:=((ns[i]:Nat):Int)) (intKind_is _ _ _ _) ?_))
  have hS':SetP prog w led ({ s' with toks:=s'.toks+1 }:Shared).heap a (Vr (ns.take i)):=hS.keep fun o z=>mv.heap a o ha' z
  refine JG (s:={ s' with toks:=s'.toks+1 }) hS' (h31 _ (List.getElem_mem hi)) (by have:=OL (ns.take i);rw[List.length_take] at this;omega) fun h' bb sb hS2=>?_
  have hS3:SetP prog w led h' a (Vr (ns.take (i+1))):=by
   rw[List.take_succ_eq_append_getElem hi,LU];exact hS2
  refine wpAny_pure ⟨plainId_quiet PyProof.Rows.F.plain_set_update_loop _,QG W ha hv h31 hl m (i+1) _ (by omega) (W.frame _ s' _ _ st' (Nat.le_succ _) fun b z o e=>?_) hS3 fun s'' mv2 hS4=>?_⟩
  ·rw[sb.2 b fun q:b=a=>ha (by rw[<-q];exact z)];exact e
  ·refine k s'' (Moved.trans W.gtrans ((mv.mono fun b z=>List.mem_cons_of_mem _ z).then_heap (Nat.le_succ _) fun b o z e=>?_) mv2) hS4
   rw[sb.2 b fun q:b=a=>z (by rw[q];exact List.mem_cons_self)];exact e
end
section
variable {prog:Program} {w:World} {A:Around} {E:Value->Shared->Prop} {s:Shared}
theorem LV{l:Addr}{items:Array Value}{ns:List Nat}{Q:Value->Shared->Prop}(hh:A.handled=none)(hl:s.heap.IsTuple l items)(hi:IntsAre items.toList (ns.map fun(k:Nat)=>(k:Int)))(h31:∀k∈ns,k<=31)(hlen:ns.length<=17)
  (h:∀(h':Heap)(tk:Nat),SetP prog w (T3 w) h' s.heap.objs.size (Vr ns)->(∀b o,b<s.heap.objs.size->s.heap.get? b=some o->h'.get? b=some o)->Q (.ref s.heap.objs.size) { s with heap:=h',toks:=tk }) :
  wpAny (model prog w) A (call (.type "set") [.ref l]) Q E s:=by
 have hsz:items.size=ns.length:=by
  have:=Oz hi
  simpa using this
 obtain⟨c,tl,hmro⟩:=F.called_set.mro
 have x1:=F.called_set.made;have x2:=F.called_set.sub;have x3:=F.called_set.notType;have x4:=F.called_set.canCreate
 have x5:=F.typeCall_set_1 (.ref l)
 refine wpAny_call (codeAny_of_tree ?_)
 refine wpAny_pure ⟨Code.quiet_builtin _ (by decide +kernel),codeAny_builtin F.entry_type_call ?_⟩
 rw[Around.under_plain (weight_type_call_type "set" [.ref l] []) rfl]
 repeat (any_goals (first | assumption | wp_step))
 refine codeAny_mono (Jt (.ref l) (E:=E) (Q:=fun v s₁=>v = .ref s.heap.objs.size/\s₁={ s with heap:=s.heap.push (Sw w) }) ⟨rfl,rfl⟩) fun r s₁ hr'=>?_
 cases r with
 | error e=>exact hr'
 | ok fl=>
  cases fl with
  | ret v=>
   obtain⟨rfl,rfl⟩:=hr'
   have g0:(s.heap.push (Sw w)).get? s.heap.objs.size=some (Sw w):=Heap.get?_push_size _ rfl
   have ty:Shared.TypeIs { s with heap:=s.heap.push (Sw w) } (.ref s.heap.objs.size) "set":=⟨_,g0,rfl⟩
   have y1:=F.called_set.init.lookup
   have y2:=F.called_set.init.bind (.ref s.heap.objs.size)
   repeat (any_goals (first | assumption | wp_step))
   refine codeAny_mono (codeAny_call_builtin (R:=wants (fun r s₂=>r = .none/\∃h' tk,s₂={ s with heap:=h',toks:=tk }/\SetP prog w (T3 w) h' s.heap.objs.size (Vr ns)/\∀b o,b<s.heap.objs.size->s.heap.get? b=some o->h'.get? b=some o) E) F.called_set.init.plain F.entry_set_init (check_set_init_1 ty ?_)) fun r₂ s₂ hr₂=>?_
   ·obtain⟨ol,g1,g2,nl,g3⟩:=hl
    obtain⟨oc,od,odt,os⟩:=ol
    simp only at g2 g3
    subst g2 g3
    have g4:(s.heap.push (Sw w)).get? l=some { cls:=.type "tuple",dict:=od,data:=.seq items nl,slots:=os }:=Heap.get?_push_of_some _ g1
    have g5:(s.heap.push (Sw w)).IsTuple l items:=⟨_,g4,rfl,nl,rfl⟩
    have u1:=F.sub_tuple_set;have u2:=F.sub_tuple_frozenset
    have u3:(Value.type "tuple"==Value.type "dict")=false:=by decide
    have u4:(s.heap.push (Sw w)).get? s.heap.objs.size=some { cls:=.type "set",dict:=none,data:=.set #[] 0 (.fresh 0 0 (T3 w)) }:=g0
    unfold Builtin.«set.__init__» noKeywords Builtin.Frozenset.updateFrom
    generalize hPI:pyIter=PI
    wp_walk
    subst hPI
    refine wpAny_pyIter_tuple g5 (wpAny_bind (wpAny_runValue ?_))
    have ll:l<s.heap.objs.size:=Heap.lt_size g1
    have hq:A.in1.in1.in1.handled=none:=by simp[hh]
    have ne:l≠(s.heap.push (Sw w)).objs.size:=by rw[Heap.size_push];exact Nat.ne_of_lt (Nat.lt_succ_of_lt ll)
    have nf:s.heap.objs.size∉[(s.heap.push (Sw w)).objs.size,l]:=by
     rw[Heap.size_push];simp only[List.mem_cons,List.not_mem_nil,or_false,not_or]
     exact⟨Nat.ne_of_lt (Nat.lt_succ_self _),Nat.ne_of_gt ll⟩
    have ga:((s.heap.push (Sw w)).push { cls:=.type "tuple_iterator",data:=.fields #[.ref l,.int 0 0] }).get? s.heap.objs.size=some (Sw w):=Heap.get?_push_of_some _ g0
    have WW:=(Walks.tuple (prog:=prog) (w:=w) hq _ l ne items).toS
    rw[hsz] at WW
    refine QG (led:=T3 w) (ns:=ns) WW nf (fun i v hv=>?_) h31 hlen ns.length 0 _ (by omega) ⟨⟨_,Heap.get?_push_size _ rfl,rfl,rfl⟩,g5.push _⟩ ?_ fun s' mv z=>?_
    ·have lv:i<items.size:=(Array.getElem?_eq_some_iff.mp hv).1
     obtain⟨t,e⟩:=IntsAre.int_at hi i v (by rw[Array.getElem?_toList];exact hv)
     refine⟨t,e.trans ?_⟩
     congr 1
     rw[hsz] at lv;simp[lv]
    ·exact⟨_,#[],0,_,ga,⟨rfl,rfl,rfl⟩,rfl,fun e he=>by simp at he,List.Perm.refl _,LB _,rfl,rfl,fun e he=>by simp at he,[],rfl,List.nodup_nil,by simp,.inl ⟨rfl,by simp⟩⟩
    ·obtain⟨h',g',d',tk',os'⟩:=s'
     have eg:g'=s.gens:=mv.gens
     have ed:d'=s.drawn:=mv.drawn
     have eo:os'=s.os:=mv.os
     subst eg ed eo
     refine wpAny_pure (wpAny_pure ⟨rfl,h',tk',rfl,z,fun b o lb e=>?_⟩)
     refine mv.heap b o ?_ (Heap.get?_push_of_some _ (Heap.get?_push_of_some _ e))
     rw[Heap.size_push];simp only[List.mem_cons,List.not_mem_nil,or_false,not_or]
     exact⟨Nat.ne_of_lt lb,Nat.ne_of_lt (Nat.lt_succ_of_lt lb)⟩
   ·cases r₂ with
    | error e=>exact hr₂
    | ok f₂=>
     cases f₂ with
     | ret r=>
      obtain⟨rfl,h',tk,rfl,z1,z2⟩:=hr₂
      repeat (any_goals (first | assumption | wp_step))
      exact h _ _ z1 z2
     | _=>exact hr₂.elim
  | _=>exact hr'.elim
end
def CG(K:PySem.W.Frag)(ta:TA):TE:=fun σ H Q=>ta σ H fun vs H1=>∃(p:Addr) (ns:List Nat),vs=[.ref p]/\SqT K H1 p (ns.map fun(k:Nat)=>V.int (k:Int))/\(∀k∈ns,k<=31)/\ns.length<=17/\∀l,H1 l=none->Q (.ref l) (upd H1 l (.lst ((VL.sortI (Vr ns)).map V.int)))
section
variable {X:Cx} {a:Expr} {ta:TA} {p p2 pos pos2:Pos}
theorem R6(hc:X.calm=true)(hgl:Gl X "sorted")(hml:X.mg "sorted" = none)(hgr:Gl X "set")(hmr:X.mg "set" = none)(ha:PA X [a] ta)(hs:starEach [a] X.env=[(false,eval a X.env)]:=by rfl)
  (he:starEach [.Call (.Name "set" p2) [a] [] pos2] X.env=(false,eval (.Call (.Name "set" p2) [a] [] pos2) X.env)::starEach [] X.env:=by rfl) (hpl:(backTo pos (starEach [] X.env)).any (·.1)=false:=by rfl) :
  PE X (.Call (.Name "sorted" p) [.Call (.Name "set" p2) [a] [] pos2] [] pos) (CG X.K ta):=by
 intro pins s σ H Q I h
 refine wpAny_Call_Name_kw (Xy I hgl hml (u:=.builtin "sorted") (by decide +kernel) ?_)
 refine PyProof.Rows.callWith_builtin1 (id:="sorted") ?_ he hpl
 rw[he]
 show wpAny _ _ (spliced ((false,eval (.Call (.Name "set" p2) [a] [] pos2) X.env)::[])) _ _ s
 refine Calls.spliced_cons ?_
 refine Call_ (Xy I hgr hmr (u:=.type "set") (by decide +kernel) (PyProof.Rows.callWith_type1 (YT (ha pos2 pins s σ H _ I h) fun us s1 ⟨vs,H1,I1,r1,q1⟩=>?_) hs rfl))
 obtain⟨b,ns,e,hq,h31,hlen,q⟩:=q1
 subst e
 cases r1 with
 | cons r rr=>
  cases rr;cases r
  obtain⟨its,rv,pl,hz⟩:=I1.tuple hq
  rw[OB] at rv
  refine LV (items:=its.toArray) (ns:=ns) (I.ok.hd hc) pl (W8 rv) h31 hlen fun h' tk hS hk=>Calls.spliced_nil ?_
  obtain⟨o,es,ep,t,ho,hx,hd,he',hN,ht⟩:=hS
  have ls:=OL ns
  have lz:es.size=(Vr ns).length:=by
   have:=hN.length_eq
   simpa using this
  refine N0 (I.ok.hd hc) ho hx hd ⟨ht.tab,ht.plain,ht.fits⟩ ht.val (by omega) fun D h1 h2 tk2 out ns' e k1 k2 k3 k4 a1 a2 a3=>?_
  have I2:Inv X pins σ H1 { s1 with heap:=h1,toks:=tk2 }:=I1.kept (t':=tk2) fun b o z=>k1 b o (hk b o (Heap.lt_size z) z)
  have en:ns'=VL.sortI (Vr ns):=VL.sortI_eq (a2.trans hN) a3
  subst en
  have lo:(VL.sortI (Vr ns)).length<=17:=by rw[(VL.sortI_perm _).length_eq];omega
  refine⟨.ref D,_,I2.laid (t':=tk2) k3 k2 (show ObjOk X.prog X.w _ _ _ (.lst ((VL.sortI (Vr ns)).map V.int)) from⟨?_,out.toList,e,?_,?_⟩),rfl,q D (I2.hok.fresh k2)⟩
  ·rw[List.length_map,sizeLine_eq];omega
  ·exact Wg a1
  ·rw[Array.toArray_toList];exact k4
end
def inS(ns:List Int):Bool:=ns.all (fun k=>decide (0<=k)&&decide (k<=31))&&decide (ns.length<=17)
def gSN:PV->Option PV
 | .tup l=>(YH l).bind fun ns=>if inS ns=true then some (.lst (iL (VL.sortI (ns.foldl Vq [])))) else none
 | _=>none
theorem vm_sortedSetN{X:Cx}{a:Expr}{fa:XE}{p p2 pos pos2:Pos}(hc:X.calm=true)(hgl:Gl X "sorted")(hml:X.mg "sorted" = none)(hgr:Gl X "set")(hmr:X.mg "set" = none)(ha:VE X a fa)(hs:starEach [a] X.env=[(false,eval a X.env)]:=by rfl)
  (he:starEach [.Call (.Name "set" p2) [a] [] pos2] X.env=(false,eval (.Call (.Name "set" p2) [a] [] pos2) X.env)::starEach [] X.env:=by rfl) (hpl:(backTo pos (starEach [] X.env)).any (·.1)=false:=by rfl) :
  VM X (.Call (.Name "sorted" p) [.Call (.Name "set" p2) [a] [] pos2] [] pos) (Uo gSN fa):=
 PE.imp (R6 hc hgl hml hgr hmr (Zb ha Ze hs) hs he hpl) fun σ H Q ⟨s,l,env,e,k⟩=>by
  obtain⟨x,e1,e2⟩:=Zg e
  refine⟨fun _=>False,s,[x],fun _ z=>z.elim,env,by show(fa s).bind _=_;rw[e1];rfl,fun vs H1 fp s1 i1 _=>?_⟩
  obtain⟨v,rfl,iv⟩:=i1.one_inv
  cases x with
  | tup m=>
   unfold gSN at e2
   obtain⟨ns,e3,e4⟩:=Zg e2
   split at e4
   case isFalse=>cases e4
   rename_i hr
   cases e4;have em:=YL e3;subst em
   obtain⟨p,xs,rfl,hp,hi⟩:=iv.tup_inv
   obtain⟨rfl,rfl⟩:=hi.iL
   unfold inS at hr;simp only[Bool.and_eq_true,decide_eq_true_eq,List.all_eq_true] at hr
   have en:ns=(ns.map Int.toNat).map fun(k:Nat)=>(k:Int):=by
    rw[List.map_map]
    conv=>lhs;rw[<-List.map_id ns]
    refine List.map_congr_left fun z hz=>?_
    have:=hr.1 z hz
    show z=((z.toNat:Nat):Int)
    omega
   have ev:ns.map V.int=(ns.map Int.toNat).map fun(k:Nat)=>V.int (k:Int):=by
    rw[OB,<-en]
   have eo:Vr (ns.map Int.toNat)=ns.foldl Vq []:=by
    unfold Vr;rw[<-en]
   refine⟨p,ns.map Int.toNat,rfl,?_,?_,by rw[List.length_map];exact hr.2,fun q hq=>?_⟩
   ·rw[<-ev];exact .inl (.inl hp)
   ·intro j hj
    obtain⟨z,hz,rfl⟩:=List.mem_map.mp hj
    have:=hr.1 z hz
    omega
   ·rw[eo]
    refine k _ _ [q] (s1.trans (Same.new hq _)) (Is.lst Zs (Iss.ofInts _)) (by simp) fun r hr'=>?_
    rw[List.mem_singleton.mp hr']
    exact⟨Same.off s1 hq,by rw[Zs];exact True.intro⟩
  | _=>cases e2
end VW
namespace VW
open PySem PySem.Spec PyProof.Rows L2 VL
def CH(K:PySem.W.Frag)(ta:TA):TE:=fun σ H Q=>ta σ H fun vs H1=>∃(p:Addr) (ns:List Int),vs=[.ref p]/\SqL K H1 p (ns.map V.int)/\ns.length<=1000/\Q (.int ((ns.foldl step_dedup []).length:Int)) H1
theorem LW(ns:List Int):firstMet (fun i=>ns.getD i 0) ns.length=ns.foldl step_dedup []:=by
 unfold firstMet
 congr 1
 apply List.ext_getElem
 ·simp
 ·intro i h1 h2;simp[h2]
section
variable {X:Cx} {a:Expr} {ta:TA} {p p2 pos pos2:Pos}
theorem LX(hc:X.calm=true)(hgl:Gl X "len")(hml:X.mg "len" = none)(hgr:Gl X "set")(hmr:X.mg "set" = none)(ha:PA X [a] ta)(hs:starEach [a] X.env=[(false,eval a X.env)]:=by rfl)
  (he:starEach [.Call (.Name "set" p2) [a] [] pos2] X.env=(false,eval (.Call (.Name "set" p2) [a] [] pos2) X.env)::starEach [] X.env:=by rfl) (hpl:(backTo pos (starEach [] X.env)).any (·.1)=false:=by rfl) :
  PE X (.Call (.Name "len" p) [.Call (.Name "set" p2) [a] [] pos2] [] pos) (CH X.K ta):=by
 intro pins s σ H Q I h
 refine wpAny_Call_Name_kw (Xy I hgl hml (u:=.builtin "len") (by decide +kernel) ?_)
 refine PyProof.Rows.callWith_builtin1 (id:="len") ?_ he hpl
 rw[he]
 show wpAny _ _ (spliced ((false,eval (.Call (.Name "set" p2) [a] [] pos2) X.env)::[])) _ _ s
 refine Calls.spliced_cons ?_
 refine Call_ (Xy I hgr hmr (u:=.type "set") (by decide +kernel) (PyProof.Rows.callWith_type1 (YT (ha pos2 pins s σ H _ I h) fun us s1 ⟨vs,H1,I1,r1,q1⟩=>?_) hs rfl))
 obtain⟨b,ns,e,hq,hl,q⟩:=q1
 subst e
 cases r1 with
 | cons r rr=>
  cases rr;cases r
  obtain⟨its,rv,pl,hz⟩:=I1.list hq
  have hlen:its.length=ns.length:=by
   have:=rv.length
   rw[List.length_map] at this;exact this.symm
  have sb:scanBound=4096:=rfl
  refine call_set_list (ns:=ns) (items:=its.toArray) (I.ok.hd hc) pl.isList (W8 rv) (by rw[List.size_toArray];omega) fun h' tk hS hk=>Calls.spliced_nil ?_
  obtain⟨o,es,ep,t,ho,hx,hd,_,_,hb,hf,hn⟩:=hS
  have I2:Inv X pins σ H1 { s1 with heap:=h',toks:=tk }:=I1.kept (t':=tk) fun b o z=>hk b o (Heap.lt_size z) z
  refine PySem.call_len_set ho hx hd hf (by omega) ?_
  rw[hn,List.size_toArray,hlen,LW]
  exact⟨.int _,H1,I2.tok _ |>.tok _,⟨_,rfl⟩,q⟩
end
def gLS:PV->Option PV
 | .lst l=>(YH l).bind fun ns=>if ns.length<=1000 then some (.int ((ns.foldl step_dedup []).length:Int)) else none
 | _=>none
theorem ve_lenSet{X:Cx}{a:Expr}{fa:XE}{p p2 pos pos2:Pos}(hc:X.calm=true)(hgl:Gl X "len")(hml:X.mg "len" = none)(hgr:Gl X "set")(hmr:X.mg "set" = none)(ha:VE X a fa)(hs:starEach [a] X.env=[(false,eval a X.env)]:=by rfl)
  (he:starEach [.Call (.Name "set" p2) [a] [] pos2] X.env=(false,eval (.Call (.Name "set" p2) [a] [] pos2) X.env)::starEach [] X.env:=by rfl) (hpl:(backTo pos (starEach [] X.env)).any (·.1)=false:=by rfl) :
  VM X (.Call (.Name "len" p) [.Call (.Name "set" p2) [a] [] pos2] [] pos) (Uo gLS fa):=
 PE.imp (LX hc hgl hml hgr hmr (Zb ha Ze hs) hs he hpl) fun σ H Q ⟨s,l,env,e,k⟩=>by
  obtain⟨x,e1,e2⟩:=Zg e
  refine⟨fun _=>False,s,[x],fun _ z=>z.elim,env,by show(fa s).bind _=_;rw[e1];rfl,fun vs H1 fp s1 i1 _=>?_⟩
  obtain⟨v,rfl,iv⟩:=i1.one_inv
  cases x with
  | lst m=>
   unfold gLS at e2
   obtain⟨ns,e3,e4⟩:=Zg e2
   split at e4
   case isFalse=>cases e4
   rename_i hr
   cases e4;have em:=YL e3;subst em
   obtain⟨p,xs,fq,rfl,hp,hi,_⟩:=iv.lst_inv
   obtain⟨rfl,rfl⟩:=hi.iL
   exact⟨p,ns,rfl,.inl (.inl hp),hr,k _ _ [] s1 (by simp[Is]) (by simp) (by simp)⟩
  | _=>cases e2
end VW
namespace VX
open PySem PySem.Spec PyProof.Rows L2 VL
section
variable {X:Cx} {e:Expr} {f:XE} {p p2 pos:Pos} {tb:Str->Option Bool} {names:List Expr} {ds:List Addr} {ctx:Nat}
theorem OM:∀{ds:List Addr}{us:List Value},Vals (ds.map V.ref) us->us=ds.map Value.ref
 | [],us,r=>by cases r;rfl
 | d::ds,us,r=>by
  rw[List.map_cons] at r
  cases r with
  | cons r1 r2=>
   rw[List.map_cons,<-OM r2];cases r1;rfl
theorem ON:XQ X (.builtin "isinstance") (fun xs H Q=>∃(a C q:Addr) (ds:List Addr) (b:Bool) (o:Obj) (x:Addr),xs=[.ref a,.ref q]/\H q=some (.tup (ds.map V.ref))/\H a=some (.frz o (.own x))/\o.cls = .ref C/\o.dict=none/\(∃vs,o.data = .fields vs)/\QC X.K C/\PySem.W.kitAny X.K (.ref C) (ds.map Value.ref)=some b/\Q (.bl b) H):=by
 intro pins s σ H xs us Q I r h
 obtain⟨a,C,q,ds,b,o,x,rfl,hq,hH,hc,hd,hv,ec,hk,qq⟩:=h
 obtain⟨u,v,rfl,ru,rv⟩:=Mp r
 obtain rfl:u=Value.ref a:=ru
 obtain rfl:v=Value.ref q:=rv
 obtain⟨_,its,rr,oo,e1,e2,n,e3⟩:=(show ObjOk X.prog X.w H s.heap q (.tup (ds.map V.ref)) from I.hok q _ hq)
 obtain rfl:=OM rr
 obtain⟨cls,dd,data,sl⟩:=oo
 simp only at e2 e3
 subst e2 e3
 exact PySem.W.kia_tup (OG ec) I.kIn ⟨o,(I.hok a _ hH).1,hc,hd,hv⟩ e1 hk (fun z=>nomatch z) fun tk=>⟨.bl b,H,I.tok tk,rfl,qq⟩
theorem F5(hgi:Gl X "isinstance")(hm:X.mg "isinstance" = none)(he:VE X e f)(hn:PA X names (fun _ H Q=>Q (ds.map V.ref) H))(hl:ds.length<=100)
  (ht:∀n b,tb n=some b->∃C,PySem.W.nsIn X.K mainGlobals n=some (some (.ref C))/\QC X.K C/\PySem.W.kitAny X.K (.ref C) (ds.map Value.ref)=some b)
  (hst:starEach [e,.Tuple names ctx p2] X.env=(false,eval e X.env)::starEach [.Tuple names ctx p2] X.env:=by rfl) (hst2:starEach [.Tuple names ctx p2] X.env=(false,eval (.Tuple names ctx p2) X.env)::starEach [] X.env:=by rfl) (hpl:(backTo pos (starEach [.Tuple names ctx p2] X.env)).any (·.1)=false:=by rfl):VM X (.Call (.Name "isinstance" p) [e,.Tuple names ctx p2] [] pos) (Wj tb f):=
 PE.imp (UT ON hgi hm (by decide +kernel) (YE he (YE (Kw hn) XX (hs:=hst2)) (hs:=hst)) (by decide) (by decide) hst hpl) fun σ H Q ⟨s,l,env,e1,k⟩=>by
  unfold Wj at e1
  split at e1
  ·rename_i n hn
   obtain⟨b,hb,rfl⟩:=map_some e1
   obtain⟨C,hns,ec,hk⟩:=ht n b hb
   refine⟨fun _=>False,s,.exc n,fun _ z=>z.elim,env,hn,fun v H1 fp s1 i1 _=>?_⟩
   simp only[Is] at i1
   obtain⟨⟨ea,o,x,C',rfl,hH,hcl,hn',hd,hv⟩,_⟩:=i1
   rw[hns] at hn'
   cases hn'
   refine⟨by rw[List.length_map,sizeLine_eq];omega,fun q hq=>?_⟩
   have ne:ea≠q:=fun z=>by rw[z,hq] at hH;cases hH
   exact⟨ea,C,q,ds,b,o,x,rfl,Zs,by rw[upd_ne ne];exact hH,hcl,hd,hv,ec,hk,k _ _ [] (s1.trans (Same.new hq _)) (Is.bl _) List.nodup_nil fun p hp=>by simp at hp⟩
  ·cases e1
end
def WC(x:Str)(f:XE):XR:=fun s=>(f s).bind fun l=>if OF l=true then some x else none
section
variable {X:Cx} {O:List Nat} {E:XK} {B newId initId:String} {bmB:List Value} {C:Addr} {x y:Str} {e:Expr} {f:XE} {k:Nat} {p1 p2 p3 np cpos pos:Pos} {jj:Nat}
theorem QH(F:ExcBaseFacts B newId initId bmB)(hq:PySem.W.excIn X.K C bmB newId=true)(hg:Gl X x)(hm:X.mg x=some (.ref C))(hns:PySem.W.nsIn X.K mainGlobals x=some (some (.ref C)))(hcalm:X.calm=true)(DX:Jx X E)(hr:Room k X.A)(he:VE X e f)
  (hy:y.length<=1000:=by decide) (hdb:(x==("__debug__" : Str))=false:=by decide) (hst:starEach [.JoinedStr [.Constant (.str y) jj p1,.FormattedValue e (-1) none p2] p3] X.env=(false,eval (.JoinedStr [.Constant (.str y) jj p1,.FormattedValue e (-1) none p2] p3) X.env)::starEach [] X.env:=by rfl) :
  VX X O E (.Raise (some (.Call (.Name x np) [.JoinedStr [.Constant (.str y) jj p1,.FormattedValue e (-1) none p2] p3] [] cpos)) none pos) (WC x f):=
 PS.imp (Jy F hq hg hm hcalm DX (HB hr he hy) hdb hst) fun D σ H ⟨H0,fps,s,cls,r,e,q⟩=>by
  obtain⟨l,hl,e⟩:=Zg e
  split at e
  ·rename_i hs
   cases e
   refine⟨fun _=>False,s,l,fun _ z=>z.elim,r.env,hl,fun v H' fp sm i _=>?_⟩
   obtain⟨sh,rfl⟩:=JC i hs
   exact⟨sh,fun z=>⟨rfl,q C H' hns (r.same.trans sm)⟩⟩
  ·cases e
end
end VX
namespace HT
open PySem PySem.Spec PyProof.Rows
section
variable {prog:Program} {w:World} {A:Around} {E:Value->Shared->Prop} {s:Shared}
theorem getItem_tuple_whole{t sl:Addr}{items:Array Value}{vl vu:Value}{lo hi:Option Int}{Q:Value->Shared->Prop}(ht:IsTup s.heap t items)(hs:s.heap.IsSliceOf sl vl vu .none)(pl:IsPart vl lo)(pu:IsPart vu hi)
  (hw:sIx items.size 0 lo=0/\sIx items.size items.size hi=items.size) (h:Q (.ref t) s):wpAny (model prog w) A (getItem (.ref t) (.ref sl)) Q E s:=by
 obtain⟨os,hos,hcs,hds⟩:=id hs
 have hTs:s.TypeIs (.ref sl) "slice":=⟨os,hos,hcs⟩
 unfold getItem
 try with_reducible refine wpAny_holding ?_
 first | refine wpAny_bind (wpAny_pure ?_) | skip
 refine wpAny_bind (wpAny_sequenceKey ht.typeIs (by decide) ?_)
 refine wpAny_bind (wpAny_callSpecial?_slot (name:=Str.ofString "__getitem__") ht.typeIs PyProof.Rows.slot_tuple_getitem
  (wpAny_call_entry PyProof.Rows.slot_tuple_getitem ht.typeIs entry_tuple_getitem ?_ (args_tuple_getitem _ _)))
 show wpAny _ _ (Builtin.Tuple.tupleItemsOf (.ref t) >>= _) _ _ s
 refine wpAny_bind (tupleItemsOf_ ht ?_)
 refine wpAny_bind (wpAny_typeOf hTs ?_)
 rw[if_pos (by decide)]
 refine wpAny_bind (WL hs pl pu ?_)
 have hyes:(((sIx items.size 0 lo:Nat):Int)==0&&(1:Int)==1&&(sIx items.size items.size hi-sIx items.size 0 lo)==items.size)=true:=by
  rw[hw.1,hw.2]
  simp
 show wpAny _ _ (if(((sIx items.size 0 lo:Nat):Int)==0&&(1:Int)==1&&(sIx items.size items.size hi-sIx items.size 0 lo)==items.size)=true then _ else _) _ _ s
 rw[if_pos hyes];have hT:=ht.typeIs;unfold Builtin.Tuple.tupleIsExact
 refine wpAny_bind (wpAny_bind (wpAny_typeOf hT (wpAny_pure ?_)))
 show wpAny _ _ (if((Value.type "tuple"==Value.type "tuple")=true) then _ else _) _ _ s
 rw[if_pos (by decide)]
 refine wpAny_bind (wpAny_rule ?_)
 exact wpAny_pure ⟨_,rfl,wpAny_pure h⟩
theorem JI(items:Array Value):((List.range items.size).filterMap fun(k:Nat)=>items[(((items.size:Int)-1)+(k:Int)*(-1)).toNat]?)=items.toList.reverse:=by
 apply List.ext_getElem?
 intro i
 have all:∀(l:List Nat),(∀k∈l,k<items.size)->(l.filterMap fun(k:Nat)=>items[(((items.size:Int)-1)+(k:Int)*(-1)).toNat]?)=l.map fun k=>items.toList.getD (items.size-1-k) Value.none:=by
  intro l
  induction l with
  | nil=>intro _;rfl
  | cons a r ih=>
   intro h
   have ha:=h a (by simp)
   have e:(((items.size:Int)-1)+(a:Int)*(-1)).toNat=items.size-1-a:=by omega
   have lt:items.size-1-a<items.size:=by omega
   rw[List.filterMap_cons,e,Array.getElem?_eq_getElem lt];simp only[List.map_cons]
   rw[ih fun k hk=>h k (by simp[hk])]
   congr 1
   rw[List.getD_eq_getElem?_getD,Array.getElem?_toList,Array.getElem?_eq_getElem lt];rfl
 rw[all _ fun k hk=>List.mem_range.mp hk,List.getElem?_map]
 by_cases q:i<items.size
 ·rw[List.getElem?_range q,List.getElem?_reverse (by simpa using q)]
  simp only[Option.map_some,Array.length_toList]
  rw[List.getD_eq_getElem?_getD,Array.getElem?_toList,Array.getElem?_eq_getElem (by omega)];rfl
 ·rw[List.getElem?_eq_none (by simp;omega),List.getElem?_eq_none (by simp;omega)];rfl
theorem getItem_tuple_rev{t sl:Addr}{items:Array Value}{vs:Value}{Q:Value->Shared->Prop}(ht:IsTup s.heap t items)(hs:s.heap.IsSliceOf sl .none .none vs)(ps:IsPart vs (some (-1)))
  (h:Q (.ref s.heap.objs.size) { s with heap:=s.heap.push { cls:=.type "tuple",data:=.seq items.toList.reverse.toArray } }) (hsz:items.size<=sizeLine):wpAny (model prog w) A (getItem (.ref t) (.ref sl)) Q E s:=by
 have htake:sizeOk (.seq items.toList.reverse.toArray):=by
  show items.toList.reverse.toArray.size<=sizeLine
  simpa using hsz
 obtain⟨os,hos,hcs,hds⟩:=id hs
 have hTs:s.TypeIs (.ref sl) "slice":=⟨os,hos,hcs⟩
 unfold getItem
 try with_reducible refine wpAny_holding ?_
 first | refine wpAny_bind (wpAny_pure ?_) | skip
 refine wpAny_bind (wpAny_sequenceKey ht.typeIs (by decide) ?_)
 refine wpAny_bind (wpAny_callSpecial?_slot (name:=Str.ofString "__getitem__") ht.typeIs PyProof.Rows.slot_tuple_getitem
  (wpAny_call_entry PyProof.Rows.slot_tuple_getitem ht.typeIs entry_tuple_getitem ?_ (args_tuple_getitem _ _)))
 show wpAny _ _ (Builtin.Tuple.tupleItemsOf (.ref t) >>= _) _ _ s
 refine wpAny_bind (tupleItemsOf_ ht ?_)
 refine wpAny_bind (wpAny_typeOf hTs ?_)
 rw[if_pos (by decide)]
 refine wpAny_bind ?_
 unfold Builtin.Slice.sliceApplied Builtin.Slice.sliceFields
 refine wpAny_bind (wpAny_bind (wpAny_field hos hds (x:=.none) rfl (wpAny_bind (wpAny_field hos hds (x:=.none) rfl (wpAny_bind (wpAny_field hos hds (x:=vs) rfl (wpAny_pure ?_)))))))
 refine wpAny_bind (UD ps ?_)
 show wpAny _ _ (if((-1:Int)==0)=true then _ else _) _ _ s
 rw[if_neg (by decide)]
 refine wpAny_bind (slicePart_none (wpAny_bind (slicePart_none (wpAny_bind (wpAny_pure ?_)))))
 have pl:Builtin.Slice.slicePlaces ((items.size:Int)-1) (-1) (-1)=items.size:=by
  unfold Builtin.Slice.slicePlaces;rw[if_neg (by decide)]
  by_cases q:items.size=0
  ·rw[q];decide
  ·rw[if_pos (by omega),show(- (-1:Int))=1 by decide,Int.ediv_one];omega
 show wpAny _ _ (pure (((items.size:Int)-1),(-1:Int),Builtin.Slice.slicePlaces ((items.size:Int)-1) (-1) (-1))) _ _ s
 rw[pl]
 refine wpAny_pure ?_
 have hno:¬((((items.size:Int)-1)==0&&(-1:Int)==1&&items.size==items.size)=true):=by simp
 show wpAny _ _ (if(((items.size:Int)-1)==0&&(-1:Int)==1&&items.size==items.size)=true then _ else _) _ _ s
 rw[if_neg hno];simp only[JI]
 first
  | exact wpAny_bind (m:=Builtin.Tuple.tupleExact _) (wpAny_newObj_type (wpAny_pure ⟨_,rfl,wpAny_pure h⟩) htake)
  | exact wpAny_bind (m:=Builtin.Tuple.tupleExact _) (wpAny_newObj_type (wpAny_bind (wpAny_pure (wpAny_pure ⟨_,rfl,wpAny_pure h⟩))) htake)
  | exact wpAny_bind (wpAny_bind (m:=Builtin.Tuple.tupleExact _) (wpAny_newObj_type (wpAny_pure (wpAny_pure ⟨_,rfl,wpAny_pure h⟩)) htake))
  | exact wpAny_bind (wpAny_bind (m:=Builtin.Tuple.tupleExact _) (wpAny_newObj_type (wpAny_pure ⟨_,rfl,wpAny_pure h⟩) htake))
end
end HT
namespace VL
open PySem PySem.Spec PyProof.Rows L2
def Dh(K:PySem.W.Frag):V->Option Int->Option Int->Hp->VK->Prop:=fun x lo hi H Q=>∃a xs,x = .ref a/\SqT K H a xs/\
 ((HT.sIx xs.length 0 lo=0/\HT.sIx xs.length xs.length hi=xs.length)->Q (.ref a) H)/\(¬(HT.sIx xs.length 0 lo=0/\HT.sIx xs.length xs.length hi=xs.length)->∀p,H p=none->Q (.ref p) (upd H p (.tup (QY xs lo hi))))
theorem HJ{X:Cx}:Dy X (Dh X.K):=by
 intro pins s σ H x v vl vu lo hi sl Q I rx hs pl pu h
 obtain⟨a,xs,rfl,hx,q1,q2⟩:=h
 by_cases hw:HT.sIx xs.length 0 lo=0/\HT.sIx xs.length xs.length hi=xs.length
 ·cases rx
  obtain⟨its,r,ht,hz⟩:=I.tuple hx
  have hlen:its.toArray.size=xs.length:=by rw[List.size_toArray];exact r.length.symm
  refine⟨"tuple",_,PyProof.Rows.slot_tuple_getitem.lookup,ht.typeIs,?_⟩
  exact HT.getItem_tuple_whole ht hs pl pu (by rw[hlen];exact hw) ⟨.ref a,H,I,rfl,q1 hw⟩
 ·exact Fj pins s σ H (.ref a) v vl vu lo hi sl Q I rx hs pl pu ⟨a,xs,rfl,hx,hw,q2 hw⟩
def Yk(x:PV)(lo hi:Option Int):Option PV:=match x with
 | .tup l=>some (.tup (Xq l lo hi))
 | _=>none
section
variable {X:Cx} {e:Expr} {lo hi:Option Expr} {p2 pos:Pos} {fa:XE} {fl fh:XO}
theorem N1{l:List PV}{lo hi:Option Int}(h:HT.sIx l.length 0 lo=0/\HT.sIx l.length l.length hi=l.length):Xq l lo hi=l:=by
 unfold Xq;rw[h.1,h.2]
 simp
theorem Yq(ha:VE X e fa)(hl:VO X lo fl)(hh:VO X hi fh):VE X (.Subscript e (.Slice lo hi none p2) pos) (Xl Yk fa fl fh):=PE.imp (P6 HJ ha hl hh) fun σ H Q ⟨Rm,s,l,hd,env,e,k⟩=>by
 obtain⟨x,e1,e⟩:=Zg e
 obtain⟨a,e2,e⟩:=Zg e
 obtain⟨b,e3,e⟩:=Zg e
 refine⟨Rm,s,x,hd,env,e1,fun v H1 fp s1 i1 n1=>⟨Rm,s,a,fun p hp=>Same.mut s1 (hd p hp),env.mono s1,e2,fun H2 s2=>⟨Rm,s,b,fun p hp=>Same.mut (s1.trans s2) (hd p hp),env.mono (s1.trans s2),e3,fun H3 s3=>?_⟩⟩⟩
 cases x with
 | tup l=>
  unfold Yk at e;cases e
  have i3:=i1.mono (s2.trans s3)
  obtain⟨p,xs,rfl,hp,hi⟩:=i3.tup_inv
  obtain⟨f1,c,d⟩:=hi.cut a b
  refine⟨p,xs,rfl,SqT.of hp,fun hw=>?_,fun hne q hq=>k _ _ f1 (s1.trans (s2.trans (s3.trans (Same.new hq _)))) (Is.tup Zs (c.mono (Same.new hq _))) fun r hr=>n1 r (d r hr)⟩
  rw[hi.len] at hw;rw[N1 hw] at k
  exact k _ _ fp (s1.trans (s2.trans s3)) i3 n1
 | _=>cases e
end
def Di(K:PySem.W.Frag)(te:TE)(ts:TO):TE:=fun σ H Q=>te σ H fun x H1=>ts σ H1 fun o H2=>o=some (-1)/\∃(a:Addr) (xs:List V),x = .ref a/\SqT K H2 a xs/\∀p,H2 p=none->Q (.ref p) (upd H2 p (.tup xs.reverse))
section
variable {X:Cx} {e st:Expr} {te:TE} {ts:TO} {pos p2:Pos} {fa:XE}
theorem HK(he:PE X e te)(hst:PO X (some st) ts):PE X (.Subscript e (.Slice none none (some st) p2) pos) (Di X.K te ts):=by
 intro pins s σ H Q I h
 refine Subscript_ (YT (he pins s σ H _ I h) fun v s1 ⟨x,H1,I1,r1,q1⟩=>?_)
 refine wpAny_Slice ?_
 rw[evalPart_none]
 refine wpAny_pure (wpAny_pure ?_)
 refine YT (hst pins s1 σ H1 _ I1 q1) fun vs s3 hh=>?_
 obtain⟨o,H3,I3,po,rfl,a,xs,rfl,hx,q⟩:=hh
 cases r1
 have I4:Inv X pins σ H3 { s3 with heap:=s3.heap.push { cls:=.type "slice",data:=.fields #[.none,.none,vs] } }:=I3.kept (t':=s3.toks) fun b ob q=>Heap.get?_push_of_some _ q
 obtain⟨its,r,ht,hz⟩:=I4.tuple hx
 have hlen:=r.length
 show wpAny (model X.prog X.w) X.A (subscriptTail e (.Slice none none (some st) p2) (.ref a) (.ref s3.heap.objs.size)) (EP X pins σ Q) X.xe { s3 with heap:=s3.heap.push { cls:=.type "slice",data:=.fields #[.none,.none,vs] } }
 refine tail_any (T:="tuple") (ops:=[.ref a,.ref s3.heap.objs.size]) ht.typeIs PyProof.Rows.slot_tuple_getitem.lookup (HT.getItem_tuple_rev ht (Heap.IsSliceOf.new ..) po ?_ (by rw[List.size_toArray];omega)) (by with_unfolding_all rfl)
 refine⟨.ref _,_,I4.laid (t':=s3.toks) (o:=.tup xs.reverse) (fun b ob q=>Heap.get?_push_of_some _ q) (Nat.le_refl _) ?_,rfl,q _ (I4.hok.fresh (Nat.le_refl _))⟩
 exact⟨⟨by rw[List.length_reverse];exact hz,fun o e=>SS e⟩,_,r.reverse,IsTup.new _ _⟩
def OO:PV->Option PV
 | .tup m=>if ZJ m=true then some (.tup m.reverse) else none
 | _=>none
theorem HL(ha:VE X e fa)(hs:VE X st (Uo FG (eC (.int 1)))):VE X (.Subscript e (.Slice none none (some st) p2) pos) (Uo OO fa):=PE.imp (HK ha (Mr hs)) fun σ H Q ⟨Rm,s,l,hd,env,e,k⟩=>by
 obtain⟨x,e1,e⟩:=Zg e
 refine⟨Rm,s,x,hd,env,e1,fun v H1 fp s1 i1 n1=>⟨Rm,s,.int (-1),fun p hp=>Same.mut s1 (hd p hp),env.mono s1,rfl,fun u H2 fu s2 i2 _=>⟨-1,i2.int_inv.1,rfl,?_⟩⟩⟩
 cases x with
 | tup m=>
  have e:(if ZJ m=true then some (PV.tup m.reverse) else none)=some l:=e
  split at e
  case isFalse=>cases e
  rename_i pm
  cases e
  obtain⟨p,xs,rfl,hp,hi⟩:=(i1.mono s2).tup_inv
  have hi2:=hi.pureEq pm
  refine⟨p,xs,rfl,SqT.of hp,fun q hq=>?_⟩
  exact k _ _ [] (s1.trans (s2.trans (Same.new hq _))) (Is.tup Zs ((Iss.rev hi2).mono (Same.new hq _))) fun r hr=>by simp at hr
 | _=>cases e
end
def HM(K:PySem.W.Frag):V->List V->Hp->VK->Prop:=fun x vs H Q=>∃(p:Addr) (ns:List Int) (k:Int),x = .ref p/\vs=[.int k]/\SqT K H p (ns.map V.int)/\Q (.int ((ns.count k:Nat):Int)) H
theorem MS:∀{ns:List Int}{its:List Value},Vals (ns.map V.int) its->∀k:Int,its.countP (fun y=>match y with | .int c _=>c==k | _=>false)=ns.count k
 | [],its,r,k=>by cases r;rfl
 | n::ns,its,r,k=>by
  rw[List.map_cons] at r
  cases r with
  | cons r1 r2=>
   obtain⟨t,rfl⟩:=r1
   rw[List.countP_cons,MS r2 k,List.count_cons]
theorem LY{X:Cx}:Cn X "tuple.count" (HM X.K):=by
 intro pins s σ H x vs v us Q I rx rv h
 obtain⟨p,ns,k,rfl,rfl,hq,q⟩:=h
 cases rx
 obtain⟨u,rfl,ru⟩:=Us rv
 obtain⟨t,rfl⟩:=ru
 obtain⟨its,r,pl,hz⟩:=I.tuple hq
 obtain⟨o,ho,hc,n,hd⟩:=pl
 obtain⟨cls,dd,data,sl⟩:=o
 simp only at hc hd
 subst hc hd
 refine call_meets F.slot_tuple_count ⟨_,ho,rfl⟩ F.entry_tuple_count (F.args_tuple_count_2 _ _) (SeqAt.tuple_countAt p its.toArray n dd sl (.int k t) (fun y=>match y with | .int c _=>c==k | _=>false)) ⟨ho,fun y hy=>?_,?_⟩
 ·have hy':y∈its:=by simpa using hy
  obtain⟨j,hj,e⟩:=List.getElem_of_mem hy'
  have hl:=r.length;rw[List.length_map] at hl
  obtain⟨u2,hu,ru⟩:=r.get (i:=j) (x:=.int ns[j]) (by rw[List.getElem?_map,List.getElem?_eq_getElem (by omega)];rfl)
  obtain⟨t2,rfl⟩:=ru
  rw[List.getElem?_eq_getElem hj,e] at hu;cases hu
  exact SeqAt.EqAt.int_int _ _ _ _
 ·rw[show its.toArray.toList=its by simp,MS r k]
  exact⟨.int _,H,I.tok _,⟨_,rfl⟩,q⟩
def SI:PV->PV->Option PV
 | .tup l,.int k=>(YH l).map fun ns=>PV.int ((ns.count k:Nat):Int)
 | _,_=>none
section
variable {X:Cx} {o e:Expr} {fo fe:XE} {apos cpos:Pos}
theorem LZ(ho:VE X o fo)(he:VE X e fe)
  (hbase:attributeBase o "count" X.env (eval o X.env)=eval o X.env:=by rfl)
  (hfew:((backTo cpos (starEach [e] X.env)).all (fun x=>!x.1)&&(backToKw cpos (keywordEach [] X.env)).all (fun x=>x.1.isSome)
   &&decide (([e]:List Expr).length+([]:List Keyword).length+(if([]:List Keyword).isEmpty then 0 else 1)<30))=true:=by rfl)
  (hline:(apos.endLine==cpos.line)=true:=by rfl) (hs:starEach [e] X.env=(false,eval e X.env)::starEach [] X.env:=by rfl) (hplain:(backTo cpos (starEach [] X.env)).any (·.1)=false:=by rfl) :
  VE X (.Call (.Attribute o "count" apos) [e] [] cpos) (Zf SI fo fe):=
 PE.imp (Sh F.plainAttrs_tuple F.slot_tuple_count F.type_tuple_count LY ho (Zb he Ze hs) hbase hfew hline hs hplain) fun σ H Q ⟨Rm,s,l,hd,env,e,k⟩=>by
  obtain⟨x',y',e1,e2,e⟩:=UY e
  refine⟨Rm,s,x',hd,env,e1,fun v H1 fp s1 i1 n1=>?_⟩
  unfold SI at e
  split at e
  ·obtain⟨ns,e3,rfl⟩:=map_some e
   have em:=YL e3;subst em
   obtain⟨p,xs,rfl,hp,hi⟩:=i1.tup_inv
   obtain⟨rfl,rfl⟩:=hi.iL
   refine⟨.inr (.inr (.inr (.inr ⟨rfl,_,hp⟩))),Rm,s,[_],fun p hp=>Same.mut s1 (hd p hp),env.mono s1,by show(fe s).bind _=_;rw[e2];rfl,fun vs H2 fp2 s2 i2 _=>?_⟩
   obtain⟨w,rfl,iw⟩:=i2.one_inv
   obtain⟨rfl,_⟩:=iw.int_inv
   exact⟨p,ns,_,rfl,rfl,SqT.of (s2 _ _ hp),k _ _ [] (s1.trans s2) (Is.int _) fun r hr=>by simp at hr⟩
  ·cases e
end
end VL
namespace VX
open PySem PySem.Spec PyProof.Rows L2 VL
structure Q8(K:PySem.W.Frag)(mg:Str->Option Value)(Ct Ce Cb:Addr):Prop where
 t:QN "NoTree" K mg Ct Cb
 e:QN "NoEnds" K mg Ce Cb
def Ip(cx:Str):Str->Option Bool:=fun n=>if n = "NoTree" then some (decide (cx = "NoTree")) else if n = "NoEnds" then some (decide (cx = "NoEnds")) else none
def L4:Str->Option Bool:=fun n=>if n = "NoTree" then some true else if n = "NoEnds" then some true else none
def R7(cs:List Str):Str->Option Bool:=fun n=>if n = "NoTree" then some (decide (("NoTree" : Str)∈cs)) else if n = "NoEnds" then some (decide (("NoEnds" : Str)∈cs)) else none
section
variable {X:Cx} {Ct Ce Cb:Addr} {e:Expr} {f:XE} {cx:Str} {p p2 pos:Pos}
theorem JJ(Q:Q8 X.K X.mg Ct Ce Cb)(hgi:Gl X "isinstance")(hm:X.mg "isinstance" = none)(he:VE X e f)(hcx:cx∈nms)(hgc:Gl X cx)(hdb:(cx==("__debug__" : Str))=false:=by decide)
  (hst:starEach [e,.Name cx p2] X.env=(false,eval e X.env)::starEach [.Name cx p2] X.env:=by rfl) (hst2:starEach [.Name cx p2] X.env=(false,eval (.Name cx p2) X.env)::starEach [] X.env:=by rfl) (hpl:(backTo pos (starEach [.Name cx p2] X.env)).any (·.1)=false:=by rfl):VM X (.Call (.Name "isinstance" p) [e,.Name cx p2] [] pos) (Wj (Ip cx) f):=by
 obtain⟨D,hD,hk⟩:=Q.t.cls cx hcx
 obtain⟨D',hD',hk'⟩:=Q.e.cls cx hcx
 rw[hD] at hD'
 cases hD'
 refine JD hgi hm he (.own D) (MP hgc hD hdb) (fun n b h=>?_) hst hst2 hpl
 unfold Ip at h
 split at h
 ·rename_i hn
  subst hn;cases h
  exact⟨Ct,Q.t.no,Q.t.ec,hk⟩
 ·split at h
  ·rename_i hn
   subst hn;cases h
   exact⟨Ce,Q.e.no,Q.e.ec,hk'⟩
  ·cases h
theorem HN(Q:Q8 X.K X.mg Ct Ce Cb)(hgi:Gl X "isinstance")(hm:X.mg "isinstance" = none)(he:VE X e f)(hgc:Gl X "ValueError")(hv:X.mg "ValueError" = none)
  (hst:starEach [e,.Name "ValueError" p2] X.env=(false,eval e X.env)::starEach [.Name "ValueError" p2] X.env:=by rfl) (hst2:starEach [.Name "ValueError" p2] X.env=(false,eval (.Name "ValueError" p2) X.env)::starEach [] X.env:=by rfl) (hpl:(backTo pos (starEach [.Name "ValueError" p2] X.env)).any (·.1)=false:=by rfl):VM X (.Call (.Name "isinstance" p) [e,.Name "ValueError" p2] [] pos) (Wj L4 f):=by
 refine JD hgi hm he (.ty "ValueError") (HC hgc hv (by decide +kernel)) (fun n b h=>?_) hst hst2 hpl
 unfold L4 at h
 split at h
 ·rename_i hn
  subst hn;cases h
  exact⟨Ct,Q.t.no,Q.t.ec,Q.t.ve⟩
 ·split at h
  ·rename_i hn
   subst hn;cases h
   exact⟨Ce,Q.e.no,Q.e.ec,Q.e.ve⟩
  ·cases h
inductive Dj(X:Cx):List Expr->List Str->Prop
 | nil:Dj X [] []
 | cons {cx:Str} {p:Pos} {es:List Expr} {cs:List Str}:Gl X cx->cx∈nms->(cx==("__debug__" : Str))=false->Dj X es cs->Dj X (.Name cx p::es) (cx::cs)
theorem JK(Q:Q8 X.K X.mg Ct Ce Cb):∀{es:List Expr}{cs:List Str},Dj X es cs->∃ds:List Addr,ds.length=cs.length/\PA X es (fun _ H Q=>Q (ds.map V.ref) H)/\PySem.W.kitAny X.K (.ref Ct) (ds.map Value.ref)=some (decide (("NoTree" : Str)∈cs))/\PySem.W.kitAny X.K (.ref Ce) (ds.map Value.ref)=some (decide (("NoEnds" : Str)∈cs))
 | _,_,.nil=>⟨[],rfl,XX,rfl,rfl⟩
 | _,_,.cons (cx:=cx) (p:=p) (es:=es) (cs:=cs) hg hc hdb h=>by
  obtain⟨ds,l,pa,k1,k2⟩:=JK Q h
  obtain⟨D,hD,hk⟩:=Q.t.cls cx hc
  obtain⟨D',hD',hk'⟩:=Q.e.cls cx hc
  rw[hD] at hD'
  cases hD'
  refine⟨D::ds,by simp[l],YE (MP hg hD hdb) pa (hs:=rfl),?_,?_⟩
  ·rw[List.map_cons]
   unfold PySem.W.kitAny;rw[hk]
   by_cases q:cx = "NoTree"
   ·subst q;simp
   ·have:¬(("NoTree" : Str)=cx):=fun z=>q z.symm
    rw[decide_eq_false q]
    simp only
    rw[k1];simp[this]
  ·rw[List.map_cons]
   unfold PySem.W.kitAny;rw[hk']
   by_cases q:cx = "NoEnds"
   ·subst q;simp
   ·have:¬(("NoEnds" : Str)=cx):=fun z=>q z.symm
    rw[decide_eq_false q]
    simp only
    rw[k2];simp[this]
theorem MT{names:List Expr}{cs:List Str}{ctx:Nat}(Q:Q8 X.K X.mg Ct Ce Cb)(hgi:Gl X "isinstance")(hm:X.mg "isinstance" = none)(he:VE X e f)(hn:Dj X names cs)(hl:cs.length<=100)
  (hst:starEach [e,.Tuple names ctx p2] X.env=(false,eval e X.env)::starEach [.Tuple names ctx p2] X.env:=by rfl) (hst2:starEach [.Tuple names ctx p2] X.env=(false,eval (.Tuple names ctx p2) X.env)::starEach [] X.env:=by rfl) (hpl:(backTo pos (starEach [.Tuple names ctx p2] X.env)).any (·.1)=false:=by rfl):VM X (.Call (.Name "isinstance" p) [e,.Tuple names ctx p2] [] pos) (Wj (R7 cs) f):=by
 obtain⟨ds,l,pa,k1,k2⟩:=JK Q hn
 refine F5 hgi hm he pa (by omega) (fun n b h=>?_) hst hst2 hpl
 unfold R7 at h
 split at h
 ·rename_i hn
  subst hn;cases h
  exact⟨Ct,Q.t.no,Q.t.ec,k1⟩
 ·split at h
  ·rename_i hn
   subst hn;cases h
   exact⟨Ce,Q.e.no,Q.e.ec,k2⟩
  ·cases h
end
section
variable {X:Cx} {O W:List Nat} {Ct Ce Cb:Addr} {k n i:Nat} {x nm:Str} {ps:List Str} {R:List PV->Option Str} {e:Expr} {es:List Expr} {fs:List XE} {p cp ep np hp pos:Pos} {b₀:Stmt} {suite:List Stmt} {f:XS} {Yh:List ExceptHandler}
theorem HP(Q:Q8 X.K X.mg Ct Ce Cb)(CX:CalX X.prog X.w X.K X.mg X.base x ps (spX X.K R n) k)(hR:∀ls m,R ls=some m->m = "NoTree"\/m = "NoEnds")(hr:Room k X.A)(hg:Gl X x)(ha:VA X.nox (e::es) fs)(hx:X.ex=[])(hst:X.stack=X.env::X.outer)(hfr:X.env.frame=some X.env.locals)
  (hN:X.N.Nodup) (hi:X.N[i]?=some nm) (hk:X.env.scope.names.lookup nm=some .local) (hgc:Gl X "PurseError")
  (hs:∀e,VSs (Cx.mark X e) O W (b₀::suite) f) (hiO:i∉O) (hsw:swapsWith (.Call (.Name x p) (e::es) [] cp) none ep.line X.env=pure false:=by rfl) (hn:fs.length=n:=by rfl)
  (hdb:(x==("__debug__" : Str))=false:=by decide) (he:starEach (e::es) X.env=(false,eval e X.env)::starEach es X.env:=by rfl) (hpl:(backTo cp (starEach es X.env)).any (·.1)=false:=by rfl) :
  VS X O (i::W) (.Try [.Expr (.Call (.Name x p) (e::es) [] cp) ep] (.ExceptHandler (some (.Name "PurseError" np)) (some nm) (b₀::suite) hp::Yh) [] [] pos) (Hz R fs i f):=
 F4 CX hr hg ha hx hst hfr hN hi hk hgc Q.t.mgb Q.t.kb (fun ls m h=>by
  rcases hR ls m h with rfl | rfl
  ·exact⟨Ct,Q.t.no,Q.t.ec.kt,Q.t.bl⟩
  ·exact⟨Ce,Q.e.no,Q.e.ec.kt,Q.e.bl⟩) hs hiO hsw hn hdb (by decide) he hpl
end
def Tv(f:XR):Prop:=∀s m,f s=some m->m = "NoTree"\/m = "NoEnds"
theorem QI{x:Str}{f:XE}(h:x = "NoTree"\/x = "NoEnds"):Tv (WC x f):=fun s m e=>by
 obtain⟨l,_,e⟩:=Zg e
 split at e
 ·cases e;exact h
 ·cases e
theorem Tw:Tv Nm:=fun s m e=>nomatch e
theorem OP{fc:XT}{f g:XR}(hf:Tv f)(hg:Tv g):Tv (LK fc f g):=fun s m e=>by
 obtain⟨c,_,e⟩:=Zg e
 split at e
 ·exact hf s m e
 ·exact hg s m e
theorem T5{f1:XR}{f:XS}{g:XR}(hf:Tv f1)(hg:Tv g):Tv (Uq f1 f g):=fun s m e=>by
 unfold Uq at e
 split at e
 ·rename_i c hc
  cases e
  exact hf s _ hc
 ·split at e
  ·exact hg _ m e
  ·cases e
theorem JL{k:Nat}{f:XR}(h:Tv f):∀ls m,DG k f ls=some m->m = "NoTree"\/m = "NoEnds":=fun ls m e=>h _ m e
end VX
namespace PW
open PySem L2 VL VX
noncomputable def SK:XS:=(ZY (eP (Zc Z2 [(Zw 1 [] (ZO [(eC (.int 6))]) (.one 0) ZG (Zc Z2 [(Zw 1 [0] (ZO [(eC (.int 6))]) (.one 0) ZG (Zc VG [(Zf (Z8 true) (Zf ZX (Zf Xd (Za 1) (Za 0)) (eC (.int 3))) (eC (.int 0)))]))]))])))
noncomputable def Tx:List PV->Option PV:=X5 0 SK
noncomputable def Uh:XS:=(Zm (Xc (xB (Zf (Z8 false) (Zc Zj [(Zc ZQ [(Za 0),(eC (.int 0))]),(eC (.int 337)),(eC (.int 16))]) (eC (.int 3)))) (ZY (Zc Tx [])) ZH)
  (Zm (Xc (xB (Zf (Z8 false) (Zf ZX (Zc ZQ [(Za 0),(eC (.int 0))]) (eC (.int 2))) (eC (.int 1)))) (ZY (Zc XH [(Zc ZQ [(Za 0),(eC (.int 1))]),(Za 1),(Za 2)])) ZH)
  (Zm (Zn 3 (eP (Zf ZK (Za 1) (Zc Zj [(Zc ZQ [(Za 0),(eC (.int 0))]),(eC (.int 1)),(Zc Zq [(Za 1)])]))))
  (Zm (Zn 4 (Zw 1 [3] (ZO [(Za 3)]) (.one 0) ZG (Zf Rn (YC [(eC (.int 0))]) (Za 1))))
  (Zm (Zn 5 (eP (eC (.int 0))))
  (Zm (Xf [4] (Xw [(eC (.int 1)),(eC (.int 13))]) (.one 6) (Zm (Zn 7 (Zc ZQ [(Za 0),(Za 6)]))
  (Zm (Zn 8 (Zc Zj [(Za 7),(eC (.int 13)),(Za 3)]))
  (Zm (Zn 9 (eP (Zf ZX (Zf ZD (Zf ZD (Za 8) (eC (.int 1))) (Zc Zj [(Za 7),(eC (.int 17)),(Zc U3 [(eC (.int 1)),(Zf Xd (Za 3) (eC (.int 1)))])])) (Za 3))))
  (Zm (Xc (xB (Zf UG (Za 6) (Za 3))) (Zm (Zn 8 (eP (Za 6)))
  (Zn 9 (Zc Zj [(Za 7),(eC (.int 5)),(Za 6)]))) ZH)
  (Zm (Zn 10 (eP (VC (Zf UH (Za 3) (eC (.int 1))) (VC (Zf UG (Za 5) (Za 2)) (Zf UH (Zc Zj [(Za 7),(eC (.int 3)),(eC (.int 3))]) (eC (.int 0)))))))
  (Xc (UR (xB (Zf UG (Za 6) (Za 3))) (xB (Za 10))) (Zm (Yo 4 (Za 8) (Za 9) (Zf ZD (Zf ZK (Zf ZK (Za 4) (Za 8)) (Za 9)) (eC (.int 1))))
  (Zm (Yo 4 (Za 9) (Za 8) (Zf ZK (Zf ZK (Za 4) (Za 8)) (Za 9)))
  (Zn 5 (eP (Zf ZD (Za 5) (eC (.int 1))))))) ZH)))))))
  (Zm (Zn 11 (Zc Zj [(Zc ZQ [(Za 0),(eC (.int 0))]),(eC (.int 7)),(Za 3)]))
  (Zm (Zn 4 (Zw 1 [11] (Y4 (Zf Oq (Xl Xr (Za 4) (YZ (Za 11)) XM) (Xl Xr (Za 4) XM (YZ (Za 11))))) (.one 0) ZG (Zf Uw (Xl Xr (Za 0) (YZ (Za 1)) XM) (Xl Xr (Za 0) XM (YZ (Za 1))))))
  (ZY (eP (Zc Z2 [(Zw 1 [] (Y4 (Za 4)) (.one 0) ZG (Zc Z2 [(Za 0)]))])))))))))))
noncomputable def Ui:List PV->Option PV:=X5 12 Uh
noncomputable def WD:XS:=(Zm (Zn 3 (Uo YR (Zc Zq [(Za 0)])))
  (Zm (Xf [3] (WI (Za 2)) (.one 4) (Zm (Zn 5 (eP (Zf ZK (Za 1) (Za 4))))
  (Zm (Zn 6 (eP (Zf ZK (Za 3) (Zf ZK (Za 5) (eC (.int 0))))))
  (Zm (Zn 7 (eP (Zf ZK (Za 3) (Zf ZK (Za 5) (eC (.int 1))))))
  (Zn 3 (Zw 1 [6,7] (Y4 (Za 3)) (.one 0) ZG (eP (Nl (xB (Zf (Z8 false) (Za 0) (Za 2))) (Za 1) (Za 0)))))))))
  (ZY (Za 3))))
noncomputable def YM:List PV->Option PV:=X5 8 WD
noncomputable def Uj:XS:=(Zm (Zn 2 (Zc Yf [(Za 0)]))
  (Zm (Xc (UR (xB (Zf (Z8 true) (Zc Zq [(Za 1)]) (Zf Xd (Zc Zq [(Za 0)]) (eC (.int 1))))) (YW (xB (Zc Vb [(Zw 1 [2] (WI (Za 1)) (.one 0) ZG (FO FC UG (eC (.int 0)) (Za 0) (Zc Zq [(Za 1)])))])))) (ZY (eP (eC (.bl false)))) ZH)
  (ZY (eP (VC (Zf (Z8 false) (Zc Wo [(Za 1)]) (Uo VW.gSN (Za 1))) (Zf (Z8 false) (Uo VW.gLS (Zc YM [(Za 0),(Za 2),(Za 1)])) (eC (.int 1))))))))
noncomputable def Yg:List PV->Option PV:=X5 3 Uj
noncomputable def YS:List PV->Option Str:=DG 4 (Uq (LK (YW (xB (Zc Yg [(Za 0),(Za 1)]))) (WC "NoTree" (Za 1)) Nm) (Xc (YW (xB (Zc Yg [(Za 0),(Za 1)]))) WK ZH)
  (Uq Nm (Zn 3 (Zw 2 [1] (VJ true [(Zc Yf [(Za 0)])]) (.many [0,1]) (xB (Zf (U5 true) (Za 0) (Za 2))) (eP (Za 1))))
  (Uq (LK (UR (xB (Zf (Z8 true) (Zc Zq [(Za 2)]) (Zc Zq [(Za 3)]))) (YW (xB (Zc Vb [(Zw 2 [] (Rf false true [(Za 2),(Za 3)]) (.many [0,1]) ZG (Zf (U5 false) (Za 0) (Xl Yk (Za 1) XM (YZ (eC (.int 2))))))])))) (WC "NoEnds" (Za 2)) Nm) (Xc (UR (xB (Zf (Z8 true) (Zc Zq [(Za 2)]) (Zc Zq [(Za 3)]))) (YW (xB (Zc Vb [(Zw 2 [] (Rf false true [(Za 2),(Za 3)]) (.many [0,1]) ZG (Zf (U5 false) (Za 0) (Xl Yk (Za 1) XM (YZ (eC (.int 2))))))])))) WK ZH)
  Nm)))
theorem R8:∀ls m,YS ls=some m->m = "NoTree"\/m = "NoEnds":=JL (T5 (OP (QI (by decide)) Tw) (T5 Tw (T5 (OP (QI (by decide)) Tw) Tw)))
noncomputable def Vf:XS:=(Zm (Xc (YW (xB (Zc Yg [(Za 0),(Za 1)]))) WK ZH)
  (Zm (Zn 3 (Zw 2 [1] (VJ true [(Zc Yf [(Za 0)])]) (.many [0,1]) (xB (Zf (U5 true) (Za 0) (Za 2))) (eP (Za 1))))
  (Zm (Xc (UR (xB (Zf (Z8 true) (Zc Zq [(Za 2)]) (Zc Zq [(Za 3)]))) (YW (xB (Zc Vb [(Zw 2 [] (Rf false true [(Za 2),(Za 3)]) (.many [0,1]) ZG (Zf (U5 false) (Za 0) (Xl Yk (Za 1) XM (YZ (eC (.int 2))))))])))) WK ZH)
  (ZY (eP (Zc Z2 [(Zw 1 [2] (ZO [(Zc Zq [(Za 0)])]) (.one 0) ZG (Zf SI (Za 1) (Za 0)))]))))))
noncomputable def Y5:List PV->Option PV:=X5 4 Vf
noncomputable def Vg:XS:=(Zm (Zn 3 (eP (Zc Zq [(Zc Z4 [(Za 0)])])))
  (Zm (Zn 4 (Zc Zj [(Za 2),(eC (.int 67)),(eC (.int 4))]))
  (Zm (Zn 5 (Zc Zj [(Za 2),(eC (.int 71)),(Zf ZD (Zc Zq [(Za 1)]) (eC (.int 1)))]))
  (Zm (Xc (xB (Zf (Z8 false) (Za 4) (eC (.int 0)))) (ZY (eP (Zf Xi (Xl Yk (Za 1) XM (YZ (Za 5))) (Xl Yk (Za 1) (YZ (Zf ZD (Za 5) (eC (.int 1)))) XM)))) ZH)
  (Zm (Xc (xB (Zf (Z8 false) (Za 4) (eC (.int 1)))) (ZY (eP (Zc Z2 [(Zc XI [(Zf Xi (Zf Xi (Xl Yk (Za 1) XM (YZ (Za 5))) (Xh [(Zc Zj [(Za 2),(eC (.int 73)),(Zf ZD (Za 3) (eC (.int 1)))])])) (Xl Yk (Za 1) (YZ (Zf ZD (Za 5) (eC (.int 1)))) XM))])]))) ZH)
  (Zm (Xc (xB (Zf (Z8 false) (Za 4) (eC (.int 2)))) (ZY (eP (Zc Z2 [(Zc XI [(Zf Xi (Za 1) (Xh [(Zc Zj [(Za 2),(eC (.int 79)),(Zf ZD (Za 3) (eC (.int 1)))])]))])]))) ZH)
  (ZY (eP (Uo OO (Za 1))))))))))
noncomputable def Xu:List PV->Option PV:=X5 6 Vg
noncomputable def Vh:XS:=(Zm (Dd (Hz YS [(Za 0),(Za 1),(Za 2)] 3 (Zm (Xc (UR (YW (xB (Wj L4 (Za 3)))) (xB (Wj (R7 (["Apart","NoName","NoOrder","NoRow","NoText"]:List Str)) (Za 3)))) (ZY (YC [(eP (eC (.str "bad")))])) ZH)
  (Zm (Xc (xB (Wj (R7 (["NoTotal","NoWeb","NotSettled","TooMany"]:List Str)) (Za 3))) (ZY (YC [(eP (eC (.str "bad")))])) ZH)
  (ZY (YC [(eP (Wj (Ip "NoTree") (Za 3))),(eP (Wj (Ip "NoEnds") (Za 3)))]))))) (Cs (Zc Y5 [(Za 0),(Za 1),(Za 2)])))
  (ZY (YC [])))
noncomputable def Z5:List PV->Option PV:=X5 4 Vh
noncomputable def WE:XS:=(Zm (Zn 2 (Zc Z4 [(Za 0)]))
  (Zm (Xc (UR (xB (Zf (Z8 true) (Zc Wo [(Za 1)]) (Uo VW.gSN (Za 1)))) (UR (xB (Zf (Z8 true) (Zc Zq [(Za 1)]) (Zf Xd (Zc Zq [(Za 0)]) (eC (.int 1))))) (YW (xB (Zc Vb [(Zw 1 [2] (WI (Za 1)) (.one 0) ZG (FO FC UG (eC (.int 0)) (Za 0) (Zc Zq [(Za 1)])))]))))) (ZY (eP (eC (.bl false)))) ZH)
  (Zm (Zn 3 (Uo YR (Zc Zq [(Za 0)])))
  (Zm (Xf [] (WI (Za 1)) (.one 4) (Zm (U9 (.many [5,6]) (Zf ZK (Za 2) (Za 4)))
  (Zm (Xc (xB (Zf (Z8 false) (Zf ZK (Za 3) (Za 5)) (Zf ZK (Za 3) (Za 6)))) (ZY (eP (eC (.bl false)))) ZH)
  (Zm (Zn 7 (eP (Zf ZK (Za 3) (Za 5))))
  (Zn 3 (Zw 1 [7,3,6] (Y4 (Za 3)) (.one 0) ZG (eP (Nl (xB (Zf (Z8 false) (Za 0) (Za 1))) (Zf ZK (Za 2) (Za 3)) (Za 0)))))))))
  (ZY (eP (eC (.bl true))))))))
noncomputable def Y6:List PV->Option PV:=X5 8 WE
noncomputable def SM:XS:=(Zm (Zn 2 (Zc WS [(Za 0),(Za 1)]))
  (Zm (Zn 3 (Zc WU [(Za 0),(Za 2),(Za 1)]))
  (Zm (Zn 4 (Zc Y5 [(Za 0),(Za 2),(Za 3)]))
  (Zm (Xc (UR (YW (xB (Zc Xt [(Za 4),(Zc Zq [(Za 0)])]))) (xB (Zf (Z8 true) (Za 4) (Zc X2 [(Za 0),(Za 3)])))) (ZY (eP (eC (.bl false)))) ZH)
  (Zm (Zn 5 (Zc Xu [(Za 0),(Za 2),(Za 1)]))
  (Zm (Zn 6 (eP (Zf Xi (Za 3) (Xh [(eC (.int 0))]))))
  (Zm (Xc (R1 (xB (Zf (Z8 false) (Zc Zj [(Za 1),(eC (.int 83)),(eC (.int 2))]) (eC (.int 0)))) (xB (Zf UH (Zc Zq [(Za 3)]) (eC (.int 0))))) (Zm (Zn 7 (Zc Zj [(Za 1),(eC (.int 89)),(Zc Zq [(Za 3)])]))
  (Zn 6 (eP (Zf Xi (Xl Yk (Za 3) XM (YZ (Za 7))) (Xl Yk (Za 3) (YZ (Zf ZD (Za 7) (eC (.int 1)))) XM))))) ZH)
  (Zm (Xc (R1 (YW (xB (Zc Y6 [(Za 0),(Za 5)]))) (xB (Zf (Z8 true) (Zc Z5 [(Za 0),(Za 5),(Za 6)]) (YC [(eC (.bl true)),(eC (.bl false))])))) (ZY (eP (eC (.bl false)))) ZH)
  (Zm (Xc (xB (Zf (Z8 true) (Zc Z5 [(Za 0),(Za 2),(Za 6)]) (YC [(eC (.bl false)),(eC (.bl true))]))) (ZY (eP (eC (.bl false)))) ZH)
  (Zm (Xc (R1 (xB (Zf UH (Zc Zq [(Za 3)]) (eC (.int 0)))) (xB (Zf UH (Zc Zq [(Za 0)]) (eC (.int 2))))) (Zm (Zn 7 (Zc Zj [(Za 1),(eC (.int 97)),(Zc Zq [(Za 3)])]))
  (Zm (Zn 8 (eP (Zf ZK (Zw 1 [7,0,2] (ZO [(Zc Zq [(Za 0)])]) (.one 0) (xB (Zf (U5 true) (Za 0) (Zf ZK (Zc ZW [(Za 2),(Za 3)]) (Za 1)))) (Za 0)) (eC (.int 0)))))
  (Xc (xB (Zf (Z8 true) (Zc Z5 [(Za 0),(Za 2),(Zf Xi (Zf Xi (Xl Yk (Za 3) XM (YZ (Za 7))) (Xh [(Za 8)])) (Xl Yk (Za 3) (YZ (Zf ZD (Za 7) (eC (.int 1)))) XM))]) (YC [(eC (.bl false)),(eC (.bl true))]))) (ZY (eP (eC (.bl false)))) ZH))) ZH)
  (ZY (eP (eC (.bl true))))))))))))))
noncomputable def Uk:List PV->Option PV:=X5 9 SM
noncomputable def MU:XS:=(Zm (Zn 1 (Zc Ui [(Za 0),(YC [(eC (.int 1)),(eC (.int 2)),(eC (.int 3)),(eC (.int 4)),(eC (.int 5))]),(eC (.int 8))]))
  (Zm (Xf [] (Y4 (Zf Uw (YC [(Zc ZQ [(Za 0),(eC (.int 12))])]) (Xl Xr (Za 0) (YZ (eC (.int 13))) (YZ (eC (.int 33)))))) (.one 2) (Xc (YW (xB (Zc Uk [(Za 1),(Za 2)]))) (ZY (eP (eC (.bl false)))) ZH))
  (ZY (eP (eC (.bl true))))))
noncomputable def D_law:List PV->Option PV:=X5 3 MU
end PW
namespace L2
open PySem PySem.Spec PyProof.Rows
def YY(X:Cx)(N':List Str)(scope:Scope)(cl:List (Str×Addr))(C:Addr)(s:Shared)(H:Hp)(ex:List Addr):Cx:=
 { X with N:=N',s₀:=s,H₀:=H,env:=compEnvC scope cl C X.env,outer:=X.stack,ex:=ex,fn:=fun _=>true,pn:=[],xe:=fun _ _=>False }
theorem Wt{x y:Str}{a c:Addr}(h:([(x,a)]:List (Str×Addr)).lookup y=some c):c=a:=by
 simp only[List.lookup_cons,List.lookup_nil] at h
 split at h
 ·exact(Option.some.inj h).symm
 ·cases h
theorem Sn{x y:Str}{a c:Addr}(h:([(x,a)]:List (Str×Addr)).lookup y=some c):y=x:=by
 simp only[List.lookup_cons,List.lookup_nil] at h
 split at h
 ·rename_i e;simpa using e
 ·cases h
structure WX(scope:Scope)(x:Str):Prop where
 kind:scope.kind = .function
 cf:∀n,cellsFrom n scope.names []=[(x,n)]
 pc:∀h,pushCells h scope.names=h.push { cls:=.type "cell",data:=.cell none }
 nofree:∀y∈scope.names,y.2≠.free
 cells:∀y∈scope.names,y.2 = .cell->y.1=x
 names:∀y∈scope.names,y.2 = .local->scope.names.lookup y.1=some .local
theorem JM{M:Model}{A:Around}{E:Value->Shared->Prop}{s:Shared}{scope:Scope}{globals:Addr}{qual:Str}{outer:Env}{x:Str}{Q:Env->Shared->Prop}(S:WX scope x)
  (hQ:Q (newEnv scope s.heap.objs.size globals [(x,s.heap.objs.size+1)] qual none .none (some outer) builtinsNs) { s with heap:=(s.heap.push { cls:=.type "dict",data:=.dict #[] }).push { cls:=.type "cell",data:=.cell none } }) :
  wpAny M A (newFunctionEnv scope globals [] [] qual none .none (some outer)) Q E s:=by
 simp only[newFunctionEnv,Option.isSome_some,if_true]
 refine wpAny_bind (wpAny_alloc ?_)
 refine wpAny_bind (wpAny_layCells _ (fun name kind cells=>by cases hkc:kind==NameKind.cell<;>simp[hkc]) _ _ _ _ ?_)
 rw[List.forIn_nil]
 refine wpAny_bind (wpAny_pure (wpAny_pure ?_))
 have e:(s.heap.push { cls:=.type "dict",data:=.dict #[] }).objs.size=s.heap.objs.size+1:=Heap.size_push ..
 rw[S.pc];simp only[S.cf,e];exact hQ
section
variable {X:Cx} {tg elt iter:Expr} {ifs:List Expr} {scope:Scope} {pos:Pos} {x:Str} {wi:TI} {g:TG} {tt:TT} {te:TE}
theorem L5{pins:List (Addr×Obj)}{σ:St}{H2:Hp}{s2:Shared}{fp:List Addr}{h₁:Heap}{tk:Nat}{C:Addr}(S:WX scope x)(I2:Inv X pins σ H2 s2)(f2:∀b∈fp,W7 X pins H2 b)(hfp:∀b∈fp,b<s2.heap.objs.size)
  (hC:s2.heap.objs.size<=C) (hns:h₁.Ns C fun _=>none) (hcl:h₁.IsCell (C+1) none) (old:∀b o,s2.heap.get? b=some o->h₁.get? b=some o) :
  Inv (YY X [x] scope [(x,C+1)] C s2 H2 fp) [] (ZZ 1 [] σ) H2 { s2 with heap:=h₁,toks:=tk }:=by
 have stk:=I2.stkSub
 have okk:(YY X [x] scope [(x,C+1)] C s2 H2 fp).Ok:=by
  refine⟨I2.ok.mod,S.kind,I2.ok.glob,I2.ok.blt,hC,fun y z c h1 h2=>(Sn h1).trans (Sn h2).symm,fun y hy=>?_,fun y c _ e=>?_,I2.ok.hd,I2.ok.frames,.inl rfl,fun b hb=>⟨?_,fun y c e=>?_⟩,I2.bs,?_,fun b o e hb=>?_,fun b hb z=>?_,I2.stack,I2.stkFree⟩
  ·have hy:(relabel scope X.env).names.lookup y=some .cell\/(relabel scope X.env).names.lookup y=some .free:=hy
   have ex:y=x:=by
    have:∃k',(relabel scope X.env).names.lookup y=some k'/\(k' = .cell\/k' = .free):=by
     rcases hy with h | h
     ·exact⟨_,h,.inl rfl⟩
     ·exact⟨_,h,.inr rfl⟩
    obtain⟨k',e,hk'⟩:=this
    obtain⟨k,e0⟩:=We e
    have e1:=Xz (env:=X.env) e0
    have e:(scope.names.map fun(n,k)=>if(k==NameKind.free&&X.env.scope.kind==.function&&X.env.kindOf n==some .cell) then(n,NameKind.cell) else(n,k)).lookup y=some k':=e
    rw[e1] at e;have m:=PySem.mem_of_lookup e0
    cases k with
    | free=>exact absurd rfl (S.nofree _ m)
    | cell=>exact S.cells _ m rfl
    | _=>simp at e;subst e;rcases hk' with z | z<;>cases z
   refine⟨C+1,?_⟩
   show([(x,C+1)]:List (Str×Addr)).lookup y=_
   rw[ex];simp[List.lookup_cons]
  ·show s2.heap.objs.size<=c
   rw[Wt e]
   exact Nat.le_succ_of_le hC
  ·exact Nat.ne_of_lt (Nat.lt_of_lt_of_le (hfp b hb) hC)
  ·rw[Wt e]
   exact Nat.ne_of_gt (Nat.lt_of_lt_of_le (hfp b hb) (Nat.le_succ_of_le hC))
  ·exact Nat.le_trans I2.ok.bsz I2.sz
  ·rcases(f2 b hb).2.2.2.1 with z | z
   ·exact I2.ok.noex b o e z
   ·exact absurd (Nat.lt_of_lt_of_le (Heap.lt_size (I2.ok.bs b o e).1) z) (Nat.lt_irrefl _)
  ·rcases List.mem_cons.mp (stk b z) with e | e
   ·exact(f2 b hb).2.1 e
   ·exact(f2 b hb).2.2.1 e
 refine⟨okk,rfl,I2.bare,Un.kept old,⟨_,hns,fun i y v h1 h2 h3=>?_⟩,fun y c e=>?_,I2.hok.fresh hC,fun y c e=>?_,fun p hp=>absurd (show p∈([]:List (Addr×Obj)) from hp) (by simp),I2.hok.kept old,rfl⟩
 ·have h2:([none]:St)[i]?=some (some v):=h2
  cases i with
  | zero=>cases h2
  | succ i=>cases h2
 ·rw[Wt e];exact⟨_,hcl⟩
 ·rw[Wt e];exact I2.hok.fresh (by omega)
theorem OQ{pins:List (Addr×Obj)}{σ:St}{H2:Hp}{s2:Shared}{fp:List Addr}{it:Addr}{tn:Nat->Heap->Prop}{J:It}{Fin:List V->Hp->Prop}{RR:Value->Addr->Result->Shared->Prop}{E:Value->Shared->Prop}
  (hcalm:X.calm=true) (S:WX scope x)
  (hg:∀cl C s H ex,PG (YY X [x] scope cl C s H ex) tg g) (ht:∀cl C s H ex,Mw (YY X [x] scope cl C s H ex) ifs tt) (he:∀cl C s H ex,PE (YY X [x] scope cl C s H ex) elt te)
  (I2:Inv X pins σ H2 s2) (T:P0 X.prog X.w X.K tg J fp it tn) (st2:tn 0 s2.heap) (f2:∀b∈fp,W7 X pins H2 b)
  {W:Nat->Nat->List V->Hp->Prop} {m0:Nat} (w0:W 0 m0 [] H2)
  (turn:∀i m ys H,W i m ys H->ys.length<=sizeLine/\
   ((J.stop i H/\Fin ys H)\/
    (J.go i H/\∃N:List V->Hp->Prop,(∀ys' H',N ys' H'->∃m',m'<m/\W (i+1) m' ys' H')/\
     ∀x H',J.yld i H x H'->g x (ZZ 1 [] σ) H' fun σ2 H2=>σ2.drop 1=(ZZ 1 [] σ).drop 1/\tt σ2 H2 fun b H3=>if b=true then te σ2 H3 fun y H4=>N (ys++[y]) H4 else N ys H3)))
  (hRR:∀(D C:Addr)(oC:Obj)(m:Str->Option Value)(s':Shared)(H':Hp)(ys:List V),Inv X (pins++[(C,oC)]) σ (upd H' D (.lst ys)) s'->s'.heap.get? C=some oC->s'.heap.Ns C m->W7 X pins (upd H' D (.lst ys)) C->H' D=none->Fin ys H'->RR (.ref D) C (.ok .next) s') :
  wpAny (model X.prog X.w) X.A (newList []) (fun acc s₃=>wpAny (model X.prog X.w) X.A (newFunctionEnv scope X.env.globals [] [] X.env.qual none .none (some X.env)) (fun cenv s₄=>
   codeAny (model X.prog X.w) X.A (.compStart (.ListComp elt [⟨tg,iter,ifs,0⟩] scope pos) 0 (.ref it) acc { cenv with scope:=relabel scope X.env }) (RR acc cenv.locals) s₄) E s₃) E s2:=by
 have hfp:∀b∈fp,b<s2.heap.objs.size:=fun b hb=>by
  obtain⟨o,e,_⟩:=T.obj 0 s2.heap st2 b hb
  exact Heap.lt_size e
 refine wpAny_newObj_type (JM S ?_)
 dsimp only
 generalize hH2:s2.heap.push { cls:=.type "list",dict:=none,data:=.seq ([]:List Value).toArray }=G2
 have hC:G2.objs.size=s2.heap.objs.size+1:=by rw[<-hH2,Heap.size_push]
 have hns₀:=(Heap.Ns.new G2 (.type "dict")).push { cls:=.type "cell",data:=.cell none }
 generalize hh₁:(G2.push { cls:=.type "dict",data:=.dict #[] }).push { cls:=.type "cell",data:=.cell none }=h₁ at hns₀ ⊢
 have ext:∀b o,G2.get? b=some o->h₁.get? b=some o:=fun b o e=>hh₁▸Heap.get?_push_of_some _ (Heap.get?_push_of_some _ e)
 have hcl:h₁.IsCell (G2.objs.size+1) none:=by
  refine⟨{ cls:=.type "cell",data:=.cell none },?_,rfl⟩
  rw[<-hh₁,show G2.objs.size+1=(G2.push { cls:=.type "dict",data:=.dict #[] }).objs.size from(Heap.size_push ..).symm]
  exact Heap.get?_push_size _ rfl
 generalize hCC:G2.objs.size=C at hns₀ hC hcl ⊢
 generalize hDD:s2.heap.objs.size=D at hC ⊢
 have hDC:D≠C:=by omega
 have below:∀b,b<s2.heap.objs.size->b≠C/\b≠D:=fun b hb=>by
  rw[hDD] at hb
  exact⟨Nat.ne_of_lt (by omega),Nat.ne_of_lt hb⟩
 have old:∀b o,s2.heap.get? b=some o->h₁.get? b=some o:=fun b o e=>ext b o (hH2▸Heap.get?_push_of_some _ e)
 have hacc:h₁.get? D=some { cls:=.type "list",data:=.seq ([]:List Value).toArray 0 }:=by
  have e0:G2.get? D=some { cls:=.type "list",data:=.seq ([]:List Value).toArray 0 }:=by
   rw[<-hH2,<-hDD]
   exact Heap.get?_push_size _ rfl
  exact ext _ _ e0
 have I0:=fun tk=>L5 (tk:=tk) S I2 f2 hfp (C:=C) (by omega) hns₀ hcl old
 -- what stays true of the iterator's objects in the block
 have loop:∀s₃:Shared,s₃={ s2 with heap:=h₁,toks:=s2.toks }->
   codeAny (model X.prog X.w) X.A (.compLoop (.ListComp elt [⟨tg,iter,ifs,0⟩] scope pos) 0 (.ref it) (.ref D) (compEnvC scope [(x,C+1)] C X.env)) (RR (.ref D) C) s₃:=by
  rintro s₃ rfl
  generalize hY:YY X [x] scope [(x,C+1)] C s2 H2 fp=Y at I0
  have stat:∀{H':Hp}{pn:List (Addr×Obj)},(∀b∈fp,H' b=none)->(∀p∈pn,∀b∈fp,p.1≠b)->∀b∈fp,W7 Y pn H' b:=fun{H' pn} hn hp b hb=>by
   subst hY
   refine⟨hn b hb,(below b (hfp b hb)).1,fun z=>?_,.inl hb,fun x c e=>?_,fun p hp'=>hp p hp' b hb⟩
   ·exact(I0 0).ok.exfs b hb z
   ·exact((I0 0).ok.exf b hb).2 x c e
  have dfp:∀b∈fp,D≠b:=fun b hb=>Ne.symm (below b (hfp b hb)).2
  have hcellD:∀x c,Y.env.cells.lookup x=some c->c≠D:=fun y c e z=>by
   subst hY;have e:=Wt e
   have q:C+1=D:=e.symm.trans z
   omega
  have hfsD:D∉Y.fs:=fun z=>by
   subst hY
   obtain⟨_,o,ho,_⟩:=(I0 0).ok.funs.mem z
   have:=Heap.lt_size ho
   have:D<s2.heap.objs.size:=this
   omega
  have eL:Y.env.locals=C:=by subst hY;rfl
  have eS:Y.s₀=s2:=by subst hY;rfl
  have eP:Y.pn=[]:=by subst hY;rfl
  refine UW (fun n s'=>∃i ys its nn H',Inv Y [] (ZZ 1 [] σ) H' s'/\tn i s'.heap/\(∀b∈fp,H' b=none)/\s'.heap.get? D=some { cls:=.type "list",data:=.seq its nn }/\Vals ys its.toList/\H' D=none/\W i n ys H') ?_ m0
   ⟨0,[],#[],0,H2,I0 _,T.keep _ _ _ st2 fun b _ o e=>old b o e,fun b hb=>(f2 b hb).1,hacc,.nil,I2.hok.fresh (by omega),w0⟩
  rintro n s3 ⟨i,ys,its,nn,H3,I3,st3,fr3,oD,vD,nD,w3⟩
  obtain⟨hlen,cases3⟩:=turn i n ys H3 w3
  have hsize:its.size<=sizeLine:=by
   have:=vD.length
   simp only[Array.length_toList] at this;omega
  have pD:Inv Y [(D,{ cls:=.type "list",data:=.seq its nn })] (ZZ 1 [] σ) H3 s3:=I3.pins_of fun p hp=>by
   rw[List.mem_singleton.mp hp]
   exact⟨oD,nD,by rw[eL];exact hDC,hfsD,fun v z=>by cases z⟩
  have YP:Y.prog=X.prog:=by subst hY;rfl
  have Yw:Y.w=X.w:=by subst hY;rfl
  have YK:Y.K=X.K:=by subst hY;rfl
  have YA:Y.A=X.A:=by subst hY;rfl
  have Yx:Y.xe=fun _ _=>False:=by subst hY;rfl
  have Ye:Y.env=compEnvC scope [(x,C+1)] C X.env:=by subst hY;rfl
  have ne1:∀p∈[((D,{ cls:=.type "list",data:=.seq its nn }):Addr×Obj)],∀b∈fp,p.1≠b:=fun p hp b hb=>by rw[List.mem_singleton.mp hp];exact dfp b hb
  rcases cases3 with⟨stop,qn⟩ | ⟨go,N,hN,step⟩
  ·have d:=T.done Y YP Yw YK (by subst hY;exact hcalm) i _ s3 _ H3 (notedBy (model X.prog X.w) X.A (compEnvC scope [(x,C+1)] C X.env) fun e s'=>RR (.ref D) C (.error e) s') pD (stat fr3 ne1) st3 stop
   rw[YA] at d
   refine YT d fun r s4 ⟨hr,I4⟩=>?_
   subst hr
   show RR (.ref D) C (.ok .next) s4
   obtain⟨oD4,nD4,_⟩:=I4.pin (D,_) (by rw[eP];exact List.mem_cons_self)
   obtain⟨m,hn,_⟩:=I4.loc
   rw[eL] at hn
   obtain⟨oC,es,ep,hoC,hdC,hrest⟩:=id hn
   have hfreeC:H3 C=none:=by have:=I4.free;rw[eL] at this;exact this
   have un:Un (Qd X.stack) fp H2 H3 s2.heap s4.heap:=by
    have:=I4.base
    subst hY;exact this
   have lt2:∀b o,s2.heap.get? b=some o->b≠D:=fun b o e=>(below b (Heap.lt_size e)).2
   have un':Un (Qd X.stack) fp H2 (upd H3 D (.lst ys)) s2.heap s4.heap:=by
    refine⟨un.keep,un.slot,fun b o e n hx=>?_,un.there,fun b xs e=>?_,fun b o u e=>?_,fun b ps e=>?_⟩
    ·rw[upd_ne (lt2 b o e)];exact un.free b o e n hx
    ·have q:=un.tups b xs e
     rw[upd_ne (ZA q nD4)];exact q
    ·have q:=un.frzs b o u e
     rw[upd_ne (ZA q nD4)];exact q
    ·obtain⟨more,q⟩:=un.tbls b ps e
     exact⟨more,by rw[upd_ne (ZA q nD4)];exact q⟩
   have hok4:HOk X.prog X.w H3 s4.heap:=by
    have:=I4.hok
    rw[YP,Yw] at this;exact this
   have hok':HOk X.prog X.w (upd H3 D (.lst ys)) s4.heap:=fun b u q=>by
    by_cases hb:b=D
    ·subst hb
     rw[Zs] at q;cases q
     exact⟨hlen,its.toList,nn,vD,by simpa using oD4⟩
    ·rw[upd_ne hb] at q
     exact(hok4 b u q).stay (fun c v _ z=>z) (fun c z=>by rw[upd_ne (ZA z nD4)];exact z) fun c xs z=>by rw[upd_ne (ZA z nD4)];exact z
   have os4:s4.os=s2.os:=by rw[I4.os,eS]
   have I5:Inv X pins σ (upd H3 D (.lst ys)) s4:=I2.call' os4 un' hok' I4.bare fun b hb=>⟨(f2 b hb).2.2.2.1,(f2 b hb).2.1,(f2 b hb).2.2.2.2.1,(f2 b hb).2.2.2.2.2⟩
   have CL:C≠X.env.locals:=fun z=>by
    exact(below _ I2.lt).1 z.symm
   have fpC:W7 X pins (upd H3 D (.lst ys)) C:=I2.fpOk (by omega) (by rw[upd_ne (Ne.symm hDC)];exact hfreeC)
   refine hRR D C oC m s4 H3 ys (I5.pins_of fun p hp=>?_) hoC hn fpC nD4 qn
   rcases List.mem_append.mp hp with z | z
   ·exact I5.pin p (List.mem_append_right _ z)
   ·rw[List.mem_singleton.mp z]
    exact⟨hoC,fpC.1,fpC.2.1,fpC.2.2.1,fun v z=>by rw[hdC] at z;cases z⟩
  ·have d:=T.item Y YP Yw YK (by subst hY;exact hcalm) i _ s3 _ H3 (fun _ _=>False) pD (stat fr3 ne1) st3 go
   rw[YA] at d
   refine wpAny_mono d (fun r s4 ⟨u,hr,h4⟩=>?_) fun _ _ z=>z.elim
   subst hr
   refine wpAny_mono h4 (fun _ s5 ⟨x5,H5,I5,r5,y5,st5,fr5⟩=>?_) fun _ _ z=>z.elim
   have I5':=I5.pinned (stat fr5 ne1) (T.obj _ _ st5)
   have hg':=hg [(x,C+1)] C s2 H2 fp
   have ht':=ht [(x,C+1)] C s2 H2 fp
   have he':=he [(x,C+1)] C s2 H2 fp
   rw[hY] at hg' ht' he'
   have a6:=hg' _ s5 _ H5 x5 u _ I5' r5 (step x5 H5 y5)
   rw[YP,Yw,YA,Ye,Yx] at a6
   refine wpAny_mono a6 (fun _ s6 ⟨σ6,H6,I6,dr,q6⟩=>?_) fun _ _ z=>z.elim
   have a7:=ht' _ s6 σ6 H6 _ I6 q6;rw[YP,Yw,YA,Ye,Yx] at a7
   refine wpAny_mono a7 (fun ok s7 ⟨H7,I7,q7⟩=>?_) fun _ _ z=>z.elim
   have back:∀{H8:Hp}{s8:Shared},Inv Y ([((D,{ cls:=.type "list",data:=.seq its nn }):Addr×Obj)]++Vv fp s5.heap) σ6 H8 s8->
     s8.heap.get? D=some { cls:=.type "list",data:=.seq its nn }/\H8 D=none/\tn (i+1) s8.heap/\(∀b∈fp,H8 b=none):=fun{H8 s8} I8=>by
    obtain⟨e1,e2,_⟩:=I8.pin (D,{ cls:=.type "list",data:=.seq its nn }) (by rw[eP];exact List.mem_cons_self)
    refine⟨e1,e2,T.keep _ _ _ st5 fun b hb o e=>(I8.pin (b,o) (by rw[eP];exact List.mem_cons_of_mem _ (XW hb e))).1,fun b hb=>?_⟩
    obtain⟨o,e,_⟩:=T.obj _ _ st5 b hb
    exact(I8.pin (b,o) (by rw[eP];exact List.mem_cons_of_mem _ (XW hb e))).2.1
   have unp:∀{H8:Hp}{s8:Shared},Inv Y ([((D,{ cls:=.type "list",data:=.seq its nn }):Addr×Obj)]++Vv fp s5.heap) σ6 H8 s8->Inv Y [] (ZZ 1 [] σ) H8 s8:=fun{H8 s8} I8=>
    (I8.pins_of (pins':=[]) fun p hp=>absurd hp (by simp)).weak (by
     have e1:=(I0 0).len
     have e2:=I8.len
     rw[e1,e2]) (Qo dr)
   cases ok with
   | false=>
    rw[if_neg Bool.false_ne_true] at q7
    show ∃m,m<n/\_
    obtain⟨e1,e2,e3,e4⟩:=back I7
    obtain⟨m',hm,w7⟩:=hN _ _ q7
    exact⟨m',hm,i+1,ys,its,nn,H7,unp I7,e3,e4,e1,vD,e2,w7⟩
   | true=>
    rw[if_pos rfl] at q7
    show wpAny _ _ _ _ _ _
    have a8:=he' _ s7 σ6 H7 _ I7 q7;rw[YP,Yw,YA,Ye,Yx] at a8
    refine wpAny_mono a8 (fun yv s8 ⟨y,H8,I8,ry,q8⟩=>?_) fun _ _ z=>z.elim
    obtain⟨e1,e2,e3,e4⟩:=back I8
    obtain⟨m',hm,w8⟩:=hN _ _ q8
    refine append_at e1 (fun h9 hs9 hD9=>?_) hsize
    have I9:Inv Y [] (ZZ 1 [] σ) H8 { s8 with heap:=h9 }:=(unp I8).turned (t':=s8.toks) (it:=D) (fun b o hb e=>hs9.extBut b o hb e) e2 (by rw[eL];exact hDC) (.inr (by rw[eS];omega)) hcellD (fun p hp=>absurd (show p∈([]:List (Addr×Obj)) by rw[eP] at hp;exact hp) (by simp))
    refine⟨m',hm,i+1,ys++[y],its.push yv,nn+1,H8,I9,T.keep _ _ _ e3 fun b hb o e=>hs9.extBut b o (Ne.symm (dfp b hb)) e,e4,hD9,?_,e2,w8⟩
    rw[Array.toList_push]
    exact vD.append (.cons ry .nil)
 exact codeAny_compStart_list (loop _ rfl) (T.self X.A 0 _ _ _ (T.keep _ _ _ st2 fun b _ o e=>old b o e) (loop _ rfl))
theorem JN(hcalm:X.calm=true)(hi:PI X tg iter wi)(S:WX scope x)
  (hg:∀cl C s H ex,PG (YY X [x] scope cl C s H ex) tg g) (ht:∀cl C s H ex,Mw (YY X [x] scope cl C s H ex) ifs tt) (he:∀cl C s H ex,PE (YY X [x] scope cl C s H ex) elt te)
  (hs:∀x,foldedSetIterable iter X.env x=pure x:=by intro _;rfl):PE X (.ListComp elt [⟨tg,iter,ifs,0⟩] scope pos) (S1 1 [] wi g tt te):=by
 intro pins s σ H Q I h;rw[eval_ListComp]
 have hcf:closureFor scope X.env=pure []:=by
  rw[WH (fun y hy hf=>absurd hf (S.nofree y hy))]
  have go:∀(l:List (Str×NameKind)),(∀y∈l,y.2≠.free)->YX X.env.cells l []=[]:=by
   intro l
   induction l with
   | nil=>intro _;rfl
   | cons a l ih=>
    intro h
    obtain⟨n,k⟩:=a
    have hk:(k==NameKind.free)=false:=by simpa using h (n,k) List.mem_cons_self
    show YX X.env.cells l (if(k==NameKind.free)=true then _ else [])=[]
    rw[if_neg (by rw[hk];exact Bool.false_ne_true)]
    exact ih fun y hy=>h y (List.mem_cons_of_mem _ hy)
  rw[go _ S.nofree]
 refine wpAny_comprehension_free (use:=none) (cl:=[]) rfl hs hcf S.kind S.names (YT (hi pins s σ H _ I h) fun v s1 h1=>YT h1 fun itv s2 h2=>?_)
 obtain⟨it,fp,tn,J,H2,e,I2,T,st2,f2,W,⟨m0,w0⟩,turn⟩:=h2
 subst e
 refine OQ (Fin:=fun ys H=>∀p,H p=none->Q (.ref p) (upd H p (.lst ys))) (RR:=fun acc C=>compPost (model X.prog X.w) X.A X.xe none (EP X pins σ Q) acc C) hcalm S hg ht he I2 T st2 f2 w0 turn ?_
 intro D C oC m s' H' ys I5 hoC hn fpC nD fin
 refine⟨m,hn,fun h' hs'=>⟨.ref D,upd H' D (.lst ys),?_,rfl,fin D nD⟩⟩
 exact(I5.unpinned (pl:=[(C,oC)])).turned (t':=s'.toks) (it:=C) (fun b o hb e=>hs'.extBut b o hb e) fpC.1 fpC.2.1 fpC.2.2.2.1 fpC.2.2.2.2.1 fpC.2.2.2.2.2
end
end L2
namespace VL
open PySem PySem.Spec PyProof.Rows L2
section
variable {X:Cx} {tg elt iter:Expr} {ifs:List Expr} {scope:Scope} {pos:Pos} {fi:XL} {T:Tgt} {ft:XT} {fe:XE}
theorem JO(x:Str)(hcalm:X.calm=true)(hi:VI X tg iter fi)(S:WX scope x)
  (hg:∀cl C s H ex,PG (YY X [x] scope cl C s H ex) tg (gT X.K T)) (ht:∀cl C s H ex,Er (YY X [x] scope cl C s H ex) ifs ft) (he:∀cl C s H ex,VE (YY X [x] scope cl C s H ex) elt fe)
  (hT:∀i∈T.slots,i<1:=by decide) (hs:∀x,foldedSetIterable iter X.env x=pure x:=by intro _;rfl):VE X (.ListComp elt [⟨tg,iter,ifs,0⟩] scope pos) (Zw 1 [] fi T ft fe):=
 PE.imp (JN hcalm hi S hg (fun cl C s H ex=>(show Mw (YY X [x] scope cl C s H ex) ifs (Nk X.K ft) from ht cl C s H ex)) (fun cl C s H ex=>(show PE (YY X [x] scope cl C s H ex) elt (tF X.K fe) from he cl C s H ex)) hs) (ME hT)
end
section
variable {X:Cx} {x:Str} {ps:List Str} {k:Nat} {p pos:Pos}
theorem JP{D:List PV->Option PV}(C:XA X.prog X.w X.K X.mg X.base x ps (Y8 X.K D 0) k)(hr:Room k X.A)(hg:Gl X x)
  (hdb:(x==("__debug__" : Str))=false:=by decide):VM X (.Call (.Name x p) [] [] pos) (Zc D []):=by
 obtain⟨f,fd,a,b,c,d⟩:=C.ex
 refine PE.imp (KC d hr hg a b c .nil Gy hdb) fun σ H Q ⟨s,l,env,e,q⟩=>?_
 obtain⟨ls,e1,e2⟩:=Zg e
 cases e1
 show Y8 X.K D 0 [] H Q E0
 exact⟨rfl,[],[],l,.nil,e2,fun v H2 fq s2 i2 d2 n2=>q v H2 fq s2 i2 d2 n2⟩
end
end VL
namespace PW
open PySem L2 VL VX
def RD(i:Nat):Stmt:=PySem.Challenge.pw_purseweb_k71_break_purses_made.main.body.getD i (.Pass ⟨0,0,0,0⟩)
section
variable {P:Program} {w:World} {K:PySem.W.Frag} {mg:Str->Option Value} {base:Heap}
abbrev RE:Stmt:=RD 22
theorem sc_l_pick:ZS (["_law_cell","_law_salt","_law_many","_law_number"]:List Str) (["_law_cell","_law_salt","_law_many"]:List Str) (Zr RE):=⟨rfl,rfl,rfl,by decide +kernel,rfl,by decide +kernel,by decide +kernel⟩
theorem L6(Df:Def K mg "_law_pick" RE)(B:S5 mg):XA P w K mg base "_law_pick" (["_law_cell","_law_salt","_law_many"]:List Str) (Y8 K Zj 3) 1:=
 YQ (O:=[]) (k:=0) 4 Tn Df sc_l_pick (fun _ _ _ _ _ _ us hl=>match us,hl with | [_,_,_],_=>rfl) rfl rfl (by decide) (fun fa cdv A outer s H E hr=>
  (Zh (Zy (i:=3) sc_l_pick.nd rfl (Or.inl rfl) (VE.pure (Y2 (UI (Z1 (Y2 (Zd (pv 0)) Zi) (Zd (pv 1))) (Z1 (Zd (pv 1)) Zi)) Zi)))
  (Zh (Zy (i:=3) sc_l_pick.nd rfl (Or.inl rfl) (VE.pure (Y2 (Z1 (Z1 (UI (Zd (pv 3)) (Zd (pv 3))) (Xk (Zd (pv 0)) Zi)) (Zd (pv 1))) Zi)))
  (Zo (ZT (VE.pure (Y2 (Xk (Zd (pv 3)) Zi) (Zd (pv 2)))))))))
abbrev Pu:Stmt:=RD 24
theorem JQ:ZS ([]:List Str) ([]:List Str) (Zr Pu):=⟨rfl,rfl,rfl,by decide +kernel,rfl,by decide +kernel,by decide +kernel⟩
theorem JR(Df:Def K mg "_law_six" Pu)(B:S5 mg):XA P w K mg base "_law_six" ([]:List Str) (Y8 K Tx 0) 1:=
 YQ (O:=[]) (k:=0) 0 SK Df JQ (fun _ _ _ _ _ _ us hl=>match us,hl with | [],_=>rfl) rfl rfl (by decide) (fun fa cdv A outer s H E hr=>
  (Zo (ZT (VE.pure (Ya ZR YG rfl B.tuple (by decide +kernel) (Zb (JO "_law_one_here" rfl (Yb rfl B.range (Zb Zi Ze)) ⟨rfl,fun _=>rfl,fun _=>rfl,by decide +kernel,by decide +kernel,by decide +kernel⟩ (fun _ _ _ _ _=>(Zx (i:=0) (show(["_law_one_here"]:List Str).Nodup by decide +kernel) rfl (Or.inr rfl) (.inl rfl))) (fun _ _ _ _ _=>Yi) (fun _ _ _ _ _=>(Ya ZR YG rfl B.tuple (by decide +kernel) (Zb (Xa (["_law_other"]:List Str) (["_law_one_here"]:List Str) [0] rfl (Yb rfl B.range (Zb Zi Ze)) (by kernel_rfl) (fun _ _ _ _ _=>(Zx (i:=0) (show((["_law_other"]:List Str)++(["_law_one_here"]:List Str)).Nodup by decide +kernel) rfl (Or.inl rfl) (.inr rfl))) (fun _ _ _ _ _=>Yi) (fun _ _ _ _ _=>(Ya Qe MC rfl B.int (by decide +kernel) (Zb (E6 hr.units (Y2 (VB (Zd (pv 1)) (Zd (pv 0))) Zi) Zi) Ze)))) Ze)))) Ze))))))
abbrev Vi:Stmt:=RD 23
theorem sc_l_read_web:ZS (["_law_number","_law_sizes","_law_most","_law_many","_law_order","_law_pairs","_law_k","_law_more","_law_one_here","_law_rows","_law_other","_law_times"]:List Str) (["_law_number","_law_sizes","_law_most"]:List Str) (Zr Vi):=⟨rfl,rfl,rfl,by decide +kernel,rfl,by decide +kernel,by decide +kernel⟩
theorem R9(Df:Def K mg "_law_read_web" Vi)(B:S5 mg):XA P w K mg base "_law_read_web" (["_law_number","_law_sizes","_law_most"]:List Str) (Y8 K XH 3) 1:=
 Hs (O:=[4,5,9]) (k:=0) 12 Wi Df sc_l_read_web (fun _ _ _ _ _ _ us hl=>match us,hl with | [_,_,_],_=>rfl) rfl rfl (by decide) (fun fa cdv A outer s H E hr=>
  (YV (Zy (i:=3) sc_l_read_web.nd rfl (Or.inr rfl) (VE.pure (ZF (Zd (pv 1)) (Y2 (Zd (pv 0)) (Zp Zv ZL rfl B.len (by decide +kernel) (Zb (Zd (pv 1)) Ze))))))
  (YV (Zy (i:=0) sc_l_read_web.nd rfl (Or.inl rfl) (VE.pure (Xk (Zd (pv 0)) (Zp Zv ZL rfl B.len (by decide +kernel) (Zb (Zd (pv 1)) Ze)))))
  (YV (Zy (i:=4) sc_l_read_web.nd rfl (Or.inl rfl) (Va Wf))
  (YV (Zy (i:=5) sc_l_read_web.nd rfl (Or.inl rfl) (Va Wf))
  (YV (XC PassesOwn.never rfl (Yb rfl B.range (Zb (Zd (pv 3)) Ze)) (Zx (i:=6) sc_l_read_web.nd rfl (Or.inl rfl)) (Zh (Ls (W4 (Sh PySem.F.plainAttrs_list PySem.F.slot_list_insert PySem.F.type_list_insert Lm (pv 4) (YE (Y2 (Zd (pv 0)) (Z1 (Zd (pv 6)) Zi)) (YE (Zd (pv 6)) XX)))))
  (Zo (Zy (i:=0) sc_l_read_web.nd rfl (Or.inl rfl) (VE.pure (Xk (Zd (pv 0)) (Z1 (Zd (pv 6)) Zi)))))))
  (YV (XC PassesOwn.never rfl (V6 rfl B.range (Zb Zi (Zb (Zd (pv 3)) Ze))) (Zx (i:=6) sc_l_read_web.nd rfl (Or.inl rfl)) (Zh (T1 (W4 (Sh PySem.F.plainAttrs_list PySem.F.slot_list_append PySem.F.type_list_append TM (pv 5) (YE (VE.pure (VD (Zb (Zd (pv 6)) (Zb (Y2 (Zd (pv 0)) (Zd (pv 6))) Ze)))) XX))))
  (Zo (Zy (i:=0) sc_l_read_web.nd rfl (Or.inl rfl) (VE.pure (Xk (Zd (pv 0)) (Zd (pv 6))))))))
  (YV (Zy (i:=7) sc_l_read_web.nd rfl (Or.inl rfl) (VE.pure (UI (Ya Qe MC rfl B.int (by decide +kernel) (Zb (KZ (Zd (pv 3)) Zi) Ze)) (Y2 (Zd (pv 0)) (Z1 (VB (Zd (pv 2)) (Zd (pv 3))) Zi)))))
  (YV (Zy (i:=0) sc_l_read_web.nd rfl (Or.inl rfl) (VE.pure (Xk (Zd (pv 0)) (Z1 (VB (Zd (pv 2)) (Zd (pv 3))) Zi))))
  (YV (XC PassesOwn.never rfl (Yb rfl B.range (Zb (Zd (pv 7)) Ze)) (Zx (i:=6) sc_l_read_web.nd rfl (Or.inl rfl)) (Zh (Zy (i:=8) sc_l_read_web.nd rfl (Or.inl rfl) (VE.pure (Y2 (Zd (pv 0)) (Zd (pv 3)))))
  (Zh (Zy (i:=0) sc_l_read_web.nd rfl (Or.inl rfl) (VE.pure (Xk (Zd (pv 0)) (Zd (pv 3)))))
  (Zh (T1 (W4 (Sh PySem.F.plainAttrs_list PySem.F.slot_list_append PySem.F.type_list_append TM (pv 5) (YE (VE.pure (VD (Zb (Zd (pv 8)) (Zb (Y2 (Z1 (Z1 (Zd (pv 8)) Zi) (Y2 (Zd (pv 0)) (VB (Zd (pv 3)) Zi))) (Zd (pv 3))) Ze)))) XX))))
  (Zo (Zy (i:=0) sc_l_read_web.nd rfl (Or.inl rfl) (VE.pure (Xk (Zd (pv 0)) (VB (Zd (pv 3)) Zi)))))))))
  (YV (Ub (["_law_house"]:List Str) (["_law_many"]:List Str) [3] (i:=9) sc_l_read_web.nd rfl rfl rfl (Yb rfl B.range (Zb (Zd (pv 3)) Ze)) (by kernel_rfl) (fun _ _ _ _ _=>(Zx (i:=0) (show((["_law_house"]:List Str)++(["_law_many"]:List Str)).Nodup by decide +kernel) rfl (Or.inl rfl) (.inr rfl))) (fun _ _ _ _ _=>Yi) (fun _ _ _ _ _=>(NH (VF (Zb Zi Ze)) (Zd (pv 1)))))
  (Ly (O':=[9]) (VSs.r (Zh (XC PassesOwn.never rfl (Ww (Zd (pv 5))) (W5 (n:=2) rfl (Z9 (Zx (i:=8) sc_l_read_web.nd rfl (Or.inl rfl)) (Z9 (Zx (i:=10) sc_l_read_web.nd rfl (Or.inl rfl)) Wd))) (Zh (Zy (i:=11) sc_l_read_web.nd rfl (Or.inl rfl) (VE.pure (Z1 (ZF (ZF (Zd (pv 9)) (ZF (Zd (pv 4)) (Zd (pv 8)))) (ZF (Zd (pv 4)) (Zd (pv 10)))) Zi)))
  (Zh (Ua (UA (Zd (pv 11)) (SW (P7 ix_list (pv 9) (ZF (Zd (pv 4)) (Zd (pv 8))) (fun _ _=>rfl)) (ZF (Zd (pv 4)) (Zd (pv 10))) Vy)))
  (Zo (Ua (UA (Zd (pv 11)) (SW (P7 ix_list (pv 9) (ZF (Zd (pv 4)) (Zd (pv 10))) (fun _ _=>rfl)) (ZF (Zd (pv 4)) (Zd (pv 8))) Vy)))))))
  (Zo (ZT (VE.pure (Ya ZR YG rfl B.tuple (by decide +kernel) (Zb (Xa (["_law_row"]:List Str) ([]:List Str) [] rfl (Ww (Zd (pv 9))) (by kernel_rfl) (fun _ _ _ _ _=>(Zx (i:=0) (show((["_law_row"]:List Str)++([]:List Str)).Nodup by decide +kernel) rfl (Or.inl rfl) (.inr rfl))) (fun _ _ _ _ _=>Yi) (fun _ _ _ _ _=>(Ya ZR YG rfl B.tuple (by decide +kernel) (Zb (Zd (pv 0)) Ze)))) Ze)))))))))))))))))))
abbrev N2:Stmt:=RD 21
theorem HQ:ZS (["_law_script","_law_k"]:List Str) (["_law_script","_law_k"]:List Str) (Zr N2):=⟨rfl,rfl,rfl,by decide +kernel,rfl,by decide +kernel,by decide +kernel⟩
theorem HR(Df:Def K mg "_law_at" N2)(B:S5 mg):XA P w K mg base "_law_at" (["_law_script","_law_k"]:List Str) (Y8 K ZQ 2) 1:=
 YQ (O:=[]) (k:=0) 2 Pk Df HQ (fun _ _ _ _ _ _ us hl=>match us,hl with | [_,_],_=>rfl) rfl rfl (by decide) (fun fa cdv A outer s H E hr=>
  (Zo (ZT (VE.pure (MB (K1 (Zd (pv 1)) (Zp Zv ZL rfl B.len (by decide +kernel) (Zb (Zd (pv 0)) Ze))) (ZF (Zd (pv 0)) (Zd (pv 1))) Zi)))))
abbrev Pw:Stmt:=RD 25
theorem sc_q_web:ZS (["_law_script","_law_sizes","_law_most","_law_many","_law_rows","_law_ties_here","_law_k","_law_cell","_law_one_here","_law_other","_law_more","_law_by"]:List Str) (["_law_script","_law_sizes","_law_most"]:List Str) (Zr Pw):=⟨rfl,rfl,rfl,by decide +kernel,rfl,by decide +kernel,by decide +kernel⟩
theorem JS(Df:Def K mg "_law_web" Pw)(B:S5 mg)(C_l_pick:XA P w K mg base "_law_pick" (["_law_cell","_law_salt","_law_many"]:List Str) (Y8 K Zj 3) 1)(C_l_at:XA P w K mg base "_law_at" (["_law_script","_law_k"]:List Str) (Y8 K ZQ 2) 1)(C_l_six:XA P w K mg base "_law_six" ([]:List Str) (Y8 K Tx 0) 1)(C_l_read_web:XA P w K mg base "_law_read_web" (["_law_number","_law_sizes","_law_most"]:List Str) (Y8 K XH 3) 1):XA P w K mg base "_law_web" (["_law_script","_law_sizes","_law_most"]:List Str) (Y8 K Ui 3) 2:=
 YQ (O:=[4]) (k:=1) 12 Uh Df sc_q_web (fun _ _ _ _ _ _ us hl=>match us,hl with | [_,_,_],_=>rfl) rfl rfl (by decide) (fun fa cdv A outer s H E hr=>
  (Zh (YI (Vm hr.units (VM.ve (Zt C_l_pick (hr.mono (by decide)) rfl (Zb (VM.ve (Zt C_l_at (hr.mono (by decide)) rfl (Zb (Zd (pv 0)) (Zb Zi Ze)))) (Zb Zi (Zb Zi Ze))))) Zi) (Zo (ZT (JP C_l_six (hr.mono (by decide)) rfl))) ZU)
  (Zh (YI (Vm hr.units (Y2 (VM.ve (Zt C_l_at (hr.mono (by decide)) rfl (Zb (Zd (pv 0)) (Zb Zi Ze)))) Zi) Zi) (Zo (ZT (Zt C_l_read_web (hr.mono (by decide)) rfl (Zb (VM.ve (Zt C_l_at (hr.mono (by decide)) rfl (Zb (Zd (pv 0)) (Zb Zi Ze)))) (Zb (Zd (pv 1)) (Zb (Zd (pv 2)) Ze)))))) ZU)
  (Zh (Zy (i:=3) sc_q_web.nd rfl (Or.inr rfl) (VE.pure (ZF (Zd (pv 1)) (VM.ve (Zt C_l_pick (hr.mono (by decide)) rfl (Zb (VM.ve (Zt C_l_at (hr.mono (by decide)) rfl (Zb (Zd (pv 0)) (Zb Zi Ze)))) (Zb Zi (Zb (Zp Zv ZL rfl B.len (by decide +kernel) (Zb (Zd (pv 1)) Ze)) Ze))))))))
  (Zh (Ub (["_law_house"]:List Str) (["_law_many"]:List Str) [3] (i:=4) sc_q_web.nd rfl rfl rfl (Yb rfl B.range (Zb (Zd (pv 3)) Ze)) (by kernel_rfl) (fun _ _ _ _ _=>(Zx (i:=0) (show((["_law_house"]:List Str)++(["_law_many"]:List Str)).Nodup by decide +kernel) rfl (Or.inl rfl) (.inr rfl))) (fun _ _ _ _ _=>Yi) (fun _ _ _ _ _=>(NH (VF (Zb Zi Ze)) (Zd (pv 1)))))
  (Zh (Zy (i:=5) sc_q_web.nd rfl (Or.inl rfl) (VE.pure Zi))
  (Zh (XC PassesOwn.never rfl (V6 rfl B.range (Zb Zi (Zb Zi Ze))) (Zx (i:=6) sc_q_web.nd rfl (Or.inl rfl)) (Zh (Zy (i:=7) sc_q_web.nd rfl (Or.inl rfl) (Zt C_l_at (hr.mono (by decide)) rfl (Zb (Zd (pv 0)) (Zb (Zd (pv 6)) Ze))))
  (Zh (Zy (i:=8) sc_q_web.nd rfl (Or.inl rfl) (Zt C_l_pick (hr.mono (by decide)) rfl (Zb (Zd (pv 7)) (Zb Zi (Zb (Zd (pv 3)) Ze)))))
  (Zh (Zy (i:=9) sc_q_web.nd rfl (Or.inl rfl) (VE.pure (Y2 (Z1 (Z1 (Zd (pv 8)) Zi) (VM.ve (Zt C_l_pick (hr.mono (by decide)) rfl (Zb (Zd (pv 7)) (Zb Zi (Zb (Zp (Lf rfl) Hh rfl B.max (by decide +kernel) (Zb Zi (Zb (VB (Zd (pv 3)) Zi) Ze))) Ze)))))) (Zd (pv 3)))))
  (Zh (YI (K1 (Zd (pv 6)) (Zd (pv 3))) (Zh (Zy (i:=8) sc_q_web.nd rfl (Or.inl rfl) (VE.pure (Zd (pv 6))))
  (Zo (Zy (i:=9) sc_q_web.nd rfl (Or.inl rfl) (Zt C_l_pick (hr.mono (by decide)) rfl (Zb (Zd (pv 7)) (Zb Zi (Zb (Zd (pv 6)) Ze))))))) ZU)
  (Zh (Zy (i:=10) sc_q_web.nd rfl (Or.inl rfl) (VE.pure (Q5 (KZ (Zd (pv 3)) Zi) (Q5 (E1 (Zd (pv 5)) (Zd (pv 2))) (NB (KZ (VM.ve (Zt C_l_pick (hr.mono (by decide)) rfl (Zb (Zd (pv 7)) (Zb Zi (Zb Zi Ze))))) Zi))))))
  (Zo (YI (VW.vt (Uu (K1 (Zd (pv 6)) (Zd (pv 3))) (W9 (Xe (Zd (pv 10)))))) (Zh (Ua (UA (Z1 (ZF (ZF (Zd (pv 4)) (Zd (pv 8))) (Zd (pv 9))) Zi) (SW (P7 ix_list (pv 4) (Zd (pv 8)) (fun _ _=>rfl)) (Zd (pv 9)) Vy)))
  (Zh (Ua (UA (ZF (ZF (Zd (pv 4)) (Zd (pv 8))) (Zd (pv 9))) (SW (P7 ix_list (pv 4) (Zd (pv 9)) (fun _ _=>rfl)) (Zd (pv 8)) Vy)))
  (Zo (Zy (i:=5) sc_q_web.nd rfl (Or.inl rfl) (VE.pure (Z1 (Zd (pv 5)) Zi)))))) ZU))))))))
  (Zh (Zy (i:=11) sc_q_web.nd rfl (Or.inr rfl) (Zt C_l_pick (hr.mono (by decide)) rfl (Zb (VM.ve (Zt C_l_at (hr.mono (by decide)) rfl (Zb (Zd (pv 0)) (Zb Zi Ze)))) (Zb Zi (Zb (Zd (pv 3)) Ze)))))
  (Zh (Ub (["_law_row"]:List Str) (["_law_by"]:List Str) [11] (i:=4) sc_q_web.nd rfl rfl rfl (Ww (Hu (WO (Zd (pv 4)) (Yz (Zd (pv 11))) YN) (WO (Zd (pv 4)) YN (Yz (Zd (pv 11)))))) (by kernel_rfl) (fun _ _ _ _ _=>(Zx (i:=0) (show((["_law_row"]:List Str)++(["_law_by"]:List Str)).Nodup by decide +kernel) rfl (Or.inl rfl) (.inr rfl))) (fun _ _ _ _ _=>Yi) (fun _ _ _ _ _=>(MJ (WO (Zd (pv 0)) (Yz (Zd (pv 1))) YN) (WO (Zd (pv 0)) YN (Yz (Zd (pv 1)))))))
  (Zo (ZT (VE.pure (Ya ZR YG rfl B.tuple (by decide +kernel) (Zb (Xa (["_law_row"]:List Str) ([]:List Str) [] rfl (Ww (Zd (pv 4))) (by kernel_rfl) (fun _ _ _ _ _=>(Zx (i:=0) (show((["_law_row"]:List Str)++([]:List Str)).Nodup by decide +kernel) rfl (Or.inl rfl) (.inr rfl))) (fun _ _ _ _ _=>Yi) (fun _ _ _ _ _=>(Ya ZR YG rfl B.tuple (by decide +kernel) (Zb (Zd (pv 0)) Ze)))) Ze))))))))))))))
abbrev RF:Stmt:=RD 30
theorem sc_l_ties:ZS (["_law_web_here","_law_found","_law_one_here","_law_other"]:List Str) (["_law_web_here"]:List Str) (Zr RF):=⟨rfl,rfl,rfl,by decide +kernel,rfl,by decide +kernel,by decide +kernel⟩
theorem L7(Df:Def K mg "_law_ties" RF)(B:S5 mg):XA P w K mg base "_law_ties" (["_law_web_here"]:List Str) (Y8 K Z4 1) 1:=
 YQ (O:=[1]) (k:=0) 4 Ts Df sc_l_ties (fun _ _ _ _ _ _ us hl=>match us,hl with | [_],_=>rfl) rfl rfl (by decide) (fun fa cdv A outer s H E hr=>
  (Zh (Zy (i:=1) sc_l_ties.nd rfl (Or.inl rfl) (Va Wf))
  (Zh (XC PassesOwn.never rfl (Yb rfl B.range (Zb (Zp Zv ZL rfl B.len (by decide +kernel) (Zb (Zd (pv 0)) Ze)) Ze)) (Zx (i:=2) sc_l_ties.nd rfl (Or.inr rfl)) (Zo (XC PassesOwn.never rfl (V6 rfl B.range (Zb (Z1 (Zd (pv 2)) Zi) (Zb (Zp Zv ZL rfl B.len (by decide +kernel) (Zb (Zd (pv 0)) Ze)) Ze))) (Zx (i:=3) sc_l_ties.nd rfl (Or.inr rfl)) (Zo (Qx (W4 (Sh PySem.F.plainAttrs_list PySem.F.slot_list_extend PySem.F.type_list_extend Qm (pv 1) (YE (U7 (["_law_nth"]:List Str) (["_law_one_here","_law_other"]:List Str) [2,3] rfl (Yb rfl B.range (Zb (ZF (ZF (Zd (pv 0)) (Zd (pv 2))) (Zd (pv 3))) Ze)) (by kernel_rfl) (fun _ _ _ _ _=>(Zx (i:=0) (show((["_law_nth"]:List Str)++(["_law_one_here","_law_other"]:List Str)).Nodup by decide +kernel) rfl (Or.inl rfl) (.inr rfl))) (fun _ _ _ _ _=>Yi) (fun _ _ _ _ _=>(VE.pure (VD (Zb (Zd (pv 1)) (Zb (Zd (pv 2)) Ze)))))) XX))))))))
  (Zo (Pd (pv 1))))))
abbrev RG:Stmt:=RD 31
theorem sc_l_tree:ZS (["_law_web_here","_law_cell","_law_ties_here","_law_marks","_law_found","_law_left","_law_number","_law_k","_law_at_here","_law_one_here","_law_other","_law_gone"]:List Str) (["_law_web_here","_law_cell"]:List Str) (Zr RG):=⟨rfl,rfl,rfl,by decide +kernel,rfl,by decide +kernel,by decide +kernel⟩
theorem L8(Df:Def K mg "_law_tree" RG)(B:S5 mg)(C_l_ties:XA P w K mg base "_law_ties" (["_law_web_here"]:List Str) (Y8 K Z4 1) 1)(C_l_pick:XA P w K mg base "_law_pick" (["_law_cell","_law_salt","_law_many"]:List Str) (Y8 K Zj 3) 1):XA P w K mg base "_law_tree" (["_law_web_here","_law_cell"]:List Str) (Y8 K WS 2) 2:=
 YQ (O:=[4,5]) (k:=1) 12 Tt Df sc_l_tree (fun _ _ _ _ _ _ us hl=>match us,hl with | [_,_],_=>rfl) rfl rfl (by decide) (fun fa cdv A outer s H E hr=>
  (Zh (Zy (i:=2) sc_l_tree.nd rfl (Or.inl rfl) (Zt C_l_ties (hr.mono (by decide)) rfl (Zb (Zd (pv 0)) Ze)))
  (Zh (Zy (i:=3) sc_l_tree.nd rfl (Or.inr rfl) (Wh rfl rfl B.list rfl B.range (Zp Zv ZL rfl B.len (by decide +kernel) (Zb (Zd (pv 0)) Ze))))
  (Zh (Zy (i:=4) sc_l_tree.nd rfl (Or.inl rfl) (Va Wf))
  (Zh (Zy (i:=5) sc_l_tree.nd rfl (Or.inl rfl) (Wh rfl rfl B.list rfl B.range (Zp Zv ZL rfl B.len (by decide +kernel) (Zb (Zd (pv 2)) Ze))))
  (Zh (Zy (i:=6) sc_l_tree.nd rfl (Or.inl rfl) (VE.pure (Xk (Zd (pv 1)) Zi)))
  (Zh (XC PassesOwn.never rfl (Yb rfl B.range (Zb (Zp Zv ZL rfl B.len (by decide +kernel) (Zb (Zd (pv 2)) Ze)) Ze)) (Zx (i:=7) sc_l_tree.nd rfl (Or.inl rfl)) (Zh (Zy (i:=8) sc_l_tree.nd rfl (Or.inl rfl) (Zt C_l_pick (hr.mono (by decide)) rfl (Zb (Z1 (Zd (pv 1)) (UI (UI Zi (Zd (pv 7))) (Zd (pv 7)))) (Zb (Z1 Zi (Zd (pv 7))) (Zb (Zp Zv ZL rfl B.len (by decide +kernel) (Zb (Zd (pv 5)) Ze)) Ze)))))
  (Zh (YI (Vm hr.units (Y2 (Zd (pv 1)) Zi) Zi) (Zh (Zy (i:=8) sc_l_tree.nd rfl (Or.inl rfl) (VE.pure (Y2 (Zd (pv 6)) (Zp Zv ZL rfl B.len (by decide +kernel) (Zb (Zd (pv 5)) Ze)))))
  (Zo (Zy (i:=6) sc_l_tree.nd rfl (Or.inl rfl) (VE.pure (Xk (Zd (pv 6)) (Zp Zv ZL rfl B.len (by decide +kernel) (Zb (Zd (pv 5)) Ze))))))) ZU)
  (Zh (FX (Kr (i:=8) sc_l_tree.nd rfl (Or.inl rfl) (Sh PySem.F.plainAttrs_list PySem.F.slot_list_pop PySem.F.type_list_pop KI (pv 5) (YE (Zd (pv 8)) XX))))
  (Zh (MI (T:=(.many [9,10])) (UA (ZF (Zd (pv 2)) (Zd (pv 8))) (W5 (n:=2) rfl (Z9 (Zx (i:=9) sc_l_tree.nd rfl (Or.inl rfl)) (Z9 (Zx (i:=10) sc_l_tree.nd rfl (Or.inr rfl)) Wd)))))
  (Zo (YI (Vn hr.units (ZF (Zd (pv 3)) (Zd (pv 9))) (ZF (Zd (pv 3)) (Zd (pv 10)))) (Zh (Zy (i:=11) sc_l_tree.nd rfl (Or.inr rfl) (VE.pure (ZF (Zd (pv 3)) (Zd (pv 9)))))
  (Zh (Zy (i:=3) sc_l_tree.nd rfl (Or.inr rfl) (U7 (["_law_mark"]:List Str) (["_law_gone","_law_marks","_law_other"]:List Str) [11,3,10] rfl (Ww (Zd (pv 3))) (by kernel_rfl) (fun _ _ _ _ _=>(Zx (i:=0) (show((["_law_mark"]:List Str)++(["_law_gone","_law_marks","_law_other"]:List Str)).Nodup by decide +kernel) rfl (Or.inl rfl) (.inr rfl))) (fun _ _ _ _ _=>Yi) (fun _ _ _ _ _=>(VE.pure (MB (Vm hr.units (Zd (pv 0)) (Zd (pv 1))) (ZF (Zd (pv 2)) (Zd (pv 3))) (Zd (pv 0)))))))
  (Zo (T1 (W4 (Sh PySem.F.plainAttrs_list PySem.F.slot_list_append PySem.F.type_list_append TM (pv 4) (YE (VE.pure (Zd (pv 8))) XX))))))) ZU)))))))
  (Zo (ZT (VE.pure (Ya ZR YG rfl B.tuple (by decide +kernel) (Zb (VM.ve (Rb Ph NM rfl B.sorted (by decide +kernel) (Zb (Zd (pv 4)) Ze))) Ze))))))))))))
abbrev VV:Stmt:=RD 32
theorem sc_l_outside:ZS (["_law_web_here","_law_tree_here","_law_ties_here"]:List Str) (["_law_web_here","_law_tree_here"]:List Str) (Zr VV):=⟨rfl,rfl,rfl,by decide +kernel,rfl,by decide +kernel,by decide +kernel⟩
theorem Px(Df:Def K mg "_law_outside" VV)(B:S5 mg)(C_l_ties:XA P w K mg base "_law_ties" (["_law_web_here"]:List Str) (Y8 K Z4 1) 1):XA P w K mg base "_law_outside" (["_law_web_here","_law_tree_here"]:List Str) (Y8 K ZW 2) 2:=
 YQ (O:=[]) (k:=1) 3 WB Df sc_l_outside (fun _ _ _ _ _ _ us hl=>match us,hl with | [_,_],_=>rfl) rfl rfl (by decide) (fun fa cdv A outer s H E hr=>
  (Zh (Zy (i:=2) sc_l_outside.nd rfl (Or.inr rfl) (Zt C_l_ties (hr.mono (by decide)) rfl (Zb (Zd (pv 0)) Ze)))
  (Zo (ZT (U7 (["_law_k"]:List Str) (["_law_ties_here","_law_tree_here"]:List Str) [2,1] rfl (Yb rfl B.range (Zb (Zp Zv ZL rfl B.len (by decide +kernel) (Zb (Zd (pv 2)) Ze)) Ze)) (by kernel_rfl) (fun _ _ _ _ _=>(Zx (i:=0) (show((["_law_k"]:List Str)++(["_law_ties_here","_law_tree_here"]:List Str)).Nodup by decide +kernel) rfl (Or.inl rfl) (.inr rfl))) (fun _ _ _ _ _=>(SF (Ta hr.units (Zd (pv 0)) (Zd (pv 2))))) (fun _ _ _ _ _=>(VE.pure (ZF (Zd (pv 1)) (Zd (pv 0))))))))))
abbrev RH:Stmt:=RD 33
theorem sc_l_ends:ZS (["_law_web_here","_law_tree_here","_law_cell","_law_some","_law_number"]:List Str) (["_law_web_here","_law_tree_here","_law_cell"]:List Str) (Zr RH):=⟨rfl,rfl,rfl,by decide +kernel,rfl,by decide +kernel,by decide +kernel⟩
theorem L9(Df:Def K mg "_law_ends" RH)(B:S5 mg)(C_l_outside:XA P w K mg base "_law_outside" (["_law_web_here","_law_tree_here"]:List Str) (Y8 K ZW 2) 2)(C_l_pick:XA P w K mg base "_law_pick" (["_law_cell","_law_salt","_law_many"]:List Str) (Y8 K Zj 3) 1):XA P w K mg base "_law_ends" (["_law_web_here","_law_tree_here","_law_cell"]:List Str) (Y8 K WU 3) 3:=
 YQ (O:=[]) (k:=2) 5 WT Df sc_l_ends (fun _ _ _ _ _ _ us hl=>match us,hl with | [_,_,_],_=>rfl) rfl rfl (by decide) (fun fa cdv A outer s H E hr=>
  (Zh (Zy (i:=3) sc_l_ends.nd rfl (Or.inr rfl) (Zt C_l_outside (hr.mono (by decide)) rfl (Zb (Zd (pv 0)) (Zb (Zd (pv 1)) Ze))))
  (Zh (YI (Vm hr.units (Y2 (Zd (pv 2)) Zi) Zi) (Zh (Zy (i:=4) sc_l_ends.nd rfl (Or.inr rfl) (VE.pure (Xk (Xk (Zd (pv 2)) Zi) Zi)))
  (Zo (ZT (VE.pure (Ya ZR YG rfl B.tuple (by decide +kernel) (Zb (Xa (["_law_k"]:List Str) (["_law_some","_law_number"]:List Str) [3,4] rfl (Yb rfl B.range (Zb (Zp Zv ZL rfl B.len (by decide +kernel) (Zb (Zd (pv 3)) Ze)) Ze)) (by kernel_rfl) (fun _ _ _ _ _=>(Zx (i:=0) (show((["_law_k"]:List Str)++(["_law_some","_law_number"]:List Str)).Nodup by decide +kernel) rfl (Or.inl rfl) (.inr rfl))) (fun _ _ _ _ _=>Yi) (fun _ _ _ _ _=>(ZF (ZF (Zd (pv 1)) (Zd (pv 0))) (He (FD (Zd (pv 2)) (Zd (pv 0))) Zi)))) Ze)))))) ZU)
  (Zo (ZT (VE.pure (Ya ZR YG rfl B.tuple (by decide +kernel) (Zb (Xa (["_law_k"]:List Str) (["_law_some","_law_cell"]:List Str) [3,2] rfl (Yb rfl B.range (Zb (Zp Zv ZL rfl B.len (by decide +kernel) (Zb (Zd (pv 3)) Ze)) Ze)) (by kernel_rfl) (fun _ _ _ _ _=>(Zx (i:=0) (show((["_law_k"]:List Str)++(["_law_some","_law_cell"]:List Str)).Nodup by decide +kernel) rfl (Or.inl rfl) (.inr rfl))) (fun _ _ _ _ _=>Yi) (fun _ _ _ _ _=>(ZF (ZF (Zd (pv 1)) (Zd (pv 0))) (VM.ve (Zt C_l_pick (hr.mono (by decide)) rfl (Zb (Z1 (Zd (pv 2)) (UI (UI Zi (Zd (pv 0))) (Zd (pv 0)))) (Zb (Z1 Zi (Zd (pv 0))) (Zb Zi Ze)))))))) Ze))))))))
abbrev T6:Stmt:=RD 14
theorem sc_ties_of:ZS (["web","ties","a","row","b"]:List Str) (["web"]:List Str) (Zr T6):=⟨rfl,rfl,rfl,by decide +kernel,rfl,by decide +kernel,by decide +kernel⟩
theorem N3(Df:Def K mg "ties_of" T6)(B:S5 mg):XA P w K mg base "ties_of" (["web"]:List Str) (Y8 K Yf 1) 1:=
 YQ (O:=[1]) (k:=0) 5 Ue Df sc_ties_of (fun _ _ _ _ _ _ us hl=>match us,hl with | [_],_=>rfl) rfl rfl (by decide) (fun fa cdv A outer s H E hr=>
  (Zh (Zy (i:=1) sc_ties_of.nd rfl (Or.inl rfl) (Va Wf))
  (Zh (XC PassesOwn.never rfl (Pb false rfl B.enumerate (Zb (Zd (pv 0)) Ze)) (W5 (n:=2) rfl (Z9 (Zx (i:=2) sc_ties_of.nd rfl (Or.inr rfl)) (Z9 (Zx (i:=3) sc_ties_of.nd rfl (Or.inl rfl)) Wd))) (Zo (XC PassesOwn.never rfl (V6 rfl B.range (Zb (Z1 (Zd (pv 2)) Zi) (Zb (Zp Zv ZL rfl B.len (by decide +kernel) (Zb (Zd (pv 0)) Ze)) Ze))) (Zx (i:=4) sc_ties_of.nd rfl (Or.inr rfl)) (Zo (Qx (W4 (Sh PySem.F.plainAttrs_list PySem.F.slot_list_extend PySem.F.type_list_extend Qm (pv 1) (YE (U7 (["nth"]:List Str) (["a","b"]:List Str) [2,4] rfl (Yb rfl B.range (Zb (ZF (Zd (pv 3)) (Zd (pv 4))) Ze)) (by kernel_rfl) (fun _ _ _ _ _=>(Zx (i:=0) (show((["nth"]:List Str)++(["a","b"]:List Str)).Nodup by decide +kernel) rfl (Or.inl rfl) (.inr rfl))) (fun _ _ _ _ _=>Yi) (fun _ _ _ _ _=>(VE.pure (VD (Zb (Zd (pv 1)) (Zb (Zd (pv 2)) (Zb (Zd (pv 0)) Ze))))))) XX))))))))
  (Zo (Pd (pv 1))))))
abbrev VY:Stmt:=RD 16
theorem sc_pieces_of:ZS (["web","ties","grove","pieces","tie","ends","kept","gone"]:List Str) (["web","ties","grove"]:List Str) (Zr VY):=⟨rfl,rfl,rfl,by decide +kernel,rfl,by decide +kernel,by decide +kernel⟩
theorem Py(Df:Def K mg "pieces_of" VY)(B:S5 mg):XA P w K mg base "pieces_of" (["web","ties","grove"]:List Str) (Y8 K YM 3) 1:=
 YQ (O:=[3]) (k:=0) 8 WD Df sc_pieces_of (fun _ _ _ _ _ _ us hl=>match us,hl with | [_,_,_],_=>rfl) rfl rfl (by decide) (fun fa cdv A outer s H E hr=>
  (Zh (Zy (i:=3) sc_pieces_of.nd rfl (Or.inl rfl) (Wh rfl rfl B.list rfl B.range (Zp Zv ZL rfl B.len (by decide +kernel) (Zb (Zd (pv 0)) Ze))))
  (Zh (XC PassesOwn.never rfl (TX (Zd (pv 2))) (Zx (i:=4) sc_pieces_of.nd rfl (Or.inl rfl)) (Zh (Zy (i:=5) sc_pieces_of.nd rfl (Or.inl rfl) (VE.pure (ZF (Zd (pv 1)) (Zd (pv 4)))))
  (Zh (Zy (i:=6) sc_pieces_of.nd rfl (Or.inr rfl) (VE.pure (ZF (Zd (pv 3)) (ZF (Zd (pv 5)) Zi))))
  (Zh (Zy (i:=7) sc_pieces_of.nd rfl (Or.inr rfl) (VE.pure (ZF (Zd (pv 3)) (ZF (Zd (pv 5)) Zi))))
  (Zo (Ub (["piece"]:List Str) (["kept","gone"]:List Str) [6,7] (i:=3) sc_pieces_of.nd rfl rfl rfl (Ww (Zd (pv 3))) (by kernel_rfl) (fun _ _ _ _ _=>(Zx (i:=0) (show((["piece"]:List Str)++(["kept","gone"]:List Str)).Nodup by decide +kernel) rfl (Or.inl rfl) (.inr rfl))) (fun _ _ _ _ _=>Yi) (fun _ _ _ _ _=>(VE.pure (MB (Vm hr.units (Zd (pv 0)) (Zd (pv 2))) (Zd (pv 1)) (Zd (pv 0)))))))))))
  (Zo (Pd (pv 3))))))
abbrev T7:Stmt:=RD 17
theorem sc_is_tree:ZS (["web","numbers","ties"]:List Str) (["web","numbers"]:List Str) (Zr T7):=⟨rfl,rfl,rfl,by decide +kernel,rfl,by decide +kernel,by decide +kernel⟩
theorem N4(Df:Def K mg "is_tree" T7)(B:S5 mg)(C_ties_of:XA P w K mg base "ties_of" (["web"]:List Str) (Y8 K Yf 1) 1)(C_pieces_of:XA P w K mg base "pieces_of" (["web","ties","grove"]:List Str) (Y8 K YM 3) 1):XA P w K mg base "is_tree" (["web","numbers"]:List Str) (Y8 K Yg 2) 2:=
 YQ (O:=[]) (k:=1) 3 Uj Df sc_is_tree (fun _ _ _ _ _ _ us hl=>match us,hl with | [_,_],_=>rfl) rfl rfl (by decide) (fun fa cdv A outer s H E hr=>
  (Zh (Zy (i:=2) sc_is_tree.nd rfl (Or.inr rfl) (Zt C_ties_of (hr.mono (by decide)) rfl (Zb (Zd (pv 0)) Ze)))
  (Zh (YI (VW.vt (Uu (Vn hr.units (Zp Zv ZL rfl B.len (by decide +kernel) (Zb (Zd (pv 1)) Ze)) (VB (Zp Zv ZL rfl B.len (by decide +kernel) (Zb (Zd (pv 0)) Ze)) Zi)) (W9 (XZ (Xe (Zp (Wk rfl) TV rfl B.all (by decide +kernel) (Zb (Xa (["number"]:List Str) (["ties"]:List Str) [2] rfl (TX (Zd (pv 1))) (by kernel_rfl) (fun _ _ _ _ _=>(Zx (i:=0) (show((["number"]:List Str)++(["ties"]:List Str)).Nodup by decide +kernel) rfl (Or.inl rfl) (.inr rfl))) (fun _ _ _ _ _=>Yi) (fun _ _ _ _ _=>(Oo Gv Mn (Oe _) (Oe _) Zi (Zd (pv 0)) (Zp Zv ZL rfl B.len (by decide +kernel) (Zb (Zd (pv 1)) Ze))))) Ze))))))) (Zo (ZT (VE.pure XU))) ZU)
  (Zo (ZT (VE.pure (Q5 (GC hr.units (VM.ve (Qu UU Og rfl B.list (by decide +kernel) (Zb (Zd (pv 1)) Ze))) (VM.ve (VW.vm_sortedSetN rfl rfl B.sorted rfl B.set (Zd (pv 1))))) (NB (GC hr.units (VM.ve (VW.ve_lenSet rfl rfl B.len rfl B.set (VM.ve (Zt C_pieces_of (hr.mono (by decide)) rfl (Zb (Zd (pv 0)) (Zb (Zd (pv 2)) (Zb (Zd (pv 1)) Ze))))))) Zi)))))))))
abbrev Vj:Stmt:=RD 19
theorem sc_break_of:ZS (["web","tree","ends","others"]:List Str) (["web","tree","ends"]:List Str) (Zr Vj):=⟨rfl,rfl,rfl,by decide +kernel,rfl,by decide +kernel,by decide +kernel⟩
theorem OR(Df:Def K mg "break_of" Vj)(B:S5 mg)(C_is_tree:XA P w K mg base "is_tree" (["web","numbers"]:List Str) (Y8 K Yg 2) 2)(C_ties_of:XA P w K mg base "ties_of" (["web"]:List Str) (Y8 K Yf 1) 1):XA P w K mg base "break_of" (["web","tree","ends"]:List Str) (Y8 K Y5 3) 3:=
 YQ (O:=[]) (k:=2) 4 Vf Df sc_break_of (fun _ _ _ _ _ _ us hl=>match us,hl with | [_,_,_],_=>rfl) rfl rfl (by decide) (fun fa cdv A outer s H E hr=>
  (Zh (YI (XZ (Xe (VM.ve (Zt C_is_tree (hr.mono (by decide)) rfl (Zb (Zd (pv 0)) (Zb (Zd (pv 1)) Ze)))))) (Zo (Tj (W:=[]))) ZU)
  (Zh (Ub (["number","tie"]:List Str) (["tree"]:List Str) [1] (i:=3) sc_break_of.nd rfl rfl rfl (Pb true rfl B.enumerate (Zb (VM.ve (Zt C_ties_of (hr.mono (by decide)) rfl (Zb (Zd (pv 0)) Ze))) Ze)) (by kernel_rfl) (fun _ _ _ _ _=>(W5 (n:=2) rfl (Z9 (Zx (i:=0) (show((["number","tie"]:List Str)++(["tree"]:List Str)).Nodup by decide +kernel) rfl (Or.inl rfl) (.inr rfl)) (Z9 (Zx (i:=1) (show((["number","tie"]:List Str)++(["tree"]:List Str)).Nodup by decide +kernel) rfl (Or.inl rfl) (.inr rfl)) Wd)))) (fun _ _ _ _ _=>(SF (Ta hr.units (Zd (pv 0)) (Zd (pv 2))))) (fun _ _ _ _ _=>(VE.pure (Zd (pv 1)))))
  (Zh (YI (VW.vt (Uu (Vn hr.units (Zp Zv ZL rfl B.len (by decide +kernel) (Zb (Zd (pv 2)) Ze)) (Zp Zv ZL rfl B.len (by decide +kernel) (Zb (Zd (pv 3)) Ze))) (W9 (XZ (Xe (Zp (Wk rfl) TV rfl B.all (by decide +kernel) (Zb (Xa (["end","tie"]:List Str) ([]:List Str) [] rfl (ND false true rfl B.zip (Zb (Zd (pv 2)) (Zb (Zd (pv 3)) Ze))) (by kernel_rfl) (fun _ _ _ _ _=>(W5 (n:=2) rfl (Z9 (Zx (i:=0) (show((["end","tie"]:List Str)++([]:List Str)).Nodup by decide +kernel) rfl (Or.inl rfl) (.inr rfl)) (Z9 (Zx (i:=1) (show((["end","tie"]:List Str)++([]:List Str)).Nodup by decide +kernel) rfl (Or.inl rfl) (.inr rfl)) Wd)))) (fun _ _ _ _ _=>Yi) (fun _ _ _ _ _=>(Jd hr.units (Zd (pv 0)) (Yq (Zd (pv 1)) YN (Yz Zi))))) Ze))))))) (Zo (Tj (W:=[]))) ZU)
  (Zo (ZT (VE.pure (Ya ZR YG rfl B.tuple (by decide +kernel) (Zb (Xa (["house"]:List Str) (["ends"]:List Str) [2] rfl (Yb rfl B.range (Zb (Zp Zv ZL rfl B.len (by decide +kernel) (Zb (Zd (pv 0)) Ze)) Ze)) (by kernel_rfl) (fun _ _ _ _ _=>(Zx (i:=0) (show((["house"]:List Str)++(["ends"]:List Str)).Nodup by decide +kernel) rfl (Or.inl rfl) (.inr rfl))) (fun _ _ _ _ _=>Yi) (fun _ _ _ _ _=>(LZ (Zd (pv 1)) (Zd (pv 0))))) Ze)))))))))
theorem Pz{Ct Ce Cb:Addr}(Df:Def K mg "break_of" Vj)(B:S5 mg)(Q:VX.Q8 K mg Ct Ce Cb)(C_is_tree:XA P w K mg base "is_tree" (["web","numbers"]:List Str) (Y8 K Yg 2) 2)(C_ties_of:XA P w K mg base "ties_of" (["web"]:List Str) (Y8 K Yf 1) 1):VX.CalX P w K mg base "break_of" (["web","tree","ends"]:List Str) (VX.spX K YS 3) 3:=
 VX.def_x (O:=[]) (k:=2) 4 (Uq (LK (YW (xB (Zc Yg [(Za 0),(Za 1)]))) (WC "NoTree" (Za 1)) Nm) (Xc (YW (xB (Zc Yg [(Za 0),(Za 1)]))) WK ZH)
  (Uq Nm (Zn 3 (Zw 2 [1] (VJ true [(Zc Yf [(Za 0)])]) (.many [0,1]) (xB (Zf (U5 true) (Za 0) (Za 2))) (eP (Za 1))))
  (Uq (LK (UR (xB (Zf (Z8 true) (Zc Zq [(Za 2)]) (Zc Zq [(Za 3)]))) (YW (xB (Zc Vb [(Zw 2 [] (Rf false true [(Za 2),(Za 3)]) (.many [0,1]) ZG (Zf (U5 false) (Za 0) (Xl Yk (Za 1) XM (YZ (eC (.int 2))))))])))) (WC "NoEnds" (Za 2)) Nm) (Xc (UR (xB (Zf (Z8 true) (Zc Zq [(Za 2)]) (Zc Zq [(Za 3)]))) (YW (xB (Zc Vb [(Zw 2 [] (Rf false true [(Za 2),(Za 3)]) (.many [0,1]) ZG (Zf (U5 false) (Za 0) (Xl Yk (Za 1) XM (YZ (eC (.int 2))))))])))) WK ZH)
  Nm))) Df sc_break_of (fun _ _ _ _ _ _ us hl=>match us,hl with | [_,_,_],_=>rfl) rfl rfl (by decide) (fun fa cdv A outer s H E hr=>
  (Ry (GI (XZ (Xe (VM.ve (Zt C_is_tree (hr.mono (by decide)) rfl (Zb (Zd (pv 0)) (Zb (Zd (pv 1)) Ze)))))) (Po (QH F.excBase_ValueError Q.t.ex rfl Q.t.mgo Q.t.no rfl MO hr (Zd (pv 1)))) Jz) (YI (XZ (Xe (VM.ve (Zt C_is_tree (hr.mono (by decide)) rfl (Zb (Zd (pv 0)) (Zb (Zd (pv 1)) Ze)))))) (Zo (Tj (W:=[]))) ZU)
  (Ry GH (Ub (["number","tie"]:List Str) (["tree"]:List Str) [1] (i:=3) sc_break_of.nd rfl rfl rfl (Pb true rfl B.enumerate (Zb (VM.ve (Zt C_ties_of (hr.mono (by decide)) rfl (Zb (Zd (pv 0)) Ze))) Ze)) (by kernel_rfl) (fun _ _ _ _ _=>(W5 (n:=2) rfl (Z9 (Zx (i:=0) (show((["number","tie"]:List Str)++(["tree"]:List Str)).Nodup by decide +kernel) rfl (Or.inl rfl) (.inr rfl)) (Z9 (Zx (i:=1) (show((["number","tie"]:List Str)++(["tree"]:List Str)).Nodup by decide +kernel) rfl (Or.inl rfl) (.inr rfl)) Wd)))) (fun _ _ _ _ _=>(SF (Ta hr.units (Zd (pv 0)) (Zd (pv 2))))) (fun _ _ _ _ _=>(VE.pure (Zd (pv 1)))))
  (Ry (GI (VW.vt (Uu (Vn hr.units (Zp Zv ZL rfl B.len (by decide +kernel) (Zb (Zd (pv 2)) Ze)) (Zp Zv ZL rfl B.len (by decide +kernel) (Zb (Zd (pv 3)) Ze))) (W9 (XZ (Xe (Zp (Wk rfl) TV rfl B.all (by decide +kernel) (Zb (Xa (["end","tie"]:List Str) ([]:List Str) [] rfl (ND false true rfl B.zip (Zb (Zd (pv 2)) (Zb (Zd (pv 3)) Ze))) (by kernel_rfl) (fun _ _ _ _ _=>(W5 (n:=2) rfl (Z9 (Zx (i:=0) (show((["end","tie"]:List Str)++([]:List Str)).Nodup by decide +kernel) rfl (Or.inl rfl) (.inr rfl)) (Z9 (Zx (i:=1) (show((["end","tie"]:List Str)++([]:List Str)).Nodup by decide +kernel) rfl (Or.inl rfl) (.inr rfl)) Wd)))) (fun _ _ _ _ _=>Yi) (fun _ _ _ _ _=>(Jd hr.units (Zd (pv 0)) (Yq (Zd (pv 1)) YN (Yz Zi))))) Ze))))))) (Po (QH F.excBase_ValueError Q.e.ex rfl Q.e.mgo Q.e.no rfl MO hr (Zd (pv 2)))) Jz) (YI (VW.vt (Uu (Vn hr.units (Zp Zv ZL rfl B.len (by decide +kernel) (Zb (Zd (pv 2)) Ze)) (Zp Zv ZL rfl B.len (by decide +kernel) (Zb (Zd (pv 3)) Ze))) (W9 (XZ (Xe (Zp (Wk rfl) TV rfl B.all (by decide +kernel) (Zb (Xa (["end","tie"]:List Str) ([]:List Str) [] rfl (ND false true rfl B.zip (Zb (Zd (pv 2)) (Zb (Zd (pv 3)) Ze))) (by kernel_rfl) (fun _ _ _ _ _=>(W5 (n:=2) rfl (Z9 (Zx (i:=0) (show((["end","tie"]:List Str)++([]:List Str)).Nodup by decide +kernel) rfl (Or.inl rfl) (.inr rfl)) (Z9 (Zx (i:=1) (show((["end","tie"]:List Str)++([]:List Str)).Nodup by decide +kernel) rfl (Or.inl rfl) (.inr rfl)) Wd)))) (fun _ _ _ _ _=>Yi) (fun _ _ _ _ _=>(Jd hr.units (Zd (pv 0)) (Yq (Zd (pv 1)) YN (Yz Zi))))) Ze))))))) (Zo (Tj (W:=[]))) ZU)
  (Po GH)))))
abbrev UL:Stmt:=RD 37
theorem sc_l_spoilt:ZS (["_law_web_here","_law_tree_here","_law_cell","_law_many","_law_way","_law_at_here"]:List Str) (["_law_web_here","_law_tree_here","_law_cell"]:List Str) (Zr UL):=⟨rfl,rfl,rfl,by decide +kernel,rfl,by decide +kernel,by decide +kernel⟩
theorem OS(Df:Def K mg "_law_spoilt" UL)(B:S5 mg)(C_l_ties:XA P w K mg base "_law_ties" (["_law_web_here"]:List Str) (Y8 K Z4 1) 1)(C_l_pick:XA P w K mg base "_law_pick" (["_law_cell","_law_salt","_law_many"]:List Str) (Y8 K Zj 3) 1):XA P w K mg base "_law_spoilt" (["_law_web_here","_law_tree_here","_law_cell"]:List Str) (Y8 K Xu 3) 2:=
 YQ (O:=[]) (k:=1) 6 Vg Df sc_l_spoilt (fun _ _ _ _ _ _ us hl=>match us,hl with | [_,_,_],_=>rfl) rfl rfl (by decide) (fun fa cdv A outer s H E hr=>
  (Zh (Zy (i:=3) sc_l_spoilt.nd rfl (Or.inl rfl) (VE.pure (Zp Zv ZL rfl B.len (by decide +kernel) (Zb (VM.ve (Zt C_l_ties (hr.mono (by decide)) rfl (Zb (Zd (pv 0)) Ze))) Ze))))
  (Zh (Zy (i:=4) sc_l_spoilt.nd rfl (Or.inl rfl) (Zt C_l_pick (hr.mono (by decide)) rfl (Zb (Zd (pv 2)) (Zb Zi (Zb Zi Ze)))))
  (Zh (Zy (i:=5) sc_l_spoilt.nd rfl (Or.inl rfl) (Zt C_l_pick (hr.mono (by decide)) rfl (Zb (Zd (pv 2)) (Zb Zi (Zb (Z1 (Zp Zv ZL rfl B.len (by decide +kernel) (Zb (Zd (pv 1)) Ze)) Zi) Ze)))))
  (Zh (YI (Vm hr.units (Zd (pv 4)) Zi) (Zo (ZT (VE.pure (Wc Wy Wz (Yq (Zd (pv 1)) YN (Yz (Zd (pv 5)))) (Yq (Zd (pv 1)) (Yz (Z1 (Zd (pv 5)) Zi)) YN))))) ZU)
  (Zh (YI (Vm hr.units (Zd (pv 4)) Zi) (Zo (ZT (VE.pure (Ya ZR YG rfl B.tuple (by decide +kernel) (Zb (VM.ve (Rb Tp Sk rfl B.sorted (by decide +kernel) (Zb (Wc Wy Wz (Wc Wy Wz (Yq (Zd (pv 1)) YN (Yz (Zd (pv 5)))) (VD (Zb (VM.ve (Zt C_l_pick (hr.mono (by decide)) rfl (Zb (Zd (pv 2)) (Zb Zi (Zb (Z1 (Zd (pv 3)) Zi) Ze))))) Ze))) (Yq (Zd (pv 1)) (Yz (Z1 (Zd (pv 5)) Zi)) YN)) Ze))) Ze))))) ZU)
  (Zh (YI (Vm hr.units (Zd (pv 4)) Zi) (Zo (ZT (VE.pure (Ya ZR YG rfl B.tuple (by decide +kernel) (Zb (VM.ve (Rb Tp Sk rfl B.sorted (by decide +kernel) (Zb (Wc Wy Wz (Zd (pv 1)) (VD (Zb (VM.ve (Zt C_l_pick (hr.mono (by decide)) rfl (Zb (Zd (pv 2)) (Zb Zi (Zb (Z1 (Zd (pv 3)) Zi) Ze))))) Ze))) Ze))) Ze))))) ZU)
  (Zo (ZT (VE.pure (HL (Zd (pv 1)) (FH Zi))))))))))))
abbrev UM:Stmt:=RD 35
theorem sc_l_caught:ZS (["_law_web_here","_law_tree_here","_law_ends_here","e"]:List Str) (["_law_web_here","_law_tree_here","_law_ends_here"]:List Str) (Zr UM):=⟨rfl,rfl,rfl,by decide +kernel,rfl,by decide +kernel,by decide +kernel⟩
theorem OT(Df:Def K mg "_law_caught" UM)(B:S5 mg)(C_break_of:XA P w K mg base "break_of" (["web","tree","ends"]:List Str) (Y8 K Y5 3) 3){Ct Ce Cb:Addr}(Q:VX.Q8 K mg Ct Ce Cb)(X_break_of:VX.CalX P w K mg base "break_of" (["web","tree","ends"]:List Str) (VX.spX K YS 3) 3):XA P w K mg base "_law_caught" (["_law_web_here","_law_tree_here","_law_ends_here"]:List Str) (Y8 K Z5 3) 4:=
 YQ (O:=[]) (k:=3) 4 Vh Df sc_l_caught (fun _ _ _ _ _ _ us hl=>match us,hl with | [_,_,_],_=>rfl) rfl rfl (by decide) (fun fa cdv A outer s H E hr=>
  (Zh (De (HP Q X_break_of R8 (hr.mono (by decide)) rfl (Zb (Zd (pv 0)) (Zb (Zd (pv 1)) (Zb (Zd (pv 2)) Ze))) rfl rfl rfl sc_l_caught.nd rfl rfl rfl (fun _=>(Zh (YI (VW.vt (Uu (XZ (Xe (VM.ve (HN Q rfl B.isinstance (Zd (pv 3)) rfl B.ValueError)))) (W9 (Xe (VM.ve (MT Q rfl B.isinstance (Zd (pv 3)) (.cons rfl (by decide) (by decide) (.cons rfl (by decide) (by decide) (.cons rfl (by decide) (by decide) (.cons rfl (by decide) (by decide) (.cons rfl (by decide) (by decide) .nil))))) (by decide))))))) (Zo (ZT (Va (U0 (VE.pure KU) Wf)))) ZU)
  (Zh (YI (Xe (VM.ve (MT Q rfl B.isinstance (Zd (pv 3)) (.cons rfl (by decide) (by decide) (.cons rfl (by decide) (by decide) (.cons rfl (by decide) (by decide) (.cons rfl (by decide) (by decide) .nil)))) (by decide)))) (Zo (ZT (Va (U0 (VE.pure KU) Wf)))) ZU)
  (Zo (ZT (Va (U0 (VE.pure (VM.ve (JJ Q rfl B.isinstance (Zd (pv 3)) (by decide) rfl))) (U0 (VE.pure (VM.ve (JJ Q rfl B.isinstance (Zd (pv 3)) (by decide) rfl))) Wf)))))))) (by decide)) (HD (Zo (Dg (VM.ve (Zt C_break_of (hr.mono (by decide)) rfl (Zb (Zd (pv 0)) (Zb (Zd (pv 1)) (Zb (Zd (pv 2)) Ze)))))))))
  (Zo (ZT (Va Wf)))))
abbrev T8:Stmt:=RD 26
theorem N5:ZS (["_law_found"]:List Str) (["_law_found"]:List Str) (Zr T8):=⟨rfl,rfl,rfl,by decide +kernel,rfl,by decide +kernel,by decide +kernel⟩
theorem N6(Df:Def K mg "_law_whole" T8)(B:S5 mg):XA P w K mg base "_law_whole" (["_law_found"]:List Str) (Y8 K Wm 1) 1:=
 YQ (O:=[]) (k:=0) 1 T2 Df N5 (fun _ _ _ _ _ _ us hl=>match us,hl with | [_],_=>rfl) rfl rfl (by decide) (fun fa cdv A outer s H E hr=>
  (Zo (ZT (VE.pure (Q5 (Zp Vz Q6 rfl B.isinstance (by decide +kernel) (Zb (Zd (pv 0)) (Zb (K3 rfl B.int (by decide +kernel)) Ze))) (NB (FF (Zp Vz Q6 rfl B.isinstance (by decide +kernel) (Zb (Zd (pv 0)) (Zb (K3 rfl B.bool (by decide +kernel)) Ze))))))))))
abbrev UN:Stmt:=RD 27
theorem OU:ZS (["_law_found","_law_many"]:List Str) (["_law_found","_law_many"]:List Str) (Zr UN):=⟨rfl,rfl,rfl,by decide +kernel,rfl,by decide +kernel,by decide +kernel⟩
theorem OV(Df:Def K mg "_law_wholes" UN)(B:S5 mg)(C_l_whole:XA P w K mg base "_law_whole" (["_law_found"]:List Str) (Y8 K Wm 1) 1):XA P w K mg base "_law_wholes" (["_law_found","_law_many"]:List Str) (Y8 K Xt 2) 2:=
 YQ (O:=[]) (k:=1) 2 Ve Df OU (fun _ _ _ _ _ _ us hl=>match us,hl with | [_,_],_=>rfl) rfl rfl (by decide) (fun fa cdv A outer s H E hr=>
  (Zh (YI (VW.vt (Uu (XZ (Xe (Zp Vz Q6 rfl B.isinstance (by decide +kernel) (Zb (Zd (pv 0)) (Zb (K3 rfl B.tuple (by decide +kernel)) Ze))))) (W9 (Vn hr.units (Zp Zv ZL rfl B.len (by decide +kernel) (Zb (Zd (pv 0)) Ze)) (Zd (pv 1)))))) (Zo (ZT (VE.pure XU))) ZU)
  (Zo (ZT (VE.pure (Zp (Wk rfl) TV rfl B.all (by decide +kernel) (Zb (Xa (["_law_one_here"]:List Str) ([]:List Str) [] rfl (TX (Zd (pv 0))) (by kernel_rfl) (fun _ _ _ _ _=>(Zx (i:=0) (show((["_law_one_here"]:List Str)++([]:List Str)).Nodup by decide +kernel) rfl (Or.inl rfl) (.inr rfl))) (fun _ _ _ _ _=>Yi) (fun _ _ _ _ _=>(VM.ve (Zt C_l_whole (hr.mono (by decide)) rfl (Zb (Zd (pv 0)) Ze))))) Ze)))))))
abbrev T9:Stmt:=RD 34
theorem sc_b_coins:ZS (["_law_web_here","_law_ends_here","_law_coins_here","_law_end"]:List Str) (["_law_web_here","_law_ends_here"]:List Str) (Zr T9):=⟨rfl,rfl,rfl,by decide +kernel,rfl,by decide +kernel,by decide +kernel⟩
theorem N7(Df:Def K mg "_law_coins" T9)(B:S5 mg):XA P w K mg base "_law_coins" (["_law_web_here","_law_ends_here"]:List Str) (Y8 K X2 2) 1:=
 YQ (O:=[2]) (k:=0) 4 Ug Df sc_b_coins (fun _ _ _ _ _ _ us hl=>match us,hl with | [_,_],_=>rfl) rfl rfl (by decide) (fun fa cdv A outer s H E hr=>
  (Zh (Zy (i:=2) sc_b_coins.nd rfl (Or.inl rfl) (NH (VF (Zb Zi Ze)) (Zp Zv ZL rfl B.len (by decide +kernel) (Zb (Zd (pv 0)) Ze))))
  (Zh (XC PassesOwn.never rfl (TX (Zd (pv 1))) (Zx (i:=3) sc_b_coins.nd rfl (Or.inl rfl)) (Zo (Jc (UA (Z1 (ZF (Zd (pv 2)) (Zd (pv 3))) Zi) (SW (pv 2) (Zd (pv 3)) Vy)))))
  (Zo (ZT (VE.pure (Ya ZR YG rfl B.tuple (by decide +kernel) (Zb (Zd (pv 2)) Ze))))))))
abbrev VZ:Stmt:=RD 36
theorem sc_l_is_tree:ZS (["_law_web_here","_law_tree_here","_law_ties_here","_law_marks","_law_k","_law_one_here","_law_other","_law_gone"]:List Str) (["_law_web_here","_law_tree_here"]:List Str) (Zr VZ):=⟨rfl,rfl,rfl,by decide +kernel,rfl,by decide +kernel,by decide +kernel⟩
theorem PB(Df:Def K mg "_law_is_tree" VZ)(B:S5 mg)(C_l_ties:XA P w K mg base "_law_ties" (["_law_web_here"]:List Str) (Y8 K Z4 1) 1):XA P w K mg base "_law_is_tree" (["_law_web_here","_law_tree_here"]:List Str) (Y8 K Y6 2) 2:=
 YQ (O:=[]) (k:=1) 8 WE Df sc_l_is_tree (fun _ _ _ _ _ _ us hl=>match us,hl with | [_,_],_=>rfl) rfl rfl (by decide) (fun fa cdv A outer s H E hr=>
  (Zh (Zy (i:=2) sc_l_is_tree.nd rfl (Or.inr rfl) (Zt C_l_ties (hr.mono (by decide)) rfl (Zb (Zd (pv 0)) Ze)))
  (Zh (YI (VW.vt (Uu (Vn hr.units (VM.ve (Qu UU Og rfl B.list (by decide +kernel) (Zb (Zd (pv 1)) Ze))) (VM.ve (VW.vm_sortedSetN rfl rfl B.sorted rfl B.set (Zd (pv 1))))) (Uu (Vn hr.units (Zp Zv ZL rfl B.len (by decide +kernel) (Zb (Zd (pv 1)) Ze)) (VB (Zp Zv ZL rfl B.len (by decide +kernel) (Zb (Zd (pv 0)) Ze)) Zi)) (W9 (XZ (Xe (Zp (Wk rfl) TV rfl B.all (by decide +kernel) (Zb (Xa (["_law_k"]:List Str) (["_law_ties_here"]:List Str) [2] rfl (TX (Zd (pv 1))) (by kernel_rfl) (fun _ _ _ _ _=>(Zx (i:=0) (show((["_law_k"]:List Str)++(["_law_ties_here"]:List Str)).Nodup by decide +kernel) rfl (Or.inl rfl) (.inr rfl))) (fun _ _ _ _ _=>Yi) (fun _ _ _ _ _=>(Oo Gv Mn (Oe _) (Oe _) Zi (Zd (pv 0)) (Zp Zv ZL rfl B.len (by decide +kernel) (Zb (Zd (pv 1)) Ze))))) Ze)))))))) (Zo (ZT (VE.pure XU))) ZU)
  (Zh (Zy (i:=3) sc_l_is_tree.nd rfl (Or.inr rfl) (Wh rfl rfl B.list rfl B.range (Zp Zv ZL rfl B.len (by decide +kernel) (Zb (Zd (pv 0)) Ze))))
  (Zh (XC PassesOwn.never rfl (TX (Zd (pv 1))) (Zx (i:=4) sc_l_is_tree.nd rfl (Or.inl rfl)) (Zh (MI (T:=(.many [5,6])) (UA (ZF (Zd (pv 2)) (Zd (pv 4))) (W5 (n:=2) rfl (Z9 (Zx (i:=5) sc_l_is_tree.nd rfl (Or.inl rfl)) (Z9 (Zx (i:=6) sc_l_is_tree.nd rfl (Or.inr rfl)) Wd)))))
  (Zh (YI (Vm hr.units (ZF (Zd (pv 3)) (Zd (pv 5))) (ZF (Zd (pv 3)) (Zd (pv 6)))) (Zo (ZT (VE.pure XU))) ZU)
  (Zh (Zy (i:=7) sc_l_is_tree.nd rfl (Or.inr rfl) (VE.pure (ZF (Zd (pv 3)) (Zd (pv 5)))))
  (Zo (Zy (i:=3) sc_l_is_tree.nd rfl (Or.inr rfl) (U7 (["_law_mark"]:List Str) (["_law_gone","_law_marks","_law_other"]:List Str) [7,3,6] rfl (Ww (Zd (pv 3))) (by kernel_rfl) (fun _ _ _ _ _=>(Zx (i:=0) (show((["_law_mark"]:List Str)++(["_law_gone","_law_marks","_law_other"]:List Str)).Nodup by decide +kernel) rfl (Or.inl rfl) (.inr rfl))) (fun _ _ _ _ _=>Yi) (fun _ _ _ _ _=>(VE.pure (MB (Vm hr.units (Zd (pv 0)) (Zd (pv 1))) (ZF (Zd (pv 2)) (Zd (pv 3))) (Zd (pv 0))))))))))))
  (Zo (ZT (VE.pure XU))))))))
abbrev PD:Stmt:=RD 38
theorem sc_l_one:ZS (["_law_web_here","_law_cell","_law_tree_here","_law_ends_here","_law_found","_law_bad","_law_odd","_law_at_here","_law_house"]:List Str) (["_law_web_here","_law_cell"]:List Str) (Zr PD):=⟨rfl,rfl,rfl,by decide +kernel,rfl,by decide +kernel,by decide +kernel⟩
theorem JT(Df:Def K mg "_law_one" PD)(B:S5 mg)(C_l_tree:XA P w K mg base "_law_tree" (["_law_web_here","_law_cell"]:List Str) (Y8 K WS 2) 2)(C_l_ends:XA P w K mg base "_law_ends" (["_law_web_here","_law_tree_here","_law_cell"]:List Str) (Y8 K WU 3) 3)(C_break_of:XA P w K mg base "break_of" (["web","tree","ends"]:List Str) (Y8 K Y5 3) 3)(C_b_coins:XA P w K mg base "_law_coins" (["_law_web_here","_law_ends_here"]:List Str) (Y8 K X2 2) 1)(C_l_wholes:XA P w K mg base "_law_wholes" (["_law_found","_law_many"]:List Str) (Y8 K Xt 2) 2)(C_l_spoilt:XA P w K mg base "_law_spoilt" (["_law_web_here","_law_tree_here","_law_cell"]:List Str) (Y8 K Xu 3) 2)(C_l_pick:XA P w K mg base "_law_pick" (["_law_cell","_law_salt","_law_many"]:List Str) (Y8 K Zj 3) 1)(C_l_caught:XA P w K mg base "_law_caught" (["_law_web_here","_law_tree_here","_law_ends_here"]:List Str) (Y8 K Z5 3) 4)(C_l_is_tree:XA P w K mg base "_law_is_tree" (["_law_web_here","_law_tree_here"]:List Str) (Y8 K Y6 2) 2)(C_l_outside:XA P w K mg base "_law_outside" (["_law_web_here","_law_tree_here"]:List Str) (Y8 K ZW 2) 2):XA P w K mg base "_law_one" (["_law_web_here","_law_cell"]:List Str) (Y8 K Uk 2) 5:=
 YQ (O:=[]) (k:=4) 9 SM Df sc_l_one (fun _ _ _ _ _ _ us hl=>match us,hl with | [_,_],_=>rfl) rfl rfl (by decide) (fun fa cdv A outer s H E hr=>
  (Zh (Zy (i:=2) sc_l_one.nd rfl (Or.inr rfl) (Zt C_l_tree (hr.mono (by decide)) rfl (Zb (Zd (pv 0)) (Zb (Zd (pv 1)) Ze))))
  (Zh (Zy (i:=3) sc_l_one.nd rfl (Or.inl rfl) (Zt C_l_ends (hr.mono (by decide)) rfl (Zb (Zd (pv 0)) (Zb (Zd (pv 2)) (Zb (Zd (pv 1)) Ze)))))
  (Zh (Zy (i:=4) sc_l_one.nd rfl (Or.inl rfl) (Zt C_break_of (hr.mono (by decide)) rfl (Zb (Zd (pv 0)) (Zb (Zd (pv 2)) (Zb (Zd (pv 3)) Ze)))))
  (Zh (YI (VW.vt (Uu (XZ (Xe (VM.ve (Zt C_l_wholes (hr.mono (by decide)) rfl (Zb (Zd (pv 4)) (Zb (Zp Zv ZL rfl B.len (by decide +kernel) (Zb (Zd (pv 0)) Ze)) Ze)))))) (W9 (Vn hr.units (Zd (pv 4)) (VM.ve (Zt C_b_coins (hr.mono (by decide)) rfl (Zb (Zd (pv 0)) (Zb (Zd (pv 3)) Ze)))))))) (Zo (ZT (VE.pure XU))) ZU)
  (Zh (Zy (i:=5) sc_l_one.nd rfl (Or.inl rfl) (Zt C_l_spoilt (hr.mono (by decide)) rfl (Zb (Zd (pv 0)) (Zb (Zd (pv 2)) (Zb (Zd (pv 1)) Ze)))))
  (Zh (Zy (i:=6) sc_l_one.nd rfl (Or.inl rfl) (VE.pure (Wc Wy Wz (Zd (pv 3)) (VD (Zb Zi Ze)))))
  (Zh (YI (VW.vt (NA (Vm hr.units (VM.ve (Zt C_l_pick (hr.mono (by decide)) rfl (Zb (Zd (pv 1)) (Zb Zi (Zb Zi Ze))))) Zi) (Q4 (K2 (Zp Zv ZL rfl B.len (by decide +kernel) (Zb (Zd (pv 3)) Ze)) Zi)))) (Zh (Zy (i:=7) sc_l_one.nd rfl (Or.inr rfl) (Zt C_l_pick (hr.mono (by decide)) rfl (Zb (Zd (pv 1)) (Zb Zi (Zb (Zp Zv ZL rfl B.len (by decide +kernel) (Zb (Zd (pv 3)) Ze)) Ze)))))
  (Zo (Zy (i:=6) sc_l_one.nd rfl (Or.inl rfl) (VE.pure (Wc Wy Wz (Yq (Zd (pv 3)) YN (Yz (Zd (pv 7)))) (Yq (Zd (pv 3)) (Yz (Z1 (Zd (pv 7)) Zi)) YN)))))) ZU)
  (Zh (YI (VW.vt (NA (XZ (Xe (VM.ve (Zt C_l_is_tree (hr.mono (by decide)) rfl (Zb (Zd (pv 0)) (Zb (Zd (pv 5)) Ze)))))) (Q4 (Vn hr.units (VM.ve (Zt C_l_caught (hr.mono (by decide)) rfl (Zb (Zd (pv 0)) (Zb (Zd (pv 5)) (Zb (Zd (pv 6)) Ze))))) (VF (Zb XU (Zb XU Ze))))))) (Zo (ZT (VE.pure XU))) ZU)
  (Zh (YI (Vn hr.units (VM.ve (Zt C_l_caught (hr.mono (by decide)) rfl (Zb (Zd (pv 0)) (Zb (Zd (pv 2)) (Zb (Zd (pv 6)) Ze))))) (VF (Zb XU (Zb XU Ze)))) (Zo (ZT (VE.pure XU))) ZU)
  (Zh (YI (VW.vt (NA (K2 (Zp Zv ZL rfl B.len (by decide +kernel) (Zb (Zd (pv 3)) Ze)) Zi) (Q4 (K2 (Zp Zv ZL rfl B.len (by decide +kernel) (Zb (Zd (pv 0)) Ze)) Zi)))) (Zh (Zy (i:=7) sc_l_one.nd rfl (Or.inr rfl) (Zt C_l_pick (hr.mono (by decide)) rfl (Zb (Zd (pv 1)) (Zb Zi (Zb (Zp Zv ZL rfl B.len (by decide +kernel) (Zb (Zd (pv 3)) Ze)) Ze)))))
  (Zh (Zy (i:=8) sc_l_one.nd rfl (Or.inl rfl) (VE.pure (ZF (Xa (["_law_k"]:List Str) (["_law_at_here","_law_web_here","_law_tree_here"]:List Str) [7,0,2] rfl (Yb rfl B.range (Zb (Zp Zv ZL rfl B.len (by decide +kernel) (Zb (Zd (pv 0)) Ze)) Ze)) (by kernel_rfl) (fun _ _ _ _ _=>(Zx (i:=0) (show((["_law_k"]:List Str)++(["_law_at_here","_law_web_here","_law_tree_here"]:List Str)).Nodup by decide +kernel) rfl (Or.inl rfl) (.inr rfl))) (fun _ _ _ _ _=>(SF (Ta hr.units (Zd (pv 0)) (ZF (VM.ve (Zt C_l_outside (hr.mono (by decide)) rfl (Zb (Zd (pv 2)) (Zb (Zd (pv 3)) Ze)))) (Zd (pv 1)))))) (fun _ _ _ _ _=>(Zd (pv 0)))) Zi)))
  (Zo (YI (Vn hr.units (VM.ve (Zt C_l_caught (hr.mono (by decide)) rfl (Zb (Zd (pv 0)) (Zb (Zd (pv 2)) (Zb (Wc Wy Wz (Wc Wy Wz (Yq (Zd (pv 3)) YN (Yz (Zd (pv 7)))) (VD (Zb (Zd (pv 8)) Ze))) (Yq (Zd (pv 3)) (Yz (Z1 (Zd (pv 7)) Zi)) YN)) Ze))))) (VF (Zb XU (Zb XU Ze)))) (Zo (ZT (VE.pure XU))) ZU)))) ZU)
  (Zo (ZT (VE.pure XU))))))))))))))
abbrev JU:Stmt:=RD 39
theorem sc_law:ZS (["_law_script","_law_web_here","_law_cell"]:List Str) (["_law_script"]:List Str) (Zr JU):=⟨rfl,rfl,rfl,by decide +kernel,rfl,by decide +kernel,by decide +kernel⟩
theorem F6{ff:Addr}{fd:FuncData}(Fn:Fun K "law" "law" JU ff fd)(B:S5 mg)(C_q_web:XA P w K mg base "_law_web" (["_law_script","_law_sizes","_law_most"]:List Str) (Y8 K Ui 3) 2)(C_l_at:XA P w K mg base "_law_at" (["_law_script","_law_k"]:List Str) (Y8 K ZQ 2) 1)(C_l_one:XA P w K mg base "_law_one" (["_law_web_here","_law_cell"]:List Str) (Y8 K Uk 2) 5):UC P w K mg base Nx 6 ff fd (["_law_script"]:List Str) (Y8 K D_law 1):=
 FP (O:=[]) (k:=5) 3 MU Fn sc_law rfl rfl (by decide) (fun fa cdv A outer s H E hr=>
  (Zh (Zy (i:=1) sc_law.nd rfl (Or.inl rfl) (Zt C_q_web (hr.mono (by decide)) rfl (Zb (Zd (pv 0)) (Zb (VF (Zb Zi (Zb Zi (Zb Zi (Zb Zi (Zb Zi Ze)))))) (Zb Zi Ze)))))
  (Zh (XC PassesOwn.never rfl (Ww (VM.ve (MJ (VF (Zb (VM.ve (Zt C_l_at (hr.mono (by decide)) rfl (Zb (Zd (pv 0)) (Zb Zi Ze)))) Ze)) (WO (Zd (pv 0)) (Yz Zi) (Yz Zi))))) (Zx (i:=2) sc_law.nd rfl (Or.inl rfl)) (Zo (YI (XZ (Xe (VM.ve (Zt C_l_one (hr.mono (by decide)) rfl (Zb (Zd (pv 1)) (Zb (Zd (pv 2)) Ze)))))) (Zo (ZT (VE.pure XU))) ZU)))
  (Zo (ZT (VE.pure XU))))))
end
end PW
namespace PW
open L2 VL
theorem JV(i:Int):Wm [.int i]=some (.bl true):=by
 simp[Wm,T2,X5,YO]
def Xv(W:List (List Int))(a b:Nat):List (List Int):=(List.range (Y1 W a b).toNat).map fun(t:Nat)=>[(a:Int),(b:Int),(t:Int)]
def WY(W:List (List Int))(a:Nat):List (List Int):=(List.range (W.length-(a+1))).flatMap fun j=>Xv W a (a+1+j)
def Yr(W:List (List Int)):List (List Int):=(List.range W.length).flatMap (WY W)
theorem Xb{α:Type}(f:Nat->List α)(i:Nat):(List.range (i+1)).flatMap f=(List.range i).flatMap f++f i:=by rw[List.range_succ,List.flatMap_append];simp
theorem N8{W:List (List Int)}(ok:Z7 W){a b:Nat}(ha:a<W.length)(hb:b<W.length):(Xv W a b).length<=9:=by
 have:=ok.hi a b ha hb
 unfold Xv;simp;omega
theorem Ka{W:List (List Int)}(ok:Z7 W){a b:Nat}(ha:a<W.length)(hb:b<W.length)(t:Option PV):Zw 1 [2,4] (ZO [Zf ZK (Za 3) (Za 4)]) (.one 0) ZG (eP (Xh [Za 1,Za 2,Za 0])) [some (wP W),t,some (.int (a:Int)),some (pP (ZN W a)),some (.int (b:Int))]=some (.lst ((Xv W a b).map pP)):=by
 have hr:=ok.sq a ha;have b1:=ok.lo a b ha hb;have b2:=ok.hi a b ha hb
 rw[Yd (List.range (Y1 W a b).toNat) (fun(i:Nat)=>.int (i:Int)) (fun(t:Nat)=>pP [(a:Int),(b:Int),(t:Int)]) ?_ (by simp;omega) (fun i hi=>⟨_,rfl,rfl,by simp[Yl]⟩)]
 ·simp[Xv]
 ·exact Yp (by simp[VP (show b<(ZN W a).length by omega)];show Y1 W a b=max (Y1 W a b) 0;omega) (by omega)
theorem N9{W:List (List Int)}(ok:Z7 W){a:Nat}(ha:a<W.length)(acc:List (List Int))(hacc:acc.length<=1000)(b0:Option PV) :
  ∃b',U8 (.one 4) (Xn 1 (Zw 1 [2,4] (ZO [Zf ZK (Za 3) (Za 4)]) (.one 0) ZG (eP (Xh [Za 1,Za 2,Za 0])))) (Wa ((a:Int)+1) (W.length-(a+1))) [some (wP W),some (.lst (acc.map pP)),some (.int (a:Int)),some (pP (ZN W a)),b0]
   = some (.nx [some (wP W),some (.lst ((acc++WY W a).map pP)),some (.int (a:Int)),some (pP (ZN W a)),b'])/\(WY W a).length<=63:=by
 have hf:=ok.few
 obtain⟨s',h1,b',h2,h3⟩:=YB (T:=.one 4) (fb:=Xn 1 (Zw 1 [2,4] (ZO [Zf ZK (Za 3) (Za 4)]) (.one 0) ZG (eP (Xh [Za 1,Za 2,Za 0])))) (ls:=Wa ((a:Int)+1) (W.length-(a+1))) (s:=[some (wP W),some (.lst (acc.map pP)),some (.int (a:Int)),some (pP (ZN W a)),b0])
  (fun j st=>∃b',st=[some (wP W),some (.lst ((acc++(List.range j).flatMap fun j=>Xv W a (a+1+j)).map pP)),some (.int (a:Int)),some (pP (ZN W a)),b']/\((List.range j).flatMap fun j=>Xv W a (a+1+j)).length<=9*j)
  ⟨b0,by simp,by simp⟩ (fun j l st hl hJ=>by
   obtain⟨hj,rfl⟩:=Td hl
   obtain⟨b',rfl,hlen⟩:=hJ
   have hb:a+1+j<W.length:=by omega
   have e1:(a:Int)+1+(j:Int)=((a+1+j:Nat):Int):=by omega
   rw[e1]
   have hc:=Ka ok ha hb (some (.lst ((acc++(List.range j).flatMap fun j=>Xv W a (a+1+j)).map pP)))
   have hl2:=N8 ok ha hb
   have hg:(acc.length+((List.range j).flatMap fun j=>Xv W a (a+1+j)).length)+(Xv W a (a+1+j)).length<=10000:=by omega
   refine⟨_,_,rfl,?_,some (.int ((a+1+j:Nat):Int)),rfl,?_⟩
   ·refine(Rt hc rfl (by rw[List.length_map,List.length_map,List.length_append];exact hg)).trans ?_
    simp[Xb]
   ·rw[Xb,List.length_append];omega)
 rw[Ot] at h2 h3
 refine⟨b',?_,?_⟩
 ·rw[h1,h2];rfl
 ·have:WY W a=(List.range (W.length-(a+1))).flatMap fun j=>Xv W a (a+1+j):=rfl
  rw[this];omega
theorem Vk{W:List (List Int)}(ok:Z7 W):Yf [wP W]=some (.lst ((Yr W).map pP))/\(Yr W).length<=441:=by
 have hf:=ok.few
 have enumW:WN (W.map pP)=(List.range W.length).map fun(i:Nat)=>.tup [.int (i:Int),pP (ZN W i)]:=by
  rw[Sj,List.length_map]
  apply List.map_congr_left
  intro i hi;rw[Jo W i (List.mem_range.mp hi)]
 obtain⟨s',h1,x,y,z,h2,h3⟩:=YB (T:=.many [2,3]) (fb:=Xf [1] (Xw [Zf ZD (Za 2) (eC (.int 1)),Zc Zq [Za 0]]) (.one 4) (Xn 1 (Zw 1 [2,4] (ZO [Zf ZK (Za 3) (Za 4)]) (.one 0) ZG (eP (Xh [Za 1,Za 2,Za 0]))))) (ls:=WN (W.map pP)) (s:=[some (wP W),some (.lst []),none,none,none])
  (fun i st=>∃x y z,st=[some (wP W),some (.lst (((List.range i).flatMap (WY W)).map pP)),x,y,z]/\((List.range i).flatMap (WY W)).length<=63*i)
  ⟨none,none,none,by simp,by simp⟩ (fun i l st hl hJ=>by
   obtain⟨x,y,z,rfl,hlen⟩:=hJ
   have hi:i<W.length:=by
    have:=(List.getElem?_eq_some_iff.mp hl).1
    rw[V7,List.length_map] at this;exact this
   rw[enumW,List.getElem?_map,List.getElem?_range hi] at hl;cases hl
   obtain⟨b',e1,e2⟩:=N9 ok hi ((List.range i).flatMap (WY W)) (by omega) z
   refine⟨_,_,rfl,?_,some (.int (i:Int)),some (pP (ZN W i)),b',rfl,?_⟩
   ·have hr:Xw [Zf ZD (Za 2) (eC (.int 1)),Zc Zq [Za 0]] (Yc [1] [some (wP W),some (.lst (((List.range i).flatMap (WY W)).map pP)),some (.int (i:Int)),some (pP (ZN W i)),z])=some (Wa ((i:Int)+1) (W.length-(i+1))):=by
     rw[Uc (i:=(i:Int)+1) (j:=(W.length:Int)) (by simp[Yc]) (by simp[Yc]) ⟨by omega,by omega⟩ ⟨by omega,by omega⟩]
     congr 2;omega
    show Xf _ _ _ _ [some (wP W),_,some (.int (i:Int)),some (pP (ZN W i)),z]=_
    rw[Rr,hr];simp only[Option.bind_some];rw[e1,Xb]
   ·rw[Xb,List.length_append];omega)
 rw[V7,List.length_map] at h2 h3
 refine⟨?_,by have:Yr W=(List.range W.length).flatMap (WY W):=rfl;rw[this];omega⟩
 have hs:X5 5 Ue [wP W]=some (.lst ((Yr W).map pP)):=by
  unfold Ue;simp only[X5,YO,List.map_cons,List.map_nil,List.length_cons,List.length_nil,Rp,Zl,Ji,Hk,Option.map_some,Option.bind_some];rw[Rr];simp only[Qz]
  have:(Yc [1] (([some (wP W)]++List.replicate (5-(0+1)) none:ZP).set 1 (some (.lst []))))=[some (wP W),none,none,none,none]:=rfl
  rw[this];simp only[Jh,List.getElem?_cons_zero,Option.join_some,Option.bind_some,FV,Option.map_some]
  show((U8 _ _ (WN (W.map pP)) [some (wP W),some (.lst []),none,none,none]).bind _).bind X1=_
  rw[h1,h2];rfl
 exact hs
def tk(e:Cz):List Sq:=[.inl (e.1:Int),.inl (e.2.1:Int)]
def PF(W:List (List Int)):Prop:=∀P:Nat->Prop,(∀a b,a<W.length->b<W.length->0<Y1 W a b->(P a↔P b))->∀i j,i<W.length->j<W.length->(P i↔P j)
theorem OW:∀{l m:List Int},l.Nodup->(∀x∈l,x∈m)->l.length<=m.length
 | [],m,_,_=>Nat.zero_le _
 | x::r,m,nd,h=>by
  have hx:x∈m:=h x (by simp)
  have nd':=List.nodup_cons.mp nd
  have:=OW (l:=r) (m:=m.erase x) nd'.2 fun y hy=>(List.mem_erase_of_ne (show y≠x from fun z=>nd'.1 (by rw[<-z];exact hy))).mpr (h y (by simp[hy]))
  rw[List.length_erase_of_mem hx] at this;have hp:=List.length_pos_of_mem hx
  rw[List.length_cons];omega
theorem Ci{n:Nat}{l:List Int}(nd:l.Nodup)(h:∀x∈l,∃k:Nat,k<n/\x=(k:Int))(hl:l.length=n){j:Nat}(hj:j<n):(j:Int)∈l:=by
 by_cases q:(j:Int)∈l
 ·exact q
 ·have:=OW (l:=(j:Int)::l) (m:=(List.range n).map fun(k:Nat)=>(k:Int)) (List.nodup_cons.mpr ⟨q,nd⟩) (fun x hx=>by
   rcases List.mem_cons.mp hx with rfl | hx
   ·exact List.mem_map.mpr ⟨j,List.mem_range.mpr hj,rfl⟩
   ·obtain⟨k,hk,rfl⟩:=h x hx
    exact List.mem_map.mpr ⟨k,List.mem_range.mpr hk,rfl⟩)
  rw[List.length_cons,List.length_map,List.length_range] at this;omega
def rL(M:List (List Int)):List PV:=M.map fun r=>.lst (iL r)
theorem Ma{M:List (List Int)}{a:Nat}(h:a<M.length):(rL M)[a]?=some (.lst (iL (ZN M a))):=by
 unfold rL
 rw[List.getElem?_map,S6 h];rfl
theorem JW{M:List (List Int)}{a b:Nat}{t:Int}:(rL M).set a (.lst ((iL (ZN M a)).set b (.int t)))=rL (WM M a b t):=by
 unfold rL WM;rw[List.map_set]
 show _=(List.map (fun r=>PV.lst (iL r)) M).set a (PV.lst (((ZN M a).set b t).map PV.int))
 rw[List.map_set]
theorem F7(l:List Int)(k:Nat)(x:Int):(iL l).take k++PV.int x::(iL l).drop k=iL (l.take k++x::l.drop k):=by
 show(l.map PV.int).take k++PV.int x::(l.map PV.int).drop k=(l.take k++x::l.drop k).map PV.int
 rw[List.map_append,List.map_cons,List.map_take,List.map_drop]
theorem Zz{f g:XS}{s s1:ZP}(e1:f s=some (.nx s1)):Zm f g s=g s1:=by
 simp only[Rp,e1,Option.bind_some]
theorem HS{a b:List Int}(hl:a.length=b.length)(h:∀i,i<a.length->YJ a i=YJ b i):a=b:=by
 rw[<-TU a,<-TU b,hl]
 apply List.map_congr_left
 intro i hi
 exact h i (by rw[hl];exact List.mem_range.mp hi)
theorem MV{W:List (List Int)}(ok:Z7 W){i:Nat}(hi:i<W.length):(ZN W i).sum=((List.range W.length).map fun j=>Y1 W i j).sum:=by
 rw[<-IV (ZN W i),ok.sq i hi];rfl
theorem Mb{W:List (List Int)}(ok:Z7 W):((Yr W).length:Int)=((List.range W.length).map fun a=>((List.range (W.length-(a+1))).map fun j=>Y1 W a (a+1+j)).sum).sum:=by
 have len_flat:∀(f:Nat->List (List Int))(n:Nat),(((List.range n).flatMap f).length:Int)=((List.range n).map fun i=>((f i).length:Int)).sum:=by
  intro f n
  induction n with
  | zero=>rfl
  | succ n ih=>rw[Xb,List.length_append,XB,<-ih];omega
 unfold Yr;rw[len_flat]
 apply Wl
 intro a ha;unfold WY;rw[len_flat]
 apply Wl
 intro j hj
 have:=ok.lo a (a+1+j) ha (by omega)
 unfold Xv
 rw[List.length_map,List.length_range];omega
theorem JX{W:List (List Int)}(ok:Z7 W):((List.range W.length).map fun i=>(ZN W i).sum).sum=2*((Yr W).length:Int):=by
 rw[Mb ok,<-KS (fun i j=>Y1 W i j) W.length (fun i j hi hj=>ok.sym i j hi hj) (fun i hi=>ok.dia i hi)]
 apply Wl
 intro i hi
 exact MV ok hi
theorem nth_set{l:List Int}{h i:Nat}{v:Int}(hi:i<l.length):YJ (l.set h v) i=if i=h then v else YJ l i:=by
 unfold YJ;rw[List.getD_eq_getElem?_getD,List.getD_eq_getElem?_getD,List.getElem?_set]
 by_cases e:h=i
 ·subst e
  rw[if_pos rfl,if_pos rfl,if_pos hi];rfl
 ·rw[if_neg e,if_neg (Ne.symm e)]
theorem F8(l:List Int)(k:Nat):Xq (iL l) none (some (k:Int))=iL (l.take k):=by
 unfold Xq;rw[HT.sIx_none,HT.sIx_nat,List.length_map,List.drop_zero,Nat.sub_zero,<-List.map_take]
 congr 1
 by_cases h:k<=l.length
 ·rw[Nat.min_eq_left h]
 ·rw[Nat.min_eq_right (by omega),List.take_of_length_le (Nat.le_refl _),List.take_of_length_le (by omega)]
theorem F9(l:List Int)(k:Nat):Xq (iL l) (some (k:Int)) none=iL (l.drop k):=by
 unfold Xq;rw[HT.sIx_none,HT.sIx_nat,List.length_map,<-List.map_drop,<-List.map_take]
 congr 1
 by_cases h:k<=l.length
 ·rw[Nat.min_eq_left h,List.take_of_length_le (by rw[List.length_drop];omega)]
 ·rw[Nat.min_eq_right (by omega),List.drop_eq_nil_of_le (Nat.le_refl _),List.drop_eq_nil_of_le (by omega)];simp
theorem HU{l:List Int}{x:Int}(h:x∈l):∃i,i<l.length/\YJ l i=x:=by
 obtain⟨i,hi,e⟩:=List.getElem_of_mem h
 refine⟨i,hi,?_⟩
 unfold YJ
 rw[List.getD_eq_getElem?_getD,List.getElem?_eq_getElem hi,e];rfl
end PW
namespace PW
def sN:Nat->(Nat->Int)->Int
 | 0,_=>0
 | n+1,f=>sN n f+f n
theorem YU{f g:Nat->Int}:∀{n:Nat},(∀i,i<n->f i=g i)->sN n f=sN n g
 | 0,_=>rfl
 | n+1,h=>by
  show sN n f+f n=sN n g+g n
  rw[YU fun i hi=>h i (by omega),h n (by omega)]
theorem SN{f:Nat->Int}{n:Nat}(h:∀i,i<n->f i=0):sN n f=0:=by
 rw[YU (g:=fun _=>0) h]
 clear h
 induction n with
 | zero=>rfl
 | succ n ih=>show sN n _+0=0;rw[ih];rfl
theorem UO(f g:Nat->Int):∀n,sN n (fun i=>f i+g i)=sN n f+sN n g
 | 0=>rfl
 | n+1=>by
  show sN n _+(f n+g n)=(sN n f+f n)+(sN n g+g n)
  rw[UO f g n];omega
theorem JY(c:Int)(f:Nat->Int):∀n,sN n (fun i=>c*f i)=c*sN n f
 | 0=>by show(0:Int)=c*0;simp
 | n+1=>by
  show sN n _+c*f n=c*(sN n f+f n)
  rw[JY c f n,Int.mul_add]
theorem WG{f:Nat->Int}{k:Nat}:∀{n:Nat},k<n->(∀i,i<n->i≠k->f i=0)->sN n f=f k
 | 0,h,_=>by omega
 | n+1,h,z=>by
  show sN n f+f n=f k
  by_cases q:k=n
  ·subst q
   rw[SN fun i hi=>z i (by omega) (by omega)];omega
  ·rw[WG (n:=n) (by omega) fun i hi=>z i (by omega),z n (by omega) (by omega)];omega
theorem MW(f:Nat->Int)(n:Nat):((List.range n).map f).sum=sN n f:=by
 induction n with
 | zero=>rfl
 | succ n ih=>rw[List.range_succ,List.map_append,List.sum_append,ih];simp[sN]
abbrev Mt:=Nat->Nat->Int
def CI(i:Nat)(A:Mt):Mt:=fun r c=>A (if r<i then r else r+1) (c+1)
abbrev Yt:=Nat×Nat
def ind(a b:Nat):Int:=if a=b then 1 else 0
def Dk(n:Nat):List Yt:=(List.range n).flatMap fun a=>(List.range (n-(a+1))).map fun j=>(a,a+1+j)
theorem mem_prs{n a b:Nat}:(a,b)∈Dk n↔a<b/\b<n:=by
 unfold Dk;simp only[List.mem_flatMap,List.mem_range,List.mem_map,Prod.mk.injEq];constructor
 ·rintro⟨x,hx,j,hj,rfl,rfl⟩;omega
 ·rintro⟨h1,h2⟩
  exact⟨a,by omega,b-(a+1),by omega,rfl,by omega⟩
def MX(n:Nat)(w:Nat->Nat->Int):List Yt:=(Dk n).flatMap fun p=>List.replicate (w p.1 p.2).toNat p
end PW
namespace PK
open PW
theorem JZ{f:Nat->Int}{n p q:Nat}(hp:p<n)(hq:q<n)(ne:p≠q)(h:∀i,i<n->i≠p->i≠q->f i=0):sN n f=f p+f q:=by
 have e:sN n f=sN n (fun i=>(if i=p then f p else 0)+(if i=q then f q else 0)):=YU fun i hi=>by
  by_cases a:i=p
  ·subst a;simp[ne]
  ·by_cases b:i=q
   ·subst b;simp[a]
   ·simp[a,b,h i hi a b]
 rw[e,UO,WG (k:=p) hp (fun i _ hi=>if_neg hi),WG (k:=q) hq (fun i _ hi=>if_neg hi),if_pos rfl,if_pos rfl]
theorem J0(f g:Nat->Int)(n:Nat):sN n (fun i=>f i-g i)=sN n f-sN n g:=by
 have:sN n (fun i=>f i-g i)=sN n (fun i=>f i+(-1)*g i):=YU fun i _=>by omega
 rw[this,UO,JY];omega
def Y7(m:Nat->Nat)(G:List Nat)(v:Nat):Bool:=G.any fun g=>m g==v
theorem hasM_iff{m:Nat->Nat}{G:List Nat}{v:Nat}:Y7 m G v=true↔∃g,g∈G/\m g=v:=by
 unfold Y7;simp[List.any_eq_true]
def b1(b:Bool):Int:=if b=true then 1 else 0
def SO(n:Nat)(m:Nat->Nat)(G:List Nat):Int:=sN n fun v=>b1 (Y7 m G v)
def ZE(m:Nat->Nat)(a b:Nat):Nat->Nat:=fun x=>if m x=m a then m b else m x
theorem Dl{m:Nat->Nat}{a b:Nat}{G:List Nat}(ne:m a≠m b):Y7 (ZE m a b) G (m a)=false:=by
 cases q:Y7 (ZE m a b) G (m a) with
 | false=>rfl
 | true=>
  obtain⟨g,_,e⟩:=hasM_iff.mp q
  unfold ZE at e
  split at e
  ·exact absurd e.symm ne
  ·rename_i z;exact absurd e z
theorem Dm{m:Nat->Nat}{a b:Nat}{G:List Nat}:Y7 (ZE m a b) G (m b)=(Y7 m G (m a) || Y7 m G (m b)):=by
 rw[Bool.eq_iff_iff,Bool.or_eq_true,hasM_iff,hasM_iff,hasM_iff];constructor
 ·rintro⟨g,hg,e⟩
  unfold ZE at e
  split at e
  ·rename_i z;exact .inl ⟨g,hg,z⟩
  ·exact .inr ⟨g,hg,e⟩
 ·rintro(⟨g,hg,e⟩ | ⟨g,hg,e⟩)
  ·exact⟨g,hg,by unfold ZE;rw[if_pos e]⟩
  ·exact⟨g,hg,by unfold ZE;split<;>first | rfl | exact e⟩
theorem Dn{m:Nat->Nat}{a b v:Nat}{G:List Nat}(h1:v≠m a)(h2:v≠m b):Y7 (ZE m a b) G v=Y7 m G v:=by
 rw[Bool.eq_iff_iff,hasM_iff,hasM_iff];constructor
 ·rintro⟨g,hg,e⟩
  unfold ZE at e
  split at e
  ·exact absurd e.symm h2
  ·exact⟨g,hg,e⟩
 ·rintro⟨g,hg,e⟩
  exact⟨g,hg,by unfold ZE;rw[if_neg (by rw[e];exact h1)];exact e⟩
theorem RI{n:Nat}{m:Nat->Nat}{a b:Nat}{G:List Nat}(ha:m a<n)(hb:m b<n)(ne:m a≠m b):SO n (ZE m a b) G=SO n m G-b1 (Y7 m G (m a)&&Y7 m G (m b)):=by
 have e:SO n (ZE m a b) G-SO n m G=sN n (fun v=>b1 (Y7 (ZE m a b) G v)-b1 (Y7 m G v)):=(J0 _ _ n).symm
 rw[JZ ha hb ne (fun i _ h1 h2=>by rw[Dn h1 h2];omega),Dl ne,Dm] at e
 have:b1 false-b1 (Y7 m G (m a))+(b1 (Y7 m G (m a) || Y7 m G (m b))-b1 (Y7 m G (m b))) = - b1 (Y7 m G (m a)&&Y7 m G (m b)):=by
  cases Y7 m G (m a)<;>cases Y7 m G (m b)<;>decide
 omega
theorem J1(b:Bool):0<=b1 b:=by cases b<;>decide
theorem Dp(b:Bool):b1 b<=1:=by cases b<;>decide
def Kb(G:List Nat)(e:Yt):Bool:=decide (e.1∈G)&&decide (e.2∈G)
def Ur(G:List Nat)(E:List Yt):Int:=(E.map fun e=>b1 (Kb G e)).sum
theorem QJ(G:List Nat)(E:List Yt)(e:Yt):Ur G (E++[e])=Ur G E+b1 (Kb G e):=by unfold Ur;simp
structure MkOk(n:Nat)(m:Nat->Nat)(T:List Yt):Prop where
 lt:∀x,x<n->m x<n
 le:∀G:List Nat,G.Nodup->(∀g∈G,g<n)->Ur G T+SO n m G<=G.length
 eq:Ur (List.range n) T+SO n m (List.range n)=n
 inn:∀e∈T,e.1<n/\e.2<n
theorem MY:∀{l m:List Nat},l.Nodup->(∀x∈l,x∈m)->l.length<=m.length
 | [],m,_,_=>Nat.zero_le _
 | x::l,m,nd,sub=>by
  have nd':=List.nodup_cons.mp nd
  have hx:=sub x (by simp)
  have:=MY (l:=l) (m:=m.erase x) nd'.2 fun y hy=>(List.mem_erase_of_ne (fun z:y=x=>nd'.1 (by rw[<-z];exact hy))).mpr (sub y (by simp[hy]))
  rw[List.length_erase_of_mem hx] at this
  have:0<m.length:=List.length_pos_of_mem hx
  simp only[List.length_cons];omega
theorem Sa(p:Nat->Bool):∀n,sN n (fun v=>b1 (p v))=(((List.range n).filter p).length:Int)
 | 0=>rfl
 | n+1=>by
  show sN n _+b1 (p n)=_
  rw[Sa p n,List.range_succ,List.filter_append,List.length_append]
  cases h:p n<;>simp[List.filter,h,b1]
theorem MkOk.start(n:Nat):MkOk n (fun x=>x) []:=by
 have hid:∀(G:List Nat)(v:Nat),Y7 (fun x=>x) G v=decide (v∈G):=fun G v=>by
  rw[Bool.eq_iff_iff,hasM_iff,decide_eq_true_eq]
  exact⟨fun⟨g,h,e⟩=>e▸h,fun h=>⟨v,h,rfl⟩⟩
 refine⟨fun x h=>h,fun G nd hG=>?_,?_,by simp⟩
 ·unfold SO
  rw[YU (g:=fun v=>b1 (decide (v∈G))) fun i _=>by rw[hid],Sa]
  have:=MY (l:=(List.range n).filter fun v=>decide (v∈G)) (m:=G) (List.nodup_range.filter _) (fun x hx=>by
   have:=(List.mem_filter.mp hx).2
   simpa using this)
  show(0:Int)+_<=_
  omega
 ·unfold SO
  rw[YU (g:=fun v=>b1 (decide (v∈List.range n))) fun i _=>by rw[hid],Sa]
  rw[List.filter_eq_self.mpr fun a ha=>by simpa using ha]
  show(0:Int)+_=_
  simp
theorem MkOk.step{n:Nat}{m:Nat->Nat}{T:List Yt}{a b:Nat}(h:MkOk n m T)(ha:a<n)(hb:b<n)(ne:m a≠m b):MkOk n (ZE m a b) (T++[(a,b)]):=by
 have la:=h.lt a ha;have lb:=h.lt b hb
 have has:∀{G:List Nat}{x:Nat},x∈G->Y7 m G (m x)=true:=fun{G x} hx=>hasM_iff.mpr ⟨x,hx,rfl⟩
 refine⟨fun x hx=>?_,fun G nd hG=>?_,?_,fun e he=>?_⟩
 ·unfold ZE;split
  ·exact lb
  ·exact h.lt x hx
 ·have:=h.le G nd hG
  rw[QJ,RI la lb ne]
  cases q:Kb G (a,b) with
  | true=>
   unfold Kb at q;simp only[Bool.and_eq_true,decide_eq_true_eq] at q;rw[has q.1,has q.2]
   show _+b1 true+(_-b1 true)<=_
   omega
  | false=>
   have:=J1 (Y7 m G (m a)&&Y7 m G (m b))
   show _+(0:Int)+_<=_
   omega
 ·have:=h.eq
  rw[QJ,RI la lb ne]
  have q:Kb (List.range n) (a,b)=true:=by unfold Kb;simp[ha,hb]
  rw[q,has (List.mem_range.mpr ha),has (List.mem_range.mpr hb)]
  show _+b1 true+(_-b1 true)=_
  omega
 ·rcases List.mem_append.mp he with z | z
  ·exact h.inn e z
  ·rw[List.mem_singleton.mp z];exact⟨ha,hb⟩
theorem MkOk.few{n:Nat}{m:Nat->Nat}{T:List Yt}(h:MkOk n m T){G:List Nat}(nd:G.Nodup)(hG:∀g∈G,g<n)(ne:G≠[]):Ur G T<=(G.length:Int)-1:=by
 have h1:=h.le G nd hG
 obtain⟨g,hg⟩:=List.exists_mem_of_ne_nil G ne
 have h2:(1:Int)<=SO n m G:=by
  have lg:=h.lt g (hG g hg)
  unfold SO
  have le:sN n (fun v=>if v=m g then(1:Int) else 0)<=sN n fun v=>b1 (Y7 m G v):=by
   have:0<=sN n (fun v=>b1 (Y7 m G v)-(if v=m g then(1:Int) else 0)):=by
    have nn:∀k,0<=sN k (fun v=>b1 (Y7 m G v)-(if v=m g then(1:Int) else 0)):=by
     intro k
     induction k with
     | zero=>exact Int.le_refl _
     | succ k ih=>
      show 0<=sN k _+(b1 (Y7 m G k)-(if k=m g then(1:Int) else 0))
      by_cases z:k=m g
      ·rw[z,hasM_iff.mpr ⟨g,hg,rfl⟩,if_pos rfl]
       show 0<=sN (m g) _+((1:Int)-1)
       rw[z] at ih;omega
      ·rw[if_neg z]
       have:=J1 (Y7 m G k)
       omega
    exact nn n
   rw[J0] at this;omega
  rw[WG lg fun i _ hi=>if_neg hi,if_pos rfl] at le;exact le
 omega
theorem MkOk.all{n:Nat}{m:Nat->Nat}{T:List Yt}(h:MkOk n m T)(hn:0<n)(one:∀x,x<n->m x=m 0):(T.length:Int)=n-1:=by
 have e:=h.eq
 have e1:Ur (List.range n) T=T.length:=by
  have:∀T:List Yt,(∀e∈T,e.1<n/\e.2<n)->Ur (List.range n) T=T.length:=by
   intro T
   induction T with
   | nil=>intro _;rfl
   | cons e T ih=>
    intro hh
    have q:Kb (List.range n) e=true:=by
     have:=hh e (by simp)
     unfold Kb;simp[this.1,this.2]
    have:=ih fun x hx=>hh x (by simp[hx])
    unfold Ur at this ⊢
    rw[List.map_cons,List.sum_cons,this,q,List.length_cons]
    show(1:Int)+_=_
    omega
  exact this T h.inn
 have e2:SO n m (List.range n)=1:=by
  unfold SO;rw[WG (k:=m 0) (h.lt 0 hn) fun i hi ni=>?_]
  ·rw[hasM_iff.mpr ⟨0,List.mem_range.mpr hn,rfl⟩];rfl
  ·cases q:Y7 m (List.range n) i with
   | false=>rfl
   | true=>
    obtain⟨g,hg,eg⟩:=hasM_iff.mp q
    rw[one g (List.mem_range.mp hg)] at eg
    exact absurd eg.symm ni
 omega
theorem RJ{α:Type}:∀{l:List α}{p:Nat}(h:p<l.length),(l[p]::l.eraseIdx p).Perm l
 | a::l,0,h=>List.Perm.refl _
 | a::l,p+1,h=>by
  have:=RJ (l:=l) (p:=p) (by simpa using h)
  simp only[List.getElem_cons_succ,List.eraseIdx_cons_succ]
  exact(List.Perm.swap _ _ _).trans (this.cons a)
def ZM(E:List Yt)(i:Nat):Yt:=E.getD i (0,0)
structure TrOk(n:Nat)(E:List Yt)(m:Nat->Nat)(F L:List Nat):Prop where
 mark:MkOk n m (F.map (ZM E))
 nd:(F++L).Nodup
 inn:∀i∈F++L,i<E.length
 done:∀i,i<E.length->i∉L->m (ZM E i).1=m (ZM E i).2
theorem TrOk.start(n:Nat)(E:List Yt):TrOk n E (fun x=>x) [] (List.range E.length):=
 ⟨MkOk.start n,by simpa using List.nodup_range,fun i hi=>by simpa using hi,fun i hi hn=>absurd (List.mem_range.mpr hi) hn⟩
theorem RK{m:Nat->Nat}{a b x y:Nat}(h:m x=m y):ZE m a b x=ZE m a b y:=by unfold ZE;rw[h]
theorem TrOk.step{n:Nat}{E:List Yt}{m:Nat->Nat}{F L:List Nat}{p:Nat}(h:TrOk n E m F L)(hE:∀e∈E,e.1<n/\e.2<n)(hp:p<L.length) :
  (m (ZM E L[p]).1≠m (ZM E L[p]).2->TrOk n E (ZE m (ZM E L[p]).1 (ZM E L[p]).2) (F++[L[p]]) (L.eraseIdx p))/\
  (m (ZM E L[p]).1=m (ZM E L[p]).2->TrOk n E m F (L.eraseIdx p)):=by
 have pm:(L[p]::L.eraseIdx p).Perm L:=RJ hp
 have li:L[p]<E.length:=h.inn _ (List.mem_append_right _ (List.getElem_mem hp))
 have eE:ZM E L[p]∈E:=by
  unfold ZM;rw[List.getD_eq_getElem?_getD,List.getElem?_eq_getElem li]
  exact List.getElem_mem li
 have sub:∀i∈L.eraseIdx p,i∈L:=fun i hi=>List.mem_of_mem_eraseIdx hi
 constructor
 ·intro ne
  refine⟨?_,?_,fun i hi=>?_,fun i hi hn=>?_⟩
  ·rw[List.map_append]
   exact h.mark.step (hE _ eE).1 (hE _ eE).2 ne
  ·have:(F++[L[p]]++L.eraseIdx p).Perm (F++L):=by
    rw[List.append_assoc]
    exact List.Perm.append_left F pm
   exact(this.nodup_iff).mpr h.nd
  ·rw[List.append_assoc] at hi
   rcases List.mem_append.mp hi with z | z
   ·exact h.inn i (List.mem_append_left _ z)
   ·rcases List.mem_append.mp z with z | z
    ·rw[List.mem_singleton.mp z];exact li
    ·exact h.inn i (List.mem_append_right _ (sub i z))
  ·by_cases e:i=L[p]
   ·subst e
    unfold ZE;rw[if_pos rfl]
    split
    ·rfl
    ·rfl
   ·refine RK (h.done i hi fun z=>?_)
    rcases List.mem_cons.mp (pm.mem_iff.mpr z) with y | y
    ·exact e y
    ·exact hn y
 ·intro eq
  refine⟨h.mark,?_,fun i hi=>?_,fun i hi hn=>?_⟩
  ·have:=h.nd
   rw[List.nodup_append] at this ⊢
   exact⟨this.1,this.2.1.sublist (List.eraseIdx_sublist _ _),fun a ha b hb=>this.2.2 a ha b (sub b hb)⟩
  ·rcases List.mem_append.mp hi with z | z
   ·exact h.inn i (List.mem_append_left _ z)
   ·exact h.inn i (List.mem_append_right _ (sub i z))
  ·by_cases e:i=L[p]
   ·subst e;exact eq
   ·refine h.done i hi fun z=>?_
    rcases List.mem_cons.mp (pm.mem_iff.mpr z) with y | y
    ·exact e y
    ·exact hn y
def Yu(E:List Yt)(F:List Nat):List Nat:=(List.range E.length).filter fun k=>decide (k∉F)
def RL(β:Nat->Bool)(k:Nat)(e:Yt):Nat:=if β k=true then e.2 else e.1
def X8(β:Nat->Bool):Nat->List Yt->List Nat
 | _,[]=>[]
 | k,e::S=>RL β k e::X8 β (k+1) S
theorem Sb(β:Nat->Bool):∀(S:List Yt)(k:Nat),(X8 β k S).length=S.length
 | [],k=>rfl
 | e::S,k=>by rw[X8,List.length_cons,List.length_cons,Sb β S]
theorem OX{β:Nat->Bool}{n:Nat}:∀{S:List Yt}{k:Nat},(∀e∈S,e.1<n/\e.2<n)->∀x∈X8 β k S,x<n
 | [],k,_,x,h=>by simp[X8] at h
 | e::S,k,hS,x,h=>by
  rw[X8] at h
  rcases List.mem_cons.mp h with rfl | h
  ·have:=hS e (by simp)
   unfold RL
   split
   ·exact this.2
   ·exact this.1
  ·exact OX (fun e he=>hS e (by simp[he])) x h
def XN(m:Nat->Nat):List Yt->Nat->Nat
 | []=>m
 | e::T=>XN (ZE m e.1 e.2) T
def Et(e:Yt):Yt:=(e.2,e.1)
theorem OY:∀{T:List Yt}{m:Nat->Nat}{x y:Nat},m x=m y->XN m T x=XN m T y
 | [],m,x,y,h=>h
 | e::T,m,x,y,h=>OY (T:=T) (RK h)
theorem Mc(m:Nat->Nat)(a b:Nat):ZE m a b a=ZE m a b b:=by
 unfold ZE;rw[if_pos rfl]
 split<;>rfl
theorem RM:∀{T:List Yt}{m:Nat->Nat},∀e∈T,XN m T e.1=XN m T e.2
 | [],m,e,h=>by simp at h
 | f::T,m,e,h=>by
  rcases List.mem_cons.mp h with rfl | h
  ·exact OY (T:=T) (Mc m _ _)
  ·exact RM (T:=T) e h
theorem OZ{n:Nat}{q:Nat->Nat}:∀{T:List Yt}{m:Nat->Nat},(∀e∈T,q e.1=q e.2/\e.1<n/\e.2<n)->(∀x y,x<n->y<n->m x=m y->q x=q y)->∀x y,x<n->y<n->XN m T x=XN m T y->q x=q y
 | [],m,_,h,x,y,hx,hy,e=>h x y hx hy e
 | f::T,m,hT,h,x,y,hx,hy,e=>by
  obtain⟨qe,l1,l2⟩:=hT f (by simp)
  refine OZ (T:=T) (fun e he=>hT e (by simp[he])) (fun x y hx hy e=>?_) x y hx hy e
  unfold ZE at e
  split at e
  ·rename_i z1
   split at e
   ·rename_i z2
    rw[h x _ hx l1 z1,h y _ hy l1 z2]
   ·rw[h x _ hx l1 z1,qe,h _ y l2 hy e]
  ·split at e
   ·rename_i z2
    rw[h x _ hx l2 e,<-qe,h y _ hy l1 z2]
   ·exact h x y hx hy e
theorem O0{m:Nat->Nat}{a b:Nat}(h:m a=m b):ZE m a b=m:=by
 funext x
 unfold ZE
 split
 ·rename_i z;rw[z,h]
 ·rfl
theorem Md{n:Nat}:∀{T:List Yt}{m:Nat->Nat},(∀e∈T,e.1<n/\e.2<n)->(∀x,x<n->m x<n)->∀x,x<n->XN m T x<n
 | [],m,_,h,x,hx=>h x hx
 | f::T,m,hT,h,x,hx=>Md (T:=T) (fun e he=>hT e (by simp[he])) (fun x hx=>by
   unfold ZE
   split
   ·exact h _ (hT f (by simp)).2
   ·exact h x hx) x hx
theorem Me{n:Nat}(G:List Nat):∀{T:List Yt}{m:Nat->Nat},(∀e∈T,e.1<n/\e.2<n)->(∀x,x<n->m x<n)->SO n m G-(T.length:Int)<=SO n (XN m T) G
 | [],m,_,h=>by show SO n m G-(0:Int)<=SO n m G;omega
 | f::T,m,hT,h=>by
  have hf:=hT f (by simp)
  have lt:∀x,x<n->ZE m f.1 f.2 x<n:=fun x hx=>by
   unfold ZE
   split
   ·exact h _ hf.2
   ·exact h x hx
  have ih:=Me G (T:=T) (m:=ZE m f.1 f.2) (fun e he=>hT e (by simp[he])) lt
  have st:SO n m G-1<=SO n (ZE m f.1 f.2) G:=by
   by_cases q:m f.1=m f.2
   ·rw[O0 q];omega
   ·rw[RI (h _ hf.1) (h _ hf.2) q]
    have:=Dp (Y7 m G (m f.1)&&Y7 m G (m f.2))
    omega
  show SO n m G-((T.length+1:Nat):Int)<=SO n (XN (ZE m f.1 f.2) T) G
  omega
theorem PH:∀(A B:List Yt)(m:Nat->Nat),XN m (A++B)=XN (XN m A) B
 | [],B,m=>rfl
 | e::A,B,m=>PH A B (ZE m e.1 e.2)
theorem Ea{n:Nat}{m:Nat->Nat}(hn:0<n)(lt:∀x,x<n->m x<n)(one:∀x,x<n->m x=m 0):SO n m (List.range n)=1:=by
 unfold SO;rw[WG (k:=m 0) (lt 0 hn) fun i hi ni=>?_]
 ·rw[hasM_iff.mpr ⟨0,List.mem_range.mpr hn,rfl⟩];rfl
 ·cases q:Y7 m (List.range n) i with
  | false=>rfl
  | true=>
   obtain⟨g,hg,eg⟩:=hasM_iff.mp q
   rw[one g (List.mem_range.mp hg)] at eg
   exact absurd eg.symm ni
theorem Dq(n:Nat):SO n (fun x=>x) (List.range n)=n:=by
 have:=(MkOk.start n).eq
 have z:Ur (List.range n) []=0:=rfl
 omega
theorem HV{n:Nat}{T:List Yt}(hn:0<n)(hT:∀e∈T,e.1<n/\e.2<n)(len:(T.length:Int)=n-1)(one:∀x,x<n->XN (fun x=>x) (T.map Et) x=XN (fun x=>x) (T.map Et) 0){A B:List Yt}{e:Yt}(hs:T=A++e::B) :
  XN (fun x=>x) A e.1≠XN (fun x=>x) A e.2:=fun idle=>by
 have q1:∀x,x<n->XN (fun x=>x) T x=XN (fun x=>x) T 0:=fun x hx=>by
  refine OZ (n:=n) (q:=XN (fun x=>x) T) (T:=T.map Et) (m:=fun x=>x) (fun f hf=>?_) (fun x y _ _ h=>by rw[h]) x 0 hx hn (one x hx)
  obtain⟨g,hg,rfl⟩:=List.mem_map.mp hf
  exact⟨(RM g hg).symm,(hT g hg).2,(hT g hg).1⟩
 have id_lt:∀x,x<n->(fun x:Nat=>x) x<n:=fun x h=>h
 have d1:=Ea hn (Md hT id_lt) q1
 have hA:∀f∈A,f.1<n/\f.2<n:=fun f hf=>hT f (by rw[hs];simp[hf])
 have hB:∀f∈B,f.1<n/\f.2<n:=fun f hf=>hT f (by rw[hs];simp[hf])
 have dA:=Me (List.range n) hA id_lt
 have dB:=Me (List.range n) hB (Md hA id_lt)
 have e1:XN (fun x=>x) T=XN (XN (fun x=>x) A) B:=by
  rw[hs,PH]
  show XN (ZE (XN (fun x=>x) A) e.1 e.2) B=_
  rw[O0 idle]
 rw[e1] at d1
 have hl:(T.length:Int)=A.length+B.length+1:=by rw[hs];simp;omega
 have:=Dq n
 omega
theorem Kc{n:Nat}{m:Nat->Nat}{T:List Yt}(h:MkOk n m T)(hn:0<n)(len:(T.length:Int)=n-1){q:Nat->Nat}(hq:∀e∈T,q e.1=q e.2):∀x,x<n->q x=q 0:=fun x hx=>by
 refine Classical.byContradiction fun ne=>?_
 let G:=(List.range n).filter fun y=>decide (q y=q 0)
 let G':=(List.range n).filter fun y=>!decide (q y=q 0)
 have mG:∀y,y∈G↔y<n/\q y=q 0:=fun y=>by
  show y∈(List.range n).filter (fun y=>decide (q y=q 0))↔_
  rw[List.mem_filter,List.mem_range,decide_eq_true_eq]
 have mG':∀y,y∈G'↔y<n/\¬q y=q 0:=fun y=>by
  show y∈(List.range n).filter (fun y=>!decide (q y=q 0))↔_
  rw[List.mem_filter,List.mem_range]
  simp
 have f1:=h.few (G:=G) (List.nodup_range.filter _) (fun g hg=>((mG g).mp hg).1) (List.ne_nil_of_mem ((mG 0).mpr ⟨hn,rfl⟩))
 have f2:=h.few (G:=G') (List.nodup_range.filter _) (fun g hg=>((mG' g).mp hg).1) (List.ne_nil_of_mem ((mG' x).mpr ⟨hx,ne⟩))
 have sum:∀l:List Yt,(∀e∈l,q e.1=q e.2/\e.1<n/\e.2<n)->Ur G l+Ur G' l=l.length:=by
  intro l
  induction l with
  | nil=>intro _;rfl
  | cons e l ih=>
   intro hl
   have he:=hl e (by simp)
   have:=ih fun f hf=>hl f (by simp[hf])
   unfold Ur at this ⊢
   rw[List.map_cons,List.map_cons,List.sum_cons,List.sum_cons,List.length_cons]
   have one:b1 (Kb G e)+b1 (Kb G' e)=1:=by
    unfold Kb
    by_cases z:q e.1=q 0
    ·have a1:e.1∈G:=(mG _).mpr ⟨he.2.1,z⟩
     have a2:e.2∈G:=(mG _).mpr ⟨he.2.2,by rw[<-he.1];exact z⟩
     have a3:e.1∉G':=fun w=>((mG' _).mp w).2 z
     simp[a1,a2,a3,b1]
    ·have a1:e.1∈G':=(mG' _).mpr ⟨he.2.1,z⟩
     have a2:e.2∈G':=(mG' _).mpr ⟨he.2.2,by rw[<-he.1];exact z⟩
     have a3:e.1∉G:=fun w=>z ((mG _).mp w).2
     simp[a1,a2,a3,b1]
   omega
 have s1:=sum T fun e he=>⟨hq e he,h.inn e he⟩
 have lg:G.length+G'.length=n:=by
  have:∀l:List Nat,(l.filter fun y=>decide (q y=q 0)).length+(l.filter fun y=>!decide (q y=q 0)).length=l.length:=by
   intro l
   induction l with
   | nil=>rfl
   | cons a l ih=>
    by_cases z:q a=q 0<;>simp[List.filter,z]<;>omega
  have:=this (List.range n)
  rw[List.length_range] at this;exact this
 omega
theorem J2{l acc:List Int}:∀x,x∈acc\/x∈l->x∈l.foldl (fun(σ:List Int) k=>if σ.any (·==k) then σ else σ++[k]) acc:=by
 induction l generalizing acc with
 | nil=>intro x h;simpa using h
 | cons a l ih=>
  intro x h;rw[List.foldl_cons]
  refine ih x ?_
  rcases h with h | h
  ·left
   split
   ·exact h
   ·simp[h]
  ·rcases List.mem_cons.mp h with rfl | h
   ·left
    split
    ·rename_i z
     obtain⟨y,hy,e⟩:=List.any_eq_true.mp z
     have:y=x:=by simpa using e
     rw[<-this];exact hy
    ·simp
   ·exact .inr h
theorem RN{a:Int}:∀{l:List Int},(∀x∈l,x=a)->l.foldl (fun(σ:List Int) k=>if σ.any (·==k) then σ else σ++[k]) [a]=[a]
 | [],_=>rfl
 | b::l,h=>by
  have hb:=h b (by simp)
  subst hb;rw[List.foldl_cons]
  have:([b].any (·==b))=true:=by simp
  rw[if_pos this]
  exact RN fun x hx=>h x (by simp[hx])
end PK
namespace PW
open L2 VL
theorem Sy{f g:XS}{s:ZP}{v:PV}(e1:f s=some (.rt v)):Zm f g s=some (.rt v):=by rw[Rp,e1];rfl
section
variable {s:ZP} {f g:XE} {a b:Int} {C:Int->Int->Prop} [∀i j,Decidable (C i j)] {op:Int->Int->Int}
theorem vC(h1:f s=some (.int a))(h2:g s=some (.int b))(c:C a b):Zf (IZ C op) f g s=some (.int (op a b)):=by
 rw[ZI,h1,h2];simp only[Option.bind_some,FR,if_pos c]
theorem vI(h1:f s=some (.int a))(h2:g s=some (.int b)):Zf (gI op) f g s=some (.int (op a b)):=by
 rw[ZI,h1,h2];rfl
theorem vP(h1:f s=some (.int a)):eP f s=some (.int a):=by
 rw[Xg,h1];rfl
theorem Vs{v:PV}(h1:f s=some v):ZY f s=some (.rt v):=by
 rw[Jk,h1];rfl
end
def Kd(M:List (List Int))(a b:Nat)(t:Int):List (List Int):=WM (WM M a b t) b a t
theorem SQ{n:Nat}{M:List (List Int)}{a b:Nat}{t:Int}(ok:MatOk n M)(ha:a<n)(hb:b<n)(i j:Nat):Y1 (Kd M a b t) i j=if b=i/\a=j then t else if a=i/\b=j then t else Y1 M i j:=by
 obtain⟨l1,r1⟩:=Wn (t:=t) (b:=b) ok.len ok.row ha
 unfold Kd;rw[S7 l1 r1 hb ha,S7 ok.len ok.row ha hb]
theorem Eb{n:Nat}{M:List (List Int)}{a b:Nat}{t:Int}(ok:MatOk n M)(ha:a<n)(hb:b<n)(hab:a≠b)(h1:0<=t)(h9:t<=9):MatOk n (Kd M a b t):=by
 obtain⟨l1,r1⟩:=Wn (t:=t) (b:=b) ok.len ok.row ha
 obtain⟨l2,r2⟩:=Wn (t:=t) (b:=a) l1 r1 hb
 have E:=SQ (t:=t) ok ha hb
 refine⟨l2,r2,fun i j hi hj=>?_,fun i j hi hj=>?_,fun i j hi hj=>?_,fun i hi=>?_⟩
 ·have:=ok.lo i j hi hj
  rw[E];split<;>(try split)<;>omega
 ·have:=ok.hi i j hi hj
  rw[E];split<;>(try split)<;>omega
 ·have:=ok.sym i j hi hj
  rw[E,E]
  by_cases p:b=i/\a=j
  ·rw[if_pos p]
   by_cases p2:b=j/\a=i
   ·rw[if_pos p2]
   ·rw[if_neg p2,if_pos ⟨p.2,p.1⟩]
  ·rw[if_neg p]
   by_cases p2:a=i/\b=j
   ·rw[if_pos p2,if_pos ⟨p2.2,p2.1⟩]
   ·rw[if_neg p2,if_neg (fun z=>p2 ⟨z.2,z.1⟩),if_neg (fun z=>p ⟨z.2,z.1⟩)];exact this
 ·rw[E,if_neg (fun z=>hab (by omega)),if_neg (fun z=>hab (by omega))];exact ok.dia i hi
theorem QK{s:ZP}{n:Nat}(h:s[3]?=some (some (.int (n:Int))))(hn:n<=7):Zw 1 [3] (ZO [Za 3]) (.one 0) ZG (Zf Rn (YC [eC (.int 0)]) (Za 1)) s=some (.lst (rL (List.replicate n (List.replicate n 0)))):=by
 rw[Yd (List.range n) (fun(i:Nat)=>.int (i:Int)) (fun _=>.lst (iL (List.replicate n 0))) (Yp (by simp[h]) (by omega)) (by simp;omega) (fun i _=>⟨_,rfl,rfl,?_⟩)]
 ·unfold rL
  rw[List.map_const',List.length_range,List.map_replicate]
 ·have e:Rn (.lst [.int 0]) (.int (n:Int))=some (.lst (iL (List.replicate n 0))):=by
   show(if ZJ [PV.int 0]=true/\(-1000000:Int)<=(n:Int)/\(n:Int)<=1000000/\[PV.int 0].length*((n:Int)).toNat<=10000 then some (PV.lst (List.replicate ((n:Int)).toNat [PV.int 0]).flatten) else none)=_
   rw[if_pos ⟨rfl,by omega,by omega,by simp;omega⟩,Int.toNat_natCast,Od]
   simp
  simp[Yl,h,e]
def Grown(M:List (List Int))(l:List Int)(k:Nat):Prop:=∀j,1<=j->j<k->∃j',j'<j/\0<Y1 M (YJ l j).toNat (YJ l j').toNat
theorem Grown.mono{M M':List (List Int)}{l:List Int}{k:Nat}(h:Grown M l k)(g:∀i j,0<Y1 M i j->0<Y1 M' i j):Grown M' l k:=fun j h1 h2=>by
 obtain⟨j',a,b⟩:=h j h1 h2
 exact⟨j',a,g _ _ b⟩
theorem Grown.conn{M:List (List Int)}{l:List Int}{n:Nat}(h:Grown M l n)(hl:M.length=n)(nk:NamesOk n l):PF M:=by
 intro P hP i j hi hj
 rw[hl] at hi hj
 have h0:0<n:=by omega
 have lt:∀x,x<n->(YJ l x).toNat<M.length:=fun x hx=>by have:=nk.at hx;omega
 have all:∀k,k<n->(P (YJ l k).toNat↔P (YJ l 0).toNat):=by
  intro k
  induction k using Nat.strongRecOn with
  | ind k ih=>
   intro hk
   by_cases q:k=0
   ·subst q;exact Iff.rfl
   ·obtain⟨j',a,b⟩:=h k (by omega) hk
    exact(hP _ _ (lt k hk) (lt j' (by omega)) b).trans (ih j' a (by omega))
 have at':∀i,i<n->∃x,x<n/\(YJ l x).toNat=i:=fun i hi=>by
  have:=Ci (n:=n) nk.nd (fun x hx=>⟨x.toNat,by have:=nk.hi x hx;have:=nk.lo x hx;omega,by have:=nk.lo x hx;omega⟩) nk.len hi
  obtain⟨x,hx,e⟩:=HU this
  exact⟨x,by rw[<-nk.len];exact hx,by rw[e];rfl⟩
 obtain⟨x,hx,rfl⟩:=at' i hi
 obtain⟨y,hy,rfl⟩:=at' j hj
 exact(all x hx).trans (all y hy).symm
theorem HW{n:Nat}{M:List (List Int)}{a b:Nat}{t:Int}(ok:MatOk n M)(ha:a<n)(hb:b<n)(ht:0<t):(∀i j,0<Y1 M i j->0<Y1 (Kd M a b t) i j)/\0<Y1 (Kd M a b t) a b:=by
 refine⟨fun i j h=>?_,?_⟩
 ·rw[SQ ok ha hb];split
  ·exact ht
  ·split
   ·exact ht
   ·exact h
 ·rw[SQ ok ha hb];split
  ·exact ht
  ·rw[if_pos ⟨rfl,rfl⟩];exact ht
def nL(l:List Nat):List Int:=l.map fun(i:Nat)=>(i:Int)
theorem mem_nL{y:Nat}{l:List Nat}:(y:Int)∈nL l↔y∈l:=by
 unfold nL;rw[List.mem_map]
 exact⟨fun⟨a,h,e⟩=>by rw[show y=a by omega];exact h,fun h=>⟨y,h,rfl⟩⟩
def RO(w:Nat)(f:Nat->Int):List Int:=(List.range w).map f
theorem HX{l:List Int}:(Option.bind ((Option.bind (some (PV.lst (iL l))) fun x=>(UZ [] s).map (x::·)).bind Z2) fun l=>if Z0 l=true then some l else none)=some (pP l):=by
 show(if Z0 (pP l)=true then some (pP l) else none)=_
 rw[if_pos (by simp)]
def tL(M:List (List Int)):List PV:=M.map pP
theorem QL{f:Nat->Int}:∀{n:Nat},(∀i,i<n->0<=f i)->0<=sN n f
 | 0,_=>Int.le_refl 0
 | n+1,h=>by
  have:=QL (n:=n) fun i hi=>h i (by omega)
  have:=h n (by omega)
  show 0<=sN n f+f n
  omega
theorem gIx_p{n:Nat}{l:List Int}(h:l.length=n):∀k:Nat,k<n->ZK (pP l) (.int (k:Int))=some (.int (YJ l k)):=fun k hk=>VP (by omega)
theorem QM{n:Nat}{l:List Int}(h:l.length=n):∀k:Nat,k<n->ZK (.lst (iL l)) (.int (k:Int))=some (.int (YJ l k)):=fun k hk=>VP (by omega)
theorem Tz{ns:List Int}(h:ns.length<=63)(k:Nat):ZQ [.cst (iL ns),.int (k:Int)]=some (.int (YJ ns k)):=by
 have c:xB (Zf UG (Za 1) (Zc Zq [(Za 0)])) [some (.cst (iL ns)),some (.int (k:Int))]=some (decide (k<ns.length)):=by
  show some (decide ((k:Int)<((iL ns).length:Int)))=_
  congr 1
  rw[List.length_map]
  by_cases q:k<ns.length
  ·rw[decide_eq_true q,decide_eq_true (by omega)]
  ·rw[decide_eq_false q,decide_eq_false (by omega)]
 have v:Nl (xB (Zf UG (Za 1) (Zc Zq [(Za 0)]))) (Zf ZK (Za 0) (Za 1)) (eC (.int 0)) [some (.cst (iL ns)),some (.int (k:Int))]=some (.int (YJ ns k)):=by
  rw[SH,c]
  by_cases q:k<ns.length
  ·rw[decide_eq_true q]
   exact VP q
  ·rw[decide_eq_false q]
   have:YJ ns k=0:=by
    unfold YJ
    rw[List.getD_eq_getElem?_getD,List.getElem?_eq_none (by omega)];rfl
   rw[this];rfl
 show X5 2 Pk _=_
 unfold Pk
 show(ZY _ [some (.cst (iL ns)),some (.int (k:Int))]).bind X1=_
 rw[Vs (vP v)];rfl
theorem Z6(c:Int){t m:Nat}(ht:t<=1000)(hm:0<m):∃v:Nat,v<m/\Zj [.int c,.int (t:Int),.int (m:Int)]=some (.int (v:Int)):=by
 have hm':(0:Int)<(m:Int):=by omega
 have fin:∀x:Int,∃v:Nat,v<m/\x%(m:Int)=(v:Int):=fun x=>by
  have h0:=Int.emod_nonneg x (show(m:Int)≠0 by omega)
  have h1:=Int.emod_lt_of_pos x hm'
  exact⟨(x%(m:Int)).toNat,by omega,by omega⟩
 generalize hx1:(c%999983+(t:Int))*((t:Int)+389)%999983=x1
 have b1:0<=x1/\x1<2000000:=by
  have h0:=Int.emod_nonneg ((c%999983+(t:Int))*((t:Int)+389)) (show(999983:Int)≠0 by decide)
  have h1:=Int.emod_lt_of_pos ((c%999983+(t:Int))*((t:Int)+389)) (show(0:Int)<999983 by decide)
  omega
 have b0:0<=c%999983/\c%999983<999983:=⟨Int.emod_nonneg _ (by decide),Int.emod_lt_of_pos _ (by decide)⟩
 generalize hx2:(x1*x1+c/999983+(t:Int))%999979=x2
 obtain⟨v,hv,ev⟩:=fin (x2/3)
 refine⟨v,hv,?_⟩
 have cm1:CMul (c%999983+(t:Int)) ((t:Int)+389):=.inl (by omega)
 have cm2:CMul x1 x1:=.inl (by omega)
 have e1:Zn 3 (eP (Zf ZX (Zf Xo (Zf ZD (Zf ZX (Za 0) (eC (.int 999983))) (Za 1)) (Zf ZD (Za 1) (eC (.int 389)))) (eC (.int 999983)))) [some (.int c),some (.int (t:Int)),some (.int (m:Int)),none]=some (.nx [some (.int c),some (.int (t:Int)),some (.int (m:Int)),some (.int x1)]):=by
  rw[Zl,vP (a:=x1) (by
   rw[<-hx1]
   exact vC (C:=fun _ j=>0<j) (op:=(· % ·)) (vC (C:=CMul) (op:=(· * ·)) (vI (op:=(· + ·)) (vC (C:=fun _ j=>0<j) (op:=(· % ·)) (a:=c) rfl rfl (by decide)) rfl) (vI (op:=(· + ·)) (a:=(t:Int)) rfl rfl) cm1) rfl (by decide))]
  rfl
 have e2:Zn 3 (eP (Zf ZX (Zf ZD (Zf ZD (Zf Xo (Za 3) (Za 3)) (Zf Xp (Za 0) (eC (.int 999983)))) (Za 1)) (eC (.int 999979)))) [some (.int c),some (.int (t:Int)),some (.int (m:Int)),some (.int x1)]=some (.nx [some (.int c),some (.int (t:Int)),some (.int (m:Int)),some (.int x2)]):=by
  rw[Zl,vP (a:=x2) (by
   rw[<-hx2]
   exact vC (C:=fun _ j=>0<j) (op:=(· % ·)) (vI (op:=(· + ·)) (vI (op:=(· + ·)) (vC (C:=CMul) (op:=(· * ·)) (a:=x1) (b:=x1) rfl rfl cm2) (vC (C:=Vw) (op:=(· / ·)) (a:=c) rfl rfl ⟨by decide,by decide⟩)) rfl) rfl (by decide))]
  rfl
 show X5 4 Tn _=_
 unfold Tn
 show(Zm _ _ [some (.int c),some (.int (t:Int)),some (.int (m:Int)),none]).bind X1=_
 rw[Zz e1,Zz e2,Vs (v:=.int (v:Int)) (vP (by
  rw[<-ev]
  exact vC (C:=fun _ j=>0<j) (op:=(· % ·)) (vC (C:=Vw) (op:=(· / ·)) (a:=x2) rfl rfl ⟨by decide,by decide⟩) rfl hm'))]
 rfl
theorem Ux{α:Type}(l:List α)(f:α->Int):iL (l.map f)=l.map fun g=>.int (f g):=List.map_map
def RP(n:Nat)(M:List (List Int)):Int:=sN n (fun i=>sN n (fun j=>Y1 M i j))
structure Tied(n:Nat)(M:List (List Int))(t:Nat):Prop where
 mat:MatOk n M
 few:∀i j,i<n->j<n->Y1 M i j<=(t:Int)
 sum:RP n M=2*(t:Int)
def Ke(M:List (List Int))(a b:Nat):List (List Int):=Kd M a b (Y1 M a b+1)
theorem J3{n:Nat}{M:List (List Int)}{a b:Nat}(ok:MatOk n M)(ha:a<n)(hb:b<n)(ne:a≠b)(i j:Nat):Y1 (Ke M a b) i j=Y1 M i j+((if i=a then(if j=b then 1 else 0) else 0)+(if i=b then(if j=a then 1 else 0) else 0)):=by
 unfold Ke;rw[SQ ok ha hb]
 by_cases q1:b=i/\a=j
 ·obtain⟨rfl,rfl⟩:=q1
  rw[if_pos ⟨rfl,rfl⟩,if_neg (fun z=>ne z.symm),if_pos rfl,if_pos rfl,ok.sym a b ha hb];omega
 ·rw[if_neg q1]
  by_cases q2:a=i/\b=j
  ·obtain⟨rfl,rfl⟩:=q2
   rw[if_pos ⟨rfl,rfl⟩,if_pos rfl,if_pos rfl,if_neg ne];omega
  ·rw[if_neg q2]
   have h1:(if i=a then(if j=b then(1:Int) else 0) else 0)=0:=by
    by_cases z:i=a
    ·rw[if_pos z,if_neg (fun y=>q2 ⟨z.symm,y.symm⟩)]
    ·rw[if_neg z]
   have h2:(if i=b then(if j=a then(1:Int) else 0) else 0)=0:=by
    by_cases z:i=b
    ·rw[if_pos z,if_neg (fun y=>q1 ⟨z.symm,y.symm⟩)]
    ·rw[if_neg z]
   rw[h1,h2];omega
theorem MZ{n a b:Nat}(ha:a<n)(hb:b<n):sN n (fun i=>sN n (fun j=>if i=a then(if j=b then(1:Int) else 0) else 0))=1:=by
 rw[WG (k:=a) ha fun i _ hi=>SN fun j _=>if_neg hi]
 rw[WG (k:=b) hb fun j _ hj=>by rw[if_pos rfl,if_neg hj],if_pos rfl,if_pos rfl]
theorem Tied.up{n t:Nat}{M:List (List Int)}{a b:Nat}(h:Tied n M t)(h8:t<=8)(ha:a<n)(hb:b<n)(ne:a≠b):Tied n (Ke M a b) (t+1):=by
 have f:=h.few a b ha hb;have lo:=h.mat.lo a b ha hb
 refine⟨Eb h.mat ha hb ne (by omega) (by omega),fun i j hi hj=>?_,?_⟩
 ·rw[J3 h.mat ha hb ne]
  have g:=h.few i j hi hj
  by_cases q1:i=a
  ·have:i≠b:=fun z=>ne (q1.symm.trans z)
   rw[if_pos q1,if_neg this]
   split<;>omega
  ·rw[if_neg q1]
   by_cases q2:i=b
   ·rw[if_pos q2];split<;>omega
   ·rw[if_neg q2];omega
 ·unfold RP
  have:sN n (fun i=>sN n (fun j=>Y1 (Ke M a b) i j))=sN n (fun i=>sN n (fun j=>Y1 M i j)+(sN n (fun j=>if i=a then(if j=b then(1:Int) else 0) else 0)+sN n (fun j=>if i=b then(if j=a then(1:Int) else 0) else 0))):=
   YU fun i _=>by
    rw[<-UO,<-UO]
    exact YU fun j _=>J3 h.mat ha hb ne i j
  rw[this,UO,UO,MZ ha hb,MZ hb ha]
  have:=h.sum
  unfold RP at this;omega
theorem Tied.zero(n:Nat):Tied n (List.replicate n (List.replicate n 0)) 0:=by
 have z:∀i j,i<n->j<n->Y1 (List.replicate n (List.replicate n (0:Int))) i j=0:=fun i j hi hj=>by
  have a:=(MatOk.zero n).lo i j hi hj
  have:ZN (List.replicate n (List.replicate n (0:Int))) i=List.replicate n 0:=by
   unfold ZN
   rw[List.getD_eq_getElem?_getD,List.getElem?_replicate,if_pos hi];rfl
  unfold Y1;rw[this];unfold YJ
  rw[List.getD_eq_getElem?_getD,List.getElem?_replicate,if_pos hj];rfl
 refine⟨MatOk.zero n,fun i j hi hj=>by rw[z i j hi hj];omega,?_⟩
 unfold RP
 exact SN fun i hi=>SN fun j hj=>z i j hi hj
theorem Tied.grow{n t:Nat}{M:List (List Int)}{a b:Nat}(h:Tied n M t)(ha:a<n)(hb:b<n):(∀i j,0<Y1 M i j->0<Y1 (Ke M a b) i j)/\0<Y1 (Ke M a b) a b:=by
 have lo:=h.mat.lo a b ha hb
 exact HW h.mat ha hb (by omega)
theorem O1{i:Nat}{fa fb ft:XE}{s:ZP}{n:Nat}{M:List (List Int)}{a b:Nat}(ok:MatOk n M)(ha:a<n)(hb:b<n)(hs:NG s i=some (rL M))(t:Int)(e1:fa s=some (.int (a:Int)))(e2:fb s=some (.int (b:Int)))(e3:ft s=some (.int t)) :
  Yo i fa fb ft s=some (.nx (s.set i (some (.lst (rL (WM M a b t)))))):=by
 have lenM:(rL M).length=n:=by unfold rL;rw[List.length_map];exact ok.len
 rw[Ru (l:=.int t) (a:=(a:Int)) (b:=(b:Int)) (j:=a) (c:=b) (m:=rL M) (n:=iL (ZN M a)) e3 e1 e2 hs (Tg (by rw[lenM];exact ha)) (Ma (by rw[ok.len];exact ha)) (Yv _) rfl (Tg (by rw[List.length_map,ok.row a ha];exact hb)),JW]
theorem QO{i:Nat}{fa fb ft:XE}{s:ZP}{n:Nat}{M:List (List Int)}{a b:Nat}{u:Int}(ok:MatOk n M)(ha:a<n)(hb:b<n)(hs:NG s i=some (rL (WM M a b u)))(t:Int)(e1:fa s=some (.int (b:Int)))(e2:fb s=some (.int (a:Int)))(e3:ft s=some (.int t)) :
  Yo i fa fb ft s=some (.nx (s.set i (some (.lst (rL (WM (WM M a b u) b a t)))))):=by
 have sh:=Wn (t:=u) (b:=b) ok.len ok.row ha
 have lenM:(rL (WM M a b u)).length=n:=by unfold rL;rw[List.length_map];exact sh.1
 rw[Ru (l:=.int t) (a:=(b:Int)) (b:=(a:Int)) (j:=b) (c:=a) (m:=rL (WM M a b u)) (n:=iL (ZN (WM M a b u) b)) e3 e1 e2 hs (Tg (by rw[lenM];exact hb)) (Ma (by rw[sh.1];exact hb)) (Yv _) rfl (Tg (by rw[List.length_map,sh.2 b hb];exact ha)),JW]
theorem PJ{s:ZP}{fm fa fb:XE}{n:Nat}{M:List (List Int)}{a b:Nat}(hl:M.length=n)(hr:∀i,i<n->(ZN M i).length=n)(ha:a<n)(hb:b<n)(e0:fm s=some (.lst (rL M)))(e1:fa s=some (.int (a:Int)))(e2:fb s=some (.int (b:Int))):Zf ZK (Zf ZK fm fa) fb s=some (.int (Y1 M a b)):=by
 have i1:Sz (rL M) (a:Int)=some (.lst (iL (ZN M a))):=SA (Ma (by rw[hl];exact ha))
 have i2:Sz (iL (ZN M a)) (b:Int)=some (.int (Y1 M a b)):=VP (by rw[hr a ha];exact hb)
 have h1:Zf ZK fm fa s=some (.lst (iL (ZN M a))):=by rw[ZI,e0,e1];exact i1
 rw[ZI,h1,e2];exact i2
theorem M0{M:List (List Int)}{n k:Nat}{s:ZP}(hl:M.length<=7)(h:s[k]?=some (some (.lst (rL M)))):eP (Zc Z2 [(Zw 1 [] (Y4 (Za k)) (.one 0) ZG (Zc Z2 [(Za 0)]))]) s=some (wP M):=by
 have a:Za k s=some (.lst (rL M)):=by
  show s[k]?.bind id=_
  rw[h];rfl
 have hc:Zw 1 [] (Y4 (Za k)) (.one 0) ZG (Zc Z2 [(Za 0)]) s=some (.lst (tL M)):=by
  refine Yd M (fun r=>.lst (iL r)) pP (by unfold Y4;rw[a];rfl) (by omega) (fun r _=>⟨[some (.lst (iL r))],rfl,rfl,rfl⟩)
 rw[Xg,Zu,Zk,hc]
 show(if Z0 (wP M)=true then some (wP M) else none)=_
 rw[if_pos (by rw[Lu];exact Jl _)]
abbrev YD:PV:=.lst (iL [1,2,3,4,5])
theorem O2(v:Nat)(h:v<5):∃n:Nat,1<=n/\n<=5/\ZK YD (.int (v:Int))=some (.int (n:Int)):=by
 have:v=0\/v=1\/v=2\/v=3\/v=4:=by omega
 rcases this with rfl | rfl | rfl | rfl | rfl
 ·exact⟨1,by omega,by omega,rfl⟩
 ·exact⟨2,by omega,by omega,rfl⟩
 ·exact⟨3,by omega,by omega,rfl⟩
 ·exact⟨4,by omega,by omega,rfl⟩
 ·exact⟨5,by omega,by omega,rfl⟩
theorem XJ(x:Int){m:Nat}(h:0<m):∃v:Nat,v<m/\x%(m:Int)=(v:Int):=by
 have h0:=Int.emod_nonneg x (show(m:Int)≠0 by omega)
 have h1:=Int.emod_lt_of_pos x (show(0:Int)<(m:Int) by omega)
 exact⟨(x%(m:Int)).toNat,by omega,by omega⟩
def Ec(n:Nat)(p:Nat×Nat):Prop:=p.1<n/\p.2<n/\p.1≠p.2
def Ym(p:Nat×Nat):PV:=.tup [.int (p.1:Int),.int (p.2:Int)]
abbrev X9(x:Int)(n:Nat)(o:List Int)(ps:List (Nat×Nat))(x6 x7 x8:Option PV):ZP:=[some (.int x),some YD,some (.int 8),some (.int (n:Int)),some (.lst (iL o)),some (.lst (ps.map Ym)),x6,x7,x8,none,none,none]
theorem O3(x:Int):∃(W:List (List Int)) (t:Nat),XH [.int x,YD,.int 8]=some (wP W)/\Z7 W/\PF W/\W.length<=5/\RP W.length W=2*(t:Int)/\t<=8:=by
 obtain⟨v,hv,ev⟩:=XJ x (m:=5) (by omega)
 obtain⟨n,n1,n4,en⟩:=O2 v hv
 have e1:Zn 3 (eP (Zf ZK (Za 1) (Zf ZX (Za 0) (Zc Zq [(Za 1)])))) [some (.int x),some YD,some (.int 8),none,none,none,none,none,none,none,none,none]=some (.nx [some (.int x),some YD,some (.int 8),some (.int (n:Int)),none,none,none,none,none,none,none,none]):=by
  have a:Zf ZX (Za 0) (Zc Zq [(Za 1)]) [some (.int x),some YD,some (.int 8),none,none,none,none,none,none,none,none,none]=some (.int (v:Int)):=by
   rw[<-ev]
   exact vC (C:=fun _ j=>0<j) (op:=(· % ·)) (a:=x) (b:=((5:Nat):Int)) rfl rfl (by decide)
  rw[Zl,vP (a:=(n:Int)) (by rw[ZI,a];exact en)];rfl
 have e2:Zn 0 (eP (Zf Xp (Za 0) (Zc Zq [(Za 1)]))) [some (.int x),some YD,some (.int 8),some (.int (n:Int)),none,none,none,none,none,none,none,none]=some (.nx [some (.int (x/5)),some YD,some (.int 8),some (.int (n:Int)),none,none,none,none,none,none,none,none]):=by
  rw[Zl,vP (a:=x/5) (vC (C:=Vw) (op:=(· / ·)) (a:=x) (b:=5) rfl rfl ⟨by decide,by decide⟩)];rfl
 -- the order
 let f1:XS:=(Zm (V9 4 (Zf ZX (Za 0) (Zf ZD (Za 6) (eC (.int 1)))) (Za 6)) (Zn 0 (eP (Zf Xp (Za 0) (Zf ZD (Za 6) (eC (.int 1)))))))
 obtain⟨s1,g1,y1,o,z6,hs1,nk⟩:=YB (T:=.one 6) (fb:=f1) (ls:=U6 n) (s:=X9 (x/5) n [] [] none none none) (fun i s=>∃y o z6,s=X9 y n o [] z6 none none/\NamesOk i o) ⟨x/5,[],none,rfl,NamesOk.nil⟩ (by
  rintro i l s hl ⟨y,o,z6,rfl,nk⟩
  obtain⟨hi,rfl⟩:=Tc hl
  obtain⟨r,hr,er⟩:=XJ y (m:=i+1) (by omega)
  have ci:(i:Int)+1=((i+1:Nat):Int):=by omega
  have a:Zf ZX (Za 0) (Zf ZD (Za 6) (eC (.int 1))) (X9 y n o [] (some (.int (i:Int))) none none)=some (.int (r:Int)):=by
   rw[<-er,<-ci]
   exact vC (C:=fun _ j=>0<j) (op:=(· % ·)) (a:=y) rfl (vI (op:=(· + ·)) (a:=(i:Int)) rfl rfl) (by omega)
  have q1:V9 4 (Zf ZX (Za 0) (Zf ZD (Za 6) (eC (.int 1)))) (Za 6) (X9 y n o [] (some (.int (i:Int))) none none)=some (.nx (X9 y n (o.take r++(i:Int)::o.drop r) [] (some (.int (i:Int))) none none)):=by
   rw[NK (k:=(r:Int)) (l:=.int (i:Int)) (m:=iL o) a rfl rfl (Yv o) rfl (by omega) (by omega) (by rw[List.length_map,nk.len];omega),Int.toNat_natCast,F7]
   rfl
  have q2:Zn 0 (eP (Zf Xp (Za 0) (Zf ZD (Za 6) (eC (.int 1))))) (X9 y n (o.take r++(i:Int)::o.drop r) [] (some (.int (i:Int))) none none)=some (.nx (X9 (y/((i:Int)+1)) n (o.take r++(i:Int)::o.drop r) [] (some (.int (i:Int))) none none)):=by
   rw[Zl,vP (a:=y/((i:Int)+1)) (vC (C:=Vw) (op:=(· / ·)) (a:=y) rfl (vI (op:=(· + ·)) (a:=(i:Int)) rfl rfl) ⟨by omega,by omega⟩)];rfl
  exact⟨X9 y n o [] (some (.int (i:Int))) none none,_,rfl,(by show Zm _ _ _=_;rw[Zz q1,q2]),_,_,_,rfl,nk.ins r⟩)
 subst hs1;rw[Te] at nk
 have e5:Xf [4,5,9] (ZO [(Za 3)]) (.one 6) f1 (X9 (x/5) n [] [] none none none)=some (.nx (X9 y1 n o [] z6 none none)):=by
  show(ZO [(Za 3)] (Yc [4,5,9] (X9 (x/5) n [] [] none none none))).bind _=_
  rw[Yp (n:=n) rfl (by omega)];exact g1
 -- each to one ahead
 let f2:XS:=(Zm (Xm 5 (eP (Xh [(Za 6),(Zf ZX (Za 0) (Za 6))]))) (Zn 0 (eP (Zf Xp (Za 0) (Za 6)))))
 let Pre:List (Nat×Nat)->Prop:=fun ps=>∀j p,ps[j]?=some p->p.1=j+1/\p.2<j+1
 obtain⟨s2,g2,y2,ps,w6,hs2,lp,pre⟩:=YB (T:=.one 6) (fb:=f2) (ls:=Wa 1 (n-1)) (s:=X9 y1 n o [] z6 none none) (fun i s=>∃y ps z6,s=X9 y n o ps z6 none none/\ps.length=i/\Pre ps) ⟨y1,[],z6,rfl,rfl,fun j p h=>by simp at h⟩ (by
  rintro i l s hl ⟨y,ps,z6,rfl,lp,pre⟩
  obtain⟨hi,rfl⟩:=Td hl
  have ci:(1:Int)+(i:Int)=((i+1:Nat):Int):=by omega
  rw[ci]
  obtain⟨r,hr,er⟩:=XJ y (m:=i+1) (by omega)
  have q1:Xm 5 (eP (Xh [(Za 6),(Zf ZX (Za 0) (Za 6))])) (X9 y n o ps (some (.int ((i+1:Nat):Int))) none none)=some (.nx (X9 y n o (ps++[(i+1,r)]) (some (.int ((i+1:Nat):Int))) none none)):=by
   have a:Zf ZX (Za 0) (Za 6) (X9 y n o ps (some (.int ((i+1:Nat):Int))) none none)=some (.int (r:Int)):=by
    rw[<-er]
    exact vC (C:=fun _ j=>0<j) (op:=(· % ·)) (a:=y) rfl rfl (by omega)
   rw[UJ (l:=Ym (i+1,r)) (m:=ps.map Ym) (by
    rw[Xg,show Xh [(Za 6),(Zf ZX (Za 0) (Za 6))] (X9 y n o ps (some (.int ((i+1:Nat):Int))) none none)=some (Ym (i+1,r)) by
     show(UZ [(Za 6),(Zf ZX (Za 0) (Za 6))] (X9 y n o ps (some (.int ((i+1:Nat):Int))) none none)).map PV.tup=_
     rw[Zk,Zk,a];rfl]
    rfl) rfl (by simp;omega)]
   show some (Out.nx [_,_,_,_,_,some (.lst (ps.map Ym++[Ym (i+1,r)])),_,_,_,_,_,_])=some (Out.nx [_,_,_,_,_,some (.lst ((ps++[(i+1,r)]).map Ym)),_,_,_,_,_,_])
   rw[List.map_append];rfl
  have q2:Zn 0 (eP (Zf Xp (Za 0) (Za 6))) (X9 y n o (ps++[(i+1,r)]) (some (.int ((i+1:Nat):Int))) none none)=some (.nx (X9 (y/((i+1:Nat):Int)) n o (ps++[(i+1,r)]) (some (.int ((i+1:Nat):Int))) none none)):=by
   rw[Zl,vP (a:=y/((i+1:Nat):Int)) (vC (C:=Vw) (op:=(· / ·)) (a:=y) rfl rfl ⟨by omega,by omega⟩)];rfl
  refine⟨X9 y n o ps (some (.int ((i+1:Nat):Int))) none none,_,rfl,(by show Zm _ _ _=_;rw[Zz q1,q2]),_,_,_,rfl,by simp[lp],fun j p h=>?_⟩
  by_cases z:j<ps.length
  ·rw[List.getElem?_append_left z] at h
   exact pre j p h
  ·rw[List.getElem?_append_right (by omega)] at h
   have:j=ps.length:=by
    have:=(List.getElem?_eq_some_iff.mp h).1
    simp at this;omega
   subst this
   simp at h
   subst h
   rw[lp];exact⟨rfl,hr⟩)
 subst hs2
 rw[show(Wa 1 (n-1)).length=n-1 by simp[Wa]] at lp
 have e6:Xf [4,5,9] (Xw [(eC (.int 1)),(Za 3)]) (.one 6) f2 (X9 y1 n o [] z6 none none)=some (.nx (X9 y2 n o ps w6 none none)):=by
  show(Xw [(eC (.int 1)),(Za 3)] (Yc [4,5,9] (X9 y1 n o [] z6 none none))).bind _=_
  rw[Uc (i:=1) (j:=(n:Int)) rfl rfl (by omega) (by omega),show((n:Int)-1).toNat=n-1 by omega];exact g2
 -- how many more
 obtain⟨r,hr,er⟩:=XJ y2 (m:=10-n) (by omega)
 have c7:(8:Int)-(n:Int)+2=((10-n:Nat):Int):=by omega
 have am:∀z7,Zf ZX (Za 0) (Zf ZD (Zf Xd (Za 2) (Za 3)) (eC (.int 2))) (X9 y2 n o ps w6 z7 none)=some (.int (r:Int)):=fun z7=>by
  rw[<-er,<-c7]
  exact vC (C:=fun _ j=>0<j) (op:=(· % ·)) (a:=y2) rfl (vI (op:=(· + ·)) (vI (op:=(· - ·)) (a:=8) rfl rfl) rfl) (by omega)
 obtain⟨mo,hmo,em,m1⟩:∃mo:Nat,mo+n<=9/\Zn 7 (eP (Zf Xo (Zc VG [(Zf UH (Za 3) (eC (.int 1)))]) (Zf ZX (Za 0) (Zf ZD (Zf Xd (Za 2) (Za 3)) (eC (.int 2)))))) (X9 y2 n o ps w6 none none)=some (.nx (X9 y2 n o ps w6 (some (.int (mo:Int))) none))/\(1<=mo->2<=n):=by
  by_cases q:1<n
  ·have g:Zc VG [(Zf UH (Za 3) (eC (.int 1)))] (X9 y2 n o ps w6 none none)=some (.int 1):=by
    have q':(n:Int)>1:=by omega
    have:Zf UH (Za 3) (eC (.int 1)) (X9 y2 n o ps w6 none none)=some (.bl true):=by
     show some (PV.bl (decide ((n:Int)>1)))=_
     rw[decide_eq_true q']
    rw[Zu,Zk,this];rfl
   refine⟨r,by omega,?_,fun _=>by omega⟩
   rw[Zl,vP (a:=1*(r:Int)) (vC (C:=CMul) (op:=(· * ·)) g (am none) (.inl (by omega)))]
   rw[Int.one_mul];rfl
  ·have g:Zc VG [(Zf UH (Za 3) (eC (.int 1)))] (X9 y2 n o ps w6 none none)=some (.int 0):=by
    have q':¬(n:Int)>1:=by omega
    have:Zf UH (Za 3) (eC (.int 1)) (X9 y2 n o ps w6 none none)=some (.bl false):=by
     show some (PV.bl (decide ((n:Int)>1)))=_
     rw[decide_eq_false q']
    rw[Zu,Zk,this];rfl
   refine⟨0,by omega,?_,fun h=>by omega⟩
   rw[Zl,vP (a:=0*(r:Int)) (vC (C:=CMul) (op:=(· * ·)) g (am none) (.inl (by omega)))]
   rw[Int.zero_mul];rfl
 have e8:Zn 0 (eP (Zf Xp (Za 0) (Zf ZD (Zf Xd (Za 2) (Za 3)) (eC (.int 2))))) (X9 y2 n o ps w6 (some (.int (mo:Int))) none)=some (.nx (X9 (y2/((8:Int)-(n:Int)+2)) n o ps w6 (some (.int (mo:Int))) none)):=by
  rw[Zl,vP (a:=y2/((8:Int)-(n:Int)+2)) (vC (C:=Vw) (op:=(· / ·)) (a:=y2) rfl (vI (op:=(· + ·)) (vI (op:=(· - ·)) (a:=8) rfl rfl) rfl) ⟨by omega,by omega⟩)];rfl
 -- more pairs
 let f3:XS:=(Zm (Zn 8 (eP (Zf ZX (Za 0) (Za 3)))) (Zm (Zn 0 (eP (Zf Xp (Za 0) (Za 3)))) (Zm (Xm 5 (eP (Xh [(Za 8),(Zf ZX (Zf ZD (Zf ZD (Za 8) (eC (.int 1))) (Zf ZX (Za 0) (Zf Xd (Za 3) (eC (.int 1))))) (Za 3))]))) (Zn 0 (eP (Zf Xp (Za 0) (Zf Xd (Za 3) (eC (.int 1)))))))))
 let All:List (Nat×Nat)->Prop:=fun qs=>(∀j,j<n-1->qs[j]?=ps[j]?)/\∀p∈qs,Ec n p
 have all0:All ps:=⟨fun j _=>rfl,fun p hp=>by
  obtain⟨j,hj,e⟩:=List.getElem_of_mem hp
  have:=pre j p (by rw[List.getElem?_eq_getElem hj,e])
  exact⟨by omega,by omega,by omega⟩⟩
 obtain⟨s3,g3,y3,qs,v6,v8,hs3,lq,all⟩:=YB (T:=.one 6) (fb:=f3) (ls:=U6 mo) (s:=X9 (y2/((8:Int)-(n:Int)+2)) n o ps w6 (some (.int (mo:Int))) none) (fun i s=>∃y qs z6 z8,s=X9 y n o qs z6 (some (.int (mo:Int))) z8/\qs.length=n-1+i/\All qs) ⟨_,ps,w6,none,rfl,by omega,all0⟩ (by
  rintro i l s hl ⟨y,qs,z6,z8,rfl,lq,all⟩
  obtain⟨hi,rfl⟩:=Tc hl
  have n2:=m1 (by omega)
  obtain⟨a,ha,ea⟩:=XJ y (m:=n) (by omega)
  obtain⟨b,hb,eb⟩:=XJ (y/(n:Int)) (m:=n-1) (by omega)
  obtain⟨c,hc,ec⟩:=XJ ((a:Int)+1+(b:Int)) (m:=n) (by omega)
  have cn:(n:Int)-1=((n-1:Nat):Int):=by omega
  have ne:a≠c:=fun z=>by
   subst z
   have h1:((a:Int)+1+(b:Int))=((a+1+b:Nat):Int):=by omega
   rw[h1] at ec
   have ec':(a+1+b)%n=a:=by
    have:=ec
    rw[<-Int.natCast_emod] at this;omega
   by_cases w:a+1+b<n
   ·rw[Nat.mod_eq_of_lt w] at ec';omega
   ·rw[Nat.mod_eq_sub_mod (by omega),Nat.mod_eq_of_lt (by omega)] at ec';omega
  have q1:Zn 8 (eP (Zf ZX (Za 0) (Za 3))) (X9 y n o qs (some (.int (i:Int))) (some (.int (mo:Int))) z8)=some (.nx (X9 y n o qs (some (.int (i:Int))) (some (.int (mo:Int))) (some (.int (a:Int))))):=by
   rw[Zl,vP (a:=(a:Int)) (by rw[<-ea];exact vC (C:=fun _ j=>0<j) (op:=(· % ·)) (a:=y) rfl rfl (by omega))];rfl
  have q2:Zn 0 (eP (Zf Xp (Za 0) (Za 3))) (X9 y n o qs (some (.int (i:Int))) (some (.int (mo:Int))) (some (.int (a:Int))))=some (.nx (X9 (y/(n:Int)) n o qs (some (.int (i:Int))) (some (.int (mo:Int))) (some (.int (a:Int))))):=by
   rw[Zl,vP (a:=y/(n:Int)) (vC (C:=Vw) (op:=(· / ·)) (a:=y) rfl rfl ⟨by omega,by omega⟩)];rfl
  have q3:Xm 5 (eP (Xh [(Za 8),(Zf ZX (Zf ZD (Zf ZD (Za 8) (eC (.int 1))) (Zf ZX (Za 0) (Zf Xd (Za 3) (eC (.int 1))))) (Za 3))])) (X9 (y/(n:Int)) n o qs (some (.int (i:Int))) (some (.int (mo:Int))) (some (.int (a:Int))))=some (.nx (X9 (y/(n:Int)) n o (qs++[(a,c)]) (some (.int (i:Int))) (some (.int (mo:Int))) (some (.int (a:Int))))):=by
   have a1:Zf ZX (Za 0) (Zf Xd (Za 3) (eC (.int 1))) (X9 (y/(n:Int)) n o qs (some (.int (i:Int))) (some (.int (mo:Int))) (some (.int (a:Int))))=some (.int (b:Int)):=by
    rw[<-eb,<-cn]
    exact vC (C:=fun _ j=>0<j) (op:=(· % ·)) (a:=y/(n:Int)) rfl (vI (op:=(· - ·)) (a:=(n:Int)) rfl rfl) (by omega)
   have a2:Zf ZX (Zf ZD (Zf ZD (Za 8) (eC (.int 1))) (Zf ZX (Za 0) (Zf Xd (Za 3) (eC (.int 1))))) (Za 3) (X9 (y/(n:Int)) n o qs (some (.int (i:Int))) (some (.int (mo:Int))) (some (.int (a:Int))))=some (.int (c:Int)):=by
    rw[<-ec]
    exact vC (C:=fun _ j=>0<j) (op:=(· % ·)) (vI (op:=(· + ·)) (vI (op:=(· + ·)) (a:=(a:Int)) rfl rfl) a1) rfl (by omega)
   rw[UJ (l:=Ym (a,c)) (m:=qs.map Ym) (by
    rw[Xg,show Xh [(Za 8),(Zf ZX (Zf ZD (Zf ZD (Za 8) (eC (.int 1))) (Zf ZX (Za 0) (Zf Xd (Za 3) (eC (.int 1))))) (Za 3))] (X9 (y/(n:Int)) n o qs (some (.int (i:Int))) (some (.int (mo:Int))) (some (.int (a:Int))))=some (Ym (a,c)) by
     show(UZ [(Za 8),(Zf ZX (Zf ZD (Zf ZD (Za 8) (eC (.int 1))) (Zf ZX (Za 0) (Zf Xd (Za 3) (eC (.int 1))))) (Za 3))] (X9 (y/(n:Int)) n o qs (some (.int (i:Int))) (some (.int (mo:Int))) (some (.int (a:Int))))).map PV.tup=_
     rw[Zk,Zk,a2];rfl]
    rfl) rfl (by simp;omega)]
   show some (Out.nx [_,_,_,_,_,some (.lst (qs.map Ym++[Ym (a,c)])),_,_,_,_,_,_])=some (Out.nx [_,_,_,_,_,some (.lst ((qs++[(a,c)]).map Ym)),_,_,_,_,_,_])
   rw[List.map_append];rfl
  have q4:Zn 0 (eP (Zf Xp (Za 0) (Zf Xd (Za 3) (eC (.int 1))))) (X9 (y/(n:Int)) n o (qs++[(a,c)]) (some (.int (i:Int))) (some (.int (mo:Int))) (some (.int (a:Int))))=some (.nx (X9 (y/(n:Int)/((n:Int)-1)) n o (qs++[(a,c)]) (some (.int (i:Int))) (some (.int (mo:Int))) (some (.int (a:Int))))):=by
   rw[Zl,vP (a:=y/(n:Int)/((n:Int)-1)) (vC (C:=Vw) (op:=(· / ·)) (a:=y/(n:Int)) rfl (vI (op:=(· - ·)) (a:=(n:Int)) rfl rfl) ⟨by omega,by omega⟩)];rfl
  refine⟨X9 y n o qs (some (.int (i:Int))) (some (.int (mo:Int))) z8,_,rfl,(by show Zm _ _ _=_;rw[Zz q1,Zz q2,Zz q3,q4]),_,_,_,_,rfl,by simp[lq];omega,fun j hj=>?_,fun p hp=>?_⟩
  ·rw[List.getElem?_append_left (by omega)]
   exact all.1 j hj
  ·rcases List.mem_append.mp hp with hp | hp
   ·exact all.2 p hp
   ·rw[List.mem_singleton.mp hp]
    exact⟨ha,hc,ne⟩)
 subst hs3;rw[Te] at lq
 have e9:Xf [4,5,9] (ZO [(Za 7)]) (.one 6) f3 (X9 (y2/((8:Int)-(n:Int)+2)) n o ps w6 (some (.int (mo:Int))) none)=some (.nx (X9 y3 n o qs v6 (some (.int (mo:Int))) v8)):=by
  show(ZO [(Za 7)] (Yc [4,5,9] (X9 (y2/((8:Int)-(n:Int)+2)) n o ps w6 (some (.int (mo:Int))) none))).bind _=_
  rw[Yp (n:=mo) rfl (by omega)];exact g3
 -- the rows
 let Z:=List.replicate n (List.replicate n (0:Int))
 let stT:List (List Int)->Option PV->Option PV->Option PV->ZP:=fun M z8 z10 z11=>[some (.int y3),some YD,some (.int 8),some (.int (n:Int)),some (.lst (iL o)),some (.lst (qs.map Ym)),v6,some (.int (mo:Int)),z8,some (.lst (rL M)),z10,z11]
 have e10:Zn 9 (Zw 1 [3] (ZO [(Za 3)]) (.one 0) ZG (Zf Rn (YC [(eC (.int 0))]) (Za 1))) (X9 y3 n o qs v6 (some (.int (mo:Int))) v8)=some (.nx (stT Z v8 none none)):=by
  rw[Zl,QK (n:=n) rfl (by omega)];rfl
 let f4:XS:=(Zm (Zn 11 (eP (Zf ZD (Zf ZK (Zf ZK (Za 9) (Zf ZK (Za 4) (Za 8))) (Zf ZK (Za 4) (Za 10))) (eC (.int 1))))) (Zm (Yo 9 (Zf ZK (Za 4) (Za 8)) (Zf ZK (Za 4) (Za 10)) (Za 11)) (Yo 9 (Zf ZK (Za 4) (Za 10)) (Zf ZK (Za 4) (Za 8)) (Za 11))))
 obtain⟨s4,g4,M,t8,t10,t11,hs4,td,gr⟩:=YB (T:=.many [8,10]) (fb:=f4) (ls:=qs.map Ym) (s:=stT Z v8 none none) (fun i s=>∃M z8 z10 z11,s=stT M z8 z10 z11/\Tied n M i/\Grown M o (min (i+1) n)) ⟨Z,v8,none,none,rfl,Tied.zero n,fun j h1 h2=>by omega⟩ (by
  rintro i l s hl ⟨M,z8,z10,z11,rfl,td,gr⟩
  obtain⟨⟨p1,p2⟩,hp,rfl⟩:∃p,qs[i]?=some p/\l=Ym p:=by
   rw[List.getElem?_map] at hl
   cases q:qs[i]? with
   | none=>rw[q] at hl;cases hl
   | some p=>rw[q] at hl;cases hl;exact⟨p,rfl,rfl⟩
  have hi:i<qs.length:=(List.getElem?_eq_some_iff.mp hp).1
  obtain⟨h1,h2,h3⟩:=all.2 _ (List.mem_of_getElem? hp)
  have h1:p1<n:=h1
  have h2:p2<n:=h2
  have h3:p1≠p2:=h3
  have na:=nk.at (x:=p1) h1
  have nb:=nk.at (x:=p2) h2
  have nn:=nk.ne (x:=p1) (y:=p2) h1 h2 h3
  obtain⟨a,ea⟩:∃a:Nat,YJ o p1=(a:Int):=⟨(YJ o p1).toNat,by omega⟩
  obtain⟨b,eb⟩:∃b:Nat,YJ o p2=(b:Int):=⟨(YJ o p2).toNat,by omega⟩
  have ha:a<n:=by omega
  have hb:b<n:=by omega
  have ab:a≠b:=by omega
  have ia:∀M z11,Zf ZK (Za 4) (Za 8) (stT M (some (.int (p1:Int))) (some (.int (p2:Int))) z11)=some (.int (a:Int)):=fun M z11=>by
   have:=VP (l:=o) (k:=p1) (by rw[nk.len];exact h1)
   rw[ea] at this;exact this
  have ib:∀M z11,Zf ZK (Za 4) (Za 10) (stT M (some (.int (p1:Int))) (some (.int (p2:Int))) z11)=some (.int (b:Int)):=fun M z11=>by
   have:=VP (l:=o) (k:=p2) (by rw[nk.len];exact h2)
   rw[eb] at this;exact this
  let t:=Y1 M a b+1
  have q1:Zn 11 (eP (Zf ZD (Zf ZK (Zf ZK (Za 9) (Zf ZK (Za 4) (Za 8))) (Zf ZK (Za 4) (Za 10))) (eC (.int 1)))) (stT M (some (.int (p1:Int))) (some (.int (p2:Int))) z11)=some (.nx (stT M (some (.int (p1:Int))) (some (.int (p2:Int))) (some (.int t)))):=by
   rw[Zl,vP (vI (op:=(· + ·)) (PJ td.mat.len td.mat.row ha hb rfl (ia M z11) (ib M z11)) rfl)];rfl
  have q2:Yo 9 (Zf ZK (Za 4) (Za 8)) (Zf ZK (Za 4) (Za 10)) (Za 11) (stT M (some (.int (p1:Int))) (some (.int (p2:Int))) (some (.int t)))=some (.nx (stT (WM M a b t) (some (.int (p1:Int))) (some (.int (p2:Int))) (some (.int t)))):=by
   rw[O1 td.mat ha hb rfl t (ia M _) (ib M _) rfl];rfl
  have q3:Yo 9 (Zf ZK (Za 4) (Za 10)) (Zf ZK (Za 4) (Za 8)) (Za 11) (stT (WM M a b t) (some (.int (p1:Int))) (some (.int (p2:Int))) (some (.int t)))=some (.nx (stT (Ke M a b) (some (.int (p1:Int))) (some (.int (p2:Int))) (some (.int t)))):=by
   rw[QO td.mat ha hb rfl t (ib _ _) (ia _ _) rfl];rfl
  obtain⟨gr1,gr2⟩:=td.grow ha hb
  refine⟨stT M (some (.int (p1:Int))) (some (.int (p2:Int))) z11,_,rfl,(by show Zm _ _ _=_;rw[Zz q1,Zz q2,q3]),_,_,_,_,rfl,td.up (by omega) ha hb ab,fun j h1 h2=>?_⟩
  by_cases w:j<min (i+1) n
  ·exact(gr.mono gr1) j h1 w
  ·have hj:j=i+1:=by omega
   have hin:i<n-1:=by omega
   have pp:=pre i (p1,p2) (by rw[<-all.1 i hin];exact hp)
   refine⟨p2,by omega,?_⟩
   have e1:p1=j:=by have:=pp.1;simp at this;omega
   rw[<-e1,ea,eb]
   exact gr2)
 subst hs4
 rw[List.length_map,lq] at td gr
 have e11:Xf [9] (Y4 (Za 5)) (.many [8,10]) f4 (stT Z v8 none none)=some (.nx (stT M t8 t10 t11)):=by
  show(Y4 (Za 5) (Yc [9] (stT Z v8 none none))).bind _=_
  exact g4
 have ok:Z7 M:=td.mat.web (by omega) (by omega)
 refine⟨M,n-1+mo,?_,ok,Grown.conn (n:=n) (fun j h1 h2=>gr j h1 (by omega)) td.mat.len nk,by rw[td.mat.len];exact n4,by rw[td.mat.len];exact td.sum,by omega⟩
 show X5 12 Wi _=_
 unfold Wi
 show(Zm _ _ [some (.int x),some YD,some (.int 8),none,none,none,none,none,none,none,none,none]).bind X1=_
 rw[Zz e1,Zz e2,Zz (s1:=[some (.int (x/5)),some YD,some (.int 8),some (.int (n:Int)),some (.lst (iL [])),none,none,none,none,none,none,none]) rfl,Zz (s1:=X9 (x/5) n [] [] none none none) rfl,Zz e5,Zz e6,Zz em,Zz e8,Zz e9,Zz e10,Zz e11,Vs (M0 (n:=n) (by rw[td.mat.len];omega) rfl)]
 rfl
theorem QP{n t:Nat}{W:List (List Int)}(ok:Z7 W)(hn:W.length=n)(hs:RP n W=2*(t:Int))(h8:t<=8):(Yr W).length<=8:=by
 have h1:=JX ok;rw[MW] at h1
 have h2:sN W.length (fun i=>(ZN W i).sum)=RP n W:=by
  unfold RP;rw[hn]
  exact YU fun i hi=>by rw[MV ok (by omega),MW,hn]
 rw[h2,hs] at h1;omega
theorem PL(l:List PV){k:Nat}(h:k<=l.length):Xq l none (some (k:Int))=l.take k:=by
 unfold Xq;rw[HT.sIx_nat,HT.sIx_none,Nat.min_eq_left h,List.drop_zero,Nat.sub_zero]
theorem M1(l:List PV){k:Nat}(h:k<=l.length):Xq l (some (k:Int)) none=l.drop k:=by
 unfold Xq
 rw[HT.sIx_nat,HT.sIx_none,Nat.min_eq_left h,List.take_of_length_le (by rw[List.length_drop];omega)]
def Sd{α:Type}(k:Nat)(l:List α):List α:=l.drop k++l.take k
theorem PM{α:Type}{k:Nat}{l:List α}(h:k<=l.length):(Sd k l).length=l.length:=by unfold Sd;rw[List.length_append,List.length_drop,List.length_take];omega
theorem PN{α:Type}{k i:Nat}{l:List α}(h:k<=l.length)(hi:i<l.length):(Sd k l)[i]?=l[(i+k)%l.length]?:=by
 unfold Sd
 by_cases q:i<l.length-k
 ·rw[List.getElem?_append_left (by rw[List.length_drop];exact q),List.getElem?_drop,Nat.mod_eq_of_lt (by omega),Nat.add_comm]
 ·rw[List.getElem?_append_right (by rw[List.length_drop];omega),List.length_drop,Nat.mod_eq_sub_mod (by omega),Nat.mod_eq_of_lt (by omega),List.getElem?_take_of_lt (by omega)]
  congr 1
  omega
def TB(k:Nat)(M:List (List Int)):List (List Int):=(Sd k M).map (Sd k)
theorem Wu{n k:Nat}{M:List (List Int)}(ok:MatOk n M)(hk:k<n){i j:Nat}(hi:i<n)(hj:j<n):Y1 (TB k M) i j=Y1 M ((i+k)%n) ((j+k)%n):=by
 have hm:(i+k)%n<n:=Nat.mod_lt _ (by omega)
 have r1:ZN (TB k M) i=Sd k (ZN M ((i+k)%n)):=by
  unfold ZN TB
  rw[List.getD_eq_getElem?_getD,List.getElem?_map,PN (by rw[ok.len];omega) (by rw[ok.len];exact hi),ok.len,List.getElem?_eq_getElem (by rw[ok.len];exact hm),List.getD_eq_getElem?_getD,List.getElem?_eq_getElem (by rw[ok.len];exact hm)]
  rfl
 have lr:=ok.row _ hm;unfold Y1;rw[r1];unfold YJ
 rw[List.getD_eq_getElem?_getD,List.getD_eq_getElem?_getD,PN (by rw[lr];omega) (by rw[lr];exact hj),lr]
theorem M3{n k:Nat}{M:List (List Int)}(ok:MatOk n M)(hk:k<n):MatOk n (TB k M):=by
 have hm:∀i,(i+k)%n<n:=fun i=>Nat.mod_lt _ (by omega)
 refine⟨by unfold TB;rw[List.length_map,PM (by rw[ok.len];omega),ok.len],fun i hi=>?_,fun i j hi hj=>?_,fun i j hi hj=>?_,fun i j hi hj=>?_,fun i hi=>?_⟩
 ·have:ZN (TB k M) i=Sd k (ZN M ((i+k)%n)):=by
   unfold ZN TB
   rw[List.getD_eq_getElem?_getD,List.getElem?_map,PN (by rw[ok.len];omega) (by rw[ok.len];exact hi),ok.len,List.getElem?_eq_getElem (by rw[ok.len];exact hm i),List.getD_eq_getElem?_getD,List.getElem?_eq_getElem (by rw[ok.len];exact hm i)]
   rfl
  rw[this,PM (by rw[ok.row _ (hm i)];omega),ok.row _ (hm i)]
 ·rw[Wu ok hk hi hj];exact ok.lo _ _ (hm i) (hm j)
 ·rw[Wu ok hk hi hj];exact ok.hi _ _ (hm i) (hm j)
 ·rw[Wu ok hk hi hj,Wu ok hk hj hi];exact ok.sym _ _ (hm i) (hm j)
 ·rw[Wu ok hk hi hi];exact ok.dia _ (hm i)
theorem O4{n k:Nat}(hn:n<=5)(hk:k<n)(f:Nat->Int):sN n (fun i=>f ((i+k)%n))=sN n f:=by
 have:n=1\/n=2\/n=3\/n=4\/n=5:=by omega
 have:k=0\/k=1\/k=2\/k=3\/k=4:=by omega
 rcases ‹n=1\/_› with rfl | rfl | rfl | rfl | rfl<;>rcases ‹k=0\/_› with rfl | rfl | rfl | rfl | rfl<;>first
  | (exfalso;omega)
  | (simp[sN];done)
  | (simp[sN];omega)
theorem HY{n k:Nat}{M:List (List Int)}(ok:MatOk n M)(hn:n<=5)(hk:k<n):RP n (TB k M)=RP n M:=by
 unfold RP;rw[YU (g:=fun i=>sN n (fun j=>Y1 M ((i+k)%n) ((j+k)%n))) fun i hi=>YU fun j hj=>Wu ok hk hi hj];rw[O4 hn hk (fun x=>sN n (fun j=>Y1 M x ((j+k)%n)))]
 exact YU fun x _=>O4 hn hk (fun y=>Y1 M x y)
def Dr(n:Nat):List Int:=(List.range n).map fun(i:Nat)=>(i:Int)
theorem PQ{n i:Nat}(h:i<n):YJ (Dr n) i=(i:Int):=X4 h
def DI(n k:Nat):List Int:=(List.range n).map fun(i:Nat)=>(((i+n-k)%n:Nat):Int)
theorem J4{n k i:Nat}(h:i<n):YJ (DI n k) i=(((i+n-k)%n:Nat):Int):=X4 h
theorem M4{n k i:Nat}(hk:k<n)(hi:i<n):((i+n-k)%n+k)%n=i:=by
 rw[Nat.mod_add_mod,show i+n-k+k=i+n by omega,Nat.add_mod_right,Nat.mod_eq_of_lt hi]
theorem J5{n k:Nat}(hn:n<=5)(hk:k<n):NamesOk n (DI n k):=by
 refine⟨by simp[DI],?_,fun x hx=>?_,fun x hx=>?_⟩
 ·have:n=1\/n=2\/n=3\/n=4\/n=5:=by omega
  have:k=0\/k=1\/k=2\/k=3\/k=4:=by omega
  rcases ‹n=1\/_› with rfl | rfl | rfl | rfl | rfl<;>rcases ‹k=0\/_› with rfl | rfl | rfl | rfl | rfl<;>first
   | (exfalso;omega)
   | decide
 ·obtain⟨i,_,rfl⟩:=List.mem_map.mp hx
  omega
 ·obtain⟨i,_,rfl⟩:=List.mem_map.mp hx
  have:(i+n-k)%n<n:=Nat.mod_lt _ (by omega)
  omega
theorem J6{n k:Nat}{M:List (List Int)}(ok:MatOk n M)(hn:n<=5)(hk:k<n)(gr:Grown M (Dr n) n):PF (TB k M):=by
 refine Grown.conn (n:=n) (l:=DI n k) (fun j h1 h2=>?_) (M3 ok hk).len (J5 hn hk)
 obtain⟨j',hj',e⟩:=gr j h1 h2
 refine⟨j',hj',?_⟩
 rw[J4 h2,J4 (by omega),Int.toNat_natCast,Int.toNat_natCast,Wu ok hk (Nat.mod_lt _ (by omega)) (Nat.mod_lt _ (by omega)),M4 hk h2,M4 hk (by omega)];rw[PQ h2,PQ (by omega),Int.toNat_natCast,Int.toNat_natCast] at e;exact e
theorem J7{ns:List Int}(hns:ns.length<=63):∃W,Hv [.cst (iL ns),YD,.int 8]=some (wP W)/\Z7 W/\PF W/\W.length<=5/\(Yr W).length<=8:=by
 have Cr:ZQ [.cst (iL ns),.int 0]=some (.int (YJ ns 0)):=Tz hns 0
 let s0:ZP:=[some (.cst (iL ns)),some YD,some (.int 8),none,none,none,none,none,none,none,none,none]
 have a0:∀s:ZP,s[0]?=some (some (.cst (iL ns)))->Zc ZQ [(Za 0),(eC (.int 0))] s=some (.int (YJ ns 0)):=fun s h=>by
  have:Za 0 s=some (.cst (iL ns)):=by
   show s[0]?.bind id=_
   rw[h];rfl
  rw[Zu,Zk,this];exact Cr
 have c0:xB (Zf (Z8 false) (Zf ZX (Zc ZQ [(Za 0),(eC (.int 0))]) (eC (.int 2))) (eC (.int 1))) s0=some (decide (YJ ns 0%2=1)):=by
  have m:Zf ZX (Zc ZQ [(Za 0),(eC (.int 0))]) (eC (.int 2)) s0=some (.int (YJ ns 0%2)):=vC (C:=fun _ j=>0<j) (op:=(· % ·)) (a0 s0 rfl) rfl (by decide)
  rw[Z3,ZI,m]
  show(Z8 false (.int (YJ ns 0%2)) (.int 1)).bind SG=_
  rw[Xs];rfl
 by_cases q:YJ ns 0%2=1
 ·obtain⟨W,t,e,ok,cn,l4,sm,t5⟩:=O3 (YJ ns 1)
  refine⟨W,?_,ok,cn,l4,QP ok rfl sm t5⟩
  have at1:ZQ [.cst (iL ns),.int 1]=some (.int (YJ ns 1)):=Tz hns 1
  show X5 12 To _=_
  unfold To
  show(Zm _ _ s0).bind X1=_
  rw[Sy (v:=wP W)]
  ·rfl
  ·rw[ZC,c0,decide_eq_true q]
   refine Vs ?_
   have a1:Zc ZQ [(Za 0),(eC (.int 1))] s0=some (.int (YJ ns 1)):=at1
   rw[Zu,Zk,a1];exact e
 ·obtain⟨v,hv,ev⟩:=Z6 (YJ ns 0) (t:=1) (m:=5) (by omega) (by omega)
  obtain⟨n,n1,n4,en⟩:=O2 v hv
  have e1:Zn 3 (eP (Zf ZK (Za 1) (Zc Zj [(Zc ZQ [(Za 0),(eC (.int 0))]),(eC (.int 1)),(Zc Zq [(Za 1)])]))) s0=some (.nx [some (.cst (iL ns)),some YD,some (.int 8),some (.int (n:Int)),none,none,none,none,none,none,none,none]):=by
   have a:Zc Zj [(Zc ZQ [(Za 0),(eC (.int 0))]),(eC (.int 1)),(Zc Zq [(Za 1)])] s0=some (.int (v:Int)):=by
    rw[Zu,Zk,a0 s0 rfl];exact ev
   rw[Zl,vP (a:=(n:Int)) (by rw[ZI,a];exact en)];rfl
  let Z:=List.replicate n (List.replicate n (0:Int))
  let st:List (List Int)->Nat->Option PV->Option PV->Option PV->Option PV->Option PV->ZP:=fun M t x6 x7 x8 x9 x10=>[some (.cst (iL ns)),some YD,some (.int 8),some (.int (n:Int)),some (.lst (rL M)),some (.int (t:Int)),x6,x7,x8,x9,x10,none]
  have e2:Zn 4 (Zw 1 [3] (ZO [(Za 3)]) (.one 0) ZG (Zf Rn (YC [(eC (.int 0))]) (Za 1))) [some (.cst (iL ns)),some YD,some (.int 8),some (.int (n:Int)),none,none,none,none,none,none,none,none]=some (.nx [some (.cst (iL ns)),some YD,some (.int 8),some (.int (n:Int)),some (.lst (rL Z)),none,none,none,none,none,none,none]):=by
   rw[Zl,QK (n:=n) rfl (by omega)];rfl
  have e3:Zn 5 (eP (eC (.int 0))) [some (.cst (iL ns)),some YD,some (.int 8),some (.int (n:Int)),some (.lst (rL Z)),none,none,none,none,none,none,none]=some (.nx (st Z 0 none none none none none)):=by
   rw[Zl,vP (a:=0) rfl];rfl
  let fT:XS:=(Zm (Yo 4 (Za 8) (Za 9) (Zf ZD (Zf ZK (Zf ZK (Za 4) (Za 8)) (Za 9)) (eC (.int 1))))
   (Zm (Yo 4 (Za 9) (Za 8) (Zf ZK (Zf ZK (Za 4) (Za 8)) (Za 9)))
   (Zn 5 (eP (Zf ZD (Za 5) (eC (.int 1)))))))
  have tie:∀(M:List (List Int))(t:Nat)(x6 x7 x10:Option PV)(a b:Nat),MatOk n M->a<n->b<n->fT (st M t x6 x7 (some (.int (a:Int))) (some (.int (b:Int))) x10)=some (.nx (st (Ke M a b) (t+1) x6 x7 (some (.int (a:Int))) (some (.int (b:Int))) x10)):=fun M t x6 x7 x10 a b ok ha hb=>by
   have q1:Yo 4 (Za 8) (Za 9) (Zf ZD (Zf ZK (Zf ZK (Za 4) (Za 8)) (Za 9)) (eC (.int 1))) (st M t x6 x7 (some (.int (a:Int))) (some (.int (b:Int))) x10)=some (.nx (st (WM M a b (Y1 M a b+1)) t x6 x7 (some (.int (a:Int))) (some (.int (b:Int))) x10)):=by
    rw[O1 ok ha hb rfl (Y1 M a b+1) rfl rfl (vI (op:=(· + ·)) (PJ ok.len ok.row ha hb rfl rfl rfl) rfl)];rfl
   have q2:Yo 4 (Za 9) (Za 8) (Zf ZK (Zf ZK (Za 4) (Za 8)) (Za 9)) (st (WM M a b (Y1 M a b+1)) t x6 x7 (some (.int (a:Int))) (some (.int (b:Int))) x10)=some (.nx (st (Ke M a b) t x6 x7 (some (.int (a:Int))) (some (.int (b:Int))) x10)):=by
    have sh:=Wn (t:=Y1 M a b+1) (b:=b) ok.len ok.row ha
    have rd:=PJ (s:=st (WM M a b (Y1 M a b+1)) t x6 x7 (some (.int (a:Int))) (some (.int (b:Int))) x10) (fm:=Za 4) (fa:=Za 8) (fb:=Za 9) sh.1 sh.2 ha hb rfl rfl rfl
    rw[S7 ok.len ok.row ha hb,if_pos ⟨rfl,rfl⟩] at rd
    rw[QO ok ha hb rfl (Y1 M a b+1) rfl rfl rd];rfl
   have q3:Zn 5 (eP (Zf ZD (Za 5) (eC (.int 1)))) (st (Ke M a b) t x6 x7 (some (.int (a:Int))) (some (.int (b:Int))) x10)=some (.nx (st (Ke M a b) (t+1) x6 x7 (some (.int (a:Int))) (some (.int (b:Int))) x10)):=by
    have e:(t:Int)+1=((t+1:Nat):Int):=by omega
    rw[Zl,vP (a:=((t+1:Nat):Int)) (by rw[<-e];exact vI (op:=(· + ·)) (a:=(t:Int)) rfl rfl)];rfl
   show Zm _ _ _=_
   rw[Zz q1,Zz q2,q3]
  let fb:XS:=(Zm (Zn 7 (Zc ZQ [(Za 0),(Za 6)]))
   (Zm (Zn 8 (Zc Zj [(Za 7),(eC (.int 13)),(Za 3)]))
   (Zm (Zn 9 (eP (Zf ZX (Zf ZD (Zf ZD (Za 8) (eC (.int 1))) (Zc Zj [(Za 7),(eC (.int 17)),(Zc U3 [(eC (.int 1)),(Zf Xd (Za 3) (eC (.int 1)))])])) (Za 3))))
   (Zm (Xc (xB (Zf UG (Za 6) (Za 3))) (Zm (Zn 8 (eP (Za 6)))
   (Zn 9 (Zc Zj [(Za 7),(eC (.int 5)),(Za 6)]))) ZH)
   (Zm (Zn 10 (eP (VC (Zf UH (Za 3) (eC (.int 1))) (VC (Zf UG (Za 5) (Za 2)) (Zf UH (Zc Zj [(Za 7),(eC (.int 3)),(eC (.int 3))]) (eC (.int 0)))))))
   (Xc (UR (xB (Zf UG (Za 6) (Za 3))) (xB (Za 10))) fT ZH))))))
  obtain⟨s4,g4,M,t,y6,y7,y8,y9,y10,hs4,td,t5,tl,gr⟩:=YB (T:=.one 6) (fb:=fb) (ls:=Wa 1 12) (s:=st Z 0 none none none none none)
   (fun i s=>∃M t x6 x7 x8 x9 x10,s=st M t x6 x7 x8 x9 x10/\Tied n M t/\t<=8/\(i<=n-1->t=i)/\Grown M (Dr n) (min (i+1) n)) ⟨Z,0,none,none,none,none,none,rfl,Tied.zero n,by omega,fun _=>rfl,fun j h1 h2=>by omega⟩ (by
   rintro i l s hl ⟨M,t,x6,x7,x8,x9,x10,rfl,td,t5,tl,gr⟩
   obtain⟨hi,rfl⟩:=Td hl
   have ci:(1:Int)+(i:Int)=((i+1:Nat):Int):=by omega
   rw[ci]
   let K6:Option PV:=some (.int ((i+1:Nat):Int))
   let c:=YJ ns (i+1)
   let C7:Option PV:=some (.int c)
   obtain⟨a,ha,ea⟩:=Z6 c (t:=13) (m:=n) (by omega) (by omega)
   obtain⟨b,hb,eb⟩:=Z6 c (t:=17) (m:=max 1 (n-1)) (by omega) (by omega)
   obtain⟨d,hd,ed⟩:=XJ ((a:Int)+1+(b:Int)) (m:=n) (by omega)
   obtain⟨r,hr,er⟩:=Z6 c (t:=3) (m:=3) (by omega) (by omega)
   have q1:Zn 7 (Zc ZQ [(Za 0),(Za 6)]) (st M t K6 x7 x8 x9 x10)=some (.nx (st M t K6 C7 x8 x9 x10)):=by
    have:Zc ZQ [(Za 0),(Za 6)] (st M t K6 x7 x8 x9 x10)=some (.int c):=Tz hns (i+1)
    rw[Zl,this];rfl
   have q2:Zn 8 (Zc Zj [(Za 7),(eC (.int 13)),(Za 3)]) (st M t K6 C7 x8 x9 x10)=some (.nx (st M t K6 C7 (some (.int (a:Int))) x9 x10)):=by
    have:Zc Zj [(Za 7),(eC (.int 13)),(Za 3)] (st M t K6 C7 x8 x9 x10)=some (.int (a:Int)):=ea
    rw[Zl,this];rfl
   have q3:Zn 9 (eP (Zf ZX (Zf ZD (Zf ZD (Za 8) (eC (.int 1))) (Zc Zj [(Za 7),(eC (.int 17)),(Zc U3 [(eC (.int 1)),(Zf Xd (Za 3) (eC (.int 1)))])])) (Za 3))) (st M t K6 C7 (some (.int (a:Int))) x9 x10)=some (.nx (st M t K6 C7 (some (.int (a:Int))) (some (.int (d:Int))) x10)):=by
    have m1:Zf Xd (Za 3) (eC (.int 1)) (st M t K6 C7 (some (.int (a:Int))) x9 x10)=some (.int ((n:Int)-1)):=vI (op:=(· - ·)) rfl rfl
    have m2:Zc U3 [(eC (.int 1)),(Zf Xd (Za 3) (eC (.int 1)))] (st M t K6 C7 (some (.int (a:Int))) x9 x10)=some (.int ((max 1 (n-1):Nat):Int)):=by
     rw[Zu,Zk,Zk,m1]
     show some (PV.int (if(n:Int)-1>1 then(n:Int)-1 else 1))=_
     congr 2
     split<;>omega
    have m3:Zc Zj [(Za 7),(eC (.int 17)),(Zc U3 [(eC (.int 1)),(Zf Xd (Za 3) (eC (.int 1)))])] (st M t K6 C7 (some (.int (a:Int))) x9 x10)=some (.int (b:Int)):=by
     rw[Zu,Zk,Zk,Zk,m2];exact eb
    rw[Zl,vP (a:=(d:Int)) (by
     rw[<-ed]
     exact vC (C:=fun _ j=>0<j) (op:=(· % ·)) (vI (op:=(· + ·)) (vI (op:=(· + ·)) (a:=(a:Int)) rfl rfl) m3) rfl (by omega))]
    rfl
   have c6:∀x8 x9 x10,xB (Zf UG (Za 6) (Za 3)) (st M t K6 C7 x8 x9 x10)=some (decide (i+1<n)):=fun x8 x9 x10=>by
    show some (decide (((i+1:Nat):Int)<(n:Int)))=_
    congr 1
    by_cases w:i+1<n
    ·rw[decide_eq_true w,decide_eq_true (by omega)]
    ·rw[decide_eq_false w,decide_eq_false (by omega)]
   have m10:∀x8 x9 x10,VC (Zf UH (Za 3) (eC (.int 1))) (VC (Zf UG (Za 5) (Za 2)) (Zf UH (Zc Zj [(Za 7),(eC (.int 3)),(eC (.int 3))]) (eC (.int 0)))) (st M t K6 C7 x8 x9 x10)=some (.bl (decide (1<n)&&(decide (t<8)&&decide (0<r)))):=fun x8 x9 x10=>by
    have b1:xB (Zf UH (Za 3) (eC (.int 1))) (st M t K6 C7 x8 x9 x10)=some (decide (1<n)):=by
     show some (decide ((n:Int)>1))=_
     congr 1
     by_cases w:1<n
     ·rw[decide_eq_true w,decide_eq_true (by omega)]
     ·rw[decide_eq_false w,decide_eq_false (by omega)]
    have b2:xB (Zf UG (Za 5) (Za 2)) (st M t K6 C7 x8 x9 x10)=some (decide (t<8)):=by
     show some (decide ((t:Int)<8))=_
     congr 1
     by_cases w:t<8
     ·rw[decide_eq_true w,decide_eq_true (by omega)]
     ·rw[decide_eq_false w,decide_eq_false (by omega)]
    have b3:Zf UH (Zc Zj [(Za 7),(eC (.int 3)),(eC (.int 3))]) (eC (.int 0)) (st M t K6 C7 x8 x9 x10)=some (.bl (decide (0<r))):=by
     have:Zc Zj [(Za 7),(eC (.int 3)),(eC (.int 3))] (st M t K6 C7 x8 x9 x10)=some (.int (r:Int)):=er
     rw[ZI,this]
     show some (PV.bl (decide ((r:Int)>0)))=_
     congr 2
     by_cases w:0<r
     ·rw[decide_eq_true w,decide_eq_true (by omega)]
     ·rw[decide_eq_false w,decide_eq_false (by omega)]
    rw[Ro,b1]
    by_cases w1:1<n
    ·rw[decide_eq_true w1]
     simp only[Option.bind_some,if_true,Bool.true_and];rw[Ro,b2]
     by_cases w2:t<8
     ·rw[decide_eq_true w2]
      simp only[Option.bind_some,if_true,Bool.true_and];exact b3
     ·rw[decide_eq_false w2];rfl
    ·rw[decide_eq_false w1];rfl
   by_cases w:i+1<n
   ·obtain⟨e,he,ee⟩:=Z6 c (t:=5) (m:=i+1) (by omega) (by omega)
    have q4:Xc (xB (Zf UG (Za 6) (Za 3))) (Zm (Zn 8 (eP (Za 6))) (Zn 9 (Zc Zj [(Za 7),(eC (.int 5)),(Za 6)]))) ZH (st M t K6 C7 (some (.int (a:Int))) (some (.int (d:Int))) x10)=some (.nx (st M t K6 C7 K6 (some (.int (e:Int))) x10)):=by
     rw[ZC,c6,decide_eq_true w];simp only[Option.bind_some,if_true]
     have r1:Zn 8 (eP (Za 6)) (st M t K6 C7 (some (.int (a:Int))) (some (.int (d:Int))) x10)=some (.nx (st M t K6 C7 K6 (some (.int (d:Int))) x10)):=by
      rw[Zl,vP (a:=((i+1:Nat):Int)) rfl];rfl
     have r2:Zn 9 (Zc Zj [(Za 7),(eC (.int 5)),(Za 6)]) (st M t K6 C7 K6 (some (.int (d:Int))) x10)=some (.nx (st M t K6 C7 K6 (some (.int (e:Int))) x10)):=by
      have:Zc Zj [(Za 7),(eC (.int 5)),(Za 6)] (st M t K6 C7 K6 (some (.int (d:Int))) x10)=some (.int (e:Int)):=ee
      rw[Zl,this];rfl
     rw[Zz r1,r2]
    let B:=decide (1<n)&&(decide (t<8)&&decide (0<r))
    have q5:Zn 10 (eP (VC (Zf UH (Za 3) (eC (.int 1))) (VC (Zf UG (Za 5) (Za 2)) (Zf UH (Zc Zj [(Za 7),(eC (.int 3)),(eC (.int 3))]) (eC (.int 0)))))) (st M t K6 C7 K6 (some (.int (e:Int))) x10)=some (.nx (st M t K6 C7 K6 (some (.int (e:Int))) (some (.bl B)))):=by
     rw[Zl,Xg,m10];rfl
    have q6:Xc (UR (xB (Zf UG (Za 6) (Za 3))) (xB (Za 10))) fT ZH (st M t K6 C7 K6 (some (.int (e:Int))) (some (.bl B)))=some (.nx (st (Ke M (i+1) e) (t+1) K6 C7 K6 (some (.int (e:Int))) (some (.bl B)))):=by
     rw[ZC,XD,c6,decide_eq_true w];simp only[Option.bind_some,if_true]
     exact tie M t K6 C7 (some (.bl B)) (i+1) e td.mat w (by omega)
    have te:=tl (by omega)
    obtain⟨gr1,gr2⟩:=td.grow (a:=i+1) (b:=e) w (by omega)
    refine⟨st M t K6 x7 x8 x9 x10,_,rfl,(by show Zm _ _ _=_;rw[Zz q1,Zz q2,Zz q3,Zz q4,Zz q5,q6]),_,_,_,_,_,_,_,rfl,td.up (by omega) w (by omega) (by omega),by omega,fun _=>by omega,fun j h1 h2=>?_⟩
    by_cases z:j<min (i+1) n
    ·exact(gr.mono gr1) j h1 z
    ·have hj:j=i+1:=by omega
     refine⟨e,by omega,?_⟩
     rw[hj,PQ w,PQ (by omega),Int.toNat_natCast,Int.toNat_natCast];exact gr2
   ·have q4:Xc (xB (Zf UG (Za 6) (Za 3))) (Zm (Zn 8 (eP (Za 6))) (Zn 9 (Zc Zj [(Za 7),(eC (.int 5)),(Za 6)]))) ZH (st M t K6 C7 (some (.int (a:Int))) (some (.int (d:Int))) x10)=some (.nx (st M t K6 C7 (some (.int (a:Int))) (some (.int (d:Int))) x10)):=by
     rw[ZC,c6,decide_eq_false w];rfl
    let B:=decide (1<n)&&(decide (t<8)&&decide (0<r))
    have q5:Zn 10 (eP (VC (Zf UH (Za 3) (eC (.int 1))) (VC (Zf UG (Za 5) (Za 2)) (Zf UH (Zc Zj [(Za 7),(eC (.int 3)),(eC (.int 3))]) (eC (.int 0)))))) (st M t K6 C7 (some (.int (a:Int))) (some (.int (d:Int))) x10)=some (.nx (st M t K6 C7 (some (.int (a:Int))) (some (.int (d:Int))) (some (.bl B)))):=by
     rw[Zl,Xg,m10];rfl
    have gr':Grown M (Dr n) (min (i+1+1) n):=fun j h1 h2=>gr j h1 (by omega)
    by_cases hB:B=true
    ·have hB':1<n/\t<8/\0<r:=by
      have:=hB
      simp only[B,Bool.and_eq_true,decide_eq_true_eq] at this;exact this
     have ne:a≠d:=fun z=>by
      subst z
      have h1:((a:Int)+1+(b:Int))=((a+1+b:Nat):Int):=by omega
      rw[h1] at ed
      have ed':(a+1+b)%n=a:=by
       have:=ed
       rw[<-Int.natCast_emod] at this;omega
      by_cases w:a+1+b<n
      ·rw[Nat.mod_eq_of_lt w] at ed';omega
      ·rw[Nat.mod_eq_sub_mod (by omega),Nat.mod_eq_of_lt (by omega)] at ed';omega
     have q6:Xc (UR (xB (Zf UG (Za 6) (Za 3))) (xB (Za 10))) fT ZH (st M t K6 C7 (some (.int (a:Int))) (some (.int (d:Int))) (some (.bl B)))=some (.nx (st (Ke M a d) (t+1) K6 C7 (some (.int (a:Int))) (some (.int (d:Int))) (some (.bl B)))):=by
      have c10:xB (Za 10) (st M t K6 C7 (some (.int (a:Int))) (some (.int (d:Int))) (some (.bl B)))=some true:=by
       show some B=_
       rw[hB]
      rw[ZC,XD,c6,decide_eq_false w];simp only[Option.bind_some,Bool.false_eq_true,if_false];rw[c10];simp only[Option.bind_some,if_true]
      exact tie M t K6 C7 (some (.bl B)) a d td.mat ha hd
     obtain⟨gr1,gr2⟩:=td.grow (a:=a) (b:=d) ha hd
     refine⟨st M t K6 x7 x8 x9 x10,_,rfl,(by show Zm _ _ _=_;rw[Zz q1,Zz q2,Zz q3,Zz q4,Zz q5,q6]),_,_,_,_,_,_,_,rfl,td.up (by omega) ha hd ne,by omega,fun h=>by omega,gr'.mono gr1⟩
    ·have q6:Xc (UR (xB (Zf UG (Za 6) (Za 3))) (xB (Za 10))) fT ZH (st M t K6 C7 (some (.int (a:Int))) (some (.int (d:Int))) (some (.bl B)))=some (.nx (st M t K6 C7 (some (.int (a:Int))) (some (.int (d:Int))) (some (.bl B)))):=by
      have c10:xB (Za 10) (st M t K6 C7 (some (.int (a:Int))) (some (.int (d:Int))) (some (.bl B)))=some false:=by
       show some B=_
       rw[Bool.not_eq_true] at hB;rw[hB]
      rw[ZC,XD,c6,decide_eq_false w];simp only[Option.bind_some,Bool.false_eq_true,if_false]
      rw[c10];rfl
     exact⟨st M t K6 x7 x8 x9 x10,_,rfl,(by show Zm _ _ _=_;rw[Zz q1,Zz q2,Zz q3,Zz q4,Zz q5,q6]),_,_,_,_,_,_,_,rfl,td,t5,fun h=>by omega,gr'⟩)
  subst hs4
  rw[show(Wa 1 12).length=12 by simp[Wa]] at gr
  have e4:Xf [4] (Xw [(eC (.int 1)),(eC (.int 13))]) (.one 6) fb (st Z 0 none none none none none)=some (.nx (st M t y6 y7 y8 y9 y10)):=by
   show(Xw [(eC (.int 1)),(eC (.int 13))] (Yc [4] (st Z 0 none none none none none))).bind _=_
   rw[Uc (i:=1) (j:=13) rfl rfl (by omega) (by omega)];exact g4
  have gr:Grown M (Dr n) n:=fun j h1 h2=>gr j h1 (by omega)
  obtain⟨k,hk,ek⟩:=Z6 (YJ ns 0) (t:=7) (m:=n) (by omega) (by omega)
  let st2:List (List Int)->ZP:=fun M=>[some (.cst (iL ns)),some YD,some (.int 8),some (.int (n:Int)),some (.lst (rL M)),some (.int (t:Int)),y6,y7,y8,y9,y10,some (.int (k:Int))]
  have e5:Zn 11 (Zc Zj [(Zc ZQ [(Za 0),(eC (.int 0))]),(eC (.int 7)),(Za 3)]) (st M t y6 y7 y8 y9 y10)=some (.nx (st2 M)):=by
   have:Zc Zj [(Zc ZQ [(Za 0),(eC (.int 0))]),(eC (.int 7)),(Za 3)] (st M t y6 y7 y8 y9 y10)=some (.int (k:Int)):=by
    rw[Zu,Zk,a0 _ rfl];exact ek
   rw[Zl,this];rfl
  have lenM:(rL M).length=n:=by unfold rL;rw[List.length_map];exact td.mat.len
  have e6:Zn 4 (Zw 1 [11] (Y4 (Zf Oq (Xl Xr (Za 4) (YZ (Za 11)) XM) (Xl Xr (Za 4) XM (YZ (Za 11))))) (.one 0) ZG (Zf Uw (Xl Xr (Za 0) (YZ (Za 1)) XM) (Xl Xr (Za 0) XM (YZ (Za 1))))) (st2 M)=some (.nx (st2 (TB k M))):=by
   have s1:Xl Xr (Za 4) (YZ (Za 11)) XM (st2 M)=some (.lst ((rL M).drop k)):=by
    show some (PV.lst (Xq (rL M) (some (k:Int)) none))=_
    rw[M1 _ (by omega)]
   have s2:Xl Xr (Za 4) XM (YZ (Za 11)) (st2 M)=some (.lst ((rL M).take k)):=by
    show some (PV.lst (Xq (rL M) none (some (k:Int))))=_
    rw[PL _ (by omega)]
   have s3:Y4 (Zf Oq (Xl Xr (Za 4) (YZ (Za 11)) XM) (Xl Xr (Za 4) XM (YZ (Za 11)))) (st2 M)=some ((Sd k M).map fun r=>.lst (iL r)):=by
    have:Zf Oq (Xl Xr (Za 4) (YZ (Za 11)) XM) (Xl Xr (Za 4) XM (YZ (Za 11))) (st2 M)=some (.lst ((Sd k M).map fun r=>.lst (iL r))):=by
     rw[ZI,s1,s2]
     show(if((rL M).drop k).length+((rL M).take k).length<=10000 then some (PV.lst ((rL M).drop k++(rL M).take k)) else none)=_
     rw[if_pos (by rw[List.length_drop,List.length_take];omega)]
     unfold Sd rL;rw[List.map_append,List.map_drop,List.map_take]
    unfold Y4
    rw[this];rfl
   have hc:Zw 1 [11] (Y4 (Zf Oq (Xl Xr (Za 4) (YZ (Za 11)) XM) (Xl Xr (Za 4) XM (YZ (Za 11))))) (.one 0) ZG (Zf Uw (Xl Xr (Za 0) (YZ (Za 1)) XM) (Xl Xr (Za 0) XM (YZ (Za 1)))) (st2 M)=some (.lst (rL (TB k M))):=by
    rw[Yd (Sd k M) (fun r=>.lst (iL r)) (fun r=>.lst (iL (Sd k r))) s3 (by rw[PM (by rw[td.mat.len];omega),td.mat.len];omega) (fun r hr=>⟨[some (.lst (iL r)),some (.int (k:Int))],rfl,rfl,?_⟩)]
    ·unfold TB rL
     rw[List.map_map];rfl
    ·have lr:r.length=n:=by
      have:r∈M:=by
       rcases List.mem_append.mp hr with h | h
       ·exact List.mem_of_mem_drop h
       ·exact List.mem_of_mem_take h
      obtain⟨i,hi,e⟩:=List.getElem_of_mem this
      have hi':i<n:=by rw[<-td.mat.len];exact hi
      have:=td.mat.row i hi'
      unfold ZN at this;rw[List.getD_eq_getElem?_getD,List.getElem?_eq_getElem hi] at this
      rw[<-e];exact this
     have u1:Xl Xr (Za 0) (YZ (Za 1)) XM [some (.lst (iL r)),some (.int (k:Int))]=some (.lst (iL (r.drop k))):=by
      show some (PV.lst (Xq (iL r) (some (k:Int)) none))=_
      rw[F9]
     have u2:Xl Xr (Za 0) XM (YZ (Za 1)) [some (.lst (iL r)),some (.int (k:Int))]=some (.lst (iL (r.take k))):=by
      show some (PV.lst (Xq (iL r) none (some (k:Int))))=_
      rw[F8]
     rw[ZI,u1,u2]
     show(if(iL (r.drop k)).length+(iL (r.take k)).length<=10000/\ZJ (iL (r.drop k))=true/\ZJ (iL (r.take k))=true then some (PV.lst (iL (r.drop k)++iL (r.take k))) else none)=_
     rw[if_pos ⟨by rw[List.length_map,List.length_map,List.length_drop,List.length_take];omega,Yv _,Yv _⟩,<-List.map_append]
     rfl
   rw[Zl,hc];rfl
  have okW:=M3 td.mat hk
  have ok:Z7 (TB k M):=okW.web (by omega) (by omega)
  refine⟨TB k M,?_,ok,J6 td.mat n4 hk gr,by rw[okW.len];exact n4,QP ok okW.len (by rw[HY td.mat n4 hk];exact td.sum) t5⟩
  show X5 12 To _=_
  unfold To
  show(Zm _ _ s0).bind X1=_
  rw[Zz (s1:=s0) (by rw[ZC,c0,decide_eq_false q];rfl),Zz e1,Zz e2,Zz e3,Zz e4,Zz e5,Zz e6,Vs (M0 (n:=n) (by rw[okW.len];omega) rfl)]
  rfl
end PW
namespace PW
open L2 VL VX PK
def eW(W:List (List Int)):List Yt:=MX W.length (Y1 W)
def Kf(W:List (List Int))(a b:Nat):List Yt:=List.replicate (Y1 W a b).toNat (a,b)
def eA(W:List (List Int))(a:Nat):List Yt:=(List.range (W.length-(a+1))).flatMap fun j=>Kf W a (a+1+j)
theorem PR(W:List (List Int)):eW W=(List.range W.length).flatMap (eA W):=by
 unfold eW MX Dk;rw[List.flatMap_assoc]
 congr 1
 funext a
 rw[List.flatMap_map];rfl
theorem UP(W:List (List Int)):(eW W).length=(Yr W).length:=by
 rw[PR];unfold Yr;rw[List.length_flatMap,List.length_flatMap]
 congr 1
 refine List.map_congr_left fun a _=>?_
 unfold eA WY;rw[List.length_flatMap,List.length_flatMap]
 congr 1
 refine List.map_congr_left fun j _=>?_
 unfold Kf Xv
 simp
theorem O5{W:List (List Int)}:∀e∈eW W,e.1<e.2/\e.2<W.length/\0<Y1 W e.1 e.2:=fun e he=>by
 unfold eW MX at he
 obtain⟨p,hp,hq⟩:=List.mem_flatMap.mp he
 have hq':=List.mem_replicate.mp hq
 obtain⟨h1,rfl⟩:=hq'
 have:=mem_prs.mp (show(e.1,e.2)∈Dk W.length from hp)
 exact⟨by omega,by omega,by omega⟩
theorem Ed{W:List (List Int)}{a b:Nat}(hab:a<b)(hb:b<W.length)(h:0<Y1 W a b):(a,b)∈eW W:=by
 unfold eW MX
 refine List.mem_flatMap.mpr ⟨(a,b),mem_prs.mpr ⟨by omega,by omega⟩,List.mem_replicate.mpr ⟨?_,rfl⟩⟩
 show(Y1 W a b).toNat≠0
 omega
theorem J8{W:List (List Int)}(ok:Z7 W)(cn:PF W){m:Nat->Nat}{F:List Nat}(h:TrOk W.length (eW W) m F []):∀x,x<W.length->m x=m 0:=fun x hx=>by
 have lt:∀a b,a<b->b<W.length->0<Y1 W a b->m a=m b:=fun a b hab hb h0=>by
  obtain⟨i,hi,e⟩:=List.getElem_of_mem (Ed hab hb h0)
  have:=h.done i hi (by simp)
  have ee:ZM (eW W) i=(a,b):=by
   unfold ZM
   rw[List.getD_eq_getElem?_getD,List.getElem?_eq_getElem hi,e];rfl
  rw[ee] at this;exact this
 refine(cn (fun x=>m x=m 0) (fun a b ha hb h0=>?_) x 0 hx ok.pos).mpr rfl
 have e:m a=m b:=by
  by_cases q:a<b
  ·exact lt a b q hb h0
  ·by_cases q2:b<a
   ·exact(lt b a q2 ha (by rw[ok.sym b a hb ha];exact h0)).symm
   ·rw[show a=b by omega]
 rw[e]
theorem HZ{W:List (List Int)}(ok:Z7 W){a b:Nat}(ha:a<W.length)(hb:b<W.length):(Kf W a b).length<=9:=by
 have:=ok.hi a b ha hb
 unfold Kf;simp;omega
theorem Ee{W:List (List Int)}(ok:Z7 W){a b:Nat}(ha:a<W.length)(hb:b<W.length)(t:Option PV):Zw 1 [2,3] (ZO [(Zf ZK (Zf ZK (Za 0) (Za 2)) (Za 3))]) (.one 0) ZG (eP (Xh [(Za 1),(Za 2)])) [some (wP W),t,some (.int (a:Int)),some (.int (b:Int))]=some (.lst ((Kf W a b).map Ym)):=by
 have hr:=ok.sq a ha;have b1:=ok.lo a b ha hb;have b2:=ok.hi a b ha hb
 have a1:Zf ZK (Za 0) (Za 2) [some (wP W),t,some (.int (a:Int)),some (.int (b:Int))]=some (pP (ZN W a)):=Hl ha
 have a2:Zf ZK (Zf ZK (Za 0) (Za 2)) (Za 3) [some (wP W),t,some (.int (a:Int)),some (.int (b:Int))]=some (.int (((Y1 W a b).toNat:Nat):Int)):=by
  rw[ZI,a1]
  have:=VP (l:=ZN W a) (k:=b) (by omega)
  rw[show(((Y1 W a b).toNat:Nat):Int)=YJ (ZN W a) b by show _=Y1 W a b;omega]
  exact this
 rw[Yd (List.range (Y1 W a b).toNat) (fun(i:Nat)=>.int (i:Int)) (fun _=>Ym (a,b)) (Yp a2 (by omega)) (by simp;omega) (fun i hi=>⟨_,rfl,rfl,rfl⟩)]
 unfold Kf;rw[List.map_replicate]
 congr 2
 exact List.ext_getElem (by simp) (by intros;simp)
theorem H9{W:List (List Int)}(ok:Z7 W){a:Nat}(ha:a<W.length)(acc:List Yt)(hacc:acc.length<=1000)(b0:Option PV) :
  ∃b',U8 (.one 3) (Xn 1 (Zw 1 [2,3] (ZO [(Zf ZK (Zf ZK (Za 0) (Za 2)) (Za 3))]) (.one 0) ZG (eP (Xh [(Za 1),(Za 2)])))) (Wa ((a:Int)+1) (W.length-(a+1))) [some (wP W),some (.lst (acc.map Ym)),some (.int (a:Int)),b0]
   = some (.nx [some (wP W),some (.lst ((acc++eA W a).map Ym)),some (.int (a:Int)),b'])/\(eA W a).length<=63:=by
 have hf:=ok.few
 obtain⟨s',h1,b',h2,h3⟩:=YB (T:=.one 3) (fb:=Xn 1 (Zw 1 [2,3] (ZO [(Zf ZK (Zf ZK (Za 0) (Za 2)) (Za 3))]) (.one 0) ZG (eP (Xh [(Za 1),(Za 2)])))) (ls:=Wa ((a:Int)+1) (W.length-(a+1))) (s:=[some (wP W),some (.lst (acc.map Ym)),some (.int (a:Int)),b0])
  (fun j st=>∃b',st=[some (wP W),some (.lst ((acc++(List.range j).flatMap fun j=>Kf W a (a+1+j)).map Ym)),some (.int (a:Int)),b']/\((List.range j).flatMap fun j=>Kf W a (a+1+j)).length<=9*j)
  ⟨b0,by simp,by simp⟩ (fun j l st hl hJ=>by
   obtain⟨hj,rfl⟩:=Td hl
   obtain⟨b',rfl,hlen⟩:=hJ
   have hb:a+1+j<W.length:=by omega
   have e1:(a:Int)+1+(j:Int)=((a+1+j:Nat):Int):=by omega
   rw[e1]
   have hc:=Ee ok ha hb (some (.lst ((acc++(List.range j).flatMap fun j=>Kf W a (a+1+j)).map Ym)))
   have hl2:=HZ ok ha hb
   have hg:(acc.length+((List.range j).flatMap fun j=>Kf W a (a+1+j)).length)+(Kf W a (a+1+j)).length<=10000:=by omega
   refine⟨_,_,rfl,?_,some (.int ((a+1+j:Nat):Int)),rfl,?_⟩
   ·refine(Rt hc rfl (by rw[List.length_map,List.length_map,List.length_append];exact hg)).trans ?_
    simp[Xb]
   ·rw[Xb,List.length_append];omega)
 rw[Ot] at h2 h3
 refine⟨b',?_,?_⟩
 ·rw[h1,h2];rfl
 ·have:eA W a=(List.range (W.length-(a+1))).flatMap fun j=>Kf W a (a+1+j):=rfl
  rw[this];omega
theorem WZ{W:List (List Int)}(ok:Z7 W):Z4 [wP W]=some (.lst ((eW W).map Ym))/\(eW W).length<=441:=by
 have hf:=ok.few
 refine⟨?_,by rw[UP];exact(Vk ok).2⟩
 have lenW:∀x y z:Option PV,Zc Zq [(Za 0)] [some (wP W),x,y,z]=some (.int (W.length:Int)):=fun x y z=>by
  show some (PV.int ((W.map pP).length:Int))=_
  rw[List.length_map]
 obtain⟨s',h1,y,z,h2,h3⟩:=YB (T:=.one 2) (fb:=Xf [1] (Xw [(Zf ZD (Za 2) (eC (.int 1))),(Zc Zq [(Za 0)])]) (.one 3) (Xn 1 (Zw 1 [2,3] (ZO [(Zf ZK (Zf ZK (Za 0) (Za 2)) (Za 3))]) (.one 0) ZG (eP (Xh [(Za 1),(Za 2)]))))) (ls:=U6 W.length) (s:=[some (wP W),some (.lst []),none,none])
  (fun i st=>∃y z,st=[some (wP W),some (.lst (((List.range i).flatMap (eA W)).map Ym)),y,z]/\((List.range i).flatMap (eA W)).length<=63*i)
  ⟨none,none,by simp,by simp⟩ (fun i l st hl hJ=>by
   obtain⟨y,z,rfl,hlen⟩:=hJ
   obtain⟨hi,rfl⟩:=Tc hl
   obtain⟨b',e1,e2⟩:=H9 ok hi ((List.range i).flatMap (eA W)) (by omega) z
   refine⟨_,_,rfl,?_,some (.int (i:Int)),b',rfl,?_⟩
   ·have hr:Xw [(Zf ZD (Za 2) (eC (.int 1))),(Zc Zq [(Za 0)])] (Yc [1] [some (wP W),some (.lst (((List.range i).flatMap (eA W)).map Ym)),some (.int (i:Int)),z])=some (Wa ((i:Int)+1) (W.length-(i+1))):=by
     show Xw [(Zf ZD (Za 2) (eC (.int 1))),(Zc Zq [(Za 0)])] [some (wP W),none,some (.int (i:Int)),z]=_
     have p1:Zf ZD (Za 2) (eC (.int 1)) [some (wP W),none,some (.int (i:Int)),z]=some (.int ((i:Int)+1)):=vI (op:=(· + ·)) (a:=(i:Int)) rfl rfl
     rw[Uc p1 (lenW _ _ _) ⟨by omega,by omega⟩ ⟨by omega,by omega⟩]
     congr 2;omega
    show Xf _ _ _ _ [some (wP W),_,some (.int (i:Int)),z]=_
    rw[Rr,hr];simp only[Option.bind_some];rw[e1,Xb]
   ·rw[Xb,List.length_append];omega)
 rw[Te] at h2 h3
 have e3:Xf [1] (ZO [(Zc Zq [(Za 0)])]) (.one 2) (Xf [1] (Xw [(Zf ZD (Za 2) (eC (.int 1))),(Zc Zq [(Za 0)])]) (.one 3) (Xn 1 (Zw 1 [2,3] (ZO [(Zf ZK (Zf ZK (Za 0) (Za 2)) (Za 3))]) (.one 0) ZG (eP (Xh [(Za 1),(Za 2)]))))) [some (wP W),some (.lst []),none,none]=some (.nx [some (wP W),some (.lst ((eW W).map Ym)),y,z]):=by
  show(ZO [(Zc Zq [(Za 0)])] (Yc [1] [some (wP W),some (.lst []),none,none])).bind _=_
  have p0:ZO [(Zc Zq [(Za 0)])] (Yc [1] [some (wP W),some (.lst []),none,none])=some (U6 W.length):=Yp (n:=W.length) (lenW none none none) (by omega)
  rw[p0,Option.bind_some,h1,h2,PR]
 show X5 4 Ts _=_
 unfold Ts
 show(Zm _ _ [some (wP W),none,none,none]).bind X1=_
 rw[Zz (s1:=[some (wP W),some (.lst []),none,none]) rfl,Zz e3]
 rfl
def Wv(n:Nat)(m:Nat->Nat):List Int:=(List.range n).map fun x=>((m x:Nat):Int)
theorem Ul(n:Nat)(m:Nat->Nat):(Wv n m).length=n:=by simp[Wv]
theorem TC{n:Nat}{m:Nat->Nat}{x:Nat}(h:x<n):YJ (Wv n m) x=(m x:Int):=X4 h
theorem Mf{F:List Nat}(h:F.length<64):Ti [.lst (iL (nL F))]=some (.lst (iL (sortI (nL F)))):=by
 show(YH (iL (nL F))).bind (fun ns=>if ns.length<64 then some (PV.lst (iL (sortI ns))) else none)=_
 rw[Y3]
 rw[Option.bind_some,if_pos (by simpa [nL] using h)]
theorem RQ{n:Nat}{E:List Yt}{m:Nat->Nat}{F L:List Nat}(h:TrOk n E m F L):F.length<=n:=by
 have e:=h.mark.eq
 have e1:Ur (List.range n) (F.map (ZM E))=((F.map (ZM E)).length:Int):=by
  have:∀T:List Yt,(∀e∈T,e.1<n/\e.2<n)->Ur (List.range n) T=(T.length:Int):=by
   intro T
   induction T with
   | nil=>intro _;rfl
   | cons e T ih=>
    intro hh
    have q:Kb (List.range n) e=true:=by
     have:=hh e (by simp)
     unfold Kb;simp[this.1,this.2]
    have:=ih fun x hx=>hh x (by simp[hx])
    unfold Ur at this ⊢
    rw[List.map_cons,List.sum_cons,this,q,List.length_cons]
    show(1:Int)+_=_
    omega
  exact this _ h.mark.inn
 have d:0<=SO n m (List.range n):=QL fun i _=>J1 _
 rw[List.length_map] at e1;omega
section
variable {W:List (List Int)} {c:Int}
abbrev Ys(W:List (List Int))(c:Int)(m:Nat->Nat)(F L:List Nat)(num:Int)(x7 x8 x9 x10 x11:Option PV):ZP:=
 [some (wP W),some (.int c),some (.lst ((eW W).map Ym)),some (.lst (iL (Wv W.length m))),some (.lst (iL (nL F))),some (.lst (iL (nL L))),some (.int num),x7,x8,x9,x10,x11]
theorem J9{m:Nat->Nat}{F L:List Nat}{num:Int}{a b i:Nat}{x7:Option PV}(ha:a<W.length)(hb:b<W.length)(hf:W.length<=7) :
  Zw 1 [11,3,10] (Y4 (Za 3)) (.one 0) ZG (eP (Nl (xB (Zf (Z8 false) (Za 0) (Za 1))) (Zf ZK (Za 2) (Za 3)) (Za 0))) (Ys W c m F L num x7 (some (.int (i:Int))) (some (.int (a:Int))) (some (.int (b:Int))) (some (.int (m a:Int))))=some (.lst (iL (Wv W.length (ZE m a b)))):=by
 rw[Yd (List.range W.length) (fun x=>.int (m x:Int)) (fun x=>.int (ZE m a b x:Int)) (by
  show some (iL (Wv W.length m))=_
  rw[Wv,Ux]) (by simp;omega) (fun x hx=>⟨[some (.int (m x:Int)),some (.int (m a:Int)),some (.lst (iL (Wv W.length m))),some (.int (b:Int))],rfl,rfl,?_⟩)]
 ·rw[Wv,Ux]
 ·have t:xB (Zf (Z8 false) (Za 0) (Za 1)) [some (.int (m x:Int)),some (.int (m a:Int)),some (.lst (iL (Wv W.length m))),some (.int (b:Int))]=some (decide (m x=m a)):=by
   show(Z8 false (.int (m x:Int)) (.int (m a:Int))).bind SG=_
   rw[Xs]
   show some (decide ((m x:Int)=(m a:Int)))=_
   congr 1
   exact decide_eq_decide.mpr (by omega)
  refine vP ?_
  rw[SH,t,Option.bind_some];unfold ZE
  by_cases q:m x=m a
  ·rw[decide_eq_true q,if_pos rfl,if_pos q]
   have:=QM (Ul W.length m) b hb
   rw[TC hb] at this;exact this
  ·rw[decide_eq_false q,if_neg (by decide),if_neg q];rfl
theorem Ef(L:List Nat)(p:Nat):(iL (nL L)).take p++(iL (nL L)).drop (p+1)=iL (nL (L.eraseIdx p)):=by
 rw[List.eraseIdx_eq_take_drop_succ];unfold nL iL;rw[List.map_append,List.map_append,<-List.map_take,<-List.map_take,<-List.map_drop,<-List.map_drop]
theorem Kg(ok:Z7 W)(c:Int):∃(m:Nat->Nat) (F:List Nat),WS [wP W,.int c]=some (pP (sortI (nL F)))/\TrOk W.length (eW W) m F []:=by
 have hf:=ok.few
 obtain⟨et,le⟩:=WZ ok
 have hE:∀e∈eW W,e.1<W.length/\e.2<W.length:=fun e he=>by
  have:=O5 e he
  exact⟨by omega,by omega⟩
 let fi:XS:=(Zm (Zn 11 (eP (Zf ZK (Za 3) (Za 9))))
  (Zm (Zn 3 (Zw 1 [11,3,10] (Y4 (Za 3)) (.one 0) ZG (eP (Nl (xB (Zf (Z8 false) (Za 0) (Za 1))) (Zf ZK (Za 2) (Za 3)) (Za 0)))))
  (Xm 4 (eP (Za 8)))))
 let fb:XS:=(Zm (Zn 8 (Zc Zj [(Zf ZD (Za 1) (Zf Xo (Zf Xo (eC (.int 53)) (Za 7)) (Za 7))),(Zf ZD (eC (.int 47)) (Za 7)),(Zc Zq [(Za 5)])]))
  (Zm (Xc (xB (Zf (Z8 false) (Zf ZX (Za 1) (eC (.int 2))) (eC (.int 1)))) (Zm (Zn 8 (eP (Zf ZX (Za 6) (Zc Zq [(Za 5)]))))
  (Zn 6 (eP (Zf Xp (Za 6) (Zc Zq [(Za 5)]))))) ZH)
  (Zm (Jr 8 5 (Za 8))
  (Zm (U9 (.many [9,10]) (Zf ZK (Za 2) (Za 8)))
  (Xc (xB (Zf (Z8 true) (Zf ZK (Za 3) (Za 9)) (Zf ZK (Za 3) (Za 10)))) fi ZH)))))
 obtain⟨s',f1,m,F,L,num,x7,x8,x9,x10,x11,hs,tr,lL⟩:=YB (T:=.one 7) (fb:=fb) (ls:=U6 (eW W).length) (s:=Ys W c (fun x=>x) [] (List.range (eW W).length) (c/2) none none none none none)
  (fun i s=>∃m F L num x7 x8 x9 x10 x11,s=Ys W c m F L num x7 x8 x9 x10 x11/\TrOk W.length (eW W) m F L/\L.length+i=(eW W).length) ⟨_,_,_,_,_,_,_,_,_,rfl,TrOk.start _ _,by simp⟩ (by
  rintro i l s hl ⟨m,F,L,num,x7,x8,x9,x10,x11,rfl,tr,lL⟩
  obtain⟨hi,rfl⟩:=Tc hl
  have sh:=RQ tr
  have K7:Option PV:=some (.int (i:Int))
  have lenL:∀num x8,Zc Zq [(Za 5)] (Ys W c m F L num (some (.int (i:Int))) x8 x9 x10 x11)=some (.int (L.length:Int)):=fun num x8=>by
   show some (PV.int ((iL (nL L)).length:Int))=_
   simp[nL]
  obtain⟨v,hv,ev⟩:=Z6 (c+53*(i:Int)*(i:Int)) (t:=47+i) (m:=L.length) (by omega) (by omega)
  have q1:Zn 8 (Zc Zj [(Zf ZD (Za 1) (Zf Xo (Zf Xo (eC (.int 53)) (Za 7)) (Za 7))),(Zf ZD (eC (.int 47)) (Za 7)),(Zc Zq [(Za 5)])]) (Ys W c m F L num (some (.int (i:Int))) x8 x9 x10 x11)=some (.nx (Ys W c m F L num (some (.int (i:Int))) (some (.int (v:Int))) x9 x10 x11)):=by
   have a1:Zf Xo (eC (.int 53)) (Za 7) (Ys W c m F L num (some (.int (i:Int))) x8 x9 x10 x11)=some (.int (53*(i:Int))):=vC (C:=CMul) (op:=(· * ·)) (a:=53) rfl rfl (Jp (by omega) (by omega))
   have a2:Zf Xo (Zf Xo (eC (.int 53)) (Za 7)) (Za 7) (Ys W c m F L num (some (.int (i:Int))) x8 x9 x10 x11)=some (.int (53*(i:Int)*(i:Int))):=vC (C:=CMul) (op:=(· * ·)) a1 rfl (.inl (by omega))
   have a3:Zf ZD (Za 1) (Zf Xo (Zf Xo (eC (.int 53)) (Za 7)) (Za 7)) (Ys W c m F L num (some (.int (i:Int))) x8 x9 x10 x11)=some (.int (c+53*(i:Int)*(i:Int))):=vI (op:=(· + ·)) rfl a2
   have a4:Zf ZD (eC (.int 47)) (Za 7) (Ys W c m F L num (some (.int (i:Int))) x8 x9 x10 x11)=some (.int ((47+i:Nat):Int)):=by
    have:=vI (op:=(· + ·)) (f:=eC (.int 47)) (g:=Za 7) (s:=Ys W c m F L num (some (.int (i:Int))) x8 x9 x10 x11) (a:=47) (b:=(i:Int)) rfl rfl
    rw[show((47+i:Nat):Int)=47+(i:Int) by omega];exact this
   have:Zc Zj [(Zf ZD (Za 1) (Zf Xo (Zf Xo (eC (.int 53)) (Za 7)) (Za 7))),(Zf ZD (eC (.int 47)) (Za 7)),(Zc Zq [(Za 5)])] (Ys W c m F L num (some (.int (i:Int))) x8 x9 x10 x11)=some (.int (v:Int)):=by
    rw[Zu,Zk,a3,Zk,a4,Zk,lenL];exact ev
   rw[Zl,this];rfl
  obtain⟨p,num',hp,q2⟩:∃(p:Nat) (num':Int),p<L.length/\Xc (xB (Zf (Z8 false) (Zf ZX (Za 1) (eC (.int 2))) (eC (.int 1)))) (Zm (Zn 8 (eP (Zf ZX (Za 6) (Zc Zq [(Za 5)])))) (Zn 6 (eP (Zf Xp (Za 6) (Zc Zq [(Za 5)]))))) ZH (Ys W c m F L num (some (.int (i:Int))) (some (.int (v:Int))) x9 x10 x11)=some (.nx (Ys W c m F L num' (some (.int (i:Int))) (some (.int (p:Int))) x9 x10 x11)):=by
   have mo:Zf ZX (Za 1) (eC (.int 2)) (Ys W c m F L num (some (.int (i:Int))) (some (.int (v:Int))) x9 x10 x11)=some (.int (c%2)):=vC (C:=fun _ j=>0<j) (op:=(· % ·)) rfl rfl (by decide)
   have t:xB (Zf (Z8 false) (Zf ZX (Za 1) (eC (.int 2))) (eC (.int 1))) (Ys W c m F L num (some (.int (i:Int))) (some (.int (v:Int))) x9 x10 x11)=some (decide (c%2=1)):=by
    rw[Z3,ZI,mo]
    show(Z8 false (.int (c%2)) (.int 1)).bind SG=_
    rw[Xs];rfl
   by_cases q:c%2=1
   ·obtain⟨r,hr,er⟩:=XJ num (m:=L.length) (by omega)
    refine⟨r,num/(L.length:Int),hr,?_⟩
    have r1:Zn 8 (eP (Zf ZX (Za 6) (Zc Zq [(Za 5)]))) (Ys W c m F L num (some (.int (i:Int))) (some (.int (v:Int))) x9 x10 x11)=some (.nx (Ys W c m F L num (some (.int (i:Int))) (some (.int (r:Int))) x9 x10 x11)):=by
     rw[Zl,vP (a:=(r:Int)) (by rw[<-er];exact vC (C:=fun _ j=>0<j) (op:=(· % ·)) (a:=num) rfl (lenL num _) (by omega))];rfl
    have r2:Zn 6 (eP (Zf Xp (Za 6) (Zc Zq [(Za 5)]))) (Ys W c m F L num (some (.int (i:Int))) (some (.int (r:Int))) x9 x10 x11)=some (.nx (Ys W c m F L (num/(L.length:Int)) (some (.int (i:Int))) (some (.int (r:Int))) x9 x10 x11)):=by
     rw[Zl,vP (a:=num/(L.length:Int)) (vC (C:=Vw) (op:=(· / ·)) (a:=num) rfl (lenL num _) (NL (by omega) (by omega)))];rfl
    rw[ZC,t,decide_eq_true q,Option.bind_some,if_pos rfl,Zz r1,r2]
   ·refine⟨v,num,hv,?_⟩
    rw[ZC,t,decide_eq_false q];rfl
  have li:L[p]<(eW W).length:=tr.inn _ (List.mem_append_right _ (List.getElem_mem hp))
  have q3:Jr 8 5 (Za 8) (Ys W c m F L num' (some (.int (i:Int))) (some (.int (p:Int))) x9 x10 x11)=some (.nx (Ys W c m F (L.eraseIdx p) num' (some (.int (i:Int))) (some (.int ((L[p]:Nat):Int))) x9 x10 x11)):=by
   have g:(iL (nL L))[p]?=some (.int ((L[p]:Nat):Int)):=by
    rw[Rq (by simpa [nL] using hp)]
    simp[nL,YJ,hp]
   have d:gd (ZJ (iL (nL L))&&decide (0<=(p:Int)/\(p:Int)<10000/\(iL (nL L)).length<=10000))=some ():=Ud (by
    rw[Bool.and_eq_true]
    exact⟨Yv _,decide_eq_true ⟨by omega,by omega,by simp[nL];omega⟩⟩)
   unfold Jr
   show(gd (ZJ (iL (nL L))&&decide (0<=(p:Int)/\(p:Int)<10000/\(iL (nL L)).length<=10000))).bind (fun _=>((iL (nL L))[((p:Nat):Int).toNat]?).bind fun l=>some (Out.nx _))=_
   rw[d,Option.bind_some,Int.toNat_natCast,g,Option.bind_some,Ef];rfl
  let e:=ZM (eW W) L[p]
  have eE:e∈eW W:=by
   show ZM (eW W) L[p]∈eW W
   unfold ZM;rw[List.getD_eq_getElem?_getD,List.getElem?_eq_getElem li]
   exact List.getElem_mem li
  have h1:e.1<W.length:=(hE e eE).1
  have h2:e.2<W.length:=(hE e eE).2
  have q4:U9 (.many [9,10]) (Zf ZK (Za 2) (Za 8)) (Ys W c m F (L.eraseIdx p) num' (some (.int (i:Int))) (some (.int ((L[p]:Nat):Int))) x9 x10 x11)=some (.nx (Ys W c m F (L.eraseIdx p) num' (some (.int (i:Int))) (some (.int ((L[p]:Nat):Int))) (some (.int (e.1:Int))) (some (.int (e.2:Int))) x11)):=by
   have g:Zf ZK (Za 2) (Za 8) (Ys W c m F (L.eraseIdx p) num' (some (.int (i:Int))) (some (.int ((L[p]:Nat):Int))) x9 x10 x11)=some (Ym e):=by
    refine Wr (l:=(eW W).map Ym) (k:=L[p]) ?_
    rw[List.getElem?_map,List.getElem?_eq_getElem li]
    show some (Ym (eW W)[L[p]])=some (Ym (ZM (eW W) L[p]))
    unfold ZM
    rw[List.getD_eq_getElem?_getD,List.getElem?_eq_getElem li];rfl
   unfold U9
   rw[g];rfl
  have m1:∀(z:Nat),z<W.length->ZK (.lst (iL (Wv W.length m))) (.int (z:Int))=some (.int (m z:Int)):=fun z hz=>by
   rw[QM (Ul W.length m) z hz,TC hz]
  have t5:xB (Zf (Z8 true) (Zf ZK (Za 3) (Za 9)) (Zf ZK (Za 3) (Za 10))) (Ys W c m F (L.eraseIdx p) num' (some (.int (i:Int))) (some (.int ((L[p]:Nat):Int))) (some (.int (e.1:Int))) (some (.int (e.2:Int))) x11)=some (!decide (m e.1=m e.2)):=by
   have g1:Zf ZK (Za 3) (Za 9) (Ys W c m F (L.eraseIdx p) num' (some (.int (i:Int))) (some (.int ((L[p]:Nat):Int))) (some (.int (e.1:Int))) (some (.int (e.2:Int))) x11)=some (.int (m e.1:Int)):=m1 e.1 h1
   have g2:Zf ZK (Za 3) (Za 10) (Ys W c m F (L.eraseIdx p) num' (some (.int (i:Int))) (some (.int ((L[p]:Nat):Int))) (some (.int (e.1:Int))) (some (.int (e.2:Int))) x11)=some (.int (m e.2:Int)):=m1 e.2 h2
   rw[Z3,ZI,g1,g2]
   show(Z8 true (.int (m e.1:Int)) (.int (m e.2:Int))).bind SG=_
   rw[Xs]
   show some (!decide ((m e.1:Int)=(m e.2:Int)))=_
   rw[decide_eq_decide.mpr (Int.ofNat_inj (m:=m e.1) (n:=m e.2))]
  obtain⟨st1,st2⟩:=tr.step hE hp
  have lL':(L.eraseIdx p).length+(i+1)=(eW W).length:=by rw[List.length_eraseIdx_of_lt hp];omega
  by_cases q:m e.1=m e.2
  ·have q5:Xc (xB (Zf (Z8 true) (Zf ZK (Za 3) (Za 9)) (Zf ZK (Za 3) (Za 10)))) fi ZH (Ys W c m F (L.eraseIdx p) num' (some (.int (i:Int))) (some (.int ((L[p]:Nat):Int))) (some (.int (e.1:Int))) (some (.int (e.2:Int))) x11)=some (.nx (Ys W c m F (L.eraseIdx p) num' (some (.int (i:Int))) (some (.int ((L[p]:Nat):Int))) (some (.int (e.1:Int))) (some (.int (e.2:Int))) x11)):=by
    rw[ZC,t5,decide_eq_true q];rfl
   exact⟨Ys W c m F L num (some (.int (i:Int))) x8 x9 x10 x11,_,rfl,(by show Zm _ _ _=_;rw[Zz q1,Zz q2,Zz q3,Zz q4,q5]),_,_,_,_,_,_,_,_,_,rfl,st2 q,lL'⟩
  ·have r1:Zn 11 (eP (Zf ZK (Za 3) (Za 9))) (Ys W c m F (L.eraseIdx p) num' (some (.int (i:Int))) (some (.int ((L[p]:Nat):Int))) (some (.int (e.1:Int))) (some (.int (e.2:Int))) x11)=some (.nx (Ys W c m F (L.eraseIdx p) num' (some (.int (i:Int))) (some (.int ((L[p]:Nat):Int))) (some (.int (e.1:Int))) (some (.int (e.2:Int))) (some (.int (m e.1:Int))))):=by
    have g1:Zf ZK (Za 3) (Za 9) (Ys W c m F (L.eraseIdx p) num' (some (.int (i:Int))) (some (.int ((L[p]:Nat):Int))) (some (.int (e.1:Int))) (some (.int (e.2:Int))) x11)=some (.int (m e.1:Int)):=m1 e.1 h1
    rw[Zl,vP g1];rfl
   have r2:Zn 3 (Zw 1 [11,3,10] (Y4 (Za 3)) (.one 0) ZG (eP (Nl (xB (Zf (Z8 false) (Za 0) (Za 1))) (Zf ZK (Za 2) (Za 3)) (Za 0)))) (Ys W c m F (L.eraseIdx p) num' (some (.int (i:Int))) (some (.int ((L[p]:Nat):Int))) (some (.int (e.1:Int))) (some (.int (e.2:Int))) (some (.int (m e.1:Int))))=some (.nx (Ys W c (ZE m e.1 e.2) F (L.eraseIdx p) num' (some (.int (i:Int))) (some (.int ((L[p]:Nat):Int))) (some (.int (e.1:Int))) (some (.int (e.2:Int))) (some (.int (m e.1:Int))))):=by
    rw[Zl,J9 h1 h2 hf];rfl
   have r3:Xm 4 (eP (Za 8)) (Ys W c (ZE m e.1 e.2) F (L.eraseIdx p) num' (some (.int (i:Int))) (some (.int ((L[p]:Nat):Int))) (some (.int (e.1:Int))) (some (.int (e.2:Int))) (some (.int (m e.1:Int))))=some (.nx (Ys W c (ZE m e.1 e.2) (F++[L[p]]) (L.eraseIdx p) num' (some (.int (i:Int))) (some (.int ((L[p]:Nat):Int))) (some (.int (e.1:Int))) (some (.int (e.2:Int))) (some (.int (m e.1:Int))))):=by
    rw[UJ (l:=.int ((L[p]:Nat):Int)) (m:=iL (nL F)) (vP rfl) rfl (by simp[nL];omega)]
    have:iL (nL F)++[.int ((L[p]:Nat):Int)]=iL (nL (F++[L[p]])):=by simp[nL]
    rw[this];rfl
   have q5:Xc (xB (Zf (Z8 true) (Zf ZK (Za 3) (Za 9)) (Zf ZK (Za 3) (Za 10)))) fi ZH (Ys W c m F (L.eraseIdx p) num' (some (.int (i:Int))) (some (.int ((L[p]:Nat):Int))) (some (.int (e.1:Int))) (some (.int (e.2:Int))) x11)=some (.nx (Ys W c (ZE m e.1 e.2) (F++[L[p]]) (L.eraseIdx p) num' (some (.int (i:Int))) (some (.int ((L[p]:Nat):Int))) (some (.int (e.1:Int))) (some (.int (e.2:Int))) (some (.int (m e.1:Int))))):=by
    rw[ZC,t5,decide_eq_false q]
    show Zm _ _ _=_
    rw[Zz r1,Zz r2,r3]
   exact⟨Ys W c m F L num (some (.int (i:Int))) x8 x9 x10 x11,_,rfl,(by show Zm _ _ _=_;rw[Zz q1,Zz q2,Zz q3,Zz q4,q5]),_,_,_,_,_,_,_,_,_,rfl,st1 q,lL'⟩)
 subst hs;rw[Te] at lL
 have hL:L=[]:=List.length_eq_zero_iff.mp (by omega)
 subst hL
 refine⟨m,F,?_,tr⟩
 have lenE:∀s:ZP,s[2]?=some (some (.lst ((eW W).map Ym)))->Zc Zq [(Za 2)] s=some (.int ((eW W).length:Int)):=fun s h=>by
  have a:Za 2 s=some (.lst ((eW W).map Ym)):=by
   show s[2]?.bind id=_
   rw[h];rfl
  rw[Zu,Zk,a]
  show some (PV.int (((eW W).map Ym).length:Int))=_
  rw[List.length_map]
 have lenW:∀x2 x3 x4 x5 x6:Option PV,Zc Zq [(Za 0)] [some (wP W),some (.int c),x2,x3,x4,x5,x6,none,none,none,none,none]=some (.int (W.length:Int)):=fun x2 x3 x4 x5 x6=>by
  show some (PV.int ((W.map pP).length:Int))=_
  rw[List.length_map]
 have lr:∀(k:Nat),k<=10000->YR (.int (k:Int))=some (.lst (iL (nL (List.range k)))):=fun k hk=>by
  show(if 0<=(k:Int)/\(k:Int)<=10000 then some (PV.lst (iL ((List.range (k:Int).toNat).map fun(i:Nat)=>(i:Int)))) else none)=_
  rw[if_pos ⟨by omega,by omega⟩,Int.toNat_natCast];rfl
 have e1:Zn 2 (Zc Z4 [(Za 0)]) [some (wP W),some (.int c),none,none,none,none,none,none,none,none,none,none]=some (.nx [some (wP W),some (.int c),some (.lst ((eW W).map Ym)),none,none,none,none,none,none,none,none,none]):=by
  have:Zc Z4 [(Za 0)] [some (wP W),some (.int c),none,none,none,none,none,none,none,none,none,none]=some (.lst ((eW W).map Ym)):=et
  rw[Zl,this];rfl
 have e2:Zn 3 (Uo YR (Zc Zq [(Za 0)])) [some (wP W),some (.int c),some (.lst ((eW W).map Ym)),none,none,none,none,none,none,none,none,none]=some (.nx [some (wP W),some (.int c),some (.lst ((eW W).map Ym)),some (.lst (iL (nL (List.range W.length)))),none,none,none,none,none,none,none,none]):=by
  have:Uo YR (Zc Zq [(Za 0)]) [some (wP W),some (.int c),some (.lst ((eW W).map Ym)),none,none,none,none,none,none,none,none,none]=some (.lst (iL (nL (List.range W.length)))):=by
   show(Zc Zq [(Za 0)] _).bind YR=_
   rw[lenW];exact lr W.length (by omega)
  rw[Zl,this];rfl
 have e4:Zn 5 (Uo YR (Zc Zq [(Za 2)])) [some (wP W),some (.int c),some (.lst ((eW W).map Ym)),some (.lst (iL (nL (List.range W.length)))),some (.lst []),none,none,none,none,none,none,none]=some (.nx [some (wP W),some (.int c),some (.lst ((eW W).map Ym)),some (.lst (iL (nL (List.range W.length)))),some (.lst []),some (.lst (iL (nL (List.range (eW W).length)))),none,none,none,none,none,none]):=by
  have:Uo YR (Zc Zq [(Za 2)]) [some (wP W),some (.int c),some (.lst ((eW W).map Ym)),some (.lst (iL (nL (List.range W.length)))),some (.lst []),none,none,none,none,none,none,none]=some (.lst (iL (nL (List.range (eW W).length)))):=by
   show(Zc Zq [(Za 2)] _).bind YR=_
   rw[lenE _ rfl];exact lr _ (by omega)
  rw[Zl,this];rfl
 have e5:Zn 6 (eP (Zf Xp (Za 1) (eC (.int 2)))) [some (wP W),some (.int c),some (.lst ((eW W).map Ym)),some (.lst (iL (nL (List.range W.length)))),some (.lst []),some (.lst (iL (nL (List.range (eW W).length)))),none,none,none,none,none,none]=some (.nx (Ys W c (fun x=>x) [] (List.range (eW W).length) (c/2) none none none none none)):=by
  rw[Zl,vP (a:=c/2) (vC (C:=Vw) (op:=(· / ·)) (a:=c) rfl rfl (NL (by decide) (by decide)))];rfl
 have e6:Xf [4,5] (ZO [(Zc Zq [(Za 2)])]) (.one 7) fb (Ys W c (fun x=>x) [] (List.range (eW W).length) (c/2) none none none none none)=some (.nx (Ys W c m F [] num x7 x8 x9 x10 x11)):=by
  show(ZO [(Zc Zq [(Za 2)])] (Yc [4,5] (Ys W c (fun x=>x) [] (List.range (eW W).length) (c/2) none none none none none))).bind _=_
  rw[Yp (n:=(eW W).length) (lenE _ rfl) (by omega)];exact f1
 have sh:=RQ tr
 show X5 12 Tt _=_
 unfold Tt
 show(Zm _ _ [some (wP W),some (.int c),none,none,none,none,none,none,none,none,none,none]).bind X1=_
 rw[Zz e1,Zz e2,Zz (s1:=[some (wP W),some (.int c),some (.lst ((eW W).map Ym)),some (.lst (iL (nL (List.range W.length)))),some (.lst []),none,none,none,none,none,none,none]) rfl,Zz e4,Zz e5,Zz e6]
 rw[Vs (v:=pP (sortI (nL F))) (by
  have g:Zc Ti [(Za 4)] (Ys W c m F [] num x7 x8 x9 x10 x11)=some (.lst (iL (sortI (nL F)))):=Mf (by omega)
  rw[Xg,Zu,Zk,g]
  exact HX (s:=Ys W c m F [] num x7 x8 x9 x10 x11))]
 rfl
end
theorem M5(neg:Bool)(a:Int)(l:List Int):U5 neg (.int a) (pP l)=some (.bl (if neg then !decide (a∈l) else decide (a∈l))):=by
 unfold U5
 have c:((iL l).all fun z=>X6 8 z (.int a))=true:=by
  rw[List.all_map,List.all_eq_true]
  intro x _;rfl
 show(some (iL l)).bind _=_
 simp only[Option.bind_some,if_pos c]
 have:decide (PV.int a∈iL l)=decide (a∈l):=decide_eq_decide.mpr (by
  rw[List.mem_map];constructor
  ·rintro⟨x,hx,e⟩;cases e;exact hx
  ·intro h;exact⟨a,h,rfl⟩)
 rw[this]
def Wb(W:List (List Int))(F:List Nat):List Yt:=(Yu (eW W) F).map (ZM (eW W))
theorem O6{W:List (List Int)}{F:List Nat}:(Wb W F).length<=(eW W).length:=by
 unfold Wb Yu;rw[List.length_map]
 exact Nat.le_trans (List.length_filter_le _ _) (by simp)
theorem Ga{W:List (List Int)}{F:List Nat}:∀e∈Wb W F,e.1<W.length/\e.2<W.length:=fun e he=>by
 unfold Wb at he
 obtain⟨i,hi,rfl⟩:=List.mem_map.mp he
 have li:i<(eW W).length:=List.mem_range.mp (List.mem_filter.mp hi).1
 have:ZM (eW W) i∈eW W:=by
  unfold ZM;rw[List.getD_eq_getElem?_getD,List.getElem?_eq_getElem li]
  exact List.getElem_mem li
 have:=O5 _ this
 exact⟨by omega,by omega⟩
theorem TF{W:List (List Int)}(ok:Z7 W){F:List Nat}{T:List Int}(hT:∀k:Nat,(k:Int)∈T↔k∈F):ZW [wP W,pP T]=some (.lst ((Wb W F).map Ym)):=by
 obtain⟨et,le⟩:=WZ ok
 have e1:Zn 2 (Zc Z4 [(Za 0)]) [some (wP W),some (pP T),none]=some (.nx [some (wP W),some (pP T),some (.lst ((eW W).map Ym))]):=by
  have:Zc Z4 [(Za 0)] [some (wP W),some (pP T),none]=some (.lst ((eW W).map Ym)):=et
  rw[Zl,this];rfl
 have ln:Zc Zq [(Za 2)] [some (wP W),some (pP T),some (.lst ((eW W).map Ym))]=some (.int ((eW W).length:Int)):=by
  show some (PV.int (((eW W).map Ym).length:Int))=_
  rw[List.length_map]
 have hc:Zw 1 [2,1] (ZO [(Zc Zq [(Za 2)])]) (.one 0) (xB (Zf (U5 true) (Za 0) (Za 2))) (eP (Zf ZK (Za 1) (Za 0))) [some (wP W),some (pP T),some (.lst ((eW W).map Ym))]=some (.lst ((Wb W F).map Ym)):=by
  rw[Vd (List.range (eW W).length) (fun(i:Nat)=>.int (i:Int)) (fun i=>Ym (ZM (eW W) i)) (fun k=>decide (k∉F)) (Yp ln (by omega)) (by simp;omega) (fun i hi=>⟨[some (.int (i:Int)),some (.lst ((eW W).map Ym)),some (pP T)],rfl,?_,fun _=>?_⟩)]
  ·unfold Wb Yu
   rw[List.map_map];rfl
  ·have gi:Zf (U5 true) (Za 0) (Za 2) [some (.int (i:Int)),some (.lst ((eW W).map Ym)),some (pP T)]=some (.bl (!decide ((i:Int)∈T))):=M5 true i T
   rw[Z3,gi]
   show some (!decide ((i:Int)∈T))=_
   congr 1
   by_cases q:i∈F
   ·rw[decide_eq_true ((hT i).mpr q),decide_eq_false (fun z:i∉F=>z q)];rfl
   ·rw[decide_eq_false (fun z=>q ((hT i).mp z)),decide_eq_true q];rfl
  ·have li:i<(eW W).length:=List.mem_range.mp hi
   have:Zf ZK (Za 1) (Za 0) [some (.int (i:Int)),some (.lst ((eW W).map Ym)),some (pP T)]=some (Ym (ZM (eW W) i)):=by
    refine Wr (l:=(eW W).map Ym) (k:=i) ?_
    rw[List.getElem?_map,List.getElem?_eq_getElem li];unfold ZM
    rw[List.getD_eq_getElem?_getD,List.getElem?_eq_getElem li];rfl
   rw[Xg,this];rfl
 show X5 3 WB _=_
 unfold WB
 show(Zm _ _ [some (wP W),some (pP T),none]).bind X1=_
 rw[Zz e1,Vs hc];rfl
theorem V0(β:Nat->Bool):∀(S:List Yt)(k:Nat),(List.range S.length).map (fun i=>RL β (k+i) (S.getD i (0,0)))=X8 β k S
 | [],k=>rfl
 | e::S,k=>by
  rw[List.length_cons,List.range_succ_eq_map,List.map_cons,List.map_map,X8,<-V0 β S (k+1)]
  congr 1
  refine List.map_congr_left fun i _=>?_
  show RL β (k+(i+1)) ((e::S).getD (i+1) (0,0))=_
  rw[show k+(i+1)=k+1+i by omega]
  simp
theorem Mg(x:Int):PySem.Builtin.bitAnd x 1=0\/PySem.Builtin.bitAnd x 1=1:=by
 unfold PySem.Builtin.bitAnd
 have h1:decide ((0:Int)<=1)=true:=by decide
 rw[h1]
 cases decide (0<=x) with
 | true=>
  show((x.toNat&&& (1:Int).toNat:Nat):Int)=0\/((x.toNat&&& (1:Int).toNat:Nat):Int)=1
  have:x.toNat&&& (1:Int).toNat=x.toNat%2:=Nat.and_one_is_mod _
  rw[this];omega
 | false=>
  show(1:Int)-(((1:Int).toNat&&& (PySem.Builtin.bitNot x).toNat:Nat):Int)=0\/(1:Int)-(((1:Int).toNat&&& (PySem.Builtin.bitNot x).toNat:Nat):Int)=1
  have:(1:Int).toNat&&& (PySem.Builtin.bitNot x).toNat=(PySem.Builtin.bitNot x).toNat%2:=by
   rw[Nat.and_comm];exact Nat.and_one_is_mod _
  rw[this];omega
theorem Eg(e:Yt)(b:Bool):ZK (Ym e) (.int (if b=true then 1 else 0))=some (.int ((if b=true then e.2 else e.1:Nat):Int)):=by
 cases b<;>rfl
theorem Kh{W:List (List Int)}(ok:Z7 W){F:List Nat}{T:List Int}(hT:∀k:Nat,(k:Int)∈T↔k∈F)(c:Int):∃β,WU [wP W,pP T,.int c]=some (pP (nL (X8 β 0 (Wb W F)))):=by
 have le:=(WZ ok).2
 have lo:=O6 (W:=W) (F:=F)
 generalize hS:Wb W F=S at lo
 have e1:Zn 3 (Zc ZW [(Za 0),(Za 1)]) [some (wP W),some (pP T),some (.int c),none,none]=some (.nx [some (wP W),some (pP T),some (.int c),some (.lst (S.map Ym)),none]):=by
  have:Zc ZW [(Za 0),(Za 1)] [some (wP W),some (pP T),some (.int c),none,none]=some (.lst (S.map Ym)):=by rw[<-hS];exact TF ok hT
  rw[Zl,this];rfl
 have ln:∀x4,Zc Zq [(Za 3)] [some (wP W),some (pP T),some (.int c),some (.lst (S.map Ym)),x4]=some (.int (S.length:Int)):=fun x4=>by
  show some (PV.int ((S.map Ym).length:Int))=_
  rw[List.length_map]
 have mo:Zf ZX (Za 2) (eC (.int 2)) [some (wP W),some (pP T),some (.int c),some (.lst (S.map Ym)),none]=some (.int (c%2)):=vC (C:=fun _ j=>0<j) (op:=(· % ·)) rfl rfl (by decide)
 have t:xB (Zf (Z8 false) (Zf ZX (Za 2) (eC (.int 2))) (eC (.int 1))) [some (wP W),some (pP T),some (.int c),some (.lst (S.map Ym)),none]=some (decide (c%2=1)):=by
  rw[Z3,ZI,mo]
  show(Z8 false (.int (c%2)) (.int 1)).bind SG=_
  rw[Xs];rfl
 have tie:∀(x:Option PV)(k:Nat),k<S.length->Zf ZK (Za 1) (Za 0) [some (.int (k:Int)),some (.lst (S.map Ym)),x]=some (Ym (S.getD k (0,0))):=fun x k hk=>by
  refine Wr (l:=S.map Ym) (k:=k) ?_
  rw[List.getElem?_map,List.getElem?_eq_getElem hk,List.getD_eq_getElem?_getD,List.getElem?_eq_getElem hk];rfl
 -- what the two ways have in common
 have both:∀(ix:Nat)(x4 x:Option PV)(fe:XE)(hx:Yl 1 [3,ix] [some (wP W),some (pP T),some (.int c),some (.lst (S.map Ym)),x4]=[none,some (.lst (S.map Ym)),x])(β:Nat->Bool),(∀k,k<S.length->fe [some (.int (k:Int)),some (.lst (S.map Ym)),x]=some (.int (if β k=true then 1 else 0)))->
   eP (Zc Z2 [(Zw 1 [3,ix] (ZO [(Zc Zq [(Za 3)])]) (.one 0) ZG (Zf ZK (Zf ZK (Za 1) (Za 0)) fe))]) [some (wP W),some (pP T),some (.int c),some (.lst (S.map Ym)),x4]=some (pP (nL (X8 β 0 S))):=fun ix x4 x fe hx β hβ=>by
  have hc:Zw 1 [3,ix] (ZO [(Zc Zq [(Za 3)])]) (.one 0) ZG (Zf ZK (Zf ZK (Za 1) (Za 0)) fe) [some (wP W),some (pP T),some (.int c),some (.lst (S.map Ym)),x4]=some (.lst (iL (nL (X8 β 0 S)))):=by
   rw[Yd (List.range S.length) (fun(i:Nat)=>.int (i:Int)) (fun k=>.int ((RL β k (S.getD k (0,0)):Nat):Int)) (Yp (ln x4) (by omega)) (by simp;omega) (fun k hk=>⟨[some (.int (k:Int)),some (.lst (S.map Ym)),x],by rw[hx];rfl,rfl,?_⟩)]
   ·rw[<-V0 β S 0]
    unfold nL;rw[Ux,List.map_map];simp only[Function.comp_def,Nat.zero_add]
   ·have hk:=List.mem_range.mp hk
    rw[ZI,tie x k hk,hβ k hk]
    exact Eg _ _
  rw[Xg,Zu,Zk,hc]
  exact HX (s:=[])
 by_cases q:c%2=1
 ·let y:=c/2/479001600
  have bits:∀k:Nat,∃b:Bool,Zf Hd (Zf KY (Za 2) (Za 0)) (eC (.int 1)) [some (.int (k:Int)),some (.lst (S.map Ym)),some (.int y)]=some (.int (if b=true then 1 else 0)):=fun k=>by
   have a:Zf KY (Za 2) (Za 0) [some (.int (k:Int)),some (.lst (S.map Ym)),some (.int y)]=some (.int (y/2^(k:Int).toNat)):=vC (C:=fun _ j=>0<=j) (op:=fun i j=>i/2^j.toNat) (a:=y) (b:=(k:Int)) rfl rfl (by omega)
   have b:Zf Hd (Zf KY (Za 2) (Za 0)) (eC (.int 1)) [some (.int (k:Int)),some (.lst (S.map Ym)),some (.int y)]=some (.int (PySem.Builtin.bitAnd (y/2^(k:Int).toNat) 1)):=vI (op:=PySem.Builtin.bitAnd) a rfl
   rcases Mg (y/2^(k:Int).toNat) with z | z
   ·exact⟨false,by rw[b,z];rfl⟩
   ·exact⟨true,by rw[b,z];rfl⟩
  obtain⟨β,hβ⟩:=Classical.axiomOfChoice bits
  refine⟨β,?_⟩
  have e2:Zn 4 (eP (Zf Xp (Zf Xp (Za 2) (eC (.int 2))) (eC (.int 479001600)))) [some (wP W),some (pP T),some (.int c),some (.lst (S.map Ym)),none]=some (.nx [some (wP W),some (pP T),some (.int c),some (.lst (S.map Ym)),some (.int y)]):=by
   have a:Zf Xp (Za 2) (eC (.int 2)) [some (wP W),some (pP T),some (.int c),some (.lst (S.map Ym)),none]=some (.int (c/2)):=vC (C:=Vw) (op:=(· / ·)) (a:=c) rfl rfl (NL (by decide) (by decide))
   rw[Zl,vP (a:=y) (vC (C:=Vw) (op:=(· / ·)) a rfl ⟨by decide,by decide⟩)];rfl
  show X5 5 WT _=_
  unfold WT
  show(Zm _ _ [some (wP W),some (pP T),some (.int c),none,none]).bind X1=_
  rw[Zz e1,Sy (v:=pP (nL (X8 β 0 S)))]
  ·rfl
  ·rw[ZC,t,decide_eq_true q,Option.bind_some,if_pos rfl,Zz e2]
   exact Vs (both 4 (some (.int y)) (some (.int y)) _ rfl β fun k _=>hβ k)
 ·have bits:∀k:Nat,∃b:Bool,k<S.length->Zc Zj [(Zf ZD (Za 2) (Zf Xo (Zf Xo (eC (.int 59)) (Za 0)) (Za 0))),(Zf ZD (eC (.int 61)) (Za 0)),(eC (.int 2))] [some (.int (k:Int)),some (.lst (S.map Ym)),some (.int c)]=some (.int (if b=true then 1 else 0)):=fun k=>by
   by_cases hk:k<S.length
   ·have hk':k<=441:=by omega
    obtain⟨v,hv,ev⟩:=Z6 (c+59*(k:Int)*(k:Int)) (t:=61+k) (m:=2) (by omega) (by omega)
    have a1:Zf Xo (eC (.int 59)) (Za 0) [some (.int (k:Int)),some (.lst (S.map Ym)),some (.int c)]=some (.int (59*(k:Int))):=vC (C:=CMul) (op:=(· * ·)) (a:=59) rfl rfl (Jp (by omega) (by omega))
    have a2:Zf Xo (Zf Xo (eC (.int 59)) (Za 0)) (Za 0) [some (.int (k:Int)),some (.lst (S.map Ym)),some (.int c)]=some (.int (59*(k:Int)*(k:Int))):=vC (C:=CMul) (op:=(· * ·)) a1 rfl (.inl (by omega))
    have a3:Zf ZD (Za 2) (Zf Xo (Zf Xo (eC (.int 59)) (Za 0)) (Za 0)) [some (.int (k:Int)),some (.lst (S.map Ym)),some (.int c)]=some (.int (c+59*(k:Int)*(k:Int))):=vI (op:=(· + ·)) rfl a2
    have a4:Zf ZD (eC (.int 61)) (Za 0) [some (.int (k:Int)),some (.lst (S.map Ym)),some (.int c)]=some (.int ((61+k:Nat):Int)):=by
     have:=vI (op:=(· + ·)) (f:=eC (.int 61)) (g:=Za 0) (s:=[some (.int (k:Int)),some (.lst (S.map Ym)),some (.int c)]) (a:=61) (b:=(k:Int)) rfl rfl
     rw[show((61+k:Nat):Int)=61+(k:Int) by omega];exact this
    have r:Zc Zj [(Zf ZD (Za 2) (Zf Xo (Zf Xo (eC (.int 59)) (Za 0)) (Za 0))),(Zf ZD (eC (.int 61)) (Za 0)),(eC (.int 2))] [some (.int (k:Int)),some (.lst (S.map Ym)),some (.int c)]=some (.int (v:Int)):=by
     rw[Zu,Zk,a3,Zk,a4];exact ev
    have:v=0\/v=1:=by omega
    rcases this with rfl | rfl
    ·exact⟨false,fun _=>r⟩
    ·exact⟨true,fun _=>r⟩
   ·exact⟨false,fun z=>absurd z hk⟩
  obtain⟨β,hβ⟩:=Classical.axiomOfChoice bits
  refine⟨β,?_⟩
  show X5 5 WT _=_
  unfold WT
  show(Zm _ _ [some (wP W),some (pP T),some (.int c),none,none]).bind X1=_
  rw[Zz e1,Zz (s1:=[some (wP W),some (pP T),some (.int c),some (.lst (S.map Ym)),none]) (by rw[ZC,t,decide_eq_false q];rfl)]
  rw[Vs (both 2 none (some (.int c)) _ rfl β hβ)];rfl
def Yn(n:Nat)(X:List Nat):List Int:=(List.range n).map fun h=>((X.count h:Nat):Int)
theorem UQ(n:Nat)(X:List Nat):(Yn n X).length=n:=by simp[Yn]
theorem Se{n:Nat}{X:List Nat}{h:Nat}(hh:h<n):YJ (Yn n X) h=((X.count h:Nat):Int):=X4 hh
theorem Mh{W:List (List Int)}(ok:Z7 W){X:List Nat}(hX:∀x∈X,x<W.length):X2 [wP W,pP (nL X)]=some (pP (Yn W.length X)):=by
 have hf:=ok.few
 let st:Nat->Option PV->ZP:=fun i x3=>[some (wP W),some (pP (nL X)),some (.lst (iL (Yn W.length (X.take i)))),x3]
 let fb:XS:=TZ 2 (Za 3) (Zf ZD (Zf ZK (Za 2) (Za 3)) (eC (.int 1)))
 have e1:Zn 2 (Zf Rn (YC [(eC (.int 0))]) (Zc Zq [(Za 0)])) [some (wP W),some (pP (nL X)),none,none]=some (.nx (st 0 none)):=by
  have ln:Zc Zq [(Za 0)] [some (wP W),some (pP (nL X)),none,none]=some (.int (W.length:Int)):=by
   show some (PV.int ((W.map pP).length:Int))=_
   rw[List.length_map]
  have r:Zf Rn (YC [(eC (.int 0))]) (Zc Zq [(Za 0)]) [some (wP W),some (pP (nL X)),none,none]=some (.lst (iL (Yn W.length []))):=by
   rw[ZI,ln]
   have z:Yn W.length []=List.replicate W.length 0:=by
    unfold Yn
    exact List.ext_getElem (by simp) (by intros;simp)
   rw[z]
   show(if ZJ [PV.int 0]=true/\(-1000000:Int)<=(W.length:Int)/\(W.length:Int)<=1000000/\[PV.int 0].length*((W.length:Int)).toNat<=10000 then some (PV.lst (List.replicate ((W.length:Int)).toNat [PV.int 0]).flatten) else none)=_
   rw[if_pos ⟨rfl,by omega,by omega,by simp;omega⟩,Int.toNat_natCast,Od]
   simp
  rw[Zl,r];rfl
 obtain⟨s',f1,x3,hs⟩:=YB (T:=.one 3) (fb:=fb) (ls:=iL (nL X)) (s:=st 0 none) (fun i s=>∃x3,s=st i x3) ⟨none,rfl⟩ (by
  rintro i l s hl ⟨x3,rfl⟩
  have hi:i<X.length:=by
   have:=(List.getElem?_eq_some_iff.mp hl).1
   simpa [nL] using this
  have el:l = .int ((X[i]:Nat):Int):=by
   rw[Rq (by simpa [nL] using hi)] at hl
   have:=Option.some.inj hl
   rw[<-this];simp[nL,YJ,hi]
  subst el
  have hx:X[i]<W.length:=hX _ (List.getElem_mem hi)
  refine⟨st i (some (.int ((X[i]:Nat):Int))),st (i+1) (some (.int ((X[i]:Nat):Int))),rfl,?_,_,rfl⟩
  have g:Zf ZK (Za 2) (Za 3) (st i (some (.int ((X[i]:Nat):Int))))=some (.int (((X.take i).count X[i]:Nat):Int)):=by
   have:=QM (UQ W.length (X.take i)) X[i] hx
   rw[Se hx] at this;exact this
  show TZ 2 (Za 3) _ _=_
  rw[Lw (l:=.int ((((X.take i).count X[i]:Nat):Int)+1)) (k:=((X[i]:Nat):Int)) (m:=iL (Yn W.length (X.take i))) (j:=X[i]) (vI (op:=(· + ·)) g rfl) rfl rfl (Yv _) rfl (Tg (by simp[Yn];exact hx))]
  have e:(iL (Yn W.length (X.take i))).set X[i] (.int ((((X.take i).count X[i]:Nat):Int)+1))=iL (Yn W.length (X.take (i+1))):=by
   unfold iL;rw[<-List.map_set]
   congr 1
   refine HS (by simp[Yn]) fun h hh=>?_
   have hh':h<W.length:=by simpa [Yn] using hh
   rw[PW.nth_set (by rw[UQ];exact hh'),Se hh',Se hh',List.take_succ_eq_append_getElem hi,List.count_append]
   by_cases q:h=X[i]
   ·subst q;simp
   ·rw[if_neg q]
    have:X[i]≠h:=fun z=>q z.symm
    simp[List.count_singleton,this]
  rw[e];rfl)
 subst hs
 rw[show(iL (nL X)).length=X.length by simp[nL]] at f1
 have e2:Xf [2] (WI (Za 1)) (.one 3) fb (st 0 none)=some (.nx (st X.length x3)):=by
  show(WI (Za 1) (Yc [2] (st 0 none))).bind _=_
  exact f1
 show X5 4 Ug _=_
 unfold Ug
 show(Zm _ _ [some (wP W),some (pP (nL X)),none,none]).bind X1=_
 rw[Zz e1,Zz e2]
 rw[Vs (v:=pP (Yn W.length X)) (by
  rw[Xg]
  show(Option.bind (Z2 [.lst (iL (Yn W.length (X.take X.length)))]) fun l=>if Z0 l=true then some l else none)=_
  rw[List.take_length]
  exact HX (s:=[]))]
 rfl
theorem O7{W:List (List Int)}{i:Nat}(hi:i<(eW W).length):∃t:Int,(Yr W)[i]?=some [((ZM (eW W) i).1:Int),((ZM (eW W) i).2:Int),t]:=by
 have key:(Yr W).map (fun r=>((YJ r 0).toNat,(YJ r 1).toNat))=eW W:=by
  rw[PR];unfold Yr;rw[List.map_flatMap]
  congr 1
  funext a
  unfold WY eA;rw[List.map_flatMap]
  congr 1
  funext j
  unfold Xv Kf;rw[List.map_map]
  exact List.ext_getElem (by simp) (by intros;simp[YJ];omega)
 have form:∀r∈Yr W,∃(a b:Nat) (t:Int),r=[(a:Int),(b:Int),t]:=fun r hr=>by
  unfold Yr at hr
  obtain⟨a,_,hr⟩:=List.mem_flatMap.mp hr
  unfold WY at hr
  obtain⟨j,_,hr⟩:=List.mem_flatMap.mp hr
  unfold Xv at hr
  obtain⟨t,_,rfl⟩:=List.mem_map.mp hr
  exact⟨a,a+1+j,t,rfl⟩
 have hl:i<(Yr W).length:=by rw[<-UP];exact hi
 obtain⟨a,b,t,e⟩:=form _ (List.getElem_mem hl)
 refine⟨t,?_⟩
 have e2:ZM (eW W) i=(a,b):=by
  have g:=congrArg (fun l=>l[i]?) key
  simp only[List.getElem?_map] at g;rw[List.getElem?_eq_getElem hl,List.getElem?_eq_getElem hi,e] at g;unfold ZM;rw[List.getD_eq_getElem?_getD,List.getElem?_eq_getElem hi];simp only[Option.map_some,Option.some.injEq] at g;rw[<-show(((a:Int)).toNat,((b:Int)).toNat)=_ from g];rfl
 rw[List.getElem?_eq_getElem hl,e,e2]
theorem Gb{n:Nat}{m:Nat->Nat}{a b:Nat}{s:ZP}(hf:n<=7)(h3:s[3]?=some (some (.lst (iL (Wv n m)))))(h6:s[6]?=some (some (.int (m a:Int))))(h7:s[7]?=some (some (.int (m b:Int)))) :
  Zw 1 [6,7] (Y4 (Za 3)) (.one 0) ZG (eP (Nl (xB (Zf (Z8 false) (Za 0) (Za 2))) (Za 1) (Za 0))) s=some (.lst (iL (Wv n (ZE m b a)))):=by
 have v3:Za 3 s=some (.lst (iL (Wv n m))):=by
  show s[3]?.bind id=_
  rw[h3];rfl
 rw[Yd (List.range n) (fun x=>.int (m x:Int)) (fun x=>.int (ZE m b a x:Int)) (by
  unfold Y4;rw[v3]
  show some (iL (Wv n m))=_
  rw[Wv,Ux]) (by simp;omega) (fun x hx=>⟨[some (.int (m x:Int)),some (.int (m a:Int)),some (.int (m b:Int))],by simp[Yl,h6,h7,Wx],rfl,?_⟩)]
 ·rw[Wv,Ux]
 ·have t:xB (Zf (Z8 false) (Za 0) (Za 2)) [some (.int (m x:Int)),some (.int (m a:Int)),some (.int (m b:Int))]=some (decide (m x=m b)):=by
   show(Z8 false (.int (m x:Int)) (.int (m b:Int))).bind SG=_
   rw[Xs]
   show some (decide ((m x:Int)=(m b:Int)))=_
   rw[decide_eq_decide.mpr (Int.ofNat_inj (m:=m x) (n:=m b))]
  refine vP ?_
  rw[SH,t,Option.bind_some];unfold ZE
  by_cases q:m x=m b
  ·rw[decide_eq_true q,if_pos rfl,if_pos q];rfl
  ·rw[decide_eq_false q,if_neg (by decide),if_neg q];rfl
def Ki(W:List (List Int))(K:List Nat):Nat->Nat:=XN (fun x=>x) ((K.map (ZM (eW W))).map Et)
theorem Ia(W:List (List Int))(K:List Nat)(k:Nat):Ki W (K++[k])=ZE (Ki W K) (ZM (eW W) k).2 (ZM (eW W) k).1:=by
 unfold Ki;rw[List.map_append,List.map_append,PH];rfl
theorem Kj{W:List (List Int)}(ok:Z7 W){K:List Nat}(hK:∀k∈K,k<(eW W).length):YM [wP W,.lst ((Yr W).map pP),pP (nL K)]=some (.lst (iL (Wv W.length (Ki W K)))):=by
 have hf:=ok.few
 let st:List Nat->Option PV->Option PV->Option PV->Option PV->ZP:=fun A x4 x5 x6 x7=>[some (wP W),some (.lst ((Yr W).map pP)),some (pP (nL K)),some (.lst (iL (Wv W.length (Ki W A)))),x4,x5,x6,x7]
 let fb:XS:=(Zm (Zn 5 (eP (Zf ZK (Za 1) (Za 4))))
  (Zm (Zn 6 (eP (Zf ZK (Za 3) (Zf ZK (Za 5) (eC (.int 0))))))
  (Zm (Zn 7 (eP (Zf ZK (Za 3) (Zf ZK (Za 5) (eC (.int 1))))))
  (Zn 3 (Zw 1 [6,7] (Y4 (Za 3)) (.one 0) ZG (eP (Nl (xB (Zf (Z8 false) (Za 0) (Za 2))) (Za 1) (Za 0))))))))
 obtain⟨s',f1,x4,x5,x6,x7,hs⟩:=YB (T:=.one 4) (fb:=fb) (ls:=iL (nL K)) (s:=st [] none none none none) (fun i s=>∃x4 x5 x6 x7,s=st (K.take i) x4 x5 x6 x7) ⟨none,none,none,none,by simp[st]⟩ (by
  rintro i l s hl ⟨x4,x5,x6,x7,rfl⟩
  have hi:i<K.length:=by
   have:=(List.getElem?_eq_some_iff.mp hl).1
   simpa [nL] using this
  have el:l = .int ((K[i]:Nat):Int):=by
   rw[Rq (by simpa [nL] using hi)] at hl
   rw[<-Option.some.inj hl];simp[nL,YJ,hi]
  subst el
  have hk:K[i]<(eW W).length:=hK _ (List.getElem_mem hi)
  obtain⟨t,et⟩:=O7 hk
  have eIn:ZM (eW W) K[i]∈eW W:=by
   unfold ZM;rw[List.getD_eq_getElem?_getD,List.getElem?_eq_getElem hk]
   exact List.getElem_mem hk
  have hb:=O5 _ eIn
  generalize hA:ZM (eW W) K[i]=e at et hb
  obtain⟨a,b⟩:=e
  simp only at et hb
  let m:=Ki W (K.take i)
  let R:PV:=pP [(a:Int),(b:Int),t]
  have q1:Zn 5 (eP (Zf ZK (Za 1) (Za 4))) (st (K.take i) (some (.int ((K[i]:Nat):Int))) x5 x6 x7)=some (.nx (st (K.take i) (some (.int ((K[i]:Nat):Int))) (some R) x6 x7)):=by
   have g:Zf ZK (Za 1) (Za 4) (st (K.take i) (some (.int ((K[i]:Nat):Int))) x5 x6 x7)=some R:=by
    refine Wr (l:=(Yr W).map pP) (k:=K[i]) ?_
    rw[List.getElem?_map,et];rfl
   rw[Zl,Xg,g];rfl
  have gm:∀z:Nat,z<W.length->ZK (.lst (iL (Wv W.length m))) (.int (z:Int))=some (.int (m z:Int)):=fun z hz=>by
   rw[QM (Ul W.length m) z hz,TC hz]
  have q2:Zn 6 (eP (Zf ZK (Za 3) (Zf ZK (Za 5) (eC (.int 0))))) (st (K.take i) (some (.int ((K[i]:Nat):Int))) (some R) x6 x7)=some (.nx (st (K.take i) (some (.int ((K[i]:Nat):Int))) (some R) (some (.int (m a:Int))) x7)):=by
   have g:Zf ZK (Za 3) (Zf ZK (Za 5) (eC (.int 0))) (st (K.take i) (some (.int ((K[i]:Nat):Int))) (some R) x6 x7)=some (.int (m a:Int)):=gm a (by omega)
   rw[Zl,vP g];rfl
  have q3:Zn 7 (eP (Zf ZK (Za 3) (Zf ZK (Za 5) (eC (.int 1))))) (st (K.take i) (some (.int ((K[i]:Nat):Int))) (some R) (some (.int (m a:Int))) x7)=some (.nx (st (K.take i) (some (.int ((K[i]:Nat):Int))) (some R) (some (.int (m a:Int))) (some (.int (m b:Int))))):=by
   have g:Zf ZK (Za 3) (Zf ZK (Za 5) (eC (.int 1))) (st (K.take i) (some (.int ((K[i]:Nat):Int))) (some R) (some (.int (m a:Int))) x7)=some (.int (m b:Int)):=gm b (by omega)
   rw[Zl,vP g];rfl
  have q4:Zn 3 (Zw 1 [6,7] (Y4 (Za 3)) (.one 0) ZG (eP (Nl (xB (Zf (Z8 false) (Za 0) (Za 2))) (Za 1) (Za 0)))) (st (K.take i) (some (.int ((K[i]:Nat):Int))) (some R) (some (.int (m a:Int))) (some (.int (m b:Int))))=some (.nx (st (K.take (i+1)) (some (.int ((K[i]:Nat):Int))) (some R) (some (.int (m a:Int))) (some (.int (m b:Int))))):=by
   rw[Zl,Gb (n:=W.length) (m:=m) (a:=a) (b:=b) hf rfl rfl rfl]
   have:Ki W (K.take (i+1))=ZE m b a:=by
    rw[List.take_succ_eq_append_getElem hi,Ia,hA]
   show some (Out.nx [_,_,_,_,_,_,_,_])=some (Out.nx [_,_,_,some (.lst (iL (Wv W.length (Ki W (K.take (i+1)))))),_,_,_,_])
   rw[this]
  exact⟨st (K.take i) (some (.int ((K[i]:Nat):Int))) x5 x6 x7,_,rfl,(by show Zm _ _ _=_;rw[Zz q1,Zz q2,Zz q3,q4]),_,_,_,_,rfl⟩)
 subst hs
 rw[show(iL (nL K)).length=K.length by simp[nL],List.take_length] at f1
 have e1:Zn 3 (Uo YR (Zc Zq [(Za 0)])) [some (wP W),some (.lst ((Yr W).map pP)),some (pP (nL K)),none,none,none,none,none]=some (.nx (st [] none none none none)):=by
  have l:Zc Zq [(Za 0)] [some (wP W),some (.lst ((Yr W).map pP)),some (pP (nL K)),none,none,none,none,none]=some (.int (W.length:Int)):=by
   show some (PV.int ((W.map pP).length:Int))=_
   rw[List.length_map]
  have g:Uo YR (Zc Zq [(Za 0)]) [some (wP W),some (.lst ((Yr W).map pP)),some (pP (nL K)),none,none,none,none,none]=some (.lst (iL (Wv W.length (Ki W [])))):=by
   show(Zc Zq [(Za 0)] _).bind YR=_
   rw[l]
   show(if 0<=(W.length:Int)/\(W.length:Int)<=10000 then some (PV.lst (iL ((List.range (W.length:Int).toNat).map fun(i:Nat)=>(i:Int)))) else none)=_
   rw[if_pos ⟨by omega,by omega⟩,Int.toNat_natCast];rfl
  rw[Zl,g];rfl
 have e2:Xf [3] (WI (Za 2)) (.one 4) fb (st [] none none none none)=some (.nx (st K x4 x5 x6 x7)):=by
  show(WI (Za 2) (Yc [3] (st [] none none none none))).bind _=_
  exact f1
 show X5 8 WD _=_
 unfold WD
 show(Zm _ _ [some (wP W),some (.lst ((Yr W).map pP)),some (pP (nL K)),none,none,none,none,none]).bind X1=_
 rw[Zz e1,Zz e2];rfl
def Sf(K:List Nat):List Int:=(nL K).foldl Vq []
def Qa(W:List (List Int))(K:List Nat):Bool:=K.all fun k=>decide (k<(eW W).length)
def Ds(W:List (List Int))(K:List Nat):Nat:=((Wv W.length (Ki W K)).foldl PyProof.Rows.step_dedup []).length
def PZ(W:List (List Int))(K:List Nat):Bool:=decide (K.length+1=W.length)&&Qa W K&&(decide (nL K=sortI (Sf K))&&decide (Ds W K=1))
theorem Ib{K:List Nat}(h31:∀k∈K,k<=31)(hl:K.length<=17):VW.gSN (pP (nL K))=some (.lst (iL (sortI (Sf K)))):=by
 show(YH (iL (nL K))).bind (fun ns=>if VW.inS ns=true then some (PV.lst (iL (sortI (ns.foldl Vq [])))) else none)=_
 rw[Y3,Option.bind_some,if_pos]
 ·rfl
 ·unfold VW.inS
  simp only[Bool.and_eq_true,decide_eq_true_eq,List.all_eq_true]
  refine⟨fun k hk=>?_,by simpa [nL] using hl⟩
  unfold nL at hk
  obtain⟨j,hj,rfl⟩:=List.mem_map.mp hk
  have:=h31 j hj
  omega
theorem O8{W:List (List Int)}{K:List Nat}{s:ZP}{m:Nat}{l:List PV}(hl:K.length<=100)(hm:l.length=(eW W).length)(h1:s[1]?=some (some (pP (nL K))))(h2:s[2]?=some (some (.lst l))) :
  Zc Vb [(Zw 1 [2] (WI (Za 1)) (.one 0) ZG (FO FC UG (eC (.int 0)) (Za 0) (Zc Zq [(Za 1)])))] s=some (.bl (Qa W K)):=by
 have v1:Za 1 s=some (pP (nL K)):=by
  show s[1]?.bind id=_
  rw[h1];rfl
 have hc:Zw 1 [2] (WI (Za 1)) (.one 0) ZG (FO FC UG (eC (.int 0)) (Za 0) (Zc Zq [(Za 1)])) s=some (.lst ((K.map fun k=>decide (k<(eW W).length)).map PV.bl)):=by
  rw[Yd K (fun(k:Nat)=>.int (k:Int)) (fun k=>.bl (decide (k<(eW W).length))) (by
   rw[Ou v1];unfold nL
   rw[Ux]) (by omega) (fun k hk=>⟨[some (.int (k:Int)),some (.lst l)],by simp[Yl,h2,Wx],rfl,?_⟩),List.map_map]
  ·rfl
  ·have g1:FC (.int 0) (.int (k:Int))=some (.bl true):=by
    show some (PV.bl (decide ((0:Int)<=(k:Int))))=_
    rw[decide_eq_true (by omega)]
   show((FC (.int 0) (.int (k:Int))).bind SG).bind (fun b=>if b=true then(Zc Zq [(Za 1)] [some (.int (k:Int)),some (.lst l)]).bind fun z=>UG (.int (k:Int)) z else some (.bl false))=_
   rw[g1]
   show(some (PV.int (l.length:Int))).bind (fun z=>UG (.int (k:Int)) z)=_
   show some (PV.bl (decide ((k:Int)<(l.length:Int))))=_
   rw[hm]
   congr 2
   exact decide_eq_decide.mpr (by omega)
 rw[Zu,Zk,hc]
 show Vb [.lst ((K.map fun k=>decide (k<(eW W).length)).map PV.bl)]=_
 rw[NI];unfold Qa
 rw[List.all_map];rfl
theorem O9{W:List (List Int)}{K:List Nat}{s:ZP}(hp:1<=W.length)(h0:s[0]?=some (some (wP W)))(h1:s[1]?=some (some (pP (nL K)))) :
  xB (Zf (Z8 true) (Zc Zq [(Za 1)]) (Zf Xd (Zc Zq [(Za 0)]) (eC (.int 1)))) s=some (!decide (K.length+1=W.length)):=by
 have v0:Za 0 s=some (wP W):=by
  show s[0]?.bind id=_
  rw[h0];rfl
 have v1:Za 1 s=some (pP (nL K)):=by
  show s[1]?.bind id=_
  rw[h1];rfl
 have a:Zc Zq [(Za 1)] s=some (.int (K.length:Int)):=by
  rw[Zu,Zk,v1]
  show some (PV.int ((iL (nL K)).length:Int))=_
  simp[nL]
 have b:Zc Zq [(Za 0)] s=some (.int (W.length:Int)):=by
  rw[Zu,Zk,v0]
  show some (PV.int ((W.map pP).length:Int))=_
  rw[List.length_map]
 have d:Zf Xd (Zc Zq [(Za 0)]) (eC (.int 1)) s=some (.int ((W.length:Int)-1)):=vI (op:=(· - ·)) b rfl
 rw[Z3,ZI,a,d]
 show(Z8 true (.int (K.length:Int)) (.int ((W.length:Int)-1))).bind SG=_
 rw[Xs]
 show some (!decide ((K.length:Int)=(W.length:Int)-1))=_
 rw[decide_eq_decide.mpr (show((K.length:Int)=(W.length:Int)-1)↔K.length+1=W.length by omega)]
theorem Na{W:List (List Int)}(ok:Z7 W){K:List Nat}(h31:∀k∈K,k<=31)(hl:K.length<=17):Yg [wP W,pP (nL K)]=some (.bl (PZ W K)):=by
 have hf:=ok.few
 let s:ZP:=[some (wP W),some (pP (nL K)),some (.lst ((Yr W).map pP))]
 have e1:Zn 2 (Zc Yf [(Za 0)]) [some (wP W),some (pP (nL K)),none]=some (.nx s):=by
  have:Zc Yf [(Za 0)] [some (wP W),some (pP (nL K)),none]=some (.lst ((Yr W).map pP)):=(Vk ok).1
  rw[Zl,this];rfl
 have lt:=O9 (W:=W) (K:=K) (s:=s) ok.pos rfl rfl
 have rg:=O8 (W:=W) (K:=K) (s:=s) (m:=0) (l:=(Yr W).map pP) (by omega) (by rw[List.length_map,UP]) rfl rfl
 show X5 3 Uj _=_
 unfold Uj
 show(Zm _ _ [some (wP W),some (pP (nL K)),none]).bind X1=_
 rw[Zz e1]
 by_cases c1:K.length+1=W.length
 ·by_cases c2:Qa W K=true
  ·rw[Zz (s1:=s) (by
    rw[ZC,XD,lt,decide_eq_true c1];simp only[Option.bind_some,Bool.not_true,Bool.false_eq_true,if_false]
    rw[XG,Z3,rg,c2];rfl)]
   have hK:∀k∈K,k<(eW W).length:=fun k hk=>by
    unfold Qa at c2
    exact of_decide_eq_true (List.all_eq_true.mp c2 k hk)
   have a1:Zf (Z8 false) (Zc Wo [(Za 1)]) (Uo VW.gSN (Za 1)) s=some (.bl (decide (nL K=sortI (Sf K)))):=by
    have a:Zc Wo [(Za 1)] s=some (.lst (iL (nL K))):=by
     show(if ZJ (iL (nL K))=true then some (PV.lst (iL (nL K))) else none)=_
     rw[if_pos (Yv _)]
    have b:Uo VW.gSN (Za 1) s=some (.lst (iL (sortI (Sf K)))):=Ib h31 hl
    rw[ZI,a,b]
    show Z8 false (.lst ((nL K).map PV.int)) (.lst ((sortI (Sf K)).map PV.int))=_
    rw[Jn];rfl
   have a2:Zf (Z8 false) (Uo VW.gLS (Zc YM [(Za 0),(Za 2),(Za 1)])) (eC (.int 1)) s=some (.bl (decide (Ds W K=1))):=by
    have p:Zc YM [(Za 0),(Za 2),(Za 1)] s=some (.lst (iL (Wv W.length (Ki W K)))):=Kj ok hK
    have g:Uo VW.gLS (Zc YM [(Za 0),(Za 2),(Za 1)]) s=some (.int (Ds W K:Int)):=by
     show(Zc YM [(Za 0),(Za 2),(Za 1)] s).bind VW.gLS=_
     rw[p]
     show(YH (iL (Wv W.length (Ki W K)))).bind (fun ns=>if ns.length<=1000 then some (PV.int ((ns.foldl PyProof.Rows.step_dedup []).length:Int)) else none)=_
     rw[Y3,Option.bind_some,if_pos (by rw[Ul];omega)];rfl
    rw[ZI,g]
    show Z8 false (.int (Ds W K:Int)) (.int 1)=_
    rw[Xs]
    show some (PV.bl (decide ((Ds W K:Int)=1)))=_
    congr 2
    exact decide_eq_decide.mpr (by omega)
   rw[Vs (v:=.bl (PZ W K)) (by
    rw[Xg,Ro,Z3,a1];unfold PZ;rw[decide_eq_true c1,c2]
    by_cases c3:nL K=sortI (Sf K)
    ·rw[decide_eq_true c3]
     simp only[Option.bind_some,Jj,if_true];rw[a2]
     simp
    ·rw[decide_eq_false c3];rfl)]
   rfl
  ·rw[Sy (v:=.bl false)]
   ·show some (PV.bl false)=_
    unfold PZ;rw[Bool.not_eq_true] at c2
    rw[c2];simp
   ·rw[ZC,XD,lt,decide_eq_true c1]
    simp only[Option.bind_some,Bool.not_true,Bool.false_eq_true,if_false];rw[Bool.not_eq_true] at c2
    rw[XG,Z3,rg,c2];rfl
 ·rw[Sy (v:=.bl false)]
  ·show some (PV.bl false)=_
   unfold PZ
   rw[decide_eq_false c1];rfl
  ·rw[ZC,XD,lt,decide_eq_false c1];rfl
theorem Eh{n:Nat}{m:Nat->Nat}(h:((Wv n m).foldl PyProof.Rows.step_dedup []).length=1)(hn:0<n):∀x,x<n->m x=m 0:=fun x hx=>by
 obtain⟨a,ea⟩:=List.length_eq_one_iff.mp h
 have key:∀y,y<n->(m y:Int)=a:=fun y hy=>by
  have:(m y:Int)∈(Wv n m).foldl PyProof.Rows.step_dedup []:=J2 (l:=Wv n m) (acc:=[]) _ (.inr (List.mem_map.mpr ⟨y,List.mem_range.mpr hy,rfl⟩))
  rw[ea] at this
  simpa using this
 have h1:=key x hx;have h2:=key 0 hn;omega
theorem Ei{n:Nat}{m:Nat->Nat}(hn:0<n)(h:∀x,x<n->m x=m 0):((Wv n m).foldl PyProof.Rows.step_dedup []).length=1:=by
 have e:Wv n m=(m 0:Int)::(Wv n m).tail:=by
  unfold Wv
  obtain⟨k,rfl⟩:∃k,n=k+1:=⟨n-1,by omega⟩
  rw[List.range_succ_eq_map,List.map_cons,List.tail_cons]
 rw[e,List.foldl_cons]
 have s:PyProof.Rows.step_dedup [] (m 0:Int)=[(m 0:Int)]:=rfl
 rw[s]
 have:=RN (a:=(m 0:Int)) (l:=(Wv n m).tail) fun x hx=>by
  have hx':x∈Wv n m:=List.mem_of_mem_tail hx
  obtain⟨y,hy,rfl⟩:=List.mem_map.mp hx'
  rw[h y (List.mem_range.mp hy)]
 exact congrArg List.length this
theorem Ic{n:Nat}{m:Nat->Nat}{a b:Nat}{s:ZP}(hf:n<=7)(hb:b<n)(h3:s[3]?=some (some (.lst (iL (Wv n m)))))(h6:s[6]?=some (some (.int (b:Int))))(h7:s[7]?=some (some (.int (m a:Int)))) :
  Zw 1 [7,3,6] (Y4 (Za 3)) (.one 0) ZG (eP (Nl (xB (Zf (Z8 false) (Za 0) (Za 1))) (Zf ZK (Za 2) (Za 3)) (Za 0))) s=some (.lst (iL (Wv n (ZE m a b)))):=by
 have v3:Za 3 s=some (.lst (iL (Wv n m))):=by
  show s[3]?.bind id=_
  rw[h3];rfl
 rw[Yd (List.range n) (fun x=>.int (m x:Int)) (fun x=>.int (ZE m a b x:Int)) (by
  unfold Y4;rw[v3]
  show some (iL (Wv n m))=_
  rw[Wv,Ux]) (by simp;omega) (fun x hx=>⟨[some (.int (m x:Int)),some (.int (m a:Int)),some (.lst (iL (Wv n m))),some (.int (b:Int))],by simp[Yl,h3,h6,h7,Wx],rfl,?_⟩)]
 ·rw[Wv,Ux]
 ·have t:xB (Zf (Z8 false) (Za 0) (Za 1)) [some (.int (m x:Int)),some (.int (m a:Int)),some (.lst (iL (Wv n m))),some (.int (b:Int))]=some (decide (m x=m a)):=by
   show(Z8 false (.int (m x:Int)) (.int (m a:Int))).bind SG=_
   rw[Xs]
   show some (decide ((m x:Int)=(m a:Int)))=_
   rw[decide_eq_decide.mpr (Int.ofNat_inj (m:=m x) (n:=m a))]
  refine vP ?_
  rw[SH,t,Option.bind_some];unfold ZE
  by_cases q:m x=m a
  ·rw[decide_eq_true q,if_pos rfl,if_pos q]
   have:=QM (Ul n m) b hb
   rw[TC hb] at this;exact this
  ·rw[decide_eq_false q,if_neg (by decide),if_neg q];rfl
abbrev QQ(W:List (List Int))(Y:PV)(m:Nat->Nat)(x4 x5 x6 x7:Option PV):ZP:=[some (wP W),some Y,some (.lst ((eW W).map Ym)),some (.lst (iL (Wv W.length m))),x4,x5,x6,x7]
noncomputable abbrev Eu:XS:=(Zm (U9 (.many [5,6]) (Zf ZK (Za 2) (Za 4)))
  (Zm (Xc (xB (Zf (Z8 false) (Zf ZK (Za 3) (Za 5)) (Zf ZK (Za 3) (Za 6)))) (ZY (eP (eC (.bl false)))) ZH)
  (Zm (Zn 7 (eP (Zf ZK (Za 3) (Za 5))))
  (Zn 3 (Zw 1 [7,3,6] (Y4 (Za 3)) (.one 0) ZG (eP (Nl (xB (Zf (Z8 false) (Za 0) (Za 1))) (Zf ZK (Za 2) (Za 3)) (Za 0))))))))
theorem Ie{W:List (List Int)}(ok:Z7 W){Y:PV}{m:Nat->Nat}{k:Nat}(hk:k<(eW W).length)(x5 x6 x7:Option PV) :
  (m (ZM (eW W) k).1=m (ZM (eW W) k).2->Eu (QQ W Y m (some (.int (k:Int))) x5 x6 x7)=some (.rt (.bl false)))/\
  (m (ZM (eW W) k).1≠m (ZM (eW W) k).2->∃y5 y6 y7,Eu (QQ W Y m (some (.int (k:Int))) x5 x6 x7)=some (.nx (QQ W Y (ZE m (ZM (eW W) k).1 (ZM (eW W) k).2) (some (.int (k:Int))) y5 y6 y7))):=by
 have hf:=ok.few
 have eIn:ZM (eW W) k∈eW W:=by
  unfold ZM;rw[List.getD_eq_getElem?_getD,List.getElem?_eq_getElem hk]
  exact List.getElem_mem hk
 have hb:=O5 _ eIn
 have gE:((eW W).map Ym)[k]?=some (Ym (ZM (eW W) k)):=by
  rw[List.getElem?_map,List.getElem?_eq_getElem hk];unfold ZM
  rw[List.getD_eq_getElem?_getD,List.getElem?_eq_getElem hk];rfl
 generalize ZM (eW W) k=e at hb gE ⊢
 obtain⟨a,b⟩:=e
 simp only at hb ⊢
 have q1:U9 (.many [5,6]) (Zf ZK (Za 2) (Za 4)) (QQ W Y m (some (.int (k:Int))) x5 x6 x7)=some (.nx (QQ W Y m (some (.int (k:Int))) (some (.int (a:Int))) (some (.int (b:Int))) x7)):=by
  have g:Zf ZK (Za 2) (Za 4) (QQ W Y m (some (.int (k:Int))) x5 x6 x7)=some (Ym (a,b)):=Wr (l:=(eW W).map Ym) (k:=k) gE
  unfold U9
  rw[g];rfl
 have gm:∀z:Nat,z<W.length->ZK (.lst (iL (Wv W.length m))) (.int (z:Int))=some (.int (m z:Int)):=fun z hz=>by
  rw[QM (Ul W.length m) z hz,TC hz]
 have g1:Zf ZK (Za 3) (Za 5) (QQ W Y m (some (.int (k:Int))) (some (.int (a:Int))) (some (.int (b:Int))) x7)=some (.int (m a:Int)):=gm a (by omega)
 have g2:Zf ZK (Za 3) (Za 6) (QQ W Y m (some (.int (k:Int))) (some (.int (a:Int))) (some (.int (b:Int))) x7)=some (.int (m b:Int)):=gm b (by omega)
 have t:xB (Zf (Z8 false) (Zf ZK (Za 3) (Za 5)) (Zf ZK (Za 3) (Za 6))) (QQ W Y m (some (.int (k:Int))) (some (.int (a:Int))) (some (.int (b:Int))) x7)=some (decide (m a=m b)):=by
  rw[Z3,ZI,g1,g2]
  show(Z8 false (.int (m a:Int)) (.int (m b:Int))).bind SG=_
  rw[Xs]
  show some (decide ((m a:Int)=(m b:Int)))=_
  rw[decide_eq_decide.mpr (Int.ofNat_inj (m:=m a) (n:=m b))]
 constructor
 ·intro q
  show Zm _ _ _=_
  rw[Zz q1,Sy (v:=.bl false)]
  rw[ZC,t,decide_eq_true q];rfl
 ·intro q
  refine⟨some (.int (a:Int)),some (.int (b:Int)),some (.int (m a:Int)),?_⟩
  have q3:Zn 7 (eP (Zf ZK (Za 3) (Za 5))) (QQ W Y m (some (.int (k:Int))) (some (.int (a:Int))) (some (.int (b:Int))) x7)=some (.nx (QQ W Y m (some (.int (k:Int))) (some (.int (a:Int))) (some (.int (b:Int))) (some (.int (m a:Int))))):=by
   rw[Zl,vP g1];rfl
  show Zm _ _ _=_
  rw[Zz q1,Zz (s1:=QQ W Y m (some (.int (k:Int))) (some (.int (a:Int))) (some (.int (b:Int))) x7) (by rw[ZC,t,decide_eq_false q];rfl),Zz q3,Zl,Ic (n:=W.length) (m:=m) (a:=a) (b:=b) hf (by omega) rfl rfl rfl]
  rfl
theorem Nb{W:List (List Int)}(ok:Z7 W){Y:PV}:∀{K:List Nat}{m:Nat->Nat}(x4 x5 x6 x7:Option PV),(∀k∈K,k<(eW W).length)->
  (∃out,U8 (.one 4) Eu (iL (nL K)) (QQ W Y m x4 x5 x6 x7)=some out/\(out = .rt (.bl false)\/∃m' y4 y5 y6 y7,out = .nx (QQ W Y m' y4 y5 y6 y7))/\
   ((∀A k B,K=A++k::B->XN m (A.map (ZM (eW W))) (ZM (eW W) k).1≠XN m (A.map (ZM (eW W))) (ZM (eW W) k).2)->∃m' y4 y5 y6 y7,out = .nx (QQ W Y m' y4 y5 y6 y7)))
 | [],m,x4,x5,x6,x7,_=>⟨_,rfl,.inr ⟨m,x4,x5,x6,x7,rfl⟩,fun _=>⟨m,x4,x5,x6,x7,rfl⟩⟩
 | k::K,m,x4,x5,x6,x7,hK=>by
  obtain⟨r1,r2⟩:=Ie ok (Y:=Y) (m:=m) (hK k (by simp)) x5 x6 x7
  by_cases q:m (ZM (eW W) k).1=m (ZM (eW W) k).2
  ·refine⟨.rt (.bl false),?_,.inl rfl,fun h=>absurd q (h [] k K rfl)⟩
   show(Eu (QQ W Y m (some (.int (k:Int))) x5 x6 x7)).bind _=_
   rw[r1 q];rfl
  ·obtain⟨y5,y6,y7,e⟩:=r2 q
   obtain⟨out,e2,c1,c2⟩:=Nb ok (Y:=Y) (K:=K) (m:=ZE m (ZM (eW W) k).1 (ZM (eW W) k).2) (some (.int (k:Int))) y5 y6 y7 fun j hj=>hK j (by simp[hj])
   refine⟨out,?_,c1,fun h=>c2 fun A j B hs=>?_⟩
   ·show(Eu (QQ W Y m (some (.int (k:Int))) x5 x6 x7)).bind _=_
    rw[e];exact e2
   ·have:=h (k::A) j B (by rw[hs];rfl)
    exact this
theorem Qb{W:List (List Int)}(ok:Z7 W){K:List Nat}(h31:∀k∈K,k<=31)(hl:K.length<=17):∃b,Y6 [wP W,pP (nL K)]=some (.bl b)/\(PZ W K=true->b=true):=by
 have hf:=ok.few
 let s:ZP:=[some (wP W),some (pP (nL K)),some (.lst ((eW W).map Ym)),none,none,none,none,none]
 have e1:Zn 2 (Zc Z4 [(Za 0)]) [some (wP W),some (pP (nL K)),none,none,none,none,none,none]=some (.nx s):=by
  have:Zc Z4 [(Za 0)] [some (wP W),some (pP (nL K)),none,none,none,none,none,none]=some (.lst ((eW W).map Ym)):=(WZ ok).1
  rw[Zl,this];rfl
 have lt:=O9 (W:=W) (K:=K) (s:=s) ok.pos rfl rfl
 have rg:=O8 (W:=W) (K:=K) (s:=s) (m:=0) (l:=(eW W).map Ym) (by omega) (by rw[List.length_map]) rfl rfl
 have a1:xB (Zf (Z8 true) (Zc Wo [(Za 1)]) (Uo VW.gSN (Za 1))) s=some (!decide (nL K=sortI (Sf K))):=by
  have a:Zc Wo [(Za 1)] s=some (.lst (iL (nL K))):=by
   show(if ZJ (iL (nL K))=true then some (PV.lst (iL (nL K))) else none)=_
   rw[if_pos (Yv _)]
  have b:Uo VW.gSN (Za 1) s=some (.lst (iL (sortI (Sf K)))):=Ib h31 hl
  rw[Z3,ZI,a,b]
  show(Z8 true (.lst ((nL K).map PV.int)) (.lst ((sortI (Sf K)).map PV.int))).bind SG=_
  rw[Jn];rfl
 have tst:UR (xB (Zf (Z8 true) (Zc Wo [(Za 1)]) (Uo VW.gSN (Za 1)))) (UR (xB (Zf (Z8 true) (Zc Zq [(Za 1)]) (Zf Xd (Zc Zq [(Za 0)]) (eC (.int 1))))) (YW (xB (Zc Vb [(Zw 1 [2] (WI (Za 1)) (.one 0) ZG (FO FC UG (eC (.int 0)) (Za 0) (Zc Zq [(Za 1)])))])))) s=some (!(decide (nL K=sortI (Sf K))&&(decide (K.length+1=W.length)&&Qa W K))):=by
  rw[XD,a1,XD,lt,XG,Z3,rg]
  cases decide (nL K=sortI (Sf K))<;>cases decide (K.length+1=W.length)<;>cases Qa W K<;>rfl
 show ∃b,X5 8 WE [wP W,pP (nL K)]=some (.bl b)/\_
 unfold WE
 show ∃b,(Zm _ _ [some (wP W),some (pP (nL K)),none,none,none,none,none,none]).bind X1=some (.bl b)/\_
 rw[Zz e1]
 by_cases c:(decide (nL K=sortI (Sf K))&&(decide (K.length+1=W.length)&&Qa W K))=true
 ·rw[Zz (s1:=s) (by rw[ZC,tst,c];rfl)]
  simp only[Bool.and_eq_true,decide_eq_true_eq] at c
  have hK:∀k∈K,k<(eW W).length:=fun k hk=>by
   have c2:=c.2.2;unfold Qa at c2
   exact of_decide_eq_true (List.all_eq_true.mp c2 k hk)
  have e2:Zn 3 (Uo YR (Zc Zq [(Za 0)])) s=some (.nx (QQ W (pP (nL K)) (fun x=>x) none none none none)):=by
   have l:Zc Zq [(Za 0)] s=some (.int (W.length:Int)):=by
    show some (PV.int ((W.map pP).length:Int))=_
    rw[List.length_map]
   have g:Uo YR (Zc Zq [(Za 0)]) s=some (.lst (iL (Wv W.length (fun x=>x)))):=by
    show(Zc Zq [(Za 0)] _).bind YR=_
    rw[l]
    show(if 0<=(W.length:Int)/\(W.length:Int)<=10000 then some (PV.lst (iL ((List.range (W.length:Int).toNat).map fun(i:Nat)=>(i:Int)))) else none)=_
    rw[if_pos ⟨by omega,by omega⟩,Int.toNat_natCast];rfl
   rw[Zl,g];rfl
  rw[Zz e2]
  obtain⟨out,eo,c1,c2⟩:=Nb ok (Y:=pP (nL K)) (K:=K) (m:=fun x=>x) none none none none hK
  have e3:Xf [] (WI (Za 1)) (.one 4) Eu (QQ W (pP (nL K)) (fun x=>x) none none none none)=some out:=by
   show(WI (Za 1) (Yc [] (QQ W (pP (nL K)) (fun x=>x) none none none none))).bind _=_
   exact eo
  rcases c1 with rfl | ⟨m',y4,y5,y6,y7,rfl⟩
  ·refine⟨false,by rw[Sy (v:=.bl false) e3];rfl,fun ht=>?_⟩
   exfalso;unfold PZ at ht;simp only[Bool.and_eq_true,decide_eq_true_eq] at ht;have one:=Eh ht.2.2 ok.pos
   obtain⟨m',y4,y5,y6,y7,z⟩:=c2 fun A k B hs=>by
    refine HV (n:=W.length) (T:=K.map (ZM (eW W))) ok.pos (fun e he=>?_) (by rw[List.length_map];omega) (fun x hx=>one x hx) (B:=B.map (ZM (eW W))) (by rw[hs,List.map_append];rfl)
    obtain⟨j,hj,rfl⟩:=List.mem_map.mp he
    have hj':=hK j hj
    have:ZM (eW W) j∈eW W:=by
     unfold ZM;rw[List.getD_eq_getElem?_getD,List.getElem?_eq_getElem hj']
     exact List.getElem_mem hj'
    have:=O5 _ this
    exact⟨by omega,by omega⟩
   cases z
  ·exact⟨true,by rw[Zz e3];rfl,fun _=>rfl⟩
 ·refine⟨false,?_,fun ht=>?_⟩
  ·rw[Bool.not_eq_true] at c
   rw[Sy (v:=.bl false) (by rw[ZC,tst,c];rfl)];rfl
  ·exfalso
   refine c ?_
   unfold PZ at ht
   simp only[Bool.and_eq_true,decide_eq_true_eq] at ht ⊢
   exact⟨ht.2.1,ht.1.1,ht.1.2⟩
theorem Nc:∀{l acc:List Int},(acc++l).Nodup->l.foldl Vq acc=acc++l
 | [],acc,_=>by simp
 | k::l,acc,h=>by
  have hk:k∉acc:=fun z=>by
   rw[List.nodup_append] at h
   exact h.2.2 k z k (by simp) rfl
  have ea:Vq acc k=acc++[k]:=by unfold Vq;rw[if_neg hk]
  rw[List.foldl_cons,ea]
  have:=Nc (l:=l) (acc:=acc++[k]) (by simpa using h)
  rw[this];simp
def Vt(F:List Nat):List Nat:=(sortI (nL F)).map Int.toNat
theorem SR(F:List Nat):nL (Vt F)=sortI (nL F):=by
 unfold Vt
 show((sortI (nL F)).map Int.toNat).map (fun(i:Nat)=>(i:Int))=_
 rw[List.map_map]
 conv=>rhs;rw[<-List.map_id (sortI (nL F))]
 refine List.map_congr_left fun x hx=>?_
 have:x∈nL F:=(sortI_perm _).mem_iff.mp hx
 obtain⟨j,_,rfl⟩:=List.mem_map.mp this
 rfl
theorem Ej{a b:Nat}:(fun(i:Nat)=>(i:Int)) a=(fun(i:Nat)=>(i:Int)) b->a=b:=fun h=>by
 have h:(a:Int)=(b:Int):=h
 omega
theorem W0(F:List Nat):(Vt F).Perm F:=by
 have:=(sortI_perm (nL F)).map Int.toNat
 have e:(nL F).map Int.toNat=F:=by
  unfold nL;rw[List.map_map]
  conv=>rhs;rw[<-List.map_id F]
  exact List.map_congr_left fun x _=>rfl
 rw[e] at this;exact this
theorem Ig{W:List (List Int)}(ok:Z7 W)(cn:PF W){m:Nat->Nat}{F:List Nat}(h:TrOk W.length (eW W) m F []):PZ W (Vt F)=true:=by
 have pm:=W0 F
 have ndF:F.Nodup:=by have:=h.nd;simpa using this
 have one:=J8 ok cn h;have ln:=h.mark.all ok.pos one;rw[List.length_map] at ln
 have hK:∀k∈Vt F,k<(eW W).length:=fun k hk=>h.inn k (by simp[pm.mem_iff.mp hk])
 have ndK:(nL (Vt F)).Nodup:=by
  unfold nL
  exact List.pairwise_map.mpr ((pm.nodup_iff.mpr ndF).imp fun z e=>z (Ej e))
 unfold PZ;simp only[Bool.and_eq_true,decide_eq_true_eq]
 refine⟨⟨by rw[pm.length_eq];omega,?_⟩,?_,?_⟩
 ·unfold Qa
  exact List.all_eq_true.mpr fun k hk=>decide_eq_true (hK k hk)
 ·unfold Sf
  rw[Nc (acc:=[]) (by simpa using ndK),List.nil_append]
  refine sortI_eq (List.Perm.refl _) ?_
  rw[SR]
  exact Th _
 ·refine Ei ok.pos fun x hx=>Kc h.mark ok.pos (by rw[List.length_map];exact ln) (q:=Ki W (Vt F)) (fun e he=>?_) x hx
  obtain⟨k,hk,rfl⟩:=List.mem_map.mp he
  have:Et (ZM (eW W) k)∈((Vt F).map (ZM (eW W))).map Et:=List.mem_map_of_mem (List.mem_map_of_mem (pm.mem_iff.mpr hk))
  exact(RM _ this).symm
def V1(W:List (List Int))(k:Nat):List Int:=(Yr W).getD k []
theorem Gd{W:List (List Int)}{k:Nat}(hk:k<(eW W).length):∃t:Int,V1 W k=[((ZM (eW W) k).1:Int),((ZM (eW W) k).2:Int),t]:=by
 obtain⟨t,e⟩:=O7 hk
 refine⟨t,?_⟩
 unfold V1
 rw[List.getD_eq_getElem?_getD,e];rfl
def RS(W:List (List Int))(k x:Nat):Bool:=decide ((x:Int)∈[((ZM (eW W) k).1:Int),((ZM (eW W) k).2:Int)])
def Ih(W:List (List Int))(O X:List Nat):Bool:=(List.range X.length).all fun i=>RS W (O.getD i 0) (X.getD i 0)
def brk(W:List (List Int))(K X:List Nat):Bool:=decide (X.length=(Yu (eW W) K).length)&&Ih W (Yu (eW W) K) X
theorem Ii(X:List Nat)(h:Nat):(nL X).count (h:Int)=X.count h:=by
 induction X with
 | nil=>rfl
 | cons a X ih=>
  have e:nL (a::X)=(a:Int)::nL X:=rfl
  rw[e,List.count_cons,List.count_cons,ih]
  by_cases q:a=h
  ·subst q;simp
  ·have:¬((a:Int)=(h:Int)):=fun z=>q (by omega)
   have h1:((a:Int)==(h:Int))=false:=by simpa using this
   have h2:(a==h)=false:=by simpa using q
   rw[h1,h2]
section
variable {W:List (List Int)} {K X:List Nat}
abbrev Xx(W:List (List Int))(K X:List Nat)(x3:Option PV):ZP:=[some (wP W),some (pP (nL K)),some (pP (nL X)),x3]
def TH(W:List (List Int))(K:List Nat):PV:=.lst ((Yu (eW W) K).map fun k=>pP (V1 W k))
theorem M6(ok:Z7 W)(x3:Option PV):Zn 3 (Zw 2 [1] (VJ true [(Zc Yf [(Za 0)])]) (.many [0,1]) (xB (Zf (U5 true) (Za 0) (Za 2))) (eP (Za 1))) (Xx W K X x3)=some (.nx (Xx W K X (some (TH W K)))):=by
 have le:=(Vk ok).2
 have tv:Zc Yf [(Za 0)] (Xx W K X x3)=some (.lst ((Yr W).map pP)):=(Vk ok).1
 have en:VJ true [(Zc Yf [(Za 0)])] (Xx W K X x3)=some ((List.range (eW W).length).map fun(i:Nat)=>.tup [.int (i:Int),pP (V1 W i)]):=by
  rw[Qz,tv,Option.bind_some]
  show some (WN ((Yr W).map pP))=_
  rw[Sj,List.length_map,<-UP]
  congr 1
  refine List.map_congr_left fun i hi=>?_
  have hi':i<(Yr W).length:=by rw[<-UP];exact List.mem_range.mp hi
  unfold V1;simp[hi']
 have hc:Zw 2 [1] (VJ true [(Zc Yf [(Za 0)])]) (.many [0,1]) (xB (Zf (U5 true) (Za 0) (Za 2))) (eP (Za 1)) (Xx W K X x3)=some (TH W K):=by
  rw[Vd (List.range (eW W).length) (fun(i:Nat)=>.tup [.int (i:Int),pP (V1 W i)]) (fun i=>pP (V1 W i)) (fun k=>decide (k∉K)) en (by rw[List.length_range,UP];omega) (fun i hi=>⟨[some (.int (i:Int)),some (pP (V1 W i)),some (pP (nL K))],rfl,?_,fun _=>?_⟩)]
  ·rfl
  ·have gi:Zf (U5 true) (Za 0) (Za 2) [some (.int (i:Int)),some (pP (V1 W i)),some (pP (nL K))]=some (.bl (!decide ((i:Int)∈nL K))):=M5 true i (nL K)
   rw[Z3,gi]
   show some (!decide ((i:Int)∈nL K))=_
   congr 1
   by_cases q:i∈K
   ·rw[decide_eq_true (mem_nL.mpr q),decide_eq_false (fun z:i∉K=>z q)];rfl
   ·rw[decide_eq_false (fun z=>q (mem_nL.mp z)),decide_eq_true q];rfl
  ·show(some (pP (V1 W i))).bind _=_
   simp
 rw[Zl,hc];rfl
theorem Nd(hX:X.length<=100)(ok:Z7 W):UR (xB (Zf (Z8 true) (Zc Zq [(Za 2)]) (Zc Zq [(Za 3)]))) (YW (xB (Zc Vb [(Zw 2 [] (Rf false true [(Za 2),(Za 3)]) (.many [0,1]) ZG (Zf (U5 false) (Za 0) (Xl Yk (Za 1) XM (YZ (eC (.int 2))))))]))) (Xx W K X (some (TH W K)))=some (!brk W K X):=by
 have a:Zc Zq [(Za 2)] (Xx W K X (some (TH W K)))=some (.int (X.length:Int)):=by
  show some (PV.int ((iL (nL X)).length:Int))=_
  simp[nL]
 have b:Zc Zq [(Za 3)] (Xx W K X (some (TH W K)))=some (.int ((Yu (eW W) K).length:Int)):=by
  show some (PV.int (((Yu (eW W) K).map fun k=>pP (V1 W k)).length:Int))=_
  rw[List.length_map]
 have t:xB (Zf (Z8 true) (Zc Zq [(Za 2)]) (Zc Zq [(Za 3)])) (Xx W K X (some (TH W K)))=some (!decide (X.length=(Yu (eW W) K).length)):=by
  rw[Z3,ZI,a,b]
  show(Z8 true (.int (X.length:Int)) (.int ((Yu (eW W) K).length:Int))).bind SG=_
  rw[Xs]
  show some (!decide ((X.length:Int)=((Yu (eW W) K).length:Int)))=_
  rw[decide_eq_decide.mpr (Int.ofNat_inj (m:=X.length) (n:=(Yu (eW W) K).length))]
 rw[XD,t];unfold brk
 by_cases q:X.length=(Yu (eW W) K).length
 ·rw[decide_eq_true q]
  simp only[Option.bind_some,Bool.not_true,Bool.false_eq_true,if_false,Bool.true_and]
  have zp:Rf false true [(Za 2),(Za 3)] (Xx W K X (some (TH W K)))=some ((List.range X.length).map fun(i:Nat)=>.tup [.int ((X.getD i 0:Nat):Int),pP (V1 W ((Yu (eW W) K).getD i 0))]):=by
   show some (Q9 (iL (nL X)) ((Yu (eW W) K).map fun k=>pP (V1 W k)))=_
   rw[NJ _ _ (by simp[nL];exact q.symm)]
   have e:(iL (nL X)).length=X.length:=by simp[nL]
   rw[e]
   congr 1
   refine List.map_congr_left fun i hi=>?_
   have hi':=List.mem_range.mp hi
   have ho:i<(Yu (eW W) K).length:=by omega
   rw[Ho (nL X) i (by simpa [nL] using hi')]
   congr 3
   ·simp[nL,YJ,hi']
   ·simp[ho]
  have hc:Zw 2 [] (Rf false true [(Za 2),(Za 3)]) (.many [0,1]) ZG (Zf (U5 false) (Za 0) (Xl Yk (Za 1) XM (YZ (eC (.int 2))))) (Xx W K X (some (TH W K)))=some (.lst (((List.range X.length).map fun i=>RS W ((Yu (eW W) K).getD i 0) (X.getD i 0)).map PV.bl)):=by
   rw[Yd (List.range X.length) (fun(i:Nat)=>.tup [.int ((X.getD i 0:Nat):Int),pP (V1 W ((Yu (eW W) K).getD i 0))]) (fun i=>.bl (RS W ((Yu (eW W) K).getD i 0) (X.getD i 0))) zp (by simp;omega) (fun i hi=>⟨[some (.int ((X.getD i 0:Nat):Int)),some (pP (V1 W ((Yu (eW W) K).getD i 0)))],rfl,rfl,?_⟩),List.map_map]
   ·rfl
   ·have hi':=List.mem_range.mp hi
    have ho:i<(Yu (eW W) K).length:=by omega
    have hk:(Yu (eW W) K).getD i 0<(eW W).length:=by
     have:(Yu (eW W) K).getD i 0∈Yu (eW W) K:=by
      rw[List.getD_eq_getElem?_getD,List.getElem?_eq_getElem ho]
      exact List.getElem_mem ho
     exact List.mem_range.mp (List.mem_filter.mp this).1
    obtain⟨u,eu⟩:=Gd hk
    generalize (Yu (eW W) K).getD i 0=k at eu
    have sl:Xl Yk (Za 1) XM (YZ (eC (.int 2))) [some (.int ((X.getD i 0:Nat):Int)),some (pP (V1 W k))]=some (pP [((ZM (eW W) k).1:Int),((ZM (eW W) k).2:Int)]):=by
     show some (PV.tup (Xq (iL (V1 W k)) none (some ((2:Nat):Int))))=_
     rw[eu,PL _ (by simp)];rfl
    rw[ZI,sl]
    show U5 false (.int ((X.getD i 0:Nat):Int)) (pP [((ZM (eW W) k).1:Int),((ZM (eW W) k).2:Int)])=_
    rw[M5];rfl
  rw[XG,Z3,Zu,Zk,hc]
  show((Vb [.lst (((List.range X.length).map fun i=>RS W ((Yu (eW W) K).getD i 0) (X.getD i 0)).map PV.bl)]).bind SG).map _=_
  rw[NI];unfold Ih
  rw[List.all_map];rfl
 ·rw[decide_eq_false q];rfl
theorem Um(ok:Z7 W)(h31:∀k∈K,k<=31)(hl:K.length<=17)(x3:Option PV):YW (xB (Zc Yg [(Za 0),(Za 1)])) (Xx W K X x3)=some (!PZ W K):=by
 have:Zc Yg [(Za 0),(Za 1)] (Xx W K X x3)=some (.bl (PZ W K)):=Na ok h31 hl
 rw[XG,Z3,this];rfl
theorem M7{K:List Nat}(hK:∀k∈K,k<=31)(hl:K.length<=100):OF (pP (nL K))=true:=by
 show(match YH (iL (nL K)) with | some is=>decide (is.length<=100)&&is.all fun i=>decide (i.natAbs.log2<1920) | none=>false)=true
 rw[Y3];simp only[Bool.and_eq_true,decide_eq_true_eq,List.all_eq_true]
 refine⟨by simpa [nL] using hl,fun x hx=>?_⟩
 obtain⟨k,hk,rfl⟩:=List.mem_map.mp hx
 have:=hK k hk
 have h2:((k:Int)).natAbs=k:=by omega
 rw[h2]
 exact Nat.lt_of_le_of_lt (Nat.log2_le_self k) (by omega)
theorem Qc(ok:Z7 W)(h31:∀k∈K,k<=31)(hl:K.length<=17)(ht:PZ W K=false):YS [wP W,pP (nL K),pP (nL X)]=some ("NoTree" : PySem.Str):=by
 show Uq _ _ _ (Xx W K X none)=_
 unfold Uq
 have:LK (YW (xB (Zc Yg [(Za 0),(Za 1)]))) (WC "NoTree" (Za 1)) Nm (Xx W K X none)=some ("NoTree" : PySem.Str):=by
  unfold LK;rw[Um ok h31 hl,ht]
  show WC "NoTree" (Za 1) (Xx W K X none)=_
  unfold WC
  show(if OF (pP (nL K))=true then some ("NoTree" : PySem.Str) else none)=_
  rw[if_pos (M7 h31 (by omega))]
 rw[this]
theorem Uy(ok:Z7 W)(h31:∀k∈K,k<=31)(hl:K.length<=17)(ht:PZ W K=true)(hX:∀x∈X,x<=31)(lX:X.length<=100)(hb:brk W K X=false):YS [wP W,pP (nL K),pP (nL X)]=some ("NoEnds" : PySem.Str):=by
 have r1:LK (YW (xB (Zc Yg [(Za 0),(Za 1)]))) (WC "NoTree" (Za 1)) Nm (Xx W K X none)=none:=by
  unfold LK
  rw[Um ok h31 hl,ht];rfl
 have s1:Xc (YW (xB (Zc Yg [(Za 0),(Za 1)]))) WK ZH (Xx W K X none)=some (.nx (Xx W K X none)):=by
  rw[ZC,Um ok h31 hl,ht];rfl
 show Uq _ _ _ (Xx W K X none)=_
 unfold Uq;rw[r1,s1]
 show Uq Nm _ _ (Xx W K X none)=_
 unfold Uq;rw[M6 ok none]
 show(match LK _ (WC "NoEnds" (Za 2)) Nm (Xx W K X (some (TH W K))) with | some c=>some c | none=>_)=_
 have r2:LK (UR (xB (Zf (Z8 true) (Zc Zq [(Za 2)]) (Zc Zq [(Za 3)]))) (YW (xB (Zc Vb [(Zw 2 [] (Rf false true [(Za 2),(Za 3)]) (.many [0,1]) ZG (Zf (U5 false) (Za 0) (Xl Yk (Za 1) XM (YZ (eC (.int 2))))))])))) (WC "NoEnds" (Za 2)) Nm (Xx W K X (some (TH W K)))=some ("NoEnds" : PySem.Str):=by
  unfold LK;rw[Nd lX ok,hb]
  show WC "NoEnds" (Za 2) (Xx W K X (some (TH W K)))=_
  unfold WC
  show(if OF (pP (nL X))=true then some ("NoEnds" : PySem.Str) else none)=_
  rw[if_pos (M7 hX lX)]
 rw[r2]
theorem PU(ok:Z7 W)(h31:∀k∈K,k<=31)(hl:K.length<=17)(ht:PZ W K=true)(lX:X.length<=100)(hb:brk W K X=true):Y5 [wP W,pP (nL K),pP (nL X)]=some (pP (Yn W.length X)):=by
 have hf:=ok.few
 have s1:Xc (YW (xB (Zc Yg [(Za 0),(Za 1)]))) WK ZH (Xx W K X none)=some (.nx (Xx W K X none)):=by
  rw[ZC,Um ok h31 hl,ht];rfl
 show X5 4 Vf _=_
 unfold Vf
 show(Zm _ _ (Xx W K X none)).bind X1=_
 rw[Zz s1,Zz (M6 ok none),Zz (s1:=Xx W K X (some (TH W K))) (by rw[ZC,Nd lX ok,hb];rfl)]
 have l:Zc Zq [(Za 0)] (Xx W K X (some (TH W K)))=some (.int (W.length:Int)):=by
  show some (PV.int ((W.map pP).length:Int))=_
  rw[List.length_map]
 have hc:Zw 1 [2] (ZO [(Zc Zq [(Za 0)])]) (.one 0) ZG (Zf SI (Za 1) (Za 0)) (Xx W K X (some (TH W K)))=some (.lst (iL (Yn W.length X))):=by
  rw[Yd (List.range W.length) (fun(i:Nat)=>.int (i:Int)) (fun h=>.int ((X.count h:Nat):Int)) (Yp l (by omega)) (by simp;omega) (fun h hh=>⟨[some (.int (h:Int)),some (pP (nL X))],rfl,rfl,?_⟩)]
  ·unfold Yn
   rw[Ux]
  ·show(YH (iL (nL X))).map (fun ns=>PV.int ((ns.count (h:Int):Nat):Int))=_
   rw[Y3,Option.map_some,Ii]
 rw[Vs (v:=pP (Yn W.length X)) (by
  rw[Xg,Zu,Zk,hc]
  exact HX (s:=[]))]
 rfl
end
def W6:List (List Int):=(List.range 6).map fun(i:Nat)=>(List.range 6).map fun(j:Nat)=>if((i:Int)-(j:Int))%3=0 then(0:Int) else 1
theorem Ge:Tx []=some (wP W6):=by
 have inn:∀i:Nat,Zw 1 [0] (ZO [(eC (.int 6))]) (.one 0) ZG (Zc VG [(Zf (Z8 true) (Zf ZX (Zf Xd (Za 1) (Za 0)) (eC (.int 3))) (eC (.int 0)))]) [some (.int (i:Int))]=some (.lst (iL ((List.range 6).map fun(j:Nat)=>if((i:Int)-(j:Int))%3=0 then(0:Int) else 1))):=fun i=>by
  rw[Yd (List.range 6) (fun(j:Nat)=>.int (j:Int)) (fun j=>.int (if((i:Int)-(j:Int))%3=0 then(0:Int) else 1)) (Yp (n:=6) rfl (by omega)) (by simp) (fun j hj=>⟨[some (.int (j:Int)),some (.int (i:Int))],rfl,rfl,?_⟩)]
  ·rw[Ux]
  ·have a:Zf ZX (Zf Xd (Za 1) (Za 0)) (eC (.int 3)) [some (.int (j:Int)),some (.int (i:Int))]=some (.int (((i:Int)-(j:Int))%3)):=vC (C:=fun _ j=>0<j) (op:=(· % ·)) (vI (op:=(· - ·)) rfl rfl) rfl (by decide)
   have b:Zf (Z8 true) (Zf ZX (Zf Xd (Za 1) (Za 0)) (eC (.int 3))) (eC (.int 0)) [some (.int (j:Int)),some (.int (i:Int))]=some (.bl (!decide (((i:Int)-(j:Int))%3=0))):=by
    rw[ZI,a]
    show Z8 true (.int (((i:Int)-(j:Int))%3)) (.int 0)=_
    rw[Xs];rfl
   rw[Zu,Zk,b]
   by_cases q:((i:Int)-(j:Int))%3=0
   ·rw[decide_eq_true q,if_pos q];rfl
   ·rw[decide_eq_false q,if_neg q];rfl
 have hc:Zw 1 [] (ZO [(eC (.int 6))]) (.one 0) ZG (Zc Z2 [(Zw 1 [0] (ZO [(eC (.int 6))]) (.one 0) ZG (Zc VG [(Zf (Z8 true) (Zf ZX (Zf Xd (Za 1) (Za 0)) (eC (.int 3))) (eC (.int 0)))]))]) []=some (.lst (W6.map pP)):=by
  rw[Yd (List.range 6) (fun(j:Nat)=>.int (j:Int)) (fun i=>pP ((List.range 6).map fun(j:Nat)=>if((i:Int)-(j:Int))%3=0 then(0:Int) else 1)) (Yp (n:=6) rfl (by omega)) (by simp) (fun i hi=>⟨[some (.int (i:Int))],rfl,rfl,?_⟩)]
  ·unfold W6
   rw[List.map_map];rfl
  ·rw[Zu,Zk,inn];rfl
 show X5 0 SK _=_
 unfold SK
 show(ZY _ []).bind X1=_
 rw[Vs (v:=wP W6) (by
  rw[Xg,Zu,Zk,hc]
  show(if Z0 (wP W6)=true then some (wP W6) else none)=_
  rw[if_pos (by decide +kernel)])]
 rfl
theorem Dt:Z7 W6:=by
 have l:W6.length=6:=rfl
 have all:∀i,i<6->∀j,j<6->0<=Y1 W6 i j/\Y1 W6 i j<=9/\Y1 W6 i j=Y1 W6 j i:=by decide +kernel
 refine⟨by decide,by decide,by decide +kernel,fun i j hi hj=>?_,fun i j hi hj=>?_,fun i j hi hj=>?_,by decide +kernel⟩
 ·exact(all i (by rw[l] at hi;exact hi) j (by rw[l] at hj;exact hj)).1
 ·exact(all i (by rw[l] at hi;exact hi) j (by rw[l] at hj;exact hj)).2.1
 ·exact(all i (by rw[l] at hi;exact hi) j (by rw[l] at hj;exact hj)).2.2
theorem Gf:PF W6:=fun P h=>by
 have l:W6.length=6:=rfl
 have e:∀a b,a<6->b<6->0<Y1 W6 a b->(P a↔P b):=fun a b ha hb z=>h a b (by rw[l];exact ha) (by rw[l];exact hb) z
 have h1:=e 0 1 (by decide) (by decide) (by decide +kernel)
 have h2:=e 0 2 (by decide) (by decide) (by decide +kernel)
 have h4:=e 0 4 (by decide) (by decide) (by decide +kernel)
 have h5:=e 0 5 (by decide) (by decide) (by decide +kernel)
 have h3:=e 1 3 (by decide) (by decide) (by decide +kernel)
 have all:∀i,i<6->(P i↔P 0):=fun i hi=>by
  have:i=0\/i=1\/i=2\/i=3\/i=4\/i=5:=by omega
  rcases this with rfl | rfl | rfl | rfl | rfl | rfl
  ·exact Iff.rfl
  ·exact h1.symm
  ·exact h2.symm
  ·exact h3.symm.trans h1.symm
  ·exact h4.symm
  ·exact h5.symm
 exact fun i j hi hj=>(all i (by rw[l] at hi;exact hi)).trans (all j (by rw[l] at hj;exact hj)).symm
theorem Ij{ns:List Int}(hns:ns.length<=63):∃W,Ui [.cst (iL ns),YD,.int 8]=some (wP W)/\Z7 W/\PF W/\(eW W).length<=12:=by
 obtain⟨v,hv,ev⟩:=Z6 (YJ ns 0) (t:=337) (m:=16) (by omega) (by omega)
 let s0:ZP:=[some (.cst (iL ns)),some YD,some (.int 8),none,none,none,none,none,none,none,none,none]
 have t:xB (Zf (Z8 false) (Zc Zj [(Zc ZQ [(Za 0),(eC (.int 0))]),(eC (.int 337)),(eC (.int 16))]) (eC (.int 3))) s0=some (decide (v=3)):=by
  have a:Zc ZQ [(Za 0),(eC (.int 0))] s0=some (.int (YJ ns 0)):=Tz hns 0
  have b:Zc Zj [(Zc ZQ [(Za 0),(eC (.int 0))]),(eC (.int 337)),(eC (.int 16))] s0=some (.int (v:Int)):=by
   rw[Zu,Zk,a];exact ev
  rw[Z3,ZI,b]
  show(Z8 false (.int (v:Int)) (.int 3)).bind SG=_
  rw[Xs]
  show some (decide ((v:Int)=3))=_
  congr 1
  exact decide_eq_decide.mpr (by omega)
 by_cases q:v=3
 ·refine⟨W6,?_,Dt,Gf,by decide +kernel⟩
  show X5 12 Uh _=_
  unfold Uh
  show(Zm _ _ s0).bind X1=_
  rw[Sy (v:=wP W6)]
  ·rfl
  ·rw[ZC,t,decide_eq_true q,Option.bind_some,if_pos rfl]
   exact Vs (show Zc Tx [] s0=some (wP W6) from Ge)
 ·obtain⟨W,ew,ok,cn,_,h8⟩:=J7 hns
  refine⟨W,?_,ok,cn,by rw[UP];omega⟩
  show X5 12 Uh _=_
  unfold Uh
  show(Zm _ _ s0).bind X1=_
  rw[Zz (s1:=s0) (by rw[ZC,t,decide_eq_false q];rfl)]
  exact ew
theorem Nf{E:List Yt}{F K:List Nat}(pm:K.Perm F):Yu E K=Yu E F:=by
 unfold Yu
 refine List.filter_congr fun k _=>?_
 exact decide_eq_decide.mpr (not_congr pm.mem_iff)
theorem Kk(β:Nat->Bool)(S:List Yt){i:Nat}(hi:i<S.length):(X8 β 0 S).getD i 0=RL β i (S.getD i (0,0)):=by
 rw[<-V0 β S 0];simp[hi]
theorem Ik{W:List (List Int)}{F:List Nat}(β:Nat->Bool):brk W (Vt F) (X8 β 0 (Wb W F))=true:=by
 have eo:Yu (eW W) (Vt F)=Yu (eW W) F:=Nf (W0 F)
 have lx:(X8 β 0 (Wb W F)).length=(Yu (eW W) F).length:=by
  rw[Sb];unfold Wb;rw[List.length_map]
 unfold brk;rw[eo,lx,decide_eq_true rfl,Bool.true_and];unfold Ih;rw[lx]
 refine List.all_eq_true.mpr fun i hi=>?_
 have hi:=List.mem_range.mp hi
 have hS:i<(Wb W F).length:=by unfold Wb;rw[List.length_map];exact hi
 rw[Kk β _ hS]
 have e:(Wb W F).getD i (0,0)=ZM (eW W) ((Yu (eW W) F).getD i 0):=by
  unfold Wb;simp[hi]
 rw[e];unfold RS RL
 refine decide_eq_true ?_
 split<;>simp
theorem RT{tb:PySem.Str->Option Bool}{s:ZP}{n:PySem.Str}{b:Bool}(h:s[3]?=some (some (.exc n)))(e:tb n=some b):Wj tb (Za 3) s=some (.bl b):=by
 unfold Wj
 have e1:Za 3 s=some (.exc n):=by unfold Za;rw[h];rfl
 rw[e1]
 show(tb n).map PV.bl=_
 rw[e];rfl
theorem Gg{f g:XS}{s:ZP}{o:Out}(h:f s=some o):Dd f g s=some o:=by
 unfold Dd;rw[h]
theorem QR{W:List (List Int)}{K X:List Nat}{c:PySem.Str}{b1 b2:Bool}(h:YS [wP W,pP (nL K),pP (nL X)]=some c)
  (h1:L4 c=some true) (h2:R7 (["Apart","NoName","NoOrder","NoRow","NoText"]:List PySem.Str) c=some false) (h3:R7 (["NoTotal","NoWeb","NotSettled","TooMany"]:List PySem.Str) c=some false)
  (h4:Ip "NoTree" c=some b1) (h5:Ip "NoEnds" c=some b2):Z5 [wP W,pP (nL K),pP (nL X)]=some (.lst [.bl b1,.bl b2]):=by
 let s:ZP:=[some (wP W),some (pP (nL K)),some (pP (nL X)),none]
 let s2:ZP:=[some (wP W),some (pP (nL K)),some (pP (nL X)),some (.exc c)]
 have ea:UZ [(Za 0),(Za 1),(Za 2)] s=some [wP W,pP (nL K),pP (nL X)]:=rfl
 have q:s2[3]?=some (some (.exc c)):=rfl
 have sub:(Zm (Xc (UR (YW (xB (Wj L4 (Za 3)))) (xB (Wj (R7 (["Apart","NoName","NoOrder","NoRow","NoText"]:List PySem.Str)) (Za 3)))) (ZY (YC [(eP (eC (.str "bad")))])) ZH) (Zm (Xc (xB (Wj (R7 (["NoTotal","NoWeb","NotSettled","TooMany"]:List PySem.Str)) (Za 3))) (ZY (YC [(eP (eC (.str "bad")))])) ZH) (ZY (YC [(eP (Wj (Ip "NoTree") (Za 3))),(eP (Wj (Ip "NoEnds") (Za 3)))])))) s2=some (.rt (.lst [.bl b1,.bl b2])):=by
  have t1:UR (YW (xB (Wj L4 (Za 3)))) (xB (Wj (R7 (["Apart","NoName","NoOrder","NoRow","NoText"]:List PySem.Str)) (Za 3))) s2=some false:=by
   simp[UR,YW,xB,RT q h1,RT q h2]
  have t2:xB (Wj (R7 (["NoTotal","NoWeb","NotSettled","TooMany"]:List PySem.Str)) (Za 3)) s2=some false:=by
   simp[xB,RT q h3]
  have t3:YC [(eP (Wj (Ip "NoTree") (Za 3))),(eP (Wj (Ip "NoEnds") (Za 3)))] s2=some (.lst [.bl b1,.bl b2]):=by
   simp[YC,UZ,eP,RT q h4,RT q h5,Z0]
  rw[Zz (s1:=s2) (by rw[ZC,t1];rfl),Zz (s1:=s2) (by rw[ZC,t2];rfl),Vs t3]
 show X5 4 Vh _=_
 unfold Vh
 show(Zm _ _ s).bind X1=_
 rw[Sy (v:=.lst [.bl b1,.bl b2])]
 ·rfl
 ·refine Gg ?_
  unfold Hz;rw[ea,Option.bind_some,h,Option.bind_some]
  show Option.map (GJ 3) (Zm _ _ s2)=_
  rw[sub];rfl
theorem Ng{W:List (List Int)}{K X:List Nat}(h:YS [wP W,pP (nL K),pP (nL X)]=some ("NoTree" : PySem.Str)):Z5 [wP W,pP (nL K),pP (nL X)]=some (.lst [.bl true,.bl false]):=
 QR h (by decide +kernel) (by decide +kernel) (by decide +kernel) (by decide +kernel) (by decide +kernel)
theorem So{W:List (List Int)}{K X:List Nat}(h:YS [wP W,pP (nL K),pP (nL X)]=some ("NoEnds" : PySem.Str)):Z5 [wP W,pP (nL K),pP (nL X)]=some (.lst [.bl false,.bl true]):=
 QR h (by decide +kernel) (by decide +kernel) (by decide +kernel) (by decide +kernel) (by decide +kernel)
theorem Gh{K:List Nat}{p:Nat}(h:p<=K.length):Yk (pP (nL K)) none (some (p:Int))=some (pP (nL (K.take p))):=by
 show some (PV.tup (Xq (iL (nL K)) none (some (p:Int))))=_
 rw[PL _ (by simpa [nL] using h)]
 show some (PV.tup (((K.map fun(i:Nat)=>(i:Int)).map PV.int).take p))=some (PV.tup (((K.take p).map fun(i:Nat)=>(i:Int)).map PV.int))
 rw[List.map_take,List.map_take]
theorem Gi{K:List Nat}{p:Nat}:Yk (pP (nL K)) (some (p:Int)) none=some (pP (nL (K.drop p))):=by
 show some (PV.tup (Xq (iL (nL K)) (some (p:Int)) none))=_
 have e:Xq (iL (nL K)) (some (p:Int)) none=(iL (nL K)).drop p:=by
  by_cases h:p<=(iL (nL K)).length
  ·exact M1 _ h
  ·have h':(iL (nL K)).length<=p:=by omega
   unfold Xq;rw[HT.sIx_nat,HT.sIx_none,Nat.min_eq_right h',List.drop_of_length_le (Nat.le_refl _),List.drop_of_length_le h',List.take_nil]
 rw[e]
 show some (PV.tup (((K.map fun(i:Nat)=>(i:Int)).map PV.int).drop p))=some (PV.tup (((K.drop p).map fun(i:Nat)=>(i:Int)).map PV.int))
 rw[List.map_drop,List.map_drop]
theorem Ek{A B:List Nat}(h:A.length+B.length<=10000):Xi (pP (nL A)) (pP (nL B))=some (pP (nL (A++B))):=by
 show(if(iL (nL A)).length+(iL (nL B)).length<=10000 then some (PV.tup (iL (nL A)++iL (nL B))) else none)=_
 rw[if_pos (by simpa [nL] using h)]
 show some (PV.tup ((A.map fun(i:Nat)=>(i:Int)).map PV.int++(B.map fun(i:Nat)=>(i:Int)).map PV.int))=some (PV.tup (((A++B).map fun(i:Nat)=>(i:Int)).map PV.int))
 rw[List.map_append,List.map_append]
theorem Il{F:List Nat}(h:F.length<64):XI [pP (nL F)]=some (.lst (iL (nL (Vt F)))):=by
 show(YH (iL (nL F))).bind (fun ns=>if ns.length<64 then some (PV.lst (iL (sortI ns))) else none)=_
 rw[Y3,Option.bind_some,if_pos (by simpa [nL] using h),SR]
theorem El(F:List Nat):OO (pP (nL F))=some (pP (nL F.reverse)):=by
 show(if ZJ (iL (nL F))=true then some (PV.tup (iL (nL F)).reverse) else none)=_
 rw[if_pos (Yv _)]
 show some (PV.tup ((F.map fun(i:Nat)=>(i:Int)).map PV.int).reverse)=some (PV.tup ((F.reverse.map fun(i:Nat)=>(i:Int)).map PV.int))
 rw[List.map_reverse,List.map_reverse]
theorem Gj(F:List Int):Z0 (pP F)=true:=by simp
theorem QS{f:XE}{s:ZP}{F:List Int}(h:f s=some (pP F)):eP f s=some (pP F):=by
 rw[Xg,h,Option.bind_some,if_pos (Gj F)]
theorem Mi{f g:XE}{s:ZP}{K:List Nat}{p:Nat}(hf:f s=some (pP (nL K)))(hg:g s=some (.int (p:Int)))(h:p<=K.length):Xl Yk f XM (YZ g) s=some (pP (nL (K.take p))):=by
 rw[MK,hf]
 have:YZ g s=some (some (p:Int)):=by unfold YZ;rw[hg]
 rw[this]
 exact Gh h
theorem RU{f g:XE}{s:ZP}{K:List Nat}{p:Nat}(hf:f s=some (pP (nL K)))(hg:g s=some (.int (p:Int))):Xl Yk f (YZ g) XM s=some (pP (nL (K.drop p))):=by
 rw[MK,hf]
 have:YZ g s=some (some (p:Int)):=by unfold YZ;rw[hg]
 rw[this];exact Gi
theorem V2{f g:XE}{s:ZP}{A B:List Nat}(hf:f s=some (pP (nL A)))(hg:g s=some (pP (nL B)))(h:A.length+B.length<=10000):Zf Xi f g s=some (pP (nL (A++B))):=by
 rw[ZI,hf,hg]
 exact Ek h
theorem Mj{f:XE}{s:ZP}{p:Nat}(hf:f s=some (.int (p:Int))):Xh [f] s=some (pP (nL [p])):=by
 show(UZ _ _).map PV.tup=_
 rw[Zk,hf];rfl
theorem Im{f:XE}{s:ZP}{F:List Nat}(hf:f s=some (pP (nL F)))(h:F.length<64):Zc Z2 [(Zc XI [f])] s=some (pP (nL (Vt F))):=by
 have a:Zc XI [f] s=some (.lst (iL (nL (Vt F)))):=by
  rw[Zu,Zk,hf];exact Il h
 rw[Zu,Zk,a];rfl
theorem PX{F:List Nat}{m:Nat}(h:∀k∈F,k<=m):∀k∈Vt F,k<=m:=fun k hk=>h k ((W0 F).mem_iff.mp hk)
theorem RV(F:List Nat):(Vt F).length=F.length:=(W0 F).length_eq
theorem Kl{W:List (List Int)}(ok:Z7 W)(h12:(eW W).length<=12){K:List Nat}(hK:∀k∈K,k<=31)(hl:K.length<=7)(c:Int) :
  ∃K':List Nat,Xu [wP W,pP (nL K),.int c]=some (pP (nL K'))/\(∀k∈K',k<=31)/\K'.length<=17:=by
 let st:Option PV->Option PV->Option PV->ZP:=fun x3 x4 x5=>[some (wP W),some (pP (nL K)),some (.int c),x3,x4,x5]
 obtain⟨w,hw,ew⟩:=Z6 c (t:=67) (m:=4) (by omega) (by omega)
 obtain⟨p,hp,ep⟩:=Z6 c (t:=71) (m:=K.length+1) (by omega) (by omega)
 obtain⟨a,ha,ea⟩:=Z6 c (t:=73) (m:=(eW W).length+1) (by omega) (by omega)
 obtain⟨b,hb,eb⟩:=Z6 c (t:=79) (m:=(eW W).length+1) (by omega) (by omega)
 let n:PV:=.int ((eW W).length:Int)
 have e1:Zn 3 (eP (Zc Zq [(Zc Z4 [(Za 0)])])) (st none none none)=some (.nx (st (some n) none none)):=by
  have a1:Zc Z4 [(Za 0)] (st none none none)=some (.lst ((eW W).map Ym)):=(WZ ok).1
  have a2:Zc Zq [(Zc Z4 [(Za 0)])] (st none none none)=some n:=by
   rw[Zu,Zk,a1]
   show some (PV.int (((eW W).map Ym).length:Int))=_
   rw[List.length_map]
  rw[Zl,vP a2];rfl
 have e2:Zn 4 (Zc Zj [(Za 2),(eC (.int 67)),(eC (.int 4))]) (st (some n) none none)=some (.nx (st (some n) (some (.int (w:Int))) none)):=by
  have:Zc Zj [(Za 2),(eC (.int 67)),(eC (.int 4))] (st (some n) none none)=some (.int (w:Int)):=ew
  rw[Zl,this];rfl
 let s:ZP:=st (some n) (some (.int (w:Int))) (some (.int (p:Int)))
 have e3:Zn 5 (Zc Zj [(Za 2),(eC (.int 71)),(Zf ZD (Zc Zq [(Za 1)]) (eC (.int 1)))]) (st (some n) (some (.int (w:Int))) none)=some (.nx s):=by
  have a1:Zc Zq [(Za 1)] (st (some n) (some (.int (w:Int))) none)=some (.int (K.length:Int)):=by
   show some (PV.int ((iL (nL K)).length:Int))=_
   simp[nL]
  have a2:Zf ZD (Zc Zq [(Za 1)]) (eC (.int 1)) (st (some n) (some (.int (w:Int))) none)=some (.int ((K.length+1:Nat):Int)):=by
   have:=vI (op:=(· + ·)) a1 (show eC (.int 1) (st (some n) (some (.int (w:Int))) none)=some (.int 1) from rfl)
   rw[show((K.length+1:Nat):Int)=(K.length:Int)+1 by omega];exact this
  have:Zc Zj [(Za 2),(eC (.int 71)),(Zf ZD (Zc Zq [(Za 1)]) (eC (.int 1)))] (st (some n) (some (.int (w:Int))) none)=some (.int (p:Int)):=by
   rw[Zu,Zk,Zk,Zk,a2];exact ep
  rw[Zl,this];rfl
 have tst:∀j:Nat,xB (Zf (Z8 false) (Za 4) (eC (.int (j:Int)))) s=some (decide (w=j)):=fun j=>by
  show(Z8 false (.int (w:Int)) (.int (j:Int))).bind SG=_
  rw[Xs]
  show some (decide ((w:Int)=(j:Int)))=_
  rw[decide_eq_decide.mpr (Int.ofNat_inj (m:=w) (n:=j))]
 have n1:Zf ZD (Za 3) (eC (.int 1)) s=some (.int (((eW W).length+1:Nat):Int)):=by
  have:=vI (op:=(· + ·)) (show Za 3 s=some (.int ((eW W).length:Int)) from rfl) (show eC (.int 1) s=some (.int 1) from rfl)
  rw[show(((eW W).length+1:Nat):Int)=((eW W).length:Int)+1 by omega];exact this
 have p1:Zf ZD (Za 5) (eC (.int 1)) s=some (.int ((p+1:Nat):Int)):=by
  have:=vI (op:=(· + ·)) (show Za 5 s=some (.int (p:Int)) from rfl) (show eC (.int 1) s=some (.int 1) from rfl)
  rw[show((p+1:Nat):Int)=(p:Int)+1 by omega];exact this
 have k1:Za 1 s=some (pP (nL K)):=rfl
 have c1:Xl Yk (Za 1) XM (YZ (Za 5)) s=some (pP (nL (K.take p))):=Mi k1 rfl (by omega)
 have c2:Xl Yk (Za 1) (YZ (Zf ZD (Za 5) (eC (.int 1)))) XM s=some (pP (nL (K.drop (p+1)))):=RU k1 p1
 have pa:Zc Zj [(Za 2),(eC (.int 73)),(Zf ZD (Za 3) (eC (.int 1)))] s=some (.int (a:Int)):=by
  rw[Zu,Zk,Zk,Zk,n1];exact ea
 have pb:Zc Zj [(Za 2),(eC (.int 79)),(Zf ZD (Za 3) (eC (.int 1)))] s=some (.int (b:Int)):=by
  rw[Zu,Zk,Zk,Zk,n1];exact eb
 have lt:(K.take p).length<=7:=by rw[List.length_take];omega
 have ld:(K.drop (p+1)).length<=7:=by rw[List.length_drop];omega
 have v0:=QS (V2 c1 c2 (by omega))
 have v1:=QS (Im (V2 (V2 c1 (Mj pa) (by simp;omega)) c2 (by simp;omega)) (by simp;omega))
 have v2:=QS (Im (V2 k1 (Mj pb) (by simp;omega)) (by simp;omega))
 have v3:eP (Uo OO (Za 1)) s=some (pP (nL K.reverse)):=QS (by rw[Hj,k1];exact El K)
 have it:∀k∈K.take p,k<=31:=fun k hk=>hK k (List.mem_of_mem_take hk)
 have id':∀k∈K.drop (p+1),k<=31:=fun k hk=>hK k (List.mem_of_mem_drop hk)
 have run:∀v,Zm (Xc (xB (Zf (Z8 false) (Za 4) (eC (.int 0)))) (ZY (eP (Zf Xi (Xl Yk (Za 1) XM (YZ (Za 5))) (Xl Yk (Za 1) (YZ (Zf ZD (Za 5) (eC (.int 1)))) XM)))) ZH)
  (Zm (Xc (xB (Zf (Z8 false) (Za 4) (eC (.int 1)))) (ZY (eP (Zc Z2 [(Zc XI [(Zf Xi (Zf Xi (Xl Yk (Za 1) XM (YZ (Za 5))) (Xh [(Zc Zj [(Za 2),(eC (.int 73)),(Zf ZD (Za 3) (eC (.int 1)))])])) (Xl Yk (Za 1) (YZ (Zf ZD (Za 5) (eC (.int 1)))) XM))])]))) ZH)
  (Zm (Xc (xB (Zf (Z8 false) (Za 4) (eC (.int 2)))) (ZY (eP (Zc Z2 [(Zc XI [(Zf Xi (Za 1) (Xh [(Zc Zj [(Za 2),(eC (.int 79)),(Zf ZD (Za 3) (eC (.int 1)))])]))])]))) ZH)
  (ZY (eP (Uo OO (Za 1)))))) s=some (.rt v)->Xu [wP W,pP (nL K),.int c]=some v:=fun v h=>by
  show X5 6 Vg _=_
  unfold Vg
  show(Zm _ _ (st none none none)).bind X1=_
  rw[Zz e1,Zz e2,Zz e3,h];rfl
 have no:∀(j:Nat){f:XS},w≠j->Xc (xB (Zf (Z8 false) (Za 4) (eC (.int (j:Int))))) f ZH s=some (.nx s):=fun j f h=>by
  rw[ZC,tst,decide_eq_false h];rfl
 have yes:∀(j:Nat){f:XE}{v:PV},w=j->f s=some v->Xc (xB (Zf (Z8 false) (Za 4) (eC (.int (j:Int))))) (ZY f) ZH s=some (.rt v):=fun j f v h e=>by
  rw[ZC,tst,decide_eq_true h,Option.bind_some,if_pos rfl,Vs e]
 by_cases w0:w=0
 ·refine⟨_,run _ (Sy (yes 0 w0 v0)),fun k hk=>?_,by rw[List.length_append];omega⟩
  rcases List.mem_append.mp hk with z | z
  ·exact it k z
  ·exact id' k z
 ·by_cases w1:w=1
  ·refine⟨_,run _ ((Zz (no 0 w0)).trans (Sy (yes 1 w1 v1))),PX fun k hk=>?_,by rw[RV];simp;omega⟩
   rcases List.mem_append.mp hk with z | z
   ·rcases List.mem_append.mp z with z | z
    ·exact it k z
    ·rw[List.mem_singleton.mp z];omega
   ·exact id' k z
  ·by_cases w2:w=2
   ·refine⟨_,run _ ((Zz (no 0 w0)).trans ((Zz (no 1 w1)).trans (Sy (yes 2 w2 v2)))),PX fun k hk=>?_,by rw[RV];simp;omega⟩
    rcases List.mem_append.mp hk with z | z
    ·exact hK k z
    ·rw[List.mem_singleton.mp z];omega
   ·exact⟨_,run _ ((Zz (no 0 w0)).trans ((Zz (no 1 w1)).trans ((Zz (no 2 w2)).trans (Vs v3)))),fun k hk=>hK k (List.mem_reverse.mp hk),by rw[List.length_reverse];omega⟩
theorem Gk{W:List (List Int)}{K X:List Nat}(h:X.length≠(Yu (eW W) K).length):brk W K X=false:=by
 unfold brk
 rw[decide_eq_false h];rfl
theorem Gm{W:List (List Int)}{K X:List Nat}{p h:Nat}(hp:p<X.length)(hX:X.getD p 0=h)(ho:RS W ((Yu (eW W) K).getD p 0) h=false):brk W K X=false:=by
 unfold brk
 have:Ih W (Yu (eW W) K) X=false:=by
  unfold Ih;rw[List.all_eq_false]
  exact⟨p,List.mem_range.mpr hp,by rw[hX,ho];exact Bool.false_ne_true⟩
 rw[this,Bool.and_false]
theorem Nh{l:List Int}{n:Nat}(h:l.length=n)(hn:n<=1000):Xt [pP l,.int (n:Int)]=some (.bl true):=by
 have c1:Zc VH [(Za 0),(eC (.ty "tuple"))] [some (pP l),some (.int (n:Int))]=some (.bl true):=by simp
 have c2:Zf (Z8 true) (Zc Zq [(Za 0)]) (Za 1) [some (pP l),some (.int (n:Int))]=some (.bl false):=by
  have:Zc Zq [(Za 0)] [some (pP l),some (.int (n:Int))]=some (.int (n:Int)):=by
   show some (PV.int ((iL l).length:Int))=_
   rw[List.length_map,h]
  rw[ZI,this]
  show Z8 true (.int (n:Int)) (.int (n:Int))=_
  simp
 have e1:Xc (UR (YW (xB (Zc VH [(Za 0),(eC (.ty "tuple"))]))) (xB (Zf (Z8 true) (Zc Zq [(Za 0)]) (Za 1)))) (ZY (eP (eC (.bl false)))) ZH [some (pP l),some (.int (n:Int))]=some (.nx [some (pP l),some (.int (n:Int))]):=by
  rw[ZC,XD,XG,Z3,c1];simp only[Option.bind_some,Jj,Option.map_some,Bool.not_true,Bool.false_eq_true,if_false]
  rw[Z3,c2];rfl
 have hc:Zw 1 [] (WI (Za 0)) (.one 0) ZG (Zc Wm [(Za 0)]) [some (pP l),some (.int (n:Int))]=some (.lst ((l.map fun _=>true).map PV.bl)):=by
  rw[Yd l PV.int (fun _=>.bl true) (Ou (by simp)) (by omega) (fun i hi=>⟨_,rfl,rfl,by simp[Yl,JV]⟩),List.map_map]
  rfl
 show X5 2 Ve _=_
 unfold Ve
 show(Zm _ _ [some (pP l),some (.int (n:Int))]).bind X1=_
 rw[Zz e1,Vs (v:=.bl true) (by
  rw[Xg,Zu,Zk,hc]
  show(Option.bind (Vb [.lst ((l.map fun _=>true).map PV.bl)]) fun l=>if Z0 l=true then some l else none)=_
  rw[NI]
  simp)]
 rfl
theorem Em(F:List Nat):(nL F).length=F.length:=by simp[nL]
theorem Ni{n a b:Nat}(hn:2<n):∃h r,(List.range n).filter (fun k=>decide (k≠a/\k≠b))=h::r/\h<n/\h≠a/\h≠b:=by
 have:∃k,k<3/\k≠a/\k≠b:=by
  by_cases h0:0≠a/\0≠b
  ·exact⟨0,by omega,h0⟩
  ·by_cases h1:1≠a/\1≠b
   ·exact⟨1,by omega,h1⟩
   ·exact⟨2,by omega,by omega,by omega⟩
 obtain⟨k,hk,h1,h2⟩:=this
 have hm:k∈(List.range n).filter (fun k=>decide (k≠a/\k≠b)):=List.mem_filter.mpr ⟨List.mem_range.mpr (by omega),decide_eq_true ⟨h1,h2⟩⟩
 cases e:(List.range n).filter (fun k=>decide (k≠a/\k≠b)) with
 | nil=>rw[e] at hm;cases hm
 | cons h r=>
  have:h∈(List.range n).filter (fun k=>decide (k≠a/\k≠b)):=by rw[e];simp
  obtain⟨m1,m2⟩:=List.mem_filter.mp this
  have m2:=of_decide_eq_true m2
  exact⟨h,r,rfl,List.mem_range.mp m1,m2.1,m2.2⟩
theorem Mk{W:List (List Int)}(ok:Z7 W)(cn:PF W)(h12:(eW W).length<=12)(c:Int):Uk [wP W,.int c]=some (.bl true):=by
 have hf:=ok.few
 obtain⟨m,F,et,tr⟩:=Kg ok c
 let K:=Vt F
 rw[<-SR] at et
 have sm:∀k:Nat,(k:Int)∈nL K↔k∈F:=fun k=>by
  show(k:Int)∈nL (Vt F)↔_
  rw[SR]
  exact((sortI_perm (nL F)).mem_iff).trans mem_nL
 obtain⟨β,ee⟩:=Kh ok (F:=F) (T:=nL K) sm c
 let X:=X8 β 0 (Wb W F)
 have hX:∀x∈X,x<W.length:=OX Ga
 have eo:Yu (eW W) K=Yu (eW W) F:=Nf (W0 F)
 have lX:X.length=(Yu (eW W) K).length:=by
  show(X8 β 0 (Wb W F)).length=_
  rw[Sb,eo];unfold Wb;rw[List.length_map]
 have oE:(Wb W F).length=X.length:=by rw[lX,eo];unfold Wb;rw[List.length_map]
 have lX12:X.length<=12:=by
  have:=O6 (W:=W) (F:=F)
  omega
 have hK31:∀k∈K,k<=31:=PX fun k hk=>by
  have:=tr.inn k (by simpa using hk)
  omega
 have lK:K.length<=7:=by
  show(Vt F).length<=7
  rw[RV]
  have:=RQ tr
  omega
 have hT:PZ W K=true:=Ig ok cn tr
 have hbk:brk W K X=true:=Ik β
 obtain⟨B,eB,hB,lB⟩:=Kl ok h12 hK31 lK c
 obtain⟨bt,eb,hbt⟩:=Qb ok hB lB
 let st:Option PV->Option PV->Option PV->Option PV->Option PV->Option PV->Option PV->ZP:=fun x2 x3 x4 x5 x6 x7 x8=>[some (wP W),some (.int c),x2,x3,x4,x5,x6,x7,x8]
 let T':=some (pP (nL K))
 let X':=some (pP (nL X))
 let C':=some (pP (Yn W.length X))
 let B':=some (pP (nL B))
 have q2:Zn 2 (Zc WS [(Za 0),(Za 1)]) (st none none none none none none none)=some (.nx (st T' none none none none none none)):=by
  have:Zc WS [(Za 0),(Za 1)] (st none none none none none none none)=some (pP (nL K)):=et
  rw[Zl,this];rfl
 have q3:Zn 3 (Zc WU [(Za 0),(Za 2),(Za 1)]) (st T' none none none none none none)=some (.nx (st T' X' none none none none none)):=by
  have:Zc WU [(Za 0),(Za 2),(Za 1)] (st T' none none none none none none)=some (pP (nL X)):=ee
  rw[Zl,this];rfl
 have q4:Zn 4 (Zc Y5 [(Za 0),(Za 2),(Za 3)]) (st T' X' none none none none none)=some (.nx (st T' X' C' none none none none)):=by
  have:Zc Y5 [(Za 0),(Za 2),(Za 3)] (st T' X' none none none none none)=some (pP (Yn W.length X)):=PU ok hK31 (by omega) hT (by omega) hbk
  rw[Zl,this];rfl
 have lenW:∀s:ZP,s[0]?=some (some (wP W))->Zc Zq [(Za 0)] s=some (.int (W.length:Int)):=fun s h=>by
  have a:Za 0 s=some (wP W):=by unfold Za;rw[h];rfl
  rw[Zu,Zk,a]
  show some (PV.int ((W.map pP).length:Int))=_
  rw[List.length_map]
 have lenX:∀s:ZP,s[3]?=some X'->Zc Zq [(Za 3)] s=some (.int (X.length:Int)):=fun s h=>by
  have a:Za 3 s=some (pP (nL X)):=by unfold Za;rw[h];rfl
  rw[Zu,Zk,a]
  show some (PV.int ((iL (nL X)).length:Int))=_
  rw[List.length_map,Em]
 have q5:Xc (UR (YW (xB (Zc Xt [(Za 4),(Zc Zq [(Za 0)])]))) (xB (Zf (Z8 true) (Za 4) (Zc X2 [(Za 0),(Za 3)])))) (ZY (eP (eC (.bl false)))) ZH (st T' X' C' none none none none)=some (.nx (st T' X' C' none none none none)):=by
  have a1:Zc Xt [(Za 4),(Zc Zq [(Za 0)])] (st T' X' C' none none none none)=some (.bl true):=by
   rw[Zu,Zk,Zk,lenW _ rfl]
   exact Nh (UQ _ _) (by omega)
  have a2:Zc X2 [(Za 0),(Za 3)] (st T' X' C' none none none none)=some (pP (Yn W.length X)):=Mh ok hX
  have t1:YW (xB (Zc Xt [(Za 4),(Zc Zq [(Za 0)])])) (st T' X' C' none none none none)=some false:=by
   rw[XG,Z3,a1];rfl
  have t2:xB (Zf (Z8 true) (Za 4) (Zc X2 [(Za 0),(Za 3)])) (st T' X' C' none none none none)=some false:=by
   rw[Z3,ZI,a2]
   show(Z8 true (.tup ((Yn W.length X).map PV.int)) (.tup ((Yn W.length X).map PV.int))).bind SG=_
   rw[FU];simp
  rw[ZC,XD,t1];simp only[Option.bind_some,Bool.false_eq_true,if_false]
  rw[t2];rfl
 have q6:Zn 5 (Zc Xu [(Za 0),(Za 2),(Za 1)]) (st T' X' C' none none none none)=some (.nx (st T' X' C' B' none none none)):=by
  have:Zc Xu [(Za 0),(Za 2),(Za 1)] (st T' X' C' none none none none)=some (pP (nL B)):=eB
  rw[Zl,this];rfl
 have q7:Zn 6 (eP (Zf Xi (Za 3) (Xh [(eC (.int 0))]))) (st T' X' C' B' none none none)=some (.nx (st T' X' C' B' (some (pP (nL (X++[0])))) none none)):=by
  have:=QS (V2 (f:=Za 3) (g:=Xh [(eC (.int 0))]) (s:=st T' X' C' B' none none none) (A:=X) (B:=[0]) rfl rfl (by simp;omega))
  rw[Zl,this];rfl
 -- ends that are one too many or one too few
 have q8:∃(Y:List Nat) (x7:Option PV),Xc (R1 (xB (Zf (Z8 false) (Zc Zj [(Za 1),(eC (.int 83)),(eC (.int 2))]) (eC (.int 0)))) (xB (Zf UH (Zc Zq [(Za 3)]) (eC (.int 0))))) (Zm (Zn 7 (Zc Zj [(Za 1),(eC (.int 89)),(Zc Zq [(Za 3)])]))
  (Zn 6 (eP (Zf Xi (Xl Yk (Za 3) XM (YZ (Za 7))) (Xl Yk (Za 3) (YZ (Zf ZD (Za 7) (eC (.int 1)))) XM))))) ZH (st T' X' C' B' (some (pP (nL (X++[0])))) none none)=some (.nx (st T' X' C' B' (some (pP (nL Y))) x7 none))/\Y.length≠X.length/\Y.length<=13/\∀y∈Y,y<=31:=by
  obtain⟨w,hw,ew⟩:=Z6 c (t:=83) (m:=2) (by omega) (by omega)
  let s:ZP:=st T' X' C' B' (some (pP (nL (X++[0])))) none none
  have t1:xB (Zf (Z8 false) (Zc Zj [(Za 1),(eC (.int 83)),(eC (.int 2))]) (eC (.int 0))) s=some (decide (w=0)):=by
   have a:Zc Zj [(Za 1),(eC (.int 83)),(eC (.int 2))] s=some (.int (w:Int)):=ew
   rw[Z3,ZI,a]
   show(Z8 false (.int (w:Int)) (.int ((0:Nat):Int))).bind SG=_
   rw[Xs]
   show some (decide ((w:Int)=((0:Nat):Int)))=_
   rw[decide_eq_decide.mpr (Int.ofNat_inj (m:=w) (n:=0))]
  have t2:xB (Zf UH (Zc Zq [(Za 3)]) (eC (.int 0))) s=some (decide (0<X.length)):=by
   rw[Z3,ZI,lenX s rfl]
   show some (decide ((X.length:Int)>0))=_
   rw[decide_eq_decide.mpr (by omega:(X.length:Int)>0↔0<X.length)]
  by_cases w0:w=0
  ·by_cases x0:0<X.length
   ·obtain⟨p,hp,ep⟩:=Z6 c (t:=89) (m:=X.length) (by omega) x0
    let s1:ZP:=st T' X' C' B' (some (pP (nL (X++[0])))) (some (.int (p:Int))) none
    have r1:Zn 7 (Zc Zj [(Za 1),(eC (.int 89)),(Zc Zq [(Za 3)])]) s=some (.nx s1):=by
     have:Zc Zj [(Za 1),(eC (.int 89)),(Zc Zq [(Za 3)])] s=some (.int (p:Int)):=by
      rw[Zu,Zk,Zk,Zk,lenX s rfl];exact ep
     rw[Zl,this];rfl
    have p1:Zf ZD (Za 7) (eC (.int 1)) s1=some (.int ((p+1:Nat):Int)):=by
     have:=vI (op:=(· + ·)) (show Za 7 s1=some (.int (p:Int)) from rfl) (show eC (.int 1) s1=some (.int 1) from rfl)
     rw[show((p+1:Nat):Int)=(p:Int)+1 by omega];exact this
    have v:=QS (V2 (Mi (f:=Za 3) (g:=Za 7) (s:=s1) (K:=X) (p:=p) rfl rfl (by omega)) (RU (f:=Za 3) (s:=s1) (K:=X) rfl p1) (by rw[List.length_take,List.length_drop];omega))
    refine⟨X.take p++X.drop (p+1),some (.int (p:Int)),?_,?_,?_,fun y hy=>?_⟩
    ·show Xc _ _ _ s=_
     rw[ZC,X7,t1,decide_eq_true w0,Option.bind_some,if_pos rfl,t2,decide_eq_true x0,Option.bind_some,if_pos rfl,Zz r1,Zl,v];rfl
    ·rw[List.length_append,List.length_take,List.length_drop];omega
    ·rw[List.length_append,List.length_take,List.length_drop];omega
    ·have:y∈X:=by
      rcases List.mem_append.mp hy with z | z
      ·exact List.mem_of_mem_take z
      ·exact List.mem_of_mem_drop z
     have:=hX y this
     omega
   ·refine⟨X++[0],none,?_,by simp,by simp;omega,fun y hy=>?_⟩
    ·show Xc _ _ _ s=_
     rw[ZC,X7,t1,decide_eq_true w0,Option.bind_some,if_pos rfl,t2,decide_eq_false x0];rfl
    ·rcases List.mem_append.mp hy with z | z
     ·have:=hX y z
      omega
     ·rw[List.mem_singleton.mp z];omega
  ·refine⟨X++[0],none,?_,by simp,by simp;omega,fun y hy=>?_⟩
   ·show Xc _ _ _ s=_
    rw[ZC,X7,t1,decide_eq_false w0];rfl
   ·rcases List.mem_append.mp hy with z | z
    ·have:=hX y z
     omega
    ·rw[List.mem_singleton.mp z];omega
 obtain⟨Y,x7,q8,nY,lY,hY⟩:=q8
 let s9:ZP:=st T' X' C' B' (some (pP (nL Y))) x7 none
 have eqF:∀a b:Bool,Z8 true (.lst [.bl a,.bl b]) (.lst [.bl a,.bl b])=some (.bl false):=by
  intro a b
  have h:X6 8 (.lst [.bl a,.bl b]) (.lst [.bl a,.bl b])=true:=rfl
  unfold Z8;rw[if_pos h]
  simp
 have cmpF:∀{f:XE}{s:ZP}{a b:Bool},f s=some (.lst [.bl a,.bl b])->xB (Zf (Z8 true) f (YC [(eC (.bl a)),(eC (.bl b))])) s=some false:=fun{f s a b} h=>by
  have l:YC [(eC (.bl a)),(eC (.bl b))] s=some (.lst [.bl a,.bl b]):=rfl
  rw[Z3,ZI,h,l]
  show(Z8 true (.lst [.bl a,.bl b]) (.lst [.bl a,.bl b])).bind SG=_
  rw[eqF];rfl
 have q9:Xc (R1 (YW (xB (Zc Y6 [(Za 0),(Za 5)]))) (xB (Zf (Z8 true) (Zc Z5 [(Za 0),(Za 5),(Za 6)]) (YC [(eC (.bl true)),(eC (.bl false))])))) (ZY (eP (eC (.bl false)))) ZH s9=some (.nx s9):=by
  have a:Zc Y6 [(Za 0),(Za 5)] s9=some (.bl bt):=eb
  have t1:YW (xB (Zc Y6 [(Za 0),(Za 5)])) s9=some (!bt):=by
   rw[XG,Z3,a];rfl
  cases hb:bt with
  | true=>rw[ZC,X7,t1,hb];rfl
  | false=>
   have nT:PZ W B=false:=by
    cases h:PZ W B with
    | false=>rfl
    | true=>rw[hbt h] at hb;cases hb
   have t2:=cmpF (f:=Zc Z5 [(Za 0),(Za 5),(Za 6)]) (s:=s9) (a:=true) (b:=false) (Ng (Qc (X:=Y) ok hB lB nT))
   rw[ZC,X7,t1,hb];simp only[Option.bind_some,Bool.not_false,if_true]
   rw[t2];rfl
 have q10:Xc (xB (Zf (Z8 true) (Zc Z5 [(Za 0),(Za 2),(Za 6)]) (YC [(eC (.bl false)),(eC (.bl true))]))) (ZY (eP (eC (.bl false)))) ZH s9=some (.nx s9):=by
  have t2:=cmpF (f:=Zc Z5 [(Za 0),(Za 2),(Za 6)]) (s:=s9) (a:=false) (b:=true) (So (Uy ok hK31 (by omega) hT hY (by omega) (Gk (by rw[<-lX];exact nY))))
  rw[ZC,t2];rfl
 have q11:∃s',Xc (R1 (xB (Zf UH (Zc Zq [(Za 3)]) (eC (.int 0)))) (xB (Zf UH (Zc Zq [(Za 0)]) (eC (.int 2))))) (Zm (Zn 7 (Zc Zj [(Za 1),(eC (.int 97)),(Zc Zq [(Za 3)])]))
  (Zm (Zn 8 (eP (Zf ZK (Zw 1 [7,0,2] (ZO [(Zc Zq [(Za 0)])]) (.one 0) (xB (Zf (U5 true) (Za 0) (Zf ZK (Zc ZW [(Za 2),(Za 3)]) (Za 1)))) (Za 0)) (eC (.int 0)))))
  (Xc (xB (Zf (Z8 true) (Zc Z5 [(Za 0),(Za 2),(Zf Xi (Zf Xi (Xl Yk (Za 3) XM (YZ (Za 7))) (Xh [(Za 8)])) (Xl Yk (Za 3) (YZ (Zf ZD (Za 7) (eC (.int 1)))) XM))]) (YC [(eC (.bl false)),(eC (.bl true))]))) (ZY (eP (eC (.bl false)))) ZH))) ZH s9=some (.nx s'):=by
  have t1:xB (Zf UH (Zc Zq [(Za 3)]) (eC (.int 0))) s9=some (decide (0<X.length)):=by
   rw[Z3,ZI,lenX s9 rfl]
   show some (decide ((X.length:Int)>0))=_
   rw[decide_eq_decide.mpr (by omega:(X.length:Int)>0↔0<X.length)]
  have t2:xB (Zf UH (Zc Zq [(Za 0)]) (eC (.int 2))) s9=some (decide (2<W.length)):=by
   rw[Z3,ZI,lenW s9 rfl]
   show some (decide ((W.length:Int)>2))=_
   rw[decide_eq_decide.mpr (by omega:(W.length:Int)>2↔2<W.length)]
  by_cases x0:0<X.length
  ·by_cases w2:2<W.length
   ·obtain⟨p,hp,ep⟩:=Z6 c (t:=97) (m:=X.length) (by omega) x0
    let k:=(Yu (eW W) K).getD p 0
    have hk:k<(eW W).length:=by
     have hp':p<(Yu (eW W) K).length:=by omega
     have:k∈Yu (eW W) K:=by
      show(Yu (eW W) K).getD p 0∈_
      rw[List.getD_eq_getElem?_getD,List.getElem?_eq_getElem hp']
      exact List.getElem_mem hp'
     exact List.mem_range.mp (List.mem_filter.mp this).1
    obtain⟨h,r,eh,hh,ha,hb⟩:=Ni (a:=(ZM (eW W) k).1) (b:=(ZM (eW W) k).2) w2
    let s1:ZP:=st T' X' C' B' (some (pP (nL Y))) (some (.int (p:Int))) none
    let s2:ZP:=st T' X' C' B' (some (pP (nL Y))) (some (.int (p:Int))) (some (.int (h:Int)))
    have r1:Zn 7 (Zc Zj [(Za 1),(eC (.int 97)),(Zc Zq [(Za 3)])]) s9=some (.nx s1):=by
     have:Zc Zj [(Za 1),(eC (.int 97)),(Zc Zq [(Za 3)])] s9=some (.int (p:Int)):=by
      rw[Zu,Zk,Zk,Zk,lenX s9 rfl];exact ep
     rw[Zl,this];rfl
    have hc:Zw 1 [7,0,2] (ZO [(Zc Zq [(Za 0)])]) (.one 0) (xB (Zf (U5 true) (Za 0) (Zf ZK (Zc ZW [(Za 2),(Za 3)]) (Za 1)))) (Za 0) s1=some (.lst ((h::r).map fun(j:Nat)=>.int (j:Int))):=by
     rw[Vd (List.range W.length) (fun(i:Nat)=>.int (i:Int)) (fun(i:Nat)=>.int (i:Int)) (fun j=>decide (j≠(ZM (eW W) k).1/\j≠(ZM (eW W) k).2)) (Yp (lenW s1 rfl) (by omega)) (by simp;omega) (fun j hj=>⟨[some (.int (j:Int)),some (.int (p:Int)),some (wP W),T'],rfl,?_,fun _=>rfl⟩),eh]
     let sj:ZP:=[some (.int (j:Int)),some (.int (p:Int)),some (wP W),T']
     have o1:Zc ZW [(Za 2),(Za 3)] sj=some (.lst ((Wb W F).map Ym)):=TF ok sm
     have o2:Zf ZK (Zc ZW [(Za 2),(Za 3)]) (Za 1) sj=some (Ym (ZM (eW W) k)):=by
      rw[ZI,o1]
      show ZK (.lst ((Wb W F).map Ym)) (.int (p:Int))=_
      refine Wr (l:=(Wb W F).map Ym) (k:=p) ?_
      have hp':p<(Yu (eW W) F).length:=by rw[<-eo];omega
      unfold Wb;rw[List.map_map,List.getElem?_map,List.getElem?_eq_getElem hp']
      show some (Ym (ZM (eW W) ((Yu (eW W) F)[p])))=some (Ym (ZM (eW W) ((Yu (eW W) K).getD p 0)))
      rw[eo,List.getD_eq_getElem?_getD,List.getElem?_eq_getElem hp'];rfl
     show xB _ sj=_
     rw[Z3,ZI,o2]
     show(U5 true (.int (j:Int)) (pP [((ZM (eW W) k).1:Int),((ZM (eW W) k).2:Int)])).bind SG=_
     rw[M5]
     show some (!decide ((j:Int)∈[((ZM (eW W) k).1:Int),((ZM (eW W) k).2:Int)]))=_
     congr 1
     by_cases z:j≠(ZM (eW W) k).1/\j≠(ZM (eW W) k).2
     ·rw[decide_eq_true z,decide_eq_false (fun q=>by
       simp only[List.mem_cons,List.not_mem_nil,or_false] at q
       omega)];rfl
     ·rw[decide_eq_false z,decide_eq_true (by
       simp only[List.mem_cons,List.not_mem_nil,or_false]
       omega)];rfl
    have r2:Zn 8 (eP (Zf ZK (Zw 1 [7,0,2] (ZO [(Zc Zq [(Za 0)])]) (.one 0) (xB (Zf (U5 true) (Za 0) (Zf ZK (Zc ZW [(Za 2),(Za 3)]) (Za 1)))) (Za 0)) (eC (.int 0)))) s1=some (.nx s2):=by
     have:Zf ZK (Zw 1 [7,0,2] (ZO [(Zc Zq [(Za 0)])]) (.one 0) (xB (Zf (U5 true) (Za 0) (Zf ZK (Zc ZW [(Za 2),(Za 3)]) (Za 1)))) (Za 0)) (eC (.int 0)) s1=some (.int (h:Int)):=by
      rw[ZI,hc]
      exact Wr (l:=(h::r).map fun(j:Nat)=>PV.int (j:Int)) (k:=0) rfl
     rw[Zl,vP this];rfl
    have p1:Zf ZD (Za 7) (eC (.int 1)) s2=some (.int ((p+1:Nat):Int)):=by
     have:=vI (op:=(· + ·)) (show Za 7 s2=some (.int (p:Int)) from rfl) (show eC (.int 1) s2=some (.int 1) from rfl)
     rw[show((p+1:Nat):Int)=(p:Int)+1 by omega];exact this
    let Z:=X.take p++[h]++X.drop (p+1)
    have v:=V2 (V2 (Mi (f:=Za 3) (g:=Za 7) (s:=s2) (K:=X) (p:=p) rfl rfl (by omega)) (Mj (f:=Za 8) (s:=s2) (p:=h) rfl) (by simp;omega)) (RU (f:=Za 3) (s:=s2) (K:=X) rfl p1) (by simp;omega)
    have lZ:Z.length=X.length:=by
     show(X.take p++[h]++X.drop (p+1)).length=_
     simp;omega
    have hZ:∀z∈Z,z<=31:=fun z hz=>by
     rcases List.mem_append.mp hz with q | q
     ·rcases List.mem_append.mp q with q | q
      ·have:=hX z (List.mem_of_mem_take q);omega
      ·rw[List.mem_singleton.mp q];omega
     ·have:=hX z (List.mem_of_mem_drop q);omega
    have gZ:Z.getD p 0=h:=by
     show(X.take p++[h]++X.drop (p+1)).getD p 0=h
     have lt:(X.take p).length=p:=by rw[List.length_take];omega
     rw[List.getD_eq_getElem?_getD,List.append_assoc,List.getElem?_append_right (by omega),lt,Nat.sub_self];rfl
    have nZ:brk W K Z=false:=Gm (p:=p) (h:=h) (by rw[lZ];exact hp) gZ (by
     unfold RS
     refine decide_eq_false fun q=>?_
     simp only[List.mem_cons,List.not_mem_nil,or_false] at q
     have q:(h:Int)=((ZM (eW W) k).1:Int)\/(h:Int)=((ZM (eW W) k).2:Int):=q
     omega)
    have cz:Zc Z5 [(Za 0),(Za 2),(Zf Xi (Zf Xi (Xl Yk (Za 3) XM (YZ (Za 7))) (Xh [(Za 8)])) (Xl Yk (Za 3) (YZ (Zf ZD (Za 7) (eC (.int 1)))) XM))] s2=some (.lst [.bl false,.bl true]):=by
     rw[Zu,Zk,Zk,Zk,v]
     exact So (Uy ok hK31 (by omega) hT hZ (by rw[lZ];omega) nZ)
    have t3:=cmpF cz
    refine⟨s2,?_⟩
    rw[ZC,X7,t1,decide_eq_true x0,Option.bind_some,if_pos rfl,t2,decide_eq_true w2,Option.bind_some,if_pos rfl,Zz r1,Zz r2,ZC,t3];rfl
   ·refine⟨s9,?_⟩
    rw[ZC,X7,t1,decide_eq_true x0,Option.bind_some,if_pos rfl,t2,decide_eq_false w2];rfl
  ·refine⟨s9,?_⟩
   rw[ZC,X7,t1,decide_eq_false x0];rfl
 obtain⟨s',q11⟩:=q11
 show X5 9 SM _=_
 unfold SM
 show(Zm _ _ (st none none none none none none none)).bind X1=_
 rw[Zz q2,Zz q3,Zz q4,Zz q5,Zz q6,Zz q7,Zz q8,Zz q9,Zz q10,Zz q11];rfl
theorem law_true(ns:List Int)(hns:ns.length<=63):D_law [.cst (iL ns)]=some (.bl true):=by
 obtain⟨W,ew,ok,cn,h12⟩:=Ij hns
 let s0:ZP:=[some (.cst (iL ns)),none,none]
 let st:Option PV->ZP:=fun x2=>[some (.cst (iL ns)),some (wP W),x2]
 have e1:Zn 1 (Zc Ui [(Za 0),(YC [(eC (.int 1)),(eC (.int 2)),(eC (.int 3)),(eC (.int 4)),(eC (.int 5))]),(eC (.int 8))]) s0=some (.nx (st none)):=by
  have:Zc Ui [(Za 0),(YC [(eC (.int 1)),(eC (.int 2)),(eC (.int 3)),(eC (.int 4)),(eC (.int 5))]),(eC (.int 8))] s0=some (wP W):=ew
  rw[Zl,this];rfl
 let fb:XS:=Xc (YW (xB (Zc Uk [(Za 1),(Za 2)]))) (ZY (eP (eC (.bl false)))) ZH
 let cut:=Xq (iL ns) (some 13) (some 33)
 have cutI:∀l∈cut,∃c,l=PV.int c:=fun l hl=>by
  have hl':l∈Xq (iL ns) (some 13) (some 33):=hl
  unfold Xq at hl'
  have:l∈iL ns:=List.mem_of_mem_drop (List.mem_of_mem_take hl')
  obtain⟨c,_,rfl⟩:=List.mem_map.mp this
  exact⟨c,rfl⟩
 have cutL:cut.length<=63:=by
  show(Xq (iL ns) (some 13) (some 33)).length<=63
  unfold Xq;rw[List.length_take,List.length_drop,List.length_map];omega
 let ls:List PV:=[.int (YJ ns 12)]++cut
 obtain⟨s',f1,x2,hs⟩:=YB (T:=.one 2) (fb:=fb) (ls:=ls) (s:=st none) (fun _ s=>∃x2,s=st x2) ⟨none,rfl⟩ (by
  rintro i l s hl ⟨x2,rfl⟩
  obtain⟨c,rfl⟩:∃c,l=PV.int c:=by
   rcases List.mem_append.mp (List.mem_of_getElem? hl) with z | z
   ·exact⟨_,List.mem_singleton.mp z⟩
   ·exact cutI l z
  refine⟨st (some (.int c)),st (some (.int c)),rfl,?_,_,rfl⟩
  have d:Zc Uk [(Za 1),(Za 2)] (st (some (.int c)))=some (.bl true):=Mk ok cn h12 c
  show Xc _ _ _ _=_
  rw[ZC,XG,Z3,d];rfl)
 subst hs
 have e2:Xf [] (Y4 (Zf Uw (YC [(Zc ZQ [(Za 0),(eC (.int 12))])]) (Xl Xr (Za 0) (YZ (eC (.int 13))) (YZ (eC (.int 33)))))) (.one 2) fb (st none)=some (.nx (st x2)):=by
  show(Y4 (Zf Uw (YC [(Zc ZQ [(Za 0),(eC (.int 12))])]) (Xl Xr (Za 0) (YZ (eC (.int 13))) (YZ (eC (.int 33))))) (Yc [] (st none))).bind _=_
  have a:Zc ZQ [(Za 0),(eC (.int 12))] (Yc [] (st none))=some (.int (YJ ns 12)):=Tz hns 12
  have b:YC [(Zc ZQ [(Za 0),(eC (.int 12))])] (Yc [] (st none))=some (.lst [.int (YJ ns 12)]):=by
   show(UZ _ _).map PV.lst=_
   rw[Zk,a];rfl
  have d:Xl Xr (Za 0) (YZ (eC (.int 13))) (YZ (eC (.int 33))) (Yc [] (st none))=some (.lst cut):=rfl
  have h:Zf Uw (YC [(Zc ZQ [(Za 0),(eC (.int 12))])]) (Xl Xr (Za 0) (YZ (eC (.int 13))) (YZ (eC (.int 33)))) (Yc [] (st none))=some (.lst ls):=by
   rw[ZI,b,d]
   show(if 1+cut.length<=10000/\ZJ [PV.int (YJ ns 12)]=true/\ZJ cut=true then some (PV.lst ([.int (YJ ns 12)]++cut)) else none)=_
   rw[if_pos ⟨by omega,rfl,Lp _ _ (Yv ns)⟩]
  have:Y4 (Zf Uw (YC [(Zc ZQ [(Za 0),(eC (.int 12))])]) (Xl Xr (Za 0) (YZ (eC (.int 13))) (YZ (eC (.int 33))))) (Yc [] (st none))=some ls:=by
   unfold Y4
   rw[h];rfl
  rw[this];exact f1
 show X5 3 MU _=_
 unfold MU
 show(Zm _ _ s0).bind X1=_
 rw[Zz e1,Zz e2];rfl
end PW
namespace PW
open PySem L2 VL
theorem all_mk{P:Program}{w:World}{K:PySem.W.Frag}{h:Heap}{mg:Str->Option Value}{fa:Addr}(X:K.In h)(G:h.Ns mainGlobals mg)(hfa:mg "law" = some (.ref fa))(B:S5 mg)
  (d0:Def K mg "_law_pick" RE)
  (d1:Def K mg "_law_six" Pu)
  (d2:Def K mg "_law_read_web" Vi)
  (d3:Def K mg "_law_at" N2)
  (d4:Def K mg "_law_web" Pw)
  (d5:Def K mg "_law_ties" RF)
  (d6:Def K mg "_law_tree" RG)
  (d7:Def K mg "_law_outside" VV)
  (d8:Def K mg "_law_ends" RH)
  (d9:Def K mg "ties_of" T6)
  (d10:Def K mg "pieces_of" VY)
  (d11:Def K mg "is_tree" T7)
  (d12:Def K mg "break_of" Vj)
  (d13:Def K mg "_law_spoilt" UL)
  (d14:Def K mg "_law_caught" UM)
  (d15:Def K mg "_law_whole" T8)
  (d16:Def K mg "_law_wholes" UN)
  (d17:Def K mg "_law_coins" T9)
  (d18:Def K mg "_law_is_tree" VZ)
  (d19:Def K mg "_law_one" PD)
  (d20:Def K mg "law" JU)
  {CNoWeb CApart CNoText CNoOrder CTooMany CNotSettled CNoTree CNoTotal CNoEnds CNoRow CNoName Cb:Addr}
  (qNoWeb:PySem.W.nsIn K mainGlobals "NoWeb" = some (some (.ref CNoWeb)))
  (qApart:PySem.W.nsIn K mainGlobals "Apart" = some (some (.ref CApart)))
  (qNoText:PySem.W.nsIn K mainGlobals "NoText" = some (some (.ref CNoText)))
  (qNoOrder:PySem.W.nsIn K mainGlobals "NoOrder" = some (some (.ref CNoOrder)))
  (qTooMany:PySem.W.nsIn K mainGlobals "TooMany" = some (some (.ref CTooMany)))
  (qNotSettled:PySem.W.nsIn K mainGlobals "NotSettled" = some (some (.ref CNotSettled)))
  (qNoTree:PySem.W.nsIn K mainGlobals "NoTree" = some (some (.ref CNoTree)))
  (qNoTotal:PySem.W.nsIn K mainGlobals "NoTotal" = some (some (.ref CNoTotal)))
  (qNoEnds:PySem.W.nsIn K mainGlobals "NoEnds" = some (some (.ref CNoEnds)))
  (qNoRow:PySem.W.nsIn K mainGlobals "NoRow" = some (some (.ref CNoRow)))
  (qNoName:PySem.W.nsIn K mainGlobals "NoName" = some (some (.ref CNoName)))
  (qB:PySem.W.nsIn K mainGlobals "PurseError" = some (some (.ref Cb)))
  (x2:PySem.W.ktsIn K Cb "BaseException" = true)
  (tTNoWeb:PySem.W.kitOne K (.ref CNoTree) (.ref CNoWeb)=some false)
  (tTApart:PySem.W.kitOne K (.ref CNoTree) (.ref CApart)=some false)
  (tTNoText:PySem.W.kitOne K (.ref CNoTree) (.ref CNoText)=some false)
  (tTNoOrder:PySem.W.kitOne K (.ref CNoTree) (.ref CNoOrder)=some false)
  (tTTooMany:PySem.W.kitOne K (.ref CNoTree) (.ref CTooMany)=some false)
  (tTNotSettled:PySem.W.kitOne K (.ref CNoTree) (.ref CNotSettled)=some false)
  (tTNoTree:PySem.W.kitOne K (.ref CNoTree) (.ref CNoTree)=some true)
  (tTNoTotal:PySem.W.kitOne K (.ref CNoTree) (.ref CNoTotal)=some false)
  (tTNoEnds:PySem.W.kitOne K (.ref CNoTree) (.ref CNoEnds)=some false)
  (tTNoRow:PySem.W.kitOne K (.ref CNoTree) (.ref CNoRow)=some false)
  (tTNoName:PySem.W.kitOne K (.ref CNoTree) (.ref CNoName)=some false)
  (x0T:PySem.W.excIn K CNoTree [.type "ValueError",.type "Exception",.type "BaseException",.type "object"] "ValueError.__new__" = true)
  (x1T:PySem.W.ktsIn K CNoTree "BaseException" = true)
  (x3T:VX.belowIn K CNoTree Cb=true)
  (x4T:PySem.W.findIn K (.ref CNoTree) "__getattribute__" = some (some (.builtin "BaseException.__getattribute__")))
  (x5T:PySem.W.findIn K (.ref CNoTree) "__getattr__" = some none)
  (x6T:PySem.W.findIn K (.ref CNoTree) "__class__" = some (some (.builtin "object.__class__")))
  (x7T:PySem.W.mroIn K CNoTree (.type "object")=some true)
  (x8T:PySem.W.kitOne K (.ref CNoTree) (.type "ValueError")=some true)
  (tENoWeb:PySem.W.kitOne K (.ref CNoEnds) (.ref CNoWeb)=some false)
  (tEApart:PySem.W.kitOne K (.ref CNoEnds) (.ref CApart)=some false)
  (tENoText:PySem.W.kitOne K (.ref CNoEnds) (.ref CNoText)=some false)
  (tENoOrder:PySem.W.kitOne K (.ref CNoEnds) (.ref CNoOrder)=some false)
  (tETooMany:PySem.W.kitOne K (.ref CNoEnds) (.ref CTooMany)=some false)
  (tENotSettled:PySem.W.kitOne K (.ref CNoEnds) (.ref CNotSettled)=some false)
  (tENoTree:PySem.W.kitOne K (.ref CNoEnds) (.ref CNoTree)=some false)
  (tENoTotal:PySem.W.kitOne K (.ref CNoEnds) (.ref CNoTotal)=some false)
  (tENoEnds:PySem.W.kitOne K (.ref CNoEnds) (.ref CNoEnds)=some true)
  (tENoRow:PySem.W.kitOne K (.ref CNoEnds) (.ref CNoRow)=some false)
  (tENoName:PySem.W.kitOne K (.ref CNoEnds) (.ref CNoName)=some false)
  (x0E:PySem.W.excIn K CNoEnds [.type "ValueError",.type "Exception",.type "BaseException",.type "object"] "ValueError.__new__" = true)
  (x1E:PySem.W.ktsIn K CNoEnds "BaseException" = true)
  (x3E:VX.belowIn K CNoEnds Cb=true)
  (x4E:PySem.W.findIn K (.ref CNoEnds) "__getattribute__" = some (some (.builtin "BaseException.__getattribute__")))
  (x5E:PySem.W.findIn K (.ref CNoEnds) "__getattr__" = some none)
  (x6E:PySem.W.findIn K (.ref CNoEnds) "__class__" = some (some (.builtin "object.__class__")))
  (x7E:PySem.W.mroIn K CNoEnds (.type "object")=some true)
  (x8E:PySem.W.kitOne K (.ref CNoEnds) (.type "ValueError")=some true)
  : ∃fd:FuncData,(∀(s:Shared)(u:Value),BindsTo s fd ⟨[u],[]⟩ [("_law_script",u)])/\∀base:Heap,K.In base->base.Ns mainGlobals mg->UC P w K mg base Nx 6 fa fd ["_law_script"] (Y8 K D_law 1):=by
 have QT:VX.QN "NoTree" K mg CNoTree Cb:=⟨qNoTree,PySem.W.mg_of X G qNoTree,PySem.W.mg_of X G qB,x0T,⟨x4T,x5T,x6T,x7T,x1T⟩,x2,x3T,fun cx hc=>by
  unfold VX.nms at hc;simp only[List.mem_cons,List.not_mem_nil,or_false] at hc
  rcases hc with rfl | rfl | rfl | rfl | rfl | rfl | rfl | rfl | rfl | rfl | rfl
  ·exact⟨CNoWeb,PySem.W.mg_of X G qNoWeb,tTNoWeb⟩
  ·exact⟨CApart,PySem.W.mg_of X G qApart,tTApart⟩
  ·exact⟨CNoText,PySem.W.mg_of X G qNoText,tTNoText⟩
  ·exact⟨CNoOrder,PySem.W.mg_of X G qNoOrder,tTNoOrder⟩
  ·exact⟨CTooMany,PySem.W.mg_of X G qTooMany,tTTooMany⟩
  ·exact⟨CNotSettled,PySem.W.mg_of X G qNotSettled,tTNotSettled⟩
  ·exact⟨CNoTree,PySem.W.mg_of X G qNoTree,tTNoTree⟩
  ·exact⟨CNoTotal,PySem.W.mg_of X G qNoTotal,tTNoTotal⟩
  ·exact⟨CNoEnds,PySem.W.mg_of X G qNoEnds,tTNoEnds⟩
  ·exact⟨CNoRow,PySem.W.mg_of X G qNoRow,tTNoRow⟩
  ·exact⟨CNoName,PySem.W.mg_of X G qNoName,tTNoName⟩,x8T⟩
 have QE:VX.QN "NoEnds" K mg CNoEnds Cb:=⟨qNoEnds,PySem.W.mg_of X G qNoEnds,PySem.W.mg_of X G qB,x0E,⟨x4E,x5E,x6E,x7E,x1E⟩,x2,x3E,fun cx hc=>by
  unfold VX.nms at hc;simp only[List.mem_cons,List.not_mem_nil,or_false] at hc
  rcases hc with rfl | rfl | rfl | rfl | rfl | rfl | rfl | rfl | rfl | rfl | rfl
  ·exact⟨CNoWeb,PySem.W.mg_of X G qNoWeb,tENoWeb⟩
  ·exact⟨CApart,PySem.W.mg_of X G qApart,tEApart⟩
  ·exact⟨CNoText,PySem.W.mg_of X G qNoText,tENoText⟩
  ·exact⟨CNoOrder,PySem.W.mg_of X G qNoOrder,tENoOrder⟩
  ·exact⟨CTooMany,PySem.W.mg_of X G qTooMany,tETooMany⟩
  ·exact⟨CNotSettled,PySem.W.mg_of X G qNotSettled,tENotSettled⟩
  ·exact⟨CNoTree,PySem.W.mg_of X G qNoTree,tENoTree⟩
  ·exact⟨CNoTotal,PySem.W.mg_of X G qNoTotal,tENoTotal⟩
  ·exact⟨CNoEnds,PySem.W.mg_of X G qNoEnds,tENoEnds⟩
  ·exact⟨CNoRow,PySem.W.mg_of X G qNoRow,tENoRow⟩
  ·exact⟨CNoName,PySem.W.mg_of X G qNoName,tENoName⟩,x8E⟩
 have Q:VX.Q8 K mg CNoTree CNoEnds Cb:=⟨QT,QE⟩
 refine Jg d20 hfa (fun _ _ _ _ _ _ _=>rfl) fun base f fd _ _ F=>?_
 have C_l_pick:=L6 (P:=P) (w:=w) (base:=base) d0 B
 have C_l_six:=JR (P:=P) (w:=w) (base:=base) d1 B
 have C_l_read_web:=R9 (P:=P) (w:=w) (base:=base) d2 B
 have C_l_at:=HR (P:=P) (w:=w) (base:=base) d3 B
 have C_q_web:=JS (P:=P) (w:=w) (base:=base) d4 B C_l_pick C_l_at C_l_six C_l_read_web
 have C_l_ties:=L7 (P:=P) (w:=w) (base:=base) d5 B
 have C_l_tree:=L8 (P:=P) (w:=w) (base:=base) d6 B C_l_ties C_l_pick
 have C_l_outside:=Px (P:=P) (w:=w) (base:=base) d7 B C_l_ties
 have C_l_ends:=L9 (P:=P) (w:=w) (base:=base) d8 B C_l_outside C_l_pick
 have C_ties_of:=N3 (P:=P) (w:=w) (base:=base) d9 B
 have C_pieces_of:=Py (P:=P) (w:=w) (base:=base) d10 B
 have C_is_tree:=N4 (P:=P) (w:=w) (base:=base) d11 B C_ties_of C_pieces_of
 have C_break_of:=OR (P:=P) (w:=w) (base:=base) d12 B C_is_tree C_ties_of
 have X_break_of:=Pz (P:=P) (w:=w) (base:=base) d12 B Q C_is_tree C_ties_of
 have C_l_spoilt:=OS (P:=P) (w:=w) (base:=base) d13 B C_l_ties C_l_pick
 have C_l_caught:=OT (P:=P) (w:=w) (base:=base) d14 B C_break_of Q X_break_of
 have C_l_whole:=N6 (P:=P) (w:=w) (base:=base) d15 B
 have C_l_wholes:=OV (P:=P) (w:=w) (base:=base) d16 B C_l_whole
 have C_b_coins:=N7 (P:=P) (w:=w) (base:=base) d17 B
 have C_l_is_tree:=PB (P:=P) (w:=w) (base:=base) d18 B C_l_ties
 have C_l_one:=JT (P:=P) (w:=w) (base:=base) d19 B C_l_tree C_l_ends C_break_of C_b_coins C_l_wholes C_l_spoilt C_l_pick C_l_caught C_l_is_tree C_l_outside
 exact F6 F B C_q_web C_l_at C_l_one
end PW
def PySem.W.Fast.tw14975378179217598503:Unit:=()
def PySem.W.Fast.tw11565530326852284096:Unit:=()
def PySem.W.Fast.tw7139217135461112026:Unit:=()
def PySem.W.Fast.tw3064182689107220805:Unit:=()
def PySem.W.Fast.tw10396371486895187797:Unit:=()
def PySem.W.Fast.tw10297442655156728615:Unit:=()
def PySem.W.Fast.tw793041754571222129:Unit:=()
def PySem.W.Fast.tw6989169044107554421:Unit:=()
def PySem.W.Fast.tw16220784704151184463:Unit:=()
def PySem.W.Fast.tw8058029135390154215:Unit:=()
def PySem.W.Fast.tw12678665808800998519:Unit:=()
def PySem.W.Fast.tw5324194224109124987:Unit:=()
def PySem.W.Fast.tw10196206948392154638:Unit:=()
def PySem.W.Fast.tw7052195395070054734:Unit:=()
def PySem.W.Fast.tw1517196471811198734:Unit:=()
def PySem.W.Fast.tw12346441187488641128:Unit:=()
def PySem.W.Fast.tw17460224592028176684:Unit:=()
def PySem.W.Fast.tw7357668253026274840:Unit:=()
def PySem.W.Fast.tw3216132766111622350:Unit:=()
def PySem.W.Fast.tw608639962384836576:Unit:=()
def PySem.W.Fast.tw10872077812880500363:Unit:=()
def PySem.W.Fast.tw18155525510851835347:Unit:=()
def PySem.W.Fast.tw192448179151194306:Unit:=()
def PySem.W.Fast.tw571692857850520575:Unit:=()
def PySem.W.Fast.tw5556825113782633132:Unit:=()
def PySem.W.Fast.tw5891168912352280612:Unit:=()
def PySem.W.Fast.tw8840124026939668544:Unit:=()
def PySem.W.Fast.tw1397331303426855133:Unit:=()
def PySem.W.Fast.tw16319102597010228359:Unit:=()
def PySem.W.Fast.tw14132279501238308535:Unit:=()
def PySem.W.Fast.tw18428765645381791788:Unit:=()
def PySem.W.Fast.tw6600033532771116566:Unit:=()
def PySem.W.Fast.tw3585009769966482411:Unit:=()
def PySem.W.Fast.tw15379375493889901300:Unit:=()
def PySem.W.Fast.tw7459314602053924503:Unit:=()
def PySem.W.Fast.tw13932991011306756748:Unit:=()
def PySem.W.Fast.tw10161833045701395811:Unit:=()
def PySem.W.Fast.tw14758979560617821623:Unit:=()
def PySem.W.Fast.tw12532227443972781911:Unit:=()
def PySem.W.Fast.tw490034096422409892:Unit:=()
def PySem.W.Fast.tw14174903599876497120:Unit:=()
def PySem.W.Fast.tw4788768658721273420:Unit:=()
def PySem.W.Fast.tw83226447090655910:Unit:=()
def PySem.W.Fast.tw9577897010382538948:Unit:=()
def PySem.W.Fast.tw6058247308934971386:Unit:=()
def PySem.W.Fast.tw12544347393545177205:Unit:=()
def PySem.W.Fast.tw4745939745332860579:Unit:=()
def PySem.W.Fast.tw16059744084285565191:Unit:=()
def PySem.W.Fast.tw15830158593634659855:Unit:=()
def PySem.W.Fast.tw914862788512546930:Unit:=()
def PySem.W.Fast.tw6981382340808922657:Unit:=()
def PySem.W.Fast.tw7337454975882640446:Unit:=()
def PySem.W.Fast.tw10558311634064540543:Unit:=()
def PySem.W.Fast.tw17489974418285012585:Unit:=()
def PySem.W.Fast.tw6527179730865551107:Unit:=()
def PySem.W.Fast.tw13379338132225090732:Unit:=()
def PySem.W.Fast.tw6751460494825823624:Unit:=()
def PySem.W.Fast.tw7073003510233359652:Unit:=()
def PySem.W.Fast.tw331050449578491648:Unit:=()
def PySem.W.Fast.tw2630323622943467778:Unit:=()
def PySem.W.Fast.tw4308559555639056880:Unit:=()
def PySem.W.Fast.tw8119073509583318067:Unit:=()
def PySem.W.Fast.tw13182505447042645539:Unit:=()
def PySem.W.Fast.tw4520655005097996248:Unit:=()
def PySem.W.Fast.tw4170259145504831093:Unit:=()
def PySem.W.Fast.tw4466832865285102874:Unit:=()
def PySem.W.Fast.tw3947916062068717396:Unit:=()
def PySem.W.Fast.tw16061741194032194165:Unit:=()
def PySem.W.Fast.tw12882244827496267369:Unit:=()
def PySem.W.Fast.tw1668788356502004926:Unit:=()
def PySem.W.Fast.tw14148650096569621835:Unit:=()
def PySem.W.Fast.tw4657230030012653155:Unit:=()
def PySem.W.Fast.tw441093607665728038:Unit:=()
def PySem.W.Fast.tw6920256622632171190:Unit:=()
def PySem.W.Fast.tw946135795834778340:Unit:=()
def PySem.W.Fast.tw12519674651429690181:Unit:=()
def PySem.W.Fast.tw1867332151530670556:Unit:=()
def PySem.W.Fast.tw5464686992865628430:Unit:=()
def PySem.W.Fast.tw3647863912104194812:Unit:=()
def PySem.W.Fast.tw8431191959676923474:Unit:=()
def PySem.W.Fast.tw3267909510330585127:Unit:=()
def PySem.W.Fast.tw17768929892152821422:Unit:=()
def PySem.W.Fast.tw5914391782846997572:Unit:=()
def PySem.W.Fast.tw10234442376232231861:Unit:=()
def PySem.W.Fast.tw16394857439093674480:Unit:=()
def PySem.W.Fast.tw5599140547037587371:Unit:=()
def PySem.W.Fast.tw13004966578614232713:Unit:=()
def PySem.W.Fast.tw14686904996820879936:Unit:=()
def PySem.W.Fast.tw8173043818969086456:Unit:=()
def PySem.W.Fast.tw7907562127894846499:Unit:=()
open PySem PySem.W PyProof.Rows
set_option maxRecDepth 100000 in
set_option maxHeartbeats 0 in
theorem PySem.Challenge.cw_purseweb_k71_break_purses_made_holds : PySem.Challenge.rw_purseweb_k71_break_purses_made.Holds := by
 w_on;o_law;k_head;(case hw=>w_witness2)
 k_fill
 refine VL.law_walk (l:=PySem.Challenge.rw_purseweb_k71_break_purses_made) (D:=PW.D_law) (x:="_law_script") 6 rfl rfl ⟨rfl,by decide,by decide,rfl⟩ PW.law_true (fun w h Y=>PySem.W.kIn_of Y) ?F
 case F=>
  intro w mg fa h KX G hmg
  refine' PW.all_mk KX G hmg ?B ?d0 ?d1 ?d2 ?d3 ?d4 ?d5 ?d6 ?d7 ?d8 ?d9 ?d10 ?d11 ?d12 ?d13 ?d14 ?d15 ?d16 ?d17 ?d18 ?d19 ?d20 ?qNoWeb ?qApart ?qNoText ?qNoOrder ?qTooMany ?qNotSettled ?qNoTree ?qNoTotal ?qNoEnds ?qNoRow ?qNoName ?qB ?x2 ?tTNoWeb ?tTApart ?tTNoText ?tTNoOrder ?tTTooMany ?tTNotSettled ?tTNoTree ?tTNoTotal ?tTNoEnds ?tTNoRow ?tTNoName ?x0T ?x1T ?x3T ?x4T ?x5T ?x6T ?x7T ?x8T ?tENoWeb ?tEApart ?tENoText ?tENoOrder ?tETooMany ?tENotSettled ?tENoTree ?tENoTotal ?tENoEnds ?tENoRow ?tENoName ?x0E ?x1E ?x3E ?x4E ?x5E ?x6E ?x7E ?x8E
  case B=>constructor<;>(refine PySem.W.mg_none_of KX G ?_;k_is)
  case d0 | d1 | d2 | d3 | d4 | d5 | d6 | d7 | d8 | d9 | d10 | d11 | d12 | d13 | d14 | d15 | d16 | d17 | d18 | d19 | d20=>(refine' L2.def_mk KX G ?a ?l ?c ?k;(case a=>k_is);(case l=>k_is);(case c=>k_is);(case k=>k_is))
  (case qNoWeb=>k_is)
  (case qApart=>k_is)
  (case qNoText=>k_is)
  (case qNoOrder=>k_is)
  (case qTooMany=>k_is)
  (case qNotSettled=>k_is)
  (case qNoTree=>k_is)
  (case qNoTotal=>k_is)
  (case qNoEnds=>k_is)
  (case qNoRow=>k_is)
  (case qNoName=>k_is)
  (case qB=>k_is)
  (case x2=>kernel_rfl)
  (case tTNoWeb=>kernel_rfl)
  (case tTApart=>kernel_rfl)
  (case tTNoText=>kernel_rfl)
  (case tTNoOrder=>kernel_rfl)
  (case tTTooMany=>kernel_rfl)
  (case tTNotSettled=>kernel_rfl)
  (case tTNoTree=>kernel_rfl)
  (case tTNoTotal=>kernel_rfl)
  (case tTNoEnds=>kernel_rfl)
  (case tTNoRow=>kernel_rfl)
  (case tTNoName=>kernel_rfl)
  (case x0T=>k_exc)
  (case x1T=>kernel_rfl)
  (case x3T=>kernel_rfl)
  (case x4T=>k_is)
  (case x5T=>k_is)
  (case x6T=>k_is)
  (case x7T=>k_is)
  (case x8T=>kernel_rfl)
  (case tENoWeb=>kernel_rfl)
  (case tEApart=>kernel_rfl)
  (case tENoText=>kernel_rfl)
  (case tENoOrder=>kernel_rfl)
  (case tETooMany=>kernel_rfl)
  (case tENotSettled=>kernel_rfl)
  (case tENoTree=>kernel_rfl)
  (case tENoTotal=>kernel_rfl)
  (case tENoEnds=>kernel_rfl)
  (case tENoRow=>kernel_rfl)
  (case tENoName=>kernel_rfl)
  (case x0E=>k_exc)
  (case x1E=>kernel_rfl)
  (case x3E=>kernel_rfl)
  (case x4E=>k_is)
  (case x5E=>k_is)
  (case x6E=>k_is)
  (case x7E=>k_is)
  (case x8E=>kernel_rfl)
