import PyProof.Rows.All
import Wide.All
import OpenK.AllK
import Wide.FinOn
import Lean
import PyProof.EqAt
import PyProof.EqKinds
import PyProof.TupleCall
import PySem.Challenge.RW_blockdeal_k25_deeds_or_not
set_option Elab.async false
set_option linter.all false
set_option maxRecDepth 100000
set_option maxHeartbeats 4000000
namespace L2
open PySem PySem.Spec PyProof.Rows
abbrev Key:=Sum Int Str
def zma:Key->Value->Bool
 | .inl k,v=>Value.isInt k v
 | .inr x,v=>Value.isStrOf x v
def keyH (w:World):Key->Int
 | .inl k=>hashInt k
 | .inr x=>hashStr w x
theorem zaC:∀ {k:Key}{v:Value},zma k v=true->(∃ i t,k=Sum.inl i/\v=Value.int i t)\/(∃ x t,k=Sum.inr x/\v=Value.str x t)
 | .inl i,v,h=>by
  obtain ⟨t,e⟩:=Value.isInt_shape (k:=i) (v:=v) h
  exact .inl ⟨i,t,rfl,e⟩
 | .inr x,v,h=>by
  obtain ⟨t,e⟩:=Value.isStrOf_shape (x:=x) (v:=v) h
  exact .inr ⟨x,t,rfl,e⟩
theorem zl_ (a b:Int):decide ((Sum.inl a:Key)=Sum.inl b)=(a == b):=by
 by_cases e:a=b
 ·subst e;simp
 ·have h:¬(Sum.inl a:Key)=Sum.inl b:=fun q=>e (Sum.inl.inj q)
  rw [decide_eq_false h]
  exact (beq_eq_false_iff_ne.mpr e).symm
theorem zl7 (a b:Str):decide ((Sum.inr a:Key)=Sum.inr b)=decide (a=b):=by
 by_cases e:a=b
 ·subst e;simp
 ·have h:¬(Sum.inr a:Key)=Sum.inr b:=fun q=>e (Sum.inr.inj q)
  rw [decide_eq_false h,decide_eq_false e]
theorem zl9 (a:Int) (b:Str):decide ((Sum.inl a:Key)=Sum.inr b)=false:=decide_eq_false (fun q=>nomatch q)
theorem zl8 (a:Str) (b:Int):decide ((Sum.inr a:Key)=Sum.inl b)=false:=decide_eq_false (fun q=>nomatch q)
def zfo (prog:Program) (w:World):PySem.KeyKind prog w Key where
 is:=zma
 hash:=keyH w
 inj:=fun v a b ha hb=>by
  rcases zaC ha with ⟨i,t,rfl,rfl⟩ | ⟨x,t,rfl,rfl⟩
  ·rcases zaC hb with ⟨j,u,rfl,e⟩ | ⟨y,u,rfl,e⟩
   ·injection e with e1 _;rw [e1]
   ·exact nomatch e
  ·rcases zaC hb with ⟨j,u,rfl,e⟩ | ⟨y,u,rfl,e⟩
   ·exact nomatch e
   ·injection e with e1 _;rw [e1]
 byValue:=fun k v h=>by
  rcases zaC h with ⟨i,t,rfl,rfl⟩ | ⟨x,t,rfl,rfl⟩ <;> rfl
 pyHash:=fun hv h=>by
  rcases zaC hv with ⟨i,t,rfl,rfl⟩ | ⟨x,t,rfl,rfl⟩
  ·exact wpAny_pyHash_int h
  ·exact wpAny_pyHash_str h
 eqBool:=fun hu hv h=>by
  rcases zaC hu with ⟨i,t,rfl,rfl⟩ | ⟨x,t,rfl,rfl⟩
  ·rcases zaC hv with ⟨j,u,rfl,rfl⟩ | ⟨y,u,rfl,rfl⟩
   ·rw [zl_] at h;exact wpAny_eqBool_int h
   ·rw [zl9] at h;exact SeqAt.EqAt.int_str i t y u _ _ _ _ h
  ·rcases zaC hv with ⟨j,u,rfl,rfl⟩ | ⟨y,u,rfl,rfl⟩
   ·rw [zl8] at h;exact SeqAt.EqAt.str_int x t j u _ _ _ _ h
   ·rw [zl7] at h;exact wpAny_eqBool_str h
 «strs»:=fun k x t v h=>by
  rcases zaC h with ⟨i,u,rfl,e⟩ | ⟨y,u,rfl,e⟩
  ·exact nomatch e
  ·injection e with e1 _
   subst e1
   cases v <;> rfl
end L2
namespace L2
open PySem PySem.Spec PyProof.Rows
inductive V where
 | non | bl (b:Bool) | int (i:Int) | str (x:Str) | byt (b:Array UInt8) | flt (b:UInt64) | ref (a:Addr) | ty (n:String)
 deriving DecidableEq
def RelV:V->Value->Prop
 | .non,u=>u=Value.none
 | .bl b,u=>u=Value.bool b
 | .int i,u=>∃ t,u=Value.int i t
 | .str x,u=>∃ t,u=Value.str x t
 | .byt b,u=>∃ t,u=Value.bytes b t
 | .flt b,u=>∃ t,u=Value.float b t
 | .ref a,u=>u=Value.ref a
 | .ty n,u=>u=Value.type n
abbrev Vals:List V->List Value->Prop:=Paired RelV
theorem Vals.length {xs:List V}{us:List Value} (r:Vals xs us):xs.length=us.length:=Paired.length r
theorem Vals.get:∀ {xs:List V}{us:List Value}{i:Nat}{x:V},Vals xs us->xs[i]?=some x->∃ u,us[i]?=some u/\RelV x u
 | _,_,_,_,.nil,e=>by simp at e
 | _,_,0,_,.cons r _,e=>by simp at e;subst e;exact ⟨_,rfl,r⟩
 | _,_,i+1,x,.cons _ t,e=>by
  obtain ⟨u,h1,h2⟩:=Vals.get (i:=i) (x:=x) t (by simpa using e)
  exact ⟨u,by simpa using h1,h2⟩
theorem Vals.set {x:V}{u:Value} (r:RelV x u):∀ {xs:List V}{us:List Value} (i:Nat),Vals xs us->Vals (xs.set i x) (us.set i u)
 | _,_,_,.nil=>.nil
 | _,_,0,.cons _ t=>.cons r t
 | _,_,i+1,.cons q t=>.cons q (Vals.set r i t)
theorem Vals.append:∀ {xs ys:List V}{us ws:List Value},Vals xs us->Vals ys ws->Vals (xs++ys) (us++ws)
 | _,_,_,_,.nil,s=>s
 | _,_,_,_,.cons r t,s=>.cons r (Vals.append t s)
theorem Vals.take:∀ {xs:List V}{us:List Value} (n:Nat),Vals xs us->Vals (xs.take n) (us.take n)
 | _,_,0,_=>.nil
 | _,_,_+1,.nil=>.nil
 | _,_,n+1,.cons r t=>.cons r (Vals.take n t)
theorem Vals.drop:∀ {xs:List V}{us:List Value} (n:Nat),Vals xs us->Vals (xs.drop n) (us.drop n)
 | _,_,0,r=>r
 | _,_,_+1,.nil=>.nil
 | _,_,n+1,.cons _ t=>Vals.drop n t
def RelO:Option V->Option Value->Prop
 | some v,some u=>RelV v u
 | none,none=>True
 | _,_=>False
def KV {κ:Type}:List (κ×V)->List (κ×Value)->Prop:=Paired fun (p:κ×V) (q:κ×Value)=>p.1=q.1/\RelV p.2 q.2
def kV:Key->V
 | .inl i=>.int i
 | .inr x=>.str x
inductive HO where
 | lst (xs:List V)
 | tup (xs:List V)
 | dK (kvs:List (Key×V)) | dT (kvs:List (List Key×V))
 | set (S:Int->Bool) (n:Nat)
 | ins (C dx:Addr) (fs:List (Str×V))
 | own (x:Addr)
 | xd (fs:List (Str×V))
 | met (f x:Addr)
 | rng (lo hi:Int)
 | frz (o:Obj) (u:HO)
 | tbl (ps:Array Value)
 | ext (φ:Heap->Prop)
abbrev Hp:=Addr->Option HO
def upd (H:Hp) (a:Addr) (o:HO):Hp:=fun b=>if b=a then some o else H b
theorem zax {H:Hp}{a:Addr}{o:HO}:upd H a o a=some o:=by unfold upd;rw [if_pos rfl]
theorem zar {H:Hp}{a b:Addr}{o:HO} (h:b≠a):upd H a o b=H b:=by unfold upd;rw [if_neg h]
theorem zaE {H:Hp}{a b:Addr}{o:HO} (h:H a=some o) (h':H b=none):a≠b:=by
 intro e;subst e;rw [h] at h';cases h'
def IsTD (h:Heap) (a:Addr) (items:Array Value):Prop:=∃ o,h.get? a=some o/\o.cls=.type "tuple" /\ (∃ n,o.data=.seq items n)/\o.dict=none
theorem IsTD.tup {h:Heap}{a:Addr}{items:Array Value} (x:IsTD h a items):IsTup h a items:=by
 obtain ⟨o,e,c,d,_⟩:=x
 exact ⟨o,e,c,d⟩
theorem IsTD.lt {h:Heap}{a:Addr}{items:Array Value} (x:IsTD h a items):a<h.objs.size:=x.tup.lt
theorem IsTD.new (h:Heap) (items:Array Value):IsTD (h.push { cls:=.type "tuple",data:=.seq items }) h.objs.size items:=⟨_,Heap.get?_push_size _ rfl,rfl,⟨_,rfl⟩,rfl⟩
section
variable (P:Program) (w:World)
def zbi (H:Hp) (h:Heap) (a:Addr):HO->Prop
 | .lst xs=>xs.length<=sizeLine/\∃ (its:List Value) (n:Nat),Vals xs its/\h.get? a=some { cls:=.type "list",data:=.seq its.toArray n }
 | .tup xs=>xs.length<=sizeLine/\∃ its:List Value,Vals xs its/\IsTD h a its.toArray
 | .dK kvs=>kvs.length<=sizeLine/\(a == sysModules)=false/\∃ vs,KV kvs vs/\h.DictOf (zfo P w) a vs
 | .dT kvs=>kvs.length<=sizeLine/\(a == sysModules)=false/\∃ xs:List (List Key×Addr×Value),
   Paired (fun (p:List Key×V) (q:List Key×Addr×Value)=>p.1=q.1/\H q.2.1=some (.tup (p.1.map kV))/\RelV p.2 q.2.2) kvs xs /\
   ∃ o es ep,h.get? a=some o/\o.ExactDict/\o.data=.dict es ep/\es.toList=xs.map (entryOfKey (tupleKind (zfo P w)))/\(xs.map (·.1)).Nodup
 | .set S n=>h.SetOf (intKind P w) a S n
 | .ins C dx fs=>H dx=some (.own a)/\fs.length<=1000/\dx≠a/\h.get? a=some (PySem.W.instObj C dx) /\
   ∃ mA,h.Ns1 dx mA/\(∀ f,RelO (fs.lookup f) (mA f))/\PySem.Within mA (fs.map (·.1))
 | .own _=>∃ o,h.get? a=some o
 | .xd fs=>∃ mA,h.Ns1 a mA/\∀ f,RelO (fs.lookup f) (mA f)
 | .rng lo hi=>∃ t u v,h.get? a=some { cls:=.type "range",data:=.fields #[.int lo t,.int hi u,.int 1 v] }
 | .frz o u=>h.get? a=some o/\zbi H h a u
 | .tbl ps=>h.get? a=some { cls:=.none,data:=.fields ps }
 | .met f x=>h.get? a=some (PySem.W.methodObj (.ref f) (.ref x))
 | .ext φ=>φ h/\(∃ o,h.get? a=some o)/\∀ h1 h2:Heap,φ h1->(∀ o,h1.get? a=some o->h2.get? a=some o)->φ h2
def HOk (H:Hp) (h:Heap):Prop:=∀ a o,H a=some o->zbi P w H h a o
end
section
variable {P:Program}{w:World}{H H':Hp}{h h':Heap}{a:Addr}{o:HO}
theorem zbi.lt (x:zbi P w H h a o):a<h.objs.size:=by
 cases o with
 | lst xs=>obtain ⟨_,_,_,_,e⟩:=x;exact Heap.lt_size e
 | tup xs=>obtain ⟨_,_,_,p⟩:=x;exact p.lt
 | dK kvs=>obtain ⟨_,_,_,_,o,_,_,e,_⟩:=x;exact Heap.lt_size e
 | dT kvs=>obtain ⟨_,_,_,_,o,_,_,e,_⟩:=x;exact Heap.lt_size e
 | set S n=>obtain ⟨o,_,_,_,e,_⟩:=x;exact Heap.lt_size e
 | ins C dx fs=>obtain ⟨_,_,_,e,_⟩:=x;exact Heap.lt_size e
 | own y=>obtain ⟨_,e⟩:=x;exact Heap.lt_size e
 | xd fs=>obtain ⟨_,⟨_,_,_,e,_⟩,_⟩:=x;exact Heap.lt_size e
 | rng lo hi=>obtain ⟨_,_,_,e⟩:=x;exact Heap.lt_size e
 | frz ob u=>obtain ⟨e,_⟩:=x;exact Heap.lt_size e
 | tbl ps=>exact Heap.lt_size (show h.get? a=some _ from x)
 | met f y=>exact Heap.lt_size (show h.get? a=some _ from x)
 | ext φ=>obtain ⟨_,⟨_,e⟩,_⟩:=x;exact Heap.lt_size e
theorem Paired.mapP {α β:Type}{F G:α->β->Prop}:∀ {l₁:List α}{l₂:List β},Paired F l₁ l₂->(∀ a b,F a b->G a b)->Paired G l₁ l₂
 | _,_,.nil,_=>.nil
 | _,_,.cons r t,f=>.cons (f _ _ r) (Paired.mapP t f)
theorem zbi.stay (x:zbi P w H h a o) (k:∀ b u,(b=a\/H b=some (.own a))->h.get? b=some u->h'.get? b=some u)
  (ho:∀ b,H b=some (.own a)->H' b=some (.own a)) (ht:∀ b xs,H b=some (.tup xs)->H' b=some (.tup xs)):zbi P w H' h' a o:=by
 induction o with
 | lst xs=>obtain ⟨z,its,n,r,e⟩:=x;exact ⟨z,its,n,r,k _ _ (.inl rfl) e⟩
 | tup xs=>obtain ⟨z,its,r,ob,e,c⟩:=x;exact ⟨z,its,r,ob,k _ _ (.inl rfl) e,c⟩
 | dK kvs=>obtain ⟨z,y,vs,r,ob,es,ep,e,c⟩:=x;exact ⟨z,y,vs,r,ob,es,ep,k _ _ (.inl rfl) e,c⟩
 | dT kvs =>
  obtain ⟨z,y,xs,r,ob,es,ep,e,c⟩:=x
  exact ⟨z,y,xs,Paired.mapP r fun p q z=>⟨z.1,ht _ _ z.2.1,z.2.2⟩,ob,es,ep,k _ _ (.inl rfl) e,c⟩
 | set S n=>obtain ⟨ob,es,ep,t,e,c⟩:=x;exact ⟨ob,es,ep,t,k _ _ (.inl rfl) e,c⟩
 | ins C dx fs =>
  obtain ⟨d,z,ne,e,mA,⟨od,es,ep,e2,c⟩,r⟩:=x
  exact ⟨ho _ d,z,ne,k _ _ (.inl rfl) e,mA,⟨od,es,ep,k _ _ (.inr d) e2,c⟩,r⟩
 | own y=>obtain ⟨ob,e⟩:=x;exact ⟨ob,k _ _ (.inl rfl) e⟩
 | xd fs=>obtain ⟨mA,⟨od,es,ep,e,c⟩,r⟩:=x;exact ⟨mA,⟨od,es,ep,k _ _ (.inl rfl) e,c⟩,r⟩
 | rng lo hi=>obtain ⟨t,u,v,e⟩:=x;exact ⟨t,u,v,k _ _ (.inl rfl) e⟩
 | frz ob u ih=>obtain ⟨e,q⟩:=x;exact ⟨k _ _ (.inl rfl) e,ih q⟩
 | tbl ps =>
  have e:h.get? a=some { cls:=.none,data:=.fields ps }:=x
  show h'.get? a=some { cls:=.none,data:=.fields ps }
  exact k a _ (.inl rfl) e
 | met f y =>
  have e:h.get? a=some (PySem.W.methodObj (.ref f) (.ref y)):=x
  show h'.get? a=some (PySem.W.methodObj (.ref f) (.ref y))
  exact k a _ (.inl rfl) e
 | ext φ=>obtain ⟨p,⟨o,e⟩,st⟩:=x;exact ⟨st _ _ p fun o q=>k _ _ (.inl rfl) q,⟨o,k _ _ (.inl rfl) e⟩,st⟩
theorem HOk.lt (x:HOk P w H h) (e:H a=some o):a<h.objs.size:=(x a o e).lt
theorem HOk.fresh (x:HOk P w H h) (e:h.objs.size<=a):H a=none:=by
 cases q:H a with
 | none=>rfl
 | some u=>exact absurd (Nat.lt_of_lt_of_le (x.lt q) e) (Nat.lt_irrefl _)
theorem HOk.kept (x:HOk P w H h) (k:∀ b u,h.get? b=some u->h'.get? b=some u):HOk P w H h':=fun a o e =>
 (x a o e).stay (fun b u _ q=>k b u q) (fun _ q=>q) fun _ _ q=>q
theorem HOk.laid (x:HOk P w H h) (k:∀ b u,h.get? b=some u->h'.get? b=some u) (hp:h.objs.size<=a) (new:zbi P w (upd H a o) h' a o):HOk P w (upd H a o) h':=fun b u e=>by
 have hn:=x.fresh hp
 by_cases hb:b=a
 ·subst hb;rw [zax] at e;cases e;exact new
 ·rw [zar hb] at e
  exact (x b u e).stay (fun c v _ q=>k c v q) (fun c q=>by rw [zar (zaE q hn)];exact q) fun c xs q=>by rw [zar (zaE q hn)];exact q
end
def Rd (H:Hp) (a:Addr) (u:HO):Prop:=H a=some u\/∃ o,H a=some (.frz o u)
theorem Rd.ok {P:Program}{w:World}{H:Hp}{h:Heap}{a:Addr}{u:HO} (r:Rd H a u) (x:HOk P w H h):zbi P w H h a u:=by
 rcases r with r | ⟨o,r⟩
 ·exact x a u r
 ·obtain ⟨_,q⟩:=x a _ r
  exact q
def Mut:Option HO->Prop
 | some (.lst _)=>True
 | some (.dK _)=>True
 | some (.dT _)=>True
 | some (.set _ _)=>True
 | some (.ins _ _ _)=>True
 | some (.ext _)=>True
 | _=>False
section
variable {P:Program}{w:World}{H:Hp}{h h':Heap}{x e:Addr}{o':HO}
theorem HOk.write (ok:HOk P w H h) (mu:Mut (H x)) (he:e=x\/H e=some (.own x)) (k:∀ b u,b≠e->h.get? b=some u->h'.get? b=some u) (heo:∃ u,h'.get? e=some u)
  (new:zbi P w (upd H x o') h' x o'):HOk P w (upd H x o') h':=fun b u q=>by
 have nown:∀ c y,H c=some (.own y)->c≠x:=fun c y r z=>by subst z;rw [r] at mu;exact mu
 have ntup:∀ c xs,H c=some (.tup xs)->c≠x:=fun c xs r z=>by subst z;rw [r] at mu;exact mu
 by_cases hb:b=x
 ·subst hb;rw [zax] at q;cases q;exact new
 ·rw [zar hb] at q
  by_cases hbe:b=e
  ·have q':H b=some (.own x):=by
    rcases he with z | z
    ·exact absurd (hbe.trans z) hb
    ·rw [hbe];exact z
   rw [q] at q';cases q'
   obtain ⟨v,hv⟩:=heo
   exact ⟨v,by rw [hbe];exact hv⟩
  ·refine (ok b u q).stay (fun c v hc r=>k c v ?_ r) (fun c r=>by rw [zar (nown c b r)];exact r) fun c xs r=>by rw [zar (ntup c xs r)];exact r
   rcases hc with rfl | hc
   ·exact hbe
   ·rintro rfl
    rcases he with z | z
    ·exact nown c b hc z
    ·rw [hc] at z;cases z;exact hb rfl
end
structure Un (fs ex:List Addr) (H H':Hp) (h h':Heap):Prop where
 keep:∀ b o,h.get? b=some o->H b=none->b∉fs->b∉ex->h'.get? b=some o
 slot:∀ b o,h.get? b=some o->H b=none->b∈fs->b∉ex->∃ sl,h'.get? b=some { o with slots:=sl }
 free:∀ b o,h.get? b=some o->H b=none->b∉ex->H' b=none
 there:∀ b o,h.get? b=some o->b∉ex->∃ o',h'.get? b=some o'
 tups:∀ b xs,H b=some (.tup xs)->H' b=some (.tup xs)
 frzs:∀ b o u,H b=some (.frz o u)->H' b=some (.frz o u)
 tbls:∀ b ps,H b=some (.tbl ps)->∃ more,H' b=some (.tbl (ps++more))
section
variable {fs fs' ex ex':List Addr}{H H1 H2:Hp}{h h1 h2 h':Heap}{a x e:Addr}{o:HO}
theorem Un.any (u:Un fs ex H H1 h h1) {b:Addr}{ob:Obj} (q:h.get? b=some ob) (n:H b=none) (hx:b∉ex):∃ sl,h1.get? b=some { ob with slots:=sl }:=by
 by_cases hb:b∈fs
 ·exact u.slot b ob q n hb hx
 ·exact ⟨ob.slots,u.keep b ob q n hb hx⟩
theorem Un.kept (k:∀ b u,h.get? b=some u->h'.get? b=some u):Un fs ex H H h h' :=
 ⟨fun b ob q _ _ _=>k b ob q,fun b ob q _ _ _=>⟨ob.slots,k b ob q⟩,fun _ _ _ n _=>n,fun b ob q _=>⟨ob,k b ob q⟩,fun _ _ q=>q,fun _ _ _ q=>q,fun _ ps q=>⟨#[],by rw [q];simp⟩⟩
theorem Un.refl:Un fs ex H H h h:=Un.kept fun _ _ q=>q
theorem Un.laid (k:∀ b u,h.get? b=some u->h'.get? b=some u) (hp:h.objs.size<=a) (hn:H a=none):Un fs ex H (upd H a o) h h' where
 keep:=fun b u q _ _ _=>k b u q
 slot:=fun b u q _ _ _=>⟨u.slots,k b u q⟩
 free:=fun b u q n _=>by rw [zar (Nat.ne_of_lt (Nat.lt_of_lt_of_le (Heap.lt_size q) hp))];exact n
 there:=fun b u q _=>⟨u,k b u q⟩
 tups:=fun b xs q=>by rw [zar (zaE q hn)];exact q
 frzs:=fun b u xs q=>by rw [zar (zaE q hn)];exact q
 tbls:=fun b ps q=>⟨#[],by rw [zar (zaE q hn),q];simp⟩
theorem Un.write (mu:Mut (H x)) (he:e=x\/H e=some (.own x)) (k:∀ b u,b≠e->h.get? b=some u->h'.get? b=some u) (heo:∃ u,h'.get? e=some u):Un fs ex H (upd H x o) h h':=by
 have hx:∀ b,H b=none->b≠x:=fun b n z=>by subst z;rw [n] at mu;exact mu
 have hb:∀ b,H b=none->b≠e:=fun b n z=>by
  subst z
  rcases he with r | r
  ·exact hx b n r
  ·rw [n] at r;cases r
 have hm:∀ b u,H b=some u->¬Mut (some u)->b≠x:=fun b u q nm z=>by subst z;rw [q] at mu;exact nm mu
 refine ⟨fun b u q n _ _=>k b u (hb b n) q,fun b u q n _ _=>⟨u.slots,k b u (hb b n) q⟩,fun b u q n _=>by rw [zar (hx b n)];exact n,fun b u q _=>?_,
  fun b xs q=>by rw [zar (hm b _ q fun z=>z)];exact q,fun b u xs q=>by rw [zar (hm b _ q fun z=>z)];exact q,fun b ps q=>⟨#[],by rw [zar (hm b _ q fun z=>z),q];simp⟩⟩
 by_cases hbe:b=e
 ·subst hbe;exact heo
 ·exact ⟨u,k b u hbe q⟩
end
def trk (h:Heap) (H:Hp):List Addr:=(List.range h.objs.size).filter fun a=>(H a).isSome
def hidT (h:Heap) (H:Hp):Heap:=PySem.W.hideAll h (trk h H)
theorem zhD (h:Heap) (H:Hp):(hidT h H).objs.size=h.objs.size:=PySem.W.hideAll_size _ _
theorem zi3 {h:Heap}{H:Hp}{b:Addr}{o:Obj} (e:h.get? b=some o) (n:H b=none):(hidT h H).get? b=some o :=
 PySem.W.hideAll_get _ e fun hm=>by
  have q:(H b).isSome=true:=(List.mem_filter.mp hm).2
  rw [n] at q;simp at q
theorem zkc {h:Heap}{H:Hp}{b:Addr}{o:Obj} (e:(hidT h H).get? b=some o):h.get? b=some o/\H b=none:=by
 have e':h.get? b=some o:=PySem.W.of_hideAll (trk h H) e
 refine ⟨e',?_⟩
 cases q:H b with
 | none=>rfl
 | some x =>
  have hm:b∈trk h H:=List.mem_filter.mpr ⟨List.mem_range.mpr (Heap.lt_size e'),by simp [q]⟩
  have z:(hidT h H).get? b=none:=PySem.W.hideAll_none (trk h H) hm
  rw [z] at e;cases e
end L2
namespace L2
open PySem PySem.Spec PyProof.Rows
structure Mod (K:PySem.W.Frag) (mg:Str->Option Value) (base:Heap):Prop where
 kin:K.In base
 glob:base.Ns mainGlobals mg
 blt:∃ mb,base.Ns builtinsNs mb/\∀ x:Str,x ≠ "__name__" -> mb x=bootBuiltins x
 nolimit:base.NoLimit
structure Cx where
 prog:Program
 w:World
 K:PySem.W.Frag
 mg:Str->Option Value
 base:Heap
 A:Around
 N:List Str
 s₀:Shared
 H₀:Hp
 env:Env
 outer:List Env
 stack:List Env
 ex:List Addr
 fn:Str->Bool
 calm:Bool
 pn:List (Addr×Obj)
 xe:Value->Shared->Prop
def frs (l:List Env):List Addr:=l.filterMap (·.frame)
abbrev Cx.fs (X:Cx):List Addr:=frs X.outer
def Vis (sc:Scope) (x:Str):Prop:=sc.names.lookup x=some .local\/sc.names.lookup x=some .cell\/sc.names.lookup x=some .free
def Loc (sc:Scope) (x:Str):Prop:=sc.names.lookup x=some .local\/sc.names.lookup x=some .cell
def Look (env:Env) (h:Heap) (m:Str->Option Value) (x:Str) (u:Value):Prop :=
 (env.kindOf x=some .local/\m x=some u)\/((env.kindOf x=some .cell\/env.kindOf x=some .free)/\∃ c,env.cells.lookup x=some c/\h.IsCell c (some u))
structure Cx.Ok (X:Cx):Prop where
 mod:Mod X.K X.mg X.base
 kind:X.env.scope.kind=.function
 glob:X.env.globals=mainGlobals
 blt:X.env.builtins=builtinsNs
 above:X.s₀.heap.objs.size<=X.env.locals
 inj:∀ x y c,X.env.cells.lookup x=some c->X.env.cells.lookup y=some c->x=y
 has:∀ x,(X.env.kindOf x=some .cell\/X.env.kindOf x=some .free)->∃ c,X.env.cells.lookup x=some c
 cab:∀ x c,X.fn x=true->X.env.cells.lookup x=some c->X.s₀.heap.objs.size<=c
 hd:X.calm=true->X.A.handled=none
 frames:X.A.frames=some X.stack
 stk:X.stack=X.outer\/(X.stack=X.env::X.outer/\X.env.frame=some X.env.locals)
 exf:∀ b∈X.ex,b≠X.env.locals/\∀ x c,X.env.cells.lookup x=some c->c≠b
 bs:∀ b o,X.base.get? b=some o->X.s₀.heap.get? b=some o/\X.H₀ b=none
 bsz:X.base.objs.size<=X.s₀.heap.objs.size
 noex:∀ b o,X.base.get? b=some o->b∉X.ex
 exfs:∀ b∈X.ex,b∉X.fs
 funs:X.s₀.heap.FunFrames X.base X.outer
 frf:∀ b∈X.fs,X.H₀ b=none
structure Inv (X:Cx) (pins:List (Addr×Obj)) (σ:List (Option V)) (H:Hp) (s:Shared):Prop where
 ok:X.Ok
 os:s.os=X.s₀.os
 bare:AllBare s.gens
 base:Un X.fs X.ex X.H₀ H X.s₀.heap s.heap
 loc:∃ m,s.heap.Ns X.env.locals m/\∀ (i:Nat) (x:Str) (v:V),X.N[i]?=some x->σ[i]?=some (some v)->Vis X.env.scope x->∃ u,RelV v u/\Look X.env s.heap m x u
 cell:∀ x c,X.env.cells.lookup x=some c->∃ v,s.heap.IsCell c v
 free:H X.env.locals=none
 freeC:∀ x c,X.env.cells.lookup x=some c->H c=none
 pin:∀ p∈X.pn++pins,s.heap.get? p.1=some p.2/\H p.1=none/\p.1≠X.env.locals/\p.1∉X.fs/\∀ v,p.2.data≠.cell v
 hok:HOk X.prog X.w H s.heap
 len:σ.length=X.N.length
section
variable {X:Cx}{pins:List (Addr×Obj)}{σ:List (Option V)}{H H':Hp}{s:Shared}{h':Heap}
theorem Cx.Ok.nofr (ok:X.Ok) {b:Addr}{o:Obj} (e:X.base.get? b=some o):b∉X.fs:=fun hb=>by
 have:=(ok.funs.mem hb).1
 rw [e] at this;cases this
theorem Inv.bs (I:Inv X pins σ H s):∀ b o,X.base.get? b=some o->s.heap.get? b=some o/\H b=none:=fun b o e =>
 ⟨I.base.keep b o (I.ok.bs b o e).1 (I.ok.bs b o e).2 (I.ok.nofr e) (I.ok.noex b o e),I.base.free b o (I.ok.bs b o e).1 (I.ok.bs b o e).2 (I.ok.noex b o e)⟩
theorem Inv.bk (I:Inv X pins σ H s):∀ b o,X.base.get? b=some o->s.heap.get? b=some o:=fun b o e=>(I.bs b o e).1
theorem Inv.mod (I:Inv X pins σ H s):Mod X.K X.mg X.base:=I.ok.mod
theorem Inv.kIn (I:Inv X pins σ H s):X.K.In s.heap:=I.ok.mod.kin.keeps I.bk
theorem Inv.lt (I:Inv X pins σ H s):X.env.locals<s.heap.objs.size:=let ⟨_,hn,_⟩:=I.loc;hn.lt
theorem Inv.sz (I:Inv X pins σ H s):X.s₀.heap.objs.size<=s.heap.objs.size:=Nat.le_trans I.ok.above (Nat.le_of_lt I.lt)
theorem Inv.nofs (I:Inv X pins σ H s) {a:Addr} (h:s.heap.objs.size<=a):a∉X.fs:=fun hb=>by
 obtain ⟨_,o,ho,_⟩:=I.ok.funs.mem hb
 exact absurd (Nat.lt_of_lt_of_le (Heap.lt_size ho) (Nat.le_trans I.sz h)) (Nat.lt_irrefl _)
theorem Inv.cne (I:Inv X pins σ H s):∀ x c,X.env.cells.lookup x=some c->c≠X.env.locals:=fun x c e z=>by
 obtain ⟨v,o,ho,hd⟩:=I.cell x c e
 obtain ⟨m,⟨o',es,ep,ho',hd',_⟩,_⟩:=I.loc
 rw [z,ho'] at ho;cases ho;rw [hd'] at hd;cases hd
theorem Inv.funs (I:Inv X pins σ H s):s.heap.FunFrames X.base X.outer:=by
 have all:∀ (l:List Env),(∀ b∈frs l,b∈X.fs)->X.s₀.heap.FunFrames X.base l->s.heap.FunFrames X.base l:=by
  intro l
  induction l with
  | nil=>intro _ _;trivial
  | cons env r ih =>
   intro hs hl
   obtain ⟨hk,⟨L,o,hf,hn,ho,hd⟩,hr⟩:=hl
   have hL:L∈X.fs:=hs L (by unfold frs;rw [List.filterMap_cons,hf];exact List.mem_cons_self)
   obtain ⟨sl,e⟩:=I.base.slot L o ho (I.ok.frf L hL) hL fun z=>I.ok.exfs L z hL
   exact ⟨hk,⟨L,_,hf,hn,e,hd⟩,ih (fun b hb=>hs b (by unfold frs;rw [List.filterMap_cons,hf];exact List.mem_cons_of_mem _ hb)) hr⟩
 exact all X.outer (fun _ hb=>hb) I.ok.funs
theorem Inv.stack (I:Inv X pins σ H s):s.heap.FunFrames X.base X.stack:=by
 rcases I.ok.stk with e | ⟨e,hf⟩
 ·rw [e];exact I.funs
 ·rw [e]
  obtain ⟨m,hn,_⟩:=I.loc
  refine .cons (by rw [I.ok.kind];decide) hf hn ?_ I.funs
  exact Heap.get?_none_of_le (Nat.le_trans I.ok.bsz I.ok.above)
theorem Inv.stkSub (I:Inv X pins σ H s):∀ b∈frs X.stack,b∈X.env.locals::X.fs:=fun b hb=>by
 rcases I.ok.stk with e | ⟨e,hf⟩
 ·rw [e] at hb;exact List.mem_cons_of_mem _ hb
 ·rw [e] at hb
  unfold frs at hb
  rw [List.filterMap_cons,hf] at hb
  exact hb
theorem Inv.stkFree (I:Inv X pins σ H s):∀ b∈frs X.stack,H b=none:=fun b hb=>by
 rcases List.mem_cons.mp (I.stkSub b hb) with e | hb
 ·rw [e];exact I.free
 ·obtain ⟨_,o,ho,_⟩:=I.ok.funs.mem hb
  exact I.base.free b o ho (I.ok.frf b hb) fun z=>I.ok.exfs b z hb
theorem Inv.step {g':Array GenState}{t':Nat}{d':Drawn}{ch:List Addr} (I:Inv X pins σ H s)
  (hch:∀ b∈ch,(b∈X.ex\/X.s₀.heap.objs.size<=b)/\b≠X.env.locals/\(∀ x c,X.env.cells.lookup x=some c->c≠b)/\∀ p∈X.pn++pins,p.1≠b)
  (keep:∀ b o,b≠X.env.locals->b∉X.fs->b∉ch->s.heap.get? b=some o->H b=none->h'.get? b=some o)
  (slot:∀ b o,b≠X.env.locals->b∈X.fs->b∉ch->s.heap.get? b=some o->H b=none->∃ sl,h'.get? b=some { o with slots:=sl }) (free:∀ b o,b∉ch->s.heap.get? b=some o->H b=none->H' b=none)
  (there:∀ b o,b∉ch->s.heap.get? b=some o->∃ o',h'.get? b=some o')
  (tups:∀ b xs,H b=some (.tup xs)->H' b=some (.tup xs)) (frzs:∀ b o u,H b=some (.frz o u)->H' b=some (.frz o u)) (tbls:∀ b ps,H b=some (.tbl ps)->∃ more,H' b=some (.tbl (ps++more)))
  (ns:∀ m,s.heap.Ns X.env.locals m->h'.Ns X.env.locals m) (hok:HOk X.prog X.w H' h') (hg:AllBare g') :
  Inv X pins σ H' { s with heap:=h',gens:=g',drawn:=d',toks:=t' }:=by
 have neL:∀ b o,X.s₀.heap.get? b=some o->b≠X.env.locals:=fun b o e=>Nat.ne_of_lt (Nat.lt_of_lt_of_le (Heap.lt_size e) I.ok.above)
 have neC:∀ b o,X.s₀.heap.get? b=some o->b∉X.ex->b∉ch:=fun b o e hx hb=>by
  rcases (hch b hb).1 with z | z
  ·exact hx z
  ·exact absurd (Nat.lt_of_lt_of_le (Heap.lt_size e) z) (Nat.lt_irrefl _)
 have cellK:∀ x c,X.env.cells.lookup x=some c->∀ v,s.heap.IsCell c v->h'.IsCell c v:=fun x c e v ⟨o,ho,hd⟩=>by
  have nch:c∉ch:=fun z=>(hch c z).2.2.1 x c e rfl
  by_cases hc:c∈X.fs
  ·obtain ⟨sl,q⟩:=slot c o (I.cne x c e) hc nch ho (I.freeC x c e)
   exact ⟨_,q,hd⟩
  ·exact ⟨o,keep c o (I.cne x c e) hc nch ho (I.freeC x c e),hd⟩
 refine ⟨I.ok,I.os,hg,⟨fun b o e n hb hx=>?_,fun b o e n hb hx=>?_,fun b o e n hx=>?_,fun b o e hx=>?_,fun b xs e=>tups b xs (I.base.tups b xs e),fun b o xs e=>frzs b o xs (I.base.frzs b o xs e),fun b ps e=>?_⟩,?_,fun x c e=>?_,?_,fun x c e=>?_,fun p hp=>?_,hok,I.len⟩
 ·exact keep b o (neL b o e) hb (neC b o e hx) (I.base.keep b o e n hb hx) (I.base.free b o e n hx)
 ·obtain ⟨sl,e1⟩:=I.base.slot b o e n hb hx
  obtain ⟨sl',e2⟩:=slot b _ (neL b o e) hb (neC b o e hx) e1 (I.base.free b o e n hx)
  exact ⟨sl',e2⟩
 ·obtain ⟨o',e1⟩:=I.base.there b o e hx
  exact free b o' (neC b o e hx) e1 (I.base.free b o e n hx)
 ·obtain ⟨o',e1⟩:=I.base.there b o e hx
  exact there b o' (neC b o e hx) e1
 ·obtain ⟨m1,e1⟩:=I.base.tbls b ps e
  obtain ⟨m2,e2⟩:=tbls b _ e1
  exact ⟨m1++m2,by rw [e2,Array.append_assoc]⟩
 ·obtain ⟨m,hn,hl⟩:=I.loc
  refine ⟨m,ns m hn,fun i x v e1 e2 e3=>?_⟩
  obtain ⟨u,r,l⟩:=hl i x v e1 e2 e3
  refine ⟨u,r,?_⟩
  rcases l with l | ⟨k,c,e,z⟩
  ·exact .inl l
  ·exact .inr ⟨k,c,e,cellK x c e _ z⟩
 ·obtain ⟨v,z⟩:=I.cell x c e
  exact ⟨v,cellK x c e v z⟩
 ·obtain ⟨m,⟨o,_,_,ho,_⟩,_⟩:=I.loc
  exact free _ o (fun z=>(hch _ z).2.1 rfl) ho I.free
 ·obtain ⟨v,o,ho,hd⟩:=I.cell x c e
  exact free c o (fun z=>(hch c z).2.2.1 x c e rfl) ho (I.freeC x c e)
 ·obtain ⟨e,n,ne,nf,d⟩:=I.pin p hp
  have nch:p.1∉ch:=fun z=>(hch p.1 z).2.2.2 p hp rfl
  exact ⟨keep p.1 p.2 ne nf nch e n,free p.1 p.2 nch e n,ne,nf,d⟩
theorem Inv.un {t':Nat} (I:Inv X pins σ H s) (u:Un X.fs [] H H' s.heap h') (hok:HOk X.prog X.w H' h'):Inv X pins σ H' { s with heap:=h',toks:=t' }:=by
 obtain ⟨m,⟨o,es,ep,ho,r⟩,_⟩:=id I.loc
 obtain ⟨sl,hL⟩:=u.any ho I.free (by simp)
 exact I.step (g':=s.gens) (d':=s.drawn) (ch:=[]) (fun _ z=>nomatch z) (fun b o _ hb _ e n=>u.keep b o e n hb (by simp)) (fun b o _ hb _ e n=>u.slot b o e n hb (by simp)) (fun b o _ e n=>u.free b o e n (by simp)) (fun b o _ e=>u.there b o e (by simp)) u.tups u.frzs u.tbls (fun m' hm=>by
  obtain ⟨o',es',ep',ho',r'⟩:=hm
  rw [ho] at ho';cases ho'
  exact ⟨_,es',ep',hL,r'⟩) hok I.bare
theorem Inv.call {g':Array GenState}{t':Nat}{d':Drawn}{ch:List Addr} (I:Inv X pins σ H s) (u:Un (frs X.stack) ch H H' s.heap h') (hok:HOk X.prog X.w H' h') (hg:AllBare g')
  (hch:∀ b∈ch,(b∈X.ex\/X.s₀.heap.objs.size<=b)/\b≠X.env.locals/\(∀ x c,X.env.cells.lookup x=some c->c≠b)/\∀ p∈X.pn++pins,p.1≠b) :
  Inv X pins σ H' { s with heap:=h',gens:=g',drawn:=d',toks:=t' }:=by
 obtain ⟨m,⟨o,es,ep,ho,r⟩,_⟩:=id I.loc
 obtain ⟨sl,hL⟩:=u.any ho I.free fun z=>(hch _ z).2.1 rfl
 exact I.step (ch:=ch) hch (fun b o hL hb hc e n=>u.keep b o e n (fun z=>(List.mem_cons.mp (I.stkSub b z)).elim hL hb) hc) (fun b o _ _ hc e n=>u.any e n hc) (fun b o hc e n=>u.free b o e n hc) (fun b o hc e=>u.there b o e hc) u.tups u.frzs u.tbls (fun m' hm=>by
  obtain ⟨o',es',ep',ho',r'⟩:=hm
  rw [ho] at ho';cases ho'
  exact ⟨_,es',ep',hL,r'⟩) hok hg
theorem Inv.turned {t':Nat}{it:Addr} (I:Inv X pins σ H s) (k:∀ b o,b≠it->s.heap.get? b=some o->h'.get? b=some o) (hn:H it=none) (hL:it≠X.env.locals)
  (h1:it∈X.ex\/X.s₀.heap.objs.size<=it) (h2:∀ x c,X.env.cells.lookup x=some c->c≠it) (h3:∀ p∈X.pn++pins,p.1≠it):Inv X pins σ H { s with heap:=h',toks:=t' }:=by
 have nit:∀ b u,H b=some u->b≠it:=fun b u e z=>by rw [z,hn] at e;cases e
 refine I.step (g':=s.gens) (d':=s.drawn) (ch:=[it]) (fun b hb=>?_) (fun b o _ _ hc e _=>k b o (fun z=>hc (by simp [z])) e) (fun b o _ _ hc e _=>⟨o.slots,k b o (fun z=>hc (by simp [z])) e⟩) (fun _ _ _ _ n=>n)
  (fun b o hc e=>⟨o,k b o (fun z=>hc (by simp [z])) e⟩) (fun _ _ e=>e) (fun _ _ _ e=>e) (fun b ps e=>⟨#[],by rw [e];simp⟩) (fun m hm=>?_) (fun b u e=>?_) I.bare
 ·have e:b=it:=by simpa using hb
  subst e
  exact ⟨h1,hL,h2,h3⟩
 ·obtain ⟨o,es,ep,ho,r⟩:=hm
  exact ⟨o,es,ep,k _ o (Ne.symm hL) ho,r⟩
 ·refine (I.hok b u e).stay (fun c v hc q=>k c v ?_ q) (fun _ q=>q) fun _ _ q=>q
  rcases hc with z | z
  ·rw [z];exact nit b u e
  ·exact nit c _ z
theorem Inv.tok (I:Inv X pins σ H s) (t:Nat):Inv X pins σ H { s with toks:=t }:=I.un (h':=s.heap) (t':=t) Un.refl I.hok
theorem Inv.kept {t':Nat} (I:Inv X pins σ H s) (k:∀ b u,s.heap.get? b=some u->h'.get? b=some u):Inv X pins σ H { s with heap:=h',toks:=t' }:=I.un (Un.kept k) (I.hok.kept k)
theorem Inv.laid {a:Addr}{o:HO}{t':Nat} (I:Inv X pins σ H s) (k:∀ b u,s.heap.get? b=some u->h'.get? b=some u) (hp:s.heap.objs.size<=a) (new:zbi X.prog X.w (upd H a o) h' a o) :
  Inv X pins σ (upd H a o) { s with heap:=h',toks:=t' }:=I.un (Un.laid k hp (I.hok.fresh hp)) (I.hok.laid k hp new)
theorem Inv.write {x e:Addr}{o:HO}{t':Nat} (I:Inv X pins σ H s) (mu:Mut (H x)) (he:e=x\/H e=some (.own x)) (k:∀ b u,b≠e->s.heap.get? b=some u->h'.get? b=some u) (heo:∃ u,h'.get? e=some u)
  (new:zbi X.prog X.w (upd H x o) h' x o):Inv X pins σ (upd H x o) { s with heap:=h',toks:=t' }:=I.un (Un.write mu he k heo) (I.hok.write mu he k heo new)
theorem Inv.weak {σ':List (Option V)} (I:Inv X pins σ H s) (hl:σ'.length=σ.length) (w:∀ (i:Nat) v,σ'[i]?=some (some v)->σ[i]?=some (some v)):Inv X pins σ' H s :=
 ⟨I.ok,I.os,I.bare,I.base,let ⟨m,hn,hl'⟩:=I.loc;⟨m,hn,fun i x v e1 e2 e3=>hl' i x v e1 (w i v e2) e3⟩,I.cell,I.free,I.freeC,I.pin,I.hok,hl.trans I.len⟩
theorem Inv.pins_of {pins':List (Addr×Obj)} (I:Inv X pins σ H s) (h:∀ p∈pins',s.heap.get? p.1=some p.2/\H p.1=none/\p.1≠X.env.locals/\p.1∉X.fs/\∀ v,p.2.data≠.cell v):Inv X pins' σ H s :=
 ⟨I.ok,I.os,I.bare,I.base,I.loc,I.cell,I.free,I.freeC,fun p hp=>(List.mem_append.mp hp).elim (fun z=>I.pin p (List.mem_append_left _ z)) (h p),I.hok,I.len⟩
theorem zf7 {N:List Str} (hN:N.Nodup) {i j:Nat}{x:Str} (a:N[i]?=some x) (b:N[j]?=some x):i=j:=by
 obtain ⟨h1,e1⟩:=List.getElem?_eq_some_iff.mp a
 obtain ⟨h2,e2⟩:=List.getElem?_eq_some_iff.mp b
 exact (List.getElem_inj hN).mp (e1.trans e2.symm)
theorem zgP {M:Model}{A:Around}{E:Value->Shared->Prop}{i:Nat}{x:Str}{v:V}{u:Value}{Q:Unit->Shared->Prop} (I:Inv X pins σ H s) (hN:X.N.Nodup) (hi:X.N[i]?=some x) (hx:Loc X.env.scope x) (r:RelV v u)
  (h:∀ s',Inv X pins (σ.set i (some v)) H s'->(∃ a,Heap.SameBut a s.heap s'.heap/\(a=X.env.locals\/X.env.cells.lookup x=some a))->Q () s') (hf:X.fn x=true\/X.env.scope.names.lookup x=some .local:=by first | exact .inl rfl | exact .inr rfl | assumption):wpAny M A (storeName X.env x u) Q E s:=by
 obtain ⟨m,hn,hl⟩:=id I.loc
 have hcls:(X.env.scope.kind == .class||(X.env.scope.kind == .module&&X.env.locals != X.env.globals))=false:=by rw [I.ok.kind];rfl
 have hiσ:i<σ.length:=by rw [I.len];exact (List.getElem?_eq_some_iff.mp hi).1
 have cne:=I.cne
 have tracked:∀ {a:Addr} {h':Heap},(∃ o,s.heap.get? a=some o/\H a=none)->Heap.SameBut a s.heap h'->HOk X.prog X.w H h':=fun {a h'} ha hs b ob e=>by
  obtain ⟨_,_,hfree⟩:=ha
  refine (I.hok b ob e).stay (fun c w' hc q=>(hs.2 c ?_).trans q) (fun _ q=>q) fun _ _ q=>q
  rintro rfl
  rcases hc with rfl | hc
  ·rw [hfree] at e;cases e
  ·rw [hfree] at hc;cases hc
 rcases hx with hk | hk
 ·refine wpAny_storeName_local hk hn (fun h' hn' hs=>?_) hcls
  obtain ⟨oL,_,_,hoL,_⟩:=id hn
  refine h _ ⟨I.ok,I.os,I.bare,⟨fun b o e n hb hx=>?_,fun b o e n hb hx=>?_,I.base.free,fun b o e hx=>?_,I.base.tups,I.base.frzs,I.base.tbls⟩,⟨_,hn',fun j y v' e1 e2 e3=>?_⟩,fun y c e=>?_,I.free,I.freeC,fun p hp=>?_,tracked ⟨oL,hoL,I.free⟩ hs,by simpa using I.len⟩ ⟨_,hs,.inl rfl⟩
  ·exact (hs.2 b (Nat.ne_of_lt (Nat.lt_of_lt_of_le (Heap.lt_size e) I.ok.above))).trans (I.base.keep b o e n hb hx)
  ·obtain ⟨sl,e1⟩:=I.base.slot b o e n hb hx
   exact ⟨sl,(hs.2 b (Nat.ne_of_lt (Nat.lt_of_lt_of_le (Heap.lt_size e) I.ok.above))).trans e1⟩
  ·obtain ⟨o',e1⟩:=I.base.there b o e hx
   exact ⟨o',(hs.2 b (Nat.ne_of_lt (Nat.lt_of_lt_of_le (Heap.lt_size e) I.ok.above))).trans e1⟩
  ·by_cases hj:j=i
   ·subst hj
    rw [hi] at e1;cases e1
    rw [List.getElem?_set_self hiσ] at e2
    cases e2
    exact ⟨u,r,.inl ⟨hk,by simp⟩⟩
   ·rw [List.getElem?_set_ne (Ne.symm hj)] at e2
    obtain ⟨u',r',q⟩:=hl j y v' e1 e2 e3
    refine ⟨u',r',?_⟩
    rcases q with ⟨k,e⟩ | ⟨k,c,e,z⟩
    ·refine .inl ⟨k,?_⟩
     have:y≠x:=fun e=>hj (zf7 hN e1 (e▸hi))
     simp [this,e]
    ·exact .inr ⟨k,c,e,z.sameBut hs (cne y c e)⟩
  ·obtain ⟨w',z⟩:=I.cell y c e
   exact ⟨w',z.sameBut hs (cne y c e)⟩
  ·obtain ⟨e,n,ne,nf,d⟩:=I.pin p hp
   exact ⟨(hs.2 p.1 ne).trans e,n,ne,nf,d⟩
 ·have hfn:X.fn x=true:=by
   rcases hf with z | z
   ·exact z
   ·rw [z] at hk;cases hk
  obtain ⟨c,hc⟩:=I.ok.has x (.inl hk)
  obtain ⟨w',z⟩:=I.cell x c hc
  refine wpAny_storeName_cell I.ok.kind hk hc z (fun h' hc' hs=>?_)
  obtain ⟨oc,hoc,hocd⟩:=id z
  refine h { s with heap:=h' } ⟨I.ok,I.os,I.bare,⟨fun b o e n hb hx=>?_,fun b o e n hb hx=>?_,I.base.free,fun b o e hx=>?_,I.base.tups,I.base.frzs,I.base.tbls⟩,⟨m,hn.sameBut hs (Ne.symm (cne x c hc)),fun j y v' e1 e2 e3=>?_⟩,fun y c' e=>?_,I.free,I.freeC,fun p hp=>?_,tracked ⟨oc,hoc,I.freeC x c hc⟩ hs,by simpa using I.len⟩ ⟨c,hs,.inr hc⟩
  ·exact (hs.2 b (Nat.ne_of_lt (Nat.lt_of_lt_of_le (Heap.lt_size e) (I.ok.cab x c hfn hc)))).trans (I.base.keep b o e n hb hx)
  ·obtain ⟨sl,e1⟩:=I.base.slot b o e n hb hx
   exact ⟨sl,(hs.2 b (Nat.ne_of_lt (Nat.lt_of_lt_of_le (Heap.lt_size e) (I.ok.cab x c hfn hc)))).trans e1⟩
  ·obtain ⟨o',e1⟩:=I.base.there b o e hx
   exact ⟨o',(hs.2 b (Nat.ne_of_lt (Nat.lt_of_lt_of_le (Heap.lt_size e) (I.ok.cab x c hfn hc)))).trans e1⟩
  ·by_cases hj:j=i
   ·subst hj
    rw [hi] at e1;cases e1
    rw [List.getElem?_set_self hiσ] at e2
    cases e2
    exact ⟨u,r,.inr ⟨.inl hk,c,hc,hc'⟩⟩
   ·rw [List.getElem?_set_ne (Ne.symm hj)] at e2
    obtain ⟨u',r',q⟩:=hl j y v' e1 e2 e3
    refine ⟨u',r',?_⟩
    rcases q with q | ⟨k,c',e,z'⟩
    ·exact .inl q
    ·refine .inr ⟨k,c',e,z'.sameBut hs ?_⟩
     rintro rfl
     exact hj (zf7 hN e1 (I.ok.inj _ _ _ e hc▸hi))
  ·by_cases hcc:c'=c
   ·subst hcc;exact ⟨_,hc'⟩
   ·obtain ⟨w2,z2⟩:=I.cell y c' e
    exact ⟨w2,z2.sameBut hs hcc⟩
  ·obtain ⟨e,n,ne,nf,d⟩:=I.pin p hp
   refine ⟨(hs.2 p.1 ?_).trans e,n,ne,nf,d⟩
   intro q
   rw [q,hoc] at e
   have q':oc=p.2:=Option.some.inj e
   exact d w' (by rw [<- q'];exact hocd)
theorem zfX {M:Model}{A:Around}{E:Value->Shared->Prop}{i:Nat}{x:Str}{v:V}{u:Value}{Q:Unit->Shared->Prop} (I:Inv X pins σ H s) (hN:X.N.Nodup) (hi:X.N[i]?=some x) (hx:Loc X.env.scope x) (r:RelV v u)
  (h:∀ s',Inv X pins (σ.set i (some v)) H s'->Q () s') (hf:X.fn x=true\/X.env.scope.names.lookup x=some .local:=by first | exact .inl rfl | exact .inr rfl | assumption):wpAny M A (storeName X.env x u) Q E s :=
 zgP I hN hi hx r (fun s' I' _=>h s' I') hf
theorem Inv.call' {s':Shared}{ch:List Addr} (I:Inv X pins σ H s) (ho:s'.os=s.os) (u:Un (frs X.stack) ch H H' s.heap s'.heap) (hok:HOk X.prog X.w H' s'.heap) (hg:AllBare s'.gens)
  (hch:∀ b∈ch,(b∈X.ex\/X.s₀.heap.objs.size<=b)/\b≠X.env.locals/\(∀ x c,X.env.cells.lookup x=some c->c≠b)/\∀ p∈X.pn++pins,p.1≠b):Inv X pins σ H' s':=by
 obtain ⟨h',g',d',t',o'⟩:=s'
 have e:o'=s.os:=ho
 subst e
 exact I.call (g':=g') (t':=t') (d':=d') u hok hg hch
end
abbrev XK:=Value->Option Addr->Hp->Prop
abbrev St:=List (Option V)
abbrev VK:=V->Hp->Prop
abbrev TE:=St->Hp->VK->Prop
abbrev TT:=St->Hp->(Bool->Hp->Prop)->Prop
abbrev TA:=St->Hp->(List V->Hp->Prop)->Prop
structure Ends where
 nx:St->Hp->Prop
 rt:VK
 bk:St->Hp->Prop:=fun _ _=>False
 ct:St->Hp->Prop:=fun _ _=>False
abbrev TS:=Ends->St->Hp->Prop
def EP (X:Cx) (pins:List (Addr×Obj)) (σ:St) (Q:VK) (u:Value) (s':Shared):Prop:=∃ v H',Inv X pins σ H' s'/\RelV v u/\Q v H'
def TP (X:Cx) (pins:List (Addr×Obj)) (σ:St) (Q:Bool->Hp->Prop) (b:Bool) (s':Shared):Prop:=∃ H',Inv X pins σ H' s'/\Q b H'
def AP (X:Cx) (pins:List (Addr×Obj)) (σ:St) (Q:List V->Hp->Prop) (us:List Value) (s':Shared):Prop:=∃ vs H',Inv X pins σ H' s'/\Vals vs us/\Q vs H'
def SP (X:Cx) (pins:List (Addr×Obj)) (D:Ends) (f:Flow) (s':Shared):Prop :=
 match f with
 | .next=>∃ σ' H',Inv X pins σ' H' s'/\D.nx σ' H'
 | .brk=>∃ σ' H',Inv X pins σ' H' s'/\D.bk σ' H'
 | .cont=>∃ σ' H',Inv X pins σ' H' s'/\D.ct σ' H'
 | .ret u=>∃ v σ' H',Inv X pins σ' H' s'/\RelV v u/\D.rt v H'
def PE (X:Cx) (e:Expr) (t:TE):Prop :=
 ∀ (pins:List (Addr×Obj)) (s:Shared) (σ:St) (H:Hp) (Q:VK),Inv X pins σ H s->t σ H Q->wpAny (model X.prog X.w) X.A (eval e X.env) (EP X pins σ Q) X.xe s
def PT (X:Cx) (e:Expr) (t:TT):Prop :=
 ∀ (pins:List (Addr×Obj)) (s:Shared) (σ:St) (H:Hp) (Q:Bool->Hp->Prop),Inv X pins σ H s->t σ H Q->wpAny (model X.prog X.w) X.A (isTrue e X.env (eval e X.env)) (TP X pins σ Q) X.xe s
def PW (X:Cx) (e:Expr) (t:TT):Prop :=
 ∀ (whole:Sem Value) (pins:List (Addr×Obj)) (s:Shared) (σ:St) (H:Hp) (Q:Bool->Hp->Prop),Inv X pins σ H s->t σ H Q->wpAny (model X.prog X.w) X.A (isTrue e X.env whole) (TP X pins σ Q) X.xe s
theorem PW.pt {X:Cx}{e:Expr}{t:TT} (h:PW X e t):PT X e t:=h _
def PA (X:Cx) (es:List Expr) (t:TA):Prop :=
 ∀ (pos:Pos) (pins:List (Addr×Obj)) (s:Shared) (σ:St) (H:Hp) (Q:List V->Hp->Prop),Inv X pins σ H s->t σ H Q->wpAny (model X.prog X.w) X.A (spliced (backTo pos (starEach es X.env))) (AP X pins σ Q) X.xe s
def PS (X:Cx) (st:Stmt) (t:TS):Prop :=
 ∀ (pins:List (Addr×Obj)) (s:Shared) (σ:St) (H:Hp) (D:Ends),Inv X pins σ H s->t D σ H->wpAny (model X.prog X.w) X.A (exec st X.env) (SP X pins D) X.xe s
def PSs (X:Cx) (st:List Stmt) (t:TS):Prop :=
 ∀ (pins:List (Addr×Obj)) (s:Shared) (σ:St) (H:Hp) (D:Ends),Inv X pins σ H s->t D σ H->wpAny (model X.prog X.w) X.A (execs st X.env) (SP X pins D) X.xe s
theorem thn {α:Type}{t:Sem α}{Q Q':α->Shared->Prop}{M:Model}{A:Around}{E:Value->Shared->Prop}{s:Shared} (h:wpAny M A t Q E s) (hQ:∀ a s,Q a s->Q' a s):wpAny M A t Q' E s:=wpAny_mono h hQ fun _ _ x=>x
end L2
namespace L2
open PySem PySem.Spec PyProof.Rows
section
variable {X:Cx}
def tVar (i:Nat):TE:=fun σ H Q=>∃ v,σ[i]?=some (some v)/\Q v H
def tC (v:V):TE:=fun _ H Q=>Q v H
theorem zcW {i:Nat}{x:Str}{pos:Pos} (hN:X.N[i]?=some x) (hv:Vis X.env.scope x) (hd:(x == ("__debug__":Str))=false:=by decide) (hcd:(x == ("__classdict__":Str))=false:=by decide):PE X (.Name x pos) (tVar i):=by
 intro pins s σ H Q I h
 obtain ⟨v,e,h⟩:=h
 obtain ⟨m,hn,hl⟩:=I.loc
 obtain ⟨u,r,l⟩:=hl i x v hN e hv
 have fin:EP X pins σ Q u s:=⟨v,H,I,r,h⟩
 rcases l with ⟨hk,hm⟩ | ⟨hk,c,hc,hcell⟩
 ·exact wpAny_Name (wpAny_loadName_local I.ok.kind hk hn hm fin) hd
 ·rcases hk with hk | hk
  ·exact wpAny_Name (wpAny_loadName_cell I.ok.kind hk hc hcell fin) hd
  ·exact wpAny_Name (wpAny_loadName_free I.ok.kind hk hc hcell fin hcd) hd
theorem zaw {i j pos}:PE X (.Constant (.int i) j pos) (tC (.int i)):=fun _ _ _ H _ I h=>wpAny_Constant_int ⟨.int i,H,I.tok _,⟨_,rfl⟩,h⟩
theorem zon {b j pos}:PE X (.Constant (.bool b) j pos) (tC (.bl b)):=fun _ _ _ H _ I h=>Constant_bool ⟨.bl b,H,I,rfl,h⟩
theorem zlK {j pos}:PE X (.Constant .none j pos) (tC .non):=fun _ _ _ H _ I h=>Constant_none ⟨.non,H,I,rfl,h⟩
theorem zlG {x j pos}:PE X (.Constant (.str x) j pos) (tC (.str x)):=fun _ _ _ H _ I h=>Calls.Constant_str ⟨.str x,H,I.tok _,⟨_,rfl⟩,h⟩
def Gl (X:Cx) (x:Str):Prop:=X.env.kindOf x=some .globalImplicit
theorem zfp {E:Value->Shared->Prop}{pins:List (Addr×Obj)}{s:Shared}{σ:St}{H:Hp}{x:Str}{u:Value}{pos:Pos}{Q:Value->Shared->Prop} (I:Inv X pins σ H s) (hg:Gl X x) (hm:X.mg x=some u) (h:Q u s)
  (hd:(x == ("__debug__":Str))=false:=by decide):wpAny (model X.prog X.w) X.A (eval (.Name x pos) X.env) Q E s :=
 Calls.Name_function_global I.ok.kind hg (Calls.loadGlobal_global (by rw [I.ok.glob];exact I.mod.glob.keeps I.bk) hm h) hd
theorem zer {E:Value->Shared->Prop}{pins:List (Addr×Obj)}{s:Shared}{σ:St}{H:Hp}{x:Str}{u:Value}{pos:Pos}{Q:Value->Shared->Prop} (I:Inv X pins σ H s) (hg:Gl X x) (hm:X.mg x=none) (hv:bootBuiltins x=some u) (h:Q u s)
  (hn:x ≠ "__name__":=by decide) (hd:(x == ("__debug__":Str))=false:=by decide):wpAny (model X.prog X.w) X.A (eval (.Name x pos) X.env) Q E s:=by
 obtain ⟨mb,h1,h2⟩:=I.mod.blt
 exact Calls.Name_function_global I.ok.kind hg (Calls.loadGlobal_builtin (by rw [I.ok.glob];exact I.mod.glob.keeps I.bk) hm (by rw [I.ok.blt];exact h1.keeps I.bk) ((h2 x hn).trans hv) h) hd
theorem zj2 {x:Str}{v:V}{u:Value}{pos:Pos} (hg:Gl X x) (hm:X.mg x=none) (hv:bootBuiltins x=some u) (r:RelV v u) (hn:x ≠ "__name__":=by decide) (hd:(x == ("__debug__":Str))=false:=by decide):PE X (.Name x pos) (tC v) :=
 fun _ _ _ H _ I h=>zer I hg hm hv ⟨v,H,I,r,h⟩ hn hd
variable {a b:Expr}{ta tb:TE}{pos:Pos}
def PC (X:Cx) (op:CmpOp) (a b:Expr) (t:TE):Prop :=
 ∀ (pins:List (Addr×Obj)) (s:Shared) (σ:St) (H:Hp) (Q:VK),Inv X pins σ H s->t σ H Q ->
  wpAny (model X.prog X.w) X.A (eval a X.env) (fun v s₁=>wpAny (model X.prog X.w) X.A (eval b X.env) (fun u s₂=>wpAny (model X.prog X.w) X.A (compareOp op v u) (EP X pins σ Q) X.xe s₂) X.xe s₁) X.xe s
def tB (t:TE):TT:=fun σ H Q=>t σ H fun x H1=>∃ c,x=.bl c/\Q c H1
theorem zlx {op:CmpOp}{t:TE} (h:PC X op a b t) (h1:behindInMarks op b=false:=by first | exact nobehind _ (by decide) (by decide) | rfl):PT X (.Compare a [op] [b] pos) (tB t):=by
 intro pins s σ H Q I hw
 refine wpAny_isTrue_Compare1 (thn (h pins s σ H _ I hw) fun v s1 h1=>thn h1 fun u s2 h2=>thn h2 fun c s3 ⟨x,H1,I1,r1,q1⟩=>?_) h1
 obtain ⟨d,rfl,q⟩:=q1
 cases r1
 exact wpAny_truthy_bool ⟨H1,I1,q⟩
variable {tA tB':TT}{rest:List Expr}
def tOr (t u:TT):TT:=fun σ H Q=>t σ H fun c H1=>if c=true then Q true H1 else u σ H1 Q
def tNot (t:TT):TT:=fun σ H Q=>t σ H fun c H1=>Q (!c) H1
theorem zlu (ha:PT X a tA):PW X (.BoolOp .Or [a] pos) tA:=by
 intro wh pins s σ H Q I h
 refine isTrue_or (thn (ha pins s σ H Q I h) fun c s1 e=>?_)
 cases c with
 | false=>exact isTrue_or_nil e
 | true=>exact e
theorem zoi (ha:PT X a tA) (hb:PW X (.BoolOp .Or (b::rest) pos) tB'):PW X (.BoolOp .Or (a::b::rest) pos) (tOr tA tB'):=by
 intro wh pins s σ H Q I h
 refine isTrue_or (thn (ha pins s σ H _ I h) fun c s1 ⟨H1,I1,q1⟩=>?_)
 cases c with
 | true=>exact ⟨H1,I1,q1⟩
 | false=>exact hb wh pins s1 σ H1 Q I1 q1
theorem zlw (ha:PT X a tA):PT X (.UnaryOp .Not a pos) (tNot tA):=by
 intro pins s σ H Q I h
 exact isTrue_not (ha pins s σ H (fun c H1=>Q (!c) H1) I h)
def znQ (ta tb:TE):TE:=fun σ H Q=>ta σ H fun x H1=>∃ c,x=.bl c/\if c=true then tb σ H1 Q else Q (.bl false) H1
def tOrV (ta tb:TE):TE:=fun σ H Q=>ta σ H fun x H1=>∃ c,x=.bl c/\if c=true then Q (.bl true) H1 else tb σ H1 Q
def znL (ta:TE):TE:=fun σ H Q=>ta σ H fun x H1=>∃ c,x=.bl c/\Q (.bl (!c)) H1
theorem zlI {op}{t:TE} (h:PE X a t):PE X (.BoolOp op [a] pos) t:=fun pins s σ H Q I hw=>BoolOp_one (h pins s σ H Q I hw)
theorem zlO (ha:PE X a ta) (hb:PE X (.BoolOp .And (b::rest) pos) tb):PE X (.BoolOp .And (a::b::rest) pos) (znQ ta tb):=by
 intro pins s σ H Q I h
 refine BoolOp_and (thn (ha pins s σ H _ I h) fun v s1 ⟨x,H1,I1,r1,q1⟩=>?_)
 obtain ⟨c,rfl,q1⟩:=q1
 cases r1
 refine wpAny_truthy_bool ?_
 cases c with
 | true=>exact hb pins s1 σ H1 Q I1 q1
 | false=>exact ⟨.bl false,H1,I1,rfl,q1⟩
theorem zol (ha:PE X a ta) (hb:PE X (.BoolOp .Or (b::rest) pos) tb):PE X (.BoolOp .Or (a::b::rest) pos) (tOrV ta tb):=by
 intro pins s σ H Q I h
 refine BoolOp_or (thn (ha pins s σ H _ I h) fun v s1 ⟨x,H1,I1,r1,q1⟩=>?_)
 obtain ⟨c,rfl,q1⟩:=q1
 cases r1
 refine wpAny_truthy_bool ?_
 cases c with
 | false=>exact hb pins s1 σ H1 Q I1 q1
 | true=>exact ⟨.bl true,H1,I1,rfl,q1⟩
theorem zlJ (ha:PE X a ta):PE X (.UnaryOp .Not a pos) (znL ta):=by
 intro pins s σ H Q I h
 refine UnaryOp_ (thn (ha pins s σ H _ I h) fun v s1 ⟨x,H1,I1,r1,q1⟩=>?_)
 obtain ⟨c,rfl,q1⟩:=q1
 cases r1
 exact not_of (wpAny_truthy_bool ⟨.bl (!c),H1,I1,rfl,q1⟩)
def tIf (t:TT) (ta tb:TE):TE:=fun σ H Q=>t σ H fun c H1=>if c=true then ta σ H1 Q else tb σ H1 Q
theorem ziK {c:Expr} (hc:PT X c tA) (ha:PE X a ta) (hb:PE X b tb):PE X (.IfExp c a b pos) (tIf tA ta tb):=by
 intro pins s σ H Q I h
 refine wpAny_IfExp (thn (hc pins s σ H _ I h) fun d s1 ⟨H1,I1,q1⟩=>?_)
 cases d with
 | true=>exact ha pins s1 σ H1 Q I1 q1
 | false=>exact hb pins s1 σ H1 Q I1 q1
end
end L2
namespace L2
open PySem PySem.Spec PyProof.Rows
def SqL (K:PySem.W.Frag) (H:Hp) (a:Addr) (xs:List V):Prop :=
 Rd H a (.lst xs) \/
  ∃ (o:Obj) (its:Array Value) (n:Nat),K.lookup a=some o/\o.cls=.type "list" /\ o.dict=none/\o.data=.seq its n/\its.size<=sizeLine/\Vals xs its.toList
def SqT (K:PySem.W.Frag) (H:Hp) (a:Addr) (xs:List V):Prop :=
 Rd H a (.tup xs) \/
  ∃ (o:Obj) (its:Array Value) (n:Nat),K.lookup a=some o/\o.cls=.type "tuple" /\ o.data=.seq its n/\its.size<=sizeLine/\Vals xs its.toList
def absV:Value->Option V
 | .none=>some .non
 | .bool b=>some (.bl b)
 | .int i _=>some (.int i)
 | .str x _=>some (.str x)
 | .bytes b _=>some (.byt b)
 | .float b _=>some (.flt b)
 | .ref a=>some (.ref a)
 | .type n=>some (.ty n)
 | _=>none
theorem RelV.abs {x:V}{u:Value} (r:RelV x u):absV u=some x:=by
 cases x with
 | non=>cases r;rfl
 | bl _=>cases r;rfl
 | int _=>obtain ⟨t,rfl⟩:=r;rfl
 | str _=>obtain ⟨t,rfl⟩:=r;rfl
 | byt _=>obtain ⟨t,rfl⟩:=r;rfl
 | flt _=>obtain ⟨t,rfl⟩:=r;rfl
 | ref _=>cases r;rfl
 | ty _=>cases r;rfl
theorem RelV.inj {x y:V}{u:Value} (r:RelV x u) (q:RelV y u):x=y:=Option.some.inj (r.abs.symm.trans q.abs)
theorem Vals.inj:∀ {xs ys:List V}{us:List Value},Vals xs us->Vals ys us->xs=ys
 | _,_,_,.nil,.nil=>rfl
 | _,_,_,.cons r t,.cons r' t'=>by rw [r.inj r',Vals.inj t t']
section
variable {X:Cx}{pins:List (Addr×Obj)}{σ:St}{H:Hp}{s:Shared}{a:Addr}{xs ys:List V}
theorem SqL.of {K:PySem.W.Frag} (h:H a=some (.lst xs)):SqL K H a xs:=.inl (.inl h)
theorem Inv.list (I:Inv X pins σ H s) (h:SqL X.K H a xs):∃ its:List Value,Vals xs its/\PlainL s.heap a its.toArray/\xs.length<=sizeLine:=by
 rcases h with h | ⟨o,its,n,hk,hc,hd,hs,hz,r⟩
 ·obtain ⟨z,its,n,r,e⟩:=h.ok I.hok
  exact ⟨its,r,⟨_,n,e,rfl,rfl,rfl⟩,z⟩
 ·refine ⟨its.toList,r,⟨o,n,I.kIn a o hk,hc,hd,by simpa using hs⟩,?_⟩
  have e:=r.length
  simp only [Array.length_toList] at e
  lia
theorem Inv.tuple (I:Inv X pins σ H s) (h:SqT X.K H a xs):∃ its:List Value,Vals xs its/\IsTup s.heap a its.toArray/\xs.length<=sizeLine:=by
 rcases h with h | ⟨o,its,n,hk,hc,hs,hz,r⟩
 ·obtain ⟨z,its,r,p⟩:=h.ok I.hok
  exact ⟨its,r,p.tup,z⟩
 ·refine ⟨its.toList,r,⟨o,I.kIn a o hk,hc,n,by simpa using hs⟩,?_⟩
  have e:=r.length
  simp only [Array.length_toList] at e
  lia
theorem Inv.list_inj (I:Inv X pins σ H s) (h:SqL X.K H a xs) (h':SqL X.K H a ys):xs=ys:=by
 obtain ⟨its,r,⟨o,n,e,_,_,d⟩,_⟩:=I.list h
 obtain ⟨its',r',⟨o',n',e',_,_,d'⟩,_⟩:=I.list h'
 rw [e] at e';cases e'
 rw [d] at d'
 injection d' with d1 _
 have:its=its':=by simpa using congrArg Array.toList d1
 subst this
 exact r.inj r'
theorem Inv.tuple_inj (I:Inv X pins σ H s) (h:SqT X.K H a xs) (h':SqT X.K H a ys):xs=ys:=by
 obtain ⟨its,r,⟨o,e,_,n,d⟩,_⟩:=I.tuple h
 obtain ⟨its',r',⟨o',e',_,n',d'⟩,_⟩:=I.tuple h'
 rw [e] at e';cases e'
 rw [d] at d'
 injection d' with d1 _
 have:its=its':=by simpa using congrArg Array.toList d1
 subst this
 exact r.inj r'
end
abbrev Cx.wish (X:Cx) (E:Value->Shared->Prop):Cx:={ X with xe:=E }
abbrev Cx.nox (X:Cx):Cx:=X.wish fun _ _=>False
theorem Cx.Ok.wish {X:Cx} (ok:X.Ok) (E:Value->Shared->Prop):(X.wish E).Ok :=
 ⟨ok.mod,ok.kind,ok.glob,ok.blt,ok.above,ok.inj,ok.has,ok.cab,ok.hd,ok.frames,ok.stk,ok.exf,ok.bs,ok.bsz,ok.noex,ok.exfs,ok.funs,ok.frf⟩
theorem Cx.Ok.unwish {X:Cx}{E:Value->Shared->Prop} (ok:(X.wish E).Ok):X.Ok :=
 ⟨ok.mod,ok.kind,ok.glob,ok.blt,ok.above,ok.inj,ok.has,ok.cab,ok.hd,ok.frames,ok.stk,ok.exf,ok.bs,ok.bsz,ok.noex,ok.exfs,ok.funs,ok.frf⟩
section
variable {X:Cx}{pins:List (Addr×Obj)}{σ:St}{H:Hp}{s:Shared}{E:Value->Shared->Prop}
theorem Inv.wish (I:Inv X pins σ H s) (E:Value->Shared->Prop):Inv (X.wish E) pins σ H s:=⟨I.ok.wish E,I.os,I.bare,I.base,I.loc,I.cell,I.free,I.freeC,I.pin,I.hok,I.len⟩
theorem Inv.unwish (I:Inv (X.wish E) pins σ H s):Inv X pins σ H s:=⟨I.ok.unwish,I.os,I.bare,I.base,I.loc,I.cell,I.free,I.freeC,I.pin,I.hok,I.len⟩
theorem SP.unwish {D:Ends}{f:Flow}{s':Shared} (h:SP (X.wish E) pins D f s'):SP X pins D f s':=by
 cases f with
 | next=>obtain ⟨σ',H',I,q⟩:=h;exact ⟨σ',H',I.unwish,q⟩
 | brk=>obtain ⟨σ',H',I,q⟩:=h;exact ⟨σ',H',I.unwish,q⟩
 | cont=>obtain ⟨σ',H',I,q⟩:=h;exact ⟨σ',H',I.unwish,q⟩
 | ret u=>obtain ⟨v,σ',H',I,r,q⟩:=h;exact ⟨v,σ',H',I.unwish,r,q⟩
theorem PSs.nox {st:List Stmt}{t:TS} (h:PSs X.nox st t):PSs X st t:=fun pins s σ H D I hw =>
 wpAny_mono (h pins s σ H D (I.wish _) hw) (fun _ _ q=>q.unwish) fun _ _ z=>False.elim z
end
section
variable {X:Cx}{st:Stmt}{rest:List Stmt}{t u:TS}{e:Expr}{te:TE}{pos:Pos}
def znM:TS:=fun D σ H=>D.nx σ H
def tSeq (t u:TS):TS:=fun D σ H=>t { D with nx:=u D } σ H
theorem zfj:PSs X [] znM:=fun _ _ σ H _ I h=>wpAny_execs_nil ⟨σ,H,I,h⟩
theorem zaP (h1:PS X st t) (h2:PSs X rest u):PSs X (st::rest) (tSeq t u):=by
 intro pins s σ H D I h
 refine wpAny_execs_cons (thn (h1 pins s σ H { D with nx:=u D } I h) fun f s1 q=>?_)
 cases f with
 | next =>
  obtain ⟨σ',H',I',q⟩:=q
  exact h2 pins s1 σ' H' D I' q
 | ret v=>exact q
 | brk=>exact q
 | cont=>exact q
theorem zcT (h1:PS X st t):PSs X [st] t:=by
 intro pins s σ H D I h
 refine wpAny_execs_cons (thn (h1 pins s σ H D I h) fun f s1 q=>?_)
 cases f with
 | next=>exact wpAny_execs_nil q
 | ret v=>exact q
 | brk=>exact q
 | cont=>exact q
theorem Inv.quiet {pins:List (Addr×Obj)}{σ:St}{H:Hp}{s:Shared} (I:Inv X pins σ H s):interactive X.env=false:=by simp [interactive,I.ok.kind]
def znP (te:TE):TS:=fun D σ H=>te σ H fun _ H1=>D.nx σ H1
theorem zjQ (he:PE X e te) (hs:swapsWith e none pos.line X.env=pure false:=by rfl):PS X (.Expr e pos) (znP te):=by
 intro pins s σ H D I h
 exact wpAny_Expr_any (thn (he pins s σ H _ I h) fun v s1 ⟨x,H1,I1,r1,q1⟩=>⟨σ,H1,I1,q1⟩) I.quiet hs
def tRet (te:TE):TS:=fun D σ H=>te σ H D.rt
theorem zf1 (he:PE X e te):PS X (.Return (some e) pos) (tRet te):=by
 intro pins s σ H D I h
 exact wpAny_Return_some (thn (he pins s σ H _ I h) fun v s1 ⟨x,H1,I1,r1,q1⟩=>⟨x,σ,H1,I1,r1,q1⟩)
def tIfS (c:TT) (t u:TS):TS:=fun D σ H=>c σ H fun b H1=>if b=true then t D σ H1 else u D σ H1
theorem zjP {c:Expr}{a b:List Stmt}{tc:TT} (hc:PT X c tc) (ha:PSs X a t) (hb:PSs X b u):PS X (.If c a b pos) (tIfS tc t u):=by
 intro pins s σ H D I h
 refine wpAny_If (thn (hc pins s σ H _ I h) fun d s1 ⟨H1,I1,q1⟩=>?_)
 cases d with
 | true=>exact ha pins s1 σ H1 D I1 q1
 | false=>exact hb pins s1 σ H1 D I1 q1
end
abbrev TG:=V->St->Hp->(St->Hp->Prop)->Prop
abbrev TGs:=List V->St->Hp->(St->Hp->Prop)->Prop
def PG (X:Cx) (target:Expr) (t:TG):Prop :=
 ∀ (pins:List (Addr×Obj)) (s:Shared) (σ:St) (H:Hp) (v:V) (u:Value) (Q:St->Hp->Prop),Inv X pins σ H s->RelV v u->t v σ H Q ->
  wpAny (model X.prog X.w) X.A (assign target X.env u) (fun _ s'=>∃ σ' H',Inv X pins σ' H' s'/\Q σ' H') X.xe s
def PGs (X:Cx) (ts:List Expr) (t:TGs):Prop :=
 ∀ (pins:List (Addr×Obj)) (s:Shared) (σ:St) (H:Hp) (vs:List V) (us:List Value) (Q:St->Hp->Prop),Inv X pins σ H s->Vals vs us->t vs σ H Q ->
  wpAny (model X.prog X.w) X.A (assignInOrder ((assignEach ts X.env).map (·.2)) us) (fun _ s'=>∃ σ' H',Inv X pins σ' H' s'/\Q σ' H') X.xe s
abbrev TSet:=V->V->V->Hp->(Hp->Prop)->Prop
def PSet (X:Cx) (t:TSet):Prop :=
 ∀ (pins:List (Addr×Obj)) (s:Shared) (σ:St) (H:Hp) (o i v:V) (ov iv u:Value) (Q:Hp->Prop),Inv X pins σ H s->RelV o ov->RelV i iv->RelV v u->t o i v H Q ->
  wpAny (model X.prog X.w) X.A (setItem ov iv u) (fun _ s'=>∃ H',Inv X pins σ H' s'/\Q H') X.xe s
section
variable {X:Cx}{pos:Pos}
def zmW (i:Nat):TG:=fun v σ H Q=>Q (σ.set i (some v)) H
theorem zdD {i:Nat}{x:Str} (hN:X.N.Nodup) (hi:X.N[i]?=some x) (hx:Loc X.env.scope x) (hf:X.fn x=true\/X.env.scope.names.lookup x=some .local:=by first | exact .inl rfl | exact .inr rfl | assumption):PG X (.Name x pos) (zmW i):=by
 intro pins s σ H v u Q I r h
 exact wpAny_assign_Name (zfX I hN hi hx r (fun s' I'=>⟨_,H,I',h⟩) hf)
def gNil:TGs:=fun vs σ H Q=>vs=[]/\Q σ H
def zo2 (t:TG) (u:TGs):TGs:=fun vs σ H Q=>∃ v r,vs=v::r/\t v σ H fun σ' H'=>u r σ' H' Q
theorem zg4:PGs X [] gNil:=by
 intro pins s σ H vs us Q I r h
 obtain ⟨e,h⟩:=h
 subst e
 cases r
 exact assignInOrder_nil ⟨σ,H,I,h⟩
theorem zcC {e:Expr}{es:List Expr}{t:TG}{u:TGs} (h1:PG X e t) (h2:PGs X es u)
  (hs:(assignEach (e::es) X.env).map (·.2)=assign e X.env::(assignEach es X.env).map (·.2):=by rfl):PGs X (e::es) (zo2 t u):=by
 intro pins s σ H vs us Q I r h
 obtain ⟨v,vr,e1,h⟩:=h
 subst e1
 cases r with
 | cons r rr =>
  rw [hs]
  refine assignInOrder_cons (thn (h1 pins s σ H _ _ _ I r h) fun _ s1 ⟨σ1,H1,I1,q1⟩=>?_)
  exact h2 pins s1 σ1 H1 _ _ Q I1 rr q1
def gTup (K:PySem.W.Frag) (n:Nat) (t:TGs):TG:=fun v σ H Q=>∃ a xs,v=.ref a/\SqT K H a xs/\xs.length=n/\t xs σ H Q
theorem zlE {es:List Expr}{k:Nat}{t:TGs}{n:Nat} (hc:X.calm=true) (h:PGs X es t)
  (hn:(assignEach es X.env).length=n:=by rfl) (hst:(assignEach es X.env).findIdx? (·.1)=none:=by rfl):PG X (.Tuple es k pos) (gTup X.K n t):=by
 intro pins s σ H v u Q I r hw
 obtain ⟨a,xs,e1,hq,hl,hw⟩:=hw
 subst e1
 cases r
 obtain ⟨its,rv,ht,hz⟩:=I.tuple hq
 refine assign_Tuple_tuple (I.ok.hd hc) ht (by simp [hn,<- hl,rv.length]) hst fun h' hx=>?_
 have I1:Inv X pins σ H { s with heap:=h' }:=I.kept (t':=s.toks) fun b o e=>hx b o (Nat.ne_of_lt (Heap.lt_size e)) e
 exact h pins _ σ H xs _ Q I1 (by simpa using rv) hw
def gSub (to ti:TE) (t:TSet):TG:=fun v σ H Q=>to σ H fun o H1=>ti σ H1 fun i H2=>t o i v H2 fun H3=>Q σ H3
theorem zjm {o i:Expr}{to ti:TE}{t:TSet} (ho:PE X o to) (hi:PE X i ti) (hs:PSet X t)
  (ha:∀ v,assign (.Subscript o i pos) X.env v=(do
   let ov <- holding [v] (eval o X.env)
   let iv <- holding [v,ov] (eval i X.env)
   standAt pos
   holding [v,ov,iv] (setItem ov iv v)
   release [v,ov,iv] []):=by intro _;rfl):PG X (.Subscript o i pos) (gSub to ti t):=by
 intro pins s σ H v u Q I r h
 rw [ha]
 refine wpAny_bind (wpAny_holding (thn (ho pins s σ H _ I h) fun ov s1 ⟨x,H1,I1,r1,q1⟩=>?_))
 refine wpAny_bind (wpAny_holding (thn (hi pins s1 σ H1 _ I1 q1) fun iv s2 ⟨y,H2,I2,r2,q2⟩=>?_))
 refine wpAny_bind (wpAny_standAt (wpAny_bind (wpAny_holding (thn (hs pins s2 σ H2 x y v ov iv u _ I2 r1 r2 r q2) fun _ s3 ⟨H3,I3,q3⟩=>?_))))
 exact wpAny_release ⟨σ,H3,I3,q3⟩
def tAsg (te:TE) (g:TG):TS:=fun D σ H=>te σ H fun x H1=>g x σ H1 D.nx
theorem zf2 {tg e:Expr}{te:TE}{g:TG} (he:PE X e te) (hg:PG X tg g) (hs:swapsWithSole [tg] e pos.line X.env=pure false:=by rfl) (hw:swappedStores [tg] e X.env=pure none:=by rfl)
  (h1:(assignEach [tg] X.env).map (·.2)=[assign tg X.env]:=by rfl):PS X (.Assign [tg] e pos) (tAsg te g):=by
 intro pins s σ H D I h
 refine wpAny_Assign_stores (thn (he pins s σ H _ I h) fun v s1 ⟨x,H1,I1,r1,q1⟩=>?_) hs hw
 rw [h1]
 exact thn (hg pins s1 σ H1 x v _ I1 r1 q1) fun _ s2 q=>q
theorem zbK {i:Nat}{x:Str}{e:Expr}{te:TE}{pos':Pos} (hN:X.N.Nodup) (hi:X.N[i]?=some x) (hx:Loc X.env.scope x) (he:PE X e te) (hs:swapsWith e (some (.Name x pos')) pos.line X.env=pure false:=by rfl) (hf:X.fn x=true\/X.env.scope.names.lookup x=some .local:=by first | exact .inl rfl | exact .inr rfl | assumption) :
  PS X (.Assign [.Name x pos'] e pos) (tAsg te (zmW i)):=by
 intro pins s σ H D I h
 refine wpAny_Assign_Name (thn (he pins s σ H _ I h) fun v s1 ⟨y,H1,I1,r1,q1⟩=>?_) hs
 exact zfX I1 hN hi hx r1 (fun s2 I2=>⟨_,H1,I2,q1⟩) hf
end
structure It where
 go:Nat->Hp->Prop
 yld:Nat->Hp->V->Hp->Prop
 stop:Nat->Hp->Prop
def FpOk (X:Cx) (pins:List (Addr×Obj)) (H:Hp) (b:Addr):Prop :=
 H b=none/\b≠X.env.locals/\b∉X.fs/\(b∈X.ex\/X.s₀.heap.objs.size<=b)/\(∀ x c,X.env.cells.lookup x=some c->c≠b)/\∀ p∈X.pn++pins,p.1≠b
theorem Inv.fpOk {X:Cx}{pins:List (Addr×Obj)}{σ:St}{H H':Hp}{s:Shared}{b:Addr} (I:Inv X pins σ H s) (hb:s.heap.objs.size<=b) (hn:H' b=none):FpOk X pins H' b:=by
 refine ⟨hn,Nat.ne_of_gt (Nat.lt_of_lt_of_le I.lt hb),I.nofs hb,.inr (Nat.le_trans I.sz hb),fun x c e z=>?_,fun p hp z=>?_⟩
 ·obtain ⟨v,q⟩:=I.cell x c e
  exact absurd (Nat.lt_of_lt_of_le q.lt (by rw [z];exact hb)) (Nat.lt_irrefl _)
 ·exact absurd (Nat.lt_of_lt_of_le (Heap.lt_size (I.pin p hp).1) (by rw [z];exact hb)) (Nat.lt_irrefl _)
structure Turn (P:Program) (w:World) (K:PySem.W.Frag) (tg:Expr) (J:It) (fp:List Addr) (it:Addr) (tn:Nat->Heap->Prop):Prop where
 mem:it∈fp
 obj:∀ i h,tn i h->∀ b∈fp,∃ o,h.get? b=some o/\∀ v,o.data≠.cell v
 keep:∀ i h h',tn i h->(∀ b∈fp,∀ o,h.get? b=some o->h'.get? b=some o)->tn i h'
 item:∀ (X:Cx),X.prog=P->X.w=w->X.K=K->X.calm=true->∀ (i:Nat) (pins:List (Addr×Obj)) (s:Shared) (σ:St) (H:Hp) (E:Value->Shared->Prop),Inv X pins σ H s->(∀ b∈fp,FpOk X pins H b)->tn i s.heap->J.go i H ->
  wpAny (model P w) X.A (pyNext (.ref it)) (fun r s1=>∃ u,r=some u /\
   wpAny (model P w) X.A (letOwnedTupleGo tg (.ref it) u) (fun _ s2=>∃ x H',Inv X pins σ H' s2/\RelV x u/\J.yld i H x H'/\tn (i+1) s2.heap/\∀ b∈fp,H' b=none) E s1) E s
 done:∀ (X:Cx),X.prog=P->X.w=w->X.K=K->X.calm=true->∀ (i:Nat) (pins:List (Addr×Obj)) (s:Shared) (σ:St) (H:Hp) (E:Value->Shared->Prop),Inv X pins σ H s->(∀ b∈fp,FpOk X pins H b)->tn i s.heap->J.stop i H ->
  wpAny (model P w) X.A (pyNext (.ref it)) (fun r s1=>r=none/\Inv X pins σ H s1) E s
 self:∀ (A:Around) (i:Nat) (s:Shared) (Q:Value->Shared->Prop) (E:Value->Shared->Prop),tn i s.heap->Q (.ref it) s->wpAny (model P w) A (pyIter (.ref it)) Q E s
abbrev TI:=St->Hp->(It->Hp->Prop)->Prop
def PIE (X:Cx) (pins:List (Addr×Obj)) (σ:St) (tg:Expr) (R:It->Hp->Prop) (itv:Value) (s2:Shared):Prop :=
 ∃ (it:Addr) (fp:List Addr) (tn:Nat->Heap->Prop) (J:It) (H':Hp),itv=.ref it/\Inv X pins σ H' s2/\Turn X.prog X.w X.K tg J fp it tn/\tn 0 s2.heap/\(∀ b∈fp,FpOk X pins H' b)/\R J H'
def PI (X:Cx) (tg iter:Expr) (wi:TI):Prop :=
 ∀ (pins:List (Addr×Obj)) (s:Shared) (σ:St) (H:Hp) (R:It->Hp->Prop),Inv X pins σ H s->wi σ H R ->
  wpAny (model X.prog X.w) X.A (eval iter X.env) (fun v s1=>wpAny (model X.prog X.w) X.A (pyIter v) (PIE X pins σ tg R) X.xe s1) X.xe s
theorem zi4 {M:Model}{A:Around}{E:Value->Shared->Prop}{s:Shared}{tg:Expr}{it:Addr}{u:Value}{o:Obj}{n:String}{vs:Array Value}{Q:Unit->Shared->Prop} (ho:s.heap.get? it=some o) (hc:o.cls=.type n) (hd:o.data=.fields vs)
  (hn:["enumerate","zip","dict_itemiterator","dict_reverseitemiterator","odict_iterator","itertools.zip_longest","itertools.pairwise"].contains n=false) (hQ:Q () s):wpAny M A (letOwnedTupleGo tg (.ref it) u) Q E s:=by
 unfold letOwnedTupleGo
 cases tg <;> first
  | exact wpAny_pure hQ
  | (cases u <;> first
    | exact wpAny_pure hQ
    | (refine wpAny_bind (wpAny_load ho ?_)
       rw [hc,hd]
       show wpAny M A (if (["enumerate","zip","dict_itemiterator","dict_reverseitemiterator","odict_iterator","itertools.zip_longest","itertools.pairwise"].contains n&&vs[0]? == some (rawInt _))=true then _ else _) Q E s
       rw [if_neg (by intro h;rw [hn,Bool.false_and] at h;cases h)]
       exact wpAny_pure hQ))
def Itl (K:PySem.W.Frag) (a:Addr):It :=
 ⟨fun i H=>∃ xs x,SqL K H a xs/\xs[i]?=some x,fun i H x H'=>H'=H/\∀ xs,SqL K H a xs->xs[i]?=some x,fun i H=>∃ xs,SqL K H a xs/\xs.length<=i⟩
def Itt (K:PySem.W.Frag) (a:Addr):It :=
 ⟨fun i H=>∃ xs x,SqT K H a xs/\xs[i]?=some x,fun i H x H'=>H'=H/\∀ xs,SqT K H a xs->xs[i]?=some x,fun i H=>∃ xs,SqT K H a xs/\xs.length<=i⟩
def Itr (lo:Int) (n:Nat):It:=⟨fun i _=>i<n,fun i H x H'=>H'=H/\x=.int (lo+i),fun i _=>n<=i⟩
theorem zgL {P:Program}{w:World}{K:PySem.W.Frag}{tg:Expr} (a it:Addr):Turn P w K tg (Itl K a) [it] it (fun i h=>h.IsListIter it a i) where
 mem:=by simp
 obj:=fun i h st b hb=>by
  have e:b=it:=by simpa using hb
  subst e
  obtain ⟨o,e,c,d⟩:=st
  exact ⟨o,e,fun v z=>by rw [d] at z;cases z⟩
 keep:=fun i h h' st k=>st.at fun o e=>k it (by simp) o e
 item:=by
  intro X hP hw hK hc i pins s σ H E I hf st hg
  subst hP hw hK
  obtain ⟨xs,x,hq,hx⟩:=hg
  obtain ⟨its,rv,p,hz⟩:=I.list hq
  obtain ⟨u,hu,ru⟩:=rv.get hx
  obtain ⟨f0,f1,f2,f3,f4,f5⟩:=hf it (by simp)
  refine wpAny_pyNext_list_item st p.isList (x:=u) (by simpa using hu) fun h' st' sb=>?_
  have I1:Inv X pins σ H { s with heap:=h' }:=I.turned (t':=s.toks) (fun b o hb e=>(sb.2 b hb).trans e) f0 f1 f3 f4 f5
  obtain ⟨o,e,c,d⟩:=id st'
  exact ⟨u,rfl,zi4 (s:={ s with heap:=h' }) e c d (by decide) ⟨x,H,I1,ru,⟨rfl,fun ys hy=>by rw [I.list_inj hy hq];exact hx⟩,st',fun b hb=>(hf b hb).1⟩⟩
 done:=by
  intro X hP hw hK hc i pins s σ H E I hf st hg
  subst hP hw hK
  obtain ⟨xs,hq,hx⟩:=hg
  obtain ⟨its,rv,p,hz⟩:=I.list hq
  obtain ⟨f0,f1,f2,f3,f4,f5⟩:=hf it (by simp)
  have hl:=rv.length
  exact wpAny_pyNext_list_end (I.ok.hd hc) st p.isList (by simp;lia) fun h' eb=>⟨rfl,I.turned (t':=s.toks) (fun b o hb e=>eb b o hb e) f0 f1 f3 f4 f5⟩
 self:=fun _ _ _ _ _ st h=>wpAny_pyIter_listiter st h
theorem zgo {P:Program}{w:World}{K:PySem.W.Frag}{tg:Expr} (a it:Addr):Turn P w K tg (Itt K a) [it] it (fun i h=>h.IsTupleIter it a i) where
 mem:=by simp
 obj:=fun i h st b hb=>by
  have e:b=it:=by simpa using hb
  subst e
  obtain ⟨o,e,c,d⟩:=st
  exact ⟨o,e,fun v z=>by rw [d] at z;cases z⟩
 keep:=fun i h h' st k=>st.at fun o e=>k it (by simp) o e
 item:=by
  intro X hP hw hK hc i pins s σ H E I hf st hg
  subst hP hw hK
  obtain ⟨xs,x,hq,hx⟩:=hg
  obtain ⟨its,rv,p,hz⟩:=I.tuple hq
  obtain ⟨u,hu,ru⟩:=rv.get hx
  obtain ⟨f0,f1,f2,f3,f4,f5⟩:=hf it (by simp)
  refine wpAny_pyNext_tuple_item st (show s.heap.IsTuple a its.toArray from p) (x:=u) (by simpa using hu) fun h' st' sb=>?_
  have I1:Inv X pins σ H { s with heap:=h' }:=I.turned (t':=s.toks) (fun b o hb e=>(sb.2 b hb).trans e) f0 f1 f3 f4 f5
  obtain ⟨o,e,c,d⟩:=id st'
  exact ⟨u,rfl,zi4 (s:={ s with heap:=h' }) e c d (by decide) ⟨x,H,I1,ru,⟨rfl,fun ys hy=>by rw [I.tuple_inj hy hq];exact hx⟩,st',fun b hb=>(hf b hb).1⟩⟩
 done:=by
  intro X hP hw hK hc i pins s σ H E I hf st hg
  subst hP hw hK
  obtain ⟨xs,hq,hx⟩:=hg
  obtain ⟨its,rv,p,hz⟩:=I.tuple hq
  obtain ⟨f0,f1,f2,f3,f4,f5⟩:=hf it (by simp)
  have hl:=rv.length
  exact wpAny_pyNext_tuple_end (I.ok.hd hc) st (show s.heap.IsTuple a its.toArray from p) (by simp;lia) fun h' eb=>⟨rfl,I.turned (t':=s.toks) (fun b o hb e=>eb b o hb e) f0 f1 f3 f4 f5⟩
 self:=fun _ _ _ _ _ st h=>wpAny_pyIter_tupleiter st h
theorem zgp {P:Program}{w:World}{K:PySem.W.Frag}{tg:Expr} (it:Addr) (lo:Int) (n:Nat):Turn P w K tg (Itr lo n) [it] it (fun i h=>IsRangeIter h it (lo+(i:Nat)*1) ((n:Int) - (i:Nat)) 1) where
 mem:=by simp
 obj:=fun i h st b hb=>by
  have e:b=it:=by simpa using hb
  subst e
  exact ⟨_,st,fun v z=>by
   have z':Data.fields _=Data.cell v:=z
   cases z'⟩
 keep:=fun i h h' st k=>k it (by simp) _ st
 item:=by
  intro X hP hw hK hc i pins s σ H E I hf st hg
  subst hP hw hK
  obtain ⟨f0,f1,f2,f3,f4,f5⟩:=hf it (by simp)
  have W:=Walks.range (prog:=X.prog) (w:=X.w) (I.ok.hd hc) it lo 1 n
  refine W.item i s _ _ hg st fun v h' tk hv st' kk=>?_
  obtain ⟨t,rfl⟩:=hv
  have I1:Inv X pins σ H { s with heap:=h',toks:=tk }:=I.turned (fun b o hb e=>kk b o (by simpa using hb) e) f0 f1 f3 f4 f5
  refine ⟨_,rfl,zi4 (s:={ s with heap:=h',toks:=tk }) (n:="range_iterator") st' rfl rfl (by decide) ⟨.int (lo+i),H,I1,⟨t,?_⟩,⟨rfl,rfl⟩,st',fun b hb=>(hf b hb).1⟩⟩
  rw [Int.mul_one]
 done:=by
  intro X hP hw hK hc i pins s σ H E I hf st hg
  subst hP hw hK
  obtain ⟨f0,f1,f2,f3,f4,f5⟩:=hf it (by simp)
  exact wpAny_pyNext_range_end (I.ok.hd hc) st (by have:n<=i:=hg;lia) fun h' eb=>⟨rfl,I.turned (t':=s.toks) (fun b o hb e=>eb b o hb e) f0 f1 f3 f4 f5⟩
 self:=fun _ _ _ _ _ st h=>wpAny_pyIter_rangeiter st h
end L2
namespace L2
open PySem PySem.Spec PyProof.Rows
section
variable {X:Cx}{tg:Expr}
def zoW (K:PySem.W.Frag) (tl:TE):TI:=fun σ H R=>tl σ H fun x H1=>∃ a,x=.ref a/\(∃ xs,SqL K H1 a xs)/\R (Itl K a) H1
def iTup (K:PySem.W.Frag) (tl:TE):TI:=fun σ H R=>tl σ H fun x H1=>∃ a,x=.ref a/\(∃ xs,SqT K H1 a xs)/\R (Itt K a) H1
theorem zjW {l:Expr}{tl:TE} (hl:PE X l tl):PI X tg l (zoW X.K tl):=by
 intro pins s σ H R I h
 refine thn (hl pins s σ H _ I h) fun v s1 ⟨x,H1,I1,r1,q1⟩=>?_
 obtain ⟨a,e,⟨xs,hq⟩,q⟩:=q1
 subst e
 cases r1
 obtain ⟨its,rv,p,hz⟩:=I1.list hq
 refine wpAny_pyIter_list p.isList ?_
 refine ⟨s1.heap.objs.size,[s1.heap.objs.size],_,_,H1,rfl,I1.kept (t':=s1.toks) fun b o e=>Heap.get?_push_of_some _ e,zgL a _,⟨_,Heap.get?_push_size _ rfl,rfl,rfl⟩,fun b hb=>?_,q⟩
 have e:b=s1.heap.objs.size:=by simpa using hb
 subst e
 exact I1.fpOk (Nat.le_refl _) (I1.hok.fresh (Nat.le_refl _))
theorem zlC {l:Expr}{tl:TE} (hl:PE X l tl):PI X tg l (iTup X.K tl):=by
 intro pins s σ H R I h
 refine thn (hl pins s σ H _ I h) fun v s1 ⟨x,H1,I1,r1,q1⟩=>?_
 obtain ⟨a,e,⟨xs,hq⟩,q⟩:=q1
 subst e
 cases r1
 obtain ⟨its,rv,p,hz⟩:=I1.tuple hq
 refine wpAny_pyIter_tuple (show s1.heap.IsTuple a its.toArray from p) ?_
 refine ⟨s1.heap.objs.size,[s1.heap.objs.size],_,_,H1,rfl,I1.kept (t':=s1.toks) fun b o e=>Heap.get?_push_of_some _ e,zgo a _,⟨_,Heap.get?_push_size _ rfl,rfl,rfl⟩,fun b hb=>?_,q⟩
 have e:b=s1.heap.objs.size:=by simpa using hb
 subst e
 exact I1.fpOk (Nat.le_refl _) (I1.hok.fresh (Nat.le_refl _))
theorem ziB {pins:List (Addr×Obj)}{σ:St}{H:Hp}{s:Shared}{R:It->Hp->Prop}{E:Value->Shared->Prop}{lo hi:Int}{t u v:Tok}{tk:Nat} (I:Inv X pins σ H s) (h1:-(2 ^ 62)<=lo) (h2:lo<2 ^ 62) (h3:-(2 ^ 62)<=hi) (h4:hi<2 ^ 62)
  (q:R (Itr lo (hi - lo).toNat) H):wpAny (model X.prog X.w) X.A (pyIter (.ref s.heap.objs.size)) (PIE X pins σ tg R) E { s with heap:=s.heap.push { cls:=.type "range",data:=.fields #[.int lo t,.int hi u,.int 1 v] },toks:=tk }:=by
 refine wpAny_pyIter_range (IsRange.new ..) (small_one h1 h2 h3 h4) ?_
 have I1:Inv X pins σ H { s with heap:=s.heap.push { cls:=.type "range",data:=.fields #[.int lo t,.int hi u,.int 1 v] },toks:=tk }:=I.kept fun b o e=>Heap.get?_push_of_some _ e
 refine ⟨(s.heap.push { cls:=.type "range",data:=.fields #[.int lo t,.int hi u,.int 1 v] }).objs.size,[(s.heap.push { cls:=.type "range",data:=.fields #[.int lo t,.int hi u,.int 1 v] }).objs.size],_,_,H,rfl,
  I1.kept (t':=tk) fun b o e=>Heap.get?_push_of_some _ e,zgp _ lo (hi - lo).toNat,?_,fun b hb=>?_,q⟩
 ·have e1:lo+((0:Nat):Int)*1=lo:=by simp
  have e2:(((hi - lo).toNat:Nat):Int) - ((0:Nat):Int)=Builtin.Range.rangeSize lo hi 1:=by rw [rangeSize_one];split <;> lia
  show IsRangeIter _ _ (lo+((0:Nat):Int)*1) ((((hi - lo).toNat:Nat):Int) - ((0:Nat):Int)) 1
  rw [e1,e2]
  exact Heap.get?_push_size _ rfl
 ·have e:b=(s.heap.push { cls:=.type "range",data:=.fields #[.int lo t,.int hi u,.int 1 v] }).objs.size:=by simpa using hb
  subst e
  exact I1.fpOk (Nat.le_refl _) (I1.hok.fresh (Nat.le_refl _))
def zoV (ta:TA):TI:=fun σ H R=>ta σ H fun vs H1=>∃ j:Int,vs=[.int j]/\-(2 ^ 62)<=j/\j<2 ^ 62/\R (Itr 0 j.toNat) H1
theorem zg3 {a:Expr}{ta:TA}{p pos:Pos} (hg:Gl X "range") (hm:X.mg "range" = none) (ha:PA X [a] ta) (hs:starEach [a] X.env=[(false,eval a X.env)]:=by rfl):PI X tg (.Call (.Name "range" p) [a] [] pos) (zoV ta):=by
 intro pins s σ H R I h
 refine Call_ (zer I hg hm boot_range (PyProof.Rows.callWith_type1 (thn (ha pos pins s σ H _ I h) fun us s1 ⟨vs,H1,I1,r1,q1⟩=>?_) hs rfl))
 obtain ⟨j,e,q1,q2,q⟩:=q1
 subst e
 cases r1 with
 | cons r rr =>
  cases rr
  obtain ⟨t,rfl⟩:=r
  exact call_range_1 (ziB I1 (by lia) (by lia) q1 q2 (by simpa using q))
def tFor (wi:TI) (g:TG) (tb:TS):TS:=fun D σ H=>wi σ H fun J H1=>∃ W:Nat->Nat->St->Hp->Prop,(∃ m,W 0 m σ H1)/\∀ i m σ H,W i m σ H ->
 (J.stop i H/\D.nx σ H)\/(J.go i H/\∃ N:St->Hp->Prop,(∀ σ' H',N σ' H'->∃ m',m'<m/\W (i+1) m' σ' H')/\∀ x H',J.yld i H x H'->g x σ H' fun σ2 H2=>tb { D with nx:=N,ct:=N,bk:=D.nx } σ2 H2)
def zeg (fp:List Addr) (h:Heap):List (Addr×Obj):=fp.filterMap fun b=>(h.get? b).map fun o=>(b,o)
theorem zbF {fp:List Addr}{h:Heap}{b:Addr}{o:Obj} (hb:b∈fp) (e:h.get? b=some o):(b,o)∈zeg fp h:=List.mem_filterMap.mpr ⟨b,hb,by rw [e];rfl⟩
theorem zhd {fp:List Addr}{h:Heap}{p:Addr×Obj} (hp:p∈zeg fp h):p.1∈fp/\h.get? p.1=some p.2:=by
 obtain ⟨b,hb,e⟩:=List.mem_filterMap.mp hp
 cases q:h.get? b with
 | none=>rw [q] at e;cases e
 | some o =>
  rw [q] at e
  have e':(b,o)=p:=Option.some.inj e
  subst e'
  exact ⟨hb,q⟩
theorem Inv.pinned {pins:List (Addr×Obj)}{σ:St}{H:Hp}{s:Shared}{fp:List Addr} (I:Inv X pins σ H s) (hf:∀ b∈fp,FpOk X pins H b) (ho:∀ b∈fp,∃ o,s.heap.get? b=some o/\∀ v,o.data≠.cell v):Inv X (pins++zeg fp s.heap) σ H s :=
 I.pins_of fun p hp=>(List.mem_append.mp hp).elim (fun z=>I.pin p (List.mem_append_right _ z)) fun z=>by
  obtain ⟨hb,e⟩:=zhd z
  obtain ⟨f0,f1,f2,_⟩:=hf p.1 hb
  obtain ⟨o,e',d⟩:=ho p.1 hb
  rw [e] at e';cases e'
  exact ⟨e,f0,f1,f2,d⟩
theorem Inv.unpinned {pins pl:List (Addr×Obj)}{σ:St}{H:Hp}{s:Shared} (I:Inv X (pins++pl) σ H s):Inv X pins σ H s:=I.pins_of fun p hp=>I.pin p (List.mem_append_right _ (List.mem_append_left _ hp))
theorem zly {iter:Expr}{body:List Stmt}{wi:TI}{g:TG}{tb:TS}{pos:Pos} (hp:PassesOwn (model X.prog X.w) X.A X.env X.xe) (hc:X.calm=true) (hi:PI X tg iter wi) (hg:PG X tg g) (hb:PSs X body tb)
  (hs:∀ x,foldedSetIterable iter X.env x=pure x:=by intro _;rfl):PS X (.For tg iter body [] pos) (tFor wi g tb):=by
 intro pins s σ H D I h
 refine wpAny_For (thn (hi pins s σ H _ I h) fun v s1 h1=>thn h1 fun itv s2 h2=>?_) hs
 obtain ⟨it,fp,tn,J,H2,e,I2,T,st2,f2,W,⟨m0,w0⟩,turn⟩:=h2
 subst e
 have stat:∀ {H':Hp},(∀ b∈fp,H' b=none)->∀ b∈fp,FpOk X pins H' b:=fun hn b hb=>⟨hn b hb,(f2 b hb).2⟩
 refine codeAny_forLoop_any (fun n s'=>∃ i σ' H',Inv X pins σ' H' s'/\tn i s'.heap/\(∀ b∈fp,H' b=none)/\W i n σ' H') ?_ m0 ⟨0,σ,H2,I2,st2,fun b hb=>(f2 b hb).1,w0⟩
 rintro n s3 ⟨i,σ3,H3,I3,st3,fr3,w3⟩
 rcases turn i n σ3 H3 w3 with ⟨stop,qn⟩ | ⟨go,N,hN,step⟩
 ·refine wpAny_passesOwn hp (thn (T.done X rfl rfl rfl hc i pins s3 σ3 H3 X.xe I3 (stat fr3) st3 stop) fun r s4 ⟨hr,I4⟩=>?_)
  subst hr
  exact wpAny_execs_nil ⟨σ3,H3,I4,qn⟩
 ·refine wpAny_passesOwn hp (thn (T.item X rfl rfl rfl hc i pins s3 σ3 H3 X.xe I3 (stat fr3) st3 go) fun r s4 ⟨u,hr,h4⟩=>?_)
  subst hr
  refine wpAny_passesOwn hp (thn h4 fun _ s5 ⟨x,H5,I5,r5,y5,st5,fr5⟩=>?_)
  have I5':=I5.pinned (stat fr5) (T.obj _ _ st5)
  refine wpAny_passesOwn hp (thn (hg _ s5 σ3 H5 x u _ I5' r5 (step x H5 y5)) fun _ s6 ⟨σ6,H6,I6,q6⟩=>?_)
  refine wpAny_passesOwn hp (thn (hb _ s6 σ6 H6 _ I6 q6) fun f s7 q7=>?_)
  have again:∀ {σ7:St} {H7:Hp},Inv X (pins++zeg fp s5.heap) σ7 H7 s7->N σ7 H7->∃ m,m<n/\∃ i σ' H',Inv X pins σ' H' s7/\tn i s7.heap/\(∀ b∈fp,H' b=none)/\W i m σ' H':=fun {σ7 H7} I7 n7=>by
   obtain ⟨m',hm,w7⟩:=hN σ7 H7 n7
   refine ⟨m',hm,i+1,σ7,H7,I7.unpinned,T.keep _ _ _ st5 fun b hb o e=>(I7.pin (b,o) (List.mem_append_right _ (List.mem_append_right _ (zbF hb e)))).1,fun b hb=>?_,w7⟩
   obtain ⟨o,e,d⟩:=T.obj _ _ st5 b hb
   exact (I7.pin (b,o) (List.mem_append_right _ (List.mem_append_right _ (zbF hb e)))).2.1
  cases f with
  | next=>obtain ⟨σ7,H7,I7,n7⟩:=q7;exact again I7 n7
  | cont=>obtain ⟨σ7,H7,I7,n7⟩:=q7;exact again I7 n7
  | brk=>obtain ⟨σ7,H7,I7,q7⟩:=q7;exact ⟨σ7,H7,I7.unpinned,q7⟩
  | ret v=>obtain ⟨x7,σ7,H7,I7,r7,q7⟩:=q7;exact ⟨x7,σ7,H7,I7.unpinned,r7,q7⟩
end
end L2
namespace L2
open PySem PySem.Spec PyProof.Rows
abbrev R2:=V->V->Hp->VK->Prop
def OpR (X:Cx) (f:Value->Value->Sem Value) (r:R2):Prop :=
 ∀ (pins:List (Addr×Obj)) (s:Shared) (σ:St) (H:Hp) (x y:V) (v u:Value) (Q:VK),Inv X pins σ H s->RelV x v->RelV y u->r x y H Q ->
  wpAny (model X.prog X.w) X.A (f v u) (EP X pins σ Q) X.xe s
def UnR (X:Cx) (f:Value->Sem Value) (r:V->Hp->VK->Prop):Prop :=
 ∀ (pins:List (Addr×Obj)) (s:Shared) (σ:St) (H:Hp) (x:V) (v:Value) (Q:VK),Inv X pins σ H s->RelV x v->r x H Q ->
  wpAny (model X.prog X.w) X.A (f v) (EP X pins σ Q) X.xe s
def zcl (X:Cx) (f:Value) (r:List V->Hp->VK->Prop):Prop :=
 ∀ (pins:List (Addr×Obj)) (s:Shared) (σ:St) (H:Hp) (xs:List V) (us:List Value) (Q:VK),Inv X pins σ H s->Vals xs us->r xs H Q ->
  wpAny (model X.prog X.w) X.A (call f us) (EP X pins σ Q) X.xe s
def TruR (X:Cx) (r:V->Hp->(Bool->Hp->Prop)->Prop):Prop :=
 ∀ (pins:List (Addr×Obj)) (s:Shared) (σ:St) (H:Hp) (x:V) (v:Value) (Q:Bool->Hp->Prop),Inv X pins σ H s->RelV x v->r x H Q ->
  wpAny (model X.prog X.w) X.A (truthy v) (TP X pins σ Q) X.xe s
def tOp (r:R2) (ta tb:TE):TE:=fun σ H Q=>ta σ H fun x H1=>tb σ H1 fun y H2=>r x y H2 Q
def tUn (r:V->Hp->VK->Prop) (ta:TE):TE:=fun σ H Q=>ta σ H fun x H1=>r x H1 Q
def rI (C:Int->Int->Prop) (g:Int->Int->V):R2:=fun x y H Q=>∃ i j,x=.int i/\y=.int j/\C i j/\Q (g i j) H
def rI0 (g:Int->Int->V):R2:=fun x y H Q=>∃ i j,x=.int i/\y=.int j/\Q (g i j) H
def rU (g:Int->V):V->Hp->VK->Prop:=fun x H Q=>∃ i,x=.int i/\Q (g i) H
section
variable {X:Cx}{a b c:Expr}{ta tb tc:TE}{pos:Pos}
theorem binT (ha:PE X a ta) (hb:PE X b tb) {pins:List (Addr×Obj)}{s:Shared}{σ:St}{H:Hp}{R:V->V->Hp->Prop} (I:Inv X pins σ H s)
  (h:ta σ H fun x H1=>tb σ H1 fun y H2=>R x y H2) {Q:Value->Shared->Prop} {f:Value->Value->Sem Value}
  (hf:∀ v u s2 x y H2,Inv X pins σ H2 s2->RelV x v->RelV y u->R x y H2->wpAny (model X.prog X.w) X.A (f v u) Q X.xe s2) :
  wpAny (model X.prog X.w) X.A (eval a X.env) (fun v s₁=>wpAny (model X.prog X.w) X.A (eval b X.env) (fun u s₂=>wpAny (model X.prog X.w) X.A (f v u) Q X.xe s₂) X.xe s₁) X.xe s:=by
 refine thn (ha pins s σ H _ I h) fun v s1 ⟨x,H1,I1,r1,q1⟩=>?_
 refine thn (hb pins s1 σ H1 _ I1 q1) fun u s2 ⟨y,H2,I2,r2,q2⟩=>?_
 exact hf v u s2 x y H2 I2 r1 r2 q2
theorem zaS {op:Operator}{r:R2} (ho:OpR X (binaryOp op) r) (ha:PE X a ta) (hb:PE X b tb):PE X (.BinOp a op b pos) (tOp r ta tb):=by
 intro pins s σ H Q I h
 exact wpAny_BinOp (binT ha hb I h fun v u s2 x y H2 I2 rx ry q=>ho pins s2 σ H2 x y v u Q I2 rx ry q)
theorem zoj {op:UnaryOp}{r:V->Hp->VK->Prop} (ho:UnR X (unaryOp op) r) (ha:PE X a ta):PE X (.UnaryOp op a pos) (tUn r ta):=by
 intro pins s σ H Q I h
 exact UnaryOp_ (thn (ha pins s σ H _ I h) fun v s1 ⟨x,H1,I1,r1,q1⟩=>ho pins s1 σ H1 x v Q I1 r1 q1)
theorem opI {f:Value->Value->Sem Value}{C:Int->Int->Prop}{g:Int->Int->Int}
  (rule:∀ (i j:Int) (t u:Tok) (s:Shared) (Q:Value->Shared->Prop) (E:Value->Shared->Prop),C i j->Q (.int (g i j) s.toks) { s with toks:=s.toks+1 }->wpAny (model X.prog X.w) X.A (f (.int i t) (.int j u)) Q E s) :
  OpR X f (rI C fun i j=>.int (g i j)):=by
 intro pins s σ H x y v u Q I rx ry h
 obtain ⟨i,j,rfl,rfl,hc,q⟩:=h
 obtain ⟨t,rfl⟩:=rx
 obtain ⟨t',rfl⟩:=ry
 exact rule i j t t' s _ _ hc ⟨.int (g i j),H,I.tok _,⟨_,rfl⟩,q⟩
theorem opI0 {f:Value->Value->Sem Value}{g:Int->Int->Int}
  (rule:∀ (i j:Int) (t u:Tok) (s:Shared) (Q:Value->Shared->Prop) (E:Value->Shared->Prop),Q (.int (g i j) s.toks) { s with toks:=s.toks+1 }->wpAny (model X.prog X.w) X.A (f (.int i t) (.int j u)) Q E s) :
  OpR X f (rI0 fun i j=>.int (g i j)):=by
 intro pins s σ H x y v u Q I rx ry h
 obtain ⟨i,j,rfl,rfl,q⟩:=h
 obtain ⟨t,rfl⟩:=rx
 obtain ⟨t',rfl⟩:=ry
 exact rule i j t t' s _ _ ⟨.int (g i j),H,I.tok _,⟨_,rfl⟩,q⟩
theorem opB0 {f:Value->Value->Sem Value}{g:Int->Int->Bool}
  (rule:∀ (i j:Int) (t u:Tok) (s:Shared) (Q:Value->Shared->Prop) (E:Value->Shared->Prop),Q (.bool (g i j)) s->wpAny (model X.prog X.w) X.A (f (.int i t) (.int j u)) Q E s) :
  OpR X f (rI0 fun i j=>.bl (g i j)):=by
 intro pins s σ H x y v u Q I rx ry h
 obtain ⟨i,j,rfl,rfl,q⟩:=h
 obtain ⟨t,rfl⟩:=rx
 obtain ⟨t',rfl⟩:=ry
 exact rule i j t t' s _ _ ⟨.bl (g i j),H,I,rfl,q⟩
def CPow (i j:Int):Prop:=0<=j/\j<=1000000/\i.natAbs<2 ^ 64
def CMul (i j:Int):Prop:=(-(2 ^ 64)<i/\i<2 ^ 64)\/(-(2 ^ 64)<j/\j<2 ^ 64)
theorem CMul.ok {i j:Int} (h:CMul i j):IntMulOk i j:=by
 rcases h with ⟨h1,h2⟩ | ⟨h1,h2⟩
 ·exact .of_left (intBits_le_64 h1 h2)
 ·exact .of_right (intBits_le_64 h1 h2)
theorem zb0:OpR X (binaryOp .Add) (rI0 fun i j=>.int (i+j)):=opI0 fun _ _ _ _ _ _ _ q=>add_int q
theorem zlQ:OpR X (binaryOp .Sub) (rI0 fun i j=>.int (i - j)):=opI0 fun _ _ _ _ _ _ _ q=>sub_int q
theorem zbL:OpR X (binaryOp .Mult) (rI CMul fun i j=>.int (i*j)):=opI fun _ _ _ _ _ _ _ hc q=>mul_int q hc.ok
theorem zcY:OpR X (binaryOp .Mod) (rI (fun _ j=>0<j) fun i j=>.int (i % j)):=opI fun i j _ _ _ _ _ hc q=>by
 have h1:(0:Int)<j:=hc
 exact mod_int' (by lia) (by rw [Int.fmod_eq_emod_of_nonneg i (by lia)];exact q)
theorem zjo:OpR X (binaryOp .Pow) (rI CPow fun i j=>.int (i ^ j.toNat)):=opI fun _ _ _ _ _ _ _ hc q=>pow_int_small hc.1 hc.2.1 hc.2.2 q
theorem zlR:OpR X (binaryOp .LShift) (rI CPow fun i j=>.int (i*2 ^ j.toNat)):=opI fun _ _ _ _ _ _ _ hc q=>lshift_int_small hc.1 hc.2.1 hc.2.2 q
theorem unI {f:Value->Sem Value}{g:Int->Int}
  (rule:∀ (i:Int) (t:Tok) (s:Shared) (Q:Value->Shared->Prop) (E:Value->Shared->Prop),Q (.int (g i) s.toks) { s with toks:=s.toks+1 }->wpAny (model X.prog X.w) X.A (f (.int i t)) Q E s) :
  UnR X f (rU fun i=>.int (g i)):=by
 intro pins s σ H x v Q I rx h
 obtain ⟨i,rfl,q⟩:=h
 obtain ⟨t,rfl⟩:=rx
 exact rule i t s _ _ ⟨.int (g i),H,I.tok _,⟨_,rfl⟩,q⟩
theorem zk3:UnR X (unaryOp .USub) (rU fun i=>.int (-i)):=unI fun _ _ _ _ _ q=>neg_int q
end
def scal:V->V->Bool
 | .non,.non=>true | .non,.int _=>true | .int _,.non=>true | .non,.bl _=>true | .bl _,.non=>true | .non,.str _=>true | .str _,.non=>true
 | .int _,.int _=>true | .bl _,.bl _=>true | .str _,.str _=>true | .byt _,.byt _=>true
 | .int _,.str _=>true | .str _,.int _=>true | .bl _,.str _=>true | .str _,.bl _=>true
 | _,_=>false
def rEq:R2:=fun x y H Q=>scal x y=true/\Q (.bl (decide (x=y))) H
def rNe:R2:=fun x y H Q=>scal x y=true/\Q (.bl (!decide (x=y))) H
theorem zhN {i j:Int}:decide (V.int i=V.int j)=(i == j):=by
 rw [Bool.eq_iff_iff]
 simp
theorem zjz {i j:Bool}:decide (V.bl i=V.bl j)=(i == j):=by
 rw [Bool.eq_iff_iff]
 simp
theorem zhM {i j:Str}:decide (V.str i=V.str j)=(i == j):=by
 rw [Bool.eq_iff_iff]
 simp
theorem zhO {i j:Array UInt8}:decide (V.byt i=V.byt j)=(i.toList == j.toList):=by
 rw [Bool.eq_iff_iff]
 cases i
 cases j
 simp
section
variable {X:Cx}{a b c:Expr}{ta tb tc:TE}{pos:Pos}
theorem zaq {pins:List (Addr×Obj)}{σ:St}{H:Hp}{s:Shared}{Q:VK}{k k':Bool} (I:Inv X pins σ H s) (q:Q (.bl k) H) (e:k=k'):EP X pins σ Q (.bool k') s:=by
 subst e
 exact ⟨.bl k,H,I,rfl,q⟩
theorem zot:OpR X (compareOp .Eq) rEq:=by
 intro pins s σ H x y v u Q I rx ry h
 obtain ⟨hs,q⟩:=h
 cases x with
 | non =>
  cases rx
  cases y with
  | non=>cases ry;exact PySem.EqNone.eq_none_none (zaq I q (by simp))
  | bl j=>cases ry;exact PySem.EqNone.eq_none_bool (zaq I q (by simp))
  | int j=>obtain ⟨t',rfl⟩:=ry;exact PySem.EqNone.eq_none_int (zaq I q (by simp))
  | str j=>obtain ⟨t',rfl⟩:=ry;exact PySem.EqNone.eq_none_str (zaq I q (by simp))
  | _=>exact absurd (show false=true from hs) Bool.false_ne_true
 | bl i =>
  cases rx
  cases y with
  | non=>cases ry;exact PySem.EqNone.eq_bool_none (zaq I q (by simp))
  | bl j=>cases ry;exact eq_bool (zaq I q zjz)
  | str j=>obtain ⟨t',rfl⟩:=ry;exact PySem.EqMixed.eq_bool_str (zaq I q (by simp))
  | _=>exact absurd (show false=true from hs) Bool.false_ne_true
 | int i =>
  obtain ⟨t,rfl⟩:=rx
  cases y with
  | non=>cases ry;exact PySem.EqNone.eq_int_none (zaq I q (by simp))
  | int j=>obtain ⟨t',rfl⟩:=ry;exact eq_int (zaq I q zhN)
  | str j=>obtain ⟨t',rfl⟩:=ry;exact PySem.EqMixed.eq_int_str (zaq I q (by simp))
  | _=>exact absurd (show false=true from hs) Bool.false_ne_true
 | str i =>
  obtain ⟨t,rfl⟩:=rx
  cases y with
  | non=>cases ry;exact PySem.EqNone.eq_str_none (zaq I q (by simp))
  | bl j=>cases ry;exact PySem.EqMixed.eq_str_bool (zaq I q (by simp))
  | int j=>obtain ⟨t',rfl⟩:=ry;exact PySem.EqMixed.eq_str_int (zaq I q (by simp))
  | str j=>obtain ⟨t',rfl⟩:=ry;exact eq_str (zaq I q zhM)
  | _=>exact absurd (show false=true from hs) Bool.false_ne_true
 | byt i =>
  obtain ⟨t,rfl⟩:=rx
  cases y with
  | byt j=>obtain ⟨t',rfl⟩:=ry;exact PySem.W.eq_bytes (zaq I q zhO)
  | _=>exact absurd (show false=true from hs) Bool.false_ne_true
 | _=>cases y <;> exact absurd (show false=true from hs) Bool.false_ne_true
theorem zop:OpR X (compareOp .NotEq) rNe:=by
 intro pins s σ H x y v u Q I rx ry h
 obtain ⟨hs,q⟩:=h
 cases x with
 | non =>
  cases rx
  cases y with
  | non=>cases ry;exact PySem.EqNone.ne_none_none (zaq I q (by simp))
  | bl j=>cases ry;exact PySem.EqNone.ne_none_bool (zaq I q (by simp))
  | int j=>obtain ⟨t',rfl⟩:=ry;exact PySem.EqNone.ne_none_int (zaq I q (by simp))
  | str j=>obtain ⟨t',rfl⟩:=ry;exact PySem.EqNone.ne_none_str (zaq I q (by simp))
  | _=>exact absurd (show false=true from hs) Bool.false_ne_true
 | bl i =>
  cases rx
  cases y with
  | non=>cases ry;exact PySem.EqNone.ne_bool_none (zaq I q (by simp))
  | bl j=>cases ry;exact ne_bool (zaq I q (congrArg not zjz))
  | str j=>obtain ⟨t',rfl⟩:=ry;exact PySem.EqMixed.ne_bool_str (zaq I q (by simp))
  | _=>exact absurd (show false=true from hs) Bool.false_ne_true
 | int i =>
  obtain ⟨t,rfl⟩:=rx
  cases y with
  | non=>cases ry;exact PySem.EqNone.ne_int_none (zaq I q (by simp))
  | int j=>obtain ⟨t',rfl⟩:=ry;exact ne_int (zaq I q (congrArg not zhN))
  | str j=>obtain ⟨t',rfl⟩:=ry;exact PySem.EqMixed.ne_int_str (zaq I q (by simp))
  | _=>exact absurd (show false=true from hs) Bool.false_ne_true
 | str i =>
  obtain ⟨t,rfl⟩:=rx
  cases y with
  | non=>cases ry;exact PySem.EqNone.ne_str_none (zaq I q (by simp))
  | bl j=>cases ry;exact PySem.EqMixed.ne_str_bool (zaq I q (by simp))
  | int j=>obtain ⟨t',rfl⟩:=ry;exact PySem.EqMixed.ne_str_int (zaq I q (by simp))
  | str j=>obtain ⟨t',rfl⟩:=ry;exact ne_str (zaq I q (congrArg not zhM))
  | _=>exact absurd (show false=true from hs) Bool.false_ne_true
 | byt i =>
  obtain ⟨t,rfl⟩:=rx
  cases y with
  | byt j=>obtain ⟨t',rfl⟩:=ry;exact PySem.W.ne_bytes (zaq I q (congrArg not zhO))
  | _=>exact absurd (show false=true from hs) Bool.false_ne_true
 | _=>cases y <;> exact absurd (show false=true from hs) Bool.false_ne_true
theorem zlU:OpR X (compareOp .Lt) (rI0 fun i j=>.bl (decide (i<j))):=opB0 fun _ _ _ _ _ _ _ q=>lt_int q
theorem zoq:OpR X (compareOp .LtE) (rI0 fun i j=>.bl (decide (i<=j))):=opB0 fun _ _ _ _ _ _ _ q=>le_int q
theorem zlY:OpR X (compareOp .Gt) (rI0 fun i j=>.bl (decide (j<i))):=opB0 fun _ _ _ _ _ _ _ q=>gt_int q
theorem zos:OpR X (compareOp .GtE) (rI0 fun i j=>.bl (decide (j<=i))):=opB0 fun _ _ _ _ _ _ _ q=>ge_int q
theorem zg9:OpR X (compareOp .Lt) (fun x y H Q=>∃ i j,x=.str i/\y=.str j/\Q (.bl (decide (i.cps.toList<j.cps.toList))) H):=by
 intro pins s σ H x y v u Q I rx ry h
 obtain ⟨i,j,rfl,rfl,q⟩:=h
 obtain ⟨t,rfl⟩:=rx
 obtain ⟨t',rfl⟩:=ry
 exact lt_str (zaq I q rfl)
theorem zlV:OpR X (compareOp .Is) (fun x y H Q=>y=.non/\Q (.bl (decide (x=.non))) H):=by
 intro pins s σ H x y v u Q I rx ry h
 obtain ⟨rfl,q⟩:=h
 cases ry
 refine is_none_gen (zaq I q ?_)
 cases x <;> first
  | (cases rx;rfl)
  | (obtain ⟨t,rfl⟩:=rx;rfl)
theorem zj7:OpR X (compareOp .IsNot) (fun x y H Q=>y=.non/\Q (.bl (!decide (x=.non))) H):=by
 intro pins s σ H x y v u Q I rx ry h
 obtain ⟨rfl,q⟩:=h
 cases ry
 refine isnot_none_gen (zaq I q ?_)
 cases x <;> first
  | (cases rx;rfl)
  | (obtain ⟨t,rfl⟩:=rx;rfl)
theorem OpR.or {f:Value->Value->Sem Value}{r r':R2} (h:OpR X f r) (h':OpR X f r'):OpR X f (fun x y H Q=>r x y H Q\/r' x y H Q):=by
 intro pins s σ H x y v u Q I rx ry q
 rcases q with q | q
 ·exact h pins s σ H x y v u Q I rx ry q
 ·exact h' pins s σ H x y v u Q I rx ry q
theorem zaM (b:Expr) {op:CmpOp} (h:op≠.In:=by decide) (h2:op≠.NotIn:=by decide):behindInMarks op b=false:=by
 have e1:(op == CmpOp.In)=false:=by cases op <;> first | rfl | exact absurd rfl h
 have e2:(op == CmpOp.NotIn)=false:=by cases op <;> first | rfl | exact absurd rfl h2
 cases b <;> simp [behindInMarks,e1,e2]
theorem zg6 {op:CmpOp}{r:R2} (ho:OpR X (compareOp op) r) (ha:PE X a ta) (hb:PE X b tb) (hm:behindInMarks op b=false):PE X (.Compare a [op] [b] pos) (tOp r ta tb):=by
 intro pins s σ H Q I h
 exact wpAny_Compare1 (binT ha hb I h fun v u s2 x y H2 I2 rx ry q=>ho pins s2 σ H2 x y v u Q I2 rx ry q) hm
def zk7 (t:TE):TT:=fun σ H Q=>t σ H fun x H'=>∃ k,x=.bl k/\Q k H'
theorem zfi {op:CmpOp}{r:R2} (ho:OpR X (compareOp op) r) (ha:PE X a ta) (hb:PE X b tb) (hm:behindInMarks op b=false):PT X (.Compare a [op] [b] pos) (zk7 (tOp r ta tb)):=by
 intro pins s σ H Q I h
 refine wpAny_isTrue_Compare1 (thn (ha pins s σ H _ I h) fun v s1 ⟨x,H1,I1,r1,q1⟩=>thn (hb pins s1 σ H1 _ I1 q1) fun u s2 ⟨y,H2,I2,r2,q2⟩ =>
  thn (ho pins s2 σ H2 x y v u _ I2 r1 r2 q2) fun c s3 ⟨z,H3,I3,r3,k,e,q3⟩=>?_) hm
 subst e
 cases r3
 exact wpAny_truthy_bool ⟨H3,I3,q3⟩
def zji (r r':R2) (ta tb tc:TE):TE:=fun σ H Q=>ta σ H fun x H1=>tb σ H1 fun y H2=>r x y H2 fun z H3=>∃ k,z=.bl k /\
 (if k=true then tc σ H3 fun w' H4=>r' y w' H4 Q else Q (.bl false) H3)
theorem ziM {op op':CmpOp}{r r':R2} (ho:OpR X (compareOp op) r) (ho':OpR X (compareOp op') r') (ha:PE X a ta) (hb:PE X b tb) (hc:PE X c tc)
  (hm:lastMarks [op,op'] [b,c]=false:=by with_unfolding_all rfl):PE X (.Compare a [op,op'] [b,c] pos) (zji r r' ta tb tc):=by
 intro pins s σ H Q I h
 refine Compare_chain (thn (ha pins s σ H _ I h) fun v s1 ⟨x,H1,I1,r1,q1⟩=>chain_link (thn (hb pins s1 σ H1 _ I1 q1) fun u s2 ⟨y,H2,I2,r2,q2⟩ =>
  thn (ho pins s2 σ H2 x y v u _ I2 r1 r2 q2) fun d s3 ⟨z,H3,I3,r3,k,e,q3⟩=>?_)) hm
 subst e
 cases r3
 refine wpAny_truthy_bool ?_
 cases k with
 | false=>exact ite_ff ⟨.bl false,H3,I3,rfl,q3⟩
 | true=>exact ite_tt (chain_last (thn (hc pins s3 σ H3 _ I3 q3) fun w' s4 ⟨z',H4,I4,r4,q4⟩=>ho' pins s4 σ H4 y z' u w' Q I4 r2 r4 q4))
theorem ziD {op op':CmpOp}{r r':R2} (ho:OpR X (compareOp op) r) (ho':OpR X (compareOp op') r') (ha:PE X a ta) (hb:PE X b tb) (hc:PE X c tc)
  (hm:lastMarks [op,op'] [b,c]=false:=by with_unfolding_all rfl):PT X (.Compare a [op,op'] [b,c] pos) (zk7 (zji r r' ta tb tc)):=by
 intro pins s σ H Q I h
 refine isTrue_chain (thn (ha pins s σ H _ I h) fun v s1 ⟨x,H1,I1,r1,q1⟩=>test_link (thn (hb pins s1 σ H1 _ I1 q1) fun u s2 ⟨y,H2,I2,r2,q2⟩ =>
  thn (ho pins s2 σ H2 x y v u _ I2 r1 r2 q2) fun d s3 ⟨z,H3,I3,r3,k,e,q3⟩=>?_)) hm
 subst e
 cases r3
 refine wpAny_truthy_bool ?_
 cases k with
 | false =>
  obtain ⟨k',e',q'⟩:=q3
  cases e'
  exact ite_ff ⟨H3,I3,q'⟩
 | true =>
  refine ite_tt (test_last (thn (hc pins s3 σ H3 _ I3 q3) fun w' s4 ⟨z',H4,I4,r4,q4⟩=>thn (ho' pins s4 σ H4 y z' u w' _ I4 r2 r4 q4) fun d' s5 ⟨z2,H5,I5,r5,k2,e2,q5⟩=>?_))
  subst e2
  cases r5
  exact wpAny_truthy_bool ⟨H5,I5,q5⟩
def TruV (K:PySem.W.Frag) (x:V) (H:Hp) (k:Bool):Prop :=
 match x with
 | .non=>k=false
 | .bl b=>k=b
 | .int i=>k=(i != 0)
 | .str y=>y.length<=sizeLine/\k=((y.length:Int) != 0)
 | .byt y=>y.size<=sizeLine/\k=((y.size:Int) != 0)
 | .ref p=>(∃ xs,SqL K H p xs/\k=!xs.isEmpty)\/(∃ xs,SqT K H p xs/\k=!xs.isEmpty)\/∃ kvs,H p=some (.dK kvs)/\k=!kvs.isEmpty
 | _=>False
theorem zgD {κ:Type}{kvs:List (κ×V)}{vs:List (κ×Value)} (r:KV kvs vs):(!vs.isEmpty)=!kvs.isEmpty:=by
 cases r <;> rfl
theorem zdp {xs:List V}{its:List Value} (r:Vals xs its):(!its.toArray.isEmpty)=!xs.isEmpty:=by
 cases r <;> simp
theorem zc0:(sizeLine:Nat)<2 ^ 63:=by rw [sizeLine_eq];decide
theorem zk5:TruR X (fun x H Q=>∃ k,TruV X.K x H k/\Q k H):=by
 intro pins s σ H x v Q I rx h
 obtain ⟨k,e,q⟩:=h
 have hl:=zc0
 have hs:sizeLine=16777216:=sizeLine_eq
 cases x with
 | non =>
  cases rx
  have e':k=false:=e
  subst e'
  exact truthy_none ⟨H,I,q⟩
 | bl b =>
  cases rx
  have e':k=b:=e
  subst e'
  exact wpAny_truthy_bool ⟨H,I,q⟩
 | int i =>
  obtain ⟨t,rfl⟩:=rx
  have e':k=(i != 0):=e
  subst e'
  exact PySem.P.truthy_int ⟨H,I,q⟩
 | str y =>
  obtain ⟨t,rfl⟩:=rx
  obtain ⟨hy,e'⟩:y.length<=sizeLine/\k=((y.length:Int) != 0):=e
  subst e'
  exact PySem.P.truthy_str (by lia) ⟨H,I.tok _,q⟩
 | byt y =>
  obtain ⟨t,rfl⟩:=rx
  obtain ⟨hy,e'⟩:y.size<=sizeLine/\k=((y.size:Int) != 0):=e
  subst e'
  exact PySem.W.truthy_bytes (by lia) ⟨H,I.tok _,q⟩
 | ref p =>
  cases rx
  have e':(∃ xs,SqL X.K H p xs/\k=!xs.isEmpty)\/(∃ xs,SqT X.K H p xs/\k=!xs.isEmpty)\/∃ kvs,H p=some (.dK kvs)/\k=!kvs.isEmpty:=e
  rcases e' with ⟨xs,hx,e'⟩ | ⟨xs,hx,e'⟩ | ⟨kvs,hx,e'⟩
  ·subst e'
   obtain ⟨its,r,pl,hz⟩:=I.list hx
   have hlen:=r.length
   exact wpAny_truthy_list pl.isList (by simp only [List.size_toArray];lia) ⟨H,I.tok _,by rw [zdp r];exact q⟩
  ·subst e'
   obtain ⟨its,r,pl,hz⟩:=I.tuple hx
   have hlen:=r.length
   exact truthy_tuple pl (by simp only [List.size_toArray];lia) ⟨H,I.tok _,by rw [zdp r];exact q⟩
  ·subst e'
   obtain ⟨hz,hS,vs,r,m⟩:kvs.length<=sizeLine/\(p == sysModules)=false/\∃ vs,KV kvs vs/\s.heap.DictOf (zfo X.prog X.w) p vs:=I.hok p _ hx
   have hlen:kvs.length=vs.length:=Paired.length r
   exact wpAny_truthy_dict hS m (by lia) ⟨H,I.tok _,by rw [zgD r];exact q⟩
 | _=>exact (show False from e).elim
theorem ziC (ha:PE X a ta) (he:∀ whole,isTrue a X.env whole=(do let v <- whole;standAt a.pos;holding [v] (truthy v))) :
  PT X a (fun σ H Q=>ta σ H fun x H'=>∃ k,TruV X.K x H' k/\Q k H'):=by
 intro pins s σ H Q I h
 exact isTrue_plain (thn (ha pins s σ H _ I h) fun v s1 ⟨x,H1,I1,r1,q1⟩=>zk5 pins s1 σ H1 x v Q I1 r1 q1) (he _)
theorem zgw:OpR X (binaryOp .Add) (fun x y H Q=>∃ i j,x=.str i/\y=.str j/\i.length+j.length<=sizeLine/\Q (.str (i++j)) H):=by
 intro pins s σ H x y v u Q I rx ry h
 obtain ⟨i,j,rfl,rfl,hz,q⟩:=h
 obtain ⟨t,rfl⟩:=rx
 obtain ⟨t',rfl⟩:=ry
 exact add_str (fun t' tk=>⟨.str (i++j),H,I.tok _,⟨_,rfl⟩,q⟩) hz
theorem vals1 {x:V}{us:List Value} (r:Vals [x] us):∃ u,us=[u]/\RelV x u:=by
 cases r with
 | cons r1 r2=>cases r2;exact ⟨_,rfl,r1⟩
theorem vals2 {x y:V}{us:List Value} (r:Vals [x,y] us):∃ u w',us=[u,w']/\RelV x u/\RelV y w':=by
 cases r with
 | cons r1 r2 =>
  cases r2 with
  | cons r3 r4=>cases r4;exact ⟨_,_,rfl,r1,r3⟩
theorem zhZ (hc:X.calm=true):zcl X (.builtin "max") (fun xs H Q=>∃ i j,xs=[.int i,.int j]/\Q (.int (if j > i then j else i)) H):=by
 intro pins s σ H xs us Q I r h
 obtain ⟨i,j,rfl,q⟩:=h
 obtain ⟨u,w',rfl,⟨t,rfl⟩,⟨t',rfl⟩⟩:=vals2 r
 refine max_two_ints (I.ok.hd hc) fun h' tk k=>⟨_,H,I.kept k,?_,q⟩
 by_cases hj:j > i
 ·rw [if_pos hj,if_pos hj];exact ⟨_,rfl⟩
 ·rw [if_neg hj,if_neg hj];exact ⟨_,rfl⟩
theorem ze1 (hc:X.calm=true):zcl X (.builtin "min") (fun xs H Q=>∃ i j,xs=[.int i,.int j]/\Q (.int (if j<i then j else i)) H):=by
 intro pins s σ H xs us Q I r h
 obtain ⟨i,j,rfl,q⟩:=h
 obtain ⟨u,w',rfl,⟨t,rfl⟩,⟨t',rfl⟩⟩:=vals2 r
 refine min_two_ints (I.ok.hd hc) fun h' tk k=>⟨_,H,I.kept k,?_,q⟩
 by_cases hj:j<i
 ·rw [if_pos hj,if_pos hj];exact ⟨_,rfl⟩
 ·rw [if_neg hj,if_neg hj];exact ⟨_,rfl⟩
theorem zh1:zcl X (.type "int") (fun xs H Q=>(∃ i,xs=[.int i]/\Q (.int i) H)\/∃ k,xs=[.bl k]/\Q (.int (if k then 1 else 0)) H):=by
 intro pins s σ H xs us Q I r h
 rcases h with ⟨i,rfl,q⟩ | ⟨k,rfl,q⟩
 ·obtain ⟨u,rfl,t,rfl⟩:=vals1 r
  exact call_int_int ⟨.int i,H,I,⟨_,rfl⟩,q⟩
 ·obtain ⟨u,rfl,r1⟩:=vals1 r
  cases r1
  exact call_int_bool ⟨.int (if k then 1 else 0),H,I.tok _,⟨_,rfl⟩,q⟩
def LenV (K:PySem.W.Frag) (x:V) (H:Hp) (n:Nat):Prop :=
 match x with
 | .str y=>y.length<=sizeLine/\n=y.length
 | .byt y=>y.size<=sizeLine/\n=y.size
 | .ref p=>(∃ xs,SqL K H p xs/\n=xs.length)\/∃ xs,SqT K H p xs/\n=xs.length
 | _=>False
theorem za1:zcl X (.builtin "len") (fun xs H Q=>∃ x n,xs=[x]/\LenV X.K x H n/\Q (.int n) H):=by
 intro pins s σ H xs us Q I r h
 obtain ⟨x,n,rfl,e,q⟩:=h
 obtain ⟨u,rfl,rx⟩:=vals1 r
 have hl:=zc0
 have hs:sizeLine=16777216:=sizeLine_eq
 cases x with
 | str y =>
  obtain ⟨t,rfl⟩:=rx
  obtain ⟨hy,e'⟩:y.length<=sizeLine/\n=y.length:=e
  subst e'
  exact len_str (by lia) ⟨.int _,H,I.tok _,⟨_,rfl⟩,q⟩
 | byt y =>
  obtain ⟨t,rfl⟩:=rx
  obtain ⟨hy,e'⟩:y.size<=sizeLine/\n=y.size:=e
  subst e'
  exact PySem.W.len_bytes (by lia) ⟨.int _,H,I.tok _,⟨_,rfl⟩,q⟩
 | ref p =>
  cases rx
  have e':(∃ xs,SqL X.K H p xs/\n=xs.length)\/∃ xs,SqT X.K H p xs/\n=xs.length:=e
  rcases e' with ⟨xs,hx,e'⟩ | ⟨xs,hx,e'⟩
  ·subst e'
   obtain ⟨its,r',pl,hz⟩:=I.list hx
   have hlen:=r'.length
   exact Calls.call_len_list pl.isList (by simp only [List.size_toArray];lia) ⟨.int xs.length,H,I.tok _,⟨_,by simp only [List.size_toArray];rw [hlen]⟩,q⟩
  ·subst e'
   obtain ⟨its,r',pl,hz⟩:=I.tuple hx
   have hlen:=r'.length
   exact len_tuple pl (by simp only [List.size_toArray];lia) ⟨.int xs.length,H,I.tok _,⟨_,by simp only [List.size_toArray];rw [hlen]⟩,q⟩
 | _=>exact (show False from e).elim
end
end L2
namespace L2
open PySem PySem.Spec PyProof.Rows
structure ObjM (h:Heap) (x dx C:Addr) (mA:Str->Option Value):Prop where
 obj:h.get? x=some (PySem.W.instObj C dx)
 ns:h.Ns1 dx mA
 ne:dx≠x
theorem zhh {h:Heap}{dx:Addr}{mA:Str->Option Value} (n:h.Ns1 dx mA):∃ od,h.get? dx=some od/\∀ name,PySem.W.lookIn name od=some (mA name):=by
 obtain ⟨o,es,ep,ho,hd,hk,_,hm⟩:=n
 refine ⟨o,ho,fun name=>?_⟩
 have e:=hm name
 unfold nsFind findBy at e
 rw [<- Array.find?_toList] at e
 unfold PySem.W.lookIn
 rw [hd]
 dsimp only
 split
 ·rename_i y q
  rw [q] at e
  exact congrArg some e
 ·rename_i q
  rw [q] at e
  have a:es.toList.any (·.refKey)=false:=by
   rw [List.any_eq_false]
   intro y hy
   obtain ⟨z,t,hkey⟩:=hk y (Array.mem_toList_iff.mp hy)
   simp [DictEntry.refKey,hkey]
  have a':¬es.toList.any (·.refKey)=true:=by rw [a];exact Bool.false_ne_true
  rw [if_neg a']
  exact congrArg some e
theorem ObjM.look {h:Heap}{x dx C:Addr}{mA:Str->Option Value} (I:ObjM h x dx C mA):∃ od,PySem.W.InstAt h x (PySem.W.instObj C dx) C (some od)/\∀ name,PySem.W.lookIn name od=some (mA name) :=
 let ⟨od,ho,hl⟩:=zhh I.ns
 ⟨od,⟨I.obj,rfl,rfl,ho⟩,hl⟩
section
variable {P:Program}{w:World}{H H':Hp}{h h':Heap}{a C dx:Addr}{fs fs':List (Str×V)}
theorem zkr (hok:HOk P w H h) (e:H a=some (.ins C dx fs)):∃ mA,ObjM h a dx C mA/\(∀ f,RelO (fs.lookup f) (mA f))/\PySem.Within mA (fs.map (·.1))/\fs.length<=1000/\H dx=some (.own a):=by
 obtain ⟨d,z,ne,ob,mA,n,r,q⟩:=(show zbi P w H h a (.ins C dx fs) from hok a _ e)
 exact ⟨mA,⟨ob,n,ne⟩,r,q,z,d⟩
end
structure Cls (K:PySem.W.Frag) (C:Addr):Prop where
 pg:PySem.W.plainGet K C Str.empty=true
 hd:PySem.W.hasDictIn K C=true
 po:PySem.W.plainOver K C=true
 sa:PySem.W.findIn K (.ref C) "__setattr__" = some (some (.builtin "object.__setattr__"))
theorem Cls.get {K:PySem.W.Frag}{C:Addr} (c:Cls K C) (f:Str):PySem.W.plainGet K C f=true:=c.pg
section
variable {X:Cx}{pins:List (Addr×Obj)}{σ:St}{H:Hp}{s:Shared}{A:Around}{E:Value->Shared->Prop}{Q:Value->Shared->Prop}{c:Value}{b:Bool}
inductive TyOf (K:PySem.W.Frag) (H:Hp):V->Value->Prop where
 | non:TyOf K H .non (.type "NoneType")
 | bl (x:Bool):TyOf K H (.bl x) (.type "bool")
 | int (i:Int):TyOf K H (.int i) (.type "int")
 | str (x:Str):TyOf K H (.str x) (.type "str")
 | flt (x:UInt64):TyOf K H (.flt x) (.type "float")
 | lst {a:Addr} {xs:List V} (e:H a=some (.lst xs)):TyOf K H (.ref a) (.type "list")
 | frz {a:Addr} {o:Obj} {xs:List V} (e:H a=some (.frz o (.lst xs))):TyOf K H (.ref a) (.type "list")
 | tup {a:Addr} {xs:List V} (e:H a=some (.tup xs)):TyOf K H (.ref a) (.type "tuple")
 | dK {a:Addr} {kvs:List (Key×V)} (e:H a=some (.dK kvs)):TyOf K H (.ref a) (.type "dict")
 | dT {a:Addr} {kvs:List (List Key×V)} (e:H a=some (.dT kvs)):TyOf K H (.ref a) (.type "dict")
 | ins {a C dx:Addr} {fs:List (Str×V)} (e:H a=some (.ins C dx fs)) (cl:Cls K C) (ha:PySem.W.findIn K (.ref C) "__class__" = some (some (.builtin "object.__class__")))
   (hn:PySem.W.specialIn K (.builtin "object.__class__") "__get__" = some (some (.builtin "getset_descriptor.__get__"))) (htk:PySem.W.takesIn K (.builtin "object.__class__")=some true)
   (hm:PySem.W.mroIn K C (.type "object")=some true):TyOf K H (.ref a) (.ref C)
theorem zhx {x:V}{u t:Value} (I:Inv X pins σ H s) (rx:RelV x u) (ty:TyOf X.K H x t) (e:PySem.W.kitOne X.K t c=some b) (h:∀ tk,Q (.bool b) { s with toks:=tk }) :
  wpAny (model X.prog X.w) A (call (.builtin "isinstance") [u,c]) Q E s:=by
 cases ty with
 | non=>cases (show u=Value.none from rx);exact PySem.W.kia_one PySem.W.kitx_none I.kIn True.intro e (fun z=>nomatch z) h
 | bl y=>cases (show u=Value.bool y from rx);exact PySem.W.kia_one PySem.W.kitx_bool I.kIn True.intro e (fun z=>nomatch z) h
 | int i=>obtain ⟨t,q⟩:=(show ∃ t,u=Value.int i t from rx);cases q;exact PySem.W.kia_one PySem.W.kitx_int I.kIn True.intro e (fun z=>nomatch z) h
 | str y=>obtain ⟨t,q⟩:=(show ∃ t,u=Value.str y t from rx);cases q;exact PySem.W.kia_one PySem.W.kitx_str I.kIn True.intro e (fun z=>nomatch z) h
 | flt y=>obtain ⟨t,q⟩:=(show ∃ t,u=Value.float y t from rx);cases q;exact PySem.W.kia_one PySem.W.kitx_float I.kIn True.intro e (fun z=>nomatch z) h
 | @lst a xs ea =>
  cases (show u=Value.ref a from rx)
  obtain ⟨_,_,n,_,h1⟩:=(show zbi X.prog X.w H s.heap a (.lst xs) from I.hok a _ ea)
  exact PySem.W.kia_one PySem.W.kitx_list I.kIn ⟨_,h1,rfl⟩ e (fun z=>nomatch z) h
 | @frz a ob xs ea =>
  cases (show u=Value.ref a from rx)
  obtain ⟨_,_,_,n,_,h1⟩:=(show zbi X.prog X.w H s.heap a (.frz ob (.lst xs)) from I.hok a _ ea)
  exact PySem.W.kia_one PySem.W.kitx_list I.kIn ⟨_,h1,rfl⟩ e (fun z=>nomatch z) h
 | @tup a xs ea =>
  cases (show u=Value.ref a from rx)
  obtain ⟨_,_,_,p⟩:=(show zbi X.prog X.w H s.heap a (.tup xs) from I.hok a _ ea)
  obtain ⟨o,h1,h2,_⟩:=p
  exact PySem.W.kia_one PySem.W.kitx_tuple I.kIn ⟨o,h1,h2⟩ e (fun z=>nomatch z) h
 | @dK a kvs ea =>
  cases (show u=Value.ref a from rx)
  obtain ⟨_,_,vs,_,p⟩:=(show zbi X.prog X.w H s.heap a (.dK kvs) from I.hok a _ ea)
  obtain ⟨o,es,ep,h1,h2,_⟩:=p
  exact PySem.W.kia_one PySem.W.kitx_dict I.kIn ⟨o,h1,h2.1⟩ e (fun z=>nomatch z) h
 | @dT a kvs ea =>
  cases (show u=Value.ref a from rx)
  obtain ⟨_,_,xs,_,o,es,ep,h1,h2,_⟩:=(show zbi X.prog X.w H s.heap a (.dT kvs) from I.hok a _ ea)
  exact PySem.W.kia_one PySem.W.kitx_dict I.kIn ⟨o,h1,h2.1⟩ e (fun z=>nomatch z) h
 | @ins a C dx fs ea cl ha hn htk hm =>
  cases (show u=Value.ref a from rx)
  obtain ⟨mA,O,_⟩:=zkr I.hok ea
  obtain ⟨od,J,_⟩:=O.look
  exact PySem.W.kia_one (PySem.W.kitx_own (cl.get _) cl.hd ha hn htk hm) I.kIn J e (fun z=>nomatch z) h
end
end L2
namespace L2
open PySem PySem.Spec PyProof.Rows
structure Room (k:Nat) (A:Around):Prop where
 hd:A.handled=none
 dp:A.depth+3*k+5<recursionLimit
 un:A.units+16*k+200<cLine
 gd:A.guards=some []
theorem Room.mono {j k:Nat}{A:Around} (r:Room k A) (h:j<=k):Room j A:=⟨r.hd,by have:=r.dp;lia,by have:=r.un;lia,r.gd⟩
theorem Room.deeper {k:Nat}{A:Around} (r:Room (k+1) A) (env:Env):Room k (A.deeper env) :=
 ⟨r.hd,by have:=r.dp;show A.depth+1+3*k+5<_;lia,by have:=r.un;show A.units+3+16*k+200<_;lia,r.gd⟩
theorem Room.depth {k:Nat}{A:Around} (r:Room k A):A.depth<recursionLimit:=by have:=r.dp;lia
theorem Room.units0 {k:Nat}{A:Around} (r:Room k A):A.units<cLine:=by have:=r.un;lia
def tNil:TA:=fun _ H Q=>Q [] H
def zcI (ta:TE) (tr:TA):TA:=fun σ H Q=>ta σ H fun x H1=>tr σ H1 fun xs H2=>Q (x::xs) H2
section
variable {X:Cx}{e:Expr}{es:List Expr}{te:TE}{t:TA}{pos:Pos}
theorem zf5:PA X [] tNil:=fun _ _ _ _ H Q I h=>Calls.spliced_nil ⟨[],H,I,.nil,h⟩
theorem zcX (ha:PE X e te) (hr:PA X es t) (hs:starEach (e::es) X.env=(false,eval e X.env)::starEach es X.env:=by rfl):PA X (e::es) (zcI te t):=by
 intro pos pins s σ H Q I h
 rw [hs]
 show wpAny _ _ (spliced ((false,eval e X.env)::backTo pos (starEach es X.env))) _ _ s
 refine Calls.spliced_cons (thn (ha pins s σ H _ I h) fun u s1 ⟨x,H1,I1,r1,q1⟩=>?_)
 exact thn (hr pos pins s1 σ H1 _ I1 q1) fun us s2 ⟨xs,H2,I2,r2,q2⟩=>⟨x::xs,H2,I2,.cons r1 r2,q2⟩
def tTup (t:TA):TE:=fun σ H Q=>t σ H fun xs H1=>xs.length<=sizeLine/\∀ p,H1 p=none->Q (.ref p) (upd H1 p (.tup xs))
def tLst (t:TA):TE:=fun σ H Q=>t σ H fun xs H1=>xs.length<=sizeLine/\∀ p,H1 p=none->Q (.ref p) (upd H1 p (.lst xs))
theorem zlF {x1} (h:PA X es t):PE X (.Tuple es x1 pos) (tTup t):=by
 intro pins s σ H Q I hq
 refine wpAny_Tuple_spliced (thn (h pos pins s σ H _ I hq) fun us s1 ⟨xs,H1,I1,r,z,q⟩=>⟨by rw [<- r.length];exact z,?_⟩)
 have hf:H1 s1.heap.objs.size=none:=I1.hok.fresh (Nat.le_refl _)
 refine ⟨.ref s1.heap.objs.size,upd H1 s1.heap.objs.size (.tup xs),I1.laid (t':=s1.toks) (fun b u e=>Heap.get?_push_of_some _ e) (Nat.le_refl _) ?_,rfl,q _ hf⟩
 exact ⟨z,us,r,⟨_,Heap.get?_push_size _ rfl,rfl,⟨_,rfl⟩,rfl⟩⟩
theorem zlL (h:PA X es t):PE X (.List es pos) (tLst t):=by
 intro pins s σ H Q I hq
 refine wpAny_List_spliced (thn (h pos pins s σ H _ I hq) fun us s1 ⟨xs,H1,I1,r,z,q⟩=>⟨by rw [<- r.length];exact z,?_⟩)
 have hf:H1 s1.heap.objs.size=none:=I1.hok.fresh (Nat.le_refl _)
 refine ⟨.ref s1.heap.objs.size,upd H1 s1.heap.objs.size (.lst xs),I1.laid (t':=s1.toks) (fun b u e=>Heap.get?_push_of_some _ e) (Nat.le_refl _) ?_,rfl,q _ hf⟩
 exact ⟨z,us,0,r,Heap.get?_push_size _ rfl⟩
end
abbrev Sp:=List V->Hp->VK->XK->Prop
abbrev CXT:=List Env->Hp->Shared->XK->Value->Shared->Prop
structure Env0 (P:Program) (w:World) (K:PySem.W.Frag) (mg:Str->Option Value) (base:Heap) (A:Around) (outer:List Env) (s:Shared) (H:Hp):Prop where
 frames:A.frames=some outer
 mod:Mod K mg base
 bs:∀ b o,base.get? b=some o->s.heap.get? b=some o/\H b=none
 bsz:base.objs.size<=s.heap.objs.size
 funs:s.heap.FunFrames base outer
 frf:∀ b∈frs outer,H b=none
 hok:HOk P w H s.heap
 bare:AllBare s.gens
def CE (outer:List Env) (P:Program) (w:World) (H:Hp) (s:Shared) (Q:VK) (u:Value) (s':Shared):Prop :=
 ∃ v H',s'.os=s.os/\AllBare s'.gens/\Un (frs outer) [] H H' s.heap s'.heap/\HOk P w H' s'.heap/\RelV v u/\Q v H'
def CR (CX:CXT) (outer:List Env) (P:Program) (w:World) (H:Hp) (s:Shared) (Q:VK) (E:XK) (r:Result) (s':Shared):Prop :=
 match r with
 | .ok (.ret u)=>CE outer P w H s Q u s'
 | .ok _=>False
 | .error e=>CX outer H s E e s'
structure FnOk (P:Program) (w:World) (K:PySem.W.Frag) (mg:Str->Option Value) (base:Heap) (CX:CXT) (k:Nat) (f:Addr) (fd:FuncData) (ps:List Str) (sp:Sp):Prop where
 len:∀ vs H Q E,sp vs H Q E->vs.length=ps.length
 run:∀ (A:Around) (outer:List Env) (s:Shared) (H:Hp) (args:Args) (us:List Value) (vs:List V) (Q:VK) (E:XK),Room k A->Env0 P w K mg base A outer s H->BindsTo s fd args (ps.zip us)->Vals vs us->sp vs H Q E ->
  codeAny (model P w) A (.call (.ref f) args) (CR CX outer P w H s Q E) s
theorem FnOk.imp {P:Program}{w:World}{K:PySem.W.Frag}{mg:Str->Option Value}{base:Heap}{CX:CXT}{k:Nat}{f:Addr}{fd:FuncData}{ps:List Str}{sp sp':Sp} (F:FnOk P w K mg base CX k f fd ps sp)
  (h:∀ vs H Q E,sp' vs H Q E->sp vs H Q E):FnOk P w K mg base CX k f fd ps sp' :=
 ⟨fun vs H Q E q=>F.len vs H Q E (h _ _ _ _ q),fun A outer s H args us vs Q E hr he hb hv hs=>F.run A outer s H args us vs Q E hr he hb hv (h _ _ _ _ hs)⟩
section
variable {X:Cx}{pins:List (Addr×Obj)}{σ:St}{H:Hp}{s s':Shared}
theorem Inv.env0 (I:Inv X pins σ H s):Env0 X.prog X.w X.K X.mg X.base X.A X.stack s H :=
 ⟨I.ok.frames,I.ok.mod,I.bs,Nat.le_trans I.ok.bsz I.sz,I.stack,I.stkFree,I.hok,I.bare⟩
theorem Inv.after {Q:VK}{u:Value} (I:Inv X pins σ H s) (h:CE X.stack X.prog X.w H s Q u s'):EP X pins σ Q u s':=by
 obtain ⟨v,H',os,bare,un,hok,r,q⟩:=h
 obtain ⟨hh,g,d,t,os'⟩:=s'
 obtain rfl:os'=s.os:=os
 exact ⟨v,H',I.call (h':=hh) (g':=g) (d':=d) (t':=t) (ch:=[]) un hok bare (fun b z=>absurd z (by simp)),r,q⟩
end
def zk9 (sp:Sp) (dvs:List V) (E:XK) (t:TA):TE:=fun σ H Q=>t σ H fun vs H1=>sp (vs++dvs) H1 Q E
def Binds (K:PySem.W.Frag) (fd:FuncData) (ps:List Str) (ds:List Value):Prop :=
 ∀ (s:Shared) (us:List Value),K.In s.heap->(us++ds).length=ps.length->BindsTo s fd ⟨us,[]⟩ (ps.zip (us++ds))
theorem Binds.all {K:PySem.W.Frag}{fd:FuncData}{ps:List Str} (h:∀ us:List Value,us.length=ps.length->bindArgs fd ⟨us,[]⟩=pure (ps.zip us)):Binds K fd ps []:=fun s us _ hl=>by
 rw [List.append_nil] at hl ⊢
 exact .of_eq (h us hl)
def zh6 (CX:CXT) (X:Cx) (E:XK):Prop:=∀ (pins:List (Addr×Obj)) (σ:St) (H:Hp) (s:Shared) (e:Value) (s':Shared),Inv X pins σ H s->CX X.stack H s E e s'->X.xe e s'
section
variable {X:Cx}{CX:CXT}{k:Nat}{f C:Addr}{fd:FuncData}{ps:List Str}{sp:Sp}{dvs:List V}{ds:List Value}{E:XK}{x m:Str}{p pos apos:Pos}{e o:Expr}{es:List Expr}{ta:TE}{t:TA}
theorem zlq {pins:List (Addr×Obj)}{σ:St}{H:Hp}{s:Shared}{Q:VK}{us:List Value}{vs:List V} (F:FnOk X.prog X.w X.K X.mg X.base CX k f fd ps sp) (hr:Room k X.A) (hb:Binds X.K fd ps ds) (hd:Vals dvs ds) (hx:zh6 CX X E)
  (I:Inv X pins σ H s) (r:Vals vs us) (h:sp (vs++dvs) H Q E):wpAny (model X.prog X.w) X.A (call (.ref f) us) (EP X pins σ Q) X.xe s:=by
 have r2:Vals (vs++dvs) (us++ds):=r.append hd
 have hl:(us++ds).length=ps.length:=by rw [<- r2.length];exact F.len _ _ _ _ h
 refine wpAny_call (codeAny_mono (F.run X.A X.stack s H ⟨us,[]⟩ (us++ds) (vs++dvs) Q E hr I.env0 (hb s us I.kIn hl) r2 h) fun r s' hq=>?_)
 cases r with
 | error e=>exact hx pins σ H s e s' I hq
 | ok fl =>
  cases fl with
  | ret u=>exact I.after hq
  | next=>exact False.elim hq
  | brk=>exact False.elim hq
  | cont=>exact False.elim hq
theorem zj0 (F:FnOk X.prog X.w X.K X.mg X.base CX k f fd ps sp) (hr:Room k X.A) (hg:Gl X x) (hm:X.mg x=some (.ref f)) (hk:PySem.W.keepIn X.K (.ref f)=true) (hb:Binds X.K fd ps ds) (hd:Vals dvs ds) (hx:zh6 CX X E)
  (ha:PA X (e::es) t) (hdb:(x == ("__debug__":Str))=false:=by decide) (he:starEach (e::es) X.env=(false,eval e X.env)::starEach es X.env:=by rfl) (hpl:(backTo pos (starEach es X.env)).any (·.1)=false:=by rfl) :
  PE X (.Call (.Name x p) (e::es) [] pos) (zk9 sp dvs E t):=by
 intro pins s σ H Q I h
 refine wpAny_Call_Name_kw (zfp I hg hm ?_ hdb)
 refine PySem.W.callWith_K (h₀:=X.base) I.ok.mod.kin hk (thn (ha pos pins s σ H _ I h) fun us s1 ⟨vs,H1,I1,r,q⟩=>⟨I1.kIn,?_⟩) he hpl
 exact zlq F hr hb hd hx I1 r q
end
structure FnScope (N P:List Str) (sc:Scope):Prop where
 kind:sc.kind=.function
 co:sc.isCoroutine=false
 gen:sc.isGenerator=false
 nd:N.Nodup
 pre:N.take P.length=P
 par:∀ x∈P,sc.names.lookup x=some .local\/sc.names.lookup x=some .cell
 nofree:∀ y∈sc.names,y.2≠.free
theorem zfb {kindOf:Str->Option NameKind}{x:Str}:∀ {binds:List (Str×Value)}{m:Str->Option Value},(∀ v,(x,v)∉binds)->bindL kindOf binds m x=m x
 | [],_,_=>rfl
 | (n,v)::r,m,h=>by
  unfold bindL
  rw [zfb fun w hw=>h w (List.mem_cons_of_mem _ hw)]
  split
  ·have:x≠n:=by rintro rfl;exact h v List.mem_cons_self
   simp [this]
  ·rfl
theorem zfd {kindOf:Str->Option NameKind}{x:Str}:∀ {binds:List (Str×Value)}{m:Str->Option Value},(∀ v,(x,v)∉binds)->bindC kindOf binds m x=m x
 | [],_,_=>rfl
 | (n,v)::r,m,h=>by
  unfold bindC
  rw [zfd fun w hw=>h w (List.mem_cons_of_mem _ hw)]
  split
  ·rfl
  ·have:x≠n:=by rintro rfl;exact h v List.mem_cons_self
   simp [this]
theorem zfc {kindOf:Str->Option NameKind}{x:Str}{v:Value}:∀ {P:List Str}{vs:List Value}{i:Nat}{m:Str->Option Value},P.Nodup->P[i]?=some x->vs[i]?=some v->kindOf x=some .local ->
  bindL kindOf (P.zip vs) m x=some v
 | [],_,_,_,_,h,_,_=>by simp at h
 | _::_,[],_,_,_,_,h,_=>by simp at h
 | p::P,w::vs,0,m,nd,h1,h2,hk=>by
  simp at h1 h2;subst h1;subst h2
  show bindL kindOf ((p,w)::P.zip vs) m p=_
  unfold bindL
  rw [zfb fun v hv=>(List.nodup_cons.mp nd).1 (List.of_mem_zip hv).1,if_pos hk]
  simp
 | p::P,w::vs,i+1,m,nd,h1,h2,hk=>by
  show bindL kindOf ((p,w)::P.zip vs) m x=_
  unfold bindL
  exact zfc (i:=i) (List.nodup_cons.mp nd).2 (by simpa using h1) (by simpa using h2) hk
theorem zfe {kindOf:Str->Option NameKind}{x:Str}{v:Value}:∀ {P:List Str}{vs:List Value}{i:Nat}{m:Str->Option Value},P.Nodup->P[i]?=some x->vs[i]?=some v->kindOf x≠some .local ->
  bindC kindOf (P.zip vs) m x=some v
 | [],_,_,_,_,h,_,_=>by simp at h
 | _::_,[],_,_,_,_,h,_=>by simp at h
 | p::P,w::vs,0,m,nd,h1,h2,hk=>by
  simp at h1 h2;subst h1;subst h2
  show bindC kindOf ((p,w)::P.zip vs) m p=_
  unfold bindC
  rw [zfd fun v hv=>(List.nodup_cons.mp nd).1 (List.of_mem_zip hv).1,if_neg hk]
  simp
 | p::P,w::vs,i+1,m,nd,h1,h2,hk=>by
  show bindC kindOf ((p,w)::P.zip vs) m x=_
  unfold bindC
  exact zfe (i:=i) (List.nodup_cons.mp nd).2 (by simpa using h1) (by simpa using h2) hk
def start (N:List Str) (vs:List V):St:=vs.map some++List.replicate (N.length - vs.length) none
def cxOf (CX:CXT) (P:Program) (w:World) (K:PySem.W.Frag) (mg:Str->Option Value) (base:Heap) (N:List Str) (qual:Str) (scope:Scope) (f:Addr) (cd:Value) (A:Around) (outer:List Env) (s:Shared) (H:Hp) (E:XK):Cx where
 prog:=P
 w:=w
 K:=K
 mg:=mg
 base:=base
 A:=A.deeper (envOfC qual scope s.heap.objs.size f cd)
 N:=N
 s₀:=s
 H₀:=H
 env:=envOfC qual scope s.heap.objs.size f cd
 outer:=outer
 stack:=envOfC qual scope s.heap.objs.size f cd::outer
 ex:=[]
 calm:=true
 fn:=fun _=>true
 pn:=[]
 xe:=fun e s'=>wpAny (model P w) (A.deeper (envOfC qual scope s.heap.objs.size f cd)) (leaving (envOfC qual scope s.heap.objs.size f cd) e) (fun _ s''=>CX outer H s E e s'') (fun e' s''=>CX outer H s E e' s'') s'
theorem zgm {sc:Scope}{n:Nat}{x:Str} (h:sc.names.lookup x=some .cell):∃ c,(cellsFrom n sc.names []).lookup x=some c:=by
 have q:=PySem.W.cellsFrom_some sc.names n [] (.inl h)
 exact Option.isSome_iff_exists.mp q
theorem zhy {CX:CXT}{P:Program}{w:World}{K:PySem.W.Frag}{mg:Str->Option Value}{base:Heap}{N ps:List Str}{qual:Str}{scope:Scope}{f:Addr}{cd:Value}{A:Around}{outer:List Env}{s s1:Shared}{H:Hp}{E:XK}{us:List Value}{vs:List V}
  (S:FnScope N ps scope) (hd:A.handled=none) (e0:Env0 P w K mg base A outer s H) (hl:vs.length=ps.length) (r:Vals vs us)
  (x:InCallC s s.heap.objs.size (bindL (envOfC qual scope s.heap.objs.size f cd).kindOf (ps.zip us) fun _=>none) (cellsFrom (s.heap.objs.size+1) scope.names []) (bindC (envOfC qual scope s.heap.objs.size f cd).kindOf (ps.zip us) fun _=>none) s1) :
  Inv (cxOf CX P w K mg base N qual scope f cd A outer s H E) [] (start N vs) H s1:=by
 have hpl:ps.length<=N.length:=by have:=congrArg List.length S.pre;rw [List.length_take] at this;lia
 obtain ⟨h1,tk,rfl,hk⟩:=x.done
 have noA:∀ b:Addr,b∉(cxOf CX P w K mg base N qual scope f cd A outer s H E).ex:=fun b z=>absurd (show b∈([]:List Addr) from z) (by simp)
 refine ⟨⟨e0.mod,S.kind,rfl,rfl,Nat.le_refl _,fun y z c h1 h2=>?_,fun y hy=>?_,fun y c _ h=>?_,fun _=>hd,Around.frames_deeper e0.frames,.inr ⟨rfl,rfl⟩,fun b z=>absurd z (noA b),e0.bs,e0.bsz,fun b _ _=>noA b,fun b z=>absurd z (noA b),e0.funs,e0.frf⟩,
  rfl,e0.bare,Un.kept hk,⟨_,x.toInCall.ns,fun i y v h1 h2 h3=>?_⟩,fun y c h=>⟨_,x.cell y c h⟩,e0.hok.fresh (Nat.le_refl _),fun y c h=>?_,fun p hp=>absurd (show p∈([]:List (Addr×Obj)) from hp) (by simp),e0.hok.kept hk,?_⟩
 ·exact name_of_addr x.apart (PySem.mem_of_lookup h1) (PySem.mem_of_lookup h2)
 ·have hy:scope.names.lookup y=some .cell\/scope.names.lookup y=some .free:=hy
  rcases hy with hy | hy
  ·exact zgm hy
  ·exact absurd rfl (S.nofree _ (PySem.mem_of_lookup hy))
 ·exact Nat.le_of_lt (x.above y c (PySem.mem_of_lookup h))
 ·have hi:i<vs.length:=by
   unfold start at h2
   by_cases hi:i<vs.length
   ·exact hi
   ·rw [List.getElem?_append_right (by simpa using hi)] at h2
    rw [List.getElem?_replicate] at h2
    split at h2 <;> cases h2
  have ha:vs[i]?=some v:=by
   unfold start at h2
   rw [List.getElem?_append_left (by simpa using hi),List.getElem?_map] at h2
   cases e:vs[i]? with
   | none=>rw [e] at h2;cases h2
   | some a=>rw [e] at h2;cases h2;rfl
  obtain ⟨u,hu,rv⟩:=r.get ha
  have hp:ps[i]?=some y:=by
   rw [<- S.pre,List.getElem?_take_of_lt (by lia)];exact h1
  have ndP:ps.Nodup:=by rw [<- S.pre];exact S.nd.sublist (List.take_sublist _ _)
  refine ⟨u,rv,?_⟩
  rcases S.par y (List.mem_of_getElem? hp) with k | k
  ·exact .inl ⟨k,zfc ndP hp hu k⟩
  ·obtain ⟨c,e⟩:=zgm (n:=s.heap.objs.size+1) k
   refine .inr ⟨.inl k,c,e,?_⟩
   have q:=x.cell y c e
   rw [zfe ndP hp hu (by show scope.names.lookup y≠_;rw [k];decide)] at q
   exact q
 ·exact e0.hok.fresh (Nat.le_of_lt (x.above y c (PySem.mem_of_lookup h)))
 ·unfold start
  show _=N.length
  rw [List.length_append,List.length_map,List.length_replicate]
  lia
theorem zo3 {CX:CXT}{P:Program}{w:World}{K:PySem.W.Frag}{mg:Str->Option Value}{base:Heap}{k:Nat}{f:Addr}{name qual:Str}{params:Arguments}{body:List Stmt}{scope:Scope}{dV kV doc pm cdv ct oc:Value}{an od:Option Addr}
  {osl:Array (Option Value)} {N ps:List Str} {sp:Sp} (lk:K.lookup f=some ⟨oc,od,.func (PySem.W.fnOf name qual params body scope dV kV doc pm an cdv ct),osl⟩) (hcd:PySem.W.codeIn K cdv qual=true) (S:FnScope N ps scope)
  (len:∀ vs H Q E,sp vs H Q E->vs.length=ps.length)
  (hbody:∀ (A:Around) (outer:List Env) (s:Shared) (H:Hp) (vs:List V) (Q:VK) (E:XK),Room k (A.deeper (envOfC qual scope s.heap.objs.size f cdv))->sp vs H Q E ->
   ∃ t,PSs (cxOf CX P w K mg base N qual scope f cdv A outer s H E) body t/\t { nx:=fun _ H'=>Q .non H',rt:=Q } (start N vs) H) :
  FnOk P w K mg base CX (k+1) f (PySem.W.fnOf name qual params body scope dV kV doc pm an cdv ct) ps sp:=by
 refine ⟨len,fun A outer s H args us vs Q E hr e0 hb r hsp=>?_⟩
 have hl:=len _ _ _ _ hsp
 have KX:K.In s.heap:=e0.mod.kin.keeps fun b o e=>(e0.bs b o e).1
 have lim:s.heap.NoLimit:=e0.mod.nolimit.keeps fun b o e=>(e0.bs b o e).1
 have hkind:∀ y∈ps.zip us,scope.names.lookup y.1=some .local\/(scope.names.lookup y.1=some .cell/\((cellsFrom (s.heap.objs.size+1) scope.names []).lookup y.1).isSome=true):=fun ⟨n,v⟩ hy=>by
  rcases S.par n (List.of_mem_zip hy).1 with q | q
  ·exact .inl q
  ·exact .inr ⟨q,PySem.W.cellsFrom_some _ _ _ (.inl q)⟩
 refine codeAny_call_function hr.depth (KX _ _ lk) rfl S.co S.gen rfl (PySem.W.codeRec_of KX hcd) (hb _ _ _ _ ?_)
 refine wpAny_newFunctionEnv_cells S.kind hkind fun env he s1 x=>?_
 subst he
 refine ⟨lim.keeps x.toInCall.keep,codeAny_func ?_⟩
 obtain ⟨t,ht,hq⟩:=hbody A outer s H vs Q E (hr.deeper _) hsp
 have I:Inv (cxOf CX P w K mg base N qual scope f cdv A outer s H E) [] (start N vs) H s1:=zhy S hr.hd e0 hl r x
 refine wpAny_mono (ht [] s1 (start N vs) H _ I hq) (fun fl s' hs=>?_) fun e s' hs=>hs
 have fin:∀ {σ':St} {H':Hp} {v:V} {u:Value},Inv (cxOf CX P w K mg base N qual scope f cdv A outer s H E) [] σ' H' s'->RelV v u->Q v H'->CE outer P w H s Q u s' :=
  fun {σ' H' v u} J rv q=>⟨v,H',J.os,J.bare,J.base,J.hok,rv,q⟩
 cases fl with
 | ret u =>
  obtain ⟨v,σ',H',J,rv,q⟩:=hs
  exact fin J rv q
 | next =>
  obtain ⟨σ',H',J,q⟩:=hs
  exact fin (v:=V.non) (u:=Value.none) J rfl q
 | brk =>
  obtain ⟨_,_,_,q⟩:=hs
  exact False.elim q
 | cont =>
  obtain ⟨_,_,_,q⟩:=hs
  exact False.elim q
end L2
namespace L2
open PySem PySem.Spec PyProof.Rows
section
variable {X:Cx}{x:Str}{p pos:Pos}{e:Expr}{es:List Expr}{t:TA}{id T:String}{r:List V->Hp->VK->Prop}
def tCB (r:List V->Hp->VK->Prop) (t:TA):TE:=fun σ H Q=>t σ H fun vs H1=>r vs H1 Q
theorem ziN (hc:zcl X (.builtin id) r) (hg:Gl X x) (hm:X.mg x=none) (hv:bootBuiltins x=some (.builtin id)) (ha:PA X (e::es) t) (hn:x ≠ "__name__":=by decide) (hdb:(x == ("__debug__":Str))=false:=by decide)
  (he:starEach (e::es) X.env=(false,eval e X.env)::starEach es X.env:=by rfl) (hpl:(backTo pos (starEach es X.env)).any (·.1)=false:=by rfl):PE X (.Call (.Name x p) (e::es) [] pos) (tCB r t):=by
 intro pins s σ H Q I h
 refine wpAny_Call_Name_kw (zer I hg hm hv ?_ hn hdb)
 exact PyProof.Rows.callWith_builtin1 (thn (ha pos pins s σ H _ I h) fun us s1 ⟨vs,H1,I1,r1,q1⟩=>hc pins s1 σ H1 vs us Q I1 r1 q1) he hpl
theorem zg7 (hc:zcl X (.type T) r) (hg:Gl X x) (hm:X.mg x=none) (hv:bootBuiltins x=some (.type T)) (ha:PA X (e::es) t) (hn:x ≠ "__name__":=by decide) (hdb:(x == ("__debug__":Str))=false:=by decide)
  (he:starEach (e::es) X.env=(false,eval e X.env)::starEach es X.env:=by rfl) (hpl:(backTo pos (starEach es X.env)).any (·.1)=false:=by rfl):PE X (.Call (.Name x p) (e::es) [] pos) (tCB r t):=by
 intro pins s σ H Q I h
 refine wpAny_Call_Name_kw (zer I hg hm hv ?_ hn hdb)
 exact PyProof.Rows.callWith_type1 (thn (ha pos pins s σ H _ I h) fun us s1 ⟨vs,H1,I1,r1,q1⟩=>hc pins s1 σ H1 vs us Q I1 r1 q1) he hpl
end
end L2
namespace HT
open PySem PyProof.Rows
def lexLt:List Int->List Int->Bool
 | [],[]=>false
 | [],_::_=>true
 | _::_,[]=>false
 | x::xs,y::ys=>if x=y then lexLt xs ys else decide (x<y)
theorem zgC (x y:Int) (xs ys:List Int):lexLt (x::xs) (y::ys)=if x=y then lexLt xs ys else decide (x<y):=rfl
theorem zdO:lexLt [] []=false:=rfl
theorem zde (y:Int) (ys:List Int):lexLt [] (y::ys)=true:=rfl
theorem zdf (x:Int) (xs:List Int):lexLt (x::xs) []=false:=rfl
theorem zi6 (A:Around) (s:Shared) (a:Int) (t:Tok) (c:Int) (u:Tok):∃ e,SeqAt.EqAt A s (.int a t) (.int c u) e/\(e=true↔a=c) :=
 ⟨(a == c),SeqAt.EqAt.int_int a t c u,by simp⟩
theorem ziA (A:Around) (s:Shared) (a:Int) (t:Tok) (c:Int) (u:Tok) (prog:Program) (w:World) (E:Value->Shared->Prop) (Q:Value->Shared->Prop) (h:Q (.bool (decide (a<c))) s) :
  wpAny (model prog w) A (richCompare .Lt (.int a t) (.int c u)) Q E s :=
 (PyProof.Rows.lt_int h:wpAny (model prog w) A (compareOp .Lt (.int a t) (.int c u)) Q E s)
section
open PySem.SeqAt
open PySem.AutoSeq1 (wpAny_loadPart')
open PySem.MeetsSeq PySem.MeetsSeq2 PySem.MeetsSeq3
theorem zdx (l b:Addr) (items items2:Array Value) (n n2:Nat) (dd dd2:Option Addr) (sl sl2:Array (Option Value)) (ns ms:List Int) (hi:IntsAre items.toList ns) (hj:IntsAre items2.toList ms) :
  Meets (Builtin.«tuple.__lt__» ⟨[.ref l,.ref b],[]⟩)
   (fun _ R s=>s.heap.get? l=some { cls:=.type "tuple",dict:=dd,data:=.seq items n,slots:=sl }/\s.heap.get? b=some { cls:=.type "tuple",dict:=dd2,data:=.seq items2 n2,slots:=sl2 } /\
    R (.ok (.ret (.bool (lexLt ns ms)))) s) :=
 .of_wp fun prog w A R s h=>by
  obtain ⟨hp,g,d,tk,os⟩:=s;obtain ⟨hl,hb,h⟩:=h
  have f2:=AutoSeq1.sub_tuple_tuple
  have z1:items.size=ns.length:=by rw [<- hi.length];simp
  have z2:items2.size=ms.length:=by rw [<- hj.length];simp
  wp_walk using wpAny_loadPart' hl,wpAny_loadPart' hb,wpAny_forIn_list _ (fun rest b s'=>b.1=none/\s'=⟨hp,g,d,tk,os⟩/\∃ (vs ws:List Value) (ns' ms':List Int),rest=vs.zip ws /\
   IntsAre vs ns'/\IntsAre ws ms'/\ns'.length+items2.size=ms'.length+items.size/\R (.ok (.ret (.bool (lexLt ns' ms')))) ⟨hp,g,d,tk,os⟩) _
  case turn =>
   rintro ⟨y,x⟩ rest b s' ⟨hb',rfl,vs,ws,ns',ms',hz,hvi,hwi,hlen,hR⟩
   cases hvi with
   | nil=>rw [List.zip_nil_left] at hz;cases hz
   | cons a t hvi' =>
    cases hwi with
    | nil=>rw [List.zip_nil_right] at hz;cases hz
    | cons c u hwi' =>
     rw [List.zip_cons_cons] at hz
     injection hz with hyx hrest
     injection hyx with hy hx
     subst hy hx
     rw [zgC] at hR
     simp only [List.length_cons] at hlen
     obtain ⟨e,he,hiff⟩:=zi6 A.in1 ⟨hp,g,d,tk,os⟩ a t c u
     refine wpAny_bind (he prog w _ _ ?_)
     cases e with
     | true =>
      rw [if_pos (hiff.mp rfl)] at hR
      wp_walk
      exact ⟨rfl,rfl,_,_,_,_,hrest,hvi',hwi',by lia,hR⟩
     | false =>
      rw [if_neg (fun q=>absurd (hiff.mpr q) Bool.false_ne_true)] at hR
      have hri:=ziA A.in1 ⟨hp,g,d,tk,os⟩ a t c u prog w
      wp_walk using hri
      exact ⟨_,rfl,by simpa using hR⟩
  case fin =>
   rintro ⟨b1,b2⟩ s' ⟨hb',rfl,vs,ws,ns',ms',hz,hvi,hwi,hlen,hR⟩
   simp only at hb'
   subst hb'
   have hv:lexLt ns' ms'=decide (items.size<items2.size):=by
    cases hvi with
    | nil =>
     cases hwi with
     | nil =>
      simp only [List.length_nil] at hlen
      rw [zdO]
      exact (decide_eq_false (by lia)).symm
     | cons c u hw =>
      simp only [List.length_nil,List.length_cons] at hlen
      rw [zde]
      exact (decide_eq_true (by lia)).symm
    | cons a t hv =>
     cases hwi with
     | nil =>
      simp only [List.length_nil,List.length_cons] at hlen
      rw [zdf]
      exact (decide_eq_false (by lia)).symm
     | cons c u hw =>
      rw [List.zip_cons_cons] at hz
      cases hz
   rw [hv] at hR
   wp_walk
   exact ⟨_,rfl,by simpa [Builtin.Tuple.tupleCompareSizes] using hR⟩
  case h =>
   exact ⟨rfl,rfl,items.toList,items2.toList,ns,ms,rfl,hi,hj,by lia,h⟩
end
section
variable {prog:Program}{w:World}{A:Around}{E:Value->Shared->Prop}{s:Shared}
theorem zgB {l b:Addr}{items items2:Array Value}{ns ms:List Int}{Q:Value->Shared->Prop} (hl:IsTup s.heap l items) (hb:IsTup s.heap b items2) (hi:IntsAre items.toList ns) (hj:IntsAre items2.toList ms)
  (hu:A.units<cLine) (h:Q (.bool (lexLt ns ms)) s):wpAny (model prog w) A (compareOp .Lt (.ref l) (.ref b)) Q E s:=by
 obtain ⟨⟨cls,dd,data,sl⟩,ho,hc,n,hd⟩:=id hl
 obtain ⟨⟨cls2,dd2,data2,sl2⟩,ho2,hc2,n2,hd2⟩:=id hb
 simp only at hc hd hc2 hd2
 subst hc hd hc2 hd2
 exact richCompare_meets_room (op:=.Lt) ⟨_,ho,rfl⟩ ⟨_,ho2,rfl⟩ PySem.F.slot_tuple_lt PySem.F.entry_tuple_lt (PySem.F.args_tuple_lt_2 _ _) (zdx l b items items2 n n2 dd dd2 sl sl2 ns ms hi hj)
  ⟨ho,ho2,show Value.bool (lexLt ns ms)≠Value.notImplemented/\Q (.bool (lexLt ns ms)) s from ⟨(fun x=>nomatch x),h⟩⟩ hu
theorem zkQ {t b:Addr}{vs ws:List Value}{Q:Value->Shared->Prop} (ht:IsTup s.heap t vs.toArray) (hb:IsTup s.heap b ws.toArray) (hv:vs≠[])
  (h1:ws=[]->Q (.ref t) s) (h2:ws≠[]->Q (.ref s.heap.objs.size) { s with heap:=s.heap.push { cls:=.type "tuple",data:=.seq (vs++ws).toArray } })
  (hsz:vs.length+ws.length<=sizeLine):wpAny (model prog w) A (binaryOp .Add (.ref t) (.ref b)) Q E s:=by
 obtain ⟨⟨cls,dd,data,sl⟩,ho,hc,n,hd⟩:=id ht
 obtain ⟨⟨cls2,dd2,data2,sl2⟩,ho2,hc2,n2,hd2⟩:=id hb
 simp only at hc hd hc2 hd2
 subst hc hd hc2 hd2
 have e:vs.toArray++ws.toArray=(vs++ws).toArray:=by simp
 by_cases hw:ws=[]
 ·exact concat_meets ⟨_,ho,rfl⟩ ⟨_,ho2,rfl⟩ noFill_tuple_add seq_tuple_add PySem.F.slot_tuple_add PySem.F.entry_tuple_add (PySem.F.args_tuple_add_2 _ _)
   (tuple_addW1 t b vs.toArray ws.toArray n n2 dd dd2 sl sl2 (by simpa using hv) (by simp [hw])) ⟨ho,ho2,h1 hw⟩
 ·refine concat_meets ⟨_,ho,rfl⟩ ⟨_,ho2,rfl⟩ noFill_tuple_add seq_tuple_add PySem.F.slot_tuple_add PySem.F.entry_tuple_add (PySem.F.args_tuple_add_2 _ _)
   (tuple_addW2 t b vs.toArray ws.toArray n n2 dd dd2 sl sl2 (by simpa using hv) (by simpa using hw) (by rw [List.size_toArray,List.size_toArray];exact hsz)) ⟨ho,ho2,?_⟩
  rw [e]
  exact h2 hw
def sIx (n d:Nat):Option Int->Nat
 | none=>d
 | some v=>if v<0 then (v+(n:Int)).toNat else min v.toNat n
theorem zcA (n d:Nat):sIx n d none=d:=rfl
theorem zdz (n d k:Nat):sIx n d (some (k:Int))=min k n:=by
 show (if (k:Int)<0 then ((k:Int)+(n:Int)).toNat else min (k:Int).toNat n)=min k n
 rw [if_neg (by lia),Int.toNat_natCast]
theorem zlp (n d:Nat) (hd:d<=n) (o:Option Int):sIx n d o<=n:=by
 cases o with
 | none=>exact hd
 | some v =>
  show (if v<0 then (v+(n:Int)).toNat else min v.toNat n)<=n
  by_cases hv:v<0
  ·rw [if_pos hv];lia
  ·rw [if_neg hv];exact Nat.min_le_right _ _
theorem zhY (v:Int) (n d:Nat):(if v<0 then max (v+(n:Int)) 0 else min v (n:Int))=((sIx n d (some v):Nat):Int):=by
 show (if v<0 then max (v+(n:Int)) 0 else min v (n:Int))=(((if v<0 then (v+(n:Int)).toNat else min v.toNat n):Nat):Int)
 by_cases hv:v<0
 ·simp only [if_pos hv];lia
 ·simp only [if_neg hv];lia
theorem zgJ (lo hi:Option Int) (n:Nat):Builtin.Slice.sliceAdjust lo hi 1 (n:Int)=(((sIx n 0 lo:Nat):Int),((sIx n n hi:Nat):Int)):=by
 have h1:¬((1:Int)<0):=by lia
 unfold Builtin.Slice.sliceAdjust
 simp only [h1,if_false]
 refine Prod.ext ?_ ?_
 ·cases lo with
  | none=>rfl
  | some v=>exact zhY v n 0
 ·cases hi with
  | none=>rfl
  | some v=>exact zhY v n n
theorem zgv (i j:Nat):Builtin.Slice.slicePlaces (i:Int) (j:Int) 1=j - i:=by
 unfold Builtin.Slice.slicePlaces
 have h1:(1:Int) > 0:=by lia
 simp only [h1,if_true,Int.ediv_one]
 split <;> lia
theorem zb7 {v:Value}{o:Option Int}{Q:Option Int->Shared->Prop} (p:IsPart v o) (h:Q o s):wpAny (model prog w) A (Builtin.Slice.slicePartIndex v) Q E s:=by
 cases p with
 | none=>exact slicePart_none h
 | int i t=>exact slicePart_int h
theorem zbo {sl:Addr}{vl vu:Value}{lo hi:Option Int}{n:Nat}{Q:Int×Int×Nat->Shared->Prop} (hs:s.heap.IsSliceOf sl vl vu .none) (pl:IsPart vl lo) (pu:IsPart vu hi)
  (h:Q (((sIx n 0 lo:Nat):Int),1,sIx n n hi - sIx n 0 lo) s):wpAny (model prog w) A (Builtin.Slice.sliceApplied (.ref sl) (pure (n:Int))) Q E s:=by
 obtain ⟨os,hos,hcs,hds⟩:=id hs
 unfold Builtin.Slice.sliceApplied Builtin.Slice.sliceFields
 refine wpAny_bind (wpAny_bind (wpAny_field hos hds (x:=vl) rfl (wpAny_bind (wpAny_field hos hds (x:=vu) rfl (wpAny_bind (wpAny_field hos hds (x:=.none) rfl (wpAny_pure ?_)))))))
 refine wpAny_bind (slicePart_none ?_)
 show wpAny _ _ (if ((1:Int) == 0)=true then _ else _) _ _ s
 rw [if_neg (by decide)]
 refine wpAny_bind (zb7 pl (wpAny_bind (zb7 pu (wpAny_bind (wpAny_pure ?_)))))
 show wpAny _ _ (match Builtin.Slice.sliceAdjust lo hi 1 (n:Int) with | (lo,hi)=>pure (lo,(1:Int),Builtin.Slice.slicePlaces lo hi 1)) _ _ s
 rw [zgJ lo hi n]
 show wpAny _ _ (pure (((sIx n 0 lo:Nat):Int),(1:Int),Builtin.Slice.slicePlaces ((sIx n 0 lo:Nat):Int) ((sIx n n hi:Nat):Int) 1)) _ _ s
 rw [zgv]
 exact wpAny_pure h
theorem ziH (xs:Array Value) (i k:Nat):((List.range k).filterMap fun (m:Nat)=>xs[((i:Int)+(m:Int)*1).toNat]?).toArray=((xs.toList.drop i).take k).toArray:=by
 have e:(fun (m:Nat)=>xs[((i:Int)+(m:Int)*1).toNat]?)=fun m=>xs[i+m]?:=by
  funext m
  have:((i:Int)+(m:Int)*1).toNat=i+m:=by lia
  rw [this]
 rw [e]
 have:=pick_run xs i k
 rw [List.filterMap_map] at this
 have e2:((fun x=>xs[x]?)∘fun x=>i+x)=fun m=>xs[i+m]?:=rfl
 rw [e2] at this
 rw [this]
theorem zcc {t sl:Addr}{items:Array Value}{vl vu:Value}{lo hi:Option Int}{Q:Value->Shared->Prop} (ht:IsTup s.heap t items) (hs:s.heap.IsSliceOf sl vl vu .none) (pl:IsPart vl lo) (pu:IsPart vu hi)
  (hw:¬(sIx items.size 0 lo=0/\sIx items.size items.size hi=items.size))
  (h:Q (.ref s.heap.objs.size) { s with heap:=s.heap.push { cls:=.type "tuple",data:=.seq ((items.toList.drop (sIx items.size 0 lo)).take (sIx items.size items.size hi - sIx items.size 0 lo)).toArray } })
  (hsz:items.size<=sizeLine):wpAny (model prog w) A (getItem (.ref t) (.ref sl)) Q E s:=by
 have htake:sizeOk (.seq ((items.toList.drop (sIx items.size 0 lo)).take (sIx items.size items.size hi - sIx items.size 0 lo)).toArray):=by
  show ((items.toList.drop (sIx items.size 0 lo)).take (sIx items.size items.size hi - sIx items.size 0 lo)).toArray.size<=sizeLine
  rw [List.size_toArray,List.length_take,List.length_drop,Array.length_toList]
  lia
 have hj:sIx items.size items.size hi<=items.size:=zlp _ _ (Nat.le_refl _) hi
 obtain ⟨os,hos,hcs,hds⟩:=id hs
 have hTs:s.TypeIs (.ref sl) "slice":=⟨os,hos,hcs⟩
 unfold getItem
 try with_reducible refine wpAny_holding ?_
 first | refine wpAny_bind (wpAny_pure ?_) | skip
 refine wpAny_bind (wpAny_sequenceKey ht.typeIs (by decide) ?_)
 refine wpAny_bind (wpAny_callSpecial?_slot (name:=Str.ofString "__getitem__") ht.typeIs PyProof.Rows.slot_tuple_getitem
  (wpAny_call_entry PyProof.Rows.slot_tuple_getitem ht.typeIs entry_tuple_getitem ?_ (args_tuple_getitem _ _)))
 show wpAny _ _ (Builtin.Tuple.tupleItemsOf (.ref t) >>= _) _ _ s
 refine wpAny_bind (tupleItemsOf_ ht ?_)
 refine wpAny_bind (wpAny_typeOf hTs ?_)
 rw [if_pos (by decide)]
 refine wpAny_bind (zbo hs pl pu ?_)
 have hno:¬((((sIx items.size 0 lo:Nat):Int) == 0&&(1:Int) == 1&&(sIx items.size items.size hi - sIx items.size 0 lo) == items.size)=true):=by
  intro q
  rw [Bool.and_eq_true,Bool.and_eq_true] at q
  have q1:((sIx items.size 0 lo:Nat):Int)=0:=eq_of_beq q.1.1
  have q2:sIx items.size items.size hi - sIx items.size 0 lo=items.size:=eq_of_beq q.2
  exact hw ⟨by lia,by lia⟩
 show wpAny _ _ (if (((sIx items.size 0 lo:Nat):Int) == 0&&(1:Int) == 1&&(sIx items.size items.size hi - sIx items.size 0 lo) == items.size)=true then _ else _) _ _ s
 rw [if_neg hno,ziH]
 first
  | exact wpAny_bind (m:=Builtin.Tuple.tupleExact _) (wpAny_newObj_type (wpAny_pure ⟨_,rfl,wpAny_pure h⟩) htake)
  | exact wpAny_bind (m:=Builtin.Tuple.tupleExact _) (wpAny_newObj_type (wpAny_bind (wpAny_pure (wpAny_pure ⟨_,rfl,wpAny_pure h⟩))) htake)
  | exact wpAny_bind (wpAny_bind (m:=Builtin.Tuple.tupleExact _) (wpAny_newObj_type (wpAny_pure (wpAny_pure ⟨_,rfl,wpAny_pure h⟩)) htake))
  | exact wpAny_bind (wpAny_bind (m:=Builtin.Tuple.tupleExact _) (wpAny_newObj_type (wpAny_pure ⟨_,rfl,wpAny_pure h⟩) htake))
end
end HT
namespace L2
open PySem PySem.Spec PyProof.Rows
abbrev TO:=St->Hp->(Option Int->Hp->Prop)->Prop
def PO (X:Cx) (e:Option Expr) (t:TO):Prop :=
 ∀ (pins:List (Addr×Obj)) (s:Shared) (σ:St) (H:Hp) (Q:Option Int->Hp->Prop),Inv X pins σ H s->t σ H Q ->
  wpAny (model X.prog X.w) X.A (evalPart e X.env) (fun u s'=>∃ o H',Inv X pins σ H' s'/\IsPart u o/\Q o H') X.xe s
def zjG:TO:=fun _ H Q=>Q none H
def znK (t:TE):TO:=fun σ H Q=>t σ H fun x H1=>∃ i,x=.int i/\Q (some i) H1
theorem intsAre_of {ns:List Int}:∀ {us:List Value},Vals (ns.map V.int) us->IntsAre us ns:=by
 induction ns with
 | nil=>intro us r;rw [List.map_nil] at r;cases r;exact .nil
 | cons n ns ih =>
  intro us r
  rw [List.map_cons] at r
  cases r with
  | cons r1 r2 =>
   obtain ⟨t,e⟩:=r1
   subst e
   exact .cons n t (ih r2)
section
variable {X:Cx}{e:Expr}{te:TE}{lo hi:Option Expr}{tl th:TO}{pos p2:Pos}
theorem zjV:PO X none zjG:=by
 intro pins s σ H Q I h
 rw [evalPart_none]
 exact wpAny_pure ⟨none,H,I,.none,h⟩
theorem zjU (h:PE X e te):PO X (some e) (znK te):=by
 intro pins s σ H Q I hw
 rw [evalPart_some]
 refine thn (h pins s σ H _ I hw) fun u s1 ⟨x,H1,I1,r1,q1⟩=>?_
 obtain ⟨i,rfl,q⟩:=q1
 obtain ⟨t,rfl⟩:=r1
 exact ⟨some i,H1,I1,.int i t,q⟩
def SlR (X:Cx) (r:V->Option Int->Option Int->Hp->VK->Prop):Prop :=
 ∀ (pins:List (Addr×Obj)) (s:Shared) (σ:St) (H:Hp) (x:V) (v vl vu:Value) (lo hi:Option Int) (sl:Addr) (Q:VK),Inv X pins σ H s->RelV x v->s.heap.IsSliceOf sl vl vu .none->IsPart vl lo->IsPart vu hi->r x lo hi H Q ->
  ∃ T id,typeLookup (.type T) "__getitem__" = pure (some (.builtin id))/\s.TypeIs v T/\wpAny (model X.prog X.w) X.A (getItem v (.ref sl)) (EP X pins σ Q) X.xe s
theorem SlR.or {r r':V->Option Int->Option Int->Hp->VK->Prop} (h:SlR X r) (h':SlR X r'):SlR X (fun x lo hi H Q=>r x lo hi H Q\/r' x lo hi H Q):=by
 intro pins s σ H x v vl vu lo hi sl Q I rx hs pl pu q
 rcases q with q | q
 ·exact h pins s σ H x v vl vu lo hi sl Q I rx hs pl pu q
 ·exact h' pins s σ H x v vl vu lo hi sl Q I rx hs pl pu q
def tSl (r:V->Option Int->Option Int->Hp->VK->Prop) (te:TE) (tl th:TO):TE:=fun σ H Q=>te σ H fun x H1=>tl σ H1 fun l H2=>th σ H2 fun u H3=>r x l u H3 Q
theorem ziI {r:V->Option Int->Option Int->Hp->VK->Prop} (hr:SlR X r) (he:PE X e te) (hl:PO X lo tl) (hu:PO X hi th):PE X (.Subscript e (.Slice lo hi none p2) pos) (tSl r te tl th):=by
 intro pins s σ H Q I h
 refine Subscript_ (thn (he pins s σ H _ I h) fun v s1 ⟨x,H1,I1,r1,q1⟩=>?_)
 refine wpAny_Slice (thn (hl pins s1 σ H1 _ I1 q1) fun vl s2 ⟨l,H2,I2,pl,q2⟩=>thn (hu pins s2 σ H2 _ I2 q2) fun vu s3 ⟨u,H3,I3,pu,q3⟩=>?_)
 rw [evalPart_none]
 refine wpAny_pure ?_
 have I4:Inv X pins σ H3 { s3 with heap:=s3.heap.push { cls:=.type "slice",data:=.fields #[vl,vu,.none] } }:=I3.kept (t':=s3.toks) fun b ob q=>Heap.get?_push_of_some _ q
 obtain ⟨T,id,hT,ht,hg⟩:=hr pins { s3 with heap:=s3.heap.push { cls:=.type "slice",data:=.fields #[vl,vu,.none] } } σ H3 x v vl vu l u s3.heap.objs.size Q I4 r1 (Heap.IsSliceOf.new ..) pl pu q3
 show wpAny (model X.prog X.w) X.A (subscriptTail e (.Slice lo hi none p2) v (.ref s3.heap.objs.size)) (EP X pins σ Q) X.xe { s3 with heap:=s3.heap.push { cls:=.type "slice",data:=.fields #[vl,vu,.none] } }
 exact tail_any (ops:=[.ref s3.heap.objs.size,v]) ht hT hg (by with_unfolding_all rfl)
def cutV (xs:List V) (lo hi:Option Int):List V:=(xs.drop (HT.sIx xs.length 0 lo)).take (HT.sIx xs.length xs.length hi - HT.sIx xs.length 0 lo)
theorem zfJ (xs:List V) (lo hi:Option Int):(cutV xs lo hi).length<=xs.length:=by
 unfold cutV
 rw [List.length_take,List.length_drop]
 lia
def rSlT (K:PySem.W.Frag):V->Option Int->Option Int->Hp->VK->Prop:=fun x lo hi H Q=>∃ a xs,x=.ref a/\SqT K H a xs /\
 ¬(HT.sIx xs.length 0 lo=0/\HT.sIx xs.length xs.length hi=xs.length)/\∀ p,H p=none->Q (.ref p) (upd H p (.tup (cutV xs lo hi)))
theorem zlb:SlR X (rSlT X.K):=by
 intro pins s σ H x v vl vu lo hi sl Q I rx hs pl pu h
 obtain ⟨a,xs,rfl,hx,hw,q⟩:=h
 cases rx
 obtain ⟨its,r,ht,hz⟩:=I.tuple hx
 have hlen:its.toArray.size=xs.length:=by rw [List.size_toArray];exact r.length.symm
 refine ⟨"tuple",_,PyProof.Rows.slot_tuple_getitem.lookup,ht.typeIs,?_⟩
 refine HT.zcc ht hs pl pu (by rw [hlen];exact hw) ?_ (by rw [hlen];exact hz)
 rw [hlen]
 refine ⟨.ref s.heap.objs.size,_,I.laid (t':=s.toks) (o:=.tup (cutV xs lo hi)) (fun b ob q=>Heap.get?_push_of_some _ q) (Nat.le_refl _) ?_,rfl,q _ (I.hok.fresh (Nat.le_refl _))⟩
 exact ⟨Nat.le_trans (zfJ xs lo hi) hz,_,(r.drop (HT.sIx xs.length 0 lo)).take (HT.sIx xs.length xs.length hi - HT.sIx xs.length 0 lo),IsTD.new _ _⟩
def rLtT (K:PySem.W.Frag):R2:=fun x y H Q=>∃ a b ns ms,x=.ref a/\y=.ref b/\SqT K H a (ns.map V.int)/\SqT K H b (ms.map V.int)/\Q (.bl (HT.lexLt ns ms)) H
theorem zlT (hu:X.A.units<cLine):OpR X (compareOp .Lt) (rLtT X.K):=by
 intro pins s σ H x y v u Q I rx ry h
 obtain ⟨a,b,ns,ms,rfl,rfl,ha,hb,q⟩:=h
 cases rx
 cases ry
 obtain ⟨its,r1,p1,_⟩:=I.tuple ha
 obtain ⟨its2,r2,p2,_⟩:=I.tuple hb
 have i1:IntsAre its.toArray.toList ns:=intsAre_of r1
 have i2:IntsAre its2.toArray.toList ms:=intsAre_of r2
 exact HT.zgB p1 p2 i1 i2 hu ⟨.bl (HT.lexLt ns ms),H,I,rfl,q⟩
def zoh (K:PySem.W.Frag):R2:=fun x y H Q=>∃ a b xs ys,x=.ref a/\y=.ref b/\SqT K H a xs/\SqT K H b ys/\xs≠[]/\xs.length+ys.length<=sizeLine /\
 (ys=[]->Q (.ref a) H)/\(ys≠[]->∀ p,H p=none->Q (.ref p) (upd H p (.tup (xs++ys))))
theorem Vals.nil_iff {xs:List V}{us:List Value} (r:Vals xs us):us=[]↔xs=[]:=by
 cases r with
 | nil=>simp
 | cons _ _=>simp
theorem zj_:OpR X (binaryOp .Add) (zoh X.K):=by
 intro pins s σ H x y v u Q I rx ry h
 obtain ⟨a,b,xs,ys,rfl,rfl,ha,hb,hx,hz,q1,q2⟩:=h
 cases rx
 cases ry
 obtain ⟨its,r1,p1,_⟩:=I.tuple ha
 obtain ⟨its2,r2,p2,_⟩:=I.tuple hb
 refine HT.zkQ p1 p2 (fun z=>hx (r1.nil_iff.mp z)) (fun z=>⟨.ref a,H,I,rfl,q1 (r2.nil_iff.mp z)⟩) (fun z=>?_) (by rw [<- r1.length,<- r2.length];exact hz)
 refine ⟨.ref s.heap.objs.size,_,I.laid (t':=s.toks) (o:=.tup (xs++ys)) (fun b ob q=>Heap.get?_push_of_some _ q) (Nat.le_refl _) ?_,rfl,q2 (fun w=>z (r2.nil_iff.mpr w)) _ (I.hok.fresh (Nat.le_refl _))⟩
 exact ⟨by rw [List.length_append];exact hz,_,r1.append r2,IsTD.new _ _⟩
end
end L2
namespace L2
open PySem PySem.Spec PyProof.Rows
def ixN (n:Nat) (i:Int):Option Nat:=if 0<=i then (if i<n then some i.toNat else none) else if -(n:Int)<=i then some (i+n).toNat else none
def atI {α:Type} (xs:List α) (i:Int):Option α:=(ixN xs.length i).bind fun j=>xs[j]?
theorem zhw {n:Nat}{i:Int}{j:Nat} (h:ixN n i=some j):seqIndex? i n=some j/\j<n/\-(n:Int)<=i/\i<n:=by
 unfold ixN at h
 by_cases h0:0<=i
 ·rw [if_pos h0] at h
  by_cases h1:i<n
  ·rw [if_pos h1] at h
   have e:i.toNat=j:=Option.some.inj h
   exact ⟨by rw [seqIndex_of h0 h1,e],by lia,by lia,h1⟩
  ·rw [if_neg h1] at h;cases h
 ·rw [if_neg h0] at h
  by_cases h1:-(n:Int)<=i
  ·rw [if_pos h1] at h
   have e:(i+n).toNat=j:=Option.some.inj h
   exact ⟨by rw [seqIndex_neg (by lia) h1,e],by lia,h1,by lia⟩
  ·rw [if_neg h1] at h;cases h
theorem zfN {α:Type}{xs:List α}{i:Int}{v:α} (h:atI xs i=some v):∃ j,seqIndex? i xs.length=some j/\xs[j]?=some v/\j<xs.length/\-(xs.length:Int)<=i/\i<xs.length:=by
 unfold atI at h
 cases e:ixN xs.length i with
 | none=>rw [e] at h;cases h
 | some j =>
  rw [e] at h
  obtain ⟨h1,h2,h3,h4⟩:=zhw e
  exact ⟨j,h1,h,h2,h3,h4⟩
theorem zkS {α:Type}{xs:List α}{j:Nat}{v:α} (h:xs[j]?=some v):atI xs (j:Int)=some v:=by
 have hj:j<xs.length:=(List.getElem?_eq_some_iff.mp h).1
 have e:ixN xs.length (j:Int)=some j:=by
  unfold ixN
  rw [if_pos (by lia),if_pos (by lia)];simp
 unfold atI;rw [e];exact h
def zh5 (b:Expr):Prop:=∀ o i,subscripted b false o i=operate [o,i] (getItem o i)
def IxR (X:Cx) (r:R2):Prop :=
 ∀ (value slice:Expr) (pins:List (Addr×Obj)) (s:Shared) (σ:St) (H:Hp) (x y:V) (v u:Value) (Q:VK),Inv X pins σ H s->RelV x v->RelV y u->r x y H Q ->
  subscripted slice false v u=operate [v,u] (getItem v u)->wpAny (model X.prog X.w) X.A (subscriptTail value slice v u) (EP X pins σ Q) X.xe s
def MtR (X:Cx) (id:String) (r:V->List V->Hp->VK->Prop):Prop :=
 ∀ (pins:List (Addr×Obj)) (s:Shared) (σ:St) (H:Hp) (x:V) (xs:List V) (v:Value) (us:List Value) (Q:VK),Inv X pins σ H s->RelV x v->Vals xs us->r x xs H Q ->
  wpAny (model X.prog X.w) X.A (call (.builtin id) (v::us)) (EP X pins σ Q) X.xe s
section
variable {X:Cx}{a b:Expr}{ta tb:TE}{pos:Pos}
theorem IxR.or {r r':R2} (h:IxR X r) (h':IxR X r'):IxR X (fun x y H Q=>r x y H Q\/r' x y H Q):=by
 intro value slice pins s σ H x y v u Q I rx ry q hs
 rcases q with q | q
 ·exact h value slice pins s σ H x y v u Q I rx ry q hs
 ·exact h' value slice pins s σ H x y v u Q I rx ry q hs
theorem zeh {r:R2} (hr:IxR X r) (ha:PE X a ta) (hb:PE X b tb) (hs:zh5 b):PE X (.Subscript a b pos) (tOp r ta tb):=by
 intro pins s σ H Q I h
 exact Subscript_ (binT ha hb I h fun v u s2 x y H2 I2 rx ry q=>hr a b pins s2 σ H2 x y v u Q I2 rx ry q (hs _ _))
def rIxL (K:PySem.W.Frag):R2:=fun x y H Q=>∃ p xs i v,x=.ref p/\y=.int i/\SqL K H p xs/\atI xs i=some v/\Q v H
def rIxT (K:PySem.W.Frag):R2:=fun x y H Q=>∃ p xs i v,x=.ref p/\y=.int i/\SqT K H p xs/\atI xs i=some v/\Q v H
def rIxS:R2:=fun x y H Q=>∃ z i c,x=.str z/\y=.int i/\z.length<=sizeLine/\atI z.cps.toList i=some c/\Q (.str ⟨#[c]⟩) H
theorem zbv:IxR X (rIxL X.K):=by
 intro value slice pins s σ H x y v u Q I rx ry h hs
 obtain ⟨p,xs,i,z,rfl,rfl,hq,he,q⟩:=h
 cases rx
 obtain ⟨t,rfl⟩:=ry
 obtain ⟨its,r,pl,hz⟩:=I.list hq
 obtain ⟨j,h1,h2,h3,h4,h5⟩:=zfN he
 obtain ⟨w,ew,rw'⟩:=r.get h2
 have hl:=r.length
 have hn:=zc0
 have fin:EP X pins σ Q w s:=⟨z,H,I,rw',q⟩
 by_cases h0:0<=i
 ·have hj:i.toNat=j:=by
   rw [seqIndex_of h0 h5] at h1
   exact Option.some.inj h1
  exact item_listR pl.isList h0 (by lia) (by rw [hj];simpa using ew) fin hs
 ·have hj:(i+(its.toArray.size:Int)).toNat=j:=by
   rw [seqIndex_neg (by lia) h4] at h1
   rw [List.size_toArray,<- hl]
   exact Option.some.inj h1
  exact subscriptTail_builtinR (x:=w) pl.isList.typeIs slot_list_getitem.lookup
   (wpAny_getItem_list_neg (Q:=fun r s'=>r=w/\EP X pins σ Q r s') pl.isList (by lia) (by rw [List.size_toArray] <;> lia) (by lia) (by rw [hj];simpa using ew) ⟨rfl,fin⟩) hs
theorem zmq:IxR X (rIxT X.K):=by
 intro value slice pins s σ H x y v u Q I rx ry h hs
 obtain ⟨p,xs,i,z,rfl,rfl,hq,he,q⟩:=h
 cases rx
 obtain ⟨t,rfl⟩:=ry
 obtain ⟨its,r,pl,hz⟩:=I.tuple hq
 obtain ⟨j,h1,h2,h3,h4,h5⟩:=zfN he
 obtain ⟨w,ew,rw'⟩:=r.get h2
 have hl:=r.length
 have hn:=zc0
 have fin:EP X pins σ Q w s:=⟨z,H,I,rw',q⟩
 exact subscriptTail_builtinR (x:=w) pl.typeIs slot_tuple_getitem.lookup
  (getItem_tuple (j:=j) (Q:=fun r s'=>r=w/\EP X pins σ Q r s') pl (by lia) (by lia) (by rw [List.size_toArray,<- hl];exact h1) (by simpa using ew) ⟨rfl,fin⟩) hs
theorem zmr:IxR X rIxS:=by
 intro value slice pins s σ H x y v u Q I rx ry h hs
 obtain ⟨z,i,c,rfl,rfl,hz,he,q⟩:=h
 obtain ⟨t,rfl⟩:=rx
 obtain ⟨t',rfl⟩:=ry
 obtain ⟨j,h1,h2,h3,h4,h5⟩:=zfN he
 have hl:z.cps.toList.length=z.length:=by simp [Str.length]
 rw [hl] at h1 h4 h5
 have hn:=zc0
 exact tail_any (typeIs_str s z t) slot_str_getitem.lookup (getItem_str (c:=c) (by
  have e1:decide (i < -(2 ^ 63:Int))=false:=decide_eq_false (by lia)
  have e2:decide (i>=2 ^ 63)=false:=decide_eq_false (by lia)
  rw [e1,e2,Bool.or_false]) (by rw [h1];simpa using h2) ⟨.str ⟨#[c]⟩,H,I.tok _,⟨_,rfl⟩,q⟩) hs
def rIx (K:PySem.W.Frag):R2:=fun x y H Q=>rIxL K x y H Q\/rIxT K x y H Q\/rIxS x y H Q
theorem zms:IxR X (rIx X.K):=zbv.or (zmq.or zmr)
theorem zgA (its:List Value) (n j:Nat) (u:Value):Obj.mapSeq (·.setIfInBounds j u) { cls:=.type "list",data:=.seq its.toArray n }={ cls:=.type "list",data:=.seq (its.set j u).toArray n }:=by
 simp [Obj.mapSeq]
theorem Inv.lst {pins:List (Addr×Obj)}{σ:St}{H:Hp}{s:Shared}{p:Addr}{xs:List V} (I:Inv X pins σ H s) (h:H p=some (.lst xs)) :
  ∃ (its:List Value) (n:Nat),Vals xs its/\s.heap.get? p=some { cls:=.type "list",data:=.seq its.toArray n }/\xs.length<=sizeLine:=by
 obtain ⟨z,its,n,r,e⟩:=I.hok p _ h
 exact ⟨its,n,r,e,z⟩
theorem Inv.lstUpd {pins:List (Addr×Obj)}{σ:St}{H:Hp}{s:Shared}{p:Addr}{xs ys:List V}{its its':List Value}{n n':Nat}{f:Obj->Obj} (I:Inv X pins σ H s) (h:H p=some (.lst xs))
  (ho:s.heap.get? p=some { cls:=.type "list",data:=.seq its.toArray n }) (hf:f { cls:=.type "list",data:=.seq its.toArray n }={ cls:=.type "list",data:=.seq its'.toArray n' }) (r:Vals ys its') (hz:ys.length<=sizeLine) (t:Nat) :
  Inv X pins σ (upd H p (.lst ys)) { s with heap:=s.heap.update p f,toks:=t }:=by
 have e:(s.heap.update p f).get? p=some { cls:=.type "list",data:=.seq its'.toArray n' }:=by
  rw [Heap.get?_update_self f ho (by rw [hf] <;> rfl),hf]
 refine I.write (x:=p) (e:=p) (by rw [h];trivial) (.inl rfl) (fun b u hb q=>(Heap.get?_update_other _ _ (Ne.symm hb)).trans q) ⟨_,e⟩ ?_
 exact ⟨hz,its',n',r,e⟩
def zog:V->V->V->Hp->(Hp->Prop)->Prop:=fun o i v H Q=>∃ p xs k j,o=.ref p/\i=.int k/\H p=some (.lst xs)/\ixN xs.length k=some j/\Q (upd H p (.lst (xs.set j v)))
theorem set_list:PSet X zog:=by
 intro pins s σ H o i v ov iv u Q I ro ri rv h
 obtain ⟨p,xs,k,j,rfl,rfl,hp,hj,q⟩:=h
 cases ro
 obtain ⟨t,rfl⟩:=ri
 obtain ⟨its,n,r,ho,hz⟩:=I.lst hp
 obtain ⟨h1,h2,h3,h4⟩:=zhw hj
 have hl:=r.length
 have hn:=zc0
 have I':Inv X pins σ (upd H p (.lst (xs.set j v))) { s with heap:=s.heap.update p (Obj.mapSeq (·.setIfInBounds j u)) } :=
  I.lstUpd hp ho (zgA its n j u) (r.set rv j) (by rw [List.length_set];exact hz) s.toks
 by_cases h0:0<=k
 ·have hk:k.toNat=j:=by
   rw [seqIndex_of h0 h4] at h1
   exact Option.some.inj h1
  exact PySem.W.ki_setAt ho h0 (by lia) (by rw [List.size_toArray,<- hl];exact h4) (by rw [hk];exact ⟨_,I',q⟩)
 ·have hk:(k+(its.toArray.size:Int)).toNat=j:=by
   rw [seqIndex_neg (by lia) h3] at h1
   rw [List.size_toArray,<- hl]
   exact Option.some.inj h1
  exact PySem.W.ki_setBack ho (by lia) (by rw [List.size_toArray,<- hl];exact h3) (by lia) (by rw [hk];exact ⟨_,I',q⟩)
theorem ze3:zcl X (.builtin "len") (fun xs H Q=>∃ p ys,xs=[.ref p]/\(SqL X.K H p ys\/SqT X.K H p ys)/\Q (.int ys.length) H):=by
 intro pins s σ H xs us Q I r h
 obtain ⟨p,ys,rfl,hq,q⟩:=h
 obtain ⟨u,rfl,rx⟩:=vals1 r
 cases rx
 have hn:=zc0
 rcases hq with hq | hq
 ·obtain ⟨its,r',pl,hz⟩:=I.list hq
  have hlen:=r'.length
  exact Calls.call_len_list pl.isList (by simp only [List.size_toArray] <;> lia) ⟨.int ys.length,H,I.tok _,⟨s.toks+1,by rw [List.size_toArray,hlen]⟩,q⟩
 ·obtain ⟨its,r',pl,hz⟩:=I.tuple hq
  have hlen:=r'.length
  exact len_tuple pl (by simp only [List.size_toArray] <;> lia) ⟨.int ys.length,H,I.tok _,⟨s.toks+1,by rw [List.size_toArray,hlen]⟩,q⟩
theorem ze2:zcl X (.type "list") (fun xs H Q=>∃ p ys,xs=[.ref p]/\(SqL X.K H p ys\/SqT X.K H p ys)/\∀ l,H l=none->Q (.ref l) (upd H l (.lst ys))):=by
 intro pins s σ H xs us Q I r h
 obtain ⟨p,ys,rfl,hq,q⟩:=h
 obtain ⟨u,rfl,rx⟩:=vals1 r
 cases rx
 have fin:∀ (its:List Value),Vals ys its->ys.length<=sizeLine->∀ (h':Heap) (c':Nat),(∀ b o',s.heap.get? b=some o'->h'.get? b=some o') ->
   h'.get? s.heap.objs.size=some { cls:=.type "list",dict:=none,data:=.seq its.toArray c',slots:=#[] }->EP X pins σ Q (.ref s.heap.objs.size) { s with heap:=h' }:=fun its r' hz h' c' kp e =>
  ⟨.ref s.heap.objs.size,_,I.laid (t':=s.toks) kp (Nat.le_refl _) (show zbi X.prog X.w _ h' _ (.lst ys) from ⟨hz,its,c',r',e⟩),rfl,q _ (I.hok.fresh (Nat.le_refl _))⟩
 rcases hq with hq | hq
 ·obtain ⟨its,r',pl,hz⟩:=I.list hq
  have hlen:=r'.length
  obtain ⟨o,ho,hc,n,hd⟩:=pl.isList
  exact call_list_seq p (.inl rfl) ho hc hd (fun h' c' kp e=>fin its r' hz h' c' kp e) (by simp only [List.size_toArray] <;> lia)
 ·obtain ⟨its,r',pl,hz⟩:=I.tuple hq
  have hlen:=r'.length
  obtain ⟨o,ho,hc,n,hd⟩:=pl
  exact call_list_seq p (.inr rfl) ho hc hd (fun h' c' kp e=>fin its r' hz h' c' kp e) (by simp only [List.size_toArray] <;> lia)
def tyV (K:PySem.W.Frag) (T:String) (x:V) (H:Hp):Prop:=match x with
 | .str _=>T = "str"
 | .int _=>T = "int"
 | .ref p=>(T = "list" /\ ∃ xs,SqL K H p xs)\/(T = "tuple" /\ ∃ o,K.lookup p=some o/\o.cls=.type "tuple" /\ o.dict=none) \/
   (T = "dict" /\ ((∃ kvs,H p=some (.dK kvs))\/∃ kvs,H p=some (.dT kvs)))\/(T = "set" /\ ∃ S n,H p=some (.set S n))
 | _=>False
theorem zk4 {pins:List (Addr×Obj)}{σ:St}{H:Hp}{s:Shared}{T:String}{x:V}{v:Value} (I:Inv X pins σ H s) (r:RelV x v) (ty:tyV X.K T x H) :
  s.TypeIs v T/\∀ a,v=.ref a->∃ ob,s.heap.get? a=some ob/\ob.dict=none:=by
 cases x with
 | str z =>
  obtain ⟨t,rfl⟩:=r
  cases (show T = "str" from ty)
  exact ⟨typeIs_str s z t,fun _ e=>nomatch e⟩
 | int i =>
  obtain ⟨t,rfl⟩:=r
  cases (show T = "int" from ty)
  exact ⟨typeIs_int s i t,fun _ e=>nomatch e⟩
 | ref p =>
  cases r
  rcases ty with ⟨rfl,xs,hq⟩ | ⟨rfl,o,hk,hc,hd⟩ | ⟨rfl,hk⟩ | ⟨rfl,S,n,hk⟩
  ·obtain ⟨its,_,pl,_⟩:=I.list hq
   refine ⟨pl.isList.typeIs,fun a e=>?_⟩
   cases e
   obtain ⟨o,n,e,c,hd,_⟩:=pl
   exact ⟨o,e,hd⟩
  ·refine ⟨⟨o,I.kIn p o hk,hc⟩,fun a e=>?_⟩
   cases e
   exact ⟨o,I.kIn _ o hk,hd⟩
  ·have z:∃ o,s.heap.get? p=some o/\o.ExactDict:=by
    rcases hk with ⟨kvs,hk⟩ | ⟨kvs,hk⟩
    ·obtain ⟨_,_,_,_,o,_,_,e,ex,_⟩:=I.hok p _ hk
     exact ⟨o,e,ex⟩
    ·obtain ⟨_,_,_,_,o,_,_,e,ex,_⟩:=I.hok p _ hk
     exact ⟨o,e,ex⟩
   obtain ⟨o,e,ex⟩:=z
   refine ⟨⟨o,e,ex.1⟩,fun a e2=>?_⟩
   cases e2
   exact ⟨o,e,ex.2.1⟩
  ·obtain ⟨o,_,_,_,e,ex,_⟩:=I.hok p _ hk
   refine ⟨⟨o,e,ex.1⟩,fun a e2=>?_⟩
   cases e2
   exact ⟨o,e,ex.2.1⟩
 | _=>exact False.elim ty
def tBM (K:PySem.W.Frag) (T:String) (r:V->List V->Hp->VK->Prop) (to:TE) (t:TA):TE:=fun σ H Q=>to σ H fun x H1=>tyV K T x H1/\t σ H1 fun xs H2=>r x xs H2 Q
variable {o e:Expr}{es:List Expr}{to:TE}{t:TA}{name:Str}{apos cpos:Pos}{T id:String}{r:V->List V->Hp->VK->Prop}
theorem zom (pa:PlainAttrs T) (slot:Slot T name id) (hty:typeOf (.builtin id)=pure (.type "method_descriptor")) (hm:MtR X id r) (ho:PE X o to) (ha:PA X (e::es) t)
  (hbase:attributeBase o name X.env (eval o X.env)=eval o X.env:=by rfl)
  (hfew:((backTo cpos (starEach (e::es) X.env)).all (fun x=>!x.1)&&(backToKw cpos (keywordEach [] X.env)).all (fun x=>x.1.isSome)
   && decide ((e::es).length+([]:List Keyword).length+(if ([]:List Keyword).isEmpty then 0 else 1)<30))=true:=by rfl)
  (hline:(apos.endLine == cpos.line)=true:=by rfl) (hs:starEach (e::es) X.env=(false,eval e X.env)::starEach es X.env:=by rfl) (hplain:(backTo cpos (starEach es X.env)).any (·.1)=false:=by rfl) :
  PE X (.Call (.Attribute o name apos) (e::es) [] cpos) (tBM X.K T r to t):=by
 intro pins s σ H Q I h
 refine wpAny_Call_method_late hbase hfew hline rfl (thn (ho pins s σ H _ I h) fun v s1 ⟨x,H1,I1,r1,ty,q1⟩=>?_)
 obtain ⟨h1,h2⟩:=zk4 I1 r1 ty
 refine ⟨T,id,pa,slot,hty,h1,h2,?_⟩
 have hA:=ha cpos pins s1 σ H1 _ I1 q1
 rw [hs] at hA ⊢
 refine Calls.callWith_builtin (by show (false||(backTo cpos (starEach es X.env)).any (·.1))=false;rw [hplain] <;> rfl) (Calls.evalArgs_plain ?_)
 exact thn hA fun us s2 ⟨vs,H2,I2,r2,q2⟩=>hm pins s2 σ H2 x vs v us Q I2 r1 r2 q2
end
end L2
namespace L2
open PySem PySem.Spec PyProof.Rows
def MtM (X:Cx) (id:String) (r:V->List V->Hp->VK->Prop):Prop :=
 ∀ (pins:List (Addr×Obj)) (s:Shared) (σ:St) (H:Hp) (x:V) (xs:List V) (v:Value) (us:List Value) (Q:VK),Inv X pins σ H s->RelV x v->Vals xs us->r x xs H Q ->
  wpAny (model X.prog X.w) X.A (call (.builtin id) (v::us)) (EP X pins σ Q) X.xe s
theorem Vals.one:∀ {x:V}{us:List Value},Vals [x] us->∃ u,us=[u]/\RelV x u
 | _,_,.cons r .nil=>⟨_,rfl,r⟩
section
variable {X:Cx}{pins:List (Addr×Obj)}{σ:St}{H:Hp}{s:Shared}{l b:Addr}{xs ys zs:List V}
theorem Inv.lset {its its':List Value}{n:Nat}{f:Array Value->Array Value}{t':Nat} (I:Inv X pins σ H s) (hH:H l=some (.lst xs))
  (e:s.heap.get? l=some { cls:=.type "list",data:=.seq its.toArray n }) (hf:f its.toArray=its'.toArray) (hv:Vals ys its') (hz:ys.length<=sizeLine) :
  Inv X pins σ (upd H l (.lst ys)) { s with heap:=s.heap.update l (Obj.mapSeq f),toks:=t' }:=by
 have q:=PySem.IsL.update e f
 rw [hf] at q
 refine I.write (x:=l) (e:=l) (by rw [hH];exact trivial) (.inl rfl) (fun b' u hb hu=>(Heap.get?_update_other s.heap (Obj.mapSeq f) (Ne.symm hb)).trans hu) ⟨_,q⟩ ?_
 exact ⟨hz,its',_,hv,q⟩
theorem Inv.lnew {its:List Value}{t':Nat} (I:Inv X pins σ H s) (hv:Vals ys its) (hz:ys.length<=sizeLine) :
  Inv X pins σ (upd H s.heap.objs.size (.lst ys)) { s with heap:=s.heap.push { cls:=.type "list",data:=.seq its.toArray },toks:=t' } :=
 I.laid (fun _ _ q=>Heap.get?_push_of_some _ q) (Nat.le_refl _) ⟨hz,its,0,hv,Heap.get?_push_size _ rfl⟩
theorem Inv.fresh (I:Inv X pins σ H s):H s.heap.objs.size=none:=I.hok.fresh (Nat.le_refl _)
theorem Inv.lstM (I:Inv X pins σ H s) (hH:H l=some (.lst xs)):xs.length<=sizeLine/\∃ (its:List Value) (n:Nat),Vals xs its/\xs.length=its.length/\s.heap.get? l=some { cls:=.type "list",data:=.seq its.toArray n }:=by
 obtain ⟨z,its,n,r,e⟩:=I.hok l _ hH
 exact ⟨z,its,n,r,r.length,e⟩
end
section
variable {X:Cx}
def zjN:V->List V->Hp->VK->Prop:=fun x vs H Q=>∃ l xs y,x=.ref l/\vs=[y]/\H l=some (.lst xs)/\xs.length<sizeLine/\Q .non (upd H l (.lst (xs++[y])))
theorem zeq:MtM X "list.append" zjN:=by
 intro pins s σ H x vs v us Q I rx rv h
 obtain ⟨l,xs,y,rfl,rfl,hH,hz,q⟩:=h
 cases rx
 obtain ⟨u,rfl,ru⟩:=rv.one
 obtain ⟨z,its,n,r,hl,e⟩:=I.lstM hH
 refine call_meets F.slot_list_append ⟨_,e,rfl⟩ F.entry_list_append (F.args_list_append_2 _ _) (PySem.list_append l its.toArray n u (by rw [List.size_toArray];lia)) ⟨e,?_⟩
 refine ⟨.non,_,I.lset (its':=its++[u]) hH e (by simp) (r.append (.cons ru .nil)) ?_,rfl,q⟩
 rw [List.length_append,List.length_singleton]
 lia
def rCat:R2:=fun x y H Q=>∃ l b xs zs,x=.ref l/\y=.ref b/\H l=some (.lst xs)/\H b=some (.lst zs)/\xs.length+zs.length<=sizeLine/\∀ p,H p=none->Q (.ref p) (upd H p (.lst (xs++zs)))
theorem zl0:OpR X (binaryOp .Add) rCat:=by
 intro pins s σ H x y v u Q I rx ry h
 obtain ⟨l,b,xs,zs,rfl,rfl,hH,hB,hz,q⟩:=h
 cases rx
 cases ry
 obtain ⟨z,its,n,r,hl,e⟩:=I.lstM hH
 obtain ⟨z2,its2,n2,r2,hl2,e2⟩:=I.lstM hB
 refine PySem.P.add_list e e2 ?_ (by rw [List.size_toArray,List.size_toArray];lia)
 have ea:its.toArray++its2.toArray=(its++its2).toArray:=by simp
 rw [ea]
 exact ⟨.ref _,_,I.lnew (t':=s.toks) (r.append r2) (by rw [List.length_append];lia),rfl,q _ I.fresh⟩
end
end L2
namespace Att
open PySem PySem.W PySem.Calls PyProof.Rows
theorem zc3 {P:Params}{h:Heap}:∀ (ns:List Int) (vs:List Value),WellAll P h vs (ns.map WData.int)->IntsAre vs ns:=by
 intro ns
 induction ns with
 | nil =>
  intro vs w
  rw [List.map_nil] at w
  cases w
  exact .nil
 | cons n ns ih =>
  intro vs w
  rw [List.map_cons] at w
  cases w with
  | cons a b =>
   cases a
   exact .cons _ _ (ih _ b)
theorem zgU {l:OpenLaw}{n:Nat} (hn:l.most=some n) {P:Params}{h:Heap}{args:List WData}{vals:List Value}
  (hpre:l.row.toRowW.claim.pre args=true) (hwl:WellAll P h vals args) :
  ∃ a vs ns,vals=[Value.ref a]/\args=[WData.list (ns.map WData.int)]/\h.get? a=some { cls:=.type "list",data:=.seq vs.toArray }/\IntsAre vs ns/\ns.length<=n:=by
 have hsh:WShape.hasAll [] args [.list .int]=true:=(pre_splitW hpre).1
 have hc:l.pre.holds [] { args:=args }=true:=(pre_splitW hpre).2
 obtain ⟨d,r,rfl,h1,h2⟩:=hasAllW_cons hsh
 obtain rfl:=hasAllW_nil h2
 obtain ⟨xs,rfl,h3⟩:=hasW_list h1
 obtain ⟨ns,rfl⟩:=items_int h3
 have hlen:ns.length<=n:=by
  unfold OpenLaw.pre at hc
  have h4:(WTm.not (.lt (.lit (.int (n:Int))) (.len (.arg 0)))).holds [] { args:=[.list (ns.map .int)] }=true:=by
   have h4:=(holds_andW hc).1
   rw [hn] at h4
   exact h4
  have h5:=condW_of h4 (w_not (w_lt w_lit (w_len_list (w_arg rfl))))
  rw [List.length_map] at h5
  refine Nat.le_of_not_lt fun q=>?_
  have q':(n:Int)<((ns.length:Nat):Int):=by lia
  first
   | (rw [decide_eq_true q'] at h5;exact absurd h5 (by decide))
   | (simp at h5;lia)
 cases hwl with
 | cons w1 w2 =>
  cases w2
  cases w1 with
  | list ho hall=>exact ⟨_,_,ns,rfl,rfl,ho,zc3 ns _ hall,hlen⟩
theorem zg1 (l:OpenLaw) (args:List WData):l.row.toRowW.claim.post args (.bool true) args=true :=
 postW_of (r:=l.row.toRowW) (X:=(true == true))
  (show WShape.has [] (.bool true) .bool=true by first | rfl | decide | simp [WShape.has,WShape.arms,WShape.armsAll])
  (show (WTm.eq .res (.lit (.bool true))).value [] { args:=args,res:=some (.bool true),after:=args }=some (.bool (true == true)) from w_eq_bool (w_res rfl) w_lit) rfl
theorem attach_call {l:OpenLaw}{n:Nat}{q:Program}{loose:List Str}{XP:(Str->Option Value)->Heap->Prop}{YP:World->Heap->Prop}{d:DefRec}
  (hn:l.most=some n) (hdf:d.params.defaults=[])
  (call:∀ (w:World) (s₀ s₁:Shared) (mg mb:Str->Option Value) (fa:Addr) (o:Obj) (pm cd doc:Value) (a:Addr) (vs:List Value) (ns:List Int),
   Ground q loose [] XP w s₀ mg mb s₁.heap->YP w s₁.heap ->
   s₁.heap.get? fa=some o->o.data=.func (docDef d.name d.params d.body d.scope pm cd doc)->s₁.heap.CodeRec cd d.name->mg d.name=some (.ref fa) ->
   s₁.heap.get? a=some { cls:=.type "list",data:=.seq vs.toArray }->IntsAre vs ns->ns.length<=n->s₁.gens=#[] ->
   codeAny (model l.prog w) callerA (.call (.ref fa) ⟨[.ref a],[]⟩) (fun r s'=>r=.ok (.ret (.bool true))/\OldK s₁.heap s'.heap/\s'.os=s₁.os/\AllBare s'.gens) s₁) :
  WalkO q loose XP YP l.row.toRowW d [] (fun f vs=>PySem.call f vs):=by
 intro w s₀ s₁ mg mb G Y fa o pm cd doc dV kV ho hd hcd hD hmg hg args vals as hpre hlay hrd hwl hlo
 obtain rfl:dV=.none:=Dflts.none hD hdf
 obtain rfl:kV=.none:=Dflts.noKw hD
 obtain ⟨a,vs,ns,rfl,rfl,hobj,hints,hlen⟩:=zgU hn hpre hwl
 refine enter_call (codeAny_mono (call w s₀ s₁ mg mb fa o pm cd doc a vs ns G Y ho (fd_plain hd) hcd hmg hobj hints hlen hg) fun r s' hq=>?_)
 obtain ⟨rfl,h2,h3,h4⟩:=hq
 exact ⟨.inl ⟨.bool true,.bool true,[],rfl,fun _=>rfl,.bool true,zg1 l _,fun _=>⟨List.Pairwise.nil,fun _ hm=>(nomatch hm)⟩⟩,h2,h3,h4⟩
end Att
namespace L2
open PySem PySem.Spec PyProof.Rows
theorem zd0:∀ {vs:List Value}{ns:List Int},IntsAre vs ns->Vals (ns.map V.int) vs
 | _,_,.nil=>.nil
 | _,_,.cons n t h=>.cons ⟨t,rfl⟩ (zd0 h)
def Only (H:Hp):Prop:=∀ b,H b=none\/∃ o xs,H b=some (.frz o (.lst xs))
theorem ziR {P:Program}{w:World}{K:PySem.W.Frag}{mg mb:Str->Option Value}{CX:CXT}{k:Nat}{fa a:Addr}{fd:FuncData}{x:Str}{sp:Sp}{s₁:Shared}{vs:List Value}{ns:List Int}
  (KX:K.In s₁.heap) (hns:s₁.heap.Ns mainGlobals mg) (hb:s₁.heap.Ns builtinsNs mb) (hbb:∀ x:Str,x ≠ "__name__" -> mb x=bootBuiltins x) (hlim:s₁.heap.NoLimit) (hg:s₁.gens=#[])
  (ha:s₁.heap.get? a=some { cls:=.type "list",data:=.seq vs.toArray }) (hi:IntsAre vs ns) (hl:ns.length<=sizeLine) (hr:Room k callerA)
  (F:∀ base:Heap,K.In base->base.Ns mainGlobals mg->FnOk P w K mg base CX k fa fd [x] sp) (hbind:∀ (s:Shared) (u:Value),BindsTo s fd ⟨[u],[]⟩ [(x,u)])
  (hsp:∀ H:Hp,Only H->SqL K H a (ns.map V.int)->sp [.ref a] H (fun v _=>v=.bl true) fun _ _ _=>False)
  (hCX:∀ H e s',CX [] H s₁ (fun _ _ _=>False) e s'->False) :
  codeAny (model P w) callerA (.call (.ref fa) ⟨[.ref a],[]⟩) (fun r s'=>r=.ok (.ret (.bool true))/\OldK s₁.heap s'.heap/\s'.os=s₁.os/\AllBare s'.gens) s₁:=by
 have rv:=zd0 hi
 have lenV:=hi.length
 have core:∀ H:Hp,Only H->SqL K H a (ns.map V.int)->HOk P w H s₁.heap->(∀ b,H b≠none->b=a)->(H a≠none->K.lookup a=none) ->
   codeAny (model P w) callerA (.call (.ref fa) ⟨[.ref a],[]⟩) (fun r s'=>r=.ok (.ret (.bool true))/\OldK s₁.heap s'.heap/\s'.os=s₁.os/\AllBare s'.gens) s₁:=by
  intro H hO hS hok hA hK
  have base_of:∀ {b:Addr} {o:Obj},s₁.heap.get? b=some o->H b=none->(hidT s₁.heap H).get? b=some o:=fun e n=>zi3 e n
  have noA:∀ {b:Addr} {o:Obj} {es:Array DictEntry} {ep:Nat},s₁.heap.get? b=some o->o.data=.dict es ep->H b=none:=fun {b o es ep} e d=>by
   cases q:H b with
   | none=>rfl
   | some u =>
    have e':b=a:=hA b (by rw [q];simp)
    subst e'
    rw [ha] at e;cases e
    have d':Data.seq vs.toArray _=Data.dict es ep:=d
    cases d'
  have nsK:∀ {b:Addr} {m:Str->Option Value},s₁.heap.Ns b m->(hidT s₁.heap H).Ns b m:=fun {b m} ⟨o,es,ep,e,d,r⟩=>⟨o,es,ep,base_of e (noA e d),d,r⟩
  have hKb:K.In (hidT s₁.heap H):=fun b o e=>base_of (KX b o e) (by
   cases q:H b with
   | none=>rfl
   | some u =>
    have e':b=a:=hA b (by rw [q];simp)
    subst e'
    rw [hK (by rw [q];simp)] at e;cases e)
  have hM:Mod K mg (hidT s₁.heap H):=⟨hKb,nsK hns,⟨mb,nsK hb,hbb⟩,let ⟨mc,h1,h2⟩:=hlim;⟨mc,nsK h1,h2⟩⟩
  have e0:Env0 P w K mg (hidT s₁.heap H) callerA [] s₁ H:=⟨rfl,hM,fun b o e=>zkc e,Nat.le_of_eq (zhD _ _),trivial,fun b hb=>absurd (show b∈([]:List Addr) from hb) (by simp),hok,.of_eq hg⟩
  refine codeAny_mono ((F _ hKb (nsK hns)).run callerA [] s₁ H ⟨[.ref a],[]⟩ [.ref a] [.ref a] _ _ hr e0 (hbind s₁ (.ref a)) (.cons rfl .nil) (hsp H hO hS)) fun r s' h=>?_
  cases r with
  | error e=>exact (hCX H e s' h).elim
  | ok fl =>
   cases fl with
   | next=>exact False.elim h
   | brk=>exact False.elim h
   | cont=>exact False.elim h
   | ret u =>
    obtain ⟨v,H',os,bare,un,hok',r',q⟩:=h
    have q':v=.bl true:=q
    subst q'
    obtain rfl:u=Value.bool true:=r'
    refine ⟨rfl,OldK.of_keep fun b o e=>?_,os,bare⟩
    cases q:H b with
    | none=>exact un.keep b o e q (by intro z;exact absurd (show b∈([]:List Addr) from z) (by simp)) (by simp)
    | some u =>
     rcases hO b with z | ⟨ob,xs,z⟩
     ·rw [q] at z;cases z
     ·have z2:=un.frzs b ob _ z
      obtain ⟨e1,_⟩:=hok b _ z
      obtain ⟨e2,_⟩:=hok' b _ z2
      rw [e] at e1;cases e1
      exact e2
 cases hk:K.lookup a with
 | some o =>
  have e:=KX a o hk
  rw [ha] at e
  cases e
  refine core (fun _=>none) (fun _=>.inl rfl) (.inr ⟨_,vs.toArray,_,hk,rfl,rfl,rfl,by rw [List.size_toArray,lenV];exact hl,by simpa using rv⟩) (fun b u z=>by have z':(none:Option HO)=some u:=z;cases z') (fun b z=>absurd rfl z) fun z=>absurd rfl z
 | none =>
  refine core (fun b=>if b=a then some (.frz { cls:=.type "list",data:=.seq vs.toArray } (.lst (ns.map V.int))) else none) (fun b=>?_) (.inl (.inr ⟨{ cls:=.type "list",data:=.seq vs.toArray },if_pos rfl⟩)) (fun b u z=>?_) (fun b z=>?_) fun _=>hk
  ·by_cases hb:b=a
   ·exact .inr ⟨_,_,if_pos hb⟩
   ·exact .inl (if_neg hb)
  ·by_cases hb:b=a
   ·have z':=(if_pos hb).symm.trans z
    cases z'
    subst hb
    exact ⟨ha,by rw [List.length_map];exact hl,vs,_,rv,ha⟩
   ·have z':=(if_neg hb).symm.trans z
    cases z'
  ·by_cases hb:b=a
   ·exact hb
   ·exact absurd (if_neg hb) z
end L2
namespace L2
open PySem PySem.Spec PyProof.Rows
theorem zjD {l:PySem.W.OpenLaw}{n k:Nat}{q:Program}{loose:List Str}{XP:(Str->Option Value)->Heap->Prop}{YP:World->Heap->Prop}{d:DefRec}{K:Params->PySem.W.Frag}{CX:World->CXT}{sp:World->Sp}{x:Str}
  (hn:l.most=some n) (hn2:n<=sizeLine) (hdf:d.params.defaults=[]) (hr:Room k callerA)
  (hY:∀ (w:World) (h:Heap),YP w h->(K w.params).In h)
  (F:∀ (w:World) (mg:Str->Option Value) (fa:Addr) (h:Heap),(K w.params).In h->h.Ns mainGlobals mg->mg d.name=some (.ref fa) ->
   ∃ fd:FuncData,(∀ (s:Shared) (u:Value),BindsTo s fd ⟨[u],[]⟩ [(x,u)]) /\
    ∀ base:Heap,(K w.params).In base->base.Ns mainGlobals mg->FnOk l.prog w (K w.params) mg base (CX w) k fa fd [x] (sp w))
  (hsp:∀ (w:World) (H:Hp) (a:Addr) (ns:List Int),ns.length<=n->Only H->SqL (K w.params) H a (ns.map V.int)->sp w [.ref a] H (fun v _=>v=.bl true) fun _ _ _=>False)
  (hCX:∀ (w:World) (H:Hp) (s:Shared) (e:Value) (s':Shared),CX w [] H s (fun _ _ _=>False) e s'->False) :
  PySem.W.WalkO q loose XP YP l.row.toRowW d [] (fun f vs=>PySem.call f vs):=by
 refine Att.attach_call hn hdf fun w s₀ s₁ mg mb fa o pm cd doc a vs ns G Y ho hd hcd hmg hobj hints hlen hg=>?_
 have KX:=hY w _ Y
 obtain ⟨fd,hb,hF⟩:=F w mg fa _ KX G.T.g hmg
 exact ziR KX G.T.g G.T.b G.T.builtins G.T.nolimit hg hobj hints (Nat.le_trans hlen hn2) hr hF hb (fun H hO hS=>hsp w H a ns hlen hO hS) fun H e s'=>hCX w H s₁ e s'
end L2
namespace L2
open PySem PySem.Spec PyProof.Rows
def zba (s:Stmt):Arguments:=match s with
 | .FunctionDef _ a _ _ _ _ _ _ _ _=>a
 | _=>{ posonlyargs:=[],args:=[],vararg:=none,kwonlyargs:=[],kw_defaults:=[],kwarg:=none,defaults:=[] }
def zaU (s:Stmt):List Stmt:=match s with
 | .FunctionDef _ _ b _ _ _ _ _ _ _=>b
 | _=>[]
def zah (s:Stmt):Scope:=match s with
 | .FunctionDef _ _ _ _ _ _ sc _ _ _=>sc
 | _=>{ kind:=.function,names:=[],isGenerator:=false,isCoroutine:=false }
abbrev CX0:CXT:=fun _ _ _ _ _ _=>False
abbrev E0:XK:=fun _ _ _=>False
theorem zoo {X:Cx}:zh6 CX0 X E0:=fun _ _ _ _ _ _ _ h=>h.elim
structure Fun (K:PySem.W.Frag) (x qual:Str) (st:Stmt) (f:Addr) (fd:FuncData):Prop where
 ex:∃ (oc:Value) (od:Option Addr) (kV doc pm:Value) (an:Option Addr) (cdv ct:Value) (osl:Array (Option Value)),
  fd=PySem.W.fnOf x qual (zba st) (zaU st) (zah st) .none kV doc pm an cdv ct/\K.lookup f=some ⟨oc,od,.func fd,osl⟩/\PySem.W.codeIn K cdv qual=true
 kp:PySem.W.keepIn K (.ref f)=true
section
variable {P:Program}{w:World}{K:PySem.W.Frag}{mg:Str->Option Value}{base:Heap}
theorem Fun.ok {x qual:Str}{st:Stmt}{f:Addr}{fd:FuncData}{N ps:List Str}{k:Nat}{sp:Sp} (F:Fun K x qual st f fd) (S:FnScope N ps (zah st)) (len:∀ vs H Q E,sp vs H Q E->vs.length=ps.length)
  (hbody:∀ (cdv:Value) (A:Around) (outer:List Env) (s:Shared) (H:Hp) (vs:List V) (Q:VK) (E:XK),Room k (A.deeper (envOfC qual (zah st) s.heap.objs.size f cdv))->sp vs H Q E ->
   ∃ t,PSs (cxOf CX0 P w K mg base N qual (zah st) f cdv A outer s H E).nox (zaU st) t/\t { nx:=fun _ H'=>Q .non H',rt:=Q } (start N vs) H):FnOk P w K mg base CX0 (k+1) f fd ps sp:=by
 obtain ⟨oc,od,kV,doc,pm,an,cdv,ct,osl,rfl,lk,hcd⟩:=F.ex
 refine zo3 lk hcd S len fun A outer s H vs Q E hr hsp=>?_
 obtain ⟨t,h,q⟩:=hbody cdv A outer s H vs Q E hr hsp
 exact ⟨t,h.nox,q⟩
theorem Fun.binds {x qual:Str}{st:Stmt}{f:Addr}{fd:FuncData}{ps:List Str} (F:Fun K x qual st f fd)
  (h:∀ (kV doc pm:Value) (an:Option Addr) (cdv ct:Value) (us:List Value),us.length=ps.length->bindArgs (PySem.W.fnOf x qual (zba st) (zaU st) (zah st) .none kV doc pm an cdv ct) ⟨us,[]⟩=pure (ps.zip us)):Binds K fd ps []:=by
 obtain ⟨oc,od,kV,doc,pm,an,cdv,ct,osl,rfl,lk,hcd⟩:=F.ex
 exact .all (h kV doc pm an cdv ct)
theorem zju {x qual:Str}{st:Stmt}{f:Addr}{oc:Value}{od an:Option Addr}{osl:Array (Option Value)}{kV doc pm cdv ct:Value} (l:K.lookup f=some ⟨oc,od,.func (PySem.W.fnOf x qual (zba st) (zaU st) (zah st) .none kV doc pm an cdv ct),osl⟩)
  (c:PySem.W.codeIn K cdv qual=true) (k:PySem.W.keepIn K (.ref f)=true):Fun K x qual st f (PySem.W.fnOf x qual (zba st) (zaU st) (zah st) .none kV doc pm an cdv ct):=⟨⟨oc,od,kV,doc,pm,an,cdv,ct,osl,rfl,l,c⟩,k⟩
end
section
variable {X:Cx}
theorem pv (i:Nat) {x:Str}{pos:Pos} (hN:X.N[i]?=some x:=by rfl) (hv:Vis X.env.scope x:=by first | exact Or.inl rfl | exact Or.inr (Or.inl rfl) | exact Or.inr (Or.inr rfl)) (hd:(x == ("__debug__":Str))=false:=by decide)
  (hcd:(x == ("__classdict__":Str))=false:=by decide):PE X (.Name x pos) (tVar i):=zcW hN hv hd hcd
end
theorem iteF {A B:Prop} (h:B):if false=true then A else B:=by
 rw [if_neg Bool.false_ne_true]
 exact h
theorem iteT {A B:Prop} (h:A):if true=true then A else B:=by
 rw [if_pos rfl]
 exact h
def Same (H H':Hp):Prop:=∀ b o,H b=some o->H' b=some o
theorem Same.refl (H:Hp):Same H H:=fun _ _ h=>h
end L2
namespace L2
open PySem PySem.Spec PyProof.Rows
def closed (env:Env):List (Str×NameKind)->List (Str×Addr)->List (Str×Addr)
 | [],acc=>acc
 | (n,k)::r,acc=>closed env r (if (k == .free)=true then (n,(env.cells.lookup n).getD 0)::acc else acc)
theorem zc7 {env:Env}:∀ (l:List (Str×NameKind)) (acc:List (Str×Addr)),(∀ x∈l,x.2=.free->∃ c,env.cells.lookup x.1=some c) ->
  (forIn l acc fun x __s=>if (x.snd == NameKind.free)=true then do
    let c <- cellOf env x.fst
    pure (ForInStep.yield ((x.fst,c)::__s))
   else pure (ForInStep.yield __s):Sem (List (Str×Addr)))=pure (closed env l acc)
 | [],acc,_=>rfl
 | (n,k)::r,acc,h=>by
  have ih:=fun a=>zc7 (env:=env) r a fun x hx=>h x (List.mem_cons_of_mem _ hx)
  rw [List.forIn_cons]
  by_cases e:(k == NameKind.free)=true
  ·obtain ⟨c,hc⟩:=h (n,k) List.mem_cons_self (by simpa using e)
   have hc':List.lookup n env.cells=some c:=hc
   have e2:cellOf env n=pure c:=by unfold cellOf;rw [hc']
   simp only [e,if_true,e2,pure_bind]
   rw [ih]
   conv=>rhs;unfold closed
   simp only [e,if_true,hc',Option.getD_some]
  ·have e0:(k == NameKind.free)=false:=by simpa using e
   simp only [e0,Bool.false_eq_true,if_false,pure_bind]
   rw [ih]
   conv=>rhs;unfold closed
   simp only [e0,Bool.false_eq_true,if_false]
theorem zcj {scope:Scope}{env:Env} (h:∀ x∈scope.names,x.2=.free->∃ c,env.cells.lookup x.1=some c):closureFor scope env=pure (closed env scope.names []):=by
 simp only [closureFor]
 rw [zc7 scope.names [] h]
 rfl
theorem zbI {env:Env}:∀ (l:List (Str×NameKind)) (acc:List (Str×Addr)),(∀ x∈l,x.2=.free->∃ c,env.cells.lookup x.1=some c) ->
  (∀ x c,acc.lookup x=some c->env.cells.lookup x=some c)->∀ x c,(closed env l acc).lookup x=some c->env.cells.lookup x=some c
 | [],acc,_,ha=>ha
 | (n,k)::r,acc,h,ha=>by
  unfold closed
  refine zbI r _ (fun x hx=>h x (List.mem_cons_of_mem _ hx)) fun x c=>?_
  by_cases e:(k == NameKind.free)=true
  ·obtain ⟨d,hd⟩:=h (n,k) List.mem_cons_self (by simpa using e)
   have hd':List.lookup n env.cells=some d:=hd
   simp only [e,if_true,hd',Option.getD_some]
   intro q
   rw [List.lookup_cons] at q
   by_cases ex:(x == n)=true
   ·simp only [ex] at q
    have ex':x=n:=by simpa using ex
    cases q
    rw [ex'];exact hd'
   ·have ex2:(x == n)=false:=by simpa using ex
    simp only [ex2] at q
    exact ha x c q
  ·have e0:(k == NameKind.free)=false:=by simpa using e
   simp only [e0,Bool.false_eq_true,if_false]
   exact ha x c
theorem zdu {env:Env}:∀ (l:List (Str×NameKind)) (acc:List (Str×Addr)) (x:Str),(∃ c,acc.lookup x=some c)->∃ c,(closed env l acc).lookup x=some c
 | [],_,_,h=>h
 | (n,k)::r,acc,x,h=>by
  unfold closed
  refine zdu r _ x ?_
  by_cases e:(k == NameKind.free)=true
  ·simp only [e,if_true]
   rw [List.lookup_cons]
   cases (x == n) with
   | true=>exact ⟨_,rfl⟩
   | false=>exact h
  ·have e0:(k == NameKind.free)=false:=by simpa using e
   simp only [e0,Bool.false_eq_true,if_false]
   exact h
theorem zck {env:Env}:∀ (l:List (Str×NameKind)) (acc:List (Str×Addr)) (x:Str),(x,NameKind.free)∈l->∃ c,(closed env l acc).lookup x=some c
 | [],_,_,h=>nomatch h
 | (n,k)::r,acc,x,h=>by
  unfold closed
  rcases List.mem_cons.mp h with e | h
  ·cases e
   refine zdu r _ _ ?_
   have hh:(NameKind.free == NameKind.free)=true:=rfl
   simp only [hh,if_true]
   rw [List.lookup_cons]
   simp
  ·exact zck r _ x h
theorem lookup_mem {α:Type}{l:List (Str×α)}{x:Str}{v:α} (h:l.lookup x=some v):(x,v)∈l:=by
 induction l with
 | nil=>simp at h
 | cons p r ih =>
  obtain ⟨n,w⟩:=p
  rw [List.lookup_cons] at h
  by_cases e:(x == n)=true
  ·simp only [e] at h
   cases h
   have e':x=n:=by simpa using e
   rw [e'];exact List.mem_cons_self
  ·have e2:(x == n)=false:=by simpa using e
   simp only [e2] at h
   exact List.mem_cons_of_mem _ (ih h)
def zeb (env:Env) (p:Str×NameKind):Str×NameKind:=if (p.2 == NameKind.free&&env.scope.kind == .function&&env.kindOf p.1 == some .cell)=true then (p.1,.cell) else p
theorem zg0 (env:Env) (p:Str×NameKind):(zeb env p).1=p.1:=by
 unfold zeb
 by_cases c:(p.2 == NameKind.free&&env.scope.kind == .function&&env.kindOf p.1 == some .cell)=true
 ·rw [if_pos c]
 ·rw [if_neg c]
def kin (env:Env) (x:Str):Option NameKind->Option NameKind
 | some .free=>if (env.scope.kind == .function&&env.kindOf x == some .cell)=true then some .cell else some .free
 | o=>o
theorem zgZ (env:Env) (x:Str) (k:NameKind):some (zeb env (x,k)).2=kin env x (some k):=by
 unfold zeb
 by_cases c:(k == NameKind.free&&env.scope.kind == .function&&env.kindOf x == some .cell)=true
 ·rw [if_pos c]
  rw [Bool.and_eq_true,Bool.and_eq_true] at c
  have k':k=.free:=by simpa using c.1.1
  subst k'
  unfold kin
  rw [if_pos (by rw [Bool.and_eq_true];exact ⟨c.1.2,c.2⟩)]
 ·rw [if_neg c]
  cases k with
  | free =>
   have:¬(env.scope.kind == .function&&env.kindOf x == some .cell)=true:=fun z=>c (by
    have hh:(NameKind.free == NameKind.free)=true:=rfl
    rw [hh,Bool.true_and];exact z)
   unfold kin
   rw [if_neg this]
  | _=>rfl
theorem zdB (scope:Scope) (env:Env):(relabel scope env).names=scope.names.map (zeb env):=by
 show scope.names.map _=_
 refine List.map_congr_left fun p _=>?_
 obtain ⟨n,k⟩:=p
 rfl
theorem zdk (env:Env):∀ (l:List (Str×NameKind)) (x:Str),(l.map (zeb env)).lookup x=kin env x (l.lookup x)
 | [],_=>rfl
 | (n,k)::r,x=>by
  have ih:=zdk env r x
  have e0:zeb env (n,k)=(n,(zeb env (n,k)).2):=Prod.ext (zg0 env (n,k)) rfl
  rw [List.map_cons,e0,List.lookup_cons,List.lookup_cons]
  by_cases e:(x == n)=true
  ·have e':x=n:=by simpa using e
   subst e'
   simp only [beq_self_eq_true]
   exact zgZ env x k
  ·have e2:(x == n)=false:=by simpa using e
   simp only [e2]
   exact ih
theorem zcm (scope:Scope) (env:Env) (x:Str):(relabel scope env).names.lookup x=kin env x (scope.names.lookup x):=by
 rw [zdB];exact zdk env _ x
abbrev capN (X:Cx) (capt:List Nat):List Str:=capt.map fun i=>X.N.getD i Str.empty
abbrev capS (capt:List Nat) (σ:St):St:=capt.map fun i=>σ.getD i none
abbrev zbn (own:List Str):St:=own.map fun _=>none
abbrev zay (X:Cx) (scope:Scope) (own:List Str) (capt:List Nat) (C:Addr) (s₀:Shared) (H₀:Hp) (fp:List Addr):Cx :=
 { X with N:=own++capN X capt,s₀:=s₀,H₀:=H₀,env:=compEnvC scope (closed X.env scope.names []) C X.env,outer:=X.stack,stack:=X.stack,ex:=fp,fn:=fun _=>false,pn:=[],xe:=fun _ _=>False }
structure CompScope (scope:Scope) (own:List Str) (capt:List Nat) (X:Cx):Prop where
 kind:scope.kind=.function
 nocell:∀ y∈scope.names,y.2≠.cell
 names:∀ y∈scope.names,y.2=.local->scope.names.lookup y.1=some .local
 frees:∀ y∈scope.names,y.2=.free->X.env.kindOf y.1=some .cell\/X.env.kindOf y.1=some .free
 caps:∀ k∈capt,scope.names.lookup (X.N.getD k Str.empty)=some .free
theorem getD_some {α:Type}{l:List (Option α)}{k:Nat}{v:α} (h:l.getD k none=some v):l[k]?=some (some v):=by
 rw [List.getD_eq_getElem?_getD] at h
 cases e:l[k]? with
 | none=>rw [e] at h;cases h
 | some o=>rw [e] at h;simp at h;rw [h]
section
variable {X:Cx}{scope:Scope}{own:List Str}{capt:List Nat}
theorem CompScope.cells (S:CompScope scope own capt X) (ok:X.Ok):∀ x∈scope.names,x.2=.free->∃ c,X.env.cells.lookup x.1=some c:=fun x hx hf=>ok.has x.1 (S.frees x hx hf)
theorem zkP {pins:List (Addr×Obj)}{σ:St}{H₀:Hp}{s₀:Shared}{C:Addr}{fp:List Addr} (S:CompScope scope own capt X) (I:Inv X pins σ H₀ s₀) (hf:∀ b∈fp,FpOk X pins H₀ b) (hfp:∀ b∈fp,b<s₀.heap.objs.size) (hC:s₀.heap.objs.size<=C) :
  (zay X scope own capt C s₀ H₀ fp).Ok:=by
 have sub:=zbI scope.names [] (S.cells I.ok) (fun x c h=>nomatch (show (none:Option Addr)=some c from h))
 refine ⟨I.ok.mod,S.kind,I.ok.glob,I.ok.blt,hC,fun x y c h1 h2=>I.ok.inj x y c (sub x c h1) (sub y c h2),fun x hk=>?_,fun x c z=>absurd (show false=true from z) Bool.false_ne_true,I.ok.hd,I.ok.frames,.inl rfl,fun b hb=>?_,I.bs,Nat.le_trans I.ok.bsz I.sz,fun b o e hb=>?_,fun b hb z=>?_,I.stack,I.stkFree⟩
 ·have e:=zcm scope X.env x
  have hk':(relabel scope X.env).names.lookup x=some .cell\/(relabel scope X.env).names.lookup x=some .free:=hk
  rw [e] at hk'
  cases q:scope.names.lookup x with
  | none=>rw [q] at hk';rcases hk' with z | z <;> cases z
  | some k =>
   rw [q] at hk'
   cases k with
   | free=>exact zck scope.names [] x (lookup_mem q)
   | cell=>exact absurd rfl (S.nocell _ (lookup_mem q))
   | _=>rcases hk' with z | z <;> cases z
 ·obtain ⟨f0,f1,f2,f3,f4,f5⟩:=hf b hb
  exact ⟨Nat.ne_of_lt (Nat.lt_of_lt_of_le (hfp b hb) hC),fun x c e=>f4 x c (sub x c e)⟩
 ·obtain ⟨f0,f1,f2,f3,f4,f5⟩:=hf b hb
  rcases f3 with z | z
  ·exact I.ok.noex b o e z
  ·exact absurd (Nat.lt_of_lt_of_le (Heap.lt_size (I.ok.bs b o e).1) z) (Nat.lt_irrefl _)
 ·obtain ⟨f0,f1,f2,f3,f4,f5⟩:=hf b hb
  rcases List.mem_cons.mp (I.stkSub b z) with q | q
  ·exact f1 q
  ·exact f2 q
theorem zjf {pins:List (Addr×Obj)}{σ:St}{H₀:Hp}{s₀:Shared}{fp:List Addr}{h':Heap}{D C:Addr}{tk:Nat} (S:CompScope scope own capt X) (I:Inv X pins σ H₀ s₀) (hf:∀ b∈fp,FpOk X pins H₀ b) (hfp:∀ b∈fp,b<s₀.heap.objs.size)
  (hD:s₀.heap.objs.size<=D) (hC:s₀.heap.objs.size<=C) (hDC:D≠C) (old:∀ b o,s₀.heap.get? b=some o->h'.get? b=some o) (hns:h'.Ns C (fun _=>none)) (hacc:h'.get? D=some { cls:=.type "list",data:=.seq ([]:List Value).toArray 0 }) :
  Inv (zay X scope own capt C s₀ H₀ fp) [] (zbn own++capS capt σ) (upd H₀ D (.lst [])) { s₀ with heap:=h',toks:=tk }:=by
 have ok:=zkP S I hf hfp hC
 have sub:=zbI scope.names [] (S.cells I.ok) (fun x c h=>nomatch (show (none:Option Addr)=some c from h))
 have hn:H₀ D=none:=I.hok.fresh hD
 refine ⟨ok,rfl,I.bare,Un.laid old hD hn,⟨_,hns,fun i x v e1 e2 e3=>?_⟩,fun x c e=>?_,?_,fun x c e=>?_,fun p hp=>absurd (show p∈([]:List (Addr×Obj)) from hp) (by simp),I.hok.laid (o:=.lst []) old hD (show zbi X.prog X.w _ h' D (.lst []) from ⟨Nat.zero_le _,[],0,.nil,hacc⟩),(by show (zbn own++capS capt σ).length=(own++capN X capt).length;simp [zbn,capS,capN])⟩
 ·have hlen:(zbn own).length=own.length:=List.length_map ..
  by_cases hi:i<own.length
  ·rw [List.getElem?_append_left (by rw [hlen];exact hi)] at e2
   unfold zbn at e2
   rw [List.getElem?_map] at e2
   cases q:own[i]? with
   | none=>rw [q] at e2;cases e2
   | some z=>rw [q] at e2;cases e2
  ·have hi':own.length<=i:=Nat.le_of_not_lt hi
   have e1':(own++capN X capt)[i]?=some x:=e1
   rw [List.getElem?_append_right hi'] at e1'
   rw [List.getElem?_append_right (by rw [hlen];exact hi'),hlen] at e2
   unfold capN at e1'
   unfold capS at e2
   rw [List.getElem?_map] at e1' e2
   cases q:capt[i - own.length]? with
   | none=>rw [q] at e1';cases e1'
   | some k =>
    rw [q] at e1' e2
    have ex:X.N.getD k Str.empty=x:=Option.some.inj e1'
    have ev:σ.getD k none=some v:=Option.some.inj e2
    have hk:k∈capt:=List.mem_of_getElem? q
    have hv:=getD_some ev
    have hlt:k<X.N.length:=by
     rw [<- I.len]
     exact (List.getElem?_eq_some_iff.mp hv).1
    have hx:X.N[k]?=some x:=by
     rw [List.getD_eq_getElem?_getD,List.getElem?_eq_getElem hlt] at ex
     rw [List.getElem?_eq_getElem hlt]
     exact congrArg some ex
    have hfree:=S.caps k hk
    rw [ex] at hfree
    have hkind:=S.frees _ (lookup_mem hfree) rfl
    obtain ⟨m,hm,hl⟩:=I.loc
    have vis:Vis X.env.scope x:=by
     rcases hkind with z | z
     ·exact .inr (.inl z)
     ·exact .inr (.inr z)
    obtain ⟨u,r,l⟩:=hl k x v hx hv vis
    refine ⟨u,r,.inr ⟨?_,?_⟩⟩
    ·have e:=zcm scope X.env x
     rw [hfree] at e
     show (relabel scope X.env).names.lookup x=some .cell\/(relabel scope X.env).names.lookup x=some .free
     rw [e]
     unfold kin
     by_cases c:(X.env.scope.kind == .function&&X.env.kindOf x == some .cell)=true
     ·rw [if_pos c];exact .inl rfl
     ·rw [if_neg c];exact .inr rfl
    ·rcases l with ⟨z,_⟩ | ⟨_,c,hc,hcell⟩
     ·rcases hkind with y | y <;> (have y':X.env.kindOf x=_:=y;rw [z] at y';cases y')
     ·obtain ⟨d,hd⟩:=zck (env:=X.env) scope.names [] x (lookup_mem hfree)
      have:=sub x d hd
      rw [hc] at this
      cases this
      obtain ⟨o,ho,hod⟩:=hcell
      exact ⟨c,hd,o,old _ _ ho,hod⟩
 ·obtain ⟨v,o,ho,hd⟩:=I.cell x c (sub x c e)
  exact ⟨v,o,old _ _ ho,hd⟩
 ·show upd H₀ D (.lst []) C=none
  rw [zar (Ne.symm hDC)]
  exact I.hok.fresh hC
 ·obtain ⟨v,o,ho,hd⟩:=I.cell x c (sub x c e)
  show upd H₀ D (.lst []) c=none
  rw [zar (Nat.ne_of_lt (Nat.lt_of_lt_of_le (Heap.lt_size ho) hD))]
  exact I.freeC x c (sub x c e)
theorem zje {pins pins':List (Addr×Obj)}{σ σ':St}{H₀ H':Hp}{s₀ s':Shared}{fp:List Addr}{h'':Heap}{C:Addr} (I:Inv X pins σ H₀ s₀) (hf:∀ b∈fp,FpOk X pins H₀ b) (hC:s₀.heap.objs.size<=C)
  (J:Inv (zay X scope own capt C s₀ H₀ fp) pins' σ' H' s') (sb:Heap.SameBut C s'.heap h''):Inv X pins σ H' { s' with heap:=h'' }:=by
 have hCn:H' C=none:=J.free
 have neC:∀ b o,s₀.heap.get? b=some o->b≠C:=fun b o e=>Nat.ne_of_lt (Nat.lt_of_lt_of_le (Heap.lt_size e) hC)
 have u:Un (frs X.stack) fp H₀ H' s₀.heap s'.heap:=J.base
 have u2:Un (frs X.stack) fp H₀ H' s₀.heap h'':=by
  refine ⟨fun b o q n h1 h2=>(sb.2 b (neC b o q)).trans (u.keep b o q n h1 h2),fun b o q n h1 h2=>?_,u.free,fun b o q h2=>?_,u.tups,u.frzs,u.tbls⟩
  ·obtain ⟨sl,e⟩:=u.slot b o q n h1 h2
   exact ⟨sl,(sb.2 b (neC b o q)).trans e⟩
  ·obtain ⟨o',e⟩:=u.there b o q h2
   exact ⟨o',(sb.2 b (neC b o q)).trans e⟩
 have hok:HOk X.prog X.w H' h'':=fun b ob e=>by
  refine (J.hok b ob e).stay (fun c v hc q=>(sb.2 c ?_).trans q) (fun _ q=>q) fun _ _ q=>q
  rintro rfl
  rcases hc with z | z
  ·subst z;rw [hCn] at e;cases e
  ·rw [hCn] at z;cases z
 refine I.call' (s':={ s' with heap:=h'' }) J.os u2 hok J.bare fun b hb=>?_
 obtain ⟨f0,f1,f2,f3,f4,f5⟩:=hf b hb
 exact ⟨f3,f1,f4,f5⟩
end
def PTs (Y:Cx) (ifs:List Expr) (t:TT):Prop :=
 ∀ (pins:List (Addr×Obj)) (s:Shared) (σ:St) (H:Hp) (Q:Bool->Hp->Prop),Inv Y pins σ H s->t σ H Q ->
  wpAny (model Y.prog Y.w) Y.A (forIn ifs true fun c r=>if r=true then do let ok <- isTrue c Y.env (eval c Y.env);pure (ForInStep.yield ok) else pure (ForInStep.yield r)) (TP Y pins σ Q) Y.xe s
def tYes:TT:=fun _ H Q=>Q true H
theorem zjO {Y:Cx}:PTs Y [] tYes:=fun _ _ _ H _ I h=>wpAny_tests_nil ⟨H,I,h⟩
abbrev NoX:Value->Shared->Prop:=fun _ _=>False
theorem zgG {prog:Program}{w:World}{A:Around}{R:Result->Shared->Prop}{s:Shared}{elt target iter:Expr}{ifs:List Expr}{scope:Scope}{pos:Pos}{it acc:Value}{env:Env} (I:Nat->Shared->Prop)
  (turn:∀ n s,I n s->wpAny (model prog w) A (pyNext it) (fun r s₁=>match r with
   | none=>R (.ok .next) s₁
   | some v=>wpAny (model prog w) A (letOwnedTupleGo target it v) (fun _ s₂=>wpAny (model prog w) A (assign target env v) (fun _ s₃ =>
     wpAny (model prog w) A (forIn ifs true fun c r=>if r=true then do let ok <- isTrue c env (eval c env);pure (ForInStep.yield ok) else pure (ForInStep.yield r)) (fun ok s₄ =>
      if ok=true then wpAny (model prog w) A (eval elt env) (fun x s₅=>wpAny (model prog w) A (call (.builtin "list.append") [acc,x]) (fun _ s₆=>∃ m,m<n/\I m s₆) NoX s₅) NoX s₄
      else ∃ m,m<n/\I m s₄) NoX s₃) NoX s₂) NoX s₁) NoX s) (n:Nat) (h:I n s) :
  codeAny (model prog w) A (.compLoop (.ListComp elt [⟨target,iter,ifs,0⟩] scope pos) 0 it acc env) R s:=by
 refine codeAny_loop rfl I (fun n s hI=>?_) n h
 show wpAny _ A ((compTurn (.ListComp elt [⟨target,iter,ifs,0⟩] scope pos) 0 it acc env).onRaise (fun x=>do noteFrame x env;theTreesLotGoes x)) _ _ s
 refine wpAny_noted (wpAny_mono (E:=NoX) ?_ (fun _ _ q=>q) fun _ _ z=>False.elim z)
 rw [compTurn_list]
 refine wpAny_bind (wpAny_standAt (wpAny_bind (thn (turn n s hI) fun r s₁ h₁=>?_)))
 cases r with
 | none=>exact wpAny_pure h₁
 | some v =>
  refine wpAny_bind (thn h₁ fun _ s₂ h₂=>wpAny_bind (thn h₂ fun _ s₃ h₃=>wpAny_bind (thn h₃ fun ok s₄ h₄=>?_)))
  cases ok with
  | false=>exact wpAny_pure ⟨rfl,h₄⟩
  | true =>
   refine wpAny_bind (wpAny_bind (thn h₄ fun x s₅ h₅=>wpAny_bind (thn h₅ fun _ s₆ h₆=>?_)))
   exact wpAny_pure (wpAny_pure ⟨rfl,h₆⟩)
def Wk:St->St->Prop
 | [],[]=>True
 | none::r,_::r'=>Wk r r'
 | some v::r,o::r'=>o=some v/\Wk r r'
 | _,_=>False
theorem Wk.weak:∀ {σ σ':St},Wk σ σ'->σ.length=σ'.length/\∀ (i:Nat) v,σ[i]?=some (some v)->σ'[i]?=some (some v)
 | [],[],_=>⟨rfl,fun _ _ h=>by simp at h⟩
 | none::r,o::r',h=>by
  obtain ⟨a,b⟩:=Wk.weak (σ:=r) (σ':=r') h
  refine ⟨by simp [a],fun i v e=>?_⟩
  cases i with
  | zero=>simp at e
  | succ i=>simpa using b i v (by simpa using e)
 | some w::r,o::r',h=>by
  obtain ⟨h0,h1⟩:o=some w/\Wk r r':=h
  obtain ⟨a,b⟩:=Wk.weak h1
  refine ⟨by simp [a],fun i v e=>?_⟩
  cases i with
  | zero=>rw [h0];simpa using e
  | succ i=>simpa using b i v (by simpa using e)
 | none::_,[],h=>False.elim h
 | some _::_,[],h=>False.elim h
 | [],_::_,h=>False.elim h
def zkU (own:List Str) (capt:List Nat) (g:TG) (tt:TT) (te:TE) (σ:St) (J:It) (H1:Hp) (D:Addr) (Q:VK):Prop:=∃ W:Nat->Nat->Hp->Prop,(∃ m,W 0 m (upd H1 D (.lst [])))/\∀ i m H2,W i m H2 ->
 (J.stop i H2/\Q (.ref D) H2)\/(J.go i H2/\∃ (N:V->Hp->Prop) (N':Hp->Prop),(∀ v H6,N v H6->∃ ys,H6 D=some (.lst ys)/\ys.length<sizeLine/\∃ m',m'<m/\W (i+1) m' (upd H6 D (.lst (ys++[v]))))/\(∀ H5,N' H5->∃ m',m'<m/\W (i+1) m' H5) /\
  ∀ x H3,J.yld i H2 x H3->g x (zbn own++capS capt σ) H3 fun σ4 H4=>Wk (zbn own++capS capt σ) σ4/\tt σ4 H4 fun b H5=>if b=true then te σ4 H5 N else N' H5)
def tComp (own:List Str) (capt:List Nat) (wi:TI) (g:TG) (tt:TT) (te:TE):TE:=fun σ H Q=>wi σ H fun J H1=>∀ D,H1 D=none->zkU own capt g tt te σ J H1 D Q
section
variable {X:Cx}{scope:Scope}{own:List Str}{capt:List Nat}{elt tg iter:Expr}{ifs:List Expr}{pos:Pos}{wi:TI}{g:TG}{tt:TT}{te:TE}
theorem zjd (hc:X.calm=true) (S:CompScope scope own capt X)
  (hg:∀ C s₀ H₀ fp,PG (zay X scope own capt C s₀ H₀ fp) tg g) (ht:∀ C s₀ H₀ fp,PTs (zay X scope own capt C s₀ H₀ fp) ifs tt) (he:∀ C s₀ H₀ fp,PE (zay X scope own capt C s₀ H₀ fp) elt te)
  {pins:List (Addr×Obj)} {σ:St} {Q:VK} {itv:Value} {s2:Shared} {E:Value->Shared->Prop} {RR:Value->Addr->Result->Shared->Prop}
  (h2:PIE X pins σ tg (fun J H1=>∀ D,H1 D=none->zkU own capt g tt te σ J H1 D Q) itv s2)
  (hR:∀ D C s' H',(∃ m,s'.heap.Ns C m)->(∀ h'',Heap.SameBut C s'.heap h''->Inv X pins σ H' { s' with heap:=h'' })->H' C=none->FpOk X pins H' C->Q (.ref D) H'->RR (.ref D) C (.ok .next) s') :
  wpAny (model X.prog X.w) X.A (newList []) (fun acc s₃=>wpAny (model X.prog X.w) X.A (newFunctionEnv scope X.env.globals (closed X.env scope.names []) [] X.env.qual none .none (some X.env)) (fun cenv s₄ =>
   codeAny (model X.prog X.w) X.A (.compStart (.ListComp elt [⟨tg,iter,ifs,0⟩] scope pos) 0 itv acc { cenv with scope:=relabel scope X.env }) (RR acc cenv.locals) s₄) E s₃) E s2:=by
 obtain ⟨it,fp,tn,J,H2,e,I2,T,st2,f2,rd⟩:=h2
 subst e
 have hfp:∀ b∈fp,b<s2.heap.objs.size:=fun b hb=>by
  obtain ⟨o,e,_⟩:=T.obj 0 _ st2 b hb
  exact Heap.lt_size e
 refine wpAny_newObj_type (wpAny_newFunctionEnv S.nocell (by intro y hy;simp at hy) (fun h₁ hns₁ hsb₁=>?_) S.kind)
 dsimp only at hns₁ hsb₁ ⊢
 generalize hH3:s2.heap.push { cls:=.type "list",dict:=none,data:=.seq ([]:List Value).toArray }=H3 at hns₁ hsb₁ ⊢
 have hC:H3.objs.size=s2.heap.objs.size+1:=by rw [<- hH3,Heap.size_push]
 have hDC:s2.heap.objs.size≠H3.objs.size:=by rw [hC];exact Nat.ne_of_lt (Nat.lt_succ_self _)
 have hCle:s2.heap.objs.size<=H3.objs.size:=by rw [hC];exact Nat.le_succ _
 have neC:∀ b o,s2.heap.get? b=some o->b≠H3.objs.size:=fun b o e=>Nat.ne_of_lt (Nat.lt_of_lt_of_le (Heap.lt_size e) hCle)
 have old:∀ b o,s2.heap.get? b=some o->h₁.get? b=some o:=fun b o e=>hsb₁.extBut b o (neC b o e) (Heap.get?_push_of_some _ (hH3▸Heap.get?_push_of_some _ e))
 have hacc:h₁.get? s2.heap.objs.size=some { cls:=.type "list",data:=.seq ([]:List Value).toArray 0 }:=hsb₁.extBut _ _ hDC (Heap.get?_push_of_some _ (hH3▸Heap.get?_push_size _ rfl))
 have hnD:H2 s2.heap.objs.size=none:=I2.hok.fresh (Nat.le_refl _)
 obtain ⟨W,⟨m0,w0⟩,turn⟩:=rd _ hnD
 have hLC:H3.objs.size≠X.env.locals:=fun z=>by
  have h:=I2.lt
  rw [<- z] at h
  exact absurd h (Nat.not_lt.mpr hCle)
 have J0:∀ tk,Inv (zay X scope own capt H3.objs.size s2 H2 fp) [] (zbn own++capS capt σ) (upd H2 s2.heap.objs.size (.lst [])) { s2 with heap:=h₁,toks:=tk }:=fun tk =>
  zjf (tk:=tk) S I2 f2 hfp (Nat.le_refl _) hCle hDC old hns₁ hacc
 have fr0:∀ b∈fp,upd H2 s2.heap.objs.size (.lst []) b=none:=fun b hb=>by
  rw [zar (Nat.ne_of_lt (hfp b hb))];exact (f2 b hb).1
 have stat:∀ {H':Hp},(∀ b∈fp,H' b=none)->∀ b∈fp,FpOk (zay X scope own capt H3.objs.size s2 H2 fp) [] H' b:=fun hn b hb=>by
  obtain ⟨g0,g1,g2,g3,g4,g5⟩:=f2 b hb
  have sub:=zbI scope.names [] (S.cells I2.ok) (fun x c h=>nomatch (show (none:Option Addr)=some c from h))
  refine ⟨hn b hb,Nat.ne_of_lt (Nat.lt_of_lt_of_le (hfp b hb) hCle),fun z=>?_,.inl hb,fun x c e=>g4 x c (sub x c e),fun p hp=>absurd (show p∈([]:List (Addr×Obj)) from hp) (by simp)⟩
  rcases List.mem_cons.mp (I2.stkSub b z) with q | q
  ·exact g1 q
  ·exact g2 q
 have loop:∀ s₃:Shared,(∃ tk,s₃={ s2 with heap:=h₁,toks:=tk }) ->
   codeAny (model X.prog X.w) X.A (.compLoop (.ListComp elt [⟨tg,iter,ifs,0⟩] scope pos) 0 (.ref it) (.ref s2.heap.objs.size) (compEnvC scope (closed X.env scope.names []) H3.objs.size X.env)) (RR (.ref s2.heap.objs.size) H3.objs.size) s₃:=by
  rintro s₃ ⟨tk,rfl⟩
  refine zgG (fun n s'=>∃ i H',Inv (zay X scope own capt H3.objs.size s2 H2 fp) [] (zbn own++capS capt σ) H' s'/\tn i s'.heap/\(∀ b∈fp,H' b=none)/\W i n H') ?_ m0
   ⟨0,_,J0 tk,T.keep _ _ _ st2 fun b hb o e=>old b o e,fr0,w0⟩
  rintro n s4 ⟨i,H4,I4,st4,fr4,w4⟩
  rcases turn i n H4 w4 with ⟨stop,qn⟩ | ⟨go,N,N',hN,hN',step⟩
  ·refine thn (T.done (zay X scope own capt H3.objs.size s2 H2 fp) rfl rfl rfl hc i [] s4 _ H4 NoX I4 (stat fr4) st4 stop) fun r s5 ⟨hr,I5⟩=>?_
   subst hr
   obtain ⟨m,hn,_⟩:=I5.loc
   exact hR _ _ s5 H4 ⟨m,hn⟩ (fun h'' sb=>zje I2 f2 hCle I5 sb) I5.free (I2.fpOk hCle I5.free) qn
  ·refine thn (T.item (zay X scope own capt H3.objs.size s2 H2 fp) rfl rfl rfl hc i [] s4 _ H4 NoX I4 (stat fr4) st4 go) fun r s5 ⟨u,hr,h5⟩=>?_
   subst hr
   refine thn h5 fun _ s6 ⟨x,H6,I6,r6,y6,st6,fr6⟩=>?_
   have I6':=I6.pinned (stat fr6) (T.obj _ _ st6)
   refine thn (hg _ _ _ _ _ s6 _ H6 x u _ I6' r6 (step x H6 y6)) fun _ s7 ⟨σ7,H7,I7,wk,q7⟩=>?_
   obtain ⟨wl,wv⟩:=wk.weak
   have again:∀ {s8:Shared} {H8:Hp} {m':Nat},Inv (zay X scope own capt H3.objs.size s2 H2 fp) ([]++zeg fp s6.heap) σ7 H8 s8->m'<n->W (i+1) m' H8 ->
     ∃ m,m<n/\∃ i H',Inv (zay X scope own capt H3.objs.size s2 H2 fp) [] (zbn own++capS capt σ) H' s8/\tn i s8.heap/\(∀ b∈fp,H' b=none)/\W i m H':=fun {s8 H8 m'} I8 hm w8=>by
    refine ⟨m',hm,i+1,H8,(I8.unpinned).weak wl wv,T.keep _ _ _ st6 fun b hb o e=>(I8.pin (b,o) (List.mem_append_right _ (List.mem_append_right _ (zbF hb e)))).1,fun b hb=>?_,w8⟩
    obtain ⟨o,e,d⟩:=T.obj _ _ st6 b hb
    exact (I8.pin (b,o) (List.mem_append_right _ (List.mem_append_right _ (zbF hb e)))).2.1
   refine thn (ht _ _ _ _ _ s7 σ7 H7 _ I7 q7) fun ok s8 ⟨H8,I8,q8⟩=>?_
   cases ok with
   | false =>
    obtain ⟨m',hm,w8⟩:=hN' H8 (by simpa using q8)
    exact again I8 hm w8
   | true =>
    refine thn (he _ _ _ _ _ s8 σ7 H8 N I8 (by simpa using q8)) fun y s9 ⟨v,H9,I9,r9,q9⟩=>?_
    obtain ⟨ys,hD,hl,m',hm,w9⟩:=hN v H9 q9
    refine thn (zeq (X:=zay X scope own capt H3.objs.size s2 H2 fp) _ s9 σ7 H9 (.ref s2.heap.objs.size) [v] _ [y] (fun _ H'=>H'=upd H9 s2.heap.objs.size (.lst (ys++[v]))) I9 rfl (.cons r9 .nil) ⟨_,ys,v,rfl,rfl,hD,hl,rfl⟩) fun _ s10 ⟨_,H10,I10,_,q10⟩=>?_
    subst q10
    exact again I10 hm w9
 exact codeAny_compStart_list (loop _ ⟨_,rfl⟩) (T.self X.A 0 _ _ _ (T.keep _ _ _ st2 fun b hb o e=>old b o e) (loop _ ⟨_,rfl⟩))
theorem ziJ (hc:X.calm=true) (S:CompScope scope own capt X) (hi:PI X tg iter wi)
  (hg:∀ C s₀ H₀ fp,PG (zay X scope own capt C s₀ H₀ fp) tg g) (ht:∀ C s₀ H₀ fp,PTs (zay X scope own capt C s₀ H₀ fp) ifs tt) (he:∀ C s₀ H₀ fp,PE (zay X scope own capt C s₀ H₀ fp) elt te)
  (hs:∀ x,foldedSetIterable iter X.env x=pure x:=by intro _;rfl):PE X (.ListComp elt [⟨tg,iter,ifs,0⟩] scope pos) (tComp own capt wi g tt te):=by
 intro pins s σ H Q I h
 rw [eval_ListComp]
 refine wpAny_comprehension_free (use:=none) rfl hs (zcj (S.cells I.ok)) S.kind S.names (thn (hi pins s σ H _ I h) fun v s1 h1=>thn h1 fun itv s2 h2=>?_)
 refine zjd (RR:=fun acc C=>compPost (model X.prog X.w) X.A X.xe none (EP X pins σ Q) acc C) hc S hg ht he h2 fun D C s' H' hn J _ _ q=>?_
 obtain ⟨m,hn⟩:=hn
 exact ⟨m,hn,fun h'' sb=>⟨.ref D,H',J h'' sb,rfl,q⟩⟩
end
theorem zhX {J:It}{n:Nat}{own:List Str}{capt:List Nat}{g:TG}{tt:TT}{te:TE}{σ:St}{H1:Hp}{D:Addr}{Q:VK} (Pv:Nat->List V->Hp->Prop) (h0:Pv 0 [] (upd H1 D (.lst [])))
  (turn:∀ i ys H2,i<n->H2 D=some (.lst ys)->Pv i ys H2->J.go i H2/\∀ x H3,J.yld i H2 x H3->g x (zbn own++capS capt σ) H3 fun σ4 H4=>Wk (zbn own++capS capt σ) σ4/\tt σ4 H4 fun b H5 =>
   if b=true then te σ4 H5 (fun v H6=>∃ zs,H6 D=some (.lst zs)/\zs.length<sizeLine/\Pv (i+1) (zs++[v]) (upd H6 D (.lst (zs++[v])))) else ∃ zs,H5 D=some (.lst zs)/\Pv (i+1) zs H5)
  (stop:∀ ys H2,H2 D=some (.lst ys)->Pv n ys H2->J.stop n H2/\Q (.ref D) H2) :
  zkU own capt g tt te σ J H1 D Q:=by
 refine ⟨fun i m H=>m=n - i/\i<=n/\∃ ys,H D=some (.lst ys)/\Pv i ys H,⟨n,rfl,Nat.zero_le _,[],zax,h0⟩,?_⟩
 rintro i m H2 ⟨rfl,hi,ys,hD,p⟩
 by_cases hlt:i<n
 ·obtain ⟨go,st⟩:=turn i ys H2 hlt hD p
  refine .inr ⟨go,_,_,?_,?_,st⟩
  ·rintro v H6 ⟨zs,e,l,q⟩
   exact ⟨zs,e,l,n - (i+1),by omega,rfl,hlt,_,zax,q⟩
  ·rintro H5 ⟨zs,e,q⟩
   exact ⟨n - (i+1),by omega,rfl,hlt,zs,e,q⟩
 ·have e:i=n:=by omega
  subst e
  exact .inl (stop ys H2 hD p)
end L2
namespace L2
open PySem PySem.Spec PyProof.Rows
def ze0 (scope outer:Scope) (N:List Str) (capt:List Nat):Bool :=
 scope.kind == .function&&scope.names.all (fun y=>!(y.2 == .cell))&&scope.names.all (fun y=>!(y.2 == .local)||scope.names.lookup y.1 == some .local) &&
 scope.names.all (fun y=>!(y.2 == .free)||(outer.names.lookup y.1 == some .cell||outer.names.lookup y.1 == some .free))&&capt.all (fun k=>scope.names.lookup (N.getD k Str.empty) == some .free)
theorem CompScope.of {X:Cx}{scope:Scope}{own:List Str}{capt:List Nat} (h:ze0 scope X.env.scope X.N capt=true):CompScope scope own capt X:=by
 unfold ze0 at h
 simp only [Bool.and_eq_true] at h
 obtain ⟨⟨⟨⟨h1,h2⟩,h3⟩,h4⟩,h5⟩:=h
 rw [List.all_eq_true] at h2 h3 h4 h5
 refine ⟨by simpa using h1,fun y hy=>?_,fun y hy hl=>?_,fun y hy hf=>?_,fun k hk=>?_⟩
 ·simpa using h2 y hy
 ·have:=h3 y hy
  rw [hl] at this
  simpa using this
 ·have:=h4 y hy
  rw [hf] at this
  show X.env.scope.names.lookup y.1=some .cell\/X.env.scope.names.lookup y.1=some .free
  simpa using this
 ·simpa using h5 k hk
end L2
namespace L2
open PySem PySem.Spec PyProof.Rows
section
variable {X:Cx}
theorem zlW:OpR X (compareOp .Is) (fun x y H Q=>∃ a b,x=.bl a/\y=.bl b/\Q (.bl (a == b)) H):=by
 intro pins s σ H x y v u Q I rx ry h
 obtain ⟨a,b,rfl,rfl,q⟩:=h
 cases rx
 cases ry
 exact is_bool ⟨.bl (a == b),H,I,rfl,q⟩
theorem zha:OpR X (compareOp .IsNot) (fun x y H Q=>∃ a b,x=.bl a/\y=.bl b/\Q (.bl (a != b)) H):=by
 intro pins s σ H x y v u Q I rx ry h
 obtain ⟨a,b,rfl,rfl,q⟩:=h
 cases rx
 cases ry
 exact isnot_bool ⟨.bl (a != b),H,I,rfl,q⟩
def kitB (t T:String):Option Bool:=if (Value.type t == Value.type T)=true then some true else if PySem.W.kitMeta T=true then (fastBuiltinMro t).map (·.contains (.type T)) else none
theorem zjp (K:PySem.W.Frag) (t T:String):PySem.W.kitOne K (.type t) (.type T)=kitB t T:=rfl
inductive Ty (H:Hp):V->String->Prop where
 | non:Ty H .non "NoneType"
 | bl (x:Bool):Ty H (.bl x) "bool"
 | int (i:Int):Ty H (.int i) "int"
 | str (x:Str):Ty H (.str x) "str"
 | lst {a:Addr} {xs:List V} (e:H a=some (.lst xs)):Ty H (.ref a) "list"
 | tup {a:Addr} {xs:List V} (e:H a=some (.tup xs)):Ty H (.ref a) "tuple"
 | dK {a:Addr} {kvs:List (Key×V)} (e:H a=some (.dK kvs)):Ty H (.ref a) "dict"
theorem Ty.of {K:PySem.W.Frag}{H:Hp}{v:V}{t:String} (h:Ty H v t):TyOf K H v (.type t):=by
 cases h with
 | non=>exact .non
 | bl x=>exact .bl x
 | int i=>exact .int i
 | str x=>exact .str x
 | lst e=>exact .lst e
 | tup e=>exact .tup e
 | dK e=>exact .dK e
theorem zjg:bootBuiltins "isinstance" = some (.builtin "isinstance"):=by decide +kernel
theorem boot_int:bootBuiltins "int" = some (.type "int"):=by decide +kernel
theorem zgI:bootBuiltins "bool" = some (.type "bool"):=by decide +kernel
theorem zda:bootBuiltins "tuple" = some (.type "tuple"):=by decide +kernel
theorem ze8:bootBuiltins "str" = some (.type "str"):=by decide +kernel
theorem zdb:bootBuiltins "all" = some (.builtin "all"):=by decide +kernel
theorem ze9:bootBuiltins "min" = some (.builtin "min"):=by decide +kernel
theorem zh4:bootBuiltins "max" = some (.builtin "max"):=by decide +kernel
theorem zaO:bootBuiltins "len" = some (.builtin "len"):=by decide +kernel
theorem ze_:∀ {bs:List Bool}{us:List Value},Vals (bs.map V.bl) us->LSm.BoolsAre us bs
 | [],_,h=>by cases h;exact .nil
 | b::bs,_,h=>by
  cases h with
  | cons r t =>
   cases (show _=Value.bool b from r)
   exact .cons b (ze_ t)
theorem zc8 (hc:X.calm=true):zcl X (.builtin "all") (fun xs H Q=>∃ (a:Addr) (bs:List Bool),xs=[.ref a]/\SqL X.K H a (bs.map V.bl)/\Q (.bl (bs.all id)) H):=by
 intro pins s σ H xs us Q I r h
 obtain ⟨a,bs,rfl,hq,q⟩:=h
 cases r with
 | cons r1 r2 =>
  cases r2
  cases (show _=Value.ref a from r1)
  obtain ⟨its,rv,p,hz⟩:=I.list hq
  have hb:=ze_ rv
  have hl:s.heap.IsList a its.toArray:=p.isList
  have hlt:a<s.heap.objs.size:=by obtain ⟨_,e,_⟩:=hl;exact Heap.lt_size e
  refine call_all_walk (wpAny_pyIter_list hl ?_)
  refine ⟨s.heap.objs.size,[s.heap.objs.size,a],[s.heap.objs.size],its.toArray.size,_,_,fun i=>(bs[i]?).getD true,rfl,Walks.list (A:=X.A.in1) (I.ok.hd hc) _ a (Nat.ne_of_lt hlt) its.toArray,
   ⟨⟨_,Heap.get?_push_size _ rfl,rfl,rfl⟩,hl.push _⟩,fun i v s' Q' E' hP hQ=>?_,fun h' tk hk=>?_⟩
  ·obtain ⟨b,e,rfl⟩:=hb.get i v (by simpa using hP)
   simp only [e,Option.getD_some] at hQ
   exact wpAny_truthy_bool hQ
  ·have e:((List.range its.toArray.size).all fun i=>(bs[i]?).getD true)=bs.all id:=by
    rw [List.size_toArray,hb.length];exact LSm.range_all bs
   rw [e]
   exact ⟨.bl _,H,I.kept (LSm.kept_iter hk),rfl,q⟩
mutual
inductive Shows (H:Hp):V->PyData->Prop
 | non:Shows H .non .none
 | bl (b:Bool):Shows H (.bl b) (.bool b)
 | int (i:Int):Shows H (.int i) (.int i)
 | str (x:Str):Shows H (.str x) (.str x)
 | lst {a:Addr} {xs:List V} {ds:List PyData}:H a=some (.lst xs)->ShowsAll H xs ds->Shows H (.ref a) (.list ds)
 | tup {a:Addr} {xs:List V} {ds:List PyData}:H a=some (.tup xs)->ShowsAll H xs ds->Shows H (.ref a) (.tuple ds)
inductive ShowsAll (H:Hp):List V->List PyData->Prop
 | nil:ShowsAll H [] []
 | cons {v:V} {vs:List V} {d:PyData} {ds:List PyData}:Shows H v d->ShowsAll H vs ds->ShowsAll H (v::vs) (d::ds)
end
section
variable {pins:List (Addr×Obj)}{σ:St}{H:Hp}{s:Shared}
mutual
theorem Shows.reads (I:Inv X pins σ H s):∀ {v:V}{d:PyData}{u:Value},Shows H v d->RelV v u->∃ as,Reads s.heap u d as
 | _,_,_,.non,r=>by cases r;exact ⟨_,.none⟩
 | _,_,_,.bl b,r=>by cases r;exact ⟨_,.bool b⟩
 | _,_,_,.int i,r=>by obtain ⟨t,rfl⟩:=r;exact ⟨_,.int i t⟩
 | _,_,_,.str x,r=>by obtain ⟨t,rfl⟩:=r;exact ⟨_,.str x t⟩
 | _,_,_,.lst e h,r=>by
  cases r
  obtain ⟨_,its,n,rv,e1⟩:=I.hok _ _ e
  obtain ⟨as,q⟩:=ShowsAll.reads I h rv
  exact ⟨_,.list e1 rfl rfl (by simpa using q)⟩
 | _,_,_,.tup e h,r=>by
  cases r
  obtain ⟨_,its,rv,o,e1,e2,⟨n,e3⟩,_⟩:=I.hok _ _ e
  obtain ⟨as,q⟩:=ShowsAll.reads I h rv
  exact ⟨_,.tuple e1 e2 e3 (by simpa using q)⟩
theorem ShowsAll.reads (I:Inv X pins σ H s):∀ {vs:List V}{ds:List PyData}{us:List Value},ShowsAll H vs ds->Vals vs us->∃ as,ReadsAll s.heap us ds as
 | _,_,_,.nil,r=>by cases r;exact ⟨_,.nil⟩
 | _,_,_,.cons h t,r=>by
  cases r with
  | cons r rr =>
   obtain ⟨as,q⟩:=Shows.reads I h r
   obtain ⟨bs,q'⟩:=ShowsAll.reads I t rr
   exact ⟨_,.cons q q'⟩
end
end
theorem Inv.bigM {pins:List (Addr×Obj)}{σ:St}{H:Hp}{s:Shared} (I:Inv X pins σ H s):sysModules<s.heap.objs.size :=
 Nat.lt_trans (by decide) (I.mod.glob.keeps I.bk).lt
def zk8:TE:=fun _ H Q=>∀ p,H p=none->Q (.ref p) (upd H p (.dK []))
theorem ziL {pos:Pos}:PE X (.Dict [] [] pos) zk8:=by
 intro pins s σ H Q I h
 refine wpAny_Dict_empty ⟨.ref s.heap.objs.size,_,I.laid (a:=s.heap.objs.size) (o:=.dK []) (t':=s.toks) (fun _ _ q=>Heap.get?_push_of_some _ q) (Nat.le_refl _) ?_,rfl,h _ (I.hok.fresh (Nat.le_refl _))⟩
 exact ⟨Nat.zero_le _,beq_eq_false_iff_ne.mpr (Ne.symm (Nat.ne_of_lt I.bigM)),[],.nil,Heap.DictOf.new s.heap⟩
def zo6 (i j:Int):Prop:=0<j/\j<2 ^ 128
theorem zdE:OpR X (binaryOp .FloorDiv) (rI zo6 fun i j=>.int (i / j)):=opI fun i j _ _ _ _ _ hc q=>by
 have h1:(0:Int)<j:=hc.1
 have h2:j<2 ^ 128:=hc.2
 refine floordiv_int (by omega) (by rw [Int.fdiv_eq_ediv_of_nonneg i (by omega)];exact q) (.inl (PyProof.noPylong_of_log2 ?_))
 have h3:j.natAbs<2 ^ 128:=by omega
 have h4:j.natAbs.log2<128:=(Nat.log2_lt (by omega)).mpr h3
 omega
end
end L2
namespace L2
open PySem PySem.Spec PyProof.Rows
def Pl (X:Cx) (es:List Expr):Prop:=∀ pos,(backTo pos (starEach es X.env)).any (·.1)=false
def Hd (X:Cx):List Expr->Prop
 | []=>True
 | e::r=>starEach (e::r) X.env=(false,eval e X.env)::starEach r X.env/\Pl X r
structure PB (X:Cx) (es:List Expr) (t:TA):Prop where
 pa:PA X es t
 pl:Pl X es
 hd:Hd X es
section
variable {X:Cx}{es:List Expr}{t:TA}{te:TE}
theorem zcr:PB X [] tNil:=⟨zf5,fun _=>rfl,trivial⟩
theorem za6 {e:Expr} (h:PE X e te) (hr:PB X es t) (hs:starEach (e::es) X.env=(false,eval e X.env)::starEach es X.env):PB X (e::es) (zcI te t) :=
 ⟨zcX h hr.pa hs,fun pos=>by
  rw [hs]
  have:(backTo pos ((false,eval e X.env)::starEach es X.env)).any (·.1)=(false||(backTo pos (starEach es X.env)).any (·.1)):=rfl
  rw [this,hr.pl pos];rfl,hs,hr.pl⟩
theorem pb_i {i:Int}{j pos} (hr:PB X es t):PB X (.Constant (.int i) j pos::es) (zcI (tC (.int i)) t):=za6 zaw hr rfl
theorem pb_v (i:Nat) {x:Str}{pos:Pos} (hr:PB X es t) (hN:X.N[i]?=some x:=by rfl) (hv:Vis X.env.scope x:=by first | exact Or.inl rfl | exact Or.inr (Or.inl rfl) | exact Or.inr (Or.inr rfl)) (hd:(x == ("__debug__":Str))=false:=by decide)
  (hcd:(x == ("__classdict__":Str))=false:=by decide):PB X (.Name x pos::es) (zcI (tVar i) t):=za6 (zcW hN hv hd hcd) hr rfl
theorem zj6 {x:Str}{pos:Pos} (h:PE X (.Name x pos) te) (hr:PB X es t):PB X (.Name x pos::es) (zcI te t):=za6 h hr rfl
theorem zjn {a b c d} (h:PE X (.BinOp a b c d) te) (hr:PB X es t):PB X (.BinOp a b c d::es) (zcI te t):=za6 h hr rfl
theorem zlP {a b c d} (h:PE X (.Compare a b c d) te) (hr:PB X es t):PB X (.Compare a b c d::es) (zcI te t):=za6 h hr rfl
variable {e:Expr}{x:Str}{p pos:Pos}
theorem zjY {x1} (h:PB X es t):PE X (.Tuple es x1 pos) (tTup t):=zlF h.pa
theorem zg5 (h:PB X es t):PE X (.List es pos) (tLst t):=zlL h.pa
theorem zj1 {id:String}{r:List V->Hp->VK->Prop} (hc:zcl X (.builtin id) r) (hm:X.mg x=none) (hv:bootBuiltins x=some (.builtin id)) (h:PB X (e::es) t) (hg:Gl X x:=by rfl) (hn:x ≠ "__name__":=by decide) (hdb:(x == ("__debug__":Str))=false:=by decide) :
  PE X (.Call (.Name x p) (e::es) [] pos) (tCB r t):=ziN hc hg hm hv h.pa hn hdb h.hd.1 (h.hd.2 pos)
theorem zlN {T:String}{r:List V->Hp->VK->Prop} (hc:zcl X (.type T) r) (hm:X.mg x=none) (hv:bootBuiltins x=some (.type T)) (h:PB X (e::es) t) (hg:Gl X x:=by rfl) (hn:x ≠ "__name__":=by decide) (hdb:(x == ("__debug__":Str))=false:=by decide) :
  PE X (.Call (.Name x p) (e::es) [] pos) (tCB r t):=zg7 hc hg hm hv h.pa hn hdb h.hd.1 (h.hd.2 pos)
end
end L2
namespace Bd
open PySem L2
structure Def (K:PySem.W.Frag) (mg:Str->Option Value) (x:Str) (st:Stmt) (ps:List Str) (f:Addr) (fd:FuncData):Prop where
 F:Fun K x x st f fd
 b:Binds K fd ps []
 m:mg x=some (.ref f)
section
variable {X:Cx}{k:Nat}{f:Addr}{fd:FuncData}{ps:List Str}{sp:Sp}{x:Str}{p pos:Pos}{e:Expr}{es:List Expr}{t:TA}{st:Stmt}
theorem zlM (D:Def X.K X.mg x st ps f fd) (G:FnOk X.prog X.w X.K X.mg X.base CX0 k f fd ps sp) (hr:Room k X.A) (h:PB X (e::es) t) (hg:Gl X x:=by rfl)
  (hdb:(x == ("__debug__":Str))=false:=by decide):PE X (.Call (.Name x p) (e::es) [] pos) (zk9 sp [] E0 t):=zj0 G hr hg D.m D.F.kp D.b .nil zoo h.pa hdb h.hd.1 (h.hd.2 pos)
theorem zok {T:String}{p:Pos} (hm:X.mg x=none) (hv:bootBuiltins x=some (.type T)) (hg:Gl X x:=by rfl) (hn:x ≠ "__name__":=by decide) (hd:(x == ("__debug__":Str))=false:=by decide):PE X (.Name x p) (tC (.ty T)) :=
 zj2 hg hm hv rfl hn hd
end
theorem iteP {c A B:Prop}[Decidable c] (hc:c) (h:A):if decide c=true then A else B:=by
 rw [decide_eq_true hc]
 exact iteT h
theorem iteN {c A B:Prop}[Decidable c] (hc:¬c) (h:B):if decide c=true then A else B:=by
 rw [decide_eq_false hc]
 exact iteF h
theorem zmu {c A B:Prop}[Decidable c] (h1:c->A) (h2:¬c->B):if decide c=true then A else B:=by
 by_cases h:c
 ·exact iteP h (h1 h)
 ·exact iteN h (h2 h)
theorem zfM {α:Type}{xs:List α}{k:Int}{v:α} (h0:0<=k) (h:xs[k.toNat]?=some v):atI xs k=some v:=by
 obtain ⟨n,rfl⟩:=Int.eq_ofNat_of_zero_le h0
 exact zkS h
theorem zbO (k:Nat):(0:Int)<2 ^ k:=by
 have:(0:Nat)<2 ^ k:=Nat.two_pow_pos k
 have e:((2 ^ k:Nat):Int)=(2:Int) ^ k:=by simp
 omega
theorem zcU {k:Nat} (h:k<=64):(2:Int) ^ k<2 ^ 128:=by
 have:(2:Nat) ^ k<2 ^ 128:=Nat.pow_lt_pow_right (by decide) (by omega)
 have e:((2 ^ k:Nat):Int)=(2:Int) ^ k:=by simp
 omega
theorem zdC {k:Nat} (h:k<=64):(2:Int) ^ k<=2 ^ 64:=by
 have:(2:Nat) ^ k<=2 ^ 64:=Nat.pow_le_pow_right (by decide) (by omega)
 have e:((2 ^ k:Nat):Int)=(2:Int) ^ k:=by simp
 omega
theorem zir {H:Hp}{p:Addr}{o:HO} (h:H p=none):Same H (upd H p o):=fun b u e=>by
 rw [zar (zaE e h)];exact e
end Bd
namespace L2
open PySem PySem.Spec PyProof.Rows
def HAND:PyData:=.dict [(.none,.none)]
def SCR (ns:List Int):PyData:=.dict [(.none,.list (ns.map .int))]
def zgn (H:Hp) (hd:Addr) (n:Int):Prop:=∃ d m t:Int,H hd=some (.lst [.int d,.int m,.int t])/\0<=m/\m<2 ^ 62/\0<=t/\t<=n
def StT (K:PySem.W.Frag) (a:Addr) (xs:List V):Prop :=
 ∃ (o:Obj) (its:Array Value) (n:Nat),K.lookup a=some o/\o.cls=.type "tuple" /\ o.data=.seq its n/\its.size<=sizeLine/\Vals xs its.toList/\o.dict=none
theorem StT.sq {K:PySem.W.Frag}{H:Hp}{a:Addr}{xs:List V} (h:StT K a xs):SqT K H a xs:=by
 obtain ⟨o,its,n,h1,h2,h3,h4,h5,_⟩:=h
 exact .inr ⟨o,its,n,h1,h2,h3,h4,h5⟩
mutual
inductive Rep (K:PySem.W.Frag) (hd:Option Addr) (O:Addr->Prop) (H:Hp):V->PyData->Prop
 | non:Rep K hd O H .non .none
 | bl (b:Bool):Rep K hd O H (.bl b) (.bool b)
 | int (i:Int):Rep K hd O H (.int i) (.int i)
 | str (x:Str):Rep K hd O H (.str x) (.str x)
 | tup {a vs ds} (h:H a=some (.tup vs)) (o:¬O a) (r:Reps K hd O H vs ds):Rep K hd O H (.ref a) (.tuple ds)
 | tupS {a vs ds} (h:StT K a vs) (r:Reps K hd O H vs ds):Rep K hd O H (.ref a) (.tuple ds)
 | lst {a vs ds} (h:H a=some (.lst vs)) (o:¬O a) (r:Reps K hd O H vs ds):Rep K hd O H (.ref a) (.list ds)
 | dct {a} (h:H a=some (.dK [])) (o:¬O a):Rep K hd O H (.ref a) (.dict [])
 | hand {a} (h:hd=some a):Rep K hd O H (.ref a) HAND
 | scr {a ns} (h:Rd H a (.lst (ns.map V.int))) (o:¬O a):Rep K hd O H (.ref a) (SCR ns)
 | scrS {a} {ns:List Int} (h:∀ H':Hp,SqL K H' a (ns.map V.int)):Rep K hd O H (.ref a) (SCR ns)
inductive Reps (K:PySem.W.Frag) (hd:Option Addr) (O:Addr->Prop) (H:Hp):List V->List PyData->Prop
 | nil:Reps K hd O H [] []
 | cons {v d vs ds} (h:Rep K hd O H v d) (r:Reps K hd O H vs ds):Reps K hd O H (v::vs) (d::ds)
end
section
variable {K:PySem.W.Frag}{hd:Option Addr}{O O':Addr->Prop}{H H':Hp}
mutual
theorem Rep.mono (ho:∀ a o,H a=some o->O' a->O a) (hh:∀ a o,¬O a->H a=some o->H' a=some o):∀ {v d},Rep K hd O H v d->Rep K hd O' H' v d
 | _,_,.non=>.non
 | _,_,.bl b=>.bl b
 | _,_,.int i=>.int i
 | _,_,.str x=>.str x
 | _,_,.tup h o r=>.tup (hh _ _ o h) (fun z=>o (ho _ _ h z)) (Reps.mono ho hh r)
 | _,_,.tupS h r=>.tupS h (Reps.mono ho hh r)
 | _,_,.lst h o r=>.lst (hh _ _ o h) (fun z=>o (ho _ _ h z)) (Reps.mono ho hh r)
 | _,_,.dct h o=>.dct (hh _ _ o h) (fun z=>o (ho _ _ h z))
 | _,_,.hand h=>.hand h
 | _,_,.scr h o=>by
  rcases h with h | ⟨u,h⟩
  ·exact .scr (.inl (hh _ _ o h)) (fun z=>o (ho _ _ h z))
  ·exact .scr (.inr ⟨u,hh _ _ o h⟩) (fun z=>o (ho _ _ h z))
 | _,_,.scrS h=>.scrS h
theorem Reps.mono (ho:∀ a o,H a=some o->O' a->O a) (hh:∀ a o,¬O a->H a=some o->H' a=some o):∀ {vs ds},Reps K hd O H vs ds->Reps K hd O' H' vs ds
 | _,_,.nil=>.nil
 | _,_,.cons h r=>.cons (Rep.mono ho hh h) (Reps.mono ho hh r)
end
theorem Reps.length:∀ {vs ds},Reps K hd O H vs ds->vs.length=ds.length
 | _,_,.nil=>rfl
 | _,_,.cons _ r=>by simp [Reps.length r]
theorem Reps.get:∀ {vs ds}{i:Nat}{d},Reps K hd O H vs ds->ds[i]?=some d->∃ v,vs[i]?=some v/\Rep K hd O H v d
 | _,_,_,_,.nil,e=>by simp at e
 | _,_,0,_,.cons h _,e=>by simp at e;subst e;exact ⟨_,rfl,h⟩
 | _,_,i+1,_,.cons _ r,e=>by
  obtain ⟨v,h1,h2⟩:=Reps.get (i:=i) r (by simpa using e)
  exact ⟨v,by simpa using h1,h2⟩
theorem Reps.append:∀ {vs ws ds es},Reps K hd O H vs ds->Reps K hd O H ws es->Reps K hd O H (vs++ws) (ds++es)
 | _,_,_,_,.nil,s=>s
 | _,_,_,_,.cons h r,s=>.cons h (Reps.append r s)
theorem Reps.take:∀ {vs ds} (n:Nat),Reps K hd O H vs ds->Reps K hd O H (vs.take n) (ds.take n)
 | _,_,0,_=>.nil
 | _,_,_+1,.nil=>.nil
 | _,_,n+1,.cons h r=>.cons h (Reps.take n r)
theorem Reps.drop:∀ {vs ds} (n:Nat),Reps K hd O H vs ds->Reps K hd O H (vs.drop n) (ds.drop n)
 | _,_,0,r=>r
 | _,_,_+1,.nil=>.nil
 | _,_,n+1,.cons _ r=>Reps.drop n r
theorem Rep.tupI {v:V}{ds:List PyData} (h:Rep K hd O H v (.tuple ds)):∃ a vs,v=.ref a/\SqT K H a vs/\Reps K hd O H vs ds:=by
 cases h with
 | tup h o r=>exact ⟨_,_,rfl,.inl (.inl h),r⟩
 | tupS h r=>exact ⟨_,_,rfl,h.sq,r⟩
theorem Rep.lstI {v:V}{ds:List PyData} (h:Rep K hd O H v (.list ds)):∃ a vs,v=.ref a/\H a=some (.lst vs)/\¬O a/\Reps K hd O H vs ds:=by
 cases h with
 | lst h o r=>exact ⟨_,_,rfl,h,o,r⟩
theorem Rep.intI {v:V}{i:Int} (h:Rep K hd O H v (.int i)):v=.int i:=by cases h;rfl
theorem Rep.blI {v:V}{b:Bool} (h:Rep K hd O H v (.bool b)):v=.bl b:=by cases h;rfl
theorem Rep.strI {v:V}{x:Str} (h:Rep K hd O H v (.str x)):v=.str x:=by cases h;rfl
theorem Rep.nonI {v:V} (h:Rep K hd O H v .none):v=.non:=by cases h;rfl
theorem Rep.handI {v:V} (h:Rep K hd O H v HAND):∃ a,v=.ref a/\hd=some a:=by
 generalize e:HAND=d at h
 cases h with
 | hand h=>exact ⟨_,rfl,h⟩
 | dct _ _=>cases e
 | scr _ _=>simp [HAND,SCR] at e
 | scrS _=>simp [HAND,SCR] at e
 | _=>cases e
theorem Rep.scrI {v:V}{ns:List Int} (h:Rep K hd O H v (SCR ns)):∃ a,v=.ref a/\SqL K H a (ns.map V.int):=by
 generalize e:SCR ns=d at h
 cases h with
 | hand h=>simp [HAND,SCR] at e
 | dct _ _=>cases e
 | @scr a ms h o =>
  have:ns=ms:=by
   have e':(ns.map PyData.int)=ms.map PyData.int:=by simpa [SCR] using e
   have:=congrArg (List.map fun x=>match x with | PyData.int i=>i | _=>0) e'
   simpa [List.map_map,Function.comp_def] using this
  subst this
  exact ⟨_,rfl,.inl h⟩
 | @scrS a ms h =>
  have:ns=ms:=by
   have e':(ns.map PyData.int)=ms.map PyData.int:=by simpa [SCR] using e
   have:=congrArg (List.map fun x=>match x with | PyData.int i=>i | _=>0) e'
   simpa [List.map_map,Function.comp_def] using this
  subst this
  exact ⟨_,rfl,h H⟩
 | _=>cases e
end
mutual
def zeo:PyData->Bool
 | .list _=>false
 | .tuple ts=>zf8 ts
 | .dict [(.none,.none)]=>true
 | .dict _=>false
 | _=>true
def zf8:List PyData->Bool
 | []=>true
 | t::ts=>zeo t&&zf8 ts
end
section
variable {K:PySem.W.Frag}{hd:Option Addr}{O O':Addr->Prop}{H:Hp}
def MutO (o:Option HO):Prop:=(∃ xs,o=some (.lst xs))\/∃ ks,o=some (.dK ks)
mutual
theorem Rep.up (ho:∀ a,O a->MutO (H a)):∀ {v d},Rep K hd O' H v d->zeo d=true->Rep K hd O H v d
 | _,_,.non,_=>.non
 | _,_,.bl b,_=>.bl b
 | _,_,.int i,_=>.int i
 | _,_,.str x,_=>.str x
 | _,_,.tup h _ r,e=>.tup h (fun z=>by rcases ho _ z with ⟨xs,q⟩ | ⟨xs,q⟩ <;> (rw [h] at q;cases q)) (Reps.up ho r (by simpa [zeo] using e))
 | _,_,.tupS h r,e=>.tupS h (Reps.up ho r (by simpa [zeo] using e))
 | _,_,.lst _ _ _,e=>by simp [zeo] at e
 | _,_,.dct h _,e=>by simp [zeo] at e
 | _,_,.hand h,_=>.hand h
 | _,_,.scr _ _,e=>by simp [SCR,zeo] at e
 | _,_,.scrS _,e=>by simp [SCR,zeo] at e
theorem Reps.up (ho:∀ a,O a->MutO (H a)):∀ {vs ds},Reps K hd O' H vs ds->zf8 ds=true->Reps K hd O H vs ds
 | _,_,.nil,_=>.nil
 | _,_,.cons h r,e=>by
  simp only [zf8,Bool.and_eq_true] at e
  exact .cons (Rep.up ho h e.1) (Reps.up ho r e.2)
end
end
section
variable {X:Cx}{pins:List (Addr×Obj)}{σ:St}{H:Hp}{s:Shared}{hd:Option Addr}{O:Addr->Prop}
mutual
theorem Rep.reads (I:Inv X pins σ H s):∀ {v:V}{d:PyData}{u:Value},Rep X.K hd O H v d->RelV v u->d.hasDict=false->∃ as,Reads s.heap u d as
 | _,_,_,.non,r,_=>by cases r;exact ⟨_,.none⟩
 | _,_,_,.bl b,r,_=>by cases r;exact ⟨_,.bool b⟩
 | _,_,_,.int i,r,_=>by obtain ⟨t,rfl⟩:=r;exact ⟨_,.int i t⟩
 | _,_,_,.str x,r,_=>by obtain ⟨t,rfl⟩:=r;exact ⟨_,.str x t⟩
 | _,_,_,.tup (a:=a) (vs:=vs) h _ q,r,e=>by
  cases r
  obtain ⟨its,rv,p,_⟩:=I.tuple (xs:=vs) (.inl (.inl h))
  obtain ⟨o,ho,hc,n,hdat⟩:=p
  obtain ⟨as,ra⟩:=Reps.reads I q rv (by simpa [PyData.hasDict] using e)
  exact ⟨_,.tuple ho hc hdat (by simpa using ra)⟩
 | _,_,_,.tupS (a:=a) (vs:=vs) h q,r,e=>by
  cases r
  obtain ⟨its,rv,p,_⟩:=I.tuple (xs:=vs) h.sq
  obtain ⟨o,ho,hc,n,hdat⟩:=p
  obtain ⟨as,ra⟩:=Reps.reads I q rv (by simpa [PyData.hasDict] using e)
  exact ⟨_,.tuple ho hc hdat (by simpa using ra)⟩
 | _,_,_,.lst (a:=a) (vs:=vs) h _ q,r,e=>by
  cases r
  obtain ⟨its,rv,p,_⟩:=I.list (xs:=vs) (.inl (.inl h))
  obtain ⟨o,n,ho,hc,_,hdat⟩:=p
  obtain ⟨as,ra⟩:=Reps.reads I q rv (by simpa [PyData.hasDict] using e)
  exact ⟨_,.list ho hc hdat (by simpa using ra)⟩
 | _,_,_,.dct _ _,_,e=>by simp [PyData.hasDict] at e
 | _,_,_,.hand _,_,e=>by simp [HAND,PyData.hasDict] at e
 | _,_,_,.scr _ _,_,e=>by simp [SCR,PyData.hasDict] at e
 | _,_,_,.scrS _,_,e=>by simp [SCR,PyData.hasDict] at e
theorem Reps.reads (I:Inv X pins σ H s):∀ {vs:List V}{ds:List PyData}{us:List Value},Reps X.K hd O H vs ds->Vals vs us->PyData.hasDictAll ds=false->∃ as,ReadsAll s.heap us ds as
 | _,_,_,.nil,r,_=>by cases r;exact ⟨_,.nil⟩
 | _,_,_,.cons h q,r,e=>by
  cases r with
  | cons r1 r2 =>
   have e':=e
   simp only [PyData.hasDictAll,Bool.or_eq_false_iff] at e'
   obtain ⟨as,ra⟩:=Rep.reads I h r1 e'.1
   obtain ⟨bs,rb⟩:=Reps.reads I q r2 e'.2
   exact ⟨_,.cons ra rb⟩
end
end
inductive Cell where
 | val (d:PyData)
 | own (ds:List PyData)
 | dct (ks:List (Key×PyData))
 | rdo (ks:List (Key×PyData))
def Cell.mine:Cell->Bool
 | .val _=>false
 | .own _=>true
 | .dct _=>true
 | .rdo _=>false
def zfP (K:PySem.W.Frag) (hd:Option Addr) (O:Addr->Prop) (H:Hp) (kvs:List (Key×V)) (ks:List (Key×PyData)):Prop:=Paired (fun (p:Key×V) (q:Key×PyData)=>p.1=q.1/\Rep K hd O H p.2 q.2) kvs ks
theorem zfP.mono {K:PySem.W.Frag}{hd:Option Addr}{O O':Addr->Prop}{H H':Hp} (ho:∀ a o,H a=some o->O' a->O a) (hh:∀ a o,¬O a->H a=some o->H' a=some o) {kvs:List (Key×V)}{ks:List (Key×PyData)} (r:zfP K hd O H kvs ks):zfP K hd O' H' kvs ks :=
 Paired.mapP r fun _ _ z=>⟨z.1,z.2.mono ho hh⟩
abbrev En:=List (Option Cell)
structure Ctx where
 hd:Option Addr
 ext:Addr->Prop
def OwnS (ρ:En) (σ:St) (a:Addr):Prop:=∃ (i:Nat) (c:Cell),c.mine=true/\ρ[i]?=some (some c)/\σ[i]?=some (some (V.ref a))
def Own (C:Ctx) (ρ:En) (σ:St) (a:Addr):Prop:=C.ext a\/OwnS ρ σ a
def Hn (hd:Option Addr) (H:Hp) (n:Nat):Prop:=∀ a,hd=some a->zgn H a n
structure Stt (K:PySem.W.Frag) (C:Ctx) (ρ:En) (σ:St) (H:Hp) (n:Nat):Prop where
 len:ρ.length=σ.length
 val:∀ (i:Nat) (d:PyData),ρ[i]?=some (some (Cell.val d))->∃ v,σ[i]?=some (some v)/\Rep K C.hd (Own C ρ σ) H v d
 own:∀ (i:Nat) (ds:List PyData),ρ[i]?=some (some (Cell.own ds))->∃ a vs,σ[i]?=some (some (V.ref a))/\H a=some (.lst vs)/\Reps K C.hd (Own C ρ σ) H vs ds/\¬C.ext a
 dct:∀ (i:Nat) (ks:List (Key×PyData)),ρ[i]?=some (some (Cell.dct ks))->∃ a kvs,σ[i]?=some (some (V.ref a))/\H a=some (.dK kvs)/\zfP K C.hd (Own C ρ σ) H kvs ks/\¬C.ext a
 rdo:∀ (i:Nat) (ks:List (Key×PyData)),ρ[i]?=some (some (Cell.rdo ks))->∃ a kvs,σ[i]?=some (some (V.ref a))/\H a=some (.dK kvs)/\zfP K C.hd (Own C ρ σ) H kvs ks/\C.ext a/\C.hd≠some a
 dif:∀ (i j:Nat) (c e:Cell) (a:Addr),c.mine=true->e.mine=true->ρ[i]?=some (some c)->ρ[j]?=some (some e)->σ[i]?=some (some (V.ref a))->σ[j]?=some (some (V.ref a))->i=j
 hnd:Hn C.hd H n
 ext:∀ a,C.ext a->MutO (H a)
 hx:∀ a,C.hd=some a->C.ext a
def ExtE (hd:Option Addr) (H H':Hp):Prop:=∀ a o,H a=some o->hd≠some a->H' a=some o
theorem ExtE.refl {hd:Option Addr}{H:Hp}:ExtE hd H H:=fun _ _ h _=>h
theorem ExtE.trans {hd:Option Addr}{H H1 H2:Hp} (a:ExtE hd H H1) (b:ExtE hd H1 H2):ExtE hd H H2:=fun c o h n=>b c o (a c o h n) n
theorem ExtE.new {hd:Option Addr}{H:Hp}{p:Addr}{o:HO} (h:H p=none):ExtE hd H (upd H p o):=fun b u e _=>by
 rw [zar (zaE e h)];exact e
section
variable {K:PySem.W.Frag}{C:Ctx}{ρ:En}{σ:St}{H H':Hp}{n n':Nat}
theorem MutO.ne {o:Option HO} (h:MutO o):o≠none:=by
 rcases h with ⟨_,rfl⟩ | ⟨_,rfl⟩ <;> exact fun z=>by cases z
theorem Stt.at (S:Stt K C ρ σ H n) {i:Nat}{c:Cell} (m:c.mine=true) (h1:ρ[i]?=some (some c)):∃ a:Addr,σ[i]?=some (some (V.ref a))/\MutO (H a)/\¬C.ext a:=by
 cases c with
 | val d=>cases m
 | own ds =>
  obtain ⟨a,vs,e1,e2,_,e4⟩:=S.own i ds h1
  exact ⟨a,e1,.inl ⟨_,e2⟩,e4⟩
 | dct ks =>
  obtain ⟨a,vs,e1,e2,_,e4⟩:=S.dct i ks h1
  exact ⟨a,e1,.inr ⟨_,e2⟩,e4⟩
 | rdo ks=>cases m
theorem Stt.lst (S:Stt K C ρ σ H n) {a:Addr} (h:Own C ρ σ a):MutO (H a):=by
 rcases h with h | ⟨i,c,m,h1,h2⟩
 ·exact S.ext a h
 ·obtain ⟨b,e1,e2,_⟩:=S.at m h1
  rw [h2] at e1;cases e1
  exact e2
theorem Stt.dom (S:Stt K C ρ σ H n) {a:Addr} (h:Own C ρ σ a):H a≠none:=(S.lst h).ne
theorem Stt.free (S:Stt K C ρ σ H n) {a:Addr} (h:H a=none):¬Own C ρ σ a:=fun z=>S.dom z h
theorem ExtE.rep (e:ExtE C.hd H H') (hx:∀ a,C.hd=some a->C.ext a) {v d} (r:Rep K C.hd (Own C ρ σ) H v d):Rep K C.hd (Own C ρ σ) H' v d :=
 r.mono (fun _ _ _ z=>z) fun a o no h=>e a o h fun z=>no (.inl (hx a z))
theorem ExtE.reps (e:ExtE C.hd H H') (hx:∀ a,C.hd=some a->C.ext a) {v d} (r:Reps K C.hd (Own C ρ σ) H v d):Reps K C.hd (Own C ρ σ) H' v d :=
 r.mono (fun _ _ _ z=>z) fun a o no h=>e a o h fun z=>no (.inl (hx a z))
theorem Stt.on (S:Stt K C ρ σ H n) (e:ExtE C.hd H H') (h:Hn C.hd H' n'):Stt K C ρ σ H' n' where
 len:=S.len
 val:=fun i d hi=>by
  obtain ⟨v,h1,h2⟩:=S.val i d hi
  exact ⟨v,h1,e.rep S.hx h2⟩
 own:=fun i ds hi=>by
  obtain ⟨a,vs,h1,h2,h3,h4⟩:=S.own i ds hi
  exact ⟨a,vs,h1,e a _ h2 fun z=>h4 (S.hx a z),e.reps S.hx h3,h4⟩
 dct:=fun i ks hi=>by
  obtain ⟨a,vs,h1,h2,h3,h4⟩:=S.dct i ks hi
  exact ⟨a,vs,h1,e a _ h2 fun z=>h4 (S.hx a z),Paired.mapP h3 fun _ _ z=>⟨z.1,e.rep S.hx z.2⟩,h4⟩
 rdo:=fun i ks hi=>by
  obtain ⟨a,vs,h1,h2,h3,h4,h5⟩:=S.rdo i ks hi
  exact ⟨a,vs,h1,e a _ h2 h5,Paired.mapP h3 fun _ _ z=>⟨z.1,e.rep S.hx z.2⟩,h4,h5⟩
 dif:=S.dif
 hnd:=h
 ext:=fun a ha=>by
  by_cases z:C.hd=some a
  ·obtain ⟨d,m,t,q,_⟩:=h a z
   exact .inl ⟨_,q⟩
  ·rcases S.ext a ha with ⟨xs,q⟩ | ⟨xs,q⟩
   ·exact .inl ⟨xs,e a _ q z⟩
   ·exact .inr ⟨xs,e a _ q z⟩
 hx:=S.hx
end
abbrev DTE:=En->Nat->(PyData->Nat->Prop)->Prop
abbrev DTT:=En->Nat->(Bool->Nat->Prop)->Prop
abbrev DTA:=En->Nat->(List PyData->Nat->Prop)->Prop
def DE (X:Cx) (e:Expr) (d:DTE):Prop:=∃ te,PE X e te/\∀ (C:Ctx) (ρ:En) (σ:St) (H:Hp) (n:Nat) (Q:VK) (R:PyData->Nat->Prop),Stt X.K C ρ σ H n->d ρ n R ->
 (∀ t n' v H',R t n'->ExtE C.hd H H'->Hn C.hd H' n'->Rep X.K C.hd (Own C ρ σ) H' v t->Q v H')->te σ H Q
def RepT (K:PySem.W.Frag) (hd:Option Addr) (O:Addr->Prop) (H:Hp) (v:V) (t:PyData):Prop :=
 Rep K hd O H v t\/∃ a vs ds,v=.ref a/\t=.list ds/\H a=some (.lst vs)/\Reps K hd O H vs ds/\hd≠some a
def DL (X:Cx) (e:Expr) (d:DTE):Prop:=∃ te,PE X e te/\∀ (C:Ctx) (ρ:En) (σ:St) (H:Hp) (n:Nat) (Q:VK) (R:PyData->Nat->Prop),Stt X.K C ρ σ H n->d ρ n R ->
 (∀ t n' v H',R t n'->ExtE C.hd H H'->Hn C.hd H' n'->RepT X.K C.hd (Own C ρ σ) H' v t->Q v H')->te σ H Q
def DN (X:Cx) (e:Expr) (d:DTA):Prop:=∃ te,PE X e te/\∀ (C:Ctx) (ρ:En) (σ:St) (H:Hp) (n:Nat) (Q:VK) (R:List PyData->Nat->Prop),Stt X.K C ρ σ H n->d ρ n R ->
 (∀ ts n' p vs H',R ts n'->ExtE C.hd H H'->Hn C.hd H' n'->H p=none->H' p=some (.lst vs)->Reps X.K C.hd (fun a=>Own C ρ σ a\/a=p) H' vs ts->Q (.ref p) H')->te σ H Q
def DT (X:Cx) (e:Expr) (d:DTT):Prop:=∃ te,PT X e te/\∀ (C:Ctx) (ρ:En) (σ:St) (H:Hp) (n:Nat) (Q:Bool->Hp->Prop) (R:Bool->Nat->Prop),Stt X.K C ρ σ H n->d ρ n R ->
 (∀ b n' H',R b n'->ExtE C.hd H H'->Hn C.hd H' n'->Q b H')->te σ H Q
def DW (X:Cx) (e:Expr) (d:DTT):Prop:=∃ te,PW X e te/\∀ (C:Ctx) (ρ:En) (σ:St) (H:Hp) (n:Nat) (Q:Bool->Hp->Prop) (R:Bool->Nat->Prop),Stt X.K C ρ σ H n->d ρ n R ->
 (∀ b n' H',R b n'->ExtE C.hd H H'->Hn C.hd H' n'->Q b H')->te σ H Q
def DB (X:Cx) (es:List Expr) (d:DTA):Prop:=∃ ta,PB X es ta/\∀ (C:Ctx) (ρ:En) (σ:St) (H:Hp) (n:Nat) (Q:List V->Hp->Prop) (R:List PyData->Nat->Prop),Stt X.K C ρ σ H n->d ρ n R ->
 (∀ ts n' vs H',R ts n'->ExtE C.hd H H'->Hn C.hd H' n'->Reps X.K C.hd (Own C ρ σ) H' vs ts->ts.length=es.length->Q vs H')->ta σ H Q
section
variable {X:Cx}{e a b c:Expr}{es:List Expr}{d da db dc:DTE}{pos:Pos}
theorem dl (h:DE X e d):DL X e d:=by
 obtain ⟨te,p,h⟩:=h
 exact ⟨te,p,fun C ρ σ H n Q R S hd hq=>h C ρ σ H n Q R S hd fun t n' v H' r e h1 h2=>hq t n' v H' r e h1 (.inl h2)⟩
def dNew (d:DTA):DTE:=fun ρ n R=>d ρ n fun ts n'=>R (.list ts) n'
theorem zaz {d:DTA} (h:DN X e d):DE X e (dNew d):=by
 obtain ⟨te,p,h⟩:=h
 refine ⟨te,p,fun C ρ σ H n Q R S hd hq=>h C ρ σ H n Q _ S hd fun ts n' p vs H' r e h1 h2 h3 h4=>hq _ n' _ H' r e h1 (.lst h3 (S.free h2) (h4.mono (fun _ _ _ z=>.inl z) fun _ _ _ z=>z))⟩
def dVar (i:Nat):DTE:=fun ρ n R=>match ρ[i]? with | some (some (Cell.val d))=>R d n | _=>False
def dOwn (i:Nat):DTE:=fun ρ n R=>match ρ[i]? with | some (some (Cell.own d))=>R (.list d) n | _=>False
def dC (t:PyData):DTE:=fun _ n R=>R t n
theorem zab (i:Nat) {x:Str}{pos:Pos} (hN:X.N[i]?=some x:=by rfl) (hv:Vis X.env.scope x:=by first | exact Or.inl rfl | exact Or.inr (Or.inl rfl) | exact Or.inr (Or.inr rfl)) (hd:(x == ("__debug__":Str))=false:=by decide)
  (hcd:(x == ("__classdict__":Str))=false:=by decide):DE X (.Name x pos) (dVar i):=by
 refine ⟨_,zcW hN hv hd hcd,fun C ρ σ H n Q R S h hq=>?_⟩
 unfold dVar at h
 split at h
 ·rename_i d e
  obtain ⟨v,h1,h2⟩:=S.val i d e
  exact ⟨v,h1,hq d n v H h ExtE.refl S.hnd h2⟩
 ·exact h.elim
theorem zmY (i:Nat) {x:Str}{pos:Pos} (hN:X.N[i]?=some x:=by rfl) (hv:Vis X.env.scope x:=by first | exact Or.inl rfl | exact Or.inr (Or.inl rfl) | exact Or.inr (Or.inr rfl)) (hd:(x == ("__debug__":Str))=false:=by decide)
  (hcd:(x == ("__classdict__":Str))=false:=by decide):DL X (.Name x pos) (dOwn i):=by
 refine ⟨_,zcW hN hv hd hcd,fun C ρ σ H n Q R S h hq=>?_⟩
 unfold dOwn at h
 split at h
 ·rename_i ds e
  obtain ⟨p,vs,h1,h2,h3,h4⟩:=S.own i ds e
  exact ⟨.ref p,h1,hq _ n _ H h ExtE.refl S.hnd (.inr ⟨p,vs,ds,rfl,rfl,h2,h3,fun z=>h4 (S.hx p z)⟩)⟩
 ·exact h.elim
theorem zac {i j pos}:DE X (.Constant (.int i) j pos) (dC (.int i)):=⟨_,zaw,fun _ _ _ H n _ _ S h hq=>hq _ n _ H h ExtE.refl S.hnd (.int i)⟩
theorem zbb {b j pos}:DE X (.Constant (.bool b) j pos) (dC (.bool b)):=⟨_,zon,fun _ _ _ H n _ _ S h hq=>hq _ n _ H h ExtE.refl S.hnd (.bl b)⟩
theorem zhQ {j pos}:DE X (.Constant .none j pos) (dC .none):=⟨_,zlK,fun _ _ _ H n _ _ S h hq=>hq _ n _ H h ExtE.refl S.hnd .non⟩
theorem zap {x j pos}:DE X (.Constant (.str x) j pos) (dC (.str x)):=⟨_,zlG,fun _ _ _ H n _ _ S h hq=>hq _ n _ H h ExtE.refl S.hnd (.str x)⟩
end
end L2
namespace L2
open PySem PySem.Spec PyProof.Rows
section
variable {K:PySem.W.Frag}{hd:Option Addr}{O:Addr->Prop}{H H':Hp}{v:V}{t:PyData}{n:Nat}
theorem Same.ext (h:Same H H'):ExtE hd H H':=fun a o e _=>h a o e
theorem Hn.same (h:Hn hd H n) (s:Same H H'):Hn hd H' n:=fun a e=>by
 obtain ⟨d,m,t,q,r⟩:=h a e
 exact ⟨d,m,t,s _ _ q,r⟩
theorem Reps.same {vs ts} (s:Same H H') (r:Reps K hd O H vs ts):Reps K hd O H' vs ts:=r.mono (fun _ _ _ z=>z) fun a o _ h=>s a o h
theorem ExtE.repT {C:Ctx}{ρ:En}{σ:St} (e:ExtE C.hd H H') (hx:∀ a,C.hd=some a->C.ext a) (r:RepT K C.hd (Own C ρ σ) H v t):RepT K C.hd (Own C ρ σ) H' v t:=by
 rcases r with r | ⟨a,vs,ds,h1,h2,h3,h4,h5⟩
 ·exact .inl (e.rep hx r)
 ·exact .inr ⟨a,vs,ds,h1,h2,e _ _ h3 h5,e.reps hx h4,h5⟩
theorem RepT.lstI {ds} (h:RepT K hd O H v (.list ds)):∃ a vs,v=.ref a/\H a=some (.lst vs)/\Reps K hd O H vs ds:=by
 rcases h with h | ⟨a,vs,es,h1,h2,h3,h4,_⟩
 ·obtain ⟨a,vs,h1,h2,_,h3⟩:=h.lstI
  exact ⟨a,vs,h1,h2,h3⟩
 ·cases h2
  exact ⟨a,vs,h1,h3,h4⟩
theorem RepT.tupI {ds} (h:RepT K hd O H v (.tuple ds)):∃ a vs,v=.ref a/\SqT K H a vs/\Reps K hd O H vs ds:=by
 rcases h with h | ⟨a,vs,es,h1,h2,h3,h4,_⟩
 ·exact h.tupI
 ·cases h2
theorem RepT.rep (h:RepT K hd O H v t) (nl:∀ ds,t≠.list ds):Rep K hd O H v t:=by
 rcases h with h | ⟨a,vs,es,h1,h2,h3,h4,_⟩
 ·exact h
 ·exact absurd h2 (nl es)
theorem RepT.intI {i} (h:RepT K hd O H v (.int i)):v=.int i:=(h.rep (by intro _ z;cases z)).intI
theorem RepT.blI {i} (h:RepT K hd O H v (.bool i)):v=.bl i:=(h.rep (by intro _ z;cases z)).blI
theorem RepT.strI {i} (h:RepT K hd O H v (.str i)):v=.str i:=(h.rep (by intro _ z;cases z)).strI
theorem RepT.nonI (h:RepT K hd O H v .none):v=.non:=(h.rep (by intro _ z;cases z)).nonI
theorem Rep.newT {p:Addr}{vs ts} (no:¬O p) (h:H p=none) (r:Reps K hd O H vs ts):Rep K hd O (upd H p (.tup vs)) (.ref p) (.tuple ts) :=
 .tup zax no (r.same (fun b u e=>by rw [zar (zaE e h)];exact e))
end
theorem zaG {H:Hp}{p:Addr}{o:HO} (h:H p=none):Same H (upd H p o):=fun b u e=>by
 rw [zar (zaE e h)];exact e
abbrev G2:=PyData->PyData->(PyData->Prop)->Prop
def dOp (g:G2) (da db:DTE):DTE:=fun ρ n R=>da ρ n fun x n1=>db ρ n1 fun y n2=>g x y fun z=>R z n2
def Gp2 (X:Cx) (r:R2) (g:G2):Prop:=∀ (hd:Option Addr) (O:Addr->Prop) (H:Hp) (x y:V) (t u:PyData) (Q:VK) (R:PyData->Prop),(∀ p,O p->H p≠none)->RepT X.K hd O H x t->RepT X.K hd O H y u->g t u R ->
 (∀ z v H',R z->Same H H'->Rep X.K hd O H' v z->Q v H')->r x y H Q
section
variable {X:Cx}{a b c:Expr}{da db dc:DTE}{pos:Pos}{r r':R2}{g g':G2}
theorem two {C:Ctx}{ρ:En}{σ:St}{H:Hp}{n:Nat}{ta tb:TE} (ha:∀ (C:Ctx) (ρ:En) (σ:St) (H:Hp) (n:Nat) (Q:VK) (R:PyData->Nat->Prop),Stt X.K C ρ σ H n->da ρ n R ->
  (∀ t n' v H',R t n'->ExtE C.hd H H'->Hn C.hd H' n'->RepT X.K C.hd (Own C ρ σ) H' v t->Q v H')->ta σ H Q)
  (hb:∀ (C:Ctx) (ρ:En) (σ:St) (H:Hp) (n:Nat) (Q:VK) (R:PyData->Nat->Prop),Stt X.K C ρ σ H n->db ρ n R ->
  (∀ t n' v H',R t n'->ExtE C.hd H H'->Hn C.hd H' n'->RepT X.K C.hd (Own C ρ σ) H' v t->Q v H')->tb σ H Q)
  {Q2:V->V->Hp->Prop} {R2:PyData->PyData->Nat->Prop} (S:Stt X.K C ρ σ H n) (h:da ρ n fun x n1=>db ρ n1 fun y n2=>R2 x y n2)
  (hq:∀ x y n2 v w H2,R2 x y n2->ExtE C.hd H H2->Stt X.K C ρ σ H2 n2->RepT X.K C.hd (Own C ρ σ) H2 v x->RepT X.K C.hd (Own C ρ σ) H2 w y->Q2 v w H2) :
  ta σ H fun v H1=>tb σ H1 fun w H2=>Q2 v w H2:=by
 refine ha C ρ σ H n _ _ S h fun t n1 v H1 r1 e1 h1 q1=>?_
 have S1:=S.on e1 h1
 refine hb C ρ σ H1 n1 _ _ S1 r1 fun u n2 w H2 r2 e2 h2 q2=>?_
 exact hq t u n2 v w H2 r2 (e1.trans e2) (S1.on e2 h2) (e2.repT S.hx q1) q2
theorem zfF {op:Operator} (ho:OpR X (binaryOp op) r) (hg:Gp2 X r g) (ha:DL X a da) (hb:DL X b db):DE X (.BinOp a op b pos) (dOp g da db):=by
 obtain ⟨ta,pa,ha⟩:=ha
 obtain ⟨tb,pb,hb⟩:=hb
 refine ⟨_,zaS ho pa pb,fun C ρ σ H n Q R S h hq=>?_⟩
 refine two ha hb S h fun x y n2 v w H2 r2 e S2 q1 q2=>?_
 exact hg C.hd (Own C ρ σ) H2 v w x y Q _ (fun p=>S2.dom) q1 q2 r2 fun z u H' rz sm rp=>hq z n2 u H' rz (e.trans sm.ext) (S2.hnd.same sm) rp
theorem zgj {op:CmpOp} (ho:OpR X (compareOp op) r) (hg:Gp2 X r g) (ha:DL X a da) (hb:DL X b db) (hm:behindInMarks op b=false):DE X (.Compare a [op] [b] pos) (dOp g da db):=by
 obtain ⟨ta,pa,ha⟩:=ha
 obtain ⟨tb,pb,hb⟩:=hb
 refine ⟨_,zg6 ho pa pb hm,fun C ρ σ H n Q R S h hq=>?_⟩
 refine two ha hb S h fun x y n2 v w H2 r2 e S2 q1 q2=>?_
 exact hg C.hd (Own C ρ σ) H2 v w x y Q _ (fun p=>S2.dom) q1 q2 r2 fun z u H' rz sm rp=>hq z n2 u H' rz (e.trans sm.ext) (S2.hnd.same sm) rp
def zfG (d:DTE):DTT:=fun ρ n R=>d ρ n fun t n'=>match t with | .bool k=>R k n' | _=>False
theorem za8 {op:CmpOp} (ho:OpR X (compareOp op) r) (hg:Gp2 X r g) (ha:DL X a da) (hb:DL X b db) (hm:behindInMarks op b=false):DT X (.Compare a [op] [b] pos) (zfG (dOp g da db)):=by
 obtain ⟨ta,pa,ha⟩:=ha
 obtain ⟨tb,pb,hb⟩:=hb
 refine ⟨_,zfi ho pa pb hm,fun C ρ σ H n Q R S h hq=>?_⟩
 refine two ha hb S h fun x y n2 v w H2 r2 e S2 q1 q2=>?_
 refine hg C.hd (Own C ρ σ) H2 v w x y _ _ (fun p=>S2.dom) q1 q2 r2 fun z u H' rz sm rp=>?_
 cases z with
 | bool k =>
  cases rp
  exact ⟨k,rfl,hq k n2 H' rz (e.trans sm.ext) (S2.hnd.same sm)⟩
 | _=>exact rz.elim
def zds (g g':G2) (da db dc:DTE):DTE:=fun ρ n R=>da ρ n fun x n1=>db ρ n1 fun y n2=>g x y fun z=>match z with
 | .bool true=>dc ρ n2 fun w n3=>g' y w fun z=>R z n3
 | .bool false=>R (.bool false) n2
 | _=>False
def gI (C:Int->Int->Prop) (f:Int->Int->Int):G2
 | .int i,.int j,R=>C i j/\R (.int (f i j))
 | _,_,_=>False
def gB (f:Int->Int->Bool):G2
 | .int i,.int j,R=>R (.bool (f i j))
 | _,_,_=>False
theorem gp_I {C:Int->Int->Prop}{f:Int->Int->Int}:Gp2 X (rI C fun i j=>.int (f i j)) (gI C f):=by
 intro hd O H x y t u Q R dom rx ry h hq
 unfold gI at h
 split at h
 ·rename_i i j
  exact ⟨i,j,rx.intI,ry.intI,h.1,hq _ _ H h.2 (Same.refl H) (.int _)⟩
 ·exact h.elim
def gI0 (f:Int->Int->Int):G2
 | .int i,.int j,R=>R (.int (f i j))
 | _,_,_=>False
theorem zo0 {f:Int->Int->Int}:Gp2 X (rI0 fun i j=>.int (f i j)) (gI0 f):=by
 intro hd O H x y t u Q R dom rx ry h hq
 unfold gI0 at h
 split at h
 ·rename_i i j
  exact ⟨i,j,rx.intI,ry.intI,hq _ _ H h (Same.refl H) (.int _)⟩
 ·exact h.elim
theorem gp_B {f:Int->Int->Bool}:Gp2 X (rI0 fun i j=>.bl (f i j)) (gB f):=by
 intro hd O H x y t u Q R dom rx ry h hq
 unfold gB at h
 split at h
 ·rename_i i j
  exact ⟨i,j,rx.intI,ry.intI,hq _ _ H h (Same.refl H) (.bl _)⟩
 ·exact h.elim
end
section
variable {X:Cx}{a b c:Expr}{da db dc:DTE}{pos:Pos}
def oSub:=gI0 fun i j=>i - j
def oMod:=gI (fun _ j=>0<j) fun i j=>i % j
def oPow:=gI CPow fun i j=>i ^ j.toNat
def oShl:=gI CPow fun i j=>i*2 ^ j.toNat
theorem zhP (ha:DL X a da) (hb:DL X b db):DE X (.BinOp a .Sub b pos) (dOp oSub da db):=zfF zlQ zo0 ha hb
theorem zjB (ha:DL X a da) (hb:DL X b db):DE X (.BinOp a .Mod b pos) (dOp oMod da db):=zfF zcY gp_I ha hb
theorem zm2 (ha:DL X a da) (hb:DL X b db):DE X (.BinOp a .Pow b pos) (dOp oPow da db):=zfF zjo gp_I ha hb
theorem zbN (ha:DL X a da) (hb:DL X b db):DE X (.BinOp a .LShift b pos) (dOp oShl da db):=zfF zlR gp_I ha hb
end
end L2
namespace L2
open PySem PySem.Spec PyProof.Rows
section
variable {X:Cx}{pins:List (Addr×Obj)}{σ:St}{H:Hp}{s:Shared}{hd:Option Addr}{O:Addr->Prop}
theorem RepT.reads (I:Inv X pins σ H s) {v:V}{d:PyData}{u:Value} (h:RepT X.K hd O H v d) (r:RelV v u) (e:d.hasDict=false):∃ as,Reads s.heap u d as:=by
 rcases h with h | ⟨a,vs,ds,rfl,rfl,h3,h4,_⟩
 ·exact h.reads I r e
 ·cases r
  obtain ⟨its,rv,p,_⟩:=I.list (xs:=vs) (.inl (.inl h3))
  obtain ⟨o,n,ho,hc,_,hdat⟩:=p
  obtain ⟨as,ra⟩:=Reps.reads I h4 rv (by simpa [PyData.hasDict] using e)
  exact ⟨_,.list ho hc hdat (by simpa using ra)⟩
end
def Okd (t:PyData):Prop:=t.canLay0=true/\t.depth<=60
section
variable {X:Cx}{a b c:Expr}{da db dc:DTE}{pos:Pos}{k:Nat}
def rEqD (K:PySem.W.Frag) (neg:Bool):R2:=fun x y H Q=>∃ hd O t u,RepT K hd O H x t/\RepT K hd O H y u/\Okd t/\Okd u/\Q (.bl (if neg then !t.eqv u else t.eqv u)) H
theorem zlZ (hr:Room k X.A):OpR X (compareOp .Eq) (rEqD X.K false):=by
 intro pins s σ H x y v u Q I rx ry h
 obtain ⟨hd,O,t,w,h1,h2,h3,h4,q⟩:=h
 obtain ⟨as,ra⟩:=h1.reads I rx (PyData.hasDict_of_canLay _ h3.1)
 obtain ⟨bs,rb⟩:=h2.reads I ry (PyData.hasDict_of_canLay _ h4.1)
 refine SeqAt.compareEq_reads ra rb h3.1 h4.1 ?_ ⟨.bl _,H,I,rfl,q⟩
 have:=hr.un
 have:=h3.2
 omega
theorem zlS (hr:Room k X.A):OpR X (compareOp .NotEq) (rEqD X.K true):=by
 intro pins s σ H x y v u Q I rx ry h
 obtain ⟨hd,O,t,w,h1,h2,h3,h4,q⟩:=h
 obtain ⟨as,ra⟩:=h1.reads I rx (PyData.hasDict_of_canLay _ h3.1)
 obtain ⟨bs,rb⟩:=h2.reads I ry (PyData.hasDict_of_canLay _ h4.1)
 refine SeqAt.compareNe_reads ra rb h3.1 h4.1 ?_ ⟨.bl _,H,I,rfl,q⟩
 have:=hr.un
 have:=h3.2
 omega
def oEq:G2
 | .int i,.int j,R=>R (.bool (decide (i=j)))
 | .str i,.str j,R=>R (.bool (decide (i=j)))
 | .bool i,.bool j,R=>R (.bool (decide (i=j)))
 | t,u,R=>Okd t/\Okd u/\R (.bool (t.eqv u))
def oNe:G2
 | .int i,.int j,R=>R (.bool (!decide (i=j)))
 | .str i,.str j,R=>R (.bool (!decide (i=j)))
 | .bool i,.bool j,R=>R (.bool (!decide (i=j)))
 | t,u,R=>Okd t/\Okd u/\R (.bool (!t.eqv u))
def rEqA (K:PySem.W.Frag):R2:=fun x y H Q=>rEq x y H Q\/rEqD K false x y H Q
def rNeA (K:PySem.W.Frag):R2:=fun x y H Q=>rNe x y H Q\/rEqD K true x y H Q
theorem zcZ (hr:Room k X.A):OpR X (compareOp .Eq) (rEqA X.K):=OpR.or zot (zlZ hr)
theorem zg8 (hr:Room k X.A):OpR X (compareOp .NotEq) (rNeA X.K):=OpR.or zop (zlS hr)
theorem zfB:Gp2 X (rEqA X.K) oEq:=by
 intro hd O H x y t u Q R dom rx ry h hq
 unfold oEq at h
 split at h
 ·rename_i i j
  rw [rx.intI,ry.intI]
  refine .inl ⟨rfl,?_⟩
  have e:decide (V.int i=V.int j)=decide (i=j):=decide_eq_decide.mpr ⟨fun z=>by cases z;rfl,fun z=>by rw [z]⟩
  rw [e]
  exact hq _ _ H h (Same.refl H) (.bl _)
 ·rename_i i j
  rw [rx.strI,ry.strI]
  refine .inl ⟨rfl,?_⟩
  have e:decide (V.str i=V.str j)=decide (i=j):=decide_eq_decide.mpr ⟨fun z=>by cases z;rfl,fun z=>by rw [z]⟩
  rw [e]
  exact hq _ _ H h (Same.refl H) (.bl _)
 ·rename_i i j
  rw [rx.blI,ry.blI]
  refine .inl ⟨rfl,?_⟩
  have e:decide (V.bl i=V.bl j)=decide (i=j):=decide_eq_decide.mpr ⟨fun z=>by cases z;rfl,fun z=>by rw [z]⟩
  rw [e]
  exact hq _ _ H h (Same.refl H) (.bl _)
 ·exact .inr ⟨hd,O,_,_,rx,ry,h.1,h.2.1,hq _ _ H h.2.2 (Same.refl H) (.bl _)⟩
theorem zkE:Gp2 X (rNeA X.K) oNe:=by
 intro hd O H x y t u Q R dom rx ry h hq
 unfold oNe at h
 split at h
 ·rename_i i j
  rw [rx.intI,ry.intI]
  refine .inl ⟨rfl,?_⟩
  have e:decide (V.int i=V.int j)=decide (i=j):=decide_eq_decide.mpr ⟨fun z=>by cases z;rfl,fun z=>by rw [z]⟩
  rw [e]
  exact hq _ _ H h (Same.refl H) (.bl _)
 ·rename_i i j
  rw [rx.strI,ry.strI]
  refine .inl ⟨rfl,?_⟩
  have e:decide (V.str i=V.str j)=decide (i=j):=decide_eq_decide.mpr ⟨fun z=>by cases z;rfl,fun z=>by rw [z]⟩
  rw [e]
  exact hq _ _ H h (Same.refl H) (.bl _)
 ·rename_i i j
  rw [rx.blI,ry.blI]
  refine .inl ⟨rfl,?_⟩
  have e:decide (V.bl i=V.bl j)=decide (i=j):=decide_eq_decide.mpr ⟨fun z=>by cases z;rfl,fun z=>by rw [z]⟩
  rw [e]
  exact hq _ _ H h (Same.refl H) (.bl _)
 ·exact .inr ⟨hd,O,_,_,rx,ry,h.1,h.2.1,hq _ _ H h.2.2 (Same.refl H) (.bl _)⟩
def isNone:PyData->Bool
 | .none=>true
 | _=>false
def oIs:G2
 | .bool a,.bool b,R=>R (.bool (a == b))
 | t,.none,R=>R (.bool (isNone t))
 | _,_,_=>False
def oIsN:G2
 | .bool a,.bool b,R=>R (.bool (a != b))
 | t,.none,R=>R (.bool (!isNone t))
 | _,_,_=>False
def rIs:R2:=fun x y H Q=>(y=.non/\Q (.bl (decide (x=.non))) H)\/∃ a b,x=.bl a/\y=.bl b/\Q (.bl (a == b)) H
def rIsN:R2:=fun x y H Q=>(y=.non/\Q (.bl (!decide (x=.non))) H)\/∃ a b,x=.bl a/\y=.bl b/\Q (.bl (a != b)) H
theorem zor:OpR X (compareOp .Is) rIs:=OpR.or zlV zlW
theorem zfk:OpR X (compareOp .IsNot) rIsN:=OpR.or zj7 zha
theorem RepT.isN {K:PySem.W.Frag}{hd:Option Addr}{O:Addr->Prop}{H:Hp}{v:V}{t:PyData} (h:RepT K hd O H v t):decide (v=.non)=(isNone t):=by
 rcases h with h | ⟨a,vs,ds,rfl,rfl,h3,h4,_⟩
 ·cases h <;> simp [HAND,SCR,isNone]
 ·simp [isNone]
theorem zoY:Gp2 X rIs oIs:=by
 intro hd O H x y t u Q R dom rx ry h hq
 unfold oIs at h
 split at h
 ·rename_i i j
  exact .inr ⟨i,j,rx.blI,ry.blI,hq _ _ H h (Same.refl H) (.bl _)⟩
 ·refine .inl ⟨ry.nonI,?_⟩
  rw [rx.isN]
  exact hq _ _ H h (Same.refl H) (.bl _)
 ·exact h.elim
theorem zfA:Gp2 X rIsN oIsN:=by
 intro hd O H x y t u Q R dom rx ry h hq
 unfold oIsN at h
 split at h
 ·rename_i i j
  exact .inr ⟨i,j,rx.blI,ry.blI,hq _ _ H h (Same.refl H) (.bl _)⟩
 ·refine .inl ⟨ry.nonI,?_⟩
  rw [rx.isN]
  exact hq _ _ H h (Same.refl H) (.bl _)
 ·exact h.elim
def rInD (K:PySem.W.Frag) (neg:Bool):R2:=fun x y H Q=>∃ hd O t ts,RepT K hd O H x t/\(RepT K hd O H y (.tuple ts)\/RepT K hd O H y (.list ts))/\Okd t/\(∀ u∈ts,Okd u)/\Q (.bl (if neg then !ts.any (fun u=>u.eqv t) else ts.any (fun u=>u.eqv t))) H
theorem zhc:∀ {ts:List PyData},(∀ u∈ts,Okd u)->PyData.canLayAll0 ts=true
 | [],_=>by simp [PyData.canLayAll0]
 | t::ts,h=>by
  simp only [PyData.canLayAll0,Bool.and_eq_true]
  exact ⟨(h t (by simp)).1,zhc fun u hu=>h u (by simp [hu])⟩
theorem zlX (hr:Room k X.A):OpR X (compareOp .In) (rInD X.K false):=by
 intro pins s σ H x y v u Q I rx ry h
 obtain ⟨hd,O,t,ts,h1,h2,h3,h4,q⟩:=h
 obtain ⟨as,ra⟩:=h1.reads I rx (PyData.hasDict_of_canLay _ h3.1)
 have cl:=zhc h4
 have hu:X.A.units+1+min (PyData.depthAll ts) t.depth<cLine:=by
  have:=hr.un
  have:=h3.2
  omega
 rcases h2 with h2 | h2
 ·obtain ⟨bs,rb⟩:=h2.reads I ry (PyData.hasDict_of_canLay _ (by simpa [PyData.canLay0] using cl))
  exact SeqAt.in_tuple_reads rb ra cl h3.1 hu ⟨.bl _,H,I,rfl,q⟩
 ·obtain ⟨bs,rb⟩:=h2.reads I ry (PyData.hasDict_of_canLay _ (by simpa [PyData.canLay0] using cl))
  exact SeqAt.in_list_reads rb ra cl h3.1 hu ⟨.bl _,H,I,rfl,q⟩
def oIn:G2
 | t,.tuple ts,R=>Okd t/\(∀ u∈ts,Okd u)/\R (.bool (ts.any fun u=>u.eqv t))
 | t,.list ts,R=>Okd t/\(∀ u∈ts,Okd u)/\R (.bool (ts.any fun u=>u.eqv t))
 | _,_,_=>False
theorem zoZ:Gp2 X (rInD X.K false) oIn:=by
 intro hd O H x y t u Q R dom rx ry h hq
 unfold oIn at h
 split at h
 ·exact ⟨hd,O,_,_,rx,.inl ry,h.1,h.2.1,hq _ _ H h.2.2 (Same.refl H) (.bl _)⟩
 ·exact ⟨hd,O,_,_,rx,.inr ry,h.1,h.2.1,hq _ _ H h.2.2 (Same.refl H) (.bl _)⟩
 ·exact h.elim
def oLtA:G2
 | .int i,.int j,R=>R (.bool (decide (i<j)))
 | .str i,.str j,R=>R (.bool (decide (i.cps.toList<j.cps.toList)))
 | .tuple xs,.tuple ys,R=>∃ ns ms,xs=ns.map PyData.int/\ys=ms.map PyData.int/\R (.bool (HT.lexLt ns ms))
 | _,_,_=>False
def rLtA (K:PySem.W.Frag):R2:=fun x y H Q=>(rI0 fun i j=>.bl (decide (i<j))) x y H Q\/(∃ i j,x=.str i/\y=.str j/\Q (.bl (decide (i.cps.toList<j.cps.toList))) H)\/rLtT K x y H Q
theorem zei (hr:Room k X.A):OpR X (compareOp .Lt) (rLtA X.K):=OpR.or zlU (OpR.or zg9 (zlT hr.units0))
theorem zcN {K:PySem.W.Frag}{hd:Option Addr}{O:Addr->Prop}{H:Hp}:∀ {ns:List Int}{vs:List V},Reps K hd O H vs (ns.map PyData.int)->vs=ns.map V.int
 | [],_,h=>by cases h;rfl
 | n::ns,_,h=>by
  cases h with
  | cons h r=>rw [h.intI,zcN r];rfl
theorem zeT:Gp2 X (rLtA X.K) oLtA:=by
 intro hd O H x y t u Q R dom rx ry h hq
 unfold oLtA at h
 split at h
 ·exact .inl ⟨_,_,rx.intI,ry.intI,hq _ _ H h (Same.refl H) (.bl _)⟩
 ·exact .inr (.inl ⟨_,_,rx.strI,ry.strI,hq _ _ H h (Same.refl H) (.bl _)⟩)
 ·obtain ⟨ns,ms,rfl,rfl,h⟩:=h
  obtain ⟨p,vs,e1,s1,r1⟩:=rx.tupI
  obtain ⟨q,ws,e2,s2,r2⟩:=ry.tupI
  rw [zcN r1] at s1
  rw [zcN r2] at s2
  exact .inr (.inr ⟨p,q,ns,ms,e1,e2,s1,s2,hq _ _ H h (Same.refl H) (.bl _)⟩)
 ·exact h.elim
def oLeA:G2
 | .int i,.int j,R=>R (.bool (decide (i<=j)))
 | .str i,.str j,R=>R (.bool (!decide (j.cps.toList<i.cps.toList)))
 | _,_,_=>False
def rLeA:R2:=fun x y H Q=>(rI0 fun i j=>.bl (decide (i<=j))) x y H Q\/(∃ i j,x=.str i/\y=.str j/\Q (.bl (!decide (j.cps.toList<i.cps.toList))) H)
theorem zg_:OpR X (compareOp .LtE) (fun x y H Q=>∃ i j,x=.str i/\y=.str j/\Q (.bl (!decide (j.cps.toList<i.cps.toList))) H):=by
 intro pins s σ H x y v u Q I rx ry h
 obtain ⟨i,j,rfl,rfl,q⟩:=h
 obtain ⟨t,rfl⟩:=rx
 obtain ⟨t',rfl⟩:=ry
 exact PySem.P.le_str ⟨.bl _,H,I,rfl,q⟩
theorem zcs:OpR X (compareOp .LtE) rLeA:=OpR.or zoq zg_
theorem zct:Gp2 X rLeA oLeA:=by
 intro hd O H x y t u Q R dom rx ry h hq
 unfold oLeA at h
 split at h
 ·exact .inl ⟨_,_,rx.intI,ry.intI,hq _ _ H h (Same.refl H) (.bl _)⟩
 ·exact .inr ⟨_,_,rx.strI,ry.strI,hq _ _ H h (Same.refl H) (.bl _)⟩
 ·exact h.elim
variable {r r':R2}{g g':G2}
theorem zcE {op op':CmpOp} (ho:OpR X (compareOp op) r) (hg:Gp2 X r g) (ho':OpR X (compareOp op') r') (hg':Gp2 X r' g') (ha:DL X a da) (hb:DL X b db) (hc:DL X c dc)
  (hm:lastMarks [op,op'] [b,c]=false:=by with_unfolding_all rfl):DE X (.Compare a [op,op'] [b,c] pos) (zds g g' da db dc):=by
 obtain ⟨ta,pa,ha⟩:=ha
 obtain ⟨tb,pb,hb⟩:=hb
 obtain ⟨tc,pc,hc⟩:=hc
 refine ⟨_,ziM ho ho' pa pb pc hm,fun C ρ σ H n Q R S h hq=>?_⟩
 refine two ha hb S h fun x y n2 v w H2 r2 e S2 q1 q2=>?_
 refine hg C.hd (Own C ρ σ) H2 v w x y _ _ (fun p=>S2.dom) q1 q2 r2 fun z u H' rz sm rp=>?_
 have S3:=S2.on sm.ext (S2.hnd.same sm)
 cases z with
 | bool k =>
  cases rp
  refine ⟨k,rfl,?_⟩
  cases k with
  | false=>exact iteF (hq _ n2 _ H' rz (e.trans sm.ext) S3.hnd (.bl _))
  | true =>
   refine iteT (hc C ρ σ H' n2 _ _ S3 rz fun z2 n3 w2 H4 r4 e4 h4 q4=>?_)
   have S4:=S3.on e4 h4
   have q2':=e4.repT S.hx ((Same.ext sm:ExtE C.hd H2 H').repT S.hx q2)
   exact hg' C.hd (Own C ρ σ) H4 w w2 y z2 Q _ (fun p=>S4.dom) q2' q4 r4 fun z u H' rz sm' rp=>hq z n3 u H' rz (((e.trans sm.ext).trans e4).trans sm'.ext) (S4.hnd.same sm') rp
 | _=>exact rz.elim
end
end L2
namespace L2
open PySem PySem.Spec PyProof.Rows
section
variable {X:Cx}{a b c e:Expr}{es rest:List Expr}{d da db dc:DTE}{t u:DTT}{pos p:Pos}{k:Nat}
def truD:PyData->(Bool->Prop)->Prop
 | .none,R=>R false
 | .bool b,R=>R b
 | .int i,R=>R (decide (i≠0))
 | .str x,R=>x.length<=16777216/\R (decide (x.length≠0))
 | .list ts,R=>R (!ts.isEmpty)
 | .tuple ts,R=>R (!ts.isEmpty)
 | _,_=>False
def dTru (d:DTE):DTT:=fun ρ n R=>d ρ n fun t n'=>truD t fun b=>R b n'
theorem zk6 {K:PySem.W.Frag}{hd:Option Addr}{O:Addr->Prop}{H:Hp}{v:V}{t:PyData}{Q:Bool->Hp->Prop}{R:Bool->Prop} (r:RepT K hd O H v t) (h:truD t R) (hq:∀ b,R b->Q b H):∃ k,TruV K v H k/\Q k H:=by
 cases t with
 | none=>exact ⟨false,by rw [r.nonI];rfl,hq _ h⟩
 | bool b=>exact ⟨b,by rw [r.blI];rfl,hq _ h⟩
 | int i=>exact ⟨decide (i≠0),by rw [r.intI];show _=(i != 0);by_cases z:i=0 <;> simp [z],hq _ h⟩
 | str x =>
  refine ⟨decide (x.length≠0),by rw [r.strI];exact ⟨h.1,by by_cases z:x.length=0 <;> simp [z]⟩,hq _ h.2⟩
 | list ts =>
  obtain ⟨p,vs,e,h1,h2⟩:=r.lstI
  subst e
  refine ⟨!ts.isEmpty,.inl ⟨vs,.of h1,?_⟩,hq _ h⟩
  cases h2 <;> rfl
 | tuple ts =>
  obtain ⟨p,vs,e,h1,h2⟩:=r.tupI
  subst e
  refine ⟨!ts.isEmpty,.inr (.inl ⟨vs,h1,?_⟩),hq _ h⟩
  cases h2 <;> rfl
 | dict _=>exact h.elim
theorem zb6 (ha:DL X a da) (he:∀ whole,isTrue a X.env whole=(do let v <- whole;standAt a.pos;holding [v] (truthy v)):=by intro _;rfl):DT X a (dTru da):=by
 obtain ⟨ta,pa,ha⟩:=ha
 refine ⟨_,ziC pa he,fun C ρ σ H n Q R S h hq=>?_⟩
 refine ha C ρ σ H n _ _ S h fun t n' v H' r e1 h1 q=>?_
 exact zk6 q r fun b rb=>hq b n' H' rb e1 h1
def dOr (t u:DTT):DTT:=fun ρ n R=>t ρ n fun b n1=>if b=true then R true n1 else u ρ n1 R
def dNot (t:DTT):DTT:=fun ρ n R=>t ρ n fun b n1=>R (!b) n1
theorem zgE (h:DW X a t):DT X a t:=by
 obtain ⟨ta,pa,h⟩:=h
 exact ⟨_,pa.pt,h⟩
theorem zdq (h:DT X a t):DW X (.BoolOp .Or [a] pos) t:=by
 obtain ⟨ta,pa,h⟩:=h
 exact ⟨_,zlu pa,h⟩
theorem zfC (h:DT X a t) (h':DW X (.BoolOp .Or (b::rest) pos) u):DW X (.BoolOp .Or (a::b::rest) pos) (dOr t u):=by
 obtain ⟨ta,pa,h⟩:=h
 obtain ⟨tb,pb,h'⟩:=h'
 refine ⟨_,zoi pa pb,fun C ρ σ H n Q R S hd hq=>?_⟩
 refine h C ρ σ H n _ _ S hd fun b n1 H1 r e1 h1=>?_
 cases b with
 | false=>exact iteF (h' C ρ σ H1 n1 Q R (S.on e1 h1) (by simpa using r) fun b n2 H2 r e2 h2=>hq b n2 H2 r (e1.trans e2) h2)
 | true=>exact iteT (hq _ n1 H1 (by simpa using r) e1 h1)
theorem zbM (h:DT X a t):DT X (.UnaryOp .Not a pos) (dNot t):=by
 obtain ⟨ta,pa,h⟩:=h
 refine ⟨_,zlw pa,fun C ρ σ H n Q R S hd hq=>?_⟩
 exact h C ρ σ H n _ _ S hd fun b n1 H1 r e1 h1=>hq _ n1 H1 r e1 h1
def bolD:PyData->(Bool->Prop)->Prop
 | .bool b,R=>R b
 | _,_=>False
def zkO (da db:DTE):DTE:=fun ρ n R=>da ρ n fun t n1=>bolD t fun b=>if b=true then db ρ n1 R else R (.bool false) n1
def dOrV (da db:DTE):DTE:=fun ρ n R=>da ρ n fun t n1=>bolD t fun b=>if b=true then R (.bool true) n1 else db ρ n1 R
def zkN (da:DTE):DTE:=fun ρ n R=>da ρ n fun t n1=>bolD t fun b=>R (.bool (!b)) n1
theorem zeX {op} (h:DE X a d):DE X (.BoolOp op [a] pos) d:=by
 obtain ⟨ta,pa,h⟩:=h
 exact ⟨_,zlI pa,h⟩
theorem zdY (h:DE X a da) (h':DE X (.BoolOp .And (b::rest) pos) db):DE X (.BoolOp .And (a::b::rest) pos) (zkO da db):=by
 obtain ⟨ta,pa,h⟩:=h
 obtain ⟨tb,pb,h'⟩:=h'
 refine ⟨_,zlO pa pb,fun C ρ σ H n Q R S hd hq=>?_⟩
 refine h C ρ σ H n _ _ S hd fun t n1 v H1 r e1 h1 q1=>?_
 cases t with
 | bool b =>
  cases q1
  refine ⟨b,rfl,?_⟩
  cases b with
  | true=>exact iteT (h' C ρ σ H1 n1 Q R (S.on e1 h1) (by simpa [bolD] using r) fun t n2 v H2 r e2 h2 q2=>hq t n2 v H2 r (e1.trans e2) h2 q2)
  | false=>exact iteF (hq _ n1 _ H1 (by simpa [bolD] using r) e1 h1 (.bl _))
 | _=>exact r.elim
theorem zm3 (h:DE X a da) (h':DE X (.BoolOp .Or (b::rest) pos) db):DE X (.BoolOp .Or (a::b::rest) pos) (dOrV da db):=by
 obtain ⟨ta,pa,h⟩:=h
 obtain ⟨tb,pb,h'⟩:=h'
 refine ⟨_,zol pa pb,fun C ρ σ H n Q R S hd hq=>?_⟩
 refine h C ρ σ H n _ _ S hd fun t n1 v H1 r e1 h1 q1=>?_
 cases t with
 | bool b =>
  cases q1
  refine ⟨b,rfl,?_⟩
  cases b with
  | false=>exact iteF (h' C ρ σ H1 n1 Q R (S.on e1 h1) (by simpa [bolD] using r) fun t n2 v H2 r e2 h2 q2=>hq t n2 v H2 r (e1.trans e2) h2 q2)
  | true=>exact iteT (hq _ n1 _ H1 (by simpa [bolD] using r) e1 h1 (.bl _))
 | _=>exact r.elim
theorem zkJ (h:DE X a da):DE X (.UnaryOp .Not a pos) (zkN da):=by
 obtain ⟨ta,pa,h⟩:=h
 refine ⟨_,zlJ pa,fun C ρ σ H n Q R S hd hq=>?_⟩
 refine h C ρ σ H n _ _ S hd fun t n1 v H1 r e1 h1 q1=>?_
 cases t with
 | bool b =>
  cases q1
  exact ⟨b,rfl,hq _ n1 _ H1 r e1 h1 (.bl _)⟩
 | _=>exact r.elim
def dIfE (t:DTT) (da db:DTE):DTE:=fun ρ n R=>t ρ n fun b n1=>if b=true then da ρ n1 R else db ρ n1 R
theorem zja (hc:DT X c t) (h:DE X a da) (h':DE X b db):DE X (.IfExp c a b pos) (dIfE t da db):=by
 obtain ⟨tc,pc,hc⟩:=hc
 obtain ⟨ta,pa,h⟩:=h
 obtain ⟨tb,pb,h'⟩:=h'
 refine ⟨_,ziK pc pa pb,fun C ρ σ H n Q R S hd hq=>?_⟩
 refine hc C ρ σ H n _ _ S hd fun b n1 H1 r e1 h1=>?_
 cases b with
 | true=>exact iteT (h C ρ σ H1 n1 Q R (S.on e1 h1) (by simpa using r) fun t n2 v H2 r e2 h2 q2=>hq t n2 v H2 r (e1.trans e2) h2 q2)
 | false=>exact iteF (h' C ρ σ H1 n1 Q R (S.on e1 h1) (by simpa using r) fun t n2 v H2 r e2 h2 q2=>hq t n2 v H2 r (e1.trans e2) h2 q2)
def dNil:DTA:=fun _ n R=>R [] n
def zhS (d:DTE) (ds:DTA):DTA:=fun ρ n R=>d ρ n fun t n1=>ds ρ n1 fun ts n2=>R (t::ts) n2
theorem zae:DB X [] dNil:=⟨_,zcr,fun C ρ σ H n Q R S h hq=>hq [] n [] H h ExtE.refl S.hnd .nil rfl⟩
theorem zaa {ds:DTA} (h:DE X e d) (hr:DB X es ds) (hs:starEach (e::es) X.env=(false,eval e X.env)::starEach es X.env):DB X (e::es) (zhS d ds):=by
 obtain ⟨ta,pa,h⟩:=h
 obtain ⟨tb,pb,hr⟩:=hr
 refine ⟨_,za6 pa pb hs,fun C ρ σ H n Q R S hd hq=>?_⟩
 refine h C ρ σ H n _ _ S hd fun t n1 v H1 r e1 h1 q1=>?_
 refine hr C ρ σ H1 n1 _ _ (S.on e1 h1) r fun ts n2 vs H2 r2 e2 h2 q2 l2=>?_
 exact hq _ n2 _ H2 r2 (e1.trans e2) h2 (.cons (e2.rep S.hx q1) q2) (by simp [l2])
def zjh (K:PySem.W.Frag) (hd:Option Addr) (O:Addr->Prop) (H:Hp):List V->List PyData->Prop:=Paired (RepT K hd O H)
def DBL (X:Cx) (es:List Expr) (d:DTA):Prop:=∃ ta,PB X es ta/\∀ (C:Ctx) (ρ:En) (σ:St) (H:Hp) (n:Nat) (Q:List V->Hp->Prop) (R:List PyData->Nat->Prop),Stt X.K C ρ σ H n->d ρ n R ->
 (∀ ts n' vs H',R ts n'->ExtE C.hd H H'->Hn C.hd H' n'->zjh X.K C.hd (Own C ρ σ) H' vs ts->ts.length=es.length->Q vs H')->ta σ H Q
theorem zaQ:DBL X [] dNil:=⟨_,zcr,fun C ρ σ H n Q R S h hq=>hq [] n [] H h ExtE.refl S.hnd .nil rfl⟩
theorem zat {ds:DTA} (h:DL X e d) (hr:DBL X es ds) (hs:starEach (e::es) X.env=(false,eval e X.env)::starEach es X.env):DBL X (e::es) (zhS d ds):=by
 obtain ⟨ta,pa,h⟩:=h
 obtain ⟨tb,pb,hr⟩:=hr
 refine ⟨_,za6 pa pb hs,fun C ρ σ H n Q R S hd hq=>?_⟩
 refine h C ρ σ H n _ _ S hd fun t n1 v H1 r e1 h1 q1=>?_
 refine hr C ρ σ H1 n1 _ _ (S.on e1 h1) r fun ts n2 vs H2 r2 e2 h2 q2 l2=>?_
 exact hq _ n2 _ H2 r2 (e1.trans e2) h2 (.cons (e2.repT S.hx q1) q2) (by simp [l2])
def dTup (ds:DTA):DTE:=fun ρ n R=>ds ρ n fun ts n1=>R (.tuple ts) n1
theorem zao {x1:Nat}{ds:DTA} (h:DB X es ds) (hl:es.length<=sizeLine:=by decide):DE X (.Tuple es x1 pos) (dTup ds):=by
 obtain ⟨ta,pa,h⟩:=h
 refine ⟨_,zjY pa,fun C ρ σ H n Q R S hd hq=>?_⟩
 refine h C ρ σ H n _ _ S hd fun ts n1 vs H1 r e1 h1 q1 l1=>⟨by rw [q1.length,l1];exact hl,fun p hp=>?_⟩
 have S1:=S.on e1 h1
 exact hq _ n1 _ _ r (e1.trans (ExtE.new hp)) (h1.same (zaG hp)) (.newT (S1.free hp) hp q1)
theorem za_ {ds:DTA} (h:DB X es ds) (hl:es.length<=sizeLine:=by decide):DN X (.List es pos) ds:=by
 obtain ⟨ta,pa,h⟩:=h
 refine ⟨_,zg5 pa,fun C ρ σ H n Q R S hd hq=>?_⟩
 refine h C ρ σ H n _ _ S hd fun ts n1 vs H1 r e1 h1 q1 l1=>⟨by rw [q1.length,l1];exact hl,fun p hp=>?_⟩
 have S1:=S.on e1 h1
 have hp0:H p=none:=by
  cases z:H p with
  | none=>rfl
  | some o =>
   by_cases y:C.hd=some p
   ·obtain ⟨d,m,t,q,_⟩:=h1 p y
    rw [hp] at q;cases q
   ·rw [e1 p o z y] at hp;cases hp
 refine hq ts n1 p vs _ r (e1.trans (ExtE.new hp)) (h1.same (zaG hp)) hp0 zax ?_
 refine q1.mono (fun b o hb z=>z.elim id fun z=>?_) fun b o _ hb=>zaG hp b o hb
 subst z;rw [hp] at hb;cases hb
end
end L2
namespace L2
open PySem PySem.Spec PyProof.Rows
section
variable {X:Cx}{a b c e:Expr}{es rest:List Expr}{d da db dc:DTE}{ds:DTA}{pos p:Pos}{k:Nat}{x:Str}
abbrev GC:=List PyData->(PyData->Prop)->Prop
def zgk (g:GC) (ds:DTA):DTE:=fun ρ n R=>ds ρ n fun ts n1=>g ts fun z=>R z n1
def GpC (X:Cx) (r:List V->Hp->VK->Prop) (g:GC):Prop:=∀ (hd:Option Addr) (O:Addr->Prop) (H:Hp) (xs:List V) (ts:List PyData) (Q:VK) (R:PyData->Prop),(∀ p,O p->H p≠none)->zjh X.K hd O H xs ts->g ts R ->
 (∀ z v H',R z->Same H H'->Rep X.K hd O H' v z->Q v H')->r xs H Q
theorem zbV {id:String}{r:List V->Hp->VK->Prop}{g:GC} (hc:zcl X (.builtin id) r) (hgp:GpC X r g) (hm:X.mg x=none) (hv:bootBuiltins x=some (.builtin id)) (h:DBL X (e::es) ds) (hg:Gl X x:=by rfl) (hn:x ≠ "__name__":=by decide) (hdb:(x == ("__debug__":Str))=false:=by decide) :
  DE X (.Call (.Name x p) (e::es) [] pos) (zgk g ds):=by
 obtain ⟨ta,pa,h⟩:=h
 refine ⟨_,zj1 hc hm hv pa hg hn hdb,fun C ρ σ H n Q R S hd hq=>?_⟩
 refine h C ρ σ H n _ _ S hd fun ts n1 vs H1 r1 e1 h1 q1 _=>?_
 have S1:=S.on e1 h1
 exact hgp C.hd (Own C ρ σ) H1 vs ts Q _ (fun p=>S1.dom) q1 r1 fun z u H' rz sm rp=>hq z n1 u H' rz (e1.trans sm.ext) (h1.same sm) rp
theorem zea {K:PySem.W.Frag}{hd:Option Addr}{O:Addr->Prop}{H:Hp}{xs:List V}{t:PyData} (h:zjh K hd O H xs [t]):∃ v,xs=[v]/\RepT K hd O H v t:=by
 cases h with
 | cons h r=>cases r;exact ⟨_,rfl,h⟩
theorem zjl {K:PySem.W.Frag}{hd:Option Addr}{O:Addr->Prop}{H:Hp}{xs:List V}{t u:PyData} (h:zjh K hd O H xs [t,u]):∃ v w,xs=[v,w]/\RepT K hd O H v t/\RepT K hd O H w u:=by
 cases h with
 | cons h r=>cases r with | cons h2 r=>cases r;exact ⟨_,_,rfl,h,h2⟩
def bLen:GC
 | [.list ts],R=>R (.int ts.length)
 | [.tuple ts],R=>R (.int ts.length)
 | [.str x],R=>x.length<=16777216/\R (.int x.length)
 | [.dict [(.none,.list ts)]],R=>R (.int ts.length)
 | _,_=>False
def rLen (K:PySem.W.Frag):List V->Hp->VK->Prop:=fun xs H Q=>∃ x n,xs=[x]/\LenV K x H n/\Q (.int n) H
theorem zb3:GpC X (rLen X.K) bLen:=by
 intro hd O H xs ts Q R dom rs h hq
 unfold bLen at h
 split at h
 ·obtain ⟨v,rfl,r⟩:=zea rs
  obtain ⟨p,vs,rfl,h1,h2⟩:=r.lstI
  exact ⟨_,_,rfl,.inl ⟨vs,.of h1,rfl⟩,by rw [h2.length];exact hq _ _ H h (Same.refl H) (.int _)⟩
 ·obtain ⟨v,rfl,r⟩:=zea rs
  obtain ⟨p,vs,rfl,h1,h2⟩:=r.tupI
  exact ⟨_,_,rfl,.inr ⟨vs,h1,rfl⟩,by rw [h2.length];exact hq _ _ H h (Same.refl H) (.int _)⟩
 ·obtain ⟨v,rfl,r⟩:=zea rs
  rw [r.strI]
  exact ⟨_,_,rfl,⟨h.1,rfl⟩,hq _ _ H h.2 (Same.refl H) (.int _)⟩
 ·rename_i ts
  obtain ⟨v,rfl,r⟩:=zea rs
  have r:=r.rep (by intro _ z;cases z)
  generalize e:(PyData.dict [(PyData.none,PyData.list ts)])=t at r
  cases r with
  | scr h1 o =>
   simp only [SCR,PyData.dict.injEq,List.cons.injEq,Prod.mk.injEq,PyData.list.injEq,true_and,and_true] at e
   subst e
   exact ⟨_,_,rfl,.inl ⟨_,.inl h1,rfl⟩,by simpa using hq _ _ H h (Same.refl H) (.int _)⟩
  | scrS h1 =>
   simp only [SCR,PyData.dict.injEq,List.cons.injEq,Prod.mk.injEq,PyData.list.injEq,true_and,and_true] at e
   subst e
   exact ⟨_,_,rfl,.inl ⟨_,h1 H,rfl⟩,by simpa using hq _ _ H h (Same.refl H) (.int _)⟩
  | hand _=>simp [HAND] at e
  | dct _ _=>cases e
  | _=>cases e
 ·exact h.elim
def bMin:GC
 | [.int i,.int j],R=>R (.int (if j<i then j else i))
 | _,_=>False
def bMax:GC
 | [.int i,.int j],R=>R (.int (if j > i then j else i))
 | _,_=>False
theorem zjt:GpC X (fun xs H Q=>∃ i j,xs=[.int i,.int j]/\Q (.int (if j<i then j else i)) H) bMin:=by
 intro hd O H xs ts Q R dom rs h hq
 unfold bMin at h
 split at h
 ·obtain ⟨v,w,rfl,r1,r2⟩:=zjl rs
  rw [r1.intI,r2.intI]
  exact ⟨_,_,rfl,hq _ _ H h (Same.refl H) (.int _)⟩
 ·exact h.elim
theorem zmT:GpC X (fun xs H Q=>∃ i j,xs=[.int i,.int j]/\Q (.int (if j > i then j else i)) H) bMax:=by
 intro hd O H xs ts Q R dom rs h hq
 unfold bMax at h
 split at h
 ·obtain ⟨v,w,rfl,r1,r2⟩:=zjl rs
  rw [r1.intI,r2.intI]
  exact ⟨_,_,rfl,hq _ _ H h (Same.refl H) (.int _)⟩
 ·exact h.elim
def bAll:GC
 | [.list ts],R=>∃ bs:List Bool,ts=bs.map PyData.bool/\R (.bool (bs.all id))
 | _,_=>False
theorem zdj {K:PySem.W.Frag}{hd:Option Addr}{O:Addr->Prop}{H:Hp}:∀ {ns:List Bool}{vs:List V},Reps K hd O H vs (ns.map PyData.bool)->vs=ns.map V.bl
 | [],_,h=>by cases h;rfl
 | n::ns,_,h=>by
  cases h with
  | cons h r=>rw [h.blI,zdj r];rfl
theorem zhF:GpC X (fun xs H Q=>∃ (a:Addr) (bs:List Bool),xs=[.ref a]/\SqL X.K H a (bs.map V.bl)/\Q (.bl (bs.all id)) H) bAll:=by
 intro hd O H xs ts Q R dom rs h hq
 unfold bAll at h
 split at h
 ·obtain ⟨bs,rfl,h⟩:=h
  obtain ⟨v,rfl,r1⟩:=zea rs
  obtain ⟨p,vs,rfl,h1,h2⟩:=r1.lstI
  rw [zdj h2] at h1
  exact ⟨p,bs,rfl,.of h1,hq _ _ H h (Same.refl H) (.bl _)⟩
 ·exact h.elim
def zaX:PyData->(List PyData->Prop)->Prop
 | .list ts,R=>R ts
 | .tuple ts,R=>R ts
 | _,_=>False
def zfI (d:DTE):DTA:=fun ρ n R=>d ρ n fun t n1=>zaX t fun ts=>R ts n1
theorem zkI (hm:X.mg "list" = none) (h:DL X e d) (hs:starEach [e] X.env=[(false,eval e X.env)]) (hg:Gl X "list":=by rfl):DN X (.Call (.Name "list" p) [e] [] pos) (zfI d):=by
 obtain ⟨ta,pa,h⟩:=h
 refine ⟨_,zlN ze2 hm (by decide +kernel) (za6 pa zcr hs) hg,fun C ρ σ H n Q R S hd hq=>?_⟩
 refine h C ρ σ H n _ _ S hd fun t n1 v H1 r1 e1 h1 q1=>?_
 have S1:=S.on e1 h1
 have fin:∀ p vs ts,Reps X.K C.hd (Own C ρ σ) H1 vs ts->R ts n1->H1 p=none->Q (.ref p) (upd H1 p (.lst vs)):=fun p vs ts rp rr hp=>by
  have hp0:H p=none:=by
   cases z:H p with
   | none=>rfl
   | some o =>
    by_cases y:C.hd=some p
    ·obtain ⟨d,m,t,q,_⟩:=h1 p y
     rw [hp] at q;cases q
    ·rw [e1 p o z y] at hp;cases hp
  refine hq ts n1 p vs _ rr (e1.trans (ExtE.new hp)) (h1.same (zaG hp)) hp0 zax ?_
  refine rp.mono (fun b o hb z=>z.elim id fun z=>?_) fun b o _ hb=>zaG hp b o hb
  subst z;rw [hp] at hb;cases hb
 cases t with
 | list ts =>
  obtain ⟨p,vs,rfl,h1',h2⟩:=q1.lstI
  exact ⟨p,vs,rfl,.inl (.of h1'),fun l hl=>fin l vs ts h2 r1 hl⟩
 | tuple ts =>
  obtain ⟨p,vs,rfl,h1',h2⟩:=q1.tupI
  exact ⟨p,vs,rfl,.inr h1',fun l hl=>fin l vs ts h2 r1 hl⟩
 | _=>exact r1.elim
def tyN:PyData->Option String
 | .none=>some "NoneType"
 | .bool _=>some "bool"
 | .int _=>some "int"
 | .str _=>some "str"
 | .list _=>some "list"
 | .tuple _=>some "tuple"
 | .dict []=>some "dict"
 | .dict _=>none
def rIsi (K:PySem.W.Frag):List V->Hp->VK->Prop:=fun xs H Q=>∃ x hd O t T y b,xs=[x,.ty T]/\RepT K hd O H x t/\tyN t=some y/\kitB y T=some b/\Q (.bl b) H
theorem zh0:zcl X (.builtin "isinstance") (rIsi X.K):=by
 intro pins s σ H xs us Q I r h
 obtain ⟨x,hd,O,t,T,y,b,rfl,rp,ty,e,q⟩:=h
 cases r with
 | cons r1 r2 =>
  cases r2 with
  | cons r3 r4 =>
   cases r4
   cases (show _=Value.type T from r3)
   have fin:∀ y',tyN t=some y'->y'=y:=fun y' h=>Option.some.inj (h.symm.trans ty)
   have go:Ty H x y->wpAny (model X.prog X.w) X.A (call (.builtin "isinstance") [_,Value.type T]) (EP X pins σ Q) X.xe s:=fun ty=>zhx I r1 ty.of ((zjp X.K y T).trans e) fun tk=>⟨.bl b,H,I.tok tk,rfl,q⟩
   rcases rp with rp | ⟨a,vs,ds,rfl,rfl,h3,h4,_⟩
   ·cases rp with
    | non=>cases ty;exact go .non
    | bl b=>cases ty;exact go (.bl b)
    | int i=>cases ty;exact go (.int i)
    | str i=>cases ty;exact go (.str i)
    | tup h o r=>cases ty;exact go (.tup h)
    | lst h o r=>cases ty;exact go (.lst h)
    | dct h o=>cases ty;exact go (.dK h)
    | hand h=>simp [HAND,tyN] at ty
    | scr h o=>simp [SCR,tyN] at ty
    | scrS h=>simp [SCR,tyN] at ty
    | @tupS a vs ds h r =>
     cases ty
     cases (show _=Value.ref a from r1)
     obtain ⟨o,its,n,hk,hc,_⟩:=h
     exact PySem.W.kia_one PySem.W.kitx_tuple I.kIn ⟨o,I.kIn a o hk,hc⟩ ((zjp X.K "tuple" T).trans e) (fun z=>nomatch z) fun tk=>⟨.bl b,H,I.tok tk,rfl,q⟩
   ·cases ty;exact go (.lst h3)
end
end L2
namespace L2
open PySem PySem.Spec PyProof.Rows
section
variable {X:Cx}{a b c e:Expr}{es rest:List Expr}{d da db dc:DTE}{ds:DTA}{pos p:Pos}{k:Nat}{x:Str}
theorem Reps.atI {K:PySem.W.Frag}{hd:Option Addr}{O:Addr->Prop}{H:Hp}{vs ts}{i:Int}{t} (r:Reps K hd O H vs ts) (h:L2.atI ts i=some t):∃ v,L2.atI vs i=some v/\Rep K hd O H v t:=by
 unfold L2.atI at h ⊢
 rw [r.length]
 cases e:ixN ts.length i with
 | none=>rw [e] at h;cases h
 | some j =>
  rw [e] at h
  have h:ts[j]?=some t:=h
  exact r.get h
def oIx:G2
 | .list ts,.int i,R=>match atI ts i with | some t=>R t | none=>False
 | .tuple ts,.int i,R=>match atI ts i with | some t=>R t | none=>False
 | .str x,.int i,R=>x.length<=16777216/\match atI x.cps.toList i with | some c=>R (.str ⟨#[c]⟩) | none=>False
 | _,_,_=>False
theorem zoX:Gp2 X (rIx X.K) oIx:=by
 intro hd O H x y t u Q R dom rx ry h hq
 unfold oIx at h
 split at h
 ·rename_i ts i
  obtain ⟨p,vs,rfl,h1,h2⟩:=rx.lstI
  split at h
  ·rename_i t et
   obtain ⟨v,ev,rv⟩:=h2.atI et
   exact .inl ⟨p,vs,i,v,rfl,ry.intI,.of h1,ev,hq _ _ H h (Same.refl H) rv⟩
  ·exact h.elim
 ·rename_i ts i
  obtain ⟨p,vs,rfl,h1,h2⟩:=rx.tupI
  split at h
  ·rename_i t et
   obtain ⟨v,ev,rv⟩:=h2.atI et
   exact .inr (.inl ⟨p,vs,i,v,rfl,ry.intI,h1,ev,hq _ _ H h (Same.refl H) rv⟩)
  ·exact h.elim
 ·rename_i z i
  obtain ⟨h0,h⟩:=h
  split at h
  ·rename_i c ec
   exact .inr (.inr ⟨z,i,c,rx.strI,ry.intI,h0,ec,hq _ _ H h (Same.refl H) (.str _)⟩)
  ·exact h.elim
 ·exact h.elim
theorem zby (ha:DL X a da) (hb:DL X b db) (hs:zh5 b:=by intro _ _;rfl):DE X (.Subscript a b pos) (dOp oIx da db):=by
 obtain ⟨ta,pa,ha⟩:=ha
 obtain ⟨tb,pb,hb⟩:=hb
 refine ⟨_,zeh zms pa pb hs,fun C ρ σ H n Q R S h hq=>?_⟩
 refine two ha hb S h fun x y n2 v w H2 r2 e S2 q1 q2=>?_
 exact zoX C.hd (Own C ρ σ) H2 v w x y Q _ (fun p=>S2.dom) q1 q2 r2 fun z u H' rz sm rp=>hq z n2 u H' rz (e.trans sm.ext) (S2.hnd.same sm) rp
def dNeg (d:DTE):DTE:=fun ρ n R=>d ρ n fun t n1=>match t with | .int i=>R (.int (-i)) n1 | _=>False
theorem zeY (h:DE X a da):DE X (.UnaryOp .USub a pos) (dNeg da):=by
 obtain ⟨ta,pa,h⟩:=h
 refine ⟨_,zoj zk3 pa,fun C ρ σ H n Q R S hd hq=>?_⟩
 refine h C ρ σ H n _ _ S hd fun t n1 v H1 r e1 h1 q1=>?_
 cases t with
 | int i=>rw [q1.intI];exact ⟨i,rfl,hq _ n1 _ H1 r e1 h1 (.int _)⟩
 | _=>exact r.elim
def zlr (K:PySem.W.Frag):R2:=fun x y H Q=>∃ a b xs ys,x=.ref a/\y=.ref b/\SqT K H a xs/\SqT K H b ys/\xs.length+ys.length<=sizeLine /\
 (xs=[]->Q (.ref b) H)/\(ys=[]->Q (.ref a) H)/\∀ p,H p=none->Q (.ref p) (upd H p (.tup (xs++ys)))
theorem zka:OpR X (binaryOp .Add) (zlr X.K):=by
 intro pins s σ H x y v u Q I rx ry h
 obtain ⟨a,b,xs,ys,rfl,rfl,ha,hb,hz,q0,q1,q2⟩:=h
 by_cases hx:xs=[]
 ·cases rx
  cases ry
  obtain ⟨its,r1,p1,_⟩:=I.tuple ha
  obtain ⟨its2,r2,p2,_⟩:=I.tuple hb
  have hv:its=[]:=r1.nil_iff.mpr hx
  obtain ⟨⟨cls,dd,data,sl⟩,ho,hc,n,hd⟩:=id p1
  obtain ⟨⟨cls2,dd2,data2,sl2⟩,ho2,hc2,n2,hd2⟩:=id p2
  simp only at hc hd hc2 hd2
  subst hc hd hc2 hd2
  exact concat_meets ⟨_,ho,rfl⟩ ⟨_,ho2,rfl⟩ noFill_tuple_add seq_tuple_add PySem.F.slot_tuple_add PySem.F.entry_tuple_add (PySem.F.args_tuple_add_2 _ _)
   (tuple_addW0 a b its.toArray its2.toArray n n2 dd dd2 sl sl2 (by simp [hv])) ⟨ho,ho2,⟨.ref b,H,I,rfl,q0 hx⟩⟩
 ·exact zj_ pins s σ H _ _ v u Q I rx ry ⟨a,b,xs,ys,rfl,rfl,ha,hb,hx,hz,q1,fun _=>q2⟩
def oAdd:G2
 | .int i,.int j,R=>R (.int (i+j))
 | .str i,.str j,R=>i.length+j.length<=16777216/\R (.str (i++j))
 | .tuple xs,.tuple ys,R=>xs.length+ys.length<=16777216/\R (.tuple (xs++ys))
 | _,_,_=>False
def zls (K:PySem.W.Frag):R2:=fun x y H Q=>(rI0 fun i j=>.int (i+j)) x y H Q\/(∃ i j,x=.str i/\y=.str j/\i.length+j.length<=sizeLine/\Q (.str (i++j)) H)\/zlr K x y H Q
theorem zkb:OpR X (binaryOp .Add) (zls X.K):=OpR.or zb0 (OpR.or zgw zka)
theorem zmU:Gp2 X (zls X.K) oAdd:=by
 intro hd O H x y t u Q R dom rx ry h hq
 unfold oAdd at h
 split at h
 ·exact .inl ⟨_,_,rx.intI,ry.intI,hq _ _ H h (Same.refl H) (.int _)⟩
 ·exact .inr (.inl ⟨_,_,rx.strI,ry.strI,h.1,hq _ _ H h.2 (Same.refl H) (.str _)⟩)
 ·rename_i xs ys
  obtain ⟨p,vs,rfl,h1,h2⟩:=rx.tupI
  obtain ⟨q,ws,rfl,h3,h4⟩:=ry.tupI
  refine .inr (.inr ⟨p,q,vs,ws,rfl,rfl,h1,h3,by rw [h2.length,h4.length];exact h.1,fun e=>?_,fun e=>?_,fun l hl=>?_⟩)
  ·subst e;cases h2
   exact hq _ _ H h.2 (Same.refl H) (ry.rep (by intro _ z;cases z))
  ·subst e;cases h4
   exact hq _ _ H h.2 (Same.refl H) (by rw [List.append_nil];exact rx.rep (by intro _ z;cases z))
  ·exact hq _ _ _ h.2 (zaG hl) (.newT (fun z=>dom l z hl) hl (h2.append h4))
 ·exact h.elim
theorem zbh (ha:DL X a da) (hb:DL X b db):DE X (.BinOp a .Add b pos) (dOp oAdd da db):=zfF zkb zmU ha hb
def dCat (da db:DTE):DTA:=fun ρ n R=>da ρ n fun x n1=>db ρ n1 fun y n2=>match x,y with | .list xs,.list ys=>xs.length+ys.length<=16777216/\R (xs++ys) n2 | _,_=>False
theorem zhC {C:Ctx}{H H1:Hp}{n1:Nat}{p:Addr} (e1:ExtE C.hd H H1) (h1:Hn C.hd H1 n1) (hp:H1 p=none):H p=none:=by
 cases z:H p with
 | none=>rfl
 | some o =>
  by_cases y:C.hd=some p
  ·obtain ⟨d,m,t,q,_⟩:=h1 p y
   rw [hp] at q;cases q
  ·rw [e1 p o z y] at hp;cases hp
theorem ziy {K:PySem.W.Frag}{hd:Option Addr}{O:Addr->Prop}{H:Hp}{p:Addr}{o:HO}{vs ts} (hp:H p=none) (r:Reps K hd O H vs ts):Reps K hd (fun a=>O a\/a=p) (upd H p o) vs ts:=by
 refine r.mono (fun b o hb z=>z.elim id fun z=>?_) fun b o _ hb=>zaG hp b o hb
 subst z;rw [hp] at hb;cases hb
theorem zdr (ha:DL X a da) (hb:DL X b db):DN X (.BinOp a .Add b pos) (dCat da db):=by
 obtain ⟨ta,pa,ha⟩:=ha
 obtain ⟨tb,pb,hb⟩:=hb
 refine ⟨_,zaS zl0 pa pb,fun C ρ σ H n Q R S h hq=>?_⟩
 refine two ha hb S h fun x y n2 v w H2 r2 e S2 q1 q2=>?_
 split at r2
 ·obtain ⟨p,vs,rfl,h1,h2⟩:=q1.lstI
  obtain ⟨q,ws,rfl,h3,h4⟩:=q2.lstI
  refine ⟨p,q,vs,ws,rfl,rfl,h1,h3,by rw [h2.length,h4.length];exact r2.1,fun l hl=>?_⟩
  exact hq _ n2 l _ _ r2.2 (e.trans (ExtE.new hl)) (S2.hnd.same (zaG hl)) (zhC e S2.hnd hl) zax (ziy hl (h2.append h4))
 ·exact r2.elim
def oMul:=gI CMul fun i j=>i*j
theorem zjA (ha:DL X a da) (hb:DL X b db):DE X (.BinOp a .Mult b pos) (dOp oMul da db):=zfF zbL gp_I ha hb
abbrev GD:=List PyData->Nat->(PyData->Nat->Prop)->Prop
def spD (K:PySem.W.Frag) (m:Nat) (g:GD):Sp:=fun vs H Q _=>∃ (hd:Option Addr) (O:Addr->Prop) (ts:List PyData) (n:Nat) (R:PyData->Nat->Prop),Reps K hd O H vs ts/\Hn hd H n/\(∀ a,O a->MutO (H a))/\(∀ a,hd=some a->O a)/\ts.length=m/\g ts n R /\
 ∀ t n' v H',R t n'->ExtE hd H H'->Hn hd H' n'->Rep K hd O H' v t->Q v H'
def dFn (g:GD) (ds:DTA):DTE:=fun ρ n R=>ds ρ n fun ts n1=>g ts n1 R
theorem zo4 {st:Stmt}{ps:List Str}{f:Addr}{fd:FuncData}{g:GD}{m:Nat} (D:Bd.Def X.K X.mg x st ps f fd) (G:FnOk X.prog X.w X.K X.mg X.base CX0 k f fd ps (spD X.K m g)) (hr:Room k X.A) (h:DB X (e::es) ds) (hm:(e::es).length=m:=by rfl) (hg:Gl X x:=by rfl)
  (hdb:(x == ("__debug__":Str))=false:=by decide):DE X (.Call (.Name x p) (e::es) [] pos) (dFn g ds):=by
 obtain ⟨ta,pa,h⟩:=h
 refine ⟨_,Bd.zlM D G hr pa hg hdb,fun C ρ σ H n Q R S hd hq=>?_⟩
 refine h C ρ σ H n _ _ S hd fun ts n1 vs H1 r1 e1 h1 q1 l1=>?_
 have S1:=S.on e1 h1
 rw [List.append_nil]
 exact ⟨C.hd,Own C ρ σ,ts,n1,R,q1,h1,fun a=>S1.lst,fun a z=>.inl (S.hx a z),l1.trans hm,r1,fun t n' v H' rt e2 h2 q2=>hq t n' v H' rt (e1.trans e2) h2 q2⟩
end
end L2
namespace L2
open PySem PySem.Spec PyProof.Rows
def Keep (C:Ctx) (ρ:En) (σ:St) (H:Hp) (ρ':En) (σ':St) (H':Hp):Prop:=∀ a o,H a=some o->C.hd≠some a->¬OwnS ρ σ a->H' a=some o/\¬OwnS ρ' σ' a
structure DEnds where
 nx:En->Nat->Prop
 rt:PyData->Nat->Prop
 bk:En->Nat->Prop:=fun _ _=>False
 ct:En->Nat->Prop:=fun _ _=>False
abbrev DTS:=DEnds->En->Nat->Prop
structure Good (K:PySem.W.Frag) (C:Ctx) (ρ:En) (σ:St) (H:Hp) (D:Ends) (D':DEnds):Prop where
 nx:∀ ρ' σ' H' n',D'.nx ρ' n'->Stt K C ρ' σ' H' n'->Keep C ρ σ H ρ' σ' H'->D.nx σ' H'
 rt:∀ t n' v H',D'.rt t n'->Hn C.hd H' n'->(∀ a o,H a=some o->C.hd≠some a->¬OwnS ρ σ a->H' a=some o)->Rep K C.hd C.ext H' v t->D.rt v H'
 bk:∀ ρ' σ' H' n',D'.bk ρ' n'->Stt K C ρ' σ' H' n'->Keep C ρ σ H ρ' σ' H'->D.bk σ' H'
 ct:∀ ρ' σ' H' n',D'.ct ρ' n'->Stt K C ρ' σ' H' n'->Keep C ρ σ H ρ' σ' H'->D.ct σ' H'
def DS (X:Cx) (st:Stmt) (d:DTS):Prop:=∃ ts,PS X st ts/\∀ (C:Ctx) (ρ:En) (σ:St) (H:Hp) (n:Nat) (D:Ends) (D':DEnds),Stt X.K C ρ σ H n->d D' ρ n->Good X.K C ρ σ H D D'->ts D σ H
def DSs (X:Cx) (st:List Stmt) (d:DTS):Prop:=∃ ts,PSs X st ts/\∀ (C:Ctx) (ρ:En) (σ:St) (H:Hp) (n:Nat) (D:Ends) (D':DEnds),Stt X.K C ρ σ H n->d D' ρ n->Good X.K C ρ σ H D D'->ts D σ H
section
variable {K:PySem.W.Frag}{C:Ctx}{ρ ρ1 ρ2:En}{σ σ1 σ2:St}{H H1 H2:Hp}{n n1:Nat}{D:Ends}{D':DEnds}
theorem Keep.refl:Keep C ρ σ H ρ σ H:=fun _ _ h _ no=>⟨h,no⟩
theorem Keep.trans (k1:Keep C ρ σ H ρ1 σ1 H1) (k2:Keep C ρ1 σ1 H1 ρ2 σ2 H2):Keep C ρ σ H ρ2 σ2 H2:=fun a o h nh no=>by
 obtain ⟨h1,no1⟩:=k1 a o h nh no
 exact k2 a o h1 nh no1
theorem ExtE.keep (e:ExtE C.hd H H1):Keep C ρ σ H ρ σ H1:=fun a o h nh no=>⟨e a o h nh,no⟩
theorem Good.on (g:Good K C ρ σ H D D') (k:Keep C ρ σ H ρ1 σ1 H1):Good K C ρ1 σ1 H1 D D' where
 nx:=fun ρ' σ' H' n' h S k'=>g.nx ρ' σ' H' n' h S (k.trans k')
 rt:=fun t n' v H' h hn k' r=>g.rt t n' v H' h hn (fun a o ha nh no=>by
  obtain ⟨h1,no1⟩:=k a o ha nh no
  exact k' a o h1 nh no1) r
 bk:=fun ρ' σ' H' n' h S k'=>g.bk ρ' σ' H' n' h S (k.trans k')
 ct:=fun ρ' σ' H' n' h S k'=>g.ct ρ' σ' H' n' h S (k.trans k')
theorem Keep.rep (k:Keep C ρ σ H ρ1 σ1 H1) (hx:∀ a,C.hd=some a->C.ext a) {v t} (r:Rep K C.hd (Own C ρ σ) H v t):Rep K C.hd (Own C ρ1 σ1) H1 v t :=
 Rep.mono (O:=Own C ρ σ) (fun a o h z=>by
  by_cases q:Own C ρ σ a
  ·exact q
  ·rcases z with z | z
   ·exact .inl z
   ·exact absurd z (k a o h (fun y=>q (.inl (hx a y))) fun y=>q (.inr y)).2) (fun a o no h=>(k a o h (fun y=>no (.inl (hx a y))) fun y=>no (.inr y)).1) r
theorem Keep.reps (k:Keep C ρ σ H ρ1 σ1 H1) (hx:∀ a,C.hd=some a->C.ext a) {v t} (r:Reps K C.hd (Own C ρ σ) H v t):Reps K C.hd (Own C ρ1 σ1) H1 v t :=
 Reps.mono (O:=Own C ρ σ) (fun a o h z=>by
  by_cases q:Own C ρ σ a
  ·exact q
  ·rcases z with z | z
   ·exact .inl z
   ·exact absurd z (k a o h (fun y=>q (.inl (hx a y))) fun y=>q (.inr y)).2) (fun a o no h=>(k a o h (fun y=>no (.inl (hx a y))) fun y=>no (.inr y)).1) r
theorem zal {α:Type}{l:List (Option α)}{i j:Nat}{v w:α} (h:(l.set i (some v))[j]?=some (some w)):(i=j/\v=w)\/(i≠j/\l[j]?=some (some w)):=by
 by_cases e:i=j
 ·subst e
  rw [List.getElem?_set] at h
  simp only [↓reduceIte] at h
  split at h
  ·simp at h;exact .inl ⟨rfl,h⟩
  ·cases h
 ·rw [List.getElem?_set_ne e] at h
  exact .inr ⟨e,h⟩
theorem zdh {α:Type}{l:List (Option α)}{i j:Nat}{v w:α} (e:i≠j) (h:l[j]?=some (some w)):(l.set i (some v))[j]?=some (some w):=by
 rw [List.getElem?_set_ne e];exact h
theorem zjk {α:Type}{l:List (Option α)}{i j:Nat}{v:α}{w:Option α} (h:(l.set i (some v))[j]?=some w) (e:i=j):i<l.length:=by
 subst e
 rw [List.getElem?_set] at h
 simp only [↓reduceIte] at h
 split at h
 ·assumption
 ·cases h
theorem zgT {α:Type}{l:List (Option α)}{i:Nat}{v:α} (h:i<l.length):(l.set i (some v))[i]?=some (some v):=by
 rw [List.getElem?_set];simp [h]
theorem zcD {i:Nat}{t:PyData}{v:V}{a:Addr} (h:OwnS (ρ.set i (some (.val t))) (σ.set i (some v)) a):OwnS ρ σ a:=by
 obtain ⟨j,c,m,h1,h2⟩:=h
 rcases zal h1 with ⟨_,z⟩ | ⟨e,h1⟩
 ·subst z;cases m
 ·rcases zal h2 with ⟨z,_⟩ | ⟨_,h2⟩
  ·exact absurd z e
  ·exact ⟨j,c,m,h1,h2⟩
def zbB (K:PySem.W.Frag) (hd:Option Addr) (O:Addr->Prop) (H:Hp) (a:Addr):Cell->Prop
 | .val _=>False
 | .rdo _=>False
 | .own ts=>∃ vs,H a=some (.lst vs)/\Reps K hd O H vs ts
 | .dct ks=>∃ kvs,H a=some (.dK kvs)/\zfP K hd O H kvs ks
theorem zbB.mono {hd:Option Addr}{O O':Addr->Prop}{H H':Hp}{a:Addr}{c:Cell} (x:zbB K hd O H a c) (ho:∀ a o,H a=some o->O' a->O a) (hh:∀ a o,¬O a->H a=some o->H' a=some o) (ha:∀ o,H a=some o->H' a=some o):zbB K hd O' H' a c:=by
 cases c with
 | val _=>exact x.elim
 | rdo _=>exact x.elim
 | own ts=>obtain ⟨vs,h1,h2⟩:=x;exact ⟨vs,ha _ h1,h2.mono ho hh⟩
 | dct ks=>obtain ⟨vs,h1,h2⟩:=x;exact ⟨vs,ha _ h1,h2.mono ho hh⟩
theorem zbB.some {hd:Option Addr}{O:Addr->Prop}{H:Hp}{a:Addr}{c:Cell} (x:zbB K hd O H a c):∃ o,H a=some o:=by
 cases c with
 | val _=>exact x.elim
 | rdo _=>exact x.elim
 | own ts=>obtain ⟨vs,h1,h2⟩:=x;exact ⟨_,h1⟩
 | dct ks=>obtain ⟨vs,h1,h2⟩:=x;exact ⟨_,h1⟩
theorem zbB.mine {hd:Option Addr}{O:Addr->Prop}{H:Hp}{a:Addr}{c:Cell} (x:zbB K hd O H a c):c.mine=true:=by
 cases c with
 | val _=>exact x.elim
 | rdo _=>exact x.elim
 | own ts=>rfl
 | dct ks=>rfl
theorem Stt.cell (S:Stt K C ρ σ H n) {i:Nat}{c:Cell} (m:c.mine=true) (h:ρ[i]?=some (some c)):∃ a:Addr,σ[i]?=some (some (V.ref a))/\zbB K C.hd (Own C ρ σ) H a c/\¬C.ext a:=by
 cases c with
 | val _=>cases m
 | rdo _=>cases m
 | own ts=>obtain ⟨a,vs,h1,h2,h3,h4⟩:=S.own i ts h;exact ⟨a,h1,⟨vs,h2,h3⟩,h4⟩
 | dct ks=>obtain ⟨a,vs,h1,h2,h3,h4⟩:=S.dct i ks h;exact ⟨a,h1,⟨vs,h2,h3⟩,h4⟩
def zkT (K:PySem.W.Frag) (C:Ctx) (ρ:En) (σ:St) (H:Hp):Prop:=∀ (i:Nat) (ks:List (Key×PyData)),ρ[i]?=some (some (Cell.rdo ks))->∃ a kvs,σ[i]?=some (some (V.ref a))/\H a=some (.dK kvs)/\zfP K C.hd (Own C ρ σ) H kvs ks/\C.ext a/\C.hd≠some a
theorem Stt.mk' (len:ρ.length=σ.length) (val:∀ (i:Nat) (d:PyData),ρ[i]?=some (some (Cell.val d))->∃ v,σ[i]?=some (some v)/\Rep K C.hd (Own C ρ σ) H v d)
  (cell:∀ (i:Nat) (c:Cell),c.mine=true->ρ[i]?=some (some c)->∃ a:Addr,σ[i]?=some (some (V.ref a))/\zbB K C.hd (Own C ρ σ) H a c/\¬C.ext a)
  (rdo:zkT K C ρ σ H) (dif:∀ (i j:Nat) (c e:Cell) (a:Addr),c.mine=true->e.mine=true->ρ[i]?=some (some c)->ρ[j]?=some (some e)->σ[i]?=some (some (V.ref a))->σ[j]?=some (some (V.ref a))->i=j)
  (hnd:Hn C.hd H n) (ext:∀ a,C.ext a->MutO (H a)) (hx:∀ a,C.hd=some a->C.ext a):Stt K C ρ σ H n where
 len:=len
 val:=val
 own:=fun i ts h=>by obtain ⟨a,h1,⟨vs,h2,h3⟩,h4⟩:=cell i _ rfl h;exact ⟨a,vs,h1,h2,h3,h4⟩
 dct:=fun i ts h=>by obtain ⟨a,h1,⟨vs,h2,h3⟩,h4⟩:=cell i _ rfl h;exact ⟨a,vs,h1,h2,h3,h4⟩
 rdo:=rdo
 dif:=dif
 hnd:=hnd
 ext:=ext
 hx:=hx
theorem Stt.put (S:Stt K C ρ σ H n) {i:Nat}{t:PyData}{v:V} (r:Rep K C.hd (Own C ρ σ) H v t):Stt K C (ρ.set i (some (.val t))) (σ.set i (some v)) H n:=by
 have sub:∀ a o,H a=some o->Own C (ρ.set i (some (.val t))) (σ.set i (some v)) a->Own C ρ σ a:=fun a o _ z=>z.elim .inl fun z=>.inr (zcD z)
 have mono:∀ {w u},Rep K C.hd (Own C ρ σ) H w u->Rep K C.hd (Own C (ρ.set i (some (.val t))) (σ.set i (some v))) H w u:=fun q=>q.mono sub fun _ _ _ z=>z
 refine .mk' (by simp [S.len]) (fun j d h=>?_) (fun j c m h=>?_) (fun j ks h=>?_) (fun j k c e a m1 m2 h1 h2 h3 h4=>?_) S.hnd S.ext S.hx
 rotate_left 2
 ·rcases zal h with ⟨_,z⟩ | ⟨e,h'⟩
  ·cases z
  ·obtain ⟨a,kvs,q1,q2,q3,q4⟩:=S.rdo j ks h'
   exact ⟨a,kvs,zdh e q1,q2,q3.mono sub fun _ _ _ z=>z,q4⟩
 rotate_left 1
 ·rcases zal h with ⟨e,z⟩ | ⟨e,h'⟩
  ·cases z
   have:=zjk h e
   subst e
   exact ⟨v,zgT (by rw [<- S.len];exact this),mono r⟩
  ·obtain ⟨w,h1,h2⟩:=S.val j d h'
   exact ⟨w,zdh e h1,mono h2⟩
 ·rcases zal h with ⟨e,z⟩ | ⟨e,h'⟩
  ·subst z;cases m
  ·obtain ⟨a,h1,h2,h3⟩:=S.cell m h'
   exact ⟨a,zdh e h1,h2.mono sub (fun _ _ _ z=>z) fun _ z=>z,h3⟩
 ·rcases zal h1 with ⟨e,z⟩ | ⟨e,h1'⟩
  ·subst z;cases m1
  ·rcases zal h2 with ⟨e2,z⟩ | ⟨e2,h2'⟩
   ·subst z;cases m2
   ·rcases zal h3 with ⟨z,_⟩ | ⟨_,h3'⟩
    ·exact absurd z e
    ·rcases zal h4 with ⟨z,_⟩ | ⟨_,h4'⟩
     ·exact absurd z e2
     ·exact S.dif j k c _ a m1 m2 h1' h2' h3' h4'
theorem zbf {i:Nat}{t:PyData}{v:V}:Keep C ρ σ H (ρ.set i (some (.val t))) (σ.set i (some v)) H:=fun a o h _ no=>⟨h,fun z=>no (zcD z)⟩
theorem zf6 {i:Nat}{c:Cell}{p a:Addr} (h:OwnS (ρ.set i (some c)) (σ.set i (some (.ref p))) a):OwnS ρ σ a\/a=p:=by
 obtain ⟨j,ds,m,h1,h2⟩:=h
 rcases zal h2 with ⟨e,z⟩ | ⟨e,h2⟩
 ·cases z;exact .inr rfl
 ·rcases zal h1 with ⟨z,_⟩ | ⟨_,h1⟩
  ·exact absurd z e
  ·exact .inl ⟨j,ds,m,h1,h2⟩
theorem Stt.putNew (S:Stt K C ρ σ H n) {i:Nat}{c:Cell}{p:Addr}{H':Hp} (e:ExtE C.hd H H') (h:Hn C.hd H' n1) (hp:H p=none) (r:zbB K C.hd (fun a=>Own C ρ σ a\/a=p) H' p c) :
  Stt K C (ρ.set i (some c)) (σ.set i (some (.ref p))) H' n1:=by
 have S':=S.on e h
 have mc:=r.mine
 have sub:∀ a,Own C (ρ.set i (some c)) (σ.set i (some (.ref p))) a->Own C ρ σ a\/a=p:=fun a z=>z.elim (fun z=>.inl (.inl z)) fun z=>(zf6 z).elim (fun z=>.inl (.inr z)) .inr
 have npx:¬C.ext p:=fun z=>S.dom (.inl z) hp
 have sb:∀ a o,H a=some o->Own C (ρ.set i (some c)) (σ.set i (some (.ref p))) a->Own C ρ σ a:=fun a o ho z=>(sub a z).elim id fun z=>by subst z;rw [hp] at ho;cases ho
 have kp:∀ a o,¬Own C ρ σ a->H a=some o->H' a=some o:=fun a o no ho=>e a o ho fun z=>no (.inl (S.hx a z))
 have notp:∀ (j:Nat) (d:Cell),d.mine=true->ρ[j]?=some (some d)->σ[j]?≠some (some (V.ref p)):=fun j d m h1 h2=>by
  obtain ⟨a,e1,e2,_⟩:=S.cell m h1
  rw [h2] at e1;cases e1
  obtain ⟨o,e2⟩:=e2.some
  rw [hp] at e2;cases e2
 refine .mk' (by simp [S.len]) (fun j d hj=>?_) (fun j d m hj=>?_) (fun j ks hj=>?_) (fun j k c1 c2 a m1 m2 h1 h2 h3 h4=>?_) h S'.ext S.hx
 rotate_left 2
 ·rcases zal hj with ⟨_,z⟩ | ⟨e',h'⟩
  ·subst z;cases mc
  ·obtain ⟨a,kvs,q1,q2,q3,q4,q5⟩:=S.rdo j ks h'
   exact ⟨a,kvs,zdh e' q1,e a _ q2 q5,q3.mono sb kp,q4,q5⟩
 rotate_left 1
 ·rcases zal hj with ⟨_,z⟩ | ⟨e',h'⟩
  ·subst z;cases mc
  ·obtain ⟨w,h1,h2⟩:=S.val j d h'
   exact ⟨w,zdh e' h1,h2.mono sb kp⟩
 ·rcases zal hj with ⟨e',z⟩ | ⟨e',h'⟩
  ·subst z
   have:=zjk hj e'
   subst e'
   exact ⟨p,zgT (by rw [<- S.len];exact this),r.mono (fun a o _ z=>sub a z) (fun _ _ _ z=>z) fun _ z=>z,npx⟩
  ·obtain ⟨a,h1,h2,h4⟩:=S.cell m h'
   exact ⟨a,zdh e' h1,h2.mono sb kp (fun o ho=>e a o ho fun z=>h4 (S.hx a z)),h4⟩
 ·rcases zal h3 with ⟨e3,z3⟩ | ⟨e3,h3'⟩
  ·cases z3
   rcases zal h4 with ⟨e4,_⟩ | ⟨e4,h4'⟩
   ·rw [<- e3,<- e4]
   ·rcases zal h2 with ⟨z,_⟩ | ⟨_,h2'⟩
    ·exact absurd z e4
    ·exact absurd h4' (notp k _ m2 h2')
  ·rcases zal h1 with ⟨z,_⟩ | ⟨_,h1'⟩
   ·exact absurd z e3
   ·rcases zal h4 with ⟨e4,z4⟩ | ⟨e4,h4'⟩
    ·cases z4;exact absurd h3' (notp j _ m1 h1')
    ·rcases zal h2 with ⟨z,_⟩ | ⟨_,h2'⟩
     ·exact absurd z e4
     ·exact S.dif j k _ _ a m1 m2 h1' h2' h3' h4'
theorem Stt.putOwn (S:Stt K C ρ σ H n) {i:Nat}{ts:List PyData}{p:Addr}{vs:List V}{H':Hp} (e:ExtE C.hd H H') (h:Hn C.hd H' n1) (hp:H p=none) (hp':H' p=some (.lst vs)) (r:Reps K C.hd (fun a=>Own C ρ σ a\/a=p) H' vs ts) :
  Stt K C (ρ.set i (some (.own ts))) (σ.set i (some (.ref p))) H' n1:=S.putNew e h hp ⟨vs,hp',r⟩
theorem zfr {i:Nat}{c:Cell}{p:Addr}{H':Hp} (e:ExtE C.hd H H') (hp:H p=none):Keep C ρ σ H (ρ.set i (some c)) (σ.set i (some (.ref p))) H':=fun a o h nh no =>
 ⟨e a o h nh,fun z=>(zf6 z).elim no fun z=>by subst z;rw [hp] at h;cases h⟩
theorem zfq {i:Nat}{ts:List PyData}{p:Addr}{H':Hp} (e:ExtE C.hd H H') (hp:H p=none):Keep C ρ σ H (ρ.set i (some (.own ts))) (σ.set i (some (.ref p))) H':=zfr e hp
theorem Stt.chgC (S:Stt K C ρ σ H n) {i:Nat}{c c':Cell}{p:Addr}{o':HO} (m:c.mine=true) (m':c'.mine=true) (h1:ρ[i]?=some (some c)) (h2:σ[i]?=some (some (.ref p)))
  (r:∀ (O':Addr->Prop) (H':Hp),(∀ a o,H a=some o->O' a->Own C ρ σ a)->(∀ a o,¬Own C ρ σ a->H a=some o->H' a=some o)->H' p=some o'->zbB K C.hd O' H' p c') :
  Stt K C (ρ.set i (some c')) σ (upd H p o') n/\Keep C ρ σ H (ρ.set i (some c')) σ (upd H p o'):=by
 have op:OwnS ρ σ p:=⟨i,c,m,h1,h2⟩
 obtain ⟨p',e1,hp,npx⟩:=S.cell m h1
 rw [h2] at e1;cases e1
 have own1:∀ a,OwnS (ρ.set i (some c')) σ a->OwnS ρ σ a:=fun a ⟨j,d,md,q1,q2⟩=>by
  rcases zal q1 with ⟨e,_⟩ | ⟨e,q1⟩
  ·subst e;rw [h2] at q2;cases q2;exact op
  ·exact ⟨j,d,md,q1,q2⟩
 have sub:∀ a o,H a=some o->Own C (ρ.set i (some c')) σ a->Own C ρ σ a:=fun a o _ z=>z.elim .inl fun z=>.inr (own1 a z)
 have kp:∀ a o,¬Own C ρ σ a->H a=some o->upd H p o' a=some o:=fun a o no ho=>by rw [zar (show a≠p from fun z=>no (by rw [z];exact .inr op))];exact ho
 have rd:zkT K C (ρ.set i (some c')) σ (upd H p o'):=fun j ks hj=>by
  rcases zal hj with ⟨_,z⟩ | ⟨e',h'⟩
  ·subst z;cases m'
  ·obtain ⟨a,kvs,q1,q2,q3,q4,q5⟩:=S.rdo j ks h'
   exact ⟨a,kvs,q1,by rw [zar (show a≠p from fun z=>npx (by rw [<- z];exact q4))];exact q2,q3.mono sub kp,q4,q5⟩
 refine ⟨.mk' (by simp [S.len]) (fun j d hj=>?_) (fun j d md hj=>?_) rd (fun j k c1 c2 a m1 m2 q1 q2 q3 q4=>?_) (fun a ha=>?_) (fun a ha=>?_) S.hx,fun a o h nh no=>⟨by rw [zar (show a≠p from fun z=>no (by rw [z];exact op))];exact h,fun z=>no (own1 a z)⟩⟩
 ·rcases zal hj with ⟨_,z⟩ | ⟨e',h'⟩
  ·subst z;cases m'
  ·obtain ⟨w,q1,q2⟩:=S.val j d h'
   exact ⟨w,q1,q2.mono sub kp⟩
 ·rcases zal hj with ⟨e',z⟩ | ⟨e',h'⟩
  ·subst z
   subst e'
   exact ⟨p,h2,r _ _ sub kp zax,npx⟩
  ·obtain ⟨a,q1,q2,q4⟩:=S.cell md h'
   have:a≠p:=fun z=>by subst z;exact e' (S.dif i j c d a m md h1 h' h2 q1)
   exact ⟨a,q1,q2.mono sub kp (fun o ho=>by rw [zar this];exact ho),q4⟩
 ·have get:∀ (j:Nat) (d:Cell),d.mine=true->(ρ.set i (some c'))[j]?=some (some d)->∃ d':Cell,d'.mine=true/\ρ[j]?=some (some d'):=fun j d md q=>by
   rcases zal q with ⟨e,_⟩ | ⟨_,q⟩
   ·subst e;exact ⟨_,m,h1⟩
   ·exact ⟨_,md,q⟩
  obtain ⟨d1,md1,g1⟩:=get j c1 m1 q1
  obtain ⟨d2,md2,g2⟩:=get k c2 m2 q2
  exact S.dif j k d1 d2 a md1 md2 g1 g2 q3 q4
 ·obtain ⟨d,m,t,q,rest⟩:=S.hnd a ha
  exact ⟨d,m,t,by rw [zar (show a≠p from fun z=>npx (by rw [<- z];exact S.hx a ha))];exact q,rest⟩
 ·by_cases z:a=p
  ·subst z;exact absurd ha npx
  ·rw [zar z];exact S.ext a ha
theorem Stt.chg (S:Stt K C ρ σ H n) {i:Nat}{ts us:List PyData}{p:Addr}{ws:List V} (h1:ρ[i]?=some (some (.own ts))) (h2:σ[i]?=some (some (.ref p))) (r:Reps K C.hd (Own C ρ σ) H ws us) :
  Stt K C (ρ.set i (some (.own us))) σ (upd H p (.lst ws)) n/\Keep C ρ σ H (ρ.set i (some (.own us))) σ (upd H p (.lst ws)):=S.chgC rfl rfl h1 h2 fun _ _ a b hp=>⟨ws,hp,r.mono a b⟩
theorem Stt.freeze (S:Stt K C ρ σ H n) {i:Nat}{ts:List PyData} (h1:ρ[i]?=some (some (.own ts))):Stt K C (ρ.set i (some (.val (.list ts)))) σ H n/\Keep C ρ σ H (ρ.set i (some (.val (.list ts)))) σ H:=by
 obtain ⟨p,vs,h2,hp,hr,npx⟩:=S.own i ts h1
 have own1:∀ a,OwnS (ρ.set i (some (.val (.list ts)))) σ a->OwnS ρ σ a/\a≠p:=fun a ⟨j,ds,m,q1,q2⟩=>by
  rcases zal q1 with ⟨_,z⟩ | ⟨e,q1⟩
  ·subst z;cases m
  ·exact ⟨⟨j,ds,m,q1,q2⟩,fun z=>by subst z;exact e (S.dif i j (.own ts) ds a rfl m h1 q1 h2 q2)⟩
 have sub:∀ a o,H a=some o->Own C (ρ.set i (some (.val (.list ts)))) σ a->Own C ρ σ a:=fun a o _ z=>z.elim .inl fun z=>.inr (own1 a z).1
 have rd:zkT K C (ρ.set i (some (.val (.list ts)))) σ H:=fun j ks hj=>by
  rcases zal hj with ⟨_,z⟩ | ⟨e',h'⟩
  ·cases z
  ·obtain ⟨a,kvs,q1,q2,q3,q4⟩:=S.rdo j ks h'
   exact ⟨a,kvs,q1,q2,q3.mono sub fun _ _ _ z=>z,q4⟩
 refine ⟨.mk' (by simp [S.len]) (fun j d hj=>?_) (fun j d m hj=>?_) rd (fun j k c1 c2 a m1 m2 q1 q2 q3 q4=>?_) S.hnd S.ext S.hx,fun a o h _ no=>⟨h,fun z=>no (own1 a z).1⟩⟩
 ·rcases zal hj with ⟨e',z⟩ | ⟨e',h'⟩
  ·cases z
   subst e'
   exact ⟨.ref p,h2,.lst hp (fun z=>z.elim npx fun z=>(own1 p z).2 rfl) (hr.mono sub fun _ _ _ z=>z)⟩
  ·obtain ⟨w,q1,q2⟩:=S.val j d h'
   exact ⟨w,q1,q2.mono sub fun _ _ _ z=>z⟩
 ·rcases zal hj with ⟨_,z⟩ | ⟨e',h'⟩
  ·subst z;cases m
  ·obtain ⟨a,q1,q3,q4⟩:=S.cell m h'
   exact ⟨a,q1,q3.mono sub (fun _ _ _ z=>z) fun _ z=>z,q4⟩
 ·rcases zal q1 with ⟨_,z⟩ | ⟨_,g1⟩
  ·subst z;cases m1
  ·rcases zal q2 with ⟨_,z⟩ | ⟨_,g2⟩
   ·subst z;cases m2
   ·exact S.dif j k _ _ a m1 m2 g1 g2 q3 q4
end
end L2
namespace L2
open PySem PySem.Spec PyProof.Rows
section
variable {X:Cx}{a b c e:Expr}{es rest:List Expr}{d da db dc:DTE}{ds:DTA}{dt:DTT}{t u:DTS}{st:Stmt}{sts sa sb:List Stmt}{pos p:Pos}{k:Nat}{x:Str}
def zjM:DTS:=fun D ρ n=>D.nx ρ n
def sSeq (t u:DTS):DTS:=fun D ρ n=>t { D with nx:=u D } ρ n
theorem zaF:DSs X [] zjM:=⟨_,zfj,fun C ρ σ H n D D' S h g=>g.nx ρ σ H n h S Keep.refl⟩
theorem zaf (h1:DS X st t) (h2:DSs X sts u):DSs X (st::sts) (sSeq t u):=by
 obtain ⟨ta,pa,h1⟩:=h1
 obtain ⟨tb,pb,h2⟩:=h2
 refine ⟨_,zaP pa pb,fun C ρ σ H n D D' S h g=>?_⟩
 exact h1 C ρ σ H n _ _ S h ⟨fun ρ' σ' H' n' hn S' k=>h2 C ρ' σ' H' n' D D' S' hn (g.on k),g.rt,g.bk,g.ct⟩
theorem zaj (h1:DS X st t):DSs X [st] t:=by
 obtain ⟨ta,pa,h1⟩:=h1
 exact ⟨_,zcT pa,h1⟩
def zcL (i:Nat) (t:DTS):DTS:=fun D ρ n=>match ρ[i]? with | some (some (.own ts))=>t D (ρ.set i (some (.val (.list ts)))) n | _=>False
theorem zbG (i:Nat) (h1:DSs X sts t):DSs X sts (zcL i t):=by
 obtain ⟨ta,pa,h1⟩:=h1
 refine ⟨_,pa,fun C ρ σ H n D D' S h g=>?_⟩
 unfold zcL at h
 split at h
 ·rename_i ts et
  obtain ⟨S',kp⟩:=S.freeze et
  exact h1 C _ σ H n D D' S' h (g.on kp)
 ·exact h.elim
def sRet (d:DTE):DTS:=fun D ρ n=>d ρ n fun t n'=>D.rt t n'
theorem zas (h:DE X e d):DS X (.Return (some e) pos) (sRet d):=by
 obtain ⟨ta,pa,h⟩:=h
 refine ⟨_,zf1 pa,fun C ρ σ H n D D' S hd g=>?_⟩
 refine h C ρ σ H n _ _ S hd fun t n' v H' r e1 h1 q=>?_
 exact g.rt t n' v H' r h1 (fun a o ha nh _=>e1 a o ha nh) (q.mono (fun _ _ _ z=>.inl z) fun _ _ _ z=>z)
def sIf (c:DTT) (t u:DTS):DTS:=fun D ρ n=>c ρ n fun b n1=>if b=true then t D ρ n1 else u D ρ n1
theorem zbt (hc:DT X c dt) (h1:DSs X sa t) (h2:DSs X sb u):DS X (.If c sa sb pos) (sIf dt t u):=by
 obtain ⟨tc,pc,hc⟩:=hc
 obtain ⟨ta,pa,h1⟩:=h1
 obtain ⟨tb,pb,h2⟩:=h2
 refine ⟨_,zjP pc pa pb,fun C ρ σ H n D D' S hd g=>?_⟩
 refine hc C ρ σ H n _ _ S hd fun b n1 H1 r e1 hn=>?_
 cases b with
 | true=>exact iteT (h1 C ρ σ H1 n1 D D' (S.on e1 hn) (by simpa using r) (g.on e1.keep))
 | false=>exact iteF (h2 C ρ σ H1 n1 D D' (S.on e1 hn) (by simpa using r) (g.on e1.keep))
def sSet (i:Nat) (d:DTE):DTS:=fun D ρ n=>d ρ n fun t n'=>D.nx (ρ.set i (some (.val t))) n'
theorem zbs {i:Nat}{pos':Pos} (hN:X.N.Nodup) (hi:X.N[i]?=some x) (hx:Loc X.env.scope x) (h:DE X e d) (hs:swapsWith e (some (.Name x pos')) pos.line X.env=pure false:=by rfl) (hf:X.fn x=true\/X.env.scope.names.lookup x=some .local:=by first | exact .inl rfl | exact .inr rfl | assumption) :
  DS X (.Assign [.Name x pos'] e pos) (sSet i d):=by
 obtain ⟨ta,pa,h⟩:=h
 refine ⟨_,zbK hN hi hx pa hs hf,fun C ρ σ H n D D' S hd g=>?_⟩
 refine h C ρ σ H n _ _ S hd fun t n' v H' r e1 h1 q=>?_
 exact g.nx _ _ H' n' r ((S.on e1 h1).put q) (e1.keep.trans zbf)
def sOwn (i:Nat) (d:DTA):DTS:=fun D ρ n=>d ρ n fun ts n'=>D.nx (ρ.set i (some (.own ts))) n'
theorem zjw {i:Nat}{pos':Pos} (hN:X.N.Nodup) (hi:X.N[i]?=some x) (hx:Loc X.env.scope x) (h:DN X e ds) (hs:swapsWith e (some (.Name x pos')) pos.line X.env=pure false:=by rfl) (hf:X.fn x=true\/X.env.scope.names.lookup x=some .local:=by first | exact .inl rfl | exact .inr rfl | assumption) :
  DS X (.Assign [.Name x pos'] e pos) (sOwn i ds):=by
 obtain ⟨ta,pa,h⟩:=h
 refine ⟨_,zbK hN hi hx pa hs hf,fun C ρ σ H n D D' S hd g=>?_⟩
 refine h C ρ σ H n _ _ S hd fun ts n' p vs H' r e1 h1 hp hp' q=>?_
 exact g.nx _ _ H' n' r (S.putOwn e1 h1 hp hp' q) (zfq e1 hp)
abbrev DTG:=PyData->En->(En->Prop)->Prop
abbrev DTGs:=List PyData->En->(En->Prop)->Prop
def DG (X:Cx) (tg:Expr) (is:List Nat) (d:DTG):Prop:=(∀ t ρ R,d t ρ R->∃ ρ',R ρ')/\∃ g,PG X tg g/\∀ (C:Ctx) (ρ:En) (σ:St) (H:Hp) (n:Nat) (v:V) (t:PyData) (Q:St->Hp->Prop) (R:En->Prop),Stt X.K C ρ σ H n->Rep X.K C.hd (Own C ρ σ) H v t->d t ρ R ->
 (∀ ρ' σ',R ρ'->Stt X.K C ρ' σ' H n->Keep C ρ σ H ρ' σ' H->(∀ j,j∉is->σ'[j]?=σ[j]?)->σ'.length=σ.length->Q σ' H)->g v σ H Q
def DGs (X:Cx) (tgs:List Expr) (is:List Nat) (d:DTGs):Prop:=(∀ ts ρ R,d ts ρ R->ts.length=tgs.length)/\(∀ t ρ R,d t ρ R->∃ ρ',R ρ')/\∃ g,PGs X tgs g/\∀ (C:Ctx) (ρ:En) (σ:St) (H:Hp) (n:Nat) (vs:List V) (ts:List PyData) (Q:St->Hp->Prop) (R:En->Prop),Stt X.K C ρ σ H n->Reps X.K C.hd (Own C ρ σ) H vs ts->d ts ρ R ->
 (∀ ρ' σ',R ρ'->Stt X.K C ρ' σ' H n->Keep C ρ σ H ρ' σ' H->(∀ j,j∉is->σ'[j]?=σ[j]?)->σ'.length=σ.length->Q σ' H)->g vs σ H Q
def zgM (i:Nat):DTG:=fun t ρ R=>R (ρ.set i (some (.val t)))
def zjF:DTGs:=fun ts ρ R=>match ts with | []=>R ρ | _=>False
def zgN (d:DTG) (ds:DTGs):DTGs:=fun ts ρ R=>match ts with | t::ts=>d t ρ fun ρ'=>ds ts ρ' R | []=>False
def zjE (ds:DTGs):DTG:=fun t ρ R=>match t with | .tuple ts=>ds ts ρ R | _=>False
theorem zaJ {i:Nat} (hN:X.N.Nodup) (hi:X.N[i]?=some x) (hx:Loc X.env.scope x) (hf:X.fn x=true\/X.env.scope.names.lookup x=some .local:=by first | exact .inl rfl | exact .inr rfl | assumption):DG X (.Name x pos) [i] (zgM i):=by
 refine ⟨fun t ρ R h=>⟨_,h⟩,_,zdD hN hi hx hf,fun C ρ σ H n v t Q R S r hd hq=>?_⟩
 exact hq _ _ hd (S.put r) zbf (fun j hj=>by rw [List.getElem?_set_ne (fun z=>hj (by simp [z]))]) (by simp)
theorem zdV:DGs X [] [] zjF:=by
 refine ⟨fun ts ρ R h=>?_,fun ts ρ R h=>?_,_,zg4,fun C ρ σ H n vs ts Q R S r hd hq=>?_⟩
 ·cases ts with
  | nil=>rfl
  | cons _ _=>exact h.elim
 ·cases ts with
  | nil=>exact ⟨_,h⟩
  | cons _ _=>exact h.elim
 ·cases r with
  | nil=>exact ⟨rfl,hq _ _ hd S Keep.refl (fun _ _=>rfl) rfl⟩
  | cons _ _=>exact hd.elim
theorem zbg {is js:List Nat}{g:DTG}{gs:DTGs} (h1:DG X e is g) (h2:DGs X es js gs) (hs:(assignEach (e::es) X.env).map (·.2)=assign e X.env::(assignEach es X.env).map (·.2):=by rfl):DGs X (e::es) (is++js) (zgN g gs):=by
 obtain ⟨w1,ga,pa,h1⟩:=h1
 obtain ⟨l2,w2,gb,pb,h2⟩:=h2
 refine ⟨fun ts ρ R h=>?_,fun ts ρ R h=>?_,_,zcC pa pb hs,fun C ρ σ H n vs ts Q R S r hd hq=>?_⟩
 ·cases ts with
  | nil=>exact h.elim
  | cons t ts =>
   obtain ⟨ρ',h'⟩:=w1 t ρ _ h
   simp [l2 ts ρ' R h']
 ·cases ts with
  | nil=>exact h.elim
  | cons t ts =>
   obtain ⟨ρ',h'⟩:=w1 t ρ _ h
   exact w2 ts ρ' R h'
 ·cases r with
  | nil=>exact hd.elim
  | cons r rs =>
   refine ⟨_,_,rfl,h1 C ρ σ H n _ _ _ _ S r hd fun ρ' σ' hr S' kp hj hl=>?_⟩
   refine h2 C ρ' σ' H n _ _ _ _ S' (kp.reps S.hx rs) hr fun ρ2 σ2 hr2 S2 kp2 hj2 hl2=>?_
   exact hq ρ2 σ2 hr2 S2 (kp.trans kp2) (fun j hj'=>by rw [hj2 j (fun z=>hj' (by simp [z])),hj j (fun z=>hj' (by simp [z]))]) (hl2.trans hl)
theorem zgg {is:List Nat}{gs:DTGs}{k:Nat} (hc:X.calm=true) (h:DGs X es is gs) (hn:(assignEach es X.env).length=es.length:=by rfl) (hst:(assignEach es X.env).findIdx? (·.1)=none:=by rfl):DG X (.Tuple es k pos) is (zjE gs):=by
 obtain ⟨l,w,g,pg,h⟩:=h
 refine ⟨fun t ρ R h=>?_,_,zlE hc pg hn hst,fun C ρ σ H n v t Q R S r hd hq=>?_⟩
 ·cases t with
  | tuple ts=>exact w ts ρ R h
  | _=>exact h.elim
 ·cases t with
  | tuple ts =>
   obtain ⟨p,vs,rfl,h1,h2⟩:=r.tupI
   exact ⟨p,vs,rfl,h1,by rw [h2.length];exact l ts ρ R hd,h C ρ σ H n vs ts Q R S h2 hd hq⟩
  | _=>exact hd.elim
def sAsg (d:DTE) (g:DTG):DTS:=fun D ρ n=>d ρ n fun t n'=>g t ρ fun ρ'=>D.nx ρ' n'
theorem zhK {tg:Expr}{is:List Nat}{g:DTG} (h:DE X e d) (hg:DG X tg is g) (hs:swapsWithSole [tg] e pos.line X.env=pure false:=by rfl) (hw:swappedStores [tg] e X.env=pure none:=by rfl)
  (h1:(assignEach [tg] X.env).map (·.2)=[assign tg X.env]:=by rfl):DS X (.Assign [tg] e pos) (sAsg d g):=by
 obtain ⟨ta,pa,h⟩:=h
 obtain ⟨w,gb,pb,hg⟩:=hg
 refine ⟨_,zf2 pa pb hs hw h1,fun C ρ σ H n D D' S hd gd=>?_⟩
 refine h C ρ σ H n _ _ S hd fun t n' v H' r e1 hn q=>?_
 exact hg C ρ σ H' n' v t _ _ (S.on e1 hn) q r fun ρ' σ' hr S' kp _ _=>gd.nx ρ' σ' H' n' hr S' (e1.keep.trans kp)
def zcM (i:Nat) (d:DTE):DTS:=fun D ρ n=>match ρ[i]? with
 | some (some (.own ts))=>d ρ n fun t n'=>ts.length<16777216/\D.nx (ρ.set i (some (.own (ts++[t])))) n'
 | _=>False
theorem zhL (i:Nat) {p1 p2 p3:Pos} (h:DE X e d) (hN:X.N[i]?=some x:=by rfl) (hv:Vis X.env.scope x:=by first | exact Or.inl rfl | exact Or.inr (Or.inl rfl) | exact Or.inr (Or.inr rfl)) (hd:(x == ("__debug__":Str))=false:=by decide)
  (hcd:(x == ("__classdict__":Str))=false:=by decide) (hs:swapsWith (.Call (.Attribute (.Name x p1) "append" p2) [e] [] p3) none pos.line X.env=pure false:=by rfl)
  (hbase:attributeBase (.Name x p1) "append" X.env (eval (.Name x p1) X.env)=eval (.Name x p1) X.env:=by rfl)
  (hfew:((backTo p3 (starEach [e] X.env)).all (fun x=>!x.1)&&(backToKw p3 (keywordEach [] X.env)).all (fun x=>x.1.isSome)
   && decide ([e].length+([]:List Keyword).length+(if ([]:List Keyword).isEmpty then 0 else 1)<30))=true:=by rfl)
  (hline:(p2.endLine == p3.line)=true:=by rfl) (hst:starEach [e] X.env=[(false,eval e X.env)]:=by rfl):DS X (.Expr (.Call (.Attribute (.Name x p1) "append" p2) [e] [] p3) pos) (zcM i d):=by
 obtain ⟨ta,pa,h⟩:=h
 refine ⟨_,zjQ (zom PySem.F.plainAttrs_list PySem.F.slot_list_append PySem.F.type_list_append zeq (zcW hN hv hd hcd) (zcX pa zf5 hst) hbase hfew hline hst rfl) hs,fun C ρ σ H n D D' S hd g=>?_⟩
 unfold zcM at hd
 split at hd
 ·rename_i ts et
  obtain ⟨p,vs,h1,h2,h3,h4⟩:=S.own i ts et
  refine ⟨.ref p,h1,.inl ⟨rfl,_,SqL.of h2⟩,?_⟩
  refine h C ρ σ H n _ _ S hd fun t n' v H' r e1 hn q=>?_
  have S1:=S.on e1 hn
  obtain ⟨p',vs',h1',h2',h3',h4'⟩:=S1.own i ts et
  rw [h1] at h1';cases h1'
  refine ⟨p,vs',v,rfl,rfl,h2',by rw [h3'.length];exact r.1,?_⟩
  obtain ⟨S2,k2⟩:=S1.chg et h1 (h3'.append (.cons q .nil))
  exact g.nx _ _ _ n' r.2 S2 (e1.keep.trans k2)
 ·exact hd.elim
end
end L2
namespace L2
open PySem PySem.Spec PyProof.Rows
def ItOk (K:PySem.W.Frag) (hd:Option Addr) (P O:Addr->Prop) (H:Hp) (J:It) (ts:List PyData):Prop:=∀ (O2:Addr->Prop) (H2:Hp),(∀ a o,H a=some o->P a->H2 a=some o)->(∀ a o,H a=some o->¬O a->¬O2 a)->(∀ a,O2 a->H2 a≠none) ->
 (∀ i t,ts[i]?=some t->J.go i H2/\∀ x H3,J.yld i H2 x H3->Same H2 H3/\Rep K hd O2 H3 x t)/\J.stop ts.length H2
def DI (X:Cx) (tg iter:Expr) (d:DTA):Prop:=∃ wi,PI X tg iter wi/\∀ (C:Ctx) (ρ:En) (σ:St) (H:Hp) (n:Nat) (Q:It->Hp->Prop) (R:List PyData->Nat->Prop),Stt X.K C ρ σ H n->d ρ n R ->
 (∀ ts n' J H',R ts n'->ExtE C.hd H H'->Hn C.hd H' n'->ItOk X.K C.hd (fun a=>¬Own C ρ σ a) (Own C ρ σ) H' J ts->Q J H')->wi σ H Q
def DIL (X:Cx) (tg iter:Expr) (d:DTA):Prop:=∃ wi,PI X tg iter wi/\∀ (C:Ctx) (ρ:En) (σ:St) (H:Hp) (n:Nat) (Q:It->Hp->Prop) (R:List PyData->Nat->Prop),Stt X.K C ρ σ H n->d ρ n R ->
 (∀ ts n' J H',R ts n'->ExtE C.hd H H'->Hn C.hd H' n'->ItOk X.K C.hd (fun a=>C.hd≠some a) (Own C ρ σ) H' J ts->Q J H')->wi σ H Q
section
variable {X:Cx}{a b c e tg iter:Expr}{es rest:List Expr}{d da db dc:DTE}{ds di:DTA}{dt:DTT}{t u:DTS}{st:Stmt}{sts sa sb:List Stmt}{pos p:Pos}{k:Nat}{x:Str}
theorem dil (h:DI X tg iter di):DIL X tg iter di:=by
 obtain ⟨wi,pi,h⟩:=h
 refine ⟨wi,pi,fun C ρ σ H n Q R S hd hq=>h C ρ σ H n Q R S hd fun ts n' J H' r e1 hn it=>hq ts n' J H' r e1 hn ?_⟩
 exact fun O2 H2 h1 h2 h3=>it O2 H2 (fun a o ha no=>h1 a o ha fun z=>no (.inl (S.hx a z))) h2 h3
theorem Reps.getP {K:PySem.W.Frag}{hd:Option Addr}{O:Addr->Prop}{H:Hp}{vs ts}{i:Nat}{t}{x:V} (r:Reps K hd O H vs ts) (h:ts[i]?=some t) (hx:vs[i]?=some x):Rep K hd O H x t:=by
 obtain ⟨v,h1,h2⟩:=r.get h
 rw [hx] at h1;cases h1;exact h2
theorem zkq {K:PySem.W.Frag}{hd:Option Addr}{P O:Addr->Prop}{H:Hp}{q:Addr}{vs ts} (hq:H q=some (.lst vs)) (hP:P q) (hO:∀ a,¬O a->P a) (r:Reps K hd O H vs ts):ItOk K hd P O H (Itl K q) ts:=by
 intro O2 H2 h1 h2 _
 have hq2:=h1 q _ hq hP
 have r2:Reps K hd O2 H2 vs ts:=r.mono (fun a o ha z=>Classical.byContradiction fun no=>h2 a o ha no z) fun a o no ha=>h1 a o ha (hO a no)
 refine ⟨fun i t et=>?_,⟨vs,.of hq2,by rw [r.length];exact Nat.le_refl _⟩⟩
 obtain ⟨v,ev,rv⟩:=r2.get et
 refine ⟨⟨vs,v,.of hq2,ev⟩,fun x H3 hy=>?_⟩
 obtain ⟨rfl,hy⟩:=hy
 exact ⟨Same.refl _,r2.getP et (hy vs (.of hq2))⟩
theorem zmv {K:PySem.W.Frag}{hd:Option Addr}{P O:Addr->Prop}{H:Hp}{v:V}{ts} (hO:∀ a,¬O a->P a) (r:Rep K hd O H v (.tuple ts)):∃ q vs,v=.ref q/\SqT K H q vs/\ItOk K hd P O H (Itt K q) ts:=by
 have key:∀ q vs,Reps K hd O H vs ts->(∀ (O2:Addr->Prop) (H2:Hp),(∀ a o,H a=some o->P a->H2 a=some o)->(∀ a o,H a=some o->¬O a->¬O2 a)->SqT K H2 q vs)->ItOk K hd P O H (Itt K q) ts:=by
  intro q vs r hs O2 H2 h1 h2 _
  have hq2:=hs O2 H2 h1 h2
  have r2:Reps K hd O2 H2 vs ts:=r.mono (fun a o ha z=>Classical.byContradiction fun no=>h2 a o ha no z) fun a o no ha=>h1 a o ha (hO a no)
  refine ⟨fun i t et=>?_,⟨vs,hq2,by rw [r.length];exact Nat.le_refl _⟩⟩
  obtain ⟨v,ev,rv⟩:=r2.get et
  refine ⟨⟨vs,v,hq2,ev⟩,fun x H3 hy=>?_⟩
  obtain ⟨rfl,hy⟩:=hy
  exact ⟨Same.refl _,r2.getP et (hy vs hq2)⟩
 cases r with
 | @tup q vs ds h o r=>exact ⟨q,vs,rfl,.inl (.inl h),key q vs r fun O2 H2 h1 _=>.inl (.inl (h1 q _ h (hO q o)))⟩
 | @tupS q vs ds h r=>exact ⟨q,vs,rfl,h.sq,key q vs r fun O2 H2 _ _=>h.sq⟩
def dItL (d:DTE):DTA:=fun ρ n R=>d ρ n fun t n'=>match t with | .list ts=>R ts n' | _=>False
def dItT (d:DTE):DTA:=fun ρ n R=>d ρ n fun t n'=>match t with | .tuple ts=>R ts n' | _=>False
theorem zfD (h:DE X iter d):DI X tg iter (dItL d):=by
 obtain ⟨ta,pa,h⟩:=h
 refine ⟨_,zjW pa,fun C ρ σ H n Q R S hd hq=>?_⟩
 refine h C ρ σ H n _ _ S hd fun t n' v H' r e1 hn q=>?_
 cases t with
 | list ts =>
  obtain ⟨p,vs,rfl,h1,no,h2⟩:=q.lstI
  exact ⟨p,rfl,⟨vs,.of h1⟩,hq ts n' _ H' r e1 hn (zkq h1 no (fun _ z=>z) h2)⟩
 | _=>exact r.elim
theorem zjx (h:DE X iter d):DI X tg iter (dItT d):=by
 obtain ⟨ta,pa,h⟩:=h
 refine ⟨_,zlC pa,fun C ρ σ H n Q R S hd hq=>?_⟩
 refine h C ρ σ H n _ _ S hd fun t n' v H' r e1 hn q=>?_
 cases t with
 | tuple ts =>
  obtain ⟨p,vs,rfl,h1,it⟩:=zmv (P:=fun a=>¬Own C ρ σ a) (fun _ z=>z) q
  exact ⟨p,rfl,⟨vs,h1⟩,hq ts n' _ H' r e1 hn it⟩
 | _=>exact r.elim
def zbp (lo:Int) (n:Nat):List PyData:=(List.range n).map fun (i:Nat)=>PyData.int (lo+(i:Int))
theorem ziX {K:PySem.W.Frag}{hd:Option Addr}{P O:Addr->Prop}{H:Hp}{lo:Int}{m:Nat}:ItOk K hd P O H (Itr lo m) (zbp lo m):=by
 intro O2 H2 _ _ _
 refine ⟨fun i t et=>?_,by show m<=(zbp lo m).length;simp [zbp]⟩
 unfold zbp at et
 rw [List.getElem?_map] at et
 by_cases hi:i<m
 ·rw [List.getElem?_range hi] at et
  cases et
  refine ⟨hi,fun x H3 hy=>?_⟩
  obtain ⟨rfl,rfl⟩:=hy
  exact ⟨Same.refl _,.int _⟩
 ·rw [List.getElem?_eq_none (by simp;omega)] at et
  cases et
def zhR (d:DTE):DTA:=fun ρ n R=>d ρ n fun t n'=>match t with | .int j=>(-(2 ^ 62)<=j/\j<2 ^ 62)/\R (zbp 0 j.toNat) n' | _=>False
theorem zc5 (hm:X.mg "range" = none) (h:DE X a d) (hg:Gl X "range":=by rfl) (hs:starEach [a] X.env=[(false,eval a X.env)]:=by rfl):DI X tg (.Call (.Name "range" p) [a] [] pos) (zhR d):=by
 obtain ⟨ta,pa,h⟩:=h
 refine ⟨_,zg3 hg hm (zcX pa zf5 hs) hs,fun C ρ σ H n Q R S hd hq=>?_⟩
 refine h C ρ σ H n _ _ S hd fun t n' v H' r e1 hn q=>?_
 cases t with
 | int j =>
  rw [q.intI]
  exact ⟨j,rfl,r.1.1,r.1.2,hq _ n' _ H' r.2 e1 hn ziX⟩
 | _=>exact r.elim
def forP (g:DTG) (tb:DTS) (D:DEnds):List PyData->En->Nat->Prop
 | [],ρ,n=>D.nx ρ n
 | t::ts,ρ,n=>g t ρ fun ρ'=>tb { D with nx:=forP g tb D ts,ct:=forP g tb D ts,bk:=D.nx } ρ' n
def sFor (di:DTA) (g:DTG) (tb:DTS):DTS:=fun D ρ n=>di ρ n fun ts n1=>forP g tb D ts ρ n1
theorem zgf {is:List Nat}{g:DTG} (hp:PassesOwn (model X.prog X.w) X.A X.env X.xe) (hc:X.calm=true) (hi:DI X tg iter di) (hg:DG X tg is g) (hb:DSs X sa t)
  (hs:∀ x,foldedSetIterable iter X.env x=pure x:=by intro _;rfl):DS X (.For tg iter sa [] pos) (sFor di g t):=by
 obtain ⟨wi,pi,hi⟩:=hi
 obtain ⟨_,gg,pg,hg⟩:=hg
 obtain ⟨tb,pb,hb⟩:=hb
 refine ⟨_,zly hp hc pi pg pb hs,fun C ρ σ H n D D' S hd gd=>?_⟩
 refine hi C ρ σ H n _ _ S hd fun ts n1 J H1 r e1 hn it=>?_
 have S1:=S.on e1 hn
 refine ⟨fun i m σ2 H2=>m=ts.length - i/\i<=ts.length/\∃ ρ2 n2,forP g t D' (ts.drop i) ρ2 n2/\Stt X.K C ρ2 σ2 H2 n2/\Keep C ρ σ H1 ρ2 σ2 H2,⟨ts.length,by simp,Nat.zero_le _,ρ,n1,by simpa using r,S1,Keep.refl⟩,?_⟩
 rintro i m σ2 H2 ⟨rfl,hi',ρ2,n2,f2,S2,k2⟩
 have itq:=it (Own C ρ2 σ2) H2 (fun a o ha no=>(k2 a o ha (fun z=>no (.inl (S.hx a z))) fun z=>no (.inr z)).1) (fun a o ha no z=>z.elim (fun z=>no (.inl z)) fun z=>(k2 a o ha (fun y=>no (.inl (S.hx a y))) fun y=>no (.inr y)).2 z) (fun a=>S2.dom)
 by_cases hlt:i<ts.length
 ·have et:ts[i]?=some ts[i]:=List.getElem?_eq_getElem hlt
  obtain ⟨go,yl⟩:=itq.1 i _ et
  rw [List.drop_eq_getElem_cons hlt] at f2
  refine .inr ⟨go,fun σ' H'=>∃ ρ' n',forP g t D' (ts.drop (i+1)) ρ' n'/\Stt X.K C ρ' σ' H' n'/\Keep C ρ σ H1 ρ' σ' H',fun σ' H' z=>⟨ts.length - (i+1),by omega,rfl,hlt,z⟩,fun x H3 hy=>?_⟩
  obtain ⟨sm,rx⟩:=yl x H3 hy
  have S3:=S2.on sm.ext (S2.hnd.same sm)
  have k3:Keep C ρ σ H1 ρ2 σ2 H3:=k2.trans (Same.ext sm:ExtE C.hd H2 H3).keep
  refine hg C ρ2 σ2 H3 n2 x _ _ _ S3 rx f2 fun ρ4 σ4 r4 S4 k4 _ _=>?_
  have k5:=k3.trans k4
  refine hb C ρ4 σ4 H3 n2 _ { D' with nx:=forP g t D' (ts.drop (i+1)),ct:=forP g t D' (ts.drop (i+1)),bk:=D'.nx } S4 r4 ⟨fun ρ' σ' H' n' h' S' k'=>⟨ρ',n',h',S',k5.trans k'⟩,fun t n' v H' h hn' k' rp=>gd.rt t n' v H' h hn' (fun a o ha nh no=>?_) rp,fun ρ' σ' H' n' h' S' k'=>gd.nx ρ' σ' H' n' h' S' (e1.keep.trans (k5.trans k')),fun ρ' σ' H' n' h' S' k'=>⟨ρ',n',h',S',k5.trans k'⟩⟩
  obtain ⟨q1,q2⟩:=(e1.keep.trans k5) a o ha nh no
  exact k' a o q1 nh q2
 ·have e:i=ts.length:=by omega
  subst e
  rw [List.drop_length] at f2
  exact .inl ⟨itq.2,gd.nx ρ2 σ2 H2 n2 f2 S2 (e1.keep.trans k2)⟩
def za2 (N:List Str) (ts:List PyData):En:=ts.map (fun t=>some (.val t))++List.replicate (N.length - ts.length) none
theorem zgO {K:PySem.W.Frag}{hd:Option Addr}{O:Addr->Prop}{H:Hp}{n:Nat}{N:List Str}{vs:List V}{ts:List PyData} (r:Reps K hd O H vs ts) (hn:Hn hd H n) (dom:∀ a,O a->MutO (H a)) (hx:∀ a,hd=some a->O a) :
  Stt K ⟨hd,O⟩ (za2 N ts) (start N vs) H n/\∀ a,¬OwnS (za2 N ts) (start N vs) a:=by
 have get:∀ (i:Nat) c,(za2 N ts)[i]?=some (some c)->∃ t,c=.val t/\ts[i]?=some t:=fun i c h=>by
  unfold za2 at h
  by_cases hi:i<ts.length
  ·rw [List.getElem?_append_left (by simpa using hi),List.getElem?_map] at h
   cases e:ts[i]? with
   | none=>rw [e] at h;cases h
   | some t=>rw [e] at h;cases h;exact ⟨t,rfl,rfl⟩
  ·rw [List.getElem?_append_right (by simpa using hi),List.getElem?_replicate] at h
   split at h <;> cases h
 have no:∀ a,¬OwnS (za2 N ts) (start N vs) a:=fun a ⟨i,ds,m,h1,_⟩=>by
  obtain ⟨t,e,_⟩:=get i _ h1
  subst e;cases m
 refine ⟨.mk' (by unfold za2 start;simp [r.length]) (fun i d h=>?_) (fun i ds m h=>?_) (fun i ks h=>by obtain ⟨t,e,_⟩:=get i _ h;cases e) (fun i j ds es a m _ h=>?_) hn dom hx,no⟩
 ·obtain ⟨t,e,et⟩:=get i _ h
  cases e
  obtain ⟨v,ev,rv⟩:=r.get et
  refine ⟨v,?_,rv.mono (fun a o _ z=>z.elim id fun z=>absurd z (no a)) fun _ _ _ z=>z⟩
  unfold start
  have hi:i<vs.length:=by
   rcases Nat.lt_or_ge i vs.length with z | z
   ·exact z
   ·rw [List.getElem?_eq_none z] at ev;cases ev
  rw [List.getElem?_append_left (by simpa using hi),List.getElem?_map,ev];rfl
 ·obtain ⟨t,e,_⟩:=get i _ h
  subst e;cases m
 ·obtain ⟨t,e,_⟩:=get i _ h
  subst e;cases m
end
end L2
namespace Bd
open PySem L2 PyProof.Rows
theorem Def.okD {P:Program}{w:World}{K:PySem.W.Frag}{mg:Str->Option Value}{base:Heap}{x:Str}{st:Stmt}{ps N:List Str}{f:Addr}{fd:FuncData}{k m:Nat}{g:GD} (D:Def K mg x st ps f fd) (S:FnScope N ps (zah st)) (hm:m=ps.length)
  (hb:∀ (cdv:Value) (A:Around) (outer:List Env) (s:Shared) (H:Hp) (E:XK),Room k (A.deeper (envOfC x (zah st) s.heap.objs.size f cdv))->∃ d,DSs (cxOf CX0 P w K mg base N x (zah st) f cdv A outer s H E).nox (zaU st) d /\
   ∀ ts n R,ts.length=m->g ts n R->d { nx:=fun _ n'=>R .none n',rt:=R } (za2 N ts) n):FnOk P w K mg base CX0 (k+1) f fd ps (spD K m g):=by
 refine D.F.ok S (fun vs H Q E h=>?_) (fun cdv A outer s H vs Q E hr h=>?_)
 ·obtain ⟨hd,O,ts,n,R,r,_,_,_,hl,_⟩:=h
  rw [r.length,hl,hm]
 ·obtain ⟨hd,O,ts,n,R,r,hn,dom,hx,hl,hg,hq⟩:=h
  obtain ⟨d,⟨t,pt,ht⟩,hd'⟩:=hb cdv A outer s H E hr
  obtain ⟨S0,no⟩:=zgO (N:=N) r hn dom hx
  refine ⟨t,pt,ht ⟨hd,O⟩ _ _ H n _ _ S0 (hd' ts n R hl hg) ⟨fun ρ' σ' H' n' h S' k'=>?_,fun t n' v H' h hn' k' rp=>?_,fun _ _ _ _ h=>h.elim,fun _ _ _ _ h=>h.elim⟩⟩
  ·exact hq .none n' .non H' h (fun a o ha nh=>(k' a o ha nh (no a)).1) S'.hnd .non
  ·exact hq t n' v H' h (fun a o ha nh=>k' a o ha nh (no a)) hn' rp
end Bd
namespace L2
open PySem PySem.Spec PyProof.Rows
def DTs (Y:Cx) (ifs:List Expr) (d:DTT):Prop:=∃ te,PTs Y ifs te/\∀ (C:Ctx) (ρ:En) (σ:St) (H:Hp) (n:Nat) (Q:Bool->Hp->Prop) (R:Bool->Nat->Prop),Stt Y.K C ρ σ H n->d ρ n R ->
 (∀ b n' H',R b n'->ExtE C.hd H H'->Hn C.hd H' n'->Q b H')->te σ H Q
def dYes:DTT:=fun _ n R=>R true n
section
variable {Y:Cx}{c:Expr}{d:DTT}
theorem zcf:DTs Y [] dYes:=⟨_,zjO,fun C ρ σ H n Q R S h hq=>hq true n H h ExtE.refl S.hnd⟩
end
theorem DE.uni {ι:Type}{Xf:ι->Cx}{K:PySem.W.Frag} (hK:∀ i,(Xf i).K=K) {e:Expr}{d:DTE} (h:∀ i,DE (Xf i) e d):∃ te:TE,(∀ i,PE (Xf i) e te)/\∀ (C:Ctx) (ρ:En) (σ:St) (H:Hp) (n:Nat) (Q:VK) (R:PyData->Nat->Prop),Stt K C ρ σ H n->d ρ n R ->
  (∀ t n' v H',R t n'->ExtE C.hd H H'->Hn C.hd H' n'->Rep K C.hd (Own C ρ σ) H' v t->Q v H')->te σ H Q:=by
 refine ⟨fun σ H Q=>∀ i,(Classical.choose (h i)) σ H Q,fun i pins s σ H Q I hw=>(Classical.choose_spec (h i)).1 pins s σ H Q I (hw i),fun C ρ σ H n Q R S hd hq i=>?_⟩
 have:=(Classical.choose_spec (h i)).2 C ρ σ H n Q R
 exact this (by rw [hK i];exact S) hd fun t n' v H' r e h q=>hq t n' v H' r e h (by rw [<- hK i];exact q)
theorem DTs.uni {ι:Type}{Xf:ι->Cx}{K:PySem.W.Frag} (hK:∀ i,(Xf i).K=K) {e:List Expr}{d:DTT} (h:∀ i,DTs (Xf i) e d):∃ te:TT,(∀ i,PTs (Xf i) e te)/\∀ (C:Ctx) (ρ:En) (σ:St) (H:Hp) (n:Nat) (Q:Bool->Hp->Prop) (R:Bool->Nat->Prop),Stt K C ρ σ H n->d ρ n R ->
  (∀ b n' H',R b n'->ExtE C.hd H H'->Hn C.hd H' n'->Q b H')->te σ H Q:=by
 refine ⟨fun σ H Q=>∀ i,(Classical.choose (h i)) σ H Q,fun i pins s σ H Q I hw=>(Classical.choose_spec (h i)).1 pins s σ H Q I (hw i),fun C ρ σ H n Q R S hd hq i=>?_⟩
 have:=(Classical.choose_spec (h i)).2 C ρ σ H n Q R
 exact this (by rw [hK i];exact S) hd hq
theorem DG.uni {ι:Type}[Nonempty ι] {Xf:ι->Cx}{K:PySem.W.Frag} (hK:∀ i,(Xf i).K=K) {e:Expr}{is:List Nat}{d:DTG} (h:∀ i,DG (Xf i) e is d):∃ te:TG,(∀ i,PG (Xf i) e te)/\∀ (C:Ctx) (ρ:En) (σ:St) (H:Hp) (n:Nat) (v:V) (t:PyData) (Q:St->Hp->Prop) (R:En->Prop),Stt K C ρ σ H n->Rep K C.hd (Own C ρ σ) H v t->d t ρ R ->
  (∀ ρ' σ',R ρ'->Stt K C ρ' σ' H n->Keep C ρ σ H ρ' σ' H->(∀ j,j∉is->σ'[j]?=σ[j]?)->σ'.length=σ.length->Q σ' H)->te v σ H Q:=by
 refine ⟨fun v σ H Q=>∀ i,(Classical.choose (h i).2) v σ H Q,fun i pins s σ H v u Q I r hw=>(Classical.choose_spec (h i).2).1 pins s σ H v u Q I r (hw i),fun C ρ σ H n v t Q R S r hd hq i=>?_⟩
 have:=(Classical.choose_spec (h i).2).2 C ρ σ H n v t Q R
 exact this (by rw [hK i];exact S) (by rw [hK i];exact r) hd fun ρ' σ' hr S'=>hq ρ' σ' hr (by rw [<- hK i];exact S')
theorem Wk.of:∀ {σ σ':St},σ.length=σ'.length->(∀ (i:Nat) v,σ[i]?=some (some v)->σ'[i]?=some (some v))->Wk σ σ'
 | [],[],_,_=>trivial
 | [],_::_,h,_=>by simp at h
 | _::_,[],h,_=>by simp at h
 | none::r,o::r',h,k=>Wk.of (σ:=r) (σ':=r') (by simpa using h) fun i v e=>by simpa using k (i+1) v (by simpa using e)
 | some w::r,o::r',h,k=>⟨by simpa using k 0 w rfl,Wk.of (by simpa using h) fun i v e=>by simpa using k (i+1) v (by simpa using e)⟩
def capV:Option Cell->Option Cell
 | some (.val d)=>some (.val d)
 | some (.dct ks)=>some (.rdo ks)
 | some (.rdo ks)=>some (.rdo ks)
 | _=>none
def zaL (m:Nat) (capt:List Nat) (ρ:En):En:=List.replicate m none++capt.map fun i=>capV (ρ.getD i none)
def zbA (g:DTG) (tt:DTT) (te:DTE) (ρ0:En):List PyData->List PyData->Nat->(List PyData->Nat->Prop)->Prop
 | [],acc,n,R=>R acc n
 | x::xs,acc,n,R=>g x ρ0 fun ρ1=>tt ρ1 n fun b n2=>if b=true then te ρ1 n2 fun t n3=>acc.length<16777216/\zbA g tt te ρ0 xs (acc++[t]) n3 R else zbA g tt te ρ0 xs acc n2 R
def dComp (m:Nat) (capt:List Nat) (di:DTA) (g:DTG) (tt:DTT) (te:DTE):DTA:=fun ρ n R=>di ρ n fun ts n1=>zbA g tt te (zaL m capt ρ) ts [] n1 R
section
variable {X:Cx}{scope:Scope}{own:List Str}{capt:List Nat}{elt tg iter:Expr}{ifs:List Expr}{pos:Pos}{di:DTA}{is:List Nat}{g:DTG}{tt:DTT}{te:DTE}
theorem zdT {ρ:En}{i:Nat}{c:Cell} (h:capV (ρ.getD i none)=some c):(∃ d,c=.val d/\ρ[i]?=some (some (.val d)))\/∃ ks,c=.rdo ks/\(ρ[i]?=some (some (.dct ks))\/ρ[i]?=some (some (.rdo ks))):=by
 rw [List.getD_eq_getElem?_getD] at h
 cases e:ρ[i]? with
 | none=>rw [e] at h;cases h
 | some o =>
  rw [e] at h
  cases o with
  | none=>cases h
  | some c' =>
   cases c' with
   | val d'=>simp [capV] at h;exact .inl ⟨d',h.symm,rfl⟩
   | own _=>simp [capV] at h
   | dct ks=>simp [capV] at h;exact .inr ⟨ks,h.symm,.inl rfl⟩
   | rdo ks=>simp [capV] at h;exact .inr ⟨ks,h.symm,.inr rfl⟩
theorem zjc {K:PySem.W.Frag}{C:Ctx}{ρ:En}{σ:St}{H H2:Hp}{n n2:Nat}{D:Addr}{ys:List V} (S:Stt K C ρ σ H n) (e:ExtE C.hd H H2) (hn:Hn C.hd H2 n2) (hD:H D=none) (hy:H2 D=some (.lst ys)) :
  Stt K ⟨C.hd,fun a=>Own C ρ σ a\/a=D⟩ (zaL own.length capt ρ) (zbn own++capS capt σ) H2 n2/\∀ a,¬OwnS (zaL own.length capt ρ) (zbn own++capS capt σ) a:=by
 have get:∀ (i:Nat) c,(zaL own.length capt ρ)[i]?=some (some c)->∃ j,capV (ρ.getD j none)=some c/\own.length<=i/\capt[i - own.length]?=some j:=fun i c h=>by
  unfold zaL at h
  by_cases hi:i<own.length
  ·rw [List.getElem?_append_left (by simpa using hi),List.getElem?_replicate] at h
   split at h <;> cases h
  ·rw [List.getElem?_append_right (by simpa using hi),List.length_replicate,List.getElem?_map] at h
   cases ej:capt[i - own.length]? with
   | none=>rw [ej] at h;cases h
   | some j =>
    rw [ej] at h
    exact ⟨j,by simpa using h,by omega,rfl⟩
 have slot:∀ (i j:Nat) (v:V),own.length<=i->capt[i - own.length]?=some j->σ[j]?=some (some v)->(zbn own++capS capt σ)[i]?=some (some v):=fun i j v hi e3 h1=>by
  rw [List.getElem?_append_right (by simpa using hi)]
  simp only [List.length_map,List.getElem?_map,e3,Option.map_some]
  rw [List.getD_eq_getElem?_getD,h1];rfl
 have nm:∀ (i:Nat) (c:Cell),c.mine=true->(zaL own.length capt ρ)[i]?=some (some c)->False:=fun i c m h=>by
  obtain ⟨j,e1,_⟩:=get i c h
  rcases zdT e1 with ⟨d,rfl,_⟩ | ⟨ks,rfl,_⟩ <;> cases m
 have no:∀ a,¬OwnS (zaL own.length capt ρ) (zbn own++capS capt σ) a:=fun a ⟨i,c,m,h1,_⟩=>nm i c m h1
 have S2:=S.on e hn
 have sub:∀ a o,H a=some o->Own ⟨C.hd,fun a=>Own C ρ σ a\/a=D⟩ (zaL own.length capt ρ) (zbn own++capS capt σ) a->Own C ρ σ a:=fun a o ha z=>by
  rcases z with z | z
  ·rcases z with z | z
   ·exact z
   ·subst z;rw [hD] at ha;cases ha
  ·exact absurd z (no a)
 have kp:∀ a o,¬Own C ρ σ a->H a=some o->H2 a=some o:=fun a o nO ha=>e a o ha fun z=>nO (.inl (S.hx a z))
 refine ⟨.mk' (by unfold zaL;simp) (fun i d h=>?_) (fun i ds m h=>(nm i _ m h).elim) (fun i ks h=>?_) (fun i j ds es a m _ h=>(nm i _ m h).elim) hn (fun a ha=>?_) (fun a ha=>.inl (.inl (S.hx a ha))),no⟩
 ·obtain ⟨j,e1,hi,e3⟩:=get i _ h
  rcases zdT e1 with ⟨d',z,e2⟩ | ⟨ks,z,_⟩
  ·cases z
   obtain ⟨v,h1,h2⟩:=S.val j d e2
   exact ⟨v,slot i j v hi e3 h1,h2.mono sub kp⟩
  ·cases z
 ·obtain ⟨j,e1,hi,e3⟩:=get i _ h
  rcases zdT e1 with ⟨d',z,e2⟩ | ⟨ks',z,e2⟩
  ·cases z
  ·cases z
   rcases e2 with e2 | e2
   ·obtain ⟨a,kvs,h1,h2,h3,h4⟩:=S.dct j ks e2
    have nh:C.hd≠some a:=fun z=>h4 (S.hx a z)
    exact ⟨a,kvs,slot i j _ hi e3 h1,e a _ h2 nh,h3.mono sub kp,.inl (.inr ⟨j,.dct ks,rfl,e2,h1⟩),nh⟩
   ·obtain ⟨a,kvs,h1,h2,h3,h4,nh⟩:=S.rdo j ks e2
    exact ⟨a,kvs,slot i j _ hi e3 h1,e a _ h2 nh,h3.mono sub kp,.inl (.inl h4),nh⟩
 ·rcases ha with ha | rfl
  ·exact S2.lst ha
  ·exact .inl ⟨_,hy⟩
def zo5 (K:PySem.W.Frag) (te:TE) (d:DTA):Prop:=∀ (C:Ctx) (ρ:En) (σ:St) (H:Hp) (n:Nat) (Q:VK) (R:List PyData->Nat->Prop),Stt K C ρ σ H n->d ρ n R ->
 (∀ ts n' p vs H',R ts n'->ExtE C.hd H H'->Hn C.hd H' n'->H p=none->H' p=some (.lst vs)->Reps K C.hd (fun a=>Own C ρ σ a\/a=p) H' vs ts->Q (.ref p) H')->te σ H Q
theorem zhW (hi:DIL X tg iter di)
  (hg:∀ C s₀ H₀ fp,DG (zay X scope own capt C s₀ H₀ fp) tg is g) (hin:∀ i∈is,i<own.length) (ht:∀ C s₀ H₀ fp,DTs (zay X scope own capt C s₀ H₀ fp) ifs tt) (he:∀ C s₀ H₀ fp,DE (zay X scope own capt C s₀ H₀ fp) elt te) :
  ∃ (wi:TI) (gg:TG) (gt:TT) (ge:TE),PI X tg iter wi/\(∀ C s₀ H₀ fp,PG (zay X scope own capt C s₀ H₀ fp) tg gg)/\(∀ C s₀ H₀ fp,PTs (zay X scope own capt C s₀ H₀ fp) ifs gt)/\(∀ C s₀ H₀ fp,PE (zay X scope own capt C s₀ H₀ fp) elt ge)/\zo5 X.K (tComp own capt wi gg gt ge) (dComp own.length capt di g tt te):=by
 obtain ⟨wi,pi,hi⟩:=hi
 let Xf:(Addr×Shared×Hp×List Addr)->Cx:=fun q=>zay X scope own capt q.1 q.2.1 q.2.2.1 q.2.2.2
 have hK:∀ q,(Xf q).K=X.K:=fun _=>rfl
 have hne:Nonempty (Addr×Shared×Hp×List Addr):=⟨(0,X.s₀,X.H₀,[])⟩
 obtain ⟨gg,pg,hgg⟩:=DG.uni (Xf:=Xf) hK fun q=>hg q.1 q.2.1 q.2.2.1 q.2.2.2
 obtain ⟨gt,pt,hgt⟩:=DTs.uni (Xf:=Xf) hK fun q=>ht q.1 q.2.1 q.2.2.1 q.2.2.2
 obtain ⟨ge,pe,hge⟩:=DE.uni (Xf:=Xf) hK fun q=>he q.1 q.2.1 q.2.2.1 q.2.2.2
 refine ⟨wi,gg,gt,ge,pi,(fun C s₀ H₀ fp=>pg (C,s₀,H₀,fp)),(fun C s₀ H₀ fp=>pt (C,s₀,H₀,fp)),(fun C s₀ H₀ fp=>pe (C,s₀,H₀,fp)),fun C ρ σ H n Q R St hd hq=>?_⟩
 refine hi C ρ σ H n _ _ St hd fun ts n1 J H1 r e1 hn it=>fun D hD1=>?_
 have St1:=St.on e1 hn
 have hD:H D=none:=zhC e1 hn hD1
 have nhd:C.hd≠some D:=fun z=>St.dom (.inl (St.hx D z)) hD
 refine zhX (n:=ts.length) (fun i ys H2=>∃ acc n2,zbA g tt te (zaL own.length capt ρ) (ts.drop i) acc n2 R/\Reps X.K C.hd (fun a=>Own C ρ σ a\/a=D) H2 ys acc/\ExtE C.hd H1 H2/\Hn C.hd H2 n2)
  ⟨[],n1,by simpa using r,.nil,ExtE.new hD1,hn.same (zaG hD1)⟩ ?_ ?_
 ·rintro i ys H2 hlt hy ⟨acc,n2,c2,r2,e2,hn2⟩
  have et:ts[i]?=some ts[i]:=List.getElem?_eq_getElem hlt
  rw [List.drop_eq_getElem_cons hlt] at c2
  have itq:=it (fun a=>Own C ρ σ a\/a=D) H2 (fun a o ha nh=>e2 a o ha nh) (fun a o ha no z=>z.elim no fun z=>by subst z;rw [hD1] at ha;cases ha) (fun a z=>z.elim (fun z=>(St1.on e2 hn2).dom z) fun z=>by subst z;rw [hy];exact fun z=>by cases z)
  obtain ⟨go,yl⟩:=itq.1 i _ et
  refine ⟨go,fun x H3 hyd=>?_⟩
  obtain ⟨sm,rx⟩:=yl x H3 hyd
  have hn3:=hn2.same sm
  have e3:ExtE C.hd H1 H3:=e2.trans sm.ext
  obtain ⟨I3,no3⟩:=zjc (own:=own) (capt:=capt) (D:=D) (ys:=ys) St (e1.trans e3) hn3 hD (sm _ _ hy)
  have rx':Rep X.K C.hd (Own ⟨C.hd,fun a=>Own C ρ σ a\/a=D⟩ (zaL own.length capt ρ) (zbn own++capS capt σ)) H3 x ts[i]:=rx.mono (fun a o _ z=>z.elim id fun z=>absurd z (no3 a)) fun _ _ _ z=>z
  refine hgg ⟨C.hd,fun a=>Own C ρ σ a\/a=D⟩ (zaL own.length capt ρ) (zbn own++capS capt σ) H3 n2 x ts[i] _ _ I3 rx' c2 fun ρ4 σ4 r4 S4 k4 hj hl=>⟨Wk.of hl.symm fun j v ej=>?_,?_⟩
  ·by_cases hjo:j<own.length
   ·rw [List.getElem?_append_left (by simpa using hjo),List.getElem?_map] at ej
    cases z:own[j]? with
    | none=>rw [z] at ej;cases ej
    | some q=>rw [z] at ej;cases ej
   ·rw [hj j (fun z=>hjo (hin j z))];exact ej
  ·refine hgt _ ρ4 σ4 H3 n2 _ _ S4 r4 fun b n5 H5 r5 e5 hn5=>?_
   have S5:=S4.on e5 hn5
   have hy5:H5 D=some (.lst ys):=e5 D _ (sm _ _ hy) nhd
   have r25:∀ {H6},ExtE C.hd H2 H6->Reps X.K C.hd (fun a=>Own C ρ σ a\/a=D) H6 ys acc:=fun e=>r2.mono (fun _ _ _ z=>z) fun a o no ha=>e a o ha fun z=>no (.inl (.inl (St.hx a z)))
   cases b with
   | false =>
    refine iteF ⟨ys,hy5,acc,n5,by simpa using r5,r25 ((Same.ext sm).trans e5),e3.trans e5,hn5⟩
   | true =>
    refine iteT (hge _ ρ4 σ4 H5 n5 _ _ S5 (by simpa using r5) fun t n6 v H6 r6 e6 hn6 q6=>?_)
    have hy6:H6 D=some (.lst ys):=e6 D _ hy5 nhd
    have rl:=(r25 ((Same.ext sm).trans (e5.trans e6))).length
    refine ⟨ys,hy6,by rw [rl];exact r6.1,acc++[t],n6,r6.2,?_,?_,?_⟩
    ·have q6':Rep X.K C.hd (fun a=>Own C ρ σ a\/a=D) H6 v t:=q6.mono (fun _ _ _ z=>.inl z) fun _ _ _ z=>z
     have all:=(r25 ((Same.ext sm).trans (e5.trans e6))).append (Reps.cons q6' .nil)
     exact all.mono (fun _ _ _ z=>z) fun a o no ha=>by rw [zar (show a≠D from fun z=>no (.inr z))];exact ha
    ·exact fun a o ha nh=>by
      rw [zar (zaE ha hD1)]
      exact (e3.trans (e5.trans e6)) a o ha nh
    ·exact fun a ha=>by
      obtain ⟨d,m,t,q,rest⟩:=hn6 a ha
      exact ⟨d,m,t,by rw [zar (show a≠D from fun z=>nhd (by rw [<- z];exact ha))];exact q,rest⟩
 ·rintro ys H2 hy ⟨acc,n2,c2,r2,e2,hn2⟩
  rw [List.drop_length] at c2
  have itq:=it (fun a=>Own C ρ σ a\/a=D) H2 (fun a o ha nh=>e2 a o ha nh) (fun a o ha no z=>z.elim no fun z=>by subst z;rw [hD1] at ha;cases ha) (fun a z=>z.elim (fun z=>(St1.on e2 hn2).dom z) fun z=>by subst z;rw [hy];exact fun z=>by cases z)
  exact ⟨itq.2,hq acc n2 D ys H2 c2 (e1.trans e2) hn2 hD hy r2⟩
theorem zch (hc:X.calm=true) (S:CompScope scope own capt X) (hi:DIL X tg iter di)
  (hg:∀ C s₀ H₀ fp,DG (zay X scope own capt C s₀ H₀ fp) tg is g) (hin:∀ i∈is,i<own.length) (ht:∀ C s₀ H₀ fp,DTs (zay X scope own capt C s₀ H₀ fp) ifs tt) (he:∀ C s₀ H₀ fp,DE (zay X scope own capt C s₀ H₀ fp) elt te)
  (hs:∀ x,foldedSetIterable iter X.env x=pure x:=by intro _;rfl):DN X (.ListComp elt [⟨tg,iter,ifs,0⟩] scope pos) (dComp own.length capt di g tt te):=by
 obtain ⟨wi,gg,gt,ge,a,b,c,d,sp⟩:=zhW hi hg hin ht he
 exact ⟨_,ziJ hc S a b c d hs,sp⟩
end
end L2
namespace L2
open PySem PySem.Spec PyProof.Rows
def zfY (K:PySem.W.Frag):Sp:=fun vs H Q _=>∃ (a:Addr) (ns:List Int) (k:Int),vs=[.ref a,.int k]/\SqL K H a (ns.map V.int)/\ns.length<=63/\0<=k/\k<=100 /\
 ∀ hd H',H hd=none->zgn H' hd 0->Same H H'->Q (.ref hd) H'
def zm8 (hd:Addr) (H H':Hp):Prop:=∀ b o,H b=some o->b≠hd->H' b=some o
def zjj:Sp:=fun vs H Q _=>∃ (hd:Addr) (many n:Int),vs=[.ref hd,.int many]/\zgn H hd n/\n<=1000000000000/\0<many/\many<2 ^ 128 /\
 ∀ (r:Int) H',0<=r->r<many->zgn H' hd (n+1)->zm8 hd H H'->Q (.int r) H'
def zcu:GD:=fun ts n R=>match ts with
 | [h,.int many]=>h=HAND/\0<many/\many<2 ^ 128/\n<=1000000000000/\∀ r:Int,0<=r->r<many->R (.int r) (n+1)
 | _=>False
theorem zio {K:PySem.W.Frag} (vs:List V) (H:Hp) (Q:VK) (E:XK) (h:spD K 2 zcu vs H Q E):zjj vs H Q E:=by
 obtain ⟨hd,O,ts,n,R,r,hn,dom,hx,hl,g,hq⟩:=h
 unfold zcu at g
 split at g
 ·rename_i hh many
  obtain ⟨rfl,m0,m1,hn',g⟩:=g
  cases r with
  | cons r1 r =>
   cases r with
   | cons r2 r =>
    cases r
    obtain ⟨a,rfl,ea⟩:=r1.handI
    rw [r2.intI]
    refine ⟨a,many,n,rfl,hn a ea,by omega,m0,m1,fun q H' q0 q1 hh sx=>?_⟩
    refine hq _ (n+1) _ H' (g q q0 q1) (fun b o hb nb=>sx b o hb fun z=>nb (by rw [ea,z])) (fun b eb=>?_) (.int _)
    rw [ea] at eb;cases eb
    exact hh
 ·exact g.elim
def zld:Option (Option Cell)->(List PyData->Prop)->Prop
 | some (some (.val (.dict [(.none,.list ts)]))),R=>R ts
 | _,_=>False
def za9 (ρ:En):En:=match (ρ[(0:Nat)]?:Option (Option Cell)) with
 | some (some (.val (.dict [(.none,.list ts)])))=>some (.val (.dict [(.none,.list ts)]))::List.replicate (ρ.length - 1) none
 | _=>List.replicate ρ.length none
def intOf:Option (Option Cell)->(Int->Prop)->Prop
 | some (some (.val (.int k))),R=>R k
 | _,_=>False
def zgt (i j:Nat) (u:DTS):DTS:=fun D ρ n=>zld ρ[0]? fun ts=>intOf ρ[j]? fun k=>(∃ ns:List Int,ts=ns.map PyData.int/\ns.length<=63)/\0<=k/\k<=100 /\
 u { nx:=fun ρ' _=>D.nx (za9 ρ') n,rt:=fun t _=>∃ b,t=.bool b/\D.rt t n,bk:=fun ρ' _=>D.bk (za9 ρ') n,ct:=fun ρ' _=>D.ct (za9 ρ') n } (((za9 ρ).set j (some (.val (.int k)))).set i (some (.val HAND))) 0
theorem zbH {ρ:En}{i:Nat}{c:Cell} (h:(za9 ρ)[i]?=some (some c)):i=0/\ρ[0]?=some (some c)/\∃ ts,c=.val (.dict [(.none,.list ts)]):=by
 unfold za9 at h
 split at h
 ·rename_i ts e
  cases i with
  | zero=>simp at h;subst h;exact ⟨rfl,e,ts,rfl⟩
  | succ i =>
   rw [List.getElem?_cons_succ,List.getElem?_replicate] at h
   split at h <;> cases h
 ·rw [List.getElem?_replicate] at h
  split at h <;> cases h
theorem zi9 {ρ:En}:(za9 ρ).length=ρ.length:=by
 unfold za9
 split
 ·rename_i ts e
  cases ρ with
  | nil=>simp at e
  | cons a r=>simp
 ·simp
theorem zdU {ρ:En}{σ:St}{a:Addr}:¬OwnS (za9 ρ) σ a:=fun ⟨i,ds,m,h,_⟩=>by
 obtain ⟨_,_,ts,e⟩:=zbH h
 subst e;cases m
theorem Rep.scrHd {K:PySem.W.Frag}{hd hd':Option Addr}{O O':Addr->Prop}{H H':Hp}{v:V}{ts:List PyData} (h:Rep K hd O H v (.dict [(.none,.list ts)])) (ho:∀ a o,H a=some o->¬O a->H' a=some o/\¬O' a):Rep K hd' O' H' v (.dict [(.none,.list ts)])/\∃ ns:List Int,ts=ns.map PyData.int:=by
 generalize e:(PyData.dict [(PyData.none,PyData.list ts)])=t at h
 cases h with
 | @scr a ns h1 o =>
  have e':ts=ns.map PyData.int:=by simpa [SCR] using e
  subst e'
  refine ⟨?_,ns,rfl⟩
  rcases h1 with h1 | ⟨u,h1⟩
  ·exact .scr (.inl (ho a _ h1 o).1) (ho a _ h1 o).2
  ·exact .scr (.inr ⟨u,(ho a _ h1 o).1⟩) (ho a _ h1 o).2
 | @scrS a ns h1 =>
  have e':ts=ns.map PyData.int:=by simpa [SCR] using e
  subst e'
  exact ⟨.scrS h1,ns,rfl⟩
 | hand _=>simp [HAND] at e
 | dct _ _=>cases e
 | _=>cases e
theorem Stt.drop {K:PySem.W.Frag}{C C':Ctx}{ρ:En}{σ:St}{H H':Hp}{n n':Nat} (S:Stt K C' ρ σ H n) (hn:Hn C.hd H' n') (hl:∀ a,C.ext a->MutO (H' a)) (hx:∀ a,C.hd=some a->C.ext a)
  (ho:∀ a o,H a=some o->¬Own C' ρ σ a->H' a=some o/\¬C.ext a):Stt K C (za9 ρ) σ H' n' where
 len:=by rw [zi9];exact S.len
 val:=fun i d h=>by
  obtain ⟨rfl,e0,ts,et⟩:=zbH h
  cases et
  obtain ⟨v,h1,h2⟩:=S.val 0 _ e0
  exact ⟨v,h1,(h2.scrHd fun a o ha no=>⟨(ho a o ha no).1,fun z=>z.elim (ho a o ha no).2 zdU⟩).1⟩
 own:=fun i ds h=>by
  obtain ⟨_,_,ts,e⟩:=zbH h
  cases e
 dct:=fun i ds h=>by
  obtain ⟨_,_,ts,e⟩:=zbH h
  cases e
 rdo:=fun i ds h=>by
  obtain ⟨_,_,ts,e⟩:=zbH h
  cases e
 dif:=fun i j ds es a m _ h=>by
  obtain ⟨_,_,ts,e⟩:=zbH h
  subst e;cases m
 hnd:=hn
 ext:=hl
 hx:=hx
section
variable {X:Cx}{st:Stmt}{sts:List Stmt}{ps:List Str}{f:Addr}{fd:FuncData}{u:DTS}{x s kx hx:Str}{pos pos' p p1 p2 p3:Pos}{k:Nat}
theorem zi8 {i j:Nat} (D:Bd.Def X.K X.mg hx st ps f fd) (G:FnOk X.prog X.w X.K X.mg X.base CX0 k f fd ps (zfY X.K)) (hr:Room k X.A) (hN:X.N.Nodup) (hi:X.N[i]?=some x) (hlx:Loc X.env.scope x) (hu:DSs X sts u) (hij:i≠0:=by decide) (hj0:j≠0:=by decide) (hji:j≠i:=by decide)
  (h0:X.N[0]?=some s:=by rfl) (hj:X.N[j]?=some kx:=by rfl) (hv0:Vis X.env.scope s:=by first | exact Or.inl rfl | exact Or.inr (Or.inl rfl) | exact Or.inr (Or.inr rfl)) (hvj:Vis X.env.scope kx:=by first | exact Or.inl rfl | exact Or.inr (Or.inl rfl) | exact Or.inr (Or.inr rfl))
  (hd0:(s == ("__debug__":Str))=false:=by decide) (hcd0:(s == ("__classdict__":Str))=false:=by decide) (hdj:(kx == ("__debug__":Str))=false:=by decide) (hcdj:(kx == ("__classdict__":Str))=false:=by decide) (hg:Gl X hx:=by rfl) (hdb:(hx == ("__debug__":Str))=false:=by decide)
  (hs:swapsWith (.Call (.Name hx p) [.Name s p1,.Name kx p2] [] p3) (some (.Name x pos')) pos.line X.env=pure false:=by rfl) (hf:X.fn x=true\/X.env.scope.names.lookup x=some .local:=by first | exact .inl rfl | exact .inr rfl | assumption) :
  DSs X (.Assign [.Name x pos'] (.Call (.Name hx p) [.Name s p1,.Name kx p2] [] p3) pos::sts) (zgt i j u):=by
 obtain ⟨tu,pu,hu⟩:=hu
 refine ⟨_,zaP (zbK hN hi hlx (Bd.zlM D G hr (za6 (zcW h0 hv0 hd0 hcd0) (za6 (zcW hj hvj hdj hcdj) zcr rfl) rfl) hg hdb) hs hf) pu,fun C ρ σ H n Dn D' S hd g=>?_⟩
 unfold zgt zld at hd
 split at hd
 ·rename_i ts e0
  unfold intOf at hd
  split at hd
  ·rename_i kk ej
   obtain ⟨⟨ns,rfl,hl⟩,k0,k1,hd⟩:=hd
   obtain ⟨v0,s0,r0⟩:=S.val 0 _ e0
   obtain ⟨vj,sj,rj⟩:=S.val j _ ej
   obtain ⟨a0,rfl,sq0⟩:=r0.scrI
   rw [rj.intI] at sj
   refine ⟨_,s0,_,sj,?_⟩
   refine ⟨a0,ns,kk,rfl,sq0,hl,k0,k1,fun h H1 hh hok sm=>?_⟩
   have S1:=S.on (Same.ext sm:ExtE C.hd H H1) (S.hnd.same sm)
   have nx:¬Own C ρ σ h:=fun z=>S.dom z hh
   have Sd:Stt X.K ⟨some h,fun a=>C.ext a\/a=h⟩ (za9 ρ) σ H1 0:=S.drop (fun a ea=>by cases ea;exact hok) (fun a z=>z.elim (fun z=>S1.ext a z) fun z=>by subst z;obtain ⟨_,_,_,q,_⟩:=hok;exact .inl ⟨_,q⟩) (fun a ea=>.inr (by cases ea;rfl))
    (fun a o ha no=>⟨sm a o ha,fun z=>z.elim (fun z=>no (.inl z)) fun z=>by subst z;rw [hh] at ha;cases ha⟩)
   have Sd2:=(Sd.put (i:=j) (t:=.int kk) (v:=.int kk) (.int kk)).put (i:=i) (t:=HAND) (v:=.ref h) (.hand rfl)
   have own2:∀ a,¬OwnS (((za9 ρ).set j (some (.val (.int kk)))).set i (some (.val HAND))) ((σ.set j (some (.int kk))).set i (some (.ref h))) a:=fun a z=>zdU (zcD (zcD z))
   have es:(σ.set j (some (V.int kk)))=σ:=by
    apply List.ext_getElem?
    intro q
    by_cases z:j=q
    ·subst z
     have:j<σ.length:=by
      rcases Nat.lt_or_ge j σ.length with w | w
      ·exact w
      ·rw [List.getElem?_eq_none w] at sj;cases sj
     rw [zgT this,sj]
    ·rw [List.getElem?_set_ne z]
   rw [es] at Sd2 own2
   refine hu _ _ _ H1 0 _ _ Sd2 hd ?_
   have back:∀ {ρ' σ' H' n'},Stt X.K ⟨some h,fun a=>C.ext a\/a=h⟩ ρ' σ' H' n'->(∀ a o,H1 a=some o->some h≠some a->H' a=some o)->Stt X.K C (za9 ρ') σ' H' n:=fun {ρ' σ' H' n'} S' kp =>
    S'.drop (fun a ea=>by
      obtain ⟨d,m,t,q,rest⟩:=S.hnd a ea
      exact ⟨d,m,t,kp a _ (sm _ _ q) (fun z=>by cases z;rw [hh] at q;cases q),rest⟩)
     (fun a z=>by
      rcases S.ext a z with ⟨xs,q⟩ | ⟨xs,q⟩
      ·exact .inl ⟨xs,kp a _ (sm _ _ q) (fun z=>by cases z;rw [hh] at q;cases q)⟩
      ·exact .inr ⟨xs,kp a _ (sm _ _ q) (fun z=>by cases z;rw [hh] at q;cases q)⟩) S.hx (fun a o ha no=>⟨ha,fun z=>no (.inl (.inl z))⟩)
   have kp1:∀ {ρ' σ' H'},Keep ⟨some h,fun a=>C.ext a\/a=h⟩ (((za9 ρ).set j (some (.val (.int kk)))).set i (some (.val HAND))) (σ.set i (some (.ref h))) H1 ρ' σ' H'->∀ a o,H1 a=some o->some h≠some a->H' a=some o:=fun k a o ha na=>(k a o ha na (own2 a)).1
   have kp2:∀ {ρ' σ' H'},Keep ⟨some h,fun a=>C.ext a\/a=h⟩ (((za9 ρ).set j (some (.val (.int kk)))).set i (some (.val HAND))) (σ.set i (some (.ref h))) H1 ρ' σ' H'->Keep C ρ σ H (za9 ρ') σ' H':=fun k a o ha _ _=>⟨kp1 k a o (sm a o ha) (fun z=>by cases z;rw [hh] at ha;cases ha),zdU⟩
   refine ⟨fun ρ' σ' H' n' h' S' k'=>g.nx _ _ H' n h' (back S' (kp1 k')) (kp2 k'),fun t n' v H' h' hn' k' rp=>?_,fun ρ' σ' H' n' h' S' k'=>g.bk _ _ H' n h' (back S' (kp1 k')) (kp2 k'),fun ρ' σ' H' n' h' S' k'=>g.ct _ _ H' n h' (back S' (kp1 k')) (kp2 k')⟩
   obtain ⟨b,rfl,h'⟩:=h'
   rw [rp.blI]
   have kq:∀ a o,H a=some o->H' a=some o:=fun a o ha=>k' a o (sm a o ha) (fun z=>by cases z;rw [hh] at ha;cases ha) (own2 a)
   refine g.rt _ n _ H' h' (fun a ea=>?_) (fun a o ha _ _=>kq a o ha) (.bl b)
   obtain ⟨d,m,t,q,rest⟩:=S.hnd a ea
   exact ⟨d,m,t,kq a _ q,rest⟩
  ·exact hd.elim
 ·exact hd.elim
end
def ziq (K:PySem.W.Frag):Sp:=fun vs H Q _=>∃ (a:Addr) (ns:List Int),vs=[.ref a]/\SqL K H a (ns.map V.int)/\ns.length<=63/\∀ H',Q (.bl true) H'
def zmV:GD:=fun ts n R=>∃ ns:List Int,ts=[SCR ns]/\ns.length<=63/\∀ n',R (.bool true) n'
theorem zkl {K:PySem.W.Frag} (vs:List V) (H:Hp) (Q:VK) (E:XK) (h:ziq K vs H Q E):spD K 1 zmV vs H Q E:=by
 obtain ⟨a,ns,rfl,sq,hl,q⟩:=h
 refine ⟨none,fun _=>False,[SCR ns],0,fun t _=>t=.bool true,.cons ?_ .nil,(fun a e=>by cases e),(fun a z=>z.elim),(fun a e=>by cases e),rfl,⟨ns,rfl,hl,fun _=>rfl⟩,fun t n' v H' ht _ _ rp=>?_⟩
 ·rcases sq with sq | sq
  ·exact .scr sq (fun z=>z)
  ·exact .scrS fun _=>.inr sq
 ·subst ht
  rw [rp.blI]
  exact q H'
end L2
namespace L2
open PySem PySem.Spec PyProof.Rows
section
variable {env:Env}{es:List Expr}{a b:Expr}{l1 l2:List Expr}{p:Pos}{x:Str}
theorem zad:starEach (.Name x p::es) env=(false,eval (.Name x p) env)::starEach es env:=rfl
theorem zag {i:Int}{j}:starEach (.Constant (.int i) j p::es) env=(false,eval (.Constant (.int i) j p) env)::starEach es env:=rfl
theorem zcJ {i:Bool}{j}:starEach (.Constant (.bool i) j p::es) env=(false,eval (.Constant (.bool i) j p) env)::starEach es env:=rfl
theorem zff {j}:starEach (.Constant .none j p::es) env=(false,eval (.Constant .none j p) env)::starEach es env:=rfl
theorem zau {i:Str}{j}:starEach (.Constant (.str i) j p::es) env=(false,eval (.Constant (.str i) j p) env)::starEach es env:=rfl
theorem zbk {c d}:starEach (.Call a l1 c d::es) env=(false,eval (.Call a l1 c d) env)::starEach es env:=rfl
theorem zbP:starEach (.List l1 p::es) env=(false,eval (.List l1 p) env)::starEach es env:=rfl
theorem zam {k}:starEach (.Tuple l1 k p::es) env=(false,eval (.Tuple l1 k p) env)::starEach es env:=rfl
theorem za3 {o}:starEach (.BinOp a o b p::es) env=(false,eval (.BinOp a o b p) env)::starEach es env:=rfl
theorem zjI {o}:starEach (.UnaryOp o a p::es) env=(false,eval (.UnaryOp o a p) env)::starEach es env:=rfl
theorem zdg:starEach (.Subscript a b p::es) env=(false,eval (.Subscript a b p) env)::starEach es env:=rfl
theorem zfg {g s}:starEach (.ListComp a g s p::es) env=(false,eval (.ListComp a g s p) env)::starEach es env:=rfl
theorem znR {c}:starEach (.IfExp c a b p::es) env=(false,eval (.IfExp c a b p) env)::starEach es env:=rfl
theorem zgQ:starEach (.Dict [] [] p::es) env=(false,eval (.Dict [] [] p) env)::starEach es env:=rfl
end
section
variable {X:Cx}{a b c e:Expr}{da db dc:DTE}{pos p:Pos}{r r':R2}{g g':G2}
theorem zi7 {op op':CmpOp} (ho:OpR X (compareOp op) r) (hg:Gp2 X r g) (ho':OpR X (compareOp op') r') (hg':Gp2 X r' g') (ha:DL X a da) (hb:DL X b db) (hc:DL X c dc)
  (hm:lastMarks [op,op'] [b,c]=false:=by with_unfolding_all rfl):DT X (.Compare a [op,op'] [b,c] pos) (zfG (zds g g' da db dc)):=by
 obtain ⟨ta,pa,ha⟩:=ha
 obtain ⟨tb,pb,hb⟩:=hb
 obtain ⟨tc,pc,hc⟩:=hc
 refine ⟨_,ziD ho ho' pa pb pc hm,fun C ρ σ H n Q R S h hq=>?_⟩
 refine two ha hb S h fun x y n2 v w H2 r2 e S2 q1 q2=>?_
 refine hg C.hd (Own C ρ σ) H2 v w x y _ _ (fun p=>S2.dom) q1 q2 r2 fun z u H' rz sm rp=>?_
 have S3:=S2.on sm.ext (S2.hnd.same sm)
 cases z with
 | bool k =>
  cases rp
  refine ⟨k,rfl,?_⟩
  cases k with
  | false=>exact iteF ⟨false,rfl,hq _ n2 H' rz (e.trans sm.ext) S3.hnd⟩
  | true =>
   refine iteT (hc C ρ σ H' n2 _ _ S3 rz fun z2 n3 w2 H4 r4 e4 h4 q4=>?_)
   have S4:=S3.on e4 h4
   have q2':=e4.repT S.hx ((Same.ext sm:ExtE C.hd H2 H').repT S.hx q2)
   refine hg' C.hd (Own C ρ σ) H4 w w2 y z2 _ _ (fun p=>S4.dom) q2' q4 r4 fun z u H' rz sm' rp=>?_
   cases z with
   | bool k=>cases rp;exact ⟨k,rfl,hq _ n3 H' rz (((e.trans sm.ext).trans e4).trans sm'.ext) (S4.hnd.same sm')⟩
   | _=>exact rz.elim
 | _=>exact rz.elim
theorem zgi:DE X (.Dict [] [] pos) (dC (.dict [])):=by
 refine ⟨_,ziL,fun C ρ σ H n Q R S h hq p hp=>?_⟩
 exact hq _ n _ _ h (ExtE.new hp) (S.hnd.same (zaG hp)) (.dct zax (S.free hp))
end
end L2
namespace L2
open PySem PySem.Spec PyProof.Rows
section
variable {C:Int->Int->Prop}{f:Int->Int->Int}{fb:Int->Int->Bool}{i j k:Int}{R:PyData->Prop}{Rb:Bool->Prop}{xs ys:List PyData}{s t:Str}{a b:Bool}{u v:PyData}
theorem l_gI:gI C f (.int i) (.int j) R=(C i j/\R (.int (f i j))):=propext Iff.rfl
theorem ziS:gI0 f (.int i) (.int j) R=R (.int (f i j)):=propext Iff.rfl
theorem zeE:oAdd (.int i) (.int j) R=R (.int (i+j)):=propext Iff.rfl
theorem zeD:oAdd (.str s) (.str t) R=(s.length+t.length<=16777216/\R (.str (s++t))):=propext Iff.rfl
theorem zeC:oAdd (.tuple xs) (.tuple ys) R=(xs.length+ys.length<=16777216/\R (.tuple (xs++ys))):=propext Iff.rfl
theorem zhs:oEq (.int i) (.int j) R=R (.bool (decide (i=j))):=propext Iff.rfl
theorem zhr:oEq (.str s) (.str t) R=R (.bool (decide (s=t))):=propext Iff.rfl
theorem zhj:oNe (.int i) (.int j) R=R (.bool (!decide (i=j))):=propext Iff.rfl
theorem zhi:oNe (.str s) (.str t) R=R (.bool (!decide (s=t))):=propext Iff.rfl
theorem zhp:oIs (.bool a) (.bool b) R=R (.bool (a == b)):=propext Iff.rfl
theorem zc2:oIsN (.bool a) (.bool b) R=R (.bool (a != b)):=propext Iff.rfl
theorem zhq:oIn u (.tuple xs) R=(Okd u/\(∀ t∈xs,Okd t)/\R (.bool (xs.any fun t=>t.eqv u))):=by cases u <;> exact propext Iff.rfl
theorem zhm:oLtA (.int i) (.int j) R=R (.bool (decide (i<j))):=propext Iff.rfl
theorem zho:oLeA (.int i) (.int j) R=R (.bool (decide (i<=j))):=propext Iff.rfl
theorem zhn:oLeA (.str s) (.str t) R=R (.bool (!decide (t.cps.toList<s.cps.toList))):=propext Iff.rfl
theorem zkn {x:PyData} (h:atI xs i=some x):oIx (.list xs) (.int i) R=R x:=by show (match atI xs i with | some t=>R t | none=>False)=_;rw [h]
theorem zkm {x:PyData} (h:atI xs i=some x):oIx (.tuple xs) (.int i) R=R x:=by show (match atI xs i with | some t=>R t | none=>False)=_;rw [h]
theorem zez:oIx (.tuple (u::xs)) (.int 0) R=R u:=zkm (by unfold atI ixN;simp)
theorem zey:oIx (.tuple (u::v::xs)) (.int 1) R=R v:=zkm (by unfold atI ixN;simp;rw [if_pos (by omega)];rfl)
theorem zex {w:PyData}:oIx (.tuple (u::v::w::xs)) (.int 2) R=R w:=zkm (by unfold atI ixN;simp;rw [if_pos (by omega)];rfl)
theorem zeB:oIx (.list (u::xs)) (.int 0) R=R u:=zkn (by unfold atI ixN;simp)
theorem zeA:oIx (.list (u::v::xs)) (.int 1) R=R v:=zkn (by unfold atI ixN;simp;rw [if_pos (by omega)];rfl)
theorem zes:truD (.bool a) Rb=Rb a:=propext Iff.rfl
theorem zht:bolD (.bool a) Rb=Rb a:=propext Iff.rfl
theorem zew:bLen [.list xs] R=R (.int xs.length):=propext Iff.rfl
theorem zet:bLen [.tuple xs] R=R (.int xs.length):=propext Iff.rfl
theorem zeu:bLen [.str s] R=(s.length<=16777216/\R (.int s.length)):=propext Iff.rfl
theorem zb1 {ns:List Int}:bLen [SCR ns] R=R (.int ns.length):=by show R (.int (ns.map PyData.int).length)=_;rw [List.length_map]
theorem zhk:bMin [.int i,.int j] R=R (.int (if j<i then j else i)):=propext Iff.rfl
theorem zhl:bMax [.int i,.int j] R=R (.int (if j > i then j else i)):=propext Iff.rfl
theorem zc1 {Rl:List PyData->Prop}:zaX (.list xs) Rl=Rl xs:=propext Iff.rfl
theorem zb2 {Rl:List PyData->Prop}:zaX (.tuple xs) Rl=Rl xs:=propext Iff.rfl
theorem zmc (y:String) (h:y∈["NoneType","bool","int","str","list","tuple","dict"]):kitB y "int" = some (decide (y = "int")||decide (y = "bool")):=by
 simp only [List.mem_cons,List.not_mem_nil,or_false] at h
 rcases h with rfl | rfl | rfl | rfl | rfl | rfl | rfl <;> decide +kernel
theorem zko (y:String) (h:y∈["NoneType","bool","int","str","list","tuple","dict"]):kitB y "bool" = some (decide (y = "bool")):=by
 simp only [List.mem_cons,List.not_mem_nil,or_false] at h
 rcases h with rfl | rfl | rfl | rfl | rfl | rfl | rfl <;> decide +kernel
theorem ziU (y:String) (h:y∈["NoneType","bool","int","str","list","tuple","dict"]):kitB y "tuple" = some (decide (y = "tuple")):=by
 simp only [List.mem_cons,List.not_mem_nil,or_false] at h
 rcases h with rfl | rfl | rfl | rfl | rfl | rfl | rfl <;> decide +kernel
theorem zmb (y:String) (h:y∈["NoneType","bool","int","str","list","tuple","dict"]):kitB y "str" = some (decide (y = "str")):=by
 simp only [List.mem_cons,List.not_mem_nil,or_false] at h
 rcases h with rfl | rfl | rfl | rfl | rfl | rfl | rfl <;> decide +kernel
def Pln (t:PyData):Prop:=tyN t≠none
def isInt:PyData->Bool | .int _=>true | .bool _=>true | _=>false
def isBool:PyData->Bool | .bool _=>true | _=>false
def isTup:PyData->Bool | .tuple _=>true | _=>false
def isStr:PyData->Bool | .str _=>true | _=>false
variable {d:DTE}{ρ:En}{n:Nat}{Rn:PyData->Nat->Prop}
theorem zdw {y:String} (h:tyN u=some y):y∈["NoneType","bool","int","str","list","tuple","dict"]:=by
 unfold tyN at h
 split at h <;> cases h <;> simp
def isiD (f:PyData->Bool) (d:DTE):DTE:=fun ρ n R=>d ρ n fun t n1=>Pln t/\R (.bool (f t)) n1
end
section
variable {X:Cx}{e:Expr}{d:DTE}{p p2 pos:Pos}
theorem zci {T:String}{f:PyData->Bool}{y:Str} (hk:∀ t y,tyN t=some y->kitB y T=some (f t)) (hm:X.mg "isinstance" = none) (hmT:X.mg y=none) (hT:bootBuiltins y=some (.type T)) (h:DL X e d) (hs:starEach (e::[.Name y p2]) X.env=(false,eval e X.env)::starEach [.Name y p2] X.env) (hg:Gl X "isinstance":=by rfl) (hgT:Gl X y:=by rfl) (hn:y ≠ "__name__":=by decide) (hd:(y == ("__debug__":Str))=false:=by decide) :
  DE X (.Call (.Name "isinstance" p) [e,.Name y p2] [] pos) (isiD f d):=by
 obtain ⟨ta,pa,h⟩:=h
 refine ⟨_,zj1 zh0 hm zjg (za6 pa (zj6 (Bd.zok hmT hT hgT hn hd) zcr) hs) hg,fun C ρ σ H n Q R S hd hq=>?_⟩
 refine h C ρ σ H n _ _ S hd fun t n1 v H1 r1 e1 h1 q1=>?_
 cases et:tyN t with
 | none=>exact absurd et r1.1
 | some z=>exact ⟨v,C.hd,Own C ρ σ,t,T,z,f t,rfl,q1,et,hk t z et,hq _ n1 _ H1 r1.2 e1 h1 (.bl _)⟩
theorem zmS:∀ t y,tyN t=some y->kitB y "int" = some (isInt t):=fun t y e=>by
 rw [zmc y (zdw e)]
 unfold tyN at e
 split at e <;> cases e <;> rfl
theorem zkD:∀ t y,tyN t=some y->kitB y "bool" = some (isBool t):=fun t y e=>by
 rw [zko y (zdw e)]
 unfold tyN at e
 split at e <;> cases e <;> rfl
theorem zgd:∀ t y,tyN t=some y->kitB y "tuple" = some (isTup t):=fun t y e=>by
 rw [ziU y (zdw e)]
 unfold tyN at e
 split at e <;> cases e <;> rfl
theorem zjs:∀ t y,tyN t=some y->kitB y "str" = some (isStr t):=fun t y e=>by
 rw [zmb y (zdw e)]
 unfold tyN at e
 split at e <;> cases e <;> rfl
theorem zbm {i:Int}:Pln (.int i):=by simp [Pln,tyN]
theorem zaY {i:Bool}:Pln (.bool i):=by simp [Pln,tyN]
theorem zbu {i:Str}:Pln (.str i):=by simp [Pln,tyN]
theorem zaW {i:List PyData}:Pln (.tuple i):=by simp [Pln,tyN]
theorem zbd {i:List PyData}:Pln (.list i):=by simp [Pln,tyN]
theorem zbc:Pln .none:=by simp [Pln,tyN]
theorem zbe:Pln (.dict []):=by simp [Pln,tyN]
end
end L2
namespace L2
open PySem PySem.Spec PyProof.Rows
abbrev blk (i h:Int):PyData:=.tuple [.int i,.int h]
def IsBk (bits i h:Int):Prop:=0<=h/\h<=bits/\∃ k:Int,0<=k/\i=k*2 ^ h.toNat/\k<2 ^ (bits - h).toNat
theorem ziE (k:Nat):(0:Int)<2 ^ k:=Bd.zbO k
theorem ziF {a b:Nat}:(2:Int) ^ (a+b)=2 ^ a*2 ^ b:=Int.pow_add 2 a b
theorem IsBk.bounds {bits i h:Int} (b0:0<=bits) (H:IsBk bits i h):0<=i/\i+2 ^ h.toNat<=2 ^ bits.toNat:=by
 obtain ⟨h0,h1,k,k0,rfl,k1⟩:=H
 have p:=ziE h.toNat
 refine ⟨Int.mul_nonneg k0 (Int.le_of_lt p),?_⟩
 have e:bits.toNat=(bits - h).toNat+h.toNat:=by lia
 rw [e,ziF]
 have:(k+1)*2 ^ h.toNat<=2 ^ (bits - h).toNat*2 ^ h.toNat:=Int.mul_le_mul_of_nonneg_right (by lia) (Int.le_of_lt p)
 rw [Int.add_mul,Int.one_mul] at this
 exact this
theorem cpow {j:Int} (h0:0<=j) (h1:j<=1000000):CPow 1 j:=⟨h0,h1,by decide⟩
end L2
namespace L2
open PySem PySem.Spec PyProof.Rows
section
variable {t u tb:DTS}{D:DEnds}{ρ ρ0:En}{n i j m:Nat}{d da db dc d1 d2:DTE}{ds di:DTA}{c c' tt:DTT}{g:G2}{g':G2}{gc:GC}{gd:GD}{tg:DTG}{tgs:DTGs}{R:PyData->Nat->Prop}{Rb:Bool->Nat->Prop}{Rl:List PyData->Nat->Prop}{Re:En->Prop}{x y:PyData}{xs ys acc:List PyData}{f:Int->Int->Int}{fb:PyData->Bool}{k:Bool}{capt:List Nat}{h:Option Cell}
theorem zfR:(sSeq t u D ρ n)=(t { D with nx:=u D } ρ n):=propext Iff.rfl
theorem zfS:(sRet d D ρ n)=(d ρ n fun t n'=>D.rt t n'):=propext Iff.rfl
theorem zfQ:(sSet i d D ρ n)=(d ρ n fun t n'=>D.nx (ρ.set i (some (.val t))) n'):=propext Iff.rfl
theorem u_dC:(dC x ρ n R)=(R x n):=propext Iff.rfl
theorem zik:(dOp g da db ρ n R)=(da ρ n fun x n1=>db ρ n1 fun y n2=>g x y fun z=>R z n2):=propext Iff.rfl
theorem zfW:(dNew ds ρ n R)=(ds ρ n fun ts n'=>R (.list ts) n'):=propext Iff.rfl
theorem zfU:(dTup ds ρ n R)=(ds ρ n fun ts n1=>R (.tuple ts) n1):=propext Iff.rfl
theorem zfV:(dNil ρ n Rl)=(Rl [] n):=propext Iff.rfl
theorem zdv:(zhS d ds ρ n Rl)=(d ρ n fun t n1=>ds ρ n1 fun ts n2=>Rl (t::ts) n2):=propext Iff.rfl
theorem zil:(dFn gd ds ρ n R)=(ds ρ n fun ts n1=>gd ts n1 R):=propext Iff.rfl
theorem zcz:(zgk gc ds ρ n R)=(ds ρ n fun ts n1=>gc ts fun z=>R z n1):=propext Iff.rfl
def cVal:Option Cell->(PyData->Prop)->Prop
 | some (.val d),R=>R d
 | _,_=>False
theorem zf_ {Q:PyData->Prop}:cVal (some (.val x)) Q=Q x:=propext Iff.rfl
theorem zfT:dVar i ρ n R=cVal (ρ.getD i none) fun d=>R d n:=by
 unfold dVar
 rw [List.getD_eq_getElem?_getD]
 cases e:ρ[i]? with
 | none=>exact propext Iff.rfl
 | some o=>cases o with
  | none=>exact propext Iff.rfl
  | some c=>cases c <;> exact propext Iff.rfl
theorem zcG:zfG d ρ n Rb=(d ρ n fun t n'=>bolD t fun b=>Rb b n'):=by
 unfold zfG
 congr 1
 funext t n'
 cases t <;> exact propext Iff.rfl
def lCat:PyData->PyData->(List PyData->Prop)->Prop
 | .list xs,.list ys,R=>xs.length+ys.length<=16777216/\R (xs++ys)
 | _,_,_=>False
theorem zd4:dCat da db ρ n Rl=(da ρ n fun x n1=>db ρ n1 fun y n2=>lCat x y fun zs=>Rl zs n2):=by
 unfold dCat
 congr 1
 funext x n1
 congr 1
 funext y n2
 cases x <;> cases y <;> exact propext Iff.rfl
def lLst:PyData->(List PyData->Prop)->Prop
 | .list xs,R=>R xs
 | _,_=>False
def lTup:PyData->(List PyData->Prop)->Prop
 | .tuple xs,R=>R xs
 | _,_=>False
theorem zd3:dItL d ρ n Rl=(d ρ n fun t n'=>lLst t fun ts=>Rl ts n'):=by
 unfold dItL
 congr 1
 funext t n'
 cases t <;> exact propext Iff.rfl
theorem zd2:dItT d ρ n Rl=(d ρ n fun t n'=>lTup t fun ts=>Rl ts n'):=by
 unfold dItT
 congr 1
 funext t n'
 cases t <;> exact propext Iff.rfl
def lInt:PyData->(Int->Prop)->Prop
 | .int i,R=>R i
 | _,_=>False
theorem zcH:zhR d ρ n Rl=(d ρ n fun t n'=>lInt t fun j=>(-(2 ^ 62)<=j/\j<2 ^ 62)/\Rl (zbp 0 j.toNat) n'):=by
 unfold zhR
 congr 1
 funext t n'
 cases t <;> exact propext Iff.rfl
theorem zd1:dNeg d ρ n R=(d ρ n fun t n'=>lInt t fun i=>R (.int (-i)) n'):=by
 unfold dNeg
 congr 1
 funext t n'
 cases t <;> exact propext Iff.rfl
theorem zbW:zds g g' da db dc ρ n R=(da ρ n fun x n1=>db ρ n1 fun y n2=>g x y fun z=>bolD z fun b=>if b=true then dc ρ n2 fun w n3=>g' y w fun z=>R z n3 else R (.bool false) n2):=by
 unfold zds
 congr 1
 funext x n1
 congr 1
 funext y n2
 congr 1
 funext z
 cases z with
 | bool b=>cases b <;> simp [bolD]
 | _=>exact propext Iff.rfl
end
end L2
namespace L2
open PySem PySem.Spec PyProof.Rows
section
variable {t u tb:DTS}{D:DEnds}{ρ ρ0:En}{n i j m:Nat}{d da db dc d1 d2:DTE}{ds di:DTA}{c c' tt:DTT}{g:G2}{g':G2}{gc:GC}{gd:GD}{tg:DTG}{tgs:DTGs}{R:PyData->Nat->Prop}{Rb:Bool->Nat->Prop}{Rl:List PyData->Nat->Prop}{Re:En->Prop}{x y:PyData}{xs ys acc:List PyData}{f:Int->Int->Int}{fb:PyData->Bool}{k:Bool}{capt:List Nat}
theorem zmx (h:t { D with nx:=u D } ρ n):sSeq t u D ρ n:=h
theorem zku (h:D.nx ρ n):zjM D ρ n:=h
theorem zmy (h:d ρ n fun t n'=>D.rt t n'):sRet d D ρ n:=h
theorem zoP (h:c ρ n fun b n1=>if b=true then t D ρ n1 else u D ρ n1):sIf c t u D ρ n:=h
theorem zmA (h:d ρ n fun t n'=>tg t ρ fun ρ'=>D.nx ρ' n'):sAsg d tg D ρ n:=h
theorem zmz (h:di ρ n fun ts n1=>forP tg tb D ts ρ n1):sFor di tg tb D ρ n:=h
theorem i_dC (h:R x n):dC x ρ n R:=h
theorem zoS (h:da ρ n fun x n1=>db ρ n1 fun y n2=>g x y fun z=>R z n2):dOp g da db ρ n R:=h
theorem zmM (h:ds ρ n fun ts n'=>R (.list ts) n'):dNew ds ρ n R:=h
theorem zmG (h:ds ρ n fun ts n1=>R (.tuple ts) n1):dTup ds ρ n R:=h
theorem zmL (h:Rl [] n):dNil ρ n Rl:=h
theorem zkA (h:d ρ n fun t n1=>ds ρ n1 fun ts n2=>Rl (t::ts) n2):zhS d ds ρ n Rl:=h
theorem zoT (h:ds ρ n fun ts n1=>gd ts n1 R):dFn gd ds ρ n R:=h
theorem zi2 (h:ds ρ n fun ts n1=>gc ts fun z=>R z n1):zgk gc ds ρ n R:=h
theorem zoR (h:c ρ n fun b n1=>if b=true then Rb true n1 else c' ρ n1 Rb):dOr c c' ρ n Rb:=h
theorem zmK (h:c ρ n fun b n1=>Rb (!b) n1):dNot c ρ n Rb:=h
theorem zkC (h:da ρ n fun t n1=>bolD t fun b=>if b=true then db ρ n1 R else R (.bool false) n1):zkO da db ρ n R:=h
theorem zmJ (h:da ρ n fun t n1=>bolD t fun b=>if b=true then R (.bool true) n1 else db ρ n1 R):dOrV da db ρ n R:=h
theorem zkz (h:da ρ n fun t n1=>bolD t fun b=>R (.bool (!b)) n1):zkN da ρ n R:=h
theorem zmQ (h:c ρ n fun b n1=>if b=true then da ρ n1 R else db ρ n1 R):dIfE c da db ρ n R:=h
theorem zmH (h:d ρ n fun t n'=>truD t fun b=>Rb b n'):dTru d ρ n Rb:=h
theorem zhA (h:d ρ n fun t n1=>zaX t fun ts=>Rl ts n1):zfI d ρ n Rl:=h
theorem zkB (h:di ρ n fun ts n1=>zbA tg tt d (zaL m capt ρ) ts [] n1 Rl):dComp m capt di tg tt d ρ n Rl:=h
theorem zmF (h:Rb true n):dYes ρ n Rb:=h
theorem zks (h:tgs xs ρ Re):zjE tgs (.tuple xs) ρ Re:=h
theorem zkt (h:Re ρ):zjF [] ρ Re:=h
theorem ziZ (h:tg x ρ fun ρ'=>tgs xs ρ' Re):zgN tg tgs (x::xs) ρ Re:=h
theorem zkw (h:d ρ n fun t n'=>bolD t fun b=>Rb b n'):zfG d ρ n Rb:=zcG.symm▸h
theorem zmR (h:da ρ n fun x n1=>db ρ n1 fun y n2=>lCat x y fun zs=>Rl zs n2):dCat da db ρ n Rl:=zd4.symm▸h
theorem zmP (h:d ρ n fun t n'=>lLst t fun ts=>Rl ts n'):dItL d ρ n Rl:=zd3.symm▸h
theorem zmO (h:d ρ n fun t n'=>lTup t fun ts=>Rl ts n'):dItT d ρ n Rl:=zd2.symm▸h
theorem zkx (h:d ρ n fun t n'=>lInt t fun j=>(-(2 ^ 62)<=j/\j<2 ^ 62)/\Rl (zbp 0 j.toNat) n'):zhR d ρ n Rl:=zcH.symm▸h
theorem zmN (h:d ρ n fun t n'=>lInt t fun i=>R (.int (-i)) n'):dNeg d ρ n R:=zd1.symm▸h
theorem zi1 (h:da ρ n fun x n1=>db ρ n1 fun y n2=>g x y fun z=>bolD z fun b=>if b=true then dc ρ n2 fun w n3=>g' y w fun z=>R z n3 else R (.bool false) n2):zds g g' da db dc ρ n R:=zbW.symm▸h
def lIsi (fb:PyData->Bool) (t:PyData) (R:PyData->Prop):Prop:=Pln t/\R (.bool (fb t))
theorem zmD (h:d ρ n fun t n1=>lIsi fb t fun z=>R z n1):isiD fb d ρ n R:=h
theorem zjq (e:ρ[i]?=some (some (.val x))) (h:R x n):dVar i ρ n R:=by unfold dVar;rw [e];exact h
theorem zjr (e:ρ[i]?=some (some (.own xs))) (h:R (.list xs) n):dOwn i ρ n R:=by unfold dOwn;rw [e];exact h
theorem zgc (e:ρ[i]?=some (some (.own xs))) (h:d ρ n fun t n'=>xs.length<16777216/\D.nx (ρ.set i (some (.own (xs++[t])))) n'):zcM i d D ρ n:=by unfold zcM;rw [e];exact h
theorem zgb (e:ρ[i]?=some (some (.own xs))) (h:t D (ρ.set i (some (.val (.list xs)))) n):zcL i t D ρ n:=by unfold zcL;rw [e];exact h
theorem zoQ {b:Bool}{A B:Prop} (h1:b=true->A) (h2:b=false->B):if b=true then A else B:=by cases b with | true=>exact iteT (h1 rfl) | false=>exact iteF (h2 rfl)
theorem zmC {p:Prop}[Decidable p] {A B:Prop} (h1:p->A) (h2:¬p->B):if decide p=true then A else B:=by
 by_cases h:p
 ·rw [decide_eq_true h];exact iteT (h1 h)
 ·rw [decide_eq_false h];exact iteF (h2 h)
theorem zmB {b:Bool}{A B:Prop} (h:if b=true then B else A):if (!b)=true then A else B:=by
 cases b with | true=>exact iteF h | false=>exact iteT h
end
section
variable {C:Int->Int->Prop}{f:Int->Int->Int}{fb:Int->Int->Bool}{i j k:Int}{R:PyData->Prop}{Rb:Bool->Prop}{xs ys:List PyData}{s t:Str}{a b:Bool}{u v x y:PyData}{Rn:PyData->Nat->Prop}{n:Nat}
theorem zmp (h:R (.int (i+j))):oAdd (.int i) (.int j) R:=zeE.symm▸h
theorem zmo (h:(s.length+t.length<=16777216/\R (.str (s++t)))):oAdd (.str s) (.str t) R:=zeD.symm▸h
theorem zmn (h:(xs.length+ys.length<=16777216/\R (.tuple (xs++ys)))):oAdd (.tuple xs) (.tuple ys) R:=zeC.symm▸h
theorem zoM (h:R (.bool (decide (i=j)))):oEq (.int i) (.int j) R:=zhs.symm▸h
theorem zoL (h:R (.bool (decide (s=t)))):oEq (.str s) (.str t) R:=zhr.symm▸h
theorem zoz (h:R (.bool (!decide (i=j)))):oNe (.int i) (.int j) R:=zhj.symm▸h
theorem zoy (h:R (.bool (!decide (s=t)))):oNe (.str s) (.str t) R:=zhi.symm▸h
theorem zoI (h:R (.bool (a == b))):oIs (.bool a) (.bool b) R:=zhp.symm▸h
theorem zhv (h:R (.bool (a != b))):oIsN (.bool a) (.bool b) R:=zc2.symm▸h
theorem zoK (h:(Okd u/\(∀ t∈xs,Okd t)/\R (.bool (xs.any fun t=>t.eqv u)))):oIn u (.tuple xs) R:=zhq.symm▸h
theorem zoE (h:R (.bool (decide (i<j)))):oLtA (.int i) (.int j) R:=zhm.symm▸h
theorem zoH (h:R (.bool (decide (i<=j)))):oLeA (.int i) (.int j) R:=zho.symm▸h
theorem zoG (h:R (.bool (!decide (t.cps.toList<s.cps.toList)))):oLeA (.str s) (.str t) R:=zhn.symm▸h
theorem zmj (h:R u):oIx (.tuple (u::xs)) (.int 0) R:=zez.symm▸h
theorem zmi (h:R v):oIx (.tuple (u::v::xs)) (.int 1) R:=zey.symm▸h
theorem zmh {w:PyData} (h:R w):oIx (.tuple (u::v::w::xs)) (.int 2) R:=zex.symm▸h
theorem zmm (h:R u):oIx (.list (u::xs)) (.int 0) R:=zeB.symm▸h
theorem zml (h:R v):oIx (.list (u::v::xs)) (.int 1) R:=zeA.symm▸h
theorem zmd (h:Rb a):truD (.bool a) Rb:=zes.symm▸h
theorem zoO (h:Rb a):bolD (.bool a) Rb:=zht.symm▸h
theorem zmg (h:R (.int xs.length)):bLen [.list xs] R:=zew.symm▸h
theorem zme (h:R (.int xs.length)):bLen [.tuple xs] R:=zet.symm▸h
theorem zmf (h:(s.length<=16777216/\R (.int s.length))):bLen [.str s] R:=zeu.symm▸h
theorem ziV {ns:List Int} (h:R (.int ns.length)):bLen [SCR ns] R:=zb1.symm▸h
theorem zoC (h:R (.int (if j<i then j else i))):bMin [.int i,.int j] R:=zhk.symm▸h
theorem zoD (h:R (.int (if j > i then j else i))):bMax [.int i,.int j] R:=zhl.symm▸h
theorem zkp {Rl:List PyData->Prop} (h:Rl xs):zaX (.list xs) Rl:=zc1.symm▸h
theorem ziW {Rl:List PyData->Prop} (h:Rl xs):zaX (.tuple xs) Rl:=zb2.symm▸h
theorem zoN {Q:List PyData->Prop} (h:(xs.length+ys.length<=16777216/\Q (xs++ys))):lCat (.list xs) (.list ys) Q:=h
theorem zoF {Q:List PyData->Prop} (h:Q xs):lLst (.list xs) Q:=h
theorem zou {Q:List PyData->Prop} (h:Q xs):lTup (.tuple xs) Q:=h
theorem zoJ {i:Int}{Q:Int->Prop} (h:Q i):lInt (.int i) Q:=h
theorem zoA (c:CMul i j) (h:R (.int (i*j))):oMul (.int i) (.int j) R:=⟨c,h⟩
theorem zoB (c:0<j) (h:R (.int (i % j))):oMod (.int i) (.int j) R:=⟨c,h⟩
theorem zox (c:CPow i j) (h:R (.int (i ^ j.toNat))):oPow (.int i) (.int j) R:=⟨c,h⟩
theorem zow (c:CPow i j) (h:R (.int (i*2 ^ j.toNat))):oShl (.int i) (.int j) R:=⟨c,h⟩
theorem zov (h:R (.int (i - j))):oSub (.int i) (.int j) R:=h
theorem j_gB (h:R (.bool (fb i j))):gB fb (.int i) (.int j) R:=h
theorem zfx (h:R (.bool true)):lIsi isInt (.int i) R:=⟨zbm,h⟩
theorem zeQ (h:R (.bool true)):lIsi isInt (.bool a) R:=⟨zaY,h⟩
theorem zfw (h:R (.bool false)):lIsi isInt (.str s) R:=⟨zbu,h⟩
theorem zdR (h:R (.bool false)):lIsi isInt (.tuple xs) R:=⟨zaW,h⟩
theorem zeO (h:R (.bool false)):lIsi isInt (.list xs) R:=⟨zbd,h⟩
theorem zeN (h:R (.bool false)):lIsi isInt (.none) R:=⟨zbc,h⟩
theorem zeP (h:R (.bool false)):lIsi isInt (.dict []) R:=⟨zbe,h⟩
theorem zeR (h:R (.bool false)):lIsi isBool (.int i) R:=⟨zbm,h⟩
theorem zdS (h:R (.bool true)):lIsi isBool (.bool a) R:=⟨zaY,h⟩
theorem zft (h:R (.bool false)):lIsi isTup (.int i) R:=⟨zbm,h⟩
theorem zeI (h:R (.bool false)):lIsi isTup (.bool a) R:=⟨zaY,h⟩
theorem zfs (h:R (.bool false)):lIsi isTup (.str s) R:=⟨zbu,h⟩
theorem zdP (h:R (.bool true)):lIsi isTup (.tuple xs) R:=⟨zaW,h⟩
theorem zeG (h:R (.bool false)):lIsi isTup (.list xs) R:=⟨zbd,h⟩
theorem zeF (h:R (.bool false)):lIsi isTup (.none) R:=⟨zbc,h⟩
theorem zeH (h:R (.bool false)):lIsi isTup (.dict []) R:=⟨zbe,h⟩
theorem zfv (h:R (.bool false)):lIsi isStr (.int i) R:=⟨zbm,h⟩
theorem zeM (h:R (.bool false)):lIsi isStr (.bool a) R:=⟨zaY,h⟩
theorem zfu (h:R (.bool true)):lIsi isStr (.str s) R:=⟨zbu,h⟩
theorem zdQ (h:R (.bool false)):lIsi isStr (.tuple xs) R:=⟨zaW,h⟩
theorem zeK (h:R (.bool false)):lIsi isStr (.list xs) R:=⟨zbd,h⟩
theorem zeJ (h:R (.bool false)):lIsi isStr (.none) R:=⟨zbc,h⟩
theorem zeL (h:R (.bool false)):lIsi isStr (.dict []) R:=⟨zbe,h⟩
end
end L2
namespace L2
open PySem PySem.Spec PyProof.Rows
theorem za0 (h:Nat):(1:Int)*2 ^ h=2 ^ h:=Int.one_mul _
end L2
namespace L2
open PySem PySem.Spec PyProof.Rows
theorem zhI {g:DTG}{tb:DTS}{D:DEnds} (Inv:Nat->En->Nat->Prop):∀ (ts:List PyData) (i:Nat) {ρ:En}{n:Nat},Inv i ρ n ->
  (∀ (k:Nat) (t:PyData) (ρ:En) (n:Nat) (K:En->Nat->Prop),ts[k]?=some t->Inv (i+k) ρ n->(∀ ρ' n',Inv (i+k+1) ρ' n'->K ρ' n')->g t ρ fun ρ'=>tb { D with nx:=K,ct:=K,bk:=D.nx } ρ' n) ->
  (∀ ρ n,Inv (i+ts.length) ρ n->D.nx ρ n)->forP g tb D ts ρ n
 | [],i,ρ,n,h0,_,fin=>fin ρ n (by simpa using h0)
 | t::ts,i,ρ,n,h0,turn,fin=>by
  refine turn 0 t ρ n _ rfl (by simpa using h0) fun ρ' n' h'=>?_
  refine zhI Inv ts (i+1) (by simpa using h') (fun k u ρ n K e hI hK=>?_) (fun ρ n h=>fin ρ n ?_)
  ·refine turn (k+1) u ρ n K (by simpa using e) ?_ fun ρ' n' h'=>hK ρ' n' ?_
   ·have:i+(k+1)=i+1+k:=by lia
    rw [this];exact hI
   ·have:i+1+k+1=i+(k+1)+1:=by lia
    rw [this];exact h'
  ·have:i+(t::ts).length=i+1+ts.length:=by simp;lia
   rw [this] at *;exact h
theorem zge {g:DTG}{tb:DTS}{D:DEnds}{ts:List PyData}{ρ:En}{n:Nat} (Inv:Nat->En->Nat->Prop) (h0:Inv 0 ρ n)
  (turn:∀ (k:Nat) (t:PyData) (ρ:En) (n:Nat) (K:En->Nat->Prop),ts[k]?=some t->Inv k ρ n->(∀ ρ' n',Inv (k+1) ρ' n'->K ρ' n')->g t ρ fun ρ'=>tb { D with nx:=K,ct:=K,bk:=D.nx } ρ' n)
  (fin:∀ ρ n,Inv ts.length ρ n->D.nx ρ n):forP g tb D ts ρ n:=by
 refine zhI Inv ts 0 h0 (fun k t ρ n K e hI hK=>turn k t ρ n K e (by simpa using hI) fun ρ' n' h'=>hK ρ' n' (by simpa using h')) fun ρ n h=>fin ρ n (by simpa using h)
theorem zdl {lo:Int}{m i:Nat}{t:PyData} (h:(zbp lo m)[i]?=some t):i<m/\t=.int (lo+(i:Int)):=by
 unfold zbp at h
 rw [List.getElem?_map] at h
 by_cases hi:i<m
 ·rw [List.getElem?_range hi] at h
  cases h
  exact ⟨hi,rfl⟩
 ·rw [List.getElem?_eq_none (by simp;lia)] at h
  cases h
end L2
namespace L2
open PySem PySem.Spec PyProof.Rows
theorem zkv {i j:Nat}{u:DTS}{D:DEnds}{ρ ρd:En}{n:Nat}{ns:List Int}{k:Int} (e0:ρ[0]?=some (some (.val (SCR ns)))) (ej:ρ[j]?=some (some (.val (.int k)))) (hl:ns.length<=63) (k0:0<=k) (k1:k<=100) (ed:za9 ρ=ρd)
  (h:u { nx:=fun ρ' _=>D.nx (za9 ρ') n,rt:=fun t _=>∃ b,t=.bool b/\D.rt t n,bk:=fun ρ' _=>D.bk (za9 ρ') n,ct:=fun ρ' _=>D.ct (za9 ρ') n } ((ρd.set j (some (.val (.int k)))).set i (some (.val HAND))) 0):zgt i j u D ρ n:=by
 subst ed
 unfold zgt
 rw [e0,ej]
 exact ⟨⟨ns,rfl,hl⟩,k0,k1,h⟩
end L2
namespace L2
open PySem PySem.Spec PyProof.Rows
theorem zm6 {tg:DTG}{tt:DTT}{d:DTE}{ρ0:En}{Rl:List PyData->Nat->Prop} (Inv:Nat->List PyData->Nat->Prop):∀ (xs:List PyData) (i:Nat) {acc:List PyData}{n:Nat},Inv i acc n ->
  (∀ (k:Nat) (x:PyData) (acc:List PyData) (n:Nat) (K:List PyData->Nat->Prop),xs[k]?=some x->Inv (i+k) acc n->(∀ acc' n',Inv (i+k+1) acc' n'->K acc' n') ->
   tg x ρ0 fun ρ1=>tt ρ1 n fun b n2=>if b=true then d ρ1 n2 fun t n3=>acc.length<16777216/\K (acc++[t]) n3 else K acc n2) ->
  (∀ acc n,Inv (i+xs.length) acc n->Rl acc n)->zbA tg tt d ρ0 xs acc n Rl
 | [],i,acc,n,h0,_,fin=>fin acc n (by simpa using h0)
 | x::xs,i,acc,n,h0,turn,fin=>by
  refine turn 0 x acc n (fun acc n=>zbA tg tt d ρ0 xs acc n Rl) rfl (by simpa using h0) fun acc' n' h'=>?_
  refine zm6 Inv xs (i+1) (by simpa using h') (fun k u acc n K e hI hK=>?_) (fun acc n h=>fin acc n ?_)
  ·refine turn (k+1) u acc n K (by simpa using e) ?_ fun acc' n' h'=>hK acc' n' ?_
   ·have:i+(k+1)=i+1+k:=by lia
    rw [this];exact hI
   ·have:i+1+k+1=i+(k+1)+1:=by lia
    rw [this];exact h'
  ·have:i+(x::xs).length=i+1+xs.length:=by simp;lia
   rw [this] at *;exact h
theorem zm5 {tg:DTG}{tt:DTT}{d:DTE}{ρ0:En}{Rl:List PyData->Nat->Prop}{xs:List PyData}{n:Nat} (Inv:Nat->List PyData->Nat->Prop) (h0:Inv 0 [] n)
  (turn:∀ (k:Nat) (x:PyData) (acc:List PyData) (n:Nat) (K:List PyData->Nat->Prop),xs[k]?=some x->Inv k acc n->(∀ acc' n',Inv (k+1) acc' n'->K acc' n') ->
   tg x ρ0 fun ρ1=>tt ρ1 n fun b n2=>if b=true then d ρ1 n2 fun t n3=>acc.length<16777216/\K (acc++[t]) n3 else K acc n2)
  (fin:∀ acc n,Inv xs.length acc n->Rl acc n):zbA tg tt d ρ0 xs [] n Rl :=
 zm6 Inv xs 0 h0 (fun k x acc n K e hI hK=>turn k x acc n K e (by simpa using hI) fun a m h=>hK a m (by simpa using h)) fun acc n h=>fin acc n (by simpa using h)
theorem zbz {α:Type}{cs:List α}{D:α->PyData}{tg:DTG}{tt:DTT}{d:DTE}{ρ0:En}{n:Nat}{Rl:List PyData->Nat->Prop} (F:α->PyData) (hl:cs.length<=16777216)
  (step:∀ b∈cs,∀ (K:PyData->Nat->Prop) (X:Nat->Prop),K (F b) n->tg (D b) ρ0 fun ρ1=>tt ρ1 n fun c n2=>if c=true then d ρ1 n2 K else X n2) (fin:Rl (cs.map F) n):zbA tg tt d ρ0 (cs.map D) [] n Rl:=by
 refine zm5 (fun j acc m=>m=n/\acc=(cs.take j).map F) ⟨rfl,rfl⟩ ?_ ?_
 ·rintro j x acc m K ej ⟨rfl,rfl⟩ hK
  rw [List.getElem?_map] at ej
  cases eb:cs[j]? with
  | none=>rw [eb] at ej;cases ej
  | some b =>
   rw [eb] at ej;cases ej
   obtain ⟨hj,e2⟩:=List.getElem?_eq_some_iff.mp eb
   refine step b (List.mem_of_getElem? eb) _ _ ⟨?_,hK _ _ ⟨rfl,?_⟩⟩
   ·simp;lia
   ·rw [List.take_succ,eb];simp
 ·rintro acc m ⟨rfl,rfl⟩
  rw [List.length_map,List.take_length]
  exact fin
theorem zoU {bs:List Bool}{R:PyData->Prop} (h:R (.bool (bs.all id))):bAll [.list (bs.map PyData.bool)] R:=⟨bs,rfl,h⟩
theorem zhB {α:Type}{cs:List α}{f:α->Bool}{R:PyData->Prop} (h:R (.bool (cs.all f))):bAll [.list (cs.map fun b=>PyData.bool (f b))] R:=by
 have e:(cs.map fun b=>PyData.bool (f b))=(cs.map f).map PyData.bool:=by simp
 rw [e]
 refine zoU ?_
 have e2:(cs.map f).all id=cs.all f:=by simp [List.all_map,Function.comp_def]
 rw [e2];exact h
theorem zh2 {many:Int}{n:Nat}{R:PyData->Nat->Prop} (h0:0<many) (h1:many<2 ^ 128) (hn:n<=1000000000000) (h:∀ r:Int,0<=r->r<many->R (.int r) (n+1)):zcu [HAND,.int many] n R:=⟨rfl,h0,h1,hn,h⟩
end L2
namespace L2
open PySem PySem.Spec PyProof.Rows
section
variable {prog:Program}{w:World}{A:Around}{E:Value->Shared->Prop}{s:Shared}
open HT in
theorem zbS {t sl:Addr}{items:Array Value}{vl vu:Value}{lo hi:Option Int}{Q:Value->Shared->Prop} (ht:IsTup s.heap t items) (hs:s.heap.IsSliceOf sl vl vu .none) (pl:IsPart vl lo) (pu:IsPart vu hi)
  (hw:HT.sIx items.size 0 lo=0/\HT.sIx items.size items.size hi=items.size) (h:Q (.ref t) s):wpAny (model prog w) A (getItem (.ref t) (.ref sl)) Q E s:=by
 obtain ⟨os,hos,hcs,hds⟩:=id hs
 have hTs:s.TypeIs (.ref sl) "slice":=⟨os,hos,hcs⟩
 unfold getItem
 try with_reducible refine wpAny_holding ?_
 first | refine wpAny_bind (wpAny_pure ?_) | skip
 refine wpAny_bind (wpAny_sequenceKey ht.typeIs (by decide) ?_)
 refine wpAny_bind (wpAny_callSpecial?_slot (name:=Str.ofString "__getitem__") ht.typeIs PyProof.Rows.slot_tuple_getitem
  (wpAny_call_entry PyProof.Rows.slot_tuple_getitem ht.typeIs entry_tuple_getitem ?_ (args_tuple_getitem _ _)))
 show wpAny _ _ (Builtin.Tuple.tupleItemsOf (.ref t) >>= _) _ _ s
 refine wpAny_bind (tupleItemsOf_ ht ?_)
 refine wpAny_bind (wpAny_typeOf hTs ?_)
 rw [if_pos (by decide)]
 refine wpAny_bind (HT.zbo hs pl pu ?_)
 have hyes:(((HT.sIx items.size 0 lo:Nat):Int) == 0&&(1:Int) == 1&&(HT.sIx items.size items.size hi - HT.sIx items.size 0 lo) == items.size)=true:=by
  rw [hw.1,hw.2];simp
 show wpAny _ _ (if (((HT.sIx items.size 0 lo:Nat):Int) == 0&&(1:Int) == 1&&(HT.sIx items.size items.size hi - HT.sIx items.size 0 lo) == items.size)=true then _ else _) _ _ s
 rw [if_pos hyes]
 unfold Builtin.Tuple.tupleIsExact
 refine wpAny_bind (wpAny_bind (wpAny_typeOf ht.typeIs (wpAny_pure ?_)))
 rw [if_pos (by decide)]
 exact wpAny_bind (wpAny_rule (wpAny_pure ⟨_,rfl,wpAny_pure h⟩))
end
section
variable {X:Cx}
def rSlW (K:PySem.W.Frag):V->Option Int->Option Int->Hp->VK->Prop:=fun x lo hi H Q=>∃ a xs,x=.ref a/\SqT K H a xs/\(HT.sIx xs.length 0 lo=0/\HT.sIx xs.length xs.length hi=xs.length)/\Q (.ref a) H
theorem zjJ:SlR X (rSlW X.K):=by
 intro pins s σ H x v vl vu lo hi sl Q I rx hs pl pu h
 obtain ⟨a,xs,rfl,hx,hw,q⟩:=h
 cases rx
 obtain ⟨its,r,ht,hz⟩:=I.tuple hx
 have hlen:its.toArray.size=xs.length:=by rw [List.size_toArray];exact r.length.symm
 refine ⟨"tuple",_,PyProof.Rows.slot_tuple_getitem.lookup,ht.typeIs,?_⟩
 exact zbS ht hs pl pu (by rw [hlen];exact hw) ⟨.ref a,H,I,rfl,q⟩
end
abbrev DTO:=En->Nat->(Option Int->Nat->Prop)->Prop
def DP (X:Cx) (e:Option Expr) (d:DTO):Prop:=∃ t,PO X e t/\∀ (C:Ctx) (ρ:En) (σ:St) (H:Hp) (n:Nat) (Q:Option Int->Hp->Prop) (R:Option Int->Nat->Prop),Stt X.K C ρ σ H n->d ρ n R ->
 (∀ o n' H',R o n'->ExtE C.hd H H'->Hn C.hd H' n'->Q o H')->t σ H Q
def zfH:DTO:=fun ρ n R=>R none n
def zkM (d:DTE):DTO:=fun ρ n R=>d ρ n fun t n'=>lInt t fun i=>R (some i) n'
def cutD (ts:List PyData) (lo hi:Option Int):List PyData:=(ts.drop (HT.sIx ts.length 0 lo)).take (HT.sIx ts.length ts.length hi - HT.sIx ts.length 0 lo)
section
variable {X:Cx}{e:Expr}{d:DTE}{lo hi:Option Expr}{dlo dhi:DTO}{pos p2:Pos}
theorem zcg:DP X none zfH:=⟨_,zjV,fun C ρ σ H n Q R S h hq=>hq none n H h ExtE.refl S.hnd⟩
theorem zbU (h:DE X e d):DP X (some e) (zkM d):=by
 obtain ⟨ta,pa,h⟩:=h
 refine ⟨_,zjU pa,fun C ρ σ H n Q R S hd hq=>?_⟩
 refine h C ρ σ H n _ _ S hd fun t n1 v H1 r1 e1 h1 q1=>?_
 cases t with
 | int i =>
  cases q1
  exact ⟨i,rfl,hq (some i) n1 H1 r1 e1 h1⟩
 | _=>exact r1.elim
theorem zjb {K:PySem.W.Frag}{hd:Option Addr}{O:Addr->Prop}{H:Hp}{vs ts} (r:Reps K hd O H vs ts) (lo hi:Option Int):Reps K hd O H (cutV vs lo hi) (cutD ts lo hi):=by
 unfold cutV cutD
 rw [r.length]
 exact (r.drop _).take _
theorem zgF {ts:List PyData}{lo hi:Option Int} (h:HT.sIx ts.length 0 lo=0/\HT.sIx ts.length ts.length hi=ts.length):cutD ts lo hi=ts:=by
 unfold cutD;rw [h.1,h.2];simp
end
end L2
namespace L2
open PySem PySem.Spec PyProof.Rows
structure NxS (prog:Program) (w:World) (i a:Addr) (IT:Nat->Heap->Prop) (SQ:Heap->Array Value->Prop):Prop where
 rcd:∀ k h,IT k h->∃ o,h.get? i=some o/\∀ v,o.data≠.cell v
 keep:∀ k h h',IT k h->(∀ o,h.get? i=some o->h'.get? i=some o)->IT k h'
 sk:∀ h h' xs,SQ h xs->(∀ o,h.get? a=some o->h'.get? a=some o)->SQ h' xs
 item:∀ (A:Around) (E:Value->Shared->Prop) (k:Nat) (xs:Array Value) (x:Value) (s:Shared) (Q:Value->Shared->Prop),IT k s.heap->SQ s.heap xs->xs[k]?=some x ->
  (∀ h',IT (k+1) h'->Heap.SameBut i s.heap h'->Q x { s with heap:=h' })->wpAny (model prog w) A (Builtin.SmallTypes.nextOf (.ref i)) Q E s
 done:∀ (A:Around) (E:Value->Shared->Prop) (k:Nat) (xs:Array Value) (s:Shared) (Q:Value->Shared->Prop),A.handled=none->IT k s.heap->SQ s.heap xs->xs[k]?=none ->
  (∀ h' e,Heap.ExtBut i s.heap h'->(∃ o,h'.get? e=some o/\o.cls=.type "StopIteration")->E (.ref e) { s with heap:=h' })->wpAny (model prog w) A (Builtin.SmallTypes.nextOf (.ref i)) Q E s
theorem zkg {prog:Program}{w:World}{i a:Addr}:NxS prog w i a (fun k h=>h.IsListIter i a k) (fun h xs=>h.IsList a xs) where
 rcd:=fun k h ⟨o,e,c,d⟩=>⟨o,e,fun v z=>by rw [d] at z;cases z⟩
 keep:=fun k h h' x f=>x.at f
 sk:=fun h h' xs x f=>x.at f
 item:=fun A E k xs x s Q h1 h2 h3 h=>wpAny_nextOf_list_item h1 h2 h3 h
 done:=fun A E k xs s Q hh h1 h2 h3 h=>wpAny_nextOf_list_end hh h1 h2 h3 h
section
variable {prog:Program}{w:World}{A:Around}{E:Value->Shared->Prop}{s:Shared}
theorem zep {i:Addr}{T id:String}{Q:Value->Shared->Prop}{f:Builtin} (hT:s.TypeIs (.ref i) T) (sl:Slot T "__next__" id) (en:entryFor table id=some f) (ao:argsOk id ⟨[.ref i],[]⟩)
  (h:wpAny (model prog w) A.in1 (f ⟨[.ref i],[]⟩) (fun fin s'=>∃ v,fin=.done (.ret v)/\Q v s') E s):wpAny (model prog w) A (Builtin.SmallTypes.nextOf (.ref i)) Q E s:=by
 unfold Builtin.SmallTypes.nextOf
 refine wpAny_bind (wpAny_callSpecial?_slot (name:=Str.ofString "__next__") hT sl (wpAny_call_entry sl hT en ?_ ao))
 refine wpAny_mono h (fun fin s' hq=>?_) fun _ _ e=>e
 obtain ⟨v,e,q⟩:=hq
 exact ⟨v,e,wpAny_pure q⟩
theorem zd5 {i a:Addr}{k:Nat}{xs:Array Value}{x:Value}{Q:Value->Shared->Prop} (h1:s.heap.IsTupleIter i a k) (h2:s.heap.IsTuple a xs) (h3:xs[k]?=some x)
  (h:∀ h',h'.IsTupleIter i a (k+1)->Heap.SameBut i s.heap h'->Q x { s with heap:=h' }):wpAny (model prog w) A (Builtin.SmallTypes.nextOf (.ref i)) Q E s:=by
 refine zep h1.typeIs F.slot_tuple_iterator_next F.entry_tuple_iterator_next (F.args_tuple_iterator_next_1 _) ?_
 obtain ⟨o,e1,e2,e3⟩:=h1
 obtain ⟨p,f1,_,n,f3⟩:=h2
 refine wpAny_bind (m:=field (.ref i) 0) (wpAny_field e1 e3 (x:=.ref a) rfl ?_)
 have ne:¬((Value.ref a == Value.none)=true):=fun z=>by cases z
 rw [if_neg ne]
 refine wpAny_bind (m:=field (.ref i) 1) (wpAny_field e1 e3 (x:=.int k 0) rfl ?_)
 refine wpAny_bind (m:=seqItems? (.ref a)) (wpAny_seqItems f1 f3 ?_)
 simp only [Int.toNat_natCast,h3]
 refine wpAny_bind (wpAny_setField e1 e3 (by simp) (wpAny_pure ⟨x,rfl,h _ ?_ (Heap.SameBut.update ..)⟩))
 refine ⟨_,Heap.get?_update_self _ e1 (Obj.isFreed_of_fields (Obj.data_mapFields e3 _)),?_,?_⟩
 ·rw [Obj.cls_mapFields];exact e2
 ·rw [Obj.data_mapFields e3];simp [rawInt]
theorem zd6 {i a:Addr}{k:Nat}{xs:Array Value}{Q:Value->Shared->Prop} (hh:A.handled=none) (h1:s.heap.IsTupleIter i a k) (h2:s.heap.IsTuple a xs) (h3:xs[k]?=none)
  (h:∀ h' e,Heap.ExtBut i s.heap h'->(∃ o,h'.get? e=some o/\o.cls=.type "StopIteration")->E (.ref e) { s with heap:=h' }):wpAny (model prog w) A (Builtin.SmallTypes.nextOf (.ref i)) Q E s:=by
 refine zep h1.typeIs F.slot_tuple_iterator_next F.entry_tuple_iterator_next (F.args_tuple_iterator_next_1 _) ?_
 obtain ⟨o,e1,e2,e3⟩:=h1
 obtain ⟨p,f1,_,n,f3⟩:=h2
 refine wpAny_bind (m:=field (.ref i) 0) (wpAny_field e1 e3 (x:=.ref a) rfl ?_)
 have ne:¬((Value.ref a == Value.none)=true):=fun z=>by cases z
 rw [if_neg ne]
 refine wpAny_bind (m:=field (.ref i) 1) (wpAny_field e1 e3 (x:=.int k 0) rfl ?_)
 refine wpAny_bind (m:=seqItems? (.ref a)) (wpAny_seqItems f1 f3 ?_)
 simp only [Int.toNat_natCast,h3]
 refine wpAny_bind (wpAny_rule (wpAny_bind (wpAny_setField e1 e3 (by simp) ?_)))
 refine wpAny_bind (m:=newExc (.type "StopIteration") []) ?_
 simp only [newExc,newTuple]
 refine wpAny_bind (wpAny_newObj_type ?_ (by size_fits))
 refine wpAny_bind (m:=firstArgMember _ _) (wpAny_of_eq (a:=Value.none) (by first | rfl | (simp only [firstArgMember];rfl)) (wpAny_newObj_type ?_ (by size_fits)))
 simp only [raiseNew]
 refine wpAny_bind (wpAny_handled ?_)
 have hh1:A.in1.handled=none:=hh
 first | rw [hh1] | rw [hh]
 exact wpAny_bind (wpAny_pure (wpAny_throw (h _ _ (((Heap.SameBut.update ..).extBut.push _).push _) ⟨_,Heap.get?_push_size _ rfl,rfl⟩)))
end
theorem Heap.IsTupleIter.at' {h h':Heap}{i a:Addr}{k:Nat} (x:h.IsTupleIter i a k) (f:∀ o,h.get? i=some o->h'.get? i=some o):h'.IsTupleIter i a k:=by
 obtain ⟨o,e,r⟩:=x;exact ⟨o,f o e,r⟩
theorem Heap.IsTuple.at' {h h':Heap}{a:Addr}{xs:Array Value} (x:h.IsTuple a xs) (f:∀ o,h.get? a=some o->h'.get? a=some o):h'.IsTuple a xs:=by
 obtain ⟨o,e,r⟩:=x;exact ⟨o,f o e,r⟩
theorem zl5 {prog:Program}{w:World}{i a:Addr}:NxS prog w i a (fun k h=>h.IsTupleIter i a k) (fun h xs=>h.IsTuple a xs) where
 rcd:=fun k h ⟨o,e,c,d⟩=>⟨o,e,fun v z=>by rw [d] at z;cases z⟩
 keep:=fun k h h' x f=>Heap.IsTupleIter.at' x f
 sk:=fun h h' xs x f=>Heap.IsTuple.at' x f
 item:=fun A E k xs x s Q h1 h2 h3 h=>zd5 h1 h2 h3 h
 done:=fun A E k xs s Q hh h1 h2 h3 h=>zd6 hh h1 h2 h3 h
end L2
namespace L2
open PySem PySem.Spec PyProof.Rows
structure ZAp (z TI TO i1 i2 a1 a2:Addr):Prop where
 p:[z,TI,TO,i1,i2].Nodup
 q:∀ a∈[a1,a2],a∉[z,TI,TO,i1,i2]
section
variable {prog:Program}{w:World}{A:Around}{E:Value->Shared->Prop}{s:Shared}{z TI TO i1 i2 a1 a2:Addr}{I1 I2:Nat->Heap->Prop}{S1 S2:Heap->Array Value->Prop}
structure ZSt (z TI TO i1 i2:Addr) (I1 I2:Nat->Heap->Prop) (f:Value) (k:Nat) (h:Heap):Prop where
 zip:IsZip h z TI TO f
 ti:IsPair h TI (.ref i1) (.ref i2)
 to:∃ a b,IsPair h TO a b
 it1:I1 k h
 it2:I2 k h
theorem zgK (D:ZAp z TI TO i1 i2 a1 a2):(z≠TI/\z≠TO/\z≠i1/\z≠i2/\TI≠TO/\TI≠i1/\TI≠i2/\TO≠i1/\TO≠i2/\i1≠i2)/\(a1≠z/\a1≠TO/\a1≠i1/\a1≠i2)/\(a2≠z/\a2≠TO/\a2≠i1/\a2≠i2):=by
 have h1:=D.p
 have h2:=D.q
 simp only [List.nodup_cons,List.mem_cons,List.not_mem_nil,or_false,not_or,List.nodup_nil,and_true,not_false_eq_true] at h1
 have q1:=h2 a1 (by simp)
 have q2:=h2 a2 (by simp)
 simp only [List.mem_cons,List.not_mem_nil,or_false,not_or] at q1 q2
 exact ⟨⟨h1.1.1,h1.1.2.1,h1.1.2.2.1,h1.1.2.2.2,h1.2.1.1,h1.2.1.2.1,h1.2.1.2.2,h1.2.2.1.1,h1.2.2.1.2,h1.2.2.2⟩,⟨q1.1,q1.2.2.1,q1.2.2.2.1,q1.2.2.2.2⟩,⟨q2.1,q2.2.2.1,q2.2.2.2.1,q2.2.2.2.2⟩⟩
theorem z_item {k:Nat}{xs ys:Array Value}{x y:Value}{Q:Value->Shared->Prop} (D:ZAp z TI TO i1 i2 a1 a2) (N1:NxS prog w i1 a1 I1 S1) (N2:NxS prog w i2 a2 I2 S2) (st:ZSt z TI TO i1 i2 I1 I2 .none k s.heap) (s1:S1 s.heap xs) (s2:S2 s.heap ys)
  (hx:xs[k]?=some x) (hy:ys[k]?=some y)
  (hQ:∀ h',ZSt z TI TO i1 i2 I1 I2 (rawInt s.heap.objs.size) (k+1) h'->IsPair h' s.heap.objs.size x y->h'.objs.size=s.heap.objs.size+1 ->
   (∀ c o,c≠z->c≠TO->c≠i1->c≠i2->s.heap.get? c=some o->h'.get? c=some o)->Q (.ref s.heap.objs.size) { s with heap:=h' }) :
  wpAny (model prog w) A (Builtin.«zip.__next__» ⟨[.ref z],[]⟩) (fun fin s'=>∃ v,fin=.done (.ret v)/\Q v s') E s:=by
 obtain ⟨⟨d1,d2,d3,d4,d5,d6,d7,d8,d9,d10⟩,⟨e1,e2,e3,e4⟩,⟨g1,g2,g3,g4⟩⟩:=zgK D
 obtain ⟨zip,ti,⟨va,vb,to⟩,it1,it2⟩:=st
 refine wpAny_bind (m:=field (.ref z) 2) (wpAny_field zip rfl (x:=.bool false) rfl ?_)
 refine wpAny_bind (m:=field (.ref z) 3) (wpAny_field zip rfl (x:=.ref TI) rfl (wpAny_bind (wpAny_seqItems ti rfl ?_)))
 refine wpAny_bind (m:=Builtin.SmallTypes.ownedTupleIsFree (.ref z)) ?_
 unfold Builtin.SmallTypes.ownedTupleIsFree
 refine wpAny_bind (wpAny_field zip rfl (x:=.none) rfl (wpAny_pure ?_))
 simp only [if_true]
 refine wpAny_bind (wpAny_rule (wpAny_bind (wpAny_field zip rfl (x:=.ref TO) rfl (wpAny_bind (wpAny_setField_rec zip (by simp) fun hA zA bA=>?_)))))
 have zA':IsZip hA z TI TO .ellipsis:=zA
 refine wpAny_bind ?_
 simp only [List.zipIdx_cons,List.zipIdx_nil,List.forIn_cons,List.forIn_nil]
 refine wpAny_bind (wpAny_bind (wpAny_onRaise (wpAny_bind (m:=Builtin.SmallTypes.nextOf (.ref i1)) ?_)))
 refine N1.item _ _ k xs x _ _ (N1.keep _ _ _ it1 fun o e=>bA.extBut _ _ d3.symm e) (N1.sk _ _ _ s1 fun o e=>bA.extBut _ _ e1 e) hx fun hB it1B bB=>wpAny_pure ?_
 have toB:IsPair hB TO va vb:=bB.extBut _ _ d8 (bA.extBut _ _ d2.symm to)
 refine wpAny_bind (wpAny_seqItems toB rfl (wpAny_bind (wpAny_updateSeq_pair toB fun hC toC bC=>?_)))
 have toC':IsPair hC TO x vb:=toC
 refine wpAny_bind (wpAny_letGo (wpAny_pure ?_))
 refine wpAny_bind (wpAny_bind (wpAny_onRaise (wpAny_bind (m:=Builtin.SmallTypes.nextOf (.ref i2)) ?_)))
 have up2:∀ c o,c≠z->c≠TO->c≠i1->s.heap.get? c=some o->hC.get? c=some o:=fun c o c1 c2 c3 e=>bC.extBut _ _ c2 (bB.extBut _ _ c3 (bA.extBut _ _ c1 e))
 refine N2.item _ _ k ys y _ _ (N2.keep _ _ _ it2 fun o e=>up2 _ _ d4.symm d9.symm d10.symm e) (N2.sk _ _ _ s2 fun o e=>up2 _ _ g1 g2 g3 e) hy fun hD it2D bD=>wpAny_pure ?_
 have toD:IsPair hD TO x vb:=bD.extBut _ _ d9 toC'
 refine wpAny_bind (wpAny_seqItems toD rfl (wpAny_bind (wpAny_updateSeq_pair toD fun hF toF bF=>?_)))
 have toF':IsPair hF TO x y:=toF
 refine wpAny_bind (wpAny_letGo (wpAny_pure (wpAny_pure ?_)))
 refine wpAny_bind (wpAny_seqItems toF' rfl (wpAny_bind (wpAny_newTuple ?_)))
 have sz:hF.objs.size=s.heap.objs.size:=by rw [bF.1,bD.1,bC.1,bB.1,bA.1]
 have upF:∀ c o,c≠z->c≠TO->c≠i1->c≠i2->s.heap.get? c=some o->hF.get? c=some o:=fun c o c1 c2 c3 c4 e=>bF.extBut _ _ c2 (bD.extBut _ _ c4 (up2 c o c1 c2 c3 e))
 have zF:IsZip hF z TI TO .ellipsis:=bF.extBut _ _ d2 (bD.extBut _ _ d4 (bC.extBut _ _ d2 (bB.extBut _ _ d3 zA')))
 have zlt:z<hF.objs.size:=Heap.lt_size zF
 refine wpAny_bind (m:=Builtin.SmallTypes.ownedTupleHandOut (.ref z) (.ref hF.objs.size)) ?_
 unfold Builtin.SmallTypes.ownedTupleHandOut
 have zG:IsZip (hF.push { cls:=.type "tuple",data:=.seq #[x,y] }) z TI TO .ellipsis:=Heap.get?_push_of_some _ zF
 refine wpAny_bind (wpAny_setField_rec zG (by simp) fun hI zI bI=>?_)
 have zI':IsZip hI z TI TO (rawInt hF.objs.size):=zI
 refine wpAny_setField_rec zI' (by simp) fun hJ zJ bJ=>wpAny_pure ⟨_,rfl,?_⟩
 have zJ':IsZip hJ z TI TO (rawInt hF.objs.size):=zJ
 have up:∀ c o,c≠z->hF.get? c=some o->hJ.get? c=some o:=fun c o c1 e=>bJ.extBut _ _ c1 (bI.extBut _ _ c1 (Heap.get?_push_of_some _ e))
 have pr:IsPair hJ hF.objs.size x y:=bJ.extBut _ _ (Nat.ne_of_gt zlt) (bI.extBut _ _ (Nat.ne_of_gt zlt) (Heap.get?_push_size _ rfl))
 have szJ:hJ.objs.size=hF.objs.size+1:=by rw [bJ.1,bI.1,Heap.size_push]
 rw [sz] at zJ' pr szJ
 show Q (.ref hF.objs.size) _
 rw [sz]
 refine hQ hJ ⟨zJ',up _ _ d1.symm (upF _ _ d1.symm d5 d6 d7 ti),⟨x,y,up _ _ d2.symm toF'⟩,?_,?_⟩ pr szJ fun c o c1 c2 c3 c4 e=>up c o c1 (upF c o c1 c2 c3 c4 e)
 ·exact N1.keep _ _ _ it1B fun o e=>up _ _ d3.symm (bF.extBut _ _ d8.symm (bD.extBut _ _ d10 (bC.extBut _ _ d8.symm e)))
 ·exact N2.keep _ _ _ it2D fun o e=>up _ _ d4.symm (bF.extBut _ _ d9.symm e)
theorem z_end {k:Nat}{xs ys:Array Value}{Q:PySem.Fin->Shared->Prop} (hh:A.handled=none) (D:ZAp z TI TO i1 i2 a1 a2) (N1:NxS prog w i1 a1 I1 S1) (N2:NxS prog w i2 a2 I2 S2) (st:ZSt z TI TO i1 i2 I1 I2 .none k s.heap) (s1:S1 s.heap xs) (s2:S2 s.heap ys)
  (hxy:xs[k]?=none\/ys[k]?=none)
  (hE:∀ h' e,(∀ c o,c≠z->c≠TO->c≠i1->c≠i2->s.heap.get? c=some o->h'.get? c=some o)->(∃ o,h'.get? e=some o/\o.cls=.type "StopIteration")->E (.ref e) { s with heap:=h' }) :
  wpAny (model prog w) A (Builtin.«zip.__next__» ⟨[.ref z],[]⟩) Q E s:=by
 obtain ⟨⟨d1,d2,d3,d4,d5,d6,d7,d8,d9,d10⟩,⟨e1,e2,e3,e4⟩,⟨g1,g2,g3,g4⟩⟩:=zgK D
 obtain ⟨zip,ti,⟨va,vb,to⟩,it1,it2⟩:=st
 refine wpAny_bind (m:=field (.ref z) 2) (wpAny_field zip rfl (x:=.bool false) rfl ?_)
 refine wpAny_bind (m:=field (.ref z) 3) (wpAny_field zip rfl (x:=.ref TI) rfl (wpAny_bind (wpAny_seqItems ti rfl ?_)))
 refine wpAny_bind (m:=Builtin.SmallTypes.ownedTupleIsFree (.ref z)) ?_
 unfold Builtin.SmallTypes.ownedTupleIsFree
 refine wpAny_bind (wpAny_field zip rfl (x:=.none) rfl (wpAny_pure ?_))
 simp only [if_true]
 refine wpAny_bind (wpAny_rule (wpAny_bind (wpAny_field zip rfl (x:=.ref TO) rfl (wpAny_bind (wpAny_setField_rec zip (by simp) fun hA zA bA=>?_)))))
 have zA':IsZip hA z TI TO .ellipsis:=zA
 refine wpAny_bind ?_
 simp only [List.zipIdx_cons,List.zipIdx_nil,List.forIn_cons,List.forIn_nil]
 refine wpAny_bind (wpAny_bind (wpAny_onRaise (wpAny_bind (m:=Builtin.SmallTypes.nextOf (.ref i1)) ?_)))
 have a1':=N1.keep _ _ _ it1 fun o e=>bA.extBut _ _ d3.symm e
 have a2':=N1.sk _ _ _ s1 fun o e=>bA.extBut _ _ e1 e
 cases hx:xs[k]? with
 | none =>
  refine N1.done _ _ k xs _ _ hh a1' a2' hx fun hB e bB ⟨oe,he,hc⟩=>?_
  have zB:IsZip hB z TI TO .ellipsis:=bB _ _ d3 zA'
  have ez:e≠z:=fun y=>by subst y;rw [zB] at he;cases he;simp at hc
  exact wpAny_setField_rec zB (by simp) fun hC _ bC=>hE hC e (fun c o c1 _ c3 _ y=>bC.extBut _ _ c1 (bB _ _ c3 (bA.extBut _ _ c1 y))) ⟨oe,bC.extBut _ _ ez he,hc⟩
 | some x =>
  have hy:ys[k]?=none:=by rcases hxy with h | h;rw [hx] at h;cases h;exact h
  refine N1.item _ _ k xs x _ _ a1' a2' hx fun hB it1B bB=>wpAny_pure ?_
  have toB:IsPair hB TO va vb:=bB.extBut _ _ d8 (bA.extBut _ _ d2.symm to)
  refine wpAny_bind (wpAny_seqItems toB rfl (wpAny_bind (wpAny_updateSeq_pair toB fun hC toC bC=>?_)))
  refine wpAny_bind (wpAny_letGo (wpAny_pure ?_))
  refine wpAny_bind (wpAny_bind (wpAny_onRaise (wpAny_bind (m:=Builtin.SmallTypes.nextOf (.ref i2)) ?_)))
  have up2:∀ c o,c≠z->c≠TO->c≠i1->s.heap.get? c=some o->hC.get? c=some o:=fun c o c1 c2 c3 e=>bC.extBut _ _ c2 (bB.extBut _ _ c3 (bA.extBut _ _ c1 e))
  refine N2.done _ _ k ys _ _ hh (N2.keep _ _ _ it2 fun o e=>up2 _ _ d4.symm d9.symm d10.symm e) (N2.sk _ _ _ s2 fun o e=>up2 _ _ g1 g2 g3 e) hy fun hD e bD ⟨oe,he,hc⟩=>?_
  have zD:IsZip hD z TI TO .ellipsis:=bD _ _ d4 (bC.extBut _ _ d2 (bB.extBut _ _ d3 zA'))
  have ez:e≠z:=fun y=>by subst y;rw [zD] at he;cases he;simp at hc
  exact wpAny_setField_rec zD (by simp) fun hF _ bF=>hE hF e (fun c o c1 c2 c3 c4 y=>bF.extBut _ _ c1 (bD _ _ c4 (up2 c o c1 c2 c3 y))) ⟨oe,bF.extBut _ _ ez he,hc⟩
theorem zk1 {k:Nat}{xs ys:Array Value}{x y:Value}{Q:Option Value->Shared->Prop} (D:ZAp z TI TO i1 i2 a1 a2) (N1:NxS prog w i1 a1 I1 S1) (N2:NxS prog w i2 a2 I2 S2) (st:ZSt z TI TO i1 i2 I1 I2 .none k s.heap) (s1:S1 s.heap xs) (s2:S2 s.heap ys)
  (hx:xs[k]?=some x) (hy:ys[k]?=some y)
  (hQ:∀ h',ZSt z TI TO i1 i2 I1 I2 (rawInt s.heap.objs.size) (k+1) h'->IsPair h' s.heap.objs.size x y->h'.objs.size=s.heap.objs.size+1 ->
   (∀ c o,c≠z->c≠TO->c≠i1->c≠i2->s.heap.get? c=some o->h'.get? c=some o)->Q (some (.ref s.heap.objs.size)) { s with heap:=h' }) :
  wpAny (model prog w) A (pyNext (.ref z)) Q E s:=by
 have hT:s.TypeIs (.ref z) "zip":=⟨_,st.zip,rfl⟩
 unfold pyNext
 exact wpAny_bind (wpAny_attempt (wpAny_callSpecial?_slot (name:=Str.ofString "__next__") hT F.slot_zip_next (wpAny_call_entry F.slot_zip_next hT F.entry_zip_next
  (z_item D N1 N2 st s1 s2 hx hy fun h' b1 b2 b3 b4=>wpAny_pure (hQ h' b1 b2 b3 b4)) (F.args_zip_next_1 _))))
theorem zk0 {k:Nat}{xs ys:Array Value}{Q:Option Value->Shared->Prop} (hh:A.handled=none) (D:ZAp z TI TO i1 i2 a1 a2) (N1:NxS prog w i1 a1 I1 S1) (N2:NxS prog w i2 a2 I2 S2) (st:ZSt z TI TO i1 i2 I1 I2 .none k s.heap) (s1:S1 s.heap xs) (s2:S2 s.heap ys)
  (hxy:xs[k]?=none\/ys[k]?=none) (hQ:∀ h',(∀ c o,c≠z->c≠TO->c≠i1->c≠i2->s.heap.get? c=some o->h'.get? c=some o)->Q none { s with heap:=h' }):wpAny (model prog w) A (pyNext (.ref z)) Q E s:=by
 have hT:s.TypeIs (.ref z) "zip":=⟨_,st.zip,rfl⟩
 unfold pyNext
 refine wpAny_bind (wpAny_attempt (wpAny_callSpecial?_slot (name:=Str.ofString "__next__") hT F.slot_zip_next (wpAny_call_entry F.slot_zip_next hT F.entry_zip_next
  (z_end hh D N1 N2 st s1 s2 hxy fun h' e hk ⟨o,ho,hc⟩=>?_) (F.args_zip_next_1 _))))
 exact wpAny_bind (wpAny_isInstance (T:="StopIteration") (b:=true) ⟨o,ho,hc⟩ isSubtype_stop (wpAny_pure (hQ _ hk)))
end
end L2
namespace L2
open PySem PySem.Spec PyProof.Rows
def SqB (t:Bool) (K:PySem.W.Frag) (H:Hp) (a:Addr) (xs:List V):Prop:=match t with | true=>SqT K H a xs | false=>SqL K H a xs
def ITB (t:Bool) (i a:Addr):Nat->Heap->Prop:=match t with | true=>fun k h=>h.IsTupleIter i a k | false=>fun k h=>h.IsListIter i a k
def SQB (t:Bool) (a:Addr):Heap->Array Value->Prop:=match t with | true=>fun h xs=>h.IsTuple a xs | false=>fun h xs=>h.IsList a xs
def itN (t:Bool):String:=match t with | true=>"tuple_iterator" | false=>"list_iterator"
theorem nx_B {prog:Program}{w:World}{i a:Addr} (t:Bool):NxS prog w i a (ITB t i a) (SQB t a):=by
 cases t
 ·exact zkg
 ·exact zl5
section
variable {X:Cx}{pins:List (Addr×Obj)}{σ:St}{H:Hp}{s:Shared}
theorem Inv.seqB {t:Bool}{a:Addr}{xs:List V} (I:Inv X pins σ H s) (h:SqB t X.K H a xs):∃ its:List Value,Vals xs its/\SQB t a s.heap its.toArray/\xs.length<=sizeLine:=by
 cases t
 ·obtain ⟨its,r,p,z⟩:=I.list h
  exact ⟨its,r,p.isList,z⟩
 ·obtain ⟨its,r,p,z⟩:=I.tuple h
  exact ⟨its,r,p,z⟩
theorem Inv.injB {t:Bool}{a:Addr}{xs ys:List V} (I:Inv X pins σ H s) (h:SqB t X.K H a xs) (h':SqB t X.K H a ys):xs=ys:=by
 cases t
 ·exact I.list_inj h h'
 ·exact I.tuple_inj h h'
theorem Inv.turnedL {h':Heap}{t':Nat} (ch:List Addr) (I:Inv X pins σ H s) (k:∀ b o,b∉ch->s.heap.get? b=some o->h'.get? b=some o) (f:∀ b∈ch,FpOk X pins H b):Inv X pins σ H { s with heap:=h',toks:=t' }:=by
 have nch:∀ b u,H b=some u->b∉ch:=fun b u e z=>by rw [(f b z).1] at e;cases e
 refine I.step (g':=s.gens) (d':=s.drawn) (ch:=ch) (fun b hb=>⟨(f b hb).2.2.2.1,(f b hb).2.1,(f b hb).2.2.2.2.1,(f b hb).2.2.2.2.2⟩) (fun b o _ _ hc e _=>k b o hc e) (fun b o _ _ hc e _=>⟨o.slots,k b o hc e⟩) (fun _ _ _ _ n=>n) (fun b o hc e=>⟨o,k b o hc e⟩) (fun _ _ e=>e) (fun _ _ _ e=>e)
  (fun b ps e=>⟨#[],by rw [e];simp⟩) (fun m ⟨o,es,ep,ho,r⟩=>⟨o,es,ep,k _ o (fun z=>(f _ z).2.1 rfl) ho,r⟩) (fun b u e=>(I.hok b u e).stay (fun c v hc q=>k c v ?_ q) (fun _ q=>q) fun _ _ q=>q) I.bare
 rcases hc with z | z
 ·rw [z];exact nch b u e
 ·exact nch c _ z
end
section
variable {prog:Program}{w:World}{A:Around}{E:Value->Shared->Prop}{s:Shared}
theorem zmt {t:Bool}{a:Addr}{xs:Array Value}{Q:Value->Shared->Prop} (h:SQB t a s.heap xs) (hQ:Q (.ref s.heap.objs.size) { s with heap:=s.heap.push { cls:=.type (itN t),data:=.fields #[.ref a,.int 0 0] } }):wpAny (model prog w) A (pyIter (.ref a)) Q E s:=by
 cases t
 ·exact wpAny_pyIter_list h hQ
 ·exact wpAny_pyIter_tuple h hQ
theorem SQB.push {t:Bool}{a:Addr}{xs:Array Value}{h:Heap} (x:SQB t a h xs) (o:Obj):SQB t a (h.push o) xs:=by
 cases t
 ·exact Heap.IsList.push x o
 ·exact Heap.IsTuple.push x o
abbrev zA (h:Heap) (t:Bool) (a:Addr):Heap:=h.push { cls:=.type (itN t),data:=.fields #[.ref a,.int 0 0] }
abbrev zB (h:Heap) (t u:Bool) (a b:Addr):Heap:=(zA h t a).push { cls:=.type (itN u),data:=.fields #[.ref b,.int 0 0] }
abbrev zC (h:Heap) (t u:Bool) (a b:Addr):Heap:=(zB h t u a b).push { cls:=.type "tuple",data:=.seq #[.ref h.objs.size,.ref (zA h t a).objs.size] }
abbrev zD (h:Heap) (t u:Bool) (a b:Addr):Heap:=(zC h t u a b).push { cls:=.type "tuple",data:=.seq #[.none,.none] }
abbrev zE (h:Heap) (t u:Bool) (a b:Addr):Heap:=(zD h t u a b).push { cls:=.type "zip",data:=.fields #[.none,.bool false,.bool false,.ref (zB h t u a b).objs.size,.ref (zC h t u a b).objs.size] }
theorem ziQ (t u:Bool) (a b:Addr) (xs ys:Array Value) :
  Meets (Builtin.«zip.__new__» ⟨[.type "zip",.ref a,.ref b],[]⟩) (fun _ R s=>SQB t a s.heap xs/\SQB u b s.heap ys/\R (.ok (.ret (.ref (zD s.heap t u a b).objs.size))) { s with heap:=zE s.heap t u a b }) :=
 .of_wp fun prog w A R s h=>by
  obtain ⟨hp,g,d,tk,os⟩:=s;obtain ⟨h1,h2,h⟩:=h
  have hsub:=sub_zip
  have L1:SQB t a (Shared.heap ⟨hp,g,d,tk,os⟩) xs:=h1
  have L2:SQB u b (Shared.heap ⟨hp.push { cls:=.type (itN t),data:=.fields #[.ref a,.int 0 0] },g,d,tk,os⟩) ys:=SQB.push h2 _
  wp_walk using zmt L1,zmt L2
  exact ⟨_,rfl,h⟩
theorem ITB.new {t:Bool}{i a:Addr}{h:Heap} (e:h.get? i=some { cls:=.type (itN t),data:=.fields #[.ref a,.int 0 0] }):ITB t i a 0 h:=by
 cases t
 ·exact ⟨_,e,rfl,rfl⟩
 ·exact ⟨_,e,rfl,rfl⟩
theorem zkR {t u:Bool}{a b:Addr}{xs ys:Array Value}{Q:Value->Shared->Prop} (h1:SQB t a s.heap xs) (h2:SQB u b s.heap ys)
  (h:∀ h',ZSt (s.heap.objs.size+4) (s.heap.objs.size+2) (s.heap.objs.size+3) s.heap.objs.size (s.heap.objs.size+1) (ITB t s.heap.objs.size a) (ITB u (s.heap.objs.size+1) b) .none 0 h'->h'.objs.size=s.heap.objs.size+5 ->
   (∀ c o,s.heap.get? c=some o->h'.get? c=some o)->Q (.ref (s.heap.objs.size+4)) { s with heap:=h' }) :
  wpAny (model prog w) A (call (.type "zip") [.ref a,.ref b]) Q E s:=by
 refine callType_new F.called_zip (by decide) (F.typeCall_zip_2 _ _) (F.newCall_zip_2 _ _) (fun obj=>F.args_object_init_3 obj _ _) F.entry_zip_new (ziQ t u a b xs ys) ⟨h1,h2,?_⟩
 have n1:(zA s.heap t a).objs.size=s.heap.objs.size+1:=Heap.size_push ..
 have n2:(zB s.heap t u a b).objs.size=s.heap.objs.size+2:=by rw [Heap.size_push,n1]
 have n3:(zC s.heap t u a b).objs.size=s.heap.objs.size+3:=by rw [Heap.size_push,n2]
 have n4:(zD s.heap t u a b).objs.size=s.heap.objs.size+4:=by rw [Heap.size_push,n3]
 have n5:(zE s.heap t u a b).objs.size=s.heap.objs.size+5:=by rw [Heap.size_push,n4]
 have g5:(zE s.heap t u a b).get? (zD s.heap t u a b).objs.size=some _:=Heap.get?_push_size _ rfl
 have g4:(zE s.heap t u a b).get? (zC s.heap t u a b).objs.size=some _:=Heap.get?_push_of_some _ (Heap.get?_push_size _ rfl)
 have g3:(zE s.heap t u a b).get? (zB s.heap t u a b).objs.size=some _:=Heap.get?_push_of_some _ (Heap.get?_push_of_some _ (Heap.get?_push_size _ rfl))
 have g2:(zE s.heap t u a b).get? (zA s.heap t a).objs.size=some _:=Heap.get?_push_of_some _ (Heap.get?_push_of_some _ (Heap.get?_push_of_some _ (Heap.get?_push_size _ rfl)))
 have g1:(zE s.heap t u a b).get? s.heap.objs.size=some _:=Heap.get?_push_of_some _ (Heap.get?_push_of_some _ (Heap.get?_push_of_some _ (Heap.get?_push_of_some _ (Heap.get?_push_size _ rfl))))
 show _/\_
 rw [n2,n3,n4] at g5
 rw [n1,n2] at g3
 rw [n3] at g4
 rw [n1] at g2
 rw [n4]
 refine ⟨⟨_,g5,rfl⟩,h _ ⟨g5,g3,⟨_,_,g4⟩,.new g1,.new g2⟩ n5 fun c o x=>?_⟩
 iterate 5 refine Heap.get?_push_of_some _ ?_
 exact x
end
def Itz (t u:Bool) (K:PySem.W.Frag) (a b:Addr):It :=
 ⟨fun i H=>∃ xs ys x y,SqB t K H a xs/\SqB u K H b ys/\xs[i]?=some x/\ys[i]?=some y,
  fun i H v H'=>∃ p x y,H p=none/\v=.ref p/\(∀ xs,SqB t K H a xs->xs[i]?=some x)/\(∀ ys,SqB u K H b ys->ys[i]?=some y)/\H'=upd H p (.tup [x,y]),
  fun i H=>∃ xs ys,SqB t K H a xs/\SqB u K H b ys/\(xs.length<=i\/ys.length<=i)⟩
theorem zim {P:Program}{w:World}{K:PySem.W.Frag}{elts:List Expr}{x1:_}{pos:Pos}{t u:Bool}{z TI TO i1 i2 a b:Addr} (D:ZAp z TI TO i1 i2 a b) :
  Turn P w K (.Tuple elts x1 pos) (Itz t u K a b) [z,TI,TO,i1,i2] z (fun i h=>ZSt z TI TO i1 i2 (ITB t i1 a) (ITB u i2 b) .none i h) where
 mem:=by simp
 obj:=fun i h st c hc=>by
  obtain ⟨zp,ti,⟨va,vb,to⟩,j1,j2⟩:=st
  simp only [List.mem_cons,List.not_mem_nil,or_false] at hc
  rcases hc with rfl | rfl | rfl | rfl | rfl
  ·exact ⟨_,zp,fun v y=>by cases y⟩
  ·exact ⟨_,ti,fun v y=>by cases y⟩
  ·exact ⟨_,to,fun v y=>by cases y⟩
  ·exact (nx_B (prog:=P) (w:=w) t).rcd _ _ j1
  ·exact (nx_B (prog:=P) (w:=w) u).rcd _ _ j2
 keep:=fun i h h' st k=>by
  obtain ⟨zp,ti,⟨va,vb,to⟩,j1,j2⟩:=st
  exact ⟨k _ (by simp) _ zp,k _ (by simp) _ ti,⟨va,vb,k _ (by simp) _ to⟩,(nx_B (prog:=P) (w:=w) t).keep _ _ _ j1 (k _ (by simp)),(nx_B (prog:=P) (w:=w) u).keep _ _ _ j2 (k _ (by simp))⟩
 item:=by
  intro X hP hw hK hc i pins s σ H E I hf st hg
  subst hP hw hK
  obtain ⟨xs,ys,x,y,q1,q2,hx,hy⟩:=hg
  obtain ⟨its,r1,p1,z1⟩:=I.seqB q1
  obtain ⟨jts,r2,p2,z2⟩:=I.seqB q2
  obtain ⟨ux,hux,rux⟩:=r1.get hx
  obtain ⟨uy,huy,ruy⟩:=r2.get hy
  refine zk1 D (nx_B t) (nx_B u) st p1 p2 (x:=ux) (y:=uy) (by simpa using hux) (by simpa using huy) fun h' st' pr sz kp=>?_
  refine ⟨_,rfl,?_⟩
  refine wpAny_letOwnedTupleGo_zip (s:={ s with heap:=h' }) st'.zip fun h2 z2' sb=>?_
  obtain ⟨⟨d1,d2,d3,d4,d5,d6,d7,d8,d9,d10⟩,_,_⟩:=zgK D
  have big:∀ c∈[z,TI,TO,i1,i2],c<s.heap.objs.size:=fun c hc=>by
   obtain ⟨zp,ti,⟨va,vb,to⟩,j1,j2⟩:=st
   simp only [List.mem_cons,List.not_mem_nil,or_false] at hc
   rcases hc with rfl | rfl | rfl | rfl | rfl
   ·exact Heap.lt_size zp
   ·exact Heap.lt_size ti
   ·exact Heap.lt_size to
   ·obtain ⟨o,e,_⟩:=(nx_B (prog:=X.prog) (w:=X.w) t).rcd _ _ j1;exact Heap.lt_size e
   ·obtain ⟨o,e,_⟩:=(nx_B (prog:=X.prog) (w:=X.w) u).rcd _ _ j2;exact Heap.lt_size e
  have hp:H s.heap.objs.size=none:=I.hok.fresh (Nat.le_refl _)
  have I1:Inv X pins σ (upd H s.heap.objs.size (.tup [x,y])) { s with heap:=s.heap.push { cls:=.type "tuple",data:=.seq #[ux,uy] } } :=
   I.laid (t':=s.toks) (fun b o e=>Heap.get?_push_of_some _ e) (Nat.le_refl _) (show zbi X.prog X.w _ _ _ (.tup [x,y]) from ⟨by show 2<=sizeLine;decide,[ux,uy],.cons rux (.cons ruy .nil),IsTD.new _ _⟩)
  have npos:∀ c∈[z,TI,TO,i1,i2],c≠s.heap.objs.size:=fun c hc=>Nat.ne_of_lt (big c hc)
  have fu:∀ c∈[z,TI,TO,i1,i2],upd H s.heap.objs.size (.tup [x,y]) c=none:=fun c hc=>by rw [zar (npos c hc)];exact (hf c hc).1
  refine ⟨.ref s.heap.objs.size,upd H s.heap.objs.size (.tup [x,y]),?_,rfl,⟨_,x,y,hp,rfl,fun xs' h=>by rw [I.injB h q1];exact hx,fun ys' h=>by rw [I.injB h q2];exact hy,rfl⟩,?_,fu⟩
  ·refine Inv.turnedL (s:={ s with heap:=s.heap.push { cls:=.type "tuple",data:=.seq #[ux,uy] } }) (t':=s.toks) [z,TO,i1,i2] I1 (fun c o hc e=>?_) fun c hc=>?_
   ·simp only [List.mem_cons,List.not_mem_nil,or_false,not_or] at hc
    refine sb.extBut _ _ hc.1 ?_
    by_cases y:c=s.heap.objs.size
    ·subst y
     have e':(s.heap.push { cls:=.type "tuple",data:=.seq #[ux,uy] }).get? s.heap.objs.size=some _:=Heap.get?_push_size _ rfl
     have e2:some o=some _:=e.symm.trans e'
     cases e2
     exact pr
    ·have e':s.heap.get? c=some o:=by
      have e3:(s.heap.push { cls:=.type "tuple",data:=.seq #[ux,uy] }).get? c=some o:=e
      rwa [Heap.get?_push_ne _ _ _ y] at e3
     exact kp c o hc.1 hc.2.1 hc.2.2.1 hc.2.2.2 e'
   ·have m:c∈[z,TI,TO,i1,i2]:=by simp only [List.mem_cons,List.not_mem_nil,or_false] at hc ⊢;rcases hc with h | h | h | h <;> simp [h]
    exact ⟨fu c m,(hf c m).2⟩
  ·obtain ⟨zp,ti,⟨va,vb,to⟩,j1,j2⟩:=st'
   exact ⟨z2',sb.extBut _ _ d1.symm ti,⟨va,vb,sb.extBut _ _ d2.symm to⟩,(nx_B (prog:=X.prog) (w:=X.w) t).keep _ _ _ j1 fun o e=>sb.extBut _ _ d3.symm e,(nx_B (prog:=X.prog) (w:=X.w) u).keep _ _ _ j2 fun o e=>sb.extBut _ _ d4.symm e⟩
 done:=by
  intro X hP hw hK hc i pins s σ H E I hf st hg
  subst hP hw hK
  obtain ⟨xs,ys,q1,q2,hx⟩:=hg
  obtain ⟨its,r1,p1,z1⟩:=I.seqB q1
  obtain ⟨jts,r2,p2,z2⟩:=I.seqB q2
  have l1:=r1.length
  have l2:=r2.length
  refine zk0 (I.ok.hd hc) D (nx_B t) (nx_B u) st p1 p2 (by rcases hx with h | h;exact .inl (by simp;omega);exact .inr (by simp;omega)) fun h' kp=>⟨rfl,?_⟩
  refine Inv.turnedL (t':=s.toks) [z,TO,i1,i2] I (fun c o hc e=>?_) fun c hc=>hf c ?_
  ·simp only [List.mem_cons,List.not_mem_nil,or_false,not_or] at hc
   exact kp c o hc.1 hc.2.1 hc.2.2.1 hc.2.2.2 e
  ·simp only [List.mem_cons,List.not_mem_nil,or_false] at hc ⊢
   rcases hc with h | h | h | h <;> simp [h]
 self:=fun _ _ _ _ _ st h=>wpAny_pyIter_zip st.zip h
end L2
namespace L2
open PySem PySem.Spec PyProof.Rows
section
variable {X:Cx}{a b:Expr}{elts:List Expr}{x1:Nat}{p p' pos:Pos}
def iZip (K:PySem.W.Frag) (ta:TA):TI:=fun σ H R=>ta σ H fun vs H1=>∃ (t u:Bool) (c d:Addr) (xs ys:List V),vs=[.ref c,.ref d]/\SqB t K H1 c xs/\SqB u K H1 d ys/\R (Itz t u K c d) H1
theorem SQB.lt {t:Bool}{c:Addr}{xs:Array Value}{h:Heap} (x:SQB t c h xs):c<h.objs.size:=by
 cases t
 ·obtain ⟨o,e,_⟩:=x;exact Heap.lt_size e
 ·obtain ⟨o,e,_⟩:=x;exact Heap.lt_size e
theorem zjC {n:Nat}{c d:Addr} (h1:c<n) (h2:d<n):ZAp (n+4) (n+2) (n+3) n (n+1) c d:=by
 have ne:∀ (e:Addr) (k:Nat),e<n->e≠n+k:=fun e k h=>Nat.ne_of_lt (Nat.lt_of_lt_of_le h (Nat.le_add_right _ _))
 refine ⟨by simp,fun e he=>?_⟩
 have hl:e<n:=by
  simp only [List.mem_cons,List.not_mem_nil,or_false] at he
  rcases he with rfl | rfl
  ·exact h1
  ·exact h2
 simp only [List.mem_cons,List.not_mem_nil,or_false,not_or]
 exact ⟨ne e 4 hl,ne e 2 hl,ne e 3 hl,Nat.ne_of_lt hl,ne e 1 hl⟩
theorem zlB {ta:TA} (hg:Gl X "zip") (hm:X.mg "zip" = none) (ha:PA X [a,b] ta) (hs:starEach [a,b] X.env=[(false,eval a X.env),(false,eval b X.env)]) (hs2:starEach [b] X.env=[(false,eval b X.env)]) :
  PI X (.Tuple elts x1 p') (.Call (.Name "zip" p) [a,b] [] pos) (iZip X.K ta):=by
 intro pins s σ H R I h
 refine Call_ (zer I hg hm boot_zip (PyProof.Rows.callWith_type1 (thn (ha pos pins s σ H _ I h) fun us s1 ⟨vs,H1,I1,r1,q1⟩=>?_) (by rw [hs,hs2]) (by rw [hs2];rfl)))
 obtain ⟨t,u,c,d,xs,ys,rfl,s1',s2',q⟩:=q1
 cases r1 with
 | cons r rr =>
  cases rr with
  | cons r' rr =>
   cases rr
   cases r
   cases r'
   obtain ⟨its,_,p1,_⟩:=I1.seqB s1'
   obtain ⟨jts,_,p2,_⟩:=I1.seqB s2'
   refine zkR p1 p2 fun h' st sz kp=>?_
   refine wpAny_pyIter_zip (s:={ s1 with heap:=h' }) st.zip ?_
   refine ⟨_,_,_,_,H1,rfl,I1.kept (t':=s1.toks) kp,zim (zjC p1.lt p2.lt),st,fun e he=>?_,q⟩
   have ge:s1.heap.objs.size<=e:=by
    simp only [List.mem_cons,List.not_mem_nil,or_false] at he
    rcases he with rfl | rfl | rfl | rfl | rfl
    ·exact Nat.le_add_right _ _
    ·exact Nat.le_add_right _ _
    ·exact Nat.le_add_right _ _
    ·exact Nat.le_refl _
    ·exact Nat.le_add_right _ _
   exact I1.fpOk ge (I1.hok.fresh ge)
theorem srcB {K:PySem.W.Frag}{hd:Option Addr}{P O:Addr->Prop}{H:Hp}{v:V}{t:PyData}{ts:List PyData} (hO:∀ a,¬O a->P a) (r:Rep K hd O H v t) (h:t=.tuple ts\/t=.list ts) :
  ∃ (k:Bool) (q:Addr) (vs:List V),v=.ref q/\SqB k K H q vs/\∀ (O2:Addr->Prop) (H2:Hp),(∀ a o,H a=some o->P a->H2 a=some o)->(∀ a o,H a=some o->¬O a->¬O2 a)->SqB k K H2 q vs/\Reps K hd O2 H2 vs ts:=by
 have mv:∀ vs,Reps K hd O H vs ts->∀ (O2:Addr->Prop) (H2:Hp),(∀ a o,H a=some o->P a->H2 a=some o)->(∀ a o,H a=some o->¬O a->¬O2 a)->Reps K hd O2 H2 vs ts:=fun vs r O2 H2 h1 h2 =>
  r.mono (fun a o ha z=>Classical.byContradiction fun no=>h2 a o ha no z) fun a o no ha=>h1 a o ha (hO a no)
 rcases h with rfl | rfl
 ·cases r with
  | @tup q vs ds h o r=>exact ⟨true,q,vs,rfl,.inl (.inl h),fun O2 H2 h1 h2=>⟨.inl (.inl (h1 q _ h (hO q o))),mv vs r O2 H2 h1 h2⟩⟩
  | @tupS q vs ds h r=>exact ⟨true,q,vs,rfl,h.sq,fun O2 H2 h1 h2=>⟨h.sq,mv vs r O2 H2 h1 h2⟩⟩
 ·obtain ⟨q,vs,rfl,h1',no,r⟩:=r.lstI
  exact ⟨false,q,vs,rfl,SqL.of h1',fun O2 H2 h1 h2=>⟨SqL.of (h1 q _ h1' (hO q no)),mv vs r O2 H2 h1 h2⟩⟩
def zipD (xs ys:List PyData):List PyData:=(xs.zip ys).map fun q=>.tuple [q.1,q.2]
def dZip (da db:DTE):DTA:=fun ρ n R=>da ρ n fun x n1=>db ρ n1 fun y n2=>zaX x fun xs=>zaX y fun ys=>R (zipD xs ys) n2
theorem zga {t:PyData}{R:List PyData->Prop} (h:zaX t R):∃ ts,(t=.tuple ts\/t=.list ts)/\R ts:=by
 cases t with
 | list ts=>exact ⟨ts,.inr rfl,h⟩
 | tuple ts=>exact ⟨ts,.inl rfl,h⟩
 | _=>exact h.elim
theorem zmZ {da db:DTE} (hm:X.mg "zip" = none) (h:DE X a da) (h':DE X b db) (hg:Gl X "zip":=by rfl) (hs:starEach [a,b] X.env=[(false,eval a X.env),(false,eval b X.env)]:=by rfl) (hs2:starEach [b] X.env=[(false,eval b X.env)]:=by rfl) :
  DI X (.Tuple elts x1 p') (.Call (.Name "zip" p) [a,b] [] pos) (dZip da db):=by
 obtain ⟨ta,pa,h⟩:=h
 obtain ⟨tb,pb,h'⟩:=h'
 refine ⟨_,zlB hg hm (zcX pa (zcX pb zf5 hs2) (by rw [hs,hs2])) hs hs2,fun C ρ σ H n Q R S hd hq=>?_⟩
 refine h C ρ σ H n _ _ S hd fun x n1 v H1 r1 e1 hn1 q1=>?_
 have S1:=S.on e1 hn1
 refine h' C ρ σ H1 n1 _ _ S1 r1 fun y n2 w H2 r2 e2 hn2 q2=>?_
 have q1':=e2.rep S.hx q1
 obtain ⟨xs,hx,r2⟩:=zga r2
 obtain ⟨ys,hy,r2⟩:=zga r2
 obtain ⟨k1,c,vs,rfl,s1,f1⟩:=srcB (P:=fun a=>¬Own C ρ σ a) (fun _ z=>z) q1' hx
 obtain ⟨k2,d,ws,rfl,s2,f2⟩:=srcB (P:=fun a=>¬Own C ρ σ a) (fun _ z=>z) q2 hy
 refine ⟨k1,k2,c,d,vs,ws,rfl,s1,s2,hq _ n2 _ H2 r2 (e1.trans e2) hn2 ?_⟩
 intro O2 H3 h1 h2 h3
 obtain ⟨g1,rs1⟩:=f1 O2 H3 h1 h2
 obtain ⟨g2,rs2⟩:=f2 O2 H3 h1 h2
 refine ⟨fun i t et=>?_,?_⟩
 ·unfold zipD at et
  rw [List.getElem?_map] at et
  cases ez:(xs.zip ys)[i]? with
  | none=>rw [ez] at et;cases et
  | some q =>
   rw [ez] at et;cases et
   obtain ⟨ex,ey⟩:=List.getElem?_zip_eq_some.mp ez
   obtain ⟨vx,evx,rx⟩:=rs1.get ex
   obtain ⟨vy,evy,ry⟩:=rs2.get ey
   refine ⟨⟨vs,ws,vx,vy,g1,g2,evx,evy⟩,fun v H4 hyd=>?_⟩
   obtain ⟨pp,x',y',hp,rfl,hx',hy',rfl⟩:=hyd
   have e1:x'=vx:=Option.some.inj ((hx' vs g1).symm.trans evx)
   have e2:y'=vy:=Option.some.inj ((hy' ws g2).symm.trans evy)
   subst e1 e2
   exact ⟨zaG hp,.newT (fun z=>h3 pp z hp) hp (.cons rx (.cons ry .nil))⟩
 ·refine ⟨vs,ws,g1,g2,?_⟩
  have:=rs1.length
  have:=rs2.length
  unfold zipD
  simp only [List.length_map,List.length_zip]
  omega
end
end L2
namespace L2
open PySem PySem.Spec PyProof.Rows
theorem zjv {α β:Type}{f:α->Option β}{g:α->β}:∀ (l:List α),(∀ m∈l,f m=some (g m))->l.filterMap f=l.map g
 | [],_=>rfl
 | m::l,h=>by rw [List.filterMap_cons,h m (.head _),List.map_cons,zjv l fun x hx=>h x (.tail _ hx)]
theorem ziG (xs:Array Value):((List.range xs.size).filterMap fun (m:Nat)=>xs[((xs.size:Int) - 1+(m:Int)*(-1)).toNat]?).toArray=xs.toList.reverse.toArray:=by
 congr 1
 have e:∀ m∈List.range xs.size,xs[((xs.size:Int) - 1+(m:Int)*(-1)).toNat]?=some (xs.toList.reverse.getD m .none):=fun m hm=>by
  have hm:m<xs.size:=List.mem_range.mp hm
  have e1:((xs.size:Int) - 1+(m:Int)*(-1)).toNat=xs.size - 1 - m:=by omega
  have h2:xs.size - 1 - m<xs.size:=by omega
  rw [e1,Array.getElem?_eq_getElem h2]
  have h3:m<xs.toList.reverse.length:=by simpa using hm
  rw [List.getD_eq_getElem?_getD,List.getElem?_eq_getElem h3,Option.getD_some,List.getElem_reverse]
  simp
 have e2:(List.range xs.size).filterMap (fun (m:Nat)=>xs[((xs.size:Int) - 1+(m:Int)*(-1)).toNat]?)=(List.range xs.size).map fun m=>xs.toList.reverse.getD m .none:=by
  exact zjv _ e
 rw [e2]
 apply List.ext_getElem
 ·simp
 ·intro i h1 h2
  simp at h1 h2 ⊢
  rw [List.getElem?_eq_getElem (by simpa using h2)]
  simp
section
variable {prog:Program}{w:World}{A:Around}{E:Value->Shared->Prop}{s:Shared}
theorem zcb {t sl:Addr}{items:Array Value}{vs:Value}{Q:Value->Shared->Prop} (ht:IsTup s.heap t items) (hs:s.heap.IsSliceOf sl .none .none vs) (ps:IsPart vs (some (-1)))
  (h:Q (.ref s.heap.objs.size) { s with heap:=s.heap.push { cls:=.type "tuple",data:=.seq items.toList.reverse.toArray } }) (hsz:items.size<=sizeLine):wpAny (model prog w) A (getItem (.ref t) (.ref sl)) Q E s:=by
 obtain ⟨os,hos,hcs,hds⟩:=id hs
 have hTs:s.TypeIs (.ref sl) "slice":=⟨os,hos,hcs⟩
 unfold getItem
 try with_reducible refine wpAny_holding ?_
 first | refine wpAny_bind (wpAny_pure ?_) | skip
 refine wpAny_bind (wpAny_sequenceKey ht.typeIs (by decide) ?_)
 refine wpAny_bind (wpAny_callSpecial?_slot (name:=Str.ofString "__getitem__") ht.typeIs PyProof.Rows.slot_tuple_getitem
  (wpAny_call_entry PyProof.Rows.slot_tuple_getitem ht.typeIs entry_tuple_getitem ?_ (args_tuple_getitem _ _)))
 refine wpAny_bind (m:=Builtin.Tuple.tupleItemsOf (.ref t)) (tupleItemsOf_ ht (wpAny_bind (wpAny_typeOf hTs ?_)))
 rw [if_pos (by decide)]
 refine wpAny_bind ?_
 unfold Builtin.Slice.sliceApplied Builtin.Slice.sliceFields
 refine wpAny_bind (wpAny_bind (wpAny_field hos hds (x:=.none) rfl (wpAny_bind (wpAny_field hos hds (x:=.none) rfl (wpAny_bind (wpAny_field hos hds (x:=vs) rfl (wpAny_pure ?_)))))))
 refine wpAny_bind (HT.zb7 ps ?_)
 show wpAny _ _ (if ((-1:Int) == 0)=true then _ else _) _ _ s
 rw [if_neg (by decide)]
 refine wpAny_bind (slicePart_none (wpAny_bind (slicePart_none (wpAny_bind (wpAny_pure ?_)))))
 have e1:Builtin.Slice.sliceAdjust none none (-1) (items.size:Int)=((items.size:Int) - 1,-1):=by
  unfold Builtin.Slice.sliceAdjust;simp
 have e2:Builtin.Slice.slicePlaces ((items.size:Int) - 1) (-1) (-1)=items.size:=by
  unfold Builtin.Slice.slicePlaces
  simp
  split <;> omega
 show wpAny _ _ (match Builtin.Slice.sliceAdjust none none (-1) (items.size:Int) with | (lo,hi)=>pure (lo,(-1:Int),Builtin.Slice.slicePlaces lo hi (-1))) _ _ s
 rw [e1]
 show wpAny _ _ (pure (((items.size:Int) - 1),(-1:Int),Builtin.Slice.slicePlaces ((items.size:Int) - 1) (-1) (-1))) _ _ s
 rw [e2]
 refine wpAny_pure ?_
 have no:¬((((items.size:Int) - 1) == 0&&(-1:Int) == 1&&items.size == items.size)=true):=by simp
 show wpAny _ _ (if (((items.size:Int) - 1) == 0&&(-1:Int) == 1&&items.size == items.size)=true then _ else _) _ _ s
 rw [if_neg no,ziG]
 have sz:sizeOk (.seq items.toList.reverse.toArray):=by
  show items.toList.reverse.toArray.size<=sizeLine
  simpa using hsz
 first
  | exact wpAny_bind (m:=Builtin.Tuple.tupleExact _) (wpAny_newObj_type (wpAny_pure ⟨_,rfl,wpAny_pure h⟩) sz)
  | exact wpAny_bind (m:=Builtin.Tuple.tupleExact _) (wpAny_newObj_type (wpAny_bind (wpAny_pure (wpAny_pure ⟨_,rfl,wpAny_pure h⟩))) sz)
  | exact wpAny_bind (wpAny_bind (m:=Builtin.Tuple.tupleExact _) (wpAny_newObj_type (wpAny_pure (wpAny_pure ⟨_,rfl,wpAny_pure h⟩)) sz))
  | exact wpAny_bind (wpAny_bind (m:=Builtin.Tuple.tupleExact _) (wpAny_newObj_type (wpAny_pure ⟨_,rfl,wpAny_pure h⟩) sz))
end
section
variable {X:Cx}{e st:Expr}{d:DTE}{dst:DTO}{pos p2:Pos}{te:TE}{ts:TO}
def tRev (K:PySem.W.Frag) (te:TE) (ts:TO):TE:=fun σ H Q=>te σ H fun x H1=>ts σ H1 fun o H2=>o=some (-1)/\∃ a xs,x=.ref a/\SqT K H2 a xs/\∀ p,H2 p=none->Q (.ref p) (upd H2 p (.tup xs.reverse))
theorem Paired.rev {xs:List V}{us:List Value} (r:Vals xs us):Vals xs.reverse us.reverse:=by
 induction r with
 | nil=>exact .nil
 | cons a b ih=>rw [List.reverse_cons,List.reverse_cons];exact ih.append (.cons a .nil)
theorem zlH (he:PE X e te) (hs:PO X (some st) ts):PE X (.Subscript e (.Slice none none (some st) p2) pos) (tRev X.K te ts):=by
 intro pins s σ H Q I h
 refine Subscript_ (thn (he pins s σ H _ I h) fun v s1 ⟨x,H1,I1,r1,q1⟩=>?_)
 refine wpAny_Slice ?_
 rw [evalPart_none]
 refine wpAny_pure (wpAny_pure (thn (hs pins s1 σ H1 _ I1 q1) fun vs s2 ⟨o,H2,I2,po,q2⟩=>?_))
 obtain ⟨rfl,a,xs,rfl,hx,q⟩:=q2
 cases r1
 have I4:Inv X pins σ H2 { s2 with heap:=s2.heap.push { cls:=.type "slice",data:=.fields #[.none,.none,vs] } }:=I2.kept (t':=s2.toks) fun b ob q=>Heap.get?_push_of_some _ q
 obtain ⟨its,r,ht,hz⟩:=I4.tuple hx
 have hl:=r.length
 refine tail_any (ops:=[.ref a,.ref s2.heap.objs.size]) ht.typeIs PyProof.Rows.slot_tuple_getitem.lookup ?_ (by with_unfolding_all rfl)
 refine zcb ht (Heap.IsSliceOf.new ..) po ?_ (by rw [List.size_toArray,<- hl];exact hz)
 refine ⟨.ref _,_,I4.laid (t':=s2.toks) (o:=.tup xs.reverse) (fun b ob q=>Heap.get?_push_of_some _ q) (Nat.le_refl _) ?_,rfl,q _ (I4.hok.fresh (Nat.le_refl _))⟩
 exact ⟨by rw [List.length_reverse];exact hz,_,Paired.rev r,IsTD.new _ _⟩
theorem Reps.rev {K:PySem.W.Frag}{hd:Option Addr}{O:Addr->Prop}{H:Hp}:∀ {vs ts},Reps K hd O H vs ts->Reps K hd O H vs.reverse ts.reverse
 | _,_,.nil=>.nil
 | _,_,.cons a b=>by rw [List.reverse_cons,List.reverse_cons];exact (Reps.rev b).append (.cons a .nil)
def dRev (d:DTE) (dst:DTO):DTE:=fun ρ n R=>d ρ n fun t n1=>dst ρ n1 fun o n2=>o=some (-1)/\lTup t fun ts=>R (.tuple ts.reverse) n2
theorem zm1 (h:DL X e d) (hs:DP X (some st) dst):DE X (.Subscript e (.Slice none none (some st) p2) pos) (dRev d dst):=by
 obtain ⟨ta,pa,h⟩:=h
 obtain ⟨tl,pl,hl⟩:=hs
 refine ⟨_,zlH pa pl,fun C ρ σ H n Q R S hd hq=>?_⟩
 refine h C ρ σ H n _ _ S hd fun t n1 v H1 r1 e1 h1 q1=>?_
 have S1:=S.on e1 h1
 refine hl C ρ σ H1 n1 _ _ S1 r1 fun o n2 H2 r2 e2 h2=>?_
 have S2:=S1.on e2 h2
 have q3:=e2.repT S.hx q1
 obtain ⟨rfl,r2⟩:=r2
 cases t with
 | tuple ts =>
  obtain ⟨a,vs,rfl,hs,rs⟩:=q3.tupI
  exact ⟨rfl,a,vs,rfl,hs,fun p hp=>hq _ n2 _ _ r2 (e1.trans (e2.trans (ExtE.new hp))) (h2.same (zaG hp)) (.newT (S2.free hp) hp rs.rev)⟩
 | _=>exact r2.elim
end
end L2
namespace L2
open PySem PySem.Spec PyProof.Rows
section
variable {d da db:DTE}{dlo dhi:DTO}{ρ:En}{n:Nat}{R:PyData->Nat->Prop}{Ro:Option Int->Nat->Prop}{Rl:List PyData->Nat->Prop}{xs ys:List PyData}{lo hi:Option Int}{Q:PyData->Prop}{Ql:List PyData->Prop}
theorem zhz (h:Ro none n):zfH ρ n Ro:=h
theorem zky (h:d ρ n fun t n'=>lInt t fun i=>Ro (some i) n'):zkM d ρ n Ro:=h
theorem zmE (h:da ρ n fun x n1=>db ρ n1 fun y n2=>zaX x fun xs=>zaX y fun ys=>Rl (zipD xs ys) n2):dZip da db ρ n Rl:=h
theorem zmI (h:d ρ n fun t n1=>dlo ρ n1 fun o n2=>o=some (-1)/\lTup t fun ts=>R (.tuple ts.reverse) n2):dRev d dlo ρ n R:=h
end
theorem zdt {cs:List PyData}{tg:DTG}{tt:DTT}{d:DTE}{ρ0:En}{n:Nat}{Rl:List PyData->Nat->Prop} (F:PyData->PyData) (hl:cs.length<=16777216)
  (step:∀ b∈cs,∀ (K:PyData->Nat->Prop) (X:Nat->Prop),K (F b) n->tg b ρ0 fun ρ1=>tt ρ1 n fun c n2=>if c=true then d ρ1 n2 K else X n2) (fin:Rl (cs.map F) n):zbA tg tt d ρ0 cs [] n Rl:=by
 have:=zbz (cs:=cs) (D:=fun t=>t) (tg:=tg) (tt:=tt) (d:=d) (ρ0:=ρ0) (n:=n) (Rl:=Rl) F hl step fin
 simpa using this
end L2
namespace L2
open PySem PySem.Spec PyProof.Rows
class Stp (P:Prop) (Q:outParam Prop):Prop where
 go:Q->P
section
variable {t u tb:DTS}{D:DEnds}{ρ ρ0:En}{n i j m:Nat}{d da db dc d1 d2:DTE}{ds di:DTA}{c c' tt:DTT}{g:G2}{g':G2}{gc:GC}{gd:GD}{tg:DTG}{tgs:DTGs}{R:PyData->Nat->Prop}{Rb:Bool->Nat->Prop}{Rl:List PyData->Nat->Prop}{Re:En->Prop}{x y:PyData}{xs ys acc:List PyData}{f:Int->Int->Int}{fb:PyData->Bool}{k:Bool}{capt:List Nat}
instance zno :Stp (sSeq t u D ρ n) ((t { D with nx:=u D } ρ n)):=⟨fun h=>zmx h⟩
instance zlh :Stp (zjM D ρ n) ((D.nx ρ n)):=⟨fun h=>zku h⟩
instance znp :Stp (sRet d D ρ n) ((d ρ n fun t n'=>D.rt t n')):=⟨fun h=>zmy h⟩
instance zoc :Stp (sIf c t u D ρ n) ((c ρ n fun b n1=>if b=true then t D ρ n1 else u D ρ n1)):=⟨fun h=>zoP h⟩
instance znr :Stp (sAsg d tg D ρ n) ((d ρ n fun t n'=>tg t ρ fun ρ'=>D.nx ρ' n')):=⟨fun h=>zmA h⟩
instance znq :Stp (sFor di tg tb D ρ n) ((di ρ n fun ts n1=>forP tg tb D ts ρ n1)):=⟨fun h=>zmz h⟩
instance zph :Stp (dC x ρ n R) ((R x n)):=⟨fun h=>i_dC h⟩
instance zoe :Stp (dOp g da db ρ n R) ((da ρ n fun x n1=>db ρ n1 fun y n2=>g x y fun z=>R z n2)):=⟨fun h=>zoS h⟩
instance znC :Stp (dNew ds ρ n R) ((ds ρ n fun ts n'=>R (.list ts) n')):=⟨fun h=>zmM h⟩
instance znw :Stp (dTup ds ρ n R) ((ds ρ n fun ts n1=>R (.tuple ts) n1)):=⟨fun h=>zmG h⟩
instance znB :Stp (dNil ρ n Rl) ((Rl [] n)):=⟨fun h=>zmL h⟩
instance zlm :Stp (zhS d ds ρ n Rl) ((d ρ n fun t n1=>ds ρ n1 fun ts n2=>Rl (t::ts) n2)):=⟨fun h=>zkA h⟩
instance zof :Stp (dFn gd ds ρ n R) ((ds ρ n fun ts n1=>gd ts n1 R)):=⟨fun h=>zoT h⟩
instance zkZ :Stp (zgk gc ds ρ n R) ((ds ρ n fun ts n1=>gc ts fun z=>R z n1)):=⟨fun h=>zi2 h⟩
instance znt :Stp (isiD fb d ρ n R) ((d ρ n fun t n1=>lIsi fb t fun z=>R z n1)):=⟨fun h=>zmD h⟩
instance zod :Stp (dOr c c' ρ n Rb) ((c ρ n fun b n1=>if b=true then Rb true n1 else c' ρ n1 Rb)):=⟨fun h=>zoR h⟩
instance znA :Stp (dNot c ρ n Rb) ((c ρ n fun b n1=>Rb (!b) n1)):=⟨fun h=>zmK h⟩
instance zln :Stp (zkO da db ρ n R) ((da ρ n fun t n1=>bolD t fun b=>if b=true then db ρ n1 R else R (.bool false) n1)):=⟨fun h=>zkC h⟩
instance znz :Stp (dOrV da db ρ n R) ((da ρ n fun t n1=>bolD t fun b=>if b=true then R (.bool true) n1 else db ρ n1 R)):=⟨fun h=>zmJ h⟩
instance zll :Stp (zkN da ρ n R) ((da ρ n fun t n1=>bolD t fun b=>R (.bool (!b)) n1)):=⟨fun h=>zkz h⟩
instance znG :Stp (dIfE c da db ρ n R) ((c ρ n fun b n1=>if b=true then da ρ n1 R else db ρ n1 R)):=⟨fun h=>zmQ h⟩
instance znx :Stp (dTru d ρ n Rb) ((d ρ n fun t n'=>truD t fun b=>Rb b n')):=⟨fun h=>zmH h⟩
instance zjL :Stp (zfI d ρ n Rl) ((d ρ n fun t n1=>zaX t fun ts=>Rl ts n1)):=⟨fun h=>zhA h⟩
instance znv :Stp (dYes ρ n Rb) ((Rb true n)):=⟨fun h=>zmF h⟩
instance zlf :Stp (zjE tgs (.tuple xs) ρ Re) ((tgs xs ρ Re)):=⟨fun h=>zks h⟩
instance zlg :Stp (zjF [] ρ Re) ((Re ρ)):=⟨fun h=>zkt h⟩
instance zkX :Stp (zgN tg tgs (x::xs) ρ Re) ((tg x ρ fun ρ'=>tgs xs ρ' Re)):=⟨fun h=>ziZ h⟩
instance zli :Stp (zfG d ρ n Rb) ((d ρ n fun t n'=>bolD t fun b=>Rb b n')):=⟨fun h=>zkw h⟩
instance znH :Stp (dCat da db ρ n Rl) ((da ρ n fun x n1=>db ρ n1 fun y n2=>lCat x y fun zs=>Rl zs n2)):=⟨fun h=>zmR h⟩
instance znF :Stp (dItL d ρ n Rl) ((d ρ n fun t n'=>lLst t fun ts=>Rl ts n')):=⟨fun h=>zmP h⟩
instance znE :Stp (dItT d ρ n Rl) ((d ρ n fun t n'=>lTup t fun ts=>Rl ts n')):=⟨fun h=>zmO h⟩
instance zlj :Stp (zhR d ρ n Rl) ((d ρ n fun t n'=>lInt t fun j=>(-(2 ^ 62)<=j/\j<2 ^ 62)/\Rl (zbp 0 j.toNat) n')):=⟨fun h=>zkx h⟩
instance znD :Stp (dNeg d ρ n R) ((d ρ n fun t n'=>lInt t fun i=>R (.int (-i)) n')):=⟨fun h=>zmN h⟩
instance zkY :Stp (zds g g' da db dc ρ n R) ((da ρ n fun x n1=>db ρ n1 fun y n2=>g x y fun z=>bolD z fun b=>if b=true then dc ρ n2 fun w n3=>g' y w fun z=>R z n3 else R (.bool false) n2)):=⟨fun h=>zi1 h⟩
instance zns {b:Bool}{A B:Prop}:Stp (if (!b)=true then A else B) ((if b=true then B else A)):=⟨fun h=>zmB h⟩
end
section
variable {C:Int->Int->Prop}{f:Int->Int->Int}{fb:Int->Int->Bool}{i j k:Int}{R:PyData->Prop}{Rb:Bool->Prop}{xs ys:List PyData}{s t:Str}{a b:Bool}{u v x y:PyData}{Rn:PyData->Nat->Prop}{n:Nat}
instance znl :Stp (oAdd (.int i) (.int j) R) ((R (.int (i+j)))):=⟨fun h=>zmp h⟩
instance znk :Stp (oAdd (.str s) (.str t) R) (((s.length+t.length<=16777216/\R (.str (s++t))))):=⟨fun h=>zmo h⟩
instance znj :Stp (oAdd (.tuple xs) (.tuple ys) R) (((xs.length+ys.length<=16777216/\R (.tuple (xs++ys))))):=⟨fun h=>zmn h⟩
instance zn_ :Stp (oEq (.int i) (.int j) R) ((R (.bool (decide (i=j))))):=⟨fun h=>zoM h⟩
instance zn9 :Stp (oEq (.str s) (.str t) R) ((R (.bool (decide (s=t))))):=⟨fun h=>zoL h⟩
instance znY :Stp (oNe (.int i) (.int j) R) ((R (.bool (!decide (i=j))))):=⟨fun h=>zoz h⟩
instance znX :Stp (oNe (.str s) (.str t) R) ((R (.bool (!decide (s=t))))):=⟨fun h=>zoy h⟩
instance zn8 :Stp (oIn u (.tuple xs) R) (((Okd u/\(∀ t∈xs,Okd t)/\R (.bool (xs.any fun t=>t.eqv u))))):=⟨fun h=>zoK h⟩
instance zn3 :Stp (oLtA (.int i) (.int j) R) ((R (.bool (decide (i<j))))):=⟨fun h=>zoE h⟩
instance zn6 :Stp (oLeA (.int i) (.int j) R) ((R (.bool (decide (i<=j))))):=⟨fun h=>zoH h⟩
instance zn5 :Stp (oLeA (.str s) (.str t) R) ((R (.bool (!decide (t.cps.toList<s.cps.toList))))):=⟨fun h=>zoG h⟩
instance zng :Stp (oIx (.tuple (u::xs)) (.int 0) R) ((R u)):=⟨fun h=>zmj h⟩
instance znf :Stp (oIx (.tuple (u::v::xs)) (.int 1) R) ((R v)):=⟨fun h=>zmi h⟩
instance zne {w:PyData}:Stp (oIx (.tuple (u::v::w::xs)) (.int 2) R) ((R w)):=⟨fun h=>zmh h⟩
instance zni :Stp (oIx (.list (u::xs)) (.int 0) R) ((R u)):=⟨fun h=>zmm h⟩
instance znh :Stp (oIx (.list (u::v::xs)) (.int 1) R) ((R v)):=⟨fun h=>zml h⟩
instance zna :Stp (truD (.bool a) Rb) ((Rb a)):=⟨fun h=>zmd h⟩
instance zob :Stp (bolD (.bool a) Rb) ((Rb a)):=⟨fun h=>zoO h⟩
instance znd :Stp (bLen [.list xs] R) ((R (.int xs.length))):=⟨fun h=>zmg h⟩
instance znb :Stp (bLen [.tuple xs] R) ((R (.int xs.length))):=⟨fun h=>zme h⟩
instance znc :Stp (bLen [.str s] R) (((s.length<=16777216/\R (.int s.length)))):=⟨fun h=>zmf h⟩
instance zkV {ns:List Int}:Stp (bLen [SCR ns] R) ((R (.int ns.length))):=⟨fun h=>ziV h⟩
instance zn1 :Stp (bMin [.int i,.int j] R) ((R (.int (if j<i then j else i)))):=⟨fun h=>zoC h⟩
instance zn2 :Stp (bMax [.int i,.int j] R) ((R (.int (if j > i then j else i)))):=⟨fun h=>zoD h⟩
instance zle {Rl:List PyData->Prop}:Stp (zaX (.list xs) Rl) ((Rl xs)):=⟨fun h=>zkp h⟩
instance zkW {Rl:List PyData->Prop}:Stp (zaX (.tuple xs) Rl) ((Rl xs)):=⟨fun h=>ziW h⟩
instance zoa {Q:List PyData->Prop}:Stp (lCat (.list xs) (.list ys) Q) (((xs.length+ys.length<=16777216/\Q (xs++ys)))):=⟨fun h=>zoN h⟩
instance zn4 {Q:List PyData->Prop}:Stp (lLst (.list xs) Q) ((Q xs)):=⟨fun h=>zoF h⟩
instance znT {Q:List PyData->Prop}:Stp (lTup (.tuple xs) Q) ((Q xs)):=⟨fun h=>zou h⟩
instance zn7 {i:Int}{Q:Int->Prop}:Stp (lInt (.int i) Q) ((Q i)):=⟨fun h=>zoJ h⟩
instance znZ :Stp (oMul (.int i) (.int j) R) ((CMul i j)/\(R (.int (i*j)))):=⟨fun h=>zoA h.1 h.2⟩
instance zn0 :Stp (oMod (.int i) (.int j) R) ((0<j)/\(R (.int (i % j)))):=⟨fun h=>zoB h.1 h.2⟩
instance znW :Stp (oPow (.int i) (.int j) R) ((CPow i j)/\(R (.int (i ^ j.toNat)))):=⟨fun h=>zox h.1 h.2⟩
instance znV :Stp (oShl (.int i) (.int j) R) ((CPow i j)/\(R (.int (i*2 ^ j.toNat)))):=⟨fun h=>zow h.1 h.2⟩
instance znU :Stp (oSub (.int i) (.int j) R) ((R (.int (i - j)))):=⟨fun h=>zov h⟩
instance zpd :Stp (gB fb (.int i) (.int j) R) ((R (.bool (fb i j)))):=⟨fun h=>j_gB h⟩
instance zix :Stp (lIsi isInt (.int i) R) ((R (.bool true))):=⟨fun h=>zfx h⟩
instance zih :Stp (lIsi isInt (.bool a) R) ((R (.bool true))):=⟨fun h=>zeQ h⟩
instance ziw :Stp (lIsi isInt (.str s) R) ((R (.bool false))):=⟨fun h=>zfw h⟩
instance zgX :Stp (lIsi isInt (.tuple xs) R) ((R (.bool false))):=⟨fun h=>zdR h⟩
instance zif :Stp (lIsi isInt (.list xs) R) ((R (.bool false))):=⟨fun h=>zeO h⟩
instance zie :Stp (lIsi isInt (.none) R) ((R (.bool false))):=⟨fun h=>zeN h⟩
instance zig :Stp (lIsi isInt (.dict []) R) ((R (.bool false))):=⟨fun h=>zeP h⟩
instance zii :Stp (lIsi isBool (.int i) R) ((R (.bool false))):=⟨fun h=>zeR h⟩
instance zgY :Stp (lIsi isBool (.bool a) R) ((R (.bool true))):=⟨fun h=>zdS h⟩
instance zit :Stp (lIsi isTup (.int i) R) ((R (.bool false))):=⟨fun h=>zft h⟩
instance zh_ :Stp (lIsi isTup (.bool a) R) ((R (.bool false))):=⟨fun h=>zeI h⟩
instance zis :Stp (lIsi isTup (.str s) R) ((R (.bool false))):=⟨fun h=>zfs h⟩
instance zgV :Stp (lIsi isTup (.tuple xs) R) ((R (.bool true))):=⟨fun h=>zdP h⟩
instance zh8 :Stp (lIsi isTup (.list xs) R) ((R (.bool false))):=⟨fun h=>zeG h⟩
instance zh7 :Stp (lIsi isTup (.none) R) ((R (.bool false))):=⟨fun h=>zeF h⟩
instance zh9 :Stp (lIsi isTup (.dict []) R) ((R (.bool false))):=⟨fun h=>zeH h⟩
instance ziv :Stp (lIsi isStr (.int i) R) ((R (.bool false))):=⟨fun h=>zfv h⟩
instance zid :Stp (lIsi isStr (.bool a) R) ((R (.bool false))):=⟨fun h=>zeM h⟩
instance ziu :Stp (lIsi isStr (.str s) R) ((R (.bool true))):=⟨fun h=>zfu h⟩
instance zgW :Stp (lIsi isStr (.tuple xs) R) ((R (.bool false))):=⟨fun h=>zdQ h⟩
instance zib :Stp (lIsi isStr (.list xs) R) ((R (.bool false))):=⟨fun h=>zeK h⟩
instance zia :Stp (lIsi isStr (.none) R) ((R (.bool false))):=⟨fun h=>zeJ h⟩
instance zic :Stp (lIsi isStr (.dict []) R) ((R (.bool false))):=⟨fun h=>zeL h⟩
end
section
variable {d da db:DTE}{dlo dhi:DTO}{ρ:En}{n:Nat}{R:PyData->Nat->Prop}{Ro:Option Int->Nat->Prop}{Rl:List PyData->Nat->Prop}{xs ys:List PyData}{lo hi:Option Int}{Q:PyData->Prop}{Ql:List PyData->Prop}
instance zjK :Stp (zfH ρ n Ro) ((Ro none n)):=⟨fun h=>zhz h⟩
instance zlk :Stp (zkM d ρ n Ro) ((d ρ n fun t n'=>lInt t fun i=>Ro (some i) n')):=⟨fun h=>zky h⟩
instance znu :Stp (dZip da db ρ n Rl) ((da ρ n fun x n1=>db ρ n1 fun y n2=>zaX x fun xs=>zaX y fun ys=>Rl (zipD xs ys) n2)):=⟨fun h=>zmE h⟩
instance zny :Stp (dRev d dlo ρ n R) ((d ρ n fun t n1=>dlo ρ n1 fun o n2=>o=some (-1)/\lTup t fun ts=>R (.tuple ts.reverse) n2)):=⟨fun h=>zmI h⟩
end
section
variable {R:PyData->Prop}{b:Bool}{A B:Prop}
instance zpe:Stp (if true=true then A else B) A:=⟨fun h=>iteT h⟩
instance zpf:Stp (if false=true then A else B) B:=⟨fun h=>iteF h⟩
instance zpg:Stp (oIs (.bool false) (.bool false) R) (R (.bool true)):=⟨fun h=>zoI h⟩
instance znm:Stp (oIsN (.bool true) (.bool true) R) (R (.bool false)):=⟨fun h=>zhv h⟩
instance znn:Stp (oIsN (.bool false) (.bool false) R) (R (.bool false)):=⟨fun h=>zhv h⟩
end
class GetN (ρ:En) (i:Nat) (c:outParam (Option Cell)):Prop where
 e:ρ[i]?=some c
class SetN (ρ:En) (i:Nat) (c:Option Cell) (ρ':outParam En):Prop where
 e:ρ.set i c=ρ'
instance {a0:Option Cell}{as:En}:GetN (a0::as) 0 a0:=⟨rfl⟩
instance {a0 c:Option Cell}{as:En}:SetN (a0::as) 0 c (c::as):=⟨rfl⟩
instance {a0 a1:Option Cell}{as:En}:GetN (a0::a1::as) 1 a1:=⟨rfl⟩
instance {a0 a1 c:Option Cell}{as:En}:SetN (a0::a1::as) 1 c (a0::c::as):=⟨rfl⟩
instance {a0 a1 a2:Option Cell}{as:En}:GetN (a0::a1::a2::as) 2 a2:=⟨rfl⟩
instance {a0 a1 a2 c:Option Cell}{as:En}:SetN (a0::a1::a2::as) 2 c (a0::a1::c::as):=⟨rfl⟩
instance {a0 a1 a2 a3:Option Cell}{as:En}:GetN (a0::a1::a2::a3::as) 3 a3:=⟨rfl⟩
instance {a0 a1 a2 a3 c:Option Cell}{as:En}:SetN (a0::a1::a2::a3::as) 3 c (a0::a1::a2::c::as):=⟨rfl⟩
instance {a0 a1 a2 a3 a4:Option Cell}{as:En}:GetN (a0::a1::a2::a3::a4::as) 4 a4:=⟨rfl⟩
instance {a0 a1 a2 a3 a4 c:Option Cell}{as:En}:SetN (a0::a1::a2::a3::a4::as) 4 c (a0::a1::a2::a3::c::as):=⟨rfl⟩
instance {a0 a1 a2 a3 a4 a5:Option Cell}{as:En}:GetN (a0::a1::a2::a3::a4::a5::as) 5 a5:=⟨rfl⟩
instance {a0 a1 a2 a3 a4 a5 c:Option Cell}{as:En}:SetN (a0::a1::a2::a3::a4::a5::as) 5 c (a0::a1::a2::a3::a4::c::as):=⟨rfl⟩
instance {a0 a1 a2 a3 a4 a5 a6:Option Cell}{as:En}:GetN (a0::a1::a2::a3::a4::a5::a6::as) 6 a6:=⟨rfl⟩
instance {a0 a1 a2 a3 a4 a5 a6 c:Option Cell}{as:En}:SetN (a0::a1::a2::a3::a4::a5::a6::as) 6 c (a0::a1::a2::a3::a4::a5::c::as):=⟨rfl⟩
instance {a0 a1 a2 a3 a4 a5 a6 a7:Option Cell}{as:En}:GetN (a0::a1::a2::a3::a4::a5::a6::a7::as) 7 a7:=⟨rfl⟩
instance {a0 a1 a2 a3 a4 a5 a6 a7 c:Option Cell}{as:En}:SetN (a0::a1::a2::a3::a4::a5::a6::a7::as) 7 c (a0::a1::a2::a3::a4::a5::a6::c::as):=⟨rfl⟩
instance {a0 a1 a2 a3 a4 a5 a6 a7 a8:Option Cell}{as:En}:GetN (a0::a1::a2::a3::a4::a5::a6::a7::a8::as) 8 a8:=⟨rfl⟩
instance {a0 a1 a2 a3 a4 a5 a6 a7 a8 c:Option Cell}{as:En}:SetN (a0::a1::a2::a3::a4::a5::a6::a7::a8::as) 8 c (a0::a1::a2::a3::a4::a5::a6::a7::c::as):=⟨rfl⟩
instance {a0 a1 a2 a3 a4 a5 a6 a7 a8 a9:Option Cell}{as:En}:GetN (a0::a1::a2::a3::a4::a5::a6::a7::a8::a9::as) 9 a9:=⟨rfl⟩
instance {a0 a1 a2 a3 a4 a5 a6 a7 a8 a9 c:Option Cell}{as:En}:SetN (a0::a1::a2::a3::a4::a5::a6::a7::a8::a9::as) 9 c (a0::a1::a2::a3::a4::a5::a6::a7::a8::c::as):=⟨rfl⟩
instance {a0 a1 a2 a3 a4 a5 a6 a7 a8 a9 a10:Option Cell}{as:En}:GetN (a0::a1::a2::a3::a4::a5::a6::a7::a8::a9::a10::as) 10 a10:=⟨rfl⟩
instance {a0 a1 a2 a3 a4 a5 a6 a7 a8 a9 a10 c:Option Cell}{as:En}:SetN (a0::a1::a2::a3::a4::a5::a6::a7::a8::a9::a10::as) 10 c (a0::a1::a2::a3::a4::a5::a6::a7::a8::a9::c::as):=⟨rfl⟩
instance {a0 a1 a2 a3 a4 a5 a6 a7 a8 a9 a10 a11:Option Cell}{as:En}:GetN (a0::a1::a2::a3::a4::a5::a6::a7::a8::a9::a10::a11::as) 11 a11:=⟨rfl⟩
instance {a0 a1 a2 a3 a4 a5 a6 a7 a8 a9 a10 a11 c:Option Cell}{as:En}:SetN (a0::a1::a2::a3::a4::a5::a6::a7::a8::a9::a10::a11::as) 11 c (a0::a1::a2::a3::a4::a5::a6::a7::a8::a9::a10::c::as):=⟨rfl⟩
instance {a0 a1 a2 a3 a4 a5 a6 a7 a8 a9 a10 a11 a12:Option Cell}{as:En}:GetN (a0::a1::a2::a3::a4::a5::a6::a7::a8::a9::a10::a11::a12::as) 12 a12:=⟨rfl⟩
instance {a0 a1 a2 a3 a4 a5 a6 a7 a8 a9 a10 a11 a12 c:Option Cell}{as:En}:SetN (a0::a1::a2::a3::a4::a5::a6::a7::a8::a9::a10::a11::a12::as) 12 c (a0::a1::a2::a3::a4::a5::a6::a7::a8::a9::a10::a11::c::as):=⟨rfl⟩
instance {a0 a1 a2 a3 a4 a5 a6 a7 a8 a9 a10 a11 a12 a13:Option Cell}{as:En}:GetN (a0::a1::a2::a3::a4::a5::a6::a7::a8::a9::a10::a11::a12::a13::as) 13 a13:=⟨rfl⟩
instance {a0 a1 a2 a3 a4 a5 a6 a7 a8 a9 a10 a11 a12 a13 c:Option Cell}{as:En}:SetN (a0::a1::a2::a3::a4::a5::a6::a7::a8::a9::a10::a11::a12::a13::as) 13 c (a0::a1::a2::a3::a4::a5::a6::a7::a8::a9::a10::a11::a12::c::as):=⟨rfl⟩
instance {a0 a1 a2 a3 a4 a5 a6 a7 a8 a9 a10 a11 a12 a13 a14:Option Cell}{as:En}:GetN (a0::a1::a2::a3::a4::a5::a6::a7::a8::a9::a10::a11::a12::a13::a14::as) 14 a14:=⟨rfl⟩
instance {a0 a1 a2 a3 a4 a5 a6 a7 a8 a9 a10 a11 a12 a13 a14 c:Option Cell}{as:En}:SetN (a0::a1::a2::a3::a4::a5::a6::a7::a8::a9::a10::a11::a12::a13::a14::as) 14 c (a0::a1::a2::a3::a4::a5::a6::a7::a8::a9::a10::a11::a12::a13::c::as):=⟨rfl⟩
instance {a0 a1 a2 a3 a4 a5 a6 a7 a8 a9 a10 a11 a12 a13 a14 a15:Option Cell}{as:En}:GetN (a0::a1::a2::a3::a4::a5::a6::a7::a8::a9::a10::a11::a12::a13::a14::a15::as) 15 a15:=⟨rfl⟩
instance {a0 a1 a2 a3 a4 a5 a6 a7 a8 a9 a10 a11 a12 a13 a14 a15 c:Option Cell}{as:En}:SetN (a0::a1::a2::a3::a4::a5::a6::a7::a8::a9::a10::a11::a12::a13::a14::a15::as) 15 c (a0::a1::a2::a3::a4::a5::a6::a7::a8::a9::a10::a11::a12::a13::a14::c::as):=⟨rfl⟩
instance {a0 a1 a2 a3 a4 a5 a6 a7 a8 a9 a10 a11 a12 a13 a14 a15 a16:Option Cell}{as:En}:GetN (a0::a1::a2::a3::a4::a5::a6::a7::a8::a9::a10::a11::a12::a13::a14::a15::a16::as) 16 a16:=⟨rfl⟩
instance {a0 a1 a2 a3 a4 a5 a6 a7 a8 a9 a10 a11 a12 a13 a14 a15 a16 c:Option Cell}{as:En}:SetN (a0::a1::a2::a3::a4::a5::a6::a7::a8::a9::a10::a11::a12::a13::a14::a15::a16::as) 16 c (a0::a1::a2::a3::a4::a5::a6::a7::a8::a9::a10::a11::a12::a13::a14::a15::c::as):=⟨rfl⟩
instance {a0 a1 a2 a3 a4 a5 a6 a7 a8 a9 a10 a11 a12 a13 a14 a15 a16 a17:Option Cell}{as:En}:GetN (a0::a1::a2::a3::a4::a5::a6::a7::a8::a9::a10::a11::a12::a13::a14::a15::a16::a17::as) 17 a17:=⟨rfl⟩
instance {a0 a1 a2 a3 a4 a5 a6 a7 a8 a9 a10 a11 a12 a13 a14 a15 a16 a17 c:Option Cell}{as:En}:SetN (a0::a1::a2::a3::a4::a5::a6::a7::a8::a9::a10::a11::a12::a13::a14::a15::a16::a17::as) 17 c (a0::a1::a2::a3::a4::a5::a6::a7::a8::a9::a10::a11::a12::a13::a14::a15::a16::c::as):=⟨rfl⟩
instance {a0 a1 a2 a3 a4 a5 a6 a7 a8 a9 a10 a11 a12 a13 a14 a15 a16 a17 a18:Option Cell}{as:En}:GetN (a0::a1::a2::a3::a4::a5::a6::a7::a8::a9::a10::a11::a12::a13::a14::a15::a16::a17::a18::as) 18 a18:=⟨rfl⟩
instance {a0 a1 a2 a3 a4 a5 a6 a7 a8 a9 a10 a11 a12 a13 a14 a15 a16 a17 a18 c:Option Cell}{as:En}:SetN (a0::a1::a2::a3::a4::a5::a6::a7::a8::a9::a10::a11::a12::a13::a14::a15::a16::a17::a18::as) 18 c (a0::a1::a2::a3::a4::a5::a6::a7::a8::a9::a10::a11::a12::a13::a14::a15::a16::a17::c::as):=⟨rfl⟩
instance {a0 a1 a2 a3 a4 a5 a6 a7 a8 a9 a10 a11 a12 a13 a14 a15 a16 a17 a18 a19:Option Cell}{as:En}:GetN (a0::a1::a2::a3::a4::a5::a6::a7::a8::a9::a10::a11::a12::a13::a14::a15::a16::a17::a18::a19::as) 19 a19:=⟨rfl⟩
instance {a0 a1 a2 a3 a4 a5 a6 a7 a8 a9 a10 a11 a12 a13 a14 a15 a16 a17 a18 a19 c:Option Cell}{as:En}:SetN (a0::a1::a2::a3::a4::a5::a6::a7::a8::a9::a10::a11::a12::a13::a14::a15::a16::a17::a18::a19::as) 19 c (a0::a1::a2::a3::a4::a5::a6::a7::a8::a9::a10::a11::a12::a13::a14::a15::a16::a17::a18::c::as):=⟨rfl⟩
instance {a0 a1 a2 a3 a4 a5 a6 a7 a8 a9 a10 a11 a12 a13 a14 a15 a16 a17 a18 a19 a20:Option Cell}{as:En}:GetN (a0::a1::a2::a3::a4::a5::a6::a7::a8::a9::a10::a11::a12::a13::a14::a15::a16::a17::a18::a19::a20::as) 20 a20:=⟨rfl⟩
instance {a0 a1 a2 a3 a4 a5 a6 a7 a8 a9 a10 a11 a12 a13 a14 a15 a16 a17 a18 a19 a20 c:Option Cell}{as:En}:SetN (a0::a1::a2::a3::a4::a5::a6::a7::a8::a9::a10::a11::a12::a13::a14::a15::a16::a17::a18::a19::a20::as) 20 c (a0::a1::a2::a3::a4::a5::a6::a7::a8::a9::a10::a11::a12::a13::a14::a15::a16::a17::a18::a19::c::as):=⟨rfl⟩
instance {a0 a1 a2 a3 a4 a5 a6 a7 a8 a9 a10 a11 a12 a13 a14 a15 a16 a17 a18 a19 a20 a21:Option Cell}{as:En}:GetN (a0::a1::a2::a3::a4::a5::a6::a7::a8::a9::a10::a11::a12::a13::a14::a15::a16::a17::a18::a19::a20::a21::as) 21 a21:=⟨rfl⟩
instance {a0 a1 a2 a3 a4 a5 a6 a7 a8 a9 a10 a11 a12 a13 a14 a15 a16 a17 a18 a19 a20 a21 c:Option Cell}{as:En}:SetN (a0::a1::a2::a3::a4::a5::a6::a7::a8::a9::a10::a11::a12::a13::a14::a15::a16::a17::a18::a19::a20::a21::as) 21 c (a0::a1::a2::a3::a4::a5::a6::a7::a8::a9::a10::a11::a12::a13::a14::a15::a16::a17::a18::a19::a20::c::as):=⟨rfl⟩
instance {a0 a1 a2 a3 a4 a5 a6 a7 a8 a9 a10 a11 a12 a13 a14 a15 a16 a17 a18 a19 a20 a21 a22:Option Cell}{as:En}:GetN (a0::a1::a2::a3::a4::a5::a6::a7::a8::a9::a10::a11::a12::a13::a14::a15::a16::a17::a18::a19::a20::a21::a22::as) 22 a22:=⟨rfl⟩
instance {a0 a1 a2 a3 a4 a5 a6 a7 a8 a9 a10 a11 a12 a13 a14 a15 a16 a17 a18 a19 a20 a21 a22 c:Option Cell}{as:En}:SetN (a0::a1::a2::a3::a4::a5::a6::a7::a8::a9::a10::a11::a12::a13::a14::a15::a16::a17::a18::a19::a20::a21::a22::as) 22 c (a0::a1::a2::a3::a4::a5::a6::a7::a8::a9::a10::a11::a12::a13::a14::a15::a16::a17::a18::a19::a20::a21::c::as):=⟨rfl⟩
instance {a0 a1 a2 a3 a4 a5 a6 a7 a8 a9 a10 a11 a12 a13 a14 a15 a16 a17 a18 a19 a20 a21 a22 a23:Option Cell}{as:En}:GetN (a0::a1::a2::a3::a4::a5::a6::a7::a8::a9::a10::a11::a12::a13::a14::a15::a16::a17::a18::a19::a20::a21::a22::a23::as) 23 a23:=⟨rfl⟩
instance {a0 a1 a2 a3 a4 a5 a6 a7 a8 a9 a10 a11 a12 a13 a14 a15 a16 a17 a18 a19 a20 a21 a22 a23 c:Option Cell}{as:En}:SetN (a0::a1::a2::a3::a4::a5::a6::a7::a8::a9::a10::a11::a12::a13::a14::a15::a16::a17::a18::a19::a20::a21::a22::a23::as) 23 c (a0::a1::a2::a3::a4::a5::a6::a7::a8::a9::a10::a11::a12::a13::a14::a15::a16::a17::a18::a19::a20::a21::a22::c::as):=⟨rfl⟩
instance {a0 a1 a2 a3 a4 a5 a6 a7 a8 a9 a10 a11 a12 a13 a14 a15 a16 a17 a18 a19 a20 a21 a22 a23 a24:Option Cell}{as:En}:GetN (a0::a1::a2::a3::a4::a5::a6::a7::a8::a9::a10::a11::a12::a13::a14::a15::a16::a17::a18::a19::a20::a21::a22::a23::a24::as) 24 a24:=⟨rfl⟩
instance {a0 a1 a2 a3 a4 a5 a6 a7 a8 a9 a10 a11 a12 a13 a14 a15 a16 a17 a18 a19 a20 a21 a22 a23 a24 c:Option Cell}{as:En}:SetN (a0::a1::a2::a3::a4::a5::a6::a7::a8::a9::a10::a11::a12::a13::a14::a15::a16::a17::a18::a19::a20::a21::a22::a23::a24::as) 24 c (a0::a1::a2::a3::a4::a5::a6::a7::a8::a9::a10::a11::a12::a13::a14::a15::a16::a17::a18::a19::a20::a21::a22::a23::c::as):=⟨rfl⟩
instance {a0 a1 a2 a3 a4 a5 a6 a7 a8 a9 a10 a11 a12 a13 a14 a15 a16 a17 a18 a19 a20 a21 a22 a23 a24 a25:Option Cell}{as:En}:GetN (a0::a1::a2::a3::a4::a5::a6::a7::a8::a9::a10::a11::a12::a13::a14::a15::a16::a17::a18::a19::a20::a21::a22::a23::a24::a25::as) 25 a25:=⟨rfl⟩
instance {a0 a1 a2 a3 a4 a5 a6 a7 a8 a9 a10 a11 a12 a13 a14 a15 a16 a17 a18 a19 a20 a21 a22 a23 a24 a25 c:Option Cell}{as:En}:SetN (a0::a1::a2::a3::a4::a5::a6::a7::a8::a9::a10::a11::a12::a13::a14::a15::a16::a17::a18::a19::a20::a21::a22::a23::a24::a25::as) 25 c (a0::a1::a2::a3::a4::a5::a6::a7::a8::a9::a10::a11::a12::a13::a14::a15::a16::a17::a18::a19::a20::a21::a22::a23::a24::c::as):=⟨rfl⟩
class NormE (ρ:En) (ρ':outParam En):Prop where
 e:ρ=ρ'
instance {a:Option Cell}{as:En}:NormE (a::as) (a::as):=⟨rfl⟩
instance {ρ ρ1 ρ2:En}{i:Nat}{c:Option Cell}[h:NormE ρ ρ1] [k:SetN ρ1 i c ρ2]:NormE (ρ.set i c) ρ2:=⟨by rw [h.e];exact k.e⟩
class NoneN (as:En) (nn:outParam En):Prop where
 e:List.replicate as.length none=nn
instance:NoneN [] []:=⟨rfl⟩
instance {a:Option Cell}{as nn:En}[h:NoneN as nn]:NoneN (a::as) (none::nn):=⟨by rw [List.length_cons,List.replicate_succ,h.e]⟩
class StartN (N:List Str) (ts:List PyData) (ρ:outParam En):Prop where
 e:za2 N ts=ρ
instance:StartN [] [] []:=⟨rfl⟩
instance {x:Str}{N:List Str}{ρ:En}[h:StartN N [] ρ]:StartN (x::N) [] (none::ρ):=⟨by
 have:=h.e
 simp only [za2,List.map_nil,List.nil_append,List.length_nil,Nat.sub_zero] at this ⊢
 rw [List.length_cons,List.replicate_succ,this]⟩
instance {x:Str}{N:List Str}{t:PyData}{ts:List PyData}{ρ:En}[h:StartN N ts ρ]:StartN (x::N) (t::ts) (some (.val t)::ρ):=⟨by
 have:=h.e
 simp only [za2] at this ⊢
 rw [List.map_cons,List.length_cons,List.length_cons,List.cons_append,Nat.add_sub_add_right,this]⟩
theorem zgq {d:DTS}{D:DEnds}{n:Nat}{N:List Str}{ts:List PyData}{ρ:En}[e:StartN N ts ρ] (h:d D ρ n):d D (za2 N ts) n:=e.e.symm▸h
class CapN (is:List Nat) (ρ:En) (out:outParam En):Prop where
 e:(is.map fun i=>capV (ρ.getD i none))=out
class CapC (c:Option Cell) (c':outParam (Option Cell)):Prop where
 e:capV c=c'
instance {d:PyData}:CapC (some (.val d)) (some (.val d)):=⟨rfl⟩
instance {d:List PyData}:CapC (some (.own d)) none:=⟨rfl⟩
instance:CapC none none:=⟨rfl⟩
instance {ρ:En}:CapN [] ρ []:=⟨rfl⟩
instance {i:Nat}{is:List Nat}{ρ out:En}{c c':Option Cell}[g:GetN ρ i c] [k:CapC c c'] [h:CapN is ρ out]:CapN (i::is) ρ (c'::out):=⟨by
 have ge:=g.e
 rw [List.map_cons,h.e,List.getD_eq_getElem?_getD,ge,Option.getD_some,k.e]⟩
class CompN (m:Nat) (capt:List Nat) (ρ:En) (ρ':outParam En):Prop where
 e:zaL m capt ρ=ρ'
instance {x:Str}{capt:List Nat}{ρ out:En}[h:CapN capt ρ out]:CompN (List.length [x]) capt ρ (none::out):=⟨by unfold zaL;rw [h.e];rfl⟩
instance {x y:Str}{capt:List Nat}{ρ out:En}[h:CapN capt ρ out]:CompN (List.length [x,y]) capt ρ (none::none::out):=⟨by unfold zaL;rw [h.e];rfl⟩
instance {x y z:Str}{capt:List Nat}{ρ out:En}[h:CapN capt ρ out]:CompN (List.length [x,y,z]) capt ρ (none::none::none::out):=⟨by unfold zaL;rw [h.e];rfl⟩
instance {x y z u:Str}{capt:List Nat}{ρ out:En}[h:CapN capt ρ out]:CompN (List.length [x,y,z,u]) capt ρ (none::none::none::none::out):=⟨by unfold zaL;rw [h.e];rfl⟩
def SetK (i:Nat) (c:Option Cell) (K:En->Nat->Prop) (ρ:En) (n:Nat):Prop:=K (ρ.set i c) n
section
variable {t u:DTS}{D:DEnds}{ρ ρ0 ρ':En}{n i j m:Nat}{d dj:DTE}{ds di:DTA}{tt:DTT}{tg:DTG}{R:PyData->Nat->Prop}{Rl:List PyData->Nat->Prop}{Re:En->Prop}{x:PyData}{xs:List PyData}{f:Int->Int->Int}{capt:List Nat}{c:Option Cell}{K:En->Nat->Prop}{q:Int}
instance zpn [h:SetN ρ i c ρ']:Stp (SetK i c K ρ n) (K ρ' n):=⟨fun k=>by unfold SetK;rw [h.e];exact k⟩
instance zo_:Stp (sSet i d D ρ n) (d ρ n fun t n'=>SetK i (some (.val t)) D.nx ρ n'):=⟨fun h=>h⟩
instance zpa:Stp (sOwn i ds D ρ n) (ds ρ n fun t n'=>SetK i (some (.own t)) D.nx ρ n'):=⟨fun h=>h⟩
instance zm_ [h:SetN ρ i (some (.val x)) ρ']:Stp (zgM i x ρ Re) (Re ρ'):=⟨fun k=>by unfold zgM;rw [h.e];exact k⟩
instance zpk [h:GetN ρ i (some (.val x))]:Stp (dVar i ρ n R) (R x n):=⟨fun k=>zjq h.e k⟩
instance zpl [h:GetN ρ i (some (.own xs))]:Stp (dOwn i ρ n R) (R (.list xs) n):=⟨fun k=>zjr h.e k⟩
instance znJ [h:GetN ρ i (some (.own xs))]:Stp (zcM i d D ρ n) (d ρ n fun t n'=>xs.length<16777216/\SetK i (some (.own (xs++[t]))) D.nx ρ n'):=⟨fun k=>zgc h.e k⟩
instance znI [h:GetN ρ i (some (.own xs))] [h':SetN ρ i (some (.val (.list xs))) ρ']:Stp (zcL i t D ρ n) (t D ρ' n):=⟨fun k=>zgb h.e (by rw [h'.e];exact k)⟩
instance zpm [h:CompN m capt ρ ρ0]:Stp (dComp m capt di tg tt d ρ n Rl) (di ρ n fun ts n1=>zbA tg tt d ρ0 ts [] n1 Rl):=⟨fun k=>zkB (by rw [h.e];exact k)⟩
end
end L2
namespace L2
open PySem PySem.Spec PyProof.Rows
theorem zfZ {ρ:En}{i:Nat}:ρ.set i (ρ.getD i none)=ρ:=by
 apply List.ext_getElem?
 intro j
 by_cases h:i=j
 ·subst h
  by_cases hl:i<ρ.length
  ·rw [List.getElem?_set_self hl,List.getD_eq_getElem?_getD,List.getElem?_eq_getElem hl];rfl
  ·rw [List.getElem?_eq_none (by simp;omega),List.getElem?_eq_none (by omega)]
 ·rw [List.getElem?_set_ne h]
section
variable {g:DTG}{tb:DTS}{D:DEnds}{ts:List PyData}{ρ:En}{n:Nat}
theorem zhH (i0 i1:Nat) (Inv:Nat->Option Cell->Option Cell->Nat->Prop) {ρf:Option Cell->Option Cell->En}[N:∀ a0 a1,NormE ((ρ.set i0 a0).set i1 a1) (ρf a0 a1)] (h0:Inv 0 (ρ.getD i0 none) (ρ.getD i1 none) n)
  (turn:∀ (k:Nat) (t:PyData) (a0 a1:Option Cell) (m:Nat) (K:En->Nat->Prop) (RT:PyData->Nat->Prop) (BK:En->Nat->Prop),ts[k]?=some t->Inv k a0 a1 m->(∀ b0 b1 m',Inv (k+1) b0 b1 m'->K (ρf b0 b1) m')->(∀ t m,D.rt t m->RT t m)->(∀ ρ m,D.nx ρ m->BK ρ m)->g t (ρf a0 a1) fun ρ'=>tb { nx:=K,rt:=RT,bk:=BK,ct:=K } ρ' m)
  (fin:∀ a0 a1 m,Inv ts.length a0 a1 m->D.nx (ρf a0 a1) m):forP g tb D ts ρ n:=by
 refine zge (fun k ρ' m=>∃ a0 a1,ρ'=((ρ.set i0 a0).set i1 a1)/\Inv k a0 a1 m) ⟨_,_,?_,h0⟩ ?_ ?_
 ·rw [zfZ,zfZ]
 ·rintro k t ρ' m K e ⟨a0,a1,rfl,hI⟩ hK
  rw [(N a0 a1).e]
  exact turn k t a0 a1 m K D.rt D.nx e hI (fun b0 b1 m' h=>(N b0 b1).e▸hK _ _ ⟨b0,b1,rfl,h⟩) (fun _ _ h=>h) (fun _ _ h=>h)
 ·rintro ρ' m ⟨a0,a1,rfl,hI⟩
  rw [(N a0 a1).e]
  exact fin a0 a1 m hI
theorem zi0 {i j:Nat}{u:DTS}{D:DEnds}{as nn ρ1 ρ2:En}{n:Nat}{ns:List Int}{k:Int}[ej:GetN (some (.val (SCR ns))::as) j (some (.val (.int k)))] [e1:NoneN as nn] [e2:SetN (some (.val (SCR ns))::nn) j (some (.val (.int k))) ρ1] [e3:SetN ρ1 i (some (.val HAND)) ρ2] (hl:ns.length<=63) (k0:0<=k) (k1:k<=100)
  (h:∀ (NX:En->Nat->Prop) (RT:PyData->Nat->Prop) (BK CT:En->Nat->Prop),(∀ ρ' m,D.nx (za9 ρ') n->NX ρ' m)->(∀ b m,D.rt (.bool b) n->RT (.bool b) m)->(∀ ρ' m,D.bk (za9 ρ') n->BK ρ' m)->(∀ ρ' m,D.ct (za9 ρ') n->CT ρ' m) ->
   u { nx:=NX,rt:=RT,bk:=BK,ct:=CT } ρ2 0):zgt i j u D (some (.val (SCR ns))::as) n:=by
 refine zkv (ρd:=some (.val (SCR ns))::nn) rfl ej.e hl k0 k1 ?_ ?_
 ·show some (Cell.val (SCR ns))::List.replicate (List.length (some (Cell.val (SCR ns))::as) - 1) none=_
  rw [List.length_cons,Nat.add_sub_cancel,e1.e]
 ·rw [e2.e,e3.e]
  exact h _ _ _ _ (fun _ _ h=>h) (fun b _ h=>⟨b,rfl,h⟩) (fun _ _ h=>h) (fun _ _ h=>h)
end
end L2
namespace L2
open PySem PySem.Spec PyProof.Rows
open Builtin Builtin.Str
def cutS (x:Str) (lo hi:Option Int):Str:=⟨((x.cps.toList.drop (HT.sIx x.length 0 lo)).take (HT.sIx x.length x.length hi - HT.sIx x.length 0 lo)).toArray⟩
theorem zdA (n d:Nat) (i:Int):((HT.sIx n d (some i):Nat):Int)=max 0 (min (if i<0 then i+(n:Int) else i) (n:Int)):=by
 simp only [HT.sIx]
 by_cases h:i<0
 ·simp only [h,if_true] <;> lia
 ·simp only [h,if_false] <;> lia
theorem zk_ (lo hi:Option Int) (n:Nat):strSliceIndices lo hi 1 n=sliceRange ((HT.sIx n 0 lo:Nat):Int) ((HT.sIx n n hi:Nat):Int) 1:=by
 have d0:((HT.sIx n 0 none:Nat):Int)=0:=by simp [HT.sIx]
 have d1:((HT.sIx n n none:Nat):Int)=n:=by simp [HT.sIx]
 cases lo with
 | none =>
  cases hi with
  | none=>rw [d0,d1];rfl
  | some j=>rw [d0,zdA];rfl
 | some i =>
  cases hi with
  | none=>rw [d1,zdA];rfl
  | some j=>rw [zdA,zdA];rfl
theorem zgS (x:Str) (lo hi:Option Int):Txt.slice x lo hi=cutS x lo hi:=by
 have e:strSliceIndices lo hi 1 x.length=(List.range (HT.sIx x.length x.length hi - HT.sIx x.length 0 lo)).map (HT.sIx x.length 0 lo+·):=by rw [zk_,sliceRange_one]
 have pk:(strSliceIndices lo hi 1 x.length).filterMap (x.cps[·]?)=(x.cps.toList.drop (HT.sIx x.length 0 lo)).take (HT.sIx x.length x.length hi - HT.sIx x.length 0 lo):=by rw [e,pick_run]
 unfold Txt.slice
 split
 ·rename_i h
  have hl:(strSliceIndices lo hi 1 x.length).length=x.length:=by simpa using h
  rw [e,List.length_map,List.length_range] at hl
  unfold cutS
  have h2:HT.sIx x.length x.length hi<=x.length:=by
   cases hi with
   | none=>simp [HT.sIx]
   | some i=>simp only [HT.sIx];split <;> lia
  have z:HT.sIx x.length 0 lo=0\/x.length=0:=by lia
  have:(x.cps.toList.drop (HT.sIx x.length 0 lo)).take (HT.sIx x.length x.length hi - HT.sIx x.length 0 lo)=x.cps.toList:=by
   have sz:x.cps.toList.length=x.length:=by simp [Str.length]
   rcases z with z | z
   ·rw [z,List.drop_zero,List.take_of_length_le (by lia)]
   ·have:x.cps.toList=[]:=List.length_eq_zero_iff.mp (by lia)
    rw [this];simp
  rw [this]
 ·rw [pk];rfl
section
variable {X:Cx}
theorem zdo {v:Value}{p:Option Int} (h:IsPart v p):∃ l:Option (Int×Tok),v=partValue l/\l.map (·.1)=p:=by
 cases h with
 | none=>exact ⟨none,rfl,rfl⟩
 | int i t=>exact ⟨some (i,t),rfl,rfl⟩
def rSlS:V->Option Int->Option Int->Hp->VK->Prop:=fun x lo hi H Q=>∃ z,x=.str z/\z.length<=sizeLine/\Q (.str (cutS z lo hi)) H
theorem zlc:SlR X rSlS:=by
 intro pins s σ H x v vl vu lo hi sl Q I rx hs pl pu h
 obtain ⟨z,rfl,hz,q⟩:=h
 obtain ⟨t,rfl⟩:=rx
 obtain ⟨l,rfl,rfl⟩:=zdo pl
 obtain ⟨u,rfl,rfl⟩:=zdo pu
 have hs':s.heap.IsSlice sl l u none:=hs
 refine ⟨"str",_,F.slot_str_getitem.lookup,typeIs_str _ _ _,wpAny_getItem_str_slice (l:=l) (u:=u) (st:=none) hs' rfl (post_val_or_str ?_)⟩
 have e:(if (((none:Option (Int×Tok)).map (·.1)).getD 1 == 1&&(slicePicked z l u none).length == z.length)=true then z else ⟨((slicePicked z l u none).filterMap (z.cps[·]?)).toArray⟩)=Txt.slice z (l.map (·.1)) (u.map (·.1)):=rfl
 rw [e]
 refine ⟨Nat.le_trans (Txt.slice_le z _ _) hz,fun t' k=>⟨.str (Txt.slice z (l.map (·.1)) (u.map (·.1))),H,I.tok _,⟨_,rfl⟩,?_⟩⟩
 rw [zgS];exact q
def oSlA (t:PyData) (lo hi:Option Int) (R:PyData->Prop):Prop:=match t with
 | .tuple ts=>R (.tuple (cutD ts lo hi))
 | .str x=>x.length<=16777216/\R (.str (cutS x lo hi))
 | _=>False
def dSlA (d:DTE) (dl du:DTO):DTE:=fun ρ n R=>d ρ n fun t n1=>dl ρ n1 fun lo n2=>du ρ n2 fun hi n3=>oSlA t lo hi fun z=>R z n3
variable {e a b iter tg:Expr}{d da db:DTE}{lo hi:Option Expr}{dlo dhi:DTO}{pos p2:Pos}
theorem zbj (h:DL X e d) (hl:DP X lo dlo) (hu:DP X hi dhi):DE X (.Subscript e (.Slice lo hi none p2) pos) (dSlA d dlo dhi):=by
 obtain ⟨ta,pa,h⟩:=h
 obtain ⟨tl,pl,hl⟩:=hl
 obtain ⟨tu,pu,hu⟩:=hu
 refine ⟨_,ziI (SlR.or (SlR.or zlb zjJ) zlc) pa pl pu,fun C ρ σ H n Q R S hd hq=>?_⟩
 refine h C ρ σ H n _ _ S hd fun t n1 v H1 r1 e1 h1 q1=>?_
 have S1:=S.on e1 h1
 refine hl C ρ σ H1 n1 _ _ S1 r1 fun lo n2 H2 r2 e2 h2=>?_
 have S2:=S1.on e2 h2
 refine hu C ρ σ H2 n2 _ _ S2 r2 fun hi n3 H3 r3 e3 h3=>?_
 have S3:=S2.on e3 h3
 have q3:=(e2.trans e3).repT S.hx q1
 cases t with
 | tuple ts =>
  obtain ⟨a,vs,rfl,hs,rs⟩:=q3.tupI
  by_cases w:HT.sIx vs.length 0 lo=0/\HT.sIx vs.length vs.length hi=vs.length
  ·refine .inl (.inr ⟨a,vs,rfl,hs,w,hq _ n3 _ H3 r3 (e1.trans (e2.trans e3)) h3 ?_⟩)
   rw [zgF (by rw [<- rs.length];exact w)]
   exact q3.rep (by intro _ z;cases z)
  ·refine .inl (.inl ⟨a,vs,rfl,hs,w,fun p hp=>hq _ n3 _ _ r3 (e1.trans (e2.trans (e3.trans (ExtE.new hp)))) (h3.same (zaG hp)) ?_⟩)
   exact .newT (S3.free hp) hp (zjb rs lo hi)
 | str z =>
  rw [q3.strI]
  exact .inr ⟨z,rfl,r3.1,hq _ n3 _ H3 r3.2 (e1.trans (e2.trans e3)) h3 (.str _)⟩
 | _=>exact r3.elim
def repS (x:Str) (n:Int):Str:=⟨(List.replicate n.toNat x.cps.toList).flatten.toArray⟩
theorem zeW (x:Array Nat):∀ (n:Nat) (acc:Array Nat),(List.replicate n x).foldl (·++·) acc=(acc.toList++(List.replicate n x.toList).flatten).toArray
 | 0,acc=>by simp
 | n+1,acc=>by
  rw [List.replicate_succ,List.foldl_cons,zeW x n,List.replicate_succ,List.flatten_cons]
  simp
theorem zj8:OpR X (binaryOp .Mult) (fun x y H Q=>∃ i j,x=.str i/\y=.int j/\-100000<=j/\j<=100000/\i.length<=100/\Q (.str (repS i j)) H):=by
 intro pins s σ H x y v u Q I rx ry h
 obtain ⟨i,j,rfl,rfl,j0,j1,hi,q⟩:=h
 obtain ⟨t,rfl⟩:=rx
 obtain ⟨t',rfl⟩:=ry
 have e0:decide (j < -(2 ^ 63:Int))=false:=decide_eq_false (by lia)
 have e1:decide (j>=2 ^ 63)=false:=decide_eq_false (by lia)
 have bnd:∀ n:Nat,n<=100000->i.length*n<=10000000:=fun n hn=>Nat.mul_le_mul hi hn
 refine P.mul_str (by rw [e0,e1];rfl) (fun h1 _ h2=>?_) (fun h1 _=>?_) ?_
 ·have h3:(100:Int)<=(2 ^ 63 - 1) / j:=by
   apply Int.le_ediv_of_mul_le (by lia)
   lia
  lia
 ·have:=bnd j.toNat (by lia)
  unfold tooLong
  exact decide_eq_false (by have:sizeLine=16777216:=rfl;lia)
 ·by_cases c1:j<1
  ·rw [if_pos c1]
   have e:repS i j=Str.empty:=by
    unfold repS
    rw [show j.toNat=0 by lia];rfl
   rw [e] at q
   exact ⟨by decide,.str Str.empty,H,I.tok _,⟨_,rfl⟩,q⟩
  ·rw [if_neg c1]
   by_cases c2:(j == 1||i.length == 0)=true
   ·rw [if_pos c2]
    have e:repS i j=i:=by
     unfold repS
     rw [Bool.or_eq_true,beq_iff_eq,beq_iff_eq] at c2
     rcases c2 with c2 | c2
     ·subst c2;simp
     ·have z:i.cps.toList=[]:=List.length_eq_zero_iff.mp (by simpa [Str.length] using c2)
      have z':i.cps=#[]:=by
       have:=congrArg List.toArray z
       simpa using this
      rw [z]
      have:(List.replicate j.toNat ([]:List Nat)).flatten=[]:=by simp
      rw [this,<- z']
    rw [e] at q
    exact ⟨.str i,H,I,⟨_,rfl⟩,q⟩
   ·rw [if_neg c2]
    have e:repS i j=⟨(List.replicate j.toNat i.cps).foldl (·++·) #[]⟩:=by
     unfold repS
     rw [zeW];simp
    rw [e] at q
    refine ⟨?_,.str _,H,I.tok _,⟨_,rfl⟩,q⟩
    have:=bnd j.toNat (by lia)
    show (⟨(List.replicate j.toNat i.cps).foldl (·++·) #[]⟩:Str).length<=sizeLine
    rw [<- e]
    unfold repS Str.length
    rw [List.size_toArray,List.length_flatten,List.map_replicate,List.sum_replicate_nat,Array.length_toList]
    have e3:sizeLine=16777216:=rfl
    have e4:j.toNat*i.cps.size=i.length*j.toNat:=by rw [Nat.mul_comm];rfl
    lia
def ziP:G2
 | .int i,.int j,R=>CMul i j/\R (.int (i*j))
 | .str i,.int j,R=>-100000<=j/\j<=100000/\i.length<=100/\R (.str (repS i j))
 | _,_,_=>False
theorem zj9:OpR X (binaryOp .Mult) (fun x y H Q=>(rI CMul fun i j=>.int (i*j)) x y H Q\/∃ i j,x=.str i/\y=.int j/\-100000<=j/\j<=100000/\i.length<=100/\Q (.str (repS i j)) H):=OpR.or zbL zj8
theorem zkF:Gp2 X (fun x y H Q=>(rI CMul fun i j=>.int (i*j)) x y H Q\/∃ i j,x=.str i/\y=.int j/\-100000<=j/\j<=100000/\i.length<=100/\Q (.str (repS i j)) H) ziP:=by
 intro hd O H x y t u Q R dom rx ry g hq
 unfold ziP at g
 split at g
 ·rw [rx.intI,ry.intI]
  exact .inl ⟨_,_,rfl,rfl,g.1,hq _ _ H g.2 (Same.refl _) (.int _)⟩
 ·rw [rx.strI,ry.intI]
  exact .inr ⟨_,_,rfl,rfl,g.1,g.2.1,g.2.2.1,hq _ _ H g.2.2.2 (Same.refl _) (.str _)⟩
 ·exact g.elim
theorem zkK (ha:DL X a da) (hb:DL X b db):DE X (.BinOp a .Mult b pos) (dOp ziP da db):=zfF zj9 zkF ha hb
end
def Its (z:Str):It:=⟨fun i _=>i<z.cps.size,fun i H x H'=>H'=H/\∃ c,z.cps[i]?=some c/\x=.str ⟨#[c]⟩,fun i _=>z.cps.size<=i⟩
theorem zin {P:Program}{w:World}{K:PySem.W.Frag}{tg:Expr} (z:Str) (t:Tok) (it:Addr) (T:String) (hT:T = "str_ascii_iterator" \/ T = "str_iterator"):Turn P w K tg (Its z) [it] it (fun i h=>h.IsStrIter it T z t i) where
 mem:=by simp
 obj:=fun i h st b hb=>by
  have e:b=it:=by simpa using hb
  subst e
  obtain ⟨o,e,c,d⟩:=st
  exact ⟨o,e,fun v z=>by rw [d] at z;cases z⟩
 keep:=fun i h h' st k=>by
  obtain ⟨o,e,r⟩:=st
  exact ⟨o,k it (by simp) o e,r⟩
 item:=by
  intro X hP hw hK hc i pins s σ H E I hf st hg
  subst hP hw hK
  obtain ⟨f0,f1,f2,f3,f4,f5⟩:=hf it (by simp)
  have hg:i<z.cps.size:=hg
  have ec:z.cps[i]?=some z.cps[i]:=by simp [hg]
  have fin:∀ h',h'.IsStrIter it T z t (i+1)->Heap.SameBut it s.heap h'->∃ u,some (Value.str ⟨#[z.cps[i]]⟩ s.toks)=some u /\
    wpAny (model X.prog X.w) X.A (letOwnedTupleGo tg (.ref it) u) (fun _ s2=>∃ x H',Inv X pins σ H' s2/\RelV x u/\(Its z).yld i H x H'/\s2.heap.IsStrIter it T z t (i+1)/\∀ b∈[it],H' b=none) E { s with heap:=h',toks:=s.toks+1 }:=by
   intro h' st' sb
   have I1:Inv X pins σ H { s with heap:=h',toks:=s.toks+1 }:=I.turned (t':=s.toks+1) (fun b o hb e=>(sb.2 b hb).trans e) f0 f1 f3 f4 f5
   obtain ⟨o,e,c,d⟩:=id st'
   have ne:(T = "enumerate")=False:=by rcases hT with rfl | rfl <;> decide
   refine ⟨_,rfl,zi4 (s:={ s with heap:=h',toks:=s.toks+1 }) (n:=T) e c d (by rcases hT with rfl | rfl <;> decide) ⟨.str ⟨#[z.cps[i]]⟩,H,I1,⟨_,rfl⟩,⟨rfl,_,ec,rfl⟩,st',fun b hb=>(hf b hb).1⟩⟩
  rcases hT with rfl | rfl
  ·exact wpAny_pyNext_ascii_item st ec fin
  ·exact wpAny_pyNext_wide_item st ec fin
 done:=by
  intro X hP hw hK hc i pins s σ H E I hf st hg
  subst hP hw hK
  obtain ⟨f0,f1,f2,f3,f4,f5⟩:=hf it (by simp)
  have hg:z.cps.size<=i:=hg
  have ec:z.cps[i]?=none:=by simp [hg]
  rcases hT with rfl | rfl
  ·exact wpAny_pyNext_ascii_end (I.ok.hd hc) st ec fun h' eb=>⟨rfl,I.turned (t':=s.toks) (fun b o hb e=>eb b o hb e) f0 f1 f3 f4 f5⟩
  ·exact wpAny_pyNext_wide_end (I.ok.hd hc) st ec fun h' eb=>⟨rfl,I.turned (t':=s.toks) (fun b o hb e=>eb b o hb e) f0 f1 f3 f4 f5⟩
 self:=fun _ _ _ _ _ st h=>by
  rcases hT with rfl | rfl
  ·exact wpAny_pyIter_striter_ascii st h
  ·exact wpAny_pyIter_striter_wide st h
section
variable {X:Cx}{tg iter:Expr}{d:DTE}
def iStr (tl:TE):TI:=fun σ H R=>tl σ H fun x H1=>∃ z,x=.str z/\R (Its z) H1
theorem zlD {l:Expr}{tl:TE} (hl:PE X l tl):PI X tg l (iStr tl):=by
 intro pins s σ H R I h
 refine thn (hl pins s σ H _ I h) fun v s1 ⟨x,H1,I1,r1,q1⟩=>?_
 obtain ⟨z,rfl,q⟩:=q1
 obtain ⟨t,rfl⟩:=r1
 have key:∀ T,(T = "str_ascii_iterator" \/ T = "str_iterator")->PIE X pins σ tg R (.ref s1.heap.objs.size) { s1 with heap:=s1.heap.push { cls:=.type T,data:=.fields #[.str z t,.int 0 0] } }:=by
  intro T hT
  refine ⟨s1.heap.objs.size,[s1.heap.objs.size],_,_,H1,rfl,I1.kept (t':=s1.toks) fun b o e=>Heap.get?_push_of_some _ e,zin z t _ T hT,⟨_,Heap.get?_push_size _ rfl,rfl,rfl⟩,fun b hb=>?_,q⟩
  have e:b=s1.heap.objs.size:=by simpa using hb
  subst e
  exact I1.fpOk (Nat.le_refl _) (I1.hok.fresh (Nat.le_refl _))
 cases ha:z.cps.all (·<128)
 ·exact wpAny_pyIter_wide ha (key _ (.inr rfl))
 ·exact wpAny_pyIter_ascii ha (key _ (.inl rfl))
def sgnD (z:Str):List PyData:=z.cps.toList.map fun c=>.str ⟨#[c]⟩
theorem zmw {K:PySem.W.Frag}{hd:Option Addr}{P O:Addr->Prop}{H:Hp}{z:Str}:ItOk K hd P O H (Its z) (sgnD z):=by
 intro O2 H2 _ _ _
 have sz:z.cps.toList.length=z.cps.size:=by simp
 refine ⟨fun i t et=>?_,by show z.cps.size<=(sgnD z).length;unfold sgnD;rw [List.length_map];lia⟩
 unfold sgnD at et
 rw [List.getElem?_map] at et
 cases ec:z.cps.toList[i]? with
 | none=>rw [ec] at et;cases et
 | some c =>
  rw [ec] at et
  cases et
  obtain ⟨hi,ec2⟩:=List.getElem?_eq_some_iff.mp ec
  have hi':i<z.cps.size:=by lia
  have ec3:z.cps[i]?=some c:=by rw [<- Array.getElem?_toList];exact ec
  refine ⟨hi',fun x H3 hy=>?_⟩
  obtain ⟨rfl,c',e',rfl⟩:=hy
  rw [ec3] at e'
  cases e'
  exact ⟨Same.refl _,.str _⟩
def lStr:PyData->(Str->Prop)->Prop
 | .str z,R=>R z
 | _,_=>False
def dItS (d:DTE):DTA:=fun ρ n R=>d ρ n fun t n'=>lStr t fun z=>R (sgnD z) n'
theorem zm0 (h:DE X iter d):DI X tg iter (dItS d):=by
 obtain ⟨ta,pa,h⟩:=h
 refine ⟨_,zlD pa,fun C ρ σ H n Q R S hd hq=>?_⟩
 refine h C ρ σ H n _ _ S hd fun t n' v H' r e1 hn q=>?_
 cases t with
 | str z =>
  rw [q.strI]
  exact ⟨z,rfl,hq _ n' _ H' r e1 hn zmw⟩
 | _=>exact r.elim
end
end L2
namespace L2
open PySem PySem.Spec PyProof.Rows
section
variable {ρ:En}{n:Nat}{d da db:DTE}{dlo dhi:DTO}{R:PyData->Nat->Prop}{Rl:List PyData->Nat->Prop}{Q:PyData->Prop}{xs:List PyData}{lo hi:Option Int}{x:Str}{i j:Int}{Ql:List PyData->Prop}
instance zpo:Stp (dSlA d dlo dhi ρ n R) (d ρ n fun t n1=>dlo ρ n1 fun lo n2=>dhi ρ n2 fun hi n3=>oSlA t lo hi fun z=>R z n3):=⟨fun h=>h⟩
instance zo8:Stp (oSlA (.tuple xs) lo hi Q) (Q (.tuple (cutD xs lo hi))):=⟨fun h=>h⟩
instance zo9:Stp (oSlA (.str x) lo hi Q) (x.length<=16777216/\Q (.str (cutS x lo hi))):=⟨fun h=>h⟩
instance zpb:Stp (ziP (.str x) (.int j) Q) (-100000<=j/\j<=100000/\x.length<=100/\Q (.str (repS x j))):=⟨fun h=>h⟩
instance zpp:Stp (dItS d ρ n Rl) (d ρ n fun t n'=>lStr t fun z=>Rl (sgnD z) n'):=⟨fun h=>h⟩
instance zpc {Rs:Str->Prop}:Stp (lStr (.str x) Rs) (Rs x):=⟨fun h=>h⟩
end
end L2
namespace L2
open PySem PySem.Spec PyProof.Rows
mutual
def plnD:PyData->Bool
 | .dict []=>true
 | .dict _=>false
 | .tuple ts=>decide (ts.length<=1000000)&&zgu ts
 | .list ts=>decide (ts.length<=1000000)&&zgu ts
 | .str x=>decide (x.length<=1000000)
 | _=>true
def zgu:List PyData->Bool
 | []=>true
 | t::ts=>plnD t&&zgu ts
end
def PlnD (d:PyData):Prop:=plnD d=true
theorem zbZ:∀ {ts:List PyData},zgu ts=true↔∀ t∈ts,PlnD t
 | []=>by simp [zgu]
 | t::ts=>by
  rw [zgu,Bool.and_eq_true,zbZ (ts:=ts)]
  constructor
  ·rintro ⟨a,b⟩ u hu
   rcases List.mem_cons.mp hu with rfl | hu
   ·exact a
   ·exact b u hu
  ·intro h
   exact ⟨h t (by simp),fun u hu=>h u (by simp [hu])⟩
theorem PlnD.tup {ts:List PyData} (h:PlnD (.tuple ts)):ts.length<=1000000/\∀ t∈ts,PlnD t:=by
 unfold PlnD plnD at h
 rw [Bool.and_eq_true,decide_eq_true_iff,zbZ] at h
 exact h
theorem PlnD.str {x:Str} (h:PlnD (.str x)):x.length<=1000000:=by
 unfold PlnD plnD at h
 exact decide_eq_true_iff.mp h
theorem zav {ts:List PyData} (l:ts.length<=1000000) (h:∀ t∈ts,PlnD t):PlnD (.tuple ts):=by
 unfold PlnD plnD
 rw [Bool.and_eq_true,decide_eq_true_iff,zbZ]
 exact ⟨l,h⟩
theorem zf4 {ts:List PyData} (l:ts.length<=1000000) (h:∀ t∈ts,PlnD t):PlnD (.list ts):=by
 unfold PlnD plnD
 rw [Bool.and_eq_true,decide_eq_true_iff,zbZ]
 exact ⟨l,h⟩
theorem zaZ {x:Str} (h:x.length<=1000000):PlnD (.str x):=by unfold PlnD plnD;exact decide_eq_true h
theorem zai {i:Int}:PlnD (.int i):=by unfold PlnD plnD;rfl
theorem zcV {i:Bool}:PlnD (.bool i):=by unfold PlnD plnD;rfl
theorem zef:PlnD .none:=by unfold PlnD plnD;rfl
theorem zg2:PlnD (.dict []):=by unfold PlnD plnD;rfl
theorem zaB:∀ t∈([]:List PyData),PlnD t:=fun t h=>nomatch h
theorem zak {x:PyData}{xs:List PyData} (h:PlnD x) (h':∀ t∈xs,PlnD t):∀ t∈x::xs,PlnD t:=fun t ht=>by
 rcases List.mem_cons.mp ht with rfl | ht
 ·exact h
 ·exact h' t ht
theorem zcB {xs ys:List PyData} (h:∀ t∈xs,PlnD t) (h':∀ t∈ys,PlnD t):∀ t∈xs++ys,PlnD t:=fun t ht=>by
 rcases List.mem_append.mp ht with ht | ht
 ·exact h t ht
 ·exact h' t ht
theorem PlnD.pln {d:PyData} (h:PlnD d):Pln d:=by
 cases d with
 | dict ks =>
  cases ks with
  | nil=>exact zbe
  | cons a b=>cases a with | mk x y=>simp [PlnD,plnD] at h
 | none=>exact zbc
 | bool=>exact zaY
 | int=>exact zbm
 | str=>exact zbu
 | list=>exact zbd
 | tuple=>exact zaW
def IsNm (s:Str):Prop:=1<=s.length/\s.length<=8/\∀ c∈s.cps.toList,97<=c/\c<=122
def nmS (s:Str):Bool:=decide (1<=s.length)&&decide (s.length<=8)&&s.cps.toList.all fun c=>decide (97<=c)&&decide (c<=122)
theorem zki {s:Str}:nmS s=true↔IsNm s:=by
 unfold nmS IsNm
 simp only [Bool.and_eq_true,decide_eq_true_iff,List.all_eq_true,and_assoc]
def nmD:PyData->Bool
 | .str s=>nmS s
 | _=>false
theorem zaR (s:Str):s.cps.toList.length=s.length:=by simp [Str.length]
theorem zhb {a b:Nat}:(([a]:List Nat)<[b])↔a<b:=by
 constructor
 ·intro h
  cases h with
  | rel h=>exact h
  | cons h=>cases h
 ·intro h
  exact .rel h
theorem zkk {a c:Nat}:(!decide (([c]:List Nat)<[a]))=decide (a<=c):=by
 rw [<- decide_not]
 exact decide_eq_decide.mpr (by rw [zhb];lia)
theorem zfO (a b:Str):(a++b).cps.toList=a.cps.toList++b.cps.toList:=by
 show (a.cps++b.cps).toList=_
 simp
theorem Str.ext' {a b:Str} (h:a.cps.toList=b.cps.toList):a=b:=by
 cases a with | mk a =>
 cases b with | mk b =>
 have:a=b:=Array.toList_inj.mp h
 rw [this]
theorem zmk {x:Str}{i:Int}{k c:Nat}{R:PyData->Prop} (hl:x.length<=16777216) (hi:i=(k:Int)) (e:x.cps.toList[k]?=some c) (h:R (.str ⟨#[c]⟩)):oIx (.str x) (.int i) R:=by
 subst hi
 have a:atI x.cps.toList (k:Int)=some c:=Bd.zfM (by lia) (by simpa using e)
 show x.length<=16777216/\(match atI x.cps.toList (k:Int) with | some c=>R (.str ⟨#[c]⟩) | none=>False)
 rw [a]
 exact ⟨hl,h⟩
theorem letters {k:Nat} (h:k<26):(Str.ofString "abcdefghijklmnopqrstuvwxyz").cps.toList[k]?=some (97+k):=by
 have:∀ i:Fin 26,(Str.ofString "abcdefghijklmnopqrstuvwxyz").cps.toList[i.val]?=some (97+i.val):=by decide +kernel
 exact this ⟨k,h⟩
theorem zc6 {x:Str}{i:Int}{k:Nat} (h:i=(k:Int)):(cutS x none (some i)).cps.toList=x.cps.toList.take k:=by
 subst h
 unfold cutS
 rw [HT.zcA,HT.zdz]
 simp only [List.drop_zero,Nat.sub_zero]
 rw [<- zaR x]
 simp [List.take_eq_take_iff]
theorem zeZ {x:Str}{i:Int}{k:Nat} (h:i=(k:Int)) (hk:k<=x.length):(cutS x (some i) none).cps.toList=x.cps.toList.drop k:=by
 subst h
 unfold cutS
 rw [HT.zcA,HT.zdz,Nat.min_eq_left hk]
 show (List.take _ (List.drop k x.cps.toList))=_
 rw [List.take_of_length_le (by rw [List.length_drop,zaR];lia)]
theorem ziz {x:Str}{n:Int}:(repS x n).cps.toList=(List.replicate n.toNat x.cps.toList).flatten:=rfl
end L2
namespace L2
open PySem PySem.Spec PyProof.Rows
abbrev Run:=Int×Int
end L2
namespace L2
open PySem PySem.Spec PyProof.Rows
theorem zhT {ts:List PyData}{i:Int}{k:Nat} (h:i=(k:Int)):cutD ts none (some i)=ts.take k:=by
 subst h
 unfold cutD
 rw [HT.zcA,HT.zdz]
 simp [List.take_eq_take_iff]
theorem zhU {ts:List PyData}{i:Int}{k:Nat} (h:i=(k:Int)) (hk:k<=ts.length):cutD ts (some i) none=ts.drop k:=by
 subst h
 unfold cutD
 rw [HT.zcA,HT.zdz,Nat.min_eq_left hk,List.take_of_length_le (by simp)]
end L2
namespace L2
open PySem Bd
variable {as bs cs:List Run}{a b:Nat}
end L2
namespace L2
open PySem PySem.Spec PyProof.Rows
abbrev KT (H:Hp):List (List Key×V)->List (List Key×Addr×Value)->Prop:=Paired fun p q=>p.1=q.1/\H q.2.1=some (.tup (p.1.map kV))/\RelV p.2 q.2.2
def NoSl (i:Expr):Prop:=∀ ov iv,subscripted i false ov iv=operate [ov,iv] (getItem ov iv)
theorem zjH {prog:Program}{w:World}{A:Around}{E:Value->Shared->Prop}{s:Shared}{env:Env}{value slice:Expr}{pos:Pos}{T id:String}{Q:Value->Shared->Prop}
  (hl:typeLookup (.type T) "__getitem__" = pure (some (.builtin id))) (hs:NoSl slice)
  (h:wpAny (model prog w) A (eval value env) (fun o s₁=>wpAny (model prog w) A (eval slice env) (fun i s₂=>s₂.TypeIs o T/\wpAny (model prog w) A (getItem o i) Q E s₂) E s₁) E s) :
  wpAny (model prog w) A (eval (.Subscript value slice pos) env) Q E s:=by
 refine Subscript_ (wpAny_mono h (fun o s₁ h₁=>wpAny_mono h₁ (fun i s₂ h₂=>?_) fun _ _ x=>x) fun _ _ x=>x)
 obtain ⟨hT,h₂⟩:=h₂
 unfold subscriptTail
 refine wpAny_bind ?_
 rw [getitemInPython_of_ne hT.not_modules]
 refine wpAny_bind (wpAny_specialOf hT hl ?_)
 have fin:wpAny (model prog w) A (subscripted slice false o i) (fun r s₃=>wpAny (model prog w) A (letTemporaryGo value o r >>= fun _=>pure r) Q E s₃) E s₂:=by
  rw [hs o i]
  exact wpAny_operating (wpAny_mono h₂ (fun r s₃ h₃=>wpAny_bind (wpAny_letTemporaryGo (wpAny_pure h₃))) fun _ _ x=>x)
 first
  | exact wpAny_pure (wpAny_bind fin)
  | exact wpAny_bind (wpAny_pure (wpAny_bind fin))
  | exact wpAny_bind fin
end L2
namespace L2
open PySem PySem.Spec PyProof PyProof.Rows
abbrev KD:=List (Key×PyData)
section
variable {D:DEnds}{ρ ρ':En}{n i j:Nat}{d dk dv:DTE}{R:PyData->Nat->Prop}{ks:KD}
instance {ks:KD}:CapC (some (.dct ks)) (some (.rdo ks)):=⟨rfl⟩
instance {ks:KD}:CapC (some (.rdo ks)) (some (.rdo ks)):=⟨rfl⟩
end
end L2
namespace Bd
open PySem L2
theorem zgl {ts:List PyData}{lo hi:Option Int}{t:PyData} (h:t∈cutD ts lo hi):t∈ts:=by
 unfold cutD at h
 exact List.mem_of_mem_drop (List.mem_of_mem_take h)
theorem zcF {ts:List PyData}{lo hi:Option Int}:(cutD ts lo hi).length<=ts.length:=by
 unfold cutD
 rw [List.length_take,List.length_drop]
 lia
end Bd
namespace Bd
open PySem L2
def Dq (K:PySem.W.Frag) (mg:Str->Option Value) (x:Str) (st:Stmt) (ps:List Str):Prop:=∃ f fd,Def K mg x st ps f fd
def Fq (P:Program) (w:World) (K:PySem.W.Frag) (mg:Str->Option Value) (base:Heap) (x:Str) (st:Stmt) (ps:List Str) (k:Nat) (sp:Sp):Prop:=∃ f fd,Def K mg x st ps f fd/\FnOk P w K mg base CX0 k f fd ps sp
end Bd
namespace L2
open PySem PySem.Spec PyProof.Rows
section
variable {X:Cx}{x:Str}{st:Stmt}{ps:List Str}{k n m:Nat}{g:GD}{e:Expr}{es:List Expr}{ds:DTA}{p pos:Pos}
theorem zaN (F:Bd.Fq X.prog X.w X.K X.mg X.base x st ps k (spD X.K m g)) (hr:Room n X.A) (h:DB X (e::es) ds) (hk:k<=n:=by decide) (hm:(e::es).length=m:=by rfl) (hg:Gl X x:=by rfl)
  (hdb:(x == ("__debug__":Str))=false:=by decide):DE X (.Call (.Name x p) (e::es) [] pos) (dFn g ds):=by
 obtain ⟨f,fd,D,G⟩:=F
 exact zo4 D G (hr.mono hk) h hm hg hdb
end
section
variable {X:Cx}{hx s kx x:Str}{st:Stmt}{ps:List Str}{k n:Nat}{p p1 p2 p3 pos pos':Pos}{sts:List Stmt}{u:DTS}
theorem zhJ {i j:Nat} (F:Bd.Fq X.prog X.w X.K X.mg X.base hx st ps k (zfY X.K)) (hr:Room n X.A) (hN:X.N.Nodup) (hi:X.N[i]?=some x) (hlx:Loc X.env.scope x) (hu:DSs X sts u) (hk:k<=n:=by decide) (hij:i≠0:=by decide) (hj0:j≠0:=by decide) (hji:j≠i:=by decide)
  (h0:X.N[0]?=some s:=by rfl) (hj:X.N[j]?=some kx:=by rfl) (hv0:Vis X.env.scope s:=by first | exact Or.inl rfl | exact Or.inr (Or.inl rfl) | exact Or.inr (Or.inr rfl)) (hvj:Vis X.env.scope kx:=by first | exact Or.inl rfl | exact Or.inr (Or.inl rfl) | exact Or.inr (Or.inr rfl))
  (hd0:(s == ("__debug__":Str))=false:=by decide) (hcd0:(s == ("__classdict__":Str))=false:=by decide) (hdj:(kx == ("__debug__":Str))=false:=by decide) (hcdj:(kx == ("__classdict__":Str))=false:=by decide) (hg:Gl X hx:=by rfl) (hdb:(hx == ("__debug__":Str))=false:=by decide)
  (hs:swapsWith (.Call (.Name hx p) [.Name s p1,.Name kx p2] [] p3) (some (.Name x pos')) pos.line X.env=pure false:=by rfl) (hf:X.fn x=true\/X.env.scope.names.lookup x=some .local:=by first | exact .inl rfl | exact .inr rfl | assumption) :
  DSs X (.Assign [.Name x pos'] (.Call (.Name hx p) [.Name s p1,.Name kx p2] [] p3) pos::sts) (zgt i j u):=by
 obtain ⟨f,fd,D,G⟩:=F
 exact zi8 D G (hr.mono hk) hN hi hlx hu hij hj0 hji h0 hj hv0 hvj hd0 hcd0 hdj hcdj hg hdb hs hf
end
end L2
namespace Bd
open PySem L2
section
variable {K:PySem.W.Frag}{h:Heap}{mg:Str->Option Value}{x:Str}{st:Stmt}{ps:List Str}
theorem zjy {f:Addr}{oc:Value}{od an:Option Addr}{osl:Array (Option Value)}{kV doc pm cdv ct:Value} (X:K.In h) (G:h.Ns mainGlobals mg)
  (a:PySem.W.nsIn K mainGlobals x=some (some (.ref f))) (l:K.lookup f=some ⟨oc,od,.func (PySem.W.fnOf x x (zba st) (zaU st) (zah st) .none kV doc pm an cdv ct),osl⟩) (c:PySem.W.codeIn K cdv x=true) (k:PySem.W.keepIn K (.ref f)=true)
  (hb:∀ (kV doc pm:Value) (an:Option Addr) (cdv ct:Value) (us:List Value),us.length=ps.length->bindArgs (PySem.W.fnOf x x (zba st) (zaU st) (zah st) .none kV doc pm an cdv ct) ⟨us,[]⟩=pure (ps.zip us)) :
  Def K mg x st ps f (PySem.W.fnOf x x (zba st) (zaU st) (zah st) .none kV doc pm an cdv ct):=⟨zju l c k,(zju l c k).binds hb,PySem.W.mg_of X G a⟩
structure DA (K:PySem.W.Frag) (x:Str) (st:Stmt) (f:Addr) (oc kV dc pm cd ct:Value) (od an:Option Addr) (sl:Array (Option Value)):Prop where
 a:PySem.W.nsIn K mainGlobals x=some (some (.ref f))
 l:K.lookup f=some ⟨oc,od,.func (PySem.W.fnOf x x (zba st) (zaU st) (zah st) .none kV dc pm an cd ct),sl⟩
 c:PySem.W.codeIn K cd x=true
 k:PySem.W.keepIn K (.ref f)=true
def DAq (K:PySem.W.Frag) (x:Str) (st:Stmt):Prop:=∃ f oc kV dc pm cd ct od an sl,DA K x st f oc kV dc pm cd ct od an sl
theorem daq {f:Addr}{oc kV dc pm cd ct:Value}{od an:Option Addr}{sl:Array (Option Value)} (a:PySem.W.nsIn K mainGlobals x=some (some (.ref f)))
  (l:K.lookup f=some ⟨oc,od,.func (PySem.W.fnOf x x (zba st) (zaU st) (zah st) .none kV dc pm an cd ct),sl⟩) (c:PySem.W.codeIn K cd x=true) (k:PySem.W.keepIn K (.ref f)=true):DAq K x st:=⟨_,_,_,_,_,_,_,_,_,_,a,l,c,k⟩
abbrev BndA (x:Str) (st:Stmt) (ps:List Str):Prop:=∀ (kV doc pm:Value) (an:Option Addr) (cdv ct:Value) (us:List Value),us.length=ps.length->bindArgs (PySem.W.fnOf x x (zba st) (zaU st) (zah st) .none kV doc pm an cdv ct) ⟨us,[]⟩=pure (ps.zip us)
theorem zbJ (X:K.In h) (G:h.Ns mainGlobals mg) (e:DAq K x st) (hb:BndA x st ps):Dq K mg x st ps:=by
 obtain ⟨f,oc,kV,dc,pm,cd,ct,od,an,sl,e⟩:=e
 exact ⟨f,_,zjy X G e.a e.l e.c e.k hb⟩
theorem len1:∀ {us:List Value},us.length=1->∃ a,us=[a]
 | [a],_=>⟨a,rfl⟩
theorem len2:∀ {us:List Value},us.length=2->∃ a b,us=[a,b]
 | [a,b],_=>⟨a,b,rfl⟩
theorem len3:∀ {us:List Value},us.length=3->∃ a b c,us=[a,b,c]
 | [a,b,c],_=>⟨a,b,c,rfl⟩
end
theorem walk {lw:PySem.W.OpenLaw}{q:Program}{loose:List Str}{XP:(Str->Option Value)->Heap->Prop}{YP:World->Heap->Prop}{d:DefRec}{K:Params->PySem.W.Frag}{k:Nat} (hk:k<=60) (hn:lw.most=some 63) (hdf:d.params.defaults=[])
  (hY:∀ (w:World) (h:Heap),YP w h->(K w.params).In h)
  (F:∀ (w:World) (mg:Str->Option Value) (fa:Addr) (h:Heap),(K w.params).In h->h.Ns mainGlobals mg->mg d.name=some (.ref fa) ->
   ∃ fd:FuncData,(∀ (s:Shared) (u:Value),BindsTo s fd ⟨[u],[]⟩ [("_law_script",u)])/\∀ base:Heap,(K w.params).In base->base.Ns mainGlobals mg->FnOk lw.prog w (K w.params) mg base CX0 k fa fd ["_law_script"] (ziq (K w.params))) :
  PySem.W.WalkO q loose XP YP lw.row.toRowW d [] (fun f vs=>PySem.call f vs) :=
 L2.zjD (n:=63) (k:=k) (x:="_law_script") (CX:=fun _=>CX0) (sp:=fun w=>ziq (K w.params)) hn (by decide) hdf ((show Room 60 callerA from ⟨rfl,by decide,by decide,rfl⟩).mono hk) hY F (fun _ _ a ns hl _ hS=>⟨a,ns,rfl,hS,hl,fun _=>rfl⟩) fun _ _ _ _ _ z=>z
end Bd
namespace Bd
open PySem L2
open Builtin Builtin.Str
end Bd
namespace L2
open PySem PySem.Spec PyProof PyProof.Rows
section
variable {prog:Program}{w:World}{A:Around}{E:Value->Shared->Prop}{s:Shared}
theorem zfy {l:Addr}{items:Array Value}{Q:List Value->Shared->Prop} (hl:IsTup s.heap l items) (hh:A.handled=none) (h2:2<=items.size) (hz:items.size<=sizeLine)
  (h:∀ (h':Heap) (tk:Nat),(∀ b o,s.heap.get? b=some o->h'.get? b=some o)->Q (items.toList.take 2++[.ref h'.objs.size]) { s with heap:=h'.push { cls:=.type "list",data:=.seq (items.toList.drop 2).toArray },toks:=tk }) :
  wpAny (model prog w) A (unpackItems (.ref l) 3 (some 2)) Q E s:=by
 have hlt:l≠s.heap.objs.size:=by obtain ⟨o,ho,_⟩:=hl;exact Nat.ne_of_lt (Heap.lt_size ho)
 unfold unpackItems
 refine wpAny_bind ?_
 unfold notIterableAtAll
 refine wpAny_bind (wpAny_specialOf hl.typeIs slot_tuple_iter.lookup (wpAny_pure ?_))
 simp only [Bool.false_eq_true,if_false]
 refine wpAny_bind (wpAny_holding (iter_tuple hl ?_))
 refine wpAny_bind (wpAny_holding (draw_tuple hlt 2 0 _ _ ⟨_,Heap.get?_push_size _ rfl,rfl,rfl⟩ (hl.push _) (by lia) fun h₁ hit hs=>?_))
 have hl₁:IsTup h₁ l items:=(hl.push _).extBut hs.extBut hlt
 have a1:∃ o,h₁.get? s.heap.objs.size=some o:=by obtain ⟨o,q,_⟩:=hit;exact ⟨o,q⟩
 have a2:∃ o,h₁.get? l=some o:=by obtain ⟨o,q,_⟩:=hl₁;exact ⟨o,q⟩
 obtain ⟨o1,a1⟩:=a1
 obtain ⟨o2,a2⟩:=a2
 rw [List.drop_zero]
 have fl:(items.toList.take 2).length=2:=by rw [List.length_take,Array.length_toList];lia
 rw [if_neg (show ¬((items.toList.take 2).length<2) by lia)]
 refine wpAny_bind (wpAny_holding (PySem.W.kun_collect (s:={ s with heap:=h₁ }) (T:="tuple_iterator") (.inr (.inr (.inr rfl))) (Walks.tuple (A:=A.in1) hh s.heap.objs.size l hlt items) (fun j u st=>st.1.typeIs) (k:=2) h2 ⟨hit,hl₁⟩ (Heap.lt_size a1) (Heap.lt_size a2) (fun h₂ tk hk=>?_) hz))
 rw [if_neg (by lia)]
 show wpAny _ _ (newList ((items.toList.drop 2).take ((items.toList.drop 2).length - (3 - 1 - 2))) >>= fun d=>pure (items.toList.take 2++[d]++(items.toList.drop 2).drop ((items.toList.drop 2).length - (3 - 1 - 2)))) _ _ _
 have e1:(items.toList.drop 2).take ((items.toList.drop 2).length - (3 - 1 - 2))=items.toList.drop 2:=List.take_of_length_le (by lia)
 have e2:(items.toList.drop 2).drop ((items.toList.drop 2).length - (3 - 1 - 2))=[]:=List.drop_of_length_le (by lia)
 rw [e1,e2]
 refine wpAny_bind (wpAny_newList (wpAny_pure ?_) (by rw [List.length_drop,Array.length_toList];lia))
 rw [List.append_nil]
 exact h h₂ tk fun b o q=>hk b o (Nat.ne_of_lt (Heap.lt_size q)) (hs.extBut b o (Nat.ne_of_lt (Heap.lt_size q)) (Heap.get?_push_of_some _ q))
end
theorem zj4 {xs:List V}{us:List Value} (r:Vals xs us):Vals (xs.drop 2) (us.drop 2):=by
 cases r with
 | nil=>exact .nil
 | cons _ r=>cases r with
  | nil=>exact .nil
  | cons _ r=>exact r
theorem zj3 {xs:List V}{us:List Value}{v:V}{u:Value} (r:Vals xs us) (q:RelV v u):Vals (xs.take 2++[v]) (us.take 2++[u]):=by
 cases r with
 | nil=>exact .cons q .nil
 | cons a r=>cases r with
  | nil=>exact .cons a (.cons q .nil)
  | cons b r=>exact .cons a (.cons b (.cons q .nil))
section
variable {X:Cx}{a b c e:Expr}{pos p3:Pos}{t:TGs}{te:TE}
def zo1 (K:PySem.W.Frag) (t:TGs):TG:=fun v σ H Q=>∃ a xs,v=.ref a/\SqT K H a xs/\2<=xs.length/\∀ p,H p=none->t (xs.take 2++[.ref p]) σ (upd H p (.lst (xs.drop 2))) Q
theorem zjX {k:Nat} (hc:X.calm=true) (h:PGs X [a,b,c] t) (hn:(assignEach [a,b,.Starred c p3] X.env).length=3:=by rfl) (hst:(assignEach [a,b,.Starred c p3] X.env).findIdx? (·.1)=some 2:=by rfl)
  (hm:(assignEach [a,b,.Starred c p3] X.env).map (·.2)=(assignEach [a,b,c] X.env).map (·.2):=by rfl):PG X (.Tuple [a,b,.Starred c p3] k pos) (zo1 X.K t):=by
 intro pins s σ H v u Q I r hw
 obtain ⟨q,xs,rfl,hq,hl,hw⟩:=hw
 cases r
 obtain ⟨its,rv,ht,hz⟩:=I.tuple hq
 have le:=rv.length
 rw [assign_Tuple]
 refine wpAny_bind (wpAny_standAt ?_)
 unfold unpack
 rw [hn,hst,hm]
 refine wpAny_bind (wpAny_holding (zfy ht (I.ok.hd hc) (by rw [List.size_toArray];lia) (by rw [List.size_toArray];lia) fun h' tk kp=>?_))
 have I1:Inv X pins σ H { s with heap:=h',toks:=tk }:=I.kept kp
 have I2:Inv X pins σ (upd H h'.objs.size (.lst (xs.drop 2))) { s with heap:=h'.push { cls:=.type "list",data:=.seq (its.drop 2).toArray },toks:=tk }:=I1.laid (t':=tk) (fun b o q=>Heap.get?_push_of_some _ q) (Nat.le_refl _) ⟨by rw [List.length_drop];lia,its.drop 2,0,zj4 rv,Heap.get?_push_size _ rfl⟩
 exact h pins _ σ _ _ _ Q I2 (zj3 rv (show RelV (.ref h'.objs.size) (.ref h'.objs.size) from rfl)) (hw _ (I1.hok.fresh (Nat.le_refl _)))
end
section
variable {X:Cx}{e:Expr}{x y z:Str}{pos px py pz p3 pt:Pos}{d:DTE}
def ziT (t:PyData) (Q:PyData->PyData->List PyData->Prop):Prop:=match t with
 | .tuple (x::y::r)=>Q x y r
 | _=>False
def zlo (i j k:Nat) (d:DTE):DTS:=fun D ρ n=>d ρ n fun t n'=>ziT t fun x y r=>SetK i (some (.val x)) (fun ρ1 n1=>SetK j (some (.val y)) (fun ρ1 n1=>SetK k (some (.val (.list r))) D.nx ρ1 n1) ρ1 n1) ρ n'
theorem zkH {i j k kt:Nat} (hc:X.calm=true) (hN:X.N.Nodup) (hi:X.N[i]?=some x) (hj:X.N[j]?=some y) (hk:X.N[k]?=some z) (hx:Loc X.env.scope x) (hy:Loc X.env.scope y) (hz:Loc X.env.scope z) (h:DE X e d)
  (fx:X.fn x=true\/X.env.scope.names.lookup x=some .local:=by first | exact .inl rfl | exact .inr rfl | assumption) (fy:X.fn y=true\/X.env.scope.names.lookup y=some .local:=by first | exact .inl rfl | exact .inr rfl | assumption) (fz:X.fn z=true\/X.env.scope.names.lookup z=some .local:=by first | exact .inl rfl | exact .inr rfl | assumption)
  (hs:swapsWithSole [.Tuple [.Name x px,.Name y py,.Starred (.Name z pz) p3] kt pt] e pos.line X.env=pure false:=by rfl) (hw:swappedStores [.Tuple [.Name x px,.Name y py,.Starred (.Name z pz) p3] kt pt] e X.env=pure none:=by rfl) :
  DS X (.Assign [.Tuple [.Name x px,.Name y py,.Starred (.Name z pz) p3] kt pt] e pos) (zlo i j k d):=by
 obtain ⟨ta,pa,h⟩:=h
 refine ⟨_,zf2 pa (zjX hc (zcC (zdD hN hi hx fx) (zcC (zdD hN hj hy fy) (zcC (zdD hN hk hz fz) zg4)))) hs hw,fun C ρ σ H n D D' S hd g=>?_⟩
 refine h C ρ σ H n _ _ S hd fun t n' v H1 r e1 hn q=>?_
 unfold ziT at r
 split at r
 ·rename_i u w us
  obtain ⟨p,vs,rfl,h1,h2⟩:=q.tupI
  cases h2 with
  | cons ru h2 =>
   cases h2 with
   | @cons v2 d2 vr ds2 rw rs =>
    refine ⟨p,_,rfl,h1,by simp,fun q hq=>?_⟩
    have e2:ExtE C.hd H1 (upd H1 q (.lst vr)):=ExtE.new hq
    have S1:=S.on e1 hn
    have S2:=S1.on e2 (hn.same (zaG hq))
    have r3:Rep X.K C.hd (Own C ρ σ) _ (.ref q) (.list us):=.lst zax (S1.free hq) (e2.reps S.hx rs)
    have T1:=S2.put (i:=i) (e2.rep S.hx ru)
    have T2:=T1.put (i:=j) (Keep.rep zbf S.hx (e2.rep S.hx rw))
    have T3:=T2.put (i:=k) (Keep.rep (zbf.trans zbf) S.hx r3)
    exact ⟨_,_,rfl,_,_,rfl,_,_,rfl,rfl,g.nx _ _ _ n' r T3 ((e1.keep.trans e2.keep).trans ((zbf.trans zbf).trans zbf))⟩
 ·exact r.elim
end
def StD (P:Program) (w:World) (K:PySem.W.Frag) (mg:Str->Option Value) (x:Str) (kvs:List (Str×List Str)):Prop :=
 ∃ (a:Addr) (o:Obj) (es:Array DictEntry) (ep:Nat) (vs:List (Str×Value)),mg x=some (.ref a)/\(a == sysModules)=false/\K.lookup a=some o/\o.ExactDict/\o.data=.dict es ep/\KeysOf (strKind P w) es/\Pairs (strKind P w) es.toList vs/\(vs.map (·.1)).Nodup /\
  Paired (fun (p:Str×List Str) (q:Str×Value)=>p.1=q.1/\∃ b,q.2=.ref b/\StT K b (p.2.map V.str)) kvs vs
def getT (kvs:List (Str×List Str)) (z:Str):Option (List Str):=(kvs.find? fun kv=>decide (kv.1=z)).map (·.2)
theorem zi5 {K:PySem.W.Frag}{kvs:List (Str×List Str)}{vs:List (Str×Value)} (r:Paired (fun (p:Str×List Str) (q:Str×Value)=>p.1=q.1/\∃ b,q.2=.ref b/\StT K b (p.2.map V.str)) kvs vs) (z:Str) :
  (valueAt vs z).isSome=(getT kvs z).isSome/\∀ ks,getT kvs z=some ks->∃ b,valueAt vs z=some (.ref b)/\StT K b (ks.map V.str):=by
 induction r with
 | nil=>exact ⟨rfl,fun ks h=>by cases h⟩
 | @cons p q ps qs h t ih =>
  obtain ⟨h1,b,h2,h3⟩:=h
  by_cases e:q.1=z
  ·have a1:valueAt (q::qs) z=some q.2:=by simp [valueAt,List.find?_cons,e]
   have a2:getT (p::ps) z=some p.2:=by simp [getT,List.find?_cons,h1.trans e]
   rw [a1,a2]
   exact ⟨rfl,fun ks hk=>by cases hk;exact ⟨b,by rw [h2],h3⟩⟩
  ·have a1:valueAt (q::qs) z=valueAt qs z:=by simp [valueAt,List.find?_cons,e]
   have a2:getT (p::ps) z=getT ps z:=by simp [getT,List.find?_cons,show ¬p.1=z from fun z'=>e (h1.symm.trans z')]
   rw [a1,a2]
   exact ih
section
variable {X:Cx}{e:Expr}{x:Str}{pos p1:Pos}{d:DTE}{te:TE}{kvs:List (Str×List Str)}
theorem StD.at (h:StD X.prog X.w X.K X.mg x kvs):∃ (a:Addr) (vs:List (Str×Value)),X.mg x=some (.ref a)/\(a == sysModules)=false/\(∀ {pins σ H s},Inv X pins σ H s->s.heap.DictOf (strKind X.prog X.w) a vs) /\
  ∀ z,(valueAt vs z).isSome=(getT kvs z).isSome/\∀ ks,getT kvs z=some ks->∃ b,valueAt vs z=some (.ref b)/\StT X.K b (ks.map V.str):=by
 obtain ⟨a,o,es,ep,vs,h1,h2,h3,h4,h5,h6,h7,h8,h9⟩:=h
 exact ⟨a,vs,h1,h2,fun I=>⟨o,es,ep,I.kIn a o h3,h4,h5,h6,h7,h8⟩,zi5 h9⟩
def znN (kvs:List (Str×List Str)) (te:TE):TE:=fun σ H Q=>te σ H fun y H1=>∃ z,y=.str z/\Q (.bl (!(getT kvs z).isSome)) H1
theorem zj5 (h:StD X.prog X.w X.K X.mg x kvs) (hg:Gl X x) (he:PE X e te) (hd:(x == ("__debug__":Str))=false:=by decide):PC X .NotIn e (.Name x p1) (znN kvs te):=by
 obtain ⟨a,vs,h1,h2,h3,h4⟩:=h.at
 intro pins s σ H Q I hw
 refine thn (he pins s σ H _ I hw) fun iv s1 ⟨y,H1,I1,ry,z,ez,q⟩=>zfp I1 hg h1 ?_ hd
 subst ez
 obtain ⟨t,rfl⟩:∃ t,iv=Value.str z t:=ry
 refine wpAny_notIn_of (knd:=strKind X.prog X.w) (k:=z) (by show Value.isStrOf z (.str z t)=true;simp [Value.isStrOf]) h2 (h3 I1).mapOf ?_
 rw [(h4 z).1]
 exact ⟨.bl _,H1,I1.tok _,rfl,q⟩
def znO (kvs:List (Str×List Str)) (K:PySem.W.Frag) (te:TE):TE:=fun σ H Q=>te σ H fun y H1=>∃ z ks,y=.str z/\getT kvs z=some ks/\∀ b,StT K b (ks.map V.str)->Q (.ref b) H1
theorem zjZ (h:StD X.prog X.w X.K X.mg x kvs) (hg:Gl X x) (he:PE X e te) (hs:NoSl e) (hd:(x == ("__debug__":Str))=false:=by decide):PE X (.Subscript (.Name x p1) e pos) (znO kvs X.K te):=by
 obtain ⟨a,vs,h1,h2,h3,h4⟩:=h.at
 intro pins s σ H Q I hw
 refine zjH PySem.F.slot_dict_getitem.lookup hs (zfp I hg h1 (thn (he pins s σ H _ I hw) fun iv s1 ⟨y,H1,I1,ry,z,ks,ez,g,q⟩=>?_) hd)
 subst ez
 obtain ⟨t,rfl⟩:∃ t,iv=Value.str z t:=ry
 obtain ⟨b,g1,g2⟩:=(h4 z).2 ks g
 refine ⟨(h3 I1).typeIs,wpAny_getItem_of (knd:=strKind X.prog X.w) (k:=z) (by show Value.isStrOf z (.str z t)=true;simp [Value.isStrOf]) (h3 I1).mapOf g1 ⟨.ref b,H1,I1.tok _,rfl,q b g2⟩⟩
def zm4 (kvs:List (Str×List Str)) (d:DTE):DTE:=fun ρ n R=>d ρ n fun y n1=>lStr y fun z=>R (.bool (!(getT kvs z).isSome)) n1
theorem zkG (h:StD X.prog X.w X.K X.mg x kvs) (he:DE X e d) (hg:Gl X x:=by rfl) (hd:(x == ("__debug__":Str))=false:=by decide) (hm:behindInMarks .NotIn (.Name x p1)=false:=by rfl):DT X (.Compare e [.NotIn] [.Name x p1] pos) (zfG (zm4 kvs d)):=by
 obtain ⟨ta,pa,he⟩:=he
 refine ⟨_,zlx (zj5 h hg pa hd) hm,fun C ρ σ H n Q R S hd hq=>?_⟩
 refine he C ρ σ H n _ _ S hd fun y n1 v H1 r e1 hn1 q=>?_
 cases y with
 | str z=>exact ⟨z,q.strI,_,rfl,hq _ n1 H1 r e1 hn1⟩
 | _=>exact r.elim
def dGGet (kvs:List (Str×List Str)) (d:DTE):DTE:=fun ρ n R=>d ρ n fun y n1=>lStr y fun z=>∃ ks,getT kvs z=some ks/\R (.tuple (ks.map PyData.str)) n1
theorem zf0 {K:PySem.W.Frag}{hd:Option Addr}{O:Addr->Prop}{H:Hp}:∀ ks:List Str,Reps K hd O H (ks.map V.str) (ks.map PyData.str)
 | []=>.nil
 | k::ks=>.cons (.str k) (zf0 ks)
theorem zkL (h:StD X.prog X.w X.K X.mg x kvs) (he:DE X e d) (hg:Gl X x:=by rfl) (hd:(x == ("__debug__":Str))=false:=by decide) (hs:NoSl e:=by intro _ _;rfl):DE X (.Subscript (.Name x p1) e pos) (dGGet kvs d):=by
 obtain ⟨ta,pa,he⟩:=he
 refine ⟨_,zjZ h hg pa hs hd,fun C ρ σ H n Q R S hd hq=>?_⟩
 refine he C ρ σ H n _ _ S hd fun y n1 v H1 r e1 hn1 q=>?_
 cases y with
 | str z =>
  obtain ⟨ks,g,r⟩:=r
  exact ⟨z,ks,q.strI,g,fun b hb=>hq _ n1 _ H1 r e1 hn1 (.tupS hb (zf0 ks))⟩
 | _=>exact r.elim
end
section
variable {i j k:Nat}{ρ:En}{n:Nat}{D:DEnds}{d:DTE}{x y:PyData}{r:List PyData}{R:PyData->Nat->Prop}{kvs:List (Str×List Str)}
instance zo7:Stp (zlo i j k d D ρ n) (d ρ n fun t n'=>ziT t fun x y r=>SetK i (some (.val x)) (fun ρ1 n1=>SetK j (some (.val y)) (fun ρ1 n1=>SetK k (some (.val (.list r))) D.nx ρ1 n1) ρ1 n1) ρ n'):=⟨fun h=>h⟩
instance znS {Q:PyData->PyData->List PyData->Prop}:Stp (ziT (.tuple (x::y::r)) Q) (Q x y r):=⟨fun h=>h⟩
instance zpi:Stp (zm4 kvs d ρ n R) (d ρ n fun y n1=>lStr y fun z=>R (.bool (!(getT kvs z).isSome)) n1):=⟨fun h=>h⟩
instance zpj:Stp (dGGet kvs d ρ n R) (d ρ n fun y n1=>lStr y fun z=>∃ ks,getT kvs z=some ks/\R (.tuple (ks.map PyData.str)) n1):=⟨fun h=>h⟩
end
def PtE (w:World) (K:PySem.W.Frag) (e:DictEntry) (p:Str×List Str):Prop:=e.hash=hashStr w p.1/\(∃ t,e.key=.str p.1 t)/\∃ b,e.val=.ref b/\StT K b (p.2.map V.str)
theorem zcR {w:World}{K:PySem.W.Frag}{hh:Int}{k:Str}{t:Tok}{b:Addr}{vs:List Str} (eh:hh=hashStr w k) (s:StT K b (vs.map V.str)):PtE w K ⟨hh,.str k t,.ref b⟩ (k,vs):=⟨eh,⟨t,rfl⟩,b,rfl,s⟩
theorem zcK {K:PySem.W.Frag}{b:Addr}{x:Str}{t:Tok}{n:Nat}{sl:Array (Option Value)} (h:K.lookup b=some ⟨.type "tuple",none,.seq #[.str x t] n,sl⟩):StT K b [V.str x]:=⟨_,_,_,h,rfl,rfl,(show 1<=sizeLine by decide),.cons ⟨t,rfl⟩ .nil,rfl⟩
theorem zgR {K:PySem.W.Frag}{b:Addr}{x y:Str}{t u:Tok}{n:Nat}{sl:Array (Option Value)} (h:K.lookup b=some ⟨.type "tuple",none,.seq #[.str x t,.str y u] n,sl⟩):StT K b [V.str x,V.str y]:=⟨_,_,_,h,rfl,rfl,(show 2<=sizeLine by decide),.cons ⟨t,rfl⟩ (.cons ⟨u,rfl⟩ .nil),rfl⟩
theorem zlv {P:Program}{w:World}{K:PySem.W.Frag}{es:List DictEntry}{kvs:List (Str×List Str)} (r:Paired (PtE w K) es kvs):∃ vs,Pairs (strKind P w) es vs/\vs.map (·.1)=kvs.map (·.1)/\(∀ e∈es,∃ k,(strKind P w).is k e.key=true/\e.hash=(strKind P w).hash k) /\
  Paired (fun (p:Str×List Str) (q:Str×Value)=>p.1=q.1/\∃ b,q.2=.ref b/\StT K b (p.2.map V.str)) kvs vs:=by
 induction r with
 | nil=>exact ⟨[],.nil,rfl,(fun e h=>nomatch h),.nil⟩
 | @cons e p es ps h t ih =>
  obtain ⟨vs,a1,a2,a3,a4⟩:=ih
  obtain ⟨h1,⟨t,h2⟩,b,h3,h4⟩:=h
  have hk:(strKind P w).is p.1 e.key=true:=by rw [h2];show Value.isStrOf p.1 (.str p.1 t)=true;simp [Value.isStrOf]
  refine ⟨(p.1,e.val)::vs,.cons hk rfl a1,by simp [a2],fun e' he=>?_,.cons ⟨rfl,b,h3,h4⟩ a4⟩
  rcases List.mem_cons.mp he with rfl | he
  ·exact ⟨p.1,hk,h1⟩
  ·exact a3 e' he
theorem zla {P:Program}{w:World}{K:PySem.W.Frag}{mg:Str->Option Value}{x:Str}{kvs:List (Str×List Str)}{a:Addr}{es:Array DictEntry}{ep:Nat} (hm:mg x=some (.ref a)) (ha:(a == sysModules)=false) (hl:K.lookup a=some ⟨.type "dict",none,.dict es ep,#[]⟩)
  (r:Paired (PtE w K) es.toList kvs) (nd:(kvs.map (·.1)).Nodup):StD P w K mg x kvs:=by
 obtain ⟨vs,a1,a2,a3,a4⟩:=zlv (P:=P) r
 exact ⟨a,_,es,ep,vs,hm,ha,hl,⟨rfl,rfl,rfl⟩,rfl,fun e he=>a3 e (by simpa using he),a1,by rw [a2];exact nd,a4⟩
end L2
namespace Bd
open PySem L2
def top (i:Nat):Stmt:=PySem.Challenge.pw_blockdeal_k25_deeds_or_not.main.body.getD i (.Pass ⟨0,0,0,0⟩)
set_option maxHeartbeats 4000000
local macro_rules | `(tactic| walk_at "S") => `(tactic| first | with_reducible refine zgq ?_ | with_reducible refine Stp.go ?_ | with_reducible refine j_all (by with_unfolding_all rfl) ?_ | with_reducible refine j_any (by with_unfolding_all rfl) ?_ | with_reducible refine zjq (by with_unfolding_all rfl) ?_ | with_reducible refine zjr (by with_unfolding_all rfl) ?_ | with_reducible refine zgc (by with_unfolding_all rfl) ?_ | with_reducible refine zgb (by with_unfolding_all rfl) ?_)
set_option hygiene false in
local macro_rules | `(tactic| walk_at "K") => `(tactic| first | walk_at "S" | with_reducible refine zmC (fun hc => ?_) (fun hc => ?_) | with_reducible refine zoQ (fun hc => ?_) (fun hc => ?_) | with_reducible refine And.intro ?_ ?_)
set_option hygiene false in
local macro_rules | `(tactic| wp_walk using $ts:term,*) => `(tactic| repeat' (first $[| with_reducible refine $ts:term]* | walk_at "K"))
local macro_rules | `(tactic| wp_walk) => `(tactic| repeat' walk_at "K")
structure Txt (mg:Str->Option Value):Prop where
 isi:mg "isinstance" = none
 int:mg "int" = none
 boo:mg "bool" = none
 tup:mg "tuple" = none
 len:mg "len" = none
 min:mg "min" = none
 max:mg "max" = none
 str:mg "str" = none
 rep:mg "repr" = none
 all:mg "all" = none
 any:mg "any" = none
 ran:mg "range" = none
 sum:mg "sum" = none
 srt:mg "sorted" = none
 lst:mg "list" = none
 abs:mg "abs" = none
 zip:mg "zip" = none
 dct:mg "dict" = none
 rev:mg "reversed" = none
 enu:mg "enumerate" = none
section
variable {P:Program}{w:World}{K:PySem.W.Frag}{mg:Str->Option Value}{base:Heap}
theorem zfh:FnScope ["thing"] ["thing"] (zah (top 1)):=⟨rfl,rfl,rfl,by decide +kernel,rfl,by decide +kernel,by decide +kernel⟩
def ziY:PyData->Bool | .int _=>true | _=>false
def zcd:GD:=fun ts n R=>match ts with
 | [d]=>Pln d/\R (.bool (ziY d)) n
 | _=>False
theorem zaD {d:PyData}{b:Bool}{n:Nat}{R:PyData->Nat->Prop} (e:ziY d=b) (h:Pln d) (h':R (.bool b) n):zcd [d] n R:=⟨h,e▸h'⟩
def zbC (P:Program) (w:World) (K:PySem.W.Frag) (mg:Str->Option Value) (base:Heap):Prop:=Fq P w K mg base "is_whole" (top 1) ["thing"] 1 (spD K 1 zcd)
theorem zfl (D:Dq K mg "is_whole" (top 1) ["thing"]) (T:Txt mg):zbC P w K mg base:=by
 obtain ⟨f,fd,D⟩:=D
 refine ⟨f,fd,D,D.okD zfh rfl fun cdv A outer s H E hr=>?_⟩
 refine' ⟨_,(zaj (zas (zdY (zci zmS T.isi T.int boot_int (dl (zab 0)) zad) (zeX (zkJ (zci zkD T.isi T.boo zgI (dl (zab 0)) zad)))))),?_⟩
 intro ts n R hl h
 unfold zcd at h
 split at h
 ·rename_i d
  obtain ⟨p,h⟩:=h
  cases d with
  | dict ks =>
   cases ks with
   | nil =>
    wp_walk
    exact h
   | cons a b=>exact absurd rfl p
  | _ =>
   wp_walk
   exact h
 ·exact h.elim
theorem zbQ:FnScope ["bits","thing","begin","height"] ["bits","thing"] (zah (top 2)):=⟨rfl,rfl,rfl,by decide +kernel,rfl,by decide +kernel,by decide +kernel⟩
def zaH (bits:Int):PyData->Bool
 | .tuple [.int b,.int h]=>decide (0<=h/\h<=bits/\0<=b/\b<2 ^ bits.toNat/\b % 2 ^ h.toNat=0)
 | _=>false
theorem zfz {bits b h:Int}:zaH bits (.tuple [.int b,.int h])=decide (0<=h/\h<=bits/\0<=b/\b<2 ^ bits.toNat/\b % 2 ^ h.toNat=0):=rfl
theorem zeS {bits b h:Int} (b0:0<=bits):zaH bits (.tuple [.int b,.int h])=true↔IsBk bits b h:=by
 unfold zaH
 rw [decide_eq_true_iff]
 constructor
 ·rintro ⟨h0,h1,g0,g1,g2⟩
  have p:=zbO h.toNat
  have e:=Int.emod_add_mul_ediv b (2 ^ h.toNat)
  refine ⟨h0,h1,b / 2 ^ h.toNat,Int.ediv_nonneg g0 (by lia),?_,?_⟩
  ·rw [Int.mul_comm];lia
  ·apply Int.ediv_lt_of_lt_mul p
   rw [<- Int.pow_add,show (bits - h).toNat+h.toNat=bits.toNat by lia]
   exact g1
 ·intro B
  have bb:=B.bounds b0
  obtain ⟨h0,h1,k,k0,rfl,k1⟩:=B
  refine ⟨h0,h1,bb.1,?_,Int.mul_emod_left _ _⟩
  have:=zbO h.toNat
  lia
def Pl2 (d:PyData):Prop:=Pln d/\∀ ts,d=.tuple ts->∀ t∈ts,Pln t
def zce:GD:=fun ts n R=>match ts with
 | [.int bits,d]=>0<=bits/\bits<=64/\Pl2 d/\R (.bool (zaH bits d)) n
 | _=>False
theorem zgH {bits:Int}{d:PyData}{n:Nat}{R:PyData->Nat->Prop} (b0:0<=bits) (b1:bits<=64) (h:Pl2 d) (h':R (.bool (zaH bits d)) n):zce [.int bits,d] n R:=⟨b0,b1,h,h'⟩
theorem zmX {b c:Bool}{n:Nat}{R:PyData->Nat->Prop} (e:b=c) (h:R (.bool c) n):R (.bool b) n:=e▸h
def zdm (P:Program) (w:World) (K:PySem.W.Frag) (mg:Str->Option Value) (base:Heap):Prop:=Fq P w K mg base "is_block" (top 2) ["bits","thing"] 2 (spD K 2 zce)
theorem zfm (D:Dq K mg "is_block" (top 2) ["bits","thing"]) (h_is_whole:zbC P w K mg base) (T:Txt mg):zdm P w K mg base:=by
 obtain ⟨f,fd,D⟩:=D
 refine ⟨f,fd,D,D.okD zbQ rfl fun cdv A outer s H E hr=>?_⟩
 refine' ⟨_,(zaf (zbt (zgE (zfC (zbM (zb6 (dl (zci zgd T.isi T.tup zda (dl (zab 1)) zad)))) (zdq (za8 (zg8 hr) zkE (dl (zbV za1 zb3 T.len zaO (zat (dl (zab 1)) zaQ zad))) (dl zac) (zaM _))))) (zaj (zas zbb)) zaF) (zaf (zhK (zab 1) (zgg rfl (zbg (zaJ (i:=2) zbQ.nd rfl (Or.inl rfl)) (zbg (zaJ (i:=3) zbQ.nd rfl (Or.inl rfl)) zdV)))) (zaf (zbt (zgE (zfC (zbM (zb6 (dl (zaN h_is_whole hr (zaa (zab 2) zae zad))))) (zdq (zbM (zb6 (dl (zaN h_is_whole hr (zaa (zab 3) zae zad)))))))) (zaj (zas zbb)) zaF) (zaf (zbt (zgE (zfC (za8 (zei hr) zeT (dl (zab 3)) (dl zac) (zaM _)) (zdq (za8 zlY gp_B (dl (zab 3)) (dl (zab 0)) (zaM _))))) (zaj (zas zbb)) zaF) (zaj (zas (zdY (zcE zcs zct (zei hr) zeT (dl zac) (dl (zab 2)) (dl (zbN (dl zac) (dl (zab 0))))) (zeX (zgj (zcZ hr) zfB (dl (zjB (dl (zab 2)) (dl (zbN (dl zac) (dl (zab 3)))))) (dl zac) (zaM _)))))))))),?_⟩
 intro ts n R hl h
 unfold zce at h
 split at h
 ·rename_i bits d
  obtain ⟨b0,b1,⟨p,p2⟩,h⟩:=h
  cases d with
  | dict ks =>
   cases ks with
   | nil =>
    wp_walk
    exact h
   | cons a b=>exact absurd rfl p
  | tuple ts =>
   have p2:=p2 ts rfl
   match ts,p2,h with
   | [],_,h =>
    wp_walk
    all_goals first | exact h | (exfalso;simp at hc;done)
   | [x],_,h =>
    have wr:zaH bits (.tuple [x])=false:=by unfold zaH;split <;> simp_all
    rw [wr] at h
    wp_walk
    all_goals first | exact h | (exfalso;simp at hc;done)
   | x::y::z::r,_,h =>
    have wr:zaH bits (.tuple (x::y::z::r))=false:=by unfold zaH;split <;> simp_all
    rw [wr] at h
    wp_walk
    all_goals first | exact h | (exfalso;simp at hc;lia)
   | [x,y],p2,h =>
    have px:=p2 x (by simp)
    have py:=p2 y (by simp)
    have wx:(∃ b,x=.int b)\/(ziY x=false/\zaH bits (.tuple [x,y])=false):=by
     cases x with
     | int b=>exact .inl ⟨b,rfl⟩
     | _=>exact .inr ⟨rfl,rfl⟩
    rcases wx with ⟨b,rfl⟩ | ⟨wx,wr⟩
    ·have wy:(∃ g,y=.int g)\/(ziY y=false/\zaH bits (.tuple [.int b,y])=false):=by
      cases y with
      | int b=>exact .inl ⟨b,rfl⟩
      | _=>exact .inr ⟨rfl,rfl⟩
     rcases wy with ⟨g,rfl⟩ | ⟨wy,wr⟩
     ·wp_walk using zaD (b:=true) rfl px ?_,zaD (b:=true) rfl py ?_
      all_goals first
       | exact cpow (by lia) (by lia)
       | (rw [za0];exact zbO _)
       | skip
      all_goals
       refine zmX ?_ h
       try simp only [za0] at *
       rw [zfz]
       generalize (2:Int) ^ bits.toNat=X at *
       generalize b % (2:Int) ^ g.toNat=Y at *
       first
        | (symm;rw [decide_eq_false_iff_not];lia)
        | (rw [decide_eq_decide];lia)
        | (exfalso;simp at hc;done)
     ·rw [wr] at h
      wp_walk using zaD (b:=true) rfl px ?_,zaD wy py ?_
      all_goals first | exact h | (exfalso;simp at hc;done)
    ·rw [wr] at h
     wp_walk using zaD wx px ?_
     all_goals first | exact h | (exfalso;simp at hc;done)
  | _ =>
   wp_walk
   exact h
 ·exact h.elim
theorem zgs:FnScope ["thing"] ["thing"] (zah (top 4)):=⟨rfl,rfl,rfl,by decide +kernel,rfl,by decide +kernel,by decide +kernel⟩
def zeV:GD:=fun ts n R=>∃ d,ts=[d]/\PlnD d/\R (.bool (nmD d)) n
theorem ze4 {d:PyData}{n:Nat}{R:PyData->Nat->Prop} (p:PlnD d) (h:R (.bool (nmD d)) n):zeV [d] n R:=⟨d,rfl,p,h⟩
def zed (P:Program) (w:World) (K:PySem.W.Frag) (mg:Str->Option Value) (base:Heap):Prop:=Fq P w K mg base "is_name" (top 4) ["thing"] 1 (spD K 1 zeV)
theorem zgy (D:Dq K mg "is_name" (top 4) ["thing"]) (T:Txt mg):zed P w K mg base:=by
 obtain ⟨f,fd,D⟩:=D
 refine ⟨f,fd,D,D.okD zgs rfl fun cdv A outer s H E hr=>?_⟩
 refine' ⟨_,(zaf (zbt (zgE (zfC (zbM (zb6 (dl (zci zjs T.isi T.str ze8 (dl (zab 0)) zad)))) (zdq (zbM (zi7 zcs zct zcs zct (dl zac) (dl (zbV za1 zb3 T.len zaO (zat (dl (zab 0)) zaQ zad))) (dl zac)))))) (zaj (zas zbb)) zaF) (zaj (zas (zbV (zc8 rfl) zhF T.all zdb (zat (dl (zaz (zch (own:=["letter"]) (capt:=[]) rfl (CompScope.of rfl) (dil (zm0 (zab 0))) (fun _ _ _ _=>(zaJ (i:=0) (by show (["letter"]:List Str).Nodup;decide +kernel) rfl (Or.inl rfl))) (by decide) (fun _ _ _ _=>zcf) (fun _ _ _ _=>(zcE zcs zct zcs zct (dl zap) (dl (zab 0)) (dl zap)))))) zaQ zfg))))),?_⟩
 intro ts n R hl h
 obtain ⟨d,rfl,p,h⟩:=h
 cases d with
 | str z =>
  have hz:=p.str
  have ea:(Str.ofString "a").cps.toList=[97]:=by decide +kernel
  have ez:(Str.ofString "z").cps.toList=[122]:=by decide +kernel
  have e:nmD (.str z)=(decide (1<=z.length)&&decide (z.length<=8)&&z.cps.toList.all fun c=>decide (97<=c)&&decide (c<=122)):=rfl
  rw [e] at h
  wp_walk
  ·lia
  ·refine zbz (cs:=z.cps.toList) (D:=fun c=>.str ⟨#[c]⟩) (fun c=>.bool (decide (97<=c)&&decide (c<=122))) (by rw [zaR];lia) ?_ ?_
   ·intro c hc' K2 X2 hK2
    wp_walk
    ·have z:c<97:=zhb.mp (show ([c]:List Nat)<[97] from ea▸hc)
     rw [decide_eq_false (show ¬97<=c by lia),Bool.false_and] at hK2
     exact hK2
    ·have z:¬c<97:=fun y=>hc (ea.symm▸zhb.mpr y)
     rw [decide_eq_true (show 97<=c by lia),Bool.true_and] at hK2
     have e2:(!decide ((Str.ofString "z").cps.toList<(⟨#[c]⟩:Str).cps.toList))=decide (c<=122):=by
      rw [ez];exact zkk
     rw [e2];exact hK2
   ·wp_walk using zhB ?_
    have h1:1<=z.length:=by lia
    have h8:z.length<=8:=by lia
    rw [decide_eq_true h1,decide_eq_true h8] at h
    exact h
  ·have h8:¬z.length<=8:=by lia
   rw [decide_eq_false h8,Bool.and_false,Bool.false_and] at h
   exact h
  ·have h1:¬1<=z.length:=by lia
   rw [decide_eq_false h1,Bool.false_and,Bool.false_and] at h
   exact h
 | dict ks =>
  cases ks with
  | nil =>
   wp_walk
   exact h
  | cons a b=>exact absurd rfl (PlnD.pln p)
 | _ =>
  wp_walk
  exact h
theorem zd7:FnScope ["bits","thing"] ["bits","thing"] (zah (top 9)):=⟨rfl,rfl,rfl,by decide +kernel,rfl,by decide +kernel,by decide +kernel⟩
def htD (bits:Int):PyData->Bool | .int i=>decide (0<=i)&&decide (i<=bits) | _=>false
def zc4:GD:=fun ts n R=>∃ (bits:Int) (d:PyData),ts=[.int bits,d]/\Pln d/\R (.bool (htD bits d)) n
theorem zfK {bits:Int}{d:PyData}{n:Nat}{R:PyData->Nat->Prop} (p:Pln d) (h:R (.bool (htD bits d)) n):zc4 [.int bits,d] n R:=⟨bits,d,rfl,p,h⟩
def zcO (P:Program) (w:World) (K:PySem.W.Frag) (mg:Str->Option Value) (base:Heap):Prop:=Fq P w K mg base "is_height" (top 9) ["bits","thing"] 2 (spD K 2 zc4)
theorem zej (D:Dq K mg "is_height" (top 9) ["bits","thing"]) (h_is_whole:zbC P w K mg base) (T:Txt mg):zcO P w K mg base:=by
 obtain ⟨f,fd,D⟩:=D
 refine ⟨f,fd,D,D.okD zd7 rfl fun cdv A outer s H E hr=>?_⟩
 refine' ⟨_,(zaj (zas (zdY (zaN h_is_whole hr (zaa (zab 1) zae zad)) (zeX (zcE zcs zct zcs zct (dl zac) (dl (zab 1)) (dl (zab 0))))))),?_⟩
 intro ts n R hl h
 obtain ⟨bits,d,rfl,p,h⟩:=h
 cases d with
 | int i =>
  have h:R (.bool (decide (0<=i)&&decide (i<=bits))) n:=h
  wp_walk using zaD (b:=true) rfl p ?_
  ·rw [decide_eq_true hc,Bool.true_and] at h;exact h
  ·rw [decide_eq_false hc,Bool.false_and] at h;exact h
 | _ =>
  wp_walk using zaD (b:=false) rfl p ?_
  exact h
theorem zdy:FnScope ["bits","thing"] ["bits","thing"] (zah (top 10)):=⟨rfl,rfl,rfl,by decide +kernel,rfl,by decide +kernel,by decide +kernel⟩
def adD (bits:Int):PyData->Bool | .int i=>decide (0<=i)&&decide (i<2 ^ bits.toNat) | _=>false
def zcv:GD:=fun ts n R=>∃ (bits:Int) (d:PyData),ts=[.int bits,d]/\0<=bits/\bits<=64/\Pln d/\R (.bool (adD bits d)) n
theorem ze5 {bits:Int}{d:PyData}{n:Nat}{R:PyData->Nat->Prop} (b0:0<=bits) (b1:bits<=64) (p:Pln d) (h:R (.bool (adD bits d)) n):zcv [.int bits,d] n R:=⟨bits,d,rfl,b0,b1,p,h⟩
def zcn (P:Program) (w:World) (K:PySem.W.Frag) (mg:Str->Option Value) (base:Heap):Prop:=Fq P w K mg base "is_address" (top 10) ["bits","thing"] 2 (spD K 2 zcv)
theorem zdH (D:Dq K mg "is_address" (top 10) ["bits","thing"]) (h_is_whole:zbC P w K mg base) (T:Txt mg):zcn P w K mg base:=by
 obtain ⟨f,fd,D⟩:=D
 refine ⟨f,fd,D,D.okD zdy rfl fun cdv A outer s H E hr=>?_⟩
 refine' ⟨_,(zaj (zas (zdY (zaN h_is_whole hr (zaa (zab 1) zae zad)) (zeX (zcE zcs zct (zei hr) zeT (dl zac) (dl (zab 1)) (dl (zbN (dl zac) (dl (zab 0))))))))),?_⟩
 intro ts n R hl h
 obtain ⟨bits,d,rfl,b0,b1,p,h⟩:=h
 cases d with
 | int i =>
  have h:R (.bool (decide (0<=i)&&decide (i<2 ^ bits.toNat))) n:=h
  wp_walk using zaD (b:=true) rfl p ?_
  all_goals first
   | exact cpow (by lia) (by lia)
   | skip
  ·rw [decide_eq_true hc,Bool.true_and] at h;rw [za0];exact h
  ·rw [decide_eq_false hc,Bool.false_and] at h;exact h
 | _ =>
  wp_walk using zaD (b:=false) rfl p ?_
  exact h
theorem zgr:FnScope ["bits","kind","thing"] ["bits","kind","thing"] (zah (top 8)):=⟨rfl,rfl,rfl,by decide +kernel,rfl,by decide +kernel,by decide +kernel⟩
def ptD (bits:Int) (k:Str) (d:PyData):Bool:=if k=Str.ofString "height" then htD bits d else if k=Str.ofString "address" then adD bits d else zaH bits d
def zeU:GD:=fun ts n R=>∃ (bits:Int) (k:Str) (d:PyData),ts=[.int bits,.str k,d]/\0<=bits/\bits<=64/\PlnD d/\R (.bool (ptD bits k d)) n
theorem zh3 {bits:Int}{k:Str}{d:PyData}{n:Nat}{R:PyData->Nat->Prop} (b0:0<=bits) (b1:bits<=64) (p:PlnD d) (h:R (.bool (ptD bits k d)) n):zeU [.int bits,.str k,d] n R:=⟨bits,k,d,rfl,b0,b1,p,h⟩
theorem zlA {d:PyData} (h:PlnD d):Pl2 d:=⟨h.pln,fun ts e t ht=>by subst e;exact (h.tup.2 t ht).pln⟩
def zec (P:Program) (w:World) (K:PySem.W.Frag) (mg:Str->Option Value) (base:Heap):Prop:=Fq P w K mg base "is_part" (top 8) ["bits","kind","thing"] 3 (spD K 3 zeU)
theorem zgx (D:Dq K mg "is_part" (top 8) ["bits","kind","thing"]) (h_is_block:zdm P w K mg base) (h_is_height:zcO P w K mg base) (h_is_address:zcn P w K mg base) (T:Txt mg):zec P w K mg base:=by
 obtain ⟨f,fd,D⟩:=D
 refine ⟨f,fd,D,D.okD zgr rfl fun cdv A outer s H E hr=>?_⟩
 refine' ⟨_,(zaf (zbt (za8 (zcZ hr) zfB (dl (zab 1)) (dl zap) (zaM _)) (zaj (zas (zaN h_is_height hr (zaa (zab 0) (zaa (zab 2) zae zad) zad)))) zaF) (zaf (zbt (za8 (zcZ hr) zfB (dl (zab 1)) (dl zap) (zaM _)) (zaj (zas (zaN h_is_address hr (zaa (zab 0) (zaa (zab 2) zae zad) zad)))) zaF) (zaj (zas (zaN h_is_block hr (zaa (zab 0) (zaa (zab 2) zae zad) zad)))))),?_⟩
 intro ts n R hl h
 obtain ⟨bits,k,d,rfl,b0,b1,p,h⟩:=h
 unfold ptD at h
 wp_walk using zfK p.pln ?_,ze5 b0 b1 p.pln ?_,zgH b0 b1 (zlA p) ?_
 ·rw [if_pos hc] at h;exact h
 ·rename_i h1
  rw [if_neg h1,if_pos hc] at h;exact h
 ·rename_i h1
  rw [if_neg h1,if_neg hc] at h;exact h
def zan:List (Str×List Str):=[(Str.ofString "take",[Str.ofString "height"]),(Str.ofString "near",[Str.ofString "height",Str.ofString "address"]),(Str.ofString "give",[Str.ofString "block"]),(Str.ofString "grow",[Str.ofString "block"]),(Str.ofString "keep",[Str.ofString "block"]),(Str.ofString "loose",[Str.ofString "block"]),(Str.ofString "move",[Str.ofString "block",Str.ofString "block"])]
theorem zb8:FnScope ["bits","thing","word","name","parts","kinds"] ["bits","thing"] (zah (top 7)):=⟨rfl,rfl,rfl,by decide +kernel,rfl,by decide +kernel,by decide +kernel⟩
def hEq:List PyData->Bool
 | [.tuple [_,.int g],.tuple [_,.int h]]=>decide (g=h)
 | _=>false
def prtD (bits:Int) (w:Str) (ps:List PyData):Bool:=match getT zan w with
 | none=>false
 | some ks=>decide (ps.length=ks.length)&&((ks.zip ps).all fun q=>ptD bits q.1 q.2)&&(decide (w≠Str.ofString "move")||hEq ps)
def dedD (bits:Int):PyData->Bool
 | .tuple (.str w::nm::ps)=>nmD nm&&prtD bits w ps
 | _=>false
def zbw:GD:=fun ts n R=>∃ (bits:Int) (d:PyData),ts=[.int bits,d]/\0<=bits/\bits<=64/\PlnD d/\R (.bool (dedD bits d)) n
theorem zc9 {bits:Int}{d:PyData}{n:Nat}{R:PyData->Nat->Prop} (b0:0<=bits) (b1:bits<=64) (p:PlnD d) (h:R (.bool (dedD bits d)) n):zbw [.int bits,d] n R:=⟨bits,d,rfl,b0,b1,p,h⟩
theorem zfa {bits:Int}{d:PyData} (h:zaH bits d=true):∃ b g:Int,d=.tuple [.int b,.int g]:=by
 unfold zaH at h
 split at h
 ·exact ⟨_,_,rfl⟩
 ·cases h
theorem zij {ks:List Str}{ps:List PyData}:zipD (ks.map PyData.str) ps=(ks.zip ps).map fun q=>PyData.tuple [.str q.1,q.2]:=by
 unfold zipD
 rw [List.zip_map_left,List.map_map]
 rfl
theorem za5 {bits:Int}{d:PyData}:ptD bits (Str.ofString "block") d=zaH bits d:=by
 unfold ptD
 rw [if_neg (by decide +kernel),if_neg (by decide +kernel)]
theorem zca:getT zan (Str.ofString "move")=some [Str.ofString "block",Str.ofString "block"]:=by decide +kernel
def zee (P:Program) (w:World) (K:PySem.W.Frag) (mg:Str->Option Value) (base:Heap):Prop:=Fq P w K mg base "is_deed" (top 7) ["bits","thing"] 4 (spD K 2 zbw)
theorem zgz (D:Dq K mg "is_deed" (top 7) ["bits","thing"]) (h_is_name:zed P w K mg base) (h_is_part:zec P w K mg base) (M_PARTS:StD P w K mg "PARTS" zan) (T:Txt mg):zee P w K mg base:=by
 obtain ⟨f,fd,D⟩:=D
 refine ⟨f,fd,D,D.okD zb8 rfl fun cdv A outer s H E hr=>?_⟩
 refine' ⟨_,(zaf (zbt (zgE (zfC (zbM (zb6 (dl (zci zgd T.isi T.tup zda (dl (zab 1)) zad)))) (zdq (za8 (zei hr) zeT (dl (zbV za1 zb3 T.len zaO (zat (dl (zab 1)) zaQ zad))) (dl zac) (zaM _))))) (zaj (zas zbb)) zaF) (zaf (zkH (i:=2) (j:=3) (k:=4) rfl zb8.nd rfl rfl rfl (Or.inl rfl) (Or.inl rfl) (Or.inl rfl) (zab 1)) (zaf (zbt (zgE (zfC (zbM (zb6 (dl (zci zjs T.isi T.str ze8 (dl (zab 2)) zad)))) (zfC (zkG M_PARTS (zab 2)) (zdq (zbM (zb6 (dl (zaN h_is_name hr (zaa (zab 3) zae zad))))))))) (zaj (zas zbb)) zaF) (zaf (zbs (i:=5) zb8.nd rfl (Or.inl rfl) (zkL M_PARTS (zab 2))) (zaf (zbt (za8 (zg8 hr) zkE (dl (zbV za1 zb3 T.len zaO (zat (dl (zab 4)) zaQ zad))) (dl (zbV za1 zb3 T.len zaO (zat (dl (zab 5)) zaQ zad))) (zaM _)) (zaj (zas zbb)) zaF) (zaf (zbt (zbM (zb6 (dl (zbV (zc8 rfl) zhF T.all zdb (zat (dl (zaz (zch (own:=["kind","part"]) (capt:=[0]) rfl (CompScope.of rfl) (dil (zmZ T.zip (zab 5) (zab 4))) (fun _ _ _ _=>(zgg rfl (zbg (zaJ (i:=0) (by show (["kind","part","bits"]:List Str).Nodup;decide +kernel) rfl (Or.inl rfl)) (zbg (zaJ (i:=1) (by show (["kind","part","bits"]:List Str).Nodup;decide +kernel) rfl (Or.inl rfl)) zdV)))) (by decide) (fun _ _ _ _=>zcf) (fun _ _ _ _=>(zaN h_is_part hr (zaa (zab 2) (zaa (zab 0) (zaa (zab 1) zae zad) zad) zad)))))) zaQ zfg))))) (zaj (zas zbb)) zaF) (zaj (zas (zm3 (zgj (zg8 hr) zkE (dl (zab 2)) (dl zap) (zaM _)) (zeX (zgj (zcZ hr) zfB (dl (zby (dl (zby (dl (zab 4)) (dl zac))) (dl zac))) (dl (zby (dl (zby (dl (zab 4)) (dl zac))) (dl zac))) (zaM _)))))))))))),?_⟩
 intro ts n R hl h
 obtain ⟨bits,d,rfl,b0,b1,p,h⟩:=h
 cases d with
 | dict ks =>
  cases ks with
  | nil =>
   wp_walk
   exact h
  | cons a b=>exact absurd rfl p.pln
 | tuple ts =>
  obtain ⟨l6,p3⟩:=p.tup
  match ts,p3,h with
  | [],_,h =>
   wp_walk
   all_goals first | exact h | (exfalso;simp at hc;done)
  | [x],_,h =>
   have e:dedD bits (.tuple [x])=false:=by unfold dedD;split <;> simp_all
   rw [e] at h
   wp_walk
   all_goals first | exact h | (exfalso;simp at hc;done)
  | x::nm::ps,p3,h =>
   have pn:=p3 nm (by simp)
   cases x with
   | str w =>
    have e:dedD bits (.tuple (.str w::nm::ps))=(nmD nm&&prtD bits w ps):=rfl
    rw [e] at h
    unfold prtD at h
    cases g:getT zan w with
    | none =>
     rw [g] at h
     simp only [Bool.and_false] at h
     wp_walk using ze4 pn ?_
     all_goals first | exact h | (exfalso;simp at hc;done) | (exfalso;rw [g] at *;simp at *;done)
    | some ks =>
     rw [g] at h
     dsimp only at h
     wp_walk using ze4 pn ?_
     ·exfalso;simp at hc;lia
     ·rename_i h1 h2
      rw [hc,Bool.true_and] at h
      refine ⟨ks,g,?_⟩
      wp_walk
      ·have e1:ps.length=ks.length:=by simp at hc;lia
       rw [decide_eq_true e1,Bool.true_and] at h
       rw [zij]
       refine zbz (cs:=ks.zip ps) (D:=fun q:Str×PyData=>PyData.tuple [.str q.1,q.2]) (fun q=>.bool (ptD bits q.1 q.2)) (by rw [List.length_zip];simp at l6;lia) ?_ ?_
       ·intro q hq K2 X2 hK2
        have pq:=p3 q.2 (by have:=(List.of_mem_zip hq).2;simp [this])
        wp_walk using zh3 b0 b1 pq ?_
        exact hK2
       ·wp_walk using zhB ?_
        ·rename_i h4
         subst hc
         rw [h4,Bool.true_and,decide_eq_false (fun z:Str.ofString "move" ≠ Str.ofString "move"=>z rfl),Bool.false_or] at h
         rw [zca] at g
         cases g
         match ps,e1,h4,h with
         | [p0,p1],_,h4,h =>
          simp only [List.zip_cons_cons,List.zip_nil_left,List.all_cons,List.all_nil,Bool.and_true,Bool.and_eq_true,za5] at h4
          obtain ⟨b',g',rfl⟩:=zfa h4.1
          obtain ⟨b'',g'',rfl⟩:=zfa h4.2
          wp_walk
          exact h
        ·rename_i h4
         rw [h4,Bool.true_and,decide_eq_true hc,Bool.true_or] at h
         exact h
        ·rw [hc,Bool.false_and] at h
         exact h
      ·have e1:¬ps.length=ks.length:=by simp at hc;lia
       rw [decide_eq_false e1,Bool.false_and,Bool.false_and] at h
       exact h
     ·rw [hc,Bool.false_and] at h;exact h
     ·exfalso;rw [g] at hc;cases hc
   | dict ds =>
    have px:=p3 _ (List.mem_cons_self ..)
    cases ds with
    | nil =>
     have h:R (.bool false) n:=h
     wp_walk
     all_goals first | exact h | (exfalso;simp at hc;lia)
    | cons a b=>exact absurd rfl px.pln
   | _ =>
    have h:R (.bool false) n:=h
    wp_walk
    all_goals first | exact h | (exfalso;simp at hc;lia)
 | _ =>
  wp_walk
  exact h
theorem scH:FnScope ["_law_script","_law_k","_law_cell"] ["_law_script","_law_k"] (zah (top 12)):=⟨rfl,rfl,rfl,by decide +kernel,rfl,by decide +kernel,by decide +kernel⟩
theorem zem {f:Addr}{fd:FuncData} (D:Def K mg "_law_hand" (top 12) ["_law_script","_law_k"] f fd) (T:Txt mg):FnOk P w K mg base CX0 1 f fd ["_law_script","_law_k"] (zfY K):=by
 refine D.F.ok scH (fun vs H Q E h=>?_) (fun cdv A outer s H vs Q E hr h=>?_)
 ·obtain ⟨a,ns,k,rfl,_⟩:=h
  rfl
 ·obtain ⟨a,ns,k,rfl,hS,hl,k0,k1,q⟩:=h
  refine ⟨_,zaP (zbK (i:=2) scH.nd rfl (Or.inl rfl) zaw)
   (zaP (zjP (zfi zlU (pv 1) (zj1 ze3 T.len zaO (pb_v 0 zcr)) (zaM _)) (zcT (zbK (i:=2) scH.nd rfl (Or.inl rfl) (zeh zbv (pv 0) (pv 1) (fun _ _=>rfl)))) zfj)
   (zcT (zf1 (zg5 (zjn (zaS zbL (pv 2) (zlN zh1 T.int boot_int (zlP (zg6 zos (pv 2) (zaS zjo zaw zaw) (zaM _)) zcr)))
    (zjn (zaS zb0 (zaS zb0 (zaS zcY (pv 2) zaw) (zaS zbL zaw (pv 1))) zaw) (pb_i zcr))))))),?_⟩
  refine ⟨_,rfl,_,rfl,a,_,rfl,.inl hS,_,_,rfl,rfl,_,rfl,?_⟩
  have fin:∀ c:Int,tRet (tLst (zcI (tOp (rI CMul fun i j=>V.int (i*j)) (tVar 2) (tCB (fun xs H Q=>(∃ i,xs=[.int i]/\Q (.int i) H)\/∃ k,xs=[.bl k]/\Q (.int (if k then 1 else 0)) H) (zcI (tOp (rI0 fun i j=>.bl (decide (j<=i))) (tVar 2) (tOp (rI CPow fun i j=>.int (i ^ j.toNat)) (tC (.int 10)) (tC (.int 18)))) tNil)))
    (zcI (tOp (rI0 fun i j=>.int (i+j)) (tOp (rI0 fun i j=>.int (i+j)) (tOp (rI (fun _ j=>0<j) fun i j=>.int (i % j)) (tVar 2) (tC (.int 2305843009213693951))) (tOp (rI CMul fun i j=>V.int (i*j)) (tC (.int 7919)) (tVar 1))) (tC (.int 3))) (zcI (tC (.int 0)) tNil))))
    { nx:=fun _ H'=>Q .non H',rt:=Q } [some (.ref a),some (.int k),some (.int c)] H:=by
   intro c
   refine ⟨_,rfl,_,rfl,_,_,rfl,rfl,⟨by decide,by decide,by decide⟩,_,_,rfl,rfl,.inr ⟨_,rfl,_,_,rfl,rfl,.inr ?_,?_⟩⟩
   ·split <;> decide
   ·refine ⟨_,rfl,_,_,rfl,rfl,(by show (0:Int)<2305843009213693951;decide),_,rfl,_,_,rfl,rfl,.inl ⟨by decide,by decide⟩,_,_,rfl,rfl,_,_,rfl,rfl,(by show 3<=sizeLine;decide),fun l hn=>?_⟩
    refine q l _ hn ⟨_,_,_,zax,?_,?_,Int.le_refl _,Int.le_refl _⟩ (zir hn)
    ·lia
    ·lia
  refine zmu (fun c=>?_) (fun c=>?_)
  ·have hk:k.toNat<ns.length:=by rw [List.length_map] at c;lia
   refine ⟨_,rfl,_,rfl,a,_,_,V.int (ns[k.toNat]),rfl,rfl,hS,?_,?_⟩
   ·exact zfM k0 (by rw [List.getElem?_map,List.getElem?_eq_getElem hk];rfl)
   ·exact fin _
  ·exact fin 0
def zcP (P:Program) (w:World) (K:PySem.W.Frag) (mg:Str->Option Value) (base:Heap):Prop:=Fq P w K mg base "_law_hand" (top 12) ["_law_script","_law_k"] 1 (zfY K)
theorem zdG (D:Dq K mg "_law_hand" (top 12) ["_law_script","_law_k"]) (T:Txt mg):zcP P w K mg base:=by
 obtain ⟨f,fd,D⟩:=D
 exact ⟨f,fd,D,zem D T⟩
theorem zd_ {H:Hp}{hd:Addr}{o:HO}:zm8 hd H (upd H hd o):=fun b u e n=>by rw [zar n];exact e
theorem scT:FnScope ["_law_hand_here","_law_many","_law_digit","_law_turn","_law_mixed","_law_other"] ["_law_hand_here","_law_many"] (zah (top 13)):=⟨rfl,rfl,rfl,by decide +kernel,rfl,by decide +kernel,by decide +kernel⟩
theorem ziO {f:Addr}{fd:FuncData} (D:Def K mg "_law_take" (top 13) ["_law_hand_here","_law_many"] f fd) (T:Txt mg):FnOk P w K mg base CX0 1 f fd ["_law_hand_here","_law_many"] zjj:=by
 refine D.F.ok scT (fun vs H Q E h=>?_) (fun cdv A outer s H vs Q E hr h=>?_)
 ·obtain ⟨hd,many,n,rfl,_⟩:=h
  rfl
 ·obtain ⟨hd,many,n,rfl,⟨d,m,t,hh,m0,m1,t0,t1⟩,hn,y0,y1,q⟩:=h
  refine ⟨_,zaP (zjP (zfi zlY (zeh zbv (pv 0) zaw (fun _ _=>rfl)) zaw (zaM _))
    (zaP (zbK (i:=2) scT.nd rfl (Or.inl rfl) (zaS zcY (zeh zbv (pv 0) zaw (fun _ _=>rfl)) (pv 1)))
    (zaP (zf2 (zaS zdE (zeh zbv (pv 0) zaw (fun _ _=>rfl)) (pv 1)) (zjm (pv 0) zaw set_list))
    (zcT (zf1 (pv 2))))) zfj)
   (zaP (zf2 (zaS zb0 (zeh zbv (pv 0) zaw (fun _ _=>rfl)) zaw) (zjm (pv 0) zaw set_list))
   (zaP (zbK (i:=3) scT.nd rfl (Or.inl rfl) (zeh zbv (pv 0) zaw (fun _ _=>rfl)))
   (zaP (zbK (i:=4) scT.nd rfl (Or.inl rfl) (zaS zcY (zaS zbL (zeh zbv (pv 0) zaw (fun _ _=>rfl)) (zaS zb0 (zaS zb0 zaw (zaS zbL (zaS zbL zaw (pv 3)) (pv 3))) (zaS zbL zaw (pv 3)))) zaw))
   (zaP (zbK (i:=5) scT.nd rfl (Or.inl rfl) (zaS zb0 (zaS zb0 (zaS zcY (pv 4) zaw) (zaS zbL (pv 3) zaw)) zaw))
   (zaP (zbK (i:=4) scT.nd rfl (Or.inl rfl) (zaS zcY (zaS zbL (pv 4) (pv 5)) zaw))
   (zcT (zf1 (zaS zcY (zaS zb0 (zaS zdE (pv 4) zaw) (zaS zdE (pv 4) zaw)) (pv 1))))))))),?_⟩
  refine ⟨_,rfl,hd,_,_,_,rfl,rfl,.of hh,rfl,_,_,rfl,rfl,_,rfl,?_⟩
  refine zmu (fun c=>?_) (fun c=>?_)
  ·refine ⟨_,rfl,hd,_,_,_,rfl,rfl,.of hh,rfl,_,rfl,_,_,rfl,rfl,y0,?_⟩
   refine ⟨_,rfl,hd,_,_,_,rfl,rfl,.of hh,rfl,_,rfl,_,_,rfl,rfl,⟨y0,y1⟩,?_⟩
   refine ⟨_,rfl,hd,_,_,0,rfl,rfl,hh,rfl,?_⟩
   refine ⟨_,rfl,?_⟩
   exact q _ _ (Int.emod_nonneg _ (by lia)) (Int.emod_lt_of_pos _ y0) ⟨_,_,_,zax,m0,m1,t0,by lia⟩ zd_
  ·refine ⟨_,rfl,hd,_,_,_,rfl,rfl,.of hh,rfl,_,_,rfl,rfl,?_⟩
   refine ⟨_,rfl,hd,_,_,2,rfl,rfl,hh,rfl,?_⟩
   refine ⟨_,rfl,hd,_,_,_,rfl,rfl,.of zax,rfl,?_⟩
   refine ⟨_,rfl,hd,_,_,_,rfl,rfl,.of zax,rfl,_,rfl,_,_,rfl,rfl,.inl ⟨by decide,by decide⟩,_,rfl,_,_,rfl,rfl,.inr ⟨by lia,by lia⟩,_,_,rfl,rfl,_,rfl,_,_,rfl,rfl,.inl ⟨by decide,by decide⟩,_,_,rfl,rfl,_,_,rfl,rfl,.inl ⟨by lia,by lia⟩,_,_,rfl,rfl,(by show (0:Int)<2305843009213693921;decide),?_⟩
   refine ⟨_,rfl,_,_,rfl,rfl,(by show (0:Int)<1000003;decide),_,rfl,_,_,rfl,rfl,.inr ⟨by decide,by decide⟩,_,_,rfl,rfl,_,_,rfl,rfl,?_⟩
   refine ⟨_,rfl,_,rfl,_,_,rfl,rfl,.inl ⟨by lia,by lia⟩,_,_,rfl,rfl,(by show (0:Int)<2305843009213693907;decide),?_⟩
   refine ⟨_,rfl,_,_,rfl,rfl,⟨by decide,by decide⟩,_,rfl,_,_,rfl,rfl,⟨by decide,by decide⟩,_,_,rfl,rfl,_,rfl,_,_,rfl,rfl,y0,?_⟩
   exact q _ _ (Int.emod_nonneg _ (by lia)) (Int.emod_lt_of_pos _ y0) ⟨_,_,_,zax,m0,m1,by lia,by lia⟩ zd_
theorem zek {f:Addr}{fd:FuncData} (D:Def K mg "_law_take" (top 13) ["_law_hand_here","_law_many"] f fd) (T:Txt mg):FnOk P w K mg base CX0 1 f fd ["_law_hand_here","_law_many"] (spD K 2 zcu) :=
 (ziO D T).imp zio
def za4 (P:Program) (w:World) (K:PySem.W.Frag) (mg:Str->Option Value) (base:Heap):Prop:=Fq P w K mg base "_law_take" (top 13) ["_law_hand_here","_law_many"] 1 (spD K 2 zcu)
theorem zdF (D:Dq K mg "_law_take" (top 13) ["_law_hand_here","_law_many"]) (T:Txt mg):za4 P w K mg base:=by
 obtain ⟨f,fd,D⟩:=D
 exact ⟨f,fd,D,zek D T⟩
theorem zd8:FnScope ["_law_hand_here","_law_some"] ["_law_hand_here","_law_some"] (zah (top 14)):=⟨rfl,rfl,rfl,by decide +kernel,rfl,by decide +kernel,by decide +kernel⟩
def za7:GD:=fun ts n R=>match ts with
 | [h,.list xs]=>h=HAND/\xs≠[]/\xs.length<=1000000/\n<=1000000000000/\∀ x∈xs,R x (n+1)
 | _=>False
theorem zc_ {xs:List PyData}{n:Nat}{R:PyData->Nat->Prop} (h0:xs≠[]) (h1:xs.length<=1000000) (hn:n<=1000000000000) (h:∀ x∈xs,R x (n+1)):za7 [HAND,.list xs] n R:=⟨rfl,h0,h1,hn,h⟩
def zbl (P:Program) (w:World) (K:PySem.W.Frag) (mg:Str->Option Value) (base:Heap):Prop:=Fq P w K mg base "_law_pick" (top 14) ["_law_hand_here","_law_some"] 2 (spD K 2 za7)
theorem zel (D:Dq K mg "_law_pick" (top 14) ["_law_hand_here","_law_some"]) (h__law_take:za4 P w K mg base) (T:Txt mg):zbl P w K mg base:=by
 obtain ⟨f,fd,D⟩:=D
 refine ⟨f,fd,D,D.okD zd8 rfl fun cdv A outer s H E hr=>?_⟩
 refine' ⟨_,(zaj (zas (zby (dl (zab 1)) (dl (zaN h__law_take hr (zaa (zab 0) (zaa (zbV za1 zb3 T.len zaO (zat (dl (zab 1)) zaQ zad)) zae zbk) zad)))))),?_⟩
 intro ts n R hl h
 unfold za7 at h
 split at h
 ·rename_i hd xs
  obtain ⟨rfl,h0,h1,h2,h⟩:=h
  have hp:0<xs.length:=List.length_pos_iff.mpr h0
  simp only [zfR,zfS,zfQ,u_dC,zik,zfW,zfU,zfV,zdv,zil,zcz,zfT,zf_,zcG,zd4,zd3,zd2,zcH,zd1,zbW,oSub,oMul,oMod,oPow,oShl,isNone,isInt,isBool,isTup,isStr,l_gI,ziS,zeE,zeD,zeC,zhs,zhr,zhj,zhi,zhp,zc2,zhq,zhm,zho,zhn,zez,zey,zex,zeB,zeA,zes,zht,zew,zet,zeu,zb1,zhk,zhl,zc1,zb2,zbm,zaY,zbu,zaW,zbd,zbc,zbe,za2,zaL,capV,List.map_cons,List.map_nil,List.length_cons,List.length_nil,List.replicate_succ,List.replicate_zero,List.cons_append,List.nil_append,List.append_nil,List.getElem?_cons_succ,List.getElem?_cons_zero,List.set_cons_succ,List.set_cons_zero,List.getD_cons_succ,List.getD_cons_zero,Nat.zero_add,Nat.reduceAdd,Nat.reduceSub,Nat.sub_self,true_and,and_true,Bool.false_eq_true,if_true,if_false,ite_true,ite_false,Bool.not_true,Bool.not_false,Int.natCast_zero,zcu]
  refine ⟨by lia,by lia,h2,fun r r0 r1=>?_⟩
  have hr':r.toNat<xs.length:=by lia
  rw [zkn (zfM r0 (List.getElem?_eq_getElem hr'))]
  exact h _ (List.getElem_mem hr')
 ·exact h.elim
theorem zd9:FnScope ["_law_hand_here"] ["_law_hand_here"] (zah (top 15)):=⟨rfl,rfl,rfl,by decide +kernel,rfl,by decide +kernel,by decide +kernel⟩
def zbT:GD:=fun ts n R=>match ts with
 | [h]=>h=HAND/\n<=1000000000000/\∀ b:Int,1<=b->b<=64->R (.int b) (n+1)
 | _=>False
theorem zfL {n:Nat}{R:PyData->Nat->Prop} (hn:n<=1000000000000) (h:∀ b:Int,1<=b->b<=64->R (.int b) (n+1)):zbT [HAND] n R:=⟨rfl,hn,h⟩
def zcQ (P:Program) (w:World) (K:PySem.W.Frag) (mg:Str->Option Value) (base:Heap):Prop:=Fq P w K mg base "_law_bits" (top 15) ["_law_hand_here"] 3 (spD K 1 zbT)
theorem zen (D:Dq K mg "_law_bits" (top 15) ["_law_hand_here"]) (h__law_pick:zbl P w K mg base) (T:Txt mg):zcQ P w K mg base:=by
 obtain ⟨f,fd,D⟩:=D
 refine ⟨f,fd,D,D.okD zd9 rfl fun cdv A outer s H E hr=>?_⟩
 refine' ⟨_,(zaj (zas (zaN h__law_pick hr (zaa (zab 0) (zaa (zaz (za_ (zaa zac (zaa zac (zaa zac (zaa zac (zaa zac (zaa zac (zaa zac (zaa zac (zaa zac (zaa zac zae zag) zag) zag) zag) zag) zag) zag) zag) zag) zag))) zae zbP) zad)))),?_⟩
 intro ts n R hl h
 unfold zbT at h
 split at h
 ·obtain ⟨rfl,h1,h⟩:=h
  simp only [zfR,zfS,zfQ,u_dC,zik,zfW,zfU,zfV,zdv,zil,zcz,zfT,zf_,zcG,zd4,zd3,zd2,zcH,zd1,zbW,oSub,oMul,oMod,oPow,oShl,isNone,isInt,isBool,isTup,isStr,l_gI,ziS,zeE,zeD,zeC,zhs,zhr,zhj,zhi,zhp,zc2,zhq,zhm,zho,zhn,zez,zey,zex,zeB,zeA,zes,zht,zew,zet,zeu,zb1,zhk,zhl,zc1,zb2,zbm,zaY,zbu,zaW,zbd,zbc,zbe,za2,zaL,capV,List.map_cons,List.map_nil,List.length_cons,List.length_nil,List.replicate_succ,List.replicate_zero,List.cons_append,List.nil_append,List.append_nil,List.getElem?_cons_succ,List.getElem?_cons_zero,List.set_cons_succ,List.set_cons_zero,List.getD_cons_succ,List.getD_cons_zero,Nat.zero_add,Nat.reduceAdd,Nat.reduceSub,Nat.sub_self,true_and,and_true,Bool.false_eq_true,if_true,if_false,ite_true,ite_false,Bool.not_true,Bool.not_false,Int.natCast_zero,za7]
  refine ⟨by simp,by decide,h1,fun x hx=>?_⟩
  simp only [List.mem_cons,List.not_mem_nil,or_false] at hx
  rcases hx with rfl | rfl | rfl | rfl | rfl | rfl | rfl | rfl | rfl | rfl <;> exact h _ (by decide) (by decide)
 ·exact h.elim
theorem zbX:FnScope ["_law_hand_here","_law_bits_here","_law_height"] ["_law_hand_here","_law_bits_here"] (zah (top 16)):=⟨rfl,rfl,rfl,by decide +kernel,rfl,by decide +kernel,by decide +kernel⟩
def zbx:GD:=fun ts n R=>match ts with
 | [h,.int bits]=>h=HAND/\1<=bits/\bits<=64/\n<=1000000000000 - 10/\∀ i h:Int,IsBk bits i h->R (.tuple [.int i,.int h]) (n+3)
 | _=>False
theorem ze7 {bits:Int}{n:Nat}{R:PyData->Nat->Prop} (b0:1<=bits) (b1:bits<=64) (hn:n<=1000000000000 - 10) (h:∀ i h:Int,IsBk bits i h->R (.tuple [.int i,.int h]) (n+3)):zbx [HAND,.int bits] n R:=⟨rfl,b0,b1,hn,h⟩
def zcq (P:Program) (w:World) (K:PySem.W.Frag) (mg:Str->Option Value) (base:Heap):Prop:=Fq P w K mg base "_law_block" (top 16) ["_law_hand_here","_law_bits_here"] 3 (spD K 2 zbx)
theorem zdK (D:Dq K mg "_law_block" (top 16) ["_law_hand_here","_law_bits_here"]) (h__law_pick:zbl P w K mg base) (h__law_take:za4 P w K mg base) (T:Txt mg):zcq P w K mg base:=by
 obtain ⟨f,fd,D⟩:=D
 refine ⟨f,fd,D,D.okD zbX rfl fun cdv A outer s H E hr=>?_⟩
 refine' ⟨_,(zaf (zbs (i:=2) zbX.nd rfl (Or.inl rfl) (zbV (ze1 rfl) zjt T.min ze9 (zat (dl (zab 1)) (zat (dl (zaN h__law_pick hr (zaa (zab 0) (zaa (zaz (za_ (zaa zac (zaa zac (zaa zac (zaa zac (zaa zac (zaa zac (zaa (zaN h__law_take hr (zaa (zab 0) (zaa (zbh (dl (zab 1)) (dl zac)) zae za3) zad)) (zaa (zab 1) zae zad) zbk) zag) zag) zag) zag) zag) zag))) zae zbP) zad))) zaQ zbk) zad))) (zaj (zas (zao (zaa (zjA (dl (zaN h__law_take hr (zaa (zab 0) (zaa (zbN (dl zac) (dl (zhP (dl (zab 1)) (dl (zab 2))))) zae za3) zad))) (dl (zbN (dl zac) (dl (zab 2))))) (zaa (zab 2) zae zad) za3))))),?_⟩
 intro ts n R hl h
 unfold zbx at h
 split at h
 ·rename_i hd bits
  obtain ⟨rfl,b0,b1,hn,h⟩:=h
  simp only [zfR,zfS,zfQ,u_dC,zik,zfW,zfU,zfV,zdv,zil,zcz,zfT,zf_,zcG,zd4,zd3,zd2,zcH,zd1,zbW,oSub,oMul,oMod,oPow,oShl,isNone,isInt,isBool,isTup,isStr,l_gI,ziS,zeE,zeD,zeC,zhs,zhr,zhj,zhi,zhp,zc2,zhq,zhm,zho,zhn,zez,zey,zex,zeB,zeA,zes,zht,zew,zet,zeu,zb1,zhk,zhl,zc1,zb2,zbm,zaY,zbu,zaW,zbd,zbc,zbe,za2,zaL,capV,List.map_cons,List.map_nil,List.length_cons,List.length_nil,List.replicate_succ,List.replicate_zero,List.cons_append,List.nil_append,List.append_nil,List.getElem?_cons_succ,List.getElem?_cons_zero,List.set_cons_succ,List.set_cons_zero,List.getD_cons_succ,List.getD_cons_zero,Nat.zero_add,Nat.reduceAdd,Nat.reduceSub,Nat.sub_self,true_and,and_true,Bool.false_eq_true,if_true,if_false,ite_true,ite_false,Bool.not_true,Bool.not_false,Int.natCast_zero,za7,zcu]
  refine ⟨by lia,by lia,by lia,fun r r0 r1=>⟨by simp,by decide,by lia,fun x hx=>?_⟩⟩
  have hv:∃ b:Int,x=.int b/\0<=b:=by
   simp only [List.mem_cons,List.not_mem_nil,or_false] at hx
   rcases hx with h | h | h | h | h | h | h | h <;> first | exact ⟨_,h,by decide⟩ | exact ⟨_,h,by lia⟩
  obtain ⟨b,rfl,bb⟩:=hv
  simp only [zfR,zfS,zfQ,u_dC,zik,zfW,zfU,zfV,zdv,zil,zcz,zfT,zf_,zcG,zd4,zd3,zd2,zcH,zd1,zbW,oSub,oMul,oMod,oPow,oShl,isNone,isInt,isBool,isTup,isStr,l_gI,ziS,zeE,zeD,zeC,zhs,zhr,zhj,zhi,zhp,zc2,zhq,zhm,zho,zhn,zez,zey,zex,zeB,zeA,zes,zht,zew,zet,zeu,zb1,zhk,zhl,zc1,zb2,zbm,zaY,zbu,zaW,zbd,zbc,zbe,za2,zaL,capV,List.map_cons,List.map_nil,List.length_cons,List.length_nil,List.replicate_succ,List.replicate_zero,List.cons_append,List.nil_append,List.append_nil,List.getElem?_cons_succ,List.getElem?_cons_zero,List.set_cons_succ,List.set_cons_zero,List.getD_cons_succ,List.getD_cons_zero,Nat.zero_add,Nat.reduceAdd,Nat.reduceSub,Nat.sub_self,true_and,and_true,Bool.false_eq_true,if_true,if_false,ite_true,ite_false,Bool.not_true,Bool.not_false,Int.natCast_zero,zcu]
  have key:∀ m:Int,0<=m->m<=bits->(CPow 1 (bits - m)/\(0:Int)<1*2 ^ (bits - m).toNat/\1*2 ^ (bits - m).toNat<(2:Int) ^ 128/\n+1+1<=1000000000000/\∀ r:Int,0<=r->r<1*2 ^ (bits - m).toNat->CPow 1 m/\CMul r (1*2 ^ m.toNat)/\R (.tuple [.int (r*(1*2 ^ m.toNat)),.int m]) (n+1+1+1)):=by
   intro m m0 m1
   have e1:(1:Int)*2 ^ (bits - m).toNat=2 ^ (bits - m).toNat:=Int.one_mul _
   have e2:(1:Int)*2 ^ m.toNat=2 ^ m.toNat:=Int.one_mul _
   rw [e1,e2]
   refine ⟨cpow (by lia) (by lia),zbO _,zcU (by lia),by lia,fun k k0 k1=>⟨cpow m0 (by lia),.inl ⟨by lia,?_⟩,?_⟩⟩
   ·have:=zdC (k:=(bits - m).toNat) (by lia);lia
   ·exact h _ m ⟨m0,m1,k,k0,rfl,k1⟩
  exact key (if b<bits then b else bits) (by split <;> lia) (by split <;> lia)
 ·exact h.elim
theorem zaK:FnScope ["_law_hand_here","_law_many","_law_letters","_law_first","_law_step","_law_stem","_law_at"] ["_law_hand_here","_law_many"] (zah (top 17)):=⟨rfl,rfl,rfl,by decide +kernel,rfl,by decide +kernel,by decide +kernel⟩
def nmL (stem:List Nat) (k c:Nat):Str:=⟨(stem.take k++[c]++stem.drop k).toArray⟩
theorem zl6 {stem:List Nat}{k c:Nat} (hl:stem.length<=7) (hs:∀ x∈stem,97<=x/\x<=122) (hc:97<=c/\c<=122):IsNm (nmL stem k c):=by
 have e:(nmL stem k c).cps.toList=stem.take k++[c]++stem.drop k:=rfl
 have l:(nmL stem k c).length=stem.length+1:=by
  rw [<- zaR,e];simp;lia
 refine ⟨by lia,by lia,fun x hx=>?_⟩
 rw [e] at hx
 simp only [List.mem_append,List.mem_singleton] at hx
 rcases hx with (hx | rfl) | hx
 ·exact hs x (List.mem_of_mem_take hx)
 ·exact hc
 ·exact hs x (List.mem_of_mem_drop hx)
theorem zkj {stem:List Nat}{k c d:Nat} (h:nmL stem k c=nmL stem k d):c=d:=by
 have e:stem.take k++[c]++stem.drop k=stem.take k++[d]++stem.drop k:=congrArg (fun s:Str=>s.cps.toList) h
 rw [List.append_assoc,List.append_assoc] at e
 have:=List.append_cancel_left e
 simpa using this
theorem zhV {step:Int} (h:step=1\/step=3\/step=5\/step=7\/step=9\/step=11) {first i j:Int} (i0:0<=i) (i1:i<26) (j0:0<=j) (j1:j<26) (e:(first+step*i) % 26=(first+step*j) % 26):i=j:=by
 rcases h with rfl | rfl | rfl | rfl | rfl | rfl <;> lia
def zcw:GD:=fun ts n R=>∃ many:Int,ts=[HAND,.int many]/\0<=many/\many<=26/\n<=1000000000000 - 1000/\∀ nms:List Str,nms.length=many.toNat->(∀ s∈nms,IsNm s)->nms.Nodup->R (.list (nms.map .str)) (n+5)
def zco (P:Program) (w:World) (K:PySem.W.Frag) (mg:Str->Option Value) (base:Heap):Prop:=Fq P w K mg base "_law_names" (top 17) ["_law_hand_here","_law_many"] 3 (spD K 2 zcw)
theorem zdI (D:Dq K mg "_law_names" (top 17) ["_law_hand_here","_law_many"]) (h__law_take:za4 P w K mg base) (h__law_pick:zbl P w K mg base) (T:Txt mg):zco P w K mg base:=by
 obtain ⟨f,fd,D⟩:=D
 refine ⟨f,fd,D,D.okD zaK rfl fun cdv A outer s H E hr=>?_⟩
 refine' ⟨_,(zaf (zbs (i:=2) zaK.nd rfl (Or.inr rfl) zap) (zaf (zhK (zao (zaa (zaN h__law_take hr (zaa (zab 0) (zaa zac zae zag) zad)) (zaa (zaN h__law_pick hr (zaa (zab 0) (zaa (zaz (za_ (zaa zac (zaa zac (zaa zac (zaa zac (zaa zac (zaa zac zae zag) zag) zag) zag) zag) zag))) zae zbP) zad)) zae zbk) zbk)) (zgg rfl (zbg (zaJ (i:=3) zaK.nd rfl (Or.inr rfl)) (zbg (zaJ (i:=4) zaK.nd rfl (Or.inr rfl)) zdV)))) (zaf (zbs (i:=5) zaK.nd rfl (Or.inr rfl) (zkK (dl (zby (dl (zab 2)) (dl (zaN h__law_take hr (zaa (zab 0) (zaa zac zae zag) zad))))) (dl (zaN h__law_pick hr (zaa (zab 0) (zaa (zaz (za_ (zaa zac (zaa zac (zaa zac (zaa zac (zaa zac zae zag) zag) zag) zag) zag))) zae zbP) zad))))) (zaf (zbs (i:=6) zaK.nd rfl (Or.inr rfl) (zaN h__law_take hr (zaa (zab 0) (zaa (zbh (dl (zbV za1 zb3 T.len zaO (zat (dl (zab 5)) zaQ zad))) (dl zac)) zae za3) zad))) (zaj (zas (zaz (zch (own:=["_law_k"]) (capt:=[5,2,6,3,4]) rfl (CompScope.of rfl) (dil (zc5 T.ran (zab 1))) (fun _ _ _ _=>(zaJ (i:=0) (by show (["_law_k","_law_stem","_law_letters","_law_at","_law_first","_law_step"]:List Str).Nodup;decide +kernel) rfl (Or.inl rfl))) (by decide) (fun _ _ _ _=>zcf) (fun _ _ _ _=>(zbh (dl (zbh (dl (zbj (dl (zab 1)) zcg (zbU (zab 3)))) (dl (zby (dl (zab 2)) (dl (zjB (dl (zbh (dl (zab 4)) (dl (zjA (dl (zab 5)) (dl (zab 0)))))) (dl zac))))))) (dl (zbj (dl (zab 1)) (zbU (zab 3)) zcg)))))))))))),?_⟩
 intro ts n R hl h
 obtain ⟨many,rfl,m0,m1,hn,h⟩:=h
 wp_walk using zh2 ?_ ?_ ?_ (fun r r0 r1=>?_),zc_ ?_ ?_ ?_ (fun x hx=>?_)
 all_goals first | lia | exact cpow (by lia) (by lia) | (simp;done) | skip
 rename_i first f0 f1
 revert r r0 r1
 intro l l0 l1
 obtain ⟨step,rfl,hstep⟩:∃ s:Int,x=.int s/\(s=1\/s=3\/s=5\/s=7\/s=9\/s=11):=by
  simp only [List.mem_cons,List.not_mem_nil,or_false] at hx
  rcases hx with rfl | rfl | rfl | rfl | rfl | rfl <;> exact ⟨_,rfl,by simp⟩
 refine zmk (k:=l.toNat) (by decide) (by lia) (letters (by lia)) ?_
 wp_walk using zc_ ?_ ?_ ?_ (fun y hy=>?_)
 all_goals first | lia | exact cpow (by lia) (by lia) | (simp;done) | skip
 obtain ⟨m,rfl,mm0,mm7⟩:∃ m:Int,y=.int m/\0<=m/\m<=7:=by
  simp only [List.mem_cons,List.not_mem_nil,or_false] at hy
  rcases hy with rfl | rfl | rfl | rfl | rfl <;> exact ⟨_,rfl,by decide,by decide⟩
 have stc:(repS (⟨#[97+l.toNat]⟩:Str) m).cps.toList=List.replicate m.toNat (97+l.toNat):=by
  rw [ziz]
  show (List.replicate m.toNat [97+l.toNat]).flatten=_
  generalize m.toNat=k
  induction k with
  | zero=>rfl
  | succ k ih=>rw [List.replicate_succ,List.flatten_cons,ih,List.replicate_succ];rfl
 have stl:(repS (⟨#[97+l.toNat]⟩:Str) m).length=m.toNat:=by rw [<- zaR,stc,List.length_replicate]
 wp_walk using zh2 ?_ ?_ ?_ (fun a a0 a1=>?_)
 ·lia
 ·lia
 ·show 1<=100;decide
 ·rw [stl];lia
 ·rw [stl];lia
 ·rw [stl];lia
 ·lia
 ·lia
 ·lia
 rw [stl] at a1
 generalize repS (⟨#[97+l.toNat]⟩:Str) m=stem at stc stl
 have sok:∀ x∈stem.cps.toList,97<=x/\x<=122:=fun x hx=>by
  rw [stc] at hx
  have:=List.eq_of_mem_replicate hx
  lia
 refine zbz (cs:=List.range many.toNat) (D:=fun (i:Nat)=>.int (0+(i:Int))) (fun i=>.str (nmL stem.cps.toList a.toNat (97+((first+step*(i:Int)) % 26).toNat))) (by simp;lia) ?_ ?_
 ·intro i hi K2 X2 hK2
  have hi:=List.mem_range.mp hi
  have q0:0<=(first+step*(0+(i:Int))) % 26:=Int.emod_nonneg _ (by decide)
  have q1:(first+step*(0+(i:Int))) % 26<26:=Int.emod_lt_of_pos _ (by decide)
  wp_walk using zmk (k:=((first+step*(0+(i:Int))) % 26).toNat) (by decide) (by lia) (letters (by lia)) ?_
  all_goals first
   | lia
   | exact .inl ⟨by lia,by lia⟩
   | skip
  ·have l3:(cutS stem none (some a)).length<=7:=by
    rw [<- zaR,zc6 (k:=a.toNat) (by lia)]
    have:=zaR stem
    simp;lia
   show (cutS stem none (some a)).length+1<=16777216
   lia
  ·have l3:(cutS stem none (some a)).length<=7:=by
    rw [<- zaR,zc6 (k:=a.toNat) (by lia)]
    have:=zaR stem
    simp;lia
   have l4:(cutS stem (some a) none).length<=7:=by
    rw [<- zaR,zeZ (k:=a.toNat) (by lia) (by lia),List.length_drop]
    have:=zaR stem
    lia
   rw [<- zaR,zfO,List.length_append,zaR]
   show _+1+_<=_
   lia
  ·have e:(cutS stem none (some a)++(⟨#[97+((first+step*(0+(i:Int))) % 26).toNat]⟩:Str)++cutS stem (some a) none)=nmL stem.cps.toList a.toNat (97+((first+step*(i:Int)) % 26).toNat):=by
    apply L2.Str.ext'
    rw [zfO,zfO,zc6 (k:=a.toNat) (by lia),zeZ (k:=a.toNat) (by lia) (by lia),Int.zero_add]
    rfl
   rw [e];exact hK2
 ·have e:((List.range many.toNat).map fun (i:Nat)=>PyData.str (nmL stem.cps.toList a.toNat (97+((first+step*(i:Int)) % 26).toNat)))=((List.range many.toNat).map fun (i:Nat)=>nmL stem.cps.toList a.toNat (97+((first+step*(i:Int)) % 26).toNat)).map .str:=by rw [List.map_map];rfl
  rw [e]
  have md:∀ i:Nat,0<=(first+step*(i:Int)) % 26/\(first+step*(i:Int)) % 26<26:=fun i=>⟨Int.emod_nonneg _ (by decide),Int.emod_lt_of_pos _ (by decide)⟩
  refine h _ (by simp) (fun s hs=>?_) ?_
  ·obtain ⟨i,hi,rfl⟩:=List.mem_map.mp hs
   have:=md i
   have:=zaR stem
   exact zl6 (by lia) sok (by lia)
  ·rw [List.Nodup,List.pairwise_map]
   refine List.Pairwise.imp_of_mem ?_ (List.nodup_range (n:=many.toNat))
   intro i j hi hj ne e
   have hi:=List.mem_range.mp hi
   have hj:=List.mem_range.mp hj
   have e':=zkj e
   have:=md i
   have:=md j
   have:=zhV hstep (first:=first) (i:=i) (j:=j) (by lia) (by lia) (by lia) (by lia) (by lia)
   exact ne (by lia)
theorem zaA:FnScope ["_law_hand_here","_law_bits_here","_law_name","_law_height","_law_block_here","_law_goal","_law_address","_law_found"] ["_law_hand_here","_law_bits_here"] (zah (top 18)):=⟨rfl,rfl,rfl,by decide +kernel,rfl,by decide +kernel,by decide +kernel⟩
def wT (s:String) (nm:Str) (r:List PyData):PyData:=.tuple (.str (Str.ofString s)::.str nm::r)
def dedL (nm:Str) (ht ad i h j:Int):List PyData:=[wT "take" nm [.int ht],wT "near" nm [.int ht,.int ad],wT "move" nm [.tuple [.int i,.int h],.tuple [.int j,.int h]],
 wT "give" nm [.tuple [.int i,.int h]],wT "grow" nm [.tuple [.int i,.int h]],wT "keep" nm [.tuple [.int i,.int h]],wT "loose" nm [.tuple [.int i,.int h]]]
structure DedOk (bits:Int) (nm:Str) (ht ad i h j:Int):Prop where
 n:IsNm nm
 t0:0<=ht
 t1:ht<=bits
 a0:0<=ad
 a1:ad<2 ^ bits.toNat
 b:IsBk bits i h
 g:IsBk bits j h
def zcx:GD:=fun ts n R=>∃ bits:Int,ts=[HAND,.int bits]/\1<=bits/\bits<=64/\n<=1000000000000 - 2000/\∀ (nm:Str) (ht ad i h j:Int),DedOk bits nm ht ad i h j->R (.list (dedL nm ht ad i h j)) (n+11)
theorem ze6 {bits:Int}{n:Nat}{R:PyData->Nat->Prop} (b0:1<=bits) (b1:bits<=64) (hn:n<=1000000000000 - 2000) (h:∀ (nm:Str) (ht ad i h j:Int),DedOk bits nm ht ad i h j->R (.list (dedL nm ht ad i h j)) (n+11)):zcx [HAND,.int bits] n R:=⟨bits,rfl,b0,b1,hn,h⟩
def zcp (P:Program) (w:World) (K:PySem.W.Frag) (mg:Str->Option Value) (base:Heap):Prop:=Fq P w K mg base "_law_deeds" (top 18) ["_law_hand_here","_law_bits_here"] 4 (spD K 2 zcx)
theorem zdJ (D:Dq K mg "_law_deeds" (top 18) ["_law_hand_here","_law_bits_here"]) (h__law_block:zcq P w K mg base) (h__law_take:za4 P w K mg base) (h__law_names:zco P w K mg base) (T:Txt mg):zcp P w K mg base:=by
 obtain ⟨f,fd,D⟩:=D
 refine ⟨f,fd,D,D.okD zaA rfl fun cdv A outer s H E hr=>?_⟩
 refine' ⟨_,(zaf (zhK (zao (zaa (zby (dl (zaN h__law_names hr (zaa (zab 0) (zaa zac zae zag) zad))) (dl zac)) (zaa (zaN h__law_take hr (zaa (zab 0) (zaa (zbh (dl (zab 1)) (dl zac)) zae za3) zad)) zae zbk) zdg)) (zgg rfl (zbg (zaJ (i:=2) zaA.nd rfl (Or.inr rfl)) (zbg (zaJ (i:=3) zaA.nd rfl (Or.inl rfl)) zdV)))) (zaf (zbs (i:=4) zaA.nd rfl (Or.inr rfl) (zaN h__law_block hr (zaa (zab 0) (zaa (zab 1) zae zad) zad))) (zaf (zbs (i:=5) zaA.nd rfl (Or.inl rfl) (zao (zaa (zbN (dl (zaN h__law_take hr (zaa (zab 0) (zaa (zbN (dl zac) (dl (zhP (dl (zab 1)) (dl (zby (dl (zab 4)) (dl zac)))))) zae za3) zad))) (dl (zby (dl (zab 4)) (dl zac)))) (zaa (zby (dl (zab 4)) (dl zac)) zae zdg) za3))) (zaf (zbs (i:=6) zaA.nd rfl (Or.inl rfl) (zaN h__law_take hr (zaa (zab 0) (zaa (zbN (dl zac) (dl (zab 1))) zae za3) zad))) (zaf (zbs (i:=7) zaA.nd rfl (Or.inl rfl) (zaz (za_ (zaa (zao (zaa zap (zaa (zab 2) (zaa (zab 3) zae zad) zad) zau)) (zaa (zao (zaa zap (zaa (zab 2) (zaa (zab 3) (zaa (zab 6) zae zad) zad) zad) zau)) (zaa (zao (zaa zap (zaa (zab 2) (zaa (zab 4) (zaa (zab 5) zae zad) zad) zad) zau)) zae zam) zam) zam)))) (zaj (zas (zaz (zdr (dl (zab 7)) (dl (zaz (zch (own:=["_law_word"]) (capt:=[2,4]) rfl (CompScope.of rfl) (dil (zjx (zao (zaa zap (zaa zap (zaa zap (zaa zap zae zau) zau) zau) zau)))) (fun _ _ _ _=>(zaJ (i:=0) (by show (["_law_word","_law_name","_law_block_here"]:List Str).Nodup;decide +kernel) rfl (Or.inl rfl))) (by decide) (fun _ _ _ _=>zcf) (fun _ _ _ _=>(zao (zaa (zab 0) (zaa (zab 1) (zaa (zab 2) zae zad) zad) zad))))))))))))))),?_⟩
 intro ts n R hl h
 obtain ⟨bits,rfl,b0,b1,hn,h⟩:=h
 have nms:∀ {n:Nat} {R:PyData->Nat->Prop},n<=1000000000000 - 1000->(∀ s:Str,IsNm s->R (.list [.str s]) (n+5))->zcw [HAND,.int 1] n R:=fun {n R} hn z=>⟨1,rfl,by lia,by lia,hn,fun nms l hs _=>by
  match nms,l,hs with
  | [s],_,hs=>exact z s (hs s (by simp))⟩
 wp_walk using nms (by lia) (fun s hs=>?_),zh2 ?_ ?_ ?_ (fun r r0 r1=>?_),ze7 b0 b1 (by lia) (fun i g hb=>?_)
 ·lia
 ·lia
 ·lia
 ·exact cpow (by have:=hb.2.1;lia) (by have:=hb.1;lia)
 ·rw [za0];exact zbO _
 ·rw [za0];exact zcU (by have:=hb.1;lia)
 ·lia
 ·rw [za0] at r1
  have:=hb.1
  have:=hb.2.1
  have:=zdC (k:=(bits - g).toNat) (by lia)
  exact ⟨by lia,by lia,by lia⟩
 ·exact cpow (by lia) (by lia)
 ·rw [za0];exact zbO _
 ·rw [za0];exact zcU (by lia)
 ·lia
 refine zbz (cs:=[Str.ofString "give",Str.ofString "grow",Str.ofString "keep",Str.ofString "loose"]) (D:=PyData.str) (fun z=>.tuple [.str z,.str s,.tuple [.int i,.int g]]) (by decide) ?_ ?_
 ·intro z hz K2 X2 hK2
  wp_walk
  exact hK2
 ·wp_walk
  all_goals first | (simp;done) | skip
  rename_i q q0 q1 u u0 u1
  rw [za0] at r1 u1
  exact h s q r i g _ ⟨hs,q0,by lia,r0,r1,hb,hb.1,hb.2.1,u,u0,rfl,u1⟩
theorem zaT:FnScope ["_law_bits_here","_law_deed","_law_at","_law_odd"] ["_law_bits_here","_law_deed","_law_at"] (zah (top 19)):=⟨rfl,rfl,rfl,by decide +kernel,rfl,by decide +kernel,by decide +kernel⟩
def oddC:List PyData:=[.none,.bool true,.bool false,.str (Str.ofString ""),.str (Str.ofString "A"),.list [],.dict [],.tuple [.int 0],.tuple [.int 0,.int 0,.int 0],.int (-1),.int (10 ^ 30),.list [.int 0,.int 0]]
def odd0:List PyData:=oddC++[.str (Str.ofString "Take"),.str (Str.ofString "takes"),.str (Str.ofString ""),.str (Str.ofString "give "),.str (Str.ofString "put"),.tuple [.str (Str.ofString "take")]]
def odd1:List PyData:=oddC++[.str (Str.ofString "abcdefghi"),.str (Str.ofString "a b"),.str (Str.ofString "a1"),.int 5,.tuple [.str (Str.ofString "a")]]
def isWd:PyData->Bool | .str w=>(getT zan w).isSome | _=>false
theorem zhg:∀ u∈odd0,plnD u=true/\isWd u=false:=by decide +kernel
theorem zhf:∀ u∈odd1,plnD u=true/\nmD u=false:=by decide +kernel
theorem zfn:∀ u∈oddC,plnD u=true:=by decide +kernel
theorem zdW {bits:Int}{u nm:PyData}{ps:List PyData} (h:isWd u=false):dedD bits (.tuple (u::nm::ps))=false:=by
 cases u with
 | str w =>
  have h:(getT zan w).isSome=false:=h
  have e:dedD bits (.tuple (.str w::nm::ps))=(nmD nm&&prtD bits w ps):=rfl
  rw [e]
  unfold prtD
  cases g:getT zan w with
  | none=>simp
  | some ks=>rw [g] at h;cases h
 | _=>rfl
theorem zdX {bits:Int}{u nm:PyData}{ps:List PyData} (h:nmD nm=false):dedD bits (.tuple (u::nm::ps))=false:=by
 cases u with
 | str w =>
  have e:dedD bits (.tuple (.str w::nm::ps))=(nmD nm&&prtD bits w ps):=rfl
  rw [e,h,Bool.false_and]
 | _=>rfl
theorem zaI {bits:Int}{w:Str}{nm:PyData}{ps:List PyData} (h:prtD bits w ps=false):dedD bits (.tuple (.str w::nm::ps))=false:=by
 have e:dedD bits (.tuple (.str w::nm::ps))=(nmD nm&&prtD bits w ps):=rfl
 rw [e,h,Bool.and_false]
theorem zf3 {bits:Int}{w:Str}{ps:List PyData}{ks:List Str} (g:getT zan w=some ks):prtD bits w ps=(decide (ps.length=ks.length)&&((ks.zip ps).all fun q=>ptD bits q.1 q.2)&&(decide (w≠Str.ofString "move")||hEq ps)):=by
 unfold prtD;rw [g]
theorem zdn {bits:Int}{w:Str}{ps:List PyData}{ks:List Str} (g:getT zan w=some ks) {q:Str×PyData} (m:q∈ks.zip ps) (h:ptD bits q.1 q.2=false):prtD bits w ps=false:=by
 rw [zf3 g]
 have:((ks.zip ps).all fun q=>ptD bits q.1 q.2)=false:=List.all_eq_false.mpr ⟨q,m,by simp [h]⟩
 rw [this,Bool.and_false,Bool.false_and]
theorem zl2 {bits:Int} (b1:bits<=64):∀ u∈oddC,htD bits u=false:=fun u hu=>by
 simp only [oddC,List.mem_cons,List.not_mem_nil,or_false] at hu
 rcases hu with rfl | rfl | rfl | rfl | rfl | rfl | rfl | rfl | rfl | rfl | rfl | rfl <;> first | rfl | (simp only [htD];simp;try lia)
theorem zl4 {bits:Int} (b1:bits<=64):∀ u∈oddC,adD bits u=false:=fun u hu=>by
 have:=zdC (k:=bits.toNat) (by lia)
 simp only [oddC,List.mem_cons,List.not_mem_nil,or_false] at hu
 rcases hu with rfl | rfl | rfl | rfl | rfl | rfl | rfl | rfl | rfl | rfl | rfl | rfl <;> first | rfl | (simp only [adD];simp;try lia)
theorem zl3 {bits:Int}:∀ u∈oddC,zaH bits u=false:=fun u hu=>by
 simp only [oddC,List.mem_cons,List.not_mem_nil,or_false] at hu
 rcases hu with rfl | rfl | rfl | rfl | rfl | rfl | rfl | rfl | rfl | rfl | rfl | rfl <;> rfl
def odd2 (bits:Int):List PyData:=[.int 0,.tuple [.int (1*2 ^ bits.toNat),.int 0],.tuple [.int 0,.int (bits+1)],.tuple [.int (-1),.int 0],.tuple [.int 0,.int (-1)],.tuple [.int 1,.int 1],.tuple [.bool true,.int 0],.tuple [.int 0,.bool false],.tuple [.tuple [.int 0,.int 0],.str (Str.ofString "a")]]
theorem zkf {bits:Int} (b0:0<=bits):∀ u∈odd2 bits,zaH bits u=false:=fun u hu=>by
 simp only [odd2,List.mem_cons,List.not_mem_nil,or_false] at hu
 rcases hu with rfl | rfl | rfl | rfl | rfl | rfl | rfl | rfl | rfl <;> first | rfl | (simp only [zaH];rw [decide_eq_false_iff_not];simp;try lia)
theorem zke {bits:Int}:∀ u∈odd2 bits,plnD u=true:=fun u hu=>by
 simp only [odd2,List.mem_cons,List.not_mem_nil,or_false] at hu
 have pr:∀ {x y:PyData},PlnD x->PlnD y->PlnD (.tuple [x,y]):=fun hx hy=>zav (by simp) (zak hx (zak hy zaB))
 rcases hu with rfl | rfl | rfl | rfl | rfl | rfl | rfl | rfl | rfl
 ·exact zai
 ·exact pr zai zai
 ·exact pr zai zai
 ·exact pr zai zai
 ·exact pr zai zai
 ·exact pr zai zai
 ·exact pr zcV zai
 ·exact pr zai zcV
 ·exact pr (pr zai zai) (zaZ (by decide +kernel))
theorem zbD {bits:Int}{d:PyData}:ptD bits (Str.ofString "height") d=htD bits d:=by unfold ptD;rw [if_pos rfl]
theorem zcS {bits:Int}{d:PyData}:ptD bits (Str.ofString "address") d=adD bits d:=by unfold ptD;rw [if_neg (by decide +kernel),if_pos rfl]
theorem zb4:getT zan (Str.ofString "take")=some [Str.ofString "height"]:=by decide +kernel
theorem zdN:getT zan (Str.ofString "near")=some [Str.ofString "height",Str.ofString "address"]:=by decide +kernel
theorem zhG:getT zan (Str.ofString "give")=some [Str.ofString "block"]:=by decide +kernel
theorem zhE:getT zan (Str.ofString "grow")=some [Str.ofString "block"]:=by decide +kernel
theorem zhu:getT zan (Str.ofString "keep")=some [Str.ofString "block"]:=by decide +kernel
theorem zf9:getT zan (Str.ofString "loose")=some [Str.ofString "block"]:=by decide +kernel
def zm9 (bits:Int) (ts:List PyData) (k:Nat) (us:List PyData):Prop:=us.length<=60/\∀ u∈us,PlnD u/\dedD bits (.tuple (ts.take k++[u]++ts.drop (k+1)))=false
def zbr:GD:=fun as n R=>∃ (bits:Int) (nm:Str) (ht ad i h j a:Int) (ts:List PyData),as=[.int bits,.tuple ts,.int a]/\1<=bits/\bits<=64/\DedOk bits nm ht ad i h j/\.tuple ts∈dedL nm ht ad i h j/\0<=a/\a<ts.length/\∀ us,zm9 bits ts a.toNat us->R (.list us) n
theorem zcy {bits:Int}{nm:Str}{ht ad i h j a:Int}{ts:List PyData}{n:Nat}{R:PyData->Nat->Prop} (b0:1<=bits) (b1:bits<=64) (d:DedOk bits nm ht ad i h j) (m:.tuple ts∈dedL nm ht ad i h j) (a0:0<=a) (a1:a<ts.length) (z:∀ us,zm9 bits ts a.toNat us->R (.list us) n):zbr [.int bits,.tuple ts,.int a] n R:=⟨bits,nm,ht,ad,i,h,j,a,ts,rfl,b0,b1,d,m,a0,a1,z⟩
theorem zdc {p:PyData->Prop}{xs ys:List PyData} (h:∀ u∈xs,p u) (h':∀ u∈ys,p u):∀ u∈xs++ys,p u:=fun u hu=>(List.mem_append.mp hu).elim (h u) (h' u)
theorem all_cons {p:PyData->Prop}{x:PyData}{ys:List PyData} (h:p x) (h':∀ u∈ys,p u):∀ u∈x::ys,p u:=fun u hu=>(List.mem_cons.mp hu).elim (fun e=>e▸h) (h' u)
theorem all_nil {p:PyData->Prop}:∀ u∈([]:List PyData),p u:=fun u h=>nomatch h
theorem zdL {bits:Int} (b1:bits<=64):∀ u∈oddC++[.int (bits+1),.str (Str.ofString "0"),.tuple [.int 0,.int 0]],PlnD u/\htD bits u=false :=
 zdc (fun u hu=>⟨zfn u hu,zl2 b1 u hu⟩) (all_cons ⟨zai,by simp only [htD];simp;try lia⟩ (all_cons ⟨zaZ (by decide +kernel),rfl⟩ (all_cons ⟨zav (by simp) (zak zai (zak zai zaB)),rfl⟩ all_nil)))
theorem zhe {bits:Int} (b1:bits<=64):∀ u∈oddC++[.int (1*2 ^ bits.toNat),.str (Str.ofString "0"),.tuple [.int 0,.int 0]],PlnD u/\adD bits u=false :=
 zdc (fun u hu=>⟨zfn u hu,zl4 b1 u hu⟩) (all_cons ⟨zai,by simp only [adD];simp;try lia⟩ (all_cons ⟨zaZ (by decide +kernel),rfl⟩ (all_cons ⟨zav (by simp) (zak zai (zak zai zaB)),rfl⟩ all_nil)))
theorem zb_ {bits:Int} (b0:0<=bits):∀ u∈oddC++odd2 bits,PlnD u/\zaH bits u=false:=zdc (fun u hu=>⟨zfn u hu,zl3 u hu⟩) fun u hu=>⟨zke u hu,zkf b0 u hu⟩
theorem zjT {bits:Int}{w:Str}{u:PyData} (g:getT zan w=some [Str.ofString "block"]) (h:zaH bits u=false):prtD bits w [u]=false:=zdn g (q:=(Str.ofString "block",u)) (by simp) (za5.trans h)
theorem zjS {bits:Int}{u v:PyData} (h:zaH bits u=false):prtD bits (Str.ofString "move") [u,v]=false:=zdn zca (q:=(Str.ofString "block",u)) (by simp) (za5.trans h)
theorem zjR {bits:Int}{u v:PyData} (h:zaH bits v=false):prtD bits (Str.ofString "move") [u,v]=false:=zdn zca (q:=(Str.ofString "block",v)) (by simp) (za5.trans h)
theorem zlz {bits i h j g:Int} (ne:h≠g):prtD bits (Str.ofString "move") [.tuple [.int i,.int h],.tuple [.int j,.int g]]=false:=by
 rw [zf3 zca,decide_eq_false (fun z:Str.ofString "move" ≠ Str.ofString "move"=>z rfl)]
 have:hEq [.tuple [.int i,.int h],.tuple [.int j,.int g]]=false:=decide_eq_false ne
 rw [this,Bool.or_false,Bool.and_false]
def zbq (P:Program) (w:World) (K:PySem.W.Frag) (mg:Str->Option Value) (base:Heap):Prop:=Fq P w K mg base "_law_odd_parts" (top 19) ["_law_bits_here","_law_deed","_law_at"] 1 (spD K 3 zbr)
theorem zb9 (D:Dq K mg "_law_odd_parts" (top 19) ["_law_bits_here","_law_deed","_law_at"]) (T:Txt mg):zbq P w K mg base:=by
 obtain ⟨f,fd,D⟩:=D
 refine ⟨f,fd,D,D.okD zaT rfl fun cdv A outer s H E hr=>?_⟩
 refine' ⟨_,(zaf (zjw (i:=3) zaT.nd rfl (Or.inl rfl) (za_ (zaa zhQ (zaa zbb (zaa zbb (zaa zap (zaa zap (zaa (zaz (za_ zae)) (zaa zgi (zaa (zao (zaa zac zae zag)) (zaa (zao (zaa zac (zaa zac (zaa zac zae zag) zag) zag)) (zaa (zeY zac) (zaa (zm2 (dl zac) (dl zac)) (zaa (zaz (za_ (zaa zac (zaa zac zae zag) zag))) zae zbP) za3) zjI) zam) zam) zgQ) zbP) zau) zau) zcJ) zcJ) zff))) (zaf (zbt (za8 (zcZ hr) zfB (dl (zab 2)) (dl zac) (zaM _)) (zbG 3 (zaj (zas (zaz (zdr (dl (zab 3)) (dl (zaz (za_ (zaa zap (zaa zap (zaa zap (zaa zap (zaa zap (zaa (zao (zaa zap zae zau)) zae zam) zau) zau) zau) zau) zau))))))))) zaF) (zaf (zbt (za8 (zcZ hr) zfB (dl (zab 2)) (dl zac) (zaM _)) (zbG 3 (zaj (zas (zaz (zdr (dl (zab 3)) (dl (zaz (za_ (zaa zap (zaa zap (zaa zap (zaa zac (zaa (zao (zaa zap zae zau)) zae zam) zag) zau) zau) zau))))))))) zaF) (zaf (zbt (za8 (zlX hr) zoZ (dl (zby (dl (zab 1)) (dl zac))) (dl (zao (zaa zap (zaa zap zae zau) zau))) rfl) (zbG 3 (zaj (zas (zaz (zdr (dl (zab 3)) (dl (zaz (za_ (zaa (zby (dl (zaz (za_ (zaa (zbh (dl (zab 0)) (dl zac)) (zaa (zbN (dl zac) (dl (zab 0))) zae za3) za3)))) (dl (zhP (dl (zab 2)) (dl zac)))) (zaa zap (zaa (zao (zaa zac (zaa zac zae zag) zag)) zae zam) zau) zdg))))))))) zaF) (zaf (zjw (i:=3) zaT.nd rfl (Or.inl rfl) (zdr (zmY 3) (dl (zaz (za_ (zaa zac (zaa (zao (zaa (zbN (dl zac) (dl (zab 0))) (zaa zac zae zag) za3)) (zaa (zao (zaa zac (zaa (zbh (dl (zab 0)) (dl zac)) zae za3) zag)) (zaa (zao (zaa (zeY zac) (zaa zac zae zag) zjI)) (zaa (zao (zaa zac (zaa (zeY zac) zae zjI) zag)) (zaa (zao (zaa zac (zaa zac zae zag) zag)) (zaa (zao (zaa zbb (zaa zac zae zag) zcJ)) (zaa (zao (zaa zac (zaa zbb zae zcJ) zag)) (zaa (zao (zaa (zao (zaa zac (zaa zac zae zag) zag)) (zaa zap zae zau) zam)) zae zam) zam) zam) zam) zam) zam) zam) zam) zag)))))) (zaf (zbt (za8 (zcZ hr) zfB (dl (zab 2)) (dl zac) (zaM _)) (zaj (zhL 3 (zao (zaa zac (zaa (zja (za8 (zei hr) zeT (dl (zby (dl (zby (dl (zab 1)) (dl zac))) (dl zac))) (dl (zab 0)) (zaM _)) (zbh (dl (zby (dl (zby (dl (zab 1)) (dl zac))) (dl zac))) (dl zac)) zac) zae znR) zag)))) zaF) (zbG 3 (zaj (zas (zab 3)))))))))),?_⟩
 intro as n R hl h
 obtain ⟨bits,nm,ht,ad,i,h,j,a,ts,rfl,b0,b1,D,m,a0,a1,z⟩:=h
 have form:∃ w ps,ts=.str w::.str nm::ps/\((w=Str.ofString "take" /\ ps=[.int ht])\/(w=Str.ofString "near" /\ ps=[.int ht,.int ad])\/(w=Str.ofString "move" /\ ps=[.tuple [.int i,.int h],.tuple [.int j,.int h]]) \/
   ((w=Str.ofString "give" \/ w=Str.ofString "grow" \/ w=Str.ofString "keep" \/ w=Str.ofString "loose")/\ps=[.tuple [.int i,.int h]])):=by
  simp only [dedL,wT,List.mem_cons,List.not_mem_nil,or_false,PyData.tuple.injEq] at m
  rcases m with rfl | rfl | rfl | rfl | rfl | rfl | rfl <;> refine ⟨_,_,rfl,?_⟩ <;> simp
 obtain ⟨w,ps,rfl,fw⟩:=form
 have okw:Okd (.str w):=by
  rcases fw with ⟨rfl,_⟩ | ⟨rfl,_⟩ | ⟨rfl,_⟩ | ⟨rfl | rfl | rfl | rfl,_⟩ <;> exact ⟨by decide +kernel,by decide +kernel⟩
 wp_walk
 ·exact ⟨by decide,by decide,by decide⟩
 ·decide
 ·subst hc
  exact z odd0 ⟨by decide,fun u hu=>⟨(zhg u hu).1,zdW (zhg u hu).2⟩⟩
 ·decide
 ·subst hc
  exact z odd1 ⟨by decide,fun u hu=>⟨(zhf u hu).1,zdX (zhf u hu).2⟩⟩
 ·exact okw
 ·intro t ht
  simp only [List.mem_cons,List.not_mem_nil,or_false] at ht
  rcases ht with rfl | rfl <;> exact ⟨by decide +kernel,by decide +kernel⟩
 ·exact cpow (by lia) (by lia)
 ·rename_i n0 n1
  have la:a<(ps.length:Int)+2:=by simp at a1;lia
  have wk:(w=Str.ofString "take" /\ ps=[.int ht])\/(w=Str.ofString "near" /\ ps=[.int ht,.int ad]):=by
   rcases fw with f | f | ⟨rfl,_⟩ | ⟨rfl | rfl | rfl | rfl,_⟩
   ·exact .inl f
   ·exact .inr f
   all_goals exact absurd hc (by decide +kernel)
  rcases wk with ⟨rfl,rfl⟩ | ⟨rfl,rfl⟩
  ·have ea:a=2:=by simp at la;lia
   subst ea
   show oIx _ (.int 0) _
   wp_walk
   ·show 12+3<=16777216
    decide
   ·refine z _ ⟨by show 15<=60;decide,fun u hu=>⟨(zdL b1 u hu).1,zaI (zdn zb4 (q:=(Str.ofString "height",u)) (by simp) (zbD.trans (zdL b1 u hu).2))⟩⟩
  ·have ea:a=2\/a=3:=by simp at la;lia
   rcases ea with rfl | rfl
   ·show oIx _ (.int 0) _
    wp_walk
    ·show 12+3<=16777216
     decide
    ·refine z _ ⟨by show 15<=60;decide,fun u hu=>⟨(zdL b1 u hu).1,zaI (zdn zdN (q:=(Str.ofString "height",u)) (by simp) (zbD.trans (zdL b1 u hu).2))⟩⟩
   ·show oIx _ (.int 1) _
    wp_walk
    ·show 12+3<=16777216
     decide
    ·refine z _ ⟨by show 15<=60;decide,fun u hu=>⟨(zhe b1 u hu).1,zaI (zdn zdN (q:=(Str.ofString "address",u)) (by simp) (zcS.trans (zhe b1 u hu).2))⟩⟩
 ·exact cpow (by lia) (by lia)
 ·show 12+9<=16777216
  decide
 ·rename_i nb
  subst hc
  have la:(3:Int)<(ps.length:Int)+2:=by simp at a1;lia
  have wk:w=Str.ofString "move" /\ ps=[.tuple [.int i,.int h],.tuple [.int j,.int h]]:=by
   rcases fw with ⟨rfl,rfl⟩ | ⟨rfl,rfl⟩ | f | ⟨_,rfl⟩
   ·simp at la
   ·exact absurd nb (by decide +kernel)
   ·exact f
   ·simp at la
  obtain ⟨rfl,rfl⟩:=wk
  have fin:∀ g:Int,h≠g->R (.list ((oddC++odd2 bits)++[.tuple [.int 0,.int g]])) n:=fun g ne=>z _ ⟨by show 22<=60;decide,zdc (fun u hu=>⟨(zb_ (by lia) u hu).1,zaI (zjR (zb_ (by lia) u hu).2)⟩) (all_cons ⟨zav (by simp) (zak zai (zak zai zaB)),zaI (zlz ne)⟩ all_nil)⟩
  wp_walk
  ·show 21<16777216
   decide
  ·exact fin (h+1) (by lia)
  ·show 21<16777216
   decide
  ·exact fin 0 (by have:=D.b.2.1;lia)
 ·rename_i n0 n1 nb
  have la:a<(ps.length:Int)+2:=by simp at a1;lia
  rcases fw with ⟨rfl,rfl⟩ | ⟨rfl,rfl⟩ | ⟨rfl,rfl⟩ | ⟨fw,rfl⟩
  ·exact absurd nb (by decide +kernel)
  ·exact absurd nb (by decide +kernel)
  ·have ea:a=2:=by simp at la;lia
   subst ea
   exact z _ ⟨by show 21<=60;decide,fun u hu=>⟨(zb_ (by lia) u hu).1,zaI (zjS (zb_ (by lia) u hu).2)⟩⟩
  ·have ea:a=2:=by simp at la;lia
   subst ea
   have gk:getT zan w=some [Str.ofString "block"]:=by
    rcases fw with rfl | rfl | rfl | rfl <;> decide +kernel
   exact z (oddC++odd2 bits) ⟨by show 21<=60;decide,fun u hu=>⟨(zb_ (by lia) u hu).1,zaI (zjT gk (zb_ (by lia) u hu).2)⟩⟩
theorem zaV:FnScope ["_law_bits_here","_law_deed","_law_found","_law_at"] ["_law_bits_here","_law_deed"] (zah (top 20)):=⟨rfl,rfl,rfl,by decide +kernel,rfl,by decide +kernel,by decide +kernel⟩
theorem zbR {bits:Int}{w:Str}{ps:List PyData}{ks:List Str} (g:getT zan w=some ks) (h:ps.length≠ks.length):prtD bits w ps=false:=by
 rw [zf3 g,decide_eq_false h,Bool.false_and,Bool.false_and]
def NoTx (x:PyData):Prop:=isWd x=false/\nmD x=false/\PlnD x
theorem zdM {i:Int}:NoTx (.int i):=⟨rfl,rfl,zai⟩
theorem zbE {i h:Int}:NoTx (.tuple [.int i,.int h]):=⟨rfl,rfl,zav (by simp) (zak zai (zak zai zaB))⟩
theorem zgh {nm:Str}{ht ad i h j:Int}{ts:List PyData} (m:.tuple ts∈dedL nm ht ad i h j):∃ w ks p,getT zan w=some ks/\NoTx p/\w.length<=1000000/\((ks.length=1/\ts=[.str w,.str nm,p])\/∃ q,NoTx q/\ks.length=2/\ts=[.str w,.str nm,p,q]):=by
 simp only [dedL,wT,List.mem_cons,List.not_mem_nil,or_false,PyData.tuple.injEq] at m
 rcases m with rfl | rfl | rfl | rfl | rfl | rfl | rfl
 ·exact ⟨_,_,_,zb4,zdM,by decide +kernel,.inl ⟨rfl,rfl⟩⟩
 ·exact ⟨_,_,_,zdN,zdM,by decide +kernel,.inr ⟨_,zdM,rfl,rfl⟩⟩
 ·exact ⟨_,_,_,zca,zbE,by decide +kernel,.inr ⟨_,zbE,rfl,rfl⟩⟩
 ·exact ⟨_,_,_,zhG,zbE,by decide +kernel,.inl ⟨rfl,rfl⟩⟩
 ·exact ⟨_,_,_,zhE,zbE,by decide +kernel,.inl ⟨rfl,rfl⟩⟩
 ·exact ⟨_,_,_,zhu,zbE,by decide +kernel,.inl ⟨rfl,rfl⟩⟩
 ·exact ⟨_,_,_,zf9,zbE,by decide +kernel,.inl ⟨rfl,rfl⟩⟩
def us0 (ts:List PyData):List PyData:=[.tuple (cutD ts none (some (-1))),.tuple (ts++[.int 0]),.tuple (ts++[.none]),.list ts,.tuple [.tuple ts],.tuple ts.reverse,.tuple (cutD ts (some 1) none)]
theorem zfE {nm:Str}{ht ad i h j:Int}{ts:List PyData} (hn:IsNm nm) (m:.tuple ts∈dedL nm ht ad i h j):(∀ t∈ts,PlnD t)/\ts.length<=4:=by
 have pn:PlnD (.str nm):=zaZ (by have:=hn.2.1;lia)
 obtain ⟨w,ks,p,g,hp,lw,⟨_,rfl⟩ | ⟨q,hq,_,rfl⟩⟩:=zgh m
 ·exact ⟨zak (zaZ lw) (zak pn (zak hp.2.2 zaB)),by simp⟩
 ·exact ⟨zak (zaZ lw) (zak pn (zak hp.2.2 (zak hq.2.2 zaB))),by simp⟩
theorem zk2 {bits:Int}{nm:Str}{ht ad i h j:Int}{ts:List PyData} (hn:IsNm nm) (m:.tuple ts∈dedL nm ht ad i h j):∀ u∈us0 ts,PlnD u/\dedD bits u=false:=by
 obtain ⟨pt,lt⟩:=zfE hn m
 have pT:PlnD (.tuple ts):=zav (by lia) pt
 have fst:∀ u∈us0 ts,PlnD u:=all_cons (zav (by have:=zcF (ts:=ts) (lo:=none) (hi:=some (-1));lia) fun t ht=>pt t (zgl ht)) (all_cons (zav (by simp;lia) (zcB pt (zak zai zaB))) (all_cons (zav (by simp;lia) (zcB pt (zak zef zaB)))
  (all_cons (zf4 (by lia) pt) (all_cons (zav (by simp) (zak pT zaB)) (all_cons (zav (by simp;lia) fun t ht=>pt t (List.mem_reverse.mp ht)) (all_cons (zav (by have:=zcF (ts:=ts) (lo:=some 1) (hi:=none);lia) fun t ht=>pt t (zgl ht)) all_nil))))))
 refine fun u hu=>⟨fst u hu,?_⟩
 obtain ⟨w,ks,p,g,hp,lw,⟨lk,rfl⟩ | ⟨q,hq,lk,rfl⟩⟩:=zgh m
 ·simp only [us0,List.mem_cons,List.not_mem_nil,or_false] at hu
  rcases hu with rfl | rfl | rfl | rfl | rfl | rfl | rfl
  ·exact zaI (ps:=[]) (zbR g (by simp;lia))
  ·exact zaI (ps:=[p,.int 0]) (zbR g (by simp;lia))
  ·exact zaI (ps:=[p,.none]) (zbR g (by simp;lia))
  ·rfl
  ·rfl
  ·exact zdW (u:=p) hp.1
  ·exact zdX (u:=.str nm) (nm:=p) hp.2.1
 ·simp only [us0,List.mem_cons,List.not_mem_nil,or_false] at hu
  rcases hu with rfl | rfl | rfl | rfl | rfl | rfl | rfl
  ·exact zaI (ps:=[p]) (zbR g (by simp;lia))
  ·exact zaI (ps:=[p,q,.int 0]) (zbR g (by simp;lia))
  ·exact zaI (ps:=[p,q,.none]) (zbR g (by simp;lia))
  ·rfl
  ·rfl
  ·exact zdW (u:=q) hq.1
  ·exact zdX (u:=.str nm) (nm:=p) hp.2.1
def zb5:GD:=fun as n R=>∃ (bits:Int) (nm:Str) (ht ad i h j:Int) (ts:List PyData),as=[.int bits,.tuple ts]/\1<=bits/\bits<=64/\DedOk bits nm ht ad i h j/\.tuple ts∈dedL nm ht ad i h j/\∀ us,us.length<=1000->(∀ u∈us,PlnD u/\dedD bits u=false)->R (.list us) n
theorem zdZ {bits:Int}{nm:Str}{ht ad i h j:Int}{ts:List PyData}{n:Nat}{R:PyData->Nat->Prop} (b0:1<=bits) (b1:bits<=64) (d:DedOk bits nm ht ad i h j) (m:.tuple ts∈dedL nm ht ad i h j) (z:∀ us,us.length<=1000->(∀ u∈us,PlnD u/\dedD bits u=false)->R (.list us) n):zb5 [.int bits,.tuple ts] n R:=⟨bits,nm,ht,ad,i,h,j,ts,rfl,b0,b1,d,m,z⟩
def zbY (P:Program) (w:World) (K:PySem.W.Frag) (mg:Str->Option Value) (base:Heap):Prop:=Fq P w K mg base "_law_spoilt" (top 20) ["_law_bits_here","_law_deed"] 2 (spD K 2 zb5)
theorem zdd (D:Dq K mg "_law_spoilt" (top 20) ["_law_bits_here","_law_deed"]) (h__law_odd_parts:zbq P w K mg base) (T:Txt mg):zbY P w K mg base:=by
 obtain ⟨f,fd,D⟩:=D
 refine ⟨f,fd,D,D.okD zaV rfl fun cdv A outer s H E hr=>?_⟩
 refine' ⟨_,(zaf (zbs (i:=2) zaV.nd rfl (Or.inl rfl) (zaz (za_ (zaa (zbj (dl (zab 1)) zcg (zbU (zeY zac))) (zaa (zbh (dl (zab 1)) (dl (zao (zaa zac zae zag)))) (zaa (zbh (dl (zab 1)) (dl (zao (zaa zhQ zae zff)))) (zaa (zaz (zkI T.lst (dl (zab 1)) zad)) (zaa (zao (zaa (zab 1) zae zad)) (zaa (zm1 (dl (zab 1)) (zbU (zeY zac))) (zaa (zbj (dl (zab 1)) (zbU zac) zcg) zae zdg) zdg) zam) zbk) za3) za3) zdg)))) (zaf (zgf PassesOwn.never rfl (zc5 T.ran (zbV za1 zb3 T.len zaO (zat (dl (zab 1)) zaQ zad))) (zaJ (i:=3) zaV.nd rfl (Or.inr rfl)) (zaj (zbs (i:=2) zaV.nd rfl (Or.inl rfl) (zaz (zdr (dl (zab 2)) (dl (zaz (zch (own:=["_law_odd"]) (capt:=[1,3]) rfl (CompScope.of rfl) (dil (zfD (zaN h__law_odd_parts hr (zaa (zab 0) (zaa (zab 1) (zaa (zab 3) zae zad) zad) zad)))) (fun _ _ _ _=>(zaJ (i:=0) (by show (["_law_odd","_law_deed","_law_at"]:List Str).Nodup;decide +kernel) rfl (Or.inl rfl))) (by decide) (fun _ _ _ _=>zcf) (fun _ _ _ _=>(zbh (dl (zbh (dl (zbj (dl (zab 1)) zcg (zbU (zab 2)))) (dl (zao (zaa (zab 0) zae zad))))) (dl (zbj (dl (zab 1)) (zbU (zbh (dl (zab 2)) (dl zac))) zcg)))))))))))) (zaj (zas (zab 2))))),?_⟩
 intro as n R hl h
 obtain ⟨bits,nm,ht,ad,i,h,j,ts,rfl,b0,b1,D,m,z⟩:=h
 obtain ⟨pt,lt⟩:=zfE D.n m
 wp_walk
 ·simp;lia
 ·simp;lia
 ·rfl
 ·lia
 ·lia
 refine zhH 2 3 (fun k a2 _ m=>m=n/\∃ us,a2=some (.val (.list us))/\us.length<=7+60*k/\∀ u∈us,PlnD u/\dedD bits u=false) ⟨rfl,us0 ts,rfl,Nat.le_refl _,zk2 D.n m⟩ ?_ ?_
 ·rintro k t a2 a3 m' K RT BK et ⟨rfl,us,rfl,lu,hu⟩ hK hRT hBK
  obtain ⟨hk,rfl⟩:=zdl et
  have hk:k<ts.length:=by lia
  wp_walk using zcy b0 b1 D m (by lia) (by lia) (fun vs hv=>?_)
  obtain ⟨lv,hv⟩:=hv
  refine zdt (fun u=>.tuple (ts.take k++[u]++ts.drop (k+1))) (by lia) ?_ ?_
  ·intro u mu K2 X2 hK2
   have c1:cutD ts none (some (0+(k:Int)))=ts.take k:=zhT (by lia)
   have c2:cutD ts (some (0+(k:Int)+1)) none=ts.drop (k+1):=zhU (by lia) (by lia)
   have l1:(cutD ts none (some (0+(k:Int)))).length<=ts.length:=zcF
   have l2:(cutD ts (some (0+(k:Int)+1)) none).length<=ts.length:=zcF
   wp_walk
   ·simp;lia
   ·simp;lia
   ·rw [c1,c2];exact hK2
  ·wp_walk
   ·rw [List.length_map];lia
   ·refine hK _ _ _ ⟨rfl,_,rfl,by rw [List.length_append,List.length_map];lia,zdc hu fun u hm=>?_⟩
    obtain ⟨v,hv',rfl⟩:=List.mem_map.mp hm
    have e:(0+(k:Int)).toNat=k:=by lia
    obtain ⟨v1,v2⟩:=hv v hv'
    rw [e] at v2
    exact ⟨zav (by simp;lia) (zcB (zcB (fun t ht=>pt t (List.mem_of_mem_take ht)) (zak v1 zaB)) fun t ht=>pt t (List.mem_of_mem_drop ht)),v2⟩
 ·rintro a2 a3 m' ⟨rfl,us,rfl,lu,hu⟩
  wp_walk
  refine z us ?_ hu
  have e:(zbp 0 (ts.length:Int).toNat).length=ts.length:=by unfold zbp;simp
  rw [e] at lu
  lia
theorem zdi:FnScope ["_law_script","_law_k","_law_hand_here","_law_bits_here","_law_deed","_law_thing"] ["_law_script"] (zah (top 21)):=⟨rfl,rfl,rfl,by decide +kernel,rfl,by decide +kernel,by decide +kernel⟩
theorem zkh {s:Str} (h:IsNm s):nmD (.str s)=true:=zki.mpr h
theorem zi_ {bits:Int}{nm:Str}{ht ad i h j:Int} (b0:0<=bits) (D:DedOk bits nm ht ad i h j):∀ t∈dedL nm ht ad i h j,∃ ts,t=.tuple ts/\dedD bits (.tuple ts)=true:=by
 have hh:htD bits (.int ht)=true:=by simp only [htD,Bool.and_eq_true,decide_eq_true_eq];exact ⟨D.t0,D.t1⟩
 have ha:adD bits (.int ad)=true:=by simp only [adD,Bool.and_eq_true,decide_eq_true_eq];exact ⟨D.a0,D.a1⟩
 have hb:zaH bits (.tuple [.int i,.int h])=true:=(zeS b0).mpr D.b
 have hg:zaH bits (.tuple [.int j,.int h])=true:=(zeS b0).mpr D.g
 have go:∀ {w:Str} {ps:List PyData} {ks:List Str},getT zan w=some ks->ps.length=ks.length->(∀ q∈ks.zip ps,ptD bits q.1 q.2=true)->(w≠Str.ofString "move" \/ hEq ps=true)->dedD bits (.tuple (.str w::.str nm::ps))=true:=fun {w ps ks} g l a m=>by
  have e:dedD bits (.tuple (.str w::.str nm::ps))=(nmD (.str nm)&&prtD bits w ps):=rfl
  have a':((ks.zip ps).all fun q=>ptD bits q.1 q.2)=true:=List.all_eq_true.mpr a
  have m':(decide (w≠Str.ofString "move")||hEq ps)=true:=by
   rcases m with m | m
   ·rw [decide_eq_true m,Bool.true_or]
   ·rw [m,Bool.or_true]
  rw [e,zkh D.n,Bool.true_and,zf3 g,decide_eq_true l,a',m']
  rfl
 have blk:∀ {w:Str},getT zan w=some [Str.ofString "block"]->w≠Str.ofString "move" -> dedD bits (.tuple (.str w::.str nm::[.tuple [.int i,.int h]]))=true:=fun g n=>go g rfl (fun q hq=>by
  cases List.mem_singleton.mp hq
  exact za5.trans hb) (.inl n)
 intro t ht
 simp only [dedL,wT,List.mem_cons,List.not_mem_nil,or_false] at ht
 rcases ht with rfl | rfl | rfl | rfl | rfl | rfl | rfl
 ·exact ⟨_,rfl,go zb4 rfl (fun q hq=>by cases List.mem_singleton.mp hq;exact zbD.trans hh) (.inl (by decide +kernel))⟩
 ·refine ⟨_,rfl,go zdN rfl (fun q hq=>?_) (.inl (by decide +kernel))⟩
  simp only [List.zip_cons_cons,List.zip_nil_left,List.mem_cons,List.not_mem_nil,or_false] at hq
  rcases hq with rfl | rfl
  ·exact zbD.trans hh
  ·exact zcS.trans ha
 ·refine ⟨_,rfl,go zca rfl (fun q hq=>?_) (.inr (decide_eq_true rfl))⟩
  simp only [List.zip_cons_cons,List.zip_nil_left,List.mem_cons,List.not_mem_nil,or_false] at hq
  rcases hq with rfl | rfl
  ·exact za5.trans hb
  ·exact za5.trans hg
 ·exact ⟨_,rfl,blk zhG (by decide +kernel)⟩
 ·exact ⟨_,rfl,blk zhE (by decide +kernel)⟩
 ·exact ⟨_,rfl,blk zhu (by decide +kernel)⟩
 ·exact ⟨_,rfl,blk zf9 (by decide +kernel)⟩
def oddT (bits:Int):List PyData:=[.none,.bool true,.int 0,.str (Str.ofString ""),.str (Str.ofString "take"),.tuple [],.list [],.dict [],.tuple [.str (Str.ofString "take")],.tuple [.str (Str.ofString "take"),.str (Str.ofString "a")],.tuple [.int 0,.int bits],.tuple [.tuple [.int 0,.int 0],.str (Str.ofString "a")]]
theorem zkd {bits:Int}:∀ u∈oddT bits,PlnD u/\dedD bits u=false:=by
 have tk:PlnD (.str (Str.ofString "take")):=zaZ (by decide +kernel)
 have ta:PlnD (.str (Str.ofString "a")):=zaZ (by decide +kernel)
 have te:PlnD (.str (Str.ofString "")):=zaZ (by decide +kernel)
 have pr:∀ {x y:PyData},PlnD x->PlnD y->PlnD (.tuple [x,y]):=fun hx hy=>zav (by simp) (zak hx (zak hy zaB))
 exact all_cons ⟨zef,rfl⟩ (all_cons ⟨zcV,rfl⟩ (all_cons ⟨zai,rfl⟩ (all_cons ⟨te,rfl⟩ (all_cons ⟨tk,rfl⟩ (all_cons ⟨zav (by simp) zaB,rfl⟩ (all_cons ⟨zf4 (by simp) zaB,rfl⟩ (all_cons ⟨zg2,rfl⟩ (all_cons ⟨zav (by simp) (zak tk zaB),rfl⟩
  (all_cons ⟨pr tk ta,zaI (ps:=[]) (zbR zb4 (by simp))⟩ (all_cons ⟨pr zai zai,rfl⟩ (all_cons ⟨pr (pr zai zai) ta,rfl⟩ all_nil)))))))))))
theorem zl1 {f:Addr}{fd:FuncData} (D:Def K mg "law" (top 21) ["_law_script"] f fd) (h__law_hand:zcP P w K mg base) (h__law_bits:zcQ P w K mg base) (h__law_deeds:zcp P w K mg base) (h_is_deed:zee P w K mg base) (h__law_spoilt:zbY P w K mg base) (T:Txt mg):FnOk P w K mg base CX0 5 f fd ["_law_script"] (spD K 1 zmV):=by
 refine D.okD zdi rfl fun cdv A outer s H E hr=>?_
 refine' ⟨_,(zaf (zgf PassesOwn.never rfl (zc5 T.ran (zbV (zhZ rfl) zmT T.max zh4 (zat (dl zac) (zat (dl (zbV (ze1 rfl) zjt T.min ze9 (zat (dl zac) (zat (dl (zbV za1 zb3 T.len zaO (zat (dl (zab 0)) zaQ zad))) zaQ zbk) zag))) zaQ zbk) zag))) (zaJ (i:=1) zdi.nd rfl (Or.inl rfl)) (zhJ (i:=2) (j:=1) h__law_hand hr zdi.nd rfl (Or.inl rfl) (zaf (zbs (i:=3) zdi.nd rfl (Or.inr rfl) (zaN h__law_bits hr (zaa (zab 2) zae zad))) (zaf (zgf PassesOwn.never rfl (zfD (zaN h__law_deeds hr (zaa (zab 2) (zaa (zab 3) zae zad) zad))) (zaJ (i:=4) zdi.nd rfl (Or.inl rfl)) (zaf (zbt (za8 zfk zfA (dl (zaN h_is_deed hr (zaa (zab 3) (zaa (zab 4) zae zad) zad))) (dl zbb) (zaM _)) (zaj (zas zbb)) zaF) (zaf (zbt (zbM (zb6 (dl (zbV (zc8 rfl) zhF T.all zdb (zat (dl (zaz (zch (own:=["_law_thing"]) (capt:=[3]) rfl (CompScope.of rfl) (dil (zfD (zaN h__law_spoilt hr (zaa (zab 3) (zaa (zab 4) zae zad) zad)))) (fun _ _ _ _=>(zaJ (i:=0) (by show (["_law_thing","_law_bits_here"]:List Str).Nodup;decide +kernel) rfl (Or.inl rfl))) (by decide) (fun _ _ _ _=>zcf) (fun _ _ _ _=>(zgj zor zoY (dl (zaN h_is_deed hr (zaa (zab 1) (zaa (zab 0) zae zad) zad))) (dl zbb) (zaM _)))))) zaQ zfg))))) (zaj (zas zbb)) zaF) (zaj (zbt (za8 zfk zfA (dl (zaN h_is_deed hr (zaa (zab 3) (zaa (zab 4) zae zad) zad))) (dl zbb) (zaM _)) (zaj (zas zbb)) zaF))))) (zaj (zgf PassesOwn.never rfl (zjx (zao (zaa zhQ (zaa zbb (zaa zac (zaa zap (zaa zap (zaa (zao zae) (zaa (zaz (za_ zae)) (zaa zgi (zaa (zao (zaa zap zae zau)) (zaa (zao (zaa zap (zaa zap zae zau) zau)) (zaa (zao (zaa zac (zaa (zab 3) zae zad) zag)) (zaa (zao (zaa (zao (zaa zac (zaa zac zae zag) zag)) (zaa zap zae zau) zam)) zae zam) zam) zam) zam) zgQ) zbP) zam) zau) zau) zag) zcJ) zff))) (zaJ (i:=5) zdi.nd rfl (Or.inl rfl)) (zaj (zbt (za8 zfk zfA (dl (zaN h_is_deed hr (zaa (zab 3) (zaa (zab 5) zae zad) zad))) (dl zbb) (zaM _)) (zaj (zas zbb)) zaF)))))))) (zaj (zas zbb))),?_⟩
 intro ts n R hl hh
 obtain ⟨ns,rfl,hl63,hh⟩:=hh
 wp_walk
 ·split <;> (try split) <;> lia
 ·split <;> (try split) <;> lia
 refine zge (fun _ ρ m=>∃ a1 a2 a3 a4 a5,ρ=[some (.val (SCR ns)),a1,a2,a3,a4,a5]/\m=n) ⟨_,_,_,_,_,rfl,rfl⟩ ?_ ?_
 ·rintro k t ρ m K et ⟨a1,a2,a3,a4,a5,rfl,rfl⟩ hK
  obtain ⟨hk,rfl⟩:=zdl et
  have hk8:k<8:=by
   revert hk
   split <;> (try split) <;> lia
  with_reducible refine Stp.go ?_
  refine zi0 hl63 (by lia) (by lia) fun NX RT BK CT hNX hRT hBK hCT=>?_
  wp_walk using zfL ?_ (fun bits b0 b1=>?_),ze6 b0 b1 (by lia) (fun nm ht ad i h j D=>?_)
  ·lia
  refine zhH 4 5 (fun k _ _ m=>m=0+1+11) rfl ?_ ?_
  ·rintro q t a4 a5 m' K2 RT2 BK2 et2 rfl hK2 hRT2 hBK2
   have mt:=List.mem_of_getElem? et2
   obtain ⟨ds,rfl,dt⟩:=zi_ (by lia) D t mt
   obtain ⟨pt,lt⟩:=zfE D.n mt
   have pd:PlnD (.tuple ds):=zav (by lia) pt
   have isT:∀ {n:Nat} {R:PyData->Nat->Prop},R (.bool true) n->zbw [.int bits,.tuple ds] n R:=fun {n R} z=>zc9 (by lia) b1 pd (by rw [dt];exact z)
   wp_walk using isT ?_,zdZ b0 b1 D mt (fun us lu hu=>?_)
   refine zdt (fun _=>.bool true) (by lia) ?_ ?_
   ·intro u mu K3 X3 hK3
    obtain ⟨pu,du⟩:=hu u mu
    have isF:∀ {n:Nat} {R:PyData->Nat->Prop},R (.bool false) n->zbw [.int bits,u] n R:=fun {n R} z=>zc9 (by lia) b1 pu (by rw [du];exact z)
    wp_walk using isF ?_
    exact hK3
   ·wp_walk using zhB (f:=fun _=>true) ?_,isT ?_
    ·exact hK2 _ _ _ rfl
    ·exact absurd hc (by simp)
  ·rintro a4 a5 m' rfl
   wp_walk
   refine zhH 4 5 (fun k _ _ m=>m=0+1+11) rfl ?_ ?_
   ·rintro q t a4 a5 m' K2 RT2 BK2 et2 rfl hK2 hRT2 hBK2
    obtain ⟨pu,du⟩:=zkd (bits:=bits) t (List.mem_of_getElem? et2)
    have isF:∀ {n:Nat} {R:PyData->Nat->Prop},R (.bool false) n->zbw [.int bits,t] n R:=fun {n R} z=>zc9 (by lia) b1 pu (by rw [du];exact z)
    wp_walk using isF ?_
    exact hK2 _ _ _ rfl
   ·rintro a4 a5 m' rfl
    wp_walk
    exact hNX _ _ (hK _ _ ⟨_,_,_,_,_,rfl,rfl⟩)
 ·rintro ρ m ⟨a1,a2,a3,a4,a5,rfl,rfl⟩
  wp_walk
  exact hh _
end
section
theorem zm7 {lw:PySem.W.OpenLaw}{w:World}{K:PySem.W.Frag}{h:Heap}{mg:Str->Option Value}{fa:Addr} (X:K.In h) (G:h.Ns mainGlobals mg) (hfa:mg "law" = some (.ref fa))
  (e1:DAq K "is_whole" (top 1)) (e2:DAq K "is_block" (top 2)) (e4:DAq K "is_name" (top 4)) (e7:DAq K "is_deed" (top 7)) (e8:DAq K "is_part" (top 8)) (e9:DAq K "is_height" (top 9)) (e10:DAq K "is_address" (top 10)) (e12:DAq K "_law_hand" (top 12)) (e13:DAq K "_law_take" (top 13)) (e14:DAq K "_law_pick" (top 14)) (e15:DAq K "_law_bits" (top 15)) (e16:DAq K "_law_block" (top 16)) (e17:DAq K "_law_names" (top 17)) (e18:DAq K "_law_deeds" (top 18)) (e19:DAq K "_law_odd_parts" (top 19)) (e20:DAq K "_law_spoilt" (top 20)) (e21:DAq K "law" (top 21))
  {a_PARTS:Addr} {d_PARTS:Array DictEntry} {p_PARTS:Nat} (g_PARTS:PySem.W.nsIn K mainGlobals "PARTS" = some (some (.ref a_PARTS))) (l_PARTS:K.lookup a_PARTS=some ⟨.type "dict",none,.dict d_PARTS p_PARTS,#[]⟩) (n_PARTS:(a_PARTS == sysModules)=false) (r_PARTS:Paired (PtE w K) d_PARTS.toList zan)
  (z0:PySem.W.nsIn K mainGlobals "isinstance" = some none)
  (z1:PySem.W.nsIn K mainGlobals "int" = some none)
  (z2:PySem.W.nsIn K mainGlobals "bool" = some none)
  (z3:PySem.W.nsIn K mainGlobals "tuple" = some none)
  (z4:PySem.W.nsIn K mainGlobals "len" = some none)
  (z5:PySem.W.nsIn K mainGlobals "min" = some none)
  (z6:PySem.W.nsIn K mainGlobals "max" = some none)
  (z7:PySem.W.nsIn K mainGlobals "str" = some none)
  (z8:PySem.W.nsIn K mainGlobals "repr" = some none)
  (z9:PySem.W.nsIn K mainGlobals "all" = some none)
  (z10:PySem.W.nsIn K mainGlobals "any" = some none)
  (z11:PySem.W.nsIn K mainGlobals "range" = some none)
  (z12:PySem.W.nsIn K mainGlobals "sum" = some none)
  (z13:PySem.W.nsIn K mainGlobals "sorted" = some none)
  (z14:PySem.W.nsIn K mainGlobals "list" = some none)
  (z15:PySem.W.nsIn K mainGlobals "abs" = some none)
  (z16:PySem.W.nsIn K mainGlobals "zip" = some none)
  (z17:PySem.W.nsIn K mainGlobals "dict" = some none)
  (z18:PySem.W.nsIn K mainGlobals "reversed" = some none)
  (z19:PySem.W.nsIn K mainGlobals "enumerate" = some none)
  : ∃ fd:FuncData,(∀ (s:Shared) (v:Value),BindsTo s fd ⟨[v],[]⟩ [("_law_script",v)])/\∀ base:Heap,K.In base->base.Ns mainGlobals mg->FnOk lw.prog w K mg base CX0 5 fa fd ["_law_script"] (ziq K):=by
 obtain ⟨f,oc,kV,dc,pm,cd,ct,od,an,sl,e⟩:=e21
 have e':=hfa.symm.trans (PySem.W.mg_of X G e.a)
 cases e'
 have T:Txt mg:=⟨PySem.W.mg_none_of X G z0,PySem.W.mg_none_of X G z1,PySem.W.mg_none_of X G z2,PySem.W.mg_none_of X G z3,PySem.W.mg_none_of X G z4,PySem.W.mg_none_of X G z5,PySem.W.mg_none_of X G z6,PySem.W.mg_none_of X G z7,PySem.W.mg_none_of X G z8,PySem.W.mg_none_of X G z9,PySem.W.mg_none_of X G z10,PySem.W.mg_none_of X G z11,PySem.W.mg_none_of X G z12,PySem.W.mg_none_of X G z13,PySem.W.mg_none_of X G z14,PySem.W.mg_none_of X G z15,PySem.W.mg_none_of X G z16,PySem.W.mg_none_of X G z17,PySem.W.mg_none_of X G z18,PySem.W.mg_none_of X G z19⟩
 have DL:=zjy (ps:=["_law_script"]) X G e.a e.l e.c e.k fun _ _ _ _ _ _ us hl=>by obtain ⟨_,rfl⟩:=len1 hl;rfl
 refine ⟨PySem.W.fnOf "law" "law" (zba (top 21)) (zaU (top 21)) (zah (top 21)) .none kV dc pm an cd ct,fun s v=>.of_eq rfl,fun base _ _=>?_⟩
 have h_is_whole:=zfl (P:=lw.prog) (w:=w) (base:=base) (zbJ X G e1 fun _ _ _ _ _ _ us hl=>by obtain ⟨_,rfl⟩:=len1 hl;rfl)  T
 have h_is_block:=zfm (P:=lw.prog) (w:=w) (base:=base) (zbJ X G e2 fun _ _ _ _ _ _ us hl=>by obtain ⟨_,_,rfl⟩:=len2 hl;rfl) h_is_whole T
 have h_is_name:=zgy (P:=lw.prog) (w:=w) (base:=base) (zbJ X G e4 fun _ _ _ _ _ _ us hl=>by obtain ⟨_,rfl⟩:=len1 hl;rfl)  T
 have h_is_height:=zej (P:=lw.prog) (w:=w) (base:=base) (zbJ X G e9 fun _ _ _ _ _ _ us hl=>by obtain ⟨_,_,rfl⟩:=len2 hl;rfl) h_is_whole T
 have h_is_address:=zdH (P:=lw.prog) (w:=w) (base:=base) (zbJ X G e10 fun _ _ _ _ _ _ us hl=>by obtain ⟨_,_,rfl⟩:=len2 hl;rfl) h_is_whole T
 have h_is_part:=zgx (P:=lw.prog) (w:=w) (base:=base) (zbJ X G e8 fun _ _ _ _ _ _ us hl=>by obtain ⟨_,_,_,rfl⟩:=len3 hl;rfl) h_is_block h_is_height h_is_address T
 have h_is_deed:=zgz (P:=lw.prog) (w:=w) (base:=base) (zbJ X G e7 fun _ _ _ _ _ _ us hl=>by obtain ⟨_,_,rfl⟩:=len2 hl;rfl) h_is_name h_is_part (zla (PySem.W.mg_of X G g_PARTS) n_PARTS l_PARTS r_PARTS (by decide +kernel)) T
 have h__law_hand:=zdG (P:=lw.prog) (w:=w) (base:=base) (zbJ X G e12 fun _ _ _ _ _ _ us hl=>by obtain ⟨_,_,rfl⟩:=len2 hl;rfl)  T
 have h__law_take:=zdF (P:=lw.prog) (w:=w) (base:=base) (zbJ X G e13 fun _ _ _ _ _ _ us hl=>by obtain ⟨_,_,rfl⟩:=len2 hl;rfl)  T
 have h__law_pick:=zel (P:=lw.prog) (w:=w) (base:=base) (zbJ X G e14 fun _ _ _ _ _ _ us hl=>by obtain ⟨_,_,rfl⟩:=len2 hl;rfl) h__law_take T
 have h__law_bits:=zen (P:=lw.prog) (w:=w) (base:=base) (zbJ X G e15 fun _ _ _ _ _ _ us hl=>by obtain ⟨_,rfl⟩:=len1 hl;rfl) h__law_pick T
 have h__law_block:=zdK (P:=lw.prog) (w:=w) (base:=base) (zbJ X G e16 fun _ _ _ _ _ _ us hl=>by obtain ⟨_,_,rfl⟩:=len2 hl;rfl) h__law_pick h__law_take T
 have h__law_names:=zdI (P:=lw.prog) (w:=w) (base:=base) (zbJ X G e17 fun _ _ _ _ _ _ us hl=>by obtain ⟨_,_,rfl⟩:=len2 hl;rfl) h__law_take h__law_pick T
 have h__law_deeds:=zdJ (P:=lw.prog) (w:=w) (base:=base) (zbJ X G e18 fun _ _ _ _ _ _ us hl=>by obtain ⟨_,_,rfl⟩:=len2 hl;rfl) h__law_block h__law_take h__law_names T
 have h__law_odd_parts:=zb9 (P:=lw.prog) (w:=w) (base:=base) (zbJ X G e19 fun _ _ _ _ _ _ us hl=>by obtain ⟨_,_,_,rfl⟩:=len3 hl;rfl)  T
 have h__law_spoilt:=zdd (P:=lw.prog) (w:=w) (base:=base) (zbJ X G e20 fun _ _ _ _ _ _ us hl=>by obtain ⟨_,_,rfl⟩:=len2 hl;rfl) h__law_odd_parts T
 exact (zl1 DL h__law_hand h__law_bits h__law_deeds h_is_deed h__law_spoilt T).imp zkl
end
end Bd
open PySem PySem.W PyProof.Rows
set_option maxRecDepth 100000 in
set_option maxHeartbeats 0 in
theorem PySem.Challenge.cw_blockdeal_k25_deeds_or_not_holds : PySem.Challenge.rw_blockdeal_k25_deeds_or_not.Holds := by
 w_on;o_law;k_head;(case hw=>w_witness2)
 k_fill
 refine Bd.walk (lw:=PySem.Challenge.rw_blockdeal_k25_deeds_or_not) (k:=5) (by decide) rfl rfl (fun w h Y=>PySem.W.kIn_of Y) ?F
 case F =>
  intro w mg fa h KX G hmg
  refine' Bd.zm7 KX G hmg (Bd.daq ?a1 ?l1 ?c1 ?k1) (Bd.daq ?a2 ?l2 ?c2 ?k2) (Bd.daq ?a4 ?l4 ?c4 ?k4) (Bd.daq ?a7 ?l7 ?c7 ?k7) (Bd.daq ?a8 ?l8 ?c8 ?k8) (Bd.daq ?a9 ?l9 ?c9 ?k9) (Bd.daq ?a10 ?l10 ?c10 ?k10) (Bd.daq ?a12 ?l12 ?c12 ?k12) (Bd.daq ?a13 ?l13 ?c13 ?k13) (Bd.daq ?a14 ?l14 ?c14 ?k14) (Bd.daq ?a15 ?l15 ?c15 ?k15) (Bd.daq ?a16 ?l16 ?c16 ?k16) (Bd.daq ?a17 ?l17 ?c17 ?k17) (Bd.daq ?a18 ?l18 ?c18 ?k18) (Bd.daq ?a19 ?l19 ?c19 ?k19) (Bd.daq ?a20 ?l20 ?c20 ?k20) (Bd.daq ?a21 ?l21 ?c21 ?k21)  ?g_PARTS ?l_PARTS ?n_PARTS ?r_PARTS ?z0 ?z1 ?z2 ?z3 ?z4 ?z5 ?z6 ?z7 ?z8 ?z9 ?z10 ?z11 ?z12 ?z13 ?z14 ?z15 ?z16 ?z17 ?z18 ?z19
  case a1 | l1 | c1 | k1 | a2 | l2 | c2 | k2 | a4 | l4 | c4 | k4 | a7 | l7 | c7 | k7 | a8 | l8 | c8 | k8 | a9 | l9 | c9 | k9 | a10 | l10 | c10 | k10 | a12 | l12 | c12 | k12 | a13 | l13 | c13 | k13 | a14 | l14 | c14 | k14 | a15 | l15 | c15 | k15 | a16 | l16 | c16 | k16 | a17 | l17 | c17 | k17 | a18 | l18 | c18 | k18 | a19 | l19 | c19 | k19 | a20 | l20 | c20 | k20 | a21 | l21 | c21 | k21 | g_PARTS | l_PARTS | z0 | z1 | z2 | z3 | z4 | z5 | z6 | z7 | z8 | z9 | z10 | z11 | z12 | z13 | z14 | z15 | z16 | z17 | z18 | z19=>k_is
  case n_PARTS=>rfl
  case r_PARTS=>exact .cons (L2.zcR rfl (L2.zcK (by k_is))) (.cons (L2.zcR rfl (L2.zgR (by k_is))) (.cons (L2.zcR rfl (L2.zcK (by k_is))) (.cons (L2.zcR rfl (L2.zcK (by k_is))) (.cons (L2.zcR rfl (L2.zcK (by k_is))) (.cons (L2.zcR rfl (L2.zcK (by k_is))) (.cons (L2.zcR rfl (L2.zgR (by k_is))) (.nil)))))))
