import PyProof.Rows.All
import Wide.All
import OpenK.AllK
import Wide.FinOn
import Lean
import PyProof.EqAt
import PyProof.EqKinds
import PyProof.TupleCall
import PySem.Challenge.RW_blockdeal_k13_rules_or_not
set_option Elab.async false
set_option linter.all false
set_option maxRecDepth 100000
set_option maxHeartbeats 4000000
namespace L2
open PySem PySem.Spec PyProof.Rows
abbrev Key:=Sum Int Str
def zhj:Key->Value->Bool
 | .inl k,v=>Value.isInt k v
 | .inr x,v=>Value.isStrOf x v
def keyH (w:World):Key->Int
 | .inl k=>hashInt k
 | .inr x=>hashStr w x
theorem zaH:∀ {k:Key}{v:Value},zhj k v=true->(∃ i t,k=Sum.inl i/\v=Value.int i t)\/(∃ x t,k=Sum.inr x/\v=Value.str x t)
 | .inl i,v,h=>by
  obtain ⟨t,e⟩:=Value.isInt_shape (k:=i) (v:=v) h
  exact .inl ⟨i,t,rfl,e⟩
 | .inr x,v,h=>by
  obtain ⟨t,e⟩:=Value.isStrOf_shape (x:=x) (v:=v) h
  exact .inr ⟨x,t,rfl,e⟩
theorem zdq (i:Int) (t:Tok):zhj (.inl i) (.int i t)=true:=by simp [zhj,Value.isInt]
theorem zim (x:Str) (t:Tok):zhj (.inr x) (.str x t)=true:=by simp [zhj,Value.isStrOf]
theorem znp (a b:Int):decide ((Sum.inl a:Key)=Sum.inl b)=(a == b):=by
 by_cases e:a=b
 ·subst e;simp
 ·have h:¬(Sum.inl a:Key)=Sum.inl b:=fun q=>e (Sum.inl.inj q)
  rw [decide_eq_false h]
  exact (beq_eq_false_iff_ne.mpr e).symm
theorem znm (a b:Str):decide ((Sum.inr a:Key)=Sum.inr b)=decide (a=b):=by
 by_cases e:a=b
 ·subst e;simp
 ·have h:¬(Sum.inr a:Key)=Sum.inr b:=fun q=>e (Sum.inr.inj q)
  rw [decide_eq_false h,decide_eq_false e]
theorem zno (a:Int) (b:Str):decide ((Sum.inl a:Key)=Sum.inr b)=false:=decide_eq_false (fun q=>nomatch q)
theorem znn (a:Str) (b:Int):decide ((Sum.inr a:Key)=Sum.inl b)=false:=decide_eq_false (fun q=>nomatch q)
def zal (prog:Program) (w:World):PySem.KeyKind prog w Key where
 is:=zhj
 hash:=keyH w
 inj:=fun v a b ha hb=>by
  rcases zaH ha with ⟨i,t,rfl,rfl⟩ | ⟨x,t,rfl,rfl⟩
  ·rcases zaH hb with ⟨j,u,rfl,e⟩ | ⟨y,u,rfl,e⟩
   ·injection e with e1 _;rw [e1]
   ·exact nomatch e
  ·rcases zaH hb with ⟨j,u,rfl,e⟩ | ⟨y,u,rfl,e⟩
   ·exact nomatch e
   ·injection e with e1 _;rw [e1]
 byValue:=fun k v h=>by
  rcases zaH h with ⟨i,t,rfl,rfl⟩ | ⟨x,t,rfl,rfl⟩ <;> rfl
 pyHash:=fun hv h=>by
  rcases zaH hv with ⟨i,t,rfl,rfl⟩ | ⟨x,t,rfl,rfl⟩
  ·exact wpAny_pyHash_int h
  ·exact wpAny_pyHash_str h
 eqBool:=fun hu hv h=>by
  rcases zaH hu with ⟨i,t,rfl,rfl⟩ | ⟨x,t,rfl,rfl⟩
  ·rcases zaH hv with ⟨j,u,rfl,rfl⟩ | ⟨y,u,rfl,rfl⟩
   ·rw [znp] at h;exact wpAny_eqBool_int h
   ·rw [zno] at h;exact SeqAt.EqAt.int_str i t y u _ _ _ _ h
  ·rcases zaH hv with ⟨j,u,rfl,rfl⟩ | ⟨y,u,rfl,rfl⟩
   ·rw [znn] at h;exact SeqAt.EqAt.str_int x t j u _ _ _ _ h
   ·rw [znm] at h;exact wpAny_eqBool_str h
 «strs»:=fun k x t v h=>by
  rcases zaH h with ⟨i,u,rfl,e⟩ | ⟨y,u,rfl,e⟩
  ·exact nomatch e
  ·injection e with e1 _
   subst e1
   cases v <;> rfl
theorem zf0 (prog:Program) (w:World) (i:Int) (t:Tok):(zal prog w).is (.inl i) (.int i t)=true:=zdq i t
theorem zfZ (prog:Program) (w:World) (x:Str) (t:Tok):(zal prog w).is (.inr x) (.str x t)=true:=zim x t
end L2
namespace L2
open PySem PySem.Spec PyProof.Rows
inductive V where
 | non | bl (b:Bool) | int (i:Int) | str (x:Str) | byt (b:Array UInt8) | flt (b:UInt64) | ref (a:Addr) | ty (n:String)
 deriving DecidableEq
def RelV:V->Value->Prop
 | .non,u=>u=Value.none
 | .bl b,u=>u=Value.bool b
 | .int i,u=>∃ t,u=Value.int i t
 | .str x,u=>∃ t,u=Value.str x t
 | .byt b,u=>∃ t,u=Value.bytes b t
 | .flt b,u=>∃ t,u=Value.float b t
 | .ref a,u=>u=Value.ref a
 | .ty n,u=>u=Value.type n
abbrev Vals:List V->List Value->Prop:=Paired RelV
theorem Vals.length {xs:List V}{us:List Value} (r:Vals xs us):xs.length=us.length:=Paired.length r
theorem Vals.get:∀ {xs:List V}{us:List Value}{i:Nat}{x:V},Vals xs us->xs[i]?=some x->∃ u,us[i]?=some u/\RelV x u
 | _,_,_,_,.nil,e=>by simp at e
 | _,_,0,_,.cons r _,e=>by simp at e;subst e;exact ⟨_,rfl,r⟩
 | _,_,i+1,x,.cons _ t,e=>by
  obtain ⟨u,h1,h2⟩:=Vals.get (i:=i) (x:=x) t (by simpa using e)
  exact ⟨u,by simpa using h1,h2⟩
theorem Vals.set {x:V}{u:Value} (r:RelV x u):∀ {xs:List V}{us:List Value} (i:Nat),Vals xs us->Vals (xs.set i x) (us.set i u)
 | _,_,_,.nil=>.nil
 | _,_,0,.cons _ t=>.cons r t
 | _,_,i+1,.cons q t=>.cons q (Vals.set r i t)
theorem Vals.append:∀ {xs ys:List V}{us ws:List Value},Vals xs us->Vals ys ws->Vals (xs++ys) (us++ws)
 | _,_,_,_,.nil,s=>s
 | _,_,_,_,.cons r t,s=>.cons r (Vals.append t s)
theorem Vals.take:∀ {xs:List V}{us:List Value} (n:Nat),Vals xs us->Vals (xs.take n) (us.take n)
 | _,_,0,_=>.nil
 | _,_,_+1,.nil=>.nil
 | _,_,n+1,.cons r t=>.cons r (Vals.take n t)
theorem Vals.drop:∀ {xs:List V}{us:List Value} (n:Nat),Vals xs us->Vals (xs.drop n) (us.drop n)
 | _,_,0,r=>r
 | _,_,_+1,.nil=>.nil
 | _,_,n+1,.cons _ t=>Vals.drop n t
def RelO:Option V->Option Value->Prop
 | some v,some u=>RelV v u
 | none,none=>True
 | _,_=>False
def KV {κ:Type}:List (κ×V)->List (κ×Value)->Prop:=Paired fun (p:κ×V) (q:κ×Value)=>p.1=q.1/\RelV p.2 q.2
def kV:Key->V
 | .inl i=>.int i
 | .inr x=>.str x
inductive HO where
 | lst (xs:List V)
 | tup (xs:List V)
 | dK (kvs:List (Key×V)) | dT (kvs:List (List Key×V))
 | set (S:Int->Bool) (n:Nat)
 | ins (C dx:Addr) (fs:List (Str×V))
 | own (x:Addr)
 | xd (fs:List (Str×V))
 | met (f x:Addr)
 | rng (lo hi:Int)
 | frz (o:Obj) (u:HO)
 | tbl (ps:Array Value)
 | ext (φ:Heap->Prop)
abbrev Hp:=Addr->Option HO
def upd (H:Hp) (a:Addr) (o:HO):Hp:=fun b=>if b=a then some o else H b
theorem zao {H:Hp}{a:Addr}{o:HO}:upd H a o a=some o:=by unfold upd;rw [if_pos rfl]
theorem zam {H:Hp}{a b:Addr}{o:HO} (h:b≠a):upd H a o b=H b:=by unfold upd;rw [if_neg h]
theorem zaJ {H:Hp}{a b:Addr}{o:HO} (h:H a=some o) (h':H b=none):a≠b:=by
 intro e;subst e;rw [h] at h';cases h'
def IsTD (h:Heap) (a:Addr) (items:Array Value):Prop:=∃ o,h.get? a=some o/\o.cls=.type "tuple" /\ (∃ n,o.data=.seq items n)/\o.dict=none
theorem IsTD.tup {h:Heap}{a:Addr}{items:Array Value} (x:IsTD h a items):IsTup h a items:=by
 obtain ⟨o,e,c,d,_⟩:=x
 exact ⟨o,e,c,d⟩
theorem IsTD.lt {h:Heap}{a:Addr}{items:Array Value} (x:IsTD h a items):a<h.objs.size:=x.tup.lt
theorem IsTD.new (h:Heap) (items:Array Value):IsTD (h.push { cls:=.type "tuple",data:=.seq items }) h.objs.size items:=⟨_,Heap.get?_push_size _ rfl,rfl,⟨_,rfl⟩,rfl⟩
section
variable (P:Program) (w:World)
def zba (H:Hp) (h:Heap) (a:Addr):HO->Prop
 | .lst xs=>xs.length<=sizeLine/\∃ (its:List Value) (n:Nat),Vals xs its/\h.get? a=some { cls:=.type "list",data:=.seq its.toArray n }
 | .tup xs=>xs.length<=sizeLine/\∃ its:List Value,Vals xs its/\IsTD h a its.toArray
 | .dK kvs=>kvs.length<=sizeLine/\(a == sysModules)=false/\∃ vs,KV kvs vs/\h.DictOf (zal P w) a vs
 | .dT kvs=>kvs.length<=sizeLine/\(a == sysModules)=false/\∃ xs:List (List Key×Addr×Value),
   Paired (fun (p:List Key×V) (q:List Key×Addr×Value)=>p.1=q.1/\H q.2.1=some (.tup (p.1.map kV))/\RelV p.2 q.2.2) kvs xs /\
   ∃ o es ep,h.get? a=some o/\o.ExactDict/\o.data=.dict es ep/\es.toList=xs.map (entryOfKey (tupleKind (zal P w)))/\(xs.map (·.1)).Nodup
 | .set S n=>h.SetOf (intKind P w) a S n
 | .ins C dx fs=>H dx=some (.own a)/\fs.length<=1000/\dx≠a/\h.get? a=some (PySem.W.instObj C dx) /\
   ∃ mA,h.Ns1 dx mA/\(∀ f,RelO (fs.lookup f) (mA f))/\PySem.Within mA (fs.map (·.1))
 | .own _=>∃ o,h.get? a=some o
 | .xd fs=>∃ mA,h.Ns1 a mA/\∀ f,RelO (fs.lookup f) (mA f)
 | .rng lo hi=>∃ t u v,h.get? a=some { cls:=.type "range",data:=.fields #[.int lo t,.int hi u,.int 1 v] }
 | .frz o u=>h.get? a=some o/\zba H h a u
 | .tbl ps=>h.get? a=some { cls:=.none,data:=.fields ps }
 | .met f x=>h.get? a=some (PySem.W.methodObj (.ref f) (.ref x))
 | .ext φ=>φ h/\(∃ o,h.get? a=some o)/\∀ h1 h2:Heap,φ h1->(∀ o,h1.get? a=some o->h2.get? a=some o)->φ h2
def HOk (H:Hp) (h:Heap):Prop:=∀ a o,H a=some o->zba P w H h a o
end
section
variable {P:Program}{w:World}{H H':Hp}{h h':Heap}{a:Addr}{o:HO}
theorem zba.lt (x:zba P w H h a o):a<h.objs.size:=by
 cases o with
 | lst xs=>obtain ⟨_,_,_,_,e⟩:=x;exact Heap.lt_size e
 | tup xs=>obtain ⟨_,_,_,p⟩:=x;exact p.lt
 | dK kvs=>obtain ⟨_,_,_,_,o,_,_,e,_⟩:=x;exact Heap.lt_size e
 | dT kvs=>obtain ⟨_,_,_,_,o,_,_,e,_⟩:=x;exact Heap.lt_size e
 | set S n=>obtain ⟨o,_,_,_,e,_⟩:=x;exact Heap.lt_size e
 | ins C dx fs=>obtain ⟨_,_,_,e,_⟩:=x;exact Heap.lt_size e
 | own y=>obtain ⟨_,e⟩:=x;exact Heap.lt_size e
 | xd fs=>obtain ⟨_,⟨_,_,_,e,_⟩,_⟩:=x;exact Heap.lt_size e
 | rng lo hi=>obtain ⟨_,_,_,e⟩:=x;exact Heap.lt_size e
 | frz ob u=>obtain ⟨e,_⟩:=x;exact Heap.lt_size e
 | tbl ps=>exact Heap.lt_size (show h.get? a=some _ from x)
 | met f y=>exact Heap.lt_size (show h.get? a=some _ from x)
 | ext φ=>obtain ⟨_,⟨_,e⟩,_⟩:=x;exact Heap.lt_size e
theorem Paired.mapP {α β:Type}{F G:α->β->Prop}:∀ {l₁:List α}{l₂:List β},Paired F l₁ l₂->(∀ a b,F a b->G a b)->Paired G l₁ l₂
 | _,_,.nil,_=>.nil
 | _,_,.cons r t,f=>.cons (f _ _ r) (Paired.mapP t f)
theorem zba.stay (x:zba P w H h a o) (k:∀ b u,(b=a\/H b=some (.own a))->h.get? b=some u->h'.get? b=some u)
  (ho:∀ b,H b=some (.own a)->H' b=some (.own a)) (ht:∀ b xs,H b=some (.tup xs)->H' b=some (.tup xs)):zba P w H' h' a o:=by
 induction o with
 | lst xs=>obtain ⟨z,its,n,r,e⟩:=x;exact ⟨z,its,n,r,k _ _ (.inl rfl) e⟩
 | tup xs=>obtain ⟨z,its,r,ob,e,c⟩:=x;exact ⟨z,its,r,ob,k _ _ (.inl rfl) e,c⟩
 | dK kvs=>obtain ⟨z,y,vs,r,ob,es,ep,e,c⟩:=x;exact ⟨z,y,vs,r,ob,es,ep,k _ _ (.inl rfl) e,c⟩
 | dT kvs =>
  obtain ⟨z,y,xs,r,ob,es,ep,e,c⟩:=x
  exact ⟨z,y,xs,Paired.mapP r fun p q z=>⟨z.1,ht _ _ z.2.1,z.2.2⟩,ob,es,ep,k _ _ (.inl rfl) e,c⟩
 | set S n=>obtain ⟨ob,es,ep,t,e,c⟩:=x;exact ⟨ob,es,ep,t,k _ _ (.inl rfl) e,c⟩
 | ins C dx fs =>
  obtain ⟨d,z,ne,e,mA,⟨od,es,ep,e2,c⟩,r⟩:=x
  exact ⟨ho _ d,z,ne,k _ _ (.inl rfl) e,mA,⟨od,es,ep,k _ _ (.inr d) e2,c⟩,r⟩
 | own y=>obtain ⟨ob,e⟩:=x;exact ⟨ob,k _ _ (.inl rfl) e⟩
 | xd fs=>obtain ⟨mA,⟨od,es,ep,e,c⟩,r⟩:=x;exact ⟨mA,⟨od,es,ep,k _ _ (.inl rfl) e,c⟩,r⟩
 | rng lo hi=>obtain ⟨t,u,v,e⟩:=x;exact ⟨t,u,v,k _ _ (.inl rfl) e⟩
 | frz ob u ih=>obtain ⟨e,q⟩:=x;exact ⟨k _ _ (.inl rfl) e,ih q⟩
 | tbl ps =>
  have e:h.get? a=some { cls:=.none,data:=.fields ps }:=x
  show h'.get? a=some { cls:=.none,data:=.fields ps }
  exact k a _ (.inl rfl) e
 | met f y =>
  have e:h.get? a=some (PySem.W.methodObj (.ref f) (.ref y)):=x
  show h'.get? a=some (PySem.W.methodObj (.ref f) (.ref y))
  exact k a _ (.inl rfl) e
 | ext φ=>obtain ⟨p,⟨o,e⟩,st⟩:=x;exact ⟨st _ _ p fun o q=>k _ _ (.inl rfl) q,⟨o,k _ _ (.inl rfl) e⟩,st⟩
theorem HOk.lt (x:HOk P w H h) (e:H a=some o):a<h.objs.size:=(x a o e).lt
theorem HOk.fresh (x:HOk P w H h) (e:h.objs.size<=a):H a=none:=by
 cases q:H a with
 | none=>rfl
 | some u=>exact absurd (Nat.lt_of_lt_of_le (x.lt q) e) (Nat.lt_irrefl _)
theorem HOk.kept (x:HOk P w H h) (k:∀ b u,h.get? b=some u->h'.get? b=some u):HOk P w H h':=fun a o e =>
 (x a o e).stay (fun b u _ q=>k b u q) (fun _ q=>q) fun _ _ q=>q
theorem HOk.laid (x:HOk P w H h) (k:∀ b u,h.get? b=some u->h'.get? b=some u) (hp:h.objs.size<=a) (new:zba P w (upd H a o) h' a o):HOk P w (upd H a o) h':=fun b u e=>by
 have hn:=x.fresh hp
 by_cases hb:b=a
 ·subst hb;rw [zao] at e;cases e;exact new
 ·rw [zam hb] at e
  exact (x b u e).stay (fun c v _ q=>k c v q) (fun c q=>by rw [zam (zaJ q hn)];exact q) fun c xs q=>by rw [zam (zaJ q hn)];exact q
end
def Rd (H:Hp) (a:Addr) (u:HO):Prop:=H a=some u\/∃ o,H a=some (.frz o u)
theorem Rd.ok {P:Program}{w:World}{H:Hp}{h:Heap}{a:Addr}{u:HO} (r:Rd H a u) (x:HOk P w H h):zba P w H h a u:=by
 rcases r with r | ⟨o,r⟩
 ·exact x a u r
 ·obtain ⟨_,q⟩:=x a _ r
  exact q
def Mut:Option HO->Prop
 | some (.lst _)=>True
 | some (.dK _)=>True
 | some (.dT _)=>True
 | some (.set _ _)=>True
 | some (.ins _ _ _)=>True
 | some (.ext _)=>True
 | _=>False
section
variable {P:Program}{w:World}{H:Hp}{h h':Heap}{x e:Addr}{o':HO}
theorem HOk.write (ok:HOk P w H h) (mu:Mut (H x)) (he:e=x\/H e=some (.own x)) (k:∀ b u,b≠e->h.get? b=some u->h'.get? b=some u) (heo:∃ u,h'.get? e=some u)
  (new:zba P w (upd H x o') h' x o'):HOk P w (upd H x o') h':=fun b u q=>by
 have nown:∀ c y,H c=some (.own y)->c≠x:=fun c y r z=>by subst z;rw [r] at mu;exact mu
 have ntup:∀ c xs,H c=some (.tup xs)->c≠x:=fun c xs r z=>by subst z;rw [r] at mu;exact mu
 by_cases hb:b=x
 ·subst hb;rw [zao] at q;cases q;exact new
 ·rw [zam hb] at q
  by_cases hbe:b=e
  ·have q':H b=some (.own x):=by
    rcases he with z | z
    ·exact absurd (hbe.trans z) hb
    ·rw [hbe];exact z
   rw [q] at q';cases q'
   obtain ⟨v,hv⟩:=heo
   exact ⟨v,by rw [hbe];exact hv⟩
  ·refine (ok b u q).stay (fun c v hc r=>k c v ?_ r) (fun c r=>by rw [zam (nown c b r)];exact r) fun c xs r=>by rw [zam (ntup c xs r)];exact r
   rcases hc with rfl | hc
   ·exact hbe
   ·rintro rfl
    rcases he with z | z
    ·exact nown c b hc z
    ·rw [hc] at z;cases z;exact hb rfl
end
structure Un (fs ex:List Addr) (H H':Hp) (h h':Heap):Prop where
 keep:∀ b o,h.get? b=some o->H b=none->b∉fs->b∉ex->h'.get? b=some o
 slot:∀ b o,h.get? b=some o->H b=none->b∈fs->b∉ex->∃ sl,h'.get? b=some { o with slots:=sl }
 free:∀ b o,h.get? b=some o->H b=none->b∉ex->H' b=none
 there:∀ b o,h.get? b=some o->b∉ex->∃ o',h'.get? b=some o'
 tups:∀ b xs,H b=some (.tup xs)->H' b=some (.tup xs)
 frzs:∀ b o u,H b=some (.frz o u)->H' b=some (.frz o u)
 tbls:∀ b ps,H b=some (.tbl ps)->∃ more,H' b=some (.tbl (ps++more))
section
variable {fs fs' ex ex':List Addr}{H H1 H2:Hp}{h h1 h2 h':Heap}{a x e:Addr}{o:HO}
theorem Un.any (u:Un fs ex H H1 h h1) {b:Addr}{ob:Obj} (q:h.get? b=some ob) (n:H b=none) (hx:b∉ex):∃ sl,h1.get? b=some { ob with slots:=sl }:=by
 by_cases hb:b∈fs
 ·exact u.slot b ob q n hb hx
 ·exact ⟨ob.slots,u.keep b ob q n hb hx⟩
theorem Un.kept (k:∀ b u,h.get? b=some u->h'.get? b=some u):Un fs ex H H h h' :=
 ⟨fun b ob q _ _ _=>k b ob q,fun b ob q _ _ _=>⟨ob.slots,k b ob q⟩,fun _ _ _ n _=>n,fun b ob q _=>⟨ob,k b ob q⟩,fun _ _ q=>q,fun _ _ _ q=>q,fun _ ps q=>⟨#[],by rw [q];simp⟩⟩
theorem Un.refl:Un fs ex H H h h:=Un.kept fun _ _ q=>q
theorem Un.laid (k:∀ b u,h.get? b=some u->h'.get? b=some u) (hp:h.objs.size<=a) (hn:H a=none):Un fs ex H (upd H a o) h h' where
 keep:=fun b u q _ _ _=>k b u q
 slot:=fun b u q _ _ _=>⟨u.slots,k b u q⟩
 free:=fun b u q n _=>by rw [zam (Nat.ne_of_lt (Nat.lt_of_lt_of_le (Heap.lt_size q) hp))];exact n
 there:=fun b u q _=>⟨u,k b u q⟩
 tups:=fun b xs q=>by rw [zam (zaJ q hn)];exact q
 frzs:=fun b u xs q=>by rw [zam (zaJ q hn)];exact q
 tbls:=fun b ps q=>⟨#[],by rw [zam (zaJ q hn),q];simp⟩
theorem Un.write (mu:Mut (H x)) (he:e=x\/H e=some (.own x)) (k:∀ b u,b≠e->h.get? b=some u->h'.get? b=some u) (heo:∃ u,h'.get? e=some u):Un fs ex H (upd H x o) h h':=by
 have hx:∀ b,H b=none->b≠x:=fun b n z=>by subst z;rw [n] at mu;exact mu
 have hb:∀ b,H b=none->b≠e:=fun b n z=>by
  subst z
  rcases he with r | r
  ·exact hx b n r
  ·rw [n] at r;cases r
 have hm:∀ b u,H b=some u->¬Mut (some u)->b≠x:=fun b u q nm z=>by subst z;rw [q] at mu;exact nm mu
 refine ⟨fun b u q n _ _=>k b u (hb b n) q,fun b u q n _ _=>⟨u.slots,k b u (hb b n) q⟩,fun b u q n _=>by rw [zam (hx b n)];exact n,fun b u q _=>?_,
  fun b xs q=>by rw [zam (hm b _ q fun z=>z)];exact q,fun b u xs q=>by rw [zam (hm b _ q fun z=>z)];exact q,fun b ps q=>⟨#[],by rw [zam (hm b _ q fun z=>z),q];simp⟩⟩
 by_cases hbe:b=e
 ·subst hbe;exact heo
 ·exact ⟨u,k b u hbe q⟩
end
def trk (h:Heap) (H:Hp):List Addr:=(List.range h.objs.size).filter fun a=>(H a).isSome
def hidT (h:Heap) (H:Hp):Heap:=PySem.W.hideAll h (trk h H)
theorem ziv (h:Heap) (H:Hp):(hidT h H).objs.size=h.objs.size:=PySem.W.hideAll_size _ _
theorem zjZ {h:Heap}{H:Hp}{b:Addr}{o:Obj} (e:h.get? b=some o) (n:H b=none):(hidT h H).get? b=some o :=
 PySem.W.hideAll_get _ e fun hm=>by
  have q:(H b).isSome=true:=(List.mem_filter.mp hm).2
  rw [n] at q;simp at q
theorem zln {h:Heap}{H:Hp}{b:Addr}{o:Obj} (e:(hidT h H).get? b=some o):h.get? b=some o/\H b=none:=by
 have e':h.get? b=some o:=PySem.W.of_hideAll (trk h H) e
 refine ⟨e',?_⟩
 cases q:H b with
 | none=>rfl
 | some x =>
  have hm:b∈trk h H:=List.mem_filter.mpr ⟨List.mem_range.mpr (Heap.lt_size e'),by simp [q]⟩
  have z:(hidT h H).get? b=none:=PySem.W.hideAll_none (trk h H) hm
  rw [z] at e;cases e
end L2
namespace L2
open PySem PySem.Spec PyProof.Rows
structure Mod (K:PySem.W.Frag) (mg:Str->Option Value) (base:Heap):Prop where
 kin:K.In base
 glob:base.Ns mainGlobals mg
 blt:∃ mb,base.Ns builtinsNs mb/\∀ x:Str,x ≠ "__name__" -> mb x=bootBuiltins x
 nolimit:base.NoLimit
structure Cx where
 prog:Program
 w:World
 K:PySem.W.Frag
 mg:Str->Option Value
 base:Heap
 A:Around
 N:List Str
 s₀:Shared
 H₀:Hp
 env:Env
 outer:List Env
 stack:List Env
 ex:List Addr
 fn:Str->Bool
 calm:Bool
 pn:List (Addr×Obj)
 xe:Value->Shared->Prop
def frs (l:List Env):List Addr:=l.filterMap (·.frame)
abbrev Cx.fs (X:Cx):List Addr:=frs X.outer
def Vis (sc:Scope) (x:Str):Prop:=sc.names.lookup x=some .local\/sc.names.lookup x=some .cell\/sc.names.lookup x=some .free
def Loc (sc:Scope) (x:Str):Prop:=sc.names.lookup x=some .local\/sc.names.lookup x=some .cell
def Look (env:Env) (h:Heap) (m:Str->Option Value) (x:Str) (u:Value):Prop :=
 (env.kindOf x=some .local/\m x=some u)\/((env.kindOf x=some .cell\/env.kindOf x=some .free)/\∃ c,env.cells.lookup x=some c/\h.IsCell c (some u))
structure Cx.Ok (X:Cx):Prop where
 mod:Mod X.K X.mg X.base
 kind:X.env.scope.kind=.function
 glob:X.env.globals=mainGlobals
 blt:X.env.builtins=builtinsNs
 above:X.s₀.heap.objs.size<=X.env.locals
 inj:∀ x y c,X.env.cells.lookup x=some c->X.env.cells.lookup y=some c->x=y
 has:∀ x,(X.env.kindOf x=some .cell\/X.env.kindOf x=some .free)->∃ c,X.env.cells.lookup x=some c
 cab:∀ x c,X.fn x=true->X.env.cells.lookup x=some c->X.s₀.heap.objs.size<=c
 hd:X.calm=true->X.A.handled=none
 frames:X.A.frames=some X.stack
 stk:X.stack=X.outer\/(X.stack=X.env::X.outer/\X.env.frame=some X.env.locals)
 exf:∀ b∈X.ex,b≠X.env.locals/\∀ x c,X.env.cells.lookup x=some c->c≠b
 bs:∀ b o,X.base.get? b=some o->X.s₀.heap.get? b=some o/\X.H₀ b=none
 bsz:X.base.objs.size<=X.s₀.heap.objs.size
 noex:∀ b o,X.base.get? b=some o->b∉X.ex
 exfs:∀ b∈X.ex,b∉X.fs
 funs:X.s₀.heap.FunFrames X.base X.outer
 frf:∀ b∈X.fs,X.H₀ b=none
structure Inv (X:Cx) (pins:List (Addr×Obj)) (σ:List (Option V)) (H:Hp) (s:Shared):Prop where
 ok:X.Ok
 os:s.os=X.s₀.os
 bare:AllBare s.gens
 base:Un X.fs X.ex X.H₀ H X.s₀.heap s.heap
 loc:∃ m,s.heap.Ns X.env.locals m/\∀ (i:Nat) (x:Str) (v:V),X.N[i]?=some x->σ[i]?=some (some v)->Vis X.env.scope x->∃ u,RelV v u/\Look X.env s.heap m x u
 cell:∀ x c,X.env.cells.lookup x=some c->∃ v,s.heap.IsCell c v
 free:H X.env.locals=none
 freeC:∀ x c,X.env.cells.lookup x=some c->H c=none
 pin:∀ p∈X.pn++pins,s.heap.get? p.1=some p.2/\H p.1=none/\p.1≠X.env.locals/\p.1∉X.fs/\∀ v,p.2.data≠.cell v
 hok:HOk X.prog X.w H s.heap
 len:σ.length=X.N.length
section
variable {X:Cx}{pins:List (Addr×Obj)}{σ:List (Option V)}{H H':Hp}{s:Shared}{h':Heap}
theorem Cx.Ok.nofr (ok:X.Ok) {b:Addr}{o:Obj} (e:X.base.get? b=some o):b∉X.fs:=fun hb=>by
 have:=(ok.funs.mem hb).1
 rw [e] at this;cases this
theorem Inv.bs (I:Inv X pins σ H s):∀ b o,X.base.get? b=some o->s.heap.get? b=some o/\H b=none:=fun b o e =>
 ⟨I.base.keep b o (I.ok.bs b o e).1 (I.ok.bs b o e).2 (I.ok.nofr e) (I.ok.noex b o e),I.base.free b o (I.ok.bs b o e).1 (I.ok.bs b o e).2 (I.ok.noex b o e)⟩
theorem Inv.bk (I:Inv X pins σ H s):∀ b o,X.base.get? b=some o->s.heap.get? b=some o:=fun b o e=>(I.bs b o e).1
theorem Inv.mod (I:Inv X pins σ H s):Mod X.K X.mg X.base:=I.ok.mod
theorem Inv.kIn (I:Inv X pins σ H s):X.K.In s.heap:=I.ok.mod.kin.keeps I.bk
theorem Inv.lt (I:Inv X pins σ H s):X.env.locals<s.heap.objs.size:=let ⟨_,hn,_⟩:=I.loc;hn.lt
theorem Inv.sz (I:Inv X pins σ H s):X.s₀.heap.objs.size<=s.heap.objs.size:=Nat.le_trans I.ok.above (Nat.le_of_lt I.lt)
theorem Inv.nofs (I:Inv X pins σ H s) {a:Addr} (h:s.heap.objs.size<=a):a∉X.fs:=fun hb=>by
 obtain ⟨_,o,ho,_⟩:=I.ok.funs.mem hb
 exact absurd (Nat.lt_of_lt_of_le (Heap.lt_size ho) (Nat.le_trans I.sz h)) (Nat.lt_irrefl _)
theorem Inv.cne (I:Inv X pins σ H s):∀ x c,X.env.cells.lookup x=some c->c≠X.env.locals:=fun x c e z=>by
 obtain ⟨v,o,ho,hd⟩:=I.cell x c e
 obtain ⟨m,⟨o',es,ep,ho',hd',_⟩,_⟩:=I.loc
 rw [z,ho'] at ho;cases ho;rw [hd'] at hd;cases hd
theorem Inv.funs (I:Inv X pins σ H s):s.heap.FunFrames X.base X.outer:=by
 have all:∀ (l:List Env),(∀ b∈frs l,b∈X.fs)->X.s₀.heap.FunFrames X.base l->s.heap.FunFrames X.base l:=by
  intro l
  induction l with
  | nil=>intro _ _;trivial
  | cons env r ih =>
   intro hs hl
   obtain ⟨hk,⟨L,o,hf,hn,ho,hd⟩,hr⟩:=hl
   have hL:L∈X.fs:=hs L (by unfold frs;rw [List.filterMap_cons,hf];exact List.mem_cons_self)
   obtain ⟨sl,e⟩:=I.base.slot L o ho (I.ok.frf L hL) hL fun z=>I.ok.exfs L z hL
   exact ⟨hk,⟨L,_,hf,hn,e,hd⟩,ih (fun b hb=>hs b (by unfold frs;rw [List.filterMap_cons,hf];exact List.mem_cons_of_mem _ hb)) hr⟩
 exact all X.outer (fun _ hb=>hb) I.ok.funs
theorem Inv.stack (I:Inv X pins σ H s):s.heap.FunFrames X.base X.stack:=by
 rcases I.ok.stk with e | ⟨e,hf⟩
 ·rw [e];exact I.funs
 ·rw [e]
  obtain ⟨m,hn,_⟩:=I.loc
  refine .cons (by rw [I.ok.kind];decide) hf hn ?_ I.funs
  exact Heap.get?_none_of_le (Nat.le_trans I.ok.bsz I.ok.above)
theorem Inv.stkSub (I:Inv X pins σ H s):∀ b∈frs X.stack,b∈X.env.locals::X.fs:=fun b hb=>by
 rcases I.ok.stk with e | ⟨e,hf⟩
 ·rw [e] at hb;exact List.mem_cons_of_mem _ hb
 ·rw [e] at hb
  unfold frs at hb
  rw [List.filterMap_cons,hf] at hb
  exact hb
theorem Inv.stkFree (I:Inv X pins σ H s):∀ b∈frs X.stack,H b=none:=fun b hb=>by
 rcases List.mem_cons.mp (I.stkSub b hb) with e | hb
 ·rw [e];exact I.free
 ·obtain ⟨_,o,ho,_⟩:=I.ok.funs.mem hb
  exact I.base.free b o ho (I.ok.frf b hb) fun z=>I.ok.exfs b z hb
theorem Inv.step {g':Array GenState}{t':Nat}{d':Drawn}{ch:List Addr} (I:Inv X pins σ H s)
  (hch:∀ b∈ch,(b∈X.ex\/X.s₀.heap.objs.size<=b)/\b≠X.env.locals/\(∀ x c,X.env.cells.lookup x=some c->c≠b)/\∀ p∈X.pn++pins,p.1≠b)
  (keep:∀ b o,b≠X.env.locals->b∉X.fs->b∉ch->s.heap.get? b=some o->H b=none->h'.get? b=some o)
  (slot:∀ b o,b≠X.env.locals->b∈X.fs->b∉ch->s.heap.get? b=some o->H b=none->∃ sl,h'.get? b=some { o with slots:=sl }) (free:∀ b o,b∉ch->s.heap.get? b=some o->H b=none->H' b=none)
  (there:∀ b o,b∉ch->s.heap.get? b=some o->∃ o',h'.get? b=some o')
  (tups:∀ b xs,H b=some (.tup xs)->H' b=some (.tup xs)) (frzs:∀ b o u,H b=some (.frz o u)->H' b=some (.frz o u)) (tbls:∀ b ps,H b=some (.tbl ps)->∃ more,H' b=some (.tbl (ps++more)))
  (ns:∀ m,s.heap.Ns X.env.locals m->h'.Ns X.env.locals m) (hok:HOk X.prog X.w H' h') (hg:AllBare g') :
  Inv X pins σ H' { s with heap:=h',gens:=g',drawn:=d',toks:=t' }:=by
 have neL:∀ b o,X.s₀.heap.get? b=some o->b≠X.env.locals:=fun b o e=>Nat.ne_of_lt (Nat.lt_of_lt_of_le (Heap.lt_size e) I.ok.above)
 have neC:∀ b o,X.s₀.heap.get? b=some o->b∉X.ex->b∉ch:=fun b o e hx hb=>by
  rcases (hch b hb).1 with z | z
  ·exact hx z
  ·exact absurd (Nat.lt_of_lt_of_le (Heap.lt_size e) z) (Nat.lt_irrefl _)
 have cellK:∀ x c,X.env.cells.lookup x=some c->∀ v,s.heap.IsCell c v->h'.IsCell c v:=fun x c e v ⟨o,ho,hd⟩=>by
  have nch:c∉ch:=fun z=>(hch c z).2.2.1 x c e rfl
  by_cases hc:c∈X.fs
  ·obtain ⟨sl,q⟩:=slot c o (I.cne x c e) hc nch ho (I.freeC x c e)
   exact ⟨_,q,hd⟩
  ·exact ⟨o,keep c o (I.cne x c e) hc nch ho (I.freeC x c e),hd⟩
 refine ⟨I.ok,I.os,hg,⟨fun b o e n hb hx=>?_,fun b o e n hb hx=>?_,fun b o e n hx=>?_,fun b o e hx=>?_,fun b xs e=>tups b xs (I.base.tups b xs e),fun b o xs e=>frzs b o xs (I.base.frzs b o xs e),fun b ps e=>?_⟩,?_,fun x c e=>?_,?_,fun x c e=>?_,fun p hp=>?_,hok,I.len⟩
 ·exact keep b o (neL b o e) hb (neC b o e hx) (I.base.keep b o e n hb hx) (I.base.free b o e n hx)
 ·obtain ⟨sl,e1⟩:=I.base.slot b o e n hb hx
  obtain ⟨sl',e2⟩:=slot b _ (neL b o e) hb (neC b o e hx) e1 (I.base.free b o e n hx)
  exact ⟨sl',e2⟩
 ·obtain ⟨o',e1⟩:=I.base.there b o e hx
  exact free b o' (neC b o e hx) e1 (I.base.free b o e n hx)
 ·obtain ⟨o',e1⟩:=I.base.there b o e hx
  exact there b o' (neC b o e hx) e1
 ·obtain ⟨m1,e1⟩:=I.base.tbls b ps e
  obtain ⟨m2,e2⟩:=tbls b _ e1
  exact ⟨m1++m2,by rw [e2,Array.append_assoc]⟩
 ·obtain ⟨m,hn,hl⟩:=I.loc
  refine ⟨m,ns m hn,fun i x v e1 e2 e3=>?_⟩
  obtain ⟨u,r,l⟩:=hl i x v e1 e2 e3
  refine ⟨u,r,?_⟩
  rcases l with l | ⟨k,c,e,z⟩
  ·exact .inl l
  ·exact .inr ⟨k,c,e,cellK x c e _ z⟩
 ·obtain ⟨v,z⟩:=I.cell x c e
  exact ⟨v,cellK x c e v z⟩
 ·obtain ⟨m,⟨o,_,_,ho,_⟩,_⟩:=I.loc
  exact free _ o (fun z=>(hch _ z).2.1 rfl) ho I.free
 ·obtain ⟨v,o,ho,hd⟩:=I.cell x c e
  exact free c o (fun z=>(hch c z).2.2.1 x c e rfl) ho (I.freeC x c e)
 ·obtain ⟨e,n,ne,nf,d⟩:=I.pin p hp
  have nch:p.1∉ch:=fun z=>(hch p.1 z).2.2.2 p hp rfl
  exact ⟨keep p.1 p.2 ne nf nch e n,free p.1 p.2 nch e n,ne,nf,d⟩
theorem Inv.un {t':Nat} (I:Inv X pins σ H s) (u:Un X.fs [] H H' s.heap h') (hok:HOk X.prog X.w H' h'):Inv X pins σ H' { s with heap:=h',toks:=t' }:=by
 obtain ⟨m,⟨o,es,ep,ho,r⟩,_⟩:=id I.loc
 obtain ⟨sl,hL⟩:=u.any ho I.free (by simp)
 exact I.step (g':=s.gens) (d':=s.drawn) (ch:=[]) (fun _ z=>nomatch z) (fun b o _ hb _ e n=>u.keep b o e n hb (by simp)) (fun b o _ hb _ e n=>u.slot b o e n hb (by simp)) (fun b o _ e n=>u.free b o e n (by simp)) (fun b o _ e=>u.there b o e (by simp)) u.tups u.frzs u.tbls (fun m' hm=>by
  obtain ⟨o',es',ep',ho',r'⟩:=hm
  rw [ho] at ho';cases ho'
  exact ⟨_,es',ep',hL,r'⟩) hok I.bare
theorem Inv.call {g':Array GenState}{t':Nat}{d':Drawn}{ch:List Addr} (I:Inv X pins σ H s) (u:Un (frs X.stack) ch H H' s.heap h') (hok:HOk X.prog X.w H' h') (hg:AllBare g')
  (hch:∀ b∈ch,(b∈X.ex\/X.s₀.heap.objs.size<=b)/\b≠X.env.locals/\(∀ x c,X.env.cells.lookup x=some c->c≠b)/\∀ p∈X.pn++pins,p.1≠b) :
  Inv X pins σ H' { s with heap:=h',gens:=g',drawn:=d',toks:=t' }:=by
 obtain ⟨m,⟨o,es,ep,ho,r⟩,_⟩:=id I.loc
 obtain ⟨sl,hL⟩:=u.any ho I.free fun z=>(hch _ z).2.1 rfl
 exact I.step (ch:=ch) hch (fun b o hL hb hc e n=>u.keep b o e n (fun z=>(List.mem_cons.mp (I.stkSub b z)).elim hL hb) hc) (fun b o _ _ hc e n=>u.any e n hc) (fun b o hc e n=>u.free b o e n hc) (fun b o hc e=>u.there b o e hc) u.tups u.frzs u.tbls (fun m' hm=>by
  obtain ⟨o',es',ep',ho',r'⟩:=hm
  rw [ho] at ho';cases ho'
  exact ⟨_,es',ep',hL,r'⟩) hok hg
theorem Inv.turned {t':Nat}{it:Addr} (I:Inv X pins σ H s) (k:∀ b o,b≠it->s.heap.get? b=some o->h'.get? b=some o) (hn:H it=none) (hL:it≠X.env.locals)
  (h1:it∈X.ex\/X.s₀.heap.objs.size<=it) (h2:∀ x c,X.env.cells.lookup x=some c->c≠it) (h3:∀ p∈X.pn++pins,p.1≠it):Inv X pins σ H { s with heap:=h',toks:=t' }:=by
 have nit:∀ b u,H b=some u->b≠it:=fun b u e z=>by rw [z,hn] at e;cases e
 refine I.step (g':=s.gens) (d':=s.drawn) (ch:=[it]) (fun b hb=>?_) (fun b o _ _ hc e _=>k b o (fun z=>hc (by simp [z])) e) (fun b o _ _ hc e _=>⟨o.slots,k b o (fun z=>hc (by simp [z])) e⟩) (fun _ _ _ _ n=>n)
  (fun b o hc e=>⟨o,k b o (fun z=>hc (by simp [z])) e⟩) (fun _ _ e=>e) (fun _ _ _ e=>e) (fun b ps e=>⟨#[],by rw [e];simp⟩) (fun m hm=>?_) (fun b u e=>?_) I.bare
 ·have e:b=it:=by simpa using hb
  subst e
  exact ⟨h1,hL,h2,h3⟩
 ·obtain ⟨o,es,ep,ho,r⟩:=hm
  exact ⟨o,es,ep,k _ o (Ne.symm hL) ho,r⟩
 ·refine (I.hok b u e).stay (fun c v hc q=>k c v ?_ q) (fun _ q=>q) fun _ _ q=>q
  rcases hc with z | z
  ·rw [z];exact nit b u e
  ·exact nit c _ z
theorem Inv.tok (I:Inv X pins σ H s) (t:Nat):Inv X pins σ H { s with toks:=t }:=I.un (h':=s.heap) (t':=t) Un.refl I.hok
theorem Inv.kept {t':Nat} (I:Inv X pins σ H s) (k:∀ b u,s.heap.get? b=some u->h'.get? b=some u):Inv X pins σ H { s with heap:=h',toks:=t' }:=I.un (Un.kept k) (I.hok.kept k)
theorem Inv.laid {a:Addr}{o:HO}{t':Nat} (I:Inv X pins σ H s) (k:∀ b u,s.heap.get? b=some u->h'.get? b=some u) (hp:s.heap.objs.size<=a) (new:zba X.prog X.w (upd H a o) h' a o) :
  Inv X pins σ (upd H a o) { s with heap:=h',toks:=t' }:=I.un (Un.laid k hp (I.hok.fresh hp)) (I.hok.laid k hp new)
theorem Inv.write {x e:Addr}{o:HO}{t':Nat} (I:Inv X pins σ H s) (mu:Mut (H x)) (he:e=x\/H e=some (.own x)) (k:∀ b u,b≠e->s.heap.get? b=some u->h'.get? b=some u) (heo:∃ u,h'.get? e=some u)
  (new:zba X.prog X.w (upd H x o) h' x o):Inv X pins σ (upd H x o) { s with heap:=h',toks:=t' }:=I.un (Un.write mu he k heo) (I.hok.write mu he k heo new)
theorem Inv.weak {σ':List (Option V)} (I:Inv X pins σ H s) (hl:σ'.length=σ.length) (w:∀ (i:Nat) v,σ'[i]?=some (some v)->σ[i]?=some (some v)):Inv X pins σ' H s :=
 ⟨I.ok,I.os,I.bare,I.base,let ⟨m,hn,hl'⟩:=I.loc;⟨m,hn,fun i x v e1 e2 e3=>hl' i x v e1 (w i v e2) e3⟩,I.cell,I.free,I.freeC,I.pin,I.hok,hl.trans I.len⟩
theorem Inv.pins_of {pins':List (Addr×Obj)} (I:Inv X pins σ H s) (h:∀ p∈pins',s.heap.get? p.1=some p.2/\H p.1=none/\p.1≠X.env.locals/\p.1∉X.fs/\∀ v,p.2.data≠.cell v):Inv X pins' σ H s :=
 ⟨I.ok,I.os,I.bare,I.base,I.loc,I.cell,I.free,I.freeC,fun p hp=>(List.mem_append.mp hp).elim (fun z=>I.pin p (List.mem_append_left _ z)) (h p),I.hok,I.len⟩
theorem zgK {N:List Str} (hN:N.Nodup) {i j:Nat}{x:Str} (a:N[i]?=some x) (b:N[j]?=some x):i=j:=by
 obtain ⟨h1,e1⟩:=List.getElem?_eq_some_iff.mp a
 obtain ⟨h2,e2⟩:=List.getElem?_eq_some_iff.mp b
 exact (List.getElem_inj hN).mp (e1.trans e2.symm)
theorem zhB {M:Model}{A:Around}{E:Value->Shared->Prop}{i:Nat}{x:Str}{v:V}{u:Value}{Q:Unit->Shared->Prop} (I:Inv X pins σ H s) (hN:X.N.Nodup) (hi:X.N[i]?=some x) (hx:Loc X.env.scope x) (r:RelV v u)
  (h:∀ s',Inv X pins (σ.set i (some v)) H s'->(∃ a,Heap.SameBut a s.heap s'.heap/\(a=X.env.locals\/X.env.cells.lookup x=some a))->Q () s') (hf:X.fn x=true\/X.env.scope.names.lookup x=some .local:=by first | exact .inl rfl | exact .inr rfl | assumption):wpAny M A (storeName X.env x u) Q E s:=by
 obtain ⟨m,hn,hl⟩:=id I.loc
 have hcls:(X.env.scope.kind == .class||(X.env.scope.kind == .module&&X.env.locals != X.env.globals))=false:=by rw [I.ok.kind];rfl
 have hiσ:i<σ.length:=by rw [I.len];exact (List.getElem?_eq_some_iff.mp hi).1
 have cne:=I.cne
 have tracked:∀ {a:Addr} {h':Heap},(∃ o,s.heap.get? a=some o/\H a=none)->Heap.SameBut a s.heap h'->HOk X.prog X.w H h':=fun {a h'} ha hs b ob e=>by
  obtain ⟨_,_,hfree⟩:=ha
  refine (I.hok b ob e).stay (fun c w' hc q=>(hs.2 c ?_).trans q) (fun _ q=>q) fun _ _ q=>q
  rintro rfl
  rcases hc with rfl | hc
  ·rw [hfree] at e;cases e
  ·rw [hfree] at hc;cases hc
 rcases hx with hk | hk
 ·refine wpAny_storeName_local hk hn (fun h' hn' hs=>?_) hcls
  obtain ⟨oL,_,_,hoL,_⟩:=id hn
  refine h _ ⟨I.ok,I.os,I.bare,⟨fun b o e n hb hx=>?_,fun b o e n hb hx=>?_,I.base.free,fun b o e hx=>?_,I.base.tups,I.base.frzs,I.base.tbls⟩,⟨_,hn',fun j y v' e1 e2 e3=>?_⟩,fun y c e=>?_,I.free,I.freeC,fun p hp=>?_,tracked ⟨oL,hoL,I.free⟩ hs,by simpa using I.len⟩ ⟨_,hs,.inl rfl⟩
  ·exact (hs.2 b (Nat.ne_of_lt (Nat.lt_of_lt_of_le (Heap.lt_size e) I.ok.above))).trans (I.base.keep b o e n hb hx)
  ·obtain ⟨sl,e1⟩:=I.base.slot b o e n hb hx
   exact ⟨sl,(hs.2 b (Nat.ne_of_lt (Nat.lt_of_lt_of_le (Heap.lt_size e) I.ok.above))).trans e1⟩
  ·obtain ⟨o',e1⟩:=I.base.there b o e hx
   exact ⟨o',(hs.2 b (Nat.ne_of_lt (Nat.lt_of_lt_of_le (Heap.lt_size e) I.ok.above))).trans e1⟩
  ·by_cases hj:j=i
   ·subst hj
    rw [hi] at e1;cases e1
    rw [List.getElem?_set_self hiσ] at e2
    cases e2
    exact ⟨u,r,.inl ⟨hk,by simp⟩⟩
   ·rw [List.getElem?_set_ne (Ne.symm hj)] at e2
    obtain ⟨u',r',q⟩:=hl j y v' e1 e2 e3
    refine ⟨u',r',?_⟩
    rcases q with ⟨k,e⟩ | ⟨k,c,e,z⟩
    ·refine .inl ⟨k,?_⟩
     have:y≠x:=fun e=>hj (zgK hN e1 (e▸hi))
     simp [this,e]
    ·exact .inr ⟨k,c,e,z.sameBut hs (cne y c e)⟩
  ·obtain ⟨w',z⟩:=I.cell y c e
   exact ⟨w',z.sameBut hs (cne y c e)⟩
  ·obtain ⟨e,n,ne,nf,d⟩:=I.pin p hp
   exact ⟨(hs.2 p.1 ne).trans e,n,ne,nf,d⟩
 ·have hfn:X.fn x=true:=by
   rcases hf with z | z
   ·exact z
   ·rw [z] at hk;cases hk
  obtain ⟨c,hc⟩:=I.ok.has x (.inl hk)
  obtain ⟨w',z⟩:=I.cell x c hc
  refine wpAny_storeName_cell I.ok.kind hk hc z (fun h' hc' hs=>?_)
  obtain ⟨oc,hoc,hocd⟩:=id z
  refine h { s with heap:=h' } ⟨I.ok,I.os,I.bare,⟨fun b o e n hb hx=>?_,fun b o e n hb hx=>?_,I.base.free,fun b o e hx=>?_,I.base.tups,I.base.frzs,I.base.tbls⟩,⟨m,hn.sameBut hs (Ne.symm (cne x c hc)),fun j y v' e1 e2 e3=>?_⟩,fun y c' e=>?_,I.free,I.freeC,fun p hp=>?_,tracked ⟨oc,hoc,I.freeC x c hc⟩ hs,by simpa using I.len⟩ ⟨c,hs,.inr hc⟩
  ·exact (hs.2 b (Nat.ne_of_lt (Nat.lt_of_lt_of_le (Heap.lt_size e) (I.ok.cab x c hfn hc)))).trans (I.base.keep b o e n hb hx)
  ·obtain ⟨sl,e1⟩:=I.base.slot b o e n hb hx
   exact ⟨sl,(hs.2 b (Nat.ne_of_lt (Nat.lt_of_lt_of_le (Heap.lt_size e) (I.ok.cab x c hfn hc)))).trans e1⟩
  ·obtain ⟨o',e1⟩:=I.base.there b o e hx
   exact ⟨o',(hs.2 b (Nat.ne_of_lt (Nat.lt_of_lt_of_le (Heap.lt_size e) (I.ok.cab x c hfn hc)))).trans e1⟩
  ·by_cases hj:j=i
   ·subst hj
    rw [hi] at e1;cases e1
    rw [List.getElem?_set_self hiσ] at e2
    cases e2
    exact ⟨u,r,.inr ⟨.inl hk,c,hc,hc'⟩⟩
   ·rw [List.getElem?_set_ne (Ne.symm hj)] at e2
    obtain ⟨u',r',q⟩:=hl j y v' e1 e2 e3
    refine ⟨u',r',?_⟩
    rcases q with q | ⟨k,c',e,z'⟩
    ·exact .inl q
    ·refine .inr ⟨k,c',e,z'.sameBut hs ?_⟩
     rintro rfl
     exact hj (zgK hN e1 (I.ok.inj _ _ _ e hc▸hi))
  ·by_cases hcc:c'=c
   ·subst hcc;exact ⟨_,hc'⟩
   ·obtain ⟨w2,z2⟩:=I.cell y c' e
    exact ⟨w2,z2.sameBut hs hcc⟩
  ·obtain ⟨e,n,ne,nf,d⟩:=I.pin p hp
   refine ⟨(hs.2 p.1 ?_).trans e,n,ne,nf,d⟩
   intro q
   rw [q,hoc] at e
   have q':oc=p.2:=Option.some.inj e
   exact d w' (by rw [<- q'];exact hocd)
theorem zc0 {M:Model}{A:Around}{E:Value->Shared->Prop}{i:Nat}{x:Str}{v:V}{u:Value}{Q:Unit->Shared->Prop} (I:Inv X pins σ H s) (hN:X.N.Nodup) (hi:X.N[i]?=some x) (hx:Loc X.env.scope x) (r:RelV v u)
  (h:∀ s',Inv X pins (σ.set i (some v)) H s'->Q () s') (hf:X.fn x=true\/X.env.scope.names.lookup x=some .local:=by first | exact .inl rfl | exact .inr rfl | assumption):wpAny M A (storeName X.env x u) Q E s :=
 zhB I hN hi hx r (fun s' I' _=>h s' I') hf
theorem Inv.call' {s':Shared}{ch:List Addr} (I:Inv X pins σ H s) (ho:s'.os=s.os) (u:Un (frs X.stack) ch H H' s.heap s'.heap) (hok:HOk X.prog X.w H' s'.heap) (hg:AllBare s'.gens)
  (hch:∀ b∈ch,(b∈X.ex\/X.s₀.heap.objs.size<=b)/\b≠X.env.locals/\(∀ x c,X.env.cells.lookup x=some c->c≠b)/\∀ p∈X.pn++pins,p.1≠b):Inv X pins σ H' s':=by
 obtain ⟨h',g',d',t',o'⟩:=s'
 have e:o'=s.os:=ho
 subst e
 exact I.call (g':=g') (t':=t') (d':=d') u hok hg hch
end
abbrev XK:=Value->Option Addr->Hp->Prop
abbrev St:=List (Option V)
abbrev VK:=V->Hp->Prop
abbrev TE:=St->Hp->VK->Prop
abbrev TT:=St->Hp->(Bool->Hp->Prop)->Prop
abbrev TA:=St->Hp->(List V->Hp->Prop)->Prop
structure Ends where
 nx:St->Hp->Prop
 rt:VK
 bk:St->Hp->Prop:=fun _ _=>False
 ct:St->Hp->Prop:=fun _ _=>False
abbrev TS:=Ends->St->Hp->Prop
def EP (X:Cx) (pins:List (Addr×Obj)) (σ:St) (Q:VK) (u:Value) (s':Shared):Prop:=∃ v H',Inv X pins σ H' s'/\RelV v u/\Q v H'
def TP (X:Cx) (pins:List (Addr×Obj)) (σ:St) (Q:Bool->Hp->Prop) (b:Bool) (s':Shared):Prop:=∃ H',Inv X pins σ H' s'/\Q b H'
def AP (X:Cx) (pins:List (Addr×Obj)) (σ:St) (Q:List V->Hp->Prop) (us:List Value) (s':Shared):Prop:=∃ vs H',Inv X pins σ H' s'/\Vals vs us/\Q vs H'
def SP (X:Cx) (pins:List (Addr×Obj)) (D:Ends) (f:Flow) (s':Shared):Prop :=
 match f with
 | .next=>∃ σ' H',Inv X pins σ' H' s'/\D.nx σ' H'
 | .brk=>∃ σ' H',Inv X pins σ' H' s'/\D.bk σ' H'
 | .cont=>∃ σ' H',Inv X pins σ' H' s'/\D.ct σ' H'
 | .ret u=>∃ v σ' H',Inv X pins σ' H' s'/\RelV v u/\D.rt v H'
def PE (X:Cx) (e:Expr) (t:TE):Prop :=
 ∀ (pins:List (Addr×Obj)) (s:Shared) (σ:St) (H:Hp) (Q:VK),Inv X pins σ H s->t σ H Q->wpAny (model X.prog X.w) X.A (eval e X.env) (EP X pins σ Q) X.xe s
def PT (X:Cx) (e:Expr) (t:TT):Prop :=
 ∀ (pins:List (Addr×Obj)) (s:Shared) (σ:St) (H:Hp) (Q:Bool->Hp->Prop),Inv X pins σ H s->t σ H Q->wpAny (model X.prog X.w) X.A (isTrue e X.env (eval e X.env)) (TP X pins σ Q) X.xe s
def PW (X:Cx) (e:Expr) (t:TT):Prop :=
 ∀ (whole:Sem Value) (pins:List (Addr×Obj)) (s:Shared) (σ:St) (H:Hp) (Q:Bool->Hp->Prop),Inv X pins σ H s->t σ H Q->wpAny (model X.prog X.w) X.A (isTrue e X.env whole) (TP X pins σ Q) X.xe s
theorem PW.pt {X:Cx}{e:Expr}{t:TT} (h:PW X e t):PT X e t:=h _
def PA (X:Cx) (es:List Expr) (t:TA):Prop :=
 ∀ (pos:Pos) (pins:List (Addr×Obj)) (s:Shared) (σ:St) (H:Hp) (Q:List V->Hp->Prop),Inv X pins σ H s->t σ H Q->wpAny (model X.prog X.w) X.A (spliced (backTo pos (starEach es X.env))) (AP X pins σ Q) X.xe s
def PS (X:Cx) (st:Stmt) (t:TS):Prop :=
 ∀ (pins:List (Addr×Obj)) (s:Shared) (σ:St) (H:Hp) (D:Ends),Inv X pins σ H s->t D σ H->wpAny (model X.prog X.w) X.A (exec st X.env) (SP X pins D) X.xe s
def PSs (X:Cx) (st:List Stmt) (t:TS):Prop :=
 ∀ (pins:List (Addr×Obj)) (s:Shared) (σ:St) (H:Hp) (D:Ends),Inv X pins σ H s->t D σ H->wpAny (model X.prog X.w) X.A (execs st X.env) (SP X pins D) X.xe s
theorem thn {α:Type}{t:Sem α}{Q Q':α->Shared->Prop}{M:Model}{A:Around}{E:Value->Shared->Prop}{s:Shared} (h:wpAny M A t Q E s) (hQ:∀ a s,Q a s->Q' a s):wpAny M A t Q' E s:=wpAny_mono h hQ fun _ _ x=>x
end L2
namespace L2
open PySem PySem.Spec PyProof.Rows
section
variable {X:Cx}
def tVar (i:Nat):TE:=fun σ H Q=>∃ v,σ[i]?=some (some v)/\Q v H
def tC (v:V):TE:=fun _ H Q=>Q v H
theorem zcm {i:Nat}{x:Str}{pos:Pos} (hN:X.N[i]?=some x) (hv:Vis X.env.scope x) (hd:(x == ("__debug__":Str))=false:=by decide) (hcd:(x == ("__classdict__":Str))=false:=by decide):PE X (.Name x pos) (tVar i):=by
 intro pins s σ H Q I h
 obtain ⟨v,e,h⟩:=h
 obtain ⟨m,hn,hl⟩:=I.loc
 obtain ⟨u,r,l⟩:=hl i x v hN e hv
 have fin:EP X pins σ Q u s:=⟨v,H,I,r,h⟩
 rcases l with ⟨hk,hm⟩ | ⟨hk,c,hc,hcell⟩
 ·exact wpAny_Name (wpAny_loadName_local I.ok.kind hk hn hm fin) hd
 ·rcases hk with hk | hk
  ·exact wpAny_Name (wpAny_loadName_cell I.ok.kind hk hc hcell fin) hd
  ·exact wpAny_Name (wpAny_loadName_free I.ok.kind hk hc hcell fin hcd) hd
theorem zaA {i j pos}:PE X (.Constant (.int i) j pos) (tC (.int i)):=fun _ _ _ H _ I h=>wpAny_Constant_int ⟨.int i,H,I.tok _,⟨_,rfl⟩,h⟩
theorem zpt {b j pos}:PE X (.Constant (.bool b) j pos) (tC (.bl b)):=fun _ _ _ H _ I h=>Constant_bool ⟨.bl b,H,I,rfl,h⟩
theorem zm4 {j pos}:PE X (.Constant .none j pos) (tC .non):=fun _ _ _ H _ I h=>Constant_none ⟨.non,H,I,rfl,h⟩
theorem zm0 {x j pos}:PE X (.Constant (.str x) j pos) (tC (.str x)):=fun _ _ _ H _ I h=>Calls.Constant_str ⟨.str x,H,I.tok _,⟨_,rfl⟩,h⟩
def Gl (X:Cx) (x:Str):Prop:=X.env.kindOf x=some .globalImplicit
theorem zlv {E:Value->Shared->Prop}{pins:List (Addr×Obj)}{s:Shared}{σ:St}{H:Hp}{x:Str}{u:Value}{pos:Pos}{Q:Value->Shared->Prop} (I:Inv X pins σ H s) (hg:Gl X x) (hm:X.mg x=some u) (h:Q u s)
  (hd:(x == ("__debug__":Str))=false:=by decide):wpAny (model X.prog X.w) X.A (eval (.Name x pos) X.env) Q E s :=
 Calls.Name_function_global I.ok.kind hg (Calls.loadGlobal_global (by rw [I.ok.glob];exact I.mod.glob.keeps I.bk) hm h) hd
theorem ze4 {E:Value->Shared->Prop}{pins:List (Addr×Obj)}{s:Shared}{σ:St}{H:Hp}{x:Str}{u:Value}{pos:Pos}{Q:Value->Shared->Prop} (I:Inv X pins σ H s) (hg:Gl X x) (hm:X.mg x=none) (hv:bootBuiltins x=some u) (h:Q u s)
  (hn:x ≠ "__name__":=by decide) (hd:(x == ("__debug__":Str))=false:=by decide):wpAny (model X.prog X.w) X.A (eval (.Name x pos) X.env) Q E s:=by
 obtain ⟨mb,h1,h2⟩:=I.mod.blt
 exact Calls.Name_function_global I.ok.kind hg (Calls.loadGlobal_builtin (by rw [I.ok.glob];exact I.mod.glob.keeps I.bk) hm (by rw [I.ok.blt];exact h1.keeps I.bk) ((h2 x hn).trans hv) h) hd
theorem zlh {x:Str}{v:V}{u:Value}{pos:Pos} (hg:Gl X x) (hm:X.mg x=none) (hv:bootBuiltins x=some u) (r:RelV v u) (hn:x ≠ "__name__":=by decide) (hd:(x == ("__debug__":Str))=false:=by decide):PE X (.Name x pos) (tC v) :=
 fun _ _ _ H _ I h=>ze4 I hg hm hv ⟨v,H,I,r,h⟩ hn hd
variable {a b:Expr}{ta tb:TE}{pos:Pos}
variable {tA tB':TT}{rest:List Expr}
def tAnd (t u:TT):TT:=fun σ H Q=>t σ H fun c H1=>if c=true then u σ H1 Q else Q false H1
def tOr (t u:TT):TT:=fun σ H Q=>t σ H fun c H1=>if c=true then Q true H1 else u σ H1 Q
def tNot (t:TT):TT:=fun σ H Q=>t σ H fun c H1=>Q (!c) H1
theorem zk2 (ha:PT X a tA):PW X (.BoolOp .And [a] pos) tA:=by
 intro wh pins s σ H Q I h
 refine isTrue_and (thn (ha pins s σ H Q I h) fun c s1 e=>?_)
 cases c with
 | true=>exact isTrue_and_nil e
 | false=>exact e
theorem zmQ (ha:PT X a tA):PW X (.BoolOp .Or [a] pos) tA:=by
 intro wh pins s σ H Q I h
 refine isTrue_or (thn (ha pins s σ H Q I h) fun c s1 e=>?_)
 cases c with
 | false=>exact isTrue_or_nil e
 | true=>exact e
theorem zmR (ha:PT X a tA) (hb:PW X (.BoolOp .And (b::rest) pos) tB'):PW X (.BoolOp .And (a::b::rest) pos) (tAnd tA tB'):=by
 intro wh pins s σ H Q I h
 refine isTrue_and (thn (ha pins s σ H _ I h) fun c s1 ⟨H1,I1,q1⟩=>?_)
 cases c with
 | true=>exact hb wh pins s1 σ H1 Q I1 q1
 | false=>exact ⟨H1,I1,q1⟩
theorem zpp (ha:PT X a tA) (hb:PW X (.BoolOp .Or (b::rest) pos) tB'):PW X (.BoolOp .Or (a::b::rest) pos) (tOr tA tB'):=by
 intro wh pins s σ H Q I h
 refine isTrue_or (thn (ha pins s σ H _ I h) fun c s1 ⟨H1,I1,q1⟩=>?_)
 cases c with
 | true=>exact ⟨H1,I1,q1⟩
 | false=>exact hb wh pins s1 σ H1 Q I1 q1
theorem zmS (ha:PT X a tA):PT X (.UnaryOp .Not a pos) (tNot tA):=by
 intro pins s σ H Q I h
 exact isTrue_not (ha pins s σ H (fun c H1=>Q (!c) H1) I h)
def zoX (ta tb:TE):TE:=fun σ H Q=>ta σ H fun x H1=>∃ c,x=.bl c/\if c=true then tb σ H1 Q else Q (.bl false) H1
def zoU (ta:TE):TE:=fun σ H Q=>ta σ H fun x H1=>∃ c,x=.bl c/\Q (.bl (!c)) H1
theorem zm2 {op}{t:TE} (h:PE X a t):PE X (.BoolOp op [a] pos) t:=fun pins s σ H Q I hw=>BoolOp_one (h pins s σ H Q I hw)
theorem zm6 (ha:PE X a ta) (hb:PE X (.BoolOp .And (b::rest) pos) tb):PE X (.BoolOp .And (a::b::rest) pos) (zoX ta tb):=by
 intro pins s σ H Q I h
 refine BoolOp_and (thn (ha pins s σ H _ I h) fun v s1 ⟨x,H1,I1,r1,q1⟩=>?_)
 obtain ⟨c,rfl,q1⟩:=q1
 cases r1
 refine wpAny_truthy_bool ?_
 cases c with
 | true=>exact hb pins s1 σ H1 Q I1 q1
 | false=>exact ⟨.bl false,H1,I1,rfl,q1⟩
theorem zm3 (ha:PE X a ta):PE X (.UnaryOp .Not a pos) (zoU ta):=by
 intro pins s σ H Q I h
 refine UnaryOp_ (thn (ha pins s σ H _ I h) fun v s1 ⟨x,H1,I1,r1,q1⟩=>?_)
 obtain ⟨c,rfl,q1⟩:=q1
 cases r1
 exact not_of (wpAny_truthy_bool ⟨.bl (!c),H1,I1,rfl,q1⟩)
end
end L2
namespace L2
open PySem PySem.Spec PyProof.Rows
def SqL (K:PySem.W.Frag) (H:Hp) (a:Addr) (xs:List V):Prop :=
 Rd H a (.lst xs) \/
  ∃ (o:Obj) (its:Array Value) (n:Nat),K.lookup a=some o/\o.cls=.type "list" /\ o.dict=none/\o.data=.seq its n/\its.size<=sizeLine/\Vals xs its.toList
def SqT (K:PySem.W.Frag) (H:Hp) (a:Addr) (xs:List V):Prop :=
 Rd H a (.tup xs) \/
  ∃ (o:Obj) (its:Array Value) (n:Nat),K.lookup a=some o/\o.cls=.type "tuple" /\ o.data=.seq its n/\its.size<=sizeLine/\Vals xs its.toList
def absV:Value->Option V
 | .none=>some .non
 | .bool b=>some (.bl b)
 | .int i _=>some (.int i)
 | .str x _=>some (.str x)
 | .bytes b _=>some (.byt b)
 | .float b _=>some (.flt b)
 | .ref a=>some (.ref a)
 | .type n=>some (.ty n)
 | _=>none
theorem RelV.abs {x:V}{u:Value} (r:RelV x u):absV u=some x:=by
 cases x with
 | non=>cases r;rfl
 | bl _=>cases r;rfl
 | int _=>obtain ⟨t,rfl⟩:=r;rfl
 | str _=>obtain ⟨t,rfl⟩:=r;rfl
 | byt _=>obtain ⟨t,rfl⟩:=r;rfl
 | flt _=>obtain ⟨t,rfl⟩:=r;rfl
 | ref _=>cases r;rfl
 | ty _=>cases r;rfl
theorem RelV.inj {x y:V}{u:Value} (r:RelV x u) (q:RelV y u):x=y:=Option.some.inj (r.abs.symm.trans q.abs)
theorem Vals.inj:∀ {xs ys:List V}{us:List Value},Vals xs us->Vals ys us->xs=ys
 | _,_,_,.nil,.nil=>rfl
 | _,_,_,.cons r t,.cons r' t'=>by rw [r.inj r',Vals.inj t t']
section
variable {X:Cx}{pins:List (Addr×Obj)}{σ:St}{H:Hp}{s:Shared}{a:Addr}{xs ys:List V}
theorem SqL.of {K:PySem.W.Frag} (h:H a=some (.lst xs)):SqL K H a xs:=.inl (.inl h)
theorem Inv.list (I:Inv X pins σ H s) (h:SqL X.K H a xs):∃ its:List Value,Vals xs its/\PlainL s.heap a its.toArray/\xs.length<=sizeLine:=by
 rcases h with h | ⟨o,its,n,hk,hc,hd,hs,hz,r⟩
 ·obtain ⟨z,its,n,r,e⟩:=h.ok I.hok
  exact ⟨its,r,⟨_,n,e,rfl,rfl,rfl⟩,z⟩
 ·refine ⟨its.toList,r,⟨o,n,I.kIn a o hk,hc,hd,by simpa using hs⟩,?_⟩
  have e:=r.length
  simp only [Array.length_toList] at e
  lia
theorem Inv.tuple (I:Inv X pins σ H s) (h:SqT X.K H a xs):∃ its:List Value,Vals xs its/\IsTup s.heap a its.toArray/\xs.length<=sizeLine:=by
 rcases h with h | ⟨o,its,n,hk,hc,hs,hz,r⟩
 ·obtain ⟨z,its,r,p⟩:=h.ok I.hok
  exact ⟨its,r,p.tup,z⟩
 ·refine ⟨its.toList,r,⟨o,I.kIn a o hk,hc,n,by simpa using hs⟩,?_⟩
  have e:=r.length
  simp only [Array.length_toList] at e
  lia
theorem Inv.list_inj (I:Inv X pins σ H s) (h:SqL X.K H a xs) (h':SqL X.K H a ys):xs=ys:=by
 obtain ⟨its,r,⟨o,n,e,_,_,d⟩,_⟩:=I.list h
 obtain ⟨its',r',⟨o',n',e',_,_,d'⟩,_⟩:=I.list h'
 rw [e] at e';cases e'
 rw [d] at d'
 injection d' with d1 _
 have:its=its':=by simpa using congrArg Array.toList d1
 subst this
 exact r.inj r'
theorem Inv.tuple_inj (I:Inv X pins σ H s) (h:SqT X.K H a xs) (h':SqT X.K H a ys):xs=ys:=by
 obtain ⟨its,r,⟨o,e,_,n,d⟩,_⟩:=I.tuple h
 obtain ⟨its',r',⟨o',e',_,n',d'⟩,_⟩:=I.tuple h'
 rw [e] at e';cases e'
 rw [d] at d'
 injection d' with d1 _
 have:its=its':=by simpa using congrArg Array.toList d1
 subst this
 exact r.inj r'
end
abbrev Cx.wish (X:Cx) (E:Value->Shared->Prop):Cx:={ X with xe:=E }
abbrev Cx.nox (X:Cx):Cx:=X.wish fun _ _=>False
theorem Cx.Ok.wish {X:Cx} (ok:X.Ok) (E:Value->Shared->Prop):(X.wish E).Ok :=
 ⟨ok.mod,ok.kind,ok.glob,ok.blt,ok.above,ok.inj,ok.has,ok.cab,ok.hd,ok.frames,ok.stk,ok.exf,ok.bs,ok.bsz,ok.noex,ok.exfs,ok.funs,ok.frf⟩
theorem Cx.Ok.unwish {X:Cx}{E:Value->Shared->Prop} (ok:(X.wish E).Ok):X.Ok :=
 ⟨ok.mod,ok.kind,ok.glob,ok.blt,ok.above,ok.inj,ok.has,ok.cab,ok.hd,ok.frames,ok.stk,ok.exf,ok.bs,ok.bsz,ok.noex,ok.exfs,ok.funs,ok.frf⟩
section
variable {X:Cx}{pins:List (Addr×Obj)}{σ:St}{H:Hp}{s:Shared}{E:Value->Shared->Prop}
theorem Inv.wish (I:Inv X pins σ H s) (E:Value->Shared->Prop):Inv (X.wish E) pins σ H s:=⟨I.ok.wish E,I.os,I.bare,I.base,I.loc,I.cell,I.free,I.freeC,I.pin,I.hok,I.len⟩
theorem Inv.unwish (I:Inv (X.wish E) pins σ H s):Inv X pins σ H s:=⟨I.ok.unwish,I.os,I.bare,I.base,I.loc,I.cell,I.free,I.freeC,I.pin,I.hok,I.len⟩
theorem SP.unwish {D:Ends}{f:Flow}{s':Shared} (h:SP (X.wish E) pins D f s'):SP X pins D f s':=by
 cases f with
 | next=>obtain ⟨σ',H',I,q⟩:=h;exact ⟨σ',H',I.unwish,q⟩
 | brk=>obtain ⟨σ',H',I,q⟩:=h;exact ⟨σ',H',I.unwish,q⟩
 | cont=>obtain ⟨σ',H',I,q⟩:=h;exact ⟨σ',H',I.unwish,q⟩
 | ret u=>obtain ⟨v,σ',H',I,r,q⟩:=h;exact ⟨v,σ',H',I.unwish,r,q⟩
theorem PSs.nox {st:List Stmt}{t:TS} (h:PSs X.nox st t):PSs X st t:=fun pins s σ H D I hw =>
 wpAny_mono (h pins s σ H D (I.wish _) hw) (fun _ _ q=>q.unwish) fun _ _ z=>False.elim z
end
section
variable {X:Cx}{st:Stmt}{rest:List Stmt}{t u:TS}{e:Expr}{te:TE}{pos:Pos}
def zoV:TS:=fun D σ H=>D.nx σ H
def tSeq (t u:TS):TS:=fun D σ H=>t { D with nx:=u D } σ H
theorem zfT:PSs X [] zoV:=fun _ _ σ H _ I h=>wpAny_execs_nil ⟨σ,H,I,h⟩
theorem zaV (h1:PS X st t) (h2:PSs X rest u):PSs X (st::rest) (tSeq t u):=by
 intro pins s σ H D I h
 refine wpAny_execs_cons (thn (h1 pins s σ H { D with nx:=u D } I h) fun f s1 q=>?_)
 cases f with
 | next =>
  obtain ⟨σ',H',I',q⟩:=q
  exact h2 pins s1 σ' H' D I' q
 | ret v=>exact q
 | brk=>exact q
 | cont=>exact q
theorem zdj (h1:PS X st t):PSs X [st] t:=by
 intro pins s σ H D I h
 refine wpAny_execs_cons (thn (h1 pins s σ H D I h) fun f s1 q=>?_)
 cases f with
 | next=>exact wpAny_execs_nil q
 | ret v=>exact q
 | brk=>exact q
 | cont=>exact q
theorem Inv.quiet {pins:List (Addr×Obj)}{σ:St}{H:Hp}{s:Shared} (I:Inv X pins σ H s):interactive X.env=false:=by simp [interactive,I.ok.kind]
def zoW (te:TE):TS:=fun D σ H=>te σ H fun _ H1=>D.nx σ H1
theorem zk6 (he:PE X e te) (hs:swapsWith e none pos.line X.env=pure false:=by rfl):PS X (.Expr e pos) (zoW te):=by
 intro pins s σ H D I h
 exact wpAny_Expr_any (thn (he pins s σ H _ I h) fun v s1 ⟨x,H1,I1,r1,q1⟩=>⟨σ,H1,I1,q1⟩) I.quiet hs
def tRet (te:TE):TS:=fun D σ H=>te σ H D.rt
theorem zgA (he:PE X e te):PS X (.Return (some e) pos) (tRet te):=by
 intro pins s σ H D I h
 exact wpAny_Return_some (thn (he pins s σ H _ I h) fun v s1 ⟨x,H1,I1,r1,q1⟩=>⟨x,σ,H1,I1,r1,q1⟩)
def tIfS (c:TT) (t u:TS):TS:=fun D σ H=>c σ H fun b H1=>if b=true then t D σ H1 else u D σ H1
theorem zk5 {c:Expr}{a b:List Stmt}{tc:TT} (hc:PT X c tc) (ha:PSs X a t) (hb:PSs X b u):PS X (.If c a b pos) (tIfS tc t u):=by
 intro pins s σ H D I h
 refine wpAny_If (thn (hc pins s σ H _ I h) fun d s1 ⟨H1,I1,q1⟩=>?_)
 cases d with
 | true=>exact ha pins s1 σ H1 D I1 q1
 | false=>exact hb pins s1 σ H1 D I1 q1
end
abbrev TG:=V->St->Hp->(St->Hp->Prop)->Prop
abbrev TGs:=List V->St->Hp->(St->Hp->Prop)->Prop
def PG (X:Cx) (target:Expr) (t:TG):Prop :=
 ∀ (pins:List (Addr×Obj)) (s:Shared) (σ:St) (H:Hp) (v:V) (u:Value) (Q:St->Hp->Prop),Inv X pins σ H s->RelV v u->t v σ H Q ->
  wpAny (model X.prog X.w) X.A (assign target X.env u) (fun _ s'=>∃ σ' H',Inv X pins σ' H' s'/\Q σ' H') X.xe s
def PGs (X:Cx) (ts:List Expr) (t:TGs):Prop :=
 ∀ (pins:List (Addr×Obj)) (s:Shared) (σ:St) (H:Hp) (vs:List V) (us:List Value) (Q:St->Hp->Prop),Inv X pins σ H s->Vals vs us->t vs σ H Q ->
  wpAny (model X.prog X.w) X.A (assignInOrder ((assignEach ts X.env).map (·.2)) us) (fun _ s'=>∃ σ' H',Inv X pins σ' H' s'/\Q σ' H') X.xe s
abbrev TSet:=V->V->V->Hp->(Hp->Prop)->Prop
def PSet (X:Cx) (t:TSet):Prop :=
 ∀ (pins:List (Addr×Obj)) (s:Shared) (σ:St) (H:Hp) (o i v:V) (ov iv u:Value) (Q:Hp->Prop),Inv X pins σ H s->RelV o ov->RelV i iv->RelV v u->t o i v H Q ->
  wpAny (model X.prog X.w) X.A (setItem ov iv u) (fun _ s'=>∃ H',Inv X pins σ H' s'/\Q H') X.xe s
section
variable {X:Cx}{pos:Pos}
def zn5 (i:Nat):TG:=fun v σ H Q=>Q (σ.set i (some v)) H
theorem zlb {i:Nat}{x:Str} (hN:X.N.Nodup) (hi:X.N[i]?=some x) (hx:Loc X.env.scope x) (hf:X.fn x=true\/X.env.scope.names.lookup x=some .local:=by first | exact .inl rfl | exact .inr rfl | assumption):PG X (.Name x pos) (zn5 i):=by
 intro pins s σ H v u Q I r h
 exact wpAny_assign_Name (zc0 I hN hi hx r (fun s' I'=>⟨_,H,I',h⟩) hf)
def gNil:TGs:=fun vs σ H Q=>vs=[]/\Q σ H
def zp3 (t:TG) (u:TGs):TGs:=fun vs σ H Q=>∃ v r,vs=v::r/\t v σ H fun σ' H'=>u r σ' H' Q
theorem zla:PGs X [] gNil:=by
 intro pins s σ H vs us Q I r h
 obtain ⟨e,h⟩:=h
 subst e
 cases r
 exact assignInOrder_nil ⟨σ,H,I,h⟩
theorem zjz {e:Expr}{es:List Expr}{t:TG}{u:TGs} (h1:PG X e t) (h2:PGs X es u)
  (hs:(assignEach (e::es) X.env).map (·.2)=assign e X.env::(assignEach es X.env).map (·.2):=by rfl):PGs X (e::es) (zp3 t u):=by
 intro pins s σ H vs us Q I r h
 obtain ⟨v,vr,e1,h⟩:=h
 subst e1
 cases r with
 | cons r rr =>
  rw [hs]
  refine assignInOrder_cons (thn (h1 pins s σ H _ _ _ I r h) fun _ s1 ⟨σ1,H1,I1,q1⟩=>?_)
  exact h2 pins s1 σ1 H1 _ _ Q I1 rr q1
def gTup (K:PySem.W.Frag) (n:Nat) (t:TGs):TG:=fun v σ H Q=>∃ a xs,v=.ref a/\SqT K H a xs/\xs.length=n/\t xs σ H Q
theorem zmY {es:List Expr}{k:Nat}{t:TGs}{n:Nat} (hc:X.calm=true) (h:PGs X es t)
  (hn:(assignEach es X.env).length=n:=by rfl) (hst:(assignEach es X.env).findIdx? (·.1)=none:=by rfl):PG X (.Tuple es k pos) (gTup X.K n t):=by
 intro pins s σ H v u Q I r hw
 obtain ⟨a,xs,e1,hq,hl,hw⟩:=hw
 subst e1
 cases r
 obtain ⟨its,rv,ht,hz⟩:=I.tuple hq
 refine assign_Tuple_tuple (I.ok.hd hc) ht (by simp [hn,<- hl,rv.length]) hst fun h' hx=>?_
 have I1:Inv X pins σ H { s with heap:=h' }:=I.kept (t':=s.toks) fun b o e=>hx b o (Nat.ne_of_lt (Heap.lt_size e)) e
 exact h pins _ σ H xs _ Q I1 (by simpa using rv) hw
def gSub (to ti:TE) (t:TSet):TG:=fun v σ H Q=>to σ H fun o H1=>ti σ H1 fun i H2=>t o i v H2 fun H3=>Q σ H3
theorem zkl {o i:Expr}{to ti:TE}{t:TSet} (ho:PE X o to) (hi:PE X i ti) (hs:PSet X t)
  (ha:∀ v,assign (.Subscript o i pos) X.env v=(do
   let ov <- holding [v] (eval o X.env)
   let iv <- holding [v,ov] (eval i X.env)
   standAt pos
   holding [v,ov,iv] (setItem ov iv v)
   release [v,ov,iv] []):=by intro _;rfl):PG X (.Subscript o i pos) (gSub to ti t):=by
 intro pins s σ H v u Q I r h
 rw [ha]
 refine wpAny_bind (wpAny_holding (thn (ho pins s σ H _ I h) fun ov s1 ⟨x,H1,I1,r1,q1⟩=>?_))
 refine wpAny_bind (wpAny_holding (thn (hi pins s1 σ H1 _ I1 q1) fun iv s2 ⟨y,H2,I2,r2,q2⟩=>?_))
 refine wpAny_bind (wpAny_standAt (wpAny_bind (wpAny_holding (thn (hs pins s2 σ H2 x y v ov iv u _ I2 r1 r2 r q2) fun _ s3 ⟨H3,I3,q3⟩=>?_))))
 exact wpAny_release ⟨σ,H3,I3,q3⟩
def tAsg (te:TE) (g:TG):TS:=fun D σ H=>te σ H fun x H1=>g x σ H1 D.nx
theorem zhS {tg e:Expr}{te:TE}{g:TG} (he:PE X e te) (hg:PG X tg g) (hs:swapsWithSole [tg] e pos.line X.env=pure false:=by rfl) (hw:swappedStores [tg] e X.env=pure none:=by rfl)
  (h1:(assignEach [tg] X.env).map (·.2)=[assign tg X.env]:=by rfl):PS X (.Assign [tg] e pos) (tAsg te g):=by
 intro pins s σ H D I h
 refine wpAny_Assign_stores (thn (he pins s σ H _ I h) fun v s1 ⟨x,H1,I1,r1,q1⟩=>?_) hs hw
 rw [h1]
 exact thn (hg pins s1 σ H1 x v _ I1 r1 q1) fun _ s2 q=>q
theorem zbO {i:Nat}{x:Str}{e:Expr}{te:TE}{pos':Pos} (hN:X.N.Nodup) (hi:X.N[i]?=some x) (hx:Loc X.env.scope x) (he:PE X e te) (hs:swapsWith e (some (.Name x pos')) pos.line X.env=pure false:=by rfl) (hf:X.fn x=true\/X.env.scope.names.lookup x=some .local:=by first | exact .inl rfl | exact .inr rfl | assumption) :
  PS X (.Assign [.Name x pos'] e pos) (tAsg te (zn5 i)):=by
 intro pins s σ H D I h
 refine wpAny_Assign_Name (thn (he pins s σ H _ I h) fun v s1 ⟨y,H1,I1,r1,q1⟩=>?_) hs
 exact zc0 I1 hN hi hx r1 (fun s2 I2=>⟨_,H1,I2,q1⟩) hf
def tPar (i j:Nat) (ta:TA):TS:=fun D σ H=>ta σ H fun vs H1=>∃ v w,vs=[v,w]/\D.nx ((σ.set i (some v)).set j (some w)) H1
theorem zmT {i j:Nat}{x y:Str}{a b:Expr}{ta:TA}{px py pt:Pos}{kt k2 pt2} (hc:X.calm=true) (hN:X.N.Nodup) (hi:X.N[i]?=some x) (hj:X.N[j]?=some y) (hij:i≠j)
  (hx:X.env.scope.names.lookup x=some .local) (hy:X.env.scope.names.lookup y=some .local) (ha:PA X [a,b] ta)
  (hw:swappedStores [.Tuple [.Name x px,.Name y py] kt pt] (.Tuple [a,b] k2 pt2) X.env=pure (some [x,y]))
  (hs:swapsWithSole [.Tuple [.Name x px,.Name y py] kt pt] (.Tuple [a,b] k2 pt2) pos.line X.env=pure false:=by rfl) :
  PS X (.Assign [.Tuple [.Name x px,.Name y py] kt pt] (.Tuple [a,b] k2 pt2) pos) (tPar i j ta):=by
 intro pins s σ H D I h
 rw [exec_Assign_arm]
 refine wpAny_bind (wpAny_standAt ?_)
 rw [hs]
 refine wpAny_bind (wpAny_pure ?_)
 rw [if_neg (by decide)]
 refine wpAny_bind (Tuple_ (thn (ha _ pins s σ H _ I h) fun us s1 ⟨vs,H1,I1,r1,q1⟩=>?_))
 obtain ⟨v,w,e1,q1⟩:=q1
 subst e1
 obtain ⟨u1,u2,rfl,rv,rw'⟩:∃ u1 u2,us=[u1,u2]/\RelV v u1/\RelV w u2:=by
  cases r1 with
  | cons p q =>
   cases q with
   | cons p' q' =>
    cases q'
    exact ⟨_,_,rfl,p,p'⟩
 refine wpAny_newObj_type ?_ (by show 2<=sizeLine;decide)
 have I2:Inv X pins σ H1 { s1 with heap:=s1.heap.push { cls:=.type "tuple",data:=.seq [u1,u2].toArray } }:=I1.kept (t':=s1.toks) fun b o e=>Heap.get?_push_of_some _ e
 rw [hw]
 refine wpAny_bind (wpAny_pure ?_)
 show wpAny (model X.prog X.w) X.A (do rule "assign.swapped-stores";let items <- unpackItems (.ref s1.heap.objs.size) 2 none;assignInOrder [fun v=>bindName X.env y v,fun v=>bindName X.env x v] items.reverse;pure Flow.next) _ _ _
 refine wpAny_bind (wpAny_rule (wpAny_bind (unpackItems_tuple (items:=#[u1,u2]) (I.ok.hd hc) (IsTup.new s1.heap _) fun h' hx'=>?_)))
 have I3:=I2.kept (h':=h') (t':=s1.toks) fun b o e=>hx' b o (Nat.ne_of_lt (Heap.lt_size e)) e
 show wpAny _ _ (assignInOrder [fun v=>bindName X.env y v,fun v=>bindName X.env x v] [u2,u1] >>= fun _=>pure Flow.next) _ _ _
 refine wpAny_bind (assignInOrder_cons (wpAny_bindName (zc0 I3 hN hj (.inl hy) rw' (fun s2 I4=>?_) (.inr hy))))
 refine assignInOrder_cons (wpAny_bindName (zc0 I4 hN hi (.inl hx) rv (fun s3 I5=>assignInOrder_nil (wpAny_pure ?_)) (.inr hx)))
 rw [List.set_comm _ _ (Ne.symm hij)] at I5
 exact ⟨_,H1,I5,q1⟩
end
structure It where
 go:Nat->Hp->Prop
 yld:Nat->Hp->V->Hp->Prop
 stop:Nat->Hp->Prop
def FpOk (X:Cx) (pins:List (Addr×Obj)) (H:Hp) (b:Addr):Prop :=
 H b=none/\b≠X.env.locals/\b∉X.fs/\(b∈X.ex\/X.s₀.heap.objs.size<=b)/\(∀ x c,X.env.cells.lookup x=some c->c≠b)/\∀ p∈X.pn++pins,p.1≠b
theorem Inv.fpOk {X:Cx}{pins:List (Addr×Obj)}{σ:St}{H H':Hp}{s:Shared}{b:Addr} (I:Inv X pins σ H s) (hb:s.heap.objs.size<=b) (hn:H' b=none):FpOk X pins H' b:=by
 refine ⟨hn,Nat.ne_of_gt (Nat.lt_of_lt_of_le I.lt hb),I.nofs hb,.inr (Nat.le_trans I.sz hb),fun x c e z=>?_,fun p hp z=>?_⟩
 ·obtain ⟨v,q⟩:=I.cell x c e
  exact absurd (Nat.lt_of_lt_of_le q.lt (by rw [z];exact hb)) (Nat.lt_irrefl _)
 ·exact absurd (Nat.lt_of_lt_of_le (Heap.lt_size (I.pin p hp).1) (by rw [z];exact hb)) (Nat.lt_irrefl _)
structure Turn (P:Program) (w:World) (K:PySem.W.Frag) (tg:Expr) (J:It) (fp:List Addr) (it:Addr) (tn:Nat->Heap->Prop):Prop where
 mem:it∈fp
 obj:∀ i h,tn i h->∀ b∈fp,∃ o,h.get? b=some o/\∀ v,o.data≠.cell v
 keep:∀ i h h',tn i h->(∀ b∈fp,∀ o,h.get? b=some o->h'.get? b=some o)->tn i h'
 item:∀ (X:Cx),X.prog=P->X.w=w->X.K=K->X.calm=true->∀ (i:Nat) (pins:List (Addr×Obj)) (s:Shared) (σ:St) (H:Hp) (E:Value->Shared->Prop),Inv X pins σ H s->(∀ b∈fp,FpOk X pins H b)->tn i s.heap->J.go i H ->
  wpAny (model P w) X.A (pyNext (.ref it)) (fun r s1=>∃ u,r=some u /\
   wpAny (model P w) X.A (letOwnedTupleGo tg (.ref it) u) (fun _ s2=>∃ x H',Inv X pins σ H' s2/\RelV x u/\J.yld i H x H'/\tn (i+1) s2.heap/\∀ b∈fp,H' b=none) E s1) E s
 done:∀ (X:Cx),X.prog=P->X.w=w->X.K=K->X.calm=true->∀ (i:Nat) (pins:List (Addr×Obj)) (s:Shared) (σ:St) (H:Hp) (E:Value->Shared->Prop),Inv X pins σ H s->(∀ b∈fp,FpOk X pins H b)->tn i s.heap->J.stop i H ->
  wpAny (model P w) X.A (pyNext (.ref it)) (fun r s1=>r=none/\Inv X pins σ H s1) E s
 self:∀ (A:Around) (i:Nat) (s:Shared) (Q:Value->Shared->Prop) (E:Value->Shared->Prop),tn i s.heap->Q (.ref it) s->wpAny (model P w) A (pyIter (.ref it)) Q E s
abbrev TI:=St->Hp->(It->Hp->Prop)->Prop
def PIE (X:Cx) (pins:List (Addr×Obj)) (σ:St) (tg:Expr) (R:It->Hp->Prop) (itv:Value) (s2:Shared):Prop :=
 ∃ (it:Addr) (fp:List Addr) (tn:Nat->Heap->Prop) (J:It) (H':Hp),itv=.ref it/\Inv X pins σ H' s2/\Turn X.prog X.w X.K tg J fp it tn/\tn 0 s2.heap/\(∀ b∈fp,FpOk X pins H' b)/\R J H'
def PI (X:Cx) (tg iter:Expr) (wi:TI):Prop :=
 ∀ (pins:List (Addr×Obj)) (s:Shared) (σ:St) (H:Hp) (R:It->Hp->Prop),Inv X pins σ H s->wi σ H R ->
  wpAny (model X.prog X.w) X.A (eval iter X.env) (fun v s1=>wpAny (model X.prog X.w) X.A (pyIter v) (PIE X pins σ tg R) X.xe s1) X.xe s
theorem zlN {M:Model}{A:Around}{E:Value->Shared->Prop}{s:Shared}{tg:Expr}{it:Addr}{u:Value}{o:Obj}{n:String}{vs:Array Value}{Q:Unit->Shared->Prop} (ho:s.heap.get? it=some o) (hc:o.cls=.type n) (hd:o.data=.fields vs)
  (hn:["enumerate","zip","dict_itemiterator","dict_reverseitemiterator","odict_iterator","itertools.zip_longest","itertools.pairwise"].contains n=false) (hQ:Q () s):wpAny M A (letOwnedTupleGo tg (.ref it) u) Q E s:=by
 unfold letOwnedTupleGo
 cases tg <;> first
  | exact wpAny_pure hQ
  | (cases u <;> first
    | exact wpAny_pure hQ
    | (refine wpAny_bind (wpAny_load ho ?_)
       rw [hc,hd]
       show wpAny M A (if (["enumerate","zip","dict_itemiterator","dict_reverseitemiterator","odict_iterator","itertools.zip_longest","itertools.pairwise"].contains n&&vs[0]? == some (rawInt _))=true then _ else _) Q E s
       rw [if_neg (by intro h;rw [hn,Bool.false_and] at h;cases h)]
       exact wpAny_pure hQ))
def Itl (K:PySem.W.Frag) (a:Addr):It :=
 ⟨fun i H=>∃ xs x,SqL K H a xs/\xs[i]?=some x,fun i H x H'=>H'=H/\∀ xs,SqL K H a xs->xs[i]?=some x,fun i H=>∃ xs,SqL K H a xs/\xs.length<=i⟩
def Itt (K:PySem.W.Frag) (a:Addr):It :=
 ⟨fun i H=>∃ xs x,SqT K H a xs/\xs[i]?=some x,fun i H x H'=>H'=H/\∀ xs,SqT K H a xs->xs[i]?=some x,fun i H=>∃ xs,SqT K H a xs/\xs.length<=i⟩
def Itr (lo:Int) (n:Nat):It:=⟨fun i _=>i<n,fun i H x H'=>H'=H/\x=.int (lo+i),fun i _=>n<=i⟩
theorem zhw {P:Program}{w:World}{K:PySem.W.Frag}{tg:Expr} (a it:Addr):Turn P w K tg (Itl K a) [it] it (fun i h=>h.IsListIter it a i) where
 mem:=by simp
 obj:=fun i h st b hb=>by
  have e:b=it:=by simpa using hb
  subst e
  obtain ⟨o,e,c,d⟩:=st
  exact ⟨o,e,fun v z=>by rw [d] at z;cases z⟩
 keep:=fun i h h' st k=>st.at fun o e=>k it (by simp) o e
 item:=by
  intro X hP hw hK hc i pins s σ H E I hf st hg
  subst hP hw hK
  obtain ⟨xs,x,hq,hx⟩:=hg
  obtain ⟨its,rv,p,hz⟩:=I.list hq
  obtain ⟨u,hu,ru⟩:=rv.get hx
  obtain ⟨f0,f1,f2,f3,f4,f5⟩:=hf it (by simp)
  refine wpAny_pyNext_list_item st p.isList (x:=u) (by simpa using hu) fun h' st' sb=>?_
  have I1:Inv X pins σ H { s with heap:=h' }:=I.turned (t':=s.toks) (fun b o hb e=>(sb.2 b hb).trans e) f0 f1 f3 f4 f5
  obtain ⟨o,e,c,d⟩:=id st'
  exact ⟨u,rfl,zlN (s:={ s with heap:=h' }) e c d (by decide) ⟨x,H,I1,ru,⟨rfl,fun ys hy=>by rw [I.list_inj hy hq];exact hx⟩,st',fun b hb=>(hf b hb).1⟩⟩
 done:=by
  intro X hP hw hK hc i pins s σ H E I hf st hg
  subst hP hw hK
  obtain ⟨xs,hq,hx⟩:=hg
  obtain ⟨its,rv,p,hz⟩:=I.list hq
  obtain ⟨f0,f1,f2,f3,f4,f5⟩:=hf it (by simp)
  have hl:=rv.length
  exact wpAny_pyNext_list_end (I.ok.hd hc) st p.isList (by simp;lia) fun h' eb=>⟨rfl,I.turned (t':=s.toks) (fun b o hb e=>eb b o hb e) f0 f1 f3 f4 f5⟩
 self:=fun _ _ _ _ _ st h=>wpAny_pyIter_listiter st h
theorem zg2 {P:Program}{w:World}{K:PySem.W.Frag}{tg:Expr} (a it:Addr):Turn P w K tg (Itt K a) [it] it (fun i h=>h.IsTupleIter it a i) where
 mem:=by simp
 obj:=fun i h st b hb=>by
  have e:b=it:=by simpa using hb
  subst e
  obtain ⟨o,e,c,d⟩:=st
  exact ⟨o,e,fun v z=>by rw [d] at z;cases z⟩
 keep:=fun i h h' st k=>st.at fun o e=>k it (by simp) o e
 item:=by
  intro X hP hw hK hc i pins s σ H E I hf st hg
  subst hP hw hK
  obtain ⟨xs,x,hq,hx⟩:=hg
  obtain ⟨its,rv,p,hz⟩:=I.tuple hq
  obtain ⟨u,hu,ru⟩:=rv.get hx
  obtain ⟨f0,f1,f2,f3,f4,f5⟩:=hf it (by simp)
  refine wpAny_pyNext_tuple_item st (show s.heap.IsTuple a its.toArray from p) (x:=u) (by simpa using hu) fun h' st' sb=>?_
  have I1:Inv X pins σ H { s with heap:=h' }:=I.turned (t':=s.toks) (fun b o hb e=>(sb.2 b hb).trans e) f0 f1 f3 f4 f5
  obtain ⟨o,e,c,d⟩:=id st'
  exact ⟨u,rfl,zlN (s:={ s with heap:=h' }) e c d (by decide) ⟨x,H,I1,ru,⟨rfl,fun ys hy=>by rw [I.tuple_inj hy hq];exact hx⟩,st',fun b hb=>(hf b hb).1⟩⟩
 done:=by
  intro X hP hw hK hc i pins s σ H E I hf st hg
  subst hP hw hK
  obtain ⟨xs,hq,hx⟩:=hg
  obtain ⟨its,rv,p,hz⟩:=I.tuple hq
  obtain ⟨f0,f1,f2,f3,f4,f5⟩:=hf it (by simp)
  have hl:=rv.length
  exact wpAny_pyNext_tuple_end (I.ok.hd hc) st (show s.heap.IsTuple a its.toArray from p) (by simp;lia) fun h' eb=>⟨rfl,I.turned (t':=s.toks) (fun b o hb e=>eb b o hb e) f0 f1 f3 f4 f5⟩
 self:=fun _ _ _ _ _ st h=>wpAny_pyIter_tupleiter st h
theorem zg3 {P:Program}{w:World}{K:PySem.W.Frag}{tg:Expr} (it:Addr) (lo:Int) (n:Nat):Turn P w K tg (Itr lo n) [it] it (fun i h=>IsRangeIter h it (lo+(i:Nat)*1) ((n:Int) - (i:Nat)) 1) where
 mem:=by simp
 obj:=fun i h st b hb=>by
  have e:b=it:=by simpa using hb
  subst e
  exact ⟨_,st,fun v z=>by
   have z':Data.fields _=Data.cell v:=z
   cases z'⟩
 keep:=fun i h h' st k=>k it (by simp) _ st
 item:=by
  intro X hP hw hK hc i pins s σ H E I hf st hg
  subst hP hw hK
  obtain ⟨f0,f1,f2,f3,f4,f5⟩:=hf it (by simp)
  have W:=Walks.range (prog:=X.prog) (w:=X.w) (I.ok.hd hc) it lo 1 n
  refine W.item i s _ _ hg st fun v h' tk hv st' kk=>?_
  obtain ⟨t,rfl⟩:=hv
  have I1:Inv X pins σ H { s with heap:=h',toks:=tk }:=I.turned (fun b o hb e=>kk b o (by simpa using hb) e) f0 f1 f3 f4 f5
  refine ⟨_,rfl,zlN (s:={ s with heap:=h',toks:=tk }) (n:="range_iterator") st' rfl rfl (by decide) ⟨.int (lo+i),H,I1,⟨t,?_⟩,⟨rfl,rfl⟩,st',fun b hb=>(hf b hb).1⟩⟩
  rw [Int.mul_one]
 done:=by
  intro X hP hw hK hc i pins s σ H E I hf st hg
  subst hP hw hK
  obtain ⟨f0,f1,f2,f3,f4,f5⟩:=hf it (by simp)
  exact wpAny_pyNext_range_end (I.ok.hd hc) st (by have:n<=i:=hg;lia) fun h' eb=>⟨rfl,I.turned (t':=s.toks) (fun b o hb e=>eb b o hb e) f0 f1 f3 f4 f5⟩
 self:=fun _ _ _ _ _ st h=>wpAny_pyIter_rangeiter st h
end L2
namespace L2
open PySem PySem.Spec PyProof.Rows
section
variable {X:Cx}{tg:Expr}
def zp1 (K:PySem.W.Frag) (tl:TE):TI:=fun σ H R=>tl σ H fun x H1=>∃ a,x=.ref a/\(∃ xs,SqL K H1 a xs)/\R (Itl K a) H1
def iTup (K:PySem.W.Frag) (tl:TE):TI:=fun σ H R=>tl σ H fun x H1=>∃ a,x=.ref a/\(∃ xs,SqT K H1 a xs)/\R (Itt K a) H1
theorem zk_ {l:Expr}{tl:TE} (hl:PE X l tl):PI X tg l (zp1 X.K tl):=by
 intro pins s σ H R I h
 refine thn (hl pins s σ H _ I h) fun v s1 ⟨x,H1,I1,r1,q1⟩=>?_
 obtain ⟨a,e,⟨xs,hq⟩,q⟩:=q1
 subst e
 cases r1
 obtain ⟨its,rv,p,hz⟩:=I1.list hq
 refine wpAny_pyIter_list p.isList ?_
 refine ⟨s1.heap.objs.size,[s1.heap.objs.size],_,_,H1,rfl,I1.kept (t':=s1.toks) fun b o e=>Heap.get?_push_of_some _ e,zhw a _,⟨_,Heap.get?_push_size _ rfl,rfl,rfl⟩,fun b hb=>?_,q⟩
 have e:b=s1.heap.objs.size:=by simpa using hb
 subst e
 exact I1.fpOk (Nat.le_refl _) (I1.hok.fresh (Nat.le_refl _))
theorem zmX {l:Expr}{tl:TE} (hl:PE X l tl):PI X tg l (iTup X.K tl):=by
 intro pins s σ H R I h
 refine thn (hl pins s σ H _ I h) fun v s1 ⟨x,H1,I1,r1,q1⟩=>?_
 obtain ⟨a,e,⟨xs,hq⟩,q⟩:=q1
 subst e
 cases r1
 obtain ⟨its,rv,p,hz⟩:=I1.tuple hq
 refine wpAny_pyIter_tuple (show s1.heap.IsTuple a its.toArray from p) ?_
 refine ⟨s1.heap.objs.size,[s1.heap.objs.size],_,_,H1,rfl,I1.kept (t':=s1.toks) fun b o e=>Heap.get?_push_of_some _ e,zg2 a _,⟨_,Heap.get?_push_size _ rfl,rfl,rfl⟩,fun b hb=>?_,q⟩
 have e:b=s1.heap.objs.size:=by simpa using hb
 subst e
 exact I1.fpOk (Nat.le_refl _) (I1.hok.fresh (Nat.le_refl _))
theorem zjs {pins:List (Addr×Obj)}{σ:St}{H:Hp}{s:Shared}{R:It->Hp->Prop}{E:Value->Shared->Prop}{lo hi:Int}{t u v:Tok}{tk:Nat} (I:Inv X pins σ H s) (h1:-(2 ^ 62)<=lo) (h2:lo<2 ^ 62) (h3:-(2 ^ 62)<=hi) (h4:hi<2 ^ 62)
  (q:R (Itr lo (hi - lo).toNat) H):wpAny (model X.prog X.w) X.A (pyIter (.ref s.heap.objs.size)) (PIE X pins σ tg R) E { s with heap:=s.heap.push { cls:=.type "range",data:=.fields #[.int lo t,.int hi u,.int 1 v] },toks:=tk }:=by
 refine wpAny_pyIter_range (IsRange.new ..) (small_one h1 h2 h3 h4) ?_
 have I1:Inv X pins σ H { s with heap:=s.heap.push { cls:=.type "range",data:=.fields #[.int lo t,.int hi u,.int 1 v] },toks:=tk }:=I.kept fun b o e=>Heap.get?_push_of_some _ e
 refine ⟨(s.heap.push { cls:=.type "range",data:=.fields #[.int lo t,.int hi u,.int 1 v] }).objs.size,[(s.heap.push { cls:=.type "range",data:=.fields #[.int lo t,.int hi u,.int 1 v] }).objs.size],_,_,H,rfl,
  I1.kept (t':=tk) fun b o e=>Heap.get?_push_of_some _ e,zg3 _ lo (hi - lo).toNat,?_,fun b hb=>?_,q⟩
 ·have e1:lo+((0:Nat):Int)*1=lo:=by simp
  have e2:(((hi - lo).toNat:Nat):Int) - ((0:Nat):Int)=Builtin.Range.rangeSize lo hi 1:=by rw [rangeSize_one];split <;> lia
  show IsRangeIter _ _ (lo+((0:Nat):Int)*1) ((((hi - lo).toNat:Nat):Int) - ((0:Nat):Int)) 1
  rw [e1,e2]
  exact Heap.get?_push_size _ rfl
 ·have e:b=(s.heap.push { cls:=.type "range",data:=.fields #[.int lo t,.int hi u,.int 1 v] }).objs.size:=by simpa using hb
  subst e
  exact I1.fpOk (Nat.le_refl _) (I1.hok.fresh (Nat.le_refl _))
def zp0 (ta:TA):TI:=fun σ H R=>ta σ H fun vs H1=>∃ j:Int,vs=[.int j]/\-(2 ^ 62)<=j/\j<2 ^ 62/\R (Itr 0 j.toNat) H1
theorem zhW {a:Expr}{ta:TA}{p pos:Pos} (hg:Gl X "range") (hm:X.mg "range" = none) (ha:PA X [a] ta) (hs:starEach [a] X.env=[(false,eval a X.env)]:=by rfl):PI X tg (.Call (.Name "range" p) [a] [] pos) (zp0 ta):=by
 intro pins s σ H R I h
 refine Call_ (ze4 I hg hm boot_range (PyProof.Rows.callWith_type1 (thn (ha pos pins s σ H _ I h) fun us s1 ⟨vs,H1,I1,r1,q1⟩=>?_) hs rfl))
 obtain ⟨j,e,q1,q2,q⟩:=q1
 subst e
 cases r1 with
 | cons r rr =>
  cases rr
  obtain ⟨t,rfl⟩:=r
  exact call_range_1 (zjs I1 (by lia) (by lia) q1 q2 (by simpa using q))
def tFor (wi:TI) (g:TG) (tb:TS):TS:=fun D σ H=>wi σ H fun J H1=>∃ W:Nat->Nat->St->Hp->Prop,(∃ m,W 0 m σ H1)/\∀ i m σ H,W i m σ H ->
 (J.stop i H/\D.nx σ H)\/(J.go i H/\∃ N:St->Hp->Prop,(∀ σ' H',N σ' H'->∃ m',m'<m/\W (i+1) m' σ' H')/\∀ x H',J.yld i H x H'->g x σ H' fun σ2 H2=>tb { D with nx:=N,ct:=N,bk:=D.nx } σ2 H2)
def zeQ (fp:List Addr) (h:Heap):List (Addr×Obj):=fp.filterMap fun b=>(h.get? b).map fun o=>(b,o)
theorem zb1 {fp:List Addr}{h:Heap}{b:Addr}{o:Obj} (hb:b∈fp) (e:h.get? b=some o):(b,o)∈zeQ fp h:=List.mem_filterMap.mpr ⟨b,hb,by rw [e];rfl⟩
theorem zh2 {fp:List Addr}{h:Heap}{p:Addr×Obj} (hp:p∈zeQ fp h):p.1∈fp/\h.get? p.1=some p.2:=by
 obtain ⟨b,hb,e⟩:=List.mem_filterMap.mp hp
 cases q:h.get? b with
 | none=>rw [q] at e;cases e
 | some o =>
  rw [q] at e
  have e':(b,o)=p:=Option.some.inj e
  subst e'
  exact ⟨hb,q⟩
theorem Inv.pinned {pins:List (Addr×Obj)}{σ:St}{H:Hp}{s:Shared}{fp:List Addr} (I:Inv X pins σ H s) (hf:∀ b∈fp,FpOk X pins H b) (ho:∀ b∈fp,∃ o,s.heap.get? b=some o/\∀ v,o.data≠.cell v):Inv X (pins++zeQ fp s.heap) σ H s :=
 I.pins_of fun p hp=>(List.mem_append.mp hp).elim (fun z=>I.pin p (List.mem_append_right _ z)) fun z=>by
  obtain ⟨hb,e⟩:=zh2 z
  obtain ⟨f0,f1,f2,_⟩:=hf p.1 hb
  obtain ⟨o,e',d⟩:=ho p.1 hb
  rw [e] at e';cases e'
  exact ⟨e,f0,f1,f2,d⟩
theorem Inv.unpinned {pins pl:List (Addr×Obj)}{σ:St}{H:Hp}{s:Shared} (I:Inv X (pins++pl) σ H s):Inv X pins σ H s:=I.pins_of fun p hp=>I.pin p (List.mem_append_right _ (List.mem_append_left _ hp))
theorem zmU {iter:Expr}{body:List Stmt}{wi:TI}{g:TG}{tb:TS}{pos:Pos} (hp:PassesOwn (model X.prog X.w) X.A X.env X.xe) (hc:X.calm=true) (hi:PI X tg iter wi) (hg:PG X tg g) (hb:PSs X body tb)
  (hs:∀ x,foldedSetIterable iter X.env x=pure x:=by intro _;rfl):PS X (.For tg iter body [] pos) (tFor wi g tb):=by
 intro pins s σ H D I h
 refine wpAny_For (thn (hi pins s σ H _ I h) fun v s1 h1=>thn h1 fun itv s2 h2=>?_) hs
 obtain ⟨it,fp,tn,J,H2,e,I2,T,st2,f2,W,⟨m0,w0⟩,turn⟩:=h2
 subst e
 have stat:∀ {H':Hp},(∀ b∈fp,H' b=none)->∀ b∈fp,FpOk X pins H' b:=fun hn b hb=>⟨hn b hb,(f2 b hb).2⟩
 refine codeAny_forLoop_any (fun n s'=>∃ i σ' H',Inv X pins σ' H' s'/\tn i s'.heap/\(∀ b∈fp,H' b=none)/\W i n σ' H') ?_ m0 ⟨0,σ,H2,I2,st2,fun b hb=>(f2 b hb).1,w0⟩
 rintro n s3 ⟨i,σ3,H3,I3,st3,fr3,w3⟩
 rcases turn i n σ3 H3 w3 with ⟨stop,qn⟩ | ⟨go,N,hN,step⟩
 ·refine wpAny_passesOwn hp (thn (T.done X rfl rfl rfl hc i pins s3 σ3 H3 X.xe I3 (stat fr3) st3 stop) fun r s4 ⟨hr,I4⟩=>?_)
  subst hr
  exact wpAny_execs_nil ⟨σ3,H3,I4,qn⟩
 ·refine wpAny_passesOwn hp (thn (T.item X rfl rfl rfl hc i pins s3 σ3 H3 X.xe I3 (stat fr3) st3 go) fun r s4 ⟨u,hr,h4⟩=>?_)
  subst hr
  refine wpAny_passesOwn hp (thn h4 fun _ s5 ⟨x,H5,I5,r5,y5,st5,fr5⟩=>?_)
  have I5':=I5.pinned (stat fr5) (T.obj _ _ st5)
  refine wpAny_passesOwn hp (thn (hg _ s5 σ3 H5 x u _ I5' r5 (step x H5 y5)) fun _ s6 ⟨σ6,H6,I6,q6⟩=>?_)
  refine wpAny_passesOwn hp (thn (hb _ s6 σ6 H6 _ I6 q6) fun f s7 q7=>?_)
  have again:∀ {σ7:St} {H7:Hp},Inv X (pins++zeQ fp s5.heap) σ7 H7 s7->N σ7 H7->∃ m,m<n/\∃ i σ' H',Inv X pins σ' H' s7/\tn i s7.heap/\(∀ b∈fp,H' b=none)/\W i m σ' H':=fun {σ7 H7} I7 n7=>by
   obtain ⟨m',hm,w7⟩:=hN σ7 H7 n7
   refine ⟨m',hm,i+1,σ7,H7,I7.unpinned,T.keep _ _ _ st5 fun b hb o e=>(I7.pin (b,o) (List.mem_append_right _ (List.mem_append_right _ (zb1 hb e)))).1,fun b hb=>?_,w7⟩
   obtain ⟨o,e,d⟩:=T.obj _ _ st5 b hb
   exact (I7.pin (b,o) (List.mem_append_right _ (List.mem_append_right _ (zb1 hb e)))).2.1
  cases f with
  | next=>obtain ⟨σ7,H7,I7,n7⟩:=q7;exact again I7 n7
  | cont=>obtain ⟨σ7,H7,I7,n7⟩:=q7;exact again I7 n7
  | brk=>obtain ⟨σ7,H7,I7,q7⟩:=q7;exact ⟨σ7,H7,I7.unpinned,q7⟩
  | ret v=>obtain ⟨x7,σ7,H7,I7,r7,q7⟩:=q7;exact ⟨x7,σ7,H7,I7.unpinned,r7,q7⟩
end
end L2
namespace L2
open PySem PySem.Spec PyProof.Rows
abbrev R2:=V->V->Hp->VK->Prop
def OpR (X:Cx) (f:Value->Value->Sem Value) (r:R2):Prop :=
 ∀ (pins:List (Addr×Obj)) (s:Shared) (σ:St) (H:Hp) (x y:V) (v u:Value) (Q:VK),Inv X pins σ H s->RelV x v->RelV y u->r x y H Q ->
  wpAny (model X.prog X.w) X.A (f v u) (EP X pins σ Q) X.xe s
def UnR (X:Cx) (f:Value->Sem Value) (r:V->Hp->VK->Prop):Prop :=
 ∀ (pins:List (Addr×Obj)) (s:Shared) (σ:St) (H:Hp) (x:V) (v:Value) (Q:VK),Inv X pins σ H s->RelV x v->r x H Q ->
  wpAny (model X.prog X.w) X.A (f v) (EP X pins σ Q) X.xe s
def zbG (X:Cx) (f:Value) (r:List V->Hp->VK->Prop):Prop :=
 ∀ (pins:List (Addr×Obj)) (s:Shared) (σ:St) (H:Hp) (xs:List V) (us:List Value) (Q:VK),Inv X pins σ H s->Vals xs us->r xs H Q ->
  wpAny (model X.prog X.w) X.A (call f us) (EP X pins σ Q) X.xe s
def TruR (X:Cx) (r:V->Hp->(Bool->Hp->Prop)->Prop):Prop :=
 ∀ (pins:List (Addr×Obj)) (s:Shared) (σ:St) (H:Hp) (x:V) (v:Value) (Q:Bool->Hp->Prop),Inv X pins σ H s->RelV x v->r x H Q ->
  wpAny (model X.prog X.w) X.A (truthy v) (TP X pins σ Q) X.xe s
def tOp (r:R2) (ta tb:TE):TE:=fun σ H Q=>ta σ H fun x H1=>tb σ H1 fun y H2=>r x y H2 Q
def tUn (r:V->Hp->VK->Prop) (ta:TE):TE:=fun σ H Q=>ta σ H fun x H1=>r x H1 Q
def rI (C:Int->Int->Prop) (g:Int->Int->V):R2:=fun x y H Q=>∃ i j,x=.int i/\y=.int j/\C i j/\Q (g i j) H
def rI0 (g:Int->Int->V):R2:=fun x y H Q=>∃ i j,x=.int i/\y=.int j/\Q (g i j) H
def rU (g:Int->V):V->Hp->VK->Prop:=fun x H Q=>∃ i,x=.int i/\Q (g i) H
section
variable {X:Cx}{a b c:Expr}{ta tb tc:TE}{pos:Pos}
theorem binT (ha:PE X a ta) (hb:PE X b tb) {pins:List (Addr×Obj)}{s:Shared}{σ:St}{H:Hp}{R:V->V->Hp->Prop} (I:Inv X pins σ H s)
  (h:ta σ H fun x H1=>tb σ H1 fun y H2=>R x y H2) {Q:Value->Shared->Prop} {f:Value->Value->Sem Value}
  (hf:∀ v u s2 x y H2,Inv X pins σ H2 s2->RelV x v->RelV y u->R x y H2->wpAny (model X.prog X.w) X.A (f v u) Q X.xe s2) :
  wpAny (model X.prog X.w) X.A (eval a X.env) (fun v s₁=>wpAny (model X.prog X.w) X.A (eval b X.env) (fun u s₂=>wpAny (model X.prog X.w) X.A (f v u) Q X.xe s₂) X.xe s₁) X.xe s:=by
 refine thn (ha pins s σ H _ I h) fun v s1 ⟨x,H1,I1,r1,q1⟩=>?_
 refine thn (hb pins s1 σ H1 _ I1 q1) fun u s2 ⟨y,H2,I2,r2,q2⟩=>?_
 exact hf v u s2 x y H2 I2 r1 r2 q2
theorem za2 {op:Operator}{r:R2} (ho:OpR X (binaryOp op) r) (ha:PE X a ta) (hb:PE X b tb):PE X (.BinOp a op b pos) (tOp r ta tb):=by
 intro pins s σ H Q I h
 exact wpAny_BinOp (binT ha hb I h fun v u s2 x y H2 I2 rx ry q=>ho pins s2 σ H2 x y v u Q I2 rx ry q)
theorem zpq {op:UnaryOp}{r:V->Hp->VK->Prop} (ho:UnR X (unaryOp op) r) (ha:PE X a ta):PE X (.UnaryOp op a pos) (tUn r ta):=by
 intro pins s σ H Q I h
 exact UnaryOp_ (thn (ha pins s σ H _ I h) fun v s1 ⟨x,H1,I1,r1,q1⟩=>ho pins s1 σ H1 x v Q I1 r1 q1)
theorem opI {f:Value->Value->Sem Value}{C:Int->Int->Prop}{g:Int->Int->Int}
  (rule:∀ (i j:Int) (t u:Tok) (s:Shared) (Q:Value->Shared->Prop) (E:Value->Shared->Prop),C i j->Q (.int (g i j) s.toks) { s with toks:=s.toks+1 }->wpAny (model X.prog X.w) X.A (f (.int i t) (.int j u)) Q E s) :
  OpR X f (rI C fun i j=>.int (g i j)):=by
 intro pins s σ H x y v u Q I rx ry h
 obtain ⟨i,j,rfl,rfl,hc,q⟩:=h
 obtain ⟨t,rfl⟩:=rx
 obtain ⟨t',rfl⟩:=ry
 exact rule i j t t' s _ _ hc ⟨.int (g i j),H,I.tok _,⟨_,rfl⟩,q⟩
theorem opI0 {f:Value->Value->Sem Value}{g:Int->Int->Int}
  (rule:∀ (i j:Int) (t u:Tok) (s:Shared) (Q:Value->Shared->Prop) (E:Value->Shared->Prop),Q (.int (g i j) s.toks) { s with toks:=s.toks+1 }->wpAny (model X.prog X.w) X.A (f (.int i t) (.int j u)) Q E s) :
  OpR X f (rI0 fun i j=>.int (g i j)):=by
 intro pins s σ H x y v u Q I rx ry h
 obtain ⟨i,j,rfl,rfl,q⟩:=h
 obtain ⟨t,rfl⟩:=rx
 obtain ⟨t',rfl⟩:=ry
 exact rule i j t t' s _ _ ⟨.int (g i j),H,I.tok _,⟨_,rfl⟩,q⟩
theorem opB0 {f:Value->Value->Sem Value}{g:Int->Int->Bool}
  (rule:∀ (i j:Int) (t u:Tok) (s:Shared) (Q:Value->Shared->Prop) (E:Value->Shared->Prop),Q (.bool (g i j)) s->wpAny (model X.prog X.w) X.A (f (.int i t) (.int j u)) Q E s) :
  OpR X f (rI0 fun i j=>.bl (g i j)):=by
 intro pins s σ H x y v u Q I rx ry h
 obtain ⟨i,j,rfl,rfl,q⟩:=h
 obtain ⟨t,rfl⟩:=rx
 obtain ⟨t',rfl⟩:=ry
 exact rule i j t t' s _ _ ⟨.bl (g i j),H,I,rfl,q⟩
def CPow (i j:Int):Prop:=0<=j/\j<=1000000/\i.natAbs<2 ^ 64
def CMul (i j:Int):Prop:=(-(2 ^ 64)<i/\i<2 ^ 64)\/(-(2 ^ 64)<j/\j<2 ^ 64)
theorem CMul.ok {i j:Int} (h:CMul i j):IntMulOk i j:=by
 rcases h with ⟨h1,h2⟩ | ⟨h1,h2⟩
 ·exact .of_left (intBits_le_64 h1 h2)
 ·exact .of_right (intBits_le_64 h1 h2)
theorem zcp:OpR X (binaryOp .Add) (rI0 fun i j=>.int (i+j)):=opI0 fun _ _ _ _ _ _ _ q=>add_int q
theorem zna:OpR X (binaryOp .Sub) (rI0 fun i j=>.int (i - j)):=opI0 fun _ _ _ _ _ _ _ q=>sub_int q
theorem zcn:OpR X (binaryOp .Mult) (rI CMul fun i j=>.int (i*j)):=opI fun _ _ _ _ _ _ _ hc q=>mul_int q hc.ok
theorem zdm:OpR X (binaryOp .Mod) (rI (fun _ j=>0<j) fun i j=>.int (i % j)):=opI fun i j _ _ _ _ _ hc q=>by
 have h1:(0:Int)<j:=hc
 exact mod_int' (by lia) (by rw [Int.fmod_eq_emod_of_nonneg i (by lia)];exact q)
theorem znc:OpR X (binaryOp .Pow) (rI CPow fun i j=>.int (i ^ j.toNat)):=opI fun _ _ _ _ _ _ _ hc q=>pow_int_small hc.1 hc.2.1 hc.2.2 q
theorem znb:OpR X (binaryOp .LShift) (rI CPow fun i j=>.int (i*2 ^ j.toNat)):=opI fun _ _ _ _ _ _ _ hc q=>lshift_int_small hc.1 hc.2.1 hc.2.2 q
theorem zni:OpR X (binaryOp .BitAnd) (rI0 fun i j=>.int (Builtin.bitAnd i j)):=opI0 fun _ _ _ _ _ _ _ q=>and_int q
theorem zm_:OpR X (binaryOp .BitXor) (rI0 fun i j=>.int (Builtin.bitXor i j)):=opI0 fun _ _ _ _ _ _ _ q=>xor_int q
theorem unI {f:Value->Sem Value}{g:Int->Int}
  (rule:∀ (i:Int) (t:Tok) (s:Shared) (Q:Value->Shared->Prop) (E:Value->Shared->Prop),Q (.int (g i) s.toks) { s with toks:=s.toks+1 }->wpAny (model X.prog X.w) X.A (f (.int i t)) Q E s) :
  UnR X f (rU fun i=>.int (g i)):=by
 intro pins s σ H x v Q I rx h
 obtain ⟨i,rfl,q⟩:=h
 obtain ⟨t,rfl⟩:=rx
 exact rule i t s _ _ ⟨.int (g i),H,I.tok _,⟨_,rfl⟩,q⟩
theorem zmm:UnR X (unaryOp .USub) (rU fun i=>.int (-i)):=unI fun _ _ _ _ _ q=>neg_int q
end
def scal:V->V->Bool
 | .non,.non=>true | .non,.int _=>true | .int _,.non=>true | .non,.bl _=>true | .bl _,.non=>true | .non,.str _=>true | .str _,.non=>true
 | .int _,.int _=>true | .bl _,.bl _=>true | .str _,.str _=>true | .byt _,.byt _=>true
 | .int _,.str _=>true | .str _,.int _=>true | .bl _,.str _=>true | .str _,.bl _=>true
 | _,_=>false
def rEq:R2:=fun x y H Q=>scal x y=true/\Q (.bl (decide (x=y))) H
def rNe:R2:=fun x y H Q=>scal x y=true/\Q (.bl (!decide (x=y))) H
theorem ziF {i j:Int}:decide (V.int i=V.int j)=(i == j):=by
 rw [Bool.eq_iff_iff]
 simp
theorem zkF {i j:Bool}:decide (V.bl i=V.bl j)=(i == j):=by
 rw [Bool.eq_iff_iff]
 simp
theorem ziE {i j:Str}:decide (V.str i=V.str j)=(i == j):=by
 rw [Bool.eq_iff_iff]
 simp
theorem ziG {i j:Array UInt8}:decide (V.byt i=V.byt j)=(i.toList == j.toList):=by
 rw [Bool.eq_iff_iff]
 cases i
 cases j
 simp
section
variable {X:Cx}{a b c:Expr}{ta tb tc:TE}{pos:Pos}
theorem zax {pins:List (Addr×Obj)}{σ:St}{H:Hp}{s:Shared}{Q:VK}{k k':Bool} (I:Inv X pins σ H s) (q:Q (.bl k) H) (e:k=k'):EP X pins σ Q (.bool k') s:=by
 subst e
 exact ⟨.bl k,H,I,rfl,q⟩
theorem zpy:OpR X (compareOp .Eq) rEq:=by
 intro pins s σ H x y v u Q I rx ry h
 obtain ⟨hs,q⟩:=h
 cases x with
 | non =>
  cases rx
  cases y with
  | non=>cases ry;exact PySem.EqNone.eq_none_none (zax I q (by simp))
  | bl j=>cases ry;exact PySem.EqNone.eq_none_bool (zax I q (by simp))
  | int j=>obtain ⟨t',rfl⟩:=ry;exact PySem.EqNone.eq_none_int (zax I q (by simp))
  | str j=>obtain ⟨t',rfl⟩:=ry;exact PySem.EqNone.eq_none_str (zax I q (by simp))
  | _=>exact absurd (show false=true from hs) Bool.false_ne_true
 | bl i =>
  cases rx
  cases y with
  | non=>cases ry;exact PySem.EqNone.eq_bool_none (zax I q (by simp))
  | bl j=>cases ry;exact eq_bool (zax I q zkF)
  | str j=>obtain ⟨t',rfl⟩:=ry;exact PySem.EqMixed.eq_bool_str (zax I q (by simp))
  | _=>exact absurd (show false=true from hs) Bool.false_ne_true
 | int i =>
  obtain ⟨t,rfl⟩:=rx
  cases y with
  | non=>cases ry;exact PySem.EqNone.eq_int_none (zax I q (by simp))
  | int j=>obtain ⟨t',rfl⟩:=ry;exact eq_int (zax I q ziF)
  | str j=>obtain ⟨t',rfl⟩:=ry;exact PySem.EqMixed.eq_int_str (zax I q (by simp))
  | _=>exact absurd (show false=true from hs) Bool.false_ne_true
 | str i =>
  obtain ⟨t,rfl⟩:=rx
  cases y with
  | non=>cases ry;exact PySem.EqNone.eq_str_none (zax I q (by simp))
  | bl j=>cases ry;exact PySem.EqMixed.eq_str_bool (zax I q (by simp))
  | int j=>obtain ⟨t',rfl⟩:=ry;exact PySem.EqMixed.eq_str_int (zax I q (by simp))
  | str j=>obtain ⟨t',rfl⟩:=ry;exact eq_str (zax I q ziE)
  | _=>exact absurd (show false=true from hs) Bool.false_ne_true
 | byt i =>
  obtain ⟨t,rfl⟩:=rx
  cases y with
  | byt j=>obtain ⟨t',rfl⟩:=ry;exact PySem.W.eq_bytes (zax I q ziG)
  | _=>exact absurd (show false=true from hs) Bool.false_ne_true
 | _=>cases y <;> exact absurd (show false=true from hs) Bool.false_ne_true
theorem zpv:OpR X (compareOp .NotEq) rNe:=by
 intro pins s σ H x y v u Q I rx ry h
 obtain ⟨hs,q⟩:=h
 cases x with
 | non =>
  cases rx
  cases y with
  | non=>cases ry;exact PySem.EqNone.ne_none_none (zax I q (by simp))
  | bl j=>cases ry;exact PySem.EqNone.ne_none_bool (zax I q (by simp))
  | int j=>obtain ⟨t',rfl⟩:=ry;exact PySem.EqNone.ne_none_int (zax I q (by simp))
  | str j=>obtain ⟨t',rfl⟩:=ry;exact PySem.EqNone.ne_none_str (zax I q (by simp))
  | _=>exact absurd (show false=true from hs) Bool.false_ne_true
 | bl i =>
  cases rx
  cases y with
  | non=>cases ry;exact PySem.EqNone.ne_bool_none (zax I q (by simp))
  | bl j=>cases ry;exact ne_bool (zax I q (congrArg not zkF))
  | str j=>obtain ⟨t',rfl⟩:=ry;exact PySem.EqMixed.ne_bool_str (zax I q (by simp))
  | _=>exact absurd (show false=true from hs) Bool.false_ne_true
 | int i =>
  obtain ⟨t,rfl⟩:=rx
  cases y with
  | non=>cases ry;exact PySem.EqNone.ne_int_none (zax I q (by simp))
  | int j=>obtain ⟨t',rfl⟩:=ry;exact ne_int (zax I q (congrArg not ziF))
  | str j=>obtain ⟨t',rfl⟩:=ry;exact PySem.EqMixed.ne_int_str (zax I q (by simp))
  | _=>exact absurd (show false=true from hs) Bool.false_ne_true
 | str i =>
  obtain ⟨t,rfl⟩:=rx
  cases y with
  | non=>cases ry;exact PySem.EqNone.ne_str_none (zax I q (by simp))
  | bl j=>cases ry;exact PySem.EqMixed.ne_str_bool (zax I q (by simp))
  | int j=>obtain ⟨t',rfl⟩:=ry;exact PySem.EqMixed.ne_str_int (zax I q (by simp))
  | str j=>obtain ⟨t',rfl⟩:=ry;exact ne_str (zax I q (congrArg not ziE))
  | _=>exact absurd (show false=true from hs) Bool.false_ne_true
 | byt i =>
  obtain ⟨t,rfl⟩:=rx
  cases y with
  | byt j=>obtain ⟨t',rfl⟩:=ry;exact PySem.W.ne_bytes (zax I q (congrArg not ziG))
  | _=>exact absurd (show false=true from hs) Bool.false_ne_true
 | _=>cases y <;> exact absurd (show false=true from hs) Bool.false_ne_true
theorem znf:OpR X (compareOp .Lt) (rI0 fun i j=>.bl (decide (i<j))):=opB0 fun _ _ _ _ _ _ _ q=>lt_int q
theorem zpw:OpR X (compareOp .LtE) (rI0 fun i j=>.bl (decide (i<=j))):=opB0 fun _ _ _ _ _ _ _ q=>le_int q
theorem zjH:OpR X (compareOp .Gt) (rI0 fun i j=>.bl (decide (j<i))):=opB0 fun _ _ _ _ _ _ _ q=>gt_int q
theorem zpx:OpR X (compareOp .GtE) (rI0 fun i j=>.bl (decide (j<=i))):=opB0 fun _ _ _ _ _ _ _ q=>ge_int q
theorem zh0:OpR X (compareOp .Lt) (fun x y H Q=>∃ i j,x=.str i/\y=.str j/\Q (.bl (decide (i.cps.toList<j.cps.toList))) H):=by
 intro pins s σ H x y v u Q I rx ry h
 obtain ⟨i,j,rfl,rfl,q⟩:=h
 obtain ⟨t,rfl⟩:=rx
 obtain ⟨t',rfl⟩:=ry
 exact lt_str (zax I q rfl)
theorem OpR.or {f:Value->Value->Sem Value}{r r':R2} (h:OpR X f r) (h':OpR X f r'):OpR X f (fun x y H Q=>r x y H Q\/r' x y H Q):=by
 intro pins s σ H x y v u Q I rx ry q
 rcases q with q | q
 ·exact h pins s σ H x y v u Q I rx ry q
 ·exact h' pins s σ H x y v u Q I rx ry q
theorem zaE (b:Expr) {op:CmpOp} (h:op≠.In:=by decide) (h2:op≠.NotIn:=by decide):behindInMarks op b=false:=by
 have e1:(op == CmpOp.In)=false:=by cases op <;> first | rfl | exact absurd rfl h
 have e2:(op == CmpOp.NotIn)=false:=by cases op <;> first | rfl | exact absurd rfl h2
 cases b <;> simp [behindInMarks,e1,e2]
theorem zhY {op:CmpOp}{r:R2} (ho:OpR X (compareOp op) r) (ha:PE X a ta) (hb:PE X b tb) (hm:behindInMarks op b=false):PE X (.Compare a [op] [b] pos) (tOp r ta tb):=by
 intro pins s σ H Q I h
 exact wpAny_Compare1 (binT ha hb I h fun v u s2 x y H2 I2 rx ry q=>ho pins s2 σ H2 x y v u Q I2 rx ry q) hm
def zoS (t:TE):TT:=fun σ H Q=>t σ H fun x H'=>∃ k,x=.bl k/\Q k H'
theorem zfS {op:CmpOp}{r:R2} (ho:OpR X (compareOp op) r) (ha:PE X a ta) (hb:PE X b tb) (hm:behindInMarks op b=false):PT X (.Compare a [op] [b] pos) (zoS (tOp r ta tb)):=by
 intro pins s σ H Q I h
 refine wpAny_isTrue_Compare1 (thn (ha pins s σ H _ I h) fun v s1 ⟨x,H1,I1,r1,q1⟩=>thn (hb pins s1 σ H1 _ I1 q1) fun u s2 ⟨y,H2,I2,r2,q2⟩ =>
  thn (ho pins s2 σ H2 x y v u _ I2 r1 r2 q2) fun c s3 ⟨z,H3,I3,r3,k,e,q3⟩=>?_) hm
 subst e
 cases r3
 exact wpAny_truthy_bool ⟨H3,I3,q3⟩
def zms (r r':R2) (ta tb tc:TE):TE:=fun σ H Q=>ta σ H fun x H1=>tb σ H1 fun y H2=>r x y H2 fun z H3=>∃ k,z=.bl k /\
 (if k=true then tc σ H3 fun w' H4=>r' y w' H4 Q else Q (.bl false) H3)
theorem zjF {op op':CmpOp}{r r':R2} (ho:OpR X (compareOp op) r) (ho':OpR X (compareOp op') r') (ha:PE X a ta) (hb:PE X b tb) (hc:PE X c tc)
  (hm:lastMarks [op,op'] [b,c]=false:=by with_unfolding_all rfl):PE X (.Compare a [op,op'] [b,c] pos) (zms r r' ta tb tc):=by
 intro pins s σ H Q I h
 refine Compare_chain (thn (ha pins s σ H _ I h) fun v s1 ⟨x,H1,I1,r1,q1⟩=>chain_link (thn (hb pins s1 σ H1 _ I1 q1) fun u s2 ⟨y,H2,I2,r2,q2⟩ =>
  thn (ho pins s2 σ H2 x y v u _ I2 r1 r2 q2) fun d s3 ⟨z,H3,I3,r3,k,e,q3⟩=>?_)) hm
 subst e
 cases r3
 refine wpAny_truthy_bool ?_
 cases k with
 | false=>exact ite_ff ⟨.bl false,H3,I3,rfl,q3⟩
 | true=>exact ite_tt (chain_last (thn (hc pins s3 σ H3 _ I3 q3) fun w' s4 ⟨z',H4,I4,r4,q4⟩=>ho' pins s4 σ H4 y z' u w' Q I4 r2 r4 q4))
def TruV (K:PySem.W.Frag) (x:V) (H:Hp) (k:Bool):Prop :=
 match x with
 | .non=>k=false
 | .bl b=>k=b
 | .int i=>k=(i != 0)
 | .str y=>y.length<=sizeLine/\k=((y.length:Int) != 0)
 | .byt y=>y.size<=sizeLine/\k=((y.size:Int) != 0)
 | .ref p=>(∃ xs,SqL K H p xs/\k=!xs.isEmpty)\/(∃ xs,SqT K H p xs/\k=!xs.isEmpty)\/∃ kvs,H p=some (.dK kvs)/\k=!kvs.isEmpty
 | _=>False
theorem zhk {κ:Type}{kvs:List (κ×V)}{vs:List (κ×Value)} (r:KV kvs vs):(!vs.isEmpty)=!kvs.isEmpty:=by
 cases r <;> rfl
theorem zdV {xs:List V}{its:List Value} (r:Vals xs its):(!its.toArray.isEmpty)=!xs.isEmpty:=by
 cases r <;> simp
theorem zdo:(sizeLine:Nat)<2 ^ 63:=by rw [sizeLine_eq];decide
theorem zmo:TruR X (fun x H Q=>∃ k,TruV X.K x H k/\Q k H):=by
 intro pins s σ H x v Q I rx h
 obtain ⟨k,e,q⟩:=h
 have hl:=zdo
 have hs:sizeLine=16777216:=sizeLine_eq
 cases x with
 | non =>
  cases rx
  have e':k=false:=e
  subst e'
  exact truthy_none ⟨H,I,q⟩
 | bl b =>
  cases rx
  have e':k=b:=e
  subst e'
  exact wpAny_truthy_bool ⟨H,I,q⟩
 | int i =>
  obtain ⟨t,rfl⟩:=rx
  have e':k=(i != 0):=e
  subst e'
  exact PySem.P.truthy_int ⟨H,I,q⟩
 | str y =>
  obtain ⟨t,rfl⟩:=rx
  obtain ⟨hy,e'⟩:y.length<=sizeLine/\k=((y.length:Int) != 0):=e
  subst e'
  exact PySem.P.truthy_str (by lia) ⟨H,I.tok _,q⟩
 | byt y =>
  obtain ⟨t,rfl⟩:=rx
  obtain ⟨hy,e'⟩:y.size<=sizeLine/\k=((y.size:Int) != 0):=e
  subst e'
  exact PySem.W.truthy_bytes (by lia) ⟨H,I.tok _,q⟩
 | ref p =>
  cases rx
  have e':(∃ xs,SqL X.K H p xs/\k=!xs.isEmpty)\/(∃ xs,SqT X.K H p xs/\k=!xs.isEmpty)\/∃ kvs,H p=some (.dK kvs)/\k=!kvs.isEmpty:=e
  rcases e' with ⟨xs,hx,e'⟩ | ⟨xs,hx,e'⟩ | ⟨kvs,hx,e'⟩
  ·subst e'
   obtain ⟨its,r,pl,hz⟩:=I.list hx
   have hlen:=r.length
   exact wpAny_truthy_list pl.isList (by simp only [List.size_toArray];lia) ⟨H,I.tok _,by rw [zdV r];exact q⟩
  ·subst e'
   obtain ⟨its,r,pl,hz⟩:=I.tuple hx
   have hlen:=r.length
   exact truthy_tuple pl (by simp only [List.size_toArray];lia) ⟨H,I.tok _,by rw [zdV r];exact q⟩
  ·subst e'
   obtain ⟨hz,hS,vs,r,m⟩:kvs.length<=sizeLine/\(p == sysModules)=false/\∃ vs,KV kvs vs/\s.heap.DictOf (zal X.prog X.w) p vs:=I.hok p _ hx
   have hlen:kvs.length=vs.length:=Paired.length r
   exact wpAny_truthy_dict hS m (by lia) ⟨H,I.tok _,by rw [zhk r];exact q⟩
 | _=>exact (show False from e).elim
theorem zju (ha:PE X a ta) (he:∀ whole,isTrue a X.env whole=(do let v <- whole;standAt a.pos;holding [v] (truthy v))) :
  PT X a (fun σ H Q=>ta σ H fun x H'=>∃ k,TruV X.K x H' k/\Q k H'):=by
 intro pins s σ H Q I h
 exact isTrue_plain (thn (ha pins s σ H _ I h) fun v s1 ⟨x,H1,I1,r1,q1⟩=>zmo pins s1 σ H1 x v Q I1 r1 q1) (he _)
theorem zha:OpR X (binaryOp .Add) (fun x y H Q=>∃ i j,x=.str i/\y=.str j/\i.length+j.length<=sizeLine/\Q (.str (i++j)) H):=by
 intro pins s σ H x y v u Q I rx ry h
 obtain ⟨i,j,rfl,rfl,hz,q⟩:=h
 obtain ⟨t,rfl⟩:=rx
 obtain ⟨t',rfl⟩:=ry
 exact add_str (fun t' tk=>⟨.str (i++j),H,I.tok _,⟨_,rfl⟩,q⟩) hz
theorem vals1 {x:V}{us:List Value} (r:Vals [x] us):∃ u,us=[u]/\RelV x u:=by
 cases r with
 | cons r1 r2=>cases r2;exact ⟨_,rfl,r1⟩
theorem vals2 {x y:V}{us:List Value} (r:Vals [x,y] us):∃ u w',us=[u,w']/\RelV x u/\RelV y w':=by
 cases r with
 | cons r1 r2 =>
  cases r2 with
  | cons r3 r4=>cases r4;exact ⟨_,_,rfl,r1,r3⟩
theorem zfz (hc:X.calm=true):zbG X (.builtin "max") (fun xs H Q=>∃ i j,xs=[.int i,.int j]/\Q (.int (if j > i then j else i)) H):=by
 intro pins s σ H xs us Q I r h
 obtain ⟨i,j,rfl,q⟩:=h
 obtain ⟨u,w',rfl,⟨t,rfl⟩,⟨t',rfl⟩⟩:=vals2 r
 refine max_two_ints (I.ok.hd hc) fun h' tk k=>⟨_,H,I.kept k,?_,q⟩
 by_cases hj:j > i
 ·rw [if_pos hj,if_pos hj];exact ⟨_,rfl⟩
 ·rw [if_neg hj,if_neg hj];exact ⟨_,rfl⟩
theorem zfy (hc:X.calm=true):zbG X (.builtin "min") (fun xs H Q=>∃ i j,xs=[.int i,.int j]/\Q (.int (if j<i then j else i)) H):=by
 intro pins s σ H xs us Q I r h
 obtain ⟨i,j,rfl,q⟩:=h
 obtain ⟨u,w',rfl,⟨t,rfl⟩,⟨t',rfl⟩⟩:=vals2 r
 refine min_two_ints (I.ok.hd hc) fun h' tk k=>⟨_,H,I.kept k,?_,q⟩
 by_cases hj:j<i
 ·rw [if_pos hj,if_pos hj];exact ⟨_,rfl⟩
 ·rw [if_neg hj,if_neg hj];exact ⟨_,rfl⟩
theorem ziS:zbG X (.type "int") (fun xs H Q=>(∃ i,xs=[.int i]/\Q (.int i) H)\/∃ k,xs=[.bl k]/\Q (.int (if k then 1 else 0)) H):=by
 intro pins s σ H xs us Q I r h
 rcases h with ⟨i,rfl,q⟩ | ⟨k,rfl,q⟩
 ·obtain ⟨u,rfl,t,rfl⟩:=vals1 r
  exact call_int_int ⟨.int i,H,I,⟨_,rfl⟩,q⟩
 ·obtain ⟨u,rfl,r1⟩:=vals1 r
  cases r1
  exact call_int_bool ⟨.int (if k then 1 else 0),H,I.tok _,⟨_,rfl⟩,q⟩
def LenV (K:PySem.W.Frag) (x:V) (H:Hp) (n:Nat):Prop :=
 match x with
 | .str y=>y.length<=sizeLine/\n=y.length
 | .byt y=>y.size<=sizeLine/\n=y.size
 | .ref p=>(∃ xs,SqL K H p xs/\n=xs.length)\/∃ xs,SqT K H p xs/\n=xs.length
 | _=>False
theorem zbn:zbG X (.builtin "len") (fun xs H Q=>∃ x n,xs=[x]/\LenV X.K x H n/\Q (.int n) H):=by
 intro pins s σ H xs us Q I r h
 obtain ⟨x,n,rfl,e,q⟩:=h
 obtain ⟨u,rfl,rx⟩:=vals1 r
 have hl:=zdo
 have hs:sizeLine=16777216:=sizeLine_eq
 cases x with
 | str y =>
  obtain ⟨t,rfl⟩:=rx
  obtain ⟨hy,e'⟩:y.length<=sizeLine/\n=y.length:=e
  subst e'
  exact len_str (by lia) ⟨.int _,H,I.tok _,⟨_,rfl⟩,q⟩
 | byt y =>
  obtain ⟨t,rfl⟩:=rx
  obtain ⟨hy,e'⟩:y.size<=sizeLine/\n=y.size:=e
  subst e'
  exact PySem.W.len_bytes (by lia) ⟨.int _,H,I.tok _,⟨_,rfl⟩,q⟩
 | ref p =>
  cases rx
  have e':(∃ xs,SqL X.K H p xs/\n=xs.length)\/∃ xs,SqT X.K H p xs/\n=xs.length:=e
  rcases e' with ⟨xs,hx,e'⟩ | ⟨xs,hx,e'⟩
  ·subst e'
   obtain ⟨its,r',pl,hz⟩:=I.list hx
   have hlen:=r'.length
   exact Calls.call_len_list pl.isList (by simp only [List.size_toArray];lia) ⟨.int xs.length,H,I.tok _,⟨_,by simp only [List.size_toArray];rw [hlen]⟩,q⟩
  ·subst e'
   obtain ⟨its,r',pl,hz⟩:=I.tuple hx
   have hlen:=r'.length
   exact len_tuple pl (by simp only [List.size_toArray];lia) ⟨.int xs.length,H,I.tok _,⟨_,by simp only [List.size_toArray];rw [hlen]⟩,q⟩
 | _=>exact (show False from e).elim
end
end L2
namespace L2
open PySem PySem.Spec PyProof.Rows
structure ObjM (h:Heap) (x dx C:Addr) (mA:Str->Option Value):Prop where
 obj:h.get? x=some (PySem.W.instObj C dx)
 ns:h.Ns1 dx mA
 ne:dx≠x
theorem zh6 {h:Heap}{dx:Addr}{mA:Str->Option Value} (n:h.Ns1 dx mA):∃ od,h.get? dx=some od/\∀ name,PySem.W.lookIn name od=some (mA name):=by
 obtain ⟨o,es,ep,ho,hd,hk,_,hm⟩:=n
 refine ⟨o,ho,fun name=>?_⟩
 have e:=hm name
 unfold nsFind findBy at e
 rw [<- Array.find?_toList] at e
 unfold PySem.W.lookIn
 rw [hd]
 dsimp only
 split
 ·rename_i y q
  rw [q] at e
  exact congrArg some e
 ·rename_i q
  rw [q] at e
  have a:es.toList.any (·.refKey)=false:=by
   rw [List.any_eq_false]
   intro y hy
   obtain ⟨z,t,hkey⟩:=hk y (Array.mem_toList_iff.mp hy)
   simp [DictEntry.refKey,hkey]
  have a':¬es.toList.any (·.refKey)=true:=by rw [a];exact Bool.false_ne_true
  rw [if_neg a']
  exact congrArg some e
theorem ObjM.look {h:Heap}{x dx C:Addr}{mA:Str->Option Value} (I:ObjM h x dx C mA):∃ od,PySem.W.InstAt h x (PySem.W.instObj C dx) C (some od)/\∀ name,PySem.W.lookIn name od=some (mA name) :=
 let ⟨od,ho,hl⟩:=zh6 I.ns
 ⟨od,⟨I.obj,rfl,rfl,ho⟩,hl⟩
section
variable {P:Program}{w:World}{H H':Hp}{h h':Heap}{a C dx:Addr}{fs fs':List (Str×V)}
theorem zlA (hok:HOk P w H h) (e:H a=some (.ins C dx fs)):∃ mA,ObjM h a dx C mA/\(∀ f,RelO (fs.lookup f) (mA f))/\PySem.Within mA (fs.map (·.1))/\fs.length<=1000/\H dx=some (.own a):=by
 obtain ⟨d,z,ne,ob,mA,n,r,q⟩:=(show zba P w H h a (.ins C dx fs) from hok a _ e)
 exact ⟨mA,⟨ob,n,ne⟩,r,q,z,d⟩
end
structure Cls (K:PySem.W.Frag) (C:Addr):Prop where
 pg:PySem.W.plainGet K C Str.empty=true
 hd:PySem.W.hasDictIn K C=true
 po:PySem.W.plainOver K C=true
 sa:PySem.W.findIn K (.ref C) "__setattr__" = some (some (.builtin "object.__setattr__"))
theorem Cls.get {K:PySem.W.Frag}{C:Addr} (c:Cls K C) (f:Str):PySem.W.plainGet K C f=true:=c.pg
section
variable {X:Cx}{pins:List (Addr×Obj)}{σ:St}{H:Hp}{s:Shared}{A:Around}{E:Value->Shared->Prop}{Q:Value->Shared->Prop}{c:Value}{b:Bool}
inductive TyOf (K:PySem.W.Frag) (H:Hp):V->Value->Prop where
 | non:TyOf K H .non (.type "NoneType")
 | bl (x:Bool):TyOf K H (.bl x) (.type "bool")
 | int (i:Int):TyOf K H (.int i) (.type "int")
 | str (x:Str):TyOf K H (.str x) (.type "str")
 | flt (x:UInt64):TyOf K H (.flt x) (.type "float")
 | lst {a:Addr} {xs:List V} (e:H a=some (.lst xs)):TyOf K H (.ref a) (.type "list")
 | frz {a:Addr} {o:Obj} {xs:List V} (e:H a=some (.frz o (.lst xs))):TyOf K H (.ref a) (.type "list")
 | tup {a:Addr} {xs:List V} (e:H a=some (.tup xs)):TyOf K H (.ref a) (.type "tuple")
 | dK {a:Addr} {kvs:List (Key×V)} (e:H a=some (.dK kvs)):TyOf K H (.ref a) (.type "dict")
 | dT {a:Addr} {kvs:List (List Key×V)} (e:H a=some (.dT kvs)):TyOf K H (.ref a) (.type "dict")
 | ins {a C dx:Addr} {fs:List (Str×V)} (e:H a=some (.ins C dx fs)) (cl:Cls K C) (ha:PySem.W.findIn K (.ref C) "__class__" = some (some (.builtin "object.__class__")))
   (hn:PySem.W.specialIn K (.builtin "object.__class__") "__get__" = some (some (.builtin "getset_descriptor.__get__"))) (htk:PySem.W.takesIn K (.builtin "object.__class__")=some true)
   (hm:PySem.W.mroIn K C (.type "object")=some true):TyOf K H (.ref a) (.ref C)
theorem ziq {x:V}{u t:Value} (I:Inv X pins σ H s) (rx:RelV x u) (ty:TyOf X.K H x t) (e:PySem.W.kitOne X.K t c=some b) (h:∀ tk,Q (.bool b) { s with toks:=tk }) :
  wpAny (model X.prog X.w) A (call (.builtin "isinstance") [u,c]) Q E s:=by
 cases ty with
 | non=>cases (show u=Value.none from rx);exact PySem.W.kia_one PySem.W.kitx_none I.kIn True.intro e (fun z=>nomatch z) h
 | bl y=>cases (show u=Value.bool y from rx);exact PySem.W.kia_one PySem.W.kitx_bool I.kIn True.intro e (fun z=>nomatch z) h
 | int i=>obtain ⟨t,q⟩:=(show ∃ t,u=Value.int i t from rx);cases q;exact PySem.W.kia_one PySem.W.kitx_int I.kIn True.intro e (fun z=>nomatch z) h
 | str y=>obtain ⟨t,q⟩:=(show ∃ t,u=Value.str y t from rx);cases q;exact PySem.W.kia_one PySem.W.kitx_str I.kIn True.intro e (fun z=>nomatch z) h
 | flt y=>obtain ⟨t,q⟩:=(show ∃ t,u=Value.float y t from rx);cases q;exact PySem.W.kia_one PySem.W.kitx_float I.kIn True.intro e (fun z=>nomatch z) h
 | @lst a xs ea =>
  cases (show u=Value.ref a from rx)
  obtain ⟨_,_,n,_,h1⟩:=(show zba X.prog X.w H s.heap a (.lst xs) from I.hok a _ ea)
  exact PySem.W.kia_one PySem.W.kitx_list I.kIn ⟨_,h1,rfl⟩ e (fun z=>nomatch z) h
 | @frz a ob xs ea =>
  cases (show u=Value.ref a from rx)
  obtain ⟨_,_,_,n,_,h1⟩:=(show zba X.prog X.w H s.heap a (.frz ob (.lst xs)) from I.hok a _ ea)
  exact PySem.W.kia_one PySem.W.kitx_list I.kIn ⟨_,h1,rfl⟩ e (fun z=>nomatch z) h
 | @tup a xs ea =>
  cases (show u=Value.ref a from rx)
  obtain ⟨_,_,_,p⟩:=(show zba X.prog X.w H s.heap a (.tup xs) from I.hok a _ ea)
  obtain ⟨o,h1,h2,_⟩:=p
  exact PySem.W.kia_one PySem.W.kitx_tuple I.kIn ⟨o,h1,h2⟩ e (fun z=>nomatch z) h
 | @dK a kvs ea =>
  cases (show u=Value.ref a from rx)
  obtain ⟨_,_,vs,_,p⟩:=(show zba X.prog X.w H s.heap a (.dK kvs) from I.hok a _ ea)
  obtain ⟨o,es,ep,h1,h2,_⟩:=p
  exact PySem.W.kia_one PySem.W.kitx_dict I.kIn ⟨o,h1,h2.1⟩ e (fun z=>nomatch z) h
 | @dT a kvs ea =>
  cases (show u=Value.ref a from rx)
  obtain ⟨_,_,xs,_,o,es,ep,h1,h2,_⟩:=(show zba X.prog X.w H s.heap a (.dT kvs) from I.hok a _ ea)
  exact PySem.W.kia_one PySem.W.kitx_dict I.kIn ⟨o,h1,h2.1⟩ e (fun z=>nomatch z) h
 | @ins a C dx fs ea cl ha hn htk hm =>
  cases (show u=Value.ref a from rx)
  obtain ⟨mA,O,_⟩:=zlA I.hok ea
  obtain ⟨od,J,_⟩:=O.look
  exact PySem.W.kia_one (PySem.W.kitx_own (cl.get _) cl.hd ha hn htk hm) I.kIn J e (fun z=>nomatch z) h
end
end L2
namespace L2
open PySem PySem.Spec PyProof.Rows
structure Room (k:Nat) (A:Around):Prop where
 hd:A.handled=none
 dp:A.depth+3*k+5<recursionLimit
 un:A.units+16*k+200<cLine
 gd:A.guards=some []
theorem Room.mono {j k:Nat}{A:Around} (r:Room k A) (h:j<=k):Room j A:=⟨r.hd,by have:=r.dp;lia,by have:=r.un;lia,r.gd⟩
theorem Room.deeper {k:Nat}{A:Around} (r:Room (k+1) A) (env:Env):Room k (A.deeper env) :=
 ⟨r.hd,by have:=r.dp;show A.depth+1+3*k+5<_;lia,by have:=r.un;show A.units+3+16*k+200<_;lia,r.gd⟩
theorem Room.depth {k:Nat}{A:Around} (r:Room k A):A.depth<recursionLimit:=by have:=r.dp;lia
theorem Room.units0 {k:Nat}{A:Around} (r:Room k A):A.units<cLine:=by have:=r.un;lia
def tNil:TA:=fun _ H Q=>Q [] H
def zc8 (ta:TE) (tr:TA):TA:=fun σ H Q=>ta σ H fun x H1=>tr σ H1 fun xs H2=>Q (x::xs) H2
section
variable {X:Cx}{e:Expr}{es:List Expr}{te:TE}{t:TA}{pos:Pos}
theorem zeU:PA X [] tNil:=fun _ _ _ _ H Q I h=>Calls.spliced_nil ⟨[],H,I,.nil,h⟩
theorem zcF (ha:PE X e te) (hr:PA X es t) (hs:starEach (e::es) X.env=(false,eval e X.env)::starEach es X.env:=by rfl):PA X (e::es) (zc8 te t):=by
 intro pos pins s σ H Q I h
 rw [hs]
 show wpAny _ _ (spliced ((false,eval e X.env)::backTo pos (starEach es X.env))) _ _ s
 refine Calls.spliced_cons (thn (ha pins s σ H _ I h) fun u s1 ⟨x,H1,I1,r1,q1⟩=>?_)
 exact thn (hr pos pins s1 σ H1 _ I1 q1) fun us s2 ⟨xs,H2,I2,r2,q2⟩=>⟨x::xs,H2,I2,.cons r1 r2,q2⟩
def tTup (t:TA):TE:=fun σ H Q=>t σ H fun xs H1=>xs.length<=sizeLine/\∀ p,H1 p=none->Q (.ref p) (upd H1 p (.tup xs))
def tLst (t:TA):TE:=fun σ H Q=>t σ H fun xs H1=>xs.length<=sizeLine/\∀ p,H1 p=none->Q (.ref p) (upd H1 p (.lst xs))
theorem zmZ {x1} (h:PA X es t):PE X (.Tuple es x1 pos) (tTup t):=by
 intro pins s σ H Q I hq
 refine wpAny_Tuple_spliced (thn (h pos pins s σ H _ I hq) fun us s1 ⟨xs,H1,I1,r,z,q⟩=>⟨by rw [<- r.length];exact z,?_⟩)
 have hf:H1 s1.heap.objs.size=none:=I1.hok.fresh (Nat.le_refl _)
 refine ⟨.ref s1.heap.objs.size,upd H1 s1.heap.objs.size (.tup xs),I1.laid (t':=s1.toks) (fun b u e=>Heap.get?_push_of_some _ e) (Nat.le_refl _) ?_,rfl,q _ hf⟩
 exact ⟨z,us,r,⟨_,Heap.get?_push_size _ rfl,rfl,⟨_,rfl⟩,rfl⟩⟩
theorem zm5 (h:PA X es t):PE X (.List es pos) (tLst t):=by
 intro pins s σ H Q I hq
 refine wpAny_List_spliced (thn (h pos pins s σ H _ I hq) fun us s1 ⟨xs,H1,I1,r,z,q⟩=>⟨by rw [<- r.length];exact z,?_⟩)
 have hf:H1 s1.heap.objs.size=none:=I1.hok.fresh (Nat.le_refl _)
 refine ⟨.ref s1.heap.objs.size,upd H1 s1.heap.objs.size (.lst xs),I1.laid (t':=s1.toks) (fun b u e=>Heap.get?_push_of_some _ e) (Nat.le_refl _) ?_,rfl,q _ hf⟩
 exact ⟨z,us,0,r,Heap.get?_push_size _ rfl⟩
end
abbrev Sp:=List V->Hp->VK->XK->Prop
abbrev CXT:=List Env->Hp->Shared->XK->Value->Shared->Prop
structure Env0 (P:Program) (w:World) (K:PySem.W.Frag) (mg:Str->Option Value) (base:Heap) (A:Around) (outer:List Env) (s:Shared) (H:Hp):Prop where
 frames:A.frames=some outer
 mod:Mod K mg base
 bs:∀ b o,base.get? b=some o->s.heap.get? b=some o/\H b=none
 bsz:base.objs.size<=s.heap.objs.size
 funs:s.heap.FunFrames base outer
 frf:∀ b∈frs outer,H b=none
 hok:HOk P w H s.heap
 bare:AllBare s.gens
def CE (outer:List Env) (P:Program) (w:World) (H:Hp) (s:Shared) (Q:VK) (u:Value) (s':Shared):Prop :=
 ∃ v H',s'.os=s.os/\AllBare s'.gens/\Un (frs outer) [] H H' s.heap s'.heap/\HOk P w H' s'.heap/\RelV v u/\Q v H'
def CR (CX:CXT) (outer:List Env) (P:Program) (w:World) (H:Hp) (s:Shared) (Q:VK) (E:XK) (r:Result) (s':Shared):Prop :=
 match r with
 | .ok (.ret u)=>CE outer P w H s Q u s'
 | .ok _=>False
 | .error e=>CX outer H s E e s'
structure FnOk (P:Program) (w:World) (K:PySem.W.Frag) (mg:Str->Option Value) (base:Heap) (CX:CXT) (k:Nat) (f:Addr) (fd:FuncData) (ps:List Str) (sp:Sp):Prop where
 len:∀ vs H Q E,sp vs H Q E->vs.length=ps.length
 run:∀ (A:Around) (outer:List Env) (s:Shared) (H:Hp) (args:Args) (us:List Value) (vs:List V) (Q:VK) (E:XK),Room k A->Env0 P w K mg base A outer s H->BindsTo s fd args (ps.zip us)->Vals vs us->sp vs H Q E ->
  codeAny (model P w) A (.call (.ref f) args) (CR CX outer P w H s Q E) s
theorem FnOk.imp {P:Program}{w:World}{K:PySem.W.Frag}{mg:Str->Option Value}{base:Heap}{CX:CXT}{k:Nat}{f:Addr}{fd:FuncData}{ps:List Str}{sp sp':Sp} (F:FnOk P w K mg base CX k f fd ps sp)
  (h:∀ vs H Q E,sp' vs H Q E->sp vs H Q E):FnOk P w K mg base CX k f fd ps sp' :=
 ⟨fun vs H Q E q=>F.len vs H Q E (h _ _ _ _ q),fun A outer s H args us vs Q E hr he hb hv hs=>F.run A outer s H args us vs Q E hr he hb hv (h _ _ _ _ hs)⟩
section
variable {X:Cx}{pins:List (Addr×Obj)}{σ:St}{H:Hp}{s s':Shared}
theorem Inv.env0 (I:Inv X pins σ H s):Env0 X.prog X.w X.K X.mg X.base X.A X.stack s H :=
 ⟨I.ok.frames,I.ok.mod,I.bs,Nat.le_trans I.ok.bsz I.sz,I.stack,I.stkFree,I.hok,I.bare⟩
theorem Inv.after {Q:VK}{u:Value} (I:Inv X pins σ H s) (h:CE X.stack X.prog X.w H s Q u s'):EP X pins σ Q u s':=by
 obtain ⟨v,H',os,bare,un,hok,r,q⟩:=h
 obtain ⟨hh,g,d,t,os'⟩:=s'
 obtain rfl:os'=s.os:=os
 exact ⟨v,H',I.call (h':=hh) (g':=g) (d':=d) (t':=t) (ch:=[]) un hok bare (fun b z=>absurd z (by simp)),r,q⟩
end
def zmt (sp:Sp) (dvs:List V) (E:XK) (t:TA):TE:=fun σ H Q=>t σ H fun vs H1=>sp (vs++dvs) H1 Q E
def Binds (K:PySem.W.Frag) (fd:FuncData) (ps:List Str) (ds:List Value):Prop :=
 ∀ (s:Shared) (us:List Value),K.In s.heap->(us++ds).length=ps.length->BindsTo s fd ⟨us,[]⟩ (ps.zip (us++ds))
theorem Binds.all {K:PySem.W.Frag}{fd:FuncData}{ps:List Str} (h:∀ us:List Value,us.length=ps.length->bindArgs fd ⟨us,[]⟩=pure (ps.zip us)):Binds K fd ps []:=fun s us _ hl=>by
 rw [List.append_nil] at hl ⊢
 exact .of_eq (h us hl)
def ziW (CX:CXT) (X:Cx) (E:XK):Prop:=∀ (pins:List (Addr×Obj)) (σ:St) (H:Hp) (s:Shared) (e:Value) (s':Shared),Inv X pins σ H s->CX X.stack H s E e s'->X.xe e s'
section
variable {X:Cx}{CX:CXT}{k:Nat}{f C:Addr}{fd:FuncData}{ps:List Str}{sp:Sp}{dvs:List V}{ds:List Value}{E:XK}{x m:Str}{p pos apos:Pos}{e o:Expr}{es:List Expr}{ta:TE}{t:TA}
theorem zmK {pins:List (Addr×Obj)}{σ:St}{H:Hp}{s:Shared}{Q:VK}{us:List Value}{vs:List V} (F:FnOk X.prog X.w X.K X.mg X.base CX k f fd ps sp) (hr:Room k X.A) (hb:Binds X.K fd ps ds) (hd:Vals dvs ds) (hx:ziW CX X E)
  (I:Inv X pins σ H s) (r:Vals vs us) (h:sp (vs++dvs) H Q E):wpAny (model X.prog X.w) X.A (call (.ref f) us) (EP X pins σ Q) X.xe s:=by
 have r2:Vals (vs++dvs) (us++ds):=r.append hd
 have hl:(us++ds).length=ps.length:=by rw [<- r2.length];exact F.len _ _ _ _ h
 refine wpAny_call (codeAny_mono (F.run X.A X.stack s H ⟨us,[]⟩ (us++ds) (vs++dvs) Q E hr I.env0 (hb s us I.kIn hl) r2 h) fun r s' hq=>?_)
 cases r with
 | error e=>exact hx pins σ H s e s' I hq
 | ok fl =>
  cases fl with
  | ret u=>exact I.after hq
  | next=>exact False.elim hq
  | brk=>exact False.elim hq
  | cont=>exact False.elim hq
theorem zlf (F:FnOk X.prog X.w X.K X.mg X.base CX k f fd ps sp) (hr:Room k X.A) (hg:Gl X x) (hm:X.mg x=some (.ref f)) (hk:PySem.W.keepIn X.K (.ref f)=true) (hb:Binds X.K fd ps ds) (hd:Vals dvs ds) (hx:ziW CX X E)
  (ha:PA X (e::es) t) (hdb:(x == ("__debug__":Str))=false:=by decide) (he:starEach (e::es) X.env=(false,eval e X.env)::starEach es X.env:=by rfl) (hpl:(backTo pos (starEach es X.env)).any (·.1)=false:=by rfl) :
  PE X (.Call (.Name x p) (e::es) [] pos) (zmt sp dvs E t):=by
 intro pins s σ H Q I h
 refine wpAny_Call_Name_kw (zlv I hg hm ?_ hdb)
 refine PySem.W.callWith_K (h₀:=X.base) I.ok.mod.kin hk (thn (ha pos pins s σ H _ I h) fun us s1 ⟨vs,H1,I1,r,q⟩=>⟨I1.kIn,?_⟩) he hpl
 exact zmK F hr hb hd hx I1 r q
end
structure FnScope (N P:List Str) (sc:Scope):Prop where
 kind:sc.kind=.function
 co:sc.isCoroutine=false
 gen:sc.isGenerator=false
 nd:N.Nodup
 pre:N.take P.length=P
 par:∀ x∈P,sc.names.lookup x=some .local\/sc.names.lookup x=some .cell
 nofree:∀ y∈sc.names,y.2≠.free
theorem zfI {kindOf:Str->Option NameKind}{x:Str}:∀ {binds:List (Str×Value)}{m:Str->Option Value},(∀ v,(x,v)∉binds)->bindL kindOf binds m x=m x
 | [],_,_=>rfl
 | (n,v)::r,m,h=>by
  unfold bindL
  rw [zfI fun w hw=>h w (List.mem_cons_of_mem _ hw)]
  split
  ·have:x≠n:=by rintro rfl;exact h v List.mem_cons_self
   simp [this]
  ·rfl
theorem zfK {kindOf:Str->Option NameKind}{x:Str}:∀ {binds:List (Str×Value)}{m:Str->Option Value},(∀ v,(x,v)∉binds)->bindC kindOf binds m x=m x
 | [],_,_=>rfl
 | (n,v)::r,m,h=>by
  unfold bindC
  rw [zfK fun w hw=>h w (List.mem_cons_of_mem _ hw)]
  split
  ·rfl
  ·have:x≠n:=by rintro rfl;exact h v List.mem_cons_self
   simp [this]
theorem zfJ {kindOf:Str->Option NameKind}{x:Str}{v:Value}:∀ {P:List Str}{vs:List Value}{i:Nat}{m:Str->Option Value},P.Nodup->P[i]?=some x->vs[i]?=some v->kindOf x=some .local ->
  bindL kindOf (P.zip vs) m x=some v
 | [],_,_,_,_,h,_,_=>by simp at h
 | _::_,[],_,_,_,_,h,_=>by simp at h
 | p::P,w::vs,0,m,nd,h1,h2,hk=>by
  simp at h1 h2;subst h1;subst h2
  show bindL kindOf ((p,w)::P.zip vs) m p=_
  unfold bindL
  rw [zfI fun v hv=>(List.nodup_cons.mp nd).1 (List.of_mem_zip hv).1,if_pos hk]
  simp
 | p::P,w::vs,i+1,m,nd,h1,h2,hk=>by
  show bindL kindOf ((p,w)::P.zip vs) m x=_
  unfold bindL
  exact zfJ (i:=i) (List.nodup_cons.mp nd).2 (by simpa using h1) (by simpa using h2) hk
theorem zfL {kindOf:Str->Option NameKind}{x:Str}{v:Value}:∀ {P:List Str}{vs:List Value}{i:Nat}{m:Str->Option Value},P.Nodup->P[i]?=some x->vs[i]?=some v->kindOf x≠some .local ->
  bindC kindOf (P.zip vs) m x=some v
 | [],_,_,_,_,h,_,_=>by simp at h
 | _::_,[],_,_,_,_,h,_=>by simp at h
 | p::P,w::vs,0,m,nd,h1,h2,hk=>by
  simp at h1 h2;subst h1;subst h2
  show bindC kindOf ((p,w)::P.zip vs) m p=_
  unfold bindC
  rw [zfK fun v hv=>(List.nodup_cons.mp nd).1 (List.of_mem_zip hv).1,if_neg hk]
  simp
 | p::P,w::vs,i+1,m,nd,h1,h2,hk=>by
  show bindC kindOf ((p,w)::P.zip vs) m x=_
  unfold bindC
  exact zfL (i:=i) (List.nodup_cons.mp nd).2 (by simpa using h1) (by simpa using h2) hk
def start (N:List Str) (vs:List V):St:=vs.map some++List.replicate (N.length - vs.length) none
def cxOf (CX:CXT) (P:Program) (w:World) (K:PySem.W.Frag) (mg:Str->Option Value) (base:Heap) (N:List Str) (qual:Str) (scope:Scope) (f:Addr) (cd:Value) (A:Around) (outer:List Env) (s:Shared) (H:Hp) (E:XK):Cx where
 prog:=P
 w:=w
 K:=K
 mg:=mg
 base:=base
 A:=A.deeper (envOfC qual scope s.heap.objs.size f cd)
 N:=N
 s₀:=s
 H₀:=H
 env:=envOfC qual scope s.heap.objs.size f cd
 outer:=outer
 stack:=envOfC qual scope s.heap.objs.size f cd::outer
 ex:=[]
 calm:=true
 fn:=fun _=>true
 pn:=[]
 xe:=fun e s'=>wpAny (model P w) (A.deeper (envOfC qual scope s.heap.objs.size f cd)) (leaving (envOfC qual scope s.heap.objs.size f cd) e) (fun _ s''=>CX outer H s E e s'') (fun e' s''=>CX outer H s E e' s'') s'
theorem zgZ {sc:Scope}{n:Nat}{x:Str} (h:sc.names.lookup x=some .cell):∃ c,(cellsFrom n sc.names []).lookup x=some c:=by
 have q:=PySem.W.cellsFrom_some sc.names n [] (.inl h)
 exact Option.isSome_iff_exists.mp q
theorem zir {CX:CXT}{P:Program}{w:World}{K:PySem.W.Frag}{mg:Str->Option Value}{base:Heap}{N ps:List Str}{qual:Str}{scope:Scope}{f:Addr}{cd:Value}{A:Around}{outer:List Env}{s s1:Shared}{H:Hp}{E:XK}{us:List Value}{vs:List V}
  (S:FnScope N ps scope) (hd:A.handled=none) (e0:Env0 P w K mg base A outer s H) (hl:vs.length=ps.length) (r:Vals vs us)
  (x:InCallC s s.heap.objs.size (bindL (envOfC qual scope s.heap.objs.size f cd).kindOf (ps.zip us) fun _=>none) (cellsFrom (s.heap.objs.size+1) scope.names []) (bindC (envOfC qual scope s.heap.objs.size f cd).kindOf (ps.zip us) fun _=>none) s1) :
  Inv (cxOf CX P w K mg base N qual scope f cd A outer s H E) [] (start N vs) H s1:=by
 have hpl:ps.length<=N.length:=by have:=congrArg List.length S.pre;rw [List.length_take] at this;lia
 obtain ⟨h1,tk,rfl,hk⟩:=x.done
 have noA:∀ b:Addr,b∉(cxOf CX P w K mg base N qual scope f cd A outer s H E).ex:=fun b z=>absurd (show b∈([]:List Addr) from z) (by simp)
 refine ⟨⟨e0.mod,S.kind,rfl,rfl,Nat.le_refl _,fun y z c h1 h2=>?_,fun y hy=>?_,fun y c _ h=>?_,fun _=>hd,Around.frames_deeper e0.frames,.inr ⟨rfl,rfl⟩,fun b z=>absurd z (noA b),e0.bs,e0.bsz,fun b _ _=>noA b,fun b z=>absurd z (noA b),e0.funs,e0.frf⟩,
  rfl,e0.bare,Un.kept hk,⟨_,x.toInCall.ns,fun i y v h1 h2 h3=>?_⟩,fun y c h=>⟨_,x.cell y c h⟩,e0.hok.fresh (Nat.le_refl _),fun y c h=>?_,fun p hp=>absurd (show p∈([]:List (Addr×Obj)) from hp) (by simp),e0.hok.kept hk,?_⟩
 ·exact name_of_addr x.apart (PySem.mem_of_lookup h1) (PySem.mem_of_lookup h2)
 ·have hy:scope.names.lookup y=some .cell\/scope.names.lookup y=some .free:=hy
  rcases hy with hy | hy
  ·exact zgZ hy
  ·exact absurd rfl (S.nofree _ (PySem.mem_of_lookup hy))
 ·exact Nat.le_of_lt (x.above y c (PySem.mem_of_lookup h))
 ·have hi:i<vs.length:=by
   unfold start at h2
   by_cases hi:i<vs.length
   ·exact hi
   ·rw [List.getElem?_append_right (by simpa using hi)] at h2
    rw [List.getElem?_replicate] at h2
    split at h2 <;> cases h2
  have ha:vs[i]?=some v:=by
   unfold start at h2
   rw [List.getElem?_append_left (by simpa using hi),List.getElem?_map] at h2
   cases e:vs[i]? with
   | none=>rw [e] at h2;cases h2
   | some a=>rw [e] at h2;cases h2;rfl
  obtain ⟨u,hu,rv⟩:=r.get ha
  have hp:ps[i]?=some y:=by
   rw [<- S.pre,List.getElem?_take_of_lt (by lia)];exact h1
  have ndP:ps.Nodup:=by rw [<- S.pre];exact S.nd.sublist (List.take_sublist _ _)
  refine ⟨u,rv,?_⟩
  rcases S.par y (List.mem_of_getElem? hp) with k | k
  ·exact .inl ⟨k,zfJ ndP hp hu k⟩
  ·obtain ⟨c,e⟩:=zgZ (n:=s.heap.objs.size+1) k
   refine .inr ⟨.inl k,c,e,?_⟩
   have q:=x.cell y c e
   rw [zfL ndP hp hu (by show scope.names.lookup y≠_;rw [k];decide)] at q
   exact q
 ·exact e0.hok.fresh (Nat.le_of_lt (x.above y c (PySem.mem_of_lookup h)))
 ·unfold start
  show _=N.length
  rw [List.length_append,List.length_map,List.length_replicate]
  lia
theorem zp4 {CX:CXT}{P:Program}{w:World}{K:PySem.W.Frag}{mg:Str->Option Value}{base:Heap}{k:Nat}{f:Addr}{name qual:Str}{params:Arguments}{body:List Stmt}{scope:Scope}{dV kV doc pm cdv ct oc:Value}{an od:Option Addr}
  {osl:Array (Option Value)} {N ps:List Str} {sp:Sp} (lk:K.lookup f=some ⟨oc,od,.func (PySem.W.fnOf name qual params body scope dV kV doc pm an cdv ct),osl⟩) (hcd:PySem.W.codeIn K cdv qual=true) (S:FnScope N ps scope)
  (len:∀ vs H Q E,sp vs H Q E->vs.length=ps.length)
  (hbody:∀ (A:Around) (outer:List Env) (s:Shared) (H:Hp) (vs:List V) (Q:VK) (E:XK),Room k (A.deeper (envOfC qual scope s.heap.objs.size f cdv))->sp vs H Q E ->
   ∃ t,PSs (cxOf CX P w K mg base N qual scope f cdv A outer s H E) body t/\t { nx:=fun _ H'=>Q .non H',rt:=Q } (start N vs) H) :
  FnOk P w K mg base CX (k+1) f (PySem.W.fnOf name qual params body scope dV kV doc pm an cdv ct) ps sp:=by
 refine ⟨len,fun A outer s H args us vs Q E hr e0 hb r hsp=>?_⟩
 have hl:=len _ _ _ _ hsp
 have KX:K.In s.heap:=e0.mod.kin.keeps fun b o e=>(e0.bs b o e).1
 have lim:s.heap.NoLimit:=e0.mod.nolimit.keeps fun b o e=>(e0.bs b o e).1
 have hkind:∀ y∈ps.zip us,scope.names.lookup y.1=some .local\/(scope.names.lookup y.1=some .cell/\((cellsFrom (s.heap.objs.size+1) scope.names []).lookup y.1).isSome=true):=fun ⟨n,v⟩ hy=>by
  rcases S.par n (List.of_mem_zip hy).1 with q | q
  ·exact .inl q
  ·exact .inr ⟨q,PySem.W.cellsFrom_some _ _ _ (.inl q)⟩
 refine codeAny_call_function hr.depth (KX _ _ lk) rfl S.co S.gen rfl (PySem.W.codeRec_of KX hcd) (hb _ _ _ _ ?_)
 refine wpAny_newFunctionEnv_cells S.kind hkind fun env he s1 x=>?_
 subst he
 refine ⟨lim.keeps x.toInCall.keep,codeAny_func ?_⟩
 obtain ⟨t,ht,hq⟩:=hbody A outer s H vs Q E (hr.deeper _) hsp
 have I:Inv (cxOf CX P w K mg base N qual scope f cdv A outer s H E) [] (start N vs) H s1:=zir S hr.hd e0 hl r x
 refine wpAny_mono (ht [] s1 (start N vs) H _ I hq) (fun fl s' hs=>?_) fun e s' hs=>hs
 have fin:∀ {σ':St} {H':Hp} {v:V} {u:Value},Inv (cxOf CX P w K mg base N qual scope f cdv A outer s H E) [] σ' H' s'->RelV v u->Q v H'->CE outer P w H s Q u s' :=
  fun {σ' H' v u} J rv q=>⟨v,H',J.os,J.bare,J.base,J.hok,rv,q⟩
 cases fl with
 | ret u =>
  obtain ⟨v,σ',H',J,rv,q⟩:=hs
  exact fin J rv q
 | next =>
  obtain ⟨σ',H',J,q⟩:=hs
  exact fin (v:=V.non) (u:=Value.none) J rfl q
 | brk =>
  obtain ⟨_,_,_,q⟩:=hs
  exact False.elim q
 | cont =>
  obtain ⟨_,_,_,q⟩:=hs
  exact False.elim q
end L2
namespace L2
open PySem PySem.Spec PyProof.Rows
section
variable {X:Cx}{x:Str}{p pos:Pos}{e:Expr}{es:List Expr}{t:TA}{id T:String}{r:List V->Hp->VK->Prop}
def tCB (r:List V->Hp->VK->Prop) (t:TA):TE:=fun σ H Q=>t σ H fun vs H1=>r vs H1 Q
theorem zjG (hc:zbG X (.builtin id) r) (hg:Gl X x) (hm:X.mg x=none) (hv:bootBuiltins x=some (.builtin id)) (ha:PA X (e::es) t) (hn:x ≠ "__name__":=by decide) (hdb:(x == ("__debug__":Str))=false:=by decide)
  (he:starEach (e::es) X.env=(false,eval e X.env)::starEach es X.env:=by rfl) (hpl:(backTo pos (starEach es X.env)).any (·.1)=false:=by rfl):PE X (.Call (.Name x p) (e::es) [] pos) (tCB r t):=by
 intro pins s σ H Q I h
 refine wpAny_Call_Name_kw (ze4 I hg hm hv ?_ hn hdb)
 exact PyProof.Rows.callWith_builtin1 (thn (ha pos pins s σ H _ I h) fun us s1 ⟨vs,H1,I1,r1,q1⟩=>hc pins s1 σ H1 vs us Q I1 r1 q1) he hpl
theorem zeS (hc:zbG X (.type T) r) (hg:Gl X x) (hm:X.mg x=none) (hv:bootBuiltins x=some (.type T)) (ha:PA X (e::es) t) (hn:x ≠ "__name__":=by decide) (hdb:(x == ("__debug__":Str))=false:=by decide)
  (he:starEach (e::es) X.env=(false,eval e X.env)::starEach es X.env:=by rfl) (hpl:(backTo pos (starEach es X.env)).any (·.1)=false:=by rfl):PE X (.Call (.Name x p) (e::es) [] pos) (tCB r t):=by
 intro pins s σ H Q I h
 refine wpAny_Call_Name_kw (ze4 I hg hm hv ?_ hn hdb)
 exact PyProof.Rows.callWith_type1 (thn (ha pos pins s σ H _ I h) fun us s1 ⟨vs,H1,I1,r1,q1⟩=>hc pins s1 σ H1 vs us Q I1 r1 q1) he hpl
end
end L2
namespace HT
open PySem PyProof.Rows
def lexLt:List Int->List Int->Bool
 | [],[]=>false
 | [],_::_=>true
 | _::_,[]=>false
 | x::xs,y::ys=>if x=y then lexLt xs ys else decide (x<y)
theorem zhh (x y:Int) (xs ys:List Int):lexLt (x::xs) (y::ys)=if x=y then lexLt xs ys else decide (x<y):=rfl
theorem zej:lexLt [] []=false:=rfl
theorem zdH (y:Int) (ys:List Int):lexLt [] (y::ys)=true:=rfl
theorem zdI (x:Int) (xs:List Int):lexLt (x::xs) []=false:=rfl
theorem zj2 (A:Around) (s:Shared) (a:Int) (t:Tok) (c:Int) (u:Tok):∃ e,SeqAt.EqAt A s (.int a t) (.int c u) e/\(e=true↔a=c) :=
 ⟨(a == c),SeqAt.EqAt.int_int a t c u,by simp⟩
theorem zjo (A:Around) (s:Shared) (a:Int) (t:Tok) (c:Int) (u:Tok) (prog:Program) (w:World) (E:Value->Shared->Prop) (Q:Value->Shared->Prop) (h:Q (.bool (decide (a<c))) s) :
  wpAny (model prog w) A (richCompare .Lt (.int a t) (.int c u)) Q E s :=
 (PyProof.Rows.lt_int h:wpAny (model prog w) A (compareOp .Lt (.int a t) (.int c u)) Q E s)
section
open PySem.SeqAt
open PySem.AutoSeq1 (wpAny_loadPart')
open PySem.MeetsSeq PySem.MeetsSeq2 PySem.MeetsSeq3
theorem zd5 (l b:Addr) (items items2:Array Value) (n n2:Nat) (dd dd2:Option Addr) (sl sl2:Array (Option Value)) (ns ms:List Int) (hi:IntsAre items.toList ns) (hj:IntsAre items2.toList ms) :
  Meets (Builtin.«tuple.__lt__» ⟨[.ref l,.ref b],[]⟩)
   (fun _ R s=>s.heap.get? l=some { cls:=.type "tuple",dict:=dd,data:=.seq items n,slots:=sl }/\s.heap.get? b=some { cls:=.type "tuple",dict:=dd2,data:=.seq items2 n2,slots:=sl2 } /\
    R (.ok (.ret (.bool (lexLt ns ms)))) s) :=
 .of_wp fun prog w A R s h=>by
  obtain ⟨hp,g,d,tk,os⟩:=s;obtain ⟨hl,hb,h⟩:=h
  have f2:=AutoSeq1.sub_tuple_tuple
  have z1:items.size=ns.length:=by rw [<- hi.length];simp
  have z2:items2.size=ms.length:=by rw [<- hj.length];simp
  wp_walk using wpAny_loadPart' hl,wpAny_loadPart' hb,wpAny_forIn_list _ (fun rest b s'=>b.1=none/\s'=⟨hp,g,d,tk,os⟩/\∃ (vs ws:List Value) (ns' ms':List Int),rest=vs.zip ws /\
   IntsAre vs ns'/\IntsAre ws ms'/\ns'.length+items2.size=ms'.length+items.size/\R (.ok (.ret (.bool (lexLt ns' ms')))) ⟨hp,g,d,tk,os⟩) _
  case turn =>
   rintro ⟨y,x⟩ rest b s' ⟨hb',rfl,vs,ws,ns',ms',hz,hvi,hwi,hlen,hR⟩
   cases hvi with
   | nil=>rw [List.zip_nil_left] at hz;cases hz
   | cons a t hvi' =>
    cases hwi with
    | nil=>rw [List.zip_nil_right] at hz;cases hz
    | cons c u hwi' =>
     rw [List.zip_cons_cons] at hz
     injection hz with hyx hrest
     injection hyx with hy hx
     subst hy hx
     rw [zhh] at hR
     simp only [List.length_cons] at hlen
     obtain ⟨e,he,hiff⟩:=zj2 A.in1 ⟨hp,g,d,tk,os⟩ a t c u
     refine wpAny_bind (he prog w _ _ ?_)
     cases e with
     | true =>
      rw [if_pos (hiff.mp rfl)] at hR
      wp_walk
      exact ⟨rfl,rfl,_,_,_,_,hrest,hvi',hwi',by lia,hR⟩
     | false =>
      rw [if_neg (fun q=>absurd (hiff.mpr q) Bool.false_ne_true)] at hR
      have hri:=zjo A.in1 ⟨hp,g,d,tk,os⟩ a t c u prog w
      wp_walk using hri
      exact ⟨_,rfl,by simpa using hR⟩
  case fin =>
   rintro ⟨b1,b2⟩ s' ⟨hb',rfl,vs,ws,ns',ms',hz,hvi,hwi,hlen,hR⟩
   simp only at hb'
   subst hb'
   have hv:lexLt ns' ms'=decide (items.size<items2.size):=by
    cases hvi with
    | nil =>
     cases hwi with
     | nil =>
      simp only [List.length_nil] at hlen
      rw [zej]
      exact (decide_eq_false (by lia)).symm
     | cons c u hw =>
      simp only [List.length_nil,List.length_cons] at hlen
      rw [zdH]
      exact (decide_eq_true (by lia)).symm
    | cons a t hv =>
     cases hwi with
     | nil =>
      simp only [List.length_nil,List.length_cons] at hlen
      rw [zdI]
      exact (decide_eq_false (by lia)).symm
     | cons c u hw =>
      rw [List.zip_cons_cons] at hz
      cases hz
   rw [hv] at hR
   wp_walk
   exact ⟨_,rfl,by simpa [Builtin.Tuple.tupleCompareSizes] using hR⟩
  case h =>
   exact ⟨rfl,rfl,items.toList,items2.toList,ns,ms,rfl,hi,hj,by lia,h⟩
end
section
variable {prog:Program}{w:World}{A:Around}{E:Value->Shared->Prop}{s:Shared}
theorem zdT {l b:Addr}{items items2:Array Value}{ns ms:List Int}{Q:Value->Shared->Prop} (hl:IsTup s.heap l items) (hb:IsTup s.heap b items2) (hi:IntsAre items.toList ns) (hj:IntsAre items2.toList ms)
  (hu:A.units<cLine) (h:Q (.bool (lexLt ns ms)) s):wpAny (model prog w) A (compareOp .Lt (.ref l) (.ref b)) Q E s:=by
 obtain ⟨⟨cls,dd,data,sl⟩,ho,hc,n,hd⟩:=id hl
 obtain ⟨⟨cls2,dd2,data2,sl2⟩,ho2,hc2,n2,hd2⟩:=id hb
 simp only at hc hd hc2 hd2
 subst hc hd hc2 hd2
 exact richCompare_meets_room (op:=.Lt) ⟨_,ho,rfl⟩ ⟨_,ho2,rfl⟩ PySem.F.slot_tuple_lt PySem.F.entry_tuple_lt (PySem.F.args_tuple_lt_2 _ _) (zd5 l b items items2 n n2 dd dd2 sl sl2 ns ms hi hj)
  ⟨ho,ho2,show Value.bool (lexLt ns ms)≠Value.notImplemented/\Q (.bool (lexLt ns ms)) s from ⟨(fun x=>nomatch x),h⟩⟩ hu
theorem zl3 {t b:Addr}{vs ws:List Value}{Q:Value->Shared->Prop} (ht:IsTup s.heap t vs.toArray) (hb:IsTup s.heap b ws.toArray) (hv:vs≠[])
  (h1:ws=[]->Q (.ref t) s) (h2:ws≠[]->Q (.ref s.heap.objs.size) { s with heap:=s.heap.push { cls:=.type "tuple",data:=.seq (vs++ws).toArray } })
  (hsz:vs.length+ws.length<=sizeLine):wpAny (model prog w) A (binaryOp .Add (.ref t) (.ref b)) Q E s:=by
 obtain ⟨⟨cls,dd,data,sl⟩,ho,hc,n,hd⟩:=id ht
 obtain ⟨⟨cls2,dd2,data2,sl2⟩,ho2,hc2,n2,hd2⟩:=id hb
 simp only at hc hd hc2 hd2
 subst hc hd hc2 hd2
 have e:vs.toArray++ws.toArray=(vs++ws).toArray:=by simp
 by_cases hw:ws=[]
 ·exact concat_meets ⟨_,ho,rfl⟩ ⟨_,ho2,rfl⟩ noFill_tuple_add seq_tuple_add PySem.F.slot_tuple_add PySem.F.entry_tuple_add (PySem.F.args_tuple_add_2 _ _)
   (tuple_addW1 t b vs.toArray ws.toArray n n2 dd dd2 sl sl2 (by simpa using hv) (by simp [hw])) ⟨ho,ho2,h1 hw⟩
 ·refine concat_meets ⟨_,ho,rfl⟩ ⟨_,ho2,rfl⟩ noFill_tuple_add seq_tuple_add PySem.F.slot_tuple_add PySem.F.entry_tuple_add (PySem.F.args_tuple_add_2 _ _)
   (tuple_addW2 t b vs.toArray ws.toArray n n2 dd dd2 sl sl2 (by simpa using hv) (by simpa using hw) (by rw [List.size_toArray,List.size_toArray];exact hsz)) ⟨ho,ho2,?_⟩
  rw [e]
  exact h2 hw
def sIx (n d:Nat):Option Int->Nat
 | none=>d
 | some v=>if v<0 then (v+(n:Int)).toNat else min v.toNat n
theorem zjk (n d:Nat):sIx n d none=d:=rfl
theorem zkW (n d k:Nat):sIx n d (some (k:Int))=min k n:=by
 show (if (k:Int)<0 then ((k:Int)+(n:Int)).toNat else min (k:Int).toNat n)=min k n
 rw [if_neg (by lia),Int.toNat_natCast]
theorem zmJ (n d:Nat) (hd:d<=n) (o:Option Int):sIx n d o<=n:=by
 cases o with
 | none=>exact hd
 | some v =>
  show (if v<0 then (v+(n:Int)).toNat else min v.toNat n)<=n
  by_cases hv:v<0
  ·rw [if_pos hv];lia
  ·rw [if_neg hv];exact Nat.min_le_right _ _
theorem ziP (v:Int) (n d:Nat):(if v<0 then max (v+(n:Int)) 0 else min v (n:Int))=((sIx n d (some v):Nat):Int):=by
 show (if v<0 then max (v+(n:Int)) 0 else min v (n:Int))=(((if v<0 then (v+(n:Int)).toNat else min v.toNat n):Nat):Int)
 by_cases hv:v<0
 ·simp only [if_pos hv];lia
 ·simp only [if_neg hv];lia
theorem zhq (lo hi:Option Int) (n:Nat):Builtin.Slice.sliceAdjust lo hi 1 (n:Int)=(((sIx n 0 lo:Nat):Int),((sIx n n hi:Nat):Int)):=by
 have h1:¬((1:Int)<0):=by lia
 unfold Builtin.Slice.sliceAdjust
 simp only [h1,if_false]
 refine Prod.ext ?_ ?_
 ·cases lo with
  | none=>rfl
  | some v=>exact ziP v n 0
 ·cases hi with
  | none=>rfl
  | some v=>exact ziP v n n
theorem zg8 (i j:Nat):Builtin.Slice.slicePlaces (i:Int) (j:Int) 1=j - i:=by
 unfold Builtin.Slice.slicePlaces
 have h1:(1:Int) > 0:=by lia
 simp only [h1,if_true,Int.ediv_one]
 split <;> lia
theorem zcA {v:Value}{o:Option Int}{Q:Option Int->Shared->Prop} (p:IsPart v o) (h:Q o s):wpAny (model prog w) A (Builtin.Slice.slicePartIndex v) Q E s:=by
 cases p with
 | none=>exact slicePart_none h
 | int i t=>exact slicePart_int h
theorem zbH {sl:Addr}{vl vu:Value}{lo hi:Option Int}{n:Nat}{Q:Int×Int×Nat->Shared->Prop} (hs:s.heap.IsSliceOf sl vl vu .none) (pl:IsPart vl lo) (pu:IsPart vu hi)
  (h:Q (((sIx n 0 lo:Nat):Int),1,sIx n n hi - sIx n 0 lo) s):wpAny (model prog w) A (Builtin.Slice.sliceApplied (.ref sl) (pure (n:Int))) Q E s:=by
 obtain ⟨os,hos,hcs,hds⟩:=id hs
 unfold Builtin.Slice.sliceApplied Builtin.Slice.sliceFields
 refine wpAny_bind (wpAny_bind (wpAny_field hos hds (x:=vl) rfl (wpAny_bind (wpAny_field hos hds (x:=vu) rfl (wpAny_bind (wpAny_field hos hds (x:=.none) rfl (wpAny_pure ?_)))))))
 refine wpAny_bind (slicePart_none ?_)
 show wpAny _ _ (if ((1:Int) == 0)=true then _ else _) _ _ s
 rw [if_neg (by decide)]
 refine wpAny_bind (zcA pl (wpAny_bind (zcA pu (wpAny_bind (wpAny_pure ?_)))))
 show wpAny _ _ (match Builtin.Slice.sliceAdjust lo hi 1 (n:Int) with | (lo,hi)=>pure (lo,(1:Int),Builtin.Slice.slicePlaces lo hi 1)) _ _ s
 rw [zhq lo hi n]
 show wpAny _ _ (pure (((sIx n 0 lo:Nat):Int),(1:Int),Builtin.Slice.slicePlaces ((sIx n 0 lo:Nat):Int) ((sIx n n hi:Nat):Int) 1)) _ _ s
 rw [zg8]
 exact wpAny_pure h
theorem zjy (xs:Array Value) (i k:Nat):((List.range k).filterMap fun (m:Nat)=>xs[((i:Int)+(m:Int)*1).toNat]?).toArray=((xs.toList.drop i).take k).toArray:=by
 have e:(fun (m:Nat)=>xs[((i:Int)+(m:Int)*1).toNat]?)=fun m=>xs[i+m]?:=by
  funext m
  have:((i:Int)+(m:Int)*1).toNat=i+m:=by lia
  rw [this]
 rw [e]
 have:=pick_run xs i k
 rw [List.filterMap_map] at this
 have e2:((fun x=>xs[x]?)∘fun x=>i+x)=fun m=>xs[i+m]?:=rfl
 rw [e2] at this
 rw [this]
theorem zcH {t sl:Addr}{items:Array Value}{vl vu:Value}{lo hi:Option Int}{Q:Value->Shared->Prop} (ht:IsTup s.heap t items) (hs:s.heap.IsSliceOf sl vl vu .none) (pl:IsPart vl lo) (pu:IsPart vu hi)
  (hw:¬(sIx items.size 0 lo=0/\sIx items.size items.size hi=items.size))
  (h:Q (.ref s.heap.objs.size) { s with heap:=s.heap.push { cls:=.type "tuple",data:=.seq ((items.toList.drop (sIx items.size 0 lo)).take (sIx items.size items.size hi - sIx items.size 0 lo)).toArray } })
  (hsz:items.size<=sizeLine):wpAny (model prog w) A (getItem (.ref t) (.ref sl)) Q E s:=by
 have htake:sizeOk (.seq ((items.toList.drop (sIx items.size 0 lo)).take (sIx items.size items.size hi - sIx items.size 0 lo)).toArray):=by
  show ((items.toList.drop (sIx items.size 0 lo)).take (sIx items.size items.size hi - sIx items.size 0 lo)).toArray.size<=sizeLine
  rw [List.size_toArray,List.length_take,List.length_drop,Array.length_toList]
  lia
 have hj:sIx items.size items.size hi<=items.size:=zmJ _ _ (Nat.le_refl _) hi
 obtain ⟨os,hos,hcs,hds⟩:=id hs
 have hTs:s.TypeIs (.ref sl) "slice":=⟨os,hos,hcs⟩
 unfold getItem
 try with_reducible refine wpAny_holding ?_
 first | refine wpAny_bind (wpAny_pure ?_) | skip
 refine wpAny_bind (wpAny_sequenceKey ht.typeIs (by decide) ?_)
 refine wpAny_bind (wpAny_callSpecial?_slot (name:=Str.ofString "__getitem__") ht.typeIs PyProof.Rows.slot_tuple_getitem
  (wpAny_call_entry PyProof.Rows.slot_tuple_getitem ht.typeIs entry_tuple_getitem ?_ (args_tuple_getitem _ _)))
 show wpAny _ _ (Builtin.Tuple.tupleItemsOf (.ref t) >>= _) _ _ s
 refine wpAny_bind (tupleItemsOf_ ht ?_)
 refine wpAny_bind (wpAny_typeOf hTs ?_)
 rw [if_pos (by decide)]
 refine wpAny_bind (zbH hs pl pu ?_)
 have hno:¬((((sIx items.size 0 lo:Nat):Int) == 0&&(1:Int) == 1&&(sIx items.size items.size hi - sIx items.size 0 lo) == items.size)=true):=by
  intro q
  rw [Bool.and_eq_true,Bool.and_eq_true] at q
  have q1:((sIx items.size 0 lo:Nat):Int)=0:=eq_of_beq q.1.1
  have q2:sIx items.size items.size hi - sIx items.size 0 lo=items.size:=eq_of_beq q.2
  exact hw ⟨by lia,by lia⟩
 show wpAny _ _ (if (((sIx items.size 0 lo:Nat):Int) == 0&&(1:Int) == 1&&(sIx items.size items.size hi - sIx items.size 0 lo) == items.size)=true then _ else _) _ _ s
 rw [if_neg hno,zjy]
 first
  | exact wpAny_bind (m:=Builtin.Tuple.tupleExact _) (wpAny_newObj_type (wpAny_pure ⟨_,rfl,wpAny_pure h⟩) htake)
  | exact wpAny_bind (m:=Builtin.Tuple.tupleExact _) (wpAny_newObj_type (wpAny_bind (wpAny_pure (wpAny_pure ⟨_,rfl,wpAny_pure h⟩))) htake)
  | exact wpAny_bind (wpAny_bind (m:=Builtin.Tuple.tupleExact _) (wpAny_newObj_type (wpAny_pure (wpAny_pure ⟨_,rfl,wpAny_pure h⟩)) htake))
  | exact wpAny_bind (wpAny_bind (m:=Builtin.Tuple.tupleExact _) (wpAny_newObj_type (wpAny_pure ⟨_,rfl,wpAny_pure h⟩) htake))
end
end HT
namespace L2
open PySem PySem.Spec PyProof.Rows
abbrev TO:=St->Hp->(Option Int->Hp->Prop)->Prop
def PO (X:Cx) (e:Option Expr) (t:TO):Prop :=
 ∀ (pins:List (Addr×Obj)) (s:Shared) (σ:St) (H:Hp) (Q:Option Int->Hp->Prop),Inv X pins σ H s->t σ H Q ->
  wpAny (model X.prog X.w) X.A (evalPart e X.env) (fun u s'=>∃ o H',Inv X pins σ H' s'/\IsPart u o/\Q o H') X.xe s
def zkO:TO:=fun _ H Q=>Q none H
def zoT (t:TE):TO:=fun σ H Q=>t σ H fun x H1=>∃ i,x=.int i/\Q (some i) H1
theorem intsAre_of {ns:List Int}:∀ {us:List Value},Vals (ns.map V.int) us->IntsAre us ns:=by
 induction ns with
 | nil=>intro us r;rw [List.map_nil] at r;cases r;exact .nil
 | cons n ns ih =>
  intro us r
  rw [List.map_cons] at r
  cases r with
  | cons r1 r2 =>
   obtain ⟨t,e⟩:=r1
   subst e
   exact .cons n t (ih r2)
section
variable {X:Cx}{e:Expr}{te:TE}{lo hi:Option Expr}{tl th:TO}{pos p2:Pos}
theorem zk9:PO X none zkO:=by
 intro pins s σ H Q I h
 rw [evalPart_none]
 exact wpAny_pure ⟨none,H,I,.none,h⟩
theorem zk8 (h:PE X e te):PO X (some e) (zoT te):=by
 intro pins s σ H Q I hw
 rw [evalPart_some]
 refine thn (h pins s σ H _ I hw) fun u s1 ⟨x,H1,I1,r1,q1⟩=>?_
 obtain ⟨i,rfl,q⟩:=q1
 obtain ⟨t,rfl⟩:=r1
 exact ⟨some i,H1,I1,.int i t,q⟩
def SlR (X:Cx) (r:V->Option Int->Option Int->Hp->VK->Prop):Prop :=
 ∀ (pins:List (Addr×Obj)) (s:Shared) (σ:St) (H:Hp) (x:V) (v vl vu:Value) (lo hi:Option Int) (sl:Addr) (Q:VK),Inv X pins σ H s->RelV x v->s.heap.IsSliceOf sl vl vu .none->IsPart vl lo->IsPart vu hi->r x lo hi H Q ->
  ∃ T id,typeLookup (.type T) "__getitem__" = pure (some (.builtin id))/\s.TypeIs v T/\wpAny (model X.prog X.w) X.A (getItem v (.ref sl)) (EP X pins σ Q) X.xe s
theorem SlR.or {r r':V->Option Int->Option Int->Hp->VK->Prop} (h:SlR X r) (h':SlR X r'):SlR X (fun x lo hi H Q=>r x lo hi H Q\/r' x lo hi H Q):=by
 intro pins s σ H x v vl vu lo hi sl Q I rx hs pl pu q
 rcases q with q | q
 ·exact h pins s σ H x v vl vu lo hi sl Q I rx hs pl pu q
 ·exact h' pins s σ H x v vl vu lo hi sl Q I rx hs pl pu q
def tSl (r:V->Option Int->Option Int->Hp->VK->Prop) (te:TE) (tl th:TO):TE:=fun σ H Q=>te σ H fun x H1=>tl σ H1 fun l H2=>th σ H2 fun u H3=>r x l u H3 Q
theorem zjB {r:V->Option Int->Option Int->Hp->VK->Prop} (hr:SlR X r) (he:PE X e te) (hl:PO X lo tl) (hu:PO X hi th):PE X (.Subscript e (.Slice lo hi none p2) pos) (tSl r te tl th):=by
 intro pins s σ H Q I h
 refine Subscript_ (thn (he pins s σ H _ I h) fun v s1 ⟨x,H1,I1,r1,q1⟩=>?_)
 refine wpAny_Slice (thn (hl pins s1 σ H1 _ I1 q1) fun vl s2 ⟨l,H2,I2,pl,q2⟩=>thn (hu pins s2 σ H2 _ I2 q2) fun vu s3 ⟨u,H3,I3,pu,q3⟩=>?_)
 rw [evalPart_none]
 refine wpAny_pure ?_
 have I4:Inv X pins σ H3 { s3 with heap:=s3.heap.push { cls:=.type "slice",data:=.fields #[vl,vu,.none] } }:=I3.kept (t':=s3.toks) fun b ob q=>Heap.get?_push_of_some _ q
 obtain ⟨T,id,hT,ht,hg⟩:=hr pins { s3 with heap:=s3.heap.push { cls:=.type "slice",data:=.fields #[vl,vu,.none] } } σ H3 x v vl vu l u s3.heap.objs.size Q I4 r1 (Heap.IsSliceOf.new ..) pl pu q3
 show wpAny (model X.prog X.w) X.A (subscriptTail e (.Slice lo hi none p2) v (.ref s3.heap.objs.size)) (EP X pins σ Q) X.xe { s3 with heap:=s3.heap.push { cls:=.type "slice",data:=.fields #[vl,vu,.none] } }
 exact tail_any (ops:=[.ref s3.heap.objs.size,v]) ht hT hg (by with_unfolding_all rfl)
def cutV (xs:List V) (lo hi:Option Int):List V:=(xs.drop (HT.sIx xs.length 0 lo)).take (HT.sIx xs.length xs.length hi - HT.sIx xs.length 0 lo)
theorem zgb (xs:List V) (lo hi:Option Int):(cutV xs lo hi).length<=xs.length:=by
 unfold cutV
 rw [List.length_take,List.length_drop]
 lia
def rSlT (K:PySem.W.Frag):V->Option Int->Option Int->Hp->VK->Prop:=fun x lo hi H Q=>∃ a xs,x=.ref a/\SqT K H a xs /\
 ¬(HT.sIx xs.length 0 lo=0/\HT.sIx xs.length xs.length hi=xs.length)/\∀ p,H p=none->Q (.ref p) (upd H p (.tup (cutV xs lo hi)))
theorem zmw:SlR X (rSlT X.K):=by
 intro pins s σ H x v vl vu lo hi sl Q I rx hs pl pu h
 obtain ⟨a,xs,rfl,hx,hw,q⟩:=h
 cases rx
 obtain ⟨its,r,ht,hz⟩:=I.tuple hx
 have hlen:its.toArray.size=xs.length:=by rw [List.size_toArray];exact r.length.symm
 refine ⟨"tuple",_,PyProof.Rows.slot_tuple_getitem.lookup,ht.typeIs,?_⟩
 refine HT.zcH ht hs pl pu (by rw [hlen];exact hw) ?_ (by rw [hlen];exact hz)
 rw [hlen]
 refine ⟨.ref s.heap.objs.size,_,I.laid (t':=s.toks) (o:=.tup (cutV xs lo hi)) (fun b ob q=>Heap.get?_push_of_some _ q) (Nat.le_refl _) ?_,rfl,q _ (I.hok.fresh (Nat.le_refl _))⟩
 exact ⟨Nat.le_trans (zgb xs lo hi) hz,_,(r.drop (HT.sIx xs.length 0 lo)).take (HT.sIx xs.length xs.length hi - HT.sIx xs.length 0 lo),IsTD.new _ _⟩
def rLtT (K:PySem.W.Frag):R2:=fun x y H Q=>∃ a b ns ms,x=.ref a/\y=.ref b/\SqT K H a (ns.map V.int)/\SqT K H b (ms.map V.int)/\Q (.bl (HT.lexLt ns ms)) H
theorem zne (hu:X.A.units<cLine):OpR X (compareOp .Lt) (rLtT X.K):=by
 intro pins s σ H x y v u Q I rx ry h
 obtain ⟨a,b,ns,ms,rfl,rfl,ha,hb,q⟩:=h
 cases rx
 cases ry
 obtain ⟨its,r1,p1,_⟩:=I.tuple ha
 obtain ⟨its2,r2,p2,_⟩:=I.tuple hb
 have i1:IntsAre its.toArray.toList ns:=intsAre_of r1
 have i2:IntsAre its2.toArray.toList ms:=intsAre_of r2
 exact HT.zdT p1 p2 i1 i2 hu ⟨.bl (HT.lexLt ns ms),H,I,rfl,q⟩
def zpo (K:PySem.W.Frag):R2:=fun x y H Q=>∃ a b xs ys,x=.ref a/\y=.ref b/\SqT K H a xs/\SqT K H b ys/\xs≠[]/\xs.length+ys.length<=sizeLine /\
 (ys=[]->Q (.ref a) H)/\(ys≠[]->∀ p,H p=none->Q (.ref p) (upd H p (.tup (xs++ys))))
theorem Vals.nil_iff {xs:List V}{us:List Value} (r:Vals xs us):us=[]↔xs=[]:=by
 cases r with
 | nil=>simp
 | cons _ _=>simp
theorem zlj:OpR X (binaryOp .Add) (zpo X.K):=by
 intro pins s σ H x y v u Q I rx ry h
 obtain ⟨a,b,xs,ys,rfl,rfl,ha,hb,hx,hz,q1,q2⟩:=h
 cases rx
 cases ry
 obtain ⟨its,r1,p1,_⟩:=I.tuple ha
 obtain ⟨its2,r2,p2,_⟩:=I.tuple hb
 refine HT.zl3 p1 p2 (fun z=>hx (r1.nil_iff.mp z)) (fun z=>⟨.ref a,H,I,rfl,q1 (r2.nil_iff.mp z)⟩) (fun z=>?_) (by rw [<- r1.length,<- r2.length];exact hz)
 refine ⟨.ref s.heap.objs.size,_,I.laid (t':=s.toks) (o:=.tup (xs++ys)) (fun b ob q=>Heap.get?_push_of_some _ q) (Nat.le_refl _) ?_,rfl,q2 (fun w=>z (r2.nil_iff.mpr w)) _ (I.hok.fresh (Nat.le_refl _))⟩
 exact ⟨by rw [List.length_append];exact hz,_,r1.append r2,IsTD.new _ _⟩
end
end L2
namespace L2
open PySem PySem.Spec PyProof.Rows
def ixN (n:Nat) (i:Int):Option Nat:=if 0<=i then (if i<n then some i.toNat else none) else if -(n:Int)<=i then some (i+n).toNat else none
def atI {α:Type} (xs:List α) (i:Int):Option α:=(ixN xs.length i).bind fun j=>xs[j]?
theorem zio {n:Nat}{i:Int}{j:Nat} (h:ixN n i=some j):seqIndex? i n=some j/\j<n/\-(n:Int)<=i/\i<n:=by
 unfold ixN at h
 by_cases h0:0<=i
 ·rw [if_pos h0] at h
  by_cases h1:i<n
  ·rw [if_pos h1] at h
   have e:i.toNat=j:=Option.some.inj h
   exact ⟨by rw [seqIndex_of h0 h1,e],by lia,by lia,h1⟩
  ·rw [if_neg h1] at h;cases h
 ·rw [if_neg h0] at h
  by_cases h1:-(n:Int)<=i
  ·rw [if_pos h1] at h
   have e:(i+n).toNat=j:=Option.some.inj h
   exact ⟨by rw [seqIndex_neg (by lia) h1,e],by lia,h1,by lia⟩
  ·rw [if_neg h1] at h;cases h
theorem zgf {α:Type}{xs:List α}{i:Int}{v:α} (h:atI xs i=some v):∃ j,seqIndex? i xs.length=some j/\xs[j]?=some v/\j<xs.length/\-(xs.length:Int)<=i/\i<xs.length:=by
 unfold atI at h
 cases e:ixN xs.length i with
 | none=>rw [e] at h;cases h
 | some j =>
  rw [e] at h
  obtain ⟨h1,h2,h3,h4⟩:=zio e
  exact ⟨j,h1,h,h2,h3,h4⟩
theorem zl7 {α:Type}{xs:List α}{j:Nat}{v:α} (h:xs[j]?=some v):atI xs (j:Int)=some v:=by
 have hj:j<xs.length:=(List.getElem?_eq_some_iff.mp h).1
 have e:ixN xs.length (j:Int)=some j:=by
  unfold ixN
  rw [if_pos (by lia),if_pos (by lia)];simp
 unfold atI;rw [e];exact h
def ziV (b:Expr):Prop:=∀ o i,subscripted b false o i=operate [o,i] (getItem o i)
def IxR (X:Cx) (r:R2):Prop :=
 ∀ (value slice:Expr) (pins:List (Addr×Obj)) (s:Shared) (σ:St) (H:Hp) (x y:V) (v u:Value) (Q:VK),Inv X pins σ H s->RelV x v->RelV y u->r x y H Q ->
  subscripted slice false v u=operate [v,u] (getItem v u)->wpAny (model X.prog X.w) X.A (subscriptTail value slice v u) (EP X pins σ Q) X.xe s
def MtR (X:Cx) (id:String) (r:V->List V->Hp->VK->Prop):Prop :=
 ∀ (pins:List (Addr×Obj)) (s:Shared) (σ:St) (H:Hp) (x:V) (xs:List V) (v:Value) (us:List Value) (Q:VK),Inv X pins σ H s->RelV x v->Vals xs us->r x xs H Q ->
  wpAny (model X.prog X.w) X.A (call (.builtin id) (v::us)) (EP X pins σ Q) X.xe s
section
variable {X:Cx}{a b:Expr}{ta tb:TE}{pos:Pos}
theorem IxR.or {r r':R2} (h:IxR X r) (h':IxR X r'):IxR X (fun x y H Q=>r x y H Q\/r' x y H Q):=by
 intro value slice pins s σ H x y v u Q I rx ry q hs
 rcases q with q | q
 ·exact h value slice pins s σ H x y v u Q I rx ry q hs
 ·exact h' value slice pins s σ H x y v u Q I rx ry q hs
theorem zeR {r:R2} (hr:IxR X r) (ha:PE X a ta) (hb:PE X b tb) (hs:ziV b):PE X (.Subscript a b pos) (tOp r ta tb):=by
 intro pins s σ H Q I h
 exact Subscript_ (binT ha hb I h fun v u s2 x y H2 I2 rx ry q=>hr a b pins s2 σ H2 x y v u Q I2 rx ry q (hs _ _))
def rIxL (K:PySem.W.Frag):R2:=fun x y H Q=>∃ p xs i v,x=.ref p/\y=.int i/\SqL K H p xs/\atI xs i=some v/\Q v H
def rIxT (K:PySem.W.Frag):R2:=fun x y H Q=>∃ p xs i v,x=.ref p/\y=.int i/\SqT K H p xs/\atI xs i=some v/\Q v H
def rIxS:R2:=fun x y H Q=>∃ z i c,x=.str z/\y=.int i/\z.length<=sizeLine/\atI z.cps.toList i=some c/\Q (.str ⟨#[c]⟩) H
theorem zbS:IxR X (rIxL X.K):=by
 intro value slice pins s σ H x y v u Q I rx ry h hs
 obtain ⟨p,xs,i,z,rfl,rfl,hq,he,q⟩:=h
 cases rx
 obtain ⟨t,rfl⟩:=ry
 obtain ⟨its,r,pl,hz⟩:=I.list hq
 obtain ⟨j,h1,h2,h3,h4,h5⟩:=zgf he
 obtain ⟨w,ew,rw'⟩:=r.get h2
 have hl:=r.length
 have hn:=zdo
 have fin:EP X pins σ Q w s:=⟨z,H,I,rw',q⟩
 by_cases h0:0<=i
 ·have hj:i.toNat=j:=by
   rw [seqIndex_of h0 h5] at h1
   exact Option.some.inj h1
  exact item_listR pl.isList h0 (by lia) (by rw [hj];simpa using ew) fin hs
 ·have hj:(i+(its.toArray.size:Int)).toNat=j:=by
   rw [seqIndex_neg (by lia) h4] at h1
   rw [List.size_toArray,<- hl]
   exact Option.some.inj h1
  exact subscriptTail_builtinR (x:=w) pl.isList.typeIs slot_list_getitem.lookup
   (wpAny_getItem_list_neg (Q:=fun r s'=>r=w/\EP X pins σ Q r s') pl.isList (by lia) (by rw [List.size_toArray] <;> lia) (by lia) (by rw [hj];simpa using ew) ⟨rfl,fin⟩) hs
theorem znB:IxR X (rIxT X.K):=by
 intro value slice pins s σ H x y v u Q I rx ry h hs
 obtain ⟨p,xs,i,z,rfl,rfl,hq,he,q⟩:=h
 cases rx
 obtain ⟨t,rfl⟩:=ry
 obtain ⟨its,r,pl,hz⟩:=I.tuple hq
 obtain ⟨j,h1,h2,h3,h4,h5⟩:=zgf he
 obtain ⟨w,ew,rw'⟩:=r.get h2
 have hl:=r.length
 have hn:=zdo
 have fin:EP X pins σ Q w s:=⟨z,H,I,rw',q⟩
 exact subscriptTail_builtinR (x:=w) pl.typeIs slot_tuple_getitem.lookup
  (getItem_tuple (j:=j) (Q:=fun r s'=>r=w/\EP X pins σ Q r s') pl (by lia) (by lia) (by rw [List.size_toArray,<- hl];exact h1) (by simpa using ew) ⟨rfl,fin⟩) hs
theorem znC:IxR X rIxS:=by
 intro value slice pins s σ H x y v u Q I rx ry h hs
 obtain ⟨z,i,c,rfl,rfl,hz,he,q⟩:=h
 obtain ⟨t,rfl⟩:=rx
 obtain ⟨t',rfl⟩:=ry
 obtain ⟨j,h1,h2,h3,h4,h5⟩:=zgf he
 have hl:z.cps.toList.length=z.length:=by simp [Str.length]
 rw [hl] at h1 h4 h5
 have hn:=zdo
 exact tail_any (typeIs_str s z t) slot_str_getitem.lookup (getItem_str (c:=c) (by
  have e1:decide (i < -(2 ^ 63:Int))=false:=decide_eq_false (by lia)
  have e2:decide (i>=2 ^ 63)=false:=decide_eq_false (by lia)
  rw [e1,e2,Bool.or_false]) (by rw [h1];simpa using h2) ⟨.str ⟨#[c]⟩,H,I.tok _,⟨_,rfl⟩,q⟩) hs
def rIx (K:PySem.W.Frag):R2:=fun x y H Q=>rIxL K x y H Q\/rIxT K x y H Q\/rIxS x y H Q
theorem znD:IxR X (rIx X.K):=zbS.or (znB.or znC)
theorem zhg (its:List Value) (n j:Nat) (u:Value):Obj.mapSeq (·.setIfInBounds j u) { cls:=.type "list",data:=.seq its.toArray n }={ cls:=.type "list",data:=.seq (its.set j u).toArray n }:=by
 simp [Obj.mapSeq]
theorem Inv.lst {pins:List (Addr×Obj)}{σ:St}{H:Hp}{s:Shared}{p:Addr}{xs:List V} (I:Inv X pins σ H s) (h:H p=some (.lst xs)) :
  ∃ (its:List Value) (n:Nat),Vals xs its/\s.heap.get? p=some { cls:=.type "list",data:=.seq its.toArray n }/\xs.length<=sizeLine:=by
 obtain ⟨z,its,n,r,e⟩:=I.hok p _ h
 exact ⟨its,n,r,e,z⟩
theorem Inv.lstUpd {pins:List (Addr×Obj)}{σ:St}{H:Hp}{s:Shared}{p:Addr}{xs ys:List V}{its its':List Value}{n n':Nat}{f:Obj->Obj} (I:Inv X pins σ H s) (h:H p=some (.lst xs))
  (ho:s.heap.get? p=some { cls:=.type "list",data:=.seq its.toArray n }) (hf:f { cls:=.type "list",data:=.seq its.toArray n }={ cls:=.type "list",data:=.seq its'.toArray n' }) (r:Vals ys its') (hz:ys.length<=sizeLine) (t:Nat) :
  Inv X pins σ (upd H p (.lst ys)) { s with heap:=s.heap.update p f,toks:=t }:=by
 have e:(s.heap.update p f).get? p=some { cls:=.type "list",data:=.seq its'.toArray n' }:=by
  rw [Heap.get?_update_self f ho (by rw [hf] <;> rfl),hf]
 refine I.write (x:=p) (e:=p) (by rw [h];trivial) (.inl rfl) (fun b u hb q=>(Heap.get?_update_other _ _ (Ne.symm hb)).trans q) ⟨_,e⟩ ?_
 exact ⟨hz,its',n',r,e⟩
def zpn:V->V->V->Hp->(Hp->Prop)->Prop:=fun o i v H Q=>∃ p xs k j,o=.ref p/\i=.int k/\H p=some (.lst xs)/\ixN xs.length k=some j/\Q (upd H p (.lst (xs.set j v)))
theorem set_list:PSet X zpn:=by
 intro pins s σ H o i v ov iv u Q I ro ri rv h
 obtain ⟨p,xs,k,j,rfl,rfl,hp,hj,q⟩:=h
 cases ro
 obtain ⟨t,rfl⟩:=ri
 obtain ⟨its,n,r,ho,hz⟩:=I.lst hp
 obtain ⟨h1,h2,h3,h4⟩:=zio hj
 have hl:=r.length
 have hn:=zdo
 have I':Inv X pins σ (upd H p (.lst (xs.set j v))) { s with heap:=s.heap.update p (Obj.mapSeq (·.setIfInBounds j u)) } :=
  I.lstUpd hp ho (zhg its n j u) (r.set rv j) (by rw [List.length_set];exact hz) s.toks
 by_cases h0:0<=k
 ·have hk:k.toNat=j:=by
   rw [seqIndex_of h0 h4] at h1
   exact Option.some.inj h1
  exact PySem.W.ki_setAt ho h0 (by lia) (by rw [List.size_toArray,<- hl];exact h4) (by rw [hk];exact ⟨_,I',q⟩)
 ·have hk:(k+(its.toArray.size:Int)).toNat=j:=by
   rw [seqIndex_neg (by lia) h3] at h1
   rw [List.size_toArray,<- hl]
   exact Option.some.inj h1
  exact PySem.W.ki_setBack ho (by lia) (by rw [List.size_toArray,<- hl];exact h3) (by lia) (by rw [hk];exact ⟨_,I',q⟩)
theorem zfB:zbG X (.builtin "len") (fun xs H Q=>∃ p ys,xs=[.ref p]/\(SqL X.K H p ys\/SqT X.K H p ys)/\Q (.int ys.length) H):=by
 intro pins s σ H xs us Q I r h
 obtain ⟨p,ys,rfl,hq,q⟩:=h
 obtain ⟨u,rfl,rx⟩:=vals1 r
 cases rx
 have hn:=zdo
 rcases hq with hq | hq
 ·obtain ⟨its,r',pl,hz⟩:=I.list hq
  have hlen:=r'.length
  exact Calls.call_len_list pl.isList (by simp only [List.size_toArray] <;> lia) ⟨.int ys.length,H,I.tok _,⟨s.toks+1,by rw [List.size_toArray,hlen]⟩,q⟩
 ·obtain ⟨its,r',pl,hz⟩:=I.tuple hq
  have hlen:=r'.length
  exact len_tuple pl (by simp only [List.size_toArray] <;> lia) ⟨.int ys.length,H,I.tok _,⟨s.toks+1,by rw [List.size_toArray,hlen]⟩,q⟩
theorem zfA:zbG X (.type "list") (fun xs H Q=>∃ p ys,xs=[.ref p]/\(SqL X.K H p ys\/SqT X.K H p ys)/\∀ l,H l=none->Q (.ref l) (upd H l (.lst ys))):=by
 intro pins s σ H xs us Q I r h
 obtain ⟨p,ys,rfl,hq,q⟩:=h
 obtain ⟨u,rfl,rx⟩:=vals1 r
 cases rx
 have fin:∀ (its:List Value),Vals ys its->ys.length<=sizeLine->∀ (h':Heap) (c':Nat),(∀ b o',s.heap.get? b=some o'->h'.get? b=some o') ->
   h'.get? s.heap.objs.size=some { cls:=.type "list",dict:=none,data:=.seq its.toArray c',slots:=#[] }->EP X pins σ Q (.ref s.heap.objs.size) { s with heap:=h' }:=fun its r' hz h' c' kp e =>
  ⟨.ref s.heap.objs.size,_,I.laid (t':=s.toks) kp (Nat.le_refl _) (show zba X.prog X.w _ h' _ (.lst ys) from ⟨hz,its,c',r',e⟩),rfl,q _ (I.hok.fresh (Nat.le_refl _))⟩
 rcases hq with hq | hq
 ·obtain ⟨its,r',pl,hz⟩:=I.list hq
  have hlen:=r'.length
  obtain ⟨o,ho,hc,n,hd⟩:=pl.isList
  exact call_list_seq p (.inl rfl) ho hc hd (fun h' c' kp e=>fin its r' hz h' c' kp e) (by simp only [List.size_toArray] <;> lia)
 ·obtain ⟨its,r',pl,hz⟩:=I.tuple hq
  have hlen:=r'.length
  obtain ⟨o,ho,hc,n,hd⟩:=pl
  exact call_list_seq p (.inr rfl) ho hc hd (fun h' c' kp e=>fin its r' hz h' c' kp e) (by simp only [List.size_toArray] <;> lia)
theorem zeu:zbG X (.type "tuple") (fun xs H Q=>∃ p ys,xs=[.ref p]/\((SqL X.K H p ys/\∀ l,H l=none->Q (.ref l) (upd H l (.tup ys)))\/(SqT X.K H p ys/\Q (.ref p) H))):=by
 intro pins s σ H xs us Q I r h
 obtain ⟨p,ys,rfl,h⟩:=h
 obtain ⟨u,rfl,rx⟩:=vals1 r
 cases rx
 rcases h with ⟨hq,q⟩ | ⟨hq,q⟩
 ·obtain ⟨its,r',pl,hz⟩:=I.list hq
  have hlen:=r'.length
  refine call_tuple_list pl.isList (fun h' kp=>?_) (by simp only [List.size_toArray] <;> lia)
  have I1:Inv X pins σ H { s with heap:=h' }:=I.kept (t':=s.toks) kp
  have I2:Inv X pins σ (upd H h'.objs.size (.tup ys)) { s with heap:=h'.push { cls:=.type "tuple",data:=.seq its.toArray } } :=
   I1.laid (t':=s.toks) (fun b o e=>Heap.get?_push_of_some _ e) (Nat.le_refl _) (show zba X.prog X.w _ _ _ (.tup ys) from ⟨hz,its,r',IsTD.new _ _⟩)
  exact ⟨.ref h'.objs.size,_,I2,rfl,q _ (I1.hok.fresh (Nat.le_refl _))⟩
 ·obtain ⟨its,r',pl,hz⟩:=I.tuple hq
  exact call_tuple_same pl ⟨.ref p,H,I,rfl,q⟩
def tyV (K:PySem.W.Frag) (T:String) (x:V) (H:Hp):Prop:=match x with
 | .str _=>T = "str"
 | .int _=>T = "int"
 | .ref p=>(T = "list" /\ ∃ xs,SqL K H p xs)\/(T = "tuple" /\ ∃ o,K.lookup p=some o/\o.cls=.type "tuple" /\ o.dict=none) \/
   (T = "dict" /\ ((∃ kvs,H p=some (.dK kvs))\/∃ kvs,H p=some (.dT kvs)))\/(T = "set" /\ ∃ S n,H p=some (.set S n))
 | _=>False
theorem zmn {pins:List (Addr×Obj)}{σ:St}{H:Hp}{s:Shared}{T:String}{x:V}{v:Value} (I:Inv X pins σ H s) (r:RelV x v) (ty:tyV X.K T x H) :
  s.TypeIs v T/\∀ a,v=.ref a->∃ ob,s.heap.get? a=some ob/\ob.dict=none:=by
 cases x with
 | str z =>
  obtain ⟨t,rfl⟩:=r
  cases (show T = "str" from ty)
  exact ⟨typeIs_str s z t,fun _ e=>nomatch e⟩
 | int i =>
  obtain ⟨t,rfl⟩:=r
  cases (show T = "int" from ty)
  exact ⟨typeIs_int s i t,fun _ e=>nomatch e⟩
 | ref p =>
  cases r
  rcases ty with ⟨rfl,xs,hq⟩ | ⟨rfl,o,hk,hc,hd⟩ | ⟨rfl,hk⟩ | ⟨rfl,S,n,hk⟩
  ·obtain ⟨its,_,pl,_⟩:=I.list hq
   refine ⟨pl.isList.typeIs,fun a e=>?_⟩
   cases e
   obtain ⟨o,n,e,c,hd,_⟩:=pl
   exact ⟨o,e,hd⟩
  ·refine ⟨⟨o,I.kIn p o hk,hc⟩,fun a e=>?_⟩
   cases e
   exact ⟨o,I.kIn _ o hk,hd⟩
  ·have z:∃ o,s.heap.get? p=some o/\o.ExactDict:=by
    rcases hk with ⟨kvs,hk⟩ | ⟨kvs,hk⟩
    ·obtain ⟨_,_,_,_,o,_,_,e,ex,_⟩:=I.hok p _ hk
     exact ⟨o,e,ex⟩
    ·obtain ⟨_,_,_,_,o,_,_,e,ex,_⟩:=I.hok p _ hk
     exact ⟨o,e,ex⟩
   obtain ⟨o,e,ex⟩:=z
   refine ⟨⟨o,e,ex.1⟩,fun a e2=>?_⟩
   cases e2
   exact ⟨o,e,ex.2.1⟩
  ·obtain ⟨o,_,_,_,e,ex,_⟩:=I.hok p _ hk
   refine ⟨⟨o,e,ex.1⟩,fun a e2=>?_⟩
   cases e2
   exact ⟨o,e,ex.2.1⟩
 | _=>exact False.elim ty
def tBM (K:PySem.W.Frag) (T:String) (r:V->List V->Hp->VK->Prop) (to:TE) (t:TA):TE:=fun σ H Q=>to σ H fun x H1=>tyV K T x H1/\t σ H1 fun xs H2=>r x xs H2 Q
variable {o e:Expr}{es:List Expr}{to:TE}{t:TA}{name:Str}{apos cpos:Pos}{T id:String}{r:V->List V->Hp->VK->Prop}
theorem zps (pa:PlainAttrs T) (slot:Slot T name id) (hty:typeOf (.builtin id)=pure (.type "method_descriptor")) (hm:MtR X id r) (ho:PE X o to) (ha:PA X (e::es) t)
  (hbase:attributeBase o name X.env (eval o X.env)=eval o X.env:=by rfl)
  (hfew:((backTo cpos (starEach (e::es) X.env)).all (fun x=>!x.1)&&(backToKw cpos (keywordEach [] X.env)).all (fun x=>x.1.isSome)
   && decide ((e::es).length+([]:List Keyword).length+(if ([]:List Keyword).isEmpty then 0 else 1)<30))=true:=by rfl)
  (hline:(apos.endLine == cpos.line)=true:=by rfl) (hs:starEach (e::es) X.env=(false,eval e X.env)::starEach es X.env:=by rfl) (hplain:(backTo cpos (starEach es X.env)).any (·.1)=false:=by rfl) :
  PE X (.Call (.Attribute o name apos) (e::es) [] cpos) (tBM X.K T r to t):=by
 intro pins s σ H Q I h
 refine wpAny_Call_method_late hbase hfew hline rfl (thn (ho pins s σ H _ I h) fun v s1 ⟨x,H1,I1,r1,ty,q1⟩=>?_)
 obtain ⟨h1,h2⟩:=zmn I1 r1 ty
 refine ⟨T,id,pa,slot,hty,h1,h2,?_⟩
 have hA:=ha cpos pins s1 σ H1 _ I1 q1
 rw [hs] at hA ⊢
 refine Calls.callWith_builtin (by show (false||(backTo cpos (starEach es X.env)).any (·.1))=false;rw [hplain] <;> rfl) (Calls.evalArgs_plain ?_)
 exact thn hA fun us s2 ⟨vs,H2,I2,r2,q2⟩=>hm pins s2 σ H2 x vs v us Q I2 r1 r2 q2
end
end L2
namespace L2
open PySem PySem.Spec PyProof.Rows
def MtM (X:Cx) (id:String) (r:V->List V->Hp->VK->Prop):Prop :=
 ∀ (pins:List (Addr×Obj)) (s:Shared) (σ:St) (H:Hp) (x:V) (xs:List V) (v:Value) (us:List Value) (Q:VK),Inv X pins σ H s->RelV x v->Vals xs us->r x xs H Q ->
  wpAny (model X.prog X.w) X.A (call (.builtin id) (v::us)) (EP X pins σ Q) X.xe s
theorem Vals.one:∀ {x:V}{us:List Value},Vals [x] us->∃ u,us=[u]/\RelV x u
 | _,_,.cons r .nil=>⟨_,rfl,r⟩
section
variable {X:Cx}{pins:List (Addr×Obj)}{σ:St}{H:Hp}{s:Shared}{l b:Addr}{xs ys zs:List V}
theorem Inv.lset {its its':List Value}{n:Nat}{f:Array Value->Array Value}{t':Nat} (I:Inv X pins σ H s) (hH:H l=some (.lst xs))
  (e:s.heap.get? l=some { cls:=.type "list",data:=.seq its.toArray n }) (hf:f its.toArray=its'.toArray) (hv:Vals ys its') (hz:ys.length<=sizeLine) :
  Inv X pins σ (upd H l (.lst ys)) { s with heap:=s.heap.update l (Obj.mapSeq f),toks:=t' }:=by
 have q:=PySem.IsL.update e f
 rw [hf] at q
 refine I.write (x:=l) (e:=l) (by rw [hH];exact trivial) (.inl rfl) (fun b' u hb hu=>(Heap.get?_update_other s.heap (Obj.mapSeq f) (Ne.symm hb)).trans hu) ⟨_,q⟩ ?_
 exact ⟨hz,its',_,hv,q⟩
theorem Inv.lnew {its:List Value}{t':Nat} (I:Inv X pins σ H s) (hv:Vals ys its) (hz:ys.length<=sizeLine) :
  Inv X pins σ (upd H s.heap.objs.size (.lst ys)) { s with heap:=s.heap.push { cls:=.type "list",data:=.seq its.toArray },toks:=t' } :=
 I.laid (fun _ _ q=>Heap.get?_push_of_some _ q) (Nat.le_refl _) ⟨hz,its,0,hv,Heap.get?_push_size _ rfl⟩
theorem Inv.fresh (I:Inv X pins σ H s):H s.heap.objs.size=none:=I.hok.fresh (Nat.le_refl _)
theorem Inv.lstM (I:Inv X pins σ H s) (hH:H l=some (.lst xs)):xs.length<=sizeLine/\∃ (its:List Value) (n:Nat),Vals xs its/\xs.length=its.length/\s.heap.get? l=some { cls:=.type "list",data:=.seq its.toArray n }:=by
 obtain ⟨z,its,n,r,e⟩:=I.hok l _ hH
 exact ⟨z,its,n,r,r.length,e⟩
end
section
variable {X:Cx}
def zk1:V->List V->Hp->VK->Prop:=fun x vs H Q=>∃ l xs y,x=.ref l/\vs=[y]/\H l=some (.lst xs)/\xs.length<sizeLine/\Q .non (upd H l (.lst (xs++[y])))
theorem ze3:MtM X "list.append" zk1:=by
 intro pins s σ H x vs v us Q I rx rv h
 obtain ⟨l,xs,y,rfl,rfl,hH,hz,q⟩:=h
 cases rx
 obtain ⟨u,rfl,ru⟩:=rv.one
 obtain ⟨z,its,n,r,hl,e⟩:=I.lstM hH
 refine call_meets F.slot_list_append ⟨_,e,rfl⟩ F.entry_list_append (F.args_list_append_2 _ _) (PySem.list_append l its.toArray n u (by rw [List.size_toArray];lia)) ⟨e,?_⟩
 refine ⟨.non,_,I.lset (its':=its++[u]) hH e (by simp) (r.append (.cons ru .nil)) ?_,rfl,q⟩
 rw [List.length_append,List.length_singleton]
 lia
def rCat:R2:=fun x y H Q=>∃ l b xs zs,x=.ref l/\y=.ref b/\H l=some (.lst xs)/\H b=some (.lst zs)/\xs.length+zs.length<=sizeLine/\∀ p,H p=none->Q (.ref p) (upd H p (.lst (xs++zs)))
theorem znh:OpR X (binaryOp .Add) rCat:=by
 intro pins s σ H x y v u Q I rx ry h
 obtain ⟨l,b,xs,zs,rfl,rfl,hH,hB,hz,q⟩:=h
 cases rx
 cases ry
 obtain ⟨z,its,n,r,hl,e⟩:=I.lstM hH
 obtain ⟨z2,its2,n2,r2,hl2,e2⟩:=I.lstM hB
 refine PySem.P.add_list e e2 ?_ (by rw [List.size_toArray,List.size_toArray];lia)
 have ea:its.toArray++its2.toArray=(its++its2).toArray:=by simp
 rw [ea]
 exact ⟨.ref _,_,I.lnew (t':=s.toks) (r.append r2) (by rw [List.length_append];lia),rfl,q _ I.fresh⟩
end
end L2
namespace Att
open PySem PySem.W PySem.Calls PyProof.Rows
theorem zds {P:Params}{h:Heap}:∀ (ns:List Int) (vs:List Value),WellAll P h vs (ns.map WData.int)->IntsAre vs ns:=by
 intro ns
 induction ns with
 | nil =>
  intro vs w
  rw [List.map_nil] at w
  cases w
  exact .nil
 | cons n ns ih =>
  intro vs w
  rw [List.map_cons] at w
  cases w with
  | cons a b =>
   cases a
   exact .cons _ _ (ih _ b)
theorem zhH {l:OpenLaw}{n:Nat} (hn:l.most=some n) {P:Params}{h:Heap}{args:List WData}{vals:List Value}
  (hpre:l.row.toRowW.claim.pre args=true) (hwl:WellAll P h vals args) :
  ∃ a vs ns,vals=[Value.ref a]/\args=[WData.list (ns.map WData.int)]/\h.get? a=some { cls:=.type "list",data:=.seq vs.toArray }/\IntsAre vs ns/\ns.length<=n:=by
 have hsh:WShape.hasAll [] args [.list .int]=true:=(pre_splitW hpre).1
 have hc:l.pre.holds [] { args:=args }=true:=(pre_splitW hpre).2
 obtain ⟨d,r,rfl,h1,h2⟩:=hasAllW_cons hsh
 obtain rfl:=hasAllW_nil h2
 obtain ⟨xs,rfl,h3⟩:=hasW_list h1
 obtain ⟨ns,rfl⟩:=items_int h3
 have hlen:ns.length<=n:=by
  unfold OpenLaw.pre at hc
  have h4:(WTm.not (.lt (.lit (.int (n:Int))) (.len (.arg 0)))).holds [] { args:=[.list (ns.map .int)] }=true:=by
   have h4:=(holds_andW hc).1
   rw [hn] at h4
   exact h4
  have h5:=condW_of h4 (w_not (w_lt w_lit (w_len_list (w_arg rfl))))
  rw [List.length_map] at h5
  refine Nat.le_of_not_lt fun q=>?_
  have q':(n:Int)<((ns.length:Nat):Int):=by lia
  first
   | (rw [decide_eq_true q'] at h5;exact absurd h5 (by decide))
   | (simp at h5;lia)
 cases hwl with
 | cons w1 w2 =>
  cases w2
  cases w1 with
  | list ho hall=>exact ⟨_,_,ns,rfl,rfl,ho,zds ns _ hall,hlen⟩
theorem zhU (l:OpenLaw) (args:List WData):l.row.toRowW.claim.post args (.bool true) args=true :=
 postW_of (r:=l.row.toRowW) (X:=(true == true))
  (show WShape.has [] (.bool true) .bool=true by first | rfl | decide | simp [WShape.has,WShape.arms,WShape.armsAll])
  (show (WTm.eq .res (.lit (.bool true))).value [] { args:=args,res:=some (.bool true),after:=args }=some (.bool (true == true)) from w_eq_bool (w_res rfl) w_lit) rfl
theorem attach_call {l:OpenLaw}{n:Nat}{q:Program}{loose:List Str}{XP:(Str->Option Value)->Heap->Prop}{YP:World->Heap->Prop}{d:DefRec}
  (hn:l.most=some n) (hdf:d.params.defaults=[])
  (call:∀ (w:World) (s₀ s₁:Shared) (mg mb:Str->Option Value) (fa:Addr) (o:Obj) (pm cd doc:Value) (a:Addr) (vs:List Value) (ns:List Int),
   Ground q loose [] XP w s₀ mg mb s₁.heap->YP w s₁.heap ->
   s₁.heap.get? fa=some o->o.data=.func (docDef d.name d.params d.body d.scope pm cd doc)->s₁.heap.CodeRec cd d.name->mg d.name=some (.ref fa) ->
   s₁.heap.get? a=some { cls:=.type "list",data:=.seq vs.toArray }->IntsAre vs ns->ns.length<=n->s₁.gens=#[] ->
   codeAny (model l.prog w) callerA (.call (.ref fa) ⟨[.ref a],[]⟩) (fun r s'=>r=.ok (.ret (.bool true))/\OldK s₁.heap s'.heap/\s'.os=s₁.os/\AllBare s'.gens) s₁) :
  WalkO q loose XP YP l.row.toRowW d [] (fun f vs=>PySem.call f vs):=by
 intro w s₀ s₁ mg mb G Y fa o pm cd doc dV kV ho hd hcd hD hmg hg args vals as hpre hlay hrd hwl hlo
 obtain rfl:dV=.none:=Dflts.none hD hdf
 obtain rfl:kV=.none:=Dflts.noKw hD
 obtain ⟨a,vs,ns,rfl,rfl,hobj,hints,hlen⟩:=zhH hn hpre hwl
 refine enter_call (codeAny_mono (call w s₀ s₁ mg mb fa o pm cd doc a vs ns G Y ho (fd_plain hd) hcd hmg hobj hints hlen hg) fun r s' hq=>?_)
 obtain ⟨rfl,h2,h3,h4⟩:=hq
 exact ⟨.inl ⟨.bool true,.bool true,[],rfl,fun _=>rfl,.bool true,zhU l _,fun _=>⟨List.Pairwise.nil,fun _ hm=>(nomatch hm)⟩⟩,h2,h3,h4⟩
end Att
namespace L2
open PySem PySem.Spec PyProof.Rows
theorem zey:∀ {vs:List Value}{ns:List Int},IntsAre vs ns->Vals (ns.map V.int) vs
 | _,_,.nil=>.nil
 | _,_,.cons n t h=>.cons ⟨t,rfl⟩ (zey h)
def Only (H:Hp):Prop:=∀ b,H b=none\/∃ o xs,H b=some (.frz o (.lst xs))
theorem zjN {P:Program}{w:World}{K:PySem.W.Frag}{mg mb:Str->Option Value}{CX:CXT}{k:Nat}{fa a:Addr}{fd:FuncData}{x:Str}{sp:Sp}{s₁:Shared}{vs:List Value}{ns:List Int}
  (KX:K.In s₁.heap) (hns:s₁.heap.Ns mainGlobals mg) (hb:s₁.heap.Ns builtinsNs mb) (hbb:∀ x:Str,x ≠ "__name__" -> mb x=bootBuiltins x) (hlim:s₁.heap.NoLimit) (hg:s₁.gens=#[])
  (ha:s₁.heap.get? a=some { cls:=.type "list",data:=.seq vs.toArray }) (hi:IntsAre vs ns) (hl:ns.length<=sizeLine) (hr:Room k callerA)
  (F:∀ base:Heap,K.In base->base.Ns mainGlobals mg->FnOk P w K mg base CX k fa fd [x] sp) (hbind:∀ (s:Shared) (u:Value),BindsTo s fd ⟨[u],[]⟩ [(x,u)])
  (hsp:∀ H:Hp,Only H->SqL K H a (ns.map V.int)->sp [.ref a] H (fun v _=>v=.bl true) fun _ _ _=>False)
  (hCX:∀ H e s',CX [] H s₁ (fun _ _ _=>False) e s'->False) :
  codeAny (model P w) callerA (.call (.ref fa) ⟨[.ref a],[]⟩) (fun r s'=>r=.ok (.ret (.bool true))/\OldK s₁.heap s'.heap/\s'.os=s₁.os/\AllBare s'.gens) s₁:=by
 have rv:=zey hi
 have lenV:=hi.length
 have core:∀ H:Hp,Only H->SqL K H a (ns.map V.int)->HOk P w H s₁.heap->(∀ b,H b≠none->b=a)->(H a≠none->K.lookup a=none) ->
   codeAny (model P w) callerA (.call (.ref fa) ⟨[.ref a],[]⟩) (fun r s'=>r=.ok (.ret (.bool true))/\OldK s₁.heap s'.heap/\s'.os=s₁.os/\AllBare s'.gens) s₁:=by
  intro H hO hS hok hA hK
  have base_of:∀ {b:Addr} {o:Obj},s₁.heap.get? b=some o->H b=none->(hidT s₁.heap H).get? b=some o:=fun e n=>zjZ e n
  have noA:∀ {b:Addr} {o:Obj} {es:Array DictEntry} {ep:Nat},s₁.heap.get? b=some o->o.data=.dict es ep->H b=none:=fun {b o es ep} e d=>by
   cases q:H b with
   | none=>rfl
   | some u =>
    have e':b=a:=hA b (by rw [q];simp)
    subst e'
    rw [ha] at e;cases e
    have d':Data.seq vs.toArray _=Data.dict es ep:=d
    cases d'
  have nsK:∀ {b:Addr} {m:Str->Option Value},s₁.heap.Ns b m->(hidT s₁.heap H).Ns b m:=fun {b m} ⟨o,es,ep,e,d,r⟩=>⟨o,es,ep,base_of e (noA e d),d,r⟩
  have hKb:K.In (hidT s₁.heap H):=fun b o e=>base_of (KX b o e) (by
   cases q:H b with
   | none=>rfl
   | some u =>
    have e':b=a:=hA b (by rw [q];simp)
    subst e'
    rw [hK (by rw [q];simp)] at e;cases e)
  have hM:Mod K mg (hidT s₁.heap H):=⟨hKb,nsK hns,⟨mb,nsK hb,hbb⟩,let ⟨mc,h1,h2⟩:=hlim;⟨mc,nsK h1,h2⟩⟩
  have e0:Env0 P w K mg (hidT s₁.heap H) callerA [] s₁ H:=⟨rfl,hM,fun b o e=>zln e,Nat.le_of_eq (ziv _ _),trivial,fun b hb=>absurd (show b∈([]:List Addr) from hb) (by simp),hok,.of_eq hg⟩
  refine codeAny_mono ((F _ hKb (nsK hns)).run callerA [] s₁ H ⟨[.ref a],[]⟩ [.ref a] [.ref a] _ _ hr e0 (hbind s₁ (.ref a)) (.cons rfl .nil) (hsp H hO hS)) fun r s' h=>?_
  cases r with
  | error e=>exact (hCX H e s' h).elim
  | ok fl =>
   cases fl with
   | next=>exact False.elim h
   | brk=>exact False.elim h
   | cont=>exact False.elim h
   | ret u =>
    obtain ⟨v,H',os,bare,un,hok',r',q⟩:=h
    have q':v=.bl true:=q
    subst q'
    obtain rfl:u=Value.bool true:=r'
    refine ⟨rfl,OldK.of_keep fun b o e=>?_,os,bare⟩
    cases q:H b with
    | none=>exact un.keep b o e q (by intro z;exact absurd (show b∈([]:List Addr) from z) (by simp)) (by simp)
    | some u =>
     rcases hO b with z | ⟨ob,xs,z⟩
     ·rw [q] at z;cases z
     ·have z2:=un.frzs b ob _ z
      obtain ⟨e1,_⟩:=hok b _ z
      obtain ⟨e2,_⟩:=hok' b _ z2
      rw [e] at e1;cases e1
      exact e2
 cases hk:K.lookup a with
 | some o =>
  have e:=KX a o hk
  rw [ha] at e
  cases e
  refine core (fun _=>none) (fun _=>.inl rfl) (.inr ⟨_,vs.toArray,_,hk,rfl,rfl,rfl,by rw [List.size_toArray,lenV];exact hl,by simpa using rv⟩) (fun b u z=>by have z':(none:Option HO)=some u:=z;cases z') (fun b z=>absurd rfl z) fun z=>absurd rfl z
 | none =>
  refine core (fun b=>if b=a then some (.frz { cls:=.type "list",data:=.seq vs.toArray } (.lst (ns.map V.int))) else none) (fun b=>?_) (.inl (.inr ⟨{ cls:=.type "list",data:=.seq vs.toArray },if_pos rfl⟩)) (fun b u z=>?_) (fun b z=>?_) fun _=>hk
  ·by_cases hb:b=a
   ·exact .inr ⟨_,_,if_pos hb⟩
   ·exact .inl (if_neg hb)
  ·by_cases hb:b=a
   ·have z':=(if_pos hb).symm.trans z
    cases z'
    subst hb
    exact ⟨ha,by rw [List.length_map];exact hl,vs,_,rv,ha⟩
   ·have z':=(if_neg hb).symm.trans z
    cases z'
  ·by_cases hb:b=a
   ·exact hb
   ·exact absurd (if_neg hb) z
end L2
namespace L2
open PySem PySem.Spec PyProof.Rows
theorem zkL {l:PySem.W.OpenLaw}{n k:Nat}{q:Program}{loose:List Str}{XP:(Str->Option Value)->Heap->Prop}{YP:World->Heap->Prop}{d:DefRec}{K:Params->PySem.W.Frag}{CX:World->CXT}{sp:World->Sp}{x:Str}
  (hn:l.most=some n) (hn2:n<=sizeLine) (hdf:d.params.defaults=[]) (hr:Room k callerA)
  (hY:∀ (w:World) (h:Heap),YP w h->(K w.params).In h)
  (F:∀ (w:World) (mg:Str->Option Value) (fa:Addr) (h:Heap),(K w.params).In h->h.Ns mainGlobals mg->mg d.name=some (.ref fa) ->
   ∃ fd:FuncData,(∀ (s:Shared) (u:Value),BindsTo s fd ⟨[u],[]⟩ [(x,u)]) /\
    ∀ base:Heap,(K w.params).In base->base.Ns mainGlobals mg->FnOk l.prog w (K w.params) mg base (CX w) k fa fd [x] (sp w))
  (hsp:∀ (w:World) (H:Hp) (a:Addr) (ns:List Int),ns.length<=n->Only H->SqL (K w.params) H a (ns.map V.int)->sp w [.ref a] H (fun v _=>v=.bl true) fun _ _ _=>False)
  (hCX:∀ (w:World) (H:Hp) (s:Shared) (e:Value) (s':Shared),CX w [] H s (fun _ _ _=>False) e s'->False) :
  PySem.W.WalkO q loose XP YP l.row.toRowW d [] (fun f vs=>PySem.call f vs):=by
 refine Att.attach_call hn hdf fun w s₀ s₁ mg mb fa o pm cd doc a vs ns G Y ho hd hcd hmg hobj hints hlen hg=>?_
 have KX:=hY w _ Y
 obtain ⟨fd,hb,hF⟩:=F w mg fa _ KX G.T.g hmg
 exact zjN KX G.T.g G.T.b G.T.builtins G.T.nolimit hg hobj hints (Nat.le_trans hlen hn2) hr hF hb (fun H hO hS=>hsp w H a ns hlen hO hS) fun H e s'=>hCX w H s₁ e s'
end L2
namespace L2
open PySem PySem.Spec PyProof.Rows
def zbf (s:Stmt):Arguments:=match s with
 | .FunctionDef _ a _ _ _ _ _ _ _ _=>a
 | _=>{ posonlyargs:=[],args:=[],vararg:=none,kwonlyargs:=[],kw_defaults:=[],kwarg:=none,defaults:=[] }
def za8 (s:Stmt):List Stmt:=match s with
 | .FunctionDef _ _ b _ _ _ _ _ _ _=>b
 | _=>[]
def zag (s:Stmt):Scope:=match s with
 | .FunctionDef _ _ _ _ _ _ sc _ _ _=>sc
 | _=>{ kind:=.function,names:=[],isGenerator:=false,isCoroutine:=false }
abbrev CX0:CXT:=fun _ _ _ _ _ _=>False
abbrev E0:XK:=fun _ _ _=>False
theorem zpu {X:Cx}:ziW CX0 X E0:=fun _ _ _ _ _ _ _ h=>h.elim
structure Fun (K:PySem.W.Frag) (x qual:Str) (st:Stmt) (f:Addr) (fd:FuncData):Prop where
 ex:∃ (oc:Value) (od:Option Addr) (kV doc pm:Value) (an:Option Addr) (cdv ct:Value) (osl:Array (Option Value)),
  fd=PySem.W.fnOf x qual (zbf st) (za8 st) (zag st) .none kV doc pm an cdv ct/\K.lookup f=some ⟨oc,od,.func fd,osl⟩/\PySem.W.codeIn K cdv qual=true
 kp:PySem.W.keepIn K (.ref f)=true
section
variable {P:Program}{w:World}{K:PySem.W.Frag}{mg:Str->Option Value}{base:Heap}
theorem Fun.ok {x qual:Str}{st:Stmt}{f:Addr}{fd:FuncData}{N ps:List Str}{k:Nat}{sp:Sp} (F:Fun K x qual st f fd) (S:FnScope N ps (zag st)) (len:∀ vs H Q E,sp vs H Q E->vs.length=ps.length)
  (hbody:∀ (cdv:Value) (A:Around) (outer:List Env) (s:Shared) (H:Hp) (vs:List V) (Q:VK) (E:XK),Room k (A.deeper (envOfC qual (zag st) s.heap.objs.size f cdv))->sp vs H Q E ->
   ∃ t,PSs (cxOf CX0 P w K mg base N qual (zag st) f cdv A outer s H E).nox (za8 st) t/\t { nx:=fun _ H'=>Q .non H',rt:=Q } (start N vs) H):FnOk P w K mg base CX0 (k+1) f fd ps sp:=by
 obtain ⟨oc,od,kV,doc,pm,an,cdv,ct,osl,rfl,lk,hcd⟩:=F.ex
 refine zp4 lk hcd S len fun A outer s H vs Q E hr hsp=>?_
 obtain ⟨t,h,q⟩:=hbody cdv A outer s H vs Q E hr hsp
 exact ⟨t,h.nox,q⟩
theorem Fun.binds {x qual:Str}{st:Stmt}{f:Addr}{fd:FuncData}{ps:List Str} (F:Fun K x qual st f fd)
  (h:∀ (kV doc pm:Value) (an:Option Addr) (cdv ct:Value) (us:List Value),us.length=ps.length->bindArgs (PySem.W.fnOf x qual (zbf st) (za8 st) (zag st) .none kV doc pm an cdv ct) ⟨us,[]⟩=pure (ps.zip us)):Binds K fd ps []:=by
 obtain ⟨oc,od,kV,doc,pm,an,cdv,ct,osl,rfl,lk,hcd⟩:=F.ex
 exact .all (h kV doc pm an cdv ct)
theorem zky {x qual:Str}{st:Stmt}{f:Addr}{oc:Value}{od an:Option Addr}{osl:Array (Option Value)}{kV doc pm cdv ct:Value} (l:K.lookup f=some ⟨oc,od,.func (PySem.W.fnOf x qual (zbf st) (za8 st) (zag st) .none kV doc pm an cdv ct),osl⟩)
  (c:PySem.W.codeIn K cdv qual=true) (k:PySem.W.keepIn K (.ref f)=true):Fun K x qual st f (PySem.W.fnOf x qual (zbf st) (za8 st) (zag st) .none kV doc pm an cdv ct):=⟨⟨oc,od,kV,doc,pm,an,cdv,ct,osl,rfl,l,c⟩,k⟩
end
section
variable {X:Cx}
theorem pv (i:Nat) {x:Str}{pos:Pos} (hN:X.N[i]?=some x:=by rfl) (hv:Vis X.env.scope x:=by first | exact Or.inl rfl | exact Or.inr (Or.inl rfl) | exact Or.inr (Or.inr rfl)) (hd:(x == ("__debug__":Str))=false:=by decide)
  (hcd:(x == ("__classdict__":Str))=false:=by decide):PE X (.Name x pos) (tVar i):=zcm hN hv hd hcd
end
theorem iteF {A B:Prop} (h:B):if false=true then A else B:=by
 rw [if_neg Bool.false_ne_true]
 exact h
theorem iteT {A B:Prop} (h:A):if true=true then A else B:=by
 rw [if_pos rfl]
 exact h
def Same (H H':Hp):Prop:=∀ b o,H b=some o->H' b=some o
theorem Same.refl (H:Hp):Same H H:=fun _ _ h=>h
theorem Same.trans {H H1 H2:Hp} (a:Same H H1) (b:Same H1 H2):Same H H2:=fun c o h=>b c o (a c o h)
end L2
namespace L2
open PySem PySem.Spec PyProof.Rows
def closed (env:Env):List (Str×NameKind)->List (Str×Addr)->List (Str×Addr)
 | [],acc=>acc
 | (n,k)::r,acc=>closed env r (if (k == .free)=true then (n,(env.cells.lookup n).getD 0)::acc else acc)
theorem zdz {env:Env}:∀ (l:List (Str×NameKind)) (acc:List (Str×Addr)),(∀ x∈l,x.2=.free->∃ c,env.cells.lookup x.1=some c) ->
  (forIn l acc fun x __s=>if (x.snd == NameKind.free)=true then do
    let c <- cellOf env x.fst
    pure (ForInStep.yield ((x.fst,c)::__s))
   else pure (ForInStep.yield __s):Sem (List (Str×Addr)))=pure (closed env l acc)
 | [],acc,_=>rfl
 | (n,k)::r,acc,h=>by
  have ih:=fun a=>zdz (env:=env) r a fun x hx=>h x (List.mem_cons_of_mem _ hx)
  rw [List.forIn_cons]
  by_cases e:(k == NameKind.free)=true
  ·obtain ⟨c,hc⟩:=h (n,k) List.mem_cons_self (by simpa using e)
   have hc':List.lookup n env.cells=some c:=hc
   have e2:cellOf env n=pure c:=by unfold cellOf;rw [hc']
   simp only [e,if_true,e2,pure_bind]
   rw [ih]
   conv=>rhs;unfold closed
   simp only [e,if_true,hc',Option.getD_some]
  ·have e0:(k == NameKind.free)=false:=by simpa using e
   simp only [e0,Bool.false_eq_true,if_false,pure_bind]
   rw [ih]
   conv=>rhs;unfold closed
   simp only [e0,Bool.false_eq_true,if_false]
theorem zcL {scope:Scope}{env:Env} (h:∀ x∈scope.names,x.2=.free->∃ c,env.cells.lookup x.1=some c):closureFor scope env=pure (closed env scope.names []):=by
 simp only [closureFor]
 rw [zdz scope.names [] h]
 rfl
theorem zb4 {env:Env}:∀ (l:List (Str×NameKind)) (acc:List (Str×Addr)),(∀ x∈l,x.2=.free->∃ c,env.cells.lookup x.1=some c) ->
  (∀ x c,acc.lookup x=some c->env.cells.lookup x=some c)->∀ x c,(closed env l acc).lookup x=some c->env.cells.lookup x=some c
 | [],acc,_,ha=>ha
 | (n,k)::r,acc,h,ha=>by
  unfold closed
  refine zb4 r _ (fun x hx=>h x (List.mem_cons_of_mem _ hx)) fun x c=>?_
  by_cases e:(k == NameKind.free)=true
  ·obtain ⟨d,hd⟩:=h (n,k) List.mem_cons_self (by simpa using e)
   have hd':List.lookup n env.cells=some d:=hd
   simp only [e,if_true,hd',Option.getD_some]
   intro q
   rw [List.lookup_cons] at q
   by_cases ex:(x == n)=true
   ·simp only [ex] at q
    have ex':x=n:=by simpa using ex
    cases q
    rw [ex'];exact hd'
   ·have ex2:(x == n)=false:=by simpa using ex
    simp only [ex2] at q
    exact ha x c q
  ·have e0:(k == NameKind.free)=false:=by simpa using e
   simp only [e0,Bool.false_eq_true,if_false]
   exact ha x c
theorem zd1 {env:Env}:∀ (l:List (Str×NameKind)) (acc:List (Str×Addr)) (x:Str),(∃ c,acc.lookup x=some c)->∃ c,(closed env l acc).lookup x=some c
 | [],_,_,h=>h
 | (n,k)::r,acc,x,h=>by
  unfold closed
  refine zd1 r _ x ?_
  by_cases e:(k == NameKind.free)=true
  ·simp only [e,if_true]
   rw [List.lookup_cons]
   cases (x == n) with
   | true=>exact ⟨_,rfl⟩
   | false=>exact h
  ·have e0:(k == NameKind.free)=false:=by simpa using e
   simp only [e0,Bool.false_eq_true,if_false]
   exact h
theorem zcM {env:Env}:∀ (l:List (Str×NameKind)) (acc:List (Str×Addr)) (x:Str),(x,NameKind.free)∈l->∃ c,(closed env l acc).lookup x=some c
 | [],_,_,h=>nomatch h
 | (n,k)::r,acc,x,h=>by
  unfold closed
  rcases List.mem_cons.mp h with e | h
  ·cases e
   refine zd1 r _ _ ?_
   have hh:(NameKind.free == NameKind.free)=true:=rfl
   simp only [hh,if_true]
   rw [List.lookup_cons]
   simp
  ·exact zcM r _ x h
theorem lookup_mem {α:Type}{l:List (Str×α)}{x:Str}{v:α} (h:l.lookup x=some v):(x,v)∈l:=by
 induction l with
 | nil=>simp at h
 | cons p r ih =>
  obtain ⟨n,w⟩:=p
  rw [List.lookup_cons] at h
  by_cases e:(x == n)=true
  ·simp only [e] at h
   cases h
   have e':x=n:=by simpa using e
   rw [e'];exact List.mem_cons_self
  ·have e2:(x == n)=false:=by simpa using e
   simp only [e2] at h
   exact List.mem_cons_of_mem _ (ih h)
def zeN (env:Env) (p:Str×NameKind):Str×NameKind:=if (p.2 == NameKind.free&&env.scope.kind == .function&&env.kindOf p.1 == some .cell)=true then (p.1,.cell) else p
theorem zhO (env:Env) (p:Str×NameKind):(zeN env p).1=p.1:=by
 unfold zeN
 by_cases c:(p.2 == NameKind.free&&env.scope.kind == .function&&env.kindOf p.1 == some .cell)=true
 ·rw [if_pos c]
 ·rw [if_neg c]
def kin (env:Env) (x:Str):Option NameKind->Option NameKind
 | some .free=>if (env.scope.kind == .function&&env.kindOf x == some .cell)=true then some .cell else some .free
 | o=>o
theorem zhN (env:Env) (x:Str) (k:NameKind):some (zeN env (x,k)).2=kin env x (some k):=by
 unfold zeN
 by_cases c:(k == NameKind.free&&env.scope.kind == .function&&env.kindOf x == some .cell)=true
 ·rw [if_pos c]
  rw [Bool.and_eq_true,Bool.and_eq_true] at c
  have k':k=.free:=by simpa using c.1.1
  subst k'
  unfold kin
  rw [if_pos (by rw [Bool.and_eq_true];exact ⟨c.1.2,c.2⟩)]
 ·rw [if_neg c]
  cases k with
  | free =>
   have:¬(env.scope.kind == .function&&env.kindOf x == some .cell)=true:=fun z=>c (by
    have hh:(NameKind.free == NameKind.free)=true:=rfl
    rw [hh,Bool.true_and];exact z)
   unfold kin
   rw [if_neg this]
  | _=>rfl
theorem zd_ (scope:Scope) (env:Env):(relabel scope env).names=scope.names.map (zeN env):=by
 show scope.names.map _=_
 refine List.map_congr_left fun p _=>?_
 obtain ⟨n,k⟩:=p
 rfl
theorem zdP (env:Env):∀ (l:List (Str×NameKind)) (x:Str),(l.map (zeN env)).lookup x=kin env x (l.lookup x)
 | [],_=>rfl
 | (n,k)::r,x=>by
  have ih:=zdP env r x
  have e0:zeN env (n,k)=(n,(zeN env (n,k)).2):=Prod.ext (zhO env (n,k)) rfl
  rw [List.map_cons,e0,List.lookup_cons,List.lookup_cons]
  by_cases e:(x == n)=true
  ·have e':x=n:=by simpa using e
   subst e'
   simp only [beq_self_eq_true]
   exact zhN env x k
  ·have e2:(x == n)=false:=by simpa using e
   simp only [e2]
   exact ih
theorem zcP (scope:Scope) (env:Env) (x:Str):(relabel scope env).names.lookup x=kin env x (scope.names.lookup x):=by
 rw [zd_];exact zdP env _ x
abbrev capN (X:Cx) (capt:List Nat):List Str:=capt.map fun i=>X.N.getD i Str.empty
abbrev capS (capt:List Nat) (σ:St):St:=capt.map fun i=>σ.getD i none
abbrev zbD (own:List Str):St:=own.map fun _=>none
abbrev zaD (X:Cx) (scope:Scope) (own:List Str) (capt:List Nat) (C:Addr) (s₀:Shared) (H₀:Hp) (fp:List Addr):Cx :=
 { X with N:=own++capN X capt,s₀:=s₀,H₀:=H₀,env:=compEnvC scope (closed X.env scope.names []) C X.env,outer:=X.stack,stack:=X.stack,ex:=fp,fn:=fun _=>false,pn:=[],xe:=fun _ _=>False }
structure CompScope (scope:Scope) (own:List Str) (capt:List Nat) (X:Cx):Prop where
 kind:scope.kind=.function
 nocell:∀ y∈scope.names,y.2≠.cell
 names:∀ y∈scope.names,y.2=.local->scope.names.lookup y.1=some .local
 frees:∀ y∈scope.names,y.2=.free->X.env.kindOf y.1=some .cell\/X.env.kindOf y.1=some .free
 caps:∀ k∈capt,scope.names.lookup (X.N.getD k Str.empty)=some .free
theorem getD_some {α:Type}{l:List (Option α)}{k:Nat}{v:α} (h:l.getD k none=some v):l[k]?=some (some v):=by
 rw [List.getD_eq_getElem?_getD] at h
 cases e:l[k]? with
 | none=>rw [e] at h;cases h
 | some o=>rw [e] at h;simp at h;rw [h]
section
variable {X:Cx}{scope:Scope}{own:List Str}{capt:List Nat}
theorem CompScope.cells (S:CompScope scope own capt X) (ok:X.Ok):∀ x∈scope.names,x.2=.free->∃ c,X.env.cells.lookup x.1=some c:=fun x hx hf=>ok.has x.1 (S.frees x hx hf)
theorem zl2 {pins:List (Addr×Obj)}{σ:St}{H₀:Hp}{s₀:Shared}{C:Addr}{fp:List Addr} (S:CompScope scope own capt X) (I:Inv X pins σ H₀ s₀) (hf:∀ b∈fp,FpOk X pins H₀ b) (hfp:∀ b∈fp,b<s₀.heap.objs.size) (hC:s₀.heap.objs.size<=C) :
  (zaD X scope own capt C s₀ H₀ fp).Ok:=by
 have sub:=zb4 scope.names [] (S.cells I.ok) (fun x c h=>nomatch (show (none:Option Addr)=some c from h))
 refine ⟨I.ok.mod,S.kind,I.ok.glob,I.ok.blt,hC,fun x y c h1 h2=>I.ok.inj x y c (sub x c h1) (sub y c h2),fun x hk=>?_,fun x c z=>absurd (show false=true from z) Bool.false_ne_true,I.ok.hd,I.ok.frames,.inl rfl,fun b hb=>?_,I.bs,Nat.le_trans I.ok.bsz I.sz,fun b o e hb=>?_,fun b hb z=>?_,I.stack,I.stkFree⟩
 ·have e:=zcP scope X.env x
  have hk':(relabel scope X.env).names.lookup x=some .cell\/(relabel scope X.env).names.lookup x=some .free:=hk
  rw [e] at hk'
  cases q:scope.names.lookup x with
  | none=>rw [q] at hk';rcases hk' with z | z <;> cases z
  | some k =>
   rw [q] at hk'
   cases k with
   | free=>exact zcM scope.names [] x (lookup_mem q)
   | cell=>exact absurd rfl (S.nocell _ (lookup_mem q))
   | _=>rcases hk' with z | z <;> cases z
 ·obtain ⟨f0,f1,f2,f3,f4,f5⟩:=hf b hb
  exact ⟨Nat.ne_of_lt (Nat.lt_of_lt_of_le (hfp b hb) hC),fun x c e=>f4 x c (sub x c e)⟩
 ·obtain ⟨f0,f1,f2,f3,f4,f5⟩:=hf b hb
  rcases f3 with z | z
  ·exact I.ok.noex b o e z
  ·exact absurd (Nat.lt_of_lt_of_le (Heap.lt_size (I.ok.bs b o e).1) z) (Nat.lt_irrefl _)
 ·obtain ⟨f0,f1,f2,f3,f4,f5⟩:=hf b hb
  rcases List.mem_cons.mp (I.stkSub b z) with q | q
  ·exact f1 q
  ·exact f2 q
theorem zkb {pins:List (Addr×Obj)}{σ:St}{H₀:Hp}{s₀:Shared}{fp:List Addr}{h':Heap}{D C:Addr}{tk:Nat} (S:CompScope scope own capt X) (I:Inv X pins σ H₀ s₀) (hf:∀ b∈fp,FpOk X pins H₀ b) (hfp:∀ b∈fp,b<s₀.heap.objs.size)
  (hD:s₀.heap.objs.size<=D) (hC:s₀.heap.objs.size<=C) (hDC:D≠C) (old:∀ b o,s₀.heap.get? b=some o->h'.get? b=some o) (hns:h'.Ns C (fun _=>none)) (hacc:h'.get? D=some { cls:=.type "list",data:=.seq ([]:List Value).toArray 0 }) :
  Inv (zaD X scope own capt C s₀ H₀ fp) [] (zbD own++capS capt σ) (upd H₀ D (.lst [])) { s₀ with heap:=h',toks:=tk }:=by
 have ok:=zl2 S I hf hfp hC
 have sub:=zb4 scope.names [] (S.cells I.ok) (fun x c h=>nomatch (show (none:Option Addr)=some c from h))
 have hn:H₀ D=none:=I.hok.fresh hD
 refine ⟨ok,rfl,I.bare,Un.laid old hD hn,⟨_,hns,fun i x v e1 e2 e3=>?_⟩,fun x c e=>?_,?_,fun x c e=>?_,fun p hp=>absurd (show p∈([]:List (Addr×Obj)) from hp) (by simp),I.hok.laid (o:=.lst []) old hD (show zba X.prog X.w _ h' D (.lst []) from ⟨Nat.zero_le _,[],0,.nil,hacc⟩),(by show (zbD own++capS capt σ).length=(own++capN X capt).length;simp [zbD,capS,capN])⟩
 ·have hlen:(zbD own).length=own.length:=List.length_map ..
  by_cases hi:i<own.length
  ·rw [List.getElem?_append_left (by rw [hlen];exact hi)] at e2
   unfold zbD at e2
   rw [List.getElem?_map] at e2
   cases q:own[i]? with
   | none=>rw [q] at e2;cases e2
   | some z=>rw [q] at e2;cases e2
  ·have hi':own.length<=i:=Nat.le_of_not_lt hi
   have e1':(own++capN X capt)[i]?=some x:=e1
   rw [List.getElem?_append_right hi'] at e1'
   rw [List.getElem?_append_right (by rw [hlen];exact hi'),hlen] at e2
   unfold capN at e1'
   unfold capS at e2
   rw [List.getElem?_map] at e1' e2
   cases q:capt[i - own.length]? with
   | none=>rw [q] at e1';cases e1'
   | some k =>
    rw [q] at e1' e2
    have ex:X.N.getD k Str.empty=x:=Option.some.inj e1'
    have ev:σ.getD k none=some v:=Option.some.inj e2
    have hk:k∈capt:=List.mem_of_getElem? q
    have hv:=getD_some ev
    have hlt:k<X.N.length:=by
     rw [<- I.len]
     exact (List.getElem?_eq_some_iff.mp hv).1
    have hx:X.N[k]?=some x:=by
     rw [List.getD_eq_getElem?_getD,List.getElem?_eq_getElem hlt] at ex
     rw [List.getElem?_eq_getElem hlt]
     exact congrArg some ex
    have hfree:=S.caps k hk
    rw [ex] at hfree
    have hkind:=S.frees _ (lookup_mem hfree) rfl
    obtain ⟨m,hm,hl⟩:=I.loc
    have vis:Vis X.env.scope x:=by
     rcases hkind with z | z
     ·exact .inr (.inl z)
     ·exact .inr (.inr z)
    obtain ⟨u,r,l⟩:=hl k x v hx hv vis
    refine ⟨u,r,.inr ⟨?_,?_⟩⟩
    ·have e:=zcP scope X.env x
     rw [hfree] at e
     show (relabel scope X.env).names.lookup x=some .cell\/(relabel scope X.env).names.lookup x=some .free
     rw [e]
     unfold kin
     by_cases c:(X.env.scope.kind == .function&&X.env.kindOf x == some .cell)=true
     ·rw [if_pos c];exact .inl rfl
     ·rw [if_neg c];exact .inr rfl
    ·rcases l with ⟨z,_⟩ | ⟨_,c,hc,hcell⟩
     ·rcases hkind with y | y <;> (have y':X.env.kindOf x=_:=y;rw [z] at y';cases y')
     ·obtain ⟨d,hd⟩:=zcM (env:=X.env) scope.names [] x (lookup_mem hfree)
      have:=sub x d hd
      rw [hc] at this
      cases this
      obtain ⟨o,ho,hod⟩:=hcell
      exact ⟨c,hd,o,old _ _ ho,hod⟩
 ·obtain ⟨v,o,ho,hd⟩:=I.cell x c (sub x c e)
  exact ⟨v,o,old _ _ ho,hd⟩
 ·show upd H₀ D (.lst []) C=none
  rw [zam (Ne.symm hDC)]
  exact I.hok.fresh hC
 ·obtain ⟨v,o,ho,hd⟩:=I.cell x c (sub x c e)
  show upd H₀ D (.lst []) c=none
  rw [zam (Nat.ne_of_lt (Nat.lt_of_lt_of_le (Heap.lt_size ho) hD))]
  exact I.freeC x c (sub x c e)
theorem zka {pins pins':List (Addr×Obj)}{σ σ':St}{H₀ H':Hp}{s₀ s':Shared}{fp:List Addr}{h'':Heap}{C:Addr} (I:Inv X pins σ H₀ s₀) (hf:∀ b∈fp,FpOk X pins H₀ b) (hC:s₀.heap.objs.size<=C)
  (J:Inv (zaD X scope own capt C s₀ H₀ fp) pins' σ' H' s') (sb:Heap.SameBut C s'.heap h''):Inv X pins σ H' { s' with heap:=h'' }:=by
 have hCn:H' C=none:=J.free
 have neC:∀ b o,s₀.heap.get? b=some o->b≠C:=fun b o e=>Nat.ne_of_lt (Nat.lt_of_lt_of_le (Heap.lt_size e) hC)
 have u:Un (frs X.stack) fp H₀ H' s₀.heap s'.heap:=J.base
 have u2:Un (frs X.stack) fp H₀ H' s₀.heap h'':=by
  refine ⟨fun b o q n h1 h2=>(sb.2 b (neC b o q)).trans (u.keep b o q n h1 h2),fun b o q n h1 h2=>?_,u.free,fun b o q h2=>?_,u.tups,u.frzs,u.tbls⟩
  ·obtain ⟨sl,e⟩:=u.slot b o q n h1 h2
   exact ⟨sl,(sb.2 b (neC b o q)).trans e⟩
  ·obtain ⟨o',e⟩:=u.there b o q h2
   exact ⟨o',(sb.2 b (neC b o q)).trans e⟩
 have hok:HOk X.prog X.w H' h'':=fun b ob e=>by
  refine (J.hok b ob e).stay (fun c v hc q=>(sb.2 c ?_).trans q) (fun _ q=>q) fun _ _ q=>q
  rintro rfl
  rcases hc with z | z
  ·subst z;rw [hCn] at e;cases e
  ·rw [hCn] at z;cases z
 refine I.call' (s':={ s' with heap:=h'' }) J.os u2 hok J.bare fun b hb=>?_
 obtain ⟨f0,f1,f2,f3,f4,f5⟩:=hf b hb
 exact ⟨f3,f1,f4,f5⟩
end
def PTs (Y:Cx) (ifs:List Expr) (t:TT):Prop :=
 ∀ (pins:List (Addr×Obj)) (s:Shared) (σ:St) (H:Hp) (Q:Bool->Hp->Prop),Inv Y pins σ H s->t σ H Q ->
  wpAny (model Y.prog Y.w) Y.A (forIn ifs true fun c r=>if r=true then do let ok <- isTrue c Y.env (eval c Y.env);pure (ForInStep.yield ok) else pure (ForInStep.yield r)) (TP Y pins σ Q) Y.xe s
def tYes:TT:=fun _ H Q=>Q true H
theorem zk3 {Y:Cx}:PTs Y [] tYes:=fun _ _ _ H _ I h=>wpAny_tests_nil ⟨H,I,h⟩
abbrev NoX:Value->Shared->Prop:=fun _ _=>False
theorem zhn {prog:Program}{w:World}{A:Around}{R:Result->Shared->Prop}{s:Shared}{elt target iter:Expr}{ifs:List Expr}{scope:Scope}{pos:Pos}{it acc:Value}{env:Env} (I:Nat->Shared->Prop)
  (turn:∀ n s,I n s->wpAny (model prog w) A (pyNext it) (fun r s₁=>match r with
   | none=>R (.ok .next) s₁
   | some v=>wpAny (model prog w) A (letOwnedTupleGo target it v) (fun _ s₂=>wpAny (model prog w) A (assign target env v) (fun _ s₃ =>
     wpAny (model prog w) A (forIn ifs true fun c r=>if r=true then do let ok <- isTrue c env (eval c env);pure (ForInStep.yield ok) else pure (ForInStep.yield r)) (fun ok s₄ =>
      if ok=true then wpAny (model prog w) A (eval elt env) (fun x s₅=>wpAny (model prog w) A (call (.builtin "list.append") [acc,x]) (fun _ s₆=>∃ m,m<n/\I m s₆) NoX s₅) NoX s₄
      else ∃ m,m<n/\I m s₄) NoX s₃) NoX s₂) NoX s₁) NoX s) (n:Nat) (h:I n s) :
  codeAny (model prog w) A (.compLoop (.ListComp elt [⟨target,iter,ifs,0⟩] scope pos) 0 it acc env) R s:=by
 refine codeAny_loop rfl I (fun n s hI=>?_) n h
 show wpAny _ A ((compTurn (.ListComp elt [⟨target,iter,ifs,0⟩] scope pos) 0 it acc env).onRaise (fun x=>do noteFrame x env;theTreesLotGoes x)) _ _ s
 refine wpAny_noted (wpAny_mono (E:=NoX) ?_ (fun _ _ q=>q) fun _ _ z=>False.elim z)
 rw [compTurn_list]
 refine wpAny_bind (wpAny_standAt (wpAny_bind (thn (turn n s hI) fun r s₁ h₁=>?_)))
 cases r with
 | none=>exact wpAny_pure h₁
 | some v =>
  refine wpAny_bind (thn h₁ fun _ s₂ h₂=>wpAny_bind (thn h₂ fun _ s₃ h₃=>wpAny_bind (thn h₃ fun ok s₄ h₄=>?_)))
  cases ok with
  | false=>exact wpAny_pure ⟨rfl,h₄⟩
  | true =>
   refine wpAny_bind (wpAny_bind (thn h₄ fun x s₅ h₅=>wpAny_bind (thn h₅ fun _ s₆ h₆=>?_)))
   exact wpAny_pure (wpAny_pure ⟨rfl,h₆⟩)
def Wk:St->St->Prop
 | [],[]=>True
 | none::r,_::r'=>Wk r r'
 | some v::r,o::r'=>o=some v/\Wk r r'
 | _,_=>False
theorem Wk.weak:∀ {σ σ':St},Wk σ σ'->σ.length=σ'.length/\∀ (i:Nat) v,σ[i]?=some (some v)->σ'[i]?=some (some v)
 | [],[],_=>⟨rfl,fun _ _ h=>by simp at h⟩
 | none::r,o::r',h=>by
  obtain ⟨a,b⟩:=Wk.weak (σ:=r) (σ':=r') h
  refine ⟨by simp [a],fun i v e=>?_⟩
  cases i with
  | zero=>simp at e
  | succ i=>simpa using b i v (by simpa using e)
 | some w::r,o::r',h=>by
  obtain ⟨h0,h1⟩:o=some w/\Wk r r':=h
  obtain ⟨a,b⟩:=Wk.weak h1
  refine ⟨by simp [a],fun i v e=>?_⟩
  cases i with
  | zero=>rw [h0];simpa using e
  | succ i=>simpa using b i v (by simpa using e)
 | none::_,[],h=>False.elim h
 | some _::_,[],h=>False.elim h
 | [],_::_,h=>False.elim h
def zma (own:List Str) (capt:List Nat) (g:TG) (tt:TT) (te:TE) (σ:St) (J:It) (H1:Hp) (D:Addr) (Q:VK):Prop:=∃ W:Nat->Nat->Hp->Prop,(∃ m,W 0 m (upd H1 D (.lst [])))/\∀ i m H2,W i m H2 ->
 (J.stop i H2/\Q (.ref D) H2)\/(J.go i H2/\∃ (N:V->Hp->Prop) (N':Hp->Prop),(∀ v H6,N v H6->∃ ys,H6 D=some (.lst ys)/\ys.length<sizeLine/\∃ m',m'<m/\W (i+1) m' (upd H6 D (.lst (ys++[v]))))/\(∀ H5,N' H5->∃ m',m'<m/\W (i+1) m' H5) /\
  ∀ x H3,J.yld i H2 x H3->g x (zbD own++capS capt σ) H3 fun σ4 H4=>Wk (zbD own++capS capt σ) σ4/\tt σ4 H4 fun b H5=>if b=true then te σ4 H5 N else N' H5)
def tComp (own:List Str) (capt:List Nat) (wi:TI) (g:TG) (tt:TT) (te:TE):TE:=fun σ H Q=>wi σ H fun J H1=>∀ D,H1 D=none->zma own capt g tt te σ J H1 D Q
section
variable {X:Cx}{scope:Scope}{own:List Str}{capt:List Nat}{elt tg iter:Expr}{ifs:List Expr}{pos:Pos}{wi:TI}{g:TG}{tt:TT}{te:TE}
theorem zj_ (hc:X.calm=true) (S:CompScope scope own capt X)
  (hg:∀ C s₀ H₀ fp,PG (zaD X scope own capt C s₀ H₀ fp) tg g) (ht:∀ C s₀ H₀ fp,PTs (zaD X scope own capt C s₀ H₀ fp) ifs tt) (he:∀ C s₀ H₀ fp,PE (zaD X scope own capt C s₀ H₀ fp) elt te)
  {pins:List (Addr×Obj)} {σ:St} {Q:VK} {itv:Value} {s2:Shared} {E:Value->Shared->Prop} {RR:Value->Addr->Result->Shared->Prop}
  (h2:PIE X pins σ tg (fun J H1=>∀ D,H1 D=none->zma own capt g tt te σ J H1 D Q) itv s2)
  (hR:∀ D C s' H',(∃ m,s'.heap.Ns C m)->(∀ h'',Heap.SameBut C s'.heap h''->Inv X pins σ H' { s' with heap:=h'' })->H' C=none->FpOk X pins H' C->Q (.ref D) H'->RR (.ref D) C (.ok .next) s') :
  wpAny (model X.prog X.w) X.A (newList []) (fun acc s₃=>wpAny (model X.prog X.w) X.A (newFunctionEnv scope X.env.globals (closed X.env scope.names []) [] X.env.qual none .none (some X.env)) (fun cenv s₄ =>
   codeAny (model X.prog X.w) X.A (.compStart (.ListComp elt [⟨tg,iter,ifs,0⟩] scope pos) 0 itv acc { cenv with scope:=relabel scope X.env }) (RR acc cenv.locals) s₄) E s₃) E s2:=by
 obtain ⟨it,fp,tn,J,H2,e,I2,T,st2,f2,rd⟩:=h2
 subst e
 have hfp:∀ b∈fp,b<s2.heap.objs.size:=fun b hb=>by
  obtain ⟨o,e,_⟩:=T.obj 0 _ st2 b hb
  exact Heap.lt_size e
 refine wpAny_newObj_type (wpAny_newFunctionEnv S.nocell (by intro y hy;simp at hy) (fun h₁ hns₁ hsb₁=>?_) S.kind)
 dsimp only at hns₁ hsb₁ ⊢
 generalize hH3:s2.heap.push { cls:=.type "list",dict:=none,data:=.seq ([]:List Value).toArray }=H3 at hns₁ hsb₁ ⊢
 have hC:H3.objs.size=s2.heap.objs.size+1:=by rw [<- hH3,Heap.size_push]
 have hDC:s2.heap.objs.size≠H3.objs.size:=by rw [hC];exact Nat.ne_of_lt (Nat.lt_succ_self _)
 have hCle:s2.heap.objs.size<=H3.objs.size:=by rw [hC];exact Nat.le_succ _
 have neC:∀ b o,s2.heap.get? b=some o->b≠H3.objs.size:=fun b o e=>Nat.ne_of_lt (Nat.lt_of_lt_of_le (Heap.lt_size e) hCle)
 have old:∀ b o,s2.heap.get? b=some o->h₁.get? b=some o:=fun b o e=>hsb₁.extBut b o (neC b o e) (Heap.get?_push_of_some _ (hH3▸Heap.get?_push_of_some _ e))
 have hacc:h₁.get? s2.heap.objs.size=some { cls:=.type "list",data:=.seq ([]:List Value).toArray 0 }:=hsb₁.extBut _ _ hDC (Heap.get?_push_of_some _ (hH3▸Heap.get?_push_size _ rfl))
 have hnD:H2 s2.heap.objs.size=none:=I2.hok.fresh (Nat.le_refl _)
 obtain ⟨W,⟨m0,w0⟩,turn⟩:=rd _ hnD
 have hLC:H3.objs.size≠X.env.locals:=fun z=>by
  have h:=I2.lt
  rw [<- z] at h
  exact absurd h (Nat.not_lt.mpr hCle)
 have J0:∀ tk,Inv (zaD X scope own capt H3.objs.size s2 H2 fp) [] (zbD own++capS capt σ) (upd H2 s2.heap.objs.size (.lst [])) { s2 with heap:=h₁,toks:=tk }:=fun tk =>
  zkb (tk:=tk) S I2 f2 hfp (Nat.le_refl _) hCle hDC old hns₁ hacc
 have fr0:∀ b∈fp,upd H2 s2.heap.objs.size (.lst []) b=none:=fun b hb=>by
  rw [zam (Nat.ne_of_lt (hfp b hb))];exact (f2 b hb).1
 have stat:∀ {H':Hp},(∀ b∈fp,H' b=none)->∀ b∈fp,FpOk (zaD X scope own capt H3.objs.size s2 H2 fp) [] H' b:=fun hn b hb=>by
  obtain ⟨g0,g1,g2,g3,g4,g5⟩:=f2 b hb
  have sub:=zb4 scope.names [] (S.cells I2.ok) (fun x c h=>nomatch (show (none:Option Addr)=some c from h))
  refine ⟨hn b hb,Nat.ne_of_lt (Nat.lt_of_lt_of_le (hfp b hb) hCle),fun z=>?_,.inl hb,fun x c e=>g4 x c (sub x c e),fun p hp=>absurd (show p∈([]:List (Addr×Obj)) from hp) (by simp)⟩
  rcases List.mem_cons.mp (I2.stkSub b z) with q | q
  ·exact g1 q
  ·exact g2 q
 have loop:∀ s₃:Shared,(∃ tk,s₃={ s2 with heap:=h₁,toks:=tk }) ->
   codeAny (model X.prog X.w) X.A (.compLoop (.ListComp elt [⟨tg,iter,ifs,0⟩] scope pos) 0 (.ref it) (.ref s2.heap.objs.size) (compEnvC scope (closed X.env scope.names []) H3.objs.size X.env)) (RR (.ref s2.heap.objs.size) H3.objs.size) s₃:=by
  rintro s₃ ⟨tk,rfl⟩
  refine zhn (fun n s'=>∃ i H',Inv (zaD X scope own capt H3.objs.size s2 H2 fp) [] (zbD own++capS capt σ) H' s'/\tn i s'.heap/\(∀ b∈fp,H' b=none)/\W i n H') ?_ m0
   ⟨0,_,J0 tk,T.keep _ _ _ st2 fun b hb o e=>old b o e,fr0,w0⟩
  rintro n s4 ⟨i,H4,I4,st4,fr4,w4⟩
  rcases turn i n H4 w4 with ⟨stop,qn⟩ | ⟨go,N,N',hN,hN',step⟩
  ·refine thn (T.done (zaD X scope own capt H3.objs.size s2 H2 fp) rfl rfl rfl hc i [] s4 _ H4 NoX I4 (stat fr4) st4 stop) fun r s5 ⟨hr,I5⟩=>?_
   subst hr
   obtain ⟨m,hn,_⟩:=I5.loc
   exact hR _ _ s5 H4 ⟨m,hn⟩ (fun h'' sb=>zka I2 f2 hCle I5 sb) I5.free (I2.fpOk hCle I5.free) qn
  ·refine thn (T.item (zaD X scope own capt H3.objs.size s2 H2 fp) rfl rfl rfl hc i [] s4 _ H4 NoX I4 (stat fr4) st4 go) fun r s5 ⟨u,hr,h5⟩=>?_
   subst hr
   refine thn h5 fun _ s6 ⟨x,H6,I6,r6,y6,st6,fr6⟩=>?_
   have I6':=I6.pinned (stat fr6) (T.obj _ _ st6)
   refine thn (hg _ _ _ _ _ s6 _ H6 x u _ I6' r6 (step x H6 y6)) fun _ s7 ⟨σ7,H7,I7,wk,q7⟩=>?_
   obtain ⟨wl,wv⟩:=wk.weak
   have again:∀ {s8:Shared} {H8:Hp} {m':Nat},Inv (zaD X scope own capt H3.objs.size s2 H2 fp) ([]++zeQ fp s6.heap) σ7 H8 s8->m'<n->W (i+1) m' H8 ->
     ∃ m,m<n/\∃ i H',Inv (zaD X scope own capt H3.objs.size s2 H2 fp) [] (zbD own++capS capt σ) H' s8/\tn i s8.heap/\(∀ b∈fp,H' b=none)/\W i m H':=fun {s8 H8 m'} I8 hm w8=>by
    refine ⟨m',hm,i+1,H8,(I8.unpinned).weak wl wv,T.keep _ _ _ st6 fun b hb o e=>(I8.pin (b,o) (List.mem_append_right _ (List.mem_append_right _ (zb1 hb e)))).1,fun b hb=>?_,w8⟩
    obtain ⟨o,e,d⟩:=T.obj _ _ st6 b hb
    exact (I8.pin (b,o) (List.mem_append_right _ (List.mem_append_right _ (zb1 hb e)))).2.1
   refine thn (ht _ _ _ _ _ s7 σ7 H7 _ I7 q7) fun ok s8 ⟨H8,I8,q8⟩=>?_
   cases ok with
   | false =>
    obtain ⟨m',hm,w8⟩:=hN' H8 (by simpa using q8)
    exact again I8 hm w8
   | true =>
    refine thn (he _ _ _ _ _ s8 σ7 H8 N I8 (by simpa using q8)) fun y s9 ⟨v,H9,I9,r9,q9⟩=>?_
    obtain ⟨ys,hD,hl,m',hm,w9⟩:=hN v H9 q9
    refine thn (ze3 (X:=zaD X scope own capt H3.objs.size s2 H2 fp) _ s9 σ7 H9 (.ref s2.heap.objs.size) [v] _ [y] (fun _ H'=>H'=upd H9 s2.heap.objs.size (.lst (ys++[v]))) I9 rfl (.cons r9 .nil) ⟨_,ys,v,rfl,rfl,hD,hl,rfl⟩) fun _ s10 ⟨_,H10,I10,_,q10⟩=>?_
    subst q10
    exact again I10 hm w9
 exact codeAny_compStart_list (loop _ ⟨_,rfl⟩) (T.self X.A 0 _ _ _ (T.keep _ _ _ st2 fun b hb o e=>old b o e) (loop _ ⟨_,rfl⟩))
theorem zjC (hc:X.calm=true) (S:CompScope scope own capt X) (hi:PI X tg iter wi)
  (hg:∀ C s₀ H₀ fp,PG (zaD X scope own capt C s₀ H₀ fp) tg g) (ht:∀ C s₀ H₀ fp,PTs (zaD X scope own capt C s₀ H₀ fp) ifs tt) (he:∀ C s₀ H₀ fp,PE (zaD X scope own capt C s₀ H₀ fp) elt te)
  (hs:∀ x,foldedSetIterable iter X.env x=pure x:=by intro _;rfl):PE X (.ListComp elt [⟨tg,iter,ifs,0⟩] scope pos) (tComp own capt wi g tt te):=by
 intro pins s σ H Q I h
 rw [eval_ListComp]
 refine wpAny_comprehension_free (use:=none) rfl hs (zcL (S.cells I.ok)) S.kind S.names (thn (hi pins s σ H _ I h) fun v s1 h1=>thn h1 fun itv s2 h2=>?_)
 refine zj_ (RR:=fun acc C=>compPost (model X.prog X.w) X.A X.xe none (EP X pins σ Q) acc C) hc S hg ht he h2 fun D C s' H' hn J _ _ q=>?_
 obtain ⟨m,hn⟩:=hn
 exact ⟨m,hn,fun h'' sb=>⟨.ref D,H',J h'' sb,rfl,q⟩⟩
end
theorem ziO {J:It}{n:Nat}{own:List Str}{capt:List Nat}{g:TG}{tt:TT}{te:TE}{σ:St}{H1:Hp}{D:Addr}{Q:VK} (Pv:Nat->List V->Hp->Prop) (h0:Pv 0 [] (upd H1 D (.lst [])))
  (turn:∀ i ys H2,i<n->H2 D=some (.lst ys)->Pv i ys H2->J.go i H2/\∀ x H3,J.yld i H2 x H3->g x (zbD own++capS capt σ) H3 fun σ4 H4=>Wk (zbD own++capS capt σ) σ4/\tt σ4 H4 fun b H5 =>
   if b=true then te σ4 H5 (fun v H6=>∃ zs,H6 D=some (.lst zs)/\zs.length<sizeLine/\Pv (i+1) (zs++[v]) (upd H6 D (.lst (zs++[v])))) else ∃ zs,H5 D=some (.lst zs)/\Pv (i+1) zs H5)
  (stop:∀ ys H2,H2 D=some (.lst ys)->Pv n ys H2->J.stop n H2/\Q (.ref D) H2) :
  zma own capt g tt te σ J H1 D Q:=by
 refine ⟨fun i m H=>m=n - i/\i<=n/\∃ ys,H D=some (.lst ys)/\Pv i ys H,⟨n,rfl,Nat.zero_le _,[],zao,h0⟩,?_⟩
 rintro i m H2 ⟨rfl,hi,ys,hD,p⟩
 by_cases hlt:i<n
 ·obtain ⟨go,st⟩:=turn i ys H2 hlt hD p
  refine .inr ⟨go,_,_,?_,?_,st⟩
  ·rintro v H6 ⟨zs,e,l,q⟩
   exact ⟨zs,e,l,n - (i+1),by omega,rfl,hlt,_,zao,q⟩
  ·rintro H5 ⟨zs,e,q⟩
   exact ⟨n - (i+1),by omega,rfl,hlt,zs,e,q⟩
 ·have e:i=n:=by omega
  subst e
  exact .inl (stop ys H2 hD p)
end L2
namespace L2
open PySem PySem.Spec PyProof.Rows
def zfv (scope outer:Scope) (N:List Str) (capt:List Nat):Bool :=
 scope.kind == .function&&scope.names.all (fun y=>!(y.2 == .cell))&&scope.names.all (fun y=>!(y.2 == .local)||scope.names.lookup y.1 == some .local) &&
 scope.names.all (fun y=>!(y.2 == .free)||(outer.names.lookup y.1 == some .cell||outer.names.lookup y.1 == some .free))&&capt.all (fun k=>scope.names.lookup (N.getD k Str.empty) == some .free)
theorem CompScope.of {X:Cx}{scope:Scope}{own:List Str}{capt:List Nat} (h:zfv scope X.env.scope X.N capt=true):CompScope scope own capt X:=by
 unfold zfv at h
 simp only [Bool.and_eq_true] at h
 obtain ⟨⟨⟨⟨h1,h2⟩,h3⟩,h4⟩,h5⟩:=h
 rw [List.all_eq_true] at h2 h3 h4 h5
 refine ⟨by simpa using h1,fun y hy=>?_,fun y hy hl=>?_,fun y hy hf=>?_,fun k hk=>?_⟩
 ·simpa using h2 y hy
 ·have:=h3 y hy
  rw [hl] at this
  simpa using this
 ·have:=h4 y hy
  rw [hf] at this
  show X.env.scope.names.lookup y.1=some .cell\/X.env.scope.names.lookup y.1=some .free
  simpa using this
 ·simpa using h5 k hk
end L2
namespace L2
open PySem PySem.Spec PyProof.Rows
section
variable {X:Cx}
def kitB (t T:String):Option Bool:=if (Value.type t == Value.type T)=true then some true else if PySem.W.kitMeta T=true then (fastBuiltinMro t).map (·.contains (.type T)) else none
theorem zih (K:PySem.W.Frag) (t T:String):PySem.W.kitOne K (.type t) (.type T)=kitB t T:=rfl
inductive Ty (H:Hp):V->String->Prop where
 | non:Ty H .non "NoneType"
 | bl (x:Bool):Ty H (.bl x) "bool"
 | int (i:Int):Ty H (.int i) "int"
 | str (x:Str):Ty H (.str x) "str"
 | lst {a:Addr} {xs:List V} (e:H a=some (.lst xs)):Ty H (.ref a) "list"
 | tup {a:Addr} {xs:List V} (e:H a=some (.tup xs)):Ty H (.ref a) "tuple"
 | dK {a:Addr} {kvs:List (Key×V)} (e:H a=some (.dK kvs)):Ty H (.ref a) "dict"
theorem Ty.of {K:PySem.W.Frag}{H:Hp}{v:V}{t:String} (h:Ty H v t):TyOf K H v (.type t):=by
 cases h with
 | non=>exact .non
 | bl x=>exact .bl x
 | int i=>exact .int i
 | str x=>exact .str x
 | lst e=>exact .lst e
 | tup e=>exact .tup e
 | dK e=>exact .dK e
theorem zkc:bootBuiltins "isinstance" = some (.builtin "isinstance"):=by decide +kernel
theorem boot_int:bootBuiltins "int" = some (.type "int"):=by decide +kernel
theorem zcN:bootBuiltins "bool" = some (.type "bool"):=by decide +kernel
theorem zaZ:bootBuiltins "tuple" = some (.type "tuple"):=by decide +kernel
theorem zfG:bootBuiltins "all" = some (.builtin "all"):=by decide +kernel
theorem zfE:bootBuiltins "min" = some (.builtin "min"):=by decide +kernel
theorem zfF:bootBuiltins "max" = some (.builtin "max"):=by decide +kernel
theorem zaU:bootBuiltins "len" = some (.builtin "len"):=by decide +kernel
theorem zfH:∀ {bs:List Bool}{us:List Value},Vals (bs.map V.bl) us->LSm.BoolsAre us bs
 | [],_,h=>by cases h;exact .nil
 | b::bs,_,h=>by
  cases h with
  | cons r t =>
   cases (show _=Value.bool b from r)
   exact .cons b (zfH t)
theorem zfC (hc:X.calm=true):zbG X (.builtin "all") (fun xs H Q=>∃ (a:Addr) (bs:List Bool),xs=[.ref a]/\SqL X.K H a (bs.map V.bl)/\Q (.bl (bs.all id)) H):=by
 intro pins s σ H xs us Q I r h
 obtain ⟨a,bs,rfl,hq,q⟩:=h
 cases r with
 | cons r1 r2 =>
  cases r2
  cases (show _=Value.ref a from r1)
  obtain ⟨its,rv,p,hz⟩:=I.list hq
  have hb:=zfH rv
  have hl:s.heap.IsList a its.toArray:=p.isList
  have hlt:a<s.heap.objs.size:=by obtain ⟨_,e,_⟩:=hl;exact Heap.lt_size e
  refine call_all_walk (wpAny_pyIter_list hl ?_)
  refine ⟨s.heap.objs.size,[s.heap.objs.size,a],[s.heap.objs.size],its.toArray.size,_,_,fun i=>(bs[i]?).getD true,rfl,Walks.list (A:=X.A.in1) (I.ok.hd hc) _ a (Nat.ne_of_lt hlt) its.toArray,
   ⟨⟨_,Heap.get?_push_size _ rfl,rfl,rfl⟩,hl.push _⟩,fun i v s' Q' E' hP hQ=>?_,fun h' tk hk=>?_⟩
  ·obtain ⟨b,e,rfl⟩:=hb.get i v (by simpa using hP)
   simp only [e,Option.getD_some] at hQ
   exact wpAny_truthy_bool hQ
  ·have e:((List.range its.toArray.size).all fun i=>(bs[i]?).getD true)=bs.all id:=by
    rw [List.size_toArray,hb.length];exact LSm.range_all bs
   rw [e]
   exact ⟨.bl _,H,I.kept (LSm.kept_iter hk),rfl,q⟩
mutual
inductive Shows (H:Hp):V->PyData->Prop
 | non:Shows H .non .none
 | bl (b:Bool):Shows H (.bl b) (.bool b)
 | int (i:Int):Shows H (.int i) (.int i)
 | str (x:Str):Shows H (.str x) (.str x)
 | lst {a:Addr} {xs:List V} {ds:List PyData}:H a=some (.lst xs)->ShowsAll H xs ds->Shows H (.ref a) (.list ds)
 | tup {a:Addr} {xs:List V} {ds:List PyData}:H a=some (.tup xs)->ShowsAll H xs ds->Shows H (.ref a) (.tuple ds)
inductive ShowsAll (H:Hp):List V->List PyData->Prop
 | nil:ShowsAll H [] []
 | cons {v:V} {vs:List V} {d:PyData} {ds:List PyData}:Shows H v d->ShowsAll H vs ds->ShowsAll H (v::vs) (d::ds)
end
section
variable {pins:List (Addr×Obj)}{σ:St}{H:Hp}{s:Shared}
mutual
theorem Shows.reads (I:Inv X pins σ H s):∀ {v:V}{d:PyData}{u:Value},Shows H v d->RelV v u->∃ as,Reads s.heap u d as
 | _,_,_,.non,r=>by cases r;exact ⟨_,.none⟩
 | _,_,_,.bl b,r=>by cases r;exact ⟨_,.bool b⟩
 | _,_,_,.int i,r=>by obtain ⟨t,rfl⟩:=r;exact ⟨_,.int i t⟩
 | _,_,_,.str x,r=>by obtain ⟨t,rfl⟩:=r;exact ⟨_,.str x t⟩
 | _,_,_,.lst e h,r=>by
  cases r
  obtain ⟨_,its,n,rv,e1⟩:=I.hok _ _ e
  obtain ⟨as,q⟩:=ShowsAll.reads I h rv
  exact ⟨_,.list e1 rfl rfl (by simpa using q)⟩
 | _,_,_,.tup e h,r=>by
  cases r
  obtain ⟨_,its,rv,o,e1,e2,⟨n,e3⟩,_⟩:=I.hok _ _ e
  obtain ⟨as,q⟩:=ShowsAll.reads I h rv
  exact ⟨_,.tuple e1 e2 e3 (by simpa using q)⟩
theorem ShowsAll.reads (I:Inv X pins σ H s):∀ {vs:List V}{ds:List PyData}{us:List Value},ShowsAll H vs ds->Vals vs us->∃ as,ReadsAll s.heap us ds as
 | _,_,_,.nil,r=>by cases r;exact ⟨_,.nil⟩
 | _,_,_,.cons h t,r=>by
  cases r with
  | cons r rr =>
   obtain ⟨as,q⟩:=Shows.reads I h r
   obtain ⟨bs,q'⟩:=ShowsAll.reads I t rr
   exact ⟨_,.cons q q'⟩
end
end
theorem Inv.bigM {pins:List (Addr×Obj)}{σ:St}{H:Hp}{s:Shared} (I:Inv X pins σ H s):sysModules<s.heap.objs.size :=
 Nat.lt_trans (by decide) (I.mod.glob.keeps I.bk).lt
def zmr:TE:=fun _ H Q=>∀ p,H p=none->Q (.ref p) (upd H p (.dK []))
theorem zjE {pos:Pos}:PE X (.Dict [] [] pos) zmr:=by
 intro pins s σ H Q I h
 refine wpAny_Dict_empty ⟨.ref s.heap.objs.size,_,I.laid (a:=s.heap.objs.size) (o:=.dK []) (t':=s.toks) (fun _ _ q=>Heap.get?_push_of_some _ q) (Nat.le_refl _) ?_,rfl,h _ (I.hok.fresh (Nat.le_refl _))⟩
 exact ⟨Nat.zero_le _,beq_eq_false_iff_ne.mpr (Ne.symm (Nat.ne_of_lt I.bigM)),[],.nil,Heap.DictOf.new s.heap⟩
def ziX (i j:Int):Prop:=0<j/\j<2 ^ 128
theorem zc2:OpR X (binaryOp .FloorDiv) (rI ziX fun i j=>.int (i / j)):=opI fun i j _ _ _ _ _ hc q=>by
 have h1:(0:Int)<j:=hc.1
 have h2:j<2 ^ 128:=hc.2
 refine floordiv_int (by omega) (by rw [Int.fdiv_eq_ediv_of_nonneg i (by omega)];exact q) (.inl (PyProof.noPylong_of_log2 ?_))
 have h3:j.natAbs<2 ^ 128:=by omega
 have h4:j.natAbs.log2<128:=(Nat.log2_lt (by omega)).mpr h3
 omega
end
end L2
namespace L2
open PySem PySem.Spec PyProof.Rows
def Pl (X:Cx) (es:List Expr):Prop:=∀ pos,(backTo pos (starEach es X.env)).any (·.1)=false
def Hd (X:Cx):List Expr->Prop
 | []=>True
 | e::r=>starEach (e::r) X.env=(false,eval e X.env)::starEach r X.env/\Pl X r
structure PB (X:Cx) (es:List Expr) (t:TA):Prop where
 pa:PA X es t
 pl:Pl X es
 hd:Hd X es
section
variable {X:Cx}{es:List Expr}{t:TA}{te:TE}
theorem zbQ:PB X [] tNil:=⟨zeU,fun _=>rfl,trivial⟩
theorem za0 {e:Expr} (h:PE X e te) (hr:PB X es t) (hs:starEach (e::es) X.env=(false,eval e X.env)::starEach es X.env):PB X (e::es) (zc8 te t) :=
 ⟨zcF h hr.pa hs,fun pos=>by
  rw [hs]
  have:(backTo pos ((false,eval e X.env)::starEach es X.env)).any (·.1)=(false||(backTo pos (starEach es X.env)).any (·.1)):=rfl
  rw [this,hr.pl pos];rfl,hs,hr.pl⟩
theorem pb_i {i:Int}{j pos} (hr:PB X es t):PB X (.Constant (.int i) j pos::es) (zc8 (tC (.int i)) t):=za0 zaA hr rfl
theorem pb_v (i:Nat) {x:Str}{pos:Pos} (hr:PB X es t) (hN:X.N[i]?=some x:=by rfl) (hv:Vis X.env.scope x:=by first | exact Or.inl rfl | exact Or.inr (Or.inl rfl) | exact Or.inr (Or.inr rfl)) (hd:(x == ("__debug__":Str))=false:=by decide)
  (hcd:(x == ("__classdict__":Str))=false:=by decide):PB X (.Name x pos::es) (zc8 (tVar i) t):=za0 (zcm hN hv hd hcd) hr rfl
theorem zli {x:Str}{pos:Pos} (h:PE X (.Name x pos) te) (hr:PB X es t):PB X (.Name x pos::es) (zc8 te t):=za0 h hr rfl
theorem zkm {a b c d} (h:PE X (.BinOp a b c d) te) (hr:PB X es t):PB X (.BinOp a b c d::es) (zc8 te t):=za0 h hr rfl
theorem zm7 {a b c d} (h:PE X (.Compare a b c d) te) (hr:PB X es t):PB X (.Compare a b c d::es) (zc8 te t):=za0 h hr rfl
variable {e:Expr}{x:Str}{p pos:Pos}
theorem zld {x1} (h:PB X es t):PE X (.Tuple es x1 pos) (tTup t):=zmZ h.pa
theorem zhX (h:PB X es t):PE X (.List es pos) (tLst t):=zm5 h.pa
theorem zg9 {id:String}{r:List V->Hp->VK->Prop} (hc:zbG X (.builtin id) r) (hm:X.mg x=none) (hv:bootBuiltins x=some (.builtin id)) (h:PB X (e::es) t) (hg:Gl X x:=by rfl) (hn:x ≠ "__name__":=by decide) (hdb:(x == ("__debug__":Str))=false:=by decide) :
  PE X (.Call (.Name x p) (e::es) [] pos) (tCB r t):=zjG hc hg hm hv h.pa hn hdb h.hd.1 (h.hd.2 pos)
theorem zlg {T:String}{r:List V->Hp->VK->Prop} (hc:zbG X (.type T) r) (hm:X.mg x=none) (hv:bootBuiltins x=some (.type T)) (h:PB X (e::es) t) (hg:Gl X x:=by rfl) (hn:x ≠ "__name__":=by decide) (hdb:(x == ("__debug__":Str))=false:=by decide) :
  PE X (.Call (.Name x p) (e::es) [] pos) (tCB r t):=zeS hc hg hm hv h.pa hn hdb h.hd.1 (h.hd.2 pos)
end
end L2
namespace Bd
open PySem L2
structure Def (K:PySem.W.Frag) (mg:Str->Option Value) (x:Str) (st:Stmt) (ps:List Str) (f:Addr) (fd:FuncData):Prop where
 F:Fun K x x st f fd
 b:Binds K fd ps []
 m:mg x=some (.ref f)
section
variable {X:Cx}{k:Nat}{f:Addr}{fd:FuncData}{ps:List Str}{sp:Sp}{x:Str}{p pos:Pos}{e:Expr}{es:List Expr}{t:TA}{st:Stmt}
theorem zle (D:Def X.K X.mg x st ps f fd) (G:FnOk X.prog X.w X.K X.mg X.base CX0 k f fd ps sp) (hr:Room k X.A) (h:PB X (e::es) t) (hg:Gl X x:=by rfl)
  (hdb:(x == ("__debug__":Str))=false:=by decide):PE X (.Call (.Name x p) (e::es) [] pos) (zmt sp [] E0 t):=zlf G hr hg D.m D.F.kp D.b .nil zpu h.pa hdb h.hd.1 (h.hd.2 pos)
theorem zpr {T:String}{p:Pos} (hm:X.mg x=none) (hv:bootBuiltins x=some (.type T)) (hg:Gl X x:=by rfl) (hn:x ≠ "__name__":=by decide) (hd:(x == ("__debug__":Str))=false:=by decide):PE X (.Name x p) (tC (.ty T)) :=
 zlh hg hm hv rfl hn hd
end
theorem iteP {c A B:Prop}[Decidable c] (hc:c) (h:A):if decide c=true then A else B:=by
 rw [decide_eq_true hc]
 exact iteT h
theorem iteN {c A B:Prop}[Decidable c] (hc:¬c) (h:B):if decide c=true then A else B:=by
 rw [decide_eq_false hc]
 exact iteF h
theorem znF {c A B:Prop}[Decidable c] (h1:c->A) (h2:¬c->B):if decide c=true then A else B:=by
 by_cases h:c
 ·exact iteP h (h1 h)
 ·exact iteN h (h2 h)
theorem zge {α:Type}{xs:List α}{k:Int}{v:α} (h0:0<=k) (h:xs[k.toNat]?=some v):atI xs k=some v:=by
 obtain ⟨n,rfl⟩:=Int.eq_ofNat_of_zero_le h0
 exact zl7 h
theorem zc7 (k:Nat):(0:Int)<2 ^ k:=by
 have:(0:Nat)<2 ^ k:=Nat.two_pow_pos k
 have e:((2 ^ k:Nat):Int)=(2:Int) ^ k:=by simp
 omega
theorem zhT {k:Nat} (h:k<=64):(2:Int) ^ k<2 ^ 128:=by
 have:(2:Nat) ^ k<2 ^ 128:=Nat.pow_lt_pow_right (by decide) (by omega)
 have e:((2 ^ k:Nat):Int)=(2:Int) ^ k:=by simp
 omega
theorem zjv {k:Nat} (h:k<=64):(2:Int) ^ k<=2 ^ 64:=by
 have:(2:Nat) ^ k<=2 ^ 64:=Nat.pow_le_pow_right (by decide) (by omega)
 have e:((2 ^ k:Nat):Int)=(2:Int) ^ k:=by simp
 omega
theorem zjf {H:Hp}{p:Addr}{o:HO} (h:H p=none):Same H (upd H p o):=fun b u e=>by
 rw [zam (zaJ e h)];exact e
end Bd
namespace L2
open PySem PySem.Spec PyProof.Rows
theorem zl8 (k h:Nat):(k*2 ^ h) &&& (2 ^ h)=(k % 2)*2 ^ h:=by
 have e1:k*2 ^ h=k <<< h:=(Nat.shiftLeft_eq k h).symm
 have e2:(2:Nat) ^ h=1 <<< h:=by rw [Nat.shiftLeft_eq,Nat.one_mul]
 have e3:(k &&& 1) <<< h=k <<< h &&& 1 <<< h:=Nat.shiftLeft_and_distrib
 rw [e1]
 conv=>lhs;rw [e2]
 rw [<- e3,Nat.and_one_is_mod,Nat.shiftLeft_eq]
theorem zi7 {k:Int} (h:Nat) (k0:0<=k):Builtin.bitXor (k*2 ^ h) (2 ^ h)=if k % 2=0 then k*2 ^ h+2 ^ h else k*2 ^ h - 2 ^ h:=by
 obtain ⟨n,rfl⟩:=Int.eq_ofNat_of_zero_le k0
 have e0:((2 ^ h:Nat):Int)=(2:Int) ^ h:=by simp
 have e1:((n:Int)*2 ^ h)=((n*2 ^ h:Nat):Int):=by rw [Int.natCast_mul,e0]
 rw [bitXor_and,e1,<- e0,bitAnd_pp (Int.natCast_nonneg _) (Int.natCast_nonneg _)]
 have e2:((n*2 ^ h:Nat):Int).toNat &&& ((2 ^ h:Nat):Int).toNat=(n % 2)*2 ^ h:=by
  rw [Int.toNat_natCast,Int.toNat_natCast];exact zl8 n h
 rw [e2]
 rcases Nat.mod_two_eq_zero_or_one n with z | z
 ·have:((n:Int)) % 2=0:=by lia
  rw [if_pos this,z]
  simp
 ·have:¬((n:Int)) % 2=0:=by lia
  rw [if_neg this,z,Nat.one_mul]
  lia
end L2
namespace L2
open PySem PySem.Spec PyProof.Rows
def HAND:PyData:=.dict [(.none,.none)]
def SCR (ns:List Int):PyData:=.dict [(.none,.list (ns.map .int))]
def zg1 (H:Hp) (hd:Addr) (n:Int):Prop:=∃ d m t:Int,H hd=some (.lst [.int d,.int m,.int t])/\0<=m/\m<2 ^ 62/\0<=t/\t<=n
def StT (K:PySem.W.Frag) (a:Addr) (xs:List V):Prop :=
 ∃ (o:Obj) (its:Array Value) (n:Nat),K.lookup a=some o/\o.cls=.type "tuple" /\ o.data=.seq its n/\its.size<=sizeLine/\Vals xs its.toList/\o.dict=none
theorem StT.sq {K:PySem.W.Frag}{H:Hp}{a:Addr}{xs:List V} (h:StT K a xs):SqT K H a xs:=by
 obtain ⟨o,its,n,h1,h2,h3,h4,h5,_⟩:=h
 exact .inr ⟨o,its,n,h1,h2,h3,h4,h5⟩
def hsT (k:Int×Int):Int:=reduceHash (Builtin.Tuple.tupleHashOf [hashInt k.1,hashInt k.2])
def entZ (z:(Int×Int)×Addr×V) (e:DictEntry):Prop:=e.hash=hsT z.1/\e.key=.ref z.2.1/\RelV z.2.2 e.val
abbrev ZT:=List ((Int×Int)×Addr×V)
def ZDO (a:Addr) (zs:ZT):HO:=.ext fun h=>(a == sysModules)=false/\zs.length<=sizeLine/\(zs.map (·.1)).Nodup/\∃ o es ep,h.get? a=some o/\o.ExactDict/\o.data=.dict es ep/\Paired entZ zs es.toList
abbrev KT2:=List ((Int×Int)×PyData)
def kdD:Key->PyData
 | .inl i=>.int i
 | .inr x=>.str x
def blkT (k:Int×Int):PyData:=.tuple [.int k.1,.int k.2]
def zlV (ks:List (Key×PyData)):List (PyData×PyData):=ks.map fun q=>(kdD q.1,q.2)
def zlU (ks:KT2):List (PyData×PyData):=ks.map fun q=>(blkT q.1,q.2)
mutual
inductive Rep (K:PySem.W.Frag) (hd:Option Addr) (O:Addr->Prop) (H:Hp):V->PyData->Prop
 | non:Rep K hd O H .non .none
 | bl (b:Bool):Rep K hd O H (.bl b) (.bool b)
 | int (i:Int):Rep K hd O H (.int i) (.int i)
 | str (x:Str):Rep K hd O H (.str x) (.str x)
 | tup {a vs ds} (h:H a=some (.tup vs)) (o:¬O a) (r:Reps K hd O H vs ds):Rep K hd O H (.ref a) (.tuple ds)
 | tupS {a vs ds} (h:StT K a vs) (r:Reps K hd O H vs ds):Rep K hd O H (.ref a) (.tuple ds)
 | lst {a vs ds} (h:H a=some (.lst vs)) (o:¬O a) (r:Reps K hd O H vs ds):Rep K hd O H (.ref a) (.list ds)
 | dct {a} (h:H a=some (.dK [])) (o:¬O a):Rep K hd O H (.ref a) (.dict [])
 | dcK {a kvs ks ps} (h:H a=some (.dK kvs)) (o:¬O a) (r:RepsK K hd O H kvs ks) (e:ps=zlV ks):Rep K hd O H (.ref a) (.dict ps)
 | dcT {a zs ks ps} (h:H a=some (ZDO a zs)) (o:¬O a) (r:RepsT K hd O H zs ks) (e:ps=zlU ks):Rep K hd O H (.ref a) (.dict ps)
 | hand {a} (h:hd=some a):Rep K hd O H (.ref a) HAND
 | scr {a ns} (h:Rd H a (.lst (ns.map V.int))) (o:¬O a):Rep K hd O H (.ref a) (SCR ns)
 | scrS {a} {ns:List Int} (h:∀ H':Hp,SqL K H' a (ns.map V.int)):Rep K hd O H (.ref a) (SCR ns)
inductive Reps (K:PySem.W.Frag) (hd:Option Addr) (O:Addr->Prop) (H:Hp):List V->List PyData->Prop
 | nil:Reps K hd O H [] []
 | cons {v d vs ds} (h:Rep K hd O H v d) (r:Reps K hd O H vs ds):Reps K hd O H (v::vs) (d::ds)
inductive RepsK (K:PySem.W.Frag) (hd:Option Addr) (O:Addr->Prop) (H:Hp):List (Key×V)->List (Key×PyData)->Prop
 | nil:RepsK K hd O H [] []
 | cons {k v d kvs ks} (h:Rep K hd O H v d) (r:RepsK K hd O H kvs ks):RepsK K hd O H ((k,v)::kvs) ((k,d)::ks)
inductive RepsT (K:PySem.W.Frag) (hd:Option Addr) (O:Addr->Prop) (H:Hp):ZT->KT2->Prop
 | nil:RepsT K hd O H [] []
 | cons {k q v d zs ks} (h:Rep K hd O H (.ref q) (.tuple [.int k.1,.int k.2])) (h2:Rep K hd O H v d) (r:RepsT K hd O H zs ks):RepsT K hd O H ((k,q,v)::zs) ((k,d)::ks)
end
section
variable {K:PySem.W.Frag}{hd:Option Addr}{O O':Addr->Prop}{H H':Hp}
mutual
theorem Rep.mono (ho:∀ a o,H a=some o->O' a->O a) (hh:∀ a o,¬O a->H a=some o->H' a=some o):∀ {v d},Rep K hd O H v d->Rep K hd O' H' v d
 | _,_,.non=>.non
 | _,_,.bl b=>.bl b
 | _,_,.int i=>.int i
 | _,_,.str x=>.str x
 | _,_,.tup h o r=>.tup (hh _ _ o h) (fun z=>o (ho _ _ h z)) (Reps.mono ho hh r)
 | _,_,.tupS h r=>.tupS h (Reps.mono ho hh r)
 | _,_,.lst h o r=>.lst (hh _ _ o h) (fun z=>o (ho _ _ h z)) (Reps.mono ho hh r)
 | _,_,.dct h o=>.dct (hh _ _ o h) (fun z=>o (ho _ _ h z))
 | _,_,.dcK h o r e=>.dcK (hh _ _ o h) (fun z=>o (ho _ _ h z)) (RepsK.mono ho hh r) e
 | _,_,.dcT h o r e=>.dcT (hh _ _ o h) (fun z=>o (ho _ _ h z)) (RepsT.mono ho hh r) e
 | _,_,.hand h=>.hand h
 | _,_,.scr h o=>by
  rcases h with h | ⟨u,h⟩
  ·exact .scr (.inl (hh _ _ o h)) (fun z=>o (ho _ _ h z))
  ·exact .scr (.inr ⟨u,hh _ _ o h⟩) (fun z=>o (ho _ _ h z))
 | _,_,.scrS h=>.scrS h
theorem Reps.mono (ho:∀ a o,H a=some o->O' a->O a) (hh:∀ a o,¬O a->H a=some o->H' a=some o):∀ {vs ds},Reps K hd O H vs ds->Reps K hd O' H' vs ds
 | _,_,.nil=>.nil
 | _,_,.cons h r=>.cons (Rep.mono ho hh h) (Reps.mono ho hh r)
theorem RepsK.mono (ho:∀ a o,H a=some o->O' a->O a) (hh:∀ a o,¬O a->H a=some o->H' a=some o):∀ {vs ds},RepsK K hd O H vs ds->RepsK K hd O' H' vs ds
 | _,_,.nil=>.nil
 | _,_,.cons h r=>.cons (Rep.mono ho hh h) (RepsK.mono ho hh r)
theorem RepsT.mono (ho:∀ a o,H a=some o->O' a->O a) (hh:∀ a o,¬O a->H a=some o->H' a=some o):∀ {vs ds},RepsT K hd O H vs ds->RepsT K hd O' H' vs ds
 | _,_,.nil=>.nil
 | _,_,.cons h h2 r=>.cons (Rep.mono ho hh h) (Rep.mono ho hh h2) (RepsT.mono ho hh r)
end
theorem dict_noK {ks:List (Key×PyData)}{v:PyData}{r:List (PyData×PyData)} (e:(PyData.none,v)::r=zlV ks):False:=by
 cases ks with
 | nil=>cases e
 | cons q ks=>obtain ⟨k,d⟩:=q;cases k <;> cases e
theorem dict_noT {ks:KT2}{v:PyData}{r:List (PyData×PyData)} (e:(PyData.none,v)::r=zlU ks):False:=by
 cases ks with
 | nil=>cases e
 | cons q ks=>cases e
theorem Reps.length:∀ {vs ds},Reps K hd O H vs ds->vs.length=ds.length
 | _,_,.nil=>rfl
 | _,_,.cons _ r=>by simp [Reps.length r]
theorem Reps.get:∀ {vs ds}{i:Nat}{d},Reps K hd O H vs ds->ds[i]?=some d->∃ v,vs[i]?=some v/\Rep K hd O H v d
 | _,_,_,_,.nil,e=>by simp at e
 | _,_,0,_,.cons h _,e=>by simp at e;subst e;exact ⟨_,rfl,h⟩
 | _,_,i+1,_,.cons _ r,e=>by
  obtain ⟨v,h1,h2⟩:=Reps.get (i:=i) r (by simpa using e)
  exact ⟨v,by simpa using h1,h2⟩
theorem Reps.append:∀ {vs ws ds es},Reps K hd O H vs ds->Reps K hd O H ws es->Reps K hd O H (vs++ws) (ds++es)
 | _,_,_,_,.nil,s=>s
 | _,_,_,_,.cons h r,s=>.cons h (Reps.append r s)
theorem Reps.take:∀ {vs ds} (n:Nat),Reps K hd O H vs ds->Reps K hd O H (vs.take n) (ds.take n)
 | _,_,0,_=>.nil
 | _,_,_+1,.nil=>.nil
 | _,_,n+1,.cons h r=>.cons h (Reps.take n r)
theorem Reps.drop:∀ {vs ds} (n:Nat),Reps K hd O H vs ds->Reps K hd O H (vs.drop n) (ds.drop n)
 | _,_,0,r=>r
 | _,_,_+1,.nil=>.nil
 | _,_,n+1,.cons _ r=>Reps.drop n r
theorem Rep.tupI {v:V}{ds:List PyData} (h:Rep K hd O H v (.tuple ds)):∃ a vs,v=.ref a/\SqT K H a vs/\Reps K hd O H vs ds:=by
 cases h with
 | tup h o r=>exact ⟨_,_,rfl,.inl (.inl h),r⟩
 | tupS h r=>exact ⟨_,_,rfl,h.sq,r⟩
theorem Rep.lstI {v:V}{ds:List PyData} (h:Rep K hd O H v (.list ds)):∃ a vs,v=.ref a/\H a=some (.lst vs)/\¬O a/\Reps K hd O H vs ds:=by
 cases h with
 | lst h o r=>exact ⟨_,_,rfl,h,o,r⟩
theorem Rep.intI {v:V}{i:Int} (h:Rep K hd O H v (.int i)):v=.int i:=by cases h;rfl
theorem Rep.blI {v:V}{b:Bool} (h:Rep K hd O H v (.bool b)):v=.bl b:=by cases h;rfl
theorem Rep.strI {v:V}{x:Str} (h:Rep K hd O H v (.str x)):v=.str x:=by cases h;rfl
theorem Rep.nonI {v:V} (h:Rep K hd O H v .none):v=.non:=by cases h;rfl
theorem Rep.handI {v:V} (h:Rep K hd O H v HAND):∃ a,v=.ref a/\hd=some a:=by
 generalize e:HAND=d at h
 cases h with
 | hand h=>exact ⟨_,rfl,h⟩
 | dct _ _=>cases e
 | dcK _ _ _ e'=>cases e;exact (dict_noK e').elim
 | dcT _ _ _ e'=>cases e;exact (dict_noT e').elim
 | scr _ _=>simp [HAND,SCR] at e
 | scrS _=>simp [HAND,SCR] at e
 | _=>cases e
theorem Rep.scrI {v:V}{ns:List Int} (h:Rep K hd O H v (SCR ns)):∃ a,v=.ref a/\SqL K H a (ns.map V.int):=by
 generalize e:SCR ns=d at h
 cases h with
 | hand h=>simp [HAND,SCR] at e
 | dct _ _=>cases e
 | dcK _ _ _ e'=>cases e;exact (dict_noK e').elim
 | dcT _ _ _ e'=>cases e;exact (dict_noT e').elim
 | @scr a ms h o =>
  have:ns=ms:=by
   have e':(ns.map PyData.int)=ms.map PyData.int:=by simpa [SCR] using e
   have:=congrArg (List.map fun x=>match x with | PyData.int i=>i | _=>0) e'
   simpa [List.map_map,Function.comp_def] using this
  subst this
  exact ⟨_,rfl,.inl h⟩
 | @scrS a ms h =>
  have:ns=ms:=by
   have e':(ns.map PyData.int)=ms.map PyData.int:=by simpa [SCR] using e
   have:=congrArg (List.map fun x=>match x with | PyData.int i=>i | _=>0) e'
   simpa [List.map_map,Function.comp_def] using this
  subst this
  exact ⟨_,rfl,h H⟩
 | _=>cases e
end
mutual
def zbR:PyData->Bool
 | .list _=>false
 | .tuple ts=>ze1 ts
 | .dict [(.none,.none)]=>true
 | .dict _=>false
 | _=>true
def ze1:List PyData->Bool
 | []=>true
 | t::ts=>zbR t&&ze1 ts
end
section
variable {K:PySem.W.Frag}{hd:Option Addr}{O O':Addr->Prop}{H:Hp}
theorem zlq {ks:List (Key×PyData)} (e:zbR (.dict (zlV ks))=true):False:=by
 unfold zbR at e
 split at e
 ·rename_i h;cases h
 ·rename_i h;cases h
 ·rename_i h;exact dict_noK (PyData.dict.inj h).symm
 ·cases e
 ·rename_i h;exact h _ rfl
theorem zlp {ks:KT2} (e:zbR (.dict (zlU ks))=true):False:=by
 unfold zbR at e
 split at e
 ·rename_i h;cases h
 ·rename_i h;cases h
 ·rename_i h;exact dict_noT (PyData.dict.inj h).symm
 ·cases e
 ·rename_i h;exact h _ rfl
def MutO (o:Option HO):Prop:=(∃ xs,o=some (.lst xs))\/(∃ ks,o=some (.dK ks))\/∃ a zs,o=some (ZDO a zs)
mutual
theorem Rep.up (ho:∀ a,O a->MutO (H a)):∀ {v d},Rep K hd O' H v d->zbR d=true->Rep K hd O H v d
 | _,_,.non,_=>.non
 | _,_,.bl b,_=>.bl b
 | _,_,.int i,_=>.int i
 | _,_,.str x,_=>.str x
 | _,_,.tup h _ r,e=>.tup h (fun z=>by rcases ho _ z with ⟨xs,q⟩ | ⟨xs,q⟩ | ⟨xs,zs,q⟩ <;> (rw [h] at q;cases q)) (Reps.up ho r (by simpa [zbR] using e))
 | _,_,.tupS h r,e=>.tupS h (Reps.up ho r (by simpa [zbR] using e))
 | _,_,.lst _ _ _,e=>by simp [zbR] at e
 | _,_,.dct h _,e=>by simp [zbR] at e
 | _,_,.dcK _ _ _ e',e=>by subst e';exact (zlq e).elim
 | _,_,.dcT _ _ _ e',e=>by subst e';exact (zlp e).elim
 | _,_,.hand h,_=>.hand h
 | _,_,.scr _ _,e=>by simp [SCR,zbR] at e
 | _,_,.scrS _,e=>by simp [SCR,zbR] at e
theorem Reps.up (ho:∀ a,O a->MutO (H a)):∀ {vs ds},Reps K hd O' H vs ds->ze1 ds=true->Reps K hd O H vs ds
 | _,_,.nil,_=>.nil
 | _,_,.cons h r,e=>by
  simp only [ze1,Bool.and_eq_true] at e
  exact .cons (Rep.up ho h e.1) (Reps.up ho r e.2)
end
end
section
variable {X:Cx}{pins:List (Addr×Obj)}{σ:St}{H:Hp}{s:Shared}{hd:Option Addr}{O:Addr->Prop}
mutual
theorem Rep.reads (I:Inv X pins σ H s):∀ {v:V}{d:PyData}{u:Value},Rep X.K hd O H v d->RelV v u->d.hasDict=false->∃ as,Reads s.heap u d as
 | _,_,_,.non,r,_=>by cases r;exact ⟨_,.none⟩
 | _,_,_,.bl b,r,_=>by cases r;exact ⟨_,.bool b⟩
 | _,_,_,.int i,r,_=>by obtain ⟨t,rfl⟩:=r;exact ⟨_,.int i t⟩
 | _,_,_,.str x,r,_=>by obtain ⟨t,rfl⟩:=r;exact ⟨_,.str x t⟩
 | _,_,_,.tup (a:=a) (vs:=vs) h _ q,r,e=>by
  cases r
  obtain ⟨its,rv,p,_⟩:=I.tuple (xs:=vs) (.inl (.inl h))
  obtain ⟨o,ho,hc,n,hdat⟩:=p
  obtain ⟨as,ra⟩:=Reps.reads I q rv (by simpa [PyData.hasDict] using e)
  exact ⟨_,.tuple ho hc hdat (by simpa using ra)⟩
 | _,_,_,.tupS (a:=a) (vs:=vs) h q,r,e=>by
  cases r
  obtain ⟨its,rv,p,_⟩:=I.tuple (xs:=vs) h.sq
  obtain ⟨o,ho,hc,n,hdat⟩:=p
  obtain ⟨as,ra⟩:=Reps.reads I q rv (by simpa [PyData.hasDict] using e)
  exact ⟨_,.tuple ho hc hdat (by simpa using ra)⟩
 | _,_,_,.lst (a:=a) (vs:=vs) h _ q,r,e=>by
  cases r
  obtain ⟨its,rv,p,_⟩:=I.list (xs:=vs) (.inl (.inl h))
  obtain ⟨o,n,ho,hc,_,hdat⟩:=p
  obtain ⟨as,ra⟩:=Reps.reads I q rv (by simpa [PyData.hasDict] using e)
  exact ⟨_,.list ho hc hdat (by simpa using ra)⟩
 | _,_,_,.dct _ _,_,e=>by simp [PyData.hasDict] at e
 | _,_,_,.dcK _ _ _ _,_,e=>by simp [PyData.hasDict] at e
 | _,_,_,.dcT _ _ _ _,_,e=>by simp [PyData.hasDict] at e
 | _,_,_,.hand _,_,e=>by simp [HAND,PyData.hasDict] at e
 | _,_,_,.scr _ _,_,e=>by simp [SCR,PyData.hasDict] at e
 | _,_,_,.scrS _,_,e=>by simp [SCR,PyData.hasDict] at e
theorem Reps.reads (I:Inv X pins σ H s):∀ {vs:List V}{ds:List PyData}{us:List Value},Reps X.K hd O H vs ds->Vals vs us->PyData.hasDictAll ds=false->∃ as,ReadsAll s.heap us ds as
 | _,_,_,.nil,r,_=>by cases r;exact ⟨_,.nil⟩
 | _,_,_,.cons h q,r,e=>by
  cases r with
  | cons r1 r2 =>
   have e':=e
   simp only [PyData.hasDictAll,Bool.or_eq_false_iff] at e'
   obtain ⟨as,ra⟩:=Rep.reads I h r1 e'.1
   obtain ⟨bs,rb⟩:=Reps.reads I q r2 e'.2
   exact ⟨_,.cons ra rb⟩
end
end
inductive Cell where
 | val (d:PyData)
 | own (ds:List PyData)
 | dct (ks:List (Key×PyData))
 | rdo (ks:List (Key×PyData))
 | dtt (ks:KT2)
def Cell.mine:Cell->Bool
 | .val _=>false
 | .own _=>true
 | .dct _=>true
 | .rdo _=>false
 | .dtt _=>true
def zgg (K:PySem.W.Frag) (hd:Option Addr) (O:Addr->Prop) (H:Hp) (kvs:List (Key×V)) (ks:List (Key×PyData)):Prop:=Paired (fun (p:Key×V) (q:Key×PyData)=>p.1=q.1/\Rep K hd O H p.2 q.2) kvs ks
theorem zgg.mono {K:PySem.W.Frag}{hd:Option Addr}{O O':Addr->Prop}{H H':Hp} (ho:∀ a o,H a=some o->O' a->O a) (hh:∀ a o,¬O a->H a=some o->H' a=some o) {kvs:List (Key×V)}{ks:List (Key×PyData)} (r:zgg K hd O H kvs ks):zgg K hd O' H' kvs ks :=
 Paired.mapP r fun _ _ z=>⟨z.1,z.2.mono ho hh⟩
abbrev En:=List (Option Cell)
structure Ctx where
 hd:Option Addr
 ext:Addr->Prop
def OwnS (ρ:En) (σ:St) (a:Addr):Prop:=∃ (i:Nat) (c:Cell),c.mine=true/\ρ[i]?=some (some c)/\σ[i]?=some (some (V.ref a))
def Own (C:Ctx) (ρ:En) (σ:St) (a:Addr):Prop:=C.ext a\/OwnS ρ σ a
def Hn (hd:Option Addr) (H:Hp) (n:Nat):Prop:=∀ a,hd=some a->zg1 H a n
structure Stt (K:PySem.W.Frag) (C:Ctx) (ρ:En) (σ:St) (H:Hp) (n:Nat):Prop where
 len:ρ.length=σ.length
 val:∀ (i:Nat) (d:PyData),ρ[i]?=some (some (Cell.val d))->∃ v,σ[i]?=some (some v)/\Rep K C.hd (Own C ρ σ) H v d
 own:∀ (i:Nat) (ds:List PyData),ρ[i]?=some (some (Cell.own ds))->∃ a vs,σ[i]?=some (some (V.ref a))/\H a=some (.lst vs)/\Reps K C.hd (Own C ρ σ) H vs ds/\¬C.ext a
 dct:∀ (i:Nat) (ks:List (Key×PyData)),ρ[i]?=some (some (Cell.dct ks))->∃ a kvs,σ[i]?=some (some (V.ref a))/\H a=some (.dK kvs)/\zgg K C.hd (Own C ρ σ) H kvs ks/\¬C.ext a
 rdo:∀ (i:Nat) (ks:List (Key×PyData)),ρ[i]?=some (some (Cell.rdo ks))->∃ a kvs,σ[i]?=some (some (V.ref a))/\H a=some (.dK kvs)/\zgg K C.hd (Own C ρ σ) H kvs ks/\C.ext a/\C.hd≠some a
 dtt:∀ (i:Nat) (ks:KT2),ρ[i]?=some (some (Cell.dtt ks))->∃ a zs,σ[i]?=some (some (V.ref a))/\H a=some (ZDO a zs)/\RepsT K C.hd (Own C ρ σ) H zs ks/\¬C.ext a
 dif:∀ (i j:Nat) (c e:Cell) (a:Addr),c.mine=true->e.mine=true->ρ[i]?=some (some c)->ρ[j]?=some (some e)->σ[i]?=some (some (V.ref a))->σ[j]?=some (some (V.ref a))->i=j
 hnd:Hn C.hd H n
 ext:∀ a,C.ext a->MutO (H a)
 hx:∀ a,C.hd=some a->C.ext a
def ExtE (hd:Option Addr) (H H':Hp):Prop:=∀ a o,H a=some o->hd≠some a->H' a=some o
theorem ExtE.refl {hd:Option Addr}{H:Hp}:ExtE hd H H:=fun _ _ h _=>h
theorem ExtE.trans {hd:Option Addr}{H H1 H2:Hp} (a:ExtE hd H H1) (b:ExtE hd H1 H2):ExtE hd H H2:=fun c o h n=>b c o (a c o h n) n
theorem ExtE.new {hd:Option Addr}{H:Hp}{p:Addr}{o:HO} (h:H p=none):ExtE hd H (upd H p o):=fun b u e _=>by
 rw [zam (zaJ e h)];exact e
section
variable {K:PySem.W.Frag}{C:Ctx}{ρ:En}{σ:St}{H H':Hp}{n n':Nat}
theorem MutO.ne {o:Option HO} (h:MutO o):o≠none:=by
 rcases h with ⟨_,rfl⟩ | ⟨_,rfl⟩ | ⟨_,_,rfl⟩ <;> exact fun z=>by cases z
theorem Stt.at (S:Stt K C ρ σ H n) {i:Nat}{c:Cell} (m:c.mine=true) (h1:ρ[i]?=some (some c)):∃ a:Addr,σ[i]?=some (some (V.ref a))/\MutO (H a)/\¬C.ext a:=by
 cases c with
 | val d=>cases m
 | own ds =>
  obtain ⟨a,vs,e1,e2,_,e4⟩:=S.own i ds h1
  exact ⟨a,e1,.inl ⟨_,e2⟩,e4⟩
 | dct ks =>
  obtain ⟨a,vs,e1,e2,_,e4⟩:=S.dct i ks h1
  exact ⟨a,e1,.inr (.inl ⟨_,e2⟩),e4⟩
 | rdo ks=>cases m
 | dtt ks =>
  obtain ⟨a,vs,e1,e2,_,e4⟩:=S.dtt i ks h1
  exact ⟨a,e1,.inr (.inr ⟨_,_,e2⟩),e4⟩
theorem Stt.lst (S:Stt K C ρ σ H n) {a:Addr} (h:Own C ρ σ a):MutO (H a):=by
 rcases h with h | ⟨i,c,m,h1,h2⟩
 ·exact S.ext a h
 ·obtain ⟨b,e1,e2,_⟩:=S.at m h1
  rw [h2] at e1;cases e1
  exact e2
theorem Stt.dom (S:Stt K C ρ σ H n) {a:Addr} (h:Own C ρ σ a):H a≠none:=(S.lst h).ne
theorem Stt.free (S:Stt K C ρ σ H n) {a:Addr} (h:H a=none):¬Own C ρ σ a:=fun z=>S.dom z h
theorem ExtE.rep (e:ExtE C.hd H H') (hx:∀ a,C.hd=some a->C.ext a) {v d} (r:Rep K C.hd (Own C ρ σ) H v d):Rep K C.hd (Own C ρ σ) H' v d :=
 r.mono (fun _ _ _ z=>z) fun a o no h=>e a o h fun z=>no (.inl (hx a z))
theorem ExtE.reps (e:ExtE C.hd H H') (hx:∀ a,C.hd=some a->C.ext a) {v d} (r:Reps K C.hd (Own C ρ σ) H v d):Reps K C.hd (Own C ρ σ) H' v d :=
 r.mono (fun _ _ _ z=>z) fun a o no h=>e a o h fun z=>no (.inl (hx a z))
theorem Stt.on (S:Stt K C ρ σ H n) (e:ExtE C.hd H H') (h:Hn C.hd H' n'):Stt K C ρ σ H' n' where
 len:=S.len
 val:=fun i d hi=>by
  obtain ⟨v,h1,h2⟩:=S.val i d hi
  exact ⟨v,h1,e.rep S.hx h2⟩
 own:=fun i ds hi=>by
  obtain ⟨a,vs,h1,h2,h3,h4⟩:=S.own i ds hi
  exact ⟨a,vs,h1,e a _ h2 fun z=>h4 (S.hx a z),e.reps S.hx h3,h4⟩
 dct:=fun i ks hi=>by
  obtain ⟨a,vs,h1,h2,h3,h4⟩:=S.dct i ks hi
  exact ⟨a,vs,h1,e a _ h2 fun z=>h4 (S.hx a z),Paired.mapP h3 fun _ _ z=>⟨z.1,e.rep S.hx z.2⟩,h4⟩
 rdo:=fun i ks hi=>by
  obtain ⟨a,vs,h1,h2,h3,h4,h5⟩:=S.rdo i ks hi
  exact ⟨a,vs,h1,e a _ h2 h5,Paired.mapP h3 fun _ _ z=>⟨z.1,e.rep S.hx z.2⟩,h4,h5⟩
 dtt:=fun i ks hi=>by
  obtain ⟨a,vs,h1,h2,h3,h4⟩:=S.dtt i ks hi
  exact ⟨a,vs,h1,e a _ h2 fun z=>h4 (S.hx a z),h3.mono (fun _ _ _ z=>z) (fun a o no h=>e a o h fun z=>no (.inl (S.hx a z))),h4⟩
 dif:=S.dif
 hnd:=h
 ext:=fun a ha=>by
  by_cases z:C.hd=some a
  ·obtain ⟨d,m,t,q,_⟩:=h a z
   exact .inl ⟨_,q⟩
  ·rcases S.ext a ha with ⟨xs,q⟩ | ⟨xs,q⟩ | ⟨b,xs,q⟩
   ·exact .inl ⟨xs,e a _ q z⟩
   ·exact .inr (.inl ⟨xs,e a _ q z⟩)
   ·exact .inr (.inr ⟨b,xs,e a _ q z⟩)
 hx:=S.hx
end
abbrev DTE:=En->Nat->(PyData->Nat->Prop)->Prop
abbrev DTT:=En->Nat->(Bool->Nat->Prop)->Prop
abbrev DTA:=En->Nat->(List PyData->Nat->Prop)->Prop
def DE (X:Cx) (e:Expr) (d:DTE):Prop:=∃ te,PE X e te/\∀ (C:Ctx) (ρ:En) (σ:St) (H:Hp) (n:Nat) (Q:VK) (R:PyData->Nat->Prop),Stt X.K C ρ σ H n->d ρ n R ->
 (∀ t n' v H',R t n'->ExtE C.hd H H'->Hn C.hd H' n'->Rep X.K C.hd (Own C ρ σ) H' v t->Q v H')->te σ H Q
def RepT (K:PySem.W.Frag) (hd:Option Addr) (O:Addr->Prop) (H:Hp) (v:V) (t:PyData):Prop :=
 Rep K hd O H v t\/∃ a vs ds,v=.ref a/\t=.list ds/\H a=some (.lst vs)/\Reps K hd O H vs ds/\hd≠some a
def DL (X:Cx) (e:Expr) (d:DTE):Prop:=∃ te,PE X e te/\∀ (C:Ctx) (ρ:En) (σ:St) (H:Hp) (n:Nat) (Q:VK) (R:PyData->Nat->Prop),Stt X.K C ρ σ H n->d ρ n R ->
 (∀ t n' v H',R t n'->ExtE C.hd H H'->Hn C.hd H' n'->RepT X.K C.hd (Own C ρ σ) H' v t->Q v H')->te σ H Q
def DN (X:Cx) (e:Expr) (d:DTA):Prop:=∃ te,PE X e te/\∀ (C:Ctx) (ρ:En) (σ:St) (H:Hp) (n:Nat) (Q:VK) (R:List PyData->Nat->Prop),Stt X.K C ρ σ H n->d ρ n R ->
 (∀ ts n' p vs H',R ts n'->ExtE C.hd H H'->Hn C.hd H' n'->H p=none->H' p=some (.lst vs)->Reps X.K C.hd (fun a=>Own C ρ σ a\/a=p) H' vs ts->Q (.ref p) H')->te σ H Q
def DT (X:Cx) (e:Expr) (d:DTT):Prop:=∃ te,PT X e te/\∀ (C:Ctx) (ρ:En) (σ:St) (H:Hp) (n:Nat) (Q:Bool->Hp->Prop) (R:Bool->Nat->Prop),Stt X.K C ρ σ H n->d ρ n R ->
 (∀ b n' H',R b n'->ExtE C.hd H H'->Hn C.hd H' n'->Q b H')->te σ H Q
def DW (X:Cx) (e:Expr) (d:DTT):Prop:=∃ te,PW X e te/\∀ (C:Ctx) (ρ:En) (σ:St) (H:Hp) (n:Nat) (Q:Bool->Hp->Prop) (R:Bool->Nat->Prop),Stt X.K C ρ σ H n->d ρ n R ->
 (∀ b n' H',R b n'->ExtE C.hd H H'->Hn C.hd H' n'->Q b H')->te σ H Q
def DB (X:Cx) (es:List Expr) (d:DTA):Prop:=∃ ta,PB X es ta/\∀ (C:Ctx) (ρ:En) (σ:St) (H:Hp) (n:Nat) (Q:List V->Hp->Prop) (R:List PyData->Nat->Prop),Stt X.K C ρ σ H n->d ρ n R ->
 (∀ ts n' vs H',R ts n'->ExtE C.hd H H'->Hn C.hd H' n'->Reps X.K C.hd (Own C ρ σ) H' vs ts->ts.length=es.length->Q vs H')->ta σ H Q
section
variable {X:Cx}{e a b c:Expr}{es:List Expr}{d da db dc:DTE}{pos:Pos}
theorem dl (h:DE X e d):DL X e d:=by
 obtain ⟨te,p,h⟩:=h
 exact ⟨te,p,fun C ρ σ H n Q R S hd hq=>h C ρ σ H n Q R S hd fun t n' v H' r e h1 h2=>hq t n' v H' r e h1 (.inl h2)⟩
def dNew (d:DTA):DTE:=fun ρ n R=>d ρ n fun ts n'=>R (.list ts) n'
theorem za1 {d:DTA} (h:DN X e d):DE X e (dNew d):=by
 obtain ⟨te,p,h⟩:=h
 refine ⟨te,p,fun C ρ σ H n Q R S hd hq=>h C ρ σ H n Q _ S hd fun ts n' p vs H' r e h1 h2 h3 h4=>hq _ n' _ H' r e h1 (.lst h3 (S.free h2) (h4.mono (fun _ _ _ z=>.inl z) fun _ _ _ z=>z))⟩
def dVar (i:Nat):DTE:=fun ρ n R=>match ρ[i]? with | some (some (Cell.val d))=>R d n | _=>False
def dOwn (i:Nat):DTE:=fun ρ n R=>match ρ[i]? with | some (some (Cell.own d))=>R (.list d) n | _=>False
def dC (t:PyData):DTE:=fun _ n R=>R t n
theorem zab (i:Nat) {x:Str}{pos:Pos} (hN:X.N[i]?=some x:=by rfl) (hv:Vis X.env.scope x:=by first | exact Or.inl rfl | exact Or.inr (Or.inl rfl) | exact Or.inr (Or.inr rfl)) (hd:(x == ("__debug__":Str))=false:=by decide)
  (hcd:(x == ("__classdict__":Str))=false:=by decide):DE X (.Name x pos) (dVar i):=by
 refine ⟨_,zcm hN hv hd hcd,fun C ρ σ H n Q R S h hq=>?_⟩
 unfold dVar at h
 split at h
 ·rename_i d e
  obtain ⟨v,h1,h2⟩:=S.val i d e
  exact ⟨v,h1,hq d n v H h ExtE.refl S.hnd h2⟩
 ·exact h.elim
theorem ziC (i:Nat) {x:Str}{pos:Pos} (hN:X.N[i]?=some x:=by rfl) (hv:Vis X.env.scope x:=by first | exact Or.inl rfl | exact Or.inr (Or.inl rfl) | exact Or.inr (Or.inr rfl)) (hd:(x == ("__debug__":Str))=false:=by decide)
  (hcd:(x == ("__classdict__":Str))=false:=by decide):DL X (.Name x pos) (dOwn i):=by
 refine ⟨_,zcm hN hv hd hcd,fun C ρ σ H n Q R S h hq=>?_⟩
 unfold dOwn at h
 split at h
 ·rename_i ds e
  obtain ⟨p,vs,h1,h2,h3,h4⟩:=S.own i ds e
  exact ⟨.ref p,h1,hq _ n _ H h ExtE.refl S.hnd (.inr ⟨p,vs,ds,rfl,rfl,h2,h3,fun z=>h4 (S.hx p z)⟩)⟩
 ·exact h.elim
theorem zad {i j pos}:DE X (.Constant (.int i) j pos) (dC (.int i)):=⟨_,zaA,fun _ _ _ H n _ _ S h hq=>hq _ n _ H h ExtE.refl S.hnd (.int i)⟩
theorem zb5 {b j pos}:DE X (.Constant (.bool b) j pos) (dC (.bool b)):=⟨_,zpt,fun _ _ _ H n _ _ S h hq=>hq _ n _ H h ExtE.refl S.hnd (.bl b)⟩
theorem zd0 {j pos}:DE X (.Constant .none j pos) (dC .none):=⟨_,zm4,fun _ _ _ H n _ _ S h hq=>hq _ n _ H h ExtE.refl S.hnd .non⟩
theorem ziH {x j pos}:DE X (.Constant (.str x) j pos) (dC (.str x)):=⟨_,zm0,fun _ _ _ H n _ _ S h hq=>hq _ n _ H h ExtE.refl S.hnd (.str x)⟩
end
end L2
namespace L2
open PySem PySem.Spec PyProof.Rows
section
variable {K:PySem.W.Frag}{hd:Option Addr}{O:Addr->Prop}{H H':Hp}{v:V}{t:PyData}{n:Nat}
theorem Same.ext (h:Same H H'):ExtE hd H H':=fun a o e _=>h a o e
theorem Hn.same (h:Hn hd H n) (s:Same H H'):Hn hd H' n:=fun a e=>by
 obtain ⟨d,m,t,q,r⟩:=h a e
 exact ⟨d,m,t,s _ _ q,r⟩
theorem Rep.same (s:Same H H') (r:Rep K hd O H v t):Rep K hd O H' v t:=r.mono (fun _ _ _ z=>z) fun a o _ h=>s a o h
theorem Reps.same {vs ts} (s:Same H H') (r:Reps K hd O H vs ts):Reps K hd O H' vs ts:=r.mono (fun _ _ _ z=>z) fun a o _ h=>s a o h
theorem ExtE.repT {C:Ctx}{ρ:En}{σ:St} (e:ExtE C.hd H H') (hx:∀ a,C.hd=some a->C.ext a) (r:RepT K C.hd (Own C ρ σ) H v t):RepT K C.hd (Own C ρ σ) H' v t:=by
 rcases r with r | ⟨a,vs,ds,h1,h2,h3,h4,h5⟩
 ·exact .inl (e.rep hx r)
 ·exact .inr ⟨a,vs,ds,h1,h2,e _ _ h3 h5,e.reps hx h4,h5⟩
theorem RepT.lstI {ds} (h:RepT K hd O H v (.list ds)):∃ a vs,v=.ref a/\H a=some (.lst vs)/\Reps K hd O H vs ds:=by
 rcases h with h | ⟨a,vs,es,h1,h2,h3,h4,_⟩
 ·obtain ⟨a,vs,h1,h2,_,h3⟩:=h.lstI
  exact ⟨a,vs,h1,h2,h3⟩
 ·cases h2
  exact ⟨a,vs,h1,h3,h4⟩
theorem RepT.tupI {ds} (h:RepT K hd O H v (.tuple ds)):∃ a vs,v=.ref a/\SqT K H a vs/\Reps K hd O H vs ds:=by
 rcases h with h | ⟨a,vs,es,h1,h2,h3,h4,_⟩
 ·exact h.tupI
 ·cases h2
theorem RepT.rep (h:RepT K hd O H v t) (nl:∀ ds,t≠.list ds):Rep K hd O H v t:=by
 rcases h with h | ⟨a,vs,es,h1,h2,h3,h4,_⟩
 ·exact h
 ·exact absurd h2 (nl es)
theorem RepT.intI {i} (h:RepT K hd O H v (.int i)):v=.int i:=(h.rep (by intro _ z;cases z)).intI
theorem RepT.blI {i} (h:RepT K hd O H v (.bool i)):v=.bl i:=(h.rep (by intro _ z;cases z)).blI
theorem RepT.strI {i} (h:RepT K hd O H v (.str i)):v=.str i:=(h.rep (by intro _ z;cases z)).strI
theorem RepT.nonI (h:RepT K hd O H v .none):v=.non:=(h.rep (by intro _ z;cases z)).nonI
theorem Rep.newT {p:Addr}{vs ts} (no:¬O p) (h:H p=none) (r:Reps K hd O H vs ts):Rep K hd O (upd H p (.tup vs)) (.ref p) (.tuple ts) :=
 .tup zao no (r.same (fun b u e=>by rw [zam (zaJ e h)];exact e))
end
theorem zav {H:Hp}{p:Addr}{o:HO} (h:H p=none):Same H (upd H p o):=fun b u e=>by
 rw [zam (zaJ e h)];exact e
abbrev G2:=PyData->PyData->(PyData->Prop)->Prop
def dOp (g:G2) (da db:DTE):DTE:=fun ρ n R=>da ρ n fun x n1=>db ρ n1 fun y n2=>g x y fun z=>R z n2
def Gp2 (X:Cx) (r:R2) (g:G2):Prop:=∀ (hd:Option Addr) (O:Addr->Prop) (H:Hp) (x y:V) (t u:PyData) (Q:VK) (R:PyData->Prop),(∀ p,O p->H p≠none)->RepT X.K hd O H x t->RepT X.K hd O H y u->g t u R ->
 (∀ z v H',R z->Same H H'->Rep X.K hd O H' v z->Q v H')->r x y H Q
section
variable {X:Cx}{a b c:Expr}{da db dc:DTE}{pos:Pos}{r r':R2}{g g':G2}
theorem two {C:Ctx}{ρ:En}{σ:St}{H:Hp}{n:Nat}{ta tb:TE} (ha:∀ (C:Ctx) (ρ:En) (σ:St) (H:Hp) (n:Nat) (Q:VK) (R:PyData->Nat->Prop),Stt X.K C ρ σ H n->da ρ n R ->
  (∀ t n' v H',R t n'->ExtE C.hd H H'->Hn C.hd H' n'->RepT X.K C.hd (Own C ρ σ) H' v t->Q v H')->ta σ H Q)
  (hb:∀ (C:Ctx) (ρ:En) (σ:St) (H:Hp) (n:Nat) (Q:VK) (R:PyData->Nat->Prop),Stt X.K C ρ σ H n->db ρ n R ->
  (∀ t n' v H',R t n'->ExtE C.hd H H'->Hn C.hd H' n'->RepT X.K C.hd (Own C ρ σ) H' v t->Q v H')->tb σ H Q)
  {Q2:V->V->Hp->Prop} {R2:PyData->PyData->Nat->Prop} (S:Stt X.K C ρ σ H n) (h:da ρ n fun x n1=>db ρ n1 fun y n2=>R2 x y n2)
  (hq:∀ x y n2 v w H2,R2 x y n2->ExtE C.hd H H2->Stt X.K C ρ σ H2 n2->RepT X.K C.hd (Own C ρ σ) H2 v x->RepT X.K C.hd (Own C ρ σ) H2 w y->Q2 v w H2) :
  ta σ H fun v H1=>tb σ H1 fun w H2=>Q2 v w H2:=by
 refine ha C ρ σ H n _ _ S h fun t n1 v H1 r1 e1 h1 q1=>?_
 have S1:=S.on e1 h1
 refine hb C ρ σ H1 n1 _ _ S1 r1 fun u n2 w H2 r2 e2 h2 q2=>?_
 exact hq t u n2 v w H2 r2 (e1.trans e2) (S1.on e2 h2) (e2.repT S.hx q1) q2
theorem zfq {op:Operator} (ho:OpR X (binaryOp op) r) (hg:Gp2 X r g) (ha:DL X a da) (hb:DL X b db):DE X (.BinOp a op b pos) (dOp g da db):=by
 obtain ⟨ta,pa,ha⟩:=ha
 obtain ⟨tb,pb,hb⟩:=hb
 refine ⟨_,za2 ho pa pb,fun C ρ σ H n Q R S h hq=>?_⟩
 refine two ha hb S h fun x y n2 v w H2 r2 e S2 q1 q2=>?_
 exact hg C.hd (Own C ρ σ) H2 v w x y Q _ (fun p=>S2.dom) q1 q2 r2 fun z u H' rz sm rp=>hq z n2 u H' rz (e.trans sm.ext) (S2.hnd.same sm) rp
theorem zfr {op:CmpOp} (ho:OpR X (compareOp op) r) (hg:Gp2 X r g) (ha:DL X a da) (hb:DL X b db) (hm:behindInMarks op b=false):DE X (.Compare a [op] [b] pos) (dOp g da db):=by
 obtain ⟨ta,pa,ha⟩:=ha
 obtain ⟨tb,pb,hb⟩:=hb
 refine ⟨_,zhY ho pa pb hm,fun C ρ σ H n Q R S h hq=>?_⟩
 refine two ha hb S h fun x y n2 v w H2 r2 e S2 q1 q2=>?_
 exact hg C.hd (Own C ρ σ) H2 v w x y Q _ (fun p=>S2.dom) q1 q2 r2 fun z u H' rz sm rp=>hq z n2 u H' rz (e.trans sm.ext) (S2.hnd.same sm) rp
def ziK (d:DTE):DTT:=fun ρ n R=>d ρ n fun t n'=>match t with | .bool k=>R k n' | _=>False
theorem za4 {op:CmpOp} (ho:OpR X (compareOp op) r) (hg:Gp2 X r g) (ha:DL X a da) (hb:DL X b db) (hm:behindInMarks op b=false):DT X (.Compare a [op] [b] pos) (ziK (dOp g da db)):=by
 obtain ⟨ta,pa,ha⟩:=ha
 obtain ⟨tb,pb,hb⟩:=hb
 refine ⟨_,zfS ho pa pb hm,fun C ρ σ H n Q R S h hq=>?_⟩
 refine two ha hb S h fun x y n2 v w H2 r2 e S2 q1 q2=>?_
 refine hg C.hd (Own C ρ σ) H2 v w x y _ _ (fun p=>S2.dom) q1 q2 r2 fun z u H' rz sm rp=>?_
 cases z with
 | bool k =>
  cases rp
  exact ⟨k,rfl,hq k n2 H' rz (e.trans sm.ext) (S2.hnd.same sm)⟩
 | _=>exact rz.elim
def zfs (g g':G2) (da db dc:DTE):DTE:=fun ρ n R=>da ρ n fun x n1=>db ρ n1 fun y n2=>g x y fun z=>match z with
 | .bool true=>dc ρ n2 fun w n3=>g' y w fun z=>R z n3
 | .bool false=>R (.bool false) n2
 | _=>False
def gI (C:Int->Int->Prop) (f:Int->Int->Int):G2
 | .int i,.int j,R=>C i j/\R (.int (f i j))
 | _,_,_=>False
def gB (f:Int->Int->Bool):G2
 | .int i,.int j,R=>R (.bool (f i j))
 | _,_,_=>False
theorem gp_I {C:Int->Int->Prop}{f:Int->Int->Int}:Gp2 X (rI C fun i j=>.int (f i j)) (gI C f):=by
 intro hd O H x y t u Q R dom rx ry h hq
 unfold gI at h
 split at h
 ·rename_i i j
  exact ⟨i,j,rx.intI,ry.intI,h.1,hq _ _ H h.2 (Same.refl H) (.int _)⟩
 ·exact h.elim
def gI0 (f:Int->Int->Int):G2
 | .int i,.int j,R=>R (.int (f i j))
 | _,_,_=>False
theorem zlM {f:Int->Int->Int}:Gp2 X (rI0 fun i j=>.int (f i j)) (gI0 f):=by
 intro hd O H x y t u Q R dom rx ry h hq
 unfold gI0 at h
 split at h
 ·rename_i i j
  exact ⟨i,j,rx.intI,ry.intI,hq _ _ H h (Same.refl H) (.int _)⟩
 ·exact h.elim
theorem gp_B {f:Int->Int->Bool}:Gp2 X (rI0 fun i j=>.bl (f i j)) (gB f):=by
 intro hd O H x y t u Q R dom rx ry h hq
 unfold gB at h
 split at h
 ·rename_i i j
  exact ⟨i,j,rx.intI,ry.intI,hq _ _ H h (Same.refl H) (.bl _)⟩
 ·exact h.elim
end
section
variable {X:Cx}{a b c:Expr}{da db dc:DTE}{pos:Pos}
def oSub:=gI0 fun i j=>i - j
def oMod:=gI (fun _ j=>0<j) fun i j=>i % j
def zfY:=gI ziX fun i j=>i / j
def oShl:=gI CPow fun i j=>i*2 ^ j.toNat
def oXor:=gI0 Builtin.bitXor
def oAnd:=gI0 Builtin.bitAnd
theorem zdy (ha:DL X a da) (hb:DL X b db):DE X (.BinOp a .Sub b pos) (dOp oSub da db):=zfq zna zlM ha hb
theorem zkG (ha:DL X a da) (hb:DL X b db):DE X (.BinOp a .Mod b pos) (dOp oMod da db):=zfq zdm gp_I ha hb
theorem zlX (ha:DL X a da) (hb:DL X b db):DE X (.BinOp a .FloorDiv b pos) (dOp zfY da db):=zfq zc2 gp_I ha hb
theorem zcw (ha:DL X a da) (hb:DL X b db):DE X (.BinOp a .LShift b pos) (dOp oShl da db):=zfq znb gp_I ha hb
theorem zob (ha:DL X a da) (hb:DL X b db):DE X (.BinOp a .BitXor b pos) (dOp oXor da db):=zfq zm_ zlM ha hb
theorem zof (ha:DL X a da) (hb:DL X b db):DE X (.BinOp a .BitAnd b pos) (dOp oAnd da db):=zfq zni zlM ha hb
end
end L2
namespace L2
open PySem PySem.Spec PyProof.Rows
section
variable {X:Cx}{pins:List (Addr×Obj)}{σ:St}{H:Hp}{s:Shared}{hd:Option Addr}{O:Addr->Prop}
theorem RepT.reads (I:Inv X pins σ H s) {v:V}{d:PyData}{u:Value} (h:RepT X.K hd O H v d) (r:RelV v u) (e:d.hasDict=false):∃ as,Reads s.heap u d as:=by
 rcases h with h | ⟨a,vs,ds,rfl,rfl,h3,h4,_⟩
 ·exact h.reads I r e
 ·cases r
  obtain ⟨its,rv,p,_⟩:=I.list (xs:=vs) (.inl (.inl h3))
  obtain ⟨o,n,ho,hc,_,hdat⟩:=p
  obtain ⟨as,ra⟩:=Reps.reads I h4 rv (by simpa [PyData.hasDict] using e)
  exact ⟨_,.list ho hc hdat (by simpa using ra)⟩
end
def Okd (t:PyData):Prop:=t.canLay0=true/\t.depth<=60
section
variable {X:Cx}{a b c:Expr}{da db dc:DTE}{pos:Pos}{k:Nat}
def rEqD (K:PySem.W.Frag) (neg:Bool):R2:=fun x y H Q=>∃ hd O t u,RepT K hd O H x t/\RepT K hd O H y u/\Okd t/\Okd u/\Q (.bl (if neg then !t.eqv u else t.eqv u)) H
theorem zng (hr:Room k X.A):OpR X (compareOp .Eq) (rEqD X.K false):=by
 intro pins s σ H x y v u Q I rx ry h
 obtain ⟨hd,O,t,w,h1,h2,h3,h4,q⟩:=h
 obtain ⟨as,ra⟩:=h1.reads I rx (PyData.hasDict_of_canLay _ h3.1)
 obtain ⟨bs,rb⟩:=h2.reads I ry (PyData.hasDict_of_canLay _ h4.1)
 refine SeqAt.compareEq_reads ra rb h3.1 h4.1 ?_ ⟨.bl _,H,I,rfl,q⟩
 have:=hr.un
 have:=h3.2
 omega
theorem znd (hr:Room k X.A):OpR X (compareOp .NotEq) (rEqD X.K true):=by
 intro pins s σ H x y v u Q I rx ry h
 obtain ⟨hd,O,t,w,h1,h2,h3,h4,q⟩:=h
 obtain ⟨as,ra⟩:=h1.reads I rx (PyData.hasDict_of_canLay _ h3.1)
 obtain ⟨bs,rb⟩:=h2.reads I ry (PyData.hasDict_of_canLay _ h4.1)
 refine SeqAt.compareNe_reads ra rb h3.1 h4.1 ?_ ⟨.bl _,H,I,rfl,q⟩
 have:=hr.un
 have:=h3.2
 omega
def oEq:G2
 | .int i,.int j,R=>R (.bool (decide (i=j)))
 | .str i,.str j,R=>R (.bool (decide (i=j)))
 | .bool i,.bool j,R=>R (.bool (decide (i=j)))
 | t,u,R=>Okd t/\Okd u/\R (.bool (t.eqv u))
def oNe:G2
 | .int i,.int j,R=>R (.bool (!decide (i=j)))
 | .str i,.str j,R=>R (.bool (!decide (i=j)))
 | .bool i,.bool j,R=>R (.bool (!decide (i=j)))
 | t,u,R=>Okd t/\Okd u/\R (.bool (!t.eqv u))
def rEqA (K:PySem.W.Frag):R2:=fun x y H Q=>rEq x y H Q\/rEqD K false x y H Q
def rNeA (K:PySem.W.Frag):R2:=fun x y H Q=>rNe x y H Q\/rEqD K true x y H Q
theorem zco (hr:Room k X.A):OpR X (compareOp .Eq) (rEqA X.K):=OpR.or zpy (zng hr)
theorem zdl (hr:Room k X.A):OpR X (compareOp .NotEq) (rNeA X.K):=OpR.or zpv (znd hr)
theorem zen:Gp2 X (rEqA X.K) oEq:=by
 intro hd O H x y t u Q R dom rx ry h hq
 unfold oEq at h
 split at h
 ·rename_i i j
  rw [rx.intI,ry.intI]
  refine .inl ⟨rfl,?_⟩
  have e:decide (V.int i=V.int j)=decide (i=j):=decide_eq_decide.mpr ⟨fun z=>by cases z;rfl,fun z=>by rw [z]⟩
  rw [e]
  exact hq _ _ H h (Same.refl H) (.bl _)
 ·rename_i i j
  rw [rx.strI,ry.strI]
  refine .inl ⟨rfl,?_⟩
  have e:decide (V.str i=V.str j)=decide (i=j):=decide_eq_decide.mpr ⟨fun z=>by cases z;rfl,fun z=>by rw [z]⟩
  rw [e]
  exact hq _ _ H h (Same.refl H) (.bl _)
 ·rename_i i j
  rw [rx.blI,ry.blI]
  refine .inl ⟨rfl,?_⟩
  have e:decide (V.bl i=V.bl j)=decide (i=j):=decide_eq_decide.mpr ⟨fun z=>by cases z;rfl,fun z=>by rw [z]⟩
  rw [e]
  exact hq _ _ H h (Same.refl H) (.bl _)
 ·exact .inr ⟨hd,O,_,_,rx,ry,h.1,h.2.1,hq _ _ H h.2.2 (Same.refl H) (.bl _)⟩
theorem zf8:Gp2 X (rNeA X.K) oNe:=by
 intro hd O H x y t u Q R dom rx ry h hq
 unfold oNe at h
 split at h
 ·rename_i i j
  rw [rx.intI,ry.intI]
  refine .inl ⟨rfl,?_⟩
  have e:decide (V.int i=V.int j)=decide (i=j):=decide_eq_decide.mpr ⟨fun z=>by cases z;rfl,fun z=>by rw [z]⟩
  rw [e]
  exact hq _ _ H h (Same.refl H) (.bl _)
 ·rename_i i j
  rw [rx.strI,ry.strI]
  refine .inl ⟨rfl,?_⟩
  have e:decide (V.str i=V.str j)=decide (i=j):=decide_eq_decide.mpr ⟨fun z=>by cases z;rfl,fun z=>by rw [z]⟩
  rw [e]
  exact hq _ _ H h (Same.refl H) (.bl _)
 ·rename_i i j
  rw [rx.blI,ry.blI]
  refine .inl ⟨rfl,?_⟩
  have e:decide (V.bl i=V.bl j)=decide (i=j):=decide_eq_decide.mpr ⟨fun z=>by cases z;rfl,fun z=>by rw [z]⟩
  rw [e]
  exact hq _ _ H h (Same.refl H) (.bl _)
 ·exact .inr ⟨hd,O,_,_,rx,ry,h.1,h.2.1,hq _ _ H h.2.2 (Same.refl H) (.bl _)⟩
def oLtA:G2
 | .int i,.int j,R=>R (.bool (decide (i<j)))
 | .str i,.str j,R=>R (.bool (decide (i.cps.toList<j.cps.toList)))
 | .tuple xs,.tuple ys,R=>∃ ns ms,xs=ns.map PyData.int/\ys=ms.map PyData.int/\R (.bool (HT.lexLt ns ms))
 | _,_,_=>False
def rLtA (K:PySem.W.Frag):R2:=fun x y H Q=>(rI0 fun i j=>.bl (decide (i<j))) x y H Q\/(∃ i j,x=.str i/\y=.str j/\Q (.bl (decide (i.cps.toList<j.cps.toList))) H)\/rLtT K x y H Q
theorem zgH (hr:Room k X.A):OpR X (compareOp .Lt) (rLtA X.K):=OpR.or znf (OpR.or zh0 (zne hr.units0))
theorem zdc {K:PySem.W.Frag}{hd:Option Addr}{O:Addr->Prop}{H:Hp}:∀ {ns:List Int}{vs:List V},Reps K hd O H vs (ns.map PyData.int)->vs=ns.map V.int
 | [],_,h=>by cases h;rfl
 | n::ns,_,h=>by
  cases h with
  | cons h r=>rw [h.intI,zdc r];rfl
theorem zgR:Gp2 X (rLtA X.K) oLtA:=by
 intro hd O H x y t u Q R dom rx ry h hq
 unfold oLtA at h
 split at h
 ·exact .inl ⟨_,_,rx.intI,ry.intI,hq _ _ H h (Same.refl H) (.bl _)⟩
 ·exact .inr (.inl ⟨_,_,rx.strI,ry.strI,hq _ _ H h (Same.refl H) (.bl _)⟩)
 ·obtain ⟨ns,ms,rfl,rfl,h⟩:=h
  obtain ⟨p,vs,e1,s1,r1⟩:=rx.tupI
  obtain ⟨q,ws,e2,s2,r2⟩:=ry.tupI
  rw [zdc r1] at s1
  rw [zdc r2] at s2
  exact .inr (.inr ⟨p,q,ns,ms,e1,e2,s1,s2,hq _ _ H h (Same.refl H) (.bl _)⟩)
 ·exact h.elim
def oLeA:G2
 | .int i,.int j,R=>R (.bool (decide (i<=j)))
 | .str i,.str j,R=>R (.bool (!decide (j.cps.toList<i.cps.toList)))
 | _,_,_=>False
def rLeA:R2:=fun x y H Q=>(rI0 fun i j=>.bl (decide (i<=j))) x y H Q\/(∃ i j,x=.str i/\y=.str j/\Q (.bl (!decide (j.cps.toList<i.cps.toList))) H)
theorem zh1:OpR X (compareOp .LtE) (fun x y H Q=>∃ i j,x=.str i/\y=.str j/\Q (.bl (!decide (j.cps.toList<i.cps.toList))) H):=by
 intro pins s σ H x y v u Q I rx ry h
 obtain ⟨i,j,rfl,rfl,q⟩:=h
 obtain ⟨t,rfl⟩:=rx
 obtain ⟨t',rfl⟩:=ry
 exact PySem.P.le_str ⟨.bl _,H,I,rfl,q⟩
theorem zdS:OpR X (compareOp .LtE) rLeA:=OpR.or zpw zh1
theorem zdW:Gp2 X rLeA oLeA:=by
 intro hd O H x y t u Q R dom rx ry h hq
 unfold oLeA at h
 split at h
 ·exact .inl ⟨_,_,rx.intI,ry.intI,hq _ _ H h (Same.refl H) (.bl _)⟩
 ·exact .inr ⟨_,_,rx.strI,ry.strI,hq _ _ H h (Same.refl H) (.bl _)⟩
 ·exact h.elim
variable {r r':R2}{g g':G2}
theorem zet {op op':CmpOp} (ho:OpR X (compareOp op) r) (hg:Gp2 X r g) (ho':OpR X (compareOp op') r') (hg':Gp2 X r' g') (ha:DL X a da) (hb:DL X b db) (hc:DL X c dc)
  (hm:lastMarks [op,op'] [b,c]=false:=by with_unfolding_all rfl):DE X (.Compare a [op,op'] [b,c] pos) (zfs g g' da db dc):=by
 obtain ⟨ta,pa,ha⟩:=ha
 obtain ⟨tb,pb,hb⟩:=hb
 obtain ⟨tc,pc,hc⟩:=hc
 refine ⟨_,zjF ho ho' pa pb pc hm,fun C ρ σ H n Q R S h hq=>?_⟩
 refine two ha hb S h fun x y n2 v w H2 r2 e S2 q1 q2=>?_
 refine hg C.hd (Own C ρ σ) H2 v w x y _ _ (fun p=>S2.dom) q1 q2 r2 fun z u H' rz sm rp=>?_
 have S3:=S2.on sm.ext (S2.hnd.same sm)
 cases z with
 | bool k =>
  cases rp
  refine ⟨k,rfl,?_⟩
  cases k with
  | false=>exact iteF (hq _ n2 _ H' rz (e.trans sm.ext) S3.hnd (.bl _))
  | true =>
   refine iteT (hc C ρ σ H' n2 _ _ S3 rz fun z2 n3 w2 H4 r4 e4 h4 q4=>?_)
   have S4:=S3.on e4 h4
   have q2':=e4.repT S.hx ((Same.ext sm:ExtE C.hd H2 H').repT S.hx q2)
   exact hg' C.hd (Own C ρ σ) H4 w w2 y z2 Q _ (fun p=>S4.dom) q2' q4 r4 fun z u H' rz sm' rp=>hq z n3 u H' rz (((e.trans sm.ext).trans e4).trans sm'.ext) (S4.hnd.same sm') rp
 | _=>exact rz.elim
end
end L2
namespace L2
open PySem PySem.Spec PyProof.Rows
section
variable {X:Cx}{a b c e:Expr}{es rest:List Expr}{d da db dc:DTE}{t u:DTT}{pos p:Pos}{k:Nat}
def truD:PyData->(Bool->Prop)->Prop
 | .none,R=>R false
 | .bool b,R=>R b
 | .int i,R=>R (decide (i≠0))
 | .str x,R=>x.length<=16777216/\R (decide (x.length≠0))
 | .list ts,R=>R (!ts.isEmpty)
 | .tuple ts,R=>R (!ts.isEmpty)
 | _,_=>False
def dTru (d:DTE):DTT:=fun ρ n R=>d ρ n fun t n'=>truD t fun b=>R b n'
theorem zmp {K:PySem.W.Frag}{hd:Option Addr}{O:Addr->Prop}{H:Hp}{v:V}{t:PyData}{Q:Bool->Hp->Prop}{R:Bool->Prop} (r:RepT K hd O H v t) (h:truD t R) (hq:∀ b,R b->Q b H):∃ k,TruV K v H k/\Q k H:=by
 cases t with
 | none=>exact ⟨false,by rw [r.nonI];rfl,hq _ h⟩
 | bool b=>exact ⟨b,by rw [r.blI];rfl,hq _ h⟩
 | int i=>exact ⟨decide (i≠0),by rw [r.intI];show _=(i != 0);by_cases z:i=0 <;> simp [z],hq _ h⟩
 | str x =>
  refine ⟨decide (x.length≠0),by rw [r.strI];exact ⟨h.1,by by_cases z:x.length=0 <;> simp [z]⟩,hq _ h.2⟩
 | list ts =>
  obtain ⟨p,vs,e,h1,h2⟩:=r.lstI
  subst e
  refine ⟨!ts.isEmpty,.inl ⟨vs,.of h1,?_⟩,hq _ h⟩
  cases h2 <;> rfl
 | tuple ts =>
  obtain ⟨p,vs,e,h1,h2⟩:=r.tupI
  subst e
  refine ⟨!ts.isEmpty,.inr (.inl ⟨vs,h1,?_⟩),hq _ h⟩
  cases h2 <;> rfl
 | dict _=>exact h.elim
theorem zbs (ha:DL X a da) (he:∀ whole,isTrue a X.env whole=(do let v <- whole;standAt a.pos;holding [v] (truthy v)):=by intro _;rfl):DT X a (dTru da):=by
 obtain ⟨ta,pa,ha⟩:=ha
 refine ⟨_,zju pa he,fun C ρ σ H n Q R S h hq=>?_⟩
 refine ha C ρ σ H n _ _ S h fun t n' v H' r e1 h1 q=>?_
 exact zmp q r fun b rb=>hq b n' H' rb e1 h1
def dAnd (t u:DTT):DTT:=fun ρ n R=>t ρ n fun b n1=>if b=true then u ρ n1 R else R false n1
def dOr (t u:DTT):DTT:=fun ρ n R=>t ρ n fun b n1=>if b=true then R true n1 else u ρ n1 R
def dNot (t:DTT):DTT:=fun ρ n R=>t ρ n fun b n1=>R (!b) n1
theorem zfo (h:DW X a t):DT X a t:=by
 obtain ⟨ta,pa,h⟩:=h
 exact ⟨_,pa.pt,h⟩
theorem zlR (h:DT X a t):DW X (.BoolOp .And [a] pos) t:=by
 obtain ⟨ta,pa,h⟩:=h
 exact ⟨_,zk2 pa,h⟩
theorem zdv (h:DT X a t):DW X (.BoolOp .Or [a] pos) t:=by
 obtain ⟨ta,pa,h⟩:=h
 exact ⟨_,zmQ pa,h⟩
theorem zn9 (h:DT X a t) (h':DW X (.BoolOp .And (b::rest) pos) u):DW X (.BoolOp .And (a::b::rest) pos) (dAnd t u):=by
 obtain ⟨ta,pa,h⟩:=h
 obtain ⟨tb,pb,h'⟩:=h'
 refine ⟨_,zmR pa pb,fun C ρ σ H n Q R S hd hq=>?_⟩
 refine h C ρ σ H n _ _ S hd fun b n1 H1 r e1 h1=>?_
 cases b with
 | true=>exact iteT (h' C ρ σ H1 n1 Q R (S.on e1 h1) (by simpa using r) fun b n2 H2 r e2 h2=>hq b n2 H2 r (e1.trans e2) h2)
 | false=>exact iteF (hq _ n1 H1 (by simpa using r) e1 h1)
theorem zeq (h:DT X a t) (h':DW X (.BoolOp .Or (b::rest) pos) u):DW X (.BoolOp .Or (a::b::rest) pos) (dOr t u):=by
 obtain ⟨ta,pa,h⟩:=h
 obtain ⟨tb,pb,h'⟩:=h'
 refine ⟨_,zpp pa pb,fun C ρ σ H n Q R S hd hq=>?_⟩
 refine h C ρ σ H n _ _ S hd fun b n1 H1 r e1 h1=>?_
 cases b with
 | false=>exact iteF (h' C ρ σ H1 n1 Q R (S.on e1 h1) (by simpa using r) fun b n2 H2 r e2 h2=>hq b n2 H2 r (e1.trans e2) h2)
 | true=>exact iteT (hq _ n1 H1 (by simpa using r) e1 h1)
theorem zbt (h:DT X a t):DT X (.UnaryOp .Not a pos) (dNot t):=by
 obtain ⟨ta,pa,h⟩:=h
 refine ⟨_,zmS pa,fun C ρ σ H n Q R S hd hq=>?_⟩
 exact h C ρ σ H n _ _ S hd fun b n1 H1 r e1 h1=>hq _ n1 H1 r e1 h1
def bolD:PyData->(Bool->Prop)->Prop
 | .bool b,R=>R b
 | _,_=>False
def zl1 (da db:DTE):DTE:=fun ρ n R=>da ρ n fun t n1=>bolD t fun b=>if b=true then db ρ n1 R else R (.bool false) n1
def zl0 (da:DTE):DTE:=fun ρ n R=>da ρ n fun t n1=>bolD t fun b=>R (.bool (!b)) n1
theorem zdZ {op} (h:DE X a d):DE X (.BoolOp op [a] pos) d:=by
 obtain ⟨ta,pa,h⟩:=h
 exact ⟨_,zm2 pa,h⟩
theorem zbX (h:DE X a da) (h':DE X (.BoolOp .And (b::rest) pos) db):DE X (.BoolOp .And (a::b::rest) pos) (zl1 da db):=by
 obtain ⟨ta,pa,h⟩:=h
 obtain ⟨tb,pb,h'⟩:=h'
 refine ⟨_,zm6 pa pb,fun C ρ σ H n Q R S hd hq=>?_⟩
 refine h C ρ σ H n _ _ S hd fun t n1 v H1 r e1 h1 q1=>?_
 cases t with
 | bool b =>
  cases q1
  refine ⟨b,rfl,?_⟩
  cases b with
  | true=>exact iteT (h' C ρ σ H1 n1 Q R (S.on e1 h1) (by simpa [bolD] using r) fun t n2 v H2 r e2 h2 q2=>hq t n2 v H2 r (e1.trans e2) h2 q2)
  | false=>exact iteF (hq _ n1 _ H1 (by simpa [bolD] using r) e1 h1 (.bl _))
 | _=>exact r.elim
theorem ziI (h:DE X a da):DE X (.UnaryOp .Not a pos) (zl0 da):=by
 obtain ⟨ta,pa,h⟩:=h
 refine ⟨_,zm3 pa,fun C ρ σ H n Q R S hd hq=>?_⟩
 refine h C ρ σ H n _ _ S hd fun t n1 v H1 r e1 h1 q1=>?_
 cases t with
 | bool b =>
  cases q1
  exact ⟨b,rfl,hq _ n1 _ H1 r e1 h1 (.bl _)⟩
 | _=>exact r.elim
def dNil:DTA:=fun _ n R=>R [] n
def ziM (d:DTE) (ds:DTA):DTA:=fun ρ n R=>d ρ n fun t n1=>ds ρ n1 fun ts n2=>R (t::ts) n2
theorem zae:DB X [] dNil:=⟨_,zbQ,fun C ρ σ H n Q R S h hq=>hq [] n [] H h ExtE.refl S.hnd .nil rfl⟩
theorem zaa {ds:DTA} (h:DE X e d) (hr:DB X es ds) (hs:starEach (e::es) X.env=(false,eval e X.env)::starEach es X.env):DB X (e::es) (ziM d ds):=by
 obtain ⟨ta,pa,h⟩:=h
 obtain ⟨tb,pb,hr⟩:=hr
 refine ⟨_,za0 pa pb hs,fun C ρ σ H n Q R S hd hq=>?_⟩
 refine h C ρ σ H n _ _ S hd fun t n1 v H1 r e1 h1 q1=>?_
 refine hr C ρ σ H1 n1 _ _ (S.on e1 h1) r fun ts n2 vs H2 r2 e2 h2 q2 l2=>?_
 exact hq _ n2 _ H2 r2 (e1.trans e2) h2 (.cons (e2.rep S.hx q1) q2) (by simp [l2])
def ziU (K:PySem.W.Frag) (hd:Option Addr) (O:Addr->Prop) (H:Hp):List V->List PyData->Prop:=Paired (RepT K hd O H)
def DBL (X:Cx) (es:List Expr) (d:DTA):Prop:=∃ ta,PB X es ta/\∀ (C:Ctx) (ρ:En) (σ:St) (H:Hp) (n:Nat) (Q:List V->Hp->Prop) (R:List PyData->Nat->Prop),Stt X.K C ρ σ H n->d ρ n R ->
 (∀ ts n' vs H',R ts n'->ExtE C.hd H H'->Hn C.hd H' n'->ziU X.K C.hd (Own C ρ σ) H' vs ts->ts.length=es.length->Q vs H')->ta σ H Q
theorem zaS:DBL X [] dNil:=⟨_,zbQ,fun C ρ σ H n Q R S h hq=>hq [] n [] H h ExtE.refl S.hnd .nil rfl⟩
theorem zap {ds:DTA} (h:DL X e d) (hr:DBL X es ds) (hs:starEach (e::es) X.env=(false,eval e X.env)::starEach es X.env):DBL X (e::es) (ziM d ds):=by
 obtain ⟨ta,pa,h⟩:=h
 obtain ⟨tb,pb,hr⟩:=hr
 refine ⟨_,za0 pa pb hs,fun C ρ σ H n Q R S hd hq=>?_⟩
 refine h C ρ σ H n _ _ S hd fun t n1 v H1 r e1 h1 q1=>?_
 refine hr C ρ σ H1 n1 _ _ (S.on e1 h1) r fun ts n2 vs H2 r2 e2 h2 q2 l2=>?_
 exact hq _ n2 _ H2 r2 (e1.trans e2) h2 (.cons (e2.repT S.hx q1) q2) (by simp [l2])
def dTup (ds:DTA):DTE:=fun ρ n R=>ds ρ n fun ts n1=>R (.tuple ts) n1
theorem zan {x1:Nat}{ds:DTA} (h:DB X es ds) (hl:es.length<=sizeLine:=by decide):DE X (.Tuple es x1 pos) (dTup ds):=by
 obtain ⟨ta,pa,h⟩:=h
 refine ⟨_,zld pa,fun C ρ σ H n Q R S hd hq=>?_⟩
 refine h C ρ σ H n _ _ S hd fun ts n1 vs H1 r e1 h1 q1 l1=>⟨by rw [q1.length,l1];exact hl,fun p hp=>?_⟩
 have S1:=S.on e1 h1
 exact hq _ n1 _ _ r (e1.trans (ExtE.new hp)) (h1.same (zav hp)) (.newT (S1.free hp) hp q1)
theorem zbm {ds:DTA} (h:DB X es ds) (hl:es.length<=sizeLine:=by decide):DN X (.List es pos) ds:=by
 obtain ⟨ta,pa,h⟩:=h
 refine ⟨_,zhX pa,fun C ρ σ H n Q R S hd hq=>?_⟩
 refine h C ρ σ H n _ _ S hd fun ts n1 vs H1 r e1 h1 q1 l1=>⟨by rw [q1.length,l1];exact hl,fun p hp=>?_⟩
 have S1:=S.on e1 h1
 have hp0:H p=none:=by
  cases z:H p with
  | none=>rfl
  | some o =>
   by_cases y:C.hd=some p
   ·obtain ⟨d,m,t,q,_⟩:=h1 p y
    rw [hp] at q;cases q
   ·rw [e1 p o z y] at hp;cases hp
 refine hq ts n1 p vs _ r (e1.trans (ExtE.new hp)) (h1.same (zav hp)) hp0 zao ?_
 refine q1.mono (fun b o hb z=>z.elim id fun z=>?_) fun b o _ hb=>zav hp b o hb
 subst z;rw [hp] at hb;cases hb
end
end L2
namespace L2
open PySem PySem.Spec PyProof.Rows
section
variable {X:Cx}{a b c e:Expr}{es rest:List Expr}{d da db dc:DTE}{ds:DTA}{pos p:Pos}{k:Nat}{x:Str}
abbrev GC:=List PyData->(PyData->Prop)->Prop
def zft (g:GC) (ds:DTA):DTE:=fun ρ n R=>ds ρ n fun ts n1=>g ts fun z=>R z n1
def GpC (X:Cx) (r:List V->Hp->VK->Prop) (g:GC):Prop:=∀ (hd:Option Addr) (O:Addr->Prop) (H:Hp) (xs:List V) (ts:List PyData) (Q:VK) (R:PyData->Prop),(∀ p,O p->H p≠none)->ziU X.K hd O H xs ts->g ts R ->
 (∀ z v H',R z->Same H H'->Rep X.K hd O H' v z->Q v H')->r xs H Q
theorem zcx {id:String}{r:List V->Hp->VK->Prop}{g:GC} (hc:zbG X (.builtin id) r) (hgp:GpC X r g) (hm:X.mg x=none) (hv:bootBuiltins x=some (.builtin id)) (h:DBL X (e::es) ds) (hg:Gl X x:=by rfl) (hn:x ≠ "__name__":=by decide) (hdb:(x == ("__debug__":Str))=false:=by decide) :
  DE X (.Call (.Name x p) (e::es) [] pos) (zft g ds):=by
 obtain ⟨ta,pa,h⟩:=h
 refine ⟨_,zg9 hc hm hv pa hg hn hdb,fun C ρ σ H n Q R S hd hq=>?_⟩
 refine h C ρ σ H n _ _ S hd fun ts n1 vs H1 r1 e1 h1 q1 _=>?_
 have S1:=S.on e1 h1
 exact hgp C.hd (Own C ρ σ) H1 vs ts Q _ (fun p=>S1.dom) q1 r1 fun z u H' rz sm rp=>hq z n1 u H' rz (e1.trans sm.ext) (h1.same sm) rp
theorem zp7 {T:String}{r:List V->Hp->VK->Prop}{g:GC} (hc:zbG X (.type T) r) (hgp:GpC X r g) (hm:X.mg x=none) (hv:bootBuiltins x=some (.type T)) (h:DBL X (e::es) ds) (hg:Gl X x:=by rfl) (hn:x ≠ "__name__":=by decide) (hdb:(x == ("__debug__":Str))=false:=by decide) :
  DE X (.Call (.Name x p) (e::es) [] pos) (zft g ds):=by
 obtain ⟨ta,pa,h⟩:=h
 refine ⟨_,zlg hc hm hv pa hg hn hdb,fun C ρ σ H n Q R S hd hq=>?_⟩
 refine h C ρ σ H n _ _ S hd fun ts n1 vs H1 r1 e1 h1 q1 _=>?_
 have S1:=S.on e1 h1
 exact hgp C.hd (Own C ρ σ) H1 vs ts Q _ (fun p=>S1.dom) q1 r1 fun z u H' rz sm rp=>hq z n1 u H' rz (e1.trans sm.ext) (h1.same sm) rp
theorem zde {K:PySem.W.Frag}{hd:Option Addr}{O:Addr->Prop}{H:Hp}{xs:List V}{t:PyData} (h:ziU K hd O H xs [t]):∃ v,xs=[v]/\RepT K hd O H v t:=by
 cases h with
 | cons h r=>cases r;exact ⟨_,rfl,h⟩
theorem zkk {K:PySem.W.Frag}{hd:Option Addr}{O:Addr->Prop}{H:Hp}{xs:List V}{t u:PyData} (h:ziU K hd O H xs [t,u]):∃ v w,xs=[v,w]/\RepT K hd O H v t/\RepT K hd O H w u:=by
 cases h with
 | cons h r=>cases r with | cons h2 r=>cases r;exact ⟨_,_,rfl,h,h2⟩
def bLen:GC
 | [.list ts],R=>R (.int ts.length)
 | [.tuple ts],R=>R (.int ts.length)
 | [.str x],R=>x.length<=16777216/\R (.int x.length)
 | [.dict [(.none,.list ts)]],R=>R (.int ts.length)
 | _,_=>False
def rLen (K:PySem.W.Frag):List V->Hp->VK->Prop:=fun xs H Q=>∃ x n,xs=[x]/\LenV K x H n/\Q (.int n) H
theorem zcR:GpC X (rLen X.K) bLen:=by
 intro hd O H xs ts Q R dom rs h hq
 unfold bLen at h
 split at h
 ·obtain ⟨v,rfl,r⟩:=zde rs
  obtain ⟨p,vs,rfl,h1,h2⟩:=r.lstI
  exact ⟨_,_,rfl,.inl ⟨vs,.of h1,rfl⟩,by rw [h2.length];exact hq _ _ H h (Same.refl H) (.int _)⟩
 ·obtain ⟨v,rfl,r⟩:=zde rs
  obtain ⟨p,vs,rfl,h1,h2⟩:=r.tupI
  exact ⟨_,_,rfl,.inr ⟨vs,h1,rfl⟩,by rw [h2.length];exact hq _ _ H h (Same.refl H) (.int _)⟩
 ·obtain ⟨v,rfl,r⟩:=zde rs
  rw [r.strI]
  exact ⟨_,_,rfl,⟨h.1,rfl⟩,hq _ _ H h.2 (Same.refl H) (.int _)⟩
 ·rename_i ts
  obtain ⟨v,rfl,r⟩:=zde rs
  have r:=r.rep (by intro _ z;cases z)
  generalize e:(PyData.dict [(PyData.none,PyData.list ts)])=t at r
  cases r with
  | scr h1 o =>
   simp only [SCR,PyData.dict.injEq,List.cons.injEq,Prod.mk.injEq,PyData.list.injEq,true_and,and_true] at e
   subst e
   exact ⟨_,_,rfl,.inl ⟨_,.inl h1,rfl⟩,by simpa using hq _ _ H h (Same.refl H) (.int _)⟩
  | scrS h1 =>
   simp only [SCR,PyData.dict.injEq,List.cons.injEq,Prod.mk.injEq,PyData.list.injEq,true_and,and_true] at e
   subst e
   exact ⟨_,_,rfl,.inl ⟨_,h1 H,rfl⟩,by simpa using hq _ _ H h (Same.refl H) (.int _)⟩
  | hand _=>simp [HAND] at e
  | dct _ _=>cases e
  | dcK _ _ _ e'=>cases e;exact (dict_noK e').elim
  | dcT _ _ _ e'=>cases e;exact (dict_noT e').elim
  | _=>cases e
 ·exact h.elim
def bMin:GC
 | [.int i,.int j],R=>R (.int (if j<i then j else i))
 | _,_=>False
def bMax:GC
 | [.int i,.int j],R=>R (.int (if j > i then j else i))
 | _,_=>False
theorem zkv:GpC X (fun xs H Q=>∃ i j,xs=[.int i,.int j]/\Q (.int (if j<i then j else i)) H) bMin:=by
 intro hd O H xs ts Q R dom rs h hq
 unfold bMin at h
 split at h
 ·obtain ⟨v,w,rfl,r1,r2⟩:=zkk rs
  rw [r1.intI,r2.intI]
  exact ⟨_,_,rfl,hq _ _ H h (Same.refl H) (.int _)⟩
 ·exact h.elim
theorem zkw:GpC X (fun xs H Q=>∃ i j,xs=[.int i,.int j]/\Q (.int (if j > i then j else i)) H) bMax:=by
 intro hd O H xs ts Q R dom rs h hq
 unfold bMax at h
 split at h
 ·obtain ⟨v,w,rfl,r1,r2⟩:=zkk rs
  rw [r1.intI,r2.intI]
  exact ⟨_,_,rfl,hq _ _ H h (Same.refl H) (.int _)⟩
 ·exact h.elim
def bAll:GC
 | [.list ts],R=>∃ bs:List Bool,ts=bs.map PyData.bool/\R (.bool (bs.all id))
 | _,_=>False
theorem zdN {K:PySem.W.Frag}{hd:Option Addr}{O:Addr->Prop}{H:Hp}:∀ {ns:List Bool}{vs:List V},Reps K hd O H vs (ns.map PyData.bool)->vs=ns.map V.bl
 | [],_,h=>by cases h;rfl
 | n::ns,_,h=>by
  cases h with
  | cons h r=>rw [h.blI,zdN r];rfl
theorem zkx:GpC X (fun xs H Q=>∃ (a:Addr) (bs:List Bool),xs=[.ref a]/\SqL X.K H a (bs.map V.bl)/\Q (.bl (bs.all id)) H) bAll:=by
 intro hd O H xs ts Q R dom rs h hq
 unfold bAll at h
 split at h
 ·obtain ⟨bs,rfl,h⟩:=h
  obtain ⟨v,rfl,r1⟩:=zde rs
  obtain ⟨p,vs,rfl,h1,h2⟩:=r1.lstI
  rw [zdN h2] at h1
  exact ⟨p,bs,rfl,.of h1,hq _ _ H h (Same.refl H) (.bl _)⟩
 ·exact h.elim
def zfM:GC
 | [.list ts],R=>R (.tuple ts)
 | [.tuple ts],R=>R (.tuple ts)
 | _,_=>False
theorem zj0:GpC X (fun xs H Q=>∃ p ys,xs=[.ref p]/\((SqL X.K H p ys/\∀ l,H l=none->Q (.ref l) (upd H l (.tup ys)))\/(SqT X.K H p ys/\Q (.ref p) H))) zfM:=by
 intro hd O H xs ts Q R dom rs h hq
 unfold zfM at h
 split at h
 ·obtain ⟨v,rfl,r1⟩:=zde rs
  obtain ⟨p,vs,rfl,h1,h2⟩:=r1.lstI
  refine ⟨p,vs,rfl,.inl ⟨.of h1,fun l hl=>?_⟩⟩
  exact hq _ _ _ h (zav hl) (.newT (fun z=>dom l z hl) hl h2)
 ·obtain ⟨v,rfl,r1⟩:=zde rs
  obtain ⟨p,vs,rfl,h1,h2⟩:=r1.tupI
  exact ⟨p,vs,rfl,.inr ⟨h1,hq _ _ H h (Same.refl H) (r1.rep (by intro _ z;cases z))⟩⟩
 ·exact h.elim
def zbl:PyData->(List PyData->Prop)->Prop
 | .list ts,R=>R ts
 | .tuple ts,R=>R ts
 | _,_=>False
def zga (d:DTE):DTA:=fun ρ n R=>d ρ n fun t n1=>zbl t fun ts=>R ts n1
theorem zes (hm:X.mg "list" = none) (h:DL X e d) (hs:starEach [e] X.env=[(false,eval e X.env)]) (hg:Gl X "list":=by rfl):DN X (.Call (.Name "list" p) [e] [] pos) (zga d):=by
 obtain ⟨ta,pa,h⟩:=h
 refine ⟨_,zlg zfA hm (by decide +kernel) (za0 pa zbQ hs) hg,fun C ρ σ H n Q R S hd hq=>?_⟩
 refine h C ρ σ H n _ _ S hd fun t n1 v H1 r1 e1 h1 q1=>?_
 have S1:=S.on e1 h1
 have fin:∀ p vs ts,Reps X.K C.hd (Own C ρ σ) H1 vs ts->R ts n1->H1 p=none->Q (.ref p) (upd H1 p (.lst vs)):=fun p vs ts rp rr hp=>by
  have hp0:H p=none:=by
   cases z:H p with
   | none=>rfl
   | some o =>
    by_cases y:C.hd=some p
    ·obtain ⟨d,m,t,q,_⟩:=h1 p y
     rw [hp] at q;cases q
    ·rw [e1 p o z y] at hp;cases hp
  refine hq ts n1 p vs _ rr (e1.trans (ExtE.new hp)) (h1.same (zav hp)) hp0 zao ?_
  refine rp.mono (fun b o hb z=>z.elim id fun z=>?_) fun b o _ hb=>zav hp b o hb
  subst z;rw [hp] at hb;cases hb
 cases t with
 | list ts =>
  obtain ⟨p,vs,rfl,h1',h2⟩:=q1.lstI
  exact ⟨p,vs,rfl,.inl (.of h1'),fun l hl=>fin l vs ts h2 r1 hl⟩
 | tuple ts =>
  obtain ⟨p,vs,rfl,h1',h2⟩:=q1.tupI
  exact ⟨p,vs,rfl,.inr h1',fun l hl=>fin l vs ts h2 r1 hl⟩
 | _=>exact r1.elim
def tyN:PyData->Option String
 | .none=>some "NoneType"
 | .bool _=>some "bool"
 | .int _=>some "int"
 | .str _=>some "str"
 | .list _=>some "list"
 | .tuple _=>some "tuple"
 | .dict []=>some "dict"
 | .dict _=>none
def rIsi (K:PySem.W.Frag):List V->Hp->VK->Prop:=fun xs H Q=>∃ x hd O t T y b,xs=[x,.ty T]/\RepT K hd O H x t/\tyN t=some y/\kitB y T=some b/\Q (.bl b) H
theorem ziR:zbG X (.builtin "isinstance") (rIsi X.K):=by
 intro pins s σ H xs us Q I r h
 obtain ⟨x,hd,O,t,T,y,b,rfl,rp,ty,e,q⟩:=h
 cases r with
 | cons r1 r2 =>
  cases r2 with
  | cons r3 r4 =>
   cases r4
   cases (show _=Value.type T from r3)
   have fin:∀ y',tyN t=some y'->y'=y:=fun y' h=>Option.some.inj (h.symm.trans ty)
   have go:Ty H x y->wpAny (model X.prog X.w) X.A (call (.builtin "isinstance") [_,Value.type T]) (EP X pins σ Q) X.xe s:=fun ty=>ziq I r1 ty.of ((zih X.K y T).trans e) fun tk=>⟨.bl b,H,I.tok tk,rfl,q⟩
   rcases rp with rp | ⟨a,vs,ds,rfl,rfl,h3,h4,_⟩
   ·cases rp with
    | non=>cases ty;exact go .non
    | bl b=>cases ty;exact go (.bl b)
    | int i=>cases ty;exact go (.int i)
    | str i=>cases ty;exact go (.str i)
    | tup h o r=>cases ty;exact go (.tup h)
    | lst h o r=>cases ty;exact go (.lst h)
    | dct h o=>cases ty;exact go (.dK h)
    | @dcK a kvs ks ps h o r e' =>
     cases ps with
     | nil=>cases ty;exact go (.dK h)
     | cons _ _=>simp [tyN] at ty
    | @dcT a zs ks ps h o r e' =>
     cases ps with
     | nil =>
      cases ty
      cases (show _=Value.ref a from r1)
      obtain ⟨⟨_,_,_,ob,es,ep,g1,g2,_⟩,_⟩:=I.hok a _ h
      exact PySem.W.kia_one PySem.W.kitx_dict I.kIn ⟨ob,g1,g2.1⟩ ((zih X.K "dict" T).trans e) (fun z=>nomatch z) fun tk=>⟨.bl b,H,I.tok tk,rfl,q⟩
     | cons _ _=>simp [tyN] at ty
    | hand h=>simp [HAND,tyN] at ty
    | scr h o=>simp [SCR,tyN] at ty
    | scrS h=>simp [SCR,tyN] at ty
    | @tupS a vs ds h r =>
     cases ty
     cases (show _=Value.ref a from r1)
     obtain ⟨o,its,n,hk,hc,_⟩:=h
     exact PySem.W.kia_one PySem.W.kitx_tuple I.kIn ⟨o,I.kIn a o hk,hc⟩ ((zih X.K "tuple" T).trans e) (fun z=>nomatch z) fun tk=>⟨.bl b,H,I.tok tk,rfl,q⟩
   ·cases ty;exact go (.lst h3)
end
end L2
namespace L2
open PySem PySem.Spec PyProof.Rows
section
variable {X:Cx}{a b c e:Expr}{es rest:List Expr}{d da db dc:DTE}{ds:DTA}{pos p:Pos}{k:Nat}{x:Str}
theorem Reps.atI {K:PySem.W.Frag}{hd:Option Addr}{O:Addr->Prop}{H:Hp}{vs ts}{i:Int}{t} (r:Reps K hd O H vs ts) (h:L2.atI ts i=some t):∃ v,L2.atI vs i=some v/\Rep K hd O H v t:=by
 unfold L2.atI at h ⊢
 rw [r.length]
 cases e:ixN ts.length i with
 | none=>rw [e] at h;cases h
 | some j =>
  rw [e] at h
  have h:ts[j]?=some t:=h
  exact r.get h
def oIx:G2
 | .list ts,.int i,R=>match atI ts i with | some t=>R t | none=>False
 | .tuple ts,.int i,R=>match atI ts i with | some t=>R t | none=>False
 | .str x,.int i,R=>x.length<=16777216/\match atI x.cps.toList i with | some c=>R (.str ⟨#[c]⟩) | none=>False
 | _,_,_=>False
theorem zp2:Gp2 X (rIx X.K) oIx:=by
 intro hd O H x y t u Q R dom rx ry h hq
 unfold oIx at h
 split at h
 ·rename_i ts i
  obtain ⟨p,vs,rfl,h1,h2⟩:=rx.lstI
  split at h
  ·rename_i t et
   obtain ⟨v,ev,rv⟩:=h2.atI et
   exact .inl ⟨p,vs,i,v,rfl,ry.intI,.of h1,ev,hq _ _ H h (Same.refl H) rv⟩
  ·exact h.elim
 ·rename_i ts i
  obtain ⟨p,vs,rfl,h1,h2⟩:=rx.tupI
  split at h
  ·rename_i t et
   obtain ⟨v,ev,rv⟩:=h2.atI et
   exact .inr (.inl ⟨p,vs,i,v,rfl,ry.intI,h1,ev,hq _ _ H h (Same.refl H) rv⟩)
  ·exact h.elim
 ·rename_i z i
  obtain ⟨h0,h⟩:=h
  split at h
  ·rename_i c ec
   exact .inr (.inr ⟨z,i,c,rx.strI,ry.intI,h0,ec,hq _ _ H h (Same.refl H) (.str _)⟩)
  ·exact h.elim
 ·exact h.elim
theorem zcd (ha:DL X a da) (hb:DL X b db) (hs:ziV b:=by intro _ _;rfl):DE X (.Subscript a b pos) (dOp oIx da db):=by
 obtain ⟨ta,pa,ha⟩:=ha
 obtain ⟨tb,pb,hb⟩:=hb
 refine ⟨_,zeR znD pa pb hs,fun C ρ σ H n Q R S h hq=>?_⟩
 refine two ha hb S h fun x y n2 v w H2 r2 e S2 q1 q2=>?_
 exact zp2 C.hd (Own C ρ σ) H2 v w x y Q _ (fun p=>S2.dom) q1 q2 r2 fun z u H' rz sm rp=>hq z n2 u H' rz (e.trans sm.ext) (S2.hnd.same sm) rp
def dNeg (d:DTE):DTE:=fun ρ n R=>d ρ n fun t n1=>match t with | .int i=>R (.int (-i)) n1 | _=>False
theorem zgW (h:DE X a da):DE X (.UnaryOp .USub a pos) (dNeg da):=by
 obtain ⟨ta,pa,h⟩:=h
 refine ⟨_,zpq zmm pa,fun C ρ σ H n Q R S hd hq=>?_⟩
 refine h C ρ σ H n _ _ S hd fun t n1 v H1 r e1 h1 q1=>?_
 cases t with
 | int i=>rw [q1.intI];exact ⟨i,rfl,hq _ n1 _ H1 r e1 h1 (.int _)⟩
 | _=>exact r.elim
def zmO (K:PySem.W.Frag):R2:=fun x y H Q=>∃ a b xs ys,x=.ref a/\y=.ref b/\SqT K H a xs/\SqT K H b ys/\xs.length+ys.length<=sizeLine /\
 (xs=[]->Q (.ref b) H)/\(ys=[]->Q (.ref a) H)/\∀ p,H p=none->Q (.ref p) (upd H p (.tup (xs++ys)))
theorem zlk:OpR X (binaryOp .Add) (zmO X.K):=by
 intro pins s σ H x y v u Q I rx ry h
 obtain ⟨a,b,xs,ys,rfl,rfl,ha,hb,hz,q0,q1,q2⟩:=h
 by_cases hx:xs=[]
 ·cases rx
  cases ry
  obtain ⟨its,r1,p1,_⟩:=I.tuple ha
  obtain ⟨its2,r2,p2,_⟩:=I.tuple hb
  have hv:its=[]:=r1.nil_iff.mpr hx
  obtain ⟨⟨cls,dd,data,sl⟩,ho,hc,n,hd⟩:=id p1
  obtain ⟨⟨cls2,dd2,data2,sl2⟩,ho2,hc2,n2,hd2⟩:=id p2
  simp only at hc hd hc2 hd2
  subst hc hd hc2 hd2
  exact concat_meets ⟨_,ho,rfl⟩ ⟨_,ho2,rfl⟩ noFill_tuple_add seq_tuple_add PySem.F.slot_tuple_add PySem.F.entry_tuple_add (PySem.F.args_tuple_add_2 _ _)
   (tuple_addW0 a b its.toArray its2.toArray n n2 dd dd2 sl sl2 (by simp [hv])) ⟨ho,ho2,⟨.ref b,H,I,rfl,q0 hx⟩⟩
 ·exact zlj pins s σ H _ _ v u Q I rx ry ⟨a,b,xs,ys,rfl,rfl,ha,hb,hx,hz,q1,fun _=>q2⟩
def oAdd:G2
 | .int i,.int j,R=>R (.int (i+j))
 | .str i,.str j,R=>i.length+j.length<=16777216/\R (.str (i++j))
 | .tuple xs,.tuple ys,R=>xs.length+ys.length<=16777216/\R (.tuple (xs++ys))
 | _,_,_=>False
def zmP (K:PySem.W.Frag):R2:=fun x y H Q=>(rI0 fun i j=>.int (i+j)) x y H Q\/(∃ i j,x=.str i/\y=.str j/\i.length+j.length<=sizeLine/\Q (.str (i++j)) H)\/zmO K x y H Q
theorem zll:OpR X (binaryOp .Add) (zmP X.K):=OpR.or zcp (OpR.or zha zlk)
theorem zn3:Gp2 X (zmP X.K) oAdd:=by
 intro hd O H x y t u Q R dom rx ry h hq
 unfold oAdd at h
 split at h
 ·exact .inl ⟨_,_,rx.intI,ry.intI,hq _ _ H h (Same.refl H) (.int _)⟩
 ·exact .inr (.inl ⟨_,_,rx.strI,ry.strI,h.1,hq _ _ H h.2 (Same.refl H) (.str _)⟩)
 ·rename_i xs ys
  obtain ⟨p,vs,rfl,h1,h2⟩:=rx.tupI
  obtain ⟨q,ws,rfl,h3,h4⟩:=ry.tupI
  refine .inr (.inr ⟨p,q,vs,ws,rfl,rfl,h1,h3,by rw [h2.length,h4.length];exact h.1,fun e=>?_,fun e=>?_,fun l hl=>?_⟩)
  ·subst e;cases h2
   exact hq _ _ H h.2 (Same.refl H) (ry.rep (by intro _ z;cases z))
  ·subst e;cases h4
   exact hq _ _ H h.2 (Same.refl H) (by rw [List.append_nil];exact rx.rep (by intro _ z;cases z))
  ·exact hq _ _ _ h.2 (zav hl) (.newT (fun z=>dom l z hl) hl (h2.append h4))
 ·exact h.elim
theorem zaQ (ha:DL X a da) (hb:DL X b db):DE X (.BinOp a .Add b pos) (dOp oAdd da db):=zfq zll zn3 ha hb
def dCat (da db:DTE):DTA:=fun ρ n R=>da ρ n fun x n1=>db ρ n1 fun y n2=>match x,y with | .list xs,.list ys=>xs.length+ys.length<=16777216/\R (xs++ys) n2 | _,_=>False
theorem ziu {C:Ctx}{H H1:Hp}{n1:Nat}{p:Addr} (e1:ExtE C.hd H H1) (h1:Hn C.hd H1 n1) (hp:H1 p=none):H p=none:=by
 cases z:H p with
 | none=>rfl
 | some o =>
  by_cases y:C.hd=some p
  ·obtain ⟨d,m,t,q,_⟩:=h1 p y
   rw [hp] at q;cases q
  ·rw [e1 p o z y] at hp;cases hp
theorem zjn {K:PySem.W.Frag}{hd:Option Addr}{O:Addr->Prop}{H:Hp}{p:Addr}{o:HO}{vs ts} (hp:H p=none) (r:Reps K hd O H vs ts):Reps K hd (fun a=>O a\/a=p) (upd H p o) vs ts:=by
 refine r.mono (fun b o hb z=>z.elim id fun z=>?_) fun b o _ hb=>zav hp b o hb
 subst z;rw [hp] at hb;cases hb
theorem zkB (ha:DL X a da) (hb:DL X b db):DN X (.BinOp a .Add b pos) (dCat da db):=by
 obtain ⟨ta,pa,ha⟩:=ha
 obtain ⟨tb,pb,hb⟩:=hb
 refine ⟨_,za2 znh pa pb,fun C ρ σ H n Q R S h hq=>?_⟩
 refine two ha hb S h fun x y n2 v w H2 r2 e S2 q1 q2=>?_
 split at r2
 ·obtain ⟨p,vs,rfl,h1,h2⟩:=q1.lstI
  obtain ⟨q,ws,rfl,h3,h4⟩:=q2.lstI
  refine ⟨p,q,vs,ws,rfl,rfl,h1,h3,by rw [h2.length,h4.length];exact r2.1,fun l hl=>?_⟩
  exact hq _ n2 l _ _ r2.2 (e.trans (ExtE.new hl)) (S2.hnd.same (zav hl)) (ziu e S2.hnd hl) zao (zjn hl (h2.append h4))
 ·exact r2.elim
def oMul:=gI CMul fun i j=>i*j
theorem ziJ (ha:DL X a da) (hb:DL X b db):DE X (.BinOp a .Mult b pos) (dOp oMul da db):=zfq zcn gp_I ha hb
abbrev GD:=List PyData->Nat->(PyData->Nat->Prop)->Prop
def spD (K:PySem.W.Frag) (m:Nat) (g:GD):Sp:=fun vs H Q _=>∃ (hd:Option Addr) (O:Addr->Prop) (ts:List PyData) (n:Nat) (R:PyData->Nat->Prop),Reps K hd O H vs ts/\Hn hd H n/\(∀ a,O a->MutO (H a))/\(∀ a,hd=some a->O a)/\ts.length=m/\g ts n R /\
 ∀ t n' v H',R t n'->ExtE hd H H'->Hn hd H' n'->Rep K hd O H' v t->Q v H'
def dFn (g:GD) (ds:DTA):DTE:=fun ρ n R=>ds ρ n fun ts n1=>g ts n1 R
theorem zp6 {st:Stmt}{ps:List Str}{f:Addr}{fd:FuncData}{g:GD}{m:Nat} (D:Bd.Def X.K X.mg x st ps f fd) (G:FnOk X.prog X.w X.K X.mg X.base CX0 k f fd ps (spD X.K m g)) (hr:Room k X.A) (h:DB X (e::es) ds) (hm:(e::es).length=m:=by rfl) (hg:Gl X x:=by rfl)
  (hdb:(x == ("__debug__":Str))=false:=by decide):DE X (.Call (.Name x p) (e::es) [] pos) (dFn g ds):=by
 obtain ⟨ta,pa,h⟩:=h
 refine ⟨_,Bd.zle D G hr pa hg hdb,fun C ρ σ H n Q R S hd hq=>?_⟩
 refine h C ρ σ H n _ _ S hd fun ts n1 vs H1 r1 e1 h1 q1 l1=>?_
 have S1:=S.on e1 h1
 rw [List.append_nil]
 exact ⟨C.hd,Own C ρ σ,ts,n1,R,q1,h1,fun a=>S1.lst,fun a z=>.inl (S.hx a z),l1.trans hm,r1,fun t n' v H' rt e2 h2 q2=>hq t n' v H' rt (e1.trans e2) h2 q2⟩
def dFnL (g:GD) (ds:DTA):DTE:=fun ρ n R=>ds ρ n fun ts n1=>g ts n1 fun t n2=>zbR t=true/\R t n2
theorem zoe {st:Stmt}{ps:List Str}{f:Addr}{fd:FuncData}{g:GD}{m:Nat} (D:Bd.Def X.K X.mg x st ps f fd) (G:FnOk X.prog X.w X.K X.mg X.base CX0 k f fd ps (spD X.K m g)) (hr:Room k X.A) (h:DBL X (e::es) ds) (hm:(e::es).length=m:=by rfl) (hg:Gl X x:=by rfl)
  (hdb:(x == ("__debug__":Str))=false:=by decide):DE X (.Call (.Name x p) (e::es) [] pos) (dFnL g ds):=by
 obtain ⟨ta,pa,h⟩:=h
 refine ⟨_,Bd.zle D G hr pa hg hdb,fun C ρ σ H n Q R S hd hq=>?_⟩
 refine h C ρ σ H n _ _ S hd fun ts n1 vs H1 r1 e1 h1 q1 l1=>?_
 have S1:=S.on e1 h1
 rw [List.append_nil]
 have lend:∀ {vs ts},ziU X.K C.hd (Own C ρ σ) H1 vs ts->Reps X.K C.hd (fun a=>C.hd=some a) H1 vs ts:=by
  intro vs ts q
  induction q with
  | nil=>exact .nil
  | cons r _ ih =>
   refine .cons ?_ ih
   rcases r with r | ⟨a,ws,us,rfl,rfl,h3,h4,h5⟩
   ·exact r.mono (fun a o _ z=>.inl (S.hx a z)) fun _ _ _ z=>z
   ·exact .lst h3 h5 (h4.mono (fun a o _ z=>.inl (S.hx a z)) fun _ _ _ z=>z)
 refine ⟨C.hd,fun a=>C.hd=some a,ts,n1,_,lend q1,h1,fun a z=>?_,fun a z=>z,l1.trans hm,r1,fun t n' v H' rt e2 h2 q2=>?_⟩
 ·obtain ⟨d,m,t,q,_⟩:=h1 a z
  exact .inl ⟨_,q⟩
 ·exact hq t n' v H' rt.2 (e1.trans e2) h2 (q2.up (fun a z=>(S1.on e2 h2).lst z) rt.1)
end
end L2
namespace L2
open PySem PySem.Spec PyProof.Rows
def Keep (C:Ctx) (ρ:En) (σ:St) (H:Hp) (ρ':En) (σ':St) (H':Hp):Prop:=∀ a o,H a=some o->C.hd≠some a->¬OwnS ρ σ a->H' a=some o/\¬OwnS ρ' σ' a
structure DEnds where
 nx:En->Nat->Prop
 rt:PyData->Nat->Prop
 bk:En->Nat->Prop:=fun _ _=>False
 ct:En->Nat->Prop:=fun _ _=>False
abbrev DTS:=DEnds->En->Nat->Prop
structure Good (K:PySem.W.Frag) (C:Ctx) (ρ:En) (σ:St) (H:Hp) (D:Ends) (D':DEnds):Prop where
 nx:∀ ρ' σ' H' n',D'.nx ρ' n'->Stt K C ρ' σ' H' n'->Keep C ρ σ H ρ' σ' H'->D.nx σ' H'
 rt:∀ t n' v H',D'.rt t n'->Hn C.hd H' n'->(∀ a o,H a=some o->C.hd≠some a->¬OwnS ρ σ a->H' a=some o)->Rep K C.hd C.ext H' v t->D.rt v H'
 bk:∀ ρ' σ' H' n',D'.bk ρ' n'->Stt K C ρ' σ' H' n'->Keep C ρ σ H ρ' σ' H'->D.bk σ' H'
 ct:∀ ρ' σ' H' n',D'.ct ρ' n'->Stt K C ρ' σ' H' n'->Keep C ρ σ H ρ' σ' H'->D.ct σ' H'
def DS (X:Cx) (st:Stmt) (d:DTS):Prop:=∃ ts,PS X st ts/\∀ (C:Ctx) (ρ:En) (σ:St) (H:Hp) (n:Nat) (D:Ends) (D':DEnds),Stt X.K C ρ σ H n->d D' ρ n->Good X.K C ρ σ H D D'->ts D σ H
def DSs (X:Cx) (st:List Stmt) (d:DTS):Prop:=∃ ts,PSs X st ts/\∀ (C:Ctx) (ρ:En) (σ:St) (H:Hp) (n:Nat) (D:Ends) (D':DEnds),Stt X.K C ρ σ H n->d D' ρ n->Good X.K C ρ σ H D D'->ts D σ H
section
variable {K:PySem.W.Frag}{C:Ctx}{ρ ρ1 ρ2:En}{σ σ1 σ2:St}{H H1 H2:Hp}{n n1:Nat}{D:Ends}{D':DEnds}
theorem Keep.refl:Keep C ρ σ H ρ σ H:=fun _ _ h _ no=>⟨h,no⟩
theorem Keep.trans (k1:Keep C ρ σ H ρ1 σ1 H1) (k2:Keep C ρ1 σ1 H1 ρ2 σ2 H2):Keep C ρ σ H ρ2 σ2 H2:=fun a o h nh no=>by
 obtain ⟨h1,no1⟩:=k1 a o h nh no
 exact k2 a o h1 nh no1
theorem ExtE.keep (e:ExtE C.hd H H1):Keep C ρ σ H ρ σ H1:=fun a o h nh no=>⟨e a o h nh,no⟩
theorem Good.on (g:Good K C ρ σ H D D') (k:Keep C ρ σ H ρ1 σ1 H1):Good K C ρ1 σ1 H1 D D' where
 nx:=fun ρ' σ' H' n' h S k'=>g.nx ρ' σ' H' n' h S (k.trans k')
 rt:=fun t n' v H' h hn k' r=>g.rt t n' v H' h hn (fun a o ha nh no=>by
  obtain ⟨h1,no1⟩:=k a o ha nh no
  exact k' a o h1 nh no1) r
 bk:=fun ρ' σ' H' n' h S k'=>g.bk ρ' σ' H' n' h S (k.trans k')
 ct:=fun ρ' σ' H' n' h S k'=>g.ct ρ' σ' H' n' h S (k.trans k')
theorem Keep.rep (k:Keep C ρ σ H ρ1 σ1 H1) (hx:∀ a,C.hd=some a->C.ext a) {v t} (r:Rep K C.hd (Own C ρ σ) H v t):Rep K C.hd (Own C ρ1 σ1) H1 v t :=
 Rep.mono (O:=Own C ρ σ) (fun a o h z=>by
  by_cases q:Own C ρ σ a
  ·exact q
  ·rcases z with z | z
   ·exact .inl z
   ·exact absurd z (k a o h (fun y=>q (.inl (hx a y))) fun y=>q (.inr y)).2) (fun a o no h=>(k a o h (fun y=>no (.inl (hx a y))) fun y=>no (.inr y)).1) r
theorem Keep.reps (k:Keep C ρ σ H ρ1 σ1 H1) (hx:∀ a,C.hd=some a->C.ext a) {v t} (r:Reps K C.hd (Own C ρ σ) H v t):Reps K C.hd (Own C ρ1 σ1) H1 v t :=
 Reps.mono (O:=Own C ρ σ) (fun a o h z=>by
  by_cases q:Own C ρ σ a
  ·exact q
  ·rcases z with z | z
   ·exact .inl z
   ·exact absurd z (k a o h (fun y=>q (.inl (hx a y))) fun y=>q (.inr y)).2) (fun a o no h=>(k a o h (fun y=>no (.inl (hx a y))) fun y=>no (.inr y)).1) r
theorem zak {α:Type}{l:List (Option α)}{i j:Nat}{v w:α} (h:(l.set i (some v))[j]?=some (some w)):(i=j/\v=w)\/(i≠j/\l[j]?=some (some w)):=by
 by_cases e:i=j
 ·subst e
  rw [List.getElem?_set] at h
  simp only [↓reduceIte] at h
  split at h
  ·simp at h;exact .inl ⟨rfl,h⟩
  ·cases h
 ·rw [List.getElem?_set_ne e] at h
  exact .inr ⟨e,h⟩
theorem zdM {α:Type}{l:List (Option α)}{i j:Nat}{v w:α} (e:i≠j) (h:l[j]?=some (some w)):(l.set i (some v))[j]?=some (some w):=by
 rw [List.getElem?_set_ne e];exact h
theorem zki {α:Type}{l:List (Option α)}{i j:Nat}{v:α}{w:Option α} (h:(l.set i (some v))[j]?=some w) (e:i=j):i<l.length:=by
 subst e
 rw [List.getElem?_set] at h
 simp only [↓reduceIte] at h
 split at h
 ·assumption
 ·cases h
theorem zhG {α:Type}{l:List (Option α)}{i:Nat}{v:α} (h:i<l.length):(l.set i (some v))[i]?=some (some v):=by
 rw [List.getElem?_set];simp [h]
theorem zc1 {i:Nat}{t:PyData}{v:V}{a:Addr} (h:OwnS (ρ.set i (some (.val t))) (σ.set i (some v)) a):OwnS ρ σ a:=by
 obtain ⟨j,c,m,h1,h2⟩:=h
 rcases zak h1 with ⟨_,z⟩ | ⟨e,h1⟩
 ·subst z;cases m
 ·rcases zak h2 with ⟨z,_⟩ | ⟨_,h2⟩
  ·exact absurd z e
  ·exact ⟨j,c,m,h1,h2⟩
def zbZ (K:PySem.W.Frag) (hd:Option Addr) (O:Addr->Prop) (H:Hp) (a:Addr):Cell->Prop
 | .val _=>False
 | .rdo _=>False
 | .own ts=>∃ vs,H a=some (.lst vs)/\Reps K hd O H vs ts
 | .dct ks=>∃ kvs,H a=some (.dK kvs)/\zgg K hd O H kvs ks
 | .dtt ks=>∃ zs,H a=some (ZDO a zs)/\RepsT K hd O H zs ks
theorem zbZ.mono {hd:Option Addr}{O O':Addr->Prop}{H H':Hp}{a:Addr}{c:Cell} (x:zbZ K hd O H a c) (ho:∀ a o,H a=some o->O' a->O a) (hh:∀ a o,¬O a->H a=some o->H' a=some o) (ha:∀ o,H a=some o->H' a=some o):zbZ K hd O' H' a c:=by
 cases c with
 | val _=>exact x.elim
 | rdo _=>exact x.elim
 | own ts=>obtain ⟨vs,h1,h2⟩:=x;exact ⟨vs,ha _ h1,h2.mono ho hh⟩
 | dct ks=>obtain ⟨vs,h1,h2⟩:=x;exact ⟨vs,ha _ h1,h2.mono ho hh⟩
 | dtt ks=>obtain ⟨vs,h1,h2⟩:=x;exact ⟨vs,ha _ h1,h2.mono ho hh⟩
theorem zbZ.some {hd:Option Addr}{O:Addr->Prop}{H:Hp}{a:Addr}{c:Cell} (x:zbZ K hd O H a c):∃ o,H a=some o:=by
 cases c with
 | val _=>exact x.elim
 | rdo _=>exact x.elim
 | own ts=>obtain ⟨vs,h1,h2⟩:=x;exact ⟨_,h1⟩
 | dct ks=>obtain ⟨vs,h1,h2⟩:=x;exact ⟨_,h1⟩
 | dtt ks=>obtain ⟨vs,h1,h2⟩:=x;exact ⟨_,h1⟩
theorem zbZ.mine {hd:Option Addr}{O:Addr->Prop}{H:Hp}{a:Addr}{c:Cell} (x:zbZ K hd O H a c):c.mine=true:=by
 cases c with
 | val _=>exact x.elim
 | rdo _=>exact x.elim
 | own ts=>rfl
 | dct ks=>rfl
 | dtt ks=>rfl
theorem Stt.cell (S:Stt K C ρ σ H n) {i:Nat}{c:Cell} (m:c.mine=true) (h:ρ[i]?=some (some c)):∃ a:Addr,σ[i]?=some (some (V.ref a))/\zbZ K C.hd (Own C ρ σ) H a c/\¬C.ext a:=by
 cases c with
 | val _=>cases m
 | rdo _=>cases m
 | own ts=>obtain ⟨a,vs,h1,h2,h3,h4⟩:=S.own i ts h;exact ⟨a,h1,⟨vs,h2,h3⟩,h4⟩
 | dct ks=>obtain ⟨a,vs,h1,h2,h3,h4⟩:=S.dct i ks h;exact ⟨a,h1,⟨vs,h2,h3⟩,h4⟩
 | dtt ks=>obtain ⟨a,vs,h1,h2,h3,h4⟩:=S.dtt i ks h;exact ⟨a,h1,⟨vs,h2,h3⟩,h4⟩
def zl_ (K:PySem.W.Frag) (C:Ctx) (ρ:En) (σ:St) (H:Hp):Prop:=∀ (i:Nat) (ks:List (Key×PyData)),ρ[i]?=some (some (Cell.rdo ks))->∃ a kvs,σ[i]?=some (some (V.ref a))/\H a=some (.dK kvs)/\zgg K C.hd (Own C ρ σ) H kvs ks/\C.ext a/\C.hd≠some a
theorem Stt.mk' (len:ρ.length=σ.length) (val:∀ (i:Nat) (d:PyData),ρ[i]?=some (some (Cell.val d))->∃ v,σ[i]?=some (some v)/\Rep K C.hd (Own C ρ σ) H v d)
  (cell:∀ (i:Nat) (c:Cell),c.mine=true->ρ[i]?=some (some c)->∃ a:Addr,σ[i]?=some (some (V.ref a))/\zbZ K C.hd (Own C ρ σ) H a c/\¬C.ext a)
  (rdo:zl_ K C ρ σ H) (dif:∀ (i j:Nat) (c e:Cell) (a:Addr),c.mine=true->e.mine=true->ρ[i]?=some (some c)->ρ[j]?=some (some e)->σ[i]?=some (some (V.ref a))->σ[j]?=some (some (V.ref a))->i=j)
  (hnd:Hn C.hd H n) (ext:∀ a,C.ext a->MutO (H a)) (hx:∀ a,C.hd=some a->C.ext a):Stt K C ρ σ H n where
 len:=len
 val:=val
 own:=fun i ts h=>by obtain ⟨a,h1,⟨vs,h2,h3⟩,h4⟩:=cell i _ rfl h;exact ⟨a,vs,h1,h2,h3,h4⟩
 dct:=fun i ts h=>by obtain ⟨a,h1,⟨vs,h2,h3⟩,h4⟩:=cell i _ rfl h;exact ⟨a,vs,h1,h2,h3,h4⟩
 rdo:=rdo
 dtt:=fun i ts h=>by obtain ⟨a,h1,⟨vs,h2,h3⟩,h4⟩:=cell i _ rfl h;exact ⟨a,vs,h1,h2,h3,h4⟩
 dif:=dif
 hnd:=hnd
 ext:=ext
 hx:=hx
theorem Stt.put (S:Stt K C ρ σ H n) {i:Nat}{t:PyData}{v:V} (r:Rep K C.hd (Own C ρ σ) H v t):Stt K C (ρ.set i (some (.val t))) (σ.set i (some v)) H n:=by
 have sub:∀ a o,H a=some o->Own C (ρ.set i (some (.val t))) (σ.set i (some v)) a->Own C ρ σ a:=fun a o _ z=>z.elim .inl fun z=>.inr (zc1 z)
 have mono:∀ {w u},Rep K C.hd (Own C ρ σ) H w u->Rep K C.hd (Own C (ρ.set i (some (.val t))) (σ.set i (some v))) H w u:=fun q=>q.mono sub fun _ _ _ z=>z
 refine .mk' (by simp [S.len]) (fun j d h=>?_) (fun j c m h=>?_) (fun j ks h=>?_) (fun j k c e a m1 m2 h1 h2 h3 h4=>?_) S.hnd S.ext S.hx
 rotate_left 2
 ·rcases zak h with ⟨_,z⟩ | ⟨e,h'⟩
  ·cases z
  ·obtain ⟨a,kvs,q1,q2,q3,q4⟩:=S.rdo j ks h'
   exact ⟨a,kvs,zdM e q1,q2,q3.mono sub fun _ _ _ z=>z,q4⟩
 rotate_left 1
 ·rcases zak h with ⟨e,z⟩ | ⟨e,h'⟩
  ·cases z
   have:=zki h e
   subst e
   exact ⟨v,zhG (by rw [<- S.len];exact this),mono r⟩
  ·obtain ⟨w,h1,h2⟩:=S.val j d h'
   exact ⟨w,zdM e h1,mono h2⟩
 ·rcases zak h with ⟨e,z⟩ | ⟨e,h'⟩
  ·subst z;cases m
  ·obtain ⟨a,h1,h2,h3⟩:=S.cell m h'
   exact ⟨a,zdM e h1,h2.mono sub (fun _ _ _ z=>z) fun _ z=>z,h3⟩
 ·rcases zak h1 with ⟨e,z⟩ | ⟨e,h1'⟩
  ·subst z;cases m1
  ·rcases zak h2 with ⟨e2,z⟩ | ⟨e2,h2'⟩
   ·subst z;cases m2
   ·rcases zak h3 with ⟨z,_⟩ | ⟨_,h3'⟩
    ·exact absurd z e
    ·rcases zak h4 with ⟨z,_⟩ | ⟨_,h4'⟩
     ·exact absurd z e2
     ·exact S.dif j k c _ a m1 m2 h1' h2' h3' h4'
theorem zct {i:Nat}{t:PyData}{v:V}:Keep C ρ σ H (ρ.set i (some (.val t))) (σ.set i (some v)) H:=fun a o h _ no=>⟨h,fun z=>no (zc1 z)⟩
theorem zgG {i:Nat}{c:Cell}{p a:Addr} (h:OwnS (ρ.set i (some c)) (σ.set i (some (.ref p))) a):OwnS ρ σ a\/a=p:=by
 obtain ⟨j,ds,m,h1,h2⟩:=h
 rcases zak h2 with ⟨e,z⟩ | ⟨e,h2⟩
 ·cases z;exact .inr rfl
 ·rcases zak h1 with ⟨z,_⟩ | ⟨_,h1⟩
  ·exact absurd z e
  ·exact .inl ⟨j,ds,m,h1,h2⟩
theorem Stt.putNew (S:Stt K C ρ σ H n) {i:Nat}{c:Cell}{p:Addr}{H':Hp} (e:ExtE C.hd H H') (h:Hn C.hd H' n1) (hp:H p=none) (r:zbZ K C.hd (fun a=>Own C ρ σ a\/a=p) H' p c) :
  Stt K C (ρ.set i (some c)) (σ.set i (some (.ref p))) H' n1:=by
 have S':=S.on e h
 have mc:=r.mine
 have sub:∀ a,Own C (ρ.set i (some c)) (σ.set i (some (.ref p))) a->Own C ρ σ a\/a=p:=fun a z=>z.elim (fun z=>.inl (.inl z)) fun z=>(zgG z).elim (fun z=>.inl (.inr z)) .inr
 have npx:¬C.ext p:=fun z=>S.dom (.inl z) hp
 have sb:∀ a o,H a=some o->Own C (ρ.set i (some c)) (σ.set i (some (.ref p))) a->Own C ρ σ a:=fun a o ho z=>(sub a z).elim id fun z=>by subst z;rw [hp] at ho;cases ho
 have kp:∀ a o,¬Own C ρ σ a->H a=some o->H' a=some o:=fun a o no ho=>e a o ho fun z=>no (.inl (S.hx a z))
 have notp:∀ (j:Nat) (d:Cell),d.mine=true->ρ[j]?=some (some d)->σ[j]?≠some (some (V.ref p)):=fun j d m h1 h2=>by
  obtain ⟨a,e1,e2,_⟩:=S.cell m h1
  rw [h2] at e1;cases e1
  obtain ⟨o,e2⟩:=e2.some
  rw [hp] at e2;cases e2
 refine .mk' (by simp [S.len]) (fun j d hj=>?_) (fun j d m hj=>?_) (fun j ks hj=>?_) (fun j k c1 c2 a m1 m2 h1 h2 h3 h4=>?_) h S'.ext S.hx
 rotate_left 2
 ·rcases zak hj with ⟨_,z⟩ | ⟨e',h'⟩
  ·subst z;cases mc
  ·obtain ⟨a,kvs,q1,q2,q3,q4,q5⟩:=S.rdo j ks h'
   exact ⟨a,kvs,zdM e' q1,e a _ q2 q5,q3.mono sb kp,q4,q5⟩
 rotate_left 1
 ·rcases zak hj with ⟨_,z⟩ | ⟨e',h'⟩
  ·subst z;cases mc
  ·obtain ⟨w,h1,h2⟩:=S.val j d h'
   exact ⟨w,zdM e' h1,h2.mono sb kp⟩
 ·rcases zak hj with ⟨e',z⟩ | ⟨e',h'⟩
  ·subst z
   have:=zki hj e'
   subst e'
   exact ⟨p,zhG (by rw [<- S.len];exact this),r.mono (fun a o _ z=>sub a z) (fun _ _ _ z=>z) fun _ z=>z,npx⟩
  ·obtain ⟨a,h1,h2,h4⟩:=S.cell m h'
   exact ⟨a,zdM e' h1,h2.mono sb kp (fun o ho=>e a o ho fun z=>h4 (S.hx a z)),h4⟩
 ·rcases zak h3 with ⟨e3,z3⟩ | ⟨e3,h3'⟩
  ·cases z3
   rcases zak h4 with ⟨e4,_⟩ | ⟨e4,h4'⟩
   ·rw [<- e3,<- e4]
   ·rcases zak h2 with ⟨z,_⟩ | ⟨_,h2'⟩
    ·exact absurd z e4
    ·exact absurd h4' (notp k _ m2 h2')
  ·rcases zak h1 with ⟨z,_⟩ | ⟨_,h1'⟩
   ·exact absurd z e3
   ·rcases zak h4 with ⟨e4,z4⟩ | ⟨e4,h4'⟩
    ·cases z4;exact absurd h3' (notp j _ m1 h1')
    ·rcases zak h2 with ⟨z,_⟩ | ⟨_,h2'⟩
     ·exact absurd z e4
     ·exact S.dif j k _ _ a m1 m2 h1' h2' h3' h4'
theorem Stt.putOwn (S:Stt K C ρ σ H n) {i:Nat}{ts:List PyData}{p:Addr}{vs:List V}{H':Hp} (e:ExtE C.hd H H') (h:Hn C.hd H' n1) (hp:H p=none) (hp':H' p=some (.lst vs)) (r:Reps K C.hd (fun a=>Own C ρ σ a\/a=p) H' vs ts) :
  Stt K C (ρ.set i (some (.own ts))) (σ.set i (some (.ref p))) H' n1:=S.putNew e h hp ⟨vs,hp',r⟩
theorem zdr {i:Nat}{c:Cell}{p:Addr}{H':Hp} (e:ExtE C.hd H H') (hp:H p=none):Keep C ρ σ H (ρ.set i (some c)) (σ.set i (some (.ref p))) H':=fun a o h nh no =>
 ⟨e a o h nh,fun z=>(zgG z).elim no fun z=>by subst z;rw [hp] at h;cases h⟩
theorem zf2 {i:Nat}{ts:List PyData}{p:Addr}{H':Hp} (e:ExtE C.hd H H') (hp:H p=none):Keep C ρ σ H (ρ.set i (some (.own ts))) (σ.set i (some (.ref p))) H':=zdr e hp
theorem Stt.chgC (S:Stt K C ρ σ H n) {i:Nat}{c c':Cell}{p:Addr}{o':HO} (m:c.mine=true) (m':c'.mine=true) (h1:ρ[i]?=some (some c)) (h2:σ[i]?=some (some (.ref p)))
  (r:∀ (O':Addr->Prop) (H':Hp),(∀ a o,H a=some o->O' a->Own C ρ σ a)->(∀ a o,¬Own C ρ σ a->H a=some o->H' a=some o)->H' p=some o'->zbZ K C.hd O' H' p c') :
  Stt K C (ρ.set i (some c')) σ (upd H p o') n/\Keep C ρ σ H (ρ.set i (some c')) σ (upd H p o'):=by
 have op:OwnS ρ σ p:=⟨i,c,m,h1,h2⟩
 obtain ⟨p',e1,hp,npx⟩:=S.cell m h1
 rw [h2] at e1;cases e1
 have own1:∀ a,OwnS (ρ.set i (some c')) σ a->OwnS ρ σ a:=fun a ⟨j,d,md,q1,q2⟩=>by
  rcases zak q1 with ⟨e,_⟩ | ⟨e,q1⟩
  ·subst e;rw [h2] at q2;cases q2;exact op
  ·exact ⟨j,d,md,q1,q2⟩
 have sub:∀ a o,H a=some o->Own C (ρ.set i (some c')) σ a->Own C ρ σ a:=fun a o _ z=>z.elim .inl fun z=>.inr (own1 a z)
 have kp:∀ a o,¬Own C ρ σ a->H a=some o->upd H p o' a=some o:=fun a o no ho=>by rw [zam (show a≠p from fun z=>no (by rw [z];exact .inr op))];exact ho
 have rd:zl_ K C (ρ.set i (some c')) σ (upd H p o'):=fun j ks hj=>by
  rcases zak hj with ⟨_,z⟩ | ⟨e',h'⟩
  ·subst z;cases m'
  ·obtain ⟨a,kvs,q1,q2,q3,q4,q5⟩:=S.rdo j ks h'
   exact ⟨a,kvs,q1,by rw [zam (show a≠p from fun z=>npx (by rw [<- z];exact q4))];exact q2,q3.mono sub kp,q4,q5⟩
 refine ⟨.mk' (by simp [S.len]) (fun j d hj=>?_) (fun j d md hj=>?_) rd (fun j k c1 c2 a m1 m2 q1 q2 q3 q4=>?_) (fun a ha=>?_) (fun a ha=>?_) S.hx,fun a o h nh no=>⟨by rw [zam (show a≠p from fun z=>no (by rw [z];exact op))];exact h,fun z=>no (own1 a z)⟩⟩
 ·rcases zak hj with ⟨_,z⟩ | ⟨e',h'⟩
  ·subst z;cases m'
  ·obtain ⟨w,q1,q2⟩:=S.val j d h'
   exact ⟨w,q1,q2.mono sub kp⟩
 ·rcases zak hj with ⟨e',z⟩ | ⟨e',h'⟩
  ·subst z
   subst e'
   exact ⟨p,h2,r _ _ sub kp zao,npx⟩
  ·obtain ⟨a,q1,q2,q4⟩:=S.cell md h'
   have:a≠p:=fun z=>by subst z;exact e' (S.dif i j c d a m md h1 h' h2 q1)
   exact ⟨a,q1,q2.mono sub kp (fun o ho=>by rw [zam this];exact ho),q4⟩
 ·have get:∀ (j:Nat) (d:Cell),d.mine=true->(ρ.set i (some c'))[j]?=some (some d)->∃ d':Cell,d'.mine=true/\ρ[j]?=some (some d'):=fun j d md q=>by
   rcases zak q with ⟨e,_⟩ | ⟨_,q⟩
   ·subst e;exact ⟨_,m,h1⟩
   ·exact ⟨_,md,q⟩
  obtain ⟨d1,md1,g1⟩:=get j c1 m1 q1
  obtain ⟨d2,md2,g2⟩:=get k c2 m2 q2
  exact S.dif j k d1 d2 a md1 md2 g1 g2 q3 q4
 ·obtain ⟨d,m,t,q,rest⟩:=S.hnd a ha
  exact ⟨d,m,t,by rw [zam (show a≠p from fun z=>npx (by rw [<- z];exact S.hx a ha))];exact q,rest⟩
 ·by_cases z:a=p
  ·subst z;exact absurd ha npx
  ·rw [zam z];exact S.ext a ha
theorem Stt.chg (S:Stt K C ρ σ H n) {i:Nat}{ts us:List PyData}{p:Addr}{ws:List V} (h1:ρ[i]?=some (some (.own ts))) (h2:σ[i]?=some (some (.ref p))) (r:Reps K C.hd (Own C ρ σ) H ws us) :
  Stt K C (ρ.set i (some (.own us))) σ (upd H p (.lst ws)) n/\Keep C ρ σ H (ρ.set i (some (.own us))) σ (upd H p (.lst ws)):=S.chgC rfl rfl h1 h2 fun _ _ a b hp=>⟨ws,hp,r.mono a b⟩
theorem Stt.freeze (S:Stt K C ρ σ H n) {i:Nat}{ts:List PyData} (h1:ρ[i]?=some (some (.own ts))):Stt K C (ρ.set i (some (.val (.list ts)))) σ H n/\Keep C ρ σ H (ρ.set i (some (.val (.list ts)))) σ H:=by
 obtain ⟨p,vs,h2,hp,hr,npx⟩:=S.own i ts h1
 have own1:∀ a,OwnS (ρ.set i (some (.val (.list ts)))) σ a->OwnS ρ σ a/\a≠p:=fun a ⟨j,ds,m,q1,q2⟩=>by
  rcases zak q1 with ⟨_,z⟩ | ⟨e,q1⟩
  ·subst z;cases m
  ·exact ⟨⟨j,ds,m,q1,q2⟩,fun z=>by subst z;exact e (S.dif i j (.own ts) ds a rfl m h1 q1 h2 q2)⟩
 have sub:∀ a o,H a=some o->Own C (ρ.set i (some (.val (.list ts)))) σ a->Own C ρ σ a:=fun a o _ z=>z.elim .inl fun z=>.inr (own1 a z).1
 have rd:zl_ K C (ρ.set i (some (.val (.list ts)))) σ H:=fun j ks hj=>by
  rcases zak hj with ⟨_,z⟩ | ⟨e',h'⟩
  ·cases z
  ·obtain ⟨a,kvs,q1,q2,q3,q4⟩:=S.rdo j ks h'
   exact ⟨a,kvs,q1,q2,q3.mono sub fun _ _ _ z=>z,q4⟩
 refine ⟨.mk' (by simp [S.len]) (fun j d hj=>?_) (fun j d m hj=>?_) rd (fun j k c1 c2 a m1 m2 q1 q2 q3 q4=>?_) S.hnd S.ext S.hx,fun a o h _ no=>⟨h,fun z=>no (own1 a z).1⟩⟩
 ·rcases zak hj with ⟨e',z⟩ | ⟨e',h'⟩
  ·cases z
   subst e'
   exact ⟨.ref p,h2,.lst hp (fun z=>z.elim npx fun z=>(own1 p z).2 rfl) (hr.mono sub fun _ _ _ z=>z)⟩
  ·obtain ⟨w,q1,q2⟩:=S.val j d h'
   exact ⟨w,q1,q2.mono sub fun _ _ _ z=>z⟩
 ·rcases zak hj with ⟨_,z⟩ | ⟨e',h'⟩
  ·subst z;cases m
  ·obtain ⟨a,q1,q3,q4⟩:=S.cell m h'
   exact ⟨a,q1,q3.mono sub (fun _ _ _ z=>z) fun _ z=>z,q4⟩
 ·rcases zak q1 with ⟨_,z⟩ | ⟨_,g1⟩
  ·subst z;cases m1
  ·rcases zak q2 with ⟨_,z⟩ | ⟨_,g2⟩
   ·subst z;cases m2
   ·exact S.dif j k _ _ a m1 m2 g1 g2 q3 q4
end
end L2
namespace L2
open PySem PySem.Spec PyProof.Rows
section
variable {X:Cx}{a b c e:Expr}{es rest:List Expr}{d da db dc:DTE}{ds:DTA}{dt:DTT}{t u:DTS}{st:Stmt}{sts sa sb:List Stmt}{pos p:Pos}{k:Nat}{x:Str}
def zkV:DTS:=fun D ρ n=>D.nx ρ n
def sSeq (t u:DTS):DTS:=fun D ρ n=>t { D with nx:=u D } ρ n
theorem zaz:DSs X [] zkV:=⟨_,zfT,fun C ρ σ H n D D' S h g=>g.nx ρ σ H n h S Keep.refl⟩
theorem zaf (h1:DS X st t) (h2:DSs X sts u):DSs X (st::sts) (sSeq t u):=by
 obtain ⟨ta,pa,h1⟩:=h1
 obtain ⟨tb,pb,h2⟩:=h2
 refine ⟨_,zaV pa pb,fun C ρ σ H n D D' S h g=>?_⟩
 exact h1 C ρ σ H n _ _ S h ⟨fun ρ' σ' H' n' hn S' k=>h2 C ρ' σ' H' n' D D' S' hn (g.on k),g.rt,g.bk,g.ct⟩
theorem zah (h1:DS X st t):DSs X [st] t:=by
 obtain ⟨ta,pa,h1⟩:=h1
 exact ⟨_,zdj pa,h1⟩
def zda (i:Nat) (t:DTS):DTS:=fun D ρ n=>match ρ[i]? with | some (some (.own ts))=>t D (ρ.set i (some (.val (.list ts)))) n | _=>False
theorem zcK (i:Nat) (h1:DSs X sts t):DSs X sts (zda i t):=by
 obtain ⟨ta,pa,h1⟩:=h1
 refine ⟨_,pa,fun C ρ σ H n D D' S h g=>?_⟩
 unfold zda at h
 split at h
 ·rename_i ts et
  obtain ⟨S',kp⟩:=S.freeze et
  exact h1 C _ σ H n D D' S' h (g.on kp)
 ·exact h.elim
def sRet (d:DTE):DTS:=fun D ρ n=>d ρ n fun t n'=>D.rt t n'
theorem zaw (h:DE X e d):DS X (.Return (some e) pos) (sRet d):=by
 obtain ⟨ta,pa,h⟩:=h
 refine ⟨_,zgA pa,fun C ρ σ H n D D' S hd g=>?_⟩
 refine h C ρ σ H n _ _ S hd fun t n' v H' r e1 h1 q=>?_
 exact g.rt t n' v H' r h1 (fun a o ha nh _=>e1 a o ha nh) (q.mono (fun _ _ _ z=>.inl z) fun _ _ _ z=>z)
def sIf (c:DTT) (t u:DTS):DTS:=fun D ρ n=>c ρ n fun b n1=>if b=true then t D ρ n1 else u D ρ n1
theorem zbo (hc:DT X c dt) (h1:DSs X sa t) (h2:DSs X sb u):DS X (.If c sa sb pos) (sIf dt t u):=by
 obtain ⟨tc,pc,hc⟩:=hc
 obtain ⟨ta,pa,h1⟩:=h1
 obtain ⟨tb,pb,h2⟩:=h2
 refine ⟨_,zk5 pc pa pb,fun C ρ σ H n D D' S hd g=>?_⟩
 refine hc C ρ σ H n _ _ S hd fun b n1 H1 r e1 hn=>?_
 cases b with
 | true=>exact iteT (h1 C ρ σ H1 n1 D D' (S.on e1 hn) (by simpa using r) (g.on e1.keep))
 | false=>exact iteF (h2 C ρ σ H1 n1 D D' (S.on e1 hn) (by simpa using r) (g.on e1.keep))
def sSet (i:Nat) (d:DTE):DTS:=fun D ρ n=>d ρ n fun t n'=>D.nx (ρ.set i (some (.val t))) n'
theorem zbu {i:Nat}{pos':Pos} (hN:X.N.Nodup) (hi:X.N[i]?=some x) (hx:Loc X.env.scope x) (h:DE X e d) (hs:swapsWith e (some (.Name x pos')) pos.line X.env=pure false:=by rfl) (hf:X.fn x=true\/X.env.scope.names.lookup x=some .local:=by first | exact .inl rfl | exact .inr rfl | assumption) :
  DS X (.Assign [.Name x pos'] e pos) (sSet i d):=by
 obtain ⟨ta,pa,h⟩:=h
 refine ⟨_,zbO hN hi hx pa hs hf,fun C ρ σ H n D D' S hd g=>?_⟩
 refine h C ρ σ H n _ _ S hd fun t n' v H' r e1 h1 q=>?_
 exact g.nx _ _ H' n' r ((S.on e1 h1).put q) (e1.keep.trans zct)
def sOwn (i:Nat) (d:DTA):DTS:=fun D ρ n=>d ρ n fun ts n'=>D.nx (ρ.set i (some (.own ts))) n'
theorem zgU {i:Nat}{pos':Pos} (hN:X.N.Nodup) (hi:X.N[i]?=some x) (hx:Loc X.env.scope x) (h:DN X e ds) (hs:swapsWith e (some (.Name x pos')) pos.line X.env=pure false:=by rfl) (hf:X.fn x=true\/X.env.scope.names.lookup x=some .local:=by first | exact .inl rfl | exact .inr rfl | assumption) :
  DS X (.Assign [.Name x pos'] e pos) (sOwn i ds):=by
 obtain ⟨ta,pa,h⟩:=h
 refine ⟨_,zbO hN hi hx pa hs hf,fun C ρ σ H n D D' S hd g=>?_⟩
 refine h C ρ σ H n _ _ S hd fun ts n' p vs H' r e1 h1 hp hp' q=>?_
 exact g.nx _ _ H' n' r (S.putOwn e1 h1 hp hp' q) (zf2 e1 hp)
abbrev DTG:=PyData->En->(En->Prop)->Prop
abbrev DTGs:=List PyData->En->(En->Prop)->Prop
def DG (X:Cx) (tg:Expr) (is:List Nat) (d:DTG):Prop:=(∀ t ρ R,d t ρ R->∃ ρ',R ρ')/\∃ g,PG X tg g/\∀ (C:Ctx) (ρ:En) (σ:St) (H:Hp) (n:Nat) (v:V) (t:PyData) (Q:St->Hp->Prop) (R:En->Prop),Stt X.K C ρ σ H n->Rep X.K C.hd (Own C ρ σ) H v t->d t ρ R ->
 (∀ ρ' σ',R ρ'->Stt X.K C ρ' σ' H n->Keep C ρ σ H ρ' σ' H->(∀ j,j∉is->σ'[j]?=σ[j]?)->σ'.length=σ.length->Q σ' H)->g v σ H Q
def DGs (X:Cx) (tgs:List Expr) (is:List Nat) (d:DTGs):Prop:=(∀ ts ρ R,d ts ρ R->ts.length=tgs.length)/\(∀ t ρ R,d t ρ R->∃ ρ',R ρ')/\∃ g,PGs X tgs g/\∀ (C:Ctx) (ρ:En) (σ:St) (H:Hp) (n:Nat) (vs:List V) (ts:List PyData) (Q:St->Hp->Prop) (R:En->Prop),Stt X.K C ρ σ H n->Reps X.K C.hd (Own C ρ σ) H vs ts->d ts ρ R ->
 (∀ ρ' σ',R ρ'->Stt X.K C ρ' σ' H n->Keep C ρ σ H ρ' σ' H->(∀ j,j∉is->σ'[j]?=σ[j]?)->σ'.length=σ.length->Q σ' H)->g vs σ H Q
def zhx (i:Nat):DTG:=fun t ρ R=>R (ρ.set i (some (.val t)))
def zkN:DTGs:=fun ts ρ R=>match ts with | []=>R ρ | _=>False
def zhy (d:DTG) (ds:DTGs):DTGs:=fun ts ρ R=>match ts with | t::ts=>d t ρ fun ρ'=>ds ts ρ' R | []=>False
def zkM (ds:DTGs):DTG:=fun t ρ R=>match t with | .tuple ts=>ds ts ρ R | _=>False
theorem zaC {i:Nat} (hN:X.N.Nodup) (hi:X.N[i]?=some x) (hx:Loc X.env.scope x) (hf:X.fn x=true\/X.env.scope.names.lookup x=some .local:=by first | exact .inl rfl | exact .inr rfl | assumption):DG X (.Name x pos) [i] (zhx i):=by
 refine ⟨fun t ρ R h=>⟨_,h⟩,_,zlb hN hi hx hf,fun C ρ σ H n v t Q R S r hd hq=>?_⟩
 exact hq _ _ hd (S.put r) zct (fun j hj=>by rw [List.getElem?_set_ne (fun z=>hj (by simp [z]))]) (by simp)
theorem zcc:DGs X [] [] zkN:=by
 refine ⟨fun ts ρ R h=>?_,fun ts ρ R h=>?_,_,zla,fun C ρ σ H n vs ts Q R S r hd hq=>?_⟩
 ·cases ts with
  | nil=>rfl
  | cons _ _=>exact h.elim
 ·cases ts with
  | nil=>exact ⟨_,h⟩
  | cons _ _=>exact h.elim
 ·cases r with
  | nil=>exact ⟨rfl,hq _ _ hd S Keep.refl (fun _ _=>rfl) rfl⟩
  | cons _ _=>exact hd.elim
theorem zaL {is js:List Nat}{g:DTG}{gs:DTGs} (h1:DG X e is g) (h2:DGs X es js gs) (hs:(assignEach (e::es) X.env).map (·.2)=assign e X.env::(assignEach es X.env).map (·.2):=by rfl):DGs X (e::es) (is++js) (zhy g gs):=by
 obtain ⟨w1,ga,pa,h1⟩:=h1
 obtain ⟨l2,w2,gb,pb,h2⟩:=h2
 refine ⟨fun ts ρ R h=>?_,fun ts ρ R h=>?_,_,zjz pa pb hs,fun C ρ σ H n vs ts Q R S r hd hq=>?_⟩
 ·cases ts with
  | nil=>exact h.elim
  | cons t ts =>
   obtain ⟨ρ',h'⟩:=w1 t ρ _ h
   simp [l2 ts ρ' R h']
 ·cases ts with
  | nil=>exact h.elim
  | cons t ts =>
   obtain ⟨ρ',h'⟩:=w1 t ρ _ h
   exact w2 ts ρ' R h'
 ·cases r with
  | nil=>exact hd.elim
  | cons r rs =>
   refine ⟨_,_,rfl,h1 C ρ σ H n _ _ _ _ S r hd fun ρ' σ' hr S' kp hj hl=>?_⟩
   refine h2 C ρ' σ' H n _ _ _ _ S' (kp.reps S.hx rs) hr fun ρ2 σ2 hr2 S2 kp2 hj2 hl2=>?_
   exact hq ρ2 σ2 hr2 S2 (kp.trans kp2) (fun j hj'=>by rw [hj2 j (fun z=>hj' (by simp [z])),hj j (fun z=>hj' (by simp [z]))]) (hl2.trans hl)
theorem zdx {is:List Nat}{gs:DTGs}{k:Nat} (hc:X.calm=true) (h:DGs X es is gs) (hn:(assignEach es X.env).length=es.length:=by rfl) (hst:(assignEach es X.env).findIdx? (·.1)=none:=by rfl):DG X (.Tuple es k pos) is (zkM gs):=by
 obtain ⟨l,w,g,pg,h⟩:=h
 refine ⟨fun t ρ R h=>?_,_,zmY hc pg hn hst,fun C ρ σ H n v t Q R S r hd hq=>?_⟩
 ·cases t with
  | tuple ts=>exact w ts ρ R h
  | _=>exact h.elim
 ·cases t with
  | tuple ts =>
   obtain ⟨p,vs,rfl,h1,h2⟩:=r.tupI
   exact ⟨p,vs,rfl,h1,by rw [h2.length];exact l ts ρ R hd,h C ρ σ H n vs ts Q R S h2 hd hq⟩
  | _=>exact hd.elim
def sAsg (d:DTE) (g:DTG):DTS:=fun D ρ n=>d ρ n fun t n'=>g t ρ fun ρ'=>D.nx ρ' n'
theorem zfp {tg:Expr}{is:List Nat}{g:DTG} (h:DE X e d) (hg:DG X tg is g) (hs:swapsWithSole [tg] e pos.line X.env=pure false:=by rfl) (hw:swappedStores [tg] e X.env=pure none:=by rfl)
  (h1:(assignEach [tg] X.env).map (·.2)=[assign tg X.env]:=by rfl):DS X (.Assign [tg] e pos) (sAsg d g):=by
 obtain ⟨ta,pa,h⟩:=h
 obtain ⟨w,gb,pb,hg⟩:=hg
 refine ⟨_,zhS pa pb hs hw h1,fun C ρ σ H n D D' S hd gd=>?_⟩
 refine h C ρ σ H n _ _ S hd fun t n' v H' r e1 hn q=>?_
 exact hg C ρ σ H' n' v t _ _ (S.on e1 hn) q r fun ρ' σ' hr S' kp _ _=>gd.nx ρ' σ' H' n' hr S' (e1.keep.trans kp)
def sPar (i j:Nat) (ds:DTA):DTS:=fun D ρ n=>ds ρ n fun ts n'=>match ts with | [t,u]=>D.nx ((ρ.set i (some (.val t))).set j (some (.val u))) n' | _=>False
theorem zn_ {i j:Nat}{x y:Str}{px py pt:Pos}{kt k2 pt2} (hc:X.calm=true) (hN:X.N.Nodup) (hi:X.N[i]?=some x) (hj:X.N[j]?=some y) (hij:i≠j)
  (hx:X.env.scope.names.lookup x=some .local) (hy:X.env.scope.names.lookup y=some .local) (h:DB X [a,b] ds)
  (hw:swappedStores [.Tuple [.Name x px,.Name y py] kt pt] (.Tuple [a,b] k2 pt2) X.env=pure (some [x,y]):=by rfl)
  (hs:swapsWithSole [.Tuple [.Name x px,.Name y py] kt pt] (.Tuple [a,b] k2 pt2) pos.line X.env=pure false:=by rfl) :
  DS X (.Assign [.Tuple [.Name x px,.Name y py] kt pt] (.Tuple [a,b] k2 pt2) pos) (sPar i j ds):=by
 obtain ⟨ta,pa,h⟩:=h
 refine ⟨_,zmT hc hN hi hj hij hx hy pa.pa hw hs,fun C ρ σ H n D D' S hd g=>?_⟩
 refine h C ρ σ H n _ _ S hd fun ts n1 vs H1 r e1 h1 q1 _=>?_
 cases q1 with
 | nil=>exact r.elim
 | cons r1 q1 =>
  cases q1 with
  | nil=>exact r.elim
  | cons r2 q1 =>
   cases q1 with
   | cons _ _=>exact r.elim
   | nil =>
    have S1:=(S.on e1 h1).put (i:=i) r1
    exact ⟨_,_,rfl,g.nx _ _ H1 n1 r (S1.put (Keep.rep zct S.hx r2)) ((e1.keep.trans zct).trans zct)⟩
def zdb (i:Nat) (d:DTE):DTS:=fun D ρ n=>match ρ[i]? with
 | some (some (.own ts))=>d ρ n fun t n'=>ts.length<16777216/\D.nx (ρ.set i (some (.own (ts++[t])))) n'
 | _=>False
theorem zbv (i:Nat) {p1 p2 p3:Pos} (h:DE X e d) (hN:X.N[i]?=some x:=by rfl) (hv:Vis X.env.scope x:=by first | exact Or.inl rfl | exact Or.inr (Or.inl rfl) | exact Or.inr (Or.inr rfl)) (hd:(x == ("__debug__":Str))=false:=by decide)
  (hcd:(x == ("__classdict__":Str))=false:=by decide) (hs:swapsWith (.Call (.Attribute (.Name x p1) "append" p2) [e] [] p3) none pos.line X.env=pure false:=by rfl)
  (hbase:attributeBase (.Name x p1) "append" X.env (eval (.Name x p1) X.env)=eval (.Name x p1) X.env:=by rfl)
  (hfew:((backTo p3 (starEach [e] X.env)).all (fun x=>!x.1)&&(backToKw p3 (keywordEach [] X.env)).all (fun x=>x.1.isSome)
   && decide ([e].length+([]:List Keyword).length+(if ([]:List Keyword).isEmpty then 0 else 1)<30))=true:=by rfl)
  (hline:(p2.endLine == p3.line)=true:=by rfl) (hst:starEach [e] X.env=[(false,eval e X.env)]:=by rfl):DS X (.Expr (.Call (.Attribute (.Name x p1) "append" p2) [e] [] p3) pos) (zdb i d):=by
 obtain ⟨ta,pa,h⟩:=h
 refine ⟨_,zk6 (zps PySem.F.plainAttrs_list PySem.F.slot_list_append PySem.F.type_list_append ze3 (zcm hN hv hd hcd) (zcF pa zeU hst) hbase hfew hline hst rfl) hs,fun C ρ σ H n D D' S hd g=>?_⟩
 unfold zdb at hd
 split at hd
 ·rename_i ts et
  obtain ⟨p,vs,h1,h2,h3,h4⟩:=S.own i ts et
  refine ⟨.ref p,h1,.inl ⟨rfl,_,SqL.of h2⟩,?_⟩
  refine h C ρ σ H n _ _ S hd fun t n' v H' r e1 hn q=>?_
  have S1:=S.on e1 hn
  obtain ⟨p',vs',h1',h2',h3',h4'⟩:=S1.own i ts et
  rw [h1] at h1';cases h1'
  refine ⟨p,vs',v,rfl,rfl,h2',by rw [h3'.length];exact r.1,?_⟩
  obtain ⟨S2,k2⟩:=S1.chg et h1 (h3'.append (.cons q .nil))
  exact g.nx _ _ _ n' r.2 S2 (e1.keep.trans k2)
 ·exact hd.elim
end
end L2
namespace L2
open PySem PySem.Spec PyProof.Rows
def ItOk (K:PySem.W.Frag) (hd:Option Addr) (P O:Addr->Prop) (H:Hp) (J:It) (ts:List PyData):Prop:=∀ (O2:Addr->Prop) (H2:Hp),(∀ a o,H a=some o->P a->H2 a=some o)->(∀ a o,H a=some o->¬O a->¬O2 a)->(∀ a,O2 a->H2 a≠none) ->
 (∀ i t,ts[i]?=some t->J.go i H2/\∀ x H3,J.yld i H2 x H3->Same H2 H3/\Rep K hd O2 H3 x t)/\J.stop ts.length H2
def DI (X:Cx) (tg iter:Expr) (d:DTA):Prop:=∃ wi,PI X tg iter wi/\∀ (C:Ctx) (ρ:En) (σ:St) (H:Hp) (n:Nat) (Q:It->Hp->Prop) (R:List PyData->Nat->Prop),Stt X.K C ρ σ H n->d ρ n R ->
 (∀ ts n' J H',R ts n'->ExtE C.hd H H'->Hn C.hd H' n'->ItOk X.K C.hd (fun a=>¬Own C ρ σ a) (Own C ρ σ) H' J ts->Q J H')->wi σ H Q
def DIL (X:Cx) (tg iter:Expr) (d:DTA):Prop:=∃ wi,PI X tg iter wi/\∀ (C:Ctx) (ρ:En) (σ:St) (H:Hp) (n:Nat) (Q:It->Hp->Prop) (R:List PyData->Nat->Prop),Stt X.K C ρ σ H n->d ρ n R ->
 (∀ ts n' J H',R ts n'->ExtE C.hd H H'->Hn C.hd H' n'->ItOk X.K C.hd (fun a=>C.hd≠some a) (Own C ρ σ) H' J ts->Q J H')->wi σ H Q
section
variable {X:Cx}{a b c e tg iter:Expr}{es rest:List Expr}{d da db dc:DTE}{ds di:DTA}{dt:DTT}{t u:DTS}{st:Stmt}{sts sa sb:List Stmt}{pos p:Pos}{k:Nat}{x:Str}
theorem dil (h:DI X tg iter di):DIL X tg iter di:=by
 obtain ⟨wi,pi,h⟩:=h
 refine ⟨wi,pi,fun C ρ σ H n Q R S hd hq=>h C ρ σ H n Q R S hd fun ts n' J H' r e1 hn it=>hq ts n' J H' r e1 hn ?_⟩
 exact fun O2 H2 h1 h2 h3=>it O2 H2 (fun a o ha no=>h1 a o ha fun z=>no (.inl (S.hx a z))) h2 h3
theorem Reps.getP {K:PySem.W.Frag}{hd:Option Addr}{O:Addr->Prop}{H:Hp}{vs ts}{i:Nat}{t}{x:V} (r:Reps K hd O H vs ts) (h:ts[i]?=some t) (hx:vs[i]?=some x):Rep K hd O H x t:=by
 obtain ⟨v,h1,h2⟩:=r.get h
 rw [hx] at h1;cases h1;exact h2
theorem zlz {K:PySem.W.Frag}{hd:Option Addr}{P O:Addr->Prop}{H:Hp}{q:Addr}{vs ts} (hq:H q=some (.lst vs)) (hP:P q) (hO:∀ a,¬O a->P a) (r:Reps K hd O H vs ts):ItOk K hd P O H (Itl K q) ts:=by
 intro O2 H2 h1 h2 _
 have hq2:=h1 q _ hq hP
 have r2:Reps K hd O2 H2 vs ts:=r.mono (fun a o ha z=>Classical.byContradiction fun no=>h2 a o ha no z) fun a o no ha=>h1 a o ha (hO a no)
 refine ⟨fun i t et=>?_,⟨vs,.of hq2,by rw [r.length];exact Nat.le_refl _⟩⟩
 obtain ⟨v,ev,rv⟩:=r2.get et
 refine ⟨⟨vs,v,.of hq2,ev⟩,fun x H3 hy=>?_⟩
 obtain ⟨rfl,hy⟩:=hy
 exact ⟨Same.refl _,r2.getP et (hy vs (.of hq2))⟩
theorem znG {K:PySem.W.Frag}{hd:Option Addr}{P O:Addr->Prop}{H:Hp}{v:V}{ts} (hO:∀ a,¬O a->P a) (r:Rep K hd O H v (.tuple ts)):∃ q vs,v=.ref q/\SqT K H q vs/\ItOk K hd P O H (Itt K q) ts:=by
 have key:∀ q vs,Reps K hd O H vs ts->(∀ (O2:Addr->Prop) (H2:Hp),(∀ a o,H a=some o->P a->H2 a=some o)->(∀ a o,H a=some o->¬O a->¬O2 a)->SqT K H2 q vs)->ItOk K hd P O H (Itt K q) ts:=by
  intro q vs r hs O2 H2 h1 h2 _
  have hq2:=hs O2 H2 h1 h2
  have r2:Reps K hd O2 H2 vs ts:=r.mono (fun a o ha z=>Classical.byContradiction fun no=>h2 a o ha no z) fun a o no ha=>h1 a o ha (hO a no)
  refine ⟨fun i t et=>?_,⟨vs,hq2,by rw [r.length];exact Nat.le_refl _⟩⟩
  obtain ⟨v,ev,rv⟩:=r2.get et
  refine ⟨⟨vs,v,hq2,ev⟩,fun x H3 hy=>?_⟩
  obtain ⟨rfl,hy⟩:=hy
  exact ⟨Same.refl _,r2.getP et (hy vs hq2)⟩
 cases r with
 | @tup q vs ds h o r=>exact ⟨q,vs,rfl,.inl (.inl h),key q vs r fun O2 H2 h1 _=>.inl (.inl (h1 q _ h (hO q o)))⟩
 | @tupS q vs ds h r=>exact ⟨q,vs,rfl,h.sq,key q vs r fun O2 H2 _ _=>h.sq⟩
def dItL (d:DTE):DTA:=fun ρ n R=>d ρ n fun t n'=>match t with | .list ts=>R ts n' | _=>False
def dItT (d:DTE):DTA:=fun ρ n R=>d ρ n fun t n'=>match t with | .tuple ts=>R ts n' | _=>False
theorem ziD (h:DE X iter d):DI X tg iter (dItL d):=by
 obtain ⟨ta,pa,h⟩:=h
 refine ⟨_,zk_ pa,fun C ρ σ H n Q R S hd hq=>?_⟩
 refine h C ρ σ H n _ _ S hd fun t n' v H' r e1 hn q=>?_
 cases t with
 | list ts =>
  obtain ⟨p,vs,rfl,h1,no,h2⟩:=q.lstI
  exact ⟨p,rfl,⟨vs,.of h1⟩,hq ts n' _ H' r e1 hn (zlz h1 no (fun _ z=>z) h2)⟩
 | _=>exact r.elim
theorem zkC (h:DE X iter d):DI X tg iter (dItT d):=by
 obtain ⟨ta,pa,h⟩:=h
 refine ⟨_,zmX pa,fun C ρ σ H n Q R S hd hq=>?_⟩
 refine h C ρ σ H n _ _ S hd fun t n' v H' r e1 hn q=>?_
 cases t with
 | tuple ts =>
  obtain ⟨p,vs,rfl,h1,it⟩:=znG (P:=fun a=>¬Own C ρ σ a) (fun _ z=>z) q
  exact ⟨p,rfl,⟨vs,h1⟩,hq ts n' _ H' r e1 hn it⟩
 | _=>exact r.elim
def zbJ (lo:Int) (n:Nat):List PyData:=(List.range n).map fun (i:Nat)=>PyData.int (lo+(i:Int))
theorem zjT {K:PySem.W.Frag}{hd:Option Addr}{P O:Addr->Prop}{H:Hp}{lo:Int}{m:Nat}:ItOk K hd P O H (Itr lo m) (zbJ lo m):=by
 intro O2 H2 _ _ _
 refine ⟨fun i t et=>?_,by show m<=(zbJ lo m).length;simp [zbJ]⟩
 unfold zbJ at et
 rw [List.getElem?_map] at et
 by_cases hi:i<m
 ·rw [List.getElem?_range hi] at et
  cases et
  refine ⟨hi,fun x H3 hy=>?_⟩
  obtain ⟨rfl,rfl⟩:=hy
  exact ⟨Same.refl _,.int _⟩
 ·rw [List.getElem?_eq_none (by simp;omega)] at et
  cases et
def ziL (d:DTE):DTA:=fun ρ n R=>d ρ n fun t n'=>match t with | .int j=>(-(2 ^ 62)<=j/\j<2 ^ 62)/\R (zbJ 0 j.toNat) n' | _=>False
theorem zdw (hm:X.mg "range" = none) (h:DE X a d) (hg:Gl X "range":=by rfl) (hs:starEach [a] X.env=[(false,eval a X.env)]:=by rfl):DI X tg (.Call (.Name "range" p) [a] [] pos) (ziL d):=by
 obtain ⟨ta,pa,h⟩:=h
 refine ⟨_,zhW hg hm (zcF pa zeU hs) hs,fun C ρ σ H n Q R S hd hq=>?_⟩
 refine h C ρ σ H n _ _ S hd fun t n' v H' r e1 hn q=>?_
 cases t with
 | int j =>
  rw [q.intI]
  exact ⟨j,rfl,r.1.1,r.1.2,hq _ n' _ H' r.2 e1 hn zjT⟩
 | _=>exact r.elim
def forP (g:DTG) (tb:DTS) (D:DEnds):List PyData->En->Nat->Prop
 | [],ρ,n=>D.nx ρ n
 | t::ts,ρ,n=>g t ρ fun ρ'=>tb { D with nx:=forP g tb D ts,ct:=forP g tb D ts,bk:=D.nx } ρ' n
def sFor (di:DTA) (g:DTG) (tb:DTS):DTS:=fun D ρ n=>di ρ n fun ts n1=>forP g tb D ts ρ n1
theorem zdY {is:List Nat}{g:DTG} (hp:PassesOwn (model X.prog X.w) X.A X.env X.xe) (hc:X.calm=true) (hi:DI X tg iter di) (hg:DG X tg is g) (hb:DSs X sa t)
  (hs:∀ x,foldedSetIterable iter X.env x=pure x:=by intro _;rfl):DS X (.For tg iter sa [] pos) (sFor di g t):=by
 obtain ⟨wi,pi,hi⟩:=hi
 obtain ⟨_,gg,pg,hg⟩:=hg
 obtain ⟨tb,pb,hb⟩:=hb
 refine ⟨_,zmU hp hc pi pg pb hs,fun C ρ σ H n D D' S hd gd=>?_⟩
 refine hi C ρ σ H n _ _ S hd fun ts n1 J H1 r e1 hn it=>?_
 have S1:=S.on e1 hn
 refine ⟨fun i m σ2 H2=>m=ts.length - i/\i<=ts.length/\∃ ρ2 n2,forP g t D' (ts.drop i) ρ2 n2/\Stt X.K C ρ2 σ2 H2 n2/\Keep C ρ σ H1 ρ2 σ2 H2,⟨ts.length,by simp,Nat.zero_le _,ρ,n1,by simpa using r,S1,Keep.refl⟩,?_⟩
 rintro i m σ2 H2 ⟨rfl,hi',ρ2,n2,f2,S2,k2⟩
 have itq:=it (Own C ρ2 σ2) H2 (fun a o ha no=>(k2 a o ha (fun z=>no (.inl (S.hx a z))) fun z=>no (.inr z)).1) (fun a o ha no z=>z.elim (fun z=>no (.inl z)) fun z=>(k2 a o ha (fun y=>no (.inl (S.hx a y))) fun y=>no (.inr y)).2 z) (fun a=>S2.dom)
 by_cases hlt:i<ts.length
 ·have et:ts[i]?=some ts[i]:=List.getElem?_eq_getElem hlt
  obtain ⟨go,yl⟩:=itq.1 i _ et
  rw [List.drop_eq_getElem_cons hlt] at f2
  refine .inr ⟨go,fun σ' H'=>∃ ρ' n',forP g t D' (ts.drop (i+1)) ρ' n'/\Stt X.K C ρ' σ' H' n'/\Keep C ρ σ H1 ρ' σ' H',fun σ' H' z=>⟨ts.length - (i+1),by omega,rfl,hlt,z⟩,fun x H3 hy=>?_⟩
  obtain ⟨sm,rx⟩:=yl x H3 hy
  have S3:=S2.on sm.ext (S2.hnd.same sm)
  have k3:Keep C ρ σ H1 ρ2 σ2 H3:=k2.trans (Same.ext sm:ExtE C.hd H2 H3).keep
  refine hg C ρ2 σ2 H3 n2 x _ _ _ S3 rx f2 fun ρ4 σ4 r4 S4 k4 _ _=>?_
  have k5:=k3.trans k4
  refine hb C ρ4 σ4 H3 n2 _ { D' with nx:=forP g t D' (ts.drop (i+1)),ct:=forP g t D' (ts.drop (i+1)),bk:=D'.nx } S4 r4 ⟨fun ρ' σ' H' n' h' S' k'=>⟨ρ',n',h',S',k5.trans k'⟩,fun t n' v H' h hn' k' rp=>gd.rt t n' v H' h hn' (fun a o ha nh no=>?_) rp,fun ρ' σ' H' n' h' S' k'=>gd.nx ρ' σ' H' n' h' S' (e1.keep.trans (k5.trans k')),fun ρ' σ' H' n' h' S' k'=>⟨ρ',n',h',S',k5.trans k'⟩⟩
  obtain ⟨q1,q2⟩:=(e1.keep.trans k5) a o ha nh no
  exact k' a o q1 nh q2
 ·have e:i=ts.length:=by omega
  subst e
  rw [List.drop_length] at f2
  exact .inl ⟨itq.2,gd.nx ρ2 σ2 H2 n2 f2 S2 (e1.keep.trans k2)⟩
def zbb (N:List Str) (ts:List PyData):En:=ts.map (fun t=>some (.val t))++List.replicate (N.length - ts.length) none
theorem zhA {K:PySem.W.Frag}{hd:Option Addr}{O:Addr->Prop}{H:Hp}{n:Nat}{N:List Str}{vs:List V}{ts:List PyData} (r:Reps K hd O H vs ts) (hn:Hn hd H n) (dom:∀ a,O a->MutO (H a)) (hx:∀ a,hd=some a->O a) :
  Stt K ⟨hd,O⟩ (zbb N ts) (start N vs) H n/\∀ a,¬OwnS (zbb N ts) (start N vs) a:=by
 have get:∀ (i:Nat) c,(zbb N ts)[i]?=some (some c)->∃ t,c=.val t/\ts[i]?=some t:=fun i c h=>by
  unfold zbb at h
  by_cases hi:i<ts.length
  ·rw [List.getElem?_append_left (by simpa using hi),List.getElem?_map] at h
   cases e:ts[i]? with
   | none=>rw [e] at h;cases h
   | some t=>rw [e] at h;cases h;exact ⟨t,rfl,rfl⟩
  ·rw [List.getElem?_append_right (by simpa using hi),List.getElem?_replicate] at h
   split at h <;> cases h
 have no:∀ a,¬OwnS (zbb N ts) (start N vs) a:=fun a ⟨i,ds,m,h1,_⟩=>by
  obtain ⟨t,e,_⟩:=get i _ h1
  subst e;cases m
 refine ⟨.mk' (by unfold zbb start;simp [r.length]) (fun i d h=>?_) (fun i ds m h=>?_) (fun i ks h=>by obtain ⟨t,e,_⟩:=get i _ h;cases e) (fun i j ds es a m _ h=>?_) hn dom hx,no⟩
 ·obtain ⟨t,e,et⟩:=get i _ h
  cases e
  obtain ⟨v,ev,rv⟩:=r.get et
  refine ⟨v,?_,rv.mono (fun a o _ z=>z.elim id fun z=>absurd z (no a)) fun _ _ _ z=>z⟩
  unfold start
  have hi:i<vs.length:=by
   rcases Nat.lt_or_ge i vs.length with z | z
   ·exact z
   ·rw [List.getElem?_eq_none z] at ev;cases ev
  rw [List.getElem?_append_left (by simpa using hi),List.getElem?_map,ev];rfl
 ·obtain ⟨t,e,_⟩:=get i _ h
  subst e;cases m
 ·obtain ⟨t,e,_⟩:=get i _ h
  subst e;cases m
end
end L2
namespace Bd
open PySem L2 PyProof.Rows
theorem Def.okD {P:Program}{w:World}{K:PySem.W.Frag}{mg:Str->Option Value}{base:Heap}{x:Str}{st:Stmt}{ps N:List Str}{f:Addr}{fd:FuncData}{k m:Nat}{g:GD} (D:Def K mg x st ps f fd) (S:FnScope N ps (zag st)) (hm:m=ps.length)
  (hb:∀ (cdv:Value) (A:Around) (outer:List Env) (s:Shared) (H:Hp) (E:XK),Room k (A.deeper (envOfC x (zag st) s.heap.objs.size f cdv))->∃ d,DSs (cxOf CX0 P w K mg base N x (zag st) f cdv A outer s H E).nox (za8 st) d /\
   ∀ ts n R,ts.length=m->g ts n R->d { nx:=fun _ n'=>R .none n',rt:=R } (zbb N ts) n):FnOk P w K mg base CX0 (k+1) f fd ps (spD K m g):=by
 refine D.F.ok S (fun vs H Q E h=>?_) (fun cdv A outer s H vs Q E hr h=>?_)
 ·obtain ⟨hd,O,ts,n,R,r,_,_,_,hl,_⟩:=h
  rw [r.length,hl,hm]
 ·obtain ⟨hd,O,ts,n,R,r,hn,dom,hx,hl,hg,hq⟩:=h
  obtain ⟨d,⟨t,pt,ht⟩,hd'⟩:=hb cdv A outer s H E hr
  obtain ⟨S0,no⟩:=zhA (N:=N) r hn dom hx
  refine ⟨t,pt,ht ⟨hd,O⟩ _ _ H n _ _ S0 (hd' ts n R hl hg) ⟨fun ρ' σ' H' n' h S' k'=>?_,fun t n' v H' h hn' k' rp=>?_,fun _ _ _ _ h=>h.elim,fun _ _ _ _ h=>h.elim⟩⟩
  ·exact hq .none n' .non H' h (fun a o ha nh=>(k' a o ha nh (no a)).1) S'.hnd .non
  ·exact hq t n' v H' h (fun a o ha nh=>k' a o ha nh (no a)) hn' rp
end Bd
namespace L2
open PySem PySem.Spec PyProof.Rows
def DTs (Y:Cx) (ifs:List Expr) (d:DTT):Prop:=∃ te,PTs Y ifs te/\∀ (C:Ctx) (ρ:En) (σ:St) (H:Hp) (n:Nat) (Q:Bool->Hp->Prop) (R:Bool->Nat->Prop),Stt Y.K C ρ σ H n->d ρ n R ->
 (∀ b n' H',R b n'->ExtE C.hd H H'->Hn C.hd H' n'->Q b H')->te σ H Q
def dYes:DTT:=fun _ n R=>R true n
section
variable {Y:Cx}{c:Expr}{d:DTT}
theorem zix:DTs Y [] dYes:=⟨_,zk3,fun C ρ σ H n Q R S h hq=>hq true n H h ExtE.refl S.hnd⟩
end
theorem DE.uni {ι:Type}{Xf:ι->Cx}{K:PySem.W.Frag} (hK:∀ i,(Xf i).K=K) {e:Expr}{d:DTE} (h:∀ i,DE (Xf i) e d):∃ te:TE,(∀ i,PE (Xf i) e te)/\∀ (C:Ctx) (ρ:En) (σ:St) (H:Hp) (n:Nat) (Q:VK) (R:PyData->Nat->Prop),Stt K C ρ σ H n->d ρ n R ->
  (∀ t n' v H',R t n'->ExtE C.hd H H'->Hn C.hd H' n'->Rep K C.hd (Own C ρ σ) H' v t->Q v H')->te σ H Q:=by
 refine ⟨fun σ H Q=>∀ i,(Classical.choose (h i)) σ H Q,fun i pins s σ H Q I hw=>(Classical.choose_spec (h i)).1 pins s σ H Q I (hw i),fun C ρ σ H n Q R S hd hq i=>?_⟩
 have:=(Classical.choose_spec (h i)).2 C ρ σ H n Q R
 exact this (by rw [hK i];exact S) hd fun t n' v H' r e h q=>hq t n' v H' r e h (by rw [<- hK i];exact q)
theorem DTs.uni {ι:Type}{Xf:ι->Cx}{K:PySem.W.Frag} (hK:∀ i,(Xf i).K=K) {e:List Expr}{d:DTT} (h:∀ i,DTs (Xf i) e d):∃ te:TT,(∀ i,PTs (Xf i) e te)/\∀ (C:Ctx) (ρ:En) (σ:St) (H:Hp) (n:Nat) (Q:Bool->Hp->Prop) (R:Bool->Nat->Prop),Stt K C ρ σ H n->d ρ n R ->
  (∀ b n' H',R b n'->ExtE C.hd H H'->Hn C.hd H' n'->Q b H')->te σ H Q:=by
 refine ⟨fun σ H Q=>∀ i,(Classical.choose (h i)) σ H Q,fun i pins s σ H Q I hw=>(Classical.choose_spec (h i)).1 pins s σ H Q I (hw i),fun C ρ σ H n Q R S hd hq i=>?_⟩
 have:=(Classical.choose_spec (h i)).2 C ρ σ H n Q R
 exact this (by rw [hK i];exact S) hd hq
theorem DG.uni {ι:Type}[Nonempty ι] {Xf:ι->Cx}{K:PySem.W.Frag} (hK:∀ i,(Xf i).K=K) {e:Expr}{is:List Nat}{d:DTG} (h:∀ i,DG (Xf i) e is d):∃ te:TG,(∀ i,PG (Xf i) e te)/\∀ (C:Ctx) (ρ:En) (σ:St) (H:Hp) (n:Nat) (v:V) (t:PyData) (Q:St->Hp->Prop) (R:En->Prop),Stt K C ρ σ H n->Rep K C.hd (Own C ρ σ) H v t->d t ρ R ->
  (∀ ρ' σ',R ρ'->Stt K C ρ' σ' H n->Keep C ρ σ H ρ' σ' H->(∀ j,j∉is->σ'[j]?=σ[j]?)->σ'.length=σ.length->Q σ' H)->te v σ H Q:=by
 refine ⟨fun v σ H Q=>∀ i,(Classical.choose (h i).2) v σ H Q,fun i pins s σ H v u Q I r hw=>(Classical.choose_spec (h i).2).1 pins s σ H v u Q I r (hw i),fun C ρ σ H n v t Q R S r hd hq i=>?_⟩
 have:=(Classical.choose_spec (h i).2).2 C ρ σ H n v t Q R
 exact this (by rw [hK i];exact S) (by rw [hK i];exact r) hd fun ρ' σ' hr S'=>hq ρ' σ' hr (by rw [<- hK i];exact S')
theorem Wk.of:∀ {σ σ':St},σ.length=σ'.length->(∀ (i:Nat) v,σ[i]?=some (some v)->σ'[i]?=some (some v))->Wk σ σ'
 | [],[],_,_=>trivial
 | [],_::_,h,_=>by simp at h
 | _::_,[],h,_=>by simp at h
 | none::r,o::r',h,k=>Wk.of (σ:=r) (σ':=r') (by simpa using h) fun i v e=>by simpa using k (i+1) v (by simpa using e)
 | some w::r,o::r',h,k=>⟨by simpa using k 0 w rfl,Wk.of (by simpa using h) fun i v e=>by simpa using k (i+1) v (by simpa using e)⟩
def capV:Option Cell->Option Cell
 | some (.val d)=>some (.val d)
 | some (.dct ks)=>some (.rdo ks)
 | some (.rdo ks)=>some (.rdo ks)
 | _=>none
def zaR (m:Nat) (capt:List Nat) (ρ:En):En:=List.replicate m none++capt.map fun i=>capV (ρ.getD i none)
def zbY (g:DTG) (tt:DTT) (te:DTE) (ρ0:En):List PyData->List PyData->Nat->(List PyData->Nat->Prop)->Prop
 | [],acc,n,R=>R acc n
 | x::xs,acc,n,R=>g x ρ0 fun ρ1=>tt ρ1 n fun b n2=>if b=true then te ρ1 n2 fun t n3=>acc.length<16777216/\zbY g tt te ρ0 xs (acc++[t]) n3 R else zbY g tt te ρ0 xs acc n2 R
def dComp (m:Nat) (capt:List Nat) (di:DTA) (g:DTG) (tt:DTT) (te:DTE):DTA:=fun ρ n R=>di ρ n fun ts n1=>zbY g tt te (zaR m capt ρ) ts [] n1 R
section
variable {X:Cx}{scope:Scope}{own:List Str}{capt:List Nat}{elt tg iter:Expr}{ifs:List Expr}{pos:Pos}{di:DTA}{is:List Nat}{g:DTG}{tt:DTT}{te:DTE}
theorem zeo {ρ:En}{i:Nat}{c:Cell} (h:capV (ρ.getD i none)=some c):(∃ d,c=.val d/\ρ[i]?=some (some (.val d)))\/∃ ks,c=.rdo ks/\(ρ[i]?=some (some (.dct ks))\/ρ[i]?=some (some (.rdo ks))):=by
 rw [List.getD_eq_getElem?_getD] at h
 cases e:ρ[i]? with
 | none=>rw [e] at h;cases h
 | some o =>
  rw [e] at h
  cases o with
  | none=>cases h
  | some c' =>
   cases c' with
   | val d'=>simp [capV] at h;exact .inl ⟨d',h.symm,rfl⟩
   | own _=>simp [capV] at h
   | dct ks=>simp [capV] at h;exact .inr ⟨ks,h.symm,.inl rfl⟩
   | dtt ks=>simp [capV] at h
   | rdo ks=>simp [capV] at h;exact .inr ⟨ks,h.symm,.inr rfl⟩
theorem zj9 {K:PySem.W.Frag}{C:Ctx}{ρ:En}{σ:St}{H H2:Hp}{n n2:Nat}{D:Addr}{ys:List V} (S:Stt K C ρ σ H n) (e:ExtE C.hd H H2) (hn:Hn C.hd H2 n2) (hD:H D=none) (hy:H2 D=some (.lst ys)) :
  Stt K ⟨C.hd,fun a=>Own C ρ σ a\/a=D⟩ (zaR own.length capt ρ) (zbD own++capS capt σ) H2 n2/\∀ a,¬OwnS (zaR own.length capt ρ) (zbD own++capS capt σ) a:=by
 have get:∀ (i:Nat) c,(zaR own.length capt ρ)[i]?=some (some c)->∃ j,capV (ρ.getD j none)=some c/\own.length<=i/\capt[i - own.length]?=some j:=fun i c h=>by
  unfold zaR at h
  by_cases hi:i<own.length
  ·rw [List.getElem?_append_left (by simpa using hi),List.getElem?_replicate] at h
   split at h <;> cases h
  ·rw [List.getElem?_append_right (by simpa using hi),List.length_replicate,List.getElem?_map] at h
   cases ej:capt[i - own.length]? with
   | none=>rw [ej] at h;cases h
   | some j =>
    rw [ej] at h
    exact ⟨j,by simpa using h,by omega,rfl⟩
 have slot:∀ (i j:Nat) (v:V),own.length<=i->capt[i - own.length]?=some j->σ[j]?=some (some v)->(zbD own++capS capt σ)[i]?=some (some v):=fun i j v hi e3 h1=>by
  rw [List.getElem?_append_right (by simpa using hi)]
  simp only [List.length_map,List.getElem?_map,e3,Option.map_some]
  rw [List.getD_eq_getElem?_getD,h1];rfl
 have nm:∀ (i:Nat) (c:Cell),c.mine=true->(zaR own.length capt ρ)[i]?=some (some c)->False:=fun i c m h=>by
  obtain ⟨j,e1,_⟩:=get i c h
  rcases zeo e1 with ⟨d,rfl,_⟩ | ⟨ks,rfl,_⟩ <;> cases m
 have no:∀ a,¬OwnS (zaR own.length capt ρ) (zbD own++capS capt σ) a:=fun a ⟨i,c,m,h1,_⟩=>nm i c m h1
 have S2:=S.on e hn
 have sub:∀ a o,H a=some o->Own ⟨C.hd,fun a=>Own C ρ σ a\/a=D⟩ (zaR own.length capt ρ) (zbD own++capS capt σ) a->Own C ρ σ a:=fun a o ha z=>by
  rcases z with z | z
  ·rcases z with z | z
   ·exact z
   ·subst z;rw [hD] at ha;cases ha
  ·exact absurd z (no a)
 have kp:∀ a o,¬Own C ρ σ a->H a=some o->H2 a=some o:=fun a o nO ha=>e a o ha fun z=>nO (.inl (S.hx a z))
 refine ⟨.mk' (by unfold zaR;simp) (fun i d h=>?_) (fun i ds m h=>(nm i _ m h).elim) (fun i ks h=>?_) (fun i j ds es a m _ h=>(nm i _ m h).elim) hn (fun a ha=>?_) (fun a ha=>.inl (.inl (S.hx a ha))),no⟩
 ·obtain ⟨j,e1,hi,e3⟩:=get i _ h
  rcases zeo e1 with ⟨d',z,e2⟩ | ⟨ks,z,_⟩
  ·cases z
   obtain ⟨v,h1,h2⟩:=S.val j d e2
   exact ⟨v,slot i j v hi e3 h1,h2.mono sub kp⟩
  ·cases z
 ·obtain ⟨j,e1,hi,e3⟩:=get i _ h
  rcases zeo e1 with ⟨d',z,e2⟩ | ⟨ks',z,e2⟩
  ·cases z
  ·cases z
   rcases e2 with e2 | e2
   ·obtain ⟨a,kvs,h1,h2,h3,h4⟩:=S.dct j ks e2
    have nh:C.hd≠some a:=fun z=>h4 (S.hx a z)
    exact ⟨a,kvs,slot i j _ hi e3 h1,e a _ h2 nh,h3.mono sub kp,.inl (.inr ⟨j,.dct ks,rfl,e2,h1⟩),nh⟩
   ·obtain ⟨a,kvs,h1,h2,h3,h4,nh⟩:=S.rdo j ks e2
    exact ⟨a,kvs,slot i j _ hi e3 h1,e a _ h2 nh,h3.mono sub kp,.inl (.inl h4),nh⟩
 ·rcases ha with ha | rfl
  ·exact S2.lst ha
  ·exact .inl ⟨_,hy⟩
def zp_ (K:PySem.W.Frag) (te:TE) (d:DTA):Prop:=∀ (C:Ctx) (ρ:En) (σ:St) (H:Hp) (n:Nat) (Q:VK) (R:List PyData->Nat->Prop),Stt K C ρ σ H n->d ρ n R ->
 (∀ ts n' p vs H',R ts n'->ExtE C.hd H H'->Hn C.hd H' n'->H p=none->H' p=some (.lst vs)->Reps K C.hd (fun a=>Own C ρ σ a\/a=p) H' vs ts->Q (.ref p) H')->te σ H Q
theorem ziN (hi:DIL X tg iter di)
  (hg:∀ C s₀ H₀ fp,DG (zaD X scope own capt C s₀ H₀ fp) tg is g) (hin:∀ i∈is,i<own.length) (ht:∀ C s₀ H₀ fp,DTs (zaD X scope own capt C s₀ H₀ fp) ifs tt) (he:∀ C s₀ H₀ fp,DE (zaD X scope own capt C s₀ H₀ fp) elt te) :
  ∃ (wi:TI) (gg:TG) (gt:TT) (ge:TE),PI X tg iter wi/\(∀ C s₀ H₀ fp,PG (zaD X scope own capt C s₀ H₀ fp) tg gg)/\(∀ C s₀ H₀ fp,PTs (zaD X scope own capt C s₀ H₀ fp) ifs gt)/\(∀ C s₀ H₀ fp,PE (zaD X scope own capt C s₀ H₀ fp) elt ge)/\zp_ X.K (tComp own capt wi gg gt ge) (dComp own.length capt di g tt te):=by
 obtain ⟨wi,pi,hi⟩:=hi
 let Xf:(Addr×Shared×Hp×List Addr)->Cx:=fun q=>zaD X scope own capt q.1 q.2.1 q.2.2.1 q.2.2.2
 have hK:∀ q,(Xf q).K=X.K:=fun _=>rfl
 have hne:Nonempty (Addr×Shared×Hp×List Addr):=⟨(0,X.s₀,X.H₀,[])⟩
 obtain ⟨gg,pg,hgg⟩:=DG.uni (Xf:=Xf) hK fun q=>hg q.1 q.2.1 q.2.2.1 q.2.2.2
 obtain ⟨gt,pt,hgt⟩:=DTs.uni (Xf:=Xf) hK fun q=>ht q.1 q.2.1 q.2.2.1 q.2.2.2
 obtain ⟨ge,pe,hge⟩:=DE.uni (Xf:=Xf) hK fun q=>he q.1 q.2.1 q.2.2.1 q.2.2.2
 refine ⟨wi,gg,gt,ge,pi,(fun C s₀ H₀ fp=>pg (C,s₀,H₀,fp)),(fun C s₀ H₀ fp=>pt (C,s₀,H₀,fp)),(fun C s₀ H₀ fp=>pe (C,s₀,H₀,fp)),fun C ρ σ H n Q R St hd hq=>?_⟩
 refine hi C ρ σ H n _ _ St hd fun ts n1 J H1 r e1 hn it=>fun D hD1=>?_
 have St1:=St.on e1 hn
 have hD:H D=none:=ziu e1 hn hD1
 have nhd:C.hd≠some D:=fun z=>St.dom (.inl (St.hx D z)) hD
 refine ziO (n:=ts.length) (fun i ys H2=>∃ acc n2,zbY g tt te (zaR own.length capt ρ) (ts.drop i) acc n2 R/\Reps X.K C.hd (fun a=>Own C ρ σ a\/a=D) H2 ys acc/\ExtE C.hd H1 H2/\Hn C.hd H2 n2)
  ⟨[],n1,by simpa using r,.nil,ExtE.new hD1,hn.same (zav hD1)⟩ ?_ ?_
 ·rintro i ys H2 hlt hy ⟨acc,n2,c2,r2,e2,hn2⟩
  have et:ts[i]?=some ts[i]:=List.getElem?_eq_getElem hlt
  rw [List.drop_eq_getElem_cons hlt] at c2
  have itq:=it (fun a=>Own C ρ σ a\/a=D) H2 (fun a o ha nh=>e2 a o ha nh) (fun a o ha no z=>z.elim no fun z=>by subst z;rw [hD1] at ha;cases ha) (fun a z=>z.elim (fun z=>(St1.on e2 hn2).dom z) fun z=>by subst z;rw [hy];exact fun z=>by cases z)
  obtain ⟨go,yl⟩:=itq.1 i _ et
  refine ⟨go,fun x H3 hyd=>?_⟩
  obtain ⟨sm,rx⟩:=yl x H3 hyd
  have hn3:=hn2.same sm
  have e3:ExtE C.hd H1 H3:=e2.trans sm.ext
  obtain ⟨I3,no3⟩:=zj9 (own:=own) (capt:=capt) (D:=D) (ys:=ys) St (e1.trans e3) hn3 hD (sm _ _ hy)
  have rx':Rep X.K C.hd (Own ⟨C.hd,fun a=>Own C ρ σ a\/a=D⟩ (zaR own.length capt ρ) (zbD own++capS capt σ)) H3 x ts[i]:=rx.mono (fun a o _ z=>z.elim id fun z=>absurd z (no3 a)) fun _ _ _ z=>z
  refine hgg ⟨C.hd,fun a=>Own C ρ σ a\/a=D⟩ (zaR own.length capt ρ) (zbD own++capS capt σ) H3 n2 x ts[i] _ _ I3 rx' c2 fun ρ4 σ4 r4 S4 k4 hj hl=>⟨Wk.of hl.symm fun j v ej=>?_,?_⟩
  ·by_cases hjo:j<own.length
   ·rw [List.getElem?_append_left (by simpa using hjo),List.getElem?_map] at ej
    cases z:own[j]? with
    | none=>rw [z] at ej;cases ej
    | some q=>rw [z] at ej;cases ej
   ·rw [hj j (fun z=>hjo (hin j z))];exact ej
  ·refine hgt _ ρ4 σ4 H3 n2 _ _ S4 r4 fun b n5 H5 r5 e5 hn5=>?_
   have S5:=S4.on e5 hn5
   have hy5:H5 D=some (.lst ys):=e5 D _ (sm _ _ hy) nhd
   have r25:∀ {H6},ExtE C.hd H2 H6->Reps X.K C.hd (fun a=>Own C ρ σ a\/a=D) H6 ys acc:=fun e=>r2.mono (fun _ _ _ z=>z) fun a o no ha=>e a o ha fun z=>no (.inl (.inl (St.hx a z)))
   cases b with
   | false =>
    refine iteF ⟨ys,hy5,acc,n5,by simpa using r5,r25 ((Same.ext sm).trans e5),e3.trans e5,hn5⟩
   | true =>
    refine iteT (hge _ ρ4 σ4 H5 n5 _ _ S5 (by simpa using r5) fun t n6 v H6 r6 e6 hn6 q6=>?_)
    have hy6:H6 D=some (.lst ys):=e6 D _ hy5 nhd
    have rl:=(r25 ((Same.ext sm).trans (e5.trans e6))).length
    refine ⟨ys,hy6,by rw [rl];exact r6.1,acc++[t],n6,r6.2,?_,?_,?_⟩
    ·have q6':Rep X.K C.hd (fun a=>Own C ρ σ a\/a=D) H6 v t:=q6.mono (fun _ _ _ z=>.inl z) fun _ _ _ z=>z
     have all:=(r25 ((Same.ext sm).trans (e5.trans e6))).append (Reps.cons q6' .nil)
     exact all.mono (fun _ _ _ z=>z) fun a o no ha=>by rw [zam (show a≠D from fun z=>no (.inr z))];exact ha
    ·exact fun a o ha nh=>by
      rw [zam (zaJ ha hD1)]
      exact (e3.trans (e5.trans e6)) a o ha nh
    ·exact fun a ha=>by
      obtain ⟨d,m,t,q,rest⟩:=hn6 a ha
      exact ⟨d,m,t,by rw [zam (show a≠D from fun z=>nhd (by rw [<- z];exact ha))];exact q,rest⟩
 ·rintro ys H2 hy ⟨acc,n2,c2,r2,e2,hn2⟩
  rw [List.drop_length] at c2
  have itq:=it (fun a=>Own C ρ σ a\/a=D) H2 (fun a o ha nh=>e2 a o ha nh) (fun a o ha no z=>z.elim no fun z=>by subst z;rw [hD1] at ha;cases ha) (fun a z=>z.elim (fun z=>(St1.on e2 hn2).dom z) fun z=>by subst z;rw [hy];exact fun z=>by cases z)
  exact ⟨itq.2,hq acc n2 D ys H2 c2 (e1.trans e2) hn2 hD hy r2⟩
theorem ziB (hc:X.calm=true) (S:CompScope scope own capt X) (hi:DIL X tg iter di)
  (hg:∀ C s₀ H₀ fp,DG (zaD X scope own capt C s₀ H₀ fp) tg is g) (hin:∀ i∈is,i<own.length) (ht:∀ C s₀ H₀ fp,DTs (zaD X scope own capt C s₀ H₀ fp) ifs tt) (he:∀ C s₀ H₀ fp,DE (zaD X scope own capt C s₀ H₀ fp) elt te)
  (hs:∀ x,foldedSetIterable iter X.env x=pure x:=by intro _;rfl):DN X (.ListComp elt [⟨tg,iter,ifs,0⟩] scope pos) (dComp own.length capt di g tt te):=by
 obtain ⟨wi,gg,gt,ge,a,b,c,d,sp⟩:=ziN hi hg hin ht he
 exact ⟨_,zjC hc S a b c d hs,sp⟩
end
end L2
namespace L2
open PySem PySem.Spec PyProof.Rows
def zgq (K:PySem.W.Frag):Sp:=fun vs H Q _=>∃ (a:Addr) (ns:List Int) (k:Int),vs=[.ref a,.int k]/\SqL K H a (ns.map V.int)/\ns.length<=63/\0<=k/\k<=100 /\
 ∀ hd H',H hd=none->zg1 H' hd 0->Same H H'->Q (.ref hd) H'
def zok (hd:Addr) (H H':Hp):Prop:=∀ b o,H b=some o->b≠hd->H' b=some o
def zkh:Sp:=fun vs H Q _=>∃ (hd:Addr) (many n:Int),vs=[.ref hd,.int many]/\zg1 H hd n/\n<=1000000000000/\0<many/\many<2 ^ 128 /\
 ∀ (r:Int) H',0<=r->r<many->zg1 H' hd (n+1)->zok hd H H'->Q (.int r) H'
def zcS:GD:=fun ts n R=>match ts with
 | [h,.int many]=>h=HAND/\0<many/\many<2 ^ 128/\n<=1000000000000/\∀ r:Int,0<=r->r<many->R (.int r) (n+1)
 | _=>False
theorem zjd {K:PySem.W.Frag} (vs:List V) (H:Hp) (Q:VK) (E:XK) (h:spD K 2 zcS vs H Q E):zkh vs H Q E:=by
 obtain ⟨hd,O,ts,n,R,r,hn,dom,hx,hl,g,hq⟩:=h
 unfold zcS at g
 split at g
 ·rename_i hh many
  obtain ⟨rfl,m0,m1,hn',g⟩:=g
  cases r with
  | cons r1 r =>
   cases r with
   | cons r2 r =>
    cases r
    obtain ⟨a,rfl,ea⟩:=r1.handI
    rw [r2.intI]
    refine ⟨a,many,n,rfl,hn a ea,by omega,m0,m1,fun q H' q0 q1 hh sx=>?_⟩
    refine hq _ (n+1) _ H' (g q q0 q1) (fun b o hb nb=>sx b o hb fun z=>nb (by rw [ea,z])) (fun b eb=>?_) (.int _)
    rw [ea] at eb;cases eb
    exact hh
 ·exact g.elim
def zmy:Option (Option Cell)->(List PyData->Prop)->Prop
 | some (some (.val (.dict [(.none,.list ts)]))),R=>R ts
 | _,_=>False
def zbe (ρ:En):En:=match (ρ[(0:Nat)]?:Option (Option Cell)) with
 | some (some (.val (.dict [(.none,.list ts)])))=>some (.val (.dict [(.none,.list ts)]))::List.replicate (ρ.length - 1) none
 | _=>List.replicate ρ.length none
def intOf:Option (Option Cell)->(Int->Prop)->Prop
 | some (some (.val (.int k))),R=>R k
 | _,_=>False
def zg6 (i j:Nat) (u:DTS):DTS:=fun D ρ n=>zmy ρ[0]? fun ts=>intOf ρ[j]? fun k=>(∃ ns:List Int,ts=ns.map PyData.int/\ns.length<=63)/\0<=k/\k<=100 /\
 u { nx:=fun ρ' _=>D.nx (zbe ρ') n,rt:=fun t _=>∃ b,t=.bool b/\D.rt t n,bk:=fun ρ' _=>D.bk (zbe ρ') n,ct:=fun ρ' _=>D.ct (zbe ρ') n } (((zbe ρ).set j (some (.val (.int k)))).set i (some (.val HAND))) 0
theorem zbE {ρ:En}{i:Nat}{c:Cell} (h:(zbe ρ)[i]?=some (some c)):i=0/\ρ[0]?=some (some c)/\∃ ts,c=.val (.dict [(.none,.list ts)]):=by
 unfold zbe at h
 split at h
 ·rename_i ts e
  cases i with
  | zero=>simp at h;subst h;exact ⟨rfl,e,ts,rfl⟩
  | succ i =>
   rw [List.getElem?_cons_succ,List.getElem?_replicate] at h
   split at h <;> cases h
 ·rw [List.getElem?_replicate] at h
  split at h <;> cases h
theorem zj4 {ρ:En}:(zbe ρ).length=ρ.length:=by
 unfold zbe
 split
 ·rename_i ts e
  cases ρ with
  | nil=>simp at e
  | cons a r=>simp
 ·simp
theorem zer {ρ:En}{σ:St}{a:Addr}:¬OwnS (zbe ρ) σ a:=fun ⟨i,ds,m,h,_⟩=>by
 obtain ⟨_,_,ts,e⟩:=zbE h
 subst e;cases m
theorem Rep.scrHd {K:PySem.W.Frag}{hd hd':Option Addr}{O O':Addr->Prop}{H H':Hp}{v:V}{ts:List PyData} (h:Rep K hd O H v (.dict [(.none,.list ts)])) (ho:∀ a o,H a=some o->¬O a->H' a=some o/\¬O' a):Rep K hd' O' H' v (.dict [(.none,.list ts)])/\∃ ns:List Int,ts=ns.map PyData.int:=by
 generalize e:(PyData.dict [(PyData.none,PyData.list ts)])=t at h
 cases h with
 | @scr a ns h1 o =>
  have e':ts=ns.map PyData.int:=by simpa [SCR] using e
  subst e'
  refine ⟨?_,ns,rfl⟩
  rcases h1 with h1 | ⟨u,h1⟩
  ·exact .scr (.inl (ho a _ h1 o).1) (ho a _ h1 o).2
  ·exact .scr (.inr ⟨u,(ho a _ h1 o).1⟩) (ho a _ h1 o).2
 | @scrS a ns h1 =>
  have e':ts=ns.map PyData.int:=by simpa [SCR] using e
  subst e'
  exact ⟨.scrS h1,ns,rfl⟩
 | hand _=>simp [HAND] at e
 | dct _ _=>cases e
 | dcK _ _ _ e'=>cases e;exact (dict_noK e').elim
 | dcT _ _ _ e'=>cases e;exact (dict_noT e').elim
 | _=>cases e
theorem Stt.drop {K:PySem.W.Frag}{C C':Ctx}{ρ:En}{σ:St}{H H':Hp}{n n':Nat} (S:Stt K C' ρ σ H n) (hn:Hn C.hd H' n') (hl:∀ a,C.ext a->MutO (H' a)) (hx:∀ a,C.hd=some a->C.ext a)
  (ho:∀ a o,H a=some o->¬Own C' ρ σ a->H' a=some o/\¬C.ext a):Stt K C (zbe ρ) σ H' n' where
 len:=by rw [zj4];exact S.len
 val:=fun i d h=>by
  obtain ⟨rfl,e0,ts,et⟩:=zbE h
  cases et
  obtain ⟨v,h1,h2⟩:=S.val 0 _ e0
  exact ⟨v,h1,(h2.scrHd fun a o ha no=>⟨(ho a o ha no).1,fun z=>z.elim (ho a o ha no).2 zer⟩).1⟩
 own:=fun i ds h=>by
  obtain ⟨_,_,ts,e⟩:=zbE h
  cases e
 dct:=fun i ds h=>by
  obtain ⟨_,_,ts,e⟩:=zbE h
  cases e
 rdo:=fun i ds h=>by
  obtain ⟨_,_,ts,e⟩:=zbE h
  cases e
 dtt:=fun i ds h=>by
  obtain ⟨_,_,ts,e⟩:=zbE h
  cases e
 dif:=fun i j ds es a m _ h=>by
  obtain ⟨_,_,ts,e⟩:=zbE h
  subst e;cases m
 hnd:=hn
 ext:=hl
 hx:=hx
section
variable {X:Cx}{st:Stmt}{sts:List Stmt}{ps:List Str}{f:Addr}{fd:FuncData}{u:DTS}{x s kx hx:Str}{pos pos' p p1 p2 p3:Pos}{k:Nat}
theorem zj3 {i j:Nat} (D:Bd.Def X.K X.mg hx st ps f fd) (G:FnOk X.prog X.w X.K X.mg X.base CX0 k f fd ps (zgq X.K)) (hr:Room k X.A) (hN:X.N.Nodup) (hi:X.N[i]?=some x) (hlx:Loc X.env.scope x) (hu:DSs X sts u) (hij:i≠0:=by decide) (hj0:j≠0:=by decide) (hji:j≠i:=by decide)
  (h0:X.N[0]?=some s:=by rfl) (hj:X.N[j]?=some kx:=by rfl) (hv0:Vis X.env.scope s:=by first | exact Or.inl rfl | exact Or.inr (Or.inl rfl) | exact Or.inr (Or.inr rfl)) (hvj:Vis X.env.scope kx:=by first | exact Or.inl rfl | exact Or.inr (Or.inl rfl) | exact Or.inr (Or.inr rfl))
  (hd0:(s == ("__debug__":Str))=false:=by decide) (hcd0:(s == ("__classdict__":Str))=false:=by decide) (hdj:(kx == ("__debug__":Str))=false:=by decide) (hcdj:(kx == ("__classdict__":Str))=false:=by decide) (hg:Gl X hx:=by rfl) (hdb:(hx == ("__debug__":Str))=false:=by decide)
  (hs:swapsWith (.Call (.Name hx p) [.Name s p1,.Name kx p2] [] p3) (some (.Name x pos')) pos.line X.env=pure false:=by rfl) (hf:X.fn x=true\/X.env.scope.names.lookup x=some .local:=by first | exact .inl rfl | exact .inr rfl | assumption) :
  DSs X (.Assign [.Name x pos'] (.Call (.Name hx p) [.Name s p1,.Name kx p2] [] p3) pos::sts) (zg6 i j u):=by
 obtain ⟨tu,pu,hu⟩:=hu
 refine ⟨_,zaV (zbO hN hi hlx (Bd.zle D G hr (za0 (zcm h0 hv0 hd0 hcd0) (za0 (zcm hj hvj hdj hcdj) zbQ rfl) rfl) hg hdb) hs hf) pu,fun C ρ σ H n Dn D' S hd g=>?_⟩
 unfold zg6 zmy at hd
 split at hd
 ·rename_i ts e0
  unfold intOf at hd
  split at hd
  ·rename_i kk ej
   obtain ⟨⟨ns,rfl,hl⟩,k0,k1,hd⟩:=hd
   obtain ⟨v0,s0,r0⟩:=S.val 0 _ e0
   obtain ⟨vj,sj,rj⟩:=S.val j _ ej
   obtain ⟨a0,rfl,sq0⟩:=r0.scrI
   rw [rj.intI] at sj
   refine ⟨_,s0,_,sj,?_⟩
   refine ⟨a0,ns,kk,rfl,sq0,hl,k0,k1,fun h H1 hh hok sm=>?_⟩
   have S1:=S.on (Same.ext sm:ExtE C.hd H H1) (S.hnd.same sm)
   have nx:¬Own C ρ σ h:=fun z=>S.dom z hh
   have Sd:Stt X.K ⟨some h,fun a=>C.ext a\/a=h⟩ (zbe ρ) σ H1 0:=S.drop (fun a ea=>by cases ea;exact hok) (fun a z=>z.elim (fun z=>S1.ext a z) fun z=>by subst z;obtain ⟨_,_,_,q,_⟩:=hok;exact .inl ⟨_,q⟩) (fun a ea=>.inr (by cases ea;rfl))
    (fun a o ha no=>⟨sm a o ha,fun z=>z.elim (fun z=>no (.inl z)) fun z=>by subst z;rw [hh] at ha;cases ha⟩)
   have Sd2:=(Sd.put (i:=j) (t:=.int kk) (v:=.int kk) (.int kk)).put (i:=i) (t:=HAND) (v:=.ref h) (.hand rfl)
   have own2:∀ a,¬OwnS (((zbe ρ).set j (some (.val (.int kk)))).set i (some (.val HAND))) ((σ.set j (some (.int kk))).set i (some (.ref h))) a:=fun a z=>zer (zc1 (zc1 z))
   have es:(σ.set j (some (V.int kk)))=σ:=by
    apply List.ext_getElem?
    intro q
    by_cases z:j=q
    ·subst z
     have:j<σ.length:=by
      rcases Nat.lt_or_ge j σ.length with w | w
      ·exact w
      ·rw [List.getElem?_eq_none w] at sj;cases sj
     rw [zhG this,sj]
    ·rw [List.getElem?_set_ne z]
   rw [es] at Sd2 own2
   refine hu _ _ _ H1 0 _ _ Sd2 hd ?_
   have back:∀ {ρ' σ' H' n'},Stt X.K ⟨some h,fun a=>C.ext a\/a=h⟩ ρ' σ' H' n'->(∀ a o,H1 a=some o->some h≠some a->H' a=some o)->Stt X.K C (zbe ρ') σ' H' n:=fun {ρ' σ' H' n'} S' kp =>
    S'.drop (fun a ea=>by
      obtain ⟨d,m,t,q,rest⟩:=S.hnd a ea
      exact ⟨d,m,t,kp a _ (sm _ _ q) (fun z=>by cases z;rw [hh] at q;cases q),rest⟩)
     (fun a z=>by
      rcases S.ext a z with ⟨xs,q⟩ | ⟨xs,q⟩ | ⟨b,xs,q⟩
      ·exact .inl ⟨xs,kp a _ (sm _ _ q) (fun z=>by cases z;rw [hh] at q;cases q)⟩
      ·exact .inr (.inl ⟨xs,kp a _ (sm _ _ q) (fun z=>by cases z;rw [hh] at q;cases q)⟩)
      ·exact .inr (.inr ⟨b,xs,kp a _ (sm _ _ q) (fun z=>by cases z;rw [hh] at q;cases q)⟩)) S.hx (fun a o ha no=>⟨ha,fun z=>no (.inl (.inl z))⟩)
   have kp1:∀ {ρ' σ' H'},Keep ⟨some h,fun a=>C.ext a\/a=h⟩ (((zbe ρ).set j (some (.val (.int kk)))).set i (some (.val HAND))) (σ.set i (some (.ref h))) H1 ρ' σ' H'->∀ a o,H1 a=some o->some h≠some a->H' a=some o:=fun k a o ha na=>(k a o ha na (own2 a)).1
   have kp2:∀ {ρ' σ' H'},Keep ⟨some h,fun a=>C.ext a\/a=h⟩ (((zbe ρ).set j (some (.val (.int kk)))).set i (some (.val HAND))) (σ.set i (some (.ref h))) H1 ρ' σ' H'->Keep C ρ σ H (zbe ρ') σ' H':=fun k a o ha _ _=>⟨kp1 k a o (sm a o ha) (fun z=>by cases z;rw [hh] at ha;cases ha),zer⟩
   refine ⟨fun ρ' σ' H' n' h' S' k'=>g.nx _ _ H' n h' (back S' (kp1 k')) (kp2 k'),fun t n' v H' h' hn' k' rp=>?_,fun ρ' σ' H' n' h' S' k'=>g.bk _ _ H' n h' (back S' (kp1 k')) (kp2 k'),fun ρ' σ' H' n' h' S' k'=>g.ct _ _ H' n h' (back S' (kp1 k')) (kp2 k')⟩
   obtain ⟨b,rfl,h'⟩:=h'
   rw [rp.blI]
   have kq:∀ a o,H a=some o->H' a=some o:=fun a o ha=>k' a o (sm a o ha) (fun z=>by cases z;rw [hh] at ha;cases ha) (own2 a)
   refine g.rt _ n _ H' h' (fun a ea=>?_) (fun a o ha _ _=>kq a o ha) (.bl b)
   obtain ⟨d,m,t,q,rest⟩:=S.hnd a ea
   exact ⟨d,m,t,kq a _ q,rest⟩
  ·exact hd.elim
 ·exact hd.elim
end
def zje (K:PySem.W.Frag):Sp:=fun vs H Q _=>∃ (a:Addr) (ns:List Int),vs=[.ref a]/\SqL K H a (ns.map V.int)/\ns.length<=63/\∀ H',Q (.bl true) H'
def zn4:GD:=fun ts n R=>∃ ns:List Int,ts=[SCR ns]/\ns.length<=63/\∀ n',R (.bool true) n'
theorem zlw {K:PySem.W.Frag} (vs:List V) (H:Hp) (Q:VK) (E:XK) (h:zje K vs H Q E):spD K 1 zn4 vs H Q E:=by
 obtain ⟨a,ns,rfl,sq,hl,q⟩:=h
 refine ⟨none,fun _=>False,[SCR ns],0,fun t _=>t=.bool true,.cons ?_ .nil,(fun a e=>by cases e),(fun a z=>z.elim),(fun a e=>by cases e),rfl,⟨ns,rfl,hl,fun _=>rfl⟩,fun t n' v H' ht _ _ rp=>?_⟩
 ·rcases sq with sq | sq
  ·exact .scr sq (fun z=>z)
  ·exact .scrS fun _=>.inr sq
 ·subst ht
  rw [rp.blI]
  exact q H'
end L2
namespace L2
open PySem PySem.Spec PyProof.Rows
section
variable {env:Env}{es:List Expr}{a b:Expr}{l1 l2:List Expr}{p:Pos}{x:Str}
theorem zac:starEach (.Name x p::es) env=(false,eval (.Name x p) env)::starEach es env:=rfl
theorem zai {i:Int}{j}:starEach (.Constant (.int i) j p::es) env=(false,eval (.Constant (.int i) j p) env)::starEach es env:=rfl
theorem zd7 {i:Bool}{j}:starEach (.Constant (.bool i) j p::es) env=(false,eval (.Constant (.bool i) j p) env)::starEach es env:=rfl
theorem zcy {j}:starEach (.Constant .none j p::es) env=(false,eval (.Constant .none j p) env)::starEach es env:=rfl
theorem zhC {i:Str}{j}:starEach (.Constant (.str i) j p::es) env=(false,eval (.Constant (.str i) j p) env)::starEach es env:=rfl
theorem zaM {c d}:starEach (.Call a l1 c d::es) env=(false,eval (.Call a l1 c d) env)::starEach es env:=rfl
theorem zcz:starEach (.List l1 p::es) env=(false,eval (.List l1 p) env)::starEach es env:=rfl
theorem zaj {k}:starEach (.Tuple l1 k p::es) env=(false,eval (.Tuple l1 k p) env)::starEach es env:=rfl
theorem za3 {o}:starEach (.BinOp a o b p::es) env=(false,eval (.BinOp a o b p) env)::starEach es env:=rfl
theorem zkP {o}:starEach (.UnaryOp o a p::es) env=(false,eval (.UnaryOp o a p) env)::starEach es env:=rfl
theorem zb6:starEach (.Subscript a b p::es) env=(false,eval (.Subscript a b p) env)::starEach es env:=rfl
theorem zhD {g s}:starEach (.ListComp a g s p::es) env=(false,eval (.ListComp a g s p) env)::starEach es env:=rfl
theorem zkQ:starEach (.Dict [] [] p::es) env=(false,eval (.Dict [] [] p) env)::starEach es env:=rfl
end
section
variable {X:Cx}{a b c e:Expr}{da db dc:DTE}{pos p:Pos}{r r':R2}{g g':G2}
theorem zj5:DE X (.Dict [] [] pos) (dC (.dict [])):=by
 refine ⟨_,zjE,fun C ρ σ H n Q R S h hq p hp=>?_⟩
 exact hq _ n _ _ h (ExtE.new hp) (S.hnd.same (zav hp)) (.dct zao (S.free hp))
end
end L2
namespace L2
open PySem PySem.Spec PyProof.Rows
section
variable {C:Int->Int->Prop}{f:Int->Int->Int}{fb:Int->Int->Bool}{i j k:Int}{R:PyData->Prop}{Rb:Bool->Prop}{xs ys:List PyData}{s t:Str}{a b:Bool}{u v:PyData}
theorem l_gI:gI C f (.int i) (.int j) R=(C i j/\R (.int (f i j))):=propext Iff.rfl
theorem zjO:gI0 f (.int i) (.int j) R=R (.int (f i j)):=propext Iff.rfl
theorem zfa:oAdd (.int i) (.int j) R=R (.int (i+j)):=propext Iff.rfl
theorem ze_:oAdd (.tuple xs) (.tuple ys) R=(xs.length+ys.length<=16777216/\R (.tuple (xs++ys))):=propext Iff.rfl
theorem zie:oEq (.int i) (.int j) R=R (.bool (decide (i=j))):=propext Iff.rfl
theorem zh_:oNe (.int i) (.int j) R=R (.bool (!decide (i=j))):=propext Iff.rfl
theorem zh8:oNe (.tuple xs) (.tuple ys) R=(Okd (.tuple xs)/\Okd (.tuple ys)/\R (.bool (!PyData.eqv (.tuple xs) (.tuple ys)))):=propext Iff.rfl
theorem zh9:oNe (.list xs) (.list ys) R=(Okd (.list xs)/\Okd (.list ys)/\R (.bool (!PyData.eqv (.list xs) (.list ys)))):=propext Iff.rfl
theorem zic:oLtA (.int i) (.int j) R=R (.bool (decide (i<j))):=propext Iff.rfl
theorem zid:oLeA (.int i) (.int j) R=R (.bool (decide (i<=j))):=propext Iff.rfl
theorem zpz {x:PyData} (h:atI xs i=some x):oIx (.list xs) (.int i) R=R x:=by show (match atI xs i with | some t=>R t | none=>False)=_;rw [h]
theorem zlx {x:PyData} (h:atI xs i=some x):oIx (.tuple xs) (.int i) R=R x:=by show (match atI xs i with | some t=>R t | none=>False)=_;rw [h]
theorem ze9:oIx (.tuple (u::xs)) (.int 0) R=R u:=zlx (by unfold atI ixN;simp)
theorem ze8:oIx (.tuple (u::v::xs)) (.int 1) R=R v:=zlx (by unfold atI ixN;simp;rw [if_pos (by omega)];rfl)
theorem ze6:truD (.bool a) Rb=Rb a:=propext Iff.rfl
theorem zif:bolD (.bool a) Rb=Rb a:=propext Iff.rfl
theorem zgM:bLen [.list xs] R=R (.int xs.length):=propext Iff.rfl
theorem ze7:bLen [.tuple xs] R=R (.int xs.length):=propext Iff.rfl
theorem zcr {ns:List Int}:bLen [SCR ns] R=R (.int ns.length):=by show R (.int (ns.map PyData.int).length)=_;rw [List.length_map]
theorem zia:bMin [.int i,.int j] R=R (.int (if j<i then j else i)):=propext Iff.rfl
theorem zib:bMax [.int i,.int j] R=R (.int (if j > i then j else i)):=propext Iff.rfl
theorem zcq:zfM [.list xs] R=R (.tuple xs):=propext Iff.rfl
theorem zcs {Rl:List PyData->Prop}:zbl (.tuple xs) Rl=Rl xs:=propext Iff.rfl
theorem znq (y:String) (h:y∈["NoneType","bool","int","str","list","tuple","dict"]):kitB y "int" = some (decide (y = "int")||decide (y = "bool")):=by
 simp only [List.mem_cons,List.not_mem_nil,or_false] at h
 rcases h with rfl | rfl | rfl | rfl | rfl | rfl | rfl <;> decide +kernel
theorem zly (y:String) (h:y∈["NoneType","bool","int","str","list","tuple","dict"]):kitB y "bool" = some (decide (y = "bool")):=by
 simp only [List.mem_cons,List.not_mem_nil,or_false] at h
 rcases h with rfl | rfl | rfl | rfl | rfl | rfl | rfl <;> decide +kernel
theorem zjP (y:String) (h:y∈["NoneType","bool","int","str","list","tuple","dict"]):kitB y "tuple" = some (decide (y = "tuple")):=by
 simp only [List.mem_cons,List.not_mem_nil,or_false] at h
 rcases h with rfl | rfl | rfl | rfl | rfl | rfl | rfl <;> decide +kernel
def Pln (t:PyData):Prop:=tyN t≠none
def isInt:PyData->Bool | .int _=>true | .bool _=>true | _=>false
def isBool:PyData->Bool | .bool _=>true | _=>false
def isTup:PyData->Bool | .tuple _=>true | _=>false
variable {d:DTE}{ρ:En}{n:Nat}{Rn:PyData->Nat->Prop}
theorem zfO {y:String} (h:tyN u=some y):y∈["NoneType","bool","int","str","list","tuple","dict"]:=by
 unfold tyN at h
 split at h <;> cases h <;> simp
def isiD (f:PyData->Bool) (d:DTE):DTE:=fun ρ n R=>d ρ n fun t n1=>Pln t/\R (.bool (f t)) n1
end
section
variable {X:Cx}{e:Expr}{d:DTE}{p p2 pos:Pos}
theorem zbg {T:String}{f:PyData->Bool}{y:Str} (hk:∀ t y,tyN t=some y->kitB y T=some (f t)) (hm:X.mg "isinstance" = none) (hmT:X.mg y=none) (hT:bootBuiltins y=some (.type T)) (h:DL X e d) (hs:starEach (e::[.Name y p2]) X.env=(false,eval e X.env)::starEach [.Name y p2] X.env) (hg:Gl X "isinstance":=by rfl) (hgT:Gl X y:=by rfl) (hn:y ≠ "__name__":=by decide) (hd:(y == ("__debug__":Str))=false:=by decide) :
  DE X (.Call (.Name "isinstance" p) [e,.Name y p2] [] pos) (isiD f d):=by
 obtain ⟨ta,pa,h⟩:=h
 refine ⟨_,zg9 ziR hm zkc (za0 pa (zli (Bd.zpr hmT hT hgT hn hd) zbQ) hs) hg,fun C ρ σ H n Q R S hd hq=>?_⟩
 refine h C ρ σ H n _ _ S hd fun t n1 v H1 r1 e1 h1 q1=>?_
 cases et:tyN t with
 | none=>exact absurd et r1.1
 | some z=>exact ⟨v,C.hd,Own C ρ σ,t,T,z,f t,rfl,q1,et,hk t z et,hq _ n1 _ H1 r1.2 e1 h1 (.bl _)⟩
theorem zku:∀ t y,tyN t=some y->kitB y "int" = some (isInt t):=fun t y e=>by
 rw [znq y (zfO e)]
 unfold tyN at e
 split at e <;> cases e <;> rfl
theorem zf7:∀ t y,tyN t=some y->kitB y "bool" = some (isBool t):=fun t y e=>by
 rw [zly y (zfO e)]
 unfold tyN at e
 split at e <;> cases e <;> rfl
theorem zb2:∀ t y,tyN t=some y->kitB y "tuple" = some (isTup t):=fun t y e=>by
 rw [zjP y (zfO e)]
 unfold tyN at e
 split at e <;> cases e <;> rfl
theorem zbP {i:Int}:Pln (.int i):=by simp [Pln,tyN]
theorem zbi {i:Bool}:Pln (.bool i):=by simp [Pln,tyN]
theorem zb9 {i:Str}:Pln (.str i):=by simp [Pln,tyN]
theorem zbc {i:List PyData}:Pln (.tuple i):=by simp [Pln,tyN]
theorem zbA {i:List PyData}:Pln (.list i):=by simp [Pln,tyN]
theorem zbz:Pln .none:=by simp [Pln,tyN]
theorem zbB:Pln (.dict []):=by simp [Pln,tyN]
end
end L2
namespace L2
open PySem PySem.Spec PyProof.Rows
abbrev blk (i h:Int):PyData:=.tuple [.int i,.int h]
def IsBk (bits i h:Int):Prop:=0<=h/\h<=bits/\∃ k:Int,0<=k/\i=k*2 ^ h.toNat/\k<2 ^ (bits - h).toNat
theorem zgB (k:Nat):(0:Int)<2 ^ k:=Bd.zc7 k
theorem zjw {a b:Nat}:(2:Int) ^ (a+b)=2 ^ a*2 ^ b:=Int.pow_add 2 a b
theorem cpow {j:Int} (h0:0<=j) (h1:j<=1000000):CPow 1 j:=⟨h0,h1,by decide⟩
end L2
namespace L2
open PySem PySem.Spec PyProof.Rows
section
variable {t u tb:DTS}{D:DEnds}{ρ ρ0:En}{n i j m:Nat}{d da db dc d1 d2:DTE}{ds di:DTA}{c c' tt:DTT}{g:G2}{g':G2}{gc:GC}{gd:GD}{tg:DTG}{tgs:DTGs}{R:PyData->Nat->Prop}{Rb:Bool->Nat->Prop}{Rl:List PyData->Nat->Prop}{Re:En->Prop}{x y:PyData}{xs ys acc:List PyData}{f:Int->Int->Int}{fb:PyData->Bool}{k:Bool}{capt:List Nat}{h:Option Cell}
theorem zgk:(sSeq t u D ρ n)=(t { D with nx:=u D } ρ n):=propext Iff.rfl
theorem zgl:(sRet d D ρ n)=(d ρ n fun t n'=>D.rt t n'):=propext Iff.rfl
theorem zgj:(sSet i d D ρ n)=(d ρ n fun t n'=>D.nx (ρ.set i (some (.val t))) n'):=propext Iff.rfl
theorem u_dC:(dC x ρ n R)=(R x n):=propext Iff.rfl
theorem zi_:(dOp g da db ρ n R)=(da ρ n fun x n1=>db ρ n1 fun y n2=>g x y fun z=>R z n2):=propext Iff.rfl
theorem zgp:(dNew ds ρ n R)=(ds ρ n fun ts n'=>R (.list ts) n'):=propext Iff.rfl
theorem zgn:(dTup ds ρ n R)=(ds ρ n fun ts n1=>R (.tuple ts) n1):=propext Iff.rfl
theorem zgo:(dNil ρ n Rl)=(Rl [] n):=propext Iff.rfl
theorem zd4:(ziM d ds ρ n Rl)=(d ρ n fun t n1=>ds ρ n1 fun ts n2=>Rl (t::ts) n2):=propext Iff.rfl
theorem zja:(dFn gd ds ρ n R)=(ds ρ n fun ts n1=>gd ts n1 R):=propext Iff.rfl
theorem zcZ:(zft gc ds ρ n R)=(ds ρ n fun ts n1=>gc ts fun z=>R z n1):=propext Iff.rfl
def cVal:Option Cell->(PyData->Prop)->Prop
 | some (.val d),R=>R d
 | _,_=>False
theorem zgN {Q:PyData->Prop}:cVal (some (.val x)) Q=Q x:=propext Iff.rfl
theorem zgm:dVar i ρ n R=cVal (ρ.getD i none) fun d=>R d n:=by
 unfold dVar
 rw [List.getD_eq_getElem?_getD]
 cases e:ρ[i]? with
 | none=>exact propext Iff.rfl
 | some o=>cases o with
  | none=>exact propext Iff.rfl
  | some c=>cases c <;> exact propext Iff.rfl
theorem zc5:ziK d ρ n Rb=(d ρ n fun t n'=>bolD t fun b=>Rb b n'):=by
 unfold ziK
 congr 1
 funext t n'
 cases t <;> exact propext Iff.rfl
def lCat:PyData->PyData->(List PyData->Prop)->Prop
 | .list xs,.list ys,R=>xs.length+ys.length<=16777216/\R (xs++ys)
 | _,_,_=>False
theorem zeE:dCat da db ρ n Rl=(da ρ n fun x n1=>db ρ n1 fun y n2=>lCat x y fun zs=>Rl zs n2):=by
 unfold dCat
 congr 1
 funext x n1
 congr 1
 funext y n2
 cases x <;> cases y <;> exact propext Iff.rfl
def lLst:PyData->(List PyData->Prop)->Prop
 | .list xs,R=>R xs
 | _,_=>False
def lTup:PyData->(List PyData->Prop)->Prop
 | .tuple xs,R=>R xs
 | _,_=>False
theorem zeD:dItL d ρ n Rl=(d ρ n fun t n'=>lLst t fun ts=>Rl ts n'):=by
 unfold dItL
 congr 1
 funext t n'
 cases t <;> exact propext Iff.rfl
theorem zeC:dItT d ρ n Rl=(d ρ n fun t n'=>lTup t fun ts=>Rl ts n'):=by
 unfold dItT
 congr 1
 funext t n'
 cases t <;> exact propext Iff.rfl
def lInt:PyData->(Int->Prop)->Prop
 | .int i,R=>R i
 | _,_=>False
theorem zc6:ziL d ρ n Rl=(d ρ n fun t n'=>lInt t fun j=>(-(2 ^ 62)<=j/\j<2 ^ 62)/\Rl (zbJ 0 j.toNat) n'):=by
 unfold ziL
 congr 1
 funext t n'
 cases t <;> exact propext Iff.rfl
theorem zeB:dNeg d ρ n R=(d ρ n fun t n'=>lInt t fun i=>R (.int (-i)) n'):=by
 unfold dNeg
 congr 1
 funext t n'
 cases t <;> exact propext Iff.rfl
def zig:List PyData->(PyData->PyData->Prop)->Prop
 | [x,y],R=>R x y
 | _,_=>False
theorem zeA:sPar i j ds D ρ n=(ds ρ n fun ts n'=>zig ts fun t u=>D.nx ((ρ.set i (some (.val t))).set j (some (.val u))) n'):=by
 unfold sPar
 congr 1
 funext ts n'
 rcases ts with _ | ⟨a,_ | ⟨b,_ | ⟨c,r⟩⟩⟩ <;> exact propext Iff.rfl
theorem zce:zfs g g' da db dc ρ n R=(da ρ n fun x n1=>db ρ n1 fun y n2=>g x y fun z=>bolD z fun b=>if b=true then dc ρ n2 fun w n3=>g' y w fun z=>R z n3 else R (.bool false) n2):=by
 unfold zfs
 congr 1
 funext x n1
 congr 1
 funext y n2
 congr 1
 funext z
 cases z with
 | bool b=>cases b <;> simp [bolD]
 | _=>exact propext Iff.rfl
end
end L2
namespace L2
open PySem PySem.Spec PyProof.Rows
section
variable {t u tb:DTS}{D:DEnds}{ρ ρ0:En}{n i j m:Nat}{d da db dc d1 d2:DTE}{ds di:DTA}{c c' tt:DTT}{g:G2}{g':G2}{gc:GC}{gd:GD}{tg:DTG}{tgs:DTGs}{R:PyData->Nat->Prop}{Rb:Bool->Nat->Prop}{Rl:List PyData->Nat->Prop}{Re:En->Prop}{x y:PyData}{xs ys acc:List PyData}{f:Int->Int->Int}{fb:PyData->Bool}{k:Bool}{capt:List Nat}
theorem znH (h:t { D with nx:=u D } ρ n):sSeq t u D ρ n:=h
theorem zlD (h:D.nx ρ n):zkV D ρ n:=h
theorem znI (h:d ρ n fun t n'=>D.rt t n'):sRet d D ρ n:=h
theorem zpU (h:c ρ n fun b n1=>if b=true then t D ρ n1 else u D ρ n1):sIf c t u D ρ n:=h
theorem znL (h:d ρ n fun t n'=>tg t ρ fun ρ'=>D.nx ρ' n'):sAsg d tg D ρ n:=h
theorem znK (h:di ρ n fun ts n1=>forP tg tb D ts ρ n1):sFor di tg tb D ρ n:=h
theorem i_dC (h:R x n):dC x ρ n R:=h
theorem zpX (h:da ρ n fun x n1=>db ρ n1 fun y n2=>g x y fun z=>R z n2):dOp g da db ρ n R:=h
theorem znW (h:ds ρ n fun ts n'=>R (.list ts) n'):dNew ds ρ n R:=h
theorem znR (h:ds ρ n fun ts n1=>R (.tuple ts) n1):dTup ds ρ n R:=h
theorem znV (h:Rl [] n):dNil ρ n Rl:=h
theorem zlJ (h:d ρ n fun t n1=>ds ρ n1 fun ts n2=>Rl (t::ts) n2):ziM d ds ρ n Rl:=h
theorem zpY (h:ds ρ n fun ts n1=>gd ts n1 R):dFn gd ds ρ n R:=h
theorem zn0 (h:ds ρ n fun ts n1=>gd ts n1 fun t n2=>zbR t=true/\R t n2):dFnL gd ds ρ n R:=h
theorem zjY (h:ds ρ n fun ts n1=>gc ts fun z=>R z n1):zft gc ds ρ n R:=h
theorem zn2 (h:c ρ n fun b n1=>if b=true then c' ρ n1 Rb else Rb false n1):dAnd c c' ρ n Rb:=h
theorem zpW (h:c ρ n fun b n1=>if b=true then Rb true n1 else c' ρ n1 Rb):dOr c c' ρ n Rb:=h
theorem znU (h:c ρ n fun b n1=>Rb (!b) n1):dNot c ρ n Rb:=h
theorem zlL (h:da ρ n fun t n1=>bolD t fun b=>if b=true then db ρ n1 R else R (.bool false) n1):zl1 da db ρ n R:=h
theorem zlI (h:da ρ n fun t n1=>bolD t fun b=>R (.bool (!b)) n1):zl0 da ρ n R:=h
theorem znS (h:d ρ n fun t n'=>truD t fun b=>Rb b n'):dTru d ρ n Rb:=h
theorem zit (h:d ρ n fun t n1=>zbl t fun ts=>Rl ts n1):zga d ρ n Rl:=h
theorem zlK (h:di ρ n fun ts n1=>zbY tg tt d (zaR m capt ρ) ts [] n1 Rl):dComp m capt di tg tt d ρ n Rl:=h
theorem znQ (h:Rb true n):dYes ρ n Rb:=h
theorem zlB (h:tgs xs ρ Re):zkM tgs (.tuple xs) ρ Re:=h
theorem zlC (h:Re ρ):zkN [] ρ Re:=h
theorem zjV (h:tg x ρ fun ρ'=>tgs xs ρ' Re):zhy tg tgs (x::xs) ρ Re:=h
theorem zlF (h:d ρ n fun t n'=>bolD t fun b=>Rb b n'):ziK d ρ n Rb:=zc5.symm▸h
theorem zn1 (h:da ρ n fun x n1=>db ρ n1 fun y n2=>lCat x y fun zs=>Rl zs n2):dCat da db ρ n Rl:=zeE.symm▸h
theorem znZ (h:d ρ n fun t n'=>lLst t fun ts=>Rl ts n'):dItL d ρ n Rl:=zeD.symm▸h
theorem znY (h:d ρ n fun t n'=>lTup t fun ts=>Rl ts n'):dItT d ρ n Rl:=zeC.symm▸h
theorem zlG (h:d ρ n fun t n'=>lInt t fun j=>(-(2 ^ 62)<=j/\j<2 ^ 62)/\Rl (zbJ 0 j.toNat) n'):ziL d ρ n Rl:=zc6.symm▸h
theorem znX (h:d ρ n fun t n'=>lInt t fun i=>R (.int (-i)) n'):dNeg d ρ n R:=zeB.symm▸h
theorem zjX (h:da ρ n fun x n1=>db ρ n1 fun y n2=>g x y fun z=>bolD z fun b=>if b=true then dc ρ n2 fun w n3=>g' y w fun z=>R z n3 else R (.bool false) n2):zfs g g' da db dc ρ n R:=zce.symm▸h
theorem znJ (h:ds ρ n fun ts n'=>zig ts fun t u=>D.nx ((ρ.set i (some (.val t))).set j (some (.val u))) n'):sPar i j ds D ρ n:=zeA.symm▸h
def lIsi (fb:PyData->Bool) (t:PyData) (R:PyData->Prop):Prop:=Pln t/\R (.bool (fb t))
theorem znO (h:d ρ n fun t n1=>lIsi fb t fun z=>R z n1):isiD fb d ρ n R:=h
theorem zkr (e:ρ[i]?=some (some (.val x))) (h:R x n):dVar i ρ n R:=by unfold dVar;rw [e];exact h
theorem zks (e:ρ[i]?=some (some (.own xs))) (h:R (.list xs) n):dOwn i ρ n R:=by unfold dOwn;rw [e];exact h
theorem zgQ (e:ρ[i]?=some (some (.own xs))) (h:d ρ n fun t n'=>xs.length<16777216/\D.nx (ρ.set i (some (.own (xs++[t])))) n'):zdb i d D ρ n:=by unfold zdb;rw [e];exact h
theorem zgP (e:ρ[i]?=some (some (.own xs))) (h:t D (ρ.set i (some (.val (.list xs)))) n):zda i t D ρ n:=by unfold zda;rw [e];exact h
theorem zpV {b:Bool}{A B:Prop} (h1:b=true->A) (h2:b=false->B):if b=true then A else B:=by cases b with | true=>exact iteT (h1 rfl) | false=>exact iteF (h2 rfl)
theorem znN {p:Prop}[Decidable p] {A B:Prop} (h1:p->A) (h2:¬p->B):if decide p=true then A else B:=by
 by_cases h:p
 ·rw [decide_eq_true h];exact iteT (h1 h)
 ·rw [decide_eq_false h];exact iteF (h2 h)
theorem znM {b:Bool}{A B:Prop} (h:if b=true then B else A):if (!b)=true then A else B:=by
 cases b with | true=>exact iteF h | false=>exact iteT h
end
section
variable {C:Int->Int->Prop}{f:Int->Int->Int}{fb:Int->Int->Bool}{i j k:Int}{R:PyData->Prop}{Rb:Bool->Prop}{xs ys:List PyData}{s t:Str}{a b:Bool}{u v x y:PyData}{Rn:PyData->Nat->Prop}{n:Nat}
theorem znA (h:R (.int (i+j))):oAdd (.int i) (.int j) R:=zfa.symm▸h
theorem znz (h:(xs.length+ys.length<=16777216/\R (.tuple (xs++ys)))):oAdd (.tuple xs) (.tuple ys) R:=ze_.symm▸h
theorem zpQ (h:R (.bool (decide (i=j)))):oEq (.int i) (.int j) R:=zie.symm▸h
theorem zpH (h:R (.bool (!decide (i=j)))):oNe (.int i) (.int j) R:=zh_.symm▸h
theorem zpF (h:(Okd (.tuple xs)/\Okd (.tuple ys)/\R (.bool (!PyData.eqv (.tuple xs) (.tuple ys))))):oNe (.tuple xs) (.tuple ys) R:=zh8.symm▸h
theorem zpG (h:(Okd (.list xs)/\Okd (.list ys)/\R (.bool (!PyData.eqv (.list xs) (.list ys))))):oNe (.list xs) (.list ys) R:=zh9.symm▸h
theorem zpM (h:R (.bool (decide (i<j)))):oLtA (.int i) (.int j) R:=zic.symm▸h
theorem zpO (h:R (.bool (decide (i<=j)))):oLeA (.int i) (.int j) R:=zid.symm▸h
theorem znx (h:R u):oIx (.tuple (u::xs)) (.int 0) R:=ze9.symm▸h
theorem znw (h:R v):oIx (.tuple (u::v::xs)) (.int 1) R:=ze8.symm▸h
theorem zns (h:Rb a):truD (.bool a) Rb:=ze6.symm▸h
theorem zpS (h:Rb a):bolD (.bool a) Rb:=zif.symm▸h
theorem znu (h:R (.int xs.length)):bLen [.tuple xs] R:=ze7.symm▸h
theorem zjR {ns:List Int} (h:R (.int ns.length)):bLen [SCR ns] R:=zcr.symm▸h
theorem zpK (h:R (.int (if j<i then j else i))):bMin [.int i,.int j] R:=zia.symm▸h
theorem zpL (h:R (.int (if j > i then j else i))):bMax [.int i,.int j] R:=zib.symm▸h
theorem zjQ (h:R (.tuple xs)):zfM [.list xs] R:=zcq.symm▸h
theorem zjS {Rl:List PyData->Prop} (h:Rl xs):zbl (.tuple xs) Rl:=zcs.symm▸h
theorem zpR {Q:List PyData->Prop} (h:(xs.length+ys.length<=16777216/\Q (xs++ys))):lCat (.list xs) (.list ys) Q:=h
theorem zpN {Q:List PyData->Prop} (h:Q xs):lLst (.list xs) Q:=h
theorem zpC {Q:List PyData->Prop} (h:Q xs):lTup (.tuple xs) Q:=h
theorem zpP {i:Int}{Q:Int->Prop} (h:Q i):lInt (.int i) Q:=h
theorem znt {Q:PyData->PyData->Prop} (h:Q x y):zig [x,y] Q:=h
theorem zpI (c:CMul i j) (h:R (.int (i*j))):oMul (.int i) (.int j) R:=⟨c,h⟩
theorem zpJ (c:0<j) (h:R (.int (i % j))):oMod (.int i) (.int j) R:=⟨c,h⟩
theorem zny (c:ziX i j) (h:R (.int (i / j))):zfY (.int i) (.int j) R:=⟨c,h⟩
theorem zpE (c:CPow i j) (h:R (.int (i*2 ^ j.toNat))):oShl (.int i) (.int j) R:=⟨c,h⟩
theorem zpD (h:R (.int (i - j))):oSub (.int i) (.int j) R:=h
theorem zpB (h:R (.int (Builtin.bitXor i j))):oXor (.int i) (.int j) R:=h
theorem zpT (h:R (.int (Builtin.bitAnd i j))):oAnd (.int i) (.int j) R:=h
theorem j_gB (h:R (.bool (fb i j))):gB fb (.int i) (.int j) R:=h
theorem zf6 (h:R (.bool true)):lIsi isInt (.int i) R:=⟨zbP,h⟩
theorem zfj (h:R (.bool true)):lIsi isInt (.bool a) R:=⟨zbi,h⟩
theorem zf5 (h:R (.bool false)):lIsi isInt (.str s) R:=⟨zb9,h⟩
theorem zel (h:R (.bool false)):lIsi isInt (.tuple xs) R:=⟨zbc,h⟩
theorem zfh (h:R (.bool false)):lIsi isInt (.list xs) R:=⟨zbA,h⟩
theorem zfg (h:R (.bool false)):lIsi isInt (.none) R:=⟨zbz,h⟩
theorem zfi (h:R (.bool false)):lIsi isInt (.dict []) R:=⟨zbB,h⟩
theorem zfk (h:R (.bool false)):lIsi isBool (.int i) R:=⟨zbP,h⟩
theorem zem (h:R (.bool true)):lIsi isBool (.bool a) R:=⟨zbi,h⟩
theorem zf4 (h:R (.bool false)):lIsi isTup (.int i) R:=⟨zbP,h⟩
theorem zff (h:R (.bool false)):lIsi isTup (.bool a) R:=⟨zbi,h⟩
theorem zf3 (h:R (.bool false)):lIsi isTup (.str s) R:=⟨zb9,h⟩
theorem zek (h:R (.bool true)):lIsi isTup (.tuple xs) R:=⟨zbc,h⟩
theorem zfd (h:R (.bool false)):lIsi isTup (.list xs) R:=⟨zbA,h⟩
theorem zfc (h:R (.bool false)):lIsi isTup (.none) R:=⟨zbz,h⟩
theorem zfe (h:R (.bool false)):lIsi isTup (.dict []) R:=⟨zbB,h⟩
end
end L2
namespace L2
open PySem PySem.Spec PyProof.Rows
theorem zk7 {h:Int} (h0:0<h):(2:Int) ^ h.toNat=2*2 ^ (h - 1).toNat:=by
 have e:h.toNat=(h - 1).toNat+1:=by lia
 rw [e,Int.pow_succ,Int.mul_comm]
theorem zmV {h:Int} (h0:0<=h):(2:Int) ^ (h+1).toNat=2*2 ^ h.toNat:=by
 have:=zk7 (h:=h+1) (by lia)
 rw [this];simp
theorem IsBk.low {bits i h:Int} (B:IsBk bits i h) (hh:0<h):IsBk bits i (h - 1):=by
 obtain ⟨h0,h1,k,k0,rfl,k1⟩:=B
 refine ⟨by lia,by lia,2*k,by lia,?_,?_⟩
 ·rw [zk7 hh,<- Int.mul_assoc,Int.mul_comm k 2]
 ·have e:(bits - (h - 1)).toNat=(bits - h).toNat+1:=by lia
  rw [e,Int.pow_succ];lia
theorem IsBk.up {bits i h:Int} (B:IsBk bits i h) (hh:0<h):IsBk bits (i+2 ^ h.toNat / 2) (h - 1):=by
 obtain ⟨h0,h1,k,k0,rfl,k1⟩:=B
 refine ⟨by lia,by lia,2*k+1,by lia,?_,?_⟩
 ·rw [zk7 hh]
  have:2*(2:Int) ^ (h - 1).toNat / 2=2 ^ (h - 1).toNat:=by lia
  rw [this,Int.add_mul,Int.one_mul,<- Int.mul_assoc,Int.mul_comm k 2]
 ·have e:(bits - (h - 1)).toNat=(bits - h).toNat+1:=by lia
  rw [e,Int.pow_succ];lia
theorem zjJ {k:Int} (P:Int) (hP:0<P):k*P % (2*P)=(k % 2)*P:=by
 rw [Int.mul_comm 2 P,Int.mul_comm k P,Int.mul_emod_mul_of_pos _ _ hP,Int.mul_comm]
theorem IsBk.abt {bits i h:Int} (B:IsBk bits i h) (hh:h<bits):IsBk bits (i - i % (2*2 ^ h.toNat)) (h+1):=by
 obtain ⟨h0,h1,k,k0,rfl,k1⟩:=B
 refine ⟨by lia,by lia,k / 2,by lia,?_,?_⟩
 ·rw [zjJ _ (zgB _),zmV h0,<- Int.sub_mul]
  have:k - k % 2=k / 2*2:=by lia
  rw [this,Int.mul_assoc]
 ·have e:(bits - h).toNat=(bits - (h+1)).toNat+1:=by lia
  rw [e,Int.pow_succ] at k1;lia
theorem IsBk.oth {bits i h:Int} (B:IsBk bits i h) (hh:h<bits):IsBk bits (Builtin.bitXor i (2 ^ h.toNat)) h:=by
 obtain ⟨h0,h1,k,k0,rfl,k1⟩:=B
 rw [zi7 _ k0]
 have e:(bits - h).toNat=(bits - (h+1)).toNat+1:=by lia
 split
 ·refine ⟨h0,h1,k+1,by lia,by rw [Int.add_mul,Int.one_mul],?_⟩
  rw [e,Int.pow_succ] at k1 ⊢;lia
 ·refine ⟨h0,h1,k - 1,by lia,by rw [Int.sub_mul,Int.one_mul],by lia⟩
theorem IsBk.nxt {bits i h:Int} (B:IsBk bits i h) (hh:i+2*2 ^ h.toNat<=2 ^ bits.toNat):IsBk bits (i+2 ^ h.toNat) h:=by
 obtain ⟨h0,h1,k,k0,rfl,k1⟩:=B
 refine ⟨h0,h1,k+1,by lia,by rw [Int.add_mul,Int.one_mul],?_⟩
 have e:bits.toNat=(bits - h).toNat+h.toNat:=by lia
 rw [e,zjw] at hh
 have p:=zgB h.toNat
 have:(k+2)*2 ^ h.toNat<=2 ^ (bits - h).toNat*2 ^ h.toNat:=by rw [Int.add_mul];exact hh
 have:=Int.le_of_mul_le_mul_right this p
 lia
theorem zp8 {j:Int}:CMul 2 j:=.inl ⟨by decide,by decide⟩
theorem zp9 {j:Int}:ziX j 2:=⟨by decide,by decide⟩
theorem zb0 (h:Nat):(1:Int)*2 ^ h=2 ^ h:=Int.one_mul _
end L2
namespace L2
open PySem PySem.Spec PyProof.Rows
theorem ziw {g:DTG}{tb:DTS}{D:DEnds} (Inv:Nat->En->Nat->Prop):∀ (ts:List PyData) (i:Nat) {ρ:En}{n:Nat},Inv i ρ n ->
  (∀ (k:Nat) (t:PyData) (ρ:En) (n:Nat) (K:En->Nat->Prop),ts[k]?=some t->Inv (i+k) ρ n->(∀ ρ' n',Inv (i+k+1) ρ' n'->K ρ' n')->g t ρ fun ρ'=>tb { D with nx:=K,ct:=K,bk:=D.nx } ρ' n) ->
  (∀ ρ n,Inv (i+ts.length) ρ n->D.nx ρ n)->forP g tb D ts ρ n
 | [],i,ρ,n,h0,_,fin=>fin ρ n (by simpa using h0)
 | t::ts,i,ρ,n,h0,turn,fin=>by
  refine turn 0 t ρ n _ rfl (by simpa using h0) fun ρ' n' h'=>?_
  refine ziw Inv ts (i+1) (by simpa using h') (fun k u ρ n K e hI hK=>?_) (fun ρ n h=>fin ρ n ?_)
  ·refine turn (k+1) u ρ n K (by simpa using e) ?_ fun ρ' n' h'=>hK ρ' n' ?_
   ·have:i+(k+1)=i+1+k:=by lia
    rw [this];exact hI
   ·have:i+1+k+1=i+(k+1)+1:=by lia
    rw [this];exact h'
  ·have:i+(t::ts).length=i+1+ts.length:=by simp;lia
   rw [this] at *;exact h
theorem zb3 {g:DTG}{tb:DTS}{D:DEnds}{ts:List PyData}{ρ:En}{n:Nat} (Inv:Nat->En->Nat->Prop) (h0:Inv 0 ρ n)
  (turn:∀ (k:Nat) (t:PyData) (ρ:En) (n:Nat) (K:En->Nat->Prop),ts[k]?=some t->Inv k ρ n->(∀ ρ' n',Inv (k+1) ρ' n'->K ρ' n')->g t ρ fun ρ'=>tb { D with nx:=K,ct:=K,bk:=D.nx } ρ' n)
  (fin:∀ ρ n,Inv ts.length ρ n->D.nx ρ n):forP g tb D ts ρ n:=by
 refine ziw Inv ts 0 h0 (fun k t ρ n K e hI hK=>turn k t ρ n K e (by simpa using hI) fun ρ' n' h'=>hK ρ' n' (by simpa using h')) fun ρ n h=>fin ρ n (by simpa using h)
theorem zcD {lo:Int}{m i:Nat}{t:PyData} (h:(zbJ lo m)[i]?=some t):i<m/\t=.int (lo+(i:Int)):=by
 unfold zbJ at h
 rw [List.getElem?_map] at h
 by_cases hi:i<m
 ·rw [List.getElem?_range hi] at h
  cases h
  exact ⟨hi,rfl⟩
 ·rw [List.getElem?_eq_none (by simp;lia)] at h
  cases h
end L2
namespace L2
open PySem PySem.Spec PyProof.Rows
theorem zlE {i j:Nat}{u:DTS}{D:DEnds}{ρ ρd:En}{n:Nat}{ns:List Int}{k:Int} (e0:ρ[0]?=some (some (.val (SCR ns)))) (ej:ρ[j]?=some (some (.val (.int k)))) (hl:ns.length<=63) (k0:0<=k) (k1:k<=100) (ed:zbe ρ=ρd)
  (h:u { nx:=fun ρ' _=>D.nx (zbe ρ') n,rt:=fun t _=>∃ b,t=.bool b/\D.rt t n,bk:=fun ρ' _=>D.bk (zbe ρ') n,ct:=fun ρ' _=>D.ct (zbe ρ') n } ((ρd.set j (some (.val (.int k)))).set i (some (.val HAND))) 0):zg6 i j u D ρ n:=by
 subst ed
 unfold zg6
 rw [e0,ej]
 exact ⟨⟨ns,rfl,hl⟩,k0,k1,h⟩
end L2
namespace L2
open PySem PySem.Spec PyProof.Rows
def rkAt (rk:Value->Int) (xs:Array Keyed) (i:Nat):Int:=((xs[i]?).map fun p=>rk p.1).getD 0
theorem zcC {rk:Value->Int}{xs ys:Array Keyed}{i j:Nat} (h:xs[i]?=ys[j]?):rkAt rk xs i=rkAt rk ys j:=by unfold rkAt;rw [h]
theorem zmN {rk:Value->Int}{xs:Array Keyed}{u d:Nat} (hu:u<xs.size) (hd:d<=u) (k:Nat) :
  (k=u - d->rkAt rk (bubble xs u d) k=rkAt rk xs u)/\(u - d<k->k<=u->rkAt rk (bubble xs u d) k=rkAt rk xs (k - 1))/\(k<u - d\/u<k->rkAt rk (bubble xs u d) k=rkAt rk xs k):=by
 have e:=getElem?_bubble hu d hd k
 refine ⟨fun h=>?_,fun h1 h2=>?_,fun h=>?_⟩
 ·rw [if_pos h] at e;exact zcC e
 ·rw [if_neg (by lia),if_pos ⟨h1,h2⟩] at e;exact zcC e
 ·rw [if_neg (by lia),if_neg (by lia)] at e;exact zcC e
theorem zgu {rk:Value->Int}{xs:Array Keyed}{i j:Nat} (hj:j<=xs.size) (k:Nat) :
  (i<=k->k<j->rkAt rk (mirror xs i j ((j - i) / 2)) k=rkAt rk xs (i+j - 1 - k))/\(k<i\/j<=k->rkAt rk (mirror xs i j ((j - i) / 2)) k=rkAt rk xs k):=by
 have e:=getElem?_mirror_all (i:=i) hj k
 refine ⟨fun h1 h2=>?_,fun h=>?_⟩
 ·rw [if_pos ⟨h1,h2⟩] at e;exact zcC e
 ·rw [if_neg (by lia)] at e;exact zcC e
structure Sb (kd:SortKind) (a0:Array Keyed) (z:SortSt):Prop where
 pm:(arrOf z).Perm a0
 kn:kindOf z=kd
 fl:failedOf z=none
 pe:pendingOf z=#[]
def Up (rk:Value->Int) (xs:Array Keyed) (m:Nat):Prop:=∀ i j,i<j->j<m->rkAt rk xs i<=rkAt rk xs j
section
variable {prog:Program}{w:World}{A:Around}{E:Value->Shared->Prop}{s:Shared}{kd:SortKind}{rk:Value->Int}{a0:Array Keyed}
def Cmp (prog:Program) (w:World) (A:Around) (s:Shared) (kd:SortKind) (rk:Value->Int) (a0:Array Keyed):Prop :=
 ∀ (p q:Keyed) (E:Value->Shared->Prop) (Q:Bool->Shared->Prop),p∈a0.toList->q∈a0.toList->Q (decide (rk p.1<rk q.1)) s->wpAny (model prog w) A (keyLt' kd p.1 q.1) Q E s
theorem Sb.sz {z:SortSt} (b:Sb kd a0 z):(arrOf z).size=a0.size:=b.pm.size_eq
end
end L2
namespace L2
open PySem PySem.Spec PyProof.Rows
section
variable {prog:Program}{w:World}{A:Around}{E:Value->Shared->Prop}{s:Shared}{kd:SortKind}{rk:Value->Int}{a0:Array Keyed}
theorem zbk {xs:Array Keyed}{i j:Nat} (hj:j<=xs.size) (al:∀ k,i<=k->k<j->rkAt rk xs k=rkAt rk xs (j - 1)) (k:Nat):rkAt rk (mirror xs i j ((j - i) / 2)) k=rkAt rk xs k:=by
 obtain ⟨p,q⟩:=zgu (rk:=rk) (i:=i) hj k
 by_cases g:i<=k/\k<j
 ·rw [p g.1 g.2,al _ (by omega) (by omega),al k g.1 g.2]
 ·exact q (by omega)
end
end L2
namespace L2
open PySem PySem.Spec PyProof.Rows
def zf9:Bool->Keyed->Array Keyed->Nat->Nat->Nat->StateT SortSt Sem (Option Nat):=sortPriv% PySem.Builtin.gallop
section
variable {prog:Program}{w:World}{A:Around}{E:Value->Shared->Prop}{s:Shared}{kd:SortKind}{rk:Value->Int}{a0:Array Keyed}
theorem zh5 {z:SortSt}{p q:Keyed}{Q:Option Bool->SortSt->Prop} (c:Cmp prog w A s kd rk a0) (k:kindOf z=kd) (hp:p∈a0.toList) (hq:q∈a0.toList)
  (h:Q (some (decide (rk p.1<rk q.1))) z):wpS (model prog w) A E s (lt' p q) Q z:=by
 rw [lt'_eq]
 refine wpS_bind (wpS_get (wpS_bind (wpS_lift (wpAny_attempt ?_))))
 rw [k]
 exact c p q _ _ hp hq ⟨rfl,wpS_pure h⟩
def bey (rk:Value->Int) (left:Bool) (key:Keyed) (arr:Array Keyed) (base i:Nat):Bool:=if left then decide (rkAt rk arr (base+i)<rk key.1) else !decide (rk key.1<rkAt rk arr (base+i))
theorem zbr {left:Bool}{key:Keyed}{arr:Array Keyed}{base n hint:Nat}{z:SortSt}{Q:Option Nat->SortSt->Prop} (c:Cmp prog w A s kd rk a0) (k:kindOf z=kd) (hk:key∈a0.toList)
  (ha:∀ i,i<n->∃ p,arr[base+i]?=some p/\p∈a0.toList) (hn:hint<n) (up:∀ i j,i<j->j<n->rkAt rk arr (base+i)<=rkAt rk arr (base+j))
  (h:∀ m,m<=n->(∀ i,i<m->bey rk left key arr base i=true)->(∀ i,m<=i->i<n->bey rk left key arr base i=false)->Q (some m) z):wpS (model prog w) A E s (zf9 left key arr base n hint) Q z:=by
 have e_:zf9=zf9:=rfl
 conv at e_=>rhs;whnf
 rw [e_]
 dsimp only
 clear e_
 have by_:∀ (i:Nat) (Q:Option Bool->SortSt->Prop),i<n->Q (some (bey rk left key arr base i)) z->wpS (model prog w) A E s (do
   let x <- elem' arr (base+i)
   if left then lt' x key else return (<- lt' key x).map (!·)) Q z:=by
  intro i Q hi hq
  obtain ⟨p,ep,mp⟩:=ha i hi
  have r:rkAt rk arr (base+i)=rk p.1:=by unfold rkAt;rw [ep];rfl
  simp only [elem'_eq,ep,pure_bind]
  unfold bey at hq
  rw [r] at hq
  cases left with
  | true=>exact zh5 c k mp hk (by simpa using hq)
  | false =>
   refine wpS_bind (zh5 c k hk mp ?_)
   exact wpS_pure (by simpa using hq)
 have mono:∀ i j,i<=j->j<n->bey rk left key arr base j=true->bey rk left key arr base i=true:=by
  intro i j hij hj hb
  rcases Nat.eq_or_lt_of_le hij with rfl | hlt
  ·exact hb
  ·have:=up i j hlt hj
   unfold bey at *
   cases left <;> simp at * <;> omega
 refine wpS_bind (by_ hint _ hn ?_)
 dsimp only
 cases hr:bey rk left key arr base hint with
 | true =>
  rw [if_pos rfl]
  refine wpS_bind (wpS_mono (wpS_forRange (I:=fun x c z'=>z'=z/\∃ l r,c=(none,l,r)/\l<r/\x<r/\hint+l<n/\bey rk left key arr base (hint+l)=true)
   (Q:=fun c z'=>z'=z/\∃ l r,c=(none,l,r)/\l<r/\hint+l<n/\bey rk left key arr base (hint+l)=true/\(n - hint<=r\/(hint+r<n/\bey rk left key arr base (hint+r)=false))) ?turn ?last ⟨rfl,0,1,rfl,by omega,by omega,by omega,hr⟩) ?post)
  case post =>
   rintro c z' ⟨rfl,l,r,rfl,h1,h2,h3,h4⟩
   dsimp only
   have b1:∀ i,i<hint+l+1->bey rk left key arr base i=true:=fun i hi=>mono i (hint+l) (by omega) h2 h3
   have b2:∀ i,hint+min r (n - hint)<=i->i<n->bey rk left key arr base i=false:=fun i hi hi'=>by
    rcases h4 with h4 | ⟨h4,h5⟩
    ·omega
    ·cases hb':bey rk left key arr base i with
     | false=>rfl
     | true=>rw [mono (hint+r) i (by omega) hi' hb'] at h5;cases h5
   refine wpS_bind (wpS_mono (wpS_forRange (I:=fun x c z''=>z''=z'/\∃ l r,c=(none,l,r)/\l<=r/\r<=n/\r - l<=n - x/\(∀ i,i<l->bey rk left key arr base i=true)/\(∀ i,r<=i->i<n->bey rk left key arr base i=false))
    (Q:=fun c z''=>z''=z'/\∃ r,c=(none,r,r)/\r<=n/\(∀ i,i<r->bey rk left key arr base i=true)/\(∀ i,r<=i->i<n->bey rk left key arr base i=false)) ?turn2 ?last2 ⟨rfl,hint+l+1,hint+min r (n - hint),rfl,by omega,by omega,by omega,b1,b2⟩) ?post2)
   case post2 =>
    rintro c z'' ⟨rfl,r,rfl,q1,q2,q3⟩
    exact wpS_pure (h r q1 q2 q3)
   case last2 =>
    rintro c z'' ⟨rfl,l,r,rfl,h1,h2,h3,h4,h5⟩
    have:l=r:=by omega
    subst this
    exact ⟨rfl,l,rfl,h2,h4,h5⟩
   case turn2 =>
    rintro x c z'' _ hx ⟨rfl,l,r,rfl,h1,h2,h3,h4,h5⟩
    dsimp only
    by_cases hge:l>=r
    ·rw [if_pos hge]
     have:l=r:=by omega
     subst this
     exact wpS_pure ⟨rfl,l,rfl,h2,h4,h5⟩
    ·rw [if_neg hge]
     refine wpS_bind (by_ _ _ (by omega) ?_)
     dsimp only
     cases hb:bey rk left key arr base (l+(r - l) / 2) with
     | true =>
      rw [if_pos rfl]
      exact wpS_pure ⟨rfl,_,_,rfl,by omega,h2,by omega,fun i hi=>mono i _ (by omega) (by omega) hb,h5⟩
     | false =>
      rw [if_neg (by simp)]
      refine wpS_pure ⟨rfl,_,_,rfl,by omega,by omega,by omega,h4,fun i hi hi'=>?_⟩
      cases hb':bey rk left key arr base i with
      | false=>rfl
      | true=>rw [mono _ i hi hi' hb'] at hb;cases hb
  case last =>
   rintro c z' ⟨rfl,l,r,rfl,h1,h2,h3,h4⟩
   exact ⟨rfl,l,r,rfl,h1,h3,h4,.inl (by omega)⟩
  case turn =>
   rintro x c z' _ hx ⟨rfl,l,r,rfl,h1,h2,h3,h4⟩
   dsimp only
   by_cases hge:r>=n - hint
   ·rw [if_pos hge]
    exact wpS_pure ⟨rfl,l,r,rfl,h1,h3,h4,.inl hge⟩
   ·rw [if_neg hge]
    refine wpS_bind (by_ _ _ (by omega) ?_)
    dsimp only
    cases hb:bey rk left key arr base (hint+r) with
    | true =>
     rw [if_neg (by simp)]
     exact wpS_pure ⟨rfl,r,_,rfl,by omega,by omega,by omega,hb⟩
    | false =>
     rw [if_pos (by simp)]
     exact wpS_pure ⟨rfl,l,r,rfl,h1,h3,h4,.inr ⟨by omega,hb⟩⟩
 | false =>
  rw [if_neg (by simp)]
  refine wpS_bind (wpS_mono (wpS_forRange (I:=fun x c z'=>z'=z/\∃ l r,c=(none,l,r)/\l<r/\x<r/\l<=hint/\bey rk left key arr base (hint - l)=false)
   (Q:=fun c z'=>z'=z/\∃ l r,c=(none,l,r)/\l<r/\l<=hint/\bey rk left key arr base (hint - l)=false/\(hint+1<=r\/(r<=hint/\bey rk left key arr base (hint - r)=true))) ?turn ?last ⟨rfl,0,1,rfl,by omega,by omega,by omega,hr⟩) ?post)
  case post =>
   rintro c z' ⟨rfl,l,r,rfl,h1,h2,h3,h4⟩
   dsimp only
   have b1:∀ i,i<hint+1 - min r (hint+1)->bey rk left key arr base i=true:=fun i hi=>by
    rcases h4 with h4 | ⟨h4,h5⟩
    ·omega
    ·exact mono i (hint - r) (by omega) (by omega) h5
   have b2:∀ i,hint - l<=i->i<n->bey rk left key arr base i=false:=fun i hi hi'=>by
    cases hb':bey rk left key arr base i with
    | false=>rfl
    | true=>rw [mono (hint - l) i (by omega) hi' hb'] at h3;cases h3
   refine wpS_bind (wpS_mono (wpS_forRange (I:=fun x c z''=>z''=z'/\∃ l r,c=(none,l,r)/\l<=r/\r<=n/\r - l<=n - x/\(∀ i,i<l->bey rk left key arr base i=true)/\(∀ i,r<=i->i<n->bey rk left key arr base i=false))
    (Q:=fun c z''=>z''=z'/\∃ r,c=(none,r,r)/\r<=n/\(∀ i,i<r->bey rk left key arr base i=true)/\(∀ i,r<=i->i<n->bey rk left key arr base i=false)) ?turn2 ?last2 ⟨rfl,hint+1 - min r (hint+1),hint - l,rfl,by omega,by omega,by omega,b1,b2⟩) ?post2)
   case post2 =>
    rintro c z'' ⟨rfl,r,rfl,q1,q2,q3⟩
    exact wpS_pure (h r q1 q2 q3)
   case last2 =>
    rintro c z'' ⟨rfl,l,r,rfl,h1,h2,h3,h4,h5⟩
    have:l=r:=by omega
    subst this
    exact ⟨rfl,l,rfl,h2,h4,h5⟩
   case turn2 =>
    rintro x c z'' _ hx ⟨rfl,l,r,rfl,h1,h2,h3,h4,h5⟩
    dsimp only
    by_cases hge:l>=r
    ·rw [if_pos hge]
     have:l=r:=by omega
     subst this
     exact wpS_pure ⟨rfl,l,rfl,h2,h4,h5⟩
    ·rw [if_neg hge]
     refine wpS_bind (by_ _ _ (by omega) ?_)
     dsimp only
     cases hb:bey rk left key arr base (l+(r - l) / 2) with
     | true =>
      rw [if_pos rfl]
      exact wpS_pure ⟨rfl,_,_,rfl,by omega,h2,by omega,fun i hi=>mono i _ (by omega) (by omega) hb,h5⟩
     | false =>
      rw [if_neg (by simp)]
      refine wpS_pure ⟨rfl,_,_,rfl,by omega,by omega,by omega,h4,fun i hi hi'=>?_⟩
      cases hb':bey rk left key arr base i with
      | false=>rfl
      | true=>rw [mono _ i hi hi' hb'] at hb;cases hb
  case last =>
   rintro c z' ⟨rfl,l,r,rfl,h1,h2,h3,h4⟩
   exact ⟨rfl,l,r,rfl,h1,h3,h4,.inl (by omega)⟩
  case turn =>
   rintro x c z' _ hx ⟨rfl,l,r,rfl,h1,h2,h3,h4⟩
   dsimp only
   by_cases hge:r>=hint+1
   ·rw [if_pos hge]
    exact wpS_pure ⟨rfl,l,r,rfl,h1,h3,h4,.inl hge⟩
   ·rw [if_neg hge]
    refine wpS_bind (by_ _ _ (by omega) ?_)
    dsimp only
    cases hb:bey rk left key arr base (hint - r) with
    | true =>
     rw [if_pos rfl]
     exact wpS_pure ⟨rfl,l,r,rfl,h1,h3,h4,.inr ⟨by omega,hb⟩⟩
    | false =>
     rw [if_neg (by simp)]
     exact wpS_pure ⟨rfl,r,_,rfl,by omega,by omega,by omega,hb⟩
end
end L2
namespace L2
section
variable {α:Type}{r:α->Int}{a b out:List α}{ia ib na nb k:Nat}
theorem m1 {x:α}{l m:List α} (h:x∈l):x∈l++m:=List.mem_append.mpr (.inl h)
theorem m2 {x:α}{l m:List α} (h:x∈m):x∈l++m:=List.mem_append.mpr (.inr h)
def Ris (r:α->Int) (l:List α):Prop:=l.Pairwise fun x y=>r x<=r y
structure MLo (r:α->Int) (a b out:List α) (ia ib:Nat):Prop where
 pm:(out++(a.drop ia++b.drop ib)).Perm (a++b)
 so:Ris r out
 le:∀ x∈out,∀ y∈a.drop ia++b.drop ib,r x<=r y
theorem zay {l m:List α}:Ris r (l++m)↔Ris r l/\Ris r m/\∀ x∈l,∀ y∈m,r x<=r y:=List.pairwise_append
theorem Ris.drop {l:List α} (h:Ris r l) (k:Nat):Ris r (l.drop k):=List.Pairwise.sublist (List.drop_sublist k l) h
theorem Ris.take {l:List α} (h:Ris r l) (k:Nat):Ris r (l.take k):=List.Pairwise.sublist (List.take_sublist k l) h
theorem cut2 (l:List α) (i k:Nat):l.drop i=(l.drop i).take k++l.drop (i+k):=by rw [<- List.drop_drop];exact (List.take_append_drop k _).symm
theorem MLo.takeB (h:MLo r a b out ia ib) (hb:Ris r b) (c:∀ y∈(b.drop ib).take k,∀ x∈a.drop ia,r y<=r x):MLo r a b (out++(b.drop ib).take k) ia (ib+k):=by
 have e:=cut2 b ib k
 obtain ⟨h1,h2,h3⟩:=h
 have hs:=hb.drop ib
 rw [e] at h1 h3 hs
 have hs:=zay.mp hs
 refine ⟨?_,zay.mpr ⟨h2,hs.1,fun x hx y hy=>h3 x hx y (m2 (m1 hy))⟩,fun x hx y hy=>?_⟩
 ·refine List.Perm.trans ?_ h1
  rw [List.append_assoc]
  exact List.Perm.append_left _ (List.perm_append_comm_assoc _ _ _)
 ·rcases List.mem_append.mp hx with z | z
  ·refine h3 x z y ?_
   rcases List.mem_append.mp hy with w | w
   ·exact m1 w
   ·exact m2 (m2 w)
  ·rcases List.mem_append.mp hy with w | w
   ·exact c x z y w
   ·exact hs.2.2 x z y w
theorem MLo.takeA (h:MLo r a b out ia ib) (ha:Ris r a) (c:∀ x∈(a.drop ia).take k,∀ y∈b.drop ib,r x<=r y):MLo r a b (out++(a.drop ia).take k) (ia+k) ib:=by
 have e:=cut2 a ia k
 obtain ⟨h1,h2,h3⟩:=h
 have hs:=ha.drop ia
 rw [e] at h1 h3 hs
 have hs:=zay.mp hs
 refine ⟨?_,zay.mpr ⟨h2,hs.1,fun x hx y hy=>h3 x hx y (m1 (m1 hy))⟩,fun x hx y hy=>?_⟩
 ·refine List.Perm.trans ?_ h1
  simp only [List.append_assoc]
  exact List.Perm.refl _
 ·rcases List.mem_append.mp hx with z | z
  ·refine h3 x z y ?_
   rcases List.mem_append.mp hy with w | w
   ·exact m1 (m2 w)
   ·exact m2 w
  ·rcases List.mem_append.mp hy with w | w
   ·exact hs.2.2 x z y w
   ·exact c x z y w
theorem take1 {l:List α}{i:Nat}{y:α} (h:l[i]?=some y):(l.drop i).take 1=[y]:=by
 have hi:=(List.getElem?_eq_some_iff.mp h).1
 rw [List.drop_eq_getElem_cons hi]
 have:=(List.getElem?_eq_some_iff.mp h).2
 simp [this]
theorem MLo.pushB {y:α} (h:MLo r a b out ia ib) (hb:Ris r b) (e:b[ib]?=some y) (c:∀ x∈a.drop ia,r y<=r x):MLo r a b (out++[y]) ia (ib+1):=by
 have:=h.takeB (k:=1) hb (by rw [take1 e];intro z hz x hx;cases List.mem_singleton.mp hz;exact c x hx)
 rwa [take1 e] at this
theorem MLo.pushA {x:α} (h:MLo r a b out ia ib) (ha:Ris r a) (e:a[ia]?=some x) (c:∀ y∈b.drop ib,r x<=r y):MLo r a b (out++[x]) (ia+1) ib:=by
 have:=h.takeA (k:=1) ha (by rw [take1 e];intro z hz y hy;cases List.mem_singleton.mp hz;exact c y hy)
 rwa [take1 e] at this
theorem MLo.done (h:MLo r a b out ia ib) (ha:Ris r a) (hb:Ris r b) (c:∀ x∈a.drop ia,∀ y∈b.drop ib,r x<=r y):(out++a.drop ia++b.drop ib).Perm (a++b)/\Ris r (out++a.drop ia++b.drop ib):=by
 refine ⟨by rw [List.append_assoc];exact h.pm,?_⟩
 rw [List.append_assoc]
 exact zay.mpr ⟨h.so,zay.mpr ⟨ha.drop _,hb.drop _,c⟩,h.le⟩
theorem MLo.last (h:MLo r a b out ia ib) (ha:Ris r a) (hb:Ris r b) (c:∀ y∈b.drop ib,∀ x∈a.drop ia,r y<=r x):(out++b.drop ib++a.drop ia).Perm (a++b)/\Ris r (out++b.drop ib++a.drop ia):=by
 refine ⟨?_,?_⟩
 ·rw [List.append_assoc]
  exact (List.Perm.append_left _ List.perm_append_comm).trans h.pm
 ·rw [List.append_assoc]
  refine zay.mpr ⟨h.so,zay.mpr ⟨hb.drop _,ha.drop _,c⟩,fun x hx y hy=>h.le x hx y ?_⟩
  rcases List.mem_append.mp hy with w | w
  ·exact m2 w
  ·exact m1 w
structure MHi (r:α->Int) (a b out:List α) (na nb:Nat):Prop where
 pm:((a.take na++b.take nb)++out).Perm (a++b)
 so:Ris r out
 le:∀ x∈a.take na++b.take nb,∀ y∈out,r x<=r y
theorem cut3 (l:List α) {n k:Nat} (h:k<=n):l.take n=l.take k++(l.take n).drop k:=by
 have:=List.take_append_drop k (l.take n)
 rw [List.take_take,Nat.min_eq_left h] at this
 exact this.symm
theorem MHi.takeB (h:MHi r a b out na nb) (hb:Ris r b) (hk:k<=nb) (c:∀ x∈a.take na,∀ y∈(b.take nb).drop k,r x<=r y):MHi r a b ((b.take nb).drop k++out) na k:=by
 have e:=cut3 b hk
 obtain ⟨h1,h2,h3⟩:=h
 have hs:=hb.take nb
 rw [e] at h1 h3 hs
 have hs:=zay.mp hs
 refine ⟨?_,zay.mpr ⟨hs.2.1,h2,fun x hx y hy=>h3 x (m2 (m2 hx)) y hy⟩,fun x hx y hy=>?_⟩
 ·refine List.Perm.trans ?_ h1
  simp only [List.append_assoc]
  exact List.Perm.refl _
 ·rcases List.mem_append.mp hy with z | z
  ·rcases List.mem_append.mp hx with w | w
   ·exact c x w y z
   ·exact hs.2.2 x w y z
  ·refine h3 x ?_ y z
   rcases List.mem_append.mp hx with w | w
   ·exact m1 w
   ·exact m2 (m1 w)
theorem MHi.takeA (h:MHi r a b out na nb) (ha:Ris r a) (hk:k<=na) (c:∀ x∈b.take nb,∀ y∈(a.take na).drop k,r x<=r y):MHi r a b ((a.take na).drop k++out) k nb:=by
 have e:=cut3 a hk
 obtain ⟨h1,h2,h3⟩:=h
 have hs:=ha.take na
 rw [e] at h1 h3 hs
 have hs:=zay.mp hs
 refine ⟨?_,zay.mpr ⟨hs.2.1,h2,fun x hx y hy=>h3 x (m1 (m2 hx)) y hy⟩,fun x hx y hy=>?_⟩
 ·refine List.Perm.trans ?_ h1
  simp only [List.append_assoc]
  exact List.Perm.append_left _ (List.perm_append_comm_assoc _ _ _)
 ·rcases List.mem_append.mp hy with z | z
  ·rcases List.mem_append.mp hx with w | w
   ·exact hs.2.2 x w y z
   ·exact c x w y z
  ·refine h3 x ?_ y z
   rcases List.mem_append.mp hx with w | w
   ·exact m1 (m1 w)
   ·exact m2 w
theorem ze5 {l:List α}{n:Nat}{y:α} (h:l[n]?=some y):(l.take (n+1)).drop n=[y]:=by
 have hi:=(List.getElem?_eq_some_iff.mp h).1
 have e:(l.take (n+1))=l.take n++[y]:=by rw [List.take_succ,h];rfl
 rw [e,List.drop_append_of_le_length (by simp;omega),List.drop_of_length_le (by simp;omega)]
 rfl
theorem MHi.pushB {y:α} (h:MHi r a b out na (nb+1)) (hb:Ris r b) (e:b[nb]?=some y) (c:∀ x∈a.take na,r x<=r y):MHi r a b (y::out) na nb:=by
 have:=h.takeB (k:=nb) hb (by omega) (by rw [ze5 e];intro x hx z hz;cases List.mem_singleton.mp hz;exact c x hx)
 rwa [ze5 e] at this
theorem MHi.pushA {x:α} (h:MHi r a b out (na+1) nb) (ha:Ris r a) (e:a[na]?=some x) (c:∀ y∈b.take nb,r y<=r x):MHi r a b (x::out) na nb:=by
 have:=h.takeA (k:=na) ha (by omega) (by rw [ze5 e];intro y hy z hz;cases List.mem_singleton.mp hz;exact c y hy)
 rwa [ze5 e] at this
theorem MHi.done (h:MHi r a b out na nb) (ha:Ris r a) (hb:Ris r b) (c:∀ x∈a.take na,∀ y∈b.take nb,r x<=r y):(a.take na++b.take nb++out).Perm (a++b)/\Ris r (a.take na++b.take nb++out) :=
 ⟨h.pm,zay.mpr ⟨zay.mpr ⟨ha.take _,hb.take _,c⟩,h.so,h.le⟩⟩
theorem MHi.first (h:MHi r a b out na nb) (ha:Ris r a) (hb:Ris r b) (c:∀ y∈b.take nb,∀ x∈a.take na,r y<=r x):(b.take nb++a.take na++out).Perm (a++b)/\Ris r (b.take nb++a.take na++out):=by
 refine ⟨(List.Perm.append_right _ List.perm_append_comm).trans h.pm,zay.mpr ⟨zay.mpr ⟨hb.take _,ha.take _,c⟩,h.so,fun x hx y hy=>h.le x ?_ y hy⟩⟩
 rcases List.mem_append.mp hx with w | w
 ·exact m2 w
 ·exact m1 w
end
section
open PySem PySem.Spec PyProof.Rows
theorem ex4 {α0:Type}{α1:Type}{α2:Type}{α3:Type}{A R:Prop}{X:α0->α1->α2->α3->Prop} (h:A/\∃ x0 x1 x2 x3,X x0 x1 x2 x3) (k:A->∀ x0 x1 x2 x3,X x0 x1 x2 x3->R):R:=by
 obtain ⟨a,x0,x1,x2,x3,x⟩:=h
 exact k a x0 x1 x2 x3 x
theorem ex5 {α0:Type}{α1:Type}{α2:Type}{α3:Type}{α4:Type}{A R:Prop}{X:α0->α1->α2->α3->α4->Prop} (h:A/\∃ x0 x1 x2 x3 x4,X x0 x1 x2 x3 x4) (k:A->∀ x0 x1 x2 x3 x4,X x0 x1 x2 x3 x4->R):R:=by
 obtain ⟨a,x0,x1,x2,x3,x4,x⟩:=h
 exact k a x0 x1 x2 x3 x4 x
theorem eo5 {α0:Type}{α1:Type}{α2:Type}{α3:Type}{α4:Type}{β γ:Type}{A R:Prop}{X:α0->α1->α2->α3->α4->Prop}{Y:β->γ->Prop} (h:A/\((∃ x0 x1 x2 x3 x4,X x0 x1 x2 x3 x4)\/∃ m r,Y m r)) (k:A->∀ x0 x1 x2 x3 x4,X x0 x1 x2 x3 x4->R) (k2:A->∀ m r,Y m r->R):R:=by
 obtain ⟨a,⟨x0,x1,x2,x3,x4,x⟩ | ⟨m,r,y⟩⟩:=h
 ·exact k a x0 x1 x2 x3 x4 x
 ·exact k2 a m r y
theorem ex6 {α0:Type}{α1:Type}{α2:Type}{α3:Type}{α4:Type}{α5:Type}{A R:Prop}{X:α0->α1->α2->α3->α4->α5->Prop} (h:A/\∃ x0 x1 x2 x3 x4 x5,X x0 x1 x2 x3 x4 x5) (k:A->∀ x0 x1 x2 x3 x4 x5,X x0 x1 x2 x3 x4 x5->R):R:=by
 obtain ⟨a,x0,x1,x2,x3,x4,x5,x⟩:=h
 exact k a x0 x1 x2 x3 x4 x5 x
theorem eo6 {α0:Type}{α1:Type}{α2:Type}{α3:Type}{α4:Type}{α5:Type}{β γ:Type}{A R:Prop}{X:α0->α1->α2->α3->α4->α5->Prop}{Y:β->γ->Prop} (h:A/\((∃ x0 x1 x2 x3 x4 x5,X x0 x1 x2 x3 x4 x5)\/∃ m r,Y m r)) (k:A->∀ x0 x1 x2 x3 x4 x5,X x0 x1 x2 x3 x4 x5->R) (k2:A->∀ m r,Y m r->R):R:=by
 obtain ⟨a,⟨x0,x1,x2,x3,x4,x5,x⟩ | ⟨m,r,y⟩⟩:=h
 ·exact k a x0 x1 x2 x3 x4 x5 x
 ·exact k2 a m r y
theorem zau {M:Model}{A:Around}{E:Value->Shared->Prop}{s:Shared}{σ α:Type}{c:Prop}{_:Decidable c}{t e:StateT σ Sem α}{Q:α->σ->Prop}{z:σ} (h1:c->wpS M A E s t Q z) (h2:¬c->wpS M A E s e Q z):wpS M A E s (if c then t else e) Q z:=by
 by_cases h:c
 ·rw [if_pos h];exact h1 h
 ·rw [if_neg h];exact h2 h
theorem zkg {M:Model}{A:Around}{E:Value->Shared->Prop}{s:Shared}{σ α β:Type}{c:β->Prop}{_:∀ o,Decidable (c o)}{t F:β->StateT σ Sem α}{Q:α->σ->Prop}{z:σ} (o1:β) (P:β->Prop)
  (hF:∀ o,P o->wpS M A E s (F o) Q z) (h1:c o1->(∀ o,P o->wpS M A E s (F o) Q z)->wpS M A E s (t o1) Q z) (h2:¬c o1->P o1):∀ o,o1=o->wpS M A E s (if c o then t o else F o) Q z:=by
 rintro o rfl
 exact zau (fun h=>h1 h hF) (fun h=>hF _ (h2 h))
theorem zgi {M:Model}{A:Around}{E:Value->Shared->Prop}{s:Shared}{σ α β γ:Type}{c:β->γ->Prop}{_:∀ o i,Decidable (c o i)}{t F:β->γ->StateT σ Sem α}{Q:α->σ->Prop}{z:σ} (o1:β) (i1:γ) (P:β->γ->Prop)
  (hF:∀ o i,P o i->wpS M A E s (F o i) Q z) (h1:c o1 i1->(∀ o i,P o i->wpS M A E s (F o i) Q z)->wpS M A E s (t o1 i1) Q z) (h2:¬c o1 i1->P o1 i1):∀ o,o1=o->∀ i,i1=i->wpS M A E s (if c o i then t o i else F o i) Q z:=by
 rintro o rfl i rfl
 exact zau (fun h=>h1 h hF) (fun h=>hF _ _ (h2 h))
end
end L2
namespace L2
open PySem PySem.Spec PyProof.Rows
def zef:Array Keyed->Array Keyed->StateT SortSt Sem (Array Keyed):=sortPriv% PySem.Builtin.mergeLo
def zbx:Nat->StateT SortSt Sem Unit:=sortPriv% PySem.Builtin.setMinGallop
section
variable {prog:Program}{w:World}{A:Around}{E:Value->Shared->Prop}{s:Shared}{kd:SortKind}{rk:Value->Int}{a0:Array Keyed}
structure SmS (z z':SortSt):Prop where
 kn:kindOf z'=kindOf z
 ar:arrOf z'=arrOf z
 pe:pendingOf z'=pendingOf z
 fl:failedOf z'=failedOf z
theorem SmS.refl (z:SortSt):SmS z z:=⟨rfl,rfl,rfl,rfl⟩
theorem SmS.trans {x y z:SortSt} (h:SmS x y) (k:SmS y z):SmS x z:=⟨k.kn.trans h.kn,k.ar.trans h.ar,k.pe.trans h.pe,k.fl.trans h.fl⟩
theorem zcg {g:Nat}{z:SortSt}{Q:Unit->SortSt->Prop} (h:∀ z',SmS z z'->Q () z'):wpS (model prog w) A E s (zbx g) Q z:=by
 have e_:zbx=zbx:=rfl
 conv at e_=>rhs;whnf
 rw [e_]
 dsimp only
 clear e_
 exact wpS_modify (h _ ⟨rfl,rfl,rfl,rfl⟩)
theorem zaB {x:Array Keyed}{i:Nat}{p:Keyed}{z:SortSt}{Q:Keyed->SortSt->Prop} (e:x[i]?=some p) (h:Q p z):wpS (model prog w) A E s (elem' x i) Q z:=by
 rw [elem'_eq,e]
 exact wpS_pure h
abbrev rkP (rk:Value->Int) (p:Keyed):Int:=rk p.1
theorem zc4 {x:Array Keyed}{i:Nat}:(x.extract i x.size).toList=x.toList.drop i:=by
 rw [Array.toList_extract]
 exact List.take_of_length_le (by simp)
theorem zc3 {x:Array Keyed}{i k:Nat}:(x.extract i (i+k)).toList=(x.toList.drop i).take k:=by simp
theorem zh4 {l:List Keyed}{i k:Nat}{x:Keyed} (h:x∈(l.drop i).take k):∃ j,j<k/\l[i+j]?=some x:=by
 obtain ⟨j,hj,e⟩:=List.mem_take_iff_getElem.mp h
 refine ⟨j,by omega,?_⟩
 have:=List.getElem?_eq_getElem (l:=l.drop i) (i:=j) (by omega)
 rw [List.getElem?_drop,e] at this
 exact this
theorem zf1 {l:List Keyed}{i:Nat}{x:Keyed} (h:x∈l.drop i):∃ j,i+j<l.length/\l[i+j]?=some x:=by
 obtain ⟨j,hj,e⟩:=List.getElem_of_mem h
 have:=List.getElem?_eq_getElem hj
 rw [List.getElem?_drop,e] at this
 exact ⟨j,by simp at hj;omega,this⟩
theorem zas {x:Array Keyed}{i:Nat}{p:Keyed} (h:x.toList[i]?=some p):rkAt rk x i=rkP rk p:=by
 unfold rkAt
 rw [Array.getElem?_toList] at h
 rw [h];rfl
theorem zi9 {x:Array Keyed} (h:Ris (rkP rk) x.toList) {i j:Nat} (hij:i<j) (hj:j<x.size):rkAt rk x i<=rkAt rk x j:=by
 have hi:i<x.toList.length:=by simp;omega
 have hj':j<x.toList.length:=by simpa using hj
 rw [zas (List.getElem?_eq_getElem hi),zas (List.getElem?_eq_getElem hj')]
 exact List.pairwise_iff_getElem.mp h i j hi hj' hij
theorem zhd {a b:Array Keyed}{z:SortSt}{Q:Array Keyed->SortSt->Prop} (c0:Cmp prog w A s kd rk a0) (k:kindOf z=kd) (ha:∀ p∈a.toList,p∈a0.toList) (hb:∀ p∈b.toList,p∈a0.toList)
  (sa:Ris (rkP rk) a.toList) (sb:Ris (rkP rk) b.toList) (na:0<a.size) (nb:0<b.size) (f1:∀ y,b.toList[0]?=some y->∀ x∈a.toList,rkP rk y<=rkP rk x)
  (f2:∀ x,a.toList[a.size - 1]?=some x->∀ y∈b.toList,rkP rk y<=rkP rk x)
  (h:∀ m z',m.toList.Perm (a.toList++b.toList)->Ris (rkP rk) m.toList->SmS z z'->Q m z'):wpS (model prog w) A E s (zef a b) Q z:=by
 have e_:zef=zef:=rfl
 conv at e_=>rhs;whnf
 rw [e_]
 clear e_
 have gb:∀ i,i<b.size->∃ p,b[i]?=some p/\b.toList[i]?=some p/\p∈a0.toList:=fun i hi=>⟨b[i],Array.getElem?_eq_getElem hi,by simp [hi],hb _ (by simp)⟩
 have ga:∀ i,i<a.size->∃ p,a[i]?=some p/\a.toList[i]?=some p/\p∈a0.toList:=fun i hi=>⟨a[i],Array.getElem?_eq_getElem hi,by simp [hi],ha _ (by simp)⟩
 have gaA:∀ u i,i<a.size - u->∃ p,a[u+i]?=some p/\p∈a0.toList:=fun u i hi=>by
  obtain ⟨p,e,_,m⟩:=ga (u+i) (by omega)
  exact ⟨p,e,m⟩
 have gbA:∀ u i,i<b.size - u->∃ p,b[u+i]?=some p/\p∈a0.toList:=fun u i hi=>by
  obtain ⟨p,e,_,m⟩:=gb (u+i) (by omega)
  exact ⟨p,e,m⟩
 have upA:∀ u i j,i<j->j<a.size - u->rkAt rk a (u+i)<=rkAt rk a (u+j):=fun u i j hij hj=>zi9 sa (by omega) (by omega)
 have upB:∀ u i j,i<j->j<b.size - u->rkAt rk b (u+i)<=rkAt rk b (u+j):=fun u i j hij hj=>zi9 sb (by omega) (by omega)
 have dropB:∀ i p,b.toList[i]?=some p->∀ y∈b.toList.drop i,rkP rk p<=rkP rk y:=fun i p lp y hy=>by
  have e:=cut2 b.toList i 1
  rw [take1 lp] at e
  have:=sb.drop i
  rw [e] at this hy
  rcases List.mem_append.mp hy with z | z
  ·cases List.mem_singleton.mp z;exact Int.le_refl _
  ·exact (zay.mp this).2.2 p (by simp) y z
 have dropA:∀ i p,a.toList[i]?=some p->∀ y∈a.toList.drop i,rkP rk p<=rkP rk y:=fun i p lp y hy=>by
  have e:=cut2 a.toList i 1
  rw [take1 lp] at e
  have:=sa.drop i
  rw [e] at this hy
  rcases List.mem_append.mp hy with z | z
  ·cases List.mem_singleton.mp z;exact Int.le_refl _
  ·exact (zay.mp this).2.2 p (by simp) y z
 obtain ⟨b0,eb0,lb0,mb0⟩:=gb 0 nb
 have M0:MLo (rkP rk) a.toList b.toList [b0] 0 1:=by
  have:MLo (rkP rk) a.toList b.toList [] 0 0:=⟨by simp,List.Pairwise.nil,fun x hx=>nomatch hx⟩
  have:=this.pushB sb lb0 (by simpa using f1 b0 lb0)
  simpa using this
 refine wpS_bind (wpS_lift (wpAny_rule ⟨rfl,?_⟩))
 refine wpS_bind (zaB eb0 ?_)
 have fin1:∀ (out:Array Keyed) (ia ib:Nat) (z':SortSt),SmS z z'->MLo (rkP rk) a.toList b.toList out.toList ia ib->(ia=a.size\/ib=b.size)->(out++a.extract ia a.size++b.extract ib b.size).toList.Perm (a.toList++b.toList)/\Ris (rkP rk) (out++a.extract ia a.size++b.extract ib b.size).toList:=fun out ia ib z' S M e=>by
  rw [Array.toList_append,Array.toList_append,zc4,zc4]
  refine M.done sa sb fun x hx y hy=>?_
  rcases e with rfl | rfl
  ·rw [List.drop_of_length_le (by simp)] at hx;cases hx
  ·rw [List.drop_of_length_le (by simp)] at hy;cases hy
 have fin2:∀ (out:Array Keyed) (ia ib:Nat) (z':SortSt),SmS z z'->MLo (rkP rk) a.toList b.toList out.toList ia ib->ia+1=a.size->(out++b.extract ib b.size++a.extract ia a.size).toList.Perm (a.toList++b.toList)/\Ris (rkP rk) (out++b.extract ib b.size++a.extract ia a.size).toList:=fun out ia ib z' S M e=>by
  rw [Array.toList_append,Array.toList_append,zc4,zc4]
  refine M.last sa sb fun y hy x hx=>?_
  obtain ⟨p,ep,lp,mp⟩:=ga ia (by omega)
  have:x=p:=by
   have e1:=take1 lp
   rw [List.take_of_length_le (by simp;omega)] at e1
   rw [e1] at hx
   exact List.mem_singleton.mp hx
  subst this
  exact f2 x (by rw [show a.size - 1=ia by omega];exact lp) y (List.mem_of_mem_drop hy)
 refine zau (fun h1=>?_) (fun h1=>?_)
 ·have:=fin1 #[b0] 0 1 z (.refl z) (by simpa using M0) (.inr (by simpa using h1))
  exact wpS_pure (h _ z this.1 this.2 (.refl z))
 refine zau (fun h2=>?_) (fun h2=>?_)
 ·have:=fin2 #[b0] 0 1 z (.refl z) (by simpa using M0) (by simpa using h2)
  exact wpS_pure (h _ z this.1 this.2 (.refl z))
 have h1:b.size≠1:=fun e=>h1 (by simp [e])
 have h2:a.size≠1:=fun e=>h2 (by simp [e])
 refine wpS_bind (wpS_get ?_)
 refine wpS_bind (wpS_mono (wpS_forRange (I:=fun X c z'=>SmS z z'/\∃ out ia ib mg,c=(none,out,ia,ib,mg)/\MLo (rkP rk) a.toList b.toList (Array.toList out) ia ib/\ia+1<a.size/\ib<b.size/\X+1<=ia+ib)
  (Q:=fun c z'=>SmS z z'/\∃ m rest,c=(some m,rest)/\(Array.toList m).Perm (a.toList++b.toList)/\Ris (rkP rk) (Array.toList m)) ?turn ?last ⟨.refl z,#[b0],0,1,_,rfl,by simpa using M0,by omega,by omega,by omega⟩) ?post)
 case post =>
  rintro c z' ⟨S,m,rest,rfl,q1,q2⟩
  exact wpS_pure (h m z' q1 q2 S)
 case last =>
  intro c z' hI
  refine ex4 hI fun S out ia ib mg q=>?_
  obtain rfl:=q.1
  have M:=q.2.1
  have l1:=q.2.2.1
  have l2:=q.2.2.2.1
  have l3:=q.2.2.2.2
  omega
 case turn =>
  intro X c z' _ hX hI
  refine ex4 hI fun S out ia ib mg q=>?_
  obtain rfl:=q.1
  have M:=q.2.1
  have l1:=q.2.2.1
  have l2:=q.2.2.2.1
  have l3:=q.2.2.2.2
  have kz:kindOf z'=kd:=S.kn.trans k
  refine wpS_bind (wpS_mono (wpS_forRange (I:=fun x c z''=>SmS z z''/\∃ out ia ib ac bc,c=(none,out,ia,ib,ac,bc)/\MLo (rkP rk) a.toList b.toList (Array.toList out) ia ib/\ia+1<a.size/\ib<b.size/\X+1+x<=ia+ib)
   (Q:=fun c z''=>SmS z z''/\((∃ out ia ib ac bc,c=(none,out,ia,ib,ac,bc)/\MLo (rkP rk) a.toList b.toList (Array.toList out) ia ib/\ia+1<a.size/\ib<b.size/\X+2<=ia+ib)\/∃ m rest,c=(some m,rest)/\(Array.toList m).Perm (a.toList++b.toList)/\Ris (rkP rk) (Array.toList m))) ?turn1 ?ze5 ⟨S,out,ia,ib,0,0,rfl,M,l1,l2,by omega⟩) ?post1)
  case ze5 =>
   intro c z'' hI
   refine ex5 hI fun S out ia ib ac bc q=>?_
   obtain rfl:=q.1
   have M:=q.2.1
   have l1:=q.2.2.1
   have l2:=q.2.2.2.1
   have l3:=q.2.2.2.2
   exact ⟨S,.inl ⟨out,ia,ib,ac,bc,rfl,M,l1,l2,by omega⟩⟩
  case turn1 =>
   intro x c z'' _ hx hI
   refine ex5 hI fun S out ia ib ac bc q=>?_
   obtain rfl:=q.1
   have M:=q.2.1
   have l1:=q.2.2.1
   have l2:=q.2.2.2.1
   have l3:=q.2.2.2.2
   have kz:kindOf z''=kd:=S.kn.trans k
   dsimp only
   obtain ⟨p,ep,lp,mp⟩:=gb ib l2
   obtain ⟨q,eq,lq,mq⟩:=ga ia (by omega)
   have dB:∀ y∈b.toList.drop ib,rkP rk p<=rkP rk y:=fun y hy=>by
    have e:=cut2 b.toList ib 1
    rw [take1 lp] at e
    have:=sb.drop ib
    rw [e] at this hy
    rcases List.mem_append.mp hy with z | z
    ·cases List.mem_singleton.mp z;exact Int.le_refl _
    ·exact (zay.mp this).2.2 p (by simp) y z
   have dA:∀ y∈a.toList.drop ia,rkP rk q<=rkP rk y:=fun y hy=>by
    have e:=cut2 a.toList ia 1
    rw [take1 lq] at e
    have:=sa.drop ia
    rw [e] at this hy
    rcases List.mem_append.mp hy with z | z
    ·cases List.mem_singleton.mp z;exact Int.le_refl _
    ·exact (zay.mp this).2.2 q (by simp) y z
   refine wpS_bind (zaB ep (wpS_bind (zaB eq (wpS_bind (zh5 c0 kz mp mq ?_)))))
   dsimp only
   cases hlt:decide (rk p.1<rk q.1) with
   | true =>
    rw [if_pos rfl]
    have hlt:=of_decide_eq_true hlt
    have M':=M.pushB sb lp fun x hx=>Int.le_trans (Int.le_of_lt hlt) (dA x hx)
    refine wpS_bind (zaB ep ?_)
    refine zau (fun e1=>?_) (fun e1=>?_)
    ·have:=fin1 (out.push p) ia (ib+1) z'' S (by simpa using M') (.inr (by simpa using e1))
     exact wpS_pure ⟨S,.inr ⟨_,_,rfl,this.1,this.2⟩⟩
    ·have e1:ib+1≠b.size:=fun e=>e1 (by simp [e])
     refine zau (fun e2=>?_) (fun e2=>?_)
     ·exact wpS_pure ⟨S,.inl ⟨_,_,_,_,_,rfl,by simpa using M',l1,by omega,by omega⟩⟩
     ·exact wpS_pure ⟨S,_,_,_,_,_,rfl,by simpa using M',l1,by omega,by omega⟩
   | false =>
    rw [if_neg (by simp)]
    have hlt:=of_decide_eq_false hlt
    have M':=M.pushA sa lq fun y hy=>Int.le_trans (Int.not_lt.mp hlt) (dB y hy)
    refine wpS_bind (zaB eq ?_)
    refine zau (fun e1=>?_) (fun e1=>?_)
    ·have:=fin2 (out.push q) (ia+1) ib z'' S (by simpa using M') (by simpa using e1)
     exact wpS_pure ⟨S,.inr ⟨_,_,rfl,this.1,this.2⟩⟩
    ·have e1:ia+1+1≠a.size:=fun e=>e1 (by simp [e])
     refine zau (fun e2=>?_) (fun e2=>?_)
     ·exact wpS_pure ⟨S,.inl ⟨_,_,_,_,_,rfl,by simpa using M',by omega,l2,by omega⟩⟩
     ·exact wpS_pure ⟨S,_,_,_,_,_,rfl,by simpa using M',by omega,l2,by omega⟩
  case post1 =>
   intro c z'' hI
   refine eo5 hI (fun S out ia ib ac bc q=>?_) (fun S m rest q=>?_)
   ·obtain rfl:=q.1
    have M:=q.2.1
    have l1:=q.2.2.1
    have l2:=q.2.2.2.1
    have l3:=q.2.2.2.2
    refine wpS_bind (wpS_lift (wpAny_rule ⟨rfl,?_⟩))
    refine wpS_bind (wpS_mono (wpS_forRange (I:=fun x c z''=>SmS z z''/\∃ out ia ib mg ac bc,c=(none,out,ia,ib,mg,ac,bc)/\MLo (rkP rk) a.toList b.toList (Array.toList out) ia ib/\ia+1<a.size/\ib<b.size/\X+2<=ia+ib)
     (Q:=fun c z''=>SmS z z''/\((∃ out ia ib mg ac bc,c=(none,out,ia,ib,mg,ac,bc)/\MLo (rkP rk) a.toList b.toList (Array.toList out) ia ib/\ia+1<a.size/\ib<b.size/\X+2<=ia+ib)\/∃ m rest,c=(some m,rest)/\(Array.toList m).Perm (a.toList++b.toList)/\Ris (rkP rk) (Array.toList m))) ?turn2 ?last2 ⟨S,out,ia,ib,_,ac,bc,rfl,M,l1,l2,by omega⟩) ?post2)
    case last2 =>
     rintro c z'' ⟨S,r⟩
     exact ⟨S,.inl r⟩
    case post2 =>
     intro c z'' hI
     refine eo6 hI (fun S out ia ib mg ac bc q=>?_) (fun S m rest q=>?_)
     ·obtain rfl:=q.1
      have M:=q.2.1
      have l1:=q.2.2.1
      have l2:=q.2.2.2.1
      have l3:=q.2.2.2.2
      dsimp only
      refine wpS_bind (zcg fun z3 S3=>?_)
      exact wpS_pure ⟨S.trans S3,out,ia,ib,_,rfl,M,l1,l2,by omega⟩
     ·obtain rfl:=q.1
      have q1:=q.2.1
      have q2:=q.2.2
      exact wpS_pure ⟨S,m,_,rfl,q1,q2⟩
    case turn2 =>
     intro x c z'' _ hx hI
     refine ex6 hI fun S out ia ib mg ac bc q=>?_
     obtain rfl:=q.1
     have M:=q.2.1
     have l1:=q.2.2.1
     have l2:=q.2.2.2.1
     have l3:=q.2.2.2.2
     obtain ⟨p,ep,lp,mp⟩:=gb ib l2
     have dB:=dropB ib p lp
     dsimp only
     generalize hg:mg=g0
     revert g0
     refine zkg mg (fun _=>True) ?_ ?_ (fun _=>trivial)
     rotate_left
     ·exact fun _ hF=>hF _ trivial
     intro mg _
     refine wpS_bind (zcg fun z3 S3=>?_)
     have S':=S.trans S3
     have kz:kindOf z3=kd:=S'.kn.trans k
     refine wpS_bind (zaB ep (wpS_bind (zbr c0 kz mp (gaA ia) (by omega) (upA ia) fun k1 k1n k1t k1f=>?_)))
     dsimp only
     have gA1:∀ x∈(a.toList.drop ia).take k1,∀ y∈b.toList.drop ib,rkP rk x<=rkP rk y:=fun x hx y hy=>by
      obtain ⟨j,jk,ej⟩:=zh4 hx
      have:=k1t j jk
      unfold bey at this
      rw [if_neg (by simp),zas ej,Bool.not_eq_true',decide_eq_false_iff_not] at this
      exact Int.le_trans (Int.not_lt.mp this) (dB y hy)
     have gA2:∀ x∈a.toList.drop (ia+k1),rkP rk p<=rkP rk x:=fun x hx=>by
      obtain ⟨j,jl,ej⟩:=zf1 hx
      have:=k1f (k1+j) (by omega) (by simp at jl;omega)
      unfold bey at this
      rw [if_neg (by simp),show ia+(k1+j)=ia+k1+j by omega,zas ej,Bool.not_eq_false',decide_eq_true_iff] at this
      exact Int.le_of_lt this
     generalize ho:out=o0
     generalize hi:ia=i0
     revert i0
     revert o0
     refine zgi out ia (fun o i=>MLo (rkP rk) a.toList b.toList (Array.toList o) i ib/\i+1<a.size/\X+2<=i+ib/\∀ x∈a.toList.drop i,rkP rk p<=rkP rk x) ?_ ?_ ?_
     rotate_left
     ·intro hk1 hF
      have M2:=M.takeA (k:=k1) sa gA1
      rw [<- zc3,<- Array.toList_append] at M2
      refine zau (fun e0=>?_) (fun e0=>zau (fun e1=>?_) (fun e1=>?_))
      ·have:=fin2 (out++a.extract ia (ia+k1)) (ia+k1) ib z3 S' M2 (by simpa using e0)
       exact wpS_pure ⟨S',.inr ⟨_,_,rfl,this.1,this.2⟩⟩
      ·have:=fin1 (out++a.extract ia (ia+k1)) (ia+k1) ib z3 S' M2 (.inl (by simpa using e1))
       exact wpS_pure ⟨S',.inr ⟨_,_,rfl,this.1,this.2⟩⟩
      ·have e0:ia+k1+1≠a.size:=fun e=>e0 (by simp [e])
       have e1:ia+k1≠a.size:=fun e=>e1 (by simp [e])
       exact hF _ _ ⟨M2,by omega,by omega,gA2⟩
     ·intro hk1
      have hk0:k1=0:=by omega
      subst hk0
      exact ⟨M,l1,l3,gA2⟩
     intro o i ⟨M2,i1,i2,g⟩
     have M3:=M2.pushB sb lp g
     rw [<- Array.toList_push] at M3
     refine wpS_bind (zaB ep ?_)
     refine zau (fun e2=>?_) (fun e2=>?_)
     ·have:=fin1 (Array.push o p) i (ib+1) z3 S' M3 (.inr (by simpa using e2))
      exact wpS_pure ⟨S',.inr ⟨_,_,rfl,this.1,this.2⟩⟩
     have e2:ib+1≠b.size:=fun e=>e2 (by simp [e])
     obtain ⟨q,eq,lq,mq⟩:=ga i (by omega)
     have dA:=dropA i q lq
     refine wpS_bind (zaB eq (wpS_bind (zbr c0 kz mq (gbA (ib+1)) (by omega) (upB (ib+1)) fun k2 k2n k2t k2f=>?_)))
     dsimp only
     have gB1:∀ y∈(b.toList.drop (ib+1)).take k2,∀ x∈a.toList.drop i,rkP rk y<=rkP rk x:=fun y hy x hx=>by
      obtain ⟨j,jk,ej⟩:=zh4 hy
      have:=k2t j jk
      unfold bey at this
      rw [if_pos rfl,zas ej,decide_eq_true_iff] at this
      exact Int.le_trans (Int.le_of_lt this) (dA x hx)
     have gB2:∀ y∈b.toList.drop (ib+1+k2),rkP rk q<=rkP rk y:=fun y hy=>by
      obtain ⟨j,jl,ej⟩:=zf1 hy
      have:=k2f (k2+j) (by omega) (by simp at jl;omega)
      unfold bey at this
      rw [if_pos rfl,show ib+1+(k2+j)=ib+1+k2+j by omega,zas ej,decide_eq_false_iff_not] at this
      exact Int.not_lt.mp this
     have l4:ib+1<b.size:=by omega
     have l5:X+2<=i+(ib+1):=by omega
     clear k2t k2f k1t k1f gA1 gA2 l3 M dB e2 l2
     generalize Array.push o p=o2 at M3 ⊢
     generalize ib+1=j2 at M3 gB1 gB2 l4 l5 k2n ⊢
     generalize ho:o2=o0
     generalize hi:j2=i0
     revert i0
     revert o0
     refine zgi o2 j2 (fun o' j=>MLo (rkP rk) a.toList b.toList (Array.toList o') i j/\j<b.size/\X+2<=i+j/\∀ y∈b.toList.drop j,rkP rk q<=rkP rk y) ?_ ?_ ?_
     rotate_left
     ·intro hk2 hF
      have M4:=M3.takeB (k:=k2) sb gB1
      rw [<- zc3,<- Array.toList_append] at M4
      refine zau (fun e3=>?_) (fun e3=>?_)
      ·have:=fin1 (o2++b.extract j2 (j2+k2)) i (j2+k2) z3 S' M4 (.inr (by simpa using e3))
       exact wpS_pure ⟨S',.inr ⟨_,_,rfl,this.1,this.2⟩⟩
      ·have e3:j2+k2≠b.size:=fun e=>e3 (by simp [e])
       exact hF _ _ ⟨M4,by omega,by omega,gB2⟩
     ·intro hk2
      have hk0:k2=0:=by omega
      subst hk0
      exact ⟨M3,l4,l5,gB2⟩
     intro o3 j ⟨M4,j1,j3,g'⟩
     have M5:=M4.pushA sa lq g'
     rw [<- Array.toList_push] at M5
     refine wpS_bind (zaB eq ?_)
     refine zau (fun e4=>?_) (fun e4=>?_)
     ·have:=fin2 (Array.push o3 q) (i+1) j z3 S' M5 (by simpa using e4)
      exact wpS_pure ⟨S',.inr ⟨_,_,rfl,this.1,this.2⟩⟩
     have e4:i+1+1≠a.size:=fun e=>e4 (by simp [e])
     split
     ·exact wpS_pure ⟨S',.inl ⟨_,_,_,_,_,_,rfl,M5,by omega,by omega,by omega⟩⟩
     ·exact wpS_pure ⟨S',_,_,_,_,_,_,rfl,M5,by omega,by omega,by omega⟩
   ·obtain rfl:=q.1
    have q1:=q.2.1
    have q2:=q.2.2
    exact wpS_pure ⟨S,m,_,rfl,q1,q2⟩
end
end L2
namespace L2
open PySem PySem.Spec PyProof.Rows
def zeg:Array Keyed->Array Keyed->StateT SortSt Sem (Array Keyed):=sortPriv% PySem.Builtin.mergeHi
section
variable {prog:Program}{w:World}{A:Around}{E:Value->Shared->Prop}{s:Shared}{kd:SortKind}{rk:Value->Int}{a0:Array Keyed}
theorem zgS {x:Array Keyed}{k:Nat}:(x.extract 0 k).toList=x.toList.take k:=by simp
theorem zgT {x:Array Keyed}{i k:Nat}:(x.extract i k).toList=(x.toList.take k).drop i:=by
 rw [Array.toList_extract,List.drop_take]
theorem zko {l:List Keyed}{n:Nat}{x:Keyed} (h:x∈l.take n):∃ j,j<n/\l[j]?=some x:=by
 obtain ⟨j,hj,e⟩:=List.mem_take_iff_getElem.mp h
 exact ⟨j,by omega,by rw [List.getElem?_eq_getElem (by omega),e]⟩
theorem zh3 {l:List Keyed}{n i:Nat}{x:Keyed} (h:x∈(l.take n).drop i):∃ j,i<=j/\j<n/\l[j]?=some x:=by
 obtain ⟨j,hj,e⟩:=zf1 h
 rw [List.length_take] at hj
 rw [List.getElem?_take_of_lt (by omega)] at e
 exact ⟨i+j,by omega,by omega,e⟩
theorem MHi.pushB' {r:Keyed->Int}{a b out:List Keyed}{na nb:Nat}{y:Keyed} (h:MHi r a b out na nb) (hb:Ris r b) (p:1<=nb) (e:b[nb - 1]?=some y) (c:∀ x∈a.take na,r x<=r y):MHi r a b (y::out) na (nb - 1):=by
 obtain ⟨m,rfl⟩:∃ m,nb=m+1:=⟨nb - 1,by omega⟩
 exact h.pushB hb e c
theorem MHi.pushA' {r:Keyed->Int}{a b out:List Keyed}{na nb:Nat}{x:Keyed} (h:MHi r a b out na nb) (ha:Ris r a) (p:1<=na) (e:a[na - 1]?=some x) (c:∀ y∈b.take nb,r y<=r x):MHi r a b (x::out) (na - 1) nb:=by
 obtain ⟨m,rfl⟩:∃ m,na=m+1:=⟨na - 1,by omega⟩
 exact h.pushA ha e c
theorem zhe {a b:Array Keyed}{z:SortSt}{Q:Array Keyed->SortSt->Prop} (c0:Cmp prog w A s kd rk a0) (k:kindOf z=kd) (ha:∀ p∈a.toList,p∈a0.toList) (hb:∀ p∈b.toList,p∈a0.toList)
  (sa:Ris (rkP rk) a.toList) (sb:Ris (rkP rk) b.toList) (na:0<a.size) (nb:0<b.size) (f1:∀ y,b.toList[0]?=some y->∀ x∈a.toList,rkP rk y<=rkP rk x)
  (f2:∀ x,a.toList[a.size - 1]?=some x->∀ y∈b.toList,rkP rk y<=rkP rk x)
  (h:∀ m z',m.toList.Perm (a.toList++b.toList)->Ris (rkP rk) m.toList->SmS z z'->Q m z'):wpS (model prog w) A E s (zeg a b) Q z:=by
 have e_:zeg=zeg:=rfl
 conv at e_=>rhs;whnf
 rw [e_]
 clear e_
 have gb:∀ i,i<b.size->∃ p,b[i]?=some p/\b.toList[i]?=some p/\p∈a0.toList:=fun i hi=>⟨b[i],Array.getElem?_eq_getElem hi,by simp [hi],hb _ (by simp)⟩
 have ga:∀ i,i<a.size->∃ p,a[i]?=some p/\a.toList[i]?=some p/\p∈a0.toList:=fun i hi=>⟨a[i],Array.getElem?_eq_getElem hi,by simp [hi],ha _ (by simp)⟩
 have gaA:∀ u i,i<u->u<=a.size->∃ p,a[0+i]?=some p/\p∈a0.toList:=fun u i hi hu=>by
  obtain ⟨p,e,_,m⟩:=ga i (by omega)
  exact ⟨p,by rw [Nat.zero_add];exact e,m⟩
 have gbA:∀ u i,i<u->u<=b.size->∃ p,b[0+i]?=some p/\p∈a0.toList:=fun u i hi hu=>by
  obtain ⟨p,e,_,m⟩:=gb i (by omega)
  exact ⟨p,by rw [Nat.zero_add];exact e,m⟩
 have upA:∀ u i j,u<=a.size->i<j->j<u->rkAt rk a (0+i)<=rkAt rk a (0+j):=fun u i j hu hij hj=>zi9 sa (by omega) (by omega)
 have upB:∀ u i j,u<=b.size->i<j->j<u->rkAt rk b (0+i)<=rkAt rk b (0+j):=fun u i j hu hij hj=>zi9 sb (by omega) (by omega)
 have takeLe:∀ (l:List Keyed),Ris (rkP rk) l->∀ n p,l[n]?=some p->∀ y∈l.take (n+1),rkP rk y<=rkP rk p:=fun l sl n p lp y hy=>by
  have e:l.take (n+1)=l.take n++[p]:=by rw [List.take_succ,lp];rfl
  have:=sl.take (n+1)
  rw [e] at this hy
  rcases List.mem_append.mp hy with z | z
  ·exact (zay.mp this).2.2 y z p (by simp)
  ·cases List.mem_singleton.mp z;exact Int.le_refl _
 obtain ⟨x0,ex0,lx0,mx0⟩:=ga (a.size - 1) (by omega)
 have M0:MHi (rkP rk) a.toList b.toList [x0] (a.size - 1) b.size:=by
  have:MHi (rkP rk) a.toList b.toList [] (a.size - 1+1) b.size:=⟨by rw [List.take_of_length_le (by simp;omega),List.take_of_length_le (by simp)];simp,List.Pairwise.nil,fun x _ y hy=>nomatch hy⟩
  exact this.pushA sa lx0 fun y hy=>f2 x0 lx0 y (List.mem_of_mem_take hy)
 refine wpS_bind (wpS_lift (wpAny_rule ⟨rfl,?_⟩))
 refine wpS_bind (zaB ex0 ?_)
 have fin1:∀ (out:Array Keyed) (na nb:Nat),MHi (rkP rk) a.toList b.toList out.toList.reverse na nb->(na=0\/nb=0)->(a.extract 0 na++b.extract 0 nb++out.reverse).toList.Perm (a.toList++b.toList)/\Ris (rkP rk) (a.extract 0 na++b.extract 0 nb++out.reverse).toList:=fun out na nb M e=>by
  rw [Array.toList_append,Array.toList_append,zgS,zgS,Array.toList_reverse]
  refine M.done sa sb fun x hx y hy=>?_
  rcases e with rfl | rfl
  ·simp at hx
  ·simp at hy
 have fin2:∀ (out:Array Keyed) (na nb:Nat),MHi (rkP rk) a.toList b.toList out.toList.reverse na nb->nb=1->(b.extract 0 nb++a.extract 0 na++out.reverse).toList.Perm (a.toList++b.toList)/\Ris (rkP rk) (b.extract 0 nb++a.extract 0 na++out.reverse).toList:=fun out na nb M e=>by
  rw [Array.toList_append,Array.toList_append,zgS,zgS,Array.toList_reverse]
  refine M.first sa sb fun y hy x hx=>?_
  subst e
  obtain ⟨p,ep,lp,mp⟩:=gb 0 (by omega)
  have e1:=take1 lp
  rw [List.drop_zero] at e1
  rw [e1] at hy
  cases List.mem_singleton.mp hy
  exact f1 _ lp x (List.mem_of_mem_take hx)
 refine zau (fun h1=>?_) (fun h1=>?_)
 ·have:=fin1 #[x0] (a.size - 1) b.size (by simpa using M0) (.inl (by simpa using h1))
  exact wpS_pure (h _ z this.1 this.2 (.refl z))
 refine zau (fun h2=>?_) (fun h2=>?_)
 ·have:=fin2 #[x0] (a.size - 1) b.size (by simpa using M0) (by simpa using h2)
  exact wpS_pure (h _ z this.1 this.2 (.refl z))
 have h1:a.size - 1≠0:=fun e=>h1 (by simp [e])
 have h2:b.size≠1:=fun e=>h2 (by simp [e])
 refine wpS_bind (wpS_get ?_)
 refine wpS_bind (wpS_mono (wpS_forRange (I:=fun X c z'=>SmS z z'/\∃ na nb out mg,c=(none,na,nb,out,mg)/\MHi (rkP rk) a.toList b.toList (Array.toList out).reverse na nb/\1<=na/\2<=nb/\na<=a.size/\nb<=b.size/\na+nb+X+1<=a.size+b.size)
  (Q:=fun c z'=>SmS z z'/\∃ m rest,c=(some m,rest)/\(Array.toList m).Perm (a.toList++b.toList)/\Ris (rkP rk) (Array.toList m)) ?turn ?last ⟨.refl z,a.size - 1,b.size,#[x0],_,rfl,by simpa using M0,by omega,by omega,by omega,by omega,by omega⟩) ?post)
 case post =>
  rintro c z' ⟨S,m,rest,rfl,q1,q2⟩
  exact wpS_pure (h m z' q1 q2 S)
 case last =>
  intro c z' hI
  refine ex4 hI fun S na nb out mg q=>?_
  obtain rfl:=q.1
  have M:=q.2.1
  have l1:=q.2.2.1
  have l2:=q.2.2.2.1
  have l4:=q.2.2.2.2.1
  have l5:=q.2.2.2.2.2.1
  have l3:=q.2.2.2.2.2.2
  omega
 case turn =>
  intro X c z' _ hX hI
  refine ex4 hI fun S na nb out mg q=>?_
  obtain rfl:=q.1
  have M:=q.2.1
  have l1:=q.2.2.1
  have l2:=q.2.2.2.1
  have l4:=q.2.2.2.2.1
  have l5:=q.2.2.2.2.2.1
  have l3:=q.2.2.2.2.2.2
  have kz:kindOf z'=kd:=S.kn.trans k
  refine wpS_bind (wpS_mono (wpS_forRange (I:=fun x c z''=>SmS z z''/\∃ na nb out ac bc,c=(none,na,nb,out,ac,bc)/\MHi (rkP rk) a.toList b.toList (Array.toList out).reverse na nb/\1<=na/\2<=nb/\na<=a.size/\nb<=b.size/\na+nb+X+1+x<=a.size+b.size)
   (Q:=fun c z''=>SmS z z''/\((∃ na nb out ac bc,c=(none,na,nb,out,ac,bc)/\MHi (rkP rk) a.toList b.toList (Array.toList out).reverse na nb/\1<=na/\2<=nb/\na<=a.size/\nb<=b.size/\na+nb+X+2<=a.size+b.size)\/∃ m rest,c=(some m,rest)/\(Array.toList m).Perm (a.toList++b.toList)/\Ris (rkP rk) (Array.toList m))) ?turn1 ?ze5 ⟨S,na,nb,out,0,0,rfl,M,l1,l2,l4,l5,by omega⟩) ?post1)
  case ze5 =>
   intro c z'' hI
   refine ex5 hI fun S na nb out ac bc q=>?_
   obtain rfl:=q.1
   have M:=q.2.1
   have l1:=q.2.2.1
   have l2:=q.2.2.2.1
   have l4:=q.2.2.2.2.1
   have l5:=q.2.2.2.2.2.1
   have l3:=q.2.2.2.2.2.2
   exact ⟨S,.inl ⟨na,nb,out,ac,bc,rfl,M,l1,l2,l4,l5,by omega⟩⟩
  case turn1 =>
   intro x c z'' _ hx hI
   refine ex5 hI fun S na nb out ac bc q=>?_
   obtain rfl:=q.1
   have M:=q.2.1
   have l1:=q.2.2.1
   have l2:=q.2.2.2.1
   have l4:=q.2.2.2.2.1
   have l5:=q.2.2.2.2.2.1
   have l3:=q.2.2.2.2.2.2
   have kz:kindOf z''=kd:=S.kn.trans k
   dsimp only
   obtain ⟨p,ep,lp,mp⟩:=gb (nb - 1) (by omega)
   obtain ⟨q,eq,lq,mq⟩:=ga (na - 1) (by omega)
   have dB:=takeLe b.toList sb (nb - 1) p lp
   rw [show nb - 1+1=nb by omega] at dB
   have dA:=takeLe a.toList sa (na - 1) q lq
   rw [show na - 1+1=na by omega] at dA
   refine wpS_bind (zaB ep (wpS_bind (zaB eq (wpS_bind (zh5 c0 kz mp mq ?_)))))
   dsimp only
   cases hlt:decide (rk p.1<rk q.1) with
   | true =>
    rw [if_pos rfl]
    have hlt:=of_decide_eq_true hlt
    have M':=M.pushA' sa (by omega) lq fun y hy=>Int.le_trans (dB y hy) (Int.le_of_lt hlt)
    refine wpS_bind (zaB eq ?_)
    refine zau (fun e1=>?_) (fun e1=>?_)
    ·have:=fin1 (out.push q) (na - 1) nb (by simpa using M') (.inl (by simpa using e1))
     exact wpS_pure ⟨S,.inr ⟨_,_,rfl,this.1,this.2⟩⟩
    ·have e1:na - 1≠0:=fun e=>e1 (by simp [e])
     refine zau (fun e2=>?_) (fun e2=>?_)
     ·exact wpS_pure ⟨S,.inl ⟨_,_,_,_,_,rfl,by simpa using M',by omega,by omega,by omega,by omega,by omega⟩⟩
     ·exact wpS_pure ⟨S,_,_,_,_,_,rfl,by simpa using M',by omega,by omega,by omega,by omega,by omega⟩
   | false =>
    rw [if_neg (by simp)]
    have hlt:=of_decide_eq_false hlt
    have M':=M.pushB' sb (by omega) lp fun x hx=>Int.le_trans (dA x hx) (Int.not_lt.mp hlt)
    refine wpS_bind (zaB ep ?_)
    refine zau (fun e1=>?_) (fun e1=>?_)
    ·have:=fin2 (out.push p) na (nb - 1) (by simpa using M') (by simpa using e1)
     exact wpS_pure ⟨S,.inr ⟨_,_,rfl,this.1,this.2⟩⟩
    ·have e1:nb - 1≠1:=fun e=>e1 (by simp [e])
     refine zau (fun e2=>?_) (fun e2=>?_)
     ·exact wpS_pure ⟨S,.inl ⟨_,_,_,_,_,rfl,by simpa using M',by omega,by omega,by omega,by omega,by omega⟩⟩
     ·exact wpS_pure ⟨S,_,_,_,_,_,rfl,by simpa using M',by omega,by omega,by omega,by omega,by omega⟩
  case post1 =>
   intro c z'' hI
   refine eo5 hI (fun S na nb out ac bc q=>?_) (fun S m rest q=>?_)
   ·obtain rfl:=q.1
    have M:=q.2.1
    have l1:=q.2.2.1
    have l2:=q.2.2.2.1
    have l4:=q.2.2.2.2.1
    have l5:=q.2.2.2.2.2.1
    have l3:=q.2.2.2.2.2.2
    refine wpS_bind (wpS_lift (wpAny_rule ⟨rfl,?_⟩))
    refine wpS_bind (wpS_mono (wpS_forRange (I:=fun x c z''=>SmS z z''/\∃ na nb out mg ac bc,c=(none,na,nb,out,mg,ac,bc)/\MHi (rkP rk) a.toList b.toList (Array.toList out).reverse na nb/\1<=na/\2<=nb/\na<=a.size/\nb<=b.size/\na+nb+X+2<=a.size+b.size)
     (Q:=fun c z''=>SmS z z''/\((∃ na nb out mg ac bc,c=(none,na,nb,out,mg,ac,bc)/\MHi (rkP rk) a.toList b.toList (Array.toList out).reverse na nb/\1<=na/\2<=nb/\na<=a.size/\nb<=b.size/\na+nb+X+2<=a.size+b.size)\/∃ m rest,c=(some m,rest)/\(Array.toList m).Perm (a.toList++b.toList)/\Ris (rkP rk) (Array.toList m))) ?turn2 ?last2 ⟨S,na,nb,out,_,ac,bc,rfl,M,l1,l2,l4,l5,by omega⟩) ?post2)
    case last2 =>
     rintro c z'' ⟨S,r⟩
     exact ⟨S,.inl r⟩
    case post2 =>
     intro c z'' hI
     refine eo6 hI (fun S na nb out mg ac bc q=>?_) (fun S m rest q=>?_)
     ·obtain rfl:=q.1
      have M:=q.2.1
      have l1:=q.2.2.1
      have l2:=q.2.2.2.1
      have l4:=q.2.2.2.2.1
      have l5:=q.2.2.2.2.2.1
      have l3:=q.2.2.2.2.2.2
      dsimp only
      refine wpS_bind (zcg fun z3 S3=>?_)
      exact wpS_pure ⟨S.trans S3,na,nb,out,_,rfl,M,l1,l2,l4,l5,by omega⟩
     ·obtain rfl:=q.1
      have q1:=q.2.1
      have q2:=q.2.2
      exact wpS_pure ⟨S,m,_,rfl,q1,q2⟩
    case turn2 =>
     intro x c z'' _ hx hI
     refine ex6 hI fun S na nb out mg ac bc q=>?_
     obtain rfl:=q.1
     have M:=q.2.1
     have l1:=q.2.2.1
     have l2:=q.2.2.2.1
     have l4:=q.2.2.2.2.1
     have l5:=q.2.2.2.2.2.1
     have l3:=q.2.2.2.2.2.2
     obtain ⟨p,ep,lp,mp⟩:=gb (nb - 1) (by omega)
     have dB:=takeLe b.toList sb (nb - 1) p lp
     rw [show nb - 1+1=nb by omega] at dB
     dsimp only
     generalize hg:mg=g0
     revert g0
     refine zkg mg (fun _=>True) ?_ ?_ (fun _=>trivial)
     rotate_left
     ·exact fun _ hF=>hF _ trivial
     intro mg _
     refine wpS_bind (zcg fun z3 S3=>?_)
     have S':=S.trans S3
     have kz:kindOf z3=kd:=S'.kn.trans k
     refine wpS_bind (zaB ep (wpS_bind (zbr c0 kz mp (fun i hi=>gaA na i hi (by omega)) (by omega) (fun i j=>upA na i j (by omega)) fun at1 k1n k1t k1f=>?_)))
     dsimp only
     have gA1:∀ x∈b.toList.take nb,∀ y∈(a.toList.take na).drop at1,rkP rk x<=rkP rk y:=fun x hx y hy=>by
      obtain ⟨j,j1,j2,ej⟩:=zh3 hy
      have:=k1f j j1 j2
      unfold bey at this
      rw [if_neg (by simp),Nat.zero_add,zas ej,Bool.not_eq_false',decide_eq_true_iff] at this
      exact Int.le_trans (dB x hx) (Int.le_of_lt this)
     have gA2:∀ x∈a.toList.take at1,rkP rk x<=rkP rk p:=fun x hx=>by
      obtain ⟨j,j1,ej⟩:=zko hx
      have:=k1t j j1
      unfold bey at this
      rw [if_neg (by simp),Nat.zero_add,zas ej,Bool.not_eq_true',decide_eq_false_iff_not] at this
      exact Int.not_lt.mp this
     generalize hk:na - at1=k1
     generalize ho:out=o0
     generalize hi:na=i0
     revert i0
     revert o0
     refine zgi out na (fun o i=>MHi (rkP rk) a.toList b.toList (Array.toList o).reverse i nb/\1<=i/\i<=na/\∀ x∈a.toList.take i,rkP rk x<=rkP rk p) ?_ ?_ ?_
     rotate_left
     ·intro hk1 hF
      have M2:=M.takeA (k:=at1) sa k1n gA1
      rw [<- zgT] at M2
      have M2':MHi (rkP rk) a.toList b.toList (Array.toList (out++(a.extract at1 na).reverse)).reverse at1 nb:=by simpa using M2
      refine zau (fun e1=>?_) (fun e1=>?_)
      ·have:=fin1 (out++(a.extract at1 na).reverse) at1 nb M2' (.inl (by simpa using e1))
       exact wpS_pure ⟨S',.inr ⟨_,_,rfl,this.1,this.2⟩⟩
      ·have e1:at1≠0:=fun e=>e1 (by simp [e])
       exact hF _ _ ⟨M2',by omega,k1n,gA2⟩
     ·intro hk1
      have hk0:at1=na:=by omega
      rw [hk0] at gA2
      exact ⟨M,l1,Nat.le_refl _,gA2⟩
     intro o i ⟨M2,i1,i2,g⟩
     have M3:=M2.pushB' sb (by omega) lp g
     have M3':MHi (rkP rk) a.toList b.toList (Array.toList (Array.push o p)).reverse i (nb - 1):=by simpa using M3
     refine wpS_bind (zaB ep ?_)
     refine zau (fun e2=>?_) (fun e2=>?_)
     ·have:=fin2 (Array.push o p) i (nb - 1) M3' (by simpa using e2)
      exact wpS_pure ⟨S',.inr ⟨_,_,rfl,this.1,this.2⟩⟩
     have e2:nb - 1≠1:=fun e=>e2 (by simp [e])
     obtain ⟨q,eq,lq,mq⟩:=ga (i - 1) (by omega)
     have dA:=takeLe a.toList sa (i - 1) q lq
     rw [show i - 1+1=i by omega] at dA
     refine wpS_bind (zaB eq (wpS_bind (zbr c0 kz mq (fun i hi=>gbA (nb - 1) i hi (by omega)) (by omega) (fun i j=>upB (nb - 1) i j (by omega)) fun at2 k2n k2t k2f=>?_)))
     dsimp only
     have gB1:∀ x∈a.toList.take i,∀ y∈(b.toList.take (nb - 1)).drop at2,rkP rk x<=rkP rk y:=fun x hx y hy=>by
      obtain ⟨j,j1,j2,ej⟩:=zh3 hy
      have:=k2f j j1 j2
      unfold bey at this
      rw [if_pos rfl,Nat.zero_add,zas ej,decide_eq_false_iff_not] at this
      exact Int.le_trans (dA x hx) (Int.not_lt.mp this)
     have gB2:∀ y∈b.toList.take at2,rkP rk y<=rkP rk q:=fun y hy=>by
      obtain ⟨j,j1,ej⟩:=zko hy
      have:=k2t j j1
      unfold bey at this
      rw [if_pos rfl,Nat.zero_add,zas ej,decide_eq_true_iff] at this
      exact Int.le_of_lt this
     have l6:2<=nb - 1:=by omega
     have l7:nb - 1<=b.size:=by omega
     have l8:i+(nb - 1)+X+2<=a.size+b.size:=by omega
     have l9:i<=a.size:=by omega
     clear k2t k2f k1t k1f gA1 gA2 dB e2 M M2 M3 hk k1n l1 l2 l3 l4 l5 i2
     generalize Array.push o p=o2 at M3' ⊢
     generalize nb - 1=j2 at M3' gB1 l6 l7 l8 k2n ⊢
     generalize hk2:j2 - at2=k2
     generalize ho:o2=o0
     generalize hi:j2=i0
     revert i0
     revert o0
     refine zgi o2 j2 (fun o' j=>MHi (rkP rk) a.toList b.toList (Array.toList o').reverse i j/\2<=j/\j<=j2/\∀ y∈b.toList.take j,rkP rk y<=rkP rk q) ?_ ?_ ?_
     rotate_left
     ·intro hk2 hF
      have M4:=M3'.takeB (k:=at2) sb k2n gB1
      rw [<- zgT] at M4
      have M4':MHi (rkP rk) a.toList b.toList (Array.toList (o2++(b.extract at2 j2).reverse)).reverse i at2:=by simpa using M4
      refine zau (fun e3=>?_) (fun e3=>zau (fun e5=>?_) (fun e5=>?_))
      ·have:=fin2 (o2++(b.extract at2 j2).reverse) i at2 M4' (by simpa using e3)
       exact wpS_pure ⟨S',.inr ⟨_,_,rfl,this.1,this.2⟩⟩
      ·have:=fin1 (o2++(b.extract at2 j2).reverse) i at2 M4' (.inr (by simpa using e5))
       exact wpS_pure ⟨S',.inr ⟨_,_,rfl,this.1,this.2⟩⟩
      ·have e3:at2≠1:=fun e=>e3 (by simp [e])
       have e5:at2≠0:=fun e=>e5 (by simp [e])
       exact hF _ _ ⟨M4',by omega,k2n,gB2⟩
     ·intro hk2
      have hk0:at2=j2:=by omega
      rw [hk0] at gB2
      exact ⟨M3',l6,Nat.le_refl _,gB2⟩
     intro o3 j ⟨M4,j1,j3,g'⟩
     have M5:=M4.pushA' sa (by omega) lq g'
     have M5':MHi (rkP rk) a.toList b.toList (Array.toList (Array.push o3 q)).reverse (i - 1) j:=by simpa using M5
     refine wpS_bind (zaB eq ?_)
     refine zau (fun e4=>?_) (fun e4=>?_)
     ·have:=fin1 (Array.push o3 q) (i - 1) j M5' (.inl (by simpa using e4))
      exact wpS_pure ⟨S',.inr ⟨_,_,rfl,this.1,this.2⟩⟩
     have e4:i - 1≠0:=fun e=>e4 (by simp [e])
     split
     ·exact wpS_pure ⟨S',.inl ⟨_,_,_,_,_,_,rfl,M5',by omega,by omega,by omega,by omega,by omega⟩⟩
     ·exact wpS_pure ⟨S',_,_,_,_,_,_,rfl,M5',by omega,by omega,by omega,by omega,by omega⟩
   ·obtain rfl:=q.1
    have q1:=q.2.1
    have q2:=q.2.2
    exact wpS_pure ⟨S,m,_,rfl,q1,q2⟩
end
end L2
namespace L2
open PySem PySem.Spec PyProof.Rows
theorem zhz {α:Type}{l:List α}{i:Nat}{p:α} (h:i<l.length):(l.set i p).take (i+1)=l.take i++[p]:=by
 rw [List.take_succ,List.getElem?_set_self h,List.take_set_of_le (Nat.le_refl _)]
 rfl
theorem ziz {α:Type}{l:List α}{i j:Nat}{p:α} (h:i<j):(l.set i p).drop j=l.drop j:=by
 rw [List.drop_set]
 rw [if_pos h]
theorem zhQ {α:Type} (o:Nat):∀ (m:List α) (n:Nat) (x:Array α),o+n+m.length<=x.size ->
  ((m.zipIdx n).foldl (fun a (q:α×Nat)=>a.setIfInBounds (o+q.2) q.1) x).toList=x.toList.take (o+n)++m++x.toList.drop (o+n+m.length)
 | [],n,x,h=>by simp
 | p::ms,n,x,h=>by
  rw [List.length_cons] at h
  rw [List.zipIdx_cons,List.foldl_cons,zhQ o ms (n+1) _ (by rw [Array.size_setIfInBounds];omega)]
  have e:(x.setIfInBounds (o+n) p).toList=x.toList.set (o+n) p:=by simp
  have hl:o+n<x.toList.length:=by simp;omega
  dsimp only
  rw [e,show o+(n+1)=o+n+1 by omega,zhz hl,ziz (by omega),List.length_cons,show o+n+1+ms.length=o+n+(ms.length+1) by omega]
  simp
end L2
namespace L2
open PySem PySem.Spec PyProof.Rows
def UpL (rk:Value->Int) (xs:Array Keyed) (lo m:Nat):Prop:=∀ i j,i<j->j<m->rkAt rk xs (lo+i)<=rkAt rk xs (lo+j)
section
variable {prog:Program}{w:World}{A:Around}{E:Value->Shared->Prop}{s:Shared}{kd:SortKind}{rk:Value->Int}{a0:Array Keyed}
theorem zkK {z z1:SortSt}{Q:PUnit->SortSt->Prop} (h:Q ⟨⟩ z1):wpS (model prog w) A E s (set z1:StateT SortSt Sem PUnit) Q z:=by
 unfold wpS;rw [StateT.run_set];exact wpAny_pure ⟨rfl,h⟩
theorem zhL {x:Array Keyed}{lo m:Nat} (h:UpL rk x lo m) (hx:lo+m<=x.size):Ris (rkP rk) (x.extract lo (lo+m)).toList:=by
 refine List.pairwise_iff_getElem.mpr fun i j hi hj hij=>?_
 have hi':i<m:=by simp at hi;lia
 have hj':j<m:=by simp at hj;lia
 have:=h i j hij hj'
 rw [zas (p:=(x.extract lo (lo+m)).toList[i]) (by simp),zas (p:=(x.extract lo (lo+m)).toList[j]) (by simp)] at this
 exact this
theorem zeh {x:Array Keyed}{lo hi:Nat}{p:Keyed} (h:p∈(x.extract lo hi).toList):∃ j,lo<=j/\j<hi/\j<x.size/\rkAt rk x j=rkP rk p:=by
 obtain ⟨i,hi',e⟩:=List.getElem_of_mem h
 have l:i<hi - lo/\i+lo<x.size:=by simp at hi';lia
 refine ⟨lo+i,by lia,by lia,by lia,zas ?_⟩
 rw [<- e];simp
theorem ix1 {s n y:Nat} (h:n<=y):s+n+(y - n)=s+y:=by lia
theorem zhf {i sa na nb pw pw2:Nat}{z:SortSt}{Q:Bool->SortSt->Prop} (c:Cmp prog w A s kd rk a0) (k:kindOf z=kd) (fl:failedOf z=none) (pm:(arrOf z).Perm a0)
  (p1:(pendingOf z)[i]?=some (sa,na,pw)) (p2:(pendingOf z)[i+1]?=some (sa+na,nb,pw2)) (hna:0<na) (hnb:0<nb) (hs:sa+na+nb<=a0.size) (u1:UpL rk (arrOf z) sa na) (u2:UpL rk (arrOf z) (sa+na) nb)
  (h:∀ y,kindOf y=kd->failedOf y=none->(arrOf y).Perm a0->pendingOf y=((pendingOf z).setIfInBounds i (sa,na+nb,pw)).eraseIdxIfInBounds (i+1)->UpL rk (arrOf y) sa (na+nb)->(∀ j,j<sa\/sa+na+nb<=j->rkAt rk (arrOf y) j=rkAt rk (arrOf z) j)->Q true y) :
  wpS (model prog w) A E s (mergeAt' i) Q z:=by
 have sz:(arrOf z).size=a0.size:=pm.size_eq
 have mem:∀ j,j<a0.size->∃ p,(arrOf z)[j]?=some p/\p∈a0.toList:=fun j hj=>by
  have hj':j<(arrOf z).size:=by lia
  exact ⟨(arrOf z)[j],Array.getElem?_eq_getElem hj',(Array.perm_iff_toList_perm.mp pm).mem_iff.mp (by simp)⟩
 have mem2:∀ p∈(arrOf z).toList,p∈a0.toList:=fun p hp=>(Array.perm_iff_toList_perm.mp pm).mem_iff.mp hp
 have e_:mergeAt'=mergeAt':=rfl
 conv at e_=>rhs;whnf
 rw [e_]
 dsimp only
 clear e_
 refine wpS_bind (wpS_get ?_)
 change (arrOf z).size=_ at sz
 have p1':=p1
 have p2':=p2
 unfold pendingOf at p1' p2'
 rw [p1',p2']
 dsimp only
 refine wpS_bind (zkK ?_)
 obtain ⟨v0,ev0,mv0⟩:=mem (sa+na) (by lia)
 refine wpS_bind (zaB ev0 ?_)
 have rv0:rkAt rk (arrOf z) (sa+na)=rk v0.1:=by unfold rkAt;rw [ev0];rfl
 refine wpS_bind (zbr c k mv0 (fun j hj=>mem _ (by lia)) hna u1 fun k hk t1 t2=>?_)
 have b1:∀ j,j<k->rkAt rk (arrOf z) (sa+j)<=rkAt rk (arrOf z) (sa+na):=fun j hj=>by
  have:=t1 j hj
  rw [rv0];unfold bey at this;simp at this;exact this
 have b2:∀ j,k<=j->j<na->rkAt rk (arrOf z) (sa+na)<rkAt rk (arrOf z) (sa+j):=fun j hj hj'=>by
  have:=t2 j hj hj'
  rw [rv0];unfold bey at this;simp at this;exact this
 dsimp only
 by_cases e1:(na - k == 0)=true
 ·rw [if_pos e1]
  have ek:k=na:=by simp at e1;lia
  refine wpS_pure (h _ (by assumption) fl pm rfl ?_ (fun _ _=>rfl))
  intro x y hxy hy
  change rkAt rk (arrOf z) (sa+x)<=rkAt rk (arrOf z) (sa+y)
  by_cases hy2:y<na
  ·exact u1 x y hxy hy2
  ·by_cases hx2:x<na
   ·have q1:=b1 x (by lia)
    by_cases hy3:y=na
    ·rw [hy3];exact q1
    ·have q2:=u2 0 (y - na) (by lia) (by lia)
     rw [ix1 (show na<=y by lia)] at q2
     simp at q2;lia
   ·have q2:=u2 (x - na) (y - na) (by lia) (by lia)
    rw [ix1 (show na<=y by lia),ix1 (show na<=x by lia)] at q2
    exact q2
 rw [if_neg e1]
 have hk2:k<na:=by simp at e1;lia
 obtain ⟨ul,eul,mul⟩:=mem (sa+k+(na - k) - 1) (by lia)
 refine wpS_bind (zaB eul ?_)
 have rul:rkAt rk (arrOf z) (sa+na - 1)=rk ul.1:=by unfold rkAt;rw [show sa+na - 1=sa+k+(na - k) - 1 by lia,eul];rfl
 refine wpS_bind (zbr c (by assumption) mul (fun j hj=>mem _ (by lia)) (by lia) u2 fun m hm t3 t4=>?_)
 have b3:∀ j,j<m->rkAt rk (arrOf z) (sa+na+j)<rkAt rk (arrOf z) (sa+na - 1):=fun j hj=>by
  have:=t3 j hj
  rw [rul];unfold bey at this;simp at this;exact this
 have b4:∀ j,m<=j->j<nb->rkAt rk (arrOf z) (sa+na - 1)<=rkAt rk (arrOf z) (sa+na+j):=fun j hj hj'=>by
  have:=t4 j hj hj'
  rw [rul];unfold bey at this;simp at this;exact this
 dsimp only
 have le1:∀ x y,x<=y->y<na->rkAt rk (arrOf z) (sa+x)<=rkAt rk (arrOf z) (sa+y):=fun x y hxy hy=>by
  by_cases e:x=y
  ·rw [e];exact Int.le_refl _
  ·exact u1 x y (by lia) hy
 have le2:∀ x y,x<=y->y<nb->rkAt rk (arrOf z) (sa+na+x)<=rkAt rk (arrOf z) (sa+na+y):=fun x y hxy hy=>by
  by_cases e:x=y
  ·rw [e];exact Int.le_refl _
  ·exact u2 x y (by lia) hy
 by_cases e2:(m == 0)=true
 ·rw [if_pos e2]
  have em:m=0:=by simpa using e2
  refine wpS_pure (h _ (by assumption) fl pm rfl ?_ (fun _ _=>rfl))
  intro x y hxy hy
  change rkAt rk (arrOf z) (sa+x)<=rkAt rk (arrOf z) (sa+y)
  by_cases hy2:y<na
  ·exact u1 x y hxy hy2
  ·by_cases hx2:x<na
   ·have q1:=b4 (y - na) (by lia) (by lia)
    have q2:=le1 x (na - 1) (by lia) (by lia)
    rw [show sa+(na - 1)=sa+na - 1 by lia] at q2
    rw [ix1 (show na<=y by lia)] at q1
    lia
   ·have q2:=u2 (x - na) (y - na) (by lia) (by lia)
    rw [ix1 (show na<=y by lia),ix1 (show na<=x by lia)] at q2
    exact q2
 rw [if_neg e2]
 have hm2:0<m:=by simp at e2;lia
 have exA:(arrOf z).extract (sa+k) (sa+na)=(arrOf z).extract (sa+k) (sa+k+(na - k)):=by rw [ix1 (show k<=na by lia)]
 have rA:Ris (rkP rk) ((arrOf z).extract (sa+k) (sa+na)).toList:=by
  rw [exA]
  refine zhL (fun x y hxy hy=>?_) (by lia)
  have:=u1 (k+x) (k+y) (by lia) (by lia)
  rw [<- Nat.add_assoc,<- Nat.add_assoc] at this
  exact this
 have rB:Ris (rkP rk) ((arrOf z).extract (sa+na) (sa+na+m)).toList:=zhL (fun x y hxy hy=>u2 x y hxy (by lia)) (by lia)
 have szA:((arrOf z).extract (sa+k) (sa+na)).size=na - k:=by simp;lia
 have szB:((arrOf z).extract (sa+na) (sa+na+m)).size=m:=by simp;lia
 have mA:∀ p∈((arrOf z).extract (sa+k) (sa+na)).toList,p∈a0.toList:=fun p hp=>mem2 p (by
  rw [zgT] at hp
  exact List.mem_of_mem_take (List.mem_of_mem_drop hp))
 have mB:∀ p∈((arrOf z).extract (sa+na) (sa+na+m)).toList,p∈a0.toList:=fun p hp=>mem2 p (by
  rw [zgT] at hp
  exact List.mem_of_mem_take (List.mem_of_mem_drop hp))
 have f1:∀ y,((arrOf z).extract (sa+na) (sa+na+m)).toList[0]?=some y->∀ x∈((arrOf z).extract (sa+k) (sa+na)).toList,rkP rk y<=rkP rk x:=fun y hy x hx=>by
  obtain ⟨j,j1,j2,j3,e⟩:=zeh (rk:=rk) hx
  have:=b2 (j - sa) (by lia) (by lia)
  rw [Nat.add_sub_of_le (show sa<=j by lia),e] at this
  have ey:rkAt rk (arrOf z) (sa+na)=rkP rk y:=zas (by rw [<- hy];simp only [Array.getElem?_toList,Array.getElem?_extract];rw [if_pos (by lia)];rfl)
  lia
 have f2:∀ x,((arrOf z).extract (sa+k) (sa+na)).toList[((arrOf z).extract (sa+k) (sa+na)).size - 1]?=some x->∀ y∈((arrOf z).extract (sa+na) (sa+na+m)).toList,rkP rk y<=rkP rk x:=fun x hx y hy=>by
  obtain ⟨j,j1,j2,j3,e⟩:=zeh (rk:=rk) hy
  have:=b3 (j - (sa+na)) (by lia)
  rw [Nat.add_sub_of_le (show sa+na<=j by lia),e] at this
  have ex:rkAt rk (arrOf z) (sa+na - 1)=rkP rk x:=zas (by
   rw [<- hx,szA];simp only [Array.getElem?_toList,Array.getElem?_extract]
   rw [if_pos (by lia),show sa+k+(na - k - 1)=sa+na - 1 by lia])
  lia
 have fin:∀ (M:Array Keyed) (z2 y:SortSt),M.toList.Perm (((arrOf z).extract (sa+k) (sa+na)).toList++((arrOf z).extract (sa+na) (sa+na+m)).toList)->Ris (rkP rk) M.toList->arrOf z2=arrOf z->kindOf y=kd->failedOf y=none->pendingOf y=((pendingOf z).setIfInBounds i (sa,na+nb,pw)).eraseIdxIfInBounds (i+1) ->
   arrOf y=(M.toList.zipIdx.foldl (fun a (q:Keyed×Nat)=>a.setIfInBounds (sa+k+q.2) q.1) (arrOf z2))->Q true y:=by
  intro M z2 y PM RM ez ky fy py ay
  have lM:M.toList.length=na - k+m:=by
   have:=PM.length_eq
   rw [List.length_append,Array.length_toList (xs:=(arrOf z).extract _ _),Array.length_toList (xs:=(arrOf z).extract _ _),szA,szB] at this
   exact this
  have ayl:(arrOf y).toList=(arrOf z).toList.take (sa+k)++M.toList++(arrOf z).toList.drop (sa+na+m):=by
   rw [ay,ez]
   have:=zhQ (sa+k) M.toList 0 (arrOf z) (by rw [lM];lia)
   rw [show sa+k+0=sa+k by lia,lM,show sa+k+(na - k+m)=sa+na+m by lia] at this
   exact this
  have split0:(arrOf z).toList=(arrOf z).toList.take (sa+k)++(((arrOf z).extract (sa+k) (sa+na)).toList++((arrOf z).extract (sa+na) (sa+na+m)).toList)++(arrOf z).toList.drop (sa+na+m):=by
   rw [exA,zc3,zc3]
   have c1:=cut2 (arrOf z).toList (sa+k) (na - k)
   rw [ix1 (show k<=na by lia)] at c1
   have c2:=cut2 (arrOf z).toList (sa+na) m
   rw [List.append_assoc,List.append_assoc,<- c2,<- c1,List.take_append_drop]
  have PY:(arrOf y).Perm a0:=by
   refine Array.Perm.trans ?_ pm
   rw [Array.perm_iff_toList_perm,ayl]
   conv=>rhs;rw [split0]
   exact List.Perm.append_right _ (List.Perm.append_left _ PM)
  have hlt:((arrOf z).toList.take (sa+k)).length=sa+k:=by simp;lia
  have outer:∀ j,j<sa+k\/sa+na+m<=j->rkAt rk (arrOf y) j=rkAt rk (arrOf z) j:=by
   intro j hj
   refine zcC ?_
   rw [<- Array.getElem?_toList,<- Array.getElem?_toList,ayl]
   rcases hj with hj | hj
   ·rw [List.append_assoc,List.getElem?_append_left (by lia),List.getElem?_take,if_pos (by lia)]
   ·rw [List.getElem?_append_right (by rw [List.length_append,lM,hlt];lia),List.length_append,lM,hlt,List.getElem?_drop]
    congr 1;lia
  have inner:∀ j,sa+k<=j->j<sa+na+m->∃ p,M.toList[j - (sa+k)]?=some p/\rkAt rk (arrOf y) j=rkP rk p:=by
   intro j j1 j2
   have hj:j - (sa+k)<M.toList.length:=by lia
   refine ⟨M.toList[j - (sa+k)],List.getElem?_eq_getElem hj,zas ?_⟩
   rw [ayl,List.getElem?_append_left (by rw [List.length_append,lM,hlt];lia),List.getElem?_append_right (by lia),hlt]
   exact List.getElem?_eq_getElem hj
  have inM:∀ p∈M.toList,∃ j,sa+k<=j/\j<sa+na+m/\rkAt rk (arrOf z) j=rkP rk p:=by
   intro p hp
   rcases List.mem_append.mp (PM.mem_iff.mp hp) with q | q
   ·obtain ⟨j,j1,j2,_,e⟩:=zeh (rk:=rk) q
    exact ⟨j,j1,by lia,e⟩
   ·obtain ⟨j,j1,j2,_,e⟩:=zeh (rk:=rk) q
    exact ⟨j,by lia,j2,e⟩
  refine h y ky fy PY py ?_ fun j hj=>outer j (by lia)
  clear PY ayl split0 szA szB hlt sz exA rv0 rul
  intro x y' hxy hy
  by_cases x1:x<k
  ·rw [outer (sa+x) (by lia)]
   by_cases y1:y'<k
   ·rw [outer (sa+y') (by lia)];exact u1 x y' hxy (by lia)
   ·have low:∀ j,sa+k<=j->j<sa+na+nb->rkAt rk (arrOf z) (sa+x)<=rkAt rk (arrOf z) j:=fun j j1 j2=>by
     by_cases j3:j<sa+na
     ·have:=u1 x (j - sa) (by lia) (by lia)
      rw [Nat.add_sub_of_le (show sa<=j by lia)] at this;exact this
     ·have q1:=b1 x x1
      have q2:=le2 0 (j - (sa+na)) (by lia) (by lia)
      rw [Nat.add_sub_of_le (show sa+na<=j by lia)] at q2
      simp at q2;lia
    by_cases y2:sa+y'<sa+na+m
    ·obtain ⟨p,ep,er⟩:=inner (sa+y') (by lia) y2
     rw [er]
     obtain ⟨j,j1,j2,e⟩:=inM p (List.mem_of_getElem? ep)
     rw [<- e];exact low j j1 (by lia)
    ·rw [outer (sa+y') (by lia)];exact low _ (by lia) (by lia)
  ·by_cases x2:sa+x<sa+na+m
   ·obtain ⟨p,ep,er⟩:=inner (sa+x) (by lia) x2
    rw [er]
    by_cases y2:sa+y'<sa+na+m
    ·obtain ⟨q,eq,er2⟩:=inner (sa+y') (by lia) y2
     rw [er2]
     have h1:sa+x - (sa+k)<M.toList.length:=by lia
     have h2:sa+y' - (sa+k)<M.toList.length:=by lia
     rw [List.getElem?_eq_getElem h1] at ep
     rw [List.getElem?_eq_getElem h2] at eq
     cases ep;cases eq
     exact List.pairwise_iff_getElem.mp RM _ _ h1 h2 (by lia)
    ·rw [outer (sa+y') (by lia)]
     obtain ⟨j,j1,j2,e⟩:=inM p (List.mem_of_getElem? ep)
     rw [<- e]
     have q4:=b4 (y' - na) (by lia) (by lia)
     rw [ix1 (show na<=y' by lia)] at q4
     by_cases j3:j<sa+na
     ·have:=le1 (j - sa) (na - 1) (by lia) (by lia)
      rw [Nat.add_sub_of_le (show sa<=j by lia),show sa+(na - 1)=sa+na - 1 by lia] at this
      lia
     ·have:=le2 (j - (sa+na)) (y' - na) (by lia) (by lia)
      rw [Nat.add_sub_of_le (show sa+na<=j by lia),ix1 (show na<=y' by lia)] at this
      exact this
   ·rw [outer (sa+x) (by lia),outer (sa+y') (by lia)]
    have:=u2 (x - na) (y' - na) (by lia) (by lia)
    rw [ix1 (show na<=x by lia),ix1 (show na<=y' by lia)] at this
    exact this
 by_cases le:na - k<=m
 ·rw [if_pos le]
  refine wpS_bind (zhd c (by assumption) mA mB rA rB (Nat.lt_of_lt_of_eq (by lia) szA.symm) (Nat.lt_of_lt_of_eq hm2 szB.symm) f1 f2 fun M z2 PM RM S=>?_)
  refine wpS_bind (wpS_modify (wpS_bind (wpS_get (wpS_pure ?_))))
  have f2':failedOf z2=none:=S.fl.trans fl
  show Q (failedOf z2).isNone _
  rw [f2']
  exact fin M z2 _ PM RM S.ar (S.kn.trans (by assumption)) f2' S.pe rfl
 ·rw [if_neg le]
  refine wpS_bind (zhe c (by assumption) mA mB rA rB (Nat.lt_of_lt_of_eq (by lia) szA.symm) (Nat.lt_of_lt_of_eq hm2 szB.symm) f1 f2 fun M z2 PM RM S=>?_)
  refine wpS_bind (wpS_modify (wpS_bind (wpS_get (wpS_pure ?_))))
  have f2':failedOf z2=none:=S.fl.trans fl
  show Q (failedOf z2).isNone _
  rw [f2']
  exact fin M z2 _ PM RM S.ar (S.kn.trans (by assumption)) f2' S.pe rfl
end
end L2
namespace L2
open PySem PySem.Spec PyProof.Rows
structure Sl (rk:Value->Int) (kd:SortKind) (a0:Array Keyed) (z0:SortSt) (lo:Nat) (z:SortSt):Prop where
 pm:(arrOf z).Perm a0
 kn:kindOf z=kd
 fl:failedOf z=none
 pe:pendingOf z=pendingOf z0
 lw:∀ j,j<lo->rkAt rk (arrOf z) j=rkAt rk (arrOf z0) j
def DnL (rk:Value->Int) (xs:Array Keyed) (lo m:Nat):Prop:=∀ i j,i<j->j<m->rkAt rk xs (lo+j)<=rkAt rk xs (lo+i)
section
variable {prog:Program}{w:World}{A:Around}{E:Value->Shared->Prop}{s:Shared}{kd:SortKind}{rk:Value->Int}{a0:Array Keyed}{z0:SortSt}{lo:Nat}
theorem Sl.sz {z:SortSt} (b:Sl rk kd a0 z0 lo z):(arrOf z).size=a0.size:=b.pm.size_eq
theorem Sl.arr {z:SortSt} (b:Sl rk kd a0 z0 lo z) {xs:Array Keyed} (h:xs.Perm (arrOf z)) (l:∀ j,j<lo->rkAt rk xs j=rkAt rk (arrOf z) j):Sl rk kd a0 z0 lo (setArr z xs):=⟨h.trans b.pm,b.kn,b.fl,b.pe,fun j hj=>(l j hj).trans (b.lw j hj)⟩
theorem askL {z:SortSt}{i j:Nat}{Q:Option Bool->SortSt->Prop} (c:Cmp prog w A s kd rk a0) (b:Sl rk kd a0 z0 lo z) (hi:i<a0.size) (hj:j<a0.size)
  (h:Q (some (decide (rkAt rk (arrOf z) i<rkAt rk (arrOf z) j))) z):wpS (model prog w) A E s (ltAt' i j) Q z:=by
 have mem:∀ k,k<a0.size->∃ p,(arrOf z)[k]?=some p/\p∈a0.toList:=fun k hk=>by
  have hk':k<(arrOf z).size:=by rw [b.sz];exact hk
  exact ⟨(arrOf z)[k],Array.getElem?_eq_getElem hk',(Array.perm_iff_toList_perm.mp b.pm).mem_iff.mp (by simp)⟩
 obtain ⟨p,ep,mp⟩:=mem i hi
 obtain ⟨q,eq,mq⟩:=mem j hj
 have r1:rkAt rk (arrOf z) i=rk p.1:=by unfold rkAt;rw [ep];rfl
 have r2:rkAt rk (arrOf z) j=rk q.1:=by unfold rkAt;rw [eq];rfl
 rw [r1,r2] at h
 rw [ltAt'_eq]
 refine wpS_bind (wpS_get ?_)
 show wpS (model prog w) A E s (elem' (arrOf z) i >>= fun x=>elem' (arrOf z) j >>= fun y=>lt' x y) Q z
 simp only [elem'_eq,ep,eq,pure_bind]
 exact zh5 c b.kn mp mq h
theorem zl6 {z:SortSt}{n ok:Nat}{Q:Bool->SortSt->Prop} (c:Cmp prog w A s kd rk a0) (hn:lo+n<=a0.size) (hok:ok<=n) (b:Sl rk kd a0 z0 lo z) (up:UpL rk (arrOf z) lo ok)
  (h:∀ y,Sl rk kd a0 z0 lo y->UpL rk (arrOf y) lo n->Q true y):wpS (model prog w) A E s (binarySort' lo n ok) Q z:=by
 rw [binarySort'_eq]
 refine wpS_bind (wpS_mono (wpS_forRange (Q:=fun c y=>c=(none,())/\Sl rk kd a0 z0 lo y/\UpL rk (arrOf y) lo n) (I:=fun k c y=>c=(none,())/\Sl rk kd a0 z0 lo y/\UpL rk (arrOf y) lo (min k n)) ?turn ?last ⟨rfl,b,fun i j h1 h2=>up i j h1 (by lia)⟩) ?post)
 case post =>
  rintro _ y ⟨rfl,by',u⟩
  exact wpS_pure (h y by' u)
 case last =>
  rintro _ y ⟨rfl,by',u⟩
  exact ⟨rfl,by',by rwa [show min (max (max ok 1) n) n=n by lia] at u⟩
 case turn =>
  rintro k _ y k1 k2 ⟨rfl,by',u⟩
  rw [show min k n=k by lia] at u
  refine wpS_bind (wpS_mono (wpS_forRange (Q:=fun c y'=>y'=y/\∃ l r,c=(none,l,r)/\l<=k/\(∀ i,i<l->rkAt rk (arrOf y) (lo+i)<=rkAt rk (arrOf y) (lo+k))/\∀ i,l<=i->i<k->rkAt rk (arrOf y) (lo+k)<rkAt rk (arrOf y) (lo+i))
   (I:=fun x c y'=>y'=y/\∃ l r,c=(none,l,r)/\l<=r/\r<=k/\r - l+x<=k/\(∀ i,i<l->rkAt rk (arrOf y) (lo+i)<=rkAt rk (arrOf y) (lo+k))/\∀ i,r<=i->i<k->rkAt rk (arrOf y) (lo+k)<rkAt rk (arrOf y) (lo+i)) ?t2 ?l2 ⟨rfl,0,k,rfl,by lia,by lia,by lia,fun i hi=>by lia,fun i i1 i2=>by lia⟩) ?p2)
  case l2 =>
   rintro _ v ⟨e,l,r,rfl,q1,q2,q3,q4,q5⟩
   subst e
   exact ⟨rfl,l,r,rfl,by lia,q4,fun i i1 i2=>q5 i (by lia) i2⟩
  case t2 =>
   rintro x _ v _ _ ⟨e,l,r,rfl,q1,q2,q3,q4,q5⟩
   subst e
   by_cases ge:r<=l
   ·simp only [ge_iff_le,ge,if_true]
    exact wpS_pure ⟨rfl,l,r,rfl,by lia,q4,fun i i1 i2=>q5 i (by lia) i2⟩
   ·simp only [ge_iff_le,ge,if_false]
    refine wpS_bind (askL c by' (by lia) (by lia) ?_)
    by_cases le:rkAt rk (arrOf v) (lo+k)<rkAt rk (arrOf v) (lo+(l+r) / 2)
    ·simp only [le,decide_true,if_true]
     refine wpS_pure ⟨rfl,l,(l+r) / 2,rfl,by lia,by lia,by lia,q4,fun i i1 i2=>?_⟩
     rcases Nat.lt_or_ge ((l+r) / 2) i with g | g
     ·have:=u _ _ g i2;lia
     ·have:i=(l+r) / 2:=by lia
      rw [this];exact le
    ·simp only [le,decide_false,Bool.false_eq_true,if_false]
     refine wpS_pure ⟨rfl,(l+r) / 2+1,r,rfl,by lia,by lia,by lia,fun i i1=>?_,q5⟩
     rcases Nat.lt_or_ge i ((l+r) / 2) with g | g
     ·have:=u _ _ g (by lia);lia
     ·have:i=(l+r) / 2:=by lia
      rw [this];lia
  case p2 =>
   rintro _ v ⟨e,l,r,rfl,q2,q4,q5⟩
   subst e
   show wpS (model prog w) A E s (moveDown' (lo+k) (lo+l) >>= fun _=>pure (ForInStep.yield (none,()))) _ v
   rw [moveDown'_eq]
   have hk:lo+k<(arrOf v).size:=by rw [by'.sz];lia
   have bub:∀ j,_:=fun j=>zmN (rk:=rk) hk (show lo+k - (lo+l)<=lo+k by lia) j
   have el:lo+k - (lo+k - (lo+l))=lo+l:=by lia
   rw [el] at bub
   refine wpS_bind (wpS_modify (wpS_pure ⟨rfl,by'.arr (bubble_perm _ _ _) (fun j hj=>(bub j).2.2 (by lia)),fun i j h1 h2=>?_⟩))
   show rkAt rk (bubble (arrOf v) (lo+k) (lo+k - (lo+l))) (lo+i)<=rkAt rk (bubble (arrOf v) (lo+k) (lo+k - (lo+l))) (lo+j)
   have hj:j<=k:=by lia
   obtain ⟨a1,a2,a3⟩:=bub (lo+i)
   obtain ⟨b1,b2,b3⟩:=bub (lo+j)
   rcases Nat.lt_trichotomy j l with jl | jl | jl
   ·rw [a3 (by lia),b3 (by lia)];exact u i j h1 (by lia)
   ·rw [a3 (by lia),b1 (by lia)];exact q4 i (by lia)
   ·rw [b2 (by lia) (by lia),show lo+j - 1=lo+(j - 1) by lia]
    rcases Nat.lt_trichotomy i l with il | il | il
    ·rw [a3 (by lia)]
     exact u i (j - 1) (by lia) (by lia)
    ·rw [a1 (by lia)];exact Int.le_of_lt (q5 (j - 1) (by lia) (by lia))
    ·rw [a2 (by lia) (by lia),show lo+i - 1=lo+(i - 1) by lia]
     exact u _ _ (by lia) (by lia)
theorem UpL.more {xs:Array Keyed}{x:Nat} (u:UpL rk xs lo x) (x1:1<=x) (g:¬rkAt rk xs (lo+x)<rkAt rk xs (lo+x - 1)):UpL rk xs lo (x+1):=fun i j h1 h2=>by
 rw [show lo+x - 1=lo+(x - 1) by lia] at g
 rcases Nat.lt_or_ge j x with jx | jx
 ·exact u i j h1 jx
 ·have ej:j=x:=by lia
  subst ej
  rcases Nat.lt_or_ge i (j - 1) with ij | ij
  ·have:=u i (j - 1) ij (by lia);lia
  ·have:i=j - 1:=by lia
   rw [this];lia
theorem DnL.more {xs:Array Keyed}{x:Nat} (u:DnL rk xs lo x) (x1:1<=x) (g:rkAt rk xs (lo+x)<=rkAt rk xs (lo+x - 1)):DnL rk xs lo (x+1):=fun i j h1 h2=>by
 rw [show lo+x - 1=lo+(x - 1) by lia] at g
 rcases Nat.lt_or_ge j x with jx | jx
 ·exact u i j h1 jx
 ·have ej:j=x:=by lia
  subst ej
  rcases Nat.lt_or_ge i (j - 1) with ij | ij
  ·have:=u i (j - 1) ij (by lia);lia
  ·have:i=j - 1:=by lia
   rw [this];lia
theorem zkX {z:SortSt}{m:Nat}{Q:Option Nat->SortSt->Prop} (c:Cmp prog w A s kd rk a0) (hm:lo+m<=a0.size) (m1:1<=m) (b:Sl rk kd a0 z0 lo z)
  (h:∀ k y,Sl rk kd a0 z0 lo y->1<=k->k<=m->UpL rk (arrOf y) lo k->Q (some k) y):wpS (model prog w) A E s (countRun' lo m) Q z:=by
 rw [countRun'_eq]
 refine wpS_bind (wpS_mono (wpS_forRange (I:=fun x c y=>y=z/\c=(none,x)/\UpL rk (arrOf z) lo x) (Q:=fun c y=>y=z/\∃ n,c=(none,n)/\1<=n/\n<=m/\UpL rk (arrOf z) lo n/\(n<m->rkAt rk (arrOf z) (lo+n)<rkAt rk (arrOf z) (lo+n - 1))) ?turn ?last ⟨rfl,rfl,fun i j h1 h2=>absurd h1 (by lia)⟩) ?post)
 case last =>
  rintro _ y ⟨rfl,rfl,u⟩
  rw [show max 1 m=m by lia] at u ⊢
  exact ⟨rfl,m,rfl,m1,Nat.le_refl _,u,fun g=>absurd g (by lia)⟩
 case turn =>
  rintro x _ y x1 x2 ⟨rfl,rfl,u⟩
  dsimp only
  refine wpS_bind (askL c b (by lia) (by lia) ?_)
  by_cases g:rkAt rk (arrOf y) (lo+x)<rkAt rk (arrOf y) (lo+x - 1)
  ·simp only [g,decide_true,if_true]
   exact wpS_pure ⟨rfl,x,rfl,x1,by lia,u,fun _=>g⟩
  ·simp only [g,decide_false,Bool.false_eq_true,if_false]
   exact wpS_pure ⟨rfl,rfl,u.more x1 g⟩
 case post =>
  rintro _ y ⟨rfl,n,rfl,n1,n2,u,lt⟩
  dsimp only
  by_cases en:n=m
  ·simp only [en,beq_self_eq_true,if_true]
   exact wpS_pure (h m y b m1 (Nat.le_refl _) (en▸u))
  have en':(n == m)=false:=by simpa using en
  simp only [en',Bool.false_eq_true,if_false]
  have l:=lt (by lia)
  have zn:lo+n<=(arrOf y).size:=by rw [b.sz];lia
  have pre:n<=1\/1<n:=by lia
  have both:∀ (F:StateT SortSt Sem (Option Nat)) ,(∀ y',Sl rk kd a0 z0 lo y'->DnL rk (arrOf y') lo (n+1)->wpS (model prog w) A E s F Q y')->wpS (model prog w) A E s (if n > 1 then ltAt' lo (lo+n - 1) >>= fun x=>match x with
    | some rose=>if rose=true then pure (some n) else reverseSlice' lo (lo+n) >>= fun _=>F
    | _=>pure none
   else F) Q y:=by
   intro F hF
   by_cases g:n > 1
   ·simp only [g,if_true]
    refine wpS_bind (askL c b (by lia) (by lia) ?_)
    by_cases rose:rkAt rk (arrOf y) lo<rkAt rk (arrOf y) (lo+n - 1)
    ·simp only [rose,decide_true,if_true]
     exact wpS_pure (h n y b n1 n2 u)
    ·simp only [rose,decide_false,Bool.false_eq_true,if_false]
     have al:∀ k,lo<=k->k<lo+n->rkAt rk (arrOf y) k=rkAt rk (arrOf y) (lo+n - 1):=fun k k1 kn=>by
      have p:rkAt rk (arrOf y) lo<=rkAt rk (arrOf y) k:=by
       rcases Nat.eq_or_lt_of_le k1 with k0 | k0
       ·rw [k0];exact Int.le_refl _
       ·have:=u 0 (k - lo) (by lia) (by lia)
        rw [show lo+(k - lo)=k by lia] at this
        exact this
      have q:rkAt rk (arrOf y) k<=rkAt rk (arrOf y) (lo+n - 1):=by
       rcases Nat.lt_or_ge k (lo+n - 1) with kk | kk
       ·have:=u (k - lo) (n - 1) (by lia) (by lia)
        rw [show lo+(k - lo)=k by lia,show lo+(n - 1)=lo+n - 1 by lia] at this
        exact this
       ·rw [show k=lo+n - 1 by lia];exact Int.le_refl _
      lia
     refine wpS_bind (wpS_reverse (hF _ (b.arr (mirror_perm _ _ _ _) fun j hj=>zbk zn al j) fun i j h1 h2=>?_))
     show rkAt rk (mirror (arrOf y) lo (lo+n) ((lo+n - lo) / 2)) (lo+j)<=rkAt rk (mirror (arrOf y) lo (lo+n) ((lo+n - lo) / 2)) (lo+i)
     rw [zbk zn al,zbk zn al]
     have ai:=al (lo+i) (by lia) (by lia)
     rcases Nat.lt_or_ge j n with jn | jn
     ·have:=al (lo+j) (by lia) (by lia);lia
     ·rw [show j=n by lia];lia
   ·simp only [g,if_false]
    have e1:n=1:=by lia
    subst e1
    refine hF y b fun i j h1 h2=>?_
    rw [show i=0 by lia,show j=1 by lia]
    exact Int.le_of_lt l
  refine both _ fun y b dn=>?_
  clear both
  refine wpS_bind (wpS_lift (wpAny_rule ⟨rfl,wpS_bind ?_⟩))
  refine wpS_mono (wpS_forRange (I:=fun x c y=>∃ e,c=(none,x,e)/\Sl rk kd a0 z0 lo y/\DnL rk (arrOf y) lo x/\e<x/\∀ i,lo+x - (e+1)<=i->i<lo+x->rkAt rk (arrOf y) i=rkAt rk (arrOf y) (lo+x - 1))
   (Q:=fun c y=>∃ x e,c=(none,x,e)/\1<=x/\x<=m/\Sl rk kd a0 z0 lo y/\DnL rk (arrOf y) lo x/\e<x/\∀ i,lo+x - (e+1)<=i->i<lo+x->rkAt rk (arrOf y) i=rkAt rk (arrOf y) (lo+x - 1)) ?turn2 ?last2 ⟨0,rfl,b,dn,by lia,fun i i1 i2=>by rw [show i=lo+(n+1) - 1 by lia]⟩) ?post2
  case last2 =>
   rintro _ y ⟨e,rfl,q⟩
   rw [show max (n+1) m=m by lia] at *
   exact ⟨m,e,rfl,m1,Nat.le_refl _,q⟩
  case turn2 =>
   rintro x _ y x1 x2 ⟨e,rfl,by',d,ex,al⟩
   have xz:lo+x<=(arrOf y).size:=by rw [by'.sz];lia
   dsimp only
   refine wpS_bind (askL c by' (show lo+x<a0.size by lia) (show lo+x - 1<a0.size by lia) ?_)
   have one:∀ xs:Array Keyed,∀ i,lo+(x+1) - (0+1)<=i->i<lo+(x+1)->rkAt rk xs i=rkAt rk xs (lo+(x+1) - 1):=fun xs i i1 i2=>by rw [show i=lo+(x+1) - 1 by lia]
   by_cases g:rkAt rk (arrOf y) (lo+x)<rkAt rk (arrOf y) (lo+x - 1)
   ·simp only [g,decide_true,if_true]
    have d2:∀ xs:Array Keyed,(∀ k,rkAt rk xs k=rkAt rk (arrOf y) k)->DnL rk xs lo (x+1):=fun xs hx i j h1 h2=>by
     rw [hx,hx]
     exact d.more (by lia) (Int.le_of_lt g) i j h1 h2
    by_cases e0:e > 0
    ·simp only [e0,if_true]
     exact wpS_bind (wpS_reverse (wpS_pure ⟨0,rfl,by'.arr (mirror_perm _ _ _ _) (fun j hj=>zbk xz al j),d2 _ (zbk xz al),by lia,one _⟩))
    ·simp only [e0,if_false]
     exact wpS_pure ⟨0,rfl,by',d2 _ (fun _=>rfl),by lia,one _⟩
   ·simp only [g,decide_false,Bool.false_eq_true,if_false]
    refine wpS_bind (askL c by' (show lo+x - 1<a0.size by lia) (show lo+x<a0.size by lia) ?_)
    by_cases g2:rkAt rk (arrOf y) (lo+x - 1)<rkAt rk (arrOf y) (lo+x)
    ·simp only [g2,decide_true,if_true]
     exact wpS_pure ⟨x,e,rfl,by lia,by lia,by',d,ex,al⟩
    ·simp only [g2,decide_false,Bool.false_eq_true,if_false]
     have eqx:rkAt rk (arrOf y) (lo+x)=rkAt rk (arrOf y) (lo+x - 1):=by lia
     refine wpS_pure ⟨e+1,rfl,by',d.more (by lia) (by lia),by lia,fun i i1 i2=>?_⟩
     rw [show lo+(x+1) - 1=lo+x by lia]
     rcases Nat.lt_or_ge i (lo+x) with ix | ix
     ·rw [al i (by lia) ix,eqx]
     ·rw [show i=lo+x by lia]
  case post2 =>
   rintro _ y ⟨x,e,rfl,x1,x2,by',d,ex,al⟩
   have kz:lo+x<=(arrOf y).size:=by rw [by'.sz];lia
   dsimp only
   have fin:∀ (F:StateT SortSt Sem (Option Nat)),(∀ y',Sl rk kd a0 z0 lo y'->DnL rk (arrOf y') lo x->wpS (model prog w) A E s F Q y')->wpS (model prog w) A E s (if e > 0 then reverseSlice' (lo+x - (e+1)) (lo+x) >>= fun _=>F else F) Q y:=by
    intro F hF
    by_cases e0:e > 0
    ·simp only [e0,if_true]
     refine wpS_bind (wpS_reverse (hF _ (by'.arr (mirror_perm _ _ _ _) fun j hj=>zbk kz al j) fun i j h1 h2=>?_))
     show rkAt rk (mirror (arrOf y) (lo+x - (e+1)) (lo+x) ((lo+x - (lo+x - (e+1))) / 2)) (lo+j)<=rkAt rk (mirror (arrOf y) (lo+x - (e+1)) (lo+x) ((lo+x - (lo+x - (e+1))) / 2)) (lo+i)
     rw [zbk kz al,zbk kz al]
     exact d i j h1 h2
    ·simp only [e0,if_false]
     exact hF y by' d
   refine fin _ fun y by' d=>?_
   clear fin
   have hz:lo+x<=(arrOf y).size:=by rw [by'.sz];lia
   have b2:=by'.arr (mirror_perm (arrOf y) lo (lo+x) ((lo+x - lo) / 2)) fun j hj=>(zgu (rk:=rk) hz j).2 (.inl hj)
   refine wpS_bind (wpS_reverse (wpS_bind ?_))
   have u2:UpL rk (mirror (arrOf y) lo (lo+x) ((lo+x - lo) / 2)) lo x:=fun i j h1 h2=>by
    rw [(zgu (rk:=rk) hz (lo+i)).1 (by lia) (by lia),(zgu (rk:=rk) hz (lo+j)).1 (by lia) (by lia)]
    have:=d (x - 1 - j) (x - 1 - i) (by lia) (by lia)
    rw [show lo+(x - 1 - j)=lo+(lo+x) - 1 - (lo+j) by lia,show lo+(x - 1 - i)=lo+(lo+x) - 1 - (lo+i) by lia] at this
    exact this
   change UpL rk (arrOf (setArr y (mirror (arrOf y) lo (lo+x) ((lo+x - lo) / 2)))) lo x at u2
   generalize setArr y (mirror (arrOf y) lo (lo+x) ((lo+x - lo) / 2))=v at b2 u2 ⊢
   refine wpS_mono (wpS_forRange (I:=fun x c y=>y=v/\c=(none,x)/\UpL rk (arrOf v) lo x) (Q:=fun c y=>y=v/\∃ n,c=(none,n)/\1<=n/\n<=m/\UpL rk (arrOf v) lo n) ?turn3 ?last3 ⟨rfl,rfl,u2⟩) ?post3
   case last3 =>
    rintro _ y ⟨rfl,rfl,u⟩
    rw [show max x m=m by lia] at u ⊢
    exact ⟨rfl,m,rfl,m1,Nat.le_refl _,u⟩
   case turn3 =>
    rintro x' _ y x1 x2 ⟨rfl,rfl,u⟩
    dsimp only
    refine wpS_bind (askL c b2 (by lia) (by lia) ?_)
    by_cases g:rkAt rk (arrOf y) (lo+x')<rkAt rk (arrOf y) (lo+x' - 1)
    ·simp only [g,decide_true,if_true]
     exact wpS_pure ⟨rfl,x',rfl,by lia,by lia,u⟩
    ·simp only [g,decide_false,Bool.false_eq_true,if_false]
     exact wpS_pure ⟨rfl,rfl,u.more (by lia) g⟩
   case post3 =>
    rintro _ y ⟨rfl,n,rfl,n1,n2,u⟩
    exact wpS_pure (h n y b2 n1 n2 u)
end
end L2
namespace L2
open PySem PySem.Spec PyProof.Rows
abbrev Run3:=Nat×Nat×Nat
def Side:List Run3->Nat->Nat->Prop
 | [],a,b=>a=b
 | q::r,a,b=>q.1=a/\0<q.2.1/\Side r (a+q.2.1) b
theorem zcf:∀ {l m:List Run3}{a b:Nat},Side (l++m) a b↔∃ c,Side l a c/\Side m c b
 | [],m,a,b=>⟨fun h=>⟨a,rfl,h⟩,fun ⟨c,e,h⟩=>by cases e;exact h⟩
 | q::l,m,a,b=>by
  constructor
  ·rintro ⟨h1,h2,h3⟩
   obtain ⟨c,c1,c2⟩:=zcf.mp h3
   exact ⟨c,⟨h1,h2,c1⟩,c2⟩
  ·rintro ⟨c,⟨h1,h2,c1⟩,c2⟩
   exact ⟨h1,h2,zcf.mpr ⟨c,c1,c2⟩⟩
theorem zc9:∀ {l:List Run3}{a b:Nat},Side l a b->a+l.length<=b/\∀ q∈l,a<=q.1/\q.1+q.2.1<=b
 | [],a,b,h=>⟨by cases h;simp,fun q hq=>nomatch hq⟩
 | p::l,a,b,⟨h1,h2,h3⟩=>by
  obtain ⟨i1,i2⟩:=zc9 h3
  refine ⟨by simp only [List.length_cons];lia,fun q hq=>?_⟩
  rcases List.mem_cons.mp hq with rfl | m
  ·lia
  ·have:=i2 q m;lia
theorem zgr {f:Run3->Run3} (hf:∀ q,(f q).1=q.1/\(f q).2.1=q.2.1):∀ {l:List Run3}{i a b:Nat},Side l a b->Side (l.modify i f) a b/\∀ q'∈l.modify i f,∃ q∈l,q'.1=q.1/\q'.2.1=q.2.1
 | [],i,a,b,h=>by simp only [List.modify_nil];exact ⟨h,fun q hq=>nomatch hq⟩
 | p::l,0,a,b,⟨h1,h2,h3⟩=>by
  rw [List.modify_zero_cons]
  refine ⟨⟨(hf p).1.trans h1,(hf p).2▸h2,(hf p).2▸h3⟩,fun q hq=>?_⟩
  rcases List.mem_cons.mp hq with rfl | m
  ·exact ⟨p,List.mem_cons_self,hf p⟩
  ·exact ⟨q,List.mem_cons_of_mem _ m,rfl,rfl⟩
 | p::l,i+1,a,b,⟨h1,h2,h3⟩=>by
  rw [List.modify_succ_cons]
  obtain ⟨i1,i2⟩:=zgr hf (i:=i) h3
  refine ⟨⟨h1,h2,i1⟩,fun q hq=>?_⟩
  rcases List.mem_cons.mp hq with rfl | m
  ·exact ⟨q,List.mem_cons_self,rfl,rfl⟩
  ·obtain ⟨q',m',e⟩:=i2 q m
   exact ⟨q',List.mem_cons_of_mem _ m',e⟩
theorem zeI {α:Type}{x y v:α}:∀ (l r:List α),((l++x::y::r).set l.length v).eraseIdx (l.length+1)=l++v::r
 | [],r=>rfl
 | a::l,r=>by
  have:=zeI (x:=x) (y:=y) (v:=v) l r
  simp only [List.cons_append,List.length_cons,List.set_cons_succ,List.eraseIdx_cons_succ,this]
structure Rn (rk:Value->Int) (kd:SortKind) (a0:Array Keyed) (lo:Nat) (z:SortSt):Prop where
 pm:(arrOf z).Perm a0
 kn:kindOf z=kd
 fl:failedOf z=none
 sd:Side (pendingOf z).toList 0 lo
 ls:lo<=a0.size
 up:∀ q∈(pendingOf z).toList,UpL rk (arrOf z) q.1 q.2.1
theorem UpL.same {rk:Value->Int}{xs ys:Array Keyed}{lo m:Nat} (u:UpL rk xs lo m) (e:∀ j,lo<=j->j<lo+m->rkAt rk ys j=rkAt rk xs j):UpL rk ys lo m:=fun i j h1 h2=>by
 rw [e (lo+i) (by lia) (by lia),e (lo+j) (by lia) (by lia)]
 exact u i j h1 h2
section
variable {prog:Program}{w:World}{A:Around}{E:Value->Shared->Prop}{s:Shared}{kd:SortKind}{rk:Value->Int}{a0:Array Keyed}{z0:SortSt}{lo:Nat}
theorem zkn {i:Nat}{z:SortSt}{Q:Bool->SortSt->Prop} (c:Cmp prog w A s kd rk a0) (R:Rn rk kd a0 lo z) (hi:i+1<(pendingOf z).size)
  (h:∀ y,Rn rk kd a0 lo y->(pendingOf y).size+1=(pendingOf z).size->(∀ j,lo<=j->rkAt rk (arrOf y) j=rkAt rk (arrOf z) j)->Q true y):wpS (model prog w) A E s (mergeAt' i) Q z:=by
 obtain ⟨l,x,y,r,el,ei⟩:∃ l x y r,(pendingOf z).toList=l++x::y::r/\l.length=i:=by
  have h1:i<(pendingOf z).toList.length:=by simp;lia
  have h2:i+1<(pendingOf z).toList.length:=by simp;lia
  refine ⟨(pendingOf z).toList.take i,(pendingOf z).toList[i],(pendingOf z).toList[i+1],(pendingOf z).toList.drop (i+2),?_,by simp;lia⟩
  rw [<- List.drop_eq_getElem_cons h2,<- List.drop_eq_getElem_cons h1,List.take_append_drop]
 obtain ⟨sa,na,pw⟩:=x
 obtain ⟨sb,nb,pw2⟩:=y
 have sd:=R.sd
 rw [el] at sd
 obtain ⟨a,s1,q1,q2,q3,q4,q5⟩:=zcf.mp sd
 dsimp only at q1 q2 q3 q4 q5
 subst q1
 subst q3
 have up:=R.up
 rw [el] at up
 obtain ⟨t1,t2⟩:=zc9 q5
 have t3:=zc9 s1
 have ls:=R.ls
 refine zhf (sa:=sa) (na:=na) (nb:=nb) (pw:=pw) (pw2:=pw2) c R.kn R.fl R.pm ?_ ?_ q2 q4 (by lia) (up (sa,na,pw) (by simp)) (up (sa+na,nb,pw2) (by simp)) fun y' ky fy py pe u out=>?_
 ·rw [<- Array.getElem?_toList,el,List.getElem?_append_right (by lia),show i - l.length=0 by lia];rfl
 ·rw [<- Array.getElem?_toList,el,List.getElem?_append_right (by lia),show i+1 - l.length=1 by lia];rfl
 ·have pl:(pendingOf y').toList=l++(sa,na+nb,pw)::r:=by
   rw [pe]
   subst ei
   rw [Array.toList_eraseIdxIfInBounds,Array.toList_setIfInBounds,el]
   exact zeI l r
  refine h y' ⟨py,ky,fy,?_,R.ls,?_⟩ ?_ fun j hj=>out j (.inr (by lia))
  ·rw [pl]
   refine zcf.mpr ⟨sa,s1,rfl,by show 0<na+nb;lia,?_⟩
   show Side r (sa+(na+nb)) lo
   rw [<- Nat.add_assoc];exact q5
  ·rw [pl]
   intro q hq
   rcases List.mem_append.mp hq with m | m
   ·exact (up q (by simp [m])).same fun j j1 j2=>out j (.inl (by have:=t3.2 q m;lia))
   ·rcases List.mem_cons.mp m with rfl | m
    ·exact u
    ·exact (up q (by simp [m])).same fun j j1 j2=>out j (.inr (by have:=t2 q m;lia))
  ·have e1:(pendingOf y').size=(pendingOf y').toList.length:=by simp
   have e2:(pendingOf z).size=(pendingOf z).toList.length:=by simp
   rw [e1,e2,pl,el];simp;lia
theorem zjm {z:SortSt}{Q:Unit->SortSt->Prop} (c:Cmp prog w A s kd rk a0) (b:Sb kd a0 z) (s2:2<=a0.size)
  (h:∀ y,(arrOf y).Perm a0->failedOf y=none->Up rk (arrOf y) a0.size->Q () y):wpS (model prog w) A E s sortRuns' Q z:=by
 rw [sortRuns'_eq]
 refine wpS_bind (wpS_get ?_)
 rw [b.sz]
 dsimp only
 generalize minRun' a0.size a0.size 0=mr
 refine wpS_bind (wpS_mono (wpS_forRange (Q:=fun c y=>∃ lo,c=(none,lo)/\Rn rk kd a0 lo y/\a0.size<=lo)
  (I:=fun x c y=>∃ lo,c=(none,lo)/\Rn rk kd a0 lo y/\x<=lo) ?turn ?last ⟨0,rfl,⟨b.pm,b.kn,b.fl,by rw [b.pe];rfl,by lia,by rw [b.pe];intro q hq;simp at hq⟩,by lia⟩) ?post)
 case last =>
  rintro _ y ⟨lo,rfl,R,hx⟩
  exact ⟨lo,rfl,R,by lia⟩
 case turn =>
  rintro x _ y _ hx ⟨lo,rfl,R,hl⟩
  dsimp only
  by_cases ge:lo>=a0.size
  ·rw [if_pos ge]
   exact wpS_pure ⟨lo,rfl,R,ge⟩
  rw [if_neg ge]
  have rest:∀ (n:Nat) (y1:SortSt),1<=n->lo+n<=a0.size->Sl rk kd a0 y lo y1->UpL rk (arrOf y1) lo n->Rn rk kd a0 lo y1:=fun n y1 n1 n2 S u=>by
   refine ⟨S.pm,S.kn,S.fl,S.pe▸R.sd,R.ls,?_⟩
   rw [S.pe]
   intro q hq
   exact (R.up q hq).same fun j j1 j2=>S.lw j (by have:=(zc9 R.sd).2 q hq;lia)
  have push:∀ (n:Nat) (y1:SortSt),1<=n->lo+n<=a0.size->Rn rk kd a0 lo y1->UpL rk (arrOf y1) lo n->Rn rk kd a0 (lo+n) (setPending y1 ((pendingOf y1).push (lo,n,0))):=fun n y1 n1 n2 S u=>by
   have e:(pendingOf (setPending y1 ((pendingOf y1).push (lo,n,0)))).toList=(pendingOf y1).toList++[(lo,n,0)]:=by
    show ((pendingOf y1).push (lo,n,0)).toList=_
    simp
   refine ⟨S.pm,S.kn,S.fl,?_,n2,?_⟩
   ·rw [e]
    exact zcf.mpr ⟨lo,S.sd,rfl,n1,rfl⟩
   ·rw [e]
    intro q hq
    rcases List.mem_append.mp hq with m | m
    ·exact S.up q m
    ·cases List.mem_singleton.mp m
     exact u
  refine wpS_bind (zkX (z0:=y) (lo:=lo) c (by lia) (by lia) ⟨R.pm,R.kn,R.fl,rfl,fun _ _=>rfl⟩ fun k y1 S1 k1 k2 u1=>?_)
  dsimp only
  by_cases g:k<mr
  rw [if_pos g]
  refine wpS_bind (wpS_lift (wpAny_rule ⟨rfl,wpS_bind (zl6 c (n:=min (a0.size - lo) mr) (by lia) (by lia) S1 u1 fun y2 S2 u2=>?_)⟩))
  simp only [Bool.not_true,Bool.false_eq_true,if_false]
  have n1:1<=min (a0.size - lo) mr:=by lia
  have n2:lo+min (a0.size - lo) mr<=a0.size:=by lia
  generalize min (a0.size - lo) mr=n at u2 n1 n2 ⊢
  rotate_left 1
  rw [if_neg g]
  have n1:1<=k:=k1
  have n2:lo+k<=a0.size:=by lia
  have S2:=S1
  have u2:=u1
  revert S1 u1 S2 u2
  generalize y1=y2
  generalize k=n at n1 n2 ⊢
  intro _ _ S2 u2
  all_goals
   have R2:=rest n y2 n1 n2 S2 u2
   refine wpS_bind (wpS_get ?_)
   cases hb:(pendingOf y2).back? with
   | none =>
    dsimp only
    exact wpS_bind (wpS_modify (wpS_pure ⟨_,rfl,push n y2 n1 n2 R2 u2,by lia⟩))
   | some q =>
    obtain ⟨q1,q2,q3⟩:=q
    dsimp only
    generalize power' a0.size (2*q1+q2) (2*q1+q2+q2+n) a0.size=pw
    refine wpS_bind (wpS_mono (wpS_forRange (I:=fun _ c v=>c=(none,())/\Rn rk kd a0 lo v/\UpL rk (arrOf v) lo n) (Q:=fun c v=>c=(none,())/\Rn rk kd a0 lo v/\UpL rk (arrOf v) lo n) ?_ (fun _ _ I=>I) ⟨rfl,R2,u2⟩) ?_)
    ·rintro x' _ v _ _ ⟨rfl,Rv,uv⟩
     refine wpS_bind (wpS_get ?_)
     by_cases big:(pendingOf v).size > 1
     ·rw [if_pos big,Array.getElem?_eq_getElem (by lia)]
      generalize (pendingOf v)[(pendingOf v).size - 2]'(by lia)=o
      obtain ⟨o1,o2,o3⟩:=o
      dsimp only
      by_cases po:o3<=pw
      ·rw [if_pos po]
       exact wpS_pure ⟨rfl,Rv,uv⟩
      ·rw [if_neg po]
       refine wpS_bind (zkn c Rv (by lia) fun y' R' _ out=>?_)
       simp only [Bool.not_true,Bool.false_eq_true,if_false]
       exact wpS_pure ⟨rfl,R',uv.same fun j j1 _=>out j j1⟩
     ·rw [if_neg big]
      exact wpS_pure ⟨rfl,Rv,uv⟩
    ·rintro _ v ⟨rfl,Rv,uv⟩
     dsimp only
     have m:=zgr (f:=fun x=>(x.1,x.2.1,pw)) (fun q=>⟨rfl,rfl⟩) (i:=(pendingOf v).size - 1) Rv.sd
     refine wpS_bind (wpS_modify (wpS_bind (wpS_modify (wpS_pure ⟨_,rfl,push n _ n1 n2 ⟨Rv.pm,Rv.kn,Rv.fl,?_,Rv.ls,?_⟩ uv,by lia⟩))))
     ·show Side ((pendingOf v).modify _ _).toList 0 lo
      rw [Array.toList_modify]
      exact m.1
     ·show ∀ q∈((pendingOf v).modify _ _).toList,UpL rk (arrOf v) q.1 q.2.1
      rw [Array.toList_modify]
      intro q hq
      obtain ⟨q',m',e1,e2⟩:=m.2 q hq
      rw [e1,e2]
      exact Rv.up q' m'
 case post =>
  rintro _ y ⟨lo,rfl,R,hl⟩
  have el:lo=a0.size:=by have:=R.ls;lia
  subst el
  dsimp only
  have p0:=(zc9 R.sd).1
  have ps:(pendingOf y).toList.length=(pendingOf y).size:=by simp
  refine wpS_bind (wpS_mono (wpS_forRange (I:=fun x c v=>c=(none,())/\Rn rk kd a0 a0.size v/\((pendingOf v).size<=1\/(pendingOf v).size+x<=a0.size)) (Q:=fun c v=>c=(none,())/\Rn rk kd a0 a0.size v/\(pendingOf v).size<=1) ?_ ?_ ⟨rfl,R,.inr (by lia)⟩) ?_)
  ·rintro x _ v _ hx ⟨rfl,Rv,sz⟩
   refine wpS_bind (wpS_get ?_)
   by_cases le:(pendingOf v).size<=1
   ·rw [if_pos le]
    exact wpS_pure ⟨rfl,Rv,le⟩
   rw [if_neg le]
   refine wpS_bind (zkn c Rv ?_ fun y' R' e _=>?_)
   ·have ile:∀ (p:Prop) [Decidable p] (a b n:Nat),a<=n->b<=n->(if p then a else b)<=n:=by intros;split <;> assumption
    exact Nat.lt_of_le_of_lt (Nat.add_le_add_right (ile _ _ _ ((pendingOf v).size - 2) (by lia) (Nat.le_refl _)) 1) (by lia)
   ·simp only [Bool.not_true,Bool.false_eq_true,if_false]
    exact wpS_pure ⟨rfl,R',.inr (by lia)⟩
  ·rintro _ v ⟨rfl,Rv,sz⟩
   exact ⟨rfl,Rv,by lia⟩
  ·rintro _ v ⟨rfl,Rv,sz⟩
   refine wpS_pure (h v Rv.pm Rv.fl ?_)
   have sd:=Rv.sd
   have up:=Rv.up
   have ps:(pendingOf v).toList.length=(pendingOf v).size:=by simp
   generalize (pendingOf v).toList=L at sd up ps
   match L,sd,up,ps with
   | [],sd,_,_ =>
    have:(0:Nat)=a0.size:=sd
    lia
   | [q],sd,up,_ =>
    obtain ⟨e1,_,e2⟩:=sd
    have e2:0+q.2.1=a0.size:=e2
    have u:=up q (by simp)
    intro i j h1 h2
    have:=u i j h1 (by lia)
    rw [e1] at this
    simpa using this
   | _::_::_,_,_,ps=>simp at ps;lia
end
end L2
namespace L2
open PySem PySem.Spec PyProof.Rows
theorem zjl {prog:Program}{w:World}{A:Around}{E:Value->Shared->Prop}{s:Shared}{kd:SortKind}{rk:Value->Int}{a0:Array Keyed}{z:SortSt}{Q:Unit->SortSt->Prop} (c:Cmp prog w A s kd rk a0) (b:Sb kd a0 z) (s2:2<=a0.size) (_:a0.size<100000)
  (h:∀ y,(arrOf y).Perm a0->failedOf y=none->Up rk (arrOf y) a0.size->Q () y):wpS (model prog w) A E s sortRuns' Q z:=zjm c b s2 h
end L2
namespace L2
open PySem PySem.Spec PyProof.Rows
def midH (h:Heap) (a:Addr) (vs:List Value):Heap:=((h.update a (Obj.mapSeq fun _=>#[])).push (seqObj "tuple" vs.toArray 0)).push (seqObj "list" #[] 0)
section
variable {prog:Program}{w:World}{A:Around}{E:Value->Shared->Prop}{s:Shared}{rk:Value->Int}
def Kinds (prog:Program) (w:World) (A:Around) (s:Shared) (rk:Value->Int) (vs:List Value):Prop:=2<=vs.length->∃ kd,(∀ (E:Value->Shared->Prop) (Q:SortKind->Shared->Prop),Q kd s->wpAny (model prog w) A (keyKind' vs.toArray) Q E s)/\Cmp prog w A s kd rk (pairsOf vs)
theorem zjM {a:Addr}{vs:List Value}{n:Nat}{P:Fin->Shared->Prop} (ho:s.heap.get? a=some (seqObj "list" vs.toArray n)) (h64:vs.length<100000) (hk:Kinds prog w A { s with heap:=midH s.heap a vs } rk vs)
  (h:∀ y:SortSt,(arrOf y).Perm (pairsOf vs)->Up rk (arrOf y) vs.length->P (.done (.ret .none)) { s with heap:=sortedHeap s.heap a vs ((arrOf y).map (·.2)) }) :
  wpAny (model prog w) A (Builtin.«list.sort» ⟨[.ref a],[]⟩) P E s:=by
 rw [list_sort_plain]
 have la:a<s.heap.objs.size:=Heap.lt_size ho
 refine wpAny_bind (listItems_at ho rfl (wpAny_bind (listUpdate_at ho rfl ?_)))
 obtain ⟨e1,o1⟩:∃ e1,(s.heap.update a (Obj.mapSeq fun _=>#[])).get? a=some (seqObj "list" #[] e1):=⟨_,get?_update_seq ho (fun _=>#[])⟩
 refine wpAny_bind (seqEpoch_at o1 rfl (wpAny_bind (wpAny_newTuple (wpAny_bind (wpAny_newList (wpAny_holding ?_))))))
 have o2:(midH s.heap a vs).get? a=some (seqObj "list" #[] e1):=by
  unfold midH
  rw [Heap.get?_push_ne _ _ _ (by rw [size_push',Heap.size_update];exact Nat.ne_of_lt (Nat.lt_of_lt_of_le la (Nat.le_succ _))),Heap.get?_push_ne _ _ _ (by rw [Heap.size_update];exact Nat.ne_of_lt la)]
  exact o1
 show wpAny (model prog w) A _ P E { s with heap:=midH s.heap a vs }
 have z:vs.toArray.size=vs.length:=by simp
 have tail:∀ (y:SortSt),(arrOf y).Perm (pairsOf vs)->failedOf y=none->Up rk (arrOf y) vs.length->wpAny (model prog w) A (do
   let touched:=(<- seqEpoch a) != e1
   Builtin.List.listUpdate (.ref a) fun _=>(arrOf y).map (·.2)
   if let some e:=failedOf y then rule "list.sort.comparison-raised";throw e
   if touched then rule "list.sort.modified";raiseError "ValueError" "list modified during sort"
   ret .none) P E { s with heap:=midH s.heap a vs }:=fun y pm fl up=>by
  refine wpAny_bind (seqEpoch_at o2 rfl (wpAny_bind (listUpdate_at o2 rfl ?_ (hsz2:=?_))))
  ·rw [fl]
   simp only [bne_self_eq_false,Bool.false_eq_true,if_false]
   exact wpAny_pure (h y pm up)
  ·rw [Array.size_map,pm.size_eq,pairsOf_size]
   show vs.length<=sizeLine+1
   have:100000<=sizeLine:=by decide
   omega
 by_cases two:vs.length<2
 ·simp only [z,two,if_true]
  refine wpAny_bind (wpAny_pure ?_)
  rw [StateT.run_pure]
  refine wpAny_bind (wpAny_pure ?_)
  exact tail (SortSt.mk' general' (vs.toArray.zip vs.toArray) #[] 7 none) (Array.Perm.refl _) rfl fun i j h1 h2=>absurd h2 (by omega)
 ·simp only [z,two,if_false]
  obtain ⟨kd,k1,k2⟩:=hk (by omega)
  refine wpAny_bind (k1 _ _ ?_)
  refine wpAny_bind (wpAny_mono (zjl (Q:=fun _ y=>(arrOf y).Perm (pairsOf vs)/\failedOf y=none/\Up rk (arrOf y) vs.length) (z:=SortSt.mk' kd (vs.toArray.zip vs.toArray) #[] 7 none) k2 ⟨Array.Perm.refl _,rfl,rfl,rfl⟩ (by rw [pairsOf_size];omega) (by rw [pairsOf_size];exact h64)
   fun y p1 p2 p3=>⟨p1,p2,by rwa [pairsOf_size] at p3⟩) ?_ fun _ _ e=>e)
  rintro ⟨⟨⟩,y⟩ s' ⟨rfl,p1,p2,p3⟩
  exact tail y p1 p2 p3
theorem zgc {l:Addr}{vs:List Value}{o:Obj}{T:String}{n:Nat}{Q:List Value->Shared->Prop} (ho:s.heap.get? l=some o) (hc:o.cls=.type T) (hT:T = "list" \/ T = "tuple") (hd:o.data=.seq vs.toArray n) (hz:vs.length<=sizeLine)
  (h:Q vs { s with heap:=(s.heap.push (seqObj "list" #[] 0)).update s.heap.objs.size (Obj.mapSeq (·++vs.toArray)) }):wpAny (model prog w) A (collect (.ref l)) Q E s:=by
 unfold collect
 refine wpAny_bind (wpAny_runValue (codeAny_builtin entry_proto_collect' ?_))
 show wpAny (model prog w) _ (newList [] >>= fun x=>again (.builtin "list.__iadd__" ⟨[x,.ref l],[]⟩)) _ _ s
 refine wpAny_bind (wpAny_newList (wpAny_pure ⟨Code.quiet_builtin _ (by decide +kernel),codeAny_builtin entry_list_iadd' ?_⟩))
 show wpAny (model prog w) _ (Builtin.List.listExtendWith (.ref s.heap.objs.size) (.ref l) (.ref s.heap.objs.size)) _ _ { s with heap:=s.heap.push (seqObj "list" #[] 0) }
 unfold Builtin.List.listExtendWith
 have o1:(s.heap.push (seqObj "list" #[] 0)).get? l=some o:=Heap.get?_push_of_some _ ho
 refine wpAny_bind (wpAny_typeOf (T:=T) ⟨o,o1,hc⟩ ?_)
 have cond:∀ b:Bool,(b||Value.type T == Value.type "list" || Value.type T == Value.type "tuple")=true:=by
  intro b
  have c1:(Value.type "list" == Value.type "list")=true:=rfl
  have c2:(Value.type "tuple" == Value.type "tuple")=true:=rfl
  rcases hT with rfl | rfl
  ·rw [c1];simp
  ·rw [c2];simp
 rw [if_pos (cond _)]
 refine wpAny_bind (listItems_at o1 hd (wpAny_bind (listItems_at (xs:=#[]) (n:=0) (Heap.get?_push_size _ rfl) rfl ?_)))
 rw [if_neg (by simp)]
 refine wpAny_bind (listUpdate_at (xs:=#[]) (n:=0) (Heap.get?_push_size _ rfl) rfl (wpAny_pure ?_) (Nat.zero_le _) (by simp only [Array.size_append,List.size_toArray,List.length_nil];omega))
 refine wpAny_bind (m:=load s.heap.objs.size) (wpAny_load (get?_update_seq (Heap.get?_push_size _ rfl) _) ?_)
 show wpAny (model prog w) A (pure ((#[]:Array Value)++vs.toArray).toList) Q E _
 have e:((#[]:Array Value)++vs.toArray).toList=vs:=by simp
 rw [e]
 exact wpAny_pure h
end
end L2
namespace L2
open PySem PySem.Spec PyProof.Rows
section
variable {prog:Program}{w:World}{A:Around}{E:Value->Shared->Prop}{s:Shared}
theorem zil (b:Bool) (x y:Value):keyLt' (tuples' b) x y=(do
  let xs <- Builtin.List.listItems x
  let ys <- Builtin.List.listItems y
  for ((p,q),i) in (xs.toList.zip ys.toList).zipIdx do
   if !(<- eqBool p q) then return <- oneLt' (b&&i == 0) p q
  return decide (xs.size<ys.size)):=rfl
def LtAt (prog:Program) (w:World) (A:Around) (s:Shared) (one:Bool) (p q:Value) (l:Bool):Prop:=∀ (E:Value->Shared->Prop) (Q:Bool->Shared->Prop),Q l s->wpAny (model prog w) A (oneLt' one p q) Q E s
theorem zik {b:Bool}{x y:Addr}{ox oy:Obj}{p0 p1 q0 q1:Value}{n m:Nat}{c0 c1 l0 l1:Bool}{Q:Bool->Shared->Prop} (hx:s.heap.get? x=some ox) (dx:ox.data=.seq #[p0,p1] n) (hy:s.heap.get? y=some oy) (dy:oy.data=.seq #[q0,q1] m)
  (e0:SeqAt.EqAt A s p0 q0 c0) (e1:SeqAt.EqAt A s p1 q1 c1) (t0:c0=false->LtAt prog w A s b p0 q0 l0) (t1:c1=false->LtAt prog w A s false p1 q1 l1) (h:Q (if c0=true then (if c1=true then false else l1) else l0) s) :
  wpAny (model prog w) A (keyLt' (tuples' b) (.ref x) (.ref y)) Q E s:=by
 rw [zil]
 refine wpAny_bind (listItems_at hx dx (wpAny_bind (listItems_at hy dy ?_)))
 have ez:((#[p0,p1]:Array Value).toList.zip (#[q0,q1]:Array Value).toList).zipIdx=[((p0,q0),0),((p1,q1),1)]:=rfl
 simp only [ez,List.forIn_cons,List.forIn_nil]
 refine wpAny_bind (wpAny_bind ?_)
 refine wpAny_bind (e0 prog w E _ ?_)
 cases c0 with
 | false =>
  simp only [Bool.not_false,if_true]
  have z0:(b&&(0:Nat) == 0)=b:=by simp
  rw [z0]
  refine wpAny_bind (t0 rfl E _ ?_)
  exact wpAny_pure (wpAny_pure (wpAny_pure (by simpa using h)))
 | true =>
  simp only [Bool.not_true,Bool.false_eq_true,if_false]
  refine wpAny_pure (wpAny_bind (wpAny_bind (e1 prog w E _ ?_)))
  cases c1 with
  | false =>
   simp only [Bool.not_false,if_true]
   have z1:(b&&(1:Nat) == 0)=false:=by simp
   rw [z1]
   refine wpAny_bind (t1 rfl E _ ?_)
   exact wpAny_pure (wpAny_pure (wpAny_pure (by simpa using h)))
  | true =>
   simp only [Bool.not_true,Bool.false_eq_true,if_false]
   exact wpAny_pure (wpAny_pure (wpAny_pure (by simpa using h)))
theorem zjL (a b:Int) (t u:Tok):LtAt prog w A s false (.int a t) (.int b u) (decide (a<b)):=fun E Q q=>by
 rw [oneLt'_eq]
 simp only [Bool.false_eq_true,if_false]
 refine wpAny_bind (show wpAny (model prog w) A (compareOp .Lt (.int a t) (.int b u)) _ E s from lt_int ?_)
 exact wpAny_truthy_bool q
def PrIn (h:Heap) (u:Value) (b k:Int):Prop:=∃ (a:Addr) (o:Obj) (t t':Tok) (n:Nat),u=.ref a/\h.get? a=some o/\o.cls=.type "tuple" /\ o.data=.seq #[.int b t,.int k t'] n
def two?:List Value->Int
 | [.int b _,.int k _]=>b*1000+k
 | _=>0
def rkC (h:Heap) (u:Value):Int:=match u with
 | .ref a=>match h.get? a with
  | some o=>match o.data with
   | .seq xs _=>two? xs.toList
   | _=>0
  | none=>0
 | _=>0
theorem PrIn.rk {h:Heap}{u:Value}{b k:Int} (p:PrIn h u b k):rkC h u=b*1000+k:=by
 obtain ⟨a,o,t,t',n,rfl,e1,_,e2⟩:=p
 simp only [rkC,e1,e2,two?]
theorem PrIn.kept {h h':Heap}{u:Value}{b k:Int} (p:PrIn h u b k) (kp:∀ b o,h.get? b=some o->h'.get? b=some o):PrIn h' u b k:=by
 obtain ⟨a,o,t,t',n,e0,e1,e2,e3⟩:=p
 exact ⟨a,o,t,t',n,e0,kp _ _ e1,e2,e3⟩
theorem zei {α β:Type}{f:α->Sem β}{P:α->β->Prop}{M:Model}:∀ (l:List α) {Q:List β->Shared->Prop},(∀ v∈l,∀ (Q':β->Shared->Prop),(∀ r,P v r->Q' r s)->wpAny M A (f v) Q' E s)->(∀ rs,Paired P l rs->Q rs s)->wpAny M A (l.mapM f) Q E s
 | [],_,_,h=>by rw [List.mapM_nil];exact wpAny_pure (h _ .nil)
 | x::l,Q,hf,h=>by
  rw [List.mapM_cons]
  exact wpAny_bind (hf x (.head _) _ fun r hr=>wpAny_bind (zei l (fun v hv=>hf v (.tail _ hv)) fun rs hrs=>wpAny_pure (h _ (.cons hr hrs))))
theorem zj1 (v:Value):firstOfTuple' v=(do
  if (<- typeOf v) != .type "tuple" then return none
  return (<- Builtin.List.listItems v)[0]?):=rfl
end
end L2
namespace L2
open PySem PySem.Spec PyProof.Rows
theorem zjA {α β:Type}{l:List (α×β)}{m:List β} (h:m.Perm (l.map (·.2))):∃ l':List (α×β),l'.Perm l/\l'.map (·.2)=m:=by
 induction m generalizing l with
 | nil =>
  have:l.map (·.2)=[]:=h.symm.eq_nil
  cases l with
  | nil=>exact ⟨[],.refl _,rfl⟩
  | cons a b=>simp at this
 | cons x m ih =>
  have hx:x∈l.map (·.2):=h.mem_iff.mp (.head _)
  obtain ⟨z,hz,rfl⟩:=List.mem_map.mp hx
  obtain ⟨l1,l2,rfl⟩:=List.append_of_mem hz
  have h2:(z.2::m).Perm (z.2::(l1++l2).map (·.2)):=by
   refine h.trans ?_
   simp only [List.map_append,List.map_cons]
   exact List.perm_middle
  obtain ⟨l',p,e⟩:=ih (List.perm_cons _ |>.mp h2)
  exact ⟨z::l',(p.cons z).trans List.perm_middle.symm,by simp [e]⟩
end L2
namespace L2
open PySem PySem.Spec PyProof.Rows
abbrev prD (b:Int×Int):PyData:=.tuple [.int b.1,.int b.2]
def pD (bs:List (Int×Int)):List PyData:=bs.map prD
theorem zgF {bs:List (Int×Int)}:(pD bs).length=bs.length:=by simp [pD]
theorem zm8 {i h:Int}{bs:List (Int×Int)}:pD bs++[.tuple [.int i,.int h]]=pD (bs++[(i,h)]):=by simp [pD]
theorem zm9 {bs:List (Int×Int)}{k:Nat}{t:PyData} (h:(pD bs)[k]?=some t):∃ i g:Int,bs[k]?=some (i,g)/\t=.tuple [.int i,.int g]:=by
 unfold pD at h
 rw [List.getElem?_map] at h
 cases e:bs[k]? with
 | none=>rw [e] at h;cases h
 | some b=>rw [e] at h;cases h;exact ⟨b.1,b.2,rfl,rfl⟩
def Bks (bits:Int) (bs:List (Int×Int)):Prop:=∀ b∈bs,IsBk bits b.1 b.2
theorem znj {bs:List (Int×Int)}:Okd (.list (pD bs)):=by
 have:∀ bs:List (Int×Int),PyData.canLayAll0 (pD bs)=true/\PyData.depthAll (pD bs)<=1:=by
  intro bs
  induction bs with
  | nil=>exact ⟨by simp [pD,PyData.canLayAll0],by simp [pD,PyData.depthAll]⟩
  | cons b l ih =>
   refine ⟨?_,?_⟩
   ·have:=ih.1
    simp only [pD,List.map_cons,PyData.canLayAll0,PyData.canLay0,Bool.and_true,Bool.true_and] at this ⊢
    exact this
   ·have:=ih.2
    simp only [pD,List.map_cons,PyData.depthAll,PyData.depth] at this ⊢
    lia
 exact ⟨by simp only [PyData.canLay0];exact (this bs).1,by simp only [PyData.depth];have:=(this bs).2;lia⟩
theorem zlm:Okd (.list []):=⟨by simp [PyData.canLay0,PyData.canLayAll0],by simp [PyData.depth,PyData.depthAll]⟩
theorem zoi {tg:DTG}{tt:DTT}{d:DTE}{ρ0:En}{Rl:List PyData->Nat->Prop} (Inv:Nat->List PyData->Nat->Prop):∀ (xs:List PyData) (i:Nat) {acc:List PyData}{n:Nat},Inv i acc n ->
  (∀ (k:Nat) (x:PyData) (acc:List PyData) (n:Nat) (K:List PyData->Nat->Prop),xs[k]?=some x->Inv (i+k) acc n->(∀ acc' n',Inv (i+k+1) acc' n'->K acc' n') ->
   tg x ρ0 fun ρ1=>tt ρ1 n fun b n2=>if b=true then d ρ1 n2 fun t n3=>acc.length<16777216/\K (acc++[t]) n3 else K acc n2) ->
  (∀ acc n,Inv (i+xs.length) acc n->Rl acc n)->zbY tg tt d ρ0 xs acc n Rl
 | [],i,acc,n,h0,_,fin=>fin acc n (by simpa using h0)
 | x::xs,i,acc,n,h0,turn,fin=>by
  refine turn 0 x acc n (fun acc n=>zbY tg tt d ρ0 xs acc n Rl) rfl (by simpa using h0) fun acc' n' h'=>?_
  refine zoi Inv xs (i+1) (by simpa using h') (fun k u acc n K e hI hK=>?_) (fun acc n h=>fin acc n ?_)
  ·refine turn (k+1) u acc n K (by simpa using e) ?_ fun acc' n' h'=>hK acc' n' ?_
   ·have:i+(k+1)=i+1+k:=by lia
    rw [this];exact hI
   ·have:i+1+k+1=i+(k+1)+1:=by lia
    rw [this];exact h'
  ·have:i+(x::xs).length=i+1+xs.length:=by simp;lia
   rw [this] at *;exact h
theorem zoh {tg:DTG}{tt:DTT}{d:DTE}{ρ0:En}{Rl:List PyData->Nat->Prop}{xs:List PyData}{n:Nat} (Inv:Nat->List PyData->Nat->Prop) (h0:Inv 0 [] n)
  (turn:∀ (k:Nat) (x:PyData) (acc:List PyData) (n:Nat) (K:List PyData->Nat->Prop),xs[k]?=some x->Inv k acc n->(∀ acc' n',Inv (k+1) acc' n'->K acc' n') ->
   tg x ρ0 fun ρ1=>tt ρ1 n fun b n2=>if b=true then d ρ1 n2 fun t n3=>acc.length<16777216/\K (acc++[t]) n3 else K acc n2)
  (fin:∀ acc n,Inv xs.length acc n->Rl acc n):zbY tg tt d ρ0 xs [] n Rl :=
 zoi Inv xs 0 h0 (fun k x acc n K e hI hK=>turn k x acc n K e (by simpa using hI) fun a m h=>hK a m (by simpa using h)) fun acc n h=>fin acc n (by simpa using h)
theorem zfu {α:Type}{cs:List α}{D:α->PyData}{tg:DTG}{tt:DTT}{d:DTE}{ρ0:En}{n:Nat}{Rl:List PyData->Nat->Prop} (F:α->PyData) (hl:cs.length<=16777216)
  (step:∀ b∈cs,∀ (K:PyData->Nat->Prop) (X:Nat->Prop),K (F b) n->tg (D b) ρ0 fun ρ1=>tt ρ1 n fun c n2=>if c=true then d ρ1 n2 K else X n2) (fin:Rl (cs.map F) n):zbY tg tt d ρ0 (cs.map D) [] n Rl:=by
 refine zoh (fun j acc m=>m=n/\acc=(cs.take j).map F) ⟨rfl,rfl⟩ ?_ ?_
 ·rintro j x acc m K ej ⟨rfl,rfl⟩ hK
  rw [List.getElem?_map] at ej
  cases eb:cs[j]? with
  | none=>rw [eb] at ej;cases ej
  | some b =>
   rw [eb] at ej;cases ej
   obtain ⟨hj,e2⟩:=List.getElem?_eq_some_iff.mp eb
   refine step b (List.mem_of_getElem? eb) _ _ ⟨?_,hK _ _ ⟨rfl,?_⟩⟩
   ·simp;lia
   ·rw [List.take_succ,eb];simp
 ·rintro acc m ⟨rfl,rfl⟩
  rw [List.length_map,List.take_length]
  exact fin
theorem zpZ {bs:List Bool}{R:PyData->Prop} (h:R (.bool (bs.all id))):bAll [.list (bs.map PyData.bool)] R:=⟨bs,rfl,h⟩
theorem zkt {α:Type}{cs:List α}{f:α->Bool}{R:PyData->Prop} (h:R (.bool (cs.all f))):bAll [.list (cs.map fun b=>PyData.bool (f b))] R:=by
 have e:(cs.map fun b=>PyData.bool (f b))=(cs.map f).map PyData.bool:=by simp
 rw [e]
 refine zpZ ?_
 have e2:(cs.map f).all id=cs.all f:=by simp [List.all_map,Function.comp_def]
 rw [e2];exact h
theorem zlP {bs:List (Int×Int)}:PyData.eqv (.list (pD bs)) (.list [])=bs.isEmpty:=by
 cases bs with
 | nil=>simp [pD,PyData.eqv,PyData.eqvAll]
 | cons b l=>simp [pD,PyData.eqv,PyData.eqvAll]
theorem zg0 {many:Int}{n:Nat}{R:PyData->Nat->Prop} (h0:0<many) (h1:many<2 ^ 128) (hn:n<=1000000000000) (h:∀ r:Int,0<=r->r<many->R (.int r) (n+1)):zcS [HAND,.int many] n R:=⟨rfl,h0,h1,hn,h⟩
theorem zhc {i h:Int}:zbR (.tuple [.int i,.int h])=true:=by simp [zbR,ze1]
theorem Bks.app {bits i h:Int}{bs:List (Int×Int)} (B:Bks bits bs) (C:IsBk bits i h):Bks bits (bs++[(i,h)]):=fun b hb=>by
 rcases List.mem_append.mp hb with z | z
 ·exact B b z
 ·cases List.mem_singleton.mp z;exact C
end L2
namespace L2
open PySem PySem.Spec PyProof.Rows
section
variable {prog:Program}{w:World}{A:Around}{E:Value->Shared->Prop}{s:Shared}
open HT in
theorem zca {t sl:Addr}{items:Array Value}{vl vu:Value}{lo hi:Option Int}{Q:Value->Shared->Prop} (ht:IsTup s.heap t items) (hs:s.heap.IsSliceOf sl vl vu .none) (pl:IsPart vl lo) (pu:IsPart vu hi)
  (hw:HT.sIx items.size 0 lo=0/\HT.sIx items.size items.size hi=items.size) (h:Q (.ref t) s):wpAny (model prog w) A (getItem (.ref t) (.ref sl)) Q E s:=by
 obtain ⟨os,hos,hcs,hds⟩:=id hs
 have hTs:s.TypeIs (.ref sl) "slice":=⟨os,hos,hcs⟩
 unfold getItem
 try with_reducible refine wpAny_holding ?_
 first | refine wpAny_bind (wpAny_pure ?_) | skip
 refine wpAny_bind (wpAny_sequenceKey ht.typeIs (by decide) ?_)
 refine wpAny_bind (wpAny_callSpecial?_slot (name:=Str.ofString "__getitem__") ht.typeIs PyProof.Rows.slot_tuple_getitem
  (wpAny_call_entry PyProof.Rows.slot_tuple_getitem ht.typeIs entry_tuple_getitem ?_ (args_tuple_getitem _ _)))
 show wpAny _ _ (Builtin.Tuple.tupleItemsOf (.ref t) >>= _) _ _ s
 refine wpAny_bind (tupleItemsOf_ ht ?_)
 refine wpAny_bind (wpAny_typeOf hTs ?_)
 rw [if_pos (by decide)]
 refine wpAny_bind (HT.zbH hs pl pu ?_)
 have hyes:(((HT.sIx items.size 0 lo:Nat):Int) == 0&&(1:Int) == 1&&(HT.sIx items.size items.size hi - HT.sIx items.size 0 lo) == items.size)=true:=by
  rw [hw.1,hw.2];simp
 show wpAny _ _ (if (((HT.sIx items.size 0 lo:Nat):Int) == 0&&(1:Int) == 1&&(HT.sIx items.size items.size hi - HT.sIx items.size 0 lo) == items.size)=true then _ else _) _ _ s
 rw [if_pos hyes]
 unfold Builtin.Tuple.tupleIsExact
 refine wpAny_bind (wpAny_bind (wpAny_typeOf ht.typeIs (wpAny_pure ?_)))
 rw [if_pos (by decide)]
 exact wpAny_bind (wpAny_rule (wpAny_pure ⟨_,rfl,wpAny_pure h⟩))
end
section
variable {X:Cx}
def rSlW (K:PySem.W.Frag):V->Option Int->Option Int->Hp->VK->Prop:=fun x lo hi H Q=>∃ a xs,x=.ref a/\SqT K H a xs/\(HT.sIx xs.length 0 lo=0/\HT.sIx xs.length xs.length hi=xs.length)/\Q (.ref a) H
theorem zkR:SlR X (rSlW X.K):=by
 intro pins s σ H x v vl vu lo hi sl Q I rx hs pl pu h
 obtain ⟨a,xs,rfl,hx,hw,q⟩:=h
 cases rx
 obtain ⟨its,r,ht,hz⟩:=I.tuple hx
 have hlen:its.toArray.size=xs.length:=by rw [List.size_toArray];exact r.length.symm
 refine ⟨"tuple",_,PyProof.Rows.slot_tuple_getitem.lookup,ht.typeIs,?_⟩
 exact zca ht hs pl pu (by rw [hlen];exact hw) ⟨.ref a,H,I,rfl,q⟩
end
abbrev DTO:=En->Nat->(Option Int->Nat->Prop)->Prop
def DP (X:Cx) (e:Option Expr) (d:DTO):Prop:=∃ t,PO X e t/\∀ (C:Ctx) (ρ:En) (σ:St) (H:Hp) (n:Nat) (Q:Option Int->Hp->Prop) (R:Option Int->Nat->Prop),Stt X.K C ρ σ H n->d ρ n R ->
 (∀ o n' H',R o n'->ExtE C.hd H H'->Hn C.hd H' n'->Q o H')->t σ H Q
def zf_:DTO:=fun ρ n R=>R none n
def zlZ (d:DTE):DTO:=fun ρ n R=>d ρ n fun t n'=>lInt t fun i=>R (some i) n'
def cutD (ts:List PyData) (lo hi:Option Int):List PyData:=(ts.drop (HT.sIx ts.length 0 lo)).take (HT.sIx ts.length ts.length hi - HT.sIx ts.length 0 lo)
section
variable {X:Cx}{e:Expr}{d:DTE}{lo hi:Option Expr}{dlo dhi:DTO}{pos p2:Pos}
theorem zbp:DP X none zf_:=⟨_,zk9,fun C ρ σ H n Q R S h hq=>hq none n H h ExtE.refl S.hnd⟩
theorem za7 (h:DE X e d):DP X (some e) (zlZ d):=by
 obtain ⟨ta,pa,h⟩:=h
 refine ⟨_,zk8 pa,fun C ρ σ H n Q R S hd hq=>?_⟩
 refine h C ρ σ H n _ _ S hd fun t n1 v H1 r1 e1 h1 q1=>?_
 cases t with
 | int i =>
  cases q1
  exact ⟨i,rfl,hq (some i) n1 H1 r1 e1 h1⟩
 | _=>exact r1.elim
theorem zj8 {K:PySem.W.Frag}{hd:Option Addr}{O:Addr->Prop}{H:Hp}{vs ts} (r:Reps K hd O H vs ts) (lo hi:Option Int):Reps K hd O H (cutV vs lo hi) (cutD ts lo hi):=by
 unfold cutV cutD
 rw [r.length]
 exact (r.drop _).take _
theorem zhm {ts:List PyData}{lo hi:Option Int} (h:HT.sIx ts.length 0 lo=0/\HT.sIx ts.length ts.length hi=ts.length):cutD ts lo hi=ts:=by
 unfold cutD;rw [h.1,h.2];simp
end
end L2
namespace L2
open PySem PySem.Spec PyProof.Rows
structure NxS (prog:Program) (w:World) (i a:Addr) (IT:Nat->Heap->Prop) (SQ:Heap->Array Value->Prop):Prop where
 rcd:∀ k h,IT k h->∃ o,h.get? i=some o/\∀ v,o.data≠.cell v
 keep:∀ k h h',IT k h->(∀ o,h.get? i=some o->h'.get? i=some o)->IT k h'
 sk:∀ h h' xs,SQ h xs->(∀ o,h.get? a=some o->h'.get? a=some o)->SQ h' xs
 item:∀ (A:Around) (E:Value->Shared->Prop) (k:Nat) (xs:Array Value) (x:Value) (s:Shared) (Q:Value->Shared->Prop),IT k s.heap->SQ s.heap xs->xs[k]?=some x ->
  (∀ h',IT (k+1) h'->Heap.SameBut i s.heap h'->Q x { s with heap:=h' })->wpAny (model prog w) A (Builtin.SmallTypes.nextOf (.ref i)) Q E s
 done:∀ (A:Around) (E:Value->Shared->Prop) (k:Nat) (xs:Array Value) (s:Shared) (Q:Value->Shared->Prop),A.handled=none->IT k s.heap->SQ s.heap xs->xs[k]?=none ->
  (∀ h' e,Heap.ExtBut i s.heap h'->(∃ o,h'.get? e=some o/\o.cls=.type "StopIteration")->E (.ref e) { s with heap:=h' })->wpAny (model prog w) A (Builtin.SmallTypes.nextOf (.ref i)) Q E s
theorem zlo {prog:Program}{w:World}{i a:Addr}:NxS prog w i a (fun k h=>h.IsListIter i a k) (fun h xs=>h.IsList a xs) where
 rcd:=fun k h ⟨o,e,c,d⟩=>⟨o,e,fun v z=>by rw [d] at z;cases z⟩
 keep:=fun k h h' x f=>x.at f
 sk:=fun h h' xs x f=>x.at f
 item:=fun A E k xs x s Q h1 h2 h3 h=>wpAny_nextOf_list_item h1 h2 h3 h
 done:=fun A E k xs s Q hh h1 h2 h3 h=>wpAny_nextOf_list_end hh h1 h2 h3 h
section
variable {prog:Program}{w:World}{A:Around}{E:Value->Shared->Prop}{s:Shared}
theorem ze2 {i:Addr}{T id:String}{Q:Value->Shared->Prop}{f:Builtin} (hT:s.TypeIs (.ref i) T) (sl:Slot T "__next__" id) (en:entryFor table id=some f) (ao:argsOk id ⟨[.ref i],[]⟩)
  (h:wpAny (model prog w) A.in1 (f ⟨[.ref i],[]⟩) (fun fin s'=>∃ v,fin=.done (.ret v)/\Q v s') E s):wpAny (model prog w) A (Builtin.SmallTypes.nextOf (.ref i)) Q E s:=by
 unfold Builtin.SmallTypes.nextOf
 refine wpAny_bind (wpAny_callSpecial?_slot (name:=Str.ofString "__next__") hT sl (wpAny_call_entry sl hT en ?_ ao))
 refine wpAny_mono h (fun fin s' hq=>?_) fun _ _ e=>e
 obtain ⟨v,e,q⟩:=hq
 exact ⟨v,e,wpAny_pure q⟩
theorem zeF {i a:Addr}{k:Nat}{xs:Array Value}{x:Value}{Q:Value->Shared->Prop} (h1:s.heap.IsTupleIter i a k) (h2:s.heap.IsTuple a xs) (h3:xs[k]?=some x)
  (h:∀ h',h'.IsTupleIter i a (k+1)->Heap.SameBut i s.heap h'->Q x { s with heap:=h' }):wpAny (model prog w) A (Builtin.SmallTypes.nextOf (.ref i)) Q E s:=by
 refine ze2 h1.typeIs F.slot_tuple_iterator_next F.entry_tuple_iterator_next (F.args_tuple_iterator_next_1 _) ?_
 obtain ⟨o,e1,e2,e3⟩:=h1
 obtain ⟨p,f1,_,n,f3⟩:=h2
 refine wpAny_bind (m:=field (.ref i) 0) (wpAny_field e1 e3 (x:=.ref a) rfl ?_)
 have ne:¬((Value.ref a == Value.none)=true):=fun z=>by cases z
 rw [if_neg ne]
 refine wpAny_bind (m:=field (.ref i) 1) (wpAny_field e1 e3 (x:=.int k 0) rfl ?_)
 refine wpAny_bind (m:=seqItems? (.ref a)) (wpAny_seqItems f1 f3 ?_)
 simp only [Int.toNat_natCast,h3]
 refine wpAny_bind (wpAny_setField e1 e3 (by simp) (wpAny_pure ⟨x,rfl,h _ ?_ (Heap.SameBut.update ..)⟩))
 refine ⟨_,Heap.get?_update_self _ e1 (Obj.isFreed_of_fields (Obj.data_mapFields e3 _)),?_,?_⟩
 ·rw [Obj.cls_mapFields];exact e2
 ·rw [Obj.data_mapFields e3];simp [rawInt]
theorem zeG {i a:Addr}{k:Nat}{xs:Array Value}{Q:Value->Shared->Prop} (hh:A.handled=none) (h1:s.heap.IsTupleIter i a k) (h2:s.heap.IsTuple a xs) (h3:xs[k]?=none)
  (h:∀ h' e,Heap.ExtBut i s.heap h'->(∃ o,h'.get? e=some o/\o.cls=.type "StopIteration")->E (.ref e) { s with heap:=h' }):wpAny (model prog w) A (Builtin.SmallTypes.nextOf (.ref i)) Q E s:=by
 refine ze2 h1.typeIs F.slot_tuple_iterator_next F.entry_tuple_iterator_next (F.args_tuple_iterator_next_1 _) ?_
 obtain ⟨o,e1,e2,e3⟩:=h1
 obtain ⟨p,f1,_,n,f3⟩:=h2
 refine wpAny_bind (m:=field (.ref i) 0) (wpAny_field e1 e3 (x:=.ref a) rfl ?_)
 have ne:¬((Value.ref a == Value.none)=true):=fun z=>by cases z
 rw [if_neg ne]
 refine wpAny_bind (m:=field (.ref i) 1) (wpAny_field e1 e3 (x:=.int k 0) rfl ?_)
 refine wpAny_bind (m:=seqItems? (.ref a)) (wpAny_seqItems f1 f3 ?_)
 simp only [Int.toNat_natCast,h3]
 refine wpAny_bind (wpAny_rule (wpAny_bind (wpAny_setField e1 e3 (by simp) ?_)))
 refine wpAny_bind (m:=newExc (.type "StopIteration") []) ?_
 simp only [newExc,newTuple]
 refine wpAny_bind (wpAny_newObj_type ?_ (by size_fits))
 refine wpAny_bind (m:=firstArgMember _ _) (wpAny_of_eq (a:=Value.none) (by first | rfl | (simp only [firstArgMember];rfl)) (wpAny_newObj_type ?_ (by size_fits)))
 simp only [raiseNew]
 refine wpAny_bind (wpAny_handled ?_)
 have hh1:A.in1.handled=none:=hh
 first | rw [hh1] | rw [hh]
 exact wpAny_bind (wpAny_pure (wpAny_throw (h _ _ (((Heap.SameBut.update ..).extBut.push _).push _) ⟨_,Heap.get?_push_size _ rfl,rfl⟩)))
end
theorem Heap.IsTupleIter.at' {h h':Heap}{i a:Addr}{k:Nat} (x:h.IsTupleIter i a k) (f:∀ o,h.get? i=some o->h'.get? i=some o):h'.IsTupleIter i a k:=by
 obtain ⟨o,e,r⟩:=x;exact ⟨o,f o e,r⟩
theorem Heap.IsTuple.at' {h h':Heap}{a:Addr}{xs:Array Value} (x:h.IsTuple a xs) (f:∀ o,h.get? a=some o->h'.get? a=some o):h'.IsTuple a xs:=by
 obtain ⟨o,e,r⟩:=x;exact ⟨o,f o e,r⟩
theorem znl {prog:Program}{w:World}{i a:Addr}:NxS prog w i a (fun k h=>h.IsTupleIter i a k) (fun h xs=>h.IsTuple a xs) where
 rcd:=fun k h ⟨o,e,c,d⟩=>⟨o,e,fun v z=>by rw [d] at z;cases z⟩
 keep:=fun k h h' x f=>Heap.IsTupleIter.at' x f
 sk:=fun h h' xs x f=>Heap.IsTuple.at' x f
 item:=fun A E k xs x s Q h1 h2 h3 h=>zeF h1 h2 h3 h
 done:=fun A E k xs s Q hh h1 h2 h3 h=>zeG hh h1 h2 h3 h
end L2
namespace L2
open PySem PySem.Spec PyProof.Rows
structure ZAp (z TI TO i1 i2 a1 a2:Addr):Prop where
 p:[z,TI,TO,i1,i2].Nodup
 q:∀ a∈[a1,a2],a∉[z,TI,TO,i1,i2]
section
variable {prog:Program}{w:World}{A:Around}{E:Value->Shared->Prop}{s:Shared}{z TI TO i1 i2 a1 a2:Addr}{I1 I2:Nat->Heap->Prop}{S1 S2:Heap->Array Value->Prop}
structure ZSt (z TI TO i1 i2:Addr) (I1 I2:Nat->Heap->Prop) (f:Value) (k:Nat) (h:Heap):Prop where
 zip:IsZip h z TI TO f
 ti:IsPair h TI (.ref i1) (.ref i2)
 to:∃ a b,IsPair h TO a b
 it1:I1 k h
 it2:I2 k h
theorem zhs (D:ZAp z TI TO i1 i2 a1 a2):(z≠TI/\z≠TO/\z≠i1/\z≠i2/\TI≠TO/\TI≠i1/\TI≠i2/\TO≠i1/\TO≠i2/\i1≠i2)/\(a1≠z/\a1≠TO/\a1≠i1/\a1≠i2)/\(a2≠z/\a2≠TO/\a2≠i1/\a2≠i2):=by
 have h1:=D.p
 have h2:=D.q
 simp only [List.nodup_cons,List.mem_cons,List.not_mem_nil,or_false,not_or,List.nodup_nil,and_true,not_false_eq_true] at h1
 have q1:=h2 a1 (by simp)
 have q2:=h2 a2 (by simp)
 simp only [List.mem_cons,List.not_mem_nil,or_false,not_or] at q1 q2
 exact ⟨⟨h1.1.1,h1.1.2.1,h1.1.2.2.1,h1.1.2.2.2,h1.2.1.1,h1.2.1.2.1,h1.2.1.2.2,h1.2.2.1.1,h1.2.2.1.2,h1.2.2.2⟩,⟨q1.1,q1.2.2.1,q1.2.2.2.1,q1.2.2.2.2⟩,⟨q2.1,q2.2.2.1,q2.2.2.2.1,q2.2.2.2.2⟩⟩
theorem z_item {k:Nat}{xs ys:Array Value}{x y:Value}{Q:Value->Shared->Prop} (D:ZAp z TI TO i1 i2 a1 a2) (N1:NxS prog w i1 a1 I1 S1) (N2:NxS prog w i2 a2 I2 S2) (st:ZSt z TI TO i1 i2 I1 I2 .none k s.heap) (s1:S1 s.heap xs) (s2:S2 s.heap ys)
  (hx:xs[k]?=some x) (hy:ys[k]?=some y)
  (hQ:∀ h',ZSt z TI TO i1 i2 I1 I2 (rawInt s.heap.objs.size) (k+1) h'->IsPair h' s.heap.objs.size x y->h'.objs.size=s.heap.objs.size+1 ->
   (∀ c o,c≠z->c≠TO->c≠i1->c≠i2->s.heap.get? c=some o->h'.get? c=some o)->Q (.ref s.heap.objs.size) { s with heap:=h' }) :
  wpAny (model prog w) A (Builtin.«zip.__next__» ⟨[.ref z],[]⟩) (fun fin s'=>∃ v,fin=.done (.ret v)/\Q v s') E s:=by
 obtain ⟨⟨d1,d2,d3,d4,d5,d6,d7,d8,d9,d10⟩,⟨e1,e2,e3,e4⟩,⟨g1,g2,g3,g4⟩⟩:=zhs D
 obtain ⟨zip,ti,⟨va,vb,to⟩,it1,it2⟩:=st
 refine wpAny_bind (m:=field (.ref z) 2) (wpAny_field zip rfl (x:=.bool false) rfl ?_)
 refine wpAny_bind (m:=field (.ref z) 3) (wpAny_field zip rfl (x:=.ref TI) rfl (wpAny_bind (wpAny_seqItems ti rfl ?_)))
 refine wpAny_bind (m:=Builtin.SmallTypes.ownedTupleIsFree (.ref z)) ?_
 unfold Builtin.SmallTypes.ownedTupleIsFree
 refine wpAny_bind (wpAny_field zip rfl (x:=.none) rfl (wpAny_pure ?_))
 simp only [if_true]
 refine wpAny_bind (wpAny_rule (wpAny_bind (wpAny_field zip rfl (x:=.ref TO) rfl (wpAny_bind (wpAny_setField_rec zip (by simp) fun hA zA bA=>?_)))))
 have zA':IsZip hA z TI TO .ellipsis:=zA
 refine wpAny_bind ?_
 simp only [List.zipIdx_cons,List.zipIdx_nil,List.forIn_cons,List.forIn_nil]
 refine wpAny_bind (wpAny_bind (wpAny_onRaise (wpAny_bind (m:=Builtin.SmallTypes.nextOf (.ref i1)) ?_)))
 refine N1.item _ _ k xs x _ _ (N1.keep _ _ _ it1 fun o e=>bA.extBut _ _ d3.symm e) (N1.sk _ _ _ s1 fun o e=>bA.extBut _ _ e1 e) hx fun hB it1B bB=>wpAny_pure ?_
 have toB:IsPair hB TO va vb:=bB.extBut _ _ d8 (bA.extBut _ _ d2.symm to)
 refine wpAny_bind (wpAny_seqItems toB rfl (wpAny_bind (wpAny_updateSeq_pair toB fun hC toC bC=>?_)))
 have toC':IsPair hC TO x vb:=toC
 refine wpAny_bind (wpAny_letGo (wpAny_pure ?_))
 refine wpAny_bind (wpAny_bind (wpAny_onRaise (wpAny_bind (m:=Builtin.SmallTypes.nextOf (.ref i2)) ?_)))
 have up2:∀ c o,c≠z->c≠TO->c≠i1->s.heap.get? c=some o->hC.get? c=some o:=fun c o c1 c2 c3 e=>bC.extBut _ _ c2 (bB.extBut _ _ c3 (bA.extBut _ _ c1 e))
 refine N2.item _ _ k ys y _ _ (N2.keep _ _ _ it2 fun o e=>up2 _ _ d4.symm d9.symm d10.symm e) (N2.sk _ _ _ s2 fun o e=>up2 _ _ g1 g2 g3 e) hy fun hD it2D bD=>wpAny_pure ?_
 have toD:IsPair hD TO x vb:=bD.extBut _ _ d9 toC'
 refine wpAny_bind (wpAny_seqItems toD rfl (wpAny_bind (wpAny_updateSeq_pair toD fun hF toF bF=>?_)))
 have toF':IsPair hF TO x y:=toF
 refine wpAny_bind (wpAny_letGo (wpAny_pure (wpAny_pure ?_)))
 refine wpAny_bind (wpAny_seqItems toF' rfl (wpAny_bind (wpAny_newTuple ?_)))
 have sz:hF.objs.size=s.heap.objs.size:=by rw [bF.1,bD.1,bC.1,bB.1,bA.1]
 have upF:∀ c o,c≠z->c≠TO->c≠i1->c≠i2->s.heap.get? c=some o->hF.get? c=some o:=fun c o c1 c2 c3 c4 e=>bF.extBut _ _ c2 (bD.extBut _ _ c4 (up2 c o c1 c2 c3 e))
 have zF:IsZip hF z TI TO .ellipsis:=bF.extBut _ _ d2 (bD.extBut _ _ d4 (bC.extBut _ _ d2 (bB.extBut _ _ d3 zA')))
 have zlt:z<hF.objs.size:=Heap.lt_size zF
 refine wpAny_bind (m:=Builtin.SmallTypes.ownedTupleHandOut (.ref z) (.ref hF.objs.size)) ?_
 unfold Builtin.SmallTypes.ownedTupleHandOut
 have zG:IsZip (hF.push { cls:=.type "tuple",data:=.seq #[x,y] }) z TI TO .ellipsis:=Heap.get?_push_of_some _ zF
 refine wpAny_bind (wpAny_setField_rec zG (by simp) fun hI zI bI=>?_)
 have zI':IsZip hI z TI TO (rawInt hF.objs.size):=zI
 refine wpAny_setField_rec zI' (by simp) fun hJ zJ bJ=>wpAny_pure ⟨_,rfl,?_⟩
 have zJ':IsZip hJ z TI TO (rawInt hF.objs.size):=zJ
 have up:∀ c o,c≠z->hF.get? c=some o->hJ.get? c=some o:=fun c o c1 e=>bJ.extBut _ _ c1 (bI.extBut _ _ c1 (Heap.get?_push_of_some _ e))
 have pr:IsPair hJ hF.objs.size x y:=bJ.extBut _ _ (Nat.ne_of_gt zlt) (bI.extBut _ _ (Nat.ne_of_gt zlt) (Heap.get?_push_size _ rfl))
 have szJ:hJ.objs.size=hF.objs.size+1:=by rw [bJ.1,bI.1,Heap.size_push]
 rw [sz] at zJ' pr szJ
 show Q (.ref hF.objs.size) _
 rw [sz]
 refine hQ hJ ⟨zJ',up _ _ d1.symm (upF _ _ d1.symm d5 d6 d7 ti),⟨x,y,up _ _ d2.symm toF'⟩,?_,?_⟩ pr szJ fun c o c1 c2 c3 c4 e=>up c o c1 (upF c o c1 c2 c3 c4 e)
 ·exact N1.keep _ _ _ it1B fun o e=>up _ _ d3.symm (bF.extBut _ _ d8.symm (bD.extBut _ _ d10 (bC.extBut _ _ d8.symm e)))
 ·exact N2.keep _ _ _ it2D fun o e=>up _ _ d4.symm (bF.extBut _ _ d9.symm e)
theorem z_end {k:Nat}{xs ys:Array Value}{Q:PySem.Fin->Shared->Prop} (hh:A.handled=none) (D:ZAp z TI TO i1 i2 a1 a2) (N1:NxS prog w i1 a1 I1 S1) (N2:NxS prog w i2 a2 I2 S2) (st:ZSt z TI TO i1 i2 I1 I2 .none k s.heap) (s1:S1 s.heap xs) (s2:S2 s.heap ys)
  (hxy:xs[k]?=none\/ys[k]?=none)
  (hE:∀ h' e,(∀ c o,c≠z->c≠TO->c≠i1->c≠i2->s.heap.get? c=some o->h'.get? c=some o)->(∃ o,h'.get? e=some o/\o.cls=.type "StopIteration")->E (.ref e) { s with heap:=h' }) :
  wpAny (model prog w) A (Builtin.«zip.__next__» ⟨[.ref z],[]⟩) Q E s:=by
 obtain ⟨⟨d1,d2,d3,d4,d5,d6,d7,d8,d9,d10⟩,⟨e1,e2,e3,e4⟩,⟨g1,g2,g3,g4⟩⟩:=zhs D
 obtain ⟨zip,ti,⟨va,vb,to⟩,it1,it2⟩:=st
 refine wpAny_bind (m:=field (.ref z) 2) (wpAny_field zip rfl (x:=.bool false) rfl ?_)
 refine wpAny_bind (m:=field (.ref z) 3) (wpAny_field zip rfl (x:=.ref TI) rfl (wpAny_bind (wpAny_seqItems ti rfl ?_)))
 refine wpAny_bind (m:=Builtin.SmallTypes.ownedTupleIsFree (.ref z)) ?_
 unfold Builtin.SmallTypes.ownedTupleIsFree
 refine wpAny_bind (wpAny_field zip rfl (x:=.none) rfl (wpAny_pure ?_))
 simp only [if_true]
 refine wpAny_bind (wpAny_rule (wpAny_bind (wpAny_field zip rfl (x:=.ref TO) rfl (wpAny_bind (wpAny_setField_rec zip (by simp) fun hA zA bA=>?_)))))
 have zA':IsZip hA z TI TO .ellipsis:=zA
 refine wpAny_bind ?_
 simp only [List.zipIdx_cons,List.zipIdx_nil,List.forIn_cons,List.forIn_nil]
 refine wpAny_bind (wpAny_bind (wpAny_onRaise (wpAny_bind (m:=Builtin.SmallTypes.nextOf (.ref i1)) ?_)))
 have a1':=N1.keep _ _ _ it1 fun o e=>bA.extBut _ _ d3.symm e
 have a2':=N1.sk _ _ _ s1 fun o e=>bA.extBut _ _ e1 e
 cases hx:xs[k]? with
 | none =>
  refine N1.done _ _ k xs _ _ hh a1' a2' hx fun hB e bB ⟨oe,he,hc⟩=>?_
  have zB:IsZip hB z TI TO .ellipsis:=bB _ _ d3 zA'
  have ez:e≠z:=fun y=>by subst y;rw [zB] at he;cases he;simp at hc
  exact wpAny_setField_rec zB (by simp) fun hC _ bC=>hE hC e (fun c o c1 _ c3 _ y=>bC.extBut _ _ c1 (bB _ _ c3 (bA.extBut _ _ c1 y))) ⟨oe,bC.extBut _ _ ez he,hc⟩
 | some x =>
  have hy:ys[k]?=none:=by rcases hxy with h | h;rw [hx] at h;cases h;exact h
  refine N1.item _ _ k xs x _ _ a1' a2' hx fun hB it1B bB=>wpAny_pure ?_
  have toB:IsPair hB TO va vb:=bB.extBut _ _ d8 (bA.extBut _ _ d2.symm to)
  refine wpAny_bind (wpAny_seqItems toB rfl (wpAny_bind (wpAny_updateSeq_pair toB fun hC toC bC=>?_)))
  refine wpAny_bind (wpAny_letGo (wpAny_pure ?_))
  refine wpAny_bind (wpAny_bind (wpAny_onRaise (wpAny_bind (m:=Builtin.SmallTypes.nextOf (.ref i2)) ?_)))
  have up2:∀ c o,c≠z->c≠TO->c≠i1->s.heap.get? c=some o->hC.get? c=some o:=fun c o c1 c2 c3 e=>bC.extBut _ _ c2 (bB.extBut _ _ c3 (bA.extBut _ _ c1 e))
  refine N2.done _ _ k ys _ _ hh (N2.keep _ _ _ it2 fun o e=>up2 _ _ d4.symm d9.symm d10.symm e) (N2.sk _ _ _ s2 fun o e=>up2 _ _ g1 g2 g3 e) hy fun hD e bD ⟨oe,he,hc⟩=>?_
  have zD:IsZip hD z TI TO .ellipsis:=bD _ _ d4 (bC.extBut _ _ d2 (bB.extBut _ _ d3 zA'))
  have ez:e≠z:=fun y=>by subst y;rw [zD] at he;cases he;simp at hc
  exact wpAny_setField_rec zD (by simp) fun hF _ bF=>hE hF e (fun c o c1 c2 c3 c4 y=>bF.extBut _ _ c1 (bD _ _ c4 (up2 c o c1 c2 c3 y))) ⟨oe,bF.extBut _ _ ez he,hc⟩
theorem zmk {k:Nat}{xs ys:Array Value}{x y:Value}{Q:Option Value->Shared->Prop} (D:ZAp z TI TO i1 i2 a1 a2) (N1:NxS prog w i1 a1 I1 S1) (N2:NxS prog w i2 a2 I2 S2) (st:ZSt z TI TO i1 i2 I1 I2 .none k s.heap) (s1:S1 s.heap xs) (s2:S2 s.heap ys)
  (hx:xs[k]?=some x) (hy:ys[k]?=some y)
  (hQ:∀ h',ZSt z TI TO i1 i2 I1 I2 (rawInt s.heap.objs.size) (k+1) h'->IsPair h' s.heap.objs.size x y->h'.objs.size=s.heap.objs.size+1 ->
   (∀ c o,c≠z->c≠TO->c≠i1->c≠i2->s.heap.get? c=some o->h'.get? c=some o)->Q (some (.ref s.heap.objs.size)) { s with heap:=h' }) :
  wpAny (model prog w) A (pyNext (.ref z)) Q E s:=by
 have hT:s.TypeIs (.ref z) "zip":=⟨_,st.zip,rfl⟩
 unfold pyNext
 exact wpAny_bind (wpAny_attempt (wpAny_callSpecial?_slot (name:=Str.ofString "__next__") hT F.slot_zip_next (wpAny_call_entry F.slot_zip_next hT F.entry_zip_next
  (z_item D N1 N2 st s1 s2 hx hy fun h' b1 b2 b3 b4=>wpAny_pure (hQ h' b1 b2 b3 b4)) (F.args_zip_next_1 _))))
theorem zmj {k:Nat}{xs ys:Array Value}{Q:Option Value->Shared->Prop} (hh:A.handled=none) (D:ZAp z TI TO i1 i2 a1 a2) (N1:NxS prog w i1 a1 I1 S1) (N2:NxS prog w i2 a2 I2 S2) (st:ZSt z TI TO i1 i2 I1 I2 .none k s.heap) (s1:S1 s.heap xs) (s2:S2 s.heap ys)
  (hxy:xs[k]?=none\/ys[k]?=none) (hQ:∀ h',(∀ c o,c≠z->c≠TO->c≠i1->c≠i2->s.heap.get? c=some o->h'.get? c=some o)->Q none { s with heap:=h' }):wpAny (model prog w) A (pyNext (.ref z)) Q E s:=by
 have hT:s.TypeIs (.ref z) "zip":=⟨_,st.zip,rfl⟩
 unfold pyNext
 refine wpAny_bind (wpAny_attempt (wpAny_callSpecial?_slot (name:=Str.ofString "__next__") hT F.slot_zip_next (wpAny_call_entry F.slot_zip_next hT F.entry_zip_next
  (z_end hh D N1 N2 st s1 s2 hxy fun h' e hk ⟨o,ho,hc⟩=>?_) (F.args_zip_next_1 _))))
 exact wpAny_bind (wpAny_isInstance (T:="StopIteration") (b:=true) ⟨o,ho,hc⟩ isSubtype_stop (wpAny_pure (hQ _ hk)))
end
end L2
namespace L2
open PySem PySem.Spec PyProof.Rows
def SqB (t:Bool) (K:PySem.W.Frag) (H:Hp) (a:Addr) (xs:List V):Prop:=match t with | true=>SqT K H a xs | false=>SqL K H a xs
def ITB (t:Bool) (i a:Addr):Nat->Heap->Prop:=match t with | true=>fun k h=>h.IsTupleIter i a k | false=>fun k h=>h.IsListIter i a k
def SQB (t:Bool) (a:Addr):Heap->Array Value->Prop:=match t with | true=>fun h xs=>h.IsTuple a xs | false=>fun h xs=>h.IsList a xs
def itN (t:Bool):String:=match t with | true=>"tuple_iterator" | false=>"list_iterator"
theorem nx_B {prog:Program}{w:World}{i a:Addr} (t:Bool):NxS prog w i a (ITB t i a) (SQB t a):=by
 cases t
 ·exact zlo
 ·exact znl
section
variable {X:Cx}{pins:List (Addr×Obj)}{σ:St}{H:Hp}{s:Shared}
theorem Inv.seqB {t:Bool}{a:Addr}{xs:List V} (I:Inv X pins σ H s) (h:SqB t X.K H a xs):∃ its:List Value,Vals xs its/\SQB t a s.heap its.toArray/\xs.length<=sizeLine:=by
 cases t
 ·obtain ⟨its,r,p,z⟩:=I.list h
  exact ⟨its,r,p.isList,z⟩
 ·obtain ⟨its,r,p,z⟩:=I.tuple h
  exact ⟨its,r,p,z⟩
theorem Inv.injB {t:Bool}{a:Addr}{xs ys:List V} (I:Inv X pins σ H s) (h:SqB t X.K H a xs) (h':SqB t X.K H a ys):xs=ys:=by
 cases t
 ·exact I.list_inj h h'
 ·exact I.tuple_inj h h'
theorem Inv.turnedL {h':Heap}{t':Nat} (ch:List Addr) (I:Inv X pins σ H s) (k:∀ b o,b∉ch->s.heap.get? b=some o->h'.get? b=some o) (f:∀ b∈ch,FpOk X pins H b):Inv X pins σ H { s with heap:=h',toks:=t' }:=by
 have nch:∀ b u,H b=some u->b∉ch:=fun b u e z=>by rw [(f b z).1] at e;cases e
 refine I.step (g':=s.gens) (d':=s.drawn) (ch:=ch) (fun b hb=>⟨(f b hb).2.2.2.1,(f b hb).2.1,(f b hb).2.2.2.2.1,(f b hb).2.2.2.2.2⟩) (fun b o _ _ hc e _=>k b o hc e) (fun b o _ _ hc e _=>⟨o.slots,k b o hc e⟩) (fun _ _ _ _ n=>n) (fun b o hc e=>⟨o,k b o hc e⟩) (fun _ _ e=>e) (fun _ _ _ e=>e)
  (fun b ps e=>⟨#[],by rw [e];simp⟩) (fun m ⟨o,es,ep,ho,r⟩=>⟨o,es,ep,k _ o (fun z=>(f _ z).2.1 rfl) ho,r⟩) (fun b u e=>(I.hok b u e).stay (fun c v hc q=>k c v ?_ q) (fun _ q=>q) fun _ _ q=>q) I.bare
 rcases hc with z | z
 ·rw [z];exact nch b u e
 ·exact nch c _ z
end
section
variable {prog:Program}{w:World}{A:Around}{E:Value->Shared->Prop}{s:Shared}
theorem znE {t:Bool}{a:Addr}{xs:Array Value}{Q:Value->Shared->Prop} (h:SQB t a s.heap xs) (hQ:Q (.ref s.heap.objs.size) { s with heap:=s.heap.push { cls:=.type (itN t),data:=.fields #[.ref a,.int 0 0] } }):wpAny (model prog w) A (pyIter (.ref a)) Q E s:=by
 cases t
 ·exact wpAny_pyIter_list h hQ
 ·exact wpAny_pyIter_tuple h hQ
theorem SQB.push {t:Bool}{a:Addr}{xs:Array Value}{h:Heap} (x:SQB t a h xs) (o:Obj):SQB t a (h.push o) xs:=by
 cases t
 ·exact Heap.IsList.push x o
 ·exact Heap.IsTuple.push x o
abbrev zA (h:Heap) (t:Bool) (a:Addr):Heap:=h.push { cls:=.type (itN t),data:=.fields #[.ref a,.int 0 0] }
abbrev zB (h:Heap) (t u:Bool) (a b:Addr):Heap:=(zA h t a).push { cls:=.type (itN u),data:=.fields #[.ref b,.int 0 0] }
abbrev zC (h:Heap) (t u:Bool) (a b:Addr):Heap:=(zB h t u a b).push { cls:=.type "tuple",data:=.seq #[.ref h.objs.size,.ref (zA h t a).objs.size] }
abbrev zD (h:Heap) (t u:Bool) (a b:Addr):Heap:=(zC h t u a b).push { cls:=.type "tuple",data:=.seq #[.none,.none] }
abbrev zE (h:Heap) (t u:Bool) (a b:Addr):Heap:=(zD h t u a b).push { cls:=.type "zip",data:=.fields #[.none,.bool false,.bool false,.ref (zB h t u a b).objs.size,.ref (zC h t u a b).objs.size] }
theorem zjK (t u:Bool) (a b:Addr) (xs ys:Array Value) :
  Meets (Builtin.«zip.__new__» ⟨[.type "zip",.ref a,.ref b],[]⟩) (fun _ R s=>SQB t a s.heap xs/\SQB u b s.heap ys/\R (.ok (.ret (.ref (zD s.heap t u a b).objs.size))) { s with heap:=zE s.heap t u a b }) :=
 .of_wp fun prog w A R s h=>by
  obtain ⟨hp,g,d,tk,os⟩:=s;obtain ⟨h1,h2,h⟩:=h
  have hsub:=sub_zip
  have L1:SQB t a (Shared.heap ⟨hp,g,d,tk,os⟩) xs:=h1
  have L2:SQB u b (Shared.heap ⟨hp.push { cls:=.type (itN t),data:=.fields #[.ref a,.int 0 0] },g,d,tk,os⟩) ys:=SQB.push h2 _
  wp_walk using znE L1,znE L2
  exact ⟨_,rfl,h⟩
theorem ITB.new {t:Bool}{i a:Addr}{h:Heap} (e:h.get? i=some { cls:=.type (itN t),data:=.fields #[.ref a,.int 0 0] }):ITB t i a 0 h:=by
 cases t
 ·exact ⟨_,e,rfl,rfl⟩
 ·exact ⟨_,e,rfl,rfl⟩
theorem zl4 {t u:Bool}{a b:Addr}{xs ys:Array Value}{Q:Value->Shared->Prop} (h1:SQB t a s.heap xs) (h2:SQB u b s.heap ys)
  (h:∀ h',ZSt (s.heap.objs.size+4) (s.heap.objs.size+2) (s.heap.objs.size+3) s.heap.objs.size (s.heap.objs.size+1) (ITB t s.heap.objs.size a) (ITB u (s.heap.objs.size+1) b) .none 0 h'->h'.objs.size=s.heap.objs.size+5 ->
   (∀ c o,s.heap.get? c=some o->h'.get? c=some o)->Q (.ref (s.heap.objs.size+4)) { s with heap:=h' }) :
  wpAny (model prog w) A (call (.type "zip") [.ref a,.ref b]) Q E s:=by
 refine callType_new F.called_zip (by decide) (F.typeCall_zip_2 _ _) (F.newCall_zip_2 _ _) (fun obj=>F.args_object_init_3 obj _ _) F.entry_zip_new (zjK t u a b xs ys) ⟨h1,h2,?_⟩
 have n1:(zA s.heap t a).objs.size=s.heap.objs.size+1:=Heap.size_push ..
 have n2:(zB s.heap t u a b).objs.size=s.heap.objs.size+2:=by rw [Heap.size_push,n1]
 have n3:(zC s.heap t u a b).objs.size=s.heap.objs.size+3:=by rw [Heap.size_push,n2]
 have n4:(zD s.heap t u a b).objs.size=s.heap.objs.size+4:=by rw [Heap.size_push,n3]
 have n5:(zE s.heap t u a b).objs.size=s.heap.objs.size+5:=by rw [Heap.size_push,n4]
 have g5:(zE s.heap t u a b).get? (zD s.heap t u a b).objs.size=some _:=Heap.get?_push_size _ rfl
 have g4:(zE s.heap t u a b).get? (zC s.heap t u a b).objs.size=some _:=Heap.get?_push_of_some _ (Heap.get?_push_size _ rfl)
 have g3:(zE s.heap t u a b).get? (zB s.heap t u a b).objs.size=some _:=Heap.get?_push_of_some _ (Heap.get?_push_of_some _ (Heap.get?_push_size _ rfl))
 have g2:(zE s.heap t u a b).get? (zA s.heap t a).objs.size=some _:=Heap.get?_push_of_some _ (Heap.get?_push_of_some _ (Heap.get?_push_of_some _ (Heap.get?_push_size _ rfl)))
 have g1:(zE s.heap t u a b).get? s.heap.objs.size=some _:=Heap.get?_push_of_some _ (Heap.get?_push_of_some _ (Heap.get?_push_of_some _ (Heap.get?_push_of_some _ (Heap.get?_push_size _ rfl))))
 show _/\_
 rw [n2,n3,n4] at g5
 rw [n1,n2] at g3
 rw [n3] at g4
 rw [n1] at g2
 rw [n4]
 refine ⟨⟨_,g5,rfl⟩,h _ ⟨g5,g3,⟨_,_,g4⟩,.new g1,.new g2⟩ n5 fun c o x=>?_⟩
 iterate 5 refine Heap.get?_push_of_some _ ?_
 exact x
end
def Itz (t u:Bool) (K:PySem.W.Frag) (a b:Addr):It :=
 ⟨fun i H=>∃ xs ys x y,SqB t K H a xs/\SqB u K H b ys/\xs[i]?=some x/\ys[i]?=some y,
  fun i H v H'=>∃ p x y,H p=none/\v=.ref p/\(∀ xs,SqB t K H a xs->xs[i]?=some x)/\(∀ ys,SqB u K H b ys->ys[i]?=some y)/\H'=upd H p (.tup [x,y]),
  fun i H=>∃ xs ys,SqB t K H a xs/\SqB u K H b ys/\(xs.length<=i\/ys.length<=i)⟩
theorem zjb {P:Program}{w:World}{K:PySem.W.Frag}{elts:List Expr}{x1:_}{pos:Pos}{t u:Bool}{z TI TO i1 i2 a b:Addr} (D:ZAp z TI TO i1 i2 a b) :
  Turn P w K (.Tuple elts x1 pos) (Itz t u K a b) [z,TI,TO,i1,i2] z (fun i h=>ZSt z TI TO i1 i2 (ITB t i1 a) (ITB u i2 b) .none i h) where
 mem:=by simp
 obj:=fun i h st c hc=>by
  obtain ⟨zp,ti,⟨va,vb,to⟩,j1,j2⟩:=st
  simp only [List.mem_cons,List.not_mem_nil,or_false] at hc
  rcases hc with rfl | rfl | rfl | rfl | rfl
  ·exact ⟨_,zp,fun v y=>by cases y⟩
  ·exact ⟨_,ti,fun v y=>by cases y⟩
  ·exact ⟨_,to,fun v y=>by cases y⟩
  ·exact (nx_B (prog:=P) (w:=w) t).rcd _ _ j1
  ·exact (nx_B (prog:=P) (w:=w) u).rcd _ _ j2
 keep:=fun i h h' st k=>by
  obtain ⟨zp,ti,⟨va,vb,to⟩,j1,j2⟩:=st
  exact ⟨k _ (by simp) _ zp,k _ (by simp) _ ti,⟨va,vb,k _ (by simp) _ to⟩,(nx_B (prog:=P) (w:=w) t).keep _ _ _ j1 (k _ (by simp)),(nx_B (prog:=P) (w:=w) u).keep _ _ _ j2 (k _ (by simp))⟩
 item:=by
  intro X hP hw hK hc i pins s σ H E I hf st hg
  subst hP hw hK
  obtain ⟨xs,ys,x,y,q1,q2,hx,hy⟩:=hg
  obtain ⟨its,r1,p1,z1⟩:=I.seqB q1
  obtain ⟨jts,r2,p2,z2⟩:=I.seqB q2
  obtain ⟨ux,hux,rux⟩:=r1.get hx
  obtain ⟨uy,huy,ruy⟩:=r2.get hy
  refine zmk D (nx_B t) (nx_B u) st p1 p2 (x:=ux) (y:=uy) (by simpa using hux) (by simpa using huy) fun h' st' pr sz kp=>?_
  refine ⟨_,rfl,?_⟩
  refine wpAny_letOwnedTupleGo_zip (s:={ s with heap:=h' }) st'.zip fun h2 z2' sb=>?_
  obtain ⟨⟨d1,d2,d3,d4,d5,d6,d7,d8,d9,d10⟩,_,_⟩:=zhs D
  have big:∀ c∈[z,TI,TO,i1,i2],c<s.heap.objs.size:=fun c hc=>by
   obtain ⟨zp,ti,⟨va,vb,to⟩,j1,j2⟩:=st
   simp only [List.mem_cons,List.not_mem_nil,or_false] at hc
   rcases hc with rfl | rfl | rfl | rfl | rfl
   ·exact Heap.lt_size zp
   ·exact Heap.lt_size ti
   ·exact Heap.lt_size to
   ·obtain ⟨o,e,_⟩:=(nx_B (prog:=X.prog) (w:=X.w) t).rcd _ _ j1;exact Heap.lt_size e
   ·obtain ⟨o,e,_⟩:=(nx_B (prog:=X.prog) (w:=X.w) u).rcd _ _ j2;exact Heap.lt_size e
  have hp:H s.heap.objs.size=none:=I.hok.fresh (Nat.le_refl _)
  have I1:Inv X pins σ (upd H s.heap.objs.size (.tup [x,y])) { s with heap:=s.heap.push { cls:=.type "tuple",data:=.seq #[ux,uy] } } :=
   I.laid (t':=s.toks) (fun b o e=>Heap.get?_push_of_some _ e) (Nat.le_refl _) (show zba X.prog X.w _ _ _ (.tup [x,y]) from ⟨by show 2<=sizeLine;decide,[ux,uy],.cons rux (.cons ruy .nil),IsTD.new _ _⟩)
  have npos:∀ c∈[z,TI,TO,i1,i2],c≠s.heap.objs.size:=fun c hc=>Nat.ne_of_lt (big c hc)
  have fu:∀ c∈[z,TI,TO,i1,i2],upd H s.heap.objs.size (.tup [x,y]) c=none:=fun c hc=>by rw [zam (npos c hc)];exact (hf c hc).1
  refine ⟨.ref s.heap.objs.size,upd H s.heap.objs.size (.tup [x,y]),?_,rfl,⟨_,x,y,hp,rfl,fun xs' h=>by rw [I.injB h q1];exact hx,fun ys' h=>by rw [I.injB h q2];exact hy,rfl⟩,?_,fu⟩
  ·refine Inv.turnedL (s:={ s with heap:=s.heap.push { cls:=.type "tuple",data:=.seq #[ux,uy] } }) (t':=s.toks) [z,TO,i1,i2] I1 (fun c o hc e=>?_) fun c hc=>?_
   ·simp only [List.mem_cons,List.not_mem_nil,or_false,not_or] at hc
    refine sb.extBut _ _ hc.1 ?_
    by_cases y:c=s.heap.objs.size
    ·subst y
     have e':(s.heap.push { cls:=.type "tuple",data:=.seq #[ux,uy] }).get? s.heap.objs.size=some _:=Heap.get?_push_size _ rfl
     have e2:some o=some _:=e.symm.trans e'
     cases e2
     exact pr
    ·have e':s.heap.get? c=some o:=by
      have e3:(s.heap.push { cls:=.type "tuple",data:=.seq #[ux,uy] }).get? c=some o:=e
      rwa [Heap.get?_push_ne _ _ _ y] at e3
     exact kp c o hc.1 hc.2.1 hc.2.2.1 hc.2.2.2 e'
   ·have m:c∈[z,TI,TO,i1,i2]:=by simp only [List.mem_cons,List.not_mem_nil,or_false] at hc ⊢;rcases hc with h | h | h | h <;> simp [h]
    exact ⟨fu c m,(hf c m).2⟩
  ·obtain ⟨zp,ti,⟨va,vb,to⟩,j1,j2⟩:=st'
   exact ⟨z2',sb.extBut _ _ d1.symm ti,⟨va,vb,sb.extBut _ _ d2.symm to⟩,(nx_B (prog:=X.prog) (w:=X.w) t).keep _ _ _ j1 fun o e=>sb.extBut _ _ d3.symm e,(nx_B (prog:=X.prog) (w:=X.w) u).keep _ _ _ j2 fun o e=>sb.extBut _ _ d4.symm e⟩
 done:=by
  intro X hP hw hK hc i pins s σ H E I hf st hg
  subst hP hw hK
  obtain ⟨xs,ys,q1,q2,hx⟩:=hg
  obtain ⟨its,r1,p1,z1⟩:=I.seqB q1
  obtain ⟨jts,r2,p2,z2⟩:=I.seqB q2
  have l1:=r1.length
  have l2:=r2.length
  refine zmj (I.ok.hd hc) D (nx_B t) (nx_B u) st p1 p2 (by rcases hx with h | h;exact .inl (by simp;omega);exact .inr (by simp;omega)) fun h' kp=>⟨rfl,?_⟩
  refine Inv.turnedL (t':=s.toks) [z,TO,i1,i2] I (fun c o hc e=>?_) fun c hc=>hf c ?_
  ·simp only [List.mem_cons,List.not_mem_nil,or_false,not_or] at hc
   exact kp c o hc.1 hc.2.1 hc.2.2.1 hc.2.2.2 e
  ·simp only [List.mem_cons,List.not_mem_nil,or_false] at hc ⊢
   rcases hc with h | h | h | h <;> simp [h]
 self:=fun _ _ _ _ _ st h=>wpAny_pyIter_zip st.zip h
end L2
namespace L2
open PySem PySem.Spec PyProof.Rows
section
variable {X:Cx}{a b:Expr}{elts:List Expr}{x1:Nat}{p p' pos:Pos}
def iZip (K:PySem.W.Frag) (ta:TA):TI:=fun σ H R=>ta σ H fun vs H1=>∃ (t u:Bool) (c d:Addr) (xs ys:List V),vs=[.ref c,.ref d]/\SqB t K H1 c xs/\SqB u K H1 d ys/\R (Itz t u K c d) H1
theorem SQB.lt {t:Bool}{c:Addr}{xs:Array Value}{h:Heap} (x:SQB t c h xs):c<h.objs.size:=by
 cases t
 ·obtain ⟨o,e,_⟩:=x;exact Heap.lt_size e
 ·obtain ⟨o,e,_⟩:=x;exact Heap.lt_size e
theorem zkJ {n:Nat}{c d:Addr} (h1:c<n) (h2:d<n):ZAp (n+4) (n+2) (n+3) n (n+1) c d:=by
 have ne:∀ (e:Addr) (k:Nat),e<n->e≠n+k:=fun e k h=>Nat.ne_of_lt (Nat.lt_of_lt_of_le h (Nat.le_add_right _ _))
 refine ⟨by simp,fun e he=>?_⟩
 have hl:e<n:=by
  simp only [List.mem_cons,List.not_mem_nil,or_false] at he
  rcases he with rfl | rfl
  ·exact h1
  ·exact h2
 simp only [List.mem_cons,List.not_mem_nil,or_false,not_or]
 exact ⟨ne e 4 hl,ne e 2 hl,ne e 3 hl,Nat.ne_of_lt hl,ne e 1 hl⟩
theorem zmW {ta:TA} (hg:Gl X "zip") (hm:X.mg "zip" = none) (ha:PA X [a,b] ta) (hs:starEach [a,b] X.env=[(false,eval a X.env),(false,eval b X.env)]) (hs2:starEach [b] X.env=[(false,eval b X.env)]) :
  PI X (.Tuple elts x1 p') (.Call (.Name "zip" p) [a,b] [] pos) (iZip X.K ta):=by
 intro pins s σ H R I h
 refine Call_ (ze4 I hg hm boot_zip (PyProof.Rows.callWith_type1 (thn (ha pos pins s σ H _ I h) fun us s1 ⟨vs,H1,I1,r1,q1⟩=>?_) (by rw [hs,hs2]) (by rw [hs2];rfl)))
 obtain ⟨t,u,c,d,xs,ys,rfl,s1',s2',q⟩:=q1
 cases r1 with
 | cons r rr =>
  cases rr with
  | cons r' rr =>
   cases rr
   cases r
   cases r'
   obtain ⟨its,_,p1,_⟩:=I1.seqB s1'
   obtain ⟨jts,_,p2,_⟩:=I1.seqB s2'
   refine zl4 p1 p2 fun h' st sz kp=>?_
   refine wpAny_pyIter_zip (s:={ s1 with heap:=h' }) st.zip ?_
   refine ⟨_,_,_,_,H1,rfl,I1.kept (t':=s1.toks) kp,zjb (zkJ p1.lt p2.lt),st,fun e he=>?_,q⟩
   have ge:s1.heap.objs.size<=e:=by
    simp only [List.mem_cons,List.not_mem_nil,or_false] at he
    rcases he with rfl | rfl | rfl | rfl | rfl
    ·exact Nat.le_add_right _ _
    ·exact Nat.le_add_right _ _
    ·exact Nat.le_add_right _ _
    ·exact Nat.le_refl _
    ·exact Nat.le_add_right _ _
   exact I1.fpOk ge (I1.hok.fresh ge)
theorem srcB {K:PySem.W.Frag}{hd:Option Addr}{P O:Addr->Prop}{H:Hp}{v:V}{t:PyData}{ts:List PyData} (hO:∀ a,¬O a->P a) (r:Rep K hd O H v t) (h:t=.tuple ts\/t=.list ts) :
  ∃ (k:Bool) (q:Addr) (vs:List V),v=.ref q/\SqB k K H q vs/\∀ (O2:Addr->Prop) (H2:Hp),(∀ a o,H a=some o->P a->H2 a=some o)->(∀ a o,H a=some o->¬O a->¬O2 a)->SqB k K H2 q vs/\Reps K hd O2 H2 vs ts:=by
 have mv:∀ vs,Reps K hd O H vs ts->∀ (O2:Addr->Prop) (H2:Hp),(∀ a o,H a=some o->P a->H2 a=some o)->(∀ a o,H a=some o->¬O a->¬O2 a)->Reps K hd O2 H2 vs ts:=fun vs r O2 H2 h1 h2 =>
  r.mono (fun a o ha z=>Classical.byContradiction fun no=>h2 a o ha no z) fun a o no ha=>h1 a o ha (hO a no)
 rcases h with rfl | rfl
 ·cases r with
  | @tup q vs ds h o r=>exact ⟨true,q,vs,rfl,.inl (.inl h),fun O2 H2 h1 h2=>⟨.inl (.inl (h1 q _ h (hO q o))),mv vs r O2 H2 h1 h2⟩⟩
  | @tupS q vs ds h r=>exact ⟨true,q,vs,rfl,h.sq,fun O2 H2 h1 h2=>⟨h.sq,mv vs r O2 H2 h1 h2⟩⟩
 ·obtain ⟨q,vs,rfl,h1',no,r⟩:=r.lstI
  exact ⟨false,q,vs,rfl,SqL.of h1',fun O2 H2 h1 h2=>⟨SqL.of (h1 q _ h1' (hO q no)),mv vs r O2 H2 h1 h2⟩⟩
def zipD (xs ys:List PyData):List PyData:=(xs.zip ys).map fun q=>.tuple [q.1,q.2]
def dZip (da db:DTE):DTA:=fun ρ n R=>da ρ n fun x n1=>db ρ n1 fun y n2=>zbl x fun xs=>zbl y fun ys=>R (zipD xs ys) n2
theorem zgO {t:PyData}{R:List PyData->Prop} (h:zbl t R):∃ ts,(t=.tuple ts\/t=.list ts)/\R ts:=by
 cases t with
 | list ts=>exact ⟨ts,.inr rfl,h⟩
 | tuple ts=>exact ⟨ts,.inl rfl,h⟩
 | _=>exact h.elim
theorem zoa {da db:DTE} (hm:X.mg "zip" = none) (h:DE X a da) (h':DE X b db) (hg:Gl X "zip":=by rfl) (hs:starEach [a,b] X.env=[(false,eval a X.env),(false,eval b X.env)]:=by rfl) (hs2:starEach [b] X.env=[(false,eval b X.env)]:=by rfl) :
  DI X (.Tuple elts x1 p') (.Call (.Name "zip" p) [a,b] [] pos) (dZip da db):=by
 obtain ⟨ta,pa,h⟩:=h
 obtain ⟨tb,pb,h'⟩:=h'
 refine ⟨_,zmW hg hm (zcF pa (zcF pb zeU hs2) (by rw [hs,hs2])) hs hs2,fun C ρ σ H n Q R S hd hq=>?_⟩
 refine h C ρ σ H n _ _ S hd fun x n1 v H1 r1 e1 hn1 q1=>?_
 have S1:=S.on e1 hn1
 refine h' C ρ σ H1 n1 _ _ S1 r1 fun y n2 w H2 r2 e2 hn2 q2=>?_
 have q1':=e2.rep S.hx q1
 obtain ⟨xs,hx,r2⟩:=zgO r2
 obtain ⟨ys,hy,r2⟩:=zgO r2
 obtain ⟨k1,c,vs,rfl,s1,f1⟩:=srcB (P:=fun a=>¬Own C ρ σ a) (fun _ z=>z) q1' hx
 obtain ⟨k2,d,ws,rfl,s2,f2⟩:=srcB (P:=fun a=>¬Own C ρ σ a) (fun _ z=>z) q2 hy
 refine ⟨k1,k2,c,d,vs,ws,rfl,s1,s2,hq _ n2 _ H2 r2 (e1.trans e2) hn2 ?_⟩
 intro O2 H3 h1 h2 h3
 obtain ⟨g1,rs1⟩:=f1 O2 H3 h1 h2
 obtain ⟨g2,rs2⟩:=f2 O2 H3 h1 h2
 refine ⟨fun i t et=>?_,?_⟩
 ·unfold zipD at et
  rw [List.getElem?_map] at et
  cases ez:(xs.zip ys)[i]? with
  | none=>rw [ez] at et;cases et
  | some q =>
   rw [ez] at et;cases et
   obtain ⟨ex,ey⟩:=List.getElem?_zip_eq_some.mp ez
   obtain ⟨vx,evx,rx⟩:=rs1.get ex
   obtain ⟨vy,evy,ry⟩:=rs2.get ey
   refine ⟨⟨vs,ws,vx,vy,g1,g2,evx,evy⟩,fun v H4 hyd=>?_⟩
   obtain ⟨pp,x',y',hp,rfl,hx',hy',rfl⟩:=hyd
   have e1:x'=vx:=Option.some.inj ((hx' vs g1).symm.trans evx)
   have e2:y'=vy:=Option.some.inj ((hy' ws g2).symm.trans evy)
   subst e1 e2
   exact ⟨zav hp,.newT (fun z=>h3 pp z hp) hp (.cons rx (.cons ry .nil))⟩
 ·refine ⟨vs,ws,g1,g2,?_⟩
  have:=rs1.length
  have:=rs2.length
  unfold zipD
  simp only [List.length_map,List.length_zip]
  omega
end
end L2
namespace L2
open PySem PySem.Spec PyProof.Rows
theorem zkA {α β:Type}{f:α->Option β}{g:α->β}:∀ (l:List α),(∀ m∈l,f m=some (g m))->l.filterMap f=l.map g
 | [],_=>rfl
 | m::l,h=>by rw [List.filterMap_cons,h m (.head _),List.map_cons,zkA l fun x hx=>h x (.tail _ hx)]
theorem zjx (xs:Array Value):((List.range xs.size).filterMap fun (m:Nat)=>xs[((xs.size:Int) - 1+(m:Int)*(-1)).toNat]?).toArray=xs.toList.reverse.toArray:=by
 congr 1
 have e:∀ m∈List.range xs.size,xs[((xs.size:Int) - 1+(m:Int)*(-1)).toNat]?=some (xs.toList.reverse.getD m .none):=fun m hm=>by
  have hm:m<xs.size:=List.mem_range.mp hm
  have e1:((xs.size:Int) - 1+(m:Int)*(-1)).toNat=xs.size - 1 - m:=by omega
  have h2:xs.size - 1 - m<xs.size:=by omega
  rw [e1,Array.getElem?_eq_getElem h2]
  have h3:m<xs.toList.reverse.length:=by simpa using hm
  rw [List.getD_eq_getElem?_getD,List.getElem?_eq_getElem h3,Option.getD_some,List.getElem_reverse]
  simp
 have e2:(List.range xs.size).filterMap (fun (m:Nat)=>xs[((xs.size:Int) - 1+(m:Int)*(-1)).toNat]?)=(List.range xs.size).map fun m=>xs.toList.reverse.getD m .none:=by
  exact zkA _ e
 rw [e2]
 apply List.ext_getElem
 ·simp
 ·intro i h1 h2
  simp at h1 h2 ⊢
  rw [List.getElem?_eq_getElem (by simpa using h2)]
  simp
section
variable {prog:Program}{w:World}{A:Around}{E:Value->Shared->Prop}{s:Shared}
theorem zcG {t sl:Addr}{items:Array Value}{vs:Value}{Q:Value->Shared->Prop} (ht:IsTup s.heap t items) (hs:s.heap.IsSliceOf sl .none .none vs) (ps:IsPart vs (some (-1)))
  (h:Q (.ref s.heap.objs.size) { s with heap:=s.heap.push { cls:=.type "tuple",data:=.seq items.toList.reverse.toArray } }) (hsz:items.size<=sizeLine):wpAny (model prog w) A (getItem (.ref t) (.ref sl)) Q E s:=by
 obtain ⟨os,hos,hcs,hds⟩:=id hs
 have hTs:s.TypeIs (.ref sl) "slice":=⟨os,hos,hcs⟩
 unfold getItem
 try with_reducible refine wpAny_holding ?_
 first | refine wpAny_bind (wpAny_pure ?_) | skip
 refine wpAny_bind (wpAny_sequenceKey ht.typeIs (by decide) ?_)
 refine wpAny_bind (wpAny_callSpecial?_slot (name:=Str.ofString "__getitem__") ht.typeIs PyProof.Rows.slot_tuple_getitem
  (wpAny_call_entry PyProof.Rows.slot_tuple_getitem ht.typeIs entry_tuple_getitem ?_ (args_tuple_getitem _ _)))
 refine wpAny_bind (m:=Builtin.Tuple.tupleItemsOf (.ref t)) (tupleItemsOf_ ht (wpAny_bind (wpAny_typeOf hTs ?_)))
 rw [if_pos (by decide)]
 refine wpAny_bind ?_
 unfold Builtin.Slice.sliceApplied Builtin.Slice.sliceFields
 refine wpAny_bind (wpAny_bind (wpAny_field hos hds (x:=.none) rfl (wpAny_bind (wpAny_field hos hds (x:=.none) rfl (wpAny_bind (wpAny_field hos hds (x:=vs) rfl (wpAny_pure ?_)))))))
 refine wpAny_bind (HT.zcA ps ?_)
 show wpAny _ _ (if ((-1:Int) == 0)=true then _ else _) _ _ s
 rw [if_neg (by decide)]
 refine wpAny_bind (slicePart_none (wpAny_bind (slicePart_none (wpAny_bind (wpAny_pure ?_)))))
 have e1:Builtin.Slice.sliceAdjust none none (-1) (items.size:Int)=((items.size:Int) - 1,-1):=by
  unfold Builtin.Slice.sliceAdjust;simp
 have e2:Builtin.Slice.slicePlaces ((items.size:Int) - 1) (-1) (-1)=items.size:=by
  unfold Builtin.Slice.slicePlaces
  simp
  split <;> omega
 show wpAny _ _ (match Builtin.Slice.sliceAdjust none none (-1) (items.size:Int) with | (lo,hi)=>pure (lo,(-1:Int),Builtin.Slice.slicePlaces lo hi (-1))) _ _ s
 rw [e1]
 show wpAny _ _ (pure (((items.size:Int) - 1),(-1:Int),Builtin.Slice.slicePlaces ((items.size:Int) - 1) (-1) (-1))) _ _ s
 rw [e2]
 refine wpAny_pure ?_
 have no:¬((((items.size:Int) - 1) == 0&&(-1:Int) == 1&&items.size == items.size)=true):=by simp
 show wpAny _ _ (if (((items.size:Int) - 1) == 0&&(-1:Int) == 1&&items.size == items.size)=true then _ else _) _ _ s
 rw [if_neg no,zjx]
 have sz:sizeOk (.seq items.toList.reverse.toArray):=by
  show items.toList.reverse.toArray.size<=sizeLine
  simpa using hsz
 first
  | exact wpAny_bind (m:=Builtin.Tuple.tupleExact _) (wpAny_newObj_type (wpAny_pure ⟨_,rfl,wpAny_pure h⟩) sz)
  | exact wpAny_bind (m:=Builtin.Tuple.tupleExact _) (wpAny_newObj_type (wpAny_bind (wpAny_pure (wpAny_pure ⟨_,rfl,wpAny_pure h⟩))) sz)
  | exact wpAny_bind (wpAny_bind (m:=Builtin.Tuple.tupleExact _) (wpAny_newObj_type (wpAny_pure (wpAny_pure ⟨_,rfl,wpAny_pure h⟩)) sz))
  | exact wpAny_bind (wpAny_bind (m:=Builtin.Tuple.tupleExact _) (wpAny_newObj_type (wpAny_pure ⟨_,rfl,wpAny_pure h⟩) sz))
end
section
variable {X:Cx}{e st:Expr}{d:DTE}{dst:DTO}{pos p2:Pos}{te:TE}{ts:TO}
def tRev (K:PySem.W.Frag) (te:TE) (ts:TO):TE:=fun σ H Q=>te σ H fun x H1=>ts σ H1 fun o H2=>o=some (-1)/\∃ a xs,x=.ref a/\SqT K H2 a xs/\∀ p,H2 p=none->Q (.ref p) (upd H2 p (.tup xs.reverse))
theorem Paired.rev {xs:List V}{us:List Value} (r:Vals xs us):Vals xs.reverse us.reverse:=by
 induction r with
 | nil=>exact .nil
 | cons a b ih=>rw [List.reverse_cons,List.reverse_cons];exact ih.append (.cons a .nil)
theorem zm1 (he:PE X e te) (hs:PO X (some st) ts):PE X (.Subscript e (.Slice none none (some st) p2) pos) (tRev X.K te ts):=by
 intro pins s σ H Q I h
 refine Subscript_ (thn (he pins s σ H _ I h) fun v s1 ⟨x,H1,I1,r1,q1⟩=>?_)
 refine wpAny_Slice ?_
 rw [evalPart_none]
 refine wpAny_pure (wpAny_pure (thn (hs pins s1 σ H1 _ I1 q1) fun vs s2 ⟨o,H2,I2,po,q2⟩=>?_))
 obtain ⟨rfl,a,xs,rfl,hx,q⟩:=q2
 cases r1
 have I4:Inv X pins σ H2 { s2 with heap:=s2.heap.push { cls:=.type "slice",data:=.fields #[.none,.none,vs] } }:=I2.kept (t':=s2.toks) fun b ob q=>Heap.get?_push_of_some _ q
 obtain ⟨its,r,ht,hz⟩:=I4.tuple hx
 have hl:=r.length
 refine tail_any (ops:=[.ref a,.ref s2.heap.objs.size]) ht.typeIs PyProof.Rows.slot_tuple_getitem.lookup ?_ (by with_unfolding_all rfl)
 refine zcG ht (Heap.IsSliceOf.new ..) po ?_ (by rw [List.size_toArray,<- hl];exact hz)
 refine ⟨.ref _,_,I4.laid (t':=s2.toks) (o:=.tup xs.reverse) (fun b ob q=>Heap.get?_push_of_some _ q) (Nat.le_refl _) ?_,rfl,q _ (I4.hok.fresh (Nat.le_refl _))⟩
 exact ⟨by rw [List.length_reverse];exact hz,_,Paired.rev r,IsTD.new _ _⟩
theorem Reps.rev {K:PySem.W.Frag}{hd:Option Addr}{O:Addr->Prop}{H:Hp}:∀ {vs ts},Reps K hd O H vs ts->Reps K hd O H vs.reverse ts.reverse
 | _,_,.nil=>.nil
 | _,_,.cons a b=>by rw [List.reverse_cons,List.reverse_cons];exact (Reps.rev b).append (.cons a .nil)
def dRev (d:DTE) (dst:DTO):DTE:=fun ρ n R=>d ρ n fun t n1=>dst ρ n1 fun o n2=>o=some (-1)/\lTup t fun ts=>R (.tuple ts.reverse) n2
theorem zoc (h:DL X e d) (hs:DP X (some st) dst):DE X (.Subscript e (.Slice none none (some st) p2) pos) (dRev d dst):=by
 obtain ⟨ta,pa,h⟩:=h
 obtain ⟨tl,pl,hl⟩:=hs
 refine ⟨_,zm1 pa pl,fun C ρ σ H n Q R S hd hq=>?_⟩
 refine h C ρ σ H n _ _ S hd fun t n1 v H1 r1 e1 h1 q1=>?_
 have S1:=S.on e1 h1
 refine hl C ρ σ H1 n1 _ _ S1 r1 fun o n2 H2 r2 e2 h2=>?_
 have S2:=S1.on e2 h2
 have q3:=e2.repT S.hx q1
 obtain ⟨rfl,r2⟩:=r2
 cases t with
 | tuple ts =>
  obtain ⟨a,vs,rfl,hs,rs⟩:=q3.tupI
  exact ⟨rfl,a,vs,rfl,hs,fun p hp=>hq _ n2 _ _ r2 (e1.trans (e2.trans (ExtE.new hp))) (h2.same (zav hp)) (.newT (S2.free hp) hp rs.rev)⟩
 | _=>exact r2.elim
end
end L2
namespace L2
open PySem PySem.Spec PyProof.Rows
section
variable {d da db:DTE}{dlo dhi:DTO}{ρ:En}{n:Nat}{R:PyData->Nat->Prop}{Ro:Option Int->Nat->Prop}{Rl:List PyData->Nat->Prop}{xs ys:List PyData}{lo hi:Option Int}{Q:PyData->Prop}{Ql:List PyData->Prop}
theorem zis (h:Ro none n):zf_ ρ n Ro:=h
theorem zlH (h:d ρ n fun t n'=>lInt t fun i=>Ro (some i) n'):zlZ d ρ n Ro:=h
theorem znP (h:da ρ n fun x n1=>db ρ n1 fun y n2=>zbl x fun xs=>zbl y fun ys=>Rl (zipD xs ys) n2):dZip da db ρ n Rl:=h
theorem znT (h:d ρ n fun t n1=>dlo ρ n1 fun o n2=>o=some (-1)/\lTup t fun ts=>R (.tuple ts.reverse) n2):dRev d dlo ρ n R:=h
end
theorem zho {cs:List PyData}{tg:DTG}{tt:DTT}{d:DTE}{ρ0:En}{n:Nat}{Rl:List PyData->Nat->Prop} (F:PyData->PyData) (hl:cs.length<=16777216)
  (step:∀ b∈cs,∀ (K:PyData->Nat->Prop) (X:Nat->Prop),K (F b) n->tg b ρ0 fun ρ1=>tt ρ1 n fun c n2=>if c=true then d ρ1 n2 K else X n2) (fin:Rl (cs.map F) n):zbY tg tt d ρ0 cs [] n Rl:=by
 have:=zfu (cs:=cs) (D:=fun t=>t) (tg:=tg) (tt:=tt) (d:=d) (ρ0:=ρ0) (n:=n) (Rl:=Rl) F hl step fin
 simpa using this
theorem zj7 {ts:List PyData}:cutD ts (some 1) none=ts.tail:=by
 unfold cutD
 rw [HT.zjk,show (some (1:Int))=some ((1:Nat):Int) from rfl,HT.zkW]
 cases ts with
 | nil=>simp
 | cons a l =>
  have:min 1 (a::l).length=1:=by simp
  rw [this]
  simp
end L2
namespace L2
open PySem PySem.Spec PyProof.Rows
class Stp (P:Prop) (Q:outParam Prop):Prop where
 go:Q->P
section
variable {t u tb:DTS}{D:DEnds}{ρ ρ0:En}{n i j m:Nat}{d da db dc d1 d2:DTE}{ds di:DTA}{c c' tt:DTT}{g:G2}{g':G2}{gc:GC}{gd:GD}{tg:DTG}{tgs:DTGs}{R:PyData->Nat->Prop}{Rb:Bool->Nat->Prop}{Rl:List PyData->Nat->Prop}{Re:En->Prop}{x y:PyData}{xs ys acc:List PyData}{f:Int->Int->Int}{fb:PyData->Bool}{k:Bool}{capt:List Nat}
instance zov :Stp (sSeq t u D ρ n) ((t { D with nx:=u D } ρ n)):=⟨fun h=>znH h⟩
instance zmB :Stp (zkV D ρ n) ((D.nx ρ n)):=⟨fun h=>zlD h⟩
instance zow :Stp (sRet d D ρ n) ((d ρ n fun t n'=>D.rt t n')):=⟨fun h=>znI h⟩
instance zpi :Stp (sIf c t u D ρ n) ((c ρ n fun b n1=>if b=true then t D ρ n1 else u D ρ n1)):=⟨fun h=>zpU h⟩
instance zoy :Stp (sAsg d tg D ρ n) ((d ρ n fun t n'=>tg t ρ fun ρ'=>D.nx ρ' n')):=⟨fun h=>znL h⟩
instance zox :Stp (sFor di tg tb D ρ n) ((di ρ n fun ts n1=>forP tg tb D ts ρ n1)):=⟨fun h=>znK h⟩
instance zqj :Stp (dC x ρ n R) ((R x n)):=⟨fun h=>i_dC h⟩
instance zpk :Stp (dOp g da db ρ n R) ((da ρ n fun x n1=>db ρ n1 fun y n2=>g x y fun z=>R z n2)):=⟨fun h=>zpX h⟩
instance zoI :Stp (dNew ds ρ n R) ((ds ρ n fun ts n'=>R (.list ts) n')):=⟨fun h=>znW h⟩
instance zoD :Stp (dTup ds ρ n R) ((ds ρ n fun ts n1=>R (.tuple ts) n1)):=⟨fun h=>znR h⟩
instance zoH :Stp (dNil ρ n Rl) ((Rl [] n)):=⟨fun h=>znV h⟩
instance zmG :Stp (ziM d ds ρ n Rl) ((d ρ n fun t n1=>ds ρ n1 fun ts n2=>Rl (t::ts) n2)):=⟨fun h=>zlJ h⟩
instance zpl :Stp (dFn gd ds ρ n R) ((ds ρ n fun ts n1=>gd ts n1 R)):=⟨fun h=>zpY h⟩
instance zoM :Stp (dFnL gd ds ρ n R) ((ds ρ n fun ts n1=>gd ts n1 fun t n2=>zbR t=true/\R t n2)):=⟨fun h=>zn0 h⟩
instance zmg :Stp (zft gc ds ρ n R) ((ds ρ n fun ts n1=>gc ts fun z=>R z n1)):=⟨fun h=>zjY h⟩
instance zoA :Stp (isiD fb d ρ n R) ((d ρ n fun t n1=>lIsi fb t fun z=>R z n1)):=⟨fun h=>znO h⟩
instance zoO :Stp (dAnd c c' ρ n Rb) ((c ρ n fun b n1=>if b=true then c' ρ n1 Rb else Rb false n1)):=⟨fun h=>zn2 h⟩
instance zpj :Stp (dOr c c' ρ n Rb) ((c ρ n fun b n1=>if b=true then Rb true n1 else c' ρ n1 Rb)):=⟨fun h=>zpW h⟩
instance zoG :Stp (dNot c ρ n Rb) ((c ρ n fun b n1=>Rb (!b) n1)):=⟨fun h=>znU h⟩
instance zmH :Stp (zl1 da db ρ n R) ((da ρ n fun t n1=>bolD t fun b=>if b=true then db ρ n1 R else R (.bool false) n1)):=⟨fun h=>zlL h⟩
instance zmF :Stp (zl0 da ρ n R) ((da ρ n fun t n1=>bolD t fun b=>R (.bool (!b)) n1)):=⟨fun h=>zlI h⟩
instance zoE :Stp (dTru d ρ n Rb) ((d ρ n fun t n'=>truD t fun b=>Rb b n')):=⟨fun h=>znS h⟩
instance zkT :Stp (zga d ρ n Rl) ((d ρ n fun t n1=>zbl t fun ts=>Rl ts n1)):=⟨fun h=>zit h⟩
instance zoC :Stp (dYes ρ n Rb) ((Rb true n)):=⟨fun h=>znQ h⟩
instance zmz :Stp (zkM tgs (.tuple xs) ρ Re) ((tgs xs ρ Re)):=⟨fun h=>zlB h⟩
instance zmA :Stp (zkN [] ρ Re) ((Re ρ)):=⟨fun h=>zlC h⟩
instance zme :Stp (zhy tg tgs (x::xs) ρ Re) ((tg x ρ fun ρ'=>tgs xs ρ' Re)):=⟨fun h=>zjV h⟩
instance zmC :Stp (ziK d ρ n Rb) ((d ρ n fun t n'=>bolD t fun b=>Rb b n')):=⟨fun h=>zlF h⟩
instance zoN :Stp (dCat da db ρ n Rl) ((da ρ n fun x n1=>db ρ n1 fun y n2=>lCat x y fun zs=>Rl zs n2)):=⟨fun h=>zn1 h⟩
instance zoL :Stp (dItL d ρ n Rl) ((d ρ n fun t n'=>lLst t fun ts=>Rl ts n')):=⟨fun h=>znZ h⟩
instance zoK :Stp (dItT d ρ n Rl) ((d ρ n fun t n'=>lTup t fun ts=>Rl ts n')):=⟨fun h=>znY h⟩
instance zmD :Stp (ziL d ρ n Rl) ((d ρ n fun t n'=>lInt t fun j=>(-(2 ^ 62)<=j/\j<2 ^ 62)/\Rl (zbJ 0 j.toNat) n')):=⟨fun h=>zlG h⟩
instance zoJ :Stp (dNeg d ρ n R) ((d ρ n fun t n'=>lInt t fun i=>R (.int (-i)) n')):=⟨fun h=>znX h⟩
instance zmf :Stp (zfs g g' da db dc ρ n R) ((da ρ n fun x n1=>db ρ n1 fun y n2=>g x y fun z=>bolD z fun b=>if b=true then dc ρ n2 fun w n3=>g' y w fun z=>R z n3 else R (.bool false) n2)):=⟨fun h=>zjX h⟩
instance zoz {b:Bool}{A B:Prop}:Stp (if (!b)=true then A else B) ((if b=true then B else A)):=⟨fun h=>znM h⟩
end
section
variable {C:Int->Int->Prop}{f:Int->Int->Int}{fb:Int->Int->Bool}{i j k:Int}{R:PyData->Prop}{Rb:Bool->Prop}{xs ys:List PyData}{s t:Str}{a b:Bool}{u v x y:PyData}{Rn:PyData->Nat->Prop}{n:Nat}
instance zou :Stp (oAdd (.int i) (.int j) R) ((R (.int (i+j)))):=⟨fun h=>znA h⟩
instance zot :Stp (oAdd (.tuple xs) (.tuple ys) R) (((xs.length+ys.length<=16777216/\R (.tuple (xs++ys))))):=⟨fun h=>znz h⟩
instance zpe :Stp (oEq (.int i) (.int j) R) ((R (.bool (decide (i=j))))):=⟨fun h=>zpQ h⟩
instance zo6 :Stp (oNe (.int i) (.int j) R) ((R (.bool (!decide (i=j))))):=⟨fun h=>zpH h⟩
instance zo4 :Stp (oNe (.tuple xs) (.tuple ys) R) (((Okd (.tuple xs)/\Okd (.tuple ys)/\R (.bool (!PyData.eqv (.tuple xs) (.tuple ys)))))):=⟨fun h=>zpF h⟩
instance zo5 :Stp (oNe (.list xs) (.list ys) R) (((Okd (.list xs)/\Okd (.list ys)/\R (.bool (!PyData.eqv (.list xs) (.list ys)))))):=⟨fun h=>zpG h⟩
instance zpa :Stp (oLtA (.int i) (.int j) R) ((R (.bool (decide (i<j))))):=⟨fun h=>zpM h⟩
instance zpc :Stp (oLeA (.int i) (.int j) R) ((R (.bool (decide (i<=j))))):=⟨fun h=>zpO h⟩
instance zor :Stp (oIx (.tuple (u::xs)) (.int 0) R) ((R u)):=⟨fun h=>znx h⟩
instance zoq :Stp (oIx (.tuple (u::v::xs)) (.int 1) R) ((R v)):=⟨fun h=>znw h⟩
instance zon :Stp (truD (.bool a) Rb) ((Rb a)):=⟨fun h=>zns h⟩
instance zpg :Stp (bolD (.bool a) Rb) ((Rb a)):=⟨fun h=>zpS h⟩
instance zop :Stp (bLen [.tuple xs] R) ((R (.int xs.length))):=⟨fun h=>znu h⟩
instance zmc {ns:List Int}:Stp (bLen [SCR ns] R) ((R (.int ns.length))):=⟨fun h=>zjR h⟩
instance zo9 :Stp (bMin [.int i,.int j] R) ((R (.int (if j<i then j else i)))):=⟨fun h=>zpK h⟩
instance zo_ :Stp (bMax [.int i,.int j] R) ((R (.int (if j > i then j else i)))):=⟨fun h=>zpL h⟩
instance zmb :Stp (zfM [.list xs] R) ((R (.tuple xs))):=⟨fun h=>zjQ h⟩
instance zmd {Rl:List PyData->Prop}:Stp (zbl (.tuple xs) Rl) ((Rl xs)):=⟨fun h=>zjS h⟩
instance zpf {Q:List PyData->Prop}:Stp (lCat (.list xs) (.list ys) Q) (((xs.length+ys.length<=16777216/\Q (xs++ys)))):=⟨fun h=>zpR h⟩
instance zpb {Q:List PyData->Prop}:Stp (lLst (.list xs) Q) ((Q xs)):=⟨fun h=>zpN h⟩
instance zo1 {Q:List PyData->Prop}:Stp (lTup (.tuple xs) Q) ((Q xs)):=⟨fun h=>zpC h⟩
instance zpd {i:Int}{Q:Int->Prop}:Stp (lInt (.int i) Q) ((Q i)):=⟨fun h=>zpP h⟩
instance zoo {Q:PyData->PyData->Prop}:Stp (zig [x,y] Q) ((Q x y)):=⟨fun h=>znt h⟩
instance zo7 :Stp (oMul (.int i) (.int j) R) ((CMul i j)/\(R (.int (i*j)))):=⟨fun h=>zpI h.1 h.2⟩
instance zo8 :Stp (oMod (.int i) (.int j) R) ((0<j)/\(R (.int (i % j)))):=⟨fun h=>zpJ h.1 h.2⟩
instance zos :Stp (zfY (.int i) (.int j) R) ((ziX i j)/\(R (.int (i / j)))):=⟨fun h=>zny h.1 h.2⟩
instance zo3 :Stp (oShl (.int i) (.int j) R) ((CPow i j)/\(R (.int (i*2 ^ j.toNat)))):=⟨fun h=>zpE h.1 h.2⟩
instance zo2 :Stp (oSub (.int i) (.int j) R) ((R (.int (i - j)))):=⟨fun h=>zpD h⟩
instance zo0 :Stp (oXor (.int i) (.int j) R) ((R (.int (Builtin.bitXor i j)))):=⟨fun h=>zpB h⟩
instance zph :Stp (oAnd (.int i) (.int j) R) ((R (.int (Builtin.bitAnd i j)))):=⟨fun h=>zpT h⟩
instance zqg :Stp (gB fb (.int i) (.int j) R) ((R (.bool (fb i j)))):=⟨fun h=>j_gB h⟩
instance zjj :Stp (lIsi isInt (.int i) R) ((R (.bool true))):=⟨fun h=>zf6 h⟩
instance zi5 :Stp (lIsi isInt (.bool a) R) ((R (.bool true))):=⟨fun h=>zfj h⟩
instance zji :Stp (lIsi isInt (.str s) R) ((R (.bool false))):=⟨fun h=>zf5 h⟩
instance zhJ :Stp (lIsi isInt (.tuple xs) R) ((R (.bool false))):=⟨fun h=>zel h⟩
instance zi3 :Stp (lIsi isInt (.list xs) R) ((R (.bool false))):=⟨fun h=>zfh h⟩
instance zi2 :Stp (lIsi isInt (.none) R) ((R (.bool false))):=⟨fun h=>zfg h⟩
instance zi4 :Stp (lIsi isInt (.dict []) R) ((R (.bool false))):=⟨fun h=>zfi h⟩
instance zi6 :Stp (lIsi isBool (.int i) R) ((R (.bool false))):=⟨fun h=>zfk h⟩
instance zhK :Stp (lIsi isBool (.bool a) R) ((R (.bool true))):=⟨fun h=>zem h⟩
instance zjh :Stp (lIsi isTup (.int i) R) ((R (.bool false))):=⟨fun h=>zf4 h⟩
instance zi1 :Stp (lIsi isTup (.bool a) R) ((R (.bool false))):=⟨fun h=>zff h⟩
instance zjg :Stp (lIsi isTup (.str s) R) ((R (.bool false))):=⟨fun h=>zf3 h⟩
instance zhI :Stp (lIsi isTup (.tuple xs) R) ((R (.bool true))):=⟨fun h=>zek h⟩
instance ziZ :Stp (lIsi isTup (.list xs) R) ((R (.bool false))):=⟨fun h=>zfd h⟩
instance ziY :Stp (lIsi isTup (.none) R) ((R (.bool false))):=⟨fun h=>zfc h⟩
instance zi0 :Stp (lIsi isTup (.dict []) R) ((R (.bool false))):=⟨fun h=>zfe h⟩
end
section
variable {d da db:DTE}{dlo dhi:DTO}{ρ:En}{n:Nat}{R:PyData->Nat->Prop}{Ro:Option Int->Nat->Prop}{Rl:List PyData->Nat->Prop}{xs ys:List PyData}{lo hi:Option Int}{Q:PyData->Prop}{Ql:List PyData->Prop}
instance zkS :Stp (zf_ ρ n Ro) ((Ro none n)):=⟨fun h=>zis h⟩
instance zmE :Stp (zlZ d ρ n Ro) ((d ρ n fun t n'=>lInt t fun i=>Ro (some i) n')):=⟨fun h=>zlH h⟩
instance zoB :Stp (dZip da db ρ n Rl) ((da ρ n fun x n1=>db ρ n1 fun y n2=>zbl x fun xs=>zbl y fun ys=>Rl (zipD xs ys) n2)):=⟨fun h=>znP h⟩
instance zoF :Stp (dRev d dlo ρ n R) ((d ρ n fun t n1=>dlo ρ n1 fun o n2=>o=some (-1)/\lTup t fun ts=>R (.tuple ts.reverse) n2)):=⟨fun h=>znT h⟩
end
section
variable {R:PyData->Prop}{b:Bool}{A B:Prop}
instance zqh:Stp (if true=true then A else B) A:=⟨fun h=>iteT h⟩
instance zqi:Stp (if false=true then A else B) B:=⟨fun h=>iteF h⟩
end
class GetN (ρ:En) (i:Nat) (c:outParam (Option Cell)):Prop where
 e:ρ[i]?=some c
class SetN (ρ:En) (i:Nat) (c:Option Cell) (ρ':outParam En):Prop where
 e:ρ.set i c=ρ'
instance {a0:Option Cell}{as:En}:GetN (a0::as) 0 a0:=⟨rfl⟩
instance {a0 c:Option Cell}{as:En}:SetN (a0::as) 0 c (c::as):=⟨rfl⟩
instance {a0 a1:Option Cell}{as:En}:GetN (a0::a1::as) 1 a1:=⟨rfl⟩
instance {a0 a1 c:Option Cell}{as:En}:SetN (a0::a1::as) 1 c (a0::c::as):=⟨rfl⟩
instance {a0 a1 a2:Option Cell}{as:En}:GetN (a0::a1::a2::as) 2 a2:=⟨rfl⟩
instance {a0 a1 a2 c:Option Cell}{as:En}:SetN (a0::a1::a2::as) 2 c (a0::a1::c::as):=⟨rfl⟩
instance {a0 a1 a2 a3:Option Cell}{as:En}:GetN (a0::a1::a2::a3::as) 3 a3:=⟨rfl⟩
instance {a0 a1 a2 a3 c:Option Cell}{as:En}:SetN (a0::a1::a2::a3::as) 3 c (a0::a1::a2::c::as):=⟨rfl⟩
instance {a0 a1 a2 a3 a4:Option Cell}{as:En}:GetN (a0::a1::a2::a3::a4::as) 4 a4:=⟨rfl⟩
instance {a0 a1 a2 a3 a4 c:Option Cell}{as:En}:SetN (a0::a1::a2::a3::a4::as) 4 c (a0::a1::a2::a3::c::as):=⟨rfl⟩
instance {a0 a1 a2 a3 a4 a5:Option Cell}{as:En}:GetN (a0::a1::a2::a3::a4::a5::as) 5 a5:=⟨rfl⟩
instance {a0 a1 a2 a3 a4 a5 c:Option Cell}{as:En}:SetN (a0::a1::a2::a3::a4::a5::as) 5 c (a0::a1::a2::a3::a4::c::as):=⟨rfl⟩
instance {a0 a1 a2 a3 a4 a5 a6:Option Cell}{as:En}:GetN (a0::a1::a2::a3::a4::a5::a6::as) 6 a6:=⟨rfl⟩
instance {a0 a1 a2 a3 a4 a5 a6 c:Option Cell}{as:En}:SetN (a0::a1::a2::a3::a4::a5::a6::as) 6 c (a0::a1::a2::a3::a4::a5::c::as):=⟨rfl⟩
instance {a0 a1 a2 a3 a4 a5 a6 a7:Option Cell}{as:En}:GetN (a0::a1::a2::a3::a4::a5::a6::a7::as) 7 a7:=⟨rfl⟩
instance {a0 a1 a2 a3 a4 a5 a6 a7 c:Option Cell}{as:En}:SetN (a0::a1::a2::a3::a4::a5::a6::a7::as) 7 c (a0::a1::a2::a3::a4::a5::a6::c::as):=⟨rfl⟩
instance {a0 a1 a2 a3 a4 a5 a6 a7 a8:Option Cell}{as:En}:GetN (a0::a1::a2::a3::a4::a5::a6::a7::a8::as) 8 a8:=⟨rfl⟩
instance {a0 a1 a2 a3 a4 a5 a6 a7 a8 c:Option Cell}{as:En}:SetN (a0::a1::a2::a3::a4::a5::a6::a7::a8::as) 8 c (a0::a1::a2::a3::a4::a5::a6::a7::c::as):=⟨rfl⟩
instance {a0 a1 a2 a3 a4 a5 a6 a7 a8 a9:Option Cell}{as:En}:GetN (a0::a1::a2::a3::a4::a5::a6::a7::a8::a9::as) 9 a9:=⟨rfl⟩
instance {a0 a1 a2 a3 a4 a5 a6 a7 a8 a9 c:Option Cell}{as:En}:SetN (a0::a1::a2::a3::a4::a5::a6::a7::a8::a9::as) 9 c (a0::a1::a2::a3::a4::a5::a6::a7::a8::c::as):=⟨rfl⟩
instance {a0 a1 a2 a3 a4 a5 a6 a7 a8 a9 a10:Option Cell}{as:En}:GetN (a0::a1::a2::a3::a4::a5::a6::a7::a8::a9::a10::as) 10 a10:=⟨rfl⟩
instance {a0 a1 a2 a3 a4 a5 a6 a7 a8 a9 a10 c:Option Cell}{as:En}:SetN (a0::a1::a2::a3::a4::a5::a6::a7::a8::a9::a10::as) 10 c (a0::a1::a2::a3::a4::a5::a6::a7::a8::a9::c::as):=⟨rfl⟩
instance {a0 a1 a2 a3 a4 a5 a6 a7 a8 a9 a10 a11:Option Cell}{as:En}:GetN (a0::a1::a2::a3::a4::a5::a6::a7::a8::a9::a10::a11::as) 11 a11:=⟨rfl⟩
instance {a0 a1 a2 a3 a4 a5 a6 a7 a8 a9 a10 a11 c:Option Cell}{as:En}:SetN (a0::a1::a2::a3::a4::a5::a6::a7::a8::a9::a10::a11::as) 11 c (a0::a1::a2::a3::a4::a5::a6::a7::a8::a9::a10::c::as):=⟨rfl⟩
instance {a0 a1 a2 a3 a4 a5 a6 a7 a8 a9 a10 a11 a12:Option Cell}{as:En}:GetN (a0::a1::a2::a3::a4::a5::a6::a7::a8::a9::a10::a11::a12::as) 12 a12:=⟨rfl⟩
instance {a0 a1 a2 a3 a4 a5 a6 a7 a8 a9 a10 a11 a12 c:Option Cell}{as:En}:SetN (a0::a1::a2::a3::a4::a5::a6::a7::a8::a9::a10::a11::a12::as) 12 c (a0::a1::a2::a3::a4::a5::a6::a7::a8::a9::a10::a11::c::as):=⟨rfl⟩
instance {a0 a1 a2 a3 a4 a5 a6 a7 a8 a9 a10 a11 a12 a13:Option Cell}{as:En}:GetN (a0::a1::a2::a3::a4::a5::a6::a7::a8::a9::a10::a11::a12::a13::as) 13 a13:=⟨rfl⟩
instance {a0 a1 a2 a3 a4 a5 a6 a7 a8 a9 a10 a11 a12 a13 c:Option Cell}{as:En}:SetN (a0::a1::a2::a3::a4::a5::a6::a7::a8::a9::a10::a11::a12::a13::as) 13 c (a0::a1::a2::a3::a4::a5::a6::a7::a8::a9::a10::a11::a12::c::as):=⟨rfl⟩
instance {a0 a1 a2 a3 a4 a5 a6 a7 a8 a9 a10 a11 a12 a13 a14:Option Cell}{as:En}:GetN (a0::a1::a2::a3::a4::a5::a6::a7::a8::a9::a10::a11::a12::a13::a14::as) 14 a14:=⟨rfl⟩
instance {a0 a1 a2 a3 a4 a5 a6 a7 a8 a9 a10 a11 a12 a13 a14 c:Option Cell}{as:En}:SetN (a0::a1::a2::a3::a4::a5::a6::a7::a8::a9::a10::a11::a12::a13::a14::as) 14 c (a0::a1::a2::a3::a4::a5::a6::a7::a8::a9::a10::a11::a12::a13::c::as):=⟨rfl⟩
instance {a0 a1 a2 a3 a4 a5 a6 a7 a8 a9 a10 a11 a12 a13 a14 a15:Option Cell}{as:En}:GetN (a0::a1::a2::a3::a4::a5::a6::a7::a8::a9::a10::a11::a12::a13::a14::a15::as) 15 a15:=⟨rfl⟩
instance {a0 a1 a2 a3 a4 a5 a6 a7 a8 a9 a10 a11 a12 a13 a14 a15 c:Option Cell}{as:En}:SetN (a0::a1::a2::a3::a4::a5::a6::a7::a8::a9::a10::a11::a12::a13::a14::a15::as) 15 c (a0::a1::a2::a3::a4::a5::a6::a7::a8::a9::a10::a11::a12::a13::a14::c::as):=⟨rfl⟩
instance {a0 a1 a2 a3 a4 a5 a6 a7 a8 a9 a10 a11 a12 a13 a14 a15 a16:Option Cell}{as:En}:GetN (a0::a1::a2::a3::a4::a5::a6::a7::a8::a9::a10::a11::a12::a13::a14::a15::a16::as) 16 a16:=⟨rfl⟩
instance {a0 a1 a2 a3 a4 a5 a6 a7 a8 a9 a10 a11 a12 a13 a14 a15 a16 c:Option Cell}{as:En}:SetN (a0::a1::a2::a3::a4::a5::a6::a7::a8::a9::a10::a11::a12::a13::a14::a15::a16::as) 16 c (a0::a1::a2::a3::a4::a5::a6::a7::a8::a9::a10::a11::a12::a13::a14::a15::c::as):=⟨rfl⟩
instance {a0 a1 a2 a3 a4 a5 a6 a7 a8 a9 a10 a11 a12 a13 a14 a15 a16 a17:Option Cell}{as:En}:GetN (a0::a1::a2::a3::a4::a5::a6::a7::a8::a9::a10::a11::a12::a13::a14::a15::a16::a17::as) 17 a17:=⟨rfl⟩
instance {a0 a1 a2 a3 a4 a5 a6 a7 a8 a9 a10 a11 a12 a13 a14 a15 a16 a17 c:Option Cell}{as:En}:SetN (a0::a1::a2::a3::a4::a5::a6::a7::a8::a9::a10::a11::a12::a13::a14::a15::a16::a17::as) 17 c (a0::a1::a2::a3::a4::a5::a6::a7::a8::a9::a10::a11::a12::a13::a14::a15::a16::c::as):=⟨rfl⟩
instance {a0 a1 a2 a3 a4 a5 a6 a7 a8 a9 a10 a11 a12 a13 a14 a15 a16 a17 a18:Option Cell}{as:En}:GetN (a0::a1::a2::a3::a4::a5::a6::a7::a8::a9::a10::a11::a12::a13::a14::a15::a16::a17::a18::as) 18 a18:=⟨rfl⟩
instance {a0 a1 a2 a3 a4 a5 a6 a7 a8 a9 a10 a11 a12 a13 a14 a15 a16 a17 a18 c:Option Cell}{as:En}:SetN (a0::a1::a2::a3::a4::a5::a6::a7::a8::a9::a10::a11::a12::a13::a14::a15::a16::a17::a18::as) 18 c (a0::a1::a2::a3::a4::a5::a6::a7::a8::a9::a10::a11::a12::a13::a14::a15::a16::a17::c::as):=⟨rfl⟩
instance {a0 a1 a2 a3 a4 a5 a6 a7 a8 a9 a10 a11 a12 a13 a14 a15 a16 a17 a18 a19:Option Cell}{as:En}:GetN (a0::a1::a2::a3::a4::a5::a6::a7::a8::a9::a10::a11::a12::a13::a14::a15::a16::a17::a18::a19::as) 19 a19:=⟨rfl⟩
instance {a0 a1 a2 a3 a4 a5 a6 a7 a8 a9 a10 a11 a12 a13 a14 a15 a16 a17 a18 a19 c:Option Cell}{as:En}:SetN (a0::a1::a2::a3::a4::a5::a6::a7::a8::a9::a10::a11::a12::a13::a14::a15::a16::a17::a18::a19::as) 19 c (a0::a1::a2::a3::a4::a5::a6::a7::a8::a9::a10::a11::a12::a13::a14::a15::a16::a17::a18::c::as):=⟨rfl⟩
instance {a0 a1 a2 a3 a4 a5 a6 a7 a8 a9 a10 a11 a12 a13 a14 a15 a16 a17 a18 a19 a20:Option Cell}{as:En}:GetN (a0::a1::a2::a3::a4::a5::a6::a7::a8::a9::a10::a11::a12::a13::a14::a15::a16::a17::a18::a19::a20::as) 20 a20:=⟨rfl⟩
instance {a0 a1 a2 a3 a4 a5 a6 a7 a8 a9 a10 a11 a12 a13 a14 a15 a16 a17 a18 a19 a20 c:Option Cell}{as:En}:SetN (a0::a1::a2::a3::a4::a5::a6::a7::a8::a9::a10::a11::a12::a13::a14::a15::a16::a17::a18::a19::a20::as) 20 c (a0::a1::a2::a3::a4::a5::a6::a7::a8::a9::a10::a11::a12::a13::a14::a15::a16::a17::a18::a19::c::as):=⟨rfl⟩
instance {a0 a1 a2 a3 a4 a5 a6 a7 a8 a9 a10 a11 a12 a13 a14 a15 a16 a17 a18 a19 a20 a21:Option Cell}{as:En}:GetN (a0::a1::a2::a3::a4::a5::a6::a7::a8::a9::a10::a11::a12::a13::a14::a15::a16::a17::a18::a19::a20::a21::as) 21 a21:=⟨rfl⟩
instance {a0 a1 a2 a3 a4 a5 a6 a7 a8 a9 a10 a11 a12 a13 a14 a15 a16 a17 a18 a19 a20 a21 c:Option Cell}{as:En}:SetN (a0::a1::a2::a3::a4::a5::a6::a7::a8::a9::a10::a11::a12::a13::a14::a15::a16::a17::a18::a19::a20::a21::as) 21 c (a0::a1::a2::a3::a4::a5::a6::a7::a8::a9::a10::a11::a12::a13::a14::a15::a16::a17::a18::a19::a20::c::as):=⟨rfl⟩
instance {a0 a1 a2 a3 a4 a5 a6 a7 a8 a9 a10 a11 a12 a13 a14 a15 a16 a17 a18 a19 a20 a21 a22:Option Cell}{as:En}:GetN (a0::a1::a2::a3::a4::a5::a6::a7::a8::a9::a10::a11::a12::a13::a14::a15::a16::a17::a18::a19::a20::a21::a22::as) 22 a22:=⟨rfl⟩
instance {a0 a1 a2 a3 a4 a5 a6 a7 a8 a9 a10 a11 a12 a13 a14 a15 a16 a17 a18 a19 a20 a21 a22 c:Option Cell}{as:En}:SetN (a0::a1::a2::a3::a4::a5::a6::a7::a8::a9::a10::a11::a12::a13::a14::a15::a16::a17::a18::a19::a20::a21::a22::as) 22 c (a0::a1::a2::a3::a4::a5::a6::a7::a8::a9::a10::a11::a12::a13::a14::a15::a16::a17::a18::a19::a20::a21::c::as):=⟨rfl⟩
instance {a0 a1 a2 a3 a4 a5 a6 a7 a8 a9 a10 a11 a12 a13 a14 a15 a16 a17 a18 a19 a20 a21 a22 a23:Option Cell}{as:En}:GetN (a0::a1::a2::a3::a4::a5::a6::a7::a8::a9::a10::a11::a12::a13::a14::a15::a16::a17::a18::a19::a20::a21::a22::a23::as) 23 a23:=⟨rfl⟩
instance {a0 a1 a2 a3 a4 a5 a6 a7 a8 a9 a10 a11 a12 a13 a14 a15 a16 a17 a18 a19 a20 a21 a22 a23 c:Option Cell}{as:En}:SetN (a0::a1::a2::a3::a4::a5::a6::a7::a8::a9::a10::a11::a12::a13::a14::a15::a16::a17::a18::a19::a20::a21::a22::a23::as) 23 c (a0::a1::a2::a3::a4::a5::a6::a7::a8::a9::a10::a11::a12::a13::a14::a15::a16::a17::a18::a19::a20::a21::a22::c::as):=⟨rfl⟩
instance {a0 a1 a2 a3 a4 a5 a6 a7 a8 a9 a10 a11 a12 a13 a14 a15 a16 a17 a18 a19 a20 a21 a22 a23 a24:Option Cell}{as:En}:GetN (a0::a1::a2::a3::a4::a5::a6::a7::a8::a9::a10::a11::a12::a13::a14::a15::a16::a17::a18::a19::a20::a21::a22::a23::a24::as) 24 a24:=⟨rfl⟩
instance {a0 a1 a2 a3 a4 a5 a6 a7 a8 a9 a10 a11 a12 a13 a14 a15 a16 a17 a18 a19 a20 a21 a22 a23 a24 c:Option Cell}{as:En}:SetN (a0::a1::a2::a3::a4::a5::a6::a7::a8::a9::a10::a11::a12::a13::a14::a15::a16::a17::a18::a19::a20::a21::a22::a23::a24::as) 24 c (a0::a1::a2::a3::a4::a5::a6::a7::a8::a9::a10::a11::a12::a13::a14::a15::a16::a17::a18::a19::a20::a21::a22::a23::c::as):=⟨rfl⟩
instance {a0 a1 a2 a3 a4 a5 a6 a7 a8 a9 a10 a11 a12 a13 a14 a15 a16 a17 a18 a19 a20 a21 a22 a23 a24 a25:Option Cell}{as:En}:GetN (a0::a1::a2::a3::a4::a5::a6::a7::a8::a9::a10::a11::a12::a13::a14::a15::a16::a17::a18::a19::a20::a21::a22::a23::a24::a25::as) 25 a25:=⟨rfl⟩
instance {a0 a1 a2 a3 a4 a5 a6 a7 a8 a9 a10 a11 a12 a13 a14 a15 a16 a17 a18 a19 a20 a21 a22 a23 a24 a25 c:Option Cell}{as:En}:SetN (a0::a1::a2::a3::a4::a5::a6::a7::a8::a9::a10::a11::a12::a13::a14::a15::a16::a17::a18::a19::a20::a21::a22::a23::a24::a25::as) 25 c (a0::a1::a2::a3::a4::a5::a6::a7::a8::a9::a10::a11::a12::a13::a14::a15::a16::a17::a18::a19::a20::a21::a22::a23::a24::c::as):=⟨rfl⟩
class NormE (ρ:En) (ρ':outParam En):Prop where
 e:ρ=ρ'
instance {a:Option Cell}{as:En}:NormE (a::as) (a::as):=⟨rfl⟩
instance {ρ ρ1 ρ2:En}{i:Nat}{c:Option Cell}[h:NormE ρ ρ1] [k:SetN ρ1 i c ρ2]:NormE (ρ.set i c) ρ2:=⟨by rw [h.e];exact k.e⟩
class NoneN (as:En) (nn:outParam En):Prop where
 e:List.replicate as.length none=nn
instance:NoneN [] []:=⟨rfl⟩
instance {a:Option Cell}{as nn:En}[h:NoneN as nn]:NoneN (a::as) (none::nn):=⟨by rw [List.length_cons,List.replicate_succ,h.e]⟩
class StartN (N:List Str) (ts:List PyData) (ρ:outParam En):Prop where
 e:zbb N ts=ρ
instance:StartN [] [] []:=⟨rfl⟩
instance {x:Str}{N:List Str}{ρ:En}[h:StartN N [] ρ]:StartN (x::N) [] (none::ρ):=⟨by
 have:=h.e
 simp only [zbb,List.map_nil,List.nil_append,List.length_nil,Nat.sub_zero] at this ⊢
 rw [List.length_cons,List.replicate_succ,this]⟩
instance {x:Str}{N:List Str}{t:PyData}{ts:List PyData}{ρ:En}[h:StartN N ts ρ]:StartN (x::N) (t::ts) (some (.val t)::ρ):=⟨by
 have:=h.e
 simp only [zbb] at this ⊢
 rw [List.map_cons,List.length_cons,List.length_cons,List.cons_append,Nat.add_sub_add_right,this]⟩
theorem zg4 {d:DTS}{D:DEnds}{n:Nat}{N:List Str}{ts:List PyData}{ρ:En}[e:StartN N ts ρ] (h:d D ρ n):d D (zbb N ts) n:=e.e.symm▸h
class CapN (is:List Nat) (ρ:En) (out:outParam En):Prop where
 e:(is.map fun i=>capV (ρ.getD i none))=out
class CapC (c:Option Cell) (c':outParam (Option Cell)):Prop where
 e:capV c=c'
instance {d:PyData}:CapC (some (.val d)) (some (.val d)):=⟨rfl⟩
instance {d:List PyData}:CapC (some (.own d)) none:=⟨rfl⟩
instance:CapC none none:=⟨rfl⟩
instance {ρ:En}:CapN [] ρ []:=⟨rfl⟩
instance {i:Nat}{is:List Nat}{ρ out:En}{c c':Option Cell}[g:GetN ρ i c] [k:CapC c c'] [h:CapN is ρ out]:CapN (i::is) ρ (c'::out):=⟨by
 have ge:=g.e
 rw [List.map_cons,h.e,List.getD_eq_getElem?_getD,ge,Option.getD_some,k.e]⟩
class CompN (m:Nat) (capt:List Nat) (ρ:En) (ρ':outParam En):Prop where
 e:zaR m capt ρ=ρ'
instance {x:Str}{capt:List Nat}{ρ out:En}[h:CapN capt ρ out]:CompN (List.length [x]) capt ρ (none::out):=⟨by unfold zaR;rw [h.e];rfl⟩
instance {x y:Str}{capt:List Nat}{ρ out:En}[h:CapN capt ρ out]:CompN (List.length [x,y]) capt ρ (none::none::out):=⟨by unfold zaR;rw [h.e];rfl⟩
instance {x y z:Str}{capt:List Nat}{ρ out:En}[h:CapN capt ρ out]:CompN (List.length [x,y,z]) capt ρ (none::none::none::out):=⟨by unfold zaR;rw [h.e];rfl⟩
instance {x y z u:Str}{capt:List Nat}{ρ out:En}[h:CapN capt ρ out]:CompN (List.length [x,y,z,u]) capt ρ (none::none::none::none::out):=⟨by unfold zaR;rw [h.e];rfl⟩
def SetK (i:Nat) (c:Option Cell) (K:En->Nat->Prop) (ρ:En) (n:Nat):Prop:=K (ρ.set i c) n
section
variable {t u:DTS}{D:DEnds}{ρ ρ0 ρ':En}{n i j m:Nat}{d dj:DTE}{ds di:DTA}{tt:DTT}{tg:DTG}{R:PyData->Nat->Prop}{Rl:List PyData->Nat->Prop}{Re:En->Prop}{x:PyData}{xs:List PyData}{f:Int->Int->Int}{capt:List Nat}{c:Option Cell}{K:En->Nat->Prop}{q:Int}
instance zqn [h:SetN ρ i c ρ']:Stp (SetK i c K ρ n) (K ρ' n):=⟨fun k=>by unfold SetK;rw [h.e];exact k⟩
instance zqd:Stp (sSet i d D ρ n) (d ρ n fun t n'=>SetK i (some (.val t)) D.nx ρ n'):=⟨fun h=>h⟩
instance zqe:Stp (sOwn i ds D ρ n) (ds ρ n fun t n'=>SetK i (some (.own t)) D.nx ρ n'):=⟨fun h=>h⟩
instance zol [h:SetN ρ i (some (.val x)) ρ']:Stp (zhx i x ρ Re) (Re ρ'):=⟨fun k=>by unfold zhx;rw [h.e];exact k⟩
instance zqk [h:GetN ρ i (some (.val x))]:Stp (dVar i ρ n R) (R x n):=⟨fun k=>zkr h.e k⟩
instance zql [h:GetN ρ i (some (.own xs))]:Stp (dOwn i ρ n R) (R (.list xs) n):=⟨fun k=>zks h.e k⟩
instance zoQ [h:GetN ρ i (some (.own xs))]:Stp (zdb i d D ρ n) (d ρ n fun t n'=>xs.length<16777216/\SetK i (some (.own (xs++[t]))) D.nx ρ n'):=⟨fun k=>zgQ h.e k⟩
instance zoP [h:GetN ρ i (some (.own xs))] [h':SetN ρ i (some (.val (.list xs))) ρ']:Stp (zda i t D ρ n) (t D ρ' n):=⟨fun k=>zgP h.e (by rw [h'.e];exact k)⟩
instance zqp:Stp (sPar i j ds D ρ n) (ds ρ n fun ts n'=>zig ts fun t u=>SetK i (some (.val t)) (fun ρ1 n1=>SetK j (some (.val u)) D.nx ρ1 n1) ρ n'):=⟨fun h=>znJ h⟩
instance zqm [h:CompN m capt ρ ρ0]:Stp (dComp m capt di tg tt d ρ n Rl) (di ρ n fun ts n1=>zbY tg tt d ρ0 ts [] n1 Rl):=⟨fun k=>zlK (by rw [h.e];exact k)⟩
end
end L2
namespace L2
open PySem PySem.Spec PyProof.Rows
theorem zgs {ρ:En}{i:Nat}:ρ.set i (ρ.getD i none)=ρ:=by
 apply List.ext_getElem?
 intro j
 by_cases h:i=j
 ·subst h
  by_cases hl:i<ρ.length
  ·rw [List.getElem?_set_self hl,List.getD_eq_getElem?_getD,List.getElem?_eq_getElem hl];rfl
  ·rw [List.getElem?_eq_none (by simp;omega),List.getElem?_eq_none (by omega)]
 ·rw [List.getElem?_set_ne h]
section
variable {g:DTG}{tb:DTS}{D:DEnds}{ts:List PyData}{ρ:En}{n:Nat}
theorem zkz (i0 i1:Nat) (Inv:Nat->Option Cell->Option Cell->Nat->Prop) {ρf:Option Cell->Option Cell->En}[N:∀ a0 a1,NormE ((ρ.set i0 a0).set i1 a1) (ρf a0 a1)] (h0:Inv 0 (ρ.getD i0 none) (ρ.getD i1 none) n)
  (turn:∀ (k:Nat) (t:PyData) (a0 a1:Option Cell) (m:Nat) (K:En->Nat->Prop) (RT:PyData->Nat->Prop) (BK:En->Nat->Prop),ts[k]?=some t->Inv k a0 a1 m->(∀ b0 b1 m',Inv (k+1) b0 b1 m'->K (ρf b0 b1) m')->(∀ t m,D.rt t m->RT t m)->(∀ ρ m,D.nx ρ m->BK ρ m)->g t (ρf a0 a1) fun ρ'=>tb { nx:=K,rt:=RT,bk:=BK,ct:=K } ρ' m)
  (fin:∀ a0 a1 m,Inv ts.length a0 a1 m->D.nx (ρf a0 a1) m):forP g tb D ts ρ n:=by
 refine zb3 (fun k ρ' m=>∃ a0 a1,ρ'=((ρ.set i0 a0).set i1 a1)/\Inv k a0 a1 m) ⟨_,_,?_,h0⟩ ?_ ?_
 ·rw [zgs,zgs]
 ·rintro k t ρ' m K e ⟨a0,a1,rfl,hI⟩ hK
  rw [(N a0 a1).e]
  exact turn k t a0 a1 m K D.rt D.nx e hI (fun b0 b1 m' h=>(N b0 b1).e▸hK _ _ ⟨b0,b1,rfl,h⟩) (fun _ _ h=>h) (fun _ _ h=>h)
 ·rintro ρ' m ⟨a0,a1,rfl,hI⟩
  rw [(N a0 a1).e]
  exact fin a0 a1 m hI
theorem zjW {i j:Nat}{u:DTS}{D:DEnds}{as nn ρ1 ρ2:En}{n:Nat}{ns:List Int}{k:Int}[ej:GetN (some (.val (SCR ns))::as) j (some (.val (.int k)))] [e1:NoneN as nn] [e2:SetN (some (.val (SCR ns))::nn) j (some (.val (.int k))) ρ1] [e3:SetN ρ1 i (some (.val HAND)) ρ2] (hl:ns.length<=63) (k0:0<=k) (k1:k<=100)
  (h:∀ (NX:En->Nat->Prop) (RT:PyData->Nat->Prop) (BK CT:En->Nat->Prop),(∀ ρ' m,D.nx (zbe ρ') n->NX ρ' m)->(∀ b m,D.rt (.bool b) n->RT (.bool b) m)->(∀ ρ' m,D.bk (zbe ρ') n->BK ρ' m)->(∀ ρ' m,D.ct (zbe ρ') n->CT ρ' m) ->
   u { nx:=NX,rt:=RT,bk:=BK,ct:=CT } ρ2 0):zg6 i j u D (some (.val (SCR ns))::as) n:=by
 refine zlE (ρd:=some (.val (SCR ns))::nn) rfl ej.e hl k0 k1 ?_ ?_
 ·show some (Cell.val (SCR ns))::List.replicate (List.length (some (Cell.val (SCR ns))::as) - 1) none=_
  rw [List.length_cons,Nat.add_sub_cancel,e1.e]
 ·rw [e2.e,e3.e]
  exact h _ _ _ _ (fun _ _ h=>h) (fun b _ h=>⟨b,rfl,h⟩) (fun _ _ h=>h) (fun _ _ h=>h)
end
end L2
namespace L2
open PySem PySem.Spec PyProof.Rows
open Builtin Builtin.Str
def cutS (x:Str) (lo hi:Option Int):Str:=⟨((x.cps.toList.drop (HT.sIx x.length 0 lo)).take (HT.sIx x.length x.length hi - HT.sIx x.length 0 lo)).toArray⟩
theorem zd9 (n d:Nat) (i:Int):((HT.sIx n d (some i):Nat):Int)=max 0 (min (if i<0 then i+(n:Int) else i) (n:Int)):=by
 simp only [HT.sIx]
 by_cases h:i<0
 ·simp only [h,if_true] <;> lia
 ·simp only [h,if_false] <;> lia
theorem zmu (lo hi:Option Int) (n:Nat):strSliceIndices lo hi 1 n=sliceRange ((HT.sIx n 0 lo:Nat):Int) ((HT.sIx n n hi:Nat):Int) 1:=by
 have d0:((HT.sIx n 0 none:Nat):Int)=0:=by simp [HT.sIx]
 have d1:((HT.sIx n n none:Nat):Int)=n:=by simp [HT.sIx]
 cases lo with
 | none =>
  cases hi with
  | none=>rw [d0,d1];rfl
  | some j=>rw [d0,zd9];rfl
 | some i =>
  cases hi with
  | none=>rw [d1,zd9];rfl
  | some j=>rw [zd9,zd9];rfl
theorem zhF (x:Str) (lo hi:Option Int):Txt.slice x lo hi=cutS x lo hi:=by
 have e:strSliceIndices lo hi 1 x.length=(List.range (HT.sIx x.length x.length hi - HT.sIx x.length 0 lo)).map (HT.sIx x.length 0 lo+·):=by rw [zmu,sliceRange_one]
 have pk:(strSliceIndices lo hi 1 x.length).filterMap (x.cps[·]?)=(x.cps.toList.drop (HT.sIx x.length 0 lo)).take (HT.sIx x.length x.length hi - HT.sIx x.length 0 lo):=by rw [e,pick_run]
 unfold Txt.slice
 split
 ·rename_i h
  have hl:(strSliceIndices lo hi 1 x.length).length=x.length:=by simpa using h
  rw [e,List.length_map,List.length_range] at hl
  unfold cutS
  have h2:HT.sIx x.length x.length hi<=x.length:=by
   cases hi with
   | none=>simp [HT.sIx]
   | some i=>simp only [HT.sIx];split <;> lia
  have z:HT.sIx x.length 0 lo=0\/x.length=0:=by lia
  have:(x.cps.toList.drop (HT.sIx x.length 0 lo)).take (HT.sIx x.length x.length hi - HT.sIx x.length 0 lo)=x.cps.toList:=by
   have sz:x.cps.toList.length=x.length:=by simp [Str.length]
   rcases z with z | z
   ·rw [z,List.drop_zero,List.take_of_length_le (by lia)]
   ·have:x.cps.toList=[]:=List.length_eq_zero_iff.mp (by lia)
    rw [this];simp
  rw [this]
 ·rw [pk];rfl
section
variable {X:Cx}
theorem zdU {v:Value}{p:Option Int} (h:IsPart v p):∃ l:Option (Int×Tok),v=partValue l/\l.map (·.1)=p:=by
 cases h with
 | none=>exact ⟨none,rfl,rfl⟩
 | int i t=>exact ⟨some (i,t),rfl,rfl⟩
def rSlS:V->Option Int->Option Int->Hp->VK->Prop:=fun x lo hi H Q=>∃ z,x=.str z/\z.length<=sizeLine/\Q (.str (cutS z lo hi)) H
theorem zmx:SlR X rSlS:=by
 intro pins s σ H x v vl vu lo hi sl Q I rx hs pl pu h
 obtain ⟨z,rfl,hz,q⟩:=h
 obtain ⟨t,rfl⟩:=rx
 obtain ⟨l,rfl,rfl⟩:=zdU pl
 obtain ⟨u,rfl,rfl⟩:=zdU pu
 have hs':s.heap.IsSlice sl l u none:=hs
 refine ⟨"str",_,F.slot_str_getitem.lookup,typeIs_str _ _ _,wpAny_getItem_str_slice (l:=l) (u:=u) (st:=none) hs' rfl (post_val_or_str ?_)⟩
 have e:(if (((none:Option (Int×Tok)).map (·.1)).getD 1 == 1&&(slicePicked z l u none).length == z.length)=true then z else ⟨((slicePicked z l u none).filterMap (z.cps[·]?)).toArray⟩)=Txt.slice z (l.map (·.1)) (u.map (·.1)):=rfl
 rw [e]
 refine ⟨Nat.le_trans (Txt.slice_le z _ _) hz,fun t' k=>⟨.str (Txt.slice z (l.map (·.1)) (u.map (·.1))),H,I.tok _,⟨_,rfl⟩,?_⟩⟩
 rw [zhF];exact q
def oSlA (t:PyData) (lo hi:Option Int) (R:PyData->Prop):Prop:=match t with
 | .tuple ts=>R (.tuple (cutD ts lo hi))
 | .str x=>x.length<=16777216/\R (.str (cutS x lo hi))
 | _=>False
def dSlA (d:DTE) (dl du:DTO):DTE:=fun ρ n R=>d ρ n fun t n1=>dl ρ n1 fun lo n2=>du ρ n2 fun hi n3=>oSlA t lo hi fun z=>R z n3
variable {e a b iter tg:Expr}{d da db:DTE}{lo hi:Option Expr}{dlo dhi:DTO}{pos p2:Pos}
theorem zaN (h:DL X e d) (hl:DP X lo dlo) (hu:DP X hi dhi):DE X (.Subscript e (.Slice lo hi none p2) pos) (dSlA d dlo dhi):=by
 obtain ⟨ta,pa,h⟩:=h
 obtain ⟨tl,pl,hl⟩:=hl
 obtain ⟨tu,pu,hu⟩:=hu
 refine ⟨_,zjB (SlR.or (SlR.or zmw zkR) zmx) pa pl pu,fun C ρ σ H n Q R S hd hq=>?_⟩
 refine h C ρ σ H n _ _ S hd fun t n1 v H1 r1 e1 h1 q1=>?_
 have S1:=S.on e1 h1
 refine hl C ρ σ H1 n1 _ _ S1 r1 fun lo n2 H2 r2 e2 h2=>?_
 have S2:=S1.on e2 h2
 refine hu C ρ σ H2 n2 _ _ S2 r2 fun hi n3 H3 r3 e3 h3=>?_
 have S3:=S2.on e3 h3
 have q3:=(e2.trans e3).repT S.hx q1
 cases t with
 | tuple ts =>
  obtain ⟨a,vs,rfl,hs,rs⟩:=q3.tupI
  by_cases w:HT.sIx vs.length 0 lo=0/\HT.sIx vs.length vs.length hi=vs.length
  ·refine .inl (.inr ⟨a,vs,rfl,hs,w,hq _ n3 _ H3 r3 (e1.trans (e2.trans e3)) h3 ?_⟩)
   rw [zhm (by rw [<- rs.length];exact w)]
   exact q3.rep (by intro _ z;cases z)
  ·refine .inl (.inl ⟨a,vs,rfl,hs,w,fun p hp=>hq _ n3 _ _ r3 (e1.trans (e2.trans (e3.trans (ExtE.new hp)))) (h3.same (zav hp)) ?_⟩)
   exact .newT (S3.free hp) hp (zj8 rs lo hi)
 | str z =>
  rw [q3.strI]
  exact .inr ⟨z,rfl,r3.1,hq _ n3 _ H3 r3.2 (e1.trans (e2.trans e3)) h3 (.str _)⟩
 | _=>exact r3.elim
end
end L2
namespace L2
open PySem PySem.Spec PyProof.Rows
section
variable {ρ:En}{n:Nat}{d da db:DTE}{dlo dhi:DTO}{R:PyData->Nat->Prop}{Rl:List PyData->Nat->Prop}{Q:PyData->Prop}{xs:List PyData}{lo hi:Option Int}{x:Str}{i j:Int}{Ql:List PyData->Prop}
instance zqo:Stp (dSlA d dlo dhi ρ n R) (d ρ n fun t n1=>dlo ρ n1 fun lo n2=>dhi ρ n2 fun hi n3=>oSlA t lo hi fun z=>R z n3):=⟨fun h=>h⟩
instance zqc:Stp (oSlA (.tuple xs) lo hi Q) (Q (.tuple (cutD xs lo hi))):=⟨fun h=>h⟩
end
end L2
namespace L2
open PySem PySem.Spec PyProof.Rows
mutual
def plnD:PyData->Bool
 | .dict []=>true
 | .dict _=>false
 | .tuple ts=>decide (ts.length<=1000000)&&zg7 ts
 | .list ts=>decide (ts.length<=1000000)&&zg7 ts
 | .str x=>decide (x.length<=1000000)
 | _=>true
def zg7:List PyData->Bool
 | []=>true
 | t::ts=>plnD t&&zg7 ts
end
def PlnD (d:PyData):Prop:=plnD d=true
theorem zcl:∀ {ts:List PyData},zg7 ts=true↔∀ t∈ts,PlnD t
 | []=>by simp [zg7]
 | t::ts=>by
  rw [zg7,Bool.and_eq_true,zcl (ts:=ts)]
  constructor
  ·rintro ⟨a,b⟩ u hu
   rcases List.mem_cons.mp hu with rfl | hu
   ·exact a
   ·exact b u hu
  ·intro h
   exact ⟨h t (by simp),fun u hu=>h u (by simp [hu])⟩
theorem PlnD.tup {ts:List PyData} (h:PlnD (.tuple ts)):ts.length<=1000000/\∀ t∈ts,PlnD t:=by
 unfold PlnD plnD at h
 rw [Bool.and_eq_true,decide_eq_true_iff,zcl] at h
 exact h
theorem zbj {ts:List PyData} (l:ts.length<=1000000) (h:∀ t∈ts,PlnD t):PlnD (.tuple ts):=by
 unfold PlnD plnD
 rw [Bool.and_eq_true,decide_eq_true_iff,zcl]
 exact ⟨l,h⟩
theorem zgE {ts:List PyData} (l:ts.length<=1000000) (h:∀ t∈ts,PlnD t):PlnD (.list ts):=by
 unfold PlnD plnD
 rw [Bool.and_eq_true,decide_eq_true_iff,zcl]
 exact ⟨l,h⟩
theorem zgC {x:Str} (h:x.length<=1000000):PlnD (.str x):=by unfold PlnD plnD;exact decide_eq_true h
theorem zaK {i:Int}:PlnD (.int i):=by unfold PlnD plnD;rfl
theorem zeP {i:Bool}:PlnD (.bool i):=by unfold PlnD plnD;rfl
theorem zdk:PlnD .none:=by unfold PlnD plnD;rfl
theorem zhV:PlnD (.dict []):=by unfold PlnD plnD;rfl
theorem zaG:∀ t∈([]:List PyData),PlnD t:=fun t h=>nomatch h
theorem zat {x:PyData}{xs:List PyData} (h:PlnD x) (h':∀ t∈xs,PlnD t):∀ t∈x::xs,PlnD t:=fun t ht=>by
 rcases List.mem_cons.mp ht with rfl | ht
 ·exact h
 ·exact h' t ht
theorem za9 {xs ys:List PyData} (h:∀ t∈xs,PlnD t) (h':∀ t∈ys,PlnD t):∀ t∈xs++ys,PlnD t:=fun t ht=>by
 rcases List.mem_append.mp ht with ht | ht
 ·exact h t ht
 ·exact h' t ht
theorem PlnD.pln {d:PyData} (h:PlnD d):Pln d:=by
 cases d with
 | dict ks =>
  cases ks with
  | nil=>exact zbB
  | cons a b=>cases a with | mk x y=>simp [PlnD,plnD] at h
 | none=>exact zbz
 | bool=>exact zbi
 | int=>exact zbP
 | str=>exact zb9
 | list=>exact zbA
 | tuple=>exact zbc
end L2
namespace L2
open PySem PySem.Spec PyProof.Rows
theorem znv {xs:List PyData}{r:Int}{R:PyData->Prop} (r0:0<=r) (r1:r<xs.length) (h:∀ x∈xs,R x):oIx (.tuple xs) (.int r) R:=by
 have hr:r.toNat<xs.length:=by omega
 rw [zlx (Bd.zge r0 (List.getElem?_eq_getElem hr))]
 exact h _ (List.getElem_mem hr)
end L2
namespace L2
open PySem PySem.Spec PyProof.Rows
abbrev Run:=Int×Int
end L2
namespace L2
open PySem Bd
variable {as bs cs:List Run}{a b:Nat}
end L2
namespace L2
open PySem PySem.Spec PyProof.Rows
theorem zpA {P:Program}{w:World}{k:Key}{u:Value} (r:RelV (kV k) u):(zal P w).is k u=true:=by
 cases k with
 | inl i=>obtain ⟨t,e⟩:=(show ∃ t,u=Value.int i t from r);subst e;exact zf0 P w i t
 | inr x=>obtain ⟨t,e⟩:=(show ∃ t,u=Value.str x t from r);subst e;exact zfZ P w x t
theorem zfl {P:Program}{w:World}:∀ {ks:List Key}{us:List Value},Vals (ks.map kV) us->ItemsAre (zal P w) ks us
 | [],_,r=>by rw [List.map_nil] at r;cases r;exact .nil
 | k::ks,_,r=>by
  rw [List.map_cons] at r
  cases r with
  | cons h t=>exact .cons (zpA h) (zfl t)
abbrev KT (H:Hp):List (List Key×V)->List (List Key×Addr×Value)->Prop:=Paired fun p q=>p.1=q.1/\H q.2.1=some (.tup (p.1.map kV))/\RelV p.2 q.2.2
section
variable {X:Cx}{pins:List (Addr×Obj)}{σ:St}{H:Hp}{s:Shared}{a:Addr}{y v:V}{u r:Value}{o:Option V}{A:Around}{E:Value->Shared->Prop}
theorem Inv.big (I:Inv X pins σ H s):sysModules<s.heap.objs.size:=by
 have h:mainGlobals<s.heap.objs.size:=(I.mod.glob.keeps I.bk).lt
 exact Nat.lt_trans (by decide) h
theorem zlY {h':Heap}{t':Nat}{ob:HO} (I:Inv X pins σ H s) (mu:Mut (H a)) (hs:Heap.SameBut a s.heap h') (he:∃ q,h'.get? a=some q) (new:zba X.prog X.w (upd H a ob) h' a ob) :
  Inv X pins σ (upd H a ob) { s with heap:=h',toks:=t' } :=
 I.write (x:=a) (e:=a) mu (.inl rfl) (fun b q hb z=>(hs.2 b hb).trans z) he new
end
end L2
namespace L2
open PySem PySem.Spec PyProof PyProof.Rows
abbrev KD:=List (Key×PyData)
section
variable {D:DEnds}{ρ ρ':En}{n i j:Nat}{d dk dv:DTE}{R:PyData->Nat->Prop}{ks:KD}
instance {ks:KD}:CapC (some (.dct ks)) (some (.rdo ks)):=⟨rfl⟩
instance {ks:KD}:CapC (some (.rdo ks)) (some (.rdo ks)):=⟨rfl⟩
end
end L2
namespace L2
open PySem PySem.Spec PyProof PyProof.Rows
theorem zb7:entryFor table "dict.update.loop" = some Builtin.«dict.update.loop»:=by kernel_rfl
theorem zii:typeLookup (.type "list") "keys" = pure none:=by rw [typeLookup_type,builtinLookup_eq_fast];kernel_rfl
theorem zlO:typeLookup (.type "list") "__getattr__" = pure none:=by rw [typeLookup_type,builtinLookup_eq_fast];kernel_rfl
section
variable {prog:Program}{w:World}{A:Around}{E:Value->Shared->Prop}{s:Shared}
theorem zep {a:Addr}{o:Obj}{u:Tok}{P:Fin->Shared->Prop} (ho:s.heap.get? a=some o) (hc:o.cls=.type "list") (hq:∃ its n,o.data=.seq its n) (hd:o.dict=none) (hA:A.handled=none)
  (h:∀ h' tk e,Heap.NewAttrErr s.heap h' e (.ref a) "keys" -> E (.ref e) { s with heap:=h',toks:=tk }):wpAny (model prog w) A (Builtin.«object.__getattribute__» ⟨[.ref a,.str "keys" u],[]⟩) P E s:=by
 obtain ⟨hp,g,d,tk,os⟩:=s
 have hT:∀ (t:Nat),Shared.TypeIs ⟨hp,g,d,t,os⟩ (.ref a) "list":=fun _=>⟨o,ho,hc⟩
 have hm:=zii
 unfold Builtin.«object.__getattribute__»
 repeat (any_goals (first | assumption | wp_step))
 rw [hc,hm]
 repeat (any_goals (first | assumption | wp_step))
 obtain ⟨its,n,hq⟩:=hq
 rw [hq]
 dsimp only
 unfold instanceDict
 repeat (any_goals (first | assumption | wp_step))
 rw [hd]
 repeat (any_goals (first | assumption | wp_step))
 simp only [hc,Bool.not_false,Bool.true_or,if_true]
 repeat (any_goals (first | assumption | wp_step))
 rw [hc]
 dsimp only
 repeat (any_goals (first | assumption | wp_step))
 exact wpAny_raiseAttrError hA h (attrMsg_fits (by decide +kernel) (by size_fits))
theorem zdJ {a:Addr}{o:Obj}{u:Tok}{R:Result->Shared->Prop} (ho:s.heap.get? a=some o) (hc:o.cls=.type "list") (hq:∃ its n,o.data=.seq its n) (hd:o.dict=none) (hA:A.handled=none)
  (h:∀ h' tk e,Heap.NewAttrErr s.heap h' e (.ref a) "keys" -> R (.error (.ref e)) { s with heap:=h',toks:=tk }):codeAny (model prog w) A (.call (.builtin "list.__getattribute__") ⟨[.ref a,.str "keys" u],[]⟩) R s :=
 codeAny_call_builtin F.slot_list_getattribute.plain F.entry_list_ga (F.slot_list_getattribute.check _ _ _ _ _ _ _ _ (show s.TypeIs (.ref a) "list" from ⟨_,ho,hc⟩) (F.args_list_getattribute_2 _ _) (zep ho hc hq hd hA h))
theorem zfb {a:Addr}{o:Obj}{u:Tok}{Q:Value->Shared->Prop} (ho:s.heap.get? a=some o) (hc:o.cls=.type "list") (hq:∃ its n,o.data=.seq its n) (hd:o.dict=none) (hA:A.handled=none)
  (h:∀ h' tk e,Heap.NewAttrErr s.heap h' e (.ref a) "keys" -> E (.ref e) { s with heap:=h',toks:=tk }):wpAny (model prog w) A (getAttrBy (.ref a) (.str "keys" u) false) Q E s:=by
 obtain ⟨hp,g,d,tk,os⟩:=s
 have hT:(⟨hp,g,d,tk,os⟩:Shared).TypeIs (.ref a) "list":=⟨o,ho,hc⟩
 have f2:=F.slot_list_getattribute.lookup
 have f3:=F.slot_list_getattribute.bind (.ref a)
 have f1:=sub_AttributeError
 have f5:=zlO
 repeat (any_goals (first | assumption | wp_step))
 refine zdJ ho hc hq hd hA fun h' tk' e hx=>?_
 obtain ⟨t',u',he⟩:=hx.there
 repeat (any_goals (first | assumption | wp_step))
 exact h _ _ _ hx
theorem zdK {a:Addr}{o:Obj}{Q:Option Value->Shared->Prop} (ho:s.heap.get? a=some o) (hc:o.cls=.type "list") (hq:∃ its n,o.data=.seq its n) (hd:o.dict=none) (hA:A.handled=none)
  (h:∀ h' tk,(∀ b ob,s.heap.get? b=some ob->h'.get? b=some ob)->Q none { s with heap:=h',toks:=tk }):wpAny (model prog w) A (getAttr? (.ref a) "keys") Q E s:=by
 unfold getAttr? getAttrBy?
 obtain ⟨hp,g,d,tk,os⟩:=s
 have f1:=sub_AttributeError
 repeat (any_goals (first | assumption | (with_reducible refine zfb ho hc hq hd hA fun h' tk' e hx=>?_) | wp_step))
 obtain ⟨t',u',he⟩:=hx.there
 repeat (any_goals (first | assumption | wp_step))
 exact h _ _ hx.keeps
end
end L2
namespace L2
open PySem PySem.Spec PyProof PyProof.Rows
section
variable {prog:Program}{w:World}{A:Around}{E:Value->Shared->Prop}{Ky:Type}[DecidableEq Ky] {knd:PySem.KeyKind prog w Ky}
def KpH (d it:Addr) (h h':Heap):Prop:=∀ b o,b≠d->b≠it->h.get? b=some o->h'.get? b=some o
end
end L2
namespace L2
open PySem PySem.Spec PyProof PyProof.Rows
theorem zeT {α β:Type}{P:α->β->Prop}:∀ {l:List α}{m:List β},l.length=m.length->(∀ (j:Nat) a b,l[j]?=some a->m[j]?=some b->P a b)->Paired P l m
 | [],[],_,_=>.nil
 | a::l,b::m,h,k=>.cons (k 0 a b rfl rfl) (zeT (by simpa using h) fun j a b h1 h2=>k (j+1) a b h1 h2)
 | [],_::_,h,_=>by simp at h
 | _::_,[],h,_=>by simp at h
end L2
namespace L2
open PySem PySem.Spec PyProof PyProof.Rows
theorem zmL {k:Nat}{A:Around} (r:Room k A):A.units+1<cLine:=by have:=r.un;lia
end L2
namespace L2
open PySem PySem.Spec PyProof PyProof.Rows
section
variable {prog:Program}{w:World}{A:Around}{E:Value->Shared->Prop}
def PrT (prog:Program) (w:World) (h:Heap) (x:Value) (z:List Key×Addr×Value):Prop:=∃ p:Addr,x=.ref p/\IsTup h p #[.ref z.2.1,z.2.2]/\IsTupleKey (zal prog w) h z.1 z.2.1
theorem zjc {h:Heap}{k:List Key}{a b:Addr}{T:String} (r:IsTupleKey (zal prog w) h k a) (hb:∃ o,h.get? b=some o/\o.cls=.type T) (ht:T ≠ "tuple"):a≠b:=by
 rintro rfl
 obtain ⟨o,_,_,e,c,_⟩:=r
 obtain ⟨o',e',c'⟩:=hb
 rw [e] at e'
 cases e'
 rw [c] at c'
 injection c' with c'
 exact ht c'.symm
theorem zd6 {h h':Heap}{k:List Key}{a:Addr} (r:IsTupleKey (zal prog w) h k a) (kp:∀ o,h.get? a=some o->h'.get? a=some o):IsTupleKey (zal prog w) h' k a:=by
 obtain ⟨o,its,n,e,c⟩:=r
 exact ⟨o,its,n,kp o e,c⟩
theorem tup_ne {h:Heap}{a b:Addr}{xs:Array Value}{T:String} (r:IsTup h a xs) (hb:∃ o,h.get? b=some o/\o.cls=.type T) (ht:T ≠ "tuple"):a≠b:=by
 rintro rfl
 obtain ⟨o,e,c,_⟩:=r
 obtain ⟨o',e',c'⟩:=hb
 rw [e] at e'
 cases e'
 rw [c] at c'
 injection c' with c'
 exact ht c'.symm
theorem zkD {h:Heap}{d:Addr}{xs:List (List Key×Addr×Value)} (hd:h.DictOfH (tupleKind (zal prog w)) d xs):∃ o,h.get? d=some o/\o.cls=.type "dict":=by
 obtain ⟨o,es,ep,ho,hc,_⟩:=hd
 exact ⟨o,ho,hc.1⟩
theorem zhv {A:Around}{xs:List Value}{kw:List (Str×Value)}:(A.under (.builtin "dict.update.loop" ⟨xs,kw⟩)).units=A.units+1:=by
 first | rfl | simp [Around.under,Code.cUnits,Code.frames,Code.isFrame]
end
section
variable {X:Cx}
theorem zij {pins:List (Addr×Obj)}{σ:St}{H:Hp}{s:Shared}{b:Addr}{k:List Key} (I:Inv X pins σ H s) (h:SqT X.K H b (k.map kV)):IsTupleKey (zal X.prog X.w) s.heap k b:=by
 obtain ⟨its,r,⟨o,e,c,n,d⟩,_⟩:=I.tuple h
 exact ⟨o,its.toArray,n,e,c,d,by simpa using zfl r⟩
theorem zg_ {α β:Type}{F:α->β->Prop}{l₁:List α}{l₂:List β} (r:Paired F l₁ l₂) {a:α} (h:a∈l₁):∃ b∈l₂,F a b:=by
 induction r with
 | nil=>cases h
 | cons f t ih =>
  rcases List.mem_cons.mp h with rfl | h
  ·exact ⟨_,List.mem_cons_self,f⟩
  ·obtain ⟨b,hb,g⟩:=ih h
   exact ⟨b,List.mem_cons_of_mem _ hb,g⟩
theorem zbd {α β:Type}{F:α->β->Prop}{l₁:List α}{l₂:List β} (r:Paired F l₁ l₂) {b:β} (h:b∈l₂):∃ a∈l₁,F a b:=by
 induction r with
 | nil=>cases h
 | cons f t ih =>
  rcases List.mem_cons.mp h with rfl | h
  ·exact ⟨_,List.mem_cons_self,f⟩
  ·obtain ⟨b,hb,g⟩:=ih h
   exact ⟨b,List.mem_cons_of_mem _ hb,g⟩
end
end L2
namespace Bd
open PySem L2
theorem zgX {ts:List PyData}{lo hi:Option Int}{t:PyData} (h:t∈cutD ts lo hi):t∈ts:=by
 unfold cutD at h
 exact List.mem_of_mem_drop (List.mem_of_mem_take h)
theorem zgY {ts:List PyData}{lo hi:Option Int}:(cutD ts lo hi).length<=ts.length:=by
 unfold cutD
 rw [List.length_take,List.length_drop]
 lia
end Bd
namespace Bd
open PySem L2
def Dq (K:PySem.W.Frag) (mg:Str->Option Value) (x:Str) (st:Stmt) (ps:List Str):Prop:=∃ f fd,Def K mg x st ps f fd
def Fq (P:Program) (w:World) (K:PySem.W.Frag) (mg:Str->Option Value) (base:Heap) (x:Str) (st:Stmt) (ps:List Str) (k:Nat) (sp:Sp):Prop:=∃ f fd,Def K mg x st ps f fd/\FnOk P w K mg base CX0 k f fd ps sp
end Bd
namespace L2
open PySem PySem.Spec PyProof.Rows
section
variable {X:Cx}{x:Str}{st:Stmt}{ps:List Str}{k n m:Nat}{g:GD}{e:Expr}{es:List Expr}{ds:DTA}{p pos:Pos}
theorem zaO (F:Bd.Fq X.prog X.w X.K X.mg X.base x st ps k (spD X.K m g)) (hr:Room n X.A) (h:DB X (e::es) ds) (hk:k<=n:=by decide) (hm:(e::es).length=m:=by rfl) (hg:Gl X x:=by rfl)
  (hdb:(x == ("__debug__":Str))=false:=by decide):DE X (.Call (.Name x p) (e::es) [] pos) (dFn g ds):=by
 obtain ⟨f,fd,D,G⟩:=F
 exact zp6 D G (hr.mono hk) h hm hg hdb
theorem zod (F:Bd.Fq X.prog X.w X.K X.mg X.base x st ps k (spD X.K m g)) (hr:Room n X.A) (h:DBL X (e::es) ds) (hk:k<=n:=by decide) (hm:(e::es).length=m:=by rfl) (hg:Gl X x:=by rfl)
  (hdb:(x == ("__debug__":Str))=false:=by decide):DE X (.Call (.Name x p) (e::es) [] pos) (dFnL g ds):=by
 obtain ⟨f,fd,D,G⟩:=F
 exact zoe D G (hr.mono hk) h hm hg hdb
end
section
variable {X:Cx}{hx s kx x:Str}{st:Stmt}{ps:List Str}{k n:Nat}{p p1 p2 p3 pos pos':Pos}{sts:List Stmt}{u:DTS}
theorem ziy {i j:Nat} (F:Bd.Fq X.prog X.w X.K X.mg X.base hx st ps k (zgq X.K)) (hr:Room n X.A) (hN:X.N.Nodup) (hi:X.N[i]?=some x) (hlx:Loc X.env.scope x) (hu:DSs X sts u) (hk:k<=n:=by decide) (hij:i≠0:=by decide) (hj0:j≠0:=by decide) (hji:j≠i:=by decide)
  (h0:X.N[0]?=some s:=by rfl) (hj:X.N[j]?=some kx:=by rfl) (hv0:Vis X.env.scope s:=by first | exact Or.inl rfl | exact Or.inr (Or.inl rfl) | exact Or.inr (Or.inr rfl)) (hvj:Vis X.env.scope kx:=by first | exact Or.inl rfl | exact Or.inr (Or.inl rfl) | exact Or.inr (Or.inr rfl))
  (hd0:(s == ("__debug__":Str))=false:=by decide) (hcd0:(s == ("__classdict__":Str))=false:=by decide) (hdj:(kx == ("__debug__":Str))=false:=by decide) (hcdj:(kx == ("__classdict__":Str))=false:=by decide) (hg:Gl X hx:=by rfl) (hdb:(hx == ("__debug__":Str))=false:=by decide)
  (hs:swapsWith (.Call (.Name hx p) [.Name s p1,.Name kx p2] [] p3) (some (.Name x pos')) pos.line X.env=pure false:=by rfl) (hf:X.fn x=true\/X.env.scope.names.lookup x=some .local:=by first | exact .inl rfl | exact .inr rfl | assumption) :
  DSs X (.Assign [.Name x pos'] (.Call (.Name hx p) [.Name s p1,.Name kx p2] [] p3) pos::sts) (zg6 i j u):=by
 obtain ⟨f,fd,D,G⟩:=F
 exact zj3 D G (hr.mono hk) hN hi hlx hu hij hj0 hji h0 hj hv0 hvj hd0 hcd0 hdj hcdj hg hdb hs hf
end
end L2
namespace Bd
open PySem L2
section
variable {K:PySem.W.Frag}{h:Heap}{mg:Str->Option Value}{x:Str}{st:Stmt}{ps:List Str}
theorem zkE {f:Addr}{oc:Value}{od an:Option Addr}{osl:Array (Option Value)}{kV doc pm cdv ct:Value} (X:K.In h) (G:h.Ns mainGlobals mg)
  (a:PySem.W.nsIn K mainGlobals x=some (some (.ref f))) (l:K.lookup f=some ⟨oc,od,.func (PySem.W.fnOf x x (zbf st) (za8 st) (zag st) .none kV doc pm an cdv ct),osl⟩) (c:PySem.W.codeIn K cdv x=true) (k:PySem.W.keepIn K (.ref f)=true)
  (hb:∀ (kV doc pm:Value) (an:Option Addr) (cdv ct:Value) (us:List Value),us.length=ps.length->bindArgs (PySem.W.fnOf x x (zbf st) (za8 st) (zag st) .none kV doc pm an cdv ct) ⟨us,[]⟩=pure (ps.zip us)) :
  Def K mg x st ps f (PySem.W.fnOf x x (zbf st) (za8 st) (zag st) .none kV doc pm an cdv ct):=⟨zky l c k,(zky l c k).binds hb,PySem.W.mg_of X G a⟩
structure DA (K:PySem.W.Frag) (x:Str) (st:Stmt) (f:Addr) (oc kV dc pm cd ct:Value) (od an:Option Addr) (sl:Array (Option Value)):Prop where
 a:PySem.W.nsIn K mainGlobals x=some (some (.ref f))
 l:K.lookup f=some ⟨oc,od,.func (PySem.W.fnOf x x (zbf st) (za8 st) (zag st) .none kV dc pm an cd ct),sl⟩
 c:PySem.W.codeIn K cd x=true
 k:PySem.W.keepIn K (.ref f)=true
def DAq (K:PySem.W.Frag) (x:Str) (st:Stmt):Prop:=∃ f oc kV dc pm cd ct od an sl,DA K x st f oc kV dc pm cd ct od an sl
theorem daq {f:Addr}{oc kV dc pm cd ct:Value}{od an:Option Addr}{sl:Array (Option Value)} (a:PySem.W.nsIn K mainGlobals x=some (some (.ref f)))
  (l:K.lookup f=some ⟨oc,od,.func (PySem.W.fnOf x x (zbf st) (za8 st) (zag st) .none kV dc pm an cd ct),sl⟩) (c:PySem.W.codeIn K cd x=true) (k:PySem.W.keepIn K (.ref f)=true):DAq K x st:=⟨_,_,_,_,_,_,_,_,_,_,a,l,c,k⟩
abbrev BndA (x:Str) (st:Stmt) (ps:List Str):Prop:=∀ (kV doc pm:Value) (an:Option Addr) (cdv ct:Value) (us:List Value),us.length=ps.length->bindArgs (PySem.W.fnOf x x (zbf st) (za8 st) (zag st) .none kV doc pm an cdv ct) ⟨us,[]⟩=pure (ps.zip us)
theorem zbW (X:K.In h) (G:h.Ns mainGlobals mg) (e:DAq K x st) (hb:BndA x st ps):Dq K mg x st ps:=by
 obtain ⟨f,oc,kV,dc,pm,cd,ct,od,an,sl,e⟩:=e
 exact ⟨f,_,zkE X G e.a e.l e.c e.k hb⟩
theorem len1:∀ {us:List Value},us.length=1->∃ a,us=[a]
 | [a],_=>⟨a,rfl⟩
theorem len2:∀ {us:List Value},us.length=2->∃ a b,us=[a,b]
 | [a,b],_=>⟨a,b,rfl⟩
theorem len3:∀ {us:List Value},us.length=3->∃ a b c,us=[a,b,c]
 | [a,b,c],_=>⟨a,b,c,rfl⟩
end
theorem walk {lw:PySem.W.OpenLaw}{q:Program}{loose:List Str}{XP:(Str->Option Value)->Heap->Prop}{YP:World->Heap->Prop}{d:DefRec}{K:Params->PySem.W.Frag}{k:Nat} (hk:k<=60) (hn:lw.most=some 63) (hdf:d.params.defaults=[])
  (hY:∀ (w:World) (h:Heap),YP w h->(K w.params).In h)
  (F:∀ (w:World) (mg:Str->Option Value) (fa:Addr) (h:Heap),(K w.params).In h->h.Ns mainGlobals mg->mg d.name=some (.ref fa) ->
   ∃ fd:FuncData,(∀ (s:Shared) (u:Value),BindsTo s fd ⟨[u],[]⟩ [("_law_script",u)])/\∀ base:Heap,(K w.params).In base->base.Ns mainGlobals mg->FnOk lw.prog w (K w.params) mg base CX0 k fa fd ["_law_script"] (zje (K w.params))) :
  PySem.W.WalkO q loose XP YP lw.row.toRowW d [] (fun f vs=>PySem.call f vs) :=
 L2.zkL (n:=63) (k:=k) (x:="_law_script") (CX:=fun _=>CX0) (sp:=fun w=>zje (K w.params)) hn (by decide) hdf ((show Room 60 callerA from ⟨rfl,by decide,by decide,rfl⟩).mono hk) hY F (fun _ _ a ns hl _ hS=>⟨a,ns,rfl,hS,hl,fun _=>rfl⟩) fun _ _ _ _ _ z=>z
end Bd
namespace L2
open PySem PySem.Spec PyProof PyProof.Rows
def zcO (h:Heap) (d:Addr) (es:Array DictEntry) (ep:Nat):Prop:=∃ o,h.get? d=some o/\o.ExactDict/\o.data=.dict es ep
theorem zcO.keep {h h':Heap}{d:Addr}{es:Array DictEntry}{ep:Nat} (r:zcO h d es ep) (k:∀ o,h.get? d=some o->h'.get? d=some o):zcO h' d es ep:=by
 obtain ⟨o,e,x⟩:=r
 exact ⟨o,k o e,x⟩
theorem zcO.lt {h:Heap}{d:Addr}{es:Array DictEntry}{ep:Nat} (r:zcO h d es ep):d<h.objs.size:=by
 obtain ⟨o,e,x⟩:=r
 exact Heap.lt_size e
def itO (f0:Value) (f:Bool) (d:Addr) (i n ep:Nat) (f6 f7:Value):Obj:=⟨.type "dict_itemiterator",none,.fields #[f0,.bool f,.ref d,.int i 0,.int n 0,.int ep 0,f6,f7],#[]⟩
def zfN (h:Heap) (it d:Addr) (i n ep:Nat):Prop:=∃ f0 f f6 f7,h.get? it=some (itO f0 f d i n ep f6 f7)/\(f0=.none\/∃ a:Nat,f0=rawInt a)
theorem zfN.keep {h h':Heap}{it d:Addr}{i n ep:Nat} (r:zfN h it d i n ep) (k:∀ o,h.get? it=some o->h'.get? it=some o):zfN h' it d i n ep:=by
 obtain ⟨f0,f,f6,f7,e,x⟩:=r
 exact ⟨f0,f,f6,f7,k _ e,x⟩
section
variable {prog:Program}{w:World}{A:Around}{E:Value->Shared->Prop}{s:Shared}
theorem zl9 {a:Addr}{Q:Option Obj->Shared->Prop} (h:∀ x,Q x s):wpAny (model prog w) A (loadIfAlive a) Q E s:=fun _ _ _=>h _
theorem zn6 {it d:Addr}{f0 f6 f7:Value}{f:Bool}{i n ep:Nat}{Q:Bool->Shared->Prop} (h0:f0=.none\/∃ a:Nat,f0=rawInt a) (e2:s.heap.get? it=some (itO f0 f d i n ep f6 f7)) (ht:Q true s)
  (hf:∀ h3,h3.get? it=some (itO f0 true d i n ep f6 f7)->Heap.SameBut it s.heap h3->Q false { s with heap:=h3 }):wpAny (model prog w) A (Builtin.Dict_items.ownedTupleIsFree (.ref it)) Q E s:=by
 unfold Builtin.Dict_items.ownedTupleIsFree
 refine wpAny_bind (wpAny_field e2 rfl (x:=f0) rfl ?_)
 rcases h0 with rfl | ⟨a,rfl⟩
 ·exact wpAny_pure ht
 ·refine wpAny_bind (zl9 fun x=>?_)
  cases x with
  | none=>exact wpAny_pure ht
  | some o =>
   rw [if_neg (show ¬((some o).isNone=true) from Bool.false_ne_true)]
   refine wpAny_bind (wpAny_field e2 rfl (x:=.bool f) rfl ?_)
   cases f with
   | true =>
    rw [if_neg (show ¬((Value.bool true != .bool true)=true) by decide)]
    exact wpAny_pure (hf s.heap e2 (Heap.SameBut.refl _ _))
   | false =>
    rw [if_pos (show (Value.bool false != .bool true)=true by decide)]
    exact wpAny_bind (wpAny_setField_rec e2 (by simp) fun h3 e3 s3=>wpAny_pure (hf h3 e3 s3))
theorem zjq {it d:Addr}{i ep:Nat}{es:Array DictEntry}{e:DictEntry}{Q:Option Value->Shared->Prop} (hi:zfN s.heap it d i es.size ep) (hm:zcO s.heap d es ep) (hx:es[i]?=some e)
  (hQ:∀ h',zfN h' it d (i+1) es.size ep->h'.get? s.heap.objs.size=some ⟨.type "tuple",none,.seq #[e.key,e.val] 0,#[]⟩->h'.objs.size=s.heap.objs.size+1->(∀ b o,b≠it->s.heap.get? b=some o->h'.get? b=some o)->Q (some (.ref s.heap.objs.size)) { s with heap:=h' }) :
  wpAny (model prog w) A (pyNext (.ref it)) Q E s:=by
 obtain ⟨hp,g,dr,tk,os⟩:=s
 obtain ⟨f0,f,f6,f7,hit,h0⟩:=hi
 obtain ⟨od,god,xod,dod⟩:=hm
 have ty:Shared.TypeIs ⟨hp,g,dr,tk,os⟩ (.ref it) "dict_itemiterator":=⟨_,hit,rfl⟩
 have il:it<hp.objs.size:=Heap.lt_size hit
 have lt:i<es.size:=(Array.getElem?_eq_some_iff.mp hx).1
 unfold pyNext
 refine wpAny_bind (wpAny_attempt ?_)
 refine wpAny_callSpecial?_slot (name:=Str.ofString "__next__") ty PySem.F.slot_dict_itemiterator_next ?_
 refine wpAny_call_entry PySem.F.slot_dict_itemiterator_next ty PySem.F.entry_dict_itemiterator_next ?_ (PySem.F.args_dict_itemiterator_next_1 _)
 refine wpAny_bind (wpAny_pure (wpAny_bind (wpAny_bind ?_)))
 refine wpAny_bind (wpAny_typeNameOfWhole_itemiter ty (wpAny_pure (wpAny_bind (wpAny_fieldsOf hit rfl ?_))))
 have ow:Builtin.Dict_items.ownsTuple "dict_itemiterator" = true:=by decide
 simp only [ow,if_true]
 show wpAny _ _ (if (Value.ref d == Value.none)=true then _ else _) _ _ _
 have nd:¬((Value.ref d == Value.none)=true):=Bool.false_ne_true
 rw [if_neg nd]
 refine wpAny_bind (wpAny_pure (wpAny_bind (wpAny_dictEntries god dod ?_)))
 rw [if_neg (by simp)]
 refine wpAny_bind (wpAny_pure (wpAny_bind (wpAny_dictEpoch god dod ?_)))
 rw [if_neg (by simp)]
 refine wpAny_pure ?_
 simp only [show ¬((i:Int)<0) from by lia,if_false,Int.toNat_natCast,hx]
 refine wpAny_bind (wpAny_bind (wpAny_typeNameOfWhole_itemiter ty (wpAny_pure (wpAny_bind (wpAny_isOneOf_itemiter ty ?_)))))
 show wpAny _ _ (setField (.ref it) 3 (rawInt ((i:Int)+1)) >>= _) _ _ ⟨hp,g,dr,tk,os⟩
 refine wpAny_bind (wpAny_setField_rec hit (by simp) fun h1 e1 s1=>?_)
 have s1':Heap.SameBut it hp h1:=s1
 have e1':h1.get? it=some (itO f0 f d (i+1) es.size ep f6 f7):=by
  have:((i+1:Nat):Int)=(i:Int)+1:=by lia
  unfold itO
  rw [this]
  simpa [rawInt] using e1
 have ty1:Shared.TypeIs ⟨h1,g,dr,tk,os⟩ (.ref it) "dict_itemiterator":=⟨_,e1',rfl⟩
 refine wpAny_bind (wpAny_holding (wpAny_bind (wpAny_isOneOf_itemiter ty1 (wpAny_bind (wpAny_isOneOf_itemiter ty1 ?_)))))
 show wpAny _ _ (Builtin.Dict_items.pairFromOwner (.ref it) 6 e.key e.val) _ _ ⟨h1,g,dr,tk,os⟩
 unfold Builtin.Dict_items.pairFromOwner
 refine wpAny_bind (wpAny_newTuple ?_)
 have z1:h1.objs.size=hp.objs.size:=s1'.1
 obtain ⟨h2,eh2⟩:∃ h2,h2=h1.push ⟨.type "tuple",none,.seq #[e.key,e.val] 0,#[]⟩:=⟨_,rfl⟩
 have e2:h2.get? it=some (itO f0 f d (i+1) es.size ep f6 f7):=by rw [eh2];exact Heap.get?_push_of_some _ e1'
 have t2:h2.get? hp.objs.size=some ⟨.type "tuple",none,.seq #[e.key,e.val] 0,#[]⟩:=by rw [eh2,<- z1];exact Heap.get?_push_size _ rfl
 have z2:h2.objs.size=hp.objs.size+1:=by rw [eh2,Heap.size_push,z1]
 have k2:∀ b o,b≠it->hp.get? b=some o->h2.get? b=some o:=fun b o nb eb=>by rw [eh2];exact Heap.get?_push_of_some _ (s1'.extBut b o nb eb)
 rw [z1]
 show wpAny _ _ (Builtin.Dict_items.ownedTupleIsFree (.ref it) >>= _) _ _ ⟨h1.push ⟨.type "tuple",none,.seq #[e.key,e.val] 0,#[]⟩,g,dr,tk,os⟩
 rw [<- eh2]
 clear eh2 e1 e1' s1 s1' ty1 z1
 clear h1
 have kept:∀ h3:Heap,h3.objs.size=h2.objs.size->(∀ b o,b≠it->h2.get? b=some o->h3.get? b=some o)->zfN h3 it d (i+1) es.size ep->Q (some (.ref hp.objs.size)) ⟨h3,g,dr,tk,os⟩:=fun h3 z3 k3 r3 =>
  hQ h3 r3 (k3 _ _ (Nat.ne_of_gt il) t2) (z3.trans z2) fun b o nb eb=>k3 b o nb (k2 b o nb eb)
 have last:∀ (h3:Heap) (f':Bool),h3.objs.size=h2.objs.size->(∀ b o,b≠it->h2.get? b=some o->h3.get? b=some o)->h3.get? it=some (itO f0 f' d (i+1) es.size ep f6 f7)->Q (some (.ref hp.objs.size)) ⟨h3,g,dr,tk,os⟩:=fun h3 f' z3 k3 r3 =>
  kept h3 z3 k3 ⟨f0,f',f6,f7,r3,h0⟩
 refine wpAny_bind (zn6 h0 e2 ?_ fun h3 e3 s3=>?_)
 ·simp only [if_true]
  refine wpAny_bind (wpAny_field e2 rfl (x:=f6) rfl (wpAny_bind (wpAny_field e2 rfl (x:=f7) rfl ?_)))
  refine wpAny_bind (wpAny_setField_rec e2 (by simp) fun h3 e3 s3=>wpAny_bind (wpAny_setField_rec e3 (by simp) fun h4 e4 s4=>?_))
  refine wpAny_bind (wpAny_setField_rec e4 (by simp) fun h5 e5 s5=>wpAny_bind (wpAny_setField_rec e5 (by simp) fun h6 e6 s6=>?_))
  refine wpAny_bind (wpAny_letGo (wpAny_pure (wpAny_pure ⟨_,rfl,wpAny_pure (kept h6 ?_ ?_ ?_)⟩)))
  ·have a3:h3.objs.size=h2.objs.size:=s3.1
   have a4:h4.objs.size=h3.objs.size:=s4.1
   have a5:h5.objs.size=h4.objs.size:=s5.1
   have a6:h6.objs.size=h5.objs.size:=s6.1
   lia
  ·exact fun b o nb eb=>s6.extBut b o nb (s5.extBut b o nb (s4.extBut b o nb (s3.extBut b o nb eb)))
  ·exact ⟨_,false,_,_,e6,.inr ⟨_,rfl⟩⟩
 ·exact wpAny_pure (wpAny_pure ⟨_,rfl,wpAny_pure (last h3 _ s3.1 (fun b o nb eb=>s3.extBut b o nb eb) e3)⟩)
end
end L2
namespace L2
open PySem PySem.Spec PyProof PyProof.Rows
section
variable {prog:Program}{w:World}{A:Around}{E:Value->Shared->Prop}{s:Shared}
theorem zk0 {it d:Addr}{i ep:Nat}{es:Array DictEntry}{Q:Option Value->Shared->Prop} (hA:A.handled=none) (hi:zfN s.heap it d i es.size ep) (hm:zcO s.heap d es ep) (hx:es[i]?=none)
  (hQ:∀ h',(∀ b o,b≠it->s.heap.get? b=some o->h'.get? b=some o)->Q none { s with heap:=h' }):wpAny (model prog w) A (pyNext (.ref it)) Q E s:=by
 obtain ⟨f0,f,f6,f7,hit,h0⟩:=hi
 obtain ⟨od,god,xod,dod⟩:=hm
 have ty:s.TypeIs (.ref it) "dict_itemiterator":=⟨_,hit,rfl⟩
 unfold pyNext
 refine wpAny_bind (wpAny_attempt ?_)
 refine wpAny_callSpecial?_slot (name:=Str.ofString "__next__") ty PySem.F.slot_dict_itemiterator_next ?_
 refine wpAny_call_entry PySem.F.slot_dict_itemiterator_next ty PySem.F.entry_dict_itemiterator_next ?_ (PySem.F.args_dict_itemiterator_next_1 _)
 refine wpAny_bind (wpAny_pure (wpAny_bind (wpAny_bind ?_)))
 refine wpAny_bind (wpAny_typeNameOfWhole_itemiter ty (wpAny_pure (wpAny_bind (wpAny_fieldsOf hit rfl ?_))))
 have ow:Builtin.Dict_items.ownsTuple "dict_itemiterator" = true:=by decide
 simp only [ow,if_true]
 show wpAny _ _ (if (Value.ref d == Value.none)=true then _ else _) _ _ _
 have nd:¬((Value.ref d == Value.none)=true):=Bool.false_ne_true
 rw [if_neg nd]
 refine wpAny_bind (wpAny_pure (wpAny_bind (wpAny_dictEntries god dod ?_)))
 rw [if_neg (by simp)]
 refine wpAny_bind (wpAny_pure (wpAny_bind (wpAny_dictEpoch god dod ?_)))
 rw [if_neg (by simp)]
 refine wpAny_pure ?_
 simp only [show ¬((i:Int)<0) from by lia,if_false,Int.toNat_natCast,hx]
 refine wpAny_bind (wpAny_bind (wpAny_typeNameOfWhole_itemiter ty (wpAny_pure ?_)))
 show wpAny _ _ (setField (.ref it) 2 .none >>= _) _ _ s
 refine wpAny_bind (wpAny_setField hit rfl (by simp) ?_)
 show wpAny _ _ (newExc (.type "StopIteration") [] >>= _) _ _ _
 refine wpAny_bind ?_
 simp only [newExc,newTuple]
 refine wpAny_bind (wpAny_newObj_type ?_ (by size_fits))
 refine wpAny_bind (m:=firstArgMember _ _) (wpAny_of_eq (a:=Value.none) (by first | rfl | (simp only [firstArgMember];rfl)) ?_)
 refine wpAny_newObj_type ?_ (by size_fits)
 simp only [raiseNew]
 refine wpAny_bind (wpAny_handled ?_)
 have hA1:A.in1.handled=none:=hA
 rw [hA1]
 refine wpAny_bind (wpAny_pure (wpAny_throw ?_))
 refine wpAny_bind (wpAny_isInstance (T:="StopIteration") (b:=true) ⟨_,Heap.get?_push_size _ rfl,rfl⟩ isSubtype_stop (wpAny_pure (hQ _ ?_)))
 exact (((Heap.SameBut.update ..).extBut.push _).push _)
theorem zjp {v d:Addr}{es:Array DictEntry}{ep:Nat}{Q:Value->Shared->Prop} (hv:s.heap.IsItemsView v d) (hm:zcO s.heap d es ep) (hQ:Q (.ref s.heap.objs.size) { s with heap:=s.heap.push (itO .none false d 0 es.size ep .none .none) }) :
  wpAny (model prog w) A (pyIter (.ref v)) Q E s:=by
 obtain ⟨ov,gv,cv,dv⟩:=id hv
 obtain ⟨od,god,xod,dod⟩:=hm
 refine wpAny_pyIter_slot hv.typeIs PySem.F.slot_dict_items_iter ?_
 refine wpAny_call_entry PySem.F.slot_dict_items_iter hv.typeIs PySem.F.entry_dict_items_iter ?_ (PySem.F.args_dict_items_iter_1 _)
 unfold Builtin.«dict_items.__iter__»
 refine wpAny_bind (wpAny_pure (wpAny_bind ?_))
 unfold Builtin.Dict_items.dictOf
 refine wpAny_bind (wpAny_field gv dv (x:=.ref d) rfl (wpAny_pure (wpAny_bind ?_)))
 unfold Builtin.Dict_items.newIterator
 refine wpAny_bind (wpAny_dictEntries god dod (wpAny_bind (wpAny_dictEpoch god dod ?_)))
 have ow:Builtin.Dict_items.ownsTuple "dict_itemiterator" = true:=by decide
 simp only [ow,if_true]
 refine wpAny_newObj_type (wpAny_pure ⟨_,rfl,"dict_itemiterator",_,⟨_,Heap.get?_push_size _ rfl,rfl⟩,PySem.F.slot_dict_itemiterator_next.lookup,?_⟩) ?_
 ·simpa [rawInt,Builtin.Dict_items.ownedTupleFields,itO] using hQ
 ·simp [sizeOk,Builtin.Dict_items.ownedTupleFields,sizeLine_eq]
theorem zhP {d:Addr}{es:Array DictEntry}{ep:Nat}{P:Fin->Shared->Prop} (hs:(d == sysModules)=false) (hm:zcO s.heap d es ep) (h:P (.done (.ret (.ref s.heap.objs.size))) { s with heap:=s.heap.push ⟨.type "dict_items",none,.fields #[.ref d],#[]⟩ }) :
  wpAny (model prog w) A (Builtin.«dict.items» ⟨[.ref d],[]⟩) P E s:=by
 obtain ⟨od,god,xod,dod⟩:=hm
 have ty:s.TypeIs (.ref d) "dict":=⟨od,god,xod.1⟩
 unfold Builtin.«dict.items»
 refine wpAny_bind ?_
 unfold Builtin.Dict.noArgs
 refine wpAny_bind (wpAny_notOrdered_dict ty ?_)
 show wpAny _ _ (pure d) _ _ s
 refine wpAny_pure ?_
 show wpAny _ _ (Builtin.Dict.showsAll d >>= _) _ _ s
 unfold Builtin.Dict.showsAll
 rw [hs,if_neg (by decide)]
 exact wpAny_bind (wpAny_pure (wpAny_bind (wpAny_newObj_type (wpAny_pure h))))
structure RawG (es:Array DictEntry) (lo:Addr) (h:Heap) (as:List Addr):Prop where
 above:∀ a∈as,lo<a
 pairs:∀ (j:Nat) (a:Addr),as[j]?=some a->∃ e,es[j]?=some e/\h.get? a=some ⟨.type "tuple",none,.seq #[e.key,e.val] 0,#[]⟩
theorem zgy {S I d:Addr}{es:Array DictEntry}{ep:Nat}{R:Result->Shared->Prop} (hA:A.handled=none) (hSI:S<I) (nS:d≠S) (nI:d≠I) (hn:es.size<=sizeLine) (res:Value) {h1:Heap}
  (hR:∀ h' tk acc c as,(∀ b o,b≠S->b≠I->h1.get? b=some o->h'.get? b=some o)->h'.get? S=some ⟨.type "list",none,.seq acc c,#[]⟩->as.length=es.size->RawG es I h' as->acc.toList=as.map Value.ref->R (.ok (.ret res)) { s with heap:=h',toks:=tk }) :
  ∀ (k i:Nat) (h:Heap) (tk c:Nat) (acc:Array Value) (as:List Addr),es.size - i=k->i<=es.size->zfN h I d i es.size ep->zcO h d es ep->(∀ b o,b≠S->b≠I->h1.get? b=some o->h.get? b=some o) ->
   h.get? S=some ⟨.type "list",none,.seq acc c,#[]⟩->acc.toList=as.map Value.ref->as.length=i->RawG es I h as->I<h.objs.size ->
   codeAny (model prog w) A (.builtin "list.extend.loop" ⟨[.ref S,.ref I,res],[]⟩) R { s with heap:=h,toks:=tk }
 | 0,i,h,tk,c,acc,as,hk,hi,it,D,kp,hS,ea,al,G,Is=>by
  refine codeAny_builtin PySem.F.entry_extend_loop ?_
  rw [Around.under_plainId PySem.F.plain_extend_loop _]
  show wpAny _ A.in1 (pyNext (.ref I) >>= _) _ _ _
  refine wpAny_bind (zk0 (s:={ s with heap:=h,toks:=tk }) (A:=A.in1) hA it D (Array.getElem?_eq_none (by lia)) fun h' x=>wpAny_pure ?_)
  refine hR h' tk acc c as (fun b o n1 n2 e=>x b o n2 (kp b o n1 n2 e)) (x S _ (Nat.ne_of_lt hSI) hS) (by lia) ⟨G.above,fun j a hj=>?_⟩ ea
  obtain ⟨e,e1,e2⟩:=G.pairs j a hj
  exact ⟨e,e1,x a _ (Nat.ne_of_gt (G.above a (List.mem_of_getElem? hj))) e2⟩
 | k+1,i,h,tk,c,acc,as,hk,hi,it,D,kp,hS,ea,al,G,Is=>by
  have lt:i<es.size:=by lia
  have sa:acc.size=i:=by rw [<- Array.length_toList,ea,List.length_map,al]
  have ne:=Nat.ne_of_lt hSI
  refine codeAny_builtin PySem.F.entry_extend_loop ?_
  rw [Around.under_plainId PySem.F.plain_extend_loop _]
  show wpAny _ A.in1 (pyNext (.ref I) >>= _) _ _ _
  refine wpAny_bind (zjq (s:={ s with heap:=h,toks:=tk }) it D (Array.getElem?_eq_getElem lt) fun h' it' t' z' k'=>?_)
  dsimp only at t' z' k' ⊢
  have S':=k' S _ ne hS
  have lS:S<h.objs.size:=Heap.lt_size hS
  obtain ⟨u,eu⟩:∃ u,u=h'.update S (Obj.mapSeq (·.push (Value.ref h.objs.size))):=⟨_,rfl⟩
  have up:∀ b o,b≠S->h'.get? b=some o->u.get? b=some o:=fun b o nb e=>by rw [eu];exact (Heap.get?_update_other _ _ (Ne.symm nb)).trans e
  obtain ⟨c',Su⟩:∃ c',u.get? S=some ⟨.type "list",none,.seq (acc.push (Value.ref h.objs.size)) c',#[]⟩:=⟨_,by rw [eu];exact Heap.get?_update_self (Obj.mapSeq (·.push (Value.ref h.objs.size))) S' rfl⟩
  show wpAny _ A.in1 (updateSeq S (·.push (Value.ref h.objs.size)) >>= _) _ _ _
  refine wpAny_bind (wpAny_updateSeq S' rfl (wpAny_pure ⟨plainId_quiet PySem.F.plain_extend_loop _,?_⟩) (by lia) (by rw [Array.size_push];lia))
  rw [<- eu]
  have tu:=up _ _ (Nat.ne_of_gt lS) t'
  refine zgy hA hSI nS nI hn res hR k (i+1) u tk c' (acc.push (Value.ref h.objs.size)) (as++[h.objs.size]) (by lia) lt (it'.keep fun o e=>up I o (Ne.symm ne) e) (D.keep fun o e=>up d o nS (k' d o nI e)) (fun b o n1 n2 e=>up b o n1 (k' b o n2 (kp b o n1 n2 e))) Su ?_ (by simp [al]) ⟨?_,?_⟩ (Nat.lt_trans Is (Heap.lt_size tu))
  ·rw [Array.toList_push,ea,List.map_append];rfl
  ·intro a ha
   rcases List.mem_append.mp ha with ha | ha
   ·exact G.above a ha
   ·cases List.mem_singleton.mp ha;exact Is
  ·intro j b hj
   rcases Nat.lt_or_ge j as.length with z | z
   ·rw [List.getElem?_append_left z] at hj
    obtain ⟨e,e1,e2⟩:=G.pairs j b hj
    have ab:=G.above b (List.mem_of_getElem? hj)
    exact ⟨e,e1,up b _ (Nat.ne_of_gt (Nat.lt_trans hSI ab)) (k' b _ (Nat.ne_of_gt ab) e2)⟩
   ·rw [List.getElem?_append_right z] at hj
    have:j - as.length=0:=by
     rcases Nat.eq_zero_or_pos (j - as.length) with y | y
     ·exact y
     ·rw [List.getElem?_eq_none (by simp;lia)] at hj;cases hj
    rw [this] at hj
    cases hj
    have:j=i:=by lia
    subst this
    exact ⟨_,Array.getElem?_eq_getElem lt,tu⟩
end
end L2
namespace L2
open PySem PySem.Spec PyProof PyProof.Rows
section
variable {prog:Program}{w:World}{A:Around}{E:Value->Shared->Prop}{s:Shared}
theorem zjr {S v d:Addr}{es:Array DictEntry}{ep:Nat}{R:Result->Shared->Prop} (hA:A.handled=none) (hv:s.heap.IsItemsView v d) (hm:zcO s.heap d es ep) (hn:es.size<=sizeLine) (nv:S≠v) (nd:d≠S) (hS:s.heap.get? S=some ⟨.type "list",none,.seq #[] 0,#[]⟩)
  (h:∀ h' tk acc c as,(∀ b o,b≠S->s.heap.get? b=some o->h'.get? b=some o)->h'.get? S=some ⟨.type "list",none,.seq acc c,#[]⟩->as.length=es.size->RawG es s.heap.objs.size h' as->acc.toList=as.map Value.ref->R (.ok (.ret (.ref S))) { s with heap:=h',toks:=tk }) :
  codeAny (model prog w) A (.builtin "list.__iadd__" ⟨[.ref S,.ref v],[]⟩) R s:=by
 have lS:S<s.heap.objs.size:=Heap.lt_size hS
 have ld:=hm.lt
 obtain ⟨ov,gv,cv,dv⟩:=id hv
 refine codeAny_builtin entry_list_iadd' ?_
 show wpAny (model prog w) _ (Builtin.List.listExtendWith (.ref S) (.ref v) (.ref S)) _ _ s
 rw [Around.under_plainId PySem.F.plain_list_iadd _]
 obtain ⟨u,eu⟩:∃ u,u=s.heap.push (itO .none false d 0 es.size ep .none .none):=⟨_,rfl⟩
 have ui:u.get? s.heap.objs.size=some (itO .none false d 0 es.size ep .none .none):=by rw [eu];exact Heap.get?_push_size _ rfl
 have uk:∀ b o,s.heap.get? b=some o->u.get? b=some o:=fun b o e=>by rw [eu];exact Heap.get?_push_of_some _ e
 have loop:∀ (h:Heap) (c tk:Nat),(∀ b o,b≠S->u.get? b=some o->h.get? b=some o)->h.get? S=some ⟨.type "list",none,.seq #[] c,#[]⟩->codeAny (model prog w) A (.builtin "list.extend.loop" ⟨[.ref S,.ref s.heap.objs.size,.ref S],[]⟩) R { s with heap:=h,toks:=tk }:=fun h1 c tk hk hS1=>by
  have I1:=hk _ _ (Nat.ne_of_gt lS) ui
  exact zgy (es:=es) (ep:=ep) (s:=s) (h1:=s.heap) hA lS nd (Nat.ne_of_lt ld) hn (.ref S) (fun h' tk' acc c as k' S' l' G' a'=>h h' tk' acc c as (fun b o nb e=>k' b o nb (Nat.ne_of_lt (Heap.lt_size e)) e) S' l' G' a') es.size 0 h1 tk c #[] [] (Nat.sub_zero _) (Nat.zero_le _)
   ⟨_,_,_,_,I1,.inl rfl⟩ (hm.keep fun o e=>hk d o nd (uk d o e)) (fun b o n1 _ e=>hk b o n1 (uk b o e)) hS1 rfl rfl ⟨(fun _ ha=>nomatch ha),(fun j a hj=>by simp at hj)⟩ (Heap.lt_size I1)
 unfold Builtin.List.listExtendWith
 refine wpAny_bind (wpAny_typeOf (T:="dict_items") hv.typeIs ?_)
 have c1:Builtin.List.listSameRef (.ref S) (.ref v)=false:=by simp [Builtin.List.listSameRef,nv]
 have c2:(Value.type "dict_items" == Value.type "list" || Value.type "dict_items" == Value.type "tuple")=false:=by decide
 rw [c1,Bool.false_or,c2,if_neg (by decide)]
 refine wpAny_bind (zjp hv hm ?_)
 rw [<- eu]
 have Su:=uk S _ hS
 refine wpAny_bind (wpAny_holding (PySem.W.kdx_hint ⟨ov,uk v ov gv,cv⟩ ?_))
 refine wpAny_ite_split (fun _=>wpAny_bind (wpAny_rule (wpAny_bind ?_))) (fun _=>wpAny_pure ⟨plainId_quiet PySem.F.plain_extend_loop _,loop u 0 _ (fun b o _ e=>e) Su⟩)
 show wpAny _ _ (updateSeq S (·.push .none) >>= fun _=>updateSeq S (·.pop)) _ _ _
 refine wpAny_bind (wpAny_updateSeq Su rfl ?_)
 have S2:=Heap.get?_update_self (Obj.mapSeq (·.push Value.none)) Su rfl
 refine wpAny_updateSeq (hz:=by seq_fits) S2 rfl ?_
 have S3:=Heap.get?_update_self (Obj.mapSeq (·.pop)) S2 rfl
 refine wpAny_pure ⟨plainId_quiet PySem.F.plain_extend_loop _,loop _ _ _ (fun b o nb e=>?_) S3⟩
 rw [Heap.get?_update_other _ _ (Ne.symm nb),Heap.get?_update_other _ _ (Ne.symm nb)]
 exact e
theorem zfR {v d:Addr}{es:Array DictEntry}{ep:Nat}{Q:List Value->Shared->Prop} (hA:A.handled=none) (hv:s.heap.IsItemsView v d) (hm:zcO s.heap d es ep) (hn:es.size<=sizeLine)
  (h:∀ h' tk (as:List Addr),(∀ b o,s.heap.get? b=some o->h'.get? b=some o)->s.heap.objs.size<=h'.objs.size->as.length=es.size->RawG es s.heap.objs.size h' as->Q (as.map Value.ref) { s with heap:=h',toks:=tk }):wpAny (model prog w) A (collect (.ref v)) Q E s:=by
 unfold collect
 refine wpAny_bind (wpAny_runValue (codeAny_builtin entry_proto_collect' ?_))
 show wpAny (model prog w) _ (newList [] >>= fun x=>again (.builtin "list.__iadd__" ⟨[x,.ref v],[]⟩)) _ _ s
 have ld:=hm.lt
 obtain ⟨ov,gv,cv,dv⟩:=id hv
 have lv:=Heap.lt_size gv
 refine wpAny_bind (wpAny_newList (wpAny_pure ⟨Code.quiet_builtin _ (by decide +kernel),?_⟩))
 refine zjr (es:=es) (ep:=ep) (d:=d) hA ⟨ov,Heap.get?_push_of_some _ gv,cv,dv⟩ (hm.keep fun o e=>Heap.get?_push_of_some _ e) hn (Nat.ne_of_gt lv) (Nat.ne_of_lt ld) (Heap.get?_push_size _ rfl) fun h' tk acc c as kp hS l G ea=>?_
 refine wpAny_bind (m:=load s.heap.objs.size) (wpAny_load hS ?_)
 show wpAny (model prog w) A (pure acc.toList) Q E _
 rw [ea]
 refine wpAny_pure (h h' tk as (fun b o e=>kp b o (Nat.ne_of_lt (Heap.lt_size e)) (Heap.get?_push_of_some _ e)) (Nat.le_of_lt (Heap.lt_size hS)) l ⟨fun a ha=>?_,G.pairs⟩)
 have:=G.above a ha
 dsimp only at this
 rw [Heap.size_push] at this
 exact Nat.lt_of_succ_lt this
end
end L2
namespace L2
open PySem PySem.Spec PyProof PyProof.Rows
section
variable {prog:Program}{w:World}{A:Around}{E:Value->Shared->Prop}{s:Shared}
def RlIn (h:Heap) (u:Value) (r:(Int×Int)×Int):Prop:=∃ (a p:Addr) (o:Obj) (t:Tok) (n:Nat),u=.ref a/\h.get? a=some o/\o.cls=.type "tuple" /\ o.data=.seq #[.ref p,.int r.2 t] n/\PrIn h (.ref p) r.1.1 r.1.2
def rkL:List Value->Heap->Int
 | [p,.int s _],h=>rkC h p*2+s
 | _,_=>0
def rkR (h:Heap) (u:Value):Int:=match u with
 | .ref a=>match h.get? a with
  | some o=>match o.data with
   | .seq xs _=>rkL xs.toList h
   | _=>0
  | none=>0
 | _=>0
def rkn (r:(Int×Int)×Int):Int:=(r.1.1*1000+r.1.2)*2+r.2
theorem RlIn.rk {h:Heap}{u:Value}{r:(Int×Int)×Int} (p:RlIn h u r):rkR h u=rkn r:=by
 obtain ⟨a,q,o,t,n,rfl,e1,_,e2,e3⟩:=p
 simp only [rkR,e1,e2,rkL,e3.rk,rkn]
theorem RlIn.kept {h h':Heap}{u:Value}{r:(Int×Int)×Int} (p:RlIn h u r) (kp:∀ b o,h.get? b=some o->h'.get? b=some o):RlIn h' u r:=by
 obtain ⟨a,q,o,t,n,e0,e1,e2,e3,e4⟩:=p
 exact ⟨a,q,o,t,n,e0,kp _ _ e1,e2,e3,e4.kept kp⟩
theorem PrIn.tk {h:Heap}{p:Addr}{b k:Int} (x:PrIn h (.ref p) b k):IsTupleKey (zal prog w) h [.inl b,.inl k] p:=by
 obtain ⟨a,o,t,t',n,e0,e1,e2,e3⟩:=x
 cases e0
 exact ⟨o,_,n,e1,e2,e3,.cons (zdq b t) (.cons (zdq k t') .nil)⟩
theorem zlQ {p q:Addr}{b k b' k':Int} (hu:A.units<cLine) (x:PrIn s.heap (.ref p) b k) (y:PrIn s.heap (.ref q) b' k'):SeqAt.EqAt A s (.ref p) (.ref q) (decide (b=b'/\k=k')):=fun prog w E Q h=>by
 refine wpAny_eqBool_tuple (knd:=zal prog w) hu x.tk y.tk ?_
 have:decide (([Sum.inl b,Sum.inl k]:List Key)=[Sum.inl b',Sum.inl k'])=decide (b=b'/\k=k'):=by
  rw [decide_eq_decide]
  constructor
  ·intro z;cases z;exact ⟨rfl,rfl⟩
  ·rintro ⟨rfl,rfl⟩;rfl
 rw [this];exact h
theorem zlu {p q:Addr}{b k b' k':Int} (hu:A.units<cLine) (x:PrIn s.heap (.ref p) b k) (y:PrIn s.heap (.ref q) b' k'):LtAt prog w A s false (.ref p) (.ref q) (HT.lexLt [b,k] [b',k']):=fun E Q h=>by
 obtain ⟨a,o,t,t',n,e0,e1,e2,e3⟩:=x
 obtain ⟨a',o',u,u',n',f0,f1,f2,f3⟩:=y
 cases e0;cases f0
 rw [oneLt'_eq]
 simp only [Bool.false_eq_true,if_false]
 refine wpAny_bind (show wpAny (model prog w) A (compareOp .Lt (.ref p) (.ref q)) _ E s from HT.zdT ⟨o,e1,e2,n,e3⟩ ⟨o',f1,f2,n',f3⟩ (.cons _ _ (.cons _ _ .nil)) (.cons _ _ (.cons _ _ .nil)) hu ?_)
 exact wpAny_truthy_bool h
theorem zhi {vs:List Value}{Q:SortKind->Shared->Prop} (h1:1<=vs.length) (hp:∀ v∈vs,∃ r,RlIn s.heap v r) (h:Q (tuples' false) s):wpAny (model prog w) A (keyKind' vs.toArray) Q E s:=by
 rw [keyKind'_eq,List.mapM_toArray,map_eq_pure_bind]
 refine wpAny_bind (wpAny_bind (zei (P:=fun _ r=>∃ (p:Addr) (o:Obj),r=some (.ref p)/\s.heap.get? p=some o/\o.cls=.type "tuple") vs (fun v hv Q' hq=>?_) fun rs hrs=>wpAny_pure ?_))
 ·obtain ⟨r,a,p,o,t,n,rfl,e1,e2,e3,a',o',t1,t2,n',e4,e5,e6,e7⟩:=hp v hv
  cases e4
  rw [zj1]
  refine wpAny_bind (wpAny_typeOf (T:="tuple") ⟨o,e1,e2⟩ ?_)
  rw [if_neg (by decide)]
  exact wpAny_bind (listItems_at e1 e3 (wpAny_pure (hq _ ⟨p,o',rfl,e5,e6⟩)))
 ·have al:∀ r∈rs,∃ (p:Addr) (o:Obj),r=some (.ref p)/\s.heap.get? p=some o/\o.cls=.type "tuple":=fun r hr=>by
   obtain ⟨_,_,h⟩:=zbd hrs hr
   exact h
  have ln:rs.length=vs.length:=(Paired.length hrs).symm
  have hall:(rs.toArray.all fun x=>x.isSome)=true:=by
   rw [List.all_toArray,List.all_eq_true]
   intro x hx
   obtain ⟨p,o,rfl,_⟩:=al x hx
   rfl
  rw [if_pos hall]
  refine wpAny_bind (wpAny_rule ?_)
  rw [oneTypeOnly'_eq]
  have hfm:rs.toArray.filterMap id=(rs.filterMap id).toArray:=by simp
  rw [hfm,List.mapM_toArray,map_eq_pure_bind]
  refine wpAny_bind (wpAny_bind (wpAny_bind (zei (P:=fun _ r=>r=Value.type "tuple") _ (fun v hv Q' hq=>?_) fun ts hts=>wpAny_pure ?_)))
  ·obtain ⟨x,hx,e⟩:=List.mem_filterMap.mp hv
   obtain ⟨p,o,rfl,g,c⟩:=al x hx
   cases e
   exact wpAny_typeOf (T:="tuple") ⟨o,g,c⟩ (hq _ rfl)
  ·have al2:∀ r∈ts,r=Value.type "tuple":=fun r hr=>by
    obtain ⟨_,_,h⟩:=zbd hts hr
    exact h
   cases ts with
   | nil=>exact wpAny_pure (wpAny_pure h)
   | cons r1 rr =>
    have e1:r1=Value.type "tuple":=al2 r1 (.head _)
    subst e1
    have hall2:(((Value.type "tuple")::rr).toArray.all fun x=>x == Value.type "tuple")=true:=by
     rw [List.all_toArray,List.all_eq_true]
     intro x hx
     rw [al2 x hx];rfl
    have h0:((Value.type "tuple")::rr).toArray[0]?=some (Value.type "tuple"):=by simp
    rw [h0]
    simp only [hall2,if_true]
    refine wpAny_pure (wpAny_pure ?_)
    exact h
theorem zh7 {a b c d:Int}:HT.lexLt [a,b] [c,d]=decide (a<c\/(a=c/\b<d)):=by
 have e:HT.lexLt [a,b] [c,d]=if a=c then (if b=d then false else decide (b<d)) else decide (a<c):=rfl
 rw [e]
 split
 ·rename_i h
  subst h
  split
  ·symm;rw [decide_eq_false_iff_not];lia
  ·rw [decide_eq_decide];lia
 ·rw [decide_eq_decide];lia
theorem zdp {vs:List Value}{h0:Heap} (hu:A.units<cLine) (hp:∀ v∈vs,∃ r,RlIn s.heap v r/\rkR h0 v=rkn r/\0<=r.1.2/\r.1.2<1000/\0<=r.2/\r.2<=1):Kinds prog w A s (rkR h0) vs:=fun h2=>by
 refine ⟨tuples' false,fun E Q q=>zhi (by lia) (fun v hv=>?_) q,fun p q E Q mp mq h=>?_⟩
 ·obtain ⟨r,h,_⟩:=hp v hv
  exact ⟨r,h⟩
 ·have mem:∀ z∈(pairsOf vs).toList,z.1∈vs:=fun z hz=>by
   have:z∈vs.zip vs:=by simpa [pairsOf] using hz
   exact (List.of_mem_zip this).1
  obtain ⟨⟨⟨b,k⟩,g⟩,⟨a,x,o,t,n,e0,e1,e2,e3,e4⟩,r1,k0,k1,g0,g1⟩:=hp _ (mem p mp)
  obtain ⟨⟨⟨b',k'⟩,g'⟩,⟨a',x',o',t',n',f0,f1,f2,f3,f4⟩,r2,k0',k1',g0',g1'⟩:=hp _ (mem q mq)
  rw [r1,r2] at h
  rw [e0,f0]
  refine zik e1 e3 f1 f3 (zlQ hu e4 f4) (SeqAt.EqAt.int_int g t g' t') (fun _=>zlu hu e4 f4) (fun _=>zjL g g' t t') ?_
  have lx:HT.lexLt [b,k] [b',k']=decide (b<b'\/(b=b'/\k<k')):=zh7
  have n1:rkn ((b,k),g)=(b*1000+k)*2+g:=rfl
  have n2:rkn ((b',k'),g')=(b'*1000+k')*2+g':=rfl
  have:(if decide (b=b'/\k=k')=true then (if (g == g')=true then false else decide (g<g')) else HT.lexLt [b,k] [b',k'])=decide (rkn ((b,k),g)<rkn ((b',k'),g')):=by
   rw [lx]
   simp only [beq_iff_eq,decide_eq_true_eq]
   dsimp only at k0 k1 k0' k1' g0 g1 g0' g1'
   split
   ·split
    ·symm;rw [decide_eq_false_iff_not];lia
    ·rw [decide_eq_decide];lia
   ·rw [decide_eq_decide];lia
  rw [this];exact h
end
end L2
namespace L2
open PySem PySem.Spec PyProof PyProof.Rows
theorem zgv {α:Type}{P:α->Value->Prop}{rk:Value->Int}{f:α->Int}{vs:List Value}{as:List α}{y:SortSt} (hv:Paired P as vs) (hr:∀ a v,P a v->rk v=f a) (pm:(arrOf y).Perm (pairsOf vs)) (up:Up rk (arrOf y) vs.length) :
  ∃ bs:List α,bs.Perm as/\bs.Pairwise (fun a b=>f a<=f b)/\Paired P bs ((arrOf y).map (·.2)).toList:=by
 have pml:(arrOf y).toList.Perm (vs.zip vs):=by
  have:=Array.perm_iff_toList_perm.mp pm
  simpa [pairsOf] using this
 have hl:as.length=vs.length:=Paired.length hv
 have each:∀ x∈as.zip vs,P x.1 x.2:=by
  clear pm up pml hl
  induction hv with
  | nil=>intro x hx;simp at hx
  | cons h t ih =>
   intro x hx
   rcases List.mem_cons.mp (by simpa using hx) with rfl | hx
   ·exact h
   ·exact ih x hx
 have pm1:((arrOf y).toList.map (·.2)).Perm ((as.zip vs).map (·.2)):=by
  refine (pml.map _).trans ?_
  rw [List.map_snd_zip (Nat.le_refl _),List.map_snd_zip (by lia)]
 obtain ⟨ws,p1,p2⟩:=zjA pm1
 have eachw:∀ x∈ws,P x.1 x.2:=fun x hx=>each x (p1.mem_iff.mp hx)
 have fst_snd:∀ z∈(arrOf y).toList,z.1=z.2:=fun z hz=>by
  have:z∈vs.zip vs:=pml.mem_iff.mp hz
  obtain ⟨i,hi,rfl⟩:=List.getElem_of_mem this
  simp
 have szy:(arrOf y).size=vs.length:=by
  have:=pml.length_eq
  simpa using this
 refine ⟨ws.map (·.1),?_,?_,?_⟩
 ·have:=p1.map (·.1)
  rwa [List.map_fst_zip (by lia)] at this
 ·rw [List.pairwise_map,List.pairwise_iff_getElem]
  intro i j hi hj hij
  have lw:ws.length=vs.length:=by
   have:=congrArg List.length p2
   simpa [szy] using this
  have gw:∀ k (hk:k<ws.length),rkAt rk (arrOf y) k=f ws[k].1:=fun k hk=>by
   have hk':k<(arrOf y).size:=by lia
   have e1:(arrOf y).toList[k]'(by simpa using hk')=(arrOf y)[k]:=by simp
   have e2:ws[k].2=(arrOf y)[k].2:=by
    have:(ws.map (·.2))[k]'(by simpa using hk)=((arrOf y).toList.map (·.2))[k]'(by simpa using hk'):=by simp only [p2]
    simpa using this
   have e3:(arrOf y)[k].1=(arrOf y)[k].2:=fst_snd _ (by rw [<- e1];exact List.getElem_mem _)
   unfold rkAt
   rw [Array.getElem?_eq_getElem hk']
   simp only [Option.map_some,Option.getD_some]
   rw [e3,<- e2]
   exact hr _ _ (eachw _ (List.getElem_mem _))
  have:=up i j hij (by lia)
  rwa [gw i hi,gw j hj] at this
 ·rw [Array.toList_map,<- p2]
  clear p1 p2 pm1 pm up
  induction ws with
  | nil=>exact .nil
  | cons a l ih=>exact .cons (eachw a (.head _)) (ih fun x hx=>eachw x (.tail _ hx))
def zhu:Value->V
 | .none=>.non
 | .bool b=>.bl b
 | .int i _=>.int i
 | .str x _=>.str x
 | .bytes b _=>.byt b
 | .float b _=>.flt b
 | .ref a=>.ref a
 | .type n=>.ty n
 | _=>.non
theorem zgx {v:V}{u:Value} (h:RelV v u):zhu u=v:=by
 cases v with
 | non=>cases (show u=_ from h);rfl
 | bl b=>cases (show u=_ from h);rfl
 | int i=>obtain ⟨t,rfl⟩:=(show ∃ t,u=_ from h);rfl
 | str i=>obtain ⟨t,rfl⟩:=(show ∃ t,u=_ from h);rfl
 | byt i=>obtain ⟨t,rfl⟩:=(show ∃ t,u=_ from h);rfl
 | flt i=>obtain ⟨t,rfl⟩:=(show ∃ t,u=_ from h);rfl
 | ref a=>cases (show u=_ from h);rfl
 | ty n=>cases (show u=_ from h);rfl
section
variable {X:Cx}{pins:List (Addr×Obj)}{σ:St}{H:Hp}{s:Shared}
def layT (h':Heap) (n:Nat) (as:List Addr) (H:Hp):Hp:=fun b=>if n<=b/\b∈as then (match h'.get? b with | some o=>(match o.data with | .seq its _=>some (.tup (its.toList.map zhu)) | _=>none) | none=>none) else H b
theorem zgL {h':Heap}{n:Nat}{as:List Addr}{H:Hp}{b:Addr} (h:b<n):layT h' n as H b=H b:=by
 unfold layT
 rw [if_neg (fun z=>absurd z.1 (Nat.not_le.mpr h))]
theorem Inv.lays {h':Heap}{t':Nat}{as:List Addr}{l:Addr}{vs:List V} (I:Inv X pins σ H s) (k:∀ b u,s.heap.get? b=some u->h'.get? b=some u)
  (new:∀ a∈as,s.heap.objs.size<=a->∃ (xs:List V) (its:List Value) (n:Nat),h'.get? a=some ⟨.type "tuple",none,.seq its.toArray n,#[]⟩/\Vals xs its/\xs.length<=sizeLine) (hl:s.heap.objs.size<=l)
  (nl:vs.length<=sizeLine/\∃ (its:List Value) (n:Nat),Vals vs its/\h'.get? l=some (seqObj "list" its.toArray n)) :
  Inv X pins σ (upd (layT h' s.heap.objs.size as H) l (.lst vs)) { s with heap:=h',toks:=t' }:=by
 have old:∀ b,b<s.heap.objs.size->upd (layT h' s.heap.objs.size as H) l (.lst vs) b=H b:=fun b hb=>by rw [zam (Nat.ne_of_lt (Nat.lt_of_lt_of_le hb hl))];exact zgL hb
 have keep:∀ b o,H b=some o->upd (layT h' s.heap.objs.size as H) l (.lst vs) b=some o:=fun b o e=>by rw [old b ((I.hok b o e).lt)];exact e
 refine I.un ⟨fun b u q _ _ _=>k b u q,fun b u q _ _ _=>⟨u.slots,k b u q⟩,fun b u q n _=>by rw [old b (Heap.lt_size q)];exact n,fun b u q _=>⟨u,k b u q⟩,fun b xs q=>keep b _ q,fun b o u q=>keep b _ q,fun b ps q=>⟨#[],by rw [keep b _ q];simp⟩⟩ ?_
 intro b o e
 by_cases y:b=l
 ·subst y
  rw [zao] at e
  cases e
  obtain ⟨z,its,n,r,g⟩:=nl
  exact ⟨z,its,n,r,g⟩
 rw [zam y] at e
 by_cases z:s.heap.objs.size<=b/\b∈as
 ·obtain ⟨xs,its,n,g,r,l⟩:=new b z.2 z.1
  have:layT h' s.heap.objs.size as H b=some (.tup (its.map zhu)):=by
   unfold layT
   rw [if_pos z,g]
  rw [this] at e
  cases e
  have em:its.map zhu=xs:=by
   clear g l this
   induction r with
   | nil=>rfl
   | cons h t ih=>rw [List.map_cons,ih,zgx h]
  rw [em]
  exact ⟨l,its,r,_,g,rfl,⟨n,rfl⟩,rfl⟩
 ·have e':H b=some o:=by
   have:layT h' s.heap.objs.size as H b=H b:=by unfold layT;rw [if_neg z]
   rw [<- this];exact e
  exact (I.hok b o e').stay (fun c u _ q=>k c u q) (fun c q=>keep c _ q) fun c xs q=>keep c _ q
end
section
variable {prog:Program}{w:World}{A:Around}{E:Value->Shared->Prop}{s:Shared}{rk:Value->Int}
theorem zdn {h:Heap}{vs:List Value}{b:Addr}{o:Obj} (hb:h.get? b=some o):(midH (h.push (seqObj "list" vs.toArray 0)) h.objs.size vs).get? b=some o:=by
 have hlt:b<h.objs.size:=Heap.lt_size hb
 unfold midH
 rw [Heap.get?_push_ne _ _ _ (by rw [size_push',Heap.size_update,size_push'];lia),Heap.get?_push_ne _ _ _ (by rw [Heap.size_update,size_push'];lia),Heap.get?_update_ne _ _ _ _ (Nat.ne_of_lt hlt),Heap.get?_push_ne _ _ _ (Nat.ne_of_lt hlt)]
 exact hb
theorem zhE {vs:List Value}{P:Value->Shared->Prop} (h64:vs.length<100000) (hk:Kinds prog w A { s with heap:=midH (s.heap.push (seqObj "list" vs.toArray 0)) s.heap.objs.size vs } rk vs)
  (h:∀ h' (y:SortSt) (e:Nat),(∀ b o,s.heap.get? b=some o->h'.get? b=some o)->(arrOf y).Perm (pairsOf vs)->Up rk (arrOf y) vs.length->h'.get? s.heap.objs.size=some (seqObj "list" ((arrOf y).map (·.2)) e)->P .none { s with heap:=h' }) :
  wpAny (model prog w) A (Builtin.«list.sort» ⟨[.ref s.heap.objs.size],[]⟩) (fun f s'=>∃ v,f=.done (.ret v)/\P v s') E { s with heap:=s.heap.push (seqObj "list" vs.toArray 0) }:=by
 have o3:(s.heap.push (seqObj "list" vs.toArray 0)).get? s.heap.objs.size=some (seqObj "list" vs.toArray 0):=Heap.get?_push_size _ rfl
 refine zjM (s:={ s with heap:=s.heap.push (seqObj "list" vs.toArray 0) }) o3 h64 hk fun y p1 p2=>⟨_,rfl,?_⟩
 obtain ⟨e,he⟩:=sortedHeap_at (out:=(arrOf y).map (·.2)) o3
 refine h _ y e (fun b o hb=>?_) p1 p2 he
 have lt:=Heap.lt_size hb
 rw [sortedHeap_old (Nat.ne_of_lt lt) (by rw [size_push'];exact Nat.lt_succ_of_lt lt),Heap.get?_push_ne _ _ _ (Nat.ne_of_lt lt)]
 exact hb
end
end L2
namespace L2
open PySem PySem.Spec PyProof PyProof.Rows
section
variable {prog:Program}{w:World}{A:Around}{E:Value->Shared->Prop}{s:Shared}{rk:Heap->Value->Int}
theorem zdL {x:Value}{C:Heap->Nat->List Value->Prop}{Q:Value->Shared->Prop} (hcol:∀ (A':Around) (E':Value->Shared->Prop) (Q':List Value->Shared->Prop),A'.handled=A.handled->(∀ h' tk vs,C h' tk vs->Q' vs { s with heap:=h',toks:=tk })->wpAny (model prog w) A' (collect x) Q' E' s)
  (h64:∀ h' tk vs,C h' tk vs->vs.length<100000)
  (hk:∀ h' tk vs (A':Around),C h' tk vs->A'.units<=A.units+16->Kinds prog w A' { s with heap:=midH (h'.push (seqObj "list" vs.toArray 0)) h'.objs.size vs,toks:=tk } (rk h') vs)
  (h:∀ h' tk vs h2 (y:SortSt) (e:Nat),C h' tk vs->(∀ b o,h'.get? b=some o->h2.get? b=some o)->(arrOf y).Perm (pairsOf vs)->Up (rk h') (arrOf y) vs.length->h2.get? h'.objs.size=some (seqObj "list" ((arrOf y).map (·.2)) e)->Q (.ref h'.objs.size) { s with heap:=h2,toks:=tk }) :
  wpAny (model prog w) A (call (.builtin "sorted") [x]) Q E s:=by
 have hs:100000<=sizeLine:=by decide
 refine Calls.call_function_entry kind_sorted plain_sorted entry_sorted (args_sorted1 _) ?_
 unfold Builtin.«sorted»
 refine wpAny_bind (m:=checkCount "sorted" 1 1 _) (wpAny_pure (wpAny_bind (hcol _ _ _ rfl fun h' tk vs c=>?_)))
 have l64:=h64 h' tk vs c
 refine wpAny_bind (wpAny_newList (hsz:=by show vs.toArray.size<=_;rw [List.size_toArray];lia) ?_)
 have o3:(h'.push (seqObj "list" vs.toArray 0)).get? h'.objs.size=some (seqObj "list" vs.toArray 0):=Heap.get?_push_size _ rfl
 refine wpAny_bind (wpAny_holding (wpAny_call_entry slot_list_sort ⟨_,o3,rfl⟩ entry_list_sort ?_ (args_list_sort _)))
 refine zhE (s:={ s with heap:=h',toks:=tk }) l64 (hk h' tk vs _ c (by show A.units+1+1<=_;lia)) fun h2 y e kp p1 p2 he=>?_
 exact wpAny_pure ⟨_,rfl,h h' tk vs h2 y e c kp p1 p2 he⟩
end
def VWO (v a:Addr):HO:=.ext fun h=>h.get? v=some ⟨.type "dict_items",none,.fields #[.ref a],#[]⟩
def zR (z:(Int×Int)×Addr×V):(Int×Int)×Int:=(z.1,match z.2.2 with | .int s=>s | _=>0)
def ZRl (K:PySem.W.Frag) (H:Hp) (z:(Int×Int)×Addr×V):Prop:=SqT K H z.2.1 [.int z.1.1,.int z.1.2]/\0<=z.1.2/\z.1.2<1000/\∃ s,z.2.2=.int s/\0<=s/\s<=1
section
variable {X:Cx}
theorem zmv {pins:List (Addr×Obj)}{σ:St}{H:Hp}{s:Shared}{q:Addr}{b k:Int} (I:Inv X pins σ H s) (h:SqT X.K H q [.int b,.int k]):PrIn s.heap (.ref q) b k:=by
 obtain ⟨is,rs,⟨o,f1,f2,n,f3⟩,_⟩:=I.tuple h
 cases rs with
 | cons a1 a2 =>
  cases a2 with
  | cons a3 a4 =>
   cases a4
   obtain ⟨t,rfl⟩:=a1
   obtain ⟨t',rfl⟩:=a3
   exact ⟨q,o,t,t',n,rfl,f1,f2,f3⟩
theorem zfw (hc:X.calm=true) (hu:X.A.units+64<cLine):zbG X (.builtin "sorted") (fun xs H Q=>∃ (v a:Addr) (zs:ZT),xs=[.ref v]/\H v=some (VWO v a)/\H a=some (ZDO a zs)/\zs.length<100000/\(∀ z∈zs,ZRl X.K H z) /\
  ∀ (ws:List (((Int×Int)×Addr×V)×Addr)) (l:Addr) (H':Hp),(ws.map (·.1)).Perm zs->ws.Pairwise (fun a b=>rkn (zR a.1)<=rkn (zR b.1))->Same H H'->H l=none->(∀ x∈ws,H x.2=none/\H' x.2=some (.tup [.ref x.1.2.1,x.1.2.2]))->H' l=some (.lst (ws.map fun x=>.ref x.2))->Q (.ref l) H'):=by
 intro pins s σ H xs us Q I r h
 obtain ⟨v,a,zs,rfl,hv,ha,hz,hr,q⟩:=h
 obtain ⟨u,rfl,ru⟩:=r.one
 cases (show u=Value.ref v from ru)
 obtain ⟨gv,_⟩:=I.hok v _ hv
 obtain ⟨⟨hs,lz,nd,o,es,ep,g1,g2,g3,pr⟩,_⟩:=I.hok a _ ha
 have el:es.size=zs.length:=by have:=Paired.length pr;simpa using this.symm
 have cell:∀ (h':Heap) (as:List Addr) (d:Nat),(∀ b o,s.heap.get? b=some o->h'.get? b=some o)->as.length=es.size->RawG es d h' as->Paired (fun (x:((Int×Int)×Addr×V)×Addr) (u:Value)=>u=.ref x.2/\ZRl X.K H x.1/\d<x.2/\RlIn h' u (zR x.1)/\∃ w,h'.get? x.2=some ⟨.type "tuple",none,.seq #[.ref x.1.2.1,w] 0,#[]⟩/\RelV x.1.2.2 w) (zs.zip as) (as.map Value.ref):=fun h' as d kp l G=>by
  refine zeT (by simp;lia) fun j x u hx hu=>?_
  obtain ⟨x1,x2⟩:=List.getElem?_zip_eq_some.mp hx
  rw [List.getElem?_map,x2] at hu
  cases hu
  obtain ⟨e,e1,e2⟩:=G.pairs j _ x2
  have jl:j<zs.length:=(List.getElem?_eq_some_iff.mp x1).1
  have ez:entZ x.1 e:=by
   have key:∀ {l:ZT} {m:List DictEntry},Paired entZ l m->∀ (j:Nat) z e,l[j]?=some z->m[j]?=some e->entZ z e:=by
    intro l m p
    induction p with
    | nil=>intro j z e h;simp at h
    | cons h t ih =>
     intro j z e h1 h2
     cases j with
     | zero=>cases h1;cases h2;exact h
     | succ j=>exact ih j z e (by simpa using h1) (by simpa using h2)
   exact key pr j _ _ x1 (by simpa using e1)
  have zr:=hr x.1 (List.mem_of_getElem? x1)
  obtain ⟨sq,k0,k1,sg,es',s0,s1⟩:=id zr
  obtain ⟨_,ek,ev⟩:=ez
  rw [ek] at e2
  refine ⟨rfl,zr,G.above _ (List.mem_of_getElem? x2),?_,e.val,e2,ev⟩
  rw [es'] at ev
  obtain ⟨t,et⟩:=ev
  rw [et] at e2
  refine ⟨x.2,x.1.2.1,_,t,0,rfl,e2,rfl,?_,(zmv I sq).kept kp⟩
  unfold zR
  rw [es']
 refine zdL (A:=X.A) (x:=.ref v) (rk:=rkR) (C:=fun h' tk vs=>∃ as,vs=as.map Value.ref/\(∀ b o,s.heap.get? b=some o->h'.get? b=some o)/\s.heap.objs.size<=h'.objs.size/\as.length=es.size/\RawG es s.heap.objs.size h' as) ?_ ?_ ?_ ?_
 ·intro A' E' Q' hA hq
  exact zfR (es:=es) (ep:=ep) (hA.trans (I.ok.hd hc)) ⟨_,gv,rfl,rfl⟩ ⟨o,g1,g2,g3⟩ (by rw [el];exact lz) fun h' tk as kp sz l G=>hq h' tk _ ⟨as,rfl,kp,sz,l,G⟩
 ·rintro h' tk vs ⟨as,rfl,kp,sz,l,G⟩
  rw [List.length_map,l,el];exact hz
 ·rintro h' tk vs A' ⟨as,rfl,kp,sz,l,G⟩ hA'
  refine zdp (by lia) fun u hu=>?_
  obtain ⟨x,_,_,⟨_,k0,k1,sg,es',s0,s1⟩,_,rl,_⟩:=zbd (cell h' as _ kp l G) hu
  refine ⟨zR x.1,rl.kept fun b o e=>zdn e,rl.rk,k0,k1,?_⟩
  unfold zR
  rw [es']
  exact ⟨s0,s1⟩
 ·rintro h' tk vs h2 y e ⟨as,rfl,kp,sz,l,G⟩ kp2 pm up he
  obtain ⟨ws,p1,p2,p3⟩:=zgv (f:=fun x=>rkn (zR x.1)) (cell h' as _ kp l G) (fun x u hx=>hx.2.2.2.1.rk) pm up
  have lw:(ws.map (·.1)).Perm zs:=by
   have:=p1.map (·.1)
   rwa [List.map_fst_zip (by lia)] at this
  have each:∀ x∈ws,ZRl X.K H x.1/\s.heap.objs.size<x.2/\∃ w,h'.get? x.2=some ⟨.type "tuple",none,.seq #[.ref x.1.2.1,w] 0,#[]⟩/\RelV x.1.2.2 w:=fun x hx=>by
   obtain ⟨u,_,_,h1,h2,_,h3⟩:=zg_ p3 hx
   exact ⟨h1,h2,h3⟩
  have ev:((arrOf y).map (·.2)).toList=ws.map fun x=>Value.ref x.2:=by
   have:∀ {l:List (((Int×Int)×Addr×V)×Addr)} {m:List Value},Paired (fun (x:((Int×Int)×Addr×V)×Addr) (u:Value)=>u=.ref x.2/\ZRl X.K H x.1/\s.heap.objs.size<x.2/\RlIn h' u (zR x.1)/\∃ w,h'.get? x.2=some ⟨.type "tuple",none,.seq #[.ref x.1.2.1,w] 0,#[]⟩/\RelV x.1.2.2 w) l m->m=l.map fun x=>Value.ref x.2:=by
    intro l m p
    induction p with
    | nil=>rfl
    | cons h t ih=>rw [List.map_cons,<- ih,h.1]
   exact this p3
  have lh:∀ x∈ws,x.2<h'.objs.size:=fun x hx=>by
   obtain ⟨_,_,w,g,_⟩:=each x hx
   exact Heap.lt_size g
  have two:∀ a b:V,[a,b].length<=sizeLine:=fun _ _=>by show 2<=sizeLine;decide
  have I1:=I.lays (t':=tk) (h':=h2) (as:=ws.map (·.2)) (l:=h'.objs.size) (vs:=ws.map fun x=>V.ref x.2) (fun b o hb=>kp2 b o (kp b o hb)) (fun b hb _=>by
   obtain ⟨x,hx,rfl⟩:=List.mem_map.mp hb
   obtain ⟨_,_,w,g,rw'⟩:=each x hx
   exact ⟨[.ref x.1.2.1,x.1.2.2],[.ref x.1.2.1,w],0,kp2 _ _ g,.cons rfl (.cons rw' .nil),two _ _⟩) sz ⟨by
    have a1:=lw.length_eq
    have a2:100000<=sizeLine:=by decide
    rw [List.length_map] at a1 ⊢
    lia,ws.map (fun x=>Value.ref x.2),e,by
     clear ev he p3 p2 p1 lw each lh
     induction ws with
     | nil=>exact .nil
     | cons x ws ih=>exact .cons rfl ih,by rw [he,<- ev]⟩
  refine ⟨.ref h'.objs.size,_,I1,rfl,q ws _ _ lw p2 (fun b o hb=>?_) (I.hok.fresh sz) (fun x hx=>⟨I.hok.fresh (Nat.le_of_lt (each x hx).2.1),?_⟩) zao⟩
  ·have lt:=(I.hok b o hb).lt
   rw [zam (Nat.ne_of_lt (Nat.lt_of_lt_of_le lt sz)),zgL lt]
   exact hb
  ·obtain ⟨_,h1,w,g,rw'⟩:=each x hx
   rw [zam (Nat.ne_of_lt (lh x hx))]
   unfold layT
   rw [if_pos ⟨Nat.le_of_lt h1,List.mem_map_of_mem hx⟩,kp2 _ _ g]
   show some (HO.tup [.ref x.1.2.1,zhu w])=_
   rw [zgx rw']
end
end L2
namespace L2
open PySem PySem.Spec PyProof PyProof.Rows
def zput (zs:ZT) (k:Int×Int) (b:Addr) (v:V):ZT:=if (zs.any fun z=>decide (z.1=k))=true then zs.map (fun z=>if z.1=k then (z.1,z.2.1,v) else z) else zs++[(k,b,v)]
def putT (ks:KT2) (k:Int×Int) (t:PyData):KT2:=if (ks.any fun z=>decide (z.1=k))=true then ks.map (fun z=>if z.1=k then (z.1,t) else z) else ks++[(k,t)]
def kL (k:Int×Int):List Key:=[.inl k.1,.inl k.2]
theorem zin {k k':Int×Int}:kL k=kL k'↔k=k':=by
 constructor
 ·intro h
  unfold kL at h
  injection h with h1 h2
  injection h2 with h2 _
  injection h1 with h1
  injection h2 with h2
  exact Prod.ext h1 h2
 ·rintro rfl;rfl
def ZX (z:(Int×Int)×Addr×V) (x:List Key×Addr×Value):Prop:=x.1=kL z.1/\x.2.1=z.2.1/\RelV z.2.2 x.2.2
theorem zmh {zs:ZT}{xs:List (List Key×Addr×Value)} (r:Paired ZX zs xs) (k:Int×Int):(atKey xs (kL k)).isSome=zs.any fun z=>decide (z.1=k):=by
 induction r with
 | nil=>rfl
 | @cons z x zs xs h t ih =>
  by_cases e:z.1=k
  ·have:x.1=kL k:=by rw [h.1,e]
   simp [atKey,List.find?_cons,this,e]
  ·have:¬x.1=kL k:=fun z'=>e (zin.mp (h.1.symm.trans z'))
   have e2:atKey (x::xs) (kL k)=atKey xs (kL k):=by simp [atKey,List.find?_cons,this]
   rw [e2,ih,List.any_cons,decide_eq_false e,Bool.false_or]
theorem zx_put {zs:ZT}{xs:List (List Key×Addr×Value)} (r:Paired ZX zs xs) (k:Int×Int) {b:Addr}{v:V}{u:Value} (rv:RelV v u):Paired ZX (zput zs k b v) (storedH xs (kL k) b u):=by
 unfold zput storedH
 rw [zmh r k]
 by_cases e:(zs.any fun z=>decide (z.1=k))=true
 ·rw [if_pos e,if_pos e]
  clear e
  induction r with
  | nil=>exact .nil
  | @cons z x zs xs h t ih =>
   refine .cons ?_ ih
   unfold putAt
   dsimp only
   by_cases e:z.1=k
   ·rw [if_pos e,if_pos (by rw [h.1,e])]
    exact ⟨h.1,h.2.1,rv⟩
   ·rw [if_neg e,if_neg (fun z'=>e (zin.mp (h.1.symm.trans z')))]
    exact h
 ·rw [if_neg e,if_neg e]
  exact Paired.snoc r ⟨rfl,rfl,rv⟩
theorem zhr {zs:ZT}{xs:List (List Key×Addr×Value)} (r:Paired ZX zs xs):xs.map (·.1)=(zs.map (·.1)).map kL:=by
 induction r with
 | nil=>rfl
 | cons h t ih=>rw [List.map_cons,List.map_cons,List.map_cons,ih,h.1]
theorem zgJ {l:List (Int×Int)}:(l.map kL).Nodup↔l.Nodup:=by
 induction l with
 | nil=>simp
 | cons a l ih =>
  rw [List.map_cons,List.nodup_cons,List.nodup_cons,ih]
  have:kL a∈l.map kL↔a∈l:=by
   constructor
   ·intro h
    obtain ⟨b,hb,e⟩:=List.mem_map.mp h
    rwa [<- zin.mp e]
   ·exact List.mem_map_of_mem
  rw [this]
theorem zgh (zs:ZT) (k:Int×Int) (b:Addr) (v:V):(zput zs k b v).length<=zs.length+1:=by
 unfold zput
 split
 ·rw [List.length_map];exact Nat.le_succ _
 ·simp
section
variable {P:Program}{w:World}
theorem zp5 {z:(Int×Int)×Addr×V}{x:List Key×Addr×Value} (h:ZX z x):entZ z (entryOfKey (tupleKind (zal P w)) x):=by
 obtain ⟨h1,h2,h3⟩:=h
 refine ⟨?_,?_,h3⟩
 ·show tupleKeyHash (zal P w) x.1=_
  rw [h1];rfl
 ·show Value.ref x.2.1=_
  rw [h2]
theorem zi8 {zs:ZT}{es:List DictEntry} (r:Paired entZ zs es):∃ xs:List (List Key×Addr×Value),Paired ZX zs xs/\es=xs.map (entryOfKey (tupleKind (zal P w))):=by
 induction r with
 | nil=>exact ⟨[],.nil,rfl⟩
 | @cons z e zs es h t ih =>
  obtain ⟨xs,x1,x2⟩:=ih
  obtain ⟨h1,h2,h3⟩:=h
  refine ⟨(kL z.1,z.2.1,e.val)::xs,.cons ⟨rfl,rfl,h3⟩ x1,?_⟩
  rw [List.map_cons,<- x2]
  congr 1
  cases e
  dsimp only at h1 h2
  rw [h1,h2]
  rfl
theorem zn8 {zs:ZT}{xs:List (List Key×Addr×Value)} (r:Paired ZX zs xs):Paired entZ zs (xs.map (entryOfKey (tupleKind (zal P w)))):=by
 induction r with
 | nil=>exact .nil
 | cons h t ih=>exact .cons (zp5 h) ih
end
section
variable {X:Cx}{pins:List (Addr×Obj)}{σ:St}{H:Hp}{s:Shared}{a:Addr}{zs:ZT}{A:Around}{E:Value->Shared->Prop}
theorem zmi (I:Inv X pins σ H s) (h:H a=some (ZDO a zs)) (hk:∀ z∈zs,SqT X.K H z.2.1 [.int z.1.1,.int z.1.2]):(a == sysModules)=false/\zs.length<=sizeLine/\∃ xs,Paired ZX zs xs/\s.heap.DictOfH (tupleKind (zal X.prog X.w)) a xs:=by
 obtain ⟨⟨hs,lz,nd,o,es,ep,g1,g2,g3,pr⟩,_⟩:=I.hok a _ h
 obtain ⟨xs,x1,x2⟩:=zi8 (P:=X.prog) (w:=X.w) pr
 refine ⟨hs,lz,xs,x1,o,es,ep,g1,g2,g3,x2,fun x hx=>?_,?_⟩
 ·obtain ⟨z,hz,e1,e2,_⟩:=zbd x1 hx
  have:=zij (k:=kL z.1) I (hk z hz)
  rw [e1,e2]
  exact this
 ·rw [zhr x1]
  exact zgJ.mpr nd
theorem zdo_ok {H':Hp}{h':Heap}{xs:List (List Key×Addr×Value)} (hs:(a == sysModules)=false) (lz:zs.length<=sizeLine) (r:Paired ZX zs xs) (dd:h'.DictOfH (tupleKind (zal X.prog X.w)) a xs):zba X.prog X.w H' h' a (ZDO a zs):=by
 obtain ⟨o,es,ep,g1,g2,g3,g4,_,g5⟩:=dd
 refine ⟨⟨hs,lz,?_,o,es,ep,g1,g2,g3,?_⟩,⟨o,g1⟩,?_⟩
 ·rw [zhr r] at g5
  exact zgJ.mp g5
 ·rw [g4];exact zn8 r
 ·rintro h1 h2 ⟨x1,x2,x3,o,es,ep,y1,y2⟩ k
  exact ⟨x1,x2,x3,o,es,ep,k o y1,y2⟩
theorem zht {k:Int×Int}{b:Addr}{v:V}{r:Value}{Q:Unit->Shared->Prop} (hu:A.units+1<cLine) (I:Inv X pins σ H s) (h:H a=some (ZDO a zs)) (hk:∀ z∈zs,SqT X.K H z.2.1 [.int z.1.1,.int z.1.2]) (hb:SqT X.K H b [.int k.1,.int k.2]) (hl:zs.length<sizeLine) (rv:RelV v r)
  (hq:∀ s',Inv X pins σ (upd H a (ZDO a (zput zs k b v))) s'->Q () s'):wpAny (model X.prog X.w) A (setItem (.ref a) (.ref b) r) Q E s:=by
 obtain ⟨hs,lz,xs,x1,dd⟩:=zmi I h hk
 have lx:xs.length<=sizeLine:=by rw [<- Paired.length x1];exact lz
 refine wpAny_setItem_heap (hsz:=lx) (tupleKind_room_in1 hu) (zij (k:=kL k) I hb) dd fun h' dd' hs'=>hq _ ?_
 have he:∃ q,h'.get? a=some q:=let ⟨q,_,_,e,_⟩:=dd';⟨q,e⟩
 refine zlY I (by rw [h];exact True.intro) hs' he (zdo_ok hs ?_ (zx_put x1 k rv) dd')
 have:=zgh zs k b v
 lia
end
section
variable {K:PySem.W.Frag}{hd:Option Addr}{O:Addr->Prop}{H:Hp}{zs:ZT}{ks:KT2}
theorem RepsT.sq (r:RepsT K hd O H zs ks):∀ z∈zs,SqT K H z.2.1 [.int z.1.1,.int z.1.2]:=by
 intro z hz
 induction zs generalizing ks with
 | nil=>cases hz
 | cons y zs ih =>
  cases r with
  | cons h1 h2 r =>
   rcases List.mem_cons.mp hz with rfl | hz
   ·obtain ⟨a,vs,e,sq,rp⟩:=h1.tupI
    cases e
    cases rp with
    | cons x1 x2 =>
     cases x2 with
     | cons x3 x4 =>
      cases x4
      rw [x1.intI,x3.intI] at sq
      exact sq
   ·exact ih r hz
theorem RepsT.length (r:RepsT K hd O H zs ks):zs.length=ks.length:=by
 induction zs generalizing ks with
 | nil=>cases r;rfl
 | cons y zs ih =>
  cases r with
  | cons h1 h2 r=>rw [List.length_cons,List.length_cons,ih r]
theorem RepsT.keys (r:RepsT K hd O H zs ks):zs.map (·.1)=ks.map (·.1):=by
 induction zs generalizing ks with
 | nil=>cases r;rfl
 | cons y zs ih =>
  cases r with
  | cons h1 h2 r=>rw [List.map_cons,List.map_cons,ih r]
theorem RepsT.snoc {k:Int×Int}{q:Addr}{v:V}{d:PyData} (h:Rep K hd O H (.ref q) (.tuple [.int k.1,.int k.2])) (h2:Rep K hd O H v d):∀ {zs:ZT}{ks:KT2},RepsT K hd O H zs ks->RepsT K hd O H (zs++[(k,q,v)]) (ks++[(k,d)])
 | _,_,.nil=>.cons h h2 .nil
 | _,_,.cons a b r=>.cons a b (RepsT.snoc h h2 r)
theorem RepsT.put (r:RepsT K hd O H zs ks) (k:Int×Int) {b:Addr}{v:V}{t:PyData} (rb:Rep K hd O H (.ref b) (.tuple [.int k.1,.int k.2])) (rv:Rep K hd O H v t):RepsT K hd O H (zput zs k b v) (putT ks k t):=by
 have ea:(zs.any fun z=>decide (z.1=k))=ks.any fun z=>decide (z.1=k):=by
  have e1:(zs.any fun z=>decide (z.1=k))=(zs.map (·.1)).any fun z=>decide (z=k):=by rw [List.any_map];rfl
  have e2:(ks.any fun z=>decide (z.1=k))=(ks.map (·.1)).any fun z=>decide (z=k):=by rw [List.any_map];rfl
  rw [e1,e2,r.keys]
 unfold zput putT
 rw [ea]
 split
 ·clear ea
  rename_i e
  clear e
  induction zs generalizing ks with
  | nil=>cases r;exact .nil
  | cons y zs ih =>
   cases r with
   | @cons k' q v' d zs ks h1 h2 r =>
    rw [List.map_cons,List.map_cons]
    dsimp only
    by_cases e:k'=k
    ·rw [if_pos e,if_pos e];exact .cons h1 rv (ih r)
    ·rw [if_neg e,if_neg e];exact .cons h1 h2 (ih r)
 ·exact RepsT.snoc rb rv r
theorem Rep.bkI {v:V}{a b:Int} (h:Rep K hd O H v (.tuple [.int a,.int b])):∃ q,v=.ref q/\SqT K H q [.int a,.int b]:=by
 obtain ⟨q,vs,rfl,sq,rp⟩:=h.tupI
 cases rp with
 | cons x1 x2 =>
  cases x2 with
  | cons x3 x4 =>
   cases x4
   rw [x1.intI,x3.intI] at sq
   exact ⟨q,rfl,sq⟩
end
section
variable {X:Cx}{e e1 e2:Expr}{x:Str}{pos:Pos}{d d1 d2:DTE}
def zoR:TE:=fun _ H Q=>∀ p,H p=none->Q (.ref p) (upd H p (ZDO p []))
theorem zlc:PE X (.Dict [] [] pos) zoR:=fun pins s σ H Q I h=>by
 have hb:(s.heap.objs.size == sysModules)=false:=beq_eq_false_iff_ne.mpr (Ne.symm (Nat.ne_of_lt I.big))
 refine wpAny_Dict_empty ⟨.ref s.heap.objs.size,_,I.laid (a:=s.heap.objs.size) (o:=ZDO s.heap.objs.size []) (t':=s.toks) (fun _ _ q=>Heap.get?_push_of_some _ q) (Nat.le_refl _) ?_,rfl,h _ (I.hok.fresh (Nat.le_refl _))⟩
 exact zdo_ok hb (Nat.zero_le _) .nil (Heap.DictOfH.new s.heap)
def zmI (i:Nat):DTS:=fun D ρ n=>D.nx (ρ.set i (some (.dtt []))) n
theorem zlT {i:Nat}{pos' dp:Pos} (hN:X.N.Nodup) (hi:X.N[i]?=some x) (hx:Loc X.env.scope x) (hs:swapsWith (.Dict [] [] dp) (some (.Name x pos')) pos.line X.env=pure false:=by rfl) (hf:X.fn x=true\/X.env.scope.names.lookup x=some .local:=by first | exact .inl rfl | exact .inr rfl | assumption) :
  DS X (.Assign [.Name x pos'] (.Dict [] [] dp) pos) (zmI i):=by
 refine ⟨_,zbO hN hi hx zlc hs hf,fun C ρ σ H n D D' S hd g=>?_⟩
 intro p hp
 have e1:ExtE C.hd H (upd H p (ZDO p [])):=ExtE.new hp
 have hn:Hn C.hd (upd H p (ZDO p [])) n:=S.hnd.same (zav hp)
 exact g.nx _ _ _ n hd (S.putNew e1 hn hp ⟨[],zao,.nil⟩) (zdr e1 hp)
def zpm (K:PySem.W.Frag) (td ty tv:TE):TS:=fun D σ H=>tv σ H fun v H1=>td σ H1 fun x H2=>ty σ H2 fun y H3=>∃ a zs k b,x=.ref a/\y=.ref b/\H3 a=some (ZDO a zs)/\(∀ z∈zs,SqT K H3 z.2.1 [.int z.1.1,.int z.1.2])/\SqT K H3 b [.int k.1,.int k.2]/\zs.length<sizeLine/\D.nx σ (upd H3 a (ZDO a (zput zs k b v)))
theorem zk4 {o i value:Expr}{td ty tv:TE}{pos':Pos} (hu:X.A.units+1<cLine) (ho:PE X o td) (hi:PE X i ty) (hv:PE X value tv) (hs:swapsWith value (some (.Subscript o i pos')) pos.line X.env=pure false) :
  PS X (.Assign [.Subscript o i pos'] value pos) (zpm X.K td ty tv):=by
 intro pins s σ H D I h
 refine wpAny_Assign_Subscript (thn (hv pins s σ H _ I h) fun r s1 ⟨v,H1,I1,rv,q1⟩=>thn (ho pins s1 σ H1 _ I1 q1) fun u s2 ⟨x,H2,I2,rx,q2⟩=>thn (hi pins s2 σ H2 _ I2 q2) fun iv s3 ⟨y,H3,I3,ry,a,zs,k,b,ex,ey,g,hk,hb,hl,q3⟩=>?_) hs
 subst ex ey
 cases (show u=Value.ref a from rx)
 cases (show iv=Value.ref b from ry)
 exact zht hu I3 g hk hb hl rv fun s4 I4=>⟨σ,_,I4,q3⟩
def lBlk (y:PyData) (R:Int×Int->Prop):Prop:=∃ k:Int×Int,y=.tuple [.int k.1,.int k.2]/\R k
def zkU (i:Nat) (dk dv:DTE):DTS:=fun D ρ n=>dv ρ n fun t n1=>match ρ[i]? with
 | some (some (.dtt ks))=>dk ρ n1 fun y n2=>lBlk y fun k=>ks.length<16777216/\D.nx (ρ.set i (some (.dtt (putT ks k t)))) n2
 | _=>False
theorem zlS (i:Nat) {p1 pos':Pos} (hr:X.A.units+1<cLine) (h1:DE X e1 d1) (h2:DE X e2 d2) (hN:X.N[i]?=some x:=by rfl) (hv:Vis X.env.scope x:=by first | exact Or.inl rfl | exact Or.inr (Or.inl rfl) | exact Or.inr (Or.inr rfl)) (hd:(x == ("__debug__":Str))=false:=by decide)
  (hcd:(x == ("__classdict__":Str))=false:=by decide) (hs:swapsWith e2 (some (.Subscript (.Name x p1) e1 pos')) pos.line X.env=pure false:=by rfl) :
  DS X (.Assign [.Subscript (.Name x p1) e1 pos'] e2 pos) (zkU i d1 d2):=by
 obtain ⟨t1,pa1,h1⟩:=h1
 obtain ⟨t2,pa2,h2⟩:=h2
 refine ⟨_,zk4 hr (zcm hN hv hd hcd) pa1 pa2 hs,fun C ρ σ H n D D' S hd g=>?_⟩
 refine h2 C ρ σ H n _ _ S hd fun t n1 v H1 r e1 hn1 q=>?_
 have S1:=S.on e1 hn1
 split at r
 ·rename_i ks et
  obtain ⟨p,zs,s1,s2,s3,s4⟩:=S1.dtt i ks et
  refine ⟨.ref p,s1,?_⟩
  refine h1 C ρ σ H1 n1 _ _ S1 r fun y n2 w H2 r2 e2 hn2 q2=>?_
  have S2:=S1.on e2 hn2
  obtain ⟨p',zs',u1,u2,u3,u4⟩:=S2.dtt i ks et
  rw [s1] at u1;cases u1
  obtain ⟨k,rfl,hl,r2⟩:=r2
  obtain ⟨b,rfl,sb⟩:=q2.bkI
  have q':=e2.rep S.hx q
  refine ⟨p,zs',k,b,rfl,rfl,u2,u3.sq,sb,by rw [u3.length];exact hl,?_⟩
  obtain ⟨S3,k3⟩:=S2.chgC (c':=.dtt (putT ks k t)) rfl rfl et s1 fun O' H' a b hp=>⟨_,hp,(u3.put k q2 q').mono a b⟩
  exact g.nx _ _ _ n2 r2 S3 ((e1.keep.trans e2.keep).trans k3)
 ·exact r.elim
end
section
variable {D:DEnds}{ρ ρ':En}{n i j:Nat}{d dk dv:DTE}{R:PyData->Nat->Prop}{ks:KT2}
instance zqb:Stp (zmI i D ρ n) (SetK i (some (.dtt [])) D.nx ρ n):=⟨fun h=>h⟩
instance zqa [h:GetN ρ i (some (.dtt ks))]:Stp (zkU i dk dv D ρ n) (dv ρ n fun t n1=>dk ρ n1 fun y n2=>lBlk y fun k=>ks.length<16777216/\SetK i (some (.dtt (putT ks k t))) D.nx ρ n2):=⟨fun k=>by
 unfold zkU;rw [h.e];exact k⟩
instance zqq {a b:Int}{Q:Int×Int->Prop}:Stp (lBlk (.tuple [.int a,.int b]) Q) (Q (a,b)):=⟨fun h=>⟨(a,b),rfl,h⟩⟩
end
end L2
namespace L2
open PySem PySem.Spec PyProof PyProof.Rows
def rD (rs:List ((Int×Int)×Int)):List PyData:=rs.map fun r=>.tuple [.tuple [.int r.1.1,.int r.1.2],.int r.2]
theorem zbh {rs:List ((Int×Int)×Int)}:(rD rs).length=rs.length:=by simp [rD]
def RlOk (r:(Int×Int)×Int):Prop:=0<=r.1.2/\r.1.2<1000/\0<=r.2/\r.2<=1
section
variable {X:Cx}{e:Expr}{x:Str}{d:DTE}{pos p p1 p2 p3:Pos}{k:Nat}
def zmq (i:Nat):TE:=fun σ H Q=>∃ a zs,σ[i]?=some (some (.ref a))/\H a=some (ZDO a zs)/\∀ v,H v=none->Q (.ref v) (upd H v (VWO v a))
theorem zml {H':Hp}{h:Heap}{v a:Addr} (g:h.get? v=some ⟨.type "dict_items",none,.fields #[.ref a],#[]⟩):zba X.prog X.w H' h v (VWO v a):=⟨g,⟨_,g⟩,fun h1 h2 g1 k=>k _ g1⟩
theorem zjD {i:Nat} (hN:X.N[i]?=some x) (hv:Vis X.env.scope x) (hd:(x == ("__debug__":Str))=false:=by decide) (hcd:(x == ("__classdict__":Str))=false:=by decide)
  (hbase:attributeBase (.Name x p1) "items" X.env (eval (.Name x p1) X.env)=eval (.Name x p1) X.env:=by rfl) (hline:(p2.endLine == p3.line)=true:=by rfl):PE X (.Call (.Attribute (.Name x p1) "items" p2) [] [] p3) (zmq i):=by
 intro pins s σ H Q I h
 obtain ⟨a,zs,e1,e2,q⟩:=h
 refine wpAny_Call_method0_late hbase hline (thn (zcm hN hv hd hcd pins s σ H (fun v H'=>v=.ref a/\H'=H) I ⟨.ref a,e1,rfl,rfl⟩) fun u s1 ⟨v,H1,I1,r1,ev,eH⟩=>?_)
 subst ev eH
 cases (show u=Value.ref a from r1)
 obtain ⟨⟨hs,lz,nd,o,es,ep,g1,g2,g3,pr⟩,_⟩:=I1.hok a _ e2
 have ty:s1.TypeIs (.ref a) "dict":=⟨o,g1,g2.1⟩
 refine ⟨"dict","dict.items",PySem.F.plainAttrs_dict,PySem.F.slot_dict_items,PySem.F.type_dict_items,ty,fun b eb=>?_,Calls.callWith_builtin rfl (PySem.evalArgs_none ?_)⟩
 ·cases eb;exact ⟨o,g1,g2.2.1⟩
 refine wpAny_call_entry PySem.F.slot_dict_items ty PySem.F.entry_dict_items ?_ (PySem.F.args_dict_items_1 _)
 refine zhP (es:=es) (ep:=ep) hs ⟨o,g1,g2,g3⟩ ⟨_,rfl,?_⟩
 have hf:=I1.hok.fresh (Nat.le_refl _)
 exact ⟨.ref s1.heap.objs.size,_,I1.laid (a:=s1.heap.objs.size) (o:=VWO s1.heap.objs.size a) (t':=s1.toks) (fun _ _ q=>Heap.get?_push_of_some _ q) (Nat.le_refl _) (zml (Heap.get?_push_size _ rfl)),rfl,q _ hf⟩
def zj6 (i:Nat):DTA:=fun ρ n R=>match ρ[i]? with
 | some (some (.dtt ks))=>∃ rs:List ((Int×Int)×Int),ks=rs.map (fun r=>(r.1,.int r.2))/\rs.length<100000/\(∀ r∈rs,RlOk r)/\∀ rs':List ((Int×Int)×Int),rs'.Perm rs->rs'.Pairwise (fun a b=>rkn a<=rkn b)->R (rD rs') n
 | _=>False
theorem zdd {K:PySem.W.Frag}{hd:Option Addr}{O:Addr->Prop}{H:Hp}:∀ {zs:ZT}{rs:List ((Int×Int)×Int)},RepsT K hd O H zs (rs.map fun r=>(r.1,.int r.2))->zs.map zR=rs/\∀ z∈zs,z.2.2=.int (zR z).2/\Rep K hd O H (.ref z.2.1) (.tuple [.int z.1.1,.int z.1.2])
 | _,[],r=>by cases r;exact ⟨rfl,(fun z hz=>nomatch hz)⟩
 | _,⟨k,s⟩::rs,r=>by
  cases r with
  | cons h1 h2 r =>
   obtain ⟨i1,i2⟩:=zdd r
   have ev:=h2.intI
   subst ev
   refine ⟨by rw [List.map_cons,i1];rfl,fun z hz=>?_⟩
   rcases List.mem_cons.mp hz with rfl | hz
   ·exact ⟨rfl,h1⟩
   ·exact i2 z hz
theorem ziA (i:Nat) (hc:X.calm=true) (hr:Room k X.A) (hm:X.mg "sorted" = none) (hN:X.N[i]?=some x:=by rfl) (hv:Vis X.env.scope x:=by first | exact Or.inl rfl | exact Or.inr (Or.inl rfl) | exact Or.inr (Or.inr rfl)) (hd:(x == ("__debug__":Str))=false:=by decide)
  (hcd:(x == ("__classdict__":Str))=false:=by decide) (hs:starEach [.Call (.Attribute (.Name x p1) "items" p2) [] [] p3] X.env=[(false,eval (.Call (.Attribute (.Name x p1) "items" p2) [] [] p3) X.env)]:=by rfl) (hg:Gl X "sorted":=by rfl)
  (hbase:attributeBase (.Name x p1) "items" X.env (eval (.Name x p1) X.env)=eval (.Name x p1) X.env:=by rfl) (hline:(p2.endLine == p3.line)=true:=by rfl) :
  DN X (.Call (.Name "sorted" p) [.Call (.Attribute (.Name x p1) "items" p2) [] [] p3] [] pos) (zj6 i):=by
 refine ⟨_,zg9 (zfw hc (by have:=hr.un;lia)) hm boot_sorted (za0 (zjD hN hv hd hcd hbase hline) zbQ hs) hg,fun C ρ σ H n Q R S hd hq=>?_⟩
 unfold zj6 at hd
 split at hd
 ·rename_i ks et
  obtain ⟨rs,rfl,lr,rok,hR⟩:=hd
  obtain ⟨a,zs,s1,s2,s3,s4⟩:=S.dtt i _ et
  obtain ⟨zr,zv⟩:=zdd s3
  have lz:zs.length=rs.length:=by rw [<- zr];simp
  refine ⟨a,zs,s1,s2,fun v hv=>?_⟩
  have na:a≠v:=fun z=>by subst z;rw [s2] at hv;cases hv
  have sm:Same H (upd H v (VWO v a)):=zav hv
  refine ⟨v,a,zs,rfl,zao,by rw [zam na];exact s2,by rw [lz];exact lr,fun z hz=>?_,fun ws l H' pm pw sH nl tw hl=>?_⟩
  ·obtain ⟨z1,z2⟩:=zv z hz
   have ok:=rok (zR z) (by rw [<- zr];exact List.mem_map_of_mem hz)
   obtain ⟨q,eq,sq⟩:=(z2.same sm).bkI
   cases eq
   exact ⟨sq,ok.1,ok.2.1,_,z1,ok.2.2⟩
  ·have sH':Same H H':=sm.trans sH
   have pr:(ws.map fun w=>zR w.1).Perm rs:=by
    have:=pm.map zR
    rw [List.map_map,zr] at this
    exact this
   have hl0:H l=none:=by
    cases z:H l with
    | none=>rfl
    | some o=>rw [sm l o z] at nl;cases nl
   refine hq (rD (ws.map fun w=>zR w.1)) n l _ H' (hR _ pr (by rw [List.pairwise_map];exact pw)) sH'.ext (S.hnd.same sH') hl0 hl ?_
   have key:∀ ws':List (((Int×Int)×Addr×V)×Addr),(∀ w∈ws',w∈ws)->Reps X.K C.hd (fun b=>Own C ρ σ b\/b=l) H' (ws'.map fun w=>V.ref w.2) (rD (ws'.map fun w=>zR w.1)):=by
    intro ws'
    induction ws' with
    | nil=>intro _;exact .nil
    | cons w ws' ih =>
     intro hw
     have mw:=hw w (.head _)
     have mz:w.1∈zs:=pm.mem_iff.mp (List.mem_map_of_mem mw)
     obtain ⟨z1,z2⟩:=zv w.1 mz
     obtain ⟨t1,t2⟩:=tw w mw
     have h0:H w.2=none:=by
      cases z:H w.2 with
      | none=>rfl
      | some o=>rw [sm _ o z] at t1;cases t1
     refine .cons (.tup t2 (fun z=>?_) (.cons ?_ (.cons ?_ .nil))) (ih fun y hy=>hw y (.tail _ hy))
     ·rcases z with z | z
      ·exact S.free h0 z
      ·rw [z,hl] at t2;cases t2
     ·exact z2.mono (fun b o hb z=>z.elim id fun z=>by subst z;rw [hl0] at hb;cases hb) fun b o _ hb=>sH' b o hb
     ·rw [z1];exact .int _
   exact key ws fun _ h=>h
 ·exact hd.elim
instance zom {i:Nat}{ρ:En}{n:Nat}{R:List PyData->Nat->Prop}{ks:KT2}[h:GetN ρ i (some (.dtt ks))]:Stp (zj6 i ρ n R) (∃ rs:List ((Int×Int)×Int),ks=rs.map (fun r=>(r.1,.int r.2))/\rs.length<100000/\(∀ r∈rs,RlOk r)/\∀ rs':List ((Int×Int)×Int),rs'.Perm rs->rs'.Pairwise (fun a b=>rkn a<=rkn b)->R (rD rs') n):=⟨fun k=>by
 unfold zj6;rw [h.e];exact k⟩
end
section
variable {X:Cx}
def RlV (K:PySem.W.Frag) (H:Hp) (z:V×((Int×Int)×Int)):Prop:=∃ a q,z.1=.ref a/\SqT K H a [.ref q,.int z.2.2]/\SqT K H q [.int z.2.1.1,.int z.2.1.2]/\RlOk z.2
theorem zoY {pins:List (Addr×Obj)}{σ:St}{H:Hp}{s:Shared}{a q:Addr}{r:(Int×Int)×Int} (I:Inv X pins σ H s) (h:SqT X.K H a [.ref q,.int r.2]) (h2:SqT X.K H q [.int r.1.1,.int r.1.2]):RlIn s.heap (.ref a) r:=by
 obtain ⟨is,rs,⟨o,f1,f2,n,f3⟩,_⟩:=I.tuple h
 cases rs with
 | cons a1 a2 =>
  cases a2 with
  | cons a3 a4 =>
   cases a4
   cases (show _=Value.ref q from a1)
   obtain ⟨t,rfl⟩:=a3
   exact ⟨a,q,o,t,n,rfl,f1,f2,f3,zmv I h2⟩
theorem zfx (hu:X.A.units+64<cLine):zbG X (.builtin "sorted") (fun xs H Q=>∃ (p:Addr) (zs:List (V×((Int×Int)×Int))),xs=[.ref p]/\(SqL X.K H p (zs.map (·.1))\/SqT X.K H p (zs.map (·.1)))/\zs.length<100000/\(∀ z∈zs,RlV X.K H z) /\
  ∀ zs':List (V×((Int×Int)×Int)),zs'.Perm zs->zs'.Pairwise (fun a b=>rkn a.2<=rkn b.2)->∀ l,H l=none->Q (.ref l) (upd H l (.lst (zs'.map (·.1))))):=by
 intro pins s σ H xs us Q I r h
 obtain ⟨p,zs,rfl,hq,h64,hp,q⟩:=h
 obtain ⟨u,rfl,rx⟩:=vals1 r
 cases rx
 have hs:100000<=sizeLine:=by decide
 have key:∀ (its:List Value) (o:Obj) (T:String) (n:Nat),Vals (zs.map (·.1)) its->s.heap.get? p=some o->o.cls=.type T->(T = "list" \/ T = "tuple")->o.data=.seq its.toArray n ->
   wpAny (model X.prog X.w) X.A (call (.builtin "sorted") [.ref p]) (EP X pins σ Q) X.xe s:=fun its o T n rv ho hc hT hd=>by
  have hlen:zs.length=its.length:=by simpa using rv.length
  have cell:Paired (fun (z:V×((Int×Int)×Int)) (u:Value)=>RelV z.1 u/\RlIn s.heap u z.2/\RlOk z.2) zs its:=by
   have go:∀ (zs:List (V×((Int×Int)×Int))) (its:List Value),(∀ z∈zs,RlV X.K H z)->Vals (zs.map (·.1)) its->Paired (fun (z:V×((Int×Int)×Int)) (u:Value)=>RelV z.1 u/\RlIn s.heap u z.2/\RlOk z.2) zs its:=by
    intro zs
    induction zs with
    | nil=>intro its _ r;cases r;exact .nil
    | cons z zs ih =>
     intro its hz r
     cases r with
     | cons r1 r2 =>
      obtain ⟨a,q,e1,e2,e3,ok⟩:=hz z (.head _)
      refine .cons ⟨r1,?_,ok⟩ (ih _ (fun y hy=>hz y (.tail _ hy)) r2)
      dsimp only at r1;rw [e1] at r1
      cases (show _=Value.ref a from r1)
      exact zoY I e2 e3
   exact go zs its hp rv
  refine zdL (A:=X.A) (x:=.ref p) (rk:=rkR) (C:=fun h' tk vs=>vs=its/\(∀ b o,s.heap.get? b=some o->h'.get? b=some o)/\s.heap.objs.size<=h'.objs.size) ?_ ?_ ?_ ?_
  ·intro A' E' Q' hA hq
   refine zgc ho hc hT hd (by lia) ?_
   have hq':=hq ((s.heap.push (seqObj "list" #[] 0)).update s.heap.objs.size (Obj.mapSeq (·++its.toArray))) s.toks its ⟨rfl,fun b ob hb=>?_,?_⟩
   ·exact hq'
   ·rw [Heap.get?_update_ne _ _ _ _ (Nat.ne_of_lt (Heap.lt_size hb))]
    exact Heap.get?_push_of_some _ hb
   ·rw [Heap.size_update,size_push'];exact Nat.le_succ _
  ·rintro h' tk vs ⟨rfl,_,_⟩
   lia
  ·rintro h' tk vs A' ⟨rfl,kp,_⟩ hA'
   refine zdp (by lia) fun u hu=>?_
   obtain ⟨x,_,_,rl,ok⟩:=zbd cell hu
   have rl':=rl.kept kp
   exact ⟨x.2,rl'.kept fun b o e=>zdn e,rl'.rk,ok⟩
  ·rintro h' tk vs h2 y e ⟨rfl,kp,sz⟩ kp2 pm up he
   have cell':Paired (fun (z:V×((Int×Int)×Int)) (u:Value)=>RelV z.1 u/\RlIn h' u z.2) zs vs:=Paired.mapP cell fun _ _ h=>⟨h.1,h.2.1.kept kp⟩
   obtain ⟨ws,p1,p2,p3⟩:=zgv (f:=fun x=>rkn x.2) cell' (fun x u hx=>hx.2.rk) pm up
   have rv':Vals (ws.map (·.1)) ((arrOf y).map (·.2)).toList:=by
    have:∀ {l:List (V×((Int×Int)×Int))} {m:List Value},Paired (fun (z:V×((Int×Int)×Int)) (u:Value)=>RelV z.1 u/\RlIn h' u z.2) l m->Vals (l.map (·.1)) m:=by
     intro l m p
     induction p with
     | nil=>exact .nil
     | cons h t ih=>exact .cons h.1 ih
    exact this p3
   refine ⟨.ref h'.objs.size,_,I.laid (a:=h'.objs.size) (o:=.lst (ws.map (·.1))) (t':=tk) (fun b o hb=>kp2 b o (kp b o hb)) sz ?_,rfl,q ws p1 p2 _ (I.hok.fresh sz)⟩
   refine ⟨?_,_,e,rv',by rw [he]⟩
   have:=p1.length_eq
   rw [List.length_map]
   lia
 rcases hq with hq | hq
 ·obtain ⟨its,r',pl,hz⟩:=I.list hq
  obtain ⟨o,ho,hc,n,hd⟩:=pl.isList
  exact key its o "list" n r' ho hc (.inl rfl) hd
 ·obtain ⟨its,r',pl,hz⟩:=I.tuple hq
  obtain ⟨o,ho,hc,n,hd⟩:=pl
  exact key its o "tuple" n r' ho hc (.inr rfl) hd
end
def zkp (t:PyData) (R:List PyData->Prop):Prop:=zbl t fun ts=>∃ rs:List ((Int×Int)×Int),ts=rD rs/\rs.length<100000/\(∀ r∈rs,RlOk r)/\∀ rs':List ((Int×Int)×Int),rs'.Perm rs->rs'.Pairwise (fun a b=>rkn a<=rkn b)->R (rD rs')
def zkH (d:DTE):DTA:=fun ρ n R=>d ρ n fun t n1=>zkp t fun ts=>R ts n1
section
variable {X:Cx}{e:Expr}{d:DTE}{pos p:Pos}{k:Nat}
theorem zhM {K:PySem.W.Frag}{hd:Option Addr}{O:Addr->Prop}{H:Hp}:∀ {vs:List V}{rs:List ((Int×Int)×Int)},Reps K hd O H vs (rD rs)->(∀ r∈rs,RlOk r)->∀ z∈vs.zip rs,RlV K H z/\Rep K hd O H z.1 (.tuple [.tuple [.int z.2.1.1,.int z.2.1.2],.int z.2.2])
 | _,[],r,_=>by cases r;intro z hz;simp at hz
 | _,a::rs,r,ok=>by
  cases r with
  | cons h r =>
   intro z hz
   rcases List.mem_cons.mp (by simpa using hz) with rfl | hz
   ·refine ⟨?_,h⟩
    obtain ⟨b,ws,rfl,sq,rp⟩:=h.tupI
    cases rp with
    | cons x1 x2 =>
     cases x2 with
     | cons x3 x4 =>
      cases x4
      obtain ⟨q,rfl,sq2⟩:=x1.bkI
      rw [x3.intI] at sq
      exact ⟨b,q,rfl,sq,sq2,ok a (.head _)⟩
   ·exact zhM r (fun y hy=>ok y (.tail _ hy)) z hz
theorem zhl (hr:Room k X.A) (hm:X.mg "sorted" = none) (h:DL X e d) (hs:starEach [e] X.env=[(false,eval e X.env)]) (hg:Gl X "sorted":=by rfl):DN X (.Call (.Name "sorted" p) [e] [] pos) (zkH d):=by
 obtain ⟨ta,pa,h⟩:=h
 refine ⟨_,zg9 (zfx (by have:=hr.un;lia)) hm boot_sorted (za0 pa zbQ hs) hg,fun C ρ σ H n Q R S hd hq=>?_⟩
 refine h C ρ σ H n _ _ S hd fun t n1 v H1 r1 e1 h1 q1=>?_
 have S1:=S.on e1 h1
 have go:∀ (p:Addr) vs ts,(SqL X.K H1 p vs\/SqT X.K H1 p vs)->Reps X.K C.hd (Own C ρ σ) H1 vs ts->(∃ rs:List ((Int×Int)×Int),ts=rD rs/\rs.length<100000/\(∀ r∈rs,RlOk r)/\∀ rs':List ((Int×Int)×Int),rs'.Perm rs->rs'.Pairwise (fun a b=>rkn a<=rkn b)->R (rD rs') n1) ->
   ∃ (p':Addr) (zs:List (V×((Int×Int)×Int))),[V.ref p]=[V.ref p']/\(SqL X.K H1 p' (zs.map (·.1))\/SqT X.K H1 p' (zs.map (·.1)))/\zs.length<100000/\(∀ z∈zs,RlV X.K H1 z) /\
  ∀ zs':List (V×((Int×Int)×Int)),zs'.Perm zs->zs'.Pairwise (fun a b=>rkn a.2<=rkn b.2)->∀ l,H1 l=none->Q (.ref l) (upd H1 l (.lst (zs'.map (·.1)))):=fun p vs ts hs rp ⟨rs,ets,l64,ok,hR⟩=>by
  subst ets
  have ln:=rp.length
  rw [zbh] at ln
  have rel:=zhM rp ok
  refine ⟨p,vs.zip rs,rfl,?_,by simp;lia,fun z hz=>(rel z hz).1,fun zs' pm pw l hl=>?_⟩
  ·rw [List.map_fst_zip (by lia)];exact hs
  ·have hl0:H l=none:=by
    cases z:H l with
    | none=>rfl
    | some o =>
     by_cases y:C.hd=some l
     ·obtain ⟨d,m,t,q,_⟩:=h1 l y
      rw [hl] at q;cases q
     ·rw [e1 l o z y] at hl;cases hl
   have pr:(zs'.map (·.2)).Perm rs:=by
    have:=pm.map (·.2)
    rwa [List.map_snd_zip (by lia)] at this
   have rp':∀ zs:List (V×((Int×Int)×Int)),(∀ z∈zs,Rep X.K C.hd (Own C ρ σ) H1 z.1 (.tuple [.tuple [.int z.2.1.1,.int z.2.1.2],.int z.2.2]))->Reps X.K C.hd (Own C ρ σ) H1 (zs.map (·.1)) (rD (zs.map (·.2))):=by
    intro zs
    induction zs with
    | nil=>intro _;exact .nil
    | cons a l ih=>intro h;exact .cons (h a (.head _)) (ih fun x hx=>h x (.tail _ hx))
   refine hq _ n1 l _ _ (hR _ pr (by rw [List.pairwise_map];exact pw)) (e1.trans (ExtE.new hl)) (h1.same (zav hl)) hl0 zao ?_
   refine (rp' zs' fun z hz=>(rel z (pm.mem_iff.mp hz)).2).mono (fun b o hb z=>z.elim id fun z=>?_) fun b o _ hb=>zav hl b o hb
   subst z;rw [hl] at hb;cases hb
 cases t with
 | list ts =>
  obtain ⟨p,vs,rfl,h1',h2⟩:=q1.lstI
  exact go p vs ts (.inl (.of h1')) h2 r1
 | tuple ts =>
  obtain ⟨p,vs,rfl,h1',h2⟩:=q1.tupI
  exact go p vs ts (.inr h1') h2 r1
 | _=>exact r1.elim
end
instance zoZ {d:DTE}{ρ:En}{n:Nat}{R:List PyData->Nat->Prop}:Stp (zkH d ρ n R) (d ρ n fun t n1=>zkp t fun ts=>R ts n1):=⟨fun h=>h⟩
end L2
namespace L2
open PySem PySem.Spec PyProof PyProof.Rows
section
variable {prog:Program}{w:World}{A:Around}{E:Value->Shared->Prop}
theorem PrT.keepL {h h':Heap}{x:Value}{z:List Key×Addr×Value} (d it:Addr) (hd:∃ o,h.get? d=some o/\o.cls=.type "dict") (hi:∃ o,h.get? it=some o/\o.cls=.type "list_iterator") (r:PrT prog w h x z) (kp:KpH d it h h'):PrT prog w h' x z:=by
 obtain ⟨p,e,tp,tk⟩:=r
 refine ⟨p,e,?_,zd6 tk fun o=>kp _ o (zjc tk hd (by decide)) (zjc tk hi (by decide))⟩
 have n1:=tup_ne tp hd (by decide)
 have n2:=tup_ne tp hi (by decide)
 obtain ⟨o,g,c⟩:=tp
 exact ⟨o,kp p o n1 n2 g,c⟩
theorem zgV {h h':Heap}{d it:Addr}{xs:List (List Key×Addr×Value)} (hd:h.DictOfH (tupleKind (zal prog w)) d xs) (hi:∃ o,h.get? it=some o/\o.cls=.type "list_iterator") (kp:∀ b o,b≠it->h.get? b=some o->h'.get? b=some o) (ndi:d≠it):h'.DictOfH (tupleKind (zal prog w)) d xs:=by
 obtain ⟨o,es,ep,ho,hc,hd,he,his,hn⟩:=hd
 exact ⟨o,es,ep,kp d o ndi ho,hc,hd,he,fun x hx=>zd6 (his x hx) fun o e=>kp _ o (zjc (his x hx) hi (by decide)) e,hn⟩
def mkX (xs ps:List (List Key×Addr×Value)):List (List Key×Addr×Value):=ps.foldl (fun acc z=>storedH acc z.1 z.2.1 z.2.2) xs
theorem zfP (xs:List (List Key×Addr×Value)) (k:List Key) (a:Addr) (v:Value):(storedH xs k a v).length<=xs.length+1:=by
 unfold storedH
 split
 ·rw [List.length_map];exact Nat.le_succ _
 ·simp
theorem zez {d it l:Addr}{items:Array Value}{res:Value} (hA:A.handled=none) (hu:A.units+1<cLine) (ndi:d≠it) (nl:l≠d) (nli:l≠it):∀ (ps:List (List Key×Addr×Value)) (i:Nat) (xs:List (List Key×Addr×Value)) (s:Shared) (t:Tok) {R:Result->Shared->Prop},
  s.heap.IsList l items->s.heap.IsListIter it l i->s.heap.DictOfH (tupleKind (zal prog w)) d xs->xs.length+ps.length<=sizeLine->Paired (PrT prog w s.heap) (items.toList.drop i) ps ->
  (∀ h' tk,KpH d it s.heap h'->h'.DictOfH (tupleKind (zal prog w)) d (mkX xs ps)->R (.ok (.ret res)) { s with heap:=h',toks:=tk }) ->
  codeAny (model prog w) A (.builtin "dict.update.loop" ⟨[.ref d,.ref it,.int i t,res],[]⟩) R s
 | [],i,xs,s,t,R,hl,hi,hd,hz,hp,h=>by
  have e:items[i]?=none:=by
   generalize hq:items.toList.drop i=q at hp
   cases hp
   have:=List.drop_eq_nil_iff.mp hq
   exact Array.getElem?_eq_none (by simpa using this)
  refine codeAny_builtin zb7 ?_
  show wpAny _ _ (pyNext (.ref it) >>= _) _ _ s
  refine wpAny_bind (wpAny_pyNext_list_end hA hi hl e fun h' hx=>?_)
  show wpAny _ _ (Builtin.Dict.addKeywords d [] >>= fun _=>ret res) _ _ _
  unfold Builtin.Dict.addKeywords
  rw [List.forIn_nil]
  obtain ⟨oi,gi,ci,_⟩:=id hi
  exact wpAny_bind (wpAny_pure (wpAny_pure (h h' s.toks (fun b o _ n ho=>hx b o n ho) (zgV hd ⟨oi,gi,ci⟩ (fun b o n e=>hx b o n e) ndi))))
 | (k,a,v)::ps,i,xs,s,t,R,hl,hi,hd,hz,hp,h=>by
  generalize hq:items.toList.drop i=q at hp
  cases hp with
  | cons r rs =>
   rename_i x xs'
   have hi':∃ o,s.heap.get? it=some o/\o.cls=.type "list_iterator":=by obtain ⟨oi,gi,ci,_⟩:=id hi;exact ⟨oi,gi,ci⟩
   obtain ⟨p,rfl,tp,ki⟩:=r
   have np:=tup_ne tp (zkD hd) (by decide)
   have npi:=tup_ne tp hi' (by decide)
   obtain ⟨o,ho,oc,n,od⟩:=id tp
   have hlt:i<items.toList.length:=by
    by_cases z:i<items.toList.length
    ·exact z
    ·rw [List.drop_of_length_le (by lia)] at hq;cases hq
   rw [List.drop_eq_getElem_cons hlt] at hq
   obtain ⟨e1,e2⟩:=List.cons.inj hq
   have e:items[i]?=some (.ref p):=by rw [<- e1,<- Array.getElem?_toList];exact List.getElem?_eq_getElem hlt
   refine codeAny_builtin zb7 ?_
   show wpAny _ _ (pyNext (.ref it) >>= _) _ _ s
   refine wpAny_bind (wpAny_pyNext_list_item hi hl e fun h1 hi1 hs1=>?_)
   refine wpAny_bind (wpAny_holding ?_)
   have ho1:h1.get? p=some o:=(hs1.2 p npi).trans ho
   have hT:(⟨h1,s.gens,s.drawn,s.toks,s.os⟩:Shared).TypeIs (.ref p) "tuple":=⟨o,ho1,oc⟩
   refine wpAny_bind (wpAny_tryCatch ?_)
   unfold Builtin.Dict.pairItems
   refine wpAny_bind (wpAny_typeOf hT ?_)
   rw [if_pos (by rfl)]
   refine wpAny_bind (wpAny_seqItems ho1 od (wpAny_pure ?_))
   show wpAny _ _ (holding [.ref a,v] (dictSet d (.ref a) v)) _ _ _
   have kp1:KpH d it s.heap h1:=fun b ob _ n hb=>(hs1.2 b n).trans hb
   have hd1:=zgV hd hi' (fun b ob n hb=>(hs1.2 b n).trans hb) ndi
   have ki1:IsTupleKey (zal prog w) h1 k a:=zd6 ki fun ob hb=>(hs1.2 a (zjc ki hi' (by decide))).trans hb
   rw [List.length_cons] at hz
   refine wpAny_holding (wpAny_dictSet_heap (s:=⟨h1,s.gens,s.drawn,s.toks,s.os⟩) (knd:=tupleKind (zal prog w)) (by show Around.units _<cLine;rw [zhv];exact hu) ki1 hd1 (fun h2 hd2 hs2=>?_) (by lia))
   have kp2:KpH d it h1 h2:=fun b ob n _ hb=>(hs2.2 b n).trans hb
   refine wpAny_pure ⟨Code.quiet_builtin _ (by decide +kernel),?_⟩
   have kp:KpH d it s.heap h2:=fun b ob n1 n2 hb=>kp2 b ob n1 n2 (kp1 b ob n1 n2 hb)
   refine zez (items:=items) hA hu ndi nl nli ps (i+1) (storedH xs k a v) _ 0 ?_ ?_ hd2 ?_ ?_ fun h' tk kp' hd'=>?_
   ·obtain ⟨ol,hol,r⟩:=hl
    exact ⟨ol,kp l ol nl nli hol,r⟩
   ·obtain ⟨oi,hoi,r⟩:=hi1
    exact ⟨oi,(hs2.2 it (Ne.symm ndi)).trans hoi,r⟩
   ·have:=zfP xs k a v
    lia
   ·rw [e2]
    exact Paired.mapP rs fun _ _ r=>r.keepL d it (zkD hd) hi' kp
   ·exact h h' tk (fun b ob n1 n2 hb=>kp' b ob n1 n2 (kp b ob n1 n2 hb)) hd'
theorem zdA {s:Shared}{l:Addr}{o:Obj}{its:Array Value}{n:Nat}{ps:List (List Key×Addr×Value)}{Q:Value->Shared->Prop} (ho:s.heap.get? l=some o) (hc:o.cls=.type "list") (hq:o.data=.seq its n) (hd:o.dict=none) (hA:A.handled=none) (hu:A.units+64<cLine)
  (hp:Paired (PrT prog w s.heap) its.toList ps) (hz:ps.length<=sizeLine)
  (h:∀ h' tk,(∀ b ob,s.heap.get? b=some ob->h'.get? b=some ob)->h'.DictOfH (tupleKind (zal prog w)) s.heap.objs.size (mkX [] ps)->Q (.ref s.heap.objs.size) { s with heap:=h',toks:=tk }) :
  wpAny (model prog w) A (call (.type "dict") [.ref l]) Q E s:=by
 refine callType_codes (Q₁:=fun obj s₁=>obj=.ref s.heap.objs.size/\s₁={ s with heap:=s.heap.push { cls:=.type "dict",data:=.dict #[] } }) F.kt_called_dict (F.kt_typeCall_dict_1 _) F.entry_dict_init (kt_code_dict_new _ ⟨rfl,rfl⟩) ?_
 rintro obj s₁ ⟨rfl,rfl⟩
 have hnew:(s.heap.push { cls:=.type "dict",data:=.dict #[] }).DictOfH (tupleKind (zal prog w)) s.heap.objs.size []:=Heap.DictOfH.new s.heap
 have ho':(s.heap.push { cls:=.type "dict",data:=.dict #[] }).get? l=some o:=Heap.get?_push_of_some _ ho
 have hnt:=hnew.typeIs (s:={ s with heap:=s.heap.push { cls:=.type "dict",data:=.dict #[] } })
 refine ⟨hnt,F.args_dict_init_2 _ _,?_⟩
 unfold Builtin.«dict.__init__»
 refine wpAny_bind ?_
 unfold Builtin.Dict.selfAndRest
 refine wpAny_bind (wpAny_notOrdered_dict hnt ?_)
 show wpAny _ _ (pure (s.heap.objs.size,[Value.ref l])) _ _ _
 refine wpAny_pure ?_
 show wpAny _ _ (Builtin.Dict.updateFrom "dict.__init__" s.heap.objs.size (.ref l) [] .none) _ _ _
 unfold Builtin.Dict.updateFrom
 refine wpAny_bind (wpAny_typeOf (T:="list") ⟨o,ho',hc⟩ ?_)
 rw [if_pos (by rfl)]
 refine wpAny_bind (zdK ho' hc ⟨its,n,hq⟩ hd hA fun h1 tk1 k1=>?_)
 rw [if_pos (show (none:Option Value).isNone=true from rfl)]
 refine wpAny_bind (wpAny_rule ?_)
 have ho1:=k1 l o ho'
 have hl1:h1.IsList l its:=⟨o,ho1,hc,n,hq⟩
 refine wpAny_bind (wpAny_pyIter_list hl1 ?_)
 refine wpAny_pure ⟨Code.quiet_builtin _ (by decide +kernel),?_⟩
 obtain ⟨od,es,ep,hod,rd⟩:=hnew
 have hod1:=k1 _ od hod
 have l1:=Heap.lt_size hod1
 have l2:=Heap.lt_size ho
 have l3:=Heap.lt_size ho1
 have kk:∀ b ob,s.heap.get? b=some ob->(h1.push { cls:=.type "list_iterator",data:=.fields #[.ref l,.int 0 0] }).get? b=some ob:=fun b ob hb=>Heap.get?_push_of_some _ (k1 b ob (Heap.get?_push_of_some _ hb))
 refine zez (A:=A.in1) (items:=its) (xs:=[]) (i:=0) (ps:=ps) (show A.in1.handled=none from hA) (show A.units+1+1<cLine by lia) (Nat.ne_of_lt l1) (Nat.ne_of_lt l2) (Nat.ne_of_lt l3) _ 0 ?_ ?_ ?_ (by simpa using hz) ?_ fun h' tk kp hd'=>?_
 ·exact ⟨o,Heap.get?_push_of_some _ ho1,hc,n,hq⟩
 ·exact ⟨_,Heap.get?_push_size _ rfl,rfl,rfl⟩
 ·exact ⟨od,es,ep,Heap.get?_push_of_some _ hod1,rd.1,rd.2.1,rd.2.2.1,by simp,by simp⟩
 ·rw [List.drop_zero]
  refine Paired.mapP hp fun x z ⟨p,e,tp,tk⟩=>⟨p,e,?_,zd6 tk fun ob=>kk _ ob⟩
  obtain ⟨ob,hob,r⟩:=tp
  exact ⟨ob,kk p ob hob,r⟩
 ·exact ⟨rfl,h h' tk (fun b ob hb=>kp b ob (Nat.ne_of_lt (Heap.lt_size hb)) (Nat.ne_of_lt (Nat.lt_trans (Heap.lt_size hb) l1)) (kk b ob hb)) hd'⟩
theorem zkZ {s:Shared}{d:Addr}{es:Array DictEntry}{ep:Nat}{Q:Value->Shared->Prop} (hs:(d == sysModules)=false) (hm:zcO s.heap d es ep) (hz:es.size<=sizeLine) (h:∀ t tk,Q (.int es.size t) { s with toks:=tk }):wpAny (model prog w) A (call (.builtin "len") [.ref d]) Q E s:=by
 obtain ⟨o,g1,g2,g3⟩:=hm
 have ty:s.TypeIs (.ref d) "dict":=⟨o,g1,g2.1⟩
 have hl:sizeLine=16777216:=sizeLine_eq
 refine Calls.call_function_entry kind_len plain_len entry_len (args_len1 _) ?_
 unfold Builtin.«len»
 refine wpAny_bind (m:=oneArg "len" _) (wpAny_pure (wpAny_bind (m:=callSpecial? (.ref d) (Str.ofString "__len__")) ?_))
 refine wpAny_callSpecial?_slot (name:=Str.ofString "__len__") ty PySem.F.slot_dict_len ?_
 refine wpAny_call_entry PySem.F.slot_dict_len ty PySem.F.entry_dict_len ?_ (PySem.F.args_dict_len_1 _)
 show wpAny _ _ (dictSize d >>= _) _ _ s
 unfold dictSize
 refine wpAny_bind (wpAny_bind (wpAny_dictEntries g1 g3 (wpAny_pure ?_)))
 show wpAny _ _ (Builtin.Dict.pendingCount d >>= _) _ _ s
 refine wpAny_bind (wpAny_pendingCount_other hs (wpAny_ret_mkInt ?_))
 rw [show ((es.size:Int)+((0:Nat):Int))=(es.size:Int) from by simp]
 refine wpAny_bind (wpAny_holding (wpAny_pure (wpAny_bind (wpAny_letGo ?_))))
 show wpAny _ _ (if ((es.size:Nat):Int)<0 then _ else _) _ _ _
 rw [if_neg (by lia)]
 show wpAny _ _ (if ((es.size:Nat):Int)>=2 ^ 63 then _ else _) _ _ _
 rw [if_neg (by lia)]
 exact wpAny_bind (wpAny_mkInt (wpAny_pure ⟨_,rfl,h _ _⟩))
end
def mkZ (zs:ZT):ZT:=zs.foldl (fun acc z=>zput acc z.1 z.2.1 z.2.2) []
def mkT (ks:KT2):KT2:=ks.foldl (fun acc z=>putT acc z.1 z.2) []
def KZp (K:PySem.W.Frag) (H:Hp) (x:V) (z:(Int×Int)×Addr×V):Prop:=∃ a,x=.ref a/\SqT K H a [.ref z.2.1,z.2.2]/\SqT K H z.2.1 [.int z.1.1,.int z.1.2]
section
variable {X:Cx}
theorem zkI {zs zs':ZT}{ps xs:List (List Key×Addr×Value)} (r:Paired ZX zs ps) (a:Paired ZX zs' xs):Paired ZX (zs.foldl (fun acc z=>zput acc z.1 z.2.1 z.2.2) zs') (mkX xs ps):=by
 induction r generalizing zs' xs with
 | nil=>exact a
 | @cons z x zs ps h t ih =>
  unfold mkX
  rw [List.foldl_cons,List.foldl_cons]
  have:Paired ZX (zput zs' z.1 z.2.1 z.2.2) (storedH xs x.1 x.2.1 x.2.2):=by
   rw [h.1,h.2.1];exact zx_put a z.1 h.2.2
  exact ih this
theorem zlr (zs:ZT):(mkZ zs).length<=zs.length:=by
 have key:∀ (zs acc:ZT),(zs.foldl (fun acc z=>zput acc z.1 z.2.1 z.2.2) acc).length<=acc.length+zs.length:=by
  intro zs
  induction zs with
  | nil=>intro acc;simp
  | cons z zs ih =>
   intro acc
   have:=ih (zput acc z.1 z.2.1 z.2.2)
   have:=zgh acc z.1 z.2.1 z.2.2
   rw [List.foldl_cons,List.length_cons]
   lia
 simpa [mkZ] using key zs []
theorem zhZ {pins:List (Addr×Obj)}{σ:St}{H:Hp}{s:Shared} (I:Inv X pins σ H s):∀ {vs:List V}{its:List Value}{zs:ZT},Vals vs its->Paired (KZp X.K H) vs zs ->
  ∃ ps:List (List Key×Addr×Value),Paired ZX zs ps/\Paired (PrT X.prog X.w s.heap) its ps
 | [],_,_,r,h=>by cases r;cases h;exact ⟨[],.nil,.nil⟩
 | v::vs,_,_,r,h=>by
  cases r with
  | cons r1 r2 =>
   cases h with
   | @cons _ z _ zs h1 h2 =>
    obtain ⟨a,rfl,sq,sk⟩:=h1
    obtain ⟨ps,k1,k2⟩:=zhZ I r2 h2
    obtain ⟨its2,rv,it,_⟩:=I.tuple sq
    cases rv with
    | cons q1 q2 =>
     cases q2 with
     | cons q3 q4 =>
      cases q4
      rename_i u w
      cases (show _=Value.ref a from r1)
      cases (show _=Value.ref z.2.1 from q1)
      exact ⟨(kL z.1,z.2.1,w)::ps,.cons ⟨rfl,rfl,q3⟩ k1,.cons ⟨a,rfl,it,zij (k:=kL z.1) I sk⟩ k2⟩
theorem zhp (hc:X.calm=true) (hu:X.A.units+64<cLine):zbG X (.type "dict") (fun xs H Q=>∃ (p:Addr) (vs:List V) (zs:ZT),xs=[.ref p]/\H p=some (.lst vs)/\Paired (KZp X.K H) vs zs/\∀ l,H l=none->Q (.ref l) (upd H l (ZDO l (mkZ zs)))):=by
 intro pins s σ H xs us Q I r h
 obtain ⟨p,vs,zs,rfl,hp,pr,q⟩:=h
 obtain ⟨u,rfl,ru⟩:=r.one
 cases (show u=Value.ref p from ru)
 obtain ⟨lz,its,n,rel,g⟩:=I.hok p _ hp
 obtain ⟨ps,k1,k2⟩:=zhZ I rel pr
 have lp:zs.length=vs.length:=(Paired.length pr).symm
 have l2:ps.length=zs.length:=(Paired.length k1).symm
 refine zdA (A:=X.A) (its:=its.toArray) (ps:=ps) g rfl rfl rfl (I.ok.hd hc) hu (by simpa using k2) (by lia) fun h' tk kp dd=>?_
 have hb:(s.heap.objs.size == sysModules)=false:=beq_eq_false_iff_ne.mpr (Ne.symm (Nat.ne_of_lt I.big))
 refine ⟨.ref s.heap.objs.size,_,I.laid (a:=s.heap.objs.size) (o:=ZDO s.heap.objs.size (mkZ zs)) (t':=tk) kp (Nat.le_refl _) (zdo_ok hb ?_ (zkI k1 .nil) dd),rfl,q _ (I.hok.fresh (Nat.le_refl _))⟩
 have:=zlr zs
 lia
theorem ziQ:zbG X (.builtin "len") (fun xs H Q=>∃ a zs,xs=[.ref a]/\H a=some (ZDO a zs)/\Q (.int zs.length) H):=by
 intro pins s σ H xs us Q I r h
 obtain ⟨a,zs,rfl,ha,q⟩:=h
 obtain ⟨u,rfl,rx⟩:=vals1 r
 cases rx
 obtain ⟨⟨hs,lz,nd,o,es,ep,g1,g2,g3,pr⟩,_⟩:=I.hok a _ ha
 have el:es.size=zs.length:=by have:=Paired.length pr;simpa using this.symm
 refine zkZ (es:=es) (ep:=ep) hs ⟨o,g1,g2,g3⟩ (by lia) fun t tk=>⟨.int zs.length,H,I.tok tk,⟨t,by rw [el]⟩,q⟩
end
def prT (q:(Int×Int)×PyData):PyData:=.tuple [.tuple [.int q.1.1,.int q.1.2],q.2]
theorem zgw {K:PySem.W.Frag}{hd:Option Addr}{O:Addr->Prop}{H:Hp}:∀ {vs:List V}{ks:KT2},Reps K hd O H vs (ks.map prT)->∃ zs:ZT,Paired (KZp K H) vs zs/\RepsT K hd O H zs ks
 | _,[],r=>by cases r;exact ⟨[],.nil,.nil⟩
 | _,a::ks,r=>by
  cases r with
  | cons h r =>
   obtain ⟨zs,z1,z2⟩:=zgw r
   obtain ⟨b,ws,rfl,sq,rp⟩:=h.tupI
   cases rp with
   | cons x1 x2 =>
    cases x2 with
    | cons x3 x4 =>
     cases x4
     obtain ⟨q,rfl,sq2⟩:=x1.bkI
     exact ⟨(a.1,q,_)::zs,.cons ⟨b,rfl,sq,sq2⟩ z1,.cons x1 x3 z2⟩
theorem zdO {K:PySem.W.Frag}{hd:Option Addr}{O:Addr->Prop}{H:Hp}:∀ {zs:ZT}{ks:KT2}{zs':ZT}{ks':KT2},RepsT K hd O H zs ks->RepsT K hd O H zs' ks'->RepsT K hd O H (zs.foldl (fun acc z=>zput acc z.1 z.2.1 z.2.2) zs') (ks.foldl (fun acc z=>putT acc z.1 z.2) ks')
 | _,_,_,_,.nil,a=>a
 | _,_,_,_,.cons (zs:=zs) (ks:=ks) h1 h2 r,a=>zdO (zs:=zs) (ks:=ks) r (a.put _ h1 h2)
section
variable {X:Cx}{e:Expr}{d:DTA}{pos p p2 cp:Pos}{k:Nat}
def zog (d:DTA):DTE:=fun ρ n R=>d ρ n fun ts n1=>∃ ks:KT2,ts=ks.map prT/\R (.int (mkT ks).length) n1
theorem zlW (hc:X.calm=true) (hr:Room k X.A) (hm:X.mg "len" = none) (hmd:X.mg "dict" = none) (h:DN X e d) (hs:starEach [.Call (.Name "dict" p2) [e] [] cp] X.env=[(false,eval (.Call (.Name "dict" p2) [e] [] cp) X.env)]:=by rfl) (hst:starEach [e] X.env=[(false,eval e X.env)]:=by rfl) (hg:Gl X "len":=by rfl) (hgd:Gl X "dict":=by rfl) :
  DE X (.Call (.Name "len" p) [.Call (.Name "dict" p2) [e] [] cp] [] pos) (zog d):=by
 obtain ⟨ta,pa,h⟩:=h
 have hu:X.A.units+64<cLine:=by have:=hr.un;lia
 refine ⟨_,zg9 ziQ hm zaU (za0 (zeS (zhp hc hu) hgd hmd rfl (zcF pa zeU hst) (he:=hst)) zbQ hs) hg,fun C ρ σ H n Q R S hd hq=>?_⟩
 refine h C ρ σ H n _ _ S hd fun ts n1 p vs H1 ⟨ks,ets,r⟩ e1 hn1 hp0 hp rp=>?_
 subst ets
 obtain ⟨zs,z1,z2⟩:=zgw rp
 refine ⟨p,vs,zs,rfl,hp,z1,fun l hl=>⟨l,_,rfl,zao,?_⟩⟩
 have el:(mkZ zs).length=(mkT ks).length:=(zdO z2 .nil).length
 rw [el]
 exact hq _ n1 _ _ r (e1.trans (ExtE.new hl)) (hn1.same (zav hl)) (.int _)
end
instance zqf {d:DTA}{ρ:En}{n:Nat}{R:PyData->Nat->Prop}:Stp (zog d ρ n R) (d ρ n fun ts n1=>∃ ks:KT2,ts=ks.map prT/\R (.int (mkT ks).length) n1):=⟨fun h=>h⟩
end L2
namespace L2
open PySem
abbrev RL:=List ((Int×Int)×Int)
def kR (rs:RL):KT2:=rs.map fun r=>(r.1,.int r.2)
def putR (rs:RL) (k:Int×Int) (s:Int):RL:=if (rs.any fun z=>decide (z.1=k))=true then rs.map (fun z=>if z.1=k then (z.1,s) else z) else rs++[(k,s)]
theorem zhR {rs:RL}{k:Int×Int}{s:Int}:putT (kR rs) k (.int s)=kR (putR rs k s):=by
 have ea:((kR rs).any fun z=>decide (z.1=k))=rs.any fun z=>decide (z.1=k):=by unfold kR;rw [List.any_map];rfl
 unfold putT putR
 rw [ea]
 split
 ·unfold kR
  rw [List.map_map,List.map_map]
  refine List.map_congr_left fun z _=>?_
  dsimp only [Function.comp]
  split <;> rfl
 ·unfold kR
  rw [List.map_append];rfl
theorem zkq {rs:RL}:(kR rs).length=rs.length:=by simp [kR]
def Rls0 (bits:Int) (rs:RL):Prop:=(∀ r∈rs,IsBk bits r.1.1 r.1.2/\0<=r.2/\r.2<=1)/\(rs.map (·.1)).Nodup
theorem zck {rs:RL}{k:Int×Int}{s:Int}:(putR rs k s).map (·.1)=if (rs.any fun z=>decide (z.1=k))=true then rs.map (·.1) else rs.map (·.1)++[k]:=by
 unfold putR
 split
 ·rw [List.map_map]
  refine List.map_congr_left fun z _=>?_
  dsimp only [Function.comp]
  split <;> rfl
 ·rw [List.map_append];rfl
theorem zjt {rs:RL}{k:Int×Int}{s:Int}:(putR rs k s).length<=rs.length+1:=by
 unfold putR
 split
 ·rw [List.length_map];exact Nat.le_succ _
 ·simp
theorem Rls0.put {bits:Int}{rs:RL} (h:Rls0 bits rs) {k:Int×Int}{s:Int} (hk:IsBk bits k.1 k.2) (s0:0<=s) (s1:s<=1):Rls0 bits (putR rs k s):=by
 refine ⟨fun r hr=>?_,?_⟩
 ·unfold putR at hr
  split at hr
  ·obtain ⟨z,hz,rfl⟩:=List.mem_map.mp hr
   have:=h.1 z hz
   split
   ·exact ⟨this.1,s0,s1⟩
   ·exact this
  ·rcases List.mem_append.mp hr with hr | hr
   ·exact h.1 r hr
   ·cases List.mem_singleton.mp hr
    exact ⟨hk,s0,s1⟩
 ·rw [zck]
  split
  ·exact h.2
  ·rename_i hn
   rw [List.nodup_append]
   refine ⟨h.2,by simp,fun a ha b hb=>?_⟩
   cases List.mem_singleton.mp hb
   rintro rfl
   obtain ⟨z,hz,rfl⟩:=List.mem_map.mp ha
   exact hn (List.any_eq_true.mpr ⟨z,hz,by simp⟩)
def bkLt (a b:Int×Int):Prop:=a.1<b.1\/(a.1=b.1/\a.2<b.2)
def Rls (bits:Int) (rs:RL):Prop:=(∀ r∈rs,IsBk bits r.1.1 r.1.2/\0<=r.2/\r.2<=1)/\rs.Pairwise fun a b=>bkLt a.1 b.1
theorem Rls0.ok {bits:Int}{rs:RL} (b1:bits<=64) (h:Rls0 bits rs):∀ r∈rs,RlOk r:=fun r hr=>by
 have:=h.1 r hr
 have h1:=this.1.1
 have h2:=this.1.2.1
 exact ⟨h1,by lia,this.2⟩
theorem Rls0.sort {bits:Int}{rs rs':RL} (b1:bits<=64) (h:Rls0 bits rs) (pm:rs'.Perm rs) (pw:rs'.Pairwise fun a b=>rkn a<=rkn b):Rls bits rs':=by
 refine ⟨fun r hr=>h.1 r (pm.mem_iff.mp hr),?_⟩
 have nd:(rs'.map (·.1)).Nodup:=(pm.map _).nodup_iff.mpr h.2
 rw [List.nodup_iff_pairwise_ne,List.pairwise_map] at nd
 have al:∀ r∈rs',RlOk r:=fun r hr=>h.ok b1 r (pm.mem_iff.mp hr)
 refine (pw.and nd).imp_of_mem fun {a b} ha hb ⟨h1,h2⟩=>?_
 have oa:=al a ha
 have ob:=al b hb
 unfold rkn at h1
 unfold RlOk at oa ob
 obtain ⟨a1,a2,a3,a4⟩:=oa
 obtain ⟨b1',b2,b3,b4⟩:=ob
 unfold bkLt
 have ne:¬(a.1.1=b.1.1/\a.1.2=b.1.2):=fun z=>h2 (Prod.ext z.1 z.2)
 by_cases e:a.1.1=b.1.1
 ·right
  refine ⟨e,?_⟩
  have:a.1.2≠b.1.2:=fun z=>ne ⟨e,z⟩
  lia
 ·left
  lia
theorem zls {rs:RL}:(mkT (kR rs)).length=rs.length↔(rs.map (·.1)).Nodup:=by
 have ek:∀ (rs acc:RL),(kR rs).foldl (fun acc z=>putT acc z.1 z.2) (kR acc)=kR (rs.foldl (fun acc z=>putR acc z.1 z.2) acc):=by
  intro rs
  induction rs with
  | nil=>intro acc;rfl
  | cons a l ih =>
   intro acc
   show (kR l).foldl _ (putT (kR acc) a.1 (.int a.2))=_
   rw [zhR,ih]
   rfl
 have e0:mkT (kR rs)=kR (rs.foldl (fun acc z=>putR acc z.1 z.2) []):=ek rs []
 rw [e0,zkq]
 have key:∀ (rs acc:RL),(acc.map (·.1)).Nodup->((rs.foldl (fun acc z=>putR acc z.1 z.2) acc).length<=acc.length+rs.length/\((rs.foldl (fun acc z=>putR acc z.1 z.2) acc).length=acc.length+rs.length↔(acc.map (·.1)++rs.map (·.1)).Nodup)):=by
  intro rs
  induction rs with
  | nil=>intro acc h;simp [h]
  | cons a l ih =>
   intro acc h
   rw [List.foldl_cons]
   by_cases e:(acc.any fun z=>decide (z.1=a.1))=true
   ·have e1:putR acc a.1 a.2=acc.map (fun z=>if z.1=a.1 then (z.1,a.2) else z):=by unfold putR;rw [if_pos e]
    have e2:(putR acc a.1 a.2).map (·.1)=acc.map (·.1):=by rw [zck,if_pos e]
    have e3:(putR acc a.1 a.2).length=acc.length:=by rw [e1,List.length_map]
    have:=(ih (putR acc a.1 a.2) (by rw [e2];exact h)).1
    rw [e3] at this
    refine ⟨by rw [List.length_cons];lia,⟨fun z=>by rw [List.length_cons] at z;lia,fun z=>?_⟩⟩
    exfalso
    obtain ⟨y,hy,ey⟩:=List.any_eq_true.mp e
    have ey:y.1=a.1:=by simpa using ey
    rw [List.map_cons,List.nodup_append] at z
    exact z.2.2 y.1 (List.mem_map_of_mem hy) a.1 (by simp) ey
   ·have e1:putR acc a.1 a.2=acc++[(a.1,a.2)]:=by unfold putR;rw [if_neg e]
    have nd:((putR acc a.1 a.2).map (·.1)).Nodup:=by
     rw [zck,if_neg e,List.nodup_append]
     refine ⟨h,by simp,fun x hx y hy=>?_⟩
     cases List.mem_singleton.mp hy
     rintro rfl
     obtain ⟨z,hz,ez⟩:=List.mem_map.mp hx
     exact e (List.any_eq_true.mpr ⟨z,hz,by simp [ez]⟩)
    have i:=ih (putR acc a.1 a.2) nd
    rw [zck,if_neg e] at i
    have el:(putR acc a.1 a.2).length=acc.length+1:=by rw [e1];simp
    rw [el] at i
    refine ⟨by rw [List.length_cons];lia,?_⟩
    rw [List.length_cons,List.map_cons]
    have:acc.length+1+l.length=acc.length+(l.length+1):=by lia
    rw [<- this,i.2]
    simp
 have:=(key rs [] (by simp)).2
 simpa using this
theorem zgI {rs:RL}:Okd (.list (rD rs))/\Okd (.tuple (rD rs)):=by
 have:∀ rs:RL,PyData.canLayAll0 (rD rs)=true/\PyData.depthAll (rD rs)<=2:=by
  intro rs
  induction rs with
  | nil=>exact ⟨by simp [rD,PyData.canLayAll0],by simp [rD,PyData.depthAll]⟩
  | cons b l ih =>
   refine ⟨?_,?_⟩
   ·have:=ih.1
    simp only [rD,List.map_cons,PyData.canLayAll0,PyData.canLay0,Bool.and_true,Bool.true_and] at this ⊢
    exact this
   ·have:=ih.2
    simp only [rD,List.map_cons,PyData.depthAll,PyData.depth] at this ⊢
    lia
 have h1:=(this rs).1
 have h2:=(this rs).2
 exact ⟨⟨by simp only [PyData.canLay0];exact h1,by simp only [PyData.depth];lia⟩,by simp only [PyData.canLay0];exact h1,by simp only [PyData.depth];lia⟩
theorem zn7 {rs rs':RL}:PyData.eqv (.list (rD rs)) (.list (rD rs'))=decide (rs=rs'):=by
 have key:∀ rs rs':RL,PyData.eqvAll (rD rs) (rD rs')=decide (rs=rs'):=by
  intro rs
  induction rs with
  | nil =>
   intro rs'
   cases rs' with
   | nil=>simp [rD,PyData.eqvAll]
   | cons b l=>simp [rD,PyData.eqvAll]
  | cons a l ih =>
   intro rs'
   cases rs' with
   | nil=>simp [rD,PyData.eqvAll]
   | cons b l' =>
    have i:=ih l'
    obtain ⟨⟨a1,a2⟩,a3⟩:=a
    obtain ⟨⟨b1,b2⟩,b3⟩:=b
    unfold rD at i ⊢
    rw [List.map_cons,List.map_cons,PyData.eqvAll,i,Bool.eq_iff_iff]
    simp only [PyData.eqv,PyData.eqvAll,Bool.and_true,Bool.and_eq_true,beq_iff_eq,decide_eq_true_eq,List.cons.injEq,Prod.mk.injEq]
 rw [PyData.eqv]
 exact key rs rs'
theorem zkY {a b:(Int×Int)×Int} (ha:RlOk a) (hb:RlOk b) (h:rkn a=rkn b):a=b:=by
 obtain ⟨⟨a1,a2⟩,a3⟩:=a
 obtain ⟨⟨b1,b2⟩,b3⟩:=b
 unfold RlOk at ha hb
 unfold rkn at h
 dsimp only at ha hb h
 have:a1=b1:=by lia
 have:a2=b2:=by lia
 have:a3=b3:=by lia
 simp [*]
theorem zkd {a b:(Int×Int)×Int} (ha:RlOk a) (hb:RlOk b) (h:bkLt a.1 b.1):rkn a<rkn b:=by
 unfold RlOk at ha hb
 unfold bkLt at h
 unfold rkn
 lia
theorem zg5 {rs rs':RL} (ok:∀ r∈rs,RlOk r) (pm:rs'.Perm rs) (pw:rs'.Pairwise fun a b=>rkn a<=rkn b):(rs=rs'/\(rs.map (·.1)).Nodup)↔rs.Pairwise fun a b=>bkLt a.1 b.1:=by
 constructor
 ·rintro ⟨rfl,nd⟩
  rw [List.nodup_iff_pairwise_ne,List.pairwise_map] at nd
  refine (pw.and nd).imp_of_mem fun {a b} ha hb ⟨h1,h2⟩=>?_
  obtain ⟨a1,a2,a3,a4⟩:=ok a ha
  obtain ⟨b1,b2,b3,b4⟩:=ok b hb
  unfold rkn at h1
  unfold bkLt
  have ne:¬(a.1.1=b.1.1/\a.1.2=b.1.2):=fun z=>h2 (Prod.ext z.1 z.2)
  by_cases e:a.1.1=b.1.1
  ·have:a.1.2≠b.1.2:=fun z=>ne ⟨e,z⟩
   exact .inr ⟨e,by lia⟩
  ·exact .inl (by lia)
 ·intro h
  have lt:rs.Pairwise fun a b=>rkn a<rkn b:=h.imp_of_mem fun {a b} ha hb z=>zkd (ok a ha) (ok b hb) z
  refine ⟨?_,?_⟩
  ·refine List.Perm.eq_of_pairwise (le:=fun a b=>rkn a<=rkn b) (fun a b ha hb h1 h2=>zkY (ok a ha) (ok b (pm.mem_iff.mp hb)) (by lia)) (lt.imp fun z=>Int.le_of_lt z) pw pm.symm
  ·rw [List.nodup_iff_pairwise_ne,List.pairwise_map]
   refine h.imp fun {a b} z e=>?_
   unfold bkLt at z
   rw [e] at z
   lia
theorem znr {rs:RL}:(kR rs).map prT=rD rs:=by
 unfold kR rD prT
 rw [List.map_map];rfl
end L2
namespace Bd
open PySem L2
def top (i:Nat):Stmt:=PySem.Challenge.pw_blockdeal_k13_rules_or_not.main.body.getD i (.Pass ⟨0,0,0,0⟩)
set_option maxHeartbeats 4000000
local macro_rules | `(tactic| walk_at "S") => `(tactic| first | with_reducible refine zg4 ?_ | with_reducible refine Stp.go ?_ | with_reducible refine j_all (by with_unfolding_all rfl) ?_ | with_reducible refine j_any (by with_unfolding_all rfl) ?_ | with_reducible refine zkr (by with_unfolding_all rfl) ?_ | with_reducible refine zks (by with_unfolding_all rfl) ?_ | with_reducible refine zgQ (by with_unfolding_all rfl) ?_ | with_reducible refine zgP (by with_unfolding_all rfl) ?_)
set_option hygiene false in
local macro_rules | `(tactic| walk_at "K") => `(tactic| first | walk_at "S" | with_reducible refine znN (fun hc => ?_) (fun hc => ?_) | with_reducible refine zpV (fun hc => ?_) (fun hc => ?_) | with_reducible refine And.intro ?_ ?_)
set_option hygiene false in
local macro_rules | `(tactic| wp_walk using $ts:term,*) => `(tactic| repeat' (first $[| with_reducible refine $ts:term]* | walk_at "K"))
local macro_rules | `(tactic| wp_walk) => `(tactic| repeat' walk_at "K")
structure Txt (mg:Str->Option Value):Prop where
 isi:mg "isinstance" = none
 int:mg "int" = none
 boo:mg "bool" = none
 tup:mg "tuple" = none
 len:mg "len" = none
 min:mg "min" = none
 max:mg "max" = none
 str:mg "str" = none
 rep:mg "repr" = none
 all:mg "all" = none
 any:mg "any" = none
 ran:mg "range" = none
 sum:mg "sum" = none
 srt:mg "sorted" = none
 lst:mg "list" = none
 abs:mg "abs" = none
 zip:mg "zip" = none
 dct:mg "dict" = none
 rev:mg "reversed" = none
 enu:mg "enumerate" = none
section
variable {P:Program}{w:World}{K:PySem.W.Frag}{mg:Str->Option Value}{base:Heap}
theorem zfQ:FnScope ["thing"] ["thing"] (zag (top 1)):=⟨rfl,rfl,rfl,by decide +kernel,rfl,by decide +kernel,by decide +kernel⟩
def zjU:PyData->Bool | .int _=>true | _=>false
def zcI:GD:=fun ts n R=>match ts with
 | [d]=>Pln d/\R (.bool (zjU d)) n
 | _=>False
theorem zaY {d:PyData}{b:Bool}{n:Nat}{R:PyData->Nat->Prop} (e:zjU d=b) (h:Pln d) (h':R (.bool b) n):zcI [d] n R:=⟨h,e▸h'⟩
def zcE (P:Program) (w:World) (K:PySem.W.Frag) (mg:Str->Option Value) (base:Heap):Prop:=Fq P w K mg base "is_whole" (top 1) ["thing"] 1 (spD K 1 zcI)
theorem zfV (D:Dq K mg "is_whole" (top 1) ["thing"]) (T:Txt mg):zcE P w K mg base:=by
 obtain ⟨f,fd,D⟩:=D
 refine ⟨f,fd,D,D.okD zfQ rfl fun cdv A outer s H E hr=>?_⟩
 refine' ⟨_,(zah (zaw (zbX (zbg zku T.isi T.int boot_int (dl (zab 0)) zac) (zdZ (ziI (zbg zf7 T.isi T.boo zcN (dl (zab 0)) zac)))))),?_⟩
 intro ts n R hl h
 unfold zcI at h
 split at h
 ·rename_i d
  obtain ⟨p,h⟩:=h
  cases d with
  | dict ks =>
   cases ks with
   | nil =>
    wp_walk
    exact h
   | cons a b=>exact absurd rfl p
  | _ =>
   wp_walk
   exact h
 ·exact h.elim
theorem zb8:FnScope ["bits","thing","begin","height"] ["bits","thing"] (zag (top 2)):=⟨rfl,rfl,rfl,by decide +kernel,rfl,by decide +kernel,by decide +kernel⟩
def zaF (bits:Int):PyData->Bool
 | .tuple [.int b,.int h]=>decide (0<=h/\h<=bits/\0<=b/\b<2 ^ bits.toNat/\b % 2 ^ h.toNat=0)
 | _=>false
theorem zb_ {bits b h:Int}:zaF bits (.tuple [.int b,.int h])=decide (0<=h/\h<=bits/\0<=b/\b<2 ^ bits.toNat/\b % 2 ^ h.toNat=0):=rfl
def Pl2 (d:PyData):Prop:=Pln d/\∀ ts,d=.tuple ts->∀ t∈ts,Pln t
def zcJ:GD:=fun ts n R=>match ts with
 | [.int bits,d]=>0<=bits/\bits<=64/\Pl2 d/\R (.bool (zaF bits d)) n
 | _=>False
theorem zd2 {bits:Int}{d:PyData}{n:Nat}{R:PyData->Nat->Prop} (b0:0<=bits) (b1:bits<=64) (h:Pl2 d) (h':R (.bool (zaF bits d)) n):zcJ [.int bits,d] n R:=⟨b0,b1,h,h'⟩
theorem zfn {b c:Bool}{n:Nat}{R:PyData->Nat->Prop} (e:b=c) (h:R (.bool c) n):R (.bool b) n:=e▸h
def zdQ (P:Program) (w:World) (K:PySem.W.Frag) (mg:Str->Option Value) (base:Heap):Prop:=Fq P w K mg base "is_block" (top 2) ["bits","thing"] 2 (spD K 2 zcJ)
theorem zfW (D:Dq K mg "is_block" (top 2) ["bits","thing"]) (h_is_whole:zcE P w K mg base) (T:Txt mg):zdQ P w K mg base:=by
 obtain ⟨f,fd,D⟩:=D
 refine ⟨f,fd,D,D.okD zb8 rfl fun cdv A outer s H E hr=>?_⟩
 refine' ⟨_,(zaf (zbo (zfo (zeq (zbt (zbs (dl (zbg zb2 T.isi T.tup zaZ (dl (zab 1)) zac)))) (zdv (za4 (zdl hr) zf8 (dl (zcx zbn zcR T.len zaU (zap (dl (zab 1)) zaS zac))) (dl zad) (zaE _))))) (zah (zaw zb5)) zaz) (zaf (zfp (zab 1) (zdx rfl (zaL (zaC (i:=2) zb8.nd rfl (Or.inl rfl)) (zaL (zaC (i:=3) zb8.nd rfl (Or.inl rfl)) zcc)))) (zaf (zbo (zfo (zeq (zbt (zbs (dl (zaO h_is_whole hr (zaa (zab 2) zae zac))))) (zdv (zbt (zbs (dl (zaO h_is_whole hr (zaa (zab 3) zae zac)))))))) (zah (zaw zb5)) zaz) (zaf (zbo (zfo (zeq (za4 (zgH hr) zgR (dl (zab 3)) (dl zad) (zaE _)) (zdv (za4 zjH gp_B (dl (zab 3)) (dl (zab 0)) (zaE _))))) (zah (zaw zb5)) zaz) (zah (zaw (zbX (zet zdS zdW (zgH hr) zgR (dl zad) (dl (zab 2)) (dl (zcw (dl zad) (dl (zab 0))))) (zdZ (zfr (zco hr) zen (dl (zkG (dl (zab 2)) (dl (zcw (dl zad) (dl (zab 3)))))) (dl zad) (zaE _)))))))))),?_⟩
 intro ts n R hl h
 unfold zcJ at h
 split at h
 ·rename_i bits d
  obtain ⟨b0,b1,⟨p,p2⟩,h⟩:=h
  cases d with
  | dict ks =>
   cases ks with
   | nil =>
    wp_walk
    exact h
   | cons a b=>exact absurd rfl p
  | tuple ts =>
   have p2:=p2 ts rfl
   match ts,p2,h with
   | [],_,h =>
    wp_walk
    all_goals first | exact h | (exfalso;simp at hc;done)
   | [x],_,h =>
    have wr:zaF bits (.tuple [x])=false:=by unfold zaF;split <;> simp_all
    rw [wr] at h
    wp_walk
    all_goals first | exact h | (exfalso;simp at hc;done)
   | x::y::z::r,_,h =>
    have wr:zaF bits (.tuple (x::y::z::r))=false:=by unfold zaF;split <;> simp_all
    rw [wr] at h
    wp_walk
    all_goals first | exact h | (exfalso;simp at hc;lia)
   | [x,y],p2,h =>
    have px:=p2 x (by simp)
    have py:=p2 y (by simp)
    have wx:(∃ b,x=.int b)\/(zjU x=false/\zaF bits (.tuple [x,y])=false):=by
     cases x with
     | int b=>exact .inl ⟨b,rfl⟩
     | _=>exact .inr ⟨rfl,rfl⟩
    rcases wx with ⟨b,rfl⟩ | ⟨wx,wr⟩
    ·have wy:(∃ g,y=.int g)\/(zjU y=false/\zaF bits (.tuple [.int b,y])=false):=by
      cases y with
      | int b=>exact .inl ⟨b,rfl⟩
      | _=>exact .inr ⟨rfl,rfl⟩
     rcases wy with ⟨g,rfl⟩ | ⟨wy,wr⟩
     ·wp_walk using zaY (b:=true) rfl px ?_,zaY (b:=true) rfl py ?_
      all_goals first
       | exact cpow (by lia) (by lia)
       | (rw [zb0];exact zc7 _)
       | skip
      all_goals
       refine zfn ?_ h
       try simp only [zb0] at *
       rw [zb_]
       generalize (2:Int) ^ bits.toNat=X at *
       generalize b % (2:Int) ^ g.toNat=Y at *
       first
        | (symm;rw [decide_eq_false_iff_not];lia)
        | (rw [decide_eq_decide];lia)
        | (exfalso;simp at hc;done)
     ·rw [wr] at h
      wp_walk using zaY (b:=true) rfl px ?_,zaY wy py ?_
      all_goals first | exact h | (exfalso;simp at hc;done)
    ·rw [wr] at h
     wp_walk using zaY wx px ?_
     all_goals first | exact h | (exfalso;simp at hc;done)
  | _ =>
   wp_walk
   exact h
 ·exact h.elim
theorem zcB:FnScope ["bits","thing","block","sign"] ["bits","thing"] (zag (top 5)):=⟨rfl,rfl,rfl,by decide +kernel,rfl,by decide +kernel,by decide +kernel⟩
def sgD:PyData->Bool | .int i=>decide (0<=i)&&decide (i<=1) | _=>false
def za6 (bits:Int):PyData->Bool
 | .tuple [b,s]=>zaF bits b&&sgD s
 | _=>false
def zfm:GD:=fun ts n R=>∃ (bits:Int) (d:PyData),ts=[.int bits,d]/\0<=bits/\bits<=64/\PlnD d/\R (.bool (za6 bits d)) n
theorem ziT {bits:Int}{d:PyData}{n:Nat}{R:PyData->Nat->Prop} (b0:0<=bits) (b1:bits<=64) (p:PlnD d) (h:R (.bool (za6 bits d)) n):zfm [.int bits,d] n R:=⟨bits,d,rfl,b0,b1,p,h⟩
theorem zfU {d:PyData} (h:PlnD d):Pl2 d:=⟨h.pln,fun ts e t ht=>by subst e;exact (h.tup.2 t ht).pln⟩
def zeO (P:Program) (w:World) (K:PySem.W.Frag) (mg:Str->Option Value) (base:Heap):Prop:=Fq P w K mg base "is_rule" (top 5) ["bits","thing"] 3 (spD K 2 zfm)
theorem zhb (D:Dq K mg "is_rule" (top 5) ["bits","thing"]) (h_is_block:zdQ P w K mg base) (h_is_whole:zcE P w K mg base) (T:Txt mg):zeO P w K mg base:=by
 obtain ⟨f,fd,D⟩:=D
 refine ⟨f,fd,D,D.okD zcB rfl fun cdv A outer s H E hr=>?_⟩
 refine' ⟨_,(zaf (zbo (zfo (zeq (zbt (zbs (dl (zbg zb2 T.isi T.tup zaZ (dl (zab 1)) zac)))) (zdv (za4 (zdl hr) zf8 (dl (zcx zbn zcR T.len zaU (zap (dl (zab 1)) zaS zac))) (dl zad) (zaE _))))) (zah (zaw zb5)) zaz) (zaf (zfp (zab 1) (zdx rfl (zaL (zaC (i:=2) zcB.nd rfl (Or.inl rfl)) (zaL (zaC (i:=3) zcB.nd rfl (Or.inl rfl)) zcc)))) (zah (zaw (zbX (zaO h_is_block hr (zaa (zab 0) (zaa (zab 2) zae zac) zac)) (zbX (zaO h_is_whole hr (zaa (zab 3) zae zac)) (zdZ (zet zdS zdW zdS zdW (dl zad) (dl (zab 3)) (dl zad))))))))),?_⟩
 intro ts n R hl h
 obtain ⟨bits,d,rfl,b0,b1,p,h⟩:=h
 cases d with
 | dict ks =>
  cases ks with
  | nil =>
   wp_walk
   exact h
  | cons a b=>exact absurd rfl p.pln
 | tuple ts =>
  obtain ⟨l6,p3⟩:=p.tup
  match ts,p3,h with
  | [],_,h =>
   wp_walk
   all_goals first | exact h | (exfalso;simp at hc;done)
  | [x],_,h =>
   have e:za6 bits (.tuple [x])=false:=by unfold za6;split <;> simp_all
   rw [e] at h
   wp_walk
   all_goals first | exact h | (exfalso;simp at hc;done)
  | x::y::z::r,_,h =>
   have e:za6 bits (.tuple (x::y::z::r))=false:=by unfold za6;split <;> simp_all
   rw [e] at h
   wp_walk
   all_goals first | exact h | (exfalso;simp at hc;lia)
  | [x,y],p3,h =>
   have px:=p3 x (by simp)
   have py:=p3 y (by simp)
   have e:za6 bits (.tuple [x,y])=(zaF bits x&&sgD y):=rfl
   rw [e] at h
   cases y with
   | int i =>
    have h:R (.bool (zaF bits x&&(decide (0<=i)&&decide (i<=1)))) n:=h
    wp_walk using zd2 b0 b1 (zfU px) ?_,zaY (b:=true) rfl py.pln ?_
    ·rename_i h1 h2
     rw [h2,decide_eq_true hc,Bool.true_and,Bool.true_and] at h;exact h
    ·rw [decide_eq_false hc,Bool.false_and,Bool.and_false] at h;exact h
    ·rw [hc,Bool.false_and] at h;exact h
    ·exact absurd rfl hc
   | _ =>
    have h:R (.bool (zaF bits x&&false)) n:=h
    rw [Bool.and_false] at h
    wp_walk using zd2 b0 b1 (zfU px) ?_,zaY (b:=false) rfl py.pln ?_
    all_goals first | exact h | exact absurd rfl hc
 | _ =>
  wp_walk
  exact h
theorem zeJ:FnScope ["bits","thing"] ["bits","thing"] (zag (top 4)):=⟨rfl,rfl,rfl,by decide +kernel,rfl,by decide +kernel,by decide +kernel⟩
def bLt:PyData->PyData->Bool
 | .tuple (.tuple [.int a,.int b]::_),.tuple (.tuple [.int c,.int d]::_)=>decide (a<c\/(a=c/\b<d))
 | _,_=>false
def rlsD (bits:Int):PyData->Bool
 | .tuple ts=>ts.all (za6 bits)&&((ts.zip ts.tail).all fun q=>bLt q.1 q.2)
 | _=>false
theorem zgt {bits:Int}{t:PyData} (h:za6 bits t=true):∃ a b s:Int,t=.tuple [.tuple [.int a,.int b],.int s]:=by
 unfold za6 at h
 split at h
 ·rename_i x y
  rw [Bool.and_eq_true] at h
  obtain ⟨h1,h2⟩:=h
  unfold zaF at h1
  split at h1
  ·unfold sgD at h2
   split at h2
   ·exact ⟨_,_,_,rfl⟩
   ·cases h2
  ·cases h1
 ·cases h
def zdt:GD:=fun ts n R=>∃ (bits:Int) (d:PyData),ts=[.int bits,d]/\0<=bits/\bits<=64/\PlnD d/\R (.bool (rlsD bits d)) n
theorem zdB {bits:Int}{d:PyData}{n:Nat}{R:PyData->Nat->Prop} (b0:0<=bits) (b1:bits<=64) (p:PlnD d) (h:R (.bool (rlsD bits d)) n):zdt [.int bits,d] n R:=⟨bits,d,rfl,b0,b1,p,h⟩
def zdf (P:Program) (w:World) (K:PySem.W.Frag) (mg:Str->Option Value) (base:Heap):Prop:=Fq P w K mg base "are_rules" (top 4) ["bits","thing"] 4 (spD K 2 zdt)
theorem zeV (D:Dq K mg "are_rules" (top 4) ["bits","thing"]) (h_is_rule:zeO P w K mg base) (T:Txt mg):zdf P w K mg base:=by
 obtain ⟨f,fd,D⟩:=D
 refine ⟨f,fd,D,D.okD zeJ rfl fun cdv A outer s H E hr=>?_⟩
 refine' ⟨_,(zaf (zbo (zbt (zbs (dl (zbg zb2 T.isi T.tup zaZ (dl (zab 1)) zac)))) (zah (zaw zb5)) zaz) (zaf (zbo (zbt (zbs (dl (zcx (zfC rfl) zkx T.all zfG (zap (dl (za1 (ziB (own:=["rule"]) (capt:=[0]) rfl (CompScope.of rfl) (dil (zkC (zab 1))) (fun _ _ _ _=>(zaC (i:=0) (by show (["rule","bits"]:List Str).Nodup;decide +kernel) rfl (Or.inl rfl))) (by decide) (fun _ _ _ _=>zix) (fun _ _ _ _=>(zaO h_is_rule hr (zaa (zab 1) (zaa (zab 0) zae zac) zac)))))) zaS zhD))))) (zah (zaw zb5)) zaz) (zah (zaw (zcx (zfC rfl) zkx T.all zfG (zap (dl (za1 (ziB (own:=["one","other"]) (capt:=[]) rfl (CompScope.of rfl) (dil (zoa T.zip (zab 1) (zaN (dl (zab 1)) (za7 zad) zbp))) (fun _ _ _ _=>(zdx rfl (zaL (zaC (i:=0) (by show (["one","other"]:List Str).Nodup;decide +kernel) rfl (Or.inl rfl)) (zaL (zaC (i:=1) (by show (["one","other"]:List Str).Nodup;decide +kernel) rfl (Or.inl rfl)) zcc)))) (by decide) (fun _ _ _ _=>zix) (fun _ _ _ _=>(zfr (zgH hr) zgR (dl (zcd (dl (zab 0)) (dl zad))) (dl (zcd (dl (zab 1)) (dl zad))) (zaE _)))))) zaS zhD)))))),?_⟩
 intro ts n R hl h
 obtain ⟨bits,d,rfl,b0,b1,p,h⟩:=h
 cases d with
 | dict ks =>
  cases ks with
  | nil =>
   wp_walk
   exact h
  | cons a b=>exact absurd rfl p.pln
 | tuple ts =>
  obtain ⟨l6,p3⟩:=p.tup
  have h:R (.bool (ts.all (za6 bits)&&((ts.zip ts.tail).all fun q=>bLt q.1 q.2))) n:=h
  wp_walk
  refine zho (fun t=>.bool (za6 bits t)) (by lia) ?_ ?_
  ·intro t mt K2 X2 hK2
   wp_walk using ziT b0 b1 (p3 t mt) ?_
   exact hK2
  ·wp_walk using zkt (f:=za6 bits) ?_
   ·rw [zj7]
    rw [hc,Bool.true_and] at h
    have sh:∀ t∈ts,∃ a b s:Int,t=.tuple [.tuple [.int a,.int b],.int s]:=fun t mt=>zgt (List.all_eq_true.mp hc t mt)
    refine zfu (cs:=ts.zip ts.tail) (D:=fun q=>PyData.tuple [q.1,q.2]) (fun q=>.bool (bLt q.1 q.2)) (by rw [List.length_zip];lia) ?_ ?_
    ·intro q hq K2 X2 hK2
     obtain ⟨a,b,s1,e1⟩:=sh q.1 (List.of_mem_zip hq).1
     obtain ⟨c,d,s2,e2⟩:=sh q.2 (List.mem_of_mem_tail (List.of_mem_zip hq).2)
     rw [e1,e2] at hK2 ⊢
     wp_walk
     refine ⟨[a,b],[c,d],rfl,rfl,?_⟩
     rw [zh7];exact hK2
    ·wp_walk using zkt (f:=fun q:PyData×PyData=>bLt q.1 q.2) ?_
     exact h
   ·rw [hc,Bool.false_and] at h;exact h
 | _ =>
  wp_walk
  exact h
theorem scH:FnScope ["_law_script","_law_k","_law_cell"] ["_law_script","_law_k"] (zag (top 7)):=⟨rfl,rfl,rfl,by decide +kernel,rfl,by decide +kernel,by decide +kernel⟩
theorem zeZ {f:Addr}{fd:FuncData} (D:Def K mg "_law_hand" (top 7) ["_law_script","_law_k"] f fd) (T:Txt mg):FnOk P w K mg base CX0 1 f fd ["_law_script","_law_k"] (zgq K):=by
 refine D.F.ok scH (fun vs H Q E h=>?_) (fun cdv A outer s H vs Q E hr h=>?_)
 ·obtain ⟨a,ns,k,rfl,_⟩:=h
  rfl
 ·obtain ⟨a,ns,k,rfl,hS,hl,k0,k1,q⟩:=h
  refine ⟨_,zaV (zbO (i:=2) scH.nd rfl (Or.inl rfl) zaA)
   (zaV (zk5 (zfS znf (pv 1) (zg9 zfB T.len zaU (pb_v 0 zbQ)) (zaE _)) (zdj (zbO (i:=2) scH.nd rfl (Or.inl rfl) (zeR zbS (pv 0) (pv 1) (fun _ _=>rfl)))) zfT)
   (zdj (zgA (zhX (zkm (za2 zcn (pv 2) (zlg ziS T.int boot_int (zm7 (zhY zpx (pv 2) (za2 znc zaA zaA) (zaE _)) zbQ)))
    (zkm (za2 zcp (za2 zcp (za2 zdm (pv 2) zaA) (za2 zcn zaA (pv 1))) zaA) (pb_i zbQ))))))),?_⟩
  refine ⟨_,rfl,_,rfl,a,_,rfl,.inl hS,_,_,rfl,rfl,_,rfl,?_⟩
  have fin:∀ c:Int,tRet (tLst (zc8 (tOp (rI CMul fun i j=>V.int (i*j)) (tVar 2) (tCB (fun xs H Q=>(∃ i,xs=[.int i]/\Q (.int i) H)\/∃ k,xs=[.bl k]/\Q (.int (if k then 1 else 0)) H) (zc8 (tOp (rI0 fun i j=>.bl (decide (j<=i))) (tVar 2) (tOp (rI CPow fun i j=>.int (i ^ j.toNat)) (tC (.int 10)) (tC (.int 18)))) tNil)))
    (zc8 (tOp (rI0 fun i j=>.int (i+j)) (tOp (rI0 fun i j=>.int (i+j)) (tOp (rI (fun _ j=>0<j) fun i j=>.int (i % j)) (tVar 2) (tC (.int 2305843009213693951))) (tOp (rI CMul fun i j=>V.int (i*j)) (tC (.int 7919)) (tVar 1))) (tC (.int 3))) (zc8 (tC (.int 0)) tNil))))
    { nx:=fun _ H'=>Q .non H',rt:=Q } [some (.ref a),some (.int k),some (.int c)] H:=by
   intro c
   refine ⟨_,rfl,_,rfl,_,_,rfl,rfl,⟨by decide,by decide,by decide⟩,_,_,rfl,rfl,.inr ⟨_,rfl,_,_,rfl,rfl,.inr ?_,?_⟩⟩
   ·split <;> decide
   ·refine ⟨_,rfl,_,_,rfl,rfl,(by show (0:Int)<2305843009213693951;decide),_,rfl,_,_,rfl,rfl,.inl ⟨by decide,by decide⟩,_,_,rfl,rfl,_,_,rfl,rfl,(by show 3<=sizeLine;decide),fun l hn=>?_⟩
    refine q l _ hn ⟨_,_,_,zao,?_,?_,Int.le_refl _,Int.le_refl _⟩ (zjf hn)
    ·lia
    ·lia
  refine znF (fun c=>?_) (fun c=>?_)
  ·have hk:k.toNat<ns.length:=by rw [List.length_map] at c;lia
   refine ⟨_,rfl,_,rfl,a,_,_,V.int (ns[k.toNat]),rfl,rfl,hS,?_,?_⟩
   ·exact zge k0 (by rw [List.getElem?_map,List.getElem?_eq_getElem hk];rfl)
   ·exact fin _
  ·exact fin 0
def zdh (P:Program) (w:World) (K:PySem.W.Frag) (mg:Str->Option Value) (base:Heap):Prop:=Fq P w K mg base "_law_hand" (top 7) ["_law_script","_law_k"] 1 (zgq K)
theorem zeb (D:Dq K mg "_law_hand" (top 7) ["_law_script","_law_k"]) (T:Txt mg):zdh P w K mg base:=by
 obtain ⟨f,fd,D⟩:=D
 exact ⟨f,fd,D,zeZ D T⟩
theorem zeM {H:Hp}{hd:Addr}{o:HO}:zok hd H (upd H hd o):=fun b u e n=>by rw [zam n];exact e
theorem scT:FnScope ["_law_hand_here","_law_many","_law_digit","_law_turn","_law_mixed","_law_odd"] ["_law_hand_here","_law_many"] (zag (top 8)):=⟨rfl,rfl,rfl,by decide +kernel,rfl,by decide +kernel,by decide +kernel⟩
theorem zjI {f:Addr}{fd:FuncData} (D:Def K mg "_law_take" (top 8) ["_law_hand_here","_law_many"] f fd) (T:Txt mg):FnOk P w K mg base CX0 1 f fd ["_law_hand_here","_law_many"] zkh:=by
 refine D.F.ok scT (fun vs H Q E h=>?_) (fun cdv A outer s H vs Q E hr h=>?_)
 ·obtain ⟨hd,many,n,rfl,_⟩:=h
  rfl
 ·obtain ⟨hd,many,n,rfl,⟨d,m,t,hh,m0,m1,t0,t1⟩,hn,y0,y1,q⟩:=h
  refine ⟨_,zaV (zk5 (zfS zjH (zeR zbS (pv 0) zaA (fun _ _=>rfl)) zaA (zaE _))
    (zaV (zbO (i:=2) scT.nd rfl (Or.inl rfl) (za2 zdm (zeR zbS (pv 0) zaA (fun _ _=>rfl)) (pv 1)))
    (zaV (zhS (za2 zc2 (zeR zbS (pv 0) zaA (fun _ _=>rfl)) (pv 1)) (zkl (pv 0) zaA set_list))
    (zdj (zgA (pv 2))))) zfT)
   (zaV (zhS (za2 zcp (zeR zbS (pv 0) zaA (fun _ _=>rfl)) zaA) (zkl (pv 0) zaA set_list))
   (zaV (zbO (i:=3) scT.nd rfl (Or.inl rfl) (zeR zbS (pv 0) zaA (fun _ _=>rfl)))
   (zaV (zbO (i:=4) scT.nd rfl (Or.inl rfl) (za2 zdm (za2 zcn (zeR zbS (pv 0) zaA (fun _ _=>rfl)) (za2 zcp (za2 zcp zaA (za2 zcn (za2 zcn zaA (pv 3)) (pv 3))) (za2 zcn zaA (pv 3)))) zaA))
   (zaV (zbO (i:=5) scT.nd rfl (Or.inl rfl) (za2 zcp (za2 zcp (za2 zdm (pv 4) zaA) (za2 zcn (pv 3) zaA)) zaA))
   (zaV (zbO (i:=4) scT.nd rfl (Or.inl rfl) (za2 zdm (za2 zcn (pv 4) (pv 5)) zaA))
   (zdj (zgA (za2 zdm (za2 zcp (za2 zc2 (pv 4) zaA) (za2 zc2 (pv 4) zaA)) (pv 1))))))))),?_⟩
  refine ⟨_,rfl,hd,_,_,_,rfl,rfl,.of hh,rfl,_,_,rfl,rfl,_,rfl,?_⟩
  refine znF (fun c=>?_) (fun c=>?_)
  ·refine ⟨_,rfl,hd,_,_,_,rfl,rfl,.of hh,rfl,_,rfl,_,_,rfl,rfl,y0,?_⟩
   refine ⟨_,rfl,hd,_,_,_,rfl,rfl,.of hh,rfl,_,rfl,_,_,rfl,rfl,⟨y0,y1⟩,?_⟩
   refine ⟨_,rfl,hd,_,_,0,rfl,rfl,hh,rfl,?_⟩
   refine ⟨_,rfl,?_⟩
   exact q _ _ (Int.emod_nonneg _ (by lia)) (Int.emod_lt_of_pos _ y0) ⟨_,_,_,zao,m0,m1,t0,by lia⟩ zeM
  ·refine ⟨_,rfl,hd,_,_,_,rfl,rfl,.of hh,rfl,_,_,rfl,rfl,?_⟩
   refine ⟨_,rfl,hd,_,_,2,rfl,rfl,hh,rfl,?_⟩
   refine ⟨_,rfl,hd,_,_,_,rfl,rfl,.of zao,rfl,?_⟩
   refine ⟨_,rfl,hd,_,_,_,rfl,rfl,.of zao,rfl,_,rfl,_,_,rfl,rfl,.inl ⟨by decide,by decide⟩,_,rfl,_,_,rfl,rfl,.inr ⟨by lia,by lia⟩,_,_,rfl,rfl,_,rfl,_,_,rfl,rfl,.inl ⟨by decide,by decide⟩,_,_,rfl,rfl,_,_,rfl,rfl,.inl ⟨by lia,by lia⟩,_,_,rfl,rfl,(by show (0:Int)<2305843009213693921;decide),?_⟩
   refine ⟨_,rfl,_,_,rfl,rfl,(by show (0:Int)<1000003;decide),_,rfl,_,_,rfl,rfl,.inr ⟨by decide,by decide⟩,_,_,rfl,rfl,_,_,rfl,rfl,?_⟩
   refine ⟨_,rfl,_,rfl,_,_,rfl,rfl,.inl ⟨by lia,by lia⟩,_,_,rfl,rfl,(by show (0:Int)<2305843009213693907;decide),?_⟩
   refine ⟨_,rfl,_,_,rfl,rfl,⟨by decide,by decide⟩,_,rfl,_,_,rfl,rfl,⟨by decide,by decide⟩,_,_,rfl,rfl,_,rfl,_,_,rfl,rfl,y0,?_⟩
   exact q _ _ (Int.emod_nonneg _ (by lia)) (Int.emod_lt_of_pos _ y0) ⟨_,_,_,zao,m0,m1,by lia,by lia⟩ zeM
theorem zeW {f:Addr}{fd:FuncData} (D:Def K mg "_law_take" (top 8) ["_law_hand_here","_law_many"] f fd) (T:Txt mg):FnOk P w K mg base CX0 1 f fd ["_law_hand_here","_law_many"] (spD K 2 zcS) :=
 (zjI D T).imp zjd
def za5 (P:Program) (w:World) (K:PySem.W.Frag) (mg:Str->Option Value) (base:Heap):Prop:=Fq P w K mg base "_law_take" (top 8) ["_law_hand_here","_law_many"] 1 (spD K 2 zcS)
theorem zea (D:Dq K mg "_law_take" (top 8) ["_law_hand_here","_law_many"]) (T:Txt mg):za5 P w K mg base:=by
 obtain ⟨f,fd,D⟩:=D
 exact ⟨f,fd,D,zeW D T⟩
theorem zeK:FnScope ["_law_hand_here","_law_some"] ["_law_hand_here","_law_some"] (zag (top 9)):=⟨rfl,rfl,rfl,by decide +kernel,rfl,by decide +kernel,by decide +kernel⟩
def zaX:GD:=fun ts n R=>match ts with
 | [h,.list xs]=>h=HAND/\xs≠[]/\xs.length<=1000000/\n<=1000000000000/\∀ x∈xs,R x (n+1)
 | _=>False
theorem zbF {xs:List PyData}{n:Nat}{R:PyData->Nat->Prop} (h0:xs≠[]) (h1:xs.length<=1000000) (hn:n<=1000000000000) (h:∀ x∈xs,R x (n+1)):zaX [HAND,.list xs] n R:=⟨rfl,h0,h1,hn,h⟩
def zaW (P:Program) (w:World) (K:PySem.W.Frag) (mg:Str->Option Value) (base:Heap):Prop:=Fq P w K mg base "_law_pick" (top 9) ["_law_hand_here","_law_some"] 2 (spD K 2 zaX)
theorem zeX (D:Dq K mg "_law_pick" (top 9) ["_law_hand_here","_law_some"]) (h__law_take:za5 P w K mg base) (T:Txt mg):zaW P w K mg base:=by
 obtain ⟨f,fd,D⟩:=D
 refine ⟨f,fd,D,D.okD zeK rfl fun cdv A outer s H E hr=>?_⟩
 refine' ⟨_,(zah (zaw (zcd (dl (zab 1)) (dl (zaO h__law_take hr (zaa (zab 0) (zaa (zcx zbn zcR T.len zaU (zap (dl (zab 1)) zaS zac)) zae zaM) zac)))))),?_⟩
 intro ts n R hl h
 unfold zaX at h
 split at h
 ·rename_i hd xs
  obtain ⟨rfl,h0,h1,h2,h⟩:=h
  have hp:0<xs.length:=List.length_pos_iff.mpr h0
  simp only [zgk,zgl,zgj,u_dC,zi_,zgp,zgn,zgo,zd4,zja,zcZ,zgm,zgN,zc5,zeE,zeD,zeC,zc6,zeB,zeA,zce,oSub,oMul,oMod,zfY,oShl,oXor,oAnd,isInt,isBool,isTup,l_gI,zjO,zfa,ze_,zie,zh_,zh8,zh9,zic,zid,ze9,ze8,ze6,zif,zgM,ze7,zcr,zia,zib,zcq,zcs,zbP,zbi,zb9,zbc,zbA,zbz,zbB,zbb,zaR,capV,List.map_cons,List.map_nil,List.length_cons,List.length_nil,List.replicate_succ,List.replicate_zero,List.cons_append,List.nil_append,List.append_nil,List.getElem?_cons_succ,List.getElem?_cons_zero,List.set_cons_succ,List.set_cons_zero,List.getD_cons_succ,List.getD_cons_zero,Nat.zero_add,Nat.reduceAdd,Nat.reduceSub,Nat.sub_self,true_and,and_true,Bool.false_eq_true,if_true,if_false,ite_true,ite_false,Bool.not_true,Bool.not_false,Int.natCast_zero,zcS]
  refine ⟨by lia,by lia,h2,fun r r0 r1=>?_⟩
  have hr':r.toNat<xs.length:=by lia
  rw [zpz (zge r0 (List.getElem?_eq_getElem hr'))]
  exact h _ (List.getElem_mem hr')
 ·exact h.elim
theorem zeL:FnScope ["_law_hand_here"] ["_law_hand_here"] (zag (top 10)):=⟨rfl,rfl,rfl,by decide +kernel,rfl,by decide +kernel,by decide +kernel⟩
def zcb:GD:=fun ts n R=>match ts with
 | [h]=>h=HAND/\n<=1000000000000/\∀ b:Int,1<=b->b<=64->R (.int b) (n+1)
 | _=>False
theorem zgd {n:Nat}{R:PyData->Nat->Prop} (hn:n<=1000000000000) (h:∀ b:Int,1<=b->b<=64->R (.int b) (n+1)):zcb [HAND] n R:=⟨rfl,hn,h⟩
def zdi (P:Program) (w:World) (K:PySem.W.Frag) (mg:Str->Option Value) (base:Heap):Prop:=Fq P w K mg base "_law_bits" (top 10) ["_law_hand_here"] 3 (spD K 1 zcb)
theorem ze0 (D:Dq K mg "_law_bits" (top 10) ["_law_hand_here"]) (h__law_pick:zaW P w K mg base) (T:Txt mg):zdi P w K mg base:=by
 obtain ⟨f,fd,D⟩:=D
 refine ⟨f,fd,D,D.okD zeL rfl fun cdv A outer s H E hr=>?_⟩
 refine' ⟨_,(zah (zaw (zaO h__law_pick hr (zaa (zab 0) (zaa (za1 (zbm (zaa zad (zaa zad (zaa zad (zaa zad (zaa zad (zaa zad (zaa zad (zaa zad (zaa zad (zaa zad zae zai) zai) zai) zai) zai) zai) zai) zai) zai) zai))) zae zcz) zac)))),?_⟩
 intro ts n R hl h
 unfold zcb at h
 split at h
 ·obtain ⟨rfl,h1,h⟩:=h
  simp only [zgk,zgl,zgj,u_dC,zi_,zgp,zgn,zgo,zd4,zja,zcZ,zgm,zgN,zc5,zeE,zeD,zeC,zc6,zeB,zeA,zce,oSub,oMul,oMod,zfY,oShl,oXor,oAnd,isInt,isBool,isTup,l_gI,zjO,zfa,ze_,zie,zh_,zh8,zh9,zic,zid,ze9,ze8,ze6,zif,zgM,ze7,zcr,zia,zib,zcq,zcs,zbP,zbi,zb9,zbc,zbA,zbz,zbB,zbb,zaR,capV,List.map_cons,List.map_nil,List.length_cons,List.length_nil,List.replicate_succ,List.replicate_zero,List.cons_append,List.nil_append,List.append_nil,List.getElem?_cons_succ,List.getElem?_cons_zero,List.set_cons_succ,List.set_cons_zero,List.getD_cons_succ,List.getD_cons_zero,Nat.zero_add,Nat.reduceAdd,Nat.reduceSub,Nat.sub_self,true_and,and_true,Bool.false_eq_true,if_true,if_false,ite_true,ite_false,Bool.not_true,Bool.not_false,Int.natCast_zero,zaX]
  refine ⟨by simp,by decide,h1,fun x hx=>?_⟩
  simp only [List.mem_cons,List.not_mem_nil,or_false] at hx
  rcases hx with rfl | rfl | rfl | rfl | rfl | rfl | rfl | rfl | rfl | rfl <;> exact h _ (by decide) (by decide)
 ·exact h.elim
theorem zch:FnScope ["_law_hand_here","_law_bits_here","_law_height"] ["_law_hand_here","_law_bits_here"] (zag (top 11)):=⟨rfl,rfl,rfl,by decide +kernel,rfl,by decide +kernel,by decide +kernel⟩
def zbV:GD:=fun ts n R=>match ts with
 | [h,.int bits]=>h=HAND/\1<=bits/\bits<=64/\n<=1000000000000 - 10/\∀ i h:Int,IsBk bits i h->R (.tuple [.int i,.int h]) (n+3)
 | _=>False
theorem zcV {bits:Int}{n:Nat}{R:PyData->Nat->Prop} (b0:1<=bits) (b1:bits<=64) (hn:n<=1000000000000 - 10) (h:∀ i h:Int,IsBk bits i h->R (.tuple [.int i,.int h]) (n+3)):zbV [HAND,.int bits] n R:=⟨rfl,b0,b1,hn,h⟩
def zbN (P:Program) (w:World) (K:PySem.W.Frag) (mg:Str->Option Value) (base:Heap):Prop:=Fq P w K mg base "_law_block" (top 11) ["_law_hand_here","_law_bits_here"] 3 (spD K 2 zbV)
theorem zee (D:Dq K mg "_law_block" (top 11) ["_law_hand_here","_law_bits_here"]) (h__law_pick:zaW P w K mg base) (h__law_take:za5 P w K mg base) (T:Txt mg):zbN P w K mg base:=by
 obtain ⟨f,fd,D⟩:=D
 refine ⟨f,fd,D,D.okD zch rfl fun cdv A outer s H E hr=>?_⟩
 refine' ⟨_,(zaf (zbu (i:=2) zch.nd rfl (Or.inl rfl) (zcx (zfy rfl) zkv T.min zfE (zap (dl (zab 1)) (zap (dl (zaO h__law_pick hr (zaa (zab 0) (zaa (za1 (zbm (zaa zad (zaa zad (zaa zad (zaa zad (zaa zad (zaa zad (zaa (zaO h__law_take hr (zaa (zab 0) (zaa (zaQ (dl (zab 1)) (dl zad)) zae za3) zac)) (zaa (zab 1) zae zac) zaM) zai) zai) zai) zai) zai) zai))) zae zcz) zac))) zaS zaM) zac))) (zah (zaw (zan (zaa (ziJ (dl (zaO h__law_take hr (zaa (zab 0) (zaa (zcw (dl zad) (dl (zdy (dl (zab 1)) (dl (zab 2))))) zae za3) zac))) (dl (zcw (dl zad) (dl (zab 2))))) (zaa (zab 2) zae zac) za3))))),?_⟩
 intro ts n R hl h
 unfold zbV at h
 split at h
 ·rename_i hd bits
  obtain ⟨rfl,b0,b1,hn,h⟩:=h
  simp only [zgk,zgl,zgj,u_dC,zi_,zgp,zgn,zgo,zd4,zja,zcZ,zgm,zgN,zc5,zeE,zeD,zeC,zc6,zeB,zeA,zce,oSub,oMul,oMod,zfY,oShl,oXor,oAnd,isInt,isBool,isTup,l_gI,zjO,zfa,ze_,zie,zh_,zh8,zh9,zic,zid,ze9,ze8,ze6,zif,zgM,ze7,zcr,zia,zib,zcq,zcs,zbP,zbi,zb9,zbc,zbA,zbz,zbB,zbb,zaR,capV,List.map_cons,List.map_nil,List.length_cons,List.length_nil,List.replicate_succ,List.replicate_zero,List.cons_append,List.nil_append,List.append_nil,List.getElem?_cons_succ,List.getElem?_cons_zero,List.set_cons_succ,List.set_cons_zero,List.getD_cons_succ,List.getD_cons_zero,Nat.zero_add,Nat.reduceAdd,Nat.reduceSub,Nat.sub_self,true_and,and_true,Bool.false_eq_true,if_true,if_false,ite_true,ite_false,Bool.not_true,Bool.not_false,Int.natCast_zero,zaX,zcS]
  refine ⟨by lia,by lia,by lia,fun r r0 r1=>⟨by simp,by decide,by lia,fun x hx=>?_⟩⟩
  have hv:∃ b:Int,x=.int b/\0<=b:=by
   simp only [List.mem_cons,List.not_mem_nil,or_false] at hx
   rcases hx with h | h | h | h | h | h | h | h <;> first | exact ⟨_,h,by decide⟩ | exact ⟨_,h,by lia⟩
  obtain ⟨b,rfl,bb⟩:=hv
  simp only [zgk,zgl,zgj,u_dC,zi_,zgp,zgn,zgo,zd4,zja,zcZ,zgm,zgN,zc5,zeE,zeD,zeC,zc6,zeB,zeA,zce,oSub,oMul,oMod,zfY,oShl,oXor,oAnd,isInt,isBool,isTup,l_gI,zjO,zfa,ze_,zie,zh_,zh8,zh9,zic,zid,ze9,ze8,ze6,zif,zgM,ze7,zcr,zia,zib,zcq,zcs,zbP,zbi,zb9,zbc,zbA,zbz,zbB,zbb,zaR,capV,List.map_cons,List.map_nil,List.length_cons,List.length_nil,List.replicate_succ,List.replicate_zero,List.cons_append,List.nil_append,List.append_nil,List.getElem?_cons_succ,List.getElem?_cons_zero,List.set_cons_succ,List.set_cons_zero,List.getD_cons_succ,List.getD_cons_zero,Nat.zero_add,Nat.reduceAdd,Nat.reduceSub,Nat.sub_self,true_and,and_true,Bool.false_eq_true,if_true,if_false,ite_true,ite_false,Bool.not_true,Bool.not_false,Int.natCast_zero,zcS]
  have key:∀ m:Int,0<=m->m<=bits->(CPow 1 (bits - m)/\(0:Int)<1*2 ^ (bits - m).toNat/\1*2 ^ (bits - m).toNat<(2:Int) ^ 128/\n+1+1<=1000000000000/\∀ r:Int,0<=r->r<1*2 ^ (bits - m).toNat->CPow 1 m/\CMul r (1*2 ^ m.toNat)/\R (.tuple [.int (r*(1*2 ^ m.toNat)),.int m]) (n+1+1+1)):=by
   intro m m0 m1
   have e1:(1:Int)*2 ^ (bits - m).toNat=2 ^ (bits - m).toNat:=Int.one_mul _
   have e2:(1:Int)*2 ^ m.toNat=2 ^ m.toNat:=Int.one_mul _
   rw [e1,e2]
   refine ⟨cpow (by lia) (by lia),zc7 _,zhT (by lia),by lia,fun k k0 k1=>⟨cpow m0 (by lia),.inl ⟨by lia,?_⟩,?_⟩⟩
   ·have:=zjv (k:=(bits - m).toNat) (by lia);lia
   ·exact h _ m ⟨m0,m1,k,k0,rfl,k1⟩
  exact key (if b<bits then b else bits) (by split <;> lia) (by split <;> lia)
 ·exact h.elim
theorem za_:FnScope ["_law_hand_here","_law_bits_here","_law_block_here","_law_begin","_law_height","_law_size","_law_some"] ["_law_hand_here","_law_bits_here","_law_block_here"] (zag (top 12)):=⟨rfl,rfl,rfl,by decide +kernel,rfl,by decide +kernel,by decide +kernel⟩
def zdu:GD:=fun ts n R=>∃ bits i h:Int,ts=[HAND,.int bits,.tuple [.int i,.int h]]/\1<=bits/\bits<=64/\n<=1000000000000 - 100/\IsBk bits i h/\∀ j g:Int,IsBk bits j g->R (.tuple [.int j,.int g]) (n+7)
theorem zdD {bits i h:Int}{n:Nat}{R:PyData->Nat->Prop} (b0:1<=bits) (b1:bits<=64) (hn:n<=1000000000000 - 100) (B:IsBk bits i h) (h':∀ j g:Int,IsBk bits j g->R (.tuple [.int j,.int g]) (n+7)):zdu [HAND,.int bits,.tuple [.int i,.int h]] n R:=⟨_,_,_,rfl,b0,b1,hn,B,h'⟩
def zdg (P:Program) (w:World) (K:PySem.W.Frag) (mg:Str->Option Value) (base:Heap):Prop:=Fq P w K mg base "_law_near" (top 12) ["_law_hand_here","_law_bits_here","_law_block_here"] 4 (spD K 3 zdu)
theorem zeY (D:Dq K mg "_law_near" (top 12) ["_law_hand_here","_law_bits_here","_law_block_here"]) (h__law_pick:zaW P w K mg base) (h__law_block:zbN P w K mg base) (T:Txt mg):zdg P w K mg base:=by
 obtain ⟨f,fd,D⟩:=D
 refine ⟨f,fd,D,D.okD za_ rfl fun cdv A outer s H E hr=>?_⟩
 refine' ⟨_,(zaf (zfp (zab 2) (zdx rfl (zaL (zaC (i:=3) za_.nd rfl (Or.inl rfl)) (zaL (zaC (i:=4) za_.nd rfl (Or.inl rfl)) zcc)))) (zaf (zbu (i:=5) za_.nd rfl (Or.inl rfl) (zcw (dl zad) (dl (zab 4)))) (zaf (zgU (i:=6) za_.nd rfl (Or.inl rfl) (zbm (zaa (zab 2) (zaa (zan (zaa (zab 3) (zaa (zcx (zfz rfl) zkw T.max zfF (zap (dl zad) (zap (dl (zdy (dl (zab 4)) (dl zad))) zaS za3) zai)) zae zaM) zac)) (zaa (zaO h__law_block hr (zaa (zab 0) (zaa (zab 1) zae zac) zac)) (zaa (zaO h__law_block hr (zaa (zab 0) (zaa (zab 1) zae zac) zac)) zae zaM) zaM) zaj) zac))) (zaf (zbo (za4 zjH gp_B (dl (zab 4)) (dl zad) (zaE _)) (zah (zbv 6 (zan (zaa (zaQ (dl (zab 3)) (dl (zlX (dl (zab 5)) (dl zad)))) (zaa (zdy (dl (zab 4)) (dl zad)) zae za3) za3)))) zaz) (zaf (zbo (za4 (zgH hr) zgR (dl (zab 4)) (dl (zab 1)) (zaE _)) (zaf (zbv 6 (zan (zaa (zdy (dl (zab 3)) (dl (zkG (dl (zab 3)) (dl (ziJ (dl zad) (dl (zab 5))))))) (zaa (zaQ (dl (zab 4)) (dl zad)) zae za3) za3))) (zah (zbv 6 (zan (zaa (zob (dl (zab 3)) (dl (zab 5))) (zaa (zab 4) zae zac) za3))))) zaz) (zaf (zbo (za4 zdS zdW (dl (zaQ (dl (zab 3)) (dl (ziJ (dl zad) (dl (zab 5)))))) (dl (zcw (dl zad) (dl (zab 1)))) (zaE _)) (zah (zbv 6 (zan (zaa (zaQ (dl (zab 3)) (dl (zab 5))) (zaa (zab 4) zae zac) za3)))) zaz) (zcK 6 (zah (zaw (zaO h__law_pick hr (zaa (zab 0) (zaa (zab 6) zae zac) zac))))))))))),?_⟩
 intro ts n R hl hh
 obtain ⟨bits,i,h,rfl,b0,b1,hn,B,hh⟩:=hh
 have h0:=B.1
 have h1:=B.2.1
 have bx:∀ j g:Int,IsBk bits j g->∀ m,m=n+7->R (.tuple [.int j,.int g]) m:=fun j g b m e=>e▸hh j g b
 have Bl:IsBk bits i (if h - 1 > 0 then h - 1 else 0):=by
  split
  ·exact B.low (by lia)
  ·by_cases z:h=0
   ·subst z;exact B
   ·have:h=1:=by lia
    subst this;exact B.low (by decide)
 wp_walk using zcV ?_ ?_ ?_ (fun _ _ _=>?_),zbF ?_ ?_ ?_ ?_
 all_goals first
  | lia
  | exact cpow (by lia) (by lia)
  | exact zp8
  | exact zp9
  | (rw [zb0];exact Int.mul_pos (by decide) (zc7 _))
  | (intro z;simp at z;done)
  | (simp only [List.cons_append,List.nil_append,List.length_cons,List.length_nil];decide)
  | skip
 all_goals
  simp only [List.cons_append,List.nil_append,List.forall_mem_cons,zb0] at *
  repeat' (with_reducible refine And.intro ?_ ?_)
 all_goals first
  | exact bx _ _ B _ rfl
  | exact bx _ _ Bl _ rfl
  | exact bx _ _ (by assumption) _ rfl
  | exact bx _ _ (B.up (by lia)) _ rfl
  | exact bx _ _ (B.abt (by lia)) _ rfl
  | exact bx _ _ (B.oth (by lia)) _ rfl
  | exact bx _ _ (B.nxt (by assumption)) _ rfl
  | (intro x hx;simp at hx)
theorem zaT:FnScope ["_law_hand_here","_law_bits_here","_law_most","_law_found","_law_k","_law_block_here"] ["_law_hand_here","_law_bits_here","_law_most"] (zag (top 13)):=⟨rfl,rfl,rfl,by decide +kernel,rfl,by decide +kernel,by decide +kernel⟩
def zcv:GD:=fun ts n R=>∃ bits most:Int,ts=[HAND,.int bits,.int most]/\1<=bits/\bits<=64/\0<=most/\most<=1000/\n<=1000000000000 - 100000/\∀ (bs:List (Int×Int)) (m:Nat),Bks bits bs->bs.length<=most.toNat->m<=n+1+12*most.toNat->R (.list (pD bs)) m
theorem zex {bits most:Int}{n:Nat}{R:PyData->Nat->Prop} (b0:1<=bits) (b1:bits<=64) (m0:0<=most) (m1:most<=1000) (hn:n<=1000000000000 - 100000) (h:∀ (bs:List (Int×Int)) (m:Nat),Bks bits bs->bs.length<=most.toNat->m<=n+1+12*most.toNat->R (.list (pD bs)) m):zcv [HAND,.int bits,.int most] n R:=⟨bits,most,rfl,b0,b1,m0,m1,hn,h⟩
def zcj (P:Program) (w:World) (K:PySem.W.Frag) (mg:Str->Option Value) (base:Heap):Prop:=Fq P w K mg base "_law_blocks" (top 13) ["_law_hand_here","_law_bits_here","_law_most"] 5 (spD K 3 zcv)
theorem zdG (D:Dq K mg "_law_blocks" (top 13) ["_law_hand_here","_law_bits_here","_law_most"]) (h__law_take:za5 P w K mg base) (h__law_block:zbN P w K mg base) (h__law_near:zdg P w K mg base) (h__law_pick:zaW P w K mg base) (T:Txt mg):zcj P w K mg base:=by
 obtain ⟨f,fd,D⟩:=D
 refine ⟨f,fd,D,D.okD zaT rfl fun cdv A outer s H E hr=>?_⟩
 refine' ⟨_,(zaf (zgU (i:=3) zaT.nd rfl (Or.inl rfl) (zbm zae)) (zaf (zdY PassesOwn.never rfl (zdw T.ran (zaO h__law_take hr (zaa (zab 0) (zaa (zaQ (dl (zab 2)) (dl zad)) zae za3) zac))) (zaC (i:=4) zaT.nd rfl (Or.inl rfl)) (zaf (zbu (i:=5) zaT.nd rfl (Or.inl rfl) (zaO h__law_block hr (zaa (zab 0) (zaa (zab 1) zae zac) zac))) (zaf (zbo (zfo (zn9 (za4 (zdl hr) zf8 (ziC 3) (dl (za1 (zbm zae))) (zaE _)) (zlR (za4 zjH gp_B (dl (zaO h__law_take hr (zaa (zab 0) (zaa zad zae zai) zac))) (dl zad) (zaE _))))) (zah (zbu (i:=5) zaT.nd rfl (Or.inl rfl) (zaO h__law_near hr (zaa (zab 0) (zaa (zab 1) (zaa (zod h__law_pick hr (zap (dl (zab 0)) (zap (ziC 3) zaS zac) zac)) zae zaM) zac) zac)))) zaz) (zah (zbv 3 (zab 5)))))) (zcK 3 (zah (zaw (zab 3)))))),?_⟩
 intro ts n R hl hh
 obtain ⟨bits,most,rfl,b0,b1,m0,m1,hn,hh⟩:=hh
 wp_walk using zg0 ?_ ?_ ?_ (fun r r0 r1=>?_)
 ·lia
 ·lia
 ·lia
 ·lia
 ·lia
 refine zb3 (fun k ρ m=>∃ bs:List (Int×Int),∃ c4 c5,ρ=[some (.val HAND),some (.val (.int bits)),some (.val (.int most)),some (.own (pD bs)),c4,c5]/\Bks bits bs/\bs.length=k/\m<=n+1+12*k) ⟨[],_,_,rfl,(fun b hb=>nomatch hb),rfl,by lia⟩ ?_ ?_
 ·rintro k t ρ m K et ⟨bs,c4,c5,rfl,B,hk,hm⟩ hK
  obtain ⟨hk2,rfl⟩:=zcD et
  have hk3:k<1000:=by lia
  have fin:∀ (i h:Int) (x4 x5:Option Cell) (m':Nat),IsBk bits i h->m'<=m+12->K [some (.val HAND),some (.val (.int bits)),some (.val (.int most)),some (.own (pD bs++[.tuple [.int i,.int h]])),x4,x5] m':=fun i h x4 x5 m' C hm' =>
   hK _ _ ⟨bs++[(i,h)],_,_,by rw [<- zm8],B.app C,by simp [hk],by lia⟩
  wp_walk using zcV ?_ ?_ ?_ (fun i h C=>?_),zg0 ?_ ?_ ?_ (fun q q0 q1=>?_),zbF ?_ ?_ ?_ ?_,zdD ?_ ?_ ?_ ?_ (fun j g C'=>?_)
  all_goals first
   | lia
   | exact znj
   | exact zlm
   | (rw [zgF];lia)
   | decide
   | (intro z
      have y:PyData.eqv (.list (pD bs)) (.list [])=false:=by assumption
      rw [zlP] at y
      have y2:bs=[]:=by
       have:=congrArg List.length z
       rw [zgF] at this
       exact List.length_eq_zero_iff.mp this
      rw [y2] at y;cases y)
   | exact fin _ _ _ _ _ (by assumption) (by lia)
   | skip
  all_goals
   intro x hx
   obtain ⟨b,hb,rfl⟩:=List.mem_map.mp hx
   refine ⟨zhc,?_⟩
   have C0:=B b hb
   wp_walk using zdD ?_ ?_ ?_ ?_ (fun j g C'=>?_)
   all_goals first
    | lia
    | exact C0
    | (rw [zgF];lia)
    | exact fin _ _ _ _ _ (by assumption) (by lia)
 ·rintro ρ m ⟨bs,c4,c5,rfl,B,hk,hm⟩
  have el:bs.length<=most.toNat:=by
   rw [hk];unfold zbJ;simp;lia
  wp_walk
  exact hh bs m B el (by lia)
theorem zby:FnScope ["_law_hand_here","_law_bits_here","_law_most","_law_found","_law_block_here"] ["_law_hand_here","_law_bits_here","_law_most"] (zag (top 14)):=⟨rfl,rfl,rfl,by decide +kernel,rfl,by decide +kernel,by decide +kernel⟩
def zcU:GD:=fun ts n R=>∃ bits most:Int,ts=[HAND,.int bits,.int most]/\1<=bits/\bits<=64/\0<=most/\most<64/\n<=1000000000000 - 100000/\∀ (rs:RL) (m:Nat),Rls bits rs->rs.length<=most.toNat->m<=n+1+13*most.toNat->R (.tuple (rD rs)) m
theorem zfD {bits most:Int}{n:Nat}{R:PyData->Nat->Prop} (b0:1<=bits) (b1:bits<=64) (m0:0<=most) (m1:most<64) (hn:n<=1000000000000 - 100000) (h:∀ (rs:RL) (m:Nat),Rls bits rs->rs.length<=most.toNat->m<=n+1+13*most.toNat->R (.tuple (rD rs)) m):zcU [HAND,.int bits,.int most] n R:=⟨bits,most,rfl,b0,b1,m0,m1,hn,h⟩
def zcQ (P:Program) (w:World) (K:PySem.W.Frag) (mg:Str->Option Value) (base:Heap):Prop:=Fq P w K mg base "_law_rules" (top 14) ["_law_hand_here","_law_bits_here","_law_most"] 6 (spD K 3 zcU)
theorem zed (D:Dq K mg "_law_rules" (top 14) ["_law_hand_here","_law_bits_here","_law_most"]) (h__law_blocks:zcj P w K mg base) (h__law_take:za5 P w K mg base) (T:Txt mg):zcQ P w K mg base:=by
 obtain ⟨f,fd,D⟩:=D
 refine ⟨f,fd,D,D.okD zby rfl fun cdv A outer s H E hr=>?_⟩
 refine' ⟨_,(zaf (zlT (i:=3) zby.nd rfl (Or.inl rfl)) (zaf (zdY PassesOwn.never rfl (ziD (zaO h__law_blocks hr (zaa (zab 0) (zaa (zab 1) (zaa (zab 2) zae zac) zac) zac))) (zaC (i:=4) zby.nd rfl (Or.inl rfl)) (zah (zlS 3 (zmL hr) (zab 4) (zaO h__law_take hr (zaa (zab 0) (zaa zad zae zai) zac))))) (zah (zaw (zp7 zeu zj0 T.tup zaZ (zap (dl (za1 (ziA 3 rfl hr T.srt))) zaS zaM)))))),?_⟩
 intro ts n R hl hh
 obtain ⟨bits,most,rfl,b0,b1,m0,m1,hn,hh⟩:=hh
 wp_walk using zex ?_ ?_ ?_ ?_ ?_ (fun bs m B hlen hm=>?_)
 ·lia
 ·lia
 ·lia
 ·lia
 ·lia
 refine zb3 (fun k ρ m'=>m'<=m+k/\∃ rs:RL,∃ c4,ρ=[some (.val HAND),some (.val (.int bits)),some (.val (.int most)),some (.dtt (kR rs)),c4]/\Rls0 bits rs/\rs.length<=k) ⟨Nat.le_refl _,[],_,rfl,⟨(fun b hb=>nomatch hb),by simp⟩,Nat.le_refl _⟩ ?_ ?_
 ·rintro k t ρ m' K et ⟨hm',rs,c4,rfl,A,hk⟩ hK
  obtain ⟨i,h,eb,rfl⟩:=zm9 et
  have hb:=B _ (List.mem_of_getElem? eb)
  have hk3:k<64:=by
   have:=(List.getElem?_eq_some_iff.mp eb).1
   lia
  wp_walk using zg0 ?_ ?_ ?_ (fun r r0 r1=>?_)
  ·lia
  ·lia
  ·lia
  ·rw [zkq];lia
  ·rw [zhR]
   exact hK _ _ ⟨by lia,_,_,rfl,A.put hb r0 (by lia),by have:=zjt (rs:=rs) (k:=(i,h)) (s:=r);lia⟩
 ·rintro ρ m' ⟨hm',rs,c4,rfl,A,hk⟩
  rw [zgF] at hk hm'
  wp_walk
  refine ⟨rs,rfl,by lia,A.ok b1,fun rs' pm pw=>?_⟩
  wp_walk
  exact hh rs' m' (A.sort b1 pm pw) (by rw [pm.length_eq];lia) (by lia)
theorem zd8:FnScope ["_law_thing","_law_least","_law_most"] ["_law_thing","_law_least","_law_most"] (zag (top 15)):=⟨rfl,rfl,rfl,by decide +kernel,rfl,by decide +kernel,by decide +kernel⟩
def whD (lo hi:Int):PyData->Bool | .int i=>decide (lo<=i)&&decide (i<=hi) | _=>false
def zcT:GD:=fun ts n R=>∃ (d:PyData) (lo hi:Int),ts=[d,.int lo,.int hi]/\Pln d/\R (.bool (whD lo hi d)) n
theorem zaP {d:PyData}{lo hi:Int}{n:Nat}{R:PyData->Nat->Prop} (p:Pln d) (h:R (.bool (whD lo hi d)) n):zcT [d,.int lo,.int hi] n R:=⟨d,lo,hi,rfl,p,h⟩
def zbK (P:Program) (w:World) (K:PySem.W.Frag) (mg:Str->Option Value) (base:Heap):Prop:=Fq P w K mg base "_law_whole" (top 15) ["_law_thing","_law_least","_law_most"] 1 (spD K 3 zcT)
theorem zec (D:Dq K mg "_law_whole" (top 15) ["_law_thing","_law_least","_law_most"]) (T:Txt mg):zbK P w K mg base:=by
 obtain ⟨f,fd,D⟩:=D
 refine ⟨f,fd,D,D.okD zd8 rfl fun cdv A outer s H E hr=>?_⟩
 refine' ⟨_,(zah (zaw (zbX (zbg zku T.isi T.int boot_int (dl (zab 0)) zac) (zbX (ziI (zbg zf7 T.isi T.boo zcN (dl (zab 0)) zac)) (zdZ (zet zdS zdW zdS zdW (dl (zab 1)) (dl (zab 0)) (dl (zab 2)))))))),?_⟩
 intro ts n R hl h
 obtain ⟨d,lo,hi,rfl,p,h⟩:=h
 cases d with
 | int i =>
  have h:R (.bool (decide (lo<=i)&&decide (i<=hi))) n:=h
  wp_walk
  ·rw [decide_eq_true hc,Bool.true_and] at h;exact h
  ·rw [decide_eq_false hc,Bool.false_and] at h;exact h
 | dict ks =>
  cases ks with
  | nil =>
   wp_walk
   exact h
  | cons a b=>exact absurd rfl p
 | _ =>
  wp_walk
  exact h
theorem zcW:FnScope ["_law_bits_here","_law_thing"] ["_law_bits_here","_law_thing"] (zag (top 16)):=⟨rfl,rfl,rfl,by decide +kernel,rfl,by decide +kernel,by decide +kernel⟩
theorem zke {b:Int} (h:0<=b) {t:Nat}:Builtin.bitAnd b (2 ^ t - 1)=b % 2 ^ t:=by
 have p:=zc7 t
 rw [PyProof.Rows.bitAnd_pp h (by lia)]
 have e:((2:Int) ^ t - 1).toNat=2 ^ t - 1:=by
  have:((2:Int) ^ t)=((2 ^ t:Nat):Int):=by push_cast;rfl
  lia
 rw [e,Nat.and_two_pow_sub_one_eq_mod]
 have:b=((b.toNat:Nat):Int):=by lia
 rw [Int.natCast_emod]
 push_cast
 rw [<- this]
def zbU:GD:=fun ts n R=>∃ (bits:Int) (d:PyData),ts=[.int bits,d]/\0<=bits/\bits<=64/\Pl2 d/\R (.bool (zaF bits d)) n
theorem zdE {bits:Int}{d:PyData}{n:Nat}{R:PyData->Nat->Prop} (b0:0<=bits) (b1:bits<=64) (p:Pl2 d) (h:R (.bool (zaF bits d)) n):zbU [.int bits,d] n R:=⟨bits,d,rfl,b0,b1,p,h⟩
def zbM (P:Program) (w:World) (K:PySem.W.Frag) (mg:Str->Option Value) (base:Heap):Prop:=Fq P w K mg base "_law_is_block" (top 16) ["_law_bits_here","_law_thing"] 2 (spD K 2 zbU)
theorem zcY (D:Dq K mg "_law_is_block" (top 16) ["_law_bits_here","_law_thing"]) (h__law_whole:zbK P w K mg base) (T:Txt mg):zbM P w K mg base:=by
 obtain ⟨f,fd,D⟩:=D
 refine ⟨f,fd,D,D.okD zcW rfl fun cdv A outer s H E hr=>?_⟩
 refine' ⟨_,(zaf (zbo (zfo (zeq (zbt (zbs (dl (zbg zb2 T.isi T.tup zaZ (dl (zab 1)) zac)))) (zeq (za4 (zdl hr) zf8 (dl (zcx zbn zcR T.len zaU (zap (dl (zab 1)) zaS zac))) (dl zad) (zaE _)) (zdv (zbt (zbs (dl (zaO h__law_whole hr (zaa (zcd (dl (zab 1)) (dl zad)) (zaa zad (zaa (zab 0) zae zac) zai) zb6))))))))) (zah (zaw zb5)) zaz) (zah (zaw (zbX (zaO h__law_whole hr (zaa (zcd (dl (zab 1)) (dl zad)) (zaa zad (zaa (zdy (dl (zcw (dl zad) (dl (zab 0)))) (dl zad)) zae za3) zai) zb6)) (zdZ (zfr (zco hr) zen (dl (zof (dl (zcd (dl (zab 1)) (dl zad))) (dl (zdy (dl (zcw (dl zad) (dl (zcd (dl (zab 1)) (dl zad))))) (dl zad))))) (dl zad) (zaE _))))))),?_⟩
 intro ts n R hl h
 obtain ⟨bits,d,rfl,b0,b1,⟨p,p2⟩,h⟩:=h
 cases d with
 | dict ks =>
  cases ks with
  | nil =>
   wp_walk
   exact h
  | cons a b=>exact absurd rfl p
 | tuple ts =>
  have p2:=p2 ts rfl
  match ts,p2,h with
  | [],_,h =>
   wp_walk
   all_goals first | exact h | (exfalso;simp at hc;done)
  | [x],_,h =>
   have wr:zaF bits (.tuple [x])=false:=by unfold zaF;split <;> simp_all
   rw [wr] at h
   wp_walk
   all_goals first | exact h | (exfalso;simp at hc;done)
  | x::y::z::r,_,h =>
   have wr:zaF bits (.tuple (x::y::z::r))=false:=by unfold zaF;split <;> simp_all
   rw [wr] at h
   wp_walk
   all_goals first | exact h | (exfalso;simp at hc;lia)
  | [x,y],p2,h =>
   have px:=p2 x (by simp)
   have py:=p2 y (by simp)
   have wy:(∃ g,y=.int g)\/(∀ lo hi,whD lo hi y=false)/\zaF bits (.tuple [x,y])=false:=by
    cases y with
    | int g=>exact .inl ⟨g,rfl⟩
    | _=>exact .inr ⟨fun _ _=>rfl,by unfold zaF;split <;> simp_all⟩
   rcases wy with ⟨g,rfl⟩ | ⟨wy,wr⟩
   ·have wx:(∃ b,x=.int b)\/(∀ lo hi,whD lo hi x=false)/\zaF bits (.tuple [x,.int g])=false:=by
     cases x with
     | int g=>exact .inl ⟨g,rfl⟩
     | _=>exact .inr ⟨fun _ _=>rfl,by unfold zaF;split <;> simp_all⟩
    rcases wx with ⟨b,rfl⟩ | ⟨wx,wr⟩
    ·rw [zb_] at h
     have wi:∀ {lo hi i:Int} {c:Bool},whD lo hi (.int i)=c->(c=true↔lo<=i/\i<=hi):=fun {lo hi i c} e=>by
      rw [<- e];simp only [whD,Bool.and_eq_true,decide_eq_true_eq]
     wp_walk using zaP px ?_,zaP py ?_
     ·exact cpow (by lia) (by lia)
     ·rename_i h1 h2
      have:=(wi h2).mp rfl
      exact cpow (by lia) (by lia)
     ·rename_i h1 h2
      have a:=(wi h2).mp rfl
      have c:=(wi hc).mp rfl
      rw [zb0] at c ⊢
      rw [zke c.1]
      refine zfn ?_ h
      rw [decide_eq_decide]
      lia
     ·rename_i h1 h2
      have a:=(wi h2).mp rfl
      have c:¬(0<=b/\b<=1*2 ^ bits.toNat - 1):=fun z=>by have:=(wi hc).mpr z;cases this
      rw [zb0] at c
      refine zfn ?_ h
      symm;rw [decide_eq_false_iff_not]
      exact fun z=>c ⟨z.2.2.1,by have:=z.2.2.2.1;lia⟩
     ·have c:¬(0<=g/\g<=bits):=fun z=>by have:=(wi hc).mpr z;cases this
      refine zfn ?_ h
      symm;rw [decide_eq_false_iff_not]
      exact fun z=>c ⟨z.1,z.2.1⟩
     ·exact absurd rfl hc
    ·rw [wr] at h
     wp_walk using zaP px ?_,zaP py ?_
     all_goals first | exact h | exact cpow (by lia) (by lia) | exact absurd rfl hc | (rw [wx] at hc;cases hc)
   ·rw [wr] at h
    wp_walk using zaP px ?_,zaP py ?_
    all_goals first | exact h | exact cpow (by lia) (by lia) | exact absurd rfl hc | (exfalso;rename_i hy _;rw [wy] at hy;cases hy) | (exfalso;rw [wy] at *;contradiction)
 | _ =>
  wp_walk
  exact h
theorem zc_:FnScope ["_law_bits_here","_law_thing","_law_rule"] ["_law_bits_here","_law_thing"] (zag (top 17)):=⟨rfl,rfl,rfl,by decide +kernel,rfl,by decide +kernel,by decide +kernel⟩
theorem zkf {α:Type}{r:α->α->Prop} (tr:∀ a b c,r a b->r b c->r a c):∀ {l:List α},(∀ q∈l.zip l.tail,r q.1 q.2)↔l.Pairwise r
 | []=>by simp
 | [a]=>by simp
 | a::b::l=>by
  have ih:=zkf tr (l:=b::l)
  rw [List.pairwise_cons,<- ih]
  have e:(a::b::l).zip (a::b::l).tail=(a,b)::(b::l).zip (b::l).tail:=rfl
  rw [e]
  constructor
  ·intro h
   have h1:=h (a,b) (.head _)
   refine ⟨fun x hx=>?_,fun q hq=>h q (.tail _ hq)⟩
   rcases List.mem_cons.mp hx with rfl | hx
   ·exact h1
   ·have pw:=ih.mp fun q hq=>h q (.tail _ hq)
    exact tr _ _ _ h1 ((List.pairwise_cons.mp pw).1 x hx)
  ·rintro ⟨h1,h2⟩ q hq
   rcases List.mem_cons.mp hq with rfl | hq
   ·exact h1 b (.head _)
   ·exact h2 q hq
theorem zl5 (a b c:(Int×Int)×Int) (h:bkLt a.1 b.1) (k:bkLt b.1 c.1):bkLt a.1 c.1:=by
 unfold bkLt at *
 lia
theorem zmM {bits:Int}{rs:RL} (al:(rD rs).all (za6 bits)=true):rlsD bits (.tuple (rD rs))=true↔rs.Pairwise fun (a b:(Int×Int)×Int)=>bkLt a.1 b.1:=by
 have e:rlsD bits (.tuple (rD rs))=((rD rs).all (za6 bits)&&(((rD rs).zip (rD rs).tail).all fun q=>bLt q.1 q.2)):=rfl
 rw [e,al,Bool.true_and,List.all_eq_true,<- zkf zl5]
 have ez:(rD rs).zip (rD rs).tail=(rs.zip rs.tail).map fun q=>(PyData.tuple [.tuple [.int q.1.1.1,.int q.1.1.2],.int q.1.2],PyData.tuple [.tuple [.int q.2.1.1,.int q.2.1.2],.int q.2.2]):=by
  unfold rD
  rw [<- List.map_tail,List.zip_map]
  rfl
 rw [ez]
 constructor
 ·intro h q hq
  have:=h _ (List.mem_map_of_mem hq)
  dsimp only [bLt] at this
  unfold bkLt
  exact of_decide_eq_true this
 ·intro h x hx
  obtain ⟨q,hq,rfl⟩:=List.mem_map.mp hx
  have:=h q hq
  unfold bkLt at this
  dsimp only [bLt]
  exact decide_eq_true this
theorem zkj {bits:Int} (b1:bits<=64):∀ {ts:List PyData},ts.all (za6 bits)=true->∃ rs:RL,ts=rD rs/\∀ r∈rs,RlOk r
 | [],_=>⟨[],rfl,(fun r hr=>nomatch hr)⟩
 | t::ts,h=>by
  rw [List.all_cons,Bool.and_eq_true] at h
  obtain ⟨rs,rfl,ok⟩:=zkj b1 h.2
  obtain ⟨a,b,s,rfl⟩:=zgt h.1
  refine ⟨((a,b),s)::rs,rfl,fun r hr=>?_⟩
  rcases List.mem_cons.mp hr with rfl | hr
  ·have h1:(zaF bits (.tuple [.int a,.int b])&&sgD (.int s))=true:=h.1
   rw [Bool.and_eq_true,zb_] at h1
   obtain ⟨h1,h2⟩:=h1
   have h1:=of_decide_eq_true h1
   have h2:(decide (0<=s)&&decide (s<=1))=true:=h2
   rw [Bool.and_eq_true,decide_eq_true_eq,decide_eq_true_eq] at h2
   have h3:=h1.1
   have h4:=h1.2.1
   exact ⟨h3,by show b<1000;lia,h2.1,h2.2⟩
  ·exact ok r hr
def zdX:GD:=fun ts n R=>∃ (bits:Int) (d:PyData),ts=[.int bits,d]/\0<=bits/\bits<=64/\PlnD d/\(∀ us,d=.tuple us->us.length<100000)/\R (.bool (rlsD bits d)) n
theorem zd3 {bits:Int}{d:PyData}{n:Nat}{R:PyData->Nat->Prop} (b0:0<=bits) (b1:bits<=64) (p:PlnD d) (l:∀ us,d=.tuple us->us.length<100000) (h:R (.bool (rlsD bits d)) n):zdX [.int bits,d] n R:=⟨bits,d,rfl,b0,b1,p,l,h⟩
def zdR (P:Program) (w:World) (K:PySem.W.Frag) (mg:Str->Option Value) (base:Heap):Prop:=Fq P w K mg base "_law_due" (top 17) ["_law_bits_here","_law_thing"] 3 (spD K 2 zdX)
theorem zfX (D:Dq K mg "_law_due" (top 17) ["_law_bits_here","_law_thing"]) (h__law_whole:zbK P w K mg base) (h__law_is_block:zbM P w K mg base) (T:Txt mg):zdR P w K mg base:=by
 obtain ⟨f,fd,D⟩:=D
 refine ⟨f,fd,D,D.okD zc_ rfl fun cdv A outer s H E hr=>?_⟩
 refine' ⟨_,(zaf (zbo (zbt (zbs (dl (zbg zb2 T.isi T.tup zaZ (dl (zab 1)) zac)))) (zah (zaw zb5)) zaz) (zaf (zdY PassesOwn.never rfl (zkC (zab 1)) (zaC (i:=2) zc_.nd rfl (Or.inl rfl)) (zaf (zbo (zfo (zeq (zbt (zbs (dl (zbg zb2 T.isi T.tup zaZ (dl (zab 2)) zac)))) (zeq (za4 (zdl hr) zf8 (dl (zcx zbn zcR T.len zaU (zap (dl (zab 2)) zaS zac))) (dl zad) (zaE _)) (zdv (zbt (zbs (dl (zaO h__law_is_block hr (zaa (zab 0) (zaa (zcd (dl (zab 2)) (dl zad)) zae zb6) zac))))))))) (zah (zaw zb5)) zaz) (zah (zbo (zbt (zbs (dl (zaO h__law_whole hr (zaa (zcd (dl (zab 2)) (dl zad)) (zaa zad (zaa zad zae zai) zai) zb6))))) (zah (zaw zb5)) zaz)))) (zah (zaw (zbX (zfr (zco hr) zen (dl (za1 (zes T.lst (dl (zab 1)) zac))) (dl (za1 (zhl hr T.srt (dl (zab 1)) zac))) (zaE _)) (zdZ (zfr (zco hr) zen (dl (zlW rfl hr T.len T.dct (zes T.lst (dl (zab 1)) zac))) (dl (zcx zbn zcR T.len zaU (zap (dl (zab 1)) zaS zac))) (zaE _)))))))),?_⟩
 intro ts n R hl h
 obtain ⟨bits,d,rfl,b0,b1,p,l,h⟩:=h
 cases d with
 | dict ks =>
  cases ks with
  | nil =>
   wp_walk
   exact h
  | cons a b=>exact absurd rfl p.pln
 | tuple us =>
  obtain ⟨l6,p3⟩:=p.tup
  have lu:=l us rfl
  wp_walk
  refine zb3 (fun k ρ m=>m=n/\∃ c2,ρ=[some (.val (.int bits)),some (.val (.tuple us)),c2]/\(us.take k).all (za6 bits)=true) ⟨rfl,_,rfl,by simp⟩ ?_ ?_
  ·rintro k t ρ m K et ⟨rfl,c2,rfl,al⟩ hK
   have pt:=p3 t (List.mem_of_getElem? et)
   have bad:za6 bits t=false->rlsD bits (.tuple us)=false:=fun z=>by
    have e:rlsD bits (.tuple us)=(us.all (za6 bits)&&((us.zip us.tail).all fun q=>bLt q.1 q.2)):=rfl
    have:us.all (za6 bits)=false:=List.all_eq_false.mpr ⟨t,List.mem_of_getElem? et,by rw [z];exact Bool.false_ne_true⟩
    rw [e,this,Bool.false_and]
   have good:za6 bits t=true->(us.take (k+1)).all (za6 bits)=true:=fun z=>by
    rw [List.take_add_one,et,List.all_append,al]
    simp [z]
   cases t with
   | dict ks =>
    cases ks with
    | nil =>
     rw [bad rfl] at h
     wp_walk
     all_goals exact h
    | cons a b=>exact absurd rfl pt.pln
   | tuple vs =>
    obtain ⟨_,pv⟩:=pt.tup
    match vs,pv,bad,good with
    | [],_,bad,good =>
     rw [bad rfl] at h
     wp_walk
     all_goals first | exact h | (exfalso;simp at hc;done)
    | [x],_,bad,good =>
     have e:za6 bits (.tuple [x])=false:=by unfold za6;split <;> simp_all
     rw [bad e] at h
     wp_walk
     all_goals first | exact h | (exfalso;simp at hc;done)
    | x::y::z::r,_,bad,good =>
     have e:za6 bits (.tuple (x::y::z::r))=false:=by unfold za6;split <;> simp_all
     rw [bad e] at h
     wp_walk
     all_goals first | exact h | (exfalso;simp at hc;lia)
    | [x,y],pv,bad,good =>
     have px:=pv x (by simp)
     have py:=pv y (by simp)
     have e:za6 bits (.tuple [x,y])=(zaF bits x&&sgD y):=rfl
     have ew:whD 0 1 y=sgD y:=by cases y <;> rfl
     rw [e] at bad good
     rw [<- ew] at bad good
     wp_walk using zdE b0 b1 (zfU px) ?_,zaP py.pln ?_
     ·rename_i h1 h2
      exact hK _ _ ⟨rfl,_,rfl,good (by rw [h2,hc];rfl)⟩
     ·rename_i h1 h2
      rw [bad (by rw [hc,Bool.and_false])] at h;exact h
     ·rw [bad (by rw [hc,Bool.false_and])] at h;exact h
     ·exact absurd rfl hc
   | _ =>
    rw [bad rfl] at h
    wp_walk
    all_goals exact h
  ·rintro ρ m ⟨rfl,c2,rfl,al⟩
   rw [List.take_length] at al
   obtain ⟨rs,rfl,ok⟩:=zkj b1 al
   have hi:=zmM al
   rw [zbh] at lu
   wp_walk
   refine ⟨rs,rfl,lu,ok,fun rs' pm pw=>?_⟩
   refine ⟨zgI.1,zgI.1,?_⟩
   rw [zn7]
   have si:=zg5 ok pm pw
   by_cases e:rs=rs'
   ·rw [decide_eq_true e]
    wp_walk
    refine ⟨kR rs,znr.symm,?_⟩
    wp_walk
    refine zfn ?_ h
    rw [zbh,Bool.eq_iff_iff,decide_eq_true_eq,Int.natCast_inj,zls,hi,<- si]
    exact ⟨fun z=>⟨e,z⟩,fun z=>z.2⟩
   ·rw [decide_eq_false e]
    have:rlsD bits (.tuple (rD rs))=false:=by
     rw [Bool.eq_false_iff]
     exact fun z=>e (si.mpr (hi.mp z)).1
    rw [this] at h
    wp_walk
    exact h
 | _ =>
  wp_walk
  exact h
theorem zar:FnScope ["_law_hand_here","_law_bits_here","_law_rule","_law_begin","_law_height","_law_sign","_law_blocks_here","_law_signs"] ["_law_hand_here","_law_bits_here","_law_rule"] (zag (top 18)):=⟨rfl,rfl,rfl,by decide +kernel,rfl,by decide +kernel,by decide +kernel⟩
theorem zbC {x y:PyData} (h:PlnD x) (h':PlnD y):PlnD (.tuple [x,y]):=zbj (by simp) (zat h (zat h' zaG))
theorem zgD {x:PyData} (h:PlnD x):PlnD (.tuple [x]):=zbj (by simp) (zat h zaG)
def zbT:GD:=fun ts n R=>∃ bits b h s:Int,ts=[HAND,.int bits,.tuple [.tuple [.int b,.int h],.int s]]/\0<=bits/\bits<=64/\n<=1000000000000 - 10/\∀ d,PlnD d->R d (n+3)
theorem zdC {bits b h s:Int}{n:Nat}{R:PyData->Nat->Prop} (b0:0<=bits) (b1:bits<=64) (hn:n<=1000000000000 - 10) (z:∀ d,PlnD d->R d (n+3)):zbT [HAND,.int bits,.tuple [.tuple [.int b,.int h],.int s]] n R:=⟨bits,b,h,s,rfl,b0,b1,hn,z⟩
def zbL (P:Program) (w:World) (K:PySem.W.Frag) (mg:Str->Option Value) (base:Heap):Prop:=Fq P w K mg base "_law_odd_rule" (top 18) ["_law_hand_here","_law_bits_here","_law_rule"] 3 (spD K 3 zbT)
theorem zcX (D:Dq K mg "_law_odd_rule" (top 18) ["_law_hand_here","_law_bits_here","_law_rule"]) (h__law_pick:zaW P w K mg base) (T:Txt mg):zbL P w K mg base:=by
 obtain ⟨f,fd,D⟩:=D
 refine ⟨f,fd,D,D.okD zar rfl fun cdv A outer s H E hr=>?_⟩
 refine' ⟨_,(zaf (zfp (zab 2) (zdx rfl (zaL (zdx rfl (zaL (zaC (i:=3) zar.nd rfl (Or.inl rfl)) (zaL (zaC (i:=4) zar.nd rfl (Or.inl rfl)) zcc))) (zaL (zaC (i:=5) zar.nd rfl (Or.inl rfl)) zcc)))) (zaf (zbu (i:=6) zar.nd rfl (Or.inl rfl) (za1 (zbm (zaa (zan (zaa (zaQ (dl (zab 3)) (dl zad)) (zaa (zab 4) zae zac) za3)) (zaa (zan (zaa (zab 3) (zaa (zaQ (dl (zab 4)) (dl zad)) zae za3) zac)) (zaa (zan (zaa (zab 3) (zaa (zaQ (dl (zab 1)) (dl zad)) zae za3) zac)) (zaa (zan (zaa (zcw (dl zad) (dl (zab 1))) (zaa zad zae zai) za3)) (zaa (zan (zaa (zgW zad) (zaa zad zae zai) zkP)) (zaa (zan (zaa (zab 3) zae zac)) (zaa (zab 3) zae zac) zaj) zaj) zaj) zaj) zaj) zaj)))) (zaf (zbu (i:=6) zar.nd rfl (Or.inl rfl) (za1 (zkB (dl (zab 6)) (dl (za1 (zbm (zaa (zan (zaa (zab 3) (zaa (zab 4) (zaa zad zae zai) zac) zac)) (zaa (za1 (zbm (zaa (zab 3) (zaa (zab 4) zae zac) zac))) (zaa (zan (zaa (zab 3) (zaa (zgW zad) zae zkP) zac)) (zaa (zan (zaa zb5 (zaa zad zae zai) zd7)) (zaa (zan (zaa (zab 3) (zaa zd0 zae zcy) zac)) (zaa zd0 (zaa ziH zae zhC) zcy) zaj) zaj) zaj) zcz) zaj))))))) (zaf (zbu (i:=7) zar.nd rfl (Or.inl rfl) (za1 (zbm (zaa zad (zaa (zgW zad) (zaa zb5 (zaa zb5 (zaa zd0 (zaa ziH (zaa (zan (zaa zad zae zai)) (zaa (zdy (dl zad) (dl (zab 5))) zae za3) zaj) zhC) zcy) zd7) zd7) zkP) zai)))) (zah (zaw (zaO h__law_pick hr (zaa (zab 0) (zaa (za1 (zbm (zaa (zan (zaa (zaO h__law_pick hr (zaa (zab 0) (zaa (zab 6) zae zac) zac)) (zaa (zab 5) zae zac) zaM)) (zaa (zan (zaa (zcd (dl (zab 2)) (dl zad)) (zaa (zaO h__law_pick hr (zaa (zab 0) (zaa (zab 7) zae zac) zac)) zae zaM) zb6)) (zaa (zaN (dl (zab 2)) zbp (za7 zad)) (zaa (za1 (zes T.lst (dl (zab 2)) zac)) (zaa (zaQ (dl (zab 2)) (dl (zan (zaa zad zae zai)))) (zaa zd0 (zaa (zcd (dl (zab 2)) (dl zad)) (zaa (zan (zaa (zab 5) (zaa (zcd (dl (zab 2)) (dl zad)) zae zb6) zac)) zae zaj) zb6) zcy) za3) zaM) zb6) zaj) zaj))) zae zcz) zac)))))))),?_⟩
 intro ts n R hl h
 obtain ⟨bits,b,g,s,rfl,b0,b1,hn,h⟩:=h
 have pk:∀ {xs:List PyData} {n:Nat} {R:PyData->Nat->Prop},xs≠[]->xs.length<=1000000->n<=1000000000000->(∀ x∈xs,PlnD x)->(∀ y,PlnD y->R y (n+1))->zaX [HAND,.list xs] n R:=fun h1 h2 h3 h4 z=>zbF h1 h2 h3 fun y hy=>z y (h4 y hy)
 have p1:PlnD (.tuple [.int b,.int g]):=zbC zaK zaK
 wp_walk using pk ?_ ?_ ?_ ?_ (fun y hy=>?_)
 all_goals first
  | exact cpow (by lia) (by lia)
  | lia
  | (simp;done)
  | exact h _ hy
  | skip
 all_goals
  repeat' first
   | exact zaG
   | exact zaK
   | exact zeP
   | exact zdk
   | exact p1
   | assumption
   | exact zgC (by decide +kernel)
   | refine zat ?_ ?_
   | refine za9 ?_ ?_
   | refine zbC ?_ ?_
   | refine zgD ?_
   | refine plnD_three ?_ ?_ ?_
   | refine plnD_ltwo ?_ ?_
   | refine zbj (Nat.le_trans zgY (by simp)) fun t ht=>zat p1 (zat zaK zaG) t (zgX ht)
   | refine zbj (by simp) ?_
theorem zaI:FnScope ["_law_hand_here","_law_bits_here","_law_rules_here","_law_at","_law_way","_law_block_here","_law_sign","_law_rest","_law_other"] ["_law_hand_here","_law_bits_here","_law_rules_here"] (zag (top 19)):=⟨rfl,rfl,rfl,by decide +kernel,rfl,by decide +kernel,by decide +kernel⟩
theorem zgz {rs:List ((Int×Int)×Int)}:∀ t∈rD rs,PlnD t:=fun t ht=>by
 obtain ⟨r,_,rfl⟩:=List.mem_map.mp ht
 exact zbC (zbC zaK zaK) zaK
def zcu:GD:=fun ts n R=>∃ (bits:Int) (rs:List ((Int×Int)×Int)),ts=[HAND,.int bits,.tuple (rD rs)]/\0<=bits/\bits<=64/\rs≠[]/\rs.length<=1000/\n<=1000000000000 - 20/\∀ (d:PyData) (m:Nat),PlnD d->(∀ us,d=.tuple us->us.length<=3010)->m<=n+5->R d m
theorem zew {bits:Int}{rs:List ((Int×Int)×Int)}{n:Nat}{R:PyData->Nat->Prop} (b0:0<=bits) (b1:bits<=64) (ne:rs≠[]) (l:rs.length<=1000) (hn:n<=1000000000000 - 20) (z:∀ (d:PyData) (m:Nat),PlnD d->(∀ us,d=.tuple us->us.length<=3010)->m<=n+5->R d m):zcu [HAND,.int bits,.tuple (rD rs)] n R:=⟨bits,rs,rfl,b0,b1,ne,l,hn,z⟩
def zci (P:Program) (w:World) (K:PySem.W.Frag) (mg:Str->Option Value) (base:Heap):Prop:=Fq P w K mg base "_law_spoilt" (top 19) ["_law_hand_here","_law_bits_here","_law_rules_here"] 4 (spD K 3 zcu)
theorem zdF (D:Dq K mg "_law_spoilt" (top 19) ["_law_hand_here","_law_bits_here","_law_rules_here"]) (h__law_odd_rule:zbL P w K mg base) (h__law_take:za5 P w K mg base) (T:Txt mg):zci P w K mg base:=by
 obtain ⟨f,fd,D⟩:=D
 refine ⟨f,fd,D,D.okD zaI rfl fun cdv A outer s H E hr=>?_⟩
 refine' ⟨_,(zaf (zn_ (i:=3) (j:=4) rfl zaI.nd rfl rfl (by decide) rfl rfl (zaa (zaO h__law_take hr (zaa (zab 0) (zaa (zcx zbn zcR T.len zaU (zap (dl (zab 2)) zaS zac)) zae zaM) zac)) (zaa (zaO h__law_take hr (zaa (zab 0) (zaa zad zae zai) zac)) zae zaM) zaM)) (zaf (zfp (zcd (dl (zab 2)) (dl (zab 3))) (zdx rfl (zaL (zaC (i:=5) zaI.nd rfl (Or.inl rfl)) (zaL (zaC (i:=6) zaI.nd rfl (Or.inl rfl)) zcc)))) (zaf (zbu (i:=7) zaI.nd rfl (Or.inl rfl) (zaQ (dl (zaN (dl (zab 2)) zbp (za7 (zab 3)))) (dl (zaN (dl (zab 2)) (za7 (zaQ (dl (zab 3)) (dl zad))) zbp)))) (zaf (zbo (za4 (zco hr) zen (dl (zab 4)) (dl zad) (zaE _)) (zah (zaw (zaQ (dl (zaQ (dl (zaN (dl (zab 2)) zbp (za7 (zab 3)))) (dl (zaN (dl (zab 2)) (za7 (zab 3)) (za7 (zaQ (dl (zab 3)) (dl zad))))))) (dl (zaN (dl (zab 2)) (za7 (zab 3)) zbp))))) zaz) (zaf (zbo (za4 (zco hr) zen (dl (zab 4)) (dl zad) (zaE _)) (zah (zaw (zab 7))) zaz) (zaf (zbo (za4 (zco hr) zen (dl (zab 4)) (dl zad) (zaE _)) (zah (zaw (zaQ (dl (zab 7)) (dl (zan (zaa (zcd (dl (zab 2)) (dl (zab 3))) zae zb6)))))) zaz) (zaf (zbo (za4 (zco hr) zen (dl (zab 4)) (dl zad) (zaE _)) (zah (zaw (zaQ (dl (zaQ (dl (zaN (dl (zab 2)) zbp (za7 (zab 3)))) (dl (zan (zaa (zan (zaa (zab 5) (zaa zad zae zai) zac)) (zaa (zan (zaa (zab 5) (zaa zad zae zai) zac)) zae zaj) zaj))))) (dl (zaN (dl (zab 2)) (za7 (zaQ (dl (zab 3)) (dl zad))) zbp))))) zaz) (zaf (zbo (za4 (zco hr) zen (dl (zab 4)) (dl zad) (zaE _)) (zah (zaw (zoc (dl (zab 2)) (za7 (zgW zad))))) zaz) (zaf (zbu (i:=8) zaI.nd rfl (Or.inl rfl) (zaO h__law_odd_rule hr (zaa (zab 0) (zaa (zab 1) (zaa (zcd (dl (zab 2)) (dl (zab 3))) zae zb6) zac) zac))) (zah (zaw (zaQ (dl (zaQ (dl (zaN (dl (zab 2)) zbp (za7 (zab 3)))) (dl (zan (zaa (zab 8) zae zac))))) (dl (zaN (dl (zab 2)) (za7 (zaQ (dl (zab 3)) (dl zad))) zbp)))))))))))))),?_⟩
 intro ts n R hl h
 obtain ⟨bits,rs,rfl,b0,b1,ne,l,hn,h⟩:=h
 have lp:=List.length_pos_iff.mpr ne
 have fin:∀ (us:List PyData) (m:Nat),us.length<=3010->(∀ t∈us,PlnD t)->m<=n+5->R (.tuple us) m:=fun us m l p hm=>h _ _ (zbj (by lia) p) (fun _ e=>by cases e;exact l) hm
 have ix:∀ (r:Int) (Q:PyData->Prop),0<=r->r<rs.length->(∀ a b s:Int,Q (.tuple [.tuple [.int a,.int b],.int s]))->oIx (.tuple (rD rs)) (.int r) Q:=fun r Q r0 r1 hq=>znv r0 (by rw [zbh];exact r1) fun x hx=>by
  obtain ⟨g,_,rfl⟩:=List.mem_map.mp hx
  exact hq _ _ _
 have cl:∀ lo hi,(cutD (rD rs) lo hi).length<=1000:=fun lo hi=>Nat.le_trans zgY (by rw [zbh];exact l)
 have cm:∀ lo hi,∀ t∈cutD (rD rs) lo hi,PlnD t:=fun lo hi t ht=>zgz t (zgX ht)
 have rb:∀ a b s:Int,PlnD (.tuple [.tuple [.int a,.int b],.int s]):=fun a b s=>zbC (zbC zaK zaK) zaK
 have l2:∀ {xs ys:List PyData} {k m:Nat},xs.length<=k->ys.length<=m->(xs++ys).length<=k+m:=fun a b=>by rw [List.length_append];exact Nat.add_le_add a b
 wp_walk using zg0 ?_ ?_ ?_ (fun r r0 r1=>?_),ix _ _ ?_ ?_ (fun a b s=>?_),zdC b0 b1 ?_ (fun d hd=>?_)
 ·rw [zbh];lia
 ·rw [zbh];lia
 ·lia
 ·decide
 ·decide
 ·lia
 ·assumption
 ·rw [<- zbh];assumption
 ·exact Nat.le_trans (Nat.add_le_add (cl _ _) (cl _ _)) (by decide)
 ·exact Nat.le_trans (Nat.add_le_add (cl _ _) (cl _ _)) (by decide)
 ·exact Nat.le_trans (Nat.add_le_add (l2 (cl _ _) (cl _ _)) (cl _ _)) (by decide)
 ·exact fin _ _ (Nat.le_trans (l2 (l2 (cl _ _) (cl _ _)) (cl _ _)) (by decide)) (za9 (za9 (cm _ _) (cm _ _)) (cm _ _)) (by lia)
 ·exact fin _ _ (Nat.le_trans (l2 (cl _ _) (cl _ _)) (by decide)) (za9 (cm _ _) (cm _ _)) (by lia)
 ·assumption
 ·rw [<- zbh];assumption
 ·exact Nat.le_trans (Nat.add_le_add (l2 (cl _ _) (cl _ _)) (Nat.le_refl _)) (show 1000+1000+1<=_ by decide)
 ·exact fin _ _ (Nat.le_trans (l2 (l2 (cl _ _) (cl _ _)) (Nat.le_refl _)) (show 1000+1000+1<=_ by decide)) (za9 (za9 (cm _ _) (cm _ _)) (zat (rb _ _ _) zaG)) (by lia)
 ·exact Nat.le_trans (Nat.add_le_add (cl _ _) (Nat.le_refl _)) (show 1000+2<=_ by decide)
 ·exact Nat.le_trans (Nat.add_le_add (l2 (cl _ _) (Nat.le_refl _)) (cl _ _)) (show 1000+2+1000<=_ by decide)
 ·exact fin _ _ (Nat.le_trans (l2 (l2 (cl _ _) (Nat.le_refl _)) (cl _ _)) (show 1000+2+1000<=_ by decide)) (za9 (za9 (cm _ _) (zat (rb _ _ _) (zat (rb _ _ _) zaG))) (cm _ _)) (by lia)
 ·rfl
 ·exact fin _ _ (by rw [List.length_reverse,zbh];lia) (fun t ht=>zgz t (List.mem_reverse.mp ht)) (by lia)
 ·assumption
 ·rw [<- zbh];assumption
 ·lia
 ·exact Nat.le_trans (Nat.add_le_add (cl _ _) (Nat.le_refl _)) (show 1000+1<=_ by decide)
 ·exact Nat.le_trans (Nat.add_le_add (l2 (cl _ _) (Nat.le_refl _)) (cl _ _)) (show 1000+1+1000<=_ by decide)
 ·exact fin _ _ (Nat.le_trans (l2 (l2 (cl _ _) (Nat.le_refl _)) (cl _ _)) (show 1000+1+1000<=_ by decide)) (za9 (za9 (cm _ _) (zat hd zaG)) (cm _ _)) (by lia)
theorem zbI:FnScope ["_law_script","_law_k","_law_hand_here","_law_bits_here","_law_most","_law_rules_here","_law_some","_law_turn","_law_thing","_law_found"] ["_law_script"] (zag (top 20)):=⟨rfl,rfl,rfl,by decide +kernel,rfl,by decide +kernel,by decide +kernel⟩
def Small (u:PyData):Prop:=PlnD u/\∀ us,u=.tuple us->us.length<=3010
theorem zaq {u:PyData}{us:List PyData} (h:Small u) (k:∀ x∈us,Small x):∀ x∈u::us,Small x:=fun x hx=>(List.mem_cons.mp hx).elim (fun e=>e▸h) (k x)
theorem zeH:∀ x∈([]:List PyData),Small x:=fun x hx=>nomatch hx
theorem zbq {us:List PyData} (l:us.length<=3010) (h:∀ t∈us,PlnD t):Small (.tuple us):=⟨zbj (Nat.le_trans l (by decide)) h,fun vs e=>by cases e;exact l⟩
theorem zbw {u:PyData} (h:PlnD u) (n:∀ us,u≠.tuple us):Small u:=⟨h,fun us e=>absurd e (n us)⟩
theorem znk {f:Addr}{fd:FuncData} (D:Def K mg "law" (top 20) ["_law_script"] f fd) (h__law_hand:zdh P w K mg base) (h__law_bits:zdi P w K mg base) (h__law_pick:zaW P w K mg base) (h__law_rules:zcQ P w K mg base) (h_are_rules:zdf P w K mg base) (h__law_spoilt:zci P w K mg base) (h__law_due:zdR P w K mg base) (T:Txt mg):FnOk P w K mg base CX0 7 f fd ["_law_script"] (spD K 1 zn4):=by
 refine D.okD zbI rfl fun cdv A outer s H E hr=>?_
 refine' ⟨_,(zaf (zdY PassesOwn.never rfl (zdw T.ran (zcx (zfz rfl) zkw T.max zfF (zap (dl zad) (zap (dl (zcx (zfy rfl) zkv T.min zfE (zap (dl (zcx zbn zcR T.len zaU (zap (dl (zab 0)) zaS zac))) (zap (dl zad) zaS zai) zaM))) zaS zaM) zai))) (zaC (i:=1) zbI.nd rfl (Or.inl rfl)) (ziy (i:=2) (j:=1) h__law_hand hr zbI.nd rfl (Or.inl rfl) (zaf (zbu (i:=3) zbI.nd rfl (Or.inl rfl) (zaO h__law_bits hr (zaa (zab 2) zae zac))) (zaf (zbu (i:=4) zbI.nd rfl (Or.inl rfl) (zaO h__law_pick hr (zaa (zab 2) (zaa (za1 (zbm (zaa zad (zaa zad (zaa zad (zaa zad (zaa zad (zaa zad (zaa zad (zaa zad zae zai) zai) zai) zai) zai) zai) zai) zai))) zae zcz) zac))) (zaf (zbu (i:=5) zbI.nd rfl (Or.inl rfl) (zaO h__law_rules hr (zaa (zab 2) (zaa (zab 3) (zaa (zab 4) zae zac) zac) zac))) (zaf (zgU (i:=6) zbI.nd rfl (Or.inl rfl) (zbm (zaa (zab 5) (zaa (zan zae) (zaa zd0 (zaa zb5 (zaa zad (zaa ziH (zaa (za1 (zbm zae)) (zaa zj5 (zaa (za1 (zes T.lst (dl (zab 5)) zac)) (zaa (zan (zaa zd0 zae zcy)) (zaa (zan (zaa (zan zae) zae zaj)) zae zaj) zaj) zaM) zkQ) zcz) zhC) zai) zd7) zcy) zaj) zac))) (zaf (zgU (i:=6) zbI.nd rfl (Or.inl rfl) (zkB (ziC 6) (dl (za1 (zbm (zaa (zan (zaa (zan (zaa (zan (zaa zad (zaa zad zae zai) zai)) zae zaj)) zae zaj)) (zaa (zan (zaa (zan (zaa zad (zaa zad zae zai) zai)) (zaa zad zae zai) zaj)) (zaa (zan (zaa (zab 5) zae zac)) zae zaj) zaj) zaj)))))) (zaf (zbo (za4 (zdl hr) zf8 (dl (zab 5)) (dl (zan zae)) (zaE _)) (zah (zdY PassesOwn.never rfl (zdw T.ran zad) (zaC (i:=7) zbI.nd rfl (Or.inl rfl)) (zah (zbv 6 (zaO h__law_spoilt hr (zaa (zab 2) (zaa (zab 3) (zaa (zab 5) zae zac) zac) zac)))))) zaz) (zcK 6 (zah (zdY PassesOwn.never rfl (ziD (zab 6)) (zaC (i:=8) zbI.nd rfl (Or.inl rfl)) (zaf (zbu (i:=9) zbI.nd rfl (Or.inl rfl) (zaO h_are_rules hr (zaa (zab 3) (zaa (zab 8) zae zac) zac))) (zah (zbo (zfo (zeq (zbt (zbs (dl (zbg zf7 T.isi T.boo zcN (dl (zab 9)) zac)))) (zdv (za4 (zdl hr) zf8 (dl (zab 9)) (dl (zaO h__law_due hr (zaa (zab 3) (zaa (zab 8) zae zac) zac))) (zaE _))))) (zah (zaw zb5)) zaz)))))))))))))) (zah (zaw zb5))),?_⟩
 intro ts n R hl hh
 obtain ⟨ns,rfl,hl63,hh⟩:=hh
 wp_walk
 ·split <;> (try split) <;> lia
 ·split <;> (try split) <;> lia
 refine zb3 (fun _ ρ m=>∃ a1 a2 a3 a4 a5 a6 a7 a8 a9,ρ=[some (.val (SCR ns)),a1,a2,a3,a4,a5,a6,a7,a8,a9]/\m=n) ⟨_,_,_,_,_,_,_,_,_,rfl,rfl⟩ ?_ ?_
 ·rintro k t ρ m K et ⟨a1,a2,a3,a4,a5,a6,a7,a8,a9,rfl,rfl⟩ hK
  obtain ⟨hk,rfl⟩:=zcD et
  have hk8:k<8:=by
   revert hk
   split <;> (try split) <;> lia
  with_reducible refine Stp.go ?_
  refine zjW hl63 (by lia) (by lia) fun NX RT BK CT hNX hRT hBK hCT=>?_
  have pk:∀ {n:Nat} {R:PyData->Nat->Prop},n<=1000000000000->(∀ most:Int,0<=most->most<=40->R (.int most) (n+1))->zaX [HAND,.list [.int 8,.int 8,.int 8,.int 8,.int 8,.int 8,.int 8,.int 40]] n R:=fun h1 h2=>zbF (by simp) (by simp) h1 fun x hx=>by
   simp only [List.mem_cons,List.not_mem_nil,or_false] at hx
   rcases hx with rfl | rfl | rfl | rfl | rfl | rfl | rfl | rfl <;> exact h2 _ (by decide) (by decide)
  wp_walk using zgd ?_ (fun bits b0 b1=>?_),pk ?_ (fun most m0 m1=>?_)
  ·lia
  ·lia
  refine zfD b0 b1 m0 (by lia) (by lia) (fun rs m A lr hm=>?_)
  have okn:Okd (.tuple []):=zgI (rs:=[]) |>.2
  have pR:PlnD (.tuple (rD rs)):=zbj (by rw [zbh];lia) zgz
  have p00:PlnD (.tuple [.int 0,.int 0]):=zbC zaK zaK
  have hs0:∀ u∈[PyData.tuple (rD rs),.tuple [],.none,.bool true,.int 0,.str (Str.ofString ""),.list [],.dict [],.list (rD rs),.tuple [.none],.tuple [.tuple []]]++[.tuple [.tuple [.tuple [.int 0,.int 0]]],.tuple [.tuple [.int 0,.int 0],.int 1],.tuple [.tuple (rD rs)]],Small u:=fun u hu=>by
   rcases List.mem_append.mp hu with hu | hu
   ·refine zaq ⟨pR,fun us e=>?_⟩ (zaq (zbq (by simp) zaG) (zaq (zbw zdk fun _ z=>nomatch z) (zaq (zbw zeP fun _ z=>nomatch z) (zaq (zbw zaK fun _ z=>nomatch z) (zaq (zbw (zgC (by decide +kernel)) fun _ z=>nomatch z) (zaq (zbw (zgE (by simp) zaG) fun _ z=>nomatch z) (zaq (zbw zhV fun _ z=>nomatch z) (zaq (zbw (zgE (by rw [zbh];lia) zgz) fun _ z=>nomatch z) (zaq (zbq (by simp) (zat zdk zaG)) (zaq (zbq (by simp) (zat (zbj (by simp) zaG) zaG)) zeH)))))))))) u hu
    cases e;rw [zbh];lia
   ·exact zaq (zbq (by simp) (zat (zgD p00) zaG)) (zaq (zbq (by simp) (zat p00 (zat zaK zaG))) (zaq (zbq (by simp) (zat pR zaG)) zeH)) u hu
  have j_neB:∀ {b:Bool} {R:PyData->Prop},R (.bool false)->oNe (.bool b) (.bool b) R:=fun {b R} h=>by
   have e:(!decide (b=b))=false:=by simp
   show R (.bool (!decide (b=b)))
   rw [e];exact h
  wp_walk
  ·simp
  ·exact zgI.2
  ·exact okn
  ·refine zkz 8 9 (fun _ _ _ m2=>m2=m) rfl ?_ ?_
   ·rintro q t a8 a9 m2 K2 RT2 BK2 et2 rfl hK2 hRT2 hBK2
    obtain ⟨pu,lu⟩:=hs0 t (List.mem_of_getElem? et2)
    wp_walk using zdB (by lia) b1 pu ?_,zd3 (by lia) b1 pu (fun us e=>Nat.lt_of_le_of_lt (lu us e) (by decide)) ?_,j_neB ?_
    all_goals first | exact hK2 _ _ _ rfl | exact absurd rfl hc
   ·rintro a8 a9 m2 rfl
    wp_walk
    exact hNX _ _ (hK _ _ ⟨_,_,_,_,_,_,_,_,_,rfl,rfl⟩)
  ·decide
  ·decide
  ·have ne:rs≠[]:=fun z=>by
    rw [z] at hc
    exact absurd hc (by decide)
   refine zb3 (fun q ρ m'=>m'<=m+5*q/\∃ us c7,ρ=[some (.val (SCR ns)),some (.val (.int (0+(k:Int)))),some (.val HAND),some (.val (.int bits)),some (.val (.int most)),some (.val (.tuple (rD rs))),some (.own us),c7,none,none]/\us.length<=14+q/\∀ u∈us,Small u) ⟨Nat.le_refl _,_,_,rfl,by simp,hs0⟩ ?_ ?_
   ·rintro q t ρ m' K3 et3 ⟨hm',us,c7,rfl,lu,hus⟩ hK3
    obtain ⟨hq,rfl⟩:=zcD et3
    wp_walk using zew (by lia) b1 ne (by lia) (by lia) (fun d m2 pd sd hm2=>?_)
    ·lia
    ·exact hK3 _ _ ⟨by lia,_,_,rfl,by simp;lia,fun u hu=>(List.mem_append.mp hu).elim (hus u) fun z=>by cases List.mem_singleton.mp z;exact ⟨pd,sd⟩⟩
   ·rintro ρ m' ⟨hm',us,c7,rfl,lu,hus⟩
    wp_walk
    refine zkz 8 9 (fun _ _ _ m2=>m2=m') rfl ?_ ?_
    ·rintro q t a8 a9 m2 K2 RT2 BK2 et2 rfl hK2 hRT2 hBK2
     obtain ⟨pu,lu⟩:=hus t (List.mem_of_getElem? et2)
     wp_walk using zdB (by lia) b1 pu ?_,zd3 (by lia) b1 pu (fun us e=>Nat.lt_of_le_of_lt (lu us e) (by decide)) ?_,j_neB ?_
     all_goals first | exact hK2 _ _ _ rfl | exact absurd rfl hc
    ·rintro a8 a9 m2 rfl
     wp_walk
     exact hNX _ _ (hK _ _ ⟨_,_,_,_,_,_,_,_,_,rfl,rfl⟩)
 ·rintro ρ m ⟨a1,a2,a3,a4,a5,a6,a7,a8,a9,rfl,rfl⟩
  wp_walk
  exact hh _
end
section
theorem zoj {lw:PySem.W.OpenLaw}{w:World}{K:PySem.W.Frag}{h:Heap}{mg:Str->Option Value}{fa:Addr} (X:K.In h) (G:h.Ns mainGlobals mg) (hfa:mg "law" = some (.ref fa))
  (e1:DAq K "is_whole" (top 1)) (e2:DAq K "is_block" (top 2)) (e4:DAq K "are_rules" (top 4)) (e5:DAq K "is_rule" (top 5)) (e7:DAq K "_law_hand" (top 7)) (e8:DAq K "_law_take" (top 8)) (e9:DAq K "_law_pick" (top 9)) (e10:DAq K "_law_bits" (top 10)) (e11:DAq K "_law_block" (top 11)) (e12:DAq K "_law_near" (top 12)) (e13:DAq K "_law_blocks" (top 13)) (e14:DAq K "_law_rules" (top 14)) (e15:DAq K "_law_whole" (top 15)) (e16:DAq K "_law_is_block" (top 16)) (e17:DAq K "_law_due" (top 17)) (e18:DAq K "_law_odd_rule" (top 18)) (e19:DAq K "_law_spoilt" (top 19)) (e20:DAq K "law" (top 20))
  (z0:PySem.W.nsIn K mainGlobals "isinstance" = some none)
  (z1:PySem.W.nsIn K mainGlobals "int" = some none)
  (z2:PySem.W.nsIn K mainGlobals "bool" = some none)
  (z3:PySem.W.nsIn K mainGlobals "tuple" = some none)
  (z4:PySem.W.nsIn K mainGlobals "len" = some none)
  (z5:PySem.W.nsIn K mainGlobals "min" = some none)
  (z6:PySem.W.nsIn K mainGlobals "max" = some none)
  (z7:PySem.W.nsIn K mainGlobals "str" = some none)
  (z8:PySem.W.nsIn K mainGlobals "repr" = some none)
  (z9:PySem.W.nsIn K mainGlobals "all" = some none)
  (z10:PySem.W.nsIn K mainGlobals "any" = some none)
  (z11:PySem.W.nsIn K mainGlobals "range" = some none)
  (z12:PySem.W.nsIn K mainGlobals "sum" = some none)
  (z13:PySem.W.nsIn K mainGlobals "sorted" = some none)
  (z14:PySem.W.nsIn K mainGlobals "list" = some none)
  (z15:PySem.W.nsIn K mainGlobals "abs" = some none)
  (z16:PySem.W.nsIn K mainGlobals "zip" = some none)
  (z17:PySem.W.nsIn K mainGlobals "dict" = some none)
  (z18:PySem.W.nsIn K mainGlobals "reversed" = some none)
  (z19:PySem.W.nsIn K mainGlobals "enumerate" = some none)
  : ∃ fd:FuncData,(∀ (s:Shared) (v:Value),BindsTo s fd ⟨[v],[]⟩ [("_law_script",v)])/\∀ base:Heap,K.In base->base.Ns mainGlobals mg->FnOk lw.prog w K mg base CX0 7 fa fd ["_law_script"] (zje K):=by
 obtain ⟨f,oc,kV,dc,pm,cd,ct,od,an,sl,e⟩:=e20
 have e':=hfa.symm.trans (PySem.W.mg_of X G e.a)
 cases e'
 have T:Txt mg:=⟨PySem.W.mg_none_of X G z0,PySem.W.mg_none_of X G z1,PySem.W.mg_none_of X G z2,PySem.W.mg_none_of X G z3,PySem.W.mg_none_of X G z4,PySem.W.mg_none_of X G z5,PySem.W.mg_none_of X G z6,PySem.W.mg_none_of X G z7,PySem.W.mg_none_of X G z8,PySem.W.mg_none_of X G z9,PySem.W.mg_none_of X G z10,PySem.W.mg_none_of X G z11,PySem.W.mg_none_of X G z12,PySem.W.mg_none_of X G z13,PySem.W.mg_none_of X G z14,PySem.W.mg_none_of X G z15,PySem.W.mg_none_of X G z16,PySem.W.mg_none_of X G z17,PySem.W.mg_none_of X G z18,PySem.W.mg_none_of X G z19⟩
 have DL:=zkE (ps:=["_law_script"]) X G e.a e.l e.c e.k fun _ _ _ _ _ _ us hl=>by obtain ⟨_,rfl⟩:=len1 hl;rfl
 refine ⟨PySem.W.fnOf "law" "law" (zbf (top 20)) (za8 (top 20)) (zag (top 20)) .none kV dc pm an cd ct,fun s v=>.of_eq rfl,fun base _ _=>?_⟩
 have h_is_whole:=zfV (P:=lw.prog) (w:=w) (base:=base) (zbW X G e1 fun _ _ _ _ _ _ us hl=>by obtain ⟨_,rfl⟩:=len1 hl;rfl)  T
 have h_is_block:=zfW (P:=lw.prog) (w:=w) (base:=base) (zbW X G e2 fun _ _ _ _ _ _ us hl=>by obtain ⟨_,_,rfl⟩:=len2 hl;rfl) h_is_whole T
 have h_is_rule:=zhb (P:=lw.prog) (w:=w) (base:=base) (zbW X G e5 fun _ _ _ _ _ _ us hl=>by obtain ⟨_,_,rfl⟩:=len2 hl;rfl) h_is_block h_is_whole T
 have h_are_rules:=zeV (P:=lw.prog) (w:=w) (base:=base) (zbW X G e4 fun _ _ _ _ _ _ us hl=>by obtain ⟨_,_,rfl⟩:=len2 hl;rfl) h_is_rule T
 have h__law_hand:=zeb (P:=lw.prog) (w:=w) (base:=base) (zbW X G e7 fun _ _ _ _ _ _ us hl=>by obtain ⟨_,_,rfl⟩:=len2 hl;rfl)  T
 have h__law_take:=zea (P:=lw.prog) (w:=w) (base:=base) (zbW X G e8 fun _ _ _ _ _ _ us hl=>by obtain ⟨_,_,rfl⟩:=len2 hl;rfl)  T
 have h__law_pick:=zeX (P:=lw.prog) (w:=w) (base:=base) (zbW X G e9 fun _ _ _ _ _ _ us hl=>by obtain ⟨_,_,rfl⟩:=len2 hl;rfl) h__law_take T
 have h__law_bits:=ze0 (P:=lw.prog) (w:=w) (base:=base) (zbW X G e10 fun _ _ _ _ _ _ us hl=>by obtain ⟨_,rfl⟩:=len1 hl;rfl) h__law_pick T
 have h__law_block:=zee (P:=lw.prog) (w:=w) (base:=base) (zbW X G e11 fun _ _ _ _ _ _ us hl=>by obtain ⟨_,_,rfl⟩:=len2 hl;rfl) h__law_pick h__law_take T
 have h__law_near:=zeY (P:=lw.prog) (w:=w) (base:=base) (zbW X G e12 fun _ _ _ _ _ _ us hl=>by obtain ⟨_,_,_,rfl⟩:=len3 hl;rfl) h__law_pick h__law_block T
 have h__law_blocks:=zdG (P:=lw.prog) (w:=w) (base:=base) (zbW X G e13 fun _ _ _ _ _ _ us hl=>by obtain ⟨_,_,_,rfl⟩:=len3 hl;rfl) h__law_take h__law_block h__law_near h__law_pick T
 have h__law_rules:=zed (P:=lw.prog) (w:=w) (base:=base) (zbW X G e14 fun _ _ _ _ _ _ us hl=>by obtain ⟨_,_,_,rfl⟩:=len3 hl;rfl) h__law_blocks h__law_take T
 have h__law_whole:=zec (P:=lw.prog) (w:=w) (base:=base) (zbW X G e15 fun _ _ _ _ _ _ us hl=>by obtain ⟨_,_,_,rfl⟩:=len3 hl;rfl)  T
 have h__law_is_block:=zcY (P:=lw.prog) (w:=w) (base:=base) (zbW X G e16 fun _ _ _ _ _ _ us hl=>by obtain ⟨_,_,rfl⟩:=len2 hl;rfl) h__law_whole T
 have h__law_due:=zfX (P:=lw.prog) (w:=w) (base:=base) (zbW X G e17 fun _ _ _ _ _ _ us hl=>by obtain ⟨_,_,rfl⟩:=len2 hl;rfl) h__law_whole h__law_is_block T
 have h__law_odd_rule:=zcX (P:=lw.prog) (w:=w) (base:=base) (zbW X G e18 fun _ _ _ _ _ _ us hl=>by obtain ⟨_,_,_,rfl⟩:=len3 hl;rfl) h__law_pick T
 have h__law_spoilt:=zdF (P:=lw.prog) (w:=w) (base:=base) (zbW X G e19 fun _ _ _ _ _ _ us hl=>by obtain ⟨_,_,_,rfl⟩:=len3 hl;rfl) h__law_odd_rule h__law_take T
 exact (znk DL h__law_hand h__law_bits h__law_pick h__law_rules h_are_rules h__law_spoilt h__law_due T).imp zlw
end
end Bd
open PySem PySem.W PyProof.Rows
set_option maxRecDepth 100000 in
set_option maxHeartbeats 0 in
theorem PySem.Challenge.cw_blockdeal_k13_rules_or_not_holds : PySem.Challenge.rw_blockdeal_k13_rules_or_not.Holds := by
 w_on;o_law;k_head;(case hw=>w_witness2)
 k_fill
 refine Bd.walk (lw:=PySem.Challenge.rw_blockdeal_k13_rules_or_not) (k:=7) (by decide) rfl rfl (fun w h Y=>PySem.W.kIn_of Y) ?F
 case F =>
  intro w mg fa h KX G hmg
  refine' Bd.zoj KX G hmg (Bd.daq ?a1 ?l1 ?c1 ?k1) (Bd.daq ?a2 ?l2 ?c2 ?k2) (Bd.daq ?a4 ?l4 ?c4 ?k4) (Bd.daq ?a5 ?l5 ?c5 ?k5) (Bd.daq ?a7 ?l7 ?c7 ?k7) (Bd.daq ?a8 ?l8 ?c8 ?k8) (Bd.daq ?a9 ?l9 ?c9 ?k9) (Bd.daq ?a10 ?l10 ?c10 ?k10) (Bd.daq ?a11 ?l11 ?c11 ?k11) (Bd.daq ?a12 ?l12 ?c12 ?k12) (Bd.daq ?a13 ?l13 ?c13 ?k13) (Bd.daq ?a14 ?l14 ?c14 ?k14) (Bd.daq ?a15 ?l15 ?c15 ?k15) (Bd.daq ?a16 ?l16 ?c16 ?k16) (Bd.daq ?a17 ?l17 ?c17 ?k17) (Bd.daq ?a18 ?l18 ?c18 ?k18) (Bd.daq ?a19 ?l19 ?c19 ?k19) (Bd.daq ?a20 ?l20 ?c20 ?k20)   ?z0 ?z1 ?z2 ?z3 ?z4 ?z5 ?z6 ?z7 ?z8 ?z9 ?z10 ?z11 ?z12 ?z13 ?z14 ?z15 ?z16 ?z17 ?z18 ?z19
  case a1 | l1 | c1 | k1 | a2 | l2 | c2 | k2 | a4 | l4 | c4 | k4 | a5 | l5 | c5 | k5 | a7 | l7 | c7 | k7 | a8 | l8 | c8 | k8 | a9 | l9 | c9 | k9 | a10 | l10 | c10 | k10 | a11 | l11 | c11 | k11 | a12 | l12 | c12 | k12 | a13 | l13 | c13 | k13 | a14 | l14 | c14 | k14 | a15 | l15 | c15 | k15 | a16 | l16 | c16 | k16 | a17 | l17 | c17 | k17 | a18 | l18 | c18 | k18 | a19 | l19 | c19 | k19 | a20 | l20 | c20 | k20 | z0 | z1 | z2 | z3 | z4 | z5 | z6 | z7 | z8 | z9 | z10 | z11 | z12 | z13 | z14 | z15 | z16 | z17 | z18 | z19=>k_is
