import PyProof.Rows.All
import Wide.All
import OpenK.AllK
import Wide.FinOn
import Lean
import PyProof.EqAt
import PyProof.EqKinds
import PyProof.TupleCall
import PySem.Challenge.RW_blockdeal_k24_holders
set_option Elab.async false
set_option linter.all false
set_option maxRecDepth 100000
set_option maxHeartbeats 4000000
namespace L2
open PySem PySem.Spec PyProof.Rows
abbrev Key:=Sum Int Str
def keyIs:Key -> Value -> Bool
 | .inl k,v=>Value.isInt k v
 | .inr x,v=>Value.isStrOf x v
def keyH (w:World):Key -> Int
 | .inl k=>hashInt k
 | .inr x=>hashStr w x
theorem keyIs_shape:∀ {k:Key} {v:Value},keyIs k v = true -> (∃ i t,k = Sum.inl i /\ v = Value.int i t) \/ (∃ x t,k = Sum.inr x /\ v = Value.str x t)
 | .inl i,v,h=>by
  obtain ⟨t,e⟩:=Value.isInt_shape (k:=i) (v:=v) h
  exact .inl ⟨i,t,rfl,e⟩
 | .inr x,v,h=>by
  obtain ⟨t,e⟩:=Value.isStrOf_shape (x:=x) (v:=v) h
  exact .inr ⟨x,t,rfl,e⟩
theorem keyIs_int (i:Int) (t:Tok):keyIs (.inl i) (.int i t) = true:=by simp [keyIs,Value.isInt]
theorem keyIs_str (x:Str) (t:Tok):keyIs (.inr x) (.str x t) = true:=by simp [keyIs,Value.isStrOf]
theorem key_ll (a b:Int):decide ((Sum.inl a:Key) = Sum.inl b) = (a == b):=by
 by_cases e:a = b
 ·subst e; simp
 ·have h:¬ (Sum.inl a:Key) = Sum.inl b:=fun q=>e (Sum.inl.inj q)
  rw [decide_eq_false h]
  exact (beq_eq_false_iff_ne.mpr e).symm
theorem key_rr (a b:Str):decide ((Sum.inr a:Key) = Sum.inr b) = decide (a = b):=by
 by_cases e:a = b
 ·subst e; simp
 ·have h:¬ (Sum.inr a:Key) = Sum.inr b:=fun q=>e (Sum.inr.inj q)
  rw [decide_eq_false h,decide_eq_false e]
theorem key_lr (a:Int) (b:Str):decide ((Sum.inl a:Key) = Sum.inr b) = false:=decide_eq_false (fun q=>nomatch q)
theorem key_rl (a:Str) (b:Int):decide ((Sum.inr a:Key) = Sum.inl b) = false:=decide_eq_false (fun q=>nomatch q)
def mixKind (prog:Program) (w:World):PySem.KeyKind prog w Key where
 is:=keyIs
 hash:=keyH w
 inj:=fun v a b ha hb=>by
  rcases keyIs_shape ha with ⟨i,t,rfl,rfl⟩ | ⟨x,t,rfl,rfl⟩
  ·rcases keyIs_shape hb with ⟨j,u,rfl,e⟩ | ⟨y,u,rfl,e⟩
   ·injection e with e1 _; rw [e1]
   ·exact nomatch e
  ·rcases keyIs_shape hb with ⟨j,u,rfl,e⟩ | ⟨y,u,rfl,e⟩
   ·exact nomatch e
   ·injection e with e1 _; rw [e1]
 byValue:=fun k v h=>by
  rcases keyIs_shape h with ⟨i,t,rfl,rfl⟩ | ⟨x,t,rfl,rfl⟩ <;> rfl
 pyHash:=fun hv h=>by
  rcases keyIs_shape hv with ⟨i,t,rfl,rfl⟩ | ⟨x,t,rfl,rfl⟩
  ·exact wpAny_pyHash_int h
  ·exact wpAny_pyHash_str h
 eqBool:=fun hu hv h=>by
  rcases keyIs_shape hu with ⟨i,t,rfl,rfl⟩ | ⟨x,t,rfl,rfl⟩
  ·rcases keyIs_shape hv with ⟨j,u,rfl,rfl⟩ | ⟨y,u,rfl,rfl⟩
   ·rw [key_ll] at h; exact wpAny_eqBool_int h
   ·rw [key_lr] at h; exact SeqAt.EqAt.int_str i t y u _ _ _ _ h
  ·rcases keyIs_shape hv with ⟨j,u,rfl,rfl⟩ | ⟨y,u,rfl,rfl⟩
   ·rw [key_rl] at h; exact SeqAt.EqAt.str_int x t j u _ _ _ _ h
   ·rw [key_rr] at h; exact wpAny_eqBool_str h
 «strs»:=fun k x t v h=>by
  rcases keyIs_shape h with ⟨i,u,rfl,e⟩ | ⟨y,u,rfl,e⟩
  ·exact nomatch e
  ·injection e with e1 _
   subst e1
   cases v <;> rfl
theorem mixKind_int (prog:Program) (w:World) (i:Int) (t:Tok):(mixKind prog w).is (.inl i) (.int i t) = true:=keyIs_int i t
theorem mixKind_str (prog:Program) (w:World) (x:Str) (t:Tok):(mixKind prog w).is (.inr x) (.str x t) = true:=keyIs_str x t
end L2
namespace L2
open PySem PySem.Spec PyProof.Rows
inductive V where
 | non | bl (b:Bool) | int (i:Int) | str (x:Str) | byt (b:Array UInt8) | flt (b:UInt64) | ref (a:Addr) | ty (n:String)
 deriving DecidableEq
def RelV:V -> Value -> Prop
 | .non,u=>u = Value.none
 | .bl b,u=>u = Value.bool b
 | .int i,u=>∃ t,u = Value.int i t
 | .str x,u=>∃ t,u = Value.str x t
 | .byt b,u=>∃ t,u = Value.bytes b t
 | .flt b,u=>∃ t,u = Value.float b t
 | .ref a,u=>u = Value.ref a
 | .ty n,u=>u = Value.type n
abbrev Vals:List V -> List Value -> Prop:=Paired RelV
theorem Vals.length {xs:List V} {us:List Value} (r:Vals xs us):xs.length = us.length:=Paired.length r
theorem Vals.get:∀ {xs:List V} {us:List Value} {i:Nat} {x:V},Vals xs us -> xs[i]? = some x -> ∃ u,us[i]? = some u /\ RelV x u
 | _,_,_,_,.nil,e=>by simp at e
 | _,_,0,_,.cons r _,e=>by simp at e; subst e; exact ⟨_,rfl,r⟩
 | _,_,i + 1,x,.cons _ t,e=>by
  obtain ⟨u,h1,h2⟩:=Vals.get (i:=i) (x:=x) t (by simpa using e)
  exact ⟨u,by simpa using h1,h2⟩
theorem Vals.set {x:V} {u:Value} (r:RelV x u):∀ {xs:List V} {us:List Value} (i:Nat),Vals xs us -> Vals (xs.set i x) (us.set i u)
 | _,_,_,.nil=>.nil
 | _,_,0,.cons _ t=>.cons r t
 | _,_,i + 1,.cons q t=>.cons q (Vals.set r i t)
theorem Vals.append:∀ {xs ys:List V} {us ws:List Value},Vals xs us -> Vals ys ws -> Vals (xs ++ ys) (us ++ ws)
 | _,_,_,_,.nil,s=>s
 | _,_,_,_,.cons r t,s=>.cons r (Vals.append t s)
theorem Vals.take:∀ {xs:List V} {us:List Value} (n:Nat),Vals xs us -> Vals (xs.take n) (us.take n)
 | _,_,0,_=>.nil
 | _,_,_ + 1,.nil=>.nil
 | _,_,n + 1,.cons r t=>.cons r (Vals.take n t)
theorem Vals.drop:∀ {xs:List V} {us:List Value} (n:Nat),Vals xs us -> Vals (xs.drop n) (us.drop n)
 | _,_,0,r=>r
 | _,_,_ + 1,.nil=>.nil
 | _,_,n + 1,.cons _ t=>Vals.drop n t
def RelO:Option V -> Option Value -> Prop
 | some v,some u=>RelV v u
 | none,none=>True
 | _,_=>False
def KV {κ:Type}:List (κ × V) -> List (κ × Value) -> Prop:=Paired fun (p:κ × V) (q:κ × Value)=>p.1 = q.1 /\ RelV p.2 q.2
def kV:Key -> V
 | .inl i=>.int i
 | .inr x=>.str x
inductive HO where
 | lst (xs:List V)
 | tup (xs:List V)
 | dK (kvs:List (Key × V)) | dT (kvs:List (List Key × V))
 | set (S:Int -> Bool) (n:Nat)
 | ins (C dx:Addr) (fs:List (Str × V))
 | own (x:Addr)
 | xd (fs:List (Str × V))
 | met (f x:Addr)
 | rng (lo hi:Int)
 | frz (o:Obj) (u:HO)
 | tbl (ps:Array Value)
 | ext (φ:Heap -> Prop)
abbrev Hp:=Addr -> Option HO
def upd (H:Hp) (a:Addr) (o:HO):Hp:=fun b=>if b = a then some o else H b
theorem upd_same {H:Hp} {a:Addr} {o:HO}:upd H a o a = some o:=by unfold upd; rw [if_pos rfl]
theorem upd_ne {H:Hp} {a b:Addr} {o:HO} (h:b ≠ a):upd H a o b = H b:=by unfold upd; rw [if_neg h]
theorem ne_of_none {H:Hp} {a b:Addr} {o:HO} (h:H a = some o) (h':H b = none):a ≠ b:=by
 intro e; subst e; rw [h] at h'; cases h'
def IsTD (h:Heap) (a:Addr) (items:Array Value):Prop:=∃ o,h.get? a = some o /\ o.cls = .type "tuple" /\ (∃ n,o.data = .seq items n) /\ o.dict = none
theorem IsTD.tup {h:Heap} {a:Addr} {items:Array Value} (x:IsTD h a items):IsTup h a items:=by
 obtain ⟨o,e,c,d,_⟩:=x
 exact ⟨o,e,c,d⟩
theorem IsTD.lt {h:Heap} {a:Addr} {items:Array Value} (x:IsTD h a items):a < h.objs.size:=x.tup.lt
theorem IsTD.new (h:Heap) (items:Array Value):IsTD (h.push { cls:=.type "tuple",data:=.seq items }) h.objs.size items:=⟨_,Heap.get?_push_size _ rfl,rfl,⟨_,rfl⟩,rfl⟩
section
variable (P:Program) (w:World)
def ObjOk (H:Hp) (h:Heap) (a:Addr):HO -> Prop
 | .lst xs=>xs.length <= sizeLine /\ ∃ (its:List Value) (n:Nat),Vals xs its /\ h.get? a = some { cls:=.type "list",data:=.seq its.toArray n }
 | .tup xs=>xs.length <= sizeLine /\ ∃ its:List Value,Vals xs its /\ IsTD h a its.toArray
 | .dK kvs=>kvs.length <= sizeLine /\ (a == sysModules) = false /\ ∃ vs,KV kvs vs /\ h.DictOf (mixKind P w) a vs
 | .dT kvs=>kvs.length <= sizeLine /\ (a == sysModules) = false /\ ∃ xs:List (List Key × Addr × Value),
   Paired (fun (p:List Key × V) (q:List Key × Addr × Value)=>p.1 = q.1 /\ H q.2.1 = some (.tup (p.1.map kV)) /\ RelV p.2 q.2.2) kvs xs /\
   ∃ o es ep,h.get? a = some o /\ o.ExactDict /\ o.data = .dict es ep /\ es.toList = xs.map (entryOfKey (tupleKind (mixKind P w))) /\ (xs.map (·.1)).Nodup
 | .set S n=>h.SetOf (intKind P w) a S n
 | .ins C dx fs=>H dx = some (.own a) /\ fs.length <= 1000 /\ dx ≠ a /\ h.get? a = some (PySem.W.instObj C dx) /\
   ∃ mA,h.Ns1 dx mA /\ (∀ f,RelO (fs.lookup f) (mA f)) /\ PySem.Within mA (fs.map (·.1))
 | .own _=>∃ o,h.get? a = some o
 | .xd fs=>∃ mA,h.Ns1 a mA /\ ∀ f,RelO (fs.lookup f) (mA f)
 | .rng lo hi=>∃ t u v,h.get? a = some { cls:=.type "range",data:=.fields #[.int lo t,.int hi u,.int 1 v] }
 | .frz o u=>h.get? a = some o /\ ObjOk H h a u
 | .tbl ps=>h.get? a = some { cls:=.none,data:=.fields ps }
 | .met f x=>h.get? a = some (PySem.W.methodObj (.ref f) (.ref x))
 | .ext φ=>φ h /\ (∃ o,h.get? a = some o) /\ ∀ h1 h2:Heap,φ h1 -> (∀ o,h1.get? a = some o -> h2.get? a = some o) -> φ h2
def HOk (H:Hp) (h:Heap):Prop:=∀ a o,H a = some o -> ObjOk P w H h a o
end
section
variable {P:Program} {w:World} {H H':Hp} {h h':Heap} {a:Addr} {o:HO}
theorem ObjOk.lt (x:ObjOk P w H h a o):a < h.objs.size:=by
 cases o with
 | lst xs=>obtain ⟨_,_,_,_,e⟩:=x; exact Heap.lt_size e
 | tup xs=>obtain ⟨_,_,_,p⟩:=x; exact p.lt
 | dK kvs=>obtain ⟨_,_,_,_,o,_,_,e,_⟩:=x; exact Heap.lt_size e
 | dT kvs=>obtain ⟨_,_,_,_,o,_,_,e,_⟩:=x; exact Heap.lt_size e
 | set S n=>obtain ⟨o,_,_,_,e,_⟩:=x; exact Heap.lt_size e
 | ins C dx fs=>obtain ⟨_,_,_,e,_⟩:=x; exact Heap.lt_size e
 | own y=>obtain ⟨_,e⟩:=x; exact Heap.lt_size e
 | xd fs=>obtain ⟨_,⟨_,_,_,e,_⟩,_⟩:=x; exact Heap.lt_size e
 | rng lo hi=>obtain ⟨_,_,_,e⟩:=x; exact Heap.lt_size e
 | frz ob u=>obtain ⟨e,_⟩:=x; exact Heap.lt_size e
 | tbl ps=>exact Heap.lt_size (show h.get? a = some _ from x)
 | met f y=>exact Heap.lt_size (show h.get? a = some _ from x)
 | ext φ=>obtain ⟨_,⟨_,e⟩,_⟩:=x; exact Heap.lt_size e
theorem Paired.mapP {α β:Type} {F G:α -> β -> Prop}:∀ {l₁:List α} {l₂:List β},Paired F l₁ l₂ -> (∀ a b,F a b -> G a b) -> Paired G l₁ l₂
 | _,_,.nil,_=>.nil
 | _,_,.cons r t,f=>.cons (f _ _ r) (Paired.mapP t f)
theorem ObjOk.stay (x:ObjOk P w H h a o) (k:∀ b u,(b = a \/ H b = some (.own a)) -> h.get? b = some u -> h'.get? b = some u)
  (ho:∀ b,H b = some (.own a) -> H' b = some (.own a)) (ht:∀ b xs,H b = some (.tup xs) -> H' b = some (.tup xs)):ObjOk P w H' h' a o:=by
 induction o with
 | lst xs=>obtain ⟨z,its,n,r,e⟩:=x; exact ⟨z,its,n,r,k _ _ (.inl rfl) e⟩
 | tup xs=>obtain ⟨z,its,r,ob,e,c⟩:=x; exact ⟨z,its,r,ob,k _ _ (.inl rfl) e,c⟩
 | dK kvs=>obtain ⟨z,y,vs,r,ob,es,ep,e,c⟩:=x; exact ⟨z,y,vs,r,ob,es,ep,k _ _ (.inl rfl) e,c⟩
 | dT kvs =>
  obtain ⟨z,y,xs,r,ob,es,ep,e,c⟩:=x
  exact ⟨z,y,xs,Paired.mapP r fun p q z=>⟨z.1,ht _ _ z.2.1,z.2.2⟩,ob,es,ep,k _ _ (.inl rfl) e,c⟩
 | set S n=>obtain ⟨ob,es,ep,t,e,c⟩:=x; exact ⟨ob,es,ep,t,k _ _ (.inl rfl) e,c⟩
 | ins C dx fs =>
  obtain ⟨d,z,ne,e,mA,⟨od,es,ep,e2,c⟩,r⟩:=x
  exact ⟨ho _ d,z,ne,k _ _ (.inl rfl) e,mA,⟨od,es,ep,k _ _ (.inr d) e2,c⟩,r⟩
 | own y=>obtain ⟨ob,e⟩:=x; exact ⟨ob,k _ _ (.inl rfl) e⟩
 | xd fs=>obtain ⟨mA,⟨od,es,ep,e,c⟩,r⟩:=x; exact ⟨mA,⟨od,es,ep,k _ _ (.inl rfl) e,c⟩,r⟩
 | rng lo hi=>obtain ⟨t,u,v,e⟩:=x; exact ⟨t,u,v,k _ _ (.inl rfl) e⟩
 | frz ob u ih=>obtain ⟨e,q⟩:=x; exact ⟨k _ _ (.inl rfl) e,ih q⟩
 | tbl ps =>
  have e:h.get? a = some { cls:=.none,data:=.fields ps }:=x
  show h'.get? a = some { cls:=.none,data:=.fields ps }
  exact k a _ (.inl rfl) e
 | met f y =>
  have e:h.get? a = some (PySem.W.methodObj (.ref f) (.ref y)):=x
  show h'.get? a = some (PySem.W.methodObj (.ref f) (.ref y))
  exact k a _ (.inl rfl) e
 | ext φ=>obtain ⟨p,⟨o,e⟩,st⟩:=x; exact ⟨st _ _ p fun o q=>k _ _ (.inl rfl) q,⟨o,k _ _ (.inl rfl) e⟩,st⟩
theorem HOk.lt (x:HOk P w H h) (e:H a = some o):a < h.objs.size:=(x a o e).lt
theorem HOk.fresh (x:HOk P w H h) (e:h.objs.size <= a):H a = none:=by
 cases q:H a with
 | none=>rfl
 | some u=>exact absurd (Nat.lt_of_lt_of_le (x.lt q) e) (Nat.lt_irrefl _)
theorem HOk.kept (x:HOk P w H h) (k:∀ b u,h.get? b = some u -> h'.get? b = some u):HOk P w H h':=fun a o e =>
 (x a o e).stay (fun b u _ q=>k b u q) (fun _ q=>q) fun _ _ q=>q
theorem HOk.laid (x:HOk P w H h) (k:∀ b u,h.get? b = some u -> h'.get? b = some u) (hp:h.objs.size <= a) (new:ObjOk P w (upd H a o) h' a o):HOk P w (upd H a o) h':=fun b u e=>by
 have hn:=x.fresh hp
 by_cases hb:b = a
 ·subst hb; rw [upd_same] at e; cases e; exact new
 ·rw [upd_ne hb] at e
  exact (x b u e).stay (fun c v _ q=>k c v q) (fun c q=>by rw [upd_ne (ne_of_none q hn)]; exact q) fun c xs q=>by rw [upd_ne (ne_of_none q hn)]; exact q
end
def Rd (H:Hp) (a:Addr) (u:HO):Prop:=H a = some u \/ ∃ o,H a = some (.frz o u)
theorem Rd.ok {P:Program} {w:World} {H:Hp} {h:Heap} {a:Addr} {u:HO} (r:Rd H a u) (x:HOk P w H h):ObjOk P w H h a u:=by
 rcases r with r | ⟨o,r⟩
 ·exact x a u r
 ·obtain ⟨_,q⟩:=x a _ r
  exact q
def Mut:Option HO -> Prop
 | some (.lst _)=>True
 | some (.dK _)=>True
 | some (.dT _)=>True
 | some (.set _ _)=>True
 | some (.ins _ _ _)=>True
 | some (.ext _)=>True
 | _=>False
section
variable {P:Program} {w:World} {H:Hp} {h h':Heap} {x e:Addr} {o':HO}
theorem HOk.write (ok:HOk P w H h) (mu:Mut (H x)) (he:e = x \/ H e = some (.own x)) (k:∀ b u,b ≠ e -> h.get? b = some u -> h'.get? b = some u) (heo:∃ u,h'.get? e = some u)
  (new:ObjOk P w (upd H x o') h' x o'):HOk P w (upd H x o') h':=fun b u q=>by
 have nown:∀ c y,H c = some (.own y) -> c ≠ x:=fun c y r z=>by subst z; rw [r] at mu; exact mu
 have ntup:∀ c xs,H c = some (.tup xs) -> c ≠ x:=fun c xs r z=>by subst z; rw [r] at mu; exact mu
 by_cases hb:b = x
 ·subst hb; rw [upd_same] at q; cases q; exact new
 ·rw [upd_ne hb] at q
  by_cases hbe:b = e
  ·have q':H b = some (.own x):=by
    rcases he with z | z
    ·exact absurd (hbe.trans z) hb
    ·rw [hbe]; exact z
   rw [q] at q'; cases q'
   obtain ⟨v,hv⟩:=heo
   exact ⟨v,by rw [hbe]; exact hv⟩
  ·refine (ok b u q).stay (fun c v hc r=>k c v ?_ r) (fun c r=>by rw [upd_ne (nown c b r)]; exact r) fun c xs r=>by rw [upd_ne (ntup c xs r)]; exact r
   rcases hc with rfl | hc
   ·exact hbe
   ·rintro rfl
    rcases he with z | z
    ·exact nown c b hc z
    ·rw [hc] at z; cases z; exact hb rfl
end
structure Un (fs ex:List Addr) (H H':Hp) (h h':Heap):Prop where
 keep:∀ b o,h.get? b = some o -> H b = none -> b ∉ fs -> b ∉ ex -> h'.get? b = some o
 slot:∀ b o,h.get? b = some o -> H b = none -> b ∈ fs -> b ∉ ex -> ∃ sl,h'.get? b = some { o with slots:=sl }
 free:∀ b o,h.get? b = some o -> H b = none -> b ∉ ex -> H' b = none
 there:∀ b o,h.get? b = some o -> b ∉ ex -> ∃ o',h'.get? b = some o'
 tups:∀ b xs,H b = some (.tup xs) -> H' b = some (.tup xs)
 frzs:∀ b o u,H b = some (.frz o u) -> H' b = some (.frz o u)
 tbls:∀ b ps,H b = some (.tbl ps) -> ∃ more,H' b = some (.tbl (ps ++ more))
section
variable {fs fs' ex ex':List Addr} {H H1 H2:Hp} {h h1 h2 h':Heap} {a x e:Addr} {o:HO}
theorem Un.any (u:Un fs ex H H1 h h1) {b:Addr} {ob:Obj} (q:h.get? b = some ob) (n:H b = none) (hx:b ∉ ex):∃ sl,h1.get? b = some { ob with slots:=sl }:=by
 by_cases hb:b ∈ fs
 ·exact u.slot b ob q n hb hx
 ·exact ⟨ob.slots,u.keep b ob q n hb hx⟩
theorem Un.kept (k:∀ b u,h.get? b = some u -> h'.get? b = some u):Un fs ex H H h h' :=
 ⟨fun b ob q _ _ _=>k b ob q,fun b ob q _ _ _=>⟨ob.slots,k b ob q⟩,fun _ _ _ n _=>n,fun b ob q _=>⟨ob,k b ob q⟩,fun _ _ q=>q,fun _ _ _ q=>q,fun _ ps q=>⟨#[],by rw [q]; simp⟩⟩
theorem Un.refl:Un fs ex H H h h:=Un.kept fun _ _ q=>q
theorem Un.laid (k:∀ b u,h.get? b = some u -> h'.get? b = some u) (hp:h.objs.size <= a) (hn:H a = none):Un fs ex H (upd H a o) h h' where
 keep:=fun b u q _ _ _=>k b u q
 slot:=fun b u q _ _ _=>⟨u.slots,k b u q⟩
 free:=fun b u q n _=>by rw [upd_ne (Nat.ne_of_lt (Nat.lt_of_lt_of_le (Heap.lt_size q) hp))]; exact n
 there:=fun b u q _=>⟨u,k b u q⟩
 tups:=fun b xs q=>by rw [upd_ne (ne_of_none q hn)]; exact q
 frzs:=fun b u xs q=>by rw [upd_ne (ne_of_none q hn)]; exact q
 tbls:=fun b ps q=>⟨#[],by rw [upd_ne (ne_of_none q hn),q]; simp⟩
theorem Un.write (mu:Mut (H x)) (he:e = x \/ H e = some (.own x)) (k:∀ b u,b ≠ e -> h.get? b = some u -> h'.get? b = some u) (heo:∃ u,h'.get? e = some u):Un fs ex H (upd H x o) h h':=by
 have hx:∀ b,H b = none -> b ≠ x:=fun b n z=>by subst z; rw [n] at mu; exact mu
 have hb:∀ b,H b = none -> b ≠ e:=fun b n z=>by
  subst z
  rcases he with r | r
  ·exact hx b n r
  ·rw [n] at r; cases r
 have hm:∀ b u,H b = some u -> ¬ Mut (some u) -> b ≠ x:=fun b u q nm z=>by subst z; rw [q] at mu; exact nm mu
 refine ⟨fun b u q n _ _=>k b u (hb b n) q,fun b u q n _ _=>⟨u.slots,k b u (hb b n) q⟩,fun b u q n _=>by rw [upd_ne (hx b n)]; exact n,fun b u q _=>?_,
  fun b xs q=>by rw [upd_ne (hm b _ q fun z=>z)]; exact q,fun b u xs q=>by rw [upd_ne (hm b _ q fun z=>z)]; exact q,fun b ps q=>⟨#[],by rw [upd_ne (hm b _ q fun z=>z),q]; simp⟩⟩
 by_cases hbe:b = e
 ·subst hbe; exact heo
 ·exact ⟨u,k b u hbe q⟩
end
def trk (h:Heap) (H:Hp):List Addr:=(List.range h.objs.size).filter fun a=>(H a).isSome
def hidT (h:Heap) (H:Hp):Heap:=PySem.W.hideAll h (trk h H)
theorem hidT_size (h:Heap) (H:Hp):(hidT h H).objs.size = h.objs.size:=PySem.W.hideAll_size _ _
theorem hidT_get {h:Heap} {H:Hp} {b:Addr} {o:Obj} (e:h.get? b = some o) (n:H b = none):(hidT h H).get? b = some o :=
 PySem.W.hideAll_get _ e fun hm=>by
  have q:(H b).isSome = true:=(List.mem_filter.mp hm).2
  rw [n] at q; simp at q
theorem of_hidT {h:Heap} {H:Hp} {b:Addr} {o:Obj} (e:(hidT h H).get? b = some o):h.get? b = some o /\ H b = none:=by
 have e':h.get? b = some o:=PySem.W.of_hideAll (trk h H) e
 refine ⟨e',?_⟩
 cases q:H b with
 | none=>rfl
 | some x =>
  have hm:b ∈ trk h H:=List.mem_filter.mpr ⟨List.mem_range.mpr (Heap.lt_size e'),by simp [q]⟩
  have z:(hidT h H).get? b = none:=PySem.W.hideAll_none (trk h H) hm
  rw [z] at e; cases e
end L2
namespace L2
open PySem PySem.Spec PyProof.Rows
structure Mod (K:PySem.W.Frag) (mg:Str -> Option Value) (base:Heap):Prop where
 kin:K.In base
 glob:base.Ns mainGlobals mg
 blt:∃ mb,base.Ns builtinsNs mb /\ ∀ x:Str,x ≠ "__name__" -> mb x = bootBuiltins x
 nolimit:base.NoLimit
structure Cx where
 prog:Program
 w:World
 K:PySem.W.Frag
 mg:Str -> Option Value
 base:Heap
 A:Around
 N:List Str
 s₀:Shared
 H₀:Hp
 env:Env
 outer:List Env
 stack:List Env
 ex:List Addr
 fn:Str -> Bool
 calm:Bool
 pn:List (Addr × Obj)
 xe:Value -> Shared -> Prop
def frs (l:List Env):List Addr:=l.filterMap (·.frame)
abbrev Cx.fs (X:Cx):List Addr:=frs X.outer
def Vis (sc:Scope) (x:Str):Prop:=sc.names.lookup x = some .local \/ sc.names.lookup x = some .cell \/ sc.names.lookup x = some .free
def Loc (sc:Scope) (x:Str):Prop:=sc.names.lookup x = some .local \/ sc.names.lookup x = some .cell
def Look (env:Env) (h:Heap) (m:Str -> Option Value) (x:Str) (u:Value):Prop :=
 (env.kindOf x = some .local /\ m x = some u) \/ ((env.kindOf x = some .cell \/ env.kindOf x = some .free) /\ ∃ c,env.cells.lookup x = some c /\ h.IsCell c (some u))
structure Cx.Ok (X:Cx):Prop where
 mod:Mod X.K X.mg X.base
 kind:X.env.scope.kind = .function
 glob:X.env.globals = mainGlobals
 blt:X.env.builtins = builtinsNs
 above:X.s₀.heap.objs.size <= X.env.locals
 inj:∀ x y c,X.env.cells.lookup x = some c -> X.env.cells.lookup y = some c -> x = y
 has:∀ x,(X.env.kindOf x = some .cell \/ X.env.kindOf x = some .free) -> ∃ c,X.env.cells.lookup x = some c
 cab:∀ x c,X.fn x = true -> X.env.cells.lookup x = some c -> X.s₀.heap.objs.size <= c
 hd:X.calm = true -> X.A.handled = none
 frames:X.A.frames = some X.stack
 stk:X.stack = X.outer \/ (X.stack = X.env :: X.outer /\ X.env.frame = some X.env.locals)
 exf:∀ b ∈ X.ex,b ≠ X.env.locals /\ ∀ x c,X.env.cells.lookup x = some c -> c ≠ b
 bs:∀ b o,X.base.get? b = some o -> X.s₀.heap.get? b = some o /\ X.H₀ b = none
 bsz:X.base.objs.size <= X.s₀.heap.objs.size
 noex:∀ b o,X.base.get? b = some o -> b ∉ X.ex
 exfs:∀ b ∈ X.ex,b ∉ X.fs
 funs:X.s₀.heap.FunFrames X.base X.outer
 frf:∀ b ∈ X.fs,X.H₀ b = none
structure Inv (X:Cx) (pins:List (Addr × Obj)) (σ:List (Option V)) (H:Hp) (s:Shared):Prop where
 ok:X.Ok
 os:s.os = X.s₀.os
 bare:AllBare s.gens
 base:Un X.fs X.ex X.H₀ H X.s₀.heap s.heap
 loc:∃ m,s.heap.Ns X.env.locals m /\ ∀ (i:Nat) (x:Str) (v:V),X.N[i]? = some x -> σ[i]? = some (some v) -> Vis X.env.scope x -> ∃ u,RelV v u /\ Look X.env s.heap m x u
 cell:∀ x c,X.env.cells.lookup x = some c -> ∃ v,s.heap.IsCell c v
 free:H X.env.locals = none
 freeC:∀ x c,X.env.cells.lookup x = some c -> H c = none
 pin:∀ p ∈ X.pn ++ pins,s.heap.get? p.1 = some p.2 /\ H p.1 = none /\ p.1 ≠ X.env.locals /\ p.1 ∉ X.fs /\ ∀ v,p.2.data ≠ .cell v
 hok:HOk X.prog X.w H s.heap
 len:σ.length = X.N.length
section
variable {X:Cx} {pins:List (Addr × Obj)} {σ:List (Option V)} {H H':Hp} {s:Shared} {h':Heap}
theorem Cx.Ok.nofr (ok:X.Ok) {b:Addr} {o:Obj} (e:X.base.get? b = some o):b ∉ X.fs:=fun hb=>by
 have:=(ok.funs.mem hb).1
 rw [e] at this; cases this
theorem Inv.bs (I:Inv X pins σ H s):∀ b o,X.base.get? b = some o -> s.heap.get? b = some o /\ H b = none:=fun b o e =>
 ⟨I.base.keep b o (I.ok.bs b o e).1 (I.ok.bs b o e).2 (I.ok.nofr e) (I.ok.noex b o e),I.base.free b o (I.ok.bs b o e).1 (I.ok.bs b o e).2 (I.ok.noex b o e)⟩
theorem Inv.bk (I:Inv X pins σ H s):∀ b o,X.base.get? b = some o -> s.heap.get? b = some o:=fun b o e=>(I.bs b o e).1
theorem Inv.mod (I:Inv X pins σ H s):Mod X.K X.mg X.base:=I.ok.mod
theorem Inv.kIn (I:Inv X pins σ H s):X.K.In s.heap:=I.ok.mod.kin.keeps I.bk
theorem Inv.lt (I:Inv X pins σ H s):X.env.locals < s.heap.objs.size:=let ⟨_,hn,_⟩:=I.loc; hn.lt
theorem Inv.sz (I:Inv X pins σ H s):X.s₀.heap.objs.size <= s.heap.objs.size:=Nat.le_trans I.ok.above (Nat.le_of_lt I.lt)
theorem Inv.nofs (I:Inv X pins σ H s) {a:Addr} (h:s.heap.objs.size <= a):a ∉ X.fs:=fun hb=>by
 obtain ⟨_,o,ho,_⟩:=I.ok.funs.mem hb
 exact absurd (Nat.lt_of_lt_of_le (Heap.lt_size ho) (Nat.le_trans I.sz h)) (Nat.lt_irrefl _)
theorem Inv.cne (I:Inv X pins σ H s):∀ x c,X.env.cells.lookup x = some c -> c ≠ X.env.locals:=fun x c e z=>by
 obtain ⟨v,o,ho,hd⟩:=I.cell x c e
 obtain ⟨m,⟨o',es,ep,ho',hd',_⟩,_⟩:=I.loc
 rw [z,ho'] at ho; cases ho; rw [hd'] at hd; cases hd
theorem Inv.funs (I:Inv X pins σ H s):s.heap.FunFrames X.base X.outer:=by
 have all:∀ (l:List Env),(∀ b ∈ frs l,b ∈ X.fs) -> X.s₀.heap.FunFrames X.base l -> s.heap.FunFrames X.base l:=by
  intro l
  induction l with
  | nil=>intro _ _; trivial
  | cons env r ih =>
   intro hs hl
   obtain ⟨hk,⟨L,o,hf,hn,ho,hd⟩,hr⟩:=hl
   have hL:L ∈ X.fs:=hs L (by unfold frs; rw [List.filterMap_cons,hf]; exact List.mem_cons_self)
   obtain ⟨sl,e⟩:=I.base.slot L o ho (I.ok.frf L hL) hL fun z=>I.ok.exfs L z hL
   exact ⟨hk,⟨L,_,hf,hn,e,hd⟩,ih (fun b hb=>hs b (by unfold frs; rw [List.filterMap_cons,hf]; exact List.mem_cons_of_mem _ hb)) hr⟩
 exact all X.outer (fun _ hb=>hb) I.ok.funs
theorem Inv.stack (I:Inv X pins σ H s):s.heap.FunFrames X.base X.stack:=by
 rcases I.ok.stk with e | ⟨e,hf⟩
 ·rw [e]; exact I.funs
 ·rw [e]
  obtain ⟨m,hn,_⟩:=I.loc
  refine .cons (by rw [I.ok.kind]; decide) hf hn ?_ I.funs
  exact Heap.get?_none_of_le (Nat.le_trans I.ok.bsz I.ok.above)
theorem Inv.stkSub (I:Inv X pins σ H s):∀ b ∈ frs X.stack,b ∈ X.env.locals :: X.fs:=fun b hb=>by
 rcases I.ok.stk with e | ⟨e,hf⟩
 ·rw [e] at hb; exact List.mem_cons_of_mem _ hb
 ·rw [e] at hb
  unfold frs at hb
  rw [List.filterMap_cons,hf] at hb
  exact hb
theorem Inv.stkFree (I:Inv X pins σ H s):∀ b ∈ frs X.stack,H b = none:=fun b hb=>by
 rcases List.mem_cons.mp (I.stkSub b hb) with e | hb
 ·rw [e]; exact I.free
 ·obtain ⟨_,o,ho,_⟩:=I.ok.funs.mem hb
  exact I.base.free b o ho (I.ok.frf b hb) fun z=>I.ok.exfs b z hb
theorem Inv.step {g':Array GenState} {t':Nat} {d':Drawn} {ch:List Addr} (I:Inv X pins σ H s)
  (hch:∀ b ∈ ch,(b ∈ X.ex \/ X.s₀.heap.objs.size <= b) /\ b ≠ X.env.locals /\ (∀ x c,X.env.cells.lookup x = some c -> c ≠ b) /\ ∀ p ∈ X.pn ++ pins,p.1 ≠ b)
  (keep:∀ b o,b ≠ X.env.locals -> b ∉ X.fs -> b ∉ ch -> s.heap.get? b = some o -> H b = none -> h'.get? b = some o)
  (slot:∀ b o,b ≠ X.env.locals -> b ∈ X.fs -> b ∉ ch -> s.heap.get? b = some o -> H b = none -> ∃ sl,h'.get? b = some { o with slots:=sl }) (free:∀ b o,b ∉ ch -> s.heap.get? b = some o -> H b = none -> H' b = none)
  (there:∀ b o,b ∉ ch -> s.heap.get? b = some o -> ∃ o',h'.get? b = some o')
  (tups:∀ b xs,H b = some (.tup xs) -> H' b = some (.tup xs)) (frzs:∀ b o u,H b = some (.frz o u) -> H' b = some (.frz o u)) (tbls:∀ b ps,H b = some (.tbl ps) -> ∃ more,H' b = some (.tbl (ps ++ more)))
  (ns:∀ m,s.heap.Ns X.env.locals m -> h'.Ns X.env.locals m) (hok:HOk X.prog X.w H' h') (hg:AllBare g') :
  Inv X pins σ H' { s with heap:=h',gens:=g',drawn:=d',toks:=t' }:=by
 have neL:∀ b o,X.s₀.heap.get? b = some o -> b ≠ X.env.locals:=fun b o e=>Nat.ne_of_lt (Nat.lt_of_lt_of_le (Heap.lt_size e) I.ok.above)
 have neC:∀ b o,X.s₀.heap.get? b = some o -> b ∉ X.ex -> b ∉ ch:=fun b o e hx hb=>by
  rcases (hch b hb).1 with z | z
  ·exact hx z
  ·exact absurd (Nat.lt_of_lt_of_le (Heap.lt_size e) z) (Nat.lt_irrefl _)
 have cellK:∀ x c,X.env.cells.lookup x = some c -> ∀ v,s.heap.IsCell c v -> h'.IsCell c v:=fun x c e v ⟨o,ho,hd⟩=>by
  have nch:c ∉ ch:=fun z=>(hch c z).2.2.1 x c e rfl
  by_cases hc:c ∈ X.fs
  ·obtain ⟨sl,q⟩:=slot c o (I.cne x c e) hc nch ho (I.freeC x c e)
   exact ⟨_,q,hd⟩
  ·exact ⟨o,keep c o (I.cne x c e) hc nch ho (I.freeC x c e),hd⟩
 refine ⟨I.ok,I.os,hg,⟨fun b o e n hb hx=>?_,fun b o e n hb hx=>?_,fun b o e n hx=>?_,fun b o e hx=>?_,fun b xs e=>tups b xs (I.base.tups b xs e),fun b o xs e=>frzs b o xs (I.base.frzs b o xs e),fun b ps e=>?_⟩,?_,fun x c e=>?_,?_,fun x c e=>?_,fun p hp=>?_,hok,I.len⟩
 ·exact keep b o (neL b o e) hb (neC b o e hx) (I.base.keep b o e n hb hx) (I.base.free b o e n hx)
 ·obtain ⟨sl,e1⟩:=I.base.slot b o e n hb hx
  obtain ⟨sl',e2⟩:=slot b _ (neL b o e) hb (neC b o e hx) e1 (I.base.free b o e n hx)
  exact ⟨sl',e2⟩
 ·obtain ⟨o',e1⟩:=I.base.there b o e hx
  exact free b o' (neC b o e hx) e1 (I.base.free b o e n hx)
 ·obtain ⟨o',e1⟩:=I.base.there b o e hx
  exact there b o' (neC b o e hx) e1
 ·obtain ⟨m1,e1⟩:=I.base.tbls b ps e
  obtain ⟨m2,e2⟩:=tbls b _ e1
  exact ⟨m1 ++ m2,by rw [e2,Array.append_assoc]⟩
 ·obtain ⟨m,hn,hl⟩:=I.loc
  refine ⟨m,ns m hn,fun i x v e1 e2 e3=>?_⟩
  obtain ⟨u,r,l⟩:=hl i x v e1 e2 e3
  refine ⟨u,r,?_⟩
  rcases l with l | ⟨k,c,e,z⟩
  ·exact .inl l
  ·exact .inr ⟨k,c,e,cellK x c e _ z⟩
 ·obtain ⟨v,z⟩:=I.cell x c e
  exact ⟨v,cellK x c e v z⟩
 ·obtain ⟨m,⟨o,_,_,ho,_⟩,_⟩:=I.loc
  exact free _ o (fun z=>(hch _ z).2.1 rfl) ho I.free
 ·obtain ⟨v,o,ho,hd⟩:=I.cell x c e
  exact free c o (fun z=>(hch c z).2.2.1 x c e rfl) ho (I.freeC x c e)
 ·obtain ⟨e,n,ne,nf,d⟩:=I.pin p hp
  have nch:p.1 ∉ ch:=fun z=>(hch p.1 z).2.2.2 p hp rfl
  exact ⟨keep p.1 p.2 ne nf nch e n,free p.1 p.2 nch e n,ne,nf,d⟩
theorem Inv.un {t':Nat} (I:Inv X pins σ H s) (u:Un X.fs [] H H' s.heap h') (hok:HOk X.prog X.w H' h'):Inv X pins σ H' { s with heap:=h',toks:=t' }:=by
 obtain ⟨m,⟨o,es,ep,ho,r⟩,_⟩:=id I.loc
 obtain ⟨sl,hL⟩:=u.any ho I.free (by simp)
 exact I.step (g':=s.gens) (d':=s.drawn) (ch:=[]) (fun _ z=>nomatch z) (fun b o _ hb _ e n=>u.keep b o e n hb (by simp)) (fun b o _ hb _ e n=>u.slot b o e n hb (by simp)) (fun b o _ e n=>u.free b o e n (by simp)) (fun b o _ e=>u.there b o e (by simp)) u.tups u.frzs u.tbls (fun m' hm=>by
  obtain ⟨o',es',ep',ho',r'⟩:=hm
  rw [ho] at ho'; cases ho'
  exact ⟨_,es',ep',hL,r'⟩) hok I.bare
theorem Inv.call {g':Array GenState} {t':Nat} {d':Drawn} {ch:List Addr} (I:Inv X pins σ H s) (u:Un (frs X.stack) ch H H' s.heap h') (hok:HOk X.prog X.w H' h') (hg:AllBare g')
  (hch:∀ b ∈ ch,(b ∈ X.ex \/ X.s₀.heap.objs.size <= b) /\ b ≠ X.env.locals /\ (∀ x c,X.env.cells.lookup x = some c -> c ≠ b) /\ ∀ p ∈ X.pn ++ pins,p.1 ≠ b) :
  Inv X pins σ H' { s with heap:=h',gens:=g',drawn:=d',toks:=t' }:=by
 obtain ⟨m,⟨o,es,ep,ho,r⟩,_⟩:=id I.loc
 obtain ⟨sl,hL⟩:=u.any ho I.free fun z=>(hch _ z).2.1 rfl
 exact I.step (ch:=ch) hch (fun b o hL hb hc e n=>u.keep b o e n (fun z=>(List.mem_cons.mp (I.stkSub b z)).elim hL hb) hc) (fun b o _ _ hc e n=>u.any e n hc) (fun b o hc e n=>u.free b o e n hc) (fun b o hc e=>u.there b o e hc) u.tups u.frzs u.tbls (fun m' hm=>by
  obtain ⟨o',es',ep',ho',r'⟩:=hm
  rw [ho] at ho'; cases ho'
  exact ⟨_,es',ep',hL,r'⟩) hok hg
theorem Inv.turned {t':Nat} {it:Addr} (I:Inv X pins σ H s) (k:∀ b o,b ≠ it -> s.heap.get? b = some o -> h'.get? b = some o) (hn:H it = none) (hL:it ≠ X.env.locals)
  (h1:it ∈ X.ex \/ X.s₀.heap.objs.size <= it) (h2:∀ x c,X.env.cells.lookup x = some c -> c ≠ it) (h3:∀ p ∈ X.pn ++ pins,p.1 ≠ it):Inv X pins σ H { s with heap:=h',toks:=t' }:=by
 have nit:∀ b u,H b = some u -> b ≠ it:=fun b u e z=>by rw [z,hn] at e; cases e
 refine I.step (g':=s.gens) (d':=s.drawn) (ch:=[it]) (fun b hb=>?_) (fun b o _ _ hc e _=>k b o (fun z=>hc (by simp [z])) e) (fun b o _ _ hc e _=>⟨o.slots,k b o (fun z=>hc (by simp [z])) e⟩) (fun _ _ _ _ n=>n)
  (fun b o hc e=>⟨o,k b o (fun z=>hc (by simp [z])) e⟩) (fun _ _ e=>e) (fun _ _ _ e=>e) (fun b ps e=>⟨#[],by rw [e]; simp⟩) (fun m hm=>?_) (fun b u e=>?_) I.bare
 ·have e:b = it:=by simpa using hb
  subst e
  exact ⟨h1,hL,h2,h3⟩
 ·obtain ⟨o,es,ep,ho,r⟩:=hm
  exact ⟨o,es,ep,k _ o (Ne.symm hL) ho,r⟩
 ·refine (I.hok b u e).stay (fun c v hc q=>k c v ?_ q) (fun _ q=>q) fun _ _ q=>q
  rcases hc with z | z
  ·rw [z]; exact nit b u e
  ·exact nit c _ z
theorem Inv.tok (I:Inv X pins σ H s) (t:Nat):Inv X pins σ H { s with toks:=t }:=I.un (h':=s.heap) (t':=t) Un.refl I.hok
theorem Inv.kept {t':Nat} (I:Inv X pins σ H s) (k:∀ b u,s.heap.get? b = some u -> h'.get? b = some u):Inv X pins σ H { s with heap:=h',toks:=t' }:=I.un (Un.kept k) (I.hok.kept k)
theorem Inv.laid {a:Addr} {o:HO} {t':Nat} (I:Inv X pins σ H s) (k:∀ b u,s.heap.get? b = some u -> h'.get? b = some u) (hp:s.heap.objs.size <= a) (new:ObjOk X.prog X.w (upd H a o) h' a o) :
  Inv X pins σ (upd H a o) { s with heap:=h',toks:=t' }:=I.un (Un.laid k hp (I.hok.fresh hp)) (I.hok.laid k hp new)
theorem Inv.write {x e:Addr} {o:HO} {t':Nat} (I:Inv X pins σ H s) (mu:Mut (H x)) (he:e = x \/ H e = some (.own x)) (k:∀ b u,b ≠ e -> s.heap.get? b = some u -> h'.get? b = some u) (heo:∃ u,h'.get? e = some u)
  (new:ObjOk X.prog X.w (upd H x o) h' x o):Inv X pins σ (upd H x o) { s with heap:=h',toks:=t' }:=I.un (Un.write mu he k heo) (I.hok.write mu he k heo new)
theorem Inv.weak {σ':List (Option V)} (I:Inv X pins σ H s) (hl:σ'.length = σ.length) (w:∀ (i:Nat) v,σ'[i]? = some (some v) -> σ[i]? = some (some v)):Inv X pins σ' H s :=
 ⟨I.ok,I.os,I.bare,I.base,let ⟨m,hn,hl'⟩:=I.loc; ⟨m,hn,fun i x v e1 e2 e3=>hl' i x v e1 (w i v e2) e3⟩,I.cell,I.free,I.freeC,I.pin,I.hok,hl.trans I.len⟩
theorem Inv.pins_of {pins':List (Addr × Obj)} (I:Inv X pins σ H s) (h:∀ p ∈ pins',s.heap.get? p.1 = some p.2 /\ H p.1 = none /\ p.1 ≠ X.env.locals /\ p.1 ∉ X.fs /\ ∀ v,p.2.data ≠ .cell v):Inv X pins' σ H s :=
 ⟨I.ok,I.os,I.bare,I.base,I.loc,I.cell,I.free,I.freeC,fun p hp=>(List.mem_append.mp hp).elim (fun z=>I.pin p (List.mem_append_left _ z)) (h p),I.hok,I.len⟩
theorem nodup_ix {N:List Str} (hN:N.Nodup) {i j:Nat} {x:Str} (a:N[i]? = some x) (b:N[j]? = some x):i = j:=by
 obtain ⟨h1,e1⟩:=List.getElem?_eq_some_iff.mp a
 obtain ⟨h2,e2⟩:=List.getElem?_eq_some_iff.mp b
 exact (List.getElem_inj hN).mp (e1.trans e2.symm)
theorem store_ok2 {M:Model} {A:Around} {E:Value -> Shared -> Prop} {i:Nat} {x:Str} {v:V} {u:Value} {Q:Unit -> Shared -> Prop} (I:Inv X pins σ H s) (hN:X.N.Nodup) (hi:X.N[i]? = some x) (hx:Loc X.env.scope x) (r:RelV v u)
  (h:∀ s',Inv X pins (σ.set i (some v)) H s' -> (∃ a,Heap.SameBut a s.heap s'.heap /\ (a = X.env.locals \/ X.env.cells.lookup x = some a)) -> Q () s') (hf:X.fn x = true \/ X.env.scope.names.lookup x = some .local:=by first | exact .inl rfl | exact .inr rfl | assumption):wpAny M A (storeName X.env x u) Q E s:=by
 obtain ⟨m,hn,hl⟩:=id I.loc
 have hcls:(X.env.scope.kind == .class || (X.env.scope.kind == .module && X.env.locals != X.env.globals)) = false:=by rw [I.ok.kind]; rfl
 have hiσ:i < σ.length:=by rw [I.len]; exact (List.getElem?_eq_some_iff.mp hi).1
 have cne:=I.cne
 have tracked:∀ {a:Addr} {h':Heap},(∃ o,s.heap.get? a = some o /\ H a = none) -> Heap.SameBut a s.heap h' -> HOk X.prog X.w H h':=fun {a h'} ha hs b ob e=>by
  obtain ⟨_,_,hfree⟩:=ha
  refine (I.hok b ob e).stay (fun c w' hc q=>(hs.2 c ?_).trans q) (fun _ q=>q) fun _ _ q=>q
  rintro rfl
  rcases hc with rfl | hc
  ·rw [hfree] at e; cases e
  ·rw [hfree] at hc; cases hc
 rcases hx with hk | hk
 ·refine wpAny_storeName_local hk hn (fun h' hn' hs=>?_) hcls
  obtain ⟨oL,_,_,hoL,_⟩:=id hn
  refine h _ ⟨I.ok,I.os,I.bare,⟨fun b o e n hb hx=>?_,fun b o e n hb hx=>?_,I.base.free,fun b o e hx=>?_,I.base.tups,I.base.frzs,I.base.tbls⟩,⟨_,hn',fun j y v' e1 e2 e3=>?_⟩,fun y c e=>?_,I.free,I.freeC,fun p hp=>?_,tracked ⟨oL,hoL,I.free⟩ hs,by simpa using I.len⟩ ⟨_,hs,.inl rfl⟩
  ·exact (hs.2 b (Nat.ne_of_lt (Nat.lt_of_lt_of_le (Heap.lt_size e) I.ok.above))).trans (I.base.keep b o e n hb hx)
  ·obtain ⟨sl,e1⟩:=I.base.slot b o e n hb hx
   exact ⟨sl,(hs.2 b (Nat.ne_of_lt (Nat.lt_of_lt_of_le (Heap.lt_size e) I.ok.above))).trans e1⟩
  ·obtain ⟨o',e1⟩:=I.base.there b o e hx
   exact ⟨o',(hs.2 b (Nat.ne_of_lt (Nat.lt_of_lt_of_le (Heap.lt_size e) I.ok.above))).trans e1⟩
  ·by_cases hj:j = i
   ·subst hj
    rw [hi] at e1; cases e1
    rw [List.getElem?_set_self hiσ] at e2
    cases e2
    exact ⟨u,r,.inl ⟨hk,by simp⟩⟩
   ·rw [List.getElem?_set_ne (Ne.symm hj)] at e2
    obtain ⟨u',r',q⟩:=hl j y v' e1 e2 e3
    refine ⟨u',r',?_⟩
    rcases q with ⟨k,e⟩ | ⟨k,c,e,z⟩
    ·refine .inl ⟨k,?_⟩
     have:y ≠ x:=fun e=>hj (nodup_ix hN e1 (e ▸ hi))
     simp [this,e]
    ·exact .inr ⟨k,c,e,z.sameBut hs (cne y c e)⟩
  ·obtain ⟨w',z⟩:=I.cell y c e
   exact ⟨w',z.sameBut hs (cne y c e)⟩
  ·obtain ⟨e,n,ne,nf,d⟩:=I.pin p hp
   exact ⟨(hs.2 p.1 ne).trans e,n,ne,nf,d⟩
 ·have hfn:X.fn x = true:=by
   rcases hf with z | z
   ·exact z
   ·rw [z] at hk; cases hk
  obtain ⟨c,hc⟩:=I.ok.has x (.inl hk)
  obtain ⟨w',z⟩:=I.cell x c hc
  refine wpAny_storeName_cell I.ok.kind hk hc z (fun h' hc' hs=>?_)
  obtain ⟨oc,hoc,hocd⟩:=id z
  refine h { s with heap:=h' } ⟨I.ok,I.os,I.bare,⟨fun b o e n hb hx=>?_,fun b o e n hb hx=>?_,I.base.free,fun b o e hx=>?_,I.base.tups,I.base.frzs,I.base.tbls⟩,⟨m,hn.sameBut hs (Ne.symm (cne x c hc)),fun j y v' e1 e2 e3=>?_⟩,fun y c' e=>?_,I.free,I.freeC,fun p hp=>?_,tracked ⟨oc,hoc,I.freeC x c hc⟩ hs,by simpa using I.len⟩ ⟨c,hs,.inr hc⟩
  ·exact (hs.2 b (Nat.ne_of_lt (Nat.lt_of_lt_of_le (Heap.lt_size e) (I.ok.cab x c hfn hc)))).trans (I.base.keep b o e n hb hx)
  ·obtain ⟨sl,e1⟩:=I.base.slot b o e n hb hx
   exact ⟨sl,(hs.2 b (Nat.ne_of_lt (Nat.lt_of_lt_of_le (Heap.lt_size e) (I.ok.cab x c hfn hc)))).trans e1⟩
  ·obtain ⟨o',e1⟩:=I.base.there b o e hx
   exact ⟨o',(hs.2 b (Nat.ne_of_lt (Nat.lt_of_lt_of_le (Heap.lt_size e) (I.ok.cab x c hfn hc)))).trans e1⟩
  ·by_cases hj:j = i
   ·subst hj
    rw [hi] at e1; cases e1
    rw [List.getElem?_set_self hiσ] at e2
    cases e2
    exact ⟨u,r,.inr ⟨.inl hk,c,hc,hc'⟩⟩
   ·rw [List.getElem?_set_ne (Ne.symm hj)] at e2
    obtain ⟨u',r',q⟩:=hl j y v' e1 e2 e3
    refine ⟨u',r',?_⟩
    rcases q with q | ⟨k,c',e,z'⟩
    ·exact .inl q
    ·refine .inr ⟨k,c',e,z'.sameBut hs ?_⟩
     rintro rfl
     exact hj (nodup_ix hN e1 (I.ok.inj _ _ _ e hc ▸ hi))
  ·by_cases hcc:c' = c
   ·subst hcc; exact ⟨_,hc'⟩
   ·obtain ⟨w2,z2⟩:=I.cell y c' e
    exact ⟨w2,z2.sameBut hs hcc⟩
  ·obtain ⟨e,n,ne,nf,d⟩:=I.pin p hp
   refine ⟨(hs.2 p.1 ?_).trans e,n,ne,nf,d⟩
   intro q
   rw [q,hoc] at e
   have q':oc = p.2:=Option.some.inj e
   exact d w' (by rw [<- q']; exact hocd)
theorem store_ok {M:Model} {A:Around} {E:Value -> Shared -> Prop} {i:Nat} {x:Str} {v:V} {u:Value} {Q:Unit -> Shared -> Prop} (I:Inv X pins σ H s) (hN:X.N.Nodup) (hi:X.N[i]? = some x) (hx:Loc X.env.scope x) (r:RelV v u)
  (h:∀ s',Inv X pins (σ.set i (some v)) H s' -> Q () s') (hf:X.fn x = true \/ X.env.scope.names.lookup x = some .local:=by first | exact .inl rfl | exact .inr rfl | assumption):wpAny M A (storeName X.env x u) Q E s :=
 store_ok2 I hN hi hx r (fun s' I' _=>h s' I') hf
theorem Inv.call' {s':Shared} {ch:List Addr} (I:Inv X pins σ H s) (ho:s'.os = s.os) (u:Un (frs X.stack) ch H H' s.heap s'.heap) (hok:HOk X.prog X.w H' s'.heap) (hg:AllBare s'.gens)
  (hch:∀ b ∈ ch,(b ∈ X.ex \/ X.s₀.heap.objs.size <= b) /\ b ≠ X.env.locals /\ (∀ x c,X.env.cells.lookup x = some c -> c ≠ b) /\ ∀ p ∈ X.pn ++ pins,p.1 ≠ b):Inv X pins σ H' s':=by
 obtain ⟨h',g',d',t',o'⟩:=s'
 have e:o' = s.os:=ho
 subst e
 exact I.call (g':=g') (t':=t') (d':=d') u hok hg hch
end
abbrev XK:=Value -> Option Addr -> Hp -> Prop
abbrev St:=List (Option V)
abbrev VK:=V -> Hp -> Prop
abbrev TE:=St -> Hp -> VK -> Prop
abbrev TT:=St -> Hp -> (Bool -> Hp -> Prop) -> Prop
abbrev TA:=St -> Hp -> (List V -> Hp -> Prop) -> Prop
structure Ends where
 nx:St -> Hp -> Prop
 rt:VK
 bk:St -> Hp -> Prop:=fun _ _=>False
 ct:St -> Hp -> Prop:=fun _ _=>False
abbrev TS:=Ends -> St -> Hp -> Prop
def EP (X:Cx) (pins:List (Addr × Obj)) (σ:St) (Q:VK) (u:Value) (s':Shared):Prop:=∃ v H',Inv X pins σ H' s' /\ RelV v u /\ Q v H'
def TP (X:Cx) (pins:List (Addr × Obj)) (σ:St) (Q:Bool -> Hp -> Prop) (b:Bool) (s':Shared):Prop:=∃ H',Inv X pins σ H' s' /\ Q b H'
def AP (X:Cx) (pins:List (Addr × Obj)) (σ:St) (Q:List V -> Hp -> Prop) (us:List Value) (s':Shared):Prop:=∃ vs H',Inv X pins σ H' s' /\ Vals vs us /\ Q vs H'
def SP (X:Cx) (pins:List (Addr × Obj)) (D:Ends) (f:Flow) (s':Shared):Prop :=
 match f with
 | .next=>∃ σ' H',Inv X pins σ' H' s' /\ D.nx σ' H'
 | .brk=>∃ σ' H',Inv X pins σ' H' s' /\ D.bk σ' H'
 | .cont=>∃ σ' H',Inv X pins σ' H' s' /\ D.ct σ' H'
 | .ret u=>∃ v σ' H',Inv X pins σ' H' s' /\ RelV v u /\ D.rt v H'
def PE (X:Cx) (e:Expr) (t:TE):Prop :=
 ∀ (pins:List (Addr × Obj)) (s:Shared) (σ:St) (H:Hp) (Q:VK),Inv X pins σ H s -> t σ H Q -> wpAny (model X.prog X.w) X.A (eval e X.env) (EP X pins σ Q) X.xe s
def PT (X:Cx) (e:Expr) (t:TT):Prop :=
 ∀ (pins:List (Addr × Obj)) (s:Shared) (σ:St) (H:Hp) (Q:Bool -> Hp -> Prop),Inv X pins σ H s -> t σ H Q -> wpAny (model X.prog X.w) X.A (isTrue e X.env (eval e X.env)) (TP X pins σ Q) X.xe s
def PW (X:Cx) (e:Expr) (t:TT):Prop :=
 ∀ (whole:Sem Value) (pins:List (Addr × Obj)) (s:Shared) (σ:St) (H:Hp) (Q:Bool -> Hp -> Prop),Inv X pins σ H s -> t σ H Q -> wpAny (model X.prog X.w) X.A (isTrue e X.env whole) (TP X pins σ Q) X.xe s
theorem PW.pt {X:Cx} {e:Expr} {t:TT} (h:PW X e t):PT X e t:=h _
def PA (X:Cx) (es:List Expr) (t:TA):Prop :=
 ∀ (pos:Pos) (pins:List (Addr × Obj)) (s:Shared) (σ:St) (H:Hp) (Q:List V -> Hp -> Prop),Inv X pins σ H s -> t σ H Q -> wpAny (model X.prog X.w) X.A (spliced (backTo pos (starEach es X.env))) (AP X pins σ Q) X.xe s
def PS (X:Cx) (st:Stmt) (t:TS):Prop :=
 ∀ (pins:List (Addr × Obj)) (s:Shared) (σ:St) (H:Hp) (D:Ends),Inv X pins σ H s -> t D σ H -> wpAny (model X.prog X.w) X.A (exec st X.env) (SP X pins D) X.xe s
def PSs (X:Cx) (st:List Stmt) (t:TS):Prop :=
 ∀ (pins:List (Addr × Obj)) (s:Shared) (σ:St) (H:Hp) (D:Ends),Inv X pins σ H s -> t D σ H -> wpAny (model X.prog X.w) X.A (execs st X.env) (SP X pins D) X.xe s
theorem thn {α:Type} {t:Sem α} {Q Q':α -> Shared -> Prop} {M:Model} {A:Around} {E:Value -> Shared -> Prop} {s:Shared} (h:wpAny M A t Q E s) (hQ:∀ a s,Q a s -> Q' a s):wpAny M A t Q' E s:=wpAny_mono h hQ fun _ _ x=>x
end L2
namespace L2
open PySem PySem.Spec PyProof.Rows
section
variable {X:Cx}
def tVar (i:Nat):TE:=fun σ H Q=>∃ v,σ[i]? = some (some v) /\ Q v H
def tC (v:V):TE:=fun _ H Q=>Q v H
theorem pe_var {i:Nat} {x:Str} {pos:Pos} (hN:X.N[i]? = some x) (hv:Vis X.env.scope x) (hd:(x == ("__debug__":Str)) = false:=by decide) (hcd:(x == ("__classdict__":Str)) = false:=by decide):PE X (.Name x pos) (tVar i):=by
 intro pins s σ H Q I h
 obtain ⟨v,e,h⟩:=h
 obtain ⟨m,hn,hl⟩:=I.loc
 obtain ⟨u,r,l⟩:=hl i x v hN e hv
 have fin:EP X pins σ Q u s:=⟨v,H,I,r,h⟩
 rcases l with ⟨hk,hm⟩ | ⟨hk,c,hc,hcell⟩
 ·exact wpAny_Name (wpAny_loadName_local I.ok.kind hk hn hm fin) hd
 ·rcases hk with hk | hk
  ·exact wpAny_Name (wpAny_loadName_cell I.ok.kind hk hc hcell fin) hd
  ·exact wpAny_Name (wpAny_loadName_free I.ok.kind hk hc hcell fin hcd) hd
theorem pe_int {i j pos}:PE X (.Constant (.int i) j pos) (tC (.int i)):=fun _ _ _ H _ I h=>wpAny_Constant_int ⟨.int i,H,I.tok _,⟨_,rfl⟩,h⟩
theorem pe_bl {b j pos}:PE X (.Constant (.bool b) j pos) (tC (.bl b)):=fun _ _ _ H _ I h=>Constant_bool ⟨.bl b,H,I,rfl,h⟩
theorem pe_non {j pos}:PE X (.Constant .none j pos) (tC .non):=fun _ _ _ H _ I h=>Constant_none ⟨.non,H,I,rfl,h⟩
theorem pe_str {x j pos}:PE X (.Constant (.str x) j pos) (tC (.str x)):=fun _ _ _ H _ I h=>Calls.Constant_str ⟨.str x,H,I.tok _,⟨_,rfl⟩,h⟩
def Gl (X:Cx) (x:Str):Prop:=X.env.kindOf x = some .globalImplicit
theorem ld_glob {E:Value -> Shared -> Prop} {pins:List (Addr × Obj)} {s:Shared} {σ:St} {H:Hp} {x:Str} {u:Value} {pos:Pos} {Q:Value -> Shared -> Prop} (I:Inv X pins σ H s) (hg:Gl X x) (hm:X.mg x = some u) (h:Q u s)
  (hd:(x == ("__debug__":Str)) = false:=by decide):wpAny (model X.prog X.w) X.A (eval (.Name x pos) X.env) Q E s :=
 Calls.Name_function_global I.ok.kind hg (Calls.loadGlobal_global (by rw [I.ok.glob]; exact I.mod.glob.keeps I.bk) hm h) hd
theorem ld_blt {E:Value -> Shared -> Prop} {pins:List (Addr × Obj)} {s:Shared} {σ:St} {H:Hp} {x:Str} {u:Value} {pos:Pos} {Q:Value -> Shared -> Prop} (I:Inv X pins σ H s) (hg:Gl X x) (hm:X.mg x = none) (hv:bootBuiltins x = some u) (h:Q u s)
  (hn:x ≠ "__name__":=by decide) (hd:(x == ("__debug__":Str)) = false:=by decide):wpAny (model X.prog X.w) X.A (eval (.Name x pos) X.env) Q E s:=by
 obtain ⟨mb,h1,h2⟩:=I.mod.blt
 exact Calls.Name_function_global I.ok.kind hg (Calls.loadGlobal_builtin (by rw [I.ok.glob]; exact I.mod.glob.keeps I.bk) hm (by rw [I.ok.blt]; exact h1.keeps I.bk) ((h2 x hn).trans hv) h) hd
variable {a b:Expr} {ta tb:TE} {pos:Pos}
variable {tA tB':TT} {rest:List Expr}
def tAnd (t u:TT):TT:=fun σ H Q=>t σ H fun c H1=>if c = true then u σ H1 Q else Q false H1
def tOr (t u:TT):TT:=fun σ H Q=>t σ H fun c H1=>if c = true then Q true H1 else u σ H1 Q
theorem pw_and1 (ha:PT X a tA):PW X (.BoolOp .And [a] pos) tA:=by
 intro wh pins s σ H Q I h
 refine isTrue_and (thn (ha pins s σ H Q I h) fun c s1 e=>?_)
 cases c with
 | true=>exact isTrue_and_nil e
 | false=>exact e
theorem pw_or1 (ha:PT X a tA):PW X (.BoolOp .Or [a] pos) tA:=by
 intro wh pins s σ H Q I h
 refine isTrue_or (thn (ha pins s σ H Q I h) fun c s1 e=>?_)
 cases c with
 | false=>exact isTrue_or_nil e
 | true=>exact e
theorem pw_and (ha:PT X a tA) (hb:PW X (.BoolOp .And (b :: rest) pos) tB'):PW X (.BoolOp .And (a :: b :: rest) pos) (tAnd tA tB'):=by
 intro wh pins s σ H Q I h
 refine isTrue_and (thn (ha pins s σ H _ I h) fun c s1 ⟨H1,I1,q1⟩=>?_)
 cases c with
 | true=>exact hb wh pins s1 σ H1 Q I1 q1
 | false=>exact ⟨H1,I1,q1⟩
theorem pw_or (ha:PT X a tA) (hb:PW X (.BoolOp .Or (b :: rest) pos) tB'):PW X (.BoolOp .Or (a :: b :: rest) pos) (tOr tA tB'):=by
 intro wh pins s σ H Q I h
 refine isTrue_or (thn (ha pins s σ H _ I h) fun c s1 ⟨H1,I1,q1⟩=>?_)
 cases c with
 | true=>exact ⟨H1,I1,q1⟩
 | false=>exact hb wh pins s1 σ H1 Q I1 q1
def tOrV (ta tb:TE):TE:=fun σ H Q=>ta σ H fun x H1=>∃ c,x = .bl c /\ if c = true then Q (.bl true) H1 else tb σ H1 Q
theorem pe_one {op} {t:TE} (h:PE X a t):PE X (.BoolOp op [a] pos) t:=fun pins s σ H Q I hw=>BoolOp_one (h pins s σ H Q I hw)
theorem pe_or (ha:PE X a ta) (hb:PE X (.BoolOp .Or (b :: rest) pos) tb):PE X (.BoolOp .Or (a :: b :: rest) pos) (tOrV ta tb):=by
 intro pins s σ H Q I h
 refine BoolOp_or (thn (ha pins s σ H _ I h) fun v s1 ⟨x,H1,I1,r1,q1⟩=>?_)
 obtain ⟨c,rfl,q1⟩:=q1
 cases r1
 refine wpAny_truthy_bool ?_
 cases c with
 | false=>exact hb pins s1 σ H1 Q I1 q1
 | true=>exact ⟨.bl true,H1,I1,rfl,q1⟩
end
end L2
namespace L2
open PySem PySem.Spec PyProof.Rows
def SqL (K:PySem.W.Frag) (H:Hp) (a:Addr) (xs:List V):Prop :=
 Rd H a (.lst xs) \/
  ∃ (o:Obj) (its:Array Value) (n:Nat),K.lookup a = some o /\ o.cls = .type "list" /\ o.dict = none /\ o.data = .seq its n /\ its.size <= sizeLine /\ Vals xs its.toList
def SqT (K:PySem.W.Frag) (H:Hp) (a:Addr) (xs:List V):Prop :=
 Rd H a (.tup xs) \/
  ∃ (o:Obj) (its:Array Value) (n:Nat),K.lookup a = some o /\ o.cls = .type "tuple" /\ o.data = .seq its n /\ its.size <= sizeLine /\ Vals xs its.toList
def absV:Value -> Option V
 | .none=>some .non
 | .bool b=>some (.bl b)
 | .int i _=>some (.int i)
 | .str x _=>some (.str x)
 | .bytes b _=>some (.byt b)
 | .float b _=>some (.flt b)
 | .ref a=>some (.ref a)
 | .type n=>some (.ty n)
 | _=>none
theorem RelV.abs {x:V} {u:Value} (r:RelV x u):absV u = some x:=by
 cases x with
 | non=>cases r; rfl
 | bl _=>cases r; rfl
 | int _=>obtain ⟨t,rfl⟩:=r; rfl
 | str _=>obtain ⟨t,rfl⟩:=r; rfl
 | byt _=>obtain ⟨t,rfl⟩:=r; rfl
 | flt _=>obtain ⟨t,rfl⟩:=r; rfl
 | ref _=>cases r; rfl
 | ty _=>cases r; rfl
theorem RelV.inj {x y:V} {u:Value} (r:RelV x u) (q:RelV y u):x = y:=Option.some.inj (r.abs.symm.trans q.abs)
theorem Vals.inj:∀ {xs ys:List V} {us:List Value},Vals xs us -> Vals ys us -> xs = ys
 | _,_,_,.nil,.nil=>rfl
 | _,_,_,.cons r t,.cons r' t'=>by rw [r.inj r',Vals.inj t t']
section
variable {X:Cx} {pins:List (Addr × Obj)} {σ:St} {H:Hp} {s:Shared} {a:Addr} {xs ys:List V}
theorem SqL.of {K:PySem.W.Frag} (h:H a = some (.lst xs)):SqL K H a xs:=.inl (.inl h)
theorem Inv.list (I:Inv X pins σ H s) (h:SqL X.K H a xs):∃ its:List Value,Vals xs its /\ PlainL s.heap a its.toArray /\ xs.length <= sizeLine:=by
 rcases h with h | ⟨o,its,n,hk,hc,hd,hs,hz,r⟩
 ·obtain ⟨z,its,n,r,e⟩:=h.ok I.hok
  exact ⟨its,r,⟨_,n,e,rfl,rfl,rfl⟩,z⟩
 ·refine ⟨its.toList,r,⟨o,n,I.kIn a o hk,hc,hd,by simpa using hs⟩,?_⟩
  have e:=r.length
  simp only [Array.length_toList] at e
  lia
theorem Inv.tuple (I:Inv X pins σ H s) (h:SqT X.K H a xs):∃ its:List Value,Vals xs its /\ IsTup s.heap a its.toArray /\ xs.length <= sizeLine:=by
 rcases h with h | ⟨o,its,n,hk,hc,hs,hz,r⟩
 ·obtain ⟨z,its,r,p⟩:=h.ok I.hok
  exact ⟨its,r,p.tup,z⟩
 ·refine ⟨its.toList,r,⟨o,I.kIn a o hk,hc,n,by simpa using hs⟩,?_⟩
  have e:=r.length
  simp only [Array.length_toList] at e
  lia
theorem Inv.list_inj (I:Inv X pins σ H s) (h:SqL X.K H a xs) (h':SqL X.K H a ys):xs = ys:=by
 obtain ⟨its,r,⟨o,n,e,_,_,d⟩,_⟩:=I.list h
 obtain ⟨its',r',⟨o',n',e',_,_,d'⟩,_⟩:=I.list h'
 rw [e] at e'; cases e'
 rw [d] at d'
 injection d' with d1 _
 have:its = its':=by simpa using congrArg Array.toList d1
 subst this
 exact r.inj r'
theorem Inv.tuple_inj (I:Inv X pins σ H s) (h:SqT X.K H a xs) (h':SqT X.K H a ys):xs = ys:=by
 obtain ⟨its,r,⟨o,e,_,n,d⟩,_⟩:=I.tuple h
 obtain ⟨its',r',⟨o',e',_,n',d'⟩,_⟩:=I.tuple h'
 rw [e] at e'; cases e'
 rw [d] at d'
 injection d' with d1 _
 have:its = its':=by simpa using congrArg Array.toList d1
 subst this
 exact r.inj r'
end
abbrev Cx.wish (X:Cx) (E:Value -> Shared -> Prop):Cx:={ X with xe:=E }
abbrev Cx.nox (X:Cx):Cx:=X.wish fun _ _=>False
theorem Cx.Ok.wish {X:Cx} (ok:X.Ok) (E:Value -> Shared -> Prop):(X.wish E).Ok :=
 ⟨ok.mod,ok.kind,ok.glob,ok.blt,ok.above,ok.inj,ok.has,ok.cab,ok.hd,ok.frames,ok.stk,ok.exf,ok.bs,ok.bsz,ok.noex,ok.exfs,ok.funs,ok.frf⟩
theorem Cx.Ok.unwish {X:Cx} {E:Value -> Shared -> Prop} (ok:(X.wish E).Ok):X.Ok :=
 ⟨ok.mod,ok.kind,ok.glob,ok.blt,ok.above,ok.inj,ok.has,ok.cab,ok.hd,ok.frames,ok.stk,ok.exf,ok.bs,ok.bsz,ok.noex,ok.exfs,ok.funs,ok.frf⟩
section
variable {X:Cx} {pins:List (Addr × Obj)} {σ:St} {H:Hp} {s:Shared} {E:Value -> Shared -> Prop}
theorem Inv.wish (I:Inv X pins σ H s) (E:Value -> Shared -> Prop):Inv (X.wish E) pins σ H s:=⟨I.ok.wish E,I.os,I.bare,I.base,I.loc,I.cell,I.free,I.freeC,I.pin,I.hok,I.len⟩
theorem Inv.unwish (I:Inv (X.wish E) pins σ H s):Inv X pins σ H s:=⟨I.ok.unwish,I.os,I.bare,I.base,I.loc,I.cell,I.free,I.freeC,I.pin,I.hok,I.len⟩
theorem SP.unwish {D:Ends} {f:Flow} {s':Shared} (h:SP (X.wish E) pins D f s'):SP X pins D f s':=by
 cases f with
 | next=>obtain ⟨σ',H',I,q⟩:=h; exact ⟨σ',H',I.unwish,q⟩
 | brk=>obtain ⟨σ',H',I,q⟩:=h; exact ⟨σ',H',I.unwish,q⟩
 | cont=>obtain ⟨σ',H',I,q⟩:=h; exact ⟨σ',H',I.unwish,q⟩
 | ret u=>obtain ⟨v,σ',H',I,r,q⟩:=h; exact ⟨v,σ',H',I.unwish,r,q⟩
theorem PSs.nox {st:List Stmt} {t:TS} (h:PSs X.nox st t):PSs X st t:=fun pins s σ H D I hw =>
 wpAny_mono (h pins s σ H D (I.wish _) hw) (fun _ _ q=>q.unwish) fun _ _ z=>False.elim z
end
section
variable {X:Cx} {st:Stmt} {rest:List Stmt} {t u:TS} {e:Expr} {te:TE} {pos:Pos}
def tNext:TS:=fun D σ H=>D.nx σ H
def tSeq (t u:TS):TS:=fun D σ H=>t { D with nx:=u D } σ H
theorem pss_nil:PSs X [] tNext:=fun _ _ σ H _ I h=>wpAny_execs_nil ⟨σ,H,I,h⟩
theorem pss_cons (h1:PS X st t) (h2:PSs X rest u):PSs X (st :: rest) (tSeq t u):=by
 intro pins s σ H D I h
 refine wpAny_execs_cons (thn (h1 pins s σ H { D with nx:=u D } I h) fun f s1 q=>?_)
 cases f with
 | next =>
  obtain ⟨σ',H',I',q⟩:=q
  exact h2 pins s1 σ' H' D I' q
 | ret v=>exact q
 | brk=>exact q
 | cont=>exact q
theorem pss_one (h1:PS X st t):PSs X [st] t:=by
 intro pins s σ H D I h
 refine wpAny_execs_cons (thn (h1 pins s σ H D I h) fun f s1 q=>?_)
 cases f with
 | next=>exact wpAny_execs_nil q
 | ret v=>exact q
 | brk=>exact q
 | cont=>exact q
theorem Inv.quiet {pins:List (Addr × Obj)} {σ:St} {H:Hp} {s:Shared} (I:Inv X pins σ H s):interactive X.env = false:=by simp [interactive,I.ok.kind]
def tDrop (te:TE):TS:=fun D σ H=>te σ H fun _ H1=>D.nx σ H1
theorem ps_expr (he:PE X e te) (hs:swapsWith e none pos.line X.env = pure false:=by rfl):PS X (.Expr e pos) (tDrop te):=by
 intro pins s σ H D I h
 exact wpAny_Expr_any (thn (he pins s σ H _ I h) fun v s1 ⟨x,H1,I1,r1,q1⟩=>⟨σ,H1,I1,q1⟩) I.quiet hs
def tRet (te:TE):TS:=fun D σ H=>te σ H D.rt
theorem ps_ret (he:PE X e te):PS X (.Return (some e) pos) (tRet te):=by
 intro pins s σ H D I h
 exact wpAny_Return_some (thn (he pins s σ H _ I h) fun v s1 ⟨x,H1,I1,r1,q1⟩=>⟨x,σ,H1,I1,r1,q1⟩)
def tIfS (c:TT) (t u:TS):TS:=fun D σ H=>c σ H fun b H1=>if b = true then t D σ H1 else u D σ H1
theorem ps_if {c:Expr} {a b:List Stmt} {tc:TT} (hc:PT X c tc) (ha:PSs X a t) (hb:PSs X b u):PS X (.If c a b pos) (tIfS tc t u):=by
 intro pins s σ H D I h
 refine wpAny_If (thn (hc pins s σ H _ I h) fun d s1 ⟨H1,I1,q1⟩=>?_)
 cases d with
 | true=>exact ha pins s1 σ H1 D I1 q1
 | false=>exact hb pins s1 σ H1 D I1 q1
end
abbrev TG:=V -> St -> Hp -> (St -> Hp -> Prop) -> Prop
abbrev TGs:=List V -> St -> Hp -> (St -> Hp -> Prop) -> Prop
def PG (X:Cx) (target:Expr) (t:TG):Prop :=
 ∀ (pins:List (Addr × Obj)) (s:Shared) (σ:St) (H:Hp) (v:V) (u:Value) (Q:St -> Hp -> Prop),Inv X pins σ H s -> RelV v u -> t v σ H Q ->
  wpAny (model X.prog X.w) X.A (assign target X.env u) (fun _ s'=>∃ σ' H',Inv X pins σ' H' s' /\ Q σ' H') X.xe s
def PGs (X:Cx) (ts:List Expr) (t:TGs):Prop :=
 ∀ (pins:List (Addr × Obj)) (s:Shared) (σ:St) (H:Hp) (vs:List V) (us:List Value) (Q:St -> Hp -> Prop),Inv X pins σ H s -> Vals vs us -> t vs σ H Q ->
  wpAny (model X.prog X.w) X.A (assignInOrder ((assignEach ts X.env).map (·.2)) us) (fun _ s'=>∃ σ' H',Inv X pins σ' H' s' /\ Q σ' H') X.xe s
abbrev TSet:=V -> V -> V -> Hp -> (Hp -> Prop) -> Prop
def PSet (X:Cx) (t:TSet):Prop :=
 ∀ (pins:List (Addr × Obj)) (s:Shared) (σ:St) (H:Hp) (o i v:V) (ov iv u:Value) (Q:Hp -> Prop),Inv X pins σ H s -> RelV o ov -> RelV i iv -> RelV v u -> t o i v H Q ->
  wpAny (model X.prog X.w) X.A (setItem ov iv u) (fun _ s'=>∃ H',Inv X pins σ H' s' /\ Q H') X.xe s
section
variable {X:Cx} {pos:Pos}
def gName (i:Nat):TG:=fun v σ H Q=>Q (σ.set i (some v)) H
theorem pg_name {i:Nat} {x:Str} (hN:X.N.Nodup) (hi:X.N[i]? = some x) (hx:Loc X.env.scope x) (hf:X.fn x = true \/ X.env.scope.names.lookup x = some .local:=by first | exact .inl rfl | exact .inr rfl | assumption):PG X (.Name x pos) (gName i):=by
 intro pins s σ H v u Q I r h
 exact wpAny_assign_Name (store_ok I hN hi hx r (fun s' I'=>⟨_,H,I',h⟩) hf)
def gNil:TGs:=fun vs σ H Q=>vs = [] /\ Q σ H
def gCons (t:TG) (u:TGs):TGs:=fun vs σ H Q=>∃ v r,vs = v :: r /\ t v σ H fun σ' H'=>u r σ' H' Q
theorem pgs_nil:PGs X [] gNil:=by
 intro pins s σ H vs us Q I r h
 obtain ⟨e,h⟩:=h
 subst e
 cases r
 exact assignInOrder_nil ⟨σ,H,I,h⟩
theorem pgs_cons {e:Expr} {es:List Expr} {t:TG} {u:TGs} (h1:PG X e t) (h2:PGs X es u)
  (hs:(assignEach (e :: es) X.env).map (·.2) = assign e X.env :: (assignEach es X.env).map (·.2):=by rfl):PGs X (e :: es) (gCons t u):=by
 intro pins s σ H vs us Q I r h
 obtain ⟨v,vr,e1,h⟩:=h
 subst e1
 cases r with
 | cons r rr =>
  rw [hs]
  refine assignInOrder_cons (thn (h1 pins s σ H _ _ _ I r h) fun _ s1 ⟨σ1,H1,I1,q1⟩=>?_)
  exact h2 pins s1 σ1 H1 _ _ Q I1 rr q1
def gTup (K:PySem.W.Frag) (n:Nat) (t:TGs):TG:=fun v σ H Q=>∃ a xs,v = .ref a /\ SqT K H a xs /\ xs.length = n /\ t xs σ H Q
theorem pg_tup {es:List Expr} {k:Nat} {t:TGs} {n:Nat} (hc:X.calm = true) (h:PGs X es t)
  (hn:(assignEach es X.env).length = n:=by rfl) (hst:(assignEach es X.env).findIdx? (·.1) = none:=by rfl):PG X (.Tuple es k pos) (gTup X.K n t):=by
 intro pins s σ H v u Q I r hw
 obtain ⟨a,xs,e1,hq,hl,hw⟩:=hw
 subst e1
 cases r
 obtain ⟨its,rv,ht,hz⟩:=I.tuple hq
 refine assign_Tuple_tuple (I.ok.hd hc) ht (by simp [hn,<- hl,rv.length]) hst fun h' hx=>?_
 have I1:Inv X pins σ H { s with heap:=h' }:=I.kept (t':=s.toks) fun b o e=>hx b o (Nat.ne_of_lt (Heap.lt_size e)) e
 exact h pins _ σ H xs _ Q I1 (by simpa using rv) hw
def gSub (to ti:TE) (t:TSet):TG:=fun v σ H Q=>to σ H fun o H1=>ti σ H1 fun i H2=>t o i v H2 fun H3=>Q σ H3
theorem pg_sub {o i:Expr} {to ti:TE} {t:TSet} (ho:PE X o to) (hi:PE X i ti) (hs:PSet X t)
  (ha:∀ v,assign (.Subscript o i pos) X.env v = (do
   let ov <- holding [v] (eval o X.env)
   let iv <- holding [v,ov] (eval i X.env)
   standAt pos
   holding [v,ov,iv] (setItem ov iv v)
   release [v,ov,iv] []):=by intro _; rfl):PG X (.Subscript o i pos) (gSub to ti t):=by
 intro pins s σ H v u Q I r h
 rw [ha]
 refine wpAny_bind (wpAny_holding (thn (ho pins s σ H _ I h) fun ov s1 ⟨x,H1,I1,r1,q1⟩=>?_))
 refine wpAny_bind (wpAny_holding (thn (hi pins s1 σ H1 _ I1 q1) fun iv s2 ⟨y,H2,I2,r2,q2⟩=>?_))
 refine wpAny_bind (wpAny_standAt (wpAny_bind (wpAny_holding (thn (hs pins s2 σ H2 x y v ov iv u _ I2 r1 r2 r q2) fun _ s3 ⟨H3,I3,q3⟩=>?_))))
 exact wpAny_release ⟨σ,H3,I3,q3⟩
def tAsg (te:TE) (g:TG):TS:=fun D σ H=>te σ H fun x H1=>g x σ H1 D.nx
theorem ps_asg {tg e:Expr} {te:TE} {g:TG} (he:PE X e te) (hg:PG X tg g) (hs:swapsWithSole [tg] e pos.line X.env = pure false:=by rfl) (hw:swappedStores [tg] e X.env = pure none:=by rfl)
  (h1:(assignEach [tg] X.env).map (·.2) = [assign tg X.env]:=by rfl):PS X (.Assign [tg] e pos) (tAsg te g):=by
 intro pins s σ H D I h
 refine wpAny_Assign_stores (thn (he pins s σ H _ I h) fun v s1 ⟨x,H1,I1,r1,q1⟩=>?_) hs hw
 rw [h1]
 exact thn (hg pins s1 σ H1 x v _ I1 r1 q1) fun _ s2 q=>q
theorem ps_set {i:Nat} {x:Str} {e:Expr} {te:TE} {pos':Pos} (hN:X.N.Nodup) (hi:X.N[i]? = some x) (hx:Loc X.env.scope x) (he:PE X e te) (hs:swapsWith e (some (.Name x pos')) pos.line X.env = pure false:=by rfl) (hf:X.fn x = true \/ X.env.scope.names.lookup x = some .local:=by first | exact .inl rfl | exact .inr rfl | assumption) :
  PS X (.Assign [.Name x pos'] e pos) (tAsg te (gName i)):=by
 intro pins s σ H D I h
 refine wpAny_Assign_Name (thn (he pins s σ H _ I h) fun v s1 ⟨y,H1,I1,r1,q1⟩=>?_) hs
 exact store_ok I1 hN hi hx r1 (fun s2 I2=>⟨_,H1,I2,q1⟩) hf
def tPar (i j:Nat) (ta:TA):TS:=fun D σ H=>ta σ H fun vs H1=>∃ v w,vs = [v,w] /\ D.nx ((σ.set i (some v)).set j (some w)) H1
theorem ps_par {i j:Nat} {x y:Str} {a b:Expr} {ta:TA} {px py pt:Pos} {kt k2 pt2} (hc:X.calm = true) (hN:X.N.Nodup) (hi:X.N[i]? = some x) (hj:X.N[j]? = some y) (hij:i ≠ j)
  (hx:X.env.scope.names.lookup x = some .local) (hy:X.env.scope.names.lookup y = some .local) (ha:PA X [a,b] ta)
  (hw:swappedStores [.Tuple [.Name x px,.Name y py] kt pt] (.Tuple [a,b] k2 pt2) X.env = pure (some [x,y]))
  (hs:swapsWithSole [.Tuple [.Name x px,.Name y py] kt pt] (.Tuple [a,b] k2 pt2) pos.line X.env = pure false:=by rfl) :
  PS X (.Assign [.Tuple [.Name x px,.Name y py] kt pt] (.Tuple [a,b] k2 pt2) pos) (tPar i j ta):=by
 intro pins s σ H D I h
 rw [exec_Assign_arm]
 refine wpAny_bind (wpAny_standAt ?_)
 rw [hs]
 refine wpAny_bind (wpAny_pure ?_)
 rw [if_neg (by decide)]
 refine wpAny_bind (Tuple_ (thn (ha _ pins s σ H _ I h) fun us s1 ⟨vs,H1,I1,r1,q1⟩=>?_))
 obtain ⟨v,w,e1,q1⟩:=q1
 subst e1
 obtain ⟨u1,u2,rfl,rv,rw'⟩:∃ u1 u2,us = [u1,u2] /\ RelV v u1 /\ RelV w u2:=by
  cases r1 with
  | cons p q =>
   cases q with
   | cons p' q' =>
    cases q'
    exact ⟨_,_,rfl,p,p'⟩
 refine wpAny_newObj_type ?_ (by show 2 <= sizeLine; decide)
 have I2:Inv X pins σ H1 { s1 with heap:=s1.heap.push { cls:=.type "tuple",data:=.seq [u1,u2].toArray } }:=I1.kept (t':=s1.toks) fun b o e=>Heap.get?_push_of_some _ e
 rw [hw]
 refine wpAny_bind (wpAny_pure ?_)
 show wpAny (model X.prog X.w) X.A (do rule "assign.swapped-stores"; let items <- unpackItems (.ref s1.heap.objs.size) 2 none; assignInOrder [fun v=>bindName X.env y v,fun v=>bindName X.env x v] items.reverse; pure Flow.next) _ _ _
 refine wpAny_bind (wpAny_rule (wpAny_bind (unpackItems_tuple (items:=#[u1,u2]) (I.ok.hd hc) (IsTup.new s1.heap _) fun h' hx'=>?_)))
 have I3:=I2.kept (h':=h') (t':=s1.toks) fun b o e=>hx' b o (Nat.ne_of_lt (Heap.lt_size e)) e
 show wpAny _ _ (assignInOrder [fun v=>bindName X.env y v,fun v=>bindName X.env x v] [u2,u1] >>= fun _=>pure Flow.next) _ _ _
 refine wpAny_bind (assignInOrder_cons (wpAny_bindName (store_ok I3 hN hj (.inl hy) rw' (fun s2 I4=>?_) (.inr hy))))
 refine assignInOrder_cons (wpAny_bindName (store_ok I4 hN hi (.inl hx) rv (fun s3 I5=>assignInOrder_nil (wpAny_pure ?_)) (.inr hx)))
 rw [List.set_comm _ _ (Ne.symm hij)] at I5
 exact ⟨_,H1,I5,q1⟩
end
section
variable {X:Cx} {pos:Pos}
def tWhile (c:TT) (tb:TS):TS:=fun D σ H=>∃ W:Nat -> St -> Hp -> Prop,(∃ m,W m σ H) /\ ∀ m σ H,W m σ H ->
 c σ H fun b H1=>if b = true then ∃ N:St -> Hp -> Prop,(∀ σ' H',N σ' H' -> ∃ m',m' < m /\ W m' σ' H') /\ tb { D with nx:=N,ct:=N,bk:=D.nx } σ H1 else D.nx σ H1
theorem ps_while {c:Expr} {body:List Stmt} {tc:TT} {tb:TS} (hp:PassesOwn (model X.prog X.w) X.A X.env X.xe) (hc:PT X c tc) (hb:PSs X body tb):PS X (.While c body [] pos) (tWhile tc tb):=by
 intro pins s σ H D I h
 obtain ⟨W,⟨m0,w0⟩,turn⟩:=h
 refine wpAny_While (codeAny_whileLoop (fun n s'=>∃ σ' H',Inv X pins σ' H' s' /\ W n σ' H') ?_ m0 ⟨σ,H,I,w0⟩)
 rintro n s1 ⟨σ1,H1,I1,w1⟩
 refine wpAny_passesOwn hp (thn (hc pins s1 σ1 H1 _ I1 (turn n σ1 H1 w1)) fun b s2 ⟨H2,I2,q2⟩=>?_)
 cases b with
 | true =>
  obtain ⟨N,hN,q2⟩:=q2
  rw [if_pos rfl]
  refine wpAny_passesOwn hp (thn (hb pins s2 σ1 H2 _ I2 q2) fun f s3 q3=>?_)
  cases f with
  | next =>
   obtain ⟨σ3,H3,I3,n3⟩:=q3
   obtain ⟨m',hm,w3⟩:=hN σ3 H3 n3
   exact ⟨m',hm,σ3,H3,I3,w3⟩
  | cont =>
   obtain ⟨σ3,H3,I3,n3⟩:=q3
   obtain ⟨m',hm,w3⟩:=hN σ3 H3 n3
   exact ⟨m',hm,σ3,H3,I3,w3⟩
  | brk=>exact q3
  | ret v=>exact q3
 | false =>
  rw [if_neg Bool.false_ne_true]
  exact wpAny_execs_nil ⟨σ1,H2,I2,q2⟩
end
structure It where
 go:Nat -> Hp -> Prop
 yld:Nat -> Hp -> V -> Hp -> Prop
 stop:Nat -> Hp -> Prop
def FpOk (X:Cx) (pins:List (Addr × Obj)) (H:Hp) (b:Addr):Prop :=
 H b = none /\ b ≠ X.env.locals /\ b ∉ X.fs /\ (b ∈ X.ex \/ X.s₀.heap.objs.size <= b) /\ (∀ x c,X.env.cells.lookup x = some c -> c ≠ b) /\ ∀ p ∈ X.pn ++ pins,p.1 ≠ b
theorem Inv.fpOk {X:Cx} {pins:List (Addr × Obj)} {σ:St} {H H':Hp} {s:Shared} {b:Addr} (I:Inv X pins σ H s) (hb:s.heap.objs.size <= b) (hn:H' b = none):FpOk X pins H' b:=by
 refine ⟨hn,Nat.ne_of_gt (Nat.lt_of_lt_of_le I.lt hb),I.nofs hb,.inr (Nat.le_trans I.sz hb),fun x c e z=>?_,fun p hp z=>?_⟩
 ·obtain ⟨v,q⟩:=I.cell x c e
  exact absurd (Nat.lt_of_lt_of_le q.lt (by rw [z]; exact hb)) (Nat.lt_irrefl _)
 ·exact absurd (Nat.lt_of_lt_of_le (Heap.lt_size (I.pin p hp).1) (by rw [z]; exact hb)) (Nat.lt_irrefl _)
structure Turn (P:Program) (w:World) (K:PySem.W.Frag) (tg:Expr) (J:It) (fp:List Addr) (it:Addr) (tn:Nat -> Heap -> Prop):Prop where
 mem:it ∈ fp
 obj:∀ i h,tn i h -> ∀ b ∈ fp,∃ o,h.get? b = some o /\ ∀ v,o.data ≠ .cell v
 keep:∀ i h h',tn i h -> (∀ b ∈ fp,∀ o,h.get? b = some o -> h'.get? b = some o) -> tn i h'
 item:∀ (X:Cx),X.prog = P -> X.w = w -> X.K = K -> X.calm = true -> ∀ (i:Nat) (pins:List (Addr × Obj)) (s:Shared) (σ:St) (H:Hp) (E:Value -> Shared -> Prop),Inv X pins σ H s -> (∀ b ∈ fp,FpOk X pins H b) -> tn i s.heap -> J.go i H ->
  wpAny (model P w) X.A (pyNext (.ref it)) (fun r s1=>∃ u,r = some u /\
   wpAny (model P w) X.A (letOwnedTupleGo tg (.ref it) u) (fun _ s2=>∃ x H',Inv X pins σ H' s2 /\ RelV x u /\ J.yld i H x H' /\ tn (i + 1) s2.heap /\ ∀ b ∈ fp,H' b = none) E s1) E s
 done:∀ (X:Cx),X.prog = P -> X.w = w -> X.K = K -> X.calm = true -> ∀ (i:Nat) (pins:List (Addr × Obj)) (s:Shared) (σ:St) (H:Hp) (E:Value -> Shared -> Prop),Inv X pins σ H s -> (∀ b ∈ fp,FpOk X pins H b) -> tn i s.heap -> J.stop i H ->
  wpAny (model P w) X.A (pyNext (.ref it)) (fun r s1=>r = none /\ Inv X pins σ H s1) E s
 self:∀ (A:Around) (i:Nat) (s:Shared) (Q:Value -> Shared -> Prop) (E:Value -> Shared -> Prop),tn i s.heap -> Q (.ref it) s -> wpAny (model P w) A (pyIter (.ref it)) Q E s
abbrev TI:=St -> Hp -> (It -> Hp -> Prop) -> Prop
def PIE (X:Cx) (pins:List (Addr × Obj)) (σ:St) (tg:Expr) (R:It -> Hp -> Prop) (itv:Value) (s2:Shared):Prop :=
 ∃ (it:Addr) (fp:List Addr) (tn:Nat -> Heap -> Prop) (J:It) (H':Hp),itv = .ref it /\ Inv X pins σ H' s2 /\ Turn X.prog X.w X.K tg J fp it tn /\ tn 0 s2.heap /\ (∀ b ∈ fp,FpOk X pins H' b) /\ R J H'
def PI (X:Cx) (tg iter:Expr) (wi:TI):Prop :=
 ∀ (pins:List (Addr × Obj)) (s:Shared) (σ:St) (H:Hp) (R:It -> Hp -> Prop),Inv X pins σ H s -> wi σ H R ->
  wpAny (model X.prog X.w) X.A (eval iter X.env) (fun v s1=>wpAny (model X.prog X.w) X.A (pyIter v) (PIE X pins σ tg R) X.xe s1) X.xe s
theorem go_of {M:Model} {A:Around} {E:Value -> Shared -> Prop} {s:Shared} {tg:Expr} {it:Addr} {u:Value} {o:Obj} {n:String} {vs:Array Value} {Q:Unit -> Shared -> Prop} (ho:s.heap.get? it = some o) (hc:o.cls = .type n) (hd:o.data = .fields vs)
  (hn:["enumerate","zip","dict_itemiterator","dict_reverseitemiterator","odict_iterator","itertools.zip_longest","itertools.pairwise"].contains n = false) (hQ:Q () s):wpAny M A (letOwnedTupleGo tg (.ref it) u) Q E s:=by
 unfold letOwnedTupleGo
 cases tg <;> first
  | exact wpAny_pure hQ
  | (cases u <;> first
    | exact wpAny_pure hQ
    | (refine wpAny_bind (wpAny_load ho ?_)
       rw [hc,hd]
       show wpAny M A (if (["enumerate","zip","dict_itemiterator","dict_reverseitemiterator","odict_iterator","itertools.zip_longest","itertools.pairwise"].contains n && vs[0]? == some (rawInt _)) = true then _ else _) Q E s
       rw [if_neg (by intro h; rw [hn,Bool.false_and] at h; cases h)]
       exact wpAny_pure hQ))
def Itl (K:PySem.W.Frag) (a:Addr):It :=
 ⟨fun i H=>∃ xs x,SqL K H a xs /\ xs[i]? = some x,fun i H x H'=>H' = H /\ ∀ xs,SqL K H a xs -> xs[i]? = some x,fun i H=>∃ xs,SqL K H a xs /\ xs.length <= i⟩
def Itt (K:PySem.W.Frag) (a:Addr):It :=
 ⟨fun i H=>∃ xs x,SqT K H a xs /\ xs[i]? = some x,fun i H x H'=>H' = H /\ ∀ xs,SqT K H a xs -> xs[i]? = some x,fun i H=>∃ xs,SqT K H a xs /\ xs.length <= i⟩
def Itr (lo:Int) (n:Nat):It:=⟨fun i _=>i < n,fun i H x H'=>H' = H /\ x = .int (lo + i),fun i _=>n <= i⟩
theorem turn_list {P:Program} {w:World} {K:PySem.W.Frag} {tg:Expr} (a it:Addr):Turn P w K tg (Itl K a) [it] it (fun i h=>h.IsListIter it a i) where
 mem:=by simp
 obj:=fun i h st b hb=>by
  have e:b = it:=by simpa using hb
  subst e
  obtain ⟨o,e,c,d⟩:=st
  exact ⟨o,e,fun v z=>by rw [d] at z; cases z⟩
 keep:=fun i h h' st k=>st.at fun o e=>k it (by simp) o e
 item:=by
  intro X hP hw hK hc i pins s σ H E I hf st hg
  subst hP hw hK
  obtain ⟨xs,x,hq,hx⟩:=hg
  obtain ⟨its,rv,p,hz⟩:=I.list hq
  obtain ⟨u,hu,ru⟩:=rv.get hx
  obtain ⟨f0,f1,f2,f3,f4,f5⟩:=hf it (by simp)
  refine wpAny_pyNext_list_item st p.isList (x:=u) (by simpa using hu) fun h' st' sb=>?_
  have I1:Inv X pins σ H { s with heap:=h' }:=I.turned (t':=s.toks) (fun b o hb e=>(sb.2 b hb).trans e) f0 f1 f3 f4 f5
  obtain ⟨o,e,c,d⟩:=id st'
  exact ⟨u,rfl,go_of (s:={ s with heap:=h' }) e c d (by decide) ⟨x,H,I1,ru,⟨rfl,fun ys hy=>by rw [I.list_inj hy hq]; exact hx⟩,st',fun b hb=>(hf b hb).1⟩⟩
 done:=by
  intro X hP hw hK hc i pins s σ H E I hf st hg
  subst hP hw hK
  obtain ⟨xs,hq,hx⟩:=hg
  obtain ⟨its,rv,p,hz⟩:=I.list hq
  obtain ⟨f0,f1,f2,f3,f4,f5⟩:=hf it (by simp)
  have hl:=rv.length
  exact wpAny_pyNext_list_end (I.ok.hd hc) st p.isList (by simp; lia) fun h' eb=>⟨rfl,I.turned (t':=s.toks) (fun b o hb e=>eb b o hb e) f0 f1 f3 f4 f5⟩
 self:=fun _ _ _ _ _ st h=>wpAny_pyIter_listiter st h
theorem turn_tuple {P:Program} {w:World} {K:PySem.W.Frag} {tg:Expr} (a it:Addr):Turn P w K tg (Itt K a) [it] it (fun i h=>h.IsTupleIter it a i) where
 mem:=by simp
 obj:=fun i h st b hb=>by
  have e:b = it:=by simpa using hb
  subst e
  obtain ⟨o,e,c,d⟩:=st
  exact ⟨o,e,fun v z=>by rw [d] at z; cases z⟩
 keep:=fun i h h' st k=>st.at fun o e=>k it (by simp) o e
 item:=by
  intro X hP hw hK hc i pins s σ H E I hf st hg
  subst hP hw hK
  obtain ⟨xs,x,hq,hx⟩:=hg
  obtain ⟨its,rv,p,hz⟩:=I.tuple hq
  obtain ⟨u,hu,ru⟩:=rv.get hx
  obtain ⟨f0,f1,f2,f3,f4,f5⟩:=hf it (by simp)
  refine wpAny_pyNext_tuple_item st (show s.heap.IsTuple a its.toArray from p) (x:=u) (by simpa using hu) fun h' st' sb=>?_
  have I1:Inv X pins σ H { s with heap:=h' }:=I.turned (t':=s.toks) (fun b o hb e=>(sb.2 b hb).trans e) f0 f1 f3 f4 f5
  obtain ⟨o,e,c,d⟩:=id st'
  exact ⟨u,rfl,go_of (s:={ s with heap:=h' }) e c d (by decide) ⟨x,H,I1,ru,⟨rfl,fun ys hy=>by rw [I.tuple_inj hy hq]; exact hx⟩,st',fun b hb=>(hf b hb).1⟩⟩
 done:=by
  intro X hP hw hK hc i pins s σ H E I hf st hg
  subst hP hw hK
  obtain ⟨xs,hq,hx⟩:=hg
  obtain ⟨its,rv,p,hz⟩:=I.tuple hq
  obtain ⟨f0,f1,f2,f3,f4,f5⟩:=hf it (by simp)
  have hl:=rv.length
  exact wpAny_pyNext_tuple_end (I.ok.hd hc) st (show s.heap.IsTuple a its.toArray from p) (by simp; lia) fun h' eb=>⟨rfl,I.turned (t':=s.toks) (fun b o hb e=>eb b o hb e) f0 f1 f3 f4 f5⟩
 self:=fun _ _ _ _ _ st h=>wpAny_pyIter_tupleiter st h
theorem turn_range {P:Program} {w:World} {K:PySem.W.Frag} {tg:Expr} (it:Addr) (lo:Int) (n:Nat):Turn P w K tg (Itr lo n) [it] it (fun i h=>IsRangeIter h it (lo + (i:Nat) * 1) ((n:Int) - (i:Nat)) 1) where
 mem:=by simp
 obj:=fun i h st b hb=>by
  have e:b = it:=by simpa using hb
  subst e
  exact ⟨_,st,fun v z=>by
   have z':Data.fields _ = Data.cell v:=z
   cases z'⟩
 keep:=fun i h h' st k=>k it (by simp) _ st
 item:=by
  intro X hP hw hK hc i pins s σ H E I hf st hg
  subst hP hw hK
  obtain ⟨f0,f1,f2,f3,f4,f5⟩:=hf it (by simp)
  have W:=Walks.range (prog:=X.prog) (w:=X.w) (I.ok.hd hc) it lo 1 n
  refine W.item i s _ _ hg st fun v h' tk hv st' kk=>?_
  obtain ⟨t,rfl⟩:=hv
  have I1:Inv X pins σ H { s with heap:=h',toks:=tk }:=I.turned (fun b o hb e=>kk b o (by simpa using hb) e) f0 f1 f3 f4 f5
  refine ⟨_,rfl,go_of (s:={ s with heap:=h',toks:=tk }) (n:="range_iterator") st' rfl rfl (by decide) ⟨.int (lo + i),H,I1,⟨t,?_⟩,⟨rfl,rfl⟩,st',fun b hb=>(hf b hb).1⟩⟩
  rw [Int.mul_one]
 done:=by
  intro X hP hw hK hc i pins s σ H E I hf st hg
  subst hP hw hK
  obtain ⟨f0,f1,f2,f3,f4,f5⟩:=hf it (by simp)
  exact wpAny_pyNext_range_end (I.ok.hd hc) st (by have:n <= i:=hg; lia) fun h' eb=>⟨rfl,I.turned (t':=s.toks) (fun b o hb e=>eb b o hb e) f0 f1 f3 f4 f5⟩
 self:=fun _ _ _ _ _ st h=>wpAny_pyIter_rangeiter st h
end L2
namespace L2
open PySem PySem.Spec PyProof.Rows
section
variable {X:Cx} {tg:Expr}
def iList (K:PySem.W.Frag) (tl:TE):TI:=fun σ H R=>tl σ H fun x H1=>∃ a,x = .ref a /\ (∃ xs,SqL K H1 a xs) /\ R (Itl K a) H1
def iTup (K:PySem.W.Frag) (tl:TE):TI:=fun σ H R=>tl σ H fun x H1=>∃ a,x = .ref a /\ (∃ xs,SqT K H1 a xs) /\ R (Itt K a) H1
theorem pi_list {l:Expr} {tl:TE} (hl:PE X l tl):PI X tg l (iList X.K tl):=by
 intro pins s σ H R I h
 refine thn (hl pins s σ H _ I h) fun v s1 ⟨x,H1,I1,r1,q1⟩=>?_
 obtain ⟨a,e,⟨xs,hq⟩,q⟩:=q1
 subst e
 cases r1
 obtain ⟨its,rv,p,hz⟩:=I1.list hq
 refine wpAny_pyIter_list p.isList ?_
 refine ⟨s1.heap.objs.size,[s1.heap.objs.size],_,_,H1,rfl,I1.kept (t':=s1.toks) fun b o e=>Heap.get?_push_of_some _ e,turn_list a _,⟨_,Heap.get?_push_size _ rfl,rfl,rfl⟩,fun b hb=>?_,q⟩
 have e:b = s1.heap.objs.size:=by simpa using hb
 subst e
 exact I1.fpOk (Nat.le_refl _) (I1.hok.fresh (Nat.le_refl _))
theorem pi_tup {l:Expr} {tl:TE} (hl:PE X l tl):PI X tg l (iTup X.K tl):=by
 intro pins s σ H R I h
 refine thn (hl pins s σ H _ I h) fun v s1 ⟨x,H1,I1,r1,q1⟩=>?_
 obtain ⟨a,e,⟨xs,hq⟩,q⟩:=q1
 subst e
 cases r1
 obtain ⟨its,rv,p,hz⟩:=I1.tuple hq
 refine wpAny_pyIter_tuple (show s1.heap.IsTuple a its.toArray from p) ?_
 refine ⟨s1.heap.objs.size,[s1.heap.objs.size],_,_,H1,rfl,I1.kept (t':=s1.toks) fun b o e=>Heap.get?_push_of_some _ e,turn_tuple a _,⟨_,Heap.get?_push_size _ rfl,rfl,rfl⟩,fun b hb=>?_,q⟩
 have e:b = s1.heap.objs.size:=by simpa using hb
 subst e
 exact I1.fpOk (Nat.le_refl _) (I1.hok.fresh (Nat.le_refl _))
theorem range_it {pins:List (Addr × Obj)} {σ:St} {H:Hp} {s:Shared} {R:It -> Hp -> Prop} {E:Value -> Shared -> Prop} {lo hi:Int} {t u v:Tok} {tk:Nat} (I:Inv X pins σ H s) (h1:-(2 ^ 62) <= lo) (h2:lo < 2 ^ 62) (h3:-(2 ^ 62) <= hi) (h4:hi < 2 ^ 62)
  (q:R (Itr lo (hi - lo).toNat) H):wpAny (model X.prog X.w) X.A (pyIter (.ref s.heap.objs.size)) (PIE X pins σ tg R) E { s with heap:=s.heap.push { cls:=.type "range",data:=.fields #[.int lo t,.int hi u,.int 1 v] },toks:=tk }:=by
 refine wpAny_pyIter_range (IsRange.new ..) (small_one h1 h2 h3 h4) ?_
 have I1:Inv X pins σ H { s with heap:=s.heap.push { cls:=.type "range",data:=.fields #[.int lo t,.int hi u,.int 1 v] },toks:=tk }:=I.kept fun b o e=>Heap.get?_push_of_some _ e
 refine ⟨(s.heap.push { cls:=.type "range",data:=.fields #[.int lo t,.int hi u,.int 1 v] }).objs.size,[(s.heap.push { cls:=.type "range",data:=.fields #[.int lo t,.int hi u,.int 1 v] }).objs.size],_,_,H,rfl,
  I1.kept (t':=tk) fun b o e=>Heap.get?_push_of_some _ e,turn_range _ lo (hi - lo).toNat,?_,fun b hb=>?_,q⟩
 ·have e1:lo + ((0:Nat):Int) * 1 = lo:=by simp
  have e2:(((hi - lo).toNat:Nat):Int) - ((0:Nat):Int) = Builtin.Range.rangeSize lo hi 1:=by rw [rangeSize_one]; split <;> lia
  show IsRangeIter _ _ (lo + ((0:Nat):Int) * 1) ((((hi - lo).toNat:Nat):Int) - ((0:Nat):Int)) 1
  rw [e1,e2]
  exact Heap.get?_push_size _ rfl
 ·have e:b = (s.heap.push { cls:=.type "range",data:=.fields #[.int lo t,.int hi u,.int 1 v] }).objs.size:=by simpa using hb
  subst e
  exact I1.fpOk (Nat.le_refl _) (I1.hok.fresh (Nat.le_refl _))
def iRng1 (ta:TA):TI:=fun σ H R=>ta σ H fun vs H1=>∃ j:Int,vs = [.int j] /\ -(2 ^ 62) <= j /\ j < 2 ^ 62 /\ R (Itr 0 j.toNat) H1
theorem pi_range1 {a:Expr} {ta:TA} {p pos:Pos} (hg:Gl X "range") (hm:X.mg "range" = none) (ha:PA X [a] ta) (hs:starEach [a] X.env = [(false,eval a X.env)]:=by rfl):PI X tg (.Call (.Name "range" p) [a] [] pos) (iRng1 ta):=by
 intro pins s σ H R I h
 refine Call_ (ld_blt I hg hm boot_range (PyProof.Rows.callWith_type1 (thn (ha pos pins s σ H _ I h) fun us s1 ⟨vs,H1,I1,r1,q1⟩=>?_) hs rfl))
 obtain ⟨j,e,q1,q2,q⟩:=q1
 subst e
 cases r1 with
 | cons r rr =>
  cases rr
  obtain ⟨t,rfl⟩:=r
  exact call_range_1 (range_it I1 (by lia) (by lia) q1 q2 (by simpa using q))
def tFor (wi:TI) (g:TG) (tb:TS):TS:=fun D σ H=>wi σ H fun J H1=>∃ W:Nat -> Nat -> St -> Hp -> Prop,(∃ m,W 0 m σ H1) /\ ∀ i m σ H,W i m σ H ->
 (J.stop i H /\ D.nx σ H) \/ (J.go i H /\ ∃ N:St -> Hp -> Prop,(∀ σ' H',N σ' H' -> ∃ m',m' < m /\ W (i + 1) m' σ' H') /\ ∀ x H',J.yld i H x H' -> g x σ H' fun σ2 H2=>tb { D with nx:=N,ct:=N,bk:=D.nx } σ2 H2)
def pinsAt (fp:List Addr) (h:Heap):List (Addr × Obj):=fp.filterMap fun b=>(h.get? b).map fun o=>(b,o)
theorem mem_pinsAt {fp:List Addr} {h:Heap} {b:Addr} {o:Obj} (hb:b ∈ fp) (e:h.get? b = some o):(b,o) ∈ pinsAt fp h:=List.mem_filterMap.mpr ⟨b,hb,by rw [e]; rfl⟩
theorem of_pinsAt {fp:List Addr} {h:Heap} {p:Addr × Obj} (hp:p ∈ pinsAt fp h):p.1 ∈ fp /\ h.get? p.1 = some p.2:=by
 obtain ⟨b,hb,e⟩:=List.mem_filterMap.mp hp
 cases q:h.get? b with
 | none=>rw [q] at e; cases e
 | some o =>
  rw [q] at e
  have e':(b,o) = p:=Option.some.inj e
  subst e'
  exact ⟨hb,q⟩
theorem Inv.pinned {pins:List (Addr × Obj)} {σ:St} {H:Hp} {s:Shared} {fp:List Addr} (I:Inv X pins σ H s) (hf:∀ b ∈ fp,FpOk X pins H b) (ho:∀ b ∈ fp,∃ o,s.heap.get? b = some o /\ ∀ v,o.data ≠ .cell v):Inv X (pins ++ pinsAt fp s.heap) σ H s :=
 I.pins_of fun p hp=>(List.mem_append.mp hp).elim (fun z=>I.pin p (List.mem_append_right _ z)) fun z=>by
  obtain ⟨hb,e⟩:=of_pinsAt z
  obtain ⟨f0,f1,f2,_⟩:=hf p.1 hb
  obtain ⟨o,e',d⟩:=ho p.1 hb
  rw [e] at e'; cases e'
  exact ⟨e,f0,f1,f2,d⟩
theorem Inv.unpinned {pins pl:List (Addr × Obj)} {σ:St} {H:Hp} {s:Shared} (I:Inv X (pins ++ pl) σ H s):Inv X pins σ H s:=I.pins_of fun p hp=>I.pin p (List.mem_append_right _ (List.mem_append_left _ hp))
theorem ps_for {iter:Expr} {body:List Stmt} {wi:TI} {g:TG} {tb:TS} {pos:Pos} (hp:PassesOwn (model X.prog X.w) X.A X.env X.xe) (hc:X.calm = true) (hi:PI X tg iter wi) (hg:PG X tg g) (hb:PSs X body tb)
  (hs:∀ x,foldedSetIterable iter X.env x = pure x:=by intro _; rfl):PS X (.For tg iter body [] pos) (tFor wi g tb):=by
 intro pins s σ H D I h
 refine wpAny_For (thn (hi pins s σ H _ I h) fun v s1 h1=>thn h1 fun itv s2 h2=>?_) hs
 obtain ⟨it,fp,tn,J,H2,e,I2,T,st2,f2,W,⟨m0,w0⟩,turn⟩:=h2
 subst e
 have stat:∀ {H':Hp},(∀ b ∈ fp,H' b = none) -> ∀ b ∈ fp,FpOk X pins H' b:=fun hn b hb=>⟨hn b hb,(f2 b hb).2⟩
 refine codeAny_forLoop_any (fun n s'=>∃ i σ' H',Inv X pins σ' H' s' /\ tn i s'.heap /\ (∀ b ∈ fp,H' b = none) /\ W i n σ' H') ?_ m0 ⟨0,σ,H2,I2,st2,fun b hb=>(f2 b hb).1,w0⟩
 rintro n s3 ⟨i,σ3,H3,I3,st3,fr3,w3⟩
 rcases turn i n σ3 H3 w3 with ⟨stop,qn⟩ | ⟨go,N,hN,step⟩
 ·refine wpAny_passesOwn hp (thn (T.done X rfl rfl rfl hc i pins s3 σ3 H3 X.xe I3 (stat fr3) st3 stop) fun r s4 ⟨hr,I4⟩=>?_)
  subst hr
  exact wpAny_execs_nil ⟨σ3,H3,I4,qn⟩
 ·refine wpAny_passesOwn hp (thn (T.item X rfl rfl rfl hc i pins s3 σ3 H3 X.xe I3 (stat fr3) st3 go) fun r s4 ⟨u,hr,h4⟩=>?_)
  subst hr
  refine wpAny_passesOwn hp (thn h4 fun _ s5 ⟨x,H5,I5,r5,y5,st5,fr5⟩=>?_)
  have I5':=I5.pinned (stat fr5) (T.obj _ _ st5)
  refine wpAny_passesOwn hp (thn (hg _ s5 σ3 H5 x u _ I5' r5 (step x H5 y5)) fun _ s6 ⟨σ6,H6,I6,q6⟩=>?_)
  refine wpAny_passesOwn hp (thn (hb _ s6 σ6 H6 _ I6 q6) fun f s7 q7=>?_)
  have again:∀ {σ7:St} {H7:Hp},Inv X (pins ++ pinsAt fp s5.heap) σ7 H7 s7 -> N σ7 H7 -> ∃ m,m < n /\ ∃ i σ' H',Inv X pins σ' H' s7 /\ tn i s7.heap /\ (∀ b ∈ fp,H' b = none) /\ W i m σ' H':=fun {σ7 H7} I7 n7=>by
   obtain ⟨m',hm,w7⟩:=hN σ7 H7 n7
   refine ⟨m',hm,i + 1,σ7,H7,I7.unpinned,T.keep _ _ _ st5 fun b hb o e=>(I7.pin (b,o) (List.mem_append_right _ (List.mem_append_right _ (mem_pinsAt hb e)))).1,fun b hb=>?_,w7⟩
   obtain ⟨o,e,d⟩:=T.obj _ _ st5 b hb
   exact (I7.pin (b,o) (List.mem_append_right _ (List.mem_append_right _ (mem_pinsAt hb e)))).2.1
  cases f with
  | next=>obtain ⟨σ7,H7,I7,n7⟩:=q7; exact again I7 n7
  | cont=>obtain ⟨σ7,H7,I7,n7⟩:=q7; exact again I7 n7
  | brk=>obtain ⟨σ7,H7,I7,q7⟩:=q7; exact ⟨σ7,H7,I7.unpinned,q7⟩
  | ret v=>obtain ⟨x7,σ7,H7,I7,r7,q7⟩:=q7; exact ⟨x7,σ7,H7,I7.unpinned,r7,q7⟩
end
end L2
namespace L2
open PySem PySem.Spec PyProof.Rows
abbrev R2:=V -> V -> Hp -> VK -> Prop
def OpR (X:Cx) (f:Value -> Value -> Sem Value) (r:R2):Prop :=
 ∀ (pins:List (Addr × Obj)) (s:Shared) (σ:St) (H:Hp) (x y:V) (v u:Value) (Q:VK),Inv X pins σ H s -> RelV x v -> RelV y u -> r x y H Q ->
  wpAny (model X.prog X.w) X.A (f v u) (EP X pins σ Q) X.xe s
def UnR (X:Cx) (f:Value -> Sem Value) (r:V -> Hp -> VK -> Prop):Prop :=
 ∀ (pins:List (Addr × Obj)) (s:Shared) (σ:St) (H:Hp) (x:V) (v:Value) (Q:VK),Inv X pins σ H s -> RelV x v -> r x H Q ->
  wpAny (model X.prog X.w) X.A (f v) (EP X pins σ Q) X.xe s
def CallR (X:Cx) (f:Value) (r:List V -> Hp -> VK -> Prop):Prop :=
 ∀ (pins:List (Addr × Obj)) (s:Shared) (σ:St) (H:Hp) (xs:List V) (us:List Value) (Q:VK),Inv X pins σ H s -> Vals xs us -> r xs H Q ->
  wpAny (model X.prog X.w) X.A (call f us) (EP X pins σ Q) X.xe s
def TruR (X:Cx) (r:V -> Hp -> (Bool -> Hp -> Prop) -> Prop):Prop :=
 ∀ (pins:List (Addr × Obj)) (s:Shared) (σ:St) (H:Hp) (x:V) (v:Value) (Q:Bool -> Hp -> Prop),Inv X pins σ H s -> RelV x v -> r x H Q ->
  wpAny (model X.prog X.w) X.A (truthy v) (TP X pins σ Q) X.xe s
def tOp (r:R2) (ta tb:TE):TE:=fun σ H Q=>ta σ H fun x H1=>tb σ H1 fun y H2=>r x y H2 Q
def tUn (r:V -> Hp -> VK -> Prop) (ta:TE):TE:=fun σ H Q=>ta σ H fun x H1=>r x H1 Q
def rI (C:Int -> Int -> Prop) (g:Int -> Int -> V):R2:=fun x y H Q=>∃ i j,x = .int i /\ y = .int j /\ C i j /\ Q (g i j) H
def rI0 (g:Int -> Int -> V):R2:=fun x y H Q=>∃ i j,x = .int i /\ y = .int j /\ Q (g i j) H
def rU (g:Int -> V):V -> Hp -> VK -> Prop:=fun x H Q=>∃ i,x = .int i /\ Q (g i) H
section
variable {X:Cx} {a b c:Expr} {ta tb tc:TE} {pos:Pos}
theorem binT (ha:PE X a ta) (hb:PE X b tb) {pins:List (Addr × Obj)} {s:Shared} {σ:St} {H:Hp} {R:V -> V -> Hp -> Prop} (I:Inv X pins σ H s)
  (h:ta σ H fun x H1=>tb σ H1 fun y H2=>R x y H2) {Q:Value -> Shared -> Prop} {f:Value -> Value -> Sem Value}
  (hf:∀ v u s2 x y H2,Inv X pins σ H2 s2 -> RelV x v -> RelV y u -> R x y H2 -> wpAny (model X.prog X.w) X.A (f v u) Q X.xe s2) :
  wpAny (model X.prog X.w) X.A (eval a X.env) (fun v s₁=>wpAny (model X.prog X.w) X.A (eval b X.env) (fun u s₂=>wpAny (model X.prog X.w) X.A (f v u) Q X.xe s₂) X.xe s₁) X.xe s:=by
 refine thn (ha pins s σ H _ I h) fun v s1 ⟨x,H1,I1,r1,q1⟩=>?_
 refine thn (hb pins s1 σ H1 _ I1 q1) fun u s2 ⟨y,H2,I2,r2,q2⟩=>?_
 exact hf v u s2 x y H2 I2 r1 r2 q2
theorem pe_op {op:Operator} {r:R2} (ho:OpR X (binaryOp op) r) (ha:PE X a ta) (hb:PE X b tb):PE X (.BinOp a op b pos) (tOp r ta tb):=by
 intro pins s σ H Q I h
 exact wpAny_BinOp (binT ha hb I h fun v u s2 x y H2 I2 rx ry q=>ho pins s2 σ H2 x y v u Q I2 rx ry q)
theorem pe_un {op:UnaryOp} {r:V -> Hp -> VK -> Prop} (ho:UnR X (unaryOp op) r) (ha:PE X a ta):PE X (.UnaryOp op a pos) (tUn r ta):=by
 intro pins s σ H Q I h
 exact UnaryOp_ (thn (ha pins s σ H _ I h) fun v s1 ⟨x,H1,I1,r1,q1⟩=>ho pins s1 σ H1 x v Q I1 r1 q1)
theorem opI {f:Value -> Value -> Sem Value} {C:Int -> Int -> Prop} {g:Int -> Int -> Int}
  (rule:∀ (i j:Int) (t u:Tok) (s:Shared) (Q:Value -> Shared -> Prop) (E:Value -> Shared -> Prop),C i j -> Q (.int (g i j) s.toks) { s with toks:=s.toks + 1 } -> wpAny (model X.prog X.w) X.A (f (.int i t) (.int j u)) Q E s) :
  OpR X f (rI C fun i j=>.int (g i j)):=by
 intro pins s σ H x y v u Q I rx ry h
 obtain ⟨i,j,rfl,rfl,hc,q⟩:=h
 obtain ⟨t,rfl⟩:=rx
 obtain ⟨t',rfl⟩:=ry
 exact rule i j t t' s _ _ hc ⟨.int (g i j),H,I.tok _,⟨_,rfl⟩,q⟩
theorem opI0 {f:Value -> Value -> Sem Value} {g:Int -> Int -> Int}
  (rule:∀ (i j:Int) (t u:Tok) (s:Shared) (Q:Value -> Shared -> Prop) (E:Value -> Shared -> Prop),Q (.int (g i j) s.toks) { s with toks:=s.toks + 1 } -> wpAny (model X.prog X.w) X.A (f (.int i t) (.int j u)) Q E s) :
  OpR X f (rI0 fun i j=>.int (g i j)):=by
 intro pins s σ H x y v u Q I rx ry h
 obtain ⟨i,j,rfl,rfl,q⟩:=h
 obtain ⟨t,rfl⟩:=rx
 obtain ⟨t',rfl⟩:=ry
 exact rule i j t t' s _ _ ⟨.int (g i j),H,I.tok _,⟨_,rfl⟩,q⟩
theorem opB0 {f:Value -> Value -> Sem Value} {g:Int -> Int -> Bool}
  (rule:∀ (i j:Int) (t u:Tok) (s:Shared) (Q:Value -> Shared -> Prop) (E:Value -> Shared -> Prop),Q (.bool (g i j)) s -> wpAny (model X.prog X.w) X.A (f (.int i t) (.int j u)) Q E s) :
  OpR X f (rI0 fun i j=>.bl (g i j)):=by
 intro pins s σ H x y v u Q I rx ry h
 obtain ⟨i,j,rfl,rfl,q⟩:=h
 obtain ⟨t,rfl⟩:=rx
 obtain ⟨t',rfl⟩:=ry
 exact rule i j t t' s _ _ ⟨.bl (g i j),H,I,rfl,q⟩
def CPow (i j:Int):Prop:=0 <= j /\ j <= 1000000 /\ i.natAbs < 2 ^ 64
def CMul (i j:Int):Prop:=(-(2 ^ 64) < i /\ i < 2 ^ 64) \/ (-(2 ^ 64) < j /\ j < 2 ^ 64)
theorem CMul.ok {i j:Int} (h:CMul i j):IntMulOk i j:=by
 rcases h with ⟨h1,h2⟩ | ⟨h1,h2⟩
 ·exact .of_left (intBits_le_64 h1 h2)
 ·exact .of_right (intBits_le_64 h1 h2)
theorem op_add:OpR X (binaryOp .Add) (rI0 fun i j=>.int (i + j)):=opI0 fun _ _ _ _ _ _ _ q=>add_int q
theorem op_sub:OpR X (binaryOp .Sub) (rI0 fun i j=>.int (i - j)):=opI0 fun _ _ _ _ _ _ _ q=>sub_int q
theorem op_mul:OpR X (binaryOp .Mult) (rI CMul fun i j=>.int (i * j)):=opI fun _ _ _ _ _ _ _ hc q=>mul_int q hc.ok
theorem op_mod:OpR X (binaryOp .Mod) (rI (fun _ j=>0 < j) fun i j=>.int (i % j)):=opI fun i j _ _ _ _ _ hc q=>by
 have h1:(0:Int) < j:=hc
 exact mod_int' (by lia) (by rw [Int.fmod_eq_emod_of_nonneg i (by lia)]; exact q)
theorem op_pow:OpR X (binaryOp .Pow) (rI CPow fun i j=>.int (i ^ j.toNat)):=opI fun _ _ _ _ _ _ _ hc q=>pow_int_small hc.1 hc.2.1 hc.2.2 q
theorem op_shl:OpR X (binaryOp .LShift) (rI CPow fun i j=>.int (i * 2 ^ j.toNat)):=opI fun _ _ _ _ _ _ _ hc q=>lshift_int_small hc.1 hc.2.1 hc.2.2 q
theorem op_and:OpR X (binaryOp .BitAnd) (rI0 fun i j=>.int (Builtin.bitAnd i j)):=opI0 fun _ _ _ _ _ _ _ q=>and_int q
theorem op_xor:OpR X (binaryOp .BitXor) (rI0 fun i j=>.int (Builtin.bitXor i j)):=opI0 fun _ _ _ _ _ _ _ q=>xor_int q
theorem unI {f:Value -> Sem Value} {g:Int -> Int}
  (rule:∀ (i:Int) (t:Tok) (s:Shared) (Q:Value -> Shared -> Prop) (E:Value -> Shared -> Prop),Q (.int (g i) s.toks) { s with toks:=s.toks + 1 } -> wpAny (model X.prog X.w) X.A (f (.int i t)) Q E s) :
  UnR X f (rU fun i=>.int (g i)):=by
 intro pins s σ H x v Q I rx h
 obtain ⟨i,rfl,q⟩:=h
 obtain ⟨t,rfl⟩:=rx
 exact rule i t s _ _ ⟨.int (g i),H,I.tok _,⟨_,rfl⟩,q⟩
theorem un_neg:UnR X (unaryOp .USub) (rU fun i=>.int (-i)):=unI fun _ _ _ _ _ q=>neg_int q
end
def scal:V -> V -> Bool
 | .non,.non=>true | .non,.int _=>true | .int _,.non=>true | .non,.bl _=>true | .bl _,.non=>true | .non,.str _=>true | .str _,.non=>true
 | .int _,.int _=>true | .bl _,.bl _=>true | .str _,.str _=>true | .byt _,.byt _=>true
 | .int _,.str _=>true | .str _,.int _=>true | .bl _,.str _=>true | .str _,.bl _=>true
 | _,_=>false
def rEq:R2:=fun x y H Q=>scal x y = true /\ Q (.bl (decide (x = y))) H
def rNe:R2:=fun x y H Q=>scal x y = true /\ Q (.bl (!decide (x = y))) H
theorem dec_int {i j:Int}:decide (V.int i = V.int j) = (i == j):=by
 rw [Bool.eq_iff_iff]
 simp
theorem dec_bl {i j:Bool}:decide (V.bl i = V.bl j) = (i == j):=by
 rw [Bool.eq_iff_iff]
 simp
theorem dec_str {i j:Str}:decide (V.str i = V.str j) = (i == j):=by
 rw [Bool.eq_iff_iff]
 simp
theorem dec_byt {i j:Array UInt8}:decide (V.byt i = V.byt j) = (i.toList == j.toList):=by
 rw [Bool.eq_iff_iff]
 cases i
 cases j
 simp
section
variable {X:Cx} {a b c:Expr} {ta tb tc:TE} {pos:Pos}
theorem fin_bl {pins:List (Addr × Obj)} {σ:St} {H:Hp} {s:Shared} {Q:VK} {k k':Bool} (I:Inv X pins σ H s) (q:Q (.bl k) H) (e:k = k'):EP X pins σ Q (.bool k') s:=by
 subst e
 exact ⟨.bl k,H,I,rfl,q⟩
theorem op_eq:OpR X (compareOp .Eq) rEq:=by
 intro pins s σ H x y v u Q I rx ry h
 obtain ⟨hs,q⟩:=h
 cases x with
 | non =>
  cases rx
  cases y with
  | non=>cases ry; exact PySem.EqNone.eq_none_none (fin_bl I q (by simp))
  | bl j=>cases ry; exact PySem.EqNone.eq_none_bool (fin_bl I q (by simp))
  | int j=>obtain ⟨t',rfl⟩:=ry; exact PySem.EqNone.eq_none_int (fin_bl I q (by simp))
  | str j=>obtain ⟨t',rfl⟩:=ry; exact PySem.EqNone.eq_none_str (fin_bl I q (by simp))
  | _=>exact absurd (show false = true from hs) Bool.false_ne_true
 | bl i =>
  cases rx
  cases y with
  | non=>cases ry; exact PySem.EqNone.eq_bool_none (fin_bl I q (by simp))
  | bl j=>cases ry; exact eq_bool (fin_bl I q dec_bl)
  | str j=>obtain ⟨t',rfl⟩:=ry; exact PySem.EqMixed.eq_bool_str (fin_bl I q (by simp))
  | _=>exact absurd (show false = true from hs) Bool.false_ne_true
 | int i =>
  obtain ⟨t,rfl⟩:=rx
  cases y with
  | non=>cases ry; exact PySem.EqNone.eq_int_none (fin_bl I q (by simp))
  | int j=>obtain ⟨t',rfl⟩:=ry; exact eq_int (fin_bl I q dec_int)
  | str j=>obtain ⟨t',rfl⟩:=ry; exact PySem.EqMixed.eq_int_str (fin_bl I q (by simp))
  | _=>exact absurd (show false = true from hs) Bool.false_ne_true
 | str i =>
  obtain ⟨t,rfl⟩:=rx
  cases y with
  | non=>cases ry; exact PySem.EqNone.eq_str_none (fin_bl I q (by simp))
  | bl j=>cases ry; exact PySem.EqMixed.eq_str_bool (fin_bl I q (by simp))
  | int j=>obtain ⟨t',rfl⟩:=ry; exact PySem.EqMixed.eq_str_int (fin_bl I q (by simp))
  | str j=>obtain ⟨t',rfl⟩:=ry; exact eq_str (fin_bl I q dec_str)
  | _=>exact absurd (show false = true from hs) Bool.false_ne_true
 | byt i =>
  obtain ⟨t,rfl⟩:=rx
  cases y with
  | byt j=>obtain ⟨t',rfl⟩:=ry; exact PySem.W.eq_bytes (fin_bl I q dec_byt)
  | _=>exact absurd (show false = true from hs) Bool.false_ne_true
 | _=>cases y <;> exact absurd (show false = true from hs) Bool.false_ne_true
theorem op_ne:OpR X (compareOp .NotEq) rNe:=by
 intro pins s σ H x y v u Q I rx ry h
 obtain ⟨hs,q⟩:=h
 cases x with
 | non =>
  cases rx
  cases y with
  | non=>cases ry; exact PySem.EqNone.ne_none_none (fin_bl I q (by simp))
  | bl j=>cases ry; exact PySem.EqNone.ne_none_bool (fin_bl I q (by simp))
  | int j=>obtain ⟨t',rfl⟩:=ry; exact PySem.EqNone.ne_none_int (fin_bl I q (by simp))
  | str j=>obtain ⟨t',rfl⟩:=ry; exact PySem.EqNone.ne_none_str (fin_bl I q (by simp))
  | _=>exact absurd (show false = true from hs) Bool.false_ne_true
 | bl i =>
  cases rx
  cases y with
  | non=>cases ry; exact PySem.EqNone.ne_bool_none (fin_bl I q (by simp))
  | bl j=>cases ry; exact ne_bool (fin_bl I q (congrArg not dec_bl))
  | str j=>obtain ⟨t',rfl⟩:=ry; exact PySem.EqMixed.ne_bool_str (fin_bl I q (by simp))
  | _=>exact absurd (show false = true from hs) Bool.false_ne_true
 | int i =>
  obtain ⟨t,rfl⟩:=rx
  cases y with
  | non=>cases ry; exact PySem.EqNone.ne_int_none (fin_bl I q (by simp))
  | int j=>obtain ⟨t',rfl⟩:=ry; exact ne_int (fin_bl I q (congrArg not dec_int))
  | str j=>obtain ⟨t',rfl⟩:=ry; exact PySem.EqMixed.ne_int_str (fin_bl I q (by simp))
  | _=>exact absurd (show false = true from hs) Bool.false_ne_true
 | str i =>
  obtain ⟨t,rfl⟩:=rx
  cases y with
  | non=>cases ry; exact PySem.EqNone.ne_str_none (fin_bl I q (by simp))
  | bl j=>cases ry; exact PySem.EqMixed.ne_str_bool (fin_bl I q (by simp))
  | int j=>obtain ⟨t',rfl⟩:=ry; exact PySem.EqMixed.ne_str_int (fin_bl I q (by simp))
  | str j=>obtain ⟨t',rfl⟩:=ry; exact ne_str (fin_bl I q (congrArg not dec_str))
  | _=>exact absurd (show false = true from hs) Bool.false_ne_true
 | byt i =>
  obtain ⟨t,rfl⟩:=rx
  cases y with
  | byt j=>obtain ⟨t',rfl⟩:=ry; exact PySem.W.ne_bytes (fin_bl I q (congrArg not dec_byt))
  | _=>exact absurd (show false = true from hs) Bool.false_ne_true
 | _=>cases y <;> exact absurd (show false = true from hs) Bool.false_ne_true
theorem op_lt:OpR X (compareOp .Lt) (rI0 fun i j=>.bl (decide (i < j))):=opB0 fun _ _ _ _ _ _ _ q=>lt_int q
theorem op_le:OpR X (compareOp .LtE) (rI0 fun i j=>.bl (decide (i <= j))):=opB0 fun _ _ _ _ _ _ _ q=>le_int q
theorem op_gt:OpR X (compareOp .Gt) (rI0 fun i j=>.bl (decide (j < i))):=opB0 fun _ _ _ _ _ _ _ q=>gt_int q
theorem op_ge:OpR X (compareOp .GtE) (rI0 fun i j=>.bl (decide (j <= i))):=opB0 fun _ _ _ _ _ _ _ q=>ge_int q
theorem op_lt_str:OpR X (compareOp .Lt) (fun x y H Q=>∃ i j,x = .str i /\ y = .str j /\ Q (.bl (decide (i.cps.toList < j.cps.toList))) H):=by
 intro pins s σ H x y v u Q I rx ry h
 obtain ⟨i,j,rfl,rfl,q⟩:=h
 obtain ⟨t,rfl⟩:=rx
 obtain ⟨t',rfl⟩:=ry
 exact lt_str (fin_bl I q rfl)
theorem op_notN:OpR X (compareOp .IsNot) (fun x y H Q=>y = .non /\ Q (.bl (!decide (x = .non))) H):=by
 intro pins s σ H x y v u Q I rx ry h
 obtain ⟨rfl,q⟩:=h
 cases ry
 refine isnot_none_gen (fin_bl I q ?_)
 cases x <;> first
  | (cases rx; rfl)
  | (obtain ⟨t,rfl⟩:=rx; rfl)
theorem OpR.or {f:Value -> Value -> Sem Value} {r r':R2} (h:OpR X f r) (h':OpR X f r'):OpR X f (fun x y H Q=>r x y H Q \/ r' x y H Q):=by
 intro pins s σ H x y v u Q I rx ry q
 rcases q with q | q
 ·exact h pins s σ H x y v u Q I rx ry q
 ·exact h' pins s σ H x y v u Q I rx ry q
theorem nomark (b:Expr) {op:CmpOp} (h:op ≠ .In:=by decide) (h2:op ≠ .NotIn:=by decide):behindInMarks op b = false:=by
 have e1:(op == CmpOp.In) = false:=by cases op <;> first | rfl | exact absurd rfl h
 have e2:(op == CmpOp.NotIn) = false:=by cases op <;> first | rfl | exact absurd rfl h2
 cases b <;> simp [behindInMarks,e1,e2]
theorem pe_cmpR {op:CmpOp} {r:R2} (ho:OpR X (compareOp op) r) (ha:PE X a ta) (hb:PE X b tb) (hm:behindInMarks op b = false):PE X (.Compare a [op] [b] pos) (tOp r ta tb):=by
 intro pins s σ H Q I h
 exact wpAny_Compare1 (binT ha hb I h fun v u s2 x y H2 I2 rx ry q=>ho pins s2 σ H2 x y v u Q I2 rx ry q) hm
def tTest (t:TE):TT:=fun σ H Q=>t σ H fun x H'=>∃ k,x = .bl k /\ Q k H'
theorem pt_cmpR {op:CmpOp} {r:R2} (ho:OpR X (compareOp op) r) (ha:PE X a ta) (hb:PE X b tb) (hm:behindInMarks op b = false):PT X (.Compare a [op] [b] pos) (tTest (tOp r ta tb)):=by
 intro pins s σ H Q I h
 refine wpAny_isTrue_Compare1 (thn (ha pins s σ H _ I h) fun v s1 ⟨x,H1,I1,r1,q1⟩=>thn (hb pins s1 σ H1 _ I1 q1) fun u s2 ⟨y,H2,I2,r2,q2⟩ =>
  thn (ho pins s2 σ H2 x y v u _ I2 r1 r2 q2) fun c s3 ⟨z,H3,I3,r3,k,e,q3⟩=>?_) hm
 subst e
 cases r3
 exact wpAny_truthy_bool ⟨H3,I3,q3⟩
def tChain (r r':R2) (ta tb tc:TE):TE:=fun σ H Q=>ta σ H fun x H1=>tb σ H1 fun y H2=>r x y H2 fun z H3=>∃ k,z = .bl k /\
 (if k = true then tc σ H3 fun w' H4=>r' y w' H4 Q else Q (.bl false) H3)
theorem pt_chain {op op':CmpOp} {r r':R2} (ho:OpR X (compareOp op) r) (ho':OpR X (compareOp op') r') (ha:PE X a ta) (hb:PE X b tb) (hc:PE X c tc)
  (hm:lastMarks [op,op'] [b,c] = false:=by with_unfolding_all rfl):PT X (.Compare a [op,op'] [b,c] pos) (tTest (tChain r r' ta tb tc)):=by
 intro pins s σ H Q I h
 refine isTrue_chain (thn (ha pins s σ H _ I h) fun v s1 ⟨x,H1,I1,r1,q1⟩=>test_link (thn (hb pins s1 σ H1 _ I1 q1) fun u s2 ⟨y,H2,I2,r2,q2⟩ =>
  thn (ho pins s2 σ H2 x y v u _ I2 r1 r2 q2) fun d s3 ⟨z,H3,I3,r3,k,e,q3⟩=>?_)) hm
 subst e
 cases r3
 refine wpAny_truthy_bool ?_
 cases k with
 | false =>
  obtain ⟨k',e',q'⟩:=q3
  cases e'
  exact ite_ff ⟨H3,I3,q'⟩
 | true =>
  refine ite_tt (test_last (thn (hc pins s3 σ H3 _ I3 q3) fun w' s4 ⟨z',H4,I4,r4,q4⟩=>thn (ho' pins s4 σ H4 y z' u w' _ I4 r2 r4 q4) fun d' s5 ⟨z2,H5,I5,r5,k2,e2,q5⟩=>?_))
  subst e2
  cases r5
  exact wpAny_truthy_bool ⟨H5,I5,q5⟩
def TruV (K:PySem.W.Frag) (x:V) (H:Hp) (k:Bool):Prop :=
 match x with
 | .non=>k = false
 | .bl b=>k = b
 | .int i=>k = (i != 0)
 | .str y=>y.length <= sizeLine /\ k = ((y.length:Int) != 0)
 | .byt y=>y.size <= sizeLine /\ k = ((y.size:Int) != 0)
 | .ref p=>(∃ xs,SqL K H p xs /\ k = !xs.isEmpty) \/ (∃ xs,SqT K H p xs /\ k = !xs.isEmpty) \/ ∃ kvs,H p = some (.dK kvs) /\ k = !kvs.isEmpty
 | _=>False
theorem isEmpty_kv {κ:Type} {kvs:List (κ × V)} {vs:List (κ × Value)} (r:KV kvs vs):(!vs.isEmpty) = !kvs.isEmpty:=by
 cases r <;> rfl
theorem isEmpty_of {xs:List V} {its:List Value} (r:Vals xs its):(!its.toArray.isEmpty) = !xs.isEmpty:=by
 cases r <;> simp
theorem line63:(sizeLine:Nat) < 2 ^ 63:=by rw [sizeLine_eq]; decide
theorem tru_ok:TruR X (fun x H Q=>∃ k,TruV X.K x H k /\ Q k H):=by
 intro pins s σ H x v Q I rx h
 obtain ⟨k,e,q⟩:=h
 have hl:=line63
 have hs:sizeLine = 16777216:=sizeLine_eq
 cases x with
 | non =>
  cases rx
  have e':k = false:=e
  subst e'
  exact truthy_none ⟨H,I,q⟩
 | bl b =>
  cases rx
  have e':k = b:=e
  subst e'
  exact wpAny_truthy_bool ⟨H,I,q⟩
 | int i =>
  obtain ⟨t,rfl⟩:=rx
  have e':k = (i != 0):=e
  subst e'
  exact PySem.P.truthy_int ⟨H,I,q⟩
 | str y =>
  obtain ⟨t,rfl⟩:=rx
  obtain ⟨hy,e'⟩:y.length <= sizeLine /\ k = ((y.length:Int) != 0):=e
  subst e'
  exact PySem.P.truthy_str (by lia) ⟨H,I.tok _,q⟩
 | byt y =>
  obtain ⟨t,rfl⟩:=rx
  obtain ⟨hy,e'⟩:y.size <= sizeLine /\ k = ((y.size:Int) != 0):=e
  subst e'
  exact PySem.W.truthy_bytes (by lia) ⟨H,I.tok _,q⟩
 | ref p =>
  cases rx
  have e':(∃ xs,SqL X.K H p xs /\ k = !xs.isEmpty) \/ (∃ xs,SqT X.K H p xs /\ k = !xs.isEmpty) \/ ∃ kvs,H p = some (.dK kvs) /\ k = !kvs.isEmpty:=e
  rcases e' with ⟨xs,hx,e'⟩ | ⟨xs,hx,e'⟩ | ⟨kvs,hx,e'⟩
  ·subst e'
   obtain ⟨its,r,pl,hz⟩:=I.list hx
   have hlen:=r.length
   exact wpAny_truthy_list pl.isList (by simp only [List.size_toArray]; lia) ⟨H,I.tok _,by rw [isEmpty_of r]; exact q⟩
  ·subst e'
   obtain ⟨its,r,pl,hz⟩:=I.tuple hx
   have hlen:=r.length
   exact truthy_tuple pl (by simp only [List.size_toArray]; lia) ⟨H,I.tok _,by rw [isEmpty_of r]; exact q⟩
  ·subst e'
   obtain ⟨hz,hS,vs,r,m⟩:kvs.length <= sizeLine /\ (p == sysModules) = false /\ ∃ vs,KV kvs vs /\ s.heap.DictOf (mixKind X.prog X.w) p vs:=I.hok p _ hx
   have hlen:kvs.length = vs.length:=Paired.length r
   exact wpAny_truthy_dict hS m (by lia) ⟨H,I.tok _,by rw [isEmpty_kv r]; exact q⟩
 | _=>exact (show False from e).elim
theorem pt_truth (ha:PE X a ta) (he:∀ whole,isTrue a X.env whole = (do let v <- whole; standAt a.pos; holding [v] (truthy v))) :
  PT X a (fun σ H Q=>ta σ H fun x H'=>∃ k,TruV X.K x H' k /\ Q k H'):=by
 intro pins s σ H Q I h
 exact isTrue_plain (thn (ha pins s σ H _ I h) fun v s1 ⟨x,H1,I1,r1,q1⟩=>tru_ok pins s1 σ H1 x v Q I1 r1 q1) (he _)
theorem op_add_str:OpR X (binaryOp .Add) (fun x y H Q=>∃ i j,x = .str i /\ y = .str j /\ i.length + j.length <= sizeLine /\ Q (.str (i ++ j)) H):=by
 intro pins s σ H x y v u Q I rx ry h
 obtain ⟨i,j,rfl,rfl,hz,q⟩:=h
 obtain ⟨t,rfl⟩:=rx
 obtain ⟨t',rfl⟩:=ry
 exact add_str (fun t' tk=>⟨.str (i ++ j),H,I.tok _,⟨_,rfl⟩,q⟩) hz
theorem vals1 {x:V} {us:List Value} (r:Vals [x] us):∃ u,us = [u] /\ RelV x u:=by
 cases r with
 | cons r1 r2=>cases r2; exact ⟨_,rfl,r1⟩
theorem vals2 {x y:V} {us:List Value} (r:Vals [x,y] us):∃ u w',us = [u,w'] /\ RelV x u /\ RelV y w':=by
 cases r with
 | cons r1 r2 =>
  cases r2 with
  | cons r3 r4=>cases r4; exact ⟨_,_,rfl,r1,r3⟩
theorem call_max2 (hc:X.calm = true):CallR X (.builtin "max") (fun xs H Q=>∃ i j,xs = [.int i,.int j] /\ Q (.int (if j > i then j else i)) H):=by
 intro pins s σ H xs us Q I r h
 obtain ⟨i,j,rfl,q⟩:=h
 obtain ⟨u,w',rfl,⟨t,rfl⟩,⟨t',rfl⟩⟩:=vals2 r
 refine max_two_ints (I.ok.hd hc) fun h' tk k=>⟨_,H,I.kept k,?_,q⟩
 by_cases hj:j > i
 ·rw [if_pos hj,if_pos hj]; exact ⟨_,rfl⟩
 ·rw [if_neg hj,if_neg hj]; exact ⟨_,rfl⟩
theorem call_min2 (hc:X.calm = true):CallR X (.builtin "min") (fun xs H Q=>∃ i j,xs = [.int i,.int j] /\ Q (.int (if j < i then j else i)) H):=by
 intro pins s σ H xs us Q I r h
 obtain ⟨i,j,rfl,q⟩:=h
 obtain ⟨u,w',rfl,⟨t,rfl⟩,⟨t',rfl⟩⟩:=vals2 r
 refine min_two_ints (I.ok.hd hc) fun h' tk k=>⟨_,H,I.kept k,?_,q⟩
 by_cases hj:j < i
 ·rw [if_pos hj,if_pos hj]; exact ⟨_,rfl⟩
 ·rw [if_neg hj,if_neg hj]; exact ⟨_,rfl⟩
theorem call_int1:CallR X (.type "int") (fun xs H Q=>(∃ i,xs = [.int i] /\ Q (.int i) H) \/ ∃ k,xs = [.bl k] /\ Q (.int (if k then 1 else 0)) H):=by
 intro pins s σ H xs us Q I r h
 rcases h with ⟨i,rfl,q⟩ | ⟨k,rfl,q⟩
 ·obtain ⟨u,rfl,t,rfl⟩:=vals1 r
  exact call_int_int ⟨.int i,H,I,⟨_,rfl⟩,q⟩
 ·obtain ⟨u,rfl,r1⟩:=vals1 r
  cases r1
  exact call_int_bool ⟨.int (if k then 1 else 0),H,I.tok _,⟨_,rfl⟩,q⟩
def LenV (K:PySem.W.Frag) (x:V) (H:Hp) (n:Nat):Prop :=
 match x with
 | .str y=>y.length <= sizeLine /\ n = y.length
 | .byt y=>y.size <= sizeLine /\ n = y.size
 | .ref p=>(∃ xs,SqL K H p xs /\ n = xs.length) \/ ∃ xs,SqT K H p xs /\ n = xs.length
 | _=>False
theorem call_len:CallR X (.builtin "len") (fun xs H Q=>∃ x n,xs = [x] /\ LenV X.K x H n /\ Q (.int n) H):=by
 intro pins s σ H xs us Q I r h
 obtain ⟨x,n,rfl,e,q⟩:=h
 obtain ⟨u,rfl,rx⟩:=vals1 r
 have hl:=line63
 have hs:sizeLine = 16777216:=sizeLine_eq
 cases x with
 | str y =>
  obtain ⟨t,rfl⟩:=rx
  obtain ⟨hy,e'⟩:y.length <= sizeLine /\ n = y.length:=e
  subst e'
  exact len_str (by lia) ⟨.int _,H,I.tok _,⟨_,rfl⟩,q⟩
 | byt y =>
  obtain ⟨t,rfl⟩:=rx
  obtain ⟨hy,e'⟩:y.size <= sizeLine /\ n = y.size:=e
  subst e'
  exact PySem.W.len_bytes (by lia) ⟨.int _,H,I.tok _,⟨_,rfl⟩,q⟩
 | ref p =>
  cases rx
  have e':(∃ xs,SqL X.K H p xs /\ n = xs.length) \/ ∃ xs,SqT X.K H p xs /\ n = xs.length:=e
  rcases e' with ⟨xs,hx,e'⟩ | ⟨xs,hx,e'⟩
  ·subst e'
   obtain ⟨its,r',pl,hz⟩:=I.list hx
   have hlen:=r'.length
   exact Calls.call_len_list pl.isList (by simp only [List.size_toArray]; lia) ⟨.int xs.length,H,I.tok _,⟨_,by simp only [List.size_toArray]; rw [hlen]⟩,q⟩
  ·subst e'
   obtain ⟨its,r',pl,hz⟩:=I.tuple hx
   have hlen:=r'.length
   exact len_tuple pl (by simp only [List.size_toArray]; lia) ⟨.int xs.length,H,I.tok _,⟨_,by simp only [List.size_toArray]; rw [hlen]⟩,q⟩
 | _=>exact (show False from e).elim
end
end L2
namespace L2
open PySem PySem.Spec PyProof.Rows
structure ObjM (h:Heap) (x dx C:Addr) (mA:Str -> Option Value):Prop where
 obj:h.get? x = some (PySem.W.instObj C dx)
 ns:h.Ns1 dx mA
 ne:dx ≠ x
structure Cls (K:PySem.W.Frag) (C:Addr):Prop where
 pg:PySem.W.plainGet K C Str.empty = true
 hd:PySem.W.hasDictIn K C = true
 po:PySem.W.plainOver K C = true
 sa:PySem.W.findIn K (.ref C) "__setattr__" = some (some (.builtin "object.__setattr__"))
structure Con (K:PySem.W.Frag) (C:Addr) (f:Str) (v:V) (u:Value):Prop where
 at_:PySem.W.findIn K (.ref C) f = some (some u)
 rel:RelV v u
 get:PySem.W.specialIn K u "__get__" = some none
 cp:PySem.W.copiedNames.contains f = false
structure Meth (K:PySem.W.Frag) (C:Addr) (m:Str) (f:Addr):Prop where
 at_:PySem.W.findIn K (.ref C) m = some (some (.ref f))
 fn:PySem.W.isFn K (.ref f) = true
 kp:PySem.W.keepIn K (.ref f) = true
section
variable {X:Cx} {pins:List (Addr × Obj)} {σ:St} {H:Hp} {s:Shared} {A:Around} {E:Value -> Shared -> Prop} {Q:Value -> Shared -> Prop} {c:Value} {b:Bool}
inductive TyOf (K:PySem.W.Frag) (H:Hp):V -> Value -> Prop where
 | non:TyOf K H .non (.type "NoneType")
 | bl (x:Bool):TyOf K H (.bl x) (.type "bool")
 | int (i:Int):TyOf K H (.int i) (.type "int")
 | str (x:Str):TyOf K H (.str x) (.type "str")
 | flt (x:UInt64):TyOf K H (.flt x) (.type "float")
 | lst {a:Addr} {xs:List V} (e:H a = some (.lst xs)):TyOf K H (.ref a) (.type "list")
 | frz {a:Addr} {o:Obj} {xs:List V} (e:H a = some (.frz o (.lst xs))):TyOf K H (.ref a) (.type "list")
 | tup {a:Addr} {xs:List V} (e:H a = some (.tup xs)):TyOf K H (.ref a) (.type "tuple")
 | dK {a:Addr} {kvs:List (Key × V)} (e:H a = some (.dK kvs)):TyOf K H (.ref a) (.type "dict")
 | dT {a:Addr} {kvs:List (List Key × V)} (e:H a = some (.dT kvs)):TyOf K H (.ref a) (.type "dict")
 | ins {a C dx:Addr} {fs:List (Str × V)} (e:H a = some (.ins C dx fs)) (cl:Cls K C) (ha:PySem.W.findIn K (.ref C) "__class__" = some (some (.builtin "object.__class__")))
   (hn:PySem.W.specialIn K (.builtin "object.__class__") "__get__" = some (some (.builtin "getset_descriptor.__get__"))) (htk:PySem.W.takesIn K (.builtin "object.__class__") = some true)
   (hm:PySem.W.mroIn K C (.type "object") = some true):TyOf K H (.ref a) (.ref C)
end
end L2
namespace L2
open PySem PySem.Spec PyProof.Rows
structure Room (k:Nat) (A:Around):Prop where
 hd:A.handled = none
 dp:A.depth + 3 * k + 5 < recursionLimit
 un:A.units + 16 * k + 200 < cLine
 gd:A.guards = some []
theorem Room.mono {j k:Nat} {A:Around} (r:Room k A) (h:j <= k):Room j A:=⟨r.hd,by have:=r.dp; lia,by have:=r.un; lia,r.gd⟩
theorem Room.deeper {k:Nat} {A:Around} (r:Room (k + 1) A) (env:Env):Room k (A.deeper env) :=
 ⟨r.hd,by have:=r.dp; show A.depth + 1 + 3 * k + 5 < _; lia,by have:=r.un; show A.units + 3 + 16 * k + 200 < _; lia,r.gd⟩
theorem Room.depth {k:Nat} {A:Around} (r:Room k A):A.depth < recursionLimit:=by have:=r.dp; lia
theorem Room.units {k:Nat} {A:Around} (r:Room k A):A.units + 64 < cLine:=by have:=r.un; lia
theorem Room.units0 {k:Nat} {A:Around} (r:Room k A):A.units < cLine:=by have:=r.un; lia
def tNil:TA:=fun _ H Q=>Q [] H
def tCons (ta:TE) (tr:TA):TA:=fun σ H Q=>ta σ H fun x H1=>tr σ H1 fun xs H2=>Q (x :: xs) H2
section
variable {X:Cx} {e:Expr} {es:List Expr} {te:TE} {t:TA} {pos:Pos}
theorem pa_nil:PA X [] tNil:=fun _ _ _ _ H Q I h=>Calls.spliced_nil ⟨[],H,I,.nil,h⟩
theorem pa_cons (ha:PE X e te) (hr:PA X es t) (hs:starEach (e :: es) X.env = (false,eval e X.env) :: starEach es X.env:=by rfl):PA X (e :: es) (tCons te t):=by
 intro pos pins s σ H Q I h
 rw [hs]
 show wpAny _ _ (spliced ((false,eval e X.env) :: backTo pos (starEach es X.env))) _ _ s
 refine Calls.spliced_cons (thn (ha pins s σ H _ I h) fun u s1 ⟨x,H1,I1,r1,q1⟩=>?_)
 exact thn (hr pos pins s1 σ H1 _ I1 q1) fun us s2 ⟨xs,H2,I2,r2,q2⟩=>⟨x :: xs,H2,I2,.cons r1 r2,q2⟩
def tTup (t:TA):TE:=fun σ H Q=>t σ H fun xs H1=>xs.length <= sizeLine /\ ∀ p,H1 p = none -> Q (.ref p) (upd H1 p (.tup xs))
def tLst (t:TA):TE:=fun σ H Q=>t σ H fun xs H1=>xs.length <= sizeLine /\ ∀ p,H1 p = none -> Q (.ref p) (upd H1 p (.lst xs))
theorem pe_tup {x1} (h:PA X es t):PE X (.Tuple es x1 pos) (tTup t):=by
 intro pins s σ H Q I hq
 refine wpAny_Tuple_spliced (thn (h pos pins s σ H _ I hq) fun us s1 ⟨xs,H1,I1,r,z,q⟩=>⟨by rw [<- r.length]; exact z,?_⟩)
 have hf:H1 s1.heap.objs.size = none:=I1.hok.fresh (Nat.le_refl _)
 refine ⟨.ref s1.heap.objs.size,upd H1 s1.heap.objs.size (.tup xs),I1.laid (t':=s1.toks) (fun b u e=>Heap.get?_push_of_some _ e) (Nat.le_refl _) ?_,rfl,q _ hf⟩
 exact ⟨z,us,r,⟨_,Heap.get?_push_size _ rfl,rfl,⟨_,rfl⟩,rfl⟩⟩
theorem pe_lst (h:PA X es t):PE X (.List es pos) (tLst t):=by
 intro pins s σ H Q I hq
 refine wpAny_List_spliced (thn (h pos pins s σ H _ I hq) fun us s1 ⟨xs,H1,I1,r,z,q⟩=>⟨by rw [<- r.length]; exact z,?_⟩)
 have hf:H1 s1.heap.objs.size = none:=I1.hok.fresh (Nat.le_refl _)
 refine ⟨.ref s1.heap.objs.size,upd H1 s1.heap.objs.size (.lst xs),I1.laid (t':=s1.toks) (fun b u e=>Heap.get?_push_of_some _ e) (Nat.le_refl _) ?_,rfl,q _ hf⟩
 exact ⟨z,us,0,r,Heap.get?_push_size _ rfl⟩
end
abbrev Sp:=List V -> Hp -> VK -> XK -> Prop
abbrev CXT:=List Env -> Hp -> Shared -> XK -> Value -> Shared -> Prop
structure Env0 (P:Program) (w:World) (K:PySem.W.Frag) (mg:Str -> Option Value) (base:Heap) (A:Around) (outer:List Env) (s:Shared) (H:Hp):Prop where
 frames:A.frames = some outer
 mod:Mod K mg base
 bs:∀ b o,base.get? b = some o -> s.heap.get? b = some o /\ H b = none
 bsz:base.objs.size <= s.heap.objs.size
 funs:s.heap.FunFrames base outer
 frf:∀ b ∈ frs outer,H b = none
 hok:HOk P w H s.heap
 bare:AllBare s.gens
def CE (outer:List Env) (P:Program) (w:World) (H:Hp) (s:Shared) (Q:VK) (u:Value) (s':Shared):Prop :=
 ∃ v H',s'.os = s.os /\ AllBare s'.gens /\ Un (frs outer) [] H H' s.heap s'.heap /\ HOk P w H' s'.heap /\ RelV v u /\ Q v H'
def CR (CX:CXT) (outer:List Env) (P:Program) (w:World) (H:Hp) (s:Shared) (Q:VK) (E:XK) (r:Result) (s':Shared):Prop :=
 match r with
 | .ok (.ret u)=>CE outer P w H s Q u s'
 | .ok _=>False
 | .error e=>CX outer H s E e s'
structure FnOk (P:Program) (w:World) (K:PySem.W.Frag) (mg:Str -> Option Value) (base:Heap) (CX:CXT) (k:Nat) (f:Addr) (fd:FuncData) (ps:List Str) (sp:Sp):Prop where
 len:∀ vs H Q E,sp vs H Q E -> vs.length = ps.length
 run:∀ (A:Around) (outer:List Env) (s:Shared) (H:Hp) (args:Args) (us:List Value) (vs:List V) (Q:VK) (E:XK),Room k A -> Env0 P w K mg base A outer s H -> BindsTo s fd args (ps.zip us) -> Vals vs us -> sp vs H Q E ->
  codeAny (model P w) A (.call (.ref f) args) (CR CX outer P w H s Q E) s
theorem FnOk.imp {P:Program} {w:World} {K:PySem.W.Frag} {mg:Str -> Option Value} {base:Heap} {CX:CXT} {k:Nat} {f:Addr} {fd:FuncData} {ps:List Str} {sp sp':Sp} (F:FnOk P w K mg base CX k f fd ps sp)
  (h:∀ vs H Q E,sp' vs H Q E -> sp vs H Q E):FnOk P w K mg base CX k f fd ps sp' :=
 ⟨fun vs H Q E q=>F.len vs H Q E (h _ _ _ _ q),fun A outer s H args us vs Q E hr he hb hv hs=>F.run A outer s H args us vs Q E hr he hb hv (h _ _ _ _ hs)⟩
section
variable {X:Cx} {pins:List (Addr × Obj)} {σ:St} {H:Hp} {s s':Shared}
theorem Inv.env0 (I:Inv X pins σ H s):Env0 X.prog X.w X.K X.mg X.base X.A X.stack s H :=
 ⟨I.ok.frames,I.ok.mod,I.bs,Nat.le_trans I.ok.bsz I.sz,I.stack,I.stkFree,I.hok,I.bare⟩
theorem Inv.after {Q:VK} {u:Value} (I:Inv X pins σ H s) (h:CE X.stack X.prog X.w H s Q u s'):EP X pins σ Q u s':=by
 obtain ⟨v,H',os,bare,un,hok,r,q⟩:=h
 obtain ⟨hh,g,d,t,os'⟩:=s'
 obtain rfl:os' = s.os:=os
 exact ⟨v,H',I.call (h':=hh) (g':=g) (d':=d) (t':=t) (ch:=[]) un hok bare (fun b z=>absurd z (by simp)),r,q⟩
end
def tCall (sp:Sp) (dvs:List V) (E:XK) (t:TA):TE:=fun σ H Q=>t σ H fun vs H1=>sp (vs ++ dvs) H1 Q E
def Binds (K:PySem.W.Frag) (fd:FuncData) (ps:List Str) (ds:List Value):Prop :=
 ∀ (s:Shared) (us:List Value),K.In s.heap -> (us ++ ds).length = ps.length -> BindsTo s fd ⟨us,[]⟩ (ps.zip (us ++ ds))
theorem Binds.all {K:PySem.W.Frag} {fd:FuncData} {ps:List Str} (h:∀ us:List Value,us.length = ps.length -> bindArgs fd ⟨us,[]⟩ = pure (ps.zip us)):Binds K fd ps []:=fun s us _ hl=>by
 rw [List.append_nil] at hl ⊢
 exact .of_eq (h us hl)
def Passes (CX:CXT) (X:Cx) (E:XK):Prop:=∀ (pins:List (Addr × Obj)) (σ:St) (H:Hp) (s:Shared) (e:Value) (s':Shared),Inv X pins σ H s -> CX X.stack H s E e s' -> X.xe e s'
section
variable {X:Cx} {CX:CXT} {k:Nat} {f C:Addr} {fd:FuncData} {ps:List Str} {sp:Sp} {dvs:List V} {ds:List Value} {E:XK} {x m:Str} {p pos apos:Pos} {e o:Expr} {es:List Expr} {ta:TE} {t:TA}
theorem run_fn {pins:List (Addr × Obj)} {σ:St} {H:Hp} {s:Shared} {Q:VK} {us:List Value} {vs:List V} (F:FnOk X.prog X.w X.K X.mg X.base CX k f fd ps sp) (hr:Room k X.A) (hb:Binds X.K fd ps ds) (hd:Vals dvs ds) (hx:Passes CX X E)
  (I:Inv X pins σ H s) (r:Vals vs us) (h:sp (vs ++ dvs) H Q E):wpAny (model X.prog X.w) X.A (call (.ref f) us) (EP X pins σ Q) X.xe s:=by
 have r2:Vals (vs ++ dvs) (us ++ ds):=r.append hd
 have hl:(us ++ ds).length = ps.length:=by rw [<- r2.length]; exact F.len _ _ _ _ h
 refine wpAny_call (codeAny_mono (F.run X.A X.stack s H ⟨us,[]⟩ (us ++ ds) (vs ++ dvs) Q E hr I.env0 (hb s us I.kIn hl) r2 h) fun r s' hq=>?_)
 cases r with
 | error e=>exact hx pins σ H s e s' I hq
 | ok fl =>
  cases fl with
  | ret u=>exact I.after hq
  | next=>exact False.elim hq
  | brk=>exact False.elim hq
  | cont=>exact False.elim hq
theorem pe_call (F:FnOk X.prog X.w X.K X.mg X.base CX k f fd ps sp) (hr:Room k X.A) (hg:Gl X x) (hm:X.mg x = some (.ref f)) (hk:PySem.W.keepIn X.K (.ref f) = true) (hb:Binds X.K fd ps ds) (hd:Vals dvs ds) (hx:Passes CX X E)
  (ha:PA X (e :: es) t) (hdb:(x == ("__debug__":Str)) = false:=by decide) (he:starEach (e :: es) X.env = (false,eval e X.env) :: starEach es X.env:=by rfl) (hpl:(backTo pos (starEach es X.env)).any (·.1) = false:=by rfl) :
  PE X (.Call (.Name x p) (e :: es) [] pos) (tCall sp dvs E t):=by
 intro pins s σ H Q I h
 refine wpAny_Call_Name_kw (ld_glob I hg hm ?_ hdb)
 refine PySem.W.callWith_K (h₀:=X.base) I.ok.mod.kin hk (thn (ha pos pins s σ H _ I h) fun us s1 ⟨vs,H1,I1,r,q⟩=>⟨I1.kIn,?_⟩) he hpl
 exact run_fn F hr hb hd hx I1 r q
structure Mk (K:PySem.W.Frag) (C f:Addr):Prop where
 makes:PySem.W.makesIn K C = true
 init:PySem.W.findIn K (.ref C) "__init__" = some (some (.ref f))
 fn:PySem.W.isFn K (.ref f) = true
 kp:PySem.W.keepIn K (.ref C) = true
end
section
variable {X:Cx} {CX:CXT} {k:Nat} {f C:Addr} {fd:FuncData} {ps ks:List Str} {sp:Sp} {E:XK} {x m:Str} {p pos apos kpos:Pos} {e o:Expr} {es:List Expr} {kws:List Keyword} {te ta:TE} {t tk:TA} {nm:Option Str}
structure KBinds (K:PySem.W.Frag) (fd:FuncData) (ps ks:List Str) (g:List Value -> List Value -> List Value) (gV:List V -> List V -> List V):Prop where
 to:∀ (s:Shared) (us ws:List Value),K.In s.heap -> (g us ws).length = ps.length -> BindsTo s fd ⟨us,ks.zip ws⟩ (ps.zip (g us ws))
 rel:∀ {vs:List V} {us:List Value} {zs:List V} {ws:List Value},Vals vs us -> Vals zs ws -> Vals (gV vs zs) (g us ws)
variable {g:List Value -> List Value -> List Value} {gV:List V -> List V -> List V}
end
structure FnScope (N P:List Str) (sc:Scope):Prop where
 kind:sc.kind = .function
 co:sc.isCoroutine = false
 gen:sc.isGenerator = false
 nd:N.Nodup
 pre:N.take P.length = P
 par:∀ x ∈ P,sc.names.lookup x = some .local \/ sc.names.lookup x = some .cell
 nofree:∀ y ∈ sc.names,y.2 ≠ .free
theorem bindL_out {kindOf:Str -> Option NameKind} {x:Str}:∀ {binds:List (Str × Value)} {m:Str -> Option Value},(∀ v,(x,v) ∉ binds) -> bindL kindOf binds m x = m x
 | [],_,_=>rfl
 | (n,v) :: r,m,h=>by
  unfold bindL
  rw [bindL_out fun w hw=>h w (List.mem_cons_of_mem _ hw)]
  split
  ·have:x ≠ n:=by rintro rfl; exact h v List.mem_cons_self
   simp [this]
  ·rfl
theorem bindC_out {kindOf:Str -> Option NameKind} {x:Str}:∀ {binds:List (Str × Value)} {m:Str -> Option Value},(∀ v,(x,v) ∉ binds) -> bindC kindOf binds m x = m x
 | [],_,_=>rfl
 | (n,v) :: r,m,h=>by
  unfold bindC
  rw [bindC_out fun w hw=>h w (List.mem_cons_of_mem _ hw)]
  split
  ·rfl
  ·have:x ≠ n:=by rintro rfl; exact h v List.mem_cons_self
   simp [this]
theorem bindL_get {kindOf:Str -> Option NameKind} {x:Str} {v:Value}:∀ {P:List Str} {vs:List Value} {i:Nat} {m:Str -> Option Value},P.Nodup -> P[i]? = some x -> vs[i]? = some v -> kindOf x = some .local ->
  bindL kindOf (P.zip vs) m x = some v
 | [],_,_,_,_,h,_,_=>by simp at h
 | _ :: _,[],_,_,_,_,h,_=>by simp at h
 | p :: P,w :: vs,0,m,nd,h1,h2,hk=>by
  simp at h1 h2; subst h1; subst h2
  show bindL kindOf ((p,w) :: P.zip vs) m p = _
  unfold bindL
  rw [bindL_out fun v hv=>(List.nodup_cons.mp nd).1 (List.of_mem_zip hv).1,if_pos hk]
  simp
 | p :: P,w :: vs,i + 1,m,nd,h1,h2,hk=>by
  show bindL kindOf ((p,w) :: P.zip vs) m x = _
  unfold bindL
  exact bindL_get (i:=i) (List.nodup_cons.mp nd).2 (by simpa using h1) (by simpa using h2) hk
theorem bindC_get {kindOf:Str -> Option NameKind} {x:Str} {v:Value}:∀ {P:List Str} {vs:List Value} {i:Nat} {m:Str -> Option Value},P.Nodup -> P[i]? = some x -> vs[i]? = some v -> kindOf x ≠ some .local ->
  bindC kindOf (P.zip vs) m x = some v
 | [],_,_,_,_,h,_,_=>by simp at h
 | _ :: _,[],_,_,_,_,h,_=>by simp at h
 | p :: P,w :: vs,0,m,nd,h1,h2,hk=>by
  simp at h1 h2; subst h1; subst h2
  show bindC kindOf ((p,w) :: P.zip vs) m p = _
  unfold bindC
  rw [bindC_out fun v hv=>(List.nodup_cons.mp nd).1 (List.of_mem_zip hv).1,if_neg hk]
  simp
 | p :: P,w :: vs,i + 1,m,nd,h1,h2,hk=>by
  show bindC kindOf ((p,w) :: P.zip vs) m x = _
  unfold bindC
  exact bindC_get (i:=i) (List.nodup_cons.mp nd).2 (by simpa using h1) (by simpa using h2) hk
def start (N:List Str) (vs:List V):St:=vs.map some ++ List.replicate (N.length - vs.length) none
def cxOf (CX:CXT) (P:Program) (w:World) (K:PySem.W.Frag) (mg:Str -> Option Value) (base:Heap) (N:List Str) (qual:Str) (scope:Scope) (f:Addr) (cd:Value) (A:Around) (outer:List Env) (s:Shared) (H:Hp) (E:XK):Cx where
 prog:=P
 w:=w
 K:=K
 mg:=mg
 base:=base
 A:=A.deeper (envOfC qual scope s.heap.objs.size f cd)
 N:=N
 s₀:=s
 H₀:=H
 env:=envOfC qual scope s.heap.objs.size f cd
 outer:=outer
 stack:=envOfC qual scope s.heap.objs.size f cd :: outer
 ex:=[]
 calm:=true
 fn:=fun _=>true
 pn:=[]
 xe:=fun e s'=>wpAny (model P w) (A.deeper (envOfC qual scope s.heap.objs.size f cd)) (leaving (envOfC qual scope s.heap.objs.size f cd) e) (fun _ s''=>CX outer H s E e s'') (fun e' s''=>CX outer H s E e' s'') s'
theorem cell_has {sc:Scope} {n:Nat} {x:Str} (h:sc.names.lookup x = some .cell):∃ c,(cellsFrom n sc.names []).lookup x = some c:=by
 have q:=PySem.W.cellsFrom_some sc.names n [] (.inl h)
 exact Option.isSome_iff_exists.mp q
theorem inv_start {CX:CXT} {P:Program} {w:World} {K:PySem.W.Frag} {mg:Str -> Option Value} {base:Heap} {N ps:List Str} {qual:Str} {scope:Scope} {f:Addr} {cd:Value} {A:Around} {outer:List Env} {s s1:Shared} {H:Hp} {E:XK} {us:List Value} {vs:List V}
  (S:FnScope N ps scope) (hd:A.handled = none) (e0:Env0 P w K mg base A outer s H) (hl:vs.length = ps.length) (r:Vals vs us)
  (x:InCallC s s.heap.objs.size (bindL (envOfC qual scope s.heap.objs.size f cd).kindOf (ps.zip us) fun _=>none) (cellsFrom (s.heap.objs.size + 1) scope.names []) (bindC (envOfC qual scope s.heap.objs.size f cd).kindOf (ps.zip us) fun _=>none) s1) :
  Inv (cxOf CX P w K mg base N qual scope f cd A outer s H E) [] (start N vs) H s1:=by
 have hpl:ps.length <= N.length:=by have:=congrArg List.length S.pre; rw [List.length_take] at this; lia
 obtain ⟨h1,tk,rfl,hk⟩:=x.done
 have noA:∀ b:Addr,b ∉ (cxOf CX P w K mg base N qual scope f cd A outer s H E).ex:=fun b z=>absurd (show b ∈ ([]:List Addr) from z) (by simp)
 refine ⟨⟨e0.mod,S.kind,rfl,rfl,Nat.le_refl _,fun y z c h1 h2=>?_,fun y hy=>?_,fun y c _ h=>?_,fun _=>hd,Around.frames_deeper e0.frames,.inr ⟨rfl,rfl⟩,fun b z=>absurd z (noA b),e0.bs,e0.bsz,fun b _ _=>noA b,fun b z=>absurd z (noA b),e0.funs,e0.frf⟩,
  rfl,e0.bare,Un.kept hk,⟨_,x.toInCall.ns,fun i y v h1 h2 h3=>?_⟩,fun y c h=>⟨_,x.cell y c h⟩,e0.hok.fresh (Nat.le_refl _),fun y c h=>?_,fun p hp=>absurd (show p ∈ ([]:List (Addr × Obj)) from hp) (by simp),e0.hok.kept hk,?_⟩
 ·exact name_of_addr x.apart (PySem.mem_of_lookup h1) (PySem.mem_of_lookup h2)
 ·have hy:scope.names.lookup y = some .cell \/ scope.names.lookup y = some .free:=hy
  rcases hy with hy | hy
  ·exact cell_has hy
  ·exact absurd rfl (S.nofree _ (PySem.mem_of_lookup hy))
 ·exact Nat.le_of_lt (x.above y c (PySem.mem_of_lookup h))
 ·have hi:i < vs.length:=by
   unfold start at h2
   by_cases hi:i < vs.length
   ·exact hi
   ·rw [List.getElem?_append_right (by simpa using hi)] at h2
    rw [List.getElem?_replicate] at h2
    split at h2 <;> cases h2
  have ha:vs[i]? = some v:=by
   unfold start at h2
   rw [List.getElem?_append_left (by simpa using hi),List.getElem?_map] at h2
   cases e:vs[i]? with
   | none=>rw [e] at h2; cases h2
   | some a=>rw [e] at h2; cases h2; rfl
  obtain ⟨u,hu,rv⟩:=r.get ha
  have hp:ps[i]? = some y:=by
   rw [<- S.pre,List.getElem?_take_of_lt (by lia)]; exact h1
  have ndP:ps.Nodup:=by rw [<- S.pre]; exact S.nd.sublist (List.take_sublist _ _)
  refine ⟨u,rv,?_⟩
  rcases S.par y (List.mem_of_getElem? hp) with k | k
  ·exact .inl ⟨k,bindL_get ndP hp hu k⟩
  ·obtain ⟨c,e⟩:=cell_has (n:=s.heap.objs.size + 1) k
   refine .inr ⟨.inl k,c,e,?_⟩
   have q:=x.cell y c e
   rw [bindC_get ndP hp hu (by show scope.names.lookup y ≠ _; rw [k]; decide)] at q
   exact q
 ·exact e0.hok.fresh (Nat.le_of_lt (x.above y c (PySem.mem_of_lookup h)))
 ·unfold start
  show _ = N.length
  rw [List.length_append,List.length_map,List.length_replicate]
  lia
theorem fn_of {CX:CXT} {P:Program} {w:World} {K:PySem.W.Frag} {mg:Str -> Option Value} {base:Heap} {k:Nat} {f:Addr} {name qual:Str} {params:Arguments} {body:List Stmt} {scope:Scope} {dV kV doc pm cdv ct oc:Value} {an od:Option Addr}
  {osl:Array (Option Value)} {N ps:List Str} {sp:Sp} (lk:K.lookup f = some ⟨oc,od,.func (PySem.W.fnOf name qual params body scope dV kV doc pm an cdv ct),osl⟩) (hcd:PySem.W.codeIn K cdv qual = true) (S:FnScope N ps scope)
  (len:∀ vs H Q E,sp vs H Q E -> vs.length = ps.length)
  (hbody:∀ (A:Around) (outer:List Env) (s:Shared) (H:Hp) (vs:List V) (Q:VK) (E:XK),Room k (A.deeper (envOfC qual scope s.heap.objs.size f cdv)) -> sp vs H Q E ->
   ∃ t,PSs (cxOf CX P w K mg base N qual scope f cdv A outer s H E) body t /\ t { nx:=fun _ H'=>Q .non H',rt:=Q } (start N vs) H) :
  FnOk P w K mg base CX (k + 1) f (PySem.W.fnOf name qual params body scope dV kV doc pm an cdv ct) ps sp:=by
 refine ⟨len,fun A outer s H args us vs Q E hr e0 hb r hsp=>?_⟩
 have hl:=len _ _ _ _ hsp
 have KX:K.In s.heap:=e0.mod.kin.keeps fun b o e=>(e0.bs b o e).1
 have lim:s.heap.NoLimit:=e0.mod.nolimit.keeps fun b o e=>(e0.bs b o e).1
 have hkind:∀ y ∈ ps.zip us,scope.names.lookup y.1 = some .local \/ (scope.names.lookup y.1 = some .cell /\ ((cellsFrom (s.heap.objs.size + 1) scope.names []).lookup y.1).isSome = true):=fun ⟨n,v⟩ hy=>by
  rcases S.par n (List.of_mem_zip hy).1 with q | q
  ·exact .inl q
  ·exact .inr ⟨q,PySem.W.cellsFrom_some _ _ _ (.inl q)⟩
 refine codeAny_call_function hr.depth (KX _ _ lk) rfl S.co S.gen rfl (PySem.W.codeRec_of KX hcd) (hb _ _ _ _ ?_)
 refine wpAny_newFunctionEnv_cells S.kind hkind fun env he s1 x=>?_
 subst he
 refine ⟨lim.keeps x.toInCall.keep,codeAny_func ?_⟩
 obtain ⟨t,ht,hq⟩:=hbody A outer s H vs Q E (hr.deeper _) hsp
 have I:Inv (cxOf CX P w K mg base N qual scope f cdv A outer s H E) [] (start N vs) H s1:=inv_start S hr.hd e0 hl r x
 refine wpAny_mono (ht [] s1 (start N vs) H _ I hq) (fun fl s' hs=>?_) fun e s' hs=>hs
 have fin:∀ {σ':St} {H':Hp} {v:V} {u:Value},Inv (cxOf CX P w K mg base N qual scope f cdv A outer s H E) [] σ' H' s' -> RelV v u -> Q v H' -> CE outer P w H s Q u s' :=
  fun {σ' H' v u} J rv q=>⟨v,H',J.os,J.bare,J.base,J.hok,rv,q⟩
 cases fl with
 | ret u =>
  obtain ⟨v,σ',H',J,rv,q⟩:=hs
  exact fin J rv q
 | next =>
  obtain ⟨σ',H',J,q⟩:=hs
  exact fin (v:=V.non) (u:=Value.none) J rfl q
 | brk =>
  obtain ⟨_,_,_,q⟩:=hs
  exact False.elim q
 | cont =>
  obtain ⟨_,_,_,q⟩:=hs
  exact False.elim q
end L2
namespace L2
open PySem PySem.Spec PyProof.Rows
section
variable {X:Cx} {x:Str} {p pos:Pos} {e:Expr} {es:List Expr} {t:TA} {id T:String} {r:List V -> Hp -> VK -> Prop}
def tCB (r:List V -> Hp -> VK -> Prop) (t:TA):TE:=fun σ H Q=>t σ H fun vs H1=>r vs H1 Q
theorem pe_callB (hc:CallR X (.builtin id) r) (hg:Gl X x) (hm:X.mg x = none) (hv:bootBuiltins x = some (.builtin id)) (ha:PA X (e :: es) t) (hn:x ≠ "__name__":=by decide) (hdb:(x == ("__debug__":Str)) = false:=by decide)
  (he:starEach (e :: es) X.env = (false,eval e X.env) :: starEach es X.env:=by rfl) (hpl:(backTo pos (starEach es X.env)).any (·.1) = false:=by rfl):PE X (.Call (.Name x p) (e :: es) [] pos) (tCB r t):=by
 intro pins s σ H Q I h
 refine wpAny_Call_Name_kw (ld_blt I hg hm hv ?_ hn hdb)
 exact PyProof.Rows.callWith_builtin1 (thn (ha pos pins s σ H _ I h) fun us s1 ⟨vs,H1,I1,r1,q1⟩=>hc pins s1 σ H1 vs us Q I1 r1 q1) he hpl
theorem pe_callTy (hc:CallR X (.type T) r) (hg:Gl X x) (hm:X.mg x = none) (hv:bootBuiltins x = some (.type T)) (ha:PA X (e :: es) t) (hn:x ≠ "__name__":=by decide) (hdb:(x == ("__debug__":Str)) = false:=by decide)
  (he:starEach (e :: es) X.env = (false,eval e X.env) :: starEach es X.env:=by rfl) (hpl:(backTo pos (starEach es X.env)).any (·.1) = false:=by rfl):PE X (.Call (.Name x p) (e :: es) [] pos) (tCB r t):=by
 intro pins s σ H Q I h
 refine wpAny_Call_Name_kw (ld_blt I hg hm hv ?_ hn hdb)
 exact PyProof.Rows.callWith_type1 (thn (ha pos pins s σ H _ I h) fun us s1 ⟨vs,H1,I1,r1,q1⟩=>hc pins s1 σ H1 vs us Q I1 r1 q1) he hpl
end
end L2
namespace HT
open PySem PyProof.Rows
def lexLt:List Int -> List Int -> Bool
 | [],[]=>false
 | [],_ :: _=>true
 | _ :: _,[]=>false
 | x :: xs,y :: ys=>if x = y then lexLt xs ys else decide (x < y)
theorem lexLt_cons (x y:Int) (xs ys:List Int):lexLt (x :: xs) (y :: ys) = if x = y then lexLt xs ys else decide (x < y):=rfl
theorem lexLt_nil_nil:lexLt [] [] = false:=rfl
theorem lexLt_nil_cons (y:Int) (ys:List Int):lexLt [] (y :: ys) = true:=rfl
theorem lexLt_cons_nil (x:Int) (xs:List Int):lexLt (x :: xs) [] = false:=rfl
theorem eqAt_int (A:Around) (s:Shared) (a:Int) (t:Tok) (c:Int) (u:Tok):∃ e,SeqAt.EqAt A s (.int a t) (.int c u) e /\ (e = true ↔ a = c) :=
 ⟨(a == c),SeqAt.EqAt.int_int a t c u,by simp⟩
theorem rcLt_int (A:Around) (s:Shared) (a:Int) (t:Tok) (c:Int) (u:Tok) (prog:Program) (w:World) (E:Value -> Shared -> Prop) (Q:Value -> Shared -> Prop) (h:Q (.bool (decide (a < c))) s) :
  wpAny (model prog w) A (richCompare .Lt (.int a t) (.int c u)) Q E s :=
 (PyProof.Rows.lt_int h:wpAny (model prog w) A (compareOp .Lt (.int a t) (.int c u)) Q E s)
section
open PySem.SeqAt
open PySem.AutoSeq1 (wpAny_loadPart')
open PySem.MeetsSeq PySem.MeetsSeq2 PySem.MeetsSeq3
theorem tuple_lt_ints (l b:Addr) (items items2:Array Value) (n n2:Nat) (dd dd2:Option Addr) (sl sl2:Array (Option Value)) (ns ms:List Int) (hi:IntsAre items.toList ns) (hj:IntsAre items2.toList ms) :
  Meets (Builtin.«tuple.__lt__» ⟨[.ref l,.ref b],[]⟩)
   (fun _ R s=>s.heap.get? l = some { cls:=.type "tuple",dict:=dd,data:=.seq items n,slots:=sl } /\ s.heap.get? b = some { cls:=.type "tuple",dict:=dd2,data:=.seq items2 n2,slots:=sl2 } /\
    R (.ok (.ret (.bool (lexLt ns ms)))) s) :=
 .of_wp fun prog w A R s h=>by
  obtain ⟨hp,g,d,tk,os⟩:=s; obtain ⟨hl,hb,h⟩:=h
  have f2:=AutoSeq1.sub_tuple_tuple
  have z1:items.size = ns.length:=by rw [<- hi.length]; simp
  have z2:items2.size = ms.length:=by rw [<- hj.length]; simp
  wp_walk using wpAny_loadPart' hl,wpAny_loadPart' hb,wpAny_forIn_list _ (fun rest b s'=>b.1 = none /\ s' = ⟨hp,g,d,tk,os⟩ /\ ∃ (vs ws:List Value) (ns' ms':List Int),rest = vs.zip ws /\
   IntsAre vs ns' /\ IntsAre ws ms' /\ ns'.length + items2.size = ms'.length + items.size /\ R (.ok (.ret (.bool (lexLt ns' ms')))) ⟨hp,g,d,tk,os⟩) _
  case turn =>
   rintro ⟨y,x⟩ rest b s' ⟨hb',rfl,vs,ws,ns',ms',hz,hvi,hwi,hlen,hR⟩
   cases hvi with
   | nil=>rw [List.zip_nil_left] at hz; cases hz
   | cons a t hvi' =>
    cases hwi with
    | nil=>rw [List.zip_nil_right] at hz; cases hz
    | cons c u hwi' =>
     rw [List.zip_cons_cons] at hz
     injection hz with hyx hrest
     injection hyx with hy hx
     subst hy hx
     rw [lexLt_cons] at hR
     simp only [List.length_cons] at hlen
     obtain ⟨e,he,hiff⟩:=eqAt_int A.in1 ⟨hp,g,d,tk,os⟩ a t c u
     refine wpAny_bind (he prog w _ _ ?_)
     cases e with
     | true =>
      rw [if_pos (hiff.mp rfl)] at hR
      wp_walk
      exact ⟨rfl,rfl,_,_,_,_,hrest,hvi',hwi',by lia,hR⟩
     | false =>
      rw [if_neg (fun q=>absurd (hiff.mpr q) Bool.false_ne_true)] at hR
      have hri:=rcLt_int A.in1 ⟨hp,g,d,tk,os⟩ a t c u prog w
      wp_walk using hri
      exact ⟨_,rfl,by simpa using hR⟩
  case fin =>
   rintro ⟨b1,b2⟩ s' ⟨hb',rfl,vs,ws,ns',ms',hz,hvi,hwi,hlen,hR⟩
   simp only at hb'
   subst hb'
   have hv:lexLt ns' ms' = decide (items.size < items2.size):=by
    cases hvi with
    | nil =>
     cases hwi with
     | nil =>
      simp only [List.length_nil] at hlen
      rw [lexLt_nil_nil]
      exact (decide_eq_false (by lia)).symm
     | cons c u hw =>
      simp only [List.length_nil,List.length_cons] at hlen
      rw [lexLt_nil_cons]
      exact (decide_eq_true (by lia)).symm
    | cons a t hv =>
     cases hwi with
     | nil =>
      simp only [List.length_nil,List.length_cons] at hlen
      rw [lexLt_cons_nil]
      exact (decide_eq_false (by lia)).symm
     | cons c u hw =>
      rw [List.zip_cons_cons] at hz
      cases hz
   rw [hv] at hR
   wp_walk
   exact ⟨_,rfl,by simpa [Builtin.Tuple.tupleCompareSizes] using hR⟩
  case h =>
   exact ⟨rfl,rfl,items.toList,items2.toList,ns,ms,rfl,hi,hj,by lia,h⟩
end
section
variable {prog:Program} {w:World} {A:Around} {E:Value -> Shared -> Prop} {s:Shared}
theorem lt_tupInts {l b:Addr} {items items2:Array Value} {ns ms:List Int} {Q:Value -> Shared -> Prop} (hl:IsTup s.heap l items) (hb:IsTup s.heap b items2) (hi:IntsAre items.toList ns) (hj:IntsAre items2.toList ms)
  (hu:A.units < cLine) (h:Q (.bool (lexLt ns ms)) s):wpAny (model prog w) A (compareOp .Lt (.ref l) (.ref b)) Q E s:=by
 obtain ⟨⟨cls,dd,data,sl⟩,ho,hc,n,hd⟩:=id hl
 obtain ⟨⟨cls2,dd2,data2,sl2⟩,ho2,hc2,n2,hd2⟩:=id hb
 simp only at hc hd hc2 hd2
 subst hc hd hc2 hd2
 exact richCompare_meets_room (op:=.Lt) ⟨_,ho,rfl⟩ ⟨_,ho2,rfl⟩ PySem.F.slot_tuple_lt PySem.F.entry_tuple_lt (PySem.F.args_tuple_lt_2 _ _) (tuple_lt_ints l b items items2 n n2 dd dd2 sl sl2 ns ms hi hj)
  ⟨ho,ho2,show Value.bool (lexLt ns ms) ≠ Value.notImplemented /\ Q (.bool (lexLt ns ms)) s from ⟨(fun x=>nomatch x),h⟩⟩ hu
theorem cat_tup {t b:Addr} {vs ws:List Value} {Q:Value -> Shared -> Prop} (ht:IsTup s.heap t vs.toArray) (hb:IsTup s.heap b ws.toArray) (hv:vs ≠ [])
  (h1:ws = [] -> Q (.ref t) s) (h2:ws ≠ [] -> Q (.ref s.heap.objs.size) { s with heap:=s.heap.push { cls:=.type "tuple",data:=.seq (vs ++ ws).toArray } })
  (hsz:vs.length + ws.length <= sizeLine):wpAny (model prog w) A (binaryOp .Add (.ref t) (.ref b)) Q E s:=by
 obtain ⟨⟨cls,dd,data,sl⟩,ho,hc,n,hd⟩:=id ht
 obtain ⟨⟨cls2,dd2,data2,sl2⟩,ho2,hc2,n2,hd2⟩:=id hb
 simp only at hc hd hc2 hd2
 subst hc hd hc2 hd2
 have e:vs.toArray ++ ws.toArray = (vs ++ ws).toArray:=by simp
 by_cases hw:ws = []
 ·exact concat_meets ⟨_,ho,rfl⟩ ⟨_,ho2,rfl⟩ noFill_tuple_add seq_tuple_add PySem.F.slot_tuple_add PySem.F.entry_tuple_add (PySem.F.args_tuple_add_2 _ _)
   (tuple_addW1 t b vs.toArray ws.toArray n n2 dd dd2 sl sl2 (by simpa using hv) (by simp [hw])) ⟨ho,ho2,h1 hw⟩
 ·refine concat_meets ⟨_,ho,rfl⟩ ⟨_,ho2,rfl⟩ noFill_tuple_add seq_tuple_add PySem.F.slot_tuple_add PySem.F.entry_tuple_add (PySem.F.args_tuple_add_2 _ _)
   (tuple_addW2 t b vs.toArray ws.toArray n n2 dd dd2 sl sl2 (by simpa using hv) (by simpa using hw) (by rw [List.size_toArray,List.size_toArray]; exact hsz)) ⟨ho,ho2,?_⟩
  rw [e]
  exact h2 hw
def sIx (n d:Nat):Option Int -> Nat
 | none=>d
 | some v=>if v < 0 then (v + (n:Int)).toNat else min v.toNat n
theorem sIx_none (n d:Nat):sIx n d none = d:=rfl
theorem sIx_nat (n d k:Nat):sIx n d (some (k:Int)) = min k n:=by
 show (if (k:Int) < 0 then ((k:Int) + (n:Int)).toNat else min (k:Int).toNat n) = min k n
 rw [if_neg (by lia),Int.toNat_natCast]
theorem sIx_le (n d:Nat) (hd:d <= n) (o:Option Int):sIx n d o <= n:=by
 cases o with
 | none=>exact hd
 | some v =>
  show (if v < 0 then (v + (n:Int)).toNat else min v.toNat n) <= n
  by_cases hv:v < 0
  ·rw [if_pos hv]; lia
  ·rw [if_neg hv]; exact Nat.min_le_right _ _
theorem clip_eq (v:Int) (n d:Nat):(if v < 0 then max (v + (n:Int)) 0 else min v (n:Int)) = ((sIx n d (some v):Nat):Int):=by
 show (if v < 0 then max (v + (n:Int)) 0 else min v (n:Int)) = (((if v < 0 then (v + (n:Int)).toNat else min v.toNat n):Nat):Int)
 by_cases hv:v < 0
 ·simp only [if_pos hv]; lia
 ·simp only [if_neg hv]; lia
theorem adjust_gen (lo hi:Option Int) (n:Nat):Builtin.Slice.sliceAdjust lo hi 1 (n:Int) = (((sIx n 0 lo:Nat):Int),((sIx n n hi:Nat):Int)):=by
 have h1:¬ ((1:Int) < 0):=by lia
 unfold Builtin.Slice.sliceAdjust
 simp only [h1,if_false]
 refine Prod.ext ?_ ?_
 ·cases lo with
  | none=>rfl
  | some v=>exact clip_eq v n 0
 ·cases hi with
  | none=>rfl
  | some v=>exact clip_eq v n n
theorem places_gen (i j:Nat):Builtin.Slice.slicePlaces (i:Int) (j:Int) 1 = j - i:=by
 unfold Builtin.Slice.slicePlaces
 have h1:(1:Int) > 0:=by lia
 simp only [h1,if_true,Int.ediv_one]
 split <;> lia
theorem slicePart_ {v:Value} {o:Option Int} {Q:Option Int -> Shared -> Prop} (p:IsPart v o) (h:Q o s):wpAny (model prog w) A (Builtin.Slice.slicePartIndex v) Q E s:=by
 cases p with
 | none=>exact slicePart_none h
 | int i t=>exact slicePart_int h
theorem sliceApplied_gen {sl:Addr} {vl vu:Value} {lo hi:Option Int} {n:Nat} {Q:Int × Int × Nat -> Shared -> Prop} (hs:s.heap.IsSliceOf sl vl vu .none) (pl:IsPart vl lo) (pu:IsPart vu hi)
  (h:Q (((sIx n 0 lo:Nat):Int),1,sIx n n hi - sIx n 0 lo) s):wpAny (model prog w) A (Builtin.Slice.sliceApplied (.ref sl) (pure (n:Int))) Q E s:=by
 obtain ⟨os,hos,hcs,hds⟩:=id hs
 unfold Builtin.Slice.sliceApplied Builtin.Slice.sliceFields
 refine wpAny_bind (wpAny_bind (wpAny_field hos hds (x:=vl) rfl (wpAny_bind (wpAny_field hos hds (x:=vu) rfl (wpAny_bind (wpAny_field hos hds (x:=.none) rfl (wpAny_pure ?_)))))))
 refine wpAny_bind (slicePart_none ?_)
 show wpAny _ _ (if ((1:Int) == 0) = true then _ else _) _ _ s
 rw [if_neg (by decide)]
 refine wpAny_bind (slicePart_ pl (wpAny_bind (slicePart_ pu (wpAny_bind (wpAny_pure ?_)))))
 show wpAny _ _ (match Builtin.Slice.sliceAdjust lo hi 1 (n:Int) with | (lo,hi)=>pure (lo,(1:Int),Builtin.Slice.slicePlaces lo hi 1)) _ _ s
 rw [adjust_gen lo hi n]
 show wpAny _ _ (pure (((sIx n 0 lo:Nat):Int),(1:Int),Builtin.Slice.slicePlaces ((sIx n 0 lo:Nat):Int) ((sIx n n hi:Nat):Int) 1)) _ _ s
 rw [places_gen]
 exact wpAny_pure h
theorem pick_gen (xs:Array Value) (i k:Nat):((List.range k).filterMap fun (m:Nat)=>xs[((i:Int) + (m:Int) * 1).toNat]?).toArray = ((xs.toList.drop i).take k).toArray:=by
 have e:(fun (m:Nat)=>xs[((i:Int) + (m:Int) * 1).toNat]?) = fun m=>xs[i + m]?:=by
  funext m
  have:((i:Int) + (m:Int) * 1).toNat = i + m:=by lia
  rw [this]
 rw [e]
 have:=pick_run xs i k
 rw [List.filterMap_map] at this
 have e2:((fun x=>xs[x]?) ∘ fun x=>i + x) = fun m=>xs[i + m]?:=rfl
 rw [e2] at this
 rw [this]
theorem getItem_tuple_cut {t sl:Addr} {items:Array Value} {vl vu:Value} {lo hi:Option Int} {Q:Value -> Shared -> Prop} (ht:IsTup s.heap t items) (hs:s.heap.IsSliceOf sl vl vu .none) (pl:IsPart vl lo) (pu:IsPart vu hi)
  (hw:¬ (sIx items.size 0 lo = 0 /\ sIx items.size items.size hi = items.size))
  (h:Q (.ref s.heap.objs.size) { s with heap:=s.heap.push { cls:=.type "tuple",data:=.seq ((items.toList.drop (sIx items.size 0 lo)).take (sIx items.size items.size hi - sIx items.size 0 lo)).toArray } })
  (hsz:items.size <= sizeLine):wpAny (model prog w) A (getItem (.ref t) (.ref sl)) Q E s:=by
 have htake:sizeOk (.seq ((items.toList.drop (sIx items.size 0 lo)).take (sIx items.size items.size hi - sIx items.size 0 lo)).toArray):=by
  show ((items.toList.drop (sIx items.size 0 lo)).take (sIx items.size items.size hi - sIx items.size 0 lo)).toArray.size <= sizeLine
  rw [List.size_toArray,List.length_take,List.length_drop,Array.length_toList]
  lia
 have hj:sIx items.size items.size hi <= items.size:=sIx_le _ _ (Nat.le_refl _) hi
 obtain ⟨os,hos,hcs,hds⟩:=id hs
 have hTs:s.TypeIs (.ref sl) "slice":=⟨os,hos,hcs⟩
 unfold getItem
 try with_reducible refine wpAny_holding ?_
 first | refine wpAny_bind (wpAny_pure ?_) | skip
 refine wpAny_bind (wpAny_sequenceKey ht.typeIs (by decide) ?_)
 refine wpAny_bind (wpAny_callSpecial?_slot (name:=Str.ofString "__getitem__") ht.typeIs PyProof.Rows.slot_tuple_getitem
  (wpAny_call_entry PyProof.Rows.slot_tuple_getitem ht.typeIs entry_tuple_getitem ?_ (args_tuple_getitem _ _)))
 show wpAny _ _ (Builtin.Tuple.tupleItemsOf (.ref t) >>= _) _ _ s
 refine wpAny_bind (tupleItemsOf_ ht ?_)
 refine wpAny_bind (wpAny_typeOf hTs ?_)
 rw [if_pos (by decide)]
 refine wpAny_bind (sliceApplied_gen hs pl pu ?_)
 have hno:¬ ((((sIx items.size 0 lo:Nat):Int) == 0 && (1:Int) == 1 && (sIx items.size items.size hi - sIx items.size 0 lo) == items.size) = true):=by
  intro q
  rw [Bool.and_eq_true,Bool.and_eq_true] at q
  have q1:((sIx items.size 0 lo:Nat):Int) = 0:=eq_of_beq q.1.1
  have q2:sIx items.size items.size hi - sIx items.size 0 lo = items.size:=eq_of_beq q.2
  exact hw ⟨by lia,by lia⟩
 show wpAny _ _ (if (((sIx items.size 0 lo:Nat):Int) == 0 && (1:Int) == 1 && (sIx items.size items.size hi - sIx items.size 0 lo) == items.size) = true then _ else _) _ _ s
 rw [if_neg hno,pick_gen]
 first
  | exact wpAny_bind (m:=Builtin.Tuple.tupleExact _) (wpAny_newObj_type (wpAny_pure ⟨_,rfl,wpAny_pure h⟩) htake)
  | exact wpAny_bind (m:=Builtin.Tuple.tupleExact _) (wpAny_newObj_type (wpAny_bind (wpAny_pure (wpAny_pure ⟨_,rfl,wpAny_pure h⟩))) htake)
  | exact wpAny_bind (wpAny_bind (m:=Builtin.Tuple.tupleExact _) (wpAny_newObj_type (wpAny_pure (wpAny_pure ⟨_,rfl,wpAny_pure h⟩)) htake))
  | exact wpAny_bind (wpAny_bind (m:=Builtin.Tuple.tupleExact _) (wpAny_newObj_type (wpAny_pure ⟨_,rfl,wpAny_pure h⟩) htake))
end
end HT
namespace L2
open PySem PySem.Spec PyProof.Rows
abbrev TO:=St -> Hp -> (Option Int -> Hp -> Prop) -> Prop
def PO (X:Cx) (e:Option Expr) (t:TO):Prop :=
 ∀ (pins:List (Addr × Obj)) (s:Shared) (σ:St) (H:Hp) (Q:Option Int -> Hp -> Prop),Inv X pins σ H s -> t σ H Q ->
  wpAny (model X.prog X.w) X.A (evalPart e X.env) (fun u s'=>∃ o H',Inv X pins σ H' s' /\ IsPart u o /\ Q o H') X.xe s
def tNoPart:TO:=fun _ H Q=>Q none H
def tPart (t:TE):TO:=fun σ H Q=>t σ H fun x H1=>∃ i,x = .int i /\ Q (some i) H1
theorem intsAre_of {ns:List Int}:∀ {us:List Value},Vals (ns.map V.int) us -> IntsAre us ns:=by
 induction ns with
 | nil=>intro us r; rw [List.map_nil] at r; cases r; exact .nil
 | cons n ns ih =>
  intro us r
  rw [List.map_cons] at r
  cases r with
  | cons r1 r2 =>
   obtain ⟨t,e⟩:=r1
   subst e
   exact .cons n t (ih r2)
section
variable {X:Cx} {e:Expr} {te:TE} {lo hi:Option Expr} {tl th:TO} {pos p2:Pos}
theorem po_none:PO X none tNoPart:=by
 intro pins s σ H Q I h
 rw [evalPart_none]
 exact wpAny_pure ⟨none,H,I,.none,h⟩
theorem po_some (h:PE X e te):PO X (some e) (tPart te):=by
 intro pins s σ H Q I hw
 rw [evalPart_some]
 refine thn (h pins s σ H _ I hw) fun u s1 ⟨x,H1,I1,r1,q1⟩=>?_
 obtain ⟨i,rfl,q⟩:=q1
 obtain ⟨t,rfl⟩:=r1
 exact ⟨some i,H1,I1,.int i t,q⟩
def SlR (X:Cx) (r:V -> Option Int -> Option Int -> Hp -> VK -> Prop):Prop :=
 ∀ (pins:List (Addr × Obj)) (s:Shared) (σ:St) (H:Hp) (x:V) (v vl vu:Value) (lo hi:Option Int) (sl:Addr) (Q:VK),Inv X pins σ H s -> RelV x v -> s.heap.IsSliceOf sl vl vu .none -> IsPart vl lo -> IsPart vu hi -> r x lo hi H Q ->
  ∃ T id,typeLookup (.type T) "__getitem__" = pure (some (.builtin id)) /\ s.TypeIs v T /\ wpAny (model X.prog X.w) X.A (getItem v (.ref sl)) (EP X pins σ Q) X.xe s
theorem SlR.or {r r':V -> Option Int -> Option Int -> Hp -> VK -> Prop} (h:SlR X r) (h':SlR X r'):SlR X (fun x lo hi H Q=>r x lo hi H Q \/ r' x lo hi H Q):=by
 intro pins s σ H x v vl vu lo hi sl Q I rx hs pl pu q
 rcases q with q | q
 ·exact h pins s σ H x v vl vu lo hi sl Q I rx hs pl pu q
 ·exact h' pins s σ H x v vl vu lo hi sl Q I rx hs pl pu q
def tSl (r:V -> Option Int -> Option Int -> Hp -> VK -> Prop) (te:TE) (tl th:TO):TE:=fun σ H Q=>te σ H fun x H1=>tl σ H1 fun l H2=>th σ H2 fun u H3=>r x l u H3 Q
theorem pe_slice {r:V -> Option Int -> Option Int -> Hp -> VK -> Prop} (hr:SlR X r) (he:PE X e te) (hl:PO X lo tl) (hu:PO X hi th):PE X (.Subscript e (.Slice lo hi none p2) pos) (tSl r te tl th):=by
 intro pins s σ H Q I h
 refine Subscript_ (thn (he pins s σ H _ I h) fun v s1 ⟨x,H1,I1,r1,q1⟩=>?_)
 refine wpAny_Slice (thn (hl pins s1 σ H1 _ I1 q1) fun vl s2 ⟨l,H2,I2,pl,q2⟩=>thn (hu pins s2 σ H2 _ I2 q2) fun vu s3 ⟨u,H3,I3,pu,q3⟩=>?_)
 rw [evalPart_none]
 refine wpAny_pure ?_
 have I4:Inv X pins σ H3 { s3 with heap:=s3.heap.push { cls:=.type "slice",data:=.fields #[vl,vu,.none] } }:=I3.kept (t':=s3.toks) fun b ob q=>Heap.get?_push_of_some _ q
 obtain ⟨T,id,hT,ht,hg⟩:=hr pins { s3 with heap:=s3.heap.push { cls:=.type "slice",data:=.fields #[vl,vu,.none] } } σ H3 x v vl vu l u s3.heap.objs.size Q I4 r1 (Heap.IsSliceOf.new ..) pl pu q3
 show wpAny (model X.prog X.w) X.A (subscriptTail e (.Slice lo hi none p2) v (.ref s3.heap.objs.size)) (EP X pins σ Q) X.xe { s3 with heap:=s3.heap.push { cls:=.type "slice",data:=.fields #[vl,vu,.none] } }
 exact tail_any (ops:=[.ref s3.heap.objs.size,v]) ht hT hg (by with_unfolding_all rfl)
def cutV (xs:List V) (lo hi:Option Int):List V:=(xs.drop (HT.sIx xs.length 0 lo)).take (HT.sIx xs.length xs.length hi - HT.sIx xs.length 0 lo)
theorem cutV_length (xs:List V) (lo hi:Option Int):(cutV xs lo hi).length <= xs.length:=by
 unfold cutV
 rw [List.length_take,List.length_drop]
 lia
def rSlT (K:PySem.W.Frag):V -> Option Int -> Option Int -> Hp -> VK -> Prop:=fun x lo hi H Q=>∃ a xs,x = .ref a /\ SqT K H a xs /\
 ¬ (HT.sIx xs.length 0 lo = 0 /\ HT.sIx xs.length xs.length hi = xs.length) /\ ∀ p,H p = none -> Q (.ref p) (upd H p (.tup (cutV xs lo hi)))
theorem sl_tup:SlR X (rSlT X.K):=by
 intro pins s σ H x v vl vu lo hi sl Q I rx hs pl pu h
 obtain ⟨a,xs,rfl,hx,hw,q⟩:=h
 cases rx
 obtain ⟨its,r,ht,hz⟩:=I.tuple hx
 have hlen:its.toArray.size = xs.length:=by rw [List.size_toArray]; exact r.length.symm
 refine ⟨"tuple",_,PyProof.Rows.slot_tuple_getitem.lookup,ht.typeIs,?_⟩
 refine HT.getItem_tuple_cut ht hs pl pu (by rw [hlen]; exact hw) ?_ (by rw [hlen]; exact hz)
 rw [hlen]
 refine ⟨.ref s.heap.objs.size,_,I.laid (t':=s.toks) (o:=.tup (cutV xs lo hi)) (fun b ob q=>Heap.get?_push_of_some _ q) (Nat.le_refl _) ?_,rfl,q _ (I.hok.fresh (Nat.le_refl _))⟩
 exact ⟨Nat.le_trans (cutV_length xs lo hi) hz,_,(r.drop (HT.sIx xs.length 0 lo)).take (HT.sIx xs.length xs.length hi - HT.sIx xs.length 0 lo),IsTD.new _ _⟩
def rLtT (K:PySem.W.Frag):R2:=fun x y H Q=>∃ a b ns ms,x = .ref a /\ y = .ref b /\ SqT K H a (ns.map V.int) /\ SqT K H b (ms.map V.int) /\ Q (.bl (HT.lexLt ns ms)) H
theorem op_ltT (hu:X.A.units < cLine):OpR X (compareOp .Lt) (rLtT X.K):=by
 intro pins s σ H x y v u Q I rx ry h
 obtain ⟨a,b,ns,ms,rfl,rfl,ha,hb,q⟩:=h
 cases rx
 cases ry
 obtain ⟨its,r1,p1,_⟩:=I.tuple ha
 obtain ⟨its2,r2,p2,_⟩:=I.tuple hb
 have i1:IntsAre its.toArray.toList ns:=intsAre_of r1
 have i2:IntsAre its2.toArray.toList ms:=intsAre_of r2
 exact HT.lt_tupInts p1 p2 i1 i2 hu ⟨.bl (HT.lexLt ns ms),H,I,rfl,q⟩
def rCatT (K:PySem.W.Frag):R2:=fun x y H Q=>∃ a b xs ys,x = .ref a /\ y = .ref b /\ SqT K H a xs /\ SqT K H b ys /\ xs ≠ [] /\ xs.length + ys.length <= sizeLine /\
 (ys = [] -> Q (.ref a) H) /\ (ys ≠ [] -> ∀ p,H p = none -> Q (.ref p) (upd H p (.tup (xs ++ ys))))
theorem Vals.nil_iff {xs:List V} {us:List Value} (r:Vals xs us):us = [] ↔ xs = []:=by
 cases r with
 | nil=>simp
 | cons _ _=>simp
theorem op_catT:OpR X (binaryOp .Add) (rCatT X.K):=by
 intro pins s σ H x y v u Q I rx ry h
 obtain ⟨a,b,xs,ys,rfl,rfl,ha,hb,hx,hz,q1,q2⟩:=h
 cases rx
 cases ry
 obtain ⟨its,r1,p1,_⟩:=I.tuple ha
 obtain ⟨its2,r2,p2,_⟩:=I.tuple hb
 refine HT.cat_tup p1 p2 (fun z=>hx (r1.nil_iff.mp z)) (fun z=>⟨.ref a,H,I,rfl,q1 (r2.nil_iff.mp z)⟩) (fun z=>?_) (by rw [<- r1.length,<- r2.length]; exact hz)
 refine ⟨.ref s.heap.objs.size,_,I.laid (t':=s.toks) (o:=.tup (xs ++ ys)) (fun b ob q=>Heap.get?_push_of_some _ q) (Nat.le_refl _) ?_,rfl,q2 (fun w=>z (r2.nil_iff.mpr w)) _ (I.hok.fresh (Nat.le_refl _))⟩
 exact ⟨by rw [List.length_append]; exact hz,_,r1.append r2,IsTD.new _ _⟩
end
end L2
namespace L2
open PySem PySem.Spec PyProof.Rows
def ixN (n:Nat) (i:Int):Option Nat:=if 0 <= i then (if i < n then some i.toNat else none) else if -(n:Int) <= i then some (i + n).toNat else none
def atI {α:Type} (xs:List α) (i:Int):Option α:=(ixN xs.length i).bind fun j=>xs[j]?
theorem ixN_seq {n:Nat} {i:Int} {j:Nat} (h:ixN n i = some j):seqIndex? i n = some j /\ j < n /\ -(n:Int) <= i /\ i < n:=by
 unfold ixN at h
 by_cases h0:0 <= i
 ·rw [if_pos h0] at h
  by_cases h1:i < n
  ·rw [if_pos h1] at h
   have e:i.toNat = j:=Option.some.inj h
   exact ⟨by rw [seqIndex_of h0 h1,e],by lia,by lia,h1⟩
  ·rw [if_neg h1] at h; cases h
 ·rw [if_neg h0] at h
  by_cases h1:-(n:Int) <= i
  ·rw [if_pos h1] at h
   have e:(i + n).toNat = j:=Option.some.inj h
   exact ⟨by rw [seqIndex_neg (by lia) h1,e],by lia,h1,by lia⟩
  ·rw [if_neg h1] at h; cases h
theorem atI_get {α:Type} {xs:List α} {i:Int} {v:α} (h:atI xs i = some v):∃ j,seqIndex? i xs.length = some j /\ xs[j]? = some v /\ j < xs.length /\ -(xs.length:Int) <= i /\ i < xs.length:=by
 unfold atI at h
 cases e:ixN xs.length i with
 | none=>rw [e] at h; cases h
 | some j =>
  rw [e] at h
  obtain ⟨h1,h2,h3,h4⟩:=ixN_seq e
  exact ⟨j,h1,h,h2,h3,h4⟩
theorem atI_nat {α:Type} {xs:List α} {j:Nat} {v:α} (h:xs[j]? = some v):atI xs (j:Int) = some v:=by
 have hj:j < xs.length:=(List.getElem?_eq_some_iff.mp h).1
 have e:ixN xs.length (j:Int) = some j:=by
  unfold ixN
  rw [if_pos (by lia),if_pos (by lia)]; simp
 unfold atI; rw [e]; exact h
def PlainIx (b:Expr):Prop:=∀ o i,subscripted b false o i = operate [o,i] (getItem o i)
def IxR (X:Cx) (r:R2):Prop :=
 ∀ (value slice:Expr) (pins:List (Addr × Obj)) (s:Shared) (σ:St) (H:Hp) (x y:V) (v u:Value) (Q:VK),Inv X pins σ H s -> RelV x v -> RelV y u -> r x y H Q ->
  subscripted slice false v u = operate [v,u] (getItem v u) -> wpAny (model X.prog X.w) X.A (subscriptTail value slice v u) (EP X pins σ Q) X.xe s
def MtR (X:Cx) (id:String) (r:V -> List V -> Hp -> VK -> Prop):Prop :=
 ∀ (pins:List (Addr × Obj)) (s:Shared) (σ:St) (H:Hp) (x:V) (xs:List V) (v:Value) (us:List Value) (Q:VK),Inv X pins σ H s -> RelV x v -> Vals xs us -> r x xs H Q ->
  wpAny (model X.prog X.w) X.A (call (.builtin id) (v :: us)) (EP X pins σ Q) X.xe s
section
variable {X:Cx} {a b:Expr} {ta tb:TE} {pos:Pos}
theorem IxR.or {r r':R2} (h:IxR X r) (h':IxR X r'):IxR X (fun x y H Q=>r x y H Q \/ r' x y H Q):=by
 intro value slice pins s σ H x y v u Q I rx ry q hs
 rcases q with q | q
 ·exact h value slice pins s σ H x y v u Q I rx ry q hs
 ·exact h' value slice pins s σ H x y v u Q I rx ry q hs
theorem pe_ix {r:R2} (hr:IxR X r) (ha:PE X a ta) (hb:PE X b tb) (hs:PlainIx b):PE X (.Subscript a b pos) (tOp r ta tb):=by
 intro pins s σ H Q I h
 exact Subscript_ (binT ha hb I h fun v u s2 x y H2 I2 rx ry q=>hr a b pins s2 σ H2 x y v u Q I2 rx ry q (hs _ _))
def rIxL (K:PySem.W.Frag):R2:=fun x y H Q=>∃ p xs i v,x = .ref p /\ y = .int i /\ SqL K H p xs /\ atI xs i = some v /\ Q v H
def rIxT (K:PySem.W.Frag):R2:=fun x y H Q=>∃ p xs i v,x = .ref p /\ y = .int i /\ SqT K H p xs /\ atI xs i = some v /\ Q v H
def rIxS:R2:=fun x y H Q=>∃ z i c,x = .str z /\ y = .int i /\ z.length <= sizeLine /\ atI z.cps.toList i = some c /\ Q (.str ⟨#[c]⟩) H
theorem ix_list:IxR X (rIxL X.K):=by
 intro value slice pins s σ H x y v u Q I rx ry h hs
 obtain ⟨p,xs,i,z,rfl,rfl,hq,he,q⟩:=h
 cases rx
 obtain ⟨t,rfl⟩:=ry
 obtain ⟨its,r,pl,hz⟩:=I.list hq
 obtain ⟨j,h1,h2,h3,h4,h5⟩:=atI_get he
 obtain ⟨w,ew,rw'⟩:=r.get h2
 have hl:=r.length
 have hn:=line63
 have fin:EP X pins σ Q w s:=⟨z,H,I,rw',q⟩
 by_cases h0:0 <= i
 ·have hj:i.toNat = j:=by
   rw [seqIndex_of h0 h5] at h1
   exact Option.some.inj h1
  exact item_listR pl.isList h0 (by lia) (by rw [hj]; simpa using ew) fin hs
 ·have hj:(i + (its.toArray.size:Int)).toNat = j:=by
   rw [seqIndex_neg (by lia) h4] at h1
   rw [List.size_toArray,<- hl]
   exact Option.some.inj h1
  exact subscriptTail_builtinR (x:=w) pl.isList.typeIs slot_list_getitem.lookup
   (wpAny_getItem_list_neg (Q:=fun r s'=>r = w /\ EP X pins σ Q r s') pl.isList (by lia) (by rw [List.size_toArray] <;> lia) (by lia) (by rw [hj]; simpa using ew) ⟨rfl,fin⟩) hs
theorem ix_tup:IxR X (rIxT X.K):=by
 intro value slice pins s σ H x y v u Q I rx ry h hs
 obtain ⟨p,xs,i,z,rfl,rfl,hq,he,q⟩:=h
 cases rx
 obtain ⟨t,rfl⟩:=ry
 obtain ⟨its,r,pl,hz⟩:=I.tuple hq
 obtain ⟨j,h1,h2,h3,h4,h5⟩:=atI_get he
 obtain ⟨w,ew,rw'⟩:=r.get h2
 have hl:=r.length
 have hn:=line63
 have fin:EP X pins σ Q w s:=⟨z,H,I,rw',q⟩
 exact subscriptTail_builtinR (x:=w) pl.typeIs slot_tuple_getitem.lookup
  (getItem_tuple (j:=j) (Q:=fun r s'=>r = w /\ EP X pins σ Q r s') pl (by lia) (by lia) (by rw [List.size_toArray,<- hl]; exact h1) (by simpa using ew) ⟨rfl,fin⟩) hs
theorem ix_str:IxR X rIxS:=by
 intro value slice pins s σ H x y v u Q I rx ry h hs
 obtain ⟨z,i,c,rfl,rfl,hz,he,q⟩:=h
 obtain ⟨t,rfl⟩:=rx
 obtain ⟨t',rfl⟩:=ry
 obtain ⟨j,h1,h2,h3,h4,h5⟩:=atI_get he
 have hl:z.cps.toList.length = z.length:=by simp [Str.length]
 rw [hl] at h1 h4 h5
 have hn:=line63
 exact tail_any (typeIs_str s z t) slot_str_getitem.lookup (getItem_str (c:=c) (by
  have e1:decide (i < -(2 ^ 63:Int)) = false:=decide_eq_false (by lia)
  have e2:decide (i >= 2 ^ 63) = false:=decide_eq_false (by lia)
  rw [e1,e2,Bool.or_false]) (by rw [h1]; simpa using h2) ⟨.str ⟨#[c]⟩,H,I.tok _,⟨_,rfl⟩,q⟩) hs
def rIx (K:PySem.W.Frag):R2:=fun x y H Q=>rIxL K x y H Q \/ rIxT K x y H Q \/ rIxS x y H Q
theorem ix_seq:IxR X (rIx X.K):=ix_list.or (ix_tup.or ix_str)
theorem mapSeq_set (its:List Value) (n j:Nat) (u:Value):Obj.mapSeq (·.setIfInBounds j u) { cls:=.type "list",data:=.seq its.toArray n } = { cls:=.type "list",data:=.seq (its.set j u).toArray n }:=by
 simp [Obj.mapSeq]
theorem Inv.lst {pins:List (Addr × Obj)} {σ:St} {H:Hp} {s:Shared} {p:Addr} {xs:List V} (I:Inv X pins σ H s) (h:H p = some (.lst xs)) :
  ∃ (its:List Value) (n:Nat),Vals xs its /\ s.heap.get? p = some { cls:=.type "list",data:=.seq its.toArray n } /\ xs.length <= sizeLine:=by
 obtain ⟨z,its,n,r,e⟩:=I.hok p _ h
 exact ⟨its,n,r,e,z⟩
theorem Inv.lstUpd {pins:List (Addr × Obj)} {σ:St} {H:Hp} {s:Shared} {p:Addr} {xs ys:List V} {its its':List Value} {n n':Nat} {f:Obj -> Obj} (I:Inv X pins σ H s) (h:H p = some (.lst xs))
  (ho:s.heap.get? p = some { cls:=.type "list",data:=.seq its.toArray n }) (hf:f { cls:=.type "list",data:=.seq its.toArray n } = { cls:=.type "list",data:=.seq its'.toArray n' }) (r:Vals ys its') (hz:ys.length <= sizeLine) (t:Nat) :
  Inv X pins σ (upd H p (.lst ys)) { s with heap:=s.heap.update p f,toks:=t }:=by
 have e:(s.heap.update p f).get? p = some { cls:=.type "list",data:=.seq its'.toArray n' }:=by
  rw [Heap.get?_update_self f ho (by rw [hf] <;> rfl),hf]
 refine I.write (x:=p) (e:=p) (by rw [h]; trivial) (.inl rfl) (fun b u hb q=>(Heap.get?_update_other _ _ (Ne.symm hb)).trans q) ⟨_,e⟩ ?_
 exact ⟨hz,its',n',r,e⟩
def rSetL:V -> V -> V -> Hp -> (Hp -> Prop) -> Prop:=fun o i v H Q=>∃ p xs k j,o = .ref p /\ i = .int k /\ H p = some (.lst xs) /\ ixN xs.length k = some j /\ Q (upd H p (.lst (xs.set j v)))
theorem set_list:PSet X rSetL:=by
 intro pins s σ H o i v ov iv u Q I ro ri rv h
 obtain ⟨p,xs,k,j,rfl,rfl,hp,hj,q⟩:=h
 cases ro
 obtain ⟨t,rfl⟩:=ri
 obtain ⟨its,n,r,ho,hz⟩:=I.lst hp
 obtain ⟨h1,h2,h3,h4⟩:=ixN_seq hj
 have hl:=r.length
 have hn:=line63
 have I':Inv X pins σ (upd H p (.lst (xs.set j v))) { s with heap:=s.heap.update p (Obj.mapSeq (·.setIfInBounds j u)) } :=
  I.lstUpd hp ho (mapSeq_set its n j u) (r.set rv j) (by rw [List.length_set]; exact hz) s.toks
 by_cases h0:0 <= k
 ·have hk:k.toNat = j:=by
   rw [seqIndex_of h0 h4] at h1
   exact Option.some.inj h1
  exact PySem.W.ki_setAt ho h0 (by lia) (by rw [List.size_toArray,<- hl]; exact h4) (by rw [hk]; exact ⟨_,I',q⟩)
 ·have hk:(k + (its.toArray.size:Int)).toNat = j:=by
   rw [seqIndex_neg (by lia) h3] at h1
   rw [List.size_toArray,<- hl]
   exact Option.some.inj h1
  exact PySem.W.ki_setBack ho (by lia) (by rw [List.size_toArray,<- hl]; exact h3) (by lia) (by rw [hk]; exact ⟨_,I',q⟩)
theorem slice_bounds (lo hi:Option Int) (n:Nat):(sliceBounds lo hi none n).1 = ((HT.sIx n 0 lo:Nat):Int) /\ (sliceBounds lo hi none n).2.1 = ((HT.sIx n n hi:Nat):Int) /\ (sliceBounds lo hi none n).2.2 = 1:=by
 refine ⟨?_,?_,rfl⟩
 ·cases lo with
  | none=>simp [sliceBounds,HT.sIx]
  | some i =>
   simp only [sliceBounds,HT.sIx,Option.getD_none,show (1:Int) > 0 by decide,if_true]
   by_cases h:i < 0
   ·simp only [h,if_true] <;> lia
   ·simp only [h,if_false] <;> lia
 ·cases hi with
  | none=>simp [sliceBounds,HT.sIx]
  | some i =>
   simp only [sliceBounds,HT.sIx,Option.getD_none,show (1:Int) > 0 by decide,if_true]
   by_cases h:i < 0
   ·simp only [h,if_true] <;> lia
   ·simp only [h,if_false] <;> lia
theorem slicePick_cut (its:List Value) (lo hi:Option Int):slicePick its.toArray lo hi none = ((its.drop (HT.sIx its.length 0 lo)).take (HT.sIx its.length its.length hi - HT.sIx its.length 0 lo)).toArray:=by
 obtain ⟨h1,h2,h3⟩:=slice_bounds lo hi its.toArray.size
 unfold slicePick
 rw [h1,h2,h3]
 simp only [sliceRange_one,pick_run,List.size_toArray] <;> rfl
def rSlL (K:PySem.W.Frag):V -> Option Int -> Option Int -> Hp -> VK -> Prop:=fun x lo hi H Q=>∃ a xs,x = .ref a /\ SqL K H a xs /\ ∀ p,H p = none -> Q (.ref p) (upd H p (.lst (cutV xs lo hi)))
theorem sl_list:SlR X (rSlL X.K):=by
 intro pins s σ H x v vl vu lo hi sl Q I rx hs pl pu h
 obtain ⟨a,xs,rfl,hx,q⟩:=h
 cases rx
 obtain ⟨its,r,ht,hz⟩:=I.list hx
 have hlen:=r.length
 refine ⟨"list",_,slot_list_getitem.lookup,ht.isList.typeIs,?_⟩
 refine wpAny_getItem_list_slice ht.isList hs pl pu .none (by simp) ?_ (by rw [List.size_toArray] <;> lia)
 rw [slicePick_cut,<- hlen]
 refine ⟨.ref s.heap.objs.size,_,I.laid (t':=s.toks) (o:=.lst (cutV xs lo hi)) (fun b ob q=>Heap.get?_push_of_some _ q) (Nat.le_refl _) ?_,rfl,q _ (I.hok.fresh (Nat.le_refl _))⟩
 exact ⟨Nat.le_trans (cutV_length xs lo hi) hz,_,0,(r.drop (HT.sIx xs.length 0 lo)).take (HT.sIx xs.length xs.length hi - HT.sIx xs.length 0 lo),Heap.get?_push_size _ rfl⟩
theorem call_len_seq:CallR X (.builtin "len") (fun xs H Q=>∃ p ys,xs = [.ref p] /\ (SqL X.K H p ys \/ SqT X.K H p ys) /\ Q (.int ys.length) H):=by
 intro pins s σ H xs us Q I r h
 obtain ⟨p,ys,rfl,hq,q⟩:=h
 obtain ⟨u,rfl,rx⟩:=vals1 r
 cases rx
 have hn:=line63
 rcases hq with hq | hq
 ·obtain ⟨its,r',pl,hz⟩:=I.list hq
  have hlen:=r'.length
  exact Calls.call_len_list pl.isList (by simp only [List.size_toArray] <;> lia) ⟨.int ys.length,H,I.tok _,⟨s.toks + 1,by rw [List.size_toArray,hlen]⟩,q⟩
 ·obtain ⟨its,r',pl,hz⟩:=I.tuple hq
  have hlen:=r'.length
  exact len_tuple pl (by simp only [List.size_toArray] <;> lia) ⟨.int ys.length,H,I.tok _,⟨s.toks + 1,by rw [List.size_toArray,hlen]⟩,q⟩
theorem call_tuple_of:CallR X (.type "tuple") (fun xs H Q=>∃ p ys,xs = [.ref p] /\ ((SqL X.K H p ys /\ ∀ l,H l = none -> Q (.ref l) (upd H l (.tup ys))) \/ (SqT X.K H p ys /\ Q (.ref p) H))):=by
 intro pins s σ H xs us Q I r h
 obtain ⟨p,ys,rfl,h⟩:=h
 obtain ⟨u,rfl,rx⟩:=vals1 r
 cases rx
 rcases h with ⟨hq,q⟩ | ⟨hq,q⟩
 ·obtain ⟨its,r',pl,hz⟩:=I.list hq
  have hlen:=r'.length
  refine call_tuple_list pl.isList (fun h' kp=>?_) (by simp only [List.size_toArray] <;> lia)
  have I1:Inv X pins σ H { s with heap:=h' }:=I.kept (t':=s.toks) kp
  have I2:Inv X pins σ (upd H h'.objs.size (.tup ys)) { s with heap:=h'.push { cls:=.type "tuple",data:=.seq its.toArray } } :=
   I1.laid (t':=s.toks) (fun b o e=>Heap.get?_push_of_some _ e) (Nat.le_refl _) (show ObjOk X.prog X.w _ _ _ (.tup ys) from ⟨hz,its,r',IsTD.new _ _⟩)
  exact ⟨.ref h'.objs.size,_,I2,rfl,q _ (I1.hok.fresh (Nat.le_refl _))⟩
 ·obtain ⟨its,r',pl,hz⟩:=I.tuple hq
  exact call_tuple_same pl ⟨.ref p,H,I,rfl,q⟩
def tyV (K:PySem.W.Frag) (T:String) (x:V) (H:Hp):Prop:=match x with
 | .str _=>T = "str"
 | .int _=>T = "int"
 | .ref p=>(T = "list" /\ ∃ xs,SqL K H p xs) \/ (T = "tuple" /\ ∃ o,K.lookup p = some o /\ o.cls = .type "tuple" /\ o.dict = none) \/
   (T = "dict" /\ ((∃ kvs,H p = some (.dK kvs)) \/ ∃ kvs,H p = some (.dT kvs))) \/ (T = "set" /\ ∃ S n,H p = some (.set S n))
 | _=>False
theorem tyV_is {pins:List (Addr × Obj)} {σ:St} {H:Hp} {s:Shared} {T:String} {x:V} {v:Value} (I:Inv X pins σ H s) (r:RelV x v) (ty:tyV X.K T x H) :
  s.TypeIs v T /\ ∀ a,v = .ref a -> ∃ ob,s.heap.get? a = some ob /\ ob.dict = none:=by
 cases x with
 | str z =>
  obtain ⟨t,rfl⟩:=r
  cases (show T = "str" from ty)
  exact ⟨typeIs_str s z t,fun _ e=>nomatch e⟩
 | int i =>
  obtain ⟨t,rfl⟩:=r
  cases (show T = "int" from ty)
  exact ⟨typeIs_int s i t,fun _ e=>nomatch e⟩
 | ref p =>
  cases r
  rcases ty with ⟨rfl,xs,hq⟩ | ⟨rfl,o,hk,hc,hd⟩ | ⟨rfl,hk⟩ | ⟨rfl,S,n,hk⟩
  ·obtain ⟨its,_,pl,_⟩:=I.list hq
   refine ⟨pl.isList.typeIs,fun a e=>?_⟩
   cases e
   obtain ⟨o,n,e,c,hd,_⟩:=pl
   exact ⟨o,e,hd⟩
  ·refine ⟨⟨o,I.kIn p o hk,hc⟩,fun a e=>?_⟩
   cases e
   exact ⟨o,I.kIn _ o hk,hd⟩
  ·have z:∃ o,s.heap.get? p = some o /\ o.ExactDict:=by
    rcases hk with ⟨kvs,hk⟩ | ⟨kvs,hk⟩
    ·obtain ⟨_,_,_,_,o,_,_,e,ex,_⟩:=I.hok p _ hk
     exact ⟨o,e,ex⟩
    ·obtain ⟨_,_,_,_,o,_,_,e,ex,_⟩:=I.hok p _ hk
     exact ⟨o,e,ex⟩
   obtain ⟨o,e,ex⟩:=z
   refine ⟨⟨o,e,ex.1⟩,fun a e2=>?_⟩
   cases e2
   exact ⟨o,e,ex.2.1⟩
  ·obtain ⟨o,_,_,_,e,ex,_⟩:=I.hok p _ hk
   refine ⟨⟨o,e,ex.1⟩,fun a e2=>?_⟩
   cases e2
   exact ⟨o,e,ex.2.1⟩
 | _=>exact False.elim ty
def tBM0 (K:PySem.W.Frag) (T:String) (r:V -> List V -> Hp -> VK -> Prop) (to:TE):TE:=fun σ H Q=>to σ H fun x H1=>tyV K T x H1 /\ r x [] H1 Q
def tBM (K:PySem.W.Frag) (T:String) (r:V -> List V -> Hp -> VK -> Prop) (to:TE) (t:TA):TE:=fun σ H Q=>to σ H fun x H1=>tyV K T x H1 /\ t σ H1 fun xs H2=>r x xs H2 Q
variable {o e:Expr} {es:List Expr} {to:TE} {t:TA} {name:Str} {apos cpos:Pos} {T id:String} {r:V -> List V -> Hp -> VK -> Prop}
theorem pe_bm0 (pa:PlainAttrs T) (slot:Slot T name id) (hty:typeOf (.builtin id) = pure (.type "method_descriptor")) (hm:MtR X id r) (ho:PE X o to)
  (hbase:attributeBase o name X.env (eval o X.env) = eval o X.env:=by rfl) (hline:(apos.endLine == cpos.line) = true:=by rfl):PE X (.Call (.Attribute o name apos) [] [] cpos) (tBM0 X.K T r to):=by
 intro pins s σ H Q I h
 refine wpAny_Call_method0_late hbase hline (thn (ho pins s σ H _ I h) fun v s1 ⟨x,H1,I1,r1,ty,q1⟩=>?_)
 obtain ⟨h1,h2⟩:=tyV_is I1 r1 ty
 exact ⟨T,id,pa,slot,hty,h1,h2,Calls.callWith_builtin rfl (PySem.evalArgs_none (hm pins s1 σ H1 x [] v [] Q I1 r1 .nil q1))⟩
theorem pe_bm (pa:PlainAttrs T) (slot:Slot T name id) (hty:typeOf (.builtin id) = pure (.type "method_descriptor")) (hm:MtR X id r) (ho:PE X o to) (ha:PA X (e :: es) t)
  (hbase:attributeBase o name X.env (eval o X.env) = eval o X.env:=by rfl)
  (hfew:((backTo cpos (starEach (e :: es) X.env)).all (fun x=>!x.1) && (backToKw cpos (keywordEach [] X.env)).all (fun x=>x.1.isSome)
   && decide ((e :: es).length + ([]:List Keyword).length + (if ([]:List Keyword).isEmpty then 0 else 1) < 30)) = true:=by rfl)
  (hline:(apos.endLine == cpos.line) = true:=by rfl) (hs:starEach (e :: es) X.env = (false,eval e X.env) :: starEach es X.env:=by rfl) (hplain:(backTo cpos (starEach es X.env)).any (·.1) = false:=by rfl) :
  PE X (.Call (.Attribute o name apos) (e :: es) [] cpos) (tBM X.K T r to t):=by
 intro pins s σ H Q I h
 refine wpAny_Call_method_late hbase hfew hline rfl (thn (ho pins s σ H _ I h) fun v s1 ⟨x,H1,I1,r1,ty,q1⟩=>?_)
 obtain ⟨h1,h2⟩:=tyV_is I1 r1 ty
 refine ⟨T,id,pa,slot,hty,h1,h2,?_⟩
 have hA:=ha cpos pins s1 σ H1 _ I1 q1
 rw [hs] at hA ⊢
 refine Calls.callWith_builtin (by show (false || (backTo cpos (starEach es X.env)).any (·.1)) = false; rw [hplain] <;> rfl) (Calls.evalArgs_plain ?_)
 exact thn hA fun us s2 ⟨vs,H2,I2,r2,q2⟩=>hm pins s2 σ H2 x vs v us Q I2 r1 r2 q2
end
end L2
namespace L2
open PySem PySem.Spec PyProof.Rows
def MtM (X:Cx) (id:String) (r:V -> List V -> Hp -> VK -> Prop):Prop :=
 ∀ (pins:List (Addr × Obj)) (s:Shared) (σ:St) (H:Hp) (x:V) (xs:List V) (v:Value) (us:List Value) (Q:VK),Inv X pins σ H s -> RelV x v -> Vals xs us -> r x xs H Q ->
  wpAny (model X.prog X.w) X.A (call (.builtin id) (v :: us)) (EP X pins σ Q) X.xe s
theorem Vals.one:∀ {x:V} {us:List Value},Vals [x] us -> ∃ u,us = [u] /\ RelV x u
 | _,_,.cons r .nil=>⟨_,rfl,r⟩
section
variable {X:Cx} {pins:List (Addr × Obj)} {σ:St} {H:Hp} {s:Shared} {l b:Addr} {xs ys zs:List V}
theorem Inv.lset {its its':List Value} {n:Nat} {f:Array Value -> Array Value} {t':Nat} (I:Inv X pins σ H s) (hH:H l = some (.lst xs))
  (e:s.heap.get? l = some { cls:=.type "list",data:=.seq its.toArray n }) (hf:f its.toArray = its'.toArray) (hv:Vals ys its') (hz:ys.length <= sizeLine) :
  Inv X pins σ (upd H l (.lst ys)) { s with heap:=s.heap.update l (Obj.mapSeq f),toks:=t' }:=by
 have q:=PySem.IsL.update e f
 rw [hf] at q
 refine I.write (x:=l) (e:=l) (by rw [hH]; exact trivial) (.inl rfl) (fun b' u hb hu=>(Heap.get?_update_other s.heap (Obj.mapSeq f) (Ne.symm hb)).trans hu) ⟨_,q⟩ ?_
 exact ⟨hz,its',_,hv,q⟩
theorem Inv.lnew {its:List Value} {t':Nat} (I:Inv X pins σ H s) (hv:Vals ys its) (hz:ys.length <= sizeLine) :
  Inv X pins σ (upd H s.heap.objs.size (.lst ys)) { s with heap:=s.heap.push { cls:=.type "list",data:=.seq its.toArray },toks:=t' } :=
 I.laid (fun _ _ q=>Heap.get?_push_of_some _ q) (Nat.le_refl _) ⟨hz,its,0,hv,Heap.get?_push_size _ rfl⟩
theorem Inv.fresh (I:Inv X pins σ H s):H s.heap.objs.size = none:=I.hok.fresh (Nat.le_refl _)
theorem Inv.lstM (I:Inv X pins σ H s) (hH:H l = some (.lst xs)):xs.length <= sizeLine /\ ∃ (its:List Value) (n:Nat),Vals xs its /\ xs.length = its.length /\ s.heap.get? l = some { cls:=.type "list",data:=.seq its.toArray n }:=by
 obtain ⟨z,its,n,r,e⟩:=I.hok l _ hH
 exact ⟨z,its,n,r,r.length,e⟩
end
section
variable {X:Cx}
def rAppend:V -> List V -> Hp -> VK -> Prop:=fun x vs H Q=>∃ l xs y,x = .ref l /\ vs = [y] /\ H l = some (.lst xs) /\ xs.length < sizeLine /\ Q .non (upd H l (.lst (xs ++ [y])))
theorem mt_append:MtM X "list.append" rAppend:=by
 intro pins s σ H x vs v us Q I rx rv h
 obtain ⟨l,xs,y,rfl,rfl,hH,hz,q⟩:=h
 cases rx
 obtain ⟨u,rfl,ru⟩:=rv.one
 obtain ⟨z,its,n,r,hl,e⟩:=I.lstM hH
 refine call_meets F.slot_list_append ⟨_,e,rfl⟩ F.entry_list_append (F.args_list_append_2 _ _) (PySem.list_append l its.toArray n u (by rw [List.size_toArray]; lia)) ⟨e,?_⟩
 refine ⟨.non,_,I.lset (its':=its ++ [u]) hH e (by simp) (r.append (.cons ru .nil)) ?_,rfl,q⟩
 rw [List.length_append,List.length_singleton]
 lia
def rCat:R2:=fun x y H Q=>∃ l b xs zs,x = .ref l /\ y = .ref b /\ H l = some (.lst xs) /\ H b = some (.lst zs) /\ xs.length + zs.length <= sizeLine /\ ∀ p,H p = none -> Q (.ref p) (upd H p (.lst (xs ++ zs)))
theorem op_cat:OpR X (binaryOp .Add) rCat:=by
 intro pins s σ H x y v u Q I rx ry h
 obtain ⟨l,b,xs,zs,rfl,rfl,hH,hB,hz,q⟩:=h
 cases rx
 cases ry
 obtain ⟨z,its,n,r,hl,e⟩:=I.lstM hH
 obtain ⟨z2,its2,n2,r2,hl2,e2⟩:=I.lstM hB
 refine PySem.P.add_list e e2 ?_ (by rw [List.size_toArray,List.size_toArray]; lia)
 have ea:its.toArray ++ its2.toArray = (its ++ its2).toArray:=by simp
 rw [ea]
 exact ⟨.ref _,_,I.lnew (t':=s.toks) (r.append r2) (by rw [List.length_append]; lia),rfl,q _ I.fresh⟩
end
end L2
namespace Att
open PySem PySem.W PySem.Calls PyProof.Rows
theorem ints_of_wellAll {P:Params} {h:Heap}:∀ (ns:List Int) (vs:List Value),WellAll P h vs (ns.map WData.int) -> IntsAre vs ns:=by
 intro ns
 induction ns with
 | nil =>
  intro vs w
  rw [List.map_nil] at w
  cases w
  exact .nil
 | cons n ns ih =>
  intro vs w
  rw [List.map_cons] at w
  cases w with
  | cons a b =>
   cases a
   exact .cons _ _ (ih _ b)
theorem script_of {l:OpenLaw} {n:Nat} (hn:l.most = some n) {P:Params} {h:Heap} {args:List WData} {vals:List Value}
  (hpre:l.row.toRowW.claim.pre args = true) (hwl:WellAll P h vals args) :
  ∃ a vs ns,vals = [Value.ref a] /\ args = [WData.list (ns.map WData.int)] /\ h.get? a = some { cls:=.type "list",data:=.seq vs.toArray } /\ IntsAre vs ns /\ ns.length <= n:=by
 have hsh:WShape.hasAll [] args [.list .int] = true:=(pre_splitW hpre).1
 have hc:l.pre.holds [] { args:=args } = true:=(pre_splitW hpre).2
 obtain ⟨d,r,rfl,h1,h2⟩:=hasAllW_cons hsh
 obtain rfl:=hasAllW_nil h2
 obtain ⟨xs,rfl,h3⟩:=hasW_list h1
 obtain ⟨ns,rfl⟩:=items_int h3
 have hlen:ns.length <= n:=by
  unfold OpenLaw.pre at hc
  have h4:(WTm.not (.lt (.lit (.int (n:Int))) (.len (.arg 0)))).holds [] { args:=[.list (ns.map .int)] } = true:=by
   have h4:=(holds_andW hc).1
   rw [hn] at h4
   exact h4
  have h5:=condW_of h4 (w_not (w_lt w_lit (w_len_list (w_arg rfl))))
  rw [List.length_map] at h5
  refine Nat.le_of_not_lt fun q=>?_
  have q':(n:Int) < ((ns.length:Nat):Int):=by lia
  first
   | (rw [decide_eq_true q'] at h5; exact absurd h5 (by decide))
   | (simp at h5; lia)
 cases hwl with
 | cons w1 w2 =>
  cases w2
  cases w1 with
  | list ho hall=>exact ⟨_,_,ns,rfl,rfl,ho,ints_of_wellAll ns _ hall,hlen⟩
theorem post_true (l:OpenLaw) (args:List WData):l.row.toRowW.claim.post args (.bool true) args = true :=
 postW_of (r:=l.row.toRowW) (X:=(true == true))
  (show WShape.has [] (.bool true) .bool = true by first | rfl | decide | simp [WShape.has,WShape.arms,WShape.armsAll])
  (show (WTm.eq .res (.lit (.bool true))).value [] { args:=args,res:=some (.bool true),after:=args } = some (.bool (true == true)) from w_eq_bool (w_res rfl) w_lit) rfl
theorem attach_call {l:OpenLaw} {n:Nat} {q:Program} {loose:List Str} {XP:(Str -> Option Value) -> Heap -> Prop} {YP:World -> Heap -> Prop} {d:DefRec}
  (hn:l.most = some n) (hdf:d.params.defaults = [])
  (call:∀ (w:World) (s₀ s₁:Shared) (mg mb:Str -> Option Value) (fa:Addr) (o:Obj) (pm cd doc:Value) (a:Addr) (vs:List Value) (ns:List Int),
   Ground q loose [] XP w s₀ mg mb s₁.heap -> YP w s₁.heap ->
   s₁.heap.get? fa = some o -> o.data = .func (docDef d.name d.params d.body d.scope pm cd doc) -> s₁.heap.CodeRec cd d.name -> mg d.name = some (.ref fa) ->
   s₁.heap.get? a = some { cls:=.type "list",data:=.seq vs.toArray } -> IntsAre vs ns -> ns.length <= n -> s₁.gens = #[] ->
   codeAny (model l.prog w) callerA (.call (.ref fa) ⟨[.ref a],[]⟩) (fun r s'=>r = .ok (.ret (.bool true)) /\ OldK s₁.heap s'.heap /\ s'.os = s₁.os /\ AllBare s'.gens) s₁) :
  WalkO q loose XP YP l.row.toRowW d [] (fun f vs=>PySem.call f vs):=by
 intro w s₀ s₁ mg mb G Y fa o pm cd doc dV kV ho hd hcd hD hmg hg args vals as hpre hlay hrd hwl hlo
 obtain rfl:dV = .none:=Dflts.none hD hdf
 obtain rfl:kV = .none:=Dflts.noKw hD
 obtain ⟨a,vs,ns,rfl,rfl,hobj,hints,hlen⟩:=script_of hn hpre hwl
 refine enter_call (codeAny_mono (call w s₀ s₁ mg mb fa o pm cd doc a vs ns G Y ho (fd_plain hd) hcd hmg hobj hints hlen hg) fun r s' hq=>?_)
 obtain ⟨rfl,h2,h3,h4⟩:=hq
 exact ⟨.inl ⟨.bool true,.bool true,[],rfl,fun _=>rfl,.bool true,post_true l _,fun _=>⟨List.Pairwise.nil,fun _ hm=>(nomatch hm)⟩⟩,h2,h3,h4⟩
end Att
namespace L2
open PySem PySem.Spec PyProof.Rows
theorem vals_ints:∀ {vs:List Value} {ns:List Int},IntsAre vs ns -> Vals (ns.map V.int) vs
 | _,_,.nil=>.nil
 | _,_,.cons n t h=>.cons ⟨t,rfl⟩ (vals_ints h)
def Only (H:Hp):Prop:=∀ b,H b = none \/ ∃ o xs,H b = some (.frz o (.lst xs))
theorem law_call {P:Program} {w:World} {K:PySem.W.Frag} {mg mb:Str -> Option Value} {CX:CXT} {k:Nat} {fa a:Addr} {fd:FuncData} {x:Str} {sp:Sp} {s₁:Shared} {vs:List Value} {ns:List Int}
  (KX:K.In s₁.heap) (hns:s₁.heap.Ns mainGlobals mg) (hb:s₁.heap.Ns builtinsNs mb) (hbb:∀ x:Str,x ≠ "__name__" -> mb x = bootBuiltins x) (hlim:s₁.heap.NoLimit) (hg:s₁.gens = #[])
  (ha:s₁.heap.get? a = some { cls:=.type "list",data:=.seq vs.toArray }) (hi:IntsAre vs ns) (hl:ns.length <= sizeLine) (hr:Room k callerA)
  (F:∀ base:Heap,K.In base -> base.Ns mainGlobals mg -> FnOk P w K mg base CX k fa fd [x] sp) (hbind:∀ (s:Shared) (u:Value),BindsTo s fd ⟨[u],[]⟩ [(x,u)])
  (hsp:∀ H:Hp,Only H -> SqL K H a (ns.map V.int) -> sp [.ref a] H (fun v _=>v = .bl true) fun _ _ _=>False)
  (hCX:∀ H e s',CX [] H s₁ (fun _ _ _=>False) e s' -> False) :
  codeAny (model P w) callerA (.call (.ref fa) ⟨[.ref a],[]⟩) (fun r s'=>r = .ok (.ret (.bool true)) /\ OldK s₁.heap s'.heap /\ s'.os = s₁.os /\ AllBare s'.gens) s₁:=by
 have rv:=vals_ints hi
 have lenV:=hi.length
 have core:∀ H:Hp,Only H -> SqL K H a (ns.map V.int) -> HOk P w H s₁.heap -> (∀ b,H b ≠ none -> b = a) -> (H a ≠ none -> K.lookup a = none) ->
   codeAny (model P w) callerA (.call (.ref fa) ⟨[.ref a],[]⟩) (fun r s'=>r = .ok (.ret (.bool true)) /\ OldK s₁.heap s'.heap /\ s'.os = s₁.os /\ AllBare s'.gens) s₁:=by
  intro H hO hS hok hA hK
  have base_of:∀ {b:Addr} {o:Obj},s₁.heap.get? b = some o -> H b = none -> (hidT s₁.heap H).get? b = some o:=fun e n=>hidT_get e n
  have noA:∀ {b:Addr} {o:Obj} {es:Array DictEntry} {ep:Nat},s₁.heap.get? b = some o -> o.data = .dict es ep -> H b = none:=fun {b o es ep} e d=>by
   cases q:H b with
   | none=>rfl
   | some u =>
    have e':b = a:=hA b (by rw [q]; simp)
    subst e'
    rw [ha] at e; cases e
    have d':Data.seq vs.toArray _ = Data.dict es ep:=d
    cases d'
  have nsK:∀ {b:Addr} {m:Str -> Option Value},s₁.heap.Ns b m -> (hidT s₁.heap H).Ns b m:=fun {b m} ⟨o,es,ep,e,d,r⟩=>⟨o,es,ep,base_of e (noA e d),d,r⟩
  have hKb:K.In (hidT s₁.heap H):=fun b o e=>base_of (KX b o e) (by
   cases q:H b with
   | none=>rfl
   | some u =>
    have e':b = a:=hA b (by rw [q]; simp)
    subst e'
    rw [hK (by rw [q]; simp)] at e; cases e)
  have hM:Mod K mg (hidT s₁.heap H):=⟨hKb,nsK hns,⟨mb,nsK hb,hbb⟩,let ⟨mc,h1,h2⟩:=hlim; ⟨mc,nsK h1,h2⟩⟩
  have e0:Env0 P w K mg (hidT s₁.heap H) callerA [] s₁ H:=⟨rfl,hM,fun b o e=>of_hidT e,Nat.le_of_eq (hidT_size _ _),trivial,fun b hb=>absurd (show b ∈ ([]:List Addr) from hb) (by simp),hok,.of_eq hg⟩
  refine codeAny_mono ((F _ hKb (nsK hns)).run callerA [] s₁ H ⟨[.ref a],[]⟩ [.ref a] [.ref a] _ _ hr e0 (hbind s₁ (.ref a)) (.cons rfl .nil) (hsp H hO hS)) fun r s' h=>?_
  cases r with
  | error e=>exact (hCX H e s' h).elim
  | ok fl =>
   cases fl with
   | next=>exact False.elim h
   | brk=>exact False.elim h
   | cont=>exact False.elim h
   | ret u =>
    obtain ⟨v,H',os,bare,un,hok',r',q⟩:=h
    have q':v = .bl true:=q
    subst q'
    obtain rfl:u = Value.bool true:=r'
    refine ⟨rfl,OldK.of_keep fun b o e=>?_,os,bare⟩
    cases q:H b with
    | none=>exact un.keep b o e q (by intro z; exact absurd (show b ∈ ([]:List Addr) from z) (by simp)) (by simp)
    | some u =>
     rcases hO b with z | ⟨ob,xs,z⟩
     ·rw [q] at z; cases z
     ·have z2:=un.frzs b ob _ z
      obtain ⟨e1,_⟩:=hok b _ z
      obtain ⟨e2,_⟩:=hok' b _ z2
      rw [e] at e1; cases e1
      exact e2
 cases hk:K.lookup a with
 | some o =>
  have e:=KX a o hk
  rw [ha] at e
  cases e
  refine core (fun _=>none) (fun _=>.inl rfl) (.inr ⟨_,vs.toArray,_,hk,rfl,rfl,rfl,by rw [List.size_toArray,lenV]; exact hl,by simpa using rv⟩) (fun b u z=>by have z':(none:Option HO) = some u:=z; cases z') (fun b z=>absurd rfl z) fun z=>absurd rfl z
 | none =>
  refine core (fun b=>if b = a then some (.frz { cls:=.type "list",data:=.seq vs.toArray } (.lst (ns.map V.int))) else none) (fun b=>?_) (.inl (.inr ⟨{ cls:=.type "list",data:=.seq vs.toArray },if_pos rfl⟩)) (fun b u z=>?_) (fun b z=>?_) fun _=>hk
  ·by_cases hb:b = a
   ·exact .inr ⟨_,_,if_pos hb⟩
   ·exact .inl (if_neg hb)
  ·by_cases hb:b = a
   ·have z':=(if_pos hb).symm.trans z
    cases z'
    subst hb
    exact ⟨ha,by rw [List.length_map]; exact hl,vs,_,rv,ha⟩
   ·have z':=(if_neg hb).symm.trans z
    cases z'
  ·by_cases hb:b = a
   ·exact hb
   ·exact absurd (if_neg hb) z
end L2
namespace L2
open PySem PySem.Spec PyProof.Rows
theorem walk_of {l:PySem.W.OpenLaw} {n k:Nat} {q:Program} {loose:List Str} {XP:(Str -> Option Value) -> Heap -> Prop} {YP:World -> Heap -> Prop} {d:DefRec} {K:Params -> PySem.W.Frag} {CX:World -> CXT} {sp:World -> Sp} {x:Str}
  (hn:l.most = some n) (hn2:n <= sizeLine) (hdf:d.params.defaults = []) (hr:Room k callerA)
  (hY:∀ (w:World) (h:Heap),YP w h -> (K w.params).In h)
  (F:∀ (w:World) (mg:Str -> Option Value) (fa:Addr) (h:Heap),(K w.params).In h -> h.Ns mainGlobals mg -> mg d.name = some (.ref fa) ->
   ∃ fd:FuncData,(∀ (s:Shared) (u:Value),BindsTo s fd ⟨[u],[]⟩ [(x,u)]) /\
    ∀ base:Heap,(K w.params).In base -> base.Ns mainGlobals mg -> FnOk l.prog w (K w.params) mg base (CX w) k fa fd [x] (sp w))
  (hsp:∀ (w:World) (H:Hp) (a:Addr) (ns:List Int),ns.length <= n -> Only H -> SqL (K w.params) H a (ns.map V.int) -> sp w [.ref a] H (fun v _=>v = .bl true) fun _ _ _=>False)
  (hCX:∀ (w:World) (H:Hp) (s:Shared) (e:Value) (s':Shared),CX w [] H s (fun _ _ _=>False) e s' -> False) :
  PySem.W.WalkO q loose XP YP l.row.toRowW d [] (fun f vs=>PySem.call f vs):=by
 refine Att.attach_call hn hdf fun w s₀ s₁ mg mb fa o pm cd doc a vs ns G Y ho hd hcd hmg hobj hints hlen hg=>?_
 have KX:=hY w _ Y
 obtain ⟨fd,hb,hF⟩:=F w mg fa _ KX G.T.g hmg
 exact law_call KX G.T.g G.T.b G.T.builtins G.T.nolimit hg hobj hints (Nat.le_trans hlen hn2) hr hF hb (fun H hO hS=>hsp w H a ns hlen hO hS) fun H e s'=>hCX w H s₁ e s'
end L2
namespace L2
open PySem PySem.Spec PyProof.Rows
def defArgs (s:Stmt):Arguments:=match s with
 | .FunctionDef _ a _ _ _ _ _ _ _ _=>a
 | _=>{ posonlyargs:=[],args:=[],vararg:=none,kwonlyargs:=[],kw_defaults:=[],kwarg:=none,defaults:=[] }
def defBody (s:Stmt):List Stmt:=match s with
 | .FunctionDef _ _ b _ _ _ _ _ _ _=>b
 | _=>[]
def defScope (s:Stmt):Scope:=match s with
 | .FunctionDef _ _ _ _ _ _ sc _ _ _=>sc
 | _=>{ kind:=.function,names:=[],isGenerator:=false,isCoroutine:=false }
abbrev CX0:CXT:=fun _ _ _ _ _ _=>False
abbrev E0:XK:=fun _ _ _=>False
theorem pass0 {X:Cx}:Passes CX0 X E0:=fun _ _ _ _ _ _ _ h=>h.elim
structure Fun (K:PySem.W.Frag) (x qual:Str) (st:Stmt) (f:Addr) (fd:FuncData):Prop where
 ex:∃ (oc:Value) (od:Option Addr) (kV doc pm:Value) (an:Option Addr) (cdv ct:Value) (osl:Array (Option Value)),
  fd = PySem.W.fnOf x qual (defArgs st) (defBody st) (defScope st) .none kV doc pm an cdv ct /\ K.lookup f = some ⟨oc,od,.func fd,osl⟩ /\ PySem.W.codeIn K cdv qual = true
 kp:PySem.W.keepIn K (.ref f) = true
section
variable {P:Program} {w:World} {K:PySem.W.Frag} {mg:Str -> Option Value} {base:Heap}
theorem Fun.ok {x qual:Str} {st:Stmt} {f:Addr} {fd:FuncData} {N ps:List Str} {k:Nat} {sp:Sp} (F:Fun K x qual st f fd) (S:FnScope N ps (defScope st)) (len:∀ vs H Q E,sp vs H Q E -> vs.length = ps.length)
  (hbody:∀ (cdv:Value) (A:Around) (outer:List Env) (s:Shared) (H:Hp) (vs:List V) (Q:VK) (E:XK),Room k (A.deeper (envOfC qual (defScope st) s.heap.objs.size f cdv)) -> sp vs H Q E ->
   ∃ t,PSs (cxOf CX0 P w K mg base N qual (defScope st) f cdv A outer s H E).nox (defBody st) t /\ t { nx:=fun _ H'=>Q .non H',rt:=Q } (start N vs) H):FnOk P w K mg base CX0 (k + 1) f fd ps sp:=by
 obtain ⟨oc,od,kV,doc,pm,an,cdv,ct,osl,rfl,lk,hcd⟩:=F.ex
 refine fn_of lk hcd S len fun A outer s H vs Q E hr hsp=>?_
 obtain ⟨t,h,q⟩:=hbody cdv A outer s H vs Q E hr hsp
 exact ⟨t,h.nox,q⟩
theorem Fun.binds {x qual:Str} {st:Stmt} {f:Addr} {fd:FuncData} {ps:List Str} (F:Fun K x qual st f fd)
  (h:∀ (kV doc pm:Value) (an:Option Addr) (cdv ct:Value) (us:List Value),us.length = ps.length -> bindArgs (PySem.W.fnOf x qual (defArgs st) (defBody st) (defScope st) .none kV doc pm an cdv ct) ⟨us,[]⟩ = pure (ps.zip us)):Binds K fd ps []:=by
 obtain ⟨oc,od,kV,doc,pm,an,cdv,ct,osl,rfl,lk,hcd⟩:=F.ex
 exact .all (h kV doc pm an cdv ct)
theorem fun_mk {x qual:Str} {st:Stmt} {f:Addr} {oc:Value} {od an:Option Addr} {osl:Array (Option Value)} {kV doc pm cdv ct:Value} (l:K.lookup f = some ⟨oc,od,.func (PySem.W.fnOf x qual (defArgs st) (defBody st) (defScope st) .none kV doc pm an cdv ct),osl⟩)
  (c:PySem.W.codeIn K cdv qual = true) (k:PySem.W.keepIn K (.ref f) = true):Fun K x qual st f (PySem.W.fnOf x qual (defArgs st) (defBody st) (defScope st) .none kV doc pm an cdv ct):=⟨⟨oc,od,kV,doc,pm,an,cdv,ct,osl,rfl,l,c⟩,k⟩
end
section
variable {X:Cx}
theorem pv (i:Nat) {x:Str} {pos:Pos} (hN:X.N[i]? = some x:=by rfl) (hv:Vis X.env.scope x:=by first | exact Or.inl rfl | exact Or.inr (Or.inl rfl) | exact Or.inr (Or.inr rfl)) (hd:(x == ("__debug__":Str)) = false:=by decide)
  (hcd:(x == ("__classdict__":Str)) = false:=by decide):PE X (.Name x pos) (tVar i):=pe_var hN hv hd hcd
end
theorem iteF {A B:Prop} (h:B):if false = true then A else B:=by
 rw [if_neg Bool.false_ne_true]
 exact h
theorem iteT {A B:Prop} (h:A):if true = true then A else B:=by
 rw [if_pos rfl]
 exact h
def Same (H H':Hp):Prop:=∀ b o,H b = some o -> H' b = some o
theorem Same.refl (H:Hp):Same H H:=fun _ _ h=>h
end L2
namespace L2
open PySem PySem.Spec PyProof.Rows
def closed (env:Env):List (Str × NameKind) -> List (Str × Addr) -> List (Str × Addr)
 | [],acc=>acc
 | (n,k) :: r,acc=>closed env r (if (k == .free) = true then (n,(env.cells.lookup n).getD 0) :: acc else acc)
theorem closed_loop {env:Env}:∀ (l:List (Str × NameKind)) (acc:List (Str × Addr)),(∀ x ∈ l,x.2 = .free -> ∃ c,env.cells.lookup x.1 = some c) ->
  (forIn l acc fun x __s=>if (x.snd == NameKind.free) = true then do
    let c <- cellOf env x.fst
    pure (ForInStep.yield ((x.fst,c) :: __s))
   else pure (ForInStep.yield __s):Sem (List (Str × Addr))) = pure (closed env l acc)
 | [],acc,_=>rfl
 | (n,k) :: r,acc,h=>by
  have ih:=fun a=>closed_loop (env:=env) r a fun x hx=>h x (List.mem_cons_of_mem _ hx)
  rw [List.forIn_cons]
  by_cases e:(k == NameKind.free) = true
  ·obtain ⟨c,hc⟩:=h (n,k) List.mem_cons_self (by simpa using e)
   have hc':List.lookup n env.cells = some c:=hc
   have e2:cellOf env n = pure c:=by unfold cellOf; rw [hc']
   simp only [e,if_true,e2,pure_bind]
   rw [ih]
   conv=>rhs; unfold closed
   simp only [e,if_true,hc',Option.getD_some]
  ·have e0:(k == NameKind.free) = false:=by simpa using e
   simp only [e0,Bool.false_eq_true,if_false,pure_bind]
   rw [ih]
   conv=>rhs; unfold closed
   simp only [e0,Bool.false_eq_true,if_false]
theorem closureFor_closed {scope:Scope} {env:Env} (h:∀ x ∈ scope.names,x.2 = .free -> ∃ c,env.cells.lookup x.1 = some c):closureFor scope env = pure (closed env scope.names []):=by
 simp only [closureFor]
 rw [closed_loop scope.names [] h]
 rfl
theorem closed_sub {env:Env}:∀ (l:List (Str × NameKind)) (acc:List (Str × Addr)),(∀ x ∈ l,x.2 = .free -> ∃ c,env.cells.lookup x.1 = some c) ->
  (∀ x c,acc.lookup x = some c -> env.cells.lookup x = some c) -> ∀ x c,(closed env l acc).lookup x = some c -> env.cells.lookup x = some c
 | [],acc,_,ha=>ha
 | (n,k) :: r,acc,h,ha=>by
  unfold closed
  refine closed_sub r _ (fun x hx=>h x (List.mem_cons_of_mem _ hx)) fun x c=>?_
  by_cases e:(k == NameKind.free) = true
  ·obtain ⟨d,hd⟩:=h (n,k) List.mem_cons_self (by simpa using e)
   have hd':List.lookup n env.cells = some d:=hd
   simp only [e,if_true,hd',Option.getD_some]
   intro q
   rw [List.lookup_cons] at q
   by_cases ex:(x == n) = true
   ·simp only [ex] at q
    have ex':x = n:=by simpa using ex
    cases q
    rw [ex']; exact hd'
   ·have ex2:(x == n) = false:=by simpa using ex
    simp only [ex2] at q
    exact ha x c q
  ·have e0:(k == NameKind.free) = false:=by simpa using e
   simp only [e0,Bool.false_eq_true,if_false]
   exact ha x c
theorem closed_acc {env:Env}:∀ (l:List (Str × NameKind)) (acc:List (Str × Addr)) (x:Str),(∃ c,acc.lookup x = some c) -> ∃ c,(closed env l acc).lookup x = some c
 | [],_,_,h=>h
 | (n,k) :: r,acc,x,h=>by
  unfold closed
  refine closed_acc r _ x ?_
  by_cases e:(k == NameKind.free) = true
  ·simp only [e,if_true]
   rw [List.lookup_cons]
   cases (x == n) with
   | true=>exact ⟨_,rfl⟩
   | false=>exact h
  ·have e0:(k == NameKind.free) = false:=by simpa using e
   simp only [e0,Bool.false_eq_true,if_false]
   exact h
theorem closed_has {env:Env}:∀ (l:List (Str × NameKind)) (acc:List (Str × Addr)) (x:Str),(x,NameKind.free) ∈ l -> ∃ c,(closed env l acc).lookup x = some c
 | [],_,_,h=>nomatch h
 | (n,k) :: r,acc,x,h=>by
  unfold closed
  rcases List.mem_cons.mp h with e | h
  ·cases e
   refine closed_acc r _ _ ?_
   have hh:(NameKind.free == NameKind.free) = true:=rfl
   simp only [hh,if_true]
   rw [List.lookup_cons]
   simp
  ·exact closed_has r _ x h
theorem lookup_mem {α:Type} {l:List (Str × α)} {x:Str} {v:α} (h:l.lookup x = some v):(x,v) ∈ l:=by
 induction l with
 | nil=>simp at h
 | cons p r ih =>
  obtain ⟨n,w⟩:=p
  rw [List.lookup_cons] at h
  by_cases e:(x == n) = true
  ·simp only [e] at h
   cases h
   have e':x = n:=by simpa using e
   rw [e']; exact List.mem_cons_self
  ·have e2:(x == n) = false:=by simpa using e
   simp only [e2] at h
   exact List.mem_cons_of_mem _ (ih h)
def relab (env:Env) (p:Str × NameKind):Str × NameKind:=if (p.2 == NameKind.free && env.scope.kind == .function && env.kindOf p.1 == some .cell) = true then (p.1,.cell) else p
theorem relab_fst (env:Env) (p:Str × NameKind):(relab env p).1 = p.1:=by
 unfold relab
 by_cases c:(p.2 == NameKind.free && env.scope.kind == .function && env.kindOf p.1 == some .cell) = true
 ·rw [if_pos c]
 ·rw [if_neg c]
def kin (env:Env) (x:Str):Option NameKind -> Option NameKind
 | some .free=>if (env.scope.kind == .function && env.kindOf x == some .cell) = true then some .cell else some .free
 | o=>o
theorem relab_snd (env:Env) (x:Str) (k:NameKind):some (relab env (x,k)).2 = kin env x (some k):=by
 unfold relab
 by_cases c:(k == NameKind.free && env.scope.kind == .function && env.kindOf x == some .cell) = true
 ·rw [if_pos c]
  rw [Bool.and_eq_true,Bool.and_eq_true] at c
  have k':k = .free:=by simpa using c.1.1
  subst k'
  unfold kin
  rw [if_pos (by rw [Bool.and_eq_true]; exact ⟨c.1.2,c.2⟩)]
 ·rw [if_neg c]
  cases k with
  | free =>
   have:¬ (env.scope.kind == .function && env.kindOf x == some .cell) = true:=fun z=>c (by
    have hh:(NameKind.free == NameKind.free) = true:=rfl
    rw [hh,Bool.true_and]; exact z)
   unfold kin
   rw [if_neg this]
  | _=>rfl
theorem relabel_names (scope:Scope) (env:Env):(relabel scope env).names = scope.names.map (relab env):=by
 show scope.names.map _ = _
 refine List.map_congr_left fun p _=>?_
 obtain ⟨n,k⟩:=p
 rfl
theorem relab_look (env:Env):∀ (l:List (Str × NameKind)) (x:Str),(l.map (relab env)).lookup x = kin env x (l.lookup x)
 | [],_=>rfl
 | (n,k) :: r,x=>by
  have ih:=relab_look env r x
  have e0:relab env (n,k) = (n,(relab env (n,k)).2):=Prod.ext (relab_fst env (n,k)) rfl
  rw [List.map_cons,e0,List.lookup_cons,List.lookup_cons]
  by_cases e:(x == n) = true
  ·have e':x = n:=by simpa using e
   subst e'
   simp only [beq_self_eq_true]
   exact relab_snd env x k
  ·have e2:(x == n) = false:=by simpa using e
   simp only [e2]
   exact ih
theorem relabel_look (scope:Scope) (env:Env) (x:Str):(relabel scope env).names.lookup x = kin env x (scope.names.lookup x):=by
 rw [relabel_names]; exact relab_look env _ x
abbrev capN (X:Cx) (capt:List Nat):List Str:=capt.map fun i=>X.N.getD i Str.empty
abbrev capS (capt:List Nat) (σ:St):St:=capt.map fun i=>σ.getD i none
abbrev noneS (own:List Str):St:=own.map fun _=>none
abbrev compCx (X:Cx) (scope:Scope) (own:List Str) (capt:List Nat) (C:Addr) (s₀:Shared) (H₀:Hp) (fp:List Addr):Cx :=
 { X with N:=own ++ capN X capt,s₀:=s₀,H₀:=H₀,env:=compEnvC scope (closed X.env scope.names []) C X.env,outer:=X.stack,stack:=X.stack,ex:=fp,fn:=fun _=>false,pn:=[],xe:=fun _ _=>False }
structure CompScope (scope:Scope) (own:List Str) (capt:List Nat) (X:Cx):Prop where
 kind:scope.kind = .function
 nocell:∀ y ∈ scope.names,y.2 ≠ .cell
 names:∀ y ∈ scope.names,y.2 = .local -> scope.names.lookup y.1 = some .local
 frees:∀ y ∈ scope.names,y.2 = .free -> X.env.kindOf y.1 = some .cell \/ X.env.kindOf y.1 = some .free
 caps:∀ k ∈ capt,scope.names.lookup (X.N.getD k Str.empty) = some .free
theorem getD_some {α:Type} {l:List (Option α)} {k:Nat} {v:α} (h:l.getD k none = some v):l[k]? = some (some v):=by
 rw [List.getD_eq_getElem?_getD] at h
 cases e:l[k]? with
 | none=>rw [e] at h; cases h
 | some o=>rw [e] at h; simp at h; rw [h]
section
variable {X:Cx} {scope:Scope} {own:List Str} {capt:List Nat}
theorem CompScope.cells (S:CompScope scope own capt X) (ok:X.Ok):∀ x ∈ scope.names,x.2 = .free -> ∃ c,X.env.cells.lookup x.1 = some c:=fun x hx hf=>ok.has x.1 (S.frees x hx hf)
theorem comp_ok {pins:List (Addr × Obj)} {σ:St} {H₀:Hp} {s₀:Shared} {C:Addr} {fp:List Addr} (S:CompScope scope own capt X) (I:Inv X pins σ H₀ s₀) (hf:∀ b ∈ fp,FpOk X pins H₀ b) (hfp:∀ b ∈ fp,b < s₀.heap.objs.size) (hC:s₀.heap.objs.size <= C) :
  (compCx X scope own capt C s₀ H₀ fp).Ok:=by
 have sub:=closed_sub scope.names [] (S.cells I.ok) (fun x c h=>nomatch (show (none:Option Addr) = some c from h))
 refine ⟨I.ok.mod,S.kind,I.ok.glob,I.ok.blt,hC,fun x y c h1 h2=>I.ok.inj x y c (sub x c h1) (sub y c h2),fun x hk=>?_,fun x c z=>absurd (show false = true from z) Bool.false_ne_true,I.ok.hd,I.ok.frames,.inl rfl,fun b hb=>?_,I.bs,Nat.le_trans I.ok.bsz I.sz,fun b o e hb=>?_,fun b hb z=>?_,I.stack,I.stkFree⟩
 ·have e:=relabel_look scope X.env x
  have hk':(relabel scope X.env).names.lookup x = some .cell \/ (relabel scope X.env).names.lookup x = some .free:=hk
  rw [e] at hk'
  cases q:scope.names.lookup x with
  | none=>rw [q] at hk'; rcases hk' with z | z <;> cases z
  | some k =>
   rw [q] at hk'
   cases k with
   | free=>exact closed_has scope.names [] x (lookup_mem q)
   | cell=>exact absurd rfl (S.nocell _ (lookup_mem q))
   | _=>rcases hk' with z | z <;> cases z
 ·obtain ⟨f0,f1,f2,f3,f4,f5⟩:=hf b hb
  exact ⟨Nat.ne_of_lt (Nat.lt_of_lt_of_le (hfp b hb) hC),fun x c e=>f4 x c (sub x c e)⟩
 ·obtain ⟨f0,f1,f2,f3,f4,f5⟩:=hf b hb
  rcases f3 with z | z
  ·exact I.ok.noex b o e z
  ·exact absurd (Nat.lt_of_lt_of_le (Heap.lt_size (I.ok.bs b o e).1) z) (Nat.lt_irrefl _)
 ·obtain ⟨f0,f1,f2,f3,f4,f5⟩:=hf b hb
  rcases List.mem_cons.mp (I.stkSub b z) with q | q
  ·exact f1 q
  ·exact f2 q
theorem comp_inv {pins:List (Addr × Obj)} {σ:St} {H₀:Hp} {s₀:Shared} {fp:List Addr} {h':Heap} {D C:Addr} {tk:Nat} (S:CompScope scope own capt X) (I:Inv X pins σ H₀ s₀) (hf:∀ b ∈ fp,FpOk X pins H₀ b) (hfp:∀ b ∈ fp,b < s₀.heap.objs.size)
  (hD:s₀.heap.objs.size <= D) (hC:s₀.heap.objs.size <= C) (hDC:D ≠ C) (old:∀ b o,s₀.heap.get? b = some o -> h'.get? b = some o) (hns:h'.Ns C (fun _=>none)) (hacc:h'.get? D = some { cls:=.type "list",data:=.seq ([]:List Value).toArray 0 }) :
  Inv (compCx X scope own capt C s₀ H₀ fp) [] (noneS own ++ capS capt σ) (upd H₀ D (.lst [])) { s₀ with heap:=h',toks:=tk }:=by
 have ok:=comp_ok S I hf hfp hC
 have sub:=closed_sub scope.names [] (S.cells I.ok) (fun x c h=>nomatch (show (none:Option Addr) = some c from h))
 have hn:H₀ D = none:=I.hok.fresh hD
 refine ⟨ok,rfl,I.bare,Un.laid old hD hn,⟨_,hns,fun i x v e1 e2 e3=>?_⟩,fun x c e=>?_,?_,fun x c e=>?_,fun p hp=>absurd (show p ∈ ([]:List (Addr × Obj)) from hp) (by simp),I.hok.laid (o:=.lst []) old hD (show ObjOk X.prog X.w _ h' D (.lst []) from ⟨Nat.zero_le _,[],0,.nil,hacc⟩),(by show (noneS own ++ capS capt σ).length = (own ++ capN X capt).length; simp [noneS,capS,capN])⟩
 ·have hlen:(noneS own).length = own.length:=List.length_map ..
  by_cases hi:i < own.length
  ·rw [List.getElem?_append_left (by rw [hlen]; exact hi)] at e2
   unfold noneS at e2
   rw [List.getElem?_map] at e2
   cases q:own[i]? with
   | none=>rw [q] at e2; cases e2
   | some z=>rw [q] at e2; cases e2
  ·have hi':own.length <= i:=Nat.le_of_not_lt hi
   have e1':(own ++ capN X capt)[i]? = some x:=e1
   rw [List.getElem?_append_right hi'] at e1'
   rw [List.getElem?_append_right (by rw [hlen]; exact hi'),hlen] at e2
   unfold capN at e1'
   unfold capS at e2
   rw [List.getElem?_map] at e1' e2
   cases q:capt[i - own.length]? with
   | none=>rw [q] at e1'; cases e1'
   | some k =>
    rw [q] at e1' e2
    have ex:X.N.getD k Str.empty = x:=Option.some.inj e1'
    have ev:σ.getD k none = some v:=Option.some.inj e2
    have hk:k ∈ capt:=List.mem_of_getElem? q
    have hv:=getD_some ev
    have hlt:k < X.N.length:=by
     rw [<- I.len]
     exact (List.getElem?_eq_some_iff.mp hv).1
    have hx:X.N[k]? = some x:=by
     rw [List.getD_eq_getElem?_getD,List.getElem?_eq_getElem hlt] at ex
     rw [List.getElem?_eq_getElem hlt]
     exact congrArg some ex
    have hfree:=S.caps k hk
    rw [ex] at hfree
    have hkind:=S.frees _ (lookup_mem hfree) rfl
    obtain ⟨m,hm,hl⟩:=I.loc
    have vis:Vis X.env.scope x:=by
     rcases hkind with z | z
     ·exact .inr (.inl z)
     ·exact .inr (.inr z)
    obtain ⟨u,r,l⟩:=hl k x v hx hv vis
    refine ⟨u,r,.inr ⟨?_,?_⟩⟩
    ·have e:=relabel_look scope X.env x
     rw [hfree] at e
     show (relabel scope X.env).names.lookup x = some .cell \/ (relabel scope X.env).names.lookup x = some .free
     rw [e]
     unfold kin
     by_cases c:(X.env.scope.kind == .function && X.env.kindOf x == some .cell) = true
     ·rw [if_pos c]; exact .inl rfl
     ·rw [if_neg c]; exact .inr rfl
    ·rcases l with ⟨z,_⟩ | ⟨_,c,hc,hcell⟩
     ·rcases hkind with y | y <;> (have y':X.env.kindOf x = _:=y; rw [z] at y'; cases y')
     ·obtain ⟨d,hd⟩:=closed_has (env:=X.env) scope.names [] x (lookup_mem hfree)
      have:=sub x d hd
      rw [hc] at this
      cases this
      obtain ⟨o,ho,hod⟩:=hcell
      exact ⟨c,hd,o,old _ _ ho,hod⟩
 ·obtain ⟨v,o,ho,hd⟩:=I.cell x c (sub x c e)
  exact ⟨v,o,old _ _ ho,hd⟩
 ·show upd H₀ D (.lst []) C = none
  rw [upd_ne (Ne.symm hDC)]
  exact I.hok.fresh hC
 ·obtain ⟨v,o,ho,hd⟩:=I.cell x c (sub x c e)
  show upd H₀ D (.lst []) c = none
  rw [upd_ne (Nat.ne_of_lt (Nat.lt_of_lt_of_le (Heap.lt_size ho) hD))]
  exact I.freeC x c (sub x c e)
theorem comp_out {pins pins':List (Addr × Obj)} {σ σ':St} {H₀ H':Hp} {s₀ s':Shared} {fp:List Addr} {h'':Heap} {C:Addr} (I:Inv X pins σ H₀ s₀) (hf:∀ b ∈ fp,FpOk X pins H₀ b) (hC:s₀.heap.objs.size <= C)
  (J:Inv (compCx X scope own capt C s₀ H₀ fp) pins' σ' H' s') (sb:Heap.SameBut C s'.heap h''):Inv X pins σ H' { s' with heap:=h'' }:=by
 have hCn:H' C = none:=J.free
 have neC:∀ b o,s₀.heap.get? b = some o -> b ≠ C:=fun b o e=>Nat.ne_of_lt (Nat.lt_of_lt_of_le (Heap.lt_size e) hC)
 have u:Un (frs X.stack) fp H₀ H' s₀.heap s'.heap:=J.base
 have u2:Un (frs X.stack) fp H₀ H' s₀.heap h'':=by
  refine ⟨fun b o q n h1 h2=>(sb.2 b (neC b o q)).trans (u.keep b o q n h1 h2),fun b o q n h1 h2=>?_,u.free,fun b o q h2=>?_,u.tups,u.frzs,u.tbls⟩
  ·obtain ⟨sl,e⟩:=u.slot b o q n h1 h2
   exact ⟨sl,(sb.2 b (neC b o q)).trans e⟩
  ·obtain ⟨o',e⟩:=u.there b o q h2
   exact ⟨o',(sb.2 b (neC b o q)).trans e⟩
 have hok:HOk X.prog X.w H' h'':=fun b ob e=>by
  refine (J.hok b ob e).stay (fun c v hc q=>(sb.2 c ?_).trans q) (fun _ q=>q) fun _ _ q=>q
  rintro rfl
  rcases hc with z | z
  ·subst z; rw [hCn] at e; cases e
  ·rw [hCn] at z; cases z
 refine I.call' (s':={ s' with heap:=h'' }) J.os u2 hok J.bare fun b hb=>?_
 obtain ⟨f0,f1,f2,f3,f4,f5⟩:=hf b hb
 exact ⟨f3,f1,f4,f5⟩
end
def PTs (Y:Cx) (ifs:List Expr) (t:TT):Prop :=
 ∀ (pins:List (Addr × Obj)) (s:Shared) (σ:St) (H:Hp) (Q:Bool -> Hp -> Prop),Inv Y pins σ H s -> t σ H Q ->
  wpAny (model Y.prog Y.w) Y.A (forIn ifs true fun c r=>if r = true then do let ok <- isTrue c Y.env (eval c Y.env); pure (ForInStep.yield ok) else pure (ForInStep.yield r)) (TP Y pins σ Q) Y.xe s
def tYes:TT:=fun _ H Q=>Q true H
theorem pts_nil {Y:Cx}:PTs Y [] tYes:=fun _ _ _ H _ I h=>wpAny_tests_nil ⟨H,I,h⟩
theorem pts_one {Y:Cx} {c:Expr} {t:TT} (h:PT Y c t):PTs Y [c] t:=fun pins s σ H Q I q=>wpAny_tests_one (h pins s σ H Q I q)
abbrev NoX:Value -> Shared -> Prop:=fun _ _=>False
theorem comp_turns {prog:Program} {w:World} {A:Around} {R:Result -> Shared -> Prop} {s:Shared} {elt target iter:Expr} {ifs:List Expr} {scope:Scope} {pos:Pos} {it acc:Value} {env:Env} (I:Nat -> Shared -> Prop)
  (turn:∀ n s,I n s -> wpAny (model prog w) A (pyNext it) (fun r s₁=>match r with
   | none=>R (.ok .next) s₁
   | some v=>wpAny (model prog w) A (letOwnedTupleGo target it v) (fun _ s₂=>wpAny (model prog w) A (assign target env v) (fun _ s₃ =>
     wpAny (model prog w) A (forIn ifs true fun c r=>if r = true then do let ok <- isTrue c env (eval c env); pure (ForInStep.yield ok) else pure (ForInStep.yield r)) (fun ok s₄ =>
      if ok = true then wpAny (model prog w) A (eval elt env) (fun x s₅=>wpAny (model prog w) A (call (.builtin "list.append") [acc,x]) (fun _ s₆=>∃ m,m < n /\ I m s₆) NoX s₅) NoX s₄
      else ∃ m,m < n /\ I m s₄) NoX s₃) NoX s₂) NoX s₁) NoX s) (n:Nat) (h:I n s) :
  codeAny (model prog w) A (.compLoop (.ListComp elt [⟨target,iter,ifs,0⟩] scope pos) 0 it acc env) R s:=by
 refine codeAny_loop rfl I (fun n s hI=>?_) n h
 show wpAny _ A ((compTurn (.ListComp elt [⟨target,iter,ifs,0⟩] scope pos) 0 it acc env).onRaise (fun x=>do noteFrame x env; theTreesLotGoes x)) _ _ s
 refine wpAny_noted (wpAny_mono (E:=NoX) ?_ (fun _ _ q=>q) fun _ _ z=>False.elim z)
 rw [compTurn_list]
 refine wpAny_bind (wpAny_standAt (wpAny_bind (thn (turn n s hI) fun r s₁ h₁=>?_)))
 cases r with
 | none=>exact wpAny_pure h₁
 | some v =>
  refine wpAny_bind (thn h₁ fun _ s₂ h₂=>wpAny_bind (thn h₂ fun _ s₃ h₃=>wpAny_bind (thn h₃ fun ok s₄ h₄=>?_)))
  cases ok with
  | false=>exact wpAny_pure ⟨rfl,h₄⟩
  | true =>
   refine wpAny_bind (wpAny_bind (thn h₄ fun x s₅ h₅=>wpAny_bind (thn h₅ fun _ s₆ h₆=>?_)))
   exact wpAny_pure (wpAny_pure ⟨rfl,h₆⟩)
def Wk:St -> St -> Prop
 | [],[]=>True
 | none :: r,_ :: r'=>Wk r r'
 | some v :: r,o :: r'=>o = some v /\ Wk r r'
 | _,_=>False
theorem Wk.weak:∀ {σ σ':St},Wk σ σ' -> σ.length = σ'.length /\ ∀ (i:Nat) v,σ[i]? = some (some v) -> σ'[i]? = some (some v)
 | [],[],_=>⟨rfl,fun _ _ h=>by simp at h⟩
 | none :: r,o :: r',h=>by
  obtain ⟨a,b⟩:=Wk.weak (σ:=r) (σ':=r') h
  refine ⟨by simp [a],fun i v e=>?_⟩
  cases i with
  | zero=>simp at e
  | succ i=>simpa using b i v (by simpa using e)
 | some w :: r,o :: r',h=>by
  obtain ⟨h0,h1⟩:o = some w /\ Wk r r':=h
  obtain ⟨a,b⟩:=Wk.weak h1
  refine ⟨by simp [a],fun i v e=>?_⟩
  cases i with
  | zero=>rw [h0]; simpa using e
  | succ i=>simpa using b i v (by simpa using e)
 | none :: _,[],h=>False.elim h
 | some _ :: _,[],h=>False.elim h
 | [],_ :: _,h=>False.elim h
def CompW (own:List Str) (capt:List Nat) (g:TG) (tt:TT) (te:TE) (σ:St) (J:It) (H1:Hp) (D:Addr) (Q:VK):Prop:=∃ W:Nat -> Nat -> Hp -> Prop,(∃ m,W 0 m (upd H1 D (.lst []))) /\ ∀ i m H2,W i m H2 ->
 (J.stop i H2 /\ Q (.ref D) H2) \/ (J.go i H2 /\ ∃ (N:V -> Hp -> Prop) (N':Hp -> Prop),(∀ v H6,N v H6 -> ∃ ys,H6 D = some (.lst ys) /\ ys.length < sizeLine /\ ∃ m',m' < m /\ W (i + 1) m' (upd H6 D (.lst (ys ++ [v])))) /\ (∀ H5,N' H5 -> ∃ m',m' < m /\ W (i + 1) m' H5) /\
  ∀ x H3,J.yld i H2 x H3 -> g x (noneS own ++ capS capt σ) H3 fun σ4 H4=>Wk (noneS own ++ capS capt σ) σ4 /\ tt σ4 H4 fun b H5=>if b = true then te σ4 H5 N else N' H5)
def tComp (own:List Str) (capt:List Nat) (wi:TI) (g:TG) (tt:TT) (te:TE):TE:=fun σ H Q=>wi σ H fun J H1=>∀ D,H1 D = none -> CompW own capt g tt te σ J H1 D Q
section
variable {X:Cx} {scope:Scope} {own:List Str} {capt:List Nat} {elt tg iter:Expr} {ifs:List Expr} {pos:Pos} {wi:TI} {g:TG} {tt:TT} {te:TE}
theorem comp_run (hc:X.calm = true) (S:CompScope scope own capt X)
  (hg:∀ C s₀ H₀ fp,PG (compCx X scope own capt C s₀ H₀ fp) tg g) (ht:∀ C s₀ H₀ fp,PTs (compCx X scope own capt C s₀ H₀ fp) ifs tt) (he:∀ C s₀ H₀ fp,PE (compCx X scope own capt C s₀ H₀ fp) elt te)
  {pins:List (Addr × Obj)} {σ:St} {Q:VK} {itv:Value} {s2:Shared} {E:Value -> Shared -> Prop} {RR:Value -> Addr -> Result -> Shared -> Prop}
  (h2:PIE X pins σ tg (fun J H1=>∀ D,H1 D = none -> CompW own capt g tt te σ J H1 D Q) itv s2)
  (hR:∀ D C s' H',(∃ m,s'.heap.Ns C m) -> (∀ h'',Heap.SameBut C s'.heap h'' -> Inv X pins σ H' { s' with heap:=h'' }) -> H' C = none -> FpOk X pins H' C -> Q (.ref D) H' -> RR (.ref D) C (.ok .next) s') :
  wpAny (model X.prog X.w) X.A (newList []) (fun acc s₃=>wpAny (model X.prog X.w) X.A (newFunctionEnv scope X.env.globals (closed X.env scope.names []) [] X.env.qual none .none (some X.env)) (fun cenv s₄ =>
   codeAny (model X.prog X.w) X.A (.compStart (.ListComp elt [⟨tg,iter,ifs,0⟩] scope pos) 0 itv acc { cenv with scope:=relabel scope X.env }) (RR acc cenv.locals) s₄) E s₃) E s2:=by
 obtain ⟨it,fp,tn,J,H2,e,I2,T,st2,f2,rd⟩:=h2
 subst e
 have hfp:∀ b ∈ fp,b < s2.heap.objs.size:=fun b hb=>by
  obtain ⟨o,e,_⟩:=T.obj 0 _ st2 b hb
  exact Heap.lt_size e
 refine wpAny_newObj_type (wpAny_newFunctionEnv S.nocell (by intro y hy; simp at hy) (fun h₁ hns₁ hsb₁=>?_) S.kind)
 dsimp only at hns₁ hsb₁ ⊢
 generalize hH3:s2.heap.push { cls:=.type "list",dict:=none,data:=.seq ([]:List Value).toArray } = H3 at hns₁ hsb₁ ⊢
 have hC:H3.objs.size = s2.heap.objs.size + 1:=by rw [<- hH3,Heap.size_push]
 have hDC:s2.heap.objs.size ≠ H3.objs.size:=by rw [hC]; exact Nat.ne_of_lt (Nat.lt_succ_self _)
 have hCle:s2.heap.objs.size <= H3.objs.size:=by rw [hC]; exact Nat.le_succ _
 have neC:∀ b o,s2.heap.get? b = some o -> b ≠ H3.objs.size:=fun b o e=>Nat.ne_of_lt (Nat.lt_of_lt_of_le (Heap.lt_size e) hCle)
 have old:∀ b o,s2.heap.get? b = some o -> h₁.get? b = some o:=fun b o e=>hsb₁.extBut b o (neC b o e) (Heap.get?_push_of_some _ (hH3 ▸ Heap.get?_push_of_some _ e))
 have hacc:h₁.get? s2.heap.objs.size = some { cls:=.type "list",data:=.seq ([]:List Value).toArray 0 }:=hsb₁.extBut _ _ hDC (Heap.get?_push_of_some _ (hH3 ▸ Heap.get?_push_size _ rfl))
 have hnD:H2 s2.heap.objs.size = none:=I2.hok.fresh (Nat.le_refl _)
 obtain ⟨W,⟨m0,w0⟩,turn⟩:=rd _ hnD
 have hLC:H3.objs.size ≠ X.env.locals:=fun z=>by
  have h:=I2.lt
  rw [<- z] at h
  exact absurd h (Nat.not_lt.mpr hCle)
 have J0:∀ tk,Inv (compCx X scope own capt H3.objs.size s2 H2 fp) [] (noneS own ++ capS capt σ) (upd H2 s2.heap.objs.size (.lst [])) { s2 with heap:=h₁,toks:=tk }:=fun tk =>
  comp_inv (tk:=tk) S I2 f2 hfp (Nat.le_refl _) hCle hDC old hns₁ hacc
 have fr0:∀ b ∈ fp,upd H2 s2.heap.objs.size (.lst []) b = none:=fun b hb=>by
  rw [upd_ne (Nat.ne_of_lt (hfp b hb))]; exact (f2 b hb).1
 have stat:∀ {H':Hp},(∀ b ∈ fp,H' b = none) -> ∀ b ∈ fp,FpOk (compCx X scope own capt H3.objs.size s2 H2 fp) [] H' b:=fun hn b hb=>by
  obtain ⟨g0,g1,g2,g3,g4,g5⟩:=f2 b hb
  have sub:=closed_sub scope.names [] (S.cells I2.ok) (fun x c h=>nomatch (show (none:Option Addr) = some c from h))
  refine ⟨hn b hb,Nat.ne_of_lt (Nat.lt_of_lt_of_le (hfp b hb) hCle),fun z=>?_,.inl hb,fun x c e=>g4 x c (sub x c e),fun p hp=>absurd (show p ∈ ([]:List (Addr × Obj)) from hp) (by simp)⟩
  rcases List.mem_cons.mp (I2.stkSub b z) with q | q
  ·exact g1 q
  ·exact g2 q
 have loop:∀ s₃:Shared,(∃ tk,s₃ = { s2 with heap:=h₁,toks:=tk }) ->
   codeAny (model X.prog X.w) X.A (.compLoop (.ListComp elt [⟨tg,iter,ifs,0⟩] scope pos) 0 (.ref it) (.ref s2.heap.objs.size) (compEnvC scope (closed X.env scope.names []) H3.objs.size X.env)) (RR (.ref s2.heap.objs.size) H3.objs.size) s₃:=by
  rintro s₃ ⟨tk,rfl⟩
  refine comp_turns (fun n s'=>∃ i H',Inv (compCx X scope own capt H3.objs.size s2 H2 fp) [] (noneS own ++ capS capt σ) H' s' /\ tn i s'.heap /\ (∀ b ∈ fp,H' b = none) /\ W i n H') ?_ m0
   ⟨0,_,J0 tk,T.keep _ _ _ st2 fun b hb o e=>old b o e,fr0,w0⟩
  rintro n s4 ⟨i,H4,I4,st4,fr4,w4⟩
  rcases turn i n H4 w4 with ⟨stop,qn⟩ | ⟨go,N,N',hN,hN',step⟩
  ·refine thn (T.done (compCx X scope own capt H3.objs.size s2 H2 fp) rfl rfl rfl hc i [] s4 _ H4 NoX I4 (stat fr4) st4 stop) fun r s5 ⟨hr,I5⟩=>?_
   subst hr
   obtain ⟨m,hn,_⟩:=I5.loc
   exact hR _ _ s5 H4 ⟨m,hn⟩ (fun h'' sb=>comp_out I2 f2 hCle I5 sb) I5.free (I2.fpOk hCle I5.free) qn
  ·refine thn (T.item (compCx X scope own capt H3.objs.size s2 H2 fp) rfl rfl rfl hc i [] s4 _ H4 NoX I4 (stat fr4) st4 go) fun r s5 ⟨u,hr,h5⟩=>?_
   subst hr
   refine thn h5 fun _ s6 ⟨x,H6,I6,r6,y6,st6,fr6⟩=>?_
   have I6':=I6.pinned (stat fr6) (T.obj _ _ st6)
   refine thn (hg _ _ _ _ _ s6 _ H6 x u _ I6' r6 (step x H6 y6)) fun _ s7 ⟨σ7,H7,I7,wk,q7⟩=>?_
   obtain ⟨wl,wv⟩:=wk.weak
   have again:∀ {s8:Shared} {H8:Hp} {m':Nat},Inv (compCx X scope own capt H3.objs.size s2 H2 fp) ([] ++ pinsAt fp s6.heap) σ7 H8 s8 -> m' < n -> W (i + 1) m' H8 ->
     ∃ m,m < n /\ ∃ i H',Inv (compCx X scope own capt H3.objs.size s2 H2 fp) [] (noneS own ++ capS capt σ) H' s8 /\ tn i s8.heap /\ (∀ b ∈ fp,H' b = none) /\ W i m H':=fun {s8 H8 m'} I8 hm w8=>by
    refine ⟨m',hm,i + 1,H8,(I8.unpinned).weak wl wv,T.keep _ _ _ st6 fun b hb o e=>(I8.pin (b,o) (List.mem_append_right _ (List.mem_append_right _ (mem_pinsAt hb e)))).1,fun b hb=>?_,w8⟩
    obtain ⟨o,e,d⟩:=T.obj _ _ st6 b hb
    exact (I8.pin (b,o) (List.mem_append_right _ (List.mem_append_right _ (mem_pinsAt hb e)))).2.1
   refine thn (ht _ _ _ _ _ s7 σ7 H7 _ I7 q7) fun ok s8 ⟨H8,I8,q8⟩=>?_
   cases ok with
   | false =>
    obtain ⟨m',hm,w8⟩:=hN' H8 (by simpa using q8)
    exact again I8 hm w8
   | true =>
    refine thn (he _ _ _ _ _ s8 σ7 H8 N I8 (by simpa using q8)) fun y s9 ⟨v,H9,I9,r9,q9⟩=>?_
    obtain ⟨ys,hD,hl,m',hm,w9⟩:=hN v H9 q9
    refine thn (mt_append (X:=compCx X scope own capt H3.objs.size s2 H2 fp) _ s9 σ7 H9 (.ref s2.heap.objs.size) [v] _ [y] (fun _ H'=>H' = upd H9 s2.heap.objs.size (.lst (ys ++ [v]))) I9 rfl (.cons r9 .nil) ⟨_,ys,v,rfl,rfl,hD,hl,rfl⟩) fun _ s10 ⟨_,H10,I10,_,q10⟩=>?_
    subst q10
    exact again I10 hm w9
 exact codeAny_compStart_list (loop _ ⟨_,rfl⟩) (T.self X.A 0 _ _ _ (T.keep _ _ _ st2 fun b hb o e=>old b o e) (loop _ ⟨_,rfl⟩))
theorem pe_lcomp (hc:X.calm = true) (S:CompScope scope own capt X) (hi:PI X tg iter wi)
  (hg:∀ C s₀ H₀ fp,PG (compCx X scope own capt C s₀ H₀ fp) tg g) (ht:∀ C s₀ H₀ fp,PTs (compCx X scope own capt C s₀ H₀ fp) ifs tt) (he:∀ C s₀ H₀ fp,PE (compCx X scope own capt C s₀ H₀ fp) elt te)
  (hs:∀ x,foldedSetIterable iter X.env x = pure x:=by intro _; rfl):PE X (.ListComp elt [⟨tg,iter,ifs,0⟩] scope pos) (tComp own capt wi g tt te):=by
 intro pins s σ H Q I h
 rw [eval_ListComp]
 refine wpAny_comprehension_free (use:=none) rfl hs (closureFor_closed (S.cells I.ok)) S.kind S.names (thn (hi pins s σ H _ I h) fun v s1 h1=>thn h1 fun itv s2 h2=>?_)
 refine comp_run (RR:=fun acc C=>compPost (model X.prog X.w) X.A X.xe none (EP X pins σ Q) acc C) hc S hg ht he h2 fun D C s' H' hn J _ _ q=>?_
 obtain ⟨m,hn⟩:=hn
 exact ⟨m,hn,fun h'' sb=>⟨.ref D,H',J h'' sb,rfl,q⟩⟩
theorem ps_lcompU (hc:X.calm = true) (S:CompScope scope own capt X) (hi:PI X tg iter wi)
  (hg:∀ C s₀ H₀ fp,PG (compCx X scope own capt C s₀ H₀ fp) tg g) (ht:∀ C s₀ H₀ fp,PTs (compCx X scope own capt C s₀ H₀ fp) ifs tt) (he:∀ C s₀ H₀ fp,PE (compCx X scope own capt C s₀ H₀ fp) elt te)
  {i:Nat} {x:Str} {pos' spos:Pos} (hN:X.N.Nodup) (hxi:X.N[i]? = some x) (hx:Loc X.env.scope x)
  (hs:∀ x,foldedSetIterable iter X.env x = pure x:=by intro _; rfl) (hsw:swapsWith (.ListComp elt [⟨tg,iter,ifs,0⟩] scope pos) (some (.Name x pos')) spos.line X.env = pure true:=by rfl)
  (hf:X.fn x = true \/ X.env.scope.names.lookup x = some .local:=by first | exact .inl rfl | exact .inr rfl | assumption) :
  PS X (.Assign [.Name x pos'] (.ListComp elt [⟨tg,iter,ifs,0⟩] scope pos) spos) (tAsg (tComp own capt wi g tt te) (gName i)):=by
 intro pins s σ H D I h
 rw [exec_Assign_Name_used _ _ _ _ hsw]
 refine wpAny_bind (wpAny_standAt (wpAny_bind ?_))
 show wpAny _ X.A (do let _ <- comprehension (.ListComp elt [⟨tg,iter,ifs,0⟩] scope pos) scope X.env _ (newList []) false (eval iter X.env) (some (assign (.Name x pos') X.env))) _ _ s
 refine wpAny_bind (wpAny_mono (wpAny_comprehension_free (use:=some (assign (.Name x pos') X.env)) (Q:=fun _ s'=>SP X pins D .next s') rfl hs (closureFor_closed (S.cells I.ok)) S.kind S.names (thn (hi pins s σ H _ I h) fun v s1 h1=>thn h1 fun itv s2 h2=>?_)) (fun _ s' hq=>wpAny_pure (wpAny_pure hq)) fun _ _ e=>e)
 refine comp_run (RR:=fun acc C=>compPost (model X.prog X.w) X.A X.xe (some (assign (.Name x pos') X.env)) (fun _ s'=>SP X pins D .next s') acc C) hc S hg ht he h2 fun D' C s' H' hn J hCn fp q=>?_
 obtain ⟨m,hn⟩:=hn
 obtain ⟨f0,f1,f2,f3,f4,f5⟩:=fp
 have Is:Inv X pins σ H' s':=J s'.heap (Heap.SameBut.refl _ _)
 refine wpAny_assign_Name (store_ok2 Is hN hxi hx (show RelV (.ref D') (.ref D') from rfl) (fun s'' I'' sb=>?_) hf)
 obtain ⟨a,sb,ha⟩:=sb
 have neA:C ≠ a:=by
  rcases ha with rfl | ha
  ·exact f1
  ·exact fun z=>f4 x a ha z.symm
 have hn':s''.heap.Ns C m:=hn.sameBut sb neA
 exact ⟨m,hn',fun h' sb'=>⟨_,H',I''.turned (t':=s''.toks) (fun b o hb e=>(sb'.2 b hb).trans e) f0 f1 f3 f4 f5,q⟩⟩
end
theorem comp_over {J:It} {n:Nat} {own:List Str} {capt:List Nat} {g:TG} {tt:TT} {te:TE} {σ:St} {H1:Hp} {D:Addr} {Q:VK} (Pv:Nat -> List V -> Hp -> Prop) (h0:Pv 0 [] (upd H1 D (.lst [])))
  (turn:∀ i ys H2,i < n -> H2 D = some (.lst ys) -> Pv i ys H2 -> J.go i H2 /\ ∀ x H3,J.yld i H2 x H3 -> g x (noneS own ++ capS capt σ) H3 fun σ4 H4=>Wk (noneS own ++ capS capt σ) σ4 /\ tt σ4 H4 fun b H5 =>
   if b = true then te σ4 H5 (fun v H6=>∃ zs,H6 D = some (.lst zs) /\ zs.length < sizeLine /\ Pv (i + 1) (zs ++ [v]) (upd H6 D (.lst (zs ++ [v])))) else ∃ zs,H5 D = some (.lst zs) /\ Pv (i + 1) zs H5)
  (stop:∀ ys H2,H2 D = some (.lst ys) -> Pv n ys H2 -> J.stop n H2 /\ Q (.ref D) H2) :
  CompW own capt g tt te σ J H1 D Q:=by
 refine ⟨fun i m H=>m = n - i /\ i <= n /\ ∃ ys,H D = some (.lst ys) /\ Pv i ys H,⟨n,rfl,Nat.zero_le _,[],upd_same,h0⟩,?_⟩
 rintro i m H2 ⟨rfl,hi,ys,hD,p⟩
 by_cases hlt:i < n
 ·obtain ⟨go,st⟩:=turn i ys H2 hlt hD p
  refine .inr ⟨go,_,_,?_,?_,st⟩
  ·rintro v H6 ⟨zs,e,l,q⟩
   exact ⟨zs,e,l,n - (i + 1),by omega,rfl,hlt,_,upd_same,q⟩
  ·rintro H5 ⟨zs,e,q⟩
   exact ⟨n - (i + 1),by omega,rfl,hlt,zs,e,q⟩
 ·have e:i = n:=by omega
  subst e
  exact .inl (stop ys H2 hD p)
end L2
namespace L2
open PySem PySem.Spec PyProof.Rows
def compCheck (scope outer:Scope) (N:List Str) (capt:List Nat):Bool :=
 scope.kind == .function && scope.names.all (fun y=>!(y.2 == .cell)) && scope.names.all (fun y=>!(y.2 == .local) || scope.names.lookup y.1 == some .local) &&
 scope.names.all (fun y=>!(y.2 == .free) || (outer.names.lookup y.1 == some .cell || outer.names.lookup y.1 == some .free)) && capt.all (fun k=>scope.names.lookup (N.getD k Str.empty) == some .free)
theorem CompScope.of {X:Cx} {scope:Scope} {own:List Str} {capt:List Nat} (h:compCheck scope X.env.scope X.N capt = true):CompScope scope own capt X:=by
 unfold compCheck at h
 simp only [Bool.and_eq_true] at h
 obtain ⟨⟨⟨⟨h1,h2⟩,h3⟩,h4⟩,h5⟩:=h
 rw [List.all_eq_true] at h2 h3 h4 h5
 refine ⟨by simpa using h1,fun y hy=>?_,fun y hy hl=>?_,fun y hy hf=>?_,fun k hk=>?_⟩
 ·simpa using h2 y hy
 ·have:=h3 y hy
  rw [hl] at this
  simpa using this
 ·have:=h4 y hy
  rw [hf] at this
  show X.env.scope.names.lookup y.1 = some .cell \/ X.env.scope.names.lookup y.1 = some .free
  simpa using this
 ·simpa using h5 k hk
end L2
namespace L2
open PySem PySem.Spec PyProof.Rows
section
variable {X:Cx}
theorem op_isnotB:OpR X (compareOp .IsNot) (fun x y H Q=>∃ a b,x = .bl a /\ y = .bl b /\ Q (.bl (a != b)) H):=by
 intro pins s σ H x y v u Q I rx ry h
 obtain ⟨a,b,rfl,rfl,q⟩:=h
 cases rx
 cases ry
 exact isnot_bool ⟨.bl (a != b),H,I,rfl,q⟩
inductive Ty (H:Hp):V -> String -> Prop where
 | non:Ty H .non "NoneType"
 | bl (x:Bool):Ty H (.bl x) "bool"
 | int (i:Int):Ty H (.int i) "int"
 | str (x:Str):Ty H (.str x) "str"
 | lst {a:Addr} {xs:List V} (e:H a = some (.lst xs)):Ty H (.ref a) "list"
 | tup {a:Addr} {xs:List V} (e:H a = some (.tup xs)):Ty H (.ref a) "tuple"
 | dK {a:Addr} {kvs:List (Key × V)} (e:H a = some (.dK kvs)):Ty H (.ref a) "dict"
theorem boot_int:bootBuiltins "int" = some (.type "int"):=by decide +kernel
theorem boot_tupleT:bootBuiltins "tuple" = some (.type "tuple"):=by decide +kernel
theorem boot_allB:bootBuiltins "all" = some (.builtin "all"):=by decide +kernel
theorem boot_reprB:bootBuiltins "repr" = some (.builtin "repr"):=by decide +kernel
theorem boot_minB:bootBuiltins "min" = some (.builtin "min"):=by decide +kernel
theorem boot_maxB:bootBuiltins "max" = some (.builtin "max"):=by decide +kernel
theorem boot_lenB:bootBuiltins "len" = some (.builtin "len"):=by decide +kernel
theorem bools_are:∀ {bs:List Bool} {us:List Value},Vals (bs.map V.bl) us -> LSm.BoolsAre us bs
 | [],_,h=>by cases h; exact .nil
 | b :: bs,_,h=>by
  cases h with
  | cons r t =>
   cases (show _ = Value.bool b from r)
   exact .cons b (bools_are t)
theorem call_allL (hc:X.calm = true):CallR X (.builtin "all") (fun xs H Q=>∃ (a:Addr) (bs:List Bool),xs = [.ref a] /\ SqL X.K H a (bs.map V.bl) /\ Q (.bl (bs.all id)) H):=by
 intro pins s σ H xs us Q I r h
 obtain ⟨a,bs,rfl,hq,q⟩:=h
 cases r with
 | cons r1 r2 =>
  cases r2
  cases (show _ = Value.ref a from r1)
  obtain ⟨its,rv,p,hz⟩:=I.list hq
  have hb:=bools_are rv
  have hl:s.heap.IsList a its.toArray:=p.isList
  have hlt:a < s.heap.objs.size:=by obtain ⟨_,e,_⟩:=hl; exact Heap.lt_size e
  refine call_all_walk (wpAny_pyIter_list hl ?_)
  refine ⟨s.heap.objs.size,[s.heap.objs.size,a],[s.heap.objs.size],its.toArray.size,_,_,fun i=>(bs[i]?).getD true,rfl,Walks.list (A:=X.A.in1) (I.ok.hd hc) _ a (Nat.ne_of_lt hlt) its.toArray,
   ⟨⟨_,Heap.get?_push_size _ rfl,rfl,rfl⟩,hl.push _⟩,fun i v s' Q' E' hP hQ=>?_,fun h' tk hk=>?_⟩
  ·obtain ⟨b,e,rfl⟩:=hb.get i v (by simpa using hP)
   simp only [e,Option.getD_some] at hQ
   exact wpAny_truthy_bool hQ
  ·have e:((List.range its.toArray.size).all fun i=>(bs[i]?).getD true) = bs.all id:=by
    rw [List.size_toArray,hb.length]; exact LSm.range_all bs
   rw [e]
   exact ⟨.bl _,H,I.kept (LSm.kept_iter hk),rfl,q⟩
mutual
inductive Shows (H:Hp):V -> PyData -> Prop
 | non:Shows H .non .none
 | bl (b:Bool):Shows H (.bl b) (.bool b)
 | int (i:Int):Shows H (.int i) (.int i)
 | str (x:Str):Shows H (.str x) (.str x)
 | lst {a:Addr} {xs:List V} {ds:List PyData}:H a = some (.lst xs) -> ShowsAll H xs ds -> Shows H (.ref a) (.list ds)
 | tup {a:Addr} {xs:List V} {ds:List PyData}:H a = some (.tup xs) -> ShowsAll H xs ds -> Shows H (.ref a) (.tuple ds)
inductive ShowsAll (H:Hp):List V -> List PyData -> Prop
 | nil:ShowsAll H [] []
 | cons {v:V} {vs:List V} {d:PyData} {ds:List PyData}:Shows H v d -> ShowsAll H vs ds -> ShowsAll H (v :: vs) (d :: ds)
end
section
variable {pins:List (Addr × Obj)} {σ:St} {H:Hp} {s:Shared}
mutual
theorem Shows.reads (I:Inv X pins σ H s):∀ {v:V} {d:PyData} {u:Value},Shows H v d -> RelV v u -> ∃ as,Reads s.heap u d as
 | _,_,_,.non,r=>by cases r; exact ⟨_,.none⟩
 | _,_,_,.bl b,r=>by cases r; exact ⟨_,.bool b⟩
 | _,_,_,.int i,r=>by obtain ⟨t,rfl⟩:=r; exact ⟨_,.int i t⟩
 | _,_,_,.str x,r=>by obtain ⟨t,rfl⟩:=r; exact ⟨_,.str x t⟩
 | _,_,_,.lst e h,r=>by
  cases r
  obtain ⟨_,its,n,rv,e1⟩:=I.hok _ _ e
  obtain ⟨as,q⟩:=ShowsAll.reads I h rv
  exact ⟨_,.list e1 rfl rfl (by simpa using q)⟩
 | _,_,_,.tup e h,r=>by
  cases r
  obtain ⟨_,its,rv,o,e1,e2,⟨n,e3⟩,_⟩:=I.hok _ _ e
  obtain ⟨as,q⟩:=ShowsAll.reads I h rv
  exact ⟨_,.tuple e1 e2 e3 (by simpa using q)⟩
theorem ShowsAll.reads (I:Inv X pins σ H s):∀ {vs:List V} {ds:List PyData} {us:List Value},ShowsAll H vs ds -> Vals vs us -> ∃ as,ReadsAll s.heap us ds as
 | _,_,_,.nil,r=>by cases r; exact ⟨_,.nil⟩
 | _,_,_,.cons h t,r=>by
  cases r with
  | cons r rr =>
   obtain ⟨as,q⟩:=Shows.reads I h r
   obtain ⟨bs,q'⟩:=ShowsAll.reads I t rr
   exact ⟨_,.cons q q'⟩
end
end
def CDivB (i j:Int):Prop:=0 < j /\ j < 2 ^ 128
theorem op_fdivB:OpR X (binaryOp .FloorDiv) (rI CDivB fun i j=>.int (i / j)):=opI fun i j _ _ _ _ _ hc q=>by
 have h1:(0:Int) < j:=hc.1
 have h2:j < 2 ^ 128:=hc.2
 refine floordiv_int (by omega) (by rw [Int.fdiv_eq_ediv_of_nonneg i (by omega)]; exact q) (.inl (PyProof.noPylong_of_log2 ?_))
 have h3:j.natAbs < 2 ^ 128:=by omega
 have h4:j.natAbs.log2 < 128:=(Nat.log2_lt (by omega)).mpr h3
 omega
end
end L2
namespace L2
open PySem PySem.Spec PyProof.Rows
def Pl (X:Cx) (es:List Expr):Prop:=∀ pos,(backTo pos (starEach es X.env)).any (·.1) = false
def Hd (X:Cx):List Expr -> Prop
 | []=>True
 | e :: r=>starEach (e :: r) X.env = (false,eval e X.env) :: starEach r X.env /\ Pl X r
structure PB (X:Cx) (es:List Expr) (t:TA):Prop where
 pa:PA X es t
 pl:Pl X es
 hd:Hd X es
section
variable {X:Cx} {es:List Expr} {t:TA} {te:TE}
theorem pb_nil:PB X [] tNil:=⟨pa_nil,fun _=>rfl,trivial⟩
theorem pb_cons {e:Expr} (h:PE X e te) (hr:PB X es t) (hs:starEach (e :: es) X.env = (false,eval e X.env) :: starEach es X.env):PB X (e :: es) (tCons te t) :=
 ⟨pa_cons h hr.pa hs,fun pos=>by
  rw [hs]
  have:(backTo pos ((false,eval e X.env) :: starEach es X.env)).any (·.1) = (false || (backTo pos (starEach es X.env)).any (·.1)):=rfl
  rw [this,hr.pl pos]; rfl,hs,hr.pl⟩
theorem pb_i {i:Int} {j pos} (hr:PB X es t):PB X (.Constant (.int i) j pos :: es) (tCons (tC (.int i)) t):=pb_cons pe_int hr rfl
theorem pb_v (i:Nat) {x:Str} {pos:Pos} (hr:PB X es t) (hN:X.N[i]? = some x:=by rfl) (hv:Vis X.env.scope x:=by first | exact Or.inl rfl | exact Or.inr (Or.inl rfl) | exact Or.inr (Or.inr rfl)) (hd:(x == ("__debug__":Str)) = false:=by decide)
  (hcd:(x == ("__classdict__":Str)) = false:=by decide):PB X (.Name x pos :: es) (tCons (tVar i) t):=pb_cons (pe_var hN hv hd hcd) hr rfl
theorem pb_bin {a b c d} (h:PE X (.BinOp a b c d) te) (hr:PB X es t):PB X (.BinOp a b c d :: es) (tCons te t):=pb_cons h hr rfl
theorem pb_cmp {a b c d} (h:PE X (.Compare a b c d) te) (hr:PB X es t):PB X (.Compare a b c d :: es) (tCons te t):=pb_cons h hr rfl
variable {e:Expr} {x:Str} {p pos:Pos}
theorem pe_tupB {x1} (h:PB X es t):PE X (.Tuple es x1 pos) (tTup t):=pe_tup h.pa
theorem pe_lstB (h:PB X es t):PE X (.List es pos) (tLst t):=pe_lst h.pa
theorem pe_cB {id:String} {r:List V -> Hp -> VK -> Prop} (hc:CallR X (.builtin id) r) (hm:X.mg x = none) (hv:bootBuiltins x = some (.builtin id)) (h:PB X (e :: es) t) (hg:Gl X x:=by rfl) (hn:x ≠ "__name__":=by decide) (hdb:(x == ("__debug__":Str)) = false:=by decide) :
  PE X (.Call (.Name x p) (e :: es) [] pos) (tCB r t):=pe_callB hc hg hm hv h.pa hn hdb h.hd.1 (h.hd.2 pos)
theorem pe_cT {T:String} {r:List V -> Hp -> VK -> Prop} (hc:CallR X (.type T) r) (hm:X.mg x = none) (hv:bootBuiltins x = some (.type T)) (h:PB X (e :: es) t) (hg:Gl X x:=by rfl) (hn:x ≠ "__name__":=by decide) (hdb:(x == ("__debug__":Str)) = false:=by decide) :
  PE X (.Call (.Name x p) (e :: es) [] pos) (tCB r t):=pe_callTy hc hg hm hv h.pa hn hdb h.hd.1 (h.hd.2 pos)
end
end L2
namespace Bd
open PySem L2
structure Def (K:PySem.W.Frag) (mg:Str -> Option Value) (x:Str) (st:Stmt) (ps:List Str) (f:Addr) (fd:FuncData):Prop where
 F:Fun K x x st f fd
 b:Binds K fd ps []
 m:mg x = some (.ref f)
section
variable {X:Cx} {k:Nat} {f:Addr} {fd:FuncData} {ps:List Str} {sp:Sp} {x:Str} {p pos:Pos} {e:Expr} {es:List Expr} {t:TA} {st:Stmt}
theorem pe_fn (D:Def X.K X.mg x st ps f fd) (G:FnOk X.prog X.w X.K X.mg X.base CX0 k f fd ps sp) (hr:Room k X.A) (h:PB X (e :: es) t) (hg:Gl X x:=by rfl)
  (hdb:(x == ("__debug__":Str)) = false:=by decide):PE X (.Call (.Name x p) (e :: es) [] pos) (tCall sp [] E0 t):=pe_call G hr hg D.m D.F.kp D.b .nil pass0 h.pa hdb h.hd.1 (h.hd.2 pos)
end
theorem iteP {c A B:Prop} [Decidable c] (hc:c) (h:A):if decide c = true then A else B:=by
 rw [decide_eq_true hc]
 exact iteT h
theorem iteN {c A B:Prop} [Decidable c] (hc:¬ c) (h:B):if decide c = true then A else B:=by
 rw [decide_eq_false hc]
 exact iteF h
theorem ite2D {c A B:Prop} [Decidable c] (h1:c -> A) (h2:¬ c -> B):if decide c = true then A else B:=by
 by_cases h:c
 ·exact iteP h (h1 h)
 ·exact iteN h (h2 h)
theorem atI_int {α:Type} {xs:List α} {k:Int} {v:α} (h0:0 <= k) (h:xs[k.toNat]? = some v):atI xs k = some v:=by
 obtain ⟨n,rfl⟩:=Int.eq_ofNat_of_zero_le h0
 exact atI_nat h
theorem two_pos (k:Nat):(0:Int) < 2 ^ k:=by
 have:(0:Nat) < 2 ^ k:=Nat.two_pow_pos k
 have e:((2 ^ k:Nat):Int) = (2:Int) ^ k:=by simp
 omega
theorem pow_bound {k:Nat} (h:k <= 64):(2:Int) ^ k < 2 ^ 128:=by
 have:(2:Nat) ^ k < 2 ^ 128:=Nat.pow_lt_pow_right (by decide) (by omega)
 have e:((2 ^ k:Nat):Int) = (2:Int) ^ k:=by simp
 omega
theorem pow_le64 {k:Nat} (h:k <= 64):(2:Int) ^ k <= 2 ^ 64:=by
 have:(2:Nat) ^ k <= 2 ^ 64:=Nat.pow_le_pow_right (by decide) (by omega)
 have e:((2 ^ k:Nat):Int) = (2:Int) ^ k:=by simp
 omega
theorem same_new {H:Hp} {p:Addr} {o:HO} (h:H p = none):Same H (upd H p o):=fun b u e=>by
 rw [upd_ne (ne_of_none e h)]; exact e
end Bd
namespace L2
open PySem PySem.Spec PyProof.Rows
theorem and_pow (k h:Nat):(k * 2 ^ h) &&& (2 ^ h) = (k % 2) * 2 ^ h:=by
 have e1:k * 2 ^ h = k <<< h:=(Nat.shiftLeft_eq k h).symm
 have e2:(2:Nat) ^ h = 1 <<< h:=by rw [Nat.shiftLeft_eq,Nat.one_mul]
 have e3:(k &&& 1) <<< h = k <<< h &&& 1 <<< h:=Nat.shiftLeft_and_distrib
 rw [e1]
 conv=>lhs; rw [e2]
 rw [<- e3,Nat.and_one_is_mod,Nat.shiftLeft_eq]
theorem xor_half {k:Int} (h:Nat) (k0:0 <= k):Builtin.bitXor (k * 2 ^ h) (2 ^ h) = if k % 2 = 0 then k * 2 ^ h + 2 ^ h else k * 2 ^ h - 2 ^ h:=by
 obtain ⟨n,rfl⟩:=Int.eq_ofNat_of_zero_le k0
 have e0:((2 ^ h:Nat):Int) = (2:Int) ^ h:=by simp
 have e1:((n:Int) * 2 ^ h) = ((n * 2 ^ h:Nat):Int):=by rw [Int.natCast_mul,e0]
 rw [bitXor_and,e1,<- e0,bitAnd_pp (Int.natCast_nonneg _) (Int.natCast_nonneg _)]
 have e2:((n * 2 ^ h:Nat):Int).toNat &&& ((2 ^ h:Nat):Int).toNat = (n % 2) * 2 ^ h:=by
  rw [Int.toNat_natCast,Int.toNat_natCast]; exact and_pow n h
 rw [e2]
 rcases Nat.mod_two_eq_zero_or_one n with z | z
 ·have:((n:Int)) % 2 = 0:=by lia
  rw [if_pos this,z]
  simp
 ·have:¬ ((n:Int)) % 2 = 0:=by lia
  rw [if_neg this,z,Nat.one_mul]
  lia
end L2
namespace L2
open PySem PySem.Spec PyProof.Rows
def HAND:PyData:=.dict [(.none,.none)]
def SCR (ns:List Int):PyData:=.dict [(.none,.list (ns.map .int))]
def HandOk (H:Hp) (hd:Addr) (n:Int):Prop:=∃ d m t:Int,H hd = some (.lst [.int d,.int m,.int t]) /\ 0 <= m /\ m < 2 ^ 62 /\ 0 <= t /\ t <= n
def StT (K:PySem.W.Frag) (a:Addr) (xs:List V):Prop :=
 ∃ (o:Obj) (its:Array Value) (n:Nat),K.lookup a = some o /\ o.cls = .type "tuple" /\ o.data = .seq its n /\ its.size <= sizeLine /\ Vals xs its.toList /\ o.dict = none
theorem StT.sq {K:PySem.W.Frag} {H:Hp} {a:Addr} {xs:List V} (h:StT K a xs):SqT K H a xs:=by
 obtain ⟨o,its,n,h1,h2,h3,h4,h5,_⟩:=h
 exact .inr ⟨o,its,n,h1,h2,h3,h4,h5⟩
mutual
inductive Rep (K:PySem.W.Frag) (hd:Option Addr) (O:Addr -> Prop) (H:Hp):V -> PyData -> Prop
 | non:Rep K hd O H .non .none
 | bl (b:Bool):Rep K hd O H (.bl b) (.bool b)
 | int (i:Int):Rep K hd O H (.int i) (.int i)
 | str (x:Str):Rep K hd O H (.str x) (.str x)
 | tup {a vs ds} (h:H a = some (.tup vs)) (o:¬ O a) (r:Reps K hd O H vs ds):Rep K hd O H (.ref a) (.tuple ds)
 | tupS {a vs ds} (h:StT K a vs) (r:Reps K hd O H vs ds):Rep K hd O H (.ref a) (.tuple ds)
 | lst {a vs ds} (h:H a = some (.lst vs)) (o:¬ O a) (r:Reps K hd O H vs ds):Rep K hd O H (.ref a) (.list ds)
 | dct {a} (h:H a = some (.dK [])) (o:¬ O a):Rep K hd O H (.ref a) (.dict [])
 | hand {a} (h:hd = some a):Rep K hd O H (.ref a) HAND
 | scr {a ns} (h:Rd H a (.lst (ns.map V.int))) (o:¬ O a):Rep K hd O H (.ref a) (SCR ns)
 | scrS {a} {ns:List Int} (h:∀ H':Hp,SqL K H' a (ns.map V.int)):Rep K hd O H (.ref a) (SCR ns)
inductive Reps (K:PySem.W.Frag) (hd:Option Addr) (O:Addr -> Prop) (H:Hp):List V -> List PyData -> Prop
 | nil:Reps K hd O H [] []
 | cons {v d vs ds} (h:Rep K hd O H v d) (r:Reps K hd O H vs ds):Reps K hd O H (v :: vs) (d :: ds)
end
section
variable {K:PySem.W.Frag} {hd:Option Addr} {O O':Addr -> Prop} {H H':Hp}
mutual
theorem Rep.mono (ho:∀ a o,H a = some o -> O' a -> O a) (hh:∀ a o,¬ O a -> H a = some o -> H' a = some o):∀ {v d},Rep K hd O H v d -> Rep K hd O' H' v d
 | _,_,.non=>.non
 | _,_,.bl b=>.bl b
 | _,_,.int i=>.int i
 | _,_,.str x=>.str x
 | _,_,.tup h o r=>.tup (hh _ _ o h) (fun z=>o (ho _ _ h z)) (Reps.mono ho hh r)
 | _,_,.tupS h r=>.tupS h (Reps.mono ho hh r)
 | _,_,.lst h o r=>.lst (hh _ _ o h) (fun z=>o (ho _ _ h z)) (Reps.mono ho hh r)
 | _,_,.dct h o=>.dct (hh _ _ o h) (fun z=>o (ho _ _ h z))
 | _,_,.hand h=>.hand h
 | _,_,.scr h o=>by
  rcases h with h | ⟨u,h⟩
  ·exact .scr (.inl (hh _ _ o h)) (fun z=>o (ho _ _ h z))
  ·exact .scr (.inr ⟨u,hh _ _ o h⟩) (fun z=>o (ho _ _ h z))
 | _,_,.scrS h=>.scrS h
theorem Reps.mono (ho:∀ a o,H a = some o -> O' a -> O a) (hh:∀ a o,¬ O a -> H a = some o -> H' a = some o):∀ {vs ds},Reps K hd O H vs ds -> Reps K hd O' H' vs ds
 | _,_,.nil=>.nil
 | _,_,.cons h r=>.cons (Rep.mono ho hh h) (Reps.mono ho hh r)
end
theorem Reps.length:∀ {vs ds},Reps K hd O H vs ds -> vs.length = ds.length
 | _,_,.nil=>rfl
 | _,_,.cons _ r=>by simp [Reps.length r]
theorem Reps.get:∀ {vs ds} {i:Nat} {d},Reps K hd O H vs ds -> ds[i]? = some d -> ∃ v,vs[i]? = some v /\ Rep K hd O H v d
 | _,_,_,_,.nil,e=>by simp at e
 | _,_,0,_,.cons h _,e=>by simp at e; subst e; exact ⟨_,rfl,h⟩
 | _,_,i + 1,_,.cons _ r,e=>by
  obtain ⟨v,h1,h2⟩:=Reps.get (i:=i) r (by simpa using e)
  exact ⟨v,by simpa using h1,h2⟩
theorem Reps.append:∀ {vs ws ds es},Reps K hd O H vs ds -> Reps K hd O H ws es -> Reps K hd O H (vs ++ ws) (ds ++ es)
 | _,_,_,_,.nil,s=>s
 | _,_,_,_,.cons h r,s=>.cons h (Reps.append r s)
theorem Reps.take:∀ {vs ds} (n:Nat),Reps K hd O H vs ds -> Reps K hd O H (vs.take n) (ds.take n)
 | _,_,0,_=>.nil
 | _,_,_ + 1,.nil=>.nil
 | _,_,n + 1,.cons h r=>.cons h (Reps.take n r)
theorem Reps.drop:∀ {vs ds} (n:Nat),Reps K hd O H vs ds -> Reps K hd O H (vs.drop n) (ds.drop n)
 | _,_,0,r=>r
 | _,_,_ + 1,.nil=>.nil
 | _,_,n + 1,.cons _ r=>Reps.drop n r
theorem Reps.set {v d} (h:Rep K hd O H v d):∀ {vs ds} (n:Nat),Reps K hd O H vs ds -> Reps K hd O H (vs.set n v) (ds.set n d)
 | _,_,_,.nil=>.nil
 | _,_,0,.cons _ r=>.cons h r
 | _,_,n + 1,.cons q r=>.cons q (Reps.set h n r)
theorem Rep.tupI {v:V} {ds:List PyData} (h:Rep K hd O H v (.tuple ds)):∃ a vs,v = .ref a /\ SqT K H a vs /\ Reps K hd O H vs ds:=by
 cases h with
 | tup h o r=>exact ⟨_,_,rfl,.inl (.inl h),r⟩
 | tupS h r=>exact ⟨_,_,rfl,h.sq,r⟩
theorem Rep.lstI {v:V} {ds:List PyData} (h:Rep K hd O H v (.list ds)):∃ a vs,v = .ref a /\ H a = some (.lst vs) /\ ¬ O a /\ Reps K hd O H vs ds:=by
 cases h with
 | lst h o r=>exact ⟨_,_,rfl,h,o,r⟩
theorem Rep.intI {v:V} {i:Int} (h:Rep K hd O H v (.int i)):v = .int i:=by cases h; rfl
theorem Rep.blI {v:V} {b:Bool} (h:Rep K hd O H v (.bool b)):v = .bl b:=by cases h; rfl
theorem Rep.strI {v:V} {x:Str} (h:Rep K hd O H v (.str x)):v = .str x:=by cases h; rfl
theorem Rep.nonI {v:V} (h:Rep K hd O H v .none):v = .non:=by cases h; rfl
theorem Rep.handI {v:V} (h:Rep K hd O H v HAND):∃ a,v = .ref a /\ hd = some a:=by
 generalize e:HAND = d at h
 cases h with
 | hand h=>exact ⟨_,rfl,h⟩
 | dct _ _=>cases e
 | scr _ _=>simp [HAND,SCR] at e
 | scrS _=>simp [HAND,SCR] at e
 | _=>cases e
theorem Rep.scrI {v:V} {ns:List Int} (h:Rep K hd O H v (SCR ns)):∃ a,v = .ref a /\ SqL K H a (ns.map V.int):=by
 generalize e:SCR ns = d at h
 cases h with
 | hand h=>simp [HAND,SCR] at e
 | dct _ _=>cases e
 | @scr a ms h o =>
  have:ns = ms:=by
   have e':(ns.map PyData.int) = ms.map PyData.int:=by simpa [SCR] using e
   have:=congrArg (List.map fun x=>match x with | PyData.int i=>i | _=>0) e'
   simpa [List.map_map,Function.comp_def] using this
  subst this
  exact ⟨_,rfl,.inl h⟩
 | @scrS a ms h =>
  have:ns = ms:=by
   have e':(ns.map PyData.int) = ms.map PyData.int:=by simpa [SCR] using e
   have:=congrArg (List.map fun x=>match x with | PyData.int i=>i | _=>0) e'
   simpa [List.map_map,Function.comp_def] using this
  subst this
  exact ⟨_,rfl,h H⟩
 | _=>cases e
end
mutual
def noLst:PyData -> Bool
 | .list _=>false
 | .tuple ts=>noLsts ts
 | .dict [(.none,.none)]=>true
 | .dict _=>false
 | _=>true
def noLsts:List PyData -> Bool
 | []=>true
 | t :: ts=>noLst t && noLsts ts
end
section
variable {K:PySem.W.Frag} {hd:Option Addr} {O O':Addr -> Prop} {H:Hp}
def MutO (o:Option HO):Prop:=(∃ xs,o = some (.lst xs)) \/ ∃ ks,o = some (.dK ks)
mutual
theorem Rep.up (ho:∀ a,O a -> MutO (H a)):∀ {v d},Rep K hd O' H v d -> noLst d = true -> Rep K hd O H v d
 | _,_,.non,_=>.non
 | _,_,.bl b,_=>.bl b
 | _,_,.int i,_=>.int i
 | _,_,.str x,_=>.str x
 | _,_,.tup h _ r,e=>.tup h (fun z=>by rcases ho _ z with ⟨xs,q⟩ | ⟨xs,q⟩ <;> (rw [h] at q; cases q)) (Reps.up ho r (by simpa [noLst] using e))
 | _,_,.tupS h r,e=>.tupS h (Reps.up ho r (by simpa [noLst] using e))
 | _,_,.lst _ _ _,e=>by simp [noLst] at e
 | _,_,.dct h _,e=>by simp [noLst] at e
 | _,_,.hand h,_=>.hand h
 | _,_,.scr _ _,e=>by simp [SCR,noLst] at e
 | _,_,.scrS _,e=>by simp [SCR,noLst] at e
theorem Reps.up (ho:∀ a,O a -> MutO (H a)):∀ {vs ds},Reps K hd O' H vs ds -> noLsts ds = true -> Reps K hd O H vs ds
 | _,_,.nil,_=>.nil
 | _,_,.cons h r,e=>by
  simp only [noLsts,Bool.and_eq_true] at e
  exact .cons (Rep.up ho h e.1) (Reps.up ho r e.2)
end
end
section
variable {X:Cx} {pins:List (Addr × Obj)} {σ:St} {H:Hp} {s:Shared} {hd:Option Addr} {O:Addr -> Prop}
mutual
theorem Rep.reads (I:Inv X pins σ H s):∀ {v:V} {d:PyData} {u:Value},Rep X.K hd O H v d -> RelV v u -> d.hasDict = false -> ∃ as,Reads s.heap u d as
 | _,_,_,.non,r,_=>by cases r; exact ⟨_,.none⟩
 | _,_,_,.bl b,r,_=>by cases r; exact ⟨_,.bool b⟩
 | _,_,_,.int i,r,_=>by obtain ⟨t,rfl⟩:=r; exact ⟨_,.int i t⟩
 | _,_,_,.str x,r,_=>by obtain ⟨t,rfl⟩:=r; exact ⟨_,.str x t⟩
 | _,_,_,.tup (a:=a) (vs:=vs) h _ q,r,e=>by
  cases r
  obtain ⟨its,rv,p,_⟩:=I.tuple (xs:=vs) (.inl (.inl h))
  obtain ⟨o,ho,hc,n,hdat⟩:=p
  obtain ⟨as,ra⟩:=Reps.reads I q rv (by simpa [PyData.hasDict] using e)
  exact ⟨_,.tuple ho hc hdat (by simpa using ra)⟩
 | _,_,_,.tupS (a:=a) (vs:=vs) h q,r,e=>by
  cases r
  obtain ⟨its,rv,p,_⟩:=I.tuple (xs:=vs) h.sq
  obtain ⟨o,ho,hc,n,hdat⟩:=p
  obtain ⟨as,ra⟩:=Reps.reads I q rv (by simpa [PyData.hasDict] using e)
  exact ⟨_,.tuple ho hc hdat (by simpa using ra)⟩
 | _,_,_,.lst (a:=a) (vs:=vs) h _ q,r,e=>by
  cases r
  obtain ⟨its,rv,p,_⟩:=I.list (xs:=vs) (.inl (.inl h))
  obtain ⟨o,n,ho,hc,_,hdat⟩:=p
  obtain ⟨as,ra⟩:=Reps.reads I q rv (by simpa [PyData.hasDict] using e)
  exact ⟨_,.list ho hc hdat (by simpa using ra)⟩
 | _,_,_,.dct _ _,_,e=>by simp [PyData.hasDict] at e
 | _,_,_,.hand _,_,e=>by simp [HAND,PyData.hasDict] at e
 | _,_,_,.scr _ _,_,e=>by simp [SCR,PyData.hasDict] at e
 | _,_,_,.scrS _,_,e=>by simp [SCR,PyData.hasDict] at e
theorem Reps.reads (I:Inv X pins σ H s):∀ {vs:List V} {ds:List PyData} {us:List Value},Reps X.K hd O H vs ds -> Vals vs us -> PyData.hasDictAll ds = false -> ∃ as,ReadsAll s.heap us ds as
 | _,_,_,.nil,r,_=>by cases r; exact ⟨_,.nil⟩
 | _,_,_,.cons h q,r,e=>by
  cases r with
  | cons r1 r2 =>
   have e':=e
   simp only [PyData.hasDictAll,Bool.or_eq_false_iff] at e'
   obtain ⟨as,ra⟩:=Rep.reads I h r1 e'.1
   obtain ⟨bs,rb⟩:=Reps.reads I q r2 e'.2
   exact ⟨_,.cons ra rb⟩
end
end
inductive Cell where
 | val (d:PyData)
 | own (ds:List PyData)
 | dct (ks:List (Key × PyData))
 | rdo (ks:List (Key × PyData))
def Cell.mine:Cell -> Bool
 | .val _=>false
 | .own _=>true
 | .dct _=>true
 | .rdo _=>false
def KReps (K:PySem.W.Frag) (hd:Option Addr) (O:Addr -> Prop) (H:Hp) (kvs:List (Key × V)) (ks:List (Key × PyData)):Prop:=Paired (fun (p:Key × V) (q:Key × PyData)=>p.1 = q.1 /\ Rep K hd O H p.2 q.2) kvs ks
theorem KReps.mono {K:PySem.W.Frag} {hd:Option Addr} {O O':Addr -> Prop} {H H':Hp} (ho:∀ a o,H a = some o -> O' a -> O a) (hh:∀ a o,¬ O a -> H a = some o -> H' a = some o) {kvs:List (Key × V)} {ks:List (Key × PyData)} (r:KReps K hd O H kvs ks):KReps K hd O' H' kvs ks :=
 Paired.mapP r fun _ _ z=>⟨z.1,z.2.mono ho hh⟩
abbrev En:=List (Option Cell)
structure Ctx where
 hd:Option Addr
 ext:Addr -> Prop
def OwnS (ρ:En) (σ:St) (a:Addr):Prop:=∃ (i:Nat) (c:Cell),c.mine = true /\ ρ[i]? = some (some c) /\ σ[i]? = some (some (V.ref a))
def Own (C:Ctx) (ρ:En) (σ:St) (a:Addr):Prop:=C.ext a \/ OwnS ρ σ a
def Hn (hd:Option Addr) (H:Hp) (n:Nat):Prop:=∀ a,hd = some a -> HandOk H a n
structure Stt (K:PySem.W.Frag) (C:Ctx) (ρ:En) (σ:St) (H:Hp) (n:Nat):Prop where
 len:ρ.length = σ.length
 val:∀ (i:Nat) (d:PyData),ρ[i]? = some (some (Cell.val d)) -> ∃ v,σ[i]? = some (some v) /\ Rep K C.hd (Own C ρ σ) H v d
 own:∀ (i:Nat) (ds:List PyData),ρ[i]? = some (some (Cell.own ds)) -> ∃ a vs,σ[i]? = some (some (V.ref a)) /\ H a = some (.lst vs) /\ Reps K C.hd (Own C ρ σ) H vs ds /\ ¬ C.ext a
 dct:∀ (i:Nat) (ks:List (Key × PyData)),ρ[i]? = some (some (Cell.dct ks)) -> ∃ a kvs,σ[i]? = some (some (V.ref a)) /\ H a = some (.dK kvs) /\ KReps K C.hd (Own C ρ σ) H kvs ks /\ ¬ C.ext a
 rdo:∀ (i:Nat) (ks:List (Key × PyData)),ρ[i]? = some (some (Cell.rdo ks)) -> ∃ a kvs,σ[i]? = some (some (V.ref a)) /\ H a = some (.dK kvs) /\ KReps K C.hd (Own C ρ σ) H kvs ks /\ C.ext a /\ C.hd ≠ some a
 dif:∀ (i j:Nat) (c e:Cell) (a:Addr),c.mine = true -> e.mine = true -> ρ[i]? = some (some c) -> ρ[j]? = some (some e) -> σ[i]? = some (some (V.ref a)) -> σ[j]? = some (some (V.ref a)) -> i = j
 hnd:Hn C.hd H n
 ext:∀ a,C.ext a -> MutO (H a)
 hx:∀ a,C.hd = some a -> C.ext a
def ExtE (hd:Option Addr) (H H':Hp):Prop:=∀ a o,H a = some o -> hd ≠ some a -> H' a = some o
theorem ExtE.refl {hd:Option Addr} {H:Hp}:ExtE hd H H:=fun _ _ h _=>h
theorem ExtE.trans {hd:Option Addr} {H H1 H2:Hp} (a:ExtE hd H H1) (b:ExtE hd H1 H2):ExtE hd H H2:=fun c o h n=>b c o (a c o h n) n
theorem ExtE.new {hd:Option Addr} {H:Hp} {p:Addr} {o:HO} (h:H p = none):ExtE hd H (upd H p o):=fun b u e _=>by
 rw [upd_ne (ne_of_none e h)]; exact e
section
variable {K:PySem.W.Frag} {C:Ctx} {ρ:En} {σ:St} {H H':Hp} {n n':Nat}
theorem MutO.ne {o:Option HO} (h:MutO o):o ≠ none:=by
 rcases h with ⟨_,rfl⟩ | ⟨_,rfl⟩ <;> exact fun z=>by cases z
theorem Stt.at (S:Stt K C ρ σ H n) {i:Nat} {c:Cell} (m:c.mine = true) (h1:ρ[i]? = some (some c)):∃ a:Addr,σ[i]? = some (some (V.ref a)) /\ MutO (H a) /\ ¬ C.ext a:=by
 cases c with
 | val d=>cases m
 | own ds =>
  obtain ⟨a,vs,e1,e2,_,e4⟩:=S.own i ds h1
  exact ⟨a,e1,.inl ⟨_,e2⟩,e4⟩
 | dct ks =>
  obtain ⟨a,vs,e1,e2,_,e4⟩:=S.dct i ks h1
  exact ⟨a,e1,.inr ⟨_,e2⟩,e4⟩
 | rdo ks=>cases m
theorem Stt.lst (S:Stt K C ρ σ H n) {a:Addr} (h:Own C ρ σ a):MutO (H a):=by
 rcases h with h | ⟨i,c,m,h1,h2⟩
 ·exact S.ext a h
 ·obtain ⟨b,e1,e2,_⟩:=S.at m h1
  rw [h2] at e1; cases e1
  exact e2
theorem Stt.dom (S:Stt K C ρ σ H n) {a:Addr} (h:Own C ρ σ a):H a ≠ none:=(S.lst h).ne
theorem Stt.free (S:Stt K C ρ σ H n) {a:Addr} (h:H a = none):¬ Own C ρ σ a:=fun z=>S.dom z h
theorem ExtE.rep (e:ExtE C.hd H H') (hx:∀ a,C.hd = some a -> C.ext a) {v d} (r:Rep K C.hd (Own C ρ σ) H v d):Rep K C.hd (Own C ρ σ) H' v d :=
 r.mono (fun _ _ _ z=>z) fun a o no h=>e a o h fun z=>no (.inl (hx a z))
theorem ExtE.reps (e:ExtE C.hd H H') (hx:∀ a,C.hd = some a -> C.ext a) {v d} (r:Reps K C.hd (Own C ρ σ) H v d):Reps K C.hd (Own C ρ σ) H' v d :=
 r.mono (fun _ _ _ z=>z) fun a o no h=>e a o h fun z=>no (.inl (hx a z))
theorem Stt.on (S:Stt K C ρ σ H n) (e:ExtE C.hd H H') (h:Hn C.hd H' n'):Stt K C ρ σ H' n' where
 len:=S.len
 val:=fun i d hi=>by
  obtain ⟨v,h1,h2⟩:=S.val i d hi
  exact ⟨v,h1,e.rep S.hx h2⟩
 own:=fun i ds hi=>by
  obtain ⟨a,vs,h1,h2,h3,h4⟩:=S.own i ds hi
  exact ⟨a,vs,h1,e a _ h2 fun z=>h4 (S.hx a z),e.reps S.hx h3,h4⟩
 dct:=fun i ks hi=>by
  obtain ⟨a,vs,h1,h2,h3,h4⟩:=S.dct i ks hi
  exact ⟨a,vs,h1,e a _ h2 fun z=>h4 (S.hx a z),Paired.mapP h3 fun _ _ z=>⟨z.1,e.rep S.hx z.2⟩,h4⟩
 rdo:=fun i ks hi=>by
  obtain ⟨a,vs,h1,h2,h3,h4,h5⟩:=S.rdo i ks hi
  exact ⟨a,vs,h1,e a _ h2 h5,Paired.mapP h3 fun _ _ z=>⟨z.1,e.rep S.hx z.2⟩,h4,h5⟩
 dif:=S.dif
 hnd:=h
 ext:=fun a ha=>by
  by_cases z:C.hd = some a
  ·obtain ⟨d,m,t,q,_⟩:=h a z
   exact .inl ⟨_,q⟩
  ·rcases S.ext a ha with ⟨xs,q⟩ | ⟨xs,q⟩
   ·exact .inl ⟨xs,e a _ q z⟩
   ·exact .inr ⟨xs,e a _ q z⟩
 hx:=S.hx
end
abbrev DTE:=En -> Nat -> (PyData -> Nat -> Prop) -> Prop
abbrev DTT:=En -> Nat -> (Bool -> Nat -> Prop) -> Prop
abbrev DTA:=En -> Nat -> (List PyData -> Nat -> Prop) -> Prop
def DE (X:Cx) (e:Expr) (d:DTE):Prop:=∃ te,PE X e te /\ ∀ (C:Ctx) (ρ:En) (σ:St) (H:Hp) (n:Nat) (Q:VK) (R:PyData -> Nat -> Prop),Stt X.K C ρ σ H n -> d ρ n R ->
 (∀ t n' v H',R t n' -> ExtE C.hd H H' -> Hn C.hd H' n' -> Rep X.K C.hd (Own C ρ σ) H' v t -> Q v H') -> te σ H Q
def RepT (K:PySem.W.Frag) (hd:Option Addr) (O:Addr -> Prop) (H:Hp) (v:V) (t:PyData):Prop :=
 Rep K hd O H v t \/ ∃ a vs ds,v = .ref a /\ t = .list ds /\ H a = some (.lst vs) /\ Reps K hd O H vs ds /\ hd ≠ some a
def DL (X:Cx) (e:Expr) (d:DTE):Prop:=∃ te,PE X e te /\ ∀ (C:Ctx) (ρ:En) (σ:St) (H:Hp) (n:Nat) (Q:VK) (R:PyData -> Nat -> Prop),Stt X.K C ρ σ H n -> d ρ n R ->
 (∀ t n' v H',R t n' -> ExtE C.hd H H' -> Hn C.hd H' n' -> RepT X.K C.hd (Own C ρ σ) H' v t -> Q v H') -> te σ H Q
def DN (X:Cx) (e:Expr) (d:DTA):Prop:=∃ te,PE X e te /\ ∀ (C:Ctx) (ρ:En) (σ:St) (H:Hp) (n:Nat) (Q:VK) (R:List PyData -> Nat -> Prop),Stt X.K C ρ σ H n -> d ρ n R ->
 (∀ ts n' p vs H',R ts n' -> ExtE C.hd H H' -> Hn C.hd H' n' -> H p = none -> H' p = some (.lst vs) -> Reps X.K C.hd (fun a=>Own C ρ σ a \/ a = p) H' vs ts -> Q (.ref p) H') -> te σ H Q
def DT (X:Cx) (e:Expr) (d:DTT):Prop:=∃ te,PT X e te /\ ∀ (C:Ctx) (ρ:En) (σ:St) (H:Hp) (n:Nat) (Q:Bool -> Hp -> Prop) (R:Bool -> Nat -> Prop),Stt X.K C ρ σ H n -> d ρ n R ->
 (∀ b n' H',R b n' -> ExtE C.hd H H' -> Hn C.hd H' n' -> Q b H') -> te σ H Q
def DW (X:Cx) (e:Expr) (d:DTT):Prop:=∃ te,PW X e te /\ ∀ (C:Ctx) (ρ:En) (σ:St) (H:Hp) (n:Nat) (Q:Bool -> Hp -> Prop) (R:Bool -> Nat -> Prop),Stt X.K C ρ σ H n -> d ρ n R ->
 (∀ b n' H',R b n' -> ExtE C.hd H H' -> Hn C.hd H' n' -> Q b H') -> te σ H Q
def DB (X:Cx) (es:List Expr) (d:DTA):Prop:=∃ ta,PB X es ta /\ ∀ (C:Ctx) (ρ:En) (σ:St) (H:Hp) (n:Nat) (Q:List V -> Hp -> Prop) (R:List PyData -> Nat -> Prop),Stt X.K C ρ σ H n -> d ρ n R ->
 (∀ ts n' vs H',R ts n' -> ExtE C.hd H H' -> Hn C.hd H' n' -> Reps X.K C.hd (Own C ρ σ) H' vs ts -> ts.length = es.length -> Q vs H') -> ta σ H Q
section
variable {X:Cx} {e a b c:Expr} {es:List Expr} {d da db dc:DTE} {pos:Pos}
theorem dl (h:DE X e d):DL X e d:=by
 obtain ⟨te,p,h⟩:=h
 exact ⟨te,p,fun C ρ σ H n Q R S hd hq=>h C ρ σ H n Q R S hd fun t n' v H' r e h1 h2=>hq t n' v H' r e h1 (.inl h2)⟩
def dNew (d:DTA):DTE:=fun ρ n R=>d ρ n fun ts n'=>R (.list ts) n'
theorem de_new {d:DTA} (h:DN X e d):DE X e (dNew d):=by
 obtain ⟨te,p,h⟩:=h
 refine ⟨te,p,fun C ρ σ H n Q R S hd hq=>h C ρ σ H n Q _ S hd fun ts n' p vs H' r e h1 h2 h3 h4=>hq _ n' _ H' r e h1 (.lst h3 (S.free h2) (h4.mono (fun _ _ _ z=>.inl z) fun _ _ _ z=>z))⟩
def dVar (i:Nat):DTE:=fun ρ n R=>match ρ[i]? with | some (some (Cell.val d))=>R d n | _=>False
def dOwn (i:Nat):DTE:=fun ρ n R=>match ρ[i]? with | some (some (Cell.own d))=>R (.list d) n | _=>False
def dC (t:PyData):DTE:=fun _ n R=>R t n
theorem de_var (i:Nat) {x:Str} {pos:Pos} (hN:X.N[i]? = some x:=by rfl) (hv:Vis X.env.scope x:=by first | exact Or.inl rfl | exact Or.inr (Or.inl rfl) | exact Or.inr (Or.inr rfl)) (hd:(x == ("__debug__":Str)) = false:=by decide)
  (hcd:(x == ("__classdict__":Str)) = false:=by decide):DE X (.Name x pos) (dVar i):=by
 refine ⟨_,pe_var hN hv hd hcd,fun C ρ σ H n Q R S h hq=>?_⟩
 unfold dVar at h
 split at h
 ·rename_i d e
  obtain ⟨v,h1,h2⟩:=S.val i d e
  exact ⟨v,h1,hq d n v H h ExtE.refl S.hnd h2⟩
 ·exact h.elim
theorem dl_own (i:Nat) {x:Str} {pos:Pos} (hN:X.N[i]? = some x:=by rfl) (hv:Vis X.env.scope x:=by first | exact Or.inl rfl | exact Or.inr (Or.inl rfl) | exact Or.inr (Or.inr rfl)) (hd:(x == ("__debug__":Str)) = false:=by decide)
  (hcd:(x == ("__classdict__":Str)) = false:=by decide):DL X (.Name x pos) (dOwn i):=by
 refine ⟨_,pe_var hN hv hd hcd,fun C ρ σ H n Q R S h hq=>?_⟩
 unfold dOwn at h
 split at h
 ·rename_i ds e
  obtain ⟨p,vs,h1,h2,h3,h4⟩:=S.own i ds e
  exact ⟨.ref p,h1,hq _ n _ H h ExtE.refl S.hnd (.inr ⟨p,vs,ds,rfl,rfl,h2,h3,fun z=>h4 (S.hx p z)⟩)⟩
 ·exact h.elim
theorem de_int {i j pos}:DE X (.Constant (.int i) j pos) (dC (.int i)):=⟨_,pe_int,fun _ _ _ H n _ _ S h hq=>hq _ n _ H h ExtE.refl S.hnd (.int i)⟩
theorem de_bl {b j pos}:DE X (.Constant (.bool b) j pos) (dC (.bool b)):=⟨_,pe_bl,fun _ _ _ H n _ _ S h hq=>hq _ n _ H h ExtE.refl S.hnd (.bl b)⟩
theorem de_non {j pos}:DE X (.Constant .none j pos) (dC .none):=⟨_,pe_non,fun _ _ _ H n _ _ S h hq=>hq _ n _ H h ExtE.refl S.hnd .non⟩
theorem de_str {x j pos}:DE X (.Constant (.str x) j pos) (dC (.str x)):=⟨_,pe_str,fun _ _ _ H n _ _ S h hq=>hq _ n _ H h ExtE.refl S.hnd (.str x)⟩
end
end L2
namespace L2
open PySem PySem.Spec PyProof.Rows
section
variable {K:PySem.W.Frag} {hd:Option Addr} {O:Addr -> Prop} {H H':Hp} {v:V} {t:PyData} {n:Nat}
theorem Same.ext (h:Same H H'):ExtE hd H H':=fun a o e _=>h a o e
theorem Hn.same (h:Hn hd H n) (s:Same H H'):Hn hd H' n:=fun a e=>by
 obtain ⟨d,m,t,q,r⟩:=h a e
 exact ⟨d,m,t,s _ _ q,r⟩
theorem Reps.same {vs ts} (s:Same H H') (r:Reps K hd O H vs ts):Reps K hd O H' vs ts:=r.mono (fun _ _ _ z=>z) fun a o _ h=>s a o h
theorem ExtE.repT {C:Ctx} {ρ:En} {σ:St} (e:ExtE C.hd H H') (hx:∀ a,C.hd = some a -> C.ext a) (r:RepT K C.hd (Own C ρ σ) H v t):RepT K C.hd (Own C ρ σ) H' v t:=by
 rcases r with r | ⟨a,vs,ds,h1,h2,h3,h4,h5⟩
 ·exact .inl (e.rep hx r)
 ·exact .inr ⟨a,vs,ds,h1,h2,e _ _ h3 h5,e.reps hx h4,h5⟩
theorem RepT.lstI {ds} (h:RepT K hd O H v (.list ds)):∃ a vs,v = .ref a /\ H a = some (.lst vs) /\ Reps K hd O H vs ds:=by
 rcases h with h | ⟨a,vs,es,h1,h2,h3,h4,_⟩
 ·obtain ⟨a,vs,h1,h2,_,h3⟩:=h.lstI
  exact ⟨a,vs,h1,h2,h3⟩
 ·cases h2
  exact ⟨a,vs,h1,h3,h4⟩
theorem RepT.tupI {ds} (h:RepT K hd O H v (.tuple ds)):∃ a vs,v = .ref a /\ SqT K H a vs /\ Reps K hd O H vs ds:=by
 rcases h with h | ⟨a,vs,es,h1,h2,h3,h4,_⟩
 ·exact h.tupI
 ·cases h2
theorem RepT.rep (h:RepT K hd O H v t) (nl:∀ ds,t ≠ .list ds):Rep K hd O H v t:=by
 rcases h with h | ⟨a,vs,es,h1,h2,h3,h4,_⟩
 ·exact h
 ·exact absurd h2 (nl es)
theorem RepT.intI {i} (h:RepT K hd O H v (.int i)):v = .int i:=(h.rep (by intro _ z; cases z)).intI
theorem RepT.blI {i} (h:RepT K hd O H v (.bool i)):v = .bl i:=(h.rep (by intro _ z; cases z)).blI
theorem RepT.strI {i} (h:RepT K hd O H v (.str i)):v = .str i:=(h.rep (by intro _ z; cases z)).strI
theorem RepT.nonI (h:RepT K hd O H v .none):v = .non:=(h.rep (by intro _ z; cases z)).nonI
theorem Rep.newT {p:Addr} {vs ts} (no:¬ O p) (h:H p = none) (r:Reps K hd O H vs ts):Rep K hd O (upd H p (.tup vs)) (.ref p) (.tuple ts) :=
 .tup upd_same no (r.same (fun b u e=>by rw [upd_ne (ne_of_none e h)]; exact e))
end
theorem same_upd {H:Hp} {p:Addr} {o:HO} (h:H p = none):Same H (upd H p o):=fun b u e=>by
 rw [upd_ne (ne_of_none e h)]; exact e
abbrev G2:=PyData -> PyData -> (PyData -> Prop) -> Prop
def dOp (g:G2) (da db:DTE):DTE:=fun ρ n R=>da ρ n fun x n1=>db ρ n1 fun y n2=>g x y fun z=>R z n2
def Gp2 (X:Cx) (r:R2) (g:G2):Prop:=∀ (hd:Option Addr) (O:Addr -> Prop) (H:Hp) (x y:V) (t u:PyData) (Q:VK) (R:PyData -> Prop),(∀ p,O p -> H p ≠ none) -> RepT X.K hd O H x t -> RepT X.K hd O H y u -> g t u R ->
 (∀ z v H',R z -> Same H H' -> Rep X.K hd O H' v z -> Q v H') -> r x y H Q
section
variable {X:Cx} {a b c:Expr} {da db dc:DTE} {pos:Pos} {r r':R2} {g g':G2}
theorem two {C:Ctx} {ρ:En} {σ:St} {H:Hp} {n:Nat} {ta tb:TE} (ha:∀ (C:Ctx) (ρ:En) (σ:St) (H:Hp) (n:Nat) (Q:VK) (R:PyData -> Nat -> Prop),Stt X.K C ρ σ H n -> da ρ n R ->
  (∀ t n' v H',R t n' -> ExtE C.hd H H' -> Hn C.hd H' n' -> RepT X.K C.hd (Own C ρ σ) H' v t -> Q v H') -> ta σ H Q)
  (hb:∀ (C:Ctx) (ρ:En) (σ:St) (H:Hp) (n:Nat) (Q:VK) (R:PyData -> Nat -> Prop),Stt X.K C ρ σ H n -> db ρ n R ->
  (∀ t n' v H',R t n' -> ExtE C.hd H H' -> Hn C.hd H' n' -> RepT X.K C.hd (Own C ρ σ) H' v t -> Q v H') -> tb σ H Q)
  {Q2:V -> V -> Hp -> Prop} {R2:PyData -> PyData -> Nat -> Prop} (S:Stt X.K C ρ σ H n) (h:da ρ n fun x n1=>db ρ n1 fun y n2=>R2 x y n2)
  (hq:∀ x y n2 v w H2,R2 x y n2 -> ExtE C.hd H H2 -> Stt X.K C ρ σ H2 n2 -> RepT X.K C.hd (Own C ρ σ) H2 v x -> RepT X.K C.hd (Own C ρ σ) H2 w y -> Q2 v w H2) :
  ta σ H fun v H1=>tb σ H1 fun w H2=>Q2 v w H2:=by
 refine ha C ρ σ H n _ _ S h fun t n1 v H1 r1 e1 h1 q1=>?_
 have S1:=S.on e1 h1
 refine hb C ρ σ H1 n1 _ _ S1 r1 fun u n2 w H2 r2 e2 h2 q2=>?_
 exact hq t u n2 v w H2 r2 (e1.trans e2) (S1.on e2 h2) (e2.repT S.hx q1) q2
theorem de_op {op:Operator} (ho:OpR X (binaryOp op) r) (hg:Gp2 X r g) (ha:DL X a da) (hb:DL X b db):DE X (.BinOp a op b pos) (dOp g da db):=by
 obtain ⟨ta,pa,ha⟩:=ha
 obtain ⟨tb,pb,hb⟩:=hb
 refine ⟨_,pe_op ho pa pb,fun C ρ σ H n Q R S h hq=>?_⟩
 refine two ha hb S h fun x y n2 v w H2 r2 e S2 q1 q2=>?_
 exact hg C.hd (Own C ρ σ) H2 v w x y Q _ (fun p=>S2.dom) q1 q2 r2 fun z u H' rz sm rp=>hq z n2 u H' rz (e.trans sm.ext) (S2.hnd.same sm) rp
theorem de_cmp {op:CmpOp} (ho:OpR X (compareOp op) r) (hg:Gp2 X r g) (ha:DL X a da) (hb:DL X b db) (hm:behindInMarks op b = false):DE X (.Compare a [op] [b] pos) (dOp g da db):=by
 obtain ⟨ta,pa,ha⟩:=ha
 obtain ⟨tb,pb,hb⟩:=hb
 refine ⟨_,pe_cmpR ho pa pb hm,fun C ρ σ H n Q R S h hq=>?_⟩
 refine two ha hb S h fun x y n2 v w H2 r2 e S2 q1 q2=>?_
 exact hg C.hd (Own C ρ σ) H2 v w x y Q _ (fun p=>S2.dom) q1 q2 r2 fun z u H' rz sm rp=>hq z n2 u H' rz (e.trans sm.ext) (S2.hnd.same sm) rp
def dTest (d:DTE):DTT:=fun ρ n R=>d ρ n fun t n'=>match t with | .bool k=>R k n' | _=>False
theorem dt_cmp {op:CmpOp} (ho:OpR X (compareOp op) r) (hg:Gp2 X r g) (ha:DL X a da) (hb:DL X b db) (hm:behindInMarks op b = false):DT X (.Compare a [op] [b] pos) (dTest (dOp g da db)):=by
 obtain ⟨ta,pa,ha⟩:=ha
 obtain ⟨tb,pb,hb⟩:=hb
 refine ⟨_,pt_cmpR ho pa pb hm,fun C ρ σ H n Q R S h hq=>?_⟩
 refine two ha hb S h fun x y n2 v w H2 r2 e S2 q1 q2=>?_
 refine hg C.hd (Own C ρ σ) H2 v w x y _ _ (fun p=>S2.dom) q1 q2 r2 fun z u H' rz sm rp=>?_
 cases z with
 | bool k =>
  cases rp
  exact ⟨k,rfl,hq k n2 H' rz (e.trans sm.ext) (S2.hnd.same sm)⟩
 | _=>exact rz.elim
def dChain (g g':G2) (da db dc:DTE):DTE:=fun ρ n R=>da ρ n fun x n1=>db ρ n1 fun y n2=>g x y fun z=>match z with
 | .bool true=>dc ρ n2 fun w n3=>g' y w fun z=>R z n3
 | .bool false=>R (.bool false) n2
 | _=>False
def gI (C:Int -> Int -> Prop) (f:Int -> Int -> Int):G2
 | .int i,.int j,R=>C i j /\ R (.int (f i j))
 | _,_,_=>False
def gB (f:Int -> Int -> Bool):G2
 | .int i,.int j,R=>R (.bool (f i j))
 | _,_,_=>False
theorem gp_I {C:Int -> Int -> Prop} {f:Int -> Int -> Int}:Gp2 X (rI C fun i j=>.int (f i j)) (gI C f):=by
 intro hd O H x y t u Q R dom rx ry h hq
 unfold gI at h
 split at h
 ·rename_i i j
  exact ⟨i,j,rx.intI,ry.intI,h.1,hq _ _ H h.2 (Same.refl H) (.int _)⟩
 ·exact h.elim
def gI0 (f:Int -> Int -> Int):G2
 | .int i,.int j,R=>R (.int (f i j))
 | _,_,_=>False
theorem gp_I0 {f:Int -> Int -> Int}:Gp2 X (rI0 fun i j=>.int (f i j)) (gI0 f):=by
 intro hd O H x y t u Q R dom rx ry h hq
 unfold gI0 at h
 split at h
 ·rename_i i j
  exact ⟨i,j,rx.intI,ry.intI,hq _ _ H h (Same.refl H) (.int _)⟩
 ·exact h.elim
theorem gp_B {f:Int -> Int -> Bool}:Gp2 X (rI0 fun i j=>.bl (f i j)) (gB f):=by
 intro hd O H x y t u Q R dom rx ry h hq
 unfold gB at h
 split at h
 ·rename_i i j
  exact ⟨i,j,rx.intI,ry.intI,hq _ _ H h (Same.refl H) (.bl _)⟩
 ·exact h.elim
end
section
variable {X:Cx} {a b c:Expr} {da db dc:DTE} {pos:Pos}
def oSub:=gI0 fun i j=>i - j
def oMod:=gI (fun _ j=>0 < j) fun i j=>i % j
def oFdiv:=gI CDivB fun i j=>i / j
def oShl:=gI CPow fun i j=>i * 2 ^ j.toNat
def oXor:=gI0 Builtin.bitXor
def oAnd:=gI0 Builtin.bitAnd
theorem de_sub (ha:DL X a da) (hb:DL X b db):DE X (.BinOp a .Sub b pos) (dOp oSub da db):=de_op op_sub gp_I0 ha hb
theorem de_mod (ha:DL X a da) (hb:DL X b db):DE X (.BinOp a .Mod b pos) (dOp oMod da db):=de_op op_mod gp_I ha hb
theorem de_fdiv (ha:DL X a da) (hb:DL X b db):DE X (.BinOp a .FloorDiv b pos) (dOp oFdiv da db):=de_op op_fdivB gp_I ha hb
theorem de_shl (ha:DL X a da) (hb:DL X b db):DE X (.BinOp a .LShift b pos) (dOp oShl da db):=de_op op_shl gp_I ha hb
theorem de_xor (ha:DL X a da) (hb:DL X b db):DE X (.BinOp a .BitXor b pos) (dOp oXor da db):=de_op op_xor gp_I0 ha hb
theorem de_and (ha:DL X a da) (hb:DL X b db):DE X (.BinOp a .BitAnd b pos) (dOp oAnd da db):=de_op op_and gp_I0 ha hb
end
end L2
namespace L2
open PySem PySem.Spec PyProof.Rows
section
variable {X:Cx} {pins:List (Addr × Obj)} {σ:St} {H:Hp} {s:Shared} {hd:Option Addr} {O:Addr -> Prop}
theorem RepT.reads (I:Inv X pins σ H s) {v:V} {d:PyData} {u:Value} (h:RepT X.K hd O H v d) (r:RelV v u) (e:d.hasDict = false):∃ as,Reads s.heap u d as:=by
 rcases h with h | ⟨a,vs,ds,rfl,rfl,h3,h4,_⟩
 ·exact h.reads I r e
 ·cases r
  obtain ⟨its,rv,p,_⟩:=I.list (xs:=vs) (.inl (.inl h3))
  obtain ⟨o,n,ho,hc,_,hdat⟩:=p
  obtain ⟨as,ra⟩:=Reps.reads I h4 rv (by simpa [PyData.hasDict] using e)
  exact ⟨_,.list ho hc hdat (by simpa using ra)⟩
end
def Okd (t:PyData):Prop:=t.canLay0 = true /\ t.depth <= 60
section
variable {X:Cx} {a b c:Expr} {da db dc:DTE} {pos:Pos} {k:Nat}
def rEqD (K:PySem.W.Frag) (neg:Bool):R2:=fun x y H Q=>∃ hd O t u,RepT K hd O H x t /\ RepT K hd O H y u /\ Okd t /\ Okd u /\ Q (.bl (if neg then !t.eqv u else t.eqv u)) H
theorem op_eqD (hr:Room k X.A):OpR X (compareOp .Eq) (rEqD X.K false):=by
 intro pins s σ H x y v u Q I rx ry h
 obtain ⟨hd,O,t,w,h1,h2,h3,h4,q⟩:=h
 obtain ⟨as,ra⟩:=h1.reads I rx (PyData.hasDict_of_canLay _ h3.1)
 obtain ⟨bs,rb⟩:=h2.reads I ry (PyData.hasDict_of_canLay _ h4.1)
 refine SeqAt.compareEq_reads ra rb h3.1 h4.1 ?_ ⟨.bl _,H,I,rfl,q⟩
 have:=hr.un
 have:=h3.2
 omega
theorem op_neD (hr:Room k X.A):OpR X (compareOp .NotEq) (rEqD X.K true):=by
 intro pins s σ H x y v u Q I rx ry h
 obtain ⟨hd,O,t,w,h1,h2,h3,h4,q⟩:=h
 obtain ⟨as,ra⟩:=h1.reads I rx (PyData.hasDict_of_canLay _ h3.1)
 obtain ⟨bs,rb⟩:=h2.reads I ry (PyData.hasDict_of_canLay _ h4.1)
 refine SeqAt.compareNe_reads ra rb h3.1 h4.1 ?_ ⟨.bl _,H,I,rfl,q⟩
 have:=hr.un
 have:=h3.2
 omega
def oEq:G2
 | .int i,.int j,R=>R (.bool (decide (i = j)))
 | .str i,.str j,R=>R (.bool (decide (i = j)))
 | .bool i,.bool j,R=>R (.bool (decide (i = j)))
 | t,u,R=>Okd t /\ Okd u /\ R (.bool (t.eqv u))
def oNe:G2
 | .int i,.int j,R=>R (.bool (!decide (i = j)))
 | .str i,.str j,R=>R (.bool (!decide (i = j)))
 | .bool i,.bool j,R=>R (.bool (!decide (i = j)))
 | t,u,R=>Okd t /\ Okd u /\ R (.bool (!t.eqv u))
def rEqA (K:PySem.W.Frag):R2:=fun x y H Q=>rEq x y H Q \/ rEqD K false x y H Q
def rNeA (K:PySem.W.Frag):R2:=fun x y H Q=>rNe x y H Q \/ rEqD K true x y H Q
theorem op_eqA (hr:Room k X.A):OpR X (compareOp .Eq) (rEqA X.K):=OpR.or op_eq (op_eqD hr)
theorem op_neA (hr:Room k X.A):OpR X (compareOp .NotEq) (rNeA X.K):=OpR.or op_ne (op_neD hr)
theorem gp_eq:Gp2 X (rEqA X.K) oEq:=by
 intro hd O H x y t u Q R dom rx ry h hq
 unfold oEq at h
 split at h
 ·rename_i i j
  rw [rx.intI,ry.intI]
  refine .inl ⟨rfl,?_⟩
  have e:decide (V.int i = V.int j) = decide (i = j):=decide_eq_decide.mpr ⟨fun z=>by cases z; rfl,fun z=>by rw [z]⟩
  rw [e]
  exact hq _ _ H h (Same.refl H) (.bl _)
 ·rename_i i j
  rw [rx.strI,ry.strI]
  refine .inl ⟨rfl,?_⟩
  have e:decide (V.str i = V.str j) = decide (i = j):=decide_eq_decide.mpr ⟨fun z=>by cases z; rfl,fun z=>by rw [z]⟩
  rw [e]
  exact hq _ _ H h (Same.refl H) (.bl _)
 ·rename_i i j
  rw [rx.blI,ry.blI]
  refine .inl ⟨rfl,?_⟩
  have e:decide (V.bl i = V.bl j) = decide (i = j):=decide_eq_decide.mpr ⟨fun z=>by cases z; rfl,fun z=>by rw [z]⟩
  rw [e]
  exact hq _ _ H h (Same.refl H) (.bl _)
 ·exact .inr ⟨hd,O,_,_,rx,ry,h.1,h.2.1,hq _ _ H h.2.2 (Same.refl H) (.bl _)⟩
theorem gp_ne:Gp2 X (rNeA X.K) oNe:=by
 intro hd O H x y t u Q R dom rx ry h hq
 unfold oNe at h
 split at h
 ·rename_i i j
  rw [rx.intI,ry.intI]
  refine .inl ⟨rfl,?_⟩
  have e:decide (V.int i = V.int j) = decide (i = j):=decide_eq_decide.mpr ⟨fun z=>by cases z; rfl,fun z=>by rw [z]⟩
  rw [e]
  exact hq _ _ H h (Same.refl H) (.bl _)
 ·rename_i i j
  rw [rx.strI,ry.strI]
  refine .inl ⟨rfl,?_⟩
  have e:decide (V.str i = V.str j) = decide (i = j):=decide_eq_decide.mpr ⟨fun z=>by cases z; rfl,fun z=>by rw [z]⟩
  rw [e]
  exact hq _ _ H h (Same.refl H) (.bl _)
 ·rename_i i j
  rw [rx.blI,ry.blI]
  refine .inl ⟨rfl,?_⟩
  have e:decide (V.bl i = V.bl j) = decide (i = j):=decide_eq_decide.mpr ⟨fun z=>by cases z; rfl,fun z=>by rw [z]⟩
  rw [e]
  exact hq _ _ H h (Same.refl H) (.bl _)
 ·exact .inr ⟨hd,O,_,_,rx,ry,h.1,h.2.1,hq _ _ H h.2.2 (Same.refl H) (.bl _)⟩
def isNone:PyData -> Bool
 | .none=>true
 | _=>false
def oIsN:G2
 | .bool a,.bool b,R=>R (.bool (a != b))
 | t,.none,R=>R (.bool (!isNone t))
 | _,_,_=>False
def rIsN:R2:=fun x y H Q=>(y = .non /\ Q (.bl (!decide (x = .non))) H) \/ ∃ a b,x = .bl a /\ y = .bl b /\ Q (.bl (a != b)) H
theorem op_isnt:OpR X (compareOp .IsNot) rIsN:=OpR.or op_notN op_isnotB
theorem RepT.isN {K:PySem.W.Frag} {hd:Option Addr} {O:Addr -> Prop} {H:Hp} {v:V} {t:PyData} (h:RepT K hd O H v t):decide (v = .non) = (isNone t):=by
 rcases h with h | ⟨a,vs,ds,rfl,rfl,h3,h4,_⟩
 ·cases h <;> simp [HAND,SCR,isNone]
 ·simp [isNone]
theorem gp_isnt:Gp2 X rIsN oIsN:=by
 intro hd O H x y t u Q R dom rx ry h hq
 unfold oIsN at h
 split at h
 ·rename_i i j
  exact .inr ⟨i,j,rx.blI,ry.blI,hq _ _ H h (Same.refl H) (.bl _)⟩
 ·refine .inl ⟨ry.nonI,?_⟩
  rw [rx.isN]
  exact hq _ _ H h (Same.refl H) (.bl _)
 ·exact h.elim
def oLtA:G2
 | .int i,.int j,R=>R (.bool (decide (i < j)))
 | .str i,.str j,R=>R (.bool (decide (i.cps.toList < j.cps.toList)))
 | .tuple xs,.tuple ys,R=>∃ ns ms,xs = ns.map PyData.int /\ ys = ms.map PyData.int /\ R (.bool (HT.lexLt ns ms))
 | _,_,_=>False
def rLtA (K:PySem.W.Frag):R2:=fun x y H Q=>(rI0 fun i j=>.bl (decide (i < j))) x y H Q \/ (∃ i j,x = .str i /\ y = .str j /\ Q (.bl (decide (i.cps.toList < j.cps.toList))) H) \/ rLtT K x y H Q
theorem op_ltA (hr:Room k X.A):OpR X (compareOp .Lt) (rLtA X.K):=OpR.or op_lt (OpR.or op_lt_str (op_ltT hr.units0))
theorem reps_ints {K:PySem.W.Frag} {hd:Option Addr} {O:Addr -> Prop} {H:Hp}:∀ {ns:List Int} {vs:List V},Reps K hd O H vs (ns.map PyData.int) -> vs = ns.map V.int
 | [],_,h=>by cases h; rfl
 | n :: ns,_,h=>by
  cases h with
  | cons h r=>rw [h.intI,reps_ints r]; rfl
theorem gp_ltA:Gp2 X (rLtA X.K) oLtA:=by
 intro hd O H x y t u Q R dom rx ry h hq
 unfold oLtA at h
 split at h
 ·exact .inl ⟨_,_,rx.intI,ry.intI,hq _ _ H h (Same.refl H) (.bl _)⟩
 ·exact .inr (.inl ⟨_,_,rx.strI,ry.strI,hq _ _ H h (Same.refl H) (.bl _)⟩)
 ·obtain ⟨ns,ms,rfl,rfl,h⟩:=h
  obtain ⟨p,vs,e1,s1,r1⟩:=rx.tupI
  obtain ⟨q,ws,e2,s2,r2⟩:=ry.tupI
  rw [reps_ints r1] at s1
  rw [reps_ints r2] at s2
  exact .inr (.inr ⟨p,q,ns,ms,e1,e2,s1,s2,hq _ _ H h (Same.refl H) (.bl _)⟩)
 ·exact h.elim
def oLeA:G2
 | .int i,.int j,R=>R (.bool (decide (i <= j)))
 | .str i,.str j,R=>R (.bool (!decide (j.cps.toList < i.cps.toList)))
 | _,_,_=>False
def rLeA:R2:=fun x y H Q=>(rI0 fun i j=>.bl (decide (i <= j))) x y H Q \/ (∃ i j,x = .str i /\ y = .str j /\ Q (.bl (!decide (j.cps.toList < i.cps.toList))) H)
theorem op_le_str:OpR X (compareOp .LtE) (fun x y H Q=>∃ i j,x = .str i /\ y = .str j /\ Q (.bl (!decide (j.cps.toList < i.cps.toList))) H):=by
 intro pins s σ H x y v u Q I rx ry h
 obtain ⟨i,j,rfl,rfl,q⟩:=h
 obtain ⟨t,rfl⟩:=rx
 obtain ⟨t',rfl⟩:=ry
 exact PySem.P.le_str ⟨.bl _,H,I,rfl,q⟩
theorem op_leA:OpR X (compareOp .LtE) rLeA:=OpR.or op_le op_le_str
theorem gp_leA:Gp2 X rLeA oLeA:=by
 intro hd O H x y t u Q R dom rx ry h hq
 unfold oLeA at h
 split at h
 ·exact .inl ⟨_,_,rx.intI,ry.intI,hq _ _ H h (Same.refl H) (.bl _)⟩
 ·exact .inr ⟨_,_,rx.strI,ry.strI,hq _ _ H h (Same.refl H) (.bl _)⟩
 ·exact h.elim
variable {r r':R2} {g g':G2}
end
end L2
namespace L2
open PySem PySem.Spec PyProof.Rows
section
variable {X:Cx} {a b c e:Expr} {es rest:List Expr} {d da db dc:DTE} {t u:DTT} {pos p:Pos} {k:Nat}
def truD:PyData -> (Bool -> Prop) -> Prop
 | .none,R=>R false
 | .bool b,R=>R b
 | .int i,R=>R (decide (i ≠ 0))
 | .str x,R=>x.length <= 16777216 /\ R (decide (x.length ≠ 0))
 | .list ts,R=>R (!ts.isEmpty)
 | .tuple ts,R=>R (!ts.isEmpty)
 | _,_=>False
def dTru (d:DTE):DTT:=fun ρ n R=>d ρ n fun t n'=>truD t fun b=>R b n'
theorem tru_of {K:PySem.W.Frag} {hd:Option Addr} {O:Addr -> Prop} {H:Hp} {v:V} {t:PyData} {Q:Bool -> Hp -> Prop} {R:Bool -> Prop} (r:RepT K hd O H v t) (h:truD t R) (hq:∀ b,R b -> Q b H):∃ k,TruV K v H k /\ Q k H:=by
 cases t with
 | none=>exact ⟨false,by rw [r.nonI]; rfl,hq _ h⟩
 | bool b=>exact ⟨b,by rw [r.blI]; rfl,hq _ h⟩
 | int i=>exact ⟨decide (i ≠ 0),by rw [r.intI]; show _ = (i != 0); by_cases z:i = 0 <;> simp [z],hq _ h⟩
 | str x =>
  refine ⟨decide (x.length ≠ 0),by rw [r.strI]; exact ⟨h.1,by by_cases z:x.length = 0 <;> simp [z]⟩,hq _ h.2⟩
 | list ts =>
  obtain ⟨p,vs,e,h1,h2⟩:=r.lstI
  subst e
  refine ⟨!ts.isEmpty,.inl ⟨vs,.of h1,?_⟩,hq _ h⟩
  cases h2 <;> rfl
 | tuple ts =>
  obtain ⟨p,vs,e,h1,h2⟩:=r.tupI
  subst e
  refine ⟨!ts.isEmpty,.inr (.inl ⟨vs,h1,?_⟩),hq _ h⟩
  cases h2 <;> rfl
 | dict _=>exact h.elim
theorem dt_tru (ha:DL X a da) (he:∀ whole,isTrue a X.env whole = (do let v <- whole; standAt a.pos; holding [v] (truthy v)):=by intro _; rfl):DT X a (dTru da):=by
 obtain ⟨ta,pa,ha⟩:=ha
 refine ⟨_,pt_truth pa he,fun C ρ σ H n Q R S h hq=>?_⟩
 refine ha C ρ σ H n _ _ S h fun t n' v H' r e1 h1 q=>?_
 exact tru_of q r fun b rb=>hq b n' H' rb e1 h1
def dAnd (t u:DTT):DTT:=fun ρ n R=>t ρ n fun b n1=>if b = true then u ρ n1 R else R false n1
def dOr (t u:DTT):DTT:=fun ρ n R=>t ρ n fun b n1=>if b = true then R true n1 else u ρ n1 R
theorem dt_of (h:DW X a t):DT X a t:=by
 obtain ⟨ta,pa,h⟩:=h
 exact ⟨_,pa.pt,h⟩
theorem dw_and1 (h:DT X a t):DW X (.BoolOp .And [a] pos) t:=by
 obtain ⟨ta,pa,h⟩:=h
 exact ⟨_,pw_and1 pa,h⟩
theorem dw_or1 (h:DT X a t):DW X (.BoolOp .Or [a] pos) t:=by
 obtain ⟨ta,pa,h⟩:=h
 exact ⟨_,pw_or1 pa,h⟩
theorem dw_and (h:DT X a t) (h':DW X (.BoolOp .And (b :: rest) pos) u):DW X (.BoolOp .And (a :: b :: rest) pos) (dAnd t u):=by
 obtain ⟨ta,pa,h⟩:=h
 obtain ⟨tb,pb,h'⟩:=h'
 refine ⟨_,pw_and pa pb,fun C ρ σ H n Q R S hd hq=>?_⟩
 refine h C ρ σ H n _ _ S hd fun b n1 H1 r e1 h1=>?_
 cases b with
 | true=>exact iteT (h' C ρ σ H1 n1 Q R (S.on e1 h1) (by simpa using r) fun b n2 H2 r e2 h2=>hq b n2 H2 r (e1.trans e2) h2)
 | false=>exact iteF (hq _ n1 H1 (by simpa using r) e1 h1)
theorem dw_or (h:DT X a t) (h':DW X (.BoolOp .Or (b :: rest) pos) u):DW X (.BoolOp .Or (a :: b :: rest) pos) (dOr t u):=by
 obtain ⟨ta,pa,h⟩:=h
 obtain ⟨tb,pb,h'⟩:=h'
 refine ⟨_,pw_or pa pb,fun C ρ σ H n Q R S hd hq=>?_⟩
 refine h C ρ σ H n _ _ S hd fun b n1 H1 r e1 h1=>?_
 cases b with
 | false=>exact iteF (h' C ρ σ H1 n1 Q R (S.on e1 h1) (by simpa using r) fun b n2 H2 r e2 h2=>hq b n2 H2 r (e1.trans e2) h2)
 | true=>exact iteT (hq _ n1 H1 (by simpa using r) e1 h1)
def bolD:PyData -> (Bool -> Prop) -> Prop
 | .bool b,R=>R b
 | _,_=>False
def dOrV (da db:DTE):DTE:=fun ρ n R=>da ρ n fun t n1=>bolD t fun b=>if b = true then R (.bool true) n1 else db ρ n1 R
theorem de_one {op} (h:DE X a d):DE X (.BoolOp op [a] pos) d:=by
 obtain ⟨ta,pa,h⟩:=h
 exact ⟨_,pe_one pa,h⟩
theorem de_orV (h:DE X a da) (h':DE X (.BoolOp .Or (b :: rest) pos) db):DE X (.BoolOp .Or (a :: b :: rest) pos) (dOrV da db):=by
 obtain ⟨ta,pa,h⟩:=h
 obtain ⟨tb,pb,h'⟩:=h'
 refine ⟨_,pe_or pa pb,fun C ρ σ H n Q R S hd hq=>?_⟩
 refine h C ρ σ H n _ _ S hd fun t n1 v H1 r e1 h1 q1=>?_
 cases t with
 | bool b =>
  cases q1
  refine ⟨b,rfl,?_⟩
  cases b with
  | false=>exact iteF (h' C ρ σ H1 n1 Q R (S.on e1 h1) (by simpa [bolD] using r) fun t n2 v H2 r e2 h2 q2=>hq t n2 v H2 r (e1.trans e2) h2 q2)
  | true=>exact iteT (hq _ n1 _ H1 (by simpa [bolD] using r) e1 h1 (.bl _))
 | _=>exact r.elim
def dNil:DTA:=fun _ n R=>R [] n
def dCons (d:DTE) (ds:DTA):DTA:=fun ρ n R=>d ρ n fun t n1=>ds ρ n1 fun ts n2=>R (t :: ts) n2
theorem db_nil:DB X [] dNil:=⟨_,pb_nil,fun C ρ σ H n Q R S h hq=>hq [] n [] H h ExtE.refl S.hnd .nil rfl⟩
theorem db_cons {ds:DTA} (h:DE X e d) (hr:DB X es ds) (hs:starEach (e :: es) X.env = (false,eval e X.env) :: starEach es X.env):DB X (e :: es) (dCons d ds):=by
 obtain ⟨ta,pa,h⟩:=h
 obtain ⟨tb,pb,hr⟩:=hr
 refine ⟨_,pb_cons pa pb hs,fun C ρ σ H n Q R S hd hq=>?_⟩
 refine h C ρ σ H n _ _ S hd fun t n1 v H1 r e1 h1 q1=>?_
 refine hr C ρ σ H1 n1 _ _ (S.on e1 h1) r fun ts n2 vs H2 r2 e2 h2 q2 l2=>?_
 exact hq _ n2 _ H2 r2 (e1.trans e2) h2 (.cons (e2.rep S.hx q1) q2) (by simp [l2])
def RepTs (K:PySem.W.Frag) (hd:Option Addr) (O:Addr -> Prop) (H:Hp):List V -> List PyData -> Prop:=Paired (RepT K hd O H)
def DBL (X:Cx) (es:List Expr) (d:DTA):Prop:=∃ ta,PB X es ta /\ ∀ (C:Ctx) (ρ:En) (σ:St) (H:Hp) (n:Nat) (Q:List V -> Hp -> Prop) (R:List PyData -> Nat -> Prop),Stt X.K C ρ σ H n -> d ρ n R ->
 (∀ ts n' vs H',R ts n' -> ExtE C.hd H H' -> Hn C.hd H' n' -> RepTs X.K C.hd (Own C ρ σ) H' vs ts -> ts.length = es.length -> Q vs H') -> ta σ H Q
theorem dbl_nil:DBL X [] dNil:=⟨_,pb_nil,fun C ρ σ H n Q R S h hq=>hq [] n [] H h ExtE.refl S.hnd .nil rfl⟩
theorem dbl_cons {ds:DTA} (h:DL X e d) (hr:DBL X es ds) (hs:starEach (e :: es) X.env = (false,eval e X.env) :: starEach es X.env):DBL X (e :: es) (dCons d ds):=by
 obtain ⟨ta,pa,h⟩:=h
 obtain ⟨tb,pb,hr⟩:=hr
 refine ⟨_,pb_cons pa pb hs,fun C ρ σ H n Q R S hd hq=>?_⟩
 refine h C ρ σ H n _ _ S hd fun t n1 v H1 r e1 h1 q1=>?_
 refine hr C ρ σ H1 n1 _ _ (S.on e1 h1) r fun ts n2 vs H2 r2 e2 h2 q2 l2=>?_
 exact hq _ n2 _ H2 r2 (e1.trans e2) h2 (.cons (e2.repT S.hx q1) q2) (by simp [l2])
def dTup (ds:DTA):DTE:=fun ρ n R=>ds ρ n fun ts n1=>R (.tuple ts) n1
theorem de_tup {x1:Nat} {ds:DTA} (h:DB X es ds) (hl:es.length <= sizeLine:=by decide):DE X (.Tuple es x1 pos) (dTup ds):=by
 obtain ⟨ta,pa,h⟩:=h
 refine ⟨_,pe_tupB pa,fun C ρ σ H n Q R S hd hq=>?_⟩
 refine h C ρ σ H n _ _ S hd fun ts n1 vs H1 r e1 h1 q1 l1=>⟨by rw [q1.length,l1]; exact hl,fun p hp=>?_⟩
 have S1:=S.on e1 h1
 exact hq _ n1 _ _ r (e1.trans (ExtE.new hp)) (h1.same (same_upd hp)) (.newT (S1.free hp) hp q1)
theorem dn_lst {ds:DTA} (h:DB X es ds) (hl:es.length <= sizeLine:=by decide):DN X (.List es pos) ds:=by
 obtain ⟨ta,pa,h⟩:=h
 refine ⟨_,pe_lstB pa,fun C ρ σ H n Q R S hd hq=>?_⟩
 refine h C ρ σ H n _ _ S hd fun ts n1 vs H1 r e1 h1 q1 l1=>⟨by rw [q1.length,l1]; exact hl,fun p hp=>?_⟩
 have S1:=S.on e1 h1
 have hp0:H p = none:=by
  cases z:H p with
  | none=>rfl
  | some o =>
   by_cases y:C.hd = some p
   ·obtain ⟨d,m,t,q,_⟩:=h1 p y
    rw [hp] at q; cases q
   ·rw [e1 p o z y] at hp; cases hp
 refine hq ts n1 p vs _ r (e1.trans (ExtE.new hp)) (h1.same (same_upd hp)) hp0 upd_same ?_
 refine q1.mono (fun b o hb z=>z.elim id fun z=>?_) fun b o _ hb=>same_upd hp b o hb
 subst z; rw [hp] at hb; cases hb
end
end L2
namespace L2
open PySem PySem.Spec PyProof.Rows
section
variable {X:Cx} {a b c e:Expr} {es rest:List Expr} {d da db dc:DTE} {ds:DTA} {pos p:Pos} {k:Nat} {x:Str}
abbrev GC:=List PyData -> (PyData -> Prop) -> Prop
def dCallB (g:GC) (ds:DTA):DTE:=fun ρ n R=>ds ρ n fun ts n1=>g ts fun z=>R z n1
def GpC (X:Cx) (r:List V -> Hp -> VK -> Prop) (g:GC):Prop:=∀ (hd:Option Addr) (O:Addr -> Prop) (H:Hp) (xs:List V) (ts:List PyData) (Q:VK) (R:PyData -> Prop),(∀ p,O p -> H p ≠ none) -> RepTs X.K hd O H xs ts -> g ts R ->
 (∀ z v H',R z -> Same H H' -> Rep X.K hd O H' v z -> Q v H') -> r xs H Q
theorem de_cB {id:String} {r:List V -> Hp -> VK -> Prop} {g:GC} (hc:CallR X (.builtin id) r) (hgp:GpC X r g) (hm:X.mg x = none) (hv:bootBuiltins x = some (.builtin id)) (h:DBL X (e :: es) ds) (hg:Gl X x:=by rfl) (hn:x ≠ "__name__":=by decide) (hdb:(x == ("__debug__":Str)) = false:=by decide) :
  DE X (.Call (.Name x p) (e :: es) [] pos) (dCallB g ds):=by
 obtain ⟨ta,pa,h⟩:=h
 refine ⟨_,pe_cB hc hm hv pa hg hn hdb,fun C ρ σ H n Q R S hd hq=>?_⟩
 refine h C ρ σ H n _ _ S hd fun ts n1 vs H1 r1 e1 h1 q1 _=>?_
 have S1:=S.on e1 h1
 exact hgp C.hd (Own C ρ σ) H1 vs ts Q _ (fun p=>S1.dom) q1 r1 fun z u H' rz sm rp=>hq z n1 u H' rz (e1.trans sm.ext) (h1.same sm) rp
theorem de_cT {T:String} {r:List V -> Hp -> VK -> Prop} {g:GC} (hc:CallR X (.type T) r) (hgp:GpC X r g) (hm:X.mg x = none) (hv:bootBuiltins x = some (.type T)) (h:DBL X (e :: es) ds) (hg:Gl X x:=by rfl) (hn:x ≠ "__name__":=by decide) (hdb:(x == ("__debug__":Str)) = false:=by decide) :
  DE X (.Call (.Name x p) (e :: es) [] pos) (dCallB g ds):=by
 obtain ⟨ta,pa,h⟩:=h
 refine ⟨_,pe_cT hc hm hv pa hg hn hdb,fun C ρ σ H n Q R S hd hq=>?_⟩
 refine h C ρ σ H n _ _ S hd fun ts n1 vs H1 r1 e1 h1 q1 _=>?_
 have S1:=S.on e1 h1
 exact hgp C.hd (Own C ρ σ) H1 vs ts Q _ (fun p=>S1.dom) q1 r1 fun z u H' rz sm rp=>hq z n1 u H' rz (e1.trans sm.ext) (h1.same sm) rp
theorem repTs1 {K:PySem.W.Frag} {hd:Option Addr} {O:Addr -> Prop} {H:Hp} {xs:List V} {t:PyData} (h:RepTs K hd O H xs [t]):∃ v,xs = [v] /\ RepT K hd O H v t:=by
 cases h with
 | cons h r=>cases r; exact ⟨_,rfl,h⟩
theorem repTs2 {K:PySem.W.Frag} {hd:Option Addr} {O:Addr -> Prop} {H:Hp} {xs:List V} {t u:PyData} (h:RepTs K hd O H xs [t,u]):∃ v w,xs = [v,w] /\ RepT K hd O H v t /\ RepT K hd O H w u:=by
 cases h with
 | cons h r=>cases r with | cons h2 r=>cases r; exact ⟨_,_,rfl,h,h2⟩
def bLen:GC
 | [.list ts],R=>R (.int ts.length)
 | [.tuple ts],R=>R (.int ts.length)
 | [.str x],R=>x.length <= 16777216 /\ R (.int x.length)
 | [.dict [(.none,.list ts)]],R=>R (.int ts.length)
 | _,_=>False
def rLen (K:PySem.W.Frag):List V -> Hp -> VK -> Prop:=fun xs H Q=>∃ x n,xs = [x] /\ LenV K x H n /\ Q (.int n) H
theorem gp_len:GpC X (rLen X.K) bLen:=by
 intro hd O H xs ts Q R dom rs h hq
 unfold bLen at h
 split at h
 ·obtain ⟨v,rfl,r⟩:=repTs1 rs
  obtain ⟨p,vs,rfl,h1,h2⟩:=r.lstI
  exact ⟨_,_,rfl,.inl ⟨vs,.of h1,rfl⟩,by rw [h2.length]; exact hq _ _ H h (Same.refl H) (.int _)⟩
 ·obtain ⟨v,rfl,r⟩:=repTs1 rs
  obtain ⟨p,vs,rfl,h1,h2⟩:=r.tupI
  exact ⟨_,_,rfl,.inr ⟨vs,h1,rfl⟩,by rw [h2.length]; exact hq _ _ H h (Same.refl H) (.int _)⟩
 ·obtain ⟨v,rfl,r⟩:=repTs1 rs
  rw [r.strI]
  exact ⟨_,_,rfl,⟨h.1,rfl⟩,hq _ _ H h.2 (Same.refl H) (.int _)⟩
 ·rename_i ts
  obtain ⟨v,rfl,r⟩:=repTs1 rs
  have r:=r.rep (by intro _ z; cases z)
  generalize e:(PyData.dict [(PyData.none,PyData.list ts)]) = t at r
  cases r with
  | scr h1 o =>
   simp only [SCR,PyData.dict.injEq,List.cons.injEq,Prod.mk.injEq,PyData.list.injEq,true_and,and_true] at e
   subst e
   exact ⟨_,_,rfl,.inl ⟨_,.inl h1,rfl⟩,by simpa using hq _ _ H h (Same.refl H) (.int _)⟩
  | scrS h1 =>
   simp only [SCR,PyData.dict.injEq,List.cons.injEq,Prod.mk.injEq,PyData.list.injEq,true_and,and_true] at e
   subst e
   exact ⟨_,_,rfl,.inl ⟨_,h1 H,rfl⟩,by simpa using hq _ _ H h (Same.refl H) (.int _)⟩
  | hand _=>simp [HAND] at e
  | dct _ _=>cases e
  | _=>cases e
 ·exact h.elim
def bMin:GC
 | [.int i,.int j],R=>R (.int (if j < i then j else i))
 | _,_=>False
def bMax:GC
 | [.int i,.int j],R=>R (.int (if j > i then j else i))
 | _,_=>False
theorem gp_min:GpC X (fun xs H Q=>∃ i j,xs = [.int i,.int j] /\ Q (.int (if j < i then j else i)) H) bMin:=by
 intro hd O H xs ts Q R dom rs h hq
 unfold bMin at h
 split at h
 ·obtain ⟨v,w,rfl,r1,r2⟩:=repTs2 rs
  rw [r1.intI,r2.intI]
  exact ⟨_,_,rfl,hq _ _ H h (Same.refl H) (.int _)⟩
 ·exact h.elim
theorem gp_max:GpC X (fun xs H Q=>∃ i j,xs = [.int i,.int j] /\ Q (.int (if j > i then j else i)) H) bMax:=by
 intro hd O H xs ts Q R dom rs h hq
 unfold bMax at h
 split at h
 ·obtain ⟨v,w,rfl,r1,r2⟩:=repTs2 rs
  rw [r1.intI,r2.intI]
  exact ⟨_,_,rfl,hq _ _ H h (Same.refl H) (.int _)⟩
 ·exact h.elim
def bInt:GC
 | [.int i],R=>R (.int i)
 | [.bool k],R=>R (.int (if k then 1 else 0))
 | _,_=>False
theorem gp_int:GpC X (fun xs H Q=>(∃ i,xs = [.int i] /\ Q (.int i) H) \/ ∃ k,xs = [.bl k] /\ Q (.int (if k then 1 else 0)) H) bInt:=by
 intro hd O H xs ts Q R dom rs h hq
 unfold bInt at h
 split at h
 ·obtain ⟨v,rfl,r1⟩:=repTs1 rs
  rw [r1.intI]
  exact .inl ⟨_,rfl,hq _ _ H h (Same.refl H) (.int _)⟩
 ·obtain ⟨v,rfl,r1⟩:=repTs1 rs
  rw [r1.blI]
  exact .inr ⟨_,rfl,hq _ _ H h (Same.refl H) (.int _)⟩
 ·exact h.elim
def bAll:GC
 | [.list ts],R=>∃ bs:List Bool,ts = bs.map PyData.bool /\ R (.bool (bs.all id))
 | _,_=>False
theorem reps_bools {K:PySem.W.Frag} {hd:Option Addr} {O:Addr -> Prop} {H:Hp}:∀ {ns:List Bool} {vs:List V},Reps K hd O H vs (ns.map PyData.bool) -> vs = ns.map V.bl
 | [],_,h=>by cases h; rfl
 | n :: ns,_,h=>by
  cases h with
  | cons h r=>rw [h.blI,reps_bools r]; rfl
theorem gp_all:GpC X (fun xs H Q=>∃ (a:Addr) (bs:List Bool),xs = [.ref a] /\ SqL X.K H a (bs.map V.bl) /\ Q (.bl (bs.all id)) H) bAll:=by
 intro hd O H xs ts Q R dom rs h hq
 unfold bAll at h
 split at h
 ·obtain ⟨bs,rfl,h⟩:=h
  obtain ⟨v,rfl,r1⟩:=repTs1 rs
  obtain ⟨p,vs,rfl,h1,h2⟩:=r1.lstI
  rw [reps_bools h2] at h1
  exact ⟨p,bs,rfl,.of h1,hq _ _ H h (Same.refl H) (.bl _)⟩
 ·exact h.elim
def bTuple:GC
 | [.list ts],R=>R (.tuple ts)
 | [.tuple ts],R=>R (.tuple ts)
 | _,_=>False
theorem gp_tuple:GpC X (fun xs H Q=>∃ p ys,xs = [.ref p] /\ ((SqL X.K H p ys /\ ∀ l,H l = none -> Q (.ref l) (upd H l (.tup ys))) \/ (SqT X.K H p ys /\ Q (.ref p) H))) bTuple:=by
 intro hd O H xs ts Q R dom rs h hq
 unfold bTuple at h
 split at h
 ·obtain ⟨v,rfl,r1⟩:=repTs1 rs
  obtain ⟨p,vs,rfl,h1,h2⟩:=r1.lstI
  refine ⟨p,vs,rfl,.inl ⟨.of h1,fun l hl=>?_⟩⟩
  exact hq _ _ _ h (same_upd hl) (.newT (fun z=>dom l z hl) hl h2)
 ·obtain ⟨v,rfl,r1⟩:=repTs1 rs
  obtain ⟨p,vs,rfl,h1,h2⟩:=r1.tupI
  exact ⟨p,vs,rfl,.inr ⟨h1,hq _ _ H h (Same.refl H) (r1.rep (by intro _ z; cases z))⟩⟩
 ·exact h.elim
def lItems:PyData -> (List PyData -> Prop) -> Prop
 | .list ts,R=>R ts
 | .tuple ts,R=>R ts
 | _,_=>False
def Shd (t:PyData):Prop:=t.showable = true /\ t.hasDict = false /\ t.depth <= 60 /\ t.shown.length <= 16777216
def rRepr (K:PySem.W.Frag):List V -> Hp -> VK -> Prop:=fun xs H Q=>∃ x hd O d,xs = [x] /\ RepT K hd O H x d /\ Shd d /\ Q (.str d.shown) H
theorem call_reprP (hr:Room k X.A):CallR X (.builtin "repr") (rRepr X.K):=by
 intro pins s σ H xs us Q I r h
 obtain ⟨x,hd,O,d,rfl,rp,⟨h1,h2,h3,h4⟩,q⟩:=h
 cases r with
 | cons r1 r2 =>
  cases r2
  have fin:∀ h' tk u,(∀ b o,s.heap.get? b = some o -> h'.get? b = some o) -> EP X pins σ Q (.str d.shown u) { s with heap:=h',toks:=tk }:=fun h' tk u hk=>⟨.str d.shown,H,I.kept hk,⟨_,rfl⟩,q⟩
  have tokd:∀ tk u,EP X pins σ Q (.str d.shown u) { s with toks:=tk }:=fun tk u=>⟨.str d.shown,H,I.tok tk,⟨_,rfl⟩,q⟩
  obtain ⟨as,rd⟩:=rp.reads I r1 h2
  cases rd with
  | none=>exact P.repr_of_none (by simpa only [PyData.shown] using tokd _ _)
  | bool b=>exact P.repr_of_bool (by simpa only [PyData.shown] using tokd _ _)
  | int i=>exact P.repr_of_int (by simpa [PyData.showable] using h1) (by simpa only [PyData.shown] using tokd _ _)
  | str x=>exact P.repr_of_str (by simpa only [PyData.shown] using tokd _ _) (by have h5:_ <= sizeLine:=h4; simpa only [PyData.shown] using h5)
  | list a1 a2 a3 a4=>exact repr_of_reads' (.list a1 a2 a3 a4) h1 (PyData.noDict_hsm h2) hr.gd (by have:=hr.units; omega) (fun _ _ e=>e) (fun h' u tk hk=>fin h' tk u hk) h4
  | tuple a1 a2 a3 a4=>exact repr_of_reads' (.tuple a1 a2 a3 a4) h1 (PyData.noDict_hsm h2) hr.gd (by have:=hr.units; omega) (fun _ _ e=>e) (fun h' u tk hk=>fin h' tk u hk) h4
  | dict _ _ _ _ _=>simp [PyData.hasDict] at h2
def bRepr:GC
 | [t],R=>Shd t /\ R (.str t.shown)
 | _,_=>False
theorem gp_repr:GpC X (rRepr X.K) bRepr:=by
 intro hd O H xs ts Q R dom rs h hq
 unfold bRepr at h
 split at h
 ·obtain ⟨v,rfl,r1⟩:=repTs1 rs
  exact ⟨v,hd,O,_,rfl,r1,h.1,hq _ _ H h.2 (Same.refl H) (.str _)⟩
 ·exact h.elim
end
end L2
namespace L2
open PySem PySem.Spec PyProof.Rows
section
variable {X:Cx} {a b c e:Expr} {es rest:List Expr} {d da db dc:DTE} {ds:DTA} {pos p:Pos} {k:Nat} {x:Str}
theorem Reps.atI {K:PySem.W.Frag} {hd:Option Addr} {O:Addr -> Prop} {H:Hp} {vs ts} {i:Int} {t} (r:Reps K hd O H vs ts) (h:L2.atI ts i = some t):∃ v,L2.atI vs i = some v /\ Rep K hd O H v t:=by
 unfold L2.atI at h ⊢
 rw [r.length]
 cases e:ixN ts.length i with
 | none=>rw [e] at h; cases h
 | some j =>
  rw [e] at h
  have h:ts[j]? = some t:=h
  exact r.get h
def oIx:G2
 | .list ts,.int i,R=>match atI ts i with | some t=>R t | none=>False
 | .tuple ts,.int i,R=>match atI ts i with | some t=>R t | none=>False
 | .str x,.int i,R=>x.length <= 16777216 /\ match atI x.cps.toList i with | some c=>R (.str ⟨#[c]⟩) | none=>False
 | _,_,_=>False
theorem gp_ix:Gp2 X (rIx X.K) oIx:=by
 intro hd O H x y t u Q R dom rx ry h hq
 unfold oIx at h
 split at h
 ·rename_i ts i
  obtain ⟨p,vs,rfl,h1,h2⟩:=rx.lstI
  split at h
  ·rename_i t et
   obtain ⟨v,ev,rv⟩:=h2.atI et
   exact .inl ⟨p,vs,i,v,rfl,ry.intI,.of h1,ev,hq _ _ H h (Same.refl H) rv⟩
  ·exact h.elim
 ·rename_i ts i
  obtain ⟨p,vs,rfl,h1,h2⟩:=rx.tupI
  split at h
  ·rename_i t et
   obtain ⟨v,ev,rv⟩:=h2.atI et
   exact .inr (.inl ⟨p,vs,i,v,rfl,ry.intI,h1,ev,hq _ _ H h (Same.refl H) rv⟩)
  ·exact h.elim
 ·rename_i z i
  obtain ⟨h0,h⟩:=h
  split at h
  ·rename_i c ec
   exact .inr (.inr ⟨z,i,c,rx.strI,ry.intI,h0,ec,hq _ _ H h (Same.refl H) (.str _)⟩)
  ·exact h.elim
 ·exact h.elim
theorem de_ix (ha:DL X a da) (hb:DL X b db) (hs:PlainIx b:=by intro _ _; rfl):DE X (.Subscript a b pos) (dOp oIx da db):=by
 obtain ⟨ta,pa,ha⟩:=ha
 obtain ⟨tb,pb,hb⟩:=hb
 refine ⟨_,pe_ix ix_seq pa pb hs,fun C ρ σ H n Q R S h hq=>?_⟩
 refine two ha hb S h fun x y n2 v w H2 r2 e S2 q1 q2=>?_
 exact gp_ix C.hd (Own C ρ σ) H2 v w x y Q _ (fun p=>S2.dom) q1 q2 r2 fun z u H' rz sm rp=>hq z n2 u H' rz (e.trans sm.ext) (S2.hnd.same sm) rp
def dNeg (d:DTE):DTE:=fun ρ n R=>d ρ n fun t n1=>match t with | .int i=>R (.int (-i)) n1 | _=>False
theorem de_neg (h:DE X a da):DE X (.UnaryOp .USub a pos) (dNeg da):=by
 obtain ⟨ta,pa,h⟩:=h
 refine ⟨_,pe_un un_neg pa,fun C ρ σ H n Q R S hd hq=>?_⟩
 refine h C ρ σ H n _ _ S hd fun t n1 v H1 r e1 h1 q1=>?_
 cases t with
 | int i=>rw [q1.intI]; exact ⟨i,rfl,hq _ n1 _ H1 r e1 h1 (.int _)⟩
 | _=>exact r.elim
def rCatA (K:PySem.W.Frag):R2:=fun x y H Q=>∃ a b xs ys,x = .ref a /\ y = .ref b /\ SqT K H a xs /\ SqT K H b ys /\ xs.length + ys.length <= sizeLine /\
 (xs = [] -> Q (.ref b) H) /\ (ys = [] -> Q (.ref a) H) /\ ∀ p,H p = none -> Q (.ref p) (upd H p (.tup (xs ++ ys)))
theorem op_catA:OpR X (binaryOp .Add) (rCatA X.K):=by
 intro pins s σ H x y v u Q I rx ry h
 obtain ⟨a,b,xs,ys,rfl,rfl,ha,hb,hz,q0,q1,q2⟩:=h
 by_cases hx:xs = []
 ·cases rx
  cases ry
  obtain ⟨its,r1,p1,_⟩:=I.tuple ha
  obtain ⟨its2,r2,p2,_⟩:=I.tuple hb
  have hv:its = []:=r1.nil_iff.mpr hx
  obtain ⟨⟨cls,dd,data,sl⟩,ho,hc,n,hd⟩:=id p1
  obtain ⟨⟨cls2,dd2,data2,sl2⟩,ho2,hc2,n2,hd2⟩:=id p2
  simp only at hc hd hc2 hd2
  subst hc hd hc2 hd2
  exact concat_meets ⟨_,ho,rfl⟩ ⟨_,ho2,rfl⟩ noFill_tuple_add seq_tuple_add PySem.F.slot_tuple_add PySem.F.entry_tuple_add (PySem.F.args_tuple_add_2 _ _)
   (tuple_addW0 a b its.toArray its2.toArray n n2 dd dd2 sl sl2 (by simp [hv])) ⟨ho,ho2,⟨.ref b,H,I,rfl,q0 hx⟩⟩
 ·exact op_catT pins s σ H _ _ v u Q I rx ry ⟨a,b,xs,ys,rfl,rfl,ha,hb,hx,hz,q1,fun _=>q2⟩
def oAdd:G2
 | .int i,.int j,R=>R (.int (i + j))
 | .str i,.str j,R=>i.length + j.length <= 16777216 /\ R (.str (i ++ j))
 | .tuple xs,.tuple ys,R=>xs.length + ys.length <= 16777216 /\ R (.tuple (xs ++ ys))
 | _,_,_=>False
def rAddA (K:PySem.W.Frag):R2:=fun x y H Q=>(rI0 fun i j=>.int (i + j)) x y H Q \/ (∃ i j,x = .str i /\ y = .str j /\ i.length + j.length <= sizeLine /\ Q (.str (i ++ j)) H) \/ rCatA K x y H Q
theorem op_addA:OpR X (binaryOp .Add) (rAddA X.K):=OpR.or op_add (OpR.or op_add_str op_catA)
theorem gp_add:Gp2 X (rAddA X.K) oAdd:=by
 intro hd O H x y t u Q R dom rx ry h hq
 unfold oAdd at h
 split at h
 ·exact .inl ⟨_,_,rx.intI,ry.intI,hq _ _ H h (Same.refl H) (.int _)⟩
 ·exact .inr (.inl ⟨_,_,rx.strI,ry.strI,h.1,hq _ _ H h.2 (Same.refl H) (.str _)⟩)
 ·rename_i xs ys
  obtain ⟨p,vs,rfl,h1,h2⟩:=rx.tupI
  obtain ⟨q,ws,rfl,h3,h4⟩:=ry.tupI
  refine .inr (.inr ⟨p,q,vs,ws,rfl,rfl,h1,h3,by rw [h2.length,h4.length]; exact h.1,fun e=>?_,fun e=>?_,fun l hl=>?_⟩)
  ·subst e; cases h2
   exact hq _ _ H h.2 (Same.refl H) (ry.rep (by intro _ z; cases z))
  ·subst e; cases h4
   exact hq _ _ H h.2 (Same.refl H) (by rw [List.append_nil]; exact rx.rep (by intro _ z; cases z))
  ·exact hq _ _ _ h.2 (same_upd hl) (.newT (fun z=>dom l z hl) hl (h2.append h4))
 ·exact h.elim
theorem de_add (ha:DL X a da) (hb:DL X b db):DE X (.BinOp a .Add b pos) (dOp oAdd da db):=de_op op_addA gp_add ha hb
def dCat (da db:DTE):DTA:=fun ρ n R=>da ρ n fun x n1=>db ρ n1 fun y n2=>match x,y with | .list xs,.list ys=>xs.length + ys.length <= 16777216 /\ R (xs ++ ys) n2 | _,_=>False
theorem hp_back {C:Ctx} {H H1:Hp} {n1:Nat} {p:Addr} (e1:ExtE C.hd H H1) (h1:Hn C.hd H1 n1) (hp:H1 p = none):H p = none:=by
 cases z:H p with
 | none=>rfl
 | some o =>
  by_cases y:C.hd = some p
  ·obtain ⟨d,m,t,q,_⟩:=h1 p y
   rw [hp] at q; cases q
  ·rw [e1 p o z y] at hp; cases hp
theorem reps_new {K:PySem.W.Frag} {hd:Option Addr} {O:Addr -> Prop} {H:Hp} {p:Addr} {o:HO} {vs ts} (hp:H p = none) (r:Reps K hd O H vs ts):Reps K hd (fun a=>O a \/ a = p) (upd H p o) vs ts:=by
 refine r.mono (fun b o hb z=>z.elim id fun z=>?_) fun b o _ hb=>same_upd hp b o hb
 subst z; rw [hp] at hb; cases hb
theorem dn_cat (ha:DL X a da) (hb:DL X b db):DN X (.BinOp a .Add b pos) (dCat da db):=by
 obtain ⟨ta,pa,ha⟩:=ha
 obtain ⟨tb,pb,hb⟩:=hb
 refine ⟨_,pe_op op_cat pa pb,fun C ρ σ H n Q R S h hq=>?_⟩
 refine two ha hb S h fun x y n2 v w H2 r2 e S2 q1 q2=>?_
 split at r2
 ·obtain ⟨p,vs,rfl,h1,h2⟩:=q1.lstI
  obtain ⟨q,ws,rfl,h3,h4⟩:=q2.lstI
  refine ⟨p,q,vs,ws,rfl,rfl,h1,h3,by rw [h2.length,h4.length]; exact r2.1,fun l hl=>?_⟩
  exact hq _ n2 l _ _ r2.2 (e.trans (ExtE.new hl)) (S2.hnd.same (same_upd hl)) (hp_back e S2.hnd hl) upd_same (reps_new hl (h2.append h4))
 ·exact r2.elim
def oMul:=gI CMul fun i j=>i * j
theorem de_mul (ha:DL X a da) (hb:DL X b db):DE X (.BinOp a .Mult b pos) (dOp oMul da db):=de_op op_mul gp_I ha hb
abbrev GD:=List PyData -> Nat -> (PyData -> Nat -> Prop) -> Prop
def spD (K:PySem.W.Frag) (m:Nat) (g:GD):Sp:=fun vs H Q _=>∃ (hd:Option Addr) (O:Addr -> Prop) (ts:List PyData) (n:Nat) (R:PyData -> Nat -> Prop),Reps K hd O H vs ts /\ Hn hd H n /\ (∀ a,O a -> MutO (H a)) /\ (∀ a,hd = some a -> O a) /\ ts.length = m /\ g ts n R /\
 ∀ t n' v H',R t n' -> ExtE hd H H' -> Hn hd H' n' -> Rep K hd O H' v t -> Q v H'
def dFn (g:GD) (ds:DTA):DTE:=fun ρ n R=>ds ρ n fun ts n1=>g ts n1 R
theorem de_fn {st:Stmt} {ps:List Str} {f:Addr} {fd:FuncData} {g:GD} {m:Nat} (D:Bd.Def X.K X.mg x st ps f fd) (G:FnOk X.prog X.w X.K X.mg X.base CX0 k f fd ps (spD X.K m g)) (hr:Room k X.A) (h:DB X (e :: es) ds) (hm:(e :: es).length = m:=by rfl) (hg:Gl X x:=by rfl)
  (hdb:(x == ("__debug__":Str)) = false:=by decide):DE X (.Call (.Name x p) (e :: es) [] pos) (dFn g ds):=by
 obtain ⟨ta,pa,h⟩:=h
 refine ⟨_,Bd.pe_fn D G hr pa hg hdb,fun C ρ σ H n Q R S hd hq=>?_⟩
 refine h C ρ σ H n _ _ S hd fun ts n1 vs H1 r1 e1 h1 q1 l1=>?_
 have S1:=S.on e1 h1
 rw [List.append_nil]
 exact ⟨C.hd,Own C ρ σ,ts,n1,R,q1,h1,fun a=>S1.lst,fun a z=>.inl (S.hx a z),l1.trans hm,r1,fun t n' v H' rt e2 h2 q2=>hq t n' v H' rt (e1.trans e2) h2 q2⟩
def dFnL (g:GD) (ds:DTA):DTE:=fun ρ n R=>ds ρ n fun ts n1=>g ts n1 fun t n2=>noLst t = true /\ R t n2
theorem de_fnL {st:Stmt} {ps:List Str} {f:Addr} {fd:FuncData} {g:GD} {m:Nat} (D:Bd.Def X.K X.mg x st ps f fd) (G:FnOk X.prog X.w X.K X.mg X.base CX0 k f fd ps (spD X.K m g)) (hr:Room k X.A) (h:DBL X (e :: es) ds) (hm:(e :: es).length = m:=by rfl) (hg:Gl X x:=by rfl)
  (hdb:(x == ("__debug__":Str)) = false:=by decide):DE X (.Call (.Name x p) (e :: es) [] pos) (dFnL g ds):=by
 obtain ⟨ta,pa,h⟩:=h
 refine ⟨_,Bd.pe_fn D G hr pa hg hdb,fun C ρ σ H n Q R S hd hq=>?_⟩
 refine h C ρ σ H n _ _ S hd fun ts n1 vs H1 r1 e1 h1 q1 l1=>?_
 have S1:=S.on e1 h1
 rw [List.append_nil]
 have lend:∀ {vs ts},RepTs X.K C.hd (Own C ρ σ) H1 vs ts -> Reps X.K C.hd (fun a=>C.hd = some a) H1 vs ts:=by
  intro vs ts q
  induction q with
  | nil=>exact .nil
  | cons r _ ih =>
   refine .cons ?_ ih
   rcases r with r | ⟨a,ws,us,rfl,rfl,h3,h4,h5⟩
   ·exact r.mono (fun a o _ z=>.inl (S.hx a z)) fun _ _ _ z=>z
   ·exact .lst h3 h5 (h4.mono (fun a o _ z=>.inl (S.hx a z)) fun _ _ _ z=>z)
 refine ⟨C.hd,fun a=>C.hd = some a,ts,n1,_,lend q1,h1,fun a z=>?_,fun a z=>z,l1.trans hm,r1,fun t n' v H' rt e2 h2 q2=>?_⟩
 ·obtain ⟨d,m,t,q,_⟩:=h1 a z
  exact .inl ⟨_,q⟩
 ·exact hq t n' v H' rt.2 (e1.trans e2) h2 (q2.up (fun a z=>(S1.on e2 h2).lst z) rt.1)
end
end L2
namespace L2
open PySem PySem.Spec PyProof.Rows
def Keep (C:Ctx) (ρ:En) (σ:St) (H:Hp) (ρ':En) (σ':St) (H':Hp):Prop:=∀ a o,H a = some o -> C.hd ≠ some a -> ¬ OwnS ρ σ a -> H' a = some o /\ ¬ OwnS ρ' σ' a
structure DEnds where
 nx:En -> Nat -> Prop
 rt:PyData -> Nat -> Prop
 bk:En -> Nat -> Prop:=fun _ _=>False
 ct:En -> Nat -> Prop:=fun _ _=>False
abbrev DTS:=DEnds -> En -> Nat -> Prop
structure Good (K:PySem.W.Frag) (C:Ctx) (ρ:En) (σ:St) (H:Hp) (D:Ends) (D':DEnds):Prop where
 nx:∀ ρ' σ' H' n',D'.nx ρ' n' -> Stt K C ρ' σ' H' n' -> Keep C ρ σ H ρ' σ' H' -> D.nx σ' H'
 rt:∀ t n' v H',D'.rt t n' -> Hn C.hd H' n' -> (∀ a o,H a = some o -> C.hd ≠ some a -> ¬ OwnS ρ σ a -> H' a = some o) -> Rep K C.hd C.ext H' v t -> D.rt v H'
 bk:∀ ρ' σ' H' n',D'.bk ρ' n' -> Stt K C ρ' σ' H' n' -> Keep C ρ σ H ρ' σ' H' -> D.bk σ' H'
 ct:∀ ρ' σ' H' n',D'.ct ρ' n' -> Stt K C ρ' σ' H' n' -> Keep C ρ σ H ρ' σ' H' -> D.ct σ' H'
def DS (X:Cx) (st:Stmt) (d:DTS):Prop:=∃ ts,PS X st ts /\ ∀ (C:Ctx) (ρ:En) (σ:St) (H:Hp) (n:Nat) (D:Ends) (D':DEnds),Stt X.K C ρ σ H n -> d D' ρ n -> Good X.K C ρ σ H D D' -> ts D σ H
def DSs (X:Cx) (st:List Stmt) (d:DTS):Prop:=∃ ts,PSs X st ts /\ ∀ (C:Ctx) (ρ:En) (σ:St) (H:Hp) (n:Nat) (D:Ends) (D':DEnds),Stt X.K C ρ σ H n -> d D' ρ n -> Good X.K C ρ σ H D D' -> ts D σ H
section
variable {K:PySem.W.Frag} {C:Ctx} {ρ ρ1 ρ2:En} {σ σ1 σ2:St} {H H1 H2:Hp} {n n1:Nat} {D:Ends} {D':DEnds}
theorem Keep.refl:Keep C ρ σ H ρ σ H:=fun _ _ h _ no=>⟨h,no⟩
theorem Keep.trans (k1:Keep C ρ σ H ρ1 σ1 H1) (k2:Keep C ρ1 σ1 H1 ρ2 σ2 H2):Keep C ρ σ H ρ2 σ2 H2:=fun a o h nh no=>by
 obtain ⟨h1,no1⟩:=k1 a o h nh no
 exact k2 a o h1 nh no1
theorem ExtE.keep (e:ExtE C.hd H H1):Keep C ρ σ H ρ σ H1:=fun a o h nh no=>⟨e a o h nh,no⟩
theorem Good.on (g:Good K C ρ σ H D D') (k:Keep C ρ σ H ρ1 σ1 H1):Good K C ρ1 σ1 H1 D D' where
 nx:=fun ρ' σ' H' n' h S k'=>g.nx ρ' σ' H' n' h S (k.trans k')
 rt:=fun t n' v H' h hn k' r=>g.rt t n' v H' h hn (fun a o ha nh no=>by
  obtain ⟨h1,no1⟩:=k a o ha nh no
  exact k' a o h1 nh no1) r
 bk:=fun ρ' σ' H' n' h S k'=>g.bk ρ' σ' H' n' h S (k.trans k')
 ct:=fun ρ' σ' H' n' h S k'=>g.ct ρ' σ' H' n' h S (k.trans k')
theorem Keep.reps (k:Keep C ρ σ H ρ1 σ1 H1) (hx:∀ a,C.hd = some a -> C.ext a) {v t} (r:Reps K C.hd (Own C ρ σ) H v t):Reps K C.hd (Own C ρ1 σ1) H1 v t :=
 Reps.mono (O:=Own C ρ σ) (fun a o h z=>by
  by_cases q:Own C ρ σ a
  ·exact q
  ·rcases z with z | z
   ·exact .inl z
   ·exact absurd z (k a o h (fun y=>q (.inl (hx a y))) fun y=>q (.inr y)).2) (fun a o no h=>(k a o h (fun y=>no (.inl (hx a y))) fun y=>no (.inr y)).1) r
theorem set_get {α:Type} {l:List (Option α)} {i j:Nat} {v w:α} (h:(l.set i (some v))[j]? = some (some w)):(i = j /\ v = w) \/ (i ≠ j /\ l[j]? = some (some w)):=by
 by_cases e:i = j
 ·subst e
  rw [List.getElem?_set] at h
  simp only [↓reduceIte] at h
  split at h
  ·simp at h; exact .inl ⟨rfl,h⟩
  ·cases h
 ·rw [List.getElem?_set_ne e] at h
  exact .inr ⟨e,h⟩
theorem set_ne {α:Type} {l:List (Option α)} {i j:Nat} {v w:α} (e:i ≠ j) (h:l[j]? = some (some w)):(l.set i (some v))[j]? = some (some w):=by
 rw [List.getElem?_set_ne e]; exact h
theorem set_lt {α:Type} {l:List (Option α)} {i j:Nat} {v:α} {w:Option α} (h:(l.set i (some v))[j]? = some w) (e:i = j):i < l.length:=by
 subst e
 rw [List.getElem?_set] at h
 simp only [↓reduceIte] at h
 split at h
 ·assumption
 ·cases h
theorem set_eq {α:Type} {l:List (Option α)} {i:Nat} {v:α} (h:i < l.length):(l.set i (some v))[i]? = some (some v):=by
 rw [List.getElem?_set]; simp [h]
theorem ownS_val {i:Nat} {t:PyData} {v:V} {a:Addr} (h:OwnS (ρ.set i (some (.val t))) (σ.set i (some v)) a):OwnS ρ σ a:=by
 obtain ⟨j,c,m,h1,h2⟩:=h
 rcases set_get h1 with ⟨_,z⟩ | ⟨e,h1⟩
 ·subst z; cases m
 ·rcases set_get h2 with ⟨z,_⟩ | ⟨_,h2⟩
  ·exact absurd z e
  ·exact ⟨j,c,m,h1,h2⟩
def CellOk (K:PySem.W.Frag) (hd:Option Addr) (O:Addr -> Prop) (H:Hp) (a:Addr):Cell -> Prop
 | .val _=>False
 | .rdo _=>False
 | .own ts=>∃ vs,H a = some (.lst vs) /\ Reps K hd O H vs ts
 | .dct ks=>∃ kvs,H a = some (.dK kvs) /\ KReps K hd O H kvs ks
theorem CellOk.mono {hd:Option Addr} {O O':Addr -> Prop} {H H':Hp} {a:Addr} {c:Cell} (x:CellOk K hd O H a c) (ho:∀ a o,H a = some o -> O' a -> O a) (hh:∀ a o,¬ O a -> H a = some o -> H' a = some o) (ha:∀ o,H a = some o -> H' a = some o):CellOk K hd O' H' a c:=by
 cases c with
 | val _=>exact x.elim
 | rdo _=>exact x.elim
 | own ts=>obtain ⟨vs,h1,h2⟩:=x; exact ⟨vs,ha _ h1,h2.mono ho hh⟩
 | dct ks=>obtain ⟨vs,h1,h2⟩:=x; exact ⟨vs,ha _ h1,h2.mono ho hh⟩
theorem CellOk.some {hd:Option Addr} {O:Addr -> Prop} {H:Hp} {a:Addr} {c:Cell} (x:CellOk K hd O H a c):∃ o,H a = some o:=by
 cases c with
 | val _=>exact x.elim
 | rdo _=>exact x.elim
 | own ts=>obtain ⟨vs,h1,h2⟩:=x; exact ⟨_,h1⟩
 | dct ks=>obtain ⟨vs,h1,h2⟩:=x; exact ⟨_,h1⟩
theorem CellOk.mine {hd:Option Addr} {O:Addr -> Prop} {H:Hp} {a:Addr} {c:Cell} (x:CellOk K hd O H a c):c.mine = true:=by
 cases c with
 | val _=>exact x.elim
 | rdo _=>exact x.elim
 | own ts=>rfl
 | dct ks=>rfl
theorem Stt.cell (S:Stt K C ρ σ H n) {i:Nat} {c:Cell} (m:c.mine = true) (h:ρ[i]? = some (some c)):∃ a:Addr,σ[i]? = some (some (V.ref a)) /\ CellOk K C.hd (Own C ρ σ) H a c /\ ¬ C.ext a:=by
 cases c with
 | val _=>cases m
 | rdo _=>cases m
 | own ts=>obtain ⟨a,vs,h1,h2,h3,h4⟩:=S.own i ts h; exact ⟨a,h1,⟨vs,h2,h3⟩,h4⟩
 | dct ks=>obtain ⟨a,vs,h1,h2,h3,h4⟩:=S.dct i ks h; exact ⟨a,h1,⟨vs,h2,h3⟩,h4⟩
def RdoOk (K:PySem.W.Frag) (C:Ctx) (ρ:En) (σ:St) (H:Hp):Prop:=∀ (i:Nat) (ks:List (Key × PyData)),ρ[i]? = some (some (Cell.rdo ks)) -> ∃ a kvs,σ[i]? = some (some (V.ref a)) /\ H a = some (.dK kvs) /\ KReps K C.hd (Own C ρ σ) H kvs ks /\ C.ext a /\ C.hd ≠ some a
theorem Stt.mk' (len:ρ.length = σ.length) (val:∀ (i:Nat) (d:PyData),ρ[i]? = some (some (Cell.val d)) -> ∃ v,σ[i]? = some (some v) /\ Rep K C.hd (Own C ρ σ) H v d)
  (cell:∀ (i:Nat) (c:Cell),c.mine = true -> ρ[i]? = some (some c) -> ∃ a:Addr,σ[i]? = some (some (V.ref a)) /\ CellOk K C.hd (Own C ρ σ) H a c /\ ¬ C.ext a)
  (rdo:RdoOk K C ρ σ H) (dif:∀ (i j:Nat) (c e:Cell) (a:Addr),c.mine = true -> e.mine = true -> ρ[i]? = some (some c) -> ρ[j]? = some (some e) -> σ[i]? = some (some (V.ref a)) -> σ[j]? = some (some (V.ref a)) -> i = j)
  (hnd:Hn C.hd H n) (ext:∀ a,C.ext a -> MutO (H a)) (hx:∀ a,C.hd = some a -> C.ext a):Stt K C ρ σ H n where
 len:=len
 val:=val
 own:=fun i ts h=>by obtain ⟨a,h1,⟨vs,h2,h3⟩,h4⟩:=cell i _ rfl h; exact ⟨a,vs,h1,h2,h3,h4⟩
 dct:=fun i ts h=>by obtain ⟨a,h1,⟨vs,h2,h3⟩,h4⟩:=cell i _ rfl h; exact ⟨a,vs,h1,h2,h3,h4⟩
 rdo:=rdo
 dif:=dif
 hnd:=hnd
 ext:=ext
 hx:=hx
theorem Stt.put (S:Stt K C ρ σ H n) {i:Nat} {t:PyData} {v:V} (r:Rep K C.hd (Own C ρ σ) H v t):Stt K C (ρ.set i (some (.val t))) (σ.set i (some v)) H n:=by
 have sub:∀ a o,H a = some o -> Own C (ρ.set i (some (.val t))) (σ.set i (some v)) a -> Own C ρ σ a:=fun a o _ z=>z.elim .inl fun z=>.inr (ownS_val z)
 have mono:∀ {w u},Rep K C.hd (Own C ρ σ) H w u -> Rep K C.hd (Own C (ρ.set i (some (.val t))) (σ.set i (some v))) H w u:=fun q=>q.mono sub fun _ _ _ z=>z
 refine .mk' (by simp [S.len]) (fun j d h=>?_) (fun j c m h=>?_) (fun j ks h=>?_) (fun j k c e a m1 m2 h1 h2 h3 h4=>?_) S.hnd S.ext S.hx
 rotate_left 2
 ·rcases set_get h with ⟨_,z⟩ | ⟨e,h'⟩
  ·cases z
  ·obtain ⟨a,kvs,q1,q2,q3,q4⟩:=S.rdo j ks h'
   exact ⟨a,kvs,set_ne e q1,q2,q3.mono sub fun _ _ _ z=>z,q4⟩
 rotate_left 1
 ·rcases set_get h with ⟨e,z⟩ | ⟨e,h'⟩
  ·cases z
   have:=set_lt h e
   subst e
   exact ⟨v,set_eq (by rw [<- S.len]; exact this),mono r⟩
  ·obtain ⟨w,h1,h2⟩:=S.val j d h'
   exact ⟨w,set_ne e h1,mono h2⟩
 ·rcases set_get h with ⟨e,z⟩ | ⟨e,h'⟩
  ·subst z; cases m
  ·obtain ⟨a,h1,h2,h3⟩:=S.cell m h'
   exact ⟨a,set_ne e h1,h2.mono sub (fun _ _ _ z=>z) fun _ z=>z,h3⟩
 ·rcases set_get h1 with ⟨e,z⟩ | ⟨e,h1'⟩
  ·subst z; cases m1
  ·rcases set_get h2 with ⟨e2,z⟩ | ⟨e2,h2'⟩
   ·subst z; cases m2
   ·rcases set_get h3 with ⟨z,_⟩ | ⟨_,h3'⟩
    ·exact absurd z e
    ·rcases set_get h4 with ⟨z,_⟩ | ⟨_,h4'⟩
     ·exact absurd z e2
     ·exact S.dif j k c _ a m1 m2 h1' h2' h3' h4'
theorem keep_put {i:Nat} {t:PyData} {v:V}:Keep C ρ σ H (ρ.set i (some (.val t))) (σ.set i (some v)) H:=fun a o h _ no=>⟨h,fun z=>no (ownS_val z)⟩
theorem ownS_own {i:Nat} {c:Cell} {p a:Addr} (h:OwnS (ρ.set i (some c)) (σ.set i (some (.ref p))) a):OwnS ρ σ a \/ a = p:=by
 obtain ⟨j,ds,m,h1,h2⟩:=h
 rcases set_get h2 with ⟨e,z⟩ | ⟨e,h2⟩
 ·cases z; exact .inr rfl
 ·rcases set_get h1 with ⟨z,_⟩ | ⟨_,h1⟩
  ·exact absurd z e
  ·exact .inl ⟨j,ds,m,h1,h2⟩
theorem Stt.putNew (S:Stt K C ρ σ H n) {i:Nat} {c:Cell} {p:Addr} {H':Hp} (e:ExtE C.hd H H') (h:Hn C.hd H' n1) (hp:H p = none) (r:CellOk K C.hd (fun a=>Own C ρ σ a \/ a = p) H' p c) :
  Stt K C (ρ.set i (some c)) (σ.set i (some (.ref p))) H' n1:=by
 have S':=S.on e h
 have mc:=r.mine
 have sub:∀ a,Own C (ρ.set i (some c)) (σ.set i (some (.ref p))) a -> Own C ρ σ a \/ a = p:=fun a z=>z.elim (fun z=>.inl (.inl z)) fun z=>(ownS_own z).elim (fun z=>.inl (.inr z)) .inr
 have npx:¬ C.ext p:=fun z=>S.dom (.inl z) hp
 have sb:∀ a o,H a = some o -> Own C (ρ.set i (some c)) (σ.set i (some (.ref p))) a -> Own C ρ σ a:=fun a o ho z=>(sub a z).elim id fun z=>by subst z; rw [hp] at ho; cases ho
 have kp:∀ a o,¬ Own C ρ σ a -> H a = some o -> H' a = some o:=fun a o no ho=>e a o ho fun z=>no (.inl (S.hx a z))
 have notp:∀ (j:Nat) (d:Cell),d.mine = true -> ρ[j]? = some (some d) -> σ[j]? ≠ some (some (V.ref p)):=fun j d m h1 h2=>by
  obtain ⟨a,e1,e2,_⟩:=S.cell m h1
  rw [h2] at e1; cases e1
  obtain ⟨o,e2⟩:=e2.some
  rw [hp] at e2; cases e2
 refine .mk' (by simp [S.len]) (fun j d hj=>?_) (fun j d m hj=>?_) (fun j ks hj=>?_) (fun j k c1 c2 a m1 m2 h1 h2 h3 h4=>?_) h S'.ext S.hx
 rotate_left 2
 ·rcases set_get hj with ⟨_,z⟩ | ⟨e',h'⟩
  ·subst z; cases mc
  ·obtain ⟨a,kvs,q1,q2,q3,q4,q5⟩:=S.rdo j ks h'
   exact ⟨a,kvs,set_ne e' q1,e a _ q2 q5,q3.mono sb kp,q4,q5⟩
 rotate_left 1
 ·rcases set_get hj with ⟨_,z⟩ | ⟨e',h'⟩
  ·subst z; cases mc
  ·obtain ⟨w,h1,h2⟩:=S.val j d h'
   exact ⟨w,set_ne e' h1,h2.mono sb kp⟩
 ·rcases set_get hj with ⟨e',z⟩ | ⟨e',h'⟩
  ·subst z
   have:=set_lt hj e'
   subst e'
   exact ⟨p,set_eq (by rw [<- S.len]; exact this),r.mono (fun a o _ z=>sub a z) (fun _ _ _ z=>z) fun _ z=>z,npx⟩
  ·obtain ⟨a,h1,h2,h4⟩:=S.cell m h'
   exact ⟨a,set_ne e' h1,h2.mono sb kp (fun o ho=>e a o ho fun z=>h4 (S.hx a z)),h4⟩
 ·rcases set_get h3 with ⟨e3,z3⟩ | ⟨e3,h3'⟩
  ·cases z3
   rcases set_get h4 with ⟨e4,_⟩ | ⟨e4,h4'⟩
   ·rw [<- e3,<- e4]
   ·rcases set_get h2 with ⟨z,_⟩ | ⟨_,h2'⟩
    ·exact absurd z e4
    ·exact absurd h4' (notp k _ m2 h2')
  ·rcases set_get h1 with ⟨z,_⟩ | ⟨_,h1'⟩
   ·exact absurd z e3
   ·rcases set_get h4 with ⟨e4,z4⟩ | ⟨e4,h4'⟩
    ·cases z4; exact absurd h3' (notp j _ m1 h1')
    ·rcases set_get h2 with ⟨z,_⟩ | ⟨_,h2'⟩
     ·exact absurd z e4
     ·exact S.dif j k _ _ a m1 m2 h1' h2' h3' h4'
theorem Stt.putOwn (S:Stt K C ρ σ H n) {i:Nat} {ts:List PyData} {p:Addr} {vs:List V} {H':Hp} (e:ExtE C.hd H H') (h:Hn C.hd H' n1) (hp:H p = none) (hp':H' p = some (.lst vs)) (r:Reps K C.hd (fun a=>Own C ρ σ a \/ a = p) H' vs ts) :
  Stt K C (ρ.set i (some (.own ts))) (σ.set i (some (.ref p))) H' n1:=S.putNew e h hp ⟨vs,hp',r⟩
theorem keep_putNew {i:Nat} {c:Cell} {p:Addr} {H':Hp} (e:ExtE C.hd H H') (hp:H p = none):Keep C ρ σ H (ρ.set i (some c)) (σ.set i (some (.ref p))) H':=fun a o h nh no =>
 ⟨e a o h nh,fun z=>(ownS_own z).elim no fun z=>by subst z; rw [hp] at h; cases h⟩
theorem keep_putOwn {i:Nat} {ts:List PyData} {p:Addr} {H':Hp} (e:ExtE C.hd H H') (hp:H p = none):Keep C ρ σ H (ρ.set i (some (.own ts))) (σ.set i (some (.ref p))) H':=keep_putNew e hp
theorem Stt.chgC (S:Stt K C ρ σ H n) {i:Nat} {c c':Cell} {p:Addr} {o':HO} (m:c.mine = true) (m':c'.mine = true) (h1:ρ[i]? = some (some c)) (h2:σ[i]? = some (some (.ref p)))
  (r:∀ (O':Addr -> Prop) (H':Hp),(∀ a o,H a = some o -> O' a -> Own C ρ σ a) -> (∀ a o,¬ Own C ρ σ a -> H a = some o -> H' a = some o) -> H' p = some o' -> CellOk K C.hd O' H' p c') :
  Stt K C (ρ.set i (some c')) σ (upd H p o') n /\ Keep C ρ σ H (ρ.set i (some c')) σ (upd H p o'):=by
 have op:OwnS ρ σ p:=⟨i,c,m,h1,h2⟩
 obtain ⟨p',e1,hp,npx⟩:=S.cell m h1
 rw [h2] at e1; cases e1
 have own1:∀ a,OwnS (ρ.set i (some c')) σ a -> OwnS ρ σ a:=fun a ⟨j,d,md,q1,q2⟩=>by
  rcases set_get q1 with ⟨e,_⟩ | ⟨e,q1⟩
  ·subst e; rw [h2] at q2; cases q2; exact op
  ·exact ⟨j,d,md,q1,q2⟩
 have sub:∀ a o,H a = some o -> Own C (ρ.set i (some c')) σ a -> Own C ρ σ a:=fun a o _ z=>z.elim .inl fun z=>.inr (own1 a z)
 have kp:∀ a o,¬ Own C ρ σ a -> H a = some o -> upd H p o' a = some o:=fun a o no ho=>by rw [upd_ne (show a ≠ p from fun z=>no (by rw [z]; exact .inr op))]; exact ho
 have rd:RdoOk K C (ρ.set i (some c')) σ (upd H p o'):=fun j ks hj=>by
  rcases set_get hj with ⟨_,z⟩ | ⟨e',h'⟩
  ·subst z; cases m'
  ·obtain ⟨a,kvs,q1,q2,q3,q4,q5⟩:=S.rdo j ks h'
   exact ⟨a,kvs,q1,by rw [upd_ne (show a ≠ p from fun z=>npx (by rw [<- z]; exact q4))]; exact q2,q3.mono sub kp,q4,q5⟩
 refine ⟨.mk' (by simp [S.len]) (fun j d hj=>?_) (fun j d md hj=>?_) rd (fun j k c1 c2 a m1 m2 q1 q2 q3 q4=>?_) (fun a ha=>?_) (fun a ha=>?_) S.hx,fun a o h nh no=>⟨by rw [upd_ne (show a ≠ p from fun z=>no (by rw [z]; exact op))]; exact h,fun z=>no (own1 a z)⟩⟩
 ·rcases set_get hj with ⟨_,z⟩ | ⟨e',h'⟩
  ·subst z; cases m'
  ·obtain ⟨w,q1,q2⟩:=S.val j d h'
   exact ⟨w,q1,q2.mono sub kp⟩
 ·rcases set_get hj with ⟨e',z⟩ | ⟨e',h'⟩
  ·subst z
   subst e'
   exact ⟨p,h2,r _ _ sub kp upd_same,npx⟩
  ·obtain ⟨a,q1,q2,q4⟩:=S.cell md h'
   have:a ≠ p:=fun z=>by subst z; exact e' (S.dif i j c d a m md h1 h' h2 q1)
   exact ⟨a,q1,q2.mono sub kp (fun o ho=>by rw [upd_ne this]; exact ho),q4⟩
 ·have get:∀ (j:Nat) (d:Cell),d.mine = true -> (ρ.set i (some c'))[j]? = some (some d) -> ∃ d':Cell,d'.mine = true /\ ρ[j]? = some (some d'):=fun j d md q=>by
   rcases set_get q with ⟨e,_⟩ | ⟨_,q⟩
   ·subst e; exact ⟨_,m,h1⟩
   ·exact ⟨_,md,q⟩
  obtain ⟨d1,md1,g1⟩:=get j c1 m1 q1
  obtain ⟨d2,md2,g2⟩:=get k c2 m2 q2
  exact S.dif j k d1 d2 a md1 md2 g1 g2 q3 q4
 ·obtain ⟨d,m,t,q,rest⟩:=S.hnd a ha
  exact ⟨d,m,t,by rw [upd_ne (show a ≠ p from fun z=>npx (by rw [<- z]; exact S.hx a ha))]; exact q,rest⟩
 ·by_cases z:a = p
  ·subst z; exact absurd ha npx
  ·rw [upd_ne z]; exact S.ext a ha
theorem Stt.chg (S:Stt K C ρ σ H n) {i:Nat} {ts us:List PyData} {p:Addr} {ws:List V} (h1:ρ[i]? = some (some (.own ts))) (h2:σ[i]? = some (some (.ref p))) (r:Reps K C.hd (Own C ρ σ) H ws us) :
  Stt K C (ρ.set i (some (.own us))) σ (upd H p (.lst ws)) n /\ Keep C ρ σ H (ρ.set i (some (.own us))) σ (upd H p (.lst ws)):=S.chgC rfl rfl h1 h2 fun _ _ a b hp=>⟨ws,hp,r.mono a b⟩
theorem Stt.freeze (S:Stt K C ρ σ H n) {i:Nat} {ts:List PyData} (h1:ρ[i]? = some (some (.own ts))):Stt K C (ρ.set i (some (.val (.list ts)))) σ H n /\ Keep C ρ σ H (ρ.set i (some (.val (.list ts)))) σ H:=by
 obtain ⟨p,vs,h2,hp,hr,npx⟩:=S.own i ts h1
 have own1:∀ a,OwnS (ρ.set i (some (.val (.list ts)))) σ a -> OwnS ρ σ a /\ a ≠ p:=fun a ⟨j,ds,m,q1,q2⟩=>by
  rcases set_get q1 with ⟨_,z⟩ | ⟨e,q1⟩
  ·subst z; cases m
  ·exact ⟨⟨j,ds,m,q1,q2⟩,fun z=>by subst z; exact e (S.dif i j (.own ts) ds a rfl m h1 q1 h2 q2)⟩
 have sub:∀ a o,H a = some o -> Own C (ρ.set i (some (.val (.list ts)))) σ a -> Own C ρ σ a:=fun a o _ z=>z.elim .inl fun z=>.inr (own1 a z).1
 have rd:RdoOk K C (ρ.set i (some (.val (.list ts)))) σ H:=fun j ks hj=>by
  rcases set_get hj with ⟨_,z⟩ | ⟨e',h'⟩
  ·cases z
  ·obtain ⟨a,kvs,q1,q2,q3,q4⟩:=S.rdo j ks h'
   exact ⟨a,kvs,q1,q2,q3.mono sub fun _ _ _ z=>z,q4⟩
 refine ⟨.mk' (by simp [S.len]) (fun j d hj=>?_) (fun j d m hj=>?_) rd (fun j k c1 c2 a m1 m2 q1 q2 q3 q4=>?_) S.hnd S.ext S.hx,fun a o h _ no=>⟨h,fun z=>no (own1 a z).1⟩⟩
 ·rcases set_get hj with ⟨e',z⟩ | ⟨e',h'⟩
  ·cases z
   subst e'
   exact ⟨.ref p,h2,.lst hp (fun z=>z.elim npx fun z=>(own1 p z).2 rfl) (hr.mono sub fun _ _ _ z=>z)⟩
  ·obtain ⟨w,q1,q2⟩:=S.val j d h'
   exact ⟨w,q1,q2.mono sub fun _ _ _ z=>z⟩
 ·rcases set_get hj with ⟨_,z⟩ | ⟨e',h'⟩
  ·subst z; cases m
  ·obtain ⟨a,q1,q3,q4⟩:=S.cell m h'
   exact ⟨a,q1,q3.mono sub (fun _ _ _ z=>z) fun _ z=>z,q4⟩
 ·rcases set_get q1 with ⟨_,z⟩ | ⟨_,g1⟩
  ·subst z; cases m1
  ·rcases set_get q2 with ⟨_,z⟩ | ⟨_,g2⟩
   ·subst z; cases m2
   ·exact S.dif j k _ _ a m1 m2 g1 g2 q3 q4
end
end L2
namespace L2
open PySem PySem.Spec PyProof.Rows
section
variable {X:Cx} {a b c e:Expr} {es rest:List Expr} {d da db dc:DTE} {ds:DTA} {dt:DTT} {t u:DTS} {st:Stmt} {sts sa sb:List Stmt} {pos p:Pos} {k:Nat} {x:Str}
def sNext:DTS:=fun D ρ n=>D.nx ρ n
def sSeq (t u:DTS):DTS:=fun D ρ n=>t { D with nx:=u D } ρ n
theorem dss_nil:DSs X [] sNext:=⟨_,pss_nil,fun C ρ σ H n D D' S h g=>g.nx ρ σ H n h S Keep.refl⟩
theorem dss_cons (h1:DS X st t) (h2:DSs X sts u):DSs X (st :: sts) (sSeq t u):=by
 obtain ⟨ta,pa,h1⟩:=h1
 obtain ⟨tb,pb,h2⟩:=h2
 refine ⟨_,pss_cons pa pb,fun C ρ σ H n D D' S h g=>?_⟩
 exact h1 C ρ σ H n _ _ S h ⟨fun ρ' σ' H' n' hn S' k=>h2 C ρ' σ' H' n' D D' S' hn (g.on k),g.rt,g.bk,g.ct⟩
theorem dss_one (h1:DS X st t):DSs X [st] t:=by
 obtain ⟨ta,pa,h1⟩:=h1
 exact ⟨_,pss_one pa,h1⟩
def sFreeze (i:Nat) (t:DTS):DTS:=fun D ρ n=>match ρ[i]? with | some (some (.own ts))=>t D (ρ.set i (some (.val (.list ts)))) n | _=>False
theorem dss_freeze (i:Nat) (h1:DSs X sts t):DSs X sts (sFreeze i t):=by
 obtain ⟨ta,pa,h1⟩:=h1
 refine ⟨_,pa,fun C ρ σ H n D D' S h g=>?_⟩
 unfold sFreeze at h
 split at h
 ·rename_i ts et
  obtain ⟨S',kp⟩:=S.freeze et
  exact h1 C _ σ H n D D' S' h (g.on kp)
 ·exact h.elim
def sRet (d:DTE):DTS:=fun D ρ n=>d ρ n fun t n'=>D.rt t n'
theorem ds_ret (h:DE X e d):DS X (.Return (some e) pos) (sRet d):=by
 obtain ⟨ta,pa,h⟩:=h
 refine ⟨_,ps_ret pa,fun C ρ σ H n D D' S hd g=>?_⟩
 refine h C ρ σ H n _ _ S hd fun t n' v H' r e1 h1 q=>?_
 exact g.rt t n' v H' r h1 (fun a o ha nh _=>e1 a o ha nh) (q.mono (fun _ _ _ z=>.inl z) fun _ _ _ z=>z)
def sIf (c:DTT) (t u:DTS):DTS:=fun D ρ n=>c ρ n fun b n1=>if b = true then t D ρ n1 else u D ρ n1
theorem ds_if (hc:DT X c dt) (h1:DSs X sa t) (h2:DSs X sb u):DS X (.If c sa sb pos) (sIf dt t u):=by
 obtain ⟨tc,pc,hc⟩:=hc
 obtain ⟨ta,pa,h1⟩:=h1
 obtain ⟨tb,pb,h2⟩:=h2
 refine ⟨_,ps_if pc pa pb,fun C ρ σ H n D D' S hd g=>?_⟩
 refine hc C ρ σ H n _ _ S hd fun b n1 H1 r e1 hn=>?_
 cases b with
 | true=>exact iteT (h1 C ρ σ H1 n1 D D' (S.on e1 hn) (by simpa using r) (g.on e1.keep))
 | false=>exact iteF (h2 C ρ σ H1 n1 D D' (S.on e1 hn) (by simpa using r) (g.on e1.keep))
def sSet (i:Nat) (d:DTE):DTS:=fun D ρ n=>d ρ n fun t n'=>D.nx (ρ.set i (some (.val t))) n'
theorem ds_set {i:Nat} {pos':Pos} (hN:X.N.Nodup) (hi:X.N[i]? = some x) (hx:Loc X.env.scope x) (h:DE X e d) (hs:swapsWith e (some (.Name x pos')) pos.line X.env = pure false:=by rfl) (hf:X.fn x = true \/ X.env.scope.names.lookup x = some .local:=by first | exact .inl rfl | exact .inr rfl | assumption) :
  DS X (.Assign [.Name x pos'] e pos) (sSet i d):=by
 obtain ⟨ta,pa,h⟩:=h
 refine ⟨_,ps_set hN hi hx pa hs hf,fun C ρ σ H n D D' S hd g=>?_⟩
 refine h C ρ σ H n _ _ S hd fun t n' v H' r e1 h1 q=>?_
 exact g.nx _ _ H' n' r ((S.on e1 h1).put q) (e1.keep.trans keep_put)
def sOwn (i:Nat) (d:DTA):DTS:=fun D ρ n=>d ρ n fun ts n'=>D.nx (ρ.set i (some (.own ts))) n'
theorem ds_own {i:Nat} {pos':Pos} (hN:X.N.Nodup) (hi:X.N[i]? = some x) (hx:Loc X.env.scope x) (h:DN X e ds) (hs:swapsWith e (some (.Name x pos')) pos.line X.env = pure false:=by rfl) (hf:X.fn x = true \/ X.env.scope.names.lookup x = some .local:=by first | exact .inl rfl | exact .inr rfl | assumption) :
  DS X (.Assign [.Name x pos'] e pos) (sOwn i ds):=by
 obtain ⟨ta,pa,h⟩:=h
 refine ⟨_,ps_set hN hi hx pa hs hf,fun C ρ σ H n D D' S hd g=>?_⟩
 refine h C ρ σ H n _ _ S hd fun ts n' p vs H' r e1 h1 hp hp' q=>?_
 exact g.nx _ _ H' n' r (S.putOwn e1 h1 hp hp' q) (keep_putOwn e1 hp)
abbrev DTG:=PyData -> En -> (En -> Prop) -> Prop
abbrev DTGs:=List PyData -> En -> (En -> Prop) -> Prop
def DG (X:Cx) (tg:Expr) (is:List Nat) (d:DTG):Prop:=(∀ t ρ R,d t ρ R -> ∃ ρ',R ρ') /\ ∃ g,PG X tg g /\ ∀ (C:Ctx) (ρ:En) (σ:St) (H:Hp) (n:Nat) (v:V) (t:PyData) (Q:St -> Hp -> Prop) (R:En -> Prop),Stt X.K C ρ σ H n -> Rep X.K C.hd (Own C ρ σ) H v t -> d t ρ R ->
 (∀ ρ' σ',R ρ' -> Stt X.K C ρ' σ' H n -> Keep C ρ σ H ρ' σ' H -> (∀ j,j ∉ is -> σ'[j]? = σ[j]?) -> σ'.length = σ.length -> Q σ' H) -> g v σ H Q
def DGs (X:Cx) (tgs:List Expr) (is:List Nat) (d:DTGs):Prop:=(∀ ts ρ R,d ts ρ R -> ts.length = tgs.length) /\ (∀ t ρ R,d t ρ R -> ∃ ρ',R ρ') /\ ∃ g,PGs X tgs g /\ ∀ (C:Ctx) (ρ:En) (σ:St) (H:Hp) (n:Nat) (vs:List V) (ts:List PyData) (Q:St -> Hp -> Prop) (R:En -> Prop),Stt X.K C ρ σ H n -> Reps X.K C.hd (Own C ρ σ) H vs ts -> d ts ρ R ->
 (∀ ρ' σ',R ρ' -> Stt X.K C ρ' σ' H n -> Keep C ρ σ H ρ' σ' H -> (∀ j,j ∉ is -> σ'[j]? = σ[j]?) -> σ'.length = σ.length -> Q σ' H) -> g vs σ H Q
def tgName (i:Nat):DTG:=fun t ρ R=>R (ρ.set i (some (.val t)))
def tgNil:DTGs:=fun ts ρ R=>match ts with | []=>R ρ | _=>False
def tgCons (d:DTG) (ds:DTGs):DTGs:=fun ts ρ R=>match ts with | t :: ts=>d t ρ fun ρ'=>ds ts ρ' R | []=>False
def tgTup (ds:DTGs):DTG:=fun t ρ R=>match t with | .tuple ts=>ds ts ρ R | _=>False
theorem dg_name {i:Nat} (hN:X.N.Nodup) (hi:X.N[i]? = some x) (hx:Loc X.env.scope x) (hf:X.fn x = true \/ X.env.scope.names.lookup x = some .local:=by first | exact .inl rfl | exact .inr rfl | assumption):DG X (.Name x pos) [i] (tgName i):=by
 refine ⟨fun t ρ R h=>⟨_,h⟩,_,pg_name hN hi hx hf,fun C ρ σ H n v t Q R S r hd hq=>?_⟩
 exact hq _ _ hd (S.put r) keep_put (fun j hj=>by rw [List.getElem?_set_ne (fun z=>hj (by simp [z]))]) (by simp)
theorem dgs_nil:DGs X [] [] tgNil:=by
 refine ⟨fun ts ρ R h=>?_,fun ts ρ R h=>?_,_,pgs_nil,fun C ρ σ H n vs ts Q R S r hd hq=>?_⟩
 ·cases ts with
  | nil=>rfl
  | cons _ _=>exact h.elim
 ·cases ts with
  | nil=>exact ⟨_,h⟩
  | cons _ _=>exact h.elim
 ·cases r with
  | nil=>exact ⟨rfl,hq _ _ hd S Keep.refl (fun _ _=>rfl) rfl⟩
  | cons _ _=>exact hd.elim
theorem dgs_cons {is js:List Nat} {g:DTG} {gs:DTGs} (h1:DG X e is g) (h2:DGs X es js gs) (hs:(assignEach (e :: es) X.env).map (·.2) = assign e X.env :: (assignEach es X.env).map (·.2):=by rfl):DGs X (e :: es) (is ++ js) (tgCons g gs):=by
 obtain ⟨w1,ga,pa,h1⟩:=h1
 obtain ⟨l2,w2,gb,pb,h2⟩:=h2
 refine ⟨fun ts ρ R h=>?_,fun ts ρ R h=>?_,_,pgs_cons pa pb hs,fun C ρ σ H n vs ts Q R S r hd hq=>?_⟩
 ·cases ts with
  | nil=>exact h.elim
  | cons t ts =>
   obtain ⟨ρ',h'⟩:=w1 t ρ _ h
   simp [l2 ts ρ' R h']
 ·cases ts with
  | nil=>exact h.elim
  | cons t ts =>
   obtain ⟨ρ',h'⟩:=w1 t ρ _ h
   exact w2 ts ρ' R h'
 ·cases r with
  | nil=>exact hd.elim
  | cons r rs =>
   refine ⟨_,_,rfl,h1 C ρ σ H n _ _ _ _ S r hd fun ρ' σ' hr S' kp hj hl=>?_⟩
   refine h2 C ρ' σ' H n _ _ _ _ S' (kp.reps S.hx rs) hr fun ρ2 σ2 hr2 S2 kp2 hj2 hl2=>?_
   exact hq ρ2 σ2 hr2 S2 (kp.trans kp2) (fun j hj'=>by rw [hj2 j (fun z=>hj' (by simp [z])),hj j (fun z=>hj' (by simp [z]))]) (hl2.trans hl)
theorem dg_tup {is:List Nat} {gs:DTGs} {k:Nat} (hc:X.calm = true) (h:DGs X es is gs) (hn:(assignEach es X.env).length = es.length:=by rfl) (hst:(assignEach es X.env).findIdx? (·.1) = none:=by rfl):DG X (.Tuple es k pos) is (tgTup gs):=by
 obtain ⟨l,w,g,pg,h⟩:=h
 refine ⟨fun t ρ R h=>?_,_,pg_tup hc pg hn hst,fun C ρ σ H n v t Q R S r hd hq=>?_⟩
 ·cases t with
  | tuple ts=>exact w ts ρ R h
  | _=>exact h.elim
 ·cases t with
  | tuple ts =>
   obtain ⟨p,vs,rfl,h1,h2⟩:=r.tupI
   exact ⟨p,vs,rfl,h1,by rw [h2.length]; exact l ts ρ R hd,h C ρ σ H n vs ts Q R S h2 hd hq⟩
  | _=>exact hd.elim
def sAsg (d:DTE) (g:DTG):DTS:=fun D ρ n=>d ρ n fun t n'=>g t ρ fun ρ'=>D.nx ρ' n'
theorem ds_asg {tg:Expr} {is:List Nat} {g:DTG} (h:DE X e d) (hg:DG X tg is g) (hs:swapsWithSole [tg] e pos.line X.env = pure false:=by rfl) (hw:swappedStores [tg] e X.env = pure none:=by rfl)
  (h1:(assignEach [tg] X.env).map (·.2) = [assign tg X.env]:=by rfl):DS X (.Assign [tg] e pos) (sAsg d g):=by
 obtain ⟨ta,pa,h⟩:=h
 obtain ⟨w,gb,pb,hg⟩:=hg
 refine ⟨_,ps_asg pa pb hs hw h1,fun C ρ σ H n D D' S hd gd=>?_⟩
 refine h C ρ σ H n _ _ S hd fun t n' v H' r e1 hn q=>?_
 exact hg C ρ σ H' n' v t _ _ (S.on e1 hn) q r fun ρ' σ' hr S' kp _ _=>gd.nx ρ' σ' H' n' hr S' (e1.keep.trans kp)
def sAppend (i:Nat) (d:DTE):DTS:=fun D ρ n=>match ρ[i]? with
 | some (some (.own ts))=>d ρ n fun t n'=>ts.length < 16777216 /\ D.nx (ρ.set i (some (.own (ts ++ [t])))) n'
 | _=>False
theorem ds_append (i:Nat) {p1 p2 p3:Pos} (h:DE X e d) (hN:X.N[i]? = some x:=by rfl) (hv:Vis X.env.scope x:=by first | exact Or.inl rfl | exact Or.inr (Or.inl rfl) | exact Or.inr (Or.inr rfl)) (hd:(x == ("__debug__":Str)) = false:=by decide)
  (hcd:(x == ("__classdict__":Str)) = false:=by decide) (hs:swapsWith (.Call (.Attribute (.Name x p1) "append" p2) [e] [] p3) none pos.line X.env = pure false:=by rfl)
  (hbase:attributeBase (.Name x p1) "append" X.env (eval (.Name x p1) X.env) = eval (.Name x p1) X.env:=by rfl)
  (hfew:((backTo p3 (starEach [e] X.env)).all (fun x=>!x.1) && (backToKw p3 (keywordEach [] X.env)).all (fun x=>x.1.isSome)
   && decide ([e].length + ([]:List Keyword).length + (if ([]:List Keyword).isEmpty then 0 else 1) < 30)) = true:=by rfl)
  (hline:(p2.endLine == p3.line) = true:=by rfl) (hst:starEach [e] X.env = [(false,eval e X.env)]:=by rfl):DS X (.Expr (.Call (.Attribute (.Name x p1) "append" p2) [e] [] p3) pos) (sAppend i d):=by
 obtain ⟨ta,pa,h⟩:=h
 refine ⟨_,ps_expr (pe_bm PySem.F.plainAttrs_list PySem.F.slot_list_append PySem.F.type_list_append mt_append (pe_var hN hv hd hcd) (pa_cons pa pa_nil hst) hbase hfew hline hst rfl) hs,fun C ρ σ H n D D' S hd g=>?_⟩
 unfold sAppend at hd
 split at hd
 ·rename_i ts et
  obtain ⟨p,vs,h1,h2,h3,h4⟩:=S.own i ts et
  refine ⟨.ref p,h1,.inl ⟨rfl,_,SqL.of h2⟩,?_⟩
  refine h C ρ σ H n _ _ S hd fun t n' v H' r e1 hn q=>?_
  have S1:=S.on e1 hn
  obtain ⟨p',vs',h1',h2',h3',h4'⟩:=S1.own i ts et
  rw [h1] at h1'; cases h1'
  refine ⟨p,vs',v,rfl,rfl,h2',by rw [h3'.length]; exact r.1,?_⟩
  obtain ⟨S2,k2⟩:=S1.chg et h1 (h3'.append (.cons q .nil))
  exact g.nx _ _ _ n' r.2 S2 (e1.keep.trans k2)
 ·exact hd.elim
def sPut (i:Nat) (dj d:DTE):DTS:=fun D ρ n=>d ρ n fun t n1=>match ρ[i]? with
 | some (some (.own ts))=>dj ρ n1 fun j n2=>match j with | .int j=>(match ixN ts.length j with | some k=>D.nx (ρ.set i (some (.own (ts.set k t)))) n2 | none=>False) | _=>False
 | _=>False
theorem ds_put (i:Nat) {dj:DTE} {p1 p2:Pos} (hj:DE X b dj) (h:DE X e d) (hN:X.N[i]? = some x:=by rfl) (hv:Vis X.env.scope x:=by first | exact Or.inl rfl | exact Or.inr (Or.inl rfl) | exact Or.inr (Or.inr rfl)) (hd:(x == ("__debug__":Str)) = false:=by decide)
  (hcd:(x == ("__classdict__":Str)) = false:=by decide) (hs:swapsWithSole [.Subscript (.Name x p1) b p2] e pos.line X.env = pure false:=by rfl) (hw:swappedStores [.Subscript (.Name x p1) b p2] e X.env = pure none:=by rfl)
  (h1:(assignEach [.Subscript (.Name x p1) b p2] X.env).map (·.2) = [assign (.Subscript (.Name x p1) b p2) X.env]:=by rfl)
  (hsub:PG X (.Subscript (.Name x p1) b p2) = PG X (.Subscript (.Name x p1) b p2):=rfl) (pg:∀ {to ti:TE} {t:TSet},PE X (.Name x p1) to -> PE X b ti -> PSet X t -> PG X (.Subscript (.Name x p1) b p2) (L2.gSub to ti t):=by intro _ _ _ h1 h2 h3; exact pg_sub h1 h2 h3) :
  DS X (.Assign [.Subscript (.Name x p1) b p2] e pos) (sPut i dj d):=by
 obtain ⟨ta,pa,h⟩:=h
 obtain ⟨tj,pj,hj⟩:=hj
 refine ⟨_,ps_asg pa (pg (pe_var hN hv hd hcd) pj set_list) hs hw h1,fun C ρ σ H n D D' S hd g=>?_⟩
 refine h C ρ σ H n _ _ S hd fun t n1 v H1 r e1 hn q=>?_
 have S1:=S.on e1 hn
 split at r
 ·rename_i ts et
  obtain ⟨p,vs,h1,h2,h3,h4⟩:=S1.own i ts et
  refine ⟨.ref p,h1,hj C ρ σ H1 n1 _ _ S1 r fun j n2 w H2 r2 e2 hn2 q2=>?_⟩
  have S2:=S1.on e2 hn2
  cases j with
  | int j =>
   have r2:(match ixN ts.length j with | some k=>D'.nx (ρ.set i (some (.own (ts.set k t)))) n2 | none=>False):=r2
   cases ek:ixN ts.length j with
   | none=>rw [ek] at r2; exact r2.elim
   | some m =>
    rw [ek] at r2
    obtain ⟨p',vs',h1',h2',h3',h4'⟩:=S2.own i ts et
    rw [h1] at h1'; cases h1'
    refine ⟨p,vs',j,m,rfl,q2.intI,h2',by rw [h3'.length]; exact ek,?_⟩
    obtain ⟨S3,k3⟩:=S2.chg et h1 (h3'.set (e2.rep S.hx q) m)
    exact g.nx _ _ _ n2 r2 S3 ((e1.trans e2).keep.trans k3)
  | _=>exact r2.elim
 ·exact r.elim
def sWhile (c:DTT) (tb:DTS):DTS:=fun D ρ n=>∃ W:Nat -> En -> Nat -> Prop,(∃ m,W m ρ n) /\ ∀ m ρ n,W m ρ n ->
 c ρ n fun b n1=>if b = true then tb { D with nx:=fun ρ' n'=>∃ m',m' < m /\ W m' ρ' n',ct:=fun ρ' n'=>∃ m',m' < m /\ W m' ρ' n',bk:=D.nx } ρ n1 else D.nx ρ n1
theorem ds_while (hp:PassesOwn (model X.prog X.w) X.A X.env X.xe) (hc:DT X c dt) (hb:DSs X sa t):DS X (.While c sa [] pos) (sWhile dt t):=by
 obtain ⟨tc,pc,hc⟩:=hc
 obtain ⟨tb,pb,hb⟩:=hb
 refine ⟨_,ps_while hp pc pb,fun C ρ σ H n D D' S hd g=>?_⟩
 obtain ⟨W,⟨m0,w0⟩,turn⟩:=hd
 refine ⟨fun m σ1 H1=>∃ ρ1 n1,W m ρ1 n1 /\ Stt X.K C ρ1 σ1 H1 n1 /\ Keep C ρ σ H ρ1 σ1 H1,⟨m0,ρ,n,w0,S,Keep.refl⟩,?_⟩
 rintro m σ1 H1 ⟨ρ1,n1,w1,S1,k1⟩
 refine hc C ρ1 σ1 H1 n1 _ _ S1 (turn m ρ1 n1 w1) fun b n2 H2 r e2 hn2=>?_
 have S2:=S1.on e2 hn2
 have k2:=k1.trans e2.keep
 cases b with
 | true =>
  refine iteT ⟨fun σ' H'=>∃ m',m' < m /\ ∃ ρ' n',W m' ρ' n' /\ Stt X.K C ρ' σ' H' n' /\ Keep C ρ σ H ρ' σ' H',fun σ' H' ⟨m',hm,z⟩=>⟨m',hm,z⟩,?_⟩
  refine hb C ρ1 σ1 H2 n2 _ { D' with nx:=fun ρ' n'=>∃ m',m' < m /\ W m' ρ' n',ct:=fun ρ' n'=>∃ m',m' < m /\ W m' ρ' n',bk:=D'.nx } S2 (by simpa using r) ⟨?_,fun t n' v H' h hn k' r=>g.rt t n' v H' h hn (fun a o ha nh no=>?_) r,?_,?_⟩
  ·rintro ρ' σ' H' n' ⟨m',hm,w'⟩ S' k'
   exact ⟨m',hm,ρ',n',w',S',k2.trans k'⟩
  ·obtain ⟨q1,q2⟩:=k2 a o ha nh no
   exact k' a o q1 nh q2
  ·intro ρ' σ' H' n' h' S' k'
   exact g.nx ρ' σ' H' n' h' S' (k2.trans k')
  ·rintro ρ' σ' H' n' ⟨m',hm,w'⟩ S' k'
   exact ⟨m',hm,ρ',n',w',S',k2.trans k'⟩
 | false=>exact iteF (g.nx ρ1 σ1 H2 n2 (by simpa using r) S2 k2)
end
end L2
namespace L2
open PySem PySem.Spec PyProof.Rows
def ItOk (K:PySem.W.Frag) (hd:Option Addr) (P O:Addr -> Prop) (H:Hp) (J:It) (ts:List PyData):Prop:=∀ (O2:Addr -> Prop) (H2:Hp),(∀ a o,H a = some o -> P a -> H2 a = some o) -> (∀ a o,H a = some o -> ¬ O a -> ¬ O2 a) -> (∀ a,O2 a -> H2 a ≠ none) ->
 (∀ i t,ts[i]? = some t -> J.go i H2 /\ ∀ x H3,J.yld i H2 x H3 -> Same H2 H3 /\ Rep K hd O2 H3 x t) /\ J.stop ts.length H2
def DI (X:Cx) (tg iter:Expr) (d:DTA):Prop:=∃ wi,PI X tg iter wi /\ ∀ (C:Ctx) (ρ:En) (σ:St) (H:Hp) (n:Nat) (Q:It -> Hp -> Prop) (R:List PyData -> Nat -> Prop),Stt X.K C ρ σ H n -> d ρ n R ->
 (∀ ts n' J H',R ts n' -> ExtE C.hd H H' -> Hn C.hd H' n' -> ItOk X.K C.hd (fun a=>¬ Own C ρ σ a) (Own C ρ σ) H' J ts -> Q J H') -> wi σ H Q
def DIL (X:Cx) (tg iter:Expr) (d:DTA):Prop:=∃ wi,PI X tg iter wi /\ ∀ (C:Ctx) (ρ:En) (σ:St) (H:Hp) (n:Nat) (Q:It -> Hp -> Prop) (R:List PyData -> Nat -> Prop),Stt X.K C ρ σ H n -> d ρ n R ->
 (∀ ts n' J H',R ts n' -> ExtE C.hd H H' -> Hn C.hd H' n' -> ItOk X.K C.hd (fun a=>C.hd ≠ some a) (Own C ρ σ) H' J ts -> Q J H') -> wi σ H Q
section
variable {X:Cx} {a b c e tg iter:Expr} {es rest:List Expr} {d da db dc:DTE} {ds di:DTA} {dt:DTT} {t u:DTS} {st:Stmt} {sts sa sb:List Stmt} {pos p:Pos} {k:Nat} {x:Str}
theorem dil (h:DI X tg iter di):DIL X tg iter di:=by
 obtain ⟨wi,pi,h⟩:=h
 refine ⟨wi,pi,fun C ρ σ H n Q R S hd hq=>h C ρ σ H n Q R S hd fun ts n' J H' r e1 hn it=>hq ts n' J H' r e1 hn ?_⟩
 exact fun O2 H2 h1 h2 h3=>it O2 H2 (fun a o ha no=>h1 a o ha fun z=>no (.inl (S.hx a z))) h2 h3
theorem Reps.getP {K:PySem.W.Frag} {hd:Option Addr} {O:Addr -> Prop} {H:Hp} {vs ts} {i:Nat} {t} {x:V} (r:Reps K hd O H vs ts) (h:ts[i]? = some t) (hx:vs[i]? = some x):Rep K hd O H x t:=by
 obtain ⟨v,h1,h2⟩:=r.get h
 rw [hx] at h1; cases h1; exact h2
theorem it_list {K:PySem.W.Frag} {hd:Option Addr} {P O:Addr -> Prop} {H:Hp} {q:Addr} {vs ts} (hq:H q = some (.lst vs)) (hP:P q) (hO:∀ a,¬ O a -> P a) (r:Reps K hd O H vs ts):ItOk K hd P O H (Itl K q) ts:=by
 intro O2 H2 h1 h2 _
 have hq2:=h1 q _ hq hP
 have r2:Reps K hd O2 H2 vs ts:=r.mono (fun a o ha z=>Classical.byContradiction fun no=>h2 a o ha no z) fun a o no ha=>h1 a o ha (hO a no)
 refine ⟨fun i t et=>?_,⟨vs,.of hq2,by rw [r.length]; exact Nat.le_refl _⟩⟩
 obtain ⟨v,ev,rv⟩:=r2.get et
 refine ⟨⟨vs,v,.of hq2,ev⟩,fun x H3 hy=>?_⟩
 obtain ⟨rfl,hy⟩:=hy
 exact ⟨Same.refl _,r2.getP et (hy vs (.of hq2))⟩
theorem it_tup {K:PySem.W.Frag} {hd:Option Addr} {P O:Addr -> Prop} {H:Hp} {v:V} {ts} (hO:∀ a,¬ O a -> P a) (r:Rep K hd O H v (.tuple ts)):∃ q vs,v = .ref q /\ SqT K H q vs /\ ItOk K hd P O H (Itt K q) ts:=by
 have key:∀ q vs,Reps K hd O H vs ts -> (∀ (O2:Addr -> Prop) (H2:Hp),(∀ a o,H a = some o -> P a -> H2 a = some o) -> (∀ a o,H a = some o -> ¬ O a -> ¬ O2 a) -> SqT K H2 q vs) -> ItOk K hd P O H (Itt K q) ts:=by
  intro q vs r hs O2 H2 h1 h2 _
  have hq2:=hs O2 H2 h1 h2
  have r2:Reps K hd O2 H2 vs ts:=r.mono (fun a o ha z=>Classical.byContradiction fun no=>h2 a o ha no z) fun a o no ha=>h1 a o ha (hO a no)
  refine ⟨fun i t et=>?_,⟨vs,hq2,by rw [r.length]; exact Nat.le_refl _⟩⟩
  obtain ⟨v,ev,rv⟩:=r2.get et
  refine ⟨⟨vs,v,hq2,ev⟩,fun x H3 hy=>?_⟩
  obtain ⟨rfl,hy⟩:=hy
  exact ⟨Same.refl _,r2.getP et (hy vs hq2)⟩
 cases r with
 | @tup q vs ds h o r=>exact ⟨q,vs,rfl,.inl (.inl h),key q vs r fun O2 H2 h1 _=>.inl (.inl (h1 q _ h (hO q o)))⟩
 | @tupS q vs ds h r=>exact ⟨q,vs,rfl,h.sq,key q vs r fun O2 H2 _ _=>h.sq⟩
def dItL (d:DTE):DTA:=fun ρ n R=>d ρ n fun t n'=>match t with | .list ts=>R ts n' | _=>False
def dItT (d:DTE):DTA:=fun ρ n R=>d ρ n fun t n'=>match t with | .tuple ts=>R ts n' | _=>False
theorem di_list (h:DE X iter d):DI X tg iter (dItL d):=by
 obtain ⟨ta,pa,h⟩:=h
 refine ⟨_,pi_list pa,fun C ρ σ H n Q R S hd hq=>?_⟩
 refine h C ρ σ H n _ _ S hd fun t n' v H' r e1 hn q=>?_
 cases t with
 | list ts =>
  obtain ⟨p,vs,rfl,h1,no,h2⟩:=q.lstI
  exact ⟨p,rfl,⟨vs,.of h1⟩,hq ts n' _ H' r e1 hn (it_list h1 no (fun _ z=>z) h2)⟩
 | _=>exact r.elim
theorem dil_list (h:DL X iter d):DIL X tg iter (dItL d):=by
 obtain ⟨ta,pa,h⟩:=h
 refine ⟨_,pi_list pa,fun C ρ σ H n Q R S hd hq=>?_⟩
 refine h C ρ σ H n _ _ S hd fun t n' v H' r e1 hn q=>?_
 cases t with
 | list ts =>
  rcases q with q | ⟨p,vs,ds,rfl,et,h1,h2,nh⟩
  ·obtain ⟨p,vs,rfl,h1,no,h2⟩:=q.lstI
   exact ⟨p,rfl,⟨vs,.of h1⟩,hq ts n' _ H' r e1 hn (it_list h1 (fun z=>no (.inl (S.hx p z))) (fun a no z=>no (.inl (S.hx a z))) h2)⟩
  ·cases et
   exact ⟨p,rfl,⟨vs,.of h1⟩,hq ts n' _ H' r e1 hn (it_list h1 nh (fun a no z=>no (.inl (S.hx a z))) h2)⟩
 | _=>exact r.elim
theorem di_tup (h:DE X iter d):DI X tg iter (dItT d):=by
 obtain ⟨ta,pa,h⟩:=h
 refine ⟨_,pi_tup pa,fun C ρ σ H n Q R S hd hq=>?_⟩
 refine h C ρ σ H n _ _ S hd fun t n' v H' r e1 hn q=>?_
 cases t with
 | tuple ts =>
  obtain ⟨p,vs,rfl,h1,it⟩:=it_tup (P:=fun a=>¬ Own C ρ σ a) (fun _ z=>z) q
  exact ⟨p,rfl,⟨vs,h1⟩,hq ts n' _ H' r e1 hn it⟩
 | _=>exact r.elim
def rangeD (lo:Int) (n:Nat):List PyData:=(List.range n).map fun (i:Nat)=>PyData.int (lo + (i:Int))
theorem it_range {K:PySem.W.Frag} {hd:Option Addr} {P O:Addr -> Prop} {H:Hp} {lo:Int} {m:Nat}:ItOk K hd P O H (Itr lo m) (rangeD lo m):=by
 intro O2 H2 _ _ _
 refine ⟨fun i t et=>?_,by show m <= (rangeD lo m).length; simp [rangeD]⟩
 unfold rangeD at et
 rw [List.getElem?_map] at et
 by_cases hi:i < m
 ·rw [List.getElem?_range hi] at et
  cases et
  refine ⟨hi,fun x H3 hy=>?_⟩
  obtain ⟨rfl,rfl⟩:=hy
  exact ⟨Same.refl _,.int _⟩
 ·rw [List.getElem?_eq_none (by simp; omega)] at et
  cases et
def dRng1 (d:DTE):DTA:=fun ρ n R=>d ρ n fun t n'=>match t with | .int j=>(-(2 ^ 62) <= j /\ j < 2 ^ 62) /\ R (rangeD 0 j.toNat) n' | _=>False
theorem di_range1 (hm:X.mg "range" = none) (h:DE X a d) (hg:Gl X "range":=by rfl) (hs:starEach [a] X.env = [(false,eval a X.env)]:=by rfl):DI X tg (.Call (.Name "range" p) [a] [] pos) (dRng1 d):=by
 obtain ⟨ta,pa,h⟩:=h
 refine ⟨_,pi_range1 hg hm (pa_cons pa pa_nil hs) hs,fun C ρ σ H n Q R S hd hq=>?_⟩
 refine h C ρ σ H n _ _ S hd fun t n' v H' r e1 hn q=>?_
 cases t with
 | int j =>
  rw [q.intI]
  exact ⟨j,rfl,r.1.1,r.1.2,hq _ n' _ H' r.2 e1 hn it_range⟩
 | _=>exact r.elim
def forP (g:DTG) (tb:DTS) (D:DEnds):List PyData -> En -> Nat -> Prop
 | [],ρ,n=>D.nx ρ n
 | t :: ts,ρ,n=>g t ρ fun ρ'=>tb { D with nx:=forP g tb D ts,ct:=forP g tb D ts,bk:=D.nx } ρ' n
def sFor (di:DTA) (g:DTG) (tb:DTS):DTS:=fun D ρ n=>di ρ n fun ts n1=>forP g tb D ts ρ n1
theorem ds_for {is:List Nat} {g:DTG} (hp:PassesOwn (model X.prog X.w) X.A X.env X.xe) (hc:X.calm = true) (hi:DI X tg iter di) (hg:DG X tg is g) (hb:DSs X sa t)
  (hs:∀ x,foldedSetIterable iter X.env x = pure x:=by intro _; rfl):DS X (.For tg iter sa [] pos) (sFor di g t):=by
 obtain ⟨wi,pi,hi⟩:=hi
 obtain ⟨_,gg,pg,hg⟩:=hg
 obtain ⟨tb,pb,hb⟩:=hb
 refine ⟨_,ps_for hp hc pi pg pb hs,fun C ρ σ H n D D' S hd gd=>?_⟩
 refine hi C ρ σ H n _ _ S hd fun ts n1 J H1 r e1 hn it=>?_
 have S1:=S.on e1 hn
 refine ⟨fun i m σ2 H2=>m = ts.length - i /\ i <= ts.length /\ ∃ ρ2 n2,forP g t D' (ts.drop i) ρ2 n2 /\ Stt X.K C ρ2 σ2 H2 n2 /\ Keep C ρ σ H1 ρ2 σ2 H2,⟨ts.length,by simp,Nat.zero_le _,ρ,n1,by simpa using r,S1,Keep.refl⟩,?_⟩
 rintro i m σ2 H2 ⟨rfl,hi',ρ2,n2,f2,S2,k2⟩
 have itq:=it (Own C ρ2 σ2) H2 (fun a o ha no=>(k2 a o ha (fun z=>no (.inl (S.hx a z))) fun z=>no (.inr z)).1) (fun a o ha no z=>z.elim (fun z=>no (.inl z)) fun z=>(k2 a o ha (fun y=>no (.inl (S.hx a y))) fun y=>no (.inr y)).2 z) (fun a=>S2.dom)
 by_cases hlt:i < ts.length
 ·have et:ts[i]? = some ts[i]:=List.getElem?_eq_getElem hlt
  obtain ⟨go,yl⟩:=itq.1 i _ et
  rw [List.drop_eq_getElem_cons hlt] at f2
  refine .inr ⟨go,fun σ' H'=>∃ ρ' n',forP g t D' (ts.drop (i + 1)) ρ' n' /\ Stt X.K C ρ' σ' H' n' /\ Keep C ρ σ H1 ρ' σ' H',fun σ' H' z=>⟨ts.length - (i + 1),by omega,rfl,hlt,z⟩,fun x H3 hy=>?_⟩
  obtain ⟨sm,rx⟩:=yl x H3 hy
  have S3:=S2.on sm.ext (S2.hnd.same sm)
  have k3:Keep C ρ σ H1 ρ2 σ2 H3:=k2.trans (Same.ext sm:ExtE C.hd H2 H3).keep
  refine hg C ρ2 σ2 H3 n2 x _ _ _ S3 rx f2 fun ρ4 σ4 r4 S4 k4 _ _=>?_
  have k5:=k3.trans k4
  refine hb C ρ4 σ4 H3 n2 _ { D' with nx:=forP g t D' (ts.drop (i + 1)),ct:=forP g t D' (ts.drop (i + 1)),bk:=D'.nx } S4 r4 ⟨fun ρ' σ' H' n' h' S' k'=>⟨ρ',n',h',S',k5.trans k'⟩,fun t n' v H' h hn' k' rp=>gd.rt t n' v H' h hn' (fun a o ha nh no=>?_) rp,fun ρ' σ' H' n' h' S' k'=>gd.nx ρ' σ' H' n' h' S' (e1.keep.trans (k5.trans k')),fun ρ' σ' H' n' h' S' k'=>⟨ρ',n',h',S',k5.trans k'⟩⟩
  obtain ⟨q1,q2⟩:=(e1.keep.trans k5) a o ha nh no
  exact k' a o q1 nh q2
 ·have e:i = ts.length:=by omega
  subst e
  rw [List.drop_length] at f2
  exact .inl ⟨itq.2,gd.nx ρ2 σ2 H2 n2 f2 S2 (e1.keep.trans k2)⟩
def startE (N:List Str) (ts:List PyData):En:=ts.map (fun t=>some (.val t)) ++ List.replicate (N.length - ts.length) none
theorem stt_start {K:PySem.W.Frag} {hd:Option Addr} {O:Addr -> Prop} {H:Hp} {n:Nat} {N:List Str} {vs:List V} {ts:List PyData} (r:Reps K hd O H vs ts) (hn:Hn hd H n) (dom:∀ a,O a -> MutO (H a)) (hx:∀ a,hd = some a -> O a) :
  Stt K ⟨hd,O⟩ (startE N ts) (start N vs) H n /\ ∀ a,¬ OwnS (startE N ts) (start N vs) a:=by
 have get:∀ (i:Nat) c,(startE N ts)[i]? = some (some c) -> ∃ t,c = .val t /\ ts[i]? = some t:=fun i c h=>by
  unfold startE at h
  by_cases hi:i < ts.length
  ·rw [List.getElem?_append_left (by simpa using hi),List.getElem?_map] at h
   cases e:ts[i]? with
   | none=>rw [e] at h; cases h
   | some t=>rw [e] at h; cases h; exact ⟨t,rfl,rfl⟩
  ·rw [List.getElem?_append_right (by simpa using hi),List.getElem?_replicate] at h
   split at h <;> cases h
 have no:∀ a,¬ OwnS (startE N ts) (start N vs) a:=fun a ⟨i,ds,m,h1,_⟩=>by
  obtain ⟨t,e,_⟩:=get i _ h1
  subst e; cases m
 refine ⟨.mk' (by unfold startE start; simp [r.length]) (fun i d h=>?_) (fun i ds m h=>?_) (fun i ks h=>by obtain ⟨t,e,_⟩:=get i _ h; cases e) (fun i j ds es a m _ h=>?_) hn dom hx,no⟩
 ·obtain ⟨t,e,et⟩:=get i _ h
  cases e
  obtain ⟨v,ev,rv⟩:=r.get et
  refine ⟨v,?_,rv.mono (fun a o _ z=>z.elim id fun z=>absurd z (no a)) fun _ _ _ z=>z⟩
  unfold start
  have hi:i < vs.length:=by
   rcases Nat.lt_or_ge i vs.length with z | z
   ·exact z
   ·rw [List.getElem?_eq_none z] at ev; cases ev
  rw [List.getElem?_append_left (by simpa using hi),List.getElem?_map,ev]; rfl
 ·obtain ⟨t,e,_⟩:=get i _ h
  subst e; cases m
 ·obtain ⟨t,e,_⟩:=get i _ h
  subst e; cases m
end
end L2
namespace Bd
open PySem L2 PyProof.Rows
theorem Def.okD {P:Program} {w:World} {K:PySem.W.Frag} {mg:Str -> Option Value} {base:Heap} {x:Str} {st:Stmt} {ps N:List Str} {f:Addr} {fd:FuncData} {k m:Nat} {g:GD} (D:Def K mg x st ps f fd) (S:FnScope N ps (defScope st)) (hm:m = ps.length)
  (hb:∀ (cdv:Value) (A:Around) (outer:List Env) (s:Shared) (H:Hp) (E:XK),Room k (A.deeper (envOfC x (defScope st) s.heap.objs.size f cdv)) -> ∃ d,DSs (cxOf CX0 P w K mg base N x (defScope st) f cdv A outer s H E).nox (defBody st) d /\
   ∀ ts n R,ts.length = m -> g ts n R -> d { nx:=fun _ n'=>R .none n',rt:=R } (startE N ts) n):FnOk P w K mg base CX0 (k + 1) f fd ps (spD K m g):=by
 refine D.F.ok S (fun vs H Q E h=>?_) (fun cdv A outer s H vs Q E hr h=>?_)
 ·obtain ⟨hd,O,ts,n,R,r,_,_,_,hl,_⟩:=h
  rw [r.length,hl,hm]
 ·obtain ⟨hd,O,ts,n,R,r,hn,dom,hx,hl,hg,hq⟩:=h
  obtain ⟨d,⟨t,pt,ht⟩,hd'⟩:=hb cdv A outer s H E hr
  obtain ⟨S0,no⟩:=stt_start (N:=N) r hn dom hx
  refine ⟨t,pt,ht ⟨hd,O⟩ _ _ H n _ _ S0 (hd' ts n R hl hg) ⟨fun ρ' σ' H' n' h S' k'=>?_,fun t n' v H' h hn' k' rp=>?_,fun _ _ _ _ h=>h.elim,fun _ _ _ _ h=>h.elim⟩⟩
  ·exact hq .none n' .non H' h (fun a o ha nh=>(k' a o ha nh (no a)).1) S'.hnd .non
  ·exact hq t n' v H' h (fun a o ha nh=>k' a o ha nh (no a)) hn' rp
end Bd
namespace L2
open PySem PySem.Spec PyProof.Rows
def DTs (Y:Cx) (ifs:List Expr) (d:DTT):Prop:=∃ te,PTs Y ifs te /\ ∀ (C:Ctx) (ρ:En) (σ:St) (H:Hp) (n:Nat) (Q:Bool -> Hp -> Prop) (R:Bool -> Nat -> Prop),Stt Y.K C ρ σ H n -> d ρ n R ->
 (∀ b n' H',R b n' -> ExtE C.hd H H' -> Hn C.hd H' n' -> Q b H') -> te σ H Q
def dYes:DTT:=fun _ n R=>R true n
section
variable {Y:Cx} {c:Expr} {d:DTT}
theorem dts_nil:DTs Y [] dYes:=⟨_,pts_nil,fun C ρ σ H n Q R S h hq=>hq true n H h ExtE.refl S.hnd⟩
theorem dts_one (h:DT Y c d):DTs Y [c] d:=by
 obtain ⟨te,p,h⟩:=h
 exact ⟨_,pts_one p,h⟩
end
theorem DE.uni {ι:Type} {Xf:ι -> Cx} {K:PySem.W.Frag} (hK:∀ i,(Xf i).K = K) {e:Expr} {d:DTE} (h:∀ i,DE (Xf i) e d):∃ te:TE,(∀ i,PE (Xf i) e te) /\ ∀ (C:Ctx) (ρ:En) (σ:St) (H:Hp) (n:Nat) (Q:VK) (R:PyData -> Nat -> Prop),Stt K C ρ σ H n -> d ρ n R ->
  (∀ t n' v H',R t n' -> ExtE C.hd H H' -> Hn C.hd H' n' -> Rep K C.hd (Own C ρ σ) H' v t -> Q v H') -> te σ H Q:=by
 refine ⟨fun σ H Q=>∀ i,(Classical.choose (h i)) σ H Q,fun i pins s σ H Q I hw=>(Classical.choose_spec (h i)).1 pins s σ H Q I (hw i),fun C ρ σ H n Q R S hd hq i=>?_⟩
 have:=(Classical.choose_spec (h i)).2 C ρ σ H n Q R
 exact this (by rw [hK i]; exact S) hd fun t n' v H' r e h q=>hq t n' v H' r e h (by rw [<- hK i]; exact q)
theorem DTs.uni {ι:Type} {Xf:ι -> Cx} {K:PySem.W.Frag} (hK:∀ i,(Xf i).K = K) {e:List Expr} {d:DTT} (h:∀ i,DTs (Xf i) e d):∃ te:TT,(∀ i,PTs (Xf i) e te) /\ ∀ (C:Ctx) (ρ:En) (σ:St) (H:Hp) (n:Nat) (Q:Bool -> Hp -> Prop) (R:Bool -> Nat -> Prop),Stt K C ρ σ H n -> d ρ n R ->
  (∀ b n' H',R b n' -> ExtE C.hd H H' -> Hn C.hd H' n' -> Q b H') -> te σ H Q:=by
 refine ⟨fun σ H Q=>∀ i,(Classical.choose (h i)) σ H Q,fun i pins s σ H Q I hw=>(Classical.choose_spec (h i)).1 pins s σ H Q I (hw i),fun C ρ σ H n Q R S hd hq i=>?_⟩
 have:=(Classical.choose_spec (h i)).2 C ρ σ H n Q R
 exact this (by rw [hK i]; exact S) hd hq
theorem DG.uni {ι:Type} [Nonempty ι] {Xf:ι -> Cx} {K:PySem.W.Frag} (hK:∀ i,(Xf i).K = K) {e:Expr} {is:List Nat} {d:DTG} (h:∀ i,DG (Xf i) e is d):∃ te:TG,(∀ i,PG (Xf i) e te) /\ ∀ (C:Ctx) (ρ:En) (σ:St) (H:Hp) (n:Nat) (v:V) (t:PyData) (Q:St -> Hp -> Prop) (R:En -> Prop),Stt K C ρ σ H n -> Rep K C.hd (Own C ρ σ) H v t -> d t ρ R ->
  (∀ ρ' σ',R ρ' -> Stt K C ρ' σ' H n -> Keep C ρ σ H ρ' σ' H -> (∀ j,j ∉ is -> σ'[j]? = σ[j]?) -> σ'.length = σ.length -> Q σ' H) -> te v σ H Q:=by
 refine ⟨fun v σ H Q=>∀ i,(Classical.choose (h i).2) v σ H Q,fun i pins s σ H v u Q I r hw=>(Classical.choose_spec (h i).2).1 pins s σ H v u Q I r (hw i),fun C ρ σ H n v t Q R S r hd hq i=>?_⟩
 have:=(Classical.choose_spec (h i).2).2 C ρ σ H n v t Q R
 exact this (by rw [hK i]; exact S) (by rw [hK i]; exact r) hd fun ρ' σ' hr S'=>hq ρ' σ' hr (by rw [<- hK i]; exact S')
theorem Wk.of:∀ {σ σ':St},σ.length = σ'.length -> (∀ (i:Nat) v,σ[i]? = some (some v) -> σ'[i]? = some (some v)) -> Wk σ σ'
 | [],[],_,_=>trivial
 | [],_ :: _,h,_=>by simp at h
 | _ :: _,[],h,_=>by simp at h
 | none :: r,o :: r',h,k=>Wk.of (σ:=r) (σ':=r') (by simpa using h) fun i v e=>by simpa using k (i + 1) v (by simpa using e)
 | some w :: r,o :: r',h,k=>⟨by simpa using k 0 w rfl,Wk.of (by simpa using h) fun i v e=>by simpa using k (i + 1) v (by simpa using e)⟩
def capV:Option Cell -> Option Cell
 | some (.val d)=>some (.val d)
 | some (.dct ks)=>some (.rdo ks)
 | some (.rdo ks)=>some (.rdo ks)
 | _=>none
def compEn (m:Nat) (capt:List Nat) (ρ:En):En:=List.replicate m none ++ capt.map fun i=>capV (ρ.getD i none)
def compGo (g:DTG) (tt:DTT) (te:DTE) (ρ0:En):List PyData -> List PyData -> Nat -> (List PyData -> Nat -> Prop) -> Prop
 | [],acc,n,R=>R acc n
 | x :: xs,acc,n,R=>g x ρ0 fun ρ1=>tt ρ1 n fun b n2=>if b = true then te ρ1 n2 fun t n3=>acc.length < 16777216 /\ compGo g tt te ρ0 xs (acc ++ [t]) n3 R else compGo g tt te ρ0 xs acc n2 R
def dComp (m:Nat) (capt:List Nat) (di:DTA) (g:DTG) (tt:DTT) (te:DTE):DTA:=fun ρ n R=>di ρ n fun ts n1=>compGo g tt te (compEn m capt ρ) ts [] n1 R
section
variable {X:Cx} {scope:Scope} {own:List Str} {capt:List Nat} {elt tg iter:Expr} {ifs:List Expr} {pos:Pos} {di:DTA} {is:List Nat} {g:DTG} {tt:DTT} {te:DTE}
theorem getD_cap {ρ:En} {i:Nat} {c:Cell} (h:capV (ρ.getD i none) = some c):(∃ d,c = .val d /\ ρ[i]? = some (some (.val d))) \/ ∃ ks,c = .rdo ks /\ (ρ[i]? = some (some (.dct ks)) \/ ρ[i]? = some (some (.rdo ks))):=by
 rw [List.getD_eq_getElem?_getD] at h
 cases e:ρ[i]? with
 | none=>rw [e] at h; cases h
 | some o =>
  rw [e] at h
  cases o with
  | none=>cases h
  | some c' =>
   cases c' with
   | val d'=>simp [capV] at h; exact .inl ⟨d',h.symm,rfl⟩
   | own _=>simp [capV] at h
   | dct ks=>simp [capV] at h; exact .inr ⟨ks,h.symm,.inl rfl⟩
   | rdo ks=>simp [capV] at h; exact .inr ⟨ks,h.symm,.inr rfl⟩
theorem comp_stt {K:PySem.W.Frag} {C:Ctx} {ρ:En} {σ:St} {H H2:Hp} {n n2:Nat} {D:Addr} {ys:List V} (S:Stt K C ρ σ H n) (e:ExtE C.hd H H2) (hn:Hn C.hd H2 n2) (hD:H D = none) (hy:H2 D = some (.lst ys)) :
  Stt K ⟨C.hd,fun a=>Own C ρ σ a \/ a = D⟩ (compEn own.length capt ρ) (noneS own ++ capS capt σ) H2 n2 /\ ∀ a,¬ OwnS (compEn own.length capt ρ) (noneS own ++ capS capt σ) a:=by
 have get:∀ (i:Nat) c,(compEn own.length capt ρ)[i]? = some (some c) -> ∃ j,capV (ρ.getD j none) = some c /\ own.length <= i /\ capt[i - own.length]? = some j:=fun i c h=>by
  unfold compEn at h
  by_cases hi:i < own.length
  ·rw [List.getElem?_append_left (by simpa using hi),List.getElem?_replicate] at h
   split at h <;> cases h
  ·rw [List.getElem?_append_right (by simpa using hi),List.length_replicate,List.getElem?_map] at h
   cases ej:capt[i - own.length]? with
   | none=>rw [ej] at h; cases h
   | some j =>
    rw [ej] at h
    exact ⟨j,by simpa using h,by omega,rfl⟩
 have slot:∀ (i j:Nat) (v:V),own.length <= i -> capt[i - own.length]? = some j -> σ[j]? = some (some v) -> (noneS own ++ capS capt σ)[i]? = some (some v):=fun i j v hi e3 h1=>by
  rw [List.getElem?_append_right (by simpa using hi)]
  simp only [List.length_map,List.getElem?_map,e3,Option.map_some]
  rw [List.getD_eq_getElem?_getD,h1]; rfl
 have nm:∀ (i:Nat) (c:Cell),c.mine = true -> (compEn own.length capt ρ)[i]? = some (some c) -> False:=fun i c m h=>by
  obtain ⟨j,e1,_⟩:=get i c h
  rcases getD_cap e1 with ⟨d,rfl,_⟩ | ⟨ks,rfl,_⟩ <;> cases m
 have no:∀ a,¬ OwnS (compEn own.length capt ρ) (noneS own ++ capS capt σ) a:=fun a ⟨i,c,m,h1,_⟩=>nm i c m h1
 have S2:=S.on e hn
 have sub:∀ a o,H a = some o -> Own ⟨C.hd,fun a=>Own C ρ σ a \/ a = D⟩ (compEn own.length capt ρ) (noneS own ++ capS capt σ) a -> Own C ρ σ a:=fun a o ha z=>by
  rcases z with z | z
  ·rcases z with z | z
   ·exact z
   ·subst z; rw [hD] at ha; cases ha
  ·exact absurd z (no a)
 have kp:∀ a o,¬ Own C ρ σ a -> H a = some o -> H2 a = some o:=fun a o nO ha=>e a o ha fun z=>nO (.inl (S.hx a z))
 refine ⟨.mk' (by unfold compEn; simp) (fun i d h=>?_) (fun i ds m h=>(nm i _ m h).elim) (fun i ks h=>?_) (fun i j ds es a m _ h=>(nm i _ m h).elim) hn (fun a ha=>?_) (fun a ha=>.inl (.inl (S.hx a ha))),no⟩
 ·obtain ⟨j,e1,hi,e3⟩:=get i _ h
  rcases getD_cap e1 with ⟨d',z,e2⟩ | ⟨ks,z,_⟩
  ·cases z
   obtain ⟨v,h1,h2⟩:=S.val j d e2
   exact ⟨v,slot i j v hi e3 h1,h2.mono sub kp⟩
  ·cases z
 ·obtain ⟨j,e1,hi,e3⟩:=get i _ h
  rcases getD_cap e1 with ⟨d',z,e2⟩ | ⟨ks',z,e2⟩
  ·cases z
  ·cases z
   rcases e2 with e2 | e2
   ·obtain ⟨a,kvs,h1,h2,h3,h4⟩:=S.dct j ks e2
    have nh:C.hd ≠ some a:=fun z=>h4 (S.hx a z)
    exact ⟨a,kvs,slot i j _ hi e3 h1,e a _ h2 nh,h3.mono sub kp,.inl (.inr ⟨j,.dct ks,rfl,e2,h1⟩),nh⟩
   ·obtain ⟨a,kvs,h1,h2,h3,h4,nh⟩:=S.rdo j ks e2
    exact ⟨a,kvs,slot i j _ hi e3 h1,e a _ h2 nh,h3.mono sub kp,.inl (.inl h4),nh⟩
 ·rcases ha with ha | rfl
  ·exact S2.lst ha
  ·exact .inl ⟨_,hy⟩
def NewSp (K:PySem.W.Frag) (te:TE) (d:DTA):Prop:=∀ (C:Ctx) (ρ:En) (σ:St) (H:Hp) (n:Nat) (Q:VK) (R:List PyData -> Nat -> Prop),Stt K C ρ σ H n -> d ρ n R ->
 (∀ ts n' p vs H',R ts n' -> ExtE C.hd H H' -> Hn C.hd H' n' -> H p = none -> H' p = some (.lst vs) -> Reps K C.hd (fun a=>Own C ρ σ a \/ a = p) H' vs ts -> Q (.ref p) H') -> te σ H Q
theorem comp_spec (hi:DIL X tg iter di)
  (hg:∀ C s₀ H₀ fp,DG (compCx X scope own capt C s₀ H₀ fp) tg is g) (hin:∀ i ∈ is,i < own.length) (ht:∀ C s₀ H₀ fp,DTs (compCx X scope own capt C s₀ H₀ fp) ifs tt) (he:∀ C s₀ H₀ fp,DE (compCx X scope own capt C s₀ H₀ fp) elt te) :
  ∃ (wi:TI) (gg:TG) (gt:TT) (ge:TE),PI X tg iter wi /\ (∀ C s₀ H₀ fp,PG (compCx X scope own capt C s₀ H₀ fp) tg gg) /\ (∀ C s₀ H₀ fp,PTs (compCx X scope own capt C s₀ H₀ fp) ifs gt) /\ (∀ C s₀ H₀ fp,PE (compCx X scope own capt C s₀ H₀ fp) elt ge) /\ NewSp X.K (tComp own capt wi gg gt ge) (dComp own.length capt di g tt te):=by
 obtain ⟨wi,pi,hi⟩:=hi
 let Xf:(Addr × Shared × Hp × List Addr) -> Cx:=fun q=>compCx X scope own capt q.1 q.2.1 q.2.2.1 q.2.2.2
 have hK:∀ q,(Xf q).K = X.K:=fun _=>rfl
 have hne:Nonempty (Addr × Shared × Hp × List Addr):=⟨(0,X.s₀,X.H₀,[])⟩
 obtain ⟨gg,pg,hgg⟩:=DG.uni (Xf:=Xf) hK fun q=>hg q.1 q.2.1 q.2.2.1 q.2.2.2
 obtain ⟨gt,pt,hgt⟩:=DTs.uni (Xf:=Xf) hK fun q=>ht q.1 q.2.1 q.2.2.1 q.2.2.2
 obtain ⟨ge,pe,hge⟩:=DE.uni (Xf:=Xf) hK fun q=>he q.1 q.2.1 q.2.2.1 q.2.2.2
 refine ⟨wi,gg,gt,ge,pi,(fun C s₀ H₀ fp=>pg (C,s₀,H₀,fp)),(fun C s₀ H₀ fp=>pt (C,s₀,H₀,fp)),(fun C s₀ H₀ fp=>pe (C,s₀,H₀,fp)),fun C ρ σ H n Q R St hd hq=>?_⟩
 refine hi C ρ σ H n _ _ St hd fun ts n1 J H1 r e1 hn it=>fun D hD1=>?_
 have St1:=St.on e1 hn
 have hD:H D = none:=hp_back e1 hn hD1
 have nhd:C.hd ≠ some D:=fun z=>St.dom (.inl (St.hx D z)) hD
 refine comp_over (n:=ts.length) (fun i ys H2=>∃ acc n2,compGo g tt te (compEn own.length capt ρ) (ts.drop i) acc n2 R /\ Reps X.K C.hd (fun a=>Own C ρ σ a \/ a = D) H2 ys acc /\ ExtE C.hd H1 H2 /\ Hn C.hd H2 n2)
  ⟨[],n1,by simpa using r,.nil,ExtE.new hD1,hn.same (same_upd hD1)⟩ ?_ ?_
 ·rintro i ys H2 hlt hy ⟨acc,n2,c2,r2,e2,hn2⟩
  have et:ts[i]? = some ts[i]:=List.getElem?_eq_getElem hlt
  rw [List.drop_eq_getElem_cons hlt] at c2
  have itq:=it (fun a=>Own C ρ σ a \/ a = D) H2 (fun a o ha nh=>e2 a o ha nh) (fun a o ha no z=>z.elim no fun z=>by subst z; rw [hD1] at ha; cases ha) (fun a z=>z.elim (fun z=>(St1.on e2 hn2).dom z) fun z=>by subst z; rw [hy]; exact fun z=>by cases z)
  obtain ⟨go,yl⟩:=itq.1 i _ et
  refine ⟨go,fun x H3 hyd=>?_⟩
  obtain ⟨sm,rx⟩:=yl x H3 hyd
  have hn3:=hn2.same sm
  have e3:ExtE C.hd H1 H3:=e2.trans sm.ext
  obtain ⟨I3,no3⟩:=comp_stt (own:=own) (capt:=capt) (D:=D) (ys:=ys) St (e1.trans e3) hn3 hD (sm _ _ hy)
  have rx':Rep X.K C.hd (Own ⟨C.hd,fun a=>Own C ρ σ a \/ a = D⟩ (compEn own.length capt ρ) (noneS own ++ capS capt σ)) H3 x ts[i]:=rx.mono (fun a o _ z=>z.elim id fun z=>absurd z (no3 a)) fun _ _ _ z=>z
  refine hgg ⟨C.hd,fun a=>Own C ρ σ a \/ a = D⟩ (compEn own.length capt ρ) (noneS own ++ capS capt σ) H3 n2 x ts[i] _ _ I3 rx' c2 fun ρ4 σ4 r4 S4 k4 hj hl=>⟨Wk.of hl.symm fun j v ej=>?_,?_⟩
  ·by_cases hjo:j < own.length
   ·rw [List.getElem?_append_left (by simpa using hjo),List.getElem?_map] at ej
    cases z:own[j]? with
    | none=>rw [z] at ej; cases ej
    | some q=>rw [z] at ej; cases ej
   ·rw [hj j (fun z=>hjo (hin j z))]; exact ej
  ·refine hgt _ ρ4 σ4 H3 n2 _ _ S4 r4 fun b n5 H5 r5 e5 hn5=>?_
   have S5:=S4.on e5 hn5
   have hy5:H5 D = some (.lst ys):=e5 D _ (sm _ _ hy) nhd
   have r25:∀ {H6},ExtE C.hd H2 H6 -> Reps X.K C.hd (fun a=>Own C ρ σ a \/ a = D) H6 ys acc:=fun e=>r2.mono (fun _ _ _ z=>z) fun a o no ha=>e a o ha fun z=>no (.inl (.inl (St.hx a z)))
   cases b with
   | false =>
    refine iteF ⟨ys,hy5,acc,n5,by simpa using r5,r25 ((Same.ext sm).trans e5),e3.trans e5,hn5⟩
   | true =>
    refine iteT (hge _ ρ4 σ4 H5 n5 _ _ S5 (by simpa using r5) fun t n6 v H6 r6 e6 hn6 q6=>?_)
    have hy6:H6 D = some (.lst ys):=e6 D _ hy5 nhd
    have rl:=(r25 ((Same.ext sm).trans (e5.trans e6))).length
    refine ⟨ys,hy6,by rw [rl]; exact r6.1,acc ++ [t],n6,r6.2,?_,?_,?_⟩
    ·have q6':Rep X.K C.hd (fun a=>Own C ρ σ a \/ a = D) H6 v t:=q6.mono (fun _ _ _ z=>.inl z) fun _ _ _ z=>z
     have all:=(r25 ((Same.ext sm).trans (e5.trans e6))).append (Reps.cons q6' .nil)
     exact all.mono (fun _ _ _ z=>z) fun a o no ha=>by rw [upd_ne (show a ≠ D from fun z=>no (.inr z))]; exact ha
    ·exact fun a o ha nh=>by
      rw [upd_ne (ne_of_none ha hD1)]
      exact (e3.trans (e5.trans e6)) a o ha nh
    ·exact fun a ha=>by
      obtain ⟨d,m,t,q,rest⟩:=hn6 a ha
      exact ⟨d,m,t,by rw [upd_ne (show a ≠ D from fun z=>nhd (by rw [<- z]; exact ha))]; exact q,rest⟩
 ·rintro ys H2 hy ⟨acc,n2,c2,r2,e2,hn2⟩
  rw [List.drop_length] at c2
  have itq:=it (fun a=>Own C ρ σ a \/ a = D) H2 (fun a o ha nh=>e2 a o ha nh) (fun a o ha no z=>z.elim no fun z=>by subst z; rw [hD1] at ha; cases ha) (fun a z=>z.elim (fun z=>(St1.on e2 hn2).dom z) fun z=>by subst z; rw [hy]; exact fun z=>by cases z)
  exact ⟨itq.2,hq acc n2 D ys H2 c2 (e1.trans e2) hn2 hD hy r2⟩
theorem dn_comp (hc:X.calm = true) (S:CompScope scope own capt X) (hi:DIL X tg iter di)
  (hg:∀ C s₀ H₀ fp,DG (compCx X scope own capt C s₀ H₀ fp) tg is g) (hin:∀ i ∈ is,i < own.length) (ht:∀ C s₀ H₀ fp,DTs (compCx X scope own capt C s₀ H₀ fp) ifs tt) (he:∀ C s₀ H₀ fp,DE (compCx X scope own capt C s₀ H₀ fp) elt te)
  (hs:∀ x,foldedSetIterable iter X.env x = pure x:=by intro _; rfl):DN X (.ListComp elt [⟨tg,iter,ifs,0⟩] scope pos) (dComp own.length capt di g tt te):=by
 obtain ⟨wi,gg,gt,ge,a,b,c,d,sp⟩:=comp_spec hi hg hin ht he
 exact ⟨_,pe_lcomp hc S a b c d hs,sp⟩
def DNA (X:Cx) (x:Str) (pos':Pos) (e:Expr) (pos:Pos) (i:Nat) (d:DTA):Prop:=∃ te,PS X (.Assign [.Name x pos'] e pos) (tAsg te (gName i)) /\ NewSp X.K te d
theorem dna_comp {x:Str} {pos' spos:Pos} {i:Nat} (hN:X.N.Nodup) (hxi:X.N[i]? = some x) (hx:Loc X.env.scope x) (hc:X.calm = true) (S:CompScope scope own capt X) (hi:DIL X tg iter di)
  (hg:∀ C s₀ H₀ fp,DG (compCx X scope own capt C s₀ H₀ fp) tg is g) (hin:∀ i ∈ is,i < own.length) (ht:∀ C s₀ H₀ fp,DTs (compCx X scope own capt C s₀ H₀ fp) ifs tt) (he:∀ C s₀ H₀ fp,DE (compCx X scope own capt C s₀ H₀ fp) elt te)
  (hs:∀ x,foldedSetIterable iter X.env x = pure x:=by intro _; rfl) (hsw:swapsWith (.ListComp elt [⟨tg,iter,ifs,0⟩] scope pos) (some (.Name x pos')) spos.line X.env = pure true:=by rfl)
  (hf:X.fn x = true \/ X.env.scope.names.lookup x = some .local:=by first | exact .inl rfl | exact .inr rfl | assumption) :
  DNA X x pos' (.ListComp elt [⟨tg,iter,ifs,0⟩] scope pos) spos i (dComp own.length capt di g tt te):=by
 obtain ⟨wi,gg,gt,ge,a,b,c,d,sp⟩:=comp_spec hi hg hin ht he
 exact ⟨_,ps_lcompU hc S a b c d hN hxi hx hs hsw hf,sp⟩
theorem ds_setC {x:Str} {pos' spos:Pos} {e:Expr} {i:Nat} {d:DTA} (h:DNA X x pos' e spos i d):DS X (.Assign [.Name x pos'] e spos) (sSet i (dNew d)):=by
 obtain ⟨ta,pa,h⟩:=h
 refine ⟨_,pa,fun C ρ σ H n D D' S hd g=>?_⟩
 refine h C ρ σ H n _ _ S hd fun ts n' p vs H' r e1 h1 h2 h3 h4=>?_
 exact g.nx _ _ H' n' r ((S.on e1 h1).put (.lst h3 (S.free h2 |> fun z=>z) (h4.mono (fun _ _ _ z=>.inl z) fun _ _ _ z=>z))) (e1.keep.trans keep_put)
end
end L2
namespace L2
open PySem PySem.Spec PyProof.Rows
def spHand (K:PySem.W.Frag):Sp:=fun vs H Q _=>∃ (a:Addr) (ns:List Int) (k:Int),vs = [.ref a,.int k] /\ SqL K H a (ns.map V.int) /\ ns.length <= 63 /\ 0 <= k /\ k <= 100 /\
 ∀ hd H',H hd = none -> HandOk H' hd 0 -> Same H H' -> Q (.ref hd) H'
def SameX (hd:Addr) (H H':Hp):Prop:=∀ b o,H b = some o -> b ≠ hd -> H' b = some o
def spTake:Sp:=fun vs H Q _=>∃ (hd:Addr) (many n:Int),vs = [.ref hd,.int many] /\ HandOk H hd n /\ n <= 1000000000000 /\ 0 < many /\ many < 2 ^ 128 /\
 ∀ (r:Int) H',0 <= r -> r < many -> HandOk H' hd (n + 1) -> SameX hd H H' -> Q (.int r) H'
def g_take:GD:=fun ts n R=>match ts with
 | [h,.int many]=>h = HAND /\ 0 < many /\ many < 2 ^ 128 /\ n <= 1000000000000 /\ ∀ r:Int,0 <= r -> r < many -> R (.int r) (n + 1)
 | _=>False
theorem take_imp {K:PySem.W.Frag} (vs:List V) (H:Hp) (Q:VK) (E:XK) (h:spD K 2 g_take vs H Q E):spTake vs H Q E:=by
 obtain ⟨hd,O,ts,n,R,r,hn,dom,hx,hl,g,hq⟩:=h
 unfold g_take at g
 split at g
 ·rename_i hh many
  obtain ⟨rfl,m0,m1,hn',g⟩:=g
  cases r with
  | cons r1 r =>
   cases r with
   | cons r2 r =>
    cases r
    obtain ⟨a,rfl,ea⟩:=r1.handI
    rw [r2.intI]
    refine ⟨a,many,n,rfl,hn a ea,by omega,m0,m1,fun q H' q0 q1 hh sx=>?_⟩
    refine hq _ (n + 1) _ H' (g q q0 q1) (fun b o hb nb=>sx b o hb fun z=>nb (by rw [ea,z])) (fun b eb=>?_) (.int _)
    rw [ea] at eb; cases eb
    exact hh
 ·exact g.elim
def scrOf:Option (Option Cell) -> (List PyData -> Prop) -> Prop
 | some (some (.val (.dict [(.none,.list ts)]))),R=>R ts
 | _,_=>False
def dropE (ρ:En):En:=match (ρ[(0:Nat)]?:Option (Option Cell)) with
 | some (some (.val (.dict [(.none,.list ts)])))=>some (.val (.dict [(.none,.list ts)])) :: List.replicate (ρ.length - 1) none
 | _=>List.replicate ρ.length none
def intOf:Option (Option Cell) -> (Int -> Prop) -> Prop
 | some (some (.val (.int k))),R=>R k
 | _,_=>False
def sHand (i j:Nat) (u:DTS):DTS:=fun D ρ n=>scrOf ρ[0]? fun ts=>intOf ρ[j]? fun k=>(∃ ns:List Int,ts = ns.map PyData.int /\ ns.length <= 63) /\ 0 <= k /\ k <= 100 /\
 u { nx:=fun ρ' _=>D.nx (dropE ρ') n,rt:=fun t _=>∃ b,t = .bool b /\ D.rt t n,bk:=fun ρ' _=>D.bk (dropE ρ') n,ct:=fun ρ' _=>D.ct (dropE ρ') n } (((dropE ρ).set j (some (.val (.int k)))).set i (some (.val HAND))) 0
theorem drop_get {ρ:En} {i:Nat} {c:Cell} (h:(dropE ρ)[i]? = some (some c)):i = 0 /\ ρ[0]? = some (some c) /\ ∃ ts,c = .val (.dict [(.none,.list ts)]):=by
 unfold dropE at h
 split at h
 ·rename_i ts e
  cases i with
  | zero=>simp at h; subst h; exact ⟨rfl,e,ts,rfl⟩
  | succ i =>
   rw [List.getElem?_cons_succ,List.getElem?_replicate] at h
   split at h <;> cases h
 ·rw [List.getElem?_replicate] at h
  split at h <;> cases h
theorem drop_len {ρ:En}:(dropE ρ).length = ρ.length:=by
 unfold dropE
 split
 ·rename_i ts e
  cases ρ with
  | nil=>simp at e
  | cons a r=>simp
 ·simp
theorem drop_own {ρ:En} {σ:St} {a:Addr}:¬ OwnS (dropE ρ) σ a:=fun ⟨i,ds,m,h,_⟩=>by
 obtain ⟨_,_,ts,e⟩:=drop_get h
 subst e; cases m
theorem Rep.scrHd {K:PySem.W.Frag} {hd hd':Option Addr} {O O':Addr -> Prop} {H H':Hp} {v:V} {ts:List PyData} (h:Rep K hd O H v (.dict [(.none,.list ts)])) (ho:∀ a o,H a = some o -> ¬ O a -> H' a = some o /\ ¬ O' a):Rep K hd' O' H' v (.dict [(.none,.list ts)]) /\ ∃ ns:List Int,ts = ns.map PyData.int:=by
 generalize e:(PyData.dict [(PyData.none,PyData.list ts)]) = t at h
 cases h with
 | @scr a ns h1 o =>
  have e':ts = ns.map PyData.int:=by simpa [SCR] using e
  subst e'
  refine ⟨?_,ns,rfl⟩
  rcases h1 with h1 | ⟨u,h1⟩
  ·exact .scr (.inl (ho a _ h1 o).1) (ho a _ h1 o).2
  ·exact .scr (.inr ⟨u,(ho a _ h1 o).1⟩) (ho a _ h1 o).2
 | @scrS a ns h1 =>
  have e':ts = ns.map PyData.int:=by simpa [SCR] using e
  subst e'
  exact ⟨.scrS h1,ns,rfl⟩
 | hand _=>simp [HAND] at e
 | dct _ _=>cases e
 | _=>cases e
theorem Stt.drop {K:PySem.W.Frag} {C C':Ctx} {ρ:En} {σ:St} {H H':Hp} {n n':Nat} (S:Stt K C' ρ σ H n) (hn:Hn C.hd H' n') (hl:∀ a,C.ext a -> MutO (H' a)) (hx:∀ a,C.hd = some a -> C.ext a)
  (ho:∀ a o,H a = some o -> ¬ Own C' ρ σ a -> H' a = some o /\ ¬ C.ext a):Stt K C (dropE ρ) σ H' n' where
 len:=by rw [drop_len]; exact S.len
 val:=fun i d h=>by
  obtain ⟨rfl,e0,ts,et⟩:=drop_get h
  cases et
  obtain ⟨v,h1,h2⟩:=S.val 0 _ e0
  exact ⟨v,h1,(h2.scrHd fun a o ha no=>⟨(ho a o ha no).1,fun z=>z.elim (ho a o ha no).2 drop_own⟩).1⟩
 own:=fun i ds h=>by
  obtain ⟨_,_,ts,e⟩:=drop_get h
  cases e
 dct:=fun i ds h=>by
  obtain ⟨_,_,ts,e⟩:=drop_get h
  cases e
 rdo:=fun i ds h=>by
  obtain ⟨_,_,ts,e⟩:=drop_get h
  cases e
 dif:=fun i j ds es a m _ h=>by
  obtain ⟨_,_,ts,e⟩:=drop_get h
  subst e; cases m
 hnd:=hn
 ext:=hl
 hx:=hx
section
variable {X:Cx} {st:Stmt} {sts:List Stmt} {ps:List Str} {f:Addr} {fd:FuncData} {u:DTS} {x s kx hx:Str} {pos pos' p p1 p2 p3:Pos} {k:Nat}
theorem dss_hand {i j:Nat} (D:Bd.Def X.K X.mg hx st ps f fd) (G:FnOk X.prog X.w X.K X.mg X.base CX0 k f fd ps (spHand X.K)) (hr:Room k X.A) (hN:X.N.Nodup) (hi:X.N[i]? = some x) (hlx:Loc X.env.scope x) (hu:DSs X sts u) (hij:i ≠ 0:=by decide) (hj0:j ≠ 0:=by decide) (hji:j ≠ i:=by decide)
  (h0:X.N[0]? = some s:=by rfl) (hj:X.N[j]? = some kx:=by rfl) (hv0:Vis X.env.scope s:=by first | exact Or.inl rfl | exact Or.inr (Or.inl rfl) | exact Or.inr (Or.inr rfl)) (hvj:Vis X.env.scope kx:=by first | exact Or.inl rfl | exact Or.inr (Or.inl rfl) | exact Or.inr (Or.inr rfl))
  (hd0:(s == ("__debug__":Str)) = false:=by decide) (hcd0:(s == ("__classdict__":Str)) = false:=by decide) (hdj:(kx == ("__debug__":Str)) = false:=by decide) (hcdj:(kx == ("__classdict__":Str)) = false:=by decide) (hg:Gl X hx:=by rfl) (hdb:(hx == ("__debug__":Str)) = false:=by decide)
  (hs:swapsWith (.Call (.Name hx p) [.Name s p1,.Name kx p2] [] p3) (some (.Name x pos')) pos.line X.env = pure false:=by rfl) (hf:X.fn x = true \/ X.env.scope.names.lookup x = some .local:=by first | exact .inl rfl | exact .inr rfl | assumption) :
  DSs X (.Assign [.Name x pos'] (.Call (.Name hx p) [.Name s p1,.Name kx p2] [] p3) pos :: sts) (sHand i j u):=by
 obtain ⟨tu,pu,hu⟩:=hu
 refine ⟨_,pss_cons (ps_set hN hi hlx (Bd.pe_fn D G hr (pb_cons (pe_var h0 hv0 hd0 hcd0) (pb_cons (pe_var hj hvj hdj hcdj) pb_nil rfl) rfl) hg hdb) hs hf) pu,fun C ρ σ H n Dn D' S hd g=>?_⟩
 unfold sHand scrOf at hd
 split at hd
 ·rename_i ts e0
  unfold intOf at hd
  split at hd
  ·rename_i kk ej
   obtain ⟨⟨ns,rfl,hl⟩,k0,k1,hd⟩:=hd
   obtain ⟨v0,s0,r0⟩:=S.val 0 _ e0
   obtain ⟨vj,sj,rj⟩:=S.val j _ ej
   obtain ⟨a0,rfl,sq0⟩:=r0.scrI
   rw [rj.intI] at sj
   refine ⟨_,s0,_,sj,?_⟩
   refine ⟨a0,ns,kk,rfl,sq0,hl,k0,k1,fun h H1 hh hok sm=>?_⟩
   have S1:=S.on (Same.ext sm:ExtE C.hd H H1) (S.hnd.same sm)
   have nx:¬ Own C ρ σ h:=fun z=>S.dom z hh
   have Sd:Stt X.K ⟨some h,fun a=>C.ext a \/ a = h⟩ (dropE ρ) σ H1 0:=S.drop (fun a ea=>by cases ea; exact hok) (fun a z=>z.elim (fun z=>S1.ext a z) fun z=>by subst z; obtain ⟨_,_,_,q,_⟩:=hok; exact .inl ⟨_,q⟩) (fun a ea=>.inr (by cases ea; rfl))
    (fun a o ha no=>⟨sm a o ha,fun z=>z.elim (fun z=>no (.inl z)) fun z=>by subst z; rw [hh] at ha; cases ha⟩)
   have Sd2:=(Sd.put (i:=j) (t:=.int kk) (v:=.int kk) (.int kk)).put (i:=i) (t:=HAND) (v:=.ref h) (.hand rfl)
   have own2:∀ a,¬ OwnS (((dropE ρ).set j (some (.val (.int kk)))).set i (some (.val HAND))) ((σ.set j (some (.int kk))).set i (some (.ref h))) a:=fun a z=>drop_own (ownS_val (ownS_val z))
   have es:(σ.set j (some (V.int kk))) = σ:=by
    apply List.ext_getElem?
    intro q
    by_cases z:j = q
    ·subst z
     have:j < σ.length:=by
      rcases Nat.lt_or_ge j σ.length with w | w
      ·exact w
      ·rw [List.getElem?_eq_none w] at sj; cases sj
     rw [set_eq this,sj]
    ·rw [List.getElem?_set_ne z]
   rw [es] at Sd2 own2
   refine hu _ _ _ H1 0 _ _ Sd2 hd ?_
   have back:∀ {ρ' σ' H' n'},Stt X.K ⟨some h,fun a=>C.ext a \/ a = h⟩ ρ' σ' H' n' -> (∀ a o,H1 a = some o -> some h ≠ some a -> H' a = some o) -> Stt X.K C (dropE ρ') σ' H' n:=fun {ρ' σ' H' n'} S' kp =>
    S'.drop (fun a ea=>by
      obtain ⟨d,m,t,q,rest⟩:=S.hnd a ea
      exact ⟨d,m,t,kp a _ (sm _ _ q) (fun z=>by cases z; rw [hh] at q; cases q),rest⟩)
     (fun a z=>by
      rcases S.ext a z with ⟨xs,q⟩ | ⟨xs,q⟩
      ·exact .inl ⟨xs,kp a _ (sm _ _ q) (fun z=>by cases z; rw [hh] at q; cases q)⟩
      ·exact .inr ⟨xs,kp a _ (sm _ _ q) (fun z=>by cases z; rw [hh] at q; cases q)⟩) S.hx (fun a o ha no=>⟨ha,fun z=>no (.inl (.inl z))⟩)
   have kp1:∀ {ρ' σ' H'},Keep ⟨some h,fun a=>C.ext a \/ a = h⟩ (((dropE ρ).set j (some (.val (.int kk)))).set i (some (.val HAND))) (σ.set i (some (.ref h))) H1 ρ' σ' H' -> ∀ a o,H1 a = some o -> some h ≠ some a -> H' a = some o:=fun k a o ha na=>(k a o ha na (own2 a)).1
   have kp2:∀ {ρ' σ' H'},Keep ⟨some h,fun a=>C.ext a \/ a = h⟩ (((dropE ρ).set j (some (.val (.int kk)))).set i (some (.val HAND))) (σ.set i (some (.ref h))) H1 ρ' σ' H' -> Keep C ρ σ H (dropE ρ') σ' H':=fun k a o ha _ _=>⟨kp1 k a o (sm a o ha) (fun z=>by cases z; rw [hh] at ha; cases ha),drop_own⟩
   refine ⟨fun ρ' σ' H' n' h' S' k'=>g.nx _ _ H' n h' (back S' (kp1 k')) (kp2 k'),fun t n' v H' h' hn' k' rp=>?_,fun ρ' σ' H' n' h' S' k'=>g.bk _ _ H' n h' (back S' (kp1 k')) (kp2 k'),fun ρ' σ' H' n' h' S' k'=>g.ct _ _ H' n h' (back S' (kp1 k')) (kp2 k')⟩
   obtain ⟨b,rfl,h'⟩:=h'
   rw [rp.blI]
   have kq:∀ a o,H a = some o -> H' a = some o:=fun a o ha=>k' a o (sm a o ha) (fun z=>by cases z; rw [hh] at ha; cases ha) (own2 a)
   refine g.rt _ n _ H' h' (fun a ea=>?_) (fun a o ha _ _=>kq a o ha) (.bl b)
   obtain ⟨d,m,t,q,rest⟩:=S.hnd a ea
   exact ⟨d,m,t,kq a _ q,rest⟩
  ·exact hd.elim
 ·exact hd.elim
end
def spLaw (K:PySem.W.Frag):Sp:=fun vs H Q _=>∃ (a:Addr) (ns:List Int),vs = [.ref a] /\ SqL K H a (ns.map V.int) /\ ns.length <= 63 /\ ∀ H',Q (.bl true) H'
def g_law:GD:=fun ts n R=>∃ ns:List Int,ts = [SCR ns] /\ ns.length <= 63 /\ ∀ n',R (.bool true) n'
theorem law_imp {K:PySem.W.Frag} (vs:List V) (H:Hp) (Q:VK) (E:XK) (h:spLaw K vs H Q E):spD K 1 g_law vs H Q E:=by
 obtain ⟨a,ns,rfl,sq,hl,q⟩:=h
 refine ⟨none,fun _=>False,[SCR ns],0,fun t _=>t = .bool true,.cons ?_ .nil,(fun a e=>by cases e),(fun a z=>z.elim),(fun a e=>by cases e),rfl,⟨ns,rfl,hl,fun _=>rfl⟩,fun t n' v H' ht _ _ rp=>?_⟩
 ·rcases sq with sq | sq
  ·exact .scr sq (fun z=>z)
  ·exact .scrS fun _=>.inr sq
 ·subst ht
  rw [rp.blI]
  exact q H'
end L2
namespace L2
open PySem PySem.Spec PyProof.Rows
section
variable {env:Env} {es:List Expr} {a b:Expr} {l1 l2:List Expr} {p:Pos} {x:Str}
theorem st_name:starEach (.Name x p :: es) env = (false,eval (.Name x p) env) :: starEach es env:=rfl
theorem st_int {i:Int} {j}:starEach (.Constant (.int i) j p :: es) env = (false,eval (.Constant (.int i) j p) env) :: starEach es env:=rfl
theorem st_none {j}:starEach (.Constant .none j p :: es) env = (false,eval (.Constant .none j p) env) :: starEach es env:=rfl
theorem st_str {i:Str} {j}:starEach (.Constant (.str i) j p :: es) env = (false,eval (.Constant (.str i) j p) env) :: starEach es env:=rfl
theorem st_call {c d}:starEach (.Call a l1 c d :: es) env = (false,eval (.Call a l1 c d) env) :: starEach es env:=rfl
theorem st_list:starEach (.List l1 p :: es) env = (false,eval (.List l1 p) env) :: starEach es env:=rfl
theorem st_tuple {k}:starEach (.Tuple l1 k p :: es) env = (false,eval (.Tuple l1 k p) env) :: starEach es env:=rfl
theorem st_bin {o}:starEach (.BinOp a o b p :: es) env = (false,eval (.BinOp a o b p) env) :: starEach es env:=rfl
theorem st_sub:starEach (.Subscript a b p :: es) env = (false,eval (.Subscript a b p) env) :: starEach es env:=rfl
theorem st_cmp {o}:starEach (.Compare a o l1 p :: es) env = (false,eval (.Compare a o l1 p) env) :: starEach es env:=rfl
theorem st_boolop {o}:starEach (.BoolOp o l1 p :: es) env = (false,eval (.BoolOp o l1 p) env) :: starEach es env:=rfl
theorem st_comp {g s}:starEach (.ListComp a g s p :: es) env = (false,eval (.ListComp a g s p) env) :: starEach es env:=rfl
end
section
variable {X:Cx} {a b c e:Expr} {da db dc:DTE} {pos p:Pos} {r r':R2} {g g':G2}
theorem dt_chain {op op':CmpOp} (ho:OpR X (compareOp op) r) (hg:Gp2 X r g) (ho':OpR X (compareOp op') r') (hg':Gp2 X r' g') (ha:DL X a da) (hb:DL X b db) (hc:DL X c dc)
  (hm:lastMarks [op,op'] [b,c] = false:=by with_unfolding_all rfl):DT X (.Compare a [op,op'] [b,c] pos) (dTest (dChain g g' da db dc)):=by
 obtain ⟨ta,pa,ha⟩:=ha
 obtain ⟨tb,pb,hb⟩:=hb
 obtain ⟨tc,pc,hc⟩:=hc
 refine ⟨_,pt_chain ho ho' pa pb pc hm,fun C ρ σ H n Q R S h hq=>?_⟩
 refine two ha hb S h fun x y n2 v w H2 r2 e S2 q1 q2=>?_
 refine hg C.hd (Own C ρ σ) H2 v w x y _ _ (fun p=>S2.dom) q1 q2 r2 fun z u H' rz sm rp=>?_
 have S3:=S2.on sm.ext (S2.hnd.same sm)
 cases z with
 | bool k =>
  cases rp
  refine ⟨k,rfl,?_⟩
  cases k with
  | false=>exact iteF ⟨false,rfl,hq _ n2 H' rz (e.trans sm.ext) S3.hnd⟩
  | true =>
   refine iteT (hc C ρ σ H' n2 _ _ S3 rz fun z2 n3 w2 H4 r4 e4 h4 q4=>?_)
   have S4:=S3.on e4 h4
   have q2':=e4.repT S.hx ((Same.ext sm:ExtE C.hd H2 H').repT S.hx q2)
   refine hg' C.hd (Own C ρ σ) H4 w w2 y z2 _ _ (fun p=>S4.dom) q2' q4 r4 fun z u H' rz sm' rp=>?_
   cases z with
   | bool k=>cases rp; exact ⟨k,rfl,hq _ n3 H' rz (((e.trans sm.ext).trans e4).trans sm'.ext) (S4.hnd.same sm')⟩
   | _=>exact rz.elim
 | _=>exact rz.elim
end
end L2
namespace L2
open PySem PySem.Spec PyProof.Rows
section
variable {C:Int -> Int -> Prop} {f:Int -> Int -> Int} {fb:Int -> Int -> Bool} {i j k:Int} {R:PyData -> Prop} {Rb:Bool -> Prop} {xs ys:List PyData} {s t:Str} {a b:Bool} {u v:PyData}
theorem l_gI:gI C f (.int i) (.int j) R = (C i j /\ R (.int (f i j))):=propext Iff.rfl
theorem l_gI0:gI0 f (.int i) (.int j) R = R (.int (f i j)):=propext Iff.rfl
theorem l_addI:oAdd (.int i) (.int j) R = R (.int (i + j)):=propext Iff.rfl
theorem l_addS:oAdd (.str s) (.str t) R = (s.length + t.length <= 16777216 /\ R (.str (s ++ t))):=propext Iff.rfl
theorem l_addT:oAdd (.tuple xs) (.tuple ys) R = (xs.length + ys.length <= 16777216 /\ R (.tuple (xs ++ ys))):=propext Iff.rfl
theorem l_eqI:oEq (.int i) (.int j) R = R (.bool (decide (i = j))):=propext Iff.rfl
theorem l_eqL:oEq (.list xs) (.list ys) R = (Okd (.list xs) /\ Okd (.list ys) /\ R (.bool (PyData.eqv (.list xs) (.list ys)))):=propext Iff.rfl
theorem l_neS:oNe (.str s) (.str t) R = R (.bool (!decide (s = t))):=propext Iff.rfl
theorem l_neL:oNe (.list xs) (.list ys) R = (Okd (.list xs) /\ Okd (.list ys) /\ R (.bool (!PyData.eqv (.list xs) (.list ys)))):=propext Iff.rfl
theorem l_isntN:oIsN u .none R = R (.bool (!isNone u)):=by cases u <;> exact propext Iff.rfl
theorem l_ltI:oLtA (.int i) (.int j) R = R (.bool (decide (i < j))):=propext Iff.rfl
theorem l_leI:oLeA (.int i) (.int j) R = R (.bool (decide (i <= j))):=propext Iff.rfl
theorem l_ixL {x:PyData} (h:atI xs i = some x):oIx (.list xs) (.int i) R = R x:=by show (match atI xs i with | some t=>R t | none=>False) = _; rw [h]
theorem l_ixT {x:PyData} (h:atI xs i = some x):oIx (.tuple xs) (.int i) R = R x:=by show (match atI xs i with | some t=>R t | none=>False) = _; rw [h]
theorem l_ixT0:oIx (.tuple (u :: xs)) (.int 0) R = R u:=l_ixT (by unfold atI ixN; simp)
theorem l_ixT1:oIx (.tuple (u :: v :: xs)) (.int 1) R = R v:=l_ixT (by unfold atI ixN; simp; rw [if_pos (by omega)]; rfl)
theorem l_ixT2 {w:PyData}:oIx (.tuple (u :: v :: w :: xs)) (.int 2) R = R w:=l_ixT (by unfold atI ixN; simp; rw [if_pos (by omega)]; rfl)
theorem l_ixL0:oIx (.list (u :: xs)) (.int 0) R = R u:=l_ixL (by unfold atI ixN; simp)
theorem l_ixL1:oIx (.list (u :: v :: xs)) (.int 1) R = R v:=l_ixL (by unfold atI ixN; simp; rw [if_pos (by omega)]; rfl)
theorem l_truB:truD (.bool a) Rb = Rb a:=propext Iff.rfl
theorem l_truL:truD (.list xs) Rb = Rb (!xs.isEmpty):=propext Iff.rfl
theorem l_bol:bolD (.bool a) Rb = Rb a:=propext Iff.rfl
theorem l_lenL:bLen [.list xs] R = R (.int xs.length):=propext Iff.rfl
theorem l_lenT:bLen [.tuple xs] R = R (.int xs.length):=propext Iff.rfl
theorem l_lenS:bLen [.str s] R = (s.length <= 16777216 /\ R (.int s.length)):=propext Iff.rfl
theorem l_lenSCR {ns:List Int}:bLen [SCR ns] R = R (.int ns.length):=by show R (.int (ns.map PyData.int).length) = _; rw [List.length_map]
theorem l_min:bMin [.int i,.int j] R = R (.int (if j < i then j else i)):=propext Iff.rfl
theorem l_max:bMax [.int i,.int j] R = R (.int (if j > i then j else i)):=propext Iff.rfl
theorem l_intB:bInt [.bool a] R = R (.int (if a then 1 else 0)):=propext Iff.rfl
theorem l_tupleL:bTuple [.list xs] R = R (.tuple xs):=propext Iff.rfl
theorem l_repr:bRepr [u] R = (Shd u /\ R (.str u.shown)):=propext Iff.rfl
theorem l_items {Rl:List PyData -> Prop}:lItems (.list xs) Rl = Rl xs:=propext Iff.rfl
variable {d:DTE} {ρ:En} {n:Nat} {Rn:PyData -> Nat -> Prop}
end
end L2
namespace L2
open PySem PySem.Spec PyProof.Rows
abbrev blk (i h:Int):PyData:=.tuple [.int i,.int h]
def IsBk (bits i h:Int):Prop:=0 <= h /\ h <= bits /\ ∃ k:Int,0 <= k /\ i = k * 2 ^ h.toNat /\ k < 2 ^ (bits - h).toNat
theorem pow_pos' (k:Nat):(0:Int) < 2 ^ k:=Bd.two_pos k
theorem pow_add' {a b:Nat}:(2:Int) ^ (a + b) = 2 ^ a * 2 ^ b:=Int.pow_add 2 a b
theorem IsBk.bounds {bits i h:Int} (b0:0 <= bits) (H:IsBk bits i h):0 <= i /\ i + 2 ^ h.toNat <= 2 ^ bits.toNat:=by
 obtain ⟨h0,h1,k,k0,rfl,k1⟩:=H
 have p:=pow_pos' h.toNat
 refine ⟨Int.mul_nonneg k0 (Int.le_of_lt p),?_⟩
 have e:bits.toNat = (bits - h).toNat + h.toNat:=by lia
 rw [e,pow_add']
 have:(k + 1) * 2 ^ h.toNat <= 2 ^ (bits - h).toNat * 2 ^ h.toNat:=Int.mul_le_mul_of_nonneg_right (by lia) (Int.le_of_lt p)
 rw [Int.add_mul,Int.one_mul] at this
 exact this
theorem pow_le_64 {k:Nat} (h:k <= 64):(2:Int) ^ k <= 18446744073709551616:=by
 have:=Bd.pow_le64 h
 simpa using this
theorem IsBk.lt {bits i h:Int} (b0:0 <= bits) (b1:bits <= 64) (H:IsBk bits i h):0 <= i /\ i < 18446744073709551616:=by
 obtain ⟨a,b⟩:=H.bounds b0
 have:=pow_le_64 (show bits.toNat <= 64 by lia)
 have:=pow_pos' h.toNat
 lia
theorem cpow {j:Int} (h0:0 <= j) (h1:j <= 1000000):CPow 1 j:=⟨h0,h1,by decide⟩
end L2
namespace L2
open PySem PySem.Spec PyProof.Rows
section
variable {t u tb:DTS} {D:DEnds} {ρ ρ0:En} {n i j m:Nat} {d da db dc d1 d2:DTE} {ds di:DTA} {c c' tt:DTT} {g:G2} {g':G2} {gc:GC} {gd:GD} {tg:DTG} {tgs:DTGs} {R:PyData -> Nat -> Prop} {Rb:Bool -> Nat -> Prop} {Rl:List PyData -> Nat -> Prop} {Re:En -> Prop} {x y:PyData} {xs ys acc:List PyData} {f:Int -> Int -> Int} {fb:PyData -> Bool} {k:Bool} {capt:List Nat} {h:Option Cell}
theorem u_sSeq:(sSeq t u D ρ n) = (t { D with nx:=u D } ρ n):=propext Iff.rfl
theorem u_sRet:(sRet d D ρ n) = (d ρ n fun t n'=>D.rt t n'):=propext Iff.rfl
theorem u_sSet:(sSet i d D ρ n) = (d ρ n fun t n'=>D.nx (ρ.set i (some (.val t))) n'):=propext Iff.rfl
theorem u_dC:(dC x ρ n R) = (R x n):=propext Iff.rfl
theorem u_dOp:(dOp g da db ρ n R) = (da ρ n fun x n1=>db ρ n1 fun y n2=>g x y fun z=>R z n2):=propext Iff.rfl
theorem u_dNew:(dNew ds ρ n R) = (ds ρ n fun ts n'=>R (.list ts) n'):=propext Iff.rfl
theorem u_dTup:(dTup ds ρ n R) = (ds ρ n fun ts n1=>R (.tuple ts) n1):=propext Iff.rfl
theorem u_dNil:(dNil ρ n Rl) = (Rl [] n):=propext Iff.rfl
theorem u_dCons:(dCons d ds ρ n Rl) = (d ρ n fun t n1=>ds ρ n1 fun ts n2=>Rl (t :: ts) n2):=propext Iff.rfl
theorem u_dFn:(dFn gd ds ρ n R) = (ds ρ n fun ts n1=>gd ts n1 R):=propext Iff.rfl
theorem u_dCallB:(dCallB gc ds ρ n R) = (ds ρ n fun ts n1=>gc ts fun z=>R z n1):=propext Iff.rfl
def cVal:Option Cell -> (PyData -> Prop) -> Prop
 | some (.val d),R=>R d
 | _,_=>False
def cOwn:Option Cell -> (List PyData -> Prop) -> Prop
 | some (.own d),R=>R d
 | _,_=>False
theorem l_cVal {Q:PyData -> Prop}:cVal (some (.val x)) Q = Q x:=propext Iff.rfl
theorem u_dVar:dVar i ρ n R = cVal (ρ.getD i none) fun d=>R d n:=by
 unfold dVar
 rw [List.getD_eq_getElem?_getD]
 cases e:ρ[i]? with
 | none=>exact propext Iff.rfl
 | some o=>cases o with
  | none=>exact propext Iff.rfl
  | some c=>cases c <;> exact propext Iff.rfl
theorem u_dTest:dTest d ρ n Rb = (d ρ n fun t n'=>bolD t fun b=>Rb b n'):=by
 unfold dTest
 congr 1
 funext t n'
 cases t <;> exact propext Iff.rfl
def lCat:PyData -> PyData -> (List PyData -> Prop) -> Prop
 | .list xs,.list ys,R=>xs.length + ys.length <= 16777216 /\ R (xs ++ ys)
 | _,_,_=>False
theorem u_dCat:dCat da db ρ n Rl = (da ρ n fun x n1=>db ρ n1 fun y n2=>lCat x y fun zs=>Rl zs n2):=by
 unfold dCat
 congr 1
 funext x n1
 congr 1
 funext y n2
 cases x <;> cases y <;> exact propext Iff.rfl
def lLst:PyData -> (List PyData -> Prop) -> Prop
 | .list xs,R=>R xs
 | _,_=>False
def lTup:PyData -> (List PyData -> Prop) -> Prop
 | .tuple xs,R=>R xs
 | _,_=>False
theorem u_dItL:dItL d ρ n Rl = (d ρ n fun t n'=>lLst t fun ts=>Rl ts n'):=by
 unfold dItL
 congr 1
 funext t n'
 cases t <;> exact propext Iff.rfl
theorem u_dItT:dItT d ρ n Rl = (d ρ n fun t n'=>lTup t fun ts=>Rl ts n'):=by
 unfold dItT
 congr 1
 funext t n'
 cases t <;> exact propext Iff.rfl
def lInt:PyData -> (Int -> Prop) -> Prop
 | .int i,R=>R i
 | _,_=>False
theorem u_dRng1:dRng1 d ρ n Rl = (d ρ n fun t n'=>lInt t fun j=>(-(2 ^ 62) <= j /\ j < 2 ^ 62) /\ Rl (rangeD 0 j.toNat) n'):=by
 unfold dRng1
 congr 1
 funext t n'
 cases t <;> exact propext Iff.rfl
theorem u_dNeg:dNeg d ρ n R = (d ρ n fun t n'=>lInt t fun i=>R (.int (-i)) n'):=by
 unfold dNeg
 congr 1
 funext t n'
 cases t <;> exact propext Iff.rfl
theorem u_dChain:dChain g g' da db dc ρ n R = (da ρ n fun x n1=>db ρ n1 fun y n2=>g x y fun z=>bolD z fun b=>if b = true then dc ρ n2 fun w n3=>g' y w fun z=>R z n3 else R (.bool false) n2):=by
 unfold dChain
 congr 1
 funext x n1
 congr 1
 funext y n2
 congr 1
 funext z
 cases z with
 | bool b=>cases b <;> simp [bolD]
 | _=>exact propext Iff.rfl
def lPutA (ρ:En) (i:Nat) (D:DEnds) (dj:DTE) (t:PyData) (n1:Nat) (ts:List PyData):Prop:=dj ρ n1 fun j n2=>lInt j fun j=>(match ixN ts.length j with | some k=>D.nx (ρ.set i (some (.own (ts.set k t)))) n2 | none=>False)
theorem u_put {dj:DTE}:sPut i dj d D ρ n = (d ρ n fun t n1=>cOwn (ρ.getD i none) fun xs=>lPutA ρ i D dj t n1 xs):=by
 unfold sPut
 congr 1
 funext t n1
 rw [List.getD_eq_getElem?_getD]
 cases e:ρ[i]? with
 | none=>exact propext Iff.rfl
 | some o=>cases o with
  | none=>exact propext Iff.rfl
  | some c=>cases c with
   | val _=>exact propext Iff.rfl
   | dct _=>exact propext Iff.rfl
   | rdo _=>exact propext Iff.rfl
   | own xs =>
    show (dj ρ n1 fun j n2=>_) = lPutA ρ i D dj t n1 xs
    unfold lPutA
    congr 1
    funext j n2
    cases j <;> exact propext Iff.rfl
end
end L2
namespace L2
open PySem PySem.Spec PyProof.Rows
section
variable {t u tb:DTS} {D:DEnds} {ρ ρ0:En} {n i j m:Nat} {d da db dc d1 d2:DTE} {ds di:DTA} {c c' tt:DTT} {g:G2} {g':G2} {gc:GC} {gd:GD} {tg:DTG} {tgs:DTGs} {R:PyData -> Nat -> Prop} {Rb:Bool -> Nat -> Prop} {Rl:List PyData -> Nat -> Prop} {Re:En -> Prop} {x y:PyData} {xs ys acc:List PyData} {f:Int -> Int -> Int} {fb:PyData -> Bool} {k:Bool} {capt:List Nat}
theorem i_sSeq (h:t { D with nx:=u D } ρ n):sSeq t u D ρ n:=h
theorem i_sNext (h:D.nx ρ n):sNext D ρ n:=h
theorem i_sRet (h:d ρ n fun t n'=>D.rt t n'):sRet d D ρ n:=h
theorem i_sIf (h:c ρ n fun b n1=>if b = true then t D ρ n1 else u D ρ n1):sIf c t u D ρ n:=h
theorem i_sAsg (h:d ρ n fun t n'=>tg t ρ fun ρ'=>D.nx ρ' n'):sAsg d tg D ρ n:=h
theorem i_sFor (h:di ρ n fun ts n1=>forP tg tb D ts ρ n1):sFor di tg tb D ρ n:=h
theorem i_dC (h:R x n):dC x ρ n R:=h
theorem i_dOp (h:da ρ n fun x n1=>db ρ n1 fun y n2=>g x y fun z=>R z n2):dOp g da db ρ n R:=h
theorem i_dNew (h:ds ρ n fun ts n'=>R (.list ts) n'):dNew ds ρ n R:=h
theorem i_dTup (h:ds ρ n fun ts n1=>R (.tuple ts) n1):dTup ds ρ n R:=h
theorem i_dNil (h:Rl [] n):dNil ρ n Rl:=h
theorem i_dCons (h:d ρ n fun t n1=>ds ρ n1 fun ts n2=>Rl (t :: ts) n2):dCons d ds ρ n Rl:=h
theorem i_dFn (h:ds ρ n fun ts n1=>gd ts n1 R):dFn gd ds ρ n R:=h
theorem i_dFnL (h:ds ρ n fun ts n1=>gd ts n1 fun t n2=>noLst t = true /\ R t n2):dFnL gd ds ρ n R:=h
theorem i_dCallB (h:ds ρ n fun ts n1=>gc ts fun z=>R z n1):dCallB gc ds ρ n R:=h
theorem i_dAnd (h:c ρ n fun b n1=>if b = true then c' ρ n1 Rb else Rb false n1):dAnd c c' ρ n Rb:=h
theorem i_dOr (h:c ρ n fun b n1=>if b = true then Rb true n1 else c' ρ n1 Rb):dOr c c' ρ n Rb:=h
theorem i_dOrV (h:da ρ n fun t n1=>bolD t fun b=>if b = true then R (.bool true) n1 else db ρ n1 R):dOrV da db ρ n R:=h
theorem i_dTru (h:d ρ n fun t n'=>truD t fun b=>Rb b n'):dTru d ρ n Rb:=h
theorem i_dComp (h:di ρ n fun ts n1=>compGo tg tt d (compEn m capt ρ) ts [] n1 Rl):dComp m capt di tg tt d ρ n Rl:=h
theorem i_dYes (h:Rb true n):dYes ρ n Rb:=h
theorem i_tgTup (h:tgs xs ρ Re):tgTup tgs (.tuple xs) ρ Re:=h
theorem i_tgNil (h:Re ρ):tgNil [] ρ Re:=h
theorem i_tgCons (h:tg x ρ fun ρ'=>tgs xs ρ' Re):tgCons tg tgs (x :: xs) ρ Re:=h
theorem i_dTest (h:d ρ n fun t n'=>bolD t fun b=>Rb b n'):dTest d ρ n Rb:=u_dTest.symm ▸ h
theorem i_dCat (h:da ρ n fun x n1=>db ρ n1 fun y n2=>lCat x y fun zs=>Rl zs n2):dCat da db ρ n Rl:=u_dCat.symm ▸ h
theorem i_dItL (h:d ρ n fun t n'=>lLst t fun ts=>Rl ts n'):dItL d ρ n Rl:=u_dItL.symm ▸ h
theorem i_dItT (h:d ρ n fun t n'=>lTup t fun ts=>Rl ts n'):dItT d ρ n Rl:=u_dItT.symm ▸ h
theorem i_dRng1 (h:d ρ n fun t n'=>lInt t fun j=>(-(2 ^ 62) <= j /\ j < 2 ^ 62) /\ Rl (rangeD 0 j.toNat) n'):dRng1 d ρ n Rl:=u_dRng1.symm ▸ h
theorem i_dNeg (h:d ρ n fun t n'=>lInt t fun i=>R (.int (-i)) n'):dNeg d ρ n R:=u_dNeg.symm ▸ h
theorem i_dChain (h:da ρ n fun x n1=>db ρ n1 fun y n2=>g x y fun z=>bolD z fun b=>if b = true then dc ρ n2 fun w n3=>g' y w fun z=>R z n3 else R (.bool false) n2):dChain g g' da db dc ρ n R:=u_dChain.symm ▸ h
theorem i_dVar (e:ρ[i]? = some (some (.val x))) (h:R x n):dVar i ρ n R:=by unfold dVar; rw [e]; exact h
theorem i_dOwn (e:ρ[i]? = some (some (.own xs))) (h:R (.list xs) n):dOwn i ρ n R:=by unfold dOwn; rw [e]; exact h
theorem i_append (e:ρ[i]? = some (some (.own xs))) (h:d ρ n fun t n'=>xs.length < 16777216 /\ D.nx (ρ.set i (some (.own (xs ++ [t])))) n'):sAppend i d D ρ n:=by unfold sAppend; rw [e]; exact h
theorem i_freeze (e:ρ[i]? = some (some (.own xs))) (h:t D (ρ.set i (some (.val (.list xs)))) n):sFreeze i t D ρ n:=by unfold sFreeze; rw [e]; exact h
theorem i_put {dj:DTE} (e:ρ[i]? = some (some (.own xs))) (h:d ρ n fun t n1=>lPutA ρ i D dj t n1 xs):sPut i dj d D ρ n:=by
 rw [u_put,List.getD_eq_getElem?_getD,e]; exact h
theorem i_putA {dj:DTE} (h:dj ρ n fun j n2=>lInt j fun j=>(match ixN xs.length j with | some k=>D.nx (ρ.set i (some (.own (xs.set k x)))) n2 | none=>False)):lPutA ρ i D dj x n xs:=h
theorem i_ite {b:Bool} {A B:Prop} (h1:b = true -> A) (h2:b = false -> B):if b = true then A else B:=by cases b with | true=>exact iteT (h1 rfl) | false=>exact iteF (h2 rfl)
theorem i_iteD {p:Prop} [Decidable p] {A B:Prop} (h1:p -> A) (h2:¬ p -> B):if decide p = true then A else B:=by
 by_cases h:p
 ·rw [decide_eq_true h]; exact iteT (h1 h)
 ·rw [decide_eq_false h]; exact iteF (h2 h)
theorem i_iteN {b:Bool} {A B:Prop} (h:if b = true then B else A):if (!b) = true then A else B:=by
 cases b with | true=>exact iteF h | false=>exact iteT h
end
section
variable {C:Int -> Int -> Prop} {f:Int -> Int -> Int} {fb:Int -> Int -> Bool} {i j k:Int} {R:PyData -> Prop} {Rb:Bool -> Prop} {xs ys:List PyData} {s t:Str} {a b:Bool} {u v x y:PyData} {Rn:PyData -> Nat -> Prop} {n:Nat}
theorem j_addI (h:R (.int (i + j))):oAdd (.int i) (.int j) R:=l_addI.symm ▸ h
theorem j_addS (h:(s.length + t.length <= 16777216 /\ R (.str (s ++ t)))):oAdd (.str s) (.str t) R:=l_addS.symm ▸ h
theorem j_addT (h:(xs.length + ys.length <= 16777216 /\ R (.tuple (xs ++ ys)))):oAdd (.tuple xs) (.tuple ys) R:=l_addT.symm ▸ h
theorem j_eqI (h:R (.bool (decide (i = j)))):oEq (.int i) (.int j) R:=l_eqI.symm ▸ h
theorem j_eqL (h:(Okd (.list xs) /\ Okd (.list ys) /\ R (.bool (PyData.eqv (.list xs) (.list ys))))):oEq (.list xs) (.list ys) R:=l_eqL.symm ▸ h
theorem j_neS (h:R (.bool (!decide (s = t)))):oNe (.str s) (.str t) R:=l_neS.symm ▸ h
theorem j_neL (h:(Okd (.list xs) /\ Okd (.list ys) /\ R (.bool (!PyData.eqv (.list xs) (.list ys))))):oNe (.list xs) (.list ys) R:=l_neL.symm ▸ h
theorem j_isntN (h:R (.bool (!isNone u))):oIsN u .none R:=l_isntN.symm ▸ h
theorem j_ltI (h:R (.bool (decide (i < j)))):oLtA (.int i) (.int j) R:=l_ltI.symm ▸ h
theorem j_leI (h:R (.bool (decide (i <= j)))):oLeA (.int i) (.int j) R:=l_leI.symm ▸ h
theorem j_ixT0 (h:R u):oIx (.tuple (u :: xs)) (.int 0) R:=l_ixT0.symm ▸ h
theorem j_ixT1 (h:R v):oIx (.tuple (u :: v :: xs)) (.int 1) R:=l_ixT1.symm ▸ h
theorem j_ixT2 {w:PyData} (h:R w):oIx (.tuple (u :: v :: w :: xs)) (.int 2) R:=l_ixT2.symm ▸ h
theorem j_ixL0 (h:R u):oIx (.list (u :: xs)) (.int 0) R:=l_ixL0.symm ▸ h
theorem j_ixL1 (h:R v):oIx (.list (u :: v :: xs)) (.int 1) R:=l_ixL1.symm ▸ h
theorem j_truB (h:Rb a):truD (.bool a) Rb:=l_truB.symm ▸ h
theorem j_truL (h:Rb (!xs.isEmpty)):truD (.list xs) Rb:=l_truL.symm ▸ h
theorem j_bol (h:Rb a):bolD (.bool a) Rb:=l_bol.symm ▸ h
theorem j_lenT (h:R (.int xs.length)):bLen [.tuple xs] R:=l_lenT.symm ▸ h
theorem j_lenS (h:(s.length <= 16777216 /\ R (.int s.length))):bLen [.str s] R:=l_lenS.symm ▸ h
theorem j_lenSCR {ns:List Int} (h:R (.int ns.length)):bLen [SCR ns] R:=l_lenSCR.symm ▸ h
theorem j_min (h:R (.int (if j < i then j else i))):bMin [.int i,.int j] R:=l_min.symm ▸ h
theorem j_max (h:R (.int (if j > i then j else i))):bMax [.int i,.int j] R:=l_max.symm ▸ h
theorem j_intB (h:R (.int (if a then 1 else 0))):bInt [.bool a] R:=l_intB.symm ▸ h
theorem j_tupleL (h:R (.tuple xs)):bTuple [.list xs] R:=l_tupleL.symm ▸ h
theorem j_repr (h:(Shd u /\ R (.str u.shown))):bRepr [u] R:=l_repr.symm ▸ h
theorem j_items {Rl:List PyData -> Prop} (h:Rl xs):lItems (.list xs) Rl:=l_items.symm ▸ h
theorem j_cat {Q:List PyData -> Prop} (h:(xs.length + ys.length <= 16777216 /\ Q (xs ++ ys))):lCat (.list xs) (.list ys) Q:=h
theorem j_lst {Q:List PyData -> Prop} (h:Q xs):lLst (.list xs) Q:=h
theorem j_tup {Q:List PyData -> Prop} (h:Q xs):lTup (.tuple xs) Q:=h
theorem j_int {i:Int} {Q:Int -> Prop} (h:Q i):lInt (.int i) Q:=h
theorem j_mul (c:CMul i j) (h:R (.int (i * j))):oMul (.int i) (.int j) R:=⟨c,h⟩
theorem j_mod (c:0 < j) (h:R (.int (i % j))):oMod (.int i) (.int j) R:=⟨c,h⟩
theorem j_fdiv (c:CDivB i j) (h:R (.int (i / j))):oFdiv (.int i) (.int j) R:=⟨c,h⟩
theorem j_shl (c:CPow i j) (h:R (.int (i * 2 ^ j.toNat))):oShl (.int i) (.int j) R:=⟨c,h⟩
theorem j_sub (h:R (.int (i - j))):oSub (.int i) (.int j) R:=h
theorem j_xor (h:R (.int (Builtin.bitXor i j))):oXor (.int i) (.int j) R:=h
theorem j_and (h:R (.int (Builtin.bitAnd i j))):oAnd (.int i) (.int j) R:=h
theorem j_gB (h:R (.bool (fb i j))):gB fb (.int i) (.int j) R:=h
end
end L2
namespace L2
open PySem PySem.Spec PyProof.Rows
theorem pow_s {h:Int} (h0:0 < h):(2:Int) ^ h.toNat = 2 * 2 ^ (h - 1).toNat:=by
 have e:h.toNat = (h - 1).toNat + 1:=by lia
 rw [e,Int.pow_succ,Int.mul_comm]
theorem pow_s' {h:Int} (h0:0 <= h):(2:Int) ^ (h + 1).toNat = 2 * 2 ^ h.toNat:=by
 have:=pow_s (h:=h + 1) (by lia)
 rw [this]; simp
theorem IsBk.low {bits i h:Int} (B:IsBk bits i h) (hh:0 < h):IsBk bits i (h - 1):=by
 obtain ⟨h0,h1,k,k0,rfl,k1⟩:=B
 refine ⟨by lia,by lia,2 * k,by lia,?_,?_⟩
 ·rw [pow_s hh,<- Int.mul_assoc,Int.mul_comm k 2]
 ·have e:(bits - (h - 1)).toNat = (bits - h).toNat + 1:=by lia
  rw [e,Int.pow_succ]; lia
theorem IsBk.up {bits i h:Int} (B:IsBk bits i h) (hh:0 < h):IsBk bits (i + 2 ^ h.toNat / 2) (h - 1):=by
 obtain ⟨h0,h1,k,k0,rfl,k1⟩:=B
 refine ⟨by lia,by lia,2 * k + 1,by lia,?_,?_⟩
 ·rw [pow_s hh]
  have:2 * (2:Int) ^ (h - 1).toNat / 2 = 2 ^ (h - 1).toNat:=by lia
  rw [this,Int.add_mul,Int.one_mul,<- Int.mul_assoc,Int.mul_comm k 2]
 ·have e:(bits - (h - 1)).toNat = (bits - h).toNat + 1:=by lia
  rw [e,Int.pow_succ]; lia
theorem mod_half {k:Int} (P:Int) (hP:0 < P):k * P % (2 * P) = (k % 2) * P:=by
 rw [Int.mul_comm 2 P,Int.mul_comm k P,Int.mul_emod_mul_of_pos _ _ hP,Int.mul_comm]
theorem IsBk.abt {bits i h:Int} (B:IsBk bits i h) (hh:h < bits):IsBk bits (i - i % (2 * 2 ^ h.toNat)) (h + 1):=by
 obtain ⟨h0,h1,k,k0,rfl,k1⟩:=B
 refine ⟨by lia,by lia,k / 2,by lia,?_,?_⟩
 ·rw [mod_half _ (pow_pos' _),pow_s' h0,<- Int.sub_mul]
  have:k - k % 2 = k / 2 * 2:=by lia
  rw [this,Int.mul_assoc]
 ·have e:(bits - h).toNat = (bits - (h + 1)).toNat + 1:=by lia
  rw [e,Int.pow_succ] at k1; lia
theorem IsBk.oth {bits i h:Int} (B:IsBk bits i h) (hh:h < bits):IsBk bits (Builtin.bitXor i (2 ^ h.toNat)) h:=by
 obtain ⟨h0,h1,k,k0,rfl,k1⟩:=B
 rw [xor_half _ k0]
 have e:(bits - h).toNat = (bits - (h + 1)).toNat + 1:=by lia
 split
 ·refine ⟨h0,h1,k + 1,by lia,by rw [Int.add_mul,Int.one_mul],?_⟩
  rw [e,Int.pow_succ] at k1 ⊢; lia
 ·refine ⟨h0,h1,k - 1,by lia,by rw [Int.sub_mul,Int.one_mul],by lia⟩
theorem IsBk.nxt {bits i h:Int} (B:IsBk bits i h) (hh:i + 2 * 2 ^ h.toNat <= 2 ^ bits.toNat):IsBk bits (i + 2 ^ h.toNat) h:=by
 obtain ⟨h0,h1,k,k0,rfl,k1⟩:=B
 refine ⟨h0,h1,k + 1,by lia,by rw [Int.add_mul,Int.one_mul],?_⟩
 have e:bits.toNat = (bits - h).toNat + h.toNat:=by lia
 rw [e,pow_add'] at hh
 have p:=pow_pos' h.toNat
 have:(k + 2) * 2 ^ h.toNat <= 2 ^ (bits - h).toNat * 2 ^ h.toNat:=by rw [Int.add_mul]; exact hh
 have:=Int.le_of_mul_le_mul_right this p
 lia
theorem cmul2 {j:Int}:CMul 2 j:=.inl ⟨by decide,by decide⟩
theorem cdiv2 {j:Int}:CDivB j 2:=⟨by decide,by decide⟩
theorem one_mulP (h:Nat):(1:Int) * 2 ^ h = 2 ^ h:=Int.one_mul _
end L2
namespace L2
open PySem PySem.Spec PyProof.Rows
def BlkN (bits i:Int) (h:Nat):Prop:=(h:Int) <= bits /\ ∃ k:Int,0 <= k /\ i = k * 2 ^ h /\ k < 2 ^ (bits.toNat - h)
theorem IsBk.n {bits i h:Int} (B:IsBk bits i h):BlkN bits i h.toNat:=by
 obtain ⟨h0,h1,k,k0,e,k1⟩:=B
 refine ⟨by lia,k,k0,e,?_⟩
 have:(bits - h).toNat = bits.toNat - h.toNat:=by lia
 rw [<- this]; exact k1
theorem blk_tri {bits j:Int} {g h:Nat} (b:BlkN bits j g) (l:g <= h):j / 2 ^ h * 2 ^ h <= j /\ j + 2 ^ g <= (j / 2 ^ h + 1) * 2 ^ h:=by
 obtain ⟨_,m,m0,rfl,_⟩:=b
 have pA:=Bd.two_pos h
 have pB:=Bd.two_pos g
 have pC:=Bd.two_pos (h - g)
 have eA:(2:Int) ^ h = 2 ^ (h - g) * 2 ^ g:=by rw [<- Int.pow_add]; congr 1; lia
 refine ⟨Int.ediv_mul_le _ (by lia),?_⟩
 have eq:(m * 2 ^ g) / 2 ^ h = m / 2 ^ (h - g):=by rw [eA]; exact Int.mul_ediv_mul_of_pos_left m _ pB
 rw [eq,eA,<- Int.mul_assoc]
 have e1:m * 2 ^ g + 2 ^ g = (m + 1) * 2 ^ g:=by rw [Int.add_mul,Int.one_mul]
 rw [e1]
 refine Int.mul_le_mul_of_nonneg_right ?_ (by lia)
 have:=Int.lt_ediv_add_one_mul_self m pC
 lia
theorem mul_step {a b A:Int} (p:0 < A) (l:a < b):(a + 1) * A <= b * A:=Int.mul_le_mul_of_nonneg_right (by lia) (by lia)
theorem hld_iff {bits i j:Int} {h g:Nat} (bi:BlkN bits i h) (bj:BlkN bits j g):(g <= h /\ j / 2 ^ h * 2 ^ h = i) ↔ (i <= j /\ j + 2 ^ g <= i + 2 ^ h):=by
 have pA:=Bd.two_pos h
 have pB:=Bd.two_pos g
 constructor
 ·rintro ⟨l,e⟩
  have t:=blk_tri bj l
  rw [e,Int.add_mul,Int.one_mul,e] at t
  exact t
 ·rintro ⟨l1,l2⟩
  have l:g <= h:=by
   by_cases z:g <= h
   ·exact z
   ·exfalso
    have:(2:Int) ^ h < 2 ^ g:=by
     have e:(2:Int) ^ g = 2 ^ (g - h) * 2 ^ h:=by rw [<- Int.pow_add]; congr 1; lia
     have p2:(2:Int) <= 2 ^ (g - h):=by
      obtain ⟨d,hd⟩:∃ d,g - h = d + 1:=⟨g - h - 1,by lia⟩
      rw [hd,Int.pow_succ]
      have:=Bd.two_pos d
      lia
     rw [e]
     have:=Int.mul_le_mul_of_nonneg_right p2 (show (0:Int) <= 2 ^ h by lia)
     lia
    lia
  refine ⟨l,?_⟩
  obtain ⟨_,k,k0,rfl,_⟩:=bi
  have e:j / 2 ^ h = k:=by
   have a1:k <= j / 2 ^ h:=(Int.le_ediv_iff_mul_le pA).mpr l1
   have a2:j / 2 ^ h < k + 1:=(Int.ediv_lt_iff_lt_mul pA).mpr (by rw [Int.add_mul,Int.one_mul]; lia)
   lia
  rw [e]
theorem blk_three {bits i j:Int} {h g:Nat} (bi:BlkN bits i h) (bj:BlkN bits j g) (l:g <= h):(g <= h /\ j / 2 ^ h * 2 ^ h = i) \/ j + 2 ^ g <= i \/ i + 2 ^ h <= j:=by
 have pA:=Bd.two_pos h
 have t:=blk_tri bj l
 obtain ⟨_,k,k0,rfl,_⟩:=bi
 rcases Int.lt_trichotomy (j / 2 ^ h) k with z | z | z
 ·have:=mul_step pA z
  exact .inr (.inl (by lia))
 ·exact .inl ⟨l,by rw [z]⟩
 ·have:=mul_step pA z
  rw [Int.add_mul,Int.one_mul] at this
  exact .inr (.inr (by lia))
end L2
namespace L2
open PySem PySem.Spec PyProof.Rows
theorem for_inv {g:DTG} {tb:DTS} {D:DEnds} (Inv:Nat -> En -> Nat -> Prop):∀ (ts:List PyData) (i:Nat) {ρ:En} {n:Nat},Inv i ρ n ->
  (∀ (k:Nat) (t:PyData) (ρ:En) (n:Nat) (K:En -> Nat -> Prop),ts[k]? = some t -> Inv (i + k) ρ n -> (∀ ρ' n',Inv (i + k + 1) ρ' n' -> K ρ' n') -> g t ρ fun ρ'=>tb { D with nx:=K,ct:=K,bk:=D.nx } ρ' n) ->
  (∀ ρ n,Inv (i + ts.length) ρ n -> D.nx ρ n) -> forP g tb D ts ρ n
 | [],i,ρ,n,h0,_,fin=>fin ρ n (by simpa using h0)
 | t :: ts,i,ρ,n,h0,turn,fin=>by
  refine turn 0 t ρ n _ rfl (by simpa using h0) fun ρ' n' h'=>?_
  refine for_inv Inv ts (i + 1) (by simpa using h') (fun k u ρ n K e hI hK=>?_) (fun ρ n h=>fin ρ n ?_)
  ·refine turn (k + 1) u ρ n K (by simpa using e) ?_ fun ρ' n' h'=>hK ρ' n' ?_
   ·have:i + (k + 1) = i + 1 + k:=by lia
    rw [this]; exact hI
   ·have:i + 1 + k + 1 = i + (k + 1) + 1:=by lia
    rw [this]; exact h'
  ·have:i + (t :: ts).length = i + 1 + ts.length:=by simp; lia
   rw [this] at *; exact h
theorem for_inv0 {g:DTG} {tb:DTS} {D:DEnds} {ts:List PyData} {ρ:En} {n:Nat} (Inv:Nat -> En -> Nat -> Prop) (h0:Inv 0 ρ n)
  (turn:∀ (k:Nat) (t:PyData) (ρ:En) (n:Nat) (K:En -> Nat -> Prop),ts[k]? = some t -> Inv k ρ n -> (∀ ρ' n',Inv (k + 1) ρ' n' -> K ρ' n') -> g t ρ fun ρ'=>tb { D with nx:=K,ct:=K,bk:=D.nx } ρ' n)
  (fin:∀ ρ n,Inv ts.length ρ n -> D.nx ρ n):forP g tb D ts ρ n:=by
 refine for_inv Inv ts 0 h0 (fun k t ρ n K e hI hK=>turn k t ρ n K e (by simpa using hI) fun ρ' n' h'=>hK ρ' n' (by simpa using h')) fun ρ n h=>fin ρ n (by simpa using h)
theorem rangeD_get {lo:Int} {m i:Nat} {t:PyData} (h:(rangeD lo m)[i]? = some t):i < m /\ t = .int (lo + (i:Int)):=by
 unfold rangeD at h
 rw [List.getElem?_map] at h
 by_cases hi:i < m
 ·rw [List.getElem?_range hi] at h
  cases h
  exact ⟨hi,rfl⟩
 ·rw [List.getElem?_eq_none (by simp; lia)] at h
  cases h
theorem while_inv {c:DTT} {tb:DTS} {D:DEnds} {ρ:En} {n:Nat} (Inv:Nat -> En -> Nat -> Prop) {m:Nat} (h0:Inv m ρ n)
  (turn:∀ m ρ n,Inv m ρ n -> c ρ n fun b n1=>if b = true then tb { D with nx:=fun ρ' n'=>∃ m',m' < m /\ Inv m' ρ' n',ct:=fun ρ' n'=>∃ m',m' < m /\ Inv m' ρ' n',bk:=D.nx } ρ n1 else D.nx ρ n1):sWhile c tb D ρ n :=
 ⟨Inv,⟨m,h0⟩,turn⟩
structure Sm (w k:Nat) (d:PyData):Prop where
 ls:d.leavesShort 41 = true
 sh:d.showable = true
 cl:d.canLay0 = true
 dp:d.depth <= k
 wt:d.weight <= w
theorem Sm.shd {w k:Nat} {d:PyData} (h:Sm w k d) (hw:w <= 380000) (hk:k <= 60):Shd d:=by
 refine ⟨h.sh,PyData.hasDict_of_canLay _ h.cl,Nat.le_trans h.dp hk,?_⟩
 have:=PyData.shown_le 41 (by decide) d h.ls
 have:=h.wt
 lia
theorem Sm.mono {w k w' k':Nat} {d:PyData} (h:Sm w k d) (hw:w <= w') (hk:k <= k'):Sm w' k' d:=⟨h.ls,h.sh,h.cl,Nat.le_trans h.dp hk,Nat.le_trans h.wt hw⟩
theorem sm_int {i:Int} (h:i.natAbs < 10 ^ 40):Sm 140 0 (.int i):=by
 have h2:i.natAbs < 2 ^ 139:=Nat.lt_of_lt_of_le h (by decide)
 have lg:i.natAbs ≠ 0 -> i.natAbs.log2 < 139:=fun z=>(Nat.log2_lt z).mpr h2
 refine ⟨?_,?_,by simp [PyData.canLay0],by simp [PyData.depth],?_⟩
 ·have e:=int_text_length_le10 (k:=40) (by decide) h
  have e2:(PyData.shown (.int i)).length <= 41:=by
   show (Str.ofString (toString i)).length <= 41
   rw [PySem.ofString_length]; exact e
  simp only [PyData.leavesShort]
  exact decide_eq_true e2
 ·simp only [PyData.showable,decide_eq_true_eq]
  by_cases z:i.natAbs = 0
  ·rw [z]; decide
  ·have:=lg z; lia
 ·simp only [PyData.weight]
  split
  ·lia
  ·rename_i z
   have:i.natAbs ≠ 0:=fun y=>z (by simp; lia)
   have:=lg this; lia
theorem sm_none:Sm 0 0 .none:=⟨by simp [PyData.leavesShort],by simp [PyData.showable],by simp [PyData.canLay0],by simp [PyData.depth],by simp [PyData.weight]⟩
theorem sm_all {w k:Nat}:∀ {xs:List PyData},(∀ x ∈ xs,Sm w k x) -> PyData.leavesShortAll 41 xs = true /\ PyData.showableAll xs = true /\ PyData.canLayAll0 xs = true /\ PyData.depthAll xs <= k /\ PyData.weightAll xs <= (w + 1) * xs.length
 | [],_=>⟨by simp [PyData.leavesShortAll],by simp [PyData.showableAll],by simp [PyData.canLayAll0],by simp [PyData.depthAll],by simp [PyData.weightAll]⟩
 | x :: xs,h=>by
  obtain ⟨a,b,c,d,e⟩:=sm_all (xs:=xs) fun y hy=>h y (by simp [hy])
  have hx:=h x (by simp)
  refine ⟨by simp [PyData.leavesShortAll,hx.ls,a],by simp [PyData.showableAll,hx.sh,b],by simp [PyData.canLayAll0,hx.cl,c],?_,?_⟩
  ·simp only [PyData.depthAll]; have:=hx.dp; lia
  ·simp only [PyData.weightAll,List.length_cons,Nat.mul_add]; have:=hx.wt; lia
theorem sm_tuple {w k:Nat} {xs:List PyData} (h:∀ x ∈ xs,Sm w k x):Sm ((w + 1) * xs.length) (k + 1) (.tuple xs):=by
 obtain ⟨a,b,c,d,e⟩:=sm_all h
 exact ⟨by simpa [PyData.leavesShort] using a,by simpa [PyData.showable] using b,by simpa [PyData.canLay0] using c,by simp only [PyData.depth]; lia,by simpa [PyData.weight] using e⟩
theorem sm_pair {i h:Int} (a:i.natAbs < 10 ^ 40) (b:h.natAbs < 10 ^ 40):Sm 282 1 (.tuple [.int i,.int h]):=by
 have:=sm_tuple (w:=140) (k:=0) (xs:=[.int i,.int h]) (by intro x hx; simp at hx; rcases hx with rfl | rfl; exact sm_int a; exact sm_int b)
 exact this.mono (by simp) (by decide)
end L2
namespace L2
open PySem PySem.Spec PyProof.Rows
theorem i_sHand {i j:Nat} {u:DTS} {D:DEnds} {ρ ρd:En} {n:Nat} {ns:List Int} {k:Int} (e0:ρ[0]? = some (some (.val (SCR ns)))) (ej:ρ[j]? = some (some (.val (.int k)))) (hl:ns.length <= 63) (k0:0 <= k) (k1:k <= 100) (ed:dropE ρ = ρd)
  (h:u { nx:=fun ρ' _=>D.nx (dropE ρ') n,rt:=fun t _=>∃ b,t = .bool b /\ D.rt t n,bk:=fun ρ' _=>D.bk (dropE ρ') n,ct:=fun ρ' _=>D.ct (dropE ρ') n } ((ρd.set j (some (.val (.int k)))).set i (some (.val HAND))) 0):sHand i j u D ρ n:=by
 subst ed
 unfold sHand
 rw [e0,ej]
 exact ⟨⟨ns,rfl,hl⟩,k0,k1,h⟩
end L2
namespace L2
open PySem PySem.Spec PyProof.Rows
def rkAt (rk:Value -> Int) (xs:Array Keyed) (i:Nat):Int:=((xs[i]?).map fun p=>rk p.1).getD 0
theorem rkAt_of {rk:Value -> Int} {xs ys:Array Keyed} {i j:Nat} (h:xs[i]? = ys[j]?):rkAt rk xs i = rkAt rk ys j:=by unfold rkAt; rw [h]
theorem rk_bub {rk:Value -> Int} {xs:Array Keyed} {u d:Nat} (hu:u < xs.size) (hd:d <= u) (k:Nat) :
  (k = u - d -> rkAt rk (bubble xs u d) k = rkAt rk xs u) /\ (u - d < k -> k <= u -> rkAt rk (bubble xs u d) k = rkAt rk xs (k - 1)) /\ (k < u - d \/ u < k -> rkAt rk (bubble xs u d) k = rkAt rk xs k):=by
 have e:=getElem?_bubble hu d hd k
 refine ⟨fun h=>?_,fun h1 h2=>?_,fun h=>?_⟩
 ·rw [if_pos h] at e; exact rkAt_of e
 ·rw [if_neg (by lia),if_pos ⟨h1,h2⟩] at e; exact rkAt_of e
 ·rw [if_neg (by lia),if_neg (by lia)] at e; exact rkAt_of e
theorem rk_mir {rk:Value -> Int} {xs:Array Keyed} {i j:Nat} (hj:j <= xs.size) (k:Nat) :
  (i <= k -> k < j -> rkAt rk (mirror xs i j ((j - i) / 2)) k = rkAt rk xs (i + j - 1 - k)) /\ (k < i \/ j <= k -> rkAt rk (mirror xs i j ((j - i) / 2)) k = rkAt rk xs k):=by
 have e:=getElem?_mirror_all (i:=i) hj k
 refine ⟨fun h1 h2=>?_,fun h=>?_⟩
 ·rw [if_pos ⟨h1,h2⟩] at e; exact rkAt_of e
 ·rw [if_neg (by lia)] at e; exact rkAt_of e
structure Sb (kd:SortKind) (a0:Array Keyed) (z:SortSt):Prop where
 pm:(arrOf z).Perm a0
 kn:kindOf z = kd
 fl:failedOf z = none
 pe:pendingOf z = #[]
def Up (rk:Value -> Int) (xs:Array Keyed) (m:Nat):Prop:=∀ i j,i < j -> j < m -> rkAt rk xs i <= rkAt rk xs j
def Dn (rk:Value -> Int) (xs:Array Keyed) (m:Nat):Prop:=∀ i j,i < j -> j < m -> rkAt rk xs j <= rkAt rk xs i
section
variable {prog:Program} {w:World} {A:Around} {E:Value -> Shared -> Prop} {s:Shared} {kd:SortKind} {rk:Value -> Int} {a0:Array Keyed}
def Cmp (prog:Program) (w:World) (A:Around) (s:Shared) (kd:SortKind) (rk:Value -> Int) (a0:Array Keyed):Prop :=
 ∀ (p q:Keyed) (E:Value -> Shared -> Prop) (Q:Bool -> Shared -> Prop),p ∈ a0.toList -> q ∈ a0.toList -> Q (decide (rk p.1 < rk q.1)) s -> wpAny (model prog w) A (keyLt' kd p.1 q.1) Q E s
theorem Sb.sz {z:SortSt} (b:Sb kd a0 z):(arrOf z).size = a0.size:=b.pm.size_eq
theorem Sb.arr {z:SortSt} (b:Sb kd a0 z) {xs:Array Keyed} (h:xs.Perm (arrOf z)):Sb kd a0 (setArr z xs):=⟨h.trans b.pm,b.kn,b.fl,b.pe⟩
theorem ask {z:SortSt} {i j:Nat} {Q:Option Bool -> SortSt -> Prop} (c:Cmp prog w A s kd rk a0) (b:Sb kd a0 z) (hi:i < a0.size) (hj:j < a0.size)
  (h:Q (some (decide (rkAt rk (arrOf z) i < rkAt rk (arrOf z) j))) z):wpS (model prog w) A E s (ltAt' i j) Q z:=by
 have mem:∀ k,k < a0.size -> ∃ p,(arrOf z)[k]? = some p /\ p ∈ a0.toList:=fun k hk=>by
  have hk':k < (arrOf z).size:=by rw [b.sz]; exact hk
  exact ⟨(arrOf z)[k],Array.getElem?_eq_getElem hk',(Array.perm_iff_toList_perm.mp b.pm).mem_iff.mp (by simp)⟩
 obtain ⟨p,ep,mp⟩:=mem i hi
 obtain ⟨q,eq,mq⟩:=mem j hj
 have r1:rkAt rk (arrOf z) i = rk p.1:=by unfold rkAt; rw [ep]; rfl
 have r2:rkAt rk (arrOf z) j = rk q.1:=by unfold rkAt; rw [eq]; rfl
 rw [r1,r2] at h
 rw [ltAt'_eq]
 refine wpS_bind (wpS_get ?_)
 show wpS (model prog w) A E s (elem' (arrOf z) i >>= fun x=>elem' (arrOf z) j >>= fun y=>lt' x y) Q z
 simp only [elem'_eq,ep,eq,pure_bind]
 rw [lt'_eq]
 refine wpS_bind (wpS_get (wpS_bind (wpS_lift (wpAny_attempt ?_))))
 rw [b.kn]
 exact c p q _ _ mp mq ⟨rfl,wpS_pure h⟩
theorem bin_ok {z:SortSt} {n ok:Nat} {Q:Bool -> SortSt -> Prop} (c:Cmp prog w A s kd rk a0) (hn:n <= a0.size) (hok:ok <= n) (b:Sb kd a0 z) (up:Up rk (arrOf z) ok)
  (h:∀ y,Sb kd a0 y -> Up rk (arrOf y) n -> Q true y):wpS (model prog w) A E s (binarySort' 0 n ok) Q z:=by
 rw [binarySort'_eq]
 simp only [Nat.zero_add]
 refine wpS_bind (wpS_mono (wpS_forRange (Q:=fun c y=>c = (none,()) /\ Sb kd a0 y /\ Up rk (arrOf y) n) (I:=fun k c y=>c = (none,()) /\ Sb kd a0 y /\ Up rk (arrOf y) (min k n)) ?turn ?last ⟨rfl,b,fun i j h1 h2=>up i j h1 (by lia)⟩) ?post)
 case post =>
  rintro _ y ⟨rfl,by',u⟩
  exact wpS_pure (h y by' u)
 case last =>
  rintro _ y ⟨rfl,by',u⟩
  exact ⟨rfl,by',by rwa [show min (max (max ok 1) n) n = n by lia] at u⟩
 case turn =>
  rintro k _ y k1 k2 ⟨rfl,by',u⟩
  rw [show min k n = k by lia] at u
  refine wpS_bind (wpS_mono (wpS_forRange (Q:=fun c y'=>y' = y /\ ∃ l r,c = (none,l,r) /\ l <= k /\ (∀ i,i < l -> rkAt rk (arrOf y) i <= rkAt rk (arrOf y) k) /\ ∀ i,l <= i -> i < k -> rkAt rk (arrOf y) k < rkAt rk (arrOf y) i)
   (I:=fun x c y'=>y' = y /\ ∃ l r,c = (none,l,r) /\ l <= r /\ r <= k /\ r - l + x <= k /\ (∀ i,i < l -> rkAt rk (arrOf y) i <= rkAt rk (arrOf y) k) /\ ∀ i,r <= i -> i < k -> rkAt rk (arrOf y) k < rkAt rk (arrOf y) i) ?t2 ?l2 ⟨rfl,0,k,rfl,by lia,by lia,by lia,fun i hi=>by lia,fun i i1 i2=>by lia⟩) ?p2)
  case l2 =>
   rintro _ v ⟨e,l,r,rfl,q1,q2,q3,q4,q5⟩
   subst e
   exact ⟨rfl,l,r,rfl,by lia,q4,fun i i1 i2=>q5 i (by lia) i2⟩
  case t2 =>
   rintro x _ v _ _ ⟨e,l,r,rfl,q1,q2,q3,q4,q5⟩
   subst e
   by_cases ge:r <= l
   ·simp only [ge_iff_le,ge,if_true]
    exact wpS_pure ⟨rfl,l,r,rfl,by lia,q4,fun i i1 i2=>q5 i (by lia) i2⟩
   ·simp only [ge_iff_le,ge,if_false]
    refine wpS_bind (ask c by' (by lia) (by lia) ?_)
    by_cases le:rkAt rk (arrOf v) k < rkAt rk (arrOf v) ((l + r) / 2)
    ·simp only [le,decide_true,if_true]
     refine wpS_pure ⟨rfl,l,(l + r) / 2,rfl,by lia,by lia,by lia,q4,fun i i1 i2=>?_⟩
     rcases Nat.lt_or_ge ((l + r) / 2) i with g | g
     ·have:=u _ _ g i2; lia
     ·have:i = (l + r) / 2:=by lia
      rw [this]; exact le
    ·simp only [le,decide_false,Bool.false_eq_true,if_false]
     refine wpS_pure ⟨rfl,(l + r) / 2 + 1,r,rfl,by lia,by lia,by lia,fun i i1=>?_,q5⟩
     rcases Nat.lt_or_ge i ((l + r) / 2) with g | g
     ·have:=u _ _ g (by lia); lia
     ·have:i = (l + r) / 2:=by lia
      rw [this]; lia
  case p2 =>
   rintro _ v ⟨e,l,r,rfl,q2,q4,q5⟩
   subst e
   show wpS (model prog w) A E s (moveDown' k l >>= fun _=>pure (ForInStep.yield (none,()))) _ v
   rw [moveDown'_eq]
   have hk:k < (arrOf v).size:=by rw [by'.sz]; lia
   refine wpS_bind (wpS_modify (wpS_pure ⟨rfl,by'.arr (bubble_perm _ _ _),fun i j h1 h2=>?_⟩))
   show rkAt rk (bubble (arrOf v) k (k - l)) i <= rkAt rk (bubble (arrOf v) k (k - l)) j
   have hj:j <= k:=by lia
   obtain ⟨a1,a2,a3⟩:=rk_bub (rk:=rk) hk (show k - l <= k by lia) i
   obtain ⟨b1,b2,b3⟩:=rk_bub (rk:=rk) hk (show k - l <= k by lia) j
   have el:k - (k - l) = l:=by lia
   rw [el] at a1 a2 a3 b1 b2 b3
   rcases Nat.lt_trichotomy j l with jl | jl | jl
   ·rw [a3 (by lia),b3 (by lia)]; exact u i j h1 (by lia)
   ·rw [a3 (by lia),b1 jl]; exact q4 i (by lia)
   ·rw [b2 jl hj]
    rcases Nat.lt_trichotomy i l with il | il | il
    ·rw [a3 (by lia)]
     rcases Nat.lt_or_ge i (j - 1) with g | g
     ·exact u i (j - 1) g (by lia)
     ·exact absurd g (by lia)
    ·rw [a1 il]; exact Int.le_of_lt (q5 (j - 1) (by lia) (by lia))
    ·rw [a2 il (by lia)]
     rcases Nat.lt_or_ge (i - 1) (j - 1) with g | g
     ·exact u _ _ g (by lia)
     ·exact absurd g (by lia)
end
end L2
namespace L2
open PySem PySem.Spec PyProof.Rows
section
variable {prog:Program} {w:World} {A:Around} {E:Value -> Shared -> Prop} {s:Shared} {kd:SortKind} {rk:Value -> Int} {a0:Array Keyed}
theorem asc_ok {z:SortSt} {a m:Nat} {Q:AscSt -> SortSt -> Prop} (c:Cmp prog w A s kd rk a0) (hm:m <= a0.size) (a1:1 <= a) (am:a <= m) (b:Sb kd a0 z) (up:Up rk (arrOf z) a)
  (h:∀ n,a <= n -> n <= m -> Up rk (arrOf z) n -> (n < m -> rkAt rk (arrOf z) n < rkAt rk (arrOf z) (n - 1)) -> Q (none,n) z):wpS (model prog w) A E s (ascLoop a m) Q z:=by
 unfold ascLoop
 refine wpS_forRange (I:=fun x c y=>y = z /\ c = (none,x) /\ Up rk (arrOf z) x) (fun x _ y x1 x2 I=>?_) (fun _ y I=>?_) ⟨rfl,rfl,up⟩
 ·obtain ⟨e,rfl,u⟩:=I
  subst e
  refine wpS_bind (ask c b (by omega) (by omega) ?_)
  by_cases g:rkAt rk (arrOf y) x < rkAt rk (arrOf y) (x - 1)
  ·simp only [g,decide_true,if_true]
   exact wpS_pure (h x x1 (by omega) u fun _=>g)
  ·simp only [g,decide_false,Bool.false_eq_true,if_false]
   refine wpS_pure ⟨rfl,rfl,fun i j h1 h2=>?_⟩
   rcases Nat.lt_or_ge j x with jx | jx
   ·exact u i j h1 jx
   ·have ej:j = x:=by omega
    subst ej
    rcases Nat.lt_or_ge i (j - 1) with ij | ij
    ·have:=u i (j - 1) ij (by omega); omega
    ·have:i = j - 1:=by omega
     rw [this]; omega
 ·obtain ⟨e,rfl,u⟩:=I
  subst e
  rw [show max a m = m by omega] at u ⊢
  exact h m am (Nat.le_refl _) u fun g=>absurd g (by omega)
theorem tail_ok {z:SortSt} {n m:Nat} {Q:Option Nat -> SortSt -> Prop} (c:Cmp prog w A s kd rk a0) (hm:m <= a0.size) (n1:1 <= n) (nm:n <= m) (b:Sb kd a0 z) (dn:Dn rk (arrOf z) n)
  (h:∀ k y,Sb kd a0 y -> 1 <= k -> k <= m -> Up rk (arrOf y) k -> Q (some k) y):wpS (model prog w) A E s (tail3 n m) Q z:=by
 unfold tail3
 have hz:n <= (arrOf z).size:=by rw [b.sz]; omega
 refine wpS_bind (wpS_reverse (wpS_bind ?_))
 have b2:=b.arr (mirror_perm (arrOf z) 0 n ((n - 0) / 2))
 refine asc_ok c hm n1 nm b2 (fun i j h1 h2=>?_) fun k k1 k2 u _=>wpS_pure (h k _ b2 (by omega) k2 u)
 show rkAt rk (mirror (arrOf z) 0 n ((n - 0) / 2)) i <= rkAt rk (mirror (arrOf z) 0 n ((n - 0) / 2)) j
 rw [(rk_mir (rk:=rk) hz i).1 (by omega) (by omega),(rk_mir (rk:=rk) hz j).1 (by omega) h2]
 exact dn _ _ (by omega) (by omega)
theorem mir_same {xs:Array Keyed} {i j:Nat} (hj:j <= xs.size) (al:∀ k,i <= k -> k < j -> rkAt rk xs k = rkAt rk xs (j - 1)) (k:Nat):rkAt rk (mirror xs i j ((j - i) / 2)) k = rkAt rk xs k:=by
 obtain ⟨p,q⟩:=rk_mir (rk:=rk) (i:=i) hj k
 by_cases g:i <= k /\ k < j
 ·rw [p g.1 g.2,al _ (by omega) (by omega),al k g.1 g.2]
 ·exact q (by omega)
theorem desc_ok {z:SortSt} {n m:Nat} {Q:DescSt -> SortSt -> Prop} (c:Cmp prog w A s kd rk a0) (hm:m <= a0.size) (n1:1 <= n) (nm:n <= m) (b:Sb kd a0 z) (dn:Dn rk (arrOf z) n)
  (h:∀ k e y,Sb kd a0 y -> n <= k -> k <= m -> Dn rk (arrOf y) k -> e < k -> (∀ i,k - (e + 1) <= i -> i < k -> rkAt rk (arrOf y) i = rkAt rk (arrOf y) (k - 1)) -> Q (none,k,e) y) :
  wpS (model prog w) A E s (descLoop n m) Q z:=by
 unfold descLoop
 refine wpS_forRange (I:=fun x c y=>∃ e,c = (none,x,e) /\ Sb kd a0 y /\ Dn rk (arrOf y) x /\ e < x /\ ∀ i,x - (e + 1) <= i -> i < x -> rkAt rk (arrOf y) i = rkAt rk (arrOf y) (x - 1)) (fun x _ y x1 x2 I=>?_) (fun _ y I=>?_)
  ⟨0,rfl,b,dn,by omega,fun i i1 i2=>by rw [show i = n - 1 by omega]⟩
 ·obtain ⟨e,rfl,by',d,ex,al⟩:=I
  have xz:x <= (arrOf y).size:=by rw [by'.sz]; omega
  refine wpS_bind (ask c by' (show x < a0.size by omega) (show x - 1 < a0.size by omega) ?_)
  by_cases g:rkAt rk (arrOf y) x < rkAt rk (arrOf y) (x - 1)
  ·simp only [g,decide_true,if_true]
   have d2:∀ xs:Array Keyed,(∀ k,rkAt rk xs k = rkAt rk (arrOf y) k) -> Dn rk xs (x + 1):=fun xs hx i j h1 h2=>by
    rw [hx,hx]
    rcases Nat.lt_or_ge j x with jx | jx
    ·exact d i j h1 jx
    ·have ej:j = x:=by omega
     subst ej
     rcases Nat.lt_or_ge i (j - 1) with ij | ij
     ·have:=d i (j - 1) ij (by omega); omega
     ·have:i = j - 1:=by omega
      rw [this]; omega
   have one:∀ xs:Array Keyed,∀ i,x + 1 - (0 + 1) <= i -> i < x + 1 -> rkAt rk xs i = rkAt rk xs (x + 1 - 1):=fun xs i i1 i2=>by rw [show i = x + 1 - 1 by omega]
   by_cases e0:e > 0
   ·simp only [e0,if_true]
    exact wpS_bind (wpS_reverse (wpS_pure ⟨0,rfl,by'.arr (mirror_perm _ _ _ _),d2 _ (mir_same xz al),by omega,one _⟩))
   ·simp only [e0,if_false]
    exact wpS_pure ⟨0,rfl,by',d2 _ (fun _=>rfl),by omega,one _⟩
  ·simp only [g,decide_false,Bool.false_eq_true,if_false]
   refine wpS_bind (ask c by' (show x - 1 < a0.size by omega) (show x < a0.size by omega) ?_)
   by_cases g2:rkAt rk (arrOf y) (x - 1) < rkAt rk (arrOf y) x
   ·simp only [g2,decide_true,if_true]
    exact wpS_pure (h x e y by' x1 (by omega) d ex al)
   ·simp only [g2,decide_false,Bool.false_eq_true,if_false]
    have eqx:rkAt rk (arrOf y) x = rkAt rk (arrOf y) (x - 1):=by omega
    refine wpS_pure ⟨e + 1,rfl,by',fun i j h1 h2=>?_,by omega,fun i i1 i2=>?_⟩
    ·rcases Nat.lt_or_ge j x with jx | jx
     ·exact d i j h1 jx
     ·have ej:j = x:=by omega
      subst ej
      rcases Nat.lt_or_ge i (j - 1) with ij | ij
      ·have:=d i (j - 1) ij (by omega); omega
      ·have:i = j - 1:=by omega
       rw [this]; omega
    ·rw [show x + 1 - 1 = x by omega]
     rcases Nat.lt_or_ge i x with ix | ix
     ·rw [al i (by omega) ix,eqx]
     ·rw [show i = x by omega]
 ·obtain ⟨e,rfl,by',d,ex,al⟩:=I
  rw [show max n m = m by omega] at *
  exact h m e y by' nm (Nat.le_refl _) d ex al
theorem part_ok {z:SortSt} {n m:Nat} {Q:Option Nat -> SortSt -> Prop} (c:Cmp prog w A s kd rk a0) (hm:m <= a0.size) (nm:n + 1 <= m) (b:Sb kd a0 z) (dn:Dn rk (arrOf z) (n + 1))
  (h:∀ k y,Sb kd a0 y -> 1 <= k -> k <= m -> Up rk (arrOf y) k -> Q (some k) y):wpS (model prog w) A E s (descPart n m) Q z:=by
 unfold descPart
 refine wpS_bind (wpS_lift (wpAny_rule ⟨rfl,wpS_bind ?_⟩))
 refine desc_ok c hm (by omega) nm b dn fun k e y by' k1 k2 d ek al=>?_
 have kz:k <= (arrOf y).size:=by rw [by'.sz]; omega
 by_cases e0:e > 0
 ·simp only [e0,if_true]
  refine wpS_bind (wpS_reverse (tail_ok c hm (by omega) k2 (by'.arr (mirror_perm _ _ _ _)) (fun i j h1 h2=>?_) h))
  show rkAt rk (mirror (arrOf y) (k - (e + 1)) k ((k - (k - (e + 1))) / 2)) j <= rkAt rk (mirror (arrOf y) (k - (e + 1)) k ((k - (k - (e + 1))) / 2)) i
  rw [mir_same kz al,mir_same kz al]
  exact d i j h1 h2
 ·simp only [e0,if_false]
  exact tail_ok c hm (by omega) k2 by' d h
theorem run_ok {z:SortSt} {m:Nat} {Q:Option Nat -> SortSt -> Prop} (c:Cmp prog w A s kd rk a0) (hm:m <= a0.size) (m1:1 <= m) (b:Sb kd a0 z)
  (h:∀ k y,Sb kd a0 y -> 1 <= k -> k <= m -> Up rk (arrOf y) k -> Q (some k) y):wpS (model prog w) A E s (countRun' 0 m) Q z:=by
 rw [countRun0_eq]
 refine wpS_bind (asc_ok c hm (Nat.le_refl 1) m1 b (fun i j h1 h2=>absurd h1 (by omega)) fun n n1 n2 u lt=>?_)
 by_cases en:n = m
 ·simp only [en,beq_self_eq_true,if_true]
  exact wpS_pure (h m z b m1 (Nat.le_refl _) (en ▸ u))
 ·have en':(n == m) = false:=by simpa using en
  simp only [en',Bool.false_eq_true,if_false]
  have l:=lt (by omega)
  by_cases g:n > 1
  ·simp only [g,if_true]
   refine wpS_bind (ask c b (by omega) (by omega) ?_)
   by_cases rose:rkAt rk (arrOf z) 0 < rkAt rk (arrOf z) (n - 1)
   ·simp only [rose,decide_true,if_true]
    exact wpS_pure (h n z b n1 n2 u)
   ·simp only [rose,decide_false,Bool.false_eq_true,if_false]
    have zn:n <= (arrOf z).size:=by rw [b.sz]; omega
    have al:∀ k,0 <= k -> k < n -> rkAt rk (arrOf z) k = rkAt rk (arrOf z) (n - 1):=fun k _ kn=>by
     have p:rkAt rk (arrOf z) 0 <= rkAt rk (arrOf z) k:=by
      rcases Nat.eq_zero_or_pos k with k0 | k0
      ·rw [k0]; exact Int.le_refl _
      ·exact u 0 k k0 kn
     have q:rkAt rk (arrOf z) k <= rkAt rk (arrOf z) (n - 1):=by
      rcases Nat.lt_or_ge k (n - 1) with kk | kk
      ·exact u k (n - 1) kk (by omega)
      ·rw [show k = n - 1 by omega]; exact Int.le_refl _
     omega
    refine wpS_bind (wpS_reverse (part_ok c hm (by omega) (b.arr (mirror_perm _ _ _ _)) (fun i j h1 h2=>?_) h))
    show rkAt rk (mirror (arrOf z) 0 n ((n - 0) / 2)) j <= rkAt rk (mirror (arrOf z) 0 n ((n - 0) / 2)) i
    rw [mir_same zn al,mir_same zn al]
    have ai:=al i (by omega) (by omega)
    rcases Nat.lt_or_ge j n with jn | jn
    ·have:=al j (by omega) jn; omega
    ·rw [show j = n by omega]; omega
  ·simp only [g,if_false]
   have e1:n = 1:=by omega
   subst e1
   refine part_ok c hm (by omega) b (fun i j h1 h2=>?_) h
   rw [show i = 0 by omega,show j = 1 by omega]
   exact Int.le_of_lt l
theorem runs_ok {z:SortSt} {Q:Unit -> SortSt -> Prop} (c:Cmp prog w A s kd rk a0) (b:Sb kd a0 z) (s2:2 <= a0.size) (s64:a0.size < 64)
  (h:∀ y,(arrOf y).Perm a0 -> failedOf y = none -> Up rk (arrOf y) a0.size -> Q () y):wpS (model prog w) A E s sortRuns' Q z:=by
 rw [sortRuns'_eq]
 refine wpS_bind (wpS_get ?_)
 have mr:minRun' a0.size a0.size 0 = a0.size:=by
  obtain ⟨q,hq⟩:∃ q,a0.size = q + 1:=⟨a0.size - 1,by omega⟩
  conv=>lhs; rw [hq]
  rw [minRun'_succ,if_pos (by omega)]; omega
 simp only [b.sz,mr]
 refine wpS_bind (wpS_mono (wpS_forRange (Q:=fun c y=>c = (none,a0.size) /\ (arrOf y).Perm a0 /\ failedOf y = none /\ pendingOf y = #[(0,a0.size,0)] /\ Up rk (arrOf y) a0.size)
  (I:=fun x c y=>(x = 0 /\ c = (none,0) /\ Sb kd a0 y) \/ (0 < x /\ c = (none,a0.size) /\ (arrOf y).Perm a0 /\ failedOf y = none /\ pendingOf y = #[(0,a0.size,0)] /\ Up rk (arrOf y) a0.size)) ?turn ?last (.inl ⟨rfl,rfl,b⟩)) ?post)
 case last =>
  rintro _ y (⟨x0,_⟩ | ⟨_,q⟩)
  ·omega
  ·exact q
 case turn =>
  rintro x _ y _ _ (⟨rfl,rfl,by'⟩ | ⟨x1,rfl,q⟩)
  ·simp only [ge_iff_le,show ¬ a0.size <= 0 by omega,if_false,Nat.sub_zero,Nat.min_self,Nat.zero_add]
   have fin:∀ y2,Sb kd a0 y2 -> Up rk (arrOf y2) a0.size -> (arrOf (setPending y2 ((pendingOf y2).push (0,a0.size,0)))).Perm a0 /\ failedOf (setPending y2 ((pendingOf y2).push (0,a0.size,0))) = none /\ pendingOf (setPending y2 ((pendingOf y2).push (0,a0.size,0))) = #[(0,a0.size,0)] /\ Up rk (arrOf (setPending y2 ((pendingOf y2).push (0,a0.size,0)))) a0.size :=
    fun y2 b2 u2=>⟨b2.pm,b2.fl,by show (pendingOf y2).push (0,a0.size,0) = _; rw [b2.pe]; rfl,u2⟩
   refine wpS_bind (run_ok c (Nat.le_refl _) (by omega) by' fun k y1 b1 k1 k2 u1=>?_)
   by_cases g:k < a0.size
   ·simp only [g,if_true]
    refine wpS_bind (wpS_lift (wpAny_rule ⟨rfl,wpS_bind ?_⟩))
    refine bin_ok c (Nat.le_refl _) k2 b1 u1 fun y2 b2 u2=>?_
    simp only [Bool.not_true,Bool.false_eq_true,if_false]
    refine wpS_bind (wpS_get ?_)
    have pb:(pendingOf y2).back? = none:=by rw [b2.pe]; rfl
    simp only [pb]
    exact wpS_bind (wpS_modify (wpS_pure (.inr ⟨by omega,rfl,fin y2 b2 u2⟩)))
   ·simp only [g,if_false]
    have ek:k = a0.size:=by omega
    subst ek
    refine wpS_bind (wpS_get ?_)
    have pb:(pendingOf y1).back? = none:=by rw [b1.pe]; rfl
    simp only [pb]
    exact wpS_bind (wpS_modify (wpS_pure (.inr ⟨by omega,rfl,fin y1 b1 u1⟩)))
  ·simp only [ge_iff_le,Nat.le_refl,if_true]
   exact wpS_pure ⟨rfl,q⟩
 case post =>
  rintro _ y ⟨rfl,q1,q2,q3,q4⟩
  refine wpS_bind (wpS_mono (wpS_forRange (Q:=fun c v=>v = y /\ c = (none,())) (I:=fun _ c v=>v = y /\ c = (none,())) (fun x _ v _ _ I=>?_) (fun _ _ I=>I) ⟨rfl,rfl⟩) fun _ v I=>?_)
  ·obtain ⟨e,rfl⟩:=I
   subst e
   refine wpS_bind (wpS_get ?_)
   simp only [q3,List.size_toArray,List.length_cons,List.length_nil,Nat.le_refl,if_true]
   exact wpS_pure ⟨rfl,rfl⟩
  ·obtain ⟨e,rfl⟩:=I
   subst e
   exact wpS_pure (h v q1 q2 q4)
end
end L2
namespace L2
open PySem PySem.Spec PyProof.Rows
theorem runsM_ok {prog:Program} {w:World} {A:Around} {E:Value -> Shared -> Prop} {s:Shared} {kd:SortKind} {rk:Value -> Int} {a0:Array Keyed} {z:SortSt} {Q:Unit -> SortSt -> Prop} (c:Cmp prog w A s kd rk a0) (b:Sb kd a0 z) (s2:2 <= a0.size) (s64:a0.size < 64)
  (h:∀ y,(arrOf y).Perm a0 -> failedOf y = none -> Up rk (arrOf y) a0.size -> Q () y):wpS (model prog w) A E s sortRuns' Q z:=runs_ok c b s2 s64 h
end L2
namespace L2
open PySem PySem.Spec PyProof.Rows
def midH (h:Heap) (a:Addr) (vs:List Value):Heap:=((h.update a (Obj.mapSeq fun _=>#[])).push (seqObj "tuple" vs.toArray 0)).push (seqObj "list" #[] 0)
section
variable {prog:Program} {w:World} {A:Around} {E:Value -> Shared -> Prop} {s:Shared} {rk:Value -> Int}
def Kinds (prog:Program) (w:World) (A:Around) (s:Shared) (rk:Value -> Int) (vs:List Value):Prop:=2 <= vs.length -> ∃ kd,(∀ (E:Value -> Shared -> Prop) (Q:SortKind -> Shared -> Prop),Q kd s -> wpAny (model prog w) A (keyKind' vs.toArray) Q E s) /\ Cmp prog w A s kd rk (pairsOf vs)
theorem lsort_ok {a:Addr} {vs:List Value} {n:Nat} {P:Fin -> Shared -> Prop} (ho:s.heap.get? a = some (seqObj "list" vs.toArray n)) (h64:vs.length < 64) (hk:Kinds prog w A { s with heap:=midH s.heap a vs } rk vs)
  (h:∀ y:SortSt,(arrOf y).Perm (pairsOf vs) -> Up rk (arrOf y) vs.length -> P (.done (.ret .none)) { s with heap:=sortedHeap s.heap a vs ((arrOf y).map (·.2)) }) :
  wpAny (model prog w) A (Builtin.«list.sort» ⟨[.ref a],[]⟩) P E s:=by
 rw [list_sort_plain]
 have la:a < s.heap.objs.size:=Heap.lt_size ho
 refine wpAny_bind (listItems_at ho rfl (wpAny_bind (listUpdate_at ho rfl ?_)))
 obtain ⟨e1,o1⟩:∃ e1,(s.heap.update a (Obj.mapSeq fun _=>#[])).get? a = some (seqObj "list" #[] e1):=⟨_,get?_update_seq ho (fun _=>#[])⟩
 refine wpAny_bind (seqEpoch_at o1 rfl (wpAny_bind (wpAny_newTuple (wpAny_bind (wpAny_newList (wpAny_holding ?_))))))
 have o2:(midH s.heap a vs).get? a = some (seqObj "list" #[] e1):=by
  unfold midH
  rw [Heap.get?_push_ne _ _ _ (by rw [size_push',Heap.size_update]; exact Nat.ne_of_lt (Nat.lt_of_lt_of_le la (Nat.le_succ _))),Heap.get?_push_ne _ _ _ (by rw [Heap.size_update]; exact Nat.ne_of_lt la)]
  exact o1
 show wpAny (model prog w) A _ P E { s with heap:=midH s.heap a vs }
 have z:vs.toArray.size = vs.length:=by simp
 have tail:∀ (y:SortSt),(arrOf y).Perm (pairsOf vs) -> failedOf y = none -> Up rk (arrOf y) vs.length -> wpAny (model prog w) A (do
   let touched:=(<- seqEpoch a) != e1
   Builtin.List.listUpdate (.ref a) fun _=>(arrOf y).map (·.2)
   if let some e:=failedOf y then rule "list.sort.comparison-raised"; throw e
   if touched then rule "list.sort.modified"; raiseError "ValueError" "list modified during sort"
   ret .none) P E { s with heap:=midH s.heap a vs }:=fun y pm fl up=>by
  refine wpAny_bind (seqEpoch_at o2 rfl (wpAny_bind (listUpdate_at o2 rfl ?_ (hsz2:=?_))))
  ·rw [fl]
   simp only [bne_self_eq_false,Bool.false_eq_true,if_false]
   exact wpAny_pure (h y pm up)
  ·rw [Array.size_map,pm.size_eq,pairsOf_size]
   show vs.length <= sizeLine + 1
   have:64 <= sizeLine:=by decide
   omega
 by_cases two:vs.length < 2
 ·simp only [z,two,if_true]
  refine wpAny_bind (wpAny_pure ?_)
  rw [StateT.run_pure]
  refine wpAny_bind (wpAny_pure ?_)
  exact tail (SortSt.mk' general' (vs.toArray.zip vs.toArray) #[] 7 none) (Array.Perm.refl _) rfl fun i j h1 h2=>absurd h2 (by omega)
 ·simp only [z,two,if_false]
  obtain ⟨kd,k1,k2⟩:=hk (by omega)
  refine wpAny_bind (k1 _ _ ?_)
  refine wpAny_bind (wpAny_mono (runsM_ok (Q:=fun _ y=>(arrOf y).Perm (pairsOf vs) /\ failedOf y = none /\ Up rk (arrOf y) vs.length) (z:=SortSt.mk' kd (vs.toArray.zip vs.toArray) #[] 7 none) k2 ⟨Array.Perm.refl _,rfl,rfl,rfl⟩ (by rw [pairsOf_size]; omega) (by rw [pairsOf_size]; exact h64)
   fun y p1 p2 p3=>⟨p1,p2,by rwa [pairsOf_size] at p3⟩) ?_ fun _ _ e=>e)
  rintro ⟨⟨⟩,y⟩ s' ⟨rfl,p1,p2,p3⟩
  exact tail y p1 p2 p3
theorem collect_any {l:Addr} {vs:List Value} {o:Obj} {T:String} {n:Nat} {Q:List Value -> Shared -> Prop} (ho:s.heap.get? l = some o) (hc:o.cls = .type T) (hT:T = "list" \/ T = "tuple") (hd:o.data = .seq vs.toArray n) (hz:vs.length <= sizeLine)
  (h:Q vs { s with heap:=(s.heap.push (seqObj "list" #[] 0)).update s.heap.objs.size (Obj.mapSeq (· ++ vs.toArray)) }):wpAny (model prog w) A (collect (.ref l)) Q E s:=by
 unfold collect
 refine wpAny_bind (wpAny_runValue (codeAny_builtin entry_proto_collect' ?_))
 show wpAny (model prog w) _ (newList [] >>= fun x=>again (.builtin "list.__iadd__" ⟨[x,.ref l],[]⟩)) _ _ s
 refine wpAny_bind (wpAny_newList (wpAny_pure ⟨Code.quiet_builtin _ (by decide +kernel),codeAny_builtin entry_list_iadd' ?_⟩))
 show wpAny (model prog w) _ (Builtin.List.listExtendWith (.ref s.heap.objs.size) (.ref l) (.ref s.heap.objs.size)) _ _ { s with heap:=s.heap.push (seqObj "list" #[] 0) }
 unfold Builtin.List.listExtendWith
 have o1:(s.heap.push (seqObj "list" #[] 0)).get? l = some o:=Heap.get?_push_of_some _ ho
 refine wpAny_bind (wpAny_typeOf (T:=T) ⟨o,o1,hc⟩ ?_)
 have cond:∀ b:Bool,(b || Value.type T == Value.type "list" || Value.type T == Value.type "tuple") = true:=by
  intro b
  have c1:(Value.type "list" == Value.type "list") = true:=rfl
  have c2:(Value.type "tuple" == Value.type "tuple") = true:=rfl
  rcases hT with rfl | rfl
  ·rw [c1]; simp
  ·rw [c2]; simp
 rw [if_pos (cond _)]
 refine wpAny_bind (listItems_at o1 hd (wpAny_bind (listItems_at (xs:=#[]) (n:=0) (Heap.get?_push_size _ rfl) rfl ?_)))
 rw [if_neg (by simp)]
 refine wpAny_bind (listUpdate_at (xs:=#[]) (n:=0) (Heap.get?_push_size _ rfl) rfl (wpAny_pure ?_) (Nat.zero_le _) (by simp only [Array.size_append,List.size_toArray,List.length_nil]; omega))
 refine wpAny_bind (m:=load s.heap.objs.size) (wpAny_load (get?_update_seq (Heap.get?_push_size _ rfl) _) ?_)
 show wpAny (model prog w) A (pure ((#[]:Array Value) ++ vs.toArray).toList) Q E _
 have e:((#[]:Array Value) ++ vs.toArray).toList = vs:=by simp
 rw [e]
 exact wpAny_pure h
def preH (h:Heap) (vs:List Value):Heap:=((h.push (seqObj "list" #[] 0)).update h.objs.size (Obj.mapSeq (· ++ vs.toArray))).push (seqObj "list" vs.toArray 0)
theorem sorted_any {l:Addr} {vs:List Value} {o:Obj} {T:String} {n:Nat} {Q:Value -> Shared -> Prop} (ho:s.heap.get? l = some o) (hc:o.cls = .type T) (hT:T = "list" \/ T = "tuple") (hd:o.data = .seq vs.toArray n) (h64:vs.length < 64)
  (hk:∀ A',Kinds prog w A' { s with heap:=midH (preH s.heap vs) (s.heap.objs.size + 1) vs } rk vs)
  (h:∀ y:SortSt,(arrOf y).Perm (pairsOf vs) -> Up rk (arrOf y) vs.length -> Q (.ref (s.heap.objs.size + 1)) { s with heap:=sortedAll s.heap vs ((arrOf y).map (·.2)) }) :
  wpAny (model prog w) A (call (.builtin "sorted") [.ref l]) Q E s:=by
 refine Calls.call_function_entry kind_sorted plain_sorted entry_sorted (args_sorted1 _) ?_
 unfold Builtin.«sorted»
 refine wpAny_bind (m:=checkCount "sorted" 1 1 _) (wpAny_pure ?_)
 refine wpAny_bind (collect_any ho hc hT hd (by have:64 <= sizeLine:=by decide
                                                omega) (wpAny_bind (wpAny_newList ?_)))
 have z:((s.heap.push (seqObj "list" #[] 0)).update s.heap.objs.size (Obj.mapSeq (· ++ vs.toArray))).objs.size = s.heap.objs.size + 1:=by rw [Heap.size_update,size_push']
 have o3:(preH s.heap vs).get? (s.heap.objs.size + 1) = some (seqObj "list" vs.toArray 0):=by
  unfold preH
  rw [<- z]; exact Heap.get?_push_size _ rfl
 show wpAny (model prog w) _ _ _ _ { s with heap:=preH s.heap vs }
 rw [z]
 refine wpAny_bind (wpAny_holding (wpAny_call_entry slot_list_sort ⟨_,o3,rfl⟩ entry_list_sort (lsort_ok o3 h64 (hk _) fun y p1 p2=>⟨_,rfl,?_⟩) (args_list_sort _)))
 exact wpAny_pure ⟨_,rfl,h y p1 p2⟩
end
end L2
namespace L2
open PySem PySem.Spec PyProof.Rows
section
variable {prog:Program} {w:World} {A:Around} {E:Value -> Shared -> Prop} {s:Shared}
theorem keyLt_tup (b:Bool) (x y:Value):keyLt' (tuples' b) x y = (do
  let xs <- Builtin.List.listItems x
  let ys <- Builtin.List.listItems y
  for ((p,q),i) in (xs.toList.zip ys.toList).zipIdx do
   if !(<- eqBool p q) then return <- oneLt' (b && i == 0) p q
  return decide (xs.size < ys.size)):=rfl
def LtAt (prog:Program) (w:World) (A:Around) (s:Shared) (one:Bool) (p q:Value) (l:Bool):Prop:=∀ (E:Value -> Shared -> Prop) (Q:Bool -> Shared -> Prop),Q l s -> wpAny (model prog w) A (oneLt' one p q) Q E s
theorem keyLt_two {b:Bool} {x y:Addr} {ox oy:Obj} {p0 p1 q0 q1:Value} {n m:Nat} {c0 c1 l0 l1:Bool} {Q:Bool -> Shared -> Prop} (hx:s.heap.get? x = some ox) (dx:ox.data = .seq #[p0,p1] n) (hy:s.heap.get? y = some oy) (dy:oy.data = .seq #[q0,q1] m)
  (e0:SeqAt.EqAt A s p0 q0 c0) (e1:SeqAt.EqAt A s p1 q1 c1) (t0:c0 = false -> LtAt prog w A s b p0 q0 l0) (t1:c1 = false -> LtAt prog w A s false p1 q1 l1) (h:Q (if c0 = true then (if c1 = true then false else l1) else l0) s) :
  wpAny (model prog w) A (keyLt' (tuples' b) (.ref x) (.ref y)) Q E s:=by
 rw [keyLt_tup]
 refine wpAny_bind (listItems_at hx dx (wpAny_bind (listItems_at hy dy ?_)))
 have ez:((#[p0,p1]:Array Value).toList.zip (#[q0,q1]:Array Value).toList).zipIdx = [((p0,q0),0),((p1,q1),1)]:=rfl
 simp only [ez,List.forIn_cons,List.forIn_nil]
 refine wpAny_bind (wpAny_bind ?_)
 refine wpAny_bind (e0 prog w E _ ?_)
 cases c0 with
 | false =>
  simp only [Bool.not_false,if_true]
  have z0:(b && (0:Nat) == 0) = b:=by simp
  rw [z0]
  refine wpAny_bind (t0 rfl E _ ?_)
  exact wpAny_pure (wpAny_pure (wpAny_pure (by simpa using h)))
 | true =>
  simp only [Bool.not_true,Bool.false_eq_true,if_false]
  refine wpAny_pure (wpAny_bind (wpAny_bind (e1 prog w E _ ?_)))
  cases c1 with
  | false =>
   simp only [Bool.not_false,if_true]
   have z1:(b && (1:Nat) == 0) = false:=by simp
   rw [z1]
   refine wpAny_bind (t1 rfl E _ ?_)
   exact wpAny_pure (wpAny_pure (wpAny_pure (by simpa using h)))
  | true =>
   simp only [Bool.not_true,Bool.false_eq_true,if_false]
   exact wpAny_pure (wpAny_pure (wpAny_pure (by simpa using h)))
theorem ltAt_int1 (a b:Int) (t u:Tok):LtAt prog w A s true (.int a t) (.int b u) (decide (a < b)):=fun _ _ q=>oneLt_int q
theorem ltAt_int (a b:Int) (t u:Tok):LtAt prog w A s false (.int a t) (.int b u) (decide (a < b)):=fun E Q q=>by
 rw [oneLt'_eq]
 simp only [Bool.false_eq_true,if_false]
 refine wpAny_bind (show wpAny (model prog w) A (compareOp .Lt (.int a t) (.int b u)) _ E s from lt_int ?_)
 exact wpAny_truthy_bool q
def PrIn (h:Heap) (u:Value) (b k:Int):Prop:=∃ (a:Addr) (o:Obj) (t t':Tok) (n:Nat),u = .ref a /\ h.get? a = some o /\ o.cls = .type "tuple" /\ o.data = .seq #[.int b t,.int k t'] n
def two?:List Value -> Int
 | [.int b _,.int k _]=>b * 1000 + k
 | _=>0
def rkC (h:Heap) (u:Value):Int:=match u with
 | .ref a=>match h.get? a with
  | some o=>match o.data with
   | .seq xs _=>two? xs.toList
   | _=>0
  | none=>0
 | _=>0
theorem PrIn.rk {h:Heap} {u:Value} {b k:Int} (p:PrIn h u b k):rkC h u = b * 1000 + k:=by
 obtain ⟨a,o,t,t',n,rfl,e1,_,e2⟩:=p
 simp only [rkC,e1,e2,two?]
theorem PrIn.kept {h h':Heap} {u:Value} {b k:Int} (p:PrIn h u b k) (kp:∀ b o,h.get? b = some o -> h'.get? b = some o):PrIn h' u b k:=by
 obtain ⟨a,o,t,t',n,e0,e1,e2,e3⟩:=p
 exact ⟨a,o,t,t',n,e0,kp _ _ e1,e2,e3⟩
theorem mapM_one {α β:Type} {f:α -> Sem β} {P:α -> β -> Prop} {M:Model}:∀ (l:List α) {Q:List β -> Shared -> Prop},(∀ v ∈ l,∀ (Q':β -> Shared -> Prop),(∀ r,P v r -> Q' r s) -> wpAny M A (f v) Q' E s) -> (∀ rs,Paired P l rs -> Q rs s) -> wpAny M A (l.mapM f) Q E s
 | [],_,_,h=>by rw [List.mapM_nil]; exact wpAny_pure (h _ .nil)
 | x :: l,Q,hf,h=>by
  rw [List.mapM_cons]
  exact wpAny_bind (hf x (.head _) _ fun r hr=>wpAny_bind (mapM_one l (fun v hv=>hf v (.tail _ hv)) fun rs hrs=>wpAny_pure (h _ (.cons hr hrs))))
theorem first_eq (v:Value):firstOfTuple' v = (do
  if (<- typeOf v) != .type "tuple" then return none
  return (<- Builtin.List.listItems v)[0]?):=rfl
theorem kind_pairs {vs:List Value} {Q:SortKind -> Shared -> Prop} (h1:1 <= vs.length) (hp:∀ v ∈ vs,∃ b k,PrIn s.heap v b k) (h:Q (tuples' true) s):wpAny (model prog w) A (keyKind' vs.toArray) Q E s:=by
 rw [keyKind'_eq,List.mapM_toArray,map_eq_pure_bind]
 refine wpAny_bind (wpAny_bind (mapM_one (P:=fun _ r=>∃ (b:Int) (t:Tok),r = some (.int b t)) vs (fun v hv Q' hq=>?_) fun rs hrs=>wpAny_pure ?_))
 ·obtain ⟨b,k,a,o,t,t',n,rfl,e1,e2,e3⟩:=hp v hv
  rw [first_eq]
  refine wpAny_bind (wpAny_typeOf (T:="tuple") ⟨o,e1,e2⟩ ?_)
  rw [if_neg (by decide)]
  exact wpAny_bind (listItems_at e1 e3 (wpAny_pure (hq _ ⟨b,t,rfl⟩)))
 ·have al:∀ r ∈ rs,∃ (b:Int) (t:Tok),r = some (.int b t):=by
   clear h hp h1
   induction hrs with
   | nil=>intro r hr; cases hr
   | cons x y ih =>
    intro r hr
    rcases List.mem_cons.mp hr with rfl | hr
    ·exact x
    ·exact ih r hr
  have ln:rs.length = vs.length:=by
   clear h hp h1 al
   induction hrs with
   | nil=>rfl
   | cons x y ih=>simp [ih]
  have hall:(rs.toArray.all fun x=>x.isSome) = true:=by
   simp only [List.all_toArray,List.all_eq_true]
   intro x hx
   obtain ⟨b,t,rfl⟩:=al x hx
   rfl
  rw [if_pos hall]
  refine wpAny_bind (wpAny_rule ?_)
  rw [oneTypeOnly'_eq]
  have hfm:rs.toArray.filterMap id = (rs.filterMap id).toArray:=by simp
  rw [hfm,List.mapM_toArray,map_eq_pure_bind]
  refine wpAny_bind (wpAny_bind (wpAny_bind (mapM_one (P:=fun _ r=>r = Value.type "int") _ (fun v hv Q' hq=>?_) fun ts hts=>wpAny_pure ?_)))
  ·obtain ⟨x,hx,e⟩:=List.mem_filterMap.mp hv
   obtain ⟨b,t,rfl⟩:=al x hx
   cases e
   exact wpAny_pure (hq _ rfl)
  ·have al2:∀ r ∈ ts,r = Value.type "int":=by
    clear h hp h1
    generalize rs.filterMap id = l at hts
    induction hts with
    | nil=>intro r hr; cases hr
    | cons x y ih =>
     intro r hr
     rcases List.mem_cons.mp hr with rfl | hr
     ·exact x
     ·exact ih r hr
   have ln2:ts.length = rs.length:=by
    have:ts.length = (rs.filterMap id).length:=by
     clear h hp h1 al2
     generalize rs.filterMap id = l at hts
     induction hts with
     | nil=>rfl
     | cons x y ih=>simp [ih]
    rw [this]
    clear this hts hfm hall
    clear ln hrs
    induction rs with
    | nil=>rfl
    | cons x l ih =>
     obtain ⟨b,t,rfl⟩:=al x (.head _)
     simp only [List.filterMap_cons,id,List.length_cons]
     rw [ih fun r hr=>al r (.tail _ hr)]
   obtain ⟨r1,rr,rfl⟩:∃ r1 rr,ts = r1 :: rr:=by
    cases ts with
    | nil=>simp at ln2; omega
    | cons a b=>exact ⟨a,b,rfl⟩
   have e1:r1 = Value.type "int":=al2 r1 (.head _)
   subst e1
   have hall2:(((Value.type "int") :: rr).toArray.all fun x=>x == Value.type "int") = true:=by
    simp only [List.all_toArray,List.all_eq_true]
    intro x hx
    rw [al2 x hx]; rfl
   have h0:((Value.type "int") :: rr).toArray[0]? = some (Value.type "int"):=by simp
   rw [h0]
   simp only [hall2,if_true]
   refine wpAny_pure (wpAny_pure ?_)
   exact h
theorem kinds_pairs {vs:List Value} {h0:Heap} (hp:∀ v ∈ vs,∃ b k,PrIn s.heap v b k /\ rkC h0 v = b * 1000 + k /\ 0 <= k /\ k < 1000):Kinds prog w A s (rkC h0) vs:=fun h2=>by
 refine ⟨tuples' true,fun E Q q=>kind_pairs (by omega) (fun v hv=>?_) q,fun p q E Q mp mq h=>?_⟩
 ·obtain ⟨b,k,h,_⟩:=hp v hv
  exact ⟨b,k,h⟩
 ·have mem:∀ z ∈ (pairsOf vs).toList,z.1 ∈ vs:=fun z hz=>by
   have:z ∈ vs.zip vs:=by simpa [pairsOf] using hz
   exact (List.of_mem_zip this).1
  obtain ⟨b,k,⟨a,o,t,t',n,e0,e1,e2,e3⟩,r1,k0,k1⟩:=hp _ (mem p mp)
  obtain ⟨b',k',⟨a',o',u,u',n',f0,f1,f2,f3⟩,r2,k0',k1'⟩:=hp _ (mem q mq)
  rw [r1,r2] at h
  rw [e0,f0]
  refine keyLt_two e1 e3 f1 f3 (SeqAt.EqAt.int_int b t b' u) (SeqAt.EqAt.int_int k t' k' u') (fun _=>ltAt_int1 b b' t u) (fun _=>ltAt_int k k' t' u') ?_
  have:(if (b == b') = true then (if (k == k') = true then false else decide (k < k')) else decide (b < b')) = decide (b * 1000 + k < b' * 1000 + k'):=by
   simp only [beq_iff_eq]
   split
   ·split
    ·symm; rw [decide_eq_false_iff_not]; omega
    ·rw [decide_eq_decide]; omega
   ·rw [decide_eq_decide]; omega
  rw [this]; exact h
end
end L2
namespace L2
open PySem PySem.Spec PyProof.Rows
theorem perm_zip {α β:Type} {l:List (α × β)} {m:List β} (h:m.Perm (l.map (·.2))):∃ l':List (α × β),l'.Perm l /\ l'.map (·.2) = m:=by
 induction m generalizing l with
 | nil =>
  have:l.map (·.2) = []:=h.symm.eq_nil
  cases l with
  | nil=>exact ⟨[],.refl _,rfl⟩
  | cons a b=>simp at this
 | cons x m ih =>
  have hx:x ∈ l.map (·.2):=h.mem_iff.mp (.head _)
  obtain ⟨z,hz,rfl⟩:=List.mem_map.mp hx
  obtain ⟨l1,l2,rfl⟩:=List.append_of_mem hz
  have h2:(z.2 :: m).Perm (z.2 :: (l1 ++ l2).map (·.2)):=by
   refine h.trans ?_
   simp only [List.map_append,List.map_cons]
   exact List.perm_middle
  obtain ⟨l',p,e⟩:=ih (List.perm_cons _ |>.mp h2)
  exact ⟨z :: l',(p.cons z).trans List.perm_middle.symm,by simp [e]⟩
theorem midPre_old {h:Heap} {vs:List Value} {b:Addr} {o:Obj} (hb:h.get? b = some o):(midH (preH h vs) (h.objs.size + 1) vs).get? b = some o:=by
 have hlt:b < h.objs.size:=Heap.lt_size hb
 unfold midH preH
 rw [Heap.get?_push_ne _ _ _ (by rw [size_push',Heap.size_update,size_push',Heap.size_update,size_push']; exact Nat.ne_of_lt (Nat.lt_of_lt_of_le hlt (by lia))),Heap.get?_push_ne _ _ _ (by rw [Heap.size_update,size_push',Heap.size_update,size_push']; exact Nat.ne_of_lt (Nat.lt_of_lt_of_le hlt (by lia))),
  Heap.get?_update_ne _ _ _ _ (by exact Nat.ne_of_lt (Nat.lt_of_lt_of_le hlt (by lia))),Heap.get?_push_ne _ _ _ (by rw [Heap.size_update,size_push']; exact Nat.ne_of_lt (Nat.lt_of_lt_of_le hlt (by lia))),Heap.get?_update_ne _ _ _ _ (by exact Nat.ne_of_lt (Nat.lt_of_lt_of_le hlt (by lia))),Heap.get?_push_ne _ _ _ (by exact Nat.ne_of_lt (Nat.lt_of_lt_of_le hlt (by lia)))]
 exact hb
def rkD:PyData -> Int
 | .tuple [.int b,.int k]=>b * 1000 + k
 | _=>0
def PrV (K:PySem.W.Frag) (H:Hp) (z:V × PyData):Prop:=∃ q b k,z.1 = .ref q /\ z.2 = .tuple [.int b,.int k] /\ SqT K H q [.int b,.int k] /\ 0 <= k /\ k < 1000
section
variable {X:Cx}
theorem call_sortedP:CallR X (.builtin "sorted") (fun xs H Q=>∃ (p:Addr) (zs:List (V × PyData)),xs = [.ref p] /\ (SqL X.K H p (zs.map (·.1)) \/ SqT X.K H p (zs.map (·.1))) /\ zs.length < 64 /\ (∀ z ∈ zs,PrV X.K H z) /\
  ∀ zs':List (V × PyData),zs'.Perm zs -> zs'.Pairwise (fun a b=>rkD a.2 <= rkD b.2) -> ∀ l,H l = none -> Q (.ref l) (upd H l (.lst (zs'.map (·.1))))):=by
 intro pins s σ H xs us Q I r h
 obtain ⟨p,zs,rfl,hq,h64,hp,q⟩:=h
 obtain ⟨u,rfl,rx⟩:=vals1 r
 cases rx
 have key:∀ (its:List Value) (o:Obj) (T:String) (n:Nat),Vals (zs.map (·.1)) its -> s.heap.get? p = some o -> o.cls = .type T -> (T = "list" \/ T = "tuple") -> o.data = .seq its.toArray n -> 
   wpAny (model X.prog X.w) X.A (call (.builtin "sorted") [.ref p]) (EP X pins σ Q) X.xe s:=fun its o T n rv ho hc hT hd=>by
  have hlen:zs.length = its.length:=by simpa using rv.length
  have each:∀ x ∈ zs.zip its,RelV x.1.1 x.2 /\ ∃ b k,PrIn s.heap x.2 b k /\ x.1.2 = .tuple [.int b,.int k] /\ 0 <= k /\ k < 1000:=by
   have rel:∀ (zs:List (V × PyData)) (its:List Value),Vals (zs.map (·.1)) its -> ∀ x ∈ zs.zip its,RelV x.1.1 x.2:=by
    intro zs
    induction zs with
    | nil=>intro its _ x hx; simp at hx
    | cons z zs ih =>
     intro its r x hx
     cases r with
     | cons r1 r2 =>
      rcases List.mem_cons.mp (by simpa using hx) with rfl | hx
      ·exact r1
      ·exact ih _ r2 x hx
   intro x hx
   have r1:=rel zs its rv x hx
   obtain ⟨q',b,k,e1,e2,e3,k0,k1⟩:=hp x.1 (List.of_mem_zip hx).1
   refine ⟨r1,b,k,?_,e2,k0,k1⟩
   rw [e1] at r1
   obtain ⟨is,rs,⟨o',f1,f2,n',f3⟩,_⟩:=I.tuple e3
   cases rs with
   | cons a1 a2 =>
    cases a2 with
    | cons a3 a4 =>
     cases a4
     obtain ⟨t,rfl⟩:=a1
     obtain ⟨t',rfl⟩:=a3
     exact ⟨q',o',t,t',n',r1,f1,f2,f3⟩
  refine sorted_any (rk:=rkC s.heap) ho hc hT hd (by lia) (fun A'=>kinds_pairs fun v hv=>?_) fun y pm up=>?_
  ·obtain ⟨i,hi,rfl⟩:=List.getElem_of_mem hv
   have hz:i < zs.length:=by lia
   have mem:(zs[i],its[i]) ∈ zs.zip its:=by
    have:(zs.zip its)[i]'(by simp; lia) = (zs[i],its[i]):=by simp
    rw [<- this]; exact List.getElem_mem _
   obtain ⟨_,b,k,h1,_,k0,k1⟩:=each _ mem
   exact ⟨b,k,h1.kept fun _ _ e=>midPre_old e,h1.rk,k0,k1⟩
  ·have pml:(arrOf y).toList.Perm (its.zip its):=by
    have:=Array.perm_iff_toList_perm.mp pm
    simpa [pairsOf] using this
   have pm1:((arrOf y).toList.map (·.2)).Perm ((zs.zip its).map (·.2)):=by
    refine (pml.map _).trans ?_
    rw [List.map_snd_zip (by lia),List.map_snd_zip (by lia)]
   obtain ⟨ws,p1,p2⟩:=perm_zip pm1
   have eachw:∀ x ∈ ws,RelV x.1.1 x.2 /\ ∃ b k,PrIn s.heap x.2 b k /\ x.1.2 = .tuple [.int b,.int k] /\ 0 <= k /\ k < 1000:=fun x hx=>each x (p1.mem_iff.mp hx)
   have pz:(ws.map (·.1)).Perm zs:=by
    have:=p1.map (·.1)
    rwa [List.map_fst_zip (by lia)] at this
   have rw':Vals ((ws.map (·.1)).map (·.1)) (ws.map (·.2)):=by
    have:∀ ws:List ((V × PyData) × Value),(∀ x ∈ ws,RelV x.1.1 x.2) -> Vals ((ws.map (·.1)).map (·.1)) (ws.map (·.2)):=by
     intro ws
     induction ws with
     | nil=>intro _; exact .nil
     | cons a l ih=>intro h; exact .cons (h a (.head _)) (ih fun x hx=>h x (.tail _ hx))
    exact this ws fun x hx=>(eachw x hx).1
   have rkeq:∀ x ∈ ws,rkC s.heap x.2 = rkD x.1.2:=fun x hx=>by
    obtain ⟨_,b,k,h1,h2,_⟩:=eachw x hx
    rw [h1.rk,h2]; rfl
   have fst_snd:∀ z ∈ (arrOf y).toList,z.1 = z.2:=fun z hz=>by
    have:z ∈ its.zip its:=pml.mem_iff.mp hz
    obtain ⟨i,hi,rfl⟩:=List.getElem_of_mem this
    simp
   have szy:(arrOf y).size = its.length:=by
    have:=pml.length_eq
    simpa using this
   have pw:(ws.map (·.1)).Pairwise (fun a b=>rkD a.2 <= rkD b.2):=by
    rw [List.pairwise_map,List.pairwise_iff_getElem]
    intro i j hi hj hij
    have lw:ws.length = its.length:=by
     have:=congrArg List.length p2
     simpa [szy] using this
    have gw:∀ k (hk:k < ws.length),rkAt (rkC s.heap) (arrOf y) k = rkD ws[k].1.2:=fun k hk=>by
     have hk':k < (arrOf y).size:=by lia
     have e1:(arrOf y).toList[k]'(by simpa using hk') = (arrOf y)[k]:=by simp
     have e2:ws[k].2 = (arrOf y)[k].2:=by
      have:(ws.map (·.2))[k]'(by simpa using hk) = ((arrOf y).toList.map (·.2))[k]'(by simpa using hk'):=by simp only [p2]
      simpa using this
     have e3:(arrOf y)[k].1 = (arrOf y)[k].2:=fst_snd _ (by rw [<- e1]; exact List.getElem_mem _)
     unfold rkAt
     rw [Array.getElem?_eq_getElem hk']
     simp only [Option.map_some,Option.getD_some]
     rw [e3,<- e2]
     exact rkeq _ (List.getElem_mem _)
    have:=up i j hij (by lia)
    rwa [gw i hi,gw j hj] at this
   have ev:(arrOf y).map (·.2) = (ws.map (·.2)).toArray:=by
    apply Array.toList_inj.mp
    rw [Array.toList_map,p2]
   rw [ev]
   obtain ⟨e,he⟩:=sortedAll_at s.heap its (ws.map (·.2)).toArray
   refine ⟨.ref (s.heap.objs.size + 1),_,I.laid (a:=s.heap.objs.size + 1) (o:=.lst ((ws.map (·.1)).map (·.1))) (t':=s.toks) (fun _ _=>sortedAll_old) (Nat.le_succ _) ?_,rfl,q _ pz pw _ (I.hok.fresh (Nat.le_succ _))⟩
   refine ⟨?_,ws.map (·.2),e,rw',he⟩
   have:64 <= sizeLine:=by decide
   have:=pz.length_eq
   simp at this ⊢
   lia
 rcases hq with hq | hq
 ·obtain ⟨its,r',pl,hz⟩:=I.list hq
  obtain ⟨o,ho,hc,n,hd⟩:=pl.isList
  exact key its o "list" n r' ho hc (.inl rfl) hd
 ·obtain ⟨its,r',pl,hz⟩:=I.tuple hq
  obtain ⟨o,ho,hc,n,hd⟩:=pl
  exact key its o "tuple" n r' ho hc (.inr rfl) hd
end
def IsPr (t:PyData):Prop:=∃ b k:Int,t = .tuple [.int b,.int k] /\ 0 <= k /\ k < 1000
def lSort (t:PyData) (R:List PyData -> Prop):Prop:=lItems t fun ts=>ts.length < 64 /\ (∀ x ∈ ts,IsPr x) /\ ∀ ts':List PyData,ts'.Perm ts -> ts'.Pairwise (fun a b=>rkD a <= rkD b) -> R ts'
def dSort (d:DTE):DTA:=fun ρ n R=>d ρ n fun t n1=>lSort t fun ts=>R ts n1
section
variable {X:Cx} {e:Expr} {d:DTE} {pos p:Pos} {k:Nat}
theorem dn_sorted (hr:Room k X.A) (hm:X.mg "sorted" = none) (h:DL X e d) (hs:starEach [e] X.env = [(false,eval e X.env)]) (hg:Gl X "sorted":=by rfl):DN X (.Call (.Name "sorted" p) [e] [] pos) (dSort d):=by
 obtain ⟨ta,pa,h⟩:=h
 refine ⟨_,pe_cB call_sortedP hm boot_sorted (pb_cons pa pb_nil hs) hg,fun C ρ σ H n Q R S hd hq=>?_⟩
 refine h C ρ σ H n _ _ S hd fun t n1 v H1 r1 e1 h1 q1=>?_
 have S1:=S.on e1 h1
 have fin:∀ p vs ts,Reps X.K C.hd (Own C ρ σ) H1 vs ts -> R ts n1 -> H1 p = none -> Q (.ref p) (upd H1 p (.lst vs)):=fun p vs ts rp rr hp=>by
  have hp0:H p = none:=by
   cases z:H p with
   | none=>rfl
   | some o =>
    by_cases y:C.hd = some p
    ·obtain ⟨d,m,t,q,_⟩:=h1 p y
     rw [hp] at q; cases q
    ·rw [e1 p o z y] at hp; cases hp
  refine hq ts n1 p vs _ rr (e1.trans (ExtE.new hp)) (h1.same (same_upd hp)) hp0 upd_same ?_
  refine rp.mono (fun b o hb z=>z.elim id fun z=>?_) fun b o _ hb=>same_upd hp b o hb
  subst z; rw [hp] at hb; cases hb
 have go:∀ (p:Addr) vs ts,(SqL X.K H1 p vs \/ SqT X.K H1 p vs) -> Reps X.K C.hd (Own C ρ σ) H1 vs ts -> (ts.length < 64 /\ (∀ x ∈ ts,IsPr x) /\ ∀ ts':List PyData,ts'.Perm ts -> ts'.Pairwise (fun a b=>rkD a <= rkD b) -> R ts' n1) ->
   ∃ (p':Addr) (zs:List (V × PyData)),[V.ref p] = [V.ref p'] /\ (SqL X.K H1 p' (zs.map (·.1)) \/ SqT X.K H1 p' (zs.map (·.1))) /\ zs.length < 64 /\ (∀ z ∈ zs,PrV X.K H1 z) /\
  ∀ zs':List (V × PyData),zs'.Perm zs -> zs'.Pairwise (fun a b=>rkD a.2 <= rkD b.2) -> ∀ l,H1 l = none -> Q (.ref l) (upd H1 l (.lst (zs'.map (·.1)))):=fun p vs ts hs rp h=>by
  have ln:=rp.length
  have rel:∀ z ∈ vs.zip ts,Rep X.K C.hd (Own C ρ σ) H1 z.1 z.2:=fun z hz=>by
   obtain ⟨i,hi,rfl⟩:=List.getElem_of_mem hz
   have hi2:i < ts.length:=by simp at hi; lia
   obtain ⟨v,h1,h2⟩:=rp.get (List.getElem?_eq_getElem hi2)
   have hi1:i < vs.length:=by lia
   rw [List.getElem?_eq_getElem hi1] at h1
   cases h1
   simpa using h2
  refine ⟨p,vs.zip ts,rfl,?_,by simp; lia,fun z hz=>?_,fun zs' pm pw l hl=>?_⟩
  ·rw [List.map_fst_zip (by lia)]; exact hs
  ·obtain ⟨b,k,e,k0,k1⟩:=h.2.1 z.2 (List.of_mem_zip hz).2
   have r:=rel z hz
   rw [e] at r
   obtain ⟨a,ws,e1,e2,e3⟩:=r.tupI
   cases e3 with
   | cons x1 x2 =>
    cases x2 with
    | cons x3 x4 =>
     cases x4
     rw [x1.intI,x3.intI] at e2
     exact ⟨a,b,k,e1,e,e2,k0,k1⟩
  ·refine fin l _ (zs'.map (·.2)) ?_ (h.2.2 _ ?_ ?_) hl
   ·have:∀ zs:List (V × PyData),(∀ z ∈ zs,Rep X.K C.hd (Own C ρ σ) H1 z.1 z.2) -> Reps X.K C.hd (Own C ρ σ) H1 (zs.map (·.1)) (zs.map (·.2)):=by
     intro zs
     induction zs with
     | nil=>intro _; exact .nil
     | cons a l ih=>intro h; exact .cons (h a (.head _)) (ih fun x hx=>h x (.tail _ hx))
    exact this zs' fun z hz=>rel z (pm.mem_iff.mp hz)
   ·have:=pm.map (·.2)
    rwa [List.map_snd_zip (by lia)] at this
   ·rw [List.pairwise_map]; exact pw
 cases t with
 | list ts =>
  obtain ⟨p,vs,rfl,h1',h2⟩:=q1.lstI
  exact go p vs ts (.inl (.of h1')) h2 r1
 | tuple ts =>
  obtain ⟨p,vs,rfl,h1',h2⟩:=q1.tupI
  exact go p vs ts (.inr h1') h2 r1
 | _=>exact r1.elim
end
end L2
namespace L2
open PySem PySem.Spec PyProof.Rows
abbrev prD (b:Int × Int):PyData:=.tuple [.int b.1,.int b.2]
def pD (bs:List (Int × Int)):List PyData:=bs.map prD
theorem pD_len {bs:List (Int × Int)}:(pD bs).length = bs.length:=by simp [pD]
theorem pD_app {bs cs:List (Int × Int)}:pD bs ++ pD cs = pD (bs ++ cs):=by simp [pD]
theorem pD_one {i h:Int} {bs:List (Int × Int)}:pD bs ++ [.tuple [.int i,.int h]] = pD (bs ++ [(i,h)]):=by simp [pD]
theorem pD_get {bs:List (Int × Int)} {k:Nat} {t:PyData} (h:(pD bs)[k]? = some t):∃ i g:Int,bs[k]? = some (i,g) /\ t = .tuple [.int i,.int g]:=by
 unfold pD at h
 rw [List.getElem?_map] at h
 cases e:bs[k]? with
 | none=>rw [e] at h; cases h
 | some b=>rw [e] at h; cases h; exact ⟨b.1,b.2,rfl,rfl⟩
def eB (b:Int × Int):Int:=b.1 + 2 ^ b.2.toNat
def Bks (bits:Int) (bs:List (Int × Int)):Prop:=∀ b ∈ bs,IsBk bits b.1 b.2
def Ptc (bits:Int) (bs:List (Int × Int)):Prop:=Bks bits bs /\ bs.Pairwise fun a b=>eB a <= b.1
theorem eB_pos (b:Int × Int):b.1 < eB b:=by have:=Bd.two_pos b.2.toNat; unfold eB; lia
theorem Ptc.ends {bits:Int} {bs:List (Int × Int)} (P:Ptc bits bs):bs.Pairwise fun a b=>eB a <= eB b:=P.2.imp fun {a b} h=>by have:=eB_pos b; lia
theorem okd_pD {bs:List (Int × Int)}:Okd (.list (pD bs)):=by
 have:∀ bs:List (Int × Int),PyData.canLayAll0 (pD bs) = true /\ PyData.depthAll (pD bs) <= 1:=by
  intro bs
  induction bs with
  | nil=>exact ⟨by simp [pD,PyData.canLayAll0],by simp [pD,PyData.depthAll]⟩
  | cons b l ih =>
   refine ⟨?_,?_⟩
   ·have:=ih.1
    simp only [pD,List.map_cons,PyData.canLayAll0,PyData.canLay0,Bool.and_true,Bool.true_and] at this ⊢
    exact this
   ·have:=ih.2
    simp only [pD,List.map_cons,PyData.depthAll,PyData.depth] at this ⊢
    lia
 exact ⟨by simp only [PyData.canLay0]; exact (this bs).1,by simp only [PyData.depth]; have:=(this bs).2; lia⟩
theorem okd_nil:Okd (.list []):=⟨by simp [PyData.canLay0,PyData.canLayAll0],by simp [PyData.depth,PyData.depthAll]⟩
theorem i_dSort {d:DTE} {ρ:En} {n:Nat} {Rl:List PyData -> Nat -> Prop} (h:d ρ n fun t n1=>lSort t fun ts=>Rl ts n1):dSort d ρ n Rl:=h
theorem j_sort {bits:Int} {bs:List (Int × Int)} {Rl:List PyData -> Prop} (hb:bits <= 64) (B:Bks bits bs) (dis:bs.Pairwise fun a b=>eB a <= b.1 \/ eB b <= a.1) (h64:bs.length < 64)
  (h:∀ cs,Ptc bits cs -> cs.Perm bs -> Rl (pD cs)):lSort (.list (pD bs)) Rl:=by
 refine ⟨by rw [pD_len]; exact h64,fun x hx=>?_,fun ts' pm pw=>?_⟩
 ·obtain ⟨b,hb',rfl⟩:=List.mem_map.mp hx
  have:=B b hb'
  exact ⟨b.1,b.2,rfl,this.1,by have:=this.2.1; lia⟩
 ·have pm':ts'.Perm ((bs.map fun b=>(b,prD b)).map (·.2)):=by
   have:(bs.map fun b=>(b,prD b)).map (·.2) = pD bs:=by simp [pD]
   rw [this]; exact pm
  obtain ⟨zs,p1,p2⟩:=perm_zip pm'
  have ez:∀ z ∈ zs,z.2 = prD z.1:=fun z hz=>by
   obtain ⟨b,_,rfl⟩:=List.mem_map.mp (p1.mem_iff.mp hz)
   rfl
  have e:ts' = pD (zs.map (·.1)):=by
   rw [<- p2]
   unfold pD
   rw [List.map_map]
   exact List.map_congr_left fun z hz=>ez z hz
  have pc:(zs.map (·.1)).Perm bs:=by
   have:=p1.map (·.1)
   rw [List.map_map] at this
   have e2:bs.map ((fun x:(Int × Int) × PyData=>x.1) ∘ fun b=>(b,prD b)) = bs:=by
    show bs.map id = bs
    exact List.map_id _
   rwa [e2] at this
  rw [e]
  have dis':(zs.map (·.1)).Pairwise fun a b=>eB a <= b.1 \/ eB b <= a.1:=(pc.pairwise_iff (fun {a b} h=>h.symm)).mpr dis
  have B':Bks bits (zs.map (·.1)):=fun b hb=>B b (pc.mem_iff.mp hb)
  rw [e] at pw
  unfold pD at pw
  rw [List.pairwise_map] at pw
  refine h _ ⟨B',?_⟩ pc
  have both:=List.Pairwise.and dis' pw
  refine List.Pairwise.imp_of_mem ?_ both
  rintro a b ha hb ⟨h1,h2⟩
  have h2:a.1 * 1000 + a.2 <= b.1 * 1000 + b.2:=h2
  have a0:=(B' a ha).1
  have a1:=(B' a ha).2.1
  have b0:=(B' b hb).1
  have b1:=(B' b hb).2.1
  have:=eB_pos a
  have:=eB_pos b
  lia
theorem compI {tg:DTG} {tt:DTT} {d:DTE} {ρ0:En} {Rl:List PyData -> Nat -> Prop} (Inv:Nat -> List PyData -> Nat -> Prop):∀ (xs:List PyData) (i:Nat) {acc:List PyData} {n:Nat},Inv i acc n ->
  (∀ (k:Nat) (x:PyData) (acc:List PyData) (n:Nat) (K:List PyData -> Nat -> Prop),xs[k]? = some x -> Inv (i + k) acc n -> (∀ acc' n',Inv (i + k + 1) acc' n' -> K acc' n') ->
   tg x ρ0 fun ρ1=>tt ρ1 n fun b n2=>if b = true then d ρ1 n2 fun t n3=>acc.length < 16777216 /\ K (acc ++ [t]) n3 else K acc n2) ->
  (∀ acc n,Inv (i + xs.length) acc n -> Rl acc n) -> compGo tg tt d ρ0 xs acc n Rl
 | [],i,acc,n,h0,_,fin=>fin acc n (by simpa using h0)
 | x :: xs,i,acc,n,h0,turn,fin=>by
  refine turn 0 x acc n (fun acc n=>compGo tg tt d ρ0 xs acc n Rl) rfl (by simpa using h0) fun acc' n' h'=>?_
  refine compI Inv xs (i + 1) (by simpa using h') (fun k u acc n K e hI hK=>?_) (fun acc n h=>fin acc n ?_)
  ·refine turn (k + 1) u acc n K (by simpa using e) ?_ fun acc' n' h'=>hK acc' n' ?_
   ·have:i + (k + 1) = i + 1 + k:=by lia
    rw [this]; exact hI
   ·have:i + 1 + k + 1 = i + (k + 1) + 1:=by lia
    rw [this]; exact h'
  ·have:i + (x :: xs).length = i + 1 + xs.length:=by simp; lia
   rw [this] at *; exact h
theorem compI0 {tg:DTG} {tt:DTT} {d:DTE} {ρ0:En} {Rl:List PyData -> Nat -> Prop} {xs:List PyData} {n:Nat} (Inv:Nat -> List PyData -> Nat -> Prop) (h0:Inv 0 [] n)
  (turn:∀ (k:Nat) (x:PyData) (acc:List PyData) (n:Nat) (K:List PyData -> Nat -> Prop),xs[k]? = some x -> Inv k acc n -> (∀ acc' n',Inv (k + 1) acc' n' -> K acc' n') ->
   tg x ρ0 fun ρ1=>tt ρ1 n fun b n2=>if b = true then d ρ1 n2 fun t n3=>acc.length < 16777216 /\ K (acc ++ [t]) n3 else K acc n2)
  (fin:∀ acc n,Inv xs.length acc n -> Rl acc n):compGo tg tt d ρ0 xs [] n Rl :=
 compI Inv xs 0 h0 (fun k x acc n K e hI hK=>turn k x acc n K e (by simpa using hI) fun a m h=>hK a m (by simpa using h)) fun acc n h=>fin acc n (by simpa using h)
theorem comp_pure {α:Type} {cs:List α} {D:α -> PyData} {tg:DTG} {tt:DTT} {d:DTE} {ρ0:En} {n:Nat} {Rl:List PyData -> Nat -> Prop} (F:α -> PyData) (hl:cs.length <= 16777216)
  (step:∀ b ∈ cs,∀ (K:PyData -> Nat -> Prop) (X:Nat -> Prop),K (F b) n -> tg (D b) ρ0 fun ρ1=>tt ρ1 n fun c n2=>if c = true then d ρ1 n2 K else X n2) (fin:Rl (cs.map F) n):compGo tg tt d ρ0 (cs.map D) [] n Rl:=by
 refine compI0 (fun j acc m=>m = n /\ acc = (cs.take j).map F) ⟨rfl,rfl⟩ ?_ ?_
 ·rintro j x acc m K ej ⟨rfl,rfl⟩ hK
  rw [List.getElem?_map] at ej
  cases eb:cs[j]? with
  | none=>rw [eb] at ej; cases ej
  | some b =>
   rw [eb] at ej; cases ej
   obtain ⟨hj,e2⟩:=List.getElem?_eq_some_iff.mp eb
   refine step b (List.mem_of_getElem? eb) _ _ ⟨?_,hK _ _ ⟨rfl,?_⟩⟩
   ·simp; lia
   ·rw [List.take_succ,eb]; simp
 ·rintro acc m ⟨rfl,rfl⟩
  rw [List.length_map,List.take_length]
  exact fin
theorem i_all {bs:List Bool} {R:PyData -> Prop} (h:R (.bool (bs.all id))):bAll [.list (bs.map PyData.bool)] R:=⟨bs,rfl,h⟩
theorem i_allB {α:Type} {cs:List α} {f:α -> Bool} {R:PyData -> Prop} (h:R (.bool (cs.all f))):bAll [.list (cs.map fun b=>PyData.bool (f b))] R:=by
 have e:(cs.map fun b=>PyData.bool (f b)) = (cs.map f).map PyData.bool:=by simp
 rw [e]
 refine i_all ?_
 have e2:(cs.map f).all id = cs.all f:=by simp [List.all_map,Function.comp_def]
 rw [e2]; exact h
theorem j_ixN {xs:List PyData} {k:Nat} {x:PyData} {R:PyData -> Prop} (e:xs[k]? = some x) (h:R x):oIx (.tuple xs) (.int (k:Int)) R:=by
 have hk:k < xs.length:=by
  rcases Nat.lt_or_ge k xs.length with z | z
  ·exact z
  ·rw [List.getElem?_eq_none z] at e; cases e
 rw [l_ixT (x:=x)]
 ·exact h
 ·unfold atI ixN
  have:((0:Int) <= (k:Int)):=by lia
  have:((k:Int) < (xs.length:Int)):=by lia
  have e2:xs[k] = x:=by rw [List.getElem?_eq_getElem hk] at e; exact Option.some.inj e
  simp [hk,e2]
theorem j_ixE {xs:List PyData} {i:Int} {k:Nat} {x:PyData} {R:PyData -> Prop} (hi:i = (k:Int)) (e:xs[k]? = some x) (h:R x):oIx (.tuple xs) (.int i) R:=by subst hi; exact j_ixN e h
theorem pD_at {bs:List (Int × Int)} {k:Nat} {b:Int × Int} (h:bs[k]? = some b):(pD bs)[k]? = some (.tuple [.int b.1,.int b.2]):=by
 unfold pD; rw [List.getElem?_map,h]; rfl
theorem eqv_nil {bs:List (Int × Int)}:PyData.eqv (.list (pD bs)) (.list []) = bs.isEmpty:=by
 cases bs with
 | nil=>simp [pD,PyData.eqv,PyData.eqvAll]
 | cons b l=>simp [pD,PyData.eqv,PyData.eqvAll]
theorem c_take {many:Int} {n:Nat} {R:PyData -> Nat -> Prop} (h0:0 < many) (h1:many < 2 ^ 128) (hn:n <= 1000000000000) (h:∀ r:Int,0 <= r -> r < many -> R (.int r) (n + 1)):g_take [HAND,.int many] n R:=⟨rfl,h0,h1,hn,h⟩
theorem nolst_pair {i h:Int}:noLst (.tuple [.int i,.int h]) = true:=by simp [noLst,noLsts]
theorem Bks.app {bits i h:Int} {bs:List (Int × Int)} (B:Bks bits bs) (C:IsBk bits i h):Bks bits (bs ++ [(i,h)]):=fun b hb=>by
 rcases List.mem_append.mp hb with z | z
 ·exact B b z
 ·cases List.mem_singleton.mp z; exact C
end L2
namespace L2
open PySem PySem.Spec PyProof.Rows
section
variable {prog:Program} {w:World} {A:Around} {E:Value -> Shared -> Prop} {s:Shared}
open HT in
theorem getItem_tuple_whole {t sl:Addr} {items:Array Value} {vl vu:Value} {lo hi:Option Int} {Q:Value -> Shared -> Prop} (ht:IsTup s.heap t items) (hs:s.heap.IsSliceOf sl vl vu .none) (pl:IsPart vl lo) (pu:IsPart vu hi)
  (hw:HT.sIx items.size 0 lo = 0 /\ HT.sIx items.size items.size hi = items.size) (h:Q (.ref t) s):wpAny (model prog w) A (getItem (.ref t) (.ref sl)) Q E s:=by
 obtain ⟨os,hos,hcs,hds⟩:=id hs
 have hTs:s.TypeIs (.ref sl) "slice":=⟨os,hos,hcs⟩
 unfold getItem
 try with_reducible refine wpAny_holding ?_
 first | refine wpAny_bind (wpAny_pure ?_) | skip
 refine wpAny_bind (wpAny_sequenceKey ht.typeIs (by decide) ?_)
 refine wpAny_bind (wpAny_callSpecial?_slot (name:=Str.ofString "__getitem__") ht.typeIs PyProof.Rows.slot_tuple_getitem
  (wpAny_call_entry PyProof.Rows.slot_tuple_getitem ht.typeIs entry_tuple_getitem ?_ (args_tuple_getitem _ _)))
 show wpAny _ _ (Builtin.Tuple.tupleItemsOf (.ref t) >>= _) _ _ s
 refine wpAny_bind (tupleItemsOf_ ht ?_)
 refine wpAny_bind (wpAny_typeOf hTs ?_)
 rw [if_pos (by decide)]
 refine wpAny_bind (HT.sliceApplied_gen hs pl pu ?_)
 have hyes:(((HT.sIx items.size 0 lo:Nat):Int) == 0 && (1:Int) == 1 && (HT.sIx items.size items.size hi - HT.sIx items.size 0 lo) == items.size) = true:=by
  rw [hw.1,hw.2]; simp
 show wpAny _ _ (if (((HT.sIx items.size 0 lo:Nat):Int) == 0 && (1:Int) == 1 && (HT.sIx items.size items.size hi - HT.sIx items.size 0 lo) == items.size) = true then _ else _) _ _ s
 rw [if_pos hyes]
 unfold Builtin.Tuple.tupleIsExact
 refine wpAny_bind (wpAny_bind (wpAny_typeOf ht.typeIs (wpAny_pure ?_)))
 rw [if_pos (by decide)]
 exact wpAny_bind (wpAny_rule (wpAny_pure ⟨_,rfl,wpAny_pure h⟩))
end
section
variable {X:Cx}
def rSlW (K:PySem.W.Frag):V -> Option Int -> Option Int -> Hp -> VK -> Prop:=fun x lo hi H Q=>∃ a xs,x = .ref a /\ SqT K H a xs /\ (HT.sIx xs.length 0 lo = 0 /\ HT.sIx xs.length xs.length hi = xs.length) /\ Q (.ref a) H
theorem sl_tupW:SlR X (rSlW X.K):=by
 intro pins s σ H x v vl vu lo hi sl Q I rx hs pl pu h
 obtain ⟨a,xs,rfl,hx,hw,q⟩:=h
 cases rx
 obtain ⟨its,r,ht,hz⟩:=I.tuple hx
 have hlen:its.toArray.size = xs.length:=by rw [List.size_toArray]; exact r.length.symm
 refine ⟨"tuple",_,PyProof.Rows.slot_tuple_getitem.lookup,ht.typeIs,?_⟩
 exact getItem_tuple_whole ht hs pl pu (by rw [hlen]; exact hw) ⟨.ref a,H,I,rfl,q⟩
end
abbrev DTO:=En -> Nat -> (Option Int -> Nat -> Prop) -> Prop
def DP (X:Cx) (e:Option Expr) (d:DTO):Prop:=∃ t,PO X e t /\ ∀ (C:Ctx) (ρ:En) (σ:St) (H:Hp) (n:Nat) (Q:Option Int -> Hp -> Prop) (R:Option Int -> Nat -> Prop),Stt X.K C ρ σ H n -> d ρ n R ->
 (∀ o n' H',R o n' -> ExtE C.hd H H' -> Hn C.hd H' n' -> Q o H') -> t σ H Q
def dNoPart:DTO:=fun ρ n R=>R none n
def dPart (d:DTE):DTO:=fun ρ n R=>d ρ n fun t n'=>lInt t fun i=>R (some i) n'
def cutD (ts:List PyData) (lo hi:Option Int):List PyData:=(ts.drop (HT.sIx ts.length 0 lo)).take (HT.sIx ts.length ts.length hi - HT.sIx ts.length 0 lo)
def lSl (t:PyData) (lo hi:Option Int) (R:List PyData -> Prop):Prop:=match t with
 | .list ts=>R (cutD ts lo hi)
 | _=>False
def dSlL (d:DTE) (dl du:DTO):DTA:=fun ρ n R=>d ρ n fun t n1=>dl ρ n1 fun lo n2=>du ρ n2 fun hi n3=>lSl t lo hi fun z=>R z n3
section
variable {X:Cx} {e:Expr} {d:DTE} {lo hi:Option Expr} {dlo dhi:DTO} {pos p2:Pos}
theorem dp_none:DP X none dNoPart:=⟨_,po_none,fun C ρ σ H n Q R S h hq=>hq none n H h ExtE.refl S.hnd⟩
theorem dp_some (h:DE X e d):DP X (some e) (dPart d):=by
 obtain ⟨ta,pa,h⟩:=h
 refine ⟨_,po_some pa,fun C ρ σ H n Q R S hd hq=>?_⟩
 refine h C ρ σ H n _ _ S hd fun t n1 v H1 r1 e1 h1 q1=>?_
 cases t with
 | int i =>
  cases q1
  exact ⟨i,rfl,hq (some i) n1 H1 r1 e1 h1⟩
 | _=>exact r1.elim
theorem cut_reps {K:PySem.W.Frag} {hd:Option Addr} {O:Addr -> Prop} {H:Hp} {vs ts} (r:Reps K hd O H vs ts) (lo hi:Option Int):Reps K hd O H (cutV vs lo hi) (cutD ts lo hi):=by
 unfold cutV cutD
 rw [r.length]
 exact (r.drop _).take _
theorem cutD_whole {ts:List PyData} {lo hi:Option Int} (h:HT.sIx ts.length 0 lo = 0 /\ HT.sIx ts.length ts.length hi = ts.length):cutD ts lo hi = ts:=by
 unfold cutD; rw [h.1,h.2]; simp
theorem dn_slice (h:DL X e d) (hl:DP X lo dlo) (hu:DP X hi dhi):DN X (.Subscript e (.Slice lo hi none p2) pos) (dSlL d dlo dhi):=by
 obtain ⟨ta,pa,h⟩:=h
 obtain ⟨tl,pl,hl⟩:=hl
 obtain ⟨tu,pu,hu⟩:=hu
 refine ⟨_,pe_slice sl_list pa pl pu,fun C ρ σ H n Q R S hd hq=>?_⟩
 refine h C ρ σ H n _ _ S hd fun t n1 v H1 r1 e1 h1 q1=>?_
 have S1:=S.on e1 h1
 refine hl C ρ σ H1 n1 _ _ S1 r1 fun lo n2 H2 r2 e2 h2=>?_
 have S2:=S1.on e2 h2
 refine hu C ρ σ H2 n2 _ _ S2 r2 fun hi n3 H3 r3 e3 h3=>?_
 have S3:=S2.on e3 h3
 have q3:=(e2.trans e3).repT S.hx q1
 cases t with
 | list ts =>
  obtain ⟨a,vs,rfl,hs,rs⟩:=q3.lstI
  refine ⟨a,vs,rfl,.of hs,fun p hp=>?_⟩
  have e:=e1.trans (e2.trans e3)
  refine hq _ n3 p _ _ r3 (e.trans (ExtE.new hp)) (h3.same (same_upd hp)) (hp_back e h3 hp) upd_same ?_
  refine (cut_reps rs lo hi).mono (fun b o hb z=>z.elim id fun z=>?_) fun b o _ hb=>same_upd hp b o hb
  subst z; rw [hp] at hb; cases hb
 | _=>exact r3.elim
end
end L2
namespace L2
open PySem PySem.Spec PyProof.Rows
structure NxS (prog:Program) (w:World) (i a:Addr) (IT:Nat -> Heap -> Prop) (SQ:Heap -> Array Value -> Prop):Prop where
 rcd:∀ k h,IT k h -> ∃ o,h.get? i = some o /\ ∀ v,o.data ≠ .cell v
 keep:∀ k h h',IT k h -> (∀ o,h.get? i = some o -> h'.get? i = some o) -> IT k h'
 sk:∀ h h' xs,SQ h xs -> (∀ o,h.get? a = some o -> h'.get? a = some o) -> SQ h' xs
 item:∀ (A:Around) (E:Value -> Shared -> Prop) (k:Nat) (xs:Array Value) (x:Value) (s:Shared) (Q:Value -> Shared -> Prop),IT k s.heap -> SQ s.heap xs -> xs[k]? = some x ->
  (∀ h',IT (k + 1) h' -> Heap.SameBut i s.heap h' -> Q x { s with heap:=h' }) -> wpAny (model prog w) A (Builtin.SmallTypes.nextOf (.ref i)) Q E s
 done:∀ (A:Around) (E:Value -> Shared -> Prop) (k:Nat) (xs:Array Value) (s:Shared) (Q:Value -> Shared -> Prop),A.handled = none -> IT k s.heap -> SQ s.heap xs -> xs[k]? = none ->
  (∀ h' e,Heap.ExtBut i s.heap h' -> (∃ o,h'.get? e = some o /\ o.cls = .type "StopIteration") -> E (.ref e) { s with heap:=h' }) -> wpAny (model prog w) A (Builtin.SmallTypes.nextOf (.ref i)) Q E s
end L2
namespace L2
open PySem PySem.Spec PyProof.Rows
structure ZAp (z TI TO i1 i2 a1 a2:Addr):Prop where
 p:[z,TI,TO,i1,i2].Nodup
 q:∀ a ∈ [a1,a2],a ∉ [z,TI,TO,i1,i2]
section
variable {prog:Program} {w:World} {A:Around} {E:Value -> Shared -> Prop} {s:Shared} {z TI TO i1 i2 a1 a2:Addr} {I1 I2:Nat -> Heap -> Prop} {S1 S2:Heap -> Array Value -> Prop}
structure ZSt (z TI TO i1 i2:Addr) (I1 I2:Nat -> Heap -> Prop) (f:Value) (k:Nat) (h:Heap):Prop where
 zip:IsZip h z TI TO f
 ti:IsPair h TI (.ref i1) (.ref i2)
 to:∃ a b,IsPair h TO a b
 it1:I1 k h
 it2:I2 k h
end
end L2
namespace L2
open PySem PySem.Spec PyProof.Rows
section
variable {d da db:DTE} {dlo dhi:DTO} {ρ:En} {n:Nat} {R:PyData -> Nat -> Prop} {Ro:Option Int -> Nat -> Prop} {Rl:List PyData -> Nat -> Prop} {xs ys:List PyData} {lo hi:Option Int} {Q:PyData -> Prop} {Ql:List PyData -> Prop}
theorem i_dSlL (h:d ρ n fun t n1=>dlo ρ n1 fun lo n2=>dhi ρ n2 fun hi n3=>lSl t lo hi fun z=>Rl z n3):dSlL d dlo dhi ρ n Rl:=h
theorem i_dNoPart (h:Ro none n):dNoPart ρ n Ro:=h
theorem i_dPart (h:d ρ n fun t n'=>lInt t fun i=>Ro (some i) n'):dPart d ρ n Ro:=h
theorem j_slL (h:Ql (cutD xs lo hi)):lSl (.list xs) lo hi Ql:=h
end
end L2
namespace L2
open PySem PySem.Spec PyProof.Rows
class Stp (P:Prop) (Q:outParam Prop):Prop where
 go:Q -> P
section
variable {t u tb:DTS} {D:DEnds} {ρ ρ0:En} {n i j m:Nat} {d da db dc d1 d2:DTE} {ds di:DTA} {c c' tt:DTT} {g:G2} {g':G2} {gc:GC} {gd:GD} {tg:DTG} {tgs:DTGs} {R:PyData -> Nat -> Prop} {Rb:Bool -> Nat -> Prop} {Rl:List PyData -> Nat -> Prop} {Re:En -> Prop} {x y:PyData} {xs ys acc:List PyData} {f:Int -> Int -> Int} {fb:PyData -> Bool} {k:Bool} {capt:List Nat}
instance s_i_sSeq :Stp (sSeq t u D ρ n) ((t { D with nx:=u D } ρ n)):=⟨fun h=>i_sSeq h⟩
instance s_i_sNext :Stp (sNext D ρ n) ((D.nx ρ n)):=⟨fun h=>i_sNext h⟩
instance s_i_sRet :Stp (sRet d D ρ n) ((d ρ n fun t n'=>D.rt t n')):=⟨fun h=>i_sRet h⟩
instance s_i_sIf :Stp (sIf c t u D ρ n) ((c ρ n fun b n1=>if b = true then t D ρ n1 else u D ρ n1)):=⟨fun h=>i_sIf h⟩
instance s_i_sAsg :Stp (sAsg d tg D ρ n) ((d ρ n fun t n'=>tg t ρ fun ρ'=>D.nx ρ' n')):=⟨fun h=>i_sAsg h⟩
instance s_i_sFor :Stp (sFor di tg tb D ρ n) ((di ρ n fun ts n1=>forP tg tb D ts ρ n1)):=⟨fun h=>i_sFor h⟩
instance s_i_dC :Stp (dC x ρ n R) ((R x n)):=⟨fun h=>i_dC h⟩
instance s_i_dOp :Stp (dOp g da db ρ n R) ((da ρ n fun x n1=>db ρ n1 fun y n2=>g x y fun z=>R z n2)):=⟨fun h=>i_dOp h⟩
instance s_i_dNew :Stp (dNew ds ρ n R) ((ds ρ n fun ts n'=>R (.list ts) n')):=⟨fun h=>i_dNew h⟩
instance s_i_dTup :Stp (dTup ds ρ n R) ((ds ρ n fun ts n1=>R (.tuple ts) n1)):=⟨fun h=>i_dTup h⟩
instance s_i_dNil :Stp (dNil ρ n Rl) ((Rl [] n)):=⟨fun h=>i_dNil h⟩
instance s_i_dCons :Stp (dCons d ds ρ n Rl) ((d ρ n fun t n1=>ds ρ n1 fun ts n2=>Rl (t :: ts) n2)):=⟨fun h=>i_dCons h⟩
instance s_i_dFn :Stp (dFn gd ds ρ n R) ((ds ρ n fun ts n1=>gd ts n1 R)):=⟨fun h=>i_dFn h⟩
instance s_i_dFnL :Stp (dFnL gd ds ρ n R) ((ds ρ n fun ts n1=>gd ts n1 fun t n2=>noLst t = true /\ R t n2)):=⟨fun h=>i_dFnL h⟩
instance s_i_dCallB :Stp (dCallB gc ds ρ n R) ((ds ρ n fun ts n1=>gc ts fun z=>R z n1)):=⟨fun h=>i_dCallB h⟩
instance s_i_dAnd :Stp (dAnd c c' ρ n Rb) ((c ρ n fun b n1=>if b = true then c' ρ n1 Rb else Rb false n1)):=⟨fun h=>i_dAnd h⟩
instance s_i_dOr :Stp (dOr c c' ρ n Rb) ((c ρ n fun b n1=>if b = true then Rb true n1 else c' ρ n1 Rb)):=⟨fun h=>i_dOr h⟩
instance s_i_dOrV :Stp (dOrV da db ρ n R) ((da ρ n fun t n1=>bolD t fun b=>if b = true then R (.bool true) n1 else db ρ n1 R)):=⟨fun h=>i_dOrV h⟩
instance s_i_dTru :Stp (dTru d ρ n Rb) ((d ρ n fun t n'=>truD t fun b=>Rb b n')):=⟨fun h=>i_dTru h⟩
instance s_i_dYes :Stp (dYes ρ n Rb) ((Rb true n)):=⟨fun h=>i_dYes h⟩
instance s_i_tgTup :Stp (tgTup tgs (.tuple xs) ρ Re) ((tgs xs ρ Re)):=⟨fun h=>i_tgTup h⟩
instance s_i_tgNil :Stp (tgNil [] ρ Re) ((Re ρ)):=⟨fun h=>i_tgNil h⟩
instance s_i_tgCons :Stp (tgCons tg tgs (x :: xs) ρ Re) ((tg x ρ fun ρ'=>tgs xs ρ' Re)):=⟨fun h=>i_tgCons h⟩
instance s_i_dTest :Stp (dTest d ρ n Rb) ((d ρ n fun t n'=>bolD t fun b=>Rb b n')):=⟨fun h=>i_dTest h⟩
instance s_i_dCat :Stp (dCat da db ρ n Rl) ((da ρ n fun x n1=>db ρ n1 fun y n2=>lCat x y fun zs=>Rl zs n2)):=⟨fun h=>i_dCat h⟩
instance s_i_dItL :Stp (dItL d ρ n Rl) ((d ρ n fun t n'=>lLst t fun ts=>Rl ts n')):=⟨fun h=>i_dItL h⟩
instance s_i_dItT :Stp (dItT d ρ n Rl) ((d ρ n fun t n'=>lTup t fun ts=>Rl ts n')):=⟨fun h=>i_dItT h⟩
instance s_i_dRng1 :Stp (dRng1 d ρ n Rl) ((d ρ n fun t n'=>lInt t fun j=>(-(2 ^ 62) <= j /\ j < 2 ^ 62) /\ Rl (rangeD 0 j.toNat) n')):=⟨fun h=>i_dRng1 h⟩
instance s_i_dNeg :Stp (dNeg d ρ n R) ((d ρ n fun t n'=>lInt t fun i=>R (.int (-i)) n')):=⟨fun h=>i_dNeg h⟩
instance s_i_dChain :Stp (dChain g g' da db dc ρ n R) ((da ρ n fun x n1=>db ρ n1 fun y n2=>g x y fun z=>bolD z fun b=>if b = true then dc ρ n2 fun w n3=>g' y w fun z=>R z n3 else R (.bool false) n2)):=⟨fun h=>i_dChain h⟩
instance s_i_iteN {b:Bool} {A B:Prop}:Stp (if (!b) = true then A else B) ((if b = true then B else A)):=⟨fun h=>i_iteN h⟩
end
section
variable {C:Int -> Int -> Prop} {f:Int -> Int -> Int} {fb:Int -> Int -> Bool} {i j k:Int} {R:PyData -> Prop} {Rb:Bool -> Prop} {xs ys:List PyData} {s t:Str} {a b:Bool} {u v x y:PyData} {Rn:PyData -> Nat -> Prop} {n:Nat}
instance s_j_addI :Stp (oAdd (.int i) (.int j) R) ((R (.int (i + j)))):=⟨fun h=>j_addI h⟩
instance s_j_addS :Stp (oAdd (.str s) (.str t) R) (((s.length + t.length <= 16777216 /\ R (.str (s ++ t))))):=⟨fun h=>j_addS h⟩
instance s_j_addT :Stp (oAdd (.tuple xs) (.tuple ys) R) (((xs.length + ys.length <= 16777216 /\ R (.tuple (xs ++ ys))))):=⟨fun h=>j_addT h⟩
instance s_j_eqI :Stp (oEq (.int i) (.int j) R) ((R (.bool (decide (i = j))))):=⟨fun h=>j_eqI h⟩
instance s_j_eqL :Stp (oEq (.list xs) (.list ys) R) (((Okd (.list xs) /\ Okd (.list ys) /\ R (.bool (PyData.eqv (.list xs) (.list ys)))))):=⟨fun h=>j_eqL h⟩
instance s_j_neS :Stp (oNe (.str s) (.str t) R) ((R (.bool (!decide (s = t))))):=⟨fun h=>j_neS h⟩
instance s_j_neL :Stp (oNe (.list xs) (.list ys) R) (((Okd (.list xs) /\ Okd (.list ys) /\ R (.bool (!PyData.eqv (.list xs) (.list ys)))))):=⟨fun h=>j_neL h⟩
instance s_j_isntN :Stp (oIsN u .none R) ((R (.bool (!isNone u)))):=⟨fun h=>j_isntN h⟩
instance s_j_ltI :Stp (oLtA (.int i) (.int j) R) ((R (.bool (decide (i < j))))):=⟨fun h=>j_ltI h⟩
instance s_j_leI :Stp (oLeA (.int i) (.int j) R) ((R (.bool (decide (i <= j))))):=⟨fun h=>j_leI h⟩
instance s_j_ixT0 :Stp (oIx (.tuple (u :: xs)) (.int 0) R) ((R u)):=⟨fun h=>j_ixT0 h⟩
instance s_j_ixT1 :Stp (oIx (.tuple (u :: v :: xs)) (.int 1) R) ((R v)):=⟨fun h=>j_ixT1 h⟩
instance s_j_ixT2 {w:PyData}:Stp (oIx (.tuple (u :: v :: w :: xs)) (.int 2) R) ((R w)):=⟨fun h=>j_ixT2 h⟩
instance s_j_truB :Stp (truD (.bool a) Rb) ((Rb a)):=⟨fun h=>j_truB h⟩
instance s_j_truL :Stp (truD (.list xs) Rb) ((Rb (!xs.isEmpty))):=⟨fun h=>j_truL h⟩
instance s_j_bol :Stp (bolD (.bool a) Rb) ((Rb a)):=⟨fun h=>j_bol h⟩
instance s_j_lenT :Stp (bLen [.tuple xs] R) ((R (.int xs.length))):=⟨fun h=>j_lenT h⟩
instance s_j_lenS :Stp (bLen [.str s] R) (((s.length <= 16777216 /\ R (.int s.length)))):=⟨fun h=>j_lenS h⟩
instance s_j_lenSCR {ns:List Int}:Stp (bLen [SCR ns] R) ((R (.int ns.length))):=⟨fun h=>j_lenSCR h⟩
instance s_j_min :Stp (bMin [.int i,.int j] R) ((R (.int (if j < i then j else i)))):=⟨fun h=>j_min h⟩
instance s_j_max :Stp (bMax [.int i,.int j] R) ((R (.int (if j > i then j else i)))):=⟨fun h=>j_max h⟩
instance s_j_intB :Stp (bInt [.bool a] R) ((R (.int (if a then 1 else 0)))):=⟨fun h=>j_intB h⟩
instance s_j_tupleL :Stp (bTuple [.list xs] R) ((R (.tuple xs))):=⟨fun h=>j_tupleL h⟩
instance s_j_repr :Stp (bRepr [u] R) (((Shd u /\ R (.str u.shown)))):=⟨fun h=>j_repr h⟩
instance s_j_items {Rl:List PyData -> Prop}:Stp (lItems (.list xs) Rl) ((Rl xs)):=⟨fun h=>j_items h⟩
instance s_j_cat {Q:List PyData -> Prop}:Stp (lCat (.list xs) (.list ys) Q) (((xs.length + ys.length <= 16777216 /\ Q (xs ++ ys)))):=⟨fun h=>j_cat h⟩
instance s_j_lst {Q:List PyData -> Prop}:Stp (lLst (.list xs) Q) ((Q xs)):=⟨fun h=>j_lst h⟩
instance s_j_tup {Q:List PyData -> Prop}:Stp (lTup (.tuple xs) Q) ((Q xs)):=⟨fun h=>j_tup h⟩
instance s_j_int {i:Int} {Q:Int -> Prop}:Stp (lInt (.int i) Q) ((Q i)):=⟨fun h=>j_int h⟩
instance s_j_mul :Stp (oMul (.int i) (.int j) R) ((CMul i j) /\ (R (.int (i * j)))):=⟨fun h=>j_mul h.1 h.2⟩
instance s_j_mod :Stp (oMod (.int i) (.int j) R) ((0 < j) /\ (R (.int (i % j)))):=⟨fun h=>j_mod h.1 h.2⟩
instance s_j_fdiv :Stp (oFdiv (.int i) (.int j) R) ((CDivB i j) /\ (R (.int (i / j)))):=⟨fun h=>j_fdiv h.1 h.2⟩
instance s_j_shl :Stp (oShl (.int i) (.int j) R) ((CPow i j) /\ (R (.int (i * 2 ^ j.toNat)))):=⟨fun h=>j_shl h.1 h.2⟩
instance s_j_sub :Stp (oSub (.int i) (.int j) R) ((R (.int (i - j)))):=⟨fun h=>j_sub h⟩
instance s_j_xor :Stp (oXor (.int i) (.int j) R) ((R (.int (Builtin.bitXor i j)))):=⟨fun h=>j_xor h⟩
instance s_j_and :Stp (oAnd (.int i) (.int j) R) ((R (.int (Builtin.bitAnd i j)))):=⟨fun h=>j_and h⟩
instance s_j_gB :Stp (gB fb (.int i) (.int j) R) ((R (.bool (fb i j)))):=⟨fun h=>j_gB h⟩
end
section
variable {d da db:DTE} {dlo dhi:DTO} {ρ:En} {n:Nat} {R:PyData -> Nat -> Prop} {Ro:Option Int -> Nat -> Prop} {Rl:List PyData -> Nat -> Prop} {xs ys:List PyData} {lo hi:Option Int} {Q:PyData -> Prop} {Ql:List PyData -> Prop}
instance s_i_dSlL :Stp (dSlL d dlo dhi ρ n Rl) ((d ρ n fun t n1=>dlo ρ n1 fun lo n2=>dhi ρ n2 fun hi n3=>lSl t lo hi fun z=>Rl z n3)):=⟨fun h=>i_dSlL h⟩
instance s_i_dNoPart :Stp (dNoPart ρ n Ro) ((Ro none n)):=⟨fun h=>i_dNoPart h⟩
instance s_i_dPart :Stp (dPart d ρ n Ro) ((d ρ n fun t n'=>lInt t fun i=>Ro (some i) n')):=⟨fun h=>i_dPart h⟩
instance s_j_slL :Stp (lSl (.list xs) lo hi Ql) ((Ql (cutD xs lo hi))):=⟨fun h=>j_slL h⟩
end
section
instance s_i_dSort {d:DTE} {ρ:En} {n:Nat} {Rl:List PyData -> Nat -> Prop}:Stp (dSort d ρ n Rl) ((d ρ n fun t n1=>lSort t fun ts=>Rl ts n1)):=⟨fun h=>i_dSort h⟩
end
section
variable {R:PyData -> Prop} {b:Bool} {A B:Prop}
instance s_iteT:Stp (if true = true then A else B) A:=⟨fun h=>iteT h⟩
instance s_iteF:Stp (if false = true then A else B) B:=⟨fun h=>iteF h⟩
end
class GetN (ρ:En) (i:Nat) (c:outParam (Option Cell)):Prop where
 e:ρ[i]? = some c
class SetN (ρ:En) (i:Nat) (c:Option Cell) (ρ':outParam En):Prop where
 e:ρ.set i c = ρ'
instance {a0:Option Cell} {as:En}:GetN (a0 :: as) 0 a0:=⟨rfl⟩
instance {a0 c:Option Cell} {as:En}:SetN (a0 :: as) 0 c (c :: as):=⟨rfl⟩
instance {a0 a1:Option Cell} {as:En}:GetN (a0 :: a1 :: as) 1 a1:=⟨rfl⟩
instance {a0 a1 c:Option Cell} {as:En}:SetN (a0 :: a1 :: as) 1 c (a0 :: c :: as):=⟨rfl⟩
instance {a0 a1 a2:Option Cell} {as:En}:GetN (a0 :: a1 :: a2 :: as) 2 a2:=⟨rfl⟩
instance {a0 a1 a2 c:Option Cell} {as:En}:SetN (a0 :: a1 :: a2 :: as) 2 c (a0 :: a1 :: c :: as):=⟨rfl⟩
instance {a0 a1 a2 a3:Option Cell} {as:En}:GetN (a0 :: a1 :: a2 :: a3 :: as) 3 a3:=⟨rfl⟩
instance {a0 a1 a2 a3 c:Option Cell} {as:En}:SetN (a0 :: a1 :: a2 :: a3 :: as) 3 c (a0 :: a1 :: a2 :: c :: as):=⟨rfl⟩
instance {a0 a1 a2 a3 a4:Option Cell} {as:En}:GetN (a0 :: a1 :: a2 :: a3 :: a4 :: as) 4 a4:=⟨rfl⟩
instance {a0 a1 a2 a3 a4 c:Option Cell} {as:En}:SetN (a0 :: a1 :: a2 :: a3 :: a4 :: as) 4 c (a0 :: a1 :: a2 :: a3 :: c :: as):=⟨rfl⟩
instance {a0 a1 a2 a3 a4 a5:Option Cell} {as:En}:GetN (a0 :: a1 :: a2 :: a3 :: a4 :: a5 :: as) 5 a5:=⟨rfl⟩
instance {a0 a1 a2 a3 a4 a5 c:Option Cell} {as:En}:SetN (a0 :: a1 :: a2 :: a3 :: a4 :: a5 :: as) 5 c (a0 :: a1 :: a2 :: a3 :: a4 :: c :: as):=⟨rfl⟩
instance {a0 a1 a2 a3 a4 a5 a6:Option Cell} {as:En}:GetN (a0 :: a1 :: a2 :: a3 :: a4 :: a5 :: a6 :: as) 6 a6:=⟨rfl⟩
instance {a0 a1 a2 a3 a4 a5 a6 c:Option Cell} {as:En}:SetN (a0 :: a1 :: a2 :: a3 :: a4 :: a5 :: a6 :: as) 6 c (a0 :: a1 :: a2 :: a3 :: a4 :: a5 :: c :: as):=⟨rfl⟩
instance {a0 a1 a2 a3 a4 a5 a6 a7:Option Cell} {as:En}:GetN (a0 :: a1 :: a2 :: a3 :: a4 :: a5 :: a6 :: a7 :: as) 7 a7:=⟨rfl⟩
instance {a0 a1 a2 a3 a4 a5 a6 a7 c:Option Cell} {as:En}:SetN (a0 :: a1 :: a2 :: a3 :: a4 :: a5 :: a6 :: a7 :: as) 7 c (a0 :: a1 :: a2 :: a3 :: a4 :: a5 :: a6 :: c :: as):=⟨rfl⟩
instance {a0 a1 a2 a3 a4 a5 a6 a7 a8:Option Cell} {as:En}:GetN (a0 :: a1 :: a2 :: a3 :: a4 :: a5 :: a6 :: a7 :: a8 :: as) 8 a8:=⟨rfl⟩
instance {a0 a1 a2 a3 a4 a5 a6 a7 a8 c:Option Cell} {as:En}:SetN (a0 :: a1 :: a2 :: a3 :: a4 :: a5 :: a6 :: a7 :: a8 :: as) 8 c (a0 :: a1 :: a2 :: a3 :: a4 :: a5 :: a6 :: a7 :: c :: as):=⟨rfl⟩
instance {a0 a1 a2 a3 a4 a5 a6 a7 a8 a9:Option Cell} {as:En}:GetN (a0 :: a1 :: a2 :: a3 :: a4 :: a5 :: a6 :: a7 :: a8 :: a9 :: as) 9 a9:=⟨rfl⟩
instance {a0 a1 a2 a3 a4 a5 a6 a7 a8 a9 c:Option Cell} {as:En}:SetN (a0 :: a1 :: a2 :: a3 :: a4 :: a5 :: a6 :: a7 :: a8 :: a9 :: as) 9 c (a0 :: a1 :: a2 :: a3 :: a4 :: a5 :: a6 :: a7 :: a8 :: c :: as):=⟨rfl⟩
instance {a0 a1 a2 a3 a4 a5 a6 a7 a8 a9 a10:Option Cell} {as:En}:GetN (a0 :: a1 :: a2 :: a3 :: a4 :: a5 :: a6 :: a7 :: a8 :: a9 :: a10 :: as) 10 a10:=⟨rfl⟩
instance {a0 a1 a2 a3 a4 a5 a6 a7 a8 a9 a10 c:Option Cell} {as:En}:SetN (a0 :: a1 :: a2 :: a3 :: a4 :: a5 :: a6 :: a7 :: a8 :: a9 :: a10 :: as) 10 c (a0 :: a1 :: a2 :: a3 :: a4 :: a5 :: a6 :: a7 :: a8 :: a9 :: c :: as):=⟨rfl⟩
instance {a0 a1 a2 a3 a4 a5 a6 a7 a8 a9 a10 a11:Option Cell} {as:En}:GetN (a0 :: a1 :: a2 :: a3 :: a4 :: a5 :: a6 :: a7 :: a8 :: a9 :: a10 :: a11 :: as) 11 a11:=⟨rfl⟩
instance {a0 a1 a2 a3 a4 a5 a6 a7 a8 a9 a10 a11 c:Option Cell} {as:En}:SetN (a0 :: a1 :: a2 :: a3 :: a4 :: a5 :: a6 :: a7 :: a8 :: a9 :: a10 :: a11 :: as) 11 c (a0 :: a1 :: a2 :: a3 :: a4 :: a5 :: a6 :: a7 :: a8 :: a9 :: a10 :: c :: as):=⟨rfl⟩
instance {a0 a1 a2 a3 a4 a5 a6 a7 a8 a9 a10 a11 a12:Option Cell} {as:En}:GetN (a0 :: a1 :: a2 :: a3 :: a4 :: a5 :: a6 :: a7 :: a8 :: a9 :: a10 :: a11 :: a12 :: as) 12 a12:=⟨rfl⟩
instance {a0 a1 a2 a3 a4 a5 a6 a7 a8 a9 a10 a11 a12 c:Option Cell} {as:En}:SetN (a0 :: a1 :: a2 :: a3 :: a4 :: a5 :: a6 :: a7 :: a8 :: a9 :: a10 :: a11 :: a12 :: as) 12 c (a0 :: a1 :: a2 :: a3 :: a4 :: a5 :: a6 :: a7 :: a8 :: a9 :: a10 :: a11 :: c :: as):=⟨rfl⟩
instance {a0 a1 a2 a3 a4 a5 a6 a7 a8 a9 a10 a11 a12 a13:Option Cell} {as:En}:GetN (a0 :: a1 :: a2 :: a3 :: a4 :: a5 :: a6 :: a7 :: a8 :: a9 :: a10 :: a11 :: a12 :: a13 :: as) 13 a13:=⟨rfl⟩
instance {a0 a1 a2 a3 a4 a5 a6 a7 a8 a9 a10 a11 a12 a13 c:Option Cell} {as:En}:SetN (a0 :: a1 :: a2 :: a3 :: a4 :: a5 :: a6 :: a7 :: a8 :: a9 :: a10 :: a11 :: a12 :: a13 :: as) 13 c (a0 :: a1 :: a2 :: a3 :: a4 :: a5 :: a6 :: a7 :: a8 :: a9 :: a10 :: a11 :: a12 :: c :: as):=⟨rfl⟩
instance {a0 a1 a2 a3 a4 a5 a6 a7 a8 a9 a10 a11 a12 a13 a14:Option Cell} {as:En}:GetN (a0 :: a1 :: a2 :: a3 :: a4 :: a5 :: a6 :: a7 :: a8 :: a9 :: a10 :: a11 :: a12 :: a13 :: a14 :: as) 14 a14:=⟨rfl⟩
instance {a0 a1 a2 a3 a4 a5 a6 a7 a8 a9 a10 a11 a12 a13 a14 c:Option Cell} {as:En}:SetN (a0 :: a1 :: a2 :: a3 :: a4 :: a5 :: a6 :: a7 :: a8 :: a9 :: a10 :: a11 :: a12 :: a13 :: a14 :: as) 14 c (a0 :: a1 :: a2 :: a3 :: a4 :: a5 :: a6 :: a7 :: a8 :: a9 :: a10 :: a11 :: a12 :: a13 :: c :: as):=⟨rfl⟩
instance {a0 a1 a2 a3 a4 a5 a6 a7 a8 a9 a10 a11 a12 a13 a14 a15:Option Cell} {as:En}:GetN (a0 :: a1 :: a2 :: a3 :: a4 :: a5 :: a6 :: a7 :: a8 :: a9 :: a10 :: a11 :: a12 :: a13 :: a14 :: a15 :: as) 15 a15:=⟨rfl⟩
instance {a0 a1 a2 a3 a4 a5 a6 a7 a8 a9 a10 a11 a12 a13 a14 a15 c:Option Cell} {as:En}:SetN (a0 :: a1 :: a2 :: a3 :: a4 :: a5 :: a6 :: a7 :: a8 :: a9 :: a10 :: a11 :: a12 :: a13 :: a14 :: a15 :: as) 15 c (a0 :: a1 :: a2 :: a3 :: a4 :: a5 :: a6 :: a7 :: a8 :: a9 :: a10 :: a11 :: a12 :: a13 :: a14 :: c :: as):=⟨rfl⟩
instance {a0 a1 a2 a3 a4 a5 a6 a7 a8 a9 a10 a11 a12 a13 a14 a15 a16:Option Cell} {as:En}:GetN (a0 :: a1 :: a2 :: a3 :: a4 :: a5 :: a6 :: a7 :: a8 :: a9 :: a10 :: a11 :: a12 :: a13 :: a14 :: a15 :: a16 :: as) 16 a16:=⟨rfl⟩
instance {a0 a1 a2 a3 a4 a5 a6 a7 a8 a9 a10 a11 a12 a13 a14 a15 a16 c:Option Cell} {as:En}:SetN (a0 :: a1 :: a2 :: a3 :: a4 :: a5 :: a6 :: a7 :: a8 :: a9 :: a10 :: a11 :: a12 :: a13 :: a14 :: a15 :: a16 :: as) 16 c (a0 :: a1 :: a2 :: a3 :: a4 :: a5 :: a6 :: a7 :: a8 :: a9 :: a10 :: a11 :: a12 :: a13 :: a14 :: a15 :: c :: as):=⟨rfl⟩
instance {a0 a1 a2 a3 a4 a5 a6 a7 a8 a9 a10 a11 a12 a13 a14 a15 a16 a17:Option Cell} {as:En}:GetN (a0 :: a1 :: a2 :: a3 :: a4 :: a5 :: a6 :: a7 :: a8 :: a9 :: a10 :: a11 :: a12 :: a13 :: a14 :: a15 :: a16 :: a17 :: as) 17 a17:=⟨rfl⟩
instance {a0 a1 a2 a3 a4 a5 a6 a7 a8 a9 a10 a11 a12 a13 a14 a15 a16 a17 c:Option Cell} {as:En}:SetN (a0 :: a1 :: a2 :: a3 :: a4 :: a5 :: a6 :: a7 :: a8 :: a9 :: a10 :: a11 :: a12 :: a13 :: a14 :: a15 :: a16 :: a17 :: as) 17 c (a0 :: a1 :: a2 :: a3 :: a4 :: a5 :: a6 :: a7 :: a8 :: a9 :: a10 :: a11 :: a12 :: a13 :: a14 :: a15 :: a16 :: c :: as):=⟨rfl⟩
instance {a0 a1 a2 a3 a4 a5 a6 a7 a8 a9 a10 a11 a12 a13 a14 a15 a16 a17 a18:Option Cell} {as:En}:GetN (a0 :: a1 :: a2 :: a3 :: a4 :: a5 :: a6 :: a7 :: a8 :: a9 :: a10 :: a11 :: a12 :: a13 :: a14 :: a15 :: a16 :: a17 :: a18 :: as) 18 a18:=⟨rfl⟩
instance {a0 a1 a2 a3 a4 a5 a6 a7 a8 a9 a10 a11 a12 a13 a14 a15 a16 a17 a18 c:Option Cell} {as:En}:SetN (a0 :: a1 :: a2 :: a3 :: a4 :: a5 :: a6 :: a7 :: a8 :: a9 :: a10 :: a11 :: a12 :: a13 :: a14 :: a15 :: a16 :: a17 :: a18 :: as) 18 c (a0 :: a1 :: a2 :: a3 :: a4 :: a5 :: a6 :: a7 :: a8 :: a9 :: a10 :: a11 :: a12 :: a13 :: a14 :: a15 :: a16 :: a17 :: c :: as):=⟨rfl⟩
instance {a0 a1 a2 a3 a4 a5 a6 a7 a8 a9 a10 a11 a12 a13 a14 a15 a16 a17 a18 a19:Option Cell} {as:En}:GetN (a0 :: a1 :: a2 :: a3 :: a4 :: a5 :: a6 :: a7 :: a8 :: a9 :: a10 :: a11 :: a12 :: a13 :: a14 :: a15 :: a16 :: a17 :: a18 :: a19 :: as) 19 a19:=⟨rfl⟩
instance {a0 a1 a2 a3 a4 a5 a6 a7 a8 a9 a10 a11 a12 a13 a14 a15 a16 a17 a18 a19 c:Option Cell} {as:En}:SetN (a0 :: a1 :: a2 :: a3 :: a4 :: a5 :: a6 :: a7 :: a8 :: a9 :: a10 :: a11 :: a12 :: a13 :: a14 :: a15 :: a16 :: a17 :: a18 :: a19 :: as) 19 c (a0 :: a1 :: a2 :: a3 :: a4 :: a5 :: a6 :: a7 :: a8 :: a9 :: a10 :: a11 :: a12 :: a13 :: a14 :: a15 :: a16 :: a17 :: a18 :: c :: as):=⟨rfl⟩
instance {a0 a1 a2 a3 a4 a5 a6 a7 a8 a9 a10 a11 a12 a13 a14 a15 a16 a17 a18 a19 a20:Option Cell} {as:En}:GetN (a0 :: a1 :: a2 :: a3 :: a4 :: a5 :: a6 :: a7 :: a8 :: a9 :: a10 :: a11 :: a12 :: a13 :: a14 :: a15 :: a16 :: a17 :: a18 :: a19 :: a20 :: as) 20 a20:=⟨rfl⟩
instance {a0 a1 a2 a3 a4 a5 a6 a7 a8 a9 a10 a11 a12 a13 a14 a15 a16 a17 a18 a19 a20 c:Option Cell} {as:En}:SetN (a0 :: a1 :: a2 :: a3 :: a4 :: a5 :: a6 :: a7 :: a8 :: a9 :: a10 :: a11 :: a12 :: a13 :: a14 :: a15 :: a16 :: a17 :: a18 :: a19 :: a20 :: as) 20 c (a0 :: a1 :: a2 :: a3 :: a4 :: a5 :: a6 :: a7 :: a8 :: a9 :: a10 :: a11 :: a12 :: a13 :: a14 :: a15 :: a16 :: a17 :: a18 :: a19 :: c :: as):=⟨rfl⟩
instance {a0 a1 a2 a3 a4 a5 a6 a7 a8 a9 a10 a11 a12 a13 a14 a15 a16 a17 a18 a19 a20 a21:Option Cell} {as:En}:GetN (a0 :: a1 :: a2 :: a3 :: a4 :: a5 :: a6 :: a7 :: a8 :: a9 :: a10 :: a11 :: a12 :: a13 :: a14 :: a15 :: a16 :: a17 :: a18 :: a19 :: a20 :: a21 :: as) 21 a21:=⟨rfl⟩
instance {a0 a1 a2 a3 a4 a5 a6 a7 a8 a9 a10 a11 a12 a13 a14 a15 a16 a17 a18 a19 a20 a21 c:Option Cell} {as:En}:SetN (a0 :: a1 :: a2 :: a3 :: a4 :: a5 :: a6 :: a7 :: a8 :: a9 :: a10 :: a11 :: a12 :: a13 :: a14 :: a15 :: a16 :: a17 :: a18 :: a19 :: a20 :: a21 :: as) 21 c (a0 :: a1 :: a2 :: a3 :: a4 :: a5 :: a6 :: a7 :: a8 :: a9 :: a10 :: a11 :: a12 :: a13 :: a14 :: a15 :: a16 :: a17 :: a18 :: a19 :: a20 :: c :: as):=⟨rfl⟩
instance {a0 a1 a2 a3 a4 a5 a6 a7 a8 a9 a10 a11 a12 a13 a14 a15 a16 a17 a18 a19 a20 a21 a22:Option Cell} {as:En}:GetN (a0 :: a1 :: a2 :: a3 :: a4 :: a5 :: a6 :: a7 :: a8 :: a9 :: a10 :: a11 :: a12 :: a13 :: a14 :: a15 :: a16 :: a17 :: a18 :: a19 :: a20 :: a21 :: a22 :: as) 22 a22:=⟨rfl⟩
instance {a0 a1 a2 a3 a4 a5 a6 a7 a8 a9 a10 a11 a12 a13 a14 a15 a16 a17 a18 a19 a20 a21 a22 c:Option Cell} {as:En}:SetN (a0 :: a1 :: a2 :: a3 :: a4 :: a5 :: a6 :: a7 :: a8 :: a9 :: a10 :: a11 :: a12 :: a13 :: a14 :: a15 :: a16 :: a17 :: a18 :: a19 :: a20 :: a21 :: a22 :: as) 22 c (a0 :: a1 :: a2 :: a3 :: a4 :: a5 :: a6 :: a7 :: a8 :: a9 :: a10 :: a11 :: a12 :: a13 :: a14 :: a15 :: a16 :: a17 :: a18 :: a19 :: a20 :: a21 :: c :: as):=⟨rfl⟩
instance {a0 a1 a2 a3 a4 a5 a6 a7 a8 a9 a10 a11 a12 a13 a14 a15 a16 a17 a18 a19 a20 a21 a22 a23:Option Cell} {as:En}:GetN (a0 :: a1 :: a2 :: a3 :: a4 :: a5 :: a6 :: a7 :: a8 :: a9 :: a10 :: a11 :: a12 :: a13 :: a14 :: a15 :: a16 :: a17 :: a18 :: a19 :: a20 :: a21 :: a22 :: a23 :: as) 23 a23:=⟨rfl⟩
instance {a0 a1 a2 a3 a4 a5 a6 a7 a8 a9 a10 a11 a12 a13 a14 a15 a16 a17 a18 a19 a20 a21 a22 a23 c:Option Cell} {as:En}:SetN (a0 :: a1 :: a2 :: a3 :: a4 :: a5 :: a6 :: a7 :: a8 :: a9 :: a10 :: a11 :: a12 :: a13 :: a14 :: a15 :: a16 :: a17 :: a18 :: a19 :: a20 :: a21 :: a22 :: a23 :: as) 23 c (a0 :: a1 :: a2 :: a3 :: a4 :: a5 :: a6 :: a7 :: a8 :: a9 :: a10 :: a11 :: a12 :: a13 :: a14 :: a15 :: a16 :: a17 :: a18 :: a19 :: a20 :: a21 :: a22 :: c :: as):=⟨rfl⟩
instance {a0 a1 a2 a3 a4 a5 a6 a7 a8 a9 a10 a11 a12 a13 a14 a15 a16 a17 a18 a19 a20 a21 a22 a23 a24:Option Cell} {as:En}:GetN (a0 :: a1 :: a2 :: a3 :: a4 :: a5 :: a6 :: a7 :: a8 :: a9 :: a10 :: a11 :: a12 :: a13 :: a14 :: a15 :: a16 :: a17 :: a18 :: a19 :: a20 :: a21 :: a22 :: a23 :: a24 :: as) 24 a24:=⟨rfl⟩
instance {a0 a1 a2 a3 a4 a5 a6 a7 a8 a9 a10 a11 a12 a13 a14 a15 a16 a17 a18 a19 a20 a21 a22 a23 a24 c:Option Cell} {as:En}:SetN (a0 :: a1 :: a2 :: a3 :: a4 :: a5 :: a6 :: a7 :: a8 :: a9 :: a10 :: a11 :: a12 :: a13 :: a14 :: a15 :: a16 :: a17 :: a18 :: a19 :: a20 :: a21 :: a22 :: a23 :: a24 :: as) 24 c (a0 :: a1 :: a2 :: a3 :: a4 :: a5 :: a6 :: a7 :: a8 :: a9 :: a10 :: a11 :: a12 :: a13 :: a14 :: a15 :: a16 :: a17 :: a18 :: a19 :: a20 :: a21 :: a22 :: a23 :: c :: as):=⟨rfl⟩
instance {a0 a1 a2 a3 a4 a5 a6 a7 a8 a9 a10 a11 a12 a13 a14 a15 a16 a17 a18 a19 a20 a21 a22 a23 a24 a25:Option Cell} {as:En}:GetN (a0 :: a1 :: a2 :: a3 :: a4 :: a5 :: a6 :: a7 :: a8 :: a9 :: a10 :: a11 :: a12 :: a13 :: a14 :: a15 :: a16 :: a17 :: a18 :: a19 :: a20 :: a21 :: a22 :: a23 :: a24 :: a25 :: as) 25 a25:=⟨rfl⟩
instance {a0 a1 a2 a3 a4 a5 a6 a7 a8 a9 a10 a11 a12 a13 a14 a15 a16 a17 a18 a19 a20 a21 a22 a23 a24 a25 c:Option Cell} {as:En}:SetN (a0 :: a1 :: a2 :: a3 :: a4 :: a5 :: a6 :: a7 :: a8 :: a9 :: a10 :: a11 :: a12 :: a13 :: a14 :: a15 :: a16 :: a17 :: a18 :: a19 :: a20 :: a21 :: a22 :: a23 :: a24 :: a25 :: as) 25 c (a0 :: a1 :: a2 :: a3 :: a4 :: a5 :: a6 :: a7 :: a8 :: a9 :: a10 :: a11 :: a12 :: a13 :: a14 :: a15 :: a16 :: a17 :: a18 :: a19 :: a20 :: a21 :: a22 :: a23 :: a24 :: c :: as):=⟨rfl⟩
class NormE (ρ:En) (ρ':outParam En):Prop where
 e:ρ = ρ'
instance {a:Option Cell} {as:En}:NormE (a :: as) (a :: as):=⟨rfl⟩
instance {ρ ρ1 ρ2:En} {i:Nat} {c:Option Cell} [h:NormE ρ ρ1] [k:SetN ρ1 i c ρ2]:NormE (ρ.set i c) ρ2:=⟨by rw [h.e]; exact k.e⟩
class NoneN (as:En) (nn:outParam En):Prop where
 e:List.replicate as.length none = nn
instance:NoneN [] []:=⟨rfl⟩
instance {a:Option Cell} {as nn:En} [h:NoneN as nn]:NoneN (a :: as) (none :: nn):=⟨by rw [List.length_cons,List.replicate_succ,h.e]⟩
class StartN (N:List Str) (ts:List PyData) (ρ:outParam En):Prop where
 e:startE N ts = ρ
instance:StartN [] [] []:=⟨rfl⟩
instance {x:Str} {N:List Str} {ρ:En} [h:StartN N [] ρ]:StartN (x :: N) [] (none :: ρ):=⟨by
 have:=h.e
 simp only [startE,List.map_nil,List.nil_append,List.length_nil,Nat.sub_zero] at this ⊢
 rw [List.length_cons,List.replicate_succ,this]⟩
instance {x:Str} {N:List Str} {t:PyData} {ts:List PyData} {ρ:En} [h:StartN N ts ρ]:StartN (x :: N) (t :: ts) (some (.val t) :: ρ):=⟨by
 have:=h.e
 simp only [startE] at this ⊢
 rw [List.map_cons,List.length_cons,List.length_cons,List.cons_append,Nat.add_sub_add_right,this]⟩
theorem start_norm {d:DTS} {D:DEnds} {n:Nat} {N:List Str} {ts:List PyData} {ρ:En} [e:StartN N ts ρ] (h:d D ρ n):d D (startE N ts) n:=e.e.symm ▸ h
class CapN (is:List Nat) (ρ:En) (out:outParam En):Prop where
 e:(is.map fun i=>capV (ρ.getD i none)) = out
class CapC (c:Option Cell) (c':outParam (Option Cell)):Prop where
 e:capV c = c'
instance {d:PyData}:CapC (some (.val d)) (some (.val d)):=⟨rfl⟩
instance {d:List PyData}:CapC (some (.own d)) none:=⟨rfl⟩
instance:CapC none none:=⟨rfl⟩
instance {ρ:En}:CapN [] ρ []:=⟨rfl⟩
instance {i:Nat} {is:List Nat} {ρ out:En} {c c':Option Cell} [g:GetN ρ i c] [k:CapC c c'] [h:CapN is ρ out]:CapN (i :: is) ρ (c' :: out):=⟨by
 have ge:=g.e
 rw [List.map_cons,h.e,List.getD_eq_getElem?_getD,ge,Option.getD_some,k.e]⟩
class CompN (m:Nat) (capt:List Nat) (ρ:En) (ρ':outParam En):Prop where
 e:compEn m capt ρ = ρ'
instance {x:Str} {capt:List Nat} {ρ out:En} [h:CapN capt ρ out]:CompN (List.length [x]) capt ρ (none :: out):=⟨by unfold compEn; rw [h.e]; rfl⟩
instance {x y:Str} {capt:List Nat} {ρ out:En} [h:CapN capt ρ out]:CompN (List.length [x,y]) capt ρ (none :: none :: out):=⟨by unfold compEn; rw [h.e]; rfl⟩
instance {x y z:Str} {capt:List Nat} {ρ out:En} [h:CapN capt ρ out]:CompN (List.length [x,y,z]) capt ρ (none :: none :: none :: out):=⟨by unfold compEn; rw [h.e]; rfl⟩
instance {x y z u:Str} {capt:List Nat} {ρ out:En} [h:CapN capt ρ out]:CompN (List.length [x,y,z,u]) capt ρ (none :: none :: none :: none :: out):=⟨by unfold compEn; rw [h.e]; rfl⟩
def SetK (i:Nat) (c:Option Cell) (K:En -> Nat -> Prop) (ρ:En) (n:Nat):Prop:=K (ρ.set i c) n
section
variable {t u:DTS} {D:DEnds} {ρ ρ0 ρ':En} {n i j m:Nat} {d dj:DTE} {ds di:DTA} {tt:DTT} {tg:DTG} {R:PyData -> Nat -> Prop} {Rl:List PyData -> Nat -> Prop} {Re:En -> Prop} {x:PyData} {xs:List PyData} {f:Int -> Int -> Int} {capt:List Nat} {c:Option Cell} {K:En -> Nat -> Prop} {q:Int}
instance s_SetK [h:SetN ρ i c ρ']:Stp (SetK i c K ρ n) (K ρ' n):=⟨fun k=>by unfold SetK; rw [h.e]; exact k⟩
instance s_sSet:Stp (sSet i d D ρ n) (d ρ n fun t n'=>SetK i (some (.val t)) D.nx ρ n'):=⟨fun h=>h⟩
instance s_sOwn:Stp (sOwn i ds D ρ n) (ds ρ n fun t n'=>SetK i (some (.own t)) D.nx ρ n'):=⟨fun h=>h⟩
instance s_tgName [h:SetN ρ i (some (.val x)) ρ']:Stp (tgName i x ρ Re) (Re ρ'):=⟨fun k=>by unfold tgName; rw [h.e]; exact k⟩
instance s_dVar [h:GetN ρ i (some (.val x))]:Stp (dVar i ρ n R) (R x n):=⟨fun k=>i_dVar h.e k⟩
instance s_dOwn [h:GetN ρ i (some (.own xs))]:Stp (dOwn i ρ n R) (R (.list xs) n):=⟨fun k=>i_dOwn h.e k⟩
instance s_append [h:GetN ρ i (some (.own xs))]:Stp (sAppend i d D ρ n) (d ρ n fun t n'=>xs.length < 16777216 /\ SetK i (some (.own (xs ++ [t]))) D.nx ρ n'):=⟨fun k=>i_append h.e k⟩
instance s_freeze [h:GetN ρ i (some (.own xs))] [h':SetN ρ i (some (.val (.list xs))) ρ']:Stp (sFreeze i t D ρ n) (t D ρ' n):=⟨fun k=>i_freeze h.e (by rw [h'.e]; exact k)⟩
instance s_comp [h:CompN m capt ρ ρ0]:Stp (dComp m capt di tg tt d ρ n Rl) (di ρ n fun ts n1=>compGo tg tt d ρ0 ts [] n1 Rl):=⟨fun k=>i_dComp (by rw [h.e]; exact k)⟩
theorem put_ix {D:DEnds} {ρ:En} {i:Nat} {xs:List PyData} {x:PyData} {n:Nat} {j:Int} {k:Nat} (e:ixN xs.length j = some k) (h:SetK i (some (.own (xs.set k x))) D.nx ρ n) :
  (match ixN xs.length j with | some k=>D.nx (ρ.set i (some (.own (xs.set k x)))) n | none=>False):=by rw [e]; exact h
instance s_put [h:GetN ρ i (some (.own xs))]:Stp (sPut i dj d D ρ n) (d ρ n fun t n1=>lPutA ρ i D dj t n1 xs):=⟨fun k=>i_put h.e k⟩
instance s_putA:Stp (lPutA ρ i D dj x n xs) (dj ρ n fun j n2=>lInt j fun j=>(match ixN xs.length j with | some k=>D.nx (ρ.set i (some (.own (xs.set k x)))) n2 | none=>False)):=⟨fun h=>i_putA h⟩
end
end L2
namespace L2
open PySem PySem.Spec PyProof.Rows
theorem set_getD {ρ:En} {i:Nat}:ρ.set i (ρ.getD i none) = ρ:=by
 apply List.ext_getElem?
 intro j
 by_cases h:i = j
 ·subst h
  by_cases hl:i < ρ.length
  ·rw [List.getElem?_set_self hl,List.getD_eq_getElem?_getD,List.getElem?_eq_getElem hl]; rfl
  ·rw [List.getElem?_eq_none (by simp; omega),List.getElem?_eq_none (by omega)]
 ·rw [List.getElem?_set_ne h]
section
variable {g:DTG} {tb:DTS} {D:DEnds} {ts:List PyData} {ρ:En} {n:Nat}
theorem for_m1 (i0:Nat) (Inv:Nat -> Option Cell -> Nat -> Prop) {ρf:Option Cell -> En} [N:∀ a0,NormE (ρ.set i0 a0) (ρf a0)] (h0:Inv 0 (ρ.getD i0 none) n)
  (turn:∀ (k:Nat) (t:PyData) (a0:Option Cell) (m:Nat) (K:En -> Nat -> Prop) (RT:PyData -> Nat -> Prop) (BK:En -> Nat -> Prop),ts[k]? = some t -> Inv k a0 m -> (∀ b0 m',Inv (k + 1) b0 m' -> K (ρf b0) m') -> (∀ t m,D.rt t m -> RT t m) -> (∀ ρ m,D.nx ρ m -> BK ρ m) -> g t (ρf a0) fun ρ'=>tb { nx:=K,rt:=RT,bk:=BK,ct:=K } ρ' m)
  (fin:∀ a0 m,Inv ts.length a0 m -> D.nx (ρf a0) m):forP g tb D ts ρ n:=by
 refine for_inv0 (fun k ρ' m=>∃ a0,ρ' = (ρ.set i0 a0) /\ Inv k a0 m) ⟨_,?_,h0⟩ ?_ ?_
 ·rw [set_getD]
 ·rintro k t ρ' m K e ⟨a0,rfl,hI⟩ hK
  rw [(N a0).e]
  exact turn k t a0 m K D.rt D.nx e hI (fun b0 m' h=>(N b0).e ▸ hK _ _ ⟨b0,rfl,h⟩) (fun _ _ h=>h) (fun _ _ h=>h)
 ·rintro ρ' m ⟨a0,rfl,hI⟩
  rw [(N a0).e]
  exact fin a0 m hI
theorem for_m2 (i0 i1:Nat) (Inv:Nat -> Option Cell -> Option Cell -> Nat -> Prop) {ρf:Option Cell -> Option Cell -> En} [N:∀ a0 a1,NormE ((ρ.set i0 a0).set i1 a1) (ρf a0 a1)] (h0:Inv 0 (ρ.getD i0 none) (ρ.getD i1 none) n)
  (turn:∀ (k:Nat) (t:PyData) (a0 a1:Option Cell) (m:Nat) (K:En -> Nat -> Prop) (RT:PyData -> Nat -> Prop) (BK:En -> Nat -> Prop),ts[k]? = some t -> Inv k a0 a1 m -> (∀ b0 b1 m',Inv (k + 1) b0 b1 m' -> K (ρf b0 b1) m') -> (∀ t m,D.rt t m -> RT t m) -> (∀ ρ m,D.nx ρ m -> BK ρ m) -> g t (ρf a0 a1) fun ρ'=>tb { nx:=K,rt:=RT,bk:=BK,ct:=K } ρ' m)
  (fin:∀ a0 a1 m,Inv ts.length a0 a1 m -> D.nx (ρf a0 a1) m):forP g tb D ts ρ n:=by
 refine for_inv0 (fun k ρ' m=>∃ a0 a1,ρ' = ((ρ.set i0 a0).set i1 a1) /\ Inv k a0 a1 m) ⟨_,_,?_,h0⟩ ?_ ?_
 ·rw [set_getD,set_getD]
 ·rintro k t ρ' m K e ⟨a0,a1,rfl,hI⟩ hK
  rw [(N a0 a1).e]
  exact turn k t a0 a1 m K D.rt D.nx e hI (fun b0 b1 m' h=>(N b0 b1).e ▸ hK _ _ ⟨b0,b1,rfl,h⟩) (fun _ _ h=>h) (fun _ _ h=>h)
 ·rintro ρ' m ⟨a0,a1,rfl,hI⟩
  rw [(N a0 a1).e]
  exact fin a0 a1 m hI
theorem for_m3 (i0 i1 i2:Nat) (Inv:Nat -> Option Cell -> Option Cell -> Option Cell -> Nat -> Prop) {ρf:Option Cell -> Option Cell -> Option Cell -> En} [N:∀ a0 a1 a2,NormE (((ρ.set i0 a0).set i1 a1).set i2 a2) (ρf a0 a1 a2)] (h0:Inv 0 (ρ.getD i0 none) (ρ.getD i1 none) (ρ.getD i2 none) n)
  (turn:∀ (k:Nat) (t:PyData) (a0 a1 a2:Option Cell) (m:Nat) (K:En -> Nat -> Prop) (RT:PyData -> Nat -> Prop) (BK:En -> Nat -> Prop),ts[k]? = some t -> Inv k a0 a1 a2 m -> (∀ b0 b1 b2 m',Inv (k + 1) b0 b1 b2 m' -> K (ρf b0 b1 b2) m') -> (∀ t m,D.rt t m -> RT t m) -> (∀ ρ m,D.nx ρ m -> BK ρ m) -> g t (ρf a0 a1 a2) fun ρ'=>tb { nx:=K,rt:=RT,bk:=BK,ct:=K } ρ' m)
  (fin:∀ a0 a1 a2 m,Inv ts.length a0 a1 a2 m -> D.nx (ρf a0 a1 a2) m):forP g tb D ts ρ n:=by
 refine for_inv0 (fun k ρ' m=>∃ a0 a1 a2,ρ' = (((ρ.set i0 a0).set i1 a1).set i2 a2) /\ Inv k a0 a1 a2 m) ⟨_,_,_,?_,h0⟩ ?_ ?_
 ·rw [set_getD,set_getD,set_getD]
 ·rintro k t ρ' m K e ⟨a0,a1,a2,rfl,hI⟩ hK
  rw [(N a0 a1 a2).e]
  exact turn k t a0 a1 a2 m K D.rt D.nx e hI (fun b0 b1 b2 m' h=>(N b0 b1 b2).e ▸ hK _ _ ⟨b0,b1,b2,rfl,h⟩) (fun _ _ h=>h) (fun _ _ h=>h)
 ·rintro ρ' m ⟨a0,a1,a2,rfl,hI⟩
  rw [(N a0 a1 a2).e]
  exact fin a0 a1 a2 m hI
theorem for_m4 (i0 i1 i2 i3:Nat) (Inv:Nat -> Option Cell -> Option Cell -> Option Cell -> Option Cell -> Nat -> Prop) {ρf:Option Cell -> Option Cell -> Option Cell -> Option Cell -> En} [N:∀ a0 a1 a2 a3,NormE ((((ρ.set i0 a0).set i1 a1).set i2 a2).set i3 a3) (ρf a0 a1 a2 a3)] (h0:Inv 0 (ρ.getD i0 none) (ρ.getD i1 none) (ρ.getD i2 none) (ρ.getD i3 none) n)
  (turn:∀ (k:Nat) (t:PyData) (a0 a1 a2 a3:Option Cell) (m:Nat) (K:En -> Nat -> Prop) (RT:PyData -> Nat -> Prop) (BK:En -> Nat -> Prop),ts[k]? = some t -> Inv k a0 a1 a2 a3 m -> (∀ b0 b1 b2 b3 m',Inv (k + 1) b0 b1 b2 b3 m' -> K (ρf b0 b1 b2 b3) m') -> (∀ t m,D.rt t m -> RT t m) -> (∀ ρ m,D.nx ρ m -> BK ρ m) -> g t (ρf a0 a1 a2 a3) fun ρ'=>tb { nx:=K,rt:=RT,bk:=BK,ct:=K } ρ' m)
  (fin:∀ a0 a1 a2 a3 m,Inv ts.length a0 a1 a2 a3 m -> D.nx (ρf a0 a1 a2 a3) m):forP g tb D ts ρ n:=by
 refine for_inv0 (fun k ρ' m=>∃ a0 a1 a2 a3,ρ' = ((((ρ.set i0 a0).set i1 a1).set i2 a2).set i3 a3) /\ Inv k a0 a1 a2 a3 m) ⟨_,_,_,_,?_,h0⟩ ?_ ?_
 ·rw [set_getD,set_getD,set_getD,set_getD]
 ·rintro k t ρ' m K e ⟨a0,a1,a2,a3,rfl,hI⟩ hK
  rw [(N a0 a1 a2 a3).e]
  exact turn k t a0 a1 a2 a3 m K D.rt D.nx e hI (fun b0 b1 b2 b3 m' h=>(N b0 b1 b2 b3).e ▸ hK _ _ ⟨b0,b1,b2,b3,rfl,h⟩) (fun _ _ h=>h) (fun _ _ h=>h)
 ·rintro ρ' m ⟨a0,a1,a2,a3,rfl,hI⟩
  rw [(N a0 a1 a2 a3).e]
  exact fin a0 a1 a2 a3 m hI
theorem for_m5 (i0 i1 i2 i3 i4:Nat) (Inv:Nat -> Option Cell -> Option Cell -> Option Cell -> Option Cell -> Option Cell -> Nat -> Prop) {ρf:Option Cell -> Option Cell -> Option Cell -> Option Cell -> Option Cell -> En} [N:∀ a0 a1 a2 a3 a4,NormE (((((ρ.set i0 a0).set i1 a1).set i2 a2).set i3 a3).set i4 a4) (ρf a0 a1 a2 a3 a4)] (h0:Inv 0 (ρ.getD i0 none) (ρ.getD i1 none) (ρ.getD i2 none) (ρ.getD i3 none) (ρ.getD i4 none) n)
  (turn:∀ (k:Nat) (t:PyData) (a0 a1 a2 a3 a4:Option Cell) (m:Nat) (K:En -> Nat -> Prop) (RT:PyData -> Nat -> Prop) (BK:En -> Nat -> Prop),ts[k]? = some t -> Inv k a0 a1 a2 a3 a4 m -> (∀ b0 b1 b2 b3 b4 m',Inv (k + 1) b0 b1 b2 b3 b4 m' -> K (ρf b0 b1 b2 b3 b4) m') -> (∀ t m,D.rt t m -> RT t m) -> (∀ ρ m,D.nx ρ m -> BK ρ m) -> g t (ρf a0 a1 a2 a3 a4) fun ρ'=>tb { nx:=K,rt:=RT,bk:=BK,ct:=K } ρ' m)
  (fin:∀ a0 a1 a2 a3 a4 m,Inv ts.length a0 a1 a2 a3 a4 m -> D.nx (ρf a0 a1 a2 a3 a4) m):forP g tb D ts ρ n:=by
 refine for_inv0 (fun k ρ' m=>∃ a0 a1 a2 a3 a4,ρ' = (((((ρ.set i0 a0).set i1 a1).set i2 a2).set i3 a3).set i4 a4) /\ Inv k a0 a1 a2 a3 a4 m) ⟨_,_,_,_,_,?_,h0⟩ ?_ ?_
 ·rw [set_getD,set_getD,set_getD,set_getD,set_getD]
 ·rintro k t ρ' m K e ⟨a0,a1,a2,a3,a4,rfl,hI⟩ hK
  rw [(N a0 a1 a2 a3 a4).e]
  exact turn k t a0 a1 a2 a3 a4 m K D.rt D.nx e hI (fun b0 b1 b2 b3 b4 m' h=>(N b0 b1 b2 b3 b4).e ▸ hK _ _ ⟨b0,b1,b2,b3,b4,rfl,h⟩) (fun _ _ h=>h) (fun _ _ h=>h)
 ·rintro ρ' m ⟨a0,a1,a2,a3,a4,rfl,hI⟩
  rw [(N a0 a1 a2 a3 a4).e]
  exact fin a0 a1 a2 a3 a4 m hI
theorem i_sHandA {i j:Nat} {u:DTS} {D:DEnds} {as nn ρ1 ρ2:En} {n:Nat} {ns:List Int} {k:Int} [ej:GetN (some (.val (SCR ns)) :: as) j (some (.val (.int k)))] [e1:NoneN as nn] [e2:SetN (some (.val (SCR ns)) :: nn) j (some (.val (.int k))) ρ1] [e3:SetN ρ1 i (some (.val HAND)) ρ2] (hl:ns.length <= 63) (k0:0 <= k) (k1:k <= 100)
  (h:∀ (NX:En -> Nat -> Prop) (RT:PyData -> Nat -> Prop) (BK CT:En -> Nat -> Prop),(∀ ρ' m,D.nx (dropE ρ') n -> NX ρ' m) -> (∀ b m,D.rt (.bool b) n -> RT (.bool b) m) -> (∀ ρ' m,D.bk (dropE ρ') n -> BK ρ' m) -> (∀ ρ' m,D.ct (dropE ρ') n -> CT ρ' m) ->
   u { nx:=NX,rt:=RT,bk:=BK,ct:=CT } ρ2 0):sHand i j u D (some (.val (SCR ns)) :: as) n:=by
 refine i_sHand (ρd:=some (.val (SCR ns)) :: nn) rfl ej.e hl k0 k1 ?_ ?_
 ·show some (Cell.val (SCR ns)) :: List.replicate (List.length (some (Cell.val (SCR ns)) :: as) - 1) none = _
  rw [List.length_cons,Nat.add_sub_cancel,e1.e]
 ·rw [e2.e,e3.e]
  exact h _ _ _ _ (fun _ _ h=>h) (fun b _ h=>⟨b,rfl,h⟩) (fun _ _ h=>h) (fun _ _ h=>h)
theorem while_a {c:DTT} {tb:DTS} {D:DEnds} {ρ:En} {n:Nat} (Inv:Nat -> En -> Nat -> Prop) {m:Nat} (h0:Inv m ρ n)
  (turn:∀ m ρ n (K:En -> Nat -> Prop) (RT:PyData -> Nat -> Prop) (BK:En -> Nat -> Prop),Inv m ρ n -> (∀ m' ρ' n',m' < m -> Inv m' ρ' n' -> K ρ' n') -> (∀ t m,D.rt t m -> RT t m) -> (∀ ρ m,D.nx ρ m -> BK ρ m) ->
   c ρ n fun b n1=>if b = true then tb { nx:=K,rt:=RT,bk:=BK,ct:=K } ρ n1 else BK ρ n1):sWhile c tb D ρ n :=
 while_inv Inv h0 fun m ρ n h=>turn m ρ n (fun ρ' n'=>∃ m',m' < m /\ Inv m' ρ' n') D.rt D.nx h (fun m' _ _ a b=>⟨m',a,b⟩) (fun _ _ h=>h) (fun _ _ h=>h)
end
end L2
namespace L2
open PySem PySem.Spec PyProof.Rows
open Builtin Builtin.Str
def cutS (x:Str) (lo hi:Option Int):Str:=⟨((x.cps.toList.drop (HT.sIx x.length 0 lo)).take (HT.sIx x.length x.length hi - HT.sIx x.length 0 lo)).toArray⟩
theorem sIx_int (n d:Nat) (i:Int):((HT.sIx n d (some i):Nat):Int) = max 0 (min (if i < 0 then i + (n:Int) else i) (n:Int)):=by
 simp only [HT.sIx]
 by_cases h:i < 0
 ·simp only [h,if_true] <;> lia
 ·simp only [h,if_false] <;> lia
theorem strIdx (lo hi:Option Int) (n:Nat):strSliceIndices lo hi 1 n = sliceRange ((HT.sIx n 0 lo:Nat):Int) ((HT.sIx n n hi:Nat):Int) 1:=by
 have d0:((HT.sIx n 0 none:Nat):Int) = 0:=by simp [HT.sIx]
 have d1:((HT.sIx n n none:Nat):Int) = n:=by simp [HT.sIx]
 cases lo with
 | none =>
  cases hi with
  | none=>rw [d0,d1]; rfl
  | some j=>rw [d0,sIx_int]; rfl
 | some i =>
  cases hi with
  | none=>rw [d1,sIx_int]; rfl
  | some j=>rw [sIx_int,sIx_int]; rfl
theorem slice_cut (x:Str) (lo hi:Option Int):Txt.slice x lo hi = cutS x lo hi:=by
 have e:strSliceIndices lo hi 1 x.length = (List.range (HT.sIx x.length x.length hi - HT.sIx x.length 0 lo)).map (HT.sIx x.length 0 lo + ·):=by rw [strIdx,sliceRange_one]
 have pk:(strSliceIndices lo hi 1 x.length).filterMap (x.cps[·]?) = (x.cps.toList.drop (HT.sIx x.length 0 lo)).take (HT.sIx x.length x.length hi - HT.sIx x.length 0 lo):=by rw [e,pick_run]
 unfold Txt.slice
 split
 ·rename_i h
  have hl:(strSliceIndices lo hi 1 x.length).length = x.length:=by simpa using h
  rw [e,List.length_map,List.length_range] at hl
  unfold cutS
  have h2:HT.sIx x.length x.length hi <= x.length:=by
   cases hi with
   | none=>simp [HT.sIx]
   | some i=>simp only [HT.sIx]; split <;> lia
  have z:HT.sIx x.length 0 lo = 0 \/ x.length = 0:=by lia
  have:(x.cps.toList.drop (HT.sIx x.length 0 lo)).take (HT.sIx x.length x.length hi - HT.sIx x.length 0 lo) = x.cps.toList:=by
   have sz:x.cps.toList.length = x.length:=by simp [Str.length]
   rcases z with z | z
   ·rw [z,List.drop_zero,List.take_of_length_le (by lia)]
   ·have:x.cps.toList = []:=List.length_eq_zero_iff.mp (by lia)
    rw [this]; simp
  rw [this]
 ·rw [pk]; rfl
section
variable {X:Cx}
theorem isPart_val {v:Value} {p:Option Int} (h:IsPart v p):∃ l:Option (Int × Tok),v = partValue l /\ l.map (·.1) = p:=by
 cases h with
 | none=>exact ⟨none,rfl,rfl⟩
 | int i t=>exact ⟨some (i,t),rfl,rfl⟩
def rSlS:V -> Option Int -> Option Int -> Hp -> VK -> Prop:=fun x lo hi H Q=>∃ z,x = .str z /\ z.length <= sizeLine /\ Q (.str (cutS z lo hi)) H
theorem sl_str:SlR X rSlS:=by
 intro pins s σ H x v vl vu lo hi sl Q I rx hs pl pu h
 obtain ⟨z,rfl,hz,q⟩:=h
 obtain ⟨t,rfl⟩:=rx
 obtain ⟨l,rfl,rfl⟩:=isPart_val pl
 obtain ⟨u,rfl,rfl⟩:=isPart_val pu
 have hs':s.heap.IsSlice sl l u none:=hs
 refine ⟨"str",_,F.slot_str_getitem.lookup,typeIs_str _ _ _,wpAny_getItem_str_slice (l:=l) (u:=u) (st:=none) hs' rfl (post_val_or_str ?_)⟩
 have e:(if (((none:Option (Int × Tok)).map (·.1)).getD 1 == 1 && (slicePicked z l u none).length == z.length) = true then z else ⟨((slicePicked z l u none).filterMap (z.cps[·]?)).toArray⟩) = Txt.slice z (l.map (·.1)) (u.map (·.1)):=rfl
 rw [e]
 refine ⟨Nat.le_trans (Txt.slice_le z _ _) hz,fun t' k=>⟨.str (Txt.slice z (l.map (·.1)) (u.map (·.1))),H,I.tok _,⟨_,rfl⟩,?_⟩⟩
 rw [slice_cut]; exact q
def oSlA (t:PyData) (lo hi:Option Int) (R:PyData -> Prop):Prop:=match t with
 | .tuple ts=>R (.tuple (cutD ts lo hi))
 | .str x=>x.length <= 16777216 /\ R (.str (cutS x lo hi))
 | _=>False
def dSlA (d:DTE) (dl du:DTO):DTE:=fun ρ n R=>d ρ n fun t n1=>dl ρ n1 fun lo n2=>du ρ n2 fun hi n3=>oSlA t lo hi fun z=>R z n3
variable {e a b iter tg:Expr} {d da db:DTE} {lo hi:Option Expr} {dlo dhi:DTO} {pos p2:Pos}
theorem de_sliceA (h:DL X e d) (hl:DP X lo dlo) (hu:DP X hi dhi):DE X (.Subscript e (.Slice lo hi none p2) pos) (dSlA d dlo dhi):=by
 obtain ⟨ta,pa,h⟩:=h
 obtain ⟨tl,pl,hl⟩:=hl
 obtain ⟨tu,pu,hu⟩:=hu
 refine ⟨_,pe_slice (SlR.or (SlR.or sl_tup sl_tupW) sl_str) pa pl pu,fun C ρ σ H n Q R S hd hq=>?_⟩
 refine h C ρ σ H n _ _ S hd fun t n1 v H1 r1 e1 h1 q1=>?_
 have S1:=S.on e1 h1
 refine hl C ρ σ H1 n1 _ _ S1 r1 fun lo n2 H2 r2 e2 h2=>?_
 have S2:=S1.on e2 h2
 refine hu C ρ σ H2 n2 _ _ S2 r2 fun hi n3 H3 r3 e3 h3=>?_
 have S3:=S2.on e3 h3
 have q3:=(e2.trans e3).repT S.hx q1
 cases t with
 | tuple ts =>
  obtain ⟨a,vs,rfl,hs,rs⟩:=q3.tupI
  by_cases w:HT.sIx vs.length 0 lo = 0 /\ HT.sIx vs.length vs.length hi = vs.length
  ·refine .inl (.inr ⟨a,vs,rfl,hs,w,hq _ n3 _ H3 r3 (e1.trans (e2.trans e3)) h3 ?_⟩)
   rw [cutD_whole (by rw [<- rs.length]; exact w)]
   exact q3.rep (by intro _ z; cases z)
  ·refine .inl (.inl ⟨a,vs,rfl,hs,w,fun p hp=>hq _ n3 _ _ r3 (e1.trans (e2.trans (e3.trans (ExtE.new hp)))) (h3.same (same_upd hp)) ?_⟩)
   exact .newT (S3.free hp) hp (cut_reps rs lo hi)
 | str z =>
  rw [q3.strI]
  exact .inr ⟨z,rfl,r3.1,hq _ n3 _ H3 r3.2 (e1.trans (e2.trans e3)) h3 (.str _)⟩
 | _=>exact r3.elim
def repS (x:Str) (n:Int):Str:=⟨(List.replicate n.toNat x.cps.toList).flatten.toArray⟩
theorem foldl_cps (x:Array Nat):∀ (n:Nat) (acc:Array Nat),(List.replicate n x).foldl (· ++ ·) acc = (acc.toList ++ (List.replicate n x.toList).flatten).toArray
 | 0,acc=>by simp
 | n + 1,acc=>by
  rw [List.replicate_succ,List.foldl_cons,foldl_cps x n,List.replicate_succ,List.flatten_cons]
  simp
theorem op_mulS:OpR X (binaryOp .Mult) (fun x y H Q=>∃ i j,x = .str i /\ y = .int j /\ -100000 <= j /\ j <= 100000 /\ i.length <= 100 /\ Q (.str (repS i j)) H):=by
 intro pins s σ H x y v u Q I rx ry h
 obtain ⟨i,j,rfl,rfl,j0,j1,hi,q⟩:=h
 obtain ⟨t,rfl⟩:=rx
 obtain ⟨t',rfl⟩:=ry
 have e0:decide (j < -(2 ^ 63:Int)) = false:=decide_eq_false (by lia)
 have e1:decide (j >= 2 ^ 63) = false:=decide_eq_false (by lia)
 have bnd:∀ n:Nat,n <= 100000 -> i.length * n <= 10000000:=fun n hn=>Nat.mul_le_mul hi hn
 refine P.mul_str (by rw [e0,e1]; rfl) (fun h1 _ h2=>?_) (fun h1 _=>?_) ?_
 ·have h3:(100:Int) <= (2 ^ 63 - 1) / j:=by
   apply Int.le_ediv_of_mul_le (by lia)
   lia
  lia
 ·have:=bnd j.toNat (by lia)
  unfold tooLong
  exact decide_eq_false (by have:sizeLine = 16777216:=rfl; lia)
 ·by_cases c1:j < 1
  ·rw [if_pos c1]
   have e:repS i j = Str.empty:=by
    unfold repS
    rw [show j.toNat = 0 by lia]; rfl
   rw [e] at q
   exact ⟨by decide,.str Str.empty,H,I.tok _,⟨_,rfl⟩,q⟩
  ·rw [if_neg c1]
   by_cases c2:(j == 1 || i.length == 0) = true
   ·rw [if_pos c2]
    have e:repS i j = i:=by
     unfold repS
     rw [Bool.or_eq_true,beq_iff_eq,beq_iff_eq] at c2
     rcases c2 with c2 | c2
     ·subst c2; simp
     ·have z:i.cps.toList = []:=List.length_eq_zero_iff.mp (by simpa [Str.length] using c2)
      have z':i.cps = #[]:=by
       have:=congrArg List.toArray z
       simpa using this
      rw [z]
      have:(List.replicate j.toNat ([]:List Nat)).flatten = []:=by simp
      rw [this,<- z']
    rw [e] at q
    exact ⟨.str i,H,I,⟨_,rfl⟩,q⟩
   ·rw [if_neg c2]
    have e:repS i j = ⟨(List.replicate j.toNat i.cps).foldl (· ++ ·) #[]⟩:=by
     unfold repS
     rw [foldl_cps]; simp
    rw [e] at q
    refine ⟨?_,.str _,H,I.tok _,⟨_,rfl⟩,q⟩
    have:=bnd j.toNat (by lia)
    show (⟨(List.replicate j.toNat i.cps).foldl (· ++ ·) #[]⟩:Str).length <= sizeLine
    rw [<- e]
    unfold repS Str.length
    rw [List.size_toArray,List.length_flatten,List.map_replicate,List.sum_replicate_nat,Array.length_toList]
    have e3:sizeLine = 16777216:=rfl
    have e4:j.toNat * i.cps.size = i.length * j.toNat:=by rw [Nat.mul_comm]; rfl
    lia
def oMulA:G2
 | .int i,.int j,R=>CMul i j /\ R (.int (i * j))
 | .str i,.int j,R=>-100000 <= j /\ j <= 100000 /\ i.length <= 100 /\ R (.str (repS i j))
 | _,_,_=>False
theorem op_mulA:OpR X (binaryOp .Mult) (fun x y H Q=>(rI CMul fun i j=>.int (i * j)) x y H Q \/ ∃ i j,x = .str i /\ y = .int j /\ -100000 <= j /\ j <= 100000 /\ i.length <= 100 /\ Q (.str (repS i j)) H):=OpR.or op_mul op_mulS
theorem gp_mulA:Gp2 X (fun x y H Q=>(rI CMul fun i j=>.int (i * j)) x y H Q \/ ∃ i j,x = .str i /\ y = .int j /\ -100000 <= j /\ j <= 100000 /\ i.length <= 100 /\ Q (.str (repS i j)) H) oMulA:=by
 intro hd O H x y t u Q R dom rx ry g hq
 unfold oMulA at g
 split at g
 ·rw [rx.intI,ry.intI]
  exact .inl ⟨_,_,rfl,rfl,g.1,hq _ _ H g.2 (Same.refl _) (.int _)⟩
 ·rw [rx.strI,ry.intI]
  exact .inr ⟨_,_,rfl,rfl,g.1,g.2.1,g.2.2.1,hq _ _ H g.2.2.2 (Same.refl _) (.str _)⟩
 ·exact g.elim
theorem de_mulS (ha:DL X a da) (hb:DL X b db):DE X (.BinOp a .Mult b pos) (dOp oMulA da db):=de_op op_mulA gp_mulA ha hb
end
end L2
namespace L2
open PySem PySem.Spec PyProof.Rows
section
variable {X:Cx} {a b:Expr} {rest:List Expr} {ta tb:TE} {da db:DTE} {pos:Pos}
def tOrA (K:PySem.W.Frag) (ta tb:TE):TE:=fun σ H Q=>ta σ H fun x H1=>∃ k,TruV K x H1 k /\ if k = true then Q x H1 else tb σ H1 Q
theorem pe_orA (ha:PE X a ta) (hb:PE X (.BoolOp .Or (b :: rest) pos) tb):PE X (.BoolOp .Or (a :: b :: rest) pos) (tOrA X.K ta tb):=by
 intro pins s σ H Q I h
 refine BoolOp_or (thn (ha pins s σ H _ I h) fun v s1 ⟨x,H1,I1,r1,q1⟩=>?_)
 obtain ⟨k,e,q1⟩:=q1
 refine thn (tru_ok pins s1 σ H1 x v (fun c H'=>c = k /\ H' = H1) I1 r1 ⟨k,e,rfl,rfl⟩) fun c s2 h2=>?_
 obtain ⟨H2,I2,rfl,rfl⟩:=h2
 cases c with
 | false=>exact hb pins s2 σ H2 Q I2 q1
 | true=>exact ⟨x,H2,I2,r1,q1⟩
def dOrA (da db:DTE):DTE:=fun ρ n R=>da ρ n fun t n1=>truD t fun b=>if b = true then R t n1 else db ρ n1 R
theorem de_orA (h:DE X a da) (h':DE X (.BoolOp .Or (b :: rest) pos) db):DE X (.BoolOp .Or (a :: b :: rest) pos) (dOrA da db):=by
 obtain ⟨ta,pa,h⟩:=h
 obtain ⟨tb,pb,h'⟩:=h'
 refine ⟨_,pe_orA pa pb,fun C ρ σ H n Q R S hd hq=>?_⟩
 refine h C ρ σ H n _ _ S hd fun t n1 v H1 r e1 h1 q1=>?_
 refine tru_of (Q:=fun k H1=>if k = true then Q v H1 else tb σ H1 Q) (.inl q1) r fun b hb=>?_
 cases b with
 | true=>exact iteT (hq _ n1 _ H1 hb e1 h1 q1)
 | false=>exact iteF (h' C ρ σ H1 n1 Q R (S.on e1 h1) hb fun t n2 v H2 r e2 h2 q2=>hq t n2 v H2 r (e1.trans e2) h2 q2)
end
section
variable {ρ:En} {n:Nat} {d da db:DTE} {dlo dhi:DTO} {R:PyData -> Nat -> Prop} {Rl:List PyData -> Nat -> Prop} {Q:PyData -> Prop} {xs:List PyData} {lo hi:Option Int} {x:Str} {i j:Int} {Ql:List PyData -> Prop}
instance s_orA:Stp (dOrA da db ρ n R) (da ρ n fun t n1=>truD t fun b=>if b = true then R t n1 else db ρ n1 R):=⟨fun h=>h⟩
instance s_slA:Stp (dSlA d dlo dhi ρ n R) (d ρ n fun t n1=>dlo ρ n1 fun lo n2=>dhi ρ n2 fun hi n3=>oSlA t lo hi fun z=>R z n3):=⟨fun h=>h⟩
instance s_slAT:Stp (oSlA (.tuple xs) lo hi Q) (Q (.tuple (cutD xs lo hi))):=⟨fun h=>h⟩
instance s_slAS:Stp (oSlA (.str x) lo hi Q) (x.length <= 16777216 /\ Q (.str (cutS x lo hi))):=⟨fun h=>h⟩
instance s_mulS:Stp (oMulA (.str x) (.int j) Q) (-100000 <= j /\ j <= 100000 /\ x.length <= 100 /\ Q (.str (repS x j))):=⟨fun h=>h⟩
end
end L2
namespace L2
open PySem PySem.Spec PyProof.Rows
mutual
def plnD:PyData -> Bool
 | .dict []=>true
 | .dict _=>false
 | .tuple ts=>decide (ts.length <= 1000000) && plnDs ts
 | .list ts=>decide (ts.length <= 1000000) && plnDs ts
 | .str x=>decide (x.length <= 1000000)
 | _=>true
def plnDs:List PyData -> Bool
 | []=>true
 | t :: ts=>plnD t && plnDs ts
end
def IsNm (s:Str):Prop:=1 <= s.length /\ s.length <= 8 /\ ∀ c ∈ s.cps.toList,97 <= c /\ c <= 122
theorem len_cps (s:Str):s.cps.toList.length = s.length:=by simp [Str.length]
theorem app_cps (a b:Str):(a ++ b).cps.toList = a.cps.toList ++ b.cps.toList:=by
 show (a.cps ++ b.cps).toList = _
 simp
theorem Str.ext' {a b:Str} (h:a.cps.toList = b.cps.toList):a = b:=by
 cases a with | mk a =>
 cases b with | mk b =>
 have:a = b:=Array.toList_inj.mp h
 rw [this]
theorem j_ixS {x:Str} {i:Int} {k c:Nat} {R:PyData -> Prop} (hl:x.length <= 16777216) (hi:i = (k:Int)) (e:x.cps.toList[k]? = some c) (h:R (.str ⟨#[c]⟩)):oIx (.str x) (.int i) R:=by
 subst hi
 have a:atI x.cps.toList (k:Int) = some c:=Bd.atI_int (by lia) (by simpa using e)
 show x.length <= 16777216 /\ (match atI x.cps.toList (k:Int) with | some c=>R (.str ⟨#[c]⟩) | none=>False)
 rw [a]
 exact ⟨hl,h⟩
theorem letters {k:Nat} (h:k < 26):(Str.ofString "abcdefghijklmnopqrstuvwxyz").cps.toList[k]? = some (97 + k):=by
 have:∀ i:Fin 26,(Str.ofString "abcdefghijklmnopqrstuvwxyz").cps.toList[i.val]? = some (97 + i.val):=by decide +kernel
 exact this ⟨k,h⟩
theorem cutS_head {x:Str} {i:Int} {k:Nat} (h:i = (k:Int)):(cutS x none (some i)).cps.toList = x.cps.toList.take k:=by
 subst h
 unfold cutS
 rw [HT.sIx_none,HT.sIx_nat]
 simp only [List.drop_zero,Nat.sub_zero]
 rw [<- len_cps x]
 simp [List.take_eq_take_iff]
theorem cutS_tail {x:Str} {i:Int} {k:Nat} (h:i = (k:Int)) (hk:k <= x.length):(cutS x (some i) none).cps.toList = x.cps.toList.drop k:=by
 subst h
 unfold cutS
 rw [HT.sIx_none,HT.sIx_nat,Nat.min_eq_left hk]
 show (List.take _ (List.drop k x.cps.toList)) = _
 rw [List.take_of_length_le (by rw [List.length_drop,len_cps]; lia)]
def OkK (k:Nat) (t:PyData):Prop:=t.canLay0 = true /\ t.depth <= k
theorem OkK.okd {k:Nat} {t:PyData} (h:OkK k t) (hk:k <= 60:=by decide):Okd t:=⟨h.1,Nat.le_trans h.2 hk⟩
theorem okK_int {i:Int}:OkK 0 (.int i):=⟨by simp [PyData.canLay0],by simp [PyData.depth]⟩
theorem okK_none:OkK 0 .none:=⟨by simp [PyData.canLay0],by simp [PyData.depth]⟩
theorem okK_str {s:Str} (h:PyData.canLay0 (.str s) = true):OkK 0 (.str s):=⟨h,by simp [PyData.depth]⟩
theorem OkK.mono {k k':Nat} {t:PyData} (h:OkK k t) (l:k <= k'):OkK k' t:=⟨h.1,Nat.le_trans h.2 l⟩
theorem okK_all {k:Nat}:∀ {ts:List PyData},(∀ t ∈ ts,OkK k t) -> PyData.canLayAll0 ts = true /\ PyData.depthAll ts <= k
 | [],_=>⟨by simp [PyData.canLayAll0],by simp [PyData.depthAll]⟩
 | t :: ts,h=>by
  obtain ⟨a,b⟩:=okK_all (ts:=ts) fun u hu=>h u (by simp [hu])
  have c:=h t (by simp)
  refine ⟨by simp [PyData.canLayAll0,c.1,a],?_⟩
  have:=c.2
  simp only [PyData.depthAll]; lia
theorem okK_tup {k:Nat} {ts:List PyData} (h:∀ t ∈ ts,OkK k t):OkK (k + 1) (.tuple ts):=by
 obtain ⟨a,b⟩:=okK_all h
 exact ⟨by simpa only [PyData.canLay0] using a,by simp only [PyData.depth]; lia⟩
theorem okK_lst {k:Nat} {ts:List PyData} (h:∀ t ∈ ts,OkK k t):OkK (k + 1) (.list ts):=by
 obtain ⟨a,b⟩:=okK_all h
 exact ⟨by simpa only [PyData.canLay0] using a,by simp only [PyData.depth]; lia⟩
theorem okK_pr {b:Int × Int}:OkK 1 (prD b):=okK_tup fun t ht=>by
 simp only [List.mem_cons,List.not_mem_nil,or_false] at ht
 rcases ht with rfl | rfl <;> exact okK_int
theorem nm_ok {s:Str} (h:IsNm s):OkK 0 (.str s):=okK_str (by
 simp only [PyData.canLay0]
 show (s.cps.all (· < 0x110000)) = true
 rw [<- Array.all_toList,List.all_eq_true]
 intro c hc
 have:=h.2.2 c hc
 exact decide_eq_true (by lia))
theorem eqv_nilL {xs:List PyData}:PyData.eqv (.list xs) (.list []) = xs.isEmpty:=by
 cases xs with
 | nil=>rfl
 | cons a b=>rfl
theorem comp_filter {α:Type} {cs:List α} {D:α -> PyData} {tg:DTG} {tt:DTT} {d:DTE} {ρ0:En} {n:Nat} {Rl:List PyData -> Nat -> Prop} (p:α -> Bool) (F:α -> PyData) (hl:cs.length <= 16777216)
  (step:∀ b ∈ cs,∀ (K:PyData -> Nat -> Prop) (X:Nat -> Prop),(p b = true -> K (F b) n) -> (p b = false -> X n) -> tg (D b) ρ0 fun ρ1=>tt ρ1 n fun c n2=>if c = true then d ρ1 n2 K else X n2) (fin:Rl ((cs.filter p).map F) n):compGo tg tt d ρ0 (cs.map D) [] n Rl:=by
 refine compI0 (fun j acc m=>m = n /\ acc = ((cs.take j).filter p).map F) ⟨rfl,rfl⟩ ?_ ?_
 ·rintro j x acc m K ej ⟨rfl,rfl⟩ hK
  rw [List.getElem?_map] at ej
  cases eb:cs[j]? with
  | none=>rw [eb] at ej; cases ej
  | some b =>
   rw [eb] at ej; cases ej
   obtain ⟨hj,e2⟩:=List.getElem?_eq_some_iff.mp eb
   have tk:cs.take (j + 1) = cs.take j ++ [b]:=by rw [List.take_succ,eb]; rfl
   refine step b (List.mem_of_getElem? eb) _ _ (fun hp=>⟨?_,hK _ _ ⟨rfl,?_⟩⟩) (fun hp=>hK _ _ ⟨rfl,?_⟩)
   ·have:=List.length_filter_le p (cs.take j)
    simp at this ⊢; lia
   ·rw [tk,List.filter_append,List.map_append]; simp [hp]
   ·rw [tk,List.filter_append,List.map_append]; simp [hp]
 ·rintro acc m ⟨rfl,rfl⟩
  rw [List.length_map,List.take_length]
  exact fin
theorem repS_cps {x:Str} {n:Int}:(repS x n).cps.toList = (List.replicate n.toNat x.cps.toList).flatten:=rfl
end L2
namespace L2
open PySem PySem.Spec PyProof.Rows
theorem j_ixLm {xs:List PyData} {r:Int} {R:PyData -> Prop} (r0:0 <= r) (r1:r < xs.length) (h:∀ x ∈ xs,R x):oIx (.list xs) (.int r) R:=by
 have hr:r.toNat < xs.length:=by omega
 rw [l_ixL (Bd.atI_int r0 (List.getElem?_eq_getElem hr))]
 exact h _ (List.getElem_mem hr)
theorem cut_init {ts:List PyData}:cutD ts none (some (-1)) = ts.take (ts.length - 1):=by
 unfold cutD
 have e:HT.sIx ts.length ts.length (some (-1)) = ts.length - 1:=by
  have:HT.sIx ts.length ts.length (some (-1)) = if (-1:Int) < 0 then ((-1:Int) + (ts.length:Int)).toNat else min (-1:Int).toNat ts.length:=by
   first | rfl | (unfold HT.sIx; rfl) | (simp [HT.sIx]; done)
  rw [this,if_pos (by decide)]; omega
 rw [HT.sIx_none,e]; simp
end L2
namespace L2
open PySem PySem.Spec PyProof.Rows
section
variable {prog:Program} {w:World} {A:Around} {R:Result -> Shared -> Prop} {s:Shared} {elt tg1 it1 tg2 it2:Expr} {ifs1 ifs2:List Expr} {scope:Scope} {pos:Pos} {it acc:Value} {env:Env}
theorem compTurn_out (it acc:Value) (env:Env):compTurn (.ListComp elt [⟨tg1,it1,ifs1,0⟩,⟨tg2,it2,ifs2,0⟩] scope pos) 0 it acc env = (do
      standAt it1.pos
      match <- pyNext it with
      | none=>pure (.done .next)
      | some v =>
       letOwnedTupleGo tg1 it v
       assign tg1 env v
       let mut ok:=true
       for c in ifs1 do
        if ok then ok <- isTrue c env (eval c env)
       if ok then
        let x <- eval it2 env
        standAt it2.pos
        let x <- foldedSetIterable it2 env x
        let _ <- runOwn (.compStart (.ListComp elt [⟨tg1,it1,ifs1,0⟩,⟨tg2,it2,ifs2,0⟩] scope pos) 1 (<- holding [x] (pyIter x)) acc env) env
       again (.compLoop (.ListComp elt [⟨tg1,it1,ifs1,0⟩,⟨tg2,it2,ifs2,0⟩] scope pos) 0 it acc env)):=by rfl
theorem compTurn_in (it acc:Value) (env:Env):compTurn (.ListComp elt [⟨tg1,it1,ifs1,0⟩,⟨tg2,it2,ifs2,0⟩] scope pos) 1 it acc env = (do
      standAt it2.pos
      match <- pyNext it with
      | none=>pure (.done .next)
      | some v =>
       letOwnedTupleGo tg2 it v
       assign tg2 env v
       let mut ok:=true
       for c in ifs2 do
        if ok then ok <- isTrue c env (eval c env)
       if ok then
        (do let _ <- call (.builtin "list.append") [acc,<- eval elt env])
       again (.compLoop (.ListComp elt [⟨tg1,it1,ifs1,0⟩,⟨tg2,it2,ifs2,0⟩] scope pos) 1 it acc env)):=by rfl
theorem turns_in (I:Nat -> Shared -> Prop)
  (turn:∀ n s,I n s -> wpAny (model prog w) A (pyNext it) (fun r s₁=>match r with
   | none=>R (.ok .next) s₁
   | some v=>wpAny (model prog w) A (letOwnedTupleGo tg2 it v) (fun _ s₂=>wpAny (model prog w) A (assign tg2 env v) (fun _ s₃ =>
     wpAny (model prog w) A (forIn ifs2 true fun c r=>if r = true then do let ok <- isTrue c env (eval c env); pure (ForInStep.yield ok) else pure (ForInStep.yield r)) (fun ok s₄ =>
      if ok = true then wpAny (model prog w) A (eval elt env) (fun x s₅=>wpAny (model prog w) A (call (.builtin "list.append") [acc,x]) (fun _ s₆=>∃ m,m < n /\ I m s₆) NoX s₅) NoX s₄
      else ∃ m,m < n /\ I m s₄) NoX s₃) NoX s₂) NoX s₁) NoX s) (n:Nat) (h:I n s) :
  codeAny (model prog w) A (.compLoop (.ListComp elt [⟨tg1,it1,ifs1,0⟩,⟨tg2,it2,ifs2,0⟩] scope pos) 1 it acc env) R s:=by
 refine codeAny_loop rfl I (fun n s hI=>?_) n h
 show wpAny _ A ((compTurn (.ListComp elt [⟨tg1,it1,ifs1,0⟩,⟨tg2,it2,ifs2,0⟩] scope pos) 1 it acc env).onRaise (fun x=>do noteFrame x env; theTreesLotGoes x)) _ _ s
 refine wpAny_noted (wpAny_mono (E:=NoX) ?_ (fun _ _ q=>q) fun _ _ z=>False.elim z)
 rw [compTurn_in]
 refine wpAny_bind (wpAny_standAt (wpAny_bind (thn (turn n s hI) fun r s₁ h₁=>?_)))
 cases r with
 | none=>exact wpAny_pure h₁
 | some v =>
  refine wpAny_bind (thn h₁ fun _ s₂ h₂=>wpAny_bind (thn h₂ fun _ s₃ h₃=>wpAny_bind (thn h₃ fun ok s₄ h₄=>?_)))
  cases ok with
  | false=>exact wpAny_pure ⟨rfl,h₄⟩
  | true =>
   refine wpAny_bind (wpAny_bind (thn h₄ fun x s₅ h₅=>wpAny_bind (thn h₅ fun _ s₆ h₆=>?_)))
   exact wpAny_pure (wpAny_pure ⟨rfl,h₆⟩)
theorem turns_out (hs:∀ x,foldedSetIterable it2 env x = pure x) (I:Nat -> Shared -> Prop)
  (turn:∀ n s,I n s -> wpAny (model prog w) A (pyNext it) (fun r s₁=>match r with
   | none=>R (.ok .next) s₁
   | some v=>wpAny (model prog w) A (letOwnedTupleGo tg1 it v) (fun _ s₂=>wpAny (model prog w) A (assign tg1 env v) (fun _ s₃ =>
     wpAny (model prog w) A (forIn ifs1 true fun c r=>if r = true then do let ok <- isTrue c env (eval c env); pure (ForInStep.yield ok) else pure (ForInStep.yield r)) (fun ok s₄ =>
      if ok = true then wpAny (model prog w) A (eval it2 env) (fun x s₅=>wpAny (model prog w) A (pyIter x) (fun itv s₆ =>
       codeAny (model prog w) A (.compStart (.ListComp elt [⟨tg1,it1,ifs1,0⟩,⟨tg2,it2,ifs2,0⟩] scope pos) 1 itv acc env) (fun r s₇=>r = .ok .next /\ ∃ m,m < n /\ I m s₇) s₆) NoX s₅) NoX s₄
      else ∃ m,m < n /\ I m s₄) NoX s₃) NoX s₂) NoX s₁) NoX s) (n:Nat) (h:I n s) :
  codeAny (model prog w) A (.compLoop (.ListComp elt [⟨tg1,it1,ifs1,0⟩,⟨tg2,it2,ifs2,0⟩] scope pos) 0 it acc env) R s:=by
 refine codeAny_loop rfl I (fun n s hI=>?_) n h
 show wpAny _ A ((compTurn (.ListComp elt [⟨tg1,it1,ifs1,0⟩,⟨tg2,it2,ifs2,0⟩] scope pos) 0 it acc env).onRaise (fun x=>do noteFrame x env; theTreesLotGoes x)) _ _ s
 refine wpAny_noted (wpAny_mono (E:=NoX) ?_ (fun _ _ q=>q) fun _ _ z=>False.elim z)
 rw [compTurn_out]
 refine wpAny_bind (wpAny_standAt (wpAny_bind (thn (turn n s hI) fun r s₁ h₁=>?_)))
 cases r with
 | none=>exact wpAny_pure h₁
 | some v =>
  refine wpAny_bind (thn h₁ fun _ s₂ h₂=>wpAny_bind (thn h₂ fun _ s₃ h₃=>wpAny_bind (thn h₃ fun ok s₄ h₄=>?_)))
  cases ok with
  | false=>exact wpAny_pure ⟨rfl,h₄⟩
  | true =>
   refine wpAny_bind (thn h₄ fun x s₅ h₅=>wpAny_bind (wpAny_standAt (wpAny_bind (wpAny_of_eq (hs x) (wpAny_bind (wpAny_holding (thn h₅ fun itv s₆ h₆=>?_)))))))
   refine wpAny_bind (wpAny_runOwn (codeAny_mono h₆ fun r s₇ h₇=>?_))
   obtain ⟨rfl,m,hm,hI'⟩:=h₇
   exact wpAny_pure ⟨rfl,m,hm,hI'⟩
theorem start_in
  (h0:codeAny (model prog w) A (.compLoop (.ListComp elt [⟨tg1,it1,ifs1,0⟩,⟨tg2,it2,ifs2,0⟩] scope pos) 1 it acc env) R s)
  (h:wpAny (model prog w) A (pyIter it) (fun it' s'=>codeAny (model prog w) A (.compLoop (.ListComp elt [⟨tg1,it1,ifs1,0⟩,⟨tg2,it2,ifs2,0⟩] scope pos) 1 it' acc env) R s')
   (notedBy (model prog w) A env fun x s'=>R (.error x) s') s) :
  codeAny (model prog w) A (.compStart (.ListComp elt [⟨tg1,it1,ifs1,0⟩,⟨tg2,it2,ifs2,0⟩] scope pos) 1 it acc env) R s:=by
 refine codeAny_of_tree ?_
 show wpAny _ _ ((compStart (.ListComp elt [⟨tg1,it1,ifs1,0⟩,⟨tg2,it2,ifs2,0⟩] scope pos) 1 it acc env).onRaise (fun x=>do noteFrame x env; standAt theWindowsPlace)) _ _ s
 refine wpAny_notedAt ?_
 unfold compStart
 show wpAny _ _ (PySem.ask >>= _) _ _ s
 refine wpAny_bind (wpAny_askSetting (wpAny_ite ?_))
 split
 ·first
   | exact wpAny_bind (wpAny_pure (wpAny_pure (And.intro rfl h0)))
   | exact wpAny_pure (And.intro rfl h0)
 ·first
   | exact wpAny_bind (wpAny_rule (wpAny_bind (wpAny_standAt (wpAny_bind (wpAny_mono h (fun it' s' h'=>wpAny_pure (And.intro rfl h')) fun _ _ x=>x)))))
   | (refine wpAny_bind (wpAny_rule ?_); show wpAny _ _ (standAt it2.pos >>= _) _ _ s; exact wpAny_bind (wpAny_standAt (wpAny_bind (wpAny_mono h (fun it' s' h'=>wpAny_pure (And.intro rfl h')) fun _ _ x=>x))))
end
def InnerW (g:TG) (tt:TT) (te:TE) (σ:St) (J:It) (H1:Hp) (D:Addr) (Q:Hp -> Prop):Prop:=∃ W:Nat -> Nat -> Hp -> Prop,(∃ m,W 0 m H1) /\ ∀ i m H2,W i m H2 ->
 (J.stop i H2 /\ Q H2) \/ (J.go i H2 /\ ∃ (N:V -> Hp -> Prop) (N':Hp -> Prop),(∀ v H6,N v H6 -> ∃ ys,H6 D = some (.lst ys) /\ ys.length < sizeLine /\ ∃ m',m' < m /\ W (i + 1) m' (upd H6 D (.lst (ys ++ [v])))) /\ (∀ H5,N' H5 -> ∃ m',m' < m /\ W (i + 1) m' H5) /\
  ∀ x H3,J.yld i H2 x H3 -> g x σ H3 fun σ4 H4=>Wk σ σ4 /\ tt σ4 H4 fun b H5=>if b = true then te σ4 H5 N else N' H5)
section
variable {Y:Cx} {elt tg1 it1 tg2 it2:Expr} {ifs1 ifs2:List Expr} {scope:Scope} {pos:Pos} {g:TG} {tt:TT} {te:TE}
theorem inner_run (hxe:Y.xe = NoX) (hc:Y.calm = true) (hg:PG Y tg2 g) (ht:PTs Y ifs2 tt) (he:PE Y elt te) {pins:List (Addr × Obj)} {σ:St} {D:Addr} {itv:Value} {s:Shared} {Q:Hp -> Prop} {R:Result -> Shared -> Prop}
  (h:PIE Y pins σ tg2 (fun J H1=>InnerW g tt te σ J H1 D Q) itv s) (hR:∀ s' H',Inv Y pins σ H' s' -> Q H' -> R (.ok .next) s') :
  codeAny (model Y.prog Y.w) Y.A (.compStart (.ListComp elt [⟨tg1,it1,ifs1,0⟩,⟨tg2,it2,ifs2,0⟩] scope pos) 1 itv (.ref D) Y.env) R s:=by
 obtain ⟨it,fp,tn,J,H2,e,I2,T,st2,f2,W,⟨m0,w0⟩,turn⟩:=h
 subst e
 have stat:∀ {H':Hp},(∀ b ∈ fp,H' b = none) -> ∀ b ∈ fp,FpOk Y pins H' b:=fun hn b hb=>⟨hn b hb,(f2 b hb).2⟩
 have loop:codeAny (model Y.prog Y.w) Y.A (.compLoop (.ListComp elt [⟨tg1,it1,ifs1,0⟩,⟨tg2,it2,ifs2,0⟩] scope pos) 1 (.ref it) (.ref D) Y.env) R s:=by
  refine turns_in (fun n s'=>∃ i H',Inv Y pins σ H' s' /\ tn i s'.heap /\ (∀ b ∈ fp,H' b = none) /\ W i n H') ?_ m0 ⟨0,_,I2,st2,fun b hb=>(f2 b hb).1,w0⟩
  rintro n s4 ⟨i,H4,I4,st4,fr4,w4⟩
  rcases turn i n H4 w4 with ⟨stop,qn⟩ | ⟨go,N,N',hN,hN',step⟩
  ·refine thn (T.done Y rfl rfl rfl hc i pins s4 _ H4 NoX I4 (stat fr4) st4 stop) fun r s5 ⟨hr,I5⟩=>?_
   subst hr
   exact hR _ _ I5 qn
  ·refine thn (T.item Y rfl rfl rfl hc i pins s4 _ H4 NoX I4 (stat fr4) st4 go) fun r s5 ⟨u,hr,h5⟩=>?_
   subst hr
   refine thn h5 fun _ s6 ⟨x,H6,I6,r6,y6,st6,fr6⟩=>?_
   have I6':=I6.pinned (stat fr6) (T.obj _ _ st6)
   have a1:=hg _ s6 _ H6 x u _ I6' r6 (step x H6 y6)
   rw [hxe] at a1
   refine thn a1 fun _ s7 ⟨σ7,H7,I7,wk,q7⟩=>?_
   obtain ⟨wl,wv⟩:=wk.weak
   have again:∀ {s8:Shared} {H8:Hp} {m':Nat},Inv Y (pins ++ pinsAt fp s6.heap) σ7 H8 s8 -> m' < n -> W (i + 1) m' H8 ->
     ∃ m,m < n /\ ∃ i H',Inv Y pins σ H' s8 /\ tn i s8.heap /\ (∀ b ∈ fp,H' b = none) /\ W i m H':=fun {s8 H8 m'} I8 hm w8=>by
    refine ⟨m',hm,i + 1,H8,(I8.unpinned).weak wl wv,T.keep _ _ _ st6 fun b hb o e=>(I8.pin (b,o) (List.mem_append_right _ (List.mem_append_right _ (mem_pinsAt hb e)))).1,fun b hb=>?_,w8⟩
    obtain ⟨o,e,d⟩:=T.obj _ _ st6 b hb
    exact (I8.pin (b,o) (List.mem_append_right _ (List.mem_append_right _ (mem_pinsAt hb e)))).2.1
   have a2:=ht _ s7 σ7 H7 _ I7 q7
   rw [hxe] at a2
   refine thn a2 fun ok s8 ⟨H8,I8,q8⟩=>?_
   cases ok with
   | false =>
    obtain ⟨m',hm,w8⟩:=hN' H8 (by simpa using q8)
    exact again I8 hm w8
   | true =>
    have a3:=he _ s8 σ7 H8 N I8 (by simpa using q8)
    rw [hxe] at a3
    refine thn a3 fun y s9 ⟨v,H9,I9,r9,q9⟩=>?_
    obtain ⟨ys,hD,hl,m',hm,w9⟩:=hN v H9 q9
    have a4:=mt_append (X:=Y) _ s9 σ7 H9 (.ref D) [v] _ [y] (fun _ H'=>H' = upd H9 D (.lst (ys ++ [v]))) I9 rfl (.cons r9 .nil) ⟨_,ys,v,rfl,rfl,hD,hl,rfl⟩
    rw [hxe] at a4
    refine thn a4 fun _ s10 ⟨_,H10,I10,_,q10⟩=>?_
    subst q10
    exact again I10 hm w9
 exact start_in loop (T.self Y.A 0 _ _ _ st2 loop)
end
def CompW2 (own:List Str) (capt:List Nat) (g:TG) (tt:TT) (wi2:TI) (g2:TG) (tt2:TT) (te:TE) (σ:St) (J:It) (H1:Hp) (D:Addr) (Q:VK):Prop:=∃ W:Nat -> Nat -> Hp -> Prop,(∃ m,W 0 m (upd H1 D (.lst []))) /\ ∀ i m H2,W i m H2 ->
 (J.stop i H2 /\ Q (.ref D) H2) \/ (J.go i H2 /\ ∃ (N N':Hp -> Prop),(∀ H6,N H6 -> ∃ m',m' < m /\ W (i + 1) m' H6) /\ (∀ H5,N' H5 -> ∃ m',m' < m /\ W (i + 1) m' H5) /\
  ∀ x H3,J.yld i H2 x H3 -> g x (noneS own ++ capS capt σ) H3 fun σ4 H4=>Wk (noneS own ++ capS capt σ) σ4 /\ tt σ4 H4 fun b H5=>if b = true then wi2 σ4 H5 (fun J2 H6=>InnerW g2 tt2 te σ4 J2 H6 D N) else N' H5)
def tComp2 (own:List Str) (capt:List Nat) (wi:TI) (g:TG) (tt:TT) (wi2:TI) (g2:TG) (tt2:TT) (te:TE):TE:=fun σ H Q=>wi σ H fun J H1=>∀ D,H1 D = none -> CompW2 own capt g tt wi2 g2 tt2 te σ J H1 D Q
section
variable {X:Cx} {scope:Scope} {own:List Str} {capt:List Nat} {elt tg iter tg2 it2:Expr} {ifs ifs2:List Expr} {pos:Pos} {wi wi2:TI} {g g2:TG} {tt tt2:TT} {te:TE}
theorem comp_run2 (hc:X.calm = true) (S:CompScope scope own capt X)
  (hg:∀ C s₀ H₀ fp,PG (compCx X scope own capt C s₀ H₀ fp) tg g) (ht:∀ C s₀ H₀ fp,PTs (compCx X scope own capt C s₀ H₀ fp) ifs tt) (hi2:∀ C s₀ H₀ fp,PI (compCx X scope own capt C s₀ H₀ fp) tg2 it2 wi2)
  (hg2:∀ C s₀ H₀ fp,PG (compCx X scope own capt C s₀ H₀ fp) tg2 g2) (ht2:∀ C s₀ H₀ fp,PTs (compCx X scope own capt C s₀ H₀ fp) ifs2 tt2) (he:∀ C s₀ H₀ fp,PE (compCx X scope own capt C s₀ H₀ fp) elt te)
  (hs2:∀ (C:Addr) (x:Value),foldedSetIterable it2 (compEnvC scope (closed X.env scope.names []) C X.env) x = pure x)
  {pins:List (Addr × Obj)} {σ:St} {Q:VK} {itv:Value} {s2:Shared} {E:Value -> Shared -> Prop} {RR:Value -> Addr -> Result -> Shared -> Prop}
  (h2:PIE X pins σ tg (fun J H1=>∀ D,H1 D = none -> CompW2 own capt g tt wi2 g2 tt2 te σ J H1 D Q) itv s2)
  (hR:∀ D C s' H',(∃ m,s'.heap.Ns C m) -> (∀ h'',Heap.SameBut C s'.heap h'' -> Inv X pins σ H' { s' with heap:=h'' }) -> H' C = none -> FpOk X pins H' C -> Q (.ref D) H' -> RR (.ref D) C (.ok .next) s') :
  wpAny (model X.prog X.w) X.A (newList []) (fun acc s₃=>wpAny (model X.prog X.w) X.A (newFunctionEnv scope X.env.globals (closed X.env scope.names []) [] X.env.qual none .none (some X.env)) (fun cenv s₄ =>
   codeAny (model X.prog X.w) X.A (.compStart (.ListComp elt [⟨tg,iter,ifs,0⟩,⟨tg2,it2,ifs2,0⟩] scope pos) 0 itv acc { cenv with scope:=relabel scope X.env }) (RR acc cenv.locals) s₄) E s₃) E s2:=by
 obtain ⟨it,fp,tn,J,H2,e,I2,T,st2,f2,rd⟩:=h2
 subst e
 have hfp:∀ b ∈ fp,b < s2.heap.objs.size:=fun b hb=>by
  obtain ⟨o,e,_⟩:=T.obj 0 _ st2 b hb
  exact Heap.lt_size e
 refine wpAny_newObj_type (wpAny_newFunctionEnv S.nocell (by intro y hy; simp at hy) (fun h₁ hns₁ hsb₁=>?_) S.kind)
 dsimp only at hns₁ hsb₁ ⊢
 generalize hH3:s2.heap.push { cls:=.type "list",dict:=none,data:=.seq ([]:List Value).toArray } = H3 at hns₁ hsb₁ ⊢
 have hC:H3.objs.size = s2.heap.objs.size + 1:=by rw [<- hH3,Heap.size_push]
 have hDC:s2.heap.objs.size ≠ H3.objs.size:=by rw [hC]; exact Nat.ne_of_lt (Nat.lt_succ_self _)
 have hCle:s2.heap.objs.size <= H3.objs.size:=by rw [hC]; exact Nat.le_succ _
 have neC:∀ b o,s2.heap.get? b = some o -> b ≠ H3.objs.size:=fun b o e=>Nat.ne_of_lt (Nat.lt_of_lt_of_le (Heap.lt_size e) hCle)
 have old:∀ b o,s2.heap.get? b = some o -> h₁.get? b = some o:=fun b o e=>hsb₁.extBut b o (neC b o e) (Heap.get?_push_of_some _ (hH3 ▸ Heap.get?_push_of_some _ e))
 have hacc:h₁.get? s2.heap.objs.size = some { cls:=.type "list",data:=.seq ([]:List Value).toArray 0 }:=hsb₁.extBut _ _ hDC (Heap.get?_push_of_some _ (hH3 ▸ Heap.get?_push_size _ rfl))
 have hnD:H2 s2.heap.objs.size = none:=I2.hok.fresh (Nat.le_refl _)
 obtain ⟨W,⟨m0,w0⟩,turn⟩:=rd _ hnD
 have hLC:H3.objs.size ≠ X.env.locals:=fun z=>by
  have h:=I2.lt
  rw [<- z] at h
  exact absurd h (Nat.not_lt.mpr hCle)
 have J0:∀ tk,Inv (compCx X scope own capt H3.objs.size s2 H2 fp) [] (noneS own ++ capS capt σ) (upd H2 s2.heap.objs.size (.lst [])) { s2 with heap:=h₁,toks:=tk }:=fun tk =>
  comp_inv (tk:=tk) S I2 f2 hfp (Nat.le_refl _) hCle hDC old hns₁ hacc
 have fr0:∀ b ∈ fp,upd H2 s2.heap.objs.size (.lst []) b = none:=fun b hb=>by
  rw [upd_ne (Nat.ne_of_lt (hfp b hb))]; exact (f2 b hb).1
 have stat:∀ {H':Hp},(∀ b ∈ fp,H' b = none) -> ∀ b ∈ fp,FpOk (compCx X scope own capt H3.objs.size s2 H2 fp) [] H' b:=fun hn b hb=>by
  obtain ⟨g0,g1,g2,g3,g4,g5⟩:=f2 b hb
  have sub:=closed_sub scope.names [] (S.cells I2.ok) (fun x c h=>nomatch (show (none:Option Addr) = some c from h))
  refine ⟨hn b hb,Nat.ne_of_lt (Nat.lt_of_lt_of_le (hfp b hb) hCle),fun z=>?_,.inl hb,fun x c e=>g4 x c (sub x c e),fun p hp=>absurd (show p ∈ ([]:List (Addr × Obj)) from hp) (by simp)⟩
  rcases List.mem_cons.mp (I2.stkSub b z) with q | q
  ·exact g1 q
  ·exact g2 q
 have loop:∀ s₃:Shared,(∃ tk,s₃ = { s2 with heap:=h₁,toks:=tk }) ->
   codeAny (model X.prog X.w) X.A (.compLoop (.ListComp elt [⟨tg,iter,ifs,0⟩,⟨tg2,it2,ifs2,0⟩] scope pos) 0 (.ref it) (.ref s2.heap.objs.size) (compEnvC scope (closed X.env scope.names []) H3.objs.size X.env)) (RR (.ref s2.heap.objs.size) H3.objs.size) s₃:=by
  rintro s₃ ⟨tk,rfl⟩
  refine turns_out (hs2 _) (fun n s'=>∃ i H',Inv (compCx X scope own capt H3.objs.size s2 H2 fp) [] (noneS own ++ capS capt σ) H' s' /\ tn i s'.heap /\ (∀ b ∈ fp,H' b = none) /\ W i n H') ?_ m0
   ⟨0,_,J0 tk,T.keep _ _ _ st2 fun b hb o e=>old b o e,fr0,w0⟩
  rintro n s4 ⟨i,H4,I4,st4,fr4,w4⟩
  rcases turn i n H4 w4 with ⟨stop,qn⟩ | ⟨go,N,N',hN,hN',step⟩
  ·refine thn (T.done (compCx X scope own capt H3.objs.size s2 H2 fp) rfl rfl rfl hc i [] s4 _ H4 NoX I4 (stat fr4) st4 stop) fun r s5 ⟨hr,I5⟩=>?_
   subst hr
   obtain ⟨m,hn,_⟩:=I5.loc
   exact hR _ _ s5 H4 ⟨m,hn⟩ (fun h'' sb=>comp_out I2 f2 hCle I5 sb) I5.free (I2.fpOk hCle I5.free) qn
  ·refine thn (T.item (compCx X scope own capt H3.objs.size s2 H2 fp) rfl rfl rfl hc i [] s4 _ H4 NoX I4 (stat fr4) st4 go) fun r s5 ⟨u,hr,h5⟩=>?_
   subst hr
   refine thn h5 fun _ s6 ⟨x,H6,I6,r6,y6,st6,fr6⟩=>?_
   have I6':=I6.pinned (stat fr6) (T.obj _ _ st6)
   refine thn (hg _ _ _ _ _ s6 _ H6 x u _ I6' r6 (step x H6 y6)) fun _ s7 ⟨σ7,H7,I7,wk,q7⟩=>?_
   obtain ⟨wl,wv⟩:=wk.weak
   have again:∀ {s8:Shared} {H8:Hp} {m':Nat},Inv (compCx X scope own capt H3.objs.size s2 H2 fp) ([] ++ pinsAt fp s6.heap) σ7 H8 s8 -> m' < n -> W (i + 1) m' H8 ->
     ∃ m,m < n /\ ∃ i H',Inv (compCx X scope own capt H3.objs.size s2 H2 fp) [] (noneS own ++ capS capt σ) H' s8 /\ tn i s8.heap /\ (∀ b ∈ fp,H' b = none) /\ W i m H':=fun {s8 H8 m'} I8 hm w8=>by
    refine ⟨m',hm,i + 1,H8,(I8.unpinned).weak wl wv,T.keep _ _ _ st6 fun b hb o e=>(I8.pin (b,o) (List.mem_append_right _ (List.mem_append_right _ (mem_pinsAt hb e)))).1,fun b hb=>?_,w8⟩
    obtain ⟨o,e,d⟩:=T.obj _ _ st6 b hb
    exact (I8.pin (b,o) (List.mem_append_right _ (List.mem_append_right _ (mem_pinsAt hb e)))).2.1
   refine thn (ht _ _ _ _ _ s7 σ7 H7 _ I7 q7) fun ok s8 ⟨H8,I8,q8⟩=>?_
   cases ok with
   | false =>
    obtain ⟨m',hm,w8⟩:=hN' H8 (by simpa using q8)
    exact again I8 hm w8
   | true =>
    refine thn (hi2 _ _ _ _ _ s8 σ7 H8 _ I8 (by simpa using q8)) fun y s9 h9=>thn h9 fun itv2 s10 h10=>?_
    refine inner_run (Y:=compCx X scope own capt H3.objs.size s2 H2 fp) rfl hc (hg2 _ _ _ _) (ht2 _ _ _ _) (he _ _ _ _) h10 fun s' H' I' q'=>⟨rfl,?_⟩
    obtain ⟨m',hm,w9⟩:=hN H' q'
    exact again I' hm w9
 exact codeAny_compStart_list (loop _ ⟨_,rfl⟩) (T.self X.A 0 _ _ _ (T.keep _ _ _ st2 fun b hb o e=>old b o e) (loop _ ⟨_,rfl⟩))
theorem pe_lcomp2 (hc:X.calm = true) (S:CompScope scope own capt X) (hi:PI X tg iter wi)
  (hg:∀ C s₀ H₀ fp,PG (compCx X scope own capt C s₀ H₀ fp) tg g) (ht:∀ C s₀ H₀ fp,PTs (compCx X scope own capt C s₀ H₀ fp) ifs tt) (hi2:∀ C s₀ H₀ fp,PI (compCx X scope own capt C s₀ H₀ fp) tg2 it2 wi2)
  (hg2:∀ C s₀ H₀ fp,PG (compCx X scope own capt C s₀ H₀ fp) tg2 g2) (ht2:∀ C s₀ H₀ fp,PTs (compCx X scope own capt C s₀ H₀ fp) ifs2 tt2) (he:∀ C s₀ H₀ fp,PE (compCx X scope own capt C s₀ H₀ fp) elt te)
  (hs:∀ x,foldedSetIterable iter X.env x = pure x:=by intro _; rfl) (hs2:∀ (C:Addr) (x:Value),foldedSetIterable it2 (compEnvC scope (closed X.env scope.names []) C X.env) x = pure x:=by intro _ _; rfl) :
  PE X (.ListComp elt [⟨tg,iter,ifs,0⟩,⟨tg2,it2,ifs2,0⟩] scope pos) (tComp2 own capt wi g tt wi2 g2 tt2 te):=by
 intro pins s σ H Q I h
 rw [eval_ListComp]
 refine wpAny_comprehension_free (use:=none) rfl hs (closureFor_closed (S.cells I.ok)) S.kind S.names (thn (hi pins s σ H _ I h) fun v s1 h1=>thn h1 fun itv s2 h2=>?_)
 refine comp_run2 (RR:=fun acc C=>compPost (model X.prog X.w) X.A X.xe none (EP X pins σ Q) acc C) hc S hg ht hi2 hg2 ht2 he hs2 h2 fun D C s' H' hn J _ _ q=>?_
 obtain ⟨m,hn⟩:=hn
 exact ⟨m,hn,fun h'' sb=>⟨.ref D,H',J h'' sb,rfl,q⟩⟩
end
end L2
namespace L2
open PySem PySem.Spec PyProof.Rows
theorem inner_over {J:It} {n:Nat} {g:TG} {tt:TT} {te:TE} {σ:St} {H1:Hp} {D:Addr} {Q:Hp -> Prop} (Pv:Nat -> List V -> Hp -> Prop) (h0:∃ ys,H1 D = some (.lst ys) /\ Pv 0 ys H1)
  (turn:∀ i ys H2,i < n -> H2 D = some (.lst ys) -> Pv i ys H2 -> J.go i H2 /\ ∀ x H3,J.yld i H2 x H3 -> g x σ H3 fun σ4 H4=>Wk σ σ4 /\ tt σ4 H4 fun b H5 =>
   if b = true then te σ4 H5 (fun v H6=>∃ zs,H6 D = some (.lst zs) /\ zs.length < sizeLine /\ Pv (i + 1) (zs ++ [v]) (upd H6 D (.lst (zs ++ [v])))) else ∃ zs,H5 D = some (.lst zs) /\ Pv (i + 1) zs H5)
  (stop:∀ ys H2,H2 D = some (.lst ys) -> Pv n ys H2 -> J.stop n H2 /\ Q H2):InnerW g tt te σ J H1 D Q:=by
 refine ⟨fun i m H=>m = n - i /\ i <= n /\ ∃ ys,H D = some (.lst ys) /\ Pv i ys H,⟨n,rfl,Nat.zero_le _,h0⟩,?_⟩
 rintro i m H2 ⟨rfl,hi,ys,hD,p⟩
 by_cases hlt:i < n
 ·obtain ⟨go,st⟩:=turn i ys H2 hlt hD p
  refine .inr ⟨go,_,_,?_,?_,st⟩
  ·rintro v H6 ⟨zs,e,l,q⟩
   exact ⟨zs,e,l,n - (i + 1),by omega,rfl,hlt,_,upd_same,q⟩
  ·rintro H5 ⟨zs,e,q⟩
   exact ⟨n - (i + 1),by omega,rfl,hlt,zs,e,q⟩
 ·have e:i = n:=by omega
  subst e
  exact .inl (stop ys H2 hD p)
theorem comp_over2 {J:It} {n:Nat} {own:List Str} {capt:List Nat} {g g2:TG} {tt tt2:TT} {wi2:TI} {te:TE} {σ:St} {H1:Hp} {D:Addr} {Q:VK} (Pv:Nat -> List V -> Hp -> Prop) (h0:Pv 0 [] (upd H1 D (.lst [])))
  (turn:∀ i ys H2,i < n -> H2 D = some (.lst ys) -> Pv i ys H2 -> J.go i H2 /\ ∀ x H3,J.yld i H2 x H3 -> g x (noneS own ++ capS capt σ) H3 fun σ4 H4=>Wk (noneS own ++ capS capt σ) σ4 /\ tt σ4 H4 fun b H5 =>
   if b = true then wi2 σ4 H5 (fun J2 H6=>InnerW g2 tt2 te σ4 J2 H6 D fun H7=>∃ zs,H7 D = some (.lst zs) /\ Pv (i + 1) zs H7) else ∃ zs,H5 D = some (.lst zs) /\ Pv (i + 1) zs H5)
  (stop:∀ ys H2,H2 D = some (.lst ys) -> Pv n ys H2 -> J.stop n H2 /\ Q (.ref D) H2) :
  CompW2 own capt g tt wi2 g2 tt2 te σ J H1 D Q:=by
 refine ⟨fun i m H=>m = n - i /\ i <= n /\ ∃ ys,H D = some (.lst ys) /\ Pv i ys H,⟨n,rfl,Nat.zero_le _,[],upd_same,h0⟩,?_⟩
 rintro i m H2 ⟨rfl,hi,ys,hD,p⟩
 by_cases hlt:i < n
 ·obtain ⟨go,st⟩:=turn i ys H2 hlt hD p
  refine .inr ⟨go,_,_,?_,?_,st⟩
  ·rintro H6 ⟨zs,e,q⟩
   exact ⟨n - (i + 1),by omega,rfl,hlt,zs,e,q⟩
  ·rintro H5 ⟨zs,e,q⟩
   exact ⟨n - (i + 1),by omega,rfl,hlt,zs,e,q⟩
 ·have e:i = n:=by omega
  subst e
  exact .inl (stop ys H2 hD p)
theorem DI.uni {ι:Type} {Xf:ι -> Cx} {K:PySem.W.Frag} (hK:∀ i,(Xf i).K = K) {tg e:Expr} {d:DTA} (h:∀ i,DI (Xf i) tg e d):∃ wi:TI,(∀ i,PI (Xf i) tg e wi) /\ ∀ (C:Ctx) (ρ:En) (σ:St) (H:Hp) (n:Nat) (Q:It -> Hp -> Prop) (R:List PyData -> Nat -> Prop),Stt K C ρ σ H n -> d ρ n R ->
  (∀ ts n' J H',R ts n' -> ExtE C.hd H H' -> Hn C.hd H' n' -> ItOk K C.hd (fun a=>¬ Own C ρ σ a) (Own C ρ σ) H' J ts -> Q J H') -> wi σ H Q:=by
 refine ⟨fun σ H Q=>∀ i,(Classical.choose (h i)) σ H Q,fun i pins s σ H R I hw=>(Classical.choose_spec (h i)).1 pins s σ H R I (hw i),fun C ρ σ H n Q R S hd hq i=>?_⟩
 have:=(Classical.choose_spec (h i)).2 C ρ σ H n Q R
 exact this (by rw [hK i]; exact S) hd fun t n' J H' r e h q=>hq t n' J H' r e h (by rw [<- hK i]; exact q)
theorem Stt.onX {K:PySem.W.Frag} {C:Ctx} {ρ:En} {σ:St} {H H':Hp} {n n':Nat} (S:Stt K C ρ σ H n) (k:∀ a o,H a = some o -> ¬ C.ext a -> H' a = some o) (hl:∀ a,C.ext a -> MutO (H' a)) (kr:∀ a ks,H a = some (.dK ks) -> C.ext a -> C.hd ≠ some a -> H' a = some (.dK ks)) (hn:Hn C.hd H' n'):Stt K C ρ σ H' n' where
 len:=S.len
 val:=fun i d hi=>by
  obtain ⟨v,h1,h2⟩:=S.val i d hi
  exact ⟨v,h1,h2.mono (fun _ _ _ z=>z) fun a o no h=>k a o h fun z=>no (.inl z)⟩
 own:=fun i ds hi=>by
  obtain ⟨a,vs,h1,h2,h3,h4⟩:=S.own i ds hi
  exact ⟨a,vs,h1,k a _ h2 h4,h3.mono (fun _ _ _ z=>z) (fun a o no h=>k a o h fun z=>no (.inl z)),h4⟩
 dct:=fun i ds hi=>by
  obtain ⟨a,vs,h1,h2,h3,h4⟩:=S.dct i ds hi
  exact ⟨a,vs,h1,k a _ h2 h4,h3.mono (fun _ _ _ z=>z) (fun a o no h=>k a o h fun z=>no (.inl z)),h4⟩
 rdo:=fun i ds hi=>by
  obtain ⟨a,vs,h1,h2,h3,h4,h5⟩:=S.rdo i ds hi
  exact ⟨a,vs,h1,kr a _ h2 h4 h5,h3.mono (fun _ _ _ z=>z) (fun a o no h=>k a o h fun z=>no (.inl z)),h4,h5⟩
 dif:=S.dif
 hnd:=hn
 ext:=hl
 hx:=S.hx
def comp2Go (g:DTG) (tt:DTT) (di2:DTA) (g2:DTG) (tt2:DTT) (te:DTE) (ρ0:En):List PyData -> List PyData -> Nat -> (List PyData -> Nat -> Prop) -> Prop
 | [],acc,n,R=>R acc n
 | x :: xs,acc,n,R=>g x ρ0 fun ρ1=>tt ρ1 n fun b n2=>if b = true then di2 ρ1 n2 fun ts n3=>compGo g2 tt2 te ρ1 ts acc n3 fun acc' n4=>comp2Go g tt di2 g2 tt2 te ρ0 xs acc' n4 R else comp2Go g tt di2 g2 tt2 te ρ0 xs acc n2 R
def dComp2 (m:Nat) (capt:List Nat) (di:DTA) (g:DTG) (tt:DTT) (di2:DTA) (g2:DTG) (tt2:DTT) (te:DTE):DTA:=fun ρ n R=>di ρ n fun ts n1=>comp2Go g tt di2 g2 tt2 te (compEn m capt ρ) ts [] n1 R
section
variable {X:Cx} {scope:Scope} {own:List Str} {capt:List Nat} {elt tg iter tg2 it2:Expr} {ifs ifs2:List Expr} {pos:Pos} {di di2:DTA} {is is2:List Nat} {g g2:DTG} {tt tt2:DTT} {te:DTE}
theorem dn_comp2 (hc:X.calm = true) (S:CompScope scope own capt X) (hi:DIL X tg iter di)
  (hg:∀ C s₀ H₀ fp,DG (compCx X scope own capt C s₀ H₀ fp) tg is g) (hin:∀ i ∈ is,i < own.length) (ht:∀ C s₀ H₀ fp,DTs (compCx X scope own capt C s₀ H₀ fp) ifs tt)
  (hi2:∀ C s₀ H₀ fp,DI (compCx X scope own capt C s₀ H₀ fp) tg2 it2 di2) (hg2:∀ C s₀ H₀ fp,DG (compCx X scope own capt C s₀ H₀ fp) tg2 is2 g2) (hin2:∀ i ∈ is2,i < own.length /\ i ∉ is) (ht2:∀ C s₀ H₀ fp,DTs (compCx X scope own capt C s₀ H₀ fp) ifs2 tt2)
  (he:∀ C s₀ H₀ fp,DE (compCx X scope own capt C s₀ H₀ fp) elt te)
  (hs:∀ x,foldedSetIterable iter X.env x = pure x:=by intro _; rfl) (hs2:∀ (C:Addr) (x:Value),foldedSetIterable it2 (compEnvC scope (closed X.env scope.names []) C X.env) x = pure x:=by intro _ _; rfl) :
  DN X (.ListComp elt [⟨tg,iter,ifs,0⟩,⟨tg2,it2,ifs2,0⟩] scope pos) (dComp2 own.length capt di g tt di2 g2 tt2 te):=by
 obtain ⟨wi,pi,hi⟩:=hi
 let Xf:(Addr × Shared × Hp × List Addr) -> Cx:=fun q=>compCx X scope own capt q.1 q.2.1 q.2.2.1 q.2.2.2
 have hK:∀ q,(Xf q).K = X.K:=fun _=>rfl
 have hne:Nonempty (Addr × Shared × Hp × List Addr):=⟨(0,X.s₀,X.H₀,[])⟩
 obtain ⟨gg,pg,hgg⟩:=DG.uni (Xf:=Xf) hK fun q=>hg q.1 q.2.1 q.2.2.1 q.2.2.2
 obtain ⟨gt,pt,hgt⟩:=DTs.uni (Xf:=Xf) hK fun q=>ht q.1 q.2.1 q.2.2.1 q.2.2.2
 obtain ⟨wi2,pi2,hwi2⟩:=DI.uni (Xf:=Xf) hK fun q=>hi2 q.1 q.2.1 q.2.2.1 q.2.2.2
 obtain ⟨gg2,pg2,hgg2⟩:=DG.uni (Xf:=Xf) hK fun q=>hg2 q.1 q.2.1 q.2.2.1 q.2.2.2
 obtain ⟨gt2,pt2,hgt2⟩:=DTs.uni (Xf:=Xf) hK fun q=>ht2 q.1 q.2.1 q.2.2.1 q.2.2.2
 obtain ⟨ge,pe,hge⟩:=DE.uni (Xf:=Xf) hK fun q=>he q.1 q.2.1 q.2.2.1 q.2.2.2
 refine ⟨_,pe_lcomp2 hc S pi (fun C s₀ H₀ fp=>pg (C,s₀,H₀,fp)) (fun C s₀ H₀ fp=>pt (C,s₀,H₀,fp)) (fun C s₀ H₀ fp=>pi2 (C,s₀,H₀,fp)) (fun C s₀ H₀ fp=>pg2 (C,s₀,H₀,fp)) (fun C s₀ H₀ fp=>pt2 (C,s₀,H₀,fp)) (fun C s₀ H₀ fp=>pe (C,s₀,H₀,fp)) hs hs2,fun C ρ σ H n Q R St hd hq=>?_⟩
 refine hi C ρ σ H n _ _ St hd fun ts n1 J H1 r e1 hn it=>fun D hD1=>?_
 have St1:=St.on e1 hn
 have hD:H D = none:=hp_back e1 hn hD1
 have nhd:C.hd ≠ some D:=fun z=>St.dom (.inl (St.hx D z)) hD
 refine comp_over2 (n:=ts.length) (fun i ys H2=>∃ acc n2,comp2Go g tt di2 g2 tt2 te (compEn own.length capt ρ) (ts.drop i) acc n2 R /\ Reps X.K C.hd (fun a=>Own C ρ σ a \/ a = D) H2 ys acc /\ ExtE C.hd H1 H2 /\ Hn C.hd H2 n2)
  ⟨[],n1,by simpa using r,.nil,ExtE.new hD1,hn.same (same_upd hD1)⟩ ?_ ?_
 ·rintro i ys H2 hlt hy ⟨acc,n2,c2,r2,e2,hn2⟩
  have et:ts[i]? = some ts[i]:=List.getElem?_eq_getElem hlt
  rw [List.drop_eq_getElem_cons hlt] at c2
  have itq:=it (fun a=>Own C ρ σ a \/ a = D) H2 (fun a o ha nh=>e2 a o ha nh) (fun a o ha no z=>z.elim no fun z=>by subst z; rw [hD1] at ha; cases ha) (fun a z=>z.elim (fun z=>(St1.on e2 hn2).dom z) fun z=>by subst z; rw [hy]; exact fun z=>by cases z)
  obtain ⟨go,yl⟩:=itq.1 i _ et
  refine ⟨go,fun x H3 hyd=>?_⟩
  obtain ⟨sm,rx⟩:=yl x H3 hyd
  have hn3:=hn2.same sm
  have e3:ExtE C.hd H1 H3:=e2.trans sm.ext
  obtain ⟨I3,no3⟩:=comp_stt (own:=own) (capt:=capt) (D:=D) (ys:=ys) St (e1.trans e3) hn3 hD (sm _ _ hy)
  have rx':Rep X.K C.hd (Own ⟨C.hd,fun a=>Own C ρ σ a \/ a = D⟩ (compEn own.length capt ρ) (noneS own ++ capS capt σ)) H3 x ts[i]:=rx.mono (fun a o _ z=>z.elim id fun z=>absurd z (no3 a)) fun _ _ _ z=>z
  refine hgg ⟨C.hd,fun a=>Own C ρ σ a \/ a = D⟩ (compEn own.length capt ρ) (noneS own ++ capS capt σ) H3 n2 x ts[i] _ _ I3 rx' c2 fun ρ4 σ4 r4 S4 k4 hj hl=>⟨Wk.of hl.symm fun j v ej=>?_,?_⟩
  ·by_cases hjo:j < own.length
   ·rw [List.getElem?_append_left (by simpa using hjo),List.getElem?_map] at ej
    cases z:own[j]? with
    | none=>rw [z] at ej; cases ej
    | some q=>rw [z] at ej; cases ej
   ·rw [hj j (fun z=>hjo (hin j z))]; exact ej
  ·refine hgt _ ρ4 σ4 H3 n2 _ _ S4 r4 fun b n5 H5 r5 e5 hn5=>?_
   have S5:=S4.on e5 hn5
   have hy5:H5 D = some (.lst ys):=e5 D _ (sm _ _ hy) nhd
   have r25:∀ {H6},ExtE C.hd H2 H6 -> Reps X.K C.hd (fun a=>Own C ρ σ a \/ a = D) H6 ys acc:=fun e=>r2.mono (fun _ _ _ z=>z) fun a o no ha=>e a o ha fun z=>no (.inl (.inl (St.hx a z)))
   cases b with
   | false =>
    refine iteF ⟨ys,hy5,acc,n5,by simpa using r5,r25 ((Same.ext sm).trans e5),e3.trans e5,hn5⟩
   | true =>
    refine iteT (hwi2 ⟨C.hd,fun a=>Own C ρ σ a \/ a = D⟩ ρ4 σ4 H5 n5 _ _ S5 (by simpa using r5) fun us n6 J2 H6 r6 e6 hn6 it6=>?_)
    have S6:=S5.on e6 hn6
    have hy6:H6 D = some (.lst ys):=e6 D _ hy5 nhd
    refine inner_over (n:=us.length) (fun k zs H7=>∃ acc' n7,compGo g2 tt2 te ρ4 (us.drop k) acc' n7 (fun acc' n4=>comp2Go g tt di2 g2 tt2 te (compEn own.length capt ρ) (ts.drop (i + 1)) acc' n4 R) /\ Reps X.K C.hd (fun a=>Own C ρ σ a \/ a = D) H7 zs acc' /\ ExtE C.hd H1 H7 /\ Hn C.hd H7 n7 /\ ∀ a o,H6 a = some o -> ¬ (Own C ρ σ a \/ a = D) -> H7 a = some o)
     ⟨ys,hy6,acc,n6,by simpa using r6,r25 ((Same.ext sm).trans (e5.trans e6)),e3.trans (e5.trans e6),hn6,fun _ _ h _=>h⟩ ?_ ?_
    ·rintro k zs H7 hk hz ⟨acc',n7,c7,r7,e7,hn7,k7⟩
     have et2:us[k]? = some us[k]:=List.getElem?_eq_getElem hk
     rw [List.drop_eq_getElem_cons hk] at c7
     have S7:Stt X.K ⟨C.hd,fun a=>Own C ρ σ a \/ a = D⟩ ρ4 σ4 H7 n7:=S6.onX k7 (fun a z=>z.elim (fun z=>(St1.on e7 hn7).lst z) fun z=>by subst z; exact .inl ⟨_,hz⟩) (fun a ks ha z nh=>z.elim (fun z=>by
      have e16:ExtE C.hd H1 H6:=e3.trans (e5.trans e6)
      rcases St1.lst z with ⟨xs,q⟩ | ⟨xs,q⟩
      ·rw [e16 a _ q nh] at ha; cases ha
      ·rw [e16 a _ q nh] at ha; cases ha; exact e7 a _ q nh) (fun z=>by subst z; rw [hy6] at ha; cases ha)) hn7
     have itq2:=it6 (Own ⟨C.hd,fun a=>Own C ρ σ a \/ a = D⟩ ρ4 σ4) H7 (fun a o ha no=>k7 a o ha fun z=>no (.inl z)) (fun a o ha no=>no) (fun a z=>S7.dom z)
     obtain ⟨go2,yl2⟩:=itq2.1 k _ et2
     refine ⟨go2,fun y H8 hyd2=>?_⟩
     obtain ⟨sm8,ry⟩:=yl2 y H8 hyd2
     have hn8:=hn7.same sm8
     have S8:=S7.on (Same.ext sm8) hn8
     refine hgg2 _ ρ4 σ4 H8 n7 y us[k] _ _ S8 ry c7 fun ρ9 σ9 r9 S9 k9 hj9 hl9=>⟨Wk.of hl9.symm fun j v ej=>?_,?_⟩
     ·by_cases hjo:j ∈ is2
      ·exfalso
       obtain ⟨lo,nis⟩:=hin2 j hjo
       rw [hj j nis,List.getElem?_append_left (by simpa using lo),List.getElem?_map] at ej
       cases z:own[j]? with
       | none=>rw [z] at ej; cases ej
       | some q=>rw [z] at ej; cases ej
      ·rw [hj9 j hjo]; exact ej
     ·refine hgt2 _ ρ9 σ9 H8 n7 _ _ S9 r9 fun b n10 H10 r10 e10 hn10=>?_
      have S10:=S9.on e10 hn10
      have hz10:H10 D = some (.lst zs):=e10 D _ (sm8 _ _ hz) nhd
      have r710:∀ {H'},ExtE C.hd H7 H' -> Reps X.K C.hd (fun a=>Own C ρ σ a \/ a = D) H' zs acc':=fun e=>r7.mono (fun _ _ _ z=>z) fun a o no ha=>e a o ha fun z=>no (.inl (.inl (St.hx a z)))
      have kk:∀ {H'},ExtE C.hd H7 H' -> ∀ a o,H6 a = some o -> ¬ (Own C ρ σ a \/ a = D) -> H' a = some o:=fun e a o ha no=>e a o (k7 a o ha no) fun z=>no (.inl (.inl (St.hx a z)))
      cases b with
      | false=>exact iteF ⟨zs,hz10,acc',n10,by simpa using r10,r710 ((Same.ext sm8).trans e10),e7.trans ((Same.ext sm8).trans e10),hn10,kk ((Same.ext sm8).trans e10)⟩
      | true =>
       refine iteT (hge _ ρ9 σ9 H10 n10 _ _ S10 (by simpa using r10) fun t n11 v H11 r11 e11 hn11 q11=>?_)
       have hz11:H11 D = some (.lst zs):=e11 D _ hz10 nhd
       have e711:ExtE C.hd H7 H11:=(Same.ext sm8).trans (e10.trans e11)
       have rl:=(r710 e711).length
       refine ⟨zs,hz11,by rw [rl]; exact r11.1,acc' ++ [t],n11,r11.2,?_,?_,?_,?_⟩
       ·have q11':Rep X.K C.hd (fun a=>Own C ρ σ a \/ a = D) H11 v t:=q11.mono (fun _ _ _ z=>.inl z) fun _ _ _ z=>z
        have all:=(r710 e711).append (Reps.cons q11' .nil)
        exact all.mono (fun _ _ _ z=>z) fun a o no ha=>by rw [upd_ne (show a ≠ D from fun z=>no (.inr z))]; exact ha
       ·exact fun a o ha nh=>by
         rw [upd_ne (ne_of_none ha hD1)]
         exact (e7.trans e711) a o ha nh
       ·exact fun a ha=>by
         obtain ⟨d,m,t,q,rest⟩:=hn11 a ha
         exact ⟨d,m,t,by rw [upd_ne (show a ≠ D from fun z=>nhd (by rw [<- z]; exact ha))]; exact q,rest⟩
       ·exact fun a o ha no=>by
         rw [upd_ne (show a ≠ D from fun z=>no (.inr z))]
         exact kk e711 a o ha no
    ·rintro zs H7 hz ⟨acc',n7,c7,r7,e7,hn7,k7⟩
     rw [List.drop_length] at c7
     have S7:Stt X.K ⟨C.hd,fun a=>Own C ρ σ a \/ a = D⟩ ρ4 σ4 H7 n7:=S6.onX k7 (fun a z=>z.elim (fun z=>(St1.on e7 hn7).lst z) fun z=>by subst z; exact .inl ⟨_,hz⟩) (fun a ks ha z nh=>z.elim (fun z=>by
      have e16:ExtE C.hd H1 H6:=e3.trans (e5.trans e6)
      rcases St1.lst z with ⟨xs,q⟩ | ⟨xs,q⟩
      ·rw [e16 a _ q nh] at ha; cases ha
      ·rw [e16 a _ q nh] at ha; cases ha; exact e7 a _ q nh) (fun z=>by subst z; rw [hy6] at ha; cases ha)) hn7
     have itq2:=it6 (Own ⟨C.hd,fun a=>Own C ρ σ a \/ a = D⟩ ρ4 σ4) H7 (fun a o ha no=>k7 a o ha fun z=>no (.inl z)) (fun a o ha no=>no) (fun a z=>S7.dom z)
     exact ⟨itq2.2,zs,hz,acc',n7,c7,r7,e7,hn7⟩
 ·rintro ys H2 hy ⟨acc,n2,c2,r2,e2,hn2⟩
  rw [List.drop_length] at c2
  have itq:=it (fun a=>Own C ρ σ a \/ a = D) H2 (fun a o ha nh=>e2 a o ha nh) (fun a o ha no z=>z.elim no fun z=>by subst z; rw [hD1] at ha; cases ha) (fun a z=>z.elim (fun z=>(St1.on e2 hn2).dom z) fun z=>by subst z; rw [hy]; exact fun z=>by cases z)
  exact ⟨itq.2,hq acc n2 D ys H2 c2 (e1.trans e2) hn2 hD hy r2⟩
end
section
variable {ρ ρ0:En} {n m:Nat} {di di2:DTA} {g g2:DTG} {tt tt2:DTT} {te:DTE} {capt:List Nat} {Rl:List PyData -> Nat -> Prop}
instance s_comp2 [h:CompN m capt ρ ρ0]:Stp (dComp2 m capt di g tt di2 g2 tt2 te ρ n Rl) (di ρ n fun ts n1=>comp2Go g tt di2 g2 tt2 te ρ0 ts [] n1 Rl):=⟨fun k=>by unfold dComp2; rw [h.e]; exact k⟩
end
end L2
namespace L2
open PySem PySem.Spec PyProof.Rows
abbrev Run:=Int × Int
def NR (rs:List Run):Prop:=(∀ r ∈ rs,r.1 < r.2) /\ rs.Pairwise fun a b=>a.2 < b.1
def mR (x:Int) (rs:List Run):Prop:=∃ r ∈ rs,r.1 <= x /\ x < r.2
def mB (x:Int) (bs:List (Int × Int)):Prop:=∃ b ∈ bs,b.1 <= x /\ x < eB b
theorem mR_cons {x:Int} {r:Run} {rs:List Run}:mR x (r :: rs) ↔ (r.1 <= x /\ x < r.2) \/ mR x rs:=by
 unfold mR
 constructor
 ·rintro ⟨s,hs,h⟩
  rcases List.mem_cons.mp hs with rfl | hs
  ·exact .inl h
  ·exact .inr ⟨s,hs,h⟩
 ·rintro (h | ⟨s,hs,h⟩)
  ·exact ⟨r,by simp,h⟩
  ·exact ⟨s,by simp [hs],h⟩
theorem mR_nil {x:Int}:¬ mR x []:=fun ⟨_,h,_⟩=>nomatch h
theorem mR_app {x:Int} {rs ss:List Run}:mR x (rs ++ ss) ↔ mR x rs \/ mR x ss:=by
 unfold mR
 constructor
 ·rintro ⟨s,hs,h⟩
  rcases List.mem_append.mp hs with hs | hs
  ·exact .inl ⟨s,hs,h⟩
  ·exact .inr ⟨s,hs,h⟩
 ·rintro (⟨s,hs,h⟩ | ⟨s,hs,h⟩)
  ·exact ⟨s,by simp [hs],h⟩
  ·exact ⟨s,by simp [hs],h⟩
theorem mB_cons {x:Int} {b:Int × Int} {bs:List (Int × Int)}:mB x (b :: bs) ↔ (b.1 <= x /\ x < eB b) \/ mB x bs:=by
 unfold mB
 constructor
 ·rintro ⟨s,hs,h⟩
  rcases List.mem_cons.mp hs with rfl | hs
  ·exact .inl h
  ·exact .inr ⟨s,hs,h⟩
 ·rintro (h | ⟨s,hs,h⟩)
  ·exact ⟨b,by simp,h⟩
  ·exact ⟨s,by simp [hs],h⟩
theorem mB_nil {x:Int}:¬ mB x []:=fun ⟨_,h,_⟩=>nomatch h
theorem mB_app {x:Int} {bs cs:List (Int × Int)}:mB x (bs ++ cs) ↔ mB x bs \/ mB x cs:=by
 unfold mB
 constructor
 ·rintro ⟨s,hs,h⟩
  rcases List.mem_append.mp hs with hs | hs
  ·exact .inl ⟨s,hs,h⟩
  ·exact .inr ⟨s,hs,h⟩
 ·rintro (⟨s,hs,h⟩ | ⟨s,hs,h⟩)
  ·exact ⟨s,by simp [hs],h⟩
  ·exact ⟨s,by simp [hs],h⟩
theorem mB_perm {x:Int} {bs cs:List (Int × Int)} (h:bs.Perm cs):mB x bs ↔ mB x cs:=by
 unfold mB
 constructor
 ·rintro ⟨s,hs,q⟩; exact ⟨s,h.mem_iff.mp hs,q⟩
 ·rintro ⟨s,hs,q⟩; exact ⟨s,h.mem_iff.mpr hs,q⟩
theorem NR.tail {r:Run} {rs:List Run} (h:NR (r :: rs)):NR rs:=⟨fun s hs=>h.1 s (by simp [hs]),(List.pairwise_cons.mp h.2).2⟩
theorem NR.ahead {r:Run} {rs:List Run} (h:NR (r :: rs)) {x:Int} (hx:mR x rs):r.2 < x:=by
 obtain ⟨s,hs,h1,h2⟩:=hx
 have:=(List.pairwise_cons.mp h.2).1 s hs
 lia
theorem NR.uniq:∀ {rs ss:List Run},NR rs -> NR ss -> (∀ x,mR x rs ↔ mR x ss) -> rs = ss
 | [],[],_,_,_=>rfl
 | [],s :: ss,_,h,e=>by
  exfalso
  have:=h.1 s (by simp)
  exact mR_nil ((e s.1).mpr (mR_cons.mpr (.inl ⟨Int.le_refl _,this⟩)))
 | r :: rs,[],h,_,e=>by
  exfalso
  have:=h.1 r (by simp)
  exact mR_nil ((e r.1).mp (mR_cons.mpr (.inl ⟨Int.le_refl _,this⟩)))
 | r :: rs,s :: ss,hr,hs,e=>by
  have r1:=hr.1 r (by simp)
  have s1:=hs.1 s (by simp)
  have a:∀ x,mR x (r :: rs) -> r.1 <= x:=fun x hx=>by
   rcases mR_cons.mp hx with z | z
   ·exact z.1
   ·have:=hr.ahead z; lia
  have b:∀ x,mR x (s :: ss) -> s.1 <= x:=fun x hx=>by
   rcases mR_cons.mp hx with z | z
   ·exact z.1
   ·have:=hs.ahead z; lia
  have e1:r.1 = s.1:=by
   have:=b r.1 ((e r.1).mp (mR_cons.mpr (.inl ⟨Int.le_refl _,r1⟩)))
   have:=a s.1 ((e s.1).mpr (mR_cons.mpr (.inl ⟨Int.le_refl _,s1⟩)))
   lia
  have nr:¬ mR r.2 (r :: rs):=fun z=>by
   rcases mR_cons.mp z with y | y
   ·lia
   ·have:=hr.ahead y; lia
  have ns:¬ mR s.2 (s :: ss):=fun z=>by
   rcases mR_cons.mp z with y | y
   ·lia
   ·have:=hs.ahead y; lia
  have e2:r.2 = s.2:=by
   rcases Int.lt_trichotomy r.2 s.2 with z | z | z
   ·exact absurd ((e r.2).mpr (mR_cons.mpr (.inl ⟨by lia,z⟩))) nr
   ·exact z
   ·exact absurd ((e s.2).mp (mR_cons.mpr (.inl ⟨by lia,z⟩))) ns
  have er:r = s:=Prod.ext e1 e2
  subst er
  rw [NR.uniq hr.tail hs.tail fun x=>?_]
  have ex:=e x
  rw [mR_cons,mR_cons] at ex
  constructor
  ·intro z
   have:=hr.ahead z
   rcases ex.mp (Or.inr z) with y | y
   ·lia
   ·exact y
  ·intro z
   have:=hs.ahead z
   rcases ex.mpr (Or.inr z) with y | y
   ·lia
   ·exact y
def Great (lo hi:Int) (h:Nat):Prop:=lo % 2 ^ h = 0 /\ (2:Int) ^ h <= hi - lo /\ ¬ (lo % 2 ^ (h + 1) = 0 /\ (2:Int) ^ (h + 1) <= hi - lo)
theorem pow_dvd_le {a b:Nat} (h:a <= b):((2:Int) ^ a) ∣ 2 ^ b:=⟨2 ^ (b - a),by rw [<- Int.pow_add]; congr 1; lia⟩
theorem pow_mono2 {a b:Nat} (h:a <= b):(2:Int) ^ a <= 2 ^ b:=by
 obtain ⟨c,e⟩:=pow_dvd_le h
 have pa:=Bd.two_pos a
 have pb:=Bd.two_pos b
 have pc:0 < c:=by
  rcases Int.lt_trichotomy c 0 with z | z | z
  ·have:=Int.mul_neg_of_pos_of_neg pa z; lia
  ·subst z; lia
  ·exact z
 rw [e]
 have:=Int.mul_le_mul_of_nonneg_left (show (1:Int) <= c by lia) (show (0:Int) <= 2 ^ a by lia)
 lia
theorem mod_pow_le {lo:Int} {a b:Nat} (h:a <= b) (e:lo % 2 ^ b = 0):lo % 2 ^ a = 0:=by
 have d:((2:Int) ^ b) ∣ lo:=Int.dvd_of_emod_eq_zero e
 exact Int.emod_eq_zero_of_dvd (Int.dvd_trans (pow_dvd_le h) d)
theorem Great.uniq {lo hi:Int} {h g:Nat} (a:Great lo hi h) (b:Great lo hi g):h = g:=by
 rcases Nat.lt_trichotomy h g with z | z | z
 ·exfalso
  exact a.2.2 ⟨mod_pow_le (show h + 1 <= g by lia) b.1,Int.le_trans (pow_mono2 (show h + 1 <= g by lia)) b.2.1⟩
 ·exact z
 ·exfalso
  exact b.2.2 ⟨mod_pow_le (show g + 1 <= h by lia) a.1,Int.le_trans (pow_mono2 (show g + 1 <= h by lia)) a.2.1⟩
def SpanS:Int -> Int -> List (Int × Int) -> Prop
 | lo,hi,[]=>lo = hi
 | lo,hi,b :: r=>lo < hi /\ b.1 = lo /\ 0 <= b.2 /\ Great lo hi b.2.toNat /\ SpanS (lo + 2 ^ b.2.toNat) hi r
theorem SpanS.le:∀ {bs:List (Int × Int)} {lo hi:Int},SpanS lo hi bs -> lo <= hi
 | [],_,_,h=>by have:_ = _:=h; lia
 | b :: r,lo,hi,h=>by have:=h.1; lia
theorem SpanS.uniq:∀ {bs cs:List (Int × Int)} {lo hi:Int},SpanS lo hi bs -> SpanS lo hi cs -> bs = cs
 | [],[],_,_,_,_=>rfl
 | [],c :: cs,lo,hi,h,k=>by have:lo = hi:=h; have:=k.1; lia
 | b :: bs,[],lo,hi,h,k=>by have:lo = hi:=k; have:=h.1; lia
 | b :: bs,c :: cs,lo,hi,h,k=>by
  obtain ⟨h1,h2,h3,h4,h5⟩:=h
  obtain ⟨k1,k2,k3,k4,k5⟩:=k
  have e:=h4.uniq k4
  have e2:b.2 = c.2:=by lia
  have eb:b = c:=Prod.ext (by lia) e2
  subst eb
  rw [SpanS.uniq h5 k5]
theorem SpanS.mem:∀ {bs:List (Int × Int)} {lo hi:Int},SpanS lo hi bs -> ∀ x,mB x bs ↔ lo <= x /\ x < hi
 | [],lo,hi,h,x=>by
  have:lo = hi:=h
  exact ⟨fun z=>absurd z mB_nil,fun z=>by lia⟩
 | b :: r,lo,hi,h,x=>by
  obtain ⟨h1,h2,h3,h4,h5⟩:=h
  have:=SpanS.mem h5 x
  have l:=SpanS.le h5
  have p:=Bd.two_pos b.2.toNat
  rw [mB_cons,this]
  unfold eB
  rw [h2]
  lia
theorem SpanS.blk {bits:Int} (b0:0 <= bits):∀ {bs:List (Int × Int)} {lo hi:Int},SpanS lo hi bs -> 0 <= lo -> hi <= 2 ^ bits.toNat -> Bks bits bs
 | [],_,_,_,_,_=>fun b hb=>nomatch hb
 | b :: r,lo,hi,h,l0,l1=>by
  obtain ⟨h1,h2,h3,h4,h5⟩:=h
  have p:=Bd.two_pos b.2.toNat
  have l:=SpanS.le h5
  have ih:=SpanS.blk b0 h5 (by lia) l1
  intro c hc
  rcases List.mem_cons.mp hc with rfl | hc
  ·have hb:c.2.toNat <= bits.toNat:=by
    rcases Nat.lt_or_ge bits.toNat c.2.toNat with z | z
    ·exfalso
     have:=pow_mono2 (show bits.toNat + 1 <= c.2.toNat by lia)
     have p2:=Bd.two_pos bits.toNat
     rw [Int.pow_succ] at this
     have:=h4.2.1
     lia
    ·exact z
   obtain ⟨k,ek⟩:=Int.dvd_of_emod_eq_zero h4.1
   have k0:0 <= k:=by
    rcases Int.lt_or_le k 0 with z | z
    ·have:=Int.mul_neg_of_pos_of_neg p z; lia
    ·exact z
   refine ⟨h3,by lia,k,k0,by rw [h2,ek,Int.mul_comm],?_⟩
   have e:(2:Int) ^ bits.toNat = 2 ^ (bits - c.2).toNat * 2 ^ c.2.toNat:=by rw [<- Int.pow_add]; congr 1; lia
   have up:k * 2 ^ c.2.toNat < 2 ^ (bits - c.2).toNat * 2 ^ c.2.toNat:=by
    rw [<- e,Int.mul_comm,<- ek]; lia
   exact Int.lt_of_mul_lt_mul_right up (by lia)
  ·exact ih c hc
theorem SpanS.in:∀ {bs:List (Int × Int)} {lo hi:Int},SpanS lo hi bs -> ∀ b ∈ bs,lo <= b.1 /\ eB b <= hi
 | [],_,_,_=>fun b hb=>nomatch hb
 | b :: r,lo,hi,h=>by
  obtain ⟨h1,h2,h3,h4,h5⟩:=h
  have p:=Bd.two_pos b.2.toNat
  have ih:=SpanS.in h5
  have l:=SpanS.le h5
  intro c hc
  rcases List.mem_cons.mp hc with rfl | hc
  ·unfold eB; rw [h2]; lia
  ·have:=ih c hc; lia
theorem SpanS.pw:∀ {bs:List (Int × Int)} {lo hi:Int},SpanS lo hi bs -> bs.Pairwise fun a b=>eB a <= b.1
 | [],_,_,_=>.nil
 | b :: r,lo,hi,h=>by
  obtain ⟨h1,h2,h3,h4,h5⟩:=h
  refine .cons (fun c hc=>?_) (SpanS.pw h5)
  have:=SpanS.in h5 c hc
  unfold eB; rw [h2]; lia
theorem span_lenA:∀ {bs:List (Int × Int)} {lo hi:Int} {k:Nat},SpanS lo hi bs -> lo % 2 ^ k = 0 -> hi - lo < 2 ^ k -> bs.length <= k
 | [],_,_,_,_,_,_=>Nat.zero_le _
 | b :: r,lo,hi,k,h,d,l=>by
  obtain ⟨h1,h2,h3,h4,h5⟩:=h
  have hk:b.2.toNat < k:=by
   rcases Nat.lt_or_ge b.2.toNat k with z | z
   ·exact z
   ·have:=pow_mono2 z; have:=h4.2.1; lia
  have up:¬ (2:Int) ^ (b.2.toNat + 1) <= hi - lo:=fun z=>h4.2.2 ⟨mod_pow_le (show b.2.toNat + 1 <= k by lia) d,z⟩
  rw [Int.pow_succ] at up
  have:=span_lenA (k:=b.2.toNat) h5 (by rw [Int.add_emod,h4.1]; simp) (by lia)
  rw [List.length_cons]
  lia
theorem span_lenB {K:Nat}:∀ {bs:List (Int × Int)} {lo hi:Int} {k:Nat},SpanS lo hi bs -> lo % 2 ^ k = 0 -> hi - lo < 2 ^ K -> k <= K -> bs.length <= (K - k) + K
 | [],_,_,_,_,_,_,_=>Nat.zero_le _
 | b :: r,lo,hi,k,h,d,l,hkK=>by
  obtain ⟨h1,h2,h3,h4,h5⟩:=h
  have p:=Bd.two_pos b.2.toNat
  have hK:b.2.toNat < K:=by
   rcases Nat.lt_or_ge b.2.toNat K with z | z
   ·exact z
   ·have:=pow_mono2 z; have:=h4.2.1; lia
  rw [List.length_cons]
  by_cases up:(2:Int) ^ (b.2.toNat + 1) <= hi - lo
  ·have nd:¬ lo % 2 ^ (b.2.toNat + 1) = 0:=fun z=>h4.2.2 ⟨z,up⟩
   have hk:k <= b.2.toNat:=by
    rcases Nat.lt_or_ge b.2.toNat k with z | z
    ·exact absurd (mod_pow_le (show b.2.toNat + 1 <= k by lia) d) nd
    ·exact z
   have d':(lo + 2 ^ b.2.toNat) % 2 ^ (b.2.toNat + 1) = 0:=by
    obtain ⟨q,eq⟩:=Int.dvd_of_emod_eq_zero h4.1
    have e2:(2:Int) ^ (b.2.toNat + 1) = 2 ^ b.2.toNat * 2:=Int.pow_succ _ _
    rw [e2] at nd ⊢
    have odd:q % 2 = 1:=by
     rcases Int.emod_two_eq q with z | z
     ·exfalso
      obtain ⟨t,et⟩:=Int.dvd_of_emod_eq_zero z
      apply nd
      apply Int.emod_eq_zero_of_dvd
      exact ⟨t,by rw [eq,et,Int.mul_assoc]⟩
     ·exact z
    apply Int.emod_eq_zero_of_dvd
    refine ⟨(q + 1) / 2,?_⟩
    have:q + 1 = 2 * ((q + 1) / 2):=by lia
    rw [eq,Int.mul_assoc,<- this,Int.mul_add,Int.mul_one]
   have:=span_lenB (K:=K) (k:=b.2.toNat + 1) h5 d' (by lia) (by lia)
   lia
  ·rw [Int.pow_succ] at up
   have:=span_lenA (k:=b.2.toNat) h5 (by rw [Int.add_emod,h4.1]; simp) (by lia)
   lia
theorem SpanS.len {bs:List (Int × Int)} {lo hi:Int} (h:SpanS lo hi bs) (l0:0 <= lo) (l1:hi <= 2 ^ 64):bs.length <= 130:=by
 have:=span_lenB (K:=65) (k:=0) h (by simp) (by have e:(2:Int) ^ 65 = 2 * 2 ^ 64:=by decide
                                                lia) (by decide)
 lia
theorem great_ex {lo hi:Int} (h:lo < hi):∃ g,Great lo hi g:=by
 have key:∀ (d k:Nat),lo % 2 ^ k = 0 -> (2:Int) ^ k <= hi - lo -> (hi - lo).toNat < 2 ^ (k + d) -> ∃ g,Great lo hi g:=by
  intro d
  induction d with
  | zero =>
   intro k _ b c
   exfalso
   have:((2 ^ k:Nat):Int) = (2:Int) ^ k:=by rw [Int.natCast_pow]; rfl
   rw [Nat.add_zero] at c
   lia
  | succ d ih =>
   intro k a b c
   by_cases z:lo % 2 ^ (k + 1) = 0 /\ (2:Int) ^ (k + 1) <= hi - lo
   ·exact ih (k + 1) z.1 z.2 (by rw [show k + 1 + d = k + (d + 1) by lia]; exact c)
   ·exact ⟨k,a,b,z⟩
 refine key (hi - lo).toNat 0 (by simp) (by simp; lia) ?_
 rw [Nat.zero_add]
 exact Nat.lt_two_pow_self
theorem span_ex:∀ (n:Nat) (lo hi:Int),(hi - lo).toNat <= n -> lo <= hi -> ∃ bs,SpanS lo hi bs:=by
 intro n
 induction n with
 | zero =>
  intro lo hi h l
  exact ⟨[],by show lo = hi; lia⟩
 | succ n ih =>
  intro lo hi h l
  by_cases z:lo < hi
  ·obtain ⟨g,G⟩:=great_ex z
   have p:=Bd.two_pos g
   have:=G.2.1
   obtain ⟨bs,B⟩:=ih (lo + 2 ^ g) hi (by lia) (by lia)
   exact ⟨(lo,(g:Int)) :: bs,z,rfl,by show (0:Int) <= (g:Int); lia,by simpa using G,by simpa using B⟩
  ·exact ⟨[],by show lo = hi; lia⟩
def PatS:List Run -> List (Int × Int) -> Prop
 | [],ps=>ps = []
 | r :: rs,ps=>∃ a b,ps = a ++ b /\ SpanS r.1 r.2 a /\ PatS rs b
theorem PatS.uniq:∀ {rs:List Run} {ps qs:List (Int × Int)},PatS rs ps -> PatS rs qs -> ps = qs
 | [],_,_,h,k=>by rw [show _ = [] from h,show _ = [] from k]
 | r :: rs,_,_,h,k=>by
  obtain ⟨a,b,rfl,h1,h2⟩:=h
  obtain ⟨c,d,rfl,k1,k2⟩:=k
  rw [h1.uniq k1,PatS.uniq h2 k2]
theorem PatS.mem:∀ {rs:List Run} {ps:List (Int × Int)},PatS rs ps -> ∀ x,mB x ps ↔ mR x rs
 | [],_,h,x=>by
  cases (show _ = [] from h)
  exact ⟨fun z=>absurd z mB_nil,fun z=>absurd z mR_nil⟩
 | r :: rs,_,h,x=>by
  obtain ⟨a,b,rfl,h1,h2⟩:=h
  rw [mB_app,mR_cons,h1.mem x,PatS.mem h2 x]
theorem PatS.blk {bits:Int} (b0:0 <= bits):∀ {rs:List Run} {ps:List (Int × Int)},PatS rs ps -> (∀ r ∈ rs,0 <= r.1 /\ r.2 <= 2 ^ bits.toNat) -> Bks bits ps
 | [],_,h,_=>by cases (show _ = [] from h); exact fun b hb=>nomatch hb
 | r :: rs,_,h,w=>by
  obtain ⟨a,b,rfl,h1,h2⟩:=h
  have wr:=w r (by simp)
  intro c hc
  rcases List.mem_append.mp hc with hc | hc
  ·exact h1.blk b0 wr.1 wr.2 c hc
  ·exact PatS.blk b0 h2 (fun s hs=>w s (by simp [hs])) c hc
theorem PatS.in:∀ {rs:List Run} {ps:List (Int × Int)},PatS rs ps -> ∀ b ∈ ps,∃ r ∈ rs,r.1 <= b.1 /\ eB b <= r.2
 | [],_,h=>by cases (show _ = [] from h); exact fun b hb=>nomatch hb
 | r :: rs,_,h=>by
  obtain ⟨a,b,rfl,h1,h2⟩:=h
  intro c hc
  rcases List.mem_append.mp hc with hc | hc
  ·exact ⟨r,by simp,h1.in c hc⟩
  ·obtain ⟨s,hs,q⟩:=PatS.in h2 c hc
   exact ⟨s,by simp [hs],q⟩
theorem PatS.pw:∀ {rs:List Run} {ps:List (Int × Int)},PatS rs ps -> NR rs -> ps.Pairwise fun a b=>eB a <= b.1
 | [],_,h,_=>by cases (show _ = [] from h); exact .nil
 | r :: rs,_,h,nr=>by
  obtain ⟨a,b,rfl,h1,h2⟩:=h
  rw [List.pairwise_append]
  refine ⟨h1.pw,PatS.pw h2 nr.tail,fun x hx y hy=>?_⟩
  have:=h1.in x hx
  obtain ⟨s,hs,q⟩:=PatS.in h2 y hy
  have:=(List.pairwise_cons.mp nr.2).1 s hs
  lia
theorem PatS.len:∀ {rs:List Run} {ps:List (Int × Int)},PatS rs ps -> (∀ r ∈ rs,0 <= r.1 /\ r.2 <= 2 ^ 64) -> ps.length <= 130 * rs.length
 | [],_,h,_=>by cases (show _ = [] from h); simp
 | r :: rs,_,h,w=>by
  obtain ⟨a,b,rfl,h1,h2⟩:=h
  have wr:=w r (by simp)
  have:=h1.len wr.1 wr.2
  have:=PatS.len h2 fun s hs=>w s (by simp [hs])
  rw [List.length_append,List.length_cons]
  lia
def CanP (S:Int -> Prop) (ps:List (Int × Int)):Prop:=∃ rs,NR rs /\ (∀ x,mR x rs ↔ S x) /\ PatS rs ps
theorem CanP.uniq {S T:Int -> Prop} {ps qs:List (Int × Int)} (h:CanP S ps) (k:CanP T qs) (e:∀ x,S x ↔ T x):ps = qs:=by
 obtain ⟨rs,h1,h2,h3⟩:=h
 obtain ⟨ss,k1,k2,k3⟩:=k
 have:rs = ss:=h1.uniq k1 fun x=>by rw [h2,k2,e]
 subst this
 exact h3.uniq k3
theorem CanP.mem {S:Int -> Prop} {ps:List (Int × Int)} (h:CanP S ps) (x:Int):mB x ps ↔ S x:=by
 obtain ⟨rs,h1,h2,h3⟩:=h
 rw [h3.mem,h2]
theorem CanP.ptc {S:Int -> Prop} {ps:List (Int × Int)} {bits:Int} (b0:0 <= bits) (h:CanP S ps) (w:∀ x,S x -> 0 <= x /\ x < 2 ^ bits.toNat):Ptc bits ps:=by
 obtain ⟨rs,h1,h2,h3⟩:=h
 refine ⟨h3.blk b0 fun r hr=>?_,h3.pw h1⟩
 have lt:=h1.1 r hr
 have a:=w r.1 ((h2 _).mp ⟨r,hr,Int.le_refl _,lt⟩)
 have b:=w (r.2 - 1) ((h2 _).mp ⟨r,hr,by lia,by lia⟩)
 lia
end L2
namespace L2
open PySem PySem.Spec PyProof.Rows
section
variable {X:Cx} {a:Expr} {da:DTE} {ρ:En} {n:Nat} {R:PyData -> Nat -> Prop}
theorem mt_bitlen:MtR X "int.bit_length" (fun x xs H Q=>∃ i,x = .int i /\ xs = [] /\ Q (.int (Builtin.Int.intBits i)) H):=by
 intro pins s σ H x xs v us Q I rx rs h
 obtain ⟨i,rfl,rfl,q⟩:=h
 obtain ⟨t,rfl⟩:=rx
 cases rs
 exact call_int_bit_length ⟨.int _,H,I.tok _,⟨_,rfl⟩,q⟩
def dBitlen (d:DTE):DTE:=fun ρ n R=>d ρ n fun t n1=>lInt t fun i=>R (.int (Builtin.Int.intBits i)) n1
theorem de_bitlen {p2 p3:Pos} (h:DL X a da) (hbase:attributeBase a "bit_length" X.env (eval a X.env) = eval a X.env:=by rfl) (hline:(p2.endLine == p3.line) = true:=by rfl):DE X (.Call (.Attribute a "bit_length" p2) [] [] p3) (dBitlen da):=by
 obtain ⟨ta,pa,h⟩:=h
 refine ⟨_,pe_bm0 PySem.F.plainAttrs_int slot_int_bit_length type_int_bit_length mt_bitlen pa hbase hline,fun C ρ σ H n Q R S hd hq=>?_⟩
 refine h C ρ σ H n _ _ S hd fun t n1 v H1 r e1 h1 q1=>?_
 cases t with
 | int i =>
  rw [q1.intI]
  exact ⟨rfl,i,rfl,rfl,hq _ n1 _ H1 r e1 h1 (.int _)⟩
 | _=>exact r.elim
instance s_bitlen:Stp (dBitlen da ρ n R) (da ρ n fun t n1=>lInt t fun i=>R (.int (Builtin.Int.intBits i)) n1):=⟨fun h=>h⟩
end
theorem intBits_pos {i:Int} (h:0 < i):(Builtin.Int.intBits i:Int) - 1 = (i.toNat.log2:Int):=by
 unfold Builtin.Int.intBits
 have:(i == 0) = false:=by simp; lia
 rw [this]
 have e:i.natAbs = i.toNat:=by lia
 rw [e]
 simp
theorem log2_le {i:Int} (h:0 < i):(2:Int) ^ i.toNat.log2 <= i:=by
 have:=Nat.log2_self_le (n:=i.toNat) (by lia)
 have e:((2 ^ i.toNat.log2:Nat):Int) = (2:Int) ^ i.toNat.log2:=by rw [Int.natCast_pow]; rfl
 lia
theorem lt_log2 {i:Int} (h:0 < i):i < (2:Int) ^ (i.toNat.log2 + 1):=by
 have:=Nat.lt_log2_self (n:=i.toNat)
 have e:((2 ^ (i.toNat.log2 + 1):Nat):Int) = (2:Int) ^ (i.toNat.log2 + 1):=by rw [Int.natCast_pow]; rfl
 lia
theorem land_pred (t:Nat):∀ x:Nat,x % 2 ^ t = 0 -> ¬ x % 2 ^ (t + 1) = 0 -> x - (x &&& (x - 1)) = 2 ^ t:=by
 induction t with
 | zero =>
  intro x _ h
  have od:x % 2 = 1:=by
   have:¬ x % 2 = 0:=by simpa using h
   lia
  have e:x &&& (x - 1) = x - 1:=by
   apply Nat.eq_of_testBit_eq
   intro i
   rw [Nat.testBit_and]
   cases i with
   | zero =>
    have:(x - 1).testBit 0 = false:=by rw [Nat.testBit_zero]; simp; lia
    rw [this,Bool.and_false]
   | succ i =>
    have:x / 2 = (x - 1) / 2:=by lia
    rw [Nat.testBit_succ,Nat.testBit_succ,this,Bool.and_self]
  rw [e]; simp; lia
 | succ t ih =>
  intro x h1 h2
  have ev:x % 2 = 0:=by
   have:2 ∣ 2 ^ (t + 1):=⟨2 ^ t,by rw [Nat.pow_succ,Nat.mul_comm]⟩
   exact Nat.mod_eq_zero_of_dvd (Nat.dvd_trans this (Nat.dvd_of_mod_eq_zero h1))
  have hx:x = 2 * (x / 2):=by lia
  have p1:(x / 2) % 2 ^ t = 0:=by
   obtain ⟨q,e⟩:=Nat.dvd_of_mod_eq_zero h1
   apply Nat.mod_eq_zero_of_dvd
   refine ⟨q,?_⟩
   rw [Nat.pow_succ] at e
   have:x = 2 * (2 ^ t * q):=by rw [e]; rw [Nat.mul_comm (2 ^ t) 2,Nat.mul_assoc]
   lia
  have p2:¬ (x / 2) % 2 ^ (t + 1) = 0:=fun z=>by
   obtain ⟨q,e⟩:=Nat.dvd_of_mod_eq_zero z
   apply h2
   apply Nat.mod_eq_zero_of_dvd
   refine ⟨q,?_⟩
   rw [Nat.pow_succ,Nat.mul_comm (2 ^ (t + 1)) 2,Nat.mul_assoc,<- e]
   exact hx
  have:=ih (x / 2) p1 p2
  have e:x &&& (x - 1) = 2 * (x / 2 &&& (x / 2 - 1)):=by
   apply Nat.eq_of_testBit_eq
   intro i
   rw [Nat.testBit_and]
   cases i with
   | zero =>
    have a:x.testBit 0 = false:=by rw [Nat.testBit_zero]; simp; lia
    rw [a,Bool.false_and,Nat.testBit_zero]
    simp
   | succ i =>
    have nz:0 < x / 2:=by
     rcases Nat.eq_zero_or_pos (x / 2) with z | z
     ·rw [z] at p2; simp at p2
     ·exact z
    have b:(x - 1) / 2 = x / 2 - 1:=by lia
    rw [Nat.testBit_succ,Nat.testBit_succ,Nat.testBit_succ,b,Nat.mul_div_cancel_left _ (by decide:0 < 2),Nat.testBit_and]
  rw [e,Nat.pow_succ]
  have le:(x / 2 &&& (x / 2 - 1)) <= x / 2:=Nat.and_le_left
  lia
theorem and_neg {b:Int} (h:0 < b) {t:Nat} (h1:b % 2 ^ t = 0) (h2:¬ b % 2 ^ (t + 1) = 0):Builtin.bitAnd b (-b) = 2 ^ t:=by
 have e:Builtin.bitAnd b (-b) = b - ((b.toNat &&& (b.toNat - 1):Nat):Int):=by
  have h0:decide (0 <= b) = true:=decide_eq_true (by lia)
  have h3:decide (0 <= -b) = false:=decide_eq_false (by lia)
  show (match decide (0 <= b),decide (0 <= -b) with
   | true,true=>((b.toNat &&& (-b).toNat:Nat):Int)
   | true,false=>b - ((b.toNat &&& (Builtin.bitNot (-b)).toNat:Nat):Int)
   | false,true=>(-b) - (((-b).toNat &&& (Builtin.bitNot b).toNat:Nat):Int)
   | false,false=>Builtin.bitNot (((Builtin.bitNot b).toNat ||| (Builtin.bitNot (-b)).toNat:Nat):Int)) = _
  rw [h0,h3]
  have:(Builtin.bitNot (-b)).toNat = b.toNat - 1:=by
   have:Builtin.bitNot (-b) = b - 1:=by show -(-b) - 1 = b - 1; lia
   rw [this]; lia
  rw [this]
 have cast:∀ k:Nat,b % (2:Int) ^ k = ((b.toNat % 2 ^ k:Nat):Int):=fun k=>by
  rw [Int.natCast_emod,Int.natCast_pow,Int.toNat_of_nonneg (by lia)]; rfl
 rw [cast] at h1 h2
 have:=land_pred t b.toNat (by lia) (by lia)
 have le:(b.toNat &&& (b.toNat - 1)) <= b.toNat:=Nat.and_le_left
 rw [e]
 have e3:((2 ^ t:Nat):Int) = (2:Int) ^ t:=by rw [Int.natCast_pow]; rfl
 lia
theorem tz_ex {b:Int} (h:0 < b):∃ t:Nat,b % 2 ^ t = 0 /\ ¬ b % 2 ^ (t + 1) = 0:=by
 obtain ⟨g,G⟩:=great_ex (lo:=b) (hi:=b + b + 1) (by lia)
 refine ⟨g,G.1,fun z=>?_⟩
 have d:=Int.dvd_of_emod_eq_zero z
 have:=Int.le_of_dvd h d
 exact G.2.2 ⟨z,by lia⟩
theorem ixN_last {xs:List PyData} {x:PyData}:ixN (xs ++ [x]).length (-1) = some xs.length:=by
 unfold ixN
 simp
 lia
theorem j_ixLast {xs:List PyData} {x:PyData} {Q:PyData -> Prop} (h:Q x):oIx (.list (xs ++ [x])) (.int (-1)) Q:=by
 have e:atI (xs ++ [x]) (-1) = some x:=by
  unfold atI
  rw [ixN_last]
  simp
 rw [l_ixL e]; exact h
end L2
namespace Bd
open PySem L2
def ppD (xs:List (PyData × PyData)):List PyData:=xs.map fun p=>.tuple [p.1,p.2]
def oD (os:List ((Int × Int) × Str)):List PyData:=os.map fun p=>.tuple [prD p.1,.str p.2]
theorem oD_len {os:List ((Int × Int) × Str)}:(oD os).length = os.length:=by simp [oD]
def Shr (bits:Int) (os:List ((Int × Int) × Str)):Prop:=Ptc bits (os.map (·.1)) /\ ∀ p ∈ os,IsNm p.2
theorem oD_pp (os:List ((Int × Int) × Str)):oD os = ppD (os.map fun p=>(prD p.1,.str p.2)):=by
 unfold oD ppD
 rw [List.map_map]; rfl
def apB (a b:Int × Int):Prop:=eB a <= b.1 \/ eB b <= a.1
def okPr (p q:(Int × Int) × Str):Prop:=p.2 = q.2 \/ apB p.1 q.1
def Agr (os ks:List ((Int × Int) × Str)):Prop:=∀ p ∈ os,∀ q ∈ ks,okPr p q
abbrev Deal:=Int × List ((Int × Int) × Str) × List ((Int × Int) × Str)
def dlD (d:Deal):PyData:=.tuple [.int d.1,.tuple (oD d.2.1),.tuple (oD d.2.2)]
def Dl (d:Deal):Prop:=1 <= d.1 /\ d.1 <= 64 /\ Shr d.1 d.2.1 /\ Shr d.1 d.2.2 /\ Agr d.2.1 d.2.2
def nD (nms:List Str):List PyData:=nms.map .str
theorem oD_get {os:List ((Int × Int) × Str)} {k:Nat} {t:PyData} (h:(oD os)[k]? = some t):∃ p,os[k]? = some p /\ t = .tuple [.tuple [.int p.1.1,.int p.1.2],.str p.2]:=by
 unfold oD at h
 rw [List.getElem?_map] at h
 cases e:os[k]? with
 | none=>rw [e] at h; cases h
 | some p=>rw [e] at h; cases h; exact ⟨p,rfl,rfl⟩
end Bd
namespace L2
open PySem PySem.Spec PyProof.Rows
section
variable {X:Cx} {tg iter:Expr} {d:DTE}
def iSeq (K:PySem.W.Frag) (tl:TE):TI:=fun σ H R=>tl σ H fun x H1=>∃ a,x = .ref a /\ (((∃ xs,SqL K H1 a xs) /\ R (Itl K a) H1) \/ ((∃ xs,SqT K H1 a xs) /\ R (Itt K a) H1))
theorem pi_seq {l:Expr} {tl:TE} (hl:PE X l tl):PI X tg l (iSeq X.K tl):=by
 intro pins s σ H R I h
 refine thn (hl pins s σ H _ I h) fun v s1 ⟨x,H1,I1,r1,q1⟩=>?_
 obtain ⟨a,e,q1⟩:=q1
 subst e
 cases r1
 rcases q1 with ⟨⟨xs,hq⟩,q⟩ | ⟨⟨xs,hq⟩,q⟩
 ·obtain ⟨its,rv,p,hz⟩:=I1.list hq
  refine wpAny_pyIter_list p.isList ?_
  refine ⟨s1.heap.objs.size,[s1.heap.objs.size],_,_,H1,rfl,I1.kept (t':=s1.toks) fun b o e=>Heap.get?_push_of_some _ e,turn_list a _,⟨_,Heap.get?_push_size _ rfl,rfl,rfl⟩,fun b hb=>?_,q⟩
  have e:b = s1.heap.objs.size:=by simpa using hb
  subst e
  exact I1.fpOk (Nat.le_refl _) (I1.hok.fresh (Nat.le_refl _))
 ·obtain ⟨its,rv,p,hz⟩:=I1.tuple hq
  refine wpAny_pyIter_tuple (show s1.heap.IsTuple a its.toArray from p) ?_
  refine ⟨s1.heap.objs.size,[s1.heap.objs.size],_,_,H1,rfl,I1.kept (t':=s1.toks) fun b o e=>Heap.get?_push_of_some _ e,turn_tuple a _,⟨_,Heap.get?_push_size _ rfl,rfl,rfl⟩,fun b hb=>?_,q⟩
  have e:b = s1.heap.objs.size:=by simpa using hb
  subst e
  exact I1.fpOk (Nat.le_refl _) (I1.hok.fresh (Nat.le_refl _))
def dItA (d:DTE):DTA:=fun ρ n R=>d ρ n fun t n'=>lItems t fun ts=>R ts n'
theorem di_seq (h:DE X iter d):DI X tg iter (dItA d):=by
 obtain ⟨ta,pa,h⟩:=h
 refine ⟨_,pi_seq pa,fun C ρ σ H n Q R S hd hq=>?_⟩
 refine h C ρ σ H n _ _ S hd fun t n' v H' r e1 hn q=>?_
 cases t with
 | tuple ts =>
  obtain ⟨p,vs,rfl,h1,it⟩:=it_tup (P:=fun a=>¬ Own C ρ σ a) (fun _ z=>z) q
  exact ⟨p,rfl,.inr ⟨⟨vs,h1⟩,hq ts n' _ H' r e1 hn it⟩⟩
 | list ts =>
  obtain ⟨p,vs,rfl,h1,no,r2⟩:=q.lstI
  exact ⟨p,rfl,.inl ⟨⟨vs,SqL.of h1⟩,hq ts n' _ H' r e1 hn (it_list h1 no (fun _ z=>z) r2)⟩⟩
 | _=>exact r.elim
end
section
variable {ρ:En} {n:Nat} {d:DTE} {Rl:List PyData -> Nat -> Prop}
instance s_itA:Stp (dItA d ρ n Rl) (d ρ n fun t n'=>lItems t fun ts=>Rl ts n'):=⟨fun h=>h⟩
end
end L2
namespace L2
open PySem PySem.Spec PyProof.Rows
theorem blk_nest {bits:Int} {p q:Int × Int} (P:IsBk bits p.1 p.2) (Q:IsBk bits q.1 q.2) {x:Int} (hp:p.1 <= x /\ x < eB p) (hq:q.1 <= x /\ x < eB q):(p.1 <= q.1 /\ eB q <= eB p /\ q.2 <= p.2) \/ (q.1 <= p.1 /\ eB p <= eB q /\ p.2 <= q.2):=by
 unfold eB at *
 rcases Nat.le_total q.2.toNat p.2.toNat with l | l
 ·rcases blk_three P.n Q.n l with z | z | z
  ·left
   have:=(hld_iff P.n Q.n).mp z
   have:=P.1
   have:=Q.1
   lia
  ·lia
  ·lia
 ·rcases blk_three Q.n P.n l with z | z | z
  ·right
   have:=(hld_iff Q.n P.n).mp z
   have:=P.1
   have:=Q.1
   lia
  ·lia
  ·lia
theorem blk_dvd {bits i h:Int} (B:IsBk bits i h):i % 2 ^ h.toNat = 0:=by
 obtain ⟨_,_,k,_,rfl,_⟩:=B
 exact Int.mul_emod_left _ _
theorem SpanS.great:∀ {bs:List (Int × Int)} {lo hi:Int},SpanS lo hi bs -> ∀ b ∈ bs,Great b.1 hi b.2.toNat /\ lo <= b.1
 | [],_,_,_=>fun b hb=>nomatch hb
 | b :: r,lo,hi,h=>by
  obtain ⟨h1,h2,h3,h4,h5⟩:=h
  have p:=Bd.two_pos b.2.toNat
  intro c hc
  rcases List.mem_cons.mp hc with rfl | hc
  ·rw [h2]; exact ⟨h4,Int.le_refl _⟩
  ·have:=SpanS.great h5 c hc
   exact ⟨this.1,by lia⟩
theorem SpanS.max {bits:Int} (b0:0 <= bits) {bs:List (Int × Int)} {lo hi:Int} (S:SpanS lo hi bs) (l0:0 <= lo) (l1:hi <= 2 ^ bits.toNat) {p q:Int × Int} (hp:p ∈ bs) (Q:IsBk bits q.1 q.2) (w:lo <= q.1 /\ eB q <= hi) (i:q.1 <= p.1 /\ eB p <= eB q):q = p:=by
 have B:=S.blk b0 l0 l1
 have P:=B p hp
 have pp:=Bd.two_pos p.2.toNat
 have pq:=Bd.two_pos q.2.toNat
 have nest:=blk_nest P Q (x:=p.1) ⟨Int.le_refl _,by unfold eB; lia⟩ ⟨i.1,by unfold eB at *; lia⟩
 have hle:p.2 <= q.2:=by
  rcases nest with ⟨a,b,c⟩ | ⟨a,b,c⟩
  ·have e1:p.1 = q.1:=by lia
   have e2:eB p = eB q:=by lia
   unfold eB at e2
   rcases Int.lt_or_le q.2 p.2 with z | z
   ·have p0:=P.1
    have q0:=Q.1
    have:=pow_mono2 (show q.2.toNat + 1 <= p.2.toNat by lia)
    rw [Int.pow_succ] at this
    lia
   ·exact z
  ·exact c
 have p0:=P.1
 have q0:=Q.1
 by_cases e:p.2 = q.2
 ·have e1:(2:Int) ^ p.2.toNat = 2 ^ q.2.toNat:=by rw [e]
  have:q.1 = p.1:=by unfold eB at *; lia
  exact Prod.ext this e.symm
 ·exfalso
  have hlt:p.2.toNat + 1 <= q.2.toNat:=by lia
  have dq:=blk_dvd Q
  have dq1:=mod_pow_le hlt dq
  have G:=(S.great p hp).1
  by_cases ev:p.1 % 2 ^ (p.2.toNat + 1) = 0
  ·
   apply G.2.2
   refine ⟨ev,?_⟩
   obtain ⟨a,ea⟩:=Int.dvd_of_emod_eq_zero ev
   have de:eB q % 2 ^ (p.2.toNat + 1) = 0:=by
    unfold eB
    rw [Int.add_emod,dq1,Int.emod_eq_zero_of_dvd (pow_dvd_le hlt)]; simp
   obtain ⟨c,ec⟩:=Int.dvd_of_emod_eq_zero de
   have lt:p.1 < eB q:=by have:=i.2; unfold eB at *; lia
   rw [ea,ec] at lt
   have pos:=Bd.two_pos (p.2.toNat + 1)
   have ac:a < c:=Int.lt_of_mul_lt_mul_left lt (by lia)
   have:=Int.mul_le_mul_of_nonneg_left (show a + 1 <= c by lia) (show (0:Int) <= 2 ^ (p.2.toNat + 1) by lia)
   rw [Int.mul_add,Int.mul_one,<- ea,<- ec] at this
   lia
  ·
   have lowmod:(p.1 - 2 ^ p.2.toNat) % 2 ^ (p.2.toNat + 1) = 0:=by
    obtain ⟨k,ek⟩:=Int.dvd_of_emod_eq_zero (blk_dvd P)
    have e2:(2:Int) ^ (p.2.toNat + 1) = 2 ^ p.2.toNat * 2:=Int.pow_succ _ _
    rw [e2] at ev ⊢
    have odd:k % 2 = 1:=by
     rcases Int.emod_two_eq k with z | z
     ·exfalso
      obtain ⟨t,et⟩:=Int.dvd_of_emod_eq_zero z
      apply ev
      apply Int.emod_eq_zero_of_dvd
      exact ⟨t,by rw [ek,et,Int.mul_assoc]⟩
     ·exact z
    apply Int.emod_eq_zero_of_dvd
    refine ⟨(k - 1) / 2,?_⟩
    have:k - 1 = 2 * ((k - 1) / 2):=by lia
    rw [ek,Int.mul_assoc,<- this,Int.mul_sub,Int.mul_one]
   have lowq:q.1 <= p.1 - 2 ^ p.2.toNat:=by
    obtain ⟨a,ea⟩:=Int.dvd_of_emod_eq_zero lowmod
    obtain ⟨c,ec⟩:=Int.dvd_of_emod_eq_zero dq1
    have pos:=Bd.two_pos (p.2.toNat + 1)
    have e2:(2:Int) ^ (p.2.toNat + 1) = 2 ^ p.2.toNat * 2:=Int.pow_succ _ _
    have lt:q.1 < p.1 - 2 ^ p.2.toNat + 2 ^ (p.2.toNat + 1):=by lia
    rw [ea,ec] at lt
    have:(2:Int) ^ (p.2.toNat + 1) * c < 2 ^ (p.2.toNat + 1) * (a + 1):=by rw [Int.mul_add,Int.mul_one]; exact lt
    have ca:=Int.lt_of_mul_lt_mul_left this (by lia)
    have:=Int.mul_le_mul_of_nonneg_left (show c <= a by lia) (show (0:Int) <= 2 ^ (p.2.toNat + 1) by lia)
    rw [<- ea,<- ec] at this
    exact this
   obtain ⟨c,hc,c1,c2⟩:=(S.mem (p.1 - 2 ^ p.2.toNat)).mpr ⟨by lia,by have:=S.in p hp; unfold eB at this; lia⟩
   have C:=B c hc
   have pc:=Bd.two_pos c.2.toNat
   have cp:eB c <= p.1:=by
    obtain ⟨i1,h1,rfl⟩:=List.getElem_of_mem hc
    obtain ⟨i2,h2,rfl⟩:=List.getElem_of_mem hp
    rcases Nat.lt_trichotomy i1 i2 with z | z | z
    ·exact List.pairwise_iff_getElem.mp S.pw i1 i2 h1 h2 z
    ·subst z; lia
    ·have:=List.pairwise_iff_getElem.mp S.pw i2 i1 h2 h1 z
     unfold eB at this
     lia
   have LB:IsBk bits (p.1 - 2 ^ p.2.toNat) (p.2 + 1):=by
    have hq1:=Q.2.1
    obtain ⟨a,ea⟩:=Int.dvd_of_emod_eq_zero lowmod
    have e1:(p.2 + 1).toNat = p.2.toNat + 1:=by lia
    have pos:=Bd.two_pos (p.2.toNat + 1)
    have a0:0 <= a:=by
     rcases Int.lt_or_le a 0 with z | z
     ·have:=Int.mul_neg_of_pos_of_neg pos z
      have:=(Q.bounds b0).1
      lia
     ·exact z
    refine ⟨by lia,by lia,a,a0,by rw [e1,ea,Int.mul_comm],?_⟩
    have e:(2:Int) ^ bits.toNat = 2 ^ (bits - (p.2 + 1)).toNat * 2 ^ (p.2.toNat + 1):=by rw [<- Int.pow_add]; congr 1; lia
    have up:a * 2 ^ (p.2.toNat + 1) < 2 ^ (bits - (p.2 + 1)).toNat * 2 ^ (p.2.toNat + 1):=by
     rw [<- e,Int.mul_comm,<- ea]
     have:=(P.bounds b0).2
     lia
    exact Int.lt_of_mul_lt_mul_right up (by lia)
   have e1:(p.2 + 1).toNat = p.2.toNat + 1:=by lia
   have n3:=blk_nest (p:=c) (q:=(p.1 - 2 ^ p.2.toNat,p.2 + 1)) C LB (x:=p.1 - 2 ^ p.2.toNat) ⟨c1,c2⟩ ⟨Int.le_refl _,by show _ < _ + 2 ^ (p.2 + 1).toNat; have:=Bd.two_pos (p.2 + 1).toNat; lia⟩
   have eL:eB (p.1 - 2 ^ p.2.toNat,p.2 + 1) = p.1 + 2 ^ p.2.toNat:=by
    show p.1 - 2 ^ p.2.toNat + 2 ^ (p.2 + 1).toNat = _
    rw [e1,Int.pow_succ]; lia
   rcases n3 with ⟨z1,z2,z3⟩ | ⟨z1,z2,z3⟩
   ·lia
   ·have z1:p.1 - 2 ^ p.2.toNat <= c.1:=z1
    have z3:c.2 <= p.2 + 1:=z3
    have cb:c.1 = p.1 - 2 ^ p.2.toNat:=by lia
    have c0:=C.1
    have ch:c.2 <= p.2:=by
     rcases Int.lt_or_le p.2 c.2 with z | z
     ·have:c.2 = p.2 + 1:=by lia
      unfold eB at cp
      rw [this,e1,Int.pow_succ] at cp
      lia
     ·exact z
    have Gc:=(S.great c hc).1
    apply Gc.2.2
    refine ⟨?_,?_⟩
    ·rw [cb]; exact mod_pow_le (show c.2.toNat + 1 <= p.2.toNat + 1 by lia) lowmod
    ·have:=pow_mono2 (show c.2.toNat + 1 <= p.2.toNat + 1 by lia)
     have e2:(2:Int) ^ (p.2.toNat + 1) = 2 ^ p.2.toNat * 2:=Int.pow_succ _ _
     have:=S.in p hp
     unfold eB at this
     lia
theorem NR.one {rs:List Run} (nr:NR rs) {a b:Int} (h:a < b) (w:∀ x,a <= x -> x < b -> mR x rs):∃ r ∈ rs,r.1 <= a /\ b <= r.2:=by
 obtain ⟨r,hr,h1,h2⟩:=w a (Int.le_refl _) h
 refine ⟨r,hr,h1,?_⟩
 rcases Int.lt_or_le r.2 b with z | z
 ·exfalso
  obtain ⟨s,hs,k1,k2⟩:=w r.2 (by lia) z
  obtain ⟨i,hi,rfl⟩:=List.getElem_of_mem hr
  obtain ⟨j,hj,rfl⟩:=List.getElem_of_mem hs
  have li:=nr.1 _ hr
  have lj:=nr.1 _ hs
  rcases Nat.lt_trichotomy i j with y | y | y
  ·have:=List.pairwise_iff_getElem.mp nr.2 i j hi hj y; lia
  ·subst y; lia
  ·have:=List.pairwise_iff_getElem.mp nr.2 j i hj hi y; lia
 ·exact z
theorem PatS.from:∀ {rs:List Run} {ps:List (Int × Int)},PatS rs ps -> ∀ p ∈ ps,∃ r ∈ rs,∃ bs,SpanS r.1 r.2 bs /\ p ∈ bs
 | [],_,h=>by cases (show _ = [] from h); exact fun b hb=>nomatch hb
 | s :: rs,_,h=>by
  obtain ⟨a,b,rfl,h1,h2⟩:=h
  intro p hp
  rcases List.mem_append.mp hp with hp | hp
  ·exact ⟨s,by simp,a,h1,hp⟩
  ·obtain ⟨r,hr,bs,B,hb⟩:=PatS.from h2 p hp
   exact ⟨r,by simp [hr],bs,B,hb⟩
theorem CanP.max {bits:Int} (b0:0 <= bits) {S:Int -> Prop} {ps:List (Int × Int)} (h:CanP S ps) (w:∀ x,S x -> 0 <= x /\ x < 2 ^ bits.toNat) {p q:Int × Int} (hp:p ∈ ps) (Q:IsBk bits q.1 q.2) (wq:∀ x,q.1 <= x -> x < eB q -> S x) (i:q.1 <= p.1 /\ eB p <= eB q):q = p:=by
 obtain ⟨rs,nr,me,P⟩:=h
 obtain ⟨r,hr,bs,B,hb⟩:=P.from p hp
 have lt:=nr.1 r hr
 have w1:=w r.1 ((me _).mp ⟨r,hr,Int.le_refl _,lt⟩)
 have w2:=w (r.2 - 1) ((me _).mp ⟨r,hr,by lia,by lia⟩)
 have pin:=B.in p hb
 have pp:=eB_pos p
 obtain ⟨s,hs,s1,s2⟩:=nr.one (a:=q.1) (b:=eB q) (eB_pos q) fun x h1 h2=>(me x).mpr (wq x h1 h2)
 have rs':r = s:=by
  obtain ⟨i1,h1,rfl⟩:=List.getElem_of_mem hr
  obtain ⟨i2,h2,rfl⟩:=List.getElem_of_mem hs
  rcases Nat.lt_trichotomy i1 i2 with y | y | y
  ·have:=List.pairwise_iff_getElem.mp nr.2 i1 i2 h1 h2 y; lia
  ·subst y; rfl
  ·have:=List.pairwise_iff_getElem.mp nr.2 i2 i1 h2 h1 y; lia
 subst rs'
 exact B.max b0 w1.1 (by lia) hb Q ⟨s1,s2⟩ i
theorem len_le_of:∀ {ps bs:List (Int × Int)},(ps.Pairwise fun a b=>eB a <= b.1) -> (∀ p ∈ ps,∃ b ∈ bs,p.1 <= b.1 /\ b.1 < eB p) -> ps.length <= bs.length
 | [],_,_,_=>Nat.zero_le _
 | p :: ps,bs,pw,h=>by
  obtain ⟨b,hb,b1,b2⟩:=h p (by simp)
  have pw':=List.pairwise_cons.mp pw
  have:=len_le_of (ps:=ps) (bs:=bs.erase b) pw'.2 fun q hq=>by
   obtain ⟨c,hc,c1,c2⟩:=h q (by simp [hq])
   refine ⟨c,(List.mem_erase_of_ne ?_).mpr hc,c1,c2⟩
   rintro rfl
   have:=pw'.1 q hq
   lia
  have e:=List.length_erase_of_mem hb
  have:=List.length_pos_of_mem hb
  rw [List.length_cons]
  lia
theorem CanP.le {bits:Int} (b0:0 <= bits) {bs ps:List (Int × Int)} (B:Bks bits bs) (h:CanP (fun x=>mB x bs) ps):ps.length <= bs.length:=by
 have w:∀ x,mB x bs -> 0 <= x /\ x < 2 ^ bits.toNat:=fun x ⟨b,hb,h1,h2⟩=>by
  have:=(B b hb).bounds b0
  unfold eB at h2
  lia
 have P:=h.ptc b0 w
 refine len_le_of P.2 fun p hp=>?_
 have pp:=eB_pos p
 obtain ⟨b,hb,h1,h2⟩:=(h.mem p.1).mp ⟨p,hp,Int.le_refl _,pp⟩
 rcases blk_nest (P.1 p hp) (B b hb) (x:=p.1) ⟨Int.le_refl _,pp⟩ ⟨h1,h2⟩ with z | z
 ·exact ⟨b,hb,z.1,by have:=eB_pos b; lia⟩
 ·have:=h.max b0 w hp (B b hb) (fun x y1 y2=>⟨b,hb,y1,y2⟩) ⟨z.1,z.2.1⟩
  subst this
  exact ⟨b,hb,Int.le_refl _,pp⟩
end L2
namespace L2
open PySem PySem.Spec PyProof.Rows
section
variable {Q:PyData -> Prop} {s t:Str} {i j:Int} {b:Bool} {xs ys:List PyData}
theorem okd_none':Okd .none:=okK_none.okd
instance s_neSN:Stp (oNe (.str s) .none Q) (Okd (.str s) /\ Q (.bool true)):=⟨fun h=>⟨h.1,okd_none',h.2⟩⟩
end
end L2
namespace Bd
open PySem L2
def IsWho (nm:PyData):Prop:=nm = .none \/ ∃ s,nm = .str s /\ IsNm s
def who (s:Str):PyData -> Bool
 | .str t=>decide (s = t)
 | _=>false
def keptOf (d:Deal) (nm:PyData):List (Int × Int):=(d.2.2.filter fun p=>!who p.2 nm).map (·.1)
end Bd
namespace L2
open PySem PySem.Spec PyProof.Rows
section
variable {X:Cx} {a b e o:Expr} {d da db:DTE} {ds:DTA} {pos p:Pos} {x y:Str}
def sParO (i j:Nat) (ds:DTA) (d:DTE):DTS:=fun D ρ n=>ds ρ n fun ts n1=>d ρ n1 fun t n2=>noLst t = true /\ D.nx ((ρ.set i (some (.own ts))).set j (some (.val t))) n2
theorem ds_parO {i j:Nat} {px py pt:Pos} {kt k2 pt2} (hc:X.calm = true) (hN:X.N.Nodup) (hi:X.N[i]? = some x) (hj:X.N[j]? = some y) (hij:i ≠ j)
  (hx:X.env.scope.names.lookup x = some .local) (hy:X.env.scope.names.lookup y = some .local) (h:DN X a ds) (h':DE X b d)
  (hs1:starEach [a,b] X.env = (false,eval a X.env) :: starEach [b] X.env:=by rfl) (hs2:starEach [b] X.env = [(false,eval b X.env)]:=by rfl)
  (hw:swappedStores [.Tuple [.Name x px,.Name y py] kt pt] (.Tuple [a,b] k2 pt2) X.env = pure (some [x,y]):=by rfl)
  (hs:swapsWithSole [.Tuple [.Name x px,.Name y py] kt pt] (.Tuple [a,b] k2 pt2) pos.line X.env = pure false:=by rfl) :
  DS X (.Assign [.Tuple [.Name x px,.Name y py] kt pt] (.Tuple [a,b] k2 pt2) pos) (sParO i j ds d):=by
 obtain ⟨ta,pa,h⟩:=h
 obtain ⟨tb,pb,h'⟩:=h'
 refine ⟨_,ps_par hc hN hi hj hij hx hy (pa_cons pa (pa_cons pb pa_nil hs2) hs1) hw hs,fun C ρ σ H n D D' S hd g=>?_⟩
 refine h C ρ σ H n _ _ S hd fun ts n1 p vs H1 r1 e1 h1 hp hp' q1=>?_
 have S1:=S.on e1 h1
 refine h' C ρ σ H1 n1 _ _ S1 r1 fun t n2 v H2 r2 e2 h2 q2=>?_
 refine ⟨_,_,rfl,?_⟩
 have nhd:C.hd ≠ some p:=fun z=>S.dom (.inl (S.hx p z)) hp
 have q1':Reps X.K C.hd (fun a=>Own C ρ σ a \/ a = p) H2 vs ts:=q1.mono (fun _ _ _ z=>z) fun a o no ha=>e2 a o ha fun z=>no (.inl (.inl (S.hx a z)))
 have SO:=S.putOwn (i:=i) (e1.trans e2) h2 hp (e2 p _ hp' nhd) q1'
 have q2':Rep X.K C.hd (Own C (ρ.set i (some (.own ts))) (σ.set i (some (.ref p)))) H2 v t:=q2.up (fun a ha=>SO.lst ha) r2.1
 exact g.nx _ _ H2 n2 r2.2 (SO.put q2') ((keep_putOwn (e1.trans e2) hp).trans keep_put)
variable {ρ ρ':En} {n i j l k:Nat} {D:DEnds} {init us:List PyData} {t:PyData}
instance s_parO:Stp (sParO i j ds d D ρ n) (ds ρ n fun ts n1=>d ρ n1 fun t n2=>noLst t = true /\ SetK i (some (.own ts)) (fun ρ1 n1=>SetK j (some (.val t)) D.nx ρ1 n1) ρ n2):=⟨fun h=>h⟩
end
end L2
namespace L2
open PySem PySem.Spec PyProof.Rows
section
variable {X:Cx} {Q:PyData -> Prop} {i j k:Int}
def min3 (i j k:Int):Int:=if j < i then (if k < j then k else j) else (if k < i then k else i)
theorem call_min3 (hc:X.calm = true):CallR X (.builtin "min") (fun xs H Q=>∃ i j k,xs = [.int i,.int j,.int k] /\ Q (.int (min3 i j k)) H):=by
 intro pins s σ H xs us Q I r h
 obtain ⟨i,j,k,rfl,q⟩:=h
 cases r with
 | cons r1 r =>
  obtain ⟨v,w',rfl,⟨t',rfl⟩,⟨t'',rfl⟩⟩:=vals2 r
  obtain ⟨t,rfl⟩:=r1
  refine min_three_ints (I.ok.hd hc) fun h' tk kk=>⟨_,H,I.kept kk,?_,q⟩
  unfold min3
  by_cases h1:j < i <;> by_cases h2:k < j <;> by_cases h3:k < i <;> simp only [h1,h2,h3,if_true,if_false] <;> exact ⟨_,rfl⟩
def bMin3:GC
 | [.int i,.int j,.int k],R=>R (.int (min3 i j k))
 | _,_=>False
theorem gp_min3:GpC X (fun xs H Q=>∃ i j k,xs = [.int i,.int j,.int k] /\ Q (.int (min3 i j k)) H) bMin3:=by
 intro hd O H xs ts Q R dom rs h hq
 unfold bMin3 at h
 split at h
 ·cases rs with
  | cons r0 rs =>
   obtain ⟨v,w,rfl,r1,r2⟩:=repTs2 rs
   rw [r0.intI,r1.intI,r2.intI]
   exact ⟨_,_,_,rfl,hq _ _ H h (Same.refl H) (.int _)⟩
 ·exact h.elim
theorem j_min3 {R:PyData -> Prop} (h:R (.int (min3 i j k))):bMin3 [.int i,.int j,.int k] R:=h
instance {R:PyData -> Prop}:Stp (bMin3 [.int i,.int j,.int k] R) (R (.int (min3 i j k))):=⟨fun h=>j_min3 h⟩
end
end L2
namespace L2
open PySem Bd
structure ShI (as bs cs:List Run) (a b:Nat):Prop where
 nr:NR cs
 me:∀ x,mR x cs ↔ mR x as /\ mR x bs /\ (mR x (as.take a) \/ mR x (bs.take b))
 gp:∀ c ∈ cs,∀ r ∈ as.drop a,∀ s ∈ bs.drop b,c.2 < max r.1 s.1
 ln:cs.length <= a + b
variable {as bs cs:List Run} {a b:Nat}
end L2
namespace L2
open PySem PySem.Spec PyProof.Rows
theorem kV_is {P:Program} {w:World} {k:Key} {u:Value} (r:RelV (kV k) u):(mixKind P w).is k u = true:=by
 cases k with
 | inl i=>obtain ⟨t,e⟩:=(show ∃ t,u = Value.int i t from r); subst e; exact mixKind_int P w i t
 | inr x=>obtain ⟨t,e⟩:=(show ∃ t,u = Value.str x t from r); subst e; exact mixKind_str P w x t
theorem items_are {P:Program} {w:World}:∀ {ks:List Key} {us:List Value},Vals (ks.map kV) us -> ItemsAre (mixKind P w) ks us
 | [],_,r=>by rw [List.map_nil] at r; cases r; exact .nil
 | k :: ks,_,r=>by
  rw [List.map_cons] at r
  cases r with
  | cons h t=>exact .cons (kV_is h) (items_are t)
abbrev KT (H:Hp):List (List Key × V) -> List (List Key × Addr × Value) -> Prop:=Paired fun p q=>p.1 = q.1 /\ H q.2.1 = some (.tup (p.1.map kV)) /\ RelV p.2 q.2.2
structure M1 (X:Cx) (o:Expr) (m:Str) (apos:Pos) (e:Expr) (cpos:Pos):Prop where
 base:attributeBase o m X.env (eval o X.env) = eval o X.env
 few:((backTo cpos (starEach [e] X.env)).all (fun x=>!x.1) && (backToKw cpos (keywordEach [] X.env)).all (fun x=>x.1.isSome)
  && decide (([e]:List Expr).length + ([]:List Keyword).length + (if ([]:List Keyword).isEmpty then 0 else 1) < 30)) = true
 line:(apos.endLine == cpos.line) = true
 trees:backTo cpos (starEach [e] X.env) = [(false,eval e X.env)]
structure M2 (X:Cx) (o:Expr) (m:Str) (apos:Pos) (e f:Expr) (cpos:Pos):Prop where
 base:attributeBase o m X.env (eval o X.env) = eval o X.env
 few:((backTo cpos (starEach [e,f] X.env)).all (fun x=>!x.1) && (backToKw cpos (keywordEach [] X.env)).all (fun x=>x.1.isSome)
  && decide (([e,f]:List Expr).length + ([]:List Keyword).length + (if ([]:List Keyword).isEmpty then 0 else 1) < 30)) = true
 line:(apos.endLine == cpos.line) = true
 trees:backTo cpos (starEach [e,f] X.env) = [(false,eval e X.env),(false,eval f X.env)]
end L2
namespace L2
open PySem PySem.Spec PyProof PyProof.Rows
def keyD:PyData -> Option Key
 | .int i=>some (.inl i)
 | .str x=>some (.inr x)
 | _=>none
abbrev KD:=List (Key × PyData)
section
variable {K:PySem.W.Frag} {hd:Option Addr} {O:Addr -> Prop} {H:Hp} {kvs:List (Key × V)} {ks:KD}
theorem Rep.keyV {v:V} {t:PyData} {k:Key} (r:Rep K hd O H v t) (h:keyD t = some k):v = kV k:=by
 cases t with
 | int i=>cases h; exact r.intI
 | str x=>cases h; exact r.strI
 | _=>cases h
end
section
variable {D:DEnds} {ρ ρ':En} {n i j:Nat} {d dk dv:DTE} {R:PyData -> Nat -> Prop} {ks:KD}
instance {ks:KD}:CapC (some (.dct ks)) (some (.rdo ks)):=⟨rfl⟩
instance {ks:KD}:CapC (some (.rdo ks)) (some (.rdo ks)):=⟨rfl⟩
end
end L2
namespace L2
open PySem PySem.Spec PyProof PyProof.Rows
theorem entry_upd_loop:entryFor table "dict.update.loop" = some Builtin.«dict.update.loop»:=by kernel_rfl
theorem keys_tuple:typeLookup (.type "tuple") "keys" = pure none:=by rw [typeLookup_type,builtinLookup_eq_fast]; kernel_rfl
theorem ga_tuple:typeLookup (.type "tuple") "__getattr__" = pure none:=by rw [typeLookup_type,builtinLookup_eq_fast]; kernel_rfl
end L2
namespace L2
open PySem PySem.Spec PyProof PyProof.Rows
section
variable {prog:Program} {w:World} {A:Around} {E:Value -> Shared -> Prop} {Ky:Type} [DecidableEq Ky] {knd:PySem.KeyKind prog w Ky}
def KpH (d it:Addr) (h h':Heap):Prop:=∀ b o,b ≠ d -> b ≠ it -> h.get? b = some o -> h'.get? b = some o
end
end L2
namespace L2
open PySem PySem.Spec PyProof PyProof.Rows
structure FewI (bits:Int) (ns:List Int) (g:Int) (j:Int) (fs:List (Int × Int)) (ls:List Int):Prop where
 bk:Bks bits fs
 inS:∀ f ∈ fs,∀ x,f.1 <= x -> x < eB f -> x ∈ ns
 dis:fs.Pairwise fun a b=>eB a <= b.1 \/ eB b <= a.1
 mx:∀ q ∈ fs,∀ c:Int × Int,IsBk bits c.1 c.2 -> (∀ x,c.1 <= x -> x < eB c -> x ∈ ns) -> c.1 <= q.1 -> eB q <= eB c -> c = q
 nd:ls.Nodup
 me:∀ x,x ∈ ls ↔ x ∈ ns /\ ¬ mB x fs
 hb:∀ c:Int × Int,IsBk bits c.1 c.2 -> (∀ x,c.1 <= x -> x < eB c -> x ∈ ns) -> (g < c.2 \/ (c.2 = g /\ c.1 < j * 2 ^ g.toNat)) -> ∃ f ∈ fs,f.1 <= c.1 /\ eB c <= eB f
theorem bks_in {bits:Int} (b0:0 <= bits) {bs:List (Int × Int)} (B:Bks bits bs) {x:Int} (h:mB x bs):0 <= x /\ x < 2 ^ bits.toNat:=by
 obtain ⟨b,hb,h1,h2⟩:=h
 have:=(B b hb).bounds b0
 unfold eB at h2
 lia
theorem nr_in {bits:Int} (b0:0 <= bits) (b1:bits <= 64) {S:Int -> Prop} {rs:List (Int × Int)} (nr:NR rs) (e:∀ x,mR x rs ↔ S x) (w:∀ x,S x -> 0 <= x /\ x < 2 ^ bits.toNat):∀ r ∈ rs,0 <= r.1 /\ r.1 <= r.2 /\ r.2 <= 2 ^ 64:=fun r hr=>by
 have lt:=nr.1 r hr
 have a:=w r.1 ((e _).mp ⟨r,hr,Int.le_refl _,lt⟩)
 have b:=w (r.2 - 1) ((e _).mp ⟨r,hr,by lia,by lia⟩)
 have:=Bd.pow_le64 (k:=bits.toNat) (by lia)
 lia
end L2
namespace L2
open PySem PySem.Spec PyProof PyProof.Rows
section
variable {prog:Program} {w:World} {A:Around} {E:Value -> Shared -> Prop} {s:Shared}
theorem gat_miss_tuple {a:Addr} {o:Obj} {u:Tok} {P:Fin -> Shared -> Prop} (ho:s.heap.get? a = some o) (hc:o.cls = .type "tuple") (hq:∃ its n,o.data = .seq its n) (hd:o.dict = none) (hA:A.handled = none)
  (h:∀ h' tk e,Heap.NewAttrErr s.heap h' e (.ref a) "keys" -> E (.ref e) { s with heap:=h',toks:=tk }):wpAny (model prog w) A (Builtin.«object.__getattribute__» ⟨[.ref a,.str "keys" u],[]⟩) P E s:=by
 obtain ⟨hp,g,d,tk,os⟩:=s
 have hT:∀ (t:Nat),Shared.TypeIs ⟨hp,g,d,t,os⟩ (.ref a) "tuple":=fun _=>⟨o,ho,hc⟩
 have hm:=keys_tuple
 unfold Builtin.«object.__getattribute__»
 repeat (any_goals (first | assumption | wp_step))
 rw [hc,hm]
 repeat (any_goals (first | assumption | wp_step))
 obtain ⟨its,n,hq⟩:=hq
 rw [hq]
 dsimp only
 unfold instanceDict
 repeat (any_goals (first | assumption | wp_step))
 rw [hd]
 repeat (any_goals (first | assumption | wp_step))
 simp only [hc,Bool.not_false,Bool.true_or,if_true]
 repeat (any_goals (first | assumption | wp_step))
 rw [hc]
 dsimp only
 repeat (any_goals (first | assumption | wp_step))
 exact wpAny_raiseAttrError hA h (attrMsg_fits (by decide +kernel) (by size_fits))
theorem keys_call_tuple {a:Addr} {o:Obj} {u:Tok} {R:Result -> Shared -> Prop} (ho:s.heap.get? a = some o) (hc:o.cls = .type "tuple") (hq:∃ its n,o.data = .seq its n) (hd:o.dict = none) (hA:A.handled = none)
  (h:∀ h' tk e,Heap.NewAttrErr s.heap h' e (.ref a) "keys" -> R (.error (.ref e)) { s with heap:=h',toks:=tk }):codeAny (model prog w) A (.call (.builtin "tuple.__getattribute__") ⟨[.ref a,.str "keys" u],[]⟩) R s :=
 codeAny_call_builtin F.slot_tuple_getattribute.plain F.entry_tuple_ga (F.slot_tuple_getattribute.check _ _ _ _ _ _ _ _ (show s.TypeIs (.ref a) "tuple" from ⟨_,ho,hc⟩) (F.args_tuple_getattribute_2 _ _) (gat_miss_tuple ho hc hq hd hA h))
theorem keys_by_tuple {a:Addr} {o:Obj} {u:Tok} {Q:Value -> Shared -> Prop} (ho:s.heap.get? a = some o) (hc:o.cls = .type "tuple") (hq:∃ its n,o.data = .seq its n) (hd:o.dict = none) (hA:A.handled = none)
  (h:∀ h' tk e,Heap.NewAttrErr s.heap h' e (.ref a) "keys" -> E (.ref e) { s with heap:=h',toks:=tk }):wpAny (model prog w) A (getAttrBy (.ref a) (.str "keys" u) false) Q E s:=by
 obtain ⟨hp,g,d,tk,os⟩:=s
 have hT:(⟨hp,g,d,tk,os⟩:Shared).TypeIs (.ref a) "tuple":=⟨o,ho,hc⟩
 have f2:=F.slot_tuple_getattribute.lookup
 have f3:=F.slot_tuple_getattribute.bind (.ref a)
 have f1:=sub_AttributeError
 have f5:=ga_tuple
 repeat (any_goals (first | assumption | wp_step))
 refine keys_call_tuple ho hc hq hd hA fun h' tk' e hx=>?_
 obtain ⟨t',u',he⟩:=hx.there
 repeat (any_goals (first | assumption | wp_step))
 exact h _ _ _ hx
theorem keys_attr_tuple {a:Addr} {o:Obj} {Q:Option Value -> Shared -> Prop} (ho:s.heap.get? a = some o) (hc:o.cls = .type "tuple") (hq:∃ its n,o.data = .seq its n) (hd:o.dict = none) (hA:A.handled = none)
  (h:∀ h' tk,(∀ b ob,s.heap.get? b = some ob -> h'.get? b = some ob) -> Q none { s with heap:=h',toks:=tk }):wpAny (model prog w) A (getAttr? (.ref a) "keys") Q E s:=by
 unfold getAttr? getAttrBy?
 obtain ⟨hp,g,d,tk,os⟩:=s
 have f1:=sub_AttributeError
 repeat (any_goals (first | assumption | (with_reducible refine keys_by_tuple ho hc hq hd hA fun h' tk' e hx=>?_) | wp_step))
 obtain ⟨t',u',he⟩:=hx.there
 repeat (any_goals (first | assumption | wp_step))
 exact h _ _ hx.keeps
end
section
variable {prog:Program} {w:World} {A:Around} {E:Value -> Shared -> Prop}
def PrT (prog:Program) (w:World) (h:Heap) (x:Value) (z:List Key × Addr × Value):Prop:=∃ p:Addr,x = .ref p /\ IsTup h p #[.ref z.2.1,z.2.2] /\ IsTupleKey (mixKind prog w) h z.1 z.2.1
theorem tk_ne {h:Heap} {k:List Key} {a b:Addr} {T:String} (r:IsTupleKey (mixKind prog w) h k a) (hb:∃ o,h.get? b = some o /\ o.cls = .type T) (ht:T ≠ "tuple"):a ≠ b:=by
 rintro rfl
 obtain ⟨o,_,_,e,c,_⟩:=r
 obtain ⟨o',e',c'⟩:=hb
 rw [e] at e'
 cases e'
 rw [c] at c'
 injection c' with c'
 exact ht c'.symm
theorem tk_keep {h h':Heap} {k:List Key} {a:Addr} (r:IsTupleKey (mixKind prog w) h k a) (kp:∀ o,h.get? a = some o -> h'.get? a = some o):IsTupleKey (mixKind prog w) h' k a:=by
 obtain ⟨o,its,n,e,c⟩:=r
 exact ⟨o,its,n,kp o e,c⟩
theorem tup_ne {h:Heap} {a b:Addr} {xs:Array Value} {T:String} (r:IsTup h a xs) (hb:∃ o,h.get? b = some o /\ o.cls = .type T) (ht:T ≠ "tuple"):a ≠ b:=by
 rintro rfl
 obtain ⟨o,e,c,_⟩:=r
 obtain ⟨o',e',c'⟩:=hb
 rw [e] at e'
 cases e'
 rw [c] at c'
 injection c' with c'
 exact ht c'.symm
theorem PrT.keep {h h':Heap} {x:Value} {z:List Key × Addr × Value} (d it:Addr) (hd:∃ o,h.get? d = some o /\ o.cls = .type "dict") (hi:∃ o,h.get? it = some o /\ o.cls = .type "tuple_iterator") (r:PrT prog w h x z) (kp:KpH d it h h'):PrT prog w h' x z:=by
 obtain ⟨p,e,tp,tk⟩:=r
 refine ⟨p,e,?_,tk_keep tk fun o=>kp _ o (tk_ne tk hd (by decide)) (tk_ne tk hi (by decide))⟩
 have n1:=tup_ne tp hd (by decide)
 have n2:=tup_ne tp hi (by decide)
 obtain ⟨o,g,c⟩:=tp
 exact ⟨o,kp p o n1 n2 g,c⟩
theorem dh_iter {h h':Heap} {d it:Addr} {xs:List (List Key × Addr × Value)} (hd:h.DictOfH (tupleKind (mixKind prog w)) d xs) (hi:∃ o,h.get? it = some o /\ o.cls = .type "tuple_iterator") (kp:∀ b o,b ≠ it -> h.get? b = some o -> h'.get? b = some o) (ndi:d ≠ it):h'.DictOfH (tupleKind (mixKind prog w)) d xs:=by
 obtain ⟨o,es,ep,ho,hc,hd,he,his,hn⟩:=hd
 exact ⟨o,es,ep,kp d o ndi ho,hc,hd,he,fun x hx=>tk_keep (his x hx) fun o e=>kp _ o (tk_ne (his x hx) hi (by decide)) e,hn⟩
theorem dh_cls {h:Heap} {d:Addr} {xs:List (List Key × Addr × Value)} (hd:h.DictOfH (tupleKind (mixKind prog w)) d xs):∃ o,h.get? d = some o /\ o.cls = .type "dict":=by
 obtain ⟨o,es,ep,ho,hc,_⟩:=hd
 exact ⟨o,ho,hc.1⟩
theorem upd_units {A:Around} {xs:List Value} {kw:List (Str × Value)}:(A.under (.builtin "dict.update.loop" ⟨xs,kw⟩)).units = A.units + 1:=by
 first | rfl | simp [Around.under,Code.cUnits,Code.frames,Code.isFrame]
theorem upd_loopT {d it l:Addr} {items:Array Value} {res:Value} (hA:A.handled = none) (hu:A.units + 1 < cLine) (ndi:d ≠ it) (nl:l ≠ d) (nli:l ≠ it):∀ (ps:List (List Key × Addr × Value)) (i:Nat) (xs:List (List Key × Addr × Value)) (s:Shared) (t:Tok) {R:Result -> Shared -> Prop},
  s.heap.IsTuple l items -> s.heap.IsTupleIter it l i -> s.heap.DictOfH (tupleKind (mixKind prog w)) d xs -> xs.length + ps.length <= sizeLine -> ((xs ++ ps).map (·.1)).Nodup -> Paired (PrT prog w s.heap) (items.toList.drop i) ps ->
  (∀ h' tk,KpH d it s.heap h' -> h'.DictOfH (tupleKind (mixKind prog w)) d (xs ++ ps) -> R (.ok (.ret res)) { s with heap:=h',toks:=tk }) ->
  codeAny (model prog w) A (.builtin "dict.update.loop" ⟨[.ref d,.ref it,.int i t,res],[]⟩) R s
 | [],i,xs,s,t,R,hl,hi,hd,hz,hn,hp,h=>by
  have e:items[i]? = none:=by
   generalize hq:items.toList.drop i = q at hp
   cases hp
   have:=List.drop_eq_nil_iff.mp hq
   exact Array.getElem?_eq_none (by simpa using this)
  refine codeAny_builtin entry_upd_loop ?_
  show wpAny _ _ (pyNext (.ref it) >>= _) _ _ s
  refine wpAny_bind (wpAny_pyNext_tuple_end hA hi hl e fun h' hx=>?_)
  show wpAny _ _ (Builtin.Dict.addKeywords d [] >>= fun _=>ret res) _ _ _
  unfold Builtin.Dict.addKeywords
  rw [List.forIn_nil]
  rw [List.append_nil] at h
  obtain ⟨oi,gi,ci,_⟩:=id hi
  exact wpAny_bind (wpAny_pure (wpAny_pure (h h' s.toks (fun b o _ n ho=>hx b o n ho) (dh_iter hd ⟨oi,gi,ci⟩ (fun b o n e=>hx b o n e) ndi))))
 | (k,a,v) :: ps,i,xs,s,t,R,hl,hi,hd,hz,hn,hp,h=>by
  generalize hq:items.toList.drop i = q at hp
  cases hp with
  | cons r rs =>
   rename_i x xs'
   have hi':∃ o,s.heap.get? it = some o /\ o.cls = .type "tuple_iterator":=by obtain ⟨oi,gi,ci,_⟩:=id hi; exact ⟨oi,gi,ci⟩
   obtain ⟨p,rfl,tp,ki⟩:=r
   have np:=tup_ne tp (dh_cls hd) (by decide)
   have npi:=tup_ne tp hi' (by decide)
   obtain ⟨o,ho,oc,n,od⟩:=id tp
   have hlt:i < items.toList.length:=by
    by_cases z:i < items.toList.length
    ·exact z
    ·rw [List.drop_of_length_le (by lia)] at hq; cases hq
   rw [List.drop_eq_getElem_cons hlt] at hq
   obtain ⟨e1,e2⟩:=List.cons.inj hq
   have e:items[i]? = some (.ref p):=by rw [<- e1,<- Array.getElem?_toList]; exact List.getElem?_eq_getElem hlt
   refine codeAny_builtin entry_upd_loop ?_
   show wpAny _ _ (pyNext (.ref it) >>= _) _ _ s
   refine wpAny_bind (wpAny_pyNext_tuple_item hi hl e fun h1 hi1 hs1=>?_)
   refine wpAny_bind (wpAny_holding ?_)
   have ho1:h1.get? p = some o:=(hs1.2 p npi).trans ho
   have hT:(⟨h1,s.gens,s.drawn,s.toks,s.os⟩:Shared).TypeIs (.ref p) "tuple":=⟨o,ho1,oc⟩
   refine wpAny_bind (wpAny_tryCatch ?_)
   unfold Builtin.Dict.pairItems
   refine wpAny_bind (wpAny_typeOf hT ?_)
   rw [if_pos (by rfl)]
   refine wpAny_bind (wpAny_seqItems ho1 od (wpAny_pure ?_))
   show wpAny _ _ (holding [.ref a,v] (dictSet d (.ref a) v)) _ _ _
   have kp1:KpH d it s.heap h1:=fun b ob _ n hb=>(hs1.2 b n).trans hb
   have hd1:=dh_iter hd hi' (fun b ob n hb=>(hs1.2 b n).trans hb) ndi
   have ki1:IsTupleKey (mixKind prog w) h1 k a:=tk_keep ki fun ob hb=>(hs1.2 a (tk_ne ki hi' (by decide))).trans hb
   rw [List.length_cons] at hz
   have kn:k ∉ xs.map (·.1):=by
    rw [List.map_append,List.nodup_append] at hn
    exact fun z=>hn.2.2 k z k (by simp) rfl
   have ak:atKey xs k = none:=by
    unfold atKey
    rw [Option.map_eq_none_iff,List.find?_eq_none]
    intro x hx z
    exact kn (List.mem_map.mpr ⟨x,hx,by simpa using z⟩)
   refine wpAny_holding (wpAny_dictSet_heap (s:=⟨h1,s.gens,s.drawn,s.toks,s.os⟩) (knd:=tupleKind (mixKind prog w)) (by show Around.units _ < cLine; rw [upd_units]; exact hu) ki1 hd1 (fun h2 hd2 hs2=>?_) (by lia))
   have kp2:KpH d it h1 h2:=fun b ob n _ hb=>(hs2.2 b n).trans hb
   refine wpAny_pure ⟨Code.quiet_builtin _ (by decide +kernel),?_⟩
   have kp:KpH d it s.heap h2:=fun b ob n1 n2 hb=>kp2 b ob n1 n2 (kp1 b ob n1 n2 hb)
   rw [storedH_new ak] at hd2
   refine upd_loopT (items:=items) hA hu ndi nl nli ps (i + 1) (xs ++ [(k,a,v)]) _ 0 ?_ ?_ hd2 ?_ ?_ ?_ fun h' tk kp' hd'=>?_
   ·obtain ⟨ol,hol,r⟩:=hl
    exact ⟨ol,kp l ol nl nli hol,r⟩
   ·obtain ⟨oi,hoi,r⟩:=hi1
    exact ⟨oi,(hs2.2 it (Ne.symm ndi)).trans hoi,r⟩
   ·rw [List.length_append,List.length_singleton]; lia
   ·rw [List.append_assoc]; exact hn
   ·rw [e2]
    exact Paired.mapP rs fun _ _ r=>r.keep d it (dh_cls hd) hi' kp
   ·rw [List.append_assoc] at hd'
    exact h h' tk (fun b ob n1 n2 hb=>kp' b ob n1 n2 (kp b ob n1 n2 hb)) hd'
theorem call_dict_tup {s:Shared} {l:Addr} {o:Obj} {its:Array Value} {n:Nat} {ps:List (List Key × Addr × Value)} {Q:Value -> Shared -> Prop} (ho:s.heap.get? l = some o) (hc:o.cls = .type "tuple") (hq:o.data = .seq its n) (hd:o.dict = none) (hA:A.handled = none) (hu:A.units + 64 < cLine)
  (hp:Paired (PrT prog w s.heap) its.toList ps) (hz:ps.length <= sizeLine) (hn:(ps.map (·.1)).Nodup)
  (h:∀ h' tk,(∀ b ob,s.heap.get? b = some ob -> h'.get? b = some ob) -> h'.DictOfH (tupleKind (mixKind prog w)) s.heap.objs.size ps -> Q (.ref s.heap.objs.size) { s with heap:=h',toks:=tk }) :
  wpAny (model prog w) A (call (.type "dict") [.ref l]) Q E s:=by
 refine callType_codes (Q₁:=fun obj s₁=>obj = .ref s.heap.objs.size /\ s₁ = { s with heap:=s.heap.push { cls:=.type "dict",data:=.dict #[] } }) F.kt_called_dict (F.kt_typeCall_dict_1 _) F.entry_dict_init (kt_code_dict_new _ ⟨rfl,rfl⟩) ?_
 rintro obj s₁ ⟨rfl,rfl⟩
 have hnew:(s.heap.push { cls:=.type "dict",data:=.dict #[] }).DictOfH (tupleKind (mixKind prog w)) s.heap.objs.size []:=Heap.DictOfH.new s.heap
 have ho':(s.heap.push { cls:=.type "dict",data:=.dict #[] }).get? l = some o:=Heap.get?_push_of_some _ ho
 have hnt:=hnew.typeIs (s:={ s with heap:=s.heap.push { cls:=.type "dict",data:=.dict #[] } })
 refine ⟨hnt,F.args_dict_init_2 _ _,?_⟩
 unfold Builtin.«dict.__init__»
 refine wpAny_bind ?_
 unfold Builtin.Dict.selfAndRest
 refine wpAny_bind (wpAny_notOrdered_dict hnt ?_)
 show wpAny _ _ (pure (s.heap.objs.size,[Value.ref l])) _ _ _
 refine wpAny_pure ?_
 show wpAny _ _ (Builtin.Dict.updateFrom "dict.__init__" s.heap.objs.size (.ref l) [] .none) _ _ _
 unfold Builtin.Dict.updateFrom
 refine wpAny_bind (wpAny_typeOf (T:="tuple") ⟨o,ho',hc⟩ ?_)
 rw [if_pos (by rfl)]
 refine wpAny_bind (keys_attr_tuple ho' hc ⟨its,n,hq⟩ hd hA fun h1 tk1 k1=>?_)
 rw [if_pos (show (none:Option Value).isNone = true from rfl)]
 refine wpAny_bind (wpAny_rule ?_)
 have ho1:=k1 l o ho'
 have hl1:h1.IsTuple l its:=⟨o,ho1,hc,n,hq⟩
 refine wpAny_bind (wpAny_pyIter_tuple hl1 ?_)
 refine wpAny_pure ⟨Code.quiet_builtin _ (by decide +kernel),?_⟩
 obtain ⟨od,es,ep,hod,rd⟩:=hnew
 have hod1:=k1 _ od hod
 have l1:=Heap.lt_size hod1
 have l2:=Heap.lt_size ho
 have l3:=Heap.lt_size ho1
 have kk:∀ b ob,s.heap.get? b = some ob -> (h1.push { cls:=.type "tuple_iterator",data:=.fields #[.ref l,.int 0 0] }).get? b = some ob:=fun b ob hb=>Heap.get?_push_of_some _ (k1 b ob (Heap.get?_push_of_some _ hb))
 refine upd_loopT (A:=A.in1) (items:=its) (xs:=[]) (i:=0) (ps:=ps) (show A.in1.handled = none from hA) (show A.units + 1 + 1 < cLine by lia) (Nat.ne_of_lt l1) (Nat.ne_of_lt l2) (Nat.ne_of_lt l3) _ 0 ?_ ?_ ?_ (by simpa using hz) (by simpa using hn) ?_ fun h' tk kp hd'=>?_
 ·exact ⟨o,Heap.get?_push_of_some _ ho1,hc,n,hq⟩
 ·exact ⟨_,Heap.get?_push_size _ rfl,rfl,rfl⟩
 ·exact ⟨od,es,ep,Heap.get?_push_of_some _ hod1,rd.1,rd.2.1,rd.2.2.1,by simp,by simp⟩
 ·rw [List.drop_zero]
  refine Paired.mapP hp fun x z ⟨p,e,tp,tk⟩=>⟨p,e,?_,tk_keep tk fun ob=>kk _ ob⟩
  obtain ⟨ob,hob,r⟩:=tp
  exact ⟨ob,kk p ob hob,r⟩
 ·exact ⟨rfl,h h' tk (fun b ob hb=>kp b ob (Nat.ne_of_lt (Heap.lt_size hb)) (Nat.ne_of_lt (Nat.lt_trans (Heap.lt_size hb) l1)) (kk b ob hb)) hd'⟩
end
section
variable {X:Cx}
def TDk (K:PySem.W.Frag) (H:Hp) (a:Addr) (xs:List V):Prop:=H a = some (.tup xs) \/ StT K a xs
theorem Inv.tupleD {pins:List (Addr × Obj)} {σ:St} {H:Hp} {s:Shared} {a:Addr} {xs:List V} (I:Inv X pins σ H s) (h:TDk X.K H a xs):∃ (o:Obj) (its:List Value) (n:Nat),Vals xs its /\ s.heap.get? a = some o /\ o.cls = .type "tuple" /\ o.data = .seq its.toArray n /\ o.dict = none /\ xs.length <= sizeLine:=by
 rcases h with h | ⟨o,its,n,hk,hc,hs,hz,r,hd⟩
 ·obtain ⟨z,its,r,o,e,c,⟨n,d⟩,dn⟩:=I.hok a _ h
  exact ⟨o,its,n,r,e,c,d,dn,z⟩
 ·refine ⟨o,its.toList,n,r,I.kIn a o hk,hc,by simpa using hs,hd,?_⟩
  have e:=r.length
  simp only [Array.length_toList] at e
  lia
theorem key_sq {pins:List (Addr × Obj)} {σ:St} {H:Hp} {s:Shared} {b:Addr} {k:List Key} (I:Inv X pins σ H s) (h:SqT X.K H b (k.map kV)):IsTupleKey (mixKind X.prog X.w) s.heap k b:=by
 obtain ⟨its,r,⟨o,e,c,n,d⟩,_⟩:=I.tuple h
 exact ⟨o,its.toArray,n,e,c,d,by simpa using items_are r⟩
def KTp (K:PySem.W.Frag) (H:Hp) (x:V) (z:List Key × V):Prop:=∃ a b,x = .ref a /\ SqT K H a [.ref b,z.2] /\ SqT K H b (z.1.map kV)
theorem pairs_T {pins:List (Addr × Obj)} {σ:St} {H:Hp} {s:Shared} (I:Inv X pins σ H s):∀ {vs:List V} {its:List Value} {zs:List (List Key × V)},Vals vs its -> Paired (KTp X.K H) vs zs ->
  ∃ ps:List (List Key × Addr × Value),Paired (fun (z:List Key × V) (q:List Key × Addr × Value)=>z.1 = q.1 /\ RelV z.2 q.2.2) zs ps /\ Paired (PrT X.prog X.w s.heap) its ps
 | [],_,_,r,h=>by cases r; cases h; exact ⟨[],.nil,.nil⟩
 | v :: vs,_,_,r,h=>by
  cases r with
  | cons r1 r2 =>
   cases h with
   | @cons _ z _ zs h1 h2 =>
    obtain ⟨a,b,rfl,sq,sk⟩:=h1
    obtain ⟨ps,k1,k2⟩:=pairs_T I r2 h2
    obtain ⟨its2,rv,it,_⟩:=I.tuple sq
    cases rv with
    | cons q1 q2 =>
     cases q2 with
     | cons q3 q4 =>
      cases q4
      rename_i u w
      cases (show _ = Value.ref a from r1)
      cases (show _ = Value.ref b from q1)
      exact ⟨(z.1,b,w) :: ps,.cons ⟨rfl,q3⟩ k1,.cons ⟨a,rfl,it,key_sq I sk⟩ k2⟩
theorem paired_keys {zs:List (List Key × V)} {ps:List (List Key × Addr × Value)} (r:Paired (fun (z:List Key × V) (q:List Key × Addr × Value)=>z.1 = q.1 /\ RelV z.2 q.2.2) zs ps):zs.map (·.1) = ps.map (·.1):=by
 induction r with
 | nil=>rfl
 | cons h t ih=>rw [List.map_cons,List.map_cons,ih,h.1]
theorem paired_mem {α β:Type} {F:α -> β -> Prop} {l₁:List α} {l₂:List β} (r:Paired F l₁ l₂) {a:α} (h:a ∈ l₁):∃ b ∈ l₂,F a b:=by
 induction r with
 | nil=>cases h
 | cons f t ih =>
  rcases List.mem_cons.mp h with rfl | h
  ·exact ⟨_,List.mem_cons_self,f⟩
  ·obtain ⟨b,hb,g⟩:=ih h
   exact ⟨b,List.mem_cons_of_mem _ hb,g⟩
theorem paired_memR {α β:Type} {F:α -> β -> Prop} {l₁:List α} {l₂:List β} (r:Paired F l₁ l₂) {b:β} (h:b ∈ l₂):∃ a ∈ l₁,F a b:=by
 induction r with
 | nil=>cases h
 | cons f t ih =>
  rcases List.mem_cons.mp h with rfl | h
  ·exact ⟨_,List.mem_cons_self,f⟩
  ·obtain ⟨b,hb,g⟩:=ih h
   exact ⟨b,List.mem_cons_of_mem _ hb,g⟩
def tDictIx (K:PySem.W.Frag) (i:Nat) (ta:TA):TE:=fun σ H Q=>ta σ H fun vs H1=>∃ (c:Addr) (xs:List V) (zs:List (List Key × V)) (b:Addr) (k:List Key) (v:V),vs = [.ref c] /\ TDk K H1 c xs /\ Paired (KTp K H1) xs zs /\ (zs.map (·.1)).Nodup /\ σ[i]? = some (some (.ref b)) /\ SqT K H1 b (k.map kV) /\ (k,v) ∈ zs /\ Q v H1
theorem pe_dictIx {i:Nat} {x:Str} {e:Expr} {ta:TA} {p p2 cp pos:Pos} (hc:X.calm = true) (hu:X.A.units + 64 < cLine) (hN:X.N[i]? = some x) (hv:Vis X.env.scope x) (hg:Gl X "dict") (hm:X.mg "dict" = none) (ha:PA X [e] ta) (hst:starEach [e] X.env = [(false,eval e X.env)]) (hs:PlainIx (.Name x p2))
  (hd:(x == ("__debug__":Str)) = false:=by decide) (hcd:(x == ("__classdict__":Str)) = false:=by decide) :
  PE X (.Subscript (.Call (.Name "dict" p) [e] [] cp) (.Name x p2) pos) (tDictIx X.K i ta):=by
 intro pins s σ H Q I h
 refine Subscript_ (wpAny_Call_Name_kw (ld_blt I hg hm rfl ?_))
 refine PyProof.Rows.callWith_type1 (thn (ha cp pins s σ H _ I h) fun us s1 ⟨vs,H1,I1,r1,q1⟩=>?_) (by rw [hst]; rfl) (by rfl)
 obtain ⟨c,xs,zs,b,k,v,rfl,td,pr,nd,eb,sk,mem,q⟩:=q1
 obtain ⟨u,rfl,ru⟩:=r1.one
 cases (show u = Value.ref c from ru)
 obtain ⟨o,its,n,rel,e1,c1,d1,dn,lz⟩:=I1.tupleD td
 obtain ⟨ps,k1,k2⟩:=pairs_T I1 rel pr
 have ek:=paired_keys k1
 refine call_dict_tup (A:=X.A) (ps:=ps) e1 c1 d1 dn (I1.ok.hd hc) hu (by simpa using k2) ?_ (by rw [<- ek]; exact nd) fun h' tk kp dd=>?_
 ·have e2:=Paired.length pr
  have e3:=Paired.length k1
  lia
 have I2:Inv X pins σ H1 { s1 with heap:=h',toks:=tk }:=I1.kept kp
 obtain ⟨m,hn,hl⟩:=I2.loc
 obtain ⟨u,r,l⟩:=hl i x (.ref b) hN eb hv
 cases (show u = Value.ref b from r)
 obtain ⟨⟨k',bb,w⟩,hw,ek',rw'⟩:=paired_mem k1 mem
 obtain ⟨j,hj⟩:=List.mem_iff_getElem?.mp hw
 have ndp:(ps.map (·.1)).Nodup:=by rw [<- ek]; exact nd
 have ak:=atKey_of_get ndp hj
 have ek'':k = k':=ek'
 subst ek''
 have fin:wpAny (model X.prog X.w) X.A (subscriptTail (.Call (.Name "dict" p) [e] [] cp) (.Name x p2) (.ref s1.heap.objs.size) (.ref b)) (EP X pins σ Q) X.xe { s1 with heap:=h',toks:=tk } :=
  tail_any dd.typeIs PySem.F.slot_dict_getitem.lookup (wpAny_getItem_heap (tupleKind_room_in1 (by lia)) (key_sq I2 sk) dd ak ⟨v,H1,I2.tok _,rw',q⟩) (hs _ _)
 rcases l with ⟨hk,hm⟩ | ⟨hk,c,hc,hcell⟩
 ·exact wpAny_Name (wpAny_loadName_local I2.ok.kind hk hn hm fin) hd
 ·rcases hk with hk | hk
  ·exact wpAny_Name (wpAny_loadName_cell I2.ok.kind hk hc hcell fin) hd
  ·exact wpAny_Name (wpAny_loadName_free I2.ok.kind hk hc hcell fin hcd) hd
def ksD:List PyData -> Option (List Key)
 | []=>some []
 | t :: ts=>match keyD t,ksD ts with | some k,some ks=>some (k :: ks) | _,_=>none
def tkD:PyData -> Option (List Key)
 | .tuple ts=>ksD ts
 | _=>none
def prsT:List PyData -> Option (List (List Key × PyData))
 | []=>some []
 | .tuple [k,v] :: ts=>match tkD k,prsT ts with | some q,some ks=>some ((q,v) :: ks) | _,_=>none
 | _=>none
theorem ksD_reps {K:PySem.W.Frag} {hd:Option Addr} {O:Addr -> Prop} {H:Hp}:∀ {vs:List V} {ts:List PyData} {k:List Key},Reps K hd O H vs ts -> ksD ts = some k -> vs = k.map kV
 | _,[],_,r,h=>by cases r; cases h; rfl
 | _,t :: ts,k,r,h=>by
  cases r with
  | cons r1 r2 =>
   unfold ksD at h
   cases hq:keyD t with
   | none=>rw [hq] at h; cases h
   | some q =>
    rw [hq] at h
    cases hk:ksD ts with
    | none=>rw [hk] at h; cases h
    | some ks =>
     rw [hk] at h; cases h
     rw [List.map_cons,r1.keyV hq,ksD_reps r2 hk]
theorem tk_rep {K:PySem.W.Frag} {hd:Option Addr} {O:Addr -> Prop} {H:Hp} {v:V} {t:PyData} {k:List Key} (r:Rep K hd O H v t) (h:tkD t = some k):∃ b,v = .ref b /\ SqT K H b (k.map kV):=by
 cases t with
 | tuple ts =>
  obtain ⟨a,vs,rfl,h1,h2⟩:=r.tupI
  rw [ksD_reps h2 h] at h1
  exact ⟨a,rfl,h1⟩
 | _=>cases h
theorem prsT_cons {t:PyData} {ts:List PyData} {ks:List (List Key × PyData)} (h:prsT (t :: ts) = some ks):∃ k v q ks',t = .tuple [k,v] /\ tkD k = some q /\ prsT ts = some ks' /\ ks = (q,v) :: ks':=by
 have key:∀ k v,prsT (.tuple [k,v] :: ts) = some ks -> ∃ q ks',tkD k = some q /\ prsT ts = some ks' /\ ks = (q,v) :: ks':=fun k v h=>by
  simp only [prsT] at h
  cases hq:tkD k with
  | none=>rw [hq] at h; cases h
  | some q =>
   rw [hq] at h
   cases hk:prsT ts with
   | none=>rw [hk] at h; cases h
   | some ks'=>rw [hk] at h; cases h; exact ⟨q,ks',rfl,rfl,rfl⟩
 cases t with
 | tuple us =>
  rcases us with _ | ⟨k,_ | ⟨v,_ | ⟨x,r⟩⟩⟩
  ·simp [prsT] at h
  ·simp [prsT] at h
  ·obtain ⟨q,ks',a,b,c⟩:=key k v h
   exact ⟨k,v,q,ks',rfl,a,b,c⟩
  ·simp [prsT] at h
 | _=>simp [prsT] at h
theorem prsT_reps {K:PySem.W.Frag} {hd:Option Addr} {O:Addr -> Prop} {H:Hp}:∀ {vs:List V} {ts:List PyData} {ks:List (List Key × PyData)},Reps K hd O H vs ts -> prsT ts = some ks -> ∃ zs:List (List Key × V),Paired (KTp K H) vs zs /\ Paired (fun (z:List Key × V) (q:List Key × PyData)=>z.1 = q.1 /\ Rep K hd O H z.2 q.2) zs ks
 | _,[],_,r,h=>by cases r; cases h; exact ⟨[],.nil,.nil⟩
 | _,t :: ts,ks,r,h=>by
  cases r with
  | cons r1 r2 =>
   obtain ⟨k,v,q,ks',rfl,hq,hk,rfl⟩:=prsT_cons h
   obtain ⟨zs,z1,z2⟩:=prsT_reps r2 hk
   obtain ⟨a,ws,rfl,h1,h2⟩:=r1.tupI
   cases h2 with
   | cons q1 q2 =>
    cases q2 with
    | cons q3 q4 =>
     cases q4
     obtain ⟨b,rfl,sb⟩:=tk_rep q1 hq
     exact ⟨(q,_) :: zs,.cons ⟨a,b,rfl,h1,sb⟩ z1,.cons ⟨rfl,q3⟩ z2⟩
theorem paired_keysD {zs:List (List Key × V)} {ks:List (List Key × PyData)} {F:V -> PyData -> Prop} (r:Paired (fun (z:List Key × V) (q:List Key × PyData)=>z.1 = q.1 /\ F z.2 q.2) zs ks):zs.map (·.1) = ks.map (·.1):=by
 induction r with
 | nil=>rfl
 | cons h t ih=>rw [List.map_cons,List.map_cons,ih,h.1]
def dDictIx (i:Nat) (d:DTE):DTE:=fun ρ n R=>d ρ n fun t n1=>match ρ[i]? with
 | some (some (Cell.val kt))=>lTup t fun ts=>∃ zs k v,prsT ts = some zs /\ tkD kt = some k /\ (zs.map (·.1)).Nodup /\ (k,v) ∈ zs /\ R v n1
 | _=>False
theorem de_dictIx (i:Nat) {x:Str} {e:Expr} {d:DTE} {p p2 cp pos:Pos} (hc:X.calm = true) (hu:X.A.units + 64 < cLine) (hm:X.mg "dict" = none) (h:DE X e d) (hN:X.N[i]? = some x:=by rfl) (hv:Vis X.env.scope x:=by first | exact Or.inl rfl | exact Or.inr (Or.inl rfl) | exact Or.inr (Or.inr rfl)) (hg:Gl X "dict":=by rfl) (hst:starEach [e] X.env = [(false,eval e X.env)]:=by rfl) (hs:PlainIx (.Name x p2):=by intro _ _; rfl)
  (hd:(x == ("__debug__":Str)) = false:=by decide) (hcd:(x == ("__classdict__":Str)) = false:=by decide):DE X (.Subscript (.Call (.Name "dict" p) [e] [] cp) (.Name x p2) pos) (dDictIx i d):=by
 obtain ⟨ta,pa,h⟩:=h
 refine ⟨_,pe_dictIx hc hu hN hv hg hm (pa_cons pa pa_nil hst) hst hs hd hcd,fun C ρ σ H n Q R S hd hq=>?_⟩
 refine h C ρ σ H n _ _ S hd fun t n1 v H1 r1 e1 hn1 q1=>?_
 split at r1
 ·rename_i kt ek
  obtain ⟨vb,evb,rvb⟩:=S.val i kt ek
  have rvb:=e1.rep S.hx rvb
  cases t with
  | tuple ts =>
   obtain ⟨zs,k,val,hz,hk,nd,mem,r⟩:=r1
   obtain ⟨b,rfl,sb⟩:=tk_rep rvb hk
   obtain ⟨c,xs,rfl,td,rs⟩:∃ c xs,v = .ref c /\ TDk X.K H1 c xs /\ Reps X.K C.hd (Own C ρ σ) H1 xs ts:=by
    cases q1 with
    | tup h o r=>exact ⟨_,_,rfl,.inl h,r⟩
    | tupS h r=>exact ⟨_,_,rfl,.inr h,r⟩
   obtain ⟨zv,z1,z2⟩:=prsT_reps rs hz
   obtain ⟨⟨k',vv⟩,mv,ekk,rv⟩:=paired_memR z2 mem
   have ekk:k' = k:=ekk
   subst ekk
   exact ⟨c,xs,zv,b,k',vv,rfl,td,z1,by rw [paired_keysD z2]; exact nd,evb,sb,mv,hq _ n1 _ H1 r e1 hn1 rv⟩
  | _=>exact r1.elim
 ·exact r1.elim
end
section
variable {ρ:En} {n i:Nat} {d:DTE} {R:PyData -> Nat -> Prop} {kt:PyData}
instance s_dictIx [h:GetN ρ i (some (.val kt))]:Stp (dDictIx i d ρ n R) (d ρ n fun t n1=>lTup t fun ts=>∃ zs k v,prsT ts = some zs /\ tkD kt = some k /\ (zs.map (·.1)).Nodup /\ (k,v) ∈ zs /\ R v n1):=⟨fun k=>by
 unfold dDictIx
 have e:=h.e
 simp only [e]
 exact k⟩
end
end L2
namespace Bd
open PySem L2
def top (i:Nat):Stmt:=PySem.Challenge.pw_blockdeal_k24_holders.main.body.getD i (.Pass ⟨0,0,0,0⟩)
set_option maxHeartbeats 4000000
local macro_rules | `(tactic| walk_at "S")=>`(tactic| first | with_reducible refine start_norm ?_ | with_reducible refine Stp.go ?_ | with_reducible refine j_all (by with_unfolding_all rfl) ?_ | with_reducible refine j_any (by with_unfolding_all rfl) ?_ | with_reducible refine i_dVar (by with_unfolding_all rfl) ?_ | with_reducible refine i_dOwn (by with_unfolding_all rfl) ?_ | with_reducible refine i_append (by with_unfolding_all rfl) ?_ | with_reducible refine i_freeze (by with_unfolding_all rfl) ?_)
set_option hygiene false in
local macro_rules | `(tactic| walk_at "K")=>`(tactic| first | walk_at "S" | with_reducible refine i_iteD (fun hc=>?_) (fun hc=>?_) | with_reducible refine i_ite (fun hc=>?_) (fun hc=>?_) | with_reducible refine And.intro ?_ ?_)
structure Txt (mg:Str -> Option Value):Prop where
 isi:mg "isinstance" = none
 int:mg "int" = none
 boo:mg "bool" = none
 tup:mg "tuple" = none
 len:mg "len" = none
 min:mg "min" = none
 max:mg "max" = none
 str:mg "str" = none
 rep:mg "repr" = none
 all:mg "all" = none
 any:mg "any" = none
 ran:mg "range" = none
 sum:mg "sum" = none
 srt:mg "sorted" = none
 lst:mg "list" = none
 abs:mg "abs" = none
 zip:mg "zip" = none
 dct:mg "dict" = none
 rev:mg "reversed" = none
 enu:mg "enumerate" = none
section
variable {P:Program} {w:World} {K:PySem.W.Frag} {mg:Str -> Option Value} {base:Heap}
theorem sc_size_of:FnScope ["block"] ["block"] (defScope (top 1)):=⟨rfl,rfl,rfl,by decide +kernel,rfl,by decide +kernel,by decide +kernel⟩
def g_size_of:GD:=fun ts n R=>∃ i h:Int,ts = [.tuple [.int i,.int h]] /\ 0 <= h /\ h <= 1000 /\ R (.int (2 ^ h.toNat)) n
theorem c_size_of {i h:Int} {n:Nat} {R:PyData -> Nat -> Prop} (g0:0 <= h) (g1:h <= 1000) (h':R (.int (2 ^ h.toNat)) n):g_size_of [.tuple [.int i,.int h]] n R:=⟨_,_,rfl,g0,g1,h'⟩
theorem ok_size_of {f:Addr} {fd:FuncData} (D:Def K mg "size_of" (top 1) ["block"] f fd) (T:Txt mg):FnOk P w K mg base CX0 1 f fd ["block"] (spD K 1 g_size_of):=by
 refine D.okD sc_size_of rfl fun cdv A outer s H E hr=>?_
 refine' ⟨_,(dss_one (ds_ret (de_shl (dl de_int) (dl (de_ix (dl (de_var 0)) (dl de_int)))))),?_⟩
 intro ts n R hl hh
 obtain ⟨i,h,rfl,g0,g1,hh⟩:=hh
 repeat' walk_at "K"
 ·exact cpow (by lia) (by lia)
 ·rw [one_mulP]; exact hh
theorem sc_end_of:FnScope ["block"] ["block"] (defScope (top 8)):=⟨rfl,rfl,rfl,by decide +kernel,rfl,by decide +kernel,by decide +kernel⟩
def g_end_of:GD:=fun ts n R=>∃ i h:Int,ts = [.tuple [.int i,.int h]] /\ 0 <= h /\ h <= 1000 /\ R (.int (i + 2 ^ h.toNat)) n
theorem c_end_of {i h:Int} {n:Nat} {R:PyData -> Nat -> Prop} (g0:0 <= h) (g1:h <= 1000) (h':R (.int (i + 2 ^ h.toNat)) n):g_end_of [.tuple [.int i,.int h]] n R:=⟨_,_,rfl,g0,g1,h'⟩
theorem ok_end_of {f:Addr} {fd:FuncData} {f_size_of:Addr} {fd_size_of:FuncData} (D:Def K mg "end_of" (top 8) ["block"] f fd)
  (D_size_of:Def K mg "size_of" (top 1) ["block"] f_size_of fd_size_of) (G_size_of:FnOk P w K mg base CX0 1 f_size_of fd_size_of ["block"] (spD K 1 g_size_of)) (T:Txt mg):FnOk P w K mg base CX0 2 f fd ["block"] (spD K 1 g_end_of):=by
 refine D.okD sc_end_of rfl fun cdv A outer s H E hr=>?_
 refine' ⟨_,(dss_one (ds_ret (de_add (dl (de_ix (dl (de_var 0)) (dl de_int))) (dl (de_fn D_size_of G_size_of (hr.mono (by decide:1 <= 1)) (db_cons (de_var 0) db_nil st_name)))))),?_⟩
 intro ts n R hl hh
 obtain ⟨i,h,rfl,g0,g1,hh⟩:=hh
 repeat' (first | with_reducible refine c_size_of ?_ ?_ ?_ | walk_at "K")
 ·lia
 ·lia
 ·exact hh
theorem sc_greatest_height:FnScope ["begin","high","room"] ["begin","high"] (defScope (top 9)):=⟨rfl,rfl,rfl,by decide +kernel,rfl,by decide +kernel,by decide +kernel⟩
theorem great_zero {hi:Int} (h:0 < hi):Great 0 hi hi.toNat.log2:=⟨by simp,by have:=log2_le h; lia,fun z=>by have:=lt_log2 h; have:=z.2; lia⟩
theorem great_min {lo hi:Int} {t:Nat} (h:lo < hi) (h1:lo % 2 ^ t = 0) (h2:¬ lo % 2 ^ (t + 1) = 0):Great lo hi (min (hi - lo).toNat.log2 t):=by
 have a:=log2_le (i:=hi - lo) (by lia)
 have b:=lt_log2 (i:=hi - lo) (by lia)
 rcases Nat.le_total (hi - lo).toNat.log2 t with z | z
 ·rw [Nat.min_eq_left z]
  exact ⟨mod_pow_le z h1,a,fun y=>by have:=y.2; lia⟩
 ·rw [Nat.min_eq_right z]
  exact ⟨h1,Int.le_trans (pow_mono2 z) a,fun y=>h2 y.1⟩
theorem log2_pow (t:Nat):((2:Int) ^ t).toNat.log2 = t:=by
 have e:((2:Int) ^ t).toNat = 2 ^ t:=by
  have:((2 ^ t:Nat):Int) = (2:Int) ^ t:=by rw [Int.natCast_pow]; rfl
  rw [<- this]; rfl
 rw [e,Nat.log2_two_pow]
def g_greatest_height:GD:=fun ts n R=>∃ lo hi:Int,ts = [.int lo,.int hi] /\ 0 <= lo /\ lo < hi /\ ∀ g:Nat,Great lo hi g -> R (.int g) n
theorem c_greatest_height {lo hi:Int} {n:Nat} {R:PyData -> Nat -> Prop} (l0:0 <= lo) (l1:lo < hi) (h:∀ g:Nat,Great lo hi g -> R (.int g) n):g_greatest_height [.int lo,.int hi] n R:=⟨lo,hi,rfl,l0,l1,h⟩
theorem ok_greatest_height {f:Addr} {fd:FuncData} (D:Def K mg "greatest_height" (top 9) ["begin","high"] f fd) (T:Txt mg):FnOk P w K mg base CX0 1 f fd ["begin","high"] (spD K 2 g_greatest_height):=by
 refine D.okD sc_greatest_height rfl fun cdv A outer s H E hr=>?_
 refine' ⟨_,(dss_cons (ds_set (i:=2) sc_greatest_height.nd rfl (Or.inl rfl) (de_sub (dl (de_bitlen (dl (de_sub (dl (de_var 1)) (dl (de_var 0)))))) (dl de_int))) (dss_cons (ds_if (dt_cmp (op_eqA hr) gp_eq (dl (de_var 0)) (dl de_int) (nomark _)) (dss_one (ds_ret (de_var 2))) dss_nil) (dss_one (ds_ret (de_cB (call_min2 rfl) gp_min T.min boot_minB (dbl_cons (dl (de_var 2)) (dbl_cons (dl (de_sub (dl (de_bitlen (dl (de_and (dl (de_var 0)) (dl (de_neg (de_var 0))))))) (dl de_int))) dbl_nil st_bin) st_name)))))),?_⟩
 intro ts n R hl h
 obtain ⟨lo,hi,rfl,l0,l1,h⟩:=h
 have room:=intBits_pos (i:=hi - lo) (by lia)
 repeat' walk_at "K"
 ·rw [room]
  subst hc
  have:=h _ (great_zero l1)
  rw [Int.sub_zero]
  exact this
 ·obtain ⟨t,t1,t2⟩:=tz_ex (b:=lo) (by lia)
  have an:=and_neg (b:=lo) (by lia) t1 t2
  have lb:=intBits_pos (i:=(2:Int) ^ t) (two_pos t)
  rw [log2_pow] at lb
  rw [an,room,lb]
  have:=h _ (great_min l1 t1 t2)
  have e:(if (t:Int) < ((hi - lo).toNat.log2:Int) then (t:Int) else ((hi - lo).toNat.log2:Int)) = ((min (hi - lo).toNat.log2 t:Nat):Int):=by
   split <;> lia
  rw [e]; exact this
theorem sc_span:FnScope ["low","high","blocks","begin","block"] ["low","high"] (defScope (top 4)):=⟨rfl,rfl,rfl,by decide +kernel,rfl,by decide +kernel,by decide +kernel⟩
def g_span:GD:=fun ts n R=>∃ lo hi:Int,ts = [.int lo,.int hi] /\ 0 <= lo /\ lo <= hi /\ hi <= 2 ^ 64 /\ ∀ bs,SpanS lo hi bs -> R (.tuple (pD bs)) n
theorem c_span {lo hi:Int} {n:Nat} {R:PyData -> Nat -> Prop} (l0:0 <= lo) (l1:lo <= hi) (l2:hi <= 2 ^ 64) (h:∀ bs,SpanS lo hi bs -> R (.tuple (pD bs)) n):g_span [.int lo,.int hi] n R:=⟨lo,hi,rfl,l0,l1,l2,h⟩
theorem ok_span {f:Addr} {fd:FuncData} {f_end_of:Addr} {fd_end_of:FuncData} {f_greatest_height:Addr} {fd_greatest_height:FuncData} (D:Def K mg "span" (top 4) ["low","high"] f fd)
  (D_end_of:Def K mg "end_of" (top 8) ["block"] f_end_of fd_end_of) (G_end_of:FnOk P w K mg base CX0 2 f_end_of fd_end_of ["block"] (spD K 1 g_end_of))
  (D_greatest_height:Def K mg "greatest_height" (top 9) ["begin","high"] f_greatest_height fd_greatest_height) (G_greatest_height:FnOk P w K mg base CX0 1 f_greatest_height fd_greatest_height ["begin","high"] (spD K 2 g_greatest_height)) (T:Txt mg):FnOk P w K mg base CX0 3 f fd ["low","high"] (spD K 2 g_span):=by
 refine D.okD sc_span rfl fun cdv A outer s H E hr=>?_
 refine' ⟨_,(dss_cons (ds_own (i:=2) sc_span.nd rfl (Or.inl rfl) (dn_lst db_nil)) (dss_cons (ds_set (i:=3) sc_span.nd rfl (Or.inl rfl) (de_var 0)) (dss_cons (ds_while PassesOwn.never (dt_cmp (op_ltA hr) gp_ltA (dl (de_var 3)) (dl (de_var 1)) (nomark _)) (dss_cons (ds_set (i:=4) sc_span.nd rfl (Or.inl rfl) (de_tup (db_cons (de_var 3) (db_cons (de_fn D_greatest_height G_greatest_height (hr.mono (by decide:1 <= 2)) (db_cons (de_var 3) (db_cons (de_var 1) db_nil st_name) st_name)) db_nil st_call) st_name))) (dss_cons (ds_append 2 (de_var 4)) (dss_one (ds_set (i:=3) sc_span.nd rfl (Or.inl rfl) (de_fn D_end_of G_end_of (hr.mono (by decide:2 <= 2)) (db_cons (de_var 4) db_nil st_name))))))) (dss_freeze 2 (dss_one (ds_ret (de_cT call_tuple_of gp_tuple T.tup boot_tupleT (dbl_cons (dl (de_var 2)) dbl_nil st_name)))))))),?_⟩
 intro ts n R hl h
 obtain ⟨lo,hi,rfl,l0,l1,l2,h⟩:=h
 obtain ⟨all,A⟩:=span_ex _ lo hi (Nat.le_refl _) l1
 have al:=A.len l0 l2
 repeat' walk_at "K"
 refine while_a (fun m ρ n'=>n' = n /\ ∃ (bs rest:List (Int × Int)) (be:Int) (c4:Option Cell),ρ = [some (.val (.int lo)),some (.val (.int hi)),some (.own (pD bs)),some (.val (.int be)),c4] /\ all = bs ++ rest /\ SpanS be hi rest /\ lo <= be /\ m = rest.length) (m:=all.length) ⟨rfl,[],all,lo,_,rfl,rfl,A,Int.le_refl _,rfl⟩ ?_
 rintro m ρ n' NX RT BK ⟨rfl,bs,rest,be,c4,rfl,eall,S,lb,rfl⟩ hN hR hB
 repeat' walk_at "K"
 ·cases rest with
  | nil=>have:be = hi:=S; lia
  | cons b r =>
   obtain ⟨s1,s2,s3,s4,s5⟩:=S
   refine c_greatest_height (by lia) hc fun g G=>?_
   have eg:b.2.toNat = g:=s4.uniq G
   have eb:b = (be,(g:Int)):=Prod.ext s2 (by show b.2 = (g:Int); lia)
   have gl:g <= 64:=by
    rcases Nat.lt_or_ge 64 g with z | z
    ·have:=pow_mono2 (show 65 <= g by lia)
     have:=G.2.1
     have e:(2:Int) ^ 65 = 2 * 2 ^ 64:=by decide
     lia
    ·exact z
   repeat' (first | with_reducible refine c_end_of (by lia) (by lia) ?_ | walk_at "K")
   ·rw [pD_len]
    have:=congrArg List.length eall
    rw [List.length_append] at this
    lia
   ·refine hN r.length _ _ (by simp) ⟨rfl,bs ++ [b],r,be + 2 ^ (g:Int).toNat,some (.val (.tuple [.int be,.int (g:Int)])),by rw [eb,<- pD_one],by rw [eall]; simp,?_,?_,rfl⟩
    ·rw [eg] at s5; simpa using s5
    ·have:=two_pos (g:Int).toNat; lia
 ·have e:be = hi:=by have:=S.le; lia
  cases rest with
  | cons b r=>have:=S.1; lia
  | nil =>
   refine hB _ _ ?_
   repeat' walk_at "K"
   rw [List.append_nil] at eall
   rw [<- eall]
   exact h _ A
theorem sc_patch_of:FnScope ["runs"] ["runs"] (defScope (top 10)):=⟨rfl,rfl,rfl,by decide +kernel,rfl,by decide +kernel,by decide +kernel⟩
def g_patch_of:GD:=fun ts n R=>∃ rs:List (Int × Int),ts = [.list (pD rs)] /\ (∀ r ∈ rs,0 <= r.1 /\ r.1 <= r.2 /\ r.2 <= 2 ^ 64) /\ rs.length <= 100000 /\ ∀ ps,PatS rs ps -> R (.tuple (pD ps)) n
theorem c_patch_of {rs:List (Int × Int)} {n:Nat} {R:PyData -> Nat -> Prop} (w:∀ r ∈ rs,0 <= r.1 /\ r.1 <= r.2 /\ r.2 <= 2 ^ 64) (l:rs.length <= 100000) (h:∀ ps,PatS rs ps -> R (.tuple (pD ps)) n):g_patch_of [.list (pD rs)] n R:=⟨rs,rfl,w,l,h⟩
theorem pats_ex:∀ {rs:List (Int × Int)},(∀ r ∈ rs,r.1 <= r.2) -> ∃ ps,PatS rs ps
 | [],_=>⟨[],rfl⟩
 | r :: rs,h=>by
  obtain ⟨a,A⟩:=span_ex _ r.1 r.2 (Nat.le_refl _) (h r (by simp))
  obtain ⟨b,B⟩:=pats_ex (rs:=rs) fun s hs=>h s (by simp [hs])
  exact ⟨a ++ b,a,b,rfl,A,B⟩
theorem comp_put {g:DTG} {d:DTE} {ρ1:En} {n:Nat} {Rl:List PyData -> Nat -> Prop}:∀ (xs acc:List PyData),(∀ x ∈ xs,∀ K:PyData -> Nat -> Prop,K x n -> g x ρ1 fun ρ2=>d ρ2 n K) -> acc.length + xs.length <= 16777216 -> Rl (acc ++ xs) n -> compGo g dYes d ρ1 xs acc n Rl
 | [],acc,_,_,h=>by simpa [compGo] using h
 | x :: xs,acc,hg,hl,h=>by
  have e:(fun ρ2=>dYes ρ2 n fun b n2=>if b = true then d ρ2 n2 fun t n3=>acc.length < 16777216 /\ compGo g dYes d ρ1 xs (acc ++ [t]) n3 Rl else compGo g dYes d ρ1 xs acc n2 Rl) = fun ρ2=>d ρ2 n fun t n3=>acc.length < 16777216 /\ compGo g dYes d ρ1 xs (acc ++ [t]) n3 Rl:=by
   funext ρ2
   exact propext ⟨fun z=>by simpa [dYes] using z,fun z=>by simpa [dYes] using z⟩
  show g x ρ1 fun ρ2=>dYes ρ2 n fun b n2=>if b = true then d ρ2 n2 fun t n3=>acc.length < 16777216 /\ compGo g dYes d ρ1 xs (acc ++ [t]) n3 Rl else compGo g dYes d ρ1 xs acc n2 Rl
  rw [e]
  refine hg x (by simp) _ ⟨by simp at hl; lia,comp_put xs (acc ++ [x]) (fun y hy=>hg y (by simp [hy])) (by simp at hl ⊢; lia) (by simpa using h)⟩
theorem ok_patch_of {f:Addr} {fd:FuncData} {f_span:Addr} {fd_span:FuncData} (D:Def K mg "patch_of" (top 10) ["runs"] f fd)
  (D_span:Def K mg "span" (top 4) ["low","high"] f_span fd_span) (G_span:FnOk P w K mg base CX0 3 f_span fd_span ["low","high"] (spD K 2 g_span)) (T:Txt mg):FnOk P w K mg base CX0 4 f fd ["runs"] (spD K 1 g_patch_of):=by
 refine D.okD sc_patch_of rfl fun cdv A outer s H E hr=>?_
 refine' ⟨_,(dss_one (ds_ret (de_cT call_tuple_of gp_tuple T.tup boot_tupleT (dbl_cons (dl (de_new (dn_comp2 (own:=["low","high","block"]) (capt:=[]) rfl (CompScope.of rfl) (dil (di_seq (de_var 0))) (fun _ _ _ _=>(dg_tup rfl (dgs_cons (dg_name (i:=0) (by show (["low","high","block"]:List Str).Nodup; decide +kernel) rfl (Or.inl rfl)) (dgs_cons (dg_name (i:=1) (by show (["low","high","block"]:List Str).Nodup; decide +kernel) rfl (Or.inl rfl)) dgs_nil)))) (by decide) (fun _ _ _ _=>dts_nil) (fun _ _ _ _=>(di_tup (de_fn D_span G_span (hr.mono (by decide:3 <= 3)) (db_cons (de_var 0) (db_cons (de_var 1) db_nil st_name) st_name)))) (fun _ _ _ _=>(dg_name (i:=2) (by show (["low","high","block"]:List Str).Nodup; decide +kernel) rfl (Or.inl rfl))) (by decide) (fun _ _ _ _=>dts_nil) (fun _ _ _ _=>(de_var 2))))) dbl_nil st_comp)))),?_⟩
 intro ts n R hl h
 obtain ⟨rs,rfl,w,l,h⟩:=h
 repeat' walk_at "K"
 have key:∀ (rs:List (Int × Int)) (acc ps:List (Int × Int)),(∀ r ∈ rs,0 <= r.1 /\ r.1 <= r.2 /\ r.2 <= 2 ^ 64) -> acc.length + 130 * rs.length <= 16777216 -> PatS rs ps -> ∀ K:List PyData -> Nat -> Prop,K (pD (acc ++ ps)) n ->
   comp2Go (tgTup (tgCons (tgName 0) (tgCons (tgName 1) tgNil))) dYes (dItT (dFn g_span (dCons (dVar 0) (dCons (dVar 1) dNil)))) (tgName 2) dYes (dVar 2) [none,none,none] (pD rs) (pD acc) n K:=by
  intro rs
  induction rs with
  | nil =>
   intro acc ps _ _ P K hK
   cases (show ps = [] from P)
   rw [List.append_nil] at hK
   exact hK
  | cons r rs ih =>
   intro acc ps w la P K hK
   obtain ⟨a,b,rfl,Sa,Pb⟩:=P
   have wr:=w r (by simp)
   have ll:=Sa.len wr.1 wr.2.2
   show tgTup (tgCons (tgName 0) (tgCons (tgName 1) tgNil)) (.tuple [.int r.1,.int r.2]) [none,none,none] fun ρ1=>dYes ρ1 n fun b n2=>if b = true then dItT (dFn g_span (dCons (dVar 0) (dCons (dVar 1) dNil))) ρ1 n2 fun ts n3=>compGo (tgName 2) dYes (dVar 2) ρ1 ts (pD acc) n3 fun acc' n4=>comp2Go (tgTup (tgCons (tgName 0) (tgCons (tgName 1) tgNil))) dYes (dItT (dFn g_span (dCons (dVar 0) (dCons (dVar 1) dNil)))) (tgName 2) dYes (dVar 2) [none,none,none] (pD rs) acc' n4 K else _
   rw [List.length_cons] at la
   repeat' (first | with_reducible refine c_span wr.1 wr.2.1 wr.2.2 (fun bs B=>?_) | walk_at "K")
   rw [B.uniq Sa]
   refine comp_put _ _ (fun x hx K2 hK2=>?_) (by rw [pD_len,pD_len]; lia) ?_
   ·repeat' walk_at "K"
    exact hK2
   ·rw [pD_app]
    exact ih (acc ++ a) b (fun s hs=>w s (by simp [hs])) (by rw [List.length_append]; lia) Pb K (by rw [List.append_assoc]; exact hK)
 obtain ⟨ps,P⟩:=pats_ex (rs:=rs) fun r hr=>(w r hr).2.1
 refine key rs [] ps w (by simp; lia) P _ ?_
 repeat' walk_at "K"
 exact h ps P
theorem sc_runs_of:FnScope ["blocks","runs","block","low","high"] ["blocks"] (defScope (top 11)):=⟨rfl,rfl,rfl,by decide +kernel,rfl,by decide +kernel,by decide +kernel⟩
theorem j_sortB {bits:Int} {bs:List (Int × Int)} {t:PyData} {Rl:List PyData -> Prop} (ht:t = .list (pD bs) \/ t = .tuple (pD bs)) (hb:bits <= 64) (B:Bks bits bs) (h64:bs.length < 64)
  (h:∀ cs:List (Int × Int),cs.Perm bs -> cs.Pairwise (fun a b=>a.1 <= b.1) -> Rl (pD cs)):lSort t Rl:=by
 have key:(pD bs).length < 64 /\ (∀ x ∈ pD bs,IsPr x) /\ ∀ ts':List PyData,ts'.Perm (pD bs) -> ts'.Pairwise (fun a b=>rkD a <= rkD b) -> Rl ts':=by
  refine ⟨by rw [pD_len]; exact h64,fun x hx=>?_,fun ts' pm pw=>?_⟩
  ·obtain ⟨b,hb',rfl⟩:=List.mem_map.mp hx
   have:=B b hb'
   exact ⟨b.1,b.2,rfl,this.1,by have:=this.2.1; lia⟩
  ·have pm':ts'.Perm ((bs.map fun b=>(b,prD b)).map (·.2)):=by
    have:(bs.map fun b=>(b,prD b)).map (·.2) = pD bs:=by simp [pD]
    rw [this]; exact pm
   obtain ⟨zs,p1,p2⟩:=perm_zip pm'
   have ez:∀ z ∈ zs,z.2 = prD z.1:=fun z hz=>by
    obtain ⟨b,_,rfl⟩:=List.mem_map.mp (p1.mem_iff.mp hz)
    rfl
   have e:ts' = pD (zs.map (·.1)):=by
    rw [<- p2]
    unfold pD
    rw [List.map_map]
    exact List.map_congr_left fun z hz=>ez z hz
   have pc:(zs.map (·.1)).Perm bs:=by
    have:=p1.map (·.1)
    rw [List.map_map] at this
    have e2:bs.map ((fun x:(Int × Int) × PyData=>x.1) ∘ fun b=>(b,prD b)) = bs:=by
     show bs.map id = bs
     exact List.map_id _
    rwa [e2] at this
   rw [e]
   have B':Bks bits (zs.map (·.1)):=fun b hb=>B b (pc.mem_iff.mp hb)
   rw [e] at pw
   unfold pD at pw
   rw [List.pairwise_map] at pw
   refine h _ pc (List.Pairwise.imp_of_mem ?_ pw)
   intro a b ha hb h2
   have h2:a.1 * 1000 + a.2 <= b.1 * 1000 + b.2:=h2
   have a0:=(B' a ha).1
   have a1:=(B' a ha).2.1
   have b0:=(B' b hb).1
   have b1:=(B' b hb).2.1
   lia
 rcases ht with rfl | rfl <;> exact key
def g_runs_of:GD:=fun ts n R=>∃ (bits:Int) (bs:List (Int × Int)) (t:PyData),ts = [t] /\ (t = .list (pD bs) \/ t = .tuple (pD bs)) /\ 0 <= bits /\ bits <= 64 /\ Bks bits bs /\ bs.length < 64 /\ ∀ rs,NR rs -> (∀ x,mR x rs ↔ mB x bs) -> rs.length <= bs.length -> R (.list (pD rs)) n
theorem c_runs_of {bits:Int} {bs:List (Int × Int)} {t:PyData} {n:Nat} {R:PyData -> Nat -> Prop} (ht:t = .list (pD bs) \/ t = .tuple (pD bs)) (b0:0 <= bits) (b1:bits <= 64) (B:Bks bits bs) (l:bs.length < 64) (h:∀ rs,NR rs -> (∀ x,mR x rs ↔ mB x bs) -> rs.length <= bs.length -> R (.list (pD rs)) n):g_runs_of [t] n R:=⟨bits,bs,t,rfl,ht,b0,b1,B,l,h⟩
theorem ok_runs_of {f:Addr} {fd:FuncData} {f_end_of:Addr} {fd_end_of:FuncData} (D:Def K mg "runs_of" (top 11) ["blocks"] f fd)
  (D_end_of:Def K mg "end_of" (top 8) ["block"] f_end_of fd_end_of) (G_end_of:FnOk P w K mg base CX0 2 f_end_of fd_end_of ["block"] (spD K 1 g_end_of)) (T:Txt mg):FnOk P w K mg base CX0 3 f fd ["blocks"] (spD K 1 g_runs_of):=by
 refine D.okD sc_runs_of rfl fun cdv A outer s H E hr=>?_
 refine' ⟨_,(dss_cons (ds_own (i:=1) sc_runs_of.nd rfl (Or.inl rfl) (dn_lst db_nil)) (dss_cons (ds_for PassesOwn.never rfl (di_list (de_new (dn_sorted hr T.srt (dl (de_var 0)) st_name))) (dg_name (i:=2) sc_runs_of.nd rfl (Or.inl rfl)) (dss_one (ds_if (dt_of (dw_and (dt_tru (dl_own 1)) (dw_and1 (dt_cmp op_leA gp_leA (dl (de_ix (dl (de_var 2)) (dl de_int))) (dl (de_ix (dl (de_ix (dl_own 1) (dl (de_neg de_int)))) (dl de_int))) (nomark _))))) (dss_cons (ds_asg (de_ix (dl_own 1) (dl (de_neg de_int))) (dg_tup rfl (dgs_cons (dg_name (i:=3) sc_runs_of.nd rfl (Or.inl rfl)) (dgs_cons (dg_name (i:=4) sc_runs_of.nd rfl (Or.inl rfl)) dgs_nil)))) (dss_one (ds_put 1 (de_neg de_int) (de_tup (db_cons (de_var 3) (db_cons (de_cB (call_max2 rfl) gp_max T.max boot_maxB (dbl_cons (dl (de_var 4)) (dbl_cons (dl (de_fn D_end_of G_end_of (hr.mono (by decide:2 <= 2)) (db_cons (de_var 2) db_nil st_name))) dbl_nil st_call) st_name)) db_nil st_call) st_name))))) (dss_one (ds_append 1 (de_tup (db_cons (de_ix (dl (de_var 2)) (dl de_int)) (db_cons (de_fn D_end_of G_end_of (hr.mono (by decide:2 <= 2)) (db_cons (de_var 2) db_nil st_name)) db_nil st_call) st_sub))))))) (dss_freeze 1 (dss_one (ds_ret (de_var 1)))))),?_⟩
 intro ts n R hl h
 obtain ⟨bits,bs,t,rfl,ht,b0,b1,B,l,h⟩:=h
 repeat' walk_at "K"
 refine j_sortB ht b1 B l fun cs pm pw=>?_
 have Bc:Bks bits cs:=fun b hb=>B b (pm.mem_iff.mp hb)
 have lc:=pm.length_eq
 refine for_m4 1 2 3 4 (fun k a1 _ _ _ m=>m = n /\ ∃ rs:List (Int × Int),a1 = some (.own (pD rs)) /\ NR rs /\ (∀ x,mR x rs ↔ mB x (cs.take k)) /\ rs.length <= k /\ ∀ r ∈ rs,∀ b ∈ cs.drop k,r.1 <= b.1) ⟨rfl,[],rfl,⟨(fun r hr=>nomatch hr),.nil⟩,(fun x=>⟨fun z=>absurd z mR_nil,fun z=>absurd z mB_nil⟩),Nat.le_refl _,fun r hr=>nomatch hr⟩ ?_ ?_
 ·rintro k t' a1 a2 a3 a4 m K RT BK et ⟨rfl,rs,rfl,nr,me,lr,lo⟩ hK hRT hBK
  obtain ⟨i,g,eb,rfl⟩:=pD_get et
  have kl:=(List.getElem?_eq_some_iff.mp eb).1
  have Bb:=Bc _ (List.mem_of_getElem? eb)
  have g0:0 <= g:=Bb.1
  have g1:g <= bits:=Bb.2.1
  have pg:=two_pos g.toNat
  have tk:cs.take (k + 1) = cs.take k ++ [(i,g)]:=by rw [List.take_succ,eb]; rfl
  have dk:cs.drop k = (i,g) :: cs.drop (k + 1):=by
   rw [List.drop_eq_getElem_cons kl]
   congr 1
   have:=List.getElem?_eq_getElem kl
   rw [eb] at this
   exact (Option.some.inj this).symm
  have after:∀ b ∈ cs.drop (k + 1),i <= b.1:=fun b hb=>by
   have:cs.Pairwise fun a b=>a.1 <= b.1:=pw
   have:=(this.sublist (List.drop_sublist k cs))
   rw [dk] at this
   exact (List.pairwise_cons.mp this).1 b hb
  have m1:∀ x,mB x (cs.take (k + 1)) ↔ mB x (cs.take k) \/ (i <= x /\ x < i + 2 ^ g.toNat):=fun x=>by
   rw [tk,mB_app,mB_cons]
   constructor
   ·rintro (z | z | z)
    ·exact .inl z
    ·exact .inr z
    ·exact absurd z mB_nil
   ·rintro (z | z)
    ·exact .inl z
    ·exact .inr (.inl z)
  have new:(∀ r ∈ rs,r.2 < i) -> ∀ c2 c3 c4,K [some (.val t),some (.own (pD rs ++ [.tuple [.int i,.int (i + 2 ^ g.toNat)]])),c2,c3,c4] m:=fun hlt c2 c3 c4 =>
   hK _ _ _ _ _ ⟨rfl,rs ++ [(i,i + 2 ^ g.toNat)],by rw [<- pD_one],⟨fun r hr=>by
    rcases List.mem_append.mp hr with z | z
    ·exact nr.1 r z
    ·cases List.mem_singleton.mp z; show i < i + 2 ^ g.toNat; lia,by
    rw [List.pairwise_append]
    exact ⟨nr.2,List.pairwise_singleton _ _,fun a ha b hb=>by cases List.mem_singleton.mp hb; exact hlt a ha⟩⟩,(fun x=>by
    rw [mR_app,me,m1,mR_cons]
    constructor
    ·rintro (z | z | z)
     ·exact .inl z
     ·exact .inr z
     ·exact absurd z mR_nil
    ·rintro (z | z)
     ·exact .inl z
     ·exact .inr (.inl z)),by simp; lia,fun r hr b hb=>by
    rcases List.mem_append.mp hr with z | z
    ·exact lo r z b (by rw [dk]; simp [hb])
    ·cases List.mem_singleton.mp z; exact after b hb⟩
  rcases List.eq_nil_or_concat rs with rfl | ⟨rs',r,rfl⟩
  ·repeat' (first | with_reducible refine c_end_of g0 (by lia) ?_ | walk_at "K")
   ·show 0 < 16777216; decide
   ·exact new (fun r hr=>nomatch hr) _ _ _
   ·exact absurd hc (by simp [pD])
  ·rw [List.concat_eq_append] at *
   have sn:pD (rs' ++ [r]) = pD rs' ++ [.tuple [.int r.1,.int r.2]]:=by simp [pD]
   have lr':rs'.length + 1 <= k:=by simpa using lr
   have r12:=nr.1 r (by simp)
   have rlo:r.1 <= i:=lo r (by simp) (i,g) (by rw [dk]; simp)
   have pws:=List.pairwise_append.mp nr.2
   rw [sn] at new ⊢
   repeat' (first | with_reducible refine j_ixLast ?_ | with_reducible refine c_end_of g0 (by lia) ?_ | walk_at "K")
   all_goals first
    | (exfalso; simp at hc; done)
    | (exfalso; rename_i y; simp at y; done)
    | (simp [pD_len]; lia)
    | skip
   ·refine put_ix ixN_last ?_
    repeat' walk_at "K"
    rw [List.set_append_right _ _ (Nat.le_refl _),Nat.sub_self]
    have mx:(if i + 2 ^ g.toNat > r.2 then i + 2 ^ g.toNat else r.2) = max r.2 (i + 2 ^ g.toNat):=by split <;> lia
    refine hK _ _ _ _ _ ⟨rfl,rs' ++ [(r.1,max r.2 (i + 2 ^ g.toNat))],?_,⟨fun s hs=>?_,?_⟩,fun x=>?_,by simp; lia,fun s hs b hb=>?_⟩
    ·rw [mx]; simp [pD]
    ·rcases List.mem_append.mp hs with z | z
     ·exact nr.1 s (by simp [z])
     ·cases List.mem_singleton.mp z; show r.1 < max r.2 _; lia
    ·rw [List.pairwise_append]
     exact ⟨pws.1,List.pairwise_singleton _ _,fun a ha b hb=>by cases List.mem_singleton.mp hb; exact pws.2.2 a ha r (by simp)⟩
    ·have mex:=me x
     rw [mR_app,mR_cons] at mex
     rw [mR_app,mR_cons,m1,<- mex]
     have nn:=mR_nil (x:=x)
     show _ \/ (r.1 <= x /\ x < max r.2 (i + 2 ^ g.toNat)) \/ _ ↔ _
     constructor
     ·rintro (z | z | z)
      ·exact .inl (.inl z)
      ·by_cases w:x < r.2
       ·exact .inl (.inr (.inl ⟨z.1,w⟩))
       ·exact .inr (by lia)
      ·exact absurd z nn
     ·rintro ((z | z | z) | z)
      ·exact .inl z
      ·exact .inr (.inl (by lia))
      ·exact absurd z nn
      ·exact .inr (.inl (by lia))
    ·rcases List.mem_append.mp hs with z | z
     ·exact lo s (by simp [z]) b (by rw [dk]; simp [hb])
     ·cases List.mem_singleton.mp z; exact lo r (by simp) b (by rw [dk]; simp [hb])
   ·refine new (fun s hs=>?_) _ _ _
    rcases List.mem_append.mp hs with z | z
    ·have:=pws.2.2 s z r (by simp); have:=nr.1 r (by simp); lia
    ·cases List.mem_singleton.mp z; lia
 ·rintro a1 a2 a3 a4 m ⟨rfl,rs,rfl,nr,me,lr,lo⟩
  rw [pD_len] at me lr
  rw [List.take_length] at me
  repeat' walk_at "K"
  exact h rs nr (fun x=>by rw [me x,mB_perm pm]) (by lia)
theorem sc_fewest:FnScope ["blocks"] ["blocks"] (defScope (top 3)):=⟨rfl,rfl,rfl,by decide +kernel,rfl,by decide +kernel,by decide +kernel⟩
def g_fewest:GD:=fun ts n R=>∃ (bits:Int) (bs:List (Int × Int)) (t:PyData),ts = [t] /\ (t = .list (pD bs) \/ t = .tuple (pD bs)) /\ 0 <= bits /\ bits <= 64 /\ Bks bits bs /\ bs.length < 64 /\ ∀ ps,CanP (fun x=>mB x bs) ps -> ps.length <= bs.length -> R (.tuple (pD ps)) n
theorem c_fewest {bits:Int} {bs:List (Int × Int)} {t:PyData} {n:Nat} {R:PyData -> Nat -> Prop} (ht:t = .list (pD bs) \/ t = .tuple (pD bs)) (b0:0 <= bits) (b1:bits <= 64) (B:Bks bits bs) (l:bs.length < 64) (h:∀ ps,CanP (fun x=>mB x bs) ps -> ps.length <= bs.length -> R (.tuple (pD ps)) n):g_fewest [t] n R:=⟨bits,bs,t,rfl,ht,b0,b1,B,l,h⟩
theorem ok_fewest {f:Addr} {fd:FuncData} {f_patch_of:Addr} {fd_patch_of:FuncData} {f_runs_of:Addr} {fd_runs_of:FuncData} (D:Def K mg "fewest" (top 3) ["blocks"] f fd)
  (D_patch_of:Def K mg "patch_of" (top 10) ["runs"] f_patch_of fd_patch_of) (G_patch_of:FnOk P w K mg base CX0 4 f_patch_of fd_patch_of ["runs"] (spD K 1 g_patch_of))
  (D_runs_of:Def K mg "runs_of" (top 11) ["blocks"] f_runs_of fd_runs_of) (G_runs_of:FnOk P w K mg base CX0 3 f_runs_of fd_runs_of ["blocks"] (spD K 1 g_runs_of)) (T:Txt mg):FnOk P w K mg base CX0 5 f fd ["blocks"] (spD K 1 g_fewest):=by
 refine D.okD sc_fewest rfl fun cdv A outer s H E hr=>?_
 refine' ⟨_,(dss_one (ds_ret (de_fn D_patch_of G_patch_of (hr.mono (by decide:4 <= 4)) (db_cons (de_fn D_runs_of G_runs_of (hr.mono (by decide:3 <= 4)) (db_cons (de_var 0) db_nil st_name)) db_nil st_call)))),?_⟩
 intro ts n R hl h
 obtain ⟨bits,bs,t,rfl,ht,b0,b1,B,l,h⟩:=h
 repeat' (first | with_reducible refine c_runs_of ht b0 b1 B l (fun rs nr me lr=>?_) | walk_at "K")
 have w:=nr_in b0 b1 nr me fun x hx=>bks_in b0 B hx
 repeat' (first | with_reducible refine c_patch_of w ?_ (fun ps P=>?_) | walk_at "K")
 ·lia
 ·have C:CanP (fun x=>mB x bs) ps:=⟨rs,nr,me,P⟩
  exact h ps C (C.le b0 B)
theorem sc_gaps_below:FnScope ["runs","top","gaps","begin","low","high"] ["runs","top"] (defScope (top 12)):=⟨rfl,rfl,rfl,by decide +kernel,rfl,by decide +kernel,by decide +kernel⟩
def g_gaps_below:GD:=fun ts n R=>∃ (rs:List (Int × Int)) (top:Int),ts = [.list (pD rs),.int top] /\ NR rs /\ (∀ r ∈ rs,0 <= r.1) /\ 0 <= top /\ rs.length <= 100000 /\ ∀ (gs:List (Int × Int)) (B:Int),NR gs -> (∀ x,mR x gs ↔ 0 <= x /\ x < B /\ ¬ mR x rs) -> gs.length <= rs.length + 1 -> top <= B -> (B = top \/ ∃ r ∈ rs,B = r.2) -> R (.list (pD gs)) n
theorem c_gaps_belowG {rs:List (Int × Int)} {top:Int} {n:Nat} {R:PyData -> Nat -> Prop} (nr:NR rs) (w:∀ r ∈ rs,0 <= r.1) (t0:0 <= top) (l:rs.length <= 100000) (h:∀ (gs:List (Int × Int)) (B:Int),NR gs -> (∀ x,mR x gs ↔ 0 <= x /\ x < B /\ ¬ mR x rs) -> gs.length <= rs.length + 1 -> top <= B -> (B = top \/ ∃ r ∈ rs,B = r.2) -> R (.list (pD gs)) n):g_gaps_below [.list (pD rs),.int top] n R:=⟨rs,top,rfl,nr,w,t0,l,h⟩
theorem c_gaps_below {rs:List (Int × Int)} {top:Int} {n:Nat} {R:PyData -> Nat -> Prop} (nr:NR rs) (w:∀ r ∈ rs,0 <= r.1 /\ r.2 <= top) (t0:0 <= top) (l:rs.length <= 100000) (h:∀ gs,NR gs -> (∀ x,mR x gs ↔ 0 <= x /\ x < top /\ ¬ mR x rs) -> gs.length <= rs.length + 1 -> R (.list (pD gs)) n):g_gaps_below [.list (pD rs),.int top] n R:=c_gaps_belowG nr (fun r hr=>(w r hr).1) t0 l fun gs B ng me lg tb eb=>by
 have:B = top:=by
  rcases eb with e | ⟨r,hr,e⟩
  ·exact e
  ·have:=(w r hr).2; lia
 subst this
 exact h gs ng me lg
theorem ok_gaps_below {f:Addr} {fd:FuncData} (D:Def K mg "gaps_below" (top 12) ["runs","top"] f fd) (T:Txt mg):FnOk P w K mg base CX0 1 f fd ["runs","top"] (spD K 2 g_gaps_below):=by
 refine D.okD sc_gaps_below rfl fun cdv A outer s H E hr=>?_
 refine' ⟨_,(dss_cons (ds_own (i:=2) sc_gaps_below.nd rfl (Or.inl rfl) (dn_lst db_nil)) (dss_cons (ds_set (i:=3) sc_gaps_below.nd rfl (Or.inl rfl) de_int) (dss_cons (ds_for PassesOwn.never rfl (di_seq (de_var 0)) (dg_tup rfl (dgs_cons (dg_name (i:=4) sc_gaps_below.nd rfl (Or.inl rfl)) (dgs_cons (dg_name (i:=5) sc_gaps_below.nd rfl (Or.inl rfl)) dgs_nil))) (dss_cons (ds_if (dt_cmp (op_ltA hr) gp_ltA (dl (de_var 3)) (dl (de_var 4)) (nomark _)) (dss_one (ds_append 2 (de_tup (db_cons (de_var 3) (db_cons (de_var 4) db_nil st_name) st_name)))) dss_nil) (dss_one (ds_set (i:=3) sc_gaps_below.nd rfl (Or.inl rfl) (de_var 5))))) (dss_cons (ds_if (dt_cmp (op_ltA hr) gp_ltA (dl (de_var 3)) (dl (de_var 1)) (nomark _)) (dss_one (ds_append 2 (de_tup (db_cons (de_var 3) (db_cons (de_var 1) db_nil st_name) st_name)))) dss_nil) (dss_freeze 2 (dss_one (ds_ret (de_var 2)))))))),?_⟩
 intro ts n R hl h
 obtain ⟨rs,top,rfl,nr,w,t0,l,h⟩:=h
 repeat' walk_at "K"
 refine for_m4 2 3 4 5 (fun k a2 a3 _ _ m=>m = n /\ ∃ (gs:List (Int × Int)) (be:Int),a2 = some (.own (pD gs)) /\ a3 = some (.val (.int be)) /\ NR gs /\ (∀ x,mR x gs ↔ 0 <= x /\ x < be /\ ¬ mR x (rs.take k)) /\ gs.length <= k /\ 0 <= be /\ (be = 0 \/ ∃ r ∈ rs,be = r.2) /\ (∀ r ∈ rs.take k,r.2 <= be) /\ (∀ g ∈ gs,g.2 < be) /\ (∀ r ∈ rs.drop k,(k = 0 /\ be = 0 /\ be <= r.1) \/ be < r.1)) ⟨rfl,[],0,rfl,rfl,⟨(fun r hr=>nomatch hr),.nil⟩,(fun x=>⟨fun z=>absurd z mR_nil,fun z=>by lia⟩),Nat.le_refl _,Int.le_refl _,.inl rfl,(fun r hr=>nomatch hr),(fun r hr=>nomatch hr),fun r hr=>.inl ⟨rfl,rfl,w r hr⟩⟩ ?_ ?_
 ·rintro k t' a2 a3 a4 a5 m K RT BK et ⟨rfl,gs,be,rfl,rfl,ng,me,lg,be0,be1,ti,gl,dr⟩ hK hRT hBK
  obtain ⟨lo,hi,eb,rfl⟩:=pD_get et
  have kl:=(List.getElem?_eq_some_iff.mp eb).1
  have mr:=List.mem_of_getElem? eb
  have r12:=nr.1 _ mr
  have r12:lo < hi:=r12
  have wr:=w _ mr
  have wr1:0 <= lo:=wr
  have tk:rs.take (k + 1) = rs.take k ++ [(lo,hi)]:=by rw [List.take_succ,eb]; rfl
  have dk:rs.drop k = (lo,hi) :: rs.drop (k + 1):=by
   rw [List.drop_eq_getElem_cons kl]
   congr 1
   have:=List.getElem?_eq_getElem kl
   rw [eb] at this
   exact (Option.some.inj this).symm
  have after:∀ r ∈ rs.drop (k + 1),hi < r.1:=fun r hr=>by
   have:=(nr.2.sublist (List.drop_sublist k rs))
   rw [dk] at this
   exact (List.pairwise_cons.mp this).1 r hr
  have here:=dr (lo,hi) (by rw [dk]; simp)
  have here:be <= lo:=by rcases here with z | z; exact z.2.2; exact Int.le_of_lt z
  have mt:∀ x,mR x (rs.take (k + 1)) ↔ mR x (rs.take k) \/ (lo <= x /\ x < hi):=fun x=>by
   rw [tk,mR_app,mR_cons]
   constructor
   ·rintro (z | z | z)
    ·exact .inl z
    ·exact .inr z
    ·exact absurd z mR_nil
   ·rintro (z | z)
    ·exact .inl z
    ·exact .inr (.inl z)
  have old:∀ x,be <= x -> ¬ mR x (rs.take k):=fun x hx ⟨r,hr,h1,h2⟩=>by have:=ti r hr; lia
  have go:∀ (gs':List (Int × Int)) (c4 c5:Option Cell),NR gs' -> (∀ x,mR x gs' ↔ mR x gs \/ (be <= x /\ x < lo)) -> gs'.length <= k + 1 -> (∀ g ∈ gs',g.2 < hi) -> K [some (.val (.list (pD rs))),some (.val (.int top)),some (.own (pD gs')),some (.val (.int hi)),c4,c5] m:=fun gs' c4 c5 n' m' l' g' =>
   hK _ _ _ _ _ ⟨rfl,gs',hi,rfl,rfl,n',(fun x=>by
    rw [m',me,mt]
    have ox:=old x
    constructor
    ·rintro (⟨a,b,c⟩ | ⟨a,b⟩)
     ·exact ⟨a,by lia,fun z=>z.elim c fun z=>by lia⟩
     ·exact ⟨by lia,by lia,fun z=>z.elim (ox a) fun z=>by lia⟩
    ·rintro ⟨a,b,c⟩
     by_cases y:x < be
     ·exact .inl ⟨a,y,fun z=>c (.inl z)⟩
     ·refine .inr ⟨by lia,?_⟩
      by_cases u:x < lo
      ·exact u
      ·exact absurd (.inr ⟨by lia,b⟩) c),l',by lia,.inr ⟨_,mr,rfl⟩,(fun r hr=>by
    rw [tk] at hr
    rcases List.mem_append.mp hr with z | z
    ·have:=ti r z; lia
    ·cases List.mem_singleton.mp z; exact Int.le_refl _),g',fun r hr=>.inr (after r hr)⟩
  repeat' walk_at "K"
  ·rw [pD_len]; lia
  ·rw [pD_one]
   refine go (gs ++ [(be,lo)]) _ _ ⟨fun r hr=>?_,?_⟩ (fun x=>?_) (by simp; lia) fun g hg=>?_
   ·rcases List.mem_append.mp hr with z | z
    ·exact ng.1 r z
    ·cases List.mem_singleton.mp z; exact hc
   ·rw [List.pairwise_append]
    exact ⟨ng.2,List.pairwise_singleton _ _,fun a ha b hb=>by cases List.mem_singleton.mp hb; exact gl a ha⟩
   ·rw [mR_app,mR_cons]
    constructor
    ·rintro (z | z | z)
     ·exact .inl z
     ·exact .inr z
     ·exact absurd z mR_nil
    ·rintro (z | z)
     ·exact .inl z
     ·exact .inr (.inl z)
   ·rcases List.mem_append.mp hg with z | z
    ·have:=gl g z; lia
    ·cases List.mem_singleton.mp z; exact r12
  ·refine go gs _ _ ng (fun x=>⟨.inl,fun z=>z.elim id fun z=>by lia⟩) (by lia) fun g hg=>?_
   have:=gl g hg; lia
 ·rintro a2 a3 a4 a5 m ⟨rfl,gs,be,rfl,rfl,ng,me,lg,be0,be1,ti,gl,dr⟩
  rw [pD_len] at me lg ti
  rw [List.take_length] at me ti
  have old:∀ x,be <= x -> ¬ mR x rs:=fun x hx ⟨r,hr,h1,h2⟩=>by have:=ti r hr; lia
  repeat' walk_at "K"
  ·rw [pD_len]; lia
  ·rw [pD_one]
   refine h (gs ++ [(be,top)]) top ⟨fun r hr=>?_,?_⟩ (fun x=>?_) (by simp; lia) (Int.le_refl _) (.inl rfl)
   ·rcases List.mem_append.mp hr with z | z
    ·exact ng.1 r z
    ·cases List.mem_singleton.mp z; exact hc
   ·rw [List.pairwise_append]
    exact ⟨ng.2,List.pairwise_singleton _ _,fun a ha b hb=>by cases List.mem_singleton.mp hb; exact gl a ha⟩
   ·rw [mR_app,mR_cons,me]
    have ox:=old x
    constructor
    ·rintro (⟨a,b,c⟩ | z | z)
     ·exact ⟨a,by lia,c⟩
     ·exact ⟨by have:=z.1; lia,z.2,ox z.1⟩
     ·exact absurd z mR_nil
    ·rintro ⟨a,b,c⟩
     by_cases y:x < be
     ·exact .inl ⟨a,y,c⟩
     ·exact .inr (.inl ⟨by show be <= x; lia,b⟩)
  ·refine h gs be ng me (by lia) (by lia) ?_
   rcases be1 with z | z
   ·exact .inl (by lia)
   ·exact .inr z
theorem sc_rest_of:FnScope ["bits","patch"] ["bits","patch"] (defScope (top 5)):=⟨rfl,rfl,rfl,by decide +kernel,rfl,by decide +kernel,by decide +kernel⟩
def g_rest_of:GD:=fun ts n R=>∃ (bits:Int) (ps:List (Int × Int)),ts = [.int bits,.tuple (pD ps)] /\ 1 <= bits /\ bits <= 64 /\ Bks bits ps /\ ps.length < 64 /\ ∀ qs,CanP (fun x=>0 <= x /\ x < 2 ^ bits.toNat /\ ¬ mB x ps) qs -> qs.length <= 130 * (ps.length + 1) -> R (.tuple (pD qs)) n
theorem c_rest_of {bits:Int} {ps:List (Int × Int)} {n:Nat} {R:PyData -> Nat -> Prop} (b0:1 <= bits) (b1:bits <= 64) (B:Bks bits ps) (l:ps.length < 64) (h:∀ qs,CanP (fun x=>0 <= x /\ x < 2 ^ bits.toNat /\ ¬ mB x ps) qs -> qs.length <= 130 * (ps.length + 1) -> R (.tuple (pD qs)) n):g_rest_of [.int bits,.tuple (pD ps)] n R:=⟨bits,ps,rfl,b0,b1,B,l,h⟩
theorem ok_rest_of {f:Addr} {fd:FuncData} {f_patch_of:Addr} {fd_patch_of:FuncData} {f_gaps_below:Addr} {fd_gaps_below:FuncData} {f_runs_of:Addr} {fd_runs_of:FuncData} (D:Def K mg "rest_of" (top 5) ["bits","patch"] f fd)
  (D_patch_of:Def K mg "patch_of" (top 10) ["runs"] f_patch_of fd_patch_of) (G_patch_of:FnOk P w K mg base CX0 4 f_patch_of fd_patch_of ["runs"] (spD K 1 g_patch_of))
  (D_gaps_below:Def K mg "gaps_below" (top 12) ["runs","top"] f_gaps_below fd_gaps_below) (G_gaps_below:FnOk P w K mg base CX0 1 f_gaps_below fd_gaps_below ["runs","top"] (spD K 2 g_gaps_below))
  (D_runs_of:Def K mg "runs_of" (top 11) ["blocks"] f_runs_of fd_runs_of) (G_runs_of:FnOk P w K mg base CX0 3 f_runs_of fd_runs_of ["blocks"] (spD K 1 g_runs_of)) (T:Txt mg):FnOk P w K mg base CX0 5 f fd ["bits","patch"] (spD K 2 g_rest_of):=by
 refine D.okD sc_rest_of rfl fun cdv A outer s H E hr=>?_
 refine' ⟨_,(dss_one (ds_ret (de_fn D_patch_of G_patch_of (hr.mono (by decide:4 <= 4)) (db_cons (de_fn D_gaps_below G_gaps_below (hr.mono (by decide:1 <= 4)) (db_cons (de_fn D_runs_of G_runs_of (hr.mono (by decide:3 <= 4)) (db_cons (de_var 1) db_nil st_name)) (db_cons (de_shl (dl de_int) (dl (de_var 0))) db_nil st_bin) st_call)) db_nil st_call)))),?_⟩
 intro ts n R hl h
 obtain ⟨bits,ps,rfl,b0,b1,B,l,h⟩:=h
 repeat' (first | with_reducible refine c_runs_of (.inr rfl) (by lia) b1 B l (fun rs nr me lr=>?_) | walk_at "K")
 ·exact cpow (by lia) (by lia)
 have w:=nr_in (by lia) b1 nr me fun x hx=>bks_in (by lia) B hx
 have wt:∀ r ∈ rs,0 <= r.1 /\ r.2 <= 1 * 2 ^ bits.toNat:=fun r hr=>by
  have lt:=nr.1 r hr
  have:=bks_in (by lia) B ((me (r.2 - 1)).mp ⟨r,hr,by lia,by lia⟩)
  have:=(w r hr).1
  rw [one_mulP]
  lia
 have tp:=two_pos bits.toNat
 repeat' (first | with_reducible refine c_gaps_below nr wt (by lia) (by lia) (fun gs ng mg lg=>?_) | walk_at "K")
 have mg':∀ x,mR x gs ↔ 0 <= x /\ x < 2 ^ bits.toNat /\ ¬ mB x ps:=fun x=>by rw [mg,one_mulP,me]
 have w2:=nr_in (by lia) b1 ng mg' fun x hx=>⟨hx.1,hx.2.1⟩
 repeat' (first | with_reducible refine c_patch_of w2 ?_ (fun qs P=>?_) | walk_at "K")
 ·lia
 ·have:=P.len fun r hr=>⟨(w2 r hr).1,(w2 r hr).2.2⟩
  exact h qs ⟨gs,ng,mg',P⟩ (by lia)
theorem sc_ended_by:FnScope ["patch","address","low","high","middle"] ["patch","address"] (defScope (top 7)):=⟨rfl,rfl,rfl,by decide +kernel,rfl,by decide +kernel,by decide +kernel⟩
def g_ended_by:GD:=fun ts n R=>∃ (bits:Int) (bs:List (Int × Int)) (a:Int),ts = [.tuple (pD bs),.int a] /\ bits <= 64 /\ Ptc bits bs /\ bs.length < 1000000 /\ ∀ k:Nat,k <= bs.length -> (∀ (j:Nat) (b:Int × Int),j < k -> bs[j]? = some b -> eB b <= a) -> (∀ (j:Nat) (b:Int × Int),k <= j -> bs[j]? = some b -> a < eB b) -> R (.int (k:Int)) n
theorem c_ended_by {bits a:Int} {bs:List (Int × Int)} {n:Nat} {R:PyData -> Nat -> Prop} (b1:bits <= 64) (P:Ptc bits bs) (hl:bs.length < 1000000) (h:∀ k:Nat,k <= bs.length -> (∀ (j:Nat) (b:Int × Int),j < k -> bs[j]? = some b -> eB b <= a) -> (∀ (j:Nat) (b:Int × Int),k <= j -> bs[j]? = some b -> a < eB b) -> R (.int (k:Int)) n):g_ended_by [.tuple (pD bs),.int a] n R:=⟨bits,bs,a,rfl,b1,P,hl,h⟩
theorem ok_ended_by {f:Addr} {fd:FuncData} {f_end_of:Addr} {fd_end_of:FuncData} (D:Def K mg "ended_by" (top 7) ["patch","address"] f fd)
  (D_end_of:Def K mg "end_of" (top 8) ["block"] f_end_of fd_end_of) (G_end_of:FnOk P w K mg base CX0 2 f_end_of fd_end_of ["block"] (spD K 1 g_end_of)) (T:Txt mg):FnOk P w K mg base CX0 3 f fd ["patch","address"] (spD K 2 g_ended_by):=by
 refine D.okD sc_ended_by rfl fun cdv A outer s H E hr=>?_
 refine' ⟨_,(dss_cons (ds_set (i:=2) sc_ended_by.nd rfl (Or.inl rfl) de_int) (dss_cons (ds_set (i:=3) sc_ended_by.nd rfl (Or.inl rfl) (de_cB call_len gp_len T.len boot_lenB (dbl_cons (dl (de_var 0)) dbl_nil st_name))) (dss_cons (ds_while PassesOwn.never (dt_cmp (op_ltA hr) gp_ltA (dl (de_var 2)) (dl (de_var 3)) (nomark _)) (dss_cons (ds_set (i:=4) sc_ended_by.nd rfl (Or.inl rfl) (de_fdiv (dl (de_add (dl (de_var 2)) (dl (de_var 3)))) (dl de_int))) (dss_one (ds_if (dt_cmp op_leA gp_leA (dl (de_fn D_end_of G_end_of (hr.mono (by decide:2 <= 2)) (db_cons (de_ix (dl (de_var 0)) (dl (de_var 4))) db_nil st_sub))) (dl (de_var 1)) (nomark _)) (dss_one (ds_set (i:=2) sc_ended_by.nd rfl (Or.inl rfl) (de_add (dl (de_var 4)) (dl de_int)))) (dss_one (ds_set (i:=3) sc_ended_by.nd rfl (Or.inl rfl) (de_var 4))))))) (dss_one (ds_ret (de_var 2)))))),?_⟩
 intro ts n R hl hh
 obtain ⟨bits,bs,a,rfl,b1,P,hl6,hh⟩:=hh
 have srt:=P.ends
 repeat' walk_at "K"
 rw [pD_len]
 refine while_inv (m:=bs.length) (fun m ρ n'=>n' = n /\ ∃ lo hi:Nat,∃ c,ρ = [some (.val (.tuple (pD bs))),some (.val (.int a)),some (.val (.int (lo:Int))),some (.val (.int (hi:Int))),c] /\ lo <= hi /\ hi <= bs.length /\ m = hi - lo /\ (∀ (j:Nat) (b:Int × Int),j < lo -> bs[j]? = some b -> eB b <= a) /\ (∀ (j:Nat) (b:Int × Int),hi <= j -> bs[j]? = some b -> a < eB b)) ?_ ?_
 ·refine ⟨rfl,0,bs.length,none,rfl,Nat.zero_le _,Nat.le_refl _,rfl,fun j b hj=>absurd hj (Nat.not_lt_zero _),fun j b hj e=>?_⟩
  rw [List.getElem?_eq_none hj] at e; cases e
 ·rintro m ρ n' ⟨rfl,lo,hi,c,rfl,h1,h2,rfl,h3,h4⟩
  repeat' walk_at "K"
  ·exact cdiv2
  ·have hm:(lo + hi) / 2 < bs.length:=by lia
   obtain ⟨b,eb⟩:∃ b,bs[(lo + hi) / 2]? = some b:=⟨_,List.getElem?_eq_getElem hm⟩
   have hb:=P.1 b (List.mem_of_getElem? eb)
   refine j_ixE (k:=(lo + hi) / 2) (by lia) (pD_at eb) ?_
   have sx:∀ (i j:Nat) (x y:Int × Int),bs[i]? = some x -> bs[j]? = some y -> i <= j -> eB x <= eB y:=fun i j x y ei ej hij=>by
    by_cases z:i = j
    ·subst z; rw [ei] at ej; cases ej; exact Int.le_refl _
    ·obtain ⟨l1,rfl⟩:=List.getElem?_eq_some_iff.mp ei
     obtain ⟨l2,rfl⟩:=List.getElem?_eq_some_iff.mp ej
     exact List.pairwise_iff_getElem.mp srt i j l1 l2 (by lia)
   repeat' (first | with_reducible refine c_end_of ?_ ?_ ?_ | walk_at "K")
   ·exact hb.1
   ·have:=hb.2.1; lia
   ·have hc:eB b <= a:=hc
    refine ⟨_,?_,rfl,(lo + hi) / 2 + 1,hi,some (.val (.int (((lo + hi) / 2:Nat):Int))),?_,by lia,h2,rfl,fun j x hj e=>?_,h4⟩
    ·lia
    ·have e1:((lo:Int) + hi) / 2 = (((lo + hi) / 2:Nat):Int):=by lia
     first | (rw [e1]; done) | (rw [e1]; rfl)
    ·exact Int.le_trans (sx _ _ _ _ e eb (by lia)) hc
   ·have hc:¬ eB b <= a:=hc
    refine ⟨_,?_,rfl,lo,(lo + hi) / 2,some (.val (.int (((lo + hi) / 2:Nat):Int))),?_,by lia,by lia,rfl,h3,fun j x hj e=>?_⟩
    ·lia
    ·have e1:((lo:Int) + hi) / 2 = (((lo + hi) / 2:Nat):Int):=by lia
     first | (rw [e1]; done) | (rw [e1]; rfl)
    ·have:=sx _ _ _ _ eb e (by lia); lia
  ·have e:lo = hi:=by lia
   subst e
   exact hh lo h2 h3 h4
theorem sc_block_with:FnScope ["patch","address","at"] ["patch","address"] (defScope (top 6)):=⟨rfl,rfl,rfl,by decide +kernel,rfl,by decide +kernel,by decide +kernel⟩
def g_block_with:GD:=fun ts n R=>∃ (bits:Int) (bs:List (Int × Int)) (a:Int),ts = [.tuple (pD bs),.int a] /\ bits <= 64 /\ Ptc bits bs /\ bs.length < 1000000 /\ (∀ b ∈ bs,b.1 <= a -> a < eB b -> R (.tuple [.int b.1,.int b.2]) n) /\ ((∀ b ∈ bs,¬ (b.1 <= a /\ a < eB b)) -> R .none n)
theorem c_block_with {bits a:Int} {bs:List (Int × Int)} {n:Nat} {R:PyData -> Nat -> Prop} (b1:bits <= 64) (P:Ptc bits bs) (hl:bs.length < 1000000) (h:∀ b ∈ bs,b.1 <= a -> a < eB b -> R (.tuple [.int b.1,.int b.2]) n) (h':(∀ b ∈ bs,¬ (b.1 <= a /\ a < eB b)) -> R .none n):g_block_with [.tuple (pD bs),.int a] n R:=⟨bits,bs,a,rfl,b1,P,hl,h,h'⟩
theorem ok_block_with {f:Addr} {fd:FuncData} {f_ended_by:Addr} {fd_ended_by:FuncData} (D:Def K mg "block_with" (top 6) ["patch","address"] f fd)
  (D_ended_by:Def K mg "ended_by" (top 7) ["patch","address"] f_ended_by fd_ended_by) (G_ended_by:FnOk P w K mg base CX0 3 f_ended_by fd_ended_by ["patch","address"] (spD K 2 g_ended_by)) (T:Txt mg):FnOk P w K mg base CX0 4 f fd ["patch","address"] (spD K 2 g_block_with):=by
 refine D.okD sc_block_with rfl fun cdv A outer s H E hr=>?_
 refine' ⟨_,(dss_cons (ds_set (i:=2) sc_block_with.nd rfl (Or.inl rfl) (de_fn D_ended_by G_ended_by (hr.mono (by decide:3 <= 3)) (db_cons (de_var 0) (db_cons (de_var 1) db_nil st_name) st_name))) (dss_cons (ds_if (dt_of (dw_and (dt_cmp (op_ltA hr) gp_ltA (dl (de_var 2)) (dl (de_cB call_len gp_len T.len boot_lenB (dbl_cons (dl (de_var 0)) dbl_nil st_name))) (nomark _)) (dw_and1 (dt_cmp op_leA gp_leA (dl (de_ix (dl (de_ix (dl (de_var 0)) (dl (de_var 2)))) (dl de_int))) (dl (de_var 1)) (nomark _))))) (dss_one (ds_ret (de_ix (dl (de_var 0)) (dl (de_var 2))))) dss_nil) (dss_one (ds_ret de_non)))),?_⟩
 intro ts n R hl hh
 obtain ⟨bits,bs,a,rfl,b1,P,hl6,hh,hn⟩:=hh
 repeat' (first | with_reducible refine c_ended_by b1 P hl6 (fun k k0 k1 k2=>?_) | walk_at "K")
 ·rw [pD_len] at hc
  have hm:k < bs.length:=by lia
  obtain ⟨b,eb⟩:∃ b,bs[k]? = some b:=⟨_,List.getElem?_eq_getElem hm⟩
  refine j_ixE (k:=k) rfl (pD_at eb) ?_
  repeat' walk_at "K"
  ·refine j_ixE (k:=k) rfl (pD_at eb) ?_
   exact hh b (List.mem_of_getElem? eb) (by assumption) (k2 k b (Nat.le_refl _) eb)
  ·have hx:¬ b.1 <= a:=hc
   refine hn fun x hm' ⟨x0,x1⟩=>?_
   obtain ⟨j,ej,rfl⟩:=List.getElem_of_mem hm'
   have ej':=List.getElem?_eq_getElem ej
   by_cases z:j < k
   ·have:=k1 j _ z ej'; lia
   ·by_cases y:j = k
    ·subst y; rw [ej'] at eb; cases eb; exact hx x0
    ·obtain ⟨l1,rfl⟩:=List.getElem?_eq_some_iff.mp eb
     have:=List.pairwise_iff_getElem.mp P.2 k j l1 ej (by lia)
     have:=eB_pos bs[k]
     exact hx (by lia)
 ·rw [pD_len] at hc
  refine hn fun x hm' ⟨x0,x1⟩=>?_
  obtain ⟨j,ej,rfl⟩:=List.getElem_of_mem hm'
  have:=k1 j _ (by lia) (List.getElem?_eq_getElem ej)
  lia
theorem sc_all_blocks:FnScope ["pairs"] ["pairs"] (defScope (top 16)):=⟨rfl,rfl,rfl,by decide +kernel,rfl,by decide +kernel,by decide +kernel⟩
def g_all_blocks:GD:=fun ts n R=>∃ xs:List (PyData × PyData),ts = [.tuple (ppD xs)] /\ xs.length <= 1000000 /\ R (.tuple (xs.map (·.1))) n
theorem c_all_blocks {xs:List (PyData × PyData)} {n:Nat} {R:PyData -> Nat -> Prop} (l:xs.length <= 1000000) (h:R (.tuple (xs.map (·.1))) n):g_all_blocks [.tuple (ppD xs)] n R:=⟨xs,rfl,l,h⟩
theorem ok_all_blocks {f:Addr} {fd:FuncData} (D:Def K mg "all_blocks" (top 16) ["pairs"] f fd) (T:Txt mg):FnOk P w K mg base CX0 1 f fd ["pairs"] (spD K 1 g_all_blocks):=by
 refine D.okD sc_all_blocks rfl fun cdv A outer s H E hr=>?_
 refine' ⟨_,(dss_one (ds_ret (de_cT call_tuple_of gp_tuple T.tup boot_tupleT (dbl_cons (dl (de_new (dn_comp (own:=["block","name"]) (capt:=[]) rfl (CompScope.of rfl) (dil (di_tup (de_var 0))) (fun _ _ _ _=>(dg_tup rfl (dgs_cons (dg_name (i:=0) (by show (["block","name"]:List Str).Nodup; decide +kernel) rfl (Or.inl rfl)) (dgs_cons (dg_name (i:=1) (by show (["block","name"]:List Str).Nodup; decide +kernel) rfl (Or.inl rfl)) dgs_nil)))) (by decide) (fun _ _ _ _=>dts_nil) (fun _ _ _ _=>(de_var 0))))) dbl_nil st_comp)))),?_⟩
 intro ts n R hl h
 obtain ⟨xs,rfl,l,h⟩:=h
 repeat' walk_at "K"
 refine comp_pure (cs:=xs) (D:=fun p=>.tuple [p.1,p.2]) (fun p=>p.1) (by lia) ?_ ?_
 ·intro p hp K2 X2 hK2
  repeat' walk_at "K"
  exact hK2
 ·repeat' walk_at "K"
  exact h
theorem sc_kept_from:FnScope ["deal","name"] ["deal","name"] (defScope (top 17)):=⟨rfl,rfl,rfl,by decide +kernel,rfl,by decide +kernel,by decide +kernel⟩
def g_kept_from:GD:=fun ts n R=>∃ (d:Deal) (nm:PyData),ts = [dlD d,nm] /\ IsWho nm /\ (∀ p ∈ d.2.2,IsNm p.2) /\ d.2.2.length <= 1000000 /\ R (.tuple (pD (keptOf d nm))) n
theorem c_kept_from {d:Deal} {nm:PyData} {n:Nat} {R:PyData -> Nat -> Prop} (hw:IsWho nm) (hn:∀ p ∈ d.2.2,IsNm p.2) (l:d.2.2.length <= 1000000) (h:R (.tuple (pD (keptOf d nm))) n):g_kept_from [dlD d,nm] n R:=⟨d,nm,rfl,hw,hn,l,h⟩
theorem ok_kept_from {f:Addr} {fd:FuncData} (D:Def K mg "kept_from" (top 17) ["deal","name"] f fd) (T:Txt mg):FnOk P w K mg base CX0 1 f fd ["deal","name"] (spD K 2 g_kept_from):=by
 refine D.okD sc_kept_from rfl fun cdv A outer s H E hr=>?_
 refine' ⟨_,(dss_one (ds_ret (de_cT call_tuple_of gp_tuple T.tup boot_tupleT (dbl_cons (dl (de_new (dn_comp (own:=["block","theirs"]) (capt:=[1]) rfl (CompScope.of rfl) (dil (di_tup (de_ix (dl (de_var 0)) (dl de_int)))) (fun _ _ _ _=>(dg_tup rfl (dgs_cons (dg_name (i:=0) (by show (["block","theirs","name"]:List Str).Nodup; decide +kernel) rfl (Or.inl rfl)) (dgs_cons (dg_name (i:=1) (by show (["block","theirs","name"]:List Str).Nodup; decide +kernel) rfl (Or.inl rfl)) dgs_nil)))) (by decide) (fun _ _ _ _=>(dts_one (dt_cmp (op_neA hr) gp_ne (dl (de_var 1)) (dl (de_var 2)) (nomark _)))) (fun _ _ _ _=>(de_var 0))))) dbl_nil st_comp)))),?_⟩
 intro ts n R hl h
 obtain ⟨d,nm,rfl,hw,hn,l,h⟩:=h
 obtain ⟨bits,os,ks⟩:=d
 have l:ks.length <= 1000000:=l
 have hn:∀ p ∈ ks,IsNm p.2:=hn
 rw [show dlD (bits,os,ks) = .tuple [.int bits,.tuple (oD os),.tuple (oD ks)] from rfl]
 repeat' walk_at "K"
 refine comp_filter (cs:=ks) (D:=fun p=>.tuple [prD p.1,.str p.2]) (fun p=>!who p.2 nm) (fun p=>prD p.1) (by lia) ?_ ?_
 ·intro p hp K2 X2 hK2 hX2
  rcases hw with rfl | ⟨s,rfl,ns⟩
  ·repeat' walk_at "K"
   ·exact (nm_ok (hn p hp)).okd
   ·exact hK2 rfl
  ·repeat' walk_at "K"
   ·exact hX2 (by show (!decide (p.2 = s)) = false; rw [decide_eq_true hc]; rfl)
   ·exact hK2 (by show (!decide (p.2 = s)) = true; rw [decide_eq_false hc]; rfl)
 ·repeat' walk_at "K"
  have:((ks.filter fun p=>!who p.2 nm).map fun p=>prD p.1) = pD (keptOf (bits,os,ks) nm):=by
   unfold pD keptOf
   rw [List.map_map]; rfl
  rw [this]; exact h
theorem sc_free_for:FnScope ["deal","name","bits","outs","kept"] ["deal","name"] (defScope (top 14)):=⟨rfl,rfl,rfl,by decide +kernel,rfl,by decide +kernel,by decide +kernel⟩
def Free (d:Deal) (nm:PyData) (x:Int):Prop:=0 <= x /\ x < 2 ^ d.1.toNat /\ ¬ mB x (d.2.1.map (·.1)) /\ ¬ mB x (keptOf d nm)
theorem keptOf_sub {d:Deal} {nm:PyData}:∀ b ∈ keptOf d nm,b ∈ d.2.2.map (·.1):=fun b hb=>by
 obtain ⟨p,hp,rfl⟩:=List.mem_map.mp hb
 exact List.mem_map.mpr ⟨p,(List.mem_filter.mp hp).1,rfl⟩
theorem keptOf_len {d:Deal} {nm:PyData}:(keptOf d nm).length <= d.2.2.length:=by
 unfold keptOf
 rw [List.length_map]
 exact List.length_filter_le _ _
def g_free_for:GD:=fun ts n R=>∃ (d:Deal) (nm:PyData),ts = [dlD d,nm] /\ Dl d /\ IsWho nm /\ d.2.1.length + d.2.2.length < 64 /\ ∀ qs,CanP (Free d nm) qs -> qs.length <= 10000 -> R (.tuple (pD qs)) n
theorem c_free_for {d:Deal} {nm:PyData} {n:Nat} {R:PyData -> Nat -> Prop} (D:Dl d) (hw:IsWho nm) (l:d.2.1.length + d.2.2.length < 64) (h:∀ qs,CanP (Free d nm) qs -> qs.length <= 10000 -> R (.tuple (pD qs)) n):g_free_for [dlD d,nm] n R:=⟨d,nm,rfl,D,hw,l,h⟩
theorem ok_free_for {f:Addr} {fd:FuncData} {f_rest_of:Addr} {fd_rest_of:FuncData} {f_fewest:Addr} {fd_fewest:FuncData} {f_all_blocks:Addr} {fd_all_blocks:FuncData} {f_kept_from:Addr} {fd_kept_from:FuncData} (D:Def K mg "free_for" (top 14) ["deal","name"] f fd)
  (D_rest_of:Def K mg "rest_of" (top 5) ["bits","patch"] f_rest_of fd_rest_of) (G_rest_of:FnOk P w K mg base CX0 5 f_rest_of fd_rest_of ["bits","patch"] (spD K 2 g_rest_of))
  (D_fewest:Def K mg "fewest" (top 3) ["blocks"] f_fewest fd_fewest) (G_fewest:FnOk P w K mg base CX0 5 f_fewest fd_fewest ["blocks"] (spD K 1 g_fewest))
  (D_all_blocks:Def K mg "all_blocks" (top 16) ["pairs"] f_all_blocks fd_all_blocks) (G_all_blocks:FnOk P w K mg base CX0 1 f_all_blocks fd_all_blocks ["pairs"] (spD K 1 g_all_blocks))
  (D_kept_from:Def K mg "kept_from" (top 17) ["deal","name"] f_kept_from fd_kept_from) (G_kept_from:FnOk P w K mg base CX0 1 f_kept_from fd_kept_from ["deal","name"] (spD K 2 g_kept_from)) (T:Txt mg):FnOk P w K mg base CX0 6 f fd ["deal","name"] (spD K 2 g_free_for):=by
 refine D.okD sc_free_for rfl fun cdv A outer s H E hr=>?_
 refine' ⟨_,(dss_cons (ds_asg (de_var 0) (dg_tup rfl (dgs_cons (dg_name (i:=2) sc_free_for.nd rfl (Or.inl rfl)) (dgs_cons (dg_name (i:=3) sc_free_for.nd rfl (Or.inl rfl)) (dgs_cons (dg_name (i:=4) sc_free_for.nd rfl (Or.inl rfl)) dgs_nil))))) (dss_one (ds_ret (de_fn D_rest_of G_rest_of (hr.mono (by decide:5 <= 5)) (db_cons (de_var 2) (db_cons (de_fn D_fewest G_fewest (hr.mono (by decide:5 <= 5)) (db_cons (de_add (dl (de_fn D_all_blocks G_all_blocks (hr.mono (by decide:1 <= 5)) (db_cons (de_var 3) db_nil st_name))) (dl (de_fn D_kept_from G_kept_from (hr.mono (by decide:1 <= 5)) (db_cons (de_var 0) (db_cons (de_var 1) db_nil st_name) st_name)))) db_nil st_bin)) db_nil st_call) st_name))))),?_⟩
 intro ts n R hl h
 obtain ⟨d,nm,rfl,D,hw,l,h⟩:=h
 obtain ⟨bits,os,ks⟩:=d
 obtain ⟨b0,b1,S1,S2,ag⟩:=D
 have b0:1 <= bits:=b0
 have b1:bits <= 64:=b1
 have S1:Shr bits os:=S1
 have S2:Shr bits ks:=S2
 have l:os.length + ks.length < 64:=l
 have lk:=keptOf_len (d:=(bits,os,ks)) (nm:=nm)
 have lk:(keptOf (bits,os,ks) nm).length <= ks.length:=lk
 have eo:(os.map fun p=>(prD p.1,PyData.str p.2)).map (·.1) = pD (os.map (·.1)):=by simp [pD]
 have B:Bks bits (os.map (·.1) ++ keptOf (bits,os,ks) nm):=fun b hb=>by
  rcases List.mem_append.mp hb with z | z
  ·exact S1.1.1 b z
  ·exact S2.1.1 b (keptOf_sub b z)
 rw [show dlD (bits,os,ks) = .tuple [.int bits,.tuple (oD os),.tuple (oD ks)] from rfl]
 have kf:∀ {n:Nat} {R:PyData -> Nat -> Prop},R (.tuple (pD (keptOf (bits,os,ks) nm))) n -> g_kept_from [.tuple [.int bits,.tuple (oD os),.tuple (oD ks)],nm] n R:=fun {n R} z=>c_kept_from (d:=(bits,os,ks)) hw (fun p hp=>S2.2 p hp) (by show ks.length <= _; lia) z
 have ab:∀ {n:Nat} {R:PyData -> Nat -> Prop},R (.tuple (pD (os.map (·.1)))) n -> g_all_blocks [.tuple (oD os)] n R:=fun {n R} z=>by
  rw [oD_pp]
  exact c_all_blocks (by simp; lia) (by rw [eo]; exact z)
 repeat' (first | with_reducible refine kf ?_ | with_reducible refine ab ?_ | walk_at "K")
 ·rw [pD_len,pD_len,List.length_map]; lia
 rw [pD_app]
 repeat' (first | with_reducible refine c_fewest (.inr rfl) (by lia) b1 B ?_ (fun ps C lp=>?_) | walk_at "K")
 ·simp; lia
 have lp:ps.length < 64:=by rw [List.length_append,List.length_map] at lp; lia
 have Bp:=(C.ptc (bits:=bits) (by lia) fun x hx=>bks_in (by lia) B hx).1
 repeat' (first | with_reducible refine c_rest_of b0 b1 Bp (by lia) (fun qs Q lq=>?_) | walk_at "K")
 refine h qs ?_ (by lia)
 obtain ⟨rs,r1,r2,r3⟩:=Q
 refine ⟨rs,r1,fun x=>?_,r3⟩
 rw [r2]
 show (0 <= x /\ x < 2 ^ bits.toNat /\ ¬ mB x ps) ↔ Free (bits,os,ks) nm x
 rw [C.mem,mB_app]
 show _ ↔ 0 <= x /\ x < 2 ^ bits.toNat /\ ¬ mB x (os.map (·.1)) /\ ¬ mB x (keptOf (bits,os,ks) nm)
 constructor
 ·rintro ⟨a,b,c⟩; exact ⟨a,b,fun z=>c (.inl z),fun z=>c (.inr z)⟩
 ·rintro ⟨a,b,c,e⟩; exact ⟨a,b,fun z=>z.elim c e⟩
theorem sc_holder:FnScope ["deal","address","bits","outs","kept","word","pairs","block"] ["deal","address"] (defScope (top 15)):=⟨rfl,rfl,rfl,by decide +kernel,rfl,by decide +kernel,by decide +kernel⟩
def hT (w:Str) (nm:PyData) (b:Int × Int):PyData:=.tuple [.str w,nm,.tuple [.int b.1,.int b.2]]
def inB (a:Int) (b:Int × Int):Prop:=b.1 <= a /\ a < eB b
def HldS (d:Deal) (a:Int) (z:PyData):Prop :=
 (∃ p ∈ d.2.1,inB a p.1 /\ z = hT "out" (.str p.2) p.1) \/
 ((∀ p ∈ d.2.1,¬ inB a p.1) /\ ∃ p ∈ d.2.2,inB a p.1 /\ z = hT "kept" (.str p.2) p.1) \/
 ((∀ p ∈ d.2.1,¬ inB a p.1) /\ (∀ p ∈ d.2.2,¬ inB a p.1) /\ ∃ qs,CanP (Free d .none) qs /\ ∃ b ∈ qs,inB a b /\ z = hT "free" .none b)
def g_holder:GD:=fun ts n R=>∃ (d:Deal) (a:Int),ts = [dlD d,.int a] /\ Dl d /\ 0 <= a /\ a < 2 ^ d.1.toNat /\ d.2.1.length + d.2.2.length < 64 /\ ∀ z,HldS d a z -> R z n
theorem c_holder {d:Deal} {a:Int} {n:Nat} {R:PyData -> Nat -> Prop} (D:Dl d) (a0:0 <= a) (a1:a < 2 ^ d.1.toNat) (l:d.2.1.length + d.2.2.length < 64) (h:∀ z,HldS d a z -> R z n):g_holder [dlD d,.int a] n R:=⟨d,a,rfl,D,a0,a1,l,h⟩
theorem keptOf_none {d:Deal}:keptOf d .none = d.2.2.map (·.1):=by
 unfold keptOf
 congr 1
 rw [List.filter_eq_self]
 intro p _
 rfl
theorem free_none {d:Deal} {a:Int} (D:Dl d) (a0:0 <= a) (a1:a < 2 ^ d.1.toNat) (h1:∀ p ∈ d.2.1,¬ inB a p.1) (h2:∀ p ∈ d.2.2,¬ inB a p.1):Free d .none a:=by
 refine ⟨a0,a1,?_,?_⟩
 ·rintro ⟨b,hb,c1,c2⟩
  obtain ⟨p,hp,rfl⟩:=List.mem_map.mp hb
  exact h1 p hp ⟨c1,c2⟩
 ·rw [keptOf_none]
  rintro ⟨b,hb,c1,c2⟩
  obtain ⟨p,hp,rfl⟩:=List.mem_map.mp hb
  exact h2 p hp ⟨c1,c2⟩
theorem prs_oD:∀ (os:List ((Int × Int) × Str)),prsT (oD os) = some (os.map fun p=>([Sum.inl p.1.1,Sum.inl p.1.2],PyData.str p.2))
 | []=>rfl
 | ((i,h),s) :: os=>by
  have:=prs_oD os
  simp only [oD,List.map_cons] at this ⊢
  simp only [prsT,prD,tkD,ksD,keyD,this]
theorem oD_keys {bits:Int} {os:List ((Int × Int) × Str)} (S:Shr bits os):((os.map fun p=>(([Sum.inl p.1.1,Sum.inl p.1.2]:List Key),PyData.str p.2)).map (·.1)).Nodup:=by
 rw [List.map_map]
 have pw:=List.pairwise_map.mp S.1.2
 refine List.pairwise_map.mpr (pw.imp ?_)
 intro a b h e
 have e:([Sum.inl a.1.1,Sum.inl a.1.2]:List Key) = [Sum.inl b.1.1,Sum.inl b.1.2]:=e
 simp only [List.cons.injEq,Sum.inl.injEq,and_true] at e
 have:=eB_pos a.1
 lia
theorem ok_holder {f:Addr} {fd:FuncData} {f_block_with:Addr} {fd_block_with:FuncData} {f_all_blocks:Addr} {fd_all_blocks:FuncData} {f_free_for:Addr} {fd_free_for:FuncData} (D:Def K mg "holder" (top 15) ["deal","address"] f fd)
  (D_block_with:Def K mg "block_with" (top 6) ["patch","address"] f_block_with fd_block_with) (G_block_with:FnOk P w K mg base CX0 4 f_block_with fd_block_with ["patch","address"] (spD K 2 g_block_with))
  (D_all_blocks:Def K mg "all_blocks" (top 16) ["pairs"] f_all_blocks fd_all_blocks) (G_all_blocks:FnOk P w K mg base CX0 1 f_all_blocks fd_all_blocks ["pairs"] (spD K 1 g_all_blocks))
  (D_free_for:Def K mg "free_for" (top 14) ["deal","name"] f_free_for fd_free_for) (G_free_for:FnOk P w K mg base CX0 6 f_free_for fd_free_for ["deal","name"] (spD K 2 g_free_for)) (T:Txt mg):FnOk P w K mg base CX0 7 f fd ["deal","address"] (spD K 2 g_holder):=by
 refine D.okD sc_holder rfl fun cdv A outer s H E hr=>?_
 refine' ⟨_,(dss_cons (ds_asg (de_var 0) (dg_tup rfl (dgs_cons (dg_name (i:=2) sc_holder.nd rfl (Or.inl rfl)) (dgs_cons (dg_name (i:=3) sc_holder.nd rfl (Or.inl rfl)) (dgs_cons (dg_name (i:=4) sc_holder.nd rfl (Or.inl rfl)) dgs_nil))))) (dss_cons (ds_for PassesOwn.never rfl (di_tup (de_tup (db_cons (de_tup (db_cons de_str (db_cons (de_var 3) db_nil st_name) st_str)) (db_cons (de_tup (db_cons de_str (db_cons (de_var 4) db_nil st_name) st_str)) db_nil st_tuple) st_tuple))) (dg_tup rfl (dgs_cons (dg_name (i:=5) sc_holder.nd rfl (Or.inl rfl)) (dgs_cons (dg_name (i:=6) sc_holder.nd rfl (Or.inl rfl)) dgs_nil))) (dss_cons (ds_set (i:=7) sc_holder.nd rfl (Or.inl rfl) (de_fn D_block_with G_block_with (hr.mono (by decide:4 <= 6)) (db_cons (de_fn D_all_blocks G_all_blocks (hr.mono (by decide:1 <= 6)) (db_cons (de_var 6) db_nil st_name)) (db_cons (de_var 1) db_nil st_name) st_call))) (dss_one (ds_if (dt_cmp op_isnt gp_isnt (dl (de_var 7)) (dl de_non) (nomark _)) (dss_one (ds_ret (de_tup (db_cons (de_var 5) (db_cons (de_dictIx 7 rfl hr.units T.dct (de_var 6)) (db_cons (de_var 7) db_nil st_name) st_sub) st_name)))) dss_nil)))) (dss_one (ds_ret (de_tup (db_cons de_str (db_cons de_non (db_cons (de_fn D_block_with G_block_with (hr.mono (by decide:4 <= 6)) (db_cons (de_fn D_free_for G_free_for (hr.mono (by decide:6 <= 6)) (db_cons (de_var 0) (db_cons de_non db_nil st_none) st_name)) (db_cons (de_var 1) db_nil st_name) st_call)) db_nil st_call) st_none) st_str)))))),?_⟩
 intro ts n R hl h
 obtain ⟨d,a,rfl,D,a0,a1,l,h⟩:=h
 have fn:=fun h1 h2=>free_none (d:=d) (a:=a) D a0 a1 h1 h2
 have ff:∀ {n:Nat} {R:PyData -> Nat -> Prop},(∀ qs,CanP (Free d .none) qs -> qs.length <= 10000 -> R (.tuple (pD qs)) n) -> g_free_for [dlD d,.none] n R:=fun {n R} z=>c_free_for D (.inl rfl) l z
 obtain ⟨bits,os,ks⟩:=d
 obtain ⟨b0,b1,S1,S2,ag⟩:=D
 have b0:1 <= bits:=b0
 have b1:bits <= 64:=b1
 have S1:Shr bits os:=S1
 have S2:Shr bits ks:=S2
 have l:os.length + ks.length < 64:=l
 have ab:∀ {os:List ((Int × Int) × Str)} {n:Nat} {R:PyData -> Nat -> Prop},os.length < 64 -> R (.tuple (pD (os.map (·.1)))) n -> g_all_blocks [.tuple (oD os)] n R:=fun {os n R} l z=>by
  rw [oD_pp]
  have eo:(os.map fun p=>(prD p.1,PyData.str p.2)).map (·.1) = pD (os.map (·.1)):=by simp [pD]
  exact c_all_blocks (by simp; lia) (by rw [eo]; exact z)
 have P1:Ptc bits (os.map (·.1)):=S1.1
 have P2:Ptc bits (ks.map (·.1)):=S2.1
 have lm1:(os.map (·.1)).length < 1000000:=by rw [List.length_map]; lia
 have lm2:(ks.map (·.1)).length < 1000000:=by rw [List.length_map]; lia
 rw [show dlD (bits,os,ks) = .tuple [.int bits,.tuple (oD os),.tuple (oD ks)] from rfl] at *
 repeat' walk_at "K"
 refine for_m3 5 6 7 (fun k _ _ _ m=>m = n /\ (1 <= k -> ∀ p ∈ os,¬ inB a p.1) /\ (2 <= k -> ∀ p ∈ ks,¬ inB a p.1)) ⟨rfl,fun z=>by lia,fun z=>by lia⟩ ?_ ?_
 ·rintro k t a5 a6 a7 m K RT BK et ⟨rfl,i0,i1⟩ hK hRT hBK
  have cs:(k = 0 /\ t = .tuple [.str "out",.tuple (oD os)]) \/ (k = 1 /\ t = .tuple [.str "kept",.tuple (oD ks)]):=by
   rcases k with _ | _ | k
   ·exact .inl ⟨rfl,by simpa using et.symm⟩
   ·exact .inr ⟨rfl,by simpa using et.symm⟩
   ·simp at et
  rcases cs with ⟨rfl,rfl⟩ | ⟨rfl,rfl⟩
  ·repeat' (first | with_reducible refine ab (by lia) ?_ | with_reducible refine c_block_with b1 P1 lm1 (fun b hb x0 x1=>?_) (fun hn=>?_) | walk_at "K")
   all_goals first | (exfalso; revert hc; simp [isNone]; done) | skip
   ·obtain ⟨p,hp,rfl⟩:=List.mem_map.mp hb
    refine ⟨_,_,.str p.2,prs_oD os,rfl,oD_keys S1,List.mem_map.mpr ⟨p,hp,rfl⟩,?_⟩
    repeat' walk_at "K"
    exact hRT _ _ (h _ (.inl ⟨p,hp,⟨x0,x1⟩,rfl⟩))
   exact hK _ _ _ _ ⟨rfl,fun _ p hp z=>hn p.1 (List.mem_map.mpr ⟨p,hp,rfl⟩) z,fun z=>by lia⟩
  ·repeat' (first | with_reducible refine ab (by lia) ?_ | with_reducible refine c_block_with b1 P2 lm2 (fun b hb x0 x1=>?_) (fun hn=>?_) | walk_at "K")
   all_goals first | (exfalso; revert hc; simp [isNone]; done) | skip
   ·obtain ⟨p,hp,rfl⟩:=List.mem_map.mp hb
    refine ⟨_,_,.str p.2,prs_oD ks,rfl,oD_keys S2,List.mem_map.mpr ⟨p,hp,rfl⟩,?_⟩
    repeat' walk_at "K"
    exact hRT _ _ (h _ (.inr (.inl ⟨i0 (by lia),p,hp,⟨x0,x1⟩,rfl⟩)))
   exact hK _ _ _ _ ⟨rfl,fun _=>i0 (by lia),fun _ p hp z=>hn p.1 (List.mem_map.mpr ⟨p,hp,rfl⟩) z⟩
 ·rintro a5 a6 a7 m ⟨rfl,i0,i1⟩
  have F:=fn (i0 (by simp)) (i1 (by simp))
  repeat' (first | with_reducible refine ff (fun qs C lq=>?_) | walk_at "K")
  have Pq:=C.ptc (bits:=bits) (by lia) fun x hx=>⟨hx.1,hx.2.1⟩
  refine c_block_with b1 Pq (by lia) (fun b hb x0 x1=>?_) (fun hn=>?_)
  ·repeat' walk_at "K"
   exact h _ (.inr (.inr ⟨i0 (by simp),i1 (by simp),qs,C,b,hb,⟨x0,x1⟩,rfl⟩))
  ·obtain ⟨b,hb,c1,c2⟩:=(C.mem a).mpr F
   exact absurd ⟨c1,c2⟩ (hn b hb)
theorem scH:FnScope ["_law_script","_law_k","_law_cell"] ["_law_script","_law_k"] (defScope (top 19)):=⟨rfl,rfl,rfl,by decide +kernel,rfl,by decide +kernel,by decide +kernel⟩
theorem ok__law_hand {f:Addr} {fd:FuncData} (D:Def K mg "_law_hand" (top 19) ["_law_script","_law_k"] f fd) (T:Txt mg):FnOk P w K mg base CX0 1 f fd ["_law_script","_law_k"] (spHand K):=by
 refine D.F.ok scH (fun vs H Q E h=>?_) (fun cdv A outer s H vs Q E hr h=>?_)
 ·obtain ⟨a,ns,k,rfl,_⟩:=h
  rfl
 ·obtain ⟨a,ns,k,rfl,hS,hl,k0,k1,q⟩:=h
  refine ⟨_,pss_cons (ps_set (i:=2) scH.nd rfl (Or.inl rfl) pe_int)
   (pss_cons (ps_if (pt_cmpR op_lt (pv 1) (pe_cB call_len_seq T.len boot_lenB (pb_v 0 pb_nil)) (nomark _)) (pss_one (ps_set (i:=2) scH.nd rfl (Or.inl rfl) (pe_ix ix_list (pv 0) (pv 1) (fun _ _=>rfl)))) pss_nil)
   (pss_one (ps_ret (pe_lstB (pb_bin (pe_op op_mul (pv 2) (pe_cT call_int1 T.int boot_int (pb_cmp (pe_cmpR op_ge (pv 2) (pe_op op_pow pe_int pe_int) (nomark _)) pb_nil)))
    (pb_bin (pe_op op_add (pe_op op_add (pe_op op_mod (pv 2) pe_int) (pe_op op_mul pe_int (pv 1))) pe_int) (pb_i pb_nil))))))),?_⟩
  refine ⟨_,rfl,_,rfl,a,_,rfl,.inl hS,_,_,rfl,rfl,_,rfl,?_⟩
  have fin:∀ c:Int,tRet (tLst (tCons (tOp (rI CMul fun i j=>V.int (i * j)) (tVar 2) (tCB (fun xs H Q=>(∃ i,xs = [.int i] /\ Q (.int i) H) \/ ∃ k,xs = [.bl k] /\ Q (.int (if k then 1 else 0)) H) (tCons (tOp (rI0 fun i j=>.bl (decide (j <= i))) (tVar 2) (tOp (rI CPow fun i j=>.int (i ^ j.toNat)) (tC (.int 10)) (tC (.int 18)))) tNil)))
    (tCons (tOp (rI0 fun i j=>.int (i + j)) (tOp (rI0 fun i j=>.int (i + j)) (tOp (rI (fun _ j=>0 < j) fun i j=>.int (i % j)) (tVar 2) (tC (.int 2305843009213693951))) (tOp (rI CMul fun i j=>V.int (i * j)) (tC (.int 7919)) (tVar 1))) (tC (.int 3))) (tCons (tC (.int 0)) tNil))))
    { nx:=fun _ H'=>Q .non H',rt:=Q } [some (.ref a),some (.int k),some (.int c)] H:=by
   intro c
   refine ⟨_,rfl,_,rfl,_,_,rfl,rfl,⟨by decide,by decide,by decide⟩,_,_,rfl,rfl,.inr ⟨_,rfl,_,_,rfl,rfl,.inr ?_,?_⟩⟩
   ·split <;> decide
   ·refine ⟨_,rfl,_,_,rfl,rfl,(by show (0:Int) < 2305843009213693951; decide),_,rfl,_,_,rfl,rfl,.inl ⟨by decide,by decide⟩,_,_,rfl,rfl,_,_,rfl,rfl,(by show 3 <= sizeLine; decide),fun l hn=>?_⟩
    refine q l _ hn ⟨_,_,_,upd_same,?_,?_,Int.le_refl _,Int.le_refl _⟩ (same_new hn)
    ·lia
    ·lia
  refine ite2D (fun c=>?_) (fun c=>?_)
  ·have hk:k.toNat < ns.length:=by rw [List.length_map] at c; lia
   refine ⟨_,rfl,_,rfl,a,_,_,V.int (ns[k.toNat]),rfl,rfl,hS,?_,?_⟩
   ·exact atI_int k0 (by rw [List.getElem?_map,List.getElem?_eq_getElem hk]; rfl)
   ·exact fin _
  ·exact fin 0
theorem sameX_upd {H:Hp} {hd:Addr} {o:HO}:SameX hd H (upd H hd o):=fun b u e n=>by rw [upd_ne n]; exact e
theorem scT:FnScope ["_law_hand_here","_law_many","_law_digit","_law_turn","_law_mixed","_law_other"] ["_law_hand_here","_law_many"] (defScope (top 20)):=⟨rfl,rfl,rfl,by decide +kernel,rfl,by decide +kernel,by decide +kernel⟩
theorem ok_takeH {f:Addr} {fd:FuncData} (D:Def K mg "_law_take" (top 20) ["_law_hand_here","_law_many"] f fd) (T:Txt mg):FnOk P w K mg base CX0 1 f fd ["_law_hand_here","_law_many"] spTake:=by
 refine D.F.ok scT (fun vs H Q E h=>?_) (fun cdv A outer s H vs Q E hr h=>?_)
 ·obtain ⟨hd,many,n,rfl,_⟩:=h
  rfl
 ·obtain ⟨hd,many,n,rfl,⟨d,m,t,hh,m0,m1,t0,t1⟩,hn,y0,y1,q⟩:=h
  refine ⟨_,pss_cons (ps_if (pt_cmpR op_gt (pe_ix ix_list (pv 0) pe_int (fun _ _=>rfl)) pe_int (nomark _))
    (pss_cons (ps_set (i:=2) scT.nd rfl (Or.inl rfl) (pe_op op_mod (pe_ix ix_list (pv 0) pe_int (fun _ _=>rfl)) (pv 1)))
    (pss_cons (ps_asg (pe_op op_fdivB (pe_ix ix_list (pv 0) pe_int (fun _ _=>rfl)) (pv 1)) (pg_sub (pv 0) pe_int set_list))
    (pss_one (ps_ret (pv 2))))) pss_nil)
   (pss_cons (ps_asg (pe_op op_add (pe_ix ix_list (pv 0) pe_int (fun _ _=>rfl)) pe_int) (pg_sub (pv 0) pe_int set_list))
   (pss_cons (ps_set (i:=3) scT.nd rfl (Or.inl rfl) (pe_ix ix_list (pv 0) pe_int (fun _ _=>rfl)))
   (pss_cons (ps_set (i:=4) scT.nd rfl (Or.inl rfl) (pe_op op_mod (pe_op op_mul (pe_ix ix_list (pv 0) pe_int (fun _ _=>rfl)) (pe_op op_add (pe_op op_add pe_int (pe_op op_mul (pe_op op_mul pe_int (pv 3)) (pv 3))) (pe_op op_mul pe_int (pv 3)))) pe_int))
   (pss_cons (ps_set (i:=5) scT.nd rfl (Or.inl rfl) (pe_op op_add (pe_op op_add (pe_op op_mod (pv 4) pe_int) (pe_op op_mul (pv 3) pe_int)) pe_int))
   (pss_cons (ps_set (i:=4) scT.nd rfl (Or.inl rfl) (pe_op op_mod (pe_op op_mul (pv 4) (pv 5)) pe_int))
   (pss_one (ps_ret (pe_op op_mod (pe_op op_add (pe_op op_fdivB (pv 4) pe_int) (pe_op op_fdivB (pv 4) pe_int)) (pv 1))))))))),?_⟩
  refine ⟨_,rfl,hd,_,_,_,rfl,rfl,.of hh,rfl,_,_,rfl,rfl,_,rfl,?_⟩
  refine ite2D (fun c=>?_) (fun c=>?_)
  ·refine ⟨_,rfl,hd,_,_,_,rfl,rfl,.of hh,rfl,_,rfl,_,_,rfl,rfl,y0,?_⟩
   refine ⟨_,rfl,hd,_,_,_,rfl,rfl,.of hh,rfl,_,rfl,_,_,rfl,rfl,⟨y0,y1⟩,?_⟩
   refine ⟨_,rfl,hd,_,_,0,rfl,rfl,hh,rfl,?_⟩
   refine ⟨_,rfl,?_⟩
   exact q _ _ (Int.emod_nonneg _ (by lia)) (Int.emod_lt_of_pos _ y0) ⟨_,_,_,upd_same,m0,m1,t0,by lia⟩ sameX_upd
  ·refine ⟨_,rfl,hd,_,_,_,rfl,rfl,.of hh,rfl,_,_,rfl,rfl,?_⟩
   refine ⟨_,rfl,hd,_,_,2,rfl,rfl,hh,rfl,?_⟩
   refine ⟨_,rfl,hd,_,_,_,rfl,rfl,.of upd_same,rfl,?_⟩
   refine ⟨_,rfl,hd,_,_,_,rfl,rfl,.of upd_same,rfl,_,rfl,_,_,rfl,rfl,.inl ⟨by decide,by decide⟩,_,rfl,_,_,rfl,rfl,.inr ⟨by lia,by lia⟩,_,_,rfl,rfl,_,rfl,_,_,rfl,rfl,.inl ⟨by decide,by decide⟩,_,_,rfl,rfl,_,_,rfl,rfl,.inl ⟨by lia,by lia⟩,_,_,rfl,rfl,(by show (0:Int) < 2305843009213693921; decide),?_⟩
   refine ⟨_,rfl,_,_,rfl,rfl,(by show (0:Int) < 1000003; decide),_,rfl,_,_,rfl,rfl,.inr ⟨by decide,by decide⟩,_,_,rfl,rfl,_,_,rfl,rfl,?_⟩
   refine ⟨_,rfl,_,rfl,_,_,rfl,rfl,.inl ⟨by lia,by lia⟩,_,_,rfl,rfl,(by show (0:Int) < 2305843009213693907; decide),?_⟩
   refine ⟨_,rfl,_,_,rfl,rfl,⟨by decide,by decide⟩,_,rfl,_,_,rfl,rfl,⟨by decide,by decide⟩,_,_,rfl,rfl,_,rfl,_,_,rfl,rfl,y0,?_⟩
   exact q _ _ (Int.emod_nonneg _ (by lia)) (Int.emod_lt_of_pos _ y0) ⟨_,_,_,upd_same,m0,m1,by lia,by lia⟩ sameX_upd
theorem ok__law_take {f:Addr} {fd:FuncData} (D:Def K mg "_law_take" (top 20) ["_law_hand_here","_law_many"] f fd) (T:Txt mg):FnOk P w K mg base CX0 1 f fd ["_law_hand_here","_law_many"] (spD K 2 g_take) :=
 (ok_takeH D T).imp take_imp
theorem sc__law_pick:FnScope ["_law_hand_here","_law_some"] ["_law_hand_here","_law_some"] (defScope (top 21)):=⟨rfl,rfl,rfl,by decide +kernel,rfl,by decide +kernel,by decide +kernel⟩
def g__law_pick:GD:=fun ts n R=>match ts with
 | [h,.list xs]=>h = HAND /\ xs ≠ [] /\ xs.length <= 1000000 /\ n <= 1000000000000 /\ ∀ x ∈ xs,R x (n + 1)
 | _=>False
theorem c__law_pick {xs:List PyData} {n:Nat} {R:PyData -> Nat -> Prop} (h0:xs ≠ []) (h1:xs.length <= 1000000) (hn:n <= 1000000000000) (h:∀ x ∈ xs,R x (n + 1)):g__law_pick [HAND,.list xs] n R:=⟨rfl,h0,h1,hn,h⟩
theorem ok__law_pick {f:Addr} {fd:FuncData} {f__law_take:Addr} {fd__law_take:FuncData} (D:Def K mg "_law_pick" (top 21) ["_law_hand_here","_law_some"] f fd)
  (D__law_take:Def K mg "_law_take" (top 20) ["_law_hand_here","_law_many"] f__law_take fd__law_take) (G__law_take:FnOk P w K mg base CX0 1 f__law_take fd__law_take ["_law_hand_here","_law_many"] (spD K 2 g_take)) (T:Txt mg):FnOk P w K mg base CX0 2 f fd ["_law_hand_here","_law_some"] (spD K 2 g__law_pick):=by
 refine D.okD sc__law_pick rfl fun cdv A outer s H E hr=>?_
 refine' ⟨_,(dss_one (ds_ret (de_ix (dl (de_var 1)) (dl (de_fn D__law_take G__law_take (hr.mono (by decide:1 <= 1)) (db_cons (de_var 0) (db_cons (de_cB call_len gp_len T.len boot_lenB (dbl_cons (dl (de_var 1)) dbl_nil st_name)) db_nil st_call) st_name)))))),?_⟩
 intro ts n R hl h
 unfold g__law_pick at h
 split at h
 ·rename_i hd xs
  obtain ⟨rfl,h0,h1,h2,h⟩:=h
  have hp:0 < xs.length:=List.length_pos_iff.mpr h0
  simp only [u_sSeq,u_sRet,u_sSet,u_dC,u_dOp,u_dNew,u_dTup,u_dNil,u_dCons,u_dFn,u_dCallB,u_dVar,l_cVal,u_dTest,u_dCat,u_dItL,u_dItT,u_dRng1,u_dNeg,u_dChain,u_put,oSub,oMul,oMod,oFdiv,oShl,oXor,oAnd,isNone,l_gI,l_gI0,l_addI,l_addS,l_addT,l_eqI,l_eqL,l_neS,l_neL,l_isntN,l_ltI,l_leI,l_ixT0,l_ixT1,l_ixT2,l_ixL0,l_ixL1,l_truB,l_truL,l_bol,l_lenL,l_lenT,l_lenS,l_lenSCR,l_min,l_max,l_intB,l_tupleL,l_repr,l_items,startE,compEn,capV,List.map_cons,List.map_nil,List.length_cons,List.length_nil,List.replicate_succ,List.replicate_zero,List.cons_append,List.nil_append,List.append_nil,List.getElem?_cons_succ,List.getElem?_cons_zero,List.set_cons_succ,List.set_cons_zero,List.getD_cons_succ,List.getD_cons_zero,Nat.zero_add,Nat.reduceAdd,Nat.reduceSub,Nat.sub_self,true_and,and_true,Bool.false_eq_true,if_true,if_false,ite_true,ite_false,Bool.not_true,Bool.not_false,Int.natCast_zero,g_take]
  refine ⟨by lia,by lia,h2,fun r r0 r1=>?_⟩
  have hr':r.toNat < xs.length:=by lia
  rw [l_ixL (atI_int r0 (List.getElem?_eq_getElem hr'))]
  exact h _ (List.getElem_mem hr')
 ·exact h.elim
theorem sc__law_bits:FnScope ["_law_hand_here"] ["_law_hand_here"] (defScope (top 22)):=⟨rfl,rfl,rfl,by decide +kernel,rfl,by decide +kernel,by decide +kernel⟩
def g__law_bits:GD:=fun ts n R=>match ts with
 | [h]=>h = HAND /\ n <= 1000000000000 /\ ∀ b:Int,1 <= b -> b <= 64 -> R (.int b) (n + 1)
 | _=>False
theorem c__law_bits {n:Nat} {R:PyData -> Nat -> Prop} (hn:n <= 1000000000000) (h:∀ b:Int,1 <= b -> b <= 64 -> R (.int b) (n + 1)):g__law_bits [HAND] n R:=⟨rfl,hn,h⟩
theorem ok__law_bits {f:Addr} {fd:FuncData} {f__law_pick:Addr} {fd__law_pick:FuncData} (D:Def K mg "_law_bits" (top 22) ["_law_hand_here"] f fd)
  (D__law_pick:Def K mg "_law_pick" (top 21) ["_law_hand_here","_law_some"] f__law_pick fd__law_pick) (G__law_pick:FnOk P w K mg base CX0 2 f__law_pick fd__law_pick ["_law_hand_here","_law_some"] (spD K 2 g__law_pick)) (T:Txt mg):FnOk P w K mg base CX0 3 f fd ["_law_hand_here"] (spD K 1 g__law_bits):=by
 refine D.okD sc__law_bits rfl fun cdv A outer s H E hr=>?_
 refine' ⟨_,(dss_one (ds_ret (de_fn D__law_pick G__law_pick (hr.mono (by decide:2 <= 2)) (db_cons (de_var 0) (db_cons (de_new (dn_lst (db_cons de_int (db_cons de_int (db_cons de_int (db_cons de_int (db_cons de_int (db_cons de_int (db_cons de_int (db_cons de_int (db_cons de_int (db_cons de_int db_nil st_int) st_int) st_int) st_int) st_int) st_int) st_int) st_int) st_int) st_int))) db_nil st_list) st_name)))),?_⟩
 intro ts n R hl h
 unfold g__law_bits at h
 split at h
 ·obtain ⟨rfl,h1,h⟩:=h
  simp only [u_sSeq,u_sRet,u_sSet,u_dC,u_dOp,u_dNew,u_dTup,u_dNil,u_dCons,u_dFn,u_dCallB,u_dVar,l_cVal,u_dTest,u_dCat,u_dItL,u_dItT,u_dRng1,u_dNeg,u_dChain,u_put,oSub,oMul,oMod,oFdiv,oShl,oXor,oAnd,isNone,l_gI,l_gI0,l_addI,l_addS,l_addT,l_eqI,l_eqL,l_neS,l_neL,l_isntN,l_ltI,l_leI,l_ixT0,l_ixT1,l_ixT2,l_ixL0,l_ixL1,l_truB,l_truL,l_bol,l_lenL,l_lenT,l_lenS,l_lenSCR,l_min,l_max,l_intB,l_tupleL,l_repr,l_items,startE,compEn,capV,List.map_cons,List.map_nil,List.length_cons,List.length_nil,List.replicate_succ,List.replicate_zero,List.cons_append,List.nil_append,List.append_nil,List.getElem?_cons_succ,List.getElem?_cons_zero,List.set_cons_succ,List.set_cons_zero,List.getD_cons_succ,List.getD_cons_zero,Nat.zero_add,Nat.reduceAdd,Nat.reduceSub,Nat.sub_self,true_and,and_true,Bool.false_eq_true,if_true,if_false,ite_true,ite_false,Bool.not_true,Bool.not_false,Int.natCast_zero,g__law_pick]
  refine ⟨by simp,by decide,h1,fun x hx=>?_⟩
  simp only [List.mem_cons,List.not_mem_nil,or_false] at hx
  rcases hx with rfl | rfl | rfl | rfl | rfl | rfl | rfl | rfl | rfl | rfl <;> exact h _ (by decide) (by decide)
 ·exact h.elim
theorem sc__law_block:FnScope ["_law_hand_here","_law_bits_here","_law_height"] ["_law_hand_here","_law_bits_here"] (defScope (top 23)):=⟨rfl,rfl,rfl,by decide +kernel,rfl,by decide +kernel,by decide +kernel⟩
def g__law_block:GD:=fun ts n R=>match ts with
 | [h,.int bits]=>h = HAND /\ 1 <= bits /\ bits <= 64 /\ n <= 1000000000000 - 10 /\ ∀ i h:Int,IsBk bits i h -> R (.tuple [.int i,.int h]) (n + 3)
 | _=>False
theorem c__law_block {bits:Int} {n:Nat} {R:PyData -> Nat -> Prop} (b0:1 <= bits) (b1:bits <= 64) (hn:n <= 1000000000000 - 10) (h:∀ i h:Int,IsBk bits i h -> R (.tuple [.int i,.int h]) (n + 3)):g__law_block [HAND,.int bits] n R:=⟨rfl,b0,b1,hn,h⟩
theorem ok__law_block {f:Addr} {fd:FuncData} {f__law_pick:Addr} {fd__law_pick:FuncData} {f__law_take:Addr} {fd__law_take:FuncData} (D:Def K mg "_law_block" (top 23) ["_law_hand_here","_law_bits_here"] f fd)
  (D__law_pick:Def K mg "_law_pick" (top 21) ["_law_hand_here","_law_some"] f__law_pick fd__law_pick) (G__law_pick:FnOk P w K mg base CX0 2 f__law_pick fd__law_pick ["_law_hand_here","_law_some"] (spD K 2 g__law_pick))
  (D__law_take:Def K mg "_law_take" (top 20) ["_law_hand_here","_law_many"] f__law_take fd__law_take) (G__law_take:FnOk P w K mg base CX0 1 f__law_take fd__law_take ["_law_hand_here","_law_many"] (spD K 2 g_take)) (T:Txt mg):FnOk P w K mg base CX0 3 f fd ["_law_hand_here","_law_bits_here"] (spD K 2 g__law_block):=by
 refine D.okD sc__law_block rfl fun cdv A outer s H E hr=>?_
 refine' ⟨_,(dss_cons (ds_set (i:=2) sc__law_block.nd rfl (Or.inl rfl) (de_cB (call_min2 rfl) gp_min T.min boot_minB (dbl_cons (dl (de_var 1)) (dbl_cons (dl (de_fn D__law_pick G__law_pick (hr.mono (by decide:2 <= 2)) (db_cons (de_var 0) (db_cons (de_new (dn_lst (db_cons de_int (db_cons de_int (db_cons de_int (db_cons de_int (db_cons de_int (db_cons de_int (db_cons (de_fn D__law_take G__law_take (hr.mono (by decide:1 <= 2)) (db_cons (de_var 0) (db_cons (de_add (dl (de_var 1)) (dl de_int)) db_nil st_bin) st_name)) (db_cons (de_var 1) db_nil st_name) st_call) st_int) st_int) st_int) st_int) st_int) st_int))) db_nil st_list) st_name))) dbl_nil st_call) st_name))) (dss_one (ds_ret (de_tup (db_cons (de_mul (dl (de_fn D__law_take G__law_take (hr.mono (by decide:1 <= 2)) (db_cons (de_var 0) (db_cons (de_shl (dl de_int) (dl (de_sub (dl (de_var 1)) (dl (de_var 2))))) db_nil st_bin) st_name))) (dl (de_shl (dl de_int) (dl (de_var 2))))) (db_cons (de_var 2) db_nil st_name) st_bin))))),?_⟩
 intro ts n R hl h
 unfold g__law_block at h
 split at h
 ·rename_i hd bits
  obtain ⟨rfl,b0,b1,hn,h⟩:=h
  simp only [u_sSeq,u_sRet,u_sSet,u_dC,u_dOp,u_dNew,u_dTup,u_dNil,u_dCons,u_dFn,u_dCallB,u_dVar,l_cVal,u_dTest,u_dCat,u_dItL,u_dItT,u_dRng1,u_dNeg,u_dChain,u_put,oSub,oMul,oMod,oFdiv,oShl,oXor,oAnd,isNone,l_gI,l_gI0,l_addI,l_addS,l_addT,l_eqI,l_eqL,l_neS,l_neL,l_isntN,l_ltI,l_leI,l_ixT0,l_ixT1,l_ixT2,l_ixL0,l_ixL1,l_truB,l_truL,l_bol,l_lenL,l_lenT,l_lenS,l_lenSCR,l_min,l_max,l_intB,l_tupleL,l_repr,l_items,startE,compEn,capV,List.map_cons,List.map_nil,List.length_cons,List.length_nil,List.replicate_succ,List.replicate_zero,List.cons_append,List.nil_append,List.append_nil,List.getElem?_cons_succ,List.getElem?_cons_zero,List.set_cons_succ,List.set_cons_zero,List.getD_cons_succ,List.getD_cons_zero,Nat.zero_add,Nat.reduceAdd,Nat.reduceSub,Nat.sub_self,true_and,and_true,Bool.false_eq_true,if_true,if_false,ite_true,ite_false,Bool.not_true,Bool.not_false,Int.natCast_zero,g__law_pick,g_take]
  refine ⟨by lia,by lia,by lia,fun r r0 r1=>⟨by simp,by decide,by lia,fun x hx=>?_⟩⟩
  have hv:∃ b:Int,x = .int b /\ 0 <= b:=by
   simp only [List.mem_cons,List.not_mem_nil,or_false] at hx
   rcases hx with h | h | h | h | h | h | h | h <;> first | exact ⟨_,h,by decide⟩ | exact ⟨_,h,by lia⟩
  obtain ⟨b,rfl,bb⟩:=hv
  simp only [u_sSeq,u_sRet,u_sSet,u_dC,u_dOp,u_dNew,u_dTup,u_dNil,u_dCons,u_dFn,u_dCallB,u_dVar,l_cVal,u_dTest,u_dCat,u_dItL,u_dItT,u_dRng1,u_dNeg,u_dChain,u_put,oSub,oMul,oMod,oFdiv,oShl,oXor,oAnd,isNone,l_gI,l_gI0,l_addI,l_addS,l_addT,l_eqI,l_eqL,l_neS,l_neL,l_isntN,l_ltI,l_leI,l_ixT0,l_ixT1,l_ixT2,l_ixL0,l_ixL1,l_truB,l_truL,l_bol,l_lenL,l_lenT,l_lenS,l_lenSCR,l_min,l_max,l_intB,l_tupleL,l_repr,l_items,startE,compEn,capV,List.map_cons,List.map_nil,List.length_cons,List.length_nil,List.replicate_succ,List.replicate_zero,List.cons_append,List.nil_append,List.append_nil,List.getElem?_cons_succ,List.getElem?_cons_zero,List.set_cons_succ,List.set_cons_zero,List.getD_cons_succ,List.getD_cons_zero,Nat.zero_add,Nat.reduceAdd,Nat.reduceSub,Nat.sub_self,true_and,and_true,Bool.false_eq_true,if_true,if_false,ite_true,ite_false,Bool.not_true,Bool.not_false,Int.natCast_zero,g_take]
  have key:∀ m:Int,0 <= m -> m <= bits -> (CPow 1 (bits - m) /\ (0:Int) < 1 * 2 ^ (bits - m).toNat /\ 1 * 2 ^ (bits - m).toNat < (2:Int) ^ 128 /\ n + 1 + 1 <= 1000000000000 /\ ∀ r:Int,0 <= r -> r < 1 * 2 ^ (bits - m).toNat -> CPow 1 m /\ CMul r (1 * 2 ^ m.toNat) /\ R (.tuple [.int (r * (1 * 2 ^ m.toNat)),.int m]) (n + 1 + 1 + 1)):=by
   intro m m0 m1
   have e1:(1:Int) * 2 ^ (bits - m).toNat = 2 ^ (bits - m).toNat:=Int.one_mul _
   have e2:(1:Int) * 2 ^ m.toNat = 2 ^ m.toNat:=Int.one_mul _
   rw [e1,e2]
   refine ⟨cpow (by lia) (by lia),two_pos _,pow_bound (by lia),by lia,fun k k0 k1=>⟨cpow m0 (by lia),.inl ⟨by lia,?_⟩,?_⟩⟩
   ·have:=pow_le64 (k:=(bits - m).toNat) (by lia); lia
   ·exact h _ m ⟨m0,m1,k,k0,rfl,k1⟩
  exact key (if b < bits then b else bits) (by split <;> lia) (by split <;> lia)
 ·exact h.elim
theorem sc__law_near:FnScope ["_law_hand_here","_law_bits_here","_law_block_here","_law_begin","_law_height","_law_size","_law_some"] ["_law_hand_here","_law_bits_here","_law_block_here"] (defScope (top 24)):=⟨rfl,rfl,rfl,by decide +kernel,rfl,by decide +kernel,by decide +kernel⟩
def g__law_near:GD:=fun ts n R=>∃ bits i h:Int,ts = [HAND,.int bits,.tuple [.int i,.int h]] /\ 1 <= bits /\ bits <= 64 /\ n <= 1000000000000 - 100 /\ IsBk bits i h /\ ∀ j g:Int,IsBk bits j g -> R (.tuple [.int j,.int g]) (n + 7)
theorem c__law_near {bits i h:Int} {n:Nat} {R:PyData -> Nat -> Prop} (b0:1 <= bits) (b1:bits <= 64) (hn:n <= 1000000000000 - 100) (B:IsBk bits i h) (h':∀ j g:Int,IsBk bits j g -> R (.tuple [.int j,.int g]) (n + 7)):g__law_near [HAND,.int bits,.tuple [.int i,.int h]] n R:=⟨_,_,_,rfl,b0,b1,hn,B,h'⟩
theorem ok__law_near {f:Addr} {fd:FuncData} {f__law_pick:Addr} {fd__law_pick:FuncData} {f__law_block:Addr} {fd__law_block:FuncData} (D:Def K mg "_law_near" (top 24) ["_law_hand_here","_law_bits_here","_law_block_here"] f fd)
  (D__law_pick:Def K mg "_law_pick" (top 21) ["_law_hand_here","_law_some"] f__law_pick fd__law_pick) (G__law_pick:FnOk P w K mg base CX0 2 f__law_pick fd__law_pick ["_law_hand_here","_law_some"] (spD K 2 g__law_pick))
  (D__law_block:Def K mg "_law_block" (top 23) ["_law_hand_here","_law_bits_here"] f__law_block fd__law_block) (G__law_block:FnOk P w K mg base CX0 3 f__law_block fd__law_block ["_law_hand_here","_law_bits_here"] (spD K 2 g__law_block)) (T:Txt mg):FnOk P w K mg base CX0 4 f fd ["_law_hand_here","_law_bits_here","_law_block_here"] (spD K 3 g__law_near):=by
 refine D.okD sc__law_near rfl fun cdv A outer s H E hr=>?_
 refine' ⟨_,(dss_cons (ds_asg (de_var 2) (dg_tup rfl (dgs_cons (dg_name (i:=3) sc__law_near.nd rfl (Or.inl rfl)) (dgs_cons (dg_name (i:=4) sc__law_near.nd rfl (Or.inl rfl)) dgs_nil)))) (dss_cons (ds_set (i:=5) sc__law_near.nd rfl (Or.inl rfl) (de_shl (dl de_int) (dl (de_var 4)))) (dss_cons (ds_own (i:=6) sc__law_near.nd rfl (Or.inl rfl) (dn_lst (db_cons (de_var 2) (db_cons (de_tup (db_cons (de_var 3) (db_cons (de_cB (call_max2 rfl) gp_max T.max boot_maxB (dbl_cons (dl de_int) (dbl_cons (dl (de_sub (dl (de_var 4)) (dl de_int))) dbl_nil st_bin) st_int)) db_nil st_call) st_name)) (db_cons (de_fn D__law_block G__law_block (hr.mono (by decide:3 <= 3)) (db_cons (de_var 0) (db_cons (de_var 1) db_nil st_name) st_name)) (db_cons (de_fn D__law_block G__law_block (hr.mono (by decide:3 <= 3)) (db_cons (de_var 0) (db_cons (de_var 1) db_nil st_name) st_name)) db_nil st_call) st_call) st_tuple) st_name))) (dss_cons (ds_if (dt_cmp op_gt gp_B (dl (de_var 4)) (dl de_int) (nomark _)) (dss_one (ds_append 6 (de_tup (db_cons (de_add (dl (de_var 3)) (dl (de_fdiv (dl (de_var 5)) (dl de_int)))) (db_cons (de_sub (dl (de_var 4)) (dl de_int)) db_nil st_bin) st_bin)))) dss_nil) (dss_cons (ds_if (dt_cmp (op_ltA hr) gp_ltA (dl (de_var 4)) (dl (de_var 1)) (nomark _)) (dss_cons (ds_append 6 (de_tup (db_cons (de_sub (dl (de_var 3)) (dl (de_mod (dl (de_var 3)) (dl (de_mul (dl de_int) (dl (de_var 5))))))) (db_cons (de_add (dl (de_var 4)) (dl de_int)) db_nil st_bin) st_bin))) (dss_one (ds_append 6 (de_tup (db_cons (de_xor (dl (de_var 3)) (dl (de_var 5))) (db_cons (de_var 4) db_nil st_name) st_bin))))) dss_nil) (dss_cons (ds_if (dt_cmp op_leA gp_leA (dl (de_add (dl (de_var 3)) (dl (de_mul (dl de_int) (dl (de_var 5)))))) (dl (de_shl (dl de_int) (dl (de_var 1)))) (nomark _)) (dss_one (ds_append 6 (de_tup (db_cons (de_add (dl (de_var 3)) (dl (de_var 5))) (db_cons (de_var 4) db_nil st_name) st_bin)))) dss_nil) (dss_freeze 6 (dss_one (ds_ret (de_fn D__law_pick G__law_pick (hr.mono (by decide:2 <= 3)) (db_cons (de_var 0) (db_cons (de_var 6) db_nil st_name) st_name))))))))))),?_⟩
 intro ts n R hl hh
 obtain ⟨bits,i,h,rfl,b0,b1,hn,B,hh⟩:=hh
 have h0:=B.1
 have h1:=B.2.1
 have bx:∀ j g:Int,IsBk bits j g -> ∀ m,m = n + 7 -> R (.tuple [.int j,.int g]) m:=fun j g b m e=>e ▸ hh j g b
 have Bl:IsBk bits i (if h - 1 > 0 then h - 1 else 0):=by
  split
  ·exact B.low (by lia)
  ·by_cases z:h = 0
   ·subst z; exact B
   ·have:h = 1:=by lia
    subst this; exact B.low (by decide)
 repeat' (first | with_reducible refine c__law_block ?_ ?_ ?_ (fun _ _ _=>?_) | with_reducible refine c__law_pick ?_ ?_ ?_ ?_ | walk_at "K")
 all_goals first
  | lia
  | exact cpow (by lia) (by lia)
  | exact cmul2
  | exact cdiv2
  | (rw [one_mulP]; exact Int.mul_pos (by decide) (two_pos _))
  | (intro z; simp at z; done)
  | (simp only [List.cons_append,List.nil_append,List.length_cons,List.length_nil]; decide)
  | skip
 all_goals
  simp only [List.cons_append,List.nil_append,List.forall_mem_cons,one_mulP] at *
  repeat' (with_reducible refine And.intro ?_ ?_)
 all_goals first
  | exact bx _ _ B _ rfl
  | exact bx _ _ Bl _ rfl
  | exact bx _ _ (by assumption) _ rfl
  | exact bx _ _ (B.up (by lia)) _ rfl
  | exact bx _ _ (B.abt (by lia)) _ rfl
  | exact bx _ _ (B.oth (by lia)) _ rfl
  | exact bx _ _ (B.nxt (by assumption)) _ rfl
  | (intro x hx; simp at hx)
theorem sc__law_blocks:FnScope ["_law_hand_here","_law_bits_here","_law_most","_law_found","_law_k","_law_block_here"] ["_law_hand_here","_law_bits_here","_law_most"] (defScope (top 25)):=⟨rfl,rfl,rfl,by decide +kernel,rfl,by decide +kernel,by decide +kernel⟩
def g__law_blocks:GD:=fun ts n R=>∃ bits most:Int,ts = [HAND,.int bits,.int most] /\ 1 <= bits /\ bits <= 64 /\ 0 <= most /\ most <= 1000 /\ n <= 1000000000000 - 100000 /\ ∀ (bs:List (Int × Int)) (m:Nat),Bks bits bs -> bs.length <= most.toNat -> m <= n + 1 + 12 * most.toNat -> R (.list (pD bs)) m
theorem c__law_blocks {bits most:Int} {n:Nat} {R:PyData -> Nat -> Prop} (b0:1 <= bits) (b1:bits <= 64) (m0:0 <= most) (m1:most <= 1000) (hn:n <= 1000000000000 - 100000) (h:∀ (bs:List (Int × Int)) (m:Nat),Bks bits bs -> bs.length <= most.toNat -> m <= n + 1 + 12 * most.toNat -> R (.list (pD bs)) m):g__law_blocks [HAND,.int bits,.int most] n R:=⟨bits,most,rfl,b0,b1,m0,m1,hn,h⟩
theorem ok__law_blocks {f:Addr} {fd:FuncData} {f__law_take:Addr} {fd__law_take:FuncData} {f__law_block:Addr} {fd__law_block:FuncData} {f__law_near:Addr} {fd__law_near:FuncData} {f__law_pick:Addr} {fd__law_pick:FuncData} (D:Def K mg "_law_blocks" (top 25) ["_law_hand_here","_law_bits_here","_law_most"] f fd)
  (D__law_take:Def K mg "_law_take" (top 20) ["_law_hand_here","_law_many"] f__law_take fd__law_take) (G__law_take:FnOk P w K mg base CX0 1 f__law_take fd__law_take ["_law_hand_here","_law_many"] (spD K 2 g_take))
  (D__law_block:Def K mg "_law_block" (top 23) ["_law_hand_here","_law_bits_here"] f__law_block fd__law_block) (G__law_block:FnOk P w K mg base CX0 3 f__law_block fd__law_block ["_law_hand_here","_law_bits_here"] (spD K 2 g__law_block))
  (D__law_near:Def K mg "_law_near" (top 24) ["_law_hand_here","_law_bits_here","_law_block_here"] f__law_near fd__law_near) (G__law_near:FnOk P w K mg base CX0 4 f__law_near fd__law_near ["_law_hand_here","_law_bits_here","_law_block_here"] (spD K 3 g__law_near))
  (D__law_pick:Def K mg "_law_pick" (top 21) ["_law_hand_here","_law_some"] f__law_pick fd__law_pick) (G__law_pick:FnOk P w K mg base CX0 2 f__law_pick fd__law_pick ["_law_hand_here","_law_some"] (spD K 2 g__law_pick)) (T:Txt mg):FnOk P w K mg base CX0 5 f fd ["_law_hand_here","_law_bits_here","_law_most"] (spD K 3 g__law_blocks):=by
 refine D.okD sc__law_blocks rfl fun cdv A outer s H E hr=>?_
 refine' ⟨_,(dss_cons (ds_own (i:=3) sc__law_blocks.nd rfl (Or.inl rfl) (dn_lst db_nil)) (dss_cons (ds_for PassesOwn.never rfl (di_range1 T.ran (de_fn D__law_take G__law_take (hr.mono (by decide:1 <= 4)) (db_cons (de_var 0) (db_cons (de_add (dl (de_var 2)) (dl de_int)) db_nil st_bin) st_name))) (dg_name (i:=4) sc__law_blocks.nd rfl (Or.inl rfl)) (dss_cons (ds_set (i:=5) sc__law_blocks.nd rfl (Or.inl rfl) (de_fn D__law_block G__law_block (hr.mono (by decide:3 <= 4)) (db_cons (de_var 0) (db_cons (de_var 1) db_nil st_name) st_name))) (dss_cons (ds_if (dt_of (dw_and (dt_cmp (op_neA hr) gp_ne (dl_own 3) (dl (de_new (dn_lst db_nil))) (nomark _)) (dw_and1 (dt_cmp op_gt gp_B (dl (de_fn D__law_take G__law_take (hr.mono (by decide:1 <= 4)) (db_cons (de_var 0) (db_cons de_int db_nil st_int) st_name))) (dl de_int) (nomark _))))) (dss_one (ds_set (i:=5) sc__law_blocks.nd rfl (Or.inl rfl) (de_fn D__law_near G__law_near (hr.mono (by decide:4 <= 4)) (db_cons (de_var 0) (db_cons (de_var 1) (db_cons (de_fnL D__law_pick G__law_pick (hr.mono (by decide:2 <= 4)) (dbl_cons (dl (de_var 0)) (dbl_cons (dl_own 3) dbl_nil st_name) st_name)) db_nil st_call) st_name) st_name)))) dss_nil) (dss_one (ds_append 3 (de_var 5)))))) (dss_freeze 3 (dss_one (ds_ret (de_var 3)))))),?_⟩
 intro ts n R hl hh
 obtain ⟨bits,most,rfl,b0,b1,m0,m1,hn,hh⟩:=hh
 repeat' (first | with_reducible refine c_take ?_ ?_ ?_ (fun r r0 r1=>?_) | walk_at "K")
 ·lia
 ·lia
 ·lia
 ·lia
 ·lia
 refine for_inv0 (fun k ρ m=>∃ bs:List (Int × Int),∃ c4 c5,ρ = [some (.val HAND),some (.val (.int bits)),some (.val (.int most)),some (.own (pD bs)),c4,c5] /\ Bks bits bs /\ bs.length = k /\ m <= n + 1 + 12 * k) ⟨[],_,_,rfl,(fun b hb=>nomatch hb),rfl,by lia⟩ ?_ ?_
 ·rintro k t ρ m K et ⟨bs,c4,c5,rfl,B,hk,hm⟩ hK
  obtain ⟨hk2,rfl⟩:=rangeD_get et
  have hk3:k < 1000:=by lia
  have fin:∀ (i h:Int) (x4 x5:Option Cell) (m':Nat),IsBk bits i h -> m' <= m + 12 -> K [some (.val HAND),some (.val (.int bits)),some (.val (.int most)),some (.own (pD bs ++ [.tuple [.int i,.int h]])),x4,x5] m':=fun i h x4 x5 m' C hm' =>
   hK _ _ ⟨bs ++ [(i,h)],_,_,by rw [<- pD_one],B.app C,by simp [hk],by lia⟩
  repeat' (first | with_reducible refine c__law_block ?_ ?_ ?_ (fun i h C=>?_) | with_reducible refine c_take ?_ ?_ ?_ (fun q q0 q1=>?_) | with_reducible refine c__law_pick ?_ ?_ ?_ ?_ | with_reducible refine c__law_near ?_ ?_ ?_ ?_ (fun j g C'=>?_) | walk_at "K")
  all_goals first
   | lia
   | exact okd_pD
   | exact okd_nil
   | (rw [pD_len]; lia)
   | decide
   | (intro z
      have y:PyData.eqv (.list (pD bs)) (.list []) = false:=by assumption
      rw [eqv_nil] at y
      have y2:bs = []:=by
       have:=congrArg List.length z
       rw [pD_len] at this
       exact List.length_eq_zero_iff.mp this
      rw [y2] at y; cases y)
   | exact fin _ _ _ _ _ (by assumption) (by lia)
   | skip
  all_goals
   intro x hx
   obtain ⟨b,hb,rfl⟩:=List.mem_map.mp hx
   refine ⟨nolst_pair,?_⟩
   have C0:=B b hb
   repeat' (first | with_reducible refine c__law_near ?_ ?_ ?_ ?_ (fun j g C'=>?_) | walk_at "K")
   all_goals first
    | lia
    | exact C0
    | (rw [pD_len]; lia)
    | exact fin _ _ _ _ _ (by assumption) (by lia)
 ·rintro ρ m ⟨bs,c4,c5,rfl,B,hk,hm⟩
  have el:bs.length <= most.toNat:=by
   rw [hk]; unfold rangeD; simp; lia
  repeat' walk_at "K"
  exact hh bs m B el (by lia)
theorem sc__law_patch:FnScope ["_law_hand_here","_law_bits_here","_law_most","_law_found","_law_begin","_law_height"] ["_law_hand_here","_law_bits_here","_law_most"] (defScope (top 26)):=⟨rfl,rfl,rfl,by decide +kernel,rfl,by decide +kernel,by decide +kernel⟩
def g__law_patch:GD:=fun ts n R=>∃ bits most:Int,ts = [HAND,.int bits,.int most] /\ 1 <= bits /\ bits <= 64 /\ 0 <= most /\ most < 64 /\ n <= 1000000000000 - 100000 /\ ∀ (bs:List (Int × Int)) (m:Nat),Ptc bits bs -> bs.length <= most.toNat -> m <= n + 1 + 12 * most.toNat -> R (.tuple (pD bs)) m
theorem c__law_patch {bits most:Int} {n:Nat} {R:PyData -> Nat -> Prop} (b0:1 <= bits) (b1:bits <= 64) (m0:0 <= most) (m1:most < 64) (hn:n <= 1000000000000 - 100000) (h:∀ (bs:List (Int × Int)) (m:Nat),Ptc bits bs -> bs.length <= most.toNat -> m <= n + 1 + 12 * most.toNat -> R (.tuple (pD bs)) m):g__law_patch [HAND,.int bits,.int most] n R:=⟨bits,most,rfl,b0,b1,m0,m1,hn,h⟩
theorem ok__law_patch {f:Addr} {fd:FuncData} {f__law_blocks:Addr} {fd__law_blocks:FuncData} (D:Def K mg "_law_patch" (top 26) ["_law_hand_here","_law_bits_here","_law_most"] f fd)
  (D__law_blocks:Def K mg "_law_blocks" (top 25) ["_law_hand_here","_law_bits_here","_law_most"] f__law_blocks fd__law_blocks) (G__law_blocks:FnOk P w K mg base CX0 5 f__law_blocks fd__law_blocks ["_law_hand_here","_law_bits_here","_law_most"] (spD K 3 g__law_blocks)) (T:Txt mg):FnOk P w K mg base CX0 6 f fd ["_law_hand_here","_law_bits_here","_law_most"] (spD K 3 g__law_patch):=by
 refine D.okD sc__law_patch rfl fun cdv A outer s H E hr=>?_
 refine' ⟨_,(dss_cons (ds_own (i:=3) sc__law_patch.nd rfl (Or.inl rfl) (dn_lst db_nil)) (dss_cons (ds_for PassesOwn.never rfl (di_list (de_fn D__law_blocks G__law_blocks (hr.mono (by decide:5 <= 5)) (db_cons (de_var 0) (db_cons (de_var 1) (db_cons (de_var 2) db_nil st_name) st_name) st_name))) (dg_tup rfl (dgs_cons (dg_name (i:=4) sc__law_patch.nd rfl (Or.inr rfl)) (dgs_cons (dg_name (i:=5) sc__law_patch.nd rfl (Or.inr rfl)) dgs_nil))) (dss_one (ds_if (dt_tru (dl (de_cB (call_allL rfl) gp_all T.all boot_allB (dbl_cons (dl (de_new (dn_comp (own:=["_law_one"]) (capt:=[4,5]) rfl (CompScope.of rfl) (dil_list (dl_own 3)) (fun _ _ _ _=>(dg_name (i:=0) (by show (["_law_one","_law_begin","_law_height"]:List Str).Nodup; decide +kernel) rfl (Or.inl rfl))) (by decide) (fun _ _ _ _=>dts_nil) (fun _ _ _ _=>(de_orV (de_cmp op_leA gp_leA (dl (de_add (dl (de_var 1)) (dl (de_shl (dl de_int) (dl (de_var 2)))))) (dl (de_ix (dl (de_var 0)) (dl de_int))) (nomark _)) (de_one (de_cmp op_leA gp_leA (dl (de_add (dl (de_ix (dl (de_var 0)) (dl de_int))) (dl (de_shl (dl de_int) (dl (de_ix (dl (de_var 0)) (dl de_int))))))) (dl (de_var 1)) (nomark _)))))))) dbl_nil st_comp)))) (dss_one (ds_append 3 (de_tup (db_cons (de_var 4) (db_cons (de_var 5) db_nil st_name) st_name)))) dss_nil))) (dss_freeze 3 (dss_one (ds_ret (de_cT call_tuple_of gp_tuple T.tup boot_tupleT (dbl_cons (dl (de_new (dn_sorted hr T.srt (dl (de_var 3)) st_name))) dbl_nil st_call))))))),?_⟩
 intro ts n R hl hh
 obtain ⟨bits,most,rfl,b0,b1,m0,m1,hn,hh⟩:=hh
 repeat' (first | with_reducible refine c__law_blocks ?_ ?_ ?_ ?_ ?_ (fun bs m B hlen hm=>?_) | walk_at "K")
 ·lia
 ·lia
 ·lia
 ·lia
 ·lia
 refine for_inv0 (fun k ρ m'=>m' = m /\ ∃ cs:List (Int × Int),∃ c4 c5,ρ = [some (.val HAND),some (.val (.int bits)),some (.val (.int most)),some (.own (pD cs)),c4,c5] /\ Bks bits cs /\ (cs.Pairwise fun a b=>eB a <= b.1 \/ eB b <= a.1) /\ cs.length <= k) ⟨rfl,[],_,_,rfl,(fun b hb=>nomatch hb),.nil,Nat.le_refl _⟩ ?_ ?_
 ·rintro k t ρ m' K et ⟨rfl,cs,c4,c5,rfl,C,dis,hk⟩ hK
  obtain ⟨i,h,eb,rfl⟩:=pD_get et
  have hb:=B _ (List.mem_of_getElem? eb)
  have h0:0 <= h:=hb.1
  have h1:h <= bits:=hb.2.1
  have hk3:k < 64:=by
   have:=(List.getElem?_eq_some_iff.mp eb).1
   lia
  repeat' walk_at "K"
  refine comp_pure (D:=prD) (fun b=>.bool (decide (i + 2 ^ h.toNat <= b.1) || decide (eB b <= i))) (by lia) ?_ ?_
  ·rintro ⟨i',h'⟩ hb' K2 X2 hK2
   have hc':=C _ hb'
   have h0':0 <= h':=hc'.1
   have h1':h' <= bits:=hc'.2.1
   repeat' walk_at "K"
   ·exact cpow (by lia) (by lia)
   ·have hc:i + 2 ^ h.toNat <= i':=by rw [one_mulP] at hc; exact hc
    rw [decide_eq_true hc] at hK2; exact hK2
   ·exact cpow (by lia) (by lia)
   ·have hc:¬ i + 2 ^ h.toNat <= i':=by rw [one_mulP] at hc; exact hc
    rw [decide_eq_false hc] at hK2
    rw [one_mulP]; exact hK2
  ·repeat' (first | with_reducible refine i_allB ?_ | walk_at "K")
   ·rw [pD_len]; lia
   ·rename_i hc
    have al:∀ b ∈ cs,i + 2 ^ h.toNat <= b.1 \/ eB b <= i:=fun b hb=>by
     have:=List.all_eq_true.mp hc b hb
     simpa using this
    refine hK _ _ ⟨rfl,cs ++ [(i,h)],_,_,by rw [<- pD_one],C.app hb,?_,by simp; lia⟩
    rw [List.pairwise_append]
    refine ⟨dis,List.pairwise_singleton _ _,fun a ha b hb'=>?_⟩
    cases List.mem_singleton.mp hb'
    rcases al a ha with z | z
    ·exact .inr z
    ·exact .inl z
   ·exact hK _ _ ⟨rfl,cs,_,_,rfl,C,dis,by lia⟩
 ·rintro ρ m' ⟨rfl,cs,c4,c5,rfl,C,dis,hk⟩
  rw [pD_len] at hk
  repeat' walk_at "K"
  refine j_sort b1 C dis (by lia) fun es P pm=>?_
  repeat' walk_at "K"
  exact hh es _ P (by have:=pm.length_eq; lia) (by lia)
theorem sc__law_names:FnScope ["_law_hand_here","_law_many","_law_letters","_law_first","_law_step","_law_stem","_law_at"] ["_law_hand_here","_law_many"] (defScope (top 27)):=⟨rfl,rfl,rfl,by decide +kernel,rfl,by decide +kernel,by decide +kernel⟩
def nmL (stem:List Nat) (k c:Nat):Str:=⟨(stem.take k ++ [c] ++ stem.drop k).toArray⟩
theorem nmL_ok {stem:List Nat} {k c:Nat} (hl:stem.length <= 7) (hs:∀ x ∈ stem,97 <= x /\ x <= 122) (hc:97 <= c /\ c <= 122):IsNm (nmL stem k c):=by
 have e:(nmL stem k c).cps.toList = stem.take k ++ [c] ++ stem.drop k:=rfl
 have l:(nmL stem k c).length = stem.length + 1:=by
  rw [<- len_cps,e]; simp; lia
 refine ⟨by lia,by lia,fun x hx=>?_⟩
 rw [e] at hx
 simp only [List.mem_append,List.mem_singleton] at hx
 rcases hx with (hx | rfl) | hx
 ·exact hs x (List.mem_of_mem_take hx)
 ·exact hc
 ·exact hs x (List.mem_of_mem_drop hx)
theorem nmL_inj {stem:List Nat} {k c d:Nat} (h:nmL stem k c = nmL stem k d):c = d:=by
 have e:stem.take k ++ [c] ++ stem.drop k = stem.take k ++ [d] ++ stem.drop k:=congrArg (fun s:Str=>s.cps.toList) h
 rw [List.append_assoc,List.append_assoc] at e
 have:=List.append_cancel_left e
 simpa using this
theorem coprime26 {step:Int} (h:step = 1 \/ step = 3 \/ step = 5 \/ step = 7 \/ step = 9 \/ step = 11) {first i j:Int} (i0:0 <= i) (i1:i < 26) (j0:0 <= j) (j1:j < 26) (e:(first + step * i) % 26 = (first + step * j) % 26):i = j:=by
 rcases h with rfl | rfl | rfl | rfl | rfl | rfl <;> lia
def g__law_names:GD:=fun ts n R=>∃ many:Int,ts = [HAND,.int many] /\ 0 <= many /\ many <= 26 /\ n <= 1000000000000 - 1000 /\ ∀ nms:List Str,nms.length = many.toNat -> (∀ s ∈ nms,IsNm s) -> nms.Nodup -> R (.list (nms.map .str)) (n + 5)
theorem c__law_names {many:Int} {n:Nat} {R:PyData -> Nat -> Prop} (m0:0 <= many) (m1:many <= 26) (hn:n <= 1000000000000 - 1000) (h:∀ nms:List Str,nms.length = many.toNat -> (∀ s ∈ nms,IsNm s) -> nms.Nodup -> R (.list (nms.map .str)) (n + 5)):g__law_names [HAND,.int many] n R:=⟨many,rfl,m0,m1,hn,h⟩
theorem ok__law_names {f:Addr} {fd:FuncData} {f__law_take:Addr} {fd__law_take:FuncData} {f__law_pick:Addr} {fd__law_pick:FuncData} (D:Def K mg "_law_names" (top 27) ["_law_hand_here","_law_many"] f fd)
  (D__law_take:Def K mg "_law_take" (top 20) ["_law_hand_here","_law_many"] f__law_take fd__law_take) (G__law_take:FnOk P w K mg base CX0 1 f__law_take fd__law_take ["_law_hand_here","_law_many"] (spD K 2 g_take))
  (D__law_pick:Def K mg "_law_pick" (top 21) ["_law_hand_here","_law_some"] f__law_pick fd__law_pick) (G__law_pick:FnOk P w K mg base CX0 2 f__law_pick fd__law_pick ["_law_hand_here","_law_some"] (spD K 2 g__law_pick)) (T:Txt mg):FnOk P w K mg base CX0 3 f fd ["_law_hand_here","_law_many"] (spD K 2 g__law_names):=by
 refine D.okD sc__law_names rfl fun cdv A outer s H E hr=>?_
 refine' ⟨_,(dss_cons (ds_set (i:=2) sc__law_names.nd rfl (Or.inr rfl) de_str) (dss_cons (ds_asg (de_tup (db_cons (de_fn D__law_take G__law_take (hr.mono (by decide:1 <= 2)) (db_cons (de_var 0) (db_cons de_int db_nil st_int) st_name)) (db_cons (de_fn D__law_pick G__law_pick (hr.mono (by decide:2 <= 2)) (db_cons (de_var 0) (db_cons (de_new (dn_lst (db_cons de_int (db_cons de_int (db_cons de_int (db_cons de_int (db_cons de_int (db_cons de_int db_nil st_int) st_int) st_int) st_int) st_int) st_int))) db_nil st_list) st_name)) db_nil st_call) st_call)) (dg_tup rfl (dgs_cons (dg_name (i:=3) sc__law_names.nd rfl (Or.inr rfl)) (dgs_cons (dg_name (i:=4) sc__law_names.nd rfl (Or.inr rfl)) dgs_nil)))) (dss_cons (ds_set (i:=5) sc__law_names.nd rfl (Or.inr rfl) (de_mulS (dl (de_ix (dl (de_var 2)) (dl (de_fn D__law_take G__law_take (hr.mono (by decide:1 <= 2)) (db_cons (de_var 0) (db_cons de_int db_nil st_int) st_name))))) (dl (de_fn D__law_pick G__law_pick (hr.mono (by decide:2 <= 2)) (db_cons (de_var 0) (db_cons (de_new (dn_lst (db_cons de_int (db_cons de_int (db_cons de_int (db_cons de_int (db_cons de_int db_nil st_int) st_int) st_int) st_int) st_int))) db_nil st_list) st_name))))) (dss_cons (ds_set (i:=6) sc__law_names.nd rfl (Or.inr rfl) (de_fn D__law_take G__law_take (hr.mono (by decide:1 <= 2)) (db_cons (de_var 0) (db_cons (de_add (dl (de_cB call_len gp_len T.len boot_lenB (dbl_cons (dl (de_var 5)) dbl_nil st_name))) (dl de_int)) db_nil st_bin) st_name))) (dss_one (ds_ret (de_new (dn_comp (own:=["_law_k"]) (capt:=[5,2,6,3,4]) rfl (CompScope.of rfl) (dil (di_range1 T.ran (de_var 1))) (fun _ _ _ _=>(dg_name (i:=0) (by show (["_law_k","_law_stem","_law_letters","_law_at","_law_first","_law_step"]:List Str).Nodup; decide +kernel) rfl (Or.inl rfl))) (by decide) (fun _ _ _ _=>dts_nil) (fun _ _ _ _=>(de_add (dl (de_add (dl (de_sliceA (dl (de_var 1)) dp_none (dp_some (de_var 3)))) (dl (de_ix (dl (de_var 2)) (dl (de_mod (dl (de_add (dl (de_var 4)) (dl (de_mul (dl (de_var 5)) (dl (de_var 0)))))) (dl de_int))))))) (dl (de_sliceA (dl (de_var 1)) (dp_some (de_var 3)) dp_none)))))))))))),?_⟩
 intro ts n R hl h
 obtain ⟨many,rfl,m0,m1,hn,h⟩:=h
 repeat' (first | with_reducible refine c_take ?_ ?_ ?_ (fun r r0 r1=>?_) | with_reducible refine c__law_pick ?_ ?_ ?_ (fun x hx=>?_) | walk_at "K")
 all_goals first | lia | exact cpow (by lia) (by lia) | (simp; done) | skip
 rename_i first f0 f1
 revert r r0 r1
 intro l l0 l1
 obtain ⟨step,rfl,hstep⟩:∃ s:Int,x = .int s /\ (s = 1 \/ s = 3 \/ s = 5 \/ s = 7 \/ s = 9 \/ s = 11):=by
  simp only [List.mem_cons,List.not_mem_nil,or_false] at hx
  rcases hx with rfl | rfl | rfl | rfl | rfl | rfl <;> exact ⟨_,rfl,by simp⟩
 refine j_ixS (k:=l.toNat) (by decide) (by lia) (letters (by lia)) ?_
 repeat' (first | with_reducible refine c__law_pick ?_ ?_ ?_ (fun y hy=>?_) | walk_at "K")
 all_goals first | lia | exact cpow (by lia) (by lia) | (simp; done) | skip
 obtain ⟨m,rfl,mm0,mm7⟩:∃ m:Int,y = .int m /\ 0 <= m /\ m <= 7:=by
  simp only [List.mem_cons,List.not_mem_nil,or_false] at hy
  rcases hy with rfl | rfl | rfl | rfl | rfl <;> exact ⟨_,rfl,by decide,by decide⟩
 have stc:(repS (⟨#[97 + l.toNat]⟩:Str) m).cps.toList = List.replicate m.toNat (97 + l.toNat):=by
  rw [repS_cps]
  show (List.replicate m.toNat [97 + l.toNat]).flatten = _
  generalize m.toNat = k
  induction k with
  | zero=>rfl
  | succ k ih=>rw [List.replicate_succ,List.flatten_cons,ih,List.replicate_succ]; rfl
 have stl:(repS (⟨#[97 + l.toNat]⟩:Str) m).length = m.toNat:=by rw [<- len_cps,stc,List.length_replicate]
 repeat' (first | with_reducible refine c_take ?_ ?_ ?_ (fun a a0 a1=>?_) | walk_at "K")
 ·lia
 ·lia
 ·show 1 <= 100; decide
 ·rw [stl]; lia
 ·rw [stl]; lia
 ·rw [stl]; lia
 ·lia
 ·lia
 ·lia
 rw [stl] at a1
 generalize repS (⟨#[97 + l.toNat]⟩:Str) m = stem at stc stl
 have sok:∀ x ∈ stem.cps.toList,97 <= x /\ x <= 122:=fun x hx=>by
  rw [stc] at hx
  have:=List.eq_of_mem_replicate hx
  lia
 refine comp_pure (cs:=List.range many.toNat) (D:=fun (i:Nat)=>.int (0 + (i:Int))) (fun i=>.str (nmL stem.cps.toList a.toNat (97 + ((first + step * (i:Int)) % 26).toNat))) (by simp; lia) ?_ ?_
 ·intro i hi K2 X2 hK2
  have hi:=List.mem_range.mp hi
  have q0:0 <= (first + step * (0 + (i:Int))) % 26:=Int.emod_nonneg _ (by decide)
  have q1:(first + step * (0 + (i:Int))) % 26 < 26:=Int.emod_lt_of_pos _ (by decide)
  repeat' (first | with_reducible refine j_ixS (k:=((first + step * (0 + (i:Int))) % 26).toNat) (by decide) (by lia) (letters (by lia)) ?_ | walk_at "K")
  all_goals first
   | lia
   | exact .inl ⟨by lia,by lia⟩
   | skip
  ·have l3:(cutS stem none (some a)).length <= 7:=by
    rw [<- len_cps,cutS_head (k:=a.toNat) (by lia)]
    have:=len_cps stem
    simp; lia
   show (cutS stem none (some a)).length + 1 <= 16777216
   lia
  ·have l3:(cutS stem none (some a)).length <= 7:=by
    rw [<- len_cps,cutS_head (k:=a.toNat) (by lia)]
    have:=len_cps stem
    simp; lia
   have l4:(cutS stem (some a) none).length <= 7:=by
    rw [<- len_cps,cutS_tail (k:=a.toNat) (by lia) (by lia),List.length_drop]
    have:=len_cps stem
    lia
   rw [<- len_cps,app_cps,List.length_append,len_cps]
   show _ + 1 + _ <= _
   lia
  ·have e:(cutS stem none (some a) ++ (⟨#[97 + ((first + step * (0 + (i:Int))) % 26).toNat]⟩:Str) ++ cutS stem (some a) none) = nmL stem.cps.toList a.toNat (97 + ((first + step * (i:Int)) % 26).toNat):=by
    apply L2.Str.ext'
    rw [app_cps,app_cps,cutS_head (k:=a.toNat) (by lia),cutS_tail (k:=a.toNat) (by lia) (by lia),Int.zero_add]
    rfl
   rw [e]; exact hK2
 ·have e:((List.range many.toNat).map fun (i:Nat)=>PyData.str (nmL stem.cps.toList a.toNat (97 + ((first + step * (i:Int)) % 26).toNat))) = ((List.range many.toNat).map fun (i:Nat)=>nmL stem.cps.toList a.toNat (97 + ((first + step * (i:Int)) % 26).toNat)).map .str:=by rw [List.map_map]; rfl
  rw [e]
  have md:∀ i:Nat,0 <= (first + step * (i:Int)) % 26 /\ (first + step * (i:Int)) % 26 < 26:=fun i=>⟨Int.emod_nonneg _ (by decide),Int.emod_lt_of_pos _ (by decide)⟩
  refine h _ (by simp) (fun s hs=>?_) ?_
  ·obtain ⟨i,hi,rfl⟩:=List.mem_map.mp hs
   have:=md i
   have:=len_cps stem
   exact nmL_ok (by lia) sok (by lia)
  ·rw [List.Nodup,List.pairwise_map]
   refine List.Pairwise.imp_of_mem ?_ (List.nodup_range (n:=many.toNat))
   intro i j hi hj ne e
   have hi:=List.mem_range.mp hi
   have hj:=List.mem_range.mp hj
   have e':=nmL_inj e
   have:=md i
   have:=md j
   have:=coprime26 hstep (first:=first) (i:=i) (j:=j) (by lia) (by lia) (by lia) (by lia) (by lia)
   exact ne (by lia)
theorem sc__law_deal:FnScope ["_law_hand_here","_law_bits_here","_law_names_here","_law_most","_law_outs","_law_kept","_law_block_here","_law_name","_law_size","_law_there"] ["_law_hand_here","_law_bits_here","_law_names_here","_law_most"] (defScope (top 28)):=⟨rfl,rfl,rfl,by decide +kernel,rfl,by decide +kernel,by decide +kernel⟩
def g__law_deal:GD:=fun ts n R=>∃ (bits most:Int) (nms:List Str),ts = [HAND,.int bits,.list (nD nms),.int most] /\ 1 <= bits /\ bits <= 64 /\ 0 <= most /\ most < 64 /\ nms ≠ [] /\ nms.length <= 1000 /\ (∀ s ∈ nms,IsNm s) /\ n <= 1000000000000 - 200000 /\
 ∀ (d:Deal) (m:Nat),Dl d -> d.1 = bits -> d.2.1.length <= most.toNat -> d.2.2.length <= most.toNat -> (∀ p ∈ d.2.1 ++ d.2.2,p.2 ∈ nms) -> m <= n + 10000 -> R (dlD d) m
theorem c__law_deal {bits most:Int} {nms:List Str} {n:Nat} {R:PyData -> Nat -> Prop} (b0:1 <= bits) (b1:bits <= 64) (m0:0 <= most) (m1:most < 64) (ne:nms ≠ []) (l:nms.length <= 1000) (hm:∀ s ∈ nms,IsNm s) (hn:n <= 1000000000000 - 200000)
 (h:∀ (d:Deal) (m:Nat),Dl d -> d.1 = bits -> d.2.1.length <= most.toNat -> d.2.2.length <= most.toNat -> (∀ p ∈ d.2.1 ++ d.2.2,p.2 ∈ nms) -> m <= n + 10000 -> R (dlD d) m):g__law_deal [HAND,.int bits,.list (nD nms),.int most] n R:=⟨bits,most,nms,rfl,b0,b1,m0,m1,ne,l,hm,hn,h⟩
theorem ok__law_deal {f:Addr} {fd:FuncData} {f__law_patch:Addr} {fd__law_patch:FuncData} {f__law_pick:Addr} {fd__law_pick:FuncData} {f__law_take:Addr} {fd__law_take:FuncData} (D:Def K mg "_law_deal" (top 28) ["_law_hand_here","_law_bits_here","_law_names_here","_law_most"] f fd)
  (D__law_patch:Def K mg "_law_patch" (top 26) ["_law_hand_here","_law_bits_here","_law_most"] f__law_patch fd__law_patch) (G__law_patch:FnOk P w K mg base CX0 6 f__law_patch fd__law_patch ["_law_hand_here","_law_bits_here","_law_most"] (spD K 3 g__law_patch))
  (D__law_pick:Def K mg "_law_pick" (top 21) ["_law_hand_here","_law_some"] f__law_pick fd__law_pick) (G__law_pick:FnOk P w K mg base CX0 2 f__law_pick fd__law_pick ["_law_hand_here","_law_some"] (spD K 2 g__law_pick))
  (D__law_take:Def K mg "_law_take" (top 20) ["_law_hand_here","_law_many"] f__law_take fd__law_take) (G__law_take:FnOk P w K mg base CX0 1 f__law_take fd__law_take ["_law_hand_here","_law_many"] (spD K 2 g_take)) (T:Txt mg):FnOk P w K mg base CX0 7 f fd ["_law_hand_here","_law_bits_here","_law_names_here","_law_most"] (spD K 4 g__law_deal):=by
 refine D.okD sc__law_deal rfl fun cdv A outer s H E hr=>?_
 refine' ⟨_,(dss_cons (ds_setC (dna_comp (i:=4) sc__law_deal.nd rfl (Or.inl rfl) (own:=["_law_block_here"]) (capt:=[0,2]) rfl (CompScope.of rfl) (dil (di_tup (de_fn D__law_patch G__law_patch (hr.mono (by decide:6 <= 6)) (db_cons (de_var 0) (db_cons (de_var 1) (db_cons (de_var 3) db_nil st_name) st_name) st_name)))) (fun _ _ _ _=>(dg_name (i:=0) (by show (["_law_block_here","_law_hand_here","_law_names_here"]:List Str).Nodup; decide +kernel) rfl (Or.inl rfl))) (by decide) (fun _ _ _ _=>dts_nil) (fun _ _ _ _=>(de_tup (db_cons (de_var 0) (db_cons (de_fn D__law_pick G__law_pick (hr.mono (by decide:2 <= 6)) (db_cons (de_var 1) (db_cons (de_var 2) db_nil st_name) st_name)) db_nil st_call) st_name))))) (dss_cons (ds_own (i:=5) sc__law_deal.nd rfl (Or.inl rfl) (dn_lst db_nil)) (dss_cons (ds_for PassesOwn.never rfl (di_tup (de_fn D__law_patch G__law_patch (hr.mono (by decide:6 <= 6)) (db_cons (de_var 0) (db_cons (de_var 1) (db_cons (de_var 3) db_nil st_name) st_name) st_name))) (dg_name (i:=6) sc__law_deal.nd rfl (Or.inr rfl)) (dss_cons (ds_set (i:=7) sc__law_deal.nd rfl (Or.inr rfl) (de_fn D__law_pick G__law_pick (hr.mono (by decide:2 <= 6)) (db_cons (de_var 0) (db_cons (de_var 2) db_nil st_name) st_name))) (dss_cons (ds_set (i:=8) sc__law_deal.nd rfl (Or.inr rfl) (de_shl (dl de_int) (dl (de_ix (dl (de_var 6)) (dl de_int))))) (dss_cons (ds_setC (dna_comp (i:=9) sc__law_deal.nd rfl (Or.inl rfl) (own:=["_law_one"]) (capt:=[8,6]) rfl (CompScope.of rfl) (dil (di_list (de_var 4))) (fun _ _ _ _=>(dg_name (i:=0) (by show (["_law_one","_law_size","_law_block_here"]:List Str).Nodup; decide +kernel) rfl (Or.inl rfl))) (by decide) (fun _ _ _ _=>(dts_one (dt_of (dw_and (dt_cmp (op_ltA hr) gp_ltA (dl (de_ix (dl (de_ix (dl (de_var 0)) (dl de_int))) (dl de_int))) (dl (de_add (dl (de_ix (dl (de_var 2)) (dl de_int))) (dl (de_var 1)))) (nomark _)) (dw_and1 (dt_cmp (op_ltA hr) gp_ltA (dl (de_ix (dl (de_var 2)) (dl de_int))) (dl (de_add (dl (de_ix (dl (de_ix (dl (de_var 0)) (dl de_int))) (dl de_int))) (dl (de_shl (dl de_int) (dl (de_ix (dl (de_ix (dl (de_var 0)) (dl de_int))) (dl de_int))))))) (nomark _))))))) (fun _ _ _ _=>(de_var 0)))) (dss_cons (ds_if (dt_of (dw_or (dt_cmp (op_eqA hr) gp_eq (dl (de_var 9)) (dl (de_new (dn_lst db_nil))) (nomark _)) (dw_or1 (dt_cmp (op_eqA hr) gp_eq (dl (de_fn D__law_take G__law_take (hr.mono (by decide:1 <= 6)) (db_cons (de_var 0) (db_cons de_int db_nil st_int) st_name))) (dl de_int) (nomark _))))) (dss_one (ds_set (i:=7) sc__law_deal.nd rfl (Or.inr rfl) (de_ix (dl (de_new (dn_cat (dl (de_new (dn_comp (own:=["_law_one"]) (capt:=[]) rfl (CompScope.of rfl) (dil (di_list (de_var 9))) (fun _ _ _ _=>(dg_name (i:=0) (by show (["_law_one"]:List Str).Nodup; decide +kernel) rfl (Or.inl rfl))) (by decide) (fun _ _ _ _=>dts_nil) (fun _ _ _ _=>(de_ix (dl (de_var 0)) (dl de_int)))))) (dl (de_new (dn_lst (db_cons (de_var 7) db_nil st_name))))))) (dl de_int)))) dss_nil) (dss_one (ds_if (dt_cmp (op_eqA hr) gp_eq (dl (de_new (dn_comp (own:=["_law_one"]) (capt:=[7]) rfl (CompScope.of rfl) (dil (di_list (de_var 9))) (fun _ _ _ _=>(dg_name (i:=0) (by show (["_law_one","_law_name"]:List Str).Nodup; decide +kernel) rfl (Or.inl rfl))) (by decide) (fun _ _ _ _=>(dts_one (dt_cmp (op_neA hr) gp_ne (dl (de_ix (dl (de_var 0)) (dl de_int))) (dl (de_var 1)) (nomark _)))) (fun _ _ _ _=>(de_var 0))))) (dl (de_new (dn_lst db_nil))) (nomark _)) (dss_one (ds_append 5 (de_tup (db_cons (de_var 6) (db_cons (de_var 7) db_nil st_name) st_name)))) dss_nil))))))) (dss_freeze 5 (dss_one (ds_ret (de_tup (db_cons (de_var 1) (db_cons (de_cT call_tuple_of gp_tuple T.tup boot_tupleT (dbl_cons (dl (de_var 4)) dbl_nil st_name)) (db_cons (de_cT call_tuple_of gp_tuple T.tup boot_tupleT (dbl_cons (dl (de_var 5)) dbl_nil st_name)) db_nil st_call) st_call) st_name)))))))),?_⟩
 intro ts n R hl h
 obtain ⟨bits,most,nms,rfl,b0,b1,m0,m1,ne,l,hm,hn,h⟩:=h
 have pick:∀ {n:Nat} {Q:PyData -> Nat -> Prop},n <= 1000000000000 -> (∀ s ∈ nms,Q (.str s) (n + 1)) -> g__law_pick [HAND,.list (nD nms)] n Q:=fun {n Q} hn hq=>c__law_pick (by intro z; cases nms with | nil=>exact ne rfl | cons a b=>cases z) (by simp [nD]; lia) hn fun x hx=>by
  obtain ⟨s,hs,rfl⟩:=List.mem_map.mp hx
  exact hq s hs
 repeat' (first | with_reducible refine c__law_patch b0 b1 m0 m1 ?_ (fun bs m P hlen hm1=>?_) | walk_at "K")
 ·lia
 refine compI0 (fun j acc m'=>m' = m + j /\ ∃ os:List ((Int × Int) × Str),acc = oD os /\ os.map (·.1) = bs.take j /\ ∀ p ∈ os,p.2 ∈ nms) ⟨rfl,[],rfl,by simp,fun p hp=>nomatch hp⟩ ?_ ?_
 ·rintro j x acc m' K ej ⟨rfl,os,rfl,e1,e2⟩ hK
  obtain ⟨i,g,eb,rfl⟩:=pD_get ej
  have jl:=(List.getElem?_eq_some_iff.mp eb).1
  have lo:os.length = j:=by
   have:=congrArg List.length e1
   simp at this; lia
  repeat' (first | with_reducible refine pick ?_ (fun s hs=>?_) | walk_at "K")
  ·lia
  ·rw [oD_len]; lia
  ·refine hK _ _ ⟨by lia,os ++ [((i,g),s)],by simp [oD],?_,?_⟩
   ·rw [List.map_append,e1,List.take_succ,eb]; rfl
   ·intro p hp
    rcases List.mem_append.mp hp with z | z
    ·exact e2 p z
    ·cases List.mem_singleton.mp z; exact hs
 ·rintro acc m' ⟨rfl,os,rfl,e1,e2⟩
  rw [pD_len,List.take_length] at e1
  repeat' (first | with_reducible refine c__law_patch b0 b1 m0 m1 ?_ (fun cs m2 P2 hlen2 hm2=>?_) | walk_at "K")
  ·rw [pD_len]; lia
  rw [pD_len] at hm2
  have lo:os.length = bs.length:=by rw [<- List.length_map (f:=(·.1)),e1]
  have Bo:∀ p ∈ os,IsBk bits p.1.1 p.1.2:=fun p hp=>P.1 _ (by rw [<- e1]; exact List.mem_map.mpr ⟨p,hp,rfl⟩)
  refine for_m5 5 6 7 8 9 (fun k a5 _ _ _ _ m'=>m' <= m2 + 2 * k /\ ∃ ks:List ((Int × Int) × Str),a5 = some (.own (oD ks)) /\ (ks.map (·.1)).Sublist (cs.take k) /\ (∀ q ∈ ks,q.2 ∈ nms) /\ Agr os ks) ⟨by lia,[],rfl,by simp,fun q hq=>(nomatch hq),fun p hp q hq=>(nomatch hq)⟩ ?_ ?_
  ·rintro k t a5 a6 a7 a8 a9 m' K RT BK et ⟨hm',ks,rfl,sb,kn,ag⟩ hK hRT hBK
   obtain ⟨i,g,eb,rfl⟩:=pD_get et
   have kl:=(List.getElem?_eq_some_iff.mp eb).1
   have Bb:=P2.1 _ (List.mem_of_getElem? eb)
   have g0:0 <= g:=Bb.1
   have g1:g <= bits:=Bb.2.1
   have pg:=two_pos g.toNat
   have tk:cs.take (k + 1) = cs.take k ++ [(i,g)]:=by rw [List.take_succ,eb]; rfl
   have lks:ks.length <= 64:=by
    have:=sb.length_le
    simp at this
    lia
   have skip:∀ (m'':Nat) (b6 b7 b8 b9:Option Cell),m'' <= m' + 2 -> K [some (.val HAND),some (.val (.int bits)),some (.val (.list (nD nms))),some (.val (.int most)),some (.val (.list (oD os))),some (.own (oD ks)),b6,b7,b8,b9] m'':=fun m'' b6 b7 b8 b9 h2 =>
    hK _ _ _ _ _ _ ⟨by lia,ks,rfl,by rw [tk]; exact sb.trans (List.sublist_append_left _ _),kn,ag⟩
   have put:∀ (m'':Nat) (b6 b7 b8 b9:Option Cell) (s:Str),m'' <= m' + 2 -> s ∈ nms -> (∀ p ∈ os,p.1.1 < i + 2 ^ g.toNat -> i < p.1.1 + 2 ^ p.1.2.toNat -> p.2 = s) -> K [some (.val HAND),some (.val (.int bits)),some (.val (.list (nD nms))),some (.val (.int most)),some (.val (.list (oD os))),some (.own (oD ks ++ [.tuple [.tuple [.int i,.int g],.str s]])),b6,b7,b8,b9] m'':=fun m'' b6 b7 b8 b9 s h2 hs al =>
    hK _ _ _ _ _ _ ⟨by lia,ks ++ [((i,g),s)],by simp [oD],by rw [tk,List.map_append]; exact sb.append (List.Sublist.refl _),(fun q hq=>by
     rcases List.mem_append.mp hq with z | z
     ·exact kn q z
     ·cases List.mem_singleton.mp z; exact hs),fun p hp q hq=>by
     rcases List.mem_append.mp hq with z | z
     ·exact ag p hp q z
     ·cases List.mem_singleton.mp z
      by_cases y:p.1.1 < i + 2 ^ g.toNat /\ i < p.1.1 + 2 ^ p.1.2.toNat
      ·exact .inl (al p hp y.1 y.2)
      ·right
       show eB p.1 <= i \/ i + 2 ^ g.toNat <= p.1.1
       unfold eB
       lia⟩
   repeat' (first | with_reducible refine pick ?_ (fun s hs=>?_) | walk_at "K")
   ·lia
   ·exact cpow (by lia) (by lia)
   refine comp_filter (cs:=os) (D:=fun p=>.tuple [prD p.1,.str p.2]) (fun p=>decide (p.1.1 < i + 2 ^ g.toNat) && decide (i < p.1.1 + 2 ^ p.1.2.toNat)) (fun p=>.tuple [prD p.1,.str p.2]) (by lia) ?_ ?_
   ·intro p hp K2 X2 hK2 hX2
    have Bp:=Bo p hp
    have p0:=Bp.1
    have p1:=Bp.2.1
    repeat' walk_at "K"
    ·exact cpow (by lia) (by lia)
    all_goals simp only [one_mulP] at *
    ·rename_i y
     exact hK2 (by rw [decide_eq_true y,decide_eq_true hc]; rfl)
    ·exact hX2 (by rw [decide_eq_false hc,Bool.and_false])
    ·exact hX2 (by rw [decide_eq_false hc,Bool.false_and])
   ·rw [show ((os.filter fun p=>decide (p.1.1 < i + 2 ^ g.toNat) && decide (i < p.1.1 + 2 ^ p.1.2.toNat)).map fun p=>PyData.tuple [prD p.1,PyData.str p.2]) = oD (os.filter fun p=>decide (p.1.1 < i + 2 ^ g.toNat) && decide (i < p.1.1 + 2 ^ p.1.2.toNat)) from rfl]
    generalize ets:(os.filter fun p=>decide (p.1.1 < i + 2 ^ g.toNat) && decide (i < p.1.1 + 2 ^ p.1.2.toNat)) = us
    have usub:∀ p ∈ us,p ∈ os:=fun p hp=>by rw [<- ets] at hp; exact (List.mem_filter.mp hp).1
    have uin:∀ p ∈ os,p.1.1 < i + 2 ^ g.toNat -> i < p.1.1 + 2 ^ p.1.2.toNat -> p ∈ us:=fun p hp y z=>by
     rw [<- ets]; exact List.mem_filter.mpr ⟨hp,by rw [decide_eq_true y,decide_eq_true z]; rfl⟩
    have lus:us.length <= 64:=by
     have:=List.length_filter_le (fun p:(Int × Int) × Str=>decide (p.1.1 < i + 2 ^ g.toNat) && decide (i < p.1.1 + 2 ^ p.1.2.toNat)) os
     rw [ets] at this; lia
    have ok3:∀ vs:List ((Int × Int) × Str),(∀ p ∈ vs,p ∈ os) -> Okd (.list (oD vs)):=fun vs hv=>(okK_lst (k:=2) fun t ht=>by
     obtain ⟨p,hp,rfl⟩:=List.mem_map.mp ht
     refine okK_tup fun u hu=>?_
     simp only [List.mem_cons,List.not_mem_nil,or_false] at hu
     rcases hu with rfl | rfl
     ·exact okK_pr
     ·exact (nm_ok (hm _ (e2 _ (hv p hp)))).mono (by decide)).okd
    have tail:∀ (m'':Nat) (s':Str) (b8:Option Cell),m'' <= m' + 2 -> s' ∈ nms ->
      sIf (dTest (dOp oEq (dNew (dComp [Str.ofString "_law_one"].length [7] (dItL (dVar 9)) (tgName 0) (dTest (dOp oNe (dOp oIx (dVar 0) (dC (PyData.int 1))) (dVar 1))) (dVar 0))) (dNew dNil))) (sAppend 5 (dTup (dCons (dVar 6) (dCons (dVar 7) dNil)))) sNext { nx:=K,rt:=RT,bk:=BK,ct:=K }
       [some (.val HAND),some (.val (.int bits)),some (.val (.list (nD nms))),some (.val (.int most)),some (.val (.list (oD os))),some (.own (oD ks)),some (.val (.tuple [.int i,.int g])),some (.val (.str s')),b8,some (.val (.list (oD us)))] m'':=by
     intro m'' s' b8 hm'' hs'
     repeat' walk_at "K"
     refine comp_filter (cs:=us) (D:=fun p=>.tuple [prD p.1,.str p.2]) (fun p=>!decide (p.2 = s')) (fun p=>.tuple [prD p.1,.str p.2]) (by lia) ?_ ?_
     ·intro p hp K2 X2 hK2 hX2
      repeat' walk_at "K"
      ·exact hX2 (by rw [decide_eq_true hc]; rfl)
      ·exact hK2 (by rw [decide_eq_false hc]; rfl)
     ·repeat' walk_at "K"
      ·exact ok3 _ fun p hp=>usub p (List.mem_filter.mp hp).1
      ·exact okd_nil
      ·rw [oD_len]; lia
      ·rw [eqv_nilL] at hc
       refine put _ _ _ _ _ s' hm'' hs' fun p hp y z=>?_
       by_cases w:p.2 = s'
       ·exact w
       ·exfalso
        have:p ∈ us.filter fun p=>!decide (p.2 = s'):=List.mem_filter.mpr ⟨uin p hp y z,by rw [decide_eq_false w]; rfl⟩
        have e0:us.filter (fun p=>!decide (p.2 = s')) = []:=by simpa using hc
        rw [e0] at this
        cases this
      ·exact skip _ _ _ _ _ hm''
    have nm:∀ {Q:PyData -> Prop},(∀ s' ∈ nms,Q (.str s')) -> oIx (.list ((us.map fun p=>PyData.str p.2) ++ [.str s])) (.int 0) Q:=fun {Q} hq=>by
     cases us with
     | nil=>exact j_ixL0 (hq s hs)
     | cons u v=>exact j_ixL0 (hq u.2 (e2 u (usub u (by simp))))
    repeat' (first | with_reducible refine c_take ?_ ?_ ?_ (fun r r0 r1=>?_) | with_reducible refine tail _ _ _ ?_ ?_ | walk_at "K")
    all_goals first
     | exact ok3 _ usub
     | exact okd_nil
     | exact hs
     | lia
     | skip
    all_goals
     refine comp_pure (cs:=us) (D:=fun p=>.tuple [prD p.1,.str p.2]) (fun p=>.str p.2) (by lia) ?_ ?_
     ·intro p hp K2 X2 hK2
      repeat' walk_at "K"
      exact hK2
     ·repeat' (first | with_reducible refine nm (fun s' hs'=>?_) | with_reducible refine tail _ _ _ ?_ ?_ | walk_at "K")
      ·simp; lia
      ·lia
      ·exact hs'
  ·rintro a5 a6 a7 a8 a9 m' ⟨hm',ks,rfl,sb,kn,ag⟩
   rw [pD_len,List.take_length] at sb
   repeat' walk_at "K"
   refine h (bits,os,ks) _ ⟨b0,b1,⟨by rw [e1]; exact P,fun p hp=>hm _ (e2 p hp)⟩,⟨⟨fun b hb=>P2.1 b (sb.subset hb),P2.2.sublist sb⟩,fun q hq=>hm _ (kn q hq)⟩,ag⟩ rfl (by show os.length <= _; lia) ?_ ?_ ?_
   ·have:=sb.length_le
    rw [List.length_map] at this
    show ks.length <= _
    lia
   ·intro p hp
    rcases List.mem_append.mp hp with z | z
    ·exact e2 p z
    ·exact kn p z
   ·rw [pD_len] at hm'
    lia
theorem sc__law_case:FnScope ["_law_hand_here","_law_k","_law_bits_here","_law_names_here","_law_most"] ["_law_hand_here","_law_k"] (defScope (top 29)):=⟨rfl,rfl,rfl,by decide +kernel,rfl,by decide +kernel,by decide +kernel⟩
theorem j_ixB {a b:Int} {c:Prop} [Decidable c] {R:PyData -> Prop} (h:∀ z:Int,z = a \/ z = b -> R (.int z)):oIx (.list [.int a,.int b]) (.int (if decide c = true then 1 else 0)) R:=by
 by_cases hc:c
 ·rw [if_pos (decide_eq_true hc)]; exact j_ixL1 (h b (.inr rfl))
 ·rw [if_neg (by simp [hc])]; exact j_ixL0 (h a (.inl rfl))
def g__law_case:GD:=fun ts n R=>∃ kk:Int,ts = [HAND,.int kk] /\ 0 <= kk /\ n <= 1000000000000 - 400000 /\ ∀ (d:Deal) (nms:List Str) (m:Nat),Dl d -> nms ≠ [] -> nms.length <= 4 -> (∀ s ∈ nms,IsNm s) -> d.2.1.length <= 20 -> d.2.2.length <= 20 -> m <= n + 20000 -> R (.tuple [dlD d,.list (nD nms)]) m
theorem c__law_case {kk:Int} {n:Nat} {R:PyData -> Nat -> Prop} (k0:0 <= kk) (hn:n <= 1000000000000 - 400000) (h:∀ (d:Deal) (nms:List Str) (m:Nat),Dl d -> nms ≠ [] -> nms.length <= 4 -> (∀ s ∈ nms,IsNm s) -> d.2.1.length <= 20 -> d.2.2.length <= 20 -> m <= n + 20000 -> R (.tuple [dlD d,.list (nD nms)]) m):g__law_case [HAND,.int kk] n R:=⟨kk,rfl,k0,hn,h⟩
theorem ok__law_case {f:Addr} {fd:FuncData} {f__law_names:Addr} {fd__law_names:FuncData} {f__law_bits:Addr} {fd__law_bits:FuncData} {f__law_take:Addr} {fd__law_take:FuncData} {f__law_deal:Addr} {fd__law_deal:FuncData} (D:Def K mg "_law_case" (top 29) ["_law_hand_here","_law_k"] f fd)
  (D__law_names:Def K mg "_law_names" (top 27) ["_law_hand_here","_law_many"] f__law_names fd__law_names) (G__law_names:FnOk P w K mg base CX0 3 f__law_names fd__law_names ["_law_hand_here","_law_many"] (spD K 2 g__law_names))
  (D__law_bits:Def K mg "_law_bits" (top 22) ["_law_hand_here"] f__law_bits fd__law_bits) (G__law_bits:FnOk P w K mg base CX0 3 f__law_bits fd__law_bits ["_law_hand_here"] (spD K 1 g__law_bits))
  (D__law_take:Def K mg "_law_take" (top 20) ["_law_hand_here","_law_many"] f__law_take fd__law_take) (G__law_take:FnOk P w K mg base CX0 1 f__law_take fd__law_take ["_law_hand_here","_law_many"] (spD K 2 g_take))
  (D__law_deal:Def K mg "_law_deal" (top 28) ["_law_hand_here","_law_bits_here","_law_names_here","_law_most"] f__law_deal fd__law_deal) (G__law_deal:FnOk P w K mg base CX0 7 f__law_deal fd__law_deal ["_law_hand_here","_law_bits_here","_law_names_here","_law_most"] (spD K 4 g__law_deal)) (T:Txt mg):FnOk P w K mg base CX0 8 f fd ["_law_hand_here","_law_k"] (spD K 2 g__law_case):=by
 refine D.okD sc__law_case rfl fun cdv A outer s H E hr=>?_
 refine' ⟨_,(dss_cons (ds_set (i:=2) sc__law_case.nd rfl (Or.inl rfl) (de_cB (call_min2 rfl) gp_min T.min boot_minB (dbl_cons (dl (de_fn D__law_bits G__law_bits (hr.mono (by decide:3 <= 7)) (db_cons (de_var 0) db_nil st_name))) (dbl_cons (dl (de_ix (dl (de_new (dn_lst (db_cons de_int (db_cons de_int db_nil st_int) st_int)))) (dl (de_cT call_int1 gp_int T.int boot_int (dbl_cons (dl (de_cmp op_gt gp_B (dl (de_var 1)) (dl de_int) (nomark _))) dbl_nil st_cmp))))) dbl_nil st_sub) st_call))) (dss_cons (ds_set (i:=3) sc__law_case.nd rfl (Or.inl rfl) (de_fn D__law_names G__law_names (hr.mono (by decide:3 <= 7)) (db_cons (de_var 0) (db_cons (de_add (dl de_int) (dl (de_fn D__law_take G__law_take (hr.mono (by decide:1 <= 7)) (db_cons (de_var 0) (db_cons de_int db_nil st_int) st_name)))) db_nil st_bin) st_name))) (dss_cons (ds_set (i:=4) sc__law_case.nd rfl (Or.inl rfl) (de_ix (dl (de_new (dn_lst (db_cons de_int (db_cons de_int (db_cons de_int (db_cons de_int (db_cons de_int (db_cons de_int (db_cons de_int (db_cons de_int db_nil st_int) st_int) st_int) st_int) st_int) st_int) st_int) st_int)))) (dl (de_fn D__law_take G__law_take (hr.mono (by decide:1 <= 7)) (db_cons (de_var 0) (db_cons de_int db_nil st_int) st_name))))) (dss_cons (ds_set (i:=4) sc__law_case.nd rfl (Or.inl rfl) (de_cB (call_min3 rfl) gp_min3 T.min boot_minB (dbl_cons (dl (de_var 4)) (dbl_cons (dl (de_ix (dl (de_new (dn_lst (db_cons de_int (db_cons de_int db_nil st_int) st_int)))) (dl (de_cT call_int1 gp_int T.int boot_int (dbl_cons (dl (de_cmp op_gt gp_B (dl (de_var 1)) (dl de_int) (nomark _))) dbl_nil st_cmp))))) (dbl_cons (dl (de_ix (dl (de_new (dn_lst (db_cons de_int (db_cons de_int db_nil st_int) st_int)))) (dl (de_cT call_int1 gp_int T.int boot_int (dbl_cons (dl (de_cmp op_gt gp_B (dl (de_var 2)) (dl de_int) (nomark _))) dbl_nil st_cmp))))) dbl_nil st_sub) st_sub) st_name))) (dss_one (ds_ret (de_tup (db_cons (de_fn D__law_deal G__law_deal (hr.mono (by decide:7 <= 7)) (db_cons (de_var 0) (db_cons (de_var 2) (db_cons (de_orA (de_new (dn_slice (dl (de_var 3)) dp_none (dp_some (de_neg de_int)))) (de_one (de_var 3))) (db_cons (de_var 4) db_nil st_name) st_boolop) st_name) st_name)) (db_cons (de_var 3) db_nil st_name) st_call)))))))),?_⟩
 intro ts n R hl h
 obtain ⟨kk,rfl,k0,hn,h⟩:=h
 have ml:∀ x ∈ [PyData.int 5,PyData.int 5,PyData.int 5,PyData.int 5,PyData.int 5,PyData.int 5,PyData.int 5,PyData.int 20],∃ most:Int,x = .int most /\ 0 <= most /\ most <= 20:=fun x hx=>by
  simp only [List.mem_cons,List.not_mem_nil,or_false] at hx
  rcases hx with rfl | rfl | rfl | rfl | rfl | rfl | rfl | rfl <;> exact ⟨_,rfl,by decide,by decide⟩
 repeat' (first | with_reducible refine c__law_bits ?_ (fun bits b0 b1=>?_) | with_reducible refine c_take ?_ ?_ ?_ (fun r r0 r1=>?_) | with_reducible refine c__law_names ?_ ?_ ?_ (fun nms nl nk nd=>?_) | with_reducible refine j_ixB (fun z hz=>?_) | walk_at "K")
 all_goals first | lia | exact cpow (by lia) (by lia) | (simp; done) | skip
 all_goals
  refine j_ixLm (by lia) (by simp; lia) fun x hx=>?_
  obtain ⟨most,rfl,m0,m1⟩:=ml x hx
  repeat' (first | with_reducible refine j_ixB (fun y hy=>?_) | walk_at "K")
 all_goals
  rename_i y1 hy1
  have ne:nms ≠ []:=fun z=>by rw [z] at nl; simp at nl; lia
  have mm:0 <= min3 most y1 y /\ min3 most y1 y <= 20:=by unfold min3; lia
  have bb:1 <= (if z < bits then z else bits) /\ (if z < bits then z else bits) <= 64:=by lia
  generalize min3 most y1 y = mo at mm ⊢
  generalize (if z < bits then z else bits) = bt at bb ⊢
 ·refine c__law_deal bb.1 bb.2 mm.1 (by lia) ne (by lia) nk (by lia) fun d m D e l1 l2 pn hm=>?_
  repeat' walk_at "K"
  exact h d nms m D ne (by lia) nk (by lia) (by lia) (by lia)
 ·have e0:cutD (List.map PyData.str nms) none (some (-1)) = nD (nms.take (nms.length - 1)):=by
   rw [cut_init,List.length_map,<- List.map_take]; rfl
  rw [e0] at hc ⊢
  have sb:∀ s ∈ nms.take (nms.length - 1),s ∈ nms:=fun s hs=>List.mem_of_mem_take hs
  refine c__law_deal bb.1 bb.2 mm.1 (by lia) (fun z=>by rw [z] at hc; cases hc) (by simp; lia) (fun s hs=>nk s (sb s hs)) (by lia) fun d m D e l1 l2 pn hm=>?_
  repeat' walk_at "K"
  exact h d nms m D ne (by lia) nk (by lia) (by lia) (by lia)
theorem sc__law_pieces:FnScope ["_law_low","_law_high","_law_found","_law_height"] ["_law_low","_law_high"] (defScope (top 30)):=⟨rfl,rfl,rfl,by decide +kernel,rfl,by decide +kernel,by decide +kernel⟩
def g__law_pieces:GD:=fun ts n R=>∃ lo hi:Int,ts = [.int lo,.int hi] /\ 0 <= lo /\ lo <= hi /\ hi <= 2 ^ 64 /\ ∀ bs,SpanS lo hi bs -> R (.list (pD bs)) n
theorem c__law_pieces {lo hi:Int} {n:Nat} {R:PyData -> Nat -> Prop} (l0:0 <= lo) (l1:lo <= hi) (l2:hi <= 2 ^ 64) (h:∀ bs,SpanS lo hi bs -> R (.list (pD bs)) n):g__law_pieces [.int lo,.int hi] n R:=⟨lo,hi,rfl,l0,l1,l2,h⟩
theorem two_shl {k:Nat}:(2:Int) * 2 ^ (k:Int).toNat = 2 ^ (k + 1):=by rw [Int.toNat_natCast,Int.pow_succ,Int.mul_comm]
theorem ok__law_pieces {f:Addr} {fd:FuncData} (D:Def K mg "_law_pieces" (top 30) ["_law_low","_law_high"] f fd) (T:Txt mg):FnOk P w K mg base CX0 1 f fd ["_law_low","_law_high"] (spD K 2 g__law_pieces):=by
 refine D.okD sc__law_pieces rfl fun cdv A outer s H E hr=>?_
 refine' ⟨_,(dss_cons (ds_own (i:=2) sc__law_pieces.nd rfl (Or.inl rfl) (dn_lst db_nil)) (dss_cons (ds_while PassesOwn.never (dt_cmp (op_ltA hr) gp_ltA (dl (de_var 0)) (dl (de_var 1)) (nomark _)) (dss_cons (ds_set (i:=3) sc__law_pieces.nd rfl (Or.inl rfl) de_int) (dss_cons (ds_while PassesOwn.never (dt_of (dw_and (dt_cmp (op_eqA hr) gp_eq (dl (de_mod (dl (de_var 0)) (dl (de_shl (dl de_int) (dl (de_var 3)))))) (dl de_int) (nomark _)) (dw_and1 (dt_cmp op_leA gp_leA (dl (de_add (dl (de_var 0)) (dl (de_shl (dl de_int) (dl (de_var 3)))))) (dl (de_var 1)) (nomark _))))) (dss_one (ds_set (i:=3) sc__law_pieces.nd rfl (Or.inl rfl) (de_add (dl (de_var 3)) (dl de_int))))) (dss_cons (ds_append 2 (de_tup (db_cons (de_var 0) (db_cons (de_var 3) db_nil st_name) st_name))) (dss_one (ds_set (i:=0) sc__law_pieces.nd rfl (Or.inl rfl) (de_add (dl (de_var 0)) (dl (de_shl (dl de_int) (dl (de_var 3))))))))))) (dss_freeze 2 (dss_one (ds_ret (de_var 2)))))),?_⟩
 intro ts n R hl h
 obtain ⟨lo,hi,rfl,l0,l1,l2,h⟩:=h
 obtain ⟨all,A⟩:=span_ex _ lo hi (Nat.le_refl _) l1
 have al:=A.len l0 l2
 have two64:∀ k:Nat,(2:Int) ^ k <= 2 ^ 64 -> k <= 64:=fun k hk=>by
  rcases Nat.lt_or_ge 64 k with z | z
  ·have:=pow_mono2 (show 65 <= k by lia)
   have e:(2:Int) ^ 65 = 2 * 2 ^ 64:=by decide
   lia
  ·exact z
 repeat' walk_at "K"
 refine while_a (fun m ρ n'=>n' = n /\ ∃ (bs rest:List (Int × Int)) (be:Int) (c3:Option Cell),ρ = [some (.val (.int be)),some (.val (.int hi)),some (.own (pD bs)),c3] /\ all = bs ++ rest /\ SpanS be hi rest /\ lo <= be /\ m = rest.length) (m:=all.length) ⟨rfl,[],all,lo,_,rfl,rfl,A,Int.le_refl _,rfl⟩ ?_
 rintro m ρ n' NX RT BK ⟨rfl,bs,rest,be,c3,rfl,eall,S,lb,rfl⟩ hN hR hB
 repeat' walk_at "K"
 ·cases rest with
  | nil=>have:be = hi:=S; lia
  | cons b r =>
   obtain ⟨s1,s2,s3,s4,s5⟩:=S
   refine while_a (fun m ρ n''=>n'' = n' /\ ∃ k:Nat,ρ = [some (.val (.int be)),some (.val (.int hi)),some (.own (pD bs)),some (.val (.int (k:Int)))] /\ be % 2 ^ k = 0 /\ (2:Int) ^ k <= hi - be /\ m = 65 - k) (m:=65) ⟨rfl,0,rfl,by simp,by simp; lia,rfl⟩ ?_
   rintro m2 ρ2 n2 NX2 RT2 BK2 ⟨rfl,k,rfl,k1,k2,rfl⟩ hN2 hR2 hB2
   have k64:=two64 k (by lia)
   have pk:=two_pos (k + 1)
   have fin:¬ (be % 2 ^ (k + 1) = 0 /\ (2:Int) ^ (k + 1) <= hi - be) -> BK2 [some (.val (.int be)),some (.val (.int hi)),some (.own (pD bs)),some (.val (.int (k:Int)))] n2:=fun hn=>by
    have eg:b.2.toNat = k:=s4.uniq ⟨k1,k2,hn⟩
    have eb:b = (be,(k:Int)):=Prod.ext s2 (by show b.2 = (k:Int); lia)
    refine hB2 _ _ ?_
    repeat' walk_at "K"
    ·rw [pD_len]
     have:=congrArg List.length eall
     rw [List.length_append] at this
     lia
    ·exact cpow (by lia) (by lia)
    ·refine hN r.length _ _ (by simp) ⟨rfl,bs ++ [b],r,be + 1 * 2 ^ (k:Int).toNat,some (.val (.int (k:Int))),by rw [eb,<- pD_one],by rw [eall]; simp,?_,?_,rfl⟩
     ·rw [one_mulP,Int.toNat_natCast]; rw [eg] at s5; exact s5
     ·have:=two_pos (k:Int).toNat; rw [one_mulP]; lia
   repeat' walk_at "K"
   ·exact ⟨by lia,by lia,by decide⟩
   ·rw [two_shl]; exact pk
   ·exact ⟨by lia,by lia,by decide⟩
   all_goals simp only [two_shl] at *
   ·rename_i y
    exact hN2 (65 - (k + 1)) _ _ (by lia) ⟨rfl,k + 1,rfl,y,by lia,rfl⟩
   ·exact fin fun z=>hc (by lia)
   ·exact fin fun z=>hc z.1
 ·have e:be = hi:=by have:=S.le; lia
  cases rest with
  | cons b r=>have:=S.1; lia
  | nil =>
   refine hB _ _ ?_
   repeat' walk_at "K"
   rw [List.append_nil] at eall
   rw [<- eall]
   exact h _ A
theorem sc__law_gaps:FnScope ["_law_deal_here","_law_name","_law_taken","_law_found","_law_low","_law_begin","_law_height"] ["_law_deal_here","_law_name"] (defScope (top 31)):=⟨rfl,rfl,rfl,by decide +kernel,rfl,by decide +kernel,by decide +kernel⟩
def g__law_gaps:GD:=fun ts n R=>∃ (d:Deal) (nm:PyData),ts = [dlD d,nm] /\ Dl d /\ IsWho nm /\ d.2.1.length + d.2.2.length < 64 /\ ∀ gs,NR gs -> (∀ x,mR x gs ↔ Free d nm x) -> gs.length <= 100 -> R (.list (pD gs)) n
theorem c__law_gaps {d:Deal} {nm:PyData} {n:Nat} {R:PyData -> Nat -> Prop} (D:Dl d) (hw:IsWho nm) (l:d.2.1.length + d.2.2.length < 64) (h:∀ gs,NR gs -> (∀ x,mR x gs ↔ Free d nm x) -> gs.length <= 100 -> R (.list (pD gs)) n):g__law_gaps [dlD d,nm] n R:=⟨d,nm,rfl,D,hw,l,h⟩
theorem ok__law_gaps {f:Addr} {fd:FuncData} (D:Def K mg "_law_gaps" (top 31) ["_law_deal_here","_law_name"] f fd) (T:Txt mg):FnOk P w K mg base CX0 1 f fd ["_law_deal_here","_law_name"] (spD K 2 g__law_gaps):=by
 refine D.okD sc__law_gaps rfl fun cdv A outer s H E hr=>?_
 refine' ⟨_,(dss_cons (ds_set (i:=2) sc__law_gaps.nd rfl (Or.inl rfl) (de_new (dn_sorted hr T.srt (dl (de_new (dn_cat (dl (de_new (dn_comp (own:=["_law_block_here","_law_owner"]) (capt:=[]) rfl (CompScope.of rfl) (dil (di_tup (de_ix (dl (de_var 0)) (dl de_int)))) (fun _ _ _ _=>(dg_tup rfl (dgs_cons (dg_name (i:=0) (by show (["_law_block_here","_law_owner"]:List Str).Nodup; decide +kernel) rfl (Or.inl rfl)) (dgs_cons (dg_name (i:=1) (by show (["_law_block_here","_law_owner"]:List Str).Nodup; decide +kernel) rfl (Or.inl rfl)) dgs_nil)))) (by decide) (fun _ _ _ _=>dts_nil) (fun _ _ _ _=>(de_var 0))))) (dl (de_new (dn_comp (own:=["_law_block_here","_law_owner"]) (capt:=[1]) rfl (CompScope.of rfl) (dil (di_tup (de_ix (dl (de_var 0)) (dl de_int)))) (fun _ _ _ _=>(dg_tup rfl (dgs_cons (dg_name (i:=0) (by show (["_law_block_here","_law_owner","_law_name"]:List Str).Nodup; decide +kernel) rfl (Or.inl rfl)) (dgs_cons (dg_name (i:=1) (by show (["_law_block_here","_law_owner","_law_name"]:List Str).Nodup; decide +kernel) rfl (Or.inl rfl)) dgs_nil)))) (by decide) (fun _ _ _ _=>(dts_one (dt_cmp (op_neA hr) gp_ne (dl (de_var 1)) (dl (de_var 2)) (nomark _)))) (fun _ _ _ _=>(de_var 0)))))))) st_bin))) (dss_cons (ds_parO (i:=3) (j:=4) rfl sc__law_gaps.nd rfl rfl (by decide) rfl rfl (dn_lst db_nil) de_int) (dss_cons (ds_for PassesOwn.never rfl (di_list (de_var 2)) (dg_tup rfl (dgs_cons (dg_name (i:=5) sc__law_gaps.nd rfl (Or.inl rfl)) (dgs_cons (dg_name (i:=6) sc__law_gaps.nd rfl (Or.inl rfl)) dgs_nil))) (dss_cons (ds_if (dt_cmp op_gt gp_B (dl (de_var 5)) (dl (de_var 4)) (nomark _)) (dss_one (ds_append 3 (de_tup (db_cons (de_var 4) (db_cons (de_var 5) db_nil st_name) st_name)))) dss_nil) (dss_one (ds_set (i:=4) sc__law_gaps.nd rfl (Or.inl rfl) (de_cB (call_max2 rfl) gp_max T.max boot_maxB (dbl_cons (dl (de_var 4)) (dbl_cons (dl (de_add (dl (de_var 5)) (dl (de_shl (dl de_int) (dl (de_var 6)))))) dbl_nil st_bin) st_name)))))) (dss_cons (ds_if (dt_cmp (op_ltA hr) gp_ltA (dl (de_var 4)) (dl (de_shl (dl de_int) (dl (de_ix (dl (de_var 0)) (dl de_int))))) (nomark _)) (dss_one (ds_append 3 (de_tup (db_cons (de_var 4) (db_cons (de_shl (dl de_int) (dl (de_ix (dl (de_var 0)) (dl de_int)))) db_nil st_bin) st_name)))) dss_nil) (dss_freeze 3 (dss_one (ds_ret (de_var 3)))))))),?_⟩
 intro ts n R hl h
 obtain ⟨d,nm,rfl,D,hw,l,h⟩:=h
 obtain ⟨bits,os,ks⟩:=d
 obtain ⟨b0,b1,S1,S2,ag⟩:=D
 have b0:1 <= bits:=b0
 have b1:bits <= 64:=b1
 have S1:Shr bits os:=S1
 have S2:Shr bits ks:=S2
 have l:os.length + ks.length < 64:=l
 have hn:∀ p ∈ ks,IsNm p.2:=S2.2
 have lk:=keptOf_len (d:=(bits,os,ks)) (nm:=nm)
 have lk:(keptOf (bits,os,ks) nm).length <= ks.length:=lk
 rw [show dlD (bits,os,ks) = .tuple [.int bits,.tuple (oD os),.tuple (oD ks)] from rfl]
 have B:Bks bits (os.map (·.1) ++ keptOf (bits,os,ks) nm):=fun b hb=>by
  rcases List.mem_append.mp hb with z | z
  ·exact S1.1.1 b z
  ·exact S2.1.1 b (keptOf_sub b z)
 have top:=two_pos bits.toNat
 repeat' walk_at "K"
 refine comp_pure (cs:=os) (D:=fun p=>.tuple [prD p.1,.str p.2]) (fun p=>prD p.1) (by lia) ?_ ?_
 ·intro p hp K2 X2 hK2
  repeat' walk_at "K"
  exact hK2
 repeat' walk_at "K"
 refine comp_filter (cs:=ks) (D:=fun p=>.tuple [prD p.1,.str p.2]) (fun p=>!who p.2 nm) (fun p=>prD p.1) (by lia) ?_ ?_
 ·intro p hp K2 X2 hK2 hX2
  rcases hw with rfl | ⟨s,rfl,ns⟩
  ·repeat' walk_at "K"
   ·exact (nm_ok (hn p hp)).okd
   ·exact hK2 rfl
  ·repeat' walk_at "K"
   ·exact hX2 (by show (!decide (p.2 = s)) = false; rw [decide_eq_true hc]; rfl)
   ·exact hK2 (by show (!decide (p.2 = s)) = true; rw [decide_eq_false hc]; rfl)
 have e1:(os.map fun p=>prD p.1) = pD (os.map (·.1)):=by
  unfold pD; rw [List.map_map]; rfl
 have e2:((ks.filter fun p=>!who p.2 nm).map fun p=>prD p.1) = pD (keptOf (bits,os,ks) nm):=by
  unfold pD keptOf
  rw [List.map_map]; rfl
 rw [e1,e2]
 repeat' walk_at "K"
 ·rw [pD_len,pD_len,List.length_map]; lia
 rw [pD_app]
 have ll:(os.map (·.1) ++ keptOf (bits,os,ks) nm).length < 64:=by rw [List.length_append,List.length_map]; lia
 have fr:∀ x,Free (bits,os,ks) nm x ↔ 0 <= x /\ x < 2 ^ bits.toNat /\ ¬ mB x (os.map (·.1) ++ keptOf (bits,os,ks) nm):=fun x=>by
  rw [mB_app]
  show 0 <= x /\ x < 2 ^ bits.toNat /\ ¬ mB x (os.map (·.1)) /\ ¬ mB x (keptOf (bits,os,ks) nm) ↔ _
  constructor
  ·rintro ⟨a,b,c,e⟩; exact ⟨a,b,fun z=>z.elim c e⟩
  ·rintro ⟨a,b,c⟩; exact ⟨a,b,fun z=>c (.inl z),fun z=>c (.inr z)⟩
 generalize os.map (·.1) ++ keptOf (bits,os,ks) nm = bs at B ll fr
 refine j_sortB (.inl rfl) b1 B (by lia) fun cs pm pw=>?_
 have Bc:Bks bits cs:=fun b hb=>B b (pm.mem_iff.mp hb)
 have lc:=pm.length_eq
 have fr:∀ x,Free (bits,os,ks) nm x ↔ 0 <= x /\ x < 2 ^ bits.toNat /\ ¬ mB x cs:=fun x=>by rw [fr,mB_perm pm]
 repeat' walk_at "K"
 ·rfl
 refine for_m4 3 4 5 6 (fun k a3 a4 _ _ m=>m = n /\ ∃ (gs:List (Int × Int)) (be:Int),a3 = some (.own (pD gs)) /\ a4 = some (.val (.int be)) /\ NR gs /\ (∀ x,mR x gs ↔ 0 <= x /\ x < be /\ ¬ mB x (cs.take k)) /\ gs.length <= k /\ 0 <= be /\ be <= 2 ^ bits.toNat /\ (∀ b ∈ cs.take k,eB b <= be) /\ (∀ g ∈ gs,g.2 < be) /\ (∀ g ∈ gs,∀ b ∈ cs.drop k,g.2 <= b.1)) ⟨rfl,[],0,rfl,rfl,⟨(fun r hr=>nomatch hr),.nil⟩,(fun x=>⟨fun z=>absurd z mR_nil,fun z=>by lia⟩),Nat.le_refl _,Int.le_refl _,by lia,(fun r hr=>nomatch hr),(fun r hr=>nomatch hr),fun r hr=>nomatch hr⟩ ?_ ?_
 ·rintro k t' a3 a4 a5 a6 m K RT BK et ⟨rfl,gs,be,rfl,rfl,ng,me,lg,be0,be1,ti,gl,dr⟩ hK hRT hBK
  obtain ⟨i,g,eb,rfl⟩:=pD_get et
  have kl:=(List.getElem?_eq_some_iff.mp eb).1
  have Bb:=Bc _ (List.mem_of_getElem? eb)
  have g0:0 <= g:=Bb.1
  have g1:g <= bits:=Bb.2.1
  have i0:0 <= i:=(Bb.bounds (by lia)).1
  have i1:i + 2 ^ g.toNat <= 2 ^ bits.toNat:=(Bb.bounds (by lia)).2
  have pg:=two_pos g.toNat
  have tk:cs.take (k + 1) = cs.take k ++ [(i,g)]:=by rw [List.take_succ,eb]; rfl
  have dk:cs.drop k = (i,g) :: cs.drop (k + 1):=by
   rw [List.drop_eq_getElem_cons kl]
   congr 1
   have:=List.getElem?_eq_getElem kl
   rw [eb] at this
   exact (Option.some.inj this).symm
  have after:∀ b ∈ cs.drop (k + 1),i <= b.1:=fun b hb=>by
   have:=(pw.sublist (List.drop_sublist k cs))
   rw [dk] at this
   exact (List.pairwise_cons.mp this).1 b hb
  have m1:∀ x,mB x (cs.take (k + 1)) ↔ mB x (cs.take k) \/ (i <= x /\ x < i + 2 ^ g.toNat):=fun x=>by
   rw [tk,mB_app,mB_cons]
   constructor
   ·rintro (z | z | z)
    ·exact .inl z
    ·exact .inr z
    ·exact absurd z mB_nil
   ·rintro (z | z)
    ·exact .inl z
    ·exact .inr (.inl z)
  have old:∀ x,be <= x -> ¬ mB x (cs.take k):=fun x hx ⟨r,hr,h1,h2⟩=>by have:=ti r hr; lia
  have gb:∀ x,mR x gs -> x < i:=fun x ⟨r,hr,h1,h2⟩=>by
   have:r.2 <= i:=dr r hr (i,g) (by rw [dk]; simp)
   lia
  have go:∀ (gs':List (Int × Int)) (c5 c6:Option Cell) (be':Int),be' = max be (i + 2 ^ g.toNat) -> NR gs' -> (∀ x,mR x gs' ↔ mR x gs \/ (be <= x /\ x < i)) -> gs'.length <= k + 1 -> (∀ g' ∈ gs',g'.2 < be') -> (∀ g' ∈ gs',g'.2 <= i) -> K [some (.val (.tuple [.int bits,.tuple (oD os),.tuple (oD ks)])),some (.val nm),some (.val (.list (pD cs))),some (.own (pD gs')),some (.val (.int be')),c5,c6] m:=fun gs' c5 c6 be' eb' n' m' l' g' g'' =>
   hK _ _ _ _ _ ⟨rfl,gs',be',rfl,rfl,n',(fun x=>by
    rw [m',me,m1]
    have ox:=old x
    have gx:=gb x
    rw [me] at gx
    constructor
    ·rintro (z | ⟨a,b⟩)
     ·have:=gx z
      obtain ⟨a,b,c⟩:=z
      exact ⟨a,by lia,fun z=>z.elim c fun z=>by lia⟩
     ·exact ⟨by lia,by lia,fun z=>z.elim (ox a) fun z=>by lia⟩
    ·rintro ⟨a,b,c⟩
     by_cases y:x < be
     ·exact .inl ⟨a,y,fun z=>c (.inl z)⟩
     ·refine .inr ⟨by lia,?_⟩
      by_cases u:x < i
      ·exact u
      ·exact absurd (.inr ⟨by lia,by lia⟩) c),l',by lia,by lia,(fun r hr=>by
    rw [tk] at hr
    rcases List.mem_append.mp hr with z | z
    ·have:=ti r z; lia
    ·cases List.mem_singleton.mp z; show i + 2 ^ g.toNat <= _; lia),g',fun r hr b hb=>by
    have:=g'' r hr
    have:=after b hb
    lia⟩
  have mx:(if i + 1 * 2 ^ g.toNat > be then i + 1 * 2 ^ g.toNat else be) = max be (i + 2 ^ g.toNat):=by rw [one_mulP]; split <;> lia
  repeat' walk_at "K"
  ·rw [pD_len]; lia
  ·exact cpow (by lia) (by lia)
  ·rw [pD_one]
   refine go (gs ++ [(be,i)]) _ _ _ mx ⟨fun r hr=>?_,?_⟩ (fun x=>?_) (by simp; lia) (fun g' hg=>?_) fun g' hg=>?_
   ·rcases List.mem_append.mp hr with z | z
    ·exact ng.1 r z
    ·cases List.mem_singleton.mp z; exact hc
   ·rw [List.pairwise_append]
    exact ⟨ng.2,List.pairwise_singleton _ _,fun a ha b hb=>by cases List.mem_singleton.mp hb; exact gl a ha⟩
   ·rw [mR_app,mR_cons]
    constructor
    ·rintro (z | z | z)
     ·exact .inl z
     ·exact .inr z
     ·exact absurd z mR_nil
    ·rintro (z | z)
     ·exact .inl z
     ·exact .inr (.inl z)
   ·rw [mx]
    rcases List.mem_append.mp hg with z | z
    ·have:=gl g' z; lia
    ·cases List.mem_singleton.mp z; show i < _; lia
   ·rcases List.mem_append.mp hg with z | z
    ·exact dr g' z (i,g) (by rw [dk]; simp)
    ·cases List.mem_singleton.mp z; exact Int.le_refl _
  ·exact cpow (by lia) (by lia)
  ·refine go gs _ _ _ mx ng (fun x=>⟨.inl,fun z=>z.elim id fun z=>by lia⟩) (by lia) (fun g' hg=>?_) fun g' hg=>dr g' hg (i,g) (by rw [dk]; simp)
   have:=gl g' hg
   rw [mx]; lia
 ·rintro a3 a4 a5 a6 m ⟨rfl,gs,be,rfl,rfl,ng,me,lg,be0,be1,ti,gl,dr⟩
  rw [pD_len] at me lg ti
  rw [List.take_length] at me ti
  have old:∀ x,be <= x -> ¬ mB x cs:=fun x hx ⟨r,hr,h1,h2⟩=>by have:=ti r hr; lia
  repeat' walk_at "K"
  ·exact cpow (by lia) (by lia)
  ·exact cpow (by lia) (by lia)
  ·rw [pD_len]; lia
  ·rw [pD_one,one_mulP] at *
   refine h (gs ++ [(be,2 ^ bits.toNat)]) ⟨fun r hr=>?_,?_⟩ (fun x=>?_) (by simp; lia)
   ·rcases List.mem_append.mp hr with z | z
    ·exact ng.1 r z
    ·cases List.mem_singleton.mp z; exact hc
   ·rw [List.pairwise_append]
    exact ⟨ng.2,List.pairwise_singleton _ _,fun a ha b hb=>by cases List.mem_singleton.mp hb; exact gl a ha⟩
   ·rw [mR_app,mR_cons,me,fr]
    have ox:=old x
    constructor
    ·rintro (⟨a,b,c⟩ | z | z)
     ·exact ⟨a,by lia,c⟩
     ·exact ⟨by have:=z.1; lia,z.2,ox z.1⟩
     ·exact absurd z mR_nil
    ·rintro ⟨a,b,c⟩
     by_cases y:x < be
     ·exact .inl ⟨a,y,c⟩
     ·exact .inr (.inl ⟨by show be <= x; lia,b⟩)
  ·rw [one_mulP] at *
   refine h gs ng (fun x=>?_) (by lia)
   rw [me,fr]
   constructor
   ·rintro ⟨a,b,c⟩; exact ⟨a,by lia,c⟩
   ·rintro ⟨a,b,c⟩; exact ⟨a,by lia,c⟩
theorem sc__law_free:FnScope ["_law_deal_here","_law_name","_law_found","_law_low","_law_high"] ["_law_deal_here","_law_name"] (defScope (top 32)):=⟨rfl,rfl,rfl,by decide +kernel,rfl,by decide +kernel,by decide +kernel⟩
theorem pats_app:∀ {rs ss:List (Int × Int)} {ps qs:List (Int × Int)},PatS rs ps -> PatS ss qs -> PatS (rs ++ ss) (ps ++ qs)
 | [],ss,ps,qs,P,Q=>by cases (show ps = [] from P); exact Q
 | r :: rs,ss,ps,qs,P,Q=>by
  obtain ⟨a,b,rfl,A,B⟩:=P
  exact ⟨a,b ++ qs,by simp,A,pats_app B Q⟩
def g__law_free:GD:=fun ts n R=>∃ (d:Deal) (nm:PyData),ts = [dlD d,nm] /\ Dl d /\ IsWho nm /\ d.2.1.length + d.2.2.length < 64 /\ ∀ qs,CanP (Free d nm) qs -> R (.list (pD qs)) n
theorem c__law_free {d:Deal} {nm:PyData} {n:Nat} {R:PyData -> Nat -> Prop} (D:Dl d) (hw:IsWho nm) (l:d.2.1.length + d.2.2.length < 64) (h:∀ qs,CanP (Free d nm) qs -> R (.list (pD qs)) n):g__law_free [dlD d,nm] n R:=⟨d,nm,rfl,D,hw,l,h⟩
theorem ok__law_free {f:Addr} {fd:FuncData} {f__law_gaps:Addr} {fd__law_gaps:FuncData} {f__law_pieces:Addr} {fd__law_pieces:FuncData} (D:Def K mg "_law_free" (top 32) ["_law_deal_here","_law_name"] f fd)
  (D__law_gaps:Def K mg "_law_gaps" (top 31) ["_law_deal_here","_law_name"] f__law_gaps fd__law_gaps) (G__law_gaps:FnOk P w K mg base CX0 1 f__law_gaps fd__law_gaps ["_law_deal_here","_law_name"] (spD K 2 g__law_gaps))
  (D__law_pieces:Def K mg "_law_pieces" (top 30) ["_law_low","_law_high"] f__law_pieces fd__law_pieces) (G__law_pieces:FnOk P w K mg base CX0 1 f__law_pieces fd__law_pieces ["_law_low","_law_high"] (spD K 2 g__law_pieces)) (T:Txt mg):FnOk P w K mg base CX0 2 f fd ["_law_deal_here","_law_name"] (spD K 2 g__law_free):=by
 refine D.okD sc__law_free rfl fun cdv A outer s H E hr=>?_
 refine' ⟨_,(dss_cons (ds_set (i:=2) sc__law_free.nd rfl (Or.inl rfl) (de_new (dn_lst db_nil))) (dss_cons (ds_for PassesOwn.never rfl (di_list (de_fn D__law_gaps G__law_gaps (hr.mono (by decide:1 <= 1)) (db_cons (de_var 0) (db_cons (de_var 1) db_nil st_name) st_name))) (dg_tup rfl (dgs_cons (dg_name (i:=3) sc__law_free.nd rfl (Or.inl rfl)) (dgs_cons (dg_name (i:=4) sc__law_free.nd rfl (Or.inl rfl)) dgs_nil))) (dss_one (ds_set (i:=2) sc__law_free.nd rfl (Or.inl rfl) (de_new (dn_cat (dl (de_var 2)) (dl (de_fn D__law_pieces G__law_pieces (hr.mono (by decide:1 <= 1)) (db_cons (de_var 3) (db_cons (de_var 4) db_nil st_name) st_name)))))))) (dss_one (ds_ret (de_var 2))))),?_⟩
 intro ts n R hl h
 obtain ⟨d,nm,rfl,D,hw,l,h⟩:=h
 repeat' (first | with_reducible refine c__law_gaps D hw l (fun gs ng mg lg=>?_) | walk_at "K")
 have b0:=D.1
 have b1:=D.2.1
 have w:=nr_in (by lia) b1 ng mg fun x hx=>⟨hx.1,hx.2.1⟩
 refine for_m3 2 3 4 (fun k a2 _ _ m=>m = n /\ ∃ ps,a2 = some (.val (.list (pD ps))) /\ PatS (gs.take k) ps) ⟨rfl,[],rfl,rfl⟩ ?_ ?_
 ·rintro k t a2 a3 a4 m K RT BK et ⟨rfl,ps,rfl,P⟩ hK hRT hBK
  obtain ⟨lo,hi,eb,rfl⟩:=pD_get et
  have wr:=w _ (List.mem_of_getElem? eb)
  have tk:gs.take (k + 1) = gs.take k ++ [(lo,hi)]:=by rw [List.take_succ,eb]; rfl
  repeat' (first | with_reducible refine c__law_pieces wr.1 wr.2.1 wr.2.2 (fun bs B=>?_) | walk_at "K")
  ·have:=P.len fun r hr=>(fun z=>⟨z.1,z.2.2⟩) (w r (List.mem_of_mem_take hr))
   have:=B.len wr.1 wr.2.2
   rw [pD_len,pD_len]
   have:=List.length_take_le k gs
   have e:(gs.take k).length <= 100:=by simp; lia
   lia
  ·rw [pD_app]
   exact hK _ _ _ _ ⟨rfl,ps ++ bs,rfl,by rw [tk]; exact pats_app P ⟨bs,[],by simp,B,rfl⟩⟩
 ·rintro a2 a3 a4 m ⟨rfl,ps,rfl,P⟩
  rw [pD_len,List.take_length] at P
  repeat' walk_at "K"
  exact h ps ⟨gs,ng,mg,P⟩
theorem sc__law_due:FnScope ["_law_deal_here","_law_address","_law_word","_law_owned","_law_begin","_law_height","_law_name"] ["_law_deal_here","_law_address"] (defScope (top 33)):=⟨rfl,rfl,rfl,by decide +kernel,rfl,by decide +kernel,by decide +kernel⟩
def g__law_due:GD:=fun ts n R=>∃ (d:Deal) (a:Int),ts = [dlD d,.int a] /\ Dl d /\ 0 <= a /\ a < 2 ^ d.1.toNat /\ d.2.1.length + d.2.2.length < 64 /\ ∀ z,HldS d a z -> R z n
theorem c__law_due {d:Deal} {a:Int} {n:Nat} {R:PyData -> Nat -> Prop} (D:Dl d) (a0:0 <= a) (a1:a < 2 ^ d.1.toNat) (l:d.2.1.length + d.2.2.length < 64) (h:∀ z,HldS d a z -> R z n):g__law_due [dlD d,.int a] n R:=⟨d,a,rfl,D,a0,a1,l,h⟩
theorem ok__law_due {f:Addr} {fd:FuncData} {f__law_free:Addr} {fd__law_free:FuncData} (D:Def K mg "_law_due" (top 33) ["_law_deal_here","_law_address"] f fd)
  (D__law_free:Def K mg "_law_free" (top 32) ["_law_deal_here","_law_name"] f__law_free fd__law_free) (G__law_free:FnOk P w K mg base CX0 2 f__law_free fd__law_free ["_law_deal_here","_law_name"] (spD K 2 g__law_free)) (T:Txt mg):FnOk P w K mg base CX0 3 f fd ["_law_deal_here","_law_address"] (spD K 2 g__law_due):=by
 refine D.okD sc__law_due rfl fun cdv A outer s H E hr=>?_
 refine' ⟨_,(dss_cons (ds_for PassesOwn.never rfl (di_tup (de_tup (db_cons (de_tup (db_cons de_str (db_cons (de_ix (dl (de_var 0)) (dl de_int)) db_nil st_sub) st_str)) (db_cons (de_tup (db_cons de_str (db_cons (de_ix (dl (de_var 0)) (dl de_int)) db_nil st_sub) st_str)) db_nil st_tuple) st_tuple))) (dg_tup rfl (dgs_cons (dg_name (i:=2) sc__law_due.nd rfl (Or.inl rfl)) (dgs_cons (dg_name (i:=3) sc__law_due.nd rfl (Or.inl rfl)) dgs_nil))) (dss_one (ds_for PassesOwn.never rfl (di_tup (de_var 3)) (dg_tup rfl (dgs_cons (dg_tup rfl (dgs_cons (dg_name (i:=4) sc__law_due.nd rfl (Or.inl rfl)) (dgs_cons (dg_name (i:=5) sc__law_due.nd rfl (Or.inl rfl)) dgs_nil))) (dgs_cons (dg_name (i:=6) sc__law_due.nd rfl (Or.inl rfl)) dgs_nil))) (dss_one (ds_if (dt_chain op_leA gp_leA (op_ltA hr) gp_ltA (dl (de_var 4)) (dl (de_var 1)) (dl (de_add (dl (de_var 4)) (dl (de_shl (dl de_int) (dl (de_var 5))))))) (dss_one (ds_ret (de_tup (db_cons (de_var 2) (db_cons (de_var 6) (db_cons (de_tup (db_cons (de_var 4) (db_cons (de_var 5) db_nil st_name) st_name)) db_nil st_tuple) st_name) st_name)))) dss_nil))))) (dss_cons (ds_for PassesOwn.never rfl (di_list (de_fn D__law_free G__law_free (hr.mono (by decide:2 <= 2)) (db_cons (de_var 0) (db_cons de_non db_nil st_none) st_name))) (dg_tup rfl (dgs_cons (dg_name (i:=4) sc__law_due.nd rfl (Or.inl rfl)) (dgs_cons (dg_name (i:=5) sc__law_due.nd rfl (Or.inl rfl)) dgs_nil))) (dss_one (ds_if (dt_chain op_leA gp_leA (op_ltA hr) gp_ltA (dl (de_var 4)) (dl (de_var 1)) (dl (de_add (dl (de_var 4)) (dl (de_shl (dl de_int) (dl (de_var 5))))))) (dss_one (ds_ret (de_tup (db_cons de_str (db_cons de_non (db_cons (de_tup (db_cons (de_var 4) (db_cons (de_var 5) db_nil st_name) st_name)) db_nil st_tuple) st_none) st_str)))) dss_nil))) (dss_one (ds_ret de_non)))),?_⟩
 intro ts n R hl h
 obtain ⟨d,a,rfl,D,a0,a1,l,h⟩:=h
 have fn:=fun h1 h2=>free_none (d:=d) (a:=a) D a0 a1 h1 h2
 have ff:∀ {n:Nat} {R:PyData -> Nat -> Prop},(∀ qs,CanP (Free d .none) qs -> R (.list (pD qs)) n) -> g__law_free [dlD d,.none] n R:=fun {n R} z=>c__law_free D (.inl rfl) l z
 obtain ⟨bits,os,ks⟩:=d
 obtain ⟨b0,b1,S1,S2,ag⟩:=D
 have b0:1 <= bits:=b0
 have b1:bits <= 64:=b1
 have S1:Shr bits os:=S1
 have S2:Shr bits ks:=S2
 have l:os.length + ks.length < 64:=l
 rw [show dlD (bits,os,ks) = .tuple [.int bits,.tuple (oD os),.tuple (oD ks)] from rfl] at *
 repeat' walk_at "K"
 refine for_m5 2 3 4 5 6 (fun k _ _ _ _ _ m=>m = n /\ (1 <= k -> ∀ p ∈ os,¬ inB a p.1) /\ (2 <= k -> ∀ p ∈ ks,¬ inB a p.1)) ⟨rfl,fun z=>by lia,fun z=>by lia⟩ ?_ ?_
 ·rintro k t a2 a3 a4 a5 a6 m K RT BK et ⟨rfl,i0,i1⟩ hK hRT hBK
  obtain ⟨w,ws,et,Sw,good,nx⟩:∃ (w:Str) (ws:List ((Int × Int) × Str)),t = .tuple [.str w,.tuple (oD ws)] /\ Shr bits ws /\ (∀ p ∈ ws,inB a p.1 -> R (hT w (.str p.2) p.1) m) /\ ((∀ p ∈ ws,¬ inB a p.1) -> ((1 <= k + 1 -> ∀ p ∈ os,¬ inB a p.1) /\ (2 <= k + 1 -> ∀ p ∈ ks,¬ inB a p.1))):=by
   rcases k with _ | _ | k
   ·exact ⟨_,os,by simpa using et.symm,S1,fun p hp hi=>h _ (.inl ⟨p,hp,hi,rfl⟩),fun z=>⟨fun _=>z,fun q=>by lia⟩⟩
   ·exact ⟨_,ks,by simpa using et.symm,S2,fun p hp hi=>h _ (.inr (.inl ⟨i0 (by lia),p,hp,hi,rfl⟩)),fun z=>⟨fun _=>i0 (by lia),fun _=>z⟩⟩
   ·simp at et
  subst et
  repeat' walk_at "K"
  refine for_m3 4 5 6 (fun j _ _ _ m'=>m' = m /\ ∀ (i:Nat) (p:(Int × Int) × Str),i < j -> ws[i]? = some p -> ¬ inB a p.1) ⟨rfl,fun i p z=>by lia⟩ ?_ ?_
  ·rintro j t a4 a5 a6 m' K' RT' BK' et ⟨rfl,il⟩ hK' hRT' hBK'
   obtain ⟨p,ep,rfl⟩:=oD_get et
   have bk:=Sw.1.1 p.1 (List.mem_map.mpr ⟨p,List.mem_of_getElem? ep,rfl⟩)
   have g0:0 <= p.1.2:=bk.1
   have g1:p.1.2 <= bits:=bk.2.1
   have nin:¬ inB a p.1 -> ∀ (i:Nat) (q:(Int × Int) × Str),i < j + 1 -> ws[i]? = some q -> ¬ inB a q.1:=fun z i q hi eq=>by
    by_cases y:i = j
    ·subst y; rw [ep] at eq; cases eq; exact z
    ·exact il i q (by lia) eq
   have e1:∀ c:Int,c < p.1.1 + 1 * 2 ^ p.1.2.toNat ↔ c < eB p.1:=fun c=>by unfold eB; lia
   repeat' walk_at "K"
   ·exact cpow (by lia) (by lia)
   ·rename_i c1
    exact hRT' _ _ (hRT _ _ (good p (List.mem_of_getElem? ep) ⟨c1,(e1 a).mp hc⟩))
   ·exact hK' _ _ _ _ ⟨rfl,nin fun z=>hc ((e1 a).mpr z.2)⟩
   ·exact hK' _ _ _ _ ⟨rfl,nin fun z=>hc z.1⟩
  ·rintro a4 a5 a6 m' ⟨rfl,il⟩
   rw [oD_len] at il
   exact hK _ _ _ _ _ _ ⟨rfl,nx fun p hp=>by
    obtain ⟨i,ei⟩:=List.mem_iff_getElem?.mp hp
    exact il i p (List.getElem?_eq_some_iff.mp ei).1 ei⟩
 ·rintro a2 a3 a4 a5 a6 m ⟨rfl,i0,i1⟩
  have F:=fn (i0 (by simp)) (i1 (by simp))
  repeat' (first | with_reducible refine ff (fun qs C=>?_) | walk_at "K")
  have Pq:=C.ptc (bits:=bits) (by lia) fun x hx=>⟨hx.1,hx.2.1⟩
  refine for_m2 4 5 (fun j _ _ m'=>m' = m /\ ∀ (i:Nat) (p:Int × Int),i < j -> qs[i]? = some p -> ¬ inB a p) ⟨rfl,fun i p z=>by lia⟩ ?_ ?_
  ·rintro j t a4 a5 m' K' RT' BK' et ⟨rfl,il⟩ hK' hRT' hBK'
   obtain ⟨bi,bh,ep,rfl⟩:=pD_get et
   have bk:=Pq.1 (bi,bh) (List.mem_of_getElem? ep)
   have g0:0 <= bh:=bk.1
   have g1:bh <= bits:=bk.2.1
   have nin:¬ inB a (bi,bh) -> ∀ (i:Nat) (q:Int × Int),i < j + 1 -> qs[i]? = some q -> ¬ inB a q:=fun z i q hi eq=>by
    by_cases y:i = j
    ·subst y; rw [ep] at eq; cases eq; exact z
    ·exact il i q (by lia) eq
   have e1:∀ c:Int,c < bi + 1 * 2 ^ bh.toNat ↔ c < eB (bi,bh):=fun c=>by unfold eB; lia
   repeat' walk_at "K"
   ·exact cpow (by lia) (by lia)
   ·rename_i c1
    exact hRT' _ _ (h _ (.inr (.inr ⟨i0 (by simp),i1 (by simp),qs,C,(bi,bh),List.mem_of_getElem? ep,⟨c1,(e1 a).mp hc⟩,rfl⟩)))
   ·exact hK' _ _ _ ⟨rfl,nin fun z=>hc ((e1 a).mpr z.2)⟩
   ·exact hK' _ _ _ ⟨rfl,nin fun z=>hc z.1⟩
  ·rintro a4 a5 m' ⟨rfl,il⟩
   rw [pD_len] at il
   obtain ⟨b,hb,c1,c2⟩:=(C.mem a).mpr F
   obtain ⟨i,ei⟩:=List.mem_iff_getElem?.mp hb
   exact absurd ⟨c1,c2⟩ (il i b (List.getElem?_eq_some_iff.mp ei).1 ei)
theorem sc_law:FnScope ["_law_script","_law_k","_law_hand_here","_law_deal_here","_law_names_here","_law_last","_law_some","_law_wide","_law_begin","_law_height","_law_name","_law_turn","_law_address"] ["_law_script"] (defScope (top 34)):=⟨rfl,rfl,rfl,by decide +kernel,rfl,by decide +kernel,by decide +kernel⟩
theorem sm_str {s:Str} (h:PyData.canLay0 (.str s) = true) (hc:∀ c ∈ s.cps.toList,c < 16 ^ 8):Sm s.cps.size 0 (.str s) :=
 ⟨by
  simp only [PyData.leavesShort,List.all_eq_true,decide_eq_true_eq]
  exact hc,rfl,h,Nat.le_refl _,Nat.le_refl _⟩
theorem sm_nm {s:Str} (h:IsNm s):Sm 8 0 (.str s):=(sm_str (nm_ok h).1 fun c hc=>by have:=(h.2.2 c hc).2; lia).mono h.2.1 (Nat.le_refl _)
theorem pt_in {bits a:Int} {os:List (Int × Int)} (P:Ptc bits os) {i j:Nat} {p q:Int × Int} (hp:os[i]? = some p) (hq:os[j]? = some q) (ip:inB a p) (iq:inB a q):i = j:=by
 obtain ⟨hi,rfl⟩:=List.getElem?_eq_some_iff.mp hp
 obtain ⟨hj,rfl⟩:=List.getElem?_eq_some_iff.mp hq
 have pw:=List.pairwise_iff_getElem.mp P.2
 unfold inB at ip iq
 rcases Nat.lt_trichotomy i j with h | h | h
 ·have:=pw i j hi hj h; lia
 ·exact h
 ·have:=pw j i hj hi h; lia
theorem sh_in {bits a:Int} {os:List ((Int × Int) × Str)} (S:Shr bits os) {p q:(Int × Int) × Str} (hp:p ∈ os) (hq:q ∈ os) (ip:inB a p.1) (iq:inB a q.1):p = q:=by
 obtain ⟨i,ei⟩:=List.mem_iff_getElem?.mp hp
 obtain ⟨j,ej⟩:=List.mem_iff_getElem?.mp hq
 have e:=pt_in S.1 (i:=i) (j:=j) (by rw [List.getElem?_map,ei]; rfl) (by rw [List.getElem?_map,ej]; rfl) ip iq
 subst e
 rw [ei] at ej
 exact Option.some.inj ej
theorem hld_uniq {d:Deal} {a:Int} {z z':PyData} (D:Dl d) (h:HldS d a z) (k:HldS d a z'):z = z':=by
 rcases h with ⟨p,hp,ip,rfl⟩ | ⟨n1,p,hp,ip,rfl⟩ | ⟨n1,n2,qs,C,b,hb,ib,rfl⟩
 ·rcases k with ⟨q,hq,iq,rfl⟩ | ⟨m1,_⟩ | ⟨m1,_⟩
  ·rw [sh_in D.2.2.1 hp hq ip iq]
  ·exact absurd ip (m1 p hp)
  ·exact absurd ip (m1 p hp)
 ·rcases k with ⟨q,hq,iq,rfl⟩ | ⟨m1,q,hq,iq,rfl⟩ | ⟨m1,m2,_⟩
  ·exact absurd iq (n1 q hq)
  ·rw [sh_in D.2.2.2.1 hp hq ip iq]
  ·exact absurd ip (m2 p hp)
 ·rcases k with ⟨q,hq,iq,rfl⟩ | ⟨m1,q,hq,iq,rfl⟩ | ⟨m1,m2,qs',C',b',hb',ib',rfl⟩
  ·exact absurd iq (n1 q hq)
  ·exact absurd iq (n2 q hq)
  ·cases C'.uniq C fun _=>Iff.rfl
   have P:=C.ptc (bits:=d.1) (by have:=D.1; lia) fun x hx=>⟨hx.1,hx.2.1⟩
   obtain ⟨i,ei⟩:=List.mem_iff_getElem?.mp hb
   obtain ⟨j,ej⟩:=List.mem_iff_getElem?.mp hb'
   have e:=pt_in P ei ej ib ib'
   subst e
   rw [ei] at ej
   cases ej
   rfl
theorem sm_hT {w:Str} {nm:PyData} {b:Int × Int} {bits:Int} (b0:1 <= bits) (b1:bits <= 64) (hw:Sm 8 0 (.str w)) (hn:Sm 8 0 nm) (B:IsBk bits b.1 b.2):Shd (hT w nm b):=by
 have h2:=B.lt (by lia) b1
 have:=B.1
 have:=B.2.1
 have b0':=B.bounds (by lia)
 refine (sm_tuple (w:=282) (k:=1) (xs:=[.str w,nm,.tuple [.int b.1,.int b.2]]) fun x hx=>?_).shd (by simp) (by decide)
 simp only [List.mem_cons,List.not_mem_nil,or_false] at hx
 rcases hx with rfl | rfl | rfl
 ·exact hw.mono (by decide) (by decide)
 ·exact hn.mono (by decide) (by decide)
 ·exact sm_pair (by lia) (by lia)
theorem hld_shd {d:Deal} {a:Int} {z:PyData} (D:Dl d) (h:HldS d a z):Shd z:=by
 have hS:∀ s:Str,PyData.canLay0 (.str s) = true -> (∀ c ∈ s.cps.toList,c < 16 ^ 8) -> s.cps.size <= 8 -> Sm 8 0 (.str s):=fun s h1 h2 h3=>(sm_str h1 h2).mono h3 (Nat.le_refl _)
 rcases h with ⟨p,hp,ip,rfl⟩ | ⟨n1,p,hp,ip,rfl⟩ | ⟨n1,n2,qs,C,b,hb,ib,rfl⟩
 ·exact sm_hT D.1 D.2.1 (hS _ (by decide +kernel) (by decide +kernel) (by decide +kernel)) (sm_nm (D.2.2.1.2 p hp)) (D.2.2.1.1.1 _ (List.mem_map.mpr ⟨p,hp,rfl⟩))
 ·exact sm_hT D.1 D.2.1 (hS _ (by decide +kernel) (by decide +kernel) (by decide +kernel)) (sm_nm (D.2.2.2.1.2 p hp)) (D.2.2.2.1.1.1 _ (List.mem_map.mpr ⟨p,hp,rfl⟩))
 ·have P:=C.ptc (bits:=d.1) (by have:=D.1; lia) fun x hx=>⟨hx.1,hx.2.1⟩
  exact sm_hT D.1 D.2.1 (hS _ (by decide +kernel) (by decide +kernel) (by decide +kernel)) (sm_none.mono (by decide) (by decide)) (P.1 b hb)
theorem cutD_mem {ts:List PyData} {lo hi:Option Int} {t:PyData} (h:t ∈ cutD ts lo hi):t ∈ ts:=by
 unfold cutD at h
 exact List.mem_of_mem_drop (List.mem_of_mem_take h)
theorem cutD_len {ts:List PyData} {lo hi:Option Int}:(cutD ts lo hi).length <= ts.length:=by
 unfold cutD
 rw [List.length_take,List.length_drop]
 lia
theorem ok_law {f:Addr} {fd:FuncData} {f__law_hand:Addr} {fd__law_hand:FuncData} {f__law_case:Addr} {fd__law_case:FuncData} {f__law_take:Addr} {fd__law_take:FuncData} {f_holder:Addr} {fd_holder:FuncData} {f__law_due:Addr} {fd__law_due:FuncData} (D:Def K mg "law" (top 34) ["_law_script"] f fd)
  (D__law_hand:Def K mg "_law_hand" (top 19) ["_law_script","_law_k"] f__law_hand fd__law_hand) (G__law_hand:FnOk P w K mg base CX0 1 f__law_hand fd__law_hand ["_law_script","_law_k"] (spHand K))
  (D__law_case:Def K mg "_law_case" (top 29) ["_law_hand_here","_law_k"] f__law_case fd__law_case) (G__law_case:FnOk P w K mg base CX0 8 f__law_case fd__law_case ["_law_hand_here","_law_k"] (spD K 2 g__law_case))
  (D__law_take:Def K mg "_law_take" (top 20) ["_law_hand_here","_law_many"] f__law_take fd__law_take) (G__law_take:FnOk P w K mg base CX0 1 f__law_take fd__law_take ["_law_hand_here","_law_many"] (spD K 2 g_take))
  (D_holder:Def K mg "holder" (top 15) ["deal","address"] f_holder fd_holder) (G_holder:FnOk P w K mg base CX0 7 f_holder fd_holder ["deal","address"] (spD K 2 g_holder))
  (D__law_due:Def K mg "_law_due" (top 33) ["_law_deal_here","_law_address"] f__law_due fd__law_due) (G__law_due:FnOk P w K mg base CX0 3 f__law_due fd__law_due ["_law_deal_here","_law_address"] (spD K 2 g__law_due)) (T:Txt mg):FnOk P w K mg base CX0 9 f fd ["_law_script"] (spD K 1 g_law):=by
 refine D.okD sc_law rfl fun cdv A outer s H E hr=>?_
 refine' ⟨_,(dss_cons (ds_for PassesOwn.never rfl (di_range1 T.ran (de_cB (call_max2 rfl) gp_max T.max boot_maxB (dbl_cons (dl de_int) (dbl_cons (dl (de_cB (call_min2 rfl) gp_min T.min boot_minB (dbl_cons (dl de_int) (dbl_cons (dl (de_cB call_len gp_len T.len boot_lenB (dbl_cons (dl (de_var 0)) dbl_nil st_name))) dbl_nil st_call) st_int))) dbl_nil st_call) st_int))) (dg_name (i:=1) sc_law.nd rfl (Or.inl rfl)) (dss_hand (i:=2) (j:=1) D__law_hand G__law_hand (hr.mono (by decide:1 <= 8)) sc_law.nd rfl (Or.inl rfl) (dss_cons (ds_asg (de_fn D__law_case G__law_case (hr.mono (by decide:8 <= 8)) (db_cons (de_var 2) (db_cons (de_var 1) db_nil st_name) st_name)) (dg_tup rfl (dgs_cons (dg_name (i:=3) sc_law.nd rfl (Or.inl rfl)) (dgs_cons (dg_name (i:=4) sc_law.nd rfl (Or.inl rfl)) dgs_nil)))) (dss_cons (ds_set (i:=5) sc_law.nd rfl (Or.inl rfl) (de_sub (dl (de_shl (dl de_int) (dl (de_ix (dl (de_var 3)) (dl de_int))))) (dl de_int))) (dss_cons (ds_own (i:=6) sc_law.nd rfl (Or.inl rfl) (dn_lst (db_cons de_int (db_cons (de_var 5) db_nil st_name) st_int))) (dss_cons (ds_set (i:=7) sc_law.nd rfl (Or.inl rfl) (de_cT call_int1 gp_int T.int boot_int (dbl_cons (dl (de_cmp op_gt gp_B (dl (de_ix (dl (de_var 3)) (dl de_int))) (dl de_int) (nomark _))) dbl_nil st_cmp))) (dss_cons (ds_for PassesOwn.never rfl (di_tup (de_add (dl (de_sliceA (dl (de_ix (dl (de_var 3)) (dl de_int))) dp_none (dp_some (de_ix (dl (de_new (dn_lst (db_cons de_int (db_cons de_int db_nil st_int) st_int)))) (dl (de_var 7)))))) (dl (de_sliceA (dl (de_ix (dl (de_var 3)) (dl de_int))) dp_none (dp_some (de_ix (dl (de_new (dn_lst (db_cons de_int (db_cons de_int db_nil st_int) st_int)))) (dl (de_var 7)))))))) (dg_tup rfl (dgs_cons (dg_tup rfl (dgs_cons (dg_name (i:=8) sc_law.nd rfl (Or.inl rfl)) (dgs_cons (dg_name (i:=9) sc_law.nd rfl (Or.inl rfl)) dgs_nil))) (dgs_cons (dg_name (i:=10) sc_law.nd rfl (Or.inl rfl)) dgs_nil))) (dss_one (ds_own (i:=6) sc_law.nd rfl (Or.inl rfl) (dn_cat (dl_own 6) (dl (de_new (dn_lst (db_cons (de_sub (dl (de_var 8)) (dl de_int)) (db_cons (de_var 8) (db_cons (de_sub (dl (de_add (dl (de_var 8)) (dl (de_shl (dl de_int) (dl (de_var 9)))))) (dl de_int)) (db_cons (de_add (dl (de_var 8)) (dl (de_shl (dl de_int) (dl (de_var 9))))) db_nil st_bin) st_bin) st_name) st_bin)))))))) (dss_cons (ds_for PassesOwn.never rfl (di_range1 T.ran (de_ix (dl (de_new (dn_lst (db_cons de_int (db_cons de_int db_nil st_int) st_int)))) (dl (de_var 7)))) (dg_name (i:=11) sc_law.nd rfl (Or.inl rfl)) (dss_one (ds_append 6 (de_fn D__law_take G__law_take (hr.mono (by decide:1 <= 8)) (db_cons (de_var 2) (db_cons (de_add (dl (de_var 5)) (dl de_int)) db_nil st_bin) st_name))))) (dss_freeze 6 (dss_one (ds_for PassesOwn.never rfl (di_list (de_var 6)) (dg_name (i:=12) sc_law.nd rfl (Or.inl rfl)) (dss_one (ds_if (dt_of (dw_and (dt_chain op_leA gp_leA op_leA gp_leA (dl de_int) (dl (de_var 12)) (dl (de_var 5))) (dw_and1 (dt_cmp (op_neA hr) gp_ne (dl (de_cB (call_reprP hr) gp_repr T.rep boot_reprB (dbl_cons (dl (de_fn D_holder G_holder (hr.mono (by decide:7 <= 8)) (db_cons (de_var 3) (db_cons (de_var 12) db_nil st_name) st_name))) dbl_nil st_call))) (dl (de_cB (call_reprP hr) gp_repr T.rep boot_reprB (dbl_cons (dl (de_fn D__law_due G__law_due (hr.mono (by decide:3 <= 8)) (db_cons (de_var 3) (db_cons (de_var 12) db_nil st_name) st_name))) dbl_nil st_call))) (nomark _))))) (dss_one (ds_ret de_bl)) dss_nil))))))))))))) (dss_one (ds_ret de_bl))),?_⟩
 intro ts n R hl hh
 obtain ⟨ns,rfl,hl63,hh⟩:=hh
 repeat' walk_at "K"
 ·split <;> (try split) <;> lia
 ·split <;> (try split) <;> lia
 refine for_inv0 (fun _ ρ m=>∃ a1 a2 a3 a4 a5 a6 a7 a8 a9 a10 a11 a12,ρ = [some (.val (SCR ns)),a1,a2,a3,a4,a5,a6,a7,a8,a9,a10,a11,a12] /\ m = n) ⟨_,_,_,_,_,_,_,_,_,_,_,_,rfl,rfl⟩ ?_ ?_
 ·rintro k t ρ m K et ⟨a1,a2,a3,a4,a5,a6,a7,a8,a9,a10,a11,a12,rfl,rfl⟩ hK
  obtain ⟨hk,rfl⟩:=rangeD_get et
  have hk8:k < 8:=by
   revert hk
   split <;> (try split) <;> lia
  with_reducible refine Stp.go ?_
  refine i_sHandA hl63 (by lia) (by lia) fun NX RT BK CT hNX hRT hBK hCT=>?_
  repeat' (first | with_reducible refine c__law_case ?_ ?_ (fun d nms m3 D ne ln nk l1 l2 hm3=>?_) | walk_at "K")
  ·lia
  ·lia
  have hld:∀ {a:Int} {n:Nat} {R:PyData -> Nat -> Prop},0 <= a -> a < 2 ^ d.1.toNat -> (∀ z,HldS d a z -> R z n) -> g_holder [dlD d,.int a] n R:=fun {a n R} a0 a1 z=>c_holder D a0 a1 (by lia) z
  have due:∀ {a:Int} {n:Nat} {R:PyData -> Nat -> Prop},0 <= a -> a < 2 ^ d.1.toNat -> (∀ z,HldS d a z -> R z n) -> g__law_due [dlD d,.int a] n R:=fun {a n R} a0 a1 z=>c__law_due D a0 a1 (by lia) z
  have sh:∀ {a:Int} {z:PyData},HldS d a z -> Shd z:=fun {a z} h=>hld_shd D h
  have un:∀ {a:Int} {z z':PyData},HldS d a z -> HldS d a z' -> z = z':=fun {a z z'} h k=>hld_uniq D h k
  obtain ⟨bits,os,ks⟩:=d
  obtain ⟨b0,b1,S1,S2,ag⟩:=D
  have b0:1 <= bits:=b0
  have b1:bits <= 64:=b1
  have S1:Shr bits os:=S1
  have S2:Shr bits ks:=S2
  have l1:os.length <= 20:=l1
  have l2:ks.length <= 20:=l2
  have pp:=two_pos bits.toNat
  have p64:=pow_le64 (k:=bits.toNat) (by lia)
  rw [show dlD (bits,os,ks) = .tuple [.int bits,.tuple (oD os),.tuple (oD ks)] from rfl] at *
  have len2:∀ y z:Option Int,(cutD (oD os) none y ++ cutD (oD ks) none z).length <= 40:=fun y z=>by
   have h1:=cutD_len (ts:=oD os) (lo:=none) (hi:=y)
   have h2:=cutD_len (ts:=oD ks) (lo:=none) (hi:=z)
   rw [oD_len] at h1 h2
   rw [List.length_append]
   lia
  have mem2:∀ (y z:Option Int) (t:PyData),t ∈ cutD (oD os) none y ++ cutD (oD ks) none z -> ∃ p:(Int × Int) × Str,t = .tuple [.tuple [.int p.1.1,.int p.1.2],.str p.2] /\ IsBk bits p.1.1 p.1.2:=fun y z t ht=>by
   rcases List.mem_append.mp ht with ht | ht
   ·obtain ⟨p,hp,rfl⟩:=List.mem_map.mp (cutD_mem ht)
    exact ⟨p,rfl,S1.1.1 _ (List.mem_map.mpr ⟨p,hp,rfl⟩)⟩
   ·obtain ⟨p,hp,rfl⟩:=List.mem_map.mp (cutD_mem ht)
    exact ⟨p,rfl,S2.1.1 _ (List.mem_map.mpr ⟨p,hp,rfl⟩)⟩
  repeat' (first | with_reducible refine j_ixB (fun z hz=>?_) | walk_at "K")
  ·exact cpow (by lia) (by lia)
  ·exact Nat.le_trans (by rw [<- List.length_append]; exact len2 _ _) (by lia:40 <= 16777216)
  rename_i y hy
  replace mem2:=mem2 (some y) (some z)
  replace len2:=len2 (some y) (some z)
  generalize cutD (oD os) none (some y) ++ cutD (oD ks) none (some z) = ps at mem2 len2
  refine for_m4 6 8 9 10 (fun j a6 _ _ _ m=>m = m3 /\ ∃ is:List Int,a6 = some (.own (is.map .int)) /\ is.length = 2 + 4 * j) ⟨rfl,[0,1 * 2 ^ bits.toNat - 1],rfl,rfl⟩ ?_ ?_
  ·rintro j t a6 a8 a9 a10 m' K2 RT2 BK2 et2 ⟨rfl,is,rfl,li⟩ hK2 hRT2 hBK2
   obtain ⟨p,rfl,B⟩:=mem2 t (List.mem_of_getElem? et2)
   have jl:=(List.getElem?_eq_some_iff.mp et2).1
   have g0:0 <= p.1.2:=B.1
   have g1:p.1.2 <= bits:=B.2.1
   repeat' walk_at "K"
   all_goals try exact cpow (by lia) (by lia)
   ·rw [List.length_map,List.length_cons,List.length_cons,List.length_cons,List.length_cons,List.length_nil]; lia
   ·exact hK2 _ _ _ _ _ ⟨rfl,is ++ [p.1.1 - 1,p.1.1,p.1.1 + 1 * 2 ^ p.1.2.toNat - 1,p.1.1 + 1 * 2 ^ p.1.2.toNat],by simp,by simp [li]; lia⟩
  ·rintro a6 a8 a9 a10 m' ⟨rfl,is,rfl,li⟩
   repeat' (first | with_reducible refine j_ixB (fun z hz=>?_) | walk_at "K")
   ·lia
   ·lia
   rename_i x hx
   refine for_m2 6 11 (fun j a6 _ m=>m = m' + j /\ ∃ is:List Int,a6 = some (.own (is.map .int)) /\ is.length <= 162 + j) ⟨rfl,is,rfl,by lia⟩ ?_ ?_
   ·rintro j t a6 a11 m2 K2 RT2 BK2 et2 ⟨rfl,is,rfl,li⟩ hK2 hRT2 hBK2
    obtain ⟨hj,rfl⟩:=rangeD_get et2
    repeat' (first | with_reducible refine c_take ?_ ?_ ?_ (fun r r0 r1=>?_) | walk_at "K")
    ·lia
    ·rw [one_mulP]; lia
    ·lia
    ·rw [List.length_map]; lia
    ·exact hK2 _ _ _ ⟨by lia,is ++ [r],by simp,by simp; lia⟩
   ·rintro a6 a11 m2 ⟨rfl,is,rfl,li⟩
    repeat' walk_at "K"
    refine for_m1 12 (fun j _ m=>m = m' + (rangeD 0 _).length) rfl ?_ ?_
    ·rintro j t a12 m3 K2 RT2 BK2 et2 rfl hK2 hRT2 hBK2
     rw [List.getElem?_map] at et2
     cases ea:is[j]? with
     | none=>rw [ea] at et2; cases et2
     | some a =>
      rw [ea] at et2
      cases et2
      have hl1:a <= 1 * 2 ^ bits.toNat - 1 -> a < 2 ^ (bits,os,ks).1.toNat:=fun z=>by show a < 2 ^ bits.toNat; rw [one_mulP] at z; lia
      repeat' (first | with_reducible refine hld ?_ (hl1 ?_) (fun z hz=>?_) | with_reducible refine due ?_ (hl1 ?_) (fun z' hz'=>?_) | walk_at "K")
      all_goals first
       | assumption
       | exact sh hz
       | exact sh hz'
       | exact hK2 _ _ rfl
       | skip
      all_goals (exfalso; exact hc (by rw [un hz hz']))
    ·rintro a12 m3 rfl
     exact hNX _ _ (hK _ _ ⟨_,_,_,_,_,_,_,_,_,_,_,_,rfl,rfl⟩)
 ·rintro ρ m ⟨a1,a2,a3,a4,a5,a6,a7,a8,a9,a10,a11,a12,rfl,rfl⟩
  repeat' walk_at "K"
  exact hh _
end
section
theorem def_mk {K:PySem.W.Frag} {h:Heap} {mg:Str -> Option Value} {x:Str} {st:Stmt} {ps:List Str} {f:Addr} {oc:Value} {od an:Option Addr} {osl:Array (Option Value)} {kV doc pm cdv ct:Value} (X:K.In h) (G:h.Ns mainGlobals mg)
  (a:PySem.W.nsIn K mainGlobals x = some (some (.ref f))) (l:K.lookup f = some ⟨oc,od,.func (PySem.W.fnOf x x (defArgs st) (defBody st) (defScope st) .none kV doc pm an cdv ct),osl⟩) (c:PySem.W.codeIn K cdv x = true) (k:PySem.W.keepIn K (.ref f) = true)
  (hb:∀ (kV doc pm:Value) (an:Option Addr) (cdv ct:Value) (us:List Value),us.length = ps.length -> bindArgs (PySem.W.fnOf x x (defArgs st) (defBody st) (defScope st) .none kV doc pm an cdv ct) ⟨us,[]⟩ = pure (ps.zip us)) :
  Def K mg x st ps f (PySem.W.fnOf x x (defArgs st) (defBody st) (defScope st) .none kV doc pm an cdv ct):=⟨fun_mk l c k,(fun_mk l c k).binds hb,PySem.W.mg_of X G a⟩
structure DA (K:PySem.W.Frag) (x:Str) (st:Stmt) (f:Addr) (oc kV dc pm cd ct:Value) (od an:Option Addr) (sl:Array (Option Value)):Prop where
 a:PySem.W.nsIn K mainGlobals x = some (some (.ref f))
 l:K.lookup f = some ⟨oc,od,.func (PySem.W.fnOf x x (defArgs st) (defBody st) (defScope st) .none kV dc pm an cd ct),sl⟩
 c:PySem.W.codeIn K cd x = true
 k:PySem.W.keepIn K (.ref f) = true
theorem len1:∀ {us:List Value},us.length = 1 -> ∃ a0,us = [a0]
 | [a0],_=>⟨a0,rfl⟩
theorem len2:∀ {us:List Value},us.length = 2 -> ∃ a0 a1,us = [a0,a1]
 | [a0,a1],_=>⟨a0,a1,rfl⟩
theorem len3:∀ {us:List Value},us.length = 3 -> ∃ a0 a1 a2,us = [a0,a1,a2]
 | [a0,a1,a2],_=>⟨a0,a1,a2,rfl⟩
theorem len4:∀ {us:List Value},us.length = 4 -> ∃ a0 a1 a2 a3,us = [a0,a1,a2,a3]
 | [a0,a1,a2,a3],_=>⟨a0,a1,a2,a3,rfl⟩
theorem all_mk {lw:PySem.W.OpenLaw} {w:World} {K:PySem.W.Frag} {h:Heap} {mg:Str -> Option Value} {fa:Addr} (X:K.In h) (G:h.Ns mainGlobals mg) (hfa:mg "law" = some (.ref fa))
  {f1:Addr} {oc1 kV1 dc1 pm1 cd1 ct1:Value} {od1 an1:Option Addr} {sl1:Array (Option Value)}
  (e1:DA K "size_of" (top 1) f1 oc1 kV1 dc1 pm1 cd1 ct1 od1 an1 sl1)
  {f3:Addr} {oc3 kV3 dc3 pm3 cd3 ct3:Value} {od3 an3:Option Addr} {sl3:Array (Option Value)}
  (e3:DA K "fewest" (top 3) f3 oc3 kV3 dc3 pm3 cd3 ct3 od3 an3 sl3)
  {f4:Addr} {oc4 kV4 dc4 pm4 cd4 ct4:Value} {od4 an4:Option Addr} {sl4:Array (Option Value)}
  (e4:DA K "span" (top 4) f4 oc4 kV4 dc4 pm4 cd4 ct4 od4 an4 sl4)
  {f5:Addr} {oc5 kV5 dc5 pm5 cd5 ct5:Value} {od5 an5:Option Addr} {sl5:Array (Option Value)}
  (e5:DA K "rest_of" (top 5) f5 oc5 kV5 dc5 pm5 cd5 ct5 od5 an5 sl5)
  {f6:Addr} {oc6 kV6 dc6 pm6 cd6 ct6:Value} {od6 an6:Option Addr} {sl6:Array (Option Value)}
  (e6:DA K "block_with" (top 6) f6 oc6 kV6 dc6 pm6 cd6 ct6 od6 an6 sl6)
  {f7:Addr} {oc7 kV7 dc7 pm7 cd7 ct7:Value} {od7 an7:Option Addr} {sl7:Array (Option Value)}
  (e7:DA K "ended_by" (top 7) f7 oc7 kV7 dc7 pm7 cd7 ct7 od7 an7 sl7)
  {f8:Addr} {oc8 kV8 dc8 pm8 cd8 ct8:Value} {od8 an8:Option Addr} {sl8:Array (Option Value)}
  (e8:DA K "end_of" (top 8) f8 oc8 kV8 dc8 pm8 cd8 ct8 od8 an8 sl8)
  {f9:Addr} {oc9 kV9 dc9 pm9 cd9 ct9:Value} {od9 an9:Option Addr} {sl9:Array (Option Value)}
  (e9:DA K "greatest_height" (top 9) f9 oc9 kV9 dc9 pm9 cd9 ct9 od9 an9 sl9)
  {f10:Addr} {oc10 kV10 dc10 pm10 cd10 ct10:Value} {od10 an10:Option Addr} {sl10:Array (Option Value)}
  (e10:DA K "patch_of" (top 10) f10 oc10 kV10 dc10 pm10 cd10 ct10 od10 an10 sl10)
  {f11:Addr} {oc11 kV11 dc11 pm11 cd11 ct11:Value} {od11 an11:Option Addr} {sl11:Array (Option Value)}
  (e11:DA K "runs_of" (top 11) f11 oc11 kV11 dc11 pm11 cd11 ct11 od11 an11 sl11)
  {f12:Addr} {oc12 kV12 dc12 pm12 cd12 ct12:Value} {od12 an12:Option Addr} {sl12:Array (Option Value)}
  (e12:DA K "gaps_below" (top 12) f12 oc12 kV12 dc12 pm12 cd12 ct12 od12 an12 sl12)
  {f14:Addr} {oc14 kV14 dc14 pm14 cd14 ct14:Value} {od14 an14:Option Addr} {sl14:Array (Option Value)}
  (e14:DA K "free_for" (top 14) f14 oc14 kV14 dc14 pm14 cd14 ct14 od14 an14 sl14)
  {f15:Addr} {oc15 kV15 dc15 pm15 cd15 ct15:Value} {od15 an15:Option Addr} {sl15:Array (Option Value)}
  (e15:DA K "holder" (top 15) f15 oc15 kV15 dc15 pm15 cd15 ct15 od15 an15 sl15)
  {f16:Addr} {oc16 kV16 dc16 pm16 cd16 ct16:Value} {od16 an16:Option Addr} {sl16:Array (Option Value)}
  (e16:DA K "all_blocks" (top 16) f16 oc16 kV16 dc16 pm16 cd16 ct16 od16 an16 sl16)
  {f17:Addr} {oc17 kV17 dc17 pm17 cd17 ct17:Value} {od17 an17:Option Addr} {sl17:Array (Option Value)}
  (e17:DA K "kept_from" (top 17) f17 oc17 kV17 dc17 pm17 cd17 ct17 od17 an17 sl17)
  {f19:Addr} {oc19 kV19 dc19 pm19 cd19 ct19:Value} {od19 an19:Option Addr} {sl19:Array (Option Value)}
  (e19:DA K "_law_hand" (top 19) f19 oc19 kV19 dc19 pm19 cd19 ct19 od19 an19 sl19)
  {f20:Addr} {oc20 kV20 dc20 pm20 cd20 ct20:Value} {od20 an20:Option Addr} {sl20:Array (Option Value)}
  (e20:DA K "_law_take" (top 20) f20 oc20 kV20 dc20 pm20 cd20 ct20 od20 an20 sl20)
  {f21:Addr} {oc21 kV21 dc21 pm21 cd21 ct21:Value} {od21 an21:Option Addr} {sl21:Array (Option Value)}
  (e21:DA K "_law_pick" (top 21) f21 oc21 kV21 dc21 pm21 cd21 ct21 od21 an21 sl21)
  {f22:Addr} {oc22 kV22 dc22 pm22 cd22 ct22:Value} {od22 an22:Option Addr} {sl22:Array (Option Value)}
  (e22:DA K "_law_bits" (top 22) f22 oc22 kV22 dc22 pm22 cd22 ct22 od22 an22 sl22)
  {f23:Addr} {oc23 kV23 dc23 pm23 cd23 ct23:Value} {od23 an23:Option Addr} {sl23:Array (Option Value)}
  (e23:DA K "_law_block" (top 23) f23 oc23 kV23 dc23 pm23 cd23 ct23 od23 an23 sl23)
  {f24:Addr} {oc24 kV24 dc24 pm24 cd24 ct24:Value} {od24 an24:Option Addr} {sl24:Array (Option Value)}
  (e24:DA K "_law_near" (top 24) f24 oc24 kV24 dc24 pm24 cd24 ct24 od24 an24 sl24)
  {f25:Addr} {oc25 kV25 dc25 pm25 cd25 ct25:Value} {od25 an25:Option Addr} {sl25:Array (Option Value)}
  (e25:DA K "_law_blocks" (top 25) f25 oc25 kV25 dc25 pm25 cd25 ct25 od25 an25 sl25)
  {f26:Addr} {oc26 kV26 dc26 pm26 cd26 ct26:Value} {od26 an26:Option Addr} {sl26:Array (Option Value)}
  (e26:DA K "_law_patch" (top 26) f26 oc26 kV26 dc26 pm26 cd26 ct26 od26 an26 sl26)
  {f27:Addr} {oc27 kV27 dc27 pm27 cd27 ct27:Value} {od27 an27:Option Addr} {sl27:Array (Option Value)}
  (e27:DA K "_law_names" (top 27) f27 oc27 kV27 dc27 pm27 cd27 ct27 od27 an27 sl27)
  {f28:Addr} {oc28 kV28 dc28 pm28 cd28 ct28:Value} {od28 an28:Option Addr} {sl28:Array (Option Value)}
  (e28:DA K "_law_deal" (top 28) f28 oc28 kV28 dc28 pm28 cd28 ct28 od28 an28 sl28)
  {f29:Addr} {oc29 kV29 dc29 pm29 cd29 ct29:Value} {od29 an29:Option Addr} {sl29:Array (Option Value)}
  (e29:DA K "_law_case" (top 29) f29 oc29 kV29 dc29 pm29 cd29 ct29 od29 an29 sl29)
  {f30:Addr} {oc30 kV30 dc30 pm30 cd30 ct30:Value} {od30 an30:Option Addr} {sl30:Array (Option Value)}
  (e30:DA K "_law_pieces" (top 30) f30 oc30 kV30 dc30 pm30 cd30 ct30 od30 an30 sl30)
  {f31:Addr} {oc31 kV31 dc31 pm31 cd31 ct31:Value} {od31 an31:Option Addr} {sl31:Array (Option Value)}
  (e31:DA K "_law_gaps" (top 31) f31 oc31 kV31 dc31 pm31 cd31 ct31 od31 an31 sl31)
  {f32:Addr} {oc32 kV32 dc32 pm32 cd32 ct32:Value} {od32 an32:Option Addr} {sl32:Array (Option Value)}
  (e32:DA K "_law_free" (top 32) f32 oc32 kV32 dc32 pm32 cd32 ct32 od32 an32 sl32)
  {f33:Addr} {oc33 kV33 dc33 pm33 cd33 ct33:Value} {od33 an33:Option Addr} {sl33:Array (Option Value)}
  (e33:DA K "_law_due" (top 33) f33 oc33 kV33 dc33 pm33 cd33 ct33 od33 an33 sl33)
  {f34:Addr} {oc34 kV34 dc34 pm34 cd34 ct34:Value} {od34 an34:Option Addr} {sl34:Array (Option Value)}
  (e34:DA K "law" (top 34) f34 oc34 kV34 dc34 pm34 cd34 ct34 od34 an34 sl34)
  (z0:PySem.W.nsIn K mainGlobals "isinstance" = some none)
  (z1:PySem.W.nsIn K mainGlobals "int" = some none)
  (z2:PySem.W.nsIn K mainGlobals "bool" = some none)
  (z3:PySem.W.nsIn K mainGlobals "tuple" = some none)
  (z4:PySem.W.nsIn K mainGlobals "len" = some none)
  (z5:PySem.W.nsIn K mainGlobals "min" = some none)
  (z6:PySem.W.nsIn K mainGlobals "max" = some none)
  (z7:PySem.W.nsIn K mainGlobals "str" = some none)
  (z8:PySem.W.nsIn K mainGlobals "repr" = some none)
  (z9:PySem.W.nsIn K mainGlobals "all" = some none)
  (z10:PySem.W.nsIn K mainGlobals "any" = some none)
  (z11:PySem.W.nsIn K mainGlobals "range" = some none)
  (z12:PySem.W.nsIn K mainGlobals "sum" = some none)
  (z13:PySem.W.nsIn K mainGlobals "sorted" = some none)
  (z14:PySem.W.nsIn K mainGlobals "list" = some none)
  (z15:PySem.W.nsIn K mainGlobals "abs" = some none)
  (z16:PySem.W.nsIn K mainGlobals "zip" = some none)
  (z17:PySem.W.nsIn K mainGlobals "dict" = some none)
  (z18:PySem.W.nsIn K mainGlobals "reversed" = some none)
  (z19:PySem.W.nsIn K mainGlobals "enumerate" = some none)
  : ∃ fd:FuncData,(∀ (s:Shared) (v:Value),BindsTo s fd ⟨[v],[]⟩ [("_law_script",v)]) /\ ∀ base:Heap,K.In base -> base.Ns mainGlobals mg -> FnOk lw.prog w K mg base CX0 9 fa fd ["_law_script"] (spLaw K):=by
 have e:=hfa.symm.trans (PySem.W.mg_of X G e34.a)
 cases e
 have T:Txt mg:=⟨PySem.W.mg_none_of X G z0,PySem.W.mg_none_of X G z1,PySem.W.mg_none_of X G z2,PySem.W.mg_none_of X G z3,PySem.W.mg_none_of X G z4,PySem.W.mg_none_of X G z5,PySem.W.mg_none_of X G z6,PySem.W.mg_none_of X G z7,PySem.W.mg_none_of X G z8,PySem.W.mg_none_of X G z9,PySem.W.mg_none_of X G z10,PySem.W.mg_none_of X G z11,PySem.W.mg_none_of X G z12,PySem.W.mg_none_of X G z13,PySem.W.mg_none_of X G z14,PySem.W.mg_none_of X G z15,PySem.W.mg_none_of X G z16,PySem.W.mg_none_of X G z17,PySem.W.mg_none_of X G z18,PySem.W.mg_none_of X G z19⟩
 have D_size_of:=def_mk (ps:=["block"]) X G e1.a e1.l e1.c e1.k fun _ _ _ _ _ _ us hl=>by obtain ⟨_,rfl⟩:=len1 hl; rfl
 have D_fewest:=def_mk (ps:=["blocks"]) X G e3.a e3.l e3.c e3.k fun _ _ _ _ _ _ us hl=>by obtain ⟨_,rfl⟩:=len1 hl; rfl
 have D_span:=def_mk (ps:=["low","high"]) X G e4.a e4.l e4.c e4.k fun _ _ _ _ _ _ us hl=>by obtain ⟨_,_,rfl⟩:=len2 hl; rfl
 have D_rest_of:=def_mk (ps:=["bits","patch"]) X G e5.a e5.l e5.c e5.k fun _ _ _ _ _ _ us hl=>by obtain ⟨_,_,rfl⟩:=len2 hl; rfl
 have D_block_with:=def_mk (ps:=["patch","address"]) X G e6.a e6.l e6.c e6.k fun _ _ _ _ _ _ us hl=>by obtain ⟨_,_,rfl⟩:=len2 hl; rfl
 have D_ended_by:=def_mk (ps:=["patch","address"]) X G e7.a e7.l e7.c e7.k fun _ _ _ _ _ _ us hl=>by obtain ⟨_,_,rfl⟩:=len2 hl; rfl
 have D_end_of:=def_mk (ps:=["block"]) X G e8.a e8.l e8.c e8.k fun _ _ _ _ _ _ us hl=>by obtain ⟨_,rfl⟩:=len1 hl; rfl
 have D_greatest_height:=def_mk (ps:=["begin","high"]) X G e9.a e9.l e9.c e9.k fun _ _ _ _ _ _ us hl=>by obtain ⟨_,_,rfl⟩:=len2 hl; rfl
 have D_patch_of:=def_mk (ps:=["runs"]) X G e10.a e10.l e10.c e10.k fun _ _ _ _ _ _ us hl=>by obtain ⟨_,rfl⟩:=len1 hl; rfl
 have D_runs_of:=def_mk (ps:=["blocks"]) X G e11.a e11.l e11.c e11.k fun _ _ _ _ _ _ us hl=>by obtain ⟨_,rfl⟩:=len1 hl; rfl
 have D_gaps_below:=def_mk (ps:=["runs","top"]) X G e12.a e12.l e12.c e12.k fun _ _ _ _ _ _ us hl=>by obtain ⟨_,_,rfl⟩:=len2 hl; rfl
 have D_free_for:=def_mk (ps:=["deal","name"]) X G e14.a e14.l e14.c e14.k fun _ _ _ _ _ _ us hl=>by obtain ⟨_,_,rfl⟩:=len2 hl; rfl
 have D_holder:=def_mk (ps:=["deal","address"]) X G e15.a e15.l e15.c e15.k fun _ _ _ _ _ _ us hl=>by obtain ⟨_,_,rfl⟩:=len2 hl; rfl
 have D_all_blocks:=def_mk (ps:=["pairs"]) X G e16.a e16.l e16.c e16.k fun _ _ _ _ _ _ us hl=>by obtain ⟨_,rfl⟩:=len1 hl; rfl
 have D_kept_from:=def_mk (ps:=["deal","name"]) X G e17.a e17.l e17.c e17.k fun _ _ _ _ _ _ us hl=>by obtain ⟨_,_,rfl⟩:=len2 hl; rfl
 have D__law_hand:=def_mk (ps:=["_law_script","_law_k"]) X G e19.a e19.l e19.c e19.k fun _ _ _ _ _ _ us hl=>by obtain ⟨_,_,rfl⟩:=len2 hl; rfl
 have D__law_take:=def_mk (ps:=["_law_hand_here","_law_many"]) X G e20.a e20.l e20.c e20.k fun _ _ _ _ _ _ us hl=>by obtain ⟨_,_,rfl⟩:=len2 hl; rfl
 have D__law_pick:=def_mk (ps:=["_law_hand_here","_law_some"]) X G e21.a e21.l e21.c e21.k fun _ _ _ _ _ _ us hl=>by obtain ⟨_,_,rfl⟩:=len2 hl; rfl
 have D__law_bits:=def_mk (ps:=["_law_hand_here"]) X G e22.a e22.l e22.c e22.k fun _ _ _ _ _ _ us hl=>by obtain ⟨_,rfl⟩:=len1 hl; rfl
 have D__law_block:=def_mk (ps:=["_law_hand_here","_law_bits_here"]) X G e23.a e23.l e23.c e23.k fun _ _ _ _ _ _ us hl=>by obtain ⟨_,_,rfl⟩:=len2 hl; rfl
 have D__law_near:=def_mk (ps:=["_law_hand_here","_law_bits_here","_law_block_here"]) X G e24.a e24.l e24.c e24.k fun _ _ _ _ _ _ us hl=>by obtain ⟨_,_,_,rfl⟩:=len3 hl; rfl
 have D__law_blocks:=def_mk (ps:=["_law_hand_here","_law_bits_here","_law_most"]) X G e25.a e25.l e25.c e25.k fun _ _ _ _ _ _ us hl=>by obtain ⟨_,_,_,rfl⟩:=len3 hl; rfl
 have D__law_patch:=def_mk (ps:=["_law_hand_here","_law_bits_here","_law_most"]) X G e26.a e26.l e26.c e26.k fun _ _ _ _ _ _ us hl=>by obtain ⟨_,_,_,rfl⟩:=len3 hl; rfl
 have D__law_names:=def_mk (ps:=["_law_hand_here","_law_many"]) X G e27.a e27.l e27.c e27.k fun _ _ _ _ _ _ us hl=>by obtain ⟨_,_,rfl⟩:=len2 hl; rfl
 have D__law_deal:=def_mk (ps:=["_law_hand_here","_law_bits_here","_law_names_here","_law_most"]) X G e28.a e28.l e28.c e28.k fun _ _ _ _ _ _ us hl=>by obtain ⟨_,_,_,_,rfl⟩:=len4 hl; rfl
 have D__law_case:=def_mk (ps:=["_law_hand_here","_law_k"]) X G e29.a e29.l e29.c e29.k fun _ _ _ _ _ _ us hl=>by obtain ⟨_,_,rfl⟩:=len2 hl; rfl
 have D__law_pieces:=def_mk (ps:=["_law_low","_law_high"]) X G e30.a e30.l e30.c e30.k fun _ _ _ _ _ _ us hl=>by obtain ⟨_,_,rfl⟩:=len2 hl; rfl
 have D__law_gaps:=def_mk (ps:=["_law_deal_here","_law_name"]) X G e31.a e31.l e31.c e31.k fun _ _ _ _ _ _ us hl=>by obtain ⟨_,_,rfl⟩:=len2 hl; rfl
 have D__law_free:=def_mk (ps:=["_law_deal_here","_law_name"]) X G e32.a e32.l e32.c e32.k fun _ _ _ _ _ _ us hl=>by obtain ⟨_,_,rfl⟩:=len2 hl; rfl
 have D__law_due:=def_mk (ps:=["_law_deal_here","_law_address"]) X G e33.a e33.l e33.c e33.k fun _ _ _ _ _ _ us hl=>by obtain ⟨_,_,rfl⟩:=len2 hl; rfl
 have D_law:=def_mk (ps:=["_law_script"]) X G e34.a e34.l e34.c e34.k fun _ _ _ _ _ _ us hl=>by obtain ⟨_,rfl⟩:=len1 hl; rfl
 refine ⟨PySem.W.fnOf "law" "law" (defArgs (top 34)) (defBody (top 34)) (defScope (top 34)) .none kV34 dc34 pm34 an34 cd34 ct34,fun s v=>.of_eq rfl,fun base _ _=>?_⟩
 have G_size_of:=ok_size_of (P:=lw.prog) (w:=w) (base:=base) D_size_of  T
 have G_end_of:=ok_end_of (P:=lw.prog) (w:=w) (base:=base) D_end_of D_size_of G_size_of T
 have G_greatest_height:=ok_greatest_height (P:=lw.prog) (w:=w) (base:=base) D_greatest_height  T
 have G_span:=ok_span (P:=lw.prog) (w:=w) (base:=base) D_span D_end_of G_end_of D_greatest_height G_greatest_height T
 have G_patch_of:=ok_patch_of (P:=lw.prog) (w:=w) (base:=base) D_patch_of D_span G_span T
 have G_runs_of:=ok_runs_of (P:=lw.prog) (w:=w) (base:=base) D_runs_of D_end_of G_end_of T
 have G_fewest:=ok_fewest (P:=lw.prog) (w:=w) (base:=base) D_fewest D_patch_of G_patch_of D_runs_of G_runs_of T
 have G_gaps_below:=ok_gaps_below (P:=lw.prog) (w:=w) (base:=base) D_gaps_below  T
 have G_rest_of:=ok_rest_of (P:=lw.prog) (w:=w) (base:=base) D_rest_of D_patch_of G_patch_of D_gaps_below G_gaps_below D_runs_of G_runs_of T
 have G_ended_by:=ok_ended_by (P:=lw.prog) (w:=w) (base:=base) D_ended_by D_end_of G_end_of T
 have G_block_with:=ok_block_with (P:=lw.prog) (w:=w) (base:=base) D_block_with D_ended_by G_ended_by T
 have G_all_blocks:=ok_all_blocks (P:=lw.prog) (w:=w) (base:=base) D_all_blocks  T
 have G_kept_from:=ok_kept_from (P:=lw.prog) (w:=w) (base:=base) D_kept_from  T
 have G_free_for:=ok_free_for (P:=lw.prog) (w:=w) (base:=base) D_free_for D_rest_of G_rest_of D_fewest G_fewest D_all_blocks G_all_blocks D_kept_from G_kept_from T
 have G_holder:=ok_holder (P:=lw.prog) (w:=w) (base:=base) D_holder D_block_with G_block_with D_all_blocks G_all_blocks D_free_for G_free_for T
 have G__law_hand:=ok__law_hand (P:=lw.prog) (w:=w) (base:=base) D__law_hand  T
 have G__law_take:=ok__law_take (P:=lw.prog) (w:=w) (base:=base) D__law_take  T
 have G__law_pick:=ok__law_pick (P:=lw.prog) (w:=w) (base:=base) D__law_pick D__law_take G__law_take T
 have G__law_bits:=ok__law_bits (P:=lw.prog) (w:=w) (base:=base) D__law_bits D__law_pick G__law_pick T
 have G__law_block:=ok__law_block (P:=lw.prog) (w:=w) (base:=base) D__law_block D__law_pick G__law_pick D__law_take G__law_take T
 have G__law_near:=ok__law_near (P:=lw.prog) (w:=w) (base:=base) D__law_near D__law_pick G__law_pick D__law_block G__law_block T
 have G__law_blocks:=ok__law_blocks (P:=lw.prog) (w:=w) (base:=base) D__law_blocks D__law_take G__law_take D__law_block G__law_block D__law_near G__law_near D__law_pick G__law_pick T
 have G__law_patch:=ok__law_patch (P:=lw.prog) (w:=w) (base:=base) D__law_patch D__law_blocks G__law_blocks T
 have G__law_names:=ok__law_names (P:=lw.prog) (w:=w) (base:=base) D__law_names D__law_take G__law_take D__law_pick G__law_pick T
 have G__law_deal:=ok__law_deal (P:=lw.prog) (w:=w) (base:=base) D__law_deal D__law_patch G__law_patch D__law_pick G__law_pick D__law_take G__law_take T
 have G__law_case:=ok__law_case (P:=lw.prog) (w:=w) (base:=base) D__law_case D__law_names G__law_names D__law_bits G__law_bits D__law_take G__law_take D__law_deal G__law_deal T
 have G__law_pieces:=ok__law_pieces (P:=lw.prog) (w:=w) (base:=base) D__law_pieces  T
 have G__law_gaps:=ok__law_gaps (P:=lw.prog) (w:=w) (base:=base) D__law_gaps  T
 have G__law_free:=ok__law_free (P:=lw.prog) (w:=w) (base:=base) D__law_free D__law_gaps G__law_gaps D__law_pieces G__law_pieces T
 have G__law_due:=ok__law_due (P:=lw.prog) (w:=w) (base:=base) D__law_due D__law_free G__law_free T
 have G_law:=ok_law (P:=lw.prog) (w:=w) (base:=base) D_law D__law_hand G__law_hand D__law_case G__law_case D__law_take G__law_take D_holder G_holder D__law_due G__law_due T
 exact G_law.imp law_imp
theorem walk {lw:PySem.W.OpenLaw} {q:Program} {loose:List Str} {XP:(Str -> Option Value) -> Heap -> Prop} {YP:World -> Heap -> Prop} {d:DefRec} {K:Params -> PySem.W.Frag} (hn:lw.most = some 63) (hdf:d.params.defaults = [])
  (hY:∀ (w:World) (h:Heap),YP w h -> (K w.params).In h)
  (F:∀ (w:World) (mg:Str -> Option Value) (fa:Addr) (h:Heap),(K w.params).In h -> h.Ns mainGlobals mg -> mg d.name = some (.ref fa) ->
   ∃ fd:FuncData,(∀ (s:Shared) (u:Value),BindsTo s fd ⟨[u],[]⟩ [("_law_script",u)]) /\ ∀ base:Heap,(K w.params).In base -> base.Ns mainGlobals mg -> FnOk lw.prog w (K w.params) mg base CX0 9 fa fd ["_law_script"] (spLaw (K w.params))) :
  PySem.W.WalkO q loose XP YP lw.row.toRowW d [] (fun f vs=>PySem.call f vs) :=
 L2.walk_of (n:=63) (k:=9) (x:="_law_script") (CX:=fun _=>CX0) (sp:=fun w=>spLaw (K w.params)) hn (by decide) hdf ⟨rfl,by decide,by decide,rfl⟩ hY F (fun _ _ a ns hl _ hS=>⟨a,ns,rfl,hS,hl,fun _=>rfl⟩) fun _ _ _ _ _ z=>z
end
end Bd
open PySem PySem.W PyProof.Rows
set_option maxRecDepth 100000 in
set_option maxHeartbeats 0 in
theorem PySem.Challenge.cw_blockdeal_k24_holders_holds : PySem.Challenge.rw_blockdeal_k24_holders.Holds := by
 w_on; o_law; k_head; (case hw=>w_witness2)
 k_fill
 refine Bd.walk (lw:=PySem.Challenge.rw_blockdeal_k24_holders) rfl rfl (fun w h Y=>PySem.W.kIn_of Y) ?F
 case F =>
  intro w mg fa h KX G hmg
  refine' Bd.all_mk KX G hmg ⟨?a1,?l1,?c1,?k1⟩ ⟨?a3,?l3,?c3,?k3⟩ ⟨?a4,?l4,?c4,?k4⟩ ⟨?a5,?l5,?c5,?k5⟩ ⟨?a6,?l6,?c6,?k6⟩ ⟨?a7,?l7,?c7,?k7⟩ ⟨?a8,?l8,?c8,?k8⟩ ⟨?a9,?l9,?c9,?k9⟩ ⟨?a10,?l10,?c10,?k10⟩ ⟨?a11,?l11,?c11,?k11⟩ ⟨?a12,?l12,?c12,?k12⟩ ⟨?a14,?l14,?c14,?k14⟩ ⟨?a15,?l15,?c15,?k15⟩ ⟨?a16,?l16,?c16,?k16⟩ ⟨?a17,?l17,?c17,?k17⟩ ⟨?a19,?l19,?c19,?k19⟩ ⟨?a20,?l20,?c20,?k20⟩ ⟨?a21,?l21,?c21,?k21⟩ ⟨?a22,?l22,?c22,?k22⟩ ⟨?a23,?l23,?c23,?k23⟩ ⟨?a24,?l24,?c24,?k24⟩ ⟨?a25,?l25,?c25,?k25⟩ ⟨?a26,?l26,?c26,?k26⟩ ⟨?a27,?l27,?c27,?k27⟩ ⟨?a28,?l28,?c28,?k28⟩ ⟨?a29,?l29,?c29,?k29⟩ ⟨?a30,?l30,?c30,?k30⟩ ⟨?a31,?l31,?c31,?k31⟩ ⟨?a32,?l32,?c32,?k32⟩ ⟨?a33,?l33,?c33,?k33⟩ ⟨?a34,?l34,?c34,?k34⟩  ?z0 ?z1 ?z2 ?z3 ?z4 ?z5 ?z6 ?z7 ?z8 ?z9 ?z10 ?z11 ?z12 ?z13 ?z14 ?z15 ?z16 ?z17 ?z18 ?z19
  (case a1=>k_is); (case l1=>k_is); (case c1=>k_is); (case k1=>k_is)
  (case a3=>k_is); (case l3=>k_is); (case c3=>k_is); (case k3=>k_is)
  (case a4=>k_is); (case l4=>k_is); (case c4=>k_is); (case k4=>k_is)
  (case a5=>k_is); (case l5=>k_is); (case c5=>k_is); (case k5=>k_is)
  (case a6=>k_is); (case l6=>k_is); (case c6=>k_is); (case k6=>k_is)
  (case a7=>k_is); (case l7=>k_is); (case c7=>k_is); (case k7=>k_is)
  (case a8=>k_is); (case l8=>k_is); (case c8=>k_is); (case k8=>k_is)
  (case a9=>k_is); (case l9=>k_is); (case c9=>k_is); (case k9=>k_is)
  (case a10=>k_is); (case l10=>k_is); (case c10=>k_is); (case k10=>k_is)
  (case a11=>k_is); (case l11=>k_is); (case c11=>k_is); (case k11=>k_is)
  (case a12=>k_is); (case l12=>k_is); (case c12=>k_is); (case k12=>k_is)
  (case a14=>k_is); (case l14=>k_is); (case c14=>k_is); (case k14=>k_is)
  (case a15=>k_is); (case l15=>k_is); (case c15=>k_is); (case k15=>k_is)
  (case a16=>k_is); (case l16=>k_is); (case c16=>k_is); (case k16=>k_is)
  (case a17=>k_is); (case l17=>k_is); (case c17=>k_is); (case k17=>k_is)
  (case a19=>k_is); (case l19=>k_is); (case c19=>k_is); (case k19=>k_is)
  (case a20=>k_is); (case l20=>k_is); (case c20=>k_is); (case k20=>k_is)
  (case a21=>k_is); (case l21=>k_is); (case c21=>k_is); (case k21=>k_is)
  (case a22=>k_is); (case l22=>k_is); (case c22=>k_is); (case k22=>k_is)
  (case a23=>k_is); (case l23=>k_is); (case c23=>k_is); (case k23=>k_is)
  (case a24=>k_is); (case l24=>k_is); (case c24=>k_is); (case k24=>k_is)
  (case a25=>k_is); (case l25=>k_is); (case c25=>k_is); (case k25=>k_is)
  (case a26=>k_is); (case l26=>k_is); (case c26=>k_is); (case k26=>k_is)
  (case a27=>k_is); (case l27=>k_is); (case c27=>k_is); (case k27=>k_is)
  (case a28=>k_is); (case l28=>k_is); (case c28=>k_is); (case k28=>k_is)
  (case a29=>k_is); (case l29=>k_is); (case c29=>k_is); (case k29=>k_is)
  (case a30=>k_is); (case l30=>k_is); (case c30=>k_is); (case k30=>k_is)
  (case a31=>k_is); (case l31=>k_is); (case c31=>k_is); (case k31=>k_is)
  (case a32=>k_is); (case l32=>k_is); (case c32=>k_is); (case k32=>k_is)
  (case a33=>k_is); (case l33=>k_is); (case c33=>k_is); (case k33=>k_is)
  (case a34=>k_is); (case l34=>k_is); (case c34=>k_is); (case k34=>k_is)
  (case z0=>k_is); (case z1=>k_is); (case z2=>k_is); (case z3=>k_is); (case z4=>k_is); (case z5=>k_is); (case z6=>k_is); (case z7=>k_is); (case z8=>k_is); (case z9=>k_is); (case z10=>k_is); (case z11=>k_is); (case z12=>k_is); (case z13=>k_is); (case z14=>k_is); (case z15=>k_is); (case z16=>k_is); (case z17=>k_is); (case z18=>k_is); (case z19=>k_is)
