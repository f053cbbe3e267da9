import PyProof.Rows.All
import Wide.All
import OpenK.AllK
import Wide.FinOn
import Lean
import PyProof.EqAt
import PyProof.EqKinds
import PyProof.TupleCall
import PySem.Challenge.RW_blockdeal_k22_what_is_no_deal
local macro_rules | `(tactic| walk_at "V") => `(tactic| first | exact Or.inl rfl | exact Or.inr (Or.inl rfl) | exact Or.inr (Or.inr rfl))
local macro_rules | `(tactic| walk_at "F") => `(tactic| first | exact .inl rfl | exact .inr rfl | assumption)
abbrev qF:=PySem.W.Frag
abbrev qB:=List (Int×Int)
abbrev qN:=PySem.PyData->Nat->Prop
abbrev qM:=PySem.Str->Option PySem.Value
abbrev qV:=PySem.Value->PySem.Shared->Prop
abbrev qD:=List PySem.PyData
abbrev qO:=List (PySem.Addr×PySem.Obj)
set_option Elab.async false
set_option linter.all false
set_option maxRecDepth 100000
set_option maxHeartbeats 4000000
namespace L2
open PySem PySem.Spec PyProof.Rows
abbrev Key:=Sum Int Str
def Zu:Key->Value->Bool
 | .inl k,v=>Value.isInt k v
 | .inr x,v=>Value.isStrOf x v
def keyH(w:World):Key->Int
 | .inl k=>hashInt k
 | .inr x=>hashStr w x
theorem Um:∀{k:Key}{v:Value},Zu k v=true->(∃i t,k=Sum.inl i/\v=Value.int i t)\/(∃x t,k=Sum.inr x/\v=Value.str x t)
 | .inl i,v,h=>by
  obtain⟨t,e⟩:=Value.isInt_shape (k:=i) (v:=v) h;exact .inl ⟨i,t,rfl,e⟩
 | .inr x,v,h=>by
  obtain⟨t,e⟩:=Value.isStrOf_shape (x:=x) (v:=v) h;exact .inr ⟨x,t,rfl,e⟩
theorem zgs(i:Int)(t:Tok):Zu (.inl i) (.int i t)=true:=by simp[Zu,Value.isInt]
theorem zpD(a b:Int):decide ((Sum.inl a:Key)=Sum.inl b)=(a == b):=by
 by_cases e:a=b
 ·subst e;simp
 ·have h:¬(Sum.inl a:Key)=Sum.inl b:=fun q=>e (Sum.inl.inj q)
  rw[decide_eq_false h];exact(beq_eq_false_iff_ne.mpr e).symm
theorem zpA(a b:Str):decide ((Sum.inr a:Key)=Sum.inr b)=decide (a=b):=by
 by_cases e:a=b
 ·subst e;simp
 ·have h:¬(Sum.inr a:Key)=Sum.inr b:=fun q=>e (Sum.inr.inj q)
  rw[decide_eq_false h,decide_eq_false e]
theorem zpC(a:Int)(b:Str):decide ((Sum.inl a:Key)=Sum.inr b)=false:=decide_eq_false (fun q=>nomatch q)
theorem zpB(a:Str)(b:Int):decide ((Sum.inr a:Key)=Sum.inl b)=false:=decide_eq_false (fun q=>nomatch q)
def YO(prog:Program)(w:World):PySem.KeyKind prog w Key where
 is:=Zu
 hash:=keyH w
 inj:=fun v a b ha hb=>by
  rcases Um ha with⟨i,t,rfl,rfl⟩|⟨x,t,rfl,rfl⟩
  ·rcases Um hb with⟨j,u,rfl,e⟩|⟨y,u,rfl,e⟩
   ·injection e with e1 _;rw[e1]
   ·exact nomatch e
  ·rcases Um hb with⟨j,u,rfl,e⟩|⟨y,u,rfl,e⟩
   ·exact nomatch e
   ·injection e with e1 _;rw[e1]
 byValue:=fun k v h=>by
  rcases Um h with⟨i,t,rfl,rfl⟩|⟨x,t,rfl,rfl⟩ <;> rfl
 pyHash:=fun hv h=>by
  rcases Um hv with⟨i,t,rfl,rfl⟩|⟨x,t,rfl,rfl⟩
  ·exact wpAny_pyHash_int h
  ·exact wpAny_pyHash_str h
 eqBool:=fun hu hv h=>by
  rcases Um hu with⟨i,t,rfl,rfl⟩|⟨x,t,rfl,rfl⟩
  ·rcases Um hv with⟨j,u,rfl,rfl⟩|⟨y,u,rfl,rfl⟩
   ·rw[zpD]at h;exact wpAny_eqBool_int h
   ·rw[zpC]at h;exact SeqAt.EqAt.int_str i t y u _ _ _ _ h
  ·rcases Um hv with⟨j,u,rfl,rfl⟩|⟨y,u,rfl,rfl⟩
   ·rw[zpB]at h;exact SeqAt.EqAt.str_int x t j u _ _ _ _ h
   ·rw[zpA]at h;exact wpAny_eqBool_str h
 «strs»:=fun k x t v h=>by
  rcases Um h with⟨i,u,rfl,e⟩|⟨y,u,rfl,e⟩
  ·exact nomatch e
  ·injection e with e1 _
   subst e1;cases v <;> rfl
inductive V where
 | non|bl (b:Bool)|int (i:Int)|str (x:Str)|byt (b:Array UInt8)|flt (b:UInt64)|ref (a:Addr)|ty (n:String)
 deriving DecidableEq
def RelV:V->Value->Prop
 | .non,u=>u=Value.none
 | .bl b,u=>u=Value.bool b
 | .int i,u=>∃t,u=Value.int i t
 | .str x,u=>∃t,u=Value.str x t
 | .byt b,u=>∃t,u=Value.bytes b t
 | .flt b,u=>∃t,u=Value.float b t
 | .ref a,u=>u=Value.ref a
 | .ty n,u=>u=Value.type n
abbrev Vals:List V->List Value->Prop:=Paired RelV
theorem Vals.length{xs:List V}{us:List Value}(r:Vals xs us):xs.length=us.length:=Paired.length r
theorem Vals.get:∀{xs:List V}{us:List Value}{i:Nat}{x:V},Vals xs us->xs[i]?=some x->∃u,us[i]?=some u/\RelV x u
 | _,_,_,_,.nil,e=>by simp at e
 | _,_,0,_,.cons r _,e=>by simp at e;subst e;exact⟨_,rfl,r⟩
 | _,_,i+1,x,.cons _ t,e=>by
  obtain⟨u,h1,h2⟩:=Vals.get (i:=i) (x:=x) t (by simpa using e)
  exact⟨u,by simpa using h1,h2⟩
theorem Vals.set{x:V}{u:Value}(r:RelV x u):∀{xs:List V}{us:List Value} (i:Nat),Vals xs us->Vals (xs.set i x) (us.set i u)
 | _,_,_,.nil=>.nil
 | _,_,0,.cons _ t=>.cons r t
 | _,_,i+1,.cons q t=>.cons q (Vals.set r i t)
theorem Vals.append:∀{xs ys:List V}{us ws:List Value},Vals xs us->Vals ys ws->Vals (xs++ys) (us++ws)
 | _,_,_,_,.nil,s=>s
 | _,_,_,_,.cons r t,s=>.cons r (Vals.append t s)
theorem Vals.take:∀{xs:List V}{us:List Value} (n:Nat),Vals xs us->Vals (xs.take n) (us.take n)
 | _,_,0,_=>.nil
 | _,_,_+1,.nil=>.nil
 | _,_,n+1,.cons r t=>.cons r (Vals.take n t)
theorem Vals.drop:∀{xs:List V}{us:List Value} (n:Nat),Vals xs us->Vals (xs.drop n) (us.drop n)
 | _,_,0,r=>r
 | _,_,_+1,.nil=>.nil
 | _,_,n+1,.cons _ t=>Vals.drop n t
def RelO:Option V->Option Value->Prop
 | some v,some u=>RelV v u
 | none,none=>True
 | _,_=>False
def KV{κ:Type}:List (κ×V)->List (κ×Value)->Prop:=Paired fun(p:κ×V) (q:κ×Value)=>p.1=q.1/\RelV p.2 q.2
def kV:Key->V
 | .inl i=>.int i
 | .inr x=>.str x
inductive HO where
 | lst (xs:List V)
 | tup (xs:List V)
 | dK (kvs:List (Key×V))|dT (kvs:List (List Key×V))
 | set (S:Int->Bool) (n:Nat)
 | ins (C dx:Addr) (fs:List (Str×V))
 | own (x:Addr)
 | xd (fs:List (Str×V))
 | met (f x:Addr)
 | rng (lo hi:Int)
 | frz (o:Obj) (u:HO)
 | tbl (ps:Array Value)
 | ext (φ:Heap->Prop)
abbrev Hp:=Addr->Option HO
def upd(H:Hp)(a:Addr)(o:HO):Hp:=fun b=>if b=a then some o else H b
theorem J1{H:Hp}{a:Addr}{o:HO}:upd H a o a=some o:=by unfold upd;rw[if_pos rfl]
theorem Jy{H:Hp}{a b:Addr}{o:HO}(h:b≠a):upd H a o b=H b:=by unfold upd;rw[if_neg h]
theorem Q7{H:Hp}{a b:Addr}{o:HO}(h:H a=some o)(h':H b=none):a≠b:=by
 intro e;subst e;rw[h]at h';cases h'
def IsTD(h:Heap)(a:Addr)(items:Array Value):Prop:=∃o,h.get? a=some o/\o.cls=.type "tuple" /\ (∃n,o.data=.seq items n)/\o.dict=none
theorem IsTD.tup{h:Heap}{a:Addr}{items:Array Value}(x:IsTD h a items):IsTup h a items:=by
 obtain⟨o,e,c,d,_⟩:=x;exact⟨o,e,c,d⟩
theorem IsTD.lt{h:Heap}{a:Addr}{items:Array Value}(x:IsTD h a items):a<h.objs.size:=x.tup.lt
theorem IsTD.new(h:Heap)(items:Array Value):IsTD (h.push { cls:=.type "tuple",data:=.seq items }) h.objs.size items:=⟨_,Heap.get?_push_size _ rfl,rfl,⟨_,rfl⟩,rfl⟩
section
variable(P:Program)(w:World)
def JM(H:Hp)(h:Heap)(a:Addr):HO->Prop
 | .lst xs=>xs.length<=sizeLine/\∃(its:List Value) (n:Nat),Vals xs its/\h.get? a=some { cls:=.type "list",data:=.seq its.toArray n }
 | .tup xs=>xs.length<=sizeLine/\∃its:List Value,Vals xs its/\IsTD h a its.toArray
 | .dK kvs=>kvs.length<=sizeLine/\(a == sysModules)=false/\∃vs,KV kvs vs/\h.DictOf (YO P w) a vs
 | .dT kvs=>kvs.length<=sizeLine/\(a == sysModules)=false/\∃xs:List (List Key×Addr×Value),
   Paired (fun(p:List Key×V) (q:List Key×Addr×Value)=>p.1=q.1/\H q.2.1=some (.tup (p.1.map kV))/\RelV p.2 q.2.2) kvs xs /\
   ∃o es ep,h.get? a=some o/\o.ExactDict/\o.data=.dict es ep/\es.toList=xs.map (entryOfKey (tupleKind (YO P w)))/\(xs.map (·.1)).Nodup
 | .set S n=>h.SetOf (intKind P w) a S n
 | .ins C dx fs=>H dx=some (.own a)/\fs.length<=1000/\dx≠a/\h.get? a=some (PySem.W.instObj C dx) /\
   ∃mA,h.Ns1 dx mA/\(∀f,RelO (fs.lookup f) (mA f))/\PySem.Within mA (fs.map (·.1))
 | .own _=>∃o,h.get? a=some o
 | .xd fs=>∃mA,h.Ns1 a mA/\∀f,RelO (fs.lookup f) (mA f)
 | .rng lo hi=>∃t u v,h.get? a=some { cls:=.type "range",data:=.fields #[.int lo t,.int hi u,.int 1 v] }
 | .frz o u=>h.get? a=some o/\JM H h a u
 | .tbl ps=>h.get? a=some { cls:=.none,data:=.fields ps }
 | .met f x=>h.get? a=some (PySem.W.methodObj (.ref f) (.ref x))
 | .ext φ=>φ h/\(∃o,h.get? a=some o)/\∀h1 h2:Heap,φ h1->(∀o,h1.get? a=some o->h2.get? a=some o)->φ h2
def HOk(H:Hp)(h:Heap):Prop:=∀a o,H a=some o->JM P w H h a o
end
section
variable{P:Program}{w:World}{H H':Hp}{h h':Heap}{a:Addr}{o:HO}
theorem JM.lt(x:JM P w H h a o):a<h.objs.size:=by
 cases o with
 | lst xs=>obtain⟨_,_,_,_,e⟩:=x;exact Heap.lt_size e
 | tup xs=>obtain⟨_,_,_,p⟩:=x;exact p.lt
 | dK kvs=>obtain⟨_,_,_,_,o,_,_,e,_⟩:=x;exact Heap.lt_size e
 | dT kvs=>obtain⟨_,_,_,_,o,_,_,e,_⟩:=x;exact Heap.lt_size e
 | set S n=>obtain⟨o,_,_,_,e,_⟩:=x;exact Heap.lt_size e
 | ins C dx fs=>obtain⟨_,_,_,e,_⟩:=x;exact Heap.lt_size e
 | own y=>obtain⟨_,e⟩:=x;exact Heap.lt_size e
 | xd fs=>obtain⟨_,⟨_,_,_,e,_⟩,_⟩:=x;exact Heap.lt_size e
 | rng lo hi=>obtain⟨_,_,_,e⟩:=x;exact Heap.lt_size e
 | frz ob u=>obtain⟨e,_⟩:=x;exact Heap.lt_size e
 | tbl ps=>exact Heap.lt_size (show h.get? a=some _ from x)
 | met f y=>exact Heap.lt_size (show h.get? a=some _ from x)
 | ext φ=>obtain⟨_,⟨_,e⟩,_⟩:=x;exact Heap.lt_size e
theorem Paired.mapP{α β:Type}{F G:α->β->Prop}:∀{l₁:List α}{l₂:List β},Paired F l₁ l₂->(∀a b,F a b->G a b)->Paired G l₁ l₂
 | _,_,.nil,_=>.nil
 | _,_,.cons r t,f=>.cons (f _ _ r) (Paired.mapP t f)
theorem JM.stay(x:JM P w H h a o)(k:∀b u,(b=a\/H b=some (.own a))->h.get? b=some u->h'.get? b=some u)
  (ho:∀b,H b=some (.own a)->H' b=some (.own a)) (ht:∀b xs,H b=some (.tup xs)->H' b=some (.tup xs)):JM P w H' h' a o:=by
 induction o with
 | lst xs=>obtain⟨z,its,n,r,e⟩:=x;exact⟨z,its,n,r,k _ _ (.inl rfl) e⟩
 | tup xs=>obtain⟨z,its,r,ob,e,c⟩:=x;exact⟨z,its,r,ob,k _ _ (.inl rfl) e,c⟩
 | dK kvs=>obtain⟨z,y,vs,r,ob,es,ep,e,c⟩:=x;exact⟨z,y,vs,r,ob,es,ep,k _ _ (.inl rfl) e,c⟩
 | dT kvs =>
  obtain⟨z,y,xs,r,ob,es,ep,e,c⟩:=x;exact⟨z,y,xs,Paired.mapP r fun p q z=>⟨z.1,ht _ _ z.2.1,z.2.2⟩,ob,es,ep,k _ _ (.inl rfl) e,c⟩
 | set S n=>obtain⟨ob,es,ep,t,e,c⟩:=x;exact⟨ob,es,ep,t,k _ _ (.inl rfl) e,c⟩
 | ins C dx fs =>
  obtain⟨d,z,ne,e,mA,⟨od,es,ep,e2,c⟩,r⟩:=x;exact⟨ho _ d,z,ne,k _ _ (.inl rfl) e,mA,⟨od,es,ep,k _ _ (.inr d) e2,c⟩,r⟩
 | own y=>obtain⟨ob,e⟩:=x;exact⟨ob,k _ _ (.inl rfl) e⟩
 | xd fs=>obtain⟨mA,⟨od,es,ep,e,c⟩,r⟩:=x;exact⟨mA,⟨od,es,ep,k _ _ (.inl rfl) e,c⟩,r⟩
 | rng lo hi=>obtain⟨t,u,v,e⟩:=x;exact⟨t,u,v,k _ _ (.inl rfl) e⟩
 | frz ob u ih=>obtain⟨e,q⟩:=x;exact⟨k _ _ (.inl rfl) e,ih q⟩
 | tbl ps =>
  have e:h.get? a=some { cls:=.none,data:=.fields ps }:=x;show h'.get? a=some { cls:=.none,data:=.fields ps }
  exact k a _ (.inl rfl) e
 | met f y =>
  have e:h.get? a=some (PySem.W.methodObj (.ref f) (.ref y)):=x;show h'.get? a=some (PySem.W.methodObj (.ref f) (.ref y))
  exact k a _ (.inl rfl) e
 | ext φ=>obtain⟨p,⟨o,e⟩,st⟩:=x;exact⟨st _ _ p fun o q=>k _ _ (.inl rfl) q,⟨o,k _ _ (.inl rfl) e⟩,st⟩
theorem HOk.lt(x:HOk P w H h)(e:H a=some o):a<h.objs.size:=(x a o e).lt
theorem HOk.fresh(x:HOk P w H h)(e:h.objs.size<=a):H a=none:=by
 cases q:H a with
 | none=>rfl
 | some u=>exact absurd (Nat.lt_of_lt_of_le (x.lt q) e) (Nat.lt_irrefl _)
theorem HOk.kept(x:HOk P w H h)(k:∀b u,h.get? b=some u->h'.get? b=some u):HOk P w H h':=fun a o e =>
 (x a o e).stay (fun b u _ q=>k b u q) (fun _ q=>q) fun _ _ q=>q
theorem HOk.laid(x:HOk P w H h)(k:∀b u,h.get? b=some u->h'.get? b=some u)(hp:h.objs.size<=a)(new:JM P w (upd H a o) h' a o):HOk P w (upd H a o) h':=fun b u e=>by
 have hn:=x.fresh hp
 by_cases hb:b=a
 ·subst hb;rw[J1]at e;cases e;exact new
 ·rw[Jy hb]at e;exact(x b u e).stay (fun c v _ q=>k c v q) (fun c q=>by rw[Jy (Q7 q hn)];exact q) fun c xs q=>by rw[Jy (Q7 q hn)];exact q
end
def Rd(H:Hp)(a:Addr)(u:HO):Prop:=H a=some u\/∃o,H a=some (.frz o u)
theorem Rd.ok{P:Program}{w:World}{H:Hp}{h:Heap}{a:Addr}{u:HO}(r:Rd H a u)(x:HOk P w H h):JM P w H h a u:=by
 rcases r with r|⟨o,r⟩
 ·exact x a u r
 ·obtain⟨_,q⟩:=x a _ r;exact q
def Mut:Option HO->Prop
 | some (.lst _)=>True
 | some (.dK _)=>True
 | some (.dT _)=>True
 | some (.set _ _)=>True
 | some (.ins _ _ _)=>True
 | some (.ext _)=>True
 | _=>False
section
variable{P:Program}{w:World}{H:Hp}{h h':Heap}{x e:Addr}{o':HO}
theorem HOk.write(ok:HOk P w H h)(mu:Mut (H x))(he:e=x\/H e=some (.own x))(k:∀b u,b≠e->h.get? b=some u->h'.get? b=some u)(heo:∃u,h'.get? e=some u)
  (new:JM P w (upd H x o') h' x o'):HOk P w (upd H x o') h':=fun b u q=>by
 have nown:∀c y,H c=some (.own y)->c≠x:=fun c y r z=>by subst z;rw[r]at mu;exact mu
 have ntup:∀c xs,H c=some (.tup xs)->c≠x:=fun c xs r z=>by subst z;rw[r]at mu;exact mu
 by_cases hb:b=x
 ·subst hb;rw[J1]at q;cases q;exact new
 ·rw[Jy hb]at q
  by_cases hbe:b=e
  ·have q':H b=some (.own x):=by
    rcases he with z|z
    ·exact absurd (hbe.trans z) hb
    ·rw[hbe];exact z
   rw[q]at q';cases q';obtain⟨v,hv⟩:=heo;exact⟨v,by rw[hbe];exact hv⟩
  ·refine(ok b u q).stay (fun c v hc r=>k c v ?_ r) (fun c r=>by rw[Jy (nown c b r)];exact r) fun c xs r=>by rw[Jy (ntup c xs r)];exact r
   rcases hc with rfl|hc
   ·exact hbe
   ·rintro rfl;rcases he with z|z
    ·exact nown c b hc z
    ·rw[hc]at z;cases z;exact hb rfl
end
structure Un(fs ex:List Addr)(H H':Hp)(h h':Heap):Prop where
 keep:∀b o,h.get? b=some o->H b=none->b∉fs->b∉ex->h'.get? b=some o
 slot:∀b o,h.get? b=some o->H b=none->b∈fs->b∉ex->∃sl,h'.get? b=some { o with slots:=sl }
 free:∀b o,h.get? b=some o->H b=none->b∉ex->H' b=none
 there:∀b o,h.get? b=some o->b∉ex->∃o',h'.get? b=some o'
 tups:∀b xs,H b=some (.tup xs)->H' b=some (.tup xs)
 frzs:∀b o u,H b=some (.frz o u)->H' b=some (.frz o u)
 tbls:∀b ps,H b=some (.tbl ps)->∃more,H' b=some (.tbl (ps++more))
section
variable{fs fs' ex ex':List Addr}{H H1 H2:Hp}{h h1 h2 h':Heap}{a x e:Addr}{o:HO}
theorem Un.any(u:Un fs ex H H1 h h1){b:Addr}{ob:Obj}(q:h.get? b=some ob)(n:H b=none)(hx:b∉ex):∃sl,h1.get? b=some { ob with slots:=sl }:=by
 by_cases hb:b∈fs
 ·exact u.slot b ob q n hb hx
 ·exact⟨ob.slots,u.keep b ob q n hb hx⟩
theorem Un.kept(k:∀b u,h.get? b=some u->h'.get? b=some u):Un fs ex H H h h' :=
 ⟨fun b ob q _ _ _=>k b ob q,fun b ob q _ _ _=>⟨ob.slots,k b ob q⟩,fun _ _ _ n _=>n,fun b ob q _=>⟨ob,k b ob q⟩,fun _ _ q=>q,fun _ _ _ q=>q,fun _ ps q=>⟨#[],by rw[q];simp⟩⟩
theorem Un.refl:Un fs ex H H h h:=Un.kept fun _ _ q=>q
theorem Un.laid(k:∀b u,h.get? b=some u->h'.get? b=some u)(hp:h.objs.size<=a)(hn:H a=none):Un fs ex H (upd H a o) h h' where
 keep:=fun b u q _ _ _=>k b u q
 slot:=fun b u q _ _ _=>⟨u.slots,k b u q⟩
 free:=fun b u q n _=>by rw[Jy (Nat.ne_of_lt (Nat.lt_of_lt_of_le (Heap.lt_size q) hp))];exact n
 there:=fun b u q _=>⟨u,k b u q⟩
 tups:=fun b xs q=>by rw[Jy (Q7 q hn)];exact q
 frzs:=fun b u xs q=>by rw[Jy (Q7 q hn)];exact q
 tbls:=fun b ps q=>⟨#[],by rw[Jy (Q7 q hn),q];simp⟩
theorem Un.write(mu:Mut (H x))(he:e=x\/H e=some (.own x))(k:∀b u,b≠e->h.get? b=some u->h'.get? b=some u)(heo:∃u,h'.get? e=some u):Un fs ex H (upd H x o) h h':=by
 have hx:∀b,H b=none->b≠x:=fun b n z=>by subst z;rw[n]at mu;exact mu
 have hb:∀b,H b=none->b≠e:=fun b n z=>by
  subst z;rcases he with r|r
  ·exact hx b n r
  ·rw[n]at r;cases r
 have hm:∀b u,H b=some u->¬Mut (some u)->b≠x:=fun b u q nm z=>by subst z;rw[q]at mu;exact nm mu
 refine⟨fun b u q n _ _=>k b u (hb b n) q,fun b u q n _ _=>⟨u.slots,k b u (hb b n) q⟩,fun b u q n _=>by rw[Jy (hx b n)];exact n,fun b u q _=>?_,
  fun b xs q=>by rw[Jy (hm b _ q fun z=>z)];exact q,fun b u xs q=>by rw[Jy (hm b _ q fun z=>z)];exact q,fun b ps q=>⟨#[],by rw[Jy (hm b _ q fun z=>z),q];simp⟩⟩
 by_cases hbe:b=e
 ·subst hbe;exact heo
 ·exact⟨u,k b u hbe q⟩
end
def trk(h:Heap)(H:Hp):List Addr:=(List.range h.objs.size).filter fun a=>(H a).isSome
def hidT(h:Heap)(H:Hp):Heap:=PySem.W.hideAll h (trk h H)
theorem zkh(h:Heap)(H:Hp):(hidT h H).objs.size=h.objs.size:=PySem.W.hideAll_size _ _
theorem zl5{h:Heap}{H:Hp}{b:Addr}{o:Obj}(e:h.get? b=some o)(n:H b=none):(hidT h H).get? b=some o :=
 PySem.W.hideAll_get _ e fun hm=>by
  have q:(H b).isSome=true:=(List.mem_filter.mp hm).2;rw[n]at q;simp at q
theorem znw{h:Heap}{H:Hp}{b:Addr}{o:Obj}(e:(hidT h H).get? b=some o):h.get? b=some o/\H b=none:=by
 have e':h.get? b=some o:=PySem.W.of_hideAll (trk h H) e;refine⟨e',?_⟩;cases q:H b with
 | none=>rfl
 | some x =>
  have hm:b∈trk h H:=List.mem_filter.mpr ⟨List.mem_range.mpr (Heap.lt_size e'),by simp[q]⟩
  have z:(hidT h H).get? b=none:=PySem.W.hideAll_none (trk h H) hm;rw[z]at e;cases e
structure Mod(K:qF)(mg:qM)(base:Heap):Prop where
 kin:K.In base
 glob:base.Ns mainGlobals mg
 blt:∃mb,base.Ns builtinsNs mb/\∀x:Str,x ≠ "__name__" -> mb x=bootBuiltins x
 nolimit:base.NoLimit
structure Cx where
 prog:Program
 w:World
 K:qF
 mg:Str->Option Value
 base:Heap
 A:Around
 N:List Str
 s₀:Shared
 H₀:Hp
 env:Env
 outer:List Env
 stack:List Env
 ex:List Addr
 fn:Str->Bool
 calm:Bool
 pn:List (Addr×Obj)
 xe:Value->Shared->Prop
def frs(l:List Env):List Addr:=l.filterMap (·.frame)
abbrev Cx.fs(X:Cx):List Addr:=frs X.outer
def Vis(sc:Scope)(x:Str):Prop:=sc.names.lookup x=some .local\/sc.names.lookup x=some .cell\/sc.names.lookup x=some .free
def Loc(sc:Scope)(x:Str):Prop:=sc.names.lookup x=some .local\/sc.names.lookup x=some .cell
def Look(env:Env)(h:Heap)(m:qM)(x:Str)(u:Value):Prop :=
 (env.kindOf x=some .local/\m x=some u)\/((env.kindOf x=some .cell\/env.kindOf x=some .free)/\∃c,env.cells.lookup x=some c/\h.IsCell c (some u))
structure Cx.Ok(X:Cx):Prop where
 mod:Mod X.K X.mg X.base
 kind:X.env.scope.kind=.function
 glob:X.env.globals=mainGlobals
 blt:X.env.builtins=builtinsNs
 above:X.s₀.heap.objs.size<=X.env.locals
 inj:∀x y c,X.env.cells.lookup x=some c->X.env.cells.lookup y=some c->x=y
 has:∀x,(X.env.kindOf x=some .cell\/X.env.kindOf x=some .free)->∃c,X.env.cells.lookup x=some c
 cab:∀x c,X.fn x=true->X.env.cells.lookup x=some c->X.s₀.heap.objs.size<=c
 hd:X.calm=true->X.A.handled=none
 frames:X.A.frames=some X.stack
 stk:X.stack=X.outer\/(X.stack=X.env::X.outer/\X.env.frame=some X.env.locals)
 exf:∀b∈X.ex,b≠X.env.locals/\∀x c,X.env.cells.lookup x=some c->c≠b
 bs:∀b o,X.base.get? b=some o->X.s₀.heap.get? b=some o/\X.H₀ b=none
 bsz:X.base.objs.size<=X.s₀.heap.objs.size
 noex:∀b o,X.base.get? b=some o->b∉X.ex
 exfs:∀b∈X.ex,b∉X.fs
 funs:X.s₀.heap.FunFrames X.base X.outer
 frf:∀b∈X.fs,X.H₀ b=none
structure Inv(X:Cx)(pins:qO)(σ:List (Option V))(H:Hp)(s:Shared):Prop where
 ok:X.Ok
 os:s.os=X.s₀.os
 bare:AllBare s.gens
 base:Un X.fs X.ex X.H₀ H X.s₀.heap s.heap
 loc:∃m,s.heap.Ns X.env.locals m/\∀(i:Nat) (x:Str) (v:V),X.N[i]?=some x->σ[i]?=some (some v)->Vis X.env.scope x->∃u,RelV v u/\Look X.env s.heap m x u
 cell:∀x c,X.env.cells.lookup x=some c->∃v,s.heap.IsCell c v
 free:H X.env.locals=none
 freeC:∀x c,X.env.cells.lookup x=some c->H c=none
 pin:∀p∈X.pn++pins,s.heap.get? p.1=some p.2/\H p.1=none/\p.1≠X.env.locals/\p.1∉X.fs/\∀v,p.2.data≠.cell v
 hok:HOk X.prog X.w H s.heap
 len:σ.length=X.N.length
section
variable{X:Cx}{pins:qO}{σ:List (Option V)}{H H':Hp}{s:Shared}{h':Heap}
theorem Cx.Ok.nofr(ok:X.Ok){b:Addr}{o:Obj}(e:X.base.get? b=some o):b∉X.fs:=fun hb=>by
 have:=(ok.funs.mem hb).1;rw[e]at this;cases this
theorem Inv.bs(I:Inv X pins σ H s):∀b o,X.base.get? b=some o->s.heap.get? b=some o/\H b=none:=fun b o e =>
 ⟨I.base.keep b o (I.ok.bs b o e).1 (I.ok.bs b o e).2 (I.ok.nofr e) (I.ok.noex b o e),I.base.free b o (I.ok.bs b o e).1 (I.ok.bs b o e).2 (I.ok.noex b o e)⟩
theorem Inv.bk(I:Inv X pins σ H s):∀b o,X.base.get? b=some o->s.heap.get? b=some o:=fun b o e=>(I.bs b o e).1
theorem Inv.mod(I:Inv X pins σ H s):Mod X.K X.mg X.base:=I.ok.mod
theorem Inv.kIn(I:Inv X pins σ H s):X.K.In s.heap:=I.ok.mod.kin.keeps I.bk
theorem Inv.lt(I:Inv X pins σ H s):X.env.locals<s.heap.objs.size:=let ⟨_,hn,_⟩:=I.loc;hn.lt
theorem Inv.sz(I:Inv X pins σ H s):X.s₀.heap.objs.size<=s.heap.objs.size:=Nat.le_trans I.ok.above (Nat.le_of_lt I.lt)
theorem Inv.nofs(I:Inv X pins σ H s){a:Addr}(h:s.heap.objs.size<=a):a∉X.fs:=fun hb=>by
 obtain⟨_,o,ho,_⟩:=I.ok.funs.mem hb;exact absurd (Nat.lt_of_lt_of_le (Heap.lt_size ho) (Nat.le_trans I.sz h)) (Nat.lt_irrefl _)
theorem Inv.cne(I:Inv X pins σ H s):∀x c,X.env.cells.lookup x=some c->c≠X.env.locals:=fun x c e z=>by
 obtain⟨v,o,ho,hd⟩:=I.cell x c e;obtain⟨m,⟨o',es,ep,ho',hd',_⟩,_⟩:=I.loc;rw[z,ho']at ho;cases ho;rw[hd']at hd;cases hd
theorem Inv.funs(I:Inv X pins σ H s):s.heap.FunFrames X.base X.outer:=by
 have all:∀(l:List Env),(∀b∈frs l,b∈X.fs)->X.s₀.heap.FunFrames X.base l->s.heap.FunFrames X.base l:=by
  intro l;induction l with
  | nil=>intro _ _;trivial
  | cons env r ih =>
   intro hs hl;obtain⟨hk,⟨L,o,hf,hn,ho,hd⟩,hr⟩:=hl;have hL:L∈X.fs:=hs L (by unfold frs;rw[List.filterMap_cons,hf];exact List.mem_cons_self)
   obtain⟨sl,e⟩:=I.base.slot L o ho (I.ok.frf L hL) hL fun z=>I.ok.exfs L z hL
   exact⟨hk,⟨L,_,hf,hn,e,hd⟩,ih (fun b hb=>hs b (by unfold frs;rw[List.filterMap_cons,hf];exact List.mem_cons_of_mem _ hb)) hr⟩
 exact all X.outer (fun _ hb=>hb) I.ok.funs
theorem Inv.stack(I:Inv X pins σ H s):s.heap.FunFrames X.base X.stack:=by
 rcases I.ok.stk with e|⟨e,hf⟩
 ·rw[e];exact I.funs
 ·rw[e];obtain⟨m,hn,_⟩:=I.loc;refine .cons (by rw[I.ok.kind];decide) hf hn ?_ I.funs
  exact Heap.get?_none_of_le (Nat.le_trans I.ok.bsz I.ok.above)
theorem Inv.stkSub(I:Inv X pins σ H s):∀b∈frs X.stack,b∈X.env.locals::X.fs:=fun b hb=>by
 rcases I.ok.stk with e|⟨e,hf⟩
 ·rw[e]at hb;exact List.mem_cons_of_mem _ hb
 ·rw[e]at hb;unfold frs at hb;rw[List.filterMap_cons,hf]at hb;exact hb
theorem Inv.stkFree(I:Inv X pins σ H s):∀b∈frs X.stack,H b=none:=fun b hb=>by
 rcases List.mem_cons.mp (I.stkSub b hb) with e|hb
 ·rw[e];exact I.free
 ·obtain⟨_,o,ho,_⟩:=I.ok.funs.mem hb;exact I.base.free b o ho (I.ok.frf b hb) fun z=>I.ok.exfs b z hb
theorem Inv.step{g':Array GenState}{t':Nat}{d':Drawn}{ch:List Addr}(I:Inv X pins σ H s)
  (hch:∀b∈ch,(b∈X.ex\/X.s₀.heap.objs.size<=b)/\b≠X.env.locals/\(∀x c,X.env.cells.lookup x=some c->c≠b)/\∀p∈X.pn++pins,p.1≠b)
  (keep:∀b o,b≠X.env.locals->b∉X.fs->b∉ch->s.heap.get? b=some o->H b=none->h'.get? b=some o)
  (slot:∀b o,b≠X.env.locals->b∈X.fs->b∉ch->s.heap.get? b=some o->H b=none->∃sl,h'.get? b=some { o with slots:=sl }) (free:∀b o,b∉ch->s.heap.get? b=some o->H b=none->H' b=none)
  (there:∀b o,b∉ch->s.heap.get? b=some o->∃o',h'.get? b=some o')
  (tups:∀b xs,H b=some (.tup xs)->H' b=some (.tup xs)) (frzs:∀b o u,H b=some (.frz o u)->H' b=some (.frz o u)) (tbls:∀b ps,H b=some (.tbl ps)->∃more,H' b=some (.tbl (ps++more)))
  (ns:∀m,s.heap.Ns X.env.locals m->h'.Ns X.env.locals m) (hok:HOk X.prog X.w H' h') (hg:AllBare g') :
  Inv X pins σ H' { s with heap:=h',gens:=g',drawn:=d',toks:=t' }:=by
 have neL:∀b o,X.s₀.heap.get? b=some o->b≠X.env.locals:=fun b o e=>Nat.ne_of_lt (Nat.lt_of_lt_of_le (Heap.lt_size e) I.ok.above)
 have neC:∀b o,X.s₀.heap.get? b=some o->b∉X.ex->b∉ch:=fun b o e hx hb=>by
  rcases(hch b hb).1 with z|z
  ·exact hx z
  ·exact absurd (Nat.lt_of_lt_of_le (Heap.lt_size e) z) (Nat.lt_irrefl _)
 have cellK:∀x c,X.env.cells.lookup x=some c->∀v,s.heap.IsCell c v->h'.IsCell c v:=fun x c e v ⟨o,ho,hd⟩=>by
  have nch:c∉ch:=fun z=>(hch c z).2.2.1 x c e rfl
  by_cases hc:c∈X.fs
  ·obtain⟨sl,q⟩:=slot c o (I.cne x c e) hc nch ho (I.freeC x c e);exact⟨_,q,hd⟩
  ·exact⟨o,keep c o (I.cne x c e) hc nch ho (I.freeC x c e),hd⟩
 refine⟨I.ok,I.os,hg,⟨fun b o e n hb hx=>?_,fun b o e n hb hx=>?_,fun b o e n hx=>?_,fun b o e hx=>?_,fun b xs e=>tups b xs (I.base.tups b xs e),fun b o xs e=>frzs b o xs (I.base.frzs b o xs e),fun b ps e=>?_⟩,?_,fun x c e=>?_,?_,fun x c e=>?_,fun p hp=>?_,hok,I.len⟩
 ·exact keep b o (neL b o e) hb (neC b o e hx) (I.base.keep b o e n hb hx) (I.base.free b o e n hx)
 ·obtain⟨sl,e1⟩:=I.base.slot b o e n hb hx;obtain⟨sl',e2⟩:=slot b _ (neL b o e) hb (neC b o e hx) e1 (I.base.free b o e n hx);exact⟨sl',e2⟩
 ·obtain⟨o',e1⟩:=I.base.there b o e hx;exact free b o' (neC b o e hx) e1 (I.base.free b o e n hx)
 ·obtain⟨o',e1⟩:=I.base.there b o e hx;exact there b o' (neC b o e hx) e1
 ·obtain⟨m1,e1⟩:=I.base.tbls b ps e;obtain⟨m2,e2⟩:=tbls b _ e1;exact⟨m1++m2,by rw[e2,Array.append_assoc]⟩
 ·obtain⟨m,hn,hl⟩:=I.loc;refine⟨m,ns m hn,fun i x v e1 e2 e3=>?_⟩
  obtain⟨u,r,l⟩:=hl i x v e1 e2 e3;refine⟨u,r,?_⟩;rcases l with l|⟨k,c,e,z⟩
  ·exact .inl l
  ·exact .inr ⟨k,c,e,cellK x c e _ z⟩
 ·obtain⟨v,z⟩:=I.cell x c e;exact⟨v,cellK x c e v z⟩
 ·obtain⟨m,⟨o,_,_,ho,_⟩,_⟩:=I.loc;exact free _ o (fun z=>(hch _ z).2.1 rfl) ho I.free
 ·obtain⟨v,o,ho,hd⟩:=I.cell x c e;exact free c o (fun z=>(hch c z).2.2.1 x c e rfl) ho (I.freeC x c e)
 ·obtain⟨e,n,ne,nf,d⟩:=I.pin p hp;have nch:p.1∉ch:=fun z=>(hch p.1 z).2.2.2 p hp rfl
  exact⟨keep p.1 p.2 ne nf nch e n,free p.1 p.2 nch e n,ne,nf,d⟩
theorem Inv.un{t':Nat}(I:Inv X pins σ H s)(u:Un X.fs [] H H' s.heap h')(hok:HOk X.prog X.w H' h'):Inv X pins σ H' { s with heap:=h',toks:=t' }:=by
 obtain⟨m,⟨o,es,ep,ho,r⟩,_⟩:=id I.loc;obtain⟨sl,hL⟩:=u.any ho I.free (by simp)
 exact I.step (g':=s.gens) (d':=s.drawn) (ch:=[]) (fun _ z=>nomatch z) (fun b o _ hb _ e n=>u.keep b o e n hb (by simp)) (fun b o _ hb _ e n=>u.slot b o e n hb (by simp)) (fun b o _ e n=>u.free b o e n (by simp)) (fun b o _ e=>u.there b o e (by simp)) u.tups u.frzs u.tbls (fun m' hm=>by
  obtain⟨o',es',ep',ho',r'⟩:=hm;rw[ho]at ho';cases ho';exact⟨_,es',ep',hL,r'⟩) hok I.bare
theorem Inv.call{g':Array GenState}{t':Nat}{d':Drawn}{ch:List Addr}(I:Inv X pins σ H s)(u:Un (frs X.stack) ch H H' s.heap h')(hok:HOk X.prog X.w H' h')(hg:AllBare g')
  (hch:∀b∈ch,(b∈X.ex\/X.s₀.heap.objs.size<=b)/\b≠X.env.locals/\(∀x c,X.env.cells.lookup x=some c->c≠b)/\∀p∈X.pn++pins,p.1≠b) :
  Inv X pins σ H' { s with heap:=h',gens:=g',drawn:=d',toks:=t' }:=by
 obtain⟨m,⟨o,es,ep,ho,r⟩,_⟩:=id I.loc;obtain⟨sl,hL⟩:=u.any ho I.free fun z=>(hch _ z).2.1 rfl
 exact I.step (ch:=ch) hch (fun b o hL hb hc e n=>u.keep b o e n (fun z=>(List.mem_cons.mp (I.stkSub b z)).elim hL hb) hc) (fun b o _ _ hc e n=>u.any e n hc) (fun b o hc e n=>u.free b o e n hc) (fun b o hc e=>u.there b o e hc) u.tups u.frzs u.tbls (fun m' hm=>by
  obtain⟨o',es',ep',ho',r'⟩:=hm;rw[ho]at ho';cases ho';exact⟨_,es',ep',hL,r'⟩) hok hg
theorem Inv.turned{t':Nat}{it:Addr}(I:Inv X pins σ H s)(k:∀b o,b≠it->s.heap.get? b=some o->h'.get? b=some o)(hn:H it=none)(hL:it≠X.env.locals)
  (h1:it∈X.ex\/X.s₀.heap.objs.size<=it) (h2:∀x c,X.env.cells.lookup x=some c->c≠it) (h3:∀p∈X.pn++pins,p.1≠it):Inv X pins σ H { s with heap:=h',toks:=t' }:=by
 have nit:∀b u,H b=some u->b≠it:=fun b u e z=>by rw[z,hn]at e;cases e
 refine I.step (g':=s.gens) (d':=s.drawn) (ch:=[it]) (fun b hb=>?_) (fun b o _ _ hc e _=>k b o (fun z=>hc (by simp[z])) e) (fun b o _ _ hc e _=>⟨o.slots,k b o (fun z=>hc (by simp[z])) e⟩) (fun _ _ _ _ n=>n)
  (fun b o hc e=>⟨o,k b o (fun z=>hc (by simp[z])) e⟩) (fun _ _ e=>e) (fun _ _ _ e=>e) (fun b ps e=>⟨#[],by rw[e];simp⟩) (fun m hm=>?_) (fun b u e=>?_) I.bare
 ·have e:b=it:=by simpa using hb
  subst e;exact⟨h1,hL,h2,h3⟩
 ·obtain⟨o,es,ep,ho,r⟩:=hm;exact⟨o,es,ep,k _ o (Ne.symm hL) ho,r⟩
 ·refine(I.hok b u e).stay (fun c v hc q=>k c v ?_ q) (fun _ q=>q) fun _ _ q=>q
  rcases hc with z|z
  ·rw[z];exact nit b u e
  ·exact nit c _ z
theorem Inv.tok(I:Inv X pins σ H s)(t:Nat):Inv X pins σ H { s with toks:=t }:=I.un (h':=s.heap) (t':=t) Un.refl I.hok
theorem Inv.kept{t':Nat}(I:Inv X pins σ H s)(k:∀b u,s.heap.get? b=some u->h'.get? b=some u):Inv X pins σ H { s with heap:=h',toks:=t' }:=I.un (Un.kept k) (I.hok.kept k)
theorem Inv.laid{a:Addr}{o:HO}{t':Nat}(I:Inv X pins σ H s)(k:∀b u,s.heap.get? b=some u->h'.get? b=some u)(hp:s.heap.objs.size<=a)(new:JM X.prog X.w (upd H a o) h' a o) :
  Inv X pins σ (upd H a o) { s with heap:=h',toks:=t' }:=I.un (Un.laid k hp (I.hok.fresh hp)) (I.hok.laid k hp new)
theorem Inv.write{x e:Addr}{o:HO}{t':Nat}(I:Inv X pins σ H s)(mu:Mut (H x))(he:e=x\/H e=some (.own x))(k:∀b u,b≠e->s.heap.get? b=some u->h'.get? b=some u)(heo:∃u,h'.get? e=some u)
  (new:JM X.prog X.w (upd H x o) h' x o):Inv X pins σ (upd H x o) { s with heap:=h',toks:=t' }:=I.un (Un.write mu he k heo) (I.hok.write mu he k heo new)
theorem Inv.weak{σ':List (Option V)}(I:Inv X pins σ H s)(hl:σ'.length=σ.length)(w:∀(i:Nat) v,σ'[i]?=some (some v)->σ[i]?=some (some v)):Inv X pins σ' H s :=
 ⟨I.ok,I.os,I.bare,I.base,let ⟨m,hn,hl'⟩:=I.loc;⟨m,hn,fun i x v e1 e2 e3=>hl' i x v e1 (w i v e2) e3⟩,I.cell,I.free,I.freeC,I.pin,I.hok,hl.trans I.len⟩
theorem Inv.pins_of{pins':qO}(I:Inv X pins σ H s)(h:∀p∈pins',s.heap.get? p.1=some p.2/\H p.1=none/\p.1≠X.env.locals/\p.1∉X.fs/\∀v,p.2.data≠.cell v):Inv X pins' σ H s :=
 ⟨I.ok,I.os,I.bare,I.base,I.loc,I.cell,I.free,I.freeC,fun p hp=>(List.mem_append.mp hp).elim (fun z=>I.pin p (List.mem_append_left _ z)) (h p),I.hok,I.len⟩
theorem zh_{N:List Str}(hN:N.Nodup){i j:Nat}{x:Str}(a:N[i]?=some x)(b:N[j]?=some x):i=j:=by
 obtain⟨h1,e1⟩:=List.getElem?_eq_some_iff.mp a;obtain⟨h2,e2⟩:=List.getElem?_eq_some_iff.mp b;exact(List.getElem_inj hN).mp (e1.trans e2.symm)
theorem zf0{M:Model}{A:Around}{E:qV}{i:Nat}{x:Str}{v:V}{u:Value}{Q:Unit->Shared->Prop}(I:Inv X pins σ H s)(hN:X.N.Nodup)(hi:X.N[i]?=some x)(hx:Loc X.env.scope x)(r:RelV v u)
  (h:∀s',Inv X pins (σ.set i (some v)) H s'->(∃a,Heap.SameBut a s.heap s'.heap/\(a=X.env.locals\/X.env.cells.lookup x=some a))->Q () s') (hf:X.fn x=true\/X.env.scope.names.lookup x=some .local:=by walk_at "F"):wpAny M A (storeName X.env x u) Q E s:=by
 obtain⟨m,hn,hl⟩:=id I.loc;have hcls:(X.env.scope.kind == .class||(X.env.scope.kind == .module&&X.env.locals != X.env.globals))=false:=by rw[I.ok.kind];rfl
 have hiσ:i<σ.length:=by rw[I.len];exact(List.getElem?_eq_some_iff.mp hi).1
 have cne:=I.cne;have tracked:∀{a:Addr} {h':Heap},(∃o,s.heap.get? a=some o/\H a=none)->Heap.SameBut a s.heap h'->HOk X.prog X.w H h':=fun {a h'} ha hs b ob e=>by
  obtain⟨_,_,hfree⟩:=ha;refine(I.hok b ob e).stay (fun c w' hc q=>(hs.2 c ?_).trans q) (fun _ q=>q) fun _ _ q=>q
  rintro rfl;rcases hc with rfl|hc
  ·rw[hfree]at e;cases e
  ·rw[hfree]at hc;cases hc
 rcases hx with hk|hk
 ·refine wpAny_storeName_local hk hn (fun h' hn' hs=>?_) hcls
  obtain⟨oL,_,_,hoL,_⟩:=id hn;refine h _ ⟨I.ok,I.os,I.bare,⟨fun b o e n hb hx=>?_,fun b o e n hb hx=>?_,I.base.free,fun b o e hx=>?_,I.base.tups,I.base.frzs,I.base.tbls⟩,⟨_,hn',fun j y v' e1 e2 e3=>?_⟩,fun y c e=>?_,I.free,I.freeC,fun p hp=>?_,tracked ⟨oL,hoL,I.free⟩ hs,by simpa using I.len⟩ ⟨_,hs,.inl rfl⟩
  ·exact(hs.2 b (Nat.ne_of_lt (Nat.lt_of_lt_of_le (Heap.lt_size e) I.ok.above))).trans (I.base.keep b o e n hb hx)
  ·obtain⟨sl,e1⟩:=I.base.slot b o e n hb hx;exact⟨sl,(hs.2 b (Nat.ne_of_lt (Nat.lt_of_lt_of_le (Heap.lt_size e) I.ok.above))).trans e1⟩
  ·obtain⟨o',e1⟩:=I.base.there b o e hx;exact⟨o',(hs.2 b (Nat.ne_of_lt (Nat.lt_of_lt_of_le (Heap.lt_size e) I.ok.above))).trans e1⟩
  ·by_cases hj:j=i
   ·subst hj;rw[hi]at e1;cases e1;rw[List.getElem?_set_self hiσ]at e2;cases e2;exact⟨u,r,.inl ⟨hk,by simp⟩⟩
   ·rw[List.getElem?_set_ne (Ne.symm hj)]at e2;obtain⟨u',r',q⟩:=hl j y v' e1 e2 e3;refine⟨u',r',?_⟩;rcases q with⟨k,e⟩|⟨k,c,e,z⟩
    ·refine .inl ⟨k,?_⟩;have:y≠x:=fun e=>hj (zh_ hN e1 (e▸hi))
     simp[this,e]
    ·exact .inr ⟨k,c,e,z.sameBut hs (cne y c e)⟩
  ·obtain⟨w',z⟩:=I.cell y c e;exact⟨w',z.sameBut hs (cne y c e)⟩
  ·obtain⟨e,n,ne,nf,d⟩:=I.pin p hp;exact⟨(hs.2 p.1 ne).trans e,n,ne,nf,d⟩
 ·have hfn:X.fn x=true:=by
   rcases hf with z|z
   ·exact z
   ·rw[z]at hk;cases hk
  obtain⟨c,hc⟩:=I.ok.has x (.inl hk);obtain⟨w',z⟩:=I.cell x c hc;refine wpAny_storeName_cell I.ok.kind hk hc z (fun h' hc' hs=>?_)
  obtain⟨oc,hoc,hocd⟩:=id z;refine h { s with heap:=h' } ⟨I.ok,I.os,I.bare,⟨fun b o e n hb hx=>?_,fun b o e n hb hx=>?_,I.base.free,fun b o e hx=>?_,I.base.tups,I.base.frzs,I.base.tbls⟩,⟨m,hn.sameBut hs (Ne.symm (cne x c hc)),fun j y v' e1 e2 e3=>?_⟩,fun y c' e=>?_,I.free,I.freeC,fun p hp=>?_,tracked ⟨oc,hoc,I.freeC x c hc⟩ hs,by simpa using I.len⟩ ⟨c,hs,.inr hc⟩
  ·exact(hs.2 b (Nat.ne_of_lt (Nat.lt_of_lt_of_le (Heap.lt_size e) (I.ok.cab x c hfn hc)))).trans (I.base.keep b o e n hb hx)
  ·obtain⟨sl,e1⟩:=I.base.slot b o e n hb hx;exact⟨sl,(hs.2 b (Nat.ne_of_lt (Nat.lt_of_lt_of_le (Heap.lt_size e) (I.ok.cab x c hfn hc)))).trans e1⟩
  ·obtain⟨o',e1⟩:=I.base.there b o e hx;exact⟨o',(hs.2 b (Nat.ne_of_lt (Nat.lt_of_lt_of_le (Heap.lt_size e) (I.ok.cab x c hfn hc)))).trans e1⟩
  ·by_cases hj:j=i
   ·subst hj;rw[hi]at e1;cases e1;rw[List.getElem?_set_self hiσ]at e2;cases e2;exact⟨u,r,.inr ⟨.inl hk,c,hc,hc'⟩⟩
   ·rw[List.getElem?_set_ne (Ne.symm hj)]at e2;obtain⟨u',r',q⟩:=hl j y v' e1 e2 e3;refine⟨u',r',?_⟩;rcases q with q|⟨k,c',e,z'⟩
    ·exact .inl q
    ·refine .inr ⟨k,c',e,z'.sameBut hs ?_⟩;rintro rfl;exact hj (zh_ hN e1 (I.ok.inj _ _ _ e hc▸hi))
  ·by_cases hcc:c'=c
   ·subst hcc;exact⟨_,hc'⟩
   ·obtain⟨w2,z2⟩:=I.cell y c' e;exact⟨w2,z2.sameBut hs hcc⟩
  ·obtain⟨e,n,ne,nf,d⟩:=I.pin p hp;refine⟨(hs.2 p.1 ?_).trans e,n,ne,nf,d⟩;intro q;rw[q,hoc]at e;have q':oc=p.2:=Option.some.inj e;exact d w' (by rw[<- q'];exact hocd)
theorem zfn{M:Model}{A:Around}{E:qV}{i:Nat}{x:Str}{v:V}{u:Value}{Q:Unit->Shared->Prop}(I:Inv X pins σ H s)(hN:X.N.Nodup)(hi:X.N[i]?=some x)(hx:Loc X.env.scope x)(r:RelV v u)
  (h:∀s',Inv X pins (σ.set i (some v)) H s'->Q () s') (hf:X.fn x=true\/X.env.scope.names.lookup x=some .local:=by walk_at "F"):wpAny M A (storeName X.env x u) Q E s :=
 zf0 I hN hi hx r (fun s' I' _=>h s' I') hf
theorem Inv.call'{s':Shared}{ch:List Addr}(I:Inv X pins σ H s)(ho:s'.os=s.os)(u:Un (frs X.stack) ch H H' s.heap s'.heap)(hok:HOk X.prog X.w H' s'.heap)(hg:AllBare s'.gens)
  (hch:∀b∈ch,(b∈X.ex\/X.s₀.heap.objs.size<=b)/\b≠X.env.locals/\(∀x c,X.env.cells.lookup x=some c->c≠b)/\∀p∈X.pn++pins,p.1≠b):Inv X pins σ H' s':=by
 obtain⟨h',g',d',t',o'⟩:=s';have e:o'=s.os:=ho;subst e;exact I.call (g':=g') (t':=t') (d':=d') u hok hg hch
end
abbrev XK:=Value->Option Addr->Hp->Prop
abbrev St:=List (Option V)
abbrev VK:=V->Hp->Prop
abbrev TE:=St->Hp->VK->Prop
abbrev TT:=St->Hp->(Bool->Hp->Prop)->Prop
abbrev TA:=St->Hp->(List V->Hp->Prop)->Prop
structure Ends where
 nx:St->Hp->Prop
 rt:VK
 bk:St->Hp->Prop:=fun _ _=>False
 ct:St->Hp->Prop:=fun _ _=>False
abbrev TS:=Ends->St->Hp->Prop
def EP(X:Cx)(pins:qO)(σ:St)(Q:VK)(u:Value)(s':Shared):Prop:=∃v H',Inv X pins σ H' s'/\RelV v u/\Q v H'
def TP(X:Cx)(pins:qO)(σ:St)(Q:Bool->Hp->Prop)(b:Bool)(s':Shared):Prop:=∃H',Inv X pins σ H' s'/\Q b H'
def AP(X:Cx)(pins:qO)(σ:St)(Q:List V->Hp->Prop)(us:List Value)(s':Shared):Prop:=∃vs H',Inv X pins σ H' s'/\Vals vs us/\Q vs H'
def SP(X:Cx)(pins:qO)(D:Ends)(f:Flow)(s':Shared):Prop :=
 match f with
 | .next=>∃σ' H',Inv X pins σ' H' s'/\D.nx σ' H'
 | .brk=>∃σ' H',Inv X pins σ' H' s'/\D.bk σ' H'
 | .cont=>∃σ' H',Inv X pins σ' H' s'/\D.ct σ' H'
 | .ret u=>∃v σ' H',Inv X pins σ' H' s'/\RelV v u/\D.rt v H'
def PE(X:Cx)(e:Expr)(t:TE):Prop :=
 ∀(pins:qO) (s:Shared) (σ:St) (H:Hp) (Q:VK),Inv X pins σ H s->t σ H Q->wpAny (model X.prog X.w) X.A (eval e X.env) (EP X pins σ Q) X.xe s
def PT(X:Cx)(e:Expr)(t:TT):Prop :=
 ∀(pins:qO) (s:Shared) (σ:St) (H:Hp) (Q:Bool->Hp->Prop),Inv X pins σ H s->t σ H Q->wpAny (model X.prog X.w) X.A (isTrue e X.env (eval e X.env)) (TP X pins σ Q) X.xe s
def PW(X:Cx)(e:Expr)(t:TT):Prop :=
 ∀(whole:Sem Value) (pins:qO) (s:Shared) (σ:St) (H:Hp) (Q:Bool->Hp->Prop),Inv X pins σ H s->t σ H Q->wpAny (model X.prog X.w) X.A (isTrue e X.env whole) (TP X pins σ Q) X.xe s
theorem PW.pt{X:Cx}{e:Expr}{t:TT}(h:PW X e t):PT X e t:=h _
def PA(X:Cx)(es:List Expr)(t:TA):Prop :=
 ∀(pos:Pos) (pins:qO) (s:Shared) (σ:St) (H:Hp) (Q:List V->Hp->Prop),Inv X pins σ H s->t σ H Q->wpAny (model X.prog X.w) X.A (spliced (backTo pos (starEach es X.env))) (AP X pins σ Q) X.xe s
def PS(X:Cx)(st:Stmt)(t:TS):Prop :=
 ∀(pins:qO) (s:Shared) (σ:St) (H:Hp) (D:Ends),Inv X pins σ H s->t D σ H->wpAny (model X.prog X.w) X.A (exec st X.env) (SP X pins D) X.xe s
def PSs(X:Cx)(st:List Stmt)(t:TS):Prop :=
 ∀(pins:qO) (s:Shared) (σ:St) (H:Hp) (D:Ends),Inv X pins σ H s->t D σ H->wpAny (model X.prog X.w) X.A (execs st X.env) (SP X pins D) X.xe s
theorem thn{α:Type}{t:Sem α}{Q Q':α->Shared->Prop}{M:Model}{A:Around}{E:qV}{s:Shared}(h:wpAny M A t Q E s)(hQ:∀a s,Q a s->Q' a s):wpAny M A t Q' E s:=wpAny_mono h hQ fun _ _ x=>x
section
variable{X:Cx}
def tVar(i:Nat):TE:=fun σ H Q=>∃v,σ[i]?=some (some v)/\Q v H
def tC(v:V):TE:=fun _ H Q=>Q v H
theorem U9{i:Nat}{x:Str}{pos:Pos}(hN:X.N[i]?=some x)(hv:Vis X.env.scope x)(hd:(x == ("__debug__":Str))=false:=by decide) (hcd:(x == ("__classdict__":Str))=false:=by decide):PE X (.Name x pos) (tVar i):=by
 intro pins s σ H Q I h;obtain⟨v,e,h⟩:=h;obtain⟨m,hn,hl⟩:=I.loc;obtain⟨u,r,l⟩:=hl i x v hN e hv;have fin:EP X pins σ Q u s:=⟨v,H,I,r,h⟩;rcases l with⟨hk,hm⟩|⟨hk,c,hc,hcell⟩
 ·exact wpAny_Name (wpAny_loadName_local I.ok.kind hk hn hm fin) hd
 ·rcases hk with hk|hk
  ·exact wpAny_Name (wpAny_loadName_cell I.ok.kind hk hc hcell fin) hd
  ·exact wpAny_Name (wpAny_loadName_free I.ok.kind hk hc hcell fin hcd) hd
theorem JF{i j pos}:PE X (.Constant (.int i) j pos) (tC (.int i)):=fun _ _ _ H _ I h=>wpAny_Constant_int ⟨.int i,H,I.tok _,⟨_,rfl⟩,h⟩
theorem zsc{b j pos}:PE X (.Constant (.bool b) j pos) (tC (.bl b)):=fun _ _ _ H _ I h=>Constant_bool ⟨.bl b,H,I,rfl,h⟩
theorem zpe{j pos}:PE X (.Constant .none j pos) (tC .non):=fun _ _ _ H _ I h=>Constant_none ⟨.non,H,I,rfl,h⟩
theorem zo_{x j pos}:PE X (.Constant (.str x) j pos) (tC (.str x)):=fun _ _ _ H _ I h=>Calls.Constant_str ⟨.str x,H,I.tok _,⟨_,rfl⟩,h⟩
def Gl(X:Cx)(x:Str):Prop:=X.env.kindOf x=some .globalImplicit
theorem znF{E:qV}{pins:qO}{s:Shared}{σ:St}{H:Hp}{x:Str}{u:Value}{pos:Pos}{Q:qV}(I:Inv X pins σ H s)(hg:Gl X x)(hm:X.mg x=some u)(h:Q u s)
  (hd:(x == ("__debug__":Str))=false:=by decide):wpAny (model X.prog X.w) X.A (eval (.Name x pos) X.env) Q E s :=
 Calls.Name_function_global I.ok.kind hg (Calls.loadGlobal_global (by rw[I.ok.glob];exact I.mod.glob.keeps I.bk) hm h) hd
theorem YD{E:qV}{pins:qO}{s:Shared}{σ:St}{H:Hp}{x:Str}{u:Value}{pos:Pos}{Q:qV}(I:Inv X pins σ H s)(hg:Gl X x)(hm:X.mg x=none)(hv:bootBuiltins x=some u)(h:Q u s)
  (hn:x ≠ "__name__":=by decide) (hd:(x == ("__debug__":Str))=false:=by decide):wpAny (model X.prog X.w) X.A (eval (.Name x pos) X.env) Q E s:=by
 obtain⟨mb,h1,h2⟩:=I.mod.blt;exact Calls.Name_function_global I.ok.kind hg (Calls.loadGlobal_builtin (by rw[I.ok.glob];exact I.mod.glob.keeps I.bk) hm (by rw[I.ok.blt];exact h1.keeps I.bk) ((h2 x hn).trans hv) h) hd
theorem znk{x:Str}{v:V}{u:Value}{pos:Pos}(hg:Gl X x)(hm:X.mg x=none)(hv:bootBuiltins x=some u)(r:RelV v u)(hn:x ≠ "__name__":=by decide) (hd:(x == ("__debug__":Str))=false:=by decide):PE X (.Name x pos) (tC v) :=
 fun _ _ _ H _ I h=>YD I hg hm hv ⟨v,H,I,r,h⟩ hn hd
variable{a b:Expr}{ta tb:TE}{pos:Pos}
variable{tA tB':TT}{rest:List Expr}
def tAnd(t u:TT):TT:=fun σ H Q=>t σ H fun c H1=>if c=true then u σ H1 Q else Q false H1
def tOr(t u:TT):TT:=fun σ H Q=>t σ H fun c H1=>if c=true then Q true H1 else u σ H1 Q
def tNot(t:TT):TT:=fun σ H Q=>t σ H fun c H1=>Q (!c) H1
theorem zm6(ha:PT X a tA):PW X (.BoolOp .And [a] pos) tA:=by
 intro wh pins s σ H Q I h;refine isTrue_and (thn (ha pins s σ H Q I h) fun c s1 e=>?_)
 cases c with
 | true=>exact isTrue_and_nil e
 | false=>exact e
theorem zoY(ha:PT X a tA):PW X (.BoolOp .Or [a] pos) tA:=by
 intro wh pins s σ H Q I h;refine isTrue_or (thn (ha pins s σ H Q I h) fun c s1 e=>?_)
 cases c with
 | false=>exact isTrue_or_nil e
 | true=>exact e
theorem zoZ(ha:PT X a tA)(hb:PW X (.BoolOp .And (b::rest) pos) tB'):PW X (.BoolOp .And (a::b::rest) pos) (tAnd tA tB'):=by
 intro wh pins s σ H Q I h;refine isTrue_and (thn (ha pins s σ H _ I h) fun c s1 ⟨H1,I1,q1⟩=>?_)
 cases c with
 | true=>exact hb wh pins s1 σ H1 Q I1 q1
 | false=>exact⟨H1,I1,q1⟩
theorem zr8(ha:PT X a tA)(hb:PW X (.BoolOp .Or (b::rest) pos) tB'):PW X (.BoolOp .Or (a::b::rest) pos) (tOr tA tB'):=by
 intro wh pins s σ H Q I h;refine isTrue_or (thn (ha pins s σ H _ I h) fun c s1 ⟨H1,I1,q1⟩=>?_)
 cases c with
 | true=>exact⟨H1,I1,q1⟩
 | false=>exact hb wh pins s1 σ H1 Q I1 q1
theorem zo0(ha:PT X a tA):PT X (.UnaryOp .Not a pos) (tNot tA):=by
 intro pins s σ H Q I h;exact isTrue_not (ha pins s σ H (fun c H1=>Q (!c) H1) I h)
def zrB(ta tb:TE):TE:=fun σ H Q=>ta σ H fun x H1=>∃c,x=.bl c/\if c=true then tb σ H1 Q else Q (.bl false) H1
def tOrV(ta tb:TE):TE:=fun σ H Q=>ta σ H fun x H1=>∃c,x=.bl c/\if c=true then Q (.bl true) H1 else tb σ H1 Q
def zrx(ta:TE):TE:=fun σ H Q=>ta σ H fun x H1=>∃c,x=.bl c/\Q (.bl (!c)) H1
theorem zpc{op}{t:TE}(h:PE X a t):PE X (.BoolOp op [a] pos) t:=fun pins s σ H Q I hw=>BoolOp_one (h pins s σ H Q I hw)
theorem zpg(ha:PE X a ta)(hb:PE X (.BoolOp .And (b::rest) pos) tb):PE X (.BoolOp .And (a::b::rest) pos) (zrB ta tb):=by
 intro pins s σ H Q I h;refine BoolOp_and (thn (ha pins s σ H _ I h) fun v s1 ⟨x,H1,I1,r1,q1⟩=>?_)
 obtain⟨c,rfl,q1⟩:=q1;cases r1;refine wpAny_truthy_bool ?_;cases c with
 | true=>exact hb pins s1 σ H1 Q I1 q1
 | false=>exact⟨.bl false,H1,I1,rfl,q1⟩
theorem zsa(ha:PE X a ta)(hb:PE X (.BoolOp .Or (b::rest) pos) tb):PE X (.BoolOp .Or (a::b::rest) pos) (tOrV ta tb):=by
 intro pins s σ H Q I h;refine BoolOp_or (thn (ha pins s σ H _ I h) fun v s1 ⟨x,H1,I1,r1,q1⟩=>?_)
 obtain⟨c,rfl,q1⟩:=q1;cases r1;refine wpAny_truthy_bool ?_;cases c with
 | false=>exact hb pins s1 σ H1 Q I1 q1
 | true=>exact⟨.bl true,H1,I1,rfl,q1⟩
theorem zpd(ha:PE X a ta):PE X (.UnaryOp .Not a pos) (zrx ta):=by
 intro pins s σ H Q I h;refine UnaryOp_ (thn (ha pins s σ H _ I h) fun v s1 ⟨x,H1,I1,r1,q1⟩=>?_)
 obtain⟨c,rfl,q1⟩:=q1;cases r1;exact not_of (wpAny_truthy_bool ⟨.bl (!c),H1,I1,rfl,q1⟩)
end
def SqL(K:qF)(H:Hp)(a:Addr)(xs:List V):Prop :=
 Rd H a (.lst xs) \/
  ∃(o:Obj) (its:Array Value) (n:Nat),K.lookup a=some o/\o.cls=.type "list" /\ o.dict=none/\o.data=.seq its n/\its.size<=sizeLine/\Vals xs its.toList
def SqT(K:qF)(H:Hp)(a:Addr)(xs:List V):Prop :=
 Rd H a (.tup xs) \/
  ∃(o:Obj) (its:Array Value) (n:Nat),K.lookup a=some o/\o.cls=.type "tuple" /\ o.data=.seq its n/\its.size<=sizeLine/\Vals xs its.toList
def absV:Value->Option V
 | .none=>some .non
 | .bool b=>some (.bl b)
 | .int i _=>some (.int i)
 | .str x _=>some (.str x)
 | .bytes b _=>some (.byt b)
 | .float b _=>some (.flt b)
 | .ref a=>some (.ref a)
 | .type n=>some (.ty n)
 | _=>none
theorem RelV.abs{x:V}{u:Value}(r:RelV x u):absV u=some x:=by
 cases x with
 | non=>cases r;rfl
 | bl _=>cases r;rfl
 | int _=>obtain⟨t,rfl⟩:=r;rfl
 | str _=>obtain⟨t,rfl⟩:=r;rfl
 | byt _=>obtain⟨t,rfl⟩:=r;rfl
 | flt _=>obtain⟨t,rfl⟩:=r;rfl
 | ref _=>cases r;rfl
 | ty _=>cases r;rfl
theorem RelV.inj{x y:V}{u:Value}(r:RelV x u)(q:RelV y u):x=y:=Option.some.inj (r.abs.symm.trans q.abs)
theorem Vals.inj:∀{xs ys:List V}{us:List Value},Vals xs us->Vals ys us->xs=ys
 | _,_,_,.nil,.nil=>rfl
 | _,_,_,.cons r t,.cons r' t'=>by rw[r.inj r',Vals.inj t t']
section
variable{X:Cx}{pins:qO}{σ:St}{H:Hp}{s:Shared}{a:Addr}{xs ys:List V}
theorem SqL.of{K:qF}(h:H a=some (.lst xs)):SqL K H a xs:=.inl (.inl h)
theorem Inv.list(I:Inv X pins σ H s)(h:SqL X.K H a xs):∃its:List Value,Vals xs its/\PlainL s.heap a its.toArray/\xs.length<=sizeLine:=by
 rcases h with h|⟨o,its,n,hk,hc,hd,hs,hz,r⟩
 ·obtain⟨z,its,n,r,e⟩:=h.ok I.hok;exact⟨its,r,⟨_,n,e,rfl,rfl,rfl⟩,z⟩
 ·refine⟨its.toList,r,⟨o,n,I.kIn a o hk,hc,hd,by simpa using hs⟩,?_⟩
  have e:=r.length;simp only[Array.length_toList]at e;lia
theorem Inv.tuple(I:Inv X pins σ H s)(h:SqT X.K H a xs):∃its:List Value,Vals xs its/\IsTup s.heap a its.toArray/\xs.length<=sizeLine:=by
 rcases h with h|⟨o,its,n,hk,hc,hs,hz,r⟩
 ·obtain⟨z,its,r,p⟩:=h.ok I.hok;exact⟨its,r,p.tup,z⟩
 ·refine⟨its.toList,r,⟨o,I.kIn a o hk,hc,n,by simpa using hs⟩,?_⟩
  have e:=r.length;simp only[Array.length_toList]at e;lia
theorem Inv.list_inj(I:Inv X pins σ H s)(h:SqL X.K H a xs)(h':SqL X.K H a ys):xs=ys:=by
 obtain⟨its,r,⟨o,n,e,_,_,d⟩,_⟩:=I.list h;obtain⟨its',r',⟨o',n',e',_,_,d'⟩,_⟩:=I.list h';rw[e]at e';cases e';rw[d]at d'
 injection d' with d1 _
 have:its=its':=by simpa using congrArg Array.toList d1
 subst this;exact r.inj r'
theorem Inv.tuple_inj(I:Inv X pins σ H s)(h:SqT X.K H a xs)(h':SqT X.K H a ys):xs=ys:=by
 obtain⟨its,r,⟨o,e,_,n,d⟩,_⟩:=I.tuple h;obtain⟨its',r',⟨o',e',_,n',d'⟩,_⟩:=I.tuple h';rw[e]at e';cases e';rw[d]at d'
 injection d' with d1 _
 have:its=its':=by simpa using congrArg Array.toList d1
 subst this;exact r.inj r'
end
abbrev Cx.wish(X:Cx)(E:qV):Cx:={ X with xe:=E }
abbrev Cx.nox(X:Cx):Cx:=X.wish fun _ _=>False
theorem Cx.Ok.wish{X:Cx}(ok:X.Ok)(E:qV):(X.wish E).Ok :=
 ⟨ok.mod,ok.kind,ok.glob,ok.blt,ok.above,ok.inj,ok.has,ok.cab,ok.hd,ok.frames,ok.stk,ok.exf,ok.bs,ok.bsz,ok.noex,ok.exfs,ok.funs,ok.frf⟩
theorem Cx.Ok.unwish{X:Cx}{E:qV}(ok:(X.wish E).Ok):X.Ok :=
 ⟨ok.mod,ok.kind,ok.glob,ok.blt,ok.above,ok.inj,ok.has,ok.cab,ok.hd,ok.frames,ok.stk,ok.exf,ok.bs,ok.bsz,ok.noex,ok.exfs,ok.funs,ok.frf⟩
section
variable{X:Cx}{pins:qO}{σ:St}{H:Hp}{s:Shared}{E:qV}
theorem Inv.wish(I:Inv X pins σ H s)(E:qV):Inv (X.wish E) pins σ H s:=⟨I.ok.wish E,I.os,I.bare,I.base,I.loc,I.cell,I.free,I.freeC,I.pin,I.hok,I.len⟩
theorem Inv.unwish(I:Inv (X.wish E) pins σ H s):Inv X pins σ H s:=⟨I.ok.unwish,I.os,I.bare,I.base,I.loc,I.cell,I.free,I.freeC,I.pin,I.hok,I.len⟩
theorem SP.unwish{D:Ends}{f:Flow}{s':Shared}(h:SP (X.wish E) pins D f s'):SP X pins D f s':=by
 cases f with
 | next=>obtain⟨σ',H',I,q⟩:=h;exact⟨σ',H',I.unwish,q⟩
 | brk=>obtain⟨σ',H',I,q⟩:=h;exact⟨σ',H',I.unwish,q⟩
 | cont=>obtain⟨σ',H',I,q⟩:=h;exact⟨σ',H',I.unwish,q⟩
 | ret u=>obtain⟨v,σ',H',I,r,q⟩:=h;exact⟨v,σ',H',I.unwish,r,q⟩
theorem PSs.nox{st:List Stmt}{t:TS}(h:PSs X.nox st t):PSs X st t:=fun pins s σ H D I hw =>
 wpAny_mono (h pins s σ H D (I.wish _) hw) (fun _ _ q=>q.unwish) fun _ _ z=>False.elim z
end
section
variable{X:Cx}{st:Stmt}{rest:List Stmt}{t u:TS}{e:Expr}{te:TE}{pos:Pos}
def zry:TS:=fun D σ H=>D.nx σ H
def tSeq(t u:TS):TS:=fun D σ H=>t { D with nx:=u D } σ H
theorem zhd:PSs X [] zry:=fun _ _ σ H _ I h=>wpAny_execs_nil ⟨σ,H,I,h⟩
theorem QB(h1:PS X st t)(h2:PSs X rest u):PSs X (st::rest) (tSeq t u):=by
 intro pins s σ H D I h;refine wpAny_execs_cons (thn (h1 pins s σ H { D with nx:=u D } I h) fun f s1 q=>?_)
 cases f with
 | next =>
  obtain⟨σ',H',I',q⟩:=q;exact h2 pins s1 σ' H' D I' q
 | ret v=>exact q
 | brk=>exact q
 | cont=>exact q
theorem Ze(h1:PS X st t):PSs X [st] t:=by
 intro pins s σ H D I h;refine wpAny_execs_cons (thn (h1 pins s σ H D I h) fun f s1 q=>?_)
 cases f with
 | next=>exact wpAny_execs_nil q
 | ret v=>exact q
 | brk=>exact q
 | cont=>exact q
theorem Inv.quiet{pins:qO}{σ:St}{H:Hp}{s:Shared}(I:Inv X pins σ H s):interactive X.env=false:=by simp[interactive,I.ok.kind]
def zrA(te:TE):TS:=fun D σ H=>te σ H fun _ H1=>D.nx σ H1
theorem zm_(he:PE X e te)(hs:swapsWith e none pos.line X.env=pure false:=by rfl):PS X (.Expr e pos) (zrA te):=by
 intro pins s σ H D I h;exact wpAny_Expr_any (thn (he pins s σ H _ I h) fun v s1 ⟨x,H1,I1,r1,q1⟩=>⟨σ,H1,I1,q1⟩) I.quiet hs
def tRet(te:TE):TS:=fun D σ H=>te σ H D.rt
theorem ZJ(he:PE X e te):PS X (.Return (some e) pos) (tRet te):=by
 intro pins s σ H D I h;exact wpAny_Return_some (thn (he pins s σ H _ I h) fun v s1 ⟨x,H1,I1,r1,q1⟩=>⟨x,σ,H1,I1,r1,q1⟩)
def tIfS(c:TT)(t u:TS):TS:=fun D σ H=>c σ H fun b H1=>if b=true then t D σ H1 else u D σ H1
theorem zm9{c:Expr}{a b:List Stmt}{tc:TT}(hc:PT X c tc)(ha:PSs X a t)(hb:PSs X b u):PS X (.If c a b pos) (tIfS tc t u):=by
 intro pins s σ H D I h;refine wpAny_If (thn (hc pins s σ H _ I h) fun d s1 ⟨H1,I1,q1⟩=>?_)
 cases d with
 | true=>exact ha pins s1 σ H1 D I1 q1
 | false=>exact hb pins s1 σ H1 D I1 q1
end
abbrev TG:=V->St->Hp->(St->Hp->Prop)->Prop
abbrev TGs:=List V->St->Hp->(St->Hp->Prop)->Prop
def PG(X:Cx)(target:Expr)(t:TG):Prop :=
 ∀(pins:qO) (s:Shared) (σ:St) (H:Hp) (v:V) (u:Value) (Q:St->Hp->Prop),Inv X pins σ H s->RelV v u->t v σ H Q ->
  wpAny (model X.prog X.w) X.A (assign target X.env u) (fun _ s'=>∃σ' H',Inv X pins σ' H' s'/\Q σ' H') X.xe s
def PGs(X:Cx)(ts:List Expr)(t:TGs):Prop :=
 ∀(pins:qO) (s:Shared) (σ:St) (H:Hp) (vs:List V) (us:List Value) (Q:St->Hp->Prop),Inv X pins σ H s->Vals vs us->t vs σ H Q ->
  wpAny (model X.prog X.w) X.A (assignInOrder ((assignEach ts X.env).map (·.2)) us) (fun _ s'=>∃σ' H',Inv X pins σ' H' s'/\Q σ' H') X.xe s
abbrev TSet:=V->V->V->Hp->(Hp->Prop)->Prop
def PSet(X:Cx)(t:TSet):Prop :=
 ∀(pins:qO) (s:Shared) (σ:St) (H:Hp) (o i v:V) (ov iv u:Value) (Q:Hp->Prop),Inv X pins σ H s->RelV o ov->RelV i iv->RelV v u->t o i v H Q ->
  wpAny (model X.prog X.w) X.A (setItem ov iv u) (fun _ s'=>∃H',Inv X pins σ H' s'/\Q H') X.xe s
abbrev TIp:=V->V->Hp->VK->Prop
def PIp(X:Cx)(op:Operator)(t:TIp):Prop :=
 ∀(pins:qO) (s:Shared) (σ:St) (H:Hp) (x y:V) (v u:Value) (Q:VK),Inv X pins σ H s->RelV x v->RelV y u->t x y H Q ->
  wpAny (model X.prog X.w) X.A (inplaceOp op v u) (EP X pins σ Q) X.xe s
section
variable{X:Cx}{pos:Pos}
def Zx(i:Nat):TG:=fun v σ H Q=>Q (σ.set i (some v)) H
theorem zne{i:Nat}{x:Str}(hN:X.N.Nodup)(hi:X.N[i]?=some x)(hx:Loc X.env.scope x)(hf:X.fn x=true\/X.env.scope.names.lookup x=some .local:=by walk_at "F"):PG X (.Name x pos) (Zx i):=by
 intro pins s σ H v u Q I r h;exact wpAny_assign_Name (zfn I hN hi hx r (fun s' I'=>⟨_,H,I',h⟩) hf)
def gNil:TGs:=fun vs σ H Q=>vs=[]/\Q σ H
def zsR(t:TG)(u:TGs):TGs:=fun vs σ H Q=>∃v r,vs=v::r/\t v σ H fun σ' H'=>u r σ' H' Q
theorem znd:PGs X [] gNil:=by
 intro pins s σ H vs us Q I r h;obtain⟨e,h⟩:=h;subst e;cases r;exact assignInOrder_nil ⟨σ,H,I,h⟩
theorem zlD{e:Expr}{es:List Expr}{t:TG}{u:TGs}(h1:PG X e t)(h2:PGs X es u)
  (hs:(assignEach (e::es) X.env).map (·.2)=assign e X.env::(assignEach es X.env).map (·.2):=by rfl):PGs X (e::es) (zsR t u):=by
 intro pins s σ H vs us Q I r h;obtain⟨v,vr,e1,h⟩:=h;subst e1;cases r with
 | cons r rr =>
  rw[hs];refine assignInOrder_cons (thn (h1 pins s σ H _ _ _ I r h) fun _ s1 ⟨σ1,H1,I1,q1⟩=>?_)
  exact h2 pins s1 σ1 H1 _ _ Q I1 rr q1
def gTup(K:qF)(n:Nat)(t:TGs):TG:=fun v σ H Q=>∃a xs,v=.ref a/\SqT K H a xs/\xs.length=n/\t xs σ H Q
theorem zo8{es:List Expr}{k:Nat}{t:TGs}{n:Nat}(hc:X.calm=true)(h:PGs X es t)
  (hn:(assignEach es X.env).length=n:=by rfl) (hst:(assignEach es X.env).findIdx? (·.1)=none:=by rfl):PG X (.Tuple es k pos) (gTup X.K n t):=by
 intro pins s σ H v u Q I r hw;obtain⟨a,xs,e1,hq,hl,hw⟩:=hw;subst e1;cases r;obtain⟨its,rv,ht,hz⟩:=I.tuple hq;refine assign_Tuple_tuple (I.ok.hd hc) ht (by simp[hn,<- hl,rv.length]) hst fun h' hx=>?_
 have I1:Inv X pins σ H { s with heap:=h' }:=I.kept (t':=s.toks) fun b o e=>hx b o (Nat.ne_of_lt (Heap.lt_size e)) e
 exact h pins _ σ H xs _ Q I1 (by simpa using rv) hw
def gSub(to ti:TE)(t:TSet):TG:=fun v σ H Q=>to σ H fun o H1=>ti σ H1 fun i H2=>t o i v H2 fun H3=>Q σ H3
theorem zmu{o i:Expr}{to ti:TE}{t:TSet}(ho:PE X o to)(hi:PE X i ti)(hs:PSet X t)
  (ha:∀v,assign (.Subscript o i pos) X.env v=(do
   let ov <- holding [v] (eval o X.env)
   let iv <- holding [v,ov] (eval i X.env)
   standAt pos
   holding [v,ov,iv] (setItem ov iv v)
   release [v,ov,iv] []):=by intro _;rfl):PG X (.Subscript o i pos) (gSub to ti t):=by
 intro pins s σ H v u Q I r h;rw[ha];refine wpAny_bind (wpAny_holding (thn (ho pins s σ H _ I h) fun ov s1 ⟨x,H1,I1,r1,q1⟩=>?_))
 refine wpAny_bind (wpAny_holding (thn (hi pins s1 σ H1 _ I1 q1) fun iv s2 ⟨y,H2,I2,r2,q2⟩=>?_))
 refine wpAny_bind (wpAny_standAt (wpAny_bind (wpAny_holding (thn (hs pins s2 σ H2 x y v ov iv u _ I2 r1 r2 r q2) fun _ s3 ⟨H3,I3,q3⟩=>?_))))
 exact wpAny_release ⟨σ,H3,I3,q3⟩
def tAsg(te:TE)(g:TG):TS:=fun D σ H=>te σ H fun x H1=>g x σ H1 D.nx
theorem zjG{tg e:Expr}{te:TE}{g:TG}(he:PE X e te)(hg:PG X tg g)(hs:swapsWithSole [tg] e pos.line X.env=pure false:=by rfl)(hw:swappedStores [tg] e X.env=pure none:=by rfl)
  (h1:(assignEach [tg] X.env).map (·.2)=[assign tg X.env]:=by rfl):PS X (.Assign [tg] e pos) (tAsg te g):=by
 intro pins s σ H D I h;refine wpAny_Assign_stores (thn (he pins s σ H _ I h) fun v s1 ⟨x,H1,I1,r1,q1⟩=>?_) hs hw
 rw[h1];exact thn (hg pins s1 σ H1 x v _ I1 r1 q1) fun _ s2 q=>q
theorem QW{i:Nat}{x:Str}{e:Expr}{te:TE}{pos':Pos}(hN:X.N.Nodup)(hi:X.N[i]?=some x)(hx:Loc X.env.scope x)(he:PE X e te)(hs:swapsWith e (some (.Name x pos')) pos.line X.env=pure false:=by rfl)(hf:X.fn x=true\/X.env.scope.names.lookup x=some .local:=by walk_at "F") :
  PS X (.Assign [.Name x pos'] e pos) (tAsg te (Zx i)):=by
 intro pins s σ H D I h;refine wpAny_Assign_Name (thn (he pins s σ H _ I h) fun v s1 ⟨y,H1,I1,r1,q1⟩=>?_) hs
 exact zfn I1 hN hi hx r1 (fun s2 I2=>⟨_,H1,I2,q1⟩) hf
def tAug(i:Nat)(te:TE)(ti:TIp):TS:=fun D σ H=>∃x,σ[i]?=some (some x)/\te σ H fun y H1=>ti x y H1 fun z H2=>D.nx (σ.set i (some z)) H2
theorem zo2{i:Nat}{x:Str}{e:Expr}{te:TE}{op:Operator}{ti:TIp}{pos':Pos}(hN:X.N.Nodup)(hi:X.N[i]?=some x)(hx:Loc X.env.scope x)(he:PE X e te)(ho:PIp X op ti)(hf:X.fn x=true\/X.env.scope.names.lookup x=some .local:=by walk_at "F") :
  PS X (.AugAssign (.Name x pos') op e pos) (tAug i te ti):=by
 intro pins s σ H D I h;obtain⟨v,e1,h⟩:=h;obtain⟨m,hn,hl⟩:=I.loc;have vis:Vis X.env.scope x:=by rcases hx with k|k;exact .inl k;exact .inr (.inl k)
 obtain⟨u,r,l⟩:=hl i x v hi e1 vis;refine wpAny_AugAssign_Name ?_;have go:wpAny (model X.prog X.w) X.A (eval e X.env) (fun w s₂=>wpAny (model X.prog X.w) X.A (inplaceOp op u w) (fun r s₃=>wpAny (model X.prog X.w) X.A (storeName X.env x r) (fun _=>SP X pins D .next) X.xe s₃) X.xe s₂) X.xe s:=by
  refine thn (he pins s σ H _ I h) fun w s1 ⟨y,H1,I1,r1,q1⟩=>?_
  refine thn (ho pins s1 σ H1 v y u w _ I1 r r1 q1) fun z s2 ⟨zv,H2,I2,r2,q2⟩=>?_
  exact zfn I2 hN hi hx r2 (fun s3 I3=>⟨_,H2,I3,q2⟩) hf
 rcases l with⟨hk,hm⟩|⟨hk,c,hc,hcell⟩
 ·exact wpAny_loadName_local I.ok.kind hk hn hm go
 ·rcases hk with hk|hk
  ·exact wpAny_loadName_cell I.ok.kind hk hc hcell go
  ·rcases hx with k|k
   ·have:X.env.scope.names.lookup x=some .free:=hk;rw[k]at this;cases this
   ·have:X.env.scope.names.lookup x=some .free:=hk;rw[k]at this;cases this
def ipI(f:Int->Int->Int):TIp:=fun x y H Q=>∃i j,x=.int i/\y=.int j/\Q (.int (f i j)) H
theorem zmB:PIp X .Add (ipI fun i j=>i+j):=by
 intro pins s σ H x y v u Q I r1 r2 h;obtain⟨i,j,e1,e2,q⟩:=h;subst e1;subst e2;obtain⟨t,rfl⟩:=r1;obtain⟨t',rfl⟩:=r2;exact iadd_int ⟨.int _,H,I.tok _,⟨_,rfl⟩,q⟩
end
section
variable{X:Cx}{pos:Pos}
def zoA(c:TT)(tb:TS):TS:=fun D σ H=>∃W:Nat->St->Hp->Prop,(∃m,W m σ H)/\∀m σ H,W m σ H ->
 c σ H fun b H1=>if b=true then ∃N:St->Hp->Prop,(∀σ' H',N σ' H'->∃m',m'<m/\W m' σ' H')/\tb { D with nx:=N,ct:=N,bk:=D.nx } σ H1 else D.nx σ H1
theorem zlx{c:Expr}{body:List Stmt}{tc:TT}{tb:TS}(hp:PassesOwn (model X.prog X.w) X.A X.env X.xe)(hc:PT X c tc)(hb:PSs X body tb):PS X (.While c body [] pos) (zoA tc tb):=by
 intro pins s σ H D I h;obtain⟨W,⟨m0,w0⟩,turn⟩:=h;refine wpAny_While (codeAny_whileLoop (fun n s'=>∃σ' H',Inv X pins σ' H' s'/\W n σ' H') ?_ m0 ⟨σ,H,I,w0⟩)
 rintro n s1 ⟨σ1,H1,I1,w1⟩;refine wpAny_passesOwn hp (thn (hc pins s1 σ1 H1 _ I1 (turn n σ1 H1 w1)) fun b s2 ⟨H2,I2,q2⟩=>?_)
 cases b with
 | true =>
  obtain⟨N,hN,q2⟩:=q2;rw[if_pos rfl];refine wpAny_passesOwn hp (thn (hb pins s2 σ1 H2 _ I2 q2) fun f s3 q3=>?_)
  cases f with
  | next =>
   obtain⟨σ3,H3,I3,n3⟩:=q3;obtain⟨m',hm,w3⟩:=hN σ3 H3 n3;exact⟨m',hm,σ3,H3,I3,w3⟩
  | cont =>
   obtain⟨σ3,H3,I3,n3⟩:=q3;obtain⟨m',hm,w3⟩:=hN σ3 H3 n3;exact⟨m',hm,σ3,H3,I3,w3⟩
  | brk=>exact q3
  | ret v=>exact q3
 | false =>
  rw[if_neg Bool.false_ne_true];exact wpAny_execs_nil ⟨σ1,H2,I2,q2⟩
end
structure It where
 go:Nat->Hp->Prop
 yld:Nat->Hp->V->Hp->Prop
 stop:Nat->Hp->Prop
def FpOk(X:Cx)(pins:qO)(H:Hp)(b:Addr):Prop :=
 H b=none/\b≠X.env.locals/\b∉X.fs/\(b∈X.ex\/X.s₀.heap.objs.size<=b)/\(∀x c,X.env.cells.lookup x=some c->c≠b)/\∀p∈X.pn++pins,p.1≠b
theorem Inv.fpOk{X:Cx}{pins:qO}{σ:St}{H H':Hp}{s:Shared}{b:Addr}(I:Inv X pins σ H s)(hb:s.heap.objs.size<=b)(hn:H' b=none):FpOk X pins H' b:=by
 refine⟨hn,Nat.ne_of_gt (Nat.lt_of_lt_of_le I.lt hb),I.nofs hb,.inr (Nat.le_trans I.sz hb),fun x c e z=>?_,fun p hp z=>?_⟩
 ·obtain⟨v,q⟩:=I.cell x c e;exact absurd (Nat.lt_of_lt_of_le q.lt (by rw[z];exact hb)) (Nat.lt_irrefl _)
 ·exact absurd (Nat.lt_of_lt_of_le (Heap.lt_size (I.pin p hp).1) (by rw[z];exact hb)) (Nat.lt_irrefl _)
structure Turn(P:Program)(w:World)(K:qF)(tg:Expr)(J:It)(fp:List Addr)(it:Addr)(tn:Nat->Heap->Prop):Prop where
 mem:it∈fp
 obj:∀i h,tn i h->∀b∈fp,∃o,h.get? b=some o/\∀v,o.data≠.cell v
 keep:∀i h h',tn i h->(∀b∈fp,∀o,h.get? b=some o->h'.get? b=some o)->tn i h'
 item:∀(X:Cx),X.prog=P->X.w=w->X.K=K->X.calm=true->∀(i:Nat) (pins:qO) (s:Shared) (σ:St) (H:Hp) (E:qV),Inv X pins σ H s->(∀b∈fp,FpOk X pins H b)->tn i s.heap->J.go i H ->
  wpAny (model P w) X.A (pyNext (.ref it)) (fun r s1=>∃u,r=some u /\
   wpAny (model P w) X.A (letOwnedTupleGo tg (.ref it) u) (fun _ s2=>∃x H',Inv X pins σ H' s2/\RelV x u/\J.yld i H x H'/\tn (i+1) s2.heap/\∀b∈fp,H' b=none) E s1) E s
 done:∀(X:Cx),X.prog=P->X.w=w->X.K=K->X.calm=true->∀(i:Nat) (pins:qO) (s:Shared) (σ:St) (H:Hp) (E:qV),Inv X pins σ H s->(∀b∈fp,FpOk X pins H b)->tn i s.heap->J.stop i H ->
  wpAny (model P w) X.A (pyNext (.ref it)) (fun r s1=>r=none/\Inv X pins σ H s1) E s
 self:∀(A:Around) (i:Nat) (s:Shared) (Q:qV) (E:qV),tn i s.heap->Q (.ref it) s->wpAny (model P w) A (pyIter (.ref it)) Q E s
abbrev TI:=St->Hp->(It->Hp->Prop)->Prop
def PIE(X:Cx)(pins:qO)(σ:St)(tg:Expr)(R:It->Hp->Prop)(itv:Value)(s2:Shared):Prop :=
 ∃(it:Addr) (fp:List Addr) (tn:Nat->Heap->Prop) (J:It) (H':Hp),itv=.ref it/\Inv X pins σ H' s2/\Turn X.prog X.w X.K tg J fp it tn/\tn 0 s2.heap/\(∀b∈fp,FpOk X pins H' b)/\R J H'
def PI(X:Cx)(tg iter:Expr)(wi:TI):Prop :=
 ∀(pins:qO) (s:Shared) (σ:St) (H:Hp) (R:It->Hp->Prop),Inv X pins σ H s->wi σ H R ->
  wpAny (model X.prog X.w) X.A (eval iter X.env) (fun v s1=>wpAny (model X.prog X.w) X.A (pyIter v) (PIE X pins σ tg R) X.xe s1) X.xe s
theorem Zy{M:Model}{A:Around}{E:qV}{s:Shared}{tg:Expr}{it:Addr}{u:Value}{o:Obj}{n:String}{vs:Array Value}{Q:Unit->Shared->Prop}(ho:s.heap.get? it=some o)(hc:o.cls=.type n)(hd:o.data=.fields vs)
  (hn:["enumerate","zip","dict_itemiterator","dict_reverseitemiterator","odict_iterator","itertools.zip_longest","itertools.pairwise"].contains n=false) (hQ:Q () s):wpAny M A (letOwnedTupleGo tg (.ref it) u) Q E s:=by
 unfold letOwnedTupleGo;cases tg <;> first
  | exact wpAny_pure hQ
  | (cases u <;> first
    | exact wpAny_pure hQ
    | (refine wpAny_bind (wpAny_load ho ?_)
       rw[hc,hd];show wpAny M A (if (["enumerate","zip","dict_itemiterator","dict_reverseitemiterator","odict_iterator","itertools.zip_longest","itertools.pairwise"].contains n&&vs[0]? == some (rawInt _))=true then _ else _) Q E s
       rw[if_neg (by intro h;rw[hn,Bool.false_and]at h;cases h)]
       exact wpAny_pure hQ))
def Itl(K:qF)(a:Addr):It :=
 ⟨fun i H=>∃xs x,SqL K H a xs/\xs[i]?=some x,fun i H x H'=>H'=H/\∀xs,SqL K H a xs->xs[i]?=some x,fun i H=>∃xs,SqL K H a xs/\xs.length<=i⟩
def Itt(K:qF)(a:Addr):It :=
 ⟨fun i H=>∃xs x,SqT K H a xs/\xs[i]?=some x,fun i H x H'=>H'=H/\∀xs,SqT K H a xs->xs[i]?=some x,fun i H=>∃xs,SqT K H a xs/\xs.length<=i⟩
def Itr(lo:Int)(n:Nat):It:=⟨fun i _=>i<n,fun i H x H'=>H'=H/\x=.int (lo+i),fun i _=>n<=i⟩
theorem zjf{P:Program}{w:World}{K:qF}{tg:Expr}(a it:Addr):Turn P w K tg (Itl K a) [it] it (fun i h=>h.IsListIter it a i) where
 mem:=by simp
 obj:=fun i h st b hb=>by
  have e:b=it:=by simpa using hb
  subst e;obtain⟨o,e,c,d⟩:=st;exact⟨o,e,fun v z=>by rw[d]at z;cases z⟩
 keep:=fun i h h' st k=>st.at fun o e=>k it (by simp) o e
 item:=by
  intro X hP hw hK hc i pins s σ H E I hf st hg;subst hP hw hK;obtain⟨xs,x,hq,hx⟩:=hg;obtain⟨its,rv,p,hz⟩:=I.list hq;obtain⟨u,hu,ru⟩:=rv.get hx;obtain⟨f0,f1,f2,f3,f4,f5⟩:=hf it (by simp)
  refine wpAny_pyNext_list_item st p.isList (x:=u) (by simpa using hu) fun h' st' sb=>?_
  have I1:Inv X pins σ H { s with heap:=h' }:=I.turned (t':=s.toks) (fun b o hb e=>(sb.2 b hb).trans e) f0 f1 f3 f4 f5
  obtain⟨o,e,c,d⟩:=id st';exact⟨u,rfl,Zy (s:={ s with heap:=h' }) e c d (by decide) ⟨x,H,I1,ru,⟨rfl,fun ys hy=>by rw[I.list_inj hy hq];exact hx⟩,st',fun b hb=>(hf b hb).1⟩⟩
 done:=by
  intro X hP hw hK hc i pins s σ H E I hf st hg;subst hP hw hK;obtain⟨xs,hq,hx⟩:=hg;obtain⟨its,rv,p,hz⟩:=I.list hq;obtain⟨f0,f1,f2,f3,f4,f5⟩:=hf it (by simp)
  have hl:=rv.length;exact wpAny_pyNext_list_end (I.ok.hd hc) st p.isList (by simp;lia) fun h' eb=>⟨rfl,I.turned (t':=s.toks) (fun b o hb e=>eb b o hb e) f0 f1 f3 f4 f5⟩
 self:=fun _ _ _ _ _ st h=>wpAny_pyIter_listiter st h
theorem ziA{P:Program}{w:World}{K:qF}{tg:Expr}(a it:Addr):Turn P w K tg (Itt K a) [it] it (fun i h=>h.IsTupleIter it a i) where
 mem:=by simp
 obj:=fun i h st b hb=>by
  have e:b=it:=by simpa using hb
  subst e;obtain⟨o,e,c,d⟩:=st;exact⟨o,e,fun v z=>by rw[d]at z;cases z⟩
 keep:=fun i h h' st k=>st.at fun o e=>k it (by simp) o e
 item:=by
  intro X hP hw hK hc i pins s σ H E I hf st hg;subst hP hw hK;obtain⟨xs,x,hq,hx⟩:=hg;obtain⟨its,rv,p,hz⟩:=I.tuple hq;obtain⟨u,hu,ru⟩:=rv.get hx;obtain⟨f0,f1,f2,f3,f4,f5⟩:=hf it (by simp)
  refine wpAny_pyNext_tuple_item st (show s.heap.IsTuple a its.toArray from p) (x:=u) (by simpa using hu) fun h' st' sb=>?_
  have I1:Inv X pins σ H { s with heap:=h' }:=I.turned (t':=s.toks) (fun b o hb e=>(sb.2 b hb).trans e) f0 f1 f3 f4 f5
  obtain⟨o,e,c,d⟩:=id st';exact⟨u,rfl,Zy (s:={ s with heap:=h' }) e c d (by decide) ⟨x,H,I1,ru,⟨rfl,fun ys hy=>by rw[I.tuple_inj hy hq];exact hx⟩,st',fun b hb=>(hf b hb).1⟩⟩
 done:=by
  intro X hP hw hK hc i pins s σ H E I hf st hg;subst hP hw hK;obtain⟨xs,hq,hx⟩:=hg;obtain⟨its,rv,p,hz⟩:=I.tuple hq;obtain⟨f0,f1,f2,f3,f4,f5⟩:=hf it (by simp)
  have hl:=rv.length;exact wpAny_pyNext_tuple_end (I.ok.hd hc) st (show s.heap.IsTuple a its.toArray from p) (by simp;lia) fun h' eb=>⟨rfl,I.turned (t':=s.toks) (fun b o hb e=>eb b o hb e) f0 f1 f3 f4 f5⟩
 self:=fun _ _ _ _ _ st h=>wpAny_pyIter_tupleiter st h
theorem ziB{P:Program}{w:World}{K:qF}{tg:Expr}(it:Addr)(lo:Int)(n:Nat):Turn P w K tg (Itr lo n) [it] it (fun i h=>IsRangeIter h it (lo+(i:Nat)*1) ((n:Int) - (i:Nat)) 1) where
 mem:=by simp
 obj:=fun i h st b hb=>by
  have e:b=it:=by simpa using hb
  subst e;exact⟨_,st,fun v z=>by
   have z':Data.fields _=Data.cell v:=z;cases z'⟩
 keep:=fun i h h' st k=>k it (by simp) _ st
 item:=by
  intro X hP hw hK hc i pins s σ H E I hf st hg;subst hP hw hK;obtain⟨f0,f1,f2,f3,f4,f5⟩:=hf it (by simp)
  have W:=Walks.range (prog:=X.prog) (w:=X.w) (I.ok.hd hc) it lo 1 n;refine W.item i s _ _ hg st fun v h' tk hv st' kk=>?_
  obtain⟨t,rfl⟩:=hv;have I1:Inv X pins σ H { s with heap:=h',toks:=tk }:=I.turned (fun b o hb e=>kk b o (by simpa using hb) e) f0 f1 f3 f4 f5
  refine⟨_,rfl,Zy (s:={ s with heap:=h',toks:=tk }) (n:="range_iterator") st' rfl rfl (by decide) ⟨.int (lo+i),H,I1,⟨t,?_⟩,⟨rfl,rfl⟩,st',fun b hb=>(hf b hb).1⟩⟩
  rw[Int.mul_one]
 done:=by
  intro X hP hw hK hc i pins s σ H E I hf st hg;subst hP hw hK;obtain⟨f0,f1,f2,f3,f4,f5⟩:=hf it (by simp)
  exact wpAny_pyNext_range_end (I.ok.hd hc) st (by have:n<=i:=hg;lia) fun h' eb=>⟨rfl,I.turned (t':=s.toks) (fun b o hb e=>eb b o hb e) f0 f1 f3 f4 f5⟩
 self:=fun _ _ _ _ _ st h=>wpAny_pyIter_rangeiter st h
section
variable{X:Cx}{tg:Expr}
def zsP(K:qF)(tl:TE):TI:=fun σ H R=>tl σ H fun x H1=>∃a,x=.ref a/\(∃xs,SqL K H1 a xs)/\R (Itl K a) H1
def iTup(K:qF)(tl:TE):TI:=fun σ H R=>tl σ H fun x H1=>∃a,x=.ref a/\(∃xs,SqT K H1 a xs)/\R (Itt K a) H1
theorem zjM{l:Expr}{tl:TE}(hl:PE X l tl):PI X tg l (zsP X.K tl):=by
 intro pins s σ H R I h;refine thn (hl pins s σ H _ I h) fun v s1 ⟨x,H1,I1,r1,q1⟩=>?_
 obtain⟨a,e,⟨xs,hq⟩,q⟩:=q1;subst e;cases r1;obtain⟨its,rv,p,hz⟩:=I1.list hq;refine wpAny_pyIter_list p.isList ?_;refine⟨s1.heap.objs.size,[s1.heap.objs.size],_,_,H1,rfl,I1.kept (t':=s1.toks) fun b o e=>Heap.get?_push_of_some _ e,zjf a _,⟨_,Heap.get?_push_size _ rfl,rfl,rfl⟩,fun b hb=>?_,q⟩
 have e:b=s1.heap.objs.size:=by simpa using hb
 subst e;exact I1.fpOk (Nat.le_refl _) (I1.hok.fresh (Nat.le_refl _))
theorem zo6{l:Expr}{tl:TE}(hl:PE X l tl):PI X tg l (iTup X.K tl):=by
 intro pins s σ H R I h;refine thn (hl pins s σ H _ I h) fun v s1 ⟨x,H1,I1,r1,q1⟩=>?_
 obtain⟨a,e,⟨xs,hq⟩,q⟩:=q1;subst e;cases r1;obtain⟨its,rv,p,hz⟩:=I1.tuple hq;refine wpAny_pyIter_tuple (show s1.heap.IsTuple a its.toArray from p) ?_
 refine⟨s1.heap.objs.size,[s1.heap.objs.size],_,_,H1,rfl,I1.kept (t':=s1.toks) fun b o e=>Heap.get?_push_of_some _ e,ziA a _,⟨_,Heap.get?_push_size _ rfl,rfl,rfl⟩,fun b hb=>?_,q⟩
 have e:b=s1.heap.objs.size:=by simpa using hb
 subst e;exact I1.fpOk (Nat.le_refl _) (I1.hok.fresh (Nat.le_refl _))
theorem zlu{pins:qO}{σ:St}{H:Hp}{s:Shared}{R:It->Hp->Prop}{E:qV}{lo hi:Int}{t u v:Tok}{tk:Nat}(I:Inv X pins σ H s)(h1:-(2 ^ 62)<=lo)(h2:lo<2 ^ 62)(h3:-(2 ^ 62)<=hi)(h4:hi<2 ^ 62)
  (q:R (Itr lo (hi - lo).toNat) H):wpAny (model X.prog X.w) X.A (pyIter (.ref s.heap.objs.size)) (PIE X pins σ tg R) E { s with heap:=s.heap.push { cls:=.type "range",data:=.fields #[.int lo t,.int hi u,.int 1 v] },toks:=tk }:=by
 refine wpAny_pyIter_range (IsRange.new ..) (small_one h1 h2 h3 h4) ?_;have I1:Inv X pins σ H { s with heap:=s.heap.push { cls:=.type "range",data:=.fields #[.int lo t,.int hi u,.int 1 v] },toks:=tk }:=I.kept fun b o e=>Heap.get?_push_of_some _ e
 refine⟨(s.heap.push { cls:=.type "range",data:=.fields #[.int lo t,.int hi u,.int 1 v] }).objs.size,[(s.heap.push { cls:=.type "range",data:=.fields #[.int lo t,.int hi u,.int 1 v] }).objs.size],_,_,H,rfl,
  I1.kept (t':=tk) fun b o e=>Heap.get?_push_of_some _ e,ziB _ lo (hi - lo).toNat,?_,fun b hb=>?_,q⟩
 ·have e1:lo+((0:Nat):Int)*1=lo:=by simp
  have e2:(((hi - lo).toNat:Nat):Int) - ((0:Nat):Int)=Builtin.Range.rangeSize lo hi 1:=by rw[rangeSize_one];split <;> lia
  show IsRangeIter _ _ (lo+((0:Nat):Int)*1) ((((hi - lo).toNat:Nat):Int) - ((0:Nat):Int)) 1
  rw[e1,e2];exact Heap.get?_push_size _ rfl
 ·have e:b=(s.heap.push { cls:=.type "range",data:=.fields #[.int lo t,.int hi u,.int 1 v] }).objs.size:=by simpa using hb
  subst e;exact I1.fpOk (Nat.le_refl _) (I1.hok.fresh (Nat.le_refl _))
def zsO(ta:TA):TI:=fun σ H R=>ta σ H fun vs H1=>∃j:Int,vs=[.int j]/\-(2 ^ 62)<=j/\j<2 ^ 62/\R (Itr 0 j.toNat) H1
theorem zjL{a:Expr}{ta:TA}{p pos:Pos}(hg:Gl X "range") (hm:X.mg "range" = none) (ha:PA X [a] ta) (hs:starEach [a] X.env=[(false,eval a X.env)]:=by rfl):PI X tg (.Call (.Name "range" p) [a] [] pos) (zsO ta):=by
 intro pins s σ H R I h;refine Call_ (YD I hg hm boot_range (PyProof.Rows.callWith_type1 (thn (ha pos pins s σ H _ I h) fun us s1 ⟨vs,H1,I1,r1,q1⟩=>?_) hs rfl))
 obtain⟨j,e,q1,q2,q⟩:=q1;subst e;cases r1 with
 | cons r rr =>
  cases rr;obtain⟨t,rfl⟩:=r;exact call_range_1 (zlu I1 (by lia) (by lia) q1 q2 (by simpa using q))
def tFor(wi:TI)(g:TG)(tb:TS):TS:=fun D σ H=>wi σ H fun J H1=>∃W:Nat->Nat->St->Hp->Prop,(∃m,W 0 m σ H1)/\∀i m σ H,W i m σ H ->
 (J.stop i H/\D.nx σ H)\/(J.go i H/\∃N:St->Hp->Prop,(∀σ' H',N σ' H'->∃m',m'<m/\W (i+1) m' σ' H')/\∀x H',J.yld i H x H'->g x σ H' fun σ2 H2=>tb { D with nx:=N,ct:=N,bk:=D.nx } σ2 H2)
def Y9(fp:List Addr)(h:Heap):List (Addr×Obj):=fp.filterMap fun b=>(h.get? b).map fun o=>(b,o)
theorem Z0{fp:List Addr}{h:Heap}{b:Addr}{o:Obj}(hb:b∈fp)(e:h.get? b=some o):(b,o)∈Y9 fp h:=List.mem_filterMap.mpr ⟨b,hb,by rw[e];rfl⟩
theorem zj1{fp:List Addr}{h:Heap}{p:Addr×Obj}(hp:p∈Y9 fp h):p.1∈fp/\h.get? p.1=some p.2:=by
 obtain⟨b,hb,e⟩:=List.mem_filterMap.mp hp;cases q:h.get? b with
 | none=>rw[q]at e;cases e
 | some o =>
  rw[q]at e;have e':(b,o)=p:=Option.some.inj e;subst e';exact⟨hb,q⟩
theorem Inv.pinned{pins:qO}{σ:St}{H:Hp}{s:Shared}{fp:List Addr}(I:Inv X pins σ H s)(hf:∀b∈fp,FpOk X pins H b)(ho:∀b∈fp,∃o,s.heap.get? b=some o/\∀v,o.data≠.cell v):Inv X (pins++Y9 fp s.heap) σ H s :=
 I.pins_of fun p hp=>(List.mem_append.mp hp).elim (fun z=>I.pin p (List.mem_append_right _ z)) fun z=>by
  obtain⟨hb,e⟩:=zj1 z;obtain⟨f0,f1,f2,_⟩:=hf p.1 hb;obtain⟨o,e',d⟩:=ho p.1 hb;rw[e]at e';cases e';exact⟨e,f0,f1,f2,d⟩
theorem Inv.unpinned{pins pl:qO}{σ:St}{H:Hp}{s:Shared}(I:Inv X (pins++pl) σ H s):Inv X pins σ H s:=I.pins_of fun p hp=>I.pin p (List.mem_append_right _ (List.mem_append_left _ hp))
theorem zo1{iter:Expr}{body:List Stmt}{wi:TI}{g:TG}{tb:TS}{pos:Pos}(hp:PassesOwn (model X.prog X.w) X.A X.env X.xe)(hc:X.calm=true)(hi:PI X tg iter wi)(hg:PG X tg g)(hb:PSs X body tb)
  (hs:∀x,foldedSetIterable iter X.env x=pure x:=by intro _;rfl):PS X (.For tg iter body [] pos) (tFor wi g tb):=by
 intro pins s σ H D I h;refine wpAny_For (thn (hi pins s σ H _ I h) fun v s1 h1=>thn h1 fun itv s2 h2=>?_) hs
 obtain⟨it,fp,tn,J,H2,e,I2,T,st2,f2,W,⟨m0,w0⟩,turn⟩:=h2;subst e;have stat:∀{H':Hp},(∀b∈fp,H' b=none)->∀b∈fp,FpOk X pins H' b:=fun hn b hb=>⟨hn b hb,(f2 b hb).2⟩
 refine codeAny_forLoop_any (fun n s'=>∃i σ' H',Inv X pins σ' H' s'/\tn i s'.heap/\(∀b∈fp,H' b=none)/\W i n σ' H') ?_ m0 ⟨0,σ,H2,I2,st2,fun b hb=>(f2 b hb).1,w0⟩
 rintro n s3 ⟨i,σ3,H3,I3,st3,fr3,w3⟩;rcases turn i n σ3 H3 w3 with⟨stop,qn⟩|⟨go,N,hN,step⟩
 ·refine wpAny_passesOwn hp (thn (T.done X rfl rfl rfl hc i pins s3 σ3 H3 X.xe I3 (stat fr3) st3 stop) fun r s4 ⟨hr,I4⟩=>?_)
  subst hr;exact wpAny_execs_nil ⟨σ3,H3,I4,qn⟩
 ·refine wpAny_passesOwn hp (thn (T.item X rfl rfl rfl hc i pins s3 σ3 H3 X.xe I3 (stat fr3) st3 go) fun r s4 ⟨u,hr,h4⟩=>?_)
  subst hr;refine wpAny_passesOwn hp (thn h4 fun _ s5 ⟨x,H5,I5,r5,y5,st5,fr5⟩=>?_)
  have I5':=I5.pinned (stat fr5) (T.obj _ _ st5);refine wpAny_passesOwn hp (thn (hg _ s5 σ3 H5 x u _ I5' r5 (step x H5 y5)) fun _ s6 ⟨σ6,H6,I6,q6⟩=>?_)
  refine wpAny_passesOwn hp (thn (hb _ s6 σ6 H6 _ I6 q6) fun f s7 q7=>?_)
  have again:∀{σ7:St} {H7:Hp},Inv X (pins++Y9 fp s5.heap) σ7 H7 s7->N σ7 H7->∃m,m<n/\∃i σ' H',Inv X pins σ' H' s7/\tn i s7.heap/\(∀b∈fp,H' b=none)/\W i m σ' H':=fun {σ7 H7} I7 n7=>by
   obtain⟨m',hm,w7⟩:=hN σ7 H7 n7;refine⟨m',hm,i+1,σ7,H7,I7.unpinned,T.keep _ _ _ st5 fun b hb o e=>(I7.pin (b,o) (List.mem_append_right _ (List.mem_append_right _ (Z0 hb e)))).1,fun b hb=>?_,w7⟩
   obtain⟨o,e,d⟩:=T.obj _ _ st5 b hb;exact(I7.pin (b,o) (List.mem_append_right _ (List.mem_append_right _ (Z0 hb e)))).2.1
  cases f with
  | next=>obtain⟨σ7,H7,I7,n7⟩:=q7;exact again I7 n7
  | cont=>obtain⟨σ7,H7,I7,n7⟩:=q7;exact again I7 n7
  | brk=>obtain⟨σ7,H7,I7,q7⟩:=q7;exact⟨σ7,H7,I7.unpinned,q7⟩
  | ret v=>obtain⟨x7,σ7,H7,I7,r7,q7⟩:=q7;exact⟨x7,σ7,H7,I7.unpinned,r7,q7⟩
end
abbrev R2:=V->V->Hp->VK->Prop
def OpR(X:Cx)(f:Value->Value->Sem Value)(r:R2):Prop :=
 ∀(pins:qO) (s:Shared) (σ:St) (H:Hp) (x y:V) (v u:Value) (Q:VK),Inv X pins σ H s->RelV x v->RelV y u->r x y H Q ->
  wpAny (model X.prog X.w) X.A (f v u) (EP X pins σ Q) X.xe s
def UnR(X:Cx)(f:Value->Sem Value)(r:V->Hp->VK->Prop):Prop :=
 ∀(pins:qO) (s:Shared) (σ:St) (H:Hp) (x:V) (v:Value) (Q:VK),Inv X pins σ H s->RelV x v->r x H Q ->
  wpAny (model X.prog X.w) X.A (f v) (EP X pins σ Q) X.xe s
def J5(X:Cx)(f:Value)(r:List V->Hp->VK->Prop):Prop :=
 ∀(pins:qO) (s:Shared) (σ:St) (H:Hp) (xs:List V) (us:List Value) (Q:VK),Inv X pins σ H s->Vals xs us->r xs H Q ->
  wpAny (model X.prog X.w) X.A (call f us) (EP X pins σ Q) X.xe s
def TruR(X:Cx)(r:V->Hp->(Bool->Hp->Prop)->Prop):Prop :=
 ∀(pins:qO) (s:Shared) (σ:St) (H:Hp) (x:V) (v:Value) (Q:Bool->Hp->Prop),Inv X pins σ H s->RelV x v->r x H Q ->
  wpAny (model X.prog X.w) X.A (truthy v) (TP X pins σ Q) X.xe s
def tOp(r:R2)(ta tb:TE):TE:=fun σ H Q=>ta σ H fun x H1=>tb σ H1 fun y H2=>r x y H2 Q
def tUn(r:V->Hp->VK->Prop)(ta:TE):TE:=fun σ H Q=>ta σ H fun x H1=>r x H1 Q
def rI(C:Int->Int->Prop)(g:Int->Int->V):R2:=fun x y H Q=>∃i j,x=.int i/\y=.int j/\C i j/\Q (g i j) H
def rI0(g:Int->Int->V):R2:=fun x y H Q=>∃i j,x=.int i/\y=.int j/\Q (g i j) H
def rU(g:Int->V):V->Hp->VK->Prop:=fun x H Q=>∃i,x=.int i/\Q (g i) H
section
variable{X:Cx}{a b c:Expr}{ta tb tc:TE}{pos:Pos}
theorem binT(ha:PE X a ta)(hb:PE X b tb){pins:qO}{s:Shared}{σ:St}{H:Hp}{R:V->V->Hp->Prop}(I:Inv X pins σ H s)
  (h:ta σ H fun x H1=>tb σ H1 fun y H2=>R x y H2) {Q:qV} {f:Value->Value->Sem Value}
  (hf:∀v u s2 x y H2,Inv X pins σ H2 s2->RelV x v->RelV y u->R x y H2->wpAny (model X.prog X.w) X.A (f v u) Q X.xe s2) :
  wpAny (model X.prog X.w) X.A (eval a X.env) (fun v s₁=>wpAny (model X.prog X.w) X.A (eval b X.env) (fun u s₂=>wpAny (model X.prog X.w) X.A (f v u) Q X.xe s₂) X.xe s₁) X.xe s:=by
 refine thn (ha pins s σ H _ I h) fun v s1 ⟨x,H1,I1,r1,q1⟩=>?_
 refine thn (hb pins s1 σ H1 _ I1 q1) fun u s2 ⟨y,H2,I2,r2,q2⟩=>?_
 exact hf v u s2 x y H2 I2 r1 r2 q2
theorem JD{op:Operator}{r:R2}(ho:OpR X (binaryOp op) r)(ha:PE X a ta)(hb:PE X b tb):PE X (.BinOp a op b pos) (tOp r ta tb):=by
 intro pins s σ H Q I h;exact wpAny_BinOp (binT ha hb I h fun v u s2 x y H2 I2 rx ry q=>ho pins s2 σ H2 x y v u Q I2 rx ry q)
theorem zr9{op:UnaryOp}{r:V->Hp->VK->Prop}(ho:UnR X (unaryOp op) r)(ha:PE X a ta):PE X (.UnaryOp op a pos) (tUn r ta):=by
 intro pins s σ H Q I h;exact UnaryOp_ (thn (ha pins s σ H _ I h) fun v s1 ⟨x,H1,I1,r1,q1⟩=>ho pins s1 σ H1 x v Q I1 r1 q1)
theorem opI{f:Value->Value->Sem Value}{C:Int->Int->Prop}{g:Int->Int->Int}
  (rule:∀(i j:Int) (t u:Tok) (s:Shared) (Q:qV) (E:qV),C i j->Q (.int (g i j) s.toks) { s with toks:=s.toks+1 }->wpAny (model X.prog X.w) X.A (f (.int i t) (.int j u)) Q E s) :
  OpR X f (rI C fun i j=>.int (g i j)):=by
 intro pins s σ H x y v u Q I rx ry h;obtain⟨i,j,rfl,rfl,hc,q⟩:=h;obtain⟨t,rfl⟩:=rx;obtain⟨t',rfl⟩:=ry;exact rule i j t t' s _ _ hc ⟨.int (g i j),H,I.tok _,⟨_,rfl⟩,q⟩
theorem opI0{f:Value->Value->Sem Value}{g:Int->Int->Int}
  (rule:∀(i j:Int) (t u:Tok) (s:Shared) (Q:qV) (E:qV),Q (.int (g i j) s.toks) { s with toks:=s.toks+1 }->wpAny (model X.prog X.w) X.A (f (.int i t) (.int j u)) Q E s) :
  OpR X f (rI0 fun i j=>.int (g i j)):=by
 intro pins s σ H x y v u Q I rx ry h;obtain⟨i,j,rfl,rfl,q⟩:=h;obtain⟨t,rfl⟩:=rx;obtain⟨t',rfl⟩:=ry;exact rule i j t t' s _ _ ⟨.int (g i j),H,I.tok _,⟨_,rfl⟩,q⟩
theorem opB0{f:Value->Value->Sem Value}{g:Int->Int->Bool}
  (rule:∀(i j:Int) (t u:Tok) (s:Shared) (Q:qV) (E:qV),Q (.bool (g i j)) s->wpAny (model X.prog X.w) X.A (f (.int i t) (.int j u)) Q E s) :
  OpR X f (rI0 fun i j=>.bl (g i j)):=by
 intro pins s σ H x y v u Q I rx ry h;obtain⟨i,j,rfl,rfl,q⟩:=h;obtain⟨t,rfl⟩:=rx;obtain⟨t',rfl⟩:=ry;exact rule i j t t' s _ _ ⟨.bl (g i j),H,I,rfl,q⟩
def CPow(i j:Int):Prop:=0<=j/\j<=1000000/\i.natAbs<2 ^ 64
def CMul(i j:Int):Prop:=(-(2 ^ 64)<i/\i<2 ^ 64)\/(-(2 ^ 64)<j/\j<2 ^ 64)
theorem CMul.ok{i j:Int}(h:CMul i j):IntMulOk i j:=by
 rcases h with⟨h1,h2⟩|⟨h1,h2⟩
 ·exact .of_left (intBits_le_64 h1 h2)
 ·exact .of_right (intBits_le_64 h1 h2)
theorem ziz(k:Nat):(0:Int)<=2 ^ k:=by
 rw[two_pow_cast];exact Int.natCast_nonneg _
theorem Ug:OpR X (binaryOp .Add) (rI0 fun i j=>.int (i+j)):=opI0 fun _ _ _ _ _ _ _ q=>add_int q
theorem zpj:OpR X (binaryOp .Sub) (rI0 fun i j=>.int (i - j)):=opI0 fun _ _ _ _ _ _ _ q=>sub_int q
theorem QU:OpR X (binaryOp .Mult) (rI CMul fun i j=>.int (i*j)):=opI fun _ _ _ _ _ _ _ hc q=>mul_int q hc.ok
theorem U8:OpR X (binaryOp .Mod) (rI (fun _ j=>0<j) fun i j=>.int (i % j)):=opI fun i j _ _ _ _ _ hc q=>by
 have h1:(0:Int)<j:=hc;exact mod_int' (by lia) (by rw[Int.fmod_eq_emod_of_nonneg i (by lia)];exact q)
theorem zpm:OpR X (binaryOp .Pow) (rI CPow fun i j=>.int (i ^ j.toNat)):=opI fun _ _ _ _ _ _ _ hc q=>pow_int_small hc.1 hc.2.1 hc.2.2 q
theorem zpl:OpR X (binaryOp .LShift) (rI CPow fun i j=>.int (i*2 ^ j.toNat)):=opI fun _ _ _ _ _ _ _ hc q=>lshift_int_small hc.1 hc.2.1 hc.2.2 q
theorem zpk:OpR X (binaryOp .RShift) (rI (fun _ j=>0<=j) fun i j=>.int (i / 2 ^ j.toNat)):=opI fun i j _ _ _ _ _ hc q =>
 rshift_int hc (by rw[Int.fdiv_eq_ediv_of_nonneg i (ziz _)];exact q)
theorem zpi:OpR X (binaryOp .BitXor) (rI0 fun i j=>.int (Builtin.bitXor i j)):=opI0 fun _ _ _ _ _ _ _ q=>xor_int q
theorem unI{f:Value->Sem Value}{g:Int->Int}
  (rule:∀(i:Int) (t:Tok) (s:Shared) (Q:qV) (E:qV),Q (.int (g i) s.toks) { s with toks:=s.toks+1 }->wpAny (model X.prog X.w) X.A (f (.int i t)) Q E s) :
  UnR X f (rU fun i=>.int (g i)):=by
 intro pins s σ H x v Q I rx h;obtain⟨i,rfl,q⟩:=h;obtain⟨t,rfl⟩:=rx;exact rule i t s _ _ ⟨.int (g i),H,I.tok _,⟨_,rfl⟩,q⟩
theorem zox:UnR X (unaryOp .USub) (rU fun i=>.int (-i)):=unI fun _ _ _ _ _ q=>neg_int q
end
def scal:V->V->Bool
 | .non,.non=>true|.non,.int _=>true|.int _,.non=>true|.non,.bl _=>true|.bl _,.non=>true|.non,.str _=>true|.str _,.non=>true
 | .int _,.int _=>true|.bl _,.bl _=>true|.str _,.str _=>true|.byt _,.byt _=>true
 | .int _,.str _=>true|.str _,.int _=>true|.bl _,.str _=>true|.str _,.bl _=>true
 | _,_=>false
def rEq:R2:=fun x y H Q=>scal x y=true/\Q (.bl (decide (x=y))) H
def rNe:R2:=fun x y H Q=>scal x y=true/\Q (.bl (!decide (x=y))) H
theorem zkw{i j:Int}:decide (V.int i=V.int j)=(i == j):=by
 rw[Bool.eq_iff_iff];simp
theorem zmO{i j:Bool}:decide (V.bl i=V.bl j)=(i == j):=by
 rw[Bool.eq_iff_iff];simp
theorem zkv{i j:Str}:decide (V.str i=V.str j)=(i == j):=by
 rw[Bool.eq_iff_iff];simp
theorem zkx{i j:Array UInt8}:decide (V.byt i=V.byt j)=(i.toList == j.toList):=by
 rw[Bool.eq_iff_iff];cases i;cases j;simp
section
variable{X:Cx}{a b c:Expr}{ta tb tc:TE}{pos:Pos}
theorem JA{pins:qO}{σ:St}{H:Hp}{s:Shared}{Q:VK}{k k':Bool}(I:Inv X pins σ H s)(q:Q (.bl k) H)(e:k=k'):EP X pins σ Q (.bool k') s:=by
 subst e;exact⟨.bl k,H,I,rfl,q⟩
theorem zsg:OpR X (compareOp .Eq) rEq:=by
 intro pins s σ H x y v u Q I rx ry h;obtain⟨hs,q⟩:=h;cases x with
 | non =>
  cases rx;cases y with
  | non=>cases ry;exact PySem.EqNone.eq_none_none (JA I q (by simp))
  | bl j=>cases ry;exact PySem.EqNone.eq_none_bool (JA I q (by simp))
  | int j=>obtain⟨t',rfl⟩:=ry;exact PySem.EqNone.eq_none_int (JA I q (by simp))
  | str j=>obtain⟨t',rfl⟩:=ry;exact PySem.EqNone.eq_none_str (JA I q (by simp))
  | _=>exact absurd (show false=true from hs) Bool.false_ne_true
 | bl i =>
  cases rx;cases y with
  | non=>cases ry;exact PySem.EqNone.eq_bool_none (JA I q (by simp))
  | bl j=>cases ry;exact eq_bool (JA I q zmO)
  | str j=>obtain⟨t',rfl⟩:=ry;exact PySem.EqMixed.eq_bool_str (JA I q (by simp))
  | _=>exact absurd (show false=true from hs) Bool.false_ne_true
 | int i =>
  obtain⟨t,rfl⟩:=rx;cases y with
  | non=>cases ry;exact PySem.EqNone.eq_int_none (JA I q (by simp))
  | int j=>obtain⟨t',rfl⟩:=ry;exact eq_int (JA I q zkw)
  | str j=>obtain⟨t',rfl⟩:=ry;exact PySem.EqMixed.eq_int_str (JA I q (by simp))
  | _=>exact absurd (show false=true from hs) Bool.false_ne_true
 | str i =>
  obtain⟨t,rfl⟩:=rx;cases y with
  | non=>cases ry;exact PySem.EqNone.eq_str_none (JA I q (by simp))
  | bl j=>cases ry;exact PySem.EqMixed.eq_str_bool (JA I q (by simp))
  | int j=>obtain⟨t',rfl⟩:=ry;exact PySem.EqMixed.eq_str_int (JA I q (by simp))
  | str j=>obtain⟨t',rfl⟩:=ry;exact eq_str (JA I q zkv)
  | _=>exact absurd (show false=true from hs) Bool.false_ne_true
 | byt i =>
  obtain⟨t,rfl⟩:=rx;cases y with
  | byt j=>obtain⟨t',rfl⟩:=ry;exact PySem.W.eq_bytes (JA I q zkx)
  | _=>exact absurd (show false=true from hs) Bool.false_ne_true
 | _=>cases y <;> exact absurd (show false=true from hs) Bool.false_ne_true
theorem zse:OpR X (compareOp .NotEq) rNe:=by
 intro pins s σ H x y v u Q I rx ry h;obtain⟨hs,q⟩:=h;cases x with
 | non =>
  cases rx;cases y with
  | non=>cases ry;exact PySem.EqNone.ne_none_none (JA I q (by simp))
  | bl j=>cases ry;exact PySem.EqNone.ne_none_bool (JA I q (by simp))
  | int j=>obtain⟨t',rfl⟩:=ry;exact PySem.EqNone.ne_none_int (JA I q (by simp))
  | str j=>obtain⟨t',rfl⟩:=ry;exact PySem.EqNone.ne_none_str (JA I q (by simp))
  | _=>exact absurd (show false=true from hs) Bool.false_ne_true
 | bl i =>
  cases rx;cases y with
  | non=>cases ry;exact PySem.EqNone.ne_bool_none (JA I q (by simp))
  | bl j=>cases ry;exact ne_bool (JA I q (congrArg not zmO))
  | str j=>obtain⟨t',rfl⟩:=ry;exact PySem.EqMixed.ne_bool_str (JA I q (by simp))
  | _=>exact absurd (show false=true from hs) Bool.false_ne_true
 | int i =>
  obtain⟨t,rfl⟩:=rx;cases y with
  | non=>cases ry;exact PySem.EqNone.ne_int_none (JA I q (by simp))
  | int j=>obtain⟨t',rfl⟩:=ry;exact ne_int (JA I q (congrArg not zkw))
  | str j=>obtain⟨t',rfl⟩:=ry;exact PySem.EqMixed.ne_int_str (JA I q (by simp))
  | _=>exact absurd (show false=true from hs) Bool.false_ne_true
 | str i =>
  obtain⟨t,rfl⟩:=rx;cases y with
  | non=>cases ry;exact PySem.EqNone.ne_str_none (JA I q (by simp))
  | bl j=>cases ry;exact PySem.EqMixed.ne_str_bool (JA I q (by simp))
  | int j=>obtain⟨t',rfl⟩:=ry;exact PySem.EqMixed.ne_str_int (JA I q (by simp))
  | str j=>obtain⟨t',rfl⟩:=ry;exact ne_str (JA I q (congrArg not zkv))
  | _=>exact absurd (show false=true from hs) Bool.false_ne_true
 | byt i =>
  obtain⟨t,rfl⟩:=rx;cases y with
  | byt j=>obtain⟨t',rfl⟩:=ry;exact PySem.W.ne_bytes (JA I q (congrArg not zkx))
  | _=>exact absurd (show false=true from hs) Bool.false_ne_true
 | _=>cases y <;> exact absurd (show false=true from hs) Bool.false_ne_true
theorem zpp:OpR X (compareOp .Lt) (rI0 fun i j=>.bl (decide (i<j))):=opB0 fun _ _ _ _ _ _ _ q=>lt_int q
theorem zsf:OpR X (compareOp .LtE) (rI0 fun i j=>.bl (decide (i<=j))):=opB0 fun _ _ _ _ _ _ _ q=>le_int q
theorem Yt:OpR X (compareOp .Gt) (rI0 fun i j=>.bl (decide (j<i))):=opB0 fun _ _ _ _ _ _ _ q=>gt_int q
theorem zpq:OpR X (compareOp .GtE) (rI0 fun i j=>.bl (decide (j<=i))):=opB0 fun _ _ _ _ _ _ _ q=>ge_int q
theorem zjT:OpR X (compareOp .Lt) (fun x y H Q=>∃i j,x=.str i/\y=.str j/\Q (.bl (decide (i.cps.toList<j.cps.toList))) H):=by
 intro pins s σ H x y v u Q I rx ry h;obtain⟨i,j,rfl,rfl,q⟩:=h;obtain⟨t,rfl⟩:=rx;obtain⟨t',rfl⟩:=ry;exact lt_str (JA I q rfl)
theorem znm:OpR X (compareOp .IsNot) (fun x y H Q=>y=.non/\Q (.bl (!decide (x=.non))) H):=by
 intro pins s σ H x y v u Q I rx ry h;obtain⟨rfl,q⟩:=h;cases ry;refine isnot_none_gen (JA I q ?_);cases x <;> first
  | (cases rx;rfl)
  | (obtain⟨t,rfl⟩:=rx;rfl)
theorem OpR.or{f:Value->Value->Sem Value}{r r':R2}(h:OpR X f r)(h':OpR X f r'):OpR X f (fun x y H Q=>r x y H Q\/r' x y H Q):=by
 intro pins s σ H x y v u Q I rx ry q;rcases q with q|q
 ·exact h pins s σ H x y v u Q I rx ry q
 ·exact h' pins s σ H x y v u Q I rx ry q
theorem Jo(b:Expr){op:CmpOp}(h:op≠.In:=by decide)(h2:op≠.NotIn:=by decide):behindInMarks op b=false:=by
 have e1:(op == CmpOp.In)=false:=by cases op <;> first|rfl|exact absurd rfl h
 have e2:(op == CmpOp.NotIn)=false:=by cases op <;> first|rfl|exact absurd rfl h2
 cases b <;> simp[behindInMarks,e1,e2]
theorem zjO{op:CmpOp}{r:R2}(ho:OpR X (compareOp op) r)(ha:PE X a ta)(hb:PE X b tb)(hm:behindInMarks op b=false):PE X (.Compare a [op] [b] pos) (tOp r ta tb):=by
 intro pins s σ H Q I h;exact wpAny_Compare1 (binT ha hb I h fun v u s2 x y H2 I2 rx ry q=>ho pins s2 σ H2 x y v u Q I2 rx ry q) hm
def zoB(t:TE):TT:=fun σ H Q=>t σ H fun x H'=>∃k,x=.bl k/\Q k H'
theorem zhc{op:CmpOp}{r:R2}(ho:OpR X (compareOp op) r)(ha:PE X a ta)(hb:PE X b tb)(hm:behindInMarks op b=false):PT X (.Compare a [op] [b] pos) (zoB (tOp r ta tb)):=by
 intro pins s σ H Q I h;refine wpAny_isTrue_Compare1 (thn (ha pins s σ H _ I h) fun v s1 ⟨x,H1,I1,r1,q1⟩=>thn (hb pins s1 σ H1 _ I1 q1) fun u s2 ⟨y,H2,I2,r2,q2⟩ =>
  thn (ho pins s2 σ H2 x y v u _ I2 r1 r2 q2) fun c s3 ⟨z,H3,I3,r3,k,e,q3⟩=>?_) hm
 subst e;cases r3;exact wpAny_truthy_bool ⟨H3,I3,q3⟩
def zmp(r r':R2)(ta tb tc:TE):TE:=fun σ H Q=>ta σ H fun x H1=>tb σ H1 fun y H2=>r x y H2 fun z H3=>∃k,z=.bl k /\
 (if k=true then tc σ H3 fun w' H4=>r' y w' H4 Q else Q (.bl false) H3)
theorem zlF{op op':CmpOp}{r r':R2}(ho:OpR X (compareOp op) r)(ho':OpR X (compareOp op') r')(ha:PE X a ta)(hb:PE X b tb)(hc:PE X c tc)
  (hm:lastMarks [op,op'] [b,c]=false:=by with_unfolding_all rfl):PE X (.Compare a [op,op'] [b,c] pos) (zmp r r' ta tb tc):=by
 intro pins s σ H Q I h;refine Compare_chain (thn (ha pins s σ H _ I h) fun v s1 ⟨x,H1,I1,r1,q1⟩=>chain_link (thn (hb pins s1 σ H1 _ I1 q1) fun u s2 ⟨y,H2,I2,r2,q2⟩ =>
  thn (ho pins s2 σ H2 x y v u _ I2 r1 r2 q2) fun d s3 ⟨z,H3,I3,r3,k,e,q3⟩=>?_)) hm
 subst e;cases r3;refine wpAny_truthy_bool ?_;cases k with
 | false=>exact ite_ff ⟨.bl false,H3,I3,rfl,q3⟩
 | true=>exact ite_tt (chain_last (thn (hc pins s3 σ H3 _ I3 q3) fun w' s4 ⟨z',H4,I4,r4,q4⟩=>ho' pins s4 σ H4 y z' u w' Q I4 r2 r4 q4))
theorem zlw{op op':CmpOp}{r r':R2}(ho:OpR X (compareOp op) r)(ho':OpR X (compareOp op') r')(ha:PE X a ta)(hb:PE X b tb)(hc:PE X c tc)
  (hm:lastMarks [op,op'] [b,c]=false:=by with_unfolding_all rfl):PT X (.Compare a [op,op'] [b,c] pos) (zoB (zmp r r' ta tb tc)):=by
 intro pins s σ H Q I h;refine isTrue_chain (thn (ha pins s σ H _ I h) fun v s1 ⟨x,H1,I1,r1,q1⟩=>test_link (thn (hb pins s1 σ H1 _ I1 q1) fun u s2 ⟨y,H2,I2,r2,q2⟩ =>
  thn (ho pins s2 σ H2 x y v u _ I2 r1 r2 q2) fun d s3 ⟨z,H3,I3,r3,k,e,q3⟩=>?_)) hm
 subst e;cases r3;refine wpAny_truthy_bool ?_;cases k with
 | false =>
  obtain⟨k',e',q'⟩:=q3;cases e';exact ite_ff ⟨H3,I3,q'⟩
 | true =>
  refine ite_tt (test_last (thn (hc pins s3 σ H3 _ I3 q3) fun w' s4 ⟨z',H4,I4,r4,q4⟩=>thn (ho' pins s4 σ H4 y z' u w' _ I4 r2 r4 q4) fun d' s5 ⟨z2,H5,I5,r5,k2,e2,q5⟩=>?_))
  subst e2;cases r5;exact wpAny_truthy_bool ⟨H5,I5,q5⟩
def TruV(K:qF)(x:V)(H:Hp)(k:Bool):Prop :=
 match x with
 | .non=>k=false
 | .bl b=>k=b
 | .int i=>k=(i != 0)
 | .str y=>y.length<=sizeLine/\k=((y.length:Int) != 0)
 | .byt y=>y.size<=sizeLine/\k=((y.size:Int) != 0)
 | .ref p=>(∃xs,SqL K H p xs/\k=!xs.isEmpty)\/(∃xs,SqT K H p xs/\k=!xs.isEmpty)\/∃kvs,H p=some (.dK kvs)/\k=!kvs.isEmpty
 | _=>False
theorem zi2{κ:Type}{kvs:List (κ×V)}{vs:List (κ×Value)}(r:KV kvs vs):(!vs.isEmpty)=!kvs.isEmpty:=by
 cases r <;> rfl
theorem zff{xs:List V}{its:List Value}(r:Vals xs its):(!its.toArray.isEmpty)=!xs.isEmpty:=by
 cases r <;> simp
theorem U7:(sizeLine:Nat)<2 ^ 63:=by rw[sizeLine_eq];decide
theorem zmn:TruR X (fun x H Q=>∃k,TruV X.K x H k/\Q k H):=by
 intro pins s σ H x v Q I rx h;obtain⟨k,e,q⟩:=h;have hl:=U7;have hs:sizeLine=16777216:=sizeLine_eq;cases x with
 | non =>
  cases rx;have e':k=false:=e;subst e';exact truthy_none ⟨H,I,q⟩
 | bl b =>
  cases rx;have e':k=b:=e;subst e';exact wpAny_truthy_bool ⟨H,I,q⟩
 | int i =>
  obtain⟨t,rfl⟩:=rx;have e':k=(i != 0):=e;subst e';exact PySem.P.truthy_int ⟨H,I,q⟩
 | str y =>
  obtain⟨t,rfl⟩:=rx;obtain⟨hy,e'⟩:y.length<=sizeLine/\k=((y.length:Int) != 0):=e;subst e';exact PySem.P.truthy_str (by lia) ⟨H,I.tok _,q⟩
 | byt y =>
  obtain⟨t,rfl⟩:=rx;obtain⟨hy,e'⟩:y.size<=sizeLine/\k=((y.size:Int) != 0):=e;subst e';exact PySem.W.truthy_bytes (by lia) ⟨H,I.tok _,q⟩
 | ref p =>
  cases rx;have e':(∃xs,SqL X.K H p xs/\k=!xs.isEmpty)\/(∃xs,SqT X.K H p xs/\k=!xs.isEmpty)\/∃kvs,H p=some (.dK kvs)/\k=!kvs.isEmpty:=e;rcases e' with⟨xs,hx,e'⟩|⟨xs,hx,e'⟩|⟨kvs,hx,e'⟩
  ·subst e';obtain⟨its,r,pl,hz⟩:=I.list hx;have hlen:=r.length;exact wpAny_truthy_list pl.isList (by simp only[List.size_toArray];lia) ⟨H,I.tok _,by rw[zff r];exact q⟩
  ·subst e';obtain⟨its,r,pl,hz⟩:=I.tuple hx;have hlen:=r.length;exact truthy_tuple pl (by simp only[List.size_toArray];lia) ⟨H,I.tok _,by rw[zff r];exact q⟩
  ·subst e';obtain⟨hz,hS,vs,r,m⟩:kvs.length<=sizeLine/\(p == sysModules)=false/\∃vs,KV kvs vs/\s.heap.DictOf (YO X.prog X.w) p vs:=I.hok p _ hx;have hlen:kvs.length=vs.length:=Paired.length r;exact wpAny_truthy_dict hS m (by lia) ⟨H,I.tok _,by rw[zi2 r];exact q⟩
 | _=>exact(show False from e).elim
theorem zlv(ha:PE X a ta)(he:∀whole,isTrue a X.env whole=(do let v <- whole;standAt a.pos;holding [v] (truthy v))) :
  PT X a (fun σ H Q=>ta σ H fun x H'=>∃k,TruV X.K x H' k/\Q k H'):=by
 intro pins s σ H Q I h;exact isTrue_plain (thn (ha pins s σ H _ I h) fun v s1 ⟨x,H1,I1,r1,q1⟩=>zmn pins s1 σ H1 x v Q I1 r1 q1) (he _)
theorem ziO:OpR X (binaryOp .Add) (fun x y H Q=>∃i j,x=.str i/\y=.str j/\i.length+j.length<=sizeLine/\Q (.str (i++j)) H):=by
 intro pins s σ H x y v u Q I rx ry h;obtain⟨i,j,rfl,rfl,hz,q⟩:=h;obtain⟨t,rfl⟩:=rx;obtain⟨t',rfl⟩:=ry;exact add_str (fun t' tk=>⟨.str (i++j),H,I.tok _,⟨_,rfl⟩,q⟩) hz
theorem vals1{x:V}{us:List Value}(r:Vals [x] us):∃u,us=[u]/\RelV x u:=by
 cases r with
 | cons r1 r2=>cases r2;exact⟨_,rfl,r1⟩
theorem vals2{x y:V}{us:List Value}(r:Vals [x,y] us):∃u w',us=[u,w']/\RelV x u/\RelV y w':=by
 cases r with
 | cons r1 r2 =>
  cases r2 with
  | cons r3 r4=>cases r4;exact⟨_,_,rfl,r1,r3⟩
theorem zgU(hc:X.calm=true):J5 X (.builtin "max") (fun xs H Q=>∃i j,xs=[.int i,.int j]/\Q (.int (if j > i then j else i)) H):=by
 intro pins s σ H xs us Q I r h;obtain⟨i,j,rfl,q⟩:=h;obtain⟨u,w',rfl,⟨t,rfl⟩,⟨t',rfl⟩⟩:=vals2 r;refine max_two_ints (I.ok.hd hc) fun h' tk k=>⟨_,H,I.kept k,?_,q⟩
 by_cases hj:j > i
 ·rw[if_pos hj,if_pos hj];exact⟨_,rfl⟩
 ·rw[if_neg hj,if_neg hj];exact⟨_,rfl⟩
theorem zgT(hc:X.calm=true):J5 X (.builtin "min") (fun xs H Q=>∃i j,xs=[.int i,.int j]/\Q (.int (if j<i then j else i)) H):=by
 intro pins s σ H xs us Q I r h;obtain⟨i,j,rfl,q⟩:=h;obtain⟨u,w',rfl,⟨t,rfl⟩,⟨t',rfl⟩⟩:=vals2 r;refine min_two_ints (I.ok.hd hc) fun h' tk k=>⟨_,H,I.kept k,?_,q⟩
 by_cases hj:j<i
 ·rw[if_pos hj,if_pos hj];exact⟨_,rfl⟩
 ·rw[if_neg hj,if_neg hj];exact⟨_,rfl⟩
theorem zkK:J5 X (.type "int") (fun xs H Q=>(∃i,xs=[.int i]/\Q (.int i) H)\/∃k,xs=[.bl k]/\Q (.int (if k then 1 else 0)) H):=by
 intro pins s σ H xs us Q I r h;rcases h with⟨i,rfl,q⟩|⟨k,rfl,q⟩
 ·obtain⟨u,rfl,t,rfl⟩:=vals1 r;exact call_int_int ⟨.int i,H,I,⟨_,rfl⟩,q⟩
 ·obtain⟨u,rfl,r1⟩:=vals1 r;cases r1;exact call_int_bool ⟨.int (if k then 1 else 0),H,I.tok _,⟨_,rfl⟩,q⟩
def LenV(K:qF)(x:V)(H:Hp)(n:Nat):Prop :=
 match x with
 | .str y=>y.length<=sizeLine/\n=y.length
 | .byt y=>y.size<=sizeLine/\n=y.size
 | .ref p=>(∃xs,SqL K H p xs/\n=xs.length)\/∃xs,SqT K H p xs/\n=xs.length
 | _=>False
theorem Qq:J5 X (.builtin "len") (fun xs H Q=>∃x n,xs=[x]/\LenV X.K x H n/\Q (.int n) H):=by
 intro pins s σ H xs us Q I r h;obtain⟨x,n,rfl,e,q⟩:=h;obtain⟨u,rfl,rx⟩:=vals1 r;have hl:=U7;have hs:sizeLine=16777216:=sizeLine_eq;cases x with
 | str y =>
  obtain⟨t,rfl⟩:=rx;obtain⟨hy,e'⟩:y.length<=sizeLine/\n=y.length:=e;subst e';exact len_str (by lia) ⟨.int _,H,I.tok _,⟨_,rfl⟩,q⟩
 | byt y =>
  obtain⟨t,rfl⟩:=rx;obtain⟨hy,e'⟩:y.size<=sizeLine/\n=y.size:=e;subst e';exact PySem.W.len_bytes (by lia) ⟨.int _,H,I.tok _,⟨_,rfl⟩,q⟩
 | ref p =>
  cases rx;have e':(∃xs,SqL X.K H p xs/\n=xs.length)\/∃xs,SqT X.K H p xs/\n=xs.length:=e;rcases e' with⟨xs,hx,e'⟩|⟨xs,hx,e'⟩
  ·subst e';obtain⟨its,r',pl,hz⟩:=I.list hx;have hlen:=r'.length;exact Calls.call_len_list pl.isList (by simp only[List.size_toArray];lia) ⟨.int xs.length,H,I.tok _,⟨_,by simp only[List.size_toArray];rw[hlen]⟩,q⟩
  ·subst e';obtain⟨its,r',pl,hz⟩:=I.tuple hx;have hlen:=r'.length;exact len_tuple pl (by simp only[List.size_toArray];lia) ⟨.int xs.length,H,I.tok _,⟨_,by simp only[List.size_toArray];rw[hlen]⟩,q⟩
 | _=>exact(show False from e).elim
end
structure ObjM(h:Heap)(x dx C:Addr)(mA:qM):Prop where
 obj:h.get? x=some (PySem.W.instObj C dx)
 ns:h.Ns1 dx mA
 ne:dx≠x
theorem zj7{h:Heap}{dx:Addr}{mA:qM}(n:h.Ns1 dx mA):∃od,h.get? dx=some od/\∀name,PySem.W.lookIn name od=some (mA name):=by
 obtain⟨o,es,ep,ho,hd,hk,_,hm⟩:=n;refine⟨o,ho,fun name=>?_⟩
 have e:=hm name;unfold nsFind findBy at e;rw[<- Array.find?_toList]at e;unfold PySem.W.lookIn;rw[hd];dsimp only;split
 ·rename_i y q;rw[q]at e;exact congrArg some e
 ·rename_i q;rw[q]at e;have a:es.toList.any (·.refKey)=false:=by
   rw[List.any_eq_false];intro y hy;obtain⟨z,t,hkey⟩:=hk y (Array.mem_toList_iff.mp hy);simp[DictEntry.refKey,hkey]
  have a':¬es.toList.any (·.refKey)=true:=by rw[a];exact Bool.false_ne_true
  rw[if_neg a'];exact congrArg some e
theorem ObjM.look{h:Heap}{x dx C:Addr}{mA:qM}(I:ObjM h x dx C mA):∃od,PySem.W.InstAt h x (PySem.W.instObj C dx) C (some od)/\∀name,PySem.W.lookIn name od=some (mA name) :=
 let ⟨od,ho,hl⟩:=zj7 I.ns
 ⟨od,⟨I.obj,rfl,rfl,ho⟩,hl⟩
section
variable{P:Program}{w:World}{H H':Hp}{h h':Heap}{a C dx:Addr}{fs fs':List (Str×V)}
theorem znL(hok:HOk P w H h)(e:H a=some (.ins C dx fs)):∃mA,ObjM h a dx C mA/\(∀f,RelO (fs.lookup f) (mA f))/\PySem.Within mA (fs.map (·.1))/\fs.length<=1000/\H dx=some (.own a):=by
 obtain⟨d,z,ne,ob,mA,n,r,q⟩:=(show JM P w H h a (.ins C dx fs) from hok a _ e)
 exact⟨mA,⟨ob,n,ne⟩,r,q,z,d⟩
end
structure Cls(K:qF)(C:Addr):Prop where
 pg:PySem.W.plainGet K C Str.empty=true
 hd:PySem.W.hasDictIn K C=true
 po:PySem.W.plainOver K C=true
 sa:PySem.W.findIn K (.ref C) "__setattr__" = some (some (.builtin "object.__setattr__"))
theorem Cls.get{K:qF}{C:Addr}(c:Cls K C)(f:Str):PySem.W.plainGet K C f=true:=c.pg
section
variable{X:Cx}{pins:qO}{σ:St}{H:Hp}{s:Shared}{A:Around}{E:qV}{Q:qV}{c:Value}{b:Bool}
inductive TyOf (K:qF)(H:Hp):V->Value->Prop where
 | non:TyOf K H .non (.type "NoneType")
 | bl (x:Bool):TyOf K H (.bl x) (.type "bool")
 | int (i:Int):TyOf K H (.int i) (.type "int")
 | str (x:Str):TyOf K H (.str x) (.type "str")
 | flt (x:UInt64):TyOf K H (.flt x) (.type "float")
 | lst {a:Addr} {xs:List V} (e:H a=some (.lst xs)):TyOf K H (.ref a) (.type "list")
 | frz {a:Addr} {o:Obj} {xs:List V} (e:H a=some (.frz o (.lst xs))):TyOf K H (.ref a) (.type "list")
 | tup {a:Addr} {xs:List V} (e:H a=some (.tup xs)):TyOf K H (.ref a) (.type "tuple")
 | dK {a:Addr} {kvs:List (Key×V)} (e:H a=some (.dK kvs)):TyOf K H (.ref a) (.type "dict")
 | dT {a:Addr} {kvs:List (List Key×V)} (e:H a=some (.dT kvs)):TyOf K H (.ref a) (.type "dict")
 | ins {a C dx:Addr} {fs:List (Str×V)} (e:H a=some (.ins C dx fs)) (cl:Cls K C) (ha:PySem.W.findIn K (.ref C) "__class__" = some (some (.builtin "object.__class__")))
   (hn:PySem.W.specialIn K (.builtin "object.__class__") "__get__" = some (some (.builtin "getset_descriptor.__get__"))) (htk:PySem.W.takesIn K (.builtin "object.__class__")=some true)
   (hm:PySem.W.mroIn K C (.type "object")=some true):TyOf K H (.ref a) (.ref C)
theorem zka{x:V}{u t:Value}(I:Inv X pins σ H s)(rx:RelV x u)(ty:TyOf X.K H x t)(e:PySem.W.kitOne X.K t c=some b)(h:∀tk,Q (.bool b) { s with toks:=tk }) :
  wpAny (model X.prog X.w) A (call (.builtin "isinstance") [u,c]) Q E s:=by
 cases ty with
 | non=>cases(show u=Value.none from rx);exact PySem.W.kia_one PySem.W.kitx_none I.kIn True.intro e (fun z=>nomatch z) h
 | bl y=>cases(show u=Value.bool y from rx);exact PySem.W.kia_one PySem.W.kitx_bool I.kIn True.intro e (fun z=>nomatch z) h
 | int i=>obtain⟨t,q⟩:=(show ∃t,u=Value.int i t from rx);cases q;exact PySem.W.kia_one PySem.W.kitx_int I.kIn True.intro e (fun z=>nomatch z) h
 | str y=>obtain⟨t,q⟩:=(show ∃t,u=Value.str y t from rx);cases q;exact PySem.W.kia_one PySem.W.kitx_str I.kIn True.intro e (fun z=>nomatch z) h
 | flt y=>obtain⟨t,q⟩:=(show ∃t,u=Value.float y t from rx);cases q;exact PySem.W.kia_one PySem.W.kitx_float I.kIn True.intro e (fun z=>nomatch z) h
 | @lst a xs ea =>
  cases(show u=Value.ref a from rx)
  obtain⟨_,_,n,_,h1⟩:=(show JM X.prog X.w H s.heap a (.lst xs) from I.hok a _ ea)
  exact PySem.W.kia_one PySem.W.kitx_list I.kIn ⟨_,h1,rfl⟩ e (fun z=>nomatch z) h
 | @frz a ob xs ea =>
  cases(show u=Value.ref a from rx)
  obtain⟨_,_,_,n,_,h1⟩:=(show JM X.prog X.w H s.heap a (.frz ob (.lst xs)) from I.hok a _ ea)
  exact PySem.W.kia_one PySem.W.kitx_list I.kIn ⟨_,h1,rfl⟩ e (fun z=>nomatch z) h
 | @tup a xs ea =>
  cases(show u=Value.ref a from rx)
  obtain⟨_,_,_,p⟩:=(show JM X.prog X.w H s.heap a (.tup xs) from I.hok a _ ea)
  obtain⟨o,h1,h2,_⟩:=p;exact PySem.W.kia_one PySem.W.kitx_tuple I.kIn ⟨o,h1,h2⟩ e (fun z=>nomatch z) h
 | @dK a kvs ea =>
  cases(show u=Value.ref a from rx)
  obtain⟨_,_,vs,_,p⟩:=(show JM X.prog X.w H s.heap a (.dK kvs) from I.hok a _ ea)
  obtain⟨o,es,ep,h1,h2,_⟩:=p;exact PySem.W.kia_one PySem.W.kitx_dict I.kIn ⟨o,h1,h2.1⟩ e (fun z=>nomatch z) h
 | @dT a kvs ea =>
  cases(show u=Value.ref a from rx)
  obtain⟨_,_,xs,_,o,es,ep,h1,h2,_⟩:=(show JM X.prog X.w H s.heap a (.dT kvs) from I.hok a _ ea)
  exact PySem.W.kia_one PySem.W.kitx_dict I.kIn ⟨o,h1,h2.1⟩ e (fun z=>nomatch z) h
 | @ins a C dx fs ea cl ha hn htk hm =>
  cases(show u=Value.ref a from rx)
  obtain⟨mA,O,_⟩:=znL I.hok ea;obtain⟨od,J,_⟩:=O.look;exact PySem.W.kia_one (PySem.W.kitx_own (cl.get _) cl.hd ha hn htk hm) I.kIn J e (fun z=>nomatch z) h
end
structure Room(k:Nat)(A:Around):Prop where
 hd:A.handled=none
 dp:A.depth+3*k+5<recursionLimit
 un:A.units+16*k+200<cLine
 gd:A.guards=some []
theorem Room.mono{j k:Nat}{A:Around}(r:Room k A)(h:j<=k):Room j A:=⟨r.hd,by have:=r.dp;lia,by have:=r.un;lia,r.gd⟩
theorem Room.deeper{k:Nat}{A:Around}(r:Room (k+1) A)(env:Env):Room k (A.deeper env) :=
 ⟨r.hd,by have:=r.dp;show A.depth+1+3*k+5<_;lia,by have:=r.un;show A.units+3+16*k+200<_;lia,r.gd⟩
theorem Room.depth{k:Nat}{A:Around}(r:Room k A):A.depth<recursionLimit:=by have:=r.dp;lia
theorem Room.units0{k:Nat}{A:Around}(r:Room k A):A.units<cLine:=by have:=r.un;lia
def tNil:TA:=fun _ H Q=>Q [] H
def QH(ta:TE)(tr:TA):TA:=fun σ H Q=>ta σ H fun x H1=>tr σ H1 fun xs H2=>Q (x::xs) H2
section
variable{X:Cx}{e:Expr}{es:List Expr}{te:TE}{t:TA}{pos:Pos}
theorem Y8:PA X [] tNil:=fun _ _ _ _ H Q I h=>Calls.spliced_nil ⟨[],H,I,.nil,h⟩
theorem YR(ha:PE X e te)(hr:PA X es t)(hs:starEach (e::es) X.env=(false,eval e X.env)::starEach es X.env:=by rfl):PA X (e::es) (QH te t):=by
 intro pos pins s σ H Q I h;rw[hs];show wpAny _ _ (spliced ((false,eval e X.env)::backTo pos (starEach es X.env))) _ _ s
 refine Calls.spliced_cons (thn (ha pins s σ H _ I h) fun u s1 ⟨x,H1,I1,r1,q1⟩=>?_)
 exact thn (hr pos pins s1 σ H1 _ I1 q1) fun us s2 ⟨xs,H2,I2,r2,q2⟩=>⟨x::xs,H2,I2,.cons r1 r2,q2⟩
def tTup(t:TA):TE:=fun σ H Q=>t σ H fun xs H1=>xs.length<=sizeLine/\∀p,H1 p=none->Q (.ref p) (upd H1 p (.tup xs))
def tLst(t:TA):TE:=fun σ H Q=>t σ H fun xs H1=>xs.length<=sizeLine/\∀p,H1 p=none->Q (.ref p) (upd H1 p (.lst xs))
theorem zo9{x1}(h:PA X es t):PE X (.Tuple es x1 pos) (tTup t):=by
 intro pins s σ H Q I hq;refine wpAny_Tuple_spliced (thn (h pos pins s σ H _ I hq) fun us s1 ⟨xs,H1,I1,r,z,q⟩=>⟨by rw[<- r.length];exact z,?_⟩)
 have hf:H1 s1.heap.objs.size=none:=I1.hok.fresh (Nat.le_refl _);refine⟨.ref s1.heap.objs.size,upd H1 s1.heap.objs.size (.tup xs),I1.laid (t':=s1.toks) (fun b u e=>Heap.get?_push_of_some _ e) (Nat.le_refl _) ?_,rfl,q _ hf⟩
 exact⟨z,us,r,⟨_,Heap.get?_push_size _ rfl,rfl,⟨_,rfl⟩,rfl⟩⟩
theorem zpf(h:PA X es t):PE X (.List es pos) (tLst t):=by
 intro pins s σ H Q I hq;refine wpAny_List_spliced (thn (h pos pins s σ H _ I hq) fun us s1 ⟨xs,H1,I1,r,z,q⟩=>⟨by rw[<- r.length];exact z,?_⟩)
 have hf:H1 s1.heap.objs.size=none:=I1.hok.fresh (Nat.le_refl _);refine⟨.ref s1.heap.objs.size,upd H1 s1.heap.objs.size (.lst xs),I1.laid (t':=s1.toks) (fun b u e=>Heap.get?_push_of_some _ e) (Nat.le_refl _) ?_,rfl,q _ hf⟩
 exact⟨z,us,0,r,Heap.get?_push_size _ rfl⟩
end
abbrev Sp:=List V->Hp->VK->XK->Prop
abbrev CXT:=List Env->Hp->Shared->XK->Value->Shared->Prop
structure Env0(P:Program)(w:World)(K:qF)(mg:qM)(base:Heap)(A:Around)(outer:List Env)(s:Shared)(H:Hp):Prop where
 frames:A.frames=some outer
 mod:Mod K mg base
 bs:∀b o,base.get? b=some o->s.heap.get? b=some o/\H b=none
 bsz:base.objs.size<=s.heap.objs.size
 funs:s.heap.FunFrames base outer
 frf:∀b∈frs outer,H b=none
 hok:HOk P w H s.heap
 bare:AllBare s.gens
def CE(outer:List Env)(P:Program)(w:World)(H:Hp)(s:Shared)(Q:VK)(u:Value)(s':Shared):Prop :=
 ∃v H',s'.os=s.os/\AllBare s'.gens/\Un (frs outer) [] H H' s.heap s'.heap/\HOk P w H' s'.heap/\RelV v u/\Q v H'
def CR(CX:CXT)(outer:List Env)(P:Program)(w:World)(H:Hp)(s:Shared)(Q:VK)(E:XK)(r:Result)(s':Shared):Prop :=
 match r with
 | .ok (.ret u)=>CE outer P w H s Q u s'
 | .ok _=>False
 | .error e=>CX outer H s E e s'
structure FnOk(P:Program)(w:World)(K:qF)(mg:qM)(base:Heap)(CX:CXT)(k:Nat)(f:Addr)(fd:FuncData)(ps:List Str)(sp:Sp):Prop where
 len:∀vs H Q E,sp vs H Q E->vs.length=ps.length
 run:∀(A:Around) (outer:List Env) (s:Shared) (H:Hp) (args:Args) (us:List Value) (vs:List V) (Q:VK) (E:XK),Room k A->Env0 P w K mg base A outer s H->BindsTo s fd args (ps.zip us)->Vals vs us->sp vs H Q E ->
  codeAny (model P w) A (.call (.ref f) args) (CR CX outer P w H s Q E) s
theorem FnOk.imp{P:Program}{w:World}{K:qF}{mg:qM}{base:Heap}{CX:CXT}{k:Nat}{f:Addr}{fd:FuncData}{ps:List Str}{sp sp':Sp}(F:FnOk P w K mg base CX k f fd ps sp)
  (h:∀vs H Q E,sp' vs H Q E->sp vs H Q E):FnOk P w K mg base CX k f fd ps sp' :=
 ⟨fun vs H Q E q=>F.len vs H Q E (h _ _ _ _ q),fun A outer s H args us vs Q E hr he hb hv hs=>F.run A outer s H args us vs Q E hr he hb hv (h _ _ _ _ hs)⟩
section
variable{X:Cx}{pins:qO}{σ:St}{H:Hp}{s s':Shared}
theorem Inv.env0(I:Inv X pins σ H s):Env0 X.prog X.w X.K X.mg X.base X.A X.stack s H :=
 ⟨I.ok.frames,I.ok.mod,I.bs,Nat.le_trans I.ok.bsz I.sz,I.stack,I.stkFree,I.hok,I.bare⟩
theorem Inv.after{Q:VK}{u:Value}(I:Inv X pins σ H s)(h:CE X.stack X.prog X.w H s Q u s'):EP X pins σ Q u s':=by
 obtain⟨v,H',os,bare,un,hok,r,q⟩:=h;obtain⟨hh,g,d,t,os'⟩:=s';obtain rfl:os'=s.os:=os;exact⟨v,H',I.call (h':=hh) (g':=g) (d':=d) (t':=t) (ch:=[]) un hok bare (fun b z=>absurd z (by simp)),r,q⟩
end
def zoC(sp:Sp)(dvs:List V)(E:XK)(t:TA):TE:=fun σ H Q=>t σ H fun vs H1=>sp (vs++dvs) H1 Q E
def Binds(K:qF)(fd:FuncData)(ps:List Str)(ds:List Value):Prop :=
 ∀(s:Shared) (us:List Value),K.In s.heap->(us++ds).length=ps.length->BindsTo s fd ⟨us,[]⟩ (ps.zip (us++ds))
theorem Binds.all{K:qF}{fd:FuncData}{ps:List Str}(h:∀us:List Value,us.length=ps.length->bindArgs fd ⟨us,[]⟩=pure (ps.zip us)):Binds K fd ps []:=fun s us _ hl=>by
 rw[List.append_nil]at hl ⊢;exact .of_eq (h us hl)
def zkV(CX:CXT)(X:Cx)(E:XK):Prop:=∀(pins:qO) (σ:St) (H:Hp) (s:Shared) (e:Value) (s':Shared),Inv X pins σ H s->CX X.stack H s E e s'->X.xe e s'
section
variable{X:Cx}{CX:CXT}{k:Nat}{f C:Addr}{fd:FuncData}{ps:List Str}{sp:Sp}{dvs:List V}{ds:List Value}{E:XK}{x m:Str}{p pos apos:Pos}{e o:Expr}{es:List Expr}{ta:TE}{t:TA}
theorem zoU{pins:qO}{σ:St}{H:Hp}{s:Shared}{Q:VK}{us:List Value}{vs:List V}(F:FnOk X.prog X.w X.K X.mg X.base CX k f fd ps sp)(hr:Room k X.A)(hb:Binds X.K fd ps ds)(hd:Vals dvs ds)(hx:zkV CX X E)
  (I:Inv X pins σ H s) (r:Vals vs us) (h:sp (vs++dvs) H Q E):wpAny (model X.prog X.w) X.A (call (.ref f) us) (EP X pins σ Q) X.xe s:=by
 have r2:Vals (vs++dvs) (us++ds):=r.append hd;have hl:(us++ds).length=ps.length:=by rw[<- r2.length];exact F.len _ _ _ _ h
 refine wpAny_call (codeAny_mono (F.run X.A X.stack s H ⟨us,[]⟩ (us++ds) (vs++dvs) Q E hr I.env0 (hb s us I.kIn hl) r2 h) fun r s' hq=>?_)
 cases r with
 | error e=>exact hx pins σ H s e s' I hq
 | ok fl =>
  cases fl with
  | ret u=>exact I.after hq
  | next=>exact False.elim hq
  | brk=>exact False.elim hq
  | cont=>exact False.elim hq
theorem zni(F:FnOk X.prog X.w X.K X.mg X.base CX k f fd ps sp)(hr:Room k X.A)(hg:Gl X x)(hm:X.mg x=some (.ref f))(hk:PySem.W.keepIn X.K (.ref f)=true)(hb:Binds X.K fd ps ds)(hd:Vals dvs ds)(hx:zkV CX X E)
  (ha:PA X (e::es) t) (hdb:(x == ("__debug__":Str))=false:=by decide) (he:starEach (e::es) X.env=(false,eval e X.env)::starEach es X.env:=by rfl) (hpl:(backTo pos (starEach es X.env)).any (·.1)=false:=by rfl) :
  PE X (.Call (.Name x p) (e::es) [] pos) (zoC sp dvs E t):=by
 intro pins s σ H Q I h;refine wpAny_Call_Name_kw (znF I hg hm ?_ hdb);refine PySem.W.callWith_K (h₀:=X.base) I.ok.mod.kin hk (thn (ha pos pins s σ H _ I h) fun us s1 ⟨vs,H1,I1,r,q⟩=>⟨I1.kIn,?_⟩) he hpl
 exact zoU F hr hb hd hx I1 r q
end
structure FnScope(N P:List Str)(sc:Scope):Prop where
 kind:sc.kind=.function
 co:sc.isCoroutine=false
 gen:sc.isGenerator=false
 nd:N.Nodup
 pre:N.take P.length=P
 par:∀x∈P,sc.names.lookup x=some .local\/sc.names.lookup x=some .cell
 nofree:∀y∈sc.names,y.2≠.free
theorem zg5{kindOf:Str->Option NameKind}{x:Str}:∀{binds:List (Str×Value)}{m:qM},(∀v,(x,v)∉binds)->bindL kindOf binds m x=m x
 | [],_,_=>rfl
 | (n,v)::r,m,h=>by
  unfold bindL;rw[zg5 fun w hw=>h w (List.mem_cons_of_mem _ hw)]
  split
  ·have:x≠n:=by rintro rfl;exact h v List.mem_cons_self
   simp[this]
  ·rfl
theorem zg7{kindOf:Str->Option NameKind}{x:Str}:∀{binds:List (Str×Value)}{m:qM},(∀v,(x,v)∉binds)->bindC kindOf binds m x=m x
 | [],_,_=>rfl
 | (n,v)::r,m,h=>by
  unfold bindC;rw[zg7 fun w hw=>h w (List.mem_cons_of_mem _ hw)]
  split
  ·rfl
  ·have:x≠n:=by rintro rfl;exact h v List.mem_cons_self
   simp[this]
theorem zg6{kindOf:Str->Option NameKind}{x:Str}{v:Value}:∀{P:List Str}{vs:List Value}{i:Nat}{m:qM},P.Nodup->P[i]?=some x->vs[i]?=some v->kindOf x=some .local ->
  bindL kindOf (P.zip vs) m x=some v
 | [],_,_,_,_,h,_,_=>by simp at h
 | _::_,[],_,_,_,_,h,_=>by simp at h
 | p::P,w::vs,0,m,nd,h1,h2,hk=>by
  simp at h1 h2;subst h1;subst h2;show bindL kindOf ((p,w)::P.zip vs) m p=_
  unfold bindL;rw[zg5 fun v hv=>(List.nodup_cons.mp nd).1 (List.of_mem_zip hv).1,if_pos hk]
  simp
 | p::P,w::vs,i+1,m,nd,h1,h2,hk=>by
  show bindL kindOf ((p,w)::P.zip vs) m x=_
  unfold bindL;exact zg6 (i:=i) (List.nodup_cons.mp nd).2 (by simpa using h1) (by simpa using h2) hk
theorem zg8{kindOf:Str->Option NameKind}{x:Str}{v:Value}:∀{P:List Str}{vs:List Value}{i:Nat}{m:qM},P.Nodup->P[i]?=some x->vs[i]?=some v->kindOf x≠some .local ->
  bindC kindOf (P.zip vs) m x=some v
 | [],_,_,_,_,h,_,_=>by simp at h
 | _::_,[],_,_,_,_,h,_=>by simp at h
 | p::P,w::vs,0,m,nd,h1,h2,hk=>by
  simp at h1 h2;subst h1;subst h2;show bindC kindOf ((p,w)::P.zip vs) m p=_
  unfold bindC;rw[zg7 fun v hv=>(List.nodup_cons.mp nd).1 (List.of_mem_zip hv).1,if_neg hk]
  simp
 | p::P,w::vs,i+1,m,nd,h1,h2,hk=>by
  show bindC kindOf ((p,w)::P.zip vs) m x=_
  unfold bindC;exact zg8 (i:=i) (List.nodup_cons.mp nd).2 (by simpa using h1) (by simpa using h2) hk
def start(N:List Str)(vs:List V):St:=vs.map some++List.replicate (N.length - vs.length) none
def cxOf(CX:CXT)(P:Program)(w:World)(K:qF)(mg:qM)(base:Heap)(N:List Str)(qual:Str)(scope:Scope)(f:Addr)(cd:Value)(A:Around)(outer:List Env)(s:Shared)(H:Hp)(E:XK):Cx where
 prog:=P
 w:=w
 K:=K
 mg:=mg
 base:=base
 A:=A.deeper (envOfC qual scope s.heap.objs.size f cd)
 N:=N
 s₀:=s
 H₀:=H
 env:=envOfC qual scope s.heap.objs.size f cd
 outer:=outer
 stack:=envOfC qual scope s.heap.objs.size f cd::outer
 ex:=[]
 calm:=true
 fn:=fun _=>true
 pn:=[]
 xe:=fun e s'=>wpAny (model P w) (A.deeper (envOfC qual scope s.heap.objs.size f cd)) (leaving (envOfC qual scope s.heap.objs.size f cd) e) (fun _ s''=>CX outer H s E e s'') (fun e' s''=>CX outer H s E e' s'') s'
theorem ziv{sc:Scope}{n:Nat}{x:Str}(h:sc.names.lookup x=some .cell):∃c,(cellsFrom n sc.names []).lookup x=some c:=by
 have q:=PySem.W.cellsFrom_some sc.names n [] (.inl h);exact Option.isSome_iff_exists.mp q
theorem zkd{CX:CXT}{P:Program}{w:World}{K:qF}{mg:qM}{base:Heap}{N ps:List Str}{qual:Str}{scope:Scope}{f:Addr}{cd:Value}{A:Around}{outer:List Env}{s s1:Shared}{H:Hp}{E:XK}{us:List Value}{vs:List V}
  (S:FnScope N ps scope) (hd:A.handled=none) (e0:Env0 P w K mg base A outer s H) (hl:vs.length=ps.length) (r:Vals vs us)
  (x:InCallC s s.heap.objs.size (bindL (envOfC qual scope s.heap.objs.size f cd).kindOf (ps.zip us) fun _=>none) (cellsFrom (s.heap.objs.size+1) scope.names []) (bindC (envOfC qual scope s.heap.objs.size f cd).kindOf (ps.zip us) fun _=>none) s1) :
  Inv (cxOf CX P w K mg base N qual scope f cd A outer s H E) [] (start N vs) H s1:=by
 have hpl:ps.length<=N.length:=by have:=congrArg List.length S.pre;rw[List.length_take]at this;lia
 obtain⟨h1,tk,rfl,hk⟩:=x.done;have noA:∀b:Addr,b∉(cxOf CX P w K mg base N qual scope f cd A outer s H E).ex:=fun b z=>absurd (show b∈([]:List Addr) from z) (by simp)
 refine⟨⟨e0.mod,S.kind,rfl,rfl,Nat.le_refl _,fun y z c h1 h2=>?_,fun y hy=>?_,fun y c _ h=>?_,fun _=>hd,Around.frames_deeper e0.frames,.inr ⟨rfl,rfl⟩,fun b z=>absurd z (noA b),e0.bs,e0.bsz,fun b _ _=>noA b,fun b z=>absurd z (noA b),e0.funs,e0.frf⟩,
  rfl,e0.bare,Un.kept hk,⟨_,x.toInCall.ns,fun i y v h1 h2 h3=>?_⟩,fun y c h=>⟨_,x.cell y c h⟩,e0.hok.fresh (Nat.le_refl _),fun y c h=>?_,fun p hp=>absurd (show p∈([]:qO) from hp) (by simp),e0.hok.kept hk,?_⟩
 ·exact name_of_addr x.apart (PySem.mem_of_lookup h1) (PySem.mem_of_lookup h2)
 ·have hy:scope.names.lookup y=some .cell\/scope.names.lookup y=some .free:=hy;rcases hy with hy|hy
  ·exact ziv hy
  ·exact absurd rfl (S.nofree _ (PySem.mem_of_lookup hy))
 ·exact Nat.le_of_lt (x.above y c (PySem.mem_of_lookup h))
 ·have hi:i<vs.length:=by
   unfold start at h2
   by_cases hi:i<vs.length
   ·exact hi
   ·rw[List.getElem?_append_right (by simpa using hi)]at h2
    rw[List.getElem?_replicate]at h2;split at h2 <;> cases h2
  have ha:vs[i]?=some v:=by
   unfold start at h2;rw[List.getElem?_append_left (by simpa using hi),List.getElem?_map]at h2
   cases e:vs[i]? with
   | none=>rw[e]at h2;cases h2
   | some a=>rw[e]at h2;cases h2;rfl
  obtain⟨u,hu,rv⟩:=r.get ha;have hp:ps[i]?=some y:=by
   rw[<- S.pre,List.getElem?_take_of_lt (by lia)];exact h1
  have ndP:ps.Nodup:=by rw[<- S.pre];exact S.nd.sublist (List.take_sublist _ _)
  refine⟨u,rv,?_⟩;rcases S.par y (List.mem_of_getElem? hp) with k|k
  ·exact .inl ⟨k,zg6 ndP hp hu k⟩
  ·obtain⟨c,e⟩:=ziv (n:=s.heap.objs.size+1) k;refine .inr ⟨.inl k,c,e,?_⟩;have q:=x.cell y c e;rw[zg8 ndP hp hu (by show scope.names.lookup y≠_;rw[k];decide)]at q
   exact q
 ·exact e0.hok.fresh (Nat.le_of_lt (x.above y c (PySem.mem_of_lookup h)))
 ·unfold start;show _=N.length
  rw[List.length_append,List.length_map,List.length_replicate];lia
theorem zsS{CX:CXT}{P:Program}{w:World}{K:qF}{mg:qM}{base:Heap}{k:Nat}{f:Addr}{name qual:Str}{params:Arguments}{body:List Stmt}{scope:Scope}{dV kV doc pm cdv ct oc:Value}{an od:Option Addr}
  {osl:Array (Option Value)} {N ps:List Str} {sp:Sp} (lk:K.lookup f=some ⟨oc,od,.func (PySem.W.fnOf name qual params body scope dV kV doc pm an cdv ct),osl⟩) (hcd:PySem.W.codeIn K cdv qual=true) (S:FnScope N ps scope)
  (len:∀vs H Q E,sp vs H Q E->vs.length=ps.length)
  (hbody:∀(A:Around) (outer:List Env) (s:Shared) (H:Hp) (vs:List V) (Q:VK) (E:XK),Room k (A.deeper (envOfC qual scope s.heap.objs.size f cdv))->sp vs H Q E ->
   ∃t,PSs (cxOf CX P w K mg base N qual scope f cdv A outer s H E) body t/\t { nx:=fun _ H'=>Q .non H',rt:=Q } (start N vs) H) :
  FnOk P w K mg base CX (k+1) f (PySem.W.fnOf name qual params body scope dV kV doc pm an cdv ct) ps sp:=by
 refine⟨len,fun A outer s H args us vs Q E hr e0 hb r hsp=>?_⟩
 have hl:=len _ _ _ _ hsp;have KX:K.In s.heap:=e0.mod.kin.keeps fun b o e=>(e0.bs b o e).1
 have lim:s.heap.NoLimit:=e0.mod.nolimit.keeps fun b o e=>(e0.bs b o e).1
 have hkind:∀y∈ps.zip us,scope.names.lookup y.1=some .local\/(scope.names.lookup y.1=some .cell/\((cellsFrom (s.heap.objs.size+1) scope.names []).lookup y.1).isSome=true):=fun⟨n,v⟩ hy=>by
  rcases S.par n (List.of_mem_zip hy).1 with q|q
  ·exact .inl q
  ·exact .inr ⟨q,PySem.W.cellsFrom_some _ _ _ (.inl q)⟩
 refine codeAny_call_function hr.depth (KX _ _ lk) rfl S.co S.gen rfl (PySem.W.codeRec_of KX hcd) (hb _ _ _ _ ?_);refine wpAny_newFunctionEnv_cells S.kind hkind fun env he s1 x=>?_
 subst he;refine⟨lim.keeps x.toInCall.keep,codeAny_func ?_⟩;obtain⟨t,ht,hq⟩:=hbody A outer s H vs Q E (hr.deeper _) hsp;have I:Inv (cxOf CX P w K mg base N qual scope f cdv A outer s H E) [] (start N vs) H s1:=zkd S hr.hd e0 hl r x;refine wpAny_mono (ht [] s1 (start N vs) H _ I hq) (fun fl s' hs=>?_) fun e s' hs=>hs
 have fin:∀{σ':St} {H':Hp} {v:V} {u:Value},Inv (cxOf CX P w K mg base N qual scope f cdv A outer s H E) [] σ' H' s'->RelV v u->Q v H'->CE outer P w H s Q u s' :=
  fun {σ' H' v u} J rv q=>⟨v,H',J.os,J.bare,J.base,J.hok,rv,q⟩
 cases fl with
 | ret u =>
  obtain⟨v,σ',H',J,rv,q⟩:=hs;exact fin J rv q
 | next =>
  obtain⟨σ',H',J,q⟩:=hs;exact fin (v:=V.non) (u:=Value.none) J rfl q
 | brk =>
  obtain⟨_,_,_,q⟩:=hs;exact False.elim q
 | cont =>
  obtain⟨_,_,_,q⟩:=hs;exact False.elim q
section
variable{X:Cx}{x:Str}{p pos:Pos}{e:Expr}{es:List Expr}{t:TA}{id T:String}{r:List V->Hp->VK->Prop}
def tCB(r:List V->Hp->VK->Prop)(t:TA):TE:=fun σ H Q=>t σ H fun vs H1=>r vs H1 Q
theorem zlG(hc:J5 X (.builtin id) r)(hg:Gl X x)(hm:X.mg x=none)(hv:bootBuiltins x=some (.builtin id))(ha:PA X (e::es) t)(hn:x ≠ "__name__":=by decide) (hdb:(x == ("__debug__":Str))=false:=by decide)
  (he:starEach (e::es) X.env=(false,eval e X.env)::starEach es X.env:=by rfl) (hpl:(backTo pos (starEach es X.env)).any (·.1)=false:=by rfl):PE X (.Call (.Name x p) (e::es) [] pos) (tCB r t):=by
 intro pins s σ H Q I h;refine wpAny_Call_Name_kw (YD I hg hm hv ?_ hn hdb);exact PyProof.Rows.callWith_builtin1 (thn (ha pos pins s σ H _ I h) fun us s1 ⟨vs,H1,I1,r1,q1⟩=>hc pins s1 σ H1 vs us Q I1 r1 q1) he hpl
theorem zjP(hc:J5 X (.type T) r)(hg:Gl X x)(hm:X.mg x=none)(hv:bootBuiltins x=some (.type T))(ha:PA X (e::es) t)(hn:x ≠ "__name__":=by decide) (hdb:(x == ("__debug__":Str))=false:=by decide)
  (he:starEach (e::es) X.env=(false,eval e X.env)::starEach es X.env:=by rfl) (hpl:(backTo pos (starEach es X.env)).any (·.1)=false:=by rfl):PE X (.Call (.Name x p) (e::es) [] pos) (tCB r t):=by
 intro pins s σ H Q I h;refine wpAny_Call_Name_kw (YD I hg hm hv ?_ hn hdb);exact PyProof.Rows.callWith_type1 (thn (ha pos pins s σ H _ I h) fun us s1 ⟨vs,H1,I1,r1,q1⟩=>hc pins s1 σ H1 vs us Q I1 r1 q1) he hpl
end
end L2
namespace HT
open PySem PyProof.Rows
def lexLt:List Int->List Int->Bool
 | [],[]=>false
 | [],_::_=>true
 | _::_,[]=>false
 | x::xs,y::ys=>if x=y then lexLt xs ys else decide (x<y)
theorem ziY(x y:Int)(xs ys:List Int):lexLt (x::xs) (y::ys)=if x=y then lexLt xs ys else decide (x<y):=rfl
theorem zfI:lexLt [] []=false:=rfl
theorem zeR(y:Int)(ys:List Int):lexLt [] (y::ys)=true:=rfl
theorem zeS(x:Int)(xs:List Int):lexLt (x::xs) []=false:=rfl
theorem zl_(A:Around)(s:Shared)(a:Int)(t:Tok)(c:Int)(u:Tok):∃e,SeqAt.EqAt A s (.int a t) (.int c u) e/\(e=true↔a=c) :=
 ⟨(a == c),SeqAt.EqAt.int_int a t c u,by simp⟩
theorem zlr(A:Around)(s:Shared)(a:Int)(t:Tok)(c:Int)(u:Tok)(prog:Program)(w:World)(E:qV)(Q:qV)(h:Q (.bool (decide (a<c))) s) :
  wpAny (model prog w) A (richCompare .Lt (.int a t) (.int c u)) Q E s :=
 (PyProof.Rows.lt_int h:wpAny (model prog w) A (compareOp .Lt (.int a t) (.int c u)) Q E s)
section
open PySem.SeqAt
open PySem.AutoSeq1 (wpAny_loadPart')
open PySem.MeetsSeq PySem.MeetsSeq2 PySem.MeetsSeq3
theorem zfm(l b:Addr)(items items2:Array Value)(n n2:Nat)(dd dd2:Option Addr)(sl sl2:Array (Option Value))(ns ms:List Int)(hi:IntsAre items.toList ns)(hj:IntsAre items2.toList ms) :
  Meets (Builtin.«tuple.__lt__» ⟨[.ref l,.ref b],[]⟩)
   (fun _ R s=>s.heap.get? l=some { cls:=.type "tuple",dict:=dd,data:=.seq items n,slots:=sl }/\s.heap.get? b=some { cls:=.type "tuple",dict:=dd2,data:=.seq items2 n2,slots:=sl2 } /\
    R (.ok (.ret (.bool (lexLt ns ms)))) s) :=
 .of_wp fun prog w A R s h=>by
  obtain⟨hp,g,d,tk,os⟩:=s;obtain⟨hl,hb,h⟩:=h;have f2:=AutoSeq1.sub_tuple_tuple;have z1:items.size=ns.length:=by rw[<- hi.length];simp
  have z2:items2.size=ms.length:=by rw[<- hj.length];simp
  wp_walk using wpAny_loadPart' hl,wpAny_loadPart' hb,wpAny_forIn_list _ (fun rest b s'=>b.1=none/\s'=⟨hp,g,d,tk,os⟩/\∃(vs ws:List Value) (ns' ms':List Int),rest=vs.zip ws /\
   IntsAre vs ns'/\IntsAre ws ms'/\ns'.length+items2.size=ms'.length+items.size/\R (.ok (.ret (.bool (lexLt ns' ms')))) ⟨hp,g,d,tk,os⟩) _
  case turn =>
   rintro⟨y,x⟩ rest b s' ⟨hb',rfl,vs,ws,ns',ms',hz,hvi,hwi,hlen,hR⟩;cases hvi with
   | nil=>rw[List.zip_nil_left]at hz;cases hz
   | cons a t hvi' =>
    cases hwi with
    | nil=>rw[List.zip_nil_right]at hz;cases hz
    | cons c u hwi' =>
     rw[List.zip_cons_cons]at hz
     injection hz with hyx hrest
     injection hyx with hy hx
     subst hy hx;rw[ziY]at hR;simp only[List.length_cons]at hlen;obtain⟨e,he,hiff⟩:=zl_ A.in1 ⟨hp,g,d,tk,os⟩ a t c u;refine wpAny_bind (he prog w _ _ ?_);cases e with
     | true =>
      rw[if_pos (hiff.mp rfl)]at hR
      wp_walk
      exact⟨rfl,rfl,_,_,_,_,hrest,hvi',hwi',by lia,hR⟩
     | false =>
      rw[if_neg (fun q=>absurd (hiff.mpr q) Bool.false_ne_true)]at hR
      have hri:=zlr A.in1 ⟨hp,g,d,tk,os⟩ a t c u prog w
      wp_walk using hri
      exact⟨_,rfl,by simpa using hR⟩
  case fin =>
   rintro⟨b1,b2⟩ s' ⟨hb',rfl,vs,ws,ns',ms',hz,hvi,hwi,hlen,hR⟩;simp only at hb';subst hb';have hv:lexLt ns' ms'=decide (items.size<items2.size):=by
    cases hvi with
    | nil =>
     cases hwi with
     | nil =>
      simp only[List.length_nil]at hlen;rw[zfI];exact(decide_eq_false (by lia)).symm
     | cons c u hw =>
      simp only[List.length_nil,List.length_cons]at hlen;rw[zeR];exact(decide_eq_true (by lia)).symm
    | cons a t hv =>
     cases hwi with
     | nil =>
      simp only[List.length_nil,List.length_cons]at hlen;rw[zeS];exact(decide_eq_false (by lia)).symm
     | cons c u hw =>
      rw[List.zip_cons_cons]at hz;cases hz
   rw[hv]at hR
   wp_walk
   exact⟨_,rfl,by simpa[Builtin.Tuple.tupleCompareSizes] using hR⟩
  case h =>
   exact⟨rfl,rfl,items.toList,items2.toList,ns,ms,rfl,hi,hj,by lia,h⟩
end
section
variable{prog:Program}{w:World}{A:Around}{E:qV}{s:Shared}
theorem ze_{l b:Addr}{items items2:Array Value}{ns ms:List Int}{Q:qV}(hl:IsTup s.heap l items)(hb:IsTup s.heap b items2)(hi:IntsAre items.toList ns)(hj:IntsAre items2.toList ms)
  (hu:A.units<cLine) (h:Q (.bool (lexLt ns ms)) s):wpAny (model prog w) A (compareOp .Lt (.ref l) (.ref b)) Q E s:=by
 obtain⟨⟨cls,dd,data,sl⟩,ho,hc,n,hd⟩:=id hl;obtain⟨⟨cls2,dd2,data2,sl2⟩,ho2,hc2,n2,hd2⟩:=id hb;simp only at hc hd hc2 hd2;subst hc hd hc2 hd2;exact richCompare_meets_room (op:=.Lt) ⟨_,ho,rfl⟩ ⟨_,ho2,rfl⟩ PySem.F.slot_tuple_lt PySem.F.entry_tuple_lt (PySem.F.args_tuple_lt_2 _ _) (zfm l b items items2 n n2 dd dd2 sl sl2 ns ms hi hj)
  ⟨ho,ho2,show Value.bool (lexLt ns ms)≠Value.notImplemented/\Q (.bool (lexLt ns ms)) s from⟨(fun x=>nomatch x),h⟩⟩ hu
theorem zof{t b:Addr}{vs ws:List Value}{Q:qV}(ht:IsTup s.heap t vs.toArray)(hb:IsTup s.heap b ws.toArray)(hv:vs≠[])
  (h1:ws=[]->Q (.ref t) s) (h2:ws≠[]->Q (.ref s.heap.objs.size) { s with heap:=s.heap.push { cls:=.type "tuple",data:=.seq (vs++ws).toArray } })
  (hsz:vs.length+ws.length<=sizeLine):wpAny (model prog w) A (binaryOp .Add (.ref t) (.ref b)) Q E s:=by
 obtain⟨⟨cls,dd,data,sl⟩,ho,hc,n,hd⟩:=id ht;obtain⟨⟨cls2,dd2,data2,sl2⟩,ho2,hc2,n2,hd2⟩:=id hb;simp only at hc hd hc2 hd2;subst hc hd hc2 hd2;have e:vs.toArray++ws.toArray=(vs++ws).toArray:=by simp
 by_cases hw:ws=[]
 ·exact concat_meets ⟨_,ho,rfl⟩ ⟨_,ho2,rfl⟩ noFill_tuple_add seq_tuple_add PySem.F.slot_tuple_add PySem.F.entry_tuple_add (PySem.F.args_tuple_add_2 _ _)
   (tuple_addW1 t b vs.toArray ws.toArray n n2 dd dd2 sl sl2 (by simpa using hv) (by simp[hw])) ⟨ho,ho2,h1 hw⟩
 ·refine concat_meets ⟨_,ho,rfl⟩ ⟨_,ho2,rfl⟩ noFill_tuple_add seq_tuple_add PySem.F.slot_tuple_add PySem.F.entry_tuple_add (PySem.F.args_tuple_add_2 _ _)
   (tuple_addW2 t b vs.toArray ws.toArray n n2 dd dd2 sl sl2 (by simpa using hv) (by simpa using hw) (by rw[List.size_toArray,List.size_toArray];exact hsz)) ⟨ho,ho2,?_⟩
  rw[e];exact h2 hw
def sIx(n d:Nat):Option Int->Nat
 | none=>d
 | some v=>if v<0 then(v+(n:Int)).toNat else min v.toNat n
theorem zcC(n d:Nat):sIx n d none=d:=rfl
theorem zd4(n d k:Nat):sIx n d (some (k:Int))=min k n:=by
 show(if (k:Int)<0 then((k:Int)+(n:Int)).toNat else min (k:Int).toNat n)=min k n
 rw[if_neg (by lia),Int.toNat_natCast]
theorem zoS(n d:Nat)(hd:d<=n)(o:Option Int):sIx n d o<=n:=by
 cases o with
 | none=>exact hd
 | some v =>
  show(if v<0 then(v+(n:Int)).toNat else min v.toNat n)<=n
  by_cases hv:v<0
  ·rw[if_pos hv];lia
  ·rw[if_neg hv];exact Nat.min_le_right _ _
theorem zkI(v:Int)(n d:Nat):(if v<0 then max (v+(n:Int)) 0 else min v (n:Int))=((sIx n d (some v):Nat):Int):=by
 show(if v<0 then max (v+(n:Int)) 0 else min v (n:Int))=(((if v<0 then(v+(n:Int)).toNat else min v.toNat n):Nat):Int)
 by_cases hv:v<0
 ·simp only[if_pos hv];lia
 ·simp only[if_neg hv];lia
theorem zjb(lo hi:Option Int)(n:Nat):Builtin.Slice.sliceAdjust lo hi 1 (n:Int)=(((sIx n 0 lo:Nat):Int),((sIx n n hi:Nat):Int)):=by
 have h1:¬((1:Int)<0):=by lia
 unfold Builtin.Slice.sliceAdjust;simp only[h1,if_false];refine Prod.ext ?_ ?_
 ·cases lo with
  | none=>rfl
  | some v=>exact zkI v n 0
 ·cases hi with
  | none=>rfl
  | some v=>exact zkI v n n
theorem ziM(i j:Nat):Builtin.Slice.slicePlaces (i:Int) (j:Int) 1=j - i:=by
 unfold Builtin.Slice.slicePlaces;have h1:(1:Int) > 0:=by lia
 simp only[h1,if_true,Int.ediv_one];split <;> lia
theorem zdl{v:Value}{o:Option Int}{Q:Option Int->Shared->Prop}(p:IsPart v o)(h:Q o s):wpAny (model prog w) A (Builtin.Slice.slicePartIndex v) Q E s:=by
 cases p with
 | none=>exact slicePart_none h
 | int i t=>exact slicePart_int h
theorem zcm{sl:Addr}{vl vu:Value}{lo hi:Option Int}{n:Nat}{Q:Int×Int×Nat->Shared->Prop}(hs:s.heap.IsSliceOf sl vl vu .none)(pl:IsPart vl lo)(pu:IsPart vu hi)
  (h:Q (((sIx n 0 lo:Nat):Int),1,sIx n n hi - sIx n 0 lo) s):wpAny (model prog w) A (Builtin.Slice.sliceApplied (.ref sl) (pure (n:Int))) Q E s:=by
 obtain⟨os,hos,hcs,hds⟩:=id hs;unfold Builtin.Slice.sliceApplied Builtin.Slice.sliceFields;refine wpAny_bind (wpAny_bind (wpAny_field hos hds (x:=vl) rfl (wpAny_bind (wpAny_field hos hds (x:=vu) rfl (wpAny_bind (wpAny_field hos hds (x:=.none) rfl (wpAny_pure ?_)))))));refine wpAny_bind (slicePart_none ?_);show wpAny _ _ (if ((1:Int) == 0)=true then _ else _) _ _ s
 rw[if_neg (by decide)]
 refine wpAny_bind (zdl pl (wpAny_bind (zdl pu (wpAny_bind (wpAny_pure ?_)))));show wpAny _ _ (match Builtin.Slice.sliceAdjust lo hi 1 (n:Int) with|(lo,hi)=>pure (lo,(1:Int),Builtin.Slice.slicePlaces lo hi 1)) _ _ s
 rw[zjb lo hi n];show wpAny _ _ (pure (((sIx n 0 lo:Nat):Int),(1:Int),Builtin.Slice.slicePlaces ((sIx n 0 lo:Nat):Int) ((sIx n n hi:Nat):Int) 1)) _ _ s
 rw[ziM];exact wpAny_pure h
theorem zlB(xs:Array Value)(i k:Nat):((List.range k).filterMap fun(m:Nat)=>xs[((i:Int)+(m:Int)*1).toNat]?).toArray=((xs.toList.drop i).take k).toArray:=by
 have e:(fun(m:Nat)=>xs[((i:Int)+(m:Int)*1).toNat]?)=fun m=>xs[i+m]?:=by
  funext m
  have:((i:Int)+(m:Int)*1).toNat=i+m:=by lia
  rw[this]
 rw[e];have:=pick_run xs i k;rw[List.filterMap_map]at this;have e2:((fun x=>xs[x]?)∘fun x=>i+x)=fun m=>xs[i+m]?:=rfl
 rw[e2]at this;rw[this]
theorem zdu{t sl:Addr}{items:Array Value}{vl vu:Value}{lo hi:Option Int}{Q:qV}(ht:IsTup s.heap t items)(hs:s.heap.IsSliceOf sl vl vu .none)(pl:IsPart vl lo)(pu:IsPart vu hi)
  (hw:¬(sIx items.size 0 lo=0/\sIx items.size items.size hi=items.size))
  (h:Q (.ref s.heap.objs.size) { s with heap:=s.heap.push { cls:=.type "tuple",data:=.seq ((items.toList.drop (sIx items.size 0 lo)).take (sIx items.size items.size hi - sIx items.size 0 lo)).toArray } })
  (hsz:items.size<=sizeLine):wpAny (model prog w) A (getItem (.ref t) (.ref sl)) Q E s:=by
 have htake:sizeOk (.seq ((items.toList.drop (sIx items.size 0 lo)).take (sIx items.size items.size hi - sIx items.size 0 lo)).toArray):=by
  show((items.toList.drop (sIx items.size 0 lo)).take (sIx items.size items.size hi - sIx items.size 0 lo)).toArray.size<=sizeLine
  rw[List.size_toArray,List.length_take,List.length_drop,Array.length_toList];lia
 have hj:sIx items.size items.size hi<=items.size:=zoS _ _ (Nat.le_refl _) hi;obtain⟨os,hos,hcs,hds⟩:=id hs;have hTs:s.TypeIs (.ref sl) "slice":=⟨os,hos,hcs⟩;unfold getItem
 try with_reducible refine wpAny_holding ?_
 first|refine wpAny_bind (wpAny_pure ?_)|skip
 refine wpAny_bind (wpAny_sequenceKey ht.typeIs (by decide) ?_)
 refine wpAny_bind (wpAny_callSpecial?_slot (name:=Str.ofString "__getitem__") ht.typeIs PyProof.Rows.slot_tuple_getitem
  (wpAny_call_entry PyProof.Rows.slot_tuple_getitem ht.typeIs entry_tuple_getitem ?_ (args_tuple_getitem _ _)))
 show wpAny _ _ (Builtin.Tuple.tupleItemsOf (.ref t) >>= _) _ _ s
 refine wpAny_bind (tupleItemsOf_ ht ?_);refine wpAny_bind (wpAny_typeOf hTs ?_);rw[if_pos (by decide)]
 refine wpAny_bind (zcm hs pl pu ?_);have hno:¬((((sIx items.size 0 lo:Nat):Int) == 0&&(1:Int) == 1&&(sIx items.size items.size hi - sIx items.size 0 lo) == items.size)=true):=by
  intro q;rw[Bool.and_eq_true,Bool.and_eq_true]at q;have q1:((sIx items.size 0 lo:Nat):Int)=0:=eq_of_beq q.1.1;have q2:sIx items.size items.size hi - sIx items.size 0 lo=items.size:=eq_of_beq q.2;exact hw ⟨by lia,by lia⟩
 show wpAny _ _ (if (((sIx items.size 0 lo:Nat):Int) == 0&&(1:Int) == 1&&(sIx items.size items.size hi - sIx items.size 0 lo) == items.size)=true then _ else _) _ _ s
 rw[if_neg hno,zlB]
 first
  | exact wpAny_bind (m:=Builtin.Tuple.tupleExact _) (wpAny_newObj_type (wpAny_pure ⟨_,rfl,wpAny_pure h⟩) htake)
  | exact wpAny_bind (m:=Builtin.Tuple.tupleExact _) (wpAny_newObj_type (wpAny_bind (wpAny_pure (wpAny_pure ⟨_,rfl,wpAny_pure h⟩))) htake)
  | exact wpAny_bind (wpAny_bind (m:=Builtin.Tuple.tupleExact _) (wpAny_newObj_type (wpAny_pure (wpAny_pure ⟨_,rfl,wpAny_pure h⟩)) htake))
  | exact wpAny_bind (wpAny_bind (m:=Builtin.Tuple.tupleExact _) (wpAny_newObj_type (wpAny_pure ⟨_,rfl,wpAny_pure h⟩) htake))
end
end HT
namespace L2
open PySem PySem.Spec PyProof.Rows
abbrev TO:=St->Hp->(Option Int->Hp->Prop)->Prop
def PO(X:Cx)(e:Option Expr)(t:TO):Prop :=
 ∀(pins:qO) (s:Shared) (σ:St) (H:Hp) (Q:Option Int->Hp->Prop),Inv X pins σ H s->t σ H Q ->
  wpAny (model X.prog X.w) X.A (evalPart e X.env) (fun u s'=>∃o H',Inv X pins σ H' s'/\IsPart u o/\Q o H') X.xe s
def zmV:TO:=fun _ H Q=>Q none H
def zrw(t:TE):TO:=fun σ H Q=>t σ H fun x H1=>∃i,x=.int i/\Q (some i) H1
theorem intsAre_of{ns:List Int}:∀{us:List Value},Vals (ns.map V.int) us->IntsAre us ns:=by
 induction ns with
 | nil=>intro us r;rw[List.map_nil]at r;cases r;exact .nil
 | cons n ns ih =>
  intro us r;rw[List.map_cons]at r;cases r with
  | cons r1 r2 =>
   obtain⟨t,e⟩:=r1;subst e;exact .cons n t (ih r2)
section
variable{X:Cx}{e:Expr}{te:TE}{lo hi:Option Expr}{tl th:TO}{pos p2:Pos}
theorem znc:PO X none zmV:=by
 intro pins s σ H Q I h;rw[evalPart_none];exact wpAny_pure ⟨none,H,I,.none,h⟩
theorem znb(h:PE X e te):PO X (some e) (zrw te):=by
 intro pins s σ H Q I hw;rw[evalPart_some];refine thn (h pins s σ H _ I hw) fun u s1 ⟨x,H1,I1,r1,q1⟩=>?_
 obtain⟨i,rfl,q⟩:=q1;obtain⟨t,rfl⟩:=r1;exact⟨some i,H1,I1,.int i t,q⟩
def SlR(X:Cx)(r:V->Option Int->Option Int->Hp->VK->Prop):Prop :=
 ∀(pins:qO) (s:Shared) (σ:St) (H:Hp) (x:V) (v vl vu:Value) (lo hi:Option Int) (sl:Addr) (Q:VK),Inv X pins σ H s->RelV x v->s.heap.IsSliceOf sl vl vu .none->IsPart vl lo->IsPart vu hi->r x lo hi H Q ->
  ∃T id,typeLookup (.type T) "__getitem__" = pure (some (.builtin id))/\s.TypeIs v T/\wpAny (model X.prog X.w) X.A (getItem v (.ref sl)) (EP X pins σ Q) X.xe s
theorem SlR.or{r r':V->Option Int->Option Int->Hp->VK->Prop}(h:SlR X r)(h':SlR X r'):SlR X (fun x lo hi H Q=>r x lo hi H Q\/r' x lo hi H Q):=by
 intro pins s σ H x v vl vu lo hi sl Q I rx hs pl pu q;rcases q with q|q
 ·exact h pins s σ H x v vl vu lo hi sl Q I rx hs pl pu q
 ·exact h' pins s σ H x v vl vu lo hi sl Q I rx hs pl pu q
def tSl(r:V->Option Int->Option Int->Hp->VK->Prop)(te:TE)(tl th:TO):TE:=fun σ H Q=>te σ H fun x H1=>tl σ H1 fun l H2=>th σ H2 fun u H3=>r x l u H3 Q
theorem zh5{r:V->Option Int->Option Int->Hp->VK->Prop}(hr:SlR X r)(he:PE X e te)(hl:PO X lo tl)(hu:PO X hi th):PE X (.Subscript e (.Slice lo hi none p2) pos) (tSl r te tl th):=by
 intro pins s σ H Q I h;refine Subscript_ (thn (he pins s σ H _ I h) fun v s1 ⟨x,H1,I1,r1,q1⟩=>?_)
 refine wpAny_Slice (thn (hl pins s1 σ H1 _ I1 q1) fun vl s2 ⟨l,H2,I2,pl,q2⟩=>thn (hu pins s2 σ H2 _ I2 q2) fun vu s3 ⟨u,H3,I3,pu,q3⟩=>?_)
 rw[evalPart_none];refine wpAny_pure ?_;have I4:Inv X pins σ H3 { s3 with heap:=s3.heap.push { cls:=.type "slice",data:=.fields #[vl,vu,.none] } }:=I3.kept (t':=s3.toks) fun b ob q=>Heap.get?_push_of_some _ q
 obtain⟨T,id,hT,ht,hg⟩:=hr pins { s3 with heap:=s3.heap.push { cls:=.type "slice",data:=.fields #[vl,vu,.none] } } σ H3 x v vl vu l u s3.heap.objs.size Q I4 r1 (Heap.IsSliceOf.new ..) pl pu q3
 show wpAny (model X.prog X.w) X.A (subscriptTail e (.Slice lo hi none p2) v (.ref s3.heap.objs.size)) (EP X pins σ Q) X.xe { s3 with heap:=s3.heap.push { cls:=.type "slice",data:=.fields #[vl,vu,.none] } }
 exact tail_any (ops:=[.ref s3.heap.objs.size,v]) ht hT hg (by with_unfolding_all rfl)
def cutV(xs:List V)(lo hi:Option Int):List V:=(xs.drop (HT.sIx xs.length 0 lo)).take (HT.sIx xs.length xs.length hi - HT.sIx xs.length 0 lo)
theorem zeH(xs:List V)(lo hi:Option Int):(cutV xs lo hi).length<=xs.length:=by
 unfold cutV;rw[List.length_take,List.length_drop];lia
def rSlT(K:qF):V->Option Int->Option Int->Hp->VK->Prop:=fun x lo hi H Q=>∃a xs,x=.ref a/\SqT K H a xs /\
 ¬(HT.sIx xs.length 0 lo=0/\HT.sIx xs.length xs.length hi=xs.length)/\∀p,H p=none->Q (.ref p) (upd H p (.tup (cutV xs lo hi)))
theorem zoF:SlR X (rSlT X.K):=by
 intro pins s σ H x v vl vu lo hi sl Q I rx hs pl pu h;obtain⟨a,xs,rfl,hx,hw,q⟩:=h;cases rx;obtain⟨its,r,ht,hz⟩:=I.tuple hx;have hlen:its.toArray.size=xs.length:=by rw[List.size_toArray];exact r.length.symm
 refine⟨"tuple",_,PyProof.Rows.slot_tuple_getitem.lookup,ht.typeIs,?_⟩;refine HT.zdu ht hs pl pu (by rw[hlen];exact hw) ?_ (by rw[hlen];exact hz)
 rw[hlen];refine⟨.ref s.heap.objs.size,_,I.laid (t':=s.toks) (o:=.tup (cutV xs lo hi)) (fun b ob q=>Heap.get?_push_of_some _ q) (Nat.le_refl _) ?_,rfl,q _ (I.hok.fresh (Nat.le_refl _))⟩
 exact⟨Nat.le_trans (zeH xs lo hi) hz,_,(r.drop (HT.sIx xs.length 0 lo)).take (HT.sIx xs.length xs.length hi - HT.sIx xs.length 0 lo),IsTD.new _ _⟩
def rLtT(K:qF):R2:=fun x y H Q=>∃a b ns ms,x=.ref a/\y=.ref b/\SqT K H a (ns.map V.int)/\SqT K H b (ms.map V.int)/\Q (.bl (HT.lexLt ns ms)) H
theorem zpo(hu:X.A.units<cLine):OpR X (compareOp .Lt) (rLtT X.K):=by
 intro pins s σ H x y v u Q I rx ry h;obtain⟨a,b,ns,ms,rfl,rfl,ha,hb,q⟩:=h;cases rx;cases ry;obtain⟨its,r1,p1,_⟩:=I.tuple ha;obtain⟨its2,r2,p2,_⟩:=I.tuple hb;have i1:IntsAre its.toArray.toList ns:=intsAre_of r1;have i2:IntsAre its2.toArray.toList ms:=intsAre_of r2;exact HT.ze_ p1 p2 i1 i2 hu ⟨.bl (HT.lexLt ns ms),H,I,rfl,q⟩
def zr7(K:qF):R2:=fun x y H Q=>∃a b xs ys,x=.ref a/\y=.ref b/\SqT K H a xs/\SqT K H b ys/\xs≠[]/\xs.length+ys.length<=sizeLine /\
 (ys=[]->Q (.ref a) H)/\(ys≠[]->∀p,H p=none->Q (.ref p) (upd H p (.tup (xs++ys))))
theorem Vals.nil_iff{xs:List V}{us:List Value}(r:Vals xs us):us=[]↔xs=[]:=by
 cases r with
 | nil=>simp
 | cons _ _=>simp
theorem znr:OpR X (binaryOp .Add) (zr7 X.K):=by
 intro pins s σ H x y v u Q I rx ry h;obtain⟨a,b,xs,ys,rfl,rfl,ha,hb,hx,hz,q1,q2⟩:=h;cases rx;cases ry;obtain⟨its,r1,p1,_⟩:=I.tuple ha;obtain⟨its2,r2,p2,_⟩:=I.tuple hb;refine HT.zof p1 p2 (fun z=>hx (r1.nil_iff.mp z)) (fun z=>⟨.ref a,H,I,rfl,q1 (r2.nil_iff.mp z)⟩) (fun z=>?_) (by rw[<- r1.length,<- r2.length];exact hz)
 refine⟨.ref s.heap.objs.size,_,I.laid (t':=s.toks) (o:=.tup (xs++ys)) (fun b ob q=>Heap.get?_push_of_some _ q) (Nat.le_refl _) ?_,rfl,q2 (fun w=>z (r2.nil_iff.mpr w)) _ (I.hok.fresh (Nat.le_refl _))⟩
 exact⟨by rw[List.length_append];exact hz,_,r1.append r2,IsTD.new _ _⟩
end
def ixN(n:Nat)(i:Int):Option Nat:=if 0<=i then(if i<n then some i.toNat else none) else if -(n:Int)<=i then some (i+n).toNat else none
def atI{α:Type}(xs:List α)(i:Int):Option α:=(ixN xs.length i).bind fun j=>xs[j]?
theorem zj_{n:Nat}{i:Int}{j:Nat}(h:ixN n i=some j):seqIndex? i n=some j/\j<n/\-(n:Int)<=i/\i<n:=by
 unfold ixN at h
 by_cases h0:0<=i
 ·rw[if_pos h0]at h
  by_cases h1:i<n
  ·rw[if_pos h1]at h;have e:i.toNat=j:=Option.some.inj h;exact⟨by rw[seqIndex_of h0 h1,e],by lia,by lia,h1⟩
  ·rw[if_neg h1]at h;cases h
 ·rw[if_neg h0]at h
  by_cases h1:-(n:Int)<=i
  ·rw[if_pos h1]at h;have e:(i+n).toNat=j:=Option.some.inj h;exact⟨by rw[seqIndex_neg (by lia) h1,e],by lia,h1,by lia⟩
  ·rw[if_neg h1]at h;cases h
theorem zhV{α:Type}{xs:List α}{i:Int}{v:α}(h:atI xs i=some v):∃j,seqIndex? i xs.length=some j/\xs[j]?=some v/\j<xs.length/\-(xs.length:Int)<=i/\i<xs.length:=by
 unfold atI at h;cases e:ixN xs.length i with
 | none=>rw[e]at h;cases h
 | some j =>
  rw[e]at h;obtain⟨h1,h2,h3,h4⟩:=zj_ e;exact⟨j,h1,h,h2,h3,h4⟩
theorem zoj{α:Type}{xs:List α}{j:Nat}{v:α}(h:xs[j]?=some v):atI xs (j:Int)=some v:=by
 have hj:j<xs.length:=(List.getElem?_eq_some_iff.mp h).1;have e:ixN xs.length (j:Int)=some j:=by
  unfold ixN;rw[if_pos (by lia),if_pos (by lia)];simp
 unfold atI;rw[e];exact h
def zkU(b:Expr):Prop:=∀o i,subscripted b false o i=operate [o,i] (getItem o i)
def IxR(X:Cx)(r:R2):Prop :=
 ∀(value slice:Expr) (pins:qO) (s:Shared) (σ:St) (H:Hp) (x y:V) (v u:Value) (Q:VK),Inv X pins σ H s->RelV x v->RelV y u->r x y H Q ->
  subscripted slice false v u=operate [v,u] (getItem v u)->wpAny (model X.prog X.w) X.A (subscriptTail value slice v u) (EP X pins σ Q) X.xe s
def MtR(X:Cx)(id:String)(r:V->List V->Hp->VK->Prop):Prop :=
 ∀(pins:qO) (s:Shared) (σ:St) (H:Hp) (x:V) (xs:List V) (v:Value) (us:List Value) (Q:VK),Inv X pins σ H s->RelV x v->Vals xs us->r x xs H Q ->
  wpAny (model X.prog X.w) X.A (call (.builtin id) (v::us)) (EP X pins σ Q) X.xe s
section
variable{X:Cx}{a b:Expr}{ta tb:TE}{pos:Pos}
theorem IxR.or{r r':R2}(h:IxR X r)(h':IxR X r'):IxR X (fun x y H Q=>r x y H Q\/r' x y H Q):=by
 intro value slice pins s σ H x y v u Q I rx ry q hs;rcases q with q|q
 ·exact h value slice pins s σ H x y v u Q I rx ry q hs
 ·exact h' value slice pins s σ H x y v u Q I rx ry q hs
theorem Uq{r:R2}(hr:IxR X r)(ha:PE X a ta)(hb:PE X b tb)(hs:zkU b):PE X (.Subscript a b pos) (tOp r ta tb):=by
 intro pins s σ H Q I h;exact Subscript_ (binT ha hb I h fun v u s2 x y H2 I2 rx ry q=>hr a b pins s2 σ H2 x y v u Q I2 rx ry q (hs _ _))
def rIxL(K:qF):R2:=fun x y H Q=>∃p xs i v,x=.ref p/\y=.int i/\SqL K H p xs/\atI xs i=some v/\Q v H
def rIxT(K:qF):R2:=fun x y H Q=>∃p xs i v,x=.ref p/\y=.int i/\SqT K H p xs/\atI xs i=some v/\Q v H
def rIxS:R2:=fun x y H Q=>∃z i c,x=.str z/\y=.int i/\z.length<=sizeLine/\atI z.cps.toList i=some c/\Q (.str ⟨#[c]⟩) H
theorem Uw:IxR X (rIxL X.K):=by
 intro value slice pins s σ H x y v u Q I rx ry h hs;obtain⟨p,xs,i,z,rfl,rfl,hq,he,q⟩:=h;cases rx;obtain⟨t,rfl⟩:=ry;obtain⟨its,r,pl,hz⟩:=I.list hq;obtain⟨j,h1,h2,h3,h4,h5⟩:=zhV he;obtain⟨w,ew,rw'⟩:=r.get h2;have hl:=r.length;have hn:=U7;have fin:EP X pins σ Q w s:=⟨z,H,I,rw',q⟩
 by_cases h0:0<=i
 ·have hj:i.toNat=j:=by
   rw[seqIndex_of h0 h5]at h1;exact Option.some.inj h1
  exact item_listR pl.isList h0 (by lia) (by rw[hj];simpa using ew) fin hs
 ·have hj:(i+(its.toArray.size:Int)).toNat=j:=by
   rw[seqIndex_neg (by lia) h4]at h1
   rw[List.size_toArray,<- hl];exact Option.some.inj h1
  exact subscriptTail_builtinR (x:=w) pl.isList.typeIs slot_list_getitem.lookup
   (wpAny_getItem_list_neg (Q:=fun r s'=>r=w/\EP X pins σ Q r s') pl.isList (by lia) (by rw[List.size_toArray] <;> lia) (by lia) (by rw[hj];simpa using ew) ⟨rfl,fin⟩) hs
theorem zpX:IxR X (rIxT X.K):=by
 intro value slice pins s σ H x y v u Q I rx ry h hs;obtain⟨p,xs,i,z,rfl,rfl,hq,he,q⟩:=h;cases rx;obtain⟨t,rfl⟩:=ry;obtain⟨its,r,pl,hz⟩:=I.tuple hq;obtain⟨j,h1,h2,h3,h4,h5⟩:=zhV he;obtain⟨w,ew,rw'⟩:=r.get h2;have hl:=r.length;have hn:=U7;have fin:EP X pins σ Q w s:=⟨z,H,I,rw',q⟩;exact subscriptTail_builtinR (x:=w) pl.typeIs slot_tuple_getitem.lookup
  (getItem_tuple (j:=j) (Q:=fun r s'=>r=w/\EP X pins σ Q r s') pl (by lia) (by lia) (by rw[List.size_toArray,<- hl];exact h1) (by simpa using ew) ⟨rfl,fin⟩) hs
theorem zpY:IxR X rIxS:=by
 intro value slice pins s σ H x y v u Q I rx ry h hs;obtain⟨z,i,c,rfl,rfl,hz,he,q⟩:=h;obtain⟨t,rfl⟩:=rx;obtain⟨t',rfl⟩:=ry;obtain⟨j,h1,h2,h3,h4,h5⟩:=zhV he;have hl:z.cps.toList.length=z.length:=by simp[Str.length]
 rw[hl]at h1 h4 h5;have hn:=U7;exact tail_any (typeIs_str s z t) slot_str_getitem.lookup (getItem_str (c:=c) (by
  have e1:decide (i < -(2 ^ 63:Int))=false:=decide_eq_false (by lia)
  have e2:decide (i>=2 ^ 63)=false:=decide_eq_false (by lia)
  rw[e1,e2,Bool.or_false]) (by rw[h1];simpa using h2) ⟨.str ⟨#[c]⟩,H,I.tok _,⟨_,rfl⟩,q⟩) hs
def rIx(K:qF):R2:=fun x y H Q=>rIxL K x y H Q\/rIxT K x y H Q\/rIxS x y H Q
theorem zpZ:IxR X (rIx X.K):=Uw.or (zpX.or zpY)
theorem ziX(its:List Value)(n j:Nat)(u:Value):Obj.mapSeq (·.setIfInBounds j u) { cls:=.type "list",data:=.seq its.toArray n }={ cls:=.type "list",data:=.seq (its.set j u).toArray n }:=by
 simp[Obj.mapSeq]
theorem Inv.lst{pins:qO}{σ:St}{H:Hp}{s:Shared}{p:Addr}{xs:List V}(I:Inv X pins σ H s)(h:H p=some (.lst xs)) :
  ∃(its:List Value) (n:Nat),Vals xs its/\s.heap.get? p=some { cls:=.type "list",data:=.seq its.toArray n }/\xs.length<=sizeLine:=by
 obtain⟨z,its,n,r,e⟩:=I.hok p _ h;exact⟨its,n,r,e,z⟩
theorem Inv.lstUpd{pins:qO}{σ:St}{H:Hp}{s:Shared}{p:Addr}{xs ys:List V}{its its':List Value}{n n':Nat}{f:Obj->Obj}(I:Inv X pins σ H s)(h:H p=some (.lst xs))
  (ho:s.heap.get? p=some { cls:=.type "list",data:=.seq its.toArray n }) (hf:f { cls:=.type "list",data:=.seq its.toArray n }={ cls:=.type "list",data:=.seq its'.toArray n' }) (r:Vals ys its') (hz:ys.length<=sizeLine) (t:Nat) :
  Inv X pins σ (upd H p (.lst ys)) { s with heap:=s.heap.update p f,toks:=t }:=by
 have e:(s.heap.update p f).get? p=some { cls:=.type "list",data:=.seq its'.toArray n' }:=by
  rw[Heap.get?_update_self f ho (by rw[hf] <;> rfl),hf]
 refine I.write (x:=p) (e:=p) (by rw[h];trivial) (.inl rfl) (fun b u hb q=>(Heap.get?_update_other _ _ (Ne.symm hb)).trans q) ⟨_,e⟩ ?_
 exact⟨hz,its',n',r,e⟩
def zr6:V->V->V->Hp->(Hp->Prop)->Prop:=fun o i v H Q=>∃p xs k j,o=.ref p/\i=.int k/\H p=some (.lst xs)/\ixN xs.length k=some j/\Q (upd H p (.lst (xs.set j v)))
theorem set_list:PSet X zr6:=by
 intro pins s σ H o i v ov iv u Q I ro ri rv h;obtain⟨p,xs,k,j,rfl,rfl,hp,hj,q⟩:=h;cases ro;obtain⟨t,rfl⟩:=ri;obtain⟨its,n,r,ho,hz⟩:=I.lst hp;obtain⟨h1,h2,h3,h4⟩:=zj_ hj;have hl:=r.length;have hn:=U7;have I':Inv X pins σ (upd H p (.lst (xs.set j v))) { s with heap:=s.heap.update p (Obj.mapSeq (·.setIfInBounds j u)) } :=
  I.lstUpd hp ho (ziX its n j u) (r.set rv j) (by rw[List.length_set];exact hz) s.toks
 by_cases h0:0<=k
 ·have hk:k.toNat=j:=by
   rw[seqIndex_of h0 h4]at h1;exact Option.some.inj h1
  exact PySem.W.ki_setAt ho h0 (by lia) (by rw[List.size_toArray,<- hl];exact h4) (by rw[hk];exact⟨_,I',q⟩)
 ·have hk:(k+(its.toArray.size:Int)).toNat=j:=by
   rw[seqIndex_neg (by lia) h3]at h1
   rw[List.size_toArray,<- hl];exact Option.some.inj h1
  exact PySem.W.ki_setBack ho (by lia) (by rw[List.size_toArray,<- hl];exact h3) (by lia) (by rw[hk];exact⟨_,I',q⟩)
theorem zf1(lo hi:Option Int)(n:Nat):(sliceBounds lo hi none n).1=((HT.sIx n 0 lo:Nat):Int)/\(sliceBounds lo hi none n).2.1=((HT.sIx n n hi:Nat):Int)/\(sliceBounds lo hi none n).2.2=1:=by
 refine⟨?_,?_,rfl⟩
 ·cases lo with
  | none=>simp[sliceBounds,HT.sIx]
  | some i =>
   simp only[sliceBounds,HT.sIx,Option.getD_none,show(1:Int) > 0 by decide,if_true]
   by_cases h:i<0
   ·simp only[h,if_true] <;> lia
   ·simp only[h,if_false] <;> lia
 ·cases hi with
  | none=>simp[sliceBounds,HT.sIx]
  | some i =>
   simp only[sliceBounds,HT.sIx,Option.getD_none,show(1:Int) > 0 by decide,if_true]
   by_cases h:i<0
   ·simp only[h,if_true] <;> lia
   ·simp only[h,if_false] <;> lia
theorem zfp(its:List Value)(lo hi:Option Int):slicePick its.toArray lo hi none=((its.drop (HT.sIx its.length 0 lo)).take (HT.sIx its.length its.length hi - HT.sIx its.length 0 lo)).toArray:=by
 obtain⟨h1,h2,h3⟩:=zf1 lo hi its.toArray.size;unfold slicePick;rw[h1,h2,h3];simp only[sliceRange_one,pick_run,List.size_toArray] <;> rfl
def rSlL(K:qF):V->Option Int->Option Int->Hp->VK->Prop:=fun x lo hi H Q=>∃a xs,x=.ref a/\SqL K H a xs/\∀p,H p=none->Q (.ref p) (upd H p (.lst (cutV xs lo hi)))
theorem zmZ:SlR X (rSlL X.K):=by
 intro pins s σ H x v vl vu lo hi sl Q I rx hs pl pu h;obtain⟨a,xs,rfl,hx,q⟩:=h;cases rx;obtain⟨its,r,ht,hz⟩:=I.list hx;have hlen:=r.length;refine⟨"list",_,slot_list_getitem.lookup,ht.isList.typeIs,?_⟩;refine wpAny_getItem_list_slice ht.isList hs pl pu .none (by simp) ?_ (by rw[List.size_toArray] <;> lia)
 rw[zfp,<- hlen];refine⟨.ref s.heap.objs.size,_,I.laid (t':=s.toks) (o:=.lst (cutV xs lo hi)) (fun b ob q=>Heap.get?_push_of_some _ q) (Nat.le_refl _) ?_,rfl,q _ (I.hok.fresh (Nat.le_refl _))⟩
 exact⟨Nat.le_trans (zeH xs lo hi) hz,_,0,(r.drop (HT.sIx xs.length 0 lo)).take (HT.sIx xs.length xs.length hi - HT.sIx xs.length 0 lo),Heap.get?_push_size _ rfl⟩
theorem zgW:J5 X (.builtin "len") (fun xs H Q=>∃p ys,xs=[.ref p]/\(SqL X.K H p ys\/SqT X.K H p ys)/\Q (.int ys.length) H):=by
 intro pins s σ H xs us Q I r h;obtain⟨p,ys,rfl,hq,q⟩:=h;obtain⟨u,rfl,rx⟩:=vals1 r;cases rx;have hn:=U7;rcases hq with hq|hq
 ·obtain⟨its,r',pl,hz⟩:=I.list hq;have hlen:=r'.length;exact Calls.call_len_list pl.isList (by simp only[List.size_toArray] <;> lia) ⟨.int ys.length,H,I.tok _,⟨s.toks+1,by rw[List.size_toArray,hlen]⟩,q⟩
 ·obtain⟨its,r',pl,hz⟩:=I.tuple hq;have hlen:=r'.length;exact len_tuple pl (by simp only[List.size_toArray] <;> lia) ⟨.int ys.length,H,I.tok _,⟨s.toks+1,by rw[List.size_toArray,hlen]⟩,q⟩
theorem zgV:J5 X (.type "list") (fun xs H Q=>∃p ys,xs=[.ref p]/\(SqL X.K H p ys\/SqT X.K H p ys)/\∀l,H l=none->Q (.ref l) (upd H l (.lst ys))):=by
 intro pins s σ H xs us Q I r h;obtain⟨p,ys,rfl,hq,q⟩:=h;obtain⟨u,rfl,rx⟩:=vals1 r;cases rx;have fin:∀(its:List Value),Vals ys its->ys.length<=sizeLine->∀(h':Heap) (c':Nat),(∀b o',s.heap.get? b=some o'->h'.get? b=some o') ->
   h'.get? s.heap.objs.size=some { cls:=.type "list",dict:=none,data:=.seq its.toArray c',slots:=#[] }->EP X pins σ Q (.ref s.heap.objs.size) { s with heap:=h' }:=fun its r' hz h' c' kp e =>
  ⟨.ref s.heap.objs.size,_,I.laid (t':=s.toks) kp (Nat.le_refl _) (show JM X.prog X.w _ h' _ (.lst ys) from⟨hz,its,c',r',e⟩),rfl,q _ (I.hok.fresh (Nat.le_refl _))⟩
 rcases hq with hq|hq
 ·obtain⟨its,r',pl,hz⟩:=I.list hq;have hlen:=r'.length;obtain⟨o,ho,hc,n,hd⟩:=pl.isList;exact call_list_seq p (.inl rfl) ho hc hd (fun h' c' kp e=>fin its r' hz h' c' kp e) (by simp only[List.size_toArray] <;> lia)
 ·obtain⟨its,r',pl,hz⟩:=I.tuple hq;have hlen:=r'.length;obtain⟨o,ho,hc,n,hd⟩:=pl;exact call_list_seq p (.inr rfl) ho hc hd (fun h' c' kp e=>fin its r' hz h' c' kp e) (by simp only[List.size_toArray] <;> lia)
theorem Zq:J5 X (.type "tuple") (fun xs H Q=>∃p ys,xs=[.ref p]/\((SqL X.K H p ys/\∀l,H l=none->Q (.ref l) (upd H l (.tup ys)))\/(SqT X.K H p ys/\Q (.ref p) H))):=by
 intro pins s σ H xs us Q I r h;obtain⟨p,ys,rfl,h⟩:=h;obtain⟨u,rfl,rx⟩:=vals1 r;cases rx;rcases h with⟨hq,q⟩|⟨hq,q⟩
 ·obtain⟨its,r',pl,hz⟩:=I.list hq;have hlen:=r'.length;refine call_tuple_list pl.isList (fun h' kp=>?_) (by simp only[List.size_toArray] <;> lia)
  have I1:Inv X pins σ H { s with heap:=h' }:=I.kept (t':=s.toks) kp
  have I2:Inv X pins σ (upd H h'.objs.size (.tup ys)) { s with heap:=h'.push { cls:=.type "tuple",data:=.seq its.toArray } } :=
   I1.laid (t':=s.toks) (fun b o e=>Heap.get?_push_of_some _ e) (Nat.le_refl _) (show JM X.prog X.w _ _ _ (.tup ys) from⟨hz,its,r',IsTD.new _ _⟩)
  exact⟨.ref h'.objs.size,_,I2,rfl,q _ (I1.hok.fresh (Nat.le_refl _))⟩
 ·obtain⟨its,r',pl,hz⟩:=I.tuple hq;exact call_tuple_same pl ⟨.ref p,H,I,rfl,q⟩
def tyV(K:qF)(T:String)(x:V)(H:Hp):Prop:=match x with
 | .str _=>T = "str"
 | .int _=>T = "int"
 | .ref p=>(T = "list" /\ ∃xs,SqL K H p xs)\/(T = "tuple" /\ ∃o,K.lookup p=some o/\o.cls=.type "tuple" /\ o.dict=none) \/
   (T = "dict" /\ ((∃kvs,H p=some (.dK kvs))\/∃kvs,H p=some (.dT kvs)))\/(T = "set" /\ ∃S n,H p=some (.set S n))
 | _=>False
theorem zoy{pins:qO}{σ:St}{H:Hp}{s:Shared}{T:String}{x:V}{v:Value}(I:Inv X pins σ H s)(r:RelV x v)(ty:tyV X.K T x H) :
  s.TypeIs v T/\∀a,v=.ref a->∃ob,s.heap.get? a=some ob/\ob.dict=none:=by
 cases x with
 | str z =>
  obtain⟨t,rfl⟩:=r;cases(show T = "str" from ty)
  exact⟨typeIs_str s z t,fun _ e=>nomatch e⟩
 | int i =>
  obtain⟨t,rfl⟩:=r;cases(show T = "int" from ty)
  exact⟨typeIs_int s i t,fun _ e=>nomatch e⟩
 | ref p =>
  cases r;rcases ty with⟨rfl,xs,hq⟩|⟨rfl,o,hk,hc,hd⟩|⟨rfl,hk⟩|⟨rfl,S,n,hk⟩
  ·obtain⟨its,_,pl,_⟩:=I.list hq;refine⟨pl.isList.typeIs,fun a e=>?_⟩
   cases e;obtain⟨o,n,e,c,hd,_⟩:=pl;exact⟨o,e,hd⟩
  ·refine⟨⟨o,I.kIn p o hk,hc⟩,fun a e=>?_⟩
   cases e;exact⟨o,I.kIn _ o hk,hd⟩
  ·have z:∃o,s.heap.get? p=some o/\o.ExactDict:=by
    rcases hk with⟨kvs,hk⟩|⟨kvs,hk⟩
    ·obtain⟨_,_,_,_,o,_,_,e,ex,_⟩:=I.hok p _ hk;exact⟨o,e,ex⟩
    ·obtain⟨_,_,_,_,o,_,_,e,ex,_⟩:=I.hok p _ hk;exact⟨o,e,ex⟩
   obtain⟨o,e,ex⟩:=z;refine⟨⟨o,e,ex.1⟩,fun a e2=>?_⟩
   cases e2;exact⟨o,e,ex.2.1⟩
  ·obtain⟨o,_,_,_,e,ex,_⟩:=I.hok p _ hk;refine⟨⟨o,e,ex.1⟩,fun a e2=>?_⟩
   cases e2;exact⟨o,e,ex.2.1⟩
 | _=>exact False.elim ty
def tBM(K:qF)(T:String)(r:V->List V->Hp->VK->Prop)(to:TE)(t:TA):TE:=fun σ H Q=>to σ H fun x H1=>tyV K T x H1/\t σ H1 fun xs H2=>r x xs H2 Q
variable{o e:Expr}{es:List Expr}{to:TE}{t:TA}{name:Str}{apos cpos:Pos}{T id:String}{r:V->List V->Hp->VK->Prop}
theorem zsb(pa:PlainAttrs T)(slot:Slot T name id)(hty:typeOf (.builtin id)=pure (.type "method_descriptor")) (hm:MtR X id r) (ho:PE X o to) (ha:PA X (e::es) t)
  (hbase:attributeBase o name X.env (eval o X.env)=eval o X.env:=by rfl)
  (hfew:((backTo cpos (starEach (e::es) X.env)).all (fun x=>!x.1)&&(backToKw cpos (keywordEach [] X.env)).all (fun x=>x.1.isSome)
   && decide ((e::es).length+([]:List Keyword).length+(if ([]:List Keyword).isEmpty then 0 else 1)<30))=true:=by rfl)
  (hline:(apos.endLine == cpos.line)=true:=by rfl) (hs:starEach (e::es) X.env=(false,eval e X.env)::starEach es X.env:=by rfl) (hplain:(backTo cpos (starEach es X.env)).any (·.1)=false:=by rfl) :
  PE X (.Call (.Attribute o name apos) (e::es) [] cpos) (tBM X.K T r to t):=by
 intro pins s σ H Q I h;refine wpAny_Call_method_late hbase hfew hline rfl (thn (ho pins s σ H _ I h) fun v s1 ⟨x,H1,I1,r1,ty,q1⟩=>?_)
 obtain⟨h1,h2⟩:=zoy I1 r1 ty;refine⟨T,id,pa,slot,hty,h1,h2,?_⟩;have hA:=ha cpos pins s1 σ H1 _ I1 q1;rw[hs]at hA ⊢;refine Calls.callWith_builtin (by show(false||(backTo cpos (starEach es X.env)).any (·.1))=false;rw[hplain] <;> rfl) (Calls.evalArgs_plain ?_)
 exact thn hA fun us s2 ⟨vs,H2,I2,r2,q2⟩=>hm pins s2 σ H2 x vs v us Q I2 r1 r2 q2
end
def MtM(X:Cx)(id:String)(r:V->List V->Hp->VK->Prop):Prop :=
 ∀(pins:qO) (s:Shared) (σ:St) (H:Hp) (x:V) (xs:List V) (v:Value) (us:List Value) (Q:VK),Inv X pins σ H s->RelV x v->Vals xs us->r x xs H Q ->
  wpAny (model X.prog X.w) X.A (call (.builtin id) (v::us)) (EP X pins σ Q) X.xe s
theorem Vals.one:∀{x:V}{us:List Value},Vals [x] us->∃u,us=[u]/\RelV x u
 | _,_,.cons r .nil=>⟨_,rfl,r⟩
section
variable{X:Cx}{pins:qO}{σ:St}{H:Hp}{s:Shared}{l b:Addr}{xs ys zs:List V}
theorem Inv.lset{its its':List Value}{n:Nat}{f:Array Value->Array Value}{t':Nat}(I:Inv X pins σ H s)(hH:H l=some (.lst xs))
  (e:s.heap.get? l=some { cls:=.type "list",data:=.seq its.toArray n }) (hf:f its.toArray=its'.toArray) (hv:Vals ys its') (hz:ys.length<=sizeLine) :
  Inv X pins σ (upd H l (.lst ys)) { s with heap:=s.heap.update l (Obj.mapSeq f),toks:=t' }:=by
 have q:=PySem.IsL.update e f;rw[hf]at q;refine I.write (x:=l) (e:=l) (by rw[hH];exact trivial) (.inl rfl) (fun b' u hb hu=>(Heap.get?_update_other s.heap (Obj.mapSeq f) (Ne.symm hb)).trans hu) ⟨_,q⟩ ?_
 exact⟨hz,its',_,hv,q⟩
theorem Inv.lnew{its:List Value}{t':Nat}(I:Inv X pins σ H s)(hv:Vals ys its)(hz:ys.length<=sizeLine) :
  Inv X pins σ (upd H s.heap.objs.size (.lst ys)) { s with heap:=s.heap.push { cls:=.type "list",data:=.seq its.toArray },toks:=t' } :=
 I.laid (fun _ _ q=>Heap.get?_push_of_some _ q) (Nat.le_refl _) ⟨hz,its,0,hv,Heap.get?_push_size _ rfl⟩
theorem Inv.fresh(I:Inv X pins σ H s):H s.heap.objs.size=none:=I.hok.fresh (Nat.le_refl _)
theorem Inv.lstM(I:Inv X pins σ H s)(hH:H l=some (.lst xs)):xs.length<=sizeLine/\∃(its:List Value) (n:Nat),Vals xs its/\xs.length=its.length/\s.heap.get? l=some { cls:=.type "list",data:=.seq its.toArray n }:=by
 obtain⟨z,its,n,r,e⟩:=I.hok l _ hH;exact⟨z,its,n,r,r.length,e⟩
end
section
variable{X:Cx}
def zm5:V->List V->Hp->VK->Prop:=fun x vs H Q=>∃l xs y,x=.ref l/\vs=[y]/\H l=some (.lst xs)/\xs.length<sizeLine/\Q .non (upd H l (.lst (xs++[y])))
theorem zgq:MtM X "list.append" zm5:=by
 intro pins s σ H x vs v us Q I rx rv h;obtain⟨l,xs,y,rfl,rfl,hH,hz,q⟩:=h;cases rx;obtain⟨u,rfl,ru⟩:=rv.one;obtain⟨z,its,n,r,hl,e⟩:=I.lstM hH;refine call_meets F.slot_list_append ⟨_,e,rfl⟩ F.entry_list_append (F.args_list_append_2 _ _) (PySem.list_append l its.toArray n u (by rw[List.size_toArray];lia)) ⟨e,?_⟩
 refine⟨.non,_,I.lset (its':=its++[u]) hH e (by simp) (r.append (.cons ru .nil)) ?_,rfl,q⟩
 rw[List.length_append,List.length_singleton];lia
def rCat:R2:=fun x y H Q=>∃l b xs zs,x=.ref l/\y=.ref b/\H l=some (.lst xs)/\H b=some (.lst zs)/\xs.length+zs.length<=sizeLine/\∀p,H p=none->Q (.ref p) (upd H p (.lst (xs++zs)))
theorem zps:OpR X (binaryOp .Add) rCat:=by
 intro pins s σ H x y v u Q I rx ry h;obtain⟨l,b,xs,zs,rfl,rfl,hH,hB,hz,q⟩:=h;cases rx;cases ry;obtain⟨z,its,n,r,hl,e⟩:=I.lstM hH;obtain⟨z2,its2,n2,r2,hl2,e2⟩:=I.lstM hB;refine PySem.P.add_list e e2 ?_ (by rw[List.size_toArray,List.size_toArray];lia)
 have ea:its.toArray++its2.toArray=(its++its2).toArray:=by simp
 rw[ea];exact⟨.ref _,_,I.lnew (t':=s.toks) (r.append r2) (by rw[List.length_append];lia),rfl,q _ I.fresh⟩
end
end L2
namespace Att
open PySem PySem.W PySem.Calls PyProof.Rows
theorem zey{P:Params}{h:Heap}:∀(ns:List Int) (vs:List Value),WellAll P h vs (ns.map WData.int)->IntsAre vs ns:=by
 intro ns;induction ns with
 | nil =>
  intro vs w;rw[List.map_nil]at w;cases w;exact .nil
 | cons n ns ih =>
  intro vs w;rw[List.map_cons]at w;cases w with
  | cons a b =>
   cases a;exact .cons _ _ (ih _ b)
theorem zjq{l:OpenLaw}{n:Nat}(hn:l.most=some n){P:Params}{h:Heap}{args:List WData}{vals:List Value}
  (hpre:l.row.toRowW.claim.pre args=true) (hwl:WellAll P h vals args) :
  ∃a vs ns,vals=[Value.ref a]/\args=[WData.list (ns.map WData.int)]/\h.get? a=some { cls:=.type "list",data:=.seq vs.toArray }/\IntsAre vs ns/\ns.length<=n:=by
 have hsh:WShape.hasAll [] args [.list .int]=true:=(pre_splitW hpre).1;have hc:l.pre.holds [] { args:=args }=true:=(pre_splitW hpre).2;obtain⟨d,r,rfl,h1,h2⟩:=hasAllW_cons hsh;obtain rfl:=hasAllW_nil h2;obtain⟨xs,rfl,h3⟩:=hasW_list h1;obtain⟨ns,rfl⟩:=items_int h3;have hlen:ns.length<=n:=by
  unfold OpenLaw.pre at hc;have h4:(WTm.not (.lt (.lit (.int (n:Int))) (.len (.arg 0)))).holds [] { args:=[.list (ns.map .int)] }=true:=by
   have h4:=(holds_andW hc).1;rw[hn]at h4;exact h4
  have h5:=condW_of h4 (w_not (w_lt w_lit (w_len_list (w_arg rfl))));rw[List.length_map]at h5;refine Nat.le_of_not_lt fun q=>?_
  have q':(n:Int)<((ns.length:Nat):Int):=by lia
  first
   | (rw[decide_eq_true q']at h5;exact absurd h5 (by decide))
   | (simp at h5;lia)
 cases hwl with
 | cons w1 w2 =>
  cases w2;cases w1 with
  | list ho hall=>exact⟨_,_,ns,rfl,rfl,ho,zey ns _ hall,hlen⟩
theorem zjJ(l:OpenLaw)(args:List WData):l.row.toRowW.claim.post args (.bool true) args=true :=
 postW_of (r:=l.row.toRowW) (X:=(true == true))
  (show WShape.has [] (.bool true) .bool=true by first|rfl|decide|simp[WShape.has,WShape.arms,WShape.armsAll])
  (show(WTm.eq .res (.lit (.bool true))).value [] { args:=args,res:=some (.bool true),after:=args }=some (.bool (true == true)) from w_eq_bool (w_res rfl) w_lit) rfl
theorem attach_call{l:OpenLaw}{n:Nat}{q:Program}{loose:List Str}{XP:(Str->Option Value)->Heap->Prop}{YP:World->Heap->Prop}{d:DefRec}
  (hn:l.most=some n) (hdf:d.params.defaults=[])
  (call:∀(w:World) (s₀ s₁:Shared) (mg mb:qM) (fa:Addr) (o:Obj) (pm cd doc:Value) (a:Addr) (vs:List Value) (ns:List Int),
   Ground q loose [] XP w s₀ mg mb s₁.heap->YP w s₁.heap ->
   s₁.heap.get? fa=some o->o.data=.func (docDef d.name d.params d.body d.scope pm cd doc)->s₁.heap.CodeRec cd d.name->mg d.name=some (.ref fa) ->
   s₁.heap.get? a=some { cls:=.type "list",data:=.seq vs.toArray }->IntsAre vs ns->ns.length<=n->s₁.gens=#[] ->
   codeAny (model l.prog w) callerA (.call (.ref fa) ⟨[.ref a],[]⟩) (fun r s'=>r=.ok (.ret (.bool true))/\OldK s₁.heap s'.heap/\s'.os=s₁.os/\AllBare s'.gens) s₁) :
  WalkO q loose XP YP l.row.toRowW d [] (fun f vs=>PySem.call f vs):=by
 intro w s₀ s₁ mg mb G Y fa o pm cd doc dV kV ho hd hcd hD hmg hg args vals as hpre hlay hrd hwl hlo;obtain rfl:dV=.none:=Dflts.none hD hdf;obtain rfl:kV=.none:=Dflts.noKw hD;obtain⟨a,vs,ns,rfl,rfl,hobj,hints,hlen⟩:=zjq hn hpre hwl;refine enter_call (codeAny_mono (call w s₀ s₁ mg mb fa o pm cd doc a vs ns G Y ho (fd_plain hd) hcd hmg hobj hints hlen hg) fun r s' hq=>?_)
 obtain⟨rfl,h2,h3,h4⟩:=hq;exact⟨.inl ⟨.bool true,.bool true,[],rfl,fun _=>rfl,.bool true,zjJ l _,fun _=>⟨List.Pairwise.nil,fun _ hm=>(nomatch hm)⟩⟩,h2,h3,h4⟩
end Att
namespace L2
open PySem PySem.Spec PyProof.Rows
theorem zfX:∀{vs:List Value}{ns:List Int},IntsAre vs ns->Vals (ns.map V.int) vs
 | _,_,.nil=>.nil
 | _,_,.cons n t h=>.cons ⟨t,rfl⟩ (zfX h)
def Only(H:Hp):Prop:=∀b,H b=none\/∃o xs,H b=some (.frz o (.lst xs))
theorem zlS{P:Program}{w:World}{K:qF}{mg mb:qM}{CX:CXT}{k:Nat}{fa a:Addr}{fd:FuncData}{x:Str}{sp:Sp}{s₁:Shared}{vs:List Value}{ns:List Int}
  (KX:K.In s₁.heap) (hns:s₁.heap.Ns mainGlobals mg) (hb:s₁.heap.Ns builtinsNs mb) (hbb:∀x:Str,x ≠ "__name__" -> mb x=bootBuiltins x) (hlim:s₁.heap.NoLimit) (hg:s₁.gens=#[])
  (ha:s₁.heap.get? a=some { cls:=.type "list",data:=.seq vs.toArray }) (hi:IntsAre vs ns) (hl:ns.length<=sizeLine) (hr:Room k callerA)
  (F:∀base:Heap,K.In base->base.Ns mainGlobals mg->FnOk P w K mg base CX k fa fd [x] sp) (hbind:∀(s:Shared) (u:Value),BindsTo s fd ⟨[u],[]⟩ [(x,u)])
  (hsp:∀H:Hp,Only H->SqL K H a (ns.map V.int)->sp [.ref a] H (fun v _=>v=.bl true) fun _ _ _=>False)
  (hCX:∀H e s',CX [] H s₁ (fun _ _ _=>False) e s'->False) :
  codeAny (model P w) callerA (.call (.ref fa) ⟨[.ref a],[]⟩) (fun r s'=>r=.ok (.ret (.bool true))/\OldK s₁.heap s'.heap/\s'.os=s₁.os/\AllBare s'.gens) s₁:=by
 have rv:=zfX hi;have lenV:=hi.length;have core:∀H:Hp,Only H->SqL K H a (ns.map V.int)->HOk P w H s₁.heap->(∀b,H b≠none->b=a)->(H a≠none->K.lookup a=none) ->
   codeAny (model P w) callerA (.call (.ref fa) ⟨[.ref a],[]⟩) (fun r s'=>r=.ok (.ret (.bool true))/\OldK s₁.heap s'.heap/\s'.os=s₁.os/\AllBare s'.gens) s₁:=by
  intro H hO hS hok hA hK;have base_of:∀{b:Addr} {o:Obj},s₁.heap.get? b=some o->H b=none->(hidT s₁.heap H).get? b=some o:=fun e n=>zl5 e n
  have noA:∀{b:Addr} {o:Obj} {es:Array DictEntry} {ep:Nat},s₁.heap.get? b=some o->o.data=.dict es ep->H b=none:=fun {b o es ep} e d=>by
   cases q:H b with
   | none=>rfl
   | some u =>
    have e':b=a:=hA b (by rw[q];simp)
    subst e';rw[ha]at e;cases e;have d':Data.seq vs.toArray _=Data.dict es ep:=d;cases d'
  have nsK:∀{b:Addr} {m:qM},s₁.heap.Ns b m->(hidT s₁.heap H).Ns b m:=fun {b m} ⟨o,es,ep,e,d,r⟩=>⟨o,es,ep,base_of e (noA e d),d,r⟩
  have hKb:K.In (hidT s₁.heap H):=fun b o e=>base_of (KX b o e) (by
   cases q:H b with
   | none=>rfl
   | some u =>
    have e':b=a:=hA b (by rw[q];simp)
    subst e';rw[hK (by rw[q];simp)]at e;cases e)
  have hM:Mod K mg (hidT s₁.heap H):=⟨hKb,nsK hns,⟨mb,nsK hb,hbb⟩,let ⟨mc,h1,h2⟩:=hlim;⟨mc,nsK h1,h2⟩⟩
  have e0:Env0 P w K mg (hidT s₁.heap H) callerA [] s₁ H:=⟨rfl,hM,fun b o e=>znw e,Nat.le_of_eq (zkh _ _),trivial,fun b hb=>absurd (show b∈([]:List Addr) from hb) (by simp),hok,.of_eq hg⟩
  refine codeAny_mono ((F _ hKb (nsK hns)).run callerA [] s₁ H ⟨[.ref a],[]⟩ [.ref a] [.ref a] _ _ hr e0 (hbind s₁ (.ref a)) (.cons rfl .nil) (hsp H hO hS)) fun r s' h=>?_
  cases r with
  | error e=>exact(hCX H e s' h).elim
  | ok fl =>
   cases fl with
   | next=>exact False.elim h
   | brk=>exact False.elim h
   | cont=>exact False.elim h
   | ret u =>
    obtain⟨v,H',os,bare,un,hok',r',q⟩:=h;have q':v=.bl true:=q;subst q';obtain rfl:u=Value.bool true:=r';refine⟨rfl,OldK.of_keep fun b o e=>?_,os,bare⟩
    cases q:H b with
    | none=>exact un.keep b o e q (by intro z;exact absurd (show b∈([]:List Addr) from z) (by simp)) (by simp)
    | some u =>
     rcases hO b with z|⟨ob,xs,z⟩
     ·rw[q]at z;cases z
     ·have z2:=un.frzs b ob _ z;obtain⟨e1,_⟩:=hok b _ z;obtain⟨e2,_⟩:=hok' b _ z2;rw[e]at e1;cases e1;exact e2
 cases hk:K.lookup a with
 | some o =>
  have e:=KX a o hk;rw[ha]at e;cases e;refine core (fun _=>none) (fun _=>.inl rfl) (.inr ⟨_,vs.toArray,_,hk,rfl,rfl,rfl,by rw[List.size_toArray,lenV];exact hl,by simpa using rv⟩) (fun b u z=>by have z':(none:Option HO)=some u:=z;cases z') (fun b z=>absurd rfl z) fun z=>absurd rfl z
 | none =>
  refine core (fun b=>if b=a then some (.frz { cls:=.type "list",data:=.seq vs.toArray } (.lst (ns.map V.int))) else none) (fun b=>?_) (.inl (.inr ⟨{ cls:=.type "list",data:=.seq vs.toArray },if_pos rfl⟩)) (fun b u z=>?_) (fun b z=>?_) fun _=>hk
  ·by_cases hb:b=a
   ·exact .inr ⟨_,_,if_pos hb⟩
   ·exact .inl (if_neg hb)
  ·by_cases hb:b=a
   ·have z':=(if_pos hb).symm.trans z;cases z';subst hb;exact⟨ha,by rw[List.length_map];exact hl,vs,_,rv,ha⟩
   ·have z':=(if_neg hb).symm.trans z;cases z'
  ·by_cases hb:b=a
   ·exact hb
   ·exact absurd (if_neg hb) z
def QC(s:Stmt):Arguments:=match s with
 | .FunctionDef _ a _ _ _ _ _ _ _ _=>a
 | _=>{ posonlyargs:=[],args:=[],vararg:=none,kwonlyargs:=[],kw_defaults:=[],kwarg:=none,defaults:=[] }
def Qi(s:Stmt):List Stmt:=match s with
 | .FunctionDef _ _ b _ _ _ _ _ _ _=>b
 | _=>[]
def Jl(s:Stmt):Scope:=match s with
 | .FunctionDef _ _ _ _ _ _ sc _ _ _=>sc
 | _=>{ kind:=.function,names:=[],isGenerator:=false,isCoroutine:=false }
abbrev CX0:CXT:=fun _ _ _ _ _ _=>False
abbrev E0:XK:=fun _ _ _=>False
theorem zsd{X:Cx}:zkV CX0 X E0:=fun _ _ _ _ _ _ _ h=>h.elim
structure Fun(K:qF)(x qual:Str)(st:Stmt)(f:Addr)(fd:FuncData):Prop where
 ex:∃(oc:Value) (od:Option Addr) (kV doc pm:Value) (an:Option Addr) (cdv ct:Value) (osl:Array (Option Value)),
  fd=PySem.W.fnOf x qual (QC st) (Qi st) (Jl st) .none kV doc pm an cdv ct/\K.lookup f=some ⟨oc,od,.func fd,osl⟩/\PySem.W.codeIn K cdv qual=true
 kp:PySem.W.keepIn K (.ref f)=true
section
variable{P:Program}{w:World}{K:qF}{mg:qM}{base:Heap}
theorem Fun.ok{x qual:Str}{st:Stmt}{f:Addr}{fd:FuncData}{N ps:List Str}{k:Nat}{sp:Sp}(F:Fun K x qual st f fd)(S:FnScope N ps (Jl st))(len:∀vs H Q E,sp vs H Q E->vs.length=ps.length)
  (hbody:∀(cdv:Value) (A:Around) (outer:List Env) (s:Shared) (H:Hp) (vs:List V) (Q:VK) (E:XK),Room k (A.deeper (envOfC qual (Jl st) s.heap.objs.size f cdv))->sp vs H Q E ->
   ∃t,PSs (cxOf CX0 P w K mg base N qual (Jl st) f cdv A outer s H E).nox (Qi st) t/\t { nx:=fun _ H'=>Q .non H',rt:=Q } (start N vs) H):FnOk P w K mg base CX0 (k+1) f fd ps sp:=by
 obtain⟨oc,od,kV,doc,pm,an,cdv,ct,osl,rfl,lk,hcd⟩:=F.ex;refine zsS lk hcd S len fun A outer s H vs Q E hr hsp=>?_
 obtain⟨t,h,q⟩:=hbody cdv A outer s H vs Q E hr hsp;exact⟨t,h.nox,q⟩
theorem Fun.binds{x qual:Str}{st:Stmt}{f:Addr}{fd:FuncData}{ps:List Str}(F:Fun K x qual st f fd)
  (h:∀(kV doc pm:Value) (an:Option Addr) (cdv ct:Value) (us:List Value),us.length=ps.length->bindArgs (PySem.W.fnOf x qual (QC st) (Qi st) (Jl st) .none kV doc pm an cdv ct) ⟨us,[]⟩=pure (ps.zip us)):Binds K fd ps []:=by
 obtain⟨oc,od,kV,doc,pm,an,cdv,ct,osl,rfl,lk,hcd⟩:=F.ex;exact .all (h kV doc pm an cdv ct)
theorem zmJ{x qual:Str}{st:Stmt}{f:Addr}{oc:Value}{od an:Option Addr}{osl:Array (Option Value)}{kV doc pm cdv ct:Value}(l:K.lookup f=some ⟨oc,od,.func (PySem.W.fnOf x qual (QC st) (Qi st) (Jl st) .none kV doc pm an cdv ct),osl⟩)
  (c:PySem.W.codeIn K cdv qual=true) (k:PySem.W.keepIn K (.ref f)=true):Fun K x qual st f (PySem.W.fnOf x qual (QC st) (Qi st) (Jl st) .none kV doc pm an cdv ct):=⟨⟨oc,od,kV,doc,pm,an,cdv,ct,osl,rfl,l,c⟩,k⟩
end
section
variable{X:Cx}
theorem pv(i:Nat){x:Str}{pos:Pos}(hN:X.N[i]?=some x:=by rfl)(hv:Vis X.env.scope x:=by walk_at "V")(hd:(x == ("__debug__":Str))=false:=by decide)
  (hcd:(x == ("__classdict__":Str))=false:=by decide):PE X (.Name x pos) (tVar i):=U9 hN hv hd hcd
end
theorem iteF{A B:Prop}(h:B):if false=true then A else B:=by
 rw[if_neg Bool.false_ne_true];exact h
theorem iteT{A B:Prop}(h:A):if true=true then A else B:=by
 rw[if_pos rfl];exact h
def Same(H H':Hp):Prop:=∀b o,H b=some o->H' b=some o
theorem Same.refl(H:Hp):Same H H:=fun _ _ h=>h
def closed(env:Env):List (Str×NameKind)->List (Str×Addr)->List (Str×Addr)
 | [],acc=>acc
 | (n,k)::r,acc=>closed env r (if (k == .free)=true then(n,(env.cells.lookup n).getD 0)::acc else acc)
theorem zeL{env:Env}:∀(l:List (Str×NameKind)) (acc:List (Str×Addr)),(∀x∈l,x.2=.free->∃c,env.cells.lookup x.1=some c) ->
  (forIn l acc fun x __s=>if (x.snd == NameKind.free)=true then do
    let c <- cellOf env x.fst
    pure (ForInStep.yield ((x.fst,c)::__s))
   else pure (ForInStep.yield __s):Sem (List (Str×Addr)))=pure (closed env l acc)
 | [],acc,_=>rfl
 | (n,k)::r,acc,h=>by
  have ih:=fun a=>zeL (env:=env) r a fun x hx=>h x (List.mem_cons_of_mem _ hx)
  rw[List.forIn_cons]
  by_cases e:(k == NameKind.free)=true
  ·obtain⟨c,hc⟩:=h (n,k) List.mem_cons_self (by simpa using e)
   have hc':List.lookup n env.cells=some c:=hc;have e2:cellOf env n=pure c:=by unfold cellOf;rw[hc']
   simp only[e,if_true,e2,pure_bind];rw[ih]
   conv=>rhs;unfold closed
   simp only[e,if_true,hc',Option.getD_some]
  ·have e0:(k == NameKind.free)=false:=by simpa using e
   simp only[e0,Bool.false_eq_true,if_false,pure_bind];rw[ih]
   conv=>rhs;unfold closed
   simp only[e0,Bool.false_eq_true,if_false]
theorem zcd{scope:Scope}{env:Env}(h:∀x∈scope.names,x.2=.free->∃c,env.cells.lookup x.1=some c):closureFor scope env=pure (closed env scope.names []):=by
 simp only[closureFor];rw[zeL scope.names [] h]
 rfl
theorem ZY{env:Env}:∀(l:List (Str×NameKind)) (acc:List (Str×Addr)),(∀x∈l,x.2=.free->∃c,env.cells.lookup x.1=some c) ->
  (∀x c,acc.lookup x=some c->env.cells.lookup x=some c)->∀x c,(closed env l acc).lookup x=some c->env.cells.lookup x=some c
 | [],acc,_,ha=>ha
 | (n,k)::r,acc,h,ha=>by
  unfold closed;refine ZY r _ (fun x hx=>h x (List.mem_cons_of_mem _ hx)) fun x c=>?_
  by_cases e:(k == NameKind.free)=true
  ·obtain⟨d,hd⟩:=h (n,k) List.mem_cons_self (by simpa using e)
   have hd':List.lookup n env.cells=some d:=hd;simp only[e,if_true,hd',Option.getD_some];intro q;rw[List.lookup_cons]at q
   by_cases ex:(x == n)=true
   ·simp only[ex]at q;have ex':x=n:=by simpa using ex
    cases q;rw[ex'];exact hd'
   ·have ex2:(x == n)=false:=by simpa using ex
    simp only[ex2]at q;exact ha x c q
  ·have e0:(k == NameKind.free)=false:=by simpa using e
   simp only[e0,Bool.false_eq_true,if_false];exact ha x c
theorem zfk{env:Env}:∀(l:List (Str×NameKind)) (acc:List (Str×Addr)) (x:Str),(∃c,acc.lookup x=some c)->∃c,(closed env l acc).lookup x=some c
 | [],_,_,h=>h
 | (n,k)::r,acc,x,h=>by
  unfold closed;refine zfk r _ x ?_
  by_cases e:(k == NameKind.free)=true
  ·simp only[e,if_true];rw[List.lookup_cons];cases(x == n) with
   | true=>exact⟨_,rfl⟩
   | false=>exact h
  ·have e0:(k == NameKind.free)=false:=by simpa using e
   simp only[e0,Bool.false_eq_true,if_false];exact h
theorem zdA{env:Env}:∀(l:List (Str×NameKind)) (acc:List (Str×Addr)) (x:Str),(x,NameKind.free)∈l->∃c,(closed env l acc).lookup x=some c
 | [],_,_,h=>nomatch h
 | (n,k)::r,acc,x,h=>by
  unfold closed;rcases List.mem_cons.mp h with e|h
  ·cases e;refine zfk r _ _ ?_;have hh:(NameKind.free == NameKind.free)=true:=rfl;simp only[hh,if_true];rw[List.lookup_cons];simp
  ·exact zdA r _ x h
theorem lookup_mem{α:Type}{l:List (Str×α)}{x:Str}{v:α}(h:l.lookup x=some v):(x,v)∈l:=by
 induction l with
 | nil=>simp at h
 | cons p r ih =>
  obtain⟨n,w⟩:=p;rw[List.lookup_cons]at h
  by_cases e:(x == n)=true
  ·simp only[e]at h;cases h;have e':x=n:=by simpa using e
   rw[e'];exact List.mem_cons_self
  ·have e2:(x == n)=false:=by simpa using e
   simp only[e2]at h;exact List.mem_cons_of_mem _ (ih h)
def Us(env:Env)(p:Str×NameKind):Str×NameKind:=if (p.2 == NameKind.free&&env.scope.kind == .function&&env.kindOf p.1 == some .cell)=true then(p.1,.cell) else p
theorem zjB(env:Env)(p:Str×NameKind):(Us env p).1=p.1:=by
 unfold Us
 by_cases c:(p.2 == NameKind.free&&env.scope.kind == .function&&env.kindOf p.1 == some .cell)=true
 ·rw[if_pos c]
 ·rw[if_neg c]
def kin(env:Env)(x:Str):Option NameKind->Option NameKind
 | some .free=>if (env.scope.kind == .function&&env.kindOf x == some .cell)=true then some .cell else some .free
 | o=>o
theorem zjA(env:Env)(x:Str)(k:NameKind):some (Us env (x,k)).2=kin env x (some k):=by
 unfold Us
 by_cases c:(k == NameKind.free&&env.scope.kind == .function&&env.kindOf x == some .cell)=true
 ·rw[if_pos c];rw[Bool.and_eq_true,Bool.and_eq_true]at c;have k':k=.free:=by simpa using c.1.1
  subst k';unfold kin;rw[if_pos (by rw[Bool.and_eq_true];exact⟨c.1.2,c.2⟩)]
 ·rw[if_neg c];cases k with
  | free =>
   have:¬(env.scope.kind == .function&&env.kindOf x == some .cell)=true:=fun z=>c (by
    have hh:(NameKind.free == NameKind.free)=true:=rfl;rw[hh,Bool.true_and];exact z)
   unfold kin;rw[if_neg this]
  | _=>rfl
theorem zfu(scope:Scope)(env:Env):(relabel scope env).names=scope.names.map (Us env):=by
 show scope.names.map _=_
 refine List.map_congr_left fun p _=>?_
 obtain⟨n,k⟩:=p
 rfl
theorem ze3(env:Env):∀(l:List (Str×NameKind)) (x:Str),(l.map (Us env)).lookup x=kin env x (l.lookup x)
 | [],_=>rfl
 | (n,k)::r,x=>by
  have ih:=ze3 env r x;have e0:Us env (n,k)=(n,(Us env (n,k)).2):=Prod.ext (zjB env (n,k)) rfl;rw[List.map_cons,e0,List.lookup_cons,List.lookup_cons]
  by_cases e:(x == n)=true
  ·have e':x=n:=by simpa using e
   subst e';simp only[beq_self_eq_true];exact zjA env x k
  ·have e2:(x == n)=false:=by simpa using e
   simp only[e2];exact ih
theorem zdD(scope:Scope)(env:Env)(x:Str):(relabel scope env).names.lookup x=kin env x (scope.names.lookup x):=by
 rw[zfu];exact ze3 env _ x
abbrev capN(X:Cx)(capt:List Nat):List Str:=capt.map fun i=>X.N.getD i Str.empty
abbrev capS(capt:List Nat)(σ:St):St:=capt.map fun i=>σ.getD i none
abbrev JS(own:List Str):St:=own.map fun _=>none
abbrev Jv(X:Cx)(scope:Scope)(own:List Str)(capt:List Nat)(C:Addr)(s₀:Shared)(H₀:Hp)(fp:List Addr):Cx :=
 { X with N:=own++capN X capt,s₀:=s₀,H₀:=H₀,env:=compEnvC scope (closed X.env scope.names []) C X.env,outer:=X.stack,stack:=X.stack,ex:=fp,fn:=fun _=>false,pn:=[],xe:=fun _ _=>False }
structure CompScope(scope:Scope)(own:List Str)(capt:List Nat)(X:Cx):Prop where
 kind:scope.kind=.function
 nocell:∀y∈scope.names,y.2≠.cell
 names:∀y∈scope.names,y.2=.local->scope.names.lookup y.1=some .local
 frees:∀y∈scope.names,y.2=.free->X.env.kindOf y.1=some .cell\/X.env.kindOf y.1=some .free
 caps:∀k∈capt,scope.names.lookup (X.N.getD k Str.empty)=some .free
theorem getD_some{α:Type}{l:List (Option α)}{k:Nat}{v:α}(h:l.getD k none=some v):l[k]?=some (some v):=by
 rw[List.getD_eq_getElem?_getD]at h;cases e:l[k]? with
 | none=>rw[e]at h;cases h
 | some o=>rw[e]at h;simp at h;rw[h]
section
variable{X:Cx}{scope:Scope}{own:List Str}{capt:List Nat}
theorem CompScope.cells(S:CompScope scope own capt X)(ok:X.Ok):∀x∈scope.names,x.2=.free->∃c,X.env.cells.lookup x.1=some c:=fun x hx hf=>ok.has x.1 (S.frees x hx hf)
theorem zoe{pins:qO}{σ:St}{H₀:Hp}{s₀:Shared}{C:Addr}{fp:List Addr}(S:CompScope scope own capt X)(I:Inv X pins σ H₀ s₀)(hf:∀b∈fp,FpOk X pins H₀ b)(hfp:∀b∈fp,b<s₀.heap.objs.size)(hC:s₀.heap.objs.size<=C) :
  (Jv X scope own capt C s₀ H₀ fp).Ok:=by
 have sub:=ZY scope.names [] (S.cells I.ok) (fun x c h=>nomatch (show(none:Option Addr)=some c from h))
 refine⟨I.ok.mod,S.kind,I.ok.glob,I.ok.blt,hC,fun x y c h1 h2=>I.ok.inj x y c (sub x c h1) (sub y c h2),fun x hk=>?_,fun x c z=>absurd (show false=true from z) Bool.false_ne_true,I.ok.hd,I.ok.frames,.inl rfl,fun b hb=>?_,I.bs,Nat.le_trans I.ok.bsz I.sz,fun b o e hb=>?_,fun b hb z=>?_,I.stack,I.stkFree⟩
 ·have e:=zdD scope X.env x;have hk':(relabel scope X.env).names.lookup x=some .cell\/(relabel scope X.env).names.lookup x=some .free:=hk;rw[e]at hk';cases q:scope.names.lookup x with
  | none=>rw[q]at hk';rcases hk' with z|z <;> cases z
  | some k =>
   rw[q]at hk';cases k with
   | free=>exact zdA scope.names [] x (lookup_mem q)
   | cell=>exact absurd rfl (S.nocell _ (lookup_mem q))
   | _=>rcases hk' with z|z <;> cases z
 ·obtain⟨f0,f1,f2,f3,f4,f5⟩:=hf b hb;exact⟨Nat.ne_of_lt (Nat.lt_of_lt_of_le (hfp b hb) hC),fun x c e=>f4 x c (sub x c e)⟩
 ·obtain⟨f0,f1,f2,f3,f4,f5⟩:=hf b hb;rcases f3 with z|z
  ·exact I.ok.noex b o e z
  ·exact absurd (Nat.lt_of_lt_of_le (Heap.lt_size (I.ok.bs b o e).1) z) (Nat.lt_irrefl _)
 ·obtain⟨f0,f1,f2,f3,f4,f5⟩:=hf b hb;rcases List.mem_cons.mp (I.stkSub b z) with q|q
  ·exact f1 q
  ·exact f2 q
theorem zkF{ho':HO}{pins:qO}{σ:St}{H₀:Hp}{s₀:Shared}{fp:List Addr}{h':Heap}{D C:Addr}{tk:Nat}(S:CompScope scope own capt X)(I:Inv X pins σ H₀ s₀)(hf:∀b∈fp,FpOk X pins H₀ b)(hfp:∀b∈fp,b<s₀.heap.objs.size)
  (hD:s₀.heap.objs.size<=D) (hC:s₀.heap.objs.size<=C) (hDC:D≠C) (old:∀b o,s₀.heap.get? b=some o->h'.get? b=some o) (hns:h'.Ns C (fun _=>none)) (ho:JM X.prog X.w (upd H₀ D ho') h' D ho') :
  Inv (Jv X scope own capt C s₀ H₀ fp) [] (JS own++capS capt σ) (upd H₀ D ho') { s₀ with heap:=h',toks:=tk }:=by
 have ok:=zoe S I hf hfp hC;have sub:=ZY scope.names [] (S.cells I.ok) (fun x c h=>nomatch (show(none:Option Addr)=some c from h))
 have hn:H₀ D=none:=I.hok.fresh hD;refine⟨ok,rfl,I.bare,Un.laid old hD hn,⟨_,hns,fun i x v e1 e2 e3=>?_⟩,fun x c e=>?_,?_,fun x c e=>?_,fun p hp=>absurd (show p∈([]:qO) from hp) (by simp),I.hok.laid (o:=ho') old hD ho,(by show(JS own++capS capt σ).length=(own++capN X capt).length;simp[JS,capS,capN])⟩
 ·have hlen:(JS own).length=own.length:=List.length_map ..
  by_cases hi:i<own.length
  ·rw[List.getElem?_append_left (by rw[hlen];exact hi)]at e2
   unfold JS at e2;rw[List.getElem?_map]at e2;cases q:own[i]? with
   | none=>rw[q]at e2;cases e2
   | some z=>rw[q]at e2;cases e2
  ·have hi':own.length<=i:=Nat.le_of_not_lt hi;have e1':(own++capN X capt)[i]?=some x:=e1;rw[List.getElem?_append_right hi']at e1';rw[List.getElem?_append_right (by rw[hlen];exact hi'),hlen]at e2
   unfold capN at e1';unfold capS at e2;rw[List.getElem?_map]at e1' e2;cases q:capt[i - own.length]? with
   | none=>rw[q]at e1';cases e1'
   | some k =>
    rw[q]at e1' e2;have ex:X.N.getD k Str.empty=x:=Option.some.inj e1';have ev:σ.getD k none=some v:=Option.some.inj e2;have hk:k∈capt:=List.mem_of_getElem? q;have hv:=getD_some ev;have hlt:k<X.N.length:=by
     rw[<- I.len];exact(List.getElem?_eq_some_iff.mp hv).1
    have hx:X.N[k]?=some x:=by
     rw[List.getD_eq_getElem?_getD,List.getElem?_eq_getElem hlt]at ex;rw[List.getElem?_eq_getElem hlt];exact congrArg some ex
    have hfree:=S.caps k hk;rw[ex]at hfree;have hkind:=S.frees _ (lookup_mem hfree) rfl;obtain⟨m,hm,hl⟩:=I.loc;have vis:Vis X.env.scope x:=by
     rcases hkind with z|z
     ·exact .inr (.inl z)
     ·exact .inr (.inr z)
    obtain⟨u,r,l⟩:=hl k x v hx hv vis;refine⟨u,r,.inr ⟨?_,?_⟩⟩
    ·have e:=zdD scope X.env x;rw[hfree]at e;show(relabel scope X.env).names.lookup x=some .cell\/(relabel scope X.env).names.lookup x=some .free
     rw[e];unfold kin
     by_cases c:(X.env.scope.kind == .function&&X.env.kindOf x == some .cell)=true
     ·rw[if_pos c];exact .inl rfl
     ·rw[if_neg c];exact .inr rfl
    ·rcases l with⟨z,_⟩|⟨_,c,hc,hcell⟩
     ·rcases hkind with y|y <;> (have y':X.env.kindOf x=_:=y;rw[z]at y';cases y')
     ·obtain⟨d,hd⟩:=zdA (env:=X.env) scope.names [] x (lookup_mem hfree);have:=sub x d hd;rw[hc]at this;cases this;obtain⟨o,ho,hod⟩:=hcell;exact⟨c,hd,o,old _ _ ho,hod⟩
 ·obtain⟨v,o,ho,hd⟩:=I.cell x c (sub x c e);exact⟨v,o,old _ _ ho,hd⟩
 ·show upd H₀ D ho' C=none
  rw[Jy (Ne.symm hDC)];exact I.hok.fresh hC
 ·obtain⟨v,o,ho,hd⟩:=I.cell x c (sub x c e);show upd H₀ D ho' c=none
  rw[Jy (Nat.ne_of_lt (Nat.lt_of_lt_of_le (Heap.lt_size ho) hD))];exact I.freeC x c (sub x c e)
theorem zmk{pins:qO}{σ:St}{H₀:Hp}{s₀:Shared}{fp:List Addr}{h':Heap}{D C:Addr}{tk:Nat}(S:CompScope scope own capt X)(I:Inv X pins σ H₀ s₀)(hf:∀b∈fp,FpOk X pins H₀ b)(hfp:∀b∈fp,b<s₀.heap.objs.size)
  (hD:s₀.heap.objs.size<=D) (hC:s₀.heap.objs.size<=C) (hDC:D≠C) (old:∀b o,s₀.heap.get? b=some o->h'.get? b=some o) (hns:h'.Ns C (fun _=>none)) (hacc:h'.get? D=some { cls:=.type "list",data:=.seq ([]:List Value).toArray 0 }) :
  Inv (Jv X scope own capt C s₀ H₀ fp) [] (JS own++capS capt σ) (upd H₀ D (.lst [])) { s₀ with heap:=h',toks:=tk }:=zkF S I hf hfp hD hC hDC old hns ⟨Nat.zero_le _,[],0,.nil,hacc⟩
theorem zmj{pins pins':qO}{σ σ':St}{H₀ H':Hp}{s₀ s':Shared}{fp:List Addr}{h'':Heap}{C:Addr}(I:Inv X pins σ H₀ s₀)(hf:∀b∈fp,FpOk X pins H₀ b)(hC:s₀.heap.objs.size<=C)
  (J:Inv (Jv X scope own capt C s₀ H₀ fp) pins' σ' H' s') (sb:Heap.SameBut C s'.heap h''):Inv X pins σ H' { s' with heap:=h'' }:=by
 have hCn:H' C=none:=J.free;have neC:∀b o,s₀.heap.get? b=some o->b≠C:=fun b o e=>Nat.ne_of_lt (Nat.lt_of_lt_of_le (Heap.lt_size e) hC)
 have u:Un (frs X.stack) fp H₀ H' s₀.heap s'.heap:=J.base;have u2:Un (frs X.stack) fp H₀ H' s₀.heap h'':=by
  refine⟨fun b o q n h1 h2=>(sb.2 b (neC b o q)).trans (u.keep b o q n h1 h2),fun b o q n h1 h2=>?_,u.free,fun b o q h2=>?_,u.tups,u.frzs,u.tbls⟩
  ·obtain⟨sl,e⟩:=u.slot b o q n h1 h2;exact⟨sl,(sb.2 b (neC b o q)).trans e⟩
  ·obtain⟨o',e⟩:=u.there b o q h2;exact⟨o',(sb.2 b (neC b o q)).trans e⟩
 have hok:HOk X.prog X.w H' h'':=fun b ob e=>by
  refine(J.hok b ob e).stay (fun c v hc q=>(sb.2 c ?_).trans q) (fun _ q=>q) fun _ _ q=>q
  rintro rfl;rcases hc with z|z
  ·subst z;rw[hCn]at e;cases e
  ·rw[hCn]at z;cases z
 refine I.call' (s':={ s' with heap:=h'' }) J.os u2 hok J.bare fun b hb=>?_
 obtain⟨f0,f1,f2,f3,f4,f5⟩:=hf b hb;exact⟨f3,f1,f4,f5⟩
end
def PTs(Y:Cx)(ifs:List Expr)(t:TT):Prop :=
 ∀(pins:qO) (s:Shared) (σ:St) (H:Hp) (Q:Bool->Hp->Prop),Inv Y pins σ H s->t σ H Q ->
  wpAny (model Y.prog Y.w) Y.A (forIn ifs true fun c r=>if r=true then do let ok <- isTrue c Y.env (eval c Y.env);pure (ForInStep.yield ok) else pure (ForInStep.yield r)) (TP Y pins σ Q) Y.xe s
def tYes:TT:=fun _ H Q=>Q true H
theorem zm8{Y:Cx}:PTs Y [] tYes:=fun _ _ _ H _ I h=>wpAny_tests_nil ⟨H,I,h⟩
theorem zm7{Y:Cx}{c:Expr}{t:TT}(h:PT Y c t):PTs Y [c] t:=fun pins s σ H Q I q=>wpAny_tests_one (h pins s σ H Q I q)
abbrev NoX:Value->Shared->Prop:=fun _ _=>False
theorem zi5{prog:Program}{w:World}{A:Around}{R:Result->Shared->Prop}{s:Shared}{elt target iter:Expr}{ifs:List Expr}{scope:Scope}{pos:Pos}{it acc:Value}{env:Env}(I:Nat->Shared->Prop)
  (turn:∀n s,I n s->wpAny (model prog w) A (pyNext it) (fun r s₁=>match r with
   | none=>R (.ok .next) s₁
   | some v=>wpAny (model prog w) A (letOwnedTupleGo target it v) (fun _ s₂=>wpAny (model prog w) A (assign target env v) (fun _ s₃ =>
     wpAny (model prog w) A (forIn ifs true fun c r=>if r=true then do let ok <- isTrue c env (eval c env);pure (ForInStep.yield ok) else pure (ForInStep.yield r)) (fun ok s₄ =>
      if ok=true then wpAny (model prog w) A (eval elt env) (fun x s₅=>wpAny (model prog w) A (call (.builtin "list.append") [acc,x]) (fun _ s₆=>∃m,m<n/\I m s₆) NoX s₅) NoX s₄
      else ∃m,m<n/\I m s₄) NoX s₃) NoX s₂) NoX s₁) NoX s) (n:Nat) (h:I n s) :
  codeAny (model prog w) A (.compLoop (.ListComp elt [⟨target,iter,ifs,0⟩] scope pos) 0 it acc env) R s:=by
 refine codeAny_loop rfl I (fun n s hI=>?_) n h
 show wpAny _ A ((compTurn (.ListComp elt [⟨target,iter,ifs,0⟩] scope pos) 0 it acc env).onRaise (fun x=>do noteFrame x env;theTreesLotGoes x)) _ _ s
 refine wpAny_noted (wpAny_mono (E:=NoX) ?_ (fun _ _ q=>q) fun _ _ z=>False.elim z)
 rw[compTurn_list];refine wpAny_bind (wpAny_standAt (wpAny_bind (thn (turn n s hI) fun r s₁ h₁=>?_)))
 cases r with
 | none=>exact wpAny_pure h₁
 | some v =>
  refine wpAny_bind (thn h₁ fun _ s₂ h₂=>wpAny_bind (thn h₂ fun _ s₃ h₃=>wpAny_bind (thn h₃ fun ok s₄ h₄=>?_)))
  cases ok with
  | false=>exact wpAny_pure ⟨rfl,h₄⟩
  | true =>
   refine wpAny_bind (wpAny_bind (thn h₄ fun x s₅ h₅=>wpAny_bind (thn h₅ fun _ s₆ h₆=>?_)))
   exact wpAny_pure (wpAny_pure ⟨rfl,h₆⟩)
def Wk:St->St->Prop
 | [],[]=>True
 | none::r,_::r'=>Wk r r'
 | some v::r,o::r'=>o=some v/\Wk r r'
 | _,_=>False
theorem Wk.weak:∀{σ σ':St},Wk σ σ'->σ.length=σ'.length/\∀(i:Nat) v,σ[i]?=some (some v)->σ'[i]?=some (some v)
 | [],[],_=>⟨rfl,fun _ _ h=>by simp at h⟩
 | none::r,o::r',h=>by
  obtain⟨a,b⟩:=Wk.weak (σ:=r) (σ':=r') h;refine⟨by simp[a],fun i v e=>?_⟩
  cases i with
  | zero=>simp at e
  | succ i=>simpa using b i v (by simpa using e)
 | some w::r,o::r',h=>by
  obtain⟨h0,h1⟩:o=some w/\Wk r r':=h;obtain⟨a,b⟩:=Wk.weak h1;refine⟨by simp[a],fun i v e=>?_⟩
  cases i with
  | zero=>rw[h0];simpa using e
  | succ i=>simpa using b i v (by simpa using e)
 | none::_,[],h=>False.elim h
 | some _::_,[],h=>False.elim h
 | [],_::_,h=>False.elim h
def zon(own:List Str)(capt:List Nat)(g:TG)(tt:TT)(te:TE)(σ:St)(J:It)(H1:Hp)(D:Addr)(Q:VK):Prop:=∃W:Nat->Nat->Hp->Prop,(∃m,W 0 m (upd H1 D (.lst [])))/\∀i m H2,W i m H2 ->
 (J.stop i H2/\Q (.ref D) H2)\/(J.go i H2/\∃(N:V->Hp->Prop) (N':Hp->Prop),(∀v H6,N v H6->∃ys,H6 D=some (.lst ys)/\ys.length<sizeLine/\∃m',m'<m/\W (i+1) m' (upd H6 D (.lst (ys++[v]))))/\(∀H5,N' H5->∃m',m'<m/\W (i+1) m' H5) /\
  ∀x H3,J.yld i H2 x H3->g x (JS own++capS capt σ) H3 fun σ4 H4=>Wk (JS own++capS capt σ) σ4/\tt σ4 H4 fun b H5=>if b=true then te σ4 H5 N else N' H5)
def tComp(own:List Str)(capt:List Nat)(wi:TI)(g:TG)(tt:TT)(te:TE):TE:=fun σ H Q=>wi σ H fun J H1=>∀D,H1 D=none->zon own capt g tt te σ J H1 D Q
section
variable{X:Cx}{scope:Scope}{own:List Str}{capt:List Nat}{elt tg iter:Expr}{ifs:List Expr}{pos:Pos}{wi:TI}{g:TG}{tt:TT}{te:TE}
theorem zit(hc:X.calm=true)(S:CompScope scope own capt X)
  (hg:∀C s₀ H₀ fp,PG (Jv X scope own capt C s₀ H₀ fp) tg g) (ht:∀C s₀ H₀ fp,PTs (Jv X scope own capt C s₀ H₀ fp) ifs tt) (he:∀C s₀ H₀ fp,PE (Jv X scope own capt C s₀ H₀ fp) elt te)
  {pins:qO} {σ:St} {Q:VK} {itv:Value} {s2:Shared} {E:qV} {RR:Value->Addr->Result->Shared->Prop}
  (h2:PIE X pins σ tg (fun J H1=>∀D,H1 D=none->zon own capt g tt te σ J H1 D Q) itv s2)
  (hR:∀D C s' H',(∃m,s'.heap.Ns C m)->(∀h'',Heap.SameBut C s'.heap h''->Inv X pins σ H' { s' with heap:=h'' })->H' C=none->FpOk X pins H' C->Q (.ref D) H'->RR (.ref D) C (.ok .next) s') :
  wpAny (model X.prog X.w) X.A (newList []) (fun acc s₃=>wpAny (model X.prog X.w) X.A (newFunctionEnv scope X.env.globals (closed X.env scope.names []) [] X.env.qual none .none (some X.env)) (fun cenv s₄ =>
   codeAny (model X.prog X.w) X.A (.compStart (.ListComp elt [⟨tg,iter,ifs,0⟩] scope pos) 0 itv acc { cenv with scope:=relabel scope X.env }) (RR acc cenv.locals) s₄) E s₃) E s2:=by
 obtain⟨it,fp,tn,J,H2,e,I2,T,st2,f2,rd⟩:=h2;subst e;have hfp:∀b∈fp,b<s2.heap.objs.size:=fun b hb=>by
  obtain⟨o,e,_⟩:=T.obj 0 _ st2 b hb;exact Heap.lt_size e
 refine wpAny_newObj_type (wpAny_newFunctionEnv S.nocell (by intro y hy;simp at hy) (fun h₁ hns₁ hsb₁=>?_) S.kind)
 dsimp only at hns₁ hsb₁ ⊢;generalize hH3:s2.heap.push { cls:=.type "list",dict:=none,data:=.seq ([]:List Value).toArray }=H3 at hns₁ hsb₁ ⊢;have hC:H3.objs.size=s2.heap.objs.size+1:=by rw[<- hH3,Heap.size_push]
 have hDC:s2.heap.objs.size≠H3.objs.size:=by rw[hC];exact Nat.ne_of_lt (Nat.lt_succ_self _)
 have hCle:s2.heap.objs.size<=H3.objs.size:=by rw[hC];exact Nat.le_succ _
 have neC:∀b o,s2.heap.get? b=some o->b≠H3.objs.size:=fun b o e=>Nat.ne_of_lt (Nat.lt_of_lt_of_le (Heap.lt_size e) hCle)
 have old:∀b o,s2.heap.get? b=some o->h₁.get? b=some o:=fun b o e=>hsb₁.extBut b o (neC b o e) (Heap.get?_push_of_some _ (hH3▸Heap.get?_push_of_some _ e))
 have hacc:h₁.get? s2.heap.objs.size=some { cls:=.type "list",data:=.seq ([]:List Value).toArray 0 }:=hsb₁.extBut _ _ hDC (Heap.get?_push_of_some _ (hH3▸Heap.get?_push_size _ rfl));have hnD:H2 s2.heap.objs.size=none:=I2.hok.fresh (Nat.le_refl _);obtain⟨W,⟨m0,w0⟩,turn⟩:=rd _ hnD;have hLC:H3.objs.size≠X.env.locals:=fun z=>by
  have h:=I2.lt;rw[<- z]at h;exact absurd h (Nat.not_lt.mpr hCle)
 have J0:∀tk,Inv (Jv X scope own capt H3.objs.size s2 H2 fp) [] (JS own++capS capt σ) (upd H2 s2.heap.objs.size (.lst [])) { s2 with heap:=h₁,toks:=tk }:=fun tk =>
  zmk (tk:=tk) S I2 f2 hfp (Nat.le_refl _) hCle hDC old hns₁ hacc
 have fr0:∀b∈fp,upd H2 s2.heap.objs.size (.lst []) b=none:=fun b hb=>by
  rw[Jy (Nat.ne_of_lt (hfp b hb))];exact(f2 b hb).1
 have stat:∀{H':Hp},(∀b∈fp,H' b=none)->∀b∈fp,FpOk (Jv X scope own capt H3.objs.size s2 H2 fp) [] H' b:=fun hn b hb=>by
  obtain⟨g0,g1,g2,g3,g4,g5⟩:=f2 b hb;have sub:=ZY scope.names [] (S.cells I2.ok) (fun x c h=>nomatch (show(none:Option Addr)=some c from h))
  refine⟨hn b hb,Nat.ne_of_lt (Nat.lt_of_lt_of_le (hfp b hb) hCle),fun z=>?_,.inl hb,fun x c e=>g4 x c (sub x c e),fun p hp=>absurd (show p∈([]:qO) from hp) (by simp)⟩
  rcases List.mem_cons.mp (I2.stkSub b z) with q|q
  ·exact g1 q
  ·exact g2 q
 have loop:∀s₃:Shared,(∃tk,s₃={ s2 with heap:=h₁,toks:=tk }) ->
   codeAny (model X.prog X.w) X.A (.compLoop (.ListComp elt [⟨tg,iter,ifs,0⟩] scope pos) 0 (.ref it) (.ref s2.heap.objs.size) (compEnvC scope (closed X.env scope.names []) H3.objs.size X.env)) (RR (.ref s2.heap.objs.size) H3.objs.size) s₃:=by
  rintro s₃ ⟨tk,rfl⟩;refine zi5 (fun n s'=>∃i H',Inv (Jv X scope own capt H3.objs.size s2 H2 fp) [] (JS own++capS capt σ) H' s'/\tn i s'.heap/\(∀b∈fp,H' b=none)/\W i n H') ?_ m0
   ⟨0,_,J0 tk,T.keep _ _ _ st2 fun b hb o e=>old b o e,fr0,w0⟩
  rintro n s4 ⟨i,H4,I4,st4,fr4,w4⟩;rcases turn i n H4 w4 with⟨stop,qn⟩|⟨go,N,N',hN,hN',step⟩
  ·refine thn (T.done (Jv X scope own capt H3.objs.size s2 H2 fp) rfl rfl rfl hc i [] s4 _ H4 NoX I4 (stat fr4) st4 stop) fun r s5 ⟨hr,I5⟩=>?_
   subst hr;obtain⟨m,hn,_⟩:=I5.loc;exact hR _ _ s5 H4 ⟨m,hn⟩ (fun h'' sb=>zmj I2 f2 hCle I5 sb) I5.free (I2.fpOk hCle I5.free) qn
  ·refine thn (T.item (Jv X scope own capt H3.objs.size s2 H2 fp) rfl rfl rfl hc i [] s4 _ H4 NoX I4 (stat fr4) st4 go) fun r s5 ⟨u,hr,h5⟩=>?_
   subst hr;refine thn h5 fun _ s6 ⟨x,H6,I6,r6,y6,st6,fr6⟩=>?_
   have I6':=I6.pinned (stat fr6) (T.obj _ _ st6);refine thn (hg _ _ _ _ _ s6 _ H6 x u _ I6' r6 (step x H6 y6)) fun _ s7 ⟨σ7,H7,I7,wk,q7⟩=>?_
   obtain⟨wl,wv⟩:=wk.weak;have again:∀{s8:Shared} {H8:Hp} {m':Nat},Inv (Jv X scope own capt H3.objs.size s2 H2 fp) ([]++Y9 fp s6.heap) σ7 H8 s8->m'<n->W (i+1) m' H8 ->
     ∃m,m<n/\∃i H',Inv (Jv X scope own capt H3.objs.size s2 H2 fp) [] (JS own++capS capt σ) H' s8/\tn i s8.heap/\(∀b∈fp,H' b=none)/\W i m H':=fun {s8 H8 m'} I8 hm w8=>by
    refine⟨m',hm,i+1,H8,(I8.unpinned).weak wl wv,T.keep _ _ _ st6 fun b hb o e=>(I8.pin (b,o) (List.mem_append_right _ (List.mem_append_right _ (Z0 hb e)))).1,fun b hb=>?_,w8⟩
    obtain⟨o,e,d⟩:=T.obj _ _ st6 b hb;exact(I8.pin (b,o) (List.mem_append_right _ (List.mem_append_right _ (Z0 hb e)))).2.1
   refine thn (ht _ _ _ _ _ s7 σ7 H7 _ I7 q7) fun ok s8 ⟨H8,I8,q8⟩=>?_
   cases ok with
   | false =>
    obtain⟨m',hm,w8⟩:=hN' H8 (by simpa using q8)
    exact again I8 hm w8
   | true =>
    refine thn (he _ _ _ _ _ s8 σ7 H8 N I8 (by simpa using q8)) fun y s9 ⟨v,H9,I9,r9,q9⟩=>?_
    obtain⟨ys,hD,hl,m',hm,w9⟩:=hN v H9 q9;refine thn (zgq (X:=Jv X scope own capt H3.objs.size s2 H2 fp) _ s9 σ7 H9 (.ref s2.heap.objs.size) [v] _ [y] (fun _ H'=>H'=upd H9 s2.heap.objs.size (.lst (ys++[v]))) I9 rfl (.cons r9 .nil) ⟨_,ys,v,rfl,rfl,hD,hl,rfl⟩) fun _ s10 ⟨_,H10,I10,_,q10⟩=>?_
    subst q10;exact again I10 hm w9
 exact codeAny_compStart_list (loop _ ⟨_,rfl⟩) (T.self X.A 0 _ _ _ (T.keep _ _ _ st2 fun b hb o e=>old b o e) (loop _ ⟨_,rfl⟩))
theorem zlE(hc:X.calm=true)(S:CompScope scope own capt X)(hi:PI X tg iter wi)
  (hg:∀C s₀ H₀ fp,PG (Jv X scope own capt C s₀ H₀ fp) tg g) (ht:∀C s₀ H₀ fp,PTs (Jv X scope own capt C s₀ H₀ fp) ifs tt) (he:∀C s₀ H₀ fp,PE (Jv X scope own capt C s₀ H₀ fp) elt te)
  (hs:∀x,foldedSetIterable iter X.env x=pure x:=by intro _;rfl):PE X (.ListComp elt [⟨tg,iter,ifs,0⟩] scope pos) (tComp own capt wi g tt te):=by
 intro pins s σ H Q I h;rw[eval_ListComp];refine wpAny_comprehension_free (use:=none) rfl hs (zcd (S.cells I.ok)) S.kind S.names (thn (hi pins s σ H _ I h) fun v s1 h1=>thn h1 fun itv s2 h2=>?_)
 refine zit (RR:=fun acc C=>compPost (model X.prog X.w) X.A X.xe none (EP X pins σ Q) acc C) hc S hg ht he h2 fun D C s' H' hn J _ _ q=>?_
 obtain⟨m,hn⟩:=hn;exact⟨m,hn,fun h'' sb=>⟨.ref D,H',J h'' sb,rfl,q⟩⟩
theorem zjF(hc:X.calm=true)(S:CompScope scope own capt X)(hi:PI X tg iter wi)
  (hg:∀C s₀ H₀ fp,PG (Jv X scope own capt C s₀ H₀ fp) tg g) (ht:∀C s₀ H₀ fp,PTs (Jv X scope own capt C s₀ H₀ fp) ifs tt) (he:∀C s₀ H₀ fp,PE (Jv X scope own capt C s₀ H₀ fp) elt te)
  {i:Nat} {x:Str} {pos' spos:Pos} (hN:X.N.Nodup) (hxi:X.N[i]?=some x) (hx:Loc X.env.scope x)
  (hs:∀x,foldedSetIterable iter X.env x=pure x:=by intro _;rfl) (hsw:swapsWith (.ListComp elt [⟨tg,iter,ifs,0⟩] scope pos) (some (.Name x pos')) spos.line X.env=pure true:=by rfl)
  (hf:X.fn x=true\/X.env.scope.names.lookup x=some .local:=by walk_at "F") :
  PS X (.Assign [.Name x pos'] (.ListComp elt [⟨tg,iter,ifs,0⟩] scope pos) spos) (tAsg (tComp own capt wi g tt te) (Zx i)):=by
 intro pins s σ H D I h;rw[exec_Assign_Name_used _ _ _ _ hsw];refine wpAny_bind (wpAny_standAt (wpAny_bind ?_));show wpAny _ X.A (do let _ <- comprehension (.ListComp elt [⟨tg,iter,ifs,0⟩] scope pos) scope X.env _ (newList []) false (eval iter X.env) (some (assign (.Name x pos') X.env))) _ _ s
 refine wpAny_bind (wpAny_mono (wpAny_comprehension_free (use:=some (assign (.Name x pos') X.env)) (Q:=fun _ s'=>SP X pins D .next s') rfl hs (zcd (S.cells I.ok)) S.kind S.names (thn (hi pins s σ H _ I h) fun v s1 h1=>thn h1 fun itv s2 h2=>?_)) (fun _ s' hq=>wpAny_pure (wpAny_pure hq)) fun _ _ e=>e)
 refine zit (RR:=fun acc C=>compPost (model X.prog X.w) X.A X.xe (some (assign (.Name x pos') X.env)) (fun _ s'=>SP X pins D .next s') acc C) hc S hg ht he h2 fun D' C s' H' hn J hCn fp q=>?_
 obtain⟨m,hn⟩:=hn;obtain⟨f0,f1,f2,f3,f4,f5⟩:=fp;have Is:Inv X pins σ H' s':=J s'.heap (Heap.SameBut.refl _ _);refine wpAny_assign_Name (zf0 Is hN hxi hx (show RelV (.ref D') (.ref D') from rfl) (fun s'' I'' sb=>?_) hf)
 obtain⟨a,sb,ha⟩:=sb;have neA:C≠a:=by
  rcases ha with rfl|ha
  ·exact f1
  ·exact fun z=>f4 x a ha z.symm
 have hn':s''.heap.Ns C m:=hn.sameBut sb neA;exact⟨m,hn',fun h' sb'=>⟨_,H',I''.turned (t':=s''.toks) (fun b o hb e=>(sb'.2 b hb).trans e) f0 f1 f3 f4 f5,q⟩⟩
end
theorem zkE{J:It}{n:Nat}{own:List Str}{capt:List Nat}{g:TG}{tt:TT}{te:TE}{σ:St}{H1:Hp}{D:Addr}{Q:VK}(Pv:Nat->List V->Hp->Prop)(h0:Pv 0 [] (upd H1 D (.lst [])))
  (turn:∀i ys H2,i<n->H2 D=some (.lst ys)->Pv i ys H2->J.go i H2/\∀x H3,J.yld i H2 x H3->g x (JS own++capS capt σ) H3 fun σ4 H4=>Wk (JS own++capS capt σ) σ4/\tt σ4 H4 fun b H5 =>
   if b=true then te σ4 H5 (fun v H6=>∃zs,H6 D=some (.lst zs)/\zs.length<sizeLine/\Pv (i+1) (zs++[v]) (upd H6 D (.lst (zs++[v])))) else ∃zs,H5 D=some (.lst zs)/\Pv (i+1) zs H5)
  (stop:∀ys H2,H2 D=some (.lst ys)->Pv n ys H2->J.stop n H2/\Q (.ref D) H2) :
  zon own capt g tt te σ J H1 D Q:=by
 refine⟨fun i m H=>m=n - i/\i<=n/\∃ys,H D=some (.lst ys)/\Pv i ys H,⟨n,rfl,Nat.zero_le _,[],J1,h0⟩,?_⟩
 rintro i m H2 ⟨rfl,hi,ys,hD,p⟩
 by_cases hlt:i<n
 ·obtain⟨go,st⟩:=turn i ys H2 hlt hD p;refine .inr ⟨go,_,_,?_,?_,st⟩
  ·rintro v H6 ⟨zs,e,l,q⟩;exact⟨zs,e,l,n - (i+1),by omega,rfl,hlt,_,J1,q⟩
  ·rintro H5 ⟨zs,e,q⟩;exact⟨n - (i+1),by omega,rfl,hlt,zs,e,q⟩
 ·have e:i=n:=by omega
  subst e;exact .inl (stop ys H2 hD p)
def zgR(scope outer:Scope)(N:List Str)(capt:List Nat):Bool :=
 scope.kind == .function&&scope.names.all (fun y=>!(y.2 == .cell))&&scope.names.all (fun y=>!(y.2 == .local)||scope.names.lookup y.1 == some .local) &&
 scope.names.all (fun y=>!(y.2 == .free)||(outer.names.lookup y.1 == some .cell||outer.names.lookup y.1 == some .free))&&capt.all (fun k=>scope.names.lookup (N.getD k Str.empty) == some .free)
theorem CompScope.of{X:Cx}{scope:Scope}{own:List Str}{capt:List Nat}(h:zgR scope X.env.scope X.N capt=true):CompScope scope own capt X:=by
 unfold zgR at h;simp only[Bool.and_eq_true]at h;obtain⟨⟨⟨⟨h1,h2⟩,h3⟩,h4⟩,h5⟩:=h;rw[List.all_eq_true]at h2 h3 h4 h5;refine⟨by simpa using h1,fun y hy=>?_,fun y hy hl=>?_,fun y hy hf=>?_,fun k hk=>?_⟩
 ·simpa using h2 y hy
 ·have:=h3 y hy;rw[hl]at this;simpa using this
 ·have:=h4 y hy;rw[hf]at this;show X.env.scope.names.lookup y.1=some .cell\/X.env.scope.names.lookup y.1=some .free
  simpa using this
 ·simpa using h5 k hk
section
variable{X:Cx}
theorem zjV:OpR X (compareOp .IsNot) (fun x y H Q=>∃a b,x=.bl a/\y=.bl b/\Q (.bl (a != b)) H):=by
 intro pins s σ H x y v u Q I rx ry h;obtain⟨a,b,rfl,rfl,q⟩:=h;cases rx;cases ry;exact isnot_bool ⟨.bl (a != b),H,I,rfl,q⟩
def kitB(t T:String):Option Bool:=if (Value.type t == Value.type T)=true then some true else if PySem.W.kitMeta T=true then(fastBuiltinMro t).map (·.contains (.type T)) else none
theorem YA(K:qF)(t T:String):PySem.W.kitOne K (.type t) (.type T)=kitB t T:=rfl
inductive Ty (H:Hp):V->String->Prop where
 | non:Ty H .non "NoneType"
 | bl (x:Bool):Ty H (.bl x) "bool"
 | int (i:Int):Ty H (.int i) "int"
 | str (x:Str):Ty H (.str x) "str"
 | lst {a:Addr} {xs:List V} (e:H a=some (.lst xs)):Ty H (.ref a) "list"
 | tup {a:Addr} {xs:List V} (e:H a=some (.tup xs)):Ty H (.ref a) "tuple"
 | dK {a:Addr} {kvs:List (Key×V)} (e:H a=some (.dK kvs)):Ty H (.ref a) "dict"
theorem Ty.of{K:qF}{H:Hp}{v:V}{t:String}(h:Ty H v t):TyOf K H v (.type t):=by
 cases h with
 | non=>exact .non
 | bl x=>exact .bl x
 | int i=>exact .int i
 | str x=>exact .str x
 | lst e=>exact .lst e
 | tup e=>exact .tup e
 | dK e=>exact .dK e
theorem zmm:bootBuiltins "isinstance" = some (.builtin "isinstance"):=by decide +kernel
theorem boot_int:bootBuiltins "int" = some (.type "int"):=by decide +kernel
theorem zdB:bootBuiltins "bool" = some (.type "bool"):=by decide +kernel
theorem Qm:bootBuiltins "tuple" = some (.type "tuple"):=by decide +kernel
theorem zg0:bootBuiltins "str" = some (.type "str"):=by decide +kernel
theorem Ux:bootBuiltins "all" = some (.builtin "all"):=by decide +kernel
theorem zg1:bootBuiltins "min" = some (.builtin "min"):=by decide +kernel
theorem zg2:bootBuiltins "max" = some (.builtin "max"):=by decide +kernel
theorem Qn:bootBuiltins "len" = some (.builtin "len"):=by decide +kernel
theorem zg3:∀{bs:List Bool}{us:List Value},Vals (bs.map V.bl) us->LSm.BoolsAre us bs
 | [],_,h=>by cases h;exact .nil
 | b::bs,_,h=>by
  cases h with
  | cons r t =>
   cases(show _=Value.bool b from r)
   exact .cons b (zg3 t)
theorem Uy(hc:X.calm=true):J5 X (.builtin "all") (fun xs H Q=>∃(a:Addr) (bs:List Bool),xs=[.ref a]/\SqL X.K H a (bs.map V.bl)/\Q (.bl (bs.all id)) H):=by
 intro pins s σ H xs us Q I r h;obtain⟨a,bs,rfl,hq,q⟩:=h;cases r with
 | cons r1 r2 =>
  cases r2;cases(show _=Value.ref a from r1)
  obtain⟨its,rv,p,hz⟩:=I.list hq;have hb:=zg3 rv;have hl:s.heap.IsList a its.toArray:=p.isList;have hlt:a<s.heap.objs.size:=by obtain⟨_,e,_⟩:=hl;exact Heap.lt_size e
  refine call_all_walk (wpAny_pyIter_list hl ?_);refine⟨s.heap.objs.size,[s.heap.objs.size,a],[s.heap.objs.size],its.toArray.size,_,_,fun i=>(bs[i]?).getD true,rfl,Walks.list (A:=X.A.in1) (I.ok.hd hc) _ a (Nat.ne_of_lt hlt) its.toArray,
   ⟨⟨_,Heap.get?_push_size _ rfl,rfl,rfl⟩,hl.push _⟩,fun i v s' Q' E' hP hQ=>?_,fun h' tk hk=>?_⟩
  ·obtain⟨b,e,rfl⟩:=hb.get i v (by simpa using hP)
   simp only[e,Option.getD_some]at hQ;exact wpAny_truthy_bool hQ
  ·have e:((List.range its.toArray.size).all fun i=>(bs[i]?).getD true)=bs.all id:=by
    rw[List.size_toArray,hb.length];exact LSm.range_all bs
   rw[e];exact⟨.bl _,H,I.kept (LSm.kept_iter hk),rfl,q⟩
mutual
inductive Shows (H:Hp):V->PyData->Prop
 | non:Shows H .non .none
 | bl (b:Bool):Shows H (.bl b) (.bool b)
 | int (i:Int):Shows H (.int i) (.int i)
 | str (x:Str):Shows H (.str x) (.str x)
 | lst {a:Addr} {xs:List V} {ds:qD}:H a=some (.lst xs)->ShowsAll H xs ds->Shows H (.ref a) (.list ds)
 | tup {a:Addr} {xs:List V} {ds:qD}:H a=some (.tup xs)->ShowsAll H xs ds->Shows H (.ref a) (.tuple ds)
inductive ShowsAll (H:Hp):List V->List PyData->Prop
 | nil:ShowsAll H [] []
 | cons {v:V} {vs:List V} {d:PyData} {ds:qD}:Shows H v d->ShowsAll H vs ds->ShowsAll H (v::vs) (d::ds)
end
theorem Inv.bigM{pins:qO}{σ:St}{H:Hp}{s:Shared}(I:Inv X pins σ H s):sysModules<s.heap.objs.size :=
 Nat.lt_trans (by decide) (I.mod.glob.keeps I.bk).lt
def Y2(i j:Int):Prop:=0<j/\j<2 ^ 128
theorem ZU:OpR X (binaryOp .FloorDiv) (rI Y2 fun i j=>.int (i / j)):=opI fun i j _ _ _ _ _ hc q=>by
 have h1:(0:Int)<j:=hc.1;have h2:j<2 ^ 128:=hc.2;refine floordiv_int (by omega) (by rw[Int.fdiv_eq_ediv_of_nonneg i (by omega)];exact q) (.inl (PyProof.noPylong_of_log2 ?_))
 have h3:j.natAbs<2 ^ 128:=by omega
 have h4:j.natAbs.log2<128:=(Nat.log2_lt (by omega)).mpr h3
 omega
end
def Pl(X:Cx)(es:List Expr):Prop:=∀pos,(backTo pos (starEach es X.env)).any (·.1)=false
def Hd(X:Cx):List Expr->Prop
 | []=>True
 | e::r=>starEach (e::r) X.env=(false,eval e X.env)::starEach r X.env/\Pl X r
structure PB(X:Cx)(es:List Expr)(t:TA):Prop where
 pa:PA X es t
 pl:Pl X es
 hd:Hd X es
section
variable{X:Cx}{es:List Expr}{t:TA}{te:TE}
theorem QV:PB X [] tNil:=⟨Y8,fun _=>rfl,trivial⟩
theorem Qu{e:Expr}(h:PE X e te)(hr:PB X es t)(hs:starEach (e::es) X.env=(false,eval e X.env)::starEach es X.env):PB X (e::es) (QH te t) :=
 ⟨YR h hr.pa hs,fun pos=>by
  rw[hs];have:(backTo pos ((false,eval e X.env)::starEach es X.env)).any (·.1)=(false||(backTo pos (starEach es X.env)).any (·.1)):=rfl
  rw[this,hr.pl pos];rfl,hs,hr.pl⟩
theorem pb_i{i:Int}{j pos}(hr:PB X es t):PB X (.Constant (.int i) j pos::es) (QH (tC (.int i)) t):=Qu JF hr rfl
theorem pb_v(i:Nat){x:Str}{pos:Pos}(hr:PB X es t)(hN:X.N[i]?=some x:=by rfl)(hv:Vis X.env.scope x:=by walk_at "V")(hd:(x == ("__debug__":Str))=false:=by decide)
  (hcd:(x == ("__classdict__":Str))=false:=by decide):PB X (.Name x pos::es) (QH (tVar i) t):=Qu (U9 hN hv hd hcd) hr rfl
theorem znl{x:Str}{pos:Pos}(h:PE X (.Name x pos) te)(hr:PB X es t):PB X (.Name x pos::es) (QH te t):=Qu h hr rfl
theorem zmv{a b c d}(h:PE X (.BinOp a b c d) te)(hr:PB X es t):PB X (.BinOp a b c d::es) (QH te t):=Qu h hr rfl
theorem zph{a b c d}(h:PE X (.Compare a b c d) te)(hr:PB X es t):PB X (.Compare a b c d::es) (QH te t):=Qu h hr rfl
variable{e:Expr}{x:Str}{p pos:Pos}
theorem znf{x1}(h:PB X es t):PE X (.Tuple es x1 pos) (tTup t):=zo9 h.pa
theorem zjN(h:PB X es t):PE X (.List es pos) (tLst t):=zpf h.pa
theorem Y5{id:String}{r:List V->Hp->VK->Prop}(hc:J5 X (.builtin id) r)(hm:X.mg x=none)(hv:bootBuiltins x=some (.builtin id))(h:PB X (e::es) t)(hg:Gl X x:=by rfl)(hn:x ≠ "__name__":=by decide) (hdb:(x == ("__debug__":Str))=false:=by decide) :
  PE X (.Call (.Name x p) (e::es) [] pos) (tCB r t):=zlG hc hg hm hv h.pa hn hdb h.hd.1 (h.hd.2 pos)
theorem znj{T:String}{r:List V->Hp->VK->Prop}(hc:J5 X (.type T) r)(hm:X.mg x=none)(hv:bootBuiltins x=some (.type T))(h:PB X (e::es) t)(hg:Gl X x:=by rfl)(hn:x ≠ "__name__":=by decide) (hdb:(x == ("__debug__":Str))=false:=by decide) :
  PE X (.Call (.Name x p) (e::es) [] pos) (tCB r t):=zjP hc hg hm hv h.pa hn hdb h.hd.1 (h.hd.2 pos)
end
end L2
namespace Bd
open PySem L2
structure Def(K:qF)(mg:qM)(x:Str)(st:Stmt)(ps:List Str)(f:Addr)(fd:FuncData):Prop where
 F:Fun K x x st f fd
 b:Binds K fd ps []
 m:mg x=some (.ref f)
section
variable{X:Cx}{k:Nat}{f:Addr}{fd:FuncData}{ps:List Str}{sp:Sp}{x:Str}{p pos:Pos}{e:Expr}{es:List Expr}{t:TA}{st:Stmt}
theorem znh(D:Def X.K X.mg x st ps f fd)(G:FnOk X.prog X.w X.K X.mg X.base CX0 k f fd ps sp)(hr:Room k X.A)(h:PB X (e::es) t)(hg:Gl X x:=by rfl)
  (hdb:(x == ("__debug__":Str))=false:=by decide):PE X (.Call (.Name x p) (e::es) [] pos) (zoC sp [] E0 t):=zni G hr hg D.m D.F.kp D.b .nil zsd h.pa hdb h.hd.1 (h.hd.2 pos)
theorem zr_{T:String}{p:Pos}(hm:X.mg x=none)(hv:bootBuiltins x=some (.type T))(hg:Gl X x:=by rfl)(hn:x ≠ "__name__":=by decide) (hd:(x == ("__debug__":Str))=false:=by decide):PE X (.Name x p) (tC (.ty T)) :=
 znk hg hm hv rfl hn hd
end
theorem iteP{c A B:Prop}[Decidable c](hc:c)(h:A):if decide c=true then A else B:=by
 rw[decide_eq_true hc];exact iteT h
theorem iteN{c A B:Prop}[Decidable c](hc:¬c)(h:B):if decide c=true then A else B:=by
 rw[decide_eq_false hc];exact iteF h
theorem zp1{c A B:Prop}[Decidable c](h1:c->A)(h2:¬c->B):if decide c=true then A else B:=by
 by_cases h:c
 ·exact iteP h (h1 h)
 ·exact iteN h (h2 h)
theorem zdC{α:Type}{xs:List α}{k:Int}{v:α}(h0:0<=k)(h:xs[k.toNat]?=some v):atI xs k=some v:=by
 obtain⟨n,rfl⟩:=Int.eq_ofNat_of_zero_le h0;exact zoj h
theorem QP(k:Nat):(0:Int)<2 ^ k:=by
 have:(0:Nat)<2 ^ k:=Nat.two_pow_pos k;have e:((2 ^ k:Nat):Int)=(2:Int) ^ k:=by simp
 omega
theorem zjI{k:Nat}(h:k<=64):(2:Int) ^ k<2 ^ 128:=by
 have:(2:Nat) ^ k<2 ^ 128:=Nat.pow_lt_pow_right (by decide) (by omega)
 have e:((2 ^ k:Nat):Int)=(2:Int) ^ k:=by simp
 omega
theorem zh3{k:Nat}(h:k<=64):(2:Int) ^ k<=2 ^ 64:=by
 have:(2:Nat) ^ k<=2 ^ 64:=Nat.pow_le_pow_right (by decide) (by omega)
 have e:((2 ^ k:Nat):Int)=(2:Int) ^ k:=by simp
 omega
theorem zlf{H:Hp}{p:Addr}{o:HO}(h:H p=none):Same H (upd H p o):=fun b u e=>by
 rw[Jy (Q7 e h)];exact e
end Bd
namespace L2
open PySem PySem.Spec PyProof.Rows
theorem zok(k h:Nat):(k*2 ^ h) &&& (2 ^ h)=(k % 2)*2 ^ h:=by
 have e1:k*2 ^ h=k <<< h:=(Nat.shiftLeft_eq k h).symm;have e2:(2:Nat) ^ h=1 <<< h:=by rw[Nat.shiftLeft_eq,Nat.one_mul]
 have e3:(k &&& 1) <<< h=k <<< h &&& 1 <<< h:=Nat.shiftLeft_and_distrib;rw[e1]
 conv=>lhs;rw[e2]
 rw[<- e3,Nat.and_one_is_mod,Nat.shiftLeft_eq]
theorem zk_{k:Int}(h:Nat)(k0:0<=k):Builtin.bitXor (k*2 ^ h) (2 ^ h)=if k % 2=0 then k*2 ^ h+2 ^ h else k*2 ^ h - 2 ^ h:=by
 obtain⟨n,rfl⟩:=Int.eq_ofNat_of_zero_le k0;have e0:((2 ^ h:Nat):Int)=(2:Int) ^ h:=by simp
 have e1:((n:Int)*2 ^ h)=((n*2 ^ h:Nat):Int):=by rw[Int.natCast_mul,e0]
 rw[bitXor_and,e1,<- e0,bitAnd_pp (Int.natCast_nonneg _) (Int.natCast_nonneg _)];have e2:((n*2 ^ h:Nat):Int).toNat &&& ((2 ^ h:Nat):Int).toNat=(n % 2)*2 ^ h:=by
  rw[Int.toNat_natCast,Int.toNat_natCast];exact zok n h
 rw[e2];rcases Nat.mod_two_eq_zero_or_one n with z|z
 ·have:((n:Int)) % 2=0:=by lia
  rw[if_pos this,z];simp
 ·have:¬((n:Int)) % 2=0:=by lia
  rw[if_neg this,z,Nat.one_mul];lia
def HAND:PyData:=.dict [(.none,.none)]
def SCR(ns:List Int):PyData:=.dict [(.none,.list (ns.map .int))]
def Zz(H:Hp)(hd:Addr)(n:Int):Prop:=∃d m t:Int,H hd=some (.lst [.int d,.int m,.int t])/\0<=m/\m<2 ^ 62/\0<=t/\t<=n
def StT(K:qF)(a:Addr)(xs:List V):Prop :=
 ∃(o:Obj) (its:Array Value) (n:Nat),K.lookup a=some o/\o.cls=.type "tuple" /\ o.data=.seq its n/\its.size<=sizeLine/\Vals xs its.toList/\o.dict=none
theorem StT.sq{K:qF}{H:Hp}{a:Addr}{xs:List V}(h:StT K a xs):SqT K H a xs:=by
 obtain⟨o,its,n,h1,h2,h3,h4,h5,_⟩:=h;exact .inr ⟨o,its,n,h1,h2,h3,h4,h5⟩
def hsT(k:Int×Int):Int:=reduceHash (Builtin.Tuple.tupleHashOf [hashInt k.1,hashInt k.2])
def entZ(z:(Int×Int)×Addr×V)(e:DictEntry):Prop:=e.hash=hsT z.1/\e.key=.ref z.2.1/\RelV z.2.2 e.val
abbrev ZT:=List ((Int×Int)×Addr×V)
def ZDO(a:Addr)(zs:ZT)(ep:Nat):HO:=.ext fun h=>(a == sysModules)=false/\zs.length<=sizeLine/\(zs.map (·.1)).Nodup/\∃o es,h.get? a=some o/\o.ExactDict/\o.data=.dict es ep/\Paired entZ zs es.toList
abbrev KT2:=List ((Int×Int)×PyData)
def entI(z:Int×V)(e:DictEntry):Prop:=e.hash=hashInt z.1/\(∃t,e.key=.int z.1 t)/\RelV z.2 e.val
def KDO(a:Addr)(zs:List (Int×V))(ep:Nat):HO:=.ext fun h=>(a == sysModules)=false/\zs.length<=sizeLine/\(zs.map (·.1)).Nodup/\∃o es,h.get? a=some o/\o.ExactDict/\o.data=.dict es ep/\Paired entI zs es.toList
def blkT(k:Int×Int):PyData:=.tuple [.int k.1,.int k.2]
def zn6(ks:List (Int×PyData)):List (PyData×PyData):=ks.map fun q=>(.int q.1,q.2)
def Yw(ks:KT2):List (PyData×PyData):=ks.map fun q=>(blkT q.1,q.2)
mutual
inductive Rep (K:qF)(hd:Option Addr)(O:Addr->Prop)(H:Hp):V->PyData->Prop
 | non:Rep K hd O H .non .none
 | bl (b:Bool):Rep K hd O H (.bl b) (.bool b)
 | int (i:Int):Rep K hd O H (.int i) (.int i)
 | str (x:Str):Rep K hd O H (.str x) (.str x)
 | tup {a vs ds} (h:H a=some (.tup vs)) (o:¬O a) (r:Reps K hd O H vs ds):Rep K hd O H (.ref a) (.tuple ds)
 | tupS {a vs ds} (h:StT K a vs) (r:Reps K hd O H vs ds):Rep K hd O H (.ref a) (.tuple ds)
 | lst {a vs ds} (h:H a=some (.lst vs)) (o:¬O a) (r:Reps K hd O H vs ds):Rep K hd O H (.ref a) (.list ds)
 | dct {a ep} (h:H a=some (KDO a [] ep)) (o:¬O a):Rep K hd O H (.ref a) (.dict [])
 | dcK {a kvs ep ks ps} (h:H a=some (KDO a kvs ep)) (o:¬O a) (r:RepsK K hd O H kvs ks) (e:ps=zn6 ks):Rep K hd O H (.ref a) (.dict ps)
 | dcT {a zs ep ks ps} (h:H a=some (ZDO a zs ep)) (o:¬O a) (r:RepsT K hd O H zs ks) (e:ps=Yw ks):Rep K hd O H (.ref a) (.dict ps)
 | hand {a} (h:hd=some a):Rep K hd O H (.ref a) HAND
 | scr {a ns} (h:Rd H a (.lst (ns.map V.int))) (o:¬O a):Rep K hd O H (.ref a) (SCR ns)
 | scrS {a} {ns:List Int} (h:∀H':Hp,SqL K H' a (ns.map V.int)):Rep K hd O H (.ref a) (SCR ns)
inductive Reps (K:qF)(hd:Option Addr)(O:Addr->Prop)(H:Hp):List V->List PyData->Prop
 | nil:Reps K hd O H [] []
 | cons {v d vs ds} (h:Rep K hd O H v d) (r:Reps K hd O H vs ds):Reps K hd O H (v::vs) (d::ds)
inductive RepsK (K:qF)(hd:Option Addr)(O:Addr->Prop)(H:Hp):List (Int×V)->List (Int×PyData)->Prop
 | nil:RepsK K hd O H [] []
 | cons {k v d kvs ks} (h:Rep K hd O H v d) (r:RepsK K hd O H kvs ks):RepsK K hd O H ((k,v)::kvs) ((k,d)::ks)
inductive RepsT (K:qF)(hd:Option Addr)(O:Addr->Prop)(H:Hp):ZT->KT2->Prop
 | nil:RepsT K hd O H [] []
 | cons {k q v d zs ks} (h:Rep K hd O H (.ref q) (.tuple [.int k.1,.int k.2])) (h2:Rep K hd O H v d) (r:RepsT K hd O H zs ks):RepsT K hd O H ((k,q,v)::zs) ((k,d)::ks)
end
section
variable{K:qF}{hd:Option Addr}{O O':Addr->Prop}{H H':Hp}
mutual
theorem Rep.mono(ho:∀a o,H a=some o->O' a->O a)(hh:∀a o,¬O a->H a=some o->H' a=some o):∀{v d},Rep K hd O H v d->Rep K hd O' H' v d
 | _,_,.non=>.non
 | _,_,.bl b=>.bl b
 | _,_,.int i=>.int i
 | _,_,.str x=>.str x
 | _,_,.tup h o r=>.tup (hh _ _ o h) (fun z=>o (ho _ _ h z)) (Reps.mono ho hh r)
 | _,_,.tupS h r=>.tupS h (Reps.mono ho hh r)
 | _,_,.lst h o r=>.lst (hh _ _ o h) (fun z=>o (ho _ _ h z)) (Reps.mono ho hh r)
 | _,_,.dct h o=>.dct (hh _ _ o h) (fun z=>o (ho _ _ h z))
 | _,_,.dcK h o r e=>.dcK (hh _ _ o h) (fun z=>o (ho _ _ h z)) (RepsK.mono ho hh r) e
 | _,_,.dcT h o r e=>.dcT (hh _ _ o h) (fun z=>o (ho _ _ h z)) (RepsT.mono ho hh r) e
 | _,_,.hand h=>.hand h
 | _,_,.scr h o=>by
  rcases h with h|⟨u,h⟩
  ·exact .scr (.inl (hh _ _ o h)) (fun z=>o (ho _ _ h z))
  ·exact .scr (.inr ⟨u,hh _ _ o h⟩) (fun z=>o (ho _ _ h z))
 | _,_,.scrS h=>.scrS h
theorem Reps.mono(ho:∀a o,H a=some o->O' a->O a)(hh:∀a o,¬O a->H a=some o->H' a=some o):∀{vs ds},Reps K hd O H vs ds->Reps K hd O' H' vs ds
 | _,_,.nil=>.nil
 | _,_,.cons h r=>.cons (Rep.mono ho hh h) (Reps.mono ho hh r)
theorem RepsK.mono(ho:∀a o,H a=some o->O' a->O a)(hh:∀a o,¬O a->H a=some o->H' a=some o):∀{vs ds},RepsK K hd O H vs ds->RepsK K hd O' H' vs ds
 | _,_,.nil=>.nil
 | _,_,.cons h r=>.cons (Rep.mono ho hh h) (RepsK.mono ho hh r)
theorem RepsT.mono(ho:∀a o,H a=some o->O' a->O a)(hh:∀a o,¬O a->H a=some o->H' a=some o):∀{vs ds},RepsT K hd O H vs ds->RepsT K hd O' H' vs ds
 | _,_,.nil=>.nil
 | _,_,.cons h h2 r=>.cons (Rep.mono ho hh h) (Rep.mono ho hh h2) (RepsT.mono ho hh r)
end
theorem dict_noK{ks:List (Int×PyData)}{v:PyData}{r:List (PyData×PyData)}(e:(PyData.none,v)::r=zn6 ks):False:=by
 cases ks with
 | nil=>cases e
 | cons q ks=>cases e
theorem dict_noT{ks:KT2}{v:PyData}{r:List (PyData×PyData)}(e:(PyData.none,v)::r=Yw ks):False:=by
 cases ks with
 | nil=>cases e
 | cons q ks=>cases e
theorem Reps.length:∀{vs ds},Reps K hd O H vs ds->vs.length=ds.length
 | _,_,.nil=>rfl
 | _,_,.cons _ r=>by simp[Reps.length r]
theorem Reps.get:∀{vs ds}{i:Nat}{d},Reps K hd O H vs ds->ds[i]?=some d->∃v,vs[i]?=some v/\Rep K hd O H v d
 | _,_,_,_,.nil,e=>by simp at e
 | _,_,0,_,.cons h _,e=>by simp at e;subst e;exact⟨_,rfl,h⟩
 | _,_,i+1,_,.cons _ r,e=>by
  obtain⟨v,h1,h2⟩:=Reps.get (i:=i) r (by simpa using e)
  exact⟨v,by simpa using h1,h2⟩
theorem Reps.append:∀{vs ws ds es},Reps K hd O H vs ds->Reps K hd O H ws es->Reps K hd O H (vs++ws) (ds++es)
 | _,_,_,_,.nil,s=>s
 | _,_,_,_,.cons h r,s=>.cons h (Reps.append r s)
theorem Reps.take:∀{vs ds} (n:Nat),Reps K hd O H vs ds->Reps K hd O H (vs.take n) (ds.take n)
 | _,_,0,_=>.nil
 | _,_,_+1,.nil=>.nil
 | _,_,n+1,.cons h r=>.cons h (Reps.take n r)
theorem Reps.drop:∀{vs ds} (n:Nat),Reps K hd O H vs ds->Reps K hd O H (vs.drop n) (ds.drop n)
 | _,_,0,r=>r
 | _,_,_+1,.nil=>.nil
 | _,_,n+1,.cons _ r=>Reps.drop n r
theorem Rep.tupI{v:V}{ds:qD}(h:Rep K hd O H v (.tuple ds)):∃a vs,v=.ref a/\SqT K H a vs/\Reps K hd O H vs ds:=by
 cases h with
 | tup h o r=>exact⟨_,_,rfl,.inl (.inl h),r⟩
 | tupS h r=>exact⟨_,_,rfl,h.sq,r⟩
theorem Rep.lstI{v:V}{ds:qD}(h:Rep K hd O H v (.list ds)):∃a vs,v=.ref a/\H a=some (.lst vs)/\¬O a/\Reps K hd O H vs ds:=by
 cases h with
 | lst h o r=>exact⟨_,_,rfl,h,o,r⟩
theorem Rep.intI{v:V}{i:Int}(h:Rep K hd O H v (.int i)):v=.int i:=by cases h;rfl
theorem Rep.blI{v:V}{b:Bool}(h:Rep K hd O H v (.bool b)):v=.bl b:=by cases h;rfl
theorem Rep.strI{v:V}{x:Str}(h:Rep K hd O H v (.str x)):v=.str x:=by cases h;rfl
theorem Rep.nonI{v:V}(h:Rep K hd O H v .none):v=.non:=by cases h;rfl
theorem Rep.handI{v:V}(h:Rep K hd O H v HAND):∃a,v=.ref a/\hd=some a:=by
 generalize e:HAND=d at h;cases h with
 | hand h=>exact⟨_,rfl,h⟩
 | dct _ _=>cases e
 | dcK _ _ _ e'=>cases e;exact(dict_noK e').elim
 | dcT _ _ _ e'=>cases e;exact(dict_noT e').elim
 | scr _ _=>simp[HAND,SCR]at e
 | scrS _=>simp[HAND,SCR]at e
 | _=>cases e
theorem Rep.scrI{v:V}{ns:List Int}(h:Rep K hd O H v (SCR ns)):∃a,v=.ref a/\SqL K H a (ns.map V.int):=by
 generalize e:SCR ns=d at h;cases h with
 | hand h=>simp[HAND,SCR]at e
 | dct _ _=>cases e
 | dcK _ _ _ e'=>cases e;exact(dict_noK e').elim
 | dcT _ _ _ e'=>cases e;exact(dict_noT e').elim
 | @scr a ms h o =>
  have:ns=ms:=by
   have e':(ns.map PyData.int)=ms.map PyData.int:=by simpa[SCR] using e
   have:=congrArg (List.map fun x=>match x with|PyData.int i=>i|_=>0) e'
   simpa[List.map_map,Function.comp_def] using this
  subst this;exact⟨_,rfl,.inl h⟩
 | @scrS a ms h =>
  have:ns=ms:=by
   have e':(ns.map PyData.int)=ms.map PyData.int:=by simpa[SCR] using e
   have:=congrArg (List.map fun x=>match x with|PyData.int i=>i|_=>0) e'
   simpa[List.map_map,Function.comp_def] using this
  subst this;exact⟨_,rfl,h H⟩
 | _=>cases e
end
mutual
def J6:PyData->Bool
 | .list _=>false
 | .tuple ts=>Y6 ts
 | .dict [(.none,.none)]=>true
 | .dict _=>false
 | _=>true
def Y6:List PyData->Bool
 | []=>true
 | t::ts=>J6 t&&Y6 ts
end
section
variable{K:qF}{hd:Option Addr}{O O':Addr->Prop}{H:Hp}
theorem znA{ks:List (Int×PyData)}(e:J6 (.dict (zn6 ks))=true):False:=by
 unfold J6 at e;split at e
 ·rename_i h;cases h
 ·rename_i h;cases h
 ·rename_i h;exact dict_noK (PyData.dict.inj h).symm
 ·cases e
 ·rename_i h;exact h _ rfl
theorem znz{ks:KT2}(e:J6 (.dict (Yw ks))=true):False:=by
 unfold J6 at e;split at e
 ·rename_i h;cases h
 ·rename_i h;cases h
 ·rename_i h;exact dict_noT (PyData.dict.inj h).symm
 ·cases e
 ·rename_i h;exact h _ rfl
def MutO(o:Option HO):Prop:=(∃xs,o=some (.lst xs))\/(∃ks,o=some (.dK ks))\/∃a zs ep,o=some (ZDO a zs ep)
mutual
theorem Rep.up(ho:∀a,O a->MutO (H a)):∀{v d},Rep K hd O' H v d->J6 d=true->Rep K hd O H v d
 | _,_,.non,_=>.non
 | _,_,.bl b,_=>.bl b
 | _,_,.int i,_=>.int i
 | _,_,.str x,_=>.str x
 | _,_,.tup h _ r,e=>.tup h (fun z=>by rcases ho _ z with⟨xs,q⟩|⟨xs,q⟩|⟨xs,zs,ep,q⟩ <;> (rw[h]at q;cases q)) (Reps.up ho r (by simpa[J6] using e))
 | _,_,.tupS h r,e=>.tupS h (Reps.up ho r (by simpa[J6] using e))
 | _,_,.lst _ _ _,e=>by simp[J6]at e
 | _,_,.dct h _,e=>by simp[J6]at e
 | _,_,.dcK _ _ _ e',e=>by subst e';exact(znA e).elim
 | _,_,.dcT _ _ _ e',e=>by subst e';exact(znz e).elim
 | _,_,.hand h,_=>.hand h
 | _,_,.scr _ _,e=>by simp[SCR,J6]at e
 | _,_,.scrS _,e=>by simp[SCR,J6]at e
theorem Reps.up(ho:∀a,O a->MutO (H a)):∀{vs ds},Reps K hd O' H vs ds->Y6 ds=true->Reps K hd O H vs ds
 | _,_,.nil,_=>.nil
 | _,_,.cons h r,e=>by
  simp only[Y6,Bool.and_eq_true]at e;exact .cons (Rep.up ho h e.1) (Reps.up ho r e.2)
end
end
section
variable{X:Cx}{pins:qO}{σ:St}{H:Hp}{s:Shared}{hd:Option Addr}{O:Addr->Prop}
mutual
theorem Rep.reads(I:Inv X pins σ H s):∀{v:V}{d:PyData}{u:Value},Rep X.K hd O H v d->RelV v u->d.hasDict=false->∃as,Reads s.heap u d as
 | _,_,_,.non,r,_=>by cases r;exact⟨_,.none⟩
 | _,_,_,.bl b,r,_=>by cases r;exact⟨_,.bool b⟩
 | _,_,_,.int i,r,_=>by obtain⟨t,rfl⟩:=r;exact⟨_,.int i t⟩
 | _,_,_,.str x,r,_=>by obtain⟨t,rfl⟩:=r;exact⟨_,.str x t⟩
 | _,_,_,.tup (a:=a) (vs:=vs) h _ q,r,e=>by
  cases r;obtain⟨its,rv,p,_⟩:=I.tuple (xs:=vs) (.inl (.inl h));obtain⟨o,ho,hc,n,hdat⟩:=p;obtain⟨as,ra⟩:=Reps.reads I q rv (by simpa[PyData.hasDict] using e)
  exact⟨_,.tuple ho hc hdat (by simpa using ra)⟩
 | _,_,_,.tupS (a:=a) (vs:=vs) h q,r,e=>by
  cases r;obtain⟨its,rv,p,_⟩:=I.tuple (xs:=vs) h.sq;obtain⟨o,ho,hc,n,hdat⟩:=p;obtain⟨as,ra⟩:=Reps.reads I q rv (by simpa[PyData.hasDict] using e)
  exact⟨_,.tuple ho hc hdat (by simpa using ra)⟩
 | _,_,_,.lst (a:=a) (vs:=vs) h _ q,r,e=>by
  cases r;obtain⟨its,rv,p,_⟩:=I.list (xs:=vs) (.inl (.inl h));obtain⟨o,n,ho,hc,_,hdat⟩:=p;obtain⟨as,ra⟩:=Reps.reads I q rv (by simpa[PyData.hasDict] using e)
  exact⟨_,.list ho hc hdat (by simpa using ra)⟩
 | _,_,_,.dct _ _,_,e=>by simp[PyData.hasDict]at e
 | _,_,_,.dcK _ _ _ _,_,e=>by simp[PyData.hasDict]at e
 | _,_,_,.dcT _ _ _ _,_,e=>by simp[PyData.hasDict]at e
 | _,_,_,.hand _,_,e=>by simp[HAND,PyData.hasDict]at e
 | _,_,_,.scr _ _,_,e=>by simp[SCR,PyData.hasDict]at e
 | _,_,_,.scrS _,_,e=>by simp[SCR,PyData.hasDict]at e
theorem Reps.reads(I:Inv X pins σ H s):∀{vs:List V}{ds:qD}{us:List Value},Reps X.K hd O H vs ds->Vals vs us->PyData.hasDictAll ds=false->∃as,ReadsAll s.heap us ds as
 | _,_,_,.nil,r,_=>by cases r;exact⟨_,.nil⟩
 | _,_,_,.cons h q,r,e=>by
  cases r with
  | cons r1 r2 =>
   have e':=e;simp only[PyData.hasDictAll,Bool.or_eq_false_iff]at e';obtain⟨as,ra⟩:=Rep.reads I h r1 e'.1;obtain⟨bs,rb⟩:=Reps.reads I q r2 e'.2;exact⟨_,.cons ra rb⟩
end
end
inductive Cell where
 | val (d:PyData)
 | own (ds:qD)
 | dct (ks:List (Key×PyData))
 | rdo (ks:List (Key×PyData))
 | dtt (ks:KT2)
def Cell.mine:Cell->Bool
 | .val _=>false
 | .own _=>true
 | .dct _=>true
 | .rdo _=>false
 | .dtt _=>true
def UR(K:qF)(hd:Option Addr)(O:Addr->Prop)(H:Hp)(kvs:List (Key×V))(ks:List (Key×PyData)):Prop:=Paired (fun(p:Key×V) (q:Key×PyData)=>p.1=q.1/\Rep K hd O H p.2 q.2) kvs ks
theorem UR.mono{K:qF}{hd:Option Addr}{O O':Addr->Prop}{H H':Hp}(ho:∀a o,H a=some o->O' a->O a)(hh:∀a o,¬O a->H a=some o->H' a=some o){kvs:List (Key×V)}{ks:List (Key×PyData)}(r:UR K hd O H kvs ks):UR K hd O' H' kvs ks :=
 Paired.mapP r fun _ _ z=>⟨z.1,z.2.mono ho hh⟩
abbrev En:=List (Option Cell)
structure Ctx where
 hd:Option Addr
 ext:Addr->Prop
def OwnS(ρ:En)(σ:St)(a:Addr):Prop:=∃(i:Nat) (c:Cell),c.mine=true/\ρ[i]?=some (some c)/\σ[i]?=some (some (V.ref a))
def Own(C:Ctx)(ρ:En)(σ:St)(a:Addr):Prop:=C.ext a\/OwnS ρ σ a
def Hn(hd:Option Addr)(H:Hp)(n:Nat):Prop:=∀a,hd=some a->Zz H a n
structure Stt(K:qF)(C:Ctx)(ρ:En)(σ:St)(H:Hp)(n:Nat):Prop where
 len:ρ.length=σ.length
 val:∀(i:Nat) (d:PyData),ρ[i]?=some (some (Cell.val d))->∃v,σ[i]?=some (some v)/\Rep K C.hd (Own C ρ σ) H v d
 own:∀(i:Nat) (ds:qD),ρ[i]?=some (some (Cell.own ds))->∃a vs,σ[i]?=some (some (V.ref a))/\H a=some (.lst vs)/\Reps K C.hd (Own C ρ σ) H vs ds/\¬C.ext a
 dct:∀(i:Nat) (ks:List (Key×PyData)),ρ[i]?=some (some (Cell.dct ks))->∃a kvs,σ[i]?=some (some (V.ref a))/\H a=some (.dK kvs)/\UR K C.hd (Own C ρ σ) H kvs ks/\¬C.ext a
 rdo:∀(i:Nat) (ks:List (Key×PyData)),ρ[i]?=some (some (Cell.rdo ks))->∃a kvs,σ[i]?=some (some (V.ref a))/\H a=some (.dK kvs)/\UR K C.hd (Own C ρ σ) H kvs ks/\C.ext a/\C.hd≠some a
 dtt:∀(i:Nat) (ks:KT2),ρ[i]?=some (some (Cell.dtt ks))->∃a zs ep,σ[i]?=some (some (V.ref a))/\H a=some (ZDO a zs ep)/\RepsT K C.hd (Own C ρ σ) H zs ks/\¬C.ext a
 dif:∀(i j:Nat) (c e:Cell) (a:Addr),c.mine=true->e.mine=true->ρ[i]?=some (some c)->ρ[j]?=some (some e)->σ[i]?=some (some (V.ref a))->σ[j]?=some (some (V.ref a))->i=j
 hnd:Hn C.hd H n
 ext:∀a,C.ext a->MutO (H a)
 hx:∀a,C.hd=some a->C.ext a
def ExtE(hd:Option Addr)(H H':Hp):Prop:=∀a o,H a=some o->hd≠some a->H' a=some o
theorem ExtE.refl{hd:Option Addr}{H:Hp}:ExtE hd H H:=fun _ _ h _=>h
theorem ExtE.trans{hd:Option Addr}{H H1 H2:Hp}(a:ExtE hd H H1)(b:ExtE hd H1 H2):ExtE hd H H2:=fun c o h n=>b c o (a c o h n) n
theorem ExtE.new{hd:Option Addr}{H:Hp}{p:Addr}{o:HO}(h:H p=none):ExtE hd H (upd H p o):=fun b u e _=>by
 rw[Jy (Q7 e h)];exact e
section
variable{K:qF}{C:Ctx}{ρ:En}{σ:St}{H H':Hp}{n n':Nat}
theorem MutO.ne{o:Option HO}(h:MutO o):o≠none:=by
 rcases h with⟨_,rfl⟩|⟨_,rfl⟩|⟨_,_,_,rfl⟩ <;> exact fun z=>by cases z
theorem Stt.at(S:Stt K C ρ σ H n){i:Nat}{c:Cell}(m:c.mine=true)(h1:ρ[i]?=some (some c)):∃a:Addr,σ[i]?=some (some (V.ref a))/\MutO (H a)/\¬C.ext a:=by
 cases c with
 | val d=>cases m
 | own ds =>
  obtain⟨a,vs,e1,e2,_,e4⟩:=S.own i ds h1;exact⟨a,e1,.inl ⟨_,e2⟩,e4⟩
 | dct ks =>
  obtain⟨a,vs,e1,e2,_,e4⟩:=S.dct i ks h1;exact⟨a,e1,.inr (.inl ⟨_,e2⟩),e4⟩
 | rdo ks=>cases m
 | dtt ks =>
  obtain⟨a,vs,ep,e1,e2,_,e4⟩:=S.dtt i ks h1;exact⟨a,e1,.inr (.inr ⟨_,_,_,e2⟩),e4⟩
theorem Stt.lst(S:Stt K C ρ σ H n){a:Addr}(h:Own C ρ σ a):MutO (H a):=by
 rcases h with h|⟨i,c,m,h1,h2⟩
 ·exact S.ext a h
 ·obtain⟨b,e1,e2,_⟩:=S.at m h1;rw[h2]at e1;cases e1;exact e2
theorem Stt.dom(S:Stt K C ρ σ H n){a:Addr}(h:Own C ρ σ a):H a≠none:=(S.lst h).ne
theorem Stt.free(S:Stt K C ρ σ H n){a:Addr}(h:H a=none):¬Own C ρ σ a:=fun z=>S.dom z h
theorem ExtE.rep(e:ExtE C.hd H H')(hx:∀a,C.hd=some a->C.ext a){v d}(r:Rep K C.hd (Own C ρ σ) H v d):Rep K C.hd (Own C ρ σ) H' v d :=
 r.mono (fun _ _ _ z=>z) fun a o no h=>e a o h fun z=>no (.inl (hx a z))
theorem ExtE.reps(e:ExtE C.hd H H')(hx:∀a,C.hd=some a->C.ext a){v d}(r:Reps K C.hd (Own C ρ σ) H v d):Reps K C.hd (Own C ρ σ) H' v d :=
 r.mono (fun _ _ _ z=>z) fun a o no h=>e a o h fun z=>no (.inl (hx a z))
theorem Stt.on(S:Stt K C ρ σ H n)(e:ExtE C.hd H H')(h:Hn C.hd H' n'):Stt K C ρ σ H' n' where
 len:=S.len
 val:=fun i d hi=>by
  obtain⟨v,h1,h2⟩:=S.val i d hi;exact⟨v,h1,e.rep S.hx h2⟩
 own:=fun i ds hi=>by
  obtain⟨a,vs,h1,h2,h3,h4⟩:=S.own i ds hi;exact⟨a,vs,h1,e a _ h2 fun z=>h4 (S.hx a z),e.reps S.hx h3,h4⟩
 dct:=fun i ks hi=>by
  obtain⟨a,vs,h1,h2,h3,h4⟩:=S.dct i ks hi;exact⟨a,vs,h1,e a _ h2 fun z=>h4 (S.hx a z),Paired.mapP h3 fun _ _ z=>⟨z.1,e.rep S.hx z.2⟩,h4⟩
 rdo:=fun i ks hi=>by
  obtain⟨a,vs,h1,h2,h3,h4,h5⟩:=S.rdo i ks hi;exact⟨a,vs,h1,e a _ h2 h5,Paired.mapP h3 fun _ _ z=>⟨z.1,e.rep S.hx z.2⟩,h4,h5⟩
 dtt:=fun i ks hi=>by
  obtain⟨a,vs,ep,h1,h2,h3,h4⟩:=S.dtt i ks hi;exact⟨a,vs,ep,h1,e a _ h2 fun z=>h4 (S.hx a z),h3.mono (fun _ _ _ z=>z) (fun a o no h=>e a o h fun z=>no (.inl (S.hx a z))),h4⟩
 dif:=S.dif
 hnd:=h
 ext:=fun a ha=>by
  by_cases z:C.hd=some a
  ·obtain⟨d,m,t,q,_⟩:=h a z;exact .inl ⟨_,q⟩
  ·rcases S.ext a ha with⟨xs,q⟩|⟨xs,q⟩|⟨b,xs,ep,q⟩
   ·exact .inl ⟨xs,e a _ q z⟩
   ·exact .inr (.inl ⟨xs,e a _ q z⟩)
   ·exact .inr (.inr ⟨b,xs,ep,e a _ q z⟩)
 hx:=S.hx
end
abbrev DTE:=En->Nat->(PyData->Nat->Prop)->Prop
abbrev DTT:=En->Nat->(Bool->Nat->Prop)->Prop
abbrev DTA:=En->Nat->(List PyData->Nat->Prop)->Prop
def DE(X:Cx)(e:Expr)(d:DTE):Prop:=∃te,PE X e te/\∀(C:Ctx) (ρ:En) (σ:St) (H:Hp) (n:Nat) (Q:VK) (R:qN),Stt X.K C ρ σ H n->d ρ n R ->
 (∀t n' v H',R t n'->ExtE C.hd H H'->Hn C.hd H' n'->Rep X.K C.hd (Own C ρ σ) H' v t->Q v H')->te σ H Q
def RepT(K:qF)(hd:Option Addr)(O:Addr->Prop)(H:Hp)(v:V)(t:PyData):Prop :=
 Rep K hd O H v t\/(∃a vs ds,v=.ref a/\t=.list ds/\H a=some (.lst vs)/\Reps K hd O H vs ds/\hd≠some a)\/∃a zs ep ks,v=.ref a/\t=.dict (Yw ks)/\H a=some (ZDO a zs ep)/\RepsT K hd O H zs ks/\hd≠some a
def DL(X:Cx)(e:Expr)(d:DTE):Prop:=∃te,PE X e te/\∀(C:Ctx) (ρ:En) (σ:St) (H:Hp) (n:Nat) (Q:VK) (R:qN),Stt X.K C ρ σ H n->d ρ n R ->
 (∀t n' v H',R t n'->ExtE C.hd H H'->Hn C.hd H' n'->RepT X.K C.hd (Own C ρ σ) H' v t->Q v H')->te σ H Q
def DN(X:Cx)(e:Expr)(d:DTA):Prop:=∃te,PE X e te/\∀(C:Ctx) (ρ:En) (σ:St) (H:Hp) (n:Nat) (Q:VK) (R:List PyData->Nat->Prop),Stt X.K C ρ σ H n->d ρ n R ->
 (∀ts n' p vs H',R ts n'->ExtE C.hd H H'->Hn C.hd H' n'->H p=none->H' p=some (.lst vs)->Reps X.K C.hd (fun a=>Own C ρ σ a\/a=p) H' vs ts->Q (.ref p) H')->te σ H Q
def DT(X:Cx)(e:Expr)(d:DTT):Prop:=∃te,PT X e te/\∀(C:Ctx) (ρ:En) (σ:St) (H:Hp) (n:Nat) (Q:Bool->Hp->Prop) (R:Bool->Nat->Prop),Stt X.K C ρ σ H n->d ρ n R ->
 (∀b n' H',R b n'->ExtE C.hd H H'->Hn C.hd H' n'->Q b H')->te σ H Q
def DW(X:Cx)(e:Expr)(d:DTT):Prop:=∃te,PW X e te/\∀(C:Ctx) (ρ:En) (σ:St) (H:Hp) (n:Nat) (Q:Bool->Hp->Prop) (R:Bool->Nat->Prop),Stt X.K C ρ σ H n->d ρ n R ->
 (∀b n' H',R b n'->ExtE C.hd H H'->Hn C.hd H' n'->Q b H')->te σ H Q
def DB(X:Cx)(es:List Expr)(d:DTA):Prop:=∃ta,PB X es ta/\∀(C:Ctx) (ρ:En) (σ:St) (H:Hp) (n:Nat) (Q:List V->Hp->Prop) (R:List PyData->Nat->Prop),Stt X.K C ρ σ H n->d ρ n R ->
 (∀ts n' vs H',R ts n'->ExtE C.hd H H'->Hn C.hd H' n'->Reps X.K C.hd (Own C ρ σ) H' vs ts->ts.length=es.length->Q vs H')->ta σ H Q
section
variable{X:Cx}{e a b c:Expr}{es:List Expr}{d da db dc:DTE}{pos:Pos}
theorem dl(h:DE X e d):DL X e d:=by
 obtain⟨te,p,h⟩:=h;exact⟨te,p,fun C ρ σ H n Q R S hd hq=>h C ρ σ H n Q R S hd fun t n' v H' r e h1 h2=>hq t n' v H' r e h1 (.inl h2)⟩
def dNew(d:DTA):DTE:=fun ρ n R=>d ρ n fun ts n'=>R (.list ts) n'
theorem Jp{d:DTA}(h:DN X e d):DE X e (dNew d):=by
 obtain⟨te,p,h⟩:=h;refine⟨te,p,fun C ρ σ H n Q R S hd hq=>h C ρ σ H n Q _ S hd fun ts n' p vs H' r e h1 h2 h3 h4=>hq _ n' _ H' r e h1 (.lst h3 (S.free h2) (h4.mono (fun _ _ _ z=>.inl z) fun _ _ _ z=>z))⟩
def dVar(i:Nat):DTE:=fun ρ n R=>match ρ[i]? with|some (some (Cell.val d))=>R d n|_=>False
def dOwn(i:Nat):DTE:=fun ρ n R=>match ρ[i]? with|some (some (Cell.own d))=>R (.list d) n|_=>False
def dC(t:PyData):DTE:=fun _ n R=>R t n
theorem Ja(i:Nat){x:Str}{pos:Pos}(hN:X.N[i]?=some x:=by rfl)(hv:Vis X.env.scope x:=by walk_at "V")(hd:(x == ("__debug__":Str))=false:=by decide)
  (hcd:(x == ("__classdict__":Str))=false:=by decide):DE X (.Name x pos) (dVar i):=by
 refine⟨_,U9 hN hv hd hcd,fun C ρ σ H n Q R S h hq=>?_⟩
 unfold dVar at h;split at h
 ·rename_i d e;obtain⟨v,h1,h2⟩:=S.val i d e;exact⟨v,h1,hq d n v H h ExtE.refl S.hnd h2⟩
 ·exact h.elim
theorem Zb(i:Nat){x:Str}{pos:Pos}(hN:X.N[i]?=some x:=by rfl)(hv:Vis X.env.scope x:=by walk_at "V")(hd:(x == ("__debug__":Str))=false:=by decide)
  (hcd:(x == ("__classdict__":Str))=false:=by decide):DL X (.Name x pos) (dOwn i):=by
 refine⟨_,U9 hN hv hd hcd,fun C ρ σ H n Q R S h hq=>?_⟩
 unfold dOwn at h;split at h
 ·rename_i ds e;obtain⟨p,vs,h1,h2,h3,h4⟩:=S.own i ds e;exact⟨.ref p,h1,hq _ n _ H h ExtE.refl S.hnd (.inr (.inl ⟨p,vs,ds,rfl,rfl,h2,h3,fun z=>h4 (S.hx p z)⟩))⟩
 ·exact h.elim
theorem Jc{i j pos}:DE X (.Constant (.int i) j pos) (dC (.int i)):=⟨_,JF,fun _ _ _ H n _ _ S h hq=>hq _ n _ H h ExtE.refl S.hnd (.int i)⟩
theorem JB{b j pos}:DE X (.Constant (.bool b) j pos) (dC (.bool b)):=⟨_,zsc,fun _ _ _ H n _ _ S h hq=>hq _ n _ H h ExtE.refl S.hnd (.bl b)⟩
theorem ZD{j pos}:DE X (.Constant .none j pos) (dC .none):=⟨_,zpe,fun _ _ _ H n _ _ S h hq=>hq _ n _ H h ExtE.refl S.hnd .non⟩
theorem J8{x j pos}:DE X (.Constant (.str x) j pos) (dC (.str x)):=⟨_,zo_,fun _ _ _ H n _ _ S h hq=>hq _ n _ H h ExtE.refl S.hnd (.str x)⟩
end
section
variable{K:qF}{hd:Option Addr}{O:Addr->Prop}{H H':Hp}{v:V}{t:PyData}{n:Nat}
theorem Same.ext(h:Same H H'):ExtE hd H H':=fun a o e _=>h a o e
theorem Hn.same(h:Hn hd H n)(s:Same H H'):Hn hd H' n:=fun a e=>by
 obtain⟨d,m,t,q,r⟩:=h a e;exact⟨d,m,t,s _ _ q,r⟩
theorem Reps.same{vs ts}(s:Same H H')(r:Reps K hd O H vs ts):Reps K hd O H' vs ts:=r.mono (fun _ _ _ z=>z) fun a o _ h=>s a o h
theorem ExtE.repT{C:Ctx}{ρ:En}{σ:St}(e:ExtE C.hd H H')(hx:∀a,C.hd=some a->C.ext a)(r:RepT K C.hd (Own C ρ σ) H v t):RepT K C.hd (Own C ρ σ) H' v t:=by
 rcases r with r|⟨a,vs,ds,h1,h2,h3,h4,h5⟩|⟨a,zs,ep,ks,h1,h2,h3,h4,h5⟩
 ·exact .inl (e.rep hx r)
 ·exact .inr (.inl ⟨a,vs,ds,h1,h2,e _ _ h3 h5,e.reps hx h4,h5⟩)
 ·exact .inr (.inr ⟨a,zs,ep,ks,h1,h2,e _ _ h3 h5,h4.mono (fun _ _ _ z=>z) (fun a o no h=>e a o h fun z=>no (.inl (hx a z))),h5⟩)
theorem RepT.lstI{ds}(h:RepT K hd O H v (.list ds)):∃a vs,v=.ref a/\H a=some (.lst vs)/\Reps K hd O H vs ds:=by
 rcases h with h|⟨a,vs,es,h1,h2,h3,h4,_⟩|⟨a,vs,ep,es,h1,h2,h3,h4,_⟩
 ·obtain⟨a,vs,h1,h2,_,h3⟩:=h.lstI;exact⟨a,vs,h1,h2,h3⟩
 ·cases h2;exact⟨a,vs,h1,h3,h4⟩
 ·cases h2
theorem RepT.tupI{ds}(h:RepT K hd O H v (.tuple ds)):∃a vs,v=.ref a/\SqT K H a vs/\Reps K hd O H vs ds:=by
 rcases h with h|⟨a,vs,es,h1,h2,h3,h4,_⟩|⟨a,vs,ep,es,h1,h2,h3,h4,_⟩
 ·exact h.tupI
 ·cases h2
 ·cases h2
theorem RepT.rep(h:RepT K hd O H v t)(nl:∀ds,t≠.list ds)(nd:∀ks,t≠.dict (Yw ks):=by intro ks z;first|cases z|exact dict_noT (PyData.dict.inj z)):Rep K hd O H v t:=by
 rcases h with h|⟨a,vs,es,h1,h2,h3,h4,_⟩|⟨a,vs,ep,es,h1,h2,h3,h4,_⟩
 ·exact h
 ·exact absurd h2 (nl es)
 ·exact absurd h2 (nd es)
theorem RepT.intI{i}(h:RepT K hd O H v (.int i)):v=.int i:=(h.rep (by intro _ z;cases z)).intI
theorem RepT.blI{i}(h:RepT K hd O H v (.bool i)):v=.bl i:=(h.rep (by intro _ z;cases z)).blI
theorem RepT.strI{i}(h:RepT K hd O H v (.str i)):v=.str i:=(h.rep (by intro _ z;cases z)).strI
theorem RepT.nonI(h:RepT K hd O H v .none):v=.non:=(h.rep (by intro _ z;cases z)).nonI
theorem Rep.newT{p:Addr}{vs ts}(no:¬O p)(h:H p=none)(r:Reps K hd O H vs ts):Rep K hd O (upd H p (.tup vs)) (.ref p) (.tuple ts) :=
 .tup J1 no (r.same (fun b u e=>by rw[Jy (Q7 e h)];exact e))
end
theorem JU{H:Hp}{p:Addr}{o:HO}(h:H p=none):Same H (upd H p o):=fun b u e=>by
 rw[Jy (Q7 e h)];exact e
abbrev G2:=PyData->PyData->(PyData->Prop)->Prop
def dOp(g:G2)(da db:DTE):DTE:=fun ρ n R=>da ρ n fun x n1=>db ρ n1 fun y n2=>g x y fun z=>R z n2
def Gp2(X:Cx)(r:R2)(g:G2):Prop:=∀(hd:Option Addr) (O:Addr->Prop) (H:Hp) (x y:V) (t u:PyData) (Q:VK) (R:PyData->Prop),(∀p,O p->H p≠none)->RepT X.K hd O H x t->RepT X.K hd O H y u->g t u R ->
 (∀z v H',R z->Same H H'->Rep X.K hd O H' v z->Q v H')->r x y H Q
section
variable{X:Cx}{a b c:Expr}{da db dc:DTE}{pos:Pos}{r r':R2}{g g':G2}
theorem two{C:Ctx}{ρ:En}{σ:St}{H:Hp}{n:Nat}{ta tb:TE}(ha:∀(C:Ctx) (ρ:En) (σ:St) (H:Hp) (n:Nat) (Q:VK) (R:qN),Stt X.K C ρ σ H n->da ρ n R ->
  (∀t n' v H',R t n'->ExtE C.hd H H'->Hn C.hd H' n'->RepT X.K C.hd (Own C ρ σ) H' v t->Q v H')->ta σ H Q)
  (hb:∀(C:Ctx) (ρ:En) (σ:St) (H:Hp) (n:Nat) (Q:VK) (R:qN),Stt X.K C ρ σ H n->db ρ n R ->
  (∀t n' v H',R t n'->ExtE C.hd H H'->Hn C.hd H' n'->RepT X.K C.hd (Own C ρ σ) H' v t->Q v H')->tb σ H Q)
  {Q2:V->V->Hp->Prop} {R2:PyData->PyData->Nat->Prop} (S:Stt X.K C ρ σ H n) (h:da ρ n fun x n1=>db ρ n1 fun y n2=>R2 x y n2)
  (hq:∀x y n2 v w H2,R2 x y n2->ExtE C.hd H H2->Stt X.K C ρ σ H2 n2->RepT X.K C.hd (Own C ρ σ) H2 v x->RepT X.K C.hd (Own C ρ σ) H2 w y->Q2 v w H2) :
  ta σ H fun v H1=>tb σ H1 fun w H2=>Q2 v w H2:=by
 refine ha C ρ σ H n _ _ S h fun t n1 v H1 r1 e1 h1 q1=>?_
 have S1:=S.on e1 h1;refine hb C ρ σ H1 n1 _ _ S1 r1 fun u n2 w H2 r2 e2 h2 q2=>?_
 exact hq t u n2 v w H2 r2 (e1.trans e2) (S1.on e2 h2) (e2.repT S.hx q1) q2
theorem Q8{op:Operator}(ho:OpR X (binaryOp op) r)(hg:Gp2 X r g)(ha:DL X a da)(hb:DL X b db):DE X (.BinOp a op b pos) (dOp g da db):=by
 obtain⟨ta,pa,ha⟩:=ha;obtain⟨tb,pb,hb⟩:=hb;refine⟨_,JD ho pa pb,fun C ρ σ H n Q R S h hq=>?_⟩
 refine two ha hb S h fun x y n2 v w H2 r2 e S2 q1 q2=>?_
 exact hg C.hd (Own C ρ σ) H2 v w x y Q _ (fun p=>S2.dom) q1 q2 r2 fun z u H' rz sm rp=>hq z n2 u H' rz (e.trans sm.ext) (S2.hnd.same sm) rp
theorem Uc{op:CmpOp}(ho:OpR X (compareOp op) r)(hg:Gp2 X r g)(ha:DL X a da)(hb:DL X b db)(hm:behindInMarks op b=false):DE X (.Compare a [op] [b] pos) (dOp g da db):=by
 obtain⟨ta,pa,ha⟩:=ha;obtain⟨tb,pb,hb⟩:=hb;refine⟨_,zjO ho pa pb hm,fun C ρ σ H n Q R S h hq=>?_⟩
 refine two ha hb S h fun x y n2 v w H2 r2 e S2 q1 q2=>?_
 exact hg C.hd (Own C ρ σ) H2 v w x y Q _ (fun p=>S2.dom) q1 q2 r2 fun z u H' rz sm rp=>hq z n2 u H' rz (e.trans sm.ext) (S2.hnd.same sm) rp
def Ur(d:DTE):DTT:=fun ρ n R=>d ρ n fun t n'=>match t with|.bool k=>R k n'|_=>False
theorem Js{op:CmpOp}(ho:OpR X (compareOp op) r)(hg:Gp2 X r g)(ha:DL X a da)(hb:DL X b db)(hm:behindInMarks op b=false):DT X (.Compare a [op] [b] pos) (Ur (dOp g da db)):=by
 obtain⟨ta,pa,ha⟩:=ha;obtain⟨tb,pb,hb⟩:=hb;refine⟨_,zhc ho pa pb hm,fun C ρ σ H n Q R S h hq=>?_⟩
 refine two ha hb S h fun x y n2 v w H2 r2 e S2 q1 q2=>?_
 refine hg C.hd (Own C ρ σ) H2 v w x y _ _ (fun p=>S2.dom) q1 q2 r2 fun z u H' rz sm rp=>?_
 cases z with
 | bool k =>
  cases rp;exact⟨k,rfl,hq k n2 H' rz (e.trans sm.ext) (S2.hnd.same sm)⟩
 | _=>exact rz.elim
def Yy(g g':G2)(da db dc:DTE):DTE:=fun ρ n R=>da ρ n fun x n1=>db ρ n1 fun y n2=>g x y fun z=>match z with
 | .bool true=>dc ρ n2 fun w n3=>g' y w fun z=>R z n3
 | .bool false=>R (.bool false) n2
 | _=>False
def gI(C:Int->Int->Prop)(f:Int->Int->Int):G2
 | .int i,.int j,R=>C i j/\R (.int (f i j))
 | _,_,_=>False
def gB(f:Int->Int->Bool):G2
 | .int i,.int j,R=>R (.bool (f i j))
 | _,_,_=>False
theorem gp_I{C:Int->Int->Prop}{f:Int->Int->Int}:Gp2 X (rI C fun i j=>.int (f i j)) (gI C f):=by
 intro hd O H x y t u Q R dom rx ry h hq;unfold gI at h;split at h
 ·rename_i i j;exact⟨i,j,rx.intI,ry.intI,h.1,hq _ _ H h.2 (Same.refl H) (.int _)⟩
 ·exact h.elim
def gI0(f:Int->Int->Int):G2
 | .int i,.int j,R=>R (.int (f i j))
 | _,_,_=>False
theorem zqu{f:Int->Int->Int}:Gp2 X (rI0 fun i j=>.int (f i j)) (gI0 f):=by
 intro hd O H x y t u Q R dom rx ry h hq;unfold gI0 at h;split at h
 ·rename_i i j;exact⟨i,j,rx.intI,ry.intI,hq _ _ H h (Same.refl H) (.int _)⟩
 ·exact h.elim
theorem gp_B{f:Int->Int->Bool}:Gp2 X (rI0 fun i j=>.bl (f i j)) (gB f):=by
 intro hd O H x y t u Q R dom rx ry h hq;unfold gB at h;split at h
 ·rename_i i j;exact⟨i,j,rx.intI,ry.intI,hq _ _ H h (Same.refl H) (.bl _)⟩
 ·exact h.elim
end
section
variable{X:Cx}{a b c:Expr}{da db dc:DTE}{pos:Pos}
def oSub:=gI0 fun i j=>i - j
def oMod:=gI (fun _ j=>0<j) fun i j=>i % j
def Ua:=gI Y2 fun i j=>i / j
def oShl:=gI CPow fun i j=>i*2 ^ j.toNat
def oShr:=gI (fun _ j=>0<=j) fun i j=>i / 2 ^ j.toNat
def oXor:=gI0 Builtin.bitXor
theorem Ya(ha:DL X a da)(hb:DL X b db):DE X (.BinOp a .Sub b pos) (dOp oSub da db):=Q8 zpj zqu ha hb
theorem ZA(ha:DL X a da)(hb:DL X b db):DE X (.BinOp a .Mod b pos) (dOp oMod da db):=Q8 U8 gp_I ha hb
theorem zn9(ha:DL X a da)(hb:DL X b db):DE X (.BinOp a .FloorDiv b pos) (dOp Ua da db):=Q8 ZU gp_I ha hb
theorem J7(ha:DL X a da)(hb:DL X b db):DE X (.BinOp a .LShift b pos) (dOp oShl da db):=Q8 zpl gp_I ha hb
theorem zqG(ha:DL X a da)(hb:DL X b db):DE X (.BinOp a .RShift b pos) (dOp oShr da db):=Q8 zpk gp_I ha hb
theorem zqF(ha:DL X a da)(hb:DL X b db):DE X (.BinOp a .BitXor b pos) (dOp oXor da db):=Q8 zpi zqu ha hb
end
section
variable{X:Cx}{pins:qO}{σ:St}{H:Hp}{s:Shared}{hd:Option Addr}{O:Addr->Prop}
theorem RepT.reads(I:Inv X pins σ H s){v:V}{d:PyData}{u:Value}(h:RepT X.K hd O H v d)(r:RelV v u)(e:d.hasDict=false):∃as,Reads s.heap u d as:=by
 rcases h with h|⟨a,vs,ds,rfl,rfl,h3,h4,_⟩|⟨a,zs,ep,ks,rfl,rfl,h3,h4,_⟩
 rotate_left 2
 ·simp[PyData.hasDict]at e
 ·exact h.reads I r e
 ·cases r;obtain⟨its,rv,p,_⟩:=I.list (xs:=vs) (.inl (.inl h3));obtain⟨o,n,ho,hc,_,hdat⟩:=p;obtain⟨as,ra⟩:=Reps.reads I h4 rv (by simpa[PyData.hasDict] using e)
  exact⟨_,.list ho hc hdat (by simpa using ra)⟩
end
def Okd(t:PyData):Prop:=t.canLay0=true/\t.depth<=60
section
variable{X:Cx}{a b c:Expr}{da db dc:DTE}{pos:Pos}{k:Nat}
def rEqD(K:qF)(neg:Bool):R2:=fun x y H Q=>∃hd O t u,RepT K hd O H x t/\RepT K hd O H y u/\Okd t/\Okd u/\Q (.bl (if neg then !t.eqv u else t.eqv u)) H
theorem zpr(hr:Room k X.A):OpR X (compareOp .Eq) (rEqD X.K false):=by
 intro pins s σ H x y v u Q I rx ry h;obtain⟨hd,O,t,w,h1,h2,h3,h4,q⟩:=h;obtain⟨as,ra⟩:=h1.reads I rx (PyData.hasDict_of_canLay _ h3.1);obtain⟨bs,rb⟩:=h2.reads I ry (PyData.hasDict_of_canLay _ h4.1);refine SeqAt.compareEq_reads ra rb h3.1 h4.1 ?_ ⟨.bl _,H,I,rfl,q⟩;have:=hr.un;have:=h3.2;omega
theorem zpn(hr:Room k X.A):OpR X (compareOp .NotEq) (rEqD X.K true):=by
 intro pins s σ H x y v u Q I rx ry h;obtain⟨hd,O,t,w,h1,h2,h3,h4,q⟩:=h;obtain⟨as,ra⟩:=h1.reads I rx (PyData.hasDict_of_canLay _ h3.1);obtain⟨bs,rb⟩:=h2.reads I ry (PyData.hasDict_of_canLay _ h4.1);refine SeqAt.compareNe_reads ra rb h3.1 h4.1 ?_ ⟨.bl _,H,I,rfl,q⟩;have:=hr.un;have:=h3.2;omega
def oEq:G2
 | .int i,.int j,R=>R (.bool (decide (i=j)))
 | .str i,.str j,R=>R (.bool (decide (i=j)))
 | .bool i,.bool j,R=>R (.bool (decide (i=j)))
 | t,u,R=>Okd t/\Okd u/\R (.bool (t.eqv u))
def oNe:G2
 | .int i,.int j,R=>R (.bool (!decide (i=j)))
 | .str i,.str j,R=>R (.bool (!decide (i=j)))
 | .bool i,.bool j,R=>R (.bool (!decide (i=j)))
 | t,u,R=>Okd t/\Okd u/\R (.bool (!t.eqv u))
def rEqA(K:qF):R2:=fun x y H Q=>rEq x y H Q\/rEqD K false x y H Q
def rNeA(K:qF):R2:=fun x y H Q=>rNe x y H Q\/rEqD K true x y H Q
theorem Qy(hr:Room k X.A):OpR X (compareOp .Eq) (rEqA X.K):=OpR.or zsg (zpr hr)
theorem QK(hr:Room k X.A):OpR X (compareOp .NotEq) (rNeA X.K):=OpR.or zse (zpn hr)
theorem Qw:Gp2 X (rEqA X.K) oEq:=by
 intro hd O H x y t u Q R dom rx ry h hq;unfold oEq at h;split at h
 ·rename_i i j;rw[rx.intI,ry.intI];refine .inl ⟨rfl,?_⟩;have e:decide (V.int i=V.int j)=decide (i=j):=decide_eq_decide.mpr ⟨fun z=>by cases z;rfl,fun z=>by rw[z]⟩
  rw[e];exact hq _ _ H h (Same.refl H) (.bl _)
 ·rename_i i j;rw[rx.strI,ry.strI];refine .inl ⟨rfl,?_⟩;have e:decide (V.str i=V.str j)=decide (i=j):=decide_eq_decide.mpr ⟨fun z=>by cases z;rfl,fun z=>by rw[z]⟩
  rw[e];exact hq _ _ H h (Same.refl H) (.bl _)
 ·rename_i i j;rw[rx.blI,ry.blI];refine .inl ⟨rfl,?_⟩;have e:decide (V.bl i=V.bl j)=decide (i=j):=decide_eq_decide.mpr ⟨fun z=>by cases z;rfl,fun z=>by rw[z]⟩
  rw[e];exact hq _ _ H h (Same.refl H) (.bl _)
 ·exact .inr ⟨hd,O,_,_,rx,ry,h.1,h.2.1,hq _ _ H h.2.2 (Same.refl H) (.bl _)⟩
theorem QG:Gp2 X (rNeA X.K) oNe:=by
 intro hd O H x y t u Q R dom rx ry h hq;unfold oNe at h;split at h
 ·rename_i i j;rw[rx.intI,ry.intI];refine .inl ⟨rfl,?_⟩;have e:decide (V.int i=V.int j)=decide (i=j):=decide_eq_decide.mpr ⟨fun z=>by cases z;rfl,fun z=>by rw[z]⟩
  rw[e];exact hq _ _ H h (Same.refl H) (.bl _)
 ·rename_i i j;rw[rx.strI,ry.strI];refine .inl ⟨rfl,?_⟩;have e:decide (V.str i=V.str j)=decide (i=j):=decide_eq_decide.mpr ⟨fun z=>by cases z;rfl,fun z=>by rw[z]⟩
  rw[e];exact hq _ _ H h (Same.refl H) (.bl _)
 ·rename_i i j;rw[rx.blI,ry.blI];refine .inl ⟨rfl,?_⟩;have e:decide (V.bl i=V.bl j)=decide (i=j):=decide_eq_decide.mpr ⟨fun z=>by cases z;rfl,fun z=>by rw[z]⟩
  rw[e];exact hq _ _ H h (Same.refl H) (.bl _)
 ·exact .inr ⟨hd,O,_,_,rx,ry,h.1,h.2.1,hq _ _ H h.2.2 (Same.refl H) (.bl _)⟩
def isNone:PyData->Bool
 | .none=>true
 | _=>false
def oIsN:G2
 | .bool a,.bool b,R=>R (.bool (a != b))
 | t,.none,R=>R (.bool (!isNone t))
 | _,_,_=>False
def rIsN:R2:=fun x y H Q=>(y=.non/\Q (.bl (!decide (x=.non))) H)\/∃a b,x=.bl a/\y=.bl b/\Q (.bl (a != b)) H
theorem znp:OpR X (compareOp .IsNot) rIsN:=OpR.or znm zjV
theorem RepT.isN{K:qF}{hd:Option Addr}{O:Addr->Prop}{H:Hp}{v:V}{t:PyData}(h:RepT K hd O H v t):decide (v=.non)=(isNone t):=by
 rcases h with h|⟨a,vs,ds,rfl,rfl,h3,h4,_⟩|⟨a,zs,ep,ks,rfl,rfl,h3,h4,_⟩
 ·cases h <;> simp[HAND,SCR,isNone]
 ·simp[isNone]
 ·simp[isNone]
theorem znZ:Gp2 X rIsN oIsN:=by
 intro hd O H x y t u Q R dom rx ry h hq;unfold oIsN at h;split at h
 ·rename_i i j;exact .inr ⟨i,j,rx.blI,ry.blI,hq _ _ H h (Same.refl H) (.bl _)⟩
 ·refine .inl ⟨ry.nonI,?_⟩;rw[rx.isN];exact hq _ _ H h (Same.refl H) (.bl _)
 ·exact h.elim
def oLtA:G2
 | .int i,.int j,R=>R (.bool (decide (i<j)))
 | .str i,.str j,R=>R (.bool (decide (i.cps.toList<j.cps.toList)))
 | .tuple xs,.tuple ys,R=>∃ns ms,xs=ns.map PyData.int/\ys=ms.map PyData.int/\R (.bool (HT.lexLt ns ms))
 | _,_,_=>False
def rLtA(K:qF):R2:=fun x y H Q=>(rI0 fun i j=>.bl (decide (i<j))) x y H Q\/(∃i j,x=.str i/\y=.str j/\Q (.bl (decide (i.cps.toList<j.cps.toList))) H)\/rLtT K x y H Q
theorem QT(hr:Room k X.A):OpR X (compareOp .Lt) (rLtA X.K):=OpR.or zpp (OpR.or zjT (zpo hr.units0))
theorem zd7{K:qF}{hd:Option Addr}{O:Addr->Prop}{H:Hp}:∀{ns:List Int}{vs:List V},Reps K hd O H vs (ns.map PyData.int)->vs=ns.map V.int
 | [],_,h=>by cases h;rfl
 | n::ns,_,h=>by
  cases h with
  | cons h r=>rw[h.intI,zd7 r];rfl
theorem QS:Gp2 X (rLtA X.K) oLtA:=by
 intro hd O H x y t u Q R dom rx ry h hq;unfold oLtA at h;split at h
 ·exact .inl ⟨_,_,rx.intI,ry.intI,hq _ _ H h (Same.refl H) (.bl _)⟩
 ·exact .inr (.inl ⟨_,_,rx.strI,ry.strI,hq _ _ H h (Same.refl H) (.bl _)⟩)
 ·obtain⟨ns,ms,rfl,rfl,h⟩:=h;obtain⟨p,vs,e1,s1,r1⟩:=rx.tupI;obtain⟨q,ws,e2,s2,r2⟩:=ry.tupI;rw[zd7 r1]at s1;rw[zd7 r2]at s2;exact .inr (.inr ⟨p,q,ns,ms,e1,e2,s1,s2,hq _ _ H h (Same.refl H) (.bl _)⟩)
 ·exact h.elim
def oLeA:G2
 | .int i,.int j,R=>R (.bool (decide (i<=j)))
 | .str i,.str j,R=>R (.bool (!decide (j.cps.toList<i.cps.toList)))
 | _,_,_=>False
def rLeA:R2:=fun x y H Q=>(rI0 fun i j=>.bl (decide (i<=j))) x y H Q\/(∃i j,x=.str i/\y=.str j/\Q (.bl (!decide (j.cps.toList<i.cps.toList))) H)
theorem zjU:OpR X (compareOp .LtE) (fun x y H Q=>∃i j,x=.str i/\y=.str j/\Q (.bl (!decide (j.cps.toList<i.cps.toList))) H):=by
 intro pins s σ H x y v u Q I rx ry h;obtain⟨i,j,rfl,rfl,q⟩:=h;obtain⟨t,rfl⟩:=rx;obtain⟨t',rfl⟩:=ry;exact PySem.P.le_str ⟨.bl _,H,I,rfl,q⟩
theorem Qa:OpR X (compareOp .LtE) rLeA:=OpR.or zsf zjU
theorem J9:Gp2 X rLeA oLeA:=by
 intro hd O H x y t u Q R dom rx ry h hq;unfold oLeA at h;split at h
 ·exact .inl ⟨_,_,rx.intI,ry.intI,hq _ _ H h (Same.refl H) (.bl _)⟩
 ·exact .inr ⟨_,_,rx.strI,ry.strI,hq _ _ H h (Same.refl H) (.bl _)⟩
 ·exact h.elim
variable{r r':R2}{g g':G2}
theorem ZQ{op op':CmpOp}(ho:OpR X (compareOp op) r)(hg:Gp2 X r g)(ho':OpR X (compareOp op') r')(hg':Gp2 X r' g')(ha:DL X a da)(hb:DL X b db)(hc:DL X c dc)
  (hm:lastMarks [op,op'] [b,c]=false:=by with_unfolding_all rfl):DE X (.Compare a [op,op'] [b,c] pos) (Yy g g' da db dc):=by
 obtain⟨ta,pa,ha⟩:=ha;obtain⟨tb,pb,hb⟩:=hb;obtain⟨tc,pc,hc⟩:=hc;refine⟨_,zlF ho ho' pa pb pc hm,fun C ρ σ H n Q R S h hq=>?_⟩
 refine two ha hb S h fun x y n2 v w H2 r2 e S2 q1 q2=>?_
 refine hg C.hd (Own C ρ σ) H2 v w x y _ _ (fun p=>S2.dom) q1 q2 r2 fun z u H' rz sm rp=>?_
 have S3:=S2.on sm.ext (S2.hnd.same sm);cases z with
 | bool k =>
  cases rp;refine⟨k,rfl,?_⟩;cases k with
  | false=>exact iteF (hq _ n2 _ H' rz (e.trans sm.ext) S3.hnd (.bl _))
  | true =>
   refine iteT (hc C ρ σ H' n2 _ _ S3 rz fun z2 n3 w2 H4 r4 e4 h4 q4=>?_)
   have S4:=S3.on e4 h4;have q2':=e4.repT S.hx ((Same.ext sm:ExtE C.hd H2 H').repT S.hx q2);exact hg' C.hd (Own C ρ σ) H4 w w2 y z2 Q _ (fun p=>S4.dom) q2' q4 r4 fun z u H' rz sm' rp=>hq z n3 u H' rz (((e.trans sm.ext).trans e4).trans sm'.ext) (S4.hnd.same sm') rp
 | _=>exact rz.elim
end
section
variable{X:Cx}{a b c e:Expr}{es rest:List Expr}{d da db dc:DTE}{t u:DTT}{pos p:Pos}{k:Nat}
def truD:PyData->(Bool->Prop)->Prop
 | .none,R=>R false
 | .bool b,R=>R b
 | .int i,R=>R (decide (i≠0))
 | .str x,R=>x.length<=16777216/\R (decide (x.length≠0))
 | .list ts,R=>R (!ts.isEmpty)
 | .tuple ts,R=>R (!ts.isEmpty)
 | _,_=>False
def dTru(d:DTE):DTT:=fun ρ n R=>d ρ n fun t n'=>truD t fun b=>R b n'
theorem zmo{K:qF}{hd:Option Addr}{O:Addr->Prop}{H:Hp}{v:V}{t:PyData}{Q:Bool->Hp->Prop}{R:Bool->Prop}(r:RepT K hd O H v t)(h:truD t R)(hq:∀b,R b->Q b H):∃k,TruV K v H k/\Q k H:=by
 cases t with
 | none=>exact⟨false,by rw[r.nonI];rfl,hq _ h⟩
 | bool b=>exact⟨b,by rw[r.blI];rfl,hq _ h⟩
 | int i=>exact⟨decide (i≠0),by rw[r.intI];show _=(i != 0);by_cases z:i=0 <;> simp[z],hq _ h⟩
 | str x =>
  refine⟨decide (x.length≠0),by rw[r.strI];exact⟨h.1,by by_cases z:x.length=0 <;> simp[z]⟩,hq _ h.2⟩
 | list ts =>
  obtain⟨p,vs,e,h1,h2⟩:=r.lstI;subst e;refine⟨!ts.isEmpty,.inl ⟨vs,.of h1,?_⟩,hq _ h⟩;cases h2 <;> rfl
 | tuple ts =>
  obtain⟨p,vs,e,h1,h2⟩:=r.tupI;subst e;refine⟨!ts.isEmpty,.inr (.inl ⟨vs,h1,?_⟩),hq _ h⟩;cases h2 <;> rfl
 | dict _=>exact h.elim
theorem JK(ha:DL X a da)(he:∀whole,isTrue a X.env whole=(do let v <- whole;standAt a.pos;holding [v] (truthy v)):=by intro _;rfl):DT X a (dTru da):=by
 obtain⟨ta,pa,ha⟩:=ha;refine⟨_,zlv pa he,fun C ρ σ H n Q R S h hq=>?_⟩
 refine ha C ρ σ H n _ _ S h fun t n' v H' r e1 h1 q=>?_
 exact zmo q r fun b rb=>hq b n' H' rb e1 h1
def dAnd(t u:DTT):DTT:=fun ρ n R=>t ρ n fun b n1=>if b=true then u ρ n1 R else R false n1
def dOr(t u:DTT):DTT:=fun ρ n R=>t ρ n fun b n1=>if b=true then R true n1 else u ρ n1 R
def dNot(t:DTT):DTT:=fun ρ n R=>t ρ n fun b n1=>R (!b) n1
theorem JR(h:DW X a t):DT X a t:=by
 obtain⟨ta,pa,h⟩:=h;exact⟨_,pa.pt,h⟩
theorem YN(h:DT X a t):DW X (.BoolOp .And [a] pos) t:=by
 obtain⟨ta,pa,h⟩:=h;exact⟨_,zm6 pa,h⟩
theorem Qf(h:DT X a t):DW X (.BoolOp .Or [a] pos) t:=by
 obtain⟨ta,pa,h⟩:=h;exact⟨_,zoY pa,h⟩
theorem Yz(h:DT X a t)(h':DW X (.BoolOp .And (b::rest) pos) u):DW X (.BoolOp .And (a::b::rest) pos) (dAnd t u):=by
 obtain⟨ta,pa,h⟩:=h;obtain⟨tb,pb,h'⟩:=h';refine⟨_,zoZ pa pb,fun C ρ σ H n Q R S hd hq=>?_⟩
 refine h C ρ σ H n _ _ S hd fun b n1 H1 r e1 h1=>?_
 cases b with
 | true=>exact iteT (h' C ρ σ H1 n1 Q R (S.on e1 h1) (by simpa using r) fun b n2 H2 r e2 h2=>hq b n2 H2 r (e1.trans e2) h2)
 | false=>exact iteF (hq _ n1 H1 (by simpa using r) e1 h1)
theorem JV(h:DT X a t)(h':DW X (.BoolOp .Or (b::rest) pos) u):DW X (.BoolOp .Or (a::b::rest) pos) (dOr t u):=by
 obtain⟨ta,pa,h⟩:=h;obtain⟨tb,pb,h'⟩:=h';refine⟨_,zr8 pa pb,fun C ρ σ H n Q R S hd hq=>?_⟩
 refine h C ρ σ H n _ _ S hd fun b n1 H1 r e1 h1=>?_
 cases b with
 | false=>exact iteF (h' C ρ σ H1 n1 Q R (S.on e1 h1) (by simpa using r) fun b n2 H2 r e2 h2=>hq b n2 H2 r (e1.trans e2) h2)
 | true=>exact iteT (hq _ n1 H1 (by simpa using r) e1 h1)
theorem JJ(h:DT X a t):DT X (.UnaryOp .Not a pos) (dNot t):=by
 obtain⟨ta,pa,h⟩:=h;refine⟨_,zo0 pa,fun C ρ σ H n Q R S hd hq=>?_⟩
 exact h C ρ σ H n _ _ S hd fun b n1 H1 r e1 h1=>hq _ n1 H1 r e1 h1
def bolD:PyData->(Bool->Prop)->Prop
 | .bool b,R=>R b
 | _,_=>False
def zoc(da db:DTE):DTE:=fun ρ n R=>da ρ n fun t n1=>bolD t fun b=>if b=true then db ρ n1 R else R (.bool false) n1
def dOrV(da db:DTE):DTE:=fun ρ n R=>da ρ n fun t n1=>bolD t fun b=>if b=true then R (.bool true) n1 else db ρ n1 R
def zob(da:DTE):DTE:=fun ρ n R=>da ρ n fun t n1=>bolD t fun b=>R (.bool (!b)) n1
theorem QJ{op}(h:DE X a d):DE X (.BoolOp op [a] pos) d:=by
 obtain⟨ta,pa,h⟩:=h;exact⟨_,zpc pa,h⟩
theorem QO(h:DE X a da)(h':DE X (.BoolOp .And (b::rest) pos) db):DE X (.BoolOp .And (a::b::rest) pos) (zoc da db):=by
 obtain⟨ta,pa,h⟩:=h;obtain⟨tb,pb,h'⟩:=h';refine⟨_,zpg pa pb,fun C ρ σ H n Q R S hd hq=>?_⟩
 refine h C ρ σ H n _ _ S hd fun t n1 v H1 r e1 h1 q1=>?_
 cases t with
 | bool b =>
  cases q1;refine⟨b,rfl,?_⟩;cases b with
  | true=>exact iteT (h' C ρ σ H1 n1 Q R (S.on e1 h1) (by simpa[bolD] using r) fun t n2 v H2 r e2 h2 q2=>hq t n2 v H2 r (e1.trans e2) h2 q2)
  | false=>exact iteF (hq _ n1 _ H1 (by simpa[bolD] using r) e1 h1 (.bl _))
 | _=>exact r.elim
theorem zqI(h:DE X a da)(h':DE X (.BoolOp .Or (b::rest) pos) db):DE X (.BoolOp .Or (a::b::rest) pos) (dOrV da db):=by
 obtain⟨ta,pa,h⟩:=h;obtain⟨tb,pb,h'⟩:=h';refine⟨_,zsa pa pb,fun C ρ σ H n Q R S hd hq=>?_⟩
 refine h C ρ σ H n _ _ S hd fun t n1 v H1 r e1 h1 q1=>?_
 cases t with
 | bool b =>
  cases q1;refine⟨b,rfl,?_⟩;cases b with
  | false=>exact iteF (h' C ρ σ H1 n1 Q R (S.on e1 h1) (by simpa[bolD] using r) fun t n2 v H2 r e2 h2 q2=>hq t n2 v H2 r (e1.trans e2) h2 q2)
  | true=>exact iteT (hq _ n1 _ H1 (by simpa[bolD] using r) e1 h1 (.bl _))
 | _=>exact r.elim
theorem ZN(h:DE X a da):DE X (.UnaryOp .Not a pos) (zob da):=by
 obtain⟨ta,pa,h⟩:=h;refine⟨_,zpd pa,fun C ρ σ H n Q R S hd hq=>?_⟩
 refine h C ρ σ H n _ _ S hd fun t n1 v H1 r e1 h1 q1=>?_
 cases t with
 | bool b =>
  cases q1;exact⟨b,rfl,hq _ n1 _ H1 r e1 h1 (.bl _)⟩
 | _=>exact r.elim
def dNil:DTA:=fun _ n R=>R [] n
def US(d:DTE)(ds:DTA):DTA:=fun ρ n R=>d ρ n fun t n1=>ds ρ n1 fun ts n2=>R (t::ts) n2
theorem Je:DB X [] dNil:=⟨_,QV,fun C ρ σ H n Q R S h hq=>hq [] n [] H h ExtE.refl S.hnd .nil rfl⟩
theorem Jb{ds:DTA}(h:DE X e d)(hr:DB X es ds)(hs:starEach (e::es) X.env=(false,eval e X.env)::starEach es X.env):DB X (e::es) (US d ds):=by
 obtain⟨ta,pa,h⟩:=h;obtain⟨tb,pb,hr⟩:=hr;refine⟨_,Qu pa pb hs,fun C ρ σ H n Q R S hd hq=>?_⟩
 refine h C ρ σ H n _ _ S hd fun t n1 v H1 r e1 h1 q1=>?_
 refine hr C ρ σ H1 n1 _ _ (S.on e1 h1) r fun ts n2 vs H2 r2 e2 h2 q2 l2=>?_
 exact hq _ n2 _ H2 r2 (e1.trans e2) h2 (.cons (e2.rep S.hx q1) q2) (by simp[l2])
def Y3(K:qF)(hd:Option Addr)(O:Addr->Prop)(H:Hp):List V->List PyData->Prop:=Paired (RepT K hd O H)
def DBL(X:Cx)(es:List Expr)(d:DTA):Prop:=∃ta,PB X es ta/\∀(C:Ctx) (ρ:En) (σ:St) (H:Hp) (n:Nat) (Q:List V->Hp->Prop) (R:List PyData->Nat->Prop),Stt X.K C ρ σ H n->d ρ n R ->
 (∀ts n' vs H',R ts n'->ExtE C.hd H H'->Hn C.hd H' n'->Y3 X.K C.hd (Own C ρ σ) H' vs ts->ts.length=es.length->Q vs H')->ta σ H Q
theorem Jz:DBL X [] dNil:=⟨_,QV,fun C ρ σ H n Q R S h hq=>hq [] n [] H h ExtE.refl S.hnd .nil rfl⟩
theorem Jr{ds:DTA}(h:DL X e d)(hr:DBL X es ds)(hs:starEach (e::es) X.env=(false,eval e X.env)::starEach es X.env):DBL X (e::es) (US d ds):=by
 obtain⟨ta,pa,h⟩:=h;obtain⟨tb,pb,hr⟩:=hr;refine⟨_,Qu pa pb hs,fun C ρ σ H n Q R S hd hq=>?_⟩
 refine h C ρ σ H n _ _ S hd fun t n1 v H1 r e1 h1 q1=>?_
 refine hr C ρ σ H1 n1 _ _ (S.on e1 h1) r fun ts n2 vs H2 r2 e2 h2 q2 l2=>?_
 exact hq _ n2 _ H2 r2 (e1.trans e2) h2 (.cons (e2.repT S.hx q1) q2) (by simp[l2])
def dTup(ds:DTA):DTE:=fun ρ n R=>ds ρ n fun ts n1=>R (.tuple ts) n1
theorem Jj{x1:Nat}{ds:DTA}(h:DB X es ds)(hl:es.length<=sizeLine:=by decide):DE X (.Tuple es x1 pos) (dTup ds):=by
 obtain⟨ta,pa,h⟩:=h;refine⟨_,znf pa,fun C ρ σ H n Q R S hd hq=>?_⟩
 refine h C ρ σ H n _ _ S hd fun ts n1 vs H1 r e1 h1 q1 l1=>⟨by rw[q1.length,l1];exact hl,fun p hp=>?_⟩
 have S1:=S.on e1 h1;exact hq _ n1 _ _ r (e1.trans (ExtE.new hp)) (h1.same (JU hp)) (.newT (S1.free hp) hp q1)
theorem JL{ds:DTA}(h:DB X es ds)(hl:es.length<=sizeLine:=by decide):DN X (.List es pos) ds:=by
 obtain⟨ta,pa,h⟩:=h;refine⟨_,zjN pa,fun C ρ σ H n Q R S hd hq=>?_⟩
 refine h C ρ σ H n _ _ S hd fun ts n1 vs H1 r e1 h1 q1 l1=>⟨by rw[q1.length,l1];exact hl,fun p hp=>?_⟩
 have S1:=S.on e1 h1;have hp0:H p=none:=by
  cases z:H p with
  | none=>rfl
  | some o =>
   by_cases y:C.hd=some p
   ·obtain⟨d,m,t,q,_⟩:=h1 p y;rw[hp]at q;cases q
   ·rw[e1 p o z y]at hp;cases hp
 refine hq ts n1 p vs _ r (e1.trans (ExtE.new hp)) (h1.same (JU hp)) hp0 J1 ?_;refine q1.mono (fun b o hb z=>z.elim id fun z=>?_) fun b o _ hb=>JU hp b o hb
 subst z;rw[hp]at hb;cases hb
end
section
variable{X:Cx}{a b c e:Expr}{es rest:List Expr}{d da db dc:DTE}{ds:DTA}{pos p:Pos}{k:Nat}{x:Str}
abbrev GC:=List PyData->(PyData->Prop)->Prop
def Za(g:GC)(ds:DTA):DTE:=fun ρ n R=>ds ρ n fun ts n1=>g ts fun z=>R z n1
def GpC(X:Cx)(r:List V->Hp->VK->Prop)(g:GC):Prop:=∀(hd:Option Addr) (O:Addr->Prop) (H:Hp) (xs:List V) (ts:qD) (Q:VK) (R:PyData->Prop),(∀p,O p->H p≠none)->Y3 X.K hd O H xs ts->g ts R ->
 (∀z v H',R z->Same H H'->Rep X.K hd O H' v z->Q v H')->r xs H Q
theorem JG{id:String}{r:List V->Hp->VK->Prop}{g:GC}(hc:J5 X (.builtin id) r)(hgp:GpC X r g)(hm:X.mg x=none)(hv:bootBuiltins x=some (.builtin id))(h:DBL X (e::es) ds)(hg:Gl X x:=by rfl)(hn:x ≠ "__name__":=by decide) (hdb:(x == ("__debug__":Str))=false:=by decide) :
  DE X (.Call (.Name x p) (e::es) [] pos) (Za g ds):=by
 obtain⟨ta,pa,h⟩:=h;refine⟨_,Y5 hc hm hv pa hg hn hdb,fun C ρ σ H n Q R S hd hq=>?_⟩
 refine h C ρ σ H n _ _ S hd fun ts n1 vs H1 r1 e1 h1 q1 _=>?_
 have S1:=S.on e1 h1;exact hgp C.hd (Own C ρ σ) H1 vs ts Q _ (fun p=>S1.dom) q1 r1 fun z u H' rz sm rp=>hq z n1 u H' rz (e1.trans sm.ext) (h1.same sm) rp
theorem Y0{T:String}{r:List V->Hp->VK->Prop}{g:GC}(hc:J5 X (.type T) r)(hgp:GpC X r g)(hm:X.mg x=none)(hv:bootBuiltins x=some (.type T))(h:DBL X (e::es) ds)(hg:Gl X x:=by rfl)(hn:x ≠ "__name__":=by decide) (hdb:(x == ("__debug__":Str))=false:=by decide) :
  DE X (.Call (.Name x p) (e::es) [] pos) (Za g ds):=by
 obtain⟨ta,pa,h⟩:=h;refine⟨_,znj hc hm hv pa hg hn hdb,fun C ρ σ H n Q R S hd hq=>?_⟩
 refine h C ρ σ H n _ _ S hd fun ts n1 vs H1 r1 e1 h1 q1 _=>?_
 have S1:=S.on e1 h1;exact hgp C.hd (Own C ρ σ) H1 vs ts Q _ (fun p=>S1.dom) q1 r1 fun z u H' rz sm rp=>hq z n1 u H' rz (e1.trans sm.ext) (h1.same sm) rp
theorem Yd{K:qF}{hd:Option Addr}{O:Addr->Prop}{H:Hp}{xs:List V}{t:PyData}(h:Y3 K hd O H xs [t]):∃v,xs=[v]/\RepT K hd O H v t:=by
 cases h with
 | cons h r=>cases r;exact⟨_,rfl,h⟩
theorem zmt{K:qF}{hd:Option Addr}{O:Addr->Prop}{H:Hp}{xs:List V}{t u:PyData}(h:Y3 K hd O H xs [t,u]):∃v w,xs=[v,w]/\RepT K hd O H v t/\RepT K hd O H w u:=by
 cases h with
 | cons h r=>cases r with|cons h2 r=>cases r;exact⟨_,_,rfl,h,h2⟩
def bLen:GC
 | [.list ts],R=>R (.int ts.length)
 | [.tuple ts],R=>R (.int ts.length)
 | [.str x],R=>x.length<=16777216/\R (.int x.length)
 | [.dict [(.none,.list ts)]],R=>R (.int ts.length)
 | _,_=>False
def rLen(K:qF):List V->Hp->VK->Prop:=fun xs H Q=>∃x n,xs=[x]/\LenV K x H n/\Q (.int n) H
theorem Qo:GpC X (rLen X.K) bLen:=by
 intro hd O H xs ts Q R dom rs h hq;unfold bLen at h;split at h
 ·obtain⟨v,rfl,r⟩:=Yd rs;obtain⟨p,vs,rfl,h1,h2⟩:=r.lstI;exact⟨_,_,rfl,.inl ⟨vs,.of h1,rfl⟩,by rw[h2.length];exact hq _ _ H h (Same.refl H) (.int _)⟩
 ·obtain⟨v,rfl,r⟩:=Yd rs;obtain⟨p,vs,rfl,h1,h2⟩:=r.tupI;exact⟨_,_,rfl,.inr ⟨vs,h1,rfl⟩,by rw[h2.length];exact hq _ _ H h (Same.refl H) (.int _)⟩
 ·obtain⟨v,rfl,r⟩:=Yd rs;rw[r.strI];exact⟨_,_,rfl,⟨h.1,rfl⟩,hq _ _ H h.2 (Same.refl H) (.int _)⟩
 ·rename_i ts;obtain⟨v,rfl,r⟩:=Yd rs;have r:=r.rep (by intro _ z;cases z)
  generalize e:(PyData.dict [(PyData.none,PyData.list ts)])=t at r;cases r with
  | scr h1 o =>
   simp only[SCR,PyData.dict.injEq,List.cons.injEq,Prod.mk.injEq,PyData.list.injEq,true_and,and_true]at e;subst e;exact⟨_,_,rfl,.inl ⟨_,.inl h1,rfl⟩,by simpa using hq _ _ H h (Same.refl H) (.int _)⟩
  | scrS h1 =>
   simp only[SCR,PyData.dict.injEq,List.cons.injEq,Prod.mk.injEq,PyData.list.injEq,true_and,and_true]at e;subst e;exact⟨_,_,rfl,.inl ⟨_,h1 H,rfl⟩,by simpa using hq _ _ H h (Same.refl H) (.int _)⟩
  | hand _=>simp[HAND]at e
  | dct _ _=>cases e
  | dcK _ _ _ e'=>cases e;exact(dict_noK e').elim
  | dcT _ _ _ e'=>cases e;exact(dict_noT e').elim
  | _=>cases e
 ·exact h.elim
def bMin:GC
 | [.int i,.int j],R=>R (.int (if j<i then j else i))
 | _,_=>False
def bMax:GC
 | [.int i,.int j],R=>R (.int (if j > i then j else i))
 | _,_=>False
theorem zmG:GpC X (fun xs H Q=>∃i j,xs=[.int i,.int j]/\Q (.int (if j<i then j else i)) H) bMin:=by
 intro hd O H xs ts Q R dom rs h hq;unfold bMin at h;split at h
 ·obtain⟨v,w,rfl,r1,r2⟩:=zmt rs;rw[r1.intI,r2.intI];exact⟨_,_,rfl,hq _ _ H h (Same.refl H) (.int _)⟩
 ·exact h.elim
theorem zmH:GpC X (fun xs H Q=>∃i j,xs=[.int i,.int j]/\Q (.int (if j > i then j else i)) H) bMax:=by
 intro hd O H xs ts Q R dom rs h hq;unfold bMax at h;split at h
 ·obtain⟨v,w,rfl,r1,r2⟩:=zmt rs;rw[r1.intI,r2.intI];exact⟨_,_,rfl,hq _ _ H h (Same.refl H) (.int _)⟩
 ·exact h.elim
def bAll:GC
 | [.list ts],R=>∃bs:List Bool,ts=bs.map PyData.bool/\R (.bool (bs.all id))
 | _,_=>False
theorem ze2{K:qF}{hd:Option Addr}{O:Addr->Prop}{H:Hp}:∀{ns:List Bool}{vs:List V},Reps K hd O H vs (ns.map PyData.bool)->vs=ns.map V.bl
 | [],_,h=>by cases h;rfl
 | n::ns,_,h=>by
  cases h with
  | cons h r=>rw[h.blI,ze2 r];rfl
theorem Uu:GpC X (fun xs H Q=>∃(a:Addr) (bs:List Bool),xs=[.ref a]/\SqL X.K H a (bs.map V.bl)/\Q (.bl (bs.all id)) H) bAll:=by
 intro hd O H xs ts Q R dom rs h hq;unfold bAll at h;split at h
 ·obtain⟨bs,rfl,h⟩:=h;obtain⟨v,rfl,r1⟩:=Yd rs;obtain⟨p,vs,rfl,h1,h2⟩:=r1.lstI;rw[ze2 h2]at h1;exact⟨p,bs,rfl,.of h1,hq _ _ H h (Same.refl H) (.bl _)⟩
 ·exact h.elim
def Zd:GC
 | [.list ts],R=>R (.tuple ts)
 | [.tuple ts],R=>R (.tuple ts)
 | _,_=>False
theorem Zk:GpC X (fun xs H Q=>∃p ys,xs=[.ref p]/\((SqL X.K H p ys/\∀l,H l=none->Q (.ref l) (upd H l (.tup ys)))\/(SqT X.K H p ys/\Q (.ref p) H))) Zd:=by
 intro hd O H xs ts Q R dom rs h hq;unfold Zd at h;split at h
 ·obtain⟨v,rfl,r1⟩:=Yd rs;obtain⟨p,vs,rfl,h1,h2⟩:=r1.lstI;refine⟨p,vs,rfl,.inl ⟨.of h1,fun l hl=>?_⟩⟩
  exact hq _ _ _ h (JU hl) (.newT (fun z=>dom l z hl) hl h2)
 ·obtain⟨v,rfl,r1⟩:=Yd rs;obtain⟨p,vs,rfl,h1,h2⟩:=r1.tupI;exact⟨p,vs,rfl,.inr ⟨h1,hq _ _ H h (Same.refl H) (r1.rep (by intro _ z;cases z))⟩⟩
 ·exact h.elim
def Qg:PyData->(List PyData->Prop)->Prop
 | .list ts,R=>R ts
 | .tuple ts,R=>R ts
 | _,_=>False
def zhR(d:DTE):DTA:=fun ρ n R=>d ρ n fun t n1=>Qg t fun ts=>R ts n1
theorem zhP(hm:X.mg "list" = none) (h:DL X e d) (hs:starEach [e] X.env=[(false,eval e X.env)]) (hg:Gl X "list":=by rfl):DN X (.Call (.Name "list" p) [e] [] pos) (zhR d):=by
 obtain⟨ta,pa,h⟩:=h;refine⟨_,znj zgV hm (by decide +kernel) (Qu pa QV hs) hg,fun C ρ σ H n Q R S hd hq=>?_⟩
 refine h C ρ σ H n _ _ S hd fun t n1 v H1 r1 e1 h1 q1=>?_
 have S1:=S.on e1 h1;have fin:∀p vs ts,Reps X.K C.hd (Own C ρ σ) H1 vs ts->R ts n1->H1 p=none->Q (.ref p) (upd H1 p (.lst vs)):=fun p vs ts rp rr hp=>by
  have hp0:H p=none:=by
   cases z:H p with
   | none=>rfl
   | some o =>
    by_cases y:C.hd=some p
    ·obtain⟨d,m,t,q,_⟩:=h1 p y;rw[hp]at q;cases q
    ·rw[e1 p o z y]at hp;cases hp
  refine hq ts n1 p vs _ rr (e1.trans (ExtE.new hp)) (h1.same (JU hp)) hp0 J1 ?_;refine rp.mono (fun b o hb z=>z.elim id fun z=>?_) fun b o _ hb=>JU hp b o hb
  subst z;rw[hp]at hb;cases hb
 cases t with
 | list ts =>
  obtain⟨p,vs,rfl,h1',h2⟩:=q1.lstI;exact⟨p,vs,rfl,.inl (.of h1'),fun l hl=>fin l vs ts h2 r1 hl⟩
 | tuple ts =>
  obtain⟨p,vs,rfl,h1',h2⟩:=q1.tupI;exact⟨p,vs,rfl,.inr h1',fun l hl=>fin l vs ts h2 r1 hl⟩
 | _=>exact r1.elim
def tyN:PyData->Option String
 | .none=>some "NoneType"
 | .bool _=>some "bool"
 | .int _=>some "int"
 | .str _=>some "str"
 | .list _=>some "list"
 | .tuple _=>some "tuple"
 | .dict []=>some "dict"
 | .dict _=>none
def rIsi(K:qF):List V->Hp->VK->Prop:=fun xs H Q=>∃x hd O t T y b,xs=[x,.ty T]/\RepT K hd O H x t/\tyN t=some y/\kitB y T=some b/\Q (.bl b) H
theorem zkJ:J5 X (.builtin "isinstance") (rIsi X.K):=by
 intro pins s σ H xs us Q I r h;obtain⟨x,hd,O,t,T,y,b,rfl,rp,ty,e,q⟩:=h;cases r with
 | cons r1 r2 =>
  cases r2 with
  | cons r3 r4 =>
   cases r4;cases(show _=Value.type T from r3)
   have fin:∀y',tyN t=some y'->y'=y:=fun y' h=>Option.some.inj (h.symm.trans ty)
   have go:Ty H x y->wpAny (model X.prog X.w) X.A (call (.builtin "isinstance") [_,Value.type T]) (EP X pins σ Q) X.xe s:=fun ty=>zka I r1 ty.of ((YA X.K y T).trans e) fun tk=>⟨.bl b,H,I.tok tk,rfl,q⟩
   rcases rp with rp|⟨a,vs,ds,rfl,rfl,h3,h4,_⟩|⟨a,zs,ep,ks,rfl,rfl,h3,h4,_⟩
   ·cases rp with
    | non=>cases ty;exact go .non
    | bl b=>cases ty;exact go (.bl b)
    | int i=>cases ty;exact go (.int i)
    | str i=>cases ty;exact go (.str i)
    | tup h o r=>cases ty;exact go (.tup h)
    | lst h o r=>cases ty;exact go (.lst h)
    | @dct a ep h o =>
      cases ty;cases(show _=Value.ref a from r1)
      obtain⟨⟨_,_,_,ob,es,g1,g2,_⟩,_⟩:=I.hok a _ h;exact PySem.W.kia_one PySem.W.kitx_dict I.kIn ⟨ob,g1,g2.1⟩ ((YA X.K "dict" T).trans e) (fun z=>nomatch z) fun tk=>⟨.bl b,H,I.tok tk,rfl,q⟩
    | @dcK a kvs ep ks ps h o r e' =>
     cases ps with
     | nil =>
      cases ty;cases(show _=Value.ref a from r1)
      obtain⟨⟨_,_,_,ob,es,g1,g2,_⟩,_⟩:=I.hok a _ h;exact PySem.W.kia_one PySem.W.kitx_dict I.kIn ⟨ob,g1,g2.1⟩ ((YA X.K "dict" T).trans e) (fun z=>nomatch z) fun tk=>⟨.bl b,H,I.tok tk,rfl,q⟩
     | cons _ _=>simp[tyN]at ty
    | @dcT a zs ep ks ps h o r e' =>
     cases ps with
     | nil =>
      cases ty;cases(show _=Value.ref a from r1)
      obtain⟨⟨_,_,_,ob,es,g1,g2,_⟩,_⟩:=I.hok a _ h;exact PySem.W.kia_one PySem.W.kitx_dict I.kIn ⟨ob,g1,g2.1⟩ ((YA X.K "dict" T).trans e) (fun z=>nomatch z) fun tk=>⟨.bl b,H,I.tok tk,rfl,q⟩
     | cons _ _=>simp[tyN]at ty
    | hand h=>simp[HAND,tyN]at ty
    | scr h o=>simp[SCR,tyN]at ty
    | scrS h=>simp[SCR,tyN]at ty
    | @tupS a vs ds h r =>
     cases ty;cases(show _=Value.ref a from r1)
     obtain⟨o,its,n,hk,hc,_⟩:=h;exact PySem.W.kia_one PySem.W.kitx_tuple I.kIn ⟨o,I.kIn a o hk,hc⟩ ((YA X.K "tuple" T).trans e) (fun z=>nomatch z) fun tk=>⟨.bl b,H,I.tok tk,rfl,q⟩
   ·cases ty;exact go (.lst h3)
   ·cases ks with
    | nil =>
     cases ty;cases(show _=Value.ref a from r1)
     obtain⟨⟨_,_,_,ob,es,g1,g2,_⟩,_⟩:=I.hok a _ h3;exact PySem.W.kia_one PySem.W.kitx_dict I.kIn ⟨ob,g1,g2.1⟩ ((YA X.K "dict" T).trans e) (fun z=>nomatch z) fun tk=>⟨.bl b,H,I.tok tk,rfl,q⟩
    | cons _ _=>simp[tyN,Yw]at ty
end
section
variable{X:Cx}{a b c e:Expr}{es rest:List Expr}{d da db dc:DTE}{ds:DTA}{pos p:Pos}{k:Nat}{x:Str}
theorem Reps.atI{K:qF}{hd:Option Addr}{O:Addr->Prop}{H:Hp}{vs ts}{i:Int}{t}(r:Reps K hd O H vs ts)(h:L2.atI ts i=some t):∃v,L2.atI vs i=some v/\Rep K hd O H v t:=by
 unfold L2.atI at h ⊢;rw[r.length];cases e:ixN ts.length i with
 | none=>rw[e]at h;cases h
 | some j =>
  rw[e]at h;have h:ts[j]?=some t:=h;exact r.get h
def oIx:G2
 | .list ts,.int i,R=>match atI ts i with|some t=>R t|none=>False
 | .tuple ts,.int i,R=>match atI ts i with|some t=>R t|none=>False
 | .str x,.int i,R=>x.length<=16777216/\match atI x.cps.toList i with|some c=>R (.str ⟨#[c]⟩)|none=>False
 | _,_,_=>False
theorem zsQ:Gp2 X (rIx X.K) oIx:=by
 intro hd O H x y t u Q R dom rx ry h hq;unfold oIx at h;split at h
 ·rename_i ts i;obtain⟨p,vs,rfl,h1,h2⟩:=rx.lstI;split at h
  ·rename_i t et;obtain⟨v,ev,rv⟩:=h2.atI et;exact .inl ⟨p,vs,i,v,rfl,ry.intI,.of h1,ev,hq _ _ H h (Same.refl H) rv⟩
  ·exact h.elim
 ·rename_i ts i;obtain⟨p,vs,rfl,h1,h2⟩:=rx.tupI;split at h
  ·rename_i t et;obtain⟨v,ev,rv⟩:=h2.atI et;exact .inr (.inl ⟨p,vs,i,v,rfl,ry.intI,h1,ev,hq _ _ H h (Same.refl H) rv⟩)
  ·exact h.elim
 ·rename_i z i;obtain⟨h0,h⟩:=h;split at h
  ·rename_i c ec;exact .inr (.inr ⟨z,i,c,rx.strI,ry.intI,h0,ec,hq _ _ H h (Same.refl H) (.str _)⟩)
  ·exact h.elim
 ·exact h.elim
theorem Jn(ha:DL X a da)(hb:DL X b db)(hs:zkU b:=by intro _ _;rfl):DE X (.Subscript a b pos) (dOp oIx da db):=by
 obtain⟨ta,pa,ha⟩:=ha;obtain⟨tb,pb,hb⟩:=hb;refine⟨_,Uq zpZ pa pb hs,fun C ρ σ H n Q R S h hq=>?_⟩
 refine two ha hb S h fun x y n2 v w H2 r2 e S2 q1 q2=>?_
 exact zsQ C.hd (Own C ρ σ) H2 v w x y Q _ (fun p=>S2.dom) q1 q2 r2 fun z u H' rz sm rp=>hq z n2 u H' rz (e.trans sm.ext) (S2.hnd.same sm) rp
def dNeg(d:DTE):DTE:=fun ρ n R=>d ρ n fun t n1=>match t with|.int i=>R (.int (-i)) n1|_=>False
theorem ZC(h:DE X a da):DE X (.UnaryOp .USub a pos) (dNeg da):=by
 obtain⟨ta,pa,h⟩:=h;refine⟨_,zr9 zox pa,fun C ρ σ H n Q R S hd hq=>?_⟩
 refine h C ρ σ H n _ _ S hd fun t n1 v H1 r e1 h1 q1=>?_
 cases t with
 | int i=>rw[q1.intI];exact⟨i,rfl,hq _ n1 _ H1 r e1 h1 (.int _)⟩
 | _=>exact r.elim
def zoW(K:qF):R2:=fun x y H Q=>∃a b xs ys,x=.ref a/\y=.ref b/\SqT K H a xs/\SqT K H b ys/\xs.length+ys.length<=sizeLine /\
 (xs=[]->Q (.ref b) H)/\(ys=[]->Q (.ref a) H)/\∀p,H p=none->Q (.ref p) (upd H p (.tup (xs++ys)))
theorem zns:OpR X (binaryOp .Add) (zoW X.K):=by
 intro pins s σ H x y v u Q I rx ry h;obtain⟨a,b,xs,ys,rfl,rfl,ha,hb,hz,q0,q1,q2⟩:=h
 by_cases hx:xs=[]
 ·cases rx;cases ry;obtain⟨its,r1,p1,_⟩:=I.tuple ha;obtain⟨its2,r2,p2,_⟩:=I.tuple hb;have hv:its=[]:=r1.nil_iff.mpr hx;obtain⟨⟨cls,dd,data,sl⟩,ho,hc,n,hd⟩:=id p1;obtain⟨⟨cls2,dd2,data2,sl2⟩,ho2,hc2,n2,hd2⟩:=id p2;simp only at hc hd hc2 hd2;subst hc hd hc2 hd2;exact concat_meets ⟨_,ho,rfl⟩ ⟨_,ho2,rfl⟩ noFill_tuple_add seq_tuple_add PySem.F.slot_tuple_add PySem.F.entry_tuple_add (PySem.F.args_tuple_add_2 _ _)
   (tuple_addW0 a b its.toArray its2.toArray n n2 dd dd2 sl sl2 (by simp[hv])) ⟨ho,ho2,⟨.ref b,H,I,rfl,q0 hx⟩⟩
 ·exact znr pins s σ H _ _ v u Q I rx ry ⟨a,b,xs,ys,rfl,rfl,ha,hb,hx,hz,q1,fun _=>q2⟩
def oAdd:G2
 | .int i,.int j,R=>R (.int (i+j))
 | .str i,.str j,R=>i.length+j.length<=16777216/\R (.str (i++j))
 | .tuple xs,.tuple ys,R=>xs.length+ys.length<=16777216/\R (.tuple (xs++ys))
 | _,_,_=>False
def zoX(K:qF):R2:=fun x y H Q=>(rI0 fun i j=>.int (i+j)) x y H Q\/(∃i j,x=.str i/\y=.str j/\i.length+j.length<=sizeLine/\Q (.str (i++j)) H)\/zoW K x y H Q
theorem znt:OpR X (binaryOp .Add) (zoX X.K):=OpR.or Ug (OpR.or ziO zns)
theorem zqt:Gp2 X (zoX X.K) oAdd:=by
 intro hd O H x y t u Q R dom rx ry h hq;unfold oAdd at h;split at h
 ·exact .inl ⟨_,_,rx.intI,ry.intI,hq _ _ H h (Same.refl H) (.int _)⟩
 ·exact .inr (.inl ⟨_,_,rx.strI,ry.strI,h.1,hq _ _ H h.2 (Same.refl H) (.str _)⟩)
 ·rename_i xs ys;obtain⟨p,vs,rfl,h1,h2⟩:=rx.tupI;obtain⟨q,ws,rfl,h3,h4⟩:=ry.tupI;refine .inr (.inr ⟨p,q,vs,ws,rfl,rfl,h1,h3,by rw[h2.length,h4.length];exact h.1,fun e=>?_,fun e=>?_,fun l hl=>?_⟩)
  ·subst e;cases h2;exact hq _ _ H h.2 (Same.refl H) (ry.rep (by intro _ z;cases z))
  ·subst e;cases h4;exact hq _ _ H h.2 (Same.refl H) (by rw[List.append_nil];exact rx.rep (by intro _ z;cases z))
  ·exact hq _ _ _ h.2 (JU hl) (.newT (fun z=>dom l z hl) hl (h2.append h4))
 ·exact h.elim
theorem Jx(ha:DL X a da)(hb:DL X b db):DE X (.BinOp a .Add b pos) (dOp oAdd da db):=Q8 znt zqt ha hb
def dCat(da db:DTE):DTA:=fun ρ n R=>da ρ n fun x n1=>db ρ n1 fun y n2=>match x,y with|.list xs,.list ys=>xs.length+ys.length<=16777216/\R (xs++ys) n2|_,_=>False
theorem zhM{C:Ctx}{H H1:Hp}{n1:Nat}{p:Addr}(e1:ExtE C.hd H H1)(h1:Hn C.hd H1 n1)(hp:H1 p=none):H p=none:=by
 cases z:H p with
 | none=>rfl
 | some o =>
  by_cases y:C.hd=some p
  ·obtain⟨d,m,t,q,_⟩:=h1 p y;rw[hp]at q;cases q
  ·rw[e1 p o z y]at hp;cases hp
theorem zlp{K:qF}{hd:Option Addr}{O:Addr->Prop}{H:Hp}{p:Addr}{o:HO}{vs ts}(hp:H p=none)(r:Reps K hd O H vs ts):Reps K hd (fun a=>O a\/a=p) (upd H p o) vs ts:=by
 refine r.mono (fun b o hb z=>z.elim id fun z=>?_) fun b o _ hb=>JU hp b o hb
 subst z;rw[hp]at hb;cases hb
theorem Yb(ha:DL X a da)(hb:DL X b db):DN X (.BinOp a .Add b pos) (dCat da db):=by
 obtain⟨ta,pa,ha⟩:=ha;obtain⟨tb,pb,hb⟩:=hb;refine⟨_,JD zps pa pb,fun C ρ σ H n Q R S h hq=>?_⟩
 refine two ha hb S h fun x y n2 v w H2 r2 e S2 q1 q2=>?_
 split at r2
 ·obtain⟨p,vs,rfl,h1,h2⟩:=q1.lstI;obtain⟨q,ws,rfl,h3,h4⟩:=q2.lstI;refine⟨p,q,vs,ws,rfl,rfl,h1,h3,by rw[h2.length,h4.length];exact r2.1,fun l hl=>?_⟩
  exact hq _ n2 l _ _ r2.2 (e.trans (ExtE.new hl)) (S2.hnd.same (JU hl)) (zhM e S2.hnd hl) J1 (zlp hl (h2.append h4))
 ·exact r2.elim
def oMul:=gI CMul fun i j=>i*j
theorem ZB(ha:DL X a da)(hb:DL X b db):DE X (.BinOp a .Mult b pos) (dOp oMul da db):=Q8 QU gp_I ha hb
abbrev GD:=List PyData->Nat->(PyData->Nat->Prop)->Prop
def spD(K:qF)(m:Nat)(g:GD):Sp:=fun vs H Q _=>∃(hd:Option Addr) (O:Addr->Prop) (ts:qD) (n:Nat) (R:qN),Reps K hd O H vs ts/\Hn hd H n/\(∀a,O a->MutO (H a))/\(∀a,hd=some a->O a)/\ts.length=m/\g ts n R /\
 ∀t n' v H',R t n'->ExtE hd H H'->Hn hd H' n'->Rep K hd O H' v t->Q v H'
def dFn(g:GD)(ds:DTA):DTE:=fun ρ n R=>ds ρ n fun ts n1=>g ts n1 R
theorem zsT{st:Stmt}{ps:List Str}{f:Addr}{fd:FuncData}{g:GD}{m:Nat}(D:Bd.Def X.K X.mg x st ps f fd)(G:FnOk X.prog X.w X.K X.mg X.base CX0 k f fd ps (spD X.K m g))(hr:Room k X.A)(h:DB X (e::es) ds)(hm:(e::es).length=m:=by rfl)(hg:Gl X x:=by rfl)
  (hdb:(x == ("__debug__":Str))=false:=by decide):DE X (.Call (.Name x p) (e::es) [] pos) (dFn g ds):=by
 obtain⟨ta,pa,h⟩:=h;refine⟨_,Bd.znh D G hr pa hg hdb,fun C ρ σ H n Q R S hd hq=>?_⟩
 refine h C ρ σ H n _ _ S hd fun ts n1 vs H1 r1 e1 h1 q1 l1=>?_
 have S1:=S.on e1 h1;rw[List.append_nil];exact⟨C.hd,Own C ρ σ,ts,n1,R,q1,h1,fun a=>S1.lst,fun a z=>.inl (S.hx a z),l1.trans hm,r1,fun t n' v H' rt e2 h2 q2=>hq t n' v H' rt (e1.trans e2) h2 q2⟩
def dFnL(g:GD)(ds:DTA):DTE:=fun ρ n R=>ds ρ n fun ts n1=>g ts n1 fun t n2=>J6 t=true/\R t n2
theorem zqL{st:Stmt}{ps:List Str}{f:Addr}{fd:FuncData}{g:GD}{m:Nat}(D:Bd.Def X.K X.mg x st ps f fd)(G:FnOk X.prog X.w X.K X.mg X.base CX0 k f fd ps (spD X.K m g))(hr:Room k X.A)(h:DBL X (e::es) ds)(hm:(e::es).length=m:=by rfl)(hg:Gl X x:=by rfl)
  (hdb:(x == ("__debug__":Str))=false:=by decide):DE X (.Call (.Name x p) (e::es) [] pos) (dFnL g ds):=by
 obtain⟨ta,pa,h⟩:=h;refine⟨_,Bd.znh D G hr pa hg hdb,fun C ρ σ H n Q R S hd hq=>?_⟩
 refine h C ρ σ H n _ _ S hd fun ts n1 vs H1 r1 e1 h1 q1 l1=>?_
 have S1:=S.on e1 h1;rw[List.append_nil];have lend:∀{vs ts},Y3 X.K C.hd (Own C ρ σ) H1 vs ts->Reps X.K C.hd (fun a=>C.hd=some a) H1 vs ts:=by
  intro vs ts q;induction q with
  | nil=>exact .nil
  | cons r _ ih =>
   refine .cons ?_ ih;rcases r with r|⟨a,ws,us,rfl,rfl,h3,h4,h5⟩|⟨a,zs,ep,ks,rfl,rfl,h3,h4,h5⟩
   ·exact r.mono (fun a o _ z=>.inl (S.hx a z)) fun _ _ _ z=>z
   ·exact .lst h3 h5 (h4.mono (fun a o _ z=>.inl (S.hx a z)) fun _ _ _ z=>z)
   ·exact .dcT h3 h5 (h4.mono (fun a o _ z=>.inl (S.hx a z)) fun _ _ _ z=>z) rfl
 refine⟨C.hd,fun a=>C.hd=some a,ts,n1,_,lend q1,h1,fun a z=>?_,fun a z=>z,l1.trans hm,r1,fun t n' v H' rt e2 h2 q2=>?_⟩
 ·obtain⟨d,m,t,q,_⟩:=h1 a z;exact .inl ⟨_,q⟩
 ·exact hq t n' v H' rt.2 (e1.trans e2) h2 (q2.up (fun a z=>(S1.on e2 h2).lst z) rt.1)
end
def Keep(C:Ctx)(ρ:En)(σ:St)(H:Hp)(ρ':En)(σ':St)(H':Hp):Prop:=∀a o,H a=some o->C.hd≠some a->¬OwnS ρ σ a->H' a=some o/\¬OwnS ρ' σ' a
structure DEnds where
 nx:En->Nat->Prop
 rt:PyData->Nat->Prop
 bk:En->Nat->Prop:=fun _ _=>False
 ct:En->Nat->Prop:=fun _ _=>False
abbrev DTS:=DEnds->En->Nat->Prop
structure Good(K:qF)(C:Ctx)(ρ:En)(σ:St)(H:Hp)(D:Ends)(D':DEnds):Prop where
 nx:∀ρ' σ' H' n',D'.nx ρ' n'->Stt K C ρ' σ' H' n'->Keep C ρ σ H ρ' σ' H'->D.nx σ' H'
 rt:∀t n' v H',D'.rt t n'->Hn C.hd H' n'->(∀a o,H a=some o->C.hd≠some a->¬OwnS ρ σ a->H' a=some o)->Rep K C.hd C.ext H' v t->D.rt v H'
 bk:∀ρ' σ' H' n',D'.bk ρ' n'->Stt K C ρ' σ' H' n'->Keep C ρ σ H ρ' σ' H'->D.bk σ' H'
 ct:∀ρ' σ' H' n',D'.ct ρ' n'->Stt K C ρ' σ' H' n'->Keep C ρ σ H ρ' σ' H'->D.ct σ' H'
def DS(X:Cx)(st:Stmt)(d:DTS):Prop:=∃ts,PS X st ts/\∀(C:Ctx) (ρ:En) (σ:St) (H:Hp) (n:Nat) (D:Ends) (D':DEnds),Stt X.K C ρ σ H n->d D' ρ n->Good X.K C ρ σ H D D'->ts D σ H
def DSs(X:Cx)(st:List Stmt)(d:DTS):Prop:=∃ts,PSs X st ts/\∀(C:Ctx) (ρ:En) (σ:St) (H:Hp) (n:Nat) (D:Ends) (D':DEnds),Stt X.K C ρ σ H n->d D' ρ n->Good X.K C ρ σ H D D'->ts D σ H
section
variable{K:qF}{C:Ctx}{ρ ρ1 ρ2:En}{σ σ1 σ2:St}{H H1 H2:Hp}{n n1:Nat}{D:Ends}{D':DEnds}
theorem Keep.refl:Keep C ρ σ H ρ σ H:=fun _ _ h _ no=>⟨h,no⟩
theorem Keep.trans(k1:Keep C ρ σ H ρ1 σ1 H1)(k2:Keep C ρ1 σ1 H1 ρ2 σ2 H2):Keep C ρ σ H ρ2 σ2 H2:=fun a o h nh no=>by
 obtain⟨h1,no1⟩:=k1 a o h nh no;exact k2 a o h1 nh no1
theorem ExtE.keep(e:ExtE C.hd H H1):Keep C ρ σ H ρ σ H1:=fun a o h nh no=>⟨e a o h nh,no⟩
theorem Good.on(g:Good K C ρ σ H D D')(k:Keep C ρ σ H ρ1 σ1 H1):Good K C ρ1 σ1 H1 D D' where
 nx:=fun ρ' σ' H' n' h S k'=>g.nx ρ' σ' H' n' h S (k.trans k')
 rt:=fun t n' v H' h hn k' r=>g.rt t n' v H' h hn (fun a o ha nh no=>by
  obtain⟨h1,no1⟩:=k a o ha nh no;exact k' a o h1 nh no1) r
 bk:=fun ρ' σ' H' n' h S k'=>g.bk ρ' σ' H' n' h S (k.trans k')
 ct:=fun ρ' σ' H' n' h S k'=>g.ct ρ' σ' H' n' h S (k.trans k')
theorem Keep.reps(k:Keep C ρ σ H ρ1 σ1 H1)(hx:∀a,C.hd=some a->C.ext a){v t}(r:Reps K C.hd (Own C ρ σ) H v t):Reps K C.hd (Own C ρ1 σ1) H1 v t :=
 Reps.mono (O:=Own C ρ σ) (fun a o h z=>by
  by_cases q:Own C ρ σ a
  ·exact q
  ·rcases z with z|z
   ·exact .inl z
   ·exact absurd z (k a o h (fun y=>q (.inl (hx a y))) fun y=>q (.inr y)).2) (fun a o no h=>(k a o h (fun y=>no (.inl (hx a y))) fun y=>no (.inr y)).1) r
theorem JC{α:Type}{l:List (Option α)}{i j:Nat}{v w:α}(h:(l.set i (some v))[j]?=some (some w)):(i=j/\v=w)\/(i≠j/\l[j]?=some (some w)):=by
 by_cases e:i=j
 ·subst e;rw[List.getElem?_set]at h;simp only[↓reduceIte]at h;split at h
  ·simp at h;exact .inl ⟨rfl,h⟩
  ·cases h
 ·rw[List.getElem?_set_ne e]at h;exact .inr ⟨e,h⟩
theorem YL{α:Type}{l:List (Option α)}{i j:Nat}{v w:α}(e:i≠j)(h:l[j]?=some (some w)):(l.set i (some v))[j]?=some (some w):=by
 rw[List.getElem?_set_ne e];exact h
theorem zmr{α:Type}{l:List (Option α)}{i j:Nat}{v:α}{w:Option α}(h:(l.set i (some v))[j]?=some w)(e:i=j):i<l.length:=by
 subst e;rw[List.getElem?_set]at h;simp only[↓reduceIte]at h;split at h
 ·assumption
 ·cases h
theorem zjp{α:Type}{l:List (Option α)}{i:Nat}{v:α}(h:i<l.length):(l.set i (some v))[i]?=some (some v):=by
 rw[List.getElem?_set];simp[h]
theorem ZV{i:Nat}{t:PyData}{v:V}{a:Addr}(h:OwnS (ρ.set i (some (.val t))) (σ.set i (some v)) a):OwnS ρ σ a:=by
 obtain⟨j,c,m,h1,h2⟩:=h;rcases JC h1 with⟨_,z⟩|⟨e,h1⟩
 ·subst z;cases m
 ·rcases JC h2 with⟨z,_⟩|⟨_,h2⟩
  ·exact absurd z e
  ·exact⟨j,c,m,h1,h2⟩
def QI(K:qF)(hd:Option Addr)(O:Addr->Prop)(H:Hp)(a:Addr):Cell->Prop
 | .val _=>False
 | .rdo _=>False
 | .own ts=>∃vs,H a=some (.lst vs)/\Reps K hd O H vs ts
 | .dct ks=>∃kvs,H a=some (.dK kvs)/\UR K hd O H kvs ks
 | .dtt ks=>∃zs ep,H a=some (ZDO a zs ep)/\RepsT K hd O H zs ks
theorem QI.mono{hd:Option Addr}{O O':Addr->Prop}{H H':Hp}{a:Addr}{c:Cell}(x:QI K hd O H a c)(ho:∀a o,H a=some o->O' a->O a)(hh:∀a o,¬O a->H a=some o->H' a=some o)(ha:∀o,H a=some o->H' a=some o):QI K hd O' H' a c:=by
 cases c with
 | val _=>exact x.elim
 | rdo _=>exact x.elim
 | own ts=>obtain⟨vs,h1,h2⟩:=x;exact⟨vs,ha _ h1,h2.mono ho hh⟩
 | dct ks=>obtain⟨vs,h1,h2⟩:=x;exact⟨vs,ha _ h1,h2.mono ho hh⟩
 | dtt ks=>obtain⟨vs,ep,h1,h2⟩:=x;exact⟨vs,ep,ha _ h1,h2.mono ho hh⟩
theorem QI.some{hd:Option Addr}{O:Addr->Prop}{H:Hp}{a:Addr}{c:Cell}(x:QI K hd O H a c):∃o,H a=some o:=by
 cases c with
 | val _=>exact x.elim
 | rdo _=>exact x.elim
 | own ts=>obtain⟨vs,h1,h2⟩:=x;exact⟨_,h1⟩
 | dct ks=>obtain⟨vs,h1,h2⟩:=x;exact⟨_,h1⟩
 | dtt ks=>obtain⟨vs,ep,h1,h2⟩:=x;exact⟨_,h1⟩
theorem QI.mine{hd:Option Addr}{O:Addr->Prop}{H:Hp}{a:Addr}{c:Cell}(x:QI K hd O H a c):c.mine=true:=by
 cases c with
 | val _=>exact x.elim
 | rdo _=>exact x.elim
 | own ts=>rfl
 | dct ks=>rfl
 | dtt ks=>rfl
theorem Stt.cell(S:Stt K C ρ σ H n){i:Nat}{c:Cell}(m:c.mine=true)(h:ρ[i]?=some (some c)):∃a:Addr,σ[i]?=some (some (V.ref a))/\QI K C.hd (Own C ρ σ) H a c/\¬C.ext a:=by
 cases c with
 | val _=>cases m
 | rdo _=>cases m
 | own ts=>obtain⟨a,vs,h1,h2,h3,h4⟩:=S.own i ts h;exact⟨a,h1,⟨vs,h2,h3⟩,h4⟩
 | dct ks=>obtain⟨a,vs,h1,h2,h3,h4⟩:=S.dct i ks h;exact⟨a,h1,⟨vs,h2,h3⟩,h4⟩
 | dtt ks=>obtain⟨a,vs,ep,h1,h2,h3,h4⟩:=S.dtt i ks h;exact⟨a,h1,⟨vs,ep,h2,h3⟩,h4⟩
def zom(K:qF)(C:Ctx)(ρ:En)(σ:St)(H:Hp):Prop:=∀(i:Nat) (ks:List (Key×PyData)),ρ[i]?=some (some (Cell.rdo ks))->∃a kvs,σ[i]?=some (some (V.ref a))/\H a=some (.dK kvs)/\UR K C.hd (Own C ρ σ) H kvs ks/\C.ext a/\C.hd≠some a
theorem Stt.mk'(len:ρ.length=σ.length)(val:∀(i:Nat) (d:PyData),ρ[i]?=some (some (Cell.val d))->∃v,σ[i]?=some (some v)/\Rep K C.hd (Own C ρ σ) H v d)
  (cell:∀(i:Nat) (c:Cell),c.mine=true->ρ[i]?=some (some c)->∃a:Addr,σ[i]?=some (some (V.ref a))/\QI K C.hd (Own C ρ σ) H a c/\¬C.ext a)
  (rdo:zom K C ρ σ H) (dif:∀(i j:Nat) (c e:Cell) (a:Addr),c.mine=true->e.mine=true->ρ[i]?=some (some c)->ρ[j]?=some (some e)->σ[i]?=some (some (V.ref a))->σ[j]?=some (some (V.ref a))->i=j)
  (hnd:Hn C.hd H n) (ext:∀a,C.ext a->MutO (H a)) (hx:∀a,C.hd=some a->C.ext a):Stt K C ρ σ H n where
 len:=len
 val:=val
 own:=fun i ts h=>by obtain⟨a,h1,⟨vs,h2,h3⟩,h4⟩:=cell i _ rfl h;exact⟨a,vs,h1,h2,h3,h4⟩
 dct:=fun i ts h=>by obtain⟨a,h1,⟨vs,h2,h3⟩,h4⟩:=cell i _ rfl h;exact⟨a,vs,h1,h2,h3,h4⟩
 rdo:=rdo
 dtt:=fun i ts h=>by obtain⟨a,h1,⟨vs,ep,h2,h3⟩,h4⟩:=cell i _ rfl h;exact⟨a,vs,ep,h1,h2,h3,h4⟩
 dif:=dif
 hnd:=hnd
 ext:=ext
 hx:=hx
theorem Stt.put(S:Stt K C ρ σ H n){i:Nat}{t:PyData}{v:V}(r:Rep K C.hd (Own C ρ σ) H v t):Stt K C (ρ.set i (some (.val t))) (σ.set i (some v)) H n:=by
 have sub:∀a o,H a=some o->Own C (ρ.set i (some (.val t))) (σ.set i (some v)) a->Own C ρ σ a:=fun a o _ z=>z.elim .inl fun z=>.inr (ZV z)
 have mono:∀{w u},Rep K C.hd (Own C ρ σ) H w u->Rep K C.hd (Own C (ρ.set i (some (.val t))) (σ.set i (some v))) H w u:=fun q=>q.mono sub fun _ _ _ z=>z
 refine .mk' (by simp[S.len]) (fun j d h=>?_) (fun j c m h=>?_) (fun j ks h=>?_) (fun j k c e a m1 m2 h1 h2 h3 h4=>?_) S.hnd S.ext S.hx
 rotate_left 2
 ·rcases JC h with⟨_,z⟩|⟨e,h'⟩
  ·cases z
  ·obtain⟨a,kvs,q1,q2,q3,q4⟩:=S.rdo j ks h';exact⟨a,kvs,YL e q1,q2,q3.mono sub fun _ _ _ z=>z,q4⟩
 rotate_left 1
 ·rcases JC h with⟨e,z⟩|⟨e,h'⟩
  ·cases z;have:=zmr h e;subst e;exact⟨v,zjp (by rw[<- S.len];exact this),mono r⟩
  ·obtain⟨w,h1,h2⟩:=S.val j d h';exact⟨w,YL e h1,mono h2⟩
 ·rcases JC h with⟨e,z⟩|⟨e,h'⟩
  ·subst z;cases m
  ·obtain⟨a,h1,h2,h3⟩:=S.cell m h';exact⟨a,YL e h1,h2.mono sub (fun _ _ _ z=>z) fun _ z=>z,h3⟩
 ·rcases JC h1 with⟨e,z⟩|⟨e,h1'⟩
  ·subst z;cases m1
  ·rcases JC h2 with⟨e2,z⟩|⟨e2,h2'⟩
   ·subst z;cases m2
   ·rcases JC h3 with⟨z,_⟩|⟨_,h3'⟩
    ·exact absurd z e
    ·rcases JC h4 with⟨z,_⟩|⟨_,h4'⟩
     ·exact absurd z e2
     ·exact S.dif j k c _ a m1 m2 h1' h2' h3' h4'
theorem ZR{i:Nat}{t:PyData}{v:V}:Keep C ρ σ H (ρ.set i (some (.val t))) (σ.set i (some v)) H:=fun a o h _ no=>⟨h,fun z=>no (ZV z)⟩
theorem zh6{i:Nat}{c:Cell}{p a:Addr}(h:OwnS (ρ.set i (some c)) (σ.set i (some (.ref p))) a):OwnS ρ σ a\/a=p:=by
 obtain⟨j,ds,m,h1,h2⟩:=h;rcases JC h2 with⟨e,z⟩|⟨e,h2⟩
 ·cases z;exact .inr rfl
 ·rcases JC h1 with⟨z,_⟩|⟨_,h1⟩
  ·exact absurd z e
  ·exact .inl ⟨j,ds,m,h1,h2⟩
theorem Stt.putNew(S:Stt K C ρ σ H n){i:Nat}{c:Cell}{p:Addr}{H':Hp}(e:ExtE C.hd H H')(h:Hn C.hd H' n1)(hp:H p=none)(r:QI K C.hd (fun a=>Own C ρ σ a\/a=p) H' p c) :
  Stt K C (ρ.set i (some c)) (σ.set i (some (.ref p))) H' n1:=by
 have S':=S.on e h;have mc:=r.mine;have sub:∀a,Own C (ρ.set i (some c)) (σ.set i (some (.ref p))) a->Own C ρ σ a\/a=p:=fun a z=>z.elim (fun z=>.inl (.inl z)) fun z=>(zh6 z).elim (fun z=>.inl (.inr z)) .inr
 have npx:¬C.ext p:=fun z=>S.dom (.inl z) hp
 have sb:∀a o,H a=some o->Own C (ρ.set i (some c)) (σ.set i (some (.ref p))) a->Own C ρ σ a:=fun a o ho z=>(sub a z).elim id fun z=>by subst z;rw[hp]at ho;cases ho
 have kp:∀a o,¬Own C ρ σ a->H a=some o->H' a=some o:=fun a o no ho=>e a o ho fun z=>no (.inl (S.hx a z))
 have notp:∀(j:Nat) (d:Cell),d.mine=true->ρ[j]?=some (some d)->σ[j]?≠some (some (V.ref p)):=fun j d m h1 h2=>by
  obtain⟨a,e1,e2,_⟩:=S.cell m h1;rw[h2]at e1;cases e1;obtain⟨o,e2⟩:=e2.some;rw[hp]at e2;cases e2
 refine .mk' (by simp[S.len]) (fun j d hj=>?_) (fun j d m hj=>?_) (fun j ks hj=>?_) (fun j k c1 c2 a m1 m2 h1 h2 h3 h4=>?_) h S'.ext S.hx
 rotate_left 2
 ·rcases JC hj with⟨_,z⟩|⟨e',h'⟩
  ·subst z;cases mc
  ·obtain⟨a,kvs,q1,q2,q3,q4,q5⟩:=S.rdo j ks h';exact⟨a,kvs,YL e' q1,e a _ q2 q5,q3.mono sb kp,q4,q5⟩
 rotate_left 1
 ·rcases JC hj with⟨_,z⟩|⟨e',h'⟩
  ·subst z;cases mc
  ·obtain⟨w,h1,h2⟩:=S.val j d h';exact⟨w,YL e' h1,h2.mono sb kp⟩
 ·rcases JC hj with⟨e',z⟩|⟨e',h'⟩
  ·subst z;have:=zmr hj e';subst e';exact⟨p,zjp (by rw[<- S.len];exact this),r.mono (fun a o _ z=>sub a z) (fun _ _ _ z=>z) fun _ z=>z,npx⟩
  ·obtain⟨a,h1,h2,h4⟩:=S.cell m h';exact⟨a,YL e' h1,h2.mono sb kp (fun o ho=>e a o ho fun z=>h4 (S.hx a z)),h4⟩
 ·rcases JC h3 with⟨e3,z3⟩|⟨e3,h3'⟩
  ·cases z3;rcases JC h4 with⟨e4,_⟩|⟨e4,h4'⟩
   ·rw[<- e3,<- e4]
   ·rcases JC h2 with⟨z,_⟩|⟨_,h2'⟩
    ·exact absurd z e4
    ·exact absurd h4' (notp k _ m2 h2')
  ·rcases JC h1 with⟨z,_⟩|⟨_,h1'⟩
   ·exact absurd z e3
   ·rcases JC h4 with⟨e4,z4⟩|⟨e4,h4'⟩
    ·cases z4;exact absurd h3' (notp j _ m1 h1')
    ·rcases JC h2 with⟨z,_⟩|⟨_,h2'⟩
     ·exact absurd z e4
     ·exact S.dif j k _ _ a m1 m2 h1' h2' h3' h4'
theorem Stt.putOwn(S:Stt K C ρ σ H n){i:Nat}{ts:qD}{p:Addr}{vs:List V}{H':Hp}(e:ExtE C.hd H H')(h:Hn C.hd H' n1)(hp:H p=none)(hp':H' p=some (.lst vs))(r:Reps K C.hd (fun a=>Own C ρ σ a\/a=p) H' vs ts) :
  Stt K C (ρ.set i (some (.own ts))) (σ.set i (some (.ref p))) H' n1:=S.putNew e h hp ⟨vs,hp',r⟩
theorem zhD{i:Nat}{c:Cell}{p:Addr}{H':Hp}(e:ExtE C.hd H H')(hp:H p=none):Keep C ρ σ H (ρ.set i (some c)) (σ.set i (some (.ref p))) H':=fun a o h nh no =>
 ⟨e a o h nh,fun z=>(zh6 z).elim no fun z=>by subst z;rw[hp]at h;cases h⟩
theorem zhC{i:Nat}{ts:qD}{p:Addr}{H':Hp}(e:ExtE C.hd H H')(hp:H p=none):Keep C ρ σ H (ρ.set i (some (.own ts))) (σ.set i (some (.ref p))) H':=zhD e hp
theorem Stt.chgC(S:Stt K C ρ σ H n){i:Nat}{c c':Cell}{p:Addr}{o':HO}(m:c.mine=true)(m':c'.mine=true)(h1:ρ[i]?=some (some c))(h2:σ[i]?=some (some (.ref p)))
  (r:∀(O':Addr->Prop) (H':Hp),(∀a o,H a=some o->O' a->Own C ρ σ a)->(∀a o,¬Own C ρ σ a->H a=some o->H' a=some o)->H' p=some o'->QI K C.hd O' H' p c') :
  Stt K C (ρ.set i (some c')) σ (upd H p o') n/\Keep C ρ σ H (ρ.set i (some c')) σ (upd H p o'):=by
 have op:OwnS ρ σ p:=⟨i,c,m,h1,h2⟩;obtain⟨p',e1,hp,npx⟩:=S.cell m h1;rw[h2]at e1;cases e1;have own1:∀a,OwnS (ρ.set i (some c')) σ a->OwnS ρ σ a:=fun a ⟨j,d,md,q1,q2⟩=>by
  rcases JC q1 with⟨e,_⟩|⟨e,q1⟩
  ·subst e;rw[h2]at q2;cases q2;exact op
  ·exact⟨j,d,md,q1,q2⟩
 have sub:∀a o,H a=some o->Own C (ρ.set i (some c')) σ a->Own C ρ σ a:=fun a o _ z=>z.elim .inl fun z=>.inr (own1 a z)
 have kp:∀a o,¬Own C ρ σ a->H a=some o->upd H p o' a=some o:=fun a o no ho=>by rw[Jy (show a≠p from fun z=>no (by rw[z];exact .inr op))];exact ho
 have rd:zom K C (ρ.set i (some c')) σ (upd H p o'):=fun j ks hj=>by
  rcases JC hj with⟨_,z⟩|⟨e',h'⟩
  ·subst z;cases m'
  ·obtain⟨a,kvs,q1,q2,q3,q4,q5⟩:=S.rdo j ks h';exact⟨a,kvs,q1,by rw[Jy (show a≠p from fun z=>npx (by rw[<- z];exact q4))];exact q2,q3.mono sub kp,q4,q5⟩
 refine⟨.mk' (by simp[S.len]) (fun j d hj=>?_) (fun j d md hj=>?_) rd (fun j k c1 c2 a m1 m2 q1 q2 q3 q4=>?_) (fun a ha=>?_) (fun a ha=>?_) S.hx,fun a o h nh no=>⟨by rw[Jy (show a≠p from fun z=>no (by rw[z];exact op))];exact h,fun z=>no (own1 a z)⟩⟩
 ·rcases JC hj with⟨_,z⟩|⟨e',h'⟩
  ·subst z;cases m'
  ·obtain⟨w,q1,q2⟩:=S.val j d h';exact⟨w,q1,q2.mono sub kp⟩
 ·rcases JC hj with⟨e',z⟩|⟨e',h'⟩
  ·subst z;subst e';exact⟨p,h2,r _ _ sub kp J1,npx⟩
  ·obtain⟨a,q1,q2,q4⟩:=S.cell md h';have:a≠p:=fun z=>by subst z;exact e' (S.dif i j c d a m md h1 h' h2 q1)
   exact⟨a,q1,q2.mono sub kp (fun o ho=>by rw[Jy this];exact ho),q4⟩
 ·have get:∀(j:Nat) (d:Cell),d.mine=true->(ρ.set i (some c'))[j]?=some (some d)->∃d':Cell,d'.mine=true/\ρ[j]?=some (some d'):=fun j d md q=>by
   rcases JC q with⟨e,_⟩|⟨_,q⟩
   ·subst e;exact⟨_,m,h1⟩
   ·exact⟨_,md,q⟩
  obtain⟨d1,md1,g1⟩:=get j c1 m1 q1;obtain⟨d2,md2,g2⟩:=get k c2 m2 q2;exact S.dif j k d1 d2 a md1 md2 g1 g2 q3 q4
 ·obtain⟨d,m,t,q,rest⟩:=S.hnd a ha;exact⟨d,m,t,by rw[Jy (show a≠p from fun z=>npx (by rw[<- z];exact S.hx a ha))];exact q,rest⟩
 ·by_cases z:a=p
  ·subst z;exact absurd ha npx
  ·rw[Jy z];exact S.ext a ha
theorem Stt.chg(S:Stt K C ρ σ H n){i:Nat}{ts us:qD}{p:Addr}{ws:List V}(h1:ρ[i]?=some (some (.own ts)))(h2:σ[i]?=some (some (.ref p)))(r:Reps K C.hd (Own C ρ σ) H ws us) :
  Stt K C (ρ.set i (some (.own us))) σ (upd H p (.lst ws)) n/\Keep C ρ σ H (ρ.set i (some (.own us))) σ (upd H p (.lst ws)):=S.chgC rfl rfl h1 h2 fun _ _ a b hp=>⟨ws,hp,r.mono a b⟩
theorem Stt.freeze(S:Stt K C ρ σ H n){i:Nat}{ts:qD}(h1:ρ[i]?=some (some (.own ts))):Stt K C (ρ.set i (some (.val (.list ts)))) σ H n/\Keep C ρ σ H (ρ.set i (some (.val (.list ts)))) σ H:=by
 obtain⟨p,vs,h2,hp,hr,npx⟩:=S.own i ts h1;have own1:∀a,OwnS (ρ.set i (some (.val (.list ts)))) σ a->OwnS ρ σ a/\a≠p:=fun a ⟨j,ds,m,q1,q2⟩=>by
  rcases JC q1 with⟨_,z⟩|⟨e,q1⟩
  ·subst z;cases m
  ·exact⟨⟨j,ds,m,q1,q2⟩,fun z=>by subst z;exact e (S.dif i j (.own ts) ds a rfl m h1 q1 h2 q2)⟩
 have sub:∀a o,H a=some o->Own C (ρ.set i (some (.val (.list ts)))) σ a->Own C ρ σ a:=fun a o _ z=>z.elim .inl fun z=>.inr (own1 a z).1
 have rd:zom K C (ρ.set i (some (.val (.list ts)))) σ H:=fun j ks hj=>by
  rcases JC hj with⟨_,z⟩|⟨e',h'⟩
  ·cases z
  ·obtain⟨a,kvs,q1,q2,q3,q4⟩:=S.rdo j ks h';exact⟨a,kvs,q1,q2,q3.mono sub fun _ _ _ z=>z,q4⟩
 refine⟨.mk' (by simp[S.len]) (fun j d hj=>?_) (fun j d m hj=>?_) rd (fun j k c1 c2 a m1 m2 q1 q2 q3 q4=>?_) S.hnd S.ext S.hx,fun a o h _ no=>⟨h,fun z=>no (own1 a z).1⟩⟩
 ·rcases JC hj with⟨e',z⟩|⟨e',h'⟩
  ·cases z;subst e';exact⟨.ref p,h2,.lst hp (fun z=>z.elim npx fun z=>(own1 p z).2 rfl) (hr.mono sub fun _ _ _ z=>z)⟩
  ·obtain⟨w,q1,q2⟩:=S.val j d h';exact⟨w,q1,q2.mono sub fun _ _ _ z=>z⟩
 ·rcases JC hj with⟨_,z⟩|⟨e',h'⟩
  ·subst z;cases m
  ·obtain⟨a,q1,q3,q4⟩:=S.cell m h';exact⟨a,q1,q3.mono sub (fun _ _ _ z=>z) fun _ z=>z,q4⟩
 ·rcases JC q1 with⟨_,z⟩|⟨_,g1⟩
  ·subst z;cases m1
  ·rcases JC q2 with⟨_,z⟩|⟨_,g2⟩
   ·subst z;cases m2
   ·exact S.dif j k _ _ a m1 m2 g1 g2 q3 q4
end
section
variable{X:Cx}{a b c e:Expr}{es rest:List Expr}{d da db dc:DTE}{ds:DTA}{dt:DTT}{t u:DTS}{st:Stmt}{sts sa sb:List Stmt}{pos p:Pos}{k:Nat}{x:Str}
def Zt:DTS:=fun D ρ n=>D.nx ρ n
def sSeq(t u:DTS):DTS:=fun D ρ n=>t { D with nx:=u D } ρ n
theorem Jw:DSs X [] Zt:=⟨_,zhd,fun C ρ σ H n D D' S h g=>g.nx ρ σ H n h S Keep.refl⟩
theorem Jf(h1:DS X st t)(h2:DSs X sts u):DSs X (st::sts) (sSeq t u):=by
 obtain⟨ta,pa,h1⟩:=h1;obtain⟨tb,pb,h2⟩:=h2;refine⟨_,QB pa pb,fun C ρ σ H n D D' S h g=>?_⟩
 exact h1 C ρ σ H n _ _ S h ⟨fun ρ' σ' H' n' hn S' k=>h2 C ρ' σ' H' n' D D' S' hn (g.on k),g.rt,g.bk,g.ct⟩
theorem Jg(h1:DS X st t):DSs X [st] t:=by
 obtain⟨ta,pa,h1⟩:=h1;exact⟨_,Ze pa,h1⟩
def Zi(i:Nat)(t:DTS):DTS:=fun D ρ n=>match ρ[i]? with|some (some (.own ts))=>t D (ρ.set i (some (.val (.list ts)))) n|_=>False
theorem YZ(i:Nat)(h1:DSs X sts t):DSs X sts (Zi i t):=by
 obtain⟨ta,pa,h1⟩:=h1;refine⟨_,pa,fun C ρ σ H n D D' S h g=>?_⟩
 unfold Zi at h;split at h
 ·rename_i ts et;obtain⟨S',kp⟩:=S.freeze et;exact h1 C _ σ H n D D' S' h (g.on kp)
 ·exact h.elim
def sRet(d:DTE):DTS:=fun D ρ n=>d ρ n fun t n'=>D.rt t n'
theorem Jk(h:DE X e d):DS X (.Return (some e) pos) (sRet d):=by
 obtain⟨ta,pa,h⟩:=h;refine⟨_,ZJ pa,fun C ρ σ H n D D' S hd g=>?_⟩
 refine h C ρ σ H n _ _ S hd fun t n' v H' r e1 h1 q=>?_
 exact g.rt t n' v H' r h1 (fun a o ha nh _=>e1 a o ha nh) (q.mono (fun _ _ _ z=>.inl z) fun _ _ _ z=>z)
def sIf(c:DTT)(t u:DTS):DTS:=fun D ρ n=>c ρ n fun b n1=>if b=true then t D ρ n1 else u D ρ n1
theorem Jt(hc:DT X c dt)(h1:DSs X sa t)(h2:DSs X sb u):DS X (.If c sa sb pos) (sIf dt t u):=by
 obtain⟨tc,pc,hc⟩:=hc;obtain⟨ta,pa,h1⟩:=h1;obtain⟨tb,pb,h2⟩:=h2;refine⟨_,zm9 pc pa pb,fun C ρ σ H n D D' S hd g=>?_⟩
 refine hc C ρ σ H n _ _ S hd fun b n1 H1 r e1 hn=>?_
 cases b with
 | true=>exact iteT (h1 C ρ σ H1 n1 D D' (S.on e1 hn) (by simpa using r) (g.on e1.keep))
 | false=>exact iteF (h2 C ρ σ H1 n1 D D' (S.on e1 hn) (by simpa using r) (g.on e1.keep))
def sSet(i:Nat)(d:DTE):DTS:=fun D ρ n=>d ρ n fun t n'=>D.nx (ρ.set i (some (.val t))) n'
theorem JE{i:Nat}{pos':Pos}(hN:X.N.Nodup)(hi:X.N[i]?=some x)(hx:Loc X.env.scope x)(h:DE X e d)(hs:swapsWith e (some (.Name x pos')) pos.line X.env=pure false:=by rfl)(hf:X.fn x=true\/X.env.scope.names.lookup x=some .local:=by walk_at "F") :
  DS X (.Assign [.Name x pos'] e pos) (sSet i d):=by
 obtain⟨ta,pa,h⟩:=h;refine⟨_,QW hN hi hx pa hs hf,fun C ρ σ H n D D' S hd g=>?_⟩
 refine h C ρ σ H n _ _ S hd fun t n' v H' r e1 h1 q=>?_
 exact g.nx _ _ H' n' r ((S.on e1 h1).put q) (e1.keep.trans ZR)
def sOwn(i:Nat)(d:DTA):DTS:=fun D ρ n=>d ρ n fun ts n'=>D.nx (ρ.set i (some (.own ts))) n'
theorem Ut{i:Nat}{pos':Pos}(hN:X.N.Nodup)(hi:X.N[i]?=some x)(hx:Loc X.env.scope x)(h:DN X e ds)(hs:swapsWith e (some (.Name x pos')) pos.line X.env=pure false:=by rfl)(hf:X.fn x=true\/X.env.scope.names.lookup x=some .local:=by walk_at "F") :
  DS X (.Assign [.Name x pos'] e pos) (sOwn i ds):=by
 obtain⟨ta,pa,h⟩:=h;refine⟨_,QW hN hi hx pa hs hf,fun C ρ σ H n D D' S hd g=>?_⟩
 refine h C ρ σ H n _ _ S hd fun ts n' p vs H' r e1 h1 hp hp' q=>?_
 exact g.nx _ _ H' n' r (S.putOwn e1 h1 hp hp' q) (zhC e1 hp)
def sAug(i:Nat)(f:Int->Int->Int)(d:DTE):DTS:=fun D ρ n=>match ρ[i]? with
 | some (some (.val (.int j)))=>d ρ n fun t n'=>match t with|.int k=>D.nx (ρ.set i (some (.val (.int (f j k))))) n'|_=>False
 | _=>False
theorem zmM{i:Nat}{op:Operator}{f:Int->Int->Int}{pos':Pos}(hN:X.N.Nodup)(hi:X.N[i]?=some x)(hx:Loc X.env.scope x)(h:DE X e d)(ho:PIp X op (ipI f))(hf:X.fn x=true\/X.env.scope.names.lookup x=some .local:=by walk_at "F") :
  DS X (.AugAssign (.Name x pos') op e pos) (sAug i f d):=by
 obtain⟨ta,pa,h⟩:=h;refine⟨_,zo2 hN hi hx pa ho hf,fun C ρ σ H n D D' S hd g=>?_⟩
 unfold sAug at hd;split at hd
 ·rename_i j ej;obtain⟨v,h1,h2⟩:=S.val i _ ej;refine⟨v,h1,h C ρ σ H n _ _ S hd fun t n' w H' r e1 hn q=>?_⟩
  cases t with
  | int k=>exact⟨j,k,h2.intI,q.intI,g.nx _ _ H' n' r ((S.on e1 hn).put (.int _)) (e1.keep.trans ZR)⟩
  | _=>exact r.elim
 ·exact hd.elim
abbrev DTG:=PyData->En->(En->Prop)->Prop
abbrev DTGs:=List PyData->En->(En->Prop)->Prop
def DG(X:Cx)(tg:Expr)(is:List Nat)(d:DTG):Prop:=(∀t ρ R,d t ρ R->∃ρ',R ρ')/\∃g,PG X tg g/\∀(C:Ctx) (ρ:En) (σ:St) (H:Hp) (n:Nat) (v:V) (t:PyData) (Q:St->Hp->Prop) (R:En->Prop),Stt X.K C ρ σ H n->Rep X.K C.hd (Own C ρ σ) H v t->d t ρ R ->
 (∀ρ' σ',R ρ'->Stt X.K C ρ' σ' H n->Keep C ρ σ H ρ' σ' H->(∀j,j∉is->σ'[j]?=σ[j]?)->σ'.length=σ.length->Q σ' H)->g v σ H Q
def DGs(X:Cx)(tgs:List Expr)(is:List Nat)(d:DTGs):Prop:=(∀ts ρ R,d ts ρ R->ts.length=tgs.length)/\(∀t ρ R,d t ρ R->∃ρ',R ρ')/\∃g,PGs X tgs g/\∀(C:Ctx) (ρ:En) (σ:St) (H:Hp) (n:Nat) (vs:List V) (ts:qD) (Q:St->Hp->Prop) (R:En->Prop),Stt X.K C ρ σ H n->Reps X.K C.hd (Own C ρ σ) H vs ts->d ts ρ R ->
 (∀ρ' σ',R ρ'->Stt X.K C ρ' σ' H n->Keep C ρ σ H ρ' σ' H->(∀j,j∉is->σ'[j]?=σ[j]?)->σ'.length=σ.length->Q σ' H)->g vs σ H Q
def ZH(i:Nat):DTG:=fun t ρ R=>R (ρ.set i (some (.val t)))
def zmU:DTGs:=fun ts ρ R=>match ts with|[]=>R ρ|_=>False
def zjh(d:DTG)(ds:DTGs):DTGs:=fun ts ρ R=>match ts with|t::ts=>d t ρ fun ρ'=>ds ts ρ' R|[]=>False
def zmT(ds:DTGs):DTG:=fun t ρ R=>match t with|.tuple ts=>ds ts ρ R|_=>False
theorem Jm{i:Nat}(hN:X.N.Nodup)(hi:X.N[i]?=some x)(hx:Loc X.env.scope x)(hf:X.fn x=true\/X.env.scope.names.lookup x=some .local:=by walk_at "F"):DG X (.Name x pos) [i] (ZH i):=by
 refine⟨fun t ρ R h=>⟨_,h⟩,_,zne hN hi hx hf,fun C ρ σ H n v t Q R S r hd hq=>?_⟩
 exact hq _ _ hd (S.put r) ZR (fun j hj=>by rw[List.getElem?_set_ne (fun z=>hj (by simp[z]))]) (by simp)
theorem Qd:DGs X [] [] zmU:=by
 refine⟨fun ts ρ R h=>?_,fun ts ρ R h=>?_,_,znd,fun C ρ σ H n vs ts Q R S r hd hq=>?_⟩
 ·cases ts with
  | nil=>rfl
  | cons _ _=>exact h.elim
 ·cases ts with
  | nil=>exact⟨_,h⟩
  | cons _ _=>exact h.elim
 ·cases r with
  | nil=>exact⟨rfl,hq _ _ hd S Keep.refl (fun _ _=>rfl) rfl⟩
  | cons _ _=>exact hd.elim
theorem Ju{is js:List Nat}{g:DTG}{gs:DTGs}(h1:DG X e is g)(h2:DGs X es js gs)(hs:(assignEach (e::es) X.env).map (·.2)=assign e X.env::(assignEach es X.env).map (·.2):=by rfl):DGs X (e::es) (is++js) (zjh g gs):=by
 obtain⟨w1,ga,pa,h1⟩:=h1;obtain⟨l2,w2,gb,pb,h2⟩:=h2;refine⟨fun ts ρ R h=>?_,fun ts ρ R h=>?_,_,zlD pa pb hs,fun C ρ σ H n vs ts Q R S r hd hq=>?_⟩
 ·cases ts with
  | nil=>exact h.elim
  | cons t ts =>
   obtain⟨ρ',h'⟩:=w1 t ρ _ h;simp[l2 ts ρ' R h']
 ·cases ts with
  | nil=>exact h.elim
  | cons t ts =>
   obtain⟨ρ',h'⟩:=w1 t ρ _ h;exact w2 ts ρ' R h'
 ·cases r with
  | nil=>exact hd.elim
  | cons r rs =>
   refine⟨_,_,rfl,h1 C ρ σ H n _ _ _ _ S r hd fun ρ' σ' hr S' kp hj hl=>?_⟩
   refine h2 C ρ' σ' H n _ _ _ _ S' (kp.reps S.hx rs) hr fun ρ2 σ2 hr2 S2 kp2 hj2 hl2=>?_
   exact hq ρ2 σ2 hr2 S2 (kp.trans kp2) (fun j hj'=>by rw[hj2 j (fun z=>hj' (by simp[z])),hj j (fun z=>hj' (by simp[z]))]) (hl2.trans hl)
theorem Qe{is:List Nat}{gs:DTGs}{k:Nat}(hc:X.calm=true)(h:DGs X es is gs)(hn:(assignEach es X.env).length=es.length:=by rfl)(hst:(assignEach es X.env).findIdx? (·.1)=none:=by rfl):DG X (.Tuple es k pos) is (zmT gs):=by
 obtain⟨l,w,g,pg,h⟩:=h;refine⟨fun t ρ R h=>?_,_,zo8 hc pg hn hst,fun C ρ σ H n v t Q R S r hd hq=>?_⟩
 ·cases t with
  | tuple ts=>exact w ts ρ R h
  | _=>exact h.elim
 ·cases t with
  | tuple ts =>
   obtain⟨p,vs,rfl,h1,h2⟩:=r.tupI;exact⟨p,vs,rfl,h1,by rw[h2.length];exact l ts ρ R hd,h C ρ σ H n vs ts Q R S h2 hd hq⟩
  | _=>exact hd.elim
def sAsg(d:DTE)(g:DTG):DTS:=fun D ρ n=>d ρ n fun t n'=>g t ρ fun ρ'=>D.nx ρ' n'
theorem Ud{tg:Expr}{is:List Nat}{g:DTG}(h:DE X e d)(hg:DG X tg is g)(hs:swapsWithSole [tg] e pos.line X.env=pure false:=by rfl)(hw:swappedStores [tg] e X.env=pure none:=by rfl)
  (h1:(assignEach [tg] X.env).map (·.2)=[assign tg X.env]:=by rfl):DS X (.Assign [tg] e pos) (sAsg d g):=by
 obtain⟨ta,pa,h⟩:=h;obtain⟨w,gb,pb,hg⟩:=hg;refine⟨_,zjG pa pb hs hw h1,fun C ρ σ H n D D' S hd gd=>?_⟩
 refine h C ρ σ H n _ _ S hd fun t n' v H' r e1 hn q=>?_
 exact hg C ρ σ H' n' v t _ _ (S.on e1 hn) q r fun ρ' σ' hr S' kp _ _=>gd.nx ρ' σ' H' n' hr S' (e1.keep.trans kp)
def YT(i:Nat)(d:DTE):DTS:=fun D ρ n=>match ρ[i]? with
 | some (some (.own ts))=>d ρ n fun t n'=>ts.length<16777216/\D.nx (ρ.set i (some (.own (ts++[t])))) n'
 | _=>False
theorem QR(i:Nat){p1 p2 p3:Pos}(h:DE X e d)(hN:X.N[i]?=some x:=by rfl)(hv:Vis X.env.scope x:=by walk_at "V")(hd:(x == ("__debug__":Str))=false:=by decide)
  (hcd:(x == ("__classdict__":Str))=false:=by decide) (hs:swapsWith (.Call (.Attribute (.Name x p1) "append" p2) [e] [] p3) none pos.line X.env=pure false:=by rfl)
  (hbase:attributeBase (.Name x p1) "append" X.env (eval (.Name x p1) X.env)=eval (.Name x p1) X.env:=by rfl)
  (hfew:((backTo p3 (starEach [e] X.env)).all (fun x=>!x.1)&&(backToKw p3 (keywordEach [] X.env)).all (fun x=>x.1.isSome)
   && decide ([e].length+([]:List Keyword).length+(if ([]:List Keyword).isEmpty then 0 else 1)<30))=true:=by rfl)
  (hline:(p2.endLine == p3.line)=true:=by rfl) (hst:starEach [e] X.env=[(false,eval e X.env)]:=by rfl):DS X (.Expr (.Call (.Attribute (.Name x p1) "append" p2) [e] [] p3) pos) (YT i d):=by
 obtain⟨ta,pa,h⟩:=h;refine⟨_,zm_ (zsb PySem.F.plainAttrs_list PySem.F.slot_list_append PySem.F.type_list_append zgq (U9 hN hv hd hcd) (YR pa Y8 hst) hbase hfew hline hst rfl) hs,fun C ρ σ H n D D' S hd g=>?_⟩
 unfold YT at hd;split at hd
 ·rename_i ts et;obtain⟨p,vs,h1,h2,h3,h4⟩:=S.own i ts et;refine⟨.ref p,h1,.inl ⟨rfl,_,SqL.of h2⟩,?_⟩;refine h C ρ σ H n _ _ S hd fun t n' v H' r e1 hn q=>?_
  have S1:=S.on e1 hn;obtain⟨p',vs',h1',h2',h3',h4'⟩:=S1.own i ts et;rw[h1]at h1';cases h1';refine⟨p,vs',v,rfl,rfl,h2',by rw[h3'.length];exact r.1,?_⟩
  obtain⟨S2,k2⟩:=S1.chg et h1 (h3'.append (.cons q .nil));exact g.nx _ _ _ n' r.2 S2 (e1.keep.trans k2)
 ·exact hd.elim
def zjx(c:DTT)(tb:DTS):DTS:=fun D ρ n=>∃W:Nat->En->Nat->Prop,(∃m,W m ρ n)/\∀m ρ n,W m ρ n ->
 c ρ n fun b n1=>if b=true then tb { D with nx:=fun ρ' n'=>∃m',m'<m/\W m' ρ' n',ct:=fun ρ' n'=>∃m',m'<m/\W m' ρ' n',bk:=D.nx } ρ n1 else D.nx ρ n1
theorem zmb(hp:PassesOwn (model X.prog X.w) X.A X.env X.xe)(hc:DT X c dt)(hb:DSs X sa t):DS X (.While c sa [] pos) (zjx dt t):=by
 obtain⟨tc,pc,hc⟩:=hc;obtain⟨tb,pb,hb⟩:=hb;refine⟨_,zlx hp pc pb,fun C ρ σ H n D D' S hd g=>?_⟩
 obtain⟨W,⟨m0,w0⟩,turn⟩:=hd;refine⟨fun m σ1 H1=>∃ρ1 n1,W m ρ1 n1/\Stt X.K C ρ1 σ1 H1 n1/\Keep C ρ σ H ρ1 σ1 H1,⟨m0,ρ,n,w0,S,Keep.refl⟩,?_⟩
 rintro m σ1 H1 ⟨ρ1,n1,w1,S1,k1⟩;refine hc C ρ1 σ1 H1 n1 _ _ S1 (turn m ρ1 n1 w1) fun b n2 H2 r e2 hn2=>?_
 have S2:=S1.on e2 hn2;have k2:=k1.trans e2.keep;cases b with
 | true =>
  refine iteT ⟨fun σ' H'=>∃m',m'<m/\∃ρ' n',W m' ρ' n'/\Stt X.K C ρ' σ' H' n'/\Keep C ρ σ H ρ' σ' H',fun σ' H' ⟨m',hm,z⟩=>⟨m',hm,z⟩,?_⟩
  refine hb C ρ1 σ1 H2 n2 _ { D' with nx:=fun ρ' n'=>∃m',m'<m/\W m' ρ' n',ct:=fun ρ' n'=>∃m',m'<m/\W m' ρ' n',bk:=D'.nx } S2 (by simpa using r) ⟨?_,fun t n' v H' h hn k' r=>g.rt t n' v H' h hn (fun a o ha nh no=>?_) r,?_,?_⟩
  ·rintro ρ' σ' H' n' ⟨m',hm,w'⟩ S' k';exact⟨m',hm,ρ',n',w',S',k2.trans k'⟩
  ·obtain⟨q1,q2⟩:=k2 a o ha nh no;exact k' a o q1 nh q2
  ·intro ρ' σ' H' n' h' S' k';exact g.nx ρ' σ' H' n' h' S' (k2.trans k')
  ·rintro ρ' σ' H' n' ⟨m',hm,w'⟩ S' k';exact⟨m',hm,ρ',n',w',S',k2.trans k'⟩
 | false=>exact iteF (g.nx ρ1 σ1 H2 n2 (by simpa using r) S2 k2)
end
def ItOk(K:qF)(hd:Option Addr)(P O:Addr->Prop)(H:Hp)(J:It)(ts:qD):Prop:=∀(O2:Addr->Prop) (H2:Hp),(∀a o,H a=some o->P a->H2 a=some o)->(∀a o,H a=some o->¬O a->¬O2 a)->(∀a,O2 a->H2 a≠none) ->
 (∀i t,ts[i]?=some t->J.go i H2/\∀x H3,J.yld i H2 x H3->Same H2 H3/\Rep K hd O2 H3 x t)/\J.stop ts.length H2
def DI(X:Cx)(tg iter:Expr)(d:DTA):Prop:=∃wi,PI X tg iter wi/\∀(C:Ctx) (ρ:En) (σ:St) (H:Hp) (n:Nat) (Q:It->Hp->Prop) (R:List PyData->Nat->Prop),Stt X.K C ρ σ H n->d ρ n R ->
 (∀ts n' J H',R ts n'->ExtE C.hd H H'->Hn C.hd H' n'->ItOk X.K C.hd (fun a=>¬Own C ρ σ a) (Own C ρ σ) H' J ts->Q J H')->wi σ H Q
def DIL(X:Cx)(tg iter:Expr)(d:DTA):Prop:=∃wi,PI X tg iter wi/\∀(C:Ctx) (ρ:En) (σ:St) (H:Hp) (n:Nat) (Q:It->Hp->Prop) (R:List PyData->Nat->Prop),Stt X.K C ρ σ H n->d ρ n R ->
 (∀ts n' J H',R ts n'->ExtE C.hd H H'->Hn C.hd H' n'->ItOk X.K C.hd (fun a=>C.hd≠some a) (Own C ρ σ) H' J ts->Q J H')->wi σ H Q
section
variable{X:Cx}{a b c e tg iter:Expr}{es rest:List Expr}{d da db dc:DTE}{ds di:DTA}{dt:DTT}{t u:DTS}{st:Stmt}{sts sa sb:List Stmt}{pos p:Pos}{k:Nat}{x:Str}
theorem dil(h:DI X tg iter di):DIL X tg iter di:=by
 obtain⟨wi,pi,h⟩:=h;refine⟨wi,pi,fun C ρ σ H n Q R S hd hq=>h C ρ σ H n Q R S hd fun ts n' J H' r e1 hn it=>hq ts n' J H' r e1 hn ?_⟩
 exact fun O2 H2 h1 h2 h3=>it O2 H2 (fun a o ha no=>h1 a o ha fun z=>no (.inl (S.hx a z))) h2 h3
theorem Reps.getP{K:qF}{hd:Option Addr}{O:Addr->Prop}{H:Hp}{vs ts}{i:Nat}{t}{x:V}(r:Reps K hd O H vs ts)(h:ts[i]?=some t)(hx:vs[i]?=some x):Rep K hd O H x t:=by
 obtain⟨v,h1,h2⟩:=r.get h;rw[hx]at h1;cases h1;exact h2
theorem zhK{K:qF}{hd:Option Addr}{P O:Addr->Prop}{H:Hp}{q:Addr}{vs ts}(hq:H q=some (.lst vs))(hP:P q)(hO:∀a,¬O a->P a)(r:Reps K hd O H vs ts):ItOk K hd P O H (Itl K q) ts:=by
 intro O2 H2 h1 h2 _;have hq2:=h1 q _ hq hP;have r2:Reps K hd O2 H2 vs ts:=r.mono (fun a o ha z=>Classical.byContradiction fun no=>h2 a o ha no z) fun a o no ha=>h1 a o ha (hO a no)
 refine⟨fun i t et=>?_,⟨vs,.of hq2,by rw[r.length];exact Nat.le_refl _⟩⟩
 obtain⟨v,ev,rv⟩:=r2.get et;refine⟨⟨vs,v,.of hq2,ev⟩,fun x H3 hy=>?_⟩
 obtain⟨rfl,hy⟩:=hy;exact⟨Same.refl _,r2.getP et (hy vs (.of hq2))⟩
theorem zp2{K:qF}{hd:Option Addr}{P O:Addr->Prop}{H:Hp}{v:V}{ts}(hO:∀a,¬O a->P a)(r:Rep K hd O H v (.tuple ts)):∃q vs,v=.ref q/\SqT K H q vs/\ItOk K hd P O H (Itt K q) ts:=by
 have key:∀q vs,Reps K hd O H vs ts->(∀(O2:Addr->Prop) (H2:Hp),(∀a o,H a=some o->P a->H2 a=some o)->(∀a o,H a=some o->¬O a->¬O2 a)->SqT K H2 q vs)->ItOk K hd P O H (Itt K q) ts:=by
  intro q vs r hs O2 H2 h1 h2 _;have hq2:=hs O2 H2 h1 h2;have r2:Reps K hd O2 H2 vs ts:=r.mono (fun a o ha z=>Classical.byContradiction fun no=>h2 a o ha no z) fun a o no ha=>h1 a o ha (hO a no)
  refine⟨fun i t et=>?_,⟨vs,hq2,by rw[r.length];exact Nat.le_refl _⟩⟩
  obtain⟨v,ev,rv⟩:=r2.get et;refine⟨⟨vs,v,hq2,ev⟩,fun x H3 hy=>?_⟩
  obtain⟨rfl,hy⟩:=hy;exact⟨Same.refl _,r2.getP et (hy vs hq2)⟩
 cases r with
 | @tup q vs ds h o r=>exact⟨q,vs,rfl,.inl (.inl h),key q vs r fun O2 H2 h1 _=>.inl (.inl (h1 q _ h (hO q o)))⟩
 | @tupS q vs ds h r=>exact⟨q,vs,rfl,h.sq,key q vs r fun O2 H2 _ _=>h.sq⟩
def dItL(d:DTE):DTA:=fun ρ n R=>d ρ n fun t n'=>match t with|.list ts=>R ts n'|_=>False
def dItT(d:DTE):DTA:=fun ρ n R=>d ρ n fun t n'=>match t with|.tuple ts=>R ts n'|_=>False
theorem Zf(h:DE X iter d):DI X tg iter (dItL d):=by
 obtain⟨ta,pa,h⟩:=h;refine⟨_,zjM pa,fun C ρ σ H n Q R S hd hq=>?_⟩
 refine h C ρ σ H n _ _ S hd fun t n' v H' r e1 hn q=>?_
 cases t with
 | list ts =>
  obtain⟨p,vs,rfl,h1,no,h2⟩:=q.lstI;exact⟨p,rfl,⟨vs,.of h1⟩,hq ts n' _ H' r e1 hn (zhK h1 no (fun _ z=>z) h2)⟩
 | _=>exact r.elim
theorem zme(h:DL X iter d):DIL X tg iter (dItL d):=by
 obtain⟨ta,pa,h⟩:=h;refine⟨_,zjM pa,fun C ρ σ H n Q R S hd hq=>?_⟩
 refine h C ρ σ H n _ _ S hd fun t n' v H' r e1 hn q=>?_
 cases t with
 | list ts =>
  rcases q with q|⟨p,vs,ds,rfl,et,h1,h2,nh⟩|⟨p,zs,ep,ks,rfl,et,h1,h2,nh⟩
  rotate_left 2
  ·cases et
  ·obtain⟨p,vs,rfl,h1,no,h2⟩:=q.lstI;exact⟨p,rfl,⟨vs,.of h1⟩,hq ts n' _ H' r e1 hn (zhK h1 (fun z=>no (.inl (S.hx p z))) (fun a no z=>no (.inl (S.hx a z))) h2)⟩
  ·cases et;exact⟨p,rfl,⟨vs,.of h1⟩,hq ts n' _ H' r e1 hn (zhK h1 nh (fun a no z=>no (.inl (S.hx a z))) h2)⟩
 | _=>exact r.elim
theorem Qx(h:DE X iter d):DI X tg iter (dItT d):=by
 obtain⟨ta,pa,h⟩:=h;refine⟨_,zo6 pa,fun C ρ σ H n Q R S hd hq=>?_⟩
 refine h C ρ σ H n _ _ S hd fun t n' v H' r e1 hn q=>?_
 cases t with
 | tuple ts =>
  obtain⟨p,vs,rfl,h1,it⟩:=zp2 (P:=fun a=>¬Own C ρ σ a) (fun _ z=>z) q
  exact⟨p,rfl,⟨vs,h1⟩,hq ts n' _ H' r e1 hn it⟩
 | _=>exact r.elim
def Qk(lo:Int)(n:Nat):List PyData:=(List.range n).map fun(i:Nat)=>PyData.int (lo+(i:Int))
theorem zl0{K:qF}{hd:Option Addr}{P O:Addr->Prop}{H:Hp}{lo:Int}{m:Nat}:ItOk K hd P O H (Itr lo m) (Qk lo m):=by
 intro O2 H2 _ _ _;refine⟨fun i t et=>?_,by show m<=(Qk lo m).length;simp[Qk]⟩
 unfold Qk at et;rw[List.getElem?_map]at et
 by_cases hi:i<m
 ·rw[List.getElem?_range hi]at et;cases et;refine⟨hi,fun x H3 hy=>?_⟩
  obtain⟨rfl,rfl⟩:=hy;exact⟨Same.refl _,.int _⟩
 ·rw[List.getElem?_eq_none (by simp;omega)]at et
  cases et
def Y4(d:DTE):DTA:=fun ρ n R=>d ρ n fun t n'=>match t with|.int j=>(-(2 ^ 62)<=j/\j<2 ^ 62)/\R (Qk 0 j.toNat) n'|_=>False
theorem Zj(hm:X.mg "range" = none) (h:DE X a d) (hg:Gl X "range":=by rfl) (hs:starEach [a] X.env=[(false,eval a X.env)]:=by rfl):DI X tg (.Call (.Name "range" p) [a] [] pos) (Y4 d):=by
 obtain⟨ta,pa,h⟩:=h;refine⟨_,zjL hg hm (YR pa Y8 hs) hs,fun C ρ σ H n Q R S hd hq=>?_⟩
 refine h C ρ σ H n _ _ S hd fun t n' v H' r e1 hn q=>?_
 cases t with
 | int j =>
  rw[q.intI];exact⟨j,rfl,r.1.1,r.1.2,hq _ n' _ H' r.2 e1 hn zl0⟩
 | _=>exact r.elim
def forP(g:DTG)(tb:DTS)(D:DEnds):List PyData->En->Nat->Prop
 | [],ρ,n=>D.nx ρ n
 | t::ts,ρ,n=>g t ρ fun ρ'=>tb { D with nx:=forP g tb D ts,ct:=forP g tb D ts,bk:=D.nx } ρ' n
def sFor(di:DTA)(g:DTG)(tb:DTS):DTS:=fun D ρ n=>di ρ n fun ts n1=>forP g tb D ts ρ n1
theorem Qt{is:List Nat}{g:DTG}(hp:PassesOwn (model X.prog X.w) X.A X.env X.xe)(hc:X.calm=true)(hi:DI X tg iter di)(hg:DG X tg is g)(hb:DSs X sa t)
  (hs:∀x,foldedSetIterable iter X.env x=pure x:=by intro _;rfl):DS X (.For tg iter sa [] pos) (sFor di g t):=by
 obtain⟨wi,pi,hi⟩:=hi;obtain⟨_,gg,pg,hg⟩:=hg;obtain⟨tb,pb,hb⟩:=hb;refine⟨_,zo1 hp hc pi pg pb hs,fun C ρ σ H n D D' S hd gd=>?_⟩
 refine hi C ρ σ H n _ _ S hd fun ts n1 J H1 r e1 hn it=>?_
 have S1:=S.on e1 hn;refine⟨fun i m σ2 H2=>m=ts.length - i/\i<=ts.length/\∃ρ2 n2,forP g t D' (ts.drop i) ρ2 n2/\Stt X.K C ρ2 σ2 H2 n2/\Keep C ρ σ H1 ρ2 σ2 H2,⟨ts.length,by simp,Nat.zero_le _,ρ,n1,by simpa using r,S1,Keep.refl⟩,?_⟩
 rintro i m σ2 H2 ⟨rfl,hi',ρ2,n2,f2,S2,k2⟩;have itq:=it (Own C ρ2 σ2) H2 (fun a o ha no=>(k2 a o ha (fun z=>no (.inl (S.hx a z))) fun z=>no (.inr z)).1) (fun a o ha no z=>z.elim (fun z=>no (.inl z)) fun z=>(k2 a o ha (fun y=>no (.inl (S.hx a y))) fun y=>no (.inr y)).2 z) (fun a=>S2.dom)
 by_cases hlt:i<ts.length
 ·have et:ts[i]?=some ts[i]:=List.getElem?_eq_getElem hlt;obtain⟨go,yl⟩:=itq.1 i _ et;rw[List.drop_eq_getElem_cons hlt]at f2;refine .inr ⟨go,fun σ' H'=>∃ρ' n',forP g t D' (ts.drop (i+1)) ρ' n'/\Stt X.K C ρ' σ' H' n'/\Keep C ρ σ H1 ρ' σ' H',fun σ' H' z=>⟨ts.length - (i+1),by omega,rfl,hlt,z⟩,fun x H3 hy=>?_⟩
  obtain⟨sm,rx⟩:=yl x H3 hy;have S3:=S2.on sm.ext (S2.hnd.same sm);have k3:Keep C ρ σ H1 ρ2 σ2 H3:=k2.trans (Same.ext sm:ExtE C.hd H2 H3).keep;refine hg C ρ2 σ2 H3 n2 x _ _ _ S3 rx f2 fun ρ4 σ4 r4 S4 k4 _ _=>?_
  have k5:=k3.trans k4;refine hb C ρ4 σ4 H3 n2 _ { D' with nx:=forP g t D' (ts.drop (i+1)),ct:=forP g t D' (ts.drop (i+1)),bk:=D'.nx } S4 r4 ⟨fun ρ' σ' H' n' h' S' k'=>⟨ρ',n',h',S',k5.trans k'⟩,fun t n' v H' h hn' k' rp=>gd.rt t n' v H' h hn' (fun a o ha nh no=>?_) rp,fun ρ' σ' H' n' h' S' k'=>gd.nx ρ' σ' H' n' h' S' (e1.keep.trans (k5.trans k')),fun ρ' σ' H' n' h' S' k'=>⟨ρ',n',h',S',k5.trans k'⟩⟩
  obtain⟨q1,q2⟩:=(e1.keep.trans k5) a o ha nh no;exact k' a o q1 nh q2
 ·have e:i=ts.length:=by omega
  subst e;rw[List.drop_length]at f2;exact .inl ⟨itq.2,gd.nx ρ2 σ2 H2 n2 f2 S2 (e1.keep.trans k2)⟩
def JY(N:List Str)(ts:qD):En:=ts.map (fun t=>some (.val t))++List.replicate (N.length - ts.length) none
theorem zjj{K:qF}{hd:Option Addr}{O:Addr->Prop}{H:Hp}{n:Nat}{N:List Str}{vs:List V}{ts:qD}(r:Reps K hd O H vs ts)(hn:Hn hd H n)(dom:∀a,O a->MutO (H a))(hx:∀a,hd=some a->O a) :
  Stt K ⟨hd,O⟩ (JY N ts) (start N vs) H n/\∀a,¬OwnS (JY N ts) (start N vs) a:=by
 have get:∀(i:Nat) c,(JY N ts)[i]?=some (some c)->∃t,c=.val t/\ts[i]?=some t:=fun i c h=>by
  unfold JY at h
  by_cases hi:i<ts.length
  ·rw[List.getElem?_append_left (by simpa using hi),List.getElem?_map]at h
   cases e:ts[i]? with
   | none=>rw[e]at h;cases h
   | some t=>rw[e]at h;cases h;exact⟨t,rfl,rfl⟩
  ·rw[List.getElem?_append_right (by simpa using hi),List.getElem?_replicate]at h
   split at h <;> cases h
 have no:∀a,¬OwnS (JY N ts) (start N vs) a:=fun a ⟨i,ds,m,h1,_⟩=>by
  obtain⟨t,e,_⟩:=get i _ h1;subst e;cases m
 refine⟨.mk' (by unfold JY start;simp[r.length]) (fun i d h=>?_) (fun i ds m h=>?_) (fun i ks h=>by obtain⟨t,e,_⟩:=get i _ h;cases e) (fun i j ds es a m _ h=>?_) hn dom hx,no⟩
 ·obtain⟨t,e,et⟩:=get i _ h;cases e;obtain⟨v,ev,rv⟩:=r.get et;refine⟨v,?_,rv.mono (fun a o _ z=>z.elim id fun z=>absurd z (no a)) fun _ _ _ z=>z⟩
  unfold start;have hi:i<vs.length:=by
   rcases Nat.lt_or_ge i vs.length with z|z
   ·exact z
   ·rw[List.getElem?_eq_none z]at ev;cases ev
  rw[List.getElem?_append_left (by simpa using hi),List.getElem?_map,ev];rfl
 ·obtain⟨t,e,_⟩:=get i _ h;subst e;cases m
 ·obtain⟨t,e,_⟩:=get i _ h;subst e;cases m
end
end L2
namespace Bd
open PySem L2 PyProof.Rows
theorem Def.okD{P:Program}{w:World}{K:qF}{mg:qM}{base:Heap}{x:Str}{st:Stmt}{ps N:List Str}{f:Addr}{fd:FuncData}{k m:Nat}{g:GD}(D:Def K mg x st ps f fd)(S:FnScope N ps (Jl st))(hm:m=ps.length)
  (hb:∀(cdv:Value) (A:Around) (outer:List Env) (s:Shared) (H:Hp) (E:XK),Room k (A.deeper (envOfC x (Jl st) s.heap.objs.size f cdv))->∃d,DSs (cxOf CX0 P w K mg base N x (Jl st) f cdv A outer s H E).nox (Qi st) d /\
   ∀ts n R,ts.length=m->g ts n R->d { nx:=fun _ n'=>R .none n',rt:=R } (JY N ts) n):FnOk P w K mg base CX0 (k+1) f fd ps (spD K m g):=by
 refine D.F.ok S (fun vs H Q E h=>?_) (fun cdv A outer s H vs Q E hr h=>?_)
 ·obtain⟨hd,O,ts,n,R,r,_,_,_,hl,_⟩:=h;rw[r.length,hl,hm]
 ·obtain⟨hd,O,ts,n,R,r,hn,dom,hx,hl,hg,hq⟩:=h;obtain⟨d,⟨t,pt,ht⟩,hd'⟩:=hb cdv A outer s H E hr;obtain⟨S0,no⟩:=zjj (N:=N) r hn dom hx;refine⟨t,pt,ht ⟨hd,O⟩ _ _ H n _ _ S0 (hd' ts n R hl hg) ⟨fun ρ' σ' H' n' h S' k'=>?_,fun t n' v H' h hn' k' rp=>?_,fun _ _ _ _ h=>h.elim,fun _ _ _ _ h=>h.elim⟩⟩
  ·exact hq .none n' .non H' h (fun a o ha nh=>(k' a o ha nh (no a)).1) S'.hnd .non
  ·exact hq t n' v H' h (fun a o ha nh=>k' a o ha nh (no a)) hn' rp
end Bd
namespace L2
open PySem PySem.Spec PyProof.Rows
def DTs(Y:Cx)(ifs:List Expr)(d:DTT):Prop:=∃te,PTs Y ifs te/\∀(C:Ctx) (ρ:En) (σ:St) (H:Hp) (n:Nat) (Q:Bool->Hp->Prop) (R:Bool->Nat->Prop),Stt Y.K C ρ σ H n->d ρ n R ->
 (∀b n' H',R b n'->ExtE C.hd H H'->Hn C.hd H' n'->Q b H')->te σ H Q
def dYes:DTT:=fun _ n R=>R true n
section
variable{Y:Cx}{c:Expr}{d:DTT}
theorem QE:DTs Y [] dYes:=⟨_,zm8,fun C ρ σ H n Q R S h hq=>hq true n H h ExtE.refl S.hnd⟩
theorem zkr(h:DT Y c d):DTs Y [c] d:=by
 obtain⟨te,p,h⟩:=h;exact⟨_,zm7 p,h⟩
end
theorem DE.uni{ι:Type}{Xf:ι->Cx}{K:qF}(hK:∀i,(Xf i).K=K){e:Expr}{d:DTE}(h:∀i,DE (Xf i) e d):∃te:TE,(∀i,PE (Xf i) e te)/\∀(C:Ctx) (ρ:En) (σ:St) (H:Hp) (n:Nat) (Q:VK) (R:qN),Stt K C ρ σ H n->d ρ n R ->
  (∀t n' v H',R t n'->ExtE C.hd H H'->Hn C.hd H' n'->Rep K C.hd (Own C ρ σ) H' v t->Q v H')->te σ H Q:=by
 refine⟨fun σ H Q=>∀i,(Classical.choose (h i)) σ H Q,fun i pins s σ H Q I hw=>(Classical.choose_spec (h i)).1 pins s σ H Q I (hw i),fun C ρ σ H n Q R S hd hq i=>?_⟩
 have:=(Classical.choose_spec (h i)).2 C ρ σ H n Q R;exact this (by rw[hK i];exact S) hd fun t n' v H' r e h q=>hq t n' v H' r e h (by rw[<- hK i];exact q)
theorem DTs.uni{ι:Type}{Xf:ι->Cx}{K:qF}(hK:∀i,(Xf i).K=K){e:List Expr}{d:DTT}(h:∀i,DTs (Xf i) e d):∃te:TT,(∀i,PTs (Xf i) e te)/\∀(C:Ctx) (ρ:En) (σ:St) (H:Hp) (n:Nat) (Q:Bool->Hp->Prop) (R:Bool->Nat->Prop),Stt K C ρ σ H n->d ρ n R ->
  (∀b n' H',R b n'->ExtE C.hd H H'->Hn C.hd H' n'->Q b H')->te σ H Q:=by
 refine⟨fun σ H Q=>∀i,(Classical.choose (h i)) σ H Q,fun i pins s σ H Q I hw=>(Classical.choose_spec (h i)).1 pins s σ H Q I (hw i),fun C ρ σ H n Q R S hd hq i=>?_⟩
 have:=(Classical.choose_spec (h i)).2 C ρ σ H n Q R;exact this (by rw[hK i];exact S) hd hq
theorem DG.uni{ι:Type}[Nonempty ι]{Xf:ι->Cx}{K:qF}(hK:∀i,(Xf i).K=K){e:Expr}{is:List Nat}{d:DTG}(h:∀i,DG (Xf i) e is d):∃te:TG,(∀i,PG (Xf i) e te)/\∀(C:Ctx) (ρ:En) (σ:St) (H:Hp) (n:Nat) (v:V) (t:PyData) (Q:St->Hp->Prop) (R:En->Prop),Stt K C ρ σ H n->Rep K C.hd (Own C ρ σ) H v t->d t ρ R ->
  (∀ρ' σ',R ρ'->Stt K C ρ' σ' H n->Keep C ρ σ H ρ' σ' H->(∀j,j∉is->σ'[j]?=σ[j]?)->σ'.length=σ.length->Q σ' H)->te v σ H Q:=by
 refine⟨fun v σ H Q=>∀i,(Classical.choose (h i).2) v σ H Q,fun i pins s σ H v u Q I r hw=>(Classical.choose_spec (h i).2).1 pins s σ H v u Q I r (hw i),fun C ρ σ H n v t Q R S r hd hq i=>?_⟩
 have:=(Classical.choose_spec (h i).2).2 C ρ σ H n v t Q R;exact this (by rw[hK i];exact S) (by rw[hK i];exact r) hd fun ρ' σ' hr S'=>hq ρ' σ' hr (by rw[<- hK i];exact S')
theorem Wk.of:∀{σ σ':St},σ.length=σ'.length->(∀(i:Nat) v,σ[i]?=some (some v)->σ'[i]?=some (some v))->Wk σ σ'
 | [],[],_,_=>trivial
 | [],_::_,h,_=>by simp at h
 | _::_,[],h,_=>by simp at h
 | none::r,o::r',h,k=>Wk.of (σ:=r) (σ':=r') (by simpa using h) fun i v e=>by simpa using k (i+1) v (by simpa using e)
 | some w::r,o::r',h,k=>⟨by simpa using k 0 w rfl,Wk.of (by simpa using h) fun i v e=>by simpa using k (i+1) v (by simpa using e)⟩
def capV:Option Cell->Option Cell
 | some (.val d)=>some (.val d)
 | some (.dct ks)=>some (.rdo ks)
 | some (.rdo ks)=>some (.rdo ks)
 | _=>none
def JH(m:Nat)(capt:List Nat)(ρ:En):En:=List.replicate m none++capt.map fun i=>capV (ρ.getD i none)
def Qs(g:DTG)(tt:DTT)(te:DTE)(ρ0:En):List PyData->List PyData->Nat->(List PyData->Nat->Prop)->Prop
 | [],acc,n,R=>R acc n
 | x::xs,acc,n,R=>g x ρ0 fun ρ1=>tt ρ1 n fun b n2=>if b=true then te ρ1 n2 fun t n3=>acc.length<16777216/\Qs g tt te ρ0 xs (acc++[t]) n3 R else Qs g tt te ρ0 xs acc n2 R
def dComp(m:Nat)(capt:List Nat)(di:DTA)(g:DTG)(tt:DTT)(te:DTE):DTA:=fun ρ n R=>di ρ n fun ts n1=>Qs g tt te (JH m capt ρ) ts [] n1 R
section
variable{X:Cx}{scope:Scope}{own:List Str}{capt:List Nat}{elt tg iter:Expr}{ifs:List Expr}{pos:Pos}{di:DTA}{is:List Nat}{g:DTG}{tt:DTT}{te:DTE}
theorem zfN{ρ:En}{i:Nat}{c:Cell}(h:capV (ρ.getD i none)=some c):(∃d,c=.val d/\ρ[i]?=some (some (.val d)))\/∃ks,c=.rdo ks/\(ρ[i]?=some (some (.dct ks))\/ρ[i]?=some (some (.rdo ks))):=by
 rw[List.getD_eq_getElem?_getD]at h;cases e:ρ[i]? with
 | none=>rw[e]at h;cases h
 | some o =>
  rw[e]at h;cases o with
  | none=>cases h
  | some c' =>
   cases c' with
   | val d'=>simp[capV]at h;exact .inl ⟨d',h.symm,rfl⟩
   | own _=>simp[capV]at h
   | dct ks=>simp[capV]at h;exact .inr ⟨ks,h.symm,.inl rfl⟩
   | dtt ks=>simp[capV]at h
   | rdo ks=>simp[capV]at h;exact .inr ⟨ks,h.symm,.inr rfl⟩
theorem zkD{K:qF}{C:Ctx}{ρ:En}{σ:St}{H H2:Hp}{n n2:Nat}{D:Addr}(S:Stt K C ρ σ H n)(e:ExtE C.hd H H2)(hn:Hn C.hd H2 n2)(hD:H D=none)(hy:MutO (H2 D)) :
  Stt K ⟨C.hd,fun a=>Own C ρ σ a\/a=D⟩ (JH own.length capt ρ) (JS own++capS capt σ) H2 n2/\∀a,¬OwnS (JH own.length capt ρ) (JS own++capS capt σ) a:=by
 have get:∀(i:Nat) c,(JH own.length capt ρ)[i]?=some (some c)->∃j,capV (ρ.getD j none)=some c/\own.length<=i/\capt[i - own.length]?=some j:=fun i c h=>by
  unfold JH at h
  by_cases hi:i<own.length
  ·rw[List.getElem?_append_left (by simpa using hi),List.getElem?_replicate]at h
   split at h <;> cases h
  ·rw[List.getElem?_append_right (by simpa using hi),List.length_replicate,List.getElem?_map]at h
   cases ej:capt[i - own.length]? with
   | none=>rw[ej]at h;cases h
   | some j =>
    rw[ej]at h;exact⟨j,by simpa using h,by omega,rfl⟩
 have slot:∀(i j:Nat) (v:V),own.length<=i->capt[i - own.length]?=some j->σ[j]?=some (some v)->(JS own++capS capt σ)[i]?=some (some v):=fun i j v hi e3 h1=>by
  rw[List.getElem?_append_right (by simpa using hi)]
  simp only[List.length_map,List.getElem?_map,e3,Option.map_some];rw[List.getD_eq_getElem?_getD,h1];rfl
 have nm:∀(i:Nat) (c:Cell),c.mine=true->(JH own.length capt ρ)[i]?=some (some c)->False:=fun i c m h=>by
  obtain⟨j,e1,_⟩:=get i c h;rcases zfN e1 with⟨d,rfl,_⟩|⟨ks,rfl,_⟩ <;> cases m
 have no:∀a,¬OwnS (JH own.length capt ρ) (JS own++capS capt σ) a:=fun a ⟨i,c,m,h1,_⟩=>nm i c m h1
 have S2:=S.on e hn;have sub:∀a o,H a=some o->Own ⟨C.hd,fun a=>Own C ρ σ a\/a=D⟩ (JH own.length capt ρ) (JS own++capS capt σ) a->Own C ρ σ a:=fun a o ha z=>by
  rcases z with z|z
  ·rcases z with z|z
   ·exact z
   ·subst z;rw[hD]at ha;cases ha
  ·exact absurd z (no a)
 have kp:∀a o,¬Own C ρ σ a->H a=some o->H2 a=some o:=fun a o nO ha=>e a o ha fun z=>nO (.inl (S.hx a z))
 refine⟨.mk' (by unfold JH;simp) (fun i d h=>?_) (fun i ds m h=>(nm i _ m h).elim) (fun i ks h=>?_) (fun i j ds es a m _ h=>(nm i _ m h).elim) hn (fun a ha=>?_) (fun a ha=>.inl (.inl (S.hx a ha))),no⟩
 ·obtain⟨j,e1,hi,e3⟩:=get i _ h;rcases zfN e1 with⟨d',z,e2⟩|⟨ks,z,_⟩
  ·cases z;obtain⟨v,h1,h2⟩:=S.val j d e2;exact⟨v,slot i j v hi e3 h1,h2.mono sub kp⟩
  ·cases z
 ·obtain⟨j,e1,hi,e3⟩:=get i _ h;rcases zfN e1 with⟨d',z,e2⟩|⟨ks',z,e2⟩
  ·cases z
  ·cases z;rcases e2 with e2|e2
   ·obtain⟨a,kvs,h1,h2,h3,h4⟩:=S.dct j ks e2;have nh:C.hd≠some a:=fun z=>h4 (S.hx a z)
    exact⟨a,kvs,slot i j _ hi e3 h1,e a _ h2 nh,h3.mono sub kp,.inl (.inr ⟨j,.dct ks,rfl,e2,h1⟩),nh⟩
   ·obtain⟨a,kvs,h1,h2,h3,h4,nh⟩:=S.rdo j ks e2;exact⟨a,kvs,slot i j _ hi e3 h1,e a _ h2 nh,h3.mono sub kp,.inl (.inl h4),nh⟩
 ·rcases ha with ha|rfl
  ·exact S2.lst ha
  ·exact hy
theorem zmi{K:qF}{C:Ctx}{ρ:En}{σ:St}{H H2:Hp}{n n2:Nat}{D:Addr}{ys:List V}(S:Stt K C ρ σ H n)(e:ExtE C.hd H H2)(hn:Hn C.hd H2 n2)(hD:H D=none)(hy:H2 D=some (.lst ys)) :
  Stt K ⟨C.hd,fun a=>Own C ρ σ a\/a=D⟩ (JH own.length capt ρ) (JS own++capS capt σ) H2 n2/\∀a,¬OwnS (JH own.length capt ρ) (JS own++capS capt σ) a:=zkD S e hn hD (.inl ⟨_,hy⟩)
def zqS(K:qF)(te:TE)(d:DTA):Prop:=∀(C:Ctx) (ρ:En) (σ:St) (H:Hp) (n:Nat) (Q:VK) (R:List PyData->Nat->Prop),Stt K C ρ σ H n->d ρ n R ->
 (∀ts n' p vs H',R ts n'->ExtE C.hd H H'->Hn C.hd H' n'->H p=none->H' p=some (.lst vs)->Reps K C.hd (fun a=>Own C ρ σ a\/a=p) H' vs ts->Q (.ref p) H')->te σ H Q
theorem zgQ(hi:DIL X tg iter di)
  (hg:∀C s₀ H₀ fp,DG (Jv X scope own capt C s₀ H₀ fp) tg is g) (hin:∀i∈is,i<own.length) (ht:∀C s₀ H₀ fp,DTs (Jv X scope own capt C s₀ H₀ fp) ifs tt) (he:∀C s₀ H₀ fp,DE (Jv X scope own capt C s₀ H₀ fp) elt te) :
  ∃(wi:TI) (gg:TG) (gt:TT) (ge:TE),PI X tg iter wi/\(∀C s₀ H₀ fp,PG (Jv X scope own capt C s₀ H₀ fp) tg gg)/\(∀C s₀ H₀ fp,PTs (Jv X scope own capt C s₀ H₀ fp) ifs gt)/\(∀C s₀ H₀ fp,PE (Jv X scope own capt C s₀ H₀ fp) elt ge)/\zqS X.K (tComp own capt wi gg gt ge) (dComp own.length capt di g tt te):=by
 obtain⟨wi,pi,hi⟩:=hi
 let Xf:(Addr×Shared×Hp×List Addr)->Cx:=fun q=>Jv X scope own capt q.1 q.2.1 q.2.2.1 q.2.2.2
 have hK:∀q,(Xf q).K=X.K:=fun _=>rfl
 have hne:Nonempty (Addr×Shared×Hp×List Addr):=⟨(0,X.s₀,X.H₀,[])⟩;obtain⟨gg,pg,hgg⟩:=DG.uni (Xf:=Xf) hK fun q=>hg q.1 q.2.1 q.2.2.1 q.2.2.2
 obtain⟨gt,pt,hgt⟩:=DTs.uni (Xf:=Xf) hK fun q=>ht q.1 q.2.1 q.2.2.1 q.2.2.2
 obtain⟨ge,pe,hge⟩:=DE.uni (Xf:=Xf) hK fun q=>he q.1 q.2.1 q.2.2.1 q.2.2.2
 refine⟨wi,gg,gt,ge,pi,(fun C s₀ H₀ fp=>pg (C,s₀,H₀,fp)),(fun C s₀ H₀ fp=>pt (C,s₀,H₀,fp)),(fun C s₀ H₀ fp=>pe (C,s₀,H₀,fp)),fun C ρ σ H n Q R St hd hq=>?_⟩
 refine hi C ρ σ H n _ _ St hd fun ts n1 J H1 r e1 hn it=>fun D hD1=>?_
 have St1:=St.on e1 hn;have hD:H D=none:=zhM e1 hn hD1;have nhd:C.hd≠some D:=fun z=>St.dom (.inl (St.hx D z)) hD
 refine zkE (n:=ts.length) (fun i ys H2=>∃acc n2,Qs g tt te (JH own.length capt ρ) (ts.drop i) acc n2 R/\Reps X.K C.hd (fun a=>Own C ρ σ a\/a=D) H2 ys acc/\ExtE C.hd H1 H2/\Hn C.hd H2 n2)
  ⟨[],n1,by simpa using r,.nil,ExtE.new hD1,hn.same (JU hD1)⟩ ?_ ?_
 ·rintro i ys H2 hlt hy ⟨acc,n2,c2,r2,e2,hn2⟩;have et:ts[i]?=some ts[i]:=List.getElem?_eq_getElem hlt;rw[List.drop_eq_getElem_cons hlt]at c2;have itq:=it (fun a=>Own C ρ σ a\/a=D) H2 (fun a o ha nh=>e2 a o ha nh) (fun a o ha no z=>z.elim no fun z=>by subst z;rw[hD1]at ha;cases ha) (fun a z=>z.elim (fun z=>(St1.on e2 hn2).dom z) fun z=>by subst z;rw[hy];exact fun z=>by cases z)
  obtain⟨go,yl⟩:=itq.1 i _ et;refine⟨go,fun x H3 hyd=>?_⟩
  obtain⟨sm,rx⟩:=yl x H3 hyd;have hn3:=hn2.same sm;have e3:ExtE C.hd H1 H3:=e2.trans sm.ext;obtain⟨I3,no3⟩:=zmi (own:=own) (capt:=capt) (D:=D) (ys:=ys) St (e1.trans e3) hn3 hD (sm _ _ hy);have rx':Rep X.K C.hd (Own ⟨C.hd,fun a=>Own C ρ σ a\/a=D⟩ (JH own.length capt ρ) (JS own++capS capt σ)) H3 x ts[i]:=rx.mono (fun a o _ z=>z.elim id fun z=>absurd z (no3 a)) fun _ _ _ z=>z
  refine hgg ⟨C.hd,fun a=>Own C ρ σ a\/a=D⟩ (JH own.length capt ρ) (JS own++capS capt σ) H3 n2 x ts[i] _ _ I3 rx' c2 fun ρ4 σ4 r4 S4 k4 hj hl=>⟨Wk.of hl.symm fun j v ej=>?_,?_⟩
  ·by_cases hjo:j<own.length
   ·rw[List.getElem?_append_left (by simpa using hjo),List.getElem?_map]at ej
    cases z:own[j]? with
    | none=>rw[z]at ej;cases ej
    | some q=>rw[z]at ej;cases ej
   ·rw[hj j (fun z=>hjo (hin j z))];exact ej
  ·refine hgt _ ρ4 σ4 H3 n2 _ _ S4 r4 fun b n5 H5 r5 e5 hn5=>?_
   have S5:=S4.on e5 hn5;have hy5:H5 D=some (.lst ys):=e5 D _ (sm _ _ hy) nhd;have r25:∀{H6},ExtE C.hd H2 H6->Reps X.K C.hd (fun a=>Own C ρ σ a\/a=D) H6 ys acc:=fun e=>r2.mono (fun _ _ _ z=>z) fun a o no ha=>e a o ha fun z=>no (.inl (.inl (St.hx a z)))
   cases b with
   | false =>
    refine iteF ⟨ys,hy5,acc,n5,by simpa using r5,r25 ((Same.ext sm).trans e5),e3.trans e5,hn5⟩
   | true =>
    refine iteT (hge _ ρ4 σ4 H5 n5 _ _ S5 (by simpa using r5) fun t n6 v H6 r6 e6 hn6 q6=>?_)
    have hy6:H6 D=some (.lst ys):=e6 D _ hy5 nhd;have rl:=(r25 ((Same.ext sm).trans (e5.trans e6))).length;refine⟨ys,hy6,by rw[rl];exact r6.1,acc++[t],n6,r6.2,?_,?_,?_⟩
    ·have q6':Rep X.K C.hd (fun a=>Own C ρ σ a\/a=D) H6 v t:=q6.mono (fun _ _ _ z=>.inl z) fun _ _ _ z=>z
     have all:=(r25 ((Same.ext sm).trans (e5.trans e6))).append (Reps.cons q6' .nil);exact all.mono (fun _ _ _ z=>z) fun a o no ha=>by rw[Jy (show a≠D from fun z=>no (.inr z))];exact ha
    ·exact fun a o ha nh=>by
      rw[Jy (Q7 ha hD1)];exact(e3.trans (e5.trans e6)) a o ha nh
    ·exact fun a ha=>by
      obtain⟨d,m,t,q,rest⟩:=hn6 a ha;exact⟨d,m,t,by rw[Jy (show a≠D from fun z=>nhd (by rw[<- z];exact ha))];exact q,rest⟩
 ·rintro ys H2 hy ⟨acc,n2,c2,r2,e2,hn2⟩;rw[List.drop_length]at c2;have itq:=it (fun a=>Own C ρ σ a\/a=D) H2 (fun a o ha nh=>e2 a o ha nh) (fun a o ha no z=>z.elim no fun z=>by subst z;rw[hD1]at ha;cases ha) (fun a z=>z.elim (fun z=>(St1.on e2 hn2).dom z) fun z=>by subst z;rw[hy];exact fun z=>by cases z)
  exact⟨itq.2,hq acc n2 D ys H2 c2 (e1.trans e2) hn2 hD hy r2⟩
theorem QD(hc:X.calm=true)(S:CompScope scope own capt X)(hi:DIL X tg iter di)
  (hg:∀C s₀ H₀ fp,DG (Jv X scope own capt C s₀ H₀ fp) tg is g) (hin:∀i∈is,i<own.length) (ht:∀C s₀ H₀ fp,DTs (Jv X scope own capt C s₀ H₀ fp) ifs tt) (he:∀C s₀ H₀ fp,DE (Jv X scope own capt C s₀ H₀ fp) elt te)
  (hs:∀x,foldedSetIterable iter X.env x=pure x:=by intro _;rfl):DN X (.ListComp elt [⟨tg,iter,ifs,0⟩] scope pos) (dComp own.length capt di g tt te):=by
 obtain⟨wi,gg,gt,ge,a,b,c,d,sp⟩:=zgQ hi hg hin ht he;exact⟨_,zlE hc S a b c d hs,sp⟩
def DNA(X:Cx)(x:Str)(pos':Pos)(e:Expr)(pos:Pos)(i:Nat)(d:DTA):Prop:=∃te,PS X (.Assign [.Name x pos'] e pos) (tAsg te (Zx i))/\zqS X.K te d
theorem zik{x:Str}{pos' spos:Pos}{i:Nat}(hN:X.N.Nodup)(hxi:X.N[i]?=some x)(hx:Loc X.env.scope x)(hc:X.calm=true)(S:CompScope scope own capt X)(hi:DIL X tg iter di)
  (hg:∀C s₀ H₀ fp,DG (Jv X scope own capt C s₀ H₀ fp) tg is g) (hin:∀i∈is,i<own.length) (ht:∀C s₀ H₀ fp,DTs (Jv X scope own capt C s₀ H₀ fp) ifs tt) (he:∀C s₀ H₀ fp,DE (Jv X scope own capt C s₀ H₀ fp) elt te)
  (hs:∀x,foldedSetIterable iter X.env x=pure x:=by intro _;rfl) (hsw:swapsWith (.ListComp elt [⟨tg,iter,ifs,0⟩] scope pos) (some (.Name x pos')) spos.line X.env=pure true:=by rfl)
  (hf:X.fn x=true\/X.env.scope.names.lookup x=some .local:=by walk_at "F") :
  DNA X x pos' (.ListComp elt [⟨tg,iter,ifs,0⟩] scope pos) spos i (dComp own.length capt di g tt te):=by
 obtain⟨wi,gg,gt,ge,a,b,c,d,sp⟩:=zgQ hi hg hin ht he;exact⟨_,zjF hc S a b c d hN hxi hx hs hsw hf,sp⟩
theorem zkt{x:Str}{pos' spos:Pos}{e:Expr}{i:Nat}{d:DTA}(h:DNA X x pos' e spos i d):DS X (.Assign [.Name x pos'] e spos) (sSet i (dNew d)):=by
 obtain⟨ta,pa,h⟩:=h;refine⟨_,pa,fun C ρ σ H n D D' S hd g=>?_⟩
 refine h C ρ σ H n _ _ S hd fun ts n' p vs H' r e1 h1 h2 h3 h4=>?_
 exact g.nx _ _ H' n' r ((S.on e1 h1).put (.lst h3 (S.free h2|> fun z=>z) (h4.mono (fun _ _ _ z=>.inl z) fun _ _ _ z=>z))) (e1.keep.trans ZR)
end
def ZG(K:qF):Sp:=fun vs H Q _=>∃(a:Addr) (ns:List Int) (k:Int),vs=[.ref a,.int k]/\SqL K H a (ns.map V.int)/\ns.length<=63/\0<=k/\k<=100 /\
 ∀hd H',H hd=none->Zz H' hd 0->Same H H'->Q (.ref hd) H'
def zqR(hd:Addr)(H H':Hp):Prop:=∀b o,H b=some o->b≠hd->H' b=some o
def zmq:Sp:=fun vs H Q _=>∃(hd:Addr) (many n:Int),vs=[.ref hd,.int many]/\Zz H hd n/\n<=1000000000000/\0<many/\many<2 ^ 128 /\
 ∀(r:Int) H',0<=r->r<many->Zz H' hd (n+1)->zqR hd H H'->Q (.int r) H'
def Uf:GD:=fun ts n R=>match ts with
 | [h,.int many]=>h=HAND/\0<many/\many<2 ^ 128/\n<=1000000000000/\∀r:Int,0<=r->r<many->R (.int r) (n+1)
 | _=>False
theorem zlc{K:qF}(vs:List V)(H:Hp)(Q:VK)(E:XK)(h:spD K 2 Uf vs H Q E):zmq vs H Q E:=by
 obtain⟨hd,O,ts,n,R,r,hn,dom,hx,hl,g,hq⟩:=h;unfold Uf at g;split at g
 ·rename_i hh many;obtain⟨rfl,m0,m1,hn',g⟩:=g;cases r with
  | cons r1 r =>
   cases r with
   | cons r2 r =>
    cases r;obtain⟨a,rfl,ea⟩:=r1.handI;rw[r2.intI];refine⟨a,many,n,rfl,hn a ea,by omega,m0,m1,fun q H' q0 q1 hh sx=>?_⟩
    refine hq _ (n+1) _ H' (g q q0 q1) (fun b o hb nb=>sx b o hb fun z=>nb (by rw[ea,z])) (fun b eb=>?_) (.int _)
    rw[ea]at eb;cases eb;exact hh
 ·exact g.elim
def zoH:Option (Option Cell)->(List PyData->Prop)->Prop
 | some (some (.val (.dict [(.none,.list ts)]))),R=>R ts
 | _,_=>False
def JP(ρ:En):En:=match (ρ[(0:Nat)]?:Option (Option Cell)) with
 | some (some (.val (.dict [(.none,.list ts)])))=>some (.val (.dict [(.none,.list ts)]))::List.replicate (ρ.length - 1) none
 | _=>List.replicate ρ.length none
def intOf:Option (Option Cell)->(Int->Prop)->Prop
 | some (some (.val (.int k))),R=>R k
 | _,_=>False
def Yv(i j:Nat)(u:DTS):DTS:=fun D ρ n=>zoH ρ[0]? fun ts=>intOf ρ[j]? fun k=>(∃ns:List Int,ts=ns.map PyData.int/\ns.length<=63)/\0<=k/\k<=100 /\
 u { nx:=fun ρ' _=>D.nx (JP ρ') n,rt:=fun t _=>∃b,t=.bool b/\D.rt t n,bk:=fun ρ' _=>D.bk (JP ρ') n,ct:=fun ρ' _=>D.ct (JP ρ') n } (((JP ρ).set j (some (.val (.int k)))).set i (some (.val HAND))) 0
theorem Yh{ρ:En}{i:Nat}{c:Cell}(h:(JP ρ)[i]?=some (some c)):i=0/\ρ[0]?=some (some c)/\∃ts,c=.val (.dict [(.none,.list ts)]):=by
 unfold JP at h;split at h
 ·rename_i ts e;cases i with
  | zero=>simp at h;subst h;exact⟨rfl,e,ts,rfl⟩
  | succ i =>
   rw[List.getElem?_cons_succ,List.getElem?_replicate]at h;split at h <;> cases h
 ·rw[List.getElem?_replicate]at h;split at h <;> cases h
theorem zmc{ρ:En}:(JP ρ).length=ρ.length:=by
 unfold JP;split
 ·rename_i ts e;cases ρ with
  | nil=>simp at e
  | cons a r=>simp
 ·simp
theorem zfQ{ρ:En}{σ:St}{a:Addr}:¬OwnS (JP ρ) σ a:=fun⟨i,ds,m,h,_⟩=>by
 obtain⟨_,_,ts,e⟩:=Yh h;subst e;cases m
theorem Rep.scrHd{K:qF}{hd hd':Option Addr}{O O':Addr->Prop}{H H':Hp}{v:V}{ts:qD}(h:Rep K hd O H v (.dict [(.none,.list ts)]))(ho:∀a o,H a=some o->¬O a->H' a=some o/\¬O' a):Rep K hd' O' H' v (.dict [(.none,.list ts)])/\∃ns:List Int,ts=ns.map PyData.int:=by
 generalize e:(PyData.dict [(PyData.none,PyData.list ts)])=t at h;cases h with
 | @scr a ns h1 o =>
  have e':ts=ns.map PyData.int:=by simpa[SCR] using e
  subst e';refine⟨?_,ns,rfl⟩;rcases h1 with h1|⟨u,h1⟩
  ·exact .scr (.inl (ho a _ h1 o).1) (ho a _ h1 o).2
  ·exact .scr (.inr ⟨u,(ho a _ h1 o).1⟩) (ho a _ h1 o).2
 | @scrS a ns h1 =>
  have e':ts=ns.map PyData.int:=by simpa[SCR] using e
  subst e';exact⟨.scrS h1,ns,rfl⟩
 | hand _=>simp[HAND]at e
 | dct _ _=>cases e
 | dcK _ _ _ e'=>cases e;exact(dict_noK e').elim
 | dcT _ _ _ e'=>cases e;exact(dict_noT e').elim
 | _=>cases e
theorem Stt.drop{K:qF}{C C':Ctx}{ρ:En}{σ:St}{H H':Hp}{n n':Nat}(S:Stt K C' ρ σ H n)(hn:Hn C.hd H' n')(hl:∀a,C.ext a->MutO (H' a))(hx:∀a,C.hd=some a->C.ext a)
  (ho:∀a o,H a=some o->¬Own C' ρ σ a->H' a=some o/\¬C.ext a):Stt K C (JP ρ) σ H' n' where
 len:=by rw[zmc];exact S.len
 val:=fun i d h=>by
  obtain⟨rfl,e0,ts,et⟩:=Yh h;cases et;obtain⟨v,h1,h2⟩:=S.val 0 _ e0;exact⟨v,h1,(h2.scrHd fun a o ha no=>⟨(ho a o ha no).1,fun z=>z.elim (ho a o ha no).2 zfQ⟩).1⟩
 own:=fun i ds h=>by
  obtain⟨_,_,ts,e⟩:=Yh h;cases e
 dct:=fun i ds h=>by
  obtain⟨_,_,ts,e⟩:=Yh h;cases e
 rdo:=fun i ds h=>by
  obtain⟨_,_,ts,e⟩:=Yh h;cases e
 dtt:=fun i ds h=>by
  obtain⟨_,_,ts,e⟩:=Yh h;cases e
 dif:=fun i j ds es a m _ h=>by
  obtain⟨_,_,ts,e⟩:=Yh h;subst e;cases m
 hnd:=hn
 ext:=hl
 hx:=hx
section
variable{X:Cx}{st:Stmt}{sts:List Stmt}{ps:List Str}{f:Addr}{fd:FuncData}{u:DTS}{x s kx hx:Str}{pos pos' p p1 p2 p3:Pos}{k:Nat}
theorem zma{i j:Nat}(D:Bd.Def X.K X.mg hx st ps f fd)(G:FnOk X.prog X.w X.K X.mg X.base CX0 k f fd ps (ZG X.K))(hr:Room k X.A)(hN:X.N.Nodup)(hi:X.N[i]?=some x)(hlx:Loc X.env.scope x)(hu:DSs X sts u)(hij:i≠0:=by decide)(hj0:j≠0:=by decide)(hji:j≠i:=by decide)
  (h0:X.N[0]?=some s:=by rfl) (hj:X.N[j]?=some kx:=by rfl) (hv0:Vis X.env.scope s:=by walk_at "V") (hvj:Vis X.env.scope kx:=by walk_at "V")
  (hd0:(s == ("__debug__":Str))=false:=by decide) (hcd0:(s == ("__classdict__":Str))=false:=by decide) (hdj:(kx == ("__debug__":Str))=false:=by decide) (hcdj:(kx == ("__classdict__":Str))=false:=by decide) (hg:Gl X hx:=by rfl) (hdb:(hx == ("__debug__":Str))=false:=by decide)
  (hs:swapsWith (.Call (.Name hx p) [.Name s p1,.Name kx p2] [] p3) (some (.Name x pos')) pos.line X.env=pure false:=by rfl) (hf:X.fn x=true\/X.env.scope.names.lookup x=some .local:=by walk_at "F") :
  DSs X (.Assign [.Name x pos'] (.Call (.Name hx p) [.Name s p1,.Name kx p2] [] p3) pos::sts) (Yv i j u):=by
 obtain⟨tu,pu,hu⟩:=hu;refine⟨_,QB (QW hN hi hlx (Bd.znh D G hr (Qu (U9 h0 hv0 hd0 hcd0) (Qu (U9 hj hvj hdj hcdj) QV rfl) rfl) hg hdb) hs hf) pu,fun C ρ σ H n Dn D' S hd g=>?_⟩
 unfold Yv zoH at hd;split at hd
 ·rename_i ts e0;unfold intOf at hd;split at hd
  ·rename_i kk ej;obtain⟨⟨ns,rfl,hl⟩,k0,k1,hd⟩:=hd;obtain⟨v0,s0,r0⟩:=S.val 0 _ e0;obtain⟨vj,sj,rj⟩:=S.val j _ ej;obtain⟨a0,rfl,sq0⟩:=r0.scrI;rw[rj.intI]at sj;refine⟨_,s0,_,sj,?_⟩;refine⟨a0,ns,kk,rfl,sq0,hl,k0,k1,fun h H1 hh hok sm=>?_⟩
   have S1:=S.on (Same.ext sm:ExtE C.hd H H1) (S.hnd.same sm);have nx:¬Own C ρ σ h:=fun z=>S.dom z hh
   have Sd:Stt X.K ⟨some h,fun a=>C.ext a\/a=h⟩ (JP ρ) σ H1 0:=S.drop (fun a ea=>by cases ea;exact hok) (fun a z=>z.elim (fun z=>S1.ext a z) fun z=>by subst z;obtain⟨_,_,_,q,_⟩:=hok;exact .inl ⟨_,q⟩) (fun a ea=>.inr (by cases ea;rfl))
    (fun a o ha no=>⟨sm a o ha,fun z=>z.elim (fun z=>no (.inl z)) fun z=>by subst z;rw[hh]at ha;cases ha⟩)
   have Sd2:=(Sd.put (i:=j) (t:=.int kk) (v:=.int kk) (.int kk)).put (i:=i) (t:=HAND) (v:=.ref h) (.hand rfl);have own2:∀a,¬OwnS (((JP ρ).set j (some (.val (.int kk)))).set i (some (.val HAND))) ((σ.set j (some (.int kk))).set i (some (.ref h))) a:=fun a z=>zfQ (ZV (ZV z))
   have es:(σ.set j (some (V.int kk)))=σ:=by
    apply List.ext_getElem?
    intro q
    by_cases z:j=q
    ·subst z;have:j<σ.length:=by
      rcases Nat.lt_or_ge j σ.length with w|w
      ·exact w
      ·rw[List.getElem?_eq_none w]at sj;cases sj
     rw[zjp this,sj]
    ·rw[List.getElem?_set_ne z]
   rw[es]at Sd2 own2;refine hu _ _ _ H1 0 _ _ Sd2 hd ?_;have back:∀{ρ' σ' H' n'},Stt X.K ⟨some h,fun a=>C.ext a\/a=h⟩ ρ' σ' H' n'->(∀a o,H1 a=some o->some h≠some a->H' a=some o)->Stt X.K C (JP ρ') σ' H' n:=fun {ρ' σ' H' n'} S' kp =>
    S'.drop (fun a ea=>by
      obtain⟨d,m,t,q,rest⟩:=S.hnd a ea;exact⟨d,m,t,kp a _ (sm _ _ q) (fun z=>by cases z;rw[hh]at q;cases q),rest⟩)
     (fun a z=>by
      rcases S.ext a z with⟨xs,q⟩|⟨xs,q⟩|⟨b,xs,ep,q⟩
      ·exact .inl ⟨xs,kp a _ (sm _ _ q) (fun z=>by cases z;rw[hh]at q;cases q)⟩
      ·exact .inr (.inl ⟨xs,kp a _ (sm _ _ q) (fun z=>by cases z;rw[hh]at q;cases q)⟩)
      ·exact .inr (.inr ⟨b,xs,ep,kp a _ (sm _ _ q) (fun z=>by cases z;rw[hh]at q;cases q)⟩)) S.hx (fun a o ha no=>⟨ha,fun z=>no (.inl (.inl z))⟩)
   have kp1:∀{ρ' σ' H'},Keep ⟨some h,fun a=>C.ext a\/a=h⟩ (((JP ρ).set j (some (.val (.int kk)))).set i (some (.val HAND))) (σ.set i (some (.ref h))) H1 ρ' σ' H'->∀a o,H1 a=some o->some h≠some a->H' a=some o:=fun k a o ha na=>(k a o ha na (own2 a)).1
   have kp2:∀{ρ' σ' H'},Keep ⟨some h,fun a=>C.ext a\/a=h⟩ (((JP ρ).set j (some (.val (.int kk)))).set i (some (.val HAND))) (σ.set i (some (.ref h))) H1 ρ' σ' H'->Keep C ρ σ H (JP ρ') σ' H':=fun k a o ha _ _=>⟨kp1 k a o (sm a o ha) (fun z=>by cases z;rw[hh]at ha;cases ha),zfQ⟩
   refine⟨fun ρ' σ' H' n' h' S' k'=>g.nx _ _ H' n h' (back S' (kp1 k')) (kp2 k'),fun t n' v H' h' hn' k' rp=>?_,fun ρ' σ' H' n' h' S' k'=>g.bk _ _ H' n h' (back S' (kp1 k')) (kp2 k'),fun ρ' σ' H' n' h' S' k'=>g.ct _ _ H' n h' (back S' (kp1 k')) (kp2 k')⟩
   obtain⟨b,rfl,h'⟩:=h';rw[rp.blI];have kq:∀a o,H a=some o->H' a=some o:=fun a o ha=>k' a o (sm a o ha) (fun z=>by cases z;rw[hh]at ha;cases ha) (own2 a)
   refine g.rt _ n _ H' h' (fun a ea=>?_) (fun a o ha _ _=>kq a o ha) (.bl b)
   obtain⟨d,m,t,q,rest⟩:=S.hnd a ea;exact⟨d,m,t,kq a _ q,rest⟩
  ·exact hd.elim
 ·exact hd.elim
end
def zmX(K:qF):Sp:=fun vs H Q _=>∃(a:Addr) (ns:List Int),vs=[.ref a]/\SqL K H a (ns.map V.int)/\ns.length<=63/\∀H',Q (.bl true) H'
def zqv:GD:=fun ts n R=>∃ns:List Int,ts=[SCR ns]/\ns.length<=63/\∀n',R (.bool true) n'
theorem znG{K:qF}(vs:List V)(H:Hp)(Q:VK)(E:XK)(h:zmX K vs H Q E):spD K 1 zqv vs H Q E:=by
 obtain⟨a,ns,rfl,sq,hl,q⟩:=h;refine⟨none,fun _=>False,[SCR ns],0,fun t _=>t=.bool true,.cons ?_ .nil,(fun a e=>by cases e),(fun a z=>z.elim),(fun a e=>by cases e),rfl,⟨ns,rfl,hl,fun _=>rfl⟩,fun t n' v H' ht _ _ rp=>?_⟩
 ·rcases sq with sq|sq
  ·exact .scr sq (fun z=>z)
  ·exact .scrS fun _=>.inr sq
 ·subst ht;rw[rp.blI];exact q H'
section
variable{env:Env}{es:List Expr}{a b:Expr}{l1 l2:List Expr}{p:Pos}{x:Str}
theorem Jd:starEach (.Name x p::es) env=(false,eval (.Name x p) env)::starEach es env:=rfl
theorem Jh{i:Int}{j}:starEach (.Constant (.int i) j p::es) env=(false,eval (.Constant (.int i) j p) env)::starEach es env:=rfl
theorem YU{i:Bool}{j}:starEach (.Constant (.bool i) j p::es) env=(false,eval (.Constant (.bool i) j p) env)::starEach es env:=rfl
theorem ZL{j}:starEach (.Constant .none j p::es) env=(false,eval (.Constant .none j p) env)::starEach es env:=rfl
theorem QA{i:Str}{j}:starEach (.Constant (.str i) j p::es) env=(false,eval (.Constant (.str i) j p) env)::starEach es env:=rfl
theorem JN{c d}:starEach (.Call a l1 c d::es) env=(false,eval (.Call a l1 c d) env)::starEach es env:=rfl
theorem YV:starEach (.List l1 p::es) env=(false,eval (.List l1 p) env)::starEach es env:=rfl
theorem Jq{k}:starEach (.Tuple l1 k p::es) env=(false,eval (.Tuple l1 k p) env)::starEach es env:=rfl
theorem JI{o}:starEach (.BinOp a o b p::es) env=(false,eval (.BinOp a o b p) env)::starEach es env:=rfl
theorem zoE{o}:starEach (.UnaryOp o a p::es) env=(false,eval (.UnaryOp o a p) env)::starEach es env:=rfl
theorem JX:starEach (.Subscript a b p::es) env=(false,eval (.Subscript a b p) env)::starEach es env:=rfl
theorem zjl{o}:starEach (.BoolOp o l1 p::es) env=(false,eval (.BoolOp o l1 p) env)::starEach es env:=rfl
theorem Ue{g s}:starEach (.ListComp a g s p::es) env=(false,eval (.ListComp a g s p) env)::starEach es env:=rfl
theorem zjk:starEach (.Dict [] [] p::es) env=(false,eval (.Dict [] [] p) env)::starEach es env:=rfl
end
section
variable{X:Cx}{a b c e:Expr}{da db dc:DTE}{pos p:Pos}{r r':R2}{g g':G2}
theorem zfP{op op':CmpOp}(ho:OpR X (compareOp op) r)(hg:Gp2 X r g)(ho':OpR X (compareOp op') r')(hg':Gp2 X r' g')(ha:DL X a da)(hb:DL X b db)(hc:DL X c dc)
  (hm:lastMarks [op,op'] [b,c]=false:=by with_unfolding_all rfl):DT X (.Compare a [op,op'] [b,c] pos) (Ur (Yy g g' da db dc)):=by
 obtain⟨ta,pa,ha⟩:=ha;obtain⟨tb,pb,hb⟩:=hb;obtain⟨tc,pc,hc⟩:=hc;refine⟨_,zlw ho ho' pa pb pc hm,fun C ρ σ H n Q R S h hq=>?_⟩
 refine two ha hb S h fun x y n2 v w H2 r2 e S2 q1 q2=>?_
 refine hg C.hd (Own C ρ σ) H2 v w x y _ _ (fun p=>S2.dom) q1 q2 r2 fun z u H' rz sm rp=>?_
 have S3:=S2.on sm.ext (S2.hnd.same sm);cases z with
 | bool k =>
  cases rp;refine⟨k,rfl,?_⟩;cases k with
  | false=>exact iteF ⟨false,rfl,hq _ n2 H' rz (e.trans sm.ext) S3.hnd⟩
  | true =>
   refine iteT (hc C ρ σ H' n2 _ _ S3 rz fun z2 n3 w2 H4 r4 e4 h4 q4=>?_)
   have S4:=S3.on e4 h4;have q2':=e4.repT S.hx ((Same.ext sm:ExtE C.hd H2 H').repT S.hx q2);refine hg' C.hd (Own C ρ σ) H4 w w2 y z2 _ _ (fun p=>S4.dom) q2' q4 r4 fun z u H' rz sm' rp=>?_
   cases z with
   | bool k=>cases rp;exact⟨k,rfl,hq _ n3 H' rz (((e.trans sm.ext).trans e4).trans sm'.ext) (S4.hnd.same sm')⟩
   | _=>exact rz.elim
 | _=>exact rz.elim
def zrz:TE:=fun _ H Q=>∀p,H p=none->∀ep,Q (.ref p) (upd H p (KDO p [] ep))
theorem zng:PE X (.Dict [] [] pos) zrz:=fun pins s σ H Q I h=>by
 have hb:(s.heap.objs.size == sysModules)=false:=beq_eq_false_iff_ne.mpr (Ne.symm (Nat.ne_of_lt I.bigM));obtain⟨o,es,ep,g1,g2,g3,_,g5,_⟩:=Heap.DictOf.new (knd:=YO X.prog X.w) s.heap;have ok:JM X.prog X.w (upd H s.heap.objs.size (KDO s.heap.objs.size [] ep)) (s.heap.push { cls:=.type "dict",data:=.dict #[] }) s.heap.objs.size (KDO s.heap.objs.size [] ep):=by
  refine⟨⟨hb,Nat.zero_le _,.nil,o,es,g1,g2,g3,?_⟩,⟨o,g1⟩,?_⟩
  ·cases hq:es.toList with
   | nil=>exact .nil
   | cons _ _=>rw[hq]at g5;cases g5
  ·rintro h1 h2 ⟨x1,x2,x3,o,es,y1,y2⟩ k;exact⟨x1,x2,x3,o,es,k o y1,y2⟩
 exact wpAny_Dict_empty ⟨.ref s.heap.objs.size,_,I.laid (a:=s.heap.objs.size) (o:=KDO s.heap.objs.size [] ep) (t':=s.toks) (fun _ _ q=>Heap.get?_push_of_some _ q) (Nat.le_refl _) ok,rfl,h _ (I.hok.fresh (Nat.le_refl _)) ep⟩
theorem ziq:DE X (.Dict [] [] pos) (dC (.dict [])):=by
 refine⟨_,zng,fun C ρ σ H n Q R S h hq p hp ep=>?_⟩
 exact hq _ n _ _ h (ExtE.new hp) (S.hnd.same (JU hp)) (.dct J1 (S.free hp))
end
section
variable{C:Int->Int->Prop}{f:Int->Int->Int}{fb:Int->Int->Bool}{i j k:Int}{R:PyData->Prop}{Rb:Bool->Prop}{xs ys:qD}{s t:Str}{a b:Bool}{u v:PyData}
theorem l_gI:gI C f (.int i) (.int j) R=(C i j/\R (.int (f i j))):=propext Iff.rfl
theorem Yx:gI0 f (.int i) (.int j) R=R (.int (f i j)):=propext Iff.rfl
theorem UW:oAdd (.int i) (.int j) R=R (.int (i+j)):=propext Iff.rfl
theorem UX:oAdd (.str s) (.str t) R=(s.length+t.length<=16777216/\R (.str (s++t))):=propext Iff.rfl
theorem UY:oAdd (.tuple xs) (.tuple ys) R=(xs.length+ys.length<=16777216/\R (.tuple (xs++ys))):=propext Iff.rfl
theorem UE:oEq (.int i) (.int j) R=R (.bool (decide (i=j))):=propext Iff.rfl
theorem UG:oEq (.tuple xs) (.tuple ys) R=(Okd (.tuple xs)/\Okd (.tuple ys)/\R (.bool (PyData.eqv (.tuple xs) (.tuple ys)))):=propext Iff.rfl
theorem UF:oEq (.list xs) (.list ys) R=(Okd (.list xs)/\Okd (.list ys)/\R (.bool (PyData.eqv (.list xs) (.list ys)))):=propext Iff.rfl
theorem UN:oNe (.int i) (.int j) R=R (.bool (!decide (i=j))):=propext Iff.rfl
theorem UM:oNe (.bool a) (.bool b) R=R (.bool (!decide (a=b))):=propext Iff.rfl
theorem UP:oNe (.str s) (.str t) R=R (.bool (!decide (s=t))):=propext Iff.rfl
theorem UQ:oNe (.tuple xs) (.tuple ys) R=(Okd (.tuple xs)/\Okd (.tuple ys)/\R (.bool (!PyData.eqv (.tuple xs) (.tuple ys)))):=propext Iff.rfl
theorem UO:oNe (.list xs) (.list ys) R=(Okd (.list xs)/\Okd (.list ys)/\R (.bool (!PyData.eqv (.list xs) (.list ys)))):=propext Iff.rfl
theorem Ym:oIsN (.bool a) (.bool b) R=R (.bool (a != b)):=propext Iff.rfl
theorem UJ:oLtA (.int i) (.int j) R=R (.bool (decide (i<j))):=propext Iff.rfl
theorem UH:oLeA (.int i) (.int j) R=R (.bool (decide (i<=j))):=propext Iff.rfl
theorem UI:oLeA (.str s) (.str t) R=R (.bool (!decide (t.cps.toList<s.cps.toList))):=propext Iff.rfl
theorem znH{x:PyData}(h:atI xs i=some x):oIx (.list xs) (.int i) R=R x:=by show(match atI xs i with|some t=>R t|none=>False)=_;rw[h]
theorem Ys{x:PyData}(h:atI xs i=some x):oIx (.tuple xs) (.int i) R=R x:=by show(match atI xs i with|some t=>R t|none=>False)=_;rw[h]
theorem U0:oIx (.tuple (u::xs)) (.int 0) R=R u:=Ys (by unfold atI ixN;simp)
theorem U1:oIx (.tuple (u::v::xs)) (.int 1) R=R v:=Ys (by unfold atI ixN;simp;rw[if_pos (by omega)];rfl)
theorem U2{w:PyData}:oIx (.tuple (u::v::w::xs)) (.int 2) R=R w:=Ys (by unfold atI ixN;simp;rw[if_pos (by omega)];rfl)
theorem UZ:oIx (.list (u::xs)) (.int 0) R=R u:=znH (by unfold atI ixN;simp)
theorem U5:truD (.bool a) Rb=Rb a:=propext Iff.rfl
theorem U6:truD (.list xs) Rb=Rb (!xs.isEmpty):=propext Iff.rfl
theorem UU:bolD (.bool a) Rb=Rb a:=propext Iff.rfl
theorem YC:bLen [.list xs] R=R (.int xs.length):=propext Iff.rfl
theorem U4:bLen [.tuple xs] R=R (.int xs.length):=propext Iff.rfl
theorem U3:bLen [.str s] R=(s.length<=16777216/\R (.int s.length)):=propext Iff.rfl
theorem Yj{ns:List Int}:bLen [SCR ns] R=R (.int ns.length):=by show R (.int (ns.map PyData.int).length)=_;rw[List.length_map]
theorem UL:bMin [.int i,.int j] R=R (.int (if j<i then j else i)):=propext Iff.rfl
theorem UK:bMax [.int i,.int j] R=R (.int (if j > i then j else i)):=propext Iff.rfl
theorem Yk:Zd [.list xs] R=R (.tuple xs):=propext Iff.rfl
theorem Yi{Rl:List PyData->Prop}:Qg (.tuple xs) Rl=Rl xs:=propext Iff.rfl
theorem zpF(y:String)(h:y∈["NoneType","bool","int","str","list","tuple","dict"]):kitB y "int" = some (decide (y = "int")||decide (y = "bool")):=by
 simp only[List.mem_cons,List.not_mem_nil,or_false]at h;rcases h with rfl|rfl|rfl|rfl|rfl|rfl|rfl <;> decide +kernel
theorem znJ(y:String)(h:y∈["NoneType","bool","int","str","list","tuple","dict"]):kitB y "bool" = some (decide (y = "bool")):=by
 simp only[List.mem_cons,List.not_mem_nil,or_false]at h;rcases h with rfl|rfl|rfl|rfl|rfl|rfl|rfl <;> decide +kernel
theorem zlW(y:String)(h:y∈["NoneType","bool","int","str","list","tuple","dict"]):kitB y "tuple" = some (decide (y = "tuple")):=by
 simp only[List.mem_cons,List.not_mem_nil,or_false]at h;rcases h with rfl|rfl|rfl|rfl|rfl|rfl|rfl <;> decide +kernel
theorem zpE(y:String)(h:y∈["NoneType","bool","int","str","list","tuple","dict"]):kitB y "str" = some (decide (y = "str")):=by
 simp only[List.mem_cons,List.not_mem_nil,or_false]at h;rcases h with rfl|rfl|rfl|rfl|rfl|rfl|rfl <;> decide +kernel
def Pln(t:PyData):Prop:=tyN t≠none
def isInt:PyData->Bool|.int _=>true|.bool _=>true|_=>false
def isBool:PyData->Bool|.bool _=>true|_=>false
def isTup:PyData->Bool|.tuple _=>true|_=>false
def isStr:PyData->Bool|.str _=>true|_=>false
variable{d:DTE}{ρ:En}{n:Nat}{Rn:qN}
theorem ZM{y:String}(h:tyN u=some y):y∈["NoneType","bool","int","str","list","tuple","dict"]:=by
 unfold tyN at h;split at h <;> cases h <;> simp
def isiD(f:PyData->Bool)(d:DTE):DTE:=fun ρ n R=>d ρ n fun t n1=>Pln t/\R (.bool (f t)) n1
end
section
variable{X:Cx}{e:Expr}{d:DTE}{p p2 pos:Pos}
theorem Qb{T:String}{f:PyData->Bool}{y:Str}(hk:∀t y,tyN t=some y->kitB y T=some (f t))(hm:X.mg "isinstance" = none) (hmT:X.mg y=none) (hT:bootBuiltins y=some (.type T)) (h:DL X e d) (hs:starEach (e::[.Name y p2]) X.env=(false,eval e X.env)::starEach [.Name y p2] X.env) (hg:Gl X "isinstance":=by rfl) (hgT:Gl X y:=by rfl) (hn:y ≠ "__name__":=by decide) (hd:(y == ("__debug__":Str))=false:=by decide) :
  DE X (.Call (.Name "isinstance" p) [e,.Name y p2] [] pos) (isiD f d):=by
 obtain⟨ta,pa,h⟩:=h;refine⟨_,Y5 zkJ hm zmm (Qu pa (znl (Bd.zr_ hmT hT hgT hn hd) QV) hs) hg,fun C ρ σ H n Q R S hd hq=>?_⟩
 refine h C ρ σ H n _ _ S hd fun t n1 v H1 r1 e1 h1 q1=>?_
 cases et:tyN t with
 | none=>exact absurd et r1.1
 | some z=>exact⟨v,C.hd,Own C ρ σ,t,T,z,f t,rfl,q1,et,hk t z et,hq _ n1 _ H1 r1.2 e1 h1 (.bl _)⟩
theorem zmF:∀t y,tyN t=some y->kitB y "int" = some (isInt t):=fun t y e=>by
 rw[zpF y (ZM e)];unfold tyN at e;split at e <;> cases e <;> rfl
theorem zhN:∀t y,tyN t=some y->kitB y "bool" = some (isBool t):=fun t y e=>by
 rw[znJ y (ZM e)];unfold tyN at e;split at e <;> cases e <;> rfl
theorem QY:∀t y,tyN t=some y->kitB y "tuple" = some (isTup t):=fun t y e=>by
 rw[zlW y (ZM e)];unfold tyN at e;split at e <;> cases e <;> rfl
theorem zmE:∀t y,tyN t=some y->kitB y "str" = some (isStr t):=fun t y e=>by
 rw[zpE y (ZM e)];unfold tyN at e;split at e <;> cases e <;> rfl
theorem QN{i:Int}:Pln (.int i):=by simp[Pln,tyN]
theorem QM{i:Bool}:Pln (.bool i):=by simp[Pln,tyN]
theorem Q5{i:Str}:Pln (.str i):=by simp[Pln,tyN]
theorem Q4{i:qD}:Pln (.tuple i):=by simp[Pln,tyN]
theorem Q1{i:qD}:Pln (.list i):=by simp[Pln,tyN]
theorem Q3:Pln .none:=by simp[Pln,tyN]
theorem Q0:Pln (.dict []):=by simp[Pln,tyN]
end
abbrev blk(i h:Int):PyData:=.tuple [.int i,.int h]
theorem Uz{i h:Int}:Okd (.tuple [.int i,.int h]):=⟨by simp[PyData.canLay0,PyData.canLayAll0],by simp[PyData.depth,PyData.depthAll]⟩
theorem zl8{i h j g:Int}:PyData.eqv (.tuple [.int i,.int h]) (.tuple [.int j,.int g])=(decide (i=j)&&decide (h=g)):=by
 simp only[PyData.eqv,PyData.eqvAll,Bool.and_true];rw[Bool.beq_eq_decide_eq,Bool.beq_eq_decide_eq]
def IsBk(bits i h:Int):Prop:=0<=h/\h<=bits/\∃k:Int,0<=k/\i=k*2 ^ h.toNat/\k<2 ^ (bits - h).toNat
theorem ZW(k:Nat):(0:Int)<2 ^ k:=Bd.QP k
theorem zh4{a b:Nat}:(2:Int) ^ (a+b)=2 ^ a*2 ^ b:=Int.pow_add 2 a b
theorem IsBk.bounds{bits i h:Int}(b0:0<=bits)(H:IsBk bits i h):0<=i/\i+2 ^ h.toNat<=2 ^ bits.toNat:=by
 obtain⟨h0,h1,k,k0,rfl,k1⟩:=H;have p:=ZW h.toNat;refine⟨Int.mul_nonneg k0 (Int.le_of_lt p),?_⟩;have e:bits.toNat=(bits - h).toNat+h.toNat:=by lia
 rw[e,zh4];have:(k+1)*2 ^ h.toNat<=2 ^ (bits - h).toNat*2 ^ h.toNat:=Int.mul_le_mul_of_nonneg_right (by lia) (Int.le_of_lt p)
 rw[Int.add_mul,Int.one_mul]at this;exact this
theorem zjH{k:Nat}(h:k<=64):(2:Int) ^ k<=18446744073709551616:=by
 have:=Bd.zh3 h;simpa using this
theorem IsBk.lt{bits i h:Int}(b0:0<=bits)(b1:bits<=64)(H:IsBk bits i h):0<=i/\i<18446744073709551616:=by
 obtain⟨a,b⟩:=H.bounds b0;have:=zjH (show bits.toNat<=64 by lia)
 have:=ZW h.toNat;lia
theorem cpow{j:Int}(h0:0<=j)(h1:j<=1000000):CPow 1 j:=⟨h0,h1,by decide⟩
section
variable{t u tb:DTS}{D:DEnds}{ρ ρ0:En}{n i j m:Nat}{d da db dc d1 d2:DTE}{ds di:DTA}{c c' tt:DTT}{g:G2}{g':G2}{gc:GC}{gd:GD}{tg:DTG}{tgs:DTGs}{R:qN}{Rb:Bool->Nat->Prop}{Rl:List PyData->Nat->Prop}{Re:En->Prop}{x y:PyData}{xs ys acc:qD}{f:Int->Int->Int}{fb:PyData->Bool}{k:Bool}{capt:List Nat}{h:Option Cell}
theorem YI:(sSeq t u D ρ n)=(t { D with nx:=u D } ρ n):=propext Iff.rfl
theorem YH:(sRet d D ρ n)=(d ρ n fun t n'=>D.rt t n'):=propext Iff.rfl
theorem YJ:(sSet i d D ρ n)=(d ρ n fun t n'=>D.nx (ρ.set i (some (.val t))) n'):=propext Iff.rfl
theorem u_dC:(dC x ρ n R)=(R x n):=propext Iff.rfl
theorem Yr:(dOp g da db ρ n R)=(da ρ n fun x n1=>db ρ n1 fun y n2=>g x y fun z=>R z n2):=propext Iff.rfl
theorem YM:(dNew ds ρ n R)=(ds ρ n fun ts n'=>R (.list ts) n'):=propext Iff.rfl
theorem YF:(dTup ds ρ n R)=(ds ρ n fun ts n1=>R (.tuple ts) n1):=propext Iff.rfl
theorem YE:(dNil ρ n Rl)=(Rl [] n):=propext Iff.rfl
theorem YW:(US d ds ρ n Rl)=(d ρ n fun t n1=>ds ρ n1 fun ts n2=>Rl (t::ts) n2):=propext Iff.rfl
theorem Yq:(dFn gd ds ρ n R)=(ds ρ n fun ts n1=>gd ts n1 R):=propext Iff.rfl
theorem YX:(Za gc ds ρ n R)=(ds ρ n fun ts n1=>gc ts fun z=>R z n1):=propext Iff.rfl
def cVal:Option Cell->(PyData->Prop)->Prop
 | some (.val d),R=>R d
 | _,_=>False
theorem YB{Q:PyData->Prop}:cVal (some (.val x)) Q=Q x:=propext Iff.rfl
theorem YG:dVar i ρ n R=cVal (ρ.getD i none) fun d=>R d n:=by
 unfold dVar;rw[List.getD_eq_getElem?_getD];cases e:ρ[i]? with
 | none=>exact propext Iff.rfl
 | some o=>cases o with
  | none=>exact propext Iff.rfl
  | some c=>cases c <;> exact propext Iff.rfl
theorem Yo:Ur d ρ n Rb=(d ρ n fun t n'=>bolD t fun b=>Rb b n'):=by
 unfold Ur;congr 1
 funext t n'
 cases t <;> exact propext Iff.rfl
def lCat:PyData->PyData->(List PyData->Prop)->Prop
 | .list xs,.list ys,R=>xs.length+ys.length<=16777216/\R (xs++ys)
 | _,_,_=>False
theorem Ye:dCat da db ρ n Rl=(da ρ n fun x n1=>db ρ n1 fun y n2=>lCat x y fun zs=>Rl zs n2):=by
 unfold dCat;congr 1
 funext x n1
 congr 1
 funext y n2
 cases x <;> cases y <;> exact propext Iff.rfl
def lLst:PyData->(List PyData->Prop)->Prop
 | .list xs,R=>R xs
 | _,_=>False
def lTup:PyData->(List PyData->Prop)->Prop
 | .tuple xs,R=>R xs
 | _,_=>False
theorem Yf:dItL d ρ n Rl=(d ρ n fun t n'=>lLst t fun ts=>Rl ts n'):=by
 unfold dItL;congr 1
 funext t n'
 cases t <;> exact propext Iff.rfl
theorem Yg:dItT d ρ n Rl=(d ρ n fun t n'=>lTup t fun ts=>Rl ts n'):=by
 unfold dItT;congr 1
 funext t n'
 cases t <;> exact propext Iff.rfl
def lInt:PyData->(Int->Prop)->Prop
 | .int i,R=>R i
 | _,_=>False
theorem Yn:Y4 d ρ n Rl=(d ρ n fun t n'=>lInt t fun j=>(-(2 ^ 62)<=j/\j<2 ^ 62)/\Rl (Qk 0 j.toNat) n'):=by
 unfold Y4;congr 1
 funext t n'
 cases t <;> exact propext Iff.rfl
theorem Yc:dNeg d ρ n R=(d ρ n fun t n'=>lInt t fun i=>R (.int (-i)) n'):=by
 unfold dNeg;congr 1
 funext t n'
 cases t <;> exact propext Iff.rfl
theorem UV:sAug i f d D ρ n=cVal (ρ.getD i none) fun v=>lInt v fun q=>d ρ n fun t n'=>lInt t fun k=>D.nx (ρ.set i (some (.val (.int (f q k))))) n':=by
 unfold sAug;rw[List.getD_eq_getElem?_getD];cases e:ρ[i]? with
 | none=>exact propext Iff.rfl
 | some o=>cases o with
  | none=>exact propext Iff.rfl
  | some c=>cases c with
   | own _=>exact propext Iff.rfl
   | dct _=>exact propext Iff.rfl
   | dtt _=>exact propext Iff.rfl
   | rdo _=>exact propext Iff.rfl
   | val v=>cases v with
    | int q =>
     show(d ρ n fun t n'=>_)=(d ρ n fun t n'=>_)
     congr 1
     funext t n'
     cases t <;> exact propext Iff.rfl
    | _=>exact propext Iff.rfl
theorem Yl:Yy g g' da db dc ρ n R=(da ρ n fun x n1=>db ρ n1 fun y n2=>g x y fun z=>bolD z fun b=>if b=true then dc ρ n2 fun w n3=>g' y w fun z=>R z n3 else R (.bool false) n2):=by
 unfold Yy;congr 1
 funext x n1
 congr 1
 funext y n2
 congr 1
 funext z
 cases z with
 | bool b=>cases b <;> simp[bolD]
 | _=>exact propext Iff.rfl
end
section
variable{t u tb:DTS}{D:DEnds}{ρ ρ0:En}{n i j m:Nat}{d da db dc d1 d2:DTE}{ds di:DTA}{c c' tt:DTT}{g:G2}{g':G2}{gc:GC}{gd:GD}{tg:DTG}{tgs:DTGs}{R:qN}{Rb:Bool->Nat->Prop}{Rl:List PyData->Nat->Prop}{Re:En->Prop}{x y:PyData}{xs ys acc:qD}{f:Int->Int->Int}{fb:PyData->Bool}{k:Bool}{capt:List Nat}
theorem zp6(h:t { D with nx:=u D } ρ n):sSeq t u D ρ n:=h
theorem znO(h:D.nx ρ n):Zt D ρ n:=h
theorem zp7(h:d ρ n fun t n'=>D.rt t n'):sRet d D ρ n:=h
theorem zsH(h:c ρ n fun b n1=>if b=true then t D ρ n1 else u D ρ n1):sIf c t u D ρ n:=h
theorem zp9(h:d ρ n fun t n'=>tg t ρ fun ρ'=>D.nx ρ' n'):sAsg d tg D ρ n:=h
theorem zp8(h:di ρ n fun ts n1=>forP tg tb D ts ρ n1):sFor di tg tb D ρ n:=h
theorem i_dC(h:R x n):dC x ρ n R:=h
theorem zsK(h:da ρ n fun x n1=>db ρ n1 fun y n2=>g x y fun z=>R z n2):dOp g da db ρ n R:=h
theorem zql(h:ds ρ n fun ts n'=>R (.list ts) n'):dNew ds ρ n R:=h
theorem zqe(h:ds ρ n fun ts n1=>R (.tuple ts) n1):dTup ds ρ n R:=h
theorem zqk(h:Rl [] n):dNil ρ n Rl:=h
theorem znV(h:d ρ n fun t n1=>ds ρ n1 fun ts n2=>Rl (t::ts) n2):US d ds ρ n Rl:=h
theorem zsL(h:ds ρ n fun ts n1=>gd ts n1 R):dFn gd ds ρ n R:=h
theorem zqp(h:ds ρ n fun ts n1=>gd ts n1 fun t n2=>J6 t=true/\R t n2):dFnL gd ds ρ n R:=h
theorem zl4(h:ds ρ n fun ts n1=>gc ts fun z=>R z n1):Za gc ds ρ n R:=h
theorem zqr(h:c ρ n fun b n1=>if b=true then c' ρ n1 Rb else Rb false n1):dAnd c c' ρ n Rb:=h
theorem zsJ(h:c ρ n fun b n1=>if b=true then Rb true n1 else c' ρ n1 Rb):dOr c c' ρ n Rb:=h
theorem zqj(h:c ρ n fun b n1=>Rb (!b) n1):dNot c ρ n Rb:=h
theorem znX(h:da ρ n fun t n1=>bolD t fun b=>if b=true then db ρ n1 R else R (.bool false) n1):zoc da db ρ n R:=h
theorem zqi(h:da ρ n fun t n1=>bolD t fun b=>if b=true then R (.bool true) n1 else db ρ n1 R):dOrV da db ρ n R:=h
theorem znU(h:da ρ n fun t n1=>bolD t fun b=>R (.bool (!b)) n1):zob da ρ n R:=h
theorem zqf(h:d ρ n fun t n'=>truD t fun b=>Rb b n'):dTru d ρ n Rb:=h
theorem zkf(h:d ρ n fun t n1=>Qg t fun ts=>Rl ts n1):zhR d ρ n Rl:=h
theorem znW(h:di ρ n fun ts n1=>Qs tg tt d (JH m capt ρ) ts [] n1 Rl):dComp m capt di tg tt d ρ n Rl:=h
theorem zqd(h:Rb true n):dYes ρ n Rb:=h
theorem znM(h:tgs xs ρ Re):zmT tgs (.tuple xs) ρ Re:=h
theorem znN(h:Re ρ):zmU [] ρ Re:=h
theorem zl1(h:tg x ρ fun ρ'=>tgs xs ρ' Re):zjh tg tgs (x::xs) ρ Re:=h
theorem znQ(h:d ρ n fun t n'=>bolD t fun b=>Rb b n'):Ur d ρ n Rb:=Yo.symm▸h
theorem zqq(h:da ρ n fun x n1=>db ρ n1 fun y n2=>lCat x y fun zs=>Rl zs n2):dCat da db ρ n Rl:=Ye.symm▸h
theorem zqo(h:d ρ n fun t n'=>lLst t fun ts=>Rl ts n'):dItL d ρ n Rl:=Yf.symm▸h
theorem zqn(h:d ρ n fun t n'=>lTup t fun ts=>Rl ts n'):dItT d ρ n Rl:=Yg.symm▸h
theorem znS(h:d ρ n fun t n'=>lInt t fun j=>(-(2 ^ 62)<=j/\j<2 ^ 62)/\Rl (Qk 0 j.toNat) n'):Y4 d ρ n Rl:=Yn.symm▸h
theorem zqm(h:d ρ n fun t n'=>lInt t fun i=>R (.int (-i)) n'):dNeg d ρ n R:=Yc.symm▸h
theorem zl3(h:da ρ n fun x n1=>db ρ n1 fun y n2=>g x y fun z=>bolD z fun b=>if b=true then dc ρ n2 fun w n3=>g' y w fun z=>R z n3 else R (.bool false) n2):Yy g g' da db dc ρ n R:=Yl.symm▸h
def lIsi(fb:PyData->Bool)(t:PyData)(R:PyData->Prop):Prop:=Pln t/\R (.bool (fb t))
theorem zqb(h:d ρ n fun t n1=>lIsi fb t fun z=>R z n1):isiD fb d ρ n R:=h
theorem zmC(e:ρ[i]?=some (some (.val x)))(h:R x n):dVar i ρ n R:=by unfold dVar;rw[e];exact h
theorem zmD(e:ρ[i]?=some (some (.own xs)))(h:R (.list xs) n):dOwn i ρ n R:=by unfold dOwn;rw[e];exact h
theorem zif(e:ρ[i]?=some (some (.own xs)))(h:d ρ n fun t n'=>xs.length<16777216/\D.nx (ρ.set i (some (.own (xs++[t])))) n'):YT i d D ρ n:=by unfold YT;rw[e];exact h
theorem zie(e:ρ[i]?=some (some (.own xs)))(h:t D (ρ.set i (some (.val (.list xs)))) n):Zi i t D ρ n:=by unfold Zi;rw[e];exact h
theorem zsM{q:Int}(e:ρ[i]?=some (some (.val (.int q))))(h:d ρ n fun t n'=>lInt t fun k=>D.nx (ρ.set i (some (.val (.int (f q k))))) n'):sAug i f d D ρ n:=by
 rw[UV,List.getD_eq_getElem?_getD,e];exact h
theorem zsI{b:Bool}{A B:Prop}(h1:b=true->A)(h2:b=false->B):if b=true then A else B:=by cases b with|true=>exact iteT (h1 rfl)|false=>exact iteF (h2 rfl)
theorem zqa{p:Prop}[Decidable p]{A B:Prop}(h1:p->A)(h2:¬p->B):if decide p=true then A else B:=by
 by_cases h:p
 ·rw[decide_eq_true h];exact iteT (h1 h)
 ·rw[decide_eq_false h];exact iteF (h2 h)
theorem zp_{b:Bool}{A B:Prop}(h:if b=true then B else A):if (!b)=true then A else B:=by
 cases b with|true=>exact iteF h|false=>exact iteT h
end
section
variable{C:Int->Int->Prop}{f:Int->Int->Int}{fb:Int->Int->Bool}{i j k:Int}{R:PyData->Prop}{Rb:Bool->Prop}{xs ys:qD}{s t:Str}{a b:Bool}{u v x y:PyData}{Rn:qN}{n:Nat}
theorem zpW(h:R (.int (i+j))):oAdd (.int i) (.int j) R:=UW.symm▸h
theorem zpV(h:(s.length+t.length<=16777216/\R (.str (s++t)))):oAdd (.str s) (.str t) R:=UX.symm▸h
theorem zpU(h:(xs.length+ys.length<=16777216/\R (.tuple (xs++ys)))):oAdd (.tuple xs) (.tuple ys) R:=UY.symm▸h
theorem zsE(h:R (.bool (decide (i=j)))):oEq (.int i) (.int j) R:=UE.symm▸h
theorem zsC(h:(Okd (.tuple xs)/\Okd (.tuple ys)/\R (.bool (PyData.eqv (.tuple xs) (.tuple ys))))):oEq (.tuple xs) (.tuple ys) R:=UG.symm▸h
theorem zsD(h:(Okd (.list xs)/\Okd (.list ys)/\R (.bool (PyData.eqv (.list xs) (.list ys))))):oEq (.list xs) (.list ys) R:=UF.symm▸h
theorem zsq(h:R (.bool (!decide (i=j)))):oNe (.int i) (.int j) R:=UN.symm▸h
theorem zsr(h:R (.bool (!decide (a=b)))):oNe (.bool a) (.bool b) R:=UM.symm▸h
theorem zso(h:R (.bool (!decide (s=t)))):oNe (.str s) (.str t) R:=UP.symm▸h
theorem zsn(h:(Okd (.tuple xs)/\Okd (.tuple ys)/\R (.bool (!PyData.eqv (.tuple xs) (.tuple ys))))):oNe (.tuple xs) (.tuple ys) R:=UQ.symm▸h
theorem zsp(h:(Okd (.list xs)/\Okd (.list ys)/\R (.bool (!PyData.eqv (.list xs) (.list ys))))):oNe (.list xs) (.list ys) R:=UO.symm▸h
theorem znK(h:R (.bool (a != b))):oIsN (.bool a) (.bool b) R:=Ym.symm▸h
theorem zsw(h:R (.bool (decide (i<j)))):oLtA (.int i) (.int j) R:=UJ.symm▸h
theorem zsz(h:R (.bool (decide (i<=j)))):oLeA (.int i) (.int j) R:=UH.symm▸h
theorem zsy(h:R (.bool (!decide (t.cps.toList<s.cps.toList)))):oLeA (.str s) (.str t) R:=UI.symm▸h
theorem zpO(h:R u):oIx (.tuple (u::xs)) (.int 0) R:=U0.symm▸h
theorem zpN(h:R v):oIx (.tuple (u::v::xs)) (.int 1) R:=U1.symm▸h
theorem zpM{w:PyData}(h:R w):oIx (.tuple (u::v::w::xs)) (.int 2) R:=U2.symm▸h
theorem zmA(h:R u):oIx (.list (u::xs)) (.int 0) R:=UZ.symm▸h
theorem zpH(h:Rb a):truD (.bool a) Rb:=U5.symm▸h
theorem zpG(h:Rb (!xs.isEmpty)):truD (.list xs) Rb:=U6.symm▸h
theorem zsG(h:Rb a):bolD (.bool a) Rb:=UU.symm▸h
theorem zpJ(h:R (.int xs.length)):bLen [.tuple xs] R:=U4.symm▸h
theorem zpK(h:(s.length<=16777216/\R (.int s.length))):bLen [.str s] R:=U3.symm▸h
theorem zlY{ns:List Int}(h:R (.int ns.length)):bLen [SCR ns] R:=Yj.symm▸h
theorem zsu(h:R (.int (if j<i then j else i))):bMin [.int i,.int j] R:=UL.symm▸h
theorem zsv(h:R (.int (if j > i then j else i))):bMax [.int i,.int j] R:=UK.symm▸h
theorem zlX(h:R (.tuple xs)):Zd [.list xs] R:=Yk.symm▸h
theorem zlZ{Rl:List PyData->Prop}(h:Rl xs):Qg (.tuple xs) Rl:=Yi.symm▸h
theorem zsF{Q:List PyData->Prop}(h:(xs.length+ys.length<=16777216/\Q (xs++ys))):lCat (.list xs) (.list ys) Q:=h
theorem zsx{Q:List PyData->Prop}(h:Q xs):lLst (.list xs) Q:=h
theorem zsj{Q:List PyData->Prop}(h:Q xs):lTup (.tuple xs) Q:=h
theorem zsB{i:Int}{Q:Int->Prop}(h:Q i):lInt (.int i) Q:=h
theorem zss(c:CMul i j)(h:R (.int (i*j))):oMul (.int i) (.int j) R:=⟨c,h⟩
theorem zst(c:0<j)(h:R (.int (i % j))):oMod (.int i) (.int j) R:=⟨c,h⟩
theorem zpT(c:Y2 i j)(h:R (.int (i / j))):Ua (.int i) (.int j) R:=⟨c,h⟩
theorem zsm(c:CPow i j)(h:R (.int (i*2 ^ j.toNat))):oShl (.int i) (.int j) R:=⟨c,h⟩
theorem zsk(h:R (.int (i - j))):oSub (.int i) (.int j) R:=h
theorem zsi(h:R (.int (Builtin.bitXor i j))):oXor (.int i) (.int j) R:=h
theorem j_gB(h:R (.bool (fb i j))):gB fb (.int i) (.int j) R:=h
theorem zhJ(h:R (.bool true)):lIsi isInt (.int i) R:=⟨QN,h⟩
theorem zgE(h:R (.bool true)):lIsi isInt (.bool a) R:=⟨QM,h⟩
theorem zhI(h:R (.bool false)):lIsi isInt (.str s) R:=⟨Q5,h⟩
theorem zfL(h:R (.bool false)):lIsi isInt (.tuple xs) R:=⟨Q4,h⟩
theorem zgC(h:R (.bool false)):lIsi isInt (.list xs) R:=⟨Q1,h⟩
theorem zgB(h:R (.bool false)):lIsi isInt (.none) R:=⟨Q3,h⟩
theorem zgD(h:R (.bool false)):lIsi isInt (.dict []) R:=⟨Q0,h⟩
theorem zgF(h:R (.bool false)):lIsi isBool (.int i) R:=⟨QN,h⟩
theorem zfM(h:R (.bool true)):lIsi isBool (.bool a) R:=⟨QM,h⟩
theorem zhF(h:R (.bool false)):lIsi isTup (.int i) R:=⟨QN,h⟩
theorem zgw(h:R (.bool false)):lIsi isTup (.bool a) R:=⟨QM,h⟩
theorem zhE(h:R (.bool false)):lIsi isTup (.str s) R:=⟨Q5,h⟩
theorem zfJ(h:R (.bool true)):lIsi isTup (.tuple xs) R:=⟨Q4,h⟩
theorem zgu(h:R (.bool false)):lIsi isTup (.list xs) R:=⟨Q1,h⟩
theorem zgt(h:R (.bool false)):lIsi isTup (.none) R:=⟨Q3,h⟩
theorem zgv(h:R (.bool false)):lIsi isTup (.dict []) R:=⟨Q0,h⟩
theorem zhH(h:R (.bool false)):lIsi isStr (.int i) R:=⟨QN,h⟩
theorem zgA(h:R (.bool false)):lIsi isStr (.bool a) R:=⟨QM,h⟩
theorem zhG(h:R (.bool true)):lIsi isStr (.str s) R:=⟨Q5,h⟩
theorem zfK(h:R (.bool false)):lIsi isStr (.tuple xs) R:=⟨Q4,h⟩
theorem zgy(h:R (.bool false)):lIsi isStr (.list xs) R:=⟨Q1,h⟩
theorem zgx(h:R (.bool false)):lIsi isStr (.none) R:=⟨Q3,h⟩
theorem zgz(h:R (.bool false)):lIsi isStr (.dict []) R:=⟨Q0,h⟩
end
theorem zna{h:Int}(h0:0<h):(2:Int) ^ h.toNat=2*2 ^ (h - 1).toNat:=by
 have e:h.toNat=(h - 1).toNat+1:=by lia
 rw[e,Int.pow_succ,Int.mul_comm]
theorem zo4{h:Int}(h0:0<=h):(2:Int) ^ (h+1).toNat=2*2 ^ h.toNat:=by
 have:=zna (h:=h+1) (by lia)
 rw[this];simp
theorem IsBk.low{bits i h:Int}(B:IsBk bits i h)(hh:0<h):IsBk bits i (h - 1):=by
 obtain⟨h0,h1,k,k0,rfl,k1⟩:=B;refine⟨by lia,by lia,2*k,by lia,?_,?_⟩
 ·rw[zna hh,<- Int.mul_assoc,Int.mul_comm k 2]
 ·have e:(bits - (h - 1)).toNat=(bits - h).toNat+1:=by lia
  rw[e,Int.pow_succ];lia
theorem IsBk.up{bits i h:Int}(B:IsBk bits i h)(hh:0<h):IsBk bits (i+2 ^ h.toNat / 2) (h - 1):=by
 obtain⟨h0,h1,k,k0,rfl,k1⟩:=B;refine⟨by lia,by lia,2*k+1,by lia,?_,?_⟩
 ·rw[zna hh];have:2*(2:Int) ^ (h - 1).toNat / 2=2 ^ (h - 1).toNat:=by lia
  rw[this,Int.add_mul,Int.one_mul,<- Int.mul_assoc,Int.mul_comm k 2]
 ·have e:(bits - (h - 1)).toNat=(bits - h).toNat+1:=by lia
  rw[e,Int.pow_succ];lia
theorem zlO{k:Int}(P:Int)(hP:0<P):k*P % (2*P)=(k % 2)*P:=by
 rw[Int.mul_comm 2 P,Int.mul_comm k P,Int.mul_emod_mul_of_pos _ _ hP,Int.mul_comm]
theorem IsBk.abt{bits i h:Int}(B:IsBk bits i h)(hh:h<bits):IsBk bits (i - i % (2*2 ^ h.toNat)) (h+1):=by
 obtain⟨h0,h1,k,k0,rfl,k1⟩:=B;refine⟨by lia,by lia,k / 2,by lia,?_,?_⟩
 ·rw[zlO _ (ZW _),zo4 h0,<- Int.sub_mul];have:k - k % 2=k / 2*2:=by lia
  rw[this,Int.mul_assoc]
 ·have e:(bits - h).toNat=(bits - (h+1)).toNat+1:=by lia
  rw[e,Int.pow_succ]at k1;lia
theorem IsBk.oth{bits i h:Int}(B:IsBk bits i h)(hh:h<bits):IsBk bits (Builtin.bitXor i (2 ^ h.toNat)) h:=by
 obtain⟨h0,h1,k,k0,rfl,k1⟩:=B;rw[zk_ _ k0];have e:(bits - h).toNat=(bits - (h+1)).toNat+1:=by lia
 split
 ·refine⟨h0,h1,k+1,by lia,by rw[Int.add_mul,Int.one_mul],?_⟩
  rw[e,Int.pow_succ]at k1 ⊢;lia
 ·refine⟨h0,h1,k - 1,by lia,by rw[Int.sub_mul,Int.one_mul],by lia⟩
theorem IsBk.nxt{bits i h:Int}(B:IsBk bits i h)(hh:i+2*2 ^ h.toNat<=2 ^ bits.toNat):IsBk bits (i+2 ^ h.toNat) h:=by
 obtain⟨h0,h1,k,k0,rfl,k1⟩:=B;refine⟨h0,h1,k+1,by lia,by rw[Int.add_mul,Int.one_mul],?_⟩
 have e:bits.toNat=(bits - h).toNat+h.toNat:=by lia
 rw[e,zh4]at hh;have p:=ZW h.toNat;have:(k+2)*2 ^ h.toNat<=2 ^ (bits - h).toNat*2 ^ h.toNat:=by rw[Int.add_mul];exact hh
 have:=Int.le_of_mul_le_mul_right this p;lia
theorem zsU{j:Int}:CMul 2 j:=.inl ⟨by decide,by decide⟩
theorem zsV{j:Int}:Y2 j 2:=⟨by decide,by decide⟩
theorem Uj(h:Nat):(1:Int)*2 ^ h=2 ^ h:=Int.one_mul _
def BlkN(bits i:Int)(h:Nat):Prop:=(h:Int)<=bits/\∃k:Int,0<=k/\i=k*2 ^ h/\k<2 ^ (bits.toNat - h)
theorem IsBk.n{bits i h:Int}(B:IsBk bits i h):BlkN bits i h.toNat:=by
 obtain⟨h0,h1,k,k0,e,k1⟩:=B;refine⟨by lia,k,k0,e,?_⟩
 have:(bits - h).toNat=bits.toNat - h.toNat:=by lia
 rw[<- this];exact k1
theorem zkR{bits j:Int}{g h:Nat}(b:BlkN bits j g)(l:g<=h):j / 2 ^ h*2 ^ h<=j/\j+2 ^ g<=(j / 2 ^ h+1)*2 ^ h:=by
 obtain⟨_,m,m0,rfl,_⟩:=b;have pA:=Bd.QP h;have pB:=Bd.QP g;have pC:=Bd.QP (h - g);have eA:(2:Int) ^ h=2 ^ (h - g)*2 ^ g:=by rw[<- Int.pow_add];congr 1;lia
 refine⟨Int.ediv_mul_le _ (by lia),?_⟩
 have eq:(m*2 ^ g) / 2 ^ h=m / 2 ^ (h - g):=by rw[eA];exact Int.mul_ediv_mul_of_pos_left m _ pB
 rw[eq,eA,<- Int.mul_assoc];have e1:m*2 ^ g+2 ^ g=(m+1)*2 ^ g:=by rw[Int.add_mul,Int.one_mul]
 rw[e1];refine Int.mul_le_mul_of_nonneg_right ?_ (by lia)
 have:=Int.lt_ediv_add_one_mul_self m pC;lia
theorem zia{a b A:Int}(p:0<A)(l:a<b):(a+1)*A<=b*A:=Int.mul_le_mul_of_nonneg_right (by lia) (by lia)
theorem zkg{bits i j:Int}{h g:Nat}(bi:BlkN bits i h)(bj:BlkN bits j g):(g<=h/\j / 2 ^ h*2 ^ h=i)↔(i<=j/\j+2 ^ g<=i+2 ^ h):=by
 have pA:=Bd.QP h;have pB:=Bd.QP g;constructor
 ·rintro⟨l,e⟩;have t:=zkR bj l;rw[e,Int.add_mul,Int.one_mul,e]at t;exact t
 ·rintro⟨l1,l2⟩;have l:g<=h:=by
   by_cases z:g<=h
   ·exact z
   ·exfalso;have:(2:Int) ^ h<2 ^ g:=by
     have e:(2:Int) ^ g=2 ^ (g - h)*2 ^ h:=by rw[<- Int.pow_add];congr 1;lia
     have p2:(2:Int)<=2 ^ (g - h):=by
      obtain⟨d,hd⟩:∃d,g - h=d+1:=⟨g - h - 1,by lia⟩
      rw[hd,Int.pow_succ];have:=Bd.QP d;lia
     rw[e];have:=Int.mul_le_mul_of_nonneg_right p2 (show(0:Int)<=2 ^ h by lia)
     lia
    lia
  refine⟨l,?_⟩;obtain⟨_,k,k0,rfl,_⟩:=bi;have e:j / 2 ^ h=k:=by
   have a1:k<=j / 2 ^ h:=(Int.le_ediv_iff_mul_le pA).mpr l1;have a2:j / 2 ^ h<k+1:=(Int.ediv_lt_iff_lt_mul pA).mpr (by rw[Int.add_mul,Int.one_mul];lia)
   lia
  rw[e]
theorem zg4{bits i j:Int}{h g:Nat}(bi:BlkN bits i h)(bj:BlkN bits j g)(l:g<=h):(g<=h/\j / 2 ^ h*2 ^ h=i)\/j+2 ^ g<=i\/i+2 ^ h<=j:=by
 have pA:=Bd.QP h;have t:=zkR bj l;obtain⟨_,k,k0,rfl,_⟩:=bi;rcases Int.lt_trichotomy (j / 2 ^ h) k with z|z|z
 ·have:=zia pA z;exact .inr (.inl (by lia))
 ·exact .inl ⟨l,by rw[z]⟩
 ·have:=zia pA z;rw[Int.add_mul,Int.one_mul]at this;exact .inr (.inr (by lia))
theorem zkS{bits i j:Int}{h g:Nat}(bi:BlkN bits i h)(bj:BlkN bits j g):(¬(g<=h/\j / 2 ^ h*2 ^ h=i)/\¬(h<=g/\i / 2 ^ g*2 ^ g=j))↔(j+2 ^ g<=i\/i+2 ^ h<=j):=by
 have pA:=Bd.QP h;have pB:=Bd.QP g;have a:=zkg bi bj;have b:=zkg bj bi;constructor
 ·rintro⟨n1,n2⟩;rcases Nat.le_total g h with l|l
  ·rcases zg4 bi bj l with z|z
   ·exact absurd z n1
   ·exact z
  ·rcases zg4 bj bi l with z|z|z
   ·exact absurd z n2
   ·exact .inr z
   ·exact .inl z
 ·intro z;refine⟨fun y=>?_,fun y=>?_⟩
  ·have:=a.mp y;lia
  ·have:=b.mp y;lia
def hldD(i h j g:Int):Bool:=decide (g<=h)&&decide (j / 2 ^ h.toNat*2 ^ h.toNat=i)
theorem zqO{bits i h j g:Int}(A:IsBk bits i h)(B:IsBk bits j g):(!hldD i h j g&&!hldD j g i h)=decide (j+2 ^ g.toNat<=i\/i+2 ^ h.toNat<=j):=by
 have a:=zkS A.n B.n;have h0:=A.1;have g0:=B.1;have e1:hldD i h j g=decide (g.toNat<=h.toNat/\j / 2 ^ h.toNat*2 ^ h.toNat=i):=by
  unfold hldD;rw[<- Bool.decide_and];exact decide_eq_decide.mpr ⟨fun z=>⟨by lia,z.2⟩,fun z=>⟨by lia,z.2⟩⟩
 have e2:hldD j g i h=decide (h.toNat<=g.toNat/\i / 2 ^ g.toNat*2 ^ g.toNat=j):=by
  unfold hldD;rw[<- Bool.decide_and];exact decide_eq_decide.mpr ⟨fun z=>⟨by lia,z.2⟩,fun z=>⟨by lia,z.2⟩⟩
 rw[e1,e2,<- decide_not,<- decide_not,<- Bool.decide_and];exact decide_eq_decide.mpr a
theorem zkl{g:DTG}{tb:DTS}{D:DEnds}(Inv:Nat->En->Nat->Prop):∀(ts:qD) (i:Nat) {ρ:En}{n:Nat},Inv i ρ n ->
  (∀(k:Nat) (t:PyData) (ρ:En) (n:Nat) (K:En->Nat->Prop),ts[k]?=some t->Inv (i+k) ρ n->(∀ρ' n',Inv (i+k+1) ρ' n'->K ρ' n')->g t ρ fun ρ'=>tb { D with nx:=K,ct:=K,bk:=D.nx } ρ' n) ->
  (∀ρ n,Inv (i+ts.length) ρ n->D.nx ρ n)->forP g tb D ts ρ n
 | [],i,ρ,n,h0,_,fin=>fin ρ n (by simpa using h0)
 | t::ts,i,ρ,n,h0,turn,fin=>by
  refine turn 0 t ρ n _ rfl (by simpa using h0) fun ρ' n' h'=>?_
  refine zkl Inv ts (i+1) (by simpa using h') (fun k u ρ n K e hI hK=>?_) (fun ρ n h=>fin ρ n ?_)
  ·refine turn (k+1) u ρ n K (by simpa using e) ?_ fun ρ' n' h'=>hK ρ' n' ?_
   ·have:i+(k+1)=i+1+k:=by lia
    rw[this];exact hI
   ·have:i+1+k+1=i+(k+1)+1:=by lia
    rw[this];exact h'
  ·have:i+(t::ts).length=i+1+ts.length:=by simp;lia
   rw[this]at *;exact h
theorem Ui{g:DTG}{tb:DTS}{D:DEnds}{ts:qD}{ρ:En}{n:Nat}(Inv:Nat->En->Nat->Prop)(h0:Inv 0 ρ n)
  (turn:∀(k:Nat) (t:PyData) (ρ:En) (n:Nat) (K:En->Nat->Prop),ts[k]?=some t->Inv k ρ n->(∀ρ' n',Inv (k+1) ρ' n'->K ρ' n')->g t ρ fun ρ'=>tb { D with nx:=K,ct:=K,bk:=D.nx } ρ' n)
  (fin:∀ρ n,Inv ts.length ρ n->D.nx ρ n):forP g tb D ts ρ n:=by
 refine zkl Inv ts 0 h0 (fun k t ρ n K e hI hK=>turn k t ρ n K e (by simpa using hI) fun ρ' n' h'=>hK ρ' n' (by simpa using h')) fun ρ n h=>fin ρ n (by simpa using h)
theorem ze5{lo:Int}{m i:Nat}{t:PyData}(h:(Qk lo m)[i]?=some t):i<m/\t=.int (lo+(i:Int)):=by
 unfold Qk at h;rw[List.getElem?_map]at h
 by_cases hi:i<m
 ·rw[List.getElem?_range hi]at h;cases h;exact⟨hi,rfl⟩
 ·rw[List.getElem?_eq_none (by simp;lia)]at h
  cases h
theorem ze4{lo:Int}{m:Nat}:(Qk lo m).length=m:=by simp[Qk]
theorem zje{c:DTT}{tb:DTS}{D:DEnds}{ρ:En}{n:Nat}(Inv:Nat->En->Nat->Prop){m:Nat}(h0:Inv m ρ n)
  (turn:∀m ρ n,Inv m ρ n->c ρ n fun b n1=>if b=true then tb { D with nx:=fun ρ' n'=>∃m',m'<m/\Inv m' ρ' n',ct:=fun ρ' n'=>∃m',m'<m/\Inv m' ρ' n',bk:=D.nx } ρ n1 else D.nx ρ n1):zjx c tb D ρ n :=
 ⟨Inv,⟨m,h0⟩,turn⟩
theorem znP{i j:Nat}{u:DTS}{D:DEnds}{ρ ρd:En}{n:Nat}{ns:List Int}{k:Int}(e0:ρ[0]?=some (some (.val (SCR ns))))(ej:ρ[j]?=some (some (.val (.int k))))(hl:ns.length<=63)(k0:0<=k)(k1:k<=100)(ed:JP ρ=ρd)
  (h:u { nx:=fun ρ' _=>D.nx (JP ρ') n,rt:=fun t _=>∃b,t=.bool b/\D.rt t n,bk:=fun ρ' _=>D.bk (JP ρ') n,ct:=fun ρ' _=>D.ct (JP ρ') n } ((ρd.set j (some (.val (.int k)))).set i (some (.val HAND))) 0):Yv i j u D ρ n:=by
 subst ed;unfold Yv;rw[e0,ej];exact⟨⟨ns,rfl,hl⟩,k0,k1,h⟩
def rkAt(rk:Value->Int)(xs:Array Keyed)(i:Nat):Int:=((xs[i]?).map fun p=>rk p.1).getD 0
theorem Zh{rk:Value->Int}{xs ys:Array Keyed}{i j:Nat}(h:xs[i]?=ys[j]?):rkAt rk xs i=rkAt rk ys j:=by unfold rkAt;rw[h]
theorem zms{rk:Value->Int}{xs:Array Keyed}{u d:Nat}(hu:u<xs.size)(hd:d<=u)(k:Nat) :
  (k=u - d->rkAt rk (bubble xs u d) k=rkAt rk xs u)/\(u - d<k->k<=u->rkAt rk (bubble xs u d) k=rkAt rk xs (k - 1))/\(k<u - d\/u<k->rkAt rk (bubble xs u d) k=rkAt rk xs k):=by
 have e:=getElem?_bubble hu d hd k;refine⟨fun h=>?_,fun h1 h2=>?_,fun h=>?_⟩
 ·rw[if_pos h]at e;exact Zh e
 ·rw[if_neg (by lia),if_pos ⟨h1,h2⟩]at e;exact Zh e
 ·rw[if_neg (by lia),if_neg (by lia)]at e;exact Zh e
theorem zjy{rk:Value->Int}{xs:Array Keyed}{i j:Nat}(hj:j<=xs.size)(k:Nat) :
  (i<=k->k<j->rkAt rk (mirror xs i j ((j - i) / 2)) k=rkAt rk xs (i+j - 1 - k))/\(k<i\/j<=k->rkAt rk (mirror xs i j ((j - i) / 2)) k=rkAt rk xs k):=by
 have e:=getElem?_mirror_all (i:=i) hj k;refine⟨fun h1 h2=>?_,fun h=>?_⟩
 ·rw[if_pos ⟨h1,h2⟩]at e;exact Zh e
 ·rw[if_neg (by lia)]at e;exact Zh e
structure Sb(kd:SortKind)(a0:Array Keyed)(z:SortSt):Prop where
 pm:(arrOf z).Perm a0
 kn:kindOf z=kd
 fl:failedOf z=none
 pe:pendingOf z=#[]
def Up(rk:Value->Int)(xs:Array Keyed)(m:Nat):Prop:=∀i j,i<j->j<m->rkAt rk xs i<=rkAt rk xs j
def Dn(rk:Value->Int)(xs:Array Keyed)(m:Nat):Prop:=∀i j,i<j->j<m->rkAt rk xs j<=rkAt rk xs i
section
variable{prog:Program}{w:World}{A:Around}{E:qV}{s:Shared}{kd:SortKind}{rk:Value->Int}{a0:Array Keyed}
def Cmp(prog:Program)(w:World)(A:Around)(s:Shared)(kd:SortKind)(rk:Value->Int)(a0:Array Keyed):Prop :=
 ∀(p q:Keyed) (E:qV) (Q:Bool->Shared->Prop),p∈a0.toList->q∈a0.toList->Q (decide (rk p.1<rk q.1)) s->wpAny (model prog w) A (keyLt' kd p.1 q.1) Q E s
theorem Sb.sz{z:SortSt}(b:Sb kd a0 z):(arrOf z).size=a0.size:=b.pm.size_eq
theorem Sb.arr{z:SortSt}(b:Sb kd a0 z){xs:Array Keyed}(h:xs.Perm (arrOf z)):Sb kd a0 (setArr z xs):=⟨h.trans b.pm,b.kn,b.fl,b.pe⟩
theorem ask{z:SortSt}{i j:Nat}{Q:Option Bool->SortSt->Prop}(c:Cmp prog w A s kd rk a0)(b:Sb kd a0 z)(hi:i<a0.size)(hj:j<a0.size)
  (h:Q (some (decide (rkAt rk (arrOf z) i<rkAt rk (arrOf z) j))) z):wpS (model prog w) A E s (ltAt' i j) Q z:=by
 have mem:∀k,k<a0.size->∃p,(arrOf z)[k]?=some p/\p∈a0.toList:=fun k hk=>by
  have hk':k<(arrOf z).size:=by rw[b.sz];exact hk
  exact⟨(arrOf z)[k],Array.getElem?_eq_getElem hk',(Array.perm_iff_toList_perm.mp b.pm).mem_iff.mp (by simp)⟩
 obtain⟨p,ep,mp⟩:=mem i hi;obtain⟨q,eq,mq⟩:=mem j hj;have r1:rkAt rk (arrOf z) i=rk p.1:=by unfold rkAt;rw[ep];rfl
 have r2:rkAt rk (arrOf z) j=rk q.1:=by unfold rkAt;rw[eq];rfl
 rw[r1,r2]at h;rw[ltAt'_eq];refine wpS_bind (wpS_get ?_);show wpS (model prog w) A E s (elem' (arrOf z) i >>= fun x=>elem' (arrOf z) j >>= fun y=>lt' x y) Q z
 simp only[elem'_eq,ep,eq,pure_bind];rw[lt'_eq];refine wpS_bind (wpS_get (wpS_bind (wpS_lift (wpAny_attempt ?_))));rw[b.kn];exact c p q _ _ mp mq ⟨rfl,wpS_pure h⟩
theorem zqN{z:SortSt}{n ok:Nat}{Q:Bool->SortSt->Prop}(c:Cmp prog w A s kd rk a0)(hn:n<=a0.size)(hok:ok<=n)(b:Sb kd a0 z)(up:Up rk (arrOf z) ok)
  (h:∀y,Sb kd a0 y->Up rk (arrOf y) n->Q true y):wpS (model prog w) A E s (binarySort' 0 n ok) Q z:=by
 rw[binarySort'_eq];simp only[Nat.zero_add];refine wpS_bind (wpS_mono (wpS_forRange (Q:=fun c y=>c=(none,())/\Sb kd a0 y/\Up rk (arrOf y) n) (I:=fun k c y=>c=(none,())/\Sb kd a0 y/\Up rk (arrOf y) (min k n)) ?turn ?last ⟨rfl,b,fun i j h1 h2=>up i j h1 (by lia)⟩) ?post)
 case post =>
  rintro _ y ⟨rfl,by',u⟩
  exact wpS_pure (h y by' u)
 case last =>
  rintro _ y ⟨rfl,by',u⟩
  exact⟨rfl,by',by rwa [show min (max (max ok 1) n) n=n by lia]at u⟩
 case turn =>
  rintro k _ y k1 k2 ⟨rfl,by',u⟩
  rw[show min k n=k by lia]at u
  refine wpS_bind (wpS_mono (wpS_forRange (Q:=fun c y'=>y'=y/\∃l r,c=(none,l,r)/\l<=k/\(∀i,i<l->rkAt rk (arrOf y) i<=rkAt rk (arrOf y) k)/\∀i,l<=i->i<k->rkAt rk (arrOf y) k<rkAt rk (arrOf y) i)
   (I:=fun x c y'=>y'=y/\∃l r,c=(none,l,r)/\l<=r/\r<=k/\r - l+x<=k/\(∀i,i<l->rkAt rk (arrOf y) i<=rkAt rk (arrOf y) k)/\∀i,r<=i->i<k->rkAt rk (arrOf y) k<rkAt rk (arrOf y) i) ?t2 ?l2 ⟨rfl,0,k,rfl,by lia,by lia,by lia,fun i hi=>by lia,fun i i1 i2=>by lia⟩) ?p2)
  case l2 =>
   rintro _ v ⟨e,l,r,rfl,q1,q2,q3,q4,q5⟩;subst e;exact⟨rfl,l,r,rfl,by lia,q4,fun i i1 i2=>q5 i (by lia) i2⟩
  case t2 =>
   rintro x _ v _ _ ⟨e,l,r,rfl,q1,q2,q3,q4,q5⟩;subst e
   by_cases ge:r<=l
   ·simp only[ge_iff_le,ge,if_true];exact wpS_pure ⟨rfl,l,r,rfl,by lia,q4,fun i i1 i2=>q5 i (by lia) i2⟩
   ·simp only[ge_iff_le,ge,if_false];refine wpS_bind (ask c by' (by lia) (by lia) ?_)
    by_cases le:rkAt rk (arrOf v) k<rkAt rk (arrOf v) ((l+r) / 2)
    ·simp only[le,decide_true,if_true];refine wpS_pure ⟨rfl,l,(l+r) / 2,rfl,by lia,by lia,by lia,q4,fun i i1 i2=>?_⟩
     rcases Nat.lt_or_ge ((l+r) / 2) i with g|g
     ·have:=u _ _ g i2;lia
     ·have:i=(l+r) / 2:=by lia
      rw[this];exact le
    ·simp only[le,decide_false,Bool.false_eq_true,if_false];refine wpS_pure ⟨rfl,(l+r) / 2+1,r,rfl,by lia,by lia,by lia,fun i i1=>?_,q5⟩
     rcases Nat.lt_or_ge i ((l+r) / 2) with g|g
     ·have:=u _ _ g (by lia);lia
     ·have:i=(l+r) / 2:=by lia
      rw[this];lia
  case p2 =>
   rintro _ v ⟨e,l,r,rfl,q2,q4,q5⟩;subst e;show wpS (model prog w) A E s (moveDown' k l >>= fun _=>pure (ForInStep.yield (none,()))) _ v
   rw[moveDown'_eq];have hk:k<(arrOf v).size:=by rw[by'.sz];lia
   refine wpS_bind (wpS_modify (wpS_pure ⟨rfl,by'.arr (bubble_perm _ _ _),fun i j h1 h2=>?_⟩))
   show rkAt rk (bubble (arrOf v) k (k - l)) i<=rkAt rk (bubble (arrOf v) k (k - l)) j
   have hj:j<=k:=by lia
   obtain⟨a1,a2,a3⟩:=zms (rk:=rk) hk (show k - l<=k by lia) i
   obtain⟨b1,b2,b3⟩:=zms (rk:=rk) hk (show k - l<=k by lia) j
   have el:k - (k - l)=l:=by lia
   rw[el]at a1 a2 a3 b1 b2 b3;rcases Nat.lt_trichotomy j l with jl|jl|jl
   ·rw[a3 (by lia),b3 (by lia)];exact u i j h1 (by lia)
   ·rw[a3 (by lia),b1 jl];exact q4 i (by lia)
   ·rw[b2 jl hj];rcases Nat.lt_trichotomy i l with il|il|il
    ·rw[a3 (by lia)]
     rcases Nat.lt_or_ge i (j - 1) with g|g
     ·exact u i (j - 1) g (by lia)
     ·exact absurd g (by lia)
    ·rw[a1 il];exact Int.le_of_lt (q5 (j - 1) (by lia) (by lia))
    ·rw[a2 il (by lia)]
     rcases Nat.lt_or_ge (i - 1) (j - 1) with g|g
     ·exact u _ _ g (by lia)
     ·exact absurd g (by lia)
end
section
variable{prog:Program}{w:World}{A:Around}{E:qV}{s:Shared}{kd:SortKind}{rk:Value->Int}{a0:Array Keyed}
theorem zmQ{z:SortSt}{a m:Nat}{Q:AscSt->SortSt->Prop}(c:Cmp prog w A s kd rk a0)(hm:m<=a0.size)(a1:1<=a)(am:a<=m)(b:Sb kd a0 z)(up:Up rk (arrOf z) a)
  (h:∀n,a<=n->n<=m->Up rk (arrOf z) n->(n<m->rkAt rk (arrOf z) n<rkAt rk (arrOf z) (n - 1))->Q (none,n) z):wpS (model prog w) A E s (ascLoop a m) Q z:=by
 unfold ascLoop;refine wpS_forRange (I:=fun x c y=>y=z/\c=(none,x)/\Up rk (arrOf z) x) (fun x _ y x1 x2 I=>?_) (fun _ y I=>?_) ⟨rfl,rfl,up⟩
 ·obtain⟨e,rfl,u⟩:=I;subst e;refine wpS_bind (ask c b (by omega) (by omega) ?_)
  by_cases g:rkAt rk (arrOf y) x<rkAt rk (arrOf y) (x - 1)
  ·simp only[g,decide_true,if_true];exact wpS_pure (h x x1 (by omega) u fun _=>g)
  ·simp only[g,decide_false,Bool.false_eq_true,if_false];refine wpS_pure ⟨rfl,rfl,fun i j h1 h2=>?_⟩
   rcases Nat.lt_or_ge j x with jx|jx
   ·exact u i j h1 jx
   ·have ej:j=x:=by omega
    subst ej;rcases Nat.lt_or_ge i (j - 1) with ij|ij
    ·have:=u i (j - 1) ij (by omega);omega
    ·have:i=j - 1:=by omega
     rw[this];omega
 ·obtain⟨e,rfl,u⟩:=I;subst e;rw[show max a m=m by omega]at u ⊢
  exact h m am (Nat.le_refl _) u fun g=>absurd g (by omega)
theorem zji{z:SortSt}{n m:Nat}{Q:Option Nat->SortSt->Prop}(c:Cmp prog w A s kd rk a0)(hm:m<=a0.size)(n1:1<=n)(nm:n<=m)(b:Sb kd a0 z)(dn:Dn rk (arrOf z) n)
  (h:∀k y,Sb kd a0 y->1<=k->k<=m->Up rk (arrOf y) k->Q (some k) y):wpS (model prog w) A E s (tail3 n m) Q z:=by
 unfold tail3;have hz:n<=(arrOf z).size:=by rw[b.sz];omega
 refine wpS_bind (wpS_reverse (wpS_bind ?_));have b2:=b.arr (mirror_perm (arrOf z) 0 n ((n - 0) / 2));refine zmQ c hm n1 nm b2 (fun i j h1 h2=>?_) fun k k1 k2 u _=>wpS_pure (h k _ b2 (by omega) k2 u)
 show rkAt rk (mirror (arrOf z) 0 n ((n - 0) / 2)) i<=rkAt rk (mirror (arrOf z) 0 n ((n - 0) / 2)) j
 rw[(zjy (rk:=rk) hz i).1 (by omega) (by omega),(zjy (rk:=rk) hz j).1 (by omega) h2]
 exact dn _ _ (by omega) (by omega)
theorem Zm{xs:Array Keyed}{i j:Nat}(hj:j<=xs.size)(al:∀k,i<=k->k<j->rkAt rk xs k=rkAt rk xs (j - 1))(k:Nat):rkAt rk (mirror xs i j ((j - i) / 2)) k=rkAt rk xs k:=by
 obtain⟨p,q⟩:=zjy (rk:=rk) (i:=i) hj k
 by_cases g:i<=k/\k<j
 ·rw[p g.1 g.2,al _ (by omega) (by omega),al k g.1 g.2]
 ·exact q (by omega)
theorem zn7{z:SortSt}{n m:Nat}{Q:DescSt->SortSt->Prop}(c:Cmp prog w A s kd rk a0)(hm:m<=a0.size)(n1:1<=n)(nm:n<=m)(b:Sb kd a0 z)(dn:Dn rk (arrOf z) n)
  (h:∀k e y,Sb kd a0 y->n<=k->k<=m->Dn rk (arrOf y) k->e<k->(∀i,k - (e+1)<=i->i<k->rkAt rk (arrOf y) i=rkAt rk (arrOf y) (k - 1))->Q (none,k,e) y) :
  wpS (model prog w) A E s (descLoop n m) Q z:=by
 unfold descLoop;refine wpS_forRange (I:=fun x c y=>∃e,c=(none,x,e)/\Sb kd a0 y/\Dn rk (arrOf y) x/\e<x/\∀i,x - (e+1)<=i->i<x->rkAt rk (arrOf y) i=rkAt rk (arrOf y) (x - 1)) (fun x _ y x1 x2 I=>?_) (fun _ y I=>?_)
  ⟨0,rfl,b,dn,by omega,fun i i1 i2=>by rw[show i=n - 1 by omega]⟩
 ·obtain⟨e,rfl,by',d,ex,al⟩:=I
  have xz:x<=(arrOf y).size:=by rw[by'.sz];omega
  refine wpS_bind (ask c by' (show x<a0.size by omega) (show x - 1<a0.size by omega) ?_)
  by_cases g:rkAt rk (arrOf y) x<rkAt rk (arrOf y) (x - 1)
  ·simp only[g,decide_true,if_true];have d2:∀xs:Array Keyed,(∀k,rkAt rk xs k=rkAt rk (arrOf y) k)->Dn rk xs (x+1):=fun xs hx i j h1 h2=>by
    rw[hx,hx];rcases Nat.lt_or_ge j x with jx|jx
    ·exact d i j h1 jx
    ·have ej:j=x:=by omega
     subst ej;rcases Nat.lt_or_ge i (j - 1) with ij|ij
     ·have:=d i (j - 1) ij (by omega);omega
     ·have:i=j - 1:=by omega
      rw[this];omega
   have one:∀xs:Array Keyed,∀i,x+1 - (0+1)<=i->i<x+1->rkAt rk xs i=rkAt rk xs (x+1 - 1):=fun xs i i1 i2=>by rw[show i=x+1 - 1 by omega]
   by_cases e0:e > 0
   ·simp only[e0,if_true];exact wpS_bind (wpS_reverse (wpS_pure ⟨0,rfl,by'.arr (mirror_perm _ _ _ _),d2 _ (Zm xz al),by omega,one _⟩))
   ·simp only[e0,if_false];exact wpS_pure ⟨0,rfl,by',d2 _ (fun _=>rfl),by omega,one _⟩
  ·simp only[g,decide_false,Bool.false_eq_true,if_false];refine wpS_bind (ask c by' (show x - 1<a0.size by omega) (show x<a0.size by omega) ?_)
   by_cases g2:rkAt rk (arrOf y) (x - 1)<rkAt rk (arrOf y) x
   ·simp only[g2,decide_true,if_true];exact wpS_pure (h x e y by' x1 (by omega) d ex al)
   ·simp only[g2,decide_false,Bool.false_eq_true,if_false];have eqx:rkAt rk (arrOf y) x=rkAt rk (arrOf y) (x - 1):=by omega
    refine wpS_pure ⟨e+1,rfl,by',fun i j h1 h2=>?_,by omega,fun i i1 i2=>?_⟩
    ·rcases Nat.lt_or_ge j x with jx|jx
     ·exact d i j h1 jx
     ·have ej:j=x:=by omega
      subst ej;rcases Nat.lt_or_ge i (j - 1) with ij|ij
      ·have:=d i (j - 1) ij (by omega);omega
      ·have:i=j - 1:=by omega
       rw[this];omega
    ·rw[show x+1 - 1=x by omega]
     rcases Nat.lt_or_ge i x with ix|ix
     ·rw[al i (by omega) ix,eqx]
     ·rw[show i=x by omega]
 ·obtain⟨e,rfl,by',d,ex,al⟩:=I
  rw[show max n m=m by omega]at *
  exact h m e y by' nm (Nat.le_refl _) d ex al
theorem zjR{z:SortSt}{n m:Nat}{Q:Option Nat->SortSt->Prop}(c:Cmp prog w A s kd rk a0)(hm:m<=a0.size)(nm:n+1<=m)(b:Sb kd a0 z)(dn:Dn rk (arrOf z) (n+1))
  (h:∀k y,Sb kd a0 y->1<=k->k<=m->Up rk (arrOf y) k->Q (some k) y):wpS (model prog w) A E s (descPart n m) Q z:=by
 unfold descPart;refine wpS_bind (wpS_lift (wpAny_rule ⟨rfl,wpS_bind ?_⟩));refine zn7 c hm (by omega) nm b dn fun k e y by' k1 k2 d ek al=>?_
 have kz:k<=(arrOf y).size:=by rw[by'.sz];omega
 by_cases e0:e > 0
 ·simp only[e0,if_true];refine wpS_bind (wpS_reverse (zji c hm (by omega) k2 (by'.arr (mirror_perm _ _ _ _)) (fun i j h1 h2=>?_) h))
  show rkAt rk (mirror (arrOf y) (k - (e+1)) k ((k - (k - (e+1))) / 2)) j<=rkAt rk (mirror (arrOf y) (k - (e+1)) k ((k - (k - (e+1))) / 2)) i
  rw[Zm kz al,Zm kz al];exact d i j h1 h2
 ·simp only[e0,if_false];exact zji c hm (by omega) k2 by' d h
theorem zoT{z:SortSt}{m:Nat}{Q:Option Nat->SortSt->Prop}(c:Cmp prog w A s kd rk a0)(hm:m<=a0.size)(m1:1<=m)(b:Sb kd a0 z)
  (h:∀k y,Sb kd a0 y->1<=k->k<=m->Up rk (arrOf y) k->Q (some k) y):wpS (model prog w) A E s (countRun' 0 m) Q z:=by
 rw[countRun0_eq];refine wpS_bind (zmQ c hm (Nat.le_refl 1) m1 b (fun i j h1 h2=>absurd h1 (by omega)) fun n n1 n2 u lt=>?_)
 by_cases en:n=m
 ·simp only[en,beq_self_eq_true,if_true];exact wpS_pure (h m z b m1 (Nat.le_refl _) (en▸u))
 ·have en':(n == m)=false:=by simpa using en
  simp only[en',Bool.false_eq_true,if_false];have l:=lt (by omega)
  by_cases g:n > 1
  ·simp only[g,if_true];refine wpS_bind (ask c b (by omega) (by omega) ?_)
   by_cases rose:rkAt rk (arrOf z) 0<rkAt rk (arrOf z) (n - 1)
   ·simp only[rose,decide_true,if_true];exact wpS_pure (h n z b n1 n2 u)
   ·simp only[rose,decide_false,Bool.false_eq_true,if_false];have zn:n<=(arrOf z).size:=by rw[b.sz];omega
    have al:∀k,0<=k->k<n->rkAt rk (arrOf z) k=rkAt rk (arrOf z) (n - 1):=fun k _ kn=>by
     have p:rkAt rk (arrOf z) 0<=rkAt rk (arrOf z) k:=by
      rcases Nat.eq_zero_or_pos k with k0|k0
      ·rw[k0];exact Int.le_refl _
      ·exact u 0 k k0 kn
     have q:rkAt rk (arrOf z) k<=rkAt rk (arrOf z) (n - 1):=by
      rcases Nat.lt_or_ge k (n - 1) with kk|kk
      ·exact u k (n - 1) kk (by omega)
      ·rw[show k=n - 1 by omega];exact Int.le_refl _
     omega
    refine wpS_bind (wpS_reverse (zjR c hm (by omega) (b.arr (mirror_perm _ _ _ _)) (fun i j h1 h2=>?_) h))
    show rkAt rk (mirror (arrOf z) 0 n ((n - 0) / 2)) j<=rkAt rk (mirror (arrOf z) 0 n ((n - 0) / 2)) i
    rw[Zm zn al,Zm zn al];have ai:=al i (by omega) (by omega)
    rcases Nat.lt_or_ge j n with jn|jn
    ·have:=al j (by omega) jn;omega
    ·rw[show j=n by omega];omega
  ·simp only[g,if_false];have e1:n=1:=by omega
   subst e1;refine zjR c hm (by omega) b (fun i j h1 h2=>?_) h
   rw[show i=0 by omega,show j=1 by omega]
   exact Int.le_of_lt l
theorem zm3{z:SortSt}{Q:Unit->SortSt->Prop}(c:Cmp prog w A s kd rk a0)(b:Sb kd a0 z)(s2:2<=a0.size)(s64:a0.size<64)
  (h:∀y,(arrOf y).Perm a0->failedOf y=none->Up rk (arrOf y) a0.size->Q () y):wpS (model prog w) A E s sortRuns' Q z:=by
 rw[sortRuns'_eq];refine wpS_bind (wpS_get ?_);have mr:minRun' a0.size a0.size 0=a0.size:=by
  obtain⟨q,hq⟩:∃q,a0.size=q+1:=⟨a0.size - 1,by omega⟩
  conv=>lhs;rw[hq]
  rw[minRun'_succ,if_pos (by omega)];omega
 simp only[b.sz,mr];refine wpS_bind (wpS_mono (wpS_forRange (Q:=fun c y=>c=(none,a0.size)/\(arrOf y).Perm a0/\failedOf y=none/\pendingOf y=#[(0,a0.size,0)]/\Up rk (arrOf y) a0.size)
  (I:=fun x c y=>(x=0/\c=(none,0)/\Sb kd a0 y)\/(0<x/\c=(none,a0.size)/\(arrOf y).Perm a0/\failedOf y=none/\pendingOf y=#[(0,a0.size,0)]/\Up rk (arrOf y) a0.size)) ?turn ?last (.inl ⟨rfl,rfl,b⟩)) ?post)
 case last =>
  rintro _ y (⟨x0,_⟩|⟨_,q⟩)
  ·omega
  ·exact q
 case turn =>
  rintro x _ y _ _ (⟨rfl,rfl,by'⟩|⟨x1,rfl,q⟩)
  ·simp only[ge_iff_le,show ¬a0.size<=0 by omega,if_false,Nat.sub_zero,Nat.min_self,Nat.zero_add]
   have fin:∀y2,Sb kd a0 y2->Up rk (arrOf y2) a0.size->(arrOf (setPending y2 ((pendingOf y2).push (0,a0.size,0)))).Perm a0/\failedOf (setPending y2 ((pendingOf y2).push (0,a0.size,0)))=none/\pendingOf (setPending y2 ((pendingOf y2).push (0,a0.size,0)))=#[(0,a0.size,0)]/\Up rk (arrOf (setPending y2 ((pendingOf y2).push (0,a0.size,0)))) a0.size :=
    fun y2 b2 u2=>⟨b2.pm,b2.fl,by show(pendingOf y2).push (0,a0.size,0)=_;rw[b2.pe];rfl,u2⟩
   refine wpS_bind (zoT c (Nat.le_refl _) (by omega) by' fun k y1 b1 k1 k2 u1=>?_)
   by_cases g:k<a0.size
   ·simp only[g,if_true];refine wpS_bind (wpS_lift (wpAny_rule ⟨rfl,wpS_bind ?_⟩));refine zqN c (Nat.le_refl _) k2 b1 u1 fun y2 b2 u2=>?_
    simp only[Bool.not_true,Bool.false_eq_true,if_false];refine wpS_bind (wpS_get ?_);have pb:(pendingOf y2).back?=none:=by rw[b2.pe];rfl
    simp only[pb];exact wpS_bind (wpS_modify (wpS_pure (.inr ⟨by omega,rfl,fin y2 b2 u2⟩)))
   ·simp only[g,if_false];have ek:k=a0.size:=by omega
    subst ek;refine wpS_bind (wpS_get ?_);have pb:(pendingOf y1).back?=none:=by rw[b1.pe];rfl
    simp only[pb];exact wpS_bind (wpS_modify (wpS_pure (.inr ⟨by omega,rfl,fin y1 b1 u1⟩)))
  ·simp only[ge_iff_le,Nat.le_refl,if_true];exact wpS_pure ⟨rfl,q⟩
 case post =>
  rintro _ y ⟨rfl,q1,q2,q3,q4⟩;refine wpS_bind (wpS_mono (wpS_forRange (Q:=fun c v=>v=y/\c=(none,())) (I:=fun _ c v=>v=y/\c=(none,())) (fun x _ v _ _ I=>?_) (fun _ _ I=>I) ⟨rfl,rfl⟩) fun _ v I=>?_)
  ·obtain⟨e,rfl⟩:=I;subst e;refine wpS_bind (wpS_get ?_);simp only[q3,List.size_toArray,List.length_cons,List.length_nil,Nat.le_refl,if_true];exact wpS_pure ⟨rfl,rfl⟩
  ·obtain⟨e,rfl⟩:=I;subst e;exact wpS_pure (h v q1 q2 q4)
end
theorem zln{prog:Program}{w:World}{A:Around}{E:qV}{s:Shared}{kd:SortKind}{rk:Value->Int}{a0:Array Keyed}{z:SortSt}{Q:Unit->SortSt->Prop}(c:Cmp prog w A s kd rk a0)(b:Sb kd a0 z)(s2:2<=a0.size)(s64:a0.size<64)
  (h:∀y,(arrOf y).Perm a0->failedOf y=none->Up rk (arrOf y) a0.size->Q () y):wpS (model prog w) A E s sortRuns' Q z:=zm3 c b s2 s64 h
def midH(h:Heap)(a:Addr)(vs:List Value):Heap:=((h.update a (Obj.mapSeq fun _=>#[])).push (seqObj "tuple" vs.toArray 0)).push (seqObj "list" #[] 0)
section
variable{prog:Program}{w:World}{A:Around}{E:qV}{s:Shared}{rk:Value->Int}
def Kinds(prog:Program)(w:World)(A:Around)(s:Shared)(rk:Value->Int)(vs:List Value):Prop:=2<=vs.length->∃kd,(∀(E:qV) (Q:SortKind->Shared->Prop),Q kd s->wpAny (model prog w) A (keyKind' vs.toArray) Q E s)/\Cmp prog w A s kd rk (pairsOf vs)
theorem zib{a:Addr}{vs:List Value}{n:Nat}{P:Fin->Shared->Prop}(ho:s.heap.get? a=some (seqObj "list" vs.toArray n)) (h64:vs.length<64) (hk:Kinds prog w A { s with heap:=midH s.heap a vs } rk vs)
  (h:∀y:SortSt,(arrOf y).Perm (pairsOf vs)->Up rk (arrOf y) vs.length->P (.done (.ret .none)) { s with heap:=sortedHeap s.heap a vs ((arrOf y).map (·.2)) }) :
  wpAny (model prog w) A (Builtin.«list.sort» ⟨[.ref a],[]⟩) P E s:=by
 rw[list_sort_plain];have la:a<s.heap.objs.size:=Heap.lt_size ho;refine wpAny_bind (listItems_at ho rfl (wpAny_bind (listUpdate_at ho rfl ?_)));obtain⟨e1,o1⟩:∃e1,(s.heap.update a (Obj.mapSeq fun _=>#[])).get? a=some (seqObj "list" #[] e1):=⟨_,get?_update_seq ho (fun _=>#[])⟩
 refine wpAny_bind (seqEpoch_at o1 rfl (wpAny_bind (wpAny_newTuple (wpAny_bind (wpAny_newList (wpAny_holding ?_))))));have o2:(midH s.heap a vs).get? a=some (seqObj "list" #[] e1):=by
  unfold midH;rw[Heap.get?_push_ne _ _ _ (by rw[size_push',Heap.size_update];exact Nat.ne_of_lt (Nat.lt_of_lt_of_le la (Nat.le_succ _))),Heap.get?_push_ne _ _ _ (by rw[Heap.size_update];exact Nat.ne_of_lt la)]
  exact o1
 show wpAny (model prog w) A _ P E { s with heap:=midH s.heap a vs }
 have z:vs.toArray.size=vs.length:=by simp
 have tail:∀(y:SortSt),(arrOf y).Perm (pairsOf vs)->failedOf y=none->Up rk (arrOf y) vs.length->wpAny (model prog w) A (do
   let touched:=(<- seqEpoch a) != e1
   Builtin.List.listUpdate (.ref a) fun _=>(arrOf y).map (·.2)
   if let some e:=failedOf y then rule "list.sort.comparison-raised";throw e
   if touched then rule "list.sort.modified";raiseError "ValueError" "list modified during sort"
   ret .none) P E { s with heap:=midH s.heap a vs }:=fun y pm fl up=>by
  refine wpAny_bind (seqEpoch_at o2 rfl (wpAny_bind (listUpdate_at o2 rfl ?_ (hsz2:=?_))))
  ·rw[fl];simp only[bne_self_eq_false,Bool.false_eq_true,if_false];exact wpAny_pure (h y pm up)
  ·rw[Array.size_map,pm.size_eq,pairsOf_size];show vs.length<=sizeLine+1
   have:64<=sizeLine:=by decide
   omega
 by_cases two:vs.length<2
 ·simp only[z,two,if_true];refine wpAny_bind (wpAny_pure ?_);rw[StateT.run_pure];refine wpAny_bind (wpAny_pure ?_);exact tail (SortSt.mk' general' (vs.toArray.zip vs.toArray) #[] 7 none) (Array.Perm.refl _) rfl fun i j h1 h2=>absurd h2 (by omega)
 ·simp only[z,two,if_false];obtain⟨kd,k1,k2⟩:=hk (by omega)
  refine wpAny_bind (k1 _ _ ?_);refine wpAny_bind (wpAny_mono (zln (Q:=fun _ y=>(arrOf y).Perm (pairsOf vs)/\failedOf y=none/\Up rk (arrOf y) vs.length) (z:=SortSt.mk' kd (vs.toArray.zip vs.toArray) #[] 7 none) k2 ⟨Array.Perm.refl _,rfl,rfl,rfl⟩ (by rw[pairsOf_size];omega) (by rw[pairsOf_size];exact h64)
   fun y p1 p2 p3=>⟨p1,p2,by rwa [pairsOf_size]at p3⟩) ?_ fun _ _ e=>e)
  rintro⟨⟨⟩,y⟩ s' ⟨rfl,p1,p2,p3⟩;exact tail y p1 p2 p3
theorem zeK{l:Addr}{vs:List Value}{o:Obj}{T:String}{n:Nat}{Q:List Value->Shared->Prop}(ho:s.heap.get? l=some o)(hc:o.cls=.type T)(hT:T = "list" \/ T = "tuple") (hd:o.data=.seq vs.toArray n) (hz:vs.length<=sizeLine)
  (h:Q vs { s with heap:=(s.heap.push (seqObj "list" #[] 0)).update s.heap.objs.size (Obj.mapSeq (·++vs.toArray)) }):wpAny (model prog w) A (collect (.ref l)) Q E s:=by
 unfold collect;refine wpAny_bind (wpAny_runValue (codeAny_builtin entry_proto_collect' ?_));show wpAny (model prog w) _ (newList [] >>= fun x=>again (.builtin "list.__iadd__" ⟨[x,.ref l],[]⟩)) _ _ s
 refine wpAny_bind (wpAny_newList (wpAny_pure ⟨Code.quiet_builtin _ (by decide +kernel),codeAny_builtin entry_list_iadd' ?_⟩))
 show wpAny (model prog w) _ (Builtin.List.listExtendWith (.ref s.heap.objs.size) (.ref l) (.ref s.heap.objs.size)) _ _ { s with heap:=s.heap.push (seqObj "list" #[] 0) }
 unfold Builtin.List.listExtendWith;have o1:(s.heap.push (seqObj "list" #[] 0)).get? l=some o:=Heap.get?_push_of_some _ ho;refine wpAny_bind (wpAny_typeOf (T:=T) ⟨o,o1,hc⟩ ?_);have cond:∀b:Bool,(b||Value.type T == Value.type "list" ||Value.type T == Value.type "tuple")=true:=by
  intro b;have c1:(Value.type "list" == Value.type "list")=true:=rfl;have c2:(Value.type "tuple" == Value.type "tuple")=true:=rfl;rcases hT with rfl|rfl
  ·rw[c1];simp
  ·rw[c2];simp
 rw[if_pos (cond _)];refine wpAny_bind (listItems_at o1 hd (wpAny_bind (listItems_at (xs:=#[]) (n:=0) (Heap.get?_push_size _ rfl) rfl ?_)));rw[if_neg (by simp)]
 refine wpAny_bind (listUpdate_at (xs:=#[]) (n:=0) (Heap.get?_push_size _ rfl) rfl (wpAny_pure ?_) (Nat.zero_le _) (by simp only[Array.size_append,List.size_toArray,List.length_nil];omega))
 refine wpAny_bind (m:=load s.heap.objs.size) (wpAny_load (get?_update_seq (Heap.get?_push_size _ rfl) _) ?_);show wpAny (model prog w) A (pure ((#[]:Array Value)++vs.toArray).toList) Q E _
 have e:((#[]:Array Value)++vs.toArray).toList=vs:=by simp
 rw[e];exact wpAny_pure h
def preH(h:Heap)(vs:List Value):Heap:=((h.push (seqObj "list" #[] 0)).update h.objs.size (Obj.mapSeq (·++vs.toArray))).push (seqObj "list" vs.toArray 0)
theorem ziF{l:Addr}{vs:List Value}{o:Obj}{T:String}{n:Nat}{Q:qV}(ho:s.heap.get? l=some o)(hc:o.cls=.type T)(hT:T = "list" \/ T = "tuple") (hd:o.data=.seq vs.toArray n) (h64:vs.length<64)
  (hk:∀A',Kinds prog w A' { s with heap:=midH (preH s.heap vs) (s.heap.objs.size+1) vs } rk vs)
  (h:∀y:SortSt,(arrOf y).Perm (pairsOf vs)->Up rk (arrOf y) vs.length->Q (.ref (s.heap.objs.size+1)) { s with heap:=sortedAll s.heap vs ((arrOf y).map (·.2)) }) :
  wpAny (model prog w) A (call (.builtin "sorted") [.ref l]) Q E s:=by
 refine Calls.call_function_entry kind_sorted plain_sorted entry_sorted (args_sorted1 _) ?_;unfold Builtin.«sorted»;refine wpAny_bind (m:=checkCount "sorted" 1 1 _) (wpAny_pure ?_)
 refine wpAny_bind (zeK ho hc hT hd (by have:64<=sizeLine:=by decide
                                        omega) (wpAny_bind (wpAny_newList ?_)))
 have z:((s.heap.push (seqObj "list" #[] 0)).update s.heap.objs.size (Obj.mapSeq (·++vs.toArray))).objs.size=s.heap.objs.size+1:=by rw[Heap.size_update,size_push']
 have o3:(preH s.heap vs).get? (s.heap.objs.size+1)=some (seqObj "list" vs.toArray 0):=by
  unfold preH;rw[<- z];exact Heap.get?_push_size _ rfl
 show wpAny (model prog w) _ _ _ _ { s with heap:=preH s.heap vs }
 rw[z];refine wpAny_bind (wpAny_holding (wpAny_call_entry slot_list_sort ⟨_,o3,rfl⟩ entry_list_sort (zib o3 h64 (hk _) fun y p1 p2=>⟨_,rfl,?_⟩) (args_list_sort _)))
 exact wpAny_pure ⟨_,rfl,h y p1 p2⟩
end
section
variable{prog:Program}{w:World}{A:Around}{E:qV}{s:Shared}
theorem zj9(b:Bool)(x y:Value):keyLt' (tuples' b) x y=(do
  let xs <- Builtin.List.listItems x
  let ys <- Builtin.List.listItems y
  for ((p,q),i) in (xs.toList.zip ys.toList).zipIdx do
   if !(<- eqBool p q) then return <- oneLt' (b&&i == 0) p q
  return decide (xs.size<ys.size)):=rfl
def LtAt(prog:Program)(w:World)(A:Around)(s:Shared)(one:Bool)(p q:Value)(l:Bool):Prop:=∀(E:qV) (Q:Bool->Shared->Prop),Q l s->wpAny (model prog w) A (oneLt' one p q) Q E s
theorem zgr{b:Bool}{x y:Addr}{ox oy:Obj}{p0 p1 q0 q1:Value}{n m:Nat}{c0 c1 l0 l1:Bool}{Q:Bool->Shared->Prop}(hx:s.heap.get? x=some ox)(dx:ox.data=.seq #[p0,p1] n)(hy:s.heap.get? y=some oy)(dy:oy.data=.seq #[q0,q1] m)
  (e0:SeqAt.EqAt A s p0 q0 c0) (e1:SeqAt.EqAt A s p1 q1 c1) (t0:c0=false->LtAt prog w A s b p0 q0 l0) (t1:c1=false->LtAt prog w A s false p1 q1 l1) (h:Q (if c0=true then(if c1=true then false else l1) else l0) s) :
  wpAny (model prog w) A (keyLt' (tuples' b) (.ref x) (.ref y)) Q E s:=by
 rw[zj9];refine wpAny_bind (listItems_at hx dx (wpAny_bind (listItems_at hy dy ?_)));have ez:((#[p0,p1]:Array Value).toList.zip (#[q0,q1]:Array Value).toList).zipIdx=[((p0,q0),0),((p1,q1),1)]:=rfl;simp only[ez,List.forIn_cons,List.forIn_nil];refine wpAny_bind (wpAny_bind ?_);refine wpAny_bind (e0 prog w E _ ?_);cases c0 with
 | false =>
  simp only[Bool.not_false,if_true];have z0:(b&&(0:Nat) == 0)=b:=by simp
  rw[z0];refine wpAny_bind (t0 rfl E _ ?_);exact wpAny_pure (wpAny_pure (wpAny_pure (by simpa using h)))
 | true =>
  simp only[Bool.not_true,Bool.false_eq_true,if_false];refine wpAny_pure (wpAny_bind (wpAny_bind (e1 prog w E _ ?_)));cases c1 with
  | false =>
   simp only[Bool.not_false,if_true];have z1:(b&&(1:Nat) == 0)=false:=by simp
   rw[z1];refine wpAny_bind (t1 rfl E _ ?_);exact wpAny_pure (wpAny_pure (wpAny_pure (by simpa using h)))
  | true =>
   simp only[Bool.not_true,Bool.false_eq_true,if_false];exact wpAny_pure (wpAny_pure (wpAny_pure (by simpa using h)))
theorem zj5(a b:Int)(t u:Tok):LtAt prog w A s true (.int a t) (.int b u) (decide (a<b)):=fun _ _ q=>oneLt_int q
theorem zlR(a b:Int)(t u:Tok):LtAt prog w A s false (.int a t) (.int b u) (decide (a<b)):=fun E Q q=>by
 rw[oneLt'_eq];simp only[Bool.false_eq_true,if_false];refine wpAny_bind (show wpAny (model prog w) A (compareOp .Lt (.int a t) (.int b u)) _ E s from lt_int ?_)
 exact wpAny_truthy_bool q
def PrIn(h:Heap)(u:Value)(b k:Int):Prop:=∃(a:Addr) (o:Obj) (t t':Tok) (n:Nat),u=.ref a/\h.get? a=some o/\o.cls=.type "tuple" /\ o.data=.seq #[.int b t,.int k t'] n
def two?:List Value->Int
 | [.int b _,.int k _]=>b*1000+k
 | _=>0
def rkC(h:Heap)(u:Value):Int:=match u with
 | .ref a=>match h.get? a with
  | some o=>match o.data with
   | .seq xs _=>two? xs.toList
   | _=>0
  | none=>0
 | _=>0
theorem PrIn.rk{h:Heap}{u:Value}{b k:Int}(p:PrIn h u b k):rkC h u=b*1000+k:=by
 obtain⟨a,o,t,t',n,rfl,e1,_,e2⟩:=p;simp only[rkC,e1,e2,two?]
theorem PrIn.kept{h h':Heap}{u:Value}{b k:Int}(p:PrIn h u b k)(kp:∀b o,h.get? b=some o->h'.get? b=some o):PrIn h' u b k:=by
 obtain⟨a,o,t,t',n,e0,e1,e2,e3⟩:=p;exact⟨a,o,t,t',n,e0,kp _ _ e1,e2,e3⟩
theorem Zl{α β:Type}{f:α->Sem β}{P:α->β->Prop}{M:Model}:∀(l:List α) {Q:List β->Shared->Prop},(∀v∈l,∀(Q':β->Shared->Prop),(∀r,P v r->Q' r s)->wpAny M A (f v) Q' E s)->(∀rs,Paired P l rs->Q rs s)->wpAny M A (l.mapM f) Q E s
 | [],_,_,h=>by rw[List.mapM_nil];exact wpAny_pure (h _ .nil)
 | x::l,Q,hf,h=>by
  rw[List.mapM_cons];exact wpAny_bind (hf x (.head _) _ fun r hr=>wpAny_bind (Zl l (fun v hv=>hf v (.tail _ hv)) fun rs hrs=>wpAny_pure (h _ (.cons hr hrs))))
theorem zij(v:Value):firstOfTuple' v=(do
  if (<- typeOf v) != .type "tuple" then return none
  return (<- Builtin.List.listItems v)[0]?):=rfl
theorem zi1{vs:List Value}{Q:SortKind->Shared->Prop}(h1:1<=vs.length)(hp:∀v∈vs,∃b k,PrIn s.heap v b k)(h:Q (tuples' true) s):wpAny (model prog w) A (keyKind' vs.toArray) Q E s:=by
 rw[keyKind'_eq,List.mapM_toArray,map_eq_pure_bind];refine wpAny_bind (wpAny_bind (Zl (P:=fun _ r=>∃(b:Int) (t:Tok),r=some (.int b t)) vs (fun v hv Q' hq=>?_) fun rs hrs=>wpAny_pure ?_))
 ·obtain⟨b,k,a,o,t,t',n,rfl,e1,e2,e3⟩:=hp v hv;rw[zij];refine wpAny_bind (wpAny_typeOf (T:="tuple") ⟨o,e1,e2⟩ ?_);rw[if_neg (by decide)]
  exact wpAny_bind (listItems_at e1 e3 (wpAny_pure (hq _ ⟨b,t,rfl⟩)))
 ·have al:∀r∈rs,∃(b:Int) (t:Tok),r=some (.int b t):=by
   clear h hp h1;induction hrs with
   | nil=>intro r hr;cases hr
   | cons x y ih =>
    intro r hr;rcases List.mem_cons.mp hr with rfl|hr
    ·exact x
    ·exact ih r hr
  have ln:rs.length=vs.length:=by
   clear h hp h1 al;induction hrs with
   | nil=>rfl
   | cons x y ih=>simp[ih]
  have hall:(rs.toArray.all fun x=>x.isSome)=true:=by
   simp only[List.all_toArray,List.all_eq_true];intro x hx;obtain⟨b,t,rfl⟩:=al x hx
   rfl
  rw[if_pos hall];refine wpAny_bind (wpAny_rule ?_);rw[oneTypeOnly'_eq];have hfm:rs.toArray.filterMap id=(rs.filterMap id).toArray:=by simp
  rw[hfm,List.mapM_toArray,map_eq_pure_bind];refine wpAny_bind (wpAny_bind (wpAny_bind (Zl (P:=fun _ r=>r=Value.type "int") _ (fun v hv Q' hq=>?_) fun ts hts=>wpAny_pure ?_)))
  ·obtain⟨x,hx,e⟩:=List.mem_filterMap.mp hv;obtain⟨b,t,rfl⟩:=al x hx;cases e;exact wpAny_pure (hq _ rfl)
  ·have al2:∀r∈ts,r=Value.type "int":=by
    clear h hp h1;generalize rs.filterMap id=l at hts;induction hts with
    | nil=>intro r hr;cases hr
    | cons x y ih =>
     intro r hr;rcases List.mem_cons.mp hr with rfl|hr
     ·exact x
     ·exact ih r hr
   have ln2:ts.length=rs.length:=by
    have:ts.length=(rs.filterMap id).length:=by
     clear h hp h1 al2;generalize rs.filterMap id=l at hts;induction hts with
     | nil=>rfl
     | cons x y ih=>simp[ih]
    rw[this];clear this hts hfm hall;clear ln hrs;induction rs with
    | nil=>rfl
    | cons x l ih =>
     obtain⟨b,t,rfl⟩:=al x (.head _);simp only[List.filterMap_cons,id,List.length_cons];rw[ih fun r hr=>al r (.tail _ hr)]
   obtain⟨r1,rr,rfl⟩:∃r1 rr,ts=r1::rr:=by
    cases ts with
    | nil=>simp at ln2;omega
    | cons a b=>exact⟨a,b,rfl⟩
   have e1:r1=Value.type "int":=al2 r1 (.head _);subst e1;have hall2:(((Value.type "int")::rr).toArray.all fun x=>x == Value.type "int")=true:=by
    simp only[List.all_toArray,List.all_eq_true];intro x hx;rw[al2 x hx];rfl
   have h0:((Value.type "int")::rr).toArray[0]?=some (Value.type "int"):=by simp
   rw[h0];simp only[hall2,if_true];refine wpAny_pure (wpAny_pure ?_);exact h
theorem zhB{vs:List Value}{h0:Heap}(hp:∀v∈vs,∃b k,PrIn s.heap v b k/\rkC h0 v=b*1000+k/\0<=k/\k<1000):Kinds prog w A s (rkC h0) vs:=fun h2=>by
 refine⟨tuples' true,fun E Q q=>zi1 (by omega) (fun v hv=>?_) q,fun p q E Q mp mq h=>?_⟩
 ·obtain⟨b,k,h,_⟩:=hp v hv;exact⟨b,k,h⟩
 ·have mem:∀z∈(pairsOf vs).toList,z.1∈vs:=fun z hz=>by
   have:z∈vs.zip vs:=by simpa[pairsOf] using hz
   exact(List.of_mem_zip this).1
  obtain⟨b,k,⟨a,o,t,t',n,e0,e1,e2,e3⟩,r1,k0,k1⟩:=hp _ (mem p mp);obtain⟨b',k',⟨a',o',u,u',n',f0,f1,f2,f3⟩,r2,k0',k1'⟩:=hp _ (mem q mq);rw[r1,r2]at h;rw[e0,f0];refine zgr e1 e3 f1 f3 (SeqAt.EqAt.int_int b t b' u) (SeqAt.EqAt.int_int k t' k' u') (fun _=>zj5 b b' t u) (fun _=>zlR k k' t' u') ?_
  have:(if (b == b')=true then(if (k == k')=true then false else decide (k<k')) else decide (b<b'))=decide (b*1000+k<b'*1000+k'):=by
   simp only[beq_iff_eq];split
   ·split
    ·symm;rw[decide_eq_false_iff_not];omega
    ·rw[decide_eq_decide];omega
   ·rw[decide_eq_decide];omega
  rw[this];exact h
end
theorem zfx{α β:Type}{l:List (α×β)}{m:List β}(h:m.Perm (l.map (·.2))):∃l':List (α×β),l'.Perm l/\l'.map (·.2)=m:=by
 induction m generalizing l with
 | nil =>
  have:l.map (·.2)=[]:=h.symm.eq_nil;cases l with
  | nil=>exact⟨[],.refl _,rfl⟩
  | cons a b=>simp at this
 | cons x m ih =>
  have hx:x∈l.map (·.2):=h.mem_iff.mp (.head _);obtain⟨z,hz,rfl⟩:=List.mem_map.mp hx;obtain⟨l1,l2,rfl⟩:=List.append_of_mem hz;have h2:(z.2::m).Perm (z.2::(l1++l2).map (·.2)):=by
   refine h.trans ?_;simp only[List.map_append,List.map_cons];exact List.perm_middle
  obtain⟨l',p,e⟩:=ih (List.perm_cons _|>.mp h2)
  exact⟨z::l',(p.cons z).trans List.perm_middle.symm,by simp[e]⟩
theorem ziW{h:Heap}{vs:List Value}{b:Addr}{o:Obj}(hb:h.get? b=some o):(midH (preH h vs) (h.objs.size+1) vs).get? b=some o:=by
 have hlt:b<h.objs.size:=Heap.lt_size hb;unfold midH preH;rw[Heap.get?_push_ne _ _ _ (by rw[size_push',Heap.size_update,size_push',Heap.size_update,size_push'];exact Nat.ne_of_lt (Nat.lt_of_lt_of_le hlt (by lia))),Heap.get?_push_ne _ _ _ (by rw[Heap.size_update,size_push',Heap.size_update,size_push'];exact Nat.ne_of_lt (Nat.lt_of_lt_of_le hlt (by lia))),
  Heap.get?_update_ne _ _ _ _ (by exact Nat.ne_of_lt (Nat.lt_of_lt_of_le hlt (by lia))),Heap.get?_push_ne _ _ _ (by rw[Heap.size_update,size_push'];exact Nat.ne_of_lt (Nat.lt_of_lt_of_le hlt (by lia))),Heap.get?_update_ne _ _ _ _ (by exact Nat.ne_of_lt (Nat.lt_of_lt_of_le hlt (by lia))),Heap.get?_push_ne _ _ _ (by exact Nat.ne_of_lt (Nat.lt_of_lt_of_le hlt (by lia)))]
 exact hb
def rkD:PyData->Int
 | .tuple [.int b,.int k]=>b*1000+k
 | _=>0
def PrV(K:qF)(H:Hp)(z:V×PyData):Prop:=∃q b k,z.1=.ref q/\z.2=.tuple [.int b,.int k]/\SqT K H q [.int b,.int k]/\0<=k/\k<1000
section
variable{X:Cx}
theorem zgS:J5 X (.builtin "sorted") (fun xs H Q=>∃(p:Addr) (zs:List (V×PyData)),xs=[.ref p]/\(SqL X.K H p (zs.map (·.1))\/SqT X.K H p (zs.map (·.1)))/\zs.length<64/\(∀z∈zs,PrV X.K H z) /\
  ∀zs':List (V×PyData),zs'.Perm zs->zs'.Pairwise (fun a b=>rkD a.2<=rkD b.2)->∀l,H l=none->Q (.ref l) (upd H l (.lst (zs'.map (·.1))))):=by
 intro pins s σ H xs us Q I r h;obtain⟨p,zs,rfl,hq,h64,hp,q⟩:=h;obtain⟨u,rfl,rx⟩:=vals1 r;cases rx;have key:∀(its:List Value) (o:Obj) (T:String) (n:Nat),Vals (zs.map (·.1)) its->s.heap.get? p=some o->o.cls=.type T->(T = "list" \/ T = "tuple")->o.data=.seq its.toArray n -> 
   wpAny (model X.prog X.w) X.A (call (.builtin "sorted") [.ref p]) (EP X pins σ Q) X.xe s:=fun its o T n rv ho hc hT hd=>by
  have hlen:zs.length=its.length:=by simpa using rv.length
  have each:∀x∈zs.zip its,RelV x.1.1 x.2/\∃b k,PrIn s.heap x.2 b k/\x.1.2=.tuple [.int b,.int k]/\0<=k/\k<1000:=by
   have rel:∀(zs:List (V×PyData)) (its:List Value),Vals (zs.map (·.1)) its->∀x∈zs.zip its,RelV x.1.1 x.2:=by
    intro zs;induction zs with
    | nil=>intro its _ x hx;simp at hx
    | cons z zs ih =>
     intro its r x hx;cases r with
     | cons r1 r2 =>
      rcases List.mem_cons.mp (by simpa using hx) with rfl|hx
      ·exact r1
      ·exact ih _ r2 x hx
   intro x hx;have r1:=rel zs its rv x hx;obtain⟨q',b,k,e1,e2,e3,k0,k1⟩:=hp x.1 (List.of_mem_zip hx).1;refine⟨r1,b,k,?_,e2,k0,k1⟩;rw[e1]at r1;obtain⟨is,rs,⟨o',f1,f2,n',f3⟩,_⟩:=I.tuple e3;cases rs with
   | cons a1 a2 =>
    cases a2 with
    | cons a3 a4 =>
     cases a4;obtain⟨t,rfl⟩:=a1;obtain⟨t',rfl⟩:=a3;exact⟨q',o',t,t',n',r1,f1,f2,f3⟩
  refine ziF (rk:=rkC s.heap) ho hc hT hd (by lia) (fun A'=>zhB fun v hv=>?_) fun y pm up=>?_
  ·obtain⟨i,hi,rfl⟩:=List.getElem_of_mem hv;have hz:i<zs.length:=by lia
   have mem:(zs[i],its[i])∈zs.zip its:=by
    have:(zs.zip its)[i]'(by simp;lia)=(zs[i],its[i]):=by simp
    rw[<- this];exact List.getElem_mem _
   obtain⟨_,b,k,h1,_,k0,k1⟩:=each _ mem;exact⟨b,k,h1.kept fun _ _ e=>ziW e,h1.rk,k0,k1⟩
  ·have pml:(arrOf y).toList.Perm (its.zip its):=by
    have:=Array.perm_iff_toList_perm.mp pm;simpa[pairsOf] using this
   have pm1:((arrOf y).toList.map (·.2)).Perm ((zs.zip its).map (·.2)):=by
    refine(pml.map _).trans ?_;rw[List.map_snd_zip (by lia),List.map_snd_zip (by lia)]
   obtain⟨ws,p1,p2⟩:=zfx pm1;have eachw:∀x∈ws,RelV x.1.1 x.2/\∃b k,PrIn s.heap x.2 b k/\x.1.2=.tuple [.int b,.int k]/\0<=k/\k<1000:=fun x hx=>each x (p1.mem_iff.mp hx)
   have pz:(ws.map (·.1)).Perm zs:=by
    have:=p1.map (·.1)
    rwa [List.map_fst_zip (by lia)]at this
   have rw':Vals ((ws.map (·.1)).map (·.1)) (ws.map (·.2)):=by
    have:∀ws:List ((V×PyData)×Value),(∀x∈ws,RelV x.1.1 x.2)->Vals ((ws.map (·.1)).map (·.1)) (ws.map (·.2)):=by
     intro ws;induction ws with
     | nil=>intro _;exact .nil
     | cons a l ih=>intro h;exact .cons (h a (.head _)) (ih fun x hx=>h x (.tail _ hx))
    exact this ws fun x hx=>(eachw x hx).1
   have rkeq:∀x∈ws,rkC s.heap x.2=rkD x.1.2:=fun x hx=>by
    obtain⟨_,b,k,h1,h2,_⟩:=eachw x hx;rw[h1.rk,h2];rfl
   have fst_snd:∀z∈(arrOf y).toList,z.1=z.2:=fun z hz=>by
    have:z∈its.zip its:=pml.mem_iff.mp hz;obtain⟨i,hi,rfl⟩:=List.getElem_of_mem this;simp
   have szy:(arrOf y).size=its.length:=by
    have:=pml.length_eq;simpa using this
   have pw:(ws.map (·.1)).Pairwise (fun a b=>rkD a.2<=rkD b.2):=by
    rw[List.pairwise_map,List.pairwise_iff_getElem];intro i j hi hj hij;have lw:ws.length=its.length:=by
     have:=congrArg List.length p2;simpa[szy] using this
    have gw:∀k (hk:k<ws.length),rkAt (rkC s.heap) (arrOf y) k=rkD ws[k].1.2:=fun k hk=>by
     have hk':k<(arrOf y).size:=by lia
     have e1:(arrOf y).toList[k]'(by simpa using hk')=(arrOf y)[k]:=by simp
     have e2:ws[k].2=(arrOf y)[k].2:=by
      have:(ws.map (·.2))[k]'(by simpa using hk)=((arrOf y).toList.map (·.2))[k]'(by simpa using hk'):=by simp only[p2]
      simpa using this
     have e3:(arrOf y)[k].1=(arrOf y)[k].2:=fst_snd _ (by rw[<- e1];exact List.getElem_mem _)
     unfold rkAt;rw[Array.getElem?_eq_getElem hk'];simp only[Option.map_some,Option.getD_some];rw[e3,<- e2];exact rkeq _ (List.getElem_mem _)
    have:=up i j hij (by lia)
    rwa [gw i hi,gw j hj]at this
   have ev:(arrOf y).map (·.2)=(ws.map (·.2)).toArray:=by
    apply Array.toList_inj.mp;rw[Array.toList_map,p2]
   rw[ev];obtain⟨e,he⟩:=sortedAll_at s.heap its (ws.map (·.2)).toArray;refine⟨.ref (s.heap.objs.size+1),_,I.laid (a:=s.heap.objs.size+1) (o:=.lst ((ws.map (·.1)).map (·.1))) (t':=s.toks) (fun _ _=>sortedAll_old) (Nat.le_succ _) ?_,rfl,q _ pz pw _ (I.hok.fresh (Nat.le_succ _))⟩
   refine⟨?_,ws.map (·.2),e,rw',he⟩;have:64<=sizeLine:=by decide
   have:=pz.length_eq;simp at this ⊢;lia
 rcases hq with hq|hq
 ·obtain⟨its,r',pl,hz⟩:=I.list hq;obtain⟨o,ho,hc,n,hd⟩:=pl.isList;exact key its o "list" n r' ho hc (.inl rfl) hd
 ·obtain⟨its,r',pl,hz⟩:=I.tuple hq;obtain⟨o,ho,hc,n,hd⟩:=pl;exact key its o "tuple" n r' ho hc (.inr rfl) hd
end
def IsPr(t:PyData):Prop:=∃b k:Int,t=.tuple [.int b,.int k]/\0<=k/\k<1000
def Zv(t:PyData)(R:List PyData->Prop):Prop:=Qg t fun ts=>ts.length<64/\(∀x∈ts,IsPr x)/\∀ts':List PyData,ts'.Perm ts->ts'.Pairwise (fun a b=>rkD a<=rkD b)->R ts'
def zn_(d:DTE):DTA:=fun ρ n R=>d ρ n fun t n1=>Zv t fun ts=>R ts n1
section
variable{X:Cx}{e:Expr}{d:DTE}{pos p:Pos}{k:Nat}
theorem zku(hr:Room k X.A)(hm:X.mg "sorted" = none) (h:DL X e d) (hs:starEach [e] X.env=[(false,eval e X.env)]) (hg:Gl X "sorted":=by rfl):DN X (.Call (.Name "sorted" p) [e] [] pos) (zn_ d):=by
 obtain⟨ta,pa,h⟩:=h;refine⟨_,Y5 zgS hm boot_sorted (Qu pa QV hs) hg,fun C ρ σ H n Q R S hd hq=>?_⟩
 refine h C ρ σ H n _ _ S hd fun t n1 v H1 r1 e1 h1 q1=>?_
 have S1:=S.on e1 h1;have fin:∀p vs ts,Reps X.K C.hd (Own C ρ σ) H1 vs ts->R ts n1->H1 p=none->Q (.ref p) (upd H1 p (.lst vs)):=fun p vs ts rp rr hp=>by
  have hp0:H p=none:=by
   cases z:H p with
   | none=>rfl
   | some o =>
    by_cases y:C.hd=some p
    ·obtain⟨d,m,t,q,_⟩:=h1 p y;rw[hp]at q;cases q
    ·rw[e1 p o z y]at hp;cases hp
  refine hq ts n1 p vs _ rr (e1.trans (ExtE.new hp)) (h1.same (JU hp)) hp0 J1 ?_;refine rp.mono (fun b o hb z=>z.elim id fun z=>?_) fun b o _ hb=>JU hp b o hb
  subst z;rw[hp]at hb;cases hb
 have go:∀(p:Addr) vs ts,(SqL X.K H1 p vs\/SqT X.K H1 p vs)->Reps X.K C.hd (Own C ρ σ) H1 vs ts->(ts.length<64/\(∀x∈ts,IsPr x)/\∀ts':List PyData,ts'.Perm ts->ts'.Pairwise (fun a b=>rkD a<=rkD b)->R ts' n1) ->
   ∃(p':Addr) (zs:List (V×PyData)),[V.ref p]=[V.ref p']/\(SqL X.K H1 p' (zs.map (·.1))\/SqT X.K H1 p' (zs.map (·.1)))/\zs.length<64/\(∀z∈zs,PrV X.K H1 z) /\
  ∀zs':List (V×PyData),zs'.Perm zs->zs'.Pairwise (fun a b=>rkD a.2<=rkD b.2)->∀l,H1 l=none->Q (.ref l) (upd H1 l (.lst (zs'.map (·.1)))):=fun p vs ts hs rp h=>by
  have ln:=rp.length;have rel:∀z∈vs.zip ts,Rep X.K C.hd (Own C ρ σ) H1 z.1 z.2:=fun z hz=>by
   obtain⟨i,hi,rfl⟩:=List.getElem_of_mem hz;have hi2:i<ts.length:=by simp at hi;lia
   obtain⟨v,h1,h2⟩:=rp.get (List.getElem?_eq_getElem hi2);have hi1:i<vs.length:=by lia
   rw[List.getElem?_eq_getElem hi1]at h1;cases h1;simpa using h2
  refine⟨p,vs.zip ts,rfl,?_,by simp;lia,fun z hz=>?_,fun zs' pm pw l hl=>?_⟩
  ·rw[List.map_fst_zip (by lia)];exact hs
  ·obtain⟨b,k,e,k0,k1⟩:=h.2.1 z.2 (List.of_mem_zip hz).2;have r:=rel z hz;rw[e]at r;obtain⟨a,ws,e1,e2,e3⟩:=r.tupI;cases e3 with
   | cons x1 x2 =>
    cases x2 with
    | cons x3 x4 =>
     cases x4;rw[x1.intI,x3.intI]at e2;exact⟨a,b,k,e1,e,e2,k0,k1⟩
  ·refine fin l _ (zs'.map (·.2)) ?_ (h.2.2 _ ?_ ?_) hl
   ·have:∀zs:List (V×PyData),(∀z∈zs,Rep X.K C.hd (Own C ρ σ) H1 z.1 z.2)->Reps X.K C.hd (Own C ρ σ) H1 (zs.map (·.1)) (zs.map (·.2)):=by
     intro zs;induction zs with
     | nil=>intro _;exact .nil
     | cons a l ih=>intro h;exact .cons (h a (.head _)) (ih fun x hx=>h x (.tail _ hx))
    exact this zs' fun z hz=>rel z (pm.mem_iff.mp hz)
   ·have:=pm.map (·.2)
    rwa [List.map_snd_zip (by lia)]at this
   ·rw[List.pairwise_map];exact pw
 cases t with
 | list ts =>
  obtain⟨p,vs,rfl,h1',h2⟩:=q1.lstI;exact go p vs ts (.inl (.of h1')) h2 r1
 | tuple ts =>
  obtain⟨p,vs,rfl,h1',h2⟩:=q1.tupI;exact go p vs ts (.inr h1') h2 r1
 | _=>exact r1.elim
end
abbrev prD(b:Int×Int):PyData:=.tuple [.int b.1,.int b.2]
def pD(bs:qB):List PyData:=bs.map prD
theorem Qz{bs:qB}:(pD bs).length=bs.length:=by simp[pD]
theorem zmw{i h:Int}{bs:qB}:pD bs++[.tuple [.int i,.int h]]=pD (bs++[(i,h)]):=by simp[pD]
theorem zjS{bs:qB}{k:Nat}{t:PyData}(h:(pD bs)[k]?=some t):∃i g:Int,bs[k]?=some (i,g)/\t=.tuple [.int i,.int g]:=by
 unfold pD at h;rw[List.getElem?_map]at h;cases e:bs[k]? with
 | none=>rw[e]at h;cases h
 | some b=>rw[e]at h;cases h;exact⟨b.1,b.2,rfl,rfl⟩
def eB(b:Int×Int):Int:=b.1+2 ^ b.2.toNat
def Bks(bits:Int)(bs:qB):Prop:=∀b∈bs,IsBk bits b.1 b.2
def Ptc(bits:Int)(bs:qB):Prop:=Bks bits bs/\bs.Pairwise fun a b=>eB a<=b.1
theorem Zc(b:Int×Int):b.1<eB b:=by have:=Bd.QP b.2.toNat;unfold eB;lia
theorem zpt{bs:qB}:Okd (.list (pD bs)):=by
 have:∀bs:List (Int×Int),PyData.canLayAll0 (pD bs)=true/\PyData.depthAll (pD bs)<=1:=by
  intro bs;induction bs with
  | nil=>exact⟨by simp[pD,PyData.canLayAll0],by simp[pD,PyData.depthAll]⟩
  | cons b l ih =>
   refine⟨?_,?_⟩
   ·have:=ih.1;simp only[pD,List.map_cons,PyData.canLayAll0,PyData.canLay0,Bool.and_true,Bool.true_and]at this ⊢;exact this
   ·have:=ih.2;simp only[pD,List.map_cons,PyData.depthAll,PyData.depth]at this ⊢;lia
 exact⟨by simp only[PyData.canLay0];exact(this bs).1,by simp only[PyData.depth];have:=(this bs).2;lia⟩
theorem zhf:Okd (.list []):=⟨by simp[PyData.canLay0,PyData.canLayAll0],by simp[PyData.depth,PyData.depthAll]⟩
theorem znR{d:DTE}{ρ:En}{n:Nat}{Rl:List PyData->Nat->Prop}(h:d ρ n fun t n1=>Zv t fun ts=>Rl ts n1):zn_ d ρ n Rl:=h
theorem zpI{bits:Int}{bs:qB}{Rl:List PyData->Prop}(hb:bits<=64)(B:Bks bits bs)(dis:bs.Pairwise fun a b=>eB a<=b.1\/eB b<=a.1)(h64:bs.length<64)
  (h:∀cs,Ptc bits cs->cs.Perm bs->Rl (pD cs)):Zv (.list (pD bs)) Rl:=by
 refine⟨by rw[Qz];exact h64,fun x hx=>?_,fun ts' pm pw=>?_⟩
 ·obtain⟨b,hb',rfl⟩:=List.mem_map.mp hx;have:=B b hb';exact⟨b.1,b.2,rfl,this.1,by have:=this.2.1;lia⟩
 ·have pm':ts'.Perm ((bs.map fun b=>(b,prD b)).map (·.2)):=by
   have:(bs.map fun b=>(b,prD b)).map (·.2)=pD bs:=by simp[pD]
   rw[this];exact pm
  obtain⟨zs,p1,p2⟩:=zfx pm';have ez:∀z∈zs,z.2=prD z.1:=fun z hz=>by
   obtain⟨b,_,rfl⟩:=List.mem_map.mp (p1.mem_iff.mp hz)
   rfl
  have e:ts'=pD (zs.map (·.1)):=by
   rw[<- p2];unfold pD;rw[List.map_map];exact List.map_congr_left fun z hz=>ez z hz
  have pc:(zs.map (·.1)).Perm bs:=by
   have:=p1.map (·.1);rw[List.map_map]at this;have e2:bs.map ((fun x:(Int×Int)×PyData=>x.1)∘fun b=>(b,prD b))=bs:=by
    show bs.map id=bs
    exact List.map_id _
   rwa [e2]at this
  rw[e];have dis':(zs.map (·.1)).Pairwise fun a b=>eB a<=b.1\/eB b<=a.1:=(pc.pairwise_iff (fun {a b} h=>h.symm)).mpr dis
  have B':Bks bits (zs.map (·.1)):=fun b hb=>B b (pc.mem_iff.mp hb)
  rw[e]at pw;unfold pD at pw;rw[List.pairwise_map]at pw;refine h _ ⟨B',?_⟩ pc;have both:=List.Pairwise.and dis' pw;refine List.Pairwise.imp_of_mem ?_ both;rintro a b ha hb ⟨h1,h2⟩;have h2:a.1*1000+a.2<=b.1*1000+b.2:=h2;have a0:=(B' a ha).1;have a1:=(B' a ha).2.1;have b0:=(B' b hb).1;have b1:=(B' b hb).2.1;have:=Zc a;have:=Zc b;lia
theorem zqM{tg:DTG}{tt:DTT}{d:DTE}{ρ0:En}{Rl:List PyData->Nat->Prop}(Inv:Nat->List PyData->Nat->Prop):∀(xs:qD) (i:Nat) {acc:qD}{n:Nat},Inv i acc n ->
  (∀(k:Nat) (x:PyData) (acc:qD) (n:Nat) (K:List PyData->Nat->Prop),xs[k]?=some x->Inv (i+k) acc n->(∀acc' n',Inv (i+k+1) acc' n'->K acc' n') ->
   tg x ρ0 fun ρ1=>tt ρ1 n fun b n2=>if b=true then d ρ1 n2 fun t n3=>acc.length<16777216/\K (acc++[t]) n3 else K acc n2) ->
  (∀acc n,Inv (i+xs.length) acc n->Rl acc n)->Qs tg tt d ρ0 xs acc n Rl
 | [],i,acc,n,h0,_,fin=>fin acc n (by simpa using h0)
 | x::xs,i,acc,n,h0,turn,fin=>by
  refine turn 0 x acc n (fun acc n=>Qs tg tt d ρ0 xs acc n Rl) rfl (by simpa using h0) fun acc' n' h'=>?_
  refine zqM Inv xs (i+1) (by simpa using h') (fun k u acc n K e hI hK=>?_) (fun acc n h=>fin acc n ?_)
  ·refine turn (k+1) u acc n K (by simpa using e) ?_ fun acc' n' h'=>hK acc' n' ?_
   ·have:i+(k+1)=i+1+k:=by lia
    rw[this];exact hI
   ·have:i+1+k+1=i+(k+1)+1:=by lia
    rw[this];exact h'
  ·have:i+(x::xs).length=i+1+xs.length:=by simp;lia
   rw[this]at *;exact h
theorem zkG{tg:DTG}{tt:DTT}{d:DTE}{ρ0:En}{Rl:List PyData->Nat->Prop}{xs:qD}{n:Nat}(Inv:Nat->List PyData->Nat->Prop)(h0:Inv 0 [] n)
  (turn:∀(k:Nat) (x:PyData) (acc:qD) (n:Nat) (K:List PyData->Nat->Prop),xs[k]?=some x->Inv k acc n->(∀acc' n',Inv (k+1) acc' n'->K acc' n') ->
   tg x ρ0 fun ρ1=>tt ρ1 n fun b n2=>if b=true then d ρ1 n2 fun t n3=>acc.length<16777216/\K (acc++[t]) n3 else K acc n2)
  (fin:∀acc n,Inv xs.length acc n->Rl acc n):Qs tg tt d ρ0 xs [] n Rl :=
 zqM Inv xs 0 h0 (fun k x acc n K e hI hK=>turn k x acc n K e (by simpa using hI) fun a m h=>hK a m (by simpa using h)) fun acc n h=>fin acc n (by simpa using h)
theorem Uh{α:Type}{cs:List α}{D:α->PyData}{tg:DTG}{tt:DTT}{d:DTE}{ρ0:En}{n:Nat}{Rl:List PyData->Nat->Prop}(F:α->PyData)(hl:cs.length<=16777216)
  (step:∀b∈cs,∀(K:qN) (X:Nat->Prop),K (F b) n->tg (D b) ρ0 fun ρ1=>tt ρ1 n fun c n2=>if c=true then d ρ1 n2 K else X n2) (fin:Rl (cs.map F) n):Qs tg tt d ρ0 (cs.map D) [] n Rl:=by
 refine zkG (fun j acc m=>m=n/\acc=(cs.take j).map F) ⟨rfl,rfl⟩ ?_ ?_
 ·rintro j x acc m K ej ⟨rfl,rfl⟩ hK;rw[List.getElem?_map]at ej;cases eb:cs[j]? with
  | none=>rw[eb]at ej;cases ej
  | some b =>
   rw[eb]at ej;cases ej;obtain⟨hj,e2⟩:=List.getElem?_eq_some_iff.mp eb;refine step b (List.mem_of_getElem? eb) _ _ ⟨?_,hK _ _ ⟨rfl,?_⟩⟩
   ·simp;lia
   ·rw[List.take_succ,eb];simp
 ·rintro acc m ⟨rfl,rfl⟩;rw[List.length_map,List.take_length];exact fin
theorem zsN{bs:List Bool}{R:PyData->Prop}(h:R (.bool (bs.all id))):bAll [.list (bs.map PyData.bool)] R:=⟨bs,rfl,h⟩
theorem Uv{α:Type}{cs:List α}{f:α->Bool}{R:PyData->Prop}(h:R (.bool (cs.all f))):bAll [.list (cs.map fun b=>PyData.bool (f b))] R:=by
 have e:(cs.map fun b=>PyData.bool (f b))=(cs.map f).map PyData.bool:=by simp
 rw[e];refine zsN ?_;have e2:(cs.map f).all id=cs.all f:=by simp[List.all_map,Function.comp_def]
 rw[e2];exact h
theorem zsA{xs:qD}{k:Nat}{x:PyData}{R:PyData->Prop}(e:xs[k]?=some x)(h:R x):oIx (.tuple xs) (.int (k:Int)) R:=by
 have hk:k<xs.length:=by
  rcases Nat.lt_or_ge k xs.length with z|z
  ·exact z
  ·rw[List.getElem?_eq_none z]at e;cases e
 rw[Ys (x:=x)]
 ·exact h
 ·unfold atI ixN;have:((0:Int)<=(k:Int)):=by lia
  have:((k:Int)<(xs.length:Int)):=by lia
  have e2:xs[k]=x:=by rw[List.getElem?_eq_getElem hk]at e;exact Option.some.inj e
  simp[hk,e2]
theorem zpR{xs:qD}{i:Int}{k:Nat}{x:PyData}{R:PyData->Prop}(hi:i=(k:Int))(e:xs[k]?=some x)(h:R x):oIx (.tuple xs) (.int i) R:=by subst hi;exact zsA e h
theorem zn4{bs:qB}:PyData.eqv (.list (pD bs)) (.list [])=bs.isEmpty:=by
 cases bs with
 | nil=>simp[pD,PyData.eqv,PyData.eqvAll]
 | cons b l=>simp[pD,PyData.eqv,PyData.eqvAll]
theorem Ub{many:Int}{n:Nat}{R:qN}(h0:0<many)(h1:many<2 ^ 128)(hn:n<=1000000000000)(h:∀r:Int,0<=r->r<many->R (.int r) (n+1)):Uf [HAND,.int many] n R:=⟨rfl,h0,h1,hn,h⟩
theorem ziU{i h:Int}:J6 (.tuple [.int i,.int h])=true:=by simp[J6,Y6]
theorem Bks.app{bits i h:Int}{bs:qB}(B:Bks bits bs)(C:IsBk bits i h):Bks bits (bs++[(i,h)]):=fun b hb=>by
 rcases List.mem_append.mp hb with z|z
 ·exact B b z
 ·cases List.mem_singleton.mp z;exact C
section
variable{prog:Program}{w:World}{A:Around}{E:qV}{s:Shared}
open HT in
theorem zcU{t sl:Addr}{items:Array Value}{vl vu:Value}{lo hi:Option Int}{Q:qV}(ht:IsTup s.heap t items)(hs:s.heap.IsSliceOf sl vl vu .none)(pl:IsPart vl lo)(pu:IsPart vu hi)
  (hw:HT.sIx items.size 0 lo=0/\HT.sIx items.size items.size hi=items.size) (h:Q (.ref t) s):wpAny (model prog w) A (getItem (.ref t) (.ref sl)) Q E s:=by
 obtain⟨os,hos,hcs,hds⟩:=id hs;have hTs:s.TypeIs (.ref sl) "slice":=⟨os,hos,hcs⟩;unfold getItem
 try with_reducible refine wpAny_holding ?_
 first|refine wpAny_bind (wpAny_pure ?_)|skip
 refine wpAny_bind (wpAny_sequenceKey ht.typeIs (by decide) ?_)
 refine wpAny_bind (wpAny_callSpecial?_slot (name:=Str.ofString "__getitem__") ht.typeIs PyProof.Rows.slot_tuple_getitem
  (wpAny_call_entry PyProof.Rows.slot_tuple_getitem ht.typeIs entry_tuple_getitem ?_ (args_tuple_getitem _ _)))
 show wpAny _ _ (Builtin.Tuple.tupleItemsOf (.ref t) >>= _) _ _ s
 refine wpAny_bind (tupleItemsOf_ ht ?_);refine wpAny_bind (wpAny_typeOf hTs ?_);rw[if_pos (by decide)]
 refine wpAny_bind (HT.zcm hs pl pu ?_);have hyes:(((HT.sIx items.size 0 lo:Nat):Int) == 0&&(1:Int) == 1&&(HT.sIx items.size items.size hi - HT.sIx items.size 0 lo) == items.size)=true:=by
  rw[hw.1,hw.2];simp
 show wpAny _ _ (if (((HT.sIx items.size 0 lo:Nat):Int) == 0&&(1:Int) == 1&&(HT.sIx items.size items.size hi - HT.sIx items.size 0 lo) == items.size)=true then _ else _) _ _ s
 rw[if_pos hyes];unfold Builtin.Tuple.tupleIsExact;refine wpAny_bind (wpAny_bind (wpAny_typeOf ht.typeIs (wpAny_pure ?_)));rw[if_pos (by decide)]
 exact wpAny_bind (wpAny_rule (wpAny_pure ⟨_,rfl,wpAny_pure h⟩))
end
section
variable{X:Cx}
def rSlW(K:qF):V->Option Int->Option Int->Hp->VK->Prop:=fun x lo hi H Q=>∃a xs,x=.ref a/\SqT K H a xs/\(HT.sIx xs.length 0 lo=0/\HT.sIx xs.length xs.length hi=xs.length)/\Q (.ref a) H
theorem zmY:SlR X (rSlW X.K):=by
 intro pins s σ H x v vl vu lo hi sl Q I rx hs pl pu h;obtain⟨a,xs,rfl,hx,hw,q⟩:=h;cases rx;obtain⟨its,r,ht,hz⟩:=I.tuple hx;have hlen:its.toArray.size=xs.length:=by rw[List.size_toArray];exact r.length.symm
 refine⟨"tuple",_,PyProof.Rows.slot_tuple_getitem.lookup,ht.typeIs,?_⟩;exact zcU ht hs pl pu (by rw[hlen];exact hw) ⟨.ref a,H,I,rfl,q⟩
end
abbrev DTO:=En->Nat->(Option Int->Nat->Prop)->Prop
def DP(X:Cx)(e:Option Expr)(d:DTO):Prop:=∃t,PO X e t/\∀(C:Ctx) (ρ:En) (σ:St) (H:Hp) (n:Nat) (Q:Option Int->Hp->Prop) (R:Option Int->Nat->Prop),Stt X.K C ρ σ H n->d ρ n R ->
 (∀o n' H',R o n'->ExtE C.hd H H'->Hn C.hd H' n'->Q o H')->t σ H Q
def zhQ:DTO:=fun ρ n R=>R none n
def zoa(d:DTE):DTO:=fun ρ n R=>d ρ n fun t n'=>lInt t fun i=>R (some i) n'
def cutD(ts:qD)(lo hi:Option Int):List PyData:=(ts.drop (HT.sIx ts.length 0 lo)).take (HT.sIx ts.length ts.length hi - HT.sIx ts.length 0 lo)
def lSl(t:PyData)(lo hi:Option Int)(R:List PyData->Prop):Prop:=match t with
 | .list ts=>R (cutD ts lo hi)
 | _=>False
def dSlL(d:DTE)(dl du:DTO):DTA:=fun ρ n R=>d ρ n fun t n1=>dl ρ n1 fun lo n2=>du ρ n2 fun hi n3=>lSl t lo hi fun z=>R z n3
section
variable{X:Cx}{e:Expr}{d:DTE}{lo hi:Option Expr}{dlo dhi:DTO}{pos p2:Pos}
theorem Qc:DP X none zhQ:=⟨_,znc,fun C ρ σ H n Q R S h hq=>hq none n H h ExtE.refl S.hnd⟩
theorem J4(h:DE X e d):DP X (some e) (zoa d):=by
 obtain⟨ta,pa,h⟩:=h;refine⟨_,znb pa,fun C ρ σ H n Q R S hd hq=>?_⟩
 refine h C ρ σ H n _ _ S hd fun t n1 v H1 r1 e1 h1 q1=>?_
 cases t with
 | int i =>
  cases q1;exact⟨i,rfl,hq (some i) n1 H1 r1 e1 h1⟩
 | _=>exact r1.elim
theorem zir{K:qF}{hd:Option Addr}{O:Addr->Prop}{H:Hp}{vs ts}(r:Reps K hd O H vs ts)(lo hi:Option Int):Reps K hd O H (cutV vs lo hi) (cutD ts lo hi):=by
 unfold cutV cutD;rw[r.length];exact(r.drop _).take _
theorem zi4{ts:qD}{lo hi:Option Int}(h:HT.sIx ts.length 0 lo=0/\HT.sIx ts.length ts.length hi=ts.length):cutD ts lo hi=ts:=by
 unfold cutD;rw[h.1,h.2];simp
theorem zmd(h:DL X e d)(hl:DP X lo dlo)(hu:DP X hi dhi):DN X (.Subscript e (.Slice lo hi none p2) pos) (dSlL d dlo dhi):=by
 obtain⟨ta,pa,h⟩:=h;obtain⟨tl,pl,hl⟩:=hl;obtain⟨tu,pu,hu⟩:=hu;refine⟨_,zh5 zmZ pa pl pu,fun C ρ σ H n Q R S hd hq=>?_⟩
 refine h C ρ σ H n _ _ S hd fun t n1 v H1 r1 e1 h1 q1=>?_
 have S1:=S.on e1 h1;refine hl C ρ σ H1 n1 _ _ S1 r1 fun lo n2 H2 r2 e2 h2=>?_
 have S2:=S1.on e2 h2;refine hu C ρ σ H2 n2 _ _ S2 r2 fun hi n3 H3 r3 e3 h3=>?_
 have S3:=S2.on e3 h3;have q3:=(e2.trans e3).repT S.hx q1;cases t with
 | list ts =>
  obtain⟨a,vs,rfl,hs,rs⟩:=q3.lstI;refine⟨a,vs,rfl,.of hs,fun p hp=>?_⟩
  have e:=e1.trans (e2.trans e3);refine hq _ n3 p _ _ r3 (e.trans (ExtE.new hp)) (h3.same (JU hp)) (zhM e h3 hp) J1 ?_;refine(zir rs lo hi).mono (fun b o hb z=>z.elim id fun z=>?_) fun b o _ hb=>JU hp b o hb
  subst z;rw[hp]at hb;cases hb
 | _=>exact r3.elim
end
structure NxS(prog:Program)(w:World)(i a:Addr)(IT:Nat->Heap->Prop)(SQ:Heap->Array Value->Prop):Prop where
 rcd:∀k h,IT k h->∃o,h.get? i=some o/\∀v,o.data≠.cell v
 keep:∀k h h',IT k h->(∀o,h.get? i=some o->h'.get? i=some o)->IT k h'
 sk:∀h h' xs,SQ h xs->(∀o,h.get? a=some o->h'.get? a=some o)->SQ h' xs
 item:∀(A:Around) (E:qV) (k:Nat) (xs:Array Value) (x:Value) (s:Shared) (Q:qV),IT k s.heap->SQ s.heap xs->xs[k]?=some x ->
  (∀h',IT (k+1) h'->Heap.SameBut i s.heap h'->Q x { s with heap:=h' })->wpAny (model prog w) A (Builtin.SmallTypes.nextOf (.ref i)) Q E s
 done:∀(A:Around) (E:qV) (k:Nat) (xs:Array Value) (s:Shared) (Q:qV),A.handled=none->IT k s.heap->SQ s.heap xs->xs[k]?=none ->
  (∀h' e,Heap.ExtBut i s.heap h'->(∃o,h'.get? e=some o/\o.cls=.type "StopIteration")->E (.ref e) { s with heap:=h' })->wpAny (model prog w) A (Builtin.SmallTypes.nextOf (.ref i)) Q E s
theorem znx{prog:Program}{w:World}{i a:Addr}:NxS prog w i a (fun k h=>h.IsListIter i a k) (fun h xs=>h.IsList a xs) where
 rcd:=fun k h ⟨o,e,c,d⟩=>⟨o,e,fun v z=>by rw[d]at z;cases z⟩
 keep:=fun k h h' x f=>x.at f
 sk:=fun h h' xs x f=>x.at f
 item:=fun A E k xs x s Q h1 h2 h3 h=>wpAny_nextOf_list_item h1 h2 h3 h
 done:=fun A E k xs s Q hh h1 h2 h3 h=>wpAny_nextOf_list_end hh h1 h2 h3 h
section
variable{prog:Program}{w:World}{A:Around}{E:qV}{s:Shared}
theorem zgp{i:Addr}{T id:String}{Q:qV}{f:Builtin}(hT:s.TypeIs (.ref i) T)(sl:Slot T "__next__" id) (en:entryFor table id=some f) (ao:argsOk id ⟨[.ref i],[]⟩)
  (h:wpAny (model prog w) A.in1 (f ⟨[.ref i],[]⟩) (fun fin s'=>∃v,fin=.done (.ret v)/\Q v s') E s):wpAny (model prog w) A (Builtin.SmallTypes.nextOf (.ref i)) Q E s:=by
 unfold Builtin.SmallTypes.nextOf;refine wpAny_bind (wpAny_callSpecial?_slot (name:=Str.ofString "__next__") hT sl (wpAny_call_entry sl hT en ?_ ao));refine wpAny_mono h (fun fin s' hq=>?_) fun _ _ e=>e
 obtain⟨v,e,q⟩:=hq;exact⟨v,e,wpAny_pure q⟩
theorem zfY{i a:Addr}{k:Nat}{xs:Array Value}{x:Value}{Q:qV}(h1:s.heap.IsTupleIter i a k)(h2:s.heap.IsTuple a xs)(h3:xs[k]?=some x)
  (h:∀h',h'.IsTupleIter i a (k+1)->Heap.SameBut i s.heap h'->Q x { s with heap:=h' }):wpAny (model prog w) A (Builtin.SmallTypes.nextOf (.ref i)) Q E s:=by
 refine zgp h1.typeIs F.slot_tuple_iterator_next F.entry_tuple_iterator_next (F.args_tuple_iterator_next_1 _) ?_;obtain⟨o,e1,e2,e3⟩:=h1;obtain⟨p,f1,_,n,f3⟩:=h2;refine wpAny_bind (m:=field (.ref i) 0) (wpAny_field e1 e3 (x:=.ref a) rfl ?_);have ne:¬((Value.ref a == Value.none)=true):=fun z=>by cases z
 rw[if_neg ne];refine wpAny_bind (m:=field (.ref i) 1) (wpAny_field e1 e3 (x:=.int k 0) rfl ?_);refine wpAny_bind (m:=seqItems? (.ref a)) (wpAny_seqItems f1 f3 ?_);simp only[Int.toNat_natCast,h3];refine wpAny_bind (wpAny_setField e1 e3 (by simp) (wpAny_pure ⟨x,rfl,h _ ?_ (Heap.SameBut.update ..)⟩))
 refine⟨_,Heap.get?_update_self _ e1 (Obj.isFreed_of_fields (Obj.data_mapFields e3 _)),?_,?_⟩
 ·rw[Obj.cls_mapFields];exact e2
 ·rw[Obj.data_mapFields e3];simp[rawInt]
theorem zfZ{i a:Addr}{k:Nat}{xs:Array Value}{Q:qV}(hh:A.handled=none)(h1:s.heap.IsTupleIter i a k)(h2:s.heap.IsTuple a xs)(h3:xs[k]?=none)
  (h:∀h' e,Heap.ExtBut i s.heap h'->(∃o,h'.get? e=some o/\o.cls=.type "StopIteration")->E (.ref e) { s with heap:=h' }):wpAny (model prog w) A (Builtin.SmallTypes.nextOf (.ref i)) Q E s:=by
 refine zgp h1.typeIs F.slot_tuple_iterator_next F.entry_tuple_iterator_next (F.args_tuple_iterator_next_1 _) ?_;obtain⟨o,e1,e2,e3⟩:=h1;obtain⟨p,f1,_,n,f3⟩:=h2;refine wpAny_bind (m:=field (.ref i) 0) (wpAny_field e1 e3 (x:=.ref a) rfl ?_);have ne:¬((Value.ref a == Value.none)=true):=fun z=>by cases z
 rw[if_neg ne];refine wpAny_bind (m:=field (.ref i) 1) (wpAny_field e1 e3 (x:=.int k 0) rfl ?_);refine wpAny_bind (m:=seqItems? (.ref a)) (wpAny_seqItems f1 f3 ?_);simp only[Int.toNat_natCast,h3];refine wpAny_bind (wpAny_rule (wpAny_bind (wpAny_setField e1 e3 (by simp) ?_)))
 refine wpAny_bind (m:=newExc (.type "StopIteration") []) ?_;simp only[newExc,newTuple];refine wpAny_bind (wpAny_newObj_type ?_ (by size_fits))
 refine wpAny_bind (m:=firstArgMember _ _) (wpAny_of_eq (a:=Value.none) (by first|rfl|(simp only[firstArgMember];rfl)) (wpAny_newObj_type ?_ (by size_fits)))
 simp only[raiseNew];refine wpAny_bind (wpAny_handled ?_);have hh1:A.in1.handled=none:=hh
 first|rw[hh1]|rw[hh]
 exact wpAny_bind (wpAny_pure (wpAny_throw (h _ _ (((Heap.SameBut.update ..).extBut.push _).push _) ⟨_,Heap.get?_push_size _ rfl,rfl⟩)))
end
theorem Heap.IsTupleIter.at'{h h':Heap}{i a:Addr}{k:Nat}(x:h.IsTupleIter i a k)(f:∀o,h.get? i=some o->h'.get? i=some o):h'.IsTupleIter i a k:=by
 obtain⟨o,e,r⟩:=x;exact⟨o,f o e,r⟩
theorem Heap.IsTuple.at'{h h':Heap}{a:Addr}{xs:Array Value}(x:h.IsTuple a xs)(f:∀o,h.get? a=some o->h'.get? a=some o):h'.IsTuple a xs:=by
 obtain⟨o,e,r⟩:=x;exact⟨o,f o e,r⟩
theorem zj2{prog:Program}{w:World}{i a:Addr}:NxS prog w i a (fun k h=>h.IsTupleIter i a k) (fun h xs=>h.IsTuple a xs) where
 rcd:=fun k h ⟨o,e,c,d⟩=>⟨o,e,fun v z=>by rw[d]at z;cases z⟩
 keep:=fun k h h' x f=>Heap.IsTupleIter.at' x f
 sk:=fun h h' xs x f=>Heap.IsTuple.at' x f
 item:=fun A E k xs x s Q h1 h2 h3 h=>zfY h1 h2 h3 h
 done:=fun A E k xs s Q hh h1 h2 h3 h=>zfZ hh h1 h2 h3 h
structure ZAp(z TI TO i1 i2 a1 a2:Addr):Prop where
 p:[z,TI,TO,i1,i2].Nodup
 q:∀a∈[a1,a2],a∉[z,TI,TO,i1,i2]
section
variable{prog:Program}{w:World}{A:Around}{E:qV}{s:Shared}{z TI TO i1 i2 a1 a2:Addr}{I1 I2:Nat->Heap->Prop}{S1 S2:Heap->Array Value->Prop}
structure ZSt(z TI TO i1 i2:Addr)(I1 I2:Nat->Heap->Prop)(f:Value)(k:Nat)(h:Heap):Prop where
 zip:IsZip h z TI TO f
 ti:IsPair h TI (.ref i1) (.ref i2)
 to:∃a b,IsPair h TO a b
 it1:I1 k h
 it2:I2 k h
theorem zjc(D:ZAp z TI TO i1 i2 a1 a2):(z≠TI/\z≠TO/\z≠i1/\z≠i2/\TI≠TO/\TI≠i1/\TI≠i2/\TO≠i1/\TO≠i2/\i1≠i2)/\(a1≠z/\a1≠TO/\a1≠i1/\a1≠i2)/\(a2≠z/\a2≠TO/\a2≠i1/\a2≠i2):=by
 have h1:=D.p;have h2:=D.q;simp only[List.nodup_cons,List.mem_cons,List.not_mem_nil,or_false,not_or,List.nodup_nil,and_true,not_false_eq_true]at h1;have q1:=h2 a1 (by simp)
 have q2:=h2 a2 (by simp)
 simp only[List.mem_cons,List.not_mem_nil,or_false,not_or]at q1 q2;exact⟨⟨h1.1.1,h1.1.2.1,h1.1.2.2.1,h1.1.2.2.2,h1.2.1.1,h1.2.1.2.1,h1.2.1.2.2,h1.2.2.1.1,h1.2.2.1.2,h1.2.2.2⟩,⟨q1.1,q1.2.2.1,q1.2.2.2.1,q1.2.2.2.2⟩,⟨q2.1,q2.2.2.1,q2.2.2.2.1,q2.2.2.2.2⟩⟩
theorem z_item{k:Nat}{xs ys:Array Value}{x y:Value}{Q:qV}(D:ZAp z TI TO i1 i2 a1 a2)(N1:NxS prog w i1 a1 I1 S1)(N2:NxS prog w i2 a2 I2 S2)(st:ZSt z TI TO i1 i2 I1 I2 .none k s.heap)(s1:S1 s.heap xs)(s2:S2 s.heap ys)
  (hx:xs[k]?=some x) (hy:ys[k]?=some y)
  (hQ:∀h',ZSt z TI TO i1 i2 I1 I2 (rawInt s.heap.objs.size) (k+1) h'->IsPair h' s.heap.objs.size x y->h'.objs.size=s.heap.objs.size+1 ->
   (∀c o,c≠z->c≠TO->c≠i1->c≠i2->s.heap.get? c=some o->h'.get? c=some o)->Q (.ref s.heap.objs.size) { s with heap:=h' }) :
  wpAny (model prog w) A (Builtin.«zip.__next__» ⟨[.ref z],[]⟩) (fun fin s'=>∃v,fin=.done (.ret v)/\Q v s') E s:=by
 obtain⟨⟨d1,d2,d3,d4,d5,d6,d7,d8,d9,d10⟩,⟨e1,e2,e3,e4⟩,⟨g1,g2,g3,g4⟩⟩:=zjc D;obtain⟨zip,ti,⟨va,vb,to⟩,it1,it2⟩:=st;refine wpAny_bind (m:=field (.ref z) 2) (wpAny_field zip rfl (x:=.bool false) rfl ?_);refine wpAny_bind (m:=field (.ref z) 3) (wpAny_field zip rfl (x:=.ref TI) rfl (wpAny_bind (wpAny_seqItems ti rfl ?_)));refine wpAny_bind (m:=Builtin.SmallTypes.ownedTupleIsFree (.ref z)) ?_;unfold Builtin.SmallTypes.ownedTupleIsFree
 refine wpAny_bind (wpAny_field zip rfl (x:=.none) rfl (wpAny_pure ?_));simp only[if_true];refine wpAny_bind (wpAny_rule (wpAny_bind (wpAny_field zip rfl (x:=.ref TO) rfl (wpAny_bind (wpAny_setField_rec zip (by simp) fun hA zA bA=>?_)))))
 have zA':IsZip hA z TI TO .ellipsis:=zA;refine wpAny_bind ?_;simp only[List.zipIdx_cons,List.zipIdx_nil,List.forIn_cons,List.forIn_nil];refine wpAny_bind (wpAny_bind (wpAny_onRaise (wpAny_bind (m:=Builtin.SmallTypes.nextOf (.ref i1)) ?_)));refine N1.item _ _ k xs x _ _ (N1.keep _ _ _ it1 fun o e=>bA.extBut _ _ d3.symm e) (N1.sk _ _ _ s1 fun o e=>bA.extBut _ _ e1 e) hx fun hB it1B bB=>wpAny_pure ?_
 have toB:IsPair hB TO va vb:=bB.extBut _ _ d8 (bA.extBut _ _ d2.symm to);refine wpAny_bind (wpAny_seqItems toB rfl (wpAny_bind (wpAny_updateSeq_pair toB fun hC toC bC=>?_)))
 have toC':IsPair hC TO x vb:=toC;refine wpAny_bind (wpAny_letGo (wpAny_pure ?_));refine wpAny_bind (wpAny_bind (wpAny_onRaise (wpAny_bind (m:=Builtin.SmallTypes.nextOf (.ref i2)) ?_)));have up2:∀c o,c≠z->c≠TO->c≠i1->s.heap.get? c=some o->hC.get? c=some o:=fun c o c1 c2 c3 e=>bC.extBut _ _ c2 (bB.extBut _ _ c3 (bA.extBut _ _ c1 e))
 refine N2.item _ _ k ys y _ _ (N2.keep _ _ _ it2 fun o e=>up2 _ _ d4.symm d9.symm d10.symm e) (N2.sk _ _ _ s2 fun o e=>up2 _ _ g1 g2 g3 e) hy fun hD it2D bD=>wpAny_pure ?_
 have toD:IsPair hD TO x vb:=bD.extBut _ _ d9 toC';refine wpAny_bind (wpAny_seqItems toD rfl (wpAny_bind (wpAny_updateSeq_pair toD fun hF toF bF=>?_)))
 have toF':IsPair hF TO x y:=toF;refine wpAny_bind (wpAny_letGo (wpAny_pure (wpAny_pure ?_)));refine wpAny_bind (wpAny_seqItems toF' rfl (wpAny_bind (wpAny_newTuple ?_)));have sz:hF.objs.size=s.heap.objs.size:=by rw[bF.1,bD.1,bC.1,bB.1,bA.1]
 have upF:∀c o,c≠z->c≠TO->c≠i1->c≠i2->s.heap.get? c=some o->hF.get? c=some o:=fun c o c1 c2 c3 c4 e=>bF.extBut _ _ c2 (bD.extBut _ _ c4 (up2 c o c1 c2 c3 e))
 have zF:IsZip hF z TI TO .ellipsis:=bF.extBut _ _ d2 (bD.extBut _ _ d4 (bC.extBut _ _ d2 (bB.extBut _ _ d3 zA')));have zlt:z<hF.objs.size:=Heap.lt_size zF;refine wpAny_bind (m:=Builtin.SmallTypes.ownedTupleHandOut (.ref z) (.ref hF.objs.size)) ?_;unfold Builtin.SmallTypes.ownedTupleHandOut;have zG:IsZip (hF.push { cls:=.type "tuple",data:=.seq #[x,y] }) z TI TO .ellipsis:=Heap.get?_push_of_some _ zF
 refine wpAny_bind (wpAny_setField_rec zG (by simp) fun hI zI bI=>?_)
 have zI':IsZip hI z TI TO (rawInt hF.objs.size):=zI;refine wpAny_setField_rec zI' (by simp) fun hJ zJ bJ=>wpAny_pure ⟨_,rfl,?_⟩
 have zJ':IsZip hJ z TI TO (rawInt hF.objs.size):=zJ;have up:∀c o,c≠z->hF.get? c=some o->hJ.get? c=some o:=fun c o c1 e=>bJ.extBut _ _ c1 (bI.extBut _ _ c1 (Heap.get?_push_of_some _ e))
 have pr:IsPair hJ hF.objs.size x y:=bJ.extBut _ _ (Nat.ne_of_gt zlt) (bI.extBut _ _ (Nat.ne_of_gt zlt) (Heap.get?_push_size _ rfl));have szJ:hJ.objs.size=hF.objs.size+1:=by rw[bJ.1,bI.1,Heap.size_push]
 rw[sz]at zJ' pr szJ;show Q (.ref hF.objs.size) _
 rw[sz];refine hQ hJ ⟨zJ',up _ _ d1.symm (upF _ _ d1.symm d5 d6 d7 ti),⟨x,y,up _ _ d2.symm toF'⟩,?_,?_⟩ pr szJ fun c o c1 c2 c3 c4 e=>up c o c1 (upF c o c1 c2 c3 c4 e)
 ·exact N1.keep _ _ _ it1B fun o e=>up _ _ d3.symm (bF.extBut _ _ d8.symm (bD.extBut _ _ d10 (bC.extBut _ _ d8.symm e)))
 ·exact N2.keep _ _ _ it2D fun o e=>up _ _ d4.symm (bF.extBut _ _ d9.symm e)
theorem z_end{k:Nat}{xs ys:Array Value}{Q:PySem.Fin->Shared->Prop}(hh:A.handled=none)(D:ZAp z TI TO i1 i2 a1 a2)(N1:NxS prog w i1 a1 I1 S1)(N2:NxS prog w i2 a2 I2 S2)(st:ZSt z TI TO i1 i2 I1 I2 .none k s.heap)(s1:S1 s.heap xs)(s2:S2 s.heap ys)
  (hxy:xs[k]?=none\/ys[k]?=none)
  (hE:∀h' e,(∀c o,c≠z->c≠TO->c≠i1->c≠i2->s.heap.get? c=some o->h'.get? c=some o)->(∃o,h'.get? e=some o/\o.cls=.type "StopIteration")->E (.ref e) { s with heap:=h' }) :
  wpAny (model prog w) A (Builtin.«zip.__next__» ⟨[.ref z],[]⟩) Q E s:=by
 obtain⟨⟨d1,d2,d3,d4,d5,d6,d7,d8,d9,d10⟩,⟨e1,e2,e3,e4⟩,⟨g1,g2,g3,g4⟩⟩:=zjc D;obtain⟨zip,ti,⟨va,vb,to⟩,it1,it2⟩:=st;refine wpAny_bind (m:=field (.ref z) 2) (wpAny_field zip rfl (x:=.bool false) rfl ?_);refine wpAny_bind (m:=field (.ref z) 3) (wpAny_field zip rfl (x:=.ref TI) rfl (wpAny_bind (wpAny_seqItems ti rfl ?_)));refine wpAny_bind (m:=Builtin.SmallTypes.ownedTupleIsFree (.ref z)) ?_;unfold Builtin.SmallTypes.ownedTupleIsFree
 refine wpAny_bind (wpAny_field zip rfl (x:=.none) rfl (wpAny_pure ?_));simp only[if_true];refine wpAny_bind (wpAny_rule (wpAny_bind (wpAny_field zip rfl (x:=.ref TO) rfl (wpAny_bind (wpAny_setField_rec zip (by simp) fun hA zA bA=>?_)))))
 have zA':IsZip hA z TI TO .ellipsis:=zA;refine wpAny_bind ?_;simp only[List.zipIdx_cons,List.zipIdx_nil,List.forIn_cons,List.forIn_nil];refine wpAny_bind (wpAny_bind (wpAny_onRaise (wpAny_bind (m:=Builtin.SmallTypes.nextOf (.ref i1)) ?_)));have a1':=N1.keep _ _ _ it1 fun o e=>bA.extBut _ _ d3.symm e
 have a2':=N1.sk _ _ _ s1 fun o e=>bA.extBut _ _ e1 e
 cases hx:xs[k]? with
 | none =>
  refine N1.done _ _ k xs _ _ hh a1' a2' hx fun hB e bB ⟨oe,he,hc⟩=>?_
  have zB:IsZip hB z TI TO .ellipsis:=bB _ _ d3 zA';have ez:e≠z:=fun y=>by subst y;rw[zB]at he;cases he;simp at hc
  exact wpAny_setField_rec zB (by simp) fun hC _ bC=>hE hC e (fun c o c1 _ c3 _ y=>bC.extBut _ _ c1 (bB _ _ c3 (bA.extBut _ _ c1 y))) ⟨oe,bC.extBut _ _ ez he,hc⟩
 | some x =>
  have hy:ys[k]?=none:=by rcases hxy with h|h;rw[hx]at h;cases h;exact h
  refine N1.item _ _ k xs x _ _ a1' a2' hx fun hB it1B bB=>wpAny_pure ?_
  have toB:IsPair hB TO va vb:=bB.extBut _ _ d8 (bA.extBut _ _ d2.symm to);refine wpAny_bind (wpAny_seqItems toB rfl (wpAny_bind (wpAny_updateSeq_pair toB fun hC toC bC=>?_)))
  refine wpAny_bind (wpAny_letGo (wpAny_pure ?_));refine wpAny_bind (wpAny_bind (wpAny_onRaise (wpAny_bind (m:=Builtin.SmallTypes.nextOf (.ref i2)) ?_)));have up2:∀c o,c≠z->c≠TO->c≠i1->s.heap.get? c=some o->hC.get? c=some o:=fun c o c1 c2 c3 e=>bC.extBut _ _ c2 (bB.extBut _ _ c3 (bA.extBut _ _ c1 e))
  refine N2.done _ _ k ys _ _ hh (N2.keep _ _ _ it2 fun o e=>up2 _ _ d4.symm d9.symm d10.symm e) (N2.sk _ _ _ s2 fun o e=>up2 _ _ g1 g2 g3 e) hy fun hD e bD ⟨oe,he,hc⟩=>?_
  have zD:IsZip hD z TI TO .ellipsis:=bD _ _ d4 (bC.extBut _ _ d2 (bB.extBut _ _ d3 zA'));have ez:e≠z:=fun y=>by subst y;rw[zD]at he;cases he;simp at hc
  exact wpAny_setField_rec zD (by simp) fun hF _ bF=>hE hF e (fun c o c1 c2 c3 c4 y=>bF.extBut _ _ c1 (bD _ _ c4 (up2 c o c1 c2 c3 y))) ⟨oe,bF.extBut _ _ ez he,hc⟩
theorem zow{k:Nat}{xs ys:Array Value}{x y:Value}{Q:Option Value->Shared->Prop}(D:ZAp z TI TO i1 i2 a1 a2)(N1:NxS prog w i1 a1 I1 S1)(N2:NxS prog w i2 a2 I2 S2)(st:ZSt z TI TO i1 i2 I1 I2 .none k s.heap)(s1:S1 s.heap xs)(s2:S2 s.heap ys)
  (hx:xs[k]?=some x) (hy:ys[k]?=some y)
  (hQ:∀h',ZSt z TI TO i1 i2 I1 I2 (rawInt s.heap.objs.size) (k+1) h'->IsPair h' s.heap.objs.size x y->h'.objs.size=s.heap.objs.size+1 ->
   (∀c o,c≠z->c≠TO->c≠i1->c≠i2->s.heap.get? c=some o->h'.get? c=some o)->Q (some (.ref s.heap.objs.size)) { s with heap:=h' }) :
  wpAny (model prog w) A (pyNext (.ref z)) Q E s:=by
 have hT:s.TypeIs (.ref z) "zip":=⟨_,st.zip,rfl⟩;unfold pyNext;exact wpAny_bind (wpAny_attempt (wpAny_callSpecial?_slot (name:=Str.ofString "__next__") hT F.slot_zip_next (wpAny_call_entry F.slot_zip_next hT F.entry_zip_next
  (z_item D N1 N2 st s1 s2 hx hy fun h' b1 b2 b3 b4=>wpAny_pure (hQ h' b1 b2 b3 b4)) (F.args_zip_next_1 _))))
theorem zov{k:Nat}{xs ys:Array Value}{Q:Option Value->Shared->Prop}(hh:A.handled=none)(D:ZAp z TI TO i1 i2 a1 a2)(N1:NxS prog w i1 a1 I1 S1)(N2:NxS prog w i2 a2 I2 S2)(st:ZSt z TI TO i1 i2 I1 I2 .none k s.heap)(s1:S1 s.heap xs)(s2:S2 s.heap ys)
  (hxy:xs[k]?=none\/ys[k]?=none) (hQ:∀h',(∀c o,c≠z->c≠TO->c≠i1->c≠i2->s.heap.get? c=some o->h'.get? c=some o)->Q none { s with heap:=h' }):wpAny (model prog w) A (pyNext (.ref z)) Q E s:=by
 have hT:s.TypeIs (.ref z) "zip":=⟨_,st.zip,rfl⟩;unfold pyNext;refine wpAny_bind (wpAny_attempt (wpAny_callSpecial?_slot (name:=Str.ofString "__next__") hT F.slot_zip_next (wpAny_call_entry F.slot_zip_next hT F.entry_zip_next
  (z_end hh D N1 N2 st s1 s2 hxy fun h' e hk ⟨o,ho,hc⟩=>?_) (F.args_zip_next_1 _))))
 exact wpAny_bind (wpAny_isInstance (T:="StopIteration") (b:=true) ⟨o,ho,hc⟩ isSubtype_stop (wpAny_pure (hQ _ hk)))
end
def SqB(t:Bool)(K:qF)(H:Hp)(a:Addr)(xs:List V):Prop:=match t with|true=>SqT K H a xs|false=>SqL K H a xs
def ITB(t:Bool)(i a:Addr):Nat->Heap->Prop:=match t with|true=>fun k h=>h.IsTupleIter i a k|false=>fun k h=>h.IsListIter i a k
def SQB(t:Bool)(a:Addr):Heap->Array Value->Prop:=match t with|true=>fun h xs=>h.IsTuple a xs|false=>fun h xs=>h.IsList a xs
def itN(t:Bool):String:=match t with|true=>"tuple_iterator" | false=>"list_iterator"
theorem nx_B{prog:Program}{w:World}{i a:Addr}(t:Bool):NxS prog w i a (ITB t i a) (SQB t a):=by
 cases t
 ·exact znx
 ·exact zj2
section
variable{X:Cx}{pins:qO}{σ:St}{H:Hp}{s:Shared}
theorem Inv.seqB{t:Bool}{a:Addr}{xs:List V}(I:Inv X pins σ H s)(h:SqB t X.K H a xs):∃its:List Value,Vals xs its/\SQB t a s.heap its.toArray/\xs.length<=sizeLine:=by
 cases t
 ·obtain⟨its,r,p,z⟩:=I.list h;exact⟨its,r,p.isList,z⟩
 ·obtain⟨its,r,p,z⟩:=I.tuple h;exact⟨its,r,p,z⟩
theorem Inv.injB{t:Bool}{a:Addr}{xs ys:List V}(I:Inv X pins σ H s)(h:SqB t X.K H a xs)(h':SqB t X.K H a ys):xs=ys:=by
 cases t
 ·exact I.list_inj h h'
 ·exact I.tuple_inj h h'
theorem Inv.turnedL{h':Heap}{t':Nat}(ch:List Addr)(I:Inv X pins σ H s)(k:∀b o,b∉ch->s.heap.get? b=some o->h'.get? b=some o)(f:∀b∈ch,FpOk X pins H b):Inv X pins σ H { s with heap:=h',toks:=t' }:=by
 have nch:∀b u,H b=some u->b∉ch:=fun b u e z=>by rw[(f b z).1]at e;cases e
 refine I.step (g':=s.gens) (d':=s.drawn) (ch:=ch) (fun b hb=>⟨(f b hb).2.2.2.1,(f b hb).2.1,(f b hb).2.2.2.2.1,(f b hb).2.2.2.2.2⟩) (fun b o _ _ hc e _=>k b o hc e) (fun b o _ _ hc e _=>⟨o.slots,k b o hc e⟩) (fun _ _ _ _ n=>n) (fun b o hc e=>⟨o,k b o hc e⟩) (fun _ _ e=>e) (fun _ _ _ e=>e)
  (fun b ps e=>⟨#[],by rw[e];simp⟩) (fun m ⟨o,es,ep,ho,r⟩=>⟨o,es,ep,k _ o (fun z=>(f _ z).2.1 rfl) ho,r⟩) (fun b u e=>(I.hok b u e).stay (fun c v hc q=>k c v ?_ q) (fun _ q=>q) fun _ _ q=>q) I.bare
 rcases hc with z|z
 ·rw[z];exact nch b u e
 ·exact nch c _ z
end
section
variable{prog:Program}{w:World}{A:Around}{E:qV}{s:Shared}
theorem zp0{t:Bool}{a:Addr}{xs:Array Value}{Q:qV}(h:SQB t a s.heap xs)(hQ:Q (.ref s.heap.objs.size) { s with heap:=s.heap.push { cls:=.type (itN t),data:=.fields #[.ref a,.int 0 0] } }):wpAny (model prog w) A (pyIter (.ref a)) Q E s:=by
 cases t
 ·exact wpAny_pyIter_list h hQ
 ·exact wpAny_pyIter_tuple h hQ
theorem SQB.push{t:Bool}{a:Addr}{xs:Array Value}{h:Heap}(x:SQB t a h xs)(o:Obj):SQB t a (h.push o) xs:=by
 cases t
 ·exact Heap.IsList.push x o
 ·exact Heap.IsTuple.push x o
abbrev zA(h:Heap)(t:Bool)(a:Addr):Heap:=h.push { cls:=.type (itN t),data:=.fields #[.ref a,.int 0 0] }
abbrev zB(h:Heap)(t u:Bool)(a b:Addr):Heap:=(zA h t a).push { cls:=.type (itN u),data:=.fields #[.ref b,.int 0 0] }
abbrev zC(h:Heap)(t u:Bool)(a b:Addr):Heap:=(zB h t u a b).push { cls:=.type "tuple",data:=.seq #[.ref h.objs.size,.ref (zA h t a).objs.size] }
abbrev zD(h:Heap)(t u:Bool)(a b:Addr):Heap:=(zC h t u a b).push { cls:=.type "tuple",data:=.seq #[.none,.none] }
abbrev zE(h:Heap)(t u:Bool)(a b:Addr):Heap:=(zD h t u a b).push { cls:=.type "zip",data:=.fields #[.none,.bool false,.bool false,.ref (zB h t u a b).objs.size,.ref (zC h t u a b).objs.size] }
theorem zlP(t u:Bool)(a b:Addr)(xs ys:Array Value) :
  Meets (Builtin.«zip.__new__» ⟨[.type "zip",.ref a,.ref b],[]⟩) (fun _ R s=>SQB t a s.heap xs/\SQB u b s.heap ys/\R (.ok (.ret (.ref (zD s.heap t u a b).objs.size))) { s with heap:=zE s.heap t u a b }) :=
 .of_wp fun prog w A R s h=>by
  obtain⟨hp,g,d,tk,os⟩:=s;obtain⟨h1,h2,h⟩:=h;have hsub:=sub_zip;have L1:SQB t a (Shared.heap ⟨hp,g,d,tk,os⟩) xs:=h1;have L2:SQB u b (Shared.heap ⟨hp.push { cls:=.type (itN t),data:=.fields #[.ref a,.int 0 0] },g,d,tk,os⟩) ys:=SQB.push h2 _
  wp_walk using zp0 L1,zp0 L2
  exact⟨_,rfl,h⟩
theorem ITB.new{t:Bool}{i a:Addr}{h:Heap}(e:h.get? i=some { cls:=.type (itN t),data:=.fields #[.ref a,.int 0 0] }):ITB t i a 0 h:=by
 cases t
 ·exact⟨_,e,rfl,rfl⟩
 ·exact⟨_,e,rfl,rfl⟩
theorem zog{t u:Bool}{a b:Addr}{xs ys:Array Value}{Q:qV}(h1:SQB t a s.heap xs)(h2:SQB u b s.heap ys)
  (h:∀h',ZSt (s.heap.objs.size+4) (s.heap.objs.size+2) (s.heap.objs.size+3) s.heap.objs.size (s.heap.objs.size+1) (ITB t s.heap.objs.size a) (ITB u (s.heap.objs.size+1) b) .none 0 h'->h'.objs.size=s.heap.objs.size+5 ->
   (∀c o,s.heap.get? c=some o->h'.get? c=some o)->Q (.ref (s.heap.objs.size+4)) { s with heap:=h' }) :
  wpAny (model prog w) A (call (.type "zip") [.ref a,.ref b]) Q E s:=by
 refine callType_new F.called_zip (by decide) (F.typeCall_zip_2 _ _) (F.newCall_zip_2 _ _) (fun obj=>F.args_object_init_3 obj _ _) F.entry_zip_new (zlP t u a b xs ys) ⟨h1,h2,?_⟩
 have n1:(zA s.heap t a).objs.size=s.heap.objs.size+1:=Heap.size_push ..;have n2:(zB s.heap t u a b).objs.size=s.heap.objs.size+2:=by rw[Heap.size_push,n1]
 have n3:(zC s.heap t u a b).objs.size=s.heap.objs.size+3:=by rw[Heap.size_push,n2]
 have n4:(zD s.heap t u a b).objs.size=s.heap.objs.size+4:=by rw[Heap.size_push,n3]
 have n5:(zE s.heap t u a b).objs.size=s.heap.objs.size+5:=by rw[Heap.size_push,n4]
 have g5:(zE s.heap t u a b).get? (zD s.heap t u a b).objs.size=some _:=Heap.get?_push_size _ rfl;have g4:(zE s.heap t u a b).get? (zC s.heap t u a b).objs.size=some _:=Heap.get?_push_of_some _ (Heap.get?_push_size _ rfl);have g3:(zE s.heap t u a b).get? (zB s.heap t u a b).objs.size=some _:=Heap.get?_push_of_some _ (Heap.get?_push_of_some _ (Heap.get?_push_size _ rfl));have g2:(zE s.heap t u a b).get? (zA s.heap t a).objs.size=some _:=Heap.get?_push_of_some _ (Heap.get?_push_of_some _ (Heap.get?_push_of_some _ (Heap.get?_push_size _ rfl)))
 have g1:(zE s.heap t u a b).get? s.heap.objs.size=some _:=Heap.get?_push_of_some _ (Heap.get?_push_of_some _ (Heap.get?_push_of_some _ (Heap.get?_push_of_some _ (Heap.get?_push_size _ rfl))));show _/\_
 rw[n2,n3,n4]at g5;rw[n1,n2]at g3;rw[n3]at g4;rw[n1]at g2;rw[n4];refine⟨⟨_,g5,rfl⟩,h _ ⟨g5,g3,⟨_,_,g4⟩,.new g1,.new g2⟩ n5 fun c o x=>?_⟩
 iterate 5 refine Heap.get?_push_of_some _ ?_
 exact x
end
def Itz(t u:Bool)(K:qF)(a b:Addr):It :=
 ⟨fun i H=>∃xs ys x y,SqB t K H a xs/\SqB u K H b ys/\xs[i]?=some x/\ys[i]?=some y,
  fun i H v H'=>∃p x y,H p=none/\v=.ref p/\(∀xs,SqB t K H a xs->xs[i]?=some x)/\(∀ys,SqB u K H b ys->ys[i]?=some y)/\H'=upd H p (.tup [x,y]),
  fun i H=>∃xs ys,SqB t K H a xs/\SqB u K H b ys/\(xs.length<=i\/ys.length<=i)⟩
theorem zla{P:Program}{w:World}{K:qF}{elts:List Expr}{x1:_}{pos:Pos}{t u:Bool}{z TI TO i1 i2 a b:Addr}(D:ZAp z TI TO i1 i2 a b) :
  Turn P w K (.Tuple elts x1 pos) (Itz t u K a b) [z,TI,TO,i1,i2] z (fun i h=>ZSt z TI TO i1 i2 (ITB t i1 a) (ITB u i2 b) .none i h) where
 mem:=by simp
 obj:=fun i h st c hc=>by
  obtain⟨zp,ti,⟨va,vb,to⟩,j1,j2⟩:=st;simp only[List.mem_cons,List.not_mem_nil,or_false]at hc;rcases hc with rfl|rfl|rfl|rfl|rfl
  ·exact⟨_,zp,fun v y=>by cases y⟩
  ·exact⟨_,ti,fun v y=>by cases y⟩
  ·exact⟨_,to,fun v y=>by cases y⟩
  ·exact(nx_B (prog:=P) (w:=w) t).rcd _ _ j1
  ·exact(nx_B (prog:=P) (w:=w) u).rcd _ _ j2
 keep:=fun i h h' st k=>by
  obtain⟨zp,ti,⟨va,vb,to⟩,j1,j2⟩:=st;exact⟨k _ (by simp) _ zp,k _ (by simp) _ ti,⟨va,vb,k _ (by simp) _ to⟩,(nx_B (prog:=P) (w:=w) t).keep _ _ _ j1 (k _ (by simp)),(nx_B (prog:=P) (w:=w) u).keep _ _ _ j2 (k _ (by simp))⟩
 item:=by
  intro X hP hw hK hc i pins s σ H E I hf st hg;subst hP hw hK;obtain⟨xs,ys,x,y,q1,q2,hx,hy⟩:=hg;obtain⟨its,r1,p1,z1⟩:=I.seqB q1;obtain⟨jts,r2,p2,z2⟩:=I.seqB q2;obtain⟨ux,hux,rux⟩:=r1.get hx;obtain⟨uy,huy,ruy⟩:=r2.get hy;refine zow D (nx_B t) (nx_B u) st p1 p2 (x:=ux) (y:=uy) (by simpa using hux) (by simpa using huy) fun h' st' pr sz kp=>?_
  refine⟨_,rfl,?_⟩;refine wpAny_letOwnedTupleGo_zip (s:={ s with heap:=h' }) st'.zip fun h2 z2' sb=>?_
  obtain⟨⟨d1,d2,d3,d4,d5,d6,d7,d8,d9,d10⟩,_,_⟩:=zjc D;have big:∀c∈[z,TI,TO,i1,i2],c<s.heap.objs.size:=fun c hc=>by
   obtain⟨zp,ti,⟨va,vb,to⟩,j1,j2⟩:=st;simp only[List.mem_cons,List.not_mem_nil,or_false]at hc;rcases hc with rfl|rfl|rfl|rfl|rfl
   ·exact Heap.lt_size zp
   ·exact Heap.lt_size ti
   ·exact Heap.lt_size to
   ·obtain⟨o,e,_⟩:=(nx_B (prog:=X.prog) (w:=X.w) t).rcd _ _ j1;exact Heap.lt_size e
   ·obtain⟨o,e,_⟩:=(nx_B (prog:=X.prog) (w:=X.w) u).rcd _ _ j2;exact Heap.lt_size e
  have hp:H s.heap.objs.size=none:=I.hok.fresh (Nat.le_refl _);have I1:Inv X pins σ (upd H s.heap.objs.size (.tup [x,y])) { s with heap:=s.heap.push { cls:=.type "tuple",data:=.seq #[ux,uy] } } :=
   I.laid (t':=s.toks) (fun b o e=>Heap.get?_push_of_some _ e) (Nat.le_refl _) (show JM X.prog X.w _ _ _ (.tup [x,y]) from⟨by show 2<=sizeLine;decide,[ux,uy],.cons rux (.cons ruy .nil),IsTD.new _ _⟩)
  have npos:∀c∈[z,TI,TO,i1,i2],c≠s.heap.objs.size:=fun c hc=>Nat.ne_of_lt (big c hc)
  have fu:∀c∈[z,TI,TO,i1,i2],upd H s.heap.objs.size (.tup [x,y]) c=none:=fun c hc=>by rw[Jy (npos c hc)];exact(hf c hc).1
  refine⟨.ref s.heap.objs.size,upd H s.heap.objs.size (.tup [x,y]),?_,rfl,⟨_,x,y,hp,rfl,fun xs' h=>by rw[I.injB h q1];exact hx,fun ys' h=>by rw[I.injB h q2];exact hy,rfl⟩,?_,fu⟩
  ·refine Inv.turnedL (s:={ s with heap:=s.heap.push { cls:=.type "tuple",data:=.seq #[ux,uy] } }) (t':=s.toks) [z,TO,i1,i2] I1 (fun c o hc e=>?_) fun c hc=>?_
   ·simp only[List.mem_cons,List.not_mem_nil,or_false,not_or]at hc;refine sb.extBut _ _ hc.1 ?_
    by_cases y:c=s.heap.objs.size
    ·subst y;have e':(s.heap.push { cls:=.type "tuple",data:=.seq #[ux,uy] }).get? s.heap.objs.size=some _:=Heap.get?_push_size _ rfl;have e2:some o=some _:=e.symm.trans e';cases e2;exact pr
    ·have e':s.heap.get? c=some o:=by
      have e3:(s.heap.push { cls:=.type "tuple",data:=.seq #[ux,uy] }).get? c=some o:=e
      rwa [Heap.get?_push_ne _ _ _ y]at e3
     exact kp c o hc.1 hc.2.1 hc.2.2.1 hc.2.2.2 e'
   ·have m:c∈[z,TI,TO,i1,i2]:=by simp only[List.mem_cons,List.not_mem_nil,or_false]at hc ⊢;rcases hc with h|h|h|h <;> simp[h]
    exact⟨fu c m,(hf c m).2⟩
  ·obtain⟨zp,ti,⟨va,vb,to⟩,j1,j2⟩:=st';exact⟨z2',sb.extBut _ _ d1.symm ti,⟨va,vb,sb.extBut _ _ d2.symm to⟩,(nx_B (prog:=X.prog) (w:=X.w) t).keep _ _ _ j1 fun o e=>sb.extBut _ _ d3.symm e,(nx_B (prog:=X.prog) (w:=X.w) u).keep _ _ _ j2 fun o e=>sb.extBut _ _ d4.symm e⟩
 done:=by
  intro X hP hw hK hc i pins s σ H E I hf st hg;subst hP hw hK;obtain⟨xs,ys,q1,q2,hx⟩:=hg;obtain⟨its,r1,p1,z1⟩:=I.seqB q1;obtain⟨jts,r2,p2,z2⟩:=I.seqB q2;have l1:=r1.length;have l2:=r2.length;refine zov (I.ok.hd hc) D (nx_B t) (nx_B u) st p1 p2 (by rcases hx with h|h;exact .inl (by simp;omega);exact .inr (by simp;omega)) fun h' kp=>⟨rfl,?_⟩
  refine Inv.turnedL (t':=s.toks) [z,TO,i1,i2] I (fun c o hc e=>?_) fun c hc=>hf c ?_
  ·simp only[List.mem_cons,List.not_mem_nil,or_false,not_or]at hc;exact kp c o hc.1 hc.2.1 hc.2.2.1 hc.2.2.2 e
  ·simp only[List.mem_cons,List.not_mem_nil,or_false]at hc ⊢;rcases hc with h|h|h|h <;> simp[h]
 self:=fun _ _ _ _ _ st h=>wpAny_pyIter_zip st.zip h
section
variable{X:Cx}{a b:Expr}{elts:List Expr}{x1:Nat}{p p' pos:Pos}
def iZip(K:qF)(ta:TA):TI:=fun σ H R=>ta σ H fun vs H1=>∃(t u:Bool) (c d:Addr) (xs ys:List V),vs=[.ref c,.ref d]/\SqB t K H1 c xs/\SqB u K H1 d ys/\R (Itz t u K c d) H1
theorem SQB.lt{t:Bool}{c:Addr}{xs:Array Value}{h:Heap}(x:SQB t c h xs):c<h.objs.size:=by
 cases t
 ·obtain⟨o,e,_⟩:=x;exact Heap.lt_size e
 ·obtain⟨o,e,_⟩:=x;exact Heap.lt_size e
theorem zmR{n:Nat}{c d:Addr}(h1:c<n)(h2:d<n):ZAp (n+4) (n+2) (n+3) n (n+1) c d:=by
 have ne:∀(e:Addr) (k:Nat),e<n->e≠n+k:=fun e k h=>Nat.ne_of_lt (Nat.lt_of_lt_of_le h (Nat.le_add_right _ _))
 refine⟨by simp,fun e he=>?_⟩
 have hl:e<n:=by
  simp only[List.mem_cons,List.not_mem_nil,or_false]at he;rcases he with rfl|rfl
  ·exact h1
  ·exact h2
 simp only[List.mem_cons,List.not_mem_nil,or_false,not_or];exact⟨ne e 4 hl,ne e 2 hl,ne e 3 hl,Nat.ne_of_lt hl,ne e 1 hl⟩
theorem zo5{ta:TA}(hg:Gl X "zip") (hm:X.mg "zip" = none) (ha:PA X [a,b] ta) (hs:starEach [a,b] X.env=[(false,eval a X.env),(false,eval b X.env)]) (hs2:starEach [b] X.env=[(false,eval b X.env)]) :
  PI X (.Tuple elts x1 p') (.Call (.Name "zip" p) [a,b] [] pos) (iZip X.K ta):=by
 intro pins s σ H R I h;refine Call_ (YD I hg hm boot_zip (PyProof.Rows.callWith_type1 (thn (ha pos pins s σ H _ I h) fun us s1 ⟨vs,H1,I1,r1,q1⟩=>?_) (by rw[hs,hs2]) (by rw[hs2];rfl)))
 obtain⟨t,u,c,d,xs,ys,rfl,s1',s2',q⟩:=q1;cases r1 with
 | cons r rr =>
  cases rr with
  | cons r' rr =>
   cases rr;cases r;cases r';obtain⟨its,_,p1,_⟩:=I1.seqB s1';obtain⟨jts,_,p2,_⟩:=I1.seqB s2';refine zog p1 p2 fun h' st sz kp=>?_
   refine wpAny_pyIter_zip (s:={ s1 with heap:=h' }) st.zip ?_
   refine⟨_,_,_,_,H1,rfl,I1.kept (t':=s1.toks) kp,zla (zmR p1.lt p2.lt),st,fun e he=>?_,q⟩
   have ge:s1.heap.objs.size<=e:=by
    simp only[List.mem_cons,List.not_mem_nil,or_false]at he;rcases he with rfl|rfl|rfl|rfl|rfl
    ·exact Nat.le_add_right _ _
    ·exact Nat.le_add_right _ _
    ·exact Nat.le_add_right _ _
    ·exact Nat.le_refl _
    ·exact Nat.le_add_right _ _
   exact I1.fpOk ge (I1.hok.fresh ge)
theorem srcB{K:qF}{hd:Option Addr}{P O:Addr->Prop}{H:Hp}{v:V}{t:PyData}{ts:qD}(hO:∀a,¬O a->P a)(r:Rep K hd O H v t)(h:t=.tuple ts\/t=.list ts) :
  ∃(k:Bool) (q:Addr) (vs:List V),v=.ref q/\SqB k K H q vs/\∀(O2:Addr->Prop) (H2:Hp),(∀a o,H a=some o->P a->H2 a=some o)->(∀a o,H a=some o->¬O a->¬O2 a)->SqB k K H2 q vs/\Reps K hd O2 H2 vs ts:=by
 have mv:∀vs,Reps K hd O H vs ts->∀(O2:Addr->Prop) (H2:Hp),(∀a o,H a=some o->P a->H2 a=some o)->(∀a o,H a=some o->¬O a->¬O2 a)->Reps K hd O2 H2 vs ts:=fun vs r O2 H2 h1 h2 =>
  r.mono (fun a o ha z=>Classical.byContradiction fun no=>h2 a o ha no z) fun a o no ha=>h1 a o ha (hO a no)
 rcases h with rfl|rfl
 ·cases r with
  | @tup q vs ds h o r=>exact⟨true,q,vs,rfl,.inl (.inl h),fun O2 H2 h1 h2=>⟨.inl (.inl (h1 q _ h (hO q o))),mv vs r O2 H2 h1 h2⟩⟩
  | @tupS q vs ds h r=>exact⟨true,q,vs,rfl,h.sq,fun O2 H2 h1 h2=>⟨h.sq,mv vs r O2 H2 h1 h2⟩⟩
 ·obtain⟨q,vs,rfl,h1',no,r⟩:=r.lstI;exact⟨false,q,vs,rfl,SqL.of h1',fun O2 H2 h1 h2=>⟨SqL.of (h1 q _ h1' (hO q no)),mv vs r O2 H2 h1 h2⟩⟩
def zipD(xs ys:qD):List PyData:=(xs.zip ys).map fun q=>.tuple [q.1,q.2]
def dZip(da db:DTE):DTA:=fun ρ n R=>da ρ n fun x n1=>db ρ n1 fun y n2=>Qg x fun xs=>Qg y fun ys=>R (zipD xs ys) n2
theorem zic{t:PyData}{R:List PyData->Prop}(h:Qg t R):∃ts,(t=.tuple ts\/t=.list ts)/\R ts:=by
 cases t with
 | list ts=>exact⟨ts,.inr rfl,h⟩
 | tuple ts=>exact⟨ts,.inl rfl,h⟩
 | _=>exact h.elim
theorem zqD{da db:DTE}(hm:X.mg "zip" = none) (h:DE X a da) (h':DE X b db) (hg:Gl X "zip":=by rfl) (hs:starEach [a,b] X.env=[(false,eval a X.env),(false,eval b X.env)]:=by rfl) (hs2:starEach [b] X.env=[(false,eval b X.env)]:=by rfl) :
  DI X (.Tuple elts x1 p') (.Call (.Name "zip" p) [a,b] [] pos) (dZip da db):=by
 obtain⟨ta,pa,h⟩:=h;obtain⟨tb,pb,h'⟩:=h';refine⟨_,zo5 hg hm (YR pa (YR pb Y8 hs2) (by rw[hs,hs2])) hs hs2,fun C ρ σ H n Q R S hd hq=>?_⟩
 refine h C ρ σ H n _ _ S hd fun x n1 v H1 r1 e1 hn1 q1=>?_
 have S1:=S.on e1 hn1;refine h' C ρ σ H1 n1 _ _ S1 r1 fun y n2 w H2 r2 e2 hn2 q2=>?_
 have q1':=e2.rep S.hx q1;obtain⟨xs,hx,r2⟩:=zic r2;obtain⟨ys,hy,r2⟩:=zic r2;obtain⟨k1,c,vs,rfl,s1,f1⟩:=srcB (P:=fun a=>¬Own C ρ σ a) (fun _ z=>z) q1' hx
 obtain⟨k2,d,ws,rfl,s2,f2⟩:=srcB (P:=fun a=>¬Own C ρ σ a) (fun _ z=>z) q2 hy
 refine⟨k1,k2,c,d,vs,ws,rfl,s1,s2,hq _ n2 _ H2 r2 (e1.trans e2) hn2 ?_⟩;intro O2 H3 h1 h2 h3;obtain⟨g1,rs1⟩:=f1 O2 H3 h1 h2;obtain⟨g2,rs2⟩:=f2 O2 H3 h1 h2;refine⟨fun i t et=>?_,?_⟩
 ·unfold zipD at et;rw[List.getElem?_map]at et;cases ez:(xs.zip ys)[i]? with
  | none=>rw[ez]at et;cases et
  | some q =>
   rw[ez]at et;cases et;obtain⟨ex,ey⟩:=List.getElem?_zip_eq_some.mp ez;obtain⟨vx,evx,rx⟩:=rs1.get ex;obtain⟨vy,evy,ry⟩:=rs2.get ey;refine⟨⟨vs,ws,vx,vy,g1,g2,evx,evy⟩,fun v H4 hyd=>?_⟩
   obtain⟨pp,x',y',hp,rfl,hx',hy',rfl⟩:=hyd;have e1:x'=vx:=Option.some.inj ((hx' vs g1).symm.trans evx);have e2:y'=vy:=Option.some.inj ((hy' ws g2).symm.trans evy);subst e1 e2;exact⟨JU hp,.newT (fun z=>h3 pp z hp) hp (.cons rx (.cons ry .nil))⟩
 ·refine⟨vs,ws,g1,g2,?_⟩;have:=rs1.length;have:=rs2.length;unfold zipD;simp only[List.length_map,List.length_zip];omega
end
theorem zmL{α β:Type}{f:α->Option β}{g:α->β}:∀(l:List α),(∀m∈l,f m=some (g m))->l.filterMap f=l.map g
 | [],_=>rfl
 | m::l,h=>by rw[List.filterMap_cons,h m (.head _),List.map_cons,zmL l fun x hx=>h x (.tail _ hx)]
theorem zlA(xs:Array Value):((List.range xs.size).filterMap fun(m:Nat)=>xs[((xs.size:Int) - 1+(m:Int)*(-1)).toNat]?).toArray=xs.toList.reverse.toArray:=by
 congr 1;have e:∀m∈List.range xs.size,xs[((xs.size:Int) - 1+(m:Int)*(-1)).toNat]?=some (xs.toList.reverse.getD m .none):=fun m hm=>by
  have hm:m<xs.size:=List.mem_range.mp hm;have e1:((xs.size:Int) - 1+(m:Int)*(-1)).toNat=xs.size - 1 - m:=by omega
  have h2:xs.size - 1 - m<xs.size:=by omega
  rw[e1,Array.getElem?_eq_getElem h2];have h3:m<xs.toList.reverse.length:=by simpa using hm
  rw[List.getD_eq_getElem?_getD,List.getElem?_eq_getElem h3,Option.getD_some,List.getElem_reverse];simp
 have e2:(List.range xs.size).filterMap (fun(m:Nat)=>xs[((xs.size:Int) - 1+(m:Int)*(-1)).toNat]?)=(List.range xs.size).map fun m=>xs.toList.reverse.getD m .none:=by
  exact zmL _ e
 rw[e2];apply List.ext_getElem
 ·simp
 ·intro i h1 h2;simp at h1 h2 ⊢;rw[List.getElem?_eq_getElem (by simpa using h2)]
  simp
section
variable{prog:Program}{w:World}{A:Around}{E:qV}{s:Shared}
theorem zdt{t sl:Addr}{items:Array Value}{vs:Value}{Q:qV}(ht:IsTup s.heap t items)(hs:s.heap.IsSliceOf sl .none .none vs)(ps:IsPart vs (some (-1)))
  (h:Q (.ref s.heap.objs.size) { s with heap:=s.heap.push { cls:=.type "tuple",data:=.seq items.toList.reverse.toArray } }) (hsz:items.size<=sizeLine):wpAny (model prog w) A (getItem (.ref t) (.ref sl)) Q E s:=by
 obtain⟨os,hos,hcs,hds⟩:=id hs;have hTs:s.TypeIs (.ref sl) "slice":=⟨os,hos,hcs⟩;unfold getItem
 try with_reducible refine wpAny_holding ?_
 first|refine wpAny_bind (wpAny_pure ?_)|skip
 refine wpAny_bind (wpAny_sequenceKey ht.typeIs (by decide) ?_)
 refine wpAny_bind (wpAny_callSpecial?_slot (name:=Str.ofString "__getitem__") ht.typeIs PyProof.Rows.slot_tuple_getitem
  (wpAny_call_entry PyProof.Rows.slot_tuple_getitem ht.typeIs entry_tuple_getitem ?_ (args_tuple_getitem _ _)))
 refine wpAny_bind (m:=Builtin.Tuple.tupleItemsOf (.ref t)) (tupleItemsOf_ ht (wpAny_bind (wpAny_typeOf hTs ?_)));rw[if_pos (by decide)]
 refine wpAny_bind ?_;unfold Builtin.Slice.sliceApplied Builtin.Slice.sliceFields;refine wpAny_bind (wpAny_bind (wpAny_field hos hds (x:=.none) rfl (wpAny_bind (wpAny_field hos hds (x:=.none) rfl (wpAny_bind (wpAny_field hos hds (x:=vs) rfl (wpAny_pure ?_)))))));refine wpAny_bind (HT.zdl ps ?_);show wpAny _ _ (if ((-1:Int) == 0)=true then _ else _) _ _ s
 rw[if_neg (by decide)]
 refine wpAny_bind (slicePart_none (wpAny_bind (slicePart_none (wpAny_bind (wpAny_pure ?_)))));have e1:Builtin.Slice.sliceAdjust none none (-1) (items.size:Int)=((items.size:Int) - 1,-1):=by
  unfold Builtin.Slice.sliceAdjust;simp
 have e2:Builtin.Slice.slicePlaces ((items.size:Int) - 1) (-1) (-1)=items.size:=by
  unfold Builtin.Slice.slicePlaces;simp;split <;> omega
 show wpAny _ _ (match Builtin.Slice.sliceAdjust none none (-1) (items.size:Int) with|(lo,hi)=>pure (lo,(-1:Int),Builtin.Slice.slicePlaces lo hi (-1))) _ _ s
 rw[e1];show wpAny _ _ (pure (((items.size:Int) - 1),(-1:Int),Builtin.Slice.slicePlaces ((items.size:Int) - 1) (-1) (-1))) _ _ s
 rw[e2];refine wpAny_pure ?_;have no:¬((((items.size:Int) - 1) == 0&&(-1:Int) == 1&&items.size == items.size)=true):=by simp
 show wpAny _ _ (if (((items.size:Int) - 1) == 0&&(-1:Int) == 1&&items.size == items.size)=true then _ else _) _ _ s
 rw[if_neg no,zlA];have sz:sizeOk (.seq items.toList.reverse.toArray):=by
  show items.toList.reverse.toArray.size<=sizeLine
  simpa using hsz
 first
  | exact wpAny_bind (m:=Builtin.Tuple.tupleExact _) (wpAny_newObj_type (wpAny_pure ⟨_,rfl,wpAny_pure h⟩) sz)
  | exact wpAny_bind (m:=Builtin.Tuple.tupleExact _) (wpAny_newObj_type (wpAny_bind (wpAny_pure (wpAny_pure ⟨_,rfl,wpAny_pure h⟩))) sz)
  | exact wpAny_bind (wpAny_bind (m:=Builtin.Tuple.tupleExact _) (wpAny_newObj_type (wpAny_pure (wpAny_pure ⟨_,rfl,wpAny_pure h⟩)) sz))
  | exact wpAny_bind (wpAny_bind (m:=Builtin.Tuple.tupleExact _) (wpAny_newObj_type (wpAny_pure ⟨_,rfl,wpAny_pure h⟩) sz))
end
section
variable{X:Cx}{e st:Expr}{d:DTE}{dst:DTO}{pos p2:Pos}{te:TE}{ts:TO}
def tRev(K:qF)(te:TE)(ts:TO):TE:=fun σ H Q=>te σ H fun x H1=>ts σ H1 fun o H2=>o=some (-1)/\∃a xs,x=.ref a/\SqT K H2 a xs/\∀p,H2 p=none->Q (.ref p) (upd H2 p (.tup xs.reverse))
theorem Paired.rev{xs:List V}{us:List Value}(r:Vals xs us):Vals xs.reverse us.reverse:=by
 induction r with
 | nil=>exact .nil
 | cons a b ih=>rw[List.reverse_cons,List.reverse_cons];exact ih.append (.cons a .nil)
theorem zpa(he:PE X e te)(hs:PO X (some st) ts):PE X (.Subscript e (.Slice none none (some st) p2) pos) (tRev X.K te ts):=by
 intro pins s σ H Q I h;refine Subscript_ (thn (he pins s σ H _ I h) fun v s1 ⟨x,H1,I1,r1,q1⟩=>?_)
 refine wpAny_Slice ?_;rw[evalPart_none];refine wpAny_pure (wpAny_pure (thn (hs pins s1 σ H1 _ I1 q1) fun vs s2 ⟨o,H2,I2,po,q2⟩=>?_))
 obtain⟨rfl,a,xs,rfl,hx,q⟩:=q2;cases r1;have I4:Inv X pins σ H2 { s2 with heap:=s2.heap.push { cls:=.type "slice",data:=.fields #[.none,.none,vs] } }:=I2.kept (t':=s2.toks) fun b ob q=>Heap.get?_push_of_some _ q
 obtain⟨its,r,ht,hz⟩:=I4.tuple hx;have hl:=r.length;refine tail_any (ops:=[.ref a,.ref s2.heap.objs.size]) ht.typeIs PyProof.Rows.slot_tuple_getitem.lookup ?_ (by with_unfolding_all rfl)
 refine zdt ht (Heap.IsSliceOf.new ..) po ?_ (by rw[List.size_toArray,<- hl];exact hz)
 refine⟨.ref _,_,I4.laid (t':=s2.toks) (o:=.tup xs.reverse) (fun b ob q=>Heap.get?_push_of_some _ q) (Nat.le_refl _) ?_,rfl,q _ (I4.hok.fresh (Nat.le_refl _))⟩
 exact⟨by rw[List.length_reverse];exact hz,_,Paired.rev r,IsTD.new _ _⟩
theorem Reps.rev{K:qF}{hd:Option Addr}{O:Addr->Prop}{H:Hp}:∀{vs ts},Reps K hd O H vs ts->Reps K hd O H vs.reverse ts.reverse
 | _,_,.nil=>.nil
 | _,_,.cons a b=>by rw[List.reverse_cons,List.reverse_cons];exact(Reps.rev b).append (.cons a .nil)
def dRev(d:DTE)(dst:DTO):DTE:=fun ρ n R=>d ρ n fun t n1=>dst ρ n1 fun o n2=>o=some (-1)/\lTup t fun ts=>R (.tuple ts.reverse) n2
theorem zqH(h:DL X e d)(hs:DP X (some st) dst):DE X (.Subscript e (.Slice none none (some st) p2) pos) (dRev d dst):=by
 obtain⟨ta,pa,h⟩:=h;obtain⟨tl,pl,hl⟩:=hs;refine⟨_,zpa pa pl,fun C ρ σ H n Q R S hd hq=>?_⟩
 refine h C ρ σ H n _ _ S hd fun t n1 v H1 r1 e1 h1 q1=>?_
 have S1:=S.on e1 h1;refine hl C ρ σ H1 n1 _ _ S1 r1 fun o n2 H2 r2 e2 h2=>?_
 have S2:=S1.on e2 h2;have q3:=e2.repT S.hx q1;obtain⟨rfl,r2⟩:=r2;cases t with
 | tuple ts =>
  obtain⟨a,vs,rfl,hs,rs⟩:=q3.tupI;exact⟨rfl,a,vs,rfl,hs,fun p hp=>hq _ n2 _ _ r2 (e1.trans (e2.trans (ExtE.new hp))) (h2.same (JU hp)) (.newT (S2.free hp) hp rs.rev)⟩
 | _=>exact r2.elim
end
section
variable{d da db:DTE}{dlo dhi:DTO}{ρ:En}{n:Nat}{R:qN}{Ro:Option Int->Nat->Prop}{Rl:List PyData->Nat->Prop}{xs ys:qD}{lo hi:Option Int}{Q:PyData->Prop}{Ql:List PyData->Prop}
theorem zqg(h:d ρ n fun t n1=>dlo ρ n1 fun lo n2=>dhi ρ n2 fun hi n3=>lSl t lo hi fun z=>Rl z n3):dSlL d dlo dhi ρ n Rl:=h
theorem zke(h:Ro none n):zhQ ρ n Ro:=h
theorem znT(h:d ρ n fun t n'=>lInt t fun i=>Ro (some i) n'):zoa d ρ n Ro:=h
theorem zsl(h:Ql (cutD xs lo hi)):lSl (.list xs) lo hi Ql:=h
theorem zqc(h:da ρ n fun x n1=>db ρ n1 fun y n2=>Qg x fun xs=>Qg y fun ys=>Rl (zipD xs ys) n2):dZip da db ρ n Rl:=h
theorem zqh(h:d ρ n fun t n1=>dlo ρ n1 fun o n2=>o=some (-1)/\lTup t fun ts=>R (.tuple ts.reverse) n2):dRev d dlo ρ n R:=h
end
theorem zdz{cs:qD}{tg:DTG}{tt:DTT}{d:DTE}{ρ0:En}{n:Nat}{Rl:List PyData->Nat->Prop}(F:PyData->PyData)(hl:cs.length<=16777216)
  (step:∀b∈cs,∀(K:qN) (X:Nat->Prop),K (F b) n->tg b ρ0 fun ρ1=>tt ρ1 n fun c n2=>if c=true then d ρ1 n2 K else X n2) (fin:Rl (cs.map F) n):Qs tg tt d ρ0 cs [] n Rl:=by
 have:=Uh (cs:=cs) (D:=fun t=>t) (tg:=tg) (tt:=tt) (d:=d) (ρ0:=ρ0) (n:=n) (Rl:=Rl) F hl step fin
 simpa using this
theorem zmg{ts:qD}:cutD ts (some 1) none=ts.tail:=by
 unfold cutD;rw[HT.zcC,show(some (1:Int))=some ((1:Nat):Int) from rfl,HT.zd4]
 cases ts with
 | nil=>simp
 | cons a l =>
  have:min 1 (a::l).length=1:=by simp
  rw[this];simp
theorem zou{bs:qB}:zipD (pD bs) (pD bs).tail=(bs.zip bs.tail).map fun q=>.tuple [prD q.1,prD q.2]:=by
 unfold zipD pD;rw[<- List.map_tail,List.zip_map];simp
theorem ziu{bits:Int}{bs:qB}:(∀q∈bs.zip bs.tail,eB q.1<=q.2.1)↔bs.Pairwise fun a b=>eB a<=b.1:=by
 induction bs with
 | nil=>simp
 | cons a l ih =>
  cases l with
  | nil=>simp
  | cons b l =>
   simp only[List.tail_cons,List.zip_cons_cons,List.forall_mem_cons]at ih ⊢;rw[ih];constructor
   ·rintro⟨h1,h2⟩;refine List.pairwise_cons.mpr ⟨fun c hc=>?_,h2⟩
    rcases List.mem_cons.mp hc with rfl|hc
    ·exact h1
    ·have:=(List.pairwise_cons.mp h2).1 c hc;have:=Zc b;omega
   ·intro h;have h':=List.pairwise_cons.mp h;exact⟨h'.1 b (.head _),h'.2⟩
class Stp (P:Prop)(Q:outParam Prop):Prop where
 go:Q->P
section
variable{t u tb:DTS}{D:DEnds}{ρ ρ0:En}{n i j m:Nat}{d da db dc d1 d2:DTE}{ds di:DTA}{c c' tt:DTT}{g:G2}{g':G2}{gc:GC}{gd:GD}{tg:DTG}{tgs:DTGs}{R:qN}{Rb:Bool->Nat->Prop}{Rl:List PyData->Nat->Prop}{Re:En->Prop}{x y:PyData}{xs ys acc:qD}{f:Int->Int->Int}{fb:PyData->Bool}{k:Bool}{capt:List Nat}
instance zq7 :Stp (sSeq t u D ρ n) ((t { D with nx:=u D } ρ n)):=⟨fun h=>zp6 h⟩
instance zoK :Stp (Zt D ρ n) ((D.nx ρ n)):=⟨fun h=>znO h⟩
instance zq8 :Stp (sRet d D ρ n) ((d ρ n fun t n'=>D.rt t n')):=⟨fun h=>zp7 h⟩
instance zr2 :Stp (sIf c t u D ρ n) ((c ρ n fun b n1=>if b=true then t D ρ n1 else u D ρ n1)):=⟨fun h=>zsH h⟩
instance zq_ :Stp (sAsg d tg D ρ n) ((d ρ n fun t n'=>tg t ρ fun ρ'=>D.nx ρ' n')):=⟨fun h=>zp9 h⟩
instance zq9 :Stp (sFor di tg tb D ρ n) ((di ρ n fun ts n1=>forP tg tb D ts ρ n1)):=⟨fun h=>zp8 h⟩
instance zs6 :Stp (dC x ρ n R) ((R x n)):=⟨fun h=>i_dC h⟩
instance zr4 :Stp (dOp g da db ρ n R) ((da ρ n fun x n1=>db ρ n1 fun y n2=>g x y fun z=>R z n2)):=⟨fun h=>zsK h⟩
instance zrl :Stp (dNew ds ρ n R) ((ds ρ n fun ts n'=>R (.list ts) n')):=⟨fun h=>zql h⟩
instance zre :Stp (dTup ds ρ n R) ((ds ρ n fun ts n1=>R (.tuple ts) n1)):=⟨fun h=>zqe h⟩
instance zrk :Stp (dNil ρ n Rl) ((Rl [] n)):=⟨fun h=>zqk h⟩
instance zoQ :Stp (US d ds ρ n Rl) ((d ρ n fun t n1=>ds ρ n1 fun ts n2=>Rl (t::ts) n2)):=⟨fun h=>znV h⟩
instance zr5 :Stp (dFn gd ds ρ n R) ((ds ρ n fun ts n1=>gd ts n1 R)):=⟨fun h=>zsL h⟩
instance zrp :Stp (dFnL gd ds ρ n R) ((ds ρ n fun ts n1=>gd ts n1 fun t n2=>J6 t=true/\R t n2)):=⟨fun h=>zqp h⟩
instance zot :Stp (Za gc ds ρ n R) ((ds ρ n fun ts n1=>gc ts fun z=>R z n1)):=⟨fun h=>zl4 h⟩
instance zrb :Stp (isiD fb d ρ n R) ((d ρ n fun t n1=>lIsi fb t fun z=>R z n1)):=⟨fun h=>zqb h⟩
instance zrr :Stp (dAnd c c' ρ n Rb) ((c ρ n fun b n1=>if b=true then c' ρ n1 Rb else Rb false n1)):=⟨fun h=>zqr h⟩
instance zr3 :Stp (dOr c c' ρ n Rb) ((c ρ n fun b n1=>if b=true then Rb true n1 else c' ρ n1 Rb)):=⟨fun h=>zsJ h⟩
instance zrj :Stp (dNot c ρ n Rb) ((c ρ n fun b n1=>Rb (!b) n1)):=⟨fun h=>zqj h⟩
instance zoR :Stp (zoc da db ρ n R) ((da ρ n fun t n1=>bolD t fun b=>if b=true then db ρ n1 R else R (.bool false) n1)):=⟨fun h=>znX h⟩
instance zri :Stp (dOrV da db ρ n R) ((da ρ n fun t n1=>bolD t fun b=>if b=true then R (.bool true) n1 else db ρ n1 R)):=⟨fun h=>zqi h⟩
instance zoP :Stp (zob da ρ n R) ((da ρ n fun t n1=>bolD t fun b=>R (.bool (!b)) n1)):=⟨fun h=>znU h⟩
instance zrf :Stp (dTru d ρ n Rb) ((d ρ n fun t n'=>truD t fun b=>Rb b n')):=⟨fun h=>zqf h⟩
instance zm2 :Stp (zhR d ρ n Rl) ((d ρ n fun t n1=>Qg t fun ts=>Rl ts n1)):=⟨fun h=>zkf h⟩
instance zrd :Stp (dYes ρ n Rb) ((Rb true n)):=⟨fun h=>zqd h⟩
instance zoI :Stp (zmT tgs (.tuple xs) ρ Re) ((tgs xs ρ Re)):=⟨fun h=>znM h⟩
instance zoJ :Stp (zmU [] ρ Re) ((Re ρ)):=⟨fun h=>znN h⟩
instance zor :Stp (zjh tg tgs (x::xs) ρ Re) ((tg x ρ fun ρ'=>tgs xs ρ' Re)):=⟨fun h=>zl1 h⟩
instance zoL :Stp (Ur d ρ n Rb) ((d ρ n fun t n'=>bolD t fun b=>Rb b n')):=⟨fun h=>znQ h⟩
instance zrq :Stp (dCat da db ρ n Rl) ((da ρ n fun x n1=>db ρ n1 fun y n2=>lCat x y fun zs=>Rl zs n2)):=⟨fun h=>zqq h⟩
instance zro :Stp (dItL d ρ n Rl) ((d ρ n fun t n'=>lLst t fun ts=>Rl ts n')):=⟨fun h=>zqo h⟩
instance zrn :Stp (dItT d ρ n Rl) ((d ρ n fun t n'=>lTup t fun ts=>Rl ts n')):=⟨fun h=>zqn h⟩
instance zoN :Stp (Y4 d ρ n Rl) ((d ρ n fun t n'=>lInt t fun j=>(-(2 ^ 62)<=j/\j<2 ^ 62)/\Rl (Qk 0 j.toNat) n')):=⟨fun h=>znS h⟩
instance zrm :Stp (dNeg d ρ n R) ((d ρ n fun t n'=>lInt t fun i=>R (.int (-i)) n')):=⟨fun h=>zqm h⟩
instance zos :Stp (Yy g g' da db dc ρ n R) ((da ρ n fun x n1=>db ρ n1 fun y n2=>g x y fun z=>bolD z fun b=>if b=true then dc ρ n2 fun w n3=>g' y w fun z=>R z n3 else R (.bool false) n2)):=⟨fun h=>zl3 h⟩
instance zra {b:Bool}{A B:Prop}:Stp (if (!b)=true then A else B) ((if b=true then B else A)):=⟨fun h=>zp_ h⟩
end
section
variable{C:Int->Int->Prop}{f:Int->Int->Int}{fb:Int->Int->Bool}{i j k:Int}{R:PyData->Prop}{Rb:Bool->Prop}{xs ys:qD}{s t:Str}{a b:Bool}{u v x y:PyData}{Rn:qN}{n:Nat}
instance zq5 :Stp (oAdd (.int i) (.int j) R) ((R (.int (i+j)))):=⟨fun h=>zpW h⟩
instance zq4 :Stp (oAdd (.str s) (.str t) R) (((s.length+t.length<=16777216/\R (.str (s++t))))):=⟨fun h=>zpV h⟩
instance zq3 :Stp (oAdd (.tuple xs) (.tuple ys) R) (((xs.length+ys.length<=16777216/\R (.tuple (xs++ys))))):=⟨fun h=>zpU h⟩
instance zrZ :Stp (oEq (.int i) (.int j) R) ((R (.bool (decide (i=j))))):=⟨fun h=>zsE h⟩
instance zrX :Stp (oEq (.tuple xs) (.tuple ys) R) (((Okd (.tuple xs)/\Okd (.tuple ys)/\R (.bool (PyData.eqv (.tuple xs) (.tuple ys)))))):=⟨fun h=>zsC h⟩
instance zrY :Stp (oEq (.list xs) (.list ys) R) (((Okd (.list xs)/\Okd (.list ys)/\R (.bool (PyData.eqv (.list xs) (.list ys)))))):=⟨fun h=>zsD h⟩
instance zrM :Stp (oNe (.int i) (.int j) R) ((R (.bool (!decide (i=j))))):=⟨fun h=>zsq h⟩
instance zrN :Stp (oNe (.bool a) (.bool b) R) ((R (.bool (!decide (a=b))))):=⟨fun h=>zsr h⟩
instance zrK :Stp (oNe (.str s) (.str t) R) ((R (.bool (!decide (s=t))))):=⟨fun h=>zso h⟩
instance zrJ :Stp (oNe (.tuple xs) (.tuple ys) R) (((Okd (.tuple xs)/\Okd (.tuple ys)/\R (.bool (!PyData.eqv (.tuple xs) (.tuple ys)))))):=⟨fun h=>zsn h⟩
instance zrL :Stp (oNe (.list xs) (.list ys) R) (((Okd (.list xs)/\Okd (.list ys)/\R (.bool (!PyData.eqv (.list xs) (.list ys)))))):=⟨fun h=>zsp h⟩
instance zrS :Stp (oLtA (.int i) (.int j) R) ((R (.bool (decide (i<j))))):=⟨fun h=>zsw h⟩
instance zrV :Stp (oLeA (.int i) (.int j) R) ((R (.bool (decide (i<=j))))):=⟨fun h=>zsz h⟩
instance zrU :Stp (oLeA (.str s) (.str t) R) ((R (.bool (!decide (t.cps.toList<s.cps.toList))))):=⟨fun h=>zsy h⟩
instance zq1 :Stp (oIx (.tuple (u::xs)) (.int 0) R) ((R u)):=⟨fun h=>zpO h⟩
instance zq0 :Stp (oIx (.tuple (u::v::xs)) (.int 1) R) ((R v)):=⟨fun h=>zpN h⟩
instance zqZ {w:PyData}:Stp (oIx (.tuple (u::v::w::xs)) (.int 2) R) ((R w)):=⟨fun h=>zpM h⟩
instance zqW :Stp (truD (.bool a) Rb) ((Rb a)):=⟨fun h=>zpH h⟩
instance zqV :Stp (truD (.list xs) Rb) ((Rb (!xs.isEmpty))):=⟨fun h=>zpG h⟩
instance zr1 :Stp (bolD (.bool a) Rb) ((Rb a)):=⟨fun h=>zsG h⟩
instance zqX :Stp (bLen [.tuple xs] R) ((R (.int xs.length))):=⟨fun h=>zpJ h⟩
instance zqY :Stp (bLen [.str s] R) (((s.length<=16777216/\R (.int s.length)))):=⟨fun h=>zpK h⟩
instance zop {ns:List Int}:Stp (bLen [SCR ns] R) ((R (.int ns.length))):=⟨fun h=>zlY h⟩
instance zrQ :Stp (bMin [.int i,.int j] R) ((R (.int (if j<i then j else i)))):=⟨fun h=>zsu h⟩
instance zrR :Stp (bMax [.int i,.int j] R) ((R (.int (if j > i then j else i)))):=⟨fun h=>zsv h⟩
instance zoo :Stp (Zd [.list xs] R) ((R (.tuple xs))):=⟨fun h=>zlX h⟩
instance zoq {Rl:List PyData->Prop}:Stp (Qg (.tuple xs) Rl) ((Rl xs)):=⟨fun h=>zlZ h⟩
instance zr0 {Q:List PyData->Prop}:Stp (lCat (.list xs) (.list ys) Q) (((xs.length+ys.length<=16777216/\Q (xs++ys)))):=⟨fun h=>zsF h⟩
instance zrT {Q:List PyData->Prop}:Stp (lLst (.list xs) Q) ((Q xs)):=⟨fun h=>zsx h⟩
instance zrF {Q:List PyData->Prop}:Stp (lTup (.tuple xs) Q) ((Q xs)):=⟨fun h=>zsj h⟩
instance zrW {i:Int}{Q:Int->Prop}:Stp (lInt (.int i) Q) ((Q i)):=⟨fun h=>zsB h⟩
instance zrO :Stp (oMul (.int i) (.int j) R) ((CMul i j)/\(R (.int (i*j)))):=⟨fun h=>zss h.1 h.2⟩
instance zrP :Stp (oMod (.int i) (.int j) R) ((0<j)/\(R (.int (i % j)))):=⟨fun h=>zst h.1 h.2⟩
instance zq2 :Stp (Ua (.int i) (.int j) R) ((Y2 i j)/\(R (.int (i / j)))):=⟨fun h=>zpT h.1 h.2⟩
instance zrI :Stp (oShl (.int i) (.int j) R) ((CPow i j)/\(R (.int (i*2 ^ j.toNat)))):=⟨fun h=>zsm h.1 h.2⟩
instance zrG :Stp (oSub (.int i) (.int j) R) ((R (.int (i - j)))):=⟨fun h=>zsk h⟩
instance zrE :Stp (oXor (.int i) (.int j) R) ((R (.int (Builtin.bitXor i j)))):=⟨fun h=>zsi h⟩
instance zs3 :Stp (gB fb (.int i) (.int j) R) ((R (.bool (fb i j)))):=⟨fun h=>j_gB h⟩
instance zll :Stp (lIsi isInt (.int i) R) ((R (.bool true))):=⟨fun h=>zhJ h⟩
instance zk8 :Stp (lIsi isInt (.bool a) R) ((R (.bool true))):=⟨fun h=>zgE h⟩
instance zlk :Stp (lIsi isInt (.str s) R) ((R (.bool false))):=⟨fun h=>zhI h⟩
instance zjv :Stp (lIsi isInt (.tuple xs) R) ((R (.bool false))):=⟨fun h=>zfL h⟩
instance zk6 :Stp (lIsi isInt (.list xs) R) ((R (.bool false))):=⟨fun h=>zgC h⟩
instance zk5 :Stp (lIsi isInt (.none) R) ((R (.bool false))):=⟨fun h=>zgB h⟩
instance zk7 :Stp (lIsi isInt (.dict []) R) ((R (.bool false))):=⟨fun h=>zgD h⟩
instance zk9 :Stp (lIsi isBool (.int i) R) ((R (.bool false))):=⟨fun h=>zgF h⟩
instance zjw :Stp (lIsi isBool (.bool a) R) ((R (.bool true))):=⟨fun h=>zfM h⟩
instance zlh :Stp (lIsi isTup (.int i) R) ((R (.bool false))):=⟨fun h=>zhF h⟩
instance zk0 :Stp (lIsi isTup (.bool a) R) ((R (.bool false))):=⟨fun h=>zgw h⟩
instance zlg :Stp (lIsi isTup (.str s) R) ((R (.bool false))):=⟨fun h=>zhE h⟩
instance zjt :Stp (lIsi isTup (.tuple xs) R) ((R (.bool true))):=⟨fun h=>zfJ h⟩
instance zkY :Stp (lIsi isTup (.list xs) R) ((R (.bool false))):=⟨fun h=>zgu h⟩
instance zkX :Stp (lIsi isTup (.none) R) ((R (.bool false))):=⟨fun h=>zgt h⟩
instance zkZ :Stp (lIsi isTup (.dict []) R) ((R (.bool false))):=⟨fun h=>zgv h⟩
instance zlj :Stp (lIsi isStr (.int i) R) ((R (.bool false))):=⟨fun h=>zhH h⟩
instance zk4 :Stp (lIsi isStr (.bool a) R) ((R (.bool false))):=⟨fun h=>zgA h⟩
instance zli :Stp (lIsi isStr (.str s) R) ((R (.bool true))):=⟨fun h=>zhG h⟩
instance zju :Stp (lIsi isStr (.tuple xs) R) ((R (.bool false))):=⟨fun h=>zfK h⟩
instance zk2 :Stp (lIsi isStr (.list xs) R) ((R (.bool false))):=⟨fun h=>zgy h⟩
instance zk1 :Stp (lIsi isStr (.none) R) ((R (.bool false))):=⟨fun h=>zgx h⟩
instance zk3 :Stp (lIsi isStr (.dict []) R) ((R (.bool false))):=⟨fun h=>zgz h⟩
end
section
variable{d da db:DTE}{dlo dhi:DTO}{ρ:En}{n:Nat}{R:qN}{Ro:Option Int->Nat->Prop}{Rl:List PyData->Nat->Prop}{xs ys:qD}{lo hi:Option Int}{Q:PyData->Prop}{Ql:List PyData->Prop}
instance zrg :Stp (dSlL d dlo dhi ρ n Rl) ((d ρ n fun t n1=>dlo ρ n1 fun lo n2=>dhi ρ n2 fun hi n3=>lSl t lo hi fun z=>Rl z n3)):=⟨fun h=>zqg h⟩
instance zm1 :Stp (zhQ ρ n Ro) ((Ro none n)):=⟨fun h=>zke h⟩
instance zoO :Stp (zoa d ρ n Ro) ((d ρ n fun t n'=>lInt t fun i=>Ro (some i) n')):=⟨fun h=>znT h⟩
instance zrc :Stp (dZip da db ρ n Rl) ((da ρ n fun x n1=>db ρ n1 fun y n2=>Qg x fun xs=>Qg y fun ys=>Rl (zipD xs ys) n2)):=⟨fun h=>zqc h⟩
instance zrh :Stp (dRev d dlo ρ n R) ((d ρ n fun t n1=>dlo ρ n1 fun o n2=>o=some (-1)/\lTup t fun ts=>R (.tuple ts.reverse) n2)):=⟨fun h=>zqh h⟩
instance zrH :Stp (lSl (.list xs) lo hi Ql) ((Ql (cutD xs lo hi))):=⟨fun h=>zsl h⟩
end
section
instance zoM {d:DTE}{ρ:En}{n:Nat}{Rl:List PyData->Nat->Prop}:Stp (zn_ d ρ n Rl) ((d ρ n fun t n1=>Zv t fun ts=>Rl ts n1)):=⟨fun h=>znR h⟩
end
section
variable{R:PyData->Prop}{b:Bool}{A B:Prop}
instance zs4:Stp (if true=true then A else B) A:=⟨fun h=>iteT h⟩
instance zs5:Stp (if false=true then A else B) B:=⟨fun h=>iteF h⟩
instance zq6:Stp (oIsN (.bool true) (.bool true) R) (R (.bool false)):=⟨fun h=>znK h⟩
end
class GetN (ρ:En)(i:Nat)(c:outParam (Option Cell)):Prop where
 e:ρ[i]?=some c
class SetN (ρ:En)(i:Nat)(c:Option Cell)(ρ':outParam En):Prop where
 e:ρ.set i c=ρ'
instance{a0:Option Cell}{as:En}:GetN (a0::as) 0 a0:=⟨rfl⟩
instance{a0 c:Option Cell}{as:En}:SetN (a0::as) 0 c (c::as):=⟨rfl⟩
instance{a0 a1:Option Cell}{as:En}:GetN (a0::a1::as) 1 a1:=⟨rfl⟩
instance{a0 a1 c:Option Cell}{as:En}:SetN (a0::a1::as) 1 c (a0::c::as):=⟨rfl⟩
instance{a0 a1 a2:Option Cell}{as:En}:GetN (a0::a1::a2::as) 2 a2:=⟨rfl⟩
instance{a0 a1 a2 c:Option Cell}{as:En}:SetN (a0::a1::a2::as) 2 c (a0::a1::c::as):=⟨rfl⟩
instance{a0 a1 a2 a3:Option Cell}{as:En}:GetN (a0::a1::a2::a3::as) 3 a3:=⟨rfl⟩
instance{a0 a1 a2 a3 c:Option Cell}{as:En}:SetN (a0::a1::a2::a3::as) 3 c (a0::a1::a2::c::as):=⟨rfl⟩
instance{a0 a1 a2 a3 a4:Option Cell}{as:En}:GetN (a0::a1::a2::a3::a4::as) 4 a4:=⟨rfl⟩
instance{a0 a1 a2 a3 a4 c:Option Cell}{as:En}:SetN (a0::a1::a2::a3::a4::as) 4 c (a0::a1::a2::a3::c::as):=⟨rfl⟩
instance{a0 a1 a2 a3 a4 a5:Option Cell}{as:En}:GetN (a0::a1::a2::a3::a4::a5::as) 5 a5:=⟨rfl⟩
instance{a0 a1 a2 a3 a4 a5 c:Option Cell}{as:En}:SetN (a0::a1::a2::a3::a4::a5::as) 5 c (a0::a1::a2::a3::a4::c::as):=⟨rfl⟩
instance{a0 a1 a2 a3 a4 a5 a6:Option Cell}{as:En}:GetN (a0::a1::a2::a3::a4::a5::a6::as) 6 a6:=⟨rfl⟩
instance{a0 a1 a2 a3 a4 a5 a6 c:Option Cell}{as:En}:SetN (a0::a1::a2::a3::a4::a5::a6::as) 6 c (a0::a1::a2::a3::a4::a5::c::as):=⟨rfl⟩
instance{a0 a1 a2 a3 a4 a5 a6 a7:Option Cell}{as:En}:GetN (a0::a1::a2::a3::a4::a5::a6::a7::as) 7 a7:=⟨rfl⟩
instance{a0 a1 a2 a3 a4 a5 a6 a7 c:Option Cell}{as:En}:SetN (a0::a1::a2::a3::a4::a5::a6::a7::as) 7 c (a0::a1::a2::a3::a4::a5::a6::c::as):=⟨rfl⟩
instance{a0 a1 a2 a3 a4 a5 a6 a7 a8:Option Cell}{as:En}:GetN (a0::a1::a2::a3::a4::a5::a6::a7::a8::as) 8 a8:=⟨rfl⟩
instance{a0 a1 a2 a3 a4 a5 a6 a7 a8 c:Option Cell}{as:En}:SetN (a0::a1::a2::a3::a4::a5::a6::a7::a8::as) 8 c (a0::a1::a2::a3::a4::a5::a6::a7::c::as):=⟨rfl⟩
instance{a0 a1 a2 a3 a4 a5 a6 a7 a8 a9:Option Cell}{as:En}:GetN (a0::a1::a2::a3::a4::a5::a6::a7::a8::a9::as) 9 a9:=⟨rfl⟩
instance{a0 a1 a2 a3 a4 a5 a6 a7 a8 a9 c:Option Cell}{as:En}:SetN (a0::a1::a2::a3::a4::a5::a6::a7::a8::a9::as) 9 c (a0::a1::a2::a3::a4::a5::a6::a7::a8::c::as):=⟨rfl⟩
instance{a0 a1 a2 a3 a4 a5 a6 a7 a8 a9 a10:Option Cell}{as:En}:GetN (a0::a1::a2::a3::a4::a5::a6::a7::a8::a9::a10::as) 10 a10:=⟨rfl⟩
instance{a0 a1 a2 a3 a4 a5 a6 a7 a8 a9 a10 c:Option Cell}{as:En}:SetN (a0::a1::a2::a3::a4::a5::a6::a7::a8::a9::a10::as) 10 c (a0::a1::a2::a3::a4::a5::a6::a7::a8::a9::c::as):=⟨rfl⟩
instance{a0 a1 a2 a3 a4 a5 a6 a7 a8 a9 a10 a11:Option Cell}{as:En}:GetN (a0::a1::a2::a3::a4::a5::a6::a7::a8::a9::a10::a11::as) 11 a11:=⟨rfl⟩
instance{a0 a1 a2 a3 a4 a5 a6 a7 a8 a9 a10 a11 c:Option Cell}{as:En}:SetN (a0::a1::a2::a3::a4::a5::a6::a7::a8::a9::a10::a11::as) 11 c (a0::a1::a2::a3::a4::a5::a6::a7::a8::a9::a10::c::as):=⟨rfl⟩
instance{a0 a1 a2 a3 a4 a5 a6 a7 a8 a9 a10 a11 a12:Option Cell}{as:En}:GetN (a0::a1::a2::a3::a4::a5::a6::a7::a8::a9::a10::a11::a12::as) 12 a12:=⟨rfl⟩
instance{a0 a1 a2 a3 a4 a5 a6 a7 a8 a9 a10 a11 a12 c:Option Cell}{as:En}:SetN (a0::a1::a2::a3::a4::a5::a6::a7::a8::a9::a10::a11::a12::as) 12 c (a0::a1::a2::a3::a4::a5::a6::a7::a8::a9::a10::a11::c::as):=⟨rfl⟩
instance{a0 a1 a2 a3 a4 a5 a6 a7 a8 a9 a10 a11 a12 a13:Option Cell}{as:En}:GetN (a0::a1::a2::a3::a4::a5::a6::a7::a8::a9::a10::a11::a12::a13::as) 13 a13:=⟨rfl⟩
instance{a0 a1 a2 a3 a4 a5 a6 a7 a8 a9 a10 a11 a12 a13 c:Option Cell}{as:En}:SetN (a0::a1::a2::a3::a4::a5::a6::a7::a8::a9::a10::a11::a12::a13::as) 13 c (a0::a1::a2::a3::a4::a5::a6::a7::a8::a9::a10::a11::a12::c::as):=⟨rfl⟩
instance{a0 a1 a2 a3 a4 a5 a6 a7 a8 a9 a10 a11 a12 a13 a14:Option Cell}{as:En}:GetN (a0::a1::a2::a3::a4::a5::a6::a7::a8::a9::a10::a11::a12::a13::a14::as) 14 a14:=⟨rfl⟩
instance{a0 a1 a2 a3 a4 a5 a6 a7 a8 a9 a10 a11 a12 a13 a14 c:Option Cell}{as:En}:SetN (a0::a1::a2::a3::a4::a5::a6::a7::a8::a9::a10::a11::a12::a13::a14::as) 14 c (a0::a1::a2::a3::a4::a5::a6::a7::a8::a9::a10::a11::a12::a13::c::as):=⟨rfl⟩
instance{a0 a1 a2 a3 a4 a5 a6 a7 a8 a9 a10 a11 a12 a13 a14 a15:Option Cell}{as:En}:GetN (a0::a1::a2::a3::a4::a5::a6::a7::a8::a9::a10::a11::a12::a13::a14::a15::as) 15 a15:=⟨rfl⟩
instance{a0 a1 a2 a3 a4 a5 a6 a7 a8 a9 a10 a11 a12 a13 a14 a15 c:Option Cell}{as:En}:SetN (a0::a1::a2::a3::a4::a5::a6::a7::a8::a9::a10::a11::a12::a13::a14::a15::as) 15 c (a0::a1::a2::a3::a4::a5::a6::a7::a8::a9::a10::a11::a12::a13::a14::c::as):=⟨rfl⟩
instance{a0 a1 a2 a3 a4 a5 a6 a7 a8 a9 a10 a11 a12 a13 a14 a15 a16:Option Cell}{as:En}:GetN (a0::a1::a2::a3::a4::a5::a6::a7::a8::a9::a10::a11::a12::a13::a14::a15::a16::as) 16 a16:=⟨rfl⟩
instance{a0 a1 a2 a3 a4 a5 a6 a7 a8 a9 a10 a11 a12 a13 a14 a15 a16 c:Option Cell}{as:En}:SetN (a0::a1::a2::a3::a4::a5::a6::a7::a8::a9::a10::a11::a12::a13::a14::a15::a16::as) 16 c (a0::a1::a2::a3::a4::a5::a6::a7::a8::a9::a10::a11::a12::a13::a14::a15::c::as):=⟨rfl⟩
instance{a0 a1 a2 a3 a4 a5 a6 a7 a8 a9 a10 a11 a12 a13 a14 a15 a16 a17:Option Cell}{as:En}:GetN (a0::a1::a2::a3::a4::a5::a6::a7::a8::a9::a10::a11::a12::a13::a14::a15::a16::a17::as) 17 a17:=⟨rfl⟩
instance{a0 a1 a2 a3 a4 a5 a6 a7 a8 a9 a10 a11 a12 a13 a14 a15 a16 a17 c:Option Cell}{as:En}:SetN (a0::a1::a2::a3::a4::a5::a6::a7::a8::a9::a10::a11::a12::a13::a14::a15::a16::a17::as) 17 c (a0::a1::a2::a3::a4::a5::a6::a7::a8::a9::a10::a11::a12::a13::a14::a15::a16::c::as):=⟨rfl⟩
instance{a0 a1 a2 a3 a4 a5 a6 a7 a8 a9 a10 a11 a12 a13 a14 a15 a16 a17 a18:Option Cell}{as:En}:GetN (a0::a1::a2::a3::a4::a5::a6::a7::a8::a9::a10::a11::a12::a13::a14::a15::a16::a17::a18::as) 18 a18:=⟨rfl⟩
instance{a0 a1 a2 a3 a4 a5 a6 a7 a8 a9 a10 a11 a12 a13 a14 a15 a16 a17 a18 c:Option Cell}{as:En}:SetN (a0::a1::a2::a3::a4::a5::a6::a7::a8::a9::a10::a11::a12::a13::a14::a15::a16::a17::a18::as) 18 c (a0::a1::a2::a3::a4::a5::a6::a7::a8::a9::a10::a11::a12::a13::a14::a15::a16::a17::c::as):=⟨rfl⟩
instance{a0 a1 a2 a3 a4 a5 a6 a7 a8 a9 a10 a11 a12 a13 a14 a15 a16 a17 a18 a19:Option Cell}{as:En}:GetN (a0::a1::a2::a3::a4::a5::a6::a7::a8::a9::a10::a11::a12::a13::a14::a15::a16::a17::a18::a19::as) 19 a19:=⟨rfl⟩
instance{a0 a1 a2 a3 a4 a5 a6 a7 a8 a9 a10 a11 a12 a13 a14 a15 a16 a17 a18 a19 c:Option Cell}{as:En}:SetN (a0::a1::a2::a3::a4::a5::a6::a7::a8::a9::a10::a11::a12::a13::a14::a15::a16::a17::a18::a19::as) 19 c (a0::a1::a2::a3::a4::a5::a6::a7::a8::a9::a10::a11::a12::a13::a14::a15::a16::a17::a18::c::as):=⟨rfl⟩
instance{a0 a1 a2 a3 a4 a5 a6 a7 a8 a9 a10 a11 a12 a13 a14 a15 a16 a17 a18 a19 a20:Option Cell}{as:En}:GetN (a0::a1::a2::a3::a4::a5::a6::a7::a8::a9::a10::a11::a12::a13::a14::a15::a16::a17::a18::a19::a20::as) 20 a20:=⟨rfl⟩
instance{a0 a1 a2 a3 a4 a5 a6 a7 a8 a9 a10 a11 a12 a13 a14 a15 a16 a17 a18 a19 a20 c:Option Cell}{as:En}:SetN (a0::a1::a2::a3::a4::a5::a6::a7::a8::a9::a10::a11::a12::a13::a14::a15::a16::a17::a18::a19::a20::as) 20 c (a0::a1::a2::a3::a4::a5::a6::a7::a8::a9::a10::a11::a12::a13::a14::a15::a16::a17::a18::a19::c::as):=⟨rfl⟩
instance{a0 a1 a2 a3 a4 a5 a6 a7 a8 a9 a10 a11 a12 a13 a14 a15 a16 a17 a18 a19 a20 a21:Option Cell}{as:En}:GetN (a0::a1::a2::a3::a4::a5::a6::a7::a8::a9::a10::a11::a12::a13::a14::a15::a16::a17::a18::a19::a20::a21::as) 21 a21:=⟨rfl⟩
instance{a0 a1 a2 a3 a4 a5 a6 a7 a8 a9 a10 a11 a12 a13 a14 a15 a16 a17 a18 a19 a20 a21 c:Option Cell}{as:En}:SetN (a0::a1::a2::a3::a4::a5::a6::a7::a8::a9::a10::a11::a12::a13::a14::a15::a16::a17::a18::a19::a20::a21::as) 21 c (a0::a1::a2::a3::a4::a5::a6::a7::a8::a9::a10::a11::a12::a13::a14::a15::a16::a17::a18::a19::a20::c::as):=⟨rfl⟩
instance{a0 a1 a2 a3 a4 a5 a6 a7 a8 a9 a10 a11 a12 a13 a14 a15 a16 a17 a18 a19 a20 a21 a22:Option Cell}{as:En}:GetN (a0::a1::a2::a3::a4::a5::a6::a7::a8::a9::a10::a11::a12::a13::a14::a15::a16::a17::a18::a19::a20::a21::a22::as) 22 a22:=⟨rfl⟩
instance{a0 a1 a2 a3 a4 a5 a6 a7 a8 a9 a10 a11 a12 a13 a14 a15 a16 a17 a18 a19 a20 a21 a22 c:Option Cell}{as:En}:SetN (a0::a1::a2::a3::a4::a5::a6::a7::a8::a9::a10::a11::a12::a13::a14::a15::a16::a17::a18::a19::a20::a21::a22::as) 22 c (a0::a1::a2::a3::a4::a5::a6::a7::a8::a9::a10::a11::a12::a13::a14::a15::a16::a17::a18::a19::a20::a21::c::as):=⟨rfl⟩
instance{a0 a1 a2 a3 a4 a5 a6 a7 a8 a9 a10 a11 a12 a13 a14 a15 a16 a17 a18 a19 a20 a21 a22 a23:Option Cell}{as:En}:GetN (a0::a1::a2::a3::a4::a5::a6::a7::a8::a9::a10::a11::a12::a13::a14::a15::a16::a17::a18::a19::a20::a21::a22::a23::as) 23 a23:=⟨rfl⟩
instance{a0 a1 a2 a3 a4 a5 a6 a7 a8 a9 a10 a11 a12 a13 a14 a15 a16 a17 a18 a19 a20 a21 a22 a23 c:Option Cell}{as:En}:SetN (a0::a1::a2::a3::a4::a5::a6::a7::a8::a9::a10::a11::a12::a13::a14::a15::a16::a17::a18::a19::a20::a21::a22::a23::as) 23 c (a0::a1::a2::a3::a4::a5::a6::a7::a8::a9::a10::a11::a12::a13::a14::a15::a16::a17::a18::a19::a20::a21::a22::c::as):=⟨rfl⟩
instance{a0 a1 a2 a3 a4 a5 a6 a7 a8 a9 a10 a11 a12 a13 a14 a15 a16 a17 a18 a19 a20 a21 a22 a23 a24:Option Cell}{as:En}:GetN (a0::a1::a2::a3::a4::a5::a6::a7::a8::a9::a10::a11::a12::a13::a14::a15::a16::a17::a18::a19::a20::a21::a22::a23::a24::as) 24 a24:=⟨rfl⟩
instance{a0 a1 a2 a3 a4 a5 a6 a7 a8 a9 a10 a11 a12 a13 a14 a15 a16 a17 a18 a19 a20 a21 a22 a23 a24 c:Option Cell}{as:En}:SetN (a0::a1::a2::a3::a4::a5::a6::a7::a8::a9::a10::a11::a12::a13::a14::a15::a16::a17::a18::a19::a20::a21::a22::a23::a24::as) 24 c (a0::a1::a2::a3::a4::a5::a6::a7::a8::a9::a10::a11::a12::a13::a14::a15::a16::a17::a18::a19::a20::a21::a22::a23::c::as):=⟨rfl⟩
instance{a0 a1 a2 a3 a4 a5 a6 a7 a8 a9 a10 a11 a12 a13 a14 a15 a16 a17 a18 a19 a20 a21 a22 a23 a24 a25:Option Cell}{as:En}:GetN (a0::a1::a2::a3::a4::a5::a6::a7::a8::a9::a10::a11::a12::a13::a14::a15::a16::a17::a18::a19::a20::a21::a22::a23::a24::a25::as) 25 a25:=⟨rfl⟩
instance{a0 a1 a2 a3 a4 a5 a6 a7 a8 a9 a10 a11 a12 a13 a14 a15 a16 a17 a18 a19 a20 a21 a22 a23 a24 a25 c:Option Cell}{as:En}:SetN (a0::a1::a2::a3::a4::a5::a6::a7::a8::a9::a10::a11::a12::a13::a14::a15::a16::a17::a18::a19::a20::a21::a22::a23::a24::a25::as) 25 c (a0::a1::a2::a3::a4::a5::a6::a7::a8::a9::a10::a11::a12::a13::a14::a15::a16::a17::a18::a19::a20::a21::a22::a23::a24::c::as):=⟨rfl⟩
class NormE (ρ:En)(ρ':outParam En):Prop where
 e:ρ=ρ'
instance{a:Option Cell}{as:En}:NormE (a::as) (a::as):=⟨rfl⟩
instance{ρ ρ1 ρ2:En}{i:Nat}{c:Option Cell}[h:NormE ρ ρ1][k:SetN ρ1 i c ρ2]:NormE (ρ.set i c) ρ2:=⟨by rw[h.e];exact k.e⟩
class NoneN (as:En)(nn:outParam En):Prop where
 e:List.replicate as.length none=nn
instance:NoneN [] []:=⟨rfl⟩
instance{a:Option Cell}{as nn:En}[h:NoneN as nn]:NoneN (a::as) (none::nn):=⟨by rw[List.length_cons,List.replicate_succ,h.e]⟩
class StartN (N:List Str)(ts:qD)(ρ:outParam En):Prop where
 e:JY N ts=ρ
instance:StartN [] [] []:=⟨rfl⟩
instance{x:Str}{N:List Str}{ρ:En}[h:StartN N [] ρ]:StartN (x::N) [] (none::ρ):=⟨by
 have:=h.e;simp only[JY,List.map_nil,List.nil_append,List.length_nil,Nat.sub_zero]at this ⊢;rw[List.length_cons,List.replicate_succ,this]⟩
instance{x:Str}{N:List Str}{t:PyData}{ts:qD}{ρ:En}[h:StartN N ts ρ]:StartN (x::N) (t::ts) (some (.val t)::ρ):=⟨by
 have:=h.e;simp only[JY]at this ⊢;rw[List.map_cons,List.length_cons,List.length_cons,List.cons_append,Nat.add_sub_add_right,this]⟩
theorem ziD{d:DTS}{D:DEnds}{n:Nat}{N:List Str}{ts:qD}{ρ:En}[e:StartN N ts ρ](h:d D ρ n):d D (JY N ts) n:=e.e.symm▸h
class CapN (is:List Nat)(ρ:En)(out:outParam En):Prop where
 e:(is.map fun i=>capV (ρ.getD i none))=out
class CapC (c:Option Cell)(c':outParam (Option Cell)):Prop where
 e:capV c=c'
instance{d:PyData}:CapC (some (.val d)) (some (.val d)):=⟨rfl⟩
instance{d:qD}:CapC (some (.own d)) none:=⟨rfl⟩
instance:CapC none none:=⟨rfl⟩
instance{ρ:En}:CapN [] ρ []:=⟨rfl⟩
instance{i:Nat}{is:List Nat}{ρ out:En}{c c':Option Cell}[g:GetN ρ i c][k:CapC c c'][h:CapN is ρ out]:CapN (i::is) ρ (c'::out):=⟨by
 have ge:=g.e;rw[List.map_cons,h.e,List.getD_eq_getElem?_getD,ge,Option.getD_some,k.e]⟩
class CompN (m:Nat)(capt:List Nat)(ρ:En)(ρ':outParam En):Prop where
 e:JH m capt ρ=ρ'
instance{x:Str}{capt:List Nat}{ρ out:En}[h:CapN capt ρ out]:CompN (List.length [x]) capt ρ (none::out):=⟨by unfold JH;rw[h.e];rfl⟩
instance{x y:Str}{capt:List Nat}{ρ out:En}[h:CapN capt ρ out]:CompN (List.length [x,y]) capt ρ (none::none::out):=⟨by unfold JH;rw[h.e];rfl⟩
instance{x y z:Str}{capt:List Nat}{ρ out:En}[h:CapN capt ρ out]:CompN (List.length [x,y,z]) capt ρ (none::none::none::out):=⟨by unfold JH;rw[h.e];rfl⟩
instance{x y z u:Str}{capt:List Nat}{ρ out:En}[h:CapN capt ρ out]:CompN (List.length [x,y,z,u]) capt ρ (none::none::none::none::out):=⟨by unfold JH;rw[h.e];rfl⟩
def SetK(i:Nat)(c:Option Cell)(K:En->Nat->Prop)(ρ:En)(n:Nat):Prop:=K (ρ.set i c) n
section
variable{t u:DTS}{D:DEnds}{ρ ρ0 ρ':En}{n i j m:Nat}{d dj:DTE}{ds di:DTA}{tt:DTT}{tg:DTG}{R:qN}{Rl:List PyData->Nat->Prop}{Re:En->Prop}{x:PyData}{xs:qD}{f:Int->Int->Int}{capt:List Nat}{c:Option Cell}{K:En->Nat->Prop}{q:Int}
instance zs_ [h:SetN ρ i c ρ']:Stp (SetK i c K ρ n) (K ρ' n):=⟨fun k=>by unfold SetK;rw[h.e];exact k⟩
instance zsY:Stp (sSet i d D ρ n) (d ρ n fun t n'=>SetK i (some (.val t)) D.nx ρ n'):=⟨fun h=>h⟩
instance zsZ:Stp (sOwn i ds D ρ n) (ds ρ n fun t n'=>SetK i (some (.own t)) D.nx ρ n'):=⟨fun h=>h⟩
instance zqT [h:SetN ρ i (some (.val x)) ρ']:Stp (ZH i x ρ Re) (Re ρ'):=⟨fun k=>by unfold ZH;rw[h.e];exact k⟩
instance zs7 [h:GetN ρ i (some (.val x))]:Stp (dVar i ρ n R) (R x n):=⟨fun k=>zmC h.e k⟩
instance zs8 [h:GetN ρ i (some (.own xs))]:Stp (dOwn i ρ n R) (R (.list xs) n):=⟨fun k=>zmD h.e k⟩
instance zru [h:GetN ρ i (some (.own xs))]:Stp (YT i d D ρ n) (d ρ n fun t n'=>xs.length<16777216/\SetK i (some (.own (xs++[t]))) D.nx ρ n'):=⟨fun k=>zif h.e k⟩
instance zrs [h:GetN ρ i (some (.own xs))][h':SetN ρ i (some (.val (.list xs))) ρ']:Stp (Zi i t D ρ n) (t D ρ' n):=⟨fun k=>zie h.e (by rw[h'.e];exact k)⟩
instance ztd [h:GetN ρ i (some (.val (.int q)))]:Stp (sAug i f d D ρ n) (d ρ n fun t n'=>lInt t fun k=>SetK i (some (.val (.int (f q k)))) D.nx ρ n'):=⟨fun k=>zsM h.e k⟩
instance zs9 [h:CompN m capt ρ ρ0]:Stp (dComp m capt di tg tt d ρ n Rl) (di ρ n fun ts n1=>Qs tg tt d ρ0 ts [] n1 Rl):=⟨fun k=>znW (by rw[h.e];exact k)⟩
end
theorem JT{ρ:En}{i:Nat}:ρ.set i (ρ.getD i none)=ρ:=by
 apply List.ext_getElem?
 intro j
 by_cases h:i=j
 ·subst h
  by_cases hl:i<ρ.length
  ·rw[List.getElem?_set_self hl,List.getD_eq_getElem?_getD,List.getElem?_eq_getElem hl];rfl
  ·rw[List.getElem?_eq_none (by simp;omega),List.getElem?_eq_none (by omega)]
 ·rw[List.getElem?_set_ne h]
section
variable{g:DTG}{tb:DTS}{D:DEnds}{ts:qD}{ρ:En}{n:Nat}
theorem zqB(i0:Nat)(Inv:Nat->Option Cell->Nat->Prop){ρf:Option Cell->En}[N:∀a0,NormE (ρ.set i0 a0) (ρf a0)](h0:Inv 0 (ρ.getD i0 none) n)
  (turn:∀(k:Nat) (t:PyData) (a0:Option Cell) (m:Nat) (K:En->Nat->Prop) (RT:qN) (BK:En->Nat->Prop),ts[k]?=some t->Inv k a0 m->(∀b0 m',Inv (k+1) b0 m'->K (ρf b0) m')->(∀t m,D.rt t m->RT t m)->(∀ρ m,D.nx ρ m->BK ρ m)->g t (ρf a0) fun ρ'=>tb { nx:=K,rt:=RT,bk:=BK,ct:=K } ρ' m)
  (fin:∀a0 m,Inv ts.length a0 m->D.nx (ρf a0) m):forP g tb D ts ρ n:=by
 refine Ui (fun k ρ' m=>∃a0,ρ'=(ρ.set i0 a0)/\Inv k a0 m) ⟨_,?_,h0⟩ ?_ ?_
 ·rw[JT]
 ·rintro k t ρ' m K e ⟨a0,rfl,hI⟩ hK;rw[(N a0).e];exact turn k t a0 m K D.rt D.nx e hI (fun b0 m' h=>(N b0).e▸hK _ _ ⟨b0,rfl,h⟩) (fun _ _ h=>h) (fun _ _ h=>h)
 ·rintro ρ' m ⟨a0,rfl,hI⟩;rw[(N a0).e];exact fin a0 m hI
theorem ZE(i0 i1:Nat)(Inv:Nat->Option Cell->Option Cell->Nat->Prop){ρf:Option Cell->Option Cell->En}[N:∀a0 a1,NormE ((ρ.set i0 a0).set i1 a1) (ρf a0 a1)](h0:Inv 0 (ρ.getD i0 none) (ρ.getD i1 none) n)
  (turn:∀(k:Nat) (t:PyData) (a0 a1:Option Cell) (m:Nat) (K:En->Nat->Prop) (RT:qN) (BK:En->Nat->Prop),ts[k]?=some t->Inv k a0 a1 m->(∀b0 b1 m',Inv (k+1) b0 b1 m'->K (ρf b0 b1) m')->(∀t m,D.rt t m->RT t m)->(∀ρ m,D.nx ρ m->BK ρ m)->g t (ρf a0 a1) fun ρ'=>tb { nx:=K,rt:=RT,bk:=BK,ct:=K } ρ' m)
  (fin:∀a0 a1 m,Inv ts.length a0 a1 m->D.nx (ρf a0 a1) m):forP g tb D ts ρ n:=by
 refine Ui (fun k ρ' m=>∃a0 a1,ρ'=((ρ.set i0 a0).set i1 a1)/\Inv k a0 a1 m) ⟨_,_,?_,h0⟩ ?_ ?_
 ·rw[JT,JT]
 ·rintro k t ρ' m K e ⟨a0,a1,rfl,hI⟩ hK;rw[(N a0 a1).e];exact turn k t a0 a1 m K D.rt D.nx e hI (fun b0 b1 m' h=>(N b0 b1).e▸hK _ _ ⟨b0,b1,rfl,h⟩) (fun _ _ h=>h) (fun _ _ h=>h)
 ·rintro ρ' m ⟨a0,a1,rfl,hI⟩;rw[(N a0 a1).e];exact fin a0 a1 m hI
theorem zqA(i0 i1 i2:Nat)(Inv:Nat->Option Cell->Option Cell->Option Cell->Nat->Prop){ρf:Option Cell->Option Cell->Option Cell->En}[N:∀a0 a1 a2,NormE (((ρ.set i0 a0).set i1 a1).set i2 a2) (ρf a0 a1 a2)](h0:Inv 0 (ρ.getD i0 none) (ρ.getD i1 none) (ρ.getD i2 none) n)
  (turn:∀(k:Nat) (t:PyData) (a0 a1 a2:Option Cell) (m:Nat) (K:En->Nat->Prop) (RT:qN) (BK:En->Nat->Prop),ts[k]?=some t->Inv k a0 a1 a2 m->(∀b0 b1 b2 m',Inv (k+1) b0 b1 b2 m'->K (ρf b0 b1 b2) m')->(∀t m,D.rt t m->RT t m)->(∀ρ m,D.nx ρ m->BK ρ m)->g t (ρf a0 a1 a2) fun ρ'=>tb { nx:=K,rt:=RT,bk:=BK,ct:=K } ρ' m)
  (fin:∀a0 a1 a2 m,Inv ts.length a0 a1 a2 m->D.nx (ρf a0 a1 a2) m):forP g tb D ts ρ n:=by
 refine Ui (fun k ρ' m=>∃a0 a1 a2,ρ'=(((ρ.set i0 a0).set i1 a1).set i2 a2)/\Inv k a0 a1 a2 m) ⟨_,_,_,?_,h0⟩ ?_ ?_
 ·rw[JT,JT,JT]
 ·rintro k t ρ' m K e ⟨a0,a1,a2,rfl,hI⟩ hK;rw[(N a0 a1 a2).e];exact turn k t a0 a1 a2 m K D.rt D.nx e hI (fun b0 b1 b2 m' h=>(N b0 b1 b2).e▸hK _ _ ⟨b0,b1,b2,rfl,h⟩) (fun _ _ h=>h) (fun _ _ h=>h)
 ·rintro ρ' m ⟨a0,a1,a2,rfl,hI⟩;rw[(N a0 a1 a2).e];exact fin a0 a1 a2 m hI
theorem zmK(i0 i1 i2 i3:Nat)(Inv:Nat->Option Cell->Option Cell->Option Cell->Option Cell->Nat->Prop){ρf:Option Cell->Option Cell->Option Cell->Option Cell->En}[N:∀a0 a1 a2 a3,NormE ((((ρ.set i0 a0).set i1 a1).set i2 a2).set i3 a3) (ρf a0 a1 a2 a3)](h0:Inv 0 (ρ.getD i0 none) (ρ.getD i1 none) (ρ.getD i2 none) (ρ.getD i3 none) n)
  (turn:∀(k:Nat) (t:PyData) (a0 a1 a2 a3:Option Cell) (m:Nat) (K:En->Nat->Prop) (RT:qN) (BK:En->Nat->Prop),ts[k]?=some t->Inv k a0 a1 a2 a3 m->(∀b0 b1 b2 b3 m',Inv (k+1) b0 b1 b2 b3 m'->K (ρf b0 b1 b2 b3) m')->(∀t m,D.rt t m->RT t m)->(∀ρ m,D.nx ρ m->BK ρ m)->g t (ρf a0 a1 a2 a3) fun ρ'=>tb { nx:=K,rt:=RT,bk:=BK,ct:=K } ρ' m)
  (fin:∀a0 a1 a2 a3 m,Inv ts.length a0 a1 a2 a3 m->D.nx (ρf a0 a1 a2 a3) m):forP g tb D ts ρ n:=by
 refine Ui (fun k ρ' m=>∃a0 a1 a2 a3,ρ'=((((ρ.set i0 a0).set i1 a1).set i2 a2).set i3 a3)/\Inv k a0 a1 a2 a3 m) ⟨_,_,_,_,?_,h0⟩ ?_ ?_
 ·rw[JT,JT,JT,JT]
 ·rintro k t ρ' m K e ⟨a0,a1,a2,a3,rfl,hI⟩ hK;rw[(N a0 a1 a2 a3).e];exact turn k t a0 a1 a2 a3 m K D.rt D.nx e hI (fun b0 b1 b2 b3 m' h=>(N b0 b1 b2 b3).e▸hK _ _ ⟨b0,b1,b2,b3,rfl,h⟩) (fun _ _ h=>h) (fun _ _ h=>h)
 ·rintro ρ' m ⟨a0,a1,a2,a3,rfl,hI⟩;rw[(N a0 a1 a2 a3).e];exact fin a0 a1 a2 a3 m hI
theorem zqz(i0 i1 i2 i3 i4:Nat)(Inv:Nat->Option Cell->Option Cell->Option Cell->Option Cell->Option Cell->Nat->Prop){ρf:Option Cell->Option Cell->Option Cell->Option Cell->Option Cell->En}[N:∀a0 a1 a2 a3 a4,NormE (((((ρ.set i0 a0).set i1 a1).set i2 a2).set i3 a3).set i4 a4) (ρf a0 a1 a2 a3 a4)](h0:Inv 0 (ρ.getD i0 none) (ρ.getD i1 none) (ρ.getD i2 none) (ρ.getD i3 none) (ρ.getD i4 none) n)
  (turn:∀(k:Nat) (t:PyData) (a0 a1 a2 a3 a4:Option Cell) (m:Nat) (K:En->Nat->Prop) (RT:qN) (BK:En->Nat->Prop),ts[k]?=some t->Inv k a0 a1 a2 a3 a4 m->(∀b0 b1 b2 b3 b4 m',Inv (k+1) b0 b1 b2 b3 b4 m'->K (ρf b0 b1 b2 b3 b4) m')->(∀t m,D.rt t m->RT t m)->(∀ρ m,D.nx ρ m->BK ρ m)->g t (ρf a0 a1 a2 a3 a4) fun ρ'=>tb { nx:=K,rt:=RT,bk:=BK,ct:=K } ρ' m)
  (fin:∀a0 a1 a2 a3 a4 m,Inv ts.length a0 a1 a2 a3 a4 m->D.nx (ρf a0 a1 a2 a3 a4) m):forP g tb D ts ρ n:=by
 refine Ui (fun k ρ' m=>∃a0 a1 a2 a3 a4,ρ'=(((((ρ.set i0 a0).set i1 a1).set i2 a2).set i3 a3).set i4 a4)/\Inv k a0 a1 a2 a3 a4 m) ⟨_,_,_,_,_,?_,h0⟩ ?_ ?_
 ·rw[JT,JT,JT,JT,JT]
 ·rintro k t ρ' m K e ⟨a0,a1,a2,a3,a4,rfl,hI⟩ hK;rw[(N a0 a1 a2 a3 a4).e];exact turn k t a0 a1 a2 a3 a4 m K D.rt D.nx e hI (fun b0 b1 b2 b3 b4 m' h=>(N b0 b1 b2 b3 b4).e▸hK _ _ ⟨b0,b1,b2,b3,b4,rfl,h⟩) (fun _ _ h=>h) (fun _ _ h=>h)
 ·rintro ρ' m ⟨a0,a1,a2,a3,a4,rfl,hI⟩;rw[(N a0 a1 a2 a3 a4).e];exact fin a0 a1 a2 a3 a4 m hI
theorem zqy(i0 i1 i2 i3 i4 i5 i6:Nat)(Inv:Nat->Option Cell->Option Cell->Option Cell->Option Cell->Option Cell->Option Cell->Option Cell->Nat->Prop){ρf:Option Cell->Option Cell->Option Cell->Option Cell->Option Cell->Option Cell->Option Cell->En}[N:∀a0 a1 a2 a3 a4 a5 a6,NormE (((((((ρ.set i0 a0).set i1 a1).set i2 a2).set i3 a3).set i4 a4).set i5 a5).set i6 a6) (ρf a0 a1 a2 a3 a4 a5 a6)](h0:Inv 0 (ρ.getD i0 none) (ρ.getD i1 none) (ρ.getD i2 none) (ρ.getD i3 none) (ρ.getD i4 none) (ρ.getD i5 none) (ρ.getD i6 none) n)
  (turn:∀(k:Nat) (t:PyData) (a0 a1 a2 a3 a4 a5 a6:Option Cell) (m:Nat) (K:En->Nat->Prop) (RT:qN) (BK:En->Nat->Prop),ts[k]?=some t->Inv k a0 a1 a2 a3 a4 a5 a6 m->(∀b0 b1 b2 b3 b4 b5 b6 m',Inv (k+1) b0 b1 b2 b3 b4 b5 b6 m'->K (ρf b0 b1 b2 b3 b4 b5 b6) m')->(∀t m,D.rt t m->RT t m)->(∀ρ m,D.nx ρ m->BK ρ m)->g t (ρf a0 a1 a2 a3 a4 a5 a6) fun ρ'=>tb { nx:=K,rt:=RT,bk:=BK,ct:=K } ρ' m)
  (fin:∀a0 a1 a2 a3 a4 a5 a6 m,Inv ts.length a0 a1 a2 a3 a4 a5 a6 m->D.nx (ρf a0 a1 a2 a3 a4 a5 a6) m):forP g tb D ts ρ n:=by
 refine Ui (fun k ρ' m=>∃a0 a1 a2 a3 a4 a5 a6,ρ'=(((((((ρ.set i0 a0).set i1 a1).set i2 a2).set i3 a3).set i4 a4).set i5 a5).set i6 a6)/\Inv k a0 a1 a2 a3 a4 a5 a6 m) ⟨_,_,_,_,_,_,_,?_,h0⟩ ?_ ?_
 ·rw[JT,JT,JT,JT,JT,JT,JT]
 ·rintro k t ρ' m K e ⟨a0,a1,a2,a3,a4,a5,a6,rfl,hI⟩ hK;rw[(N a0 a1 a2 a3 a4 a5 a6).e];exact turn k t a0 a1 a2 a3 a4 a5 a6 m K D.rt D.nx e hI (fun b0 b1 b2 b3 b4 b5 b6 m' h=>(N b0 b1 b2 b3 b4 b5 b6).e▸hK _ _ ⟨b0,b1,b2,b3,b4,b5,b6,rfl,h⟩) (fun _ _ h=>h) (fun _ _ h=>h)
 ·rintro ρ' m ⟨a0,a1,a2,a3,a4,a5,a6,rfl,hI⟩;rw[(N a0 a1 a2 a3 a4 a5 a6).e];exact fin a0 a1 a2 a3 a4 a5 a6 m hI
theorem zl2{i j:Nat}{u:DTS}{D:DEnds}{as nn ρ1 ρ2:En}{n:Nat}{ns:List Int}{k:Int}[ej:GetN (some (.val (SCR ns))::as) j (some (.val (.int k)))][e1:NoneN as nn][e2:SetN (some (.val (SCR ns))::nn) j (some (.val (.int k))) ρ1][e3:SetN ρ1 i (some (.val HAND)) ρ2](hl:ns.length<=63)(k0:0<=k)(k1:k<=100)
  (h:∀(NX:En->Nat->Prop) (RT:qN) (BK CT:En->Nat->Prop),(∀ρ' m,D.nx (JP ρ') n->NX ρ' m)->(∀b m,D.rt (.bool b) n->RT (.bool b) m)->(∀ρ' m,D.bk (JP ρ') n->BK ρ' m)->(∀ρ' m,D.ct (JP ρ') n->CT ρ' m) ->
   u { nx:=NX,rt:=RT,bk:=BK,ct:=CT } ρ2 0):Yv i j u D (some (.val (SCR ns))::as) n:=by
 refine znP (ρd:=some (.val (SCR ns))::nn) rfl ej.e hl k0 k1 ?_ ?_
 ·show some (Cell.val (SCR ns))::List.replicate (List.length (some (Cell.val (SCR ns))::as) - 1) none=_
  rw[List.length_cons,Nat.add_sub_cancel,e1.e]
 ·rw[e2.e,e3.e];exact h _ _ _ _ (fun _ _ h=>h) (fun b _ h=>⟨b,rfl,h⟩) (fun _ _ h=>h) (fun _ _ h=>h)
theorem zmS{c:DTT}{tb:DTS}{D:DEnds}{ρ:En}{n:Nat}(Inv:Nat->En->Nat->Prop){m:Nat}(h0:Inv m ρ n)
  (turn:∀m ρ n (K:En->Nat->Prop) (RT:qN) (BK:En->Nat->Prop),Inv m ρ n->(∀m' ρ' n',m'<m->Inv m' ρ' n'->K ρ' n')->(∀t m,D.rt t m->RT t m)->(∀ρ m,D.nx ρ m->BK ρ m) ->
   c ρ n fun b n1=>if b=true then tb { nx:=K,rt:=RT,bk:=BK,ct:=K } ρ n1 else BK ρ n1):zjx c tb D ρ n :=
 zje Inv h0 fun m ρ n h=>turn m ρ n (fun ρ' n'=>∃m',m'<m/\Inv m' ρ' n') D.rt D.nx h (fun m' _ _ a b=>⟨m',a,b⟩) (fun _ _ h=>h) (fun _ _ h=>h)
end
open Builtin Builtin.Str
def cutS(x:Str)(lo hi:Option Int):Str:=⟨((x.cps.toList.drop (HT.sIx x.length 0 lo)).take (HT.sIx x.length x.length hi - HT.sIx x.length 0 lo)).toArray⟩
theorem ZK(n d:Nat)(i:Int):((HT.sIx n d (some i):Nat):Int)=max 0 (min (if i<0 then i+(n:Int) else i) (n:Int)):=by
 simp only[HT.sIx]
 by_cases h:i<0
 ·simp only[h,if_true] <;> lia
 ·simp only[h,if_false] <;> lia
theorem zoD(lo hi:Option Int)(n:Nat):strSliceIndices lo hi 1 n=sliceRange ((HT.sIx n 0 lo:Nat):Int) ((HT.sIx n n hi:Nat):Int) 1:=by
 have d0:((HT.sIx n 0 none:Nat):Int)=0:=by simp[HT.sIx]
 have d1:((HT.sIx n n none:Nat):Int)=n:=by simp[HT.sIx]
 cases lo with
 | none =>
  cases hi with
  | none=>rw[d0,d1];rfl
  | some j=>rw[d0,ZK];rfl
 | some i =>
  cases hi with
  | none=>rw[d1,ZK];rfl
  | some j=>rw[ZK,ZK];rfl
theorem zjo(x:Str)(lo hi:Option Int):Txt.slice x lo hi=cutS x lo hi:=by
 have e:strSliceIndices lo hi 1 x.length=(List.range (HT.sIx x.length x.length hi - HT.sIx x.length 0 lo)).map (HT.sIx x.length 0 lo+·):=by rw[zoD,sliceRange_one]
 have pk:(strSliceIndices lo hi 1 x.length).filterMap (x.cps[·]?)=(x.cps.toList.drop (HT.sIx x.length 0 lo)).take (HT.sIx x.length x.length hi - HT.sIx x.length 0 lo):=by rw[e,pick_run]
 unfold Txt.slice;split
 ·rename_i h;have hl:(strSliceIndices lo hi 1 x.length).length=x.length:=by simpa using h
  rw[e,List.length_map,List.length_range]at hl;unfold cutS;have h2:HT.sIx x.length x.length hi<=x.length:=by
   cases hi with
   | none=>simp[HT.sIx]
   | some i=>simp only[HT.sIx];split <;> lia
  have z:HT.sIx x.length 0 lo=0\/x.length=0:=by lia
  have:(x.cps.toList.drop (HT.sIx x.length 0 lo)).take (HT.sIx x.length x.length hi - HT.sIx x.length 0 lo)=x.cps.toList:=by
   have sz:x.cps.toList.length=x.length:=by simp[Str.length]
   rcases z with z|z
   ·rw[z,List.drop_zero,List.take_of_length_le (by lia)]
   ·have:x.cps.toList=[]:=List.length_eq_zero_iff.mp (by lia)
    rw[this];simp
  rw[this]
 ·rw[pk];rfl
section
variable{X:Cx}
theorem zfe{v:Value}{p:Option Int}(h:IsPart v p):∃l:Option (Int×Tok),v=partValue l/\l.map (·.1)=p:=by
 cases h with
 | none=>exact⟨none,rfl,rfl⟩
 | int i t=>exact⟨some (i,t),rfl,rfl⟩
def rSlS:V->Option Int->Option Int->Hp->VK->Prop:=fun x lo hi H Q=>∃z,x=.str z/\z.length<=sizeLine/\Q (.str (cutS z lo hi)) H
theorem zoG:SlR X rSlS:=by
 intro pins s σ H x v vl vu lo hi sl Q I rx hs pl pu h;obtain⟨z,rfl,hz,q⟩:=h;obtain⟨t,rfl⟩:=rx;obtain⟨l,rfl,rfl⟩:=zfe pl;obtain⟨u,rfl,rfl⟩:=zfe pu;have hs':s.heap.IsSlice sl l u none:=hs;refine⟨"str",_,F.slot_str_getitem.lookup,typeIs_str _ _ _,wpAny_getItem_str_slice (l:=l) (u:=u) (st:=none) hs' rfl (post_val_or_str ?_)⟩;have e:(if (((none:Option (Int×Tok)).map (·.1)).getD 1 == 1&&(slicePicked z l u none).length == z.length)=true then z else⟨((slicePicked z l u none).filterMap (z.cps[·]?)).toArray⟩)=Txt.slice z (l.map (·.1)) (u.map (·.1)):=rfl
 rw[e];refine⟨Nat.le_trans (Txt.slice_le z _ _) hz,fun t' k=>⟨.str (Txt.slice z (l.map (·.1)) (u.map (·.1))),H,I.tok _,⟨_,rfl⟩,?_⟩⟩
 rw[zjo];exact q
def oSlA(t:PyData)(lo hi:Option Int)(R:PyData->Prop):Prop:=match t with
 | .tuple ts=>R (.tuple (cutD ts lo hi))
 | .str x=>x.length<=16777216/\R (.str (cutS x lo hi))
 | _=>False
def dSlA(d:DTE)(dl du:DTO):DTE:=fun ρ n R=>d ρ n fun t n1=>dl ρ n1 fun lo n2=>du ρ n2 fun hi n3=>oSlA t lo hi fun z=>R z n3
variable{e a b iter tg:Expr}{d da db:DTE}{lo hi:Option Expr}{dlo dhi:DTO}{pos p2:Pos}
theorem Qh(h:DL X e d)(hl:DP X lo dlo)(hu:DP X hi dhi):DE X (.Subscript e (.Slice lo hi none p2) pos) (dSlA d dlo dhi):=by
 obtain⟨ta,pa,h⟩:=h;obtain⟨tl,pl,hl⟩:=hl;obtain⟨tu,pu,hu⟩:=hu;refine⟨_,zh5 (SlR.or (SlR.or zoF zmY) zoG) pa pl pu,fun C ρ σ H n Q R S hd hq=>?_⟩
 refine h C ρ σ H n _ _ S hd fun t n1 v H1 r1 e1 h1 q1=>?_
 have S1:=S.on e1 h1;refine hl C ρ σ H1 n1 _ _ S1 r1 fun lo n2 H2 r2 e2 h2=>?_
 have S2:=S1.on e2 h2;refine hu C ρ σ H2 n2 _ _ S2 r2 fun hi n3 H3 r3 e3 h3=>?_
 have S3:=S2.on e3 h3;have q3:=(e2.trans e3).repT S.hx q1;cases t with
 | tuple ts =>
  obtain⟨a,vs,rfl,hs,rs⟩:=q3.tupI
  by_cases w:HT.sIx vs.length 0 lo=0/\HT.sIx vs.length vs.length hi=vs.length
  ·refine .inl (.inr ⟨a,vs,rfl,hs,w,hq _ n3 _ H3 r3 (e1.trans (e2.trans e3)) h3 ?_⟩);rw[zi4 (by rw[<- rs.length];exact w)]
   exact q3.rep (by intro _ z;cases z)
  ·refine .inl (.inl ⟨a,vs,rfl,hs,w,fun p hp=>hq _ n3 _ _ r3 (e1.trans (e2.trans (e3.trans (ExtE.new hp)))) (h3.same (JU hp)) ?_⟩)
   exact .newT (S3.free hp) hp (zir rs lo hi)
 | str z =>
  rw[q3.strI];exact .inr ⟨z,rfl,r3.1,hq _ n3 _ H3 r3.2 (e1.trans (e2.trans e3)) h3 (.str _)⟩
 | _=>exact r3.elim
def repS(x:Str)(n:Int):Str:=⟨(List.replicate n.toNat x.cps.toList).flatten.toArray⟩
theorem zgJ(x:Array Nat):∀(n:Nat) (acc:Array Nat),(List.replicate n x).foldl (·++·) acc=(acc.toList++(List.replicate n x.toList).flatten).toArray
 | 0,acc=>by simp
 | n+1,acc=>by
  rw[List.replicate_succ,List.foldl_cons,zgJ x n,List.replicate_succ,List.flatten_cons];simp
theorem znn:OpR X (binaryOp .Mult) (fun x y H Q=>∃i j,x=.str i/\y=.int j/\-100000<=j/\j<=100000/\i.length<=100/\Q (.str (repS i j)) H):=by
 intro pins s σ H x y v u Q I rx ry h;obtain⟨i,j,rfl,rfl,j0,j1,hi,q⟩:=h;obtain⟨t,rfl⟩:=rx;obtain⟨t',rfl⟩:=ry;have e0:decide (j < -(2 ^ 63:Int))=false:=decide_eq_false (by lia)
 have e1:decide (j>=2 ^ 63)=false:=decide_eq_false (by lia)
 have bnd:∀n:Nat,n<=100000->i.length*n<=10000000:=fun n hn=>Nat.mul_le_mul hi hn
 refine P.mul_str (by rw[e0,e1];rfl) (fun h1 _ h2=>?_) (fun h1 _=>?_) ?_
 ·have h3:(100:Int)<=(2 ^ 63 - 1) / j:=by
   apply Int.le_ediv_of_mul_le (by lia)
   lia
  lia
 ·have:=bnd j.toNat (by lia)
  unfold tooLong;exact decide_eq_false (by have:sizeLine=16777216:=rfl;lia)
 ·by_cases c1:j<1
  ·rw[if_pos c1];have e:repS i j=Str.empty:=by
    unfold repS;rw[show j.toNat=0 by lia];rfl
   rw[e]at q;exact⟨by decide,.str Str.empty,H,I.tok _,⟨_,rfl⟩,q⟩
  ·rw[if_neg c1]
   by_cases c2:(j == 1||i.length == 0)=true
   ·rw[if_pos c2];have e:repS i j=i:=by
     unfold repS;rw[Bool.or_eq_true,beq_iff_eq,beq_iff_eq]at c2;rcases c2 with c2|c2
     ·subst c2;simp
     ·have z:i.cps.toList=[]:=List.length_eq_zero_iff.mp (by simpa[Str.length] using c2)
      have z':i.cps=#[]:=by
       have:=congrArg List.toArray z;simpa using this
      rw[z];have:(List.replicate j.toNat ([]:List Nat)).flatten=[]:=by simp
      rw[this,<- z']
    rw[e]at q;exact⟨.str i,H,I,⟨_,rfl⟩,q⟩
   ·rw[if_neg c2];have e:repS i j=⟨(List.replicate j.toNat i.cps).foldl (·++·) #[]⟩:=by
     unfold repS;rw[zgJ];simp
    rw[e]at q;refine⟨?_,.str _,H,I.tok _,⟨_,rfl⟩,q⟩;have:=bnd j.toNat (by lia)
    show(⟨(List.replicate j.toNat i.cps).foldl (·++·) #[]⟩:Str).length<=sizeLine
    rw[<- e];unfold repS Str.length;rw[List.size_toArray,List.length_flatten,List.map_replicate,List.sum_replicate_nat,Array.length_toList];have e3:sizeLine=16777216:=rfl;have e4:j.toNat*i.cps.size=i.length*j.toNat:=by rw[Nat.mul_comm];rfl
    lia
def Zw:G2
 | .int i,.int j,R=>CMul i j/\R (.int (i*j))
 | .str i,.int j,R=>-100000<=j/\j<=100000/\i.length<=100/\R (.str (repS i j))
 | _,_,_=>False
theorem zno:OpR X (binaryOp .Mult) (fun x y H Q=>(rI CMul fun i j=>.int (i*j)) x y H Q\/∃i j,x=.str i/\y=.int j/\-100000<=j/\j<=100000/\i.length<=100/\Q (.str (repS i j)) H):=OpR.or QU znn
theorem znY:Gp2 X (fun x y H Q=>(rI CMul fun i j=>.int (i*j)) x y H Q\/∃i j,x=.str i/\y=.int j/\-100000<=j/\j<=100000/\i.length<=100/\Q (.str (repS i j)) H) Zw:=by
 intro hd O H x y t u Q R dom rx ry g hq;unfold Zw at g;split at g
 ·rw[rx.intI,ry.intI];exact .inl ⟨_,_,rfl,rfl,g.1,hq _ _ H g.2 (Same.refl _) (.int _)⟩
 ·rw[rx.strI,ry.intI];exact .inr ⟨_,_,rfl,rfl,g.1,g.2.1,g.2.2.1,hq _ _ H g.2.2.2 (Same.refl _) (.str _)⟩
 ·exact g.elim
theorem zn8(ha:DL X a da)(hb:DL X b db):DE X (.BinOp a .Mult b pos) (dOp Zw da db):=Q8 zno znY ha hb
end
def Its(z:Str):It:=⟨fun i _=>i<z.cps.size,fun i H x H'=>H'=H/\∃c,z.cps[i]?=some c/\x=.str ⟨#[c]⟩,fun i _=>z.cps.size<=i⟩
theorem zlb{P:Program}{w:World}{K:qF}{tg:Expr}(z:Str)(t:Tok)(it:Addr)(T:String)(hT:T = "str_ascii_iterator" \/ T = "str_iterator"):Turn P w K tg (Its z) [it] it (fun i h=>h.IsStrIter it T z t i) where
 mem:=by simp
 obj:=fun i h st b hb=>by
  have e:b=it:=by simpa using hb
  subst e;obtain⟨o,e,c,d⟩:=st;exact⟨o,e,fun v z=>by rw[d]at z;cases z⟩
 keep:=fun i h h' st k=>by
  obtain⟨o,e,r⟩:=st;exact⟨o,k it (by simp) o e,r⟩
 item:=by
  intro X hP hw hK hc i pins s σ H E I hf st hg;subst hP hw hK;obtain⟨f0,f1,f2,f3,f4,f5⟩:=hf it (by simp)
  have hg:i<z.cps.size:=hg;have ec:z.cps[i]?=some z.cps[i]:=by simp[hg]
  have fin:∀h',h'.IsStrIter it T z t (i+1)->Heap.SameBut it s.heap h'->∃u,some (Value.str ⟨#[z.cps[i]]⟩ s.toks)=some u /\
    wpAny (model X.prog X.w) X.A (letOwnedTupleGo tg (.ref it) u) (fun _ s2=>∃x H',Inv X pins σ H' s2/\RelV x u/\(Its z).yld i H x H'/\s2.heap.IsStrIter it T z t (i+1)/\∀b∈[it],H' b=none) E { s with heap:=h',toks:=s.toks+1 }:=by
   intro h' st' sb;have I1:Inv X pins σ H { s with heap:=h',toks:=s.toks+1 }:=I.turned (t':=s.toks+1) (fun b o hb e=>(sb.2 b hb).trans e) f0 f1 f3 f4 f5
   obtain⟨o,e,c,d⟩:=id st';have ne:(T = "enumerate")=False:=by rcases hT with rfl|rfl <;> decide
   refine⟨_,rfl,Zy (s:={ s with heap:=h',toks:=s.toks+1 }) (n:=T) e c d (by rcases hT with rfl|rfl <;> decide) ⟨.str ⟨#[z.cps[i]]⟩,H,I1,⟨_,rfl⟩,⟨rfl,_,ec,rfl⟩,st',fun b hb=>(hf b hb).1⟩⟩
  rcases hT with rfl|rfl
  ·exact wpAny_pyNext_ascii_item st ec fin
  ·exact wpAny_pyNext_wide_item st ec fin
 done:=by
  intro X hP hw hK hc i pins s σ H E I hf st hg;subst hP hw hK;obtain⟨f0,f1,f2,f3,f4,f5⟩:=hf it (by simp)
  have hg:z.cps.size<=i:=hg;have ec:z.cps[i]?=none:=by simp[hg]
  rcases hT with rfl|rfl
  ·exact wpAny_pyNext_ascii_end (I.ok.hd hc) st ec fun h' eb=>⟨rfl,I.turned (t':=s.toks) (fun b o hb e=>eb b o hb e) f0 f1 f3 f4 f5⟩
  ·exact wpAny_pyNext_wide_end (I.ok.hd hc) st ec fun h' eb=>⟨rfl,I.turned (t':=s.toks) (fun b o hb e=>eb b o hb e) f0 f1 f3 f4 f5⟩
 self:=fun _ _ _ _ _ st h=>by
  rcases hT with rfl|rfl
  ·exact wpAny_pyIter_striter_ascii st h
  ·exact wpAny_pyIter_striter_wide st h
section
variable{X:Cx}{tg iter:Expr}{d:DTE}
def iStr(tl:TE):TI:=fun σ H R=>tl σ H fun x H1=>∃z,x=.str z/\R (Its z) H1
theorem zo7{l:Expr}{tl:TE}(hl:PE X l tl):PI X tg l (iStr tl):=by
 intro pins s σ H R I h;refine thn (hl pins s σ H _ I h) fun v s1 ⟨x,H1,I1,r1,q1⟩=>?_
 obtain⟨z,rfl,q⟩:=q1;obtain⟨t,rfl⟩:=r1;have key:∀T,(T = "str_ascii_iterator" \/ T = "str_iterator")->PIE X pins σ tg R (.ref s1.heap.objs.size) { s1 with heap:=s1.heap.push { cls:=.type T,data:=.fields #[.str z t,.int 0 0] } }:=by
  intro T hT;refine⟨s1.heap.objs.size,[s1.heap.objs.size],_,_,H1,rfl,I1.kept (t':=s1.toks) fun b o e=>Heap.get?_push_of_some _ e,zlb z t _ T hT,⟨_,Heap.get?_push_size _ rfl,rfl,rfl⟩,fun b hb=>?_,q⟩
  have e:b=s1.heap.objs.size:=by simpa using hb
  subst e;exact I1.fpOk (Nat.le_refl _) (I1.hok.fresh (Nat.le_refl _))
 cases ha:z.cps.all (·<128)
 ·exact wpAny_pyIter_wide ha (key _ (.inr rfl))
 ·exact wpAny_pyIter_ascii ha (key _ (.inl rfl))
def sgnD(z:Str):List PyData:=z.cps.toList.map fun c=>.str ⟨#[c]⟩
theorem zp3{K:qF}{hd:Option Addr}{P O:Addr->Prop}{H:Hp}{z:Str}:ItOk K hd P O H (Its z) (sgnD z):=by
 intro O2 H2 _ _ _;have sz:z.cps.toList.length=z.cps.size:=by simp
 refine⟨fun i t et=>?_,by show z.cps.size<=(sgnD z).length;unfold sgnD;rw[List.length_map];lia⟩
 unfold sgnD at et;rw[List.getElem?_map]at et;cases ec:z.cps.toList[i]? with
 | none=>rw[ec]at et;cases et
 | some c =>
  rw[ec]at et;cases et;obtain⟨hi,ec2⟩:=List.getElem?_eq_some_iff.mp ec;have hi':i<z.cps.size:=by lia
  have ec3:z.cps[i]?=some c:=by rw[<- Array.getElem?_toList];exact ec
  refine⟨hi',fun x H3 hy=>?_⟩
  obtain⟨rfl,c',e',rfl⟩:=hy;rw[ec3]at e';cases e';exact⟨Same.refl _,.str _⟩
def lStr:PyData->(Str->Prop)->Prop
 | .str z,R=>R z
 | _,_=>False
def dItS(d:DTE):DTA:=fun ρ n R=>d ρ n fun t n'=>lStr t fun z=>R (sgnD z) n'
theorem zmN(h:DE X iter d):DI X tg iter (dItS d):=by
 obtain⟨ta,pa,h⟩:=h;refine⟨_,zo7 pa,fun C ρ σ H n Q R S hd hq=>?_⟩
 refine h C ρ σ H n _ _ S hd fun t n' v H' r e1 hn q=>?_
 cases t with
 | str z =>
  rw[q.strI];exact⟨z,rfl,hq _ n' _ H' r e1 hn zp3⟩
 | _=>exact r.elim
end
section
variable{X:Cx}{a b:Expr}{rest:List Expr}{ta tb:TE}{da db:DTE}{pos:Pos}
def tOrA(K:qF)(ta tb:TE):TE:=fun σ H Q=>ta σ H fun x H1=>∃k,TruV K x H1 k/\if k=true then Q x H1 else tb σ H1 Q
theorem zpb(ha:PE X a ta)(hb:PE X (.BoolOp .Or (b::rest) pos) tb):PE X (.BoolOp .Or (a::b::rest) pos) (tOrA X.K ta tb):=by
 intro pins s σ H Q I h;refine BoolOp_or (thn (ha pins s σ H _ I h) fun v s1 ⟨x,H1,I1,r1,q1⟩=>?_)
 obtain⟨k,e,q1⟩:=q1;refine thn (zmn pins s1 σ H1 x v (fun c H'=>c=k/\H'=H1) I1 r1 ⟨k,e,rfl,rfl⟩) fun c s2 h2=>?_
 obtain⟨H2,I2,rfl,rfl⟩:=h2;cases c with
 | false=>exact hb pins s2 σ H2 Q I2 q1
 | true=>exact⟨x,H2,I2,r1,q1⟩
def dOrA(da db:DTE):DTE:=fun ρ n R=>da ρ n fun t n1=>truD t fun b=>if b=true then R t n1 else db ρ n1 R
theorem zqJ(h:DE X a da)(h':DE X (.BoolOp .Or (b::rest) pos) db):DE X (.BoolOp .Or (a::b::rest) pos) (dOrA da db):=by
 obtain⟨ta,pa,h⟩:=h;obtain⟨tb,pb,h'⟩:=h';refine⟨_,zpb pa pb,fun C ρ σ H n Q R S hd hq=>?_⟩
 refine h C ρ σ H n _ _ S hd fun t n1 v H1 r e1 h1 q1=>?_
 refine zmo (Q:=fun k H1=>if k=true then Q v H1 else tb σ H1 Q) (.inl q1) r fun b hb=>?_
 cases b with
 | true=>exact iteT (hq _ n1 _ H1 hb e1 h1 q1)
 | false=>exact iteF (h' C ρ σ H1 n1 Q R (S.on e1 h1) hb fun t n2 v H2 r e2 h2 q2=>hq t n2 v H2 r (e1.trans e2) h2 q2)
end
section
variable{ρ:En}{n:Nat}{d da db:DTE}{dlo dhi:DTO}{R:qN}{Rl:List PyData->Nat->Prop}{Q:PyData->Prop}{xs:qD}{lo hi:Option Int}{x:Str}{i j:Int}{Ql:List PyData->Prop}
instance ztb:Stp (dOrA da db ρ n R) (da ρ n fun t n1=>truD t fun b=>if b=true then R t n1 else db ρ n1 R):=⟨fun h=>h⟩
instance zta:Stp (dSlA d dlo dhi ρ n R) (d ρ n fun t n1=>dlo ρ n1 fun lo n2=>dhi ρ n2 fun hi n3=>oSlA t lo hi fun z=>R z n3):=⟨fun h=>h⟩
instance zsW:Stp (oSlA (.tuple xs) lo hi Q) (Q (.tuple (cutD xs lo hi))):=⟨fun h=>h⟩
instance zsX:Stp (oSlA (.str x) lo hi Q) (x.length<=16777216/\Q (.str (cutS x lo hi))):=⟨fun h=>h⟩
instance zs0:Stp (Zw (.str x) (.int j) Q) (-100000<=j/\j<=100000/\x.length<=100/\Q (.str (repS x j))):=⟨fun h=>h⟩
instance ztc:Stp (dItS d ρ n Rl) (d ρ n fun t n'=>lStr t fun z=>Rl (sgnD z) n'):=⟨fun h=>h⟩
instance zs2 {Rs:Str->Prop}:Stp (lStr (.str x) Rs) (Rs x):=⟨fun h=>h⟩
end
mutual
def plnD:PyData->Bool
 | .dict []=>true
 | .dict _=>false
 | .tuple ts=>decide (ts.length<=1000000)&&Yu ts
 | .list ts=>decide (ts.length<=1000000)&&Yu ts
 | .str x=>decide (x.length<=1000000)
 | _=>true
def Yu:List PyData->Bool
 | []=>true
 | t::ts=>plnD t&&Yu ts
end
def PlnD(d:PyData):Prop:=plnD d=true
theorem Z3:∀{ts:qD},Yu ts=true↔∀t∈ts,PlnD t
 | []=>by simp[Yu]
 | t::ts=>by
  rw[Yu,Bool.and_eq_true,Z3 (ts:=ts)];constructor
  ·rintro⟨a,b⟩ u hu;rcases List.mem_cons.mp hu with rfl|hu
   ·exact a
   ·exact b u hu
  ·intro h;exact⟨h t (by simp),fun u hu=>h u (by simp[hu])⟩
theorem PlnD.tup{ts:qD}(h:PlnD (.tuple ts)):ts.length<=1000000/\∀t∈ts,PlnD t:=by
 unfold PlnD plnD at h;rw[Bool.and_eq_true,decide_eq_true_iff,Z3]at h;exact h
theorem PlnD.str{x:Str}(h:PlnD (.str x)):x.length<=1000000:=by
 unfold PlnD plnD at h;exact decide_eq_true_iff.mp h
theorem JW{ts:qD}(l:ts.length<=1000000)(h:∀t∈ts,PlnD t):PlnD (.tuple ts):=by
 unfold PlnD plnD;rw[Bool.and_eq_true,decide_eq_true_iff,Z3];exact⟨l,h⟩
theorem Zn{ts:qD}(l:ts.length<=1000000)(h:∀t∈ts,PlnD t):PlnD (.list ts):=by
 unfold PlnD plnD;rw[Bool.and_eq_true,decide_eq_true_iff,Z3];exact⟨l,h⟩
theorem QL{x:Str}(h:x.length<=1000000):PlnD (.str x):=by unfold PlnD plnD;exact decide_eq_true h
theorem Qr{i:Int}:PlnD (.int i):=by unfold PlnD plnD;rfl
theorem zef{i:Bool}:PlnD (.bool i):=by unfold PlnD plnD;rfl
theorem zee:PlnD .none:=by unfold PlnD plnD;rfl
theorem Qv:∀t∈([]:qD),PlnD t:=fun t h=>nomatch h
theorem JQ{x:PyData}{xs:qD}(h:PlnD x)(h':∀t∈xs,PlnD t):∀t∈x::xs,PlnD t:=fun t ht=>by
 rcases List.mem_cons.mp ht with rfl|ht
 ·exact h
 ·exact h' t ht
theorem QZ{xs ys:qD}(h:∀t∈xs,PlnD t)(h':∀t∈ys,PlnD t):∀t∈xs++ys,PlnD t:=fun t ht=>by
 rcases List.mem_append.mp ht with ht|ht
 ·exact h t ht
 ·exact h' t ht
theorem PlnD.pln{d:PyData}(h:PlnD d):Pln d:=by
 cases d with
 | dict ks =>
  cases ks with
  | nil=>exact Q0
  | cons a b=>cases a with|mk x y=>simp[PlnD,plnD]at h
 | none=>exact Q3
 | bool=>exact QM
 | int=>exact QN
 | str=>exact Q5
 | list=>exact Q1
 | tuple=>exact Q4
def IsNm(s:Str):Prop:=1<=s.length/\s.length<=8/\∀c∈s.cps.toList,97<=c/\c<=122
def nmS(s:Str):Bool:=decide (1<=s.length)&&decide (s.length<=8)&&s.cps.toList.all fun c=>decide (97<=c)&&decide (c<=122)
theorem ZO{s:Str}:nmS s=true↔IsNm s:=by
 unfold nmS IsNm;simp only[Bool.and_eq_true,decide_eq_true_iff,List.all_eq_true,and_assoc]
def nmD:PyData->Bool
 | .str s=>nmS s
 | _=>false
theorem Qj(s:Str):s.cps.toList.length=s.length:=by simp[Str.length]
theorem Y7{a b:Nat}:(([a]:List Nat)<[b])↔a<b:=by
 constructor
 ·intro h;cases h with
  | rel h=>exact h
  | cons h=>cases h
 ·intro h;exact .rel h
theorem zj8{a c:Nat}:(!decide (([c]:List Nat)<[a]))=decide (a<=c):=by
 rw[<- decide_not];exact decide_eq_decide.mpr (by rw[Y7];lia)
theorem zhW(a b:Str):(a++b).cps.toList=a.cps.toList++b.cps.toList:=by
 show(a.cps++b.cps).toList=_
 simp
theorem Str.ext'{a b:Str}(h:a.cps.toList=b.cps.toList):a=b:=by
 cases a with|mk a =>
 cases b with|mk b =>
 have:a=b:=Array.toList_inj.mp h;rw[this]
theorem zpP{x:Str}{i:Int}{k c:Nat}{R:PyData->Prop}(hl:x.length<=16777216)(hi:i=(k:Int))(e:x.cps.toList[k]?=some c)(h:R (.str ⟨#[c]⟩)):oIx (.str x) (.int i) R:=by
 subst hi;have a:atI x.cps.toList (k:Int)=some c:=Bd.zdC (by lia) (by simpa using e)
 show x.length<=16777216/\(match atI x.cps.toList (k:Int) with|some c=>R (.str ⟨#[c]⟩)|none=>False)
 rw[a];exact⟨hl,h⟩
theorem letters{k:Nat}(h:k<26):(Str.ofString "abcdefghijklmnopqrstuvwxyz").cps.toList[k]?=some (97+k):=by
 have:∀i:Fin 26,(Str.ofString "abcdefghijklmnopqrstuvwxyz").cps.toList[i.val]?=some (97+i.val):=by decide +kernel
 exact this ⟨k,h⟩
theorem zeI{x:Str}{i:Int}{k:Nat}(h:i=(k:Int)):(cutS x none (some i)).cps.toList=x.cps.toList.take k:=by
 subst h;unfold cutS;rw[HT.zcC,HT.zd4];simp only[List.drop_zero,Nat.sub_zero];rw[<- Qj x];simp[List.take_eq_take_iff]
theorem zgO{x:Str}{i:Int}{k:Nat}(h:i=(k:Int))(hk:k<=x.length):(cutS x (some i) none).cps.toList=x.cps.toList.drop k:=by
 subst h;unfold cutS;rw[HT.zcC,HT.zd4,Nat.min_eq_left hk];show(List.take _ (List.drop k x.cps.toList))=_
 rw[List.take_of_length_le (by rw[List.length_drop,Qj];lia)]
def OkK(k:Nat)(t:PyData):Prop:=t.canLay0=true/\t.depth<=k
theorem OkK.okd{k:Nat}{t:PyData}(h:OkK k t)(hk:k<=60:=by decide):Okd t:=⟨h.1,Nat.le_trans h.2 hk⟩
theorem zj0{i:Int}:OkK 0 (.int i):=⟨by simp[PyData.canLay0],by simp[PyData.depth]⟩
theorem znu{s:Str}(h:PyData.canLay0 (.str s)=true):OkK 0 (.str s):=⟨h,by simp[PyData.depth]⟩
theorem OkK.mono{k k':Nat}{t:PyData}(h:OkK k t)(l:k<=k'):OkK k' t:=⟨h.1,Nat.le_trans h.2 l⟩
theorem zhl{k:Nat}:∀{ts:qD},(∀t∈ts,OkK k t)->PyData.canLayAll0 ts=true/\PyData.depthAll ts<=k
 | [],_=>⟨by simp[PyData.canLayAll0],by simp[PyData.depthAll]⟩
 | t::ts,h=>by
  obtain⟨a,b⟩:=zhl (ts:=ts) fun u hu=>h u (by simp[hu])
  have c:=h t (by simp)
  refine⟨by simp[PyData.canLayAll0,c.1,a],?_⟩
  have:=c.2;simp only[PyData.depthAll];lia
theorem YQ{k:Nat}{ts:qD}(h:∀t∈ts,OkK k t):OkK (k+1) (.tuple ts):=by
 obtain⟨a,b⟩:=zhl h;exact⟨by simpa only[PyData.canLay0] using a,by simp only[PyData.depth];lia⟩
theorem znv{k:Nat}{ts:qD}(h:∀t∈ts,OkK k t):OkK (k+1) (.list ts):=by
 obtain⟨a,b⟩:=zhl h;exact⟨by simpa only[PyData.canLay0] using a,by simp only[PyData.depth];lia⟩
theorem zmy{b:Int×Int}:OkK 1 (prD b):=YQ fun t ht=>by
 simp only[List.mem_cons,List.not_mem_nil,or_false]at ht;rcases ht with rfl|rfl <;> exact zj0
theorem zpy{s:Str}(h:IsNm s):OkK 0 (.str s):=znu (by
 simp only[PyData.canLay0];show(s.cps.all (·<0x110000))=true
 rw[<- Array.all_toList,List.all_eq_true];intro c hc;have:=h.2.2 c hc;exact decide_eq_true (by lia))
theorem zl9{xs:qD}:PyData.eqv (.list xs) (.list [])=xs.isEmpty:=by
 cases xs with
 | nil=>rfl
 | cons a b=>rfl
theorem zeJ{α:Type}{cs:List α}{D:α->PyData}{tg:DTG}{tt:DTT}{d:DTE}{ρ0:En}{n:Nat}{Rl:List PyData->Nat->Prop}(p:α->Bool)(F:α->PyData)(hl:cs.length<=16777216)
  (step:∀b∈cs,∀(K:qN) (X:Nat->Prop),(p b=true->K (F b) n)->(p b=false->X n)->tg (D b) ρ0 fun ρ1=>tt ρ1 n fun c n2=>if c=true then d ρ1 n2 K else X n2) (fin:Rl ((cs.filter p).map F) n):Qs tg tt d ρ0 (cs.map D) [] n Rl:=by
 refine zkG (fun j acc m=>m=n/\acc=((cs.take j).filter p).map F) ⟨rfl,rfl⟩ ?_ ?_
 ·rintro j x acc m K ej ⟨rfl,rfl⟩ hK;rw[List.getElem?_map]at ej;cases eb:cs[j]? with
  | none=>rw[eb]at ej;cases ej
  | some b =>
   rw[eb]at ej;cases ej;obtain⟨hj,e2⟩:=List.getElem?_eq_some_iff.mp eb;have tk:cs.take (j+1)=cs.take j++[b]:=by rw[List.take_succ,eb];rfl
   refine step b (List.mem_of_getElem? eb) _ _ (fun hp=>⟨?_,hK _ _ ⟨rfl,?_⟩⟩) (fun hp=>hK _ _ ⟨rfl,?_⟩)
   ·have:=List.length_filter_le p (cs.take j);simp at this ⊢;lia
   ·rw[tk,List.filter_append,List.map_append];simp[hp]
   ·rw[tk,List.filter_append,List.map_append];simp[hp]
 ·rintro acc m ⟨rfl,rfl⟩;rw[List.length_map,List.take_length];exact fin
theorem zlq{x:Str}{n:Int}:(repS x n).cps.toList=(List.replicate n.toNat x.cps.toList).flatten:=rfl
theorem zpQ{xs:qD}{r:Int}{R:PyData->Prop}(r0:0<=r)(r1:r<xs.length)(h:∀x∈xs,R x):oIx (.list xs) (.int r) R:=by
 have hr:r.toNat<xs.length:=by omega
 rw[znH (Bd.zdC r0 (List.getElem?_eq_getElem hr))];exact h _ (List.getElem_mem hr)
theorem zpL{xs:qD}{r:Int}{R:PyData->Prop}(r0:0<=r)(r1:r<xs.length)(h:∀x∈xs,R x):oIx (.tuple xs) (.int r) R:=by
 have hr:r.toNat<xs.length:=by omega
 rw[Ys (Bd.zdC r0 (List.getElem?_eq_getElem hr))];exact h _ (List.getElem_mem hr)
theorem zmh{ts:qD}:cutD ts none (some (-1))=ts.take (ts.length - 1):=by
 unfold cutD;have e:HT.sIx ts.length ts.length (some (-1))=ts.length - 1:=by
  have:HT.sIx ts.length ts.length (some (-1))=if (-1:Int)<0 then((-1:Int)+(ts.length:Int)).toNat else min (-1:Int).toNat ts.length:=by
   first|rfl|(unfold HT.sIx;rfl)|(simp[HT.sIx];done)
  rw[this,if_pos (by decide)];omega
 rw[HT.zcC,e];simp
abbrev Run:=Int×Int
end L2
namespace Bd
open PySem L2
def ppD(xs:List (PyData×PyData)):List PyData:=xs.map fun p=>.tuple [p.1,p.2]
def oD(os:List ((Int×Int)×Str)):List PyData:=os.map fun p=>.tuple [prD p.1,.str p.2]
theorem JZ{os:List ((Int×Int)×Str)}:(oD os).length=os.length:=by simp[oD]
def Shr(bits:Int)(os:List ((Int×Int)×Str)):Prop:=Ptc bits (os.map (·.1))/\∀p∈os,IsNm p.2
def IsSh(bits:Int)(d:PyData):Prop:=∃os,d=.tuple (oD os)/\Shr bits os
theorem zpw(os:List ((Int×Int)×Str)):oD os=ppD (os.map fun p=>(prD p.1,.str p.2)):=by
 unfold oD ppD;rw[List.map_map];rfl
theorem zhe:∀{xs ys:List (PyData×PyData)},ppD xs=ppD ys->xs=ys
 | [],[],_=>rfl
 | [],_::_,h=>by cases h
 | _::_,[],h=>by cases h
 | (a,b)::xs,(c,d)::ys,h=>by
  simp only[ppD,List.map_cons,List.cons.injEq,PyData.tuple.injEq,and_true]at h;obtain⟨⟨rfl,rfl⟩,h⟩:=h;rw[zhe h]
def apB(a b:Int×Int):Prop:=eB a<=b.1\/eB b<=a.1
def okPr(p q:(Int×Int)×Str):Prop:=p.2=q.2\/apB p.1 q.1
def Agr(os ks:List ((Int×Int)×Str)):Prop:=∀p∈os,∀q∈ks,okPr p q
theorem zpx{os:List ((Int×Int)×Str)}{k:Nat}{p:(Int×Int)×Str}(h:os[k]?=some p):(oD os)[k]?=some (.tuple [.tuple [.int p.1.1,.int p.1.2],.str p.2]):=by
 unfold oD;rw[List.getElem?_map,h];rfl
theorem zqP{bits:Int}{a b:Int×Int}(A:IsBk bits a.1 a.2)(B:IsBk bits b.1 b.2):(!hldD a.1 a.2 b.1 b.2&&!hldD b.1 b.2 a.1 a.2)=true↔apB a b:=by
 rw[zqO A B,decide_eq_true_iff];unfold apB eB;omega
abbrev Deal:=Int×List ((Int×Int)×Str)×List ((Int×Int)×Str)
def dlD(d:Deal):PyData:=.tuple [.int d.1,.tuple (oD d.2.1),.tuple (oD d.2.2)]
def Dl(d:Deal):Prop:=1<=d.1/\d.1<=64/\Shr d.1 d.2.1/\Shr d.1 d.2.2/\Agr d.2.1 d.2.2
def IsDl(x:PyData):Prop:=∃d:Deal,x=dlD d/\Dl d
theorem dl3{a b c:PyData}{d:Deal}(e:PyData.tuple [a,b,c]=dlD d):a=.int d.1/\b=.tuple (oD d.2.1)/\c=.tuple (oD d.2.2):=by
 unfold dlD at e;simpa using e
theorem YK:∀{os ks:List ((Int×Int)×Str)},oD os=oD ks->os=ks
 | [],[],_=>rfl
 | [],_::_,h=>by cases h
 | _::_,[],h=>by cases h
 | ((a,b),c)::os,((a',b'),c')::ks,h=>by
  simp only[oD,List.map_cons,List.cons.injEq,PyData.tuple.injEq,PyData.int.injEq,PyData.str.injEq,and_true]at h;obtain⟨⟨⟨rfl,rfl⟩,rfl⟩,h⟩:=h;rw[YK h]
def nD(nms:List Str):List PyData:=nms.map .str
theorem ZI{os:List ((Int×Int)×Str)}{k:Nat}{t:PyData}(h:(oD os)[k]?=some t):∃p,os[k]?=some p/\t=.tuple [.tuple [.int p.1.1,.int p.1.2],.str p.2]:=by
 unfold oD at h;rw[List.getElem?_map]at h;cases e:os[k]? with
 | none=>rw[e]at h;cases h
 | some p=>rw[e]at h;cases h;exact⟨p,rfl,rfl⟩
end Bd
namespace L2
open PySem PySem.Spec PyProof.Rows
section
variable{X:Cx}{a b:Expr}{elts:List Expr}{x1:Nat}{p p' pos:Pos}
def Q9(xs:qD):List PyData:=xs.zipIdx.map fun q=>.tuple [.int (q.2:Int),q.1]
end
end L2
namespace L2
open PySem
section
variable{ρ:En}{n:Nat}{da:DTE}{R:List PyData->Nat->Prop}{Rl:List PyData->Prop}{xs:qD}
theorem zkp:(Q9 xs).length=xs.length:=by simp[Q9]
theorem zkq{k:Nat}{t:PyData}(h:(Q9 xs)[k]?=some t):∃x,xs[k]?=some x/\t=.tuple [.int (k:Int),x]:=by
 unfold Q9 at h;rw[List.getElem?_map,List.getElem?_zipIdx]at h;cases e:xs[k]? with
 | none=>rw[e]at h;cases h
 | some y=>rw[e]at h;cases h;exact⟨y,rfl,by simp⟩
end
end L2
namespace L2
open PySem PySem.Spec PyProof.Rows
theorem zgP{ts:qD}{i:Int}{k:Nat}(h:i=(k:Int)):cutD ts none (some i)=ts.take k:=by
 subst h;unfold cutD;rw[HT.zcC,HT.zd4];simp[List.take_eq_take_iff]
theorem zkB{ts:qD}{i:Int}{k:Nat}(h:i=(k:Int))(hk:k<=ts.length):cutD ts (some i) none=ts.drop k:=by
 subst h;unfold cutD;rw[HT.zcC,HT.zd4,Nat.min_eq_left hk,List.take_of_length_le (by simp)]
end L2
namespace L2
open PySem Bd
variable{as bs cs:List Run}{a b:Nat}
end L2
namespace L2
open PySem PySem.Spec PyProof.Rows
abbrev KT(H:Hp):List (List Key×V)->List (List Key×Addr×Value)->Prop:=Paired fun p q=>p.1=q.1/\H q.2.1=some (.tup (p.1.map kV))/\RelV p.2 q.2.2
end L2
namespace L2
open PySem PySem.Spec PyProof PyProof.Rows
abbrev KD:=List (Key×PyData)
section
variable{D:DEnds}{ρ ρ':En}{n i j:Nat}{d dk dv:DTE}{R:qN}{ks:KD}
instance{ks:KD}:CapC (some (.dct ks)) (some (.rdo ks)):=⟨rfl⟩
instance{ks:KD}:CapC (some (.rdo ks)) (some (.rdo ks)):=⟨rfl⟩
end
section
variable{X:Cx}
theorem zcS{α β:Type}{F:α->β->Prop}{l₁:List α}{l₂:List β}(r:Paired F l₁ l₂){b:β}(h:b∈l₂):∃a∈l₁,F a b:=by
 induction r with
 | nil=>cases h
 | cons f t ih =>
  rcases List.mem_cons.mp h with rfl|h
  ·exact⟨_,List.mem_cons_self,f⟩
  ·obtain⟨b,hb,g⟩:=ih h;exact⟨b,List.mem_cons_of_mem _ hb,g⟩
end
end L2
namespace Bd
open PySem L2
theorem zis{ts:qD}{lo hi:Option Int}{t:PyData}(h:t∈cutD ts lo hi):t∈ts:=by
 unfold cutD at h;exact List.mem_of_mem_drop (List.mem_of_mem_take h)
theorem Zg{ts:qD}{lo hi:Option Int}:(cutD ts lo hi).length<=ts.length:=by
 unfold cutD;rw[List.length_take,List.length_drop];lia
end Bd
namespace Bd
open PySem L2
def Dq(K:qF)(mg:qM)(x:Str)(st:Stmt)(ps:List Str):Prop:=∃f fd,Def K mg x st ps f fd
def Fq(P:Program)(w:World)(K:qF)(mg:qM)(base:Heap)(x:Str)(st:Stmt)(ps:List Str)(k:Nat)(sp:Sp):Prop:=∃f fd,Def K mg x st ps f fd/\FnOk P w K mg base CX0 k f fd ps sp
end Bd
namespace L2
open PySem PySem.Spec PyProof.Rows
section
variable{X:Cx}{x:Str}{st:Stmt}{ps:List Str}{k n m:Nat}{g:GD}{e:Expr}{es:List Expr}{ds:DTA}{p pos:Pos}
theorem Ji(F:Bd.Fq X.prog X.w X.K X.mg X.base x st ps k (spD X.K m g))(hr:Room n X.A)(h:DB X (e::es) ds)(hk:k<=n:=by decide)(hm:(e::es).length=m:=by rfl)(hg:Gl X x:=by rfl)
  (hdb:(x == ("__debug__":Str))=false:=by decide):DE X (.Call (.Name x p) (e::es) [] pos) (dFn g ds):=by
 obtain⟨f,fd,D,G⟩:=F;exact zsT D G (hr.mono hk) h hm hg hdb
theorem zqK(F:Bd.Fq X.prog X.w X.K X.mg X.base x st ps k (spD X.K m g))(hr:Room n X.A)(h:DBL X (e::es) ds)(hk:k<=n:=by decide)(hm:(e::es).length=m:=by rfl)(hg:Gl X x:=by rfl)
  (hdb:(x == ("__debug__":Str))=false:=by decide):DE X (.Call (.Name x p) (e::es) [] pos) (dFnL g ds):=by
 obtain⟨f,fd,D,G⟩:=F;exact zqL D G (hr.mono hk) h hm hg hdb
end
section
variable{X:Cx}{hx s kx x:Str}{st:Stmt}{ps:List Str}{k n:Nat}{p p1 p2 p3 pos pos':Pos}{sts:List Stmt}{u:DTS}
theorem zks{i j:Nat}(F:Bd.Fq X.prog X.w X.K X.mg X.base hx st ps k (ZG X.K))(hr:Room n X.A)(hN:X.N.Nodup)(hi:X.N[i]?=some x)(hlx:Loc X.env.scope x)(hu:DSs X sts u)(hk:k<=n:=by decide)(hij:i≠0:=by decide)(hj0:j≠0:=by decide)(hji:j≠i:=by decide)
  (h0:X.N[0]?=some s:=by rfl) (hj:X.N[j]?=some kx:=by rfl) (hv0:Vis X.env.scope s:=by walk_at "V") (hvj:Vis X.env.scope kx:=by walk_at "V")
  (hd0:(s == ("__debug__":Str))=false:=by decide) (hcd0:(s == ("__classdict__":Str))=false:=by decide) (hdj:(kx == ("__debug__":Str))=false:=by decide) (hcdj:(kx == ("__classdict__":Str))=false:=by decide) (hg:Gl X hx:=by rfl) (hdb:(hx == ("__debug__":Str))=false:=by decide)
  (hs:swapsWith (.Call (.Name hx p) [.Name s p1,.Name kx p2] [] p3) (some (.Name x pos')) pos.line X.env=pure false:=by rfl) (hf:X.fn x=true\/X.env.scope.names.lookup x=some .local:=by walk_at "F") :
  DSs X (.Assign [.Name x pos'] (.Call (.Name hx p) [.Name s p1,.Name kx p2] [] p3) pos::sts) (Yv i j u):=by
 obtain⟨f,fd,D,G⟩:=F;exact zma D G (hr.mono hk) hN hi hlx hu hij hj0 hji h0 hj hv0 hvj hd0 hcd0 hdj hcdj hg hdb hs hf
end
end L2
namespace Bd
open PySem L2
section
variable{K:qF}{h:Heap}{mg:qM}{x:Str}{st:Stmt}{ps:List Str}
abbrev BndA(x:Str)(st:Stmt)(ps:List Str):Prop:=∀(kV doc pm:Value) (an:Option Addr) (cdv ct:Value) (us:List Value),us.length=ps.length->bindArgs (PySem.W.fnOf x x (QC st) (Qi st) (Jl st) .none kV doc pm an cdv ct) ⟨us,[]⟩=pure (ps.zip us)
theorem len1:∀{us:List Value},us.length=1->∃a,us=[a]
 | [a],_=>⟨a,rfl⟩
theorem len2:∀{us:List Value},us.length=2->∃a b,us=[a,b]
 | [a,b],_=>⟨a,b,rfl⟩
theorem len3:∀{us:List Value},us.length=3->∃a b c,us=[a,b,c]
 | [a,b,c],_=>⟨a,b,c,rfl⟩
theorem len4:∀{us:List Value},us.length=4->∃a b c d,us=[a,b,c,d]
 | [a,b,c,d],_=>⟨a,b,c,d,rfl⟩
end
end Bd
namespace L2
open PySem PySem.Spec PyProof.Rows
section
variable{prog:Program}{w:World}{A:Around}{E:qV}{s:Shared}{z TI TO i1 i2 a1 a2:Addr}{I1 I2:Nat->Heap->Prop}{S1 S2:Heap->Array Value->Prop}
theorem zn5{e it:Addr}{i:Nat}{x old:Value}{P:Heap->Prop}{Q:qV}(he:IsEnum s.heap e it i old)
  (inner:∀(A':Around) (E':qV) (Q':qV),(∀h₁,P h₁->Q' x { s with heap:=h₁ })->wpAny (model prog w) A' (Builtin.SmallTypes.nextOf (.ref it)) Q' E' s)
  (pe:∀h₁,P h₁->IsEnum h₁ e it i old)
  (hQ:∀h₁ h',P h₁->IsEnumOut h' e it ((i:Int)+1) x h₁.objs.size->h'.get? h₁.objs.size=some { cls:=.type "tuple",data:=.seq #[.int i s.toks,x] }->h'.objs.size=h₁.objs.size+1 ->
   (∀b o,b≠e->h₁.get? b=some o->h'.get? b=some o)->Q (.ref h₁.objs.size) { s with heap:=h',toks:=s.toks+1 }) :
  wpAny (model prog w) A (Builtin.«enumerate.__next__» ⟨[.ref e],[]⟩) (fun fin s'=>∃v,fin=.done (.ret v)/\Q v s') E s:=by
 obtain⟨hp,g,d,tk,os⟩:=s;refine wpAny_bind (m:=field (.ref e) 2) (wpAny_field he rfl (x:=.ref it) rfl ?_);refine wpAny_bind (m:=Builtin.SmallTypes.nextOf (.ref it)) (inner _ _ _ fun h₁ hP=>?_)
 have E1:=pe h₁ hP;refine wpAny_bind (m:=field (.ref e) 3) (wpAny_field E1 rfl (x:=rawInt i) rfl ?_);refine wpAny_bind (m:=field (.ref e) 4) (wpAny_field E1 rfl (x:=.none) rfl ?_);refine wpAny_bind (m:=mkInt i) (wpAny_mkInt ?_);refine wpAny_bind (m:=setField (.ref e) 3 (rawInt ((i:Int)+1))) (wpAny_setField_rec E1 (by simp) fun h₂ E2 b2=>?_)
 have E2:IsEnum h₂ e it ((i:Int)+1) old:=E2;refine wpAny_bind (m:=setField (.ref e) 4 .none) (wpAny_setField_rec E2 (by simp) fun h₃ E3 b3=>?_)
 have E3:IsEnum h₃ e it ((i:Int)+1) old:=E3;have z2:h₂.objs.size=h₁.objs.size:=b2.1;have z3:h₃.objs.size=h₁.objs.size:=(show h₃.objs.size=h₂.objs.size from b3.1).trans z2
 have k3:∀b o,b≠e->h₁.get? b=some o->h₃.get? b=some o:=fun b o n q=>b3.extBut b o n (b2.extBut b o n q)
 refine wpAny_bind (m:=newTuple [.int i tk,x]) (wpAny_newTuple ?_);have el:e<h₃.objs.size:=Heap.lt_size E3;have ht:(h₃.push { cls:=.type "tuple",data:=.seq #[.int i tk,x] }).get? h₃.objs.size=some { cls:=.type "tuple",data:=.seq #[.int i tk,x] }:=Heap.get?_push_size _ rfl;have E4:IsEnum (h₃.push { cls:=.type "tuple",data:=.seq #[.int i tk,x] }) e it ((i:Int)+1) old:=Heap.get?_push_of_some _ E3;refine wpAny_bind (m:=Builtin.SmallTypes.ownedTupleIsFree (.ref e)) ?_
 unfold Builtin.SmallTypes.ownedTupleIsFree;refine wpAny_bind (wpAny_field E4 rfl (x:=.none) rfl (wpAny_pure ?_));simp only[if_true];refine wpAny_bind (wpAny_rule (wpAny_bind (wpAny_field E4 rfl (x:=old) rfl (wpAny_bind (wpAny_setField_rec E4 (by simp) fun h₅ E5 b5=>?_)))))
 have E5:IsEnum h₅ e it ((i:Int)+1) x:=E5;refine wpAny_bind (m:=Builtin.SmallTypes.ownedTupleHandOut (.ref e) (.ref h₃.objs.size)) ?_;unfold Builtin.SmallTypes.ownedTupleHandOut;refine wpAny_bind (wpAny_setField_rec E5 (by simp) fun h₆ E6 b6=>?_)
 have E6:IsEnumOut h₆ e it ((i:Int)+1) x h₃.objs.size:=E6;refine wpAny_setField_rec E6 (by simp) fun h₇ E7 b7=>?_
 have E7:IsEnumOut h₇ e it ((i:Int)+1) x h₃.objs.size:=E7;have k7:∀b o,b≠e->(h₃.push { cls:=.type "tuple",data:=.seq #[.int i tk,x] }).get? b=some o->h₇.get? b=some o:=fun b o n q=>b7.extBut b o n (b6.extBut b o n (b5.extBut b o n q))
 have z7:h₇.objs.size=h₃.objs.size+1:=by
  have a5:h₅.objs.size=_:=b5.1;have a6:h₆.objs.size=_:=b6.1;have a7:h₇.objs.size=_:=b7.1;rw[a7,a6,a5,Heap.size_push]
 have fin:=hQ h₁ h₇ hP (by rw[<- z3];exact E7) (by rw[<- z3];exact k7 _ _ (Nat.ne_of_gt el) ht) (by rw[z7,z3]) fun b o n q=>k7 b o n (Heap.get?_push_of_some _ (k3 b o n q))
 rw[<- z3]at fin;exact wpAny_bind (wpAny_letGo (wpAny_pure ⟨_,rfl,fin⟩))
end
end L2
namespace L2
open PySem PySem.Spec PyProof PyProof.Rows
section
variable{prog:Program}{w:World}{A:Around}{E:qV}{s:Shared}
theorem PrIn.tk{h:Heap}{p:Addr}{b k:Int}(x:PrIn h (.ref p) b k):IsTupleKey (YO prog w) h [.inl b,.inl k] p:=by
 obtain⟨a,o,t,t',n,e0,e1,e2,e3⟩:=x;cases e0;exact⟨o,_,n,e1,e2,e3,.cons (zgs b t) (.cons (zgs k t') .nil)⟩
theorem zko{p q:Addr}{b k b' k':Int}(hu:A.units<cLine)(x:PrIn s.heap (.ref p) b k)(y:PrIn s.heap (.ref q) b' k'):SeqAt.EqAt A s (.ref p) (.ref q) (decide (b=b'/\k=k')):=fun prog w E Q h=>by
 refine wpAny_eqBool_tuple (knd:=YO prog w) hu x.tk y.tk ?_;have:decide (([Sum.inl b,Sum.inl k]:List Key)=[Sum.inl b',Sum.inl k'])=decide (b=b'/\k=k'):=by
  rw[decide_eq_decide];constructor
  ·intro z;cases z;exact⟨rfl,rfl⟩
  ·rintro⟨rfl,rfl⟩;rfl
 rw[this];exact h
theorem znC{p q:Addr}{b k b' k':Int}(hu:A.units<cLine)(x:PrIn s.heap (.ref p) b k)(y:PrIn s.heap (.ref q) b' k'):LtAt prog w A s false (.ref p) (.ref q) (HT.lexLt [b,k] [b',k']):=fun E Q h=>by
 obtain⟨a,o,t,t',n,e0,e1,e2,e3⟩:=x;obtain⟨a',o',u,u',n',f0,f1,f2,f3⟩:=y;cases e0;cases f0;rw[oneLt'_eq];simp only[Bool.false_eq_true,if_false];refine wpAny_bind (show wpAny (model prog w) A (compareOp .Lt (.ref p) (.ref q)) _ E s from HT.ze_ ⟨o,e1,e2,n,e3⟩ ⟨o',f1,f2,n',f3⟩ (.cons _ _ (.cons _ _ .nil)) (.cons _ _ (.cons _ _ .nil)) hu ?_)
 exact wpAny_truthy_bool h
theorem znD{a b c d:Int}:HT.lexLt [a,b] [c,d]=decide (a<c\/(a=c/\b<d)):=by
 have e:HT.lexLt [a,b] [c,d]=if a=c then(if b=d then false else decide (b<d)) else decide (a<c):=rfl
 rw[e];split
 ·rename_i h;subst h;split
  ·symm;rw[decide_eq_false_iff_not];lia
  ·rw[decide_eq_decide];lia
 ·rw[decide_eq_decide];lia
end
theorem zlo{α:Type}{P:α->Value->Prop}{rk:Value->Int}{f:α->Int}{vs:List Value}{as:List α}{y:SortSt}(hv:Paired P as vs)(hr:∀a v,P a v->rk v=f a)(pm:(arrOf y).Perm (pairsOf vs))(up:Up rk (arrOf y) vs.length) :
  ∃bs:List α,bs.Perm as/\bs.Pairwise (fun a b=>f a<=f b)/\Paired P bs ((arrOf y).map (·.2)).toList:=by
 have pml:(arrOf y).toList.Perm (vs.zip vs):=by
  have:=Array.perm_iff_toList_perm.mp pm;simpa[pairsOf] using this
 have hl:as.length=vs.length:=Paired.length hv;have each:∀x∈as.zip vs,P x.1 x.2:=by
  clear pm up pml hl;induction hv with
  | nil=>intro x hx;simp at hx
  | cons h t ih =>
   intro x hx;rcases List.mem_cons.mp (by simpa using hx) with rfl|hx
   ·exact h
   ·exact ih x hx
 have pm1:((arrOf y).toList.map (·.2)).Perm ((as.zip vs).map (·.2)):=by
  refine(pml.map _).trans ?_;rw[List.map_snd_zip (Nat.le_refl _),List.map_snd_zip (by lia)]
 obtain⟨ws,p1,p2⟩:=zfx pm1;have eachw:∀x∈ws,P x.1 x.2:=fun x hx=>each x (p1.mem_iff.mp hx)
 have fst_snd:∀z∈(arrOf y).toList,z.1=z.2:=fun z hz=>by
  have:z∈vs.zip vs:=pml.mem_iff.mp hz;obtain⟨i,hi,rfl⟩:=List.getElem_of_mem this;simp
 have szy:(arrOf y).size=vs.length:=by
  have:=pml.length_eq;simpa using this
 refine⟨ws.map (·.1),?_,?_,?_⟩
 ·have:=p1.map (·.1)
  rwa [List.map_fst_zip (by lia)]at this
 ·rw[List.pairwise_map,List.pairwise_iff_getElem];intro i j hi hj hij;have lw:ws.length=vs.length:=by
   have:=congrArg List.length p2;simpa[szy] using this
  have gw:∀k (hk:k<ws.length),rkAt rk (arrOf y) k=f ws[k].1:=fun k hk=>by
   have hk':k<(arrOf y).size:=by lia
   have e1:(arrOf y).toList[k]'(by simpa using hk')=(arrOf y)[k]:=by simp
   have e2:ws[k].2=(arrOf y)[k].2:=by
    have:(ws.map (·.2))[k]'(by simpa using hk)=((arrOf y).toList.map (·.2))[k]'(by simpa using hk'):=by simp only[p2]
    simpa using this
   have e3:(arrOf y)[k].1=(arrOf y)[k].2:=fst_snd _ (by rw[<- e1];exact List.getElem_mem _)
   unfold rkAt;rw[Array.getElem?_eq_getElem hk'];simp only[Option.map_some,Option.getD_some];rw[e3,<- e2];exact hr _ _ (eachw _ (List.getElem_mem _))
  have:=up i j hij (by lia)
  rwa [gw i hi,gw j hj]at this
 ·rw[Array.toList_map,<- p2];clear p1 p2 pm1 pm up;induction ws with
  | nil=>exact .nil
  | cons a l ih=>exact .cons (eachw a (.head _)) (ih fun x hx=>eachw x (.tail _ hx))
section
variable{prog:Program}{w:World}{A:Around}{E:qV}{s:Shared}{rk:Value->Int}
theorem zhm{h:Heap}{vs:List Value}{b:Addr}{o:Obj}(hb:h.get? b=some o):(midH (h.push (seqObj "list" vs.toArray 0)) h.objs.size vs).get? b=some o:=by
 have hlt:b<h.objs.size:=Heap.lt_size hb;unfold midH;rw[Heap.get?_push_ne _ _ _ (by rw[size_push',Heap.size_update,size_push'];lia),Heap.get?_push_ne _ _ _ (by rw[Heap.size_update,size_push'];lia),Heap.get?_update_ne _ _ _ _ (Nat.ne_of_lt hlt),Heap.get?_push_ne _ _ _ (Nat.ne_of_lt hlt)]
 exact hb
theorem zjn{vs:List Value}{P:qV}(h64:vs.length<64)(hk:Kinds prog w A { s with heap:=midH (s.heap.push (seqObj "list" vs.toArray 0)) s.heap.objs.size vs } rk vs)
  (h:∀h' (y:SortSt) (e:Nat),(∀b o,s.heap.get? b=some o->h'.get? b=some o)->(arrOf y).Perm (pairsOf vs)->Up rk (arrOf y) vs.length->h'.get? s.heap.objs.size=some (seqObj "list" ((arrOf y).map (·.2)) e)->P .none { s with heap:=h' }) :
  wpAny (model prog w) A (Builtin.«list.sort» ⟨[.ref s.heap.objs.size],[]⟩) (fun f s'=>∃v,f=.done (.ret v)/\P v s') E { s with heap:=s.heap.push (seqObj "list" vs.toArray 0) }:=by
 have o3:(s.heap.push (seqObj "list" vs.toArray 0)).get? s.heap.objs.size=some (seqObj "list" vs.toArray 0):=Heap.get?_push_size _ rfl;refine zib (s:={ s with heap:=s.heap.push (seqObj "list" vs.toArray 0) }) o3 h64 hk fun y p1 p2=>⟨_,rfl,?_⟩
 obtain⟨e,he⟩:=sortedHeap_at (out:=(arrOf y).map (·.2)) o3;refine h _ y e (fun b o hb=>?_) p1 p2 he
 have lt:=Heap.lt_size hb;rw[sortedHeap_old (Nat.ne_of_lt lt) (by rw[size_push'];exact Nat.lt_succ_of_lt lt),Heap.get?_push_ne _ _ _ (Nat.ne_of_lt lt)]
 exact hb
end
section
variable{prog:Program}{w:World}{A:Around}{E:qV}{s:Shared}{rk:Heap->Value->Int}
theorem ziE{x:Value}{C:Heap->Nat->List Value->Prop}{Q:qV}(hcol:∀(A':Around) (E':qV) (Q':List Value->Shared->Prop),A'.handled=A.handled->(∀h' tk vs,C h' tk vs->Q' vs { s with heap:=h',toks:=tk })->wpAny (model prog w) A' (collect x) Q' E' s)
  (h64:∀h' tk vs,C h' tk vs->vs.length<64)
  (hk:∀h' tk vs (A':Around),C h' tk vs->A'.units<=A.units+16->Kinds prog w A' { s with heap:=midH (h'.push (seqObj "list" vs.toArray 0)) h'.objs.size vs,toks:=tk } (rk h') vs)
  (h:∀h' tk vs h2 (y:SortSt) (e:Nat),C h' tk vs->(∀b o,h'.get? b=some o->h2.get? b=some o)->(arrOf y).Perm (pairsOf vs)->Up (rk h') (arrOf y) vs.length->h2.get? h'.objs.size=some (seqObj "list" ((arrOf y).map (·.2)) e)->Q (.ref h'.objs.size) { s with heap:=h2,toks:=tk }) :
  wpAny (model prog w) A (call (.builtin "sorted") [x]) Q E s:=by
 have hs:64<=sizeLine:=by decide
 refine Calls.call_function_entry kind_sorted plain_sorted entry_sorted (args_sorted1 _) ?_;unfold Builtin.«sorted»;refine wpAny_bind (m:=checkCount "sorted" 1 1 _) (wpAny_pure (wpAny_bind (hcol _ _ _ rfl fun h' tk vs c=>?_)))
 have l64:=h64 h' tk vs c;refine wpAny_bind (wpAny_newList (hsz:=by show vs.toArray.size<=_;rw[List.size_toArray];lia) ?_)
 have o3:(h'.push (seqObj "list" vs.toArray 0)).get? h'.objs.size=some (seqObj "list" vs.toArray 0):=Heap.get?_push_size _ rfl;refine wpAny_bind (wpAny_holding (wpAny_call_entry slot_list_sort ⟨_,o3,rfl⟩ entry_list_sort ?_ (args_list_sort _)));refine zjn (s:={ s with heap:=h',toks:=tk }) l64 (hk h' tk vs _ c (by show A.units+1+1<=_;lia)) fun h2 y e kp p1 p2 he=>?_
 exact wpAny_pure ⟨_,rfl,h h' tk vs h2 y e c kp p1 p2 he⟩
end
section
variable{X:Cx}
theorem zrC{pins:qO}{σ:St}{H:Hp}{s:Shared}{q:Addr}{b k:Int}(I:Inv X pins σ H s)(h:SqT X.K H q [.int b,.int k]):PrIn s.heap (.ref q) b k:=by
 obtain⟨is,rs,⟨o,f1,f2,n,f3⟩,_⟩:=I.tuple h;cases rs with
 | cons a1 a2 =>
  cases a2 with
  | cons a3 a4 =>
   cases a4;obtain⟨t,rfl⟩:=a1;obtain⟨t',rfl⟩:=a3;exact⟨q,o,t,t',n,rfl,f1,f2,f3⟩
end
section
variable{K:qF}{hd:Option Addr}{O:Addr->Prop}{H:Hp}{zs:ZT}{ks:KT2}
theorem Rep.bkI{v:V}{a b:Int}(h:Rep K hd O H v (.tuple [.int a,.int b])):∃q,v=.ref q/\SqT K H q [.int a,.int b]:=by
 obtain⟨q,vs,rfl,sq,rp⟩:=h.tupI;cases rp with
 | cons x1 x2 =>
  cases x2 with
  | cons x3 x4 =>
   cases x4;rw[x1.intI,x3.intI]at sq;exact⟨q,rfl,sq⟩
end
end L2
namespace L2
open PySem
abbrev RL:=List ((Int×Int)×Int)
end L2
namespace Bd
open PySem PySem.W PySem.Calls L2 PyProof.Rows
structure ZZ where
 P:Program
 w:World
 K:qF
 mg:Str->Option Value
 base:Heap
def FQ(Z:ZZ)(x:Str)(st:Stmt)(ps:List Str)(k:Nat)(sp:Sp):Prop:=Fq Z.P Z.w Z.K Z.mg Z.base x st ps k sp
theorem okQ{Z:ZZ}{x:Str}{st:Stmt}{ps N:List Str}{k m:Nat}{g:GD}(D:Dq Z.K Z.mg x st ps)(S:FnScope N ps (Jl st))(hm:m=ps.length)
  (hb:∀(f:Addr) (cdv:Value) (A:Around) (outer:List Env) (s:Shared) (H:Hp) (E:XK),Room k (A.deeper (envOfC x (Jl st) s.heap.objs.size f cdv))->∃d,DSs (cxOf CX0 Z.P Z.w Z.K Z.mg Z.base N x (Jl st) f cdv A outer s H E).nox (Qi st) d /\
   ∀ts n R,ts.length=m->g ts n R->d { nx:=fun _ n'=>R .none n',rt:=R } (JY N ts) n):FQ Z x st ps (k+1) (spD Z.K m g):=by
 obtain⟨f,fd,D⟩:=D;exact⟨f,fd,D,D.okD S hm fun cdv A outer s H E hr=>hb f cdv A outer s H E hr⟩
theorem bnd1{x:Str}{st:Stmt}{a:Str}(h:∀(kV doc pm:Value) (an:Option Addr) (cdv ct u:Value),bindArgs (PySem.W.fnOf x x (QC st) (Qi st) (Jl st) .none kV doc pm an cdv ct) ⟨[u],[]⟩=pure [(a,u)]):BndA x st [a]:=fun _ _ _ _ _ _ us hl=>by obtain⟨_,rfl⟩:=len1 hl;exact h ..
theorem bnd2{x:Str}{st:Stmt}{a b:Str}(h:∀(kV doc pm:Value) (an:Option Addr) (cdv ct u v:Value),bindArgs (PySem.W.fnOf x x (QC st) (Qi st) (Jl st) .none kV doc pm an cdv ct) ⟨[u,v],[]⟩=pure [(a,u),(b,v)]):BndA x st [a,b]:=fun _ _ _ _ _ _ us hl=>by obtain⟨_,_,rfl⟩:=len2 hl;exact h ..
theorem bnd3{x:Str}{st:Stmt}{a b c:Str}(h:∀(kV doc pm:Value) (an:Option Addr) (cdv ct u v y:Value),bindArgs (PySem.W.fnOf x x (QC st) (Qi st) (Jl st) .none kV doc pm an cdv ct) ⟨[u,v,y],[]⟩=pure [(a,u),(b,v),(c,y)]):BndA x st [a,b,c]:=fun _ _ _ _ _ _ us hl=>by obtain⟨_,_,_,rfl⟩:=len3 hl;exact h ..
theorem bnd4{x:Str}{st:Stmt}{a b c d:Str}(h:∀(kV doc pm:Value) (an:Option Addr) (cdv ct u v y z:Value),bindArgs (PySem.W.fnOf x x (QC st) (Qi st) (Jl st) .none kV doc pm an cdv ct) ⟨[u,v,y,z],[]⟩=pure [(a,u),(b,v),(c,y),(d,z)]):BndA x st [a,b,c,d]:=fun _ _ _ _ _ _ us hl=>by obtain⟨_,_,_,_,rfl⟩:=len4 hl;exact h ..
def Qp(h:Heap):qF:=(List.range h.objs.size).filterMap fun a=>(h.get? a).map fun o=>(a,o)
theorem zj6{h:Heap}:∀{as:List Addr}{a:Addr},a∈as->(as.filterMap fun a=>(h.get? a).map fun o=>(a,o)).lookup a=h.get? a\/h.get? a=none
 | [],_,m=>nomatch m
 | b::as,a,m=>by
  by_cases e:a=b
  ·subst e;cases g:h.get? a with
   | none=>exact .inr rfl
   | some o=>exact .inl (by rw[List.filterMap_cons];simp[g,List.lookup_cons])
  ·have m':a∈as:=(List.mem_cons.mp m).resolve_left e;rcases zj6 (h:=h) m' with z|z
   ·refine .inl ?_;rw[List.filterMap_cons];cases g:h.get? b with
    | none=>exact z
    | some o =>
     have:(a == b)=false:=by simpa using e
     simp only[Option.map_some];rw[List.lookup_cons,this];exact z
   ·exact .inr z
theorem zcX{h:Heap}{a:Addr}{o:Obj}(e:h.get? a=some o):(Qp h).lookup a=some o:=by
 have m:a∈List.range h.objs.size:=List.mem_range.mpr (Heap.lt_size e);rcases zj6 (h:=h) m with z|z
 ·exact z.trans e
 ·rw[e]at z;cases z
theorem zjd{h:Heap}:(Qp h).In h:=fun a o e=>by
 have key:∀(as:List Addr),(as.filterMap fun a=>(h.get? a).map fun o=>(a,o)).lookup a=some o->h.get? a=some o:=by
  intro as;induction as with
  | nil=>intro z;cases z
  | cons b as ih =>
   intro z;rw[List.filterMap_cons]at z;cases g:h.get? b with
   | none=>rw[g]at z;exact ih z
   | some ob =>
    rw[g]at z;simp only[Option.map_some,List.lookup_cons]at z;cases q:a == b with
    | true=>rw[q]at z;cases z;rw[eq_of_beq q];exact g
    | false=>rw[q]at z;exact ih z
 exact key _ e
def ZF:Stmt->Bool
 | .FunctionDef ..=>true
 | _=>false
def defName:Stmt->Str
 | .FunctionDef n _ _ _ _ _ _ _ _ _=>n
 | _=>Str.ofString ""
def zqE:Stmt->Pos
 | .FunctionDef _ _ _ _ _ _ _ _ _ p=>p
 | _=>⟨0,0,0,0⟩
def recD(st:Stmt):DefRec:=⟨defName st,QC st,Qi st,Jl st,zqE st⟩
theorem getD_mem{l:List Stmt}{i:Nat}(h:ZF (l.getD i (.Pass ⟨0,0,0,0⟩))=true):l.getD i (.Pass ⟨0,0,0,0⟩)∈l:=by
 rw[List.getD_eq_getElem?_getD]at h ⊢;cases e:l[i]? with
 | none=>rw[e]at h;cases h
 | some s=>exact List.mem_of_getElem? e
section
variable{q:Program}{loose:List Str}{mean:ExcName->Option Value}{mg mb:qM}{h:Heap}{x:Str}{st:Stmt}{ps:List Str}
theorem zkH{cd:Value}{n:Str}(c:h.CodeRec cd n):PySem.W.codeIn (Qp h) cd n=true:=by
 obtain⟨a,o,vs,t,rfl,g,d,e⟩:=c;unfold PySem.W.codeIn;dsimp only;rw[zcX g];obtain⟨oc,od,dd,sl⟩:=o;cases(show dd=_ from d)
 have l2:vs.toList[1]?=some (.str n t):=by simpa using e
 dsimp only
 match hv:vs.toList,l2 with
 | [],l2=>simp at l2
 | [_],l2=>simp at l2
 | a::b::r,l2 =>
  have:b=.str n t:=by simpa using l2
  subst this;simp
theorem dq_g(T:Top q loose mean mg mb h)(hd:recD st∈recsOf q)(hn:defName st=x)(hb:BndA x st ps):Dq (Qp h) mg x st ps:=by
 obtain⟨a,o,pm,cd,doc,h1,h2,h3,h4⟩:=T.fn _ hd;have h1:mg (defName st)=some (.ref a):=h1;have h4:h.CodeRec cd (defName st):=h4;rw[hn]at h1 h4;obtain⟨oc,od,dd,sl⟩:=o;have h3:dd=.func (docDef (defName st) (QC st) (Qi st) (Jl st) pm cd doc):=h3;rw[hn]at h3;have l:(Qp h).lookup a=some ⟨oc,od,.func (PySem.W.fnOf x x (QC st) (Qi st) (Jl st) .none .none doc pm none cd .none),sl⟩:=by
  rw[zcX h2,h3];rfl
 have kp:PySem.W.keepIn (Qp h) (.ref a)=true:=by
  unfold PySem.W.keepIn;dsimp only;rw[l]
 exact⟨a,_,zmJ l (zkH h4) kp,(zmJ l (zkH h4) kp).binds hb,h1⟩
end
theorem zrv{lw:PySem.W.OpenLaw}{q:Program}{loose:List Str}{XP:(Str->Option Value)->Heap->Prop}{YP:World->Heap->Prop}{d:DefRec}{k:Nat}(hk:k<=60)(hn:lw.most=some 63)(hdf:d.params.defaults=[])
  (F:∀(w:World) (s₀:Shared) (mg mb:qM) (fa:Addr) (h:Heap),Ground q loose [] XP w s₀ mg mb h->mg d.name=some (.ref fa) ->
   ∃fd:FuncData,(∀(s:Shared) (u:Value),BindsTo s fd ⟨[u],[]⟩ [("_law_script",u)])/\∀base:Heap,(Qp h).In base->base.Ns mainGlobals mg->FnOk lw.prog w (Qp h) mg base CX0 k fa fd ["_law_script"] (zmX (Qp h))) :
  PySem.W.WalkO q loose XP YP lw.row.toRowW d [] (fun f vs=>PySem.call f vs):=by
 refine Att.attach_call hn hdf fun w s₀ s₁ mg mb fa o pm cd doc a vs ns G Y ho hd hcd hmg hobj hints hlen hg=>?_
 obtain⟨fd,hb,hF⟩:=F w s₀ mg mb fa _ G hmg;exact zlS zjd G.T.g G.T.b G.T.builtins G.T.nolimit hg hobj hints (Nat.le_trans hlen (by decide)) ((show Room 60 callerA from⟨rfl,by decide,by decide,rfl⟩).mono hk) hF hb (fun H hO hS=>⟨a,ns,rfl,hS,hlen,fun _=>rfl⟩) fun H e s' z=>z
end Bd
namespace L2
open PySem PySem.Spec PyProof PyProof.Rows
abbrev BL:=List (Int×Int)
abbrev PR:=List ((Int×Int)×(Int×Int))
abbrev upH(b:Int×Int):Int×Int:=(Builtin.bitXor b.1 (2 ^ (b.2 - 1).toNat),b.2 - 1)
abbrev loH(b:Int×Int):Int×Int:=(b.1,b.2 - 1)
abbrev NP:=(Int×Int)×Str
def PsIn(h:Heap)(u:Value)(r:NP):Prop:=∃(a p:Addr) (o:Obj) (t:Tok) (n:Nat),u=.ref a/\h.get? a=some o/\o.cls=.type "tuple" /\ o.data=.seq #[.ref p,.str r.2 t] n/\PrIn h (.ref p) r.1.1 r.1.2
theorem PsIn.kept{h h':Heap}{u:Value}{r:NP}(p:PsIn h u r)(kp:∀b o,h.get? b=some o->h'.get? b=some o):PsIn h' u r:=by
 obtain⟨a,q,o,t,n,e0,e1,e2,e3,e4⟩:=p;exact⟨a,q,o,t,n,e0,kp _ _ e1,e2,e3,e4.kept kp⟩
theorem PsIn.uniq{h:Heap}{u:Value}{r r':NP}(p:PsIn h u r)(p':PsIn h u r'):r=r':=by
 obtain⟨a,q,o,t,n,rfl,e1,_,e2,⟨x,ox,t1,t2,m,x0,x1,_,x2⟩⟩:=p;obtain⟨a',q',o',t',n',e0,f1,_,f2,⟨y,oy,u1,u2,m',y0,y1,_,y2⟩⟩:=p';cases e0;rw[e1]at f1;cases f1;rw[e2]at f2
 injection f2 with f2 _
 have f2:=congrArg Array.toList f2;simp at f2;obtain⟨f3,f4,_⟩:=f2;cases x0;cases y0;subst f3;rw[x1]at y1;cases y1;rw[x2]at y2
 injection y2 with y2 _
 have y2:=congrArg Array.toList y2;simp at y2;exact Prod.ext (Prod.ext y2.1.1 y2.2.1) f4
def npLt(a b:NP):Bool:=if a.1=b.1 then decide (a.2.cps.toList<b.2.cps.toList) else decide (a.1.1<b.1.1\/(a.1.1=b.1.1/\a.1.2<b.1.2))
theorem ZS{a b:NP}:npLt a b=true↔(a.1.1<b.1.1\/(a.1.1=b.1.1/\(a.1.2<b.1.2\/(a.1.2=b.1.2/\a.2.cps.toList<b.2.cps.toList)))):=by
 unfold npLt;obtain⟨⟨a1,a2⟩,a3⟩:=a;obtain⟨⟨b1,b2⟩,b3⟩:=b;dsimp only
 by_cases e:(a1,a2)=(b1,b2)
 ·rw[if_pos e];cases e;simp
 ·rw[if_neg e,decide_eq_true_eq];have:¬(a1=b1/\a2=b2):=fun z=>e (by rw[z.1,z.2])
  constructor
  ·rintro(h|h)
   ·exact .inl h
   ·exact .inr ⟨h.1,.inl h.2⟩
  ·rintro(h|⟨h,h'|h'⟩)
   ·exact .inl h
   ·exact .inr ⟨h,h'⟩
   ·exact absurd ⟨h,h'.1⟩ this
theorem zod(x y:Str):x.cps.toList<y.cps.toList\/x=y\/y.cps.toList<x.cps.toList:=by
 by_cases h:x.cps.toList<y.cps.toList
 ·exact .inl h
 ·by_cases h':y.cps.toList<x.cps.toList
  ·exact .inr (.inr h')
  ·refine .inr (.inl (L2.Str.ext' ?_));exact List.le_antisymm (List.not_lt.mp h') (List.not_lt.mp h)
theorem zh9(a:NP):npLt a a=false:=by
 rw[Bool.eq_false_iff,ne_eq,ZS];rintro(h|⟨_,h|⟨_,h⟩⟩)
 ·omega
 ·omega
 ·exact List.lt_irrefl _ h
theorem zlN(a b:NP):npLt a b=true\/a=b\/npLt b a=true:=by
 rw[ZS,ZS];obtain⟨⟨a1,a2⟩,a3⟩:=a;obtain⟨⟨b1,b2⟩,b3⟩:=b;dsimp only;rcases Int.lt_trichotomy a1 b1 with h|rfl|h
 ·exact .inl (.inl h)
 ·rcases Int.lt_trichotomy a2 b2 with h|rfl|h
  ·exact .inl (.inr ⟨rfl,.inl h⟩)
  ·rcases zod a3 b3 with h|rfl|h
   ·exact .inl (.inr ⟨rfl,.inr ⟨rfl,h⟩⟩)
   ·exact .inr (.inl rfl)
   ·exact .inr (.inr (.inr ⟨rfl,.inr ⟨rfl,h⟩⟩))
  ·exact .inr (.inr (.inr ⟨rfl,.inl h⟩))
 ·exact .inr (.inr (.inl h))
theorem ziT{a b c:NP}(h:npLt a b=true)(h':npLt b c=true):npLt a c=true:=by
 rw[ZS]at h h' ⊢;rcases h with h|⟨e,h|⟨e2,h⟩⟩ <;> rcases h' with h'|⟨f,h'|⟨f2,h'⟩⟩
 ·exact .inl (by omega)
 ·exact .inl (by omega)
 ·exact .inl (by omega)
 ·exact .inl (by omega)
 ·exact .inr ⟨by omega,.inl (by omega)⟩
 ·exact .inr ⟨by omega,.inl (by omega)⟩
 ·exact .inl (by omega)
 ·exact .inr ⟨by omega,.inl (by omega)⟩
 ·exact .inr ⟨by omega,.inr ⟨by omega,List.lt_trans h h'⟩⟩
def npRk(rs:List NP)(r:NP):Int:=((rs.filter fun q=>npLt q r).length:Int)
theorem zkn{α:Type}{p q:α->Bool}{l:List α}(h:∀x,p x=true->q x=true):(l.filter p).length<=(l.filter q).length:=by
 induction l with
 | nil=>exact Nat.le_refl _
 | cons a l ih =>
  rw[List.filter_cons,List.filter_cons];cases e:p a
  ·cases q a
   ·exact ih
   ·exact Nat.le_succ_of_le ih
  ·rw[h a e];exact Nat.succ_le_succ ih
theorem zkm{α:Type}{p q:α->Bool}{l:List α}(h:∀x,p x=true->q x=true){a:α}(ha:a∈l)(h1:p a=false)(h2:q a=true):(l.filter p).length<(l.filter q).length:=by
 induction l with
 | nil=>cases ha
 | cons b l ih =>
  rw[List.filter_cons,List.filter_cons];rcases List.mem_cons.mp ha with rfl|ha
  ·rw[h1,h2];exact Nat.lt_succ_of_le (zkn h)
  ·have:=ih ha;cases e:p b
   ·cases q b
    ·exact this
    ·exact Nat.lt_succ_of_lt this
   ·rw[h b e];exact Nat.succ_lt_succ this
theorem zej{rs:List NP}{a b:NP}(ha:a∈rs)(h:npLt a b=true):npRk rs a<npRk rs b:=by
 unfold npRk;have:=zkm (p:=fun q=>npLt q a) (q:=fun q=>npLt q b) (l:=rs) (fun x hx=>ziT hx h) ha (zh9 a) h
 omega
theorem zny{rs:List NP}{a b:NP}(ha:a∈rs)(hb:b∈rs):npLt a b=decide (npRk rs a<npRk rs b):=by
 rcases zlN a b with h|rfl|h
 ·rw[h,decide_eq_true (zej ha h)]
 ·rw[zh9];symm;rw[decide_eq_false_iff_not];exact Int.lt_irrefl _
 ·have:=zej hb h;rw[decide_eq_false (by omega)]
  cases e:npLt a b with
  | false=>rfl
  | true=>have:=zej ha e;omega
open Classical in
noncomputable def rkNP (rs:List NP) (h:Heap) (u:Value):Int:=if z:∃r,PsIn h u r then npRk rs z.choose else 0
theorem PsIn.rk{rs:List NP}{h:Heap}{u:Value}{r:NP}(p:PsIn h u r):rkNP rs h u=npRk rs r:=by
 unfold rkNP;have z:∃r,PsIn h u r:=⟨r,p⟩;rw[dif_pos z,z.choose_spec.uniq p]
section
variable{prog:Program}{w:World}{A:Around}{E:qV}{s:Shared}
theorem znI{vs:List Value}{Q:SortKind->Shared->Prop}(h1:1<=vs.length)(hp:∀v∈vs,∃r,PsIn s.heap v r)(h:Q (tuples' false) s):wpAny (model prog w) A (keyKind' vs.toArray) Q E s:=by
 rw[keyKind'_eq,List.mapM_toArray,map_eq_pure_bind];refine wpAny_bind (wpAny_bind (Zl (P:=fun _ r=>∃(p:Addr) (o:Obj),r=some (.ref p)/\s.heap.get? p=some o/\o.cls=.type "tuple") vs (fun v hv Q' hq=>?_) fun rs hrs=>wpAny_pure ?_))
 ·obtain⟨r,a,p,o,t,n,rfl,e1,e2,e3,a',o',t1,t2,n',e4,e5,e6,e7⟩:=hp v hv;cases e4;rw[zij];refine wpAny_bind (wpAny_typeOf (T:="tuple") ⟨o,e1,e2⟩ ?_);rw[if_neg (by decide)]
  exact wpAny_bind (listItems_at e1 e3 (wpAny_pure (hq _ ⟨p,o',rfl,e5,e6⟩)))
 ·have al:∀r∈rs,∃(p:Addr) (o:Obj),r=some (.ref p)/\s.heap.get? p=some o/\o.cls=.type "tuple":=fun r hr=>by
   obtain⟨_,_,h⟩:=zcS hrs hr;exact h
  have hall:(rs.toArray.all fun x=>x.isSome)=true:=by
   rw[List.all_toArray,List.all_eq_true];intro x hx;obtain⟨p,o,rfl,_⟩:=al x hx
   rfl
  rw[if_pos hall];refine wpAny_bind (wpAny_rule ?_);rw[oneTypeOnly'_eq];have hfm:rs.toArray.filterMap id=(rs.filterMap id).toArray:=by simp
  rw[hfm,List.mapM_toArray,map_eq_pure_bind];refine wpAny_bind (wpAny_bind (wpAny_bind (Zl (P:=fun _ r=>r=Value.type "tuple") _ (fun v hv Q' hq=>?_) fun ts hts=>wpAny_pure ?_)))
  ·obtain⟨x,hx,e⟩:=List.mem_filterMap.mp hv;obtain⟨p,o,rfl,g,c⟩:=al x hx;cases e;exact wpAny_typeOf (T:="tuple") ⟨o,g,c⟩ (hq _ rfl)
  ·have al2:∀r∈ts,r=Value.type "tuple":=fun r hr=>by
    obtain⟨_,_,h⟩:=zcS hts hr;exact h
   cases ts with
   | nil=>exact wpAny_pure (wpAny_pure h)
   | cons r1 rr =>
    have e1:r1=Value.type "tuple":=al2 r1 (.head _);subst e1;have hall2:(((Value.type "tuple")::rr).toArray.all fun x=>x == Value.type "tuple")=true:=by
     rw[List.all_toArray,List.all_eq_true];intro x hx;rw[al2 x hx];rfl
    have h0:((Value.type "tuple")::rr).toArray[0]?=some (Value.type "tuple"):=by simp
    rw[h0];simp only[hall2,if_true];refine wpAny_pure (wpAny_pure ?_);exact h
theorem zlQ(x y:Str)(t u:Tok):LtAt prog w A s false (.str x t) (.str y u) (decide (x.cps.toList<y.cps.toList)):=fun E Q q=>by
 rw[oneLt'_eq];simp only[Bool.false_eq_true,if_false];refine wpAny_bind (show wpAny (model prog w) A (compareOp .Lt (.str x t) (.str y u)) _ E s from PyProof.Rows.lt_str ?_)
 exact wpAny_truthy_bool q
theorem zlU{vs:List Value}{h0:Heap}{rs:List NP}(hu:A.units<cLine)(hp:∀v∈vs,∃r,r∈rs/\PsIn s.heap v r/\rkNP rs h0 v=npRk rs r):Kinds prog w A s (rkNP rs h0) vs:=fun h2=>by
 refine⟨tuples' false,fun E Q q=>znI (by lia) (fun v hv=>?_) q,fun p q E Q mp mq h=>?_⟩
 ·obtain⟨r,_,h,_⟩:=hp v hv;exact⟨r,h⟩
 ·have mem:∀z∈(pairsOf vs).toList,z.1∈vs:=fun z hz=>by
   have:z∈vs.zip vs:=by simpa[pairsOf] using hz
   exact(List.of_mem_zip this).1
  obtain⟨⟨⟨b,k⟩,g⟩,m1,⟨a,x,o,t,n,e0,e1,e2,e3,e4⟩,r1⟩:=hp _ (mem p mp);obtain⟨⟨⟨b',k'⟩,g'⟩,m2,⟨a',x',o',t',n',f0,f1,f2,f3,f4⟩,r2⟩:=hp _ (mem q mq);rw[r1,r2,<- zny m1 m2]at h;rw[e0,f0];refine zgr e1 e3 f1 f3 (zko hu e4 f4) (SeqAt.EqAt.str_str g t g' t') (fun _=>znC hu e4 f4) (fun _=>zlQ g g' t t') ?_
  have:(if decide (b=b'/\k=k')=true then(if (g == g')=true then false else decide (g.cps.toList<g'.cps.toList)) else HT.lexLt [b,k] [b',k'])=npLt ((b,k),g) ((b',k'),g'):=by
   rw[znD];unfold npLt;dsimp only
   by_cases e:b=b'/\k=k'
   ·obtain⟨rfl,rfl⟩:=e;rw[if_pos (by simp),if_pos rfl]
    by_cases eg:g=g'
    ·subst eg;rw[if_pos (by simp)]
     symm;rw[decide_eq_false_iff_not];exact List.lt_irrefl _
    ·rw[if_neg (by simpa using eg)]
   ·rw[if_neg (by simpa using e),if_neg (fun z=>e (by cases z;exact⟨rfl,rfl⟩))]
  rw[this];exact h
end
section
variable{X:Cx}
def PsV(K:qF)(H:Hp)(z:V×NP):Prop:=∃a q,z.1=.ref a/\SqT K H a [.ref q,.str z.2.2]/\SqT K H q [.int z.2.1.1,.int z.2.1.2]
theorem zmW{pins:qO}{σ:St}{H:Hp}{s:Shared}{a q:Addr}{r:NP}(I:Inv X pins σ H s)(h:SqT X.K H a [.ref q,.str r.2])(h2:SqT X.K H q [.int r.1.1,.int r.1.2]):PsIn s.heap (.ref a) r:=by
 obtain⟨is,rs,⟨o,f1,f2,n,f3⟩,_⟩:=I.tuple h;cases rs with
 | cons a1 a2 =>
  cases a2 with
  | cons a3 a4 =>
   cases a4;cases(show _=Value.ref q from a1)
   obtain⟨t,rfl⟩:=a3;exact⟨a,q,o,t,n,rfl,f1,f2,f3,zrC I h2⟩
theorem zfT(hu:X.A.units+64<cLine):J5 X (.builtin "sorted") (fun xs H Q=>∃(p:Addr) (zs:List (V×NP)),xs=[.ref p]/\(SqL X.K H p (zs.map (·.1))\/SqT X.K H p (zs.map (·.1)))/\zs.length<64/\(∀z∈zs,PsV X.K H z) /\
  ∀zs':List (V×NP),zs'.Perm zs->zs'.Pairwise (fun a b=>npRk (zs.map (·.2)) a.2<=npRk (zs.map (·.2)) b.2)->∀l,H l=none->Q (.ref l) (upd H l (.lst (zs'.map (·.1))))):=by
 intro pins s σ H xs us Q I r h;obtain⟨p,zs,rfl,hq,h64,hp,q⟩:=h;obtain⟨u,rfl,rx⟩:=vals1 r;cases rx;have hs:64<=sizeLine:=by decide
 have key:∀(its:List Value) (o:Obj) (T:String) (n:Nat),Vals (zs.map (·.1)) its->s.heap.get? p=some o->o.cls=.type T->(T = "list" \/ T = "tuple")->o.data=.seq its.toArray n ->
   wpAny (model X.prog X.w) X.A (call (.builtin "sorted") [.ref p]) (EP X pins σ Q) X.xe s:=fun its o T n rv ho hc hT hd=>by
  have hlen:zs.length=its.length:=by simpa using rv.length
  have cell:Paired (fun(z:V×NP) (u:Value)=>RelV z.1 u/\PsIn s.heap u z.2) zs its:=by
   have go:∀(zs:List (V×NP)) (its:List Value),(∀z∈zs,PsV X.K H z)->Vals (zs.map (·.1)) its->Paired (fun(z:V×NP) (u:Value)=>RelV z.1 u/\PsIn s.heap u z.2) zs its:=by
    intro zs;induction zs with
    | nil=>intro its _ r;cases r;exact .nil
    | cons z zs ih =>
     intro its hz r;cases r with
     | cons r1 r2 =>
      obtain⟨a,q,e1,e2,e3⟩:=hz z (.head _);refine .cons ⟨r1,?_⟩ (ih _ (fun y hy=>hz y (.tail _ hy)) r2)
      dsimp only at r1;rw[e1]at r1;cases(show _=Value.ref a from r1)
      exact zmW I e2 e3
   exact go zs its hp rv
  refine ziE (A:=X.A) (x:=.ref p) (rk:=rkNP (zs.map (·.2))) (C:=fun h' tk vs=>vs=its/\(∀b o,s.heap.get? b=some o->h'.get? b=some o)/\s.heap.objs.size<=h'.objs.size) ?_ ?_ ?_ ?_
  ·intro A' E' Q' hA hq;refine zeK ho hc hT hd (by lia) ?_
   have hq':=hq ((s.heap.push (seqObj "list" #[] 0)).update s.heap.objs.size (Obj.mapSeq (·++its.toArray))) s.toks its ⟨rfl,fun b ob hb=>?_,?_⟩
   ·exact hq'
   ·rw[Heap.get?_update_ne _ _ _ _ (Nat.ne_of_lt (Heap.lt_size hb))];exact Heap.get?_push_of_some _ hb
   ·rw[Heap.size_update,size_push'];exact Nat.le_succ _
  ·rintro h' tk vs ⟨rfl,_,_⟩;lia
  ·rintro h' tk vs A' ⟨rfl,kp,_⟩ hA';refine zlU (by lia) fun u hu=>?_
   obtain⟨x,mx,_,rl⟩:=zcS cell hu;have rl':=rl.kept kp;exact⟨x.2,List.mem_map_of_mem mx,rl'.kept fun b o e=>zhm e,rl'.rk⟩
  ·rintro h' tk vs h2 y e ⟨rfl,kp,sz⟩ kp2 pm up he;have cell':Paired (fun(z:V×NP) (u:Value)=>RelV z.1 u/\PsIn h' u z.2) zs vs:=Paired.mapP cell fun _ _ h=>⟨h.1,h.2.kept kp⟩
   obtain⟨ws,p1,p2,p3⟩:=zlo (f:=fun x=>npRk (zs.map (·.2)) x.2) cell' (fun x u hx=>hx.2.rk) pm up
   have rv':Vals (ws.map (·.1)) ((arrOf y).map (·.2)).toList:=by
    have:∀{l:List (V×NP)} {m:List Value},Paired (fun(z:V×NP) (u:Value)=>RelV z.1 u/\PsIn h' u z.2) l m->Vals (l.map (·.1)) m:=by
     intro l m p;induction p with
     | nil=>exact .nil
     | cons h t ih=>exact .cons h.1 ih
    exact this p3
   refine⟨.ref h'.objs.size,_,I.laid (a:=h'.objs.size) (o:=.lst (ws.map (·.1))) (t':=tk) (fun b o hb=>kp2 b o (kp b o hb)) sz ?_,rfl,q ws p1 p2 _ (I.hok.fresh sz)⟩
   refine⟨?_,_,e,rv',by rw[he]⟩
   have:=p1.length_eq;rw[List.length_map];lia
 rcases hq with hq|hq
 ·obtain⟨its,r',pl,hz⟩:=I.list hq;obtain⟨o,ho,hc,n,hd⟩:=pl.isList;exact key its o "list" n r' ho hc (.inl rfl) hd
 ·obtain⟨its,r',pl,hz⟩:=I.tuple hq;obtain⟨o,ho,hc,n,hd⟩:=pl;exact key its o "tuple" n r' ho hc (.inr rfl) hd
end
section
variable{X:Cx}{e:Expr}{d:DTE}{pos p:Pos}{k:Nat}
theorem zjz{K:qF}{hd:Option Addr}{O:Addr->Prop}{H:Hp}:∀{vs:List V}{rs:List NP},Reps K hd O H vs (Bd.oD rs)->∀z∈vs.zip rs,PsV K H z/\Rep K hd O H z.1 (.tuple [.tuple [.int z.2.1.1,.int z.2.1.2],.str z.2.2])
 | _,[],r=>by cases r;intro z hz;simp at hz
 | _,a::rs,r=>by
  cases r with
  | cons h r =>
   intro z hz;rcases List.mem_cons.mp (by simpa using hz) with rfl|hz
   ·refine⟨?_,h⟩;obtain⟨b,ws,rfl,sq,rp⟩:=h.tupI;cases rp with
    | cons x1 x2 =>
     cases x2 with
     | cons x3 x4 =>
      cases x4;obtain⟨q,rfl,sq2⟩:=x1.bkI;rw[x3.strI]at sq;exact⟨b,q,rfl,sq,sq2⟩
   ·exact zjz r z hz
def zkz(d:DTE):DTA:=fun ρ n R=>d ρ n fun t n1=>Qg t fun ts=>∃rs:List NP,ts=Bd.oD rs/\rs.length<64/\∀rs':List NP,rs'.Perm rs->rs'.Pairwise (fun a b=>npRk rs a<=npRk rs b)->R (Bd.oD rs') n1
theorem zhO(hr:Room k X.A)(hm:X.mg "sorted" = none) (h:DL X e d) (hs:starEach [e] X.env=[(false,eval e X.env)]) (hg:Gl X "sorted":=by rfl):DN X (.Call (.Name "sorted" p) [e] [] pos) (zkz d):=by
 obtain⟨ta,pa,h⟩:=h;refine⟨_,Y5 (zfT (by have:=hr.un;lia)) hm boot_sorted (Qu pa QV hs) hg,fun C ρ σ H n Q R S hd hq=>?_⟩
 refine h C ρ σ H n _ _ S hd fun t n1 v H1 r1 e1 h1 q1=>?_
 have S1:=S.on e1 h1;have go:∀(p:Addr) vs ts,(SqL X.K H1 p vs\/SqT X.K H1 p vs)->Reps X.K C.hd (Own C ρ σ) H1 vs ts->(∃rs:List NP,ts=Bd.oD rs/\rs.length<64/\∀rs':List NP,rs'.Perm rs->rs'.Pairwise (fun a b=>npRk rs a<=npRk rs b)->R (Bd.oD rs') n1) ->
   ∃(p':Addr) (zs:List (V×NP)),[V.ref p]=[V.ref p']/\(SqL X.K H1 p' (zs.map (·.1))\/SqT X.K H1 p' (zs.map (·.1)))/\zs.length<64/\(∀z∈zs,PsV X.K H1 z) /\
  ∀zs':List (V×NP),zs'.Perm zs->zs'.Pairwise (fun a b=>npRk (zs.map (·.2)) a.2<=npRk (zs.map (·.2)) b.2)->∀l,H1 l=none->Q (.ref l) (upd H1 l (.lst (zs'.map (·.1)))):=fun p vs ts hs rp ⟨rs,ets,l64,hR⟩=>by
  subst ets;have ln:=rp.length;rw[Bd.JZ]at ln;have rel:=zjz rp;refine⟨p,vs.zip rs,rfl,?_,by simp;lia,fun z hz=>(rel z hz).1,fun zs' pm pw l hl=>?_⟩
  ·rw[List.map_fst_zip (by lia)];exact hs
  ·have hl0:H l=none:=by
    cases z:H l with
    | none=>rfl
    | some o =>
     by_cases y:C.hd=some l
     ·obtain⟨d,m,t,q,_⟩:=h1 l y;rw[hl]at q;cases q
     ·rw[e1 l o z y]at hl;cases hl
   have pr:(zs'.map (·.2)).Perm rs:=by
    have:=pm.map (·.2)
    rwa [List.map_snd_zip (by lia)]at this
   have rp':∀zs:List (V×NP),(∀z∈zs,Rep X.K C.hd (Own C ρ σ) H1 z.1 (.tuple [.tuple [.int z.2.1.1,.int z.2.1.2],.str z.2.2]))->Reps X.K C.hd (Own C ρ σ) H1 (zs.map (·.1)) (Bd.oD (zs.map (·.2))):=by
    intro zs;induction zs with
    | nil=>intro _;exact .nil
    | cons a l ih=>intro h;exact .cons (h a (.head _)) (ih fun x hx=>h x (.tail _ hx))
   refine hq _ n1 l _ _ (hR _ pr (by rw[List.pairwise_map];rw[List.map_snd_zip (by lia)]at pw;exact pw)) (e1.trans (ExtE.new hl)) (h1.same (JU hl)) hl0 J1 ?_
   refine(rp' zs' fun z hz=>(rel z (pm.mem_iff.mp hz)).2).mono (fun b o hb z=>z.elim id fun z=>?_) fun b o _ hb=>JU hl b o hb
   subst z;rw[hl]at hb;cases hb
 cases t with
 | list ts =>
  obtain⟨p,vs,rfl,h1',h2⟩:=q1.lstI;exact go p vs ts (.inl (.of h1')) h2 r1
 | tuple ts =>
  obtain⟨p,vs,rfl,h1',h2⟩:=q1.tupI;exact go p vs ts (.inr h1') h2 r1
 | _=>exact r1.elim
instance zqU {ρ:En}{n:Nat}{R:List PyData->Nat->Prop}:Stp (zkz d ρ n R) (d ρ n fun t n1=>Qg t fun ts=>∃rs:List NP,ts=Bd.oD rs/\rs.length<64/\∀rs':List NP,rs'.Perm rs->rs'.Pairwise (fun a b=>npRk rs a<=npRk rs b)->R (Bd.oD rs') n1):=⟨fun h=>h⟩
end
def RcAt(A:Around)(s:Shared)(x y:Value)(l:Bool):Prop:=∀(prog:Program) (w:World) (E:qV) (Q:qV),Q (.bool l) s->wpAny (model prog w) A (richCompare .GtE x y) Q E s
section
open PySem.SeqAt
open PySem.AutoSeq1 (wpAny_loadPart')
open PySem.MeetsSeq PySem.MeetsSeq2 PySem.MeetsSeq3
theorem zjg(l b:Addr)(x0 x1 y0 y1:Value)(n n2:Nat)(dd dd2:Option Addr)(sl sl2:Array (Option Value))(c0 c1 l0 l1:Bool) :
  Meets (Builtin.«tuple.__ge__» ⟨[.ref l,.ref b],[]⟩)
   (fun A R s=>s.heap.get? l=some { cls:=.type "tuple",dict:=dd,data:=.seq #[x0,x1] n,slots:=sl }/\s.heap.get? b=some { cls:=.type "tuple",dict:=dd2,data:=.seq #[y0,y1] n2,slots:=sl2 } /\
    EqAt A.in1 s x0 y0 c0/\EqAt A.in1 s x1 y1 c1/\(c0=false->RcAt A.in1 s x0 y0 l0)/\(c1=false->RcAt A.in1 s x1 y1 l1)/\R (.ok (.ret (.bool (if c0=true then(if c1=true then true else l1) else l0)))) s) :=
 .of_wp fun prog w A R s h=>by
  obtain⟨hp,g,d,tk,os⟩:=s;obtain⟨hl,hb,e0,e1,r0,r1,h⟩:=h;have f2:=AutoSeq1.sub_tuple_tuple
  wp_walk using wpAny_loadPart' hl,wpAny_loadPart' hb,wpAny_forIn_list _ (fun rest b s'=>b.1=none/\s'=⟨hp,g,d,tk,os⟩/\(rest=[(x0,y0),(x1,y1)]\/(c0=true/\rest=[(x1,y1)])\/(c0=true/\c1=true/\rest=[]))) _
  case turn =>
   rintro⟨y,x⟩ rest b s' ⟨hb',rfl,hr⟩;rcases hr with hr|⟨hc,hr⟩|⟨_,_,hr⟩
   ·cases hr;refine wpAny_bind (e0 prog w _ _ ?_);cases c0 with
    | true =>
     wp_walk
     exact⟨rfl,rfl,.inr (.inl ⟨rfl,rfl⟩)⟩
    | false =>
     have hri:=r0 rfl prog w
     wp_walk using hri
     exact⟨_,rfl,by simpa using h⟩
   ·cases hr;subst hc;refine wpAny_bind (e1 prog w _ _ ?_);cases c1 with
    | true =>
     wp_walk
     exact⟨rfl,rfl,.inr (.inr ⟨rfl,rfl,rfl⟩)⟩
    | false =>
     have hri:=r1 rfl prog w
     wp_walk using hri
     exact⟨_,rfl,by simpa using h⟩
   ·cases hr
  case fin =>
   rintro⟨b1,b2⟩ s' ⟨hb',rfl,hr⟩;simp only at hb';subst hb';rcases hr with hr|⟨hc,hr⟩|⟨hc,hc1,hr⟩
   ·cases hr
   ·cases hr
   ·subst hc hc1
    wp_walk
    exact⟨_,rfl,by simpa[Builtin.Tuple.tupleCompareSizes] using h⟩
  case h =>
   exact⟨rfl,rfl,.inl rfl⟩
end
section
variable{prog:Program}{w:World}{A:Around}{E:qV}{s:Shared}
theorem zmI{l b:Addr}{x0 x1 y0 y1:Value}{c0 c1 l0 l1:Bool}{Q:qV}(hl:IsTup s.heap l #[x0,x1])(hb:IsTup s.heap b #[y0,y1])
  (e0:SeqAt.EqAt A.in1 s x0 y0 c0) (e1:SeqAt.EqAt A.in1 s x1 y1 c1) (r0:c0=false->RcAt A.in1 s x0 y0 l0) (r1:c1=false->RcAt A.in1 s x1 y1 l1) (hu:A.units<cLine) (h:Q (.bool (if c0=true then(if c1=true then true else l1) else l0)) s):wpAny (model prog w) A (richCompare .GtE (.ref l) (.ref b)) Q E s:=by
 obtain⟨⟨cls,dd,data,sl⟩,ho,hc,n,hd⟩:=id hl;obtain⟨⟨cls2,dd2,data2,sl2⟩,ho2,hc2,n2,hd2⟩:=id hb;simp only at hc hd hc2 hd2;subst hc hd hc2 hd2;exact richCompare_meets_room (op:=.GtE) ⟨_,ho,rfl⟩ ⟨_,ho2,rfl⟩ PySem.F.slot_tuple_ge PySem.F.entry_tuple_ge (PySem.F.args_tuple_ge_2 _ _) (zjg l b x0 x1 y0 y1 n n2 dd dd2 sl sl2 c0 c1 l0 l1)
  ⟨ho,ho2,e0,e1,r0,r1,show Value.bool _≠Value.notImplemented/\Q (.bool _) s from⟨(fun x=>nomatch x),h⟩⟩ hu
theorem zh0(a c:Int)(t u:Tok):RcAt A s (.int a t) (.int c u) (decide (a>=c)):=fun prog w E Q h=>(PyProof.Rows.ge_int h:wpAny (model prog w) A (compareOp .GtE (.int a t) (.int c u)) Q E s)
theorem zls(a c:Str)(t u:Tok):RcAt A s (.str a t) (.str c u) (!decide (a.cps.toList<c.cps.toList)):=fun prog w E Q h=>(PySem.P.ge_str h:wpAny (model prog w) A (compareOp .GtE (.str a t) (.str c u)) Q E s)
end
section
variable{X:Cx}{a b:Expr}{da db:DTE}{pos:Pos}{k:Nat}
def PsV1(K:qF)(H:Hp)(x:V)(r:NP):Prop:=∃a q,x=.ref a/\SqT K H a [.ref q,.str r.2]/\SqT K H q [.int r.1.1,.int r.1.2]
def npGe(r r':NP):Bool:=if decide (r.1.1=r'.1.1/\r.1.2=r'.1.2)=true then(if (r.2 == r'.2)=true then true else !decide (r.2.cps.toList<r'.2.cps.toList)) else(if (r.1.1 == r'.1.1)=true then(if (r.1.2 == r'.1.2)=true then true else decide (r.1.2>=r'.1.2)) else decide (r.1.1>=r'.1.1))
def zoV(K:qF):R2:=fun x y H Q=>∃r r',PsV1 K H x r/\PsV1 K H y r'/\Q (.bl (npGe r r')) H
theorem znq(hr:Room k X.A):OpR X (compareOp .GtE) (zoV X.K):=by
 intro pins s σ H x y v u Q I rx ry h;obtain⟨r,r',⟨p,q,rfl,s1,s2⟩,⟨p',q',rfl,s1',s2'⟩,qq⟩:=h;cases(show v=Value.ref p from rx)
 cases(show u=Value.ref p' from ry)
 obtain⟨a,q0,o,t,n,e0,e1,e2,e3,e4⟩:=zmW I s1 s2;obtain⟨a',q0',o',t',n',f0,f1,f2,f3,f4⟩:=zmW I s1' s2';cases e0;cases f0;have hu:X.A.units+64<cLine:=by have:=hr.un;lia
 have g4:=e4;have h4:=f4;obtain⟨_,o2,t1,t2,n2,z0,z1,z2,z3⟩:=e4;obtain⟨_,o3,u1,u2,n3,y0,y1,y2,y3⟩:=f4;cases z0;cases y0;show wpAny (model X.prog X.w) X.A (richCompare .GtE (.ref p) (.ref p')) _ _ s
 refine zmI ⟨o,e1,e2,n,e3⟩ ⟨o',f1,f2,n',f3⟩ (zko (A:=X.A.in1) (by show X.A.units+1<_;lia) g4 h4) (SeqAt.EqAt.str_str r.2 t r'.2 t') (fun _=>?_) (fun _=>zls r.2 r'.2 t t') (by lia) ⟨.bl _,H,I,rfl,qq⟩
 intro prog w E Q h;exact zmI ⟨o2,z1,z2,n2,z3⟩ ⟨o3,y1,y2,n3,y3⟩ (SeqAt.EqAt.int_int _ _ _ _) (SeqAt.EqAt.int_int _ _ _ _) (fun _=>zh0 _ _ _ _) (fun _=>zh0 _ _ _ _) (by show X.A.units+1<_;lia) h
def zpv:G2:=fun x y R=>∃r r':NP,x=.tuple [.tuple [.int r.1.1,.int r.1.2],.str r.2]/\y=.tuple [.tuple [.int r'.1.1,.int r'.1.2],.str r'.2]/\R (.bool (npGe r r'))
theorem RepT.np{K:qF}{hd:Option Addr}{O:Addr->Prop}{H:Hp}{v:V}{r:NP}(h:RepT K hd O H v (.tuple [.tuple [.int r.1.1,.int r.1.2],.str r.2])):PsV1 K H v r:=by
 rcases h with h|⟨p,vs,ds,rfl,et,h1,h2,nh⟩|⟨p,zs,ep,ks',rfl,et,h1,h2,nh⟩
 ·obtain⟨b,ws,rfl,sq,rp⟩:=h.tupI;cases rp with
  | cons x1 x2 =>
   cases x2 with
   | cons x3 x4 =>
    cases x4;obtain⟨q,rfl,sq2⟩:=x1.bkI;rw[x3.strI]at sq;exact⟨b,q,rfl,sq,sq2⟩
 ·cases et
 ·cases et
theorem zn0:Gp2 X (zoV X.K) zpv:=by
 intro hd O H x y t u Q R dom rx ry h hq;obtain⟨r,r',rfl,rfl,h⟩:=h;exact⟨r,r',rx.np,ry.np,hq _ _ H h (Same.refl H) (.bl _)⟩
theorem zpS{r r':NP}{R:PyData->Prop}(h:R (.bool (npGe r r'))):zpv (.tuple [.tuple [.int r.1.1,.int r.1.2],.str r.2]) (.tuple [.tuple [.int r'.1.1,.int r'.1.2],.str r'.2]) R:=⟨r,r',rfl,rfl,h⟩
end
end L2
namespace Bd
open PySem L2
theorem zn3{Z:ZZ}{x:Str}{st:Stmt}{ps:List Str}{k m:Nat}{g:GD}(D:Dq Z.K Z.mg x st ps)(h:∀ts n R,g ts n R->False):FQ Z x st ps k (spD Z.K m g):=by
 obtain⟨f,fd,D⟩:=D;have no:∀vs H Q E,spD Z.K m g vs H Q E->False:=fun vs H Q E ⟨hd,O,ts,n,R,_,_,_,_,_,z,_⟩=>h ts n R z
 exact⟨f,fd,D,⟨fun vs H Q E z=>(no vs H Q E z).elim,fun A outer s H args us vs Q E _ _ _ _ z=>(no vs H Q E z).elim⟩⟩
end Bd
namespace L2
open PySem PySem.Spec PyProof PyProof.Rows
theorem IsTup.tuple{h:Heap}{a:Addr}{its:Array Value}(p:IsTup h a its):h.IsTuple a its:=p
theorem zj4(l:Addr)(items:Array Value)(n:Nat)(dct:Option Addr)(sl:Array (Option Value)) :
  Meets (Builtin.«enumerate.__new__» ⟨[.type "enumerate",.ref l],[]⟩) (fun _ R s=>s.heap.get? l=some { cls:=.type "tuple",dict:=dct,data:=.seq items n,slots:=sl } /\
   R (.ok (.ret (.ref (s.heap.push { cls:=.type "tuple_iterator",data:=.fields #[.ref l,.int 0 0] }).objs.size)))
    { s with heap:=(s.heap.push { cls:=.type "tuple_iterator",data:=.fields #[.ref l,.int 0 0] }).push { cls:=.type "enumerate",data:=.fields #[.none,.bool false,.ref s.heap.objs.size,rawInt 0,.none,.none] } }) :=
 .of_wp fun prog w A R s h=>by
  obtain⟨hp,g,d,tk,os⟩:=s;obtain⟨hl,h⟩:=h;have hsub:=sub_enumerate;have hL:Heap.IsTuple (Shared.heap ⟨hp,g,d,tk,os⟩) l items:=⟨_,hl,rfl,n,rfl⟩
  wp_walk using AutoSeq1.wpAny_loadPart' hl
  refine wpAny_stack_any fun st=>wpAny_pure ?_
  split
  ·rename_i c _ _ _ _ _;cases(c == Value.type "enumerate")
   ·wp_walk using AutoSeq1.wpAny_loadPart' hl,wpAny_pyIter_tuple hL
    exact⟨_,rfl,h⟩
   ·wp_walk using AutoSeq1.wpAny_loadPart' hl,wpAny_pyIter_tuple hL
    exact⟨_,rfl,h⟩
  ·wp_walk using AutoSeq1.wpAny_loadPart' hl,wpAny_pyIter_tuple hL
   exact⟨_,rfl,h⟩
section
variable{prog:Program}{w:World}{A:Around}{E:qV}{s:Shared}
theorem zi6{l:Addr}{items:Array Value}{Q:qV}(hL:s.heap.IsTuple l items)
  (h:∀h',IsEnum h' (s.heap.objs.size+1) s.heap.objs.size 0 .none->h'.IsTupleIter s.heap.objs.size l 0->h'.objs.size=s.heap.objs.size+2 ->
   (∀b o,s.heap.get? b=some o->h'.get? b=some o)->Q (.ref (s.heap.objs.size+1)) { s with heap:=h' }) :
  wpAny (model prog w) A (call (.type "enumerate") [.ref l]) Q E s:=by
 obtain⟨⟨c,dct,dt,sl⟩,hl,hc,n,hd⟩:=hL
 replace hc:c=.type "tuple":=hc
 replace hd:dt=.seq items n:=hd
 subst hc hd;refine callType_new F.called_enumerate (by decide) (F.typeCall_enumerate_1 _) (F.newCall_enumerate_1 _) (fun obj=>F.args_object_init_2 obj _) F.entry_enumerate_new
  (zj4 l items n dct sl) ⟨hl,?_⟩
 have hz:(s.heap.push { cls:=.type "tuple_iterator",data:=.fields #[.ref l,.int 0 0] }).objs.size=s.heap.objs.size+1:=Heap.size_push ..;show _/\_
 rw[hz];have he:IsEnum ((s.heap.push { cls:=.type "tuple_iterator",data:=.fields #[.ref l,.int 0 0] }).push
   { cls:=.type "enumerate",data:=.fields #[.none,.bool false,.ref s.heap.objs.size,rawInt 0,.none,.none] }) (s.heap.objs.size+1) s.heap.objs.size 0 .none:=by
  have:=Heap.get?_push_size (s.heap.push { cls:=.type "tuple_iterator",data:=.fields #[.ref l,.int 0 0] })
   (o:={ cls:=.type "enumerate",data:=.fields #[.none,.bool false,.ref s.heap.objs.size,rawInt 0,.none,.none] }) rfl
  rw[hz]at this;exact this
 refine⟨⟨_,he,rfl⟩,h _ he ⟨_,Heap.get?_push_of_some _ (Heap.get?_push_size _ rfl),rfl,rfl⟩ (by rw[Heap.size_push,hz]) fun b o x=>Heap.get?_push_of_some _ (Heap.get?_push_of_some _ x)⟩
theorem ziV{e it l:Addr}{i:Nat}{items:Array Value}{x old:Value}{Q:Option Value->Shared->Prop}
  (he:IsEnum s.heap e it i old) (hit:s.heap.IsTupleIter it l i) (hl:s.heap.IsTuple l items) (hx:items[i]?=some x) (hne:e≠it)
  (hQ:∀h',IsEnumOut h' e it ((i:Int)+1) x s.heap.objs.size->h'.IsTupleIter it l (i+1) ->
   h'.get? s.heap.objs.size=some { cls:=.type "tuple",data:=.seq #[.int i s.toks,x] }->h'.objs.size=s.heap.objs.size+1 ->
   (∀b o,b≠e->b≠it->s.heap.get? b=some o->h'.get? b=some o)->Q (some (.ref s.heap.objs.size)) { s with heap:=h',toks:=s.toks+1 }) :
  wpAny (model prog w) A (pyNext (.ref e)) Q E s:=by
 have hT:s.TypeIs (.ref e) "enumerate":=⟨_,he,rfl⟩;unfold pyNext;refine wpAny_bind (wpAny_attempt (wpAny_callSpecial?_slot (name:=Str.ofString "__next__") hT F.slot_enumerate_next (wpAny_call_entry F.slot_enumerate_next hT F.entry_enumerate_next
  (zn5 (x:=x) (P:=fun h₁=>h₁.IsTupleIter it l (i+1)/\Heap.SameBut it s.heap h₁) he (fun A' E' Q' k=>zj2.item A' E' i items x s Q' hit hl hx fun h' a b=>k h' ⟨a,b⟩) (fun h₁ hP=>hP.2.extBut _ _ hne he) fun h₁ h' hP eo tp sz kp=>?_) (F.args_enumerate_next_1 _))))
 obtain⟨st',sb⟩:=hP;have sz1:h₁.objs.size=s.heap.objs.size:=sb.1;rw[sz1]at eo tp sz ⊢;exact wpAny_pure (hQ h' eo (by
  obtain⟨o,e1,r⟩:=st';exact⟨o,kp it o (Ne.symm hne) e1,r⟩) tp sz fun b o n1 n2 q=>kp b o n1 (sb.extBut b o n2 q))
theorem zj3{e it l:Addr}{i:Nat}{items:Array Value}{old:Value}{Q:Option Value->Shared->Prop}(hh:A.handled=none)
  (he:IsEnum s.heap e it i old) (hit:s.heap.IsTupleIter it l i) (hl:s.heap.IsTuple l items) (hx:items[i]?=none)
  (hQ:∀h',Heap.ExtBut it s.heap h'->Q none { s with heap:=h' }):wpAny (model prog w) A (pyNext (.ref e)) Q E s:=by
 have hT:s.TypeIs (.ref e) "enumerate":=⟨_,he,rfl⟩;unfold pyNext;refine wpAny_bind (wpAny_attempt (wpAny_callSpecial?_slot (name:=Str.ofString "__next__") hT F.slot_enumerate_next
  (wpAny_call_entry F.slot_enumerate_next hT F.entry_enumerate_next ?_ (F.args_enumerate_next_1 _))))
 show wpAny _ _ (field (.ref e) 2 >>= _) _ _ _
 refine wpAny_bind (wpAny_field he rfl (x:=.ref it) rfl ?_);refine wpAny_bind (zj2.done _ _ i items s _ hh hit hl hx fun h' x he' hx'=>?_)
 obtain⟨o,ho,hc⟩:=hx';refine wpAny_bind (wpAny_isInstance (T:="StopIteration") (b:=true) ⟨o,ho,hc⟩ isSubtype_stop ?_);exact wpAny_pure (hQ _ he')
end
def ItT2(K:qF)(a:Addr):It :=
 ⟨fun i H=>∃xs x,SqT K H a xs/\xs[i]?=some x,
  fun i H v H'=>∃p x,H p=none/\v=.ref p/\(∀xs,SqT K H a xs->xs[i]?=some x)/\H'=upd H p (.tup [.int (i:Int),x]),
  fun i H=>∃xs,SqT K H a xs/\xs.length<=i⟩
theorem ziC{P:Program}{w:World}{K:qF}{elts:List Expr}{x1:_}{pos:Pos}{e it a:Addr}(hne:e≠it)(hae:a≠e)(hai:a≠it) :
  Turn P w K (.Tuple elts x1 pos) (ItT2 K a) [e,it] e (fun i h=>∃old,IsEnum h e it (i:Int) old/\h.IsTupleIter it a i) where
 mem:=by simp
 obj:=fun i h st c hc=>by
  obtain⟨old,he,o,hi,hi2,hi3⟩:=st;simp only[List.mem_cons,List.not_mem_nil,or_false]at hc;rcases hc with rfl|rfl
  ·exact⟨_,he,fun v y=>by cases y⟩
  ·exact⟨_,hi,fun v y=>by rw[hi3]at y;cases y⟩
 keep:=fun i h h' st k=>by
  obtain⟨old,he,hi⟩:=st;exact⟨old,k _ (by simp) _ he,hi.at (k _ (by simp))⟩
 item:=by
  intro X hP hw hK hc i pins s σ H E I hf st hg;subst hP hw hK;obtain⟨xs,x,q1,hx⟩:=hg;obtain⟨its,r1,p1,z1⟩:=I.tuple q1;obtain⟨ux,hux,rux⟩:=r1.get hx;obtain⟨old,he,hi⟩:=st;refine ziV he hi (IsTup.tuple p1) (x:=ux) (by simpa using hux) hne fun h' heo hit pr sz kp=>?_
  refine⟨_,rfl,?_⟩;refine wpAny_letOwnedTupleGo_enum (s:={ s with heap:=h',toks:=s.toks+1 }) heo fun h2 he2 sb=>?_
  have big:∀c∈[e,it],c<s.heap.objs.size:=fun c hc=>by
   simp only[List.mem_cons,List.not_mem_nil,or_false]at hc;rcases hc with rfl|rfl
   ·exact Heap.lt_size he
   ·obtain⟨o,e1,_⟩:=hi;exact Heap.lt_size e1
  have hp:H s.heap.objs.size=none:=I.hok.fresh (Nat.le_refl _);have I1:Inv X pins σ (upd H s.heap.objs.size (.tup [.int (i:Int),x])) { s with heap:=s.heap.push { cls:=.type "tuple",data:=.seq #[.int (i:Int) s.toks,ux] } } :=
   I.laid (t':=s.toks) (fun b o e=>Heap.get?_push_of_some _ e) (Nat.le_refl _) (show JM X.prog X.w _ _ _ (.tup [.int (i:Int),x]) from⟨by show 2<=sizeLine;decide,[.int (i:Int) s.toks,ux],.cons ⟨_,rfl⟩ (.cons rux .nil),IsTD.new _ _⟩)
  have npos:∀c∈[e,it],c≠s.heap.objs.size:=fun c hc=>Nat.ne_of_lt (big c hc)
  have fu:∀c∈[e,it],upd H s.heap.objs.size (.tup [.int (i:Int),x]) c=none:=fun c hc=>by rw[Jy (npos c hc)];exact(hf c hc).1
  refine⟨.ref s.heap.objs.size,upd H s.heap.objs.size (.tup [.int (i:Int),x]),?_,rfl,⟨_,x,hp,rfl,fun xs' h=>by rw[I.tuple_inj h q1];exact hx,rfl⟩,?_,fu⟩
  ·refine Inv.turnedL (s:={ s with heap:=s.heap.push { cls:=.type "tuple",data:=.seq #[.int (i:Int) s.toks,ux] } }) (t':=s.toks+1) [e,it] I1 (fun c o hc e=>?_) fun c hc=>⟨fu c hc,(hf c hc).2⟩
   simp only[List.mem_cons,List.not_mem_nil,or_false,not_or]at hc;refine sb.extBut _ _ hc.1 ?_
   by_cases y:c=s.heap.objs.size
   ·subst y;have e':(s.heap.push { cls:=.type "tuple",data:=.seq #[.int (i:Int) s.toks,ux] }).get? s.heap.objs.size=some _:=Heap.get?_push_size _ rfl;have e2:some o=some _:=e.symm.trans e';cases e2;exact pr
   ·have e':s.heap.get? c=some o:=by
     have e3:(s.heap.push { cls:=.type "tuple",data:=.seq #[.int (i:Int) s.toks,ux] }).get? c=some o:=e
     rwa [Heap.get?_push_ne _ _ _ y]at e3
    exact kp c o hc.1 hc.2 e'
  ·refine⟨ux,?_,hit.at fun o e=>sb.extBut _ _ hne.symm e⟩
   have:((i+1:Nat):Int)=(i:Int)+1:=by push_cast;rfl
   rw[this];exact he2
 done:=by
  intro X hP hw hK hc i pins s σ H E I hf st hg;subst hP hw hK;obtain⟨xs,q1,hx⟩:=hg;obtain⟨its,r1,p1,z1⟩:=I.tuple q1;have l1:=r1.length;obtain⟨old,he,hi⟩:=st;refine zj3 (I.ok.hd hc) he hi (IsTup.tuple p1) (by simp;omega) fun h' kp=>⟨rfl,?_⟩
  refine Inv.turnedL (t':=s.toks) [e,it] I (fun c o hc e=>?_) fun c hc=>hf c hc
  simp only[List.mem_cons,List.not_mem_nil,or_false,not_or]at hc;exact kp c o hc.2 e
 self:=fun _ _ _ _ _ st h=>by
  obtain⟨old,he,hi⟩:=st;exact wpAny_pyIter_enum he h
section
variable{X:Cx}{a b:Expr}{elts:List Expr}{x1:Nat}{p p' pos:Pos}
def zqs(K:qF)(ta:TA):TI:=fun σ H R=>ta σ H fun vs H1=>∃(c:Addr) (xs:List V),vs=[.ref c]/\SqT K H1 c xs/\R (ItT2 K c) H1
theorem zlC{ta:TA}(hg:Gl X "enumerate") (hm:X.mg "enumerate" = none) (ha:PA X [a] ta) (hs:starEach [a] X.env=[(false,eval a X.env)]) :
  PI X (.Tuple elts x1 p') (.Call (.Name "enumerate" p) [a] [] pos) (zqs X.K ta):=by
 intro pins s σ H R I h;refine Call_ (YD I hg hm boot_enumerate (PyProof.Rows.callWith_type1 (thn (ha pos pins s σ H _ I h) fun us s1 ⟨vs,H1,I1,r1,q1⟩=>?_) (by rw[hs];rfl) (by rfl)))
 obtain⟨c,xs,rfl,s1',q⟩:=q1;cases r1 with
 | cons r rr =>
  cases rr;cases r;obtain⟨its,_,p1,_⟩:=I1.tuple s1';have lt:c<s1.heap.objs.size:=by obtain⟨o,e,_⟩:=p1;exact Heap.lt_size e
  refine zi6 (IsTup.tuple p1) fun h' he hi sz kp=>?_
  refine wpAny_pyIter_enum (s:={ s1 with heap:=h' }) he ?_
  refine⟨_,_,_,_,H1,rfl,I1.kept (t':=s1.toks) kp,ziC (by simp) (Nat.ne_of_lt (Nat.lt_succ_of_lt lt)) (Nat.ne_of_lt lt),⟨_,he,hi⟩,fun e he=>?_,q⟩
  have ge:s1.heap.objs.size<=e:=by
   simp only[List.mem_cons,List.not_mem_nil,or_false]at he;rcases he with rfl|rfl
   ·exact Nat.le_add_right _ _
   ·exact Nat.le_refl _
  exact I1.fpOk ge (I1.hok.fresh ge)
def lTu1(t:PyData)(R:List PyData->Prop):Prop:=match t with|.tuple ts=>R ts|_=>False
def zmP(da:DTE):DTA:=fun ρ n R=>da ρ n fun x n1=>lTu1 x fun xs=>R (Q9 xs) n1
theorem zmf{da:DTE}(hm:X.mg "enumerate" = none) (h:DE X a da) (hg:Gl X "enumerate":=by rfl) (hs:starEach [a] X.env=[(false,eval a X.env)]:=by rfl) :
  DI X (.Tuple elts x1 p') (.Call (.Name "enumerate" p) [a] [] pos) (zmP da):=by
 obtain⟨ta,pa,h⟩:=h;refine⟨_,zlC hg hm (YR pa Y8 hs) hs,fun C ρ σ H n Q R S hd hq=>?_⟩
 refine h C ρ σ H n _ _ S hd fun x n1 v H1 r1 e1 hn1 q1=>?_
 cases x with
 | tuple xs =>
  have r1:R (Q9 xs) n1:=r1;have src:∃(c:Addr) (ws:List V),v=.ref c/\SqT X.K H1 c ws/\∀(O2:Addr->Prop) (H2:Hp),(∀a o,H1 a=some o->¬Own C ρ σ a->H2 a=some o)->(∀a o,H1 a=some o->¬Own C ρ σ a->¬O2 a)->SqT X.K H2 c ws/\Reps X.K C.hd O2 H2 ws xs:=by
   have mv:∀vs,Reps X.K C.hd (Own C ρ σ) H1 vs xs->∀(O2:Addr->Prop) (H2:Hp),(∀a o,H1 a=some o->¬Own C ρ σ a->H2 a=some o)->(∀a o,H1 a=some o->¬Own C ρ σ a->¬O2 a)->Reps X.K C.hd O2 H2 vs xs:=fun vs r O2 H2 h1 h2 =>
    r.mono (fun a o ha z=>Classical.byContradiction fun no=>h2 a o ha no z) fun a o no ha=>h1 a o ha no
   cases q1 with
   | @tup q vs ds h o r=>exact⟨q,vs,rfl,.inl (.inl h),fun O2 H2 h1 h2=>⟨.inl (.inl (h1 q _ h o)),mv vs r O2 H2 h1 h2⟩⟩
   | @tupS q vs ds h r=>exact⟨q,vs,rfl,h.sq,fun O2 H2 h1 h2=>⟨h.sq,mv vs r O2 H2 h1 h2⟩⟩
  obtain⟨c,ws,rfl,h1',f1⟩:=src;refine⟨c,ws,rfl,h1',hq _ n1 _ H1 r1 e1 hn1 ?_⟩;intro O2 H3 h1 h2 h3;obtain⟨h1'',rs1⟩:=f1 O2 H3 h1 h2;refine⟨fun i t et=>?_,?_⟩
  ·unfold Q9 at et;rw[List.getElem?_map]at et;cases ez:xs.zipIdx[i]? with
   | none=>rw[ez]at et;cases et
   | some q =>
    rw[ez]at et;cases et;rw[List.getElem?_zipIdx]at ez;cases ey:xs[i]? with
    | none=>rw[ey]at ez;cases ez
    | some y =>
     rw[ey]at ez;cases ez;obtain⟨vx,evx,rx⟩:=rs1.get ey;refine⟨⟨ws,vx,h1'',evx⟩,fun v H4 hyd=>?_⟩
     obtain⟨pp,x',hp,rfl,hx',rfl⟩:=hyd;have e1:x'=vx:=Option.some.inj ((hx' ws h1'').symm.trans evx);subst e1;refine⟨JU hp,.newT (fun z=>h3 pp z hp) hp (.cons ?_ (.cons rx .nil))⟩
     simpa using Rep.int _
  ·refine⟨ws,h1'',?_⟩;have:=rs1.length;unfold Q9;simp only[List.length_map,List.length_zipIdx];omega
 | _=>exact r1.elim
end
section
variable{ρ:En}{n:Nat}{da:DTE}{R:List PyData->Nat->Prop}{Rl:List PyData->Prop}{xs:qD}
instance zrt:Stp (zmP da ρ n R) (da ρ n fun x n1=>lTu1 x fun xs=>R (Q9 xs) n1):=⟨fun h=>h⟩
instance zs1:Stp (lTu1 (.tuple xs) Rl) (Rl xs):=⟨fun h=>h⟩
end
end L2
namespace Bd
open PySem L2
def top(i:Nat):Stmt:=PySem.Challenge.pw_blockdeal_k22_what_is_no_deal.main.body.getD i (.Pass ⟨0,0,0,0⟩)
set_option maxHeartbeats 4000000
local macro_rules | `(tactic| walk_at "S") => `(tactic| first | with_reducible refine ziD ?_ | with_reducible refine Stp.go ?_ | with_reducible refine j_all (by with_unfolding_all rfl) ?_ | with_reducible refine j_any (by with_unfolding_all rfl) ?_ | with_reducible refine zmC (by with_unfolding_all rfl) ?_ | with_reducible refine zmD (by with_unfolding_all rfl) ?_ | with_reducible refine zif (by with_unfolding_all rfl) ?_ | with_reducible refine zie (by with_unfolding_all rfl) ?_)
set_option hygiene false in
local macro_rules | `(tactic| walk_at "K") => `(tactic| first | walk_at "S" | with_reducible refine zqa (fun hc => ?_) (fun hc => ?_) | with_reducible refine zsI (fun hc => ?_) (fun hc => ?_) | with_reducible refine And.intro ?_ ?_)
set_option hygiene false in
local macro_rules | `(tactic| wp_walk using $ts:term,*) => `(tactic| repeat' (first $[| with_reducible refine $ts:term]* | walk_at "K"))
local macro_rules | `(tactic| wp_walk) => `(tactic| repeat' walk_at "K")
structure Txt(mg:qM):Prop where
 isi:mg "isinstance" = none
 int:mg "int" = none
 boo:mg "bool" = none
 tup:mg "tuple" = none
 len:mg "len" = none
 min:mg "min" = none
 max:mg "max" = none
 str:mg "str" = none
 rep:mg "repr" = none
 all:mg "all" = none
 any:mg "any" = none
 ran:mg "range" = none
 sum:mg "sum" = none
 srt:mg "sorted" = none
 lst:mg "list" = none
 abs:mg "abs" = none
 zip:mg "zip" = none
 dct:mg "dict" = none
 rev:mg "reversed" = none
 enu:mg "enumerate" = none
section
variable{P:Program}{w:World}{K:qF}{mg:qM}{base:Heap}{Z:ZZ}
theorem zha:FnScope ["thing"] ["thing"] (Jl (top 1)):=⟨rfl,rfl,rfl,by decide +kernel,rfl,by decide +kernel,by decide +kernel⟩
def Y1:PyData->Bool|.int _=>true|_=>false
def zdv:GD:=fun ts n R=>match ts with
 | [d]=>Pln d/\R (.bool (Y1 d)) n
 | _=>False
theorem Yp{d:PyData}{b:Bool}{n:Nat}{R:qN}(e:Y1 d=b)(h:Pln d)(h':R (.bool b) n):zdv [d] n R:=⟨h,e▸h'⟩
def zdn(Z:ZZ):Prop:=FQ Z "is_whole" (top 1) ["thing"] 1 (spD Z.K 1 zdv)
theorem zhg(D:Dq Z.K Z.mg "is_whole" (top 1) ["thing"]) (T:Txt Z.mg):zdn Z:=by
 refine' okQ D zha rfl fun f cdv A outer s H E hr=>⟨_,(Jg (Jk (QO (Qb zmF T.isi T.int boot_int (dl (Ja 0)) Jd) (QJ (ZN (Qb zhN T.isi T.boo zdB (dl (Ja 0)) Jd)))))),?_⟩
 intro ts n R hl h;unfold zdv at h;split at h
 ·rename_i d;obtain⟨p,h⟩:=h;cases d with
  | dict ks =>
   cases ks with
   | nil =>
    wp_walk
    exact h
   | cons a b=>exact absurd rfl p
  | _ =>
   wp_walk
   exact h
 ·exact h.elim
theorem zcQ:FnScope ["bits","thing","begin","height"] ["bits","thing"] (Jl (top 2)):=⟨rfl,rfl,rfl,by decide +kernel,rfl,by decide +kernel,by decide +kernel⟩
def JO(bits:Int):PyData->Bool
 | .tuple [.int b,.int h]=>decide (0<=h/\h<=bits/\0<=b/\b<2 ^ bits.toNat/\b % 2 ^ h.toNat=0)
 | _=>false
theorem zex{bits b h:Int}:JO bits (.tuple [.int b,.int h])=decide (0<=h/\h<=bits/\0<=b/\b<2 ^ bits.toNat/\b % 2 ^ h.toNat=0):=rfl
theorem Z2{bits b h:Int}(b0:0<=bits):JO bits (.tuple [.int b,.int h])=true↔IsBk bits b h:=by
 unfold JO;rw[decide_eq_true_iff];constructor
 ·rintro⟨h0,h1,g0,g1,g2⟩;have p:=QP h.toNat;have e:=Int.emod_add_mul_ediv b (2 ^ h.toNat);refine⟨h0,h1,b / 2 ^ h.toNat,Int.ediv_nonneg g0 (by lia),?_,?_⟩
  ·rw[Int.mul_comm];lia
  ·apply Int.ediv_lt_of_lt_mul p;rw[<- Int.pow_add,show(bits - h).toNat+h.toNat=bits.toNat by lia]
   exact g1
 ·intro B;have bb:=B.bounds b0;obtain⟨h0,h1,k,k0,rfl,k1⟩:=B;refine⟨h0,h1,bb.1,?_,Int.mul_emod_left _ _⟩;have:=QP h.toNat;lia
def Pl2(d:PyData):Prop:=Pln d/\∀ts,d=.tuple ts->∀t∈ts,Pln t
def zdw:GD:=fun ts n R=>match ts with
 | [.int bits,d]=>0<=bits/\bits<=64/\Pl2 d/\R (.bool (JO bits d)) n
 | _=>False
theorem zi9{bits:Int}{d:PyData}{n:Nat}{R:qN}(b0:0<=bits)(b1:bits<=64)(h:Pl2 d)(h':R (.bool (JO bits d)) n):zdw [.int bits,d] n R:=⟨b0,b1,h,h'⟩
theorem zqC{b c:Bool}{n:Nat}{R:qN}(e:b=c)(h:R (.bool c) n):R (.bool b) n:=e▸h
def ze7(Z:ZZ):Prop:=FQ Z "is_block" (top 2) ["bits","thing"] 2 (spD Z.K 2 zdw)
theorem zhi(D:Dq Z.K Z.mg "is_block" (top 2) ["bits","thing"]) (h_is_whole:zdn Z) (T:Txt Z.mg):ze7 Z:=by
 refine' okQ D zcQ rfl fun f cdv A outer s H E hr=>⟨_,(Jf (Jt (JR (JV (JJ (JK (dl (Qb QY T.isi T.tup Qm (dl (Ja 1)) Jd)))) (Qf (Js (QK hr) QG (dl (JG Qq Qo T.len Qn (Jr (dl (Ja 1)) Jz Jd))) (dl Jc) (Jo _))))) (Jg (Jk JB)) Jw) (Jf (Ud (Ja 1) (Qe rfl (Ju (Jm (i:=2) zcQ.nd rfl (Or.inl rfl)) (Ju (Jm (i:=3) zcQ.nd rfl (Or.inl rfl)) Qd)))) (Jf (Jt (JR (JV (JJ (JK (dl (Ji h_is_whole hr (Jb (Ja 2) Je Jd))))) (Qf (JJ (JK (dl (Ji h_is_whole hr (Jb (Ja 3) Je Jd)))))))) (Jg (Jk JB)) Jw) (Jf (Jt (JR (JV (Js (QT hr) QS (dl (Ja 3)) (dl Jc) (Jo _)) (Qf (Js Yt gp_B (dl (Ja 3)) (dl (Ja 0)) (Jo _))))) (Jg (Jk JB)) Jw) (Jg (Jk (QO (ZQ Qa J9 (QT hr) QS (dl Jc) (dl (Ja 2)) (dl (J7 (dl Jc) (dl (Ja 0))))) (QJ (Uc (Qy hr) Qw (dl (ZA (dl (Ja 2)) (dl (J7 (dl Jc) (dl (Ja 3)))))) (dl Jc) (Jo _)))))))))),?_⟩
 intro ts n R hl h;unfold zdw at h;split at h
 ·rename_i bits d;obtain⟨b0,b1,⟨p,p2⟩,h⟩:=h;cases d with
  | dict ks =>
   cases ks with
   | nil =>
    wp_walk
    exact h
   | cons a b=>exact absurd rfl p
  | tuple ts =>
   have p2:=p2 ts rfl
   match ts,p2,h with
   | [],_,h =>
    wp_walk
    all_goals first|exact h|(exfalso;simp at hc;done)
   | [x],_,h =>
    have wr:JO bits (.tuple [x])=false:=by unfold JO;split <;> simp_all
    rw[wr]at h
    wp_walk
    all_goals first|exact h|(exfalso;simp at hc;done)
   | x::y::z::r,_,h =>
    have wr:JO bits (.tuple (x::y::z::r))=false:=by unfold JO;split <;> simp_all
    rw[wr]at h
    wp_walk
    all_goals first|exact h|(exfalso;simp at hc;lia)
   | [x,y],p2,h =>
    have px:=p2 x (by simp)
    have py:=p2 y (by simp)
    have wx:(∃b,x=.int b)\/(Y1 x=false/\JO bits (.tuple [x,y])=false):=by
     cases x with
     | int b=>exact .inl ⟨b,rfl⟩
     | _=>exact .inr ⟨rfl,rfl⟩
    rcases wx with⟨b,rfl⟩|⟨wx,wr⟩
    ·have wy:(∃g,y=.int g)\/(Y1 y=false/\JO bits (.tuple [.int b,y])=false):=by
      cases y with
      | int b=>exact .inl ⟨b,rfl⟩
      | _=>exact .inr ⟨rfl,rfl⟩
     rcases wy with⟨g,rfl⟩|⟨wy,wr⟩
     ·wp_walk using Yp (b:=true) rfl px ?_,Yp (b:=true) rfl py ?_
      all_goals first
       | exact cpow (by lia) (by lia)
       | (rw[Uj];exact QP _)
       | skip
      all_goals
       refine zqC ?_ h
       try simp only[Uj]at *
       rw[zex];generalize (2:Int) ^ bits.toNat=X at *;generalize b % (2:Int) ^ g.toNat=Y at *
       first
        | (symm;rw[decide_eq_false_iff_not];lia)
        | (rw[decide_eq_decide];lia)
        | (exfalso;simp at hc;done)
     ·rw[wr]at h
      wp_walk using Yp (b:=true) rfl px ?_,Yp wy py ?_
      all_goals first|exact h|(exfalso;simp at hc;done)
    ·rw[wr]at h
     wp_walk using Yp wx px ?_
     all_goals first|exact h|(exfalso;simp at hc;done)
  | _ =>
   wp_walk
   exact h
 ·exact h.elim
theorem ziG:FnScope ["block"] ["block"] (Jl (top 3)):=⟨rfl,rfl,rfl,by decide +kernel,rfl,by decide +kernel,by decide +kernel⟩
def zgG:GD:=fun ts n R=>∃i h:Int,ts=[.tuple [.int i,.int h]]/\0<=h/\h<=1000/\R (.int (2 ^ h.toNat)) n
theorem zkL{i h:Int}{n:Nat}{R:qN}(g0:0<=h)(g1:h<=1000)(h':R (.int (2 ^ h.toNat)) n):zgG [.tuple [.int i,.int h]] n R:=⟨_,_,rfl,g0,g1,h'⟩
def zf7(Z:ZZ):Prop:=FQ Z "size_of" (top 3) ["block"] 1 (spD Z.K 1 zgG)
theorem ziP(D:Dq Z.K Z.mg "size_of" (top 3) ["block"]) (T:Txt Z.mg):zf7 Z:=by
 refine' okQ D ziG rfl fun f cdv A outer s H E hr=>⟨_,(Jg (Jk (J7 (dl Jc) (dl (Jn (dl (Ja 0)) (dl Jc)))))),?_⟩
 intro ts n R hl hh;obtain⟨i,h,rfl,g0,g1,hh⟩:=hh
 wp_walk
 ·exact cpow (by lia) (by lia)
 ·rw[Uj];exact hh
theorem zjs:FnScope ["block","height"] ["block","height"] (Jl (top 6)):=⟨rfl,rfl,rfl,by decide +kernel,rfl,by decide +kernel,by decide +kernel⟩
def zih:GD:=fun ts n R=>∃i h g:Int,ts=[.tuple [.int i,.int h],.int g]/\0<=g/\g<=1000/\0<=i/\i<2 ^ 64/\R (.tuple [.int (i / 2 ^ g.toNat*2 ^ g.toNat),.int g]) n
theorem zml{i h g:Int}{n:Nat}{R:qN}(g0:0<=g)(g1:g<=1000)(i0:0<=i)(i1:i<2 ^ 64)(h':R (.tuple [.int (i / 2 ^ g.toNat*2 ^ g.toNat),.int g]) n):zih [.tuple [.int i,.int h],.int g] n R:=⟨_,_,_,rfl,g0,g1,i0,i1,h'⟩
def zh1(Z:ZZ):Prop:=FQ Z "around" (top 6) ["block","height"] 1 (spD Z.K 2 zih)
theorem zjX(D:Dq Z.K Z.mg "around" (top 6) ["block","height"]) (T:Txt Z.mg):zh1 Z:=by
 refine' okQ D zjs rfl fun f cdv A outer s H E hr=>⟨_,(Jg (Jk (Jj (Jb (J7 (dl (zqG (dl (Jn (dl (Ja 0)) (dl Jc))) (dl (Ja 1)))) (dl (Ja 1))) (Jb (Ja 1) Je Jd) JI)))),?_⟩
 intro ts n R hl hh;obtain⟨i,h,g,rfl,g0,g1,i0,i1,hh⟩:=hh;simp only[YI,YH,YJ,u_dC,Yr,YM,YF,YE,YW,Yq,YX,YG,YB,Yo,Ye,Yf,Yg,Yn,Yc,Yl,UV,oSub,oMul,oMod,Ua,oShl,oShr,oXor,isNone,isInt,isBool,isTup,isStr,l_gI,Yx,UW,UX,UY,UE,UG,UF,UN,UM,UP,UQ,UO,Ym,UJ,UH,UI,U0,U1,U2,UZ,U5,U6,UU,YC,U4,U3,Yj,UL,UK,Yk,Yi,QN,QM,Q5,Q4,Q1,Q3,Q0,Uz,JY,JH,capV,List.map_cons,List.map_nil,List.length_cons,List.length_nil,List.replicate_succ,List.replicate_zero,List.cons_append,List.nil_append,List.append_nil,List.getElem?_cons_succ,List.getElem?_cons_zero,List.set_cons_succ,List.set_cons_zero,List.getD_cons_succ,List.getD_cons_zero,Nat.zero_add,Nat.reduceAdd,Nat.reduceSub,Nat.sub_self,true_and,and_true,Bool.false_eq_true,if_true,if_false,ite_true,ite_false,Bool.not_true,Bool.not_false,Int.natCast_zero]
 refine⟨g0,⟨g0,by lia,?_⟩,hh⟩
 have:i / 2 ^ g.toNat<=i:=Int.ediv_le_self _ i0;have:0<=i / 2 ^ g.toNat:=Int.ediv_nonneg i0 (Int.le_of_lt (QP _));lia
theorem zld:FnScope ["one","other"] ["one","other"] (Jl (top 4)):=⟨rfl,rfl,rfl,by decide +kernel,rfl,by decide +kernel,by decide +kernel⟩
def zki:GD:=fun ts n R=>∃i h j g:Int,ts=[.tuple [.int i,.int h],.tuple [.int j,.int g]]/\0<=h/\h<=1000/\0<=j/\j<2 ^ 64/\R (.bool (hldD i h j g)) n
theorem zkP{i h j g:Int}{n:Nat}{R:qN}(h0:0<=h)(h1:h<=1000)(j0:0<=j)(j1:j<2 ^ 64)(h':R (.bool (hldD i h j g)) n):zki [.tuple [.int i,.int h],.tuple [.int j,.int g]] n R:=⟨_,_,_,_,rfl,h0,h1,j0,j1,h'⟩
def zjC(Z:ZZ):Prop:=FQ Z "holds" (top 4) ["one","other"] 2 (spD Z.K 2 zki)
theorem zlI(D:Dq Z.K Z.mg "holds" (top 4) ["one","other"]) (h_around:zh1 Z) (T:Txt Z.mg):zjC Z:=by
 refine' okQ D zld rfl fun f cdv A outer s H E hr=>⟨_,(Jg (Jk (QO (Uc zpq gp_B (dl (Jn (dl (Ja 0)) (dl Jc))) (dl (Jn (dl (Ja 1)) (dl Jc))) (Jo _)) (QJ (Uc (Qy hr) Qw (dl (Ji h_around hr (Jb (Ja 1) (Jb (Jn (dl (Ja 0)) (dl Jc)) Je JX) Jd))) (dl (Ja 0)) (Jo _)))))),?_⟩
 intro ts n R hl hh;obtain⟨i,h,j,g,rfl,g0,g1,j0,j1,hh⟩:=hh;unfold hldD at hh
 wp_walk using zml g0 g1 j0 j1 ?_
 ·exact Uz
 ·exact Uz
 ·rw[decide_eq_true hc,Bool.true_and]at hh;rw[zl8];simpa using hh
 ·rw[decide_eq_false hc,Bool.false_and]at hh;exact hh
theorem zle:FnScope ["one","other"] ["one","other"] (Jl (top 5)):=⟨rfl,rfl,rfl,by decide +kernel,rfl,by decide +kernel,by decide +kernel⟩
def zkj:GD:=fun ts n R=>∃i h j g:Int,ts=[.tuple [.int i,.int h],.tuple [.int j,.int g]]/\0<=h/\h<=1000/\0<=g/\g<=1000/\0<=i/\i<2 ^ 64/\0<=j/\j<2 ^ 64/\R (.bool (!hldD i h j g&&!hldD j g i h)) n
theorem zoh{i h j g:Int}{n:Nat}{R:qN}(h0:0<=h)(h1:h<=1000)(g0:0<=g)(g1:g<=1000)(i0:0<=i)(i1:i<2 ^ 64)(j0:0<=j)(j1:j<2 ^ 64)(h':R (.bool (!hldD i h j g&&!hldD j g i h)) n):zkj [.tuple [.int i,.int h],.tuple [.int j,.int g]] n R:=⟨_,_,_,_,rfl,h0,h1,g0,g1,i0,i1,j0,j1,h'⟩
def zjD(Z:ZZ):Prop:=FQ Z "apart" (top 5) ["one","other"] 3 (spD Z.K 2 zkj)
theorem zlJ(D:Dq Z.K Z.mg "apart" (top 5) ["one","other"]) (h_holds:zjC Z) (T:Txt Z.mg):zjD Z:=by
 refine' okQ D zle rfl fun f cdv A outer s H E hr=>⟨_,(Jg (Jk (QO (ZN (Ji h_holds hr (Jb (Ja 0) (Jb (Ja 1) Je Jd) Jd))) (QJ (ZN (Ji h_holds hr (Jb (Ja 1) (Jb (Ja 0) Je Jd) Jd))))))),?_⟩
 intro ts n R hl hh;obtain⟨i,h,j,g,rfl,h0,h1,g0,g1,i0,i1,j0,j1,hh⟩:=hh
 wp_walk using zkP h0 h1 j0 j1 ?_,zkP g0 g1 i0 i1 ?_
 ·rw[hc,Bool.not_true,Bool.false_and]at hh;exact hh
 ·rw[hc,Bool.not_false,Bool.true_and]at hh;exact hh
theorem ziI:FnScope ["thing"] ["thing"] (Jl (top 8)):=⟨rfl,rfl,rfl,by decide +kernel,rfl,by decide +kernel,by decide +kernel⟩
def zgI:GD:=fun ts n R=>∃d,ts=[d]/\PlnD d/\R (.bool (nmD d)) n
theorem zkN{d:PyData}{n:Nat}{R:qN}(p:PlnD d)(h:R (.bool (nmD d)) n):zgI [d] n R:=⟨d,rfl,p,h⟩
def zf9(Z:ZZ):Prop:=FQ Z "is_name" (top 8) ["thing"] 1 (spD Z.K 1 zgI)
theorem ziR(D:Dq Z.K Z.mg "is_name" (top 8) ["thing"]) (T:Txt Z.mg):zf9 Z:=by
 refine' okQ D ziI rfl fun f cdv A outer s H E hr=>⟨_,(Jf (Jt (JR (JV (JJ (JK (dl (Qb zmE T.isi T.str zg0 (dl (Ja 0)) Jd)))) (Qf (JJ (zfP Qa J9 Qa J9 (dl Jc) (dl (JG Qq Qo T.len Qn (Jr (dl (Ja 0)) Jz Jd))) (dl Jc)))))) (Jg (Jk JB)) Jw) (Jg (Jk (JG (Uy rfl) Uu T.all Ux (Jr (dl (Jp (QD (own:=["letter"]) (capt:=[]) rfl (CompScope.of rfl) (dil (zmN (Ja 0))) (fun _ _ _ _=>(Jm (i:=0) (by show(["letter"]:List Str).Nodup;decide +kernel) rfl (Or.inl rfl))) (by decide) (fun _ _ _ _=>QE) (fun _ _ _ _=>(ZQ Qa J9 Qa J9 (dl J8) (dl (Ja 0)) (dl J8)))))) Jz Ue))))),?_⟩
 intro ts n R hl h;obtain⟨d,rfl,p,h⟩:=h;cases d with
 | str z =>
  have hz:=p.str;have ea:(Str.ofString "a").cps.toList=[97]:=by decide +kernel
  have ez:(Str.ofString "z").cps.toList=[122]:=by decide +kernel
  have e:nmD (.str z)=(decide (1<=z.length)&&decide (z.length<=8)&&z.cps.toList.all fun c=>decide (97<=c)&&decide (c<=122)):=rfl
  rw[e]at h
  wp_walk
  ·lia
  ·refine Uh (cs:=z.cps.toList) (D:=fun c=>.str ⟨#[c]⟩) (fun c=>.bool (decide (97<=c)&&decide (c<=122))) (by rw[Qj];lia) ?_ ?_
   ·intro c hc' K2 X2 hK2
    wp_walk
    ·have z:c<97:=Y7.mp (show([c]:List Nat)<[97] from ea▸hc)
     rw[decide_eq_false (show ¬97<=c by lia),Bool.false_and]at hK2
     exact hK2
    ·have z:¬c<97:=fun y=>hc (ea.symm▸Y7.mpr y)
     rw[decide_eq_true (show 97<=c by lia),Bool.true_and]at hK2
     have e2:(!decide ((Str.ofString "z").cps.toList<(⟨#[c]⟩:Str).cps.toList))=decide (c<=122):=by
      rw[ez];exact zj8
     rw[e2];exact hK2
   ·wp_walk using Uv ?_
    have h1:1<=z.length:=by lia
    have h8:z.length<=8:=by lia
    rw[decide_eq_true h1,decide_eq_true h8]at h;exact h
  ·have h8:¬z.length<=8:=by lia
   rw[decide_eq_false h8,Bool.and_false,Bool.false_and]at h;exact h
  ·have h1:¬1<=z.length:=by lia
   rw[decide_eq_false h1,Bool.false_and,Bool.false_and]at h;exact h
 | dict ks =>
  cases ks with
  | nil =>
   wp_walk
   exact h
  | cons a b=>exact absurd rfl (PlnD.pln p)
 | _ =>
  wp_walk
  exact h
theorem zjr:FnScope ["block"] ["block"] (Jl (top 11)):=⟨rfl,rfl,rfl,by decide +kernel,rfl,by decide +kernel,by decide +kernel⟩
def zig:GD:=fun ts n R=>∃i h:Int,ts=[.tuple [.int i,.int h]]/\0<=h/\h<=1000/\R (.int (i+2 ^ h.toNat)) n
theorem zfU{i h:Int}{n:Nat}{R:qN}(g0:0<=h)(g1:h<=1000)(h':R (.int (i+2 ^ h.toNat)) n):zig [.tuple [.int i,.int h]] n R:=⟨_,_,rfl,g0,g1,h'⟩
def zfv(Z:ZZ):Prop:=FQ Z "end_of" (top 11) ["block"] 2 (spD Z.K 1 zig)
theorem zjW(D:Dq Z.K Z.mg "end_of" (top 11) ["block"]) (h_size_of:zf7 Z) (T:Txt Z.mg):zfv Z:=by
 refine' okQ D zjr rfl fun f cdv A outer s H E hr=>⟨_,(Jg (Jk (Jx (dl (Jn (dl (Ja 0)) (dl Jc))) (dl (Ji h_size_of hr (Jb (Ja 0) Je Jd)))))),?_⟩
 intro ts n R hl hh;obtain⟨i,h,rfl,g0,g1,hh⟩:=hh
 wp_walk using zkL ?_ ?_ ?_
 ·lia
 ·lia
 ·exact hh
theorem zhb:FnScope ["bits","thing"] ["bits","thing"] (Jl (top 10)):=⟨rfl,rfl,rfl,by decide +kernel,rfl,by decide +kernel,by decide +kernel⟩
def IsPt(bits:Int)(d:PyData):Prop:=∃bs:List (Int×Int),d=.tuple (pD bs)/\Ptc bits bs
def Pl3(d:PyData):Prop:=Pln d/\∀ts,d=.tuple ts->ts.length<=1000000/\∀t∈ts,Pl2 t
theorem zkQ{bits:Int}(b0:0<=bits):∀(ts:qD),ts.all (JO bits)=true->∃bs,ts=pD bs/\Bks bits bs
 | [],_=>⟨[],rfl,fun b hb=>nomatch hb⟩
 | t::ts,h=>by
  rw[List.all_cons,Bool.and_eq_true]at h;obtain⟨bs,rfl,B⟩:=zkQ b0 ts h.2;have h1:=h.1;unfold JO at h1;split at h1
  ·rename_i b g;have:=(Z2 b0).mp (show JO bits (.tuple [.int b,.int g])=true from h1)
   refine⟨(b,g)::bs,rfl,fun c hc=>?_⟩
   rcases List.mem_cons.mp hc with rfl|hc
   ·exact this
   ·exact B c hc
  ·cases h1
theorem zmx:∀{bs cs:qB},pD bs=pD cs->bs=cs
 | [],[],_=>rfl
 | [],_::_,h=>by cases h
 | _::_,[],h=>by cases h
 | (a,b)::bs,(c,d)::cs,h=>by
  simp only[pD,List.map_cons,List.cons.injEq,PyData.tuple.injEq,PyData.int.injEq,and_true]at h;obtain⟨⟨rfl,rfl⟩,h⟩:=h;rw[zmx h]
def zfg:GD:=fun ts n R=>∃(bits:Int) (d:PyData),ts=[.int bits,d]/\0<=bits/\bits<=64/\Pl3 d/\∀b:Bool,(b=true↔IsPt bits d)->R (.bool b) n
theorem zi7{bits:Int}{d:PyData}{n:Nat}{R:qN}(b0:0<=bits)(b1:bits<=64)(p:Pl3 d)(h:∀b:Bool,(b=true↔IsPt bits d)->R (.bool b) n):zfg [.int bits,d] n R:=⟨bits,d,rfl,b0,b1,p,h⟩
def ze6(Z:ZZ):Prop:=FQ Z "is_patch" (top 10) ["bits","thing"] 3 (spD Z.K 2 zfg)
theorem zhh(D:Dq Z.K Z.mg "is_patch" (top 10) ["bits","thing"]) (h_is_block:ze7 Z) (h_end_of:zfv Z) (T:Txt Z.mg):ze6 Z:=by
 refine' okQ D zhb rfl fun f cdv A outer s H E hr=>⟨_,(Jf (Jt (JJ (JK (dl (Qb QY T.isi T.tup Qm (dl (Ja 1)) Jd)))) (Jg (Jk JB)) Jw) (Jf (Jt (JJ (JK (dl (JG (Uy rfl) Uu T.all Ux (Jr (dl (Jp (QD (own:=["block"]) (capt:=[0]) rfl (CompScope.of rfl) (dil (Qx (Ja 1))) (fun _ _ _ _=>(Jm (i:=0) (by show(["block","bits"]:List Str).Nodup;decide +kernel) rfl (Or.inl rfl))) (by decide) (fun _ _ _ _=>QE) (fun _ _ _ _=>(Ji h_is_block hr (Jb (Ja 1) (Jb (Ja 0) Je Jd) Jd)))))) Jz Ue))))) (Jg (Jk JB)) Jw) (Jg (Jk (JG (Uy rfl) Uu T.all Ux (Jr (dl (Jp (QD (own:=["one","other"]) (capt:=[]) rfl (CompScope.of rfl) (dil (zqD T.zip (Ja 1) (Qh (dl (Ja 1)) (J4 Jc) Qc))) (fun _ _ _ _=>(Qe rfl (Ju (Jm (i:=0) (by show(["one","other"]:List Str).Nodup;decide +kernel) rfl (Or.inl rfl)) (Ju (Jm (i:=1) (by show(["one","other"]:List Str).Nodup;decide +kernel) rfl (Or.inl rfl)) Qd)))) (by decide) (fun _ _ _ _=>QE) (fun _ _ _ _=>(Uc Qa J9 (dl (Ji h_end_of hr (Jb (Ja 0) Je Jd))) (dl (Jn (dl (Ja 1)) (dl Jc))) (Jo _)))))) Jz Ue)))))),?_⟩
 intro ts n R hl h;obtain⟨bits,d,rfl,b0,b1,⟨p,p3⟩,h⟩:=h;cases d with
 | dict ks =>
  cases ks with
  | nil =>
   have h:=h false ⟨fun z=>(by cases z),fun⟨bs,e,_⟩=>(by cases e)⟩
   wp_walk
   exact h
  | cons a b=>exact absurd rfl p
 | tuple ts =>
  obtain⟨l6,p3⟩:=p3 ts rfl
  wp_walk
  refine zdz (fun t=>.bool (JO bits t)) (by lia) ?_ ?_
  ·intro t ht K2 X2 hK2
   wp_walk using zi9 b0 b1 (p3 t ht) ?_
   exact hK2
  ·wp_walk using Uv ?_
   ·obtain⟨bs,rfl,B⟩:=zkQ b0 ts hc;rw[zmg,zou];rw[Qz]at l6;refine Uh (cs:=bs.zip bs.tail) (D:=fun q:(Int×Int)×(Int×Int)=>.tuple [prD q.1,prD q.2]) (fun q:(Int×Int)×(Int×Int)=>.bool (decide (eB q.1<=q.2.1))) (by rw[List.length_zip];lia) ?_ ?_
    ·rintro⟨⟨i,g⟩,⟨j,k⟩⟩ hq K2 X2 hK2;have hm:=B _ (List.of_mem_zip hq).1;have g0:0<=g:=hm.1;have g1:g<=bits:=hm.2.1
     wp_walk using zfU ?_ ?_ ?_
     ·exact g0
     ·exact(show g<=1000 by lia)
     ·exact hK2
    ·wp_walk using Uv ?_
     refine h _ ?_;rw[List.all_eq_true];constructor
     ·intro al;exact⟨bs,rfl,B,(ziu (bits:=bits)).mp fun q hq=>by simpa using al q hq⟩
     ·rintro⟨cs,e,P⟩ q hq;have e':bs=cs:=zmx (by simpa using e)
      subst e';simpa using(ziu (bits:=bits)).mpr P.2 q hq
   ·rename_i hc;refine h false ⟨fun z=>(by cases z),fun⟨bs,e,P⟩=>?_⟩
    cases e;have:(pD bs).all (JO bits)=true:=by
     rw[List.all_eq_true];intro x hx;obtain⟨b,hb,rfl⟩:=List.mem_map.mp hx;exact(Z2 b0).mpr (P.1 b hb)
    rw[this]at hc;cases hc
 | _ =>
  have h:=h false ⟨fun z=>(by cases z),fun⟨bs,e,_⟩=>(by cases e)⟩
  wp_walk
  exact h
theorem zfr:FnScope ["pairs"] ["pairs"] (Jl (top 17)):=⟨rfl,rfl,rfl,by decide +kernel,rfl,by decide +kernel,by decide +kernel⟩
def zdL:GD:=fun ts n R=>∃xs:List (PyData×PyData),ts=[.tuple (ppD xs)]/\xs.length<=1000000/\R (.tuple (xs.map (·.1))) n
theorem zgX{xs:List (PyData×PyData)}{n:Nat}{R:qN}(l:xs.length<=1000000)(h:R (.tuple (xs.map (·.1))) n):zdL [.tuple (ppD xs)] n R:=⟨xs,rfl,l,h⟩
def zdF(Z:ZZ):Prop:=FQ Z "all_blocks" (top 17) ["pairs"] 1 (spD Z.K 1 zdL)
theorem zfB(D:Dq Z.K Z.mg "all_blocks" (top 17) ["pairs"]) (T:Txt Z.mg):zdF Z:=by
 refine' okQ D zfr rfl fun f cdv A outer s H E hr=>⟨_,(Jg (Jk (Y0 Zq Zk T.tup Qm (Jr (dl (Jp (QD (own:=["block","name"]) (capt:=[]) rfl (CompScope.of rfl) (dil (Qx (Ja 0))) (fun _ _ _ _=>(Qe rfl (Ju (Jm (i:=0) (by show(["block","name"]:List Str).Nodup;decide +kernel) rfl (Or.inl rfl)) (Ju (Jm (i:=1) (by show(["block","name"]:List Str).Nodup;decide +kernel) rfl (Or.inl rfl)) Qd)))) (by decide) (fun _ _ _ _=>QE) (fun _ _ _ _=>(Ja 0))))) Jz Ue)))),?_⟩
 intro ts n R hl h;obtain⟨xs,rfl,l,h⟩:=h
 wp_walk
 refine Uh (cs:=xs) (D:=fun p=>.tuple [p.1,p.2]) (fun p=>p.1) (by lia) ?_ ?_
 ·intro p hp K2 X2 hK2
  wp_walk
  exact hK2
 ·wp_walk
  exact h
theorem ziH:FnScope ["thing"] ["thing"] (Jl (top 15)):=⟨rfl,rfl,rfl,by decide +kernel,rfl,by decide +kernel,by decide +kernel⟩
def UT:PyData->Bool
 | .tuple [_,_]=>true
 | _=>false
def zgH:GD:=fun ts n R=>∃d,ts=[d]/\Pln d/\R (.bool (UT d)) n
theorem zkM{d:PyData}{n:Nat}{R:qN}(p:Pln d)(h:R (.bool (UT d)) n):zgH [d] n R:=⟨d,rfl,p,h⟩
def zf8(Z:ZZ):Prop:=FQ Z "is_pair" (top 15) ["thing"] 1 (spD Z.K 1 zgH)
theorem ziQ(D:Dq Z.K Z.mg "is_pair" (top 15) ["thing"]) (T:Txt Z.mg):zf8 Z:=by
 refine' okQ D ziH rfl fun f cdv A outer s H E hr=>⟨_,(Jg (Jk (QO (Qb QY T.isi T.tup Qm (dl (Ja 0)) Jd) (QJ (Uc (Qy hr) Qw (dl (JG Qq Qo T.len Qn (Jr (dl (Ja 0)) Jz Jd))) (dl Jc) (Jo _)))))),?_⟩
 intro ts n R hl h;obtain⟨d,rfl,p,h⟩:=h;cases d with
 | tuple ts =>
  have e:UT (.tuple ts)=decide ((ts.length:Int)=2):=by
   match ts with
   | []=>rfl
   | [_]=>rfl
   | [_,_]=>rfl
   | _::_::_::r =>
    symm
    show decide _=false
    rw[decide_eq_false_iff_not];simp only[List.length_cons];lia
  rw[e]at h
  wp_walk
  exact h
 | dict ks =>
  cases ks with
  | nil =>
   wp_walk
   exact h
  | cons a b=>exact absurd rfl p
 | _ =>
  wp_walk
  exact h
theorem zfq:FnScope ["bits","thing"] ["bits","thing"] (Jl (top 14)):=⟨rfl,rfl,rfl,by decide +kernel,rfl,by decide +kernel,by decide +kernel⟩
theorem zgd:∀(ts:qD),ts.all UT=true->∃xs,ts=ppD xs
 | [],_=>⟨[],rfl⟩
 | t::ts,h=>by
  rw[List.all_cons,Bool.and_eq_true]at h;obtain⟨xs,rfl⟩:=zgd ts h.2;have h1:=h.1;unfold UT at h1;split at h1
  ·rename_i a b;exact⟨(a,b)::xs,rfl⟩
  ·cases h1
theorem zo3:∀{xs:List (PyData×PyData)}{bs:qB},xs.map (·.1)=pD bs->(∀p∈xs,nmD p.2=true)->∃os,ppD xs=oD os/\os.map (·.1)=bs/\∀p∈os,IsNm p.2
 | [],[],_,_=>⟨[],rfl,rfl,fun p hp=>nomatch hp⟩
 | [],_::_,h,_=>by cases h
 | _::_,[],h,_=>by cases h
 | (a,b)::xs,c::bs,h,hn=>by
  simp only[pD,List.map_cons,List.cons.injEq]at h;obtain⟨rfl,h⟩:=h;obtain⟨os,e1,e2,e3⟩:=zo3 (xs:=xs) (bs:=bs) h fun p hp=>hn p (by simp[hp])
  have hb:=hn (prD c,b) (by simp)
  have hb:nmD b=true:=hb;cases b with
  | str s =>
   refine⟨(c,s)::os,?_,?_,?_⟩
   ·show PyData.tuple [prD c,.str s]::ppD xs=PyData.tuple [prD c,.str s]::oD os
    rw[e1]
   ·simp[e2]
   ·intro p hp;rcases List.mem_cons.mp hp with rfl|hp
    ·exact ZO.mp hb
    ·exact e3 p hp
  | _=>cases hb
theorem zlz{d:PyData}(h:PlnD d):Pl2 d:=⟨h.pln,fun ts e t ht=>by subst e;exact(h.tup.2 t ht).pln⟩
theorem zly{d:PyData}(h:PlnD d):Pl3 d:=⟨h.pln,fun ts e=>by subst e;exact⟨h.tup.1,fun t ht=>zlz (h.tup.2 t ht)⟩⟩
def zdK:GD:=fun ts n R=>∃(bits:Int) (d:PyData),ts=[.int bits,d]/\0<=bits/\bits<=64/\PlnD d/\∀b:Bool,(b=true↔IsSh bits d)->R (.bool b) n
theorem zdQ{bits:Int}{d:PyData}{n:Nat}{R:qN}(b0:0<=bits)(b1:bits<=64)(p:PlnD d)(h:∀b:Bool,(b=true↔IsSh bits d)->R (.bool b) n):zdK [.int bits,d] n R:=⟨bits,d,rfl,b0,b1,p,h⟩
def zdE(Z:ZZ):Prop:=FQ Z "are_shares" (top 14) ["bits","thing"] 4 (spD Z.K 2 zdK)
theorem zfA(D:Dq Z.K Z.mg "are_shares" (top 14) ["bits","thing"]) (h_is_patch:ze6 Z) (h_all_blocks:zdF Z) (h_is_name:zf9 Z) (h_is_pair:zf8 Z) (T:Txt Z.mg):zdE Z:=by
 refine' okQ D zfq rfl fun f cdv A outer s H E hr=>⟨_,(Jf (Jt (JR (JV (JJ (JK (dl (Qb QY T.isi T.tup Qm (dl (Ja 1)) Jd)))) (Qf (JJ (JK (dl (JG (Uy rfl) Uu T.all Ux (Jr (dl (Jp (QD (own:=["pair"]) (capt:=[]) rfl (CompScope.of rfl) (dil (Qx (Ja 1))) (fun _ _ _ _=>(Jm (i:=0) (by show(["pair"]:List Str).Nodup;decide +kernel) rfl (Or.inl rfl))) (by decide) (fun _ _ _ _=>QE) (fun _ _ _ _=>(Ji h_is_pair hr (Jb (Ja 0) Je Jd)))))) Jz Ue)))))))) (Jg (Jk JB)) Jw) (Jg (Jk (QO (Ji h_is_patch hr (Jb (Ja 0) (Jb (Ji h_all_blocks hr (Jb (Ja 1) Je Jd)) Je JN) Jd)) (QJ (JG (Uy rfl) Uu T.all Ux (Jr (dl (Jp (QD (own:=["block","name"]) (capt:=[]) rfl (CompScope.of rfl) (dil (Qx (Ja 1))) (fun _ _ _ _=>(Qe rfl (Ju (Jm (i:=0) (by show(["block","name"]:List Str).Nodup;decide +kernel) rfl (Or.inl rfl)) (Ju (Jm (i:=1) (by show(["block","name"]:List Str).Nodup;decide +kernel) rfl (Or.inl rfl)) Qd)))) (by decide) (fun _ _ _ _=>QE) (fun _ _ _ _=>(Ji h_is_name hr (Jb (Ja 1) Je Jd)))))) Jz Ue))))))),?_⟩
 intro ts n R hl h;obtain⟨bits,d,rfl,b0,b1,p,h⟩:=h;cases d with
 | dict ks =>
  cases ks with
  | nil =>
   have h:=h false ⟨fun z=>(by cases z),fun⟨bs,e,_⟩=>(by cases e)⟩
   wp_walk
   exact h
  | cons a b=>exact absurd rfl p.pln
 | tuple ts =>
  obtain⟨l6,p3⟩:=p.tup
  wp_walk
  refine zdz (fun t=>.bool (UT t)) (by lia) ?_ ?_
  ·intro t ht K2 X2 hK2
   wp_walk using zkM (p3 t ht).pln ?_
   exact hK2
  ·wp_walk using Uv ?_
   ·obtain⟨xs,rfl⟩:=zgd ts hc;have lx:xs.length<=1000000:=by simpa[ppD] using l6
    have px:∀q∈xs,PlnD q.1/\PlnD q.2:=fun q hq=>by
     have:=(p3 (.tuple [q.1,q.2]) (List.mem_map.mpr ⟨q,hq,rfl⟩)).tup.2;exact⟨this _ (by simp),this _ (by simp)⟩
    have pl:Pl3 (.tuple (xs.map (·.1))):=zly (JW (by rw[List.length_map];exact lx) fun t ht=>by
     obtain⟨q,hq,rfl⟩:=List.mem_map.mp ht;exact(px q hq).1)
    wp_walk using zgX lx ?_,zi7 b0 b1 pl (fun b hb=>?_)
    ·rename_i hbt;obtain⟨bs,eb,P⟩:=hb.mp hc;refine Uh (cs:=xs) (D:=fun p=>.tuple [p.1,p.2]) (fun p=>.bool (nmD p.2)) (by lia) ?_ ?_
     ·intro q hq K2 X2 hK2
      wp_walk using zkN (px q hq).2 ?_
      exact hK2
     ·wp_walk using Uv ?_
      refine h _ ?_;rw[List.all_eq_true];constructor
      ·intro al;obtain⟨os,e1,e2,e3⟩:=zo3 (bs:=bs) (PyData.tuple.inj eb) al;exact⟨os,by rw[e1],by rw[e2];exact P,e3⟩
      ·rintro⟨os,e,S⟩ q hq;have e':ppD xs=oD os:=PyData.tuple.inj e;rw[zpw]at e';have:=zhe e';subst this;obtain⟨o,ho,rfl⟩:=List.mem_map.mp hq;exact ZO.mpr (S.2 o ho)
    ·have hbf:b=false:=hc;refine h false ⟨fun z=>(by cases z),fun⟨os,e,S⟩=>?_⟩
     have e':ppD xs=oD os:=PyData.tuple.inj e;rw[zpw]at e';have:=zhe e';subst this;have:IsPt bits (.tuple ((os.map fun p=>(prD p.1,PyData.str p.2)).map (·.1))):=⟨os.map (·.1),by simp[pD],S.1⟩
     rw[hb.mpr this]at hbf;cases hbf
   ·refine h false ⟨fun z=>(by cases z),fun⟨os,e,S⟩=>?_⟩
    cases e;have:(oD os).all UT=true:=by
     rw[List.all_eq_true];intro x hx;obtain⟨o,_,rfl⟩:=List.mem_map.mp hx
     rfl
    rw[this]at hc;cases hc
 | _ =>
  have h:=h false ⟨fun z=>(by cases z),fun⟨bs,e,_⟩=>(by cases e)⟩
  wp_walk
  exact h
theorem Uk:FnScope ["outs","kept","at","by","one","name","other","theirs"] ["outs","kept"] (Jl (top 16)):=⟨rfl,rfl,rfl,by decide +kernel,rfl,by decide +kernel,by decide +kernel⟩
def zkk:GD:=fun ts n R=>∃(bits:Int) (os ks:List ((Int×Int)×Str)),ts=[.tuple (oD os),.tuple (oD ks)]/\0<=bits/\bits<=64/\os.length<=1000000/\ks.length<=1000000/\Shr bits os/\Shr bits ks/\∀b:Bool,(b=true↔Agr os ks)->R (.bool b) n
theorem zoi{bits:Int}{os ks:List ((Int×Int)×Str)}{n:Nat}{R:qN}(b0:0<=bits)(b1:bits<=64)(l1:os.length<=1000000)(l2:ks.length<=1000000)(S1:Shr bits os)(S2:Shr bits ks)(h:∀b:Bool,(b=true↔Agr os ks)->R (.bool b) n):zkk [.tuple (oD os),.tuple (oD ks)] n R:=⟨bits,os,ks,rfl,b0,b1,l1,l2,S1,S2,h⟩
def zjE(Z:ZZ):Prop:=FQ Z "agree" (top 16) ["outs","kept"] 4 (spD Z.K 2 zkk)
theorem zlK(D:Dq Z.K Z.mg "agree" (top 16) ["outs","kept"]) (h_end_of:zfv Z) (h_apart:zjD Z) (T:Txt Z.mg):zjE Z:=by
 refine' okQ D Uk rfl fun f cdv A outer s H E hr=>⟨_,(Jf (JE (i:=2) Uk.nd rfl (Or.inl rfl) Jc) (Jf (JE (i:=3) Uk.nd rfl (Or.inl rfl) Jc) (Jf (zmb PassesOwn.never (JR (Yz (Js (QT hr) QS (dl (Ja 2)) (dl (JG Qq Qo T.len Qn (Jr (dl (Ja 0)) Jz Jd))) (Jo _)) (YN (Js (QT hr) QS (dl (Ja 3)) (dl (JG Qq Qo T.len Qn (Jr (dl (Ja 1)) Jz Jd))) (Jo _))))) (Jf (Ud (Jn (dl (Ja 0)) (dl (Ja 2))) (Qe rfl (Ju (Jm (i:=4) Uk.nd rfl (Or.inl rfl)) (Ju (Jm (i:=5) Uk.nd rfl (Or.inl rfl)) Qd)))) (Jf (Ud (Jn (dl (Ja 1)) (dl (Ja 3))) (Qe rfl (Ju (Jm (i:=6) Uk.nd rfl (Or.inl rfl)) (Ju (Jm (i:=7) Uk.nd rfl (Or.inl rfl)) Qd)))) (Jf (Jt (JR (Yz (Js (QK hr) QG (dl (Ja 5)) (dl (Ja 7)) (Jo _)) (YN (JJ (JK (dl (Ji h_apart hr (Jb (Ja 4) (Jb (Ja 6) Je Jd) Jd)))))))) (Jg (Jk JB)) Jw) (Jg (Jt (Js (QT hr) QS (dl (Ji h_end_of hr (Jb (Ja 4) Je Jd))) (dl (Ji h_end_of hr (Jb (Ja 6) Je Jd))) (Jo _)) (Jg (zmM (i:=2) Uk.nd rfl (Or.inl rfl) Jc zmB)) (Jg (zmM (i:=3) Uk.nd rfl (Or.inl rfl) Jc zmB)))))))) (Jg (Jk JB))))),?_⟩
 intro ts n R hl h;obtain⟨bits,os,ks,rfl,b0,b1,l1,l2,S1,S2,h⟩:=h
 wp_walk
 refine zmS (fun m ρ n'=>n'=n/\∃(at_ by_:Nat) (c4 c5 c6 c7:Option Cell),ρ=[some (.val (.tuple (oD os))),some (.val (.tuple (oD ks))),some (.val (.int at_)),some (.val (.int by_)),c4,c5,c6,c7]/\m=(os.length - at_)+(ks.length - by_)/\at_<=os.length/\by_<=ks.length /\
   (∀(i:Nat) p,i<at_->os[i]?=some p->∀q∈ks,okPr p q)/\(∀(j:Nat) q,j<by_->ks[j]?=some q->∀p∈os,okPr p q)) ⟨rfl,0,0,_,_,_,_,rfl,rfl,by lia,by lia,fun i p hi=>absurd hi (Nat.not_lt_zero _),fun i p hi=>absurd hi (Nat.not_lt_zero _)⟩ ?_
 rintro m ρ n' NX RT BK ⟨rfl,at_,by_,c4,c5,c6,c7,rfl,rfl,la,lb,I1,I2⟩ hN hR hB;have fin:(∀p∈os,∀q∈ks,okPr p q)->∀ρ,BK ρ n':=fun al ρ=>hB _ _ (h true ⟨fun _=>al,fun _=>rfl⟩)
 have A1:(∀(i:Nat) p,i<at_->os[i]?=some p->∀q∈ks,okPr p q)->os.length<=at_->∀p∈os,∀q∈ks,okPr p q:=fun I le p hp q hq=>by
  obtain⟨i,hi,rfl⟩:=List.getElem_of_mem hp;exact I i _ (by lia) (List.getElem?_eq_getElem hi) q hq
 have A2:(∀(j:Nat) q,j<by_->ks[j]?=some q->∀p∈os,okPr p q)->ks.length<=by_->∀p∈os,∀q∈ks,okPr p q:=fun I le p hp q hq=>by
  obtain⟨i,hi,rfl⟩:=List.getElem_of_mem hq;exact I i _ (by lia) (List.getElem?_eq_getElem hi) p hp
 wp_walk
 ·rename_i ha;rw[JZ]at ha hc;have ha:at_<os.length:=by lia
  have hb:by_<ks.length:=by lia
  obtain⟨p,ep⟩:∃p,os[at_]?=some p:=⟨_,List.getElem?_eq_getElem ha⟩;obtain⟨q,eq⟩:∃q,ks[by_]?=some q:=⟨_,List.getElem?_eq_getElem hb⟩;have hp:=List.mem_of_getElem? ep;have hq:=List.mem_of_getElem? eq;have Bp:=S1.1.1 _ (List.mem_map.mpr ⟨p,hp,rfl⟩);have Bq:=S2.1.1 _ (List.mem_map.mpr ⟨q,hq,rfl⟩);have p0:=Bp.1;have p1:=Bp.2.1;have q0:=Bq.1;have q1:=Bq.2.1;have pl:=Bp.lt b0 b1;have ql:=Bq.lt b0 b1;have ap:=zqP Bp Bq
  have goA:okPr p q->eB p.1<eB q.1->∀a b c d,NX [some (.val (.tuple (oD os))),some (.val (.tuple (oD ks))),some (.val (.int (at_+1))),some (.val (.int by_)),a,b,c,d] n':=fun ok lt a b c d=>by
   refine hN ((os.length - (at_+1))+(ks.length - by_)) _ _ (by lia) ⟨rfl,at_+1,by_,a,b,c,d,rfl,rfl,by lia,lb,fun i r hi er s hs=>?_,I2⟩
   by_cases z:i=at_
   ·subst z;rw[ep]at er;cases er;obtain⟨j,hj,rfl⟩:=List.getElem_of_mem hs;rcases Nat.lt_trichotomy j by_ with y|y|y
    ·exact I2 j _ y (List.getElem?_eq_getElem hj) p hp
    ·subst y;rw[List.getElem?_eq_getElem hj]at eq;cases eq;exact ok
    ·right;left
     have pw:=List.pairwise_map.mp S2.1.2;have:=List.pairwise_iff_getElem.mp pw by_ j hb hj y;rw[List.getElem?_eq_getElem hb]at eq;cases eq;lia
   ·exact I1 i r (by lia) er s hs
  have goB:okPr p q->¬eB p.1<eB q.1->∀a b c d,NX [some (.val (.tuple (oD os))),some (.val (.tuple (oD ks))),some (.val (.int at_)),some (.val (.int (by_+1))),a,b,c,d] n':=fun ok lt a b c d=>by
   refine hN ((os.length - at_)+(ks.length - (by_+1))) _ _ (by lia) ⟨rfl,at_,by_+1,a,b,c,d,rfl,rfl,la,by lia,I1,fun i r hi er s hs=>?_⟩
   by_cases z:i=by_
   ·subst z;rw[eq]at er;cases er;obtain⟨j,hj,rfl⟩:=List.getElem_of_mem hs;rcases Nat.lt_trichotomy j at_ with y|y|y
    ·exact I1 j _ y (List.getElem?_eq_getElem hj) q hq
    ·subst y;rw[List.getElem?_eq_getElem hj]at ep;cases ep;exact ok
    ·right;right
     have pw:=List.pairwise_map.mp S1.1.2;have:=List.pairwise_iff_getElem.mp pw at_ j ha hj y;rw[List.getElem?_eq_getElem ha]at ep;cases ep;lia
   ·exact I2 i r (by lia) er s hs
  wp_walk using zpR (k:=at_) rfl (zpx ep) ?_,zpR (k:=by_) rfl (zpx eq) ?_,zoh p0 (by lia) q0 (by lia) pl.1 (by lia) ql.1 (by lia) ?_,zfU p0 (by lia) ?_,zfU q0 (by lia) ?_
  ·rename_i y;exact goA (.inl y) hc _ _ _ _
  ·rename_i y;exact goB (.inl y) hc _ _ _ _
  ·rename_i y;exact goA (.inr (ap.mp y)) hc _ _ _ _
  ·rename_i y;exact goB (.inr (ap.mp y)) hc _ _ _ _
  ·rename_i y;refine hR _ _ (h false ⟨fun z=>(by cases z),fun al=>?_⟩)
   rcases al p hp q hq with z|z
   ·exact absurd z y
   ·rw[ap.mpr z]at hc;cases hc
 ·rw[JZ]at hc;exact fin (A2 I2 (by lia)) _
 ·rw[JZ]at hc;exact fin (A1 I1 (by lia)) _
theorem Z1:FnScope ["thing","bits","outs","kept"] ["thing"] (Jl (top 13)):=⟨rfl,rfl,rfl,by decide +kernel,rfl,by decide +kernel,by decide +kernel⟩
def ZP:GD:=fun ts n R=>∃(d:PyData),ts=[d]/\PlnD d/\∀b:Bool,(b=true↔IsDl d)->R (.bool b) n
theorem zkO{d:PyData}{n:Nat}{R:qN}(p:PlnD d)(h:∀b:Bool,(b=true↔IsDl d)->R (.bool b) n):ZP [d] n R:=⟨d,rfl,p,h⟩
theorem zi8{d:PyData}{n:Nat}{R:qN}(p:PlnD d)(i:IsDl d)(h:R (.bool true) n):ZP [d] n R:=⟨d,rfl,p,fun b hb=>by rw[hb.mpr i];exact h⟩
def zf_(Z:ZZ):Prop:=FQ Z "is_deal" (top 13) ["thing"] 5 (spD Z.K 1 ZP)
theorem ziS(D:Dq Z.K Z.mg "is_deal" (top 13) ["thing"]) (h_are_shares:zdE Z) (h_agree:zjE Z) (h_is_whole:zdn Z) (T:Txt Z.mg):zf_ Z:=by
 refine' okQ D Z1 rfl fun f cdv A outer s H E hr=>⟨_,(Jf (Jt (JR (JV (JJ (JK (dl (Qb QY T.isi T.tup Qm (dl (Ja 0)) Jd)))) (Qf (Js (QK hr) QG (dl (JG Qq Qo T.len Qn (Jr (dl (Ja 0)) Jz Jd))) (dl Jc) (Jo _))))) (Jg (Jk JB)) Jw) (Jf (Ud (Ja 0) (Qe rfl (Ju (Jm (i:=1) Z1.nd rfl (Or.inl rfl)) (Ju (Jm (i:=2) Z1.nd rfl (Or.inl rfl)) (Ju (Jm (i:=3) Z1.nd rfl (Or.inl rfl)) Qd))))) (Jf (Jt (JR (JV (JJ (JK (dl (Ji h_is_whole hr (Jb (Ja 1) Je Jd))))) (Qf (JJ (zfP Qa J9 Qa J9 (dl Jc) (dl (Ja 1)) (dl Jc)))))) (Jg (Jk JB)) Jw) (Jg (Jk (QO (Ji h_are_shares hr (Jb (Ja 1) (Jb (Ja 2) Je Jd) Jd)) (QO (Ji h_are_shares hr (Jb (Ja 1) (Jb (Ja 3) Je Jd) Jd)) (QJ (Ji h_agree hr (Jb (Ja 2) (Jb (Ja 3) Je Jd) Jd)))))))))),?_⟩
 intro ts n R hl h;obtain⟨d,rfl,p,h⟩:=h;have no':¬IsDl d->R (.bool false) n:=fun hn=>h false ⟨fun z=>(by cases z),fun z=>absurd z hn⟩
 have no:(∀d',d≠dlD d')->R (.bool false) n:=fun hn=>no' fun⟨d',e,_⟩=>hn d' e
 cases d with
 | dict ks =>
  cases ks with
  | nil =>
   have h:=no fun _ z=>(by cases z)
   wp_walk
   exact h
  | cons a b=>exact absurd rfl p.pln
 | tuple ts =>
  obtain⟨l6,p3⟩:=p.tup
  match ts,p3,h,no,no' with
  | [],_,h,no,_ =>
   have h:=no fun _ z=>(by cases z)
   wp_walk
   all_goals first|exact h|(exfalso;simp at hc;done)
  | [x],_,h,no,_ =>
   have h:=no fun _ z=>(by cases z)
   wp_walk
   all_goals first|exact h|(exfalso;simp at hc;done)
  | [x,y],_,h,no,_ =>
   have h:=no fun _ z=>(by cases z)
   wp_walk
   all_goals first|exact h|(exfalso;simp at hc;done)
  | x::y::z::u::r,_,h,no,_ =>
   have h:=no fun _ z=>(by cases z)
   wp_walk
   all_goals first|exact h|(exfalso;simp at hc;lia)
  | [x,y,z],p3,h,no,no' =>
   have px:=p3 x (by simp)
   have py:=p3 y (by simp)
   have pz:=p3 z (by simp)
   have wx:(∃b,x=.int b)\/(Y1 x=false/\∀b,x≠.int b):=by
    cases x with
    | int b=>exact .inl ⟨b,rfl⟩
    | _=>exact .inr ⟨rfl,fun _ z=>by cases z⟩
   rcases wx with⟨bits,rfl⟩|⟨wx,nx⟩
   ·wp_walk using Yp (b:=true) rfl px.pln ?_
    ·rename_i hb1;refine zdQ (by lia) hc py fun b hb=>?_
     wp_walk
     ·obtain⟨os,rfl,S1⟩:=hb.mp (by assumption)
      refine zdQ (by lia) (by lia) pz fun b' hb'=>?_
      wp_walk
      ·obtain⟨ks,rfl,S2⟩:=hb'.mp (by assumption)
       refine zoi (bits:=bits) (by lia) (by lia) (by rw[<- JZ];exact py.tup.1) (by rw[<- JZ];exact pz.tup.1) S1 S2 fun b'' hb''=>h _ ⟨fun z=>?_,fun⟨d,e,D⟩=>?_⟩
       ·exact⟨(bits,os,ks),rfl,hb1,by lia,S1,S2,hb''.mp z⟩
       ·obtain⟨e1,e2,e3⟩:=dl3 e;have z1:=YK (PyData.tuple.inj e2);have z2:=YK (PyData.tuple.inj e3);refine hb''.mpr ?_;rw[z1,z2];exact D.2.2.2.2
      ·have hf:b'=false:=by assumption
       refine no' fun⟨d',e,D⟩=>?_
       obtain⟨e1,e2,e3⟩:=dl3 e;have e1:bits=d'.1:=by cases e1;rfl
       have:=hb'.mpr ⟨_,e3,by rw[e1];exact D.2.2.2.1⟩
       rw[this]at hf;cases hf
     ·have hf:b=false:=by assumption
      refine no' fun⟨d',e,D⟩=>?_
      obtain⟨e1,e2,e3⟩:=dl3 e;have e1:bits=d'.1:=by cases e1;rfl
      have:=hb.mpr ⟨_,e2,by rw[e1];exact D.2.2.1⟩
      rw[this]at hf;cases hf
    ·refine no' fun⟨d',e,D⟩=>?_
     have e1:bits=d'.1:=by have:=(dl3 e).1;cases this;rfl
     have:=D.2.1;lia
    ·refine no' fun⟨d',e,D⟩=>?_
     have e1:bits=d'.1:=by have:=(dl3 e).1;cases this;rfl
     have:=D.1;lia
    ·exact absurd rfl hc
   ·have h:=no fun d' e=>nx _ (dl3 e).1
    wp_walk using Yp wx px.pln ?_
    all_goals first|exact h|(exfalso;simp at hc;done)
 | _ =>
  have h:=no fun _ z=>(by cases z)
  wp_walk
  exact h
theorem scH:FnScope ["_law_script","_law_k","_law_cell"] ["_law_script","_law_k"] (Jl (top 19)):=⟨rfl,rfl,rfl,by decide +kernel,rfl,by decide +kernel,by decide +kernel⟩
theorem zgk{f:Addr}{fd:FuncData}(D:Def K mg "_law_hand" (top 19) ["_law_script","_law_k"] f fd) (T:Txt mg):FnOk P w K mg base CX0 1 f fd ["_law_script","_law_k"] (ZG K):=by
 refine D.F.ok scH (fun vs H Q E h=>?_) (fun cdv A outer s H vs Q E hr h=>?_)
 ·obtain⟨a,ns,k,rfl,_⟩:=h
  rfl
 ·obtain⟨a,ns,k,rfl,hS,hl,k0,k1,q⟩:=h;refine⟨_,QB (QW (i:=2) scH.nd rfl (Or.inl rfl) JF)
   (QB (zm9 (zhc zpp (pv 1) (Y5 zgW T.len Qn (pb_v 0 QV)) (Jo _)) (Ze (QW (i:=2) scH.nd rfl (Or.inl rfl) (Uq Uw (pv 0) (pv 1) (fun _ _=>rfl)))) zhd)
   (Ze (ZJ (zjN (zmv (JD QU (pv 2) (znj zkK T.int boot_int (zph (zjO zpq (pv 2) (JD zpm JF JF) (Jo _)) QV)))
    (zmv (JD Ug (JD Ug (JD U8 (pv 2) JF) (JD QU JF (pv 1))) JF) (pb_i QV))))))),?_⟩
  refine⟨_,rfl,_,rfl,a,_,rfl,.inl hS,_,_,rfl,rfl,_,rfl,?_⟩;have fin:∀c:Int,tRet (tLst (QH (tOp (rI CMul fun i j=>V.int (i*j)) (tVar 2) (tCB (fun xs H Q=>(∃i,xs=[.int i]/\Q (.int i) H)\/∃k,xs=[.bl k]/\Q (.int (if k then 1 else 0)) H) (QH (tOp (rI0 fun i j=>.bl (decide (j<=i))) (tVar 2) (tOp (rI CPow fun i j=>.int (i ^ j.toNat)) (tC (.int 10)) (tC (.int 18)))) tNil)))
    (QH (tOp (rI0 fun i j=>.int (i+j)) (tOp (rI0 fun i j=>.int (i+j)) (tOp (rI (fun _ j=>0<j) fun i j=>.int (i % j)) (tVar 2) (tC (.int 2305843009213693951))) (tOp (rI CMul fun i j=>V.int (i*j)) (tC (.int 7919)) (tVar 1))) (tC (.int 3))) (QH (tC (.int 0)) tNil))))
    { nx:=fun _ H'=>Q .non H',rt:=Q } [some (.ref a),some (.int k),some (.int c)] H:=by
   intro c;refine⟨_,rfl,_,rfl,_,_,rfl,rfl,⟨by decide,by decide,by decide⟩,_,_,rfl,rfl,.inr ⟨_,rfl,_,_,rfl,rfl,.inr ?_,?_⟩⟩
   ·split <;> decide
   ·refine⟨_,rfl,_,_,rfl,rfl,(by show(0:Int)<2305843009213693951;decide),_,rfl,_,_,rfl,rfl,.inl ⟨by decide,by decide⟩,_,_,rfl,rfl,_,_,rfl,rfl,(by show 3<=sizeLine;decide),fun l hn=>?_⟩
    refine q l _ hn ⟨_,_,_,J1,?_,?_,Int.le_refl _,Int.le_refl _⟩ (zlf hn)
    ·lia
    ·lia
  refine zp1 (fun c=>?_) (fun c=>?_)
  ·have hk:k.toNat<ns.length:=by rw[List.length_map]at c;lia
   refine⟨_,rfl,_,rfl,a,_,_,V.int (ns[k.toNat]),rfl,rfl,hS,?_,?_⟩
   ·exact zdC k0 (by rw[List.getElem?_map,List.getElem?_eq_getElem hk];rfl)
   ·exact fin _
  ·exact fin 0
def zd_(Z:ZZ):Prop:=FQ Z "_law_hand" (top 19) ["_law_script","_law_k"] 1 (ZG Z.K)
theorem zfz(D:Dq Z.K Z.mg "_law_hand" (top 19) ["_law_script","_law_k"]) (T:Txt Z.mg):zd_ Z:=by
 obtain⟨f,fd,D⟩:=D;exact⟨f,fd,D,zgk D T⟩
theorem zf5{H:Hp}{hd:Addr}{o:HO}:zqR hd H (upd H hd o):=fun b u e n=>by rw[Jy n];exact e
theorem scT:FnScope ["_law_hand_here","_law_many","_law_digit","_law_turn","_law_mixed","_law_other"] ["_law_hand_here","_law_many"] (Jl (top 20)):=⟨rfl,rfl,rfl,by decide +kernel,rfl,by decide +kernel,by decide +kernel⟩
theorem zlH{f:Addr}{fd:FuncData}(D:Def K mg "_law_take" (top 20) ["_law_hand_here","_law_many"] f fd) (T:Txt mg):FnOk P w K mg base CX0 1 f fd ["_law_hand_here","_law_many"] zmq:=by
 refine D.F.ok scT (fun vs H Q E h=>?_) (fun cdv A outer s H vs Q E hr h=>?_)
 ·obtain⟨hd,many,n,rfl,_⟩:=h
  rfl
 ·obtain⟨hd,many,n,rfl,⟨d,m,t,hh,m0,m1,t0,t1⟩,hn,y0,y1,q⟩:=h;refine⟨_,QB (zm9 (zhc Yt (Uq Uw (pv 0) JF (fun _ _=>rfl)) JF (Jo _))
    (QB (QW (i:=2) scT.nd rfl (Or.inl rfl) (JD U8 (Uq Uw (pv 0) JF (fun _ _=>rfl)) (pv 1)))
    (QB (zjG (JD ZU (Uq Uw (pv 0) JF (fun _ _=>rfl)) (pv 1)) (zmu (pv 0) JF set_list))
    (Ze (ZJ (pv 2))))) zhd)
   (QB (zjG (JD Ug (Uq Uw (pv 0) JF (fun _ _=>rfl)) JF) (zmu (pv 0) JF set_list))
   (QB (QW (i:=3) scT.nd rfl (Or.inl rfl) (Uq Uw (pv 0) JF (fun _ _=>rfl)))
   (QB (QW (i:=4) scT.nd rfl (Or.inl rfl) (JD U8 (JD QU (Uq Uw (pv 0) JF (fun _ _=>rfl)) (JD Ug (JD Ug JF (JD QU (JD QU JF (pv 3)) (pv 3))) (JD QU JF (pv 3)))) JF))
   (QB (QW (i:=5) scT.nd rfl (Or.inl rfl) (JD Ug (JD Ug (JD U8 (pv 4) JF) (JD QU (pv 3) JF)) JF))
   (QB (QW (i:=4) scT.nd rfl (Or.inl rfl) (JD U8 (JD QU (pv 4) (pv 5)) JF))
   (Ze (ZJ (JD U8 (JD Ug (JD ZU (pv 4) JF) (JD ZU (pv 4) JF)) (pv 1))))))))),?_⟩
  refine⟨_,rfl,hd,_,_,_,rfl,rfl,.of hh,rfl,_,_,rfl,rfl,_,rfl,?_⟩;refine zp1 (fun c=>?_) (fun c=>?_)
  ·refine⟨_,rfl,hd,_,_,_,rfl,rfl,.of hh,rfl,_,rfl,_,_,rfl,rfl,y0,?_⟩;refine⟨_,rfl,hd,_,_,_,rfl,rfl,.of hh,rfl,_,rfl,_,_,rfl,rfl,⟨y0,y1⟩,?_⟩;refine⟨_,rfl,hd,_,_,0,rfl,rfl,hh,rfl,?_⟩;refine⟨_,rfl,?_⟩;exact q _ _ (Int.emod_nonneg _ (by lia)) (Int.emod_lt_of_pos _ y0) ⟨_,_,_,J1,m0,m1,t0,by lia⟩ zf5
  ·refine⟨_,rfl,hd,_,_,_,rfl,rfl,.of hh,rfl,_,_,rfl,rfl,?_⟩;refine⟨_,rfl,hd,_,_,2,rfl,rfl,hh,rfl,?_⟩;refine⟨_,rfl,hd,_,_,_,rfl,rfl,.of J1,rfl,?_⟩;refine⟨_,rfl,hd,_,_,_,rfl,rfl,.of J1,rfl,_,rfl,_,_,rfl,rfl,.inl ⟨by decide,by decide⟩,_,rfl,_,_,rfl,rfl,.inr ⟨by lia,by lia⟩,_,_,rfl,rfl,_,rfl,_,_,rfl,rfl,.inl ⟨by decide,by decide⟩,_,_,rfl,rfl,_,_,rfl,rfl,.inl ⟨by lia,by lia⟩,_,_,rfl,rfl,(by show(0:Int)<2305843009213693921;decide),?_⟩
   refine⟨_,rfl,_,_,rfl,rfl,(by show(0:Int)<1000003;decide),_,rfl,_,_,rfl,rfl,.inr ⟨by decide,by decide⟩,_,_,rfl,rfl,_,_,rfl,rfl,?_⟩
   refine⟨_,rfl,_,rfl,_,_,rfl,rfl,.inl ⟨by lia,by lia⟩,_,_,rfl,rfl,(by show(0:Int)<2305843009213693907;decide),?_⟩
   refine⟨_,rfl,_,_,rfl,rfl,⟨by decide,by decide⟩,_,rfl,_,_,rfl,rfl,⟨by decide,by decide⟩,_,_,rfl,rfl,_,rfl,_,_,rfl,rfl,y0,?_⟩
   exact q _ _ (Int.emod_nonneg _ (by lia)) (Int.emod_lt_of_pos _ y0) ⟨_,_,_,J1,m0,m1,by lia,by lia⟩ zf5
theorem zgg{f:Addr}{fd:FuncData}(D:Def K mg "_law_take" (top 20) ["_law_hand_here","_law_many"] f fd) (T:Txt mg):FnOk P w K mg base CX0 1 f fd ["_law_hand_here","_law_many"] (spD K 2 Uf) :=
 (zlH D T).imp zlc
def QQ(Z:ZZ):Prop:=FQ Z "_law_take" (top 20) ["_law_hand_here","_law_many"] 1 (spD Z.K 2 Uf)
theorem zfy(D:Dq Z.K Z.mg "_law_take" (top 20) ["_law_hand_here","_law_many"]) (T:Txt Z.mg):QQ Z:=by
 obtain⟨f,fd,D⟩:=D;exact⟨f,fd,D,zgg D T⟩
theorem zf2:FnScope ["_law_hand_here","_law_some"] ["_law_hand_here","_law_some"] (Jl (top 21)):=⟨rfl,rfl,rfl,by decide +kernel,rfl,by decide +kernel,by decide +kernel⟩
def Ul:GD:=fun ts n R=>match ts with
 | [h,.list xs]=>h=HAND/\xs≠[]/\xs.length<=1000000/\n<=1000000000000/\∀x∈xs,R x (n+1)
 | [h,.tuple xs]=>h=HAND/\xs≠[]/\xs.length<=1000000/\n<=1000000000000/\∀x∈xs,R x (n+1)
 | _=>False
theorem zgY{xs:qD}{n:Nat}{R:qN}(h0:xs≠[])(h1:xs.length<=1000000)(hn:n<=1000000000000)(h:∀x∈xs,R x (n+1)):Ul [HAND,.tuple xs] n R:=⟨rfl,h0,h1,hn,h⟩
theorem UB{xs:qD}{n:Nat}{R:qN}(h0:xs≠[])(h1:xs.length<=1000000)(hn:n<=1000000000000)(h:∀x∈xs,R x (n+1)):Ul [HAND,.list xs] n R:=⟨rfl,h0,h1,hn,h⟩
def Q6(Z:ZZ):Prop:=FQ Z "_law_pick" (top 21) ["_law_hand_here","_law_some"] 2 (spD Z.K 2 Ul)
theorem zgh(D:Dq Z.K Z.mg "_law_pick" (top 21) ["_law_hand_here","_law_some"]) (h__law_take:QQ Z) (T:Txt Z.mg):Q6 Z:=by
 refine' okQ D zf2 rfl fun f cdv A outer s H E hr=>⟨_,(Jg (Jk (Jn (dl (Ja 1)) (dl (Ji h__law_take hr (Jb (Ja 0) (Jb (JG Qq Qo T.len Qn (Jr (dl (Ja 1)) Jz Jd)) Je JN) Jd)))))),?_⟩
 intro ts n R hl h;unfold Ul at h;split at h
 ·rename_i hd xs;obtain⟨rfl,h0,h1,h2,h⟩:=h;have hp:0<xs.length:=List.length_pos_iff.mpr h0;simp only[YI,YH,YJ,u_dC,Yr,YM,YF,YE,YW,Yq,YX,YG,YB,Yo,Ye,Yf,Yg,Yn,Yc,Yl,UV,oSub,oMul,oMod,Ua,oShl,oShr,oXor,isNone,isInt,isBool,isTup,isStr,l_gI,Yx,UW,UX,UY,UE,UG,UF,UN,UM,UP,UQ,UO,Ym,UJ,UH,UI,U0,U1,U2,UZ,U5,U6,UU,YC,U4,U3,Yj,UL,UK,Yk,Yi,QN,QM,Q5,Q4,Q1,Q3,Q0,Uz,JY,JH,capV,List.map_cons,List.map_nil,List.length_cons,List.length_nil,List.replicate_succ,List.replicate_zero,List.cons_append,List.nil_append,List.append_nil,List.getElem?_cons_succ,List.getElem?_cons_zero,List.set_cons_succ,List.set_cons_zero,List.getD_cons_succ,List.getD_cons_zero,Nat.zero_add,Nat.reduceAdd,Nat.reduceSub,Nat.sub_self,true_and,and_true,Bool.false_eq_true,if_true,if_false,ite_true,ite_false,Bool.not_true,Bool.not_false,Int.natCast_zero,Uf]
  refine⟨by lia,by lia,h2,fun r r0 r1=>?_⟩
  have hr':r.toNat<xs.length:=by lia
  rw[znH (zdC r0 (List.getElem?_eq_getElem hr'))];exact h _ (List.getElem_mem hr')
 ·rename_i hd xs;obtain⟨rfl,h0,h1,h2,h⟩:=h;have hp:0<xs.length:=List.length_pos_iff.mpr h0;simp only[YI,YH,YJ,u_dC,Yr,YM,YF,YE,YW,Yq,YX,YG,YB,Yo,Ye,Yf,Yg,Yn,Yc,Yl,UV,oSub,oMul,oMod,Ua,oShl,oShr,oXor,isNone,isInt,isBool,isTup,isStr,l_gI,Yx,UW,UX,UY,UE,UG,UF,UN,UM,UP,UQ,UO,Ym,UJ,UH,UI,U0,U1,U2,UZ,U5,U6,UU,YC,U4,U3,Yj,UL,UK,Yk,Yi,QN,QM,Q5,Q4,Q1,Q3,Q0,Uz,JY,JH,capV,List.map_cons,List.map_nil,List.length_cons,List.length_nil,List.replicate_succ,List.replicate_zero,List.cons_append,List.nil_append,List.append_nil,List.getElem?_cons_succ,List.getElem?_cons_zero,List.set_cons_succ,List.set_cons_zero,List.getD_cons_succ,List.getD_cons_zero,Nat.zero_add,Nat.reduceAdd,Nat.reduceSub,Nat.sub_self,true_and,and_true,Bool.false_eq_true,if_true,if_false,ite_true,ite_false,Bool.not_true,Bool.not_false,Int.natCast_zero,Uf]
  refine⟨by lia,by lia,h2,fun r r0 r1=>?_⟩
  have hr':r.toNat<xs.length:=by lia
  rw[Ys (zdC r0 (List.getElem?_eq_getElem hr'))];exact h _ (List.getElem_mem hr')
 ·exact h.elim
theorem zf4:FnScope ["_law_hand_here"] ["_law_hand_here"] (Jl (top 22)):=⟨rfl,rfl,rfl,by decide +kernel,rfl,by decide +kernel,by decide +kernel⟩
def zcV:GD:=fun ts n R=>match ts with
 | [h]=>h=HAND/\n<=1000000000000/\∀b:Int,1<=b->b<=64->R (.int b) (n+1)
 | _=>False
theorem zhU{n:Nat}{R:qN}(hn:n<=1000000000000)(h:∀b:Int,1<=b->b<=64->R (.int b) (n+1)):zcV [HAND] n R:=⟨rfl,hn,h⟩
def zec(Z:ZZ):Prop:=FQ Z "_law_bits" (top 22) ["_law_hand_here"] 3 (spD Z.K 1 zcV)
theorem zgn(D:Dq Z.K Z.mg "_law_bits" (top 22) ["_law_hand_here"]) (h__law_pick:Q6 Z) (T:Txt Z.mg):zec Z:=by
 refine' okQ D zf4 rfl fun f cdv A outer s H E hr=>⟨_,(Jg (Jk (Ji h__law_pick hr (Jb (Ja 0) (Jb (Jp (JL (Jb Jc (Jb Jc (Jb Jc (Jb Jc (Jb Jc (Jb Jc (Jb Jc (Jb Jc (Jb Jc (Jb Jc Je Jh) Jh) Jh) Jh) Jh) Jh) Jh) Jh) Jh) Jh))) Je YV) Jd)))),?_⟩
 intro ts n R hl h;unfold zcV at h;split at h
 ·obtain⟨rfl,h1,h⟩:=h;simp only[YI,YH,YJ,u_dC,Yr,YM,YF,YE,YW,Yq,YX,YG,YB,Yo,Ye,Yf,Yg,Yn,Yc,Yl,UV,oSub,oMul,oMod,Ua,oShl,oShr,oXor,isNone,isInt,isBool,isTup,isStr,l_gI,Yx,UW,UX,UY,UE,UG,UF,UN,UM,UP,UQ,UO,Ym,UJ,UH,UI,U0,U1,U2,UZ,U5,U6,UU,YC,U4,U3,Yj,UL,UK,Yk,Yi,QN,QM,Q5,Q4,Q1,Q3,Q0,Uz,JY,JH,capV,List.map_cons,List.map_nil,List.length_cons,List.length_nil,List.replicate_succ,List.replicate_zero,List.cons_append,List.nil_append,List.append_nil,List.getElem?_cons_succ,List.getElem?_cons_zero,List.set_cons_succ,List.set_cons_zero,List.getD_cons_succ,List.getD_cons_zero,Nat.zero_add,Nat.reduceAdd,Nat.reduceSub,Nat.sub_self,true_and,and_true,Bool.false_eq_true,if_true,if_false,ite_true,ite_false,Bool.not_true,Bool.not_false,Int.natCast_zero,Ul]
  refine⟨by simp,by decide,h1,fun x hx=>?_⟩
  simp only[List.mem_cons,List.not_mem_nil,or_false]at hx;rcases hx with rfl|rfl|rfl|rfl|rfl|rfl|rfl|rfl|rfl|rfl <;> exact h _ (by decide) (by decide)
 ·exact h.elim
theorem zcY:FnScope ["_law_hand_here","_law_bits_here","_law_height"] ["_law_hand_here","_law_bits_here"] (Jl (top 23)):=⟨rfl,rfl,rfl,by decide +kernel,rfl,by decide +kernel,by decide +kernel⟩
def zcu:GD:=fun ts n R=>match ts with
 | [h,.int bits]=>h=HAND/\1<=bits/\bits<=64/\n<=1000000000000 - 10/\∀i h:Int,IsBk bits i h->R (.tuple [.int i,.int h]) (n+3)
 | _=>False
theorem zcx{bits:Int}{n:Nat}{R:qN}(b0:1<=bits)(b1:bits<=64)(hn:n<=1000000000000 - 10)(h:∀i h:Int,IsBk bits i h->R (.tuple [.int i,.int h]) (n+3)):zcu [HAND,.int bits] n R:=⟨rfl,b0,b1,hn,h⟩
def Z6(Z:ZZ):Prop:=FQ Z "_law_block" (top 23) ["_law_hand_here","_law_bits_here"] 3 (spD Z.K 2 zcu)
theorem zfF(D:Dq Z.K Z.mg "_law_block" (top 23) ["_law_hand_here","_law_bits_here"]) (h__law_pick:Q6 Z) (h__law_take:QQ Z) (T:Txt Z.mg):Z6 Z:=by
 refine' okQ D zcY rfl fun f cdv A outer s H E hr=>⟨_,(Jf (JE (i:=2) zcY.nd rfl (Or.inl rfl) (JG (zgT rfl) zmG T.min zg1 (Jr (dl (Ja 1)) (Jr (dl (Ji h__law_pick hr (Jb (Ja 0) (Jb (Jp (JL (Jb Jc (Jb Jc (Jb Jc (Jb Jc (Jb Jc (Jb Jc (Jb (Ji h__law_take hr (Jb (Ja 0) (Jb (Jx (dl (Ja 1)) (dl Jc)) Je JI) Jd)) (Jb (Ja 1) Je Jd) JN) Jh) Jh) Jh) Jh) Jh) Jh))) Je YV) Jd))) Jz JN) Jd))) (Jg (Jk (Jj (Jb (ZB (dl (Ji h__law_take hr (Jb (Ja 0) (Jb (J7 (dl Jc) (dl (Ya (dl (Ja 1)) (dl (Ja 2))))) Je JI) Jd))) (dl (J7 (dl Jc) (dl (Ja 2))))) (Jb (Ja 2) Je Jd) JI))))),?_⟩
 intro ts n R hl h;unfold zcu at h;split at h
 ·rename_i hd bits;obtain⟨rfl,b0,b1,hn,h⟩:=h;simp only[YI,YH,YJ,u_dC,Yr,YM,YF,YE,YW,Yq,YX,YG,YB,Yo,Ye,Yf,Yg,Yn,Yc,Yl,UV,oSub,oMul,oMod,Ua,oShl,oShr,oXor,isNone,isInt,isBool,isTup,isStr,l_gI,Yx,UW,UX,UY,UE,UG,UF,UN,UM,UP,UQ,UO,Ym,UJ,UH,UI,U0,U1,U2,UZ,U5,U6,UU,YC,U4,U3,Yj,UL,UK,Yk,Yi,QN,QM,Q5,Q4,Q1,Q3,Q0,Uz,JY,JH,capV,List.map_cons,List.map_nil,List.length_cons,List.length_nil,List.replicate_succ,List.replicate_zero,List.cons_append,List.nil_append,List.append_nil,List.getElem?_cons_succ,List.getElem?_cons_zero,List.set_cons_succ,List.set_cons_zero,List.getD_cons_succ,List.getD_cons_zero,Nat.zero_add,Nat.reduceAdd,Nat.reduceSub,Nat.sub_self,true_and,and_true,Bool.false_eq_true,if_true,if_false,ite_true,ite_false,Bool.not_true,Bool.not_false,Int.natCast_zero,Ul,Uf]
  refine⟨by lia,by lia,by lia,fun r r0 r1=>⟨by simp,by decide,by lia,fun x hx=>?_⟩⟩
  have hv:∃b:Int,x=.int b/\0<=b:=by
   simp only[List.mem_cons,List.not_mem_nil,or_false]at hx;rcases hx with h|h|h|h|h|h|h|h <;> first|exact⟨_,h,by decide⟩|exact⟨_,h,by lia⟩
  obtain⟨b,rfl,bb⟩:=hv;simp only[YI,YH,YJ,u_dC,Yr,YM,YF,YE,YW,Yq,YX,YG,YB,Yo,Ye,Yf,Yg,Yn,Yc,Yl,UV,oSub,oMul,oMod,Ua,oShl,oShr,oXor,isNone,isInt,isBool,isTup,isStr,l_gI,Yx,UW,UX,UY,UE,UG,UF,UN,UM,UP,UQ,UO,Ym,UJ,UH,UI,U0,U1,U2,UZ,U5,U6,UU,YC,U4,U3,Yj,UL,UK,Yk,Yi,QN,QM,Q5,Q4,Q1,Q3,Q0,Uz,JY,JH,capV,List.map_cons,List.map_nil,List.length_cons,List.length_nil,List.replicate_succ,List.replicate_zero,List.cons_append,List.nil_append,List.append_nil,List.getElem?_cons_succ,List.getElem?_cons_zero,List.set_cons_succ,List.set_cons_zero,List.getD_cons_succ,List.getD_cons_zero,Nat.zero_add,Nat.reduceAdd,Nat.reduceSub,Nat.sub_self,true_and,and_true,Bool.false_eq_true,if_true,if_false,ite_true,ite_false,Bool.not_true,Bool.not_false,Int.natCast_zero,Uf]
  have key:∀m:Int,0<=m->m<=bits->(CPow 1 (bits - m)/\(0:Int)<1*2 ^ (bits - m).toNat/\1*2 ^ (bits - m).toNat<(2:Int) ^ 128/\n+1+1<=1000000000000/\∀r:Int,0<=r->r<1*2 ^ (bits - m).toNat->CPow 1 m/\CMul r (1*2 ^ m.toNat)/\R (.tuple [.int (r*(1*2 ^ m.toNat)),.int m]) (n+1+1+1)):=by
   intro m m0 m1;have e1:(1:Int)*2 ^ (bits - m).toNat=2 ^ (bits - m).toNat:=Int.one_mul _;have e2:(1:Int)*2 ^ m.toNat=2 ^ m.toNat:=Int.one_mul _;rw[e1,e2];refine⟨cpow (by lia) (by lia),QP _,zjI (by lia),by lia,fun k k0 k1=>⟨cpow m0 (by lia),.inl ⟨by lia,?_⟩,?_⟩⟩
   ·have:=zh3 (k:=(bits - m).toNat) (by lia);lia
   ·exact h _ m ⟨m0,m1,k,k0,rfl,k1⟩
  exact key (if b<bits then b else bits) (by split <;> lia) (by split <;> lia)
 ·exact h.elim
theorem Zp:FnScope ["_law_hand_here","_law_bits_here","_law_block_here","_law_begin","_law_height","_law_size","_law_some"] ["_law_hand_here","_law_bits_here","_law_block_here"] (Jl (top 24)):=⟨rfl,rfl,rfl,by decide +kernel,rfl,by decide +kernel,by decide +kernel⟩
def zeB:GD:=fun ts n R=>∃bits i h:Int,ts=[HAND,.int bits,.tuple [.int i,.int h]]/\1<=bits/\bits<=64/\n<=1000000000000 - 100/\IsBk bits i h/\∀j g:Int,IsBk bits j g->R (.tuple [.int j,.int g]) (n+7)
theorem zcW{bits i h:Int}{n:Nat}{R:qN}(b0:1<=bits)(b1:bits<=64)(hn:n<=1000000000000 - 100)(B:IsBk bits i h)(h':∀j g:Int,IsBk bits j g->R (.tuple [.int j,.int g]) (n+7)):zeB [HAND,.int bits,.tuple [.int i,.int h]] n R:=⟨_,_,_,rfl,b0,b1,hn,B,h'⟩
def zcR(Z:ZZ):Prop:=FQ Z "_law_near" (top 24) ["_law_hand_here","_law_bits_here","_law_block_here"] 4 (spD Z.K 3 zeB)
theorem zgj(D:Dq Z.K Z.mg "_law_near" (top 24) ["_law_hand_here","_law_bits_here","_law_block_here"]) (h__law_pick:Q6 Z) (h__law_block:Z6 Z) (T:Txt Z.mg):zcR Z:=by
 refine' okQ D Zp rfl fun f cdv A outer s H E hr=>⟨_,(Jf (Ud (Ja 2) (Qe rfl (Ju (Jm (i:=3) Zp.nd rfl (Or.inl rfl)) (Ju (Jm (i:=4) Zp.nd rfl (Or.inl rfl)) Qd)))) (Jf (JE (i:=5) Zp.nd rfl (Or.inl rfl) (J7 (dl Jc) (dl (Ja 4)))) (Jf (Ut (i:=6) Zp.nd rfl (Or.inl rfl) (JL (Jb (Ja 2) (Jb (Jj (Jb (Ja 3) (Jb (JG (zgU rfl) zmH T.max zg2 (Jr (dl Jc) (Jr (dl (Ya (dl (Ja 4)) (dl Jc))) Jz JI) Jh)) Je JN) Jd)) (Jb (Ji h__law_block hr (Jb (Ja 0) (Jb (Ja 1) Je Jd) Jd)) (Jb (Ji h__law_block hr (Jb (Ja 0) (Jb (Ja 1) Je Jd) Jd)) Je JN) JN) Jq) Jd))) (Jf (Jt (Js Yt gp_B (dl (Ja 4)) (dl Jc) (Jo _)) (Jg (QR 6 (Jj (Jb (Jx (dl (Ja 3)) (dl (zn9 (dl (Ja 5)) (dl Jc)))) (Jb (Ya (dl (Ja 4)) (dl Jc)) Je JI) JI)))) Jw) (Jf (Jt (Js (QT hr) QS (dl (Ja 4)) (dl (Ja 1)) (Jo _)) (Jf (QR 6 (Jj (Jb (Ya (dl (Ja 3)) (dl (ZA (dl (Ja 3)) (dl (ZB (dl Jc) (dl (Ja 5))))))) (Jb (Jx (dl (Ja 4)) (dl Jc)) Je JI) JI))) (Jg (QR 6 (Jj (Jb (zqF (dl (Ja 3)) (dl (Ja 5))) (Jb (Ja 4) Je Jd) JI))))) Jw) (Jf (Jt (Js Qa J9 (dl (Jx (dl (Ja 3)) (dl (ZB (dl Jc) (dl (Ja 5)))))) (dl (J7 (dl Jc) (dl (Ja 1)))) (Jo _)) (Jg (QR 6 (Jj (Jb (Jx (dl (Ja 3)) (dl (Ja 5))) (Jb (Ja 4) Je Jd) JI)))) Jw) (YZ 6 (Jg (Jk (Ji h__law_pick hr (Jb (Ja 0) (Jb (Ja 6) Je Jd) Jd))))))))))),?_⟩
 intro ts n R hl hh;obtain⟨bits,i,h,rfl,b0,b1,hn,B,hh⟩:=hh;have h0:=B.1;have h1:=B.2.1;have bx:∀j g:Int,IsBk bits j g->∀m,m=n+7->R (.tuple [.int j,.int g]) m:=fun j g b m e=>e▸hh j g b
 have Bl:IsBk bits i (if h - 1 > 0 then h - 1 else 0):=by
  split
  ·exact B.low (by lia)
  ·by_cases z:h=0
   ·subst z;exact B
   ·have:h=1:=by lia
    subst this;exact B.low (by decide)
 wp_walk using zcx ?_ ?_ ?_ (fun _ _ _=>?_),UB ?_ ?_ ?_ ?_
 all_goals first
  | lia
  | exact cpow (by lia) (by lia)
  | exact zsU
  | exact zsV
  | (rw[Uj];exact Int.mul_pos (by decide) (QP _))
  | (intro z;simp at z;done)
  | (simp only[List.cons_append,List.nil_append,List.length_cons,List.length_nil];decide)
  | skip
 all_goals
  simp only[List.cons_append,List.nil_append,List.forall_mem_cons,Uj]at *
  repeat' (with_reducible refine And.intro ?_ ?_)
 all_goals first
  | exact bx _ _ B _ rfl
  | exact bx _ _ Bl _ rfl
  | exact bx _ _ (by assumption) _ rfl
  | exact bx _ _ (B.up (by lia)) _ rfl
  | exact bx _ _ (B.abt (by lia)) _ rfl
  | exact bx _ _ (B.oth (by lia)) _ rfl
  | exact bx _ _ (B.nxt (by assumption)) _ rfl
  | (intro x hx;simp at hx)
theorem Zr:FnScope ["_law_hand_here","_law_bits_here","_law_most","_law_found","_law_k","_law_block_here"] ["_law_hand_here","_law_bits_here","_law_most"] (Jl (top 25)):=⟨rfl,rfl,rfl,by decide +kernel,rfl,by decide +kernel,by decide +kernel⟩
def zdc:GD:=fun ts n R=>∃bits most:Int,ts=[HAND,.int bits,.int most]/\1<=bits/\bits<=64/\0<=most/\most<=1000/\n<=1000000000000 - 100000/\∀(bs:qB) (m:Nat),Bks bits bs->bs.length<=most.toNat->m<=n+1+12*most.toNat->R (.list (pD bs)) m
theorem zfW{bits most:Int}{n:Nat}{R:qN}(b0:1<=bits)(b1:bits<=64)(m0:0<=most)(m1:most<=1000)(hn:n<=1000000000000 - 100000)(h:∀(bs:qB) (m:Nat),Bks bits bs->bs.length<=most.toNat->m<=n+1+12*most.toNat->R (.list (pD bs)) m):zdc [HAND,.int bits,.int most] n R:=⟨bits,most,rfl,b0,b1,m0,m1,hn,h⟩
def zc1(Z:ZZ):Prop:=FQ Z "_law_blocks" (top 25) ["_law_hand_here","_law_bits_here","_law_most"] 5 (spD Z.K 3 zdc)
theorem zeQ(D:Dq Z.K Z.mg "_law_blocks" (top 25) ["_law_hand_here","_law_bits_here","_law_most"]) (h__law_take:QQ Z) (h__law_block:Z6 Z) (h__law_near:zcR Z) (h__law_pick:Q6 Z) (T:Txt Z.mg):zc1 Z:=by
 refine' okQ D Zr rfl fun f cdv A outer s H E hr=>⟨_,(Jf (Ut (i:=3) Zr.nd rfl (Or.inl rfl) (JL Je)) (Jf (Qt PassesOwn.never rfl (Zj T.ran (Ji h__law_take hr (Jb (Ja 0) (Jb (Jx (dl (Ja 2)) (dl Jc)) Je JI) Jd))) (Jm (i:=4) Zr.nd rfl (Or.inl rfl)) (Jf (JE (i:=5) Zr.nd rfl (Or.inl rfl) (Ji h__law_block hr (Jb (Ja 0) (Jb (Ja 1) Je Jd) Jd))) (Jf (Jt (JR (Yz (Js (QK hr) QG (Zb 3) (dl (Jp (JL Je))) (Jo _)) (YN (Js Yt gp_B (dl (Ji h__law_take hr (Jb (Ja 0) (Jb Jc Je Jh) Jd))) (dl Jc) (Jo _))))) (Jg (JE (i:=5) Zr.nd rfl (Or.inl rfl) (Ji h__law_near hr (Jb (Ja 0) (Jb (Ja 1) (Jb (zqK h__law_pick hr (Jr (dl (Ja 0)) (Jr (Zb 3) Jz Jd) Jd)) Je JN) Jd) Jd)))) Jw) (Jg (QR 3 (Ja 5)))))) (YZ 3 (Jg (Jk (Ja 3)))))),?_⟩
 intro ts n R hl hh;obtain⟨bits,most,rfl,b0,b1,m0,m1,hn,hh⟩:=hh
 wp_walk using Ub ?_ ?_ ?_ (fun r r0 r1=>?_)
 ·lia
 ·lia
 ·lia
 ·lia
 ·lia
 refine Ui (fun k ρ m=>∃bs:List (Int×Int),∃c4 c5,ρ=[some (.val HAND),some (.val (.int bits)),some (.val (.int most)),some (.own (pD bs)),c4,c5]/\Bks bits bs/\bs.length=k/\m<=n+1+12*k) ⟨[],_,_,rfl,(fun b hb=>nomatch hb),rfl,by lia⟩ ?_ ?_
 ·rintro k t ρ m K et ⟨bs,c4,c5,rfl,B,hk,hm⟩ hK;obtain⟨hk2,rfl⟩:=ze5 et;have hk3:k<1000:=by lia
  have fin:∀(i h:Int) (x4 x5:Option Cell) (m':Nat),IsBk bits i h->m'<=m+12->K [some (.val HAND),some (.val (.int bits)),some (.val (.int most)),some (.own (pD bs++[.tuple [.int i,.int h]])),x4,x5] m':=fun i h x4 x5 m' C hm' =>
   hK _ _ ⟨bs++[(i,h)],_,_,by rw[<- zmw],B.app C,by simp[hk],by lia⟩
  wp_walk using zcx ?_ ?_ ?_ (fun i h C=>?_),Ub ?_ ?_ ?_ (fun q q0 q1=>?_),UB ?_ ?_ ?_ ?_,zcW ?_ ?_ ?_ ?_ (fun j g C'=>?_)
  all_goals first
   | lia
   | exact zpt
   | exact zhf
   | (rw[Qz];lia)
   | decide
   | (intro z
      have y:PyData.eqv (.list (pD bs)) (.list [])=false:=by assumption
      rw[zn4]at y;have y2:bs=[]:=by
       have:=congrArg List.length z;rw[Qz]at this;exact List.length_eq_zero_iff.mp this
      rw[y2]at y;cases y)
   | exact fin _ _ _ _ _ (by assumption) (by lia)
   | skip
  all_goals
   intro x hx;obtain⟨b,hb,rfl⟩:=List.mem_map.mp hx;refine⟨ziU,?_⟩;have C0:=B b hb
   wp_walk using zcW ?_ ?_ ?_ ?_ (fun j g C'=>?_)
   all_goals first
    | lia
    | exact C0
    | (rw[Qz];lia)
    | exact fin _ _ _ _ _ (by assumption) (by lia)
 ·rintro ρ m ⟨bs,c4,c5,rfl,B,hk,hm⟩;have el:bs.length<=most.toNat:=by
   rw[hk];unfold Qk;simp;lia
  wp_walk
  exact hh bs m B el (by lia)
theorem Z5:FnScope ["_law_hand_here","_law_bits_here","_law_most","_law_found","_law_begin","_law_height"] ["_law_hand_here","_law_bits_here","_law_most"] (Jl (top 26)):=⟨rfl,rfl,rfl,by decide +kernel,rfl,by decide +kernel,by decide +kernel⟩
def zdN:GD:=fun ts n R=>∃bits most:Int,ts=[HAND,.int bits,.int most]/\1<=bits/\bits<=64/\0<=most/\most<64/\n<=1000000000000 - 100000/\∀(bs:qB) (m:Nat),Ptc bits bs->bs.length<=most.toNat->m<=n+1+12*most.toNat->R (.tuple (pD bs)) m
theorem zdR{bits most:Int}{n:Nat}{R:qN}(b0:1<=bits)(b1:bits<=64)(m0:0<=most)(m1:most<64)(hn:n<=1000000000000 - 100000)(h:∀(bs:qB) (m:Nat),Ptc bits bs->bs.length<=most.toNat->m<=n+1+12*most.toNat->R (.tuple (pD bs)) m):zdN [HAND,.int bits,.int most] n R:=⟨bits,most,rfl,b0,b1,m0,m1,hn,h⟩
def zdG(Z:ZZ):Prop:=FQ Z "_law_patch" (top 26) ["_law_hand_here","_law_bits_here","_law_most"] 6 (spD Z.K 3 zdN)
theorem zfD(D:Dq Z.K Z.mg "_law_patch" (top 26) ["_law_hand_here","_law_bits_here","_law_most"]) (h__law_blocks:zc1 Z) (T:Txt Z.mg):zdG Z:=by
 refine' okQ D Z5 rfl fun f cdv A outer s H E hr=>⟨_,(Jf (Ut (i:=3) Z5.nd rfl (Or.inl rfl) (JL Je)) (Jf (Qt PassesOwn.never rfl (Zf (Ji h__law_blocks hr (Jb (Ja 0) (Jb (Ja 1) (Jb (Ja 2) Je Jd) Jd) Jd))) (Qe rfl (Ju (Jm (i:=4) Z5.nd rfl (Or.inr rfl)) (Ju (Jm (i:=5) Z5.nd rfl (Or.inr rfl)) Qd))) (Jg (Jt (JK (dl (JG (Uy rfl) Uu T.all Ux (Jr (dl (Jp (QD (own:=["_law_one"]) (capt:=[4,5]) rfl (CompScope.of rfl) (zme (Zb 3)) (fun _ _ _ _=>(Jm (i:=0) (by show(["_law_one","_law_begin","_law_height"]:List Str).Nodup;decide +kernel) rfl (Or.inl rfl))) (by decide) (fun _ _ _ _=>QE) (fun _ _ _ _=>(zqI (Uc Qa J9 (dl (Jx (dl (Ja 1)) (dl (J7 (dl Jc) (dl (Ja 2)))))) (dl (Jn (dl (Ja 0)) (dl Jc))) (Jo _)) (QJ (Uc Qa J9 (dl (Jx (dl (Jn (dl (Ja 0)) (dl Jc))) (dl (J7 (dl Jc) (dl (Jn (dl (Ja 0)) (dl Jc))))))) (dl (Ja 1)) (Jo _)))))))) Jz Ue)))) (Jg (QR 3 (Jj (Jb (Ja 4) (Jb (Ja 5) Je Jd) Jd)))) Jw))) (YZ 3 (Jg (Jk (Y0 Zq Zk T.tup Qm (Jr (dl (Jp (zku hr T.srt (dl (Ja 3)) Jd))) Jz JN))))))),?_⟩
 intro ts n R hl hh;obtain⟨bits,most,rfl,b0,b1,m0,m1,hn,hh⟩:=hh
 wp_walk using zfW ?_ ?_ ?_ ?_ ?_ (fun bs m B hlen hm=>?_)
 ·lia
 ·lia
 ·lia
 ·lia
 ·lia
 refine Ui (fun k ρ m'=>m'=m/\∃cs:List (Int×Int),∃c4 c5,ρ=[some (.val HAND),some (.val (.int bits)),some (.val (.int most)),some (.own (pD cs)),c4,c5]/\Bks bits cs/\(cs.Pairwise fun a b=>eB a<=b.1\/eB b<=a.1)/\cs.length<=k) ⟨rfl,[],_,_,rfl,(fun b hb=>nomatch hb),.nil,Nat.le_refl _⟩ ?_ ?_
 ·rintro k t ρ m' K et ⟨rfl,cs,c4,c5,rfl,C,dis,hk⟩ hK;obtain⟨i,h,eb,rfl⟩:=zjS et;have hb:=B _ (List.mem_of_getElem? eb);have h0:0<=h:=hb.1;have h1:h<=bits:=hb.2.1;have hk3:k<64:=by
   have:=(List.getElem?_eq_some_iff.mp eb).1;lia
  wp_walk
  refine Uh (D:=prD) (fun b=>.bool (decide (i+2 ^ h.toNat<=b.1)||decide (eB b<=i))) (by lia) ?_ ?_
  ·rintro⟨i',h'⟩ hb' K2 X2 hK2;have hc':=C _ hb';have h0':0<=h':=hc'.1;have h1':h'<=bits:=hc'.2.1
   wp_walk
   ·exact cpow (by lia) (by lia)
   ·have hc:i+2 ^ h.toNat<=i':=by rw[Uj]at hc;exact hc
    rw[decide_eq_true hc]at hK2;exact hK2
   ·exact cpow (by lia) (by lia)
   ·have hc:¬i+2 ^ h.toNat<=i':=by rw[Uj]at hc;exact hc
    rw[decide_eq_false hc]at hK2;rw[Uj];exact hK2
  ·wp_walk using Uv ?_
   ·rw[Qz];lia
   ·have al:∀b∈cs,i+2 ^ h.toNat<=b.1\/eB b<=i:=fun b hb=>by
     have:=List.all_eq_true.mp hc b hb;simpa using this
    refine hK _ _ ⟨rfl,cs++[(i,h)],_,_,by rw[<- zmw],C.app hb,?_,by simp;lia⟩
    rw[List.pairwise_append];refine⟨dis,List.pairwise_singleton _ _,fun a ha b hb'=>?_⟩
    cases List.mem_singleton.mp hb';rcases al a ha with z|z
    ·exact .inr z
    ·exact .inl z
   ·exact hK _ _ ⟨rfl,cs,_,_,rfl,C,dis,by lia⟩
 ·rintro ρ m' ⟨rfl,cs,c4,c5,rfl,C,dis,hk⟩;rw[Qz]at hk
  wp_walk
  refine zpI b1 C dis (by lia) fun es P pm=>?_
  wp_walk
  exact hh es _ P (by have:=pm.length_eq;lia) (by lia)
theorem YY:FnScope ["_law_hand_here","_law_many","_law_letters","_law_first","_law_step","_law_stem","_law_at"] ["_law_hand_here","_law_many"] (Jl (top 27)):=⟨rfl,rfl,rfl,by decide +kernel,rfl,by decide +kernel,by decide +kernel⟩
def nmL(stem:List Nat)(k c:Nat):Str:=⟨(stem.take k++[c]++stem.drop k).toArray⟩
theorem zpz{stem:List Nat}{k c:Nat}(hl:stem.length<=7)(hs:∀x∈stem,97<=x/\x<=122)(hc:97<=c/\c<=122):IsNm (nmL stem k c):=by
 have e:(nmL stem k c).cps.toList=stem.take k++[c]++stem.drop k:=rfl;have l:(nmL stem k c).length=stem.length+1:=by
  rw[<- Qj,e];simp;lia
 refine⟨by lia,by lia,fun x hx=>?_⟩
 rw[e]at hx;simp only[List.mem_append,List.mem_singleton]at hx;rcases hx with(hx|rfl)|hx
 ·exact hs x (List.mem_of_mem_take hx)
 ·exact hc
 ·exact hs x (List.mem_of_mem_drop hx)
theorem znB{stem:List Nat}{k c d:Nat}(h:nmL stem k c=nmL stem k d):c=d:=by
 have e:stem.take k++[c]++stem.drop k=stem.take k++[d]++stem.drop k:=congrArg (fun s:Str=>s.cps.toList) h
 rw[List.append_assoc,List.append_assoc]at e;have:=List.append_cancel_left e;simpa using this
theorem zkC{step:Int}(h:step=1\/step=3\/step=5\/step=7\/step=9\/step=11){first i j:Int}(i0:0<=i)(i1:i<26)(j0:0<=j)(j1:j<26)(e:(first+step*i) % 26=(first+step*j) % 26):i=j:=by
 rcases h with rfl|rfl|rfl|rfl|rfl|rfl <;> lia
def zdO:GD:=fun ts n R=>∃many:Int,ts=[HAND,.int many]/\0<=many/\many<=26/\n<=1000000000000 - 1000/\∀nms:List Str,nms.length=many.toNat->(∀s∈nms,IsNm s)->nms.Nodup->R (.list (nms.map .str)) (n+5)
theorem zgZ{many:Int}{n:Nat}{R:qN}(m0:0<=many)(m1:many<=26)(hn:n<=1000000000000 - 1000)(h:∀nms:List Str,nms.length=many.toNat->(∀s∈nms,IsNm s)->nms.Nodup->R (.list (nms.map .str)) (n+5)):zdO [HAND,.int many] n R:=⟨many,rfl,m0,m1,hn,h⟩
def zdH(Z:ZZ):Prop:=FQ Z "_law_names" (top 27) ["_law_hand_here","_law_many"] 3 (spD Z.K 2 zdO)
theorem zfE(D:Dq Z.K Z.mg "_law_names" (top 27) ["_law_hand_here","_law_many"]) (h__law_take:QQ Z) (h__law_pick:Q6 Z) (T:Txt Z.mg):zdH Z:=by
 refine' okQ D YY rfl fun f cdv A outer s H E hr=>⟨_,(Jf (JE (i:=2) YY.nd rfl (Or.inr rfl) J8) (Jf (Ud (Jj (Jb (Ji h__law_take hr (Jb (Ja 0) (Jb Jc Je Jh) Jd)) (Jb (Ji h__law_pick hr (Jb (Ja 0) (Jb (Jp (JL (Jb Jc (Jb Jc (Jb Jc (Jb Jc (Jb Jc (Jb Jc Je Jh) Jh) Jh) Jh) Jh) Jh))) Je YV) Jd)) Je JN) JN)) (Qe rfl (Ju (Jm (i:=3) YY.nd rfl (Or.inr rfl)) (Ju (Jm (i:=4) YY.nd rfl (Or.inr rfl)) Qd)))) (Jf (JE (i:=5) YY.nd rfl (Or.inr rfl) (zn8 (dl (Jn (dl (Ja 2)) (dl (Ji h__law_take hr (Jb (Ja 0) (Jb Jc Je Jh) Jd))))) (dl (Ji h__law_pick hr (Jb (Ja 0) (Jb (Jp (JL (Jb Jc (Jb Jc (Jb Jc (Jb Jc (Jb Jc Je Jh) Jh) Jh) Jh) Jh))) Je YV) Jd))))) (Jf (JE (i:=6) YY.nd rfl (Or.inr rfl) (Ji h__law_take hr (Jb (Ja 0) (Jb (Jx (dl (JG Qq Qo T.len Qn (Jr (dl (Ja 5)) Jz Jd))) (dl Jc)) Je JI) Jd))) (Jg (Jk (Jp (QD (own:=["_law_k"]) (capt:=[5,2,6,3,4]) rfl (CompScope.of rfl) (dil (Zj T.ran (Ja 1))) (fun _ _ _ _=>(Jm (i:=0) (by show(["_law_k","_law_stem","_law_letters","_law_at","_law_first","_law_step"]:List Str).Nodup;decide +kernel) rfl (Or.inl rfl))) (by decide) (fun _ _ _ _=>QE) (fun _ _ _ _=>(Jx (dl (Jx (dl (Qh (dl (Ja 1)) Qc (J4 (Ja 3)))) (dl (Jn (dl (Ja 2)) (dl (ZA (dl (Jx (dl (Ja 4)) (dl (ZB (dl (Ja 5)) (dl (Ja 0)))))) (dl Jc))))))) (dl (Qh (dl (Ja 1)) (J4 (Ja 3)) Qc)))))))))))),?_⟩
 intro ts n R hl h;obtain⟨many,rfl,m0,m1,hn,h⟩:=h
 wp_walk using Ub ?_ ?_ ?_ (fun r r0 r1=>?_),UB ?_ ?_ ?_ (fun x hx=>?_)
 all_goals first|lia|exact cpow (by lia) (by lia)|(simp;done)|skip
 rename_i first f0 f1
 revert r r0 r1;intro l l0 l1;obtain⟨step,rfl,hstep⟩:∃s:Int,x=.int s/\(s=1\/s=3\/s=5\/s=7\/s=9\/s=11):=by
  simp only[List.mem_cons,List.not_mem_nil,or_false]at hx;rcases hx with rfl|rfl|rfl|rfl|rfl|rfl <;> exact⟨_,rfl,by simp⟩
 refine zpP (k:=l.toNat) (by decide) (by lia) (letters (by lia)) ?_
 wp_walk using UB ?_ ?_ ?_ (fun y hy=>?_)
 all_goals first|lia|exact cpow (by lia) (by lia)|(simp;done)|skip
 obtain⟨m,rfl,mm0,mm7⟩:∃m:Int,y=.int m/\0<=m/\m<=7:=by
  simp only[List.mem_cons,List.not_mem_nil,or_false]at hy;rcases hy with rfl|rfl|rfl|rfl|rfl <;> exact⟨_,rfl,by decide,by decide⟩
 have stc:(repS (⟨#[97+l.toNat]⟩:Str) m).cps.toList=List.replicate m.toNat (97+l.toNat):=by
  rw[zlq];show(List.replicate m.toNat [97+l.toNat]).flatten=_
  generalize m.toNat=k;induction k with
  | zero=>rfl
  | succ k ih=>rw[List.replicate_succ,List.flatten_cons,ih,List.replicate_succ];rfl
 have stl:(repS (⟨#[97+l.toNat]⟩:Str) m).length=m.toNat:=by rw[<- Qj,stc,List.length_replicate]
 wp_walk using Ub ?_ ?_ ?_ (fun a a0 a1=>?_)
 ·lia
 ·lia
 ·show 1<=100;decide
 ·rw[stl];lia
 ·rw[stl];lia
 ·rw[stl];lia
 ·lia
 ·lia
 ·lia
 rw[stl]at a1;generalize repS (⟨#[97+l.toNat]⟩:Str) m=stem at stc stl;have sok:∀x∈stem.cps.toList,97<=x/\x<=122:=fun x hx=>by
  rw[stc]at hx;have:=List.eq_of_mem_replicate hx;lia
 refine Uh (cs:=List.range many.toNat) (D:=fun(i:Nat)=>.int (0+(i:Int))) (fun i=>.str (nmL stem.cps.toList a.toNat (97+((first+step*(i:Int)) % 26).toNat))) (by simp;lia) ?_ ?_
 ·intro i hi K2 X2 hK2;have hi:=List.mem_range.mp hi;have q0:0<=(first+step*(0+(i:Int))) % 26:=Int.emod_nonneg _ (by decide)
  have q1:(first+step*(0+(i:Int))) % 26<26:=Int.emod_lt_of_pos _ (by decide)
  wp_walk using zpP (k:=((first+step*(0+(i:Int))) % 26).toNat) (by decide) (by lia) (letters (by lia)) ?_
  all_goals first
   | lia
   | exact .inl ⟨by lia,by lia⟩
   | skip
  ·have l3:(cutS stem none (some a)).length<=7:=by
    rw[<- Qj,zeI (k:=a.toNat) (by lia)]
    have:=Qj stem;simp;lia
   show(cutS stem none (some a)).length+1<=16777216
   lia
  ·have l3:(cutS stem none (some a)).length<=7:=by
    rw[<- Qj,zeI (k:=a.toNat) (by lia)]
    have:=Qj stem;simp;lia
   have l4:(cutS stem (some a) none).length<=7:=by
    rw[<- Qj,zgO (k:=a.toNat) (by lia) (by lia),List.length_drop]
    have:=Qj stem;lia
   rw[<- Qj,zhW,List.length_append,Qj];show _+1+_<=_
   lia
  ·have e:(cutS stem none (some a)++(⟨#[97+((first+step*(0+(i:Int))) % 26).toNat]⟩:Str)++cutS stem (some a) none)=nmL stem.cps.toList a.toNat (97+((first+step*(i:Int)) % 26).toNat):=by
    apply L2.Str.ext';rw[zhW,zhW,zeI (k:=a.toNat) (by lia),zgO (k:=a.toNat) (by lia) (by lia),Int.zero_add]
    rfl
   rw[e];exact hK2
 ·have e:((List.range many.toNat).map fun(i:Nat)=>PyData.str (nmL stem.cps.toList a.toNat (97+((first+step*(i:Int)) % 26).toNat)))=((List.range many.toNat).map fun(i:Nat)=>nmL stem.cps.toList a.toNat (97+((first+step*(i:Int)) % 26).toNat)).map .str:=by rw[List.map_map];rfl
  rw[e];have md:∀i:Nat,0<=(first+step*(i:Int)) % 26/\(first+step*(i:Int)) % 26<26:=fun i=>⟨Int.emod_nonneg _ (by decide),Int.emod_lt_of_pos _ (by decide)⟩
  refine h _ (by simp) (fun s hs=>?_) ?_
  ·obtain⟨i,hi,rfl⟩:=List.mem_map.mp hs;have:=md i;have:=Qj stem;exact zpz (by lia) sok (by lia)
  ·rw[List.Nodup,List.pairwise_map];refine List.Pairwise.imp_of_mem ?_ (List.nodup_range (n:=many.toNat));intro i j hi hj ne e;have hi:=List.mem_range.mp hi;have hj:=List.mem_range.mp hj;have e':=znB e;have:=md i;have:=md j;have:=zkC hstep (first:=first) (i:=i) (j:=j) (by lia) (by lia) (by lia) (by lia) (by lia)
   exact ne (by lia)
theorem UC:FnScope ["_law_hand_here","_law_bits_here","_law_names_here","_law_most","_law_outs","_law_kept","_law_block_here","_law_name","_law_size","_law_there"] ["_law_hand_here","_law_bits_here","_law_names_here","_law_most"] (Jl (top 28)):=⟨rfl,rfl,rfl,by decide +kernel,rfl,by decide +kernel,by decide +kernel⟩
def zeC:GD:=fun ts n R=>∃(bits most:Int) (nms:List Str),ts=[HAND,.int bits,.list (nD nms),.int most]/\1<=bits/\bits<=64/\0<=most/\most<64/\nms≠[]/\nms.length<=1000/\(∀s∈nms,IsNm s)/\n<=1000000000000 - 200000 /\
 ∀(d:Deal) (m:Nat),Dl d->d.1=bits->d.2.1.length<=most.toNat->d.2.2.length<=most.toNat->(∀p∈d.2.1++d.2.2,p.2∈nms)->m<=n+10000->R (dlD d) m
theorem zeN{bits most:Int}{nms:List Str}{n:Nat}{R:qN}(b0:1<=bits)(b1:bits<=64)(m0:0<=most)(m1:most<64)(ne:nms≠[])(l:nms.length<=1000)(hm:∀s∈nms,IsNm s)(hn:n<=1000000000000 - 200000)
 (h:∀(d:Deal) (m:Nat),Dl d->d.1=bits->d.2.1.length<=most.toNat->d.2.2.length<=most.toNat->(∀p∈d.2.1++d.2.2,p.2∈nms)->m<=n+10000->R (dlD d) m):zeC [HAND,.int bits,.list (nD nms),.int most] n R:=⟨bits,most,nms,rfl,b0,b1,m0,m1,ne,l,hm,hn,h⟩
def zea(Z:ZZ):Prop:=FQ Z "_law_deal" (top 28) ["_law_hand_here","_law_bits_here","_law_names_here","_law_most"] 7 (spD Z.K 4 zeC)
theorem zgl(D:Dq Z.K Z.mg "_law_deal" (top 28) ["_law_hand_here","_law_bits_here","_law_names_here","_law_most"]) (h__law_patch:zdG Z) (h__law_pick:Q6 Z) (h__law_take:QQ Z) (T:Txt Z.mg):zea Z:=by
 refine' okQ D UC rfl fun f cdv A outer s H E hr=>⟨_,(Jf (zkt (zik (i:=4) UC.nd rfl (Or.inl rfl) (own:=["_law_block_here"]) (capt:=[0,2]) rfl (CompScope.of rfl) (dil (Qx (Ji h__law_patch hr (Jb (Ja 0) (Jb (Ja 1) (Jb (Ja 3) Je Jd) Jd) Jd)))) (fun _ _ _ _=>(Jm (i:=0) (by show(["_law_block_here","_law_hand_here","_law_names_here"]:List Str).Nodup;decide +kernel) rfl (Or.inl rfl))) (by decide) (fun _ _ _ _=>QE) (fun _ _ _ _=>(Jj (Jb (Ja 0) (Jb (Ji h__law_pick hr (Jb (Ja 1) (Jb (Ja 2) Je Jd) Jd)) Je JN) Jd))))) (Jf (Ut (i:=5) UC.nd rfl (Or.inl rfl) (JL Je)) (Jf (Qt PassesOwn.never rfl (Qx (Ji h__law_patch hr (Jb (Ja 0) (Jb (Ja 1) (Jb (Ja 3) Je Jd) Jd) Jd))) (Jm (i:=6) UC.nd rfl (Or.inr rfl)) (Jf (JE (i:=7) UC.nd rfl (Or.inr rfl) (Ji h__law_pick hr (Jb (Ja 0) (Jb (Ja 2) Je Jd) Jd))) (Jf (JE (i:=8) UC.nd rfl (Or.inr rfl) (J7 (dl Jc) (dl (Jn (dl (Ja 6)) (dl Jc))))) (Jf (zkt (zik (i:=9) UC.nd rfl (Or.inl rfl) (own:=["_law_one"]) (capt:=[8,6]) rfl (CompScope.of rfl) (dil (Zf (Ja 4))) (fun _ _ _ _=>(Jm (i:=0) (by show(["_law_one","_law_size","_law_block_here"]:List Str).Nodup;decide +kernel) rfl (Or.inl rfl))) (by decide) (fun _ _ _ _=>(zkr (JR (Yz (Js (QT hr) QS (dl (Jn (dl (Jn (dl (Ja 0)) (dl Jc))) (dl Jc))) (dl (Jx (dl (Jn (dl (Ja 2)) (dl Jc))) (dl (Ja 1)))) (Jo _)) (YN (Js (QT hr) QS (dl (Jn (dl (Ja 2)) (dl Jc))) (dl (Jx (dl (Jn (dl (Jn (dl (Ja 0)) (dl Jc))) (dl Jc))) (dl (J7 (dl Jc) (dl (Jn (dl (Jn (dl (Ja 0)) (dl Jc))) (dl Jc))))))) (Jo _))))))) (fun _ _ _ _=>(Ja 0)))) (Jf (Jt (JR (JV (Js (Qy hr) Qw (dl (Ja 9)) (dl (Jp (JL Je))) (Jo _)) (Qf (Js (Qy hr) Qw (dl (Ji h__law_take hr (Jb (Ja 0) (Jb Jc Je Jh) Jd))) (dl Jc) (Jo _))))) (Jg (JE (i:=7) UC.nd rfl (Or.inr rfl) (Jn (dl (Jp (Yb (dl (Jp (QD (own:=["_law_one"]) (capt:=[]) rfl (CompScope.of rfl) (dil (Zf (Ja 9))) (fun _ _ _ _=>(Jm (i:=0) (by show(["_law_one"]:List Str).Nodup;decide +kernel) rfl (Or.inl rfl))) (by decide) (fun _ _ _ _=>QE) (fun _ _ _ _=>(Jn (dl (Ja 0)) (dl Jc)))))) (dl (Jp (JL (Jb (Ja 7) Je Jd))))))) (dl Jc)))) Jw) (Jg (Jt (Js (Qy hr) Qw (dl (Jp (QD (own:=["_law_one"]) (capt:=[7]) rfl (CompScope.of rfl) (dil (Zf (Ja 9))) (fun _ _ _ _=>(Jm (i:=0) (by show(["_law_one","_law_name"]:List Str).Nodup;decide +kernel) rfl (Or.inl rfl))) (by decide) (fun _ _ _ _=>(zkr (Js (QK hr) QG (dl (Jn (dl (Ja 0)) (dl Jc))) (dl (Ja 1)) (Jo _)))) (fun _ _ _ _=>(Ja 0))))) (dl (Jp (JL Je))) (Jo _)) (Jg (QR 5 (Jj (Jb (Ja 6) (Jb (Ja 7) Je Jd) Jd)))) Jw))))))) (YZ 5 (Jg (Jk (Jj (Jb (Ja 1) (Jb (Y0 Zq Zk T.tup Qm (Jr (dl (Ja 4)) Jz Jd)) (Jb (Y0 Zq Zk T.tup Qm (Jr (dl (Ja 5)) Jz Jd)) Je JN) JN) Jd)))))))),?_⟩
 intro ts n R hl h;obtain⟨bits,most,nms,rfl,b0,b1,m0,m1,ne,l,hm,hn,h⟩:=h;have pick:∀{n:Nat} {Q:qN},n<=1000000000000->(∀s∈nms,Q (.str s) (n+1))->Ul [HAND,.list (nD nms)] n Q:=fun {n Q} hn hq=>UB (by intro z;cases nms with|nil=>exact ne rfl|cons a b=>cases z) (by simp[nD];lia) hn fun x hx=>by
  obtain⟨s,hs,rfl⟩:=List.mem_map.mp hx;exact hq s hs
 wp_walk using zdR b0 b1 m0 m1 ?_ (fun bs m P hlen hm1=>?_)
 ·lia
 refine zkG (fun j acc m'=>m'=m+j/\∃os:List ((Int×Int)×Str),acc=oD os/\os.map (·.1)=bs.take j/\∀p∈os,p.2∈nms) ⟨rfl,[],rfl,by simp,fun p hp=>nomatch hp⟩ ?_ ?_
 ·rintro j x acc m' K ej ⟨rfl,os,rfl,e1,e2⟩ hK;obtain⟨i,g,eb,rfl⟩:=zjS ej;have jl:=(List.getElem?_eq_some_iff.mp eb).1;have lo:os.length=j:=by
   have:=congrArg List.length e1;simp at this;lia
  wp_walk using pick ?_ (fun s hs=>?_)
  ·lia
  ·rw[JZ];lia
  ·refine hK _ _ ⟨by lia,os++[((i,g),s)],by simp[oD],?_,?_⟩
   ·rw[List.map_append,e1,List.take_succ,eb];rfl
   ·intro p hp;rcases List.mem_append.mp hp with z|z
    ·exact e2 p z
    ·cases List.mem_singleton.mp z;exact hs
 ·rintro acc m' ⟨rfl,os,rfl,e1,e2⟩;rw[Qz,List.take_length]at e1
  wp_walk using zdR b0 b1 m0 m1 ?_ (fun cs m2 P2 hlen2 hm2=>?_)
  ·rw[Qz];lia
  rw[Qz]at hm2;have lo:os.length=bs.length:=by rw[<- List.length_map (f:=(·.1)),e1]
  have Bo:∀p∈os,IsBk bits p.1.1 p.1.2:=fun p hp=>P.1 _ (by rw[<- e1];exact List.mem_map.mpr ⟨p,hp,rfl⟩)
  refine zqz 5 6 7 8 9 (fun k a5 _ _ _ _ m'=>m'<=m2+2*k/\∃ks:List ((Int×Int)×Str),a5=some (.own (oD ks))/\(ks.map (·.1)).Sublist (cs.take k)/\(∀q∈ks,q.2∈nms)/\Agr os ks) ⟨by lia,[],rfl,by simp,fun q hq=>(nomatch hq),fun p hp q hq=>(nomatch hq)⟩ ?_ ?_
  ·rintro k t a5 a6 a7 a8 a9 m' K RT BK et ⟨hm',ks,rfl,sb,kn,ag⟩ hK hRT hBK;obtain⟨i,g,eb,rfl⟩:=zjS et;have kl:=(List.getElem?_eq_some_iff.mp eb).1;have Bb:=P2.1 _ (List.mem_of_getElem? eb);have g0:0<=g:=Bb.1;have g1:g<=bits:=Bb.2.1;have pg:=QP g.toNat;have tk:cs.take (k+1)=cs.take k++[(i,g)]:=by rw[List.take_succ,eb];rfl
   have lks:ks.length<=64:=by
    have:=sb.length_le;simp at this;lia
   have skip:∀(m'':Nat) (b6 b7 b8 b9:Option Cell),m''<=m'+2->K [some (.val HAND),some (.val (.int bits)),some (.val (.list (nD nms))),some (.val (.int most)),some (.val (.list (oD os))),some (.own (oD ks)),b6,b7,b8,b9] m'':=fun m'' b6 b7 b8 b9 h2 =>
    hK _ _ _ _ _ _ ⟨by lia,ks,rfl,by rw[tk];exact sb.trans (List.sublist_append_left _ _),kn,ag⟩
   have put:∀(m'':Nat) (b6 b7 b8 b9:Option Cell) (s:Str),m''<=m'+2->s∈nms->(∀p∈os,p.1.1<i+2 ^ g.toNat->i<p.1.1+2 ^ p.1.2.toNat->p.2=s)->K [some (.val HAND),some (.val (.int bits)),some (.val (.list (nD nms))),some (.val (.int most)),some (.val (.list (oD os))),some (.own (oD ks++[.tuple [.tuple [.int i,.int g],.str s]])),b6,b7,b8,b9] m'':=fun m'' b6 b7 b8 b9 s h2 hs al =>
    hK _ _ _ _ _ _ ⟨by lia,ks++[((i,g),s)],by simp[oD],by rw[tk,List.map_append];exact sb.append (List.Sublist.refl _),(fun q hq=>by
     rcases List.mem_append.mp hq with z|z
     ·exact kn q z
     ·cases List.mem_singleton.mp z;exact hs),fun p hp q hq=>by
     rcases List.mem_append.mp hq with z|z
     ·exact ag p hp q z
     ·cases List.mem_singleton.mp z
      by_cases y:p.1.1<i+2 ^ g.toNat/\i<p.1.1+2 ^ p.1.2.toNat
      ·exact .inl (al p hp y.1 y.2)
      ·right
       show eB p.1<=i\/i+2 ^ g.toNat<=p.1.1
       unfold eB;lia⟩
   wp_walk using pick ?_ (fun s hs=>?_)
   ·lia
   ·exact cpow (by lia) (by lia)
   refine zeJ (cs:=os) (D:=fun p=>.tuple [prD p.1,.str p.2]) (fun p=>decide (p.1.1<i+2 ^ g.toNat)&&decide (i<p.1.1+2 ^ p.1.2.toNat)) (fun p=>.tuple [prD p.1,.str p.2]) (by lia) ?_ ?_
   ·intro p hp K2 X2 hK2 hX2;have Bp:=Bo p hp;have p0:=Bp.1;have p1:=Bp.2.1
    wp_walk
    ·exact cpow (by lia) (by lia)
    all_goals simp only[Uj]at *
    ·rename_i y;exact hK2 (by rw[decide_eq_true y,decide_eq_true hc];rfl)
    ·exact hX2 (by rw[decide_eq_false hc,Bool.and_false])
    ·exact hX2 (by rw[decide_eq_false hc,Bool.false_and])
   ·rw[show((os.filter fun p=>decide (p.1.1<i+2 ^ g.toNat)&&decide (i<p.1.1+2 ^ p.1.2.toNat)).map fun p=>PyData.tuple [prD p.1,PyData.str p.2])=oD (os.filter fun p=>decide (p.1.1<i+2 ^ g.toNat)&&decide (i<p.1.1+2 ^ p.1.2.toNat)) from rfl]
    generalize ets:(os.filter fun p=>decide (p.1.1<i+2 ^ g.toNat)&&decide (i<p.1.1+2 ^ p.1.2.toNat))=us
    have usub:∀p∈us,p∈os:=fun p hp=>by rw[<- ets]at hp;exact(List.mem_filter.mp hp).1
    have uin:∀p∈os,p.1.1<i+2 ^ g.toNat->i<p.1.1+2 ^ p.1.2.toNat->p∈us:=fun p hp y z=>by
     rw[<- ets];exact List.mem_filter.mpr ⟨hp,by rw[decide_eq_true y,decide_eq_true z];rfl⟩
    have lus:us.length<=64:=by
     have:=List.length_filter_le (fun p:(Int×Int)×Str=>decide (p.1.1<i+2 ^ g.toNat)&&decide (i<p.1.1+2 ^ p.1.2.toNat)) os
     rw[ets]at this;lia
    have ok3:∀vs:List ((Int×Int)×Str),(∀p∈vs,p∈os)->Okd (.list (oD vs)):=fun vs hv=>(znv (k:=2) fun t ht=>by
     obtain⟨p,hp,rfl⟩:=List.mem_map.mp ht;refine YQ fun u hu=>?_
     simp only[List.mem_cons,List.not_mem_nil,or_false]at hu;rcases hu with rfl|rfl
     ·exact zmy
     ·exact(zpy (hm _ (e2 _ (hv p hp)))).mono (by decide)).okd
    have tail:∀(m'':Nat) (s':Str) (b8:Option Cell),m''<=m'+2->s'∈nms ->
      sIf (Ur (dOp oEq (dNew (dComp [Str.ofString "_law_one"].length [7] (dItL (dVar 9)) (ZH 0) (Ur (dOp oNe (dOp oIx (dVar 0) (dC (PyData.int 1))) (dVar 1))) (dVar 0))) (dNew dNil))) (YT 5 (dTup (US (dVar 6) (US (dVar 7) dNil)))) Zt { nx:=K,rt:=RT,bk:=BK,ct:=K }
       [some (.val HAND),some (.val (.int bits)),some (.val (.list (nD nms))),some (.val (.int most)),some (.val (.list (oD os))),some (.own (oD ks)),some (.val (.tuple [.int i,.int g])),some (.val (.str s')),b8,some (.val (.list (oD us)))] m'':=by
     intro m'' s' b8 hm'' hs'
     wp_walk
     refine zeJ (cs:=us) (D:=fun p=>.tuple [prD p.1,.str p.2]) (fun p=>!decide (p.2=s')) (fun p=>.tuple [prD p.1,.str p.2]) (by lia) ?_ ?_
     ·intro p hp K2 X2 hK2 hX2
      wp_walk
      ·exact hX2 (by rw[decide_eq_true hc];rfl)
      ·exact hK2 (by rw[decide_eq_false hc];rfl)
     ·wp_walk
      ·exact ok3 _ fun p hp=>usub p (List.mem_filter.mp hp).1
      ·exact zhf
      ·rw[JZ];lia
      ·rw[zl9]at hc;refine put _ _ _ _ _ s' hm'' hs' fun p hp y z=>?_
       by_cases w:p.2=s'
       ·exact w
       ·exfalso;have:p∈us.filter fun p=>!decide (p.2=s'):=List.mem_filter.mpr ⟨uin p hp y z,by rw[decide_eq_false w];rfl⟩
        have e0:us.filter (fun p=>!decide (p.2=s'))=[]:=by simpa using hc
        rw[e0]at this;cases this
      ·exact skip _ _ _ _ _ hm''
    have nm:∀{Q:PyData->Prop},(∀s'∈nms,Q (.str s'))->oIx (.list ((us.map fun p=>PyData.str p.2)++[.str s])) (.int 0) Q:=fun {Q} hq=>by
     cases us with
     | nil=>exact zmA (hq s hs)
     | cons u v=>exact zmA (hq u.2 (e2 u (usub u (by simp))))
    wp_walk using Ub ?_ ?_ ?_ (fun r r0 r1=>?_),tail _ _ _ ?_ ?_
    all_goals first
     | exact ok3 _ usub
     | exact zhf
     | exact hs
     | lia
     | skip
    all_goals
     refine Uh (cs:=us) (D:=fun p=>.tuple [prD p.1,.str p.2]) (fun p=>.str p.2) (by lia) ?_ ?_
     ·intro p hp K2 X2 hK2
      wp_walk
      exact hK2
     ·wp_walk using nm (fun s' hs'=>?_),tail _ _ _ ?_ ?_
      ·simp;lia
      ·lia
      ·exact hs'
  ·rintro a5 a6 a7 a8 a9 m' ⟨hm',ks,rfl,sb,kn,ag⟩;rw[Qz,List.take_length]at sb
   wp_walk
   refine h (bits,os,ks) _ ⟨b0,b1,⟨by rw[e1];exact P,fun p hp=>hm _ (e2 p hp)⟩,⟨⟨fun b hb=>P2.1 b (sb.subset hb),P2.2.sublist sb⟩,fun q hq=>hm _ (kn q hq)⟩,ag⟩ rfl (by show os.length<=_;lia) ?_ ?_ ?_
   ·have:=sb.length_le;rw[List.length_map]at this;show ks.length<=_
    lia
   ·intro p hp;rcases List.mem_append.mp hp with z|z
    ·exact e2 p z
    ·exact kn p z
   ·rw[Qz]at hm';lia
theorem Z7:FnScope ["_law_hand_here","_law_bits_here","_law_names_here","_law_deal_here"] ["_law_hand_here"] (Jl (top 29)):=⟨rfl,rfl,rfl,by decide +kernel,rfl,by decide +kernel,by decide +kernel⟩
def zeD:GD:=fun ts n R=>ts=[HAND]/\n<=1000000000000 - 400000/\∀(d:Deal) (nms:List Str) (m:Nat),Dl d->nms≠[]->nms.length<=4->(∀s∈nms,IsNm s)->d.2.1.length<=40->d.2.2.length<=40->(∀p∈d.2.1++d.2.2,p.2∈nms)->m<=n+20000->R (.tuple [dlD d,.list (nD nms)]) m
theorem zhT{n:Nat}{R:qN}(hn:n<=1000000000000 - 400000)(h:∀(d:Deal) (nms:List Str) (m:Nat),Dl d->nms≠[]->nms.length<=4->(∀s∈nms,IsNm s)->d.2.1.length<=40->d.2.2.length<=40->(∀p∈d.2.1++d.2.2,p.2∈nms)->m<=n+20000->R (.tuple [dlD d,.list (nD nms)]) m):zeD [HAND] n R:=⟨rfl,hn,h⟩
def zeb(Z:ZZ):Prop:=FQ Z "_law_case" (top 29) ["_law_hand_here"] 8 (spD Z.K 1 zeD)
theorem zgm(D:Dq Z.K Z.mg "_law_case" (top 29) ["_law_hand_here"]) (h__law_bits:zec Z) (h__law_names:zdH Z) (h__law_deal:zea Z) (h__law_take:QQ Z) (T:Txt Z.mg):zeb Z:=by
 refine' okQ D Z7 rfl fun f cdv A outer s H E hr=>⟨_,(Jf (JE (i:=1) Z7.nd rfl (Or.inl rfl) (Ji h__law_bits hr (Jb (Ja 0) Je Jd))) (Jf (JE (i:=2) Z7.nd rfl (Or.inl rfl) (Ji h__law_names hr (Jb (Ja 0) (Jb (Jx (dl Jc) (dl (Ji h__law_take hr (Jb (Ja 0) (Jb Jc Je Jh) Jd)))) Je JI) Jd))) (Jf (JE (i:=3) Z7.nd rfl (Or.inl rfl) (Ji h__law_deal hr (Jb (Ja 0) (Jb (Ja 1) (Jb (zqJ (Jp (zmd (dl (Ja 2)) Qc (J4 (ZC Jc)))) (QJ (Ja 2))) (Jb (Jn (dl (Jp (JL (Jb Jc (Jb Jc (Jb Jc (Jb Jc (Jb Jc (Jb Jc (Jb Jc (Jb Jc Je Jh) Jh) Jh) Jh) Jh) Jh) Jh) Jh)))) (dl (Ji h__law_take hr (Jb (Ja 0) (Jb Jc Je Jh) Jd)))) Je JX) zjl) Jd) Jd))) (Jg (Jk (Jj (Jb (Ja 3) (Jb (Ja 2) Je Jd) Jd))))))),?_⟩
 intro ts n R hl h;obtain⟨rfl,hn,h⟩:=h;have ml:∀x∈[PyData.int 5,PyData.int 5,PyData.int 5,PyData.int 5,PyData.int 5,PyData.int 5,PyData.int 5,PyData.int 40],∃most:Int,x=.int most/\0<=most/\most<=40:=fun x hx=>by
  simp only[List.mem_cons,List.not_mem_nil,or_false]at hx;rcases hx with rfl|rfl|rfl|rfl|rfl|rfl|rfl|rfl <;> exact⟨_,rfl,by decide,by decide⟩
 wp_walk using zhU ?_ (fun bits b0 b1=>?_),Ub ?_ ?_ ?_ (fun r r0 r1=>?_),zgZ ?_ ?_ ?_ (fun nms nl nk nd=>?_)
 all_goals first|lia|exact cpow (by lia) (by lia)|(simp;done)|skip
 all_goals
  have ne:nms≠[]:=fun z=>by rw[z]at nl;simp at nl;lia
  refine zpQ (by lia) (by simp;lia) fun x hx=>?_
  obtain⟨most,rfl,m0,m1⟩:=ml x hx
  wp_walk
 ·refine zeN b0 b1 m0 (by lia) ne (by lia) nk (by lia) fun d m D e l1 l2 pn hm=>?_
  wp_walk
  exact h d nms m D ne (by lia) nk (by lia) (by lia) pn (by lia)
 ·have e0:cutD (List.map PyData.str nms) none (some (-1))=nD (nms.take (nms.length - 1)):=by
   rw[zmh,List.length_map,<- List.map_take];rfl
  rw[e0]at hc ⊢;have sb:∀s∈nms.take (nms.length - 1),s∈nms:=fun s hs=>List.mem_of_mem_take hs
  refine zeN b0 b1 m0 (by lia) (fun z=>by rw[z]at hc;cases hc) (by simp;lia) (fun s hs=>nk s (sb s hs)) (by lia) fun d m D e l1 l2 pn hm=>?_
  wp_walk
  exact h d nms m D ne (by lia) nk (by lia) (by lia) (fun p hp=>sb _ (pn p hp)) (by lia)
theorem zfs:FnScope ["_law_thing","_law_low","_law_most"] ["_law_thing","_law_low","_law_most"] (Jl (top 30)):=⟨rfl,rfl,rfl,by decide +kernel,rfl,by decide +kernel,by decide +kernel⟩
def whD(lo hi:Int):PyData->Bool|.int i=>decide (lo<=i)&&decide (i<=hi)|_=>false
def zdM:GD:=fun ts n R=>∃(d:PyData) (lo hi:Int),ts=[d,.int lo,.int hi]/\Pln d/\R (.bool (whD lo hi d)) n
theorem QF{d:PyData}{lo hi:Int}{n:Nat}{R:qN}(p:Pln d)(h:R (.bool (whD lo hi d)) n):zdM [d,.int lo,.int hi] n R:=⟨d,lo,hi,rfl,p,h⟩
def zcq(Z:ZZ):Prop:=FQ Z "_law_whole" (top 30) ["_law_thing","_law_low","_law_most"] 1 (spD Z.K 3 zdM)
theorem zfC(D:Dq Z.K Z.mg "_law_whole" (top 30) ["_law_thing","_law_low","_law_most"]) (T:Txt Z.mg):zcq Z:=by
 refine' okQ D zfs rfl fun f cdv A outer s H E hr=>⟨_,(Jg (Jk (QO (Qb zmF T.isi T.int boot_int (dl (Ja 0)) Jd) (QO (ZN (Qb zhN T.isi T.boo zdB (dl (Ja 0)) Jd)) (QJ (ZQ Qa J9 Qa J9 (dl (Ja 1)) (dl (Ja 0)) (dl (Ja 2)))))))),?_⟩
 intro ts n R hl h;obtain⟨d,lo,hi,rfl,p,h⟩:=h;cases d with
 | int i =>
  have h:R (.bool (decide (lo<=i)&&decide (i<=hi))) n:=h
  wp_walk
  ·rw[decide_eq_true hc,Bool.true_and]at h;exact h
  ·rw[decide_eq_false hc,Bool.false_and]at h;exact h
 | dict ks =>
  cases ks with
  | nil =>
   wp_walk
   exact h
  | cons a b=>exact absurd rfl p
 | _ =>
  wp_walk
  exact h
theorem zbU:FnScope ["_law_bits_here","_law_thing","_law_block_here","_law_name"] ["_law_bits_here","_law_thing"] (Jl (top 31)):=⟨rfl,rfl,rfl,by decide +kernel,rfl,by decide +kernel,by decide +kernel⟩
def ipD(bits:Int):PyData->Bool
 | .tuple [.tuple [x,y],nm]=>JO bits (.tuple [x,y])&&nmD nm
 | _=>false
theorem zol{z:Str}{n:Nat}{R:qN}{g:DTG}{tt:DTT}{te:DTE}{ρ0:En}{Rl:List PyData->Nat->Prop}(h8:z.length<=8)
  (step:∀c:Nat,∀(K:qN) (X:Nat->Prop),K (.bool (decide (97<=c)&&decide (c<=122))) n->g (.str ⟨#[c]⟩) ρ0 fun ρ1=>tt ρ1 n fun c n2=>if c=true then te ρ1 n2 K else X n2) (fin:Rl (z.cps.toList.map fun c=>.bool (decide (97<=c)&&decide (c<=122))) n) :
  Qs g tt te ρ0 (z.cps.toList.map fun c=>.str ⟨#[c]⟩) [] n Rl:=Uh (cs:=z.cps.toList) (D:=fun c=>.str ⟨#[c]⟩) (fun c=>.bool (decide (97<=c)&&decide (c<=122))) (by rw[Qj];lia) (fun c _ K X hK=>step c K X hK) fin
def zcN:GD:=fun ts n R=>∃(bits:Int) (d:PyData),ts=[.int bits,d]/\0<=bits/\bits<=64/\PlnD d/\R (.bool (ipD bits d)) n
theorem zeT{bits:Int}{d:PyData}{n:Nat}{R:qN}(b0:0<=bits)(b1:bits<=64)(p:PlnD d)(h:R (.bool (ipD bits d)) n):zcN [.int bits,d] n R:=⟨bits,d,rfl,b0,b1,p,h⟩
def zcH(Z:ZZ):Prop:=FQ Z "_law_is_pair" (top 31) ["_law_bits_here","_law_thing"] 2 (spD Z.K 2 zcN)
theorem zei(D:Dq Z.K Z.mg "_law_is_pair" (top 31) ["_law_bits_here","_law_thing"]) (h__law_whole:zcq Z) (T:Txt Z.mg):zcH Z:=by
 refine' okQ D zbU rfl fun f cdv A outer s H E hr=>⟨_,(Jf (Jt (JR (JV (JJ (JK (dl (Qb QY T.isi T.tup Qm (dl (Ja 1)) Jd)))) (Qf (Js (QK hr) QG (dl (JG Qq Qo T.len Qn (Jr (dl (Ja 1)) Jz Jd))) (dl Jc) (Jo _))))) (Jg (Jk JB)) Jw) (Jf (Jt (JR (JV (JJ (JK (dl (Qb QY T.isi T.tup Qm (dl (Jn (dl (Ja 1)) (dl Jc))) JX)))) (Qf (Js (QK hr) QG (dl (JG Qq Qo T.len Qn (Jr (dl (Jn (dl (Ja 1)) (dl Jc))) Jz JX))) (dl Jc) (Jo _))))) (Jg (Jk JB)) Jw) (Jf (Ud (Ja 1) (Qe rfl (Ju (Jm (i:=2) zbU.nd rfl (Or.inl rfl)) (Ju (Jm (i:=3) zbU.nd rfl (Or.inl rfl)) Qd)))) (Jf (Jt (JR (JV (JJ (JK (dl (Ji h__law_whole hr (Jb (Jn (dl (Ja 2)) (dl Jc)) (Jb Jc (Jb (Ja 0) Je Jd) Jh) JX))))) (Qf (JJ (JK (dl (Ji h__law_whole hr (Jb (Jn (dl (Ja 2)) (dl Jc)) (Jb Jc (Jb (Ya (dl (J7 (dl Jc) (dl (Ja 0)))) (dl Jc)) Je JI) Jh) JX)))))))) (Jg (Jk JB)) Jw) (Jf (Jt (JR (JV (Js Yt gp_B (dl (ZA (dl (Jn (dl (Ja 2)) (dl Jc))) (dl (J7 (dl Jc) (dl (Jn (dl (Ja 2)) (dl Jc))))))) (dl Jc) (Jo _)) (JV (JJ (JK (dl (Qb zmE T.isi T.str zg0 (dl (Ja 3)) Jd)))) (Qf (JJ (zfP Qa J9 Qa J9 (dl Jc) (dl (JG Qq Qo T.len Qn (Jr (dl (Ja 3)) Jz Jd))) (dl Jc))))))) (Jg (Jk JB)) Jw) (Jg (Jk (JG (Uy rfl) Uu T.all Ux (Jr (dl (Jp (QD (own:=["_law_sign"]) (capt:=[]) rfl (CompScope.of rfl) (dil (zmN (Ja 3))) (fun _ _ _ _=>(Jm (i:=0) (by show(["_law_sign"]:List Str).Nodup;decide +kernel) rfl (Or.inl rfl))) (by decide) (fun _ _ _ _=>QE) (fun _ _ _ _=>(ZQ Qa J9 Qa J9 (dl J8) (dl (Ja 0)) (dl J8)))))) Jz Ue))))))))),?_⟩
 intro ts n R hl h;obtain⟨bits,d,rfl,b0,b1,p,h⟩:=h;cases d with
 | dict ks =>
  cases ks with
  | nil =>
   wp_walk
   exact h
  | cons a b=>exact absurd rfl p.pln
 | tuple ts =>
  obtain⟨l6,p3⟩:=p.tup
  match ts,p3,h with
  | [],_,h =>
   wp_walk
   all_goals first|exact h|(exfalso;simp at hc;done)
  | [x],_,h =>
   have e:ipD bits (.tuple [x])=false:=by unfold ipD;split <;> simp_all
   rw[e]at h
   wp_walk
   all_goals first|exact h|(exfalso;simp at hc;done)
  | x::y::z::r,_,h =>
   have e:ipD bits (.tuple (x::y::z::r))=false:=by unfold ipD;split <;> simp_all
   rw[e]at h
   wp_walk
   all_goals first|exact h|(exfalso;simp at hc;lia)
  | [t,nm],p3,h =>
   have pt:=p3 t (by simp)
   have pn:=p3 nm (by simp)
   cases t with
   | dict ks =>
    cases ks with
    | nil =>
     wp_walk
     all_goals first|exact h|exact absurd rfl hc
    | cons a b=>exact absurd rfl pt.pln
   | tuple us =>
    obtain⟨_,p4⟩:=pt.tup
    match us,p4,h with
    | [],_,h =>
     wp_walk
     all_goals first|exact h|(exfalso;simp at hc;done)|exact absurd rfl hc
    | [x],_,h =>
     have e:ipD bits (.tuple [.tuple [x],nm])=false:=by unfold ipD;split <;> simp_all
     rw[e]at h
     wp_walk
     all_goals first|exact h|(exfalso;simp at hc;done)|exact absurd rfl hc
    | x::y::z::r,_,h =>
     have e:ipD bits (.tuple [.tuple (x::y::z::r),nm])=false:=by unfold ipD;split <;> simp_all
     rw[e]at h
     wp_walk
     all_goals first|exact h|(exfalso;simp at hc;lia)|exact absurd rfl hc
    | [x,y],p4,h =>
     have px:=(p4 x (by simp)).pln
     have py:=(p4 y (by simp)).pln
     have h:R (.bool (JO bits (.tuple [x,y])&&nmD nm)) n:=h;have wy:(∃g,y=.int g)\/(∀lo hi,whD lo hi y=false)/\JO bits (.tuple [x,y])=false:=by
      cases y with
      | int g=>exact .inl ⟨g,rfl⟩
      | _=>exact .inr ⟨fun _ _=>rfl,by unfold JO;split <;> simp_all⟩
     rcases wy with⟨g,rfl⟩|⟨wy,wr⟩
     ·have wx:(∃b,x=.int b)\/(∀lo hi,whD lo hi x=false)/\JO bits (.tuple [x,.int g])=false:=by
       cases x with
       | int g=>exact .inl ⟨g,rfl⟩
       | _=>exact .inr ⟨fun _ _=>rfl,by unfold JO;split <;> simp_all⟩
      rcases wx with⟨b,rfl⟩|⟨wx,wr⟩
      ·rw[zex]at h;have wi:∀{lo hi i:Int} {c:Bool},whD lo hi (.int i)=c->(c=true↔lo<=i/\i<=hi):=fun {lo hi i c} e=>by
        rw[<- e];simp only[whD,Bool.and_eq_true,decide_eq_true_eq]
       cases nm with
       | str z =>
        have hz:=pn.str;have bad:¬(0<=g/\g<=bits/\0<=b/\b<2 ^ bits.toNat/\b % 2 ^ g.toNat=0)->R (.bool false) n:=fun z=>by
         rw[decide_eq_false z,Bool.false_and]at h;exact h
        have badn:nmD (.str z)=false->R (.bool false) n:=fun z=>by
         rw[z,Bool.and_false]at h;exact h
        have ee:nmD (.str z)=(decide (1<=z.length)&&decide (z.length<=8)&&z.cps.toList.all fun c=>decide (97<=c)&&decide (c<=122)):=rfl
        wp_walk using QF px ?_,QF py ?_
        ·exact cpow b0 (by lia)
        ·rename_i w1;have:=(wi w1).mp rfl;exact cpow this.1 (by lia)
        ·rw[Int.one_mul];exact QP _
        ·rw[Int.one_mul]at hc;exact bad fun z=>by have:=z.2.2.2.2;lia
        ·lia
        ·rename_i w1 w2 w3 w4;have a:=(wi w1).mp rfl;have c:=(wi w2).mp rfl;rw[Int.one_mul]at c w3;have ea:(Str.ofString "a").cps.toList=[97]:=by decide +kernel
         have ez:(Str.ofString "z").cps.toList=[122]:=by decide +kernel
         refine zol (R:=R) (by lia) (fun c K2 X2 hK2=>?_) ?_
         ·wp_walk
          ·have z:c<97:=Y7.mp (show([c]:List Nat)<[97] from ea▸hc)
           rw[decide_eq_false (show ¬97<=c by lia),Bool.false_and]at hK2
           exact hK2
          ·have z:¬c<97:=fun y=>hc (ea.symm▸Y7.mpr y)
           rw[decide_eq_true (show 97<=c by lia),Bool.true_and]at hK2
           have e2:(!decide ((Str.ofString "z").cps.toList<(⟨#[c]⟩:Str).cps.toList))=decide (c<=122):=by
            rw[ez];exact zj8
           rw[e2];exact hK2
         ·wp_walk using Uv ?_
          have p0:=QP g.toNat;have nn:=Int.emod_nonneg b (show(2:Int) ^ g.toNat≠0 by lia)
          rw[decide_eq_true (show 0<=g/\g<=bits/\0<=b/\b<2 ^ bits.toNat/\b % 2 ^ g.toNat=0 from⟨a.1,a.2,c.1,by lia,by lia⟩),Bool.true_and,ee,decide_eq_true (show 1<=z.length by lia),decide_eq_true (show z.length<=8 by lia)]at h
          exact h
        ·exact badn (by rw[ee,decide_eq_false (show ¬z.length<=8 by lia),Bool.and_false,Bool.false_and])
        ·exact badn (by rw[ee,decide_eq_false (show ¬1<=z.length by lia),Bool.false_and,Bool.false_and])
        ·have c:¬(0<=b/\b<=1*2 ^ bits.toNat - 1):=fun z=>by have:=(wi hc).mpr z;cases this
         rw[Int.one_mul]at c;exact bad fun z=>c ⟨z.2.2.1,by have:=z.2.2.2.1;lia⟩
        ·have c:¬(0<=g/\g<=bits):=fun z=>by have:=(wi hc).mpr z;cases this
         exact bad fun z=>c ⟨z.1,z.2.1⟩
        all_goals exact absurd rfl hc
       | dict ks =>
        cases ks with
        | nil =>
         have h:R (.bool (_&&false)) n:=h;rw[Bool.and_false]at h
         wp_walk using QF px ?_,QF py ?_
         all_goals first
          | exact h
          | exact cpow b0 (by lia)
          | (rw[Int.one_mul];exact QP _)
          | exact absurd rfl hc
          | (rename_i w1;have:=(wi w1).mp rfl;exact cpow this.1 (by lia))
        | cons a b=>exact absurd rfl pn.pln
       | _ =>
        have h:R (.bool (_&&false)) n:=h;rw[Bool.and_false]at h
        wp_walk using QF px ?_,QF py ?_
        all_goals first
         | exact h
         | exact cpow b0 (by lia)
         | (rw[Int.one_mul];exact QP _)
         | exact absurd rfl hc
         | (rename_i w1;have:=(wi w1).mp rfl;exact cpow this.1 (by lia))
      ·rw[wr,Bool.false_and]at h
       wp_walk using QF px ?_,QF py ?_
       all_goals first|exact h|exact cpow (by lia) (by lia)|exact absurd rfl hc|(rw[wx]at hc;cases hc)
     ·rw[wr,Bool.false_and]at h
      wp_walk using QF px ?_,QF py ?_
      all_goals first|exact h|exact cpow (by lia) (by lia)|exact absurd rfl hc|(exfalso;rename_i hy _;rw[wy]at hy;cases hy)|(exfalso;rw[wy]at *;contradiction)
   | _ =>
    wp_walk
    all_goals first|exact h|exact absurd rfl hc
 | _ =>
  wp_walk
  exact h
theorem zf3:FnScope ["_law_one","_law_other"] ["_law_one","_law_other"] (Jl (top 32)):=⟨rfl,rfl,rfl,by decide +kernel,rfl,by decide +kernel,by decide +kernel⟩
def zeA:GD:=fun ts n R=>∃a b:Int×Int,ts=[.tuple [.int a.1,.int a.2],.tuple [.int b.1,.int b.2]]/\0<=a.2/\a.2<=64/\0<=b.2/\b.2<=64/\R (.bool (decide (a.1<eB b)&&decide (b.1<eB a))) n
theorem zeM{a b:Int×Int}{n:Nat}{R:qN}(a0:0<=a.2)(a1:a.2<=64)(b0:0<=b.2)(b1:b.2<=64)(h:R (.bool (decide (a.1<eB b)&&decide (b.1<eB a))) n):zeA [.tuple [.int a.1,.int a.2],.tuple [.int b.1,.int b.2]] n R:=⟨a,b,rfl,a0,a1,b0,b1,h⟩
def zd9(Z:ZZ):Prop:=FQ Z "_law_over" (top 32) ["_law_one","_law_other"] 1 (spD Z.K 2 zeA)
theorem zgi(D:Dq Z.K Z.mg "_law_over" (top 32) ["_law_one","_law_other"]) (T:Txt Z.mg):zd9 Z:=by
 refine' okQ D zf3 rfl fun f cdv A outer s H E hr=>⟨_,(Jg (Jk (QO (Uc (QT hr) QS (dl (Jn (dl (Ja 0)) (dl Jc))) (dl (Jx (dl (Jn (dl (Ja 1)) (dl Jc))) (dl (J7 (dl Jc) (dl (Jn (dl (Ja 1)) (dl Jc))))))) (Jo _)) (QJ (Uc (QT hr) QS (dl (Jn (dl (Ja 1)) (dl Jc))) (dl (Jx (dl (Jn (dl (Ja 0)) (dl Jc))) (dl (J7 (dl Jc) (dl (Jn (dl (Ja 0)) (dl Jc))))))) (Jo _)))))),?_⟩
 intro ts n R hl h;obtain⟨a,b,rfl,a0,a1,b0,b1,h⟩:=h;have e1:a.1+1*2 ^ a.2.toNat=eB a:=by unfold eB;lia
 have e2:b.1+1*2 ^ b.2.toNat=eB b:=by unfold eB;lia
 wp_walk
 all_goals first
  | exact cpow (by lia) (by lia)
  | (rw[e2]at hc;rw[decide_eq_true hc,Bool.true_and]at h;rw[e1];exact h)
  | (rw[e2]at hc;rw[decide_eq_false hc,Bool.false_and]at h;exact h)
theorem Uo:FnScope ["_law_thing","_law_owned","_law_k","_law_pair","_law_other","_law_block_here","_law_name","_law_owner"] ["_law_thing"] (Jl (top 33)):=⟨rfl,rfl,rfl,by decide +kernel,rfl,by decide +kernel,by decide +kernel⟩
theorem zp5{bits:Int}(b0:0<=bits){r:NP}(B:IsBk bits r.1.1 r.1.2)(N:IsNm r.2):ipD bits (.tuple [.tuple [.int r.1.1,.int r.1.2],.str r.2])=true:=by
 show(JO bits (.tuple [.int r.1.1,.int r.1.2])&&nmS r.2)=true
 rw[(Z2 b0).mpr B,ZO.mpr N];rfl
theorem zp4{bits:Int}(b0:0<=bits){t:PyData}(h:ipD bits t=true):∃r:NP,t=.tuple [.tuple [.int r.1.1,.int r.1.2],.str r.2]/\IsBk bits r.1.1 r.1.2/\IsNm r.2:=by
 unfold ipD at h;split at h
 ·rename_i x y nm;rw[Bool.and_eq_true]at h;obtain⟨h1,h2⟩:=h;have h1':=h1;unfold JO at h1;split at h1
  ·rename_i i g e;cases e;unfold nmD at h2;split at h2
   ·rename_i s;exact⟨((i,g),s),rfl,(Z2 b0).mp h1',ZO.mp h2⟩
   ·cases h2
  ·cases h1
 ·cases h
theorem zkc{bits:Int}(b0:0<=bits):∀{ts:qD},ts.all (ipD bits)=true->∃os:List NP,ts=oD os/\Bks bits (os.map (·.1))/\∀p∈os,IsNm p.2
 | [],_=>⟨[],rfl,(fun b h=>nomatch h),(fun b h=>nomatch h)⟩
 | t::ts,h=>by
  rw[List.all_cons,Bool.and_eq_true]at h;obtain⟨r,rfl,B,N⟩:=zp4 b0 h.1;obtain⟨os,rfl,B',N'⟩:=zkc b0 h.2;refine⟨r::os,rfl,fun b hb=>?_,fun p hp=>?_⟩
  ·rcases List.mem_cons.mp hb with rfl|hb
   ·exact B
   ·exact B' b hb
  ·rcases List.mem_cons.mp hp with rfl|hp
   ·exact N
   ·exact N' p hp
theorem zrD{bits:Int}(b0:0<=bits){us:qD}(h:IsSh bits (.tuple us)):us.all (ipD bits)=true:=by
 obtain⟨os,e,P,N⟩:=h;cases e;rw[List.all_eq_true];intro x hx;obtain⟨p,hp,rfl⟩:=List.mem_map.mp hx;exact zp5 b0 (P.1 _ (List.mem_map_of_mem hp)) (N p hp)
def SpP(a b:NP):Prop:=npGe a b=false/\¬(a.1.1<eB b.1/\b.1.1<eB a.1)
theorem zjm{a b:NP}:SpP a b↔eB a.1<=b.1.1:=by
 obtain⟨⟨a1,a2⟩,a3⟩:=a;obtain⟨⟨b1,b2⟩,b3⟩:=b;have pa:=Zc (a1,a2);have pb:=Zc (b1,b2);unfold SpP;dsimp only at pa pb ⊢;constructor
 ·rintro⟨h1,h2⟩;have:¬b1<a1:=fun z=>by
   have:npGe ((a1,a2),a3) ((b1,b2),b3)=true:=by
    unfold npGe;dsimp only;rw[if_neg (by simp;lia),if_neg (by simp;lia)]
    exact decide_eq_true (by lia)
   rw[this]at h1;cases h1
  lia
 ·intro h;refine⟨?_,by lia⟩
  unfold npGe;dsimp only;rw[if_neg (by simp;lia),if_neg (by simp;lia)]
  exact decide_eq_false (by lia)
def zfh:GD:=fun ts n R=>∃(d:PyData),ts=[d]/\PlnD d/\∀b:Bool,(b=true↔IsDl d)->R (.bool b) n
theorem zja{d:PyData}{n:Nat}{R:qN}(p:PlnD d)(h:∀b:Bool,(b=true↔IsDl d)->R (.bool b) n):zfh [d] n R:=⟨d,rfl,p,h⟩
def ze8(Z:ZZ):Prop:=FQ Z "_law_due" (top 33) ["_law_thing"] 3 (spD Z.K 1 zfh)
theorem zhk(D:Dq Z.K Z.mg "_law_due" (top 33) ["_law_thing"]) (h__law_whole:zcq Z) (h__law_over:zd9 Z) (h__law_is_pair:zcH Z) (T:Txt Z.mg):ze8 Z:=by
 refine' okQ D Uo rfl fun f cdv A outer s H E hr=>⟨_,(Jf (Jt (JR (JV (JJ (JK (dl (Qb QY T.isi T.tup Qm (dl (Ja 0)) Jd)))) (JV (Js (QK hr) QG (dl (JG Qq Qo T.len Qn (Jr (dl (Ja 0)) Jz Jd))) (dl Jc) (Jo _)) (Qf (JJ (JK (dl (Ji h__law_whole hr (Jb (Jn (dl (Ja 0)) (dl Jc)) (Jb Jc (Jb Jc Je Jh) Jh) JX))))))))) (Jg (Jk JB)) Jw) (Jf (Qt PassesOwn.never rfl (Qx (Qh (dl (Ja 0)) (J4 Jc) Qc)) (Jm (i:=1) Uo.nd rfl (Or.inl rfl)) (Jf (Jt (JJ (JK (dl (Qb QY T.isi T.tup Qm (dl (Ja 1)) Jd)))) (Jg (Jk JB)) Jw) (Jf (Jt (JJ (JK (dl (JG (Uy rfl) Uu T.all Ux (Jr (dl (Jp (QD (own:=["_law_pair"]) (capt:=[0]) rfl (CompScope.of rfl) (dil (Qx (Ja 1))) (fun _ _ _ _=>(Jm (i:=0) (by show(["_law_pair","_law_thing"]:List Str).Nodup;decide +kernel) rfl (Or.inl rfl))) (by decide) (fun _ _ _ _=>QE) (fun _ _ _ _=>(Ji h__law_is_pair hr (Jb (Jn (dl (Ja 1)) (dl Jc)) (Jb (Ja 0) Je Jd) JX)))))) Jz Ue))))) (Jg (Jk JB)) Jw) (Jg (Qt PassesOwn.never rfl (zmf T.enu (Ja 1)) (Qe rfl (Ju (Jm (i:=2) Uo.nd rfl (Or.inl rfl)) (Ju (Jm (i:=3) Uo.nd rfl (Or.inl rfl)) Qd))) (Jg (Qt PassesOwn.never rfl (Qx (Qh (dl (Ja 1)) Qc (J4 (Ja 2)))) (Jm (i:=4) Uo.nd rfl (Or.inl rfl)) (Jg (Jt (JR (JV (Js (znq hr) zn0 (dl (Ja 4)) (dl (Ja 3)) (Jo _)) (Qf (JK (dl (Ji h__law_over hr (Jb (Jn (dl (Ja 4)) (dl Jc)) (Jb (Jn (dl (Ja 3)) (dl Jc)) Je JX) JX))))))) (Jg (Jk JB)) Jw))))))))) (Jf (Qt PassesOwn.never rfl (Qx (Jn (dl (Ja 0)) (dl Jc))) (Qe rfl (Ju (Jm (i:=5) Uo.nd rfl (Or.inl rfl)) (Ju (Jm (i:=6) Uo.nd rfl (Or.inl rfl)) Qd))) (Jg (Qt PassesOwn.never rfl (Qx (Jn (dl (Ja 0)) (dl Jc))) (Qe rfl (Ju (Jm (i:=4) Uo.nd rfl (Or.inl rfl)) (Ju (Jm (i:=7) Uo.nd rfl (Or.inl rfl)) Qd))) (Jg (Jt (JR (Yz (Js (QK hr) QG (dl (Ja 6)) (dl (Ja 7)) (Jo _)) (YN (JK (dl (Ji h__law_over hr (Jb (Ja 5) (Jb (Ja 4) Je Jd) Jd))))))) (Jg (Jk JB)) Jw))))) (Jg (Jk JB))))),?_⟩
 intro ts n R hl hh;obtain⟨d,rfl,p,h⟩:=hh;have no:¬IsDl d->R (.bool false) n:=fun z=>h false ⟨(fun y=>by cases y),fun y=>absurd y z⟩
 cases d with
 | dict ks =>
  cases ks with
  | nil =>
   have key:=no fun⟨dl,e,_⟩=>by cases e
   wp_walk
   exact key
  | cons a b=>exact absurd rfl p.pln
 | tuple ts =>
  obtain⟨l6,p3⟩:=p.tup
  match ts,p3,no,h with
  | [],_,no,_ =>
   have key:=no fun⟨dl,e,_⟩=>by cases e
   wp_walk
   all_goals first|exact key|(exfalso;simp at hc;done)
  | [x],_,no,_ =>
   have key:=no fun⟨dl,e,_⟩=>by cases e
   wp_walk
   all_goals first|exact key|(exfalso;simp at hc;done)
  | [x,y],_,no,_ =>
   have key:=no fun⟨dl,e,_⟩=>by cases e
   wp_walk
   all_goals first|exact key|(exfalso;simp at hc;done)
  | x::y::z::w::r,_,no,_ =>
   have key:=no fun⟨dl,e,_⟩=>by cases e
   wp_walk
   all_goals first|exact key|(exfalso;simp at hc;lia)
  | [x,y,z],p3,no,h =>
   have px:=p3 x (by simp)
   have py:=p3 y (by simp)
   have pz:=p3 z (by simp)
   have wx:(∃g,x=.int g)\/((∀lo hi,whD lo hi x=false)/\¬IsDl (.tuple [x,y,z])):=by
    cases x with
    | int g=>exact .inl ⟨g,rfl⟩
    | _=>exact .inr ⟨fun _ _=>rfl,fun⟨dl,e,_⟩=>by have:=(dl3 e).1;cases this⟩
   rcases wx with⟨bits,rfl⟩|⟨wx,nd⟩
   ·have wi:∀{lo hi i:Int} {c:Bool},whD lo hi (.int i)=c->(c=true↔lo<=i/\i<=hi):=fun {lo hi i c} e=>by
     rw[<- e];simp only[whD,Bool.and_eq_true,decide_eq_true_eq]
    wp_walk using QF px.pln ?_
    ·have bb:=(wi hc).mp rfl;have b0:0<=bits:=by lia
     rw[show cutD [PyData.int bits,y,z] (some 1) none=[y,z] from rfl]
     have body:∀t,PlnD t->(IsSh bits t\/¬IsSh bits t):=fun t _=>Classical.em _
     have nosh:∀t∈[y,z],¬IsSh bits t->R (.bool false) n:=fun t ht hs=>no fun⟨dl,e,D⟩=>by
      obtain⟨e1,e2,e3⟩:=dl3 e;cases e1;simp only[List.mem_cons,List.not_mem_nil,or_false]at ht;rcases ht with rfl|rfl
      ·exact hs ⟨dl.2.1,e2,D.2.2.1⟩
      ·exact hs ⟨dl.2.2,e3,D.2.2.2.1⟩
     refine zmK 1 2 3 4 (fun k _ _ _ _ m=>m=n/\∀j t,j<k->[y,z][j]?=some t->IsSh bits t) ⟨rfl,fun j t hj=>by lia⟩ ?_ ?_
     ·rintro k t _ _ _ _ m K RT BK et ⟨rfl,I⟩ hK hRT hBK;have mt:=List.mem_of_getElem? et;have pt:PlnD t:=p3 t (.tail _ mt);have ns:=nosh t mt;have nxt:IsSh bits t->∀j t',j<k+1->[y,z][j]?=some t'->IsSh bits t':=fun hs j t' hj ht'=>by
       by_cases e:j=k
       ·subst e;rw[et]at ht';cases ht';exact hs
       ·exact I j t' (by lia) ht'
      cases t with
      | tuple us =>
       obtain⟨lu,pu⟩:=pt.tup
       wp_walk
       refine zdz (fun t=>.bool (ipD bits t)) (by lia) ?_ ?_
       ·intro t mt K2 X2 hK2
        wp_walk using zeT b0 bb.2 (pu t mt) ?_
        exact hK2
       ·wp_walk using Uv (f:=ipD bits) ?_
        ·obtain⟨os,rfl,B,N⟩:=zkc b0 hc;have hB:∀p∈os,0<=p.1.2/\p.1.2<=64:=fun p hp=>by
          have:=B p.1 (List.mem_map_of_mem hp);exact⟨this.1,by have:=this.2.1;lia⟩
         have bad:∀(i j:Nat) (a b:NP),i<j->os[i]?=some a->os[j]?=some b->¬SpP a b->R (.bool false) m:=fun i j a b hij ha hb hs=>ns fun⟨os',e,P,_⟩=>by
          have eo:=YK (PyData.tuple.inj e);subst eo;have pw:=List.pairwise_iff_getElem.mp (List.pairwise_map.mp P.2);obtain⟨hi,rfl⟩:=List.getElem?_eq_some_iff.mp ha;obtain⟨hj,rfl⟩:=List.getElem?_eq_some_iff.mp hb;exact hs (zjm.mpr (pw i j hi hj hij))
         rw[JZ]at lu;refine zqA 2 3 4 (fun k _ _ _ m'=>m'=m/\∀(i j:Nat) (a b:NP),i<j->j<k->os[i]?=some a->os[j]?=some b->SpP a b) ⟨rfl,fun i j a b _ hj=>by lia⟩ ?_ ?_
         ·rintro k2 t2 _ _ _ m' K2 RT2 BK2 et2 ⟨rfl,J⟩ hK2 hRT2 hBK2;obtain⟨x2,ex2,rfl⟩:=zkq et2;obtain⟨b,eb,rfl⟩:=ZI ex2;have mb:=hB b (List.mem_of_getElem? eb)
          wp_walk
          rw[show cutD (oD os) none (some (k2:Int))=oD (os.take k2) from by rw[zgP rfl];simp[oD]]
          refine zqB 4 (fun i _ m''=>m''=m'/\∀(j:Nat) (a:NP),j<i->os[j]?=some a->SpP a b) ⟨rfl,fun j a hj=>by lia⟩ ?_ ?_
          ·rintro i t3 _ m'' K3 RT3 BK3 et3 ⟨rfl,J3⟩ hK3 hRT3 hBK3;obtain⟨a,ea,rfl⟩:=ZI et3;have il:i<k2:=by
            have:=(List.getElem?_eq_some_iff.mp ea).1;rw[List.length_take]at this;lia
           rw[List.getElem?_take_of_lt il]at ea;have ma:=hB a (List.mem_of_getElem? ea)
           wp_walk using zpS (r:=a) (r':=b) ?_,zeM (a:=a.1) (b:=b.1) ma.1 ma.2 mb.1 mb.2 ?_
           ·exact hRT3 _ _ (hRT2 _ _ (hRT _ _ (bad i k2 a b il ea eb fun s=>by rw[s.1]at hc;cases hc)))
           ·exact hRT3 _ _ (hRT2 _ _ (hRT _ _ (bad i k2 a b il ea eb fun s=>s.2 (by simpa using hc))))
           ·rename_i h1;refine hK3 _ _ ⟨rfl,fun j a' hj ha'=>?_⟩
            by_cases e:j=i
            ·subst e;rw[ea]at ha';cases ha';exact⟨h1,fun z=>by rw[decide_eq_true z.1,decide_eq_true z.2]at hc;cases hc⟩
            ·exact J3 j a' (by lia) ha'
          ·rintro _ m'' ⟨rfl,J3⟩;refine hK2 _ _ _ _ ⟨rfl,fun i j a b' hij hj ha hb'=>?_⟩
           by_cases e:j=k2
           ·subst e;rw[eb]at hb';cases hb';exact J3 i a (by rw[JZ,List.length_take];have:=(List.getElem?_eq_some_iff.mp eb).1;lia) ha
           ·exact J i j a b' hij (by lia) ha hb'
         ·rintro _ _ _ m' ⟨rfl,J⟩;refine hK _ _ _ _ _ ⟨rfl,nxt ⟨os,rfl,⟨B,List.pairwise_map.mpr (List.pairwise_iff_getElem.mpr fun i j hi hj hij=>zjm.mp (J i j _ _ hij (by rw[zkp,JZ];exact hj) (List.getElem?_eq_getElem hi) (List.getElem?_eq_getElem hj)))⟩,N⟩⟩
        ·exact hRT _ _ (ns fun hs=>by rw[zrD b0 hs]at hc;cases hc)
      | dict ks =>
       cases ks with
       | nil =>
        wp_walk
        exact hRT _ _ (ns fun⟨os,e,_⟩=>by cases e)
       | cons a b=>exact absurd rfl pt.pln
      | _ =>
       wp_walk
       exact hRT _ _ (ns fun⟨os,e,_⟩=>by cases e)
     ·rintro _ _ _ _ m ⟨rfl,I⟩;obtain⟨os,rfl,So⟩:=I 0 y (by simp) rfl
      obtain⟨ks,rfl,Sk⟩:=I 1 z (by simp) rfl
      wp_walk
      have hd:∀{l:List NP},Shr bits l->∀p∈l,0<=p.1.2/\p.1.2<=64:=fun S p hp=>by
       have:=S.1.1 p.1 (List.mem_map_of_mem hp);exact⟨this.1,by have:=this.2.1;lia⟩
      have bad:∀p∈os,∀q∈ks,¬okPr p q->R (.bool false) m:=fun p hp q hq hn=>no fun⟨dl,e,D⟩=>by
       obtain⟨e1,e2,e3⟩:=dl3 e;have eo:=YK (PyData.tuple.inj e2);have ek:=YK (PyData.tuple.inj e3);rw[eo]at hp;rw[ek]at hq;exact hn (D.2.2.2.2 p hp q hq)
      refine zmK 4 5 6 7 (fun k _ _ _ _ m'=>m'=m/\∀(i:Nat) (p:NP),i<k->os[i]?=some p->∀q∈ks,okPr p q) ⟨rfl,fun i p hi=>by lia⟩ ?_ ?_
      ·rintro k t _ _ _ _ m' K RT BK et ⟨rfl,J⟩ hK hRT hBK;obtain⟨a,ea,rfl⟩:=ZI et;have ia:=List.mem_of_getElem? ea;have ma:=hd So a ia;have na:=So.2 a ia
       wp_walk
       refine ZE 4 7 (fun k2 _ _ m''=>m''=m'/\∀(i:Nat) (q:NP),i<k2->ks[i]?=some q->okPr a q) ⟨rfl,fun i p hi=>by lia⟩ ?_ ?_
       ·rintro k2 t2 _ _ m'' K2 RT2 BK2 et2 ⟨rfl,J2⟩ hK2 hRT2 hBK2;obtain⟨b,eb,rfl⟩:=ZI et2;have ib:=List.mem_of_getElem? eb;have mb:=hd Sk b ib;have nb:=Sk.2 b ib;have nx:okPr a b->∀(i:Nat) (q:NP),i<k2+1->ks[i]?=some q->okPr a q:=fun z i q hi hq=>by
         by_cases e:i=k2
         ·subst e;rw[eb]at hq;cases hq;exact z
         ·exact J2 i q (by lia) hq
        wp_walk using zeM (a:=a.1) (b:=b.1) ma.1 ma.2 mb.1 mb.2 ?_
        ·exact hK2 _ _ _ ⟨rfl,nx (.inl hc)⟩
        ·rename_i h1;exact hRT2 _ _ (hRT _ _ (bad a ia b ib fun z=>by
          rcases z with z|z
          ·exact h1 z
          ·rw[Bool.and_eq_true,decide_eq_true_eq,decide_eq_true_eq]at hc;unfold apB at z;lia))
        ·rename_i h1;refine hK2 _ _ _ ⟨rfl,nx (.inr ?_)⟩;rw[Bool.and_eq_false_iff,decide_eq_false_iff_not,decide_eq_false_iff_not]at hc;unfold apB;lia
       ·rintro _ _ m'' ⟨rfl,J2⟩;refine hK _ _ _ _ _ ⟨rfl,fun i p hi hp q hq=>?_⟩
        by_cases e:i=k
        ·subst e;rw[ea]at hp;cases hp;obtain⟨j,hj⟩:=List.mem_iff_getElem?.mp hq;exact J2 j q (by rw[JZ];exact(List.getElem?_eq_some_iff.mp hj).1) hj
        ·exact J i p (by lia) hp q hq
      ·rintro _ _ _ _ m' ⟨rfl,J⟩
       wp_walk
       refine h true ⟨fun _=>⟨(bits,os,ks),rfl,bb.1,bb.2,So,Sk,fun p hp q hq=>?_⟩,fun _=>rfl⟩
       obtain⟨j,hj⟩:=List.mem_iff_getElem?.mp hp;exact J j p (by rw[JZ];exact(List.getElem?_eq_some_iff.mp hj).1) hj q hq
    ·have c:¬(1<=bits/\bits<=64):=fun z=>by have:=(wi hc).mpr z;cases this
     exact no fun⟨dl,e,D⟩=>by
      obtain⟨e1,_⟩:=dl3 e;cases e1;exact c ⟨D.1,D.2.1⟩
    ·exact absurd rfl hc
   ·wp_walk using QF px.pln ?_
    all_goals first|exact no nd|exact absurd rfl hc|(rw[wx]at hc;cases hc)
 | _ =>
  have key:=no fun⟨dl,e,_⟩=>by cases e
  wp_walk
  exact key
theorem ZX:FnScope ["_law_hand_here","_law_bits_here","_law_some"] ["_law_hand_here","_law_bits_here"] (Jl (top 34)):=⟨rfl,rfl,rfl,by decide +kernel,rfl,by decide +kernel,by decide +kernel⟩
theorem Zo{x y:PyData}(h:PlnD x)(h':PlnD y):PlnD (.tuple [x,y]):=JW (by simp) (JQ h (JQ h' Qv))
def zdx:GD:=fun ts n R=>∃bits:Int,ts=[HAND,.int bits]/\0<=bits/\bits<=64/\n<=1000000000000/\∀d,PlnD d->R d (n+1)
theorem zi_{bits:Int}{n:Nat}{R:qN}(b0:0<=bits)(b1:bits<=64)(hn:n<=1000000000000)(h:∀d,PlnD d->R d (n+1)):zdx [HAND,.int bits] n R:=⟨bits,rfl,b0,b1,hn,h⟩
def zdo(Z:ZZ):Prop:=FQ Z "_law_odd" (top 34) ["_law_hand_here","_law_bits_here"] 3 (spD Z.K 2 zdx)
theorem zhj(D:Dq Z.K Z.mg "_law_odd" (top 34) ["_law_hand_here","_law_bits_here"]) (h__law_pick:Q6 Z) (T:Txt Z.mg):zdo Z:=by
 refine' okQ D ZX rfl fun f cdv A outer s H E hr=>⟨_,(Jf (JE (i:=2) ZX.nd rfl (Or.inl rfl) (Jp (JL (Jb ZD (Jb JB (Jb JB (Jb (ZC Jc) (Jb Jc (Jb Jc (Jb Jc (Jb (J7 (dl Jc) (dl (Ja 1))) (Jb J8 (Jb J8 (Jb J8 (Jb J8 (Jb J8 (Jb (Jj Je) (Jb (Jp (JL Je)) (Jb ziq Je zjk) YV) Jq) QA) QA) QA) QA) QA) JI) Jh) Jh) Jh) zoE) YU) YU) ZL)))) (Jf (JE (i:=2) ZX.nd rfl (Or.inl rfl) (Jp (Yb (dl (Ja 2)) (dl (Jp (JL (Jb (Jj (Jb Jc Je Jh)) (Jb (Jj (Jb Jc (Jb Jc Je Jh) Jh)) (Jb (Jj (Jb Jc (Jb (Ja 1) Je Jd) Jh)) (Jb (Jj (Jb Jc (Jb (Jx (dl (Ja 1)) (dl Jc)) Je JI) Jh)) (Jb (Jj (Jb Jc (Jb Jc Je Jh) Jh)) (Jb (Jj (Jb Jc (Jb (ZC Jc) Je zoE) Jh)) (Jb (Jj (Jb Jc (Jb JB Je YU) Jh)) (Jb (Jj (Jb JB (Jb Jc Je Jh) YU)) Je Jq) Jq) Jq) Jq) Jq) Jq) Jq) Jq))))))) (Jf (JE (i:=2) ZX.nd rfl (Or.inl rfl) (Jp (Yb (dl (Ja 2)) (dl (Jp (JL (Jb (Jj (Jb (Jj (Jb Jc (Jb Jc Je Jh) Jh)) (Jb J8 Je QA) Jq)) (Jb (Jj (Jb (Jj (Jb (Jj (Jb Jc (Jb Jc Je Jh) Jh)) (Jb J8 Je QA) Jq)) Je Jq)) Je Jq) Jq))))))) (Jg (Jk (Ji h__law_pick hr (Jb (Ja 0) (Jb (Ja 2) Je Jd) Jd))))))),?_⟩
 intro ts n R hl h;obtain⟨bits,rfl,b0,b1,hn,h⟩:=h;have pk:∀{xs:qD} {n:Nat} {R:qN},xs≠[]->xs.length<=1000000->n<=1000000000000->(∀x∈xs,PlnD x)->(∀y,PlnD y->R y (n+1))->Ul [HAND,.list xs] n R:=fun h1 h2 h3 h4 z=>UB h1 h2 h3 fun y hy=>z y (h4 y hy)
 wp_walk using pk ?_ ?_ ?_ ?_ (fun y hy=>?_)
 all_goals first
  | exact cpow (by lia) (by lia)
  | lia
  | (simp;done)
  | exact h _ hy
  | skip
 all_goals
  repeat' first
   | exact Qv
   | exact Qr
   | exact zef
   | exact zee
   | exact plnD_dict
   | exact QL (by decide +kernel)
   | refine JQ ?_ ?_
   | refine QZ ?_ ?_
   | refine JW (by simp) ?_
   | refine Zn (by simp) ?_
theorem zb9:FnScope ["_law_hand_here","_law_bits_here","_law_thing","_law_deep","_law_at","_law_made"] ["_law_hand_here","_law_bits_here","_law_thing","_law_deep"] (Jl (top 35)):=⟨rfl,rfl,rfl,by decide +kernel,rfl,by decide +kernel,by decide +kernel⟩
theorem zjZ{k:Nat}:∀{ts:qD},PyData.canLayAll0 ts=true->PyData.depthAll ts<=k->∀t∈ts,OkK k t
 | [],_,_,t,ht=>nomatch ht
 | x::xs,h1,h2,t,ht=>by
  have a:x.canLay0=true/\PyData.canLayAll0 xs=true:=by simpa[PyData.canLayAll0] using h1
  simp only[PyData.depthAll]at h2;rcases List.mem_cons.mp ht with rfl|z
  ·exact⟨a.1,by lia⟩
  ·exact zjZ a.2 (by lia) t z
theorem zlL{k:Nat}{ts:qD}(h:OkK k (.tuple ts)):∀t∈ts,OkK k t:=zjZ (by simpa only[PyData.canLay0] using h.1) (by have:=h.2;simp only[PyData.depth]at this;lia)
theorem zh7:Okd (.tuple []):=(YQ (k:=0) (ts:=[]) fun t ht=>nomatch ht).okd
theorem ziL{ts:qD}{r:Int}{d:PyData}(h:PlnD (.tuple ts))(r0:0<=r)(r1:r<ts.length)(hd:PlnD d):PlnD (.tuple (cutD ts none (some r)++[d]++cutD ts (some (r+1)) none)):=by
 obtain⟨l,p⟩:=h.tup;have e1:cutD ts none (some r)=ts.take r.toNat:=zgP (by lia)
 have e2:cutD ts (some (r+1)) none=ts.drop (r.toNat+1):=zkB (by lia) (by lia)
 rw[e1,e2];refine JW ?_ (QZ (QZ (fun t ht=>p t (List.mem_of_mem_take ht)) (JQ hd Qv)) fun t ht=>p t (List.mem_of_mem_drop ht))
 rw[List.length_append,List.length_append,List.length_take,List.length_drop];show _+1+_<=_
 lia
def Z4:Nat->GD
 | 0=>fun _ _ _=>False
 | j+1=>fun ts n R=>∃(bits:Int) (d:PyData),ts=[HAND,.int bits,d,.int j]/\0<=bits/\bits<=64/\PlnD d/\OkK 9 d/\n<=1000000000000 - 100 - 3*j/\j<=10/\∀(d':PyData) (m:Nat),PlnD d'->m<=n+3*(j+1)->R d' m
theorem zdh{j:Nat}{bits:Int}{d:PyData}{n:Nat}{R:qN}(b0:0<=bits)(b1:bits<=64)(p:PlnD d)(o:OkK 9 d)(hn:n<=1000000000000 - 100 - 3*j)(hj:j<=10)(h:∀(d':PyData) (m:Nat),PlnD d'->m<=n+3*(j+1)->R d' m):Z4 (j+1) [HAND,.int bits,d,.int j] n R:=⟨bits,d,rfl,b0,b1,p,o,hn,hj,h⟩
def zc0(Z:ZZ):Prop:=FQ Z "_law_put_in" (top 35) ["_law_hand_here","_law_bits_here","_law_thing","_law_deep"] 9 (spD Z.K 4 (Z4 5))
theorem Zs(D:Dq Z.K Z.mg "_law_put_in" (top 35) ["_law_hand_here","_law_bits_here","_law_thing","_law_deep"]) (h__law_take:QQ Z) (h__law_odd:zdo Z) (T:Txt Z.mg) (j:Nat) (h__law_put_in:FQ Z "_law_put_in" (top 35) ["_law_hand_here","_law_bits_here","_law_thing","_law_deep"] (4+j) (spD Z.K 4 (Z4 j))):FQ Z "_law_put_in" (top 35) ["_law_hand_here","_law_bits_here","_law_thing","_law_deep"] (4+j+1) (spD Z.K 4 (Z4 (j+1))):=by
 refine' okQ D zb9 rfl fun f cdv A outer s H E hr=>⟨_,(Jf (Jt (JR (JV (JJ (JK (dl (Qb QY T.isi T.tup Qm (dl (Ja 2)) Jd)))) (JV (Js (Qy hr) Qw (dl (Ja 2)) (dl (Jj Je)) (Jo _)) (JV (Js (Qy hr) Qw (dl (Ja 3)) (dl Jc) (Jo _)) (Qf (Js (Qy hr) Qw (dl (Ji h__law_take hr (Jb (Ja 0) (Jb Jc Je Jh) Jd) (by omega))) (dl Jc) (Jo _))))))) (Jg (Jk (Ji h__law_odd hr (Jb (Ja 0) (Jb (Ja 1) Je Jd) Jd) (by omega)))) Jw) (Jf (JE (i:=4) zb9.nd rfl (Or.inl rfl) (Ji h__law_take hr (Jb (Ja 0) (Jb (JG Qq Qo T.len Qn (Jr (dl (Ja 2)) Jz Jd)) Je JN) Jd) (by omega))) (Jf (JE (i:=5) zb9.nd rfl (Or.inl rfl) (Ji h__law_put_in hr (Jb (Ja 0) (Jb (Ja 1) (Jb (Jn (dl (Ja 2)) (dl (Ja 4))) (Jb (Ya (dl (Ja 3)) (dl Jc)) Je JI) JX) Jd) Jd) (by omega))) (Jg (Jk (Jx (dl (Jx (dl (Qh (dl (Ja 2)) Qc (J4 (Ja 4)))) (dl (Jj (Jb (Ja 5) Je Jd))))) (dl (Qh (dl (Ja 2)) (J4 (Jx (dl (Ja 4)) (dl Jc))) Qc)))))))),?_⟩
 intro ts n R hl h;obtain⟨bits,d,rfl,b0,b1,p,o,hn,hj,h⟩:=h;have od:∀{m:Nat} {R':qN},m<=n+1->(∀d' m',PlnD d'->m'<=n+3*(j+1)->R' d' m')->zdx [HAND,.int bits] m R':=fun hm h'=>zi_ b0 b1 (by lia) fun d' hd=>h' d' _ hd (by lia)
 cases d with
 | dict ks =>
  cases ks with
  | nil =>
   wp_walk using od ?_ (fun d' m' hd hm=>?_)
   ·lia
   ·exact h _ _ hd hm
  | cons a b=>exact absurd rfl p.pln
 | tuple us =>
  obtain⟨lu,pu⟩:=p.tup;have ou:=zlL o
  wp_walk using od ?_ (fun d' m' hd hm=>?_),Ub ?_ ?_ ?_ (fun r r0 r1=>?_)
  all_goals first
   | exact o.okd
   | exact zh7
   | exact h _ _ hd hm
   | decide
   | lia
   | skip
  ·cases us with
   | nil=>rename_i hc _;exact absurd hc (by simp[PyData.eqv,PyData.eqvAll])
   | cons a b=>simp
  ·rename_i ra ra0 ra1 h1 h2;refine zpL r0 r1 fun x hx=>?_
   wp_walk
   obtain⟨j',rfl⟩:∃j',j=j'+1:=⟨j - 1,by lia⟩
   have ej:(((j'+1:Nat):Int)) - 1=(j':Int):=by lia
   rw[ej];refine zdh b0 b1 (pu x hx) (ou x hx) (by lia) (by lia) (fun d' m' hd hm=>?_)
   have l1:=Zg (ts:=us) (lo:=none) (hi:=some r);have l2:=Zg (ts:=us) (lo:=some (r+1)) (hi:=none)
   wp_walk
   ·show _+1<=_;lia
   ·rw[List.length_append];show _+1+_<=_;lia
   ·exact h _ _ (ziL p r0 r1 hd) (by lia)
 | _ =>
  wp_walk using od ?_ (fun d' m' hd hm=>?_)
  ·lia
  ·exact h _ _ hd hm
theorem zeP(D:Dq Z.K Z.mg "_law_put_in" (top 35) ["_law_hand_here","_law_bits_here","_law_thing","_law_deep"]) (h__law_take:QQ Z) (h__law_odd:zdo Z) (T:Txt Z.mg):zc0 Z:=(Zs D h__law_take h__law_odd T 4 (Zs D h__law_take h__law_odd T 3 (Zs D h__law_take h__law_odd T 2 (Zs D h__law_take h__law_odd T 1 (Zs D h__law_take h__law_odd T 0 (zn3 D fun _ _ _ h=>h))))))
theorem UA:FnScope ["_law_hand_here","_law_bits_here","_law_owned","_law_block_here","_law_more","_law_some","_law_pair"] ["_law_hand_here","_law_bits_here","_law_owned"] (Jl (top 36)):=⟨rfl,rfl,rfl,by decide +kernel,rfl,by decide +kernel,by decide +kernel⟩
theorem zga{ts:qD}{lo hi:Option Int}(h:∀t∈ts,PlnD t):∀t∈cutD ts lo hi,PlnD t:=fun t ht=>h t (zis ht)
theorem YS{os:List ((Int×Int)×Str)}(h:∀p∈os,PlnD (.str p.2)):∀t∈oD os,PlnD t:=fun t ht=>by
 obtain⟨p,hp,rfl⟩:=List.mem_map.mp ht;exact Zo (Zo Qr Qr) (h p hp)
theorem zjK{ts:qD}(h:∀t∈ts,PlnD t):∀t∈ts.reverse,PlnD t:=fun t ht=>h t (List.mem_reverse.mp ht)
theorem zjY{os:List ((Int×Int)×Str)}(h:∀p∈os,IsNm p.2):OkK 3 (.tuple (oD os)):=YQ fun t ht=>by
 obtain⟨p,hp,rfl⟩:=List.mem_map.mp ht;exact YQ fun u hu=>by
  simp only[List.mem_cons,List.not_mem_nil,or_false]at hu;rcases hu with rfl|rfl
  ·exact zmy
  ·exact(zpy (h p hp)).mono (by lia)
def zbY:GD:=fun ts n R=>∃(bits:Int) (os:List ((Int×Int)×Str)),ts=[HAND,.int bits,.tuple (oD os)]/\1<=bits/\bits<=64/\os.length<=40/\(∀p∈os,IsBk bits p.1.1 p.1.2/\IsNm p.2)/\n<=1000000000000 - 200/\∀(d:PyData) (m:Nat),PlnD d->m<=n+20->R d m
theorem zb1{bits:Int}{os:List ((Int×Int)×Str)}{n:Nat}{R:qN}(b0:1<=bits)(b1:bits<=64)(l:os.length<=40)(a:∀p∈os,IsBk bits p.1.1 p.1.2/\IsNm p.2)(hn:n<=1000000000000 - 200)(h:∀(d:PyData) (m:Nat),PlnD d->m<=n+20->R d m):zbY [HAND,.int bits,.tuple (oD os)] n R:=⟨bits,os,rfl,b0,b1,l,a,hn,h⟩
def zbW(Z:ZZ):Prop:=FQ Z "_law_owned_spoilt" (top 36) ["_law_hand_here","_law_bits_here","_law_owned"] 5 (spD Z.K 3 zbY)
theorem zcF(D:Dq Z.K Z.mg "_law_owned_spoilt" (top 36) ["_law_hand_here","_law_bits_here","_law_owned"]) (h__law_block:Z6 Z) (h__law_pick:Q6 Z) (h__law_near:zcR Z) (h__law_take:QQ Z) (T:Txt Z.mg):zbW Z:=by
 refine' okQ D UA rfl fun f cdv A outer s H E hr=>⟨_,(Jf (JE (i:=3) UA.nd rfl (Or.inl rfl) (Ji h__law_block hr (Jb (Ja 0) (Jb (Ja 1) Je Jd) Jd))) (Jf (Jt (JR (Yz (Js (QK hr) QG (dl (Ja 2)) (dl (Jj Je)) (Jo _)) (YN (Js Yt gp_B (dl (Ji h__law_take hr (Jb (Ja 0) (Jb Jc Je Jh) Jd))) (dl Jc) (Jo _))))) (Jg (JE (i:=3) UA.nd rfl (Or.inl rfl) (Ji h__law_near hr (Jb (Ja 0) (Jb (Ja 1) (Jb (Jn (dl (Ji h__law_pick hr (Jb (Ja 0) (Jb (Ja 2) Je Jd) Jd))) (dl Jc)) Je JX) Jd) Jd)))) Jw) (Jf (JE (i:=4) UA.nd rfl (Or.inl rfl) (Jx (dl (Ja 2)) (dl (Jj (Jb (Jj (Jb (Ja 3) (Jb J8 Je QA) Jd)) Je Jq))))) (Jf (Ut (i:=5) UA.nd rfl (Or.inl rfl) (JL (Jb (zqH (dl (Ja 2)) (J4 (ZC Jc))) (Jb (Jx (dl (Ja 2)) (dl (Qh (dl (Ja 2)) Qc (J4 Jc)))) (Jb (Jp (zhP T.lst (dl (Ja 2)) Jd)) (Jb (Qh (dl (Ja 2)) (J4 Jc) Qc) Je JX) JN) JI) JX))) (Jf (Ut (i:=5) UA.nd rfl (Or.inl rfl) (Yb (Zb 5) (dl (Jp (JL (Jb (Y0 Zq Zk T.tup Qm (Jr (dl (Jp (zhO hr T.srt (dl (Ja 4)) Jd))) Jz JN)) (Jb (Ja 4) (Jb (Jx (dl (Ja 2)) (dl (Jj (Jb ZD Je ZL)))) Je JI) Jd) JN)))))) (Jf (Qt PassesOwn.never rfl (Qx (Qh (dl (Ja 2)) Qc (J4 Jc))) (Jm (i:=6) UA.nd rfl (Or.inl rfl)) (Jf (Ut (i:=5) UA.nd rfl (Or.inl rfl) (Yb (Zb 5) (dl (Jp (JL (Jb (Jx (dl (Qh (dl (Ja 2)) (J4 Jc) Qc)) (dl (Jj (Jb (Jx (dl (Ja 6)) (dl (Jj (Jb Jc Je Jh)))) Je JI)))) (Jb (Jx (dl (Qh (dl (Ja 2)) (J4 Jc) Qc)) (dl (Jj (Jb (Qh (dl (Ja 6)) Qc (J4 Jc)) Je JX)))) Je JI) JI)))))) (Jf (QR 5 (Jx (dl (Qh (dl (Ja 2)) (J4 Jc) Qc)) (dl (Jj (Jb (Jp (zhP T.lst (dl (Ja 6)) Jd)) Je JN))))) (Jf (QR 5 (Jx (dl (Qh (dl (Ja 2)) (J4 Jc) Qc)) (dl (Jj (Jb (Jj (Jb (Jn (dl (Ja 6)) (dl Jc)) (Jb (Jn (dl (Ja 6)) (dl Jc)) Je JX) JX)) Je Jq))))) (Jg (QR 5 (Jx (dl (Jj (Jb (Jj (Jb (Jn (dl (Ja 6)) (dl Jc)) (Jb J8 Je QA) JX)) Je Jq))) (dl (Qh (dl (Ja 2)) (J4 Jc) Qc))))))))) (YZ 5 (Jg (Jk (Ji h__law_pick hr (Jb (Ja 0) (Jb (Ja 5) Je Jd) Jd))))))))))),?_⟩
 intro ts n R hl h;obtain⟨bits,os,rfl,b0,b1,l,a,hn,h⟩:=h;have ol:(oD os).length<=40:=by rw[JZ];exact l
 have po:∀t∈oD os,PlnD t:=YS fun p hp=>QL (by have:=(a p hp).2.2.1;lia)
 have pk:∀{m:Nat} {R':qN},(PyData.tuple (oD os)).eqv (PyData.tuple [])=false->m<=n+10->(∀i g s,IsBk bits i g->R' (.tuple [.tuple [.int i,.int g],.str s]) (m+1))->Ul [HAND,.tuple (oD os)] m R':=fun ne hm h'=>zgY (fun z=>by rw[z]at ne;simp[PyData.eqv,PyData.eqvAll]at ne) (by lia) (by lia) fun x hx=>by
  obtain⟨p,hp,rfl⟩:=List.mem_map.mp hx;exact h' _ _ _ (a p hp).1
 have c1:=Zg (ts:=oD os) (lo:=none) (hi:=some 1);have c2:=Zg (ts:=oD os) (lo:=some 1) (hi:=none)
 wp_walk using zcx b0 b1 ?_ (fun i g B=>?_),Ub ?_ ?_ ?_ (fun r r0 r1=>?_),pk ?_ ?_ (fun i g s B=>?_),zcW b0 b1 ?_ B (fun i g B=>?_)
 all_goals first
  | lia
  | exact(zjY fun p hp=>(a p hp).2).okd
  | exact zh7
  | decide
  | exact rfl
  | (simp only[List.length_cons,List.length_nil];lia)
  | assumption
  | skip
 all_goals
  have pz:PlnD (.str (Str.ofString "zz")):=QL (by decide +kernel)
  refine⟨os++[((i,g),Str.ofString "zz")],by simp[oD,prD],by simp;lia,fun rs' hp _=>?_⟩
  have pr:∀t∈oD rs',PlnD t:=YS fun p hq=>by
   rcases List.mem_append.mp (hp.mem_iff.mp hq) with z|z
   ·exact QL (by have:=(a p z).2.2.1;lia)
   ·simp only[List.mem_cons,List.not_mem_nil,or_false]at z;subst z;exact pz
  have lr:(oD rs').length<=41:=by rw[JZ,hp.length_eq];simp;lia
  wp_walk
  ·show _+1<=_;lia
  ·show 4+3<=16777216;decide
  have k1:∀t∈cutD (oD os) (some 1) none,PlnD t:=zga po;have k0:∀t∈cutD (oD os) none (some 1),PlnD t:=zga po;generalize hz2:cutD (oD os) none (some 2)=zs;have zl:zs.length<=40:=by rw[<- hz2];exact Nat.le_trans Zg ol
  have zm:∀z∈zs,∃p∈os,z=.tuple [.tuple [.int p.1.1,.int p.1.2],.str p.2]:=fun z hz=>by
   rw[<- hz2]at hz;obtain⟨p,hp,e⟩:=List.mem_map.mp (show z∈os.map _ from zis hz)
   exact⟨p,hp,e.symm⟩
  refine ZE 5 6 (fun k c _ m'=>m'<=n+15/\∃us,c=some (.own us)/\us.length<=7+5*k/\0<us.length/\∀u∈us,PlnD u) ⟨by lia,_,rfl,by simp,by simp,?_⟩ ?_ ?_
  ·refine QZ (JQ (JW ?_ (zjK po)) (JQ (JW ?_ (QZ po k0)) (JQ (Zn ?_ po) (JQ (JW ?_ k1) Qv)))) (JQ (JW ?_ pr) (JQ (JW ?_ (QZ po (JQ (Zo (Zo Qr Qr) pz) Qv))) (JQ (JW ?_ (QZ po (JQ zee Qv))) Qv)))
   ·rw[List.length_reverse];lia
   ·rw[List.length_append];lia
   ·lia
   ·lia
   ·lia
   ·rw[List.length_append];show _+1<=_;lia
   ·rw[List.length_append];show _+1<=_;lia
  ·rintro k z _ _ m' K RT BK et ⟨hm',us,rfl,ul,u0,up⟩ hK hRT hBK;have k40:=(List.getElem?_eq_some_iff.mp et).1;obtain⟨p,hp,rfl⟩:=zm z (List.mem_of_getElem? et);have p1:PlnD (.tuple [.int p.1.1,.int p.1.2]):=Zo Qr Qr;have p2:PlnD (.str p.2):=QL (by have:=(a p hp).2.2.1;lia)
   wp_walk
   all_goals first
    | (simp only[List.length_append,List.length_cons,List.length_nil];lia)
    | skip
   refine hK _ _ _ ⟨hm',_,rfl,by simp only[List.length_append,List.length_cons,List.length_nil];lia,by simp only[List.length_append,List.length_cons,List.length_nil];lia,?_⟩
   repeat' first
    | exact up
    | exact k1
    | exact p1
    | exact p2
    | exact pz
    | exact Qv
    | exact Qr
    | refine JQ ?_ ?_
    | refine QZ ?_ ?_
    | refine JW (by simp only[List.length_append,List.length_cons,List.length_nil];lia) ?_
    | refine Zn (by simp only[List.length_append,List.length_cons,List.length_nil];lia) ?_
    | refine JW (by decide) ?_
  ·rintro _ _ m' ⟨hm',us,rfl,ul,u0,up⟩
   wp_walk
   exact UB (List.length_pos_iff.mp u0) (by lia) (by lia) fun x hx=>h _ _ (up x hx) (by lia)
theorem UD:FnScope ["_law_hand_here","_law_deal_here","_law_bits_here","_law_outs","_law_kept","_law_way","_law_some"] ["_law_hand_here","_law_deal_here"] (Jl (top 37)):=⟨rfl,rfl,rfl,by decide +kernel,rfl,by decide +kernel,by decide +kernel⟩
theorem zfw{x y z:PyData}(h:PlnD x)(h':PlnD y)(h'':PlnD z):PlnD (.tuple [x,y,z]):=JW (by simp) (JQ h (JQ h' (JQ h'' Qv)))
def zdb:GD:=fun ts n R=>∃d:Deal,ts=[HAND,dlD d]/\Dl d/\d.2.1.length<=40/\d.2.2.length<=40/\n<=1000000000000 - 1000/\∀(t:PyData) (m:Nat),PlnD t->m<=n+30->R t m
theorem zfV{d:Deal}{n:Nat}{R:qN}(D:Dl d)(l1:d.2.1.length<=40)(l2:d.2.2.length<=40)(hn:n<=1000000000000 - 1000)(h:∀(t:PyData) (m:Nat),PlnD t->m<=n+30->R t m):zdb [HAND,dlD d] n R:=⟨d,rfl,D,l1,l2,hn,h⟩
def zcZ(Z:ZZ):Prop:=FQ Z "_law_spoilt" (top 37) ["_law_hand_here","_law_deal_here"] 10 (spD Z.K 2 zdb)
theorem zeO(D:Dq Z.K Z.mg "_law_spoilt" (top 37) ["_law_hand_here","_law_deal_here"]) (h__law_take:QQ Z) (h__law_put_in:zc0 Z) (h__law_pick:Q6 Z) (h__law_owned_spoilt:zbW Z) (T:Txt Z.mg):zcZ Z:=by
 refine' okQ D UD rfl fun f cdv A outer s H E hr=>⟨_,(Jf (Ud (Ja 1) (Qe rfl (Ju (Jm (i:=2) UD.nd rfl (Or.inl rfl)) (Ju (Jm (i:=3) UD.nd rfl (Or.inl rfl)) (Ju (Jm (i:=4) UD.nd rfl (Or.inl rfl)) Qd))))) (Jf (JE (i:=5) UD.nd rfl (Or.inl rfl) (Ji h__law_take hr (Jb (Ja 0) (Jb Jc Je Jh) Jd))) (Jf (Jt (Js (Qy hr) Qw (dl (Ja 5)) (dl Jc) (Jo _)) (Jf (JE (i:=6) UD.nd rfl (Or.inl rfl) (Jp (JL (Jb (Jj (Jb Jc (Jb (Ja 3) (Jb (Ja 4) Je Jd) Jd) Jh)) (Jb (Jj (Jb Jc (Jb (Ja 3) (Jb (Ja 4) Je Jd) Jd) Jh)) (Jb (Jj (Jb JB (Jb (Jj Je) (Jb (Jj Je) Je Jq) Jq) YU)) (Jb (Jj (Jb (Ja 2) (Jb (Ja 3) Je Jd) Jd)) Je Jq) Jq) Jq) Jq)))) (Jf (JE (i:=6) UD.nd rfl (Or.inl rfl) (Jp (Yb (dl (Ja 6)) (dl (Jp (JL (Jb (Jx (dl (Ja 1)) (dl (Jj (Jb (Jj Je) Je Jq)))) (Jb (Jp (zhP T.lst (dl (Ja 1)) Jd)) (Jb (Jj (Jb (Ja 1) Je Jd)) (Jb (Jj (Jb (Ja 2) (Jb (Ja 4) (Jb (Ja 3) Je Jd) Jd) Jd)) Je Jq) Jq) JN) JI))))))) (Jf (JE (i:=6) UD.nd rfl (Or.inl rfl) (Jp (Yb (dl (Ja 6)) (dl (Jp (JL (Jb (Jj (Jb (Jx (dl (Ja 2)) (dl Jc)) (Jb (Ja 3) (Jb (Ja 4) Je Jd) Jd) JI)) (Jb (Jj (Jb (Ya (dl (Ja 2)) (dl Jc)) (Jb (Ja 3) (Jb (Ja 4) Je Jd) Jd) JI)) (Jb (Jj (Jb J8 (Jb (Ja 3) (Jb (Ja 4) Je Jd) Jd) QA)) Je Jq) Jq) Jq))))))) (Jg (Jk (Ji h__law_pick hr (Jb (Ja 0) (Jb (Ja 6) Je Jd) Jd))))))) Jw) (Jf (Jt (Js (Qy hr) Qw (dl (Ja 5)) (dl Jc) (Jo _)) (Jg (Jk (Jj (Jb (Ja 2) (Jb (Ji h__law_owned_spoilt hr (Jb (Ja 0) (Jb (Ja 2) (Jb (Ja 3) Je Jd) Jd) Jd)) (Jb (Ja 4) Je Jd) JN) Jd)))) Jw) (Jf (Jt (Js (Qy hr) Qw (dl (Ja 5)) (dl Jc) (Jo _)) (Jg (Jk (Jj (Jb (Ja 2) (Jb (Ja 3) (Jb (Ji h__law_owned_spoilt hr (Jb (Ja 0) (Jb (Ja 2) (Jb (Ja 4) Je Jd) Jd) Jd)) Je JN) Jd) Jd)))) Jw) (Jg (Jk (Ji h__law_put_in hr (Jb (Ja 0) (Jb (Ja 2) (Jb (Ja 1) (Jb Jc Je Jh) Jd) Jd) Jd))))))))),?_⟩
 intro ts n R hl h;obtain⟨⟨bits,os,ks⟩,rfl,⟨b0,b1,S1,S2,A⟩,l1,l2,hn,h⟩:=h;have b0:1<=bits:=b0;have b1:bits<=64:=b1;have l1:os.length<=40:=l1;have l2:ks.length<=40:=l2;have bk:∀{ps:List ((Int×Int)×Str)},Shr bits ps->∀p∈ps,IsBk bits p.1.1 p.1.2/\IsNm p.2:=fun S p hp=>⟨S.1.1 p.1 (List.mem_map.mpr ⟨p,hp,rfl⟩),S.2 p hp⟩
 have q1:PlnD (.tuple (oD os)):=JW (by rw[JZ];lia) (YS fun p hp=>QL (by have:=(S1.2 p hp).2.1;lia))
 have q2:PlnD (.tuple (oD ks)):=JW (by rw[JZ];lia) (YS fun p hp=>QL (by have:=(S2.2 p hp).2.1;lia))
 have e:dlD (bits,os,ks)=.tuple [.int bits,.tuple (oD os),.tuple (oD ks)]:=rfl;rw[e]
 wp_walk using Ub ?_ ?_ ?_ (fun r r0 r1=>?_)
 ·decide
 ·decide
 ·lia
 ·show 3+1<=16777216;decide
 ·show 4+4<=16777216;decide
 ·simp only[List.length_append,List.length_cons,List.length_nil];decide
 ·refine UB (by simp) (by simp only[List.length_append,List.length_cons,List.length_nil];decide) (by lia) fun x hx=>h x _ ?_ (by lia)
  revert x hx
  repeat' first
   | exact q1
   | exact q2
   | exact Qv
   | exact Qr
   | exact zef
   | exact QL (by decide +kernel)
   | refine JQ ?_ ?_
   | refine QZ ?_ ?_
   | refine JW (by simp) ?_
   | refine Zn (by simp) ?_
 ·refine zb1 b0 b1 l1 (bk S1) (by lia) fun t m ht hm=>?_
  wp_walk
  exact h _ _ (zfw Qr ht q2) (by lia)
 ·refine zb1 b0 b1 l2 (bk S2) (by lia) fun t m ht hm=>?_
  wp_walk
  exact h _ _ (zfw Qr q1 ht) (by lia)
 ·refine zdh (j:=4) (by lia) b1 (zfw Qr q1 q2) ?_ (by lia) (by lia) fun t m ht hm=>h _ _ ht (by lia)
  refine(YQ (k:=3) fun u hu=>?_).mono (by lia)
  simp only[List.mem_cons,List.not_mem_nil,or_false]at hu;rcases hu with rfl|rfl|rfl
  ·exact zj0.mono (by lia)
  ·exact zjY S1.2
  ·exact zjY S2.2
theorem QX:FnScope ["_law_script","_law_k","_law_hand_here","_law_turn","_law_deal_here","_law_names_here","_law_some","_law_more","_law_thing","_law_found"] ["_law_script"] (Jl (top 38)):=⟨rfl,rfl,rfl,by decide +kernel,rfl,by decide +kernel,by decide +kernel⟩
theorem zpu{f:Addr}{fd:FuncData}(D:Def Z.K Z.mg "law" (top 38) ["_law_script"] f fd) (h__law_hand:zd_ Z) (h__law_case:zeb Z) (h_is_deal:zf_ Z) (h__law_spoilt:zcZ Z) (h__law_due:ze8 Z) (T:Txt Z.mg):FnOk Z.P Z.w Z.K Z.mg Z.base CX0 11 f fd ["_law_script"] (spD Z.K 1 zqv):=by
 refine D.okD QX rfl fun cdv A outer s H E hr=>?_
 refine'⟨_,(Jf (Qt PassesOwn.never rfl (Zj T.ran (JG (zgU rfl) zmH T.max zg2 (Jr (dl Jc) (Jr (dl (JG (zgT rfl) zmG T.min zg1 (Jr (dl Jc) (Jr (dl (JG Qq Qo T.len Qn (Jr (dl (Ja 0)) Jz Jd))) Jz JN) Jh))) Jz JN) Jh))) (Jm (i:=1) QX.nd rfl (Or.inl rfl)) (zks (i:=2) (j:=1) h__law_hand hr QX.nd rfl (Or.inl rfl) (Jg (Qt PassesOwn.never rfl (Zj T.ran Jc) (Jm (i:=3) QX.nd rfl (Or.inl rfl)) (Jf (Ud (Ji h__law_case hr (Jb (Ja 2) Je Jd)) (Qe rfl (Ju (Jm (i:=4) QX.nd rfl (Or.inl rfl)) (Ju (Jm (i:=5) QX.nd rfl (Or.inl rfl)) Qd)))) (Jf (Ut (i:=6) QX.nd rfl (Or.inl rfl) (JL (Jb ZD (Jb JB (Jb Jc (Jb J8 (Jb (Jp (JL Je)) (Jb ziq (Jb (Jj Je) (Jb (Jj (Jb (Jj Je) Je Jq)) (Jb (Jj (Jb Jc (Jb (Jj Je) (Jb ZD Je ZL) Jq) Jh)) (Jb (Jj (Jb Jc (Jb (Jj Je) Je Jq) Jh)) (Jb (Jj (Jb J8 (Jb (Jj Je) (Jb (Jj Je) Je Jq) Jq) QA)) Je Jq) Jq) Jq) Jq) Jq) zjk) YV) QA) Jh) YU) ZL))) (Jf (Qt PassesOwn.never rfl (Zj T.ran Jc) (Jm (i:=7) QX.nd rfl (Or.inl rfl)) (Jg (QR 6 (Ji h__law_spoilt hr (Jb (Ja 2) (Jb (Ja 4) Je Jd) Jd))))) (YZ 6 (Jf (Qt PassesOwn.never rfl (Zf (Ja 6)) (Jm (i:=8) QX.nd rfl (Or.inl rfl)) (Jf (JE (i:=9) QX.nd rfl (Or.inl rfl) (Ji h_is_deal hr (Jb (Ja 8) Je Jd))) (Jg (Jt (JR (JV (JJ (JK (dl (Qb zhN T.isi T.boo zdB (dl (Ja 9)) Jd)))) (Qf (Js (QK hr) QG (dl (Ja 9)) (dl (Ji h__law_due hr (Jb (Ja 8) Je Jd))) (Jo _))))) (Jg (Jk JB)) Jw)))) (Jg (Jt (Js znp znZ (dl (Ji h_is_deal hr (Jb (Ja 4) Je Jd))) (dl JB) (Jo _)) (Jg (Jk JB)) Jw))))))))))) (Jg (Jk JB))),?_⟩
 intro ts n R hl hh;obtain⟨ns,rfl,hl63,hh⟩:=hh
 wp_walk
 ·split <;> (try split) <;> lia
 ·split <;> (try split) <;> lia
 refine Ui (fun _ ρ m=>∃a1 a2 a3 a4 a5 a6 a7 a8 a9,ρ=[some (.val (SCR ns)),a1,a2,a3,a4,a5,a6,a7,a8,a9]/\m=n) ⟨_,_,_,_,_,_,_,_,_,rfl,rfl⟩ ?_ ?_
 ·rintro k t ρ m K et ⟨a1,a2,a3,a4,a5,a6,a7,a8,a9,rfl,rfl⟩ hK;obtain⟨hk,rfl⟩:=ze5 et;have hk8:k<8:=by
   revert hk;split <;> (try split) <;> lia
  with_reducible refine Stp.go ?_
  refine zl2 hl63 (by lia) (by lia) fun NX RT BK CT hNX hRT hBK hCT=>?_
  wp_walk
  ·decide
  ·decide
  generalize hts:Qk 0 (Int.toNat 2)=us2;have h2:us2.length=2:=by rw[<- hts,ze4];rfl
  refine zqy 3 4 5 6 7 8 9 (fun k _ _ _ _ _ _ _ m'=>m'<=21000*k) (Nat.zero_le _) ?_ ?_
  ·rintro j t2 _ _ _ _ _ _ _ m' K2 RT2 BK2 et2 hm' hK2 hRT2 hBK2;have j2:=(List.getElem?_eq_some_iff.mp et2).1
   wp_walk using zhT ?_ (fun d nms m3 D ne nl nk l1 l2 pn hm3=>?_)
   ·lia
   ·decide
   ·decide
   have pd:PlnD (dlD d):=JW (by simp) (JQ Qr (JQ (JW (by rw[JZ];lia) (YS fun p hp=>QL (by have:=(D.2.2.1.2 p hp).2.1;lia))) (JQ (JW (by rw[JZ];lia) (YS fun p hp=>QL (by have:=(D.2.2.2.1.2 p hp).2.1;lia))) Qv)))
   generalize hts3:Qk 0 (Int.toNat 10)=us3;have h3:us3.length=10:=by rw[<- hts3,ze4];rfl
   refine ZE 6 7 (fun k c _ m4=>m4<=m3+30*k/\∃us,c=some (.own us)/\us.length=11+k/\∀u∈us,PlnD u) ⟨by lia,_,rfl,rfl,?_⟩ ?_ ?_
   ·repeat' first
     | exact Qv
     | exact Qr
     | exact zef
     | exact zee
     | exact plnD_dict
     | exact QL (by decide +kernel)
     | refine JQ ?_ ?_
     | refine JW (by simp) ?_
     | refine Zn (by simp) ?_
   ·rintro j3 t3 _ _ m4 K3 RT3 BK3 et3 ⟨hm4,us,rfl,ul,up⟩ hK3 hRT3 hBK3;have j10:=(List.getElem?_eq_some_iff.mp et3).1
    wp_walk using zfV D l1 l2 ?_ (fun t m5 pt hm5=>?_)
    ·lia
    ·lia
    ·exact hK3 _ _ _ ⟨by lia,_,rfl,by simp;lia,QZ up (JQ pt Qv)⟩
   ·rintro _ _ m4 ⟨hm4,us,rfl,ul,up⟩
    wp_walk
    refine ZE 8 9 (fun _ _ _ m5=>m5=m4) rfl ?_ ?_
    ·rintro j4 t4 _ _ m5 K4 RT4 BK4 et4 rfl hK4 hRT4 hBK4;have pt:=up t4 (List.mem_of_getElem? et4)
     wp_walk using zkO pt (fun b hb=>?_),zja pt (fun b' hb'=>?_)
     ·exact hK4 _ _ _ rfl
     ·exact absurd (Bool.eq_iff_iff.mpr (hb.trans hb'.symm)) hc
    ·rintro _ _ m5 rfl;have dT:∀{n:Nat} {R:qN},R (.bool true) n->ZP [dlD d] n R:=fun {n R} z=>zi8 pd ⟨d,rfl,D⟩ z
     wp_walk using dT ?_
     exact hK2 _ _ _ _ _ _ _ _ (by lia)
  ·rintro _ _ _ _ _ _ _ m' hm'
   wp_walk
   exact hNX _ _ (hK _ _ ⟨_,_,_,_,_,_,_,_,_,rfl,rfl⟩)
 ·rintro ρ m ⟨a1,a2,a3,a4,a5,a6,a7,a8,a9,rfl,rfl⟩
  wp_walk
  exact hh _
end
section
open PySem.W PyProof.Rows
def pw:Program:=PySem.Challenge.pw_blockdeal_k22_what_is_no_deal
def zsh:Stmt->Bool
 | .FunctionDef ..=>true
 | .Assign [.Name x _] _ _=>!(x == Str.ofString "__name__")
 | _=>false
def qv:Program:={ pw with main:={ pw.main with body:=pw.main.body.filter zsh } }
theorem zm4:recsOf qv=(pw.main.body.filter ZF).map recD:=by kernel_rfl
theorem zmz{i:Nat}(h:ZF (top i)=true):recD (top i)∈recsOf qv:=by
 rw[zm4];exact List.mem_map_of_mem (List.mem_filter.mpr ⟨getD_mem h,h⟩)
theorem dqG{i:Nat}{x:Str}{ps:List Str}{mean:ExcName->Option Value}{mg mb:qM}{h:Heap}(T:PyProof.Rows.Top qv (looseW qv []) mean mg mb h)(hb:BndA x (top i) ps)(h1:ZF (top i)=true:=by kernel_rfl)(h2:defName (top i)=x:=by kernel_rfl):Dq (Qp h) mg x (top i) ps:=dq_g T (zmz h1) h2 hb
def zqw:List Str:=[Str.ofString "isinstance",Str.ofString "int",Str.ofString "bool",Str.ofString "tuple",Str.ofString "len",Str.ofString "min",Str.ofString "max",Str.ofString "str",Str.ofString "repr",Str.ofString "all",Str.ofString "any",Str.ofString "range",Str.ofString "sum",Str.ofString "sorted",Str.ofString "list",Str.ofString "abs",Str.ofString "zip",Str.ofString "dict",Str.ofString "reversed",Str.ofString "enumerate"]
def zqx(x:Str):Bool:=!startupNames.contains x&&!(looseW qv []).contains x&&!((recsOf qv).map (·.name)).contains x&&!((litsOf qv).map (·.1)).contains x&&!((clssOf qv (looseW qv [])).map (·.name)).contains x
theorem zn1:zqw.all zqx=true:=by kernel_rfl
theorem zn2{mean:ExcName->Option Value}{mg mb:qM}{h:Heap}(T:PyProof.Rows.Top qv (looseW qv []) mean mg mb h){x:Str}(m:x∈zqw):mg x=none:=by
 have e:=List.all_eq_true.mp zn1 x m;unfold zqx at e;simp only[Bool.and_eq_true,Bool.not_eq_true',List.contains_eq_mem,decide_eq_false_iff_not]at e;obtain⟨⟨⟨⟨a,b⟩,c⟩,d⟩,f⟩:=e;exact T.free x a b c d f
theorem zoz{mean:ExcName->Option Value}{mg mb:qM}{h:Heap}(T:PyProof.Rows.Top qv (looseW qv []) mean mg mb h):Txt mg:=by
 constructor <;> exact zn2 T (List.contains_iff_mem.mp (by kernel_rfl))
theorem zm0:PySem.Challenge.rw_blockdeal_k22_what_is_no_deal.wellSaid=true:=by kernel_rfl
theorem znE:LeftO pw qv [] (fun s=>xlAt qv [] s&&recOk (RowW.records PySem.Challenge.rw_blockdeal_k22_what_is_no_deal.row.toRowW) s) (Hook.obs Hook.none) (Hook.val Hook.none) 20000:=fun w=>by kernel_rfl
theorem zqQ{mean:ExcName->Option Value}{mg mb:qM}{h:Heap}{w:World}{fa:Addr}(T0:PyProof.Rows.Top qv (looseW qv []) mean mg mb h)(hfa:mg (defName (top 38))=some (.ref fa)) :
  ∃fd:FuncData,(∀(s:Shared) (v:Value),BindsTo s fd ⟨[v],[]⟩ [("_law_script",v)])/\∀base:Heap,(Qp h).In base->base.Ns mainGlobals mg->FnOk PySem.Challenge.rw_blockdeal_k22_what_is_no_deal.prog w (Qp h) mg base CX0 11 fa fd ["_law_script"] (zmX (Qp h)):=by
 have T:=zoz T0;obtain⟨f,fd,DL⟩:=dq_g (x:="law") (ps:=["_law_script"]) T0 (zmz (i:=38) (by kernel_rfl)) (by kernel_rfl) fun _ _ _ _ _ _ us hl=>by obtain⟨_,rfl⟩:=len1 hl;rfl
 have e0:Value.ref f=Value.ref fa:=Option.some.inj (DL.m.symm.trans hfa);cases e0;refine⟨fd,fun s v=>?_,fun base _ _=>?_⟩
 ·obtain⟨oc,od,kV,doc,pm,an,cdv,ct,osl,rfl,_,_⟩:=DL.F.ex;exact .of_eq rfl
 let Z:ZZ:=⟨PySem.Challenge.rw_blockdeal_k22_what_is_no_deal.prog,w,Qp h,mg,base⟩
 have h_is_whole:=zhg (Z:=Z) (dqG (i:=1) T0 (bnd1 fun _ _ _ _ _ _ _=>rfl))  T
 have h_is_block:=zhi (Z:=Z) (dqG (i:=2) T0 (bnd2 fun _ _ _ _ _ _ _ _=>rfl)) h_is_whole T
 have h_size_of:=ziP (Z:=Z) (dqG (i:=3) T0 (bnd1 fun _ _ _ _ _ _ _=>rfl))  T
 have h_around:=zjX (Z:=Z) (dqG (i:=6) T0 (bnd2 fun _ _ _ _ _ _ _ _=>rfl))  T
 have h_holds:=zlI (Z:=Z) (dqG (i:=4) T0 (bnd2 fun _ _ _ _ _ _ _ _=>rfl)) h_around T
 have h_apart:=zlJ (Z:=Z) (dqG (i:=5) T0 (bnd2 fun _ _ _ _ _ _ _ _=>rfl)) h_holds T
 have h_is_name:=ziR (Z:=Z) (dqG (i:=8) T0 (bnd1 fun _ _ _ _ _ _ _=>rfl))  T
 have h_end_of:=zjW (Z:=Z) (dqG (i:=11) T0 (bnd1 fun _ _ _ _ _ _ _=>rfl)) h_size_of T
 have h_is_patch:=zhh (Z:=Z) (dqG (i:=10) T0 (bnd2 fun _ _ _ _ _ _ _ _=>rfl)) h_is_block h_end_of T
 have h_all_blocks:=zfB (Z:=Z) (dqG (i:=17) T0 (bnd1 fun _ _ _ _ _ _ _=>rfl))  T
 have h_is_pair:=ziQ (Z:=Z) (dqG (i:=15) T0 (bnd1 fun _ _ _ _ _ _ _=>rfl))  T
 have h_are_shares:=zfA (Z:=Z) (dqG (i:=14) T0 (bnd2 fun _ _ _ _ _ _ _ _=>rfl)) h_is_patch h_all_blocks h_is_name h_is_pair T
 have h_agree:=zlK (Z:=Z) (dqG (i:=16) T0 (bnd2 fun _ _ _ _ _ _ _ _=>rfl)) h_end_of h_apart T
 have h_is_deal:=ziS (Z:=Z) (dqG (i:=13) T0 (bnd1 fun _ _ _ _ _ _ _=>rfl)) h_are_shares h_agree h_is_whole T
 have h__law_hand:=zfz (Z:=Z) (dqG (i:=19) T0 (bnd2 fun _ _ _ _ _ _ _ _=>rfl))  T
 have h__law_take:=zfy (Z:=Z) (dqG (i:=20) T0 (bnd2 fun _ _ _ _ _ _ _ _=>rfl))  T
 have h__law_pick:=zgh (Z:=Z) (dqG (i:=21) T0 (bnd2 fun _ _ _ _ _ _ _ _=>rfl)) h__law_take T
 have h__law_bits:=zgn (Z:=Z) (dqG (i:=22) T0 (bnd1 fun _ _ _ _ _ _ _=>rfl)) h__law_pick T
 have h__law_block:=zfF (Z:=Z) (dqG (i:=23) T0 (bnd2 fun _ _ _ _ _ _ _ _=>rfl)) h__law_pick h__law_take T
 have h__law_near:=zgj (Z:=Z) (dqG (i:=24) T0 (bnd3 fun _ _ _ _ _ _ _ _ _=>rfl)) h__law_pick h__law_block T
 have h__law_blocks:=zeQ (Z:=Z) (dqG (i:=25) T0 (bnd3 fun _ _ _ _ _ _ _ _ _=>rfl)) h__law_take h__law_block h__law_near h__law_pick T
 have h__law_patch:=zfD (Z:=Z) (dqG (i:=26) T0 (bnd3 fun _ _ _ _ _ _ _ _ _=>rfl)) h__law_blocks T
 have h__law_names:=zfE (Z:=Z) (dqG (i:=27) T0 (bnd2 fun _ _ _ _ _ _ _ _=>rfl)) h__law_take h__law_pick T
 have h__law_deal:=zgl (Z:=Z) (dqG (i:=28) T0 (bnd4 fun _ _ _ _ _ _ _ _ _ _=>rfl)) h__law_patch h__law_pick h__law_take T
 have h__law_case:=zgm (Z:=Z) (dqG (i:=29) T0 (bnd1 fun _ _ _ _ _ _ _=>rfl)) h__law_bits h__law_names h__law_deal h__law_take T
 have h__law_whole:=zfC (Z:=Z) (dqG (i:=30) T0 (bnd3 fun _ _ _ _ _ _ _ _ _=>rfl))  T
 have h__law_is_pair:=zei (Z:=Z) (dqG (i:=31) T0 (bnd2 fun _ _ _ _ _ _ _ _=>rfl)) h__law_whole T
 have h__law_over:=zgi (Z:=Z) (dqG (i:=32) T0 (bnd2 fun _ _ _ _ _ _ _ _=>rfl))  T
 have h__law_due:=zhk (Z:=Z) (dqG (i:=33) T0 (bnd1 fun _ _ _ _ _ _ _=>rfl)) h__law_whole h__law_over h__law_is_pair T
 have h__law_odd:=zhj (Z:=Z) (dqG (i:=34) T0 (bnd2 fun _ _ _ _ _ _ _ _=>rfl)) h__law_pick T
 have h__law_put_in:=zeP (Z:=Z) (dqG (i:=35) T0 (bnd4 fun _ _ _ _ _ _ _ _ _ _=>rfl)) h__law_take h__law_odd T
 have h__law_owned_spoilt:=zcF (Z:=Z) (dqG (i:=36) T0 (bnd3 fun _ _ _ _ _ _ _ _ _=>rfl)) h__law_block h__law_pick h__law_near h__law_take T
 have h__law_spoilt:=zeO (Z:=Z) (dqG (i:=37) T0 (bnd2 fun _ _ _ _ _ _ _ _=>rfl)) h__law_take h__law_put_in h__law_pick h__law_owned_spoilt T
 exact(zpu (Z:=Z) DL h__law_hand h__law_case h_is_deal h__law_spoilt h__law_due T).imp znG
end
end Bd
open PySem PySem.W PyProof.Rows
set_option maxRecDepth 100000 in
set_option maxHeartbeats 0 in
theorem PySem.Challenge.cw_blockdeal_k22_what_is_no_deal_holds : PySem.Challenge.rw_blockdeal_k22_what_is_no_deal.Holds := by
 w_on
 refine holds_law Bd.zm0 fun said=>?_
 refine holds_open (r:=PySem.Challenge.rw_blockdeal_k22_what_is_no_deal.row) (d:=Bd.recD (Bd.top 38)) (kwd:=[]) Bd.znE (Hook.of Hook.none) (Hook.keeps Hook.none) (fun s e=>xl_of s (Bool.and_eq_true_iff.mp e).1) XL.keeps (by kernel_rfl) (by kernel_rfl) (by kernel_rfl) (fun s e=>recFacts_of (Bool.and_eq_true_iff.mp e).2) (by kernel_rfl) said (by kernel_rfl) ⟨rfl,rfl,rfl,rfl,rfl,by decide +kernel⟩ ?hw ?hc
 case hw=>w_witness2
 case hc=>exact Bd.zrv (lw:=PySem.Challenge.rw_blockdeal_k22_what_is_no_deal) (k:=11) (by decide) rfl rfl fun w s₀ mg mb fa h G hmg=>Bd.zqQ G.T hmg
