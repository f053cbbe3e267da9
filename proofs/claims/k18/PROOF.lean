import PyProof.Rows.All
import Wide.All
import OpenK.AllK
import Wide.FinOn
import Lean
import PyProof.EqAt
import PyProof.EqKinds
import PyProof.TupleCall
import PySem.Challenge.RW_blockdeal_k18_papers_spoilt
local macro_rules | `(tactic| walk_at "V") => `(tactic| first | exact Or.inl rfl | exact Or.inr (Or.inl rfl) | exact Or.inr (Or.inr rfl))
local macro_rules | `(tactic| walk_at "F") => `(tactic| first | exact .inl rfl | exact .inr rfl | assumption)
abbrev qF:=PySem.W.Frag
abbrev qB:=List (Int×Int)
abbrev qN:=PySem.PyData->Nat->Prop
abbrev qM:=PySem.Str->Option PySem.Value
abbrev qV:=PySem.Value->PySem.Shared->Prop
abbrev qD:=List PySem.PyData
abbrev qO:=List (PySem.Addr×PySem.Obj)
set_option Elab.async false
set_option linter.all false
set_option maxRecDepth 100000
set_option maxHeartbeats 4000000
namespace L2
open PySem PySem.Spec PyProof.Rows
abbrev Key:=Sum Int Str
def Yz:Key->Value->Bool
 | .inl k,v=>Value.isInt k v
 | .inr x,v=>Value.isStrOf x v
def keyH(w:World):Key->Int
 | .inl k=>hashInt k
 | .inr x=>hashStr w x
theorem Ud:∀{k:Key}{v:Value},Yz k v=true->(∃i t,k=Sum.inl i/\v=Value.int i t)\/(∃x t,k=Sum.inr x/\v=Value.str x t)
 | .inl i,v,h=>by
  obtain⟨t,e⟩:=Value.isInt_shape (k:=i) (v:=v) h;exact .inl ⟨i,t,rfl,e⟩
 | .inr x,v,h=>by
  obtain⟨t,e⟩:=Value.isStrOf_shape (x:=x) (v:=v) h;exact .inr ⟨x,t,rfl,e⟩
theorem zlI(i:Int)(t:Tok):Yz (.inl i) (.int i t)=true:=by simp[Yz,Value.isInt]
theorem zlH(x:Str)(t:Tok):Yz (.inr x) (.str x t)=true:=by simp[Yz,Value.isStrOf]
theorem zrg(a b:Int):decide ((Sum.inl a:Key)=Sum.inl b)=(a == b):=by
 by_cases e:a=b
 ·subst e;simp
 ·have h:¬(Sum.inl a:Key)=Sum.inl b:=fun q=>e (Sum.inl.inj q)
  rw[decide_eq_false h];exact(beq_eq_false_iff_ne.mpr e).symm
theorem zrd(a b:Str):decide ((Sum.inr a:Key)=Sum.inr b)=decide (a=b):=by
 by_cases e:a=b
 ·subst e;simp
 ·have h:¬(Sum.inr a:Key)=Sum.inr b:=fun q=>e (Sum.inr.inj q)
  rw[decide_eq_false h,decide_eq_false e]
theorem zrf(a:Int)(b:Str):decide ((Sum.inl a:Key)=Sum.inr b)=false:=decide_eq_false (fun q=>nomatch q)
theorem zre(a:Str)(b:Int):decide ((Sum.inr a:Key)=Sum.inl b)=false:=decide_eq_false (fun q=>nomatch q)
def JJ(prog:Program)(w:World):PySem.KeyKind prog w Key where
 is:=Yz
 hash:=keyH w
 inj:=fun v a b ha hb=>by
  rcases Ud ha with⟨i,t,rfl,rfl⟩|⟨x,t,rfl,rfl⟩
  ·rcases Ud hb with⟨j,u,rfl,e⟩|⟨y,u,rfl,e⟩
   ·injection e with e1 _;rw[e1]
   ·exact nomatch e
  ·rcases Ud hb with⟨j,u,rfl,e⟩|⟨y,u,rfl,e⟩
   ·exact nomatch e
   ·injection e with e1 _;rw[e1]
 byValue:=fun k v h=>by
  rcases Ud h with⟨i,t,rfl,rfl⟩|⟨x,t,rfl,rfl⟩ <;> rfl
 pyHash:=fun hv h=>by
  rcases Ud hv with⟨i,t,rfl,rfl⟩|⟨x,t,rfl,rfl⟩
  ·exact wpAny_pyHash_int h
  ·exact wpAny_pyHash_str h
 eqBool:=fun hu hv h=>by
  rcases Ud hu with⟨i,t,rfl,rfl⟩|⟨x,t,rfl,rfl⟩
  ·rcases Ud hv with⟨j,u,rfl,rfl⟩|⟨y,u,rfl,rfl⟩
   ·rw[zrg]at h;exact wpAny_eqBool_int h
   ·rw[zrf]at h;exact SeqAt.EqAt.int_str i t y u _ _ _ _ h
  ·rcases Ud hv with⟨j,u,rfl,rfl⟩|⟨y,u,rfl,rfl⟩
   ·rw[zre]at h;exact SeqAt.EqAt.str_int x t j u _ _ _ _ h
   ·rw[zrd]at h;exact wpAny_eqBool_str h
 «strs»:=fun k x t v h=>by
  rcases Ud h with⟨i,u,rfl,e⟩|⟨y,u,rfl,e⟩
  ·exact nomatch e
  ·injection e with e1 _
   subst e1;cases v <;> rfl
theorem zis(prog:Program)(w:World)(i:Int)(t:Tok):(JJ prog w).is (.inl i) (.int i t)=true:=zlI i t
theorem zir(prog:Program)(w:World)(x:Str)(t:Tok):(JJ prog w).is (.inr x) (.str x t)=true:=zlH x t
inductive V where
 | non|bl (b:Bool)|int (i:Int)|str (x:Str)|byt (b:Array UInt8)|flt (b:UInt64)|ref (a:Addr)|ty (n:String)
 deriving DecidableEq
def RelV:V->Value->Prop
 | .non,u=>u=Value.none
 | .bl b,u=>u=Value.bool b
 | .int i,u=>∃t,u=Value.int i t
 | .str x,u=>∃t,u=Value.str x t
 | .byt b,u=>∃t,u=Value.bytes b t
 | .flt b,u=>∃t,u=Value.float b t
 | .ref a,u=>u=Value.ref a
 | .ty n,u=>u=Value.type n
abbrev Vals:List V->List Value->Prop:=Paired RelV
theorem Vals.length{xs:List V}{us:List Value}(r:Vals xs us):xs.length=us.length:=Paired.length r
theorem Vals.get:∀{xs:List V}{us:List Value}{i:Nat}{x:V},Vals xs us->xs[i]?=some x->∃u,us[i]?=some u/\RelV x u
 | _,_,_,_,.nil,e=>by simp at e
 | _,_,0,_,.cons r _,e=>by simp at e;subst e;exact⟨_,rfl,r⟩
 | _,_,i+1,x,.cons _ t,e=>by
  obtain⟨u,h1,h2⟩:=Vals.get (i:=i) (x:=x) t (by simpa using e)
  exact⟨u,by simpa using h1,h2⟩
theorem Vals.set{x:V}{u:Value}(r:RelV x u):∀{xs:List V}{us:List Value} (i:Nat),Vals xs us->Vals (xs.set i x) (us.set i u)
 | _,_,_,.nil=>.nil
 | _,_,0,.cons _ t=>.cons r t
 | _,_,i+1,.cons q t=>.cons q (Vals.set r i t)
theorem Vals.append:∀{xs ys:List V}{us ws:List Value},Vals xs us->Vals ys ws->Vals (xs++ys) (us++ws)
 | _,_,_,_,.nil,s=>s
 | _,_,_,_,.cons r t,s=>.cons r (Vals.append t s)
theorem Vals.take:∀{xs:List V}{us:List Value} (n:Nat),Vals xs us->Vals (xs.take n) (us.take n)
 | _,_,0,_=>.nil
 | _,_,_+1,.nil=>.nil
 | _,_,n+1,.cons r t=>.cons r (Vals.take n t)
theorem Vals.drop:∀{xs:List V}{us:List Value} (n:Nat),Vals xs us->Vals (xs.drop n) (us.drop n)
 | _,_,0,r=>r
 | _,_,_+1,.nil=>.nil
 | _,_,n+1,.cons _ t=>Vals.drop n t
def RelO:Option V->Option Value->Prop
 | some v,some u=>RelV v u
 | none,none=>True
 | _,_=>False
def KV{κ:Type}:List (κ×V)->List (κ×Value)->Prop:=Paired fun(p:κ×V) (q:κ×Value)=>p.1=q.1/\RelV p.2 q.2
def kV:Key->V
 | .inl i=>.int i
 | .inr x=>.str x
inductive HO where
 | lst (xs:List V)
 | tup (xs:List V)
 | dK (kvs:List (Key×V))|dT (kvs:List (List Key×V))
 | set (S:Int->Bool) (n:Nat)
 | ins (C dx:Addr) (fs:List (Str×V))
 | own (x:Addr)
 | xd (fs:List (Str×V))
 | met (f x:Addr)
 | rng (lo hi:Int)
 | frz (o:Obj) (u:HO)
 | tbl (ps:Array Value)
 | ext (φ:Heap->Prop)
abbrev Hp:=Addr->Option HO
def upd(H:Hp)(a:Addr)(o:HO):Hp:=fun b=>if b=a then some o else H b
theorem JQ{H:Hp}{a:Addr}{o:HO}:upd H a o a=some o:=by unfold upd;rw[if_pos rfl]
theorem Jv{H:Hp}{a b:Addr}{o:HO}(h:b≠a):upd H a o b=H b:=by unfold upd;rw[if_neg h]
theorem Qu{H:Hp}{a b:Addr}{o:HO}(h:H a=some o)(h':H b=none):a≠b:=by
 intro e;subst e;rw[h]at h';cases h'
def IsTD(h:Heap)(a:Addr)(items:Array Value):Prop:=∃o,h.get? a=some o/\o.cls=.type "tuple" /\ (∃n,o.data=.seq items n)/\o.dict=none
theorem IsTD.tup{h:Heap}{a:Addr}{items:Array Value}(x:IsTD h a items):IsTup h a items:=by
 obtain⟨o,e,c,d,_⟩:=x;exact⟨o,e,c,d⟩
theorem IsTD.lt{h:Heap}{a:Addr}{items:Array Value}(x:IsTD h a items):a<h.objs.size:=x.tup.lt
theorem IsTD.new(h:Heap)(items:Array Value):IsTD (h.push { cls:=.type "tuple",data:=.seq items }) h.objs.size items:=⟨_,Heap.get?_push_size _ rfl,rfl,⟨_,rfl⟩,rfl⟩
section
variable(P:Program)(w:World)
def JL(H:Hp)(h:Heap)(a:Addr):HO->Prop
 | .lst xs=>xs.length<=sizeLine/\∃(its:List Value) (n:Nat),Vals xs its/\h.get? a=some { cls:=.type "list",data:=.seq its.toArray n }
 | .tup xs=>xs.length<=sizeLine/\∃its:List Value,Vals xs its/\IsTD h a its.toArray
 | .dK kvs=>kvs.length<=sizeLine/\(a == sysModules)=false/\∃vs,KV kvs vs/\h.DictOf (JJ P w) a vs
 | .dT kvs=>kvs.length<=sizeLine/\(a == sysModules)=false/\∃xs:List (List Key×Addr×Value),
   Paired (fun(p:List Key×V) (q:List Key×Addr×Value)=>p.1=q.1/\H q.2.1=some (.tup (p.1.map kV))/\RelV p.2 q.2.2) kvs xs /\
   ∃o es ep,h.get? a=some o/\o.ExactDict/\o.data=.dict es ep/\es.toList=xs.map (entryOfKey (tupleKind (JJ P w)))/\(xs.map (·.1)).Nodup
 | .set S n=>h.SetOf (intKind P w) a S n
 | .ins C dx fs=>H dx=some (.own a)/\fs.length<=1000/\dx≠a/\h.get? a=some (PySem.W.instObj C dx) /\
   ∃mA,h.Ns1 dx mA/\(∀f,RelO (fs.lookup f) (mA f))/\PySem.Within mA (fs.map (·.1))
 | .own _=>∃o,h.get? a=some o
 | .xd fs=>∃mA,h.Ns1 a mA/\∀f,RelO (fs.lookup f) (mA f)
 | .rng lo hi=>∃t u v,h.get? a=some { cls:=.type "range",data:=.fields #[.int lo t,.int hi u,.int 1 v] }
 | .frz o u=>h.get? a=some o/\JL H h a u
 | .tbl ps=>h.get? a=some { cls:=.none,data:=.fields ps }
 | .met f x=>h.get? a=some (PySem.W.methodObj (.ref f) (.ref x))
 | .ext φ=>φ h/\(∃o,h.get? a=some o)/\∀h1 h2:Heap,φ h1->(∀o,h1.get? a=some o->h2.get? a=some o)->φ h2
def HOk(H:Hp)(h:Heap):Prop:=∀a o,H a=some o->JL P w H h a o
end
section
variable{P:Program}{w:World}{H H':Hp}{h h':Heap}{a:Addr}{o:HO}
theorem JL.lt(x:JL P w H h a o):a<h.objs.size:=by
 cases o with
 | lst xs=>obtain⟨_,_,_,_,e⟩:=x;exact Heap.lt_size e
 | tup xs=>obtain⟨_,_,_,p⟩:=x;exact p.lt
 | dK kvs=>obtain⟨_,_,_,_,o,_,_,e,_⟩:=x;exact Heap.lt_size e
 | dT kvs=>obtain⟨_,_,_,_,o,_,_,e,_⟩:=x;exact Heap.lt_size e
 | set S n=>obtain⟨o,_,_,_,e,_⟩:=x;exact Heap.lt_size e
 | ins C dx fs=>obtain⟨_,_,_,e,_⟩:=x;exact Heap.lt_size e
 | own y=>obtain⟨_,e⟩:=x;exact Heap.lt_size e
 | xd fs=>obtain⟨_,⟨_,_,_,e,_⟩,_⟩:=x;exact Heap.lt_size e
 | rng lo hi=>obtain⟨_,_,_,e⟩:=x;exact Heap.lt_size e
 | frz ob u=>obtain⟨e,_⟩:=x;exact Heap.lt_size e
 | tbl ps=>exact Heap.lt_size (show h.get? a=some _ from x)
 | met f y=>exact Heap.lt_size (show h.get? a=some _ from x)
 | ext φ=>obtain⟨_,⟨_,e⟩,_⟩:=x;exact Heap.lt_size e
theorem Paired.mapP{α β:Type}{F G:α->β->Prop}:∀{l₁:List α}{l₂:List β},Paired F l₁ l₂->(∀a b,F a b->G a b)->Paired G l₁ l₂
 | _,_,.nil,_=>.nil
 | _,_,.cons r t,f=>.cons (f _ _ r) (Paired.mapP t f)
theorem JL.stay(x:JL P w H h a o)(k:∀b u,(b=a\/H b=some (.own a))->h.get? b=some u->h'.get? b=some u)
  (ho:∀b,H b=some (.own a)->H' b=some (.own a)) (ht:∀b xs,H b=some (.tup xs)->H' b=some (.tup xs)):JL P w H' h' a o:=by
 induction o with
 | lst xs=>obtain⟨z,its,n,r,e⟩:=x;exact⟨z,its,n,r,k _ _ (.inl rfl) e⟩
 | tup xs=>obtain⟨z,its,r,ob,e,c⟩:=x;exact⟨z,its,r,ob,k _ _ (.inl rfl) e,c⟩
 | dK kvs=>obtain⟨z,y,vs,r,ob,es,ep,e,c⟩:=x;exact⟨z,y,vs,r,ob,es,ep,k _ _ (.inl rfl) e,c⟩
 | dT kvs =>
  obtain⟨z,y,xs,r,ob,es,ep,e,c⟩:=x;exact⟨z,y,xs,Paired.mapP r fun p q z=>⟨z.1,ht _ _ z.2.1,z.2.2⟩,ob,es,ep,k _ _ (.inl rfl) e,c⟩
 | set S n=>obtain⟨ob,es,ep,t,e,c⟩:=x;exact⟨ob,es,ep,t,k _ _ (.inl rfl) e,c⟩
 | ins C dx fs =>
  obtain⟨d,z,ne,e,mA,⟨od,es,ep,e2,c⟩,r⟩:=x;exact⟨ho _ d,z,ne,k _ _ (.inl rfl) e,mA,⟨od,es,ep,k _ _ (.inr d) e2,c⟩,r⟩
 | own y=>obtain⟨ob,e⟩:=x;exact⟨ob,k _ _ (.inl rfl) e⟩
 | xd fs=>obtain⟨mA,⟨od,es,ep,e,c⟩,r⟩:=x;exact⟨mA,⟨od,es,ep,k _ _ (.inl rfl) e,c⟩,r⟩
 | rng lo hi=>obtain⟨t,u,v,e⟩:=x;exact⟨t,u,v,k _ _ (.inl rfl) e⟩
 | frz ob u ih=>obtain⟨e,q⟩:=x;exact⟨k _ _ (.inl rfl) e,ih q⟩
 | tbl ps =>
  have e:h.get? a=some { cls:=.none,data:=.fields ps }:=x;show h'.get? a=some { cls:=.none,data:=.fields ps }
  exact k a _ (.inl rfl) e
 | met f y =>
  have e:h.get? a=some (PySem.W.methodObj (.ref f) (.ref y)):=x;show h'.get? a=some (PySem.W.methodObj (.ref f) (.ref y))
  exact k a _ (.inl rfl) e
 | ext φ=>obtain⟨p,⟨o,e⟩,st⟩:=x;exact⟨st _ _ p fun o q=>k _ _ (.inl rfl) q,⟨o,k _ _ (.inl rfl) e⟩,st⟩
theorem HOk.lt(x:HOk P w H h)(e:H a=some o):a<h.objs.size:=(x a o e).lt
theorem HOk.fresh(x:HOk P w H h)(e:h.objs.size<=a):H a=none:=by
 cases q:H a with
 | none=>rfl
 | some u=>exact absurd (Nat.lt_of_lt_of_le (x.lt q) e) (Nat.lt_irrefl _)
theorem HOk.kept(x:HOk P w H h)(k:∀b u,h.get? b=some u->h'.get? b=some u):HOk P w H h':=fun a o e =>
 (x a o e).stay (fun b u _ q=>k b u q) (fun _ q=>q) fun _ _ q=>q
theorem HOk.laid(x:HOk P w H h)(k:∀b u,h.get? b=some u->h'.get? b=some u)(hp:h.objs.size<=a)(new:JL P w (upd H a o) h' a o):HOk P w (upd H a o) h':=fun b u e=>by
 have hn:=x.fresh hp
 by_cases hb:b=a
 ·subst hb;rw[JQ]at e;cases e;exact new
 ·rw[Jv hb]at e;exact(x b u e).stay (fun c v _ q=>k c v q) (fun c q=>by rw[Jv (Qu q hn)];exact q) fun c xs q=>by rw[Jv (Qu q hn)];exact q
end
def Rd(H:Hp)(a:Addr)(u:HO):Prop:=H a=some u\/∃o,H a=some (.frz o u)
theorem Rd.ok{P:Program}{w:World}{H:Hp}{h:Heap}{a:Addr}{u:HO}(r:Rd H a u)(x:HOk P w H h):JL P w H h a u:=by
 rcases r with r|⟨o,r⟩
 ·exact x a u r
 ·obtain⟨_,q⟩:=x a _ r;exact q
def Mut:Option HO->Prop
 | some (.lst _)=>True
 | some (.dK _)=>True
 | some (.dT _)=>True
 | some (.set _ _)=>True
 | some (.ins _ _ _)=>True
 | some (.ext _)=>True
 | _=>False
section
variable{P:Program}{w:World}{H:Hp}{h h':Heap}{x e:Addr}{o':HO}
theorem HOk.write(ok:HOk P w H h)(mu:Mut (H x))(he:e=x\/H e=some (.own x))(k:∀b u,b≠e->h.get? b=some u->h'.get? b=some u)(heo:∃u,h'.get? e=some u)
  (new:JL P w (upd H x o') h' x o'):HOk P w (upd H x o') h':=fun b u q=>by
 have nown:∀c y,H c=some (.own y)->c≠x:=fun c y r z=>by subst z;rw[r]at mu;exact mu
 have ntup:∀c xs,H c=some (.tup xs)->c≠x:=fun c xs r z=>by subst z;rw[r]at mu;exact mu
 by_cases hb:b=x
 ·subst hb;rw[JQ]at q;cases q;exact new
 ·rw[Jv hb]at q
  by_cases hbe:b=e
  ·have q':H b=some (.own x):=by
    rcases he with z|z
    ·exact absurd (hbe.trans z) hb
    ·rw[hbe];exact z
   rw[q]at q';cases q';obtain⟨v,hv⟩:=heo;exact⟨v,by rw[hbe];exact hv⟩
  ·refine(ok b u q).stay (fun c v hc r=>k c v ?_ r) (fun c r=>by rw[Jv (nown c b r)];exact r) fun c xs r=>by rw[Jv (ntup c xs r)];exact r
   rcases hc with rfl|hc
   ·exact hbe
   ·rintro rfl;rcases he with z|z
    ·exact nown c b hc z
    ·rw[hc]at z;cases z;exact hb rfl
end
structure Un(fs ex:List Addr)(H H':Hp)(h h':Heap):Prop where
 keep:∀b o,h.get? b=some o->H b=none->b∉fs->b∉ex->h'.get? b=some o
 slot:∀b o,h.get? b=some o->H b=none->b∈fs->b∉ex->∃sl,h'.get? b=some { o with slots:=sl }
 free:∀b o,h.get? b=some o->H b=none->b∉ex->H' b=none
 there:∀b o,h.get? b=some o->b∉ex->∃o',h'.get? b=some o'
 tups:∀b xs,H b=some (.tup xs)->H' b=some (.tup xs)
 frzs:∀b o u,H b=some (.frz o u)->H' b=some (.frz o u)
 tbls:∀b ps,H b=some (.tbl ps)->∃more,H' b=some (.tbl (ps++more))
section
variable{fs fs' ex ex':List Addr}{H H1 H2:Hp}{h h1 h2 h':Heap}{a x e:Addr}{o:HO}
theorem Un.any(u:Un fs ex H H1 h h1){b:Addr}{ob:Obj}(q:h.get? b=some ob)(n:H b=none)(hx:b∉ex):∃sl,h1.get? b=some { ob with slots:=sl }:=by
 by_cases hb:b∈fs
 ·exact u.slot b ob q n hb hx
 ·exact⟨ob.slots,u.keep b ob q n hb hx⟩
theorem Un.kept(k:∀b u,h.get? b=some u->h'.get? b=some u):Un fs ex H H h h' :=
 ⟨fun b ob q _ _ _=>k b ob q,fun b ob q _ _ _=>⟨ob.slots,k b ob q⟩,fun _ _ _ n _=>n,fun b ob q _=>⟨ob,k b ob q⟩,fun _ _ q=>q,fun _ _ _ q=>q,fun _ ps q=>⟨#[],by rw[q];simp⟩⟩
theorem Un.refl:Un fs ex H H h h:=Un.kept fun _ _ q=>q
theorem Un.laid(k:∀b u,h.get? b=some u->h'.get? b=some u)(hp:h.objs.size<=a)(hn:H a=none):Un fs ex H (upd H a o) h h' where
 keep:=fun b u q _ _ _=>k b u q
 slot:=fun b u q _ _ _=>⟨u.slots,k b u q⟩
 free:=fun b u q n _=>by rw[Jv (Nat.ne_of_lt (Nat.lt_of_lt_of_le (Heap.lt_size q) hp))];exact n
 there:=fun b u q _=>⟨u,k b u q⟩
 tups:=fun b xs q=>by rw[Jv (Qu q hn)];exact q
 frzs:=fun b u xs q=>by rw[Jv (Qu q hn)];exact q
 tbls:=fun b ps q=>⟨#[],by rw[Jv (Qu q hn),q];simp⟩
theorem Un.write(mu:Mut (H x))(he:e=x\/H e=some (.own x))(k:∀b u,b≠e->h.get? b=some u->h'.get? b=some u)(heo:∃u,h'.get? e=some u):Un fs ex H (upd H x o) h h':=by
 have hx:∀b,H b=none->b≠x:=fun b n z=>by subst z;rw[n]at mu;exact mu
 have hb:∀b,H b=none->b≠e:=fun b n z=>by
  subst z;rcases he with r|r
  ·exact hx b n r
  ·rw[n]at r;cases r
 have hm:∀b u,H b=some u->¬Mut (some u)->b≠x:=fun b u q nm z=>by subst z;rw[q]at mu;exact nm mu
 refine⟨fun b u q n _ _=>k b u (hb b n) q,fun b u q n _ _=>⟨u.slots,k b u (hb b n) q⟩,fun b u q n _=>by rw[Jv (hx b n)];exact n,fun b u q _=>?_,
  fun b xs q=>by rw[Jv (hm b _ q fun z=>z)];exact q,fun b u xs q=>by rw[Jv (hm b _ q fun z=>z)];exact q,fun b ps q=>⟨#[],by rw[Jv (hm b _ q fun z=>z),q];simp⟩⟩
 by_cases hbe:b=e
 ·subst hbe;exact heo
 ·exact⟨u,k b u hbe q⟩
end
def trk(h:Heap)(H:Hp):List Addr:=(List.range h.objs.size).filter fun a=>(H a).isSome
def hidT(h:Heap)(H:Hp):Heap:=PySem.W.hideAll h (trk h H)
theorem zlO(h:Heap)(H:Hp):(hidT h H).objs.size=h.objs.size:=PySem.W.hideAll_size _ _
theorem znr{h:Heap}{H:Hp}{b:Addr}{o:Obj}(e:h.get? b=some o)(n:H b=none):(hidT h H).get? b=some o :=
 PySem.W.hideAll_get _ e fun hm=>by
  have q:(H b).isSome=true:=(List.mem_filter.mp hm).2;rw[n]at q;simp at q
theorem zo1{h:Heap}{H:Hp}{b:Addr}{o:Obj}(e:(hidT h H).get? b=some o):h.get? b=some o/\H b=none:=by
 have e':h.get? b=some o:=PySem.W.of_hideAll (trk h H) e;refine⟨e',?_⟩;cases q:H b with
 | none=>rfl
 | some x =>
  have hm:b∈trk h H:=List.mem_filter.mpr ⟨List.mem_range.mpr (Heap.lt_size e'),by simp[q]⟩
  have z:(hidT h H).get? b=none:=PySem.W.hideAll_none (trk h H) hm;rw[z]at e;cases e
structure Mod(K:qF)(mg:qM)(base:Heap):Prop where
 kin:K.In base
 glob:base.Ns mainGlobals mg
 blt:∃mb,base.Ns builtinsNs mb/\∀x:Str,x ≠ "__name__" -> mb x=bootBuiltins x
 nolimit:base.NoLimit
structure Cx where
 prog:Program
 w:World
 K:qF
 mg:Str->Option Value
 base:Heap
 A:Around
 N:List Str
 s₀:Shared
 H₀:Hp
 env:Env
 outer:List Env
 stack:List Env
 ex:List Addr
 fn:Str->Bool
 calm:Bool
 pn:List (Addr×Obj)
 xe:Value->Shared->Prop
def frs(l:List Env):List Addr:=l.filterMap (·.frame)
abbrev Cx.fs(X:Cx):List Addr:=frs X.outer
def Vis(sc:Scope)(x:Str):Prop:=sc.names.lookup x=some .local\/sc.names.lookup x=some .cell\/sc.names.lookup x=some .free
def Loc(sc:Scope)(x:Str):Prop:=sc.names.lookup x=some .local\/sc.names.lookup x=some .cell
def Look(env:Env)(h:Heap)(m:qM)(x:Str)(u:Value):Prop :=
 (env.kindOf x=some .local/\m x=some u)\/((env.kindOf x=some .cell\/env.kindOf x=some .free)/\∃c,env.cells.lookup x=some c/\h.IsCell c (some u))
structure Cx.Ok(X:Cx):Prop where
 mod:Mod X.K X.mg X.base
 kind:X.env.scope.kind=.function
 glob:X.env.globals=mainGlobals
 blt:X.env.builtins=builtinsNs
 above:X.s₀.heap.objs.size<=X.env.locals
 inj:∀x y c,X.env.cells.lookup x=some c->X.env.cells.lookup y=some c->x=y
 has:∀x,(X.env.kindOf x=some .cell\/X.env.kindOf x=some .free)->∃c,X.env.cells.lookup x=some c
 cab:∀x c,X.fn x=true->X.env.cells.lookup x=some c->X.s₀.heap.objs.size<=c
 hd:X.calm=true->X.A.handled=none
 frames:X.A.frames=some X.stack
 stk:X.stack=X.outer\/(X.stack=X.env::X.outer/\X.env.frame=some X.env.locals)
 exf:∀b∈X.ex,b≠X.env.locals/\∀x c,X.env.cells.lookup x=some c->c≠b
 bs:∀b o,X.base.get? b=some o->X.s₀.heap.get? b=some o/\X.H₀ b=none
 bsz:X.base.objs.size<=X.s₀.heap.objs.size
 noex:∀b o,X.base.get? b=some o->b∉X.ex
 exfs:∀b∈X.ex,b∉X.fs
 funs:X.s₀.heap.FunFrames X.base X.outer
 frf:∀b∈X.fs,X.H₀ b=none
structure Inv(X:Cx)(pins:qO)(σ:List (Option V))(H:Hp)(s:Shared):Prop where
 ok:X.Ok
 os:s.os=X.s₀.os
 bare:AllBare s.gens
 base:Un X.fs X.ex X.H₀ H X.s₀.heap s.heap
 loc:∃m,s.heap.Ns X.env.locals m/\∀(i:Nat) (x:Str) (v:V),X.N[i]?=some x->σ[i]?=some (some v)->Vis X.env.scope x->∃u,RelV v u/\Look X.env s.heap m x u
 cell:∀x c,X.env.cells.lookup x=some c->∃v,s.heap.IsCell c v
 free:H X.env.locals=none
 freeC:∀x c,X.env.cells.lookup x=some c->H c=none
 pin:∀p∈X.pn++pins,s.heap.get? p.1=some p.2/\H p.1=none/\p.1≠X.env.locals/\p.1∉X.fs/\∀v,p.2.data≠.cell v
 hok:HOk X.prog X.w H s.heap
 len:σ.length=X.N.length
section
variable{X:Cx}{pins:qO}{σ:List (Option V)}{H H':Hp}{s:Shared}{h':Heap}
theorem Cx.Ok.nofr(ok:X.Ok){b:Addr}{o:Obj}(e:X.base.get? b=some o):b∉X.fs:=fun hb=>by
 have:=(ok.funs.mem hb).1;rw[e]at this;cases this
theorem Inv.bs(I:Inv X pins σ H s):∀b o,X.base.get? b=some o->s.heap.get? b=some o/\H b=none:=fun b o e =>
 ⟨I.base.keep b o (I.ok.bs b o e).1 (I.ok.bs b o e).2 (I.ok.nofr e) (I.ok.noex b o e),I.base.free b o (I.ok.bs b o e).1 (I.ok.bs b o e).2 (I.ok.noex b o e)⟩
theorem Inv.bk(I:Inv X pins σ H s):∀b o,X.base.get? b=some o->s.heap.get? b=some o:=fun b o e=>(I.bs b o e).1
theorem Inv.mod(I:Inv X pins σ H s):Mod X.K X.mg X.base:=I.ok.mod
theorem Inv.kIn(I:Inv X pins σ H s):X.K.In s.heap:=I.ok.mod.kin.keeps I.bk
theorem Inv.lt(I:Inv X pins σ H s):X.env.locals<s.heap.objs.size:=let ⟨_,hn,_⟩:=I.loc;hn.lt
theorem Inv.sz(I:Inv X pins σ H s):X.s₀.heap.objs.size<=s.heap.objs.size:=Nat.le_trans I.ok.above (Nat.le_of_lt I.lt)
theorem Inv.nofs(I:Inv X pins σ H s){a:Addr}(h:s.heap.objs.size<=a):a∉X.fs:=fun hb=>by
 obtain⟨_,o,ho,_⟩:=I.ok.funs.mem hb;exact absurd (Nat.lt_of_lt_of_le (Heap.lt_size ho) (Nat.le_trans I.sz h)) (Nat.lt_irrefl _)
theorem Inv.cne(I:Inv X pins σ H s):∀x c,X.env.cells.lookup x=some c->c≠X.env.locals:=fun x c e z=>by
 obtain⟨v,o,ho,hd⟩:=I.cell x c e;obtain⟨m,⟨o',es,ep,ho',hd',_⟩,_⟩:=I.loc;rw[z,ho']at ho;cases ho;rw[hd']at hd;cases hd
theorem Inv.funs(I:Inv X pins σ H s):s.heap.FunFrames X.base X.outer:=by
 have all:∀(l:List Env),(∀b∈frs l,b∈X.fs)->X.s₀.heap.FunFrames X.base l->s.heap.FunFrames X.base l:=by
  intro l;induction l with
  | nil=>intro _ _;trivial
  | cons env r ih =>
   intro hs hl;obtain⟨hk,⟨L,o,hf,hn,ho,hd⟩,hr⟩:=hl;have hL:L∈X.fs:=hs L (by unfold frs;rw[List.filterMap_cons,hf];exact List.mem_cons_self)
   obtain⟨sl,e⟩:=I.base.slot L o ho (I.ok.frf L hL) hL fun z=>I.ok.exfs L z hL
   exact⟨hk,⟨L,_,hf,hn,e,hd⟩,ih (fun b hb=>hs b (by unfold frs;rw[List.filterMap_cons,hf];exact List.mem_cons_of_mem _ hb)) hr⟩
 exact all X.outer (fun _ hb=>hb) I.ok.funs
theorem Inv.stack(I:Inv X pins σ H s):s.heap.FunFrames X.base X.stack:=by
 rcases I.ok.stk with e|⟨e,hf⟩
 ·rw[e];exact I.funs
 ·rw[e];obtain⟨m,hn,_⟩:=I.loc;refine .cons (by rw[I.ok.kind];decide) hf hn ?_ I.funs
  exact Heap.get?_none_of_le (Nat.le_trans I.ok.bsz I.ok.above)
theorem Inv.stkSub(I:Inv X pins σ H s):∀b∈frs X.stack,b∈X.env.locals::X.fs:=fun b hb=>by
 rcases I.ok.stk with e|⟨e,hf⟩
 ·rw[e]at hb;exact List.mem_cons_of_mem _ hb
 ·rw[e]at hb;unfold frs at hb;rw[List.filterMap_cons,hf]at hb;exact hb
theorem Inv.stkFree(I:Inv X pins σ H s):∀b∈frs X.stack,H b=none:=fun b hb=>by
 rcases List.mem_cons.mp (I.stkSub b hb) with e|hb
 ·rw[e];exact I.free
 ·obtain⟨_,o,ho,_⟩:=I.ok.funs.mem hb;exact I.base.free b o ho (I.ok.frf b hb) fun z=>I.ok.exfs b z hb
theorem Inv.step{g':Array GenState}{t':Nat}{d':Drawn}{ch:List Addr}(I:Inv X pins σ H s)
  (hch:∀b∈ch,(b∈X.ex\/X.s₀.heap.objs.size<=b)/\b≠X.env.locals/\(∀x c,X.env.cells.lookup x=some c->c≠b)/\∀p∈X.pn++pins,p.1≠b)
  (keep:∀b o,b≠X.env.locals->b∉X.fs->b∉ch->s.heap.get? b=some o->H b=none->h'.get? b=some o)
  (slot:∀b o,b≠X.env.locals->b∈X.fs->b∉ch->s.heap.get? b=some o->H b=none->∃sl,h'.get? b=some { o with slots:=sl }) (free:∀b o,b∉ch->s.heap.get? b=some o->H b=none->H' b=none)
  (there:∀b o,b∉ch->s.heap.get? b=some o->∃o',h'.get? b=some o')
  (tups:∀b xs,H b=some (.tup xs)->H' b=some (.tup xs)) (frzs:∀b o u,H b=some (.frz o u)->H' b=some (.frz o u)) (tbls:∀b ps,H b=some (.tbl ps)->∃more,H' b=some (.tbl (ps++more)))
  (ns:∀m,s.heap.Ns X.env.locals m->h'.Ns X.env.locals m) (hok:HOk X.prog X.w H' h') (hg:AllBare g') :
  Inv X pins σ H' { s with heap:=h',gens:=g',drawn:=d',toks:=t' }:=by
 have neL:∀b o,X.s₀.heap.get? b=some o->b≠X.env.locals:=fun b o e=>Nat.ne_of_lt (Nat.lt_of_lt_of_le (Heap.lt_size e) I.ok.above)
 have neC:∀b o,X.s₀.heap.get? b=some o->b∉X.ex->b∉ch:=fun b o e hx hb=>by
  rcases(hch b hb).1 with z|z
  ·exact hx z
  ·exact absurd (Nat.lt_of_lt_of_le (Heap.lt_size e) z) (Nat.lt_irrefl _)
 have cellK:∀x c,X.env.cells.lookup x=some c->∀v,s.heap.IsCell c v->h'.IsCell c v:=fun x c e v ⟨o,ho,hd⟩=>by
  have nch:c∉ch:=fun z=>(hch c z).2.2.1 x c e rfl
  by_cases hc:c∈X.fs
  ·obtain⟨sl,q⟩:=slot c o (I.cne x c e) hc nch ho (I.freeC x c e);exact⟨_,q,hd⟩
  ·exact⟨o,keep c o (I.cne x c e) hc nch ho (I.freeC x c e),hd⟩
 refine⟨I.ok,I.os,hg,⟨fun b o e n hb hx=>?_,fun b o e n hb hx=>?_,fun b o e n hx=>?_,fun b o e hx=>?_,fun b xs e=>tups b xs (I.base.tups b xs e),fun b o xs e=>frzs b o xs (I.base.frzs b o xs e),fun b ps e=>?_⟩,?_,fun x c e=>?_,?_,fun x c e=>?_,fun p hp=>?_,hok,I.len⟩
 ·exact keep b o (neL b o e) hb (neC b o e hx) (I.base.keep b o e n hb hx) (I.base.free b o e n hx)
 ·obtain⟨sl,e1⟩:=I.base.slot b o e n hb hx;obtain⟨sl',e2⟩:=slot b _ (neL b o e) hb (neC b o e hx) e1 (I.base.free b o e n hx);exact⟨sl',e2⟩
 ·obtain⟨o',e1⟩:=I.base.there b o e hx;exact free b o' (neC b o e hx) e1 (I.base.free b o e n hx)
 ·obtain⟨o',e1⟩:=I.base.there b o e hx;exact there b o' (neC b o e hx) e1
 ·obtain⟨m1,e1⟩:=I.base.tbls b ps e;obtain⟨m2,e2⟩:=tbls b _ e1;exact⟨m1++m2,by rw[e2,Array.append_assoc]⟩
 ·obtain⟨m,hn,hl⟩:=I.loc;refine⟨m,ns m hn,fun i x v e1 e2 e3=>?_⟩
  obtain⟨u,r,l⟩:=hl i x v e1 e2 e3;refine⟨u,r,?_⟩;rcases l with l|⟨k,c,e,z⟩
  ·exact .inl l
  ·exact .inr ⟨k,c,e,cellK x c e _ z⟩
 ·obtain⟨v,z⟩:=I.cell x c e;exact⟨v,cellK x c e v z⟩
 ·obtain⟨m,⟨o,_,_,ho,_⟩,_⟩:=I.loc;exact free _ o (fun z=>(hch _ z).2.1 rfl) ho I.free
 ·obtain⟨v,o,ho,hd⟩:=I.cell x c e;exact free c o (fun z=>(hch c z).2.2.1 x c e rfl) ho (I.freeC x c e)
 ·obtain⟨e,n,ne,nf,d⟩:=I.pin p hp;have nch:p.1∉ch:=fun z=>(hch p.1 z).2.2.2 p hp rfl
  exact⟨keep p.1 p.2 ne nf nch e n,free p.1 p.2 nch e n,ne,nf,d⟩
theorem Inv.un{t':Nat}(I:Inv X pins σ H s)(u:Un X.fs [] H H' s.heap h')(hok:HOk X.prog X.w H' h'):Inv X pins σ H' { s with heap:=h',toks:=t' }:=by
 obtain⟨m,⟨o,es,ep,ho,r⟩,_⟩:=id I.loc;obtain⟨sl,hL⟩:=u.any ho I.free (by simp)
 exact I.step (g':=s.gens) (d':=s.drawn) (ch:=[]) (fun _ z=>nomatch z) (fun b o _ hb _ e n=>u.keep b o e n hb (by simp)) (fun b o _ hb _ e n=>u.slot b o e n hb (by simp)) (fun b o _ e n=>u.free b o e n (by simp)) (fun b o _ e=>u.there b o e (by simp)) u.tups u.frzs u.tbls (fun m' hm=>by
  obtain⟨o',es',ep',ho',r'⟩:=hm;rw[ho]at ho';cases ho';exact⟨_,es',ep',hL,r'⟩) hok I.bare
theorem Inv.call{g':Array GenState}{t':Nat}{d':Drawn}{ch:List Addr}(I:Inv X pins σ H s)(u:Un (frs X.stack) ch H H' s.heap h')(hok:HOk X.prog X.w H' h')(hg:AllBare g')
  (hch:∀b∈ch,(b∈X.ex\/X.s₀.heap.objs.size<=b)/\b≠X.env.locals/\(∀x c,X.env.cells.lookup x=some c->c≠b)/\∀p∈X.pn++pins,p.1≠b) :
  Inv X pins σ H' { s with heap:=h',gens:=g',drawn:=d',toks:=t' }:=by
 obtain⟨m,⟨o,es,ep,ho,r⟩,_⟩:=id I.loc;obtain⟨sl,hL⟩:=u.any ho I.free fun z=>(hch _ z).2.1 rfl
 exact I.step (ch:=ch) hch (fun b o hL hb hc e n=>u.keep b o e n (fun z=>(List.mem_cons.mp (I.stkSub b z)).elim hL hb) hc) (fun b o _ _ hc e n=>u.any e n hc) (fun b o hc e n=>u.free b o e n hc) (fun b o hc e=>u.there b o e hc) u.tups u.frzs u.tbls (fun m' hm=>by
  obtain⟨o',es',ep',ho',r'⟩:=hm;rw[ho]at ho';cases ho';exact⟨_,es',ep',hL,r'⟩) hok hg
theorem Inv.turned{t':Nat}{it:Addr}(I:Inv X pins σ H s)(k:∀b o,b≠it->s.heap.get? b=some o->h'.get? b=some o)(hn:H it=none)(hL:it≠X.env.locals)
  (h1:it∈X.ex\/X.s₀.heap.objs.size<=it) (h2:∀x c,X.env.cells.lookup x=some c->c≠it) (h3:∀p∈X.pn++pins,p.1≠it):Inv X pins σ H { s with heap:=h',toks:=t' }:=by
 have nit:∀b u,H b=some u->b≠it:=fun b u e z=>by rw[z,hn]at e;cases e
 refine I.step (g':=s.gens) (d':=s.drawn) (ch:=[it]) (fun b hb=>?_) (fun b o _ _ hc e _=>k b o (fun z=>hc (by simp[z])) e) (fun b o _ _ hc e _=>⟨o.slots,k b o (fun z=>hc (by simp[z])) e⟩) (fun _ _ _ _ n=>n)
  (fun b o hc e=>⟨o,k b o (fun z=>hc (by simp[z])) e⟩) (fun _ _ e=>e) (fun _ _ _ e=>e) (fun b ps e=>⟨#[],by rw[e];simp⟩) (fun m hm=>?_) (fun b u e=>?_) I.bare
 ·have e:b=it:=by simpa using hb
  subst e;exact⟨h1,hL,h2,h3⟩
 ·obtain⟨o,es,ep,ho,r⟩:=hm;exact⟨o,es,ep,k _ o (Ne.symm hL) ho,r⟩
 ·refine(I.hok b u e).stay (fun c v hc q=>k c v ?_ q) (fun _ q=>q) fun _ _ q=>q
  rcases hc with z|z
  ·rw[z];exact nit b u e
  ·exact nit c _ z
theorem Inv.tok(I:Inv X pins σ H s)(t:Nat):Inv X pins σ H { s with toks:=t }:=I.un (h':=s.heap) (t':=t) Un.refl I.hok
theorem Inv.kept{t':Nat}(I:Inv X pins σ H s)(k:∀b u,s.heap.get? b=some u->h'.get? b=some u):Inv X pins σ H { s with heap:=h',toks:=t' }:=I.un (Un.kept k) (I.hok.kept k)
theorem Inv.laid{a:Addr}{o:HO}{t':Nat}(I:Inv X pins σ H s)(k:∀b u,s.heap.get? b=some u->h'.get? b=some u)(hp:s.heap.objs.size<=a)(new:JL X.prog X.w (upd H a o) h' a o) :
  Inv X pins σ (upd H a o) { s with heap:=h',toks:=t' }:=I.un (Un.laid k hp (I.hok.fresh hp)) (I.hok.laid k hp new)
theorem Inv.write{x e:Addr}{o:HO}{t':Nat}(I:Inv X pins σ H s)(mu:Mut (H x))(he:e=x\/H e=some (.own x))(k:∀b u,b≠e->s.heap.get? b=some u->h'.get? b=some u)(heo:∃u,h'.get? e=some u)
  (new:JL X.prog X.w (upd H x o) h' x o):Inv X pins σ (upd H x o) { s with heap:=h',toks:=t' }:=I.un (Un.write mu he k heo) (I.hok.write mu he k heo new)
theorem Inv.weak{σ':List (Option V)}(I:Inv X pins σ H s)(hl:σ'.length=σ.length)(w:∀(i:Nat) v,σ'[i]?=some (some v)->σ[i]?=some (some v)):Inv X pins σ' H s :=
 ⟨I.ok,I.os,I.bare,I.base,let ⟨m,hn,hl'⟩:=I.loc;⟨m,hn,fun i x v e1 e2 e3=>hl' i x v e1 (w i v e2) e3⟩,I.cell,I.free,I.freeC,I.pin,I.hok,hl.trans I.len⟩
theorem Inv.pins_of{pins':qO}(I:Inv X pins σ H s)(h:∀p∈pins',s.heap.get? p.1=some p.2/\H p.1=none/\p.1≠X.env.locals/\p.1∉X.fs/\∀v,p.2.data≠.cell v):Inv X pins' σ H s :=
 ⟨I.ok,I.os,I.bare,I.base,I.loc,I.cell,I.free,I.freeC,fun p hp=>(List.mem_append.mp hp).elim (fun z=>I.pin p (List.mem_append_left _ z)) (h p),I.hok,I.len⟩
theorem zjk{N:List Str}(hN:N.Nodup){i j:Nat}{x:Str}(a:N[i]?=some x)(b:N[j]?=some x):i=j:=by
 obtain⟨h1,e1⟩:=List.getElem?_eq_some_iff.mp a;obtain⟨h2,e2⟩:=List.getElem?_eq_some_iff.mp b;exact(List.getElem_inj hN).mp (e1.trans e2.symm)
theorem zkD{M:Model}{A:Around}{E:qV}{i:Nat}{x:Str}{v:V}{u:Value}{Q:Unit->Shared->Prop}(I:Inv X pins σ H s)(hN:X.N.Nodup)(hi:X.N[i]?=some x)(hx:Loc X.env.scope x)(r:RelV v u)
  (h:∀s',Inv X pins (σ.set i (some v)) H s'->(∃a,Heap.SameBut a s.heap s'.heap/\(a=X.env.locals\/X.env.cells.lookup x=some a))->Q () s') (hf:X.fn x=true\/X.env.scope.names.lookup x=some .local:=by walk_at "F"):wpAny M A (storeName X.env x u) Q E s:=by
 obtain⟨m,hn,hl⟩:=id I.loc;have hcls:(X.env.scope.kind == .class||(X.env.scope.kind == .module&&X.env.locals != X.env.globals))=false:=by rw[I.ok.kind];rfl
 have hiσ:i<σ.length:=by rw[I.len];exact(List.getElem?_eq_some_iff.mp hi).1
 have cne:=I.cne;have tracked:∀{a:Addr} {h':Heap},(∃o,s.heap.get? a=some o/\H a=none)->Heap.SameBut a s.heap h'->HOk X.prog X.w H h':=fun {a h'} ha hs b ob e=>by
  obtain⟨_,_,hfree⟩:=ha;refine(I.hok b ob e).stay (fun c w' hc q=>(hs.2 c ?_).trans q) (fun _ q=>q) fun _ _ q=>q
  rintro rfl;rcases hc with rfl|hc
  ·rw[hfree]at e;cases e
  ·rw[hfree]at hc;cases hc
 rcases hx with hk|hk
 ·refine wpAny_storeName_local hk hn (fun h' hn' hs=>?_) hcls
  obtain⟨oL,_,_,hoL,_⟩:=id hn;refine h _ ⟨I.ok,I.os,I.bare,⟨fun b o e n hb hx=>?_,fun b o e n hb hx=>?_,I.base.free,fun b o e hx=>?_,I.base.tups,I.base.frzs,I.base.tbls⟩,⟨_,hn',fun j y v' e1 e2 e3=>?_⟩,fun y c e=>?_,I.free,I.freeC,fun p hp=>?_,tracked ⟨oL,hoL,I.free⟩ hs,by simpa using I.len⟩ ⟨_,hs,.inl rfl⟩
  ·exact(hs.2 b (Nat.ne_of_lt (Nat.lt_of_lt_of_le (Heap.lt_size e) I.ok.above))).trans (I.base.keep b o e n hb hx)
  ·obtain⟨sl,e1⟩:=I.base.slot b o e n hb hx;exact⟨sl,(hs.2 b (Nat.ne_of_lt (Nat.lt_of_lt_of_le (Heap.lt_size e) I.ok.above))).trans e1⟩
  ·obtain⟨o',e1⟩:=I.base.there b o e hx;exact⟨o',(hs.2 b (Nat.ne_of_lt (Nat.lt_of_lt_of_le (Heap.lt_size e) I.ok.above))).trans e1⟩
  ·by_cases hj:j=i
   ·subst hj;rw[hi]at e1;cases e1;rw[List.getElem?_set_self hiσ]at e2;cases e2;exact⟨u,r,.inl ⟨hk,by simp⟩⟩
   ·rw[List.getElem?_set_ne (Ne.symm hj)]at e2;obtain⟨u',r',q⟩:=hl j y v' e1 e2 e3;refine⟨u',r',?_⟩;rcases q with⟨k,e⟩|⟨k,c,e,z⟩
    ·refine .inl ⟨k,?_⟩;have:y≠x:=fun e=>hj (zjk hN e1 (e▸hi))
     simp[this,e]
    ·exact .inr ⟨k,c,e,z.sameBut hs (cne y c e)⟩
  ·obtain⟨w',z⟩:=I.cell y c e;exact⟨w',z.sameBut hs (cne y c e)⟩
  ·obtain⟨e,n,ne,nf,d⟩:=I.pin p hp;exact⟨(hs.2 p.1 ne).trans e,n,ne,nf,d⟩
 ·have hfn:X.fn x=true:=by
   rcases hf with z|z
   ·exact z
   ·rw[z]at hk;cases hk
  obtain⟨c,hc⟩:=I.ok.has x (.inl hk);obtain⟨w',z⟩:=I.cell x c hc;refine wpAny_storeName_cell I.ok.kind hk hc z (fun h' hc' hs=>?_)
  obtain⟨oc,hoc,hocd⟩:=id z;refine h { s with heap:=h' } ⟨I.ok,I.os,I.bare,⟨fun b o e n hb hx=>?_,fun b o e n hb hx=>?_,I.base.free,fun b o e hx=>?_,I.base.tups,I.base.frzs,I.base.tbls⟩,⟨m,hn.sameBut hs (Ne.symm (cne x c hc)),fun j y v' e1 e2 e3=>?_⟩,fun y c' e=>?_,I.free,I.freeC,fun p hp=>?_,tracked ⟨oc,hoc,I.freeC x c hc⟩ hs,by simpa using I.len⟩ ⟨c,hs,.inr hc⟩
  ·exact(hs.2 b (Nat.ne_of_lt (Nat.lt_of_lt_of_le (Heap.lt_size e) (I.ok.cab x c hfn hc)))).trans (I.base.keep b o e n hb hx)
  ·obtain⟨sl,e1⟩:=I.base.slot b o e n hb hx;exact⟨sl,(hs.2 b (Nat.ne_of_lt (Nat.lt_of_lt_of_le (Heap.lt_size e) (I.ok.cab x c hfn hc)))).trans e1⟩
  ·obtain⟨o',e1⟩:=I.base.there b o e hx;exact⟨o',(hs.2 b (Nat.ne_of_lt (Nat.lt_of_lt_of_le (Heap.lt_size e) (I.ok.cab x c hfn hc)))).trans e1⟩
  ·by_cases hj:j=i
   ·subst hj;rw[hi]at e1;cases e1;rw[List.getElem?_set_self hiσ]at e2;cases e2;exact⟨u,r,.inr ⟨.inl hk,c,hc,hc'⟩⟩
   ·rw[List.getElem?_set_ne (Ne.symm hj)]at e2;obtain⟨u',r',q⟩:=hl j y v' e1 e2 e3;refine⟨u',r',?_⟩;rcases q with q|⟨k,c',e,z'⟩
    ·exact .inl q
    ·refine .inr ⟨k,c',e,z'.sameBut hs ?_⟩;rintro rfl;exact hj (zjk hN e1 (I.ok.inj _ _ _ e hc▸hi))
  ·by_cases hcc:c'=c
   ·subst hcc;exact⟨_,hc'⟩
   ·obtain⟨w2,z2⟩:=I.cell y c' e;exact⟨w2,z2.sameBut hs hcc⟩
  ·obtain⟨e,n,ne,nf,d⟩:=I.pin p hp;refine⟨(hs.2 p.1 ?_).trans e,n,ne,nf,d⟩;intro q;rw[q,hoc]at e;have q':oc=p.2:=Option.some.inj e;exact d w' (by rw[<- q'];exact hocd)
theorem ZG{M:Model}{A:Around}{E:qV}{i:Nat}{x:Str}{v:V}{u:Value}{Q:Unit->Shared->Prop}(I:Inv X pins σ H s)(hN:X.N.Nodup)(hi:X.N[i]?=some x)(hx:Loc X.env.scope x)(r:RelV v u)
  (h:∀s',Inv X pins (σ.set i (some v)) H s'->Q () s') (hf:X.fn x=true\/X.env.scope.names.lookup x=some .local:=by walk_at "F"):wpAny M A (storeName X.env x u) Q E s :=
 zkD I hN hi hx r (fun s' I' _=>h s' I') hf
theorem Inv.call'{s':Shared}{ch:List Addr}(I:Inv X pins σ H s)(ho:s'.os=s.os)(u:Un (frs X.stack) ch H H' s.heap s'.heap)(hok:HOk X.prog X.w H' s'.heap)(hg:AllBare s'.gens)
  (hch:∀b∈ch,(b∈X.ex\/X.s₀.heap.objs.size<=b)/\b≠X.env.locals/\(∀x c,X.env.cells.lookup x=some c->c≠b)/\∀p∈X.pn++pins,p.1≠b):Inv X pins σ H' s':=by
 obtain⟨h',g',d',t',o'⟩:=s';have e:o'=s.os:=ho;subst e;exact I.call (g':=g') (t':=t') (d':=d') u hok hg hch
end
abbrev XK:=Value->Option Addr->Hp->Prop
abbrev St:=List (Option V)
abbrev VK:=V->Hp->Prop
abbrev TE:=St->Hp->VK->Prop
abbrev TT:=St->Hp->(Bool->Hp->Prop)->Prop
abbrev TA:=St->Hp->(List V->Hp->Prop)->Prop
structure Ends where
 nx:St->Hp->Prop
 rt:VK
 bk:St->Hp->Prop:=fun _ _=>False
 ct:St->Hp->Prop:=fun _ _=>False
abbrev TS:=Ends->St->Hp->Prop
def EP(X:Cx)(pins:qO)(σ:St)(Q:VK)(u:Value)(s':Shared):Prop:=∃v H',Inv X pins σ H' s'/\RelV v u/\Q v H'
def TP(X:Cx)(pins:qO)(σ:St)(Q:Bool->Hp->Prop)(b:Bool)(s':Shared):Prop:=∃H',Inv X pins σ H' s'/\Q b H'
def AP(X:Cx)(pins:qO)(σ:St)(Q:List V->Hp->Prop)(us:List Value)(s':Shared):Prop:=∃vs H',Inv X pins σ H' s'/\Vals vs us/\Q vs H'
def SP(X:Cx)(pins:qO)(D:Ends)(f:Flow)(s':Shared):Prop :=
 match f with
 | .next=>∃σ' H',Inv X pins σ' H' s'/\D.nx σ' H'
 | .brk=>∃σ' H',Inv X pins σ' H' s'/\D.bk σ' H'
 | .cont=>∃σ' H',Inv X pins σ' H' s'/\D.ct σ' H'
 | .ret u=>∃v σ' H',Inv X pins σ' H' s'/\RelV v u/\D.rt v H'
def PE(X:Cx)(e:Expr)(t:TE):Prop :=
 ∀(pins:qO) (s:Shared) (σ:St) (H:Hp) (Q:VK),Inv X pins σ H s->t σ H Q->wpAny (model X.prog X.w) X.A (eval e X.env) (EP X pins σ Q) X.xe s
def PT(X:Cx)(e:Expr)(t:TT):Prop :=
 ∀(pins:qO) (s:Shared) (σ:St) (H:Hp) (Q:Bool->Hp->Prop),Inv X pins σ H s->t σ H Q->wpAny (model X.prog X.w) X.A (isTrue e X.env (eval e X.env)) (TP X pins σ Q) X.xe s
def PW(X:Cx)(e:Expr)(t:TT):Prop :=
 ∀(whole:Sem Value) (pins:qO) (s:Shared) (σ:St) (H:Hp) (Q:Bool->Hp->Prop),Inv X pins σ H s->t σ H Q->wpAny (model X.prog X.w) X.A (isTrue e X.env whole) (TP X pins σ Q) X.xe s
theorem PW.pt{X:Cx}{e:Expr}{t:TT}(h:PW X e t):PT X e t:=h _
def PA(X:Cx)(es:List Expr)(t:TA):Prop :=
 ∀(pos:Pos) (pins:qO) (s:Shared) (σ:St) (H:Hp) (Q:List V->Hp->Prop),Inv X pins σ H s->t σ H Q->wpAny (model X.prog X.w) X.A (spliced (backTo pos (starEach es X.env))) (AP X pins σ Q) X.xe s
def PS(X:Cx)(st:Stmt)(t:TS):Prop :=
 ∀(pins:qO) (s:Shared) (σ:St) (H:Hp) (D:Ends),Inv X pins σ H s->t D σ H->wpAny (model X.prog X.w) X.A (exec st X.env) (SP X pins D) X.xe s
def PSs(X:Cx)(st:List Stmt)(t:TS):Prop :=
 ∀(pins:qO) (s:Shared) (σ:St) (H:Hp) (D:Ends),Inv X pins σ H s->t D σ H->wpAny (model X.prog X.w) X.A (execs st X.env) (SP X pins D) X.xe s
theorem thn{α:Type}{t:Sem α}{Q Q':α->Shared->Prop}{M:Model}{A:Around}{E:qV}{s:Shared}(h:wpAny M A t Q E s)(hQ:∀a s,Q a s->Q' a s):wpAny M A t Q' E s:=wpAny_mono h hQ fun _ _ x=>x
section
variable{X:Cx}
def tVar(i:Nat):TE:=fun σ H Q=>∃v,σ[i]?=some (some v)/\Q v H
def tC(v:V):TE:=fun _ H Q=>Q v H
theorem QU{i:Nat}{x:Str}{pos:Pos}(hN:X.N[i]?=some x)(hv:Vis X.env.scope x)(hd:(x == ("__debug__":Str))=false:=by decide) (hcd:(x == ("__classdict__":Str))=false:=by decide):PE X (.Name x pos) (tVar i):=by
 intro pins s σ H Q I h;obtain⟨v,e,h⟩:=h;obtain⟨m,hn,hl⟩:=I.loc;obtain⟨u,r,l⟩:=hl i x v hN e hv;have fin:EP X pins σ Q u s:=⟨v,H,I,r,h⟩;rcases l with⟨hk,hm⟩|⟨hk,c,hc,hcell⟩
 ·exact wpAny_Name (wpAny_loadName_local I.ok.kind hk hn hm fin) hd
 ·rcases hk with hk|hk
  ·exact wpAny_Name (wpAny_loadName_cell I.ok.kind hk hc hcell fin) hd
  ·exact wpAny_Name (wpAny_loadName_free I.ok.kind hk hc hcell fin hcd) hd
theorem JI{i j pos}:PE X (.Constant (.int i) j pos) (tC (.int i)):=fun _ _ _ H _ I h=>wpAny_Constant_int ⟨.int i,H,I.tok _,⟨_,rfl⟩,h⟩
theorem ztL{b j pos}:PE X (.Constant (.bool b) j pos) (tC (.bl b)):=fun _ _ _ H _ I h=>Constant_bool ⟨.bl b,H,I,rfl,h⟩
theorem zqO{j pos}:PE X (.Constant .none j pos) (tC .non):=fun _ _ _ H _ I h=>Constant_none ⟨.non,H,I,rfl,h⟩
def Gl(X:Cx)(x:Str):Prop:=X.env.kindOf x=some .globalImplicit
theorem zo_{E:qV}{pins:qO}{s:Shared}{σ:St}{H:Hp}{x:Str}{u:Value}{pos:Pos}{Q:qV}(I:Inv X pins σ H s)(hg:Gl X x)(hm:X.mg x=some u)(h:Q u s)
  (hd:(x == ("__debug__":Str))=false:=by decide):wpAny (model X.prog X.w) X.A (eval (.Name x pos) X.env) Q E s :=
 Calls.Name_function_global I.ok.kind hg (Calls.loadGlobal_global (by rw[I.ok.glob];exact I.mod.glob.keeps I.bk) hm h) hd
theorem Zk{E:qV}{pins:qO}{s:Shared}{σ:St}{H:Hp}{x:Str}{u:Value}{pos:Pos}{Q:qV}(I:Inv X pins σ H s)(hg:Gl X x)(hm:X.mg x=none)(hv:bootBuiltins x=some u)(h:Q u s)
  (hn:x ≠ "__name__":=by decide) (hd:(x == ("__debug__":Str))=false:=by decide):wpAny (model X.prog X.w) X.A (eval (.Name x pos) X.env) Q E s:=by
 obtain⟨mb,h1,h2⟩:=I.mod.blt;exact Calls.Name_function_global I.ok.kind hg (Calls.loadGlobal_builtin (by rw[I.ok.glob];exact I.mod.glob.keeps I.bk) hm (by rw[I.ok.blt];exact h1.keeps I.bk) ((h2 x hn).trans hv) h) hd
theorem zoR{x:Str}{v:V}{u:Value}{pos:Pos}(hg:Gl X x)(hm:X.mg x=none)(hv:bootBuiltins x=some u)(r:RelV v u)(hn:x ≠ "__name__":=by decide) (hd:(x == ("__debug__":Str))=false:=by decide):PE X (.Name x pos) (tC v) :=
 fun _ _ _ H _ I h=>Zk I hg hm hv ⟨v,H,I,r,h⟩ hn hd
variable{a b:Expr}{ta tb:TE}{pos:Pos}
variable{tA tB':TT}{rest:List Expr}
def tAnd(t u:TT):TT:=fun σ H Q=>t σ H fun c H1=>if c=true then u σ H1 Q else Q false H1
def tOr(t u:TT):TT:=fun σ H Q=>t σ H fun c H1=>if c=true then Q true H1 else u σ H1 Q
def tNot(t:TT):TT:=fun σ H Q=>t σ H fun c H1=>Q (!c) H1
theorem zoD(ha:PT X a tA):PW X (.BoolOp .And [a] pos) tA:=by
 intro wh pins s σ H Q I h;refine isTrue_and (thn (ha pins s σ H Q I h) fun c s1 e=>?_)
 cases c with
 | true=>exact isTrue_and_nil e
 | false=>exact e
theorem zqz(ha:PT X a tA):PW X (.BoolOp .Or [a] pos) tA:=by
 intro wh pins s σ H Q I h;refine isTrue_or (thn (ha pins s σ H Q I h) fun c s1 e=>?_)
 cases c with
 | false=>exact isTrue_or_nil e
 | true=>exact e
theorem zqA(ha:PT X a tA)(hb:PW X (.BoolOp .And (b::rest) pos) tB'):PW X (.BoolOp .And (a::b::rest) pos) (tAnd tA tB'):=by
 intro wh pins s σ H Q I h;refine isTrue_and (thn (ha pins s σ H _ I h) fun c s1 ⟨H1,I1,q1⟩=>?_)
 cases c with
 | true=>exact hb wh pins s1 σ H1 Q I1 q1
 | false=>exact⟨H1,I1,q1⟩
theorem ztH(ha:PT X a tA)(hb:PW X (.BoolOp .Or (b::rest) pos) tB'):PW X (.BoolOp .Or (a::b::rest) pos) (tOr tA tB'):=by
 intro wh pins s σ H Q I h;refine isTrue_or (thn (ha pins s σ H _ I h) fun c s1 ⟨H1,I1,q1⟩=>?_)
 cases c with
 | true=>exact⟨H1,I1,q1⟩
 | false=>exact hb wh pins s1 σ H1 Q I1 q1
theorem zqC(ha:PT X a tA):PT X (.UnaryOp .Not a pos) (tNot tA):=by
 intro pins s σ H Q I h;exact isTrue_not (ha pins s σ H (fun c H1=>Q (!c) H1) I h)
def zs_(ta tb:TE):TE:=fun σ H Q=>ta σ H fun x H1=>∃c,x=.bl c/\if c=true then tb σ H1 Q else Q (.bl false) H1
def tOrV(ta tb:TE):TE:=fun σ H Q=>ta σ H fun x H1=>∃c,x=.bl c/\if c=true then Q (.bl true) H1 else tb σ H1 Q
def zs7(ta:TE):TE:=fun σ H Q=>ta σ H fun x H1=>∃c,x=.bl c/\Q (.bl (!c)) H1
theorem zqM{op}{t:TE}(h:PE X a t):PE X (.BoolOp op [a] pos) t:=fun pins s σ H Q I hw=>BoolOp_one (h pins s σ H Q I hw)
theorem zqU(ha:PE X a ta)(hb:PE X (.BoolOp .And (b::rest) pos) tb):PE X (.BoolOp .And (a::b::rest) pos) (zs_ ta tb):=by
 intro pins s σ H Q I h;refine BoolOp_and (thn (ha pins s σ H _ I h) fun v s1 ⟨x,H1,I1,r1,q1⟩=>?_)
 obtain⟨c,rfl,q1⟩:=q1;cases r1;refine wpAny_truthy_bool ?_;cases c with
 | true=>exact hb pins s1 σ H1 Q I1 q1
 | false=>exact⟨.bl false,H1,I1,rfl,q1⟩
theorem ztK(ha:PE X a ta)(hb:PE X (.BoolOp .Or (b::rest) pos) tb):PE X (.BoolOp .Or (a::b::rest) pos) (tOrV ta tb):=by
 intro pins s σ H Q I h;refine BoolOp_or (thn (ha pins s σ H _ I h) fun v s1 ⟨x,H1,I1,r1,q1⟩=>?_)
 obtain⟨c,rfl,q1⟩:=q1;cases r1;refine wpAny_truthy_bool ?_;cases c with
 | false=>exact hb pins s1 σ H1 Q I1 q1
 | true=>exact⟨.bl true,H1,I1,rfl,q1⟩
theorem zqN(ha:PE X a ta):PE X (.UnaryOp .Not a pos) (zs7 ta):=by
 intro pins s σ H Q I h;refine UnaryOp_ (thn (ha pins s σ H _ I h) fun v s1 ⟨x,H1,I1,r1,q1⟩=>?_)
 obtain⟨c,rfl,q1⟩:=q1;cases r1;exact not_of (wpAny_truthy_bool ⟨.bl (!c),H1,I1,rfl,q1⟩)
end
def SqL(K:qF)(H:Hp)(a:Addr)(xs:List V):Prop :=
 Rd H a (.lst xs) \/
  ∃(o:Obj) (its:Array Value) (n:Nat),K.lookup a=some o/\o.cls=.type "list" /\ o.dict=none/\o.data=.seq its n/\its.size<=sizeLine/\Vals xs its.toList
def SqT(K:qF)(H:Hp)(a:Addr)(xs:List V):Prop :=
 Rd H a (.tup xs) \/
  ∃(o:Obj) (its:Array Value) (n:Nat),K.lookup a=some o/\o.cls=.type "tuple" /\ o.data=.seq its n/\its.size<=sizeLine/\Vals xs its.toList
def absV:Value->Option V
 | .none=>some .non
 | .bool b=>some (.bl b)
 | .int i _=>some (.int i)
 | .str x _=>some (.str x)
 | .bytes b _=>some (.byt b)
 | .float b _=>some (.flt b)
 | .ref a=>some (.ref a)
 | .type n=>some (.ty n)
 | _=>none
theorem RelV.abs{x:V}{u:Value}(r:RelV x u):absV u=some x:=by
 cases x with
 | non=>cases r;rfl
 | bl _=>cases r;rfl
 | int _=>obtain⟨t,rfl⟩:=r;rfl
 | str _=>obtain⟨t,rfl⟩:=r;rfl
 | byt _=>obtain⟨t,rfl⟩:=r;rfl
 | flt _=>obtain⟨t,rfl⟩:=r;rfl
 | ref _=>cases r;rfl
 | ty _=>cases r;rfl
theorem RelV.inj{x y:V}{u:Value}(r:RelV x u)(q:RelV y u):x=y:=Option.some.inj (r.abs.symm.trans q.abs)
theorem Vals.inj:∀{xs ys:List V}{us:List Value},Vals xs us->Vals ys us->xs=ys
 | _,_,_,.nil,.nil=>rfl
 | _,_,_,.cons r t,.cons r' t'=>by rw[r.inj r',Vals.inj t t']
section
variable{X:Cx}{pins:qO}{σ:St}{H:Hp}{s:Shared}{a:Addr}{xs ys:List V}
theorem SqL.of{K:qF}(h:H a=some (.lst xs)):SqL K H a xs:=.inl (.inl h)
theorem Inv.list(I:Inv X pins σ H s)(h:SqL X.K H a xs):∃its:List Value,Vals xs its/\PlainL s.heap a its.toArray/\xs.length<=sizeLine:=by
 rcases h with h|⟨o,its,n,hk,hc,hd,hs,hz,r⟩
 ·obtain⟨z,its,n,r,e⟩:=h.ok I.hok;exact⟨its,r,⟨_,n,e,rfl,rfl,rfl⟩,z⟩
 ·refine⟨its.toList,r,⟨o,n,I.kIn a o hk,hc,hd,by simpa using hs⟩,?_⟩
  have e:=r.length;simp only[Array.length_toList]at e;lia
theorem Inv.tuple(I:Inv X pins σ H s)(h:SqT X.K H a xs):∃its:List Value,Vals xs its/\IsTup s.heap a its.toArray/\xs.length<=sizeLine:=by
 rcases h with h|⟨o,its,n,hk,hc,hs,hz,r⟩
 ·obtain⟨z,its,r,p⟩:=h.ok I.hok;exact⟨its,r,p.tup,z⟩
 ·refine⟨its.toList,r,⟨o,I.kIn a o hk,hc,n,by simpa using hs⟩,?_⟩
  have e:=r.length;simp only[Array.length_toList]at e;lia
theorem Inv.list_inj(I:Inv X pins σ H s)(h:SqL X.K H a xs)(h':SqL X.K H a ys):xs=ys:=by
 obtain⟨its,r,⟨o,n,e,_,_,d⟩,_⟩:=I.list h;obtain⟨its',r',⟨o',n',e',_,_,d'⟩,_⟩:=I.list h';rw[e]at e';cases e';rw[d]at d'
 injection d' with d1 _
 have:its=its':=by simpa using congrArg Array.toList d1
 subst this;exact r.inj r'
theorem Inv.tuple_inj(I:Inv X pins σ H s)(h:SqT X.K H a xs)(h':SqT X.K H a ys):xs=ys:=by
 obtain⟨its,r,⟨o,e,_,n,d⟩,_⟩:=I.tuple h;obtain⟨its',r',⟨o',e',_,n',d'⟩,_⟩:=I.tuple h';rw[e]at e';cases e';rw[d]at d'
 injection d' with d1 _
 have:its=its':=by simpa using congrArg Array.toList d1
 subst this;exact r.inj r'
end
abbrev Cx.wish(X:Cx)(E:qV):Cx:={ X with xe:=E }
abbrev Cx.nox(X:Cx):Cx:=X.wish fun _ _=>False
theorem Cx.Ok.wish{X:Cx}(ok:X.Ok)(E:qV):(X.wish E).Ok :=
 ⟨ok.mod,ok.kind,ok.glob,ok.blt,ok.above,ok.inj,ok.has,ok.cab,ok.hd,ok.frames,ok.stk,ok.exf,ok.bs,ok.bsz,ok.noex,ok.exfs,ok.funs,ok.frf⟩
theorem Cx.Ok.unwish{X:Cx}{E:qV}(ok:(X.wish E).Ok):X.Ok :=
 ⟨ok.mod,ok.kind,ok.glob,ok.blt,ok.above,ok.inj,ok.has,ok.cab,ok.hd,ok.frames,ok.stk,ok.exf,ok.bs,ok.bsz,ok.noex,ok.exfs,ok.funs,ok.frf⟩
section
variable{X:Cx}{pins:qO}{σ:St}{H:Hp}{s:Shared}{E:qV}
theorem Inv.wish(I:Inv X pins σ H s)(E:qV):Inv (X.wish E) pins σ H s:=⟨I.ok.wish E,I.os,I.bare,I.base,I.loc,I.cell,I.free,I.freeC,I.pin,I.hok,I.len⟩
theorem Inv.unwish(I:Inv (X.wish E) pins σ H s):Inv X pins σ H s:=⟨I.ok.unwish,I.os,I.bare,I.base,I.loc,I.cell,I.free,I.freeC,I.pin,I.hok,I.len⟩
theorem SP.unwish{D:Ends}{f:Flow}{s':Shared}(h:SP (X.wish E) pins D f s'):SP X pins D f s':=by
 cases f with
 | next=>obtain⟨σ',H',I,q⟩:=h;exact⟨σ',H',I.unwish,q⟩
 | brk=>obtain⟨σ',H',I,q⟩:=h;exact⟨σ',H',I.unwish,q⟩
 | cont=>obtain⟨σ',H',I,q⟩:=h;exact⟨σ',H',I.unwish,q⟩
 | ret u=>obtain⟨v,σ',H',I,r,q⟩:=h;exact⟨v,σ',H',I.unwish,r,q⟩
theorem PSs.nox{st:List Stmt}{t:TS}(h:PSs X.nox st t):PSs X st t:=fun pins s σ H D I hw =>
 wpAny_mono (h pins s σ H D (I.wish _) hw) (fun _ _ q=>q.unwish) fun _ _ z=>False.elim z
end
section
variable{X:Cx}{st:Stmt}{rest:List Stmt}{t u:TS}{e:Expr}{te:TE}{pos:Pos}
def zs8:TS:=fun D σ H=>D.nx σ H
def tSeq(t u:TS):TS:=fun D σ H=>t { D with nx:=u D } σ H
theorem zib:PSs X [] zs8:=fun _ _ σ H _ I h=>wpAny_execs_nil ⟨σ,H,I,h⟩
theorem QN(h1:PS X st t)(h2:PSs X rest u):PSs X (st::rest) (tSeq t u):=by
 intro pins s σ H D I h;refine wpAny_execs_cons (thn (h1 pins s σ H { D with nx:=u D } I h) fun f s1 q=>?_)
 cases f with
 | next =>
  obtain⟨σ',H',I',q⟩:=q;exact h2 pins s1 σ' H' D I' q
 | ret v=>exact q
 | brk=>exact q
 | cont=>exact q
theorem Zy(h1:PS X st t):PSs X [st] t:=by
 intro pins s σ H D I h;refine wpAny_execs_cons (thn (h1 pins s σ H D I h) fun f s1 q=>?_)
 cases f with
 | next=>exact wpAny_execs_nil q
 | ret v=>exact q
 | brk=>exact q
 | cont=>exact q
theorem Inv.quiet{pins:qO}{σ:St}{H:Hp}{s:Shared}(I:Inv X pins σ H s):interactive X.env=false:=by simp[interactive,I.ok.kind]
def zs9(te:TE):TS:=fun D σ H=>te σ H fun _ H1=>D.nx σ H1
theorem zk2(he:PE X e te)(hs:swapsWith e none pos.line X.env=pure false:=by rfl):PS X (.Expr e pos) (zs9 te):=by
 intro pins s σ H D I h;exact wpAny_Expr_any (thn (he pins s σ H _ I h) fun v s1 ⟨x,H1,I1,r1,q1⟩=>⟨σ,H1,I1,q1⟩) I.quiet hs
def tRet(te:TE):TS:=fun D σ H=>te σ H D.rt
theorem Zs(he:PE X e te):PS X (.Return (some e) pos) (tRet te):=by
 intro pins s σ H D I h;exact wpAny_Return_some (thn (he pins s σ H _ I h) fun v s1 ⟨x,H1,I1,r1,q1⟩=>⟨x,σ,H1,I1,r1,q1⟩)
def tIfS(c:TT)(t u:TS):TS:=fun D σ H=>c σ H fun b H1=>if b=true then t D σ H1 else u D σ H1
theorem zoH{c:Expr}{a b:List Stmt}{tc:TT}(hc:PT X c tc)(ha:PSs X a t)(hb:PSs X b u):PS X (.If c a b pos) (tIfS tc t u):=by
 intro pins s σ H D I h;refine wpAny_If (thn (hc pins s σ H _ I h) fun d s1 ⟨H1,I1,q1⟩=>?_)
 cases d with
 | true=>exact ha pins s1 σ H1 D I1 q1
 | false=>exact hb pins s1 σ H1 D I1 q1
end
abbrev TG:=V->St->Hp->(St->Hp->Prop)->Prop
abbrev TGs:=List V->St->Hp->(St->Hp->Prop)->Prop
def PG(X:Cx)(target:Expr)(t:TG):Prop :=
 ∀(pins:qO) (s:Shared) (σ:St) (H:Hp) (v:V) (u:Value) (Q:St->Hp->Prop),Inv X pins σ H s->RelV v u->t v σ H Q ->
  wpAny (model X.prog X.w) X.A (assign target X.env u) (fun _ s'=>∃σ' H',Inv X pins σ' H' s'/\Q σ' H') X.xe s
def PGs(X:Cx)(ts:List Expr)(t:TGs):Prop :=
 ∀(pins:qO) (s:Shared) (σ:St) (H:Hp) (vs:List V) (us:List Value) (Q:St->Hp->Prop),Inv X pins σ H s->Vals vs us->t vs σ H Q ->
  wpAny (model X.prog X.w) X.A (assignInOrder ((assignEach ts X.env).map (·.2)) us) (fun _ s'=>∃σ' H',Inv X pins σ' H' s'/\Q σ' H') X.xe s
abbrev TSet:=V->V->V->Hp->(Hp->Prop)->Prop
def PSet(X:Cx)(t:TSet):Prop :=
 ∀(pins:qO) (s:Shared) (σ:St) (H:Hp) (o i v:V) (ov iv u:Value) (Q:Hp->Prop),Inv X pins σ H s->RelV o ov->RelV i iv->RelV v u->t o i v H Q ->
  wpAny (model X.prog X.w) X.A (setItem ov iv u) (fun _ s'=>∃H',Inv X pins σ H' s'/\Q H') X.xe s
abbrev TIp:=V->V->Hp->VK->Prop
def PIp(X:Cx)(op:Operator)(t:TIp):Prop :=
 ∀(pins:qO) (s:Shared) (σ:St) (H:Hp) (x y:V) (v u:Value) (Q:VK),Inv X pins σ H s->RelV x v->RelV y u->t x y H Q ->
  wpAny (model X.prog X.w) X.A (inplaceOp op v u) (EP X pins σ Q) X.xe s
section
variable{X:Cx}{pos:Pos}
def zr4(i:Nat):TG:=fun v σ H Q=>Q (σ.set i (some v)) H
theorem zoN{i:Nat}{x:Str}(hN:X.N.Nodup)(hi:X.N[i]?=some x)(hx:Loc X.env.scope x)(hf:X.fn x=true\/X.env.scope.names.lookup x=some .local:=by walk_at "F"):PG X (.Name x pos) (zr4 i):=by
 intro pins s σ H v u Q I r h;exact wpAny_assign_Name (ZG I hN hi hx r (fun s' I'=>⟨_,H,I',h⟩) hf)
def gNil:TGs:=fun vs σ H Q=>vs=[]/\Q σ H
def zus(t:TG)(u:TGs):TGs:=fun vs σ H Q=>∃v r,vs=v::r/\t v σ H fun σ' H'=>u r σ' H' Q
theorem zoM:PGs X [] gNil:=by
 intro pins s σ H vs us Q I r h;obtain⟨e,h⟩:=h;subst e;cases r;exact assignInOrder_nil ⟨σ,H,I,h⟩
theorem zmZ{e:Expr}{es:List Expr}{t:TG}{u:TGs}(h1:PG X e t)(h2:PGs X es u)
  (hs:(assignEach (e::es) X.env).map (·.2)=assign e X.env::(assignEach es X.env).map (·.2):=by rfl):PGs X (e::es) (zus t u):=by
 intro pins s σ H vs us Q I r h;obtain⟨v,vr,e1,h⟩:=h;subst e1;cases r with
 | cons r rr =>
  rw[hs];refine assignInOrder_cons (thn (h1 pins s σ H _ _ _ I r h) fun _ s1 ⟨σ1,H1,I1,q1⟩=>?_)
  exact h2 pins s1 σ1 H1 _ _ Q I1 rr q1
def gTup(K:qF)(n:Nat)(t:TGs):TG:=fun v σ H Q=>∃a xs,v=.ref a/\SqT K H a xs/\xs.length=n/\t xs σ H Q
theorem zqK{es:List Expr}{k:Nat}{t:TGs}{n:Nat}(hc:X.calm=true)(h:PGs X es t)
  (hn:(assignEach es X.env).length=n:=by rfl) (hst:(assignEach es X.env).findIdx? (·.1)=none:=by rfl):PG X (.Tuple es k pos) (gTup X.K n t):=by
 intro pins s σ H v u Q I r hw;obtain⟨a,xs,e1,hq,hl,hw⟩:=hw;subst e1;cases r;obtain⟨its,rv,ht,hz⟩:=I.tuple hq;refine assign_Tuple_tuple (I.ok.hd hc) ht (by simp[hn,<- hl,rv.length]) hst fun h' hx=>?_
 have I1:Inv X pins σ H { s with heap:=h' }:=I.kept (t':=s.toks) fun b o e=>hx b o (Nat.ne_of_lt (Heap.lt_size e)) e
 exact h pins _ σ H xs _ Q I1 (by simpa using rv) hw
def gSub(to ti:TE)(t:TSet):TG:=fun v σ H Q=>to σ H fun o H1=>ti σ H1 fun i H2=>t o i v H2 fun H3=>Q σ H3
theorem pg_sub{o i:Expr}{to ti:TE}{t:TSet}(ho:PE X o to)(hi:PE X i ti)(hs:PSet X t)
  (ha:∀v,assign (.Subscript o i pos) X.env v=(do
   let ov <- holding [v] (eval o X.env)
   let iv <- holding [v,ov] (eval i X.env)
   standAt pos
   holding [v,ov,iv] (setItem ov iv v)
   release [v,ov,iv] []):=by intro _;rfl):PG X (.Subscript o i pos) (gSub to ti t):=by
 intro pins s σ H v u Q I r h;rw[ha];refine wpAny_bind (wpAny_holding (thn (ho pins s σ H _ I h) fun ov s1 ⟨x,H1,I1,r1,q1⟩=>?_))
 refine wpAny_bind (wpAny_holding (thn (hi pins s1 σ H1 _ I1 q1) fun iv s2 ⟨y,H2,I2,r2,q2⟩=>?_))
 refine wpAny_bind (wpAny_standAt (wpAny_bind (wpAny_holding (thn (hs pins s2 σ H2 x y v ov iv u _ I2 r1 r2 r q2) fun _ s3 ⟨H3,I3,q3⟩=>?_))))
 exact wpAny_release ⟨σ,H3,I3,q3⟩
def tAsg(te:TE)(g:TG):TS:=fun D σ H=>te σ H fun x H1=>g x σ H1 D.nx
theorem Z7{tg e:Expr}{te:TE}{g:TG}(he:PE X e te)(hg:PG X tg g)(hs:swapsWithSole [tg] e pos.line X.env=pure false:=by rfl)(hw:swappedStores [tg] e X.env=pure none:=by rfl)
  (h1:(assignEach [tg] X.env).map (·.2)=[assign tg X.env]:=by rfl):PS X (.Assign [tg] e pos) (tAsg te g):=by
 intro pins s σ H D I h;refine wpAny_Assign_stores (thn (he pins s σ H _ I h) fun v s1 ⟨x,H1,I1,r1,q1⟩=>?_) hs hw
 rw[h1];exact thn (hg pins s1 σ H1 x v _ I1 r1 q1) fun _ s2 q=>q
theorem QV{i:Nat}{x:Str}{e:Expr}{te:TE}{pos':Pos}(hN:X.N.Nodup)(hi:X.N[i]?=some x)(hx:Loc X.env.scope x)(he:PE X e te)(hs:swapsWith e (some (.Name x pos')) pos.line X.env=pure false:=by rfl)(hf:X.fn x=true\/X.env.scope.names.lookup x=some .local:=by walk_at "F") :
  PS X (.Assign [.Name x pos'] e pos) (tAsg te (zr4 i)):=by
 intro pins s σ H D I h;refine wpAny_Assign_Name (thn (he pins s σ H _ I h) fun v s1 ⟨y,H1,I1,r1,q1⟩=>?_) hs
 exact ZG I1 hN hi hx r1 (fun s2 I2=>⟨_,H1,I2,q1⟩) hf
def tPar(i j:Nat)(ta:TA):TS:=fun D σ H=>ta σ H fun vs H1=>∃v w,vs=[v,w]/\D.nx ((σ.set i (some v)).set j (some w)) H1
theorem zqD{i j:Nat}{x y:Str}{a b:Expr}{ta:TA}{px py pt:Pos}{kt k2 pt2}(hc:X.calm=true)(hN:X.N.Nodup)(hi:X.N[i]?=some x)(hj:X.N[j]?=some y)(hij:i≠j)
  (hx:X.env.scope.names.lookup x=some .local) (hy:X.env.scope.names.lookup y=some .local) (ha:PA X [a,b] ta)
  (hw:swappedStores [.Tuple [.Name x px,.Name y py] kt pt] (.Tuple [a,b] k2 pt2) X.env=pure (some [x,y]))
  (hs:swapsWithSole [.Tuple [.Name x px,.Name y py] kt pt] (.Tuple [a,b] k2 pt2) pos.line X.env=pure false:=by rfl) :
  PS X (.Assign [.Tuple [.Name x px,.Name y py] kt pt] (.Tuple [a,b] k2 pt2) pos) (tPar i j ta):=by
 intro pins s σ H D I h;rw[exec_Assign_arm];refine wpAny_bind (wpAny_standAt ?_);rw[hs];refine wpAny_bind (wpAny_pure ?_);rw[if_neg (by decide)]
 refine wpAny_bind (Tuple_ (thn (ha _ pins s σ H _ I h) fun us s1 ⟨vs,H1,I1,r1,q1⟩=>?_))
 obtain⟨v,w,e1,q1⟩:=q1;subst e1;obtain⟨u1,u2,rfl,rv,rw'⟩:∃u1 u2,us=[u1,u2]/\RelV v u1/\RelV w u2:=by
  cases r1 with
  | cons p q =>
   cases q with
   | cons p' q' =>
    cases q';exact⟨_,_,rfl,p,p'⟩
 refine wpAny_newObj_type ?_ (by show 2<=sizeLine;decide)
 have I2:Inv X pins σ H1 { s1 with heap:=s1.heap.push { cls:=.type "tuple",data:=.seq [u1,u2].toArray } }:=I1.kept (t':=s1.toks) fun b o e=>Heap.get?_push_of_some _ e
 rw[hw];refine wpAny_bind (wpAny_pure ?_);show wpAny (model X.prog X.w) X.A (do rule "assign.swapped-stores";let items <- unpackItems (.ref s1.heap.objs.size) 2 none;assignInOrder [fun v=>bindName X.env y v,fun v=>bindName X.env x v] items.reverse;pure Flow.next) _ _ _
 refine wpAny_bind (wpAny_rule (wpAny_bind (unpackItems_tuple (items:=#[u1,u2]) (I.ok.hd hc) (IsTup.new s1.heap _) fun h' hx'=>?_)))
 have I3:=I2.kept (h':=h') (t':=s1.toks) fun b o e=>hx' b o (Nat.ne_of_lt (Heap.lt_size e)) e
 show wpAny _ _ (assignInOrder [fun v=>bindName X.env y v,fun v=>bindName X.env x v] [u2,u1] >>= fun _=>pure Flow.next) _ _ _
 refine wpAny_bind (assignInOrder_cons (wpAny_bindName (ZG I3 hN hj (.inl hy) rw' (fun s2 I4=>?_) (.inr hy))))
 refine assignInOrder_cons (wpAny_bindName (ZG I4 hN hi (.inl hx) rv (fun s3 I5=>assignInOrder_nil (wpAny_pure ?_)) (.inr hx)))
 rw[List.set_comm _ _ (Ne.symm hij)]at I5;exact⟨_,H1,I5,q1⟩
def tAug(i:Nat)(te:TE)(ti:TIp):TS:=fun D σ H=>∃x,σ[i]?=some (some x)/\te σ H fun y H1=>ti x y H1 fun z H2=>D.nx (σ.set i (some z)) H2
theorem zqF{i:Nat}{x:Str}{e:Expr}{te:TE}{op:Operator}{ti:TIp}{pos':Pos}(hN:X.N.Nodup)(hi:X.N[i]?=some x)(hx:Loc X.env.scope x)(he:PE X e te)(ho:PIp X op ti)(hf:X.fn x=true\/X.env.scope.names.lookup x=some .local:=by walk_at "F") :
  PS X (.AugAssign (.Name x pos') op e pos) (tAug i te ti):=by
 intro pins s σ H D I h;obtain⟨v,e1,h⟩:=h;obtain⟨m,hn,hl⟩:=I.loc;have vis:Vis X.env.scope x:=by rcases hx with k|k;exact .inl k;exact .inr (.inl k)
 obtain⟨u,r,l⟩:=hl i x v hi e1 vis;refine wpAny_AugAssign_Name ?_;have go:wpAny (model X.prog X.w) X.A (eval e X.env) (fun w s₂=>wpAny (model X.prog X.w) X.A (inplaceOp op u w) (fun r s₃=>wpAny (model X.prog X.w) X.A (storeName X.env x r) (fun _=>SP X pins D .next) X.xe s₃) X.xe s₂) X.xe s:=by
  refine thn (he pins s σ H _ I h) fun w s1 ⟨y,H1,I1,r1,q1⟩=>?_
  refine thn (ho pins s1 σ H1 v y u w _ I1 r r1 q1) fun z s2 ⟨zv,H2,I2,r2,q2⟩=>?_
  exact ZG I2 hN hi hx r2 (fun s3 I3=>⟨_,H2,I3,q2⟩) hf
 rcases l with⟨hk,hm⟩|⟨hk,c,hc,hcell⟩
 ·exact wpAny_loadName_local I.ok.kind hk hn hm go
 ·rcases hk with hk|hk
  ·exact wpAny_loadName_cell I.ok.kind hk hc hcell go
  ·rcases hx with k|k
   ·have:X.env.scope.names.lookup x=some .free:=hk;rw[k]at this;cases this
   ·have:X.env.scope.names.lookup x=some .free:=hk;rw[k]at this;cases this
def ipI(f:Int->Int->Int):TIp:=fun x y H Q=>∃i j,x=.int i/\y=.int j/\Q (.int (f i j)) H
theorem zrE:PIp X .Add (ipI fun i j=>i+j):=by
 intro pins s σ H x y v u Q I r1 r2 h;obtain⟨i,j,e1,e2,q⟩:=h;subst e1;subst e2;obtain⟨t,rfl⟩:=r1;obtain⟨t',rfl⟩:=r2;exact iadd_int ⟨.int _,H,I.tok _,⟨_,rfl⟩,q⟩
end
section
variable{X:Cx}{pos:Pos}
def zp6(c:TT)(tb:TS):TS:=fun D σ H=>∃W:Nat->St->Hp->Prop,(∃m,W m σ H)/\∀m σ H,W m σ H ->
 c σ H fun b H1=>if b=true then ∃N:St->Hp->Prop,(∀σ' H',N σ' H'->∃m',m'<m/\W m' σ' H')/\tb { D with nx:=N,ct:=N,bk:=D.nx } σ H1 else D.nx σ H1
theorem zmW{c:Expr}{body:List Stmt}{tc:TT}{tb:TS}(hp:PassesOwn (model X.prog X.w) X.A X.env X.xe)(hc:PT X c tc)(hb:PSs X body tb):PS X (.While c body [] pos) (zp6 tc tb):=by
 intro pins s σ H D I h;obtain⟨W,⟨m0,w0⟩,turn⟩:=h;refine wpAny_While (codeAny_whileLoop (fun n s'=>∃σ' H',Inv X pins σ' H' s'/\W n σ' H') ?_ m0 ⟨σ,H,I,w0⟩)
 rintro n s1 ⟨σ1,H1,I1,w1⟩;refine wpAny_passesOwn hp (thn (hc pins s1 σ1 H1 _ I1 (turn n σ1 H1 w1)) fun b s2 ⟨H2,I2,q2⟩=>?_)
 cases b with
 | true =>
  obtain⟨N,hN,q2⟩:=q2;rw[if_pos rfl];refine wpAny_passesOwn hp (thn (hb pins s2 σ1 H2 _ I2 q2) fun f s3 q3=>?_)
  cases f with
  | next =>
   obtain⟨σ3,H3,I3,n3⟩:=q3;obtain⟨m',hm,w3⟩:=hN σ3 H3 n3;exact⟨m',hm,σ3,H3,I3,w3⟩
  | cont =>
   obtain⟨σ3,H3,I3,n3⟩:=q3;obtain⟨m',hm,w3⟩:=hN σ3 H3 n3;exact⟨m',hm,σ3,H3,I3,w3⟩
  | brk=>exact q3
  | ret v=>exact q3
 | false =>
  rw[if_neg Bool.false_ne_true];exact wpAny_execs_nil ⟨σ1,H2,I2,q2⟩
end
structure It where
 go:Nat->Hp->Prop
 yld:Nat->Hp->V->Hp->Prop
 stop:Nat->Hp->Prop
def FpOk(X:Cx)(pins:qO)(H:Hp)(b:Addr):Prop :=
 H b=none/\b≠X.env.locals/\b∉X.fs/\(b∈X.ex\/X.s₀.heap.objs.size<=b)/\(∀x c,X.env.cells.lookup x=some c->c≠b)/\∀p∈X.pn++pins,p.1≠b
theorem Inv.fpOk{X:Cx}{pins:qO}{σ:St}{H H':Hp}{s:Shared}{b:Addr}(I:Inv X pins σ H s)(hb:s.heap.objs.size<=b)(hn:H' b=none):FpOk X pins H' b:=by
 refine⟨hn,Nat.ne_of_gt (Nat.lt_of_lt_of_le I.lt hb),I.nofs hb,.inr (Nat.le_trans I.sz hb),fun x c e z=>?_,fun p hp z=>?_⟩
 ·obtain⟨v,q⟩:=I.cell x c e;exact absurd (Nat.lt_of_lt_of_le q.lt (by rw[z];exact hb)) (Nat.lt_irrefl _)
 ·exact absurd (Nat.lt_of_lt_of_le (Heap.lt_size (I.pin p hp).1) (by rw[z];exact hb)) (Nat.lt_irrefl _)
structure Turn(P:Program)(w:World)(K:qF)(tg:Expr)(J:It)(fp:List Addr)(it:Addr)(tn:Nat->Heap->Prop):Prop where
 mem:it∈fp
 obj:∀i h,tn i h->∀b∈fp,∃o,h.get? b=some o/\∀v,o.data≠.cell v
 keep:∀i h h',tn i h->(∀b∈fp,∀o,h.get? b=some o->h'.get? b=some o)->tn i h'
 item:∀(X:Cx),X.prog=P->X.w=w->X.K=K->X.calm=true->∀(i:Nat) (pins:qO) (s:Shared) (σ:St) (H:Hp) (E:qV),Inv X pins σ H s->(∀b∈fp,FpOk X pins H b)->tn i s.heap->J.go i H ->
  wpAny (model P w) X.A (pyNext (.ref it)) (fun r s1=>∃u,r=some u /\
   wpAny (model P w) X.A (letOwnedTupleGo tg (.ref it) u) (fun _ s2=>∃x H',Inv X pins σ H' s2/\RelV x u/\J.yld i H x H'/\tn (i+1) s2.heap/\∀b∈fp,H' b=none) E s1) E s
 done:∀(X:Cx),X.prog=P->X.w=w->X.K=K->X.calm=true->∀(i:Nat) (pins:qO) (s:Shared) (σ:St) (H:Hp) (E:qV),Inv X pins σ H s->(∀b∈fp,FpOk X pins H b)->tn i s.heap->J.stop i H ->
  wpAny (model P w) X.A (pyNext (.ref it)) (fun r s1=>r=none/\Inv X pins σ H s1) E s
 self:∀(A:Around) (i:Nat) (s:Shared) (Q:qV) (E:qV),tn i s.heap->Q (.ref it) s->wpAny (model P w) A (pyIter (.ref it)) Q E s
abbrev TI:=St->Hp->(It->Hp->Prop)->Prop
def PIE(X:Cx)(pins:qO)(σ:St)(tg:Expr)(R:It->Hp->Prop)(itv:Value)(s2:Shared):Prop :=
 ∃(it:Addr) (fp:List Addr) (tn:Nat->Heap->Prop) (J:It) (H':Hp),itv=.ref it/\Inv X pins σ H' s2/\Turn X.prog X.w X.K tg J fp it tn/\tn 0 s2.heap/\(∀b∈fp,FpOk X pins H' b)/\R J H'
def PI(X:Cx)(tg iter:Expr)(wi:TI):Prop :=
 ∀(pins:qO) (s:Shared) (σ:St) (H:Hp) (R:It->Hp->Prop),Inv X pins σ H s->wi σ H R ->
  wpAny (model X.prog X.w) X.A (eval iter X.env) (fun v s1=>wpAny (model X.prog X.w) X.A (pyIter v) (PIE X pins σ tg R) X.xe s1) X.xe s
theorem Zd{M:Model}{A:Around}{E:qV}{s:Shared}{tg:Expr}{it:Addr}{u:Value}{o:Obj}{n:String}{vs:Array Value}{Q:Unit->Shared->Prop}(ho:s.heap.get? it=some o)(hc:o.cls=.type n)(hd:o.data=.fields vs)
  (hn:["enumerate","zip","dict_itemiterator","dict_reverseitemiterator","odict_iterator","itertools.zip_longest","itertools.pairwise"].contains n=false) (hQ:Q () s):wpAny M A (letOwnedTupleGo tg (.ref it) u) Q E s:=by
 unfold letOwnedTupleGo;cases tg <;> first
  | exact wpAny_pure hQ
  | (cases u <;> first
    | exact wpAny_pure hQ
    | (refine wpAny_bind (wpAny_load ho ?_)
       rw[hc,hd];show wpAny M A (if (["enumerate","zip","dict_itemiterator","dict_reverseitemiterator","odict_iterator","itertools.zip_longest","itertools.pairwise"].contains n&&vs[0]? == some (rawInt _))=true then _ else _) Q E s
       rw[if_neg (by intro h;rw[hn,Bool.false_and]at h;cases h)]
       exact wpAny_pure hQ))
def Itl(K:qF)(a:Addr):It :=
 ⟨fun i H=>∃xs x,SqL K H a xs/\xs[i]?=some x,fun i H x H'=>H'=H/\∀xs,SqL K H a xs->xs[i]?=some x,fun i H=>∃xs,SqL K H a xs/\xs.length<=i⟩
def Itt(K:qF)(a:Addr):It :=
 ⟨fun i H=>∃xs x,SqT K H a xs/\xs[i]?=some x,fun i H x H'=>H'=H/\∀xs,SqT K H a xs->xs[i]?=some x,fun i H=>∃xs,SqT K H a xs/\xs.length<=i⟩
def Itr(lo:Int)(n:Nat):It:=⟨fun i _=>i<n,fun i H x H'=>H'=H/\x=.int (lo+i),fun i _=>n<=i⟩
theorem zgU{P:Program}{w:World}{K:qF}{tg:Expr}(a it:Addr):Turn P w K tg (Itl K a) [it] it (fun i h=>h.IsListIter it a i) where
 mem:=by simp
 obj:=fun i h st b hb=>by
  have e:b=it:=by simpa using hb
  subst e;obtain⟨o,e,c,d⟩:=st;exact⟨o,e,fun v z=>by rw[d]at z;cases z⟩
 keep:=fun i h h' st k=>st.at fun o e=>k it (by simp) o e
 item:=by
  intro X hP hw hK hc i pins s σ H E I hf st hg;subst hP hw hK;obtain⟨xs,x,hq,hx⟩:=hg;obtain⟨its,rv,p,hz⟩:=I.list hq;obtain⟨u,hu,ru⟩:=rv.get hx;obtain⟨f0,f1,f2,f3,f4,f5⟩:=hf it (by simp)
  refine wpAny_pyNext_list_item st p.isList (x:=u) (by simpa using hu) fun h' st' sb=>?_
  have I1:Inv X pins σ H { s with heap:=h' }:=I.turned (t':=s.toks) (fun b o hb e=>(sb.2 b hb).trans e) f0 f1 f3 f4 f5
  obtain⟨o,e,c,d⟩:=id st';exact⟨u,rfl,Zd (s:={ s with heap:=h' }) e c d (by decide) ⟨x,H,I1,ru,⟨rfl,fun ys hy=>by rw[I.list_inj hy hq];exact hx⟩,st',fun b hb=>(hf b hb).1⟩⟩
 done:=by
  intro X hP hw hK hc i pins s σ H E I hf st hg;subst hP hw hK;obtain⟨xs,hq,hx⟩:=hg;obtain⟨its,rv,p,hz⟩:=I.list hq;obtain⟨f0,f1,f2,f3,f4,f5⟩:=hf it (by simp)
  have hl:=rv.length;exact wpAny_pyNext_list_end (I.ok.hd hc) st p.isList (by simp;lia) fun h' eb=>⟨rfl,I.turned (t':=s.toks) (fun b o hb e=>eb b o hb e) f0 f1 f3 f4 f5⟩
 self:=fun _ _ _ _ _ st h=>wpAny_pyIter_listiter st h
theorem zfw{P:Program}{w:World}{K:qF}{tg:Expr}(a it:Addr):Turn P w K tg (Itt K a) [it] it (fun i h=>h.IsTupleIter it a i) where
 mem:=by simp
 obj:=fun i h st b hb=>by
  have e:b=it:=by simpa using hb
  subst e;obtain⟨o,e,c,d⟩:=st;exact⟨o,e,fun v z=>by rw[d]at z;cases z⟩
 keep:=fun i h h' st k=>st.at fun o e=>k it (by simp) o e
 item:=by
  intro X hP hw hK hc i pins s σ H E I hf st hg;subst hP hw hK;obtain⟨xs,x,hq,hx⟩:=hg;obtain⟨its,rv,p,hz⟩:=I.tuple hq;obtain⟨u,hu,ru⟩:=rv.get hx;obtain⟨f0,f1,f2,f3,f4,f5⟩:=hf it (by simp)
  refine wpAny_pyNext_tuple_item st (show s.heap.IsTuple a its.toArray from p) (x:=u) (by simpa using hu) fun h' st' sb=>?_
  have I1:Inv X pins σ H { s with heap:=h' }:=I.turned (t':=s.toks) (fun b o hb e=>(sb.2 b hb).trans e) f0 f1 f3 f4 f5
  obtain⟨o,e,c,d⟩:=id st';exact⟨u,rfl,Zd (s:={ s with heap:=h' }) e c d (by decide) ⟨x,H,I1,ru,⟨rfl,fun ys hy=>by rw[I.tuple_inj hy hq];exact hx⟩,st',fun b hb=>(hf b hb).1⟩⟩
 done:=by
  intro X hP hw hK hc i pins s σ H E I hf st hg;subst hP hw hK;obtain⟨xs,hq,hx⟩:=hg;obtain⟨its,rv,p,hz⟩:=I.tuple hq;obtain⟨f0,f1,f2,f3,f4,f5⟩:=hf it (by simp)
  have hl:=rv.length;exact wpAny_pyNext_tuple_end (I.ok.hd hc) st (show s.heap.IsTuple a its.toArray from p) (by simp;lia) fun h' eb=>⟨rfl,I.turned (t':=s.toks) (fun b o hb e=>eb b o hb e) f0 f1 f3 f4 f5⟩
 self:=fun _ _ _ _ _ st h=>wpAny_pyIter_tupleiter st h
theorem zjN{P:Program}{w:World}{K:qF}{tg:Expr}(it:Addr)(lo:Int)(n:Nat):Turn P w K tg (Itr lo n) [it] it (fun i h=>IsRangeIter h it (lo+(i:Nat)*1) ((n:Int) - (i:Nat)) 1) where
 mem:=by simp
 obj:=fun i h st b hb=>by
  have e:b=it:=by simpa using hb
  subst e;exact⟨_,st,fun v z=>by
   have z':Data.fields _=Data.cell v:=z;cases z'⟩
 keep:=fun i h h' st k=>k it (by simp) _ st
 item:=by
  intro X hP hw hK hc i pins s σ H E I hf st hg;subst hP hw hK;obtain⟨f0,f1,f2,f3,f4,f5⟩:=hf it (by simp)
  have W:=Walks.range (prog:=X.prog) (w:=X.w) (I.ok.hd hc) it lo 1 n;refine W.item i s _ _ hg st fun v h' tk hv st' kk=>?_
  obtain⟨t,rfl⟩:=hv;have I1:Inv X pins σ H { s with heap:=h',toks:=tk }:=I.turned (fun b o hb e=>kk b o (by simpa using hb) e) f0 f1 f3 f4 f5
  refine⟨_,rfl,Zd (s:={ s with heap:=h',toks:=tk }) (n:="range_iterator") st' rfl rfl (by decide) ⟨.int (lo+i),H,I1,⟨t,?_⟩,⟨rfl,rfl⟩,st',fun b hb=>(hf b hb).1⟩⟩
  rw[Int.mul_one]
 done:=by
  intro X hP hw hK hc i pins s σ H E I hf st hg;subst hP hw hK;obtain⟨f0,f1,f2,f3,f4,f5⟩:=hf it (by simp)
  exact wpAny_pyNext_range_end (I.ok.hd hc) st (by have:n<=i:=hg;lia) fun h' eb=>⟨rfl,I.turned (t':=s.toks) (fun b o hb e=>eb b o hb e) f0 f1 f3 f4 f5⟩
 self:=fun _ _ _ _ _ st h=>wpAny_pyIter_rangeiter st h
section
variable{X:Cx}{tg:Expr}
def zup(K:qF)(tl:TE):TI:=fun σ H R=>tl σ H fun x H1=>∃a,x=.ref a/\(∃xs,SqL K H1 a xs)/\R (Itl K a) H1
def iTup(K:qF)(tl:TE):TI:=fun σ H R=>tl σ H fun x H1=>∃a,x=.ref a/\(∃xs,SqT K H1 a xs)/\R (Itt K a) H1
theorem zk9{l:Expr}{tl:TE}(hl:PE X l tl):PI X tg l (zup X.K tl):=by
 intro pins s σ H R I h;refine thn (hl pins s σ H _ I h) fun v s1 ⟨x,H1,I1,r1,q1⟩=>?_
 obtain⟨a,e,⟨xs,hq⟩,q⟩:=q1;subst e;cases r1;obtain⟨its,rv,p,hz⟩:=I1.list hq;refine wpAny_pyIter_list p.isList ?_;refine⟨s1.heap.objs.size,[s1.heap.objs.size],_,_,H1,rfl,I1.kept (t':=s1.toks) fun b o e=>Heap.get?_push_of_some _ e,zgU a _,⟨_,Heap.get?_push_size _ rfl,rfl,rfl⟩,fun b hb=>?_,q⟩
 have e:b=s1.heap.objs.size:=by simpa using hb
 subst e;exact I1.fpOk (Nat.le_refl _) (I1.hok.fresh (Nat.le_refl _))
theorem zqH{l:Expr}{tl:TE}(hl:PE X l tl):PI X tg l (iTup X.K tl):=by
 intro pins s σ H R I h;refine thn (hl pins s σ H _ I h) fun v s1 ⟨x,H1,I1,r1,q1⟩=>?_
 obtain⟨a,e,⟨xs,hq⟩,q⟩:=q1;subst e;cases r1;obtain⟨its,rv,p,hz⟩:=I1.tuple hq;refine wpAny_pyIter_tuple (show s1.heap.IsTuple a its.toArray from p) ?_
 refine⟨s1.heap.objs.size,[s1.heap.objs.size],_,_,H1,rfl,I1.kept (t':=s1.toks) fun b o e=>Heap.get?_push_of_some _ e,zfw a _,⟨_,Heap.get?_push_size _ rfl,rfl,rfl⟩,fun b hb=>?_,q⟩
 have e:b=s1.heap.objs.size:=by simpa using hb
 subst e;exact I1.fpOk (Nat.le_refl _) (I1.hok.fresh (Nat.le_refl _))
theorem zmS{pins:qO}{σ:St}{H:Hp}{s:Shared}{R:It->Hp->Prop}{E:qV}{lo hi:Int}{t u v:Tok}{tk:Nat}(I:Inv X pins σ H s)(h1:-(2 ^ 62)<=lo)(h2:lo<2 ^ 62)(h3:-(2 ^ 62)<=hi)(h4:hi<2 ^ 62)
  (q:R (Itr lo (hi - lo).toNat) H):wpAny (model X.prog X.w) X.A (pyIter (.ref s.heap.objs.size)) (PIE X pins σ tg R) E { s with heap:=s.heap.push { cls:=.type "range",data:=.fields #[.int lo t,.int hi u,.int 1 v] },toks:=tk }:=by
 refine wpAny_pyIter_range (IsRange.new ..) (small_one h1 h2 h3 h4) ?_;have I1:Inv X pins σ H { s with heap:=s.heap.push { cls:=.type "range",data:=.fields #[.int lo t,.int hi u,.int 1 v] },toks:=tk }:=I.kept fun b o e=>Heap.get?_push_of_some _ e
 refine⟨(s.heap.push { cls:=.type "range",data:=.fields #[.int lo t,.int hi u,.int 1 v] }).objs.size,[(s.heap.push { cls:=.type "range",data:=.fields #[.int lo t,.int hi u,.int 1 v] }).objs.size],_,_,H,rfl,
  I1.kept (t':=tk) fun b o e=>Heap.get?_push_of_some _ e,zjN _ lo (hi - lo).toNat,?_,fun b hb=>?_,q⟩
 ·have e1:lo+((0:Nat):Int)*1=lo:=by simp
  have e2:(((hi - lo).toNat:Nat):Int) - ((0:Nat):Int)=Builtin.Range.rangeSize lo hi 1:=by rw[rangeSize_one];split <;> lia
  show IsRangeIter _ _ (lo+((0:Nat):Int)*1) ((((hi - lo).toNat:Nat):Int) - ((0:Nat):Int)) 1
  rw[e1,e2];exact Heap.get?_push_size _ rfl
 ·have e:b=(s.heap.push { cls:=.type "range",data:=.fields #[.int lo t,.int hi u,.int 1 v] }).objs.size:=by simpa using hb
  subst e;exact I1.fpOk (Nat.le_refl _) (I1.hok.fresh (Nat.le_refl _))
def zuo(ta:TA):TI:=fun σ H R=>ta σ H fun vs H1=>∃j:Int,vs=[.int j]/\-(2 ^ 62)<=j/\j<2 ^ 62/\R (Itr 0 j.toNat) H1
theorem zk8{a:Expr}{ta:TA}{p pos:Pos}(hg:Gl X "range") (hm:X.mg "range" = none) (ha:PA X [a] ta) (hs:starEach [a] X.env=[(false,eval a X.env)]:=by rfl):PI X tg (.Call (.Name "range" p) [a] [] pos) (zuo ta):=by
 intro pins s σ H R I h;refine Call_ (Zk I hg hm boot_range (PyProof.Rows.callWith_type1 (thn (ha pos pins s σ H _ I h) fun us s1 ⟨vs,H1,I1,r1,q1⟩=>?_) hs rfl))
 obtain⟨j,e,q1,q2,q⟩:=q1;subst e;cases r1 with
 | cons r rr =>
  cases rr;obtain⟨t,rfl⟩:=r;exact call_range_1 (zmS I1 (by lia) (by lia) q1 q2 (by simpa using q))
def tFor(wi:TI)(g:TG)(tb:TS):TS:=fun D σ H=>wi σ H fun J H1=>∃W:Nat->Nat->St->Hp->Prop,(∃m,W 0 m σ H1)/\∀i m σ H,W i m σ H ->
 (J.stop i H/\D.nx σ H)\/(J.go i H/\∃N:St->Hp->Prop,(∀σ' H',N σ' H'->∃m',m'<m/\W (i+1) m' σ' H')/\∀x H',J.yld i H x H'->g x σ H' fun σ2 H2=>tb { D with nx:=N,ct:=N,bk:=D.nx } σ2 H2)
def Ut(fp:List Addr)(h:Heap):List (Addr×Obj):=fp.filterMap fun b=>(h.get? b).map fun o=>(b,o)
theorem Q1{fp:List Addr}{h:Heap}{b:Addr}{o:Obj}(hb:b∈fp)(e:h.get? b=some o):(b,o)∈Ut fp h:=List.mem_filterMap.mpr ⟨b,hb,by rw[e];rfl⟩
theorem zls{fp:List Addr}{h:Heap}{p:Addr×Obj}(hp:p∈Ut fp h):p.1∈fp/\h.get? p.1=some p.2:=by
 obtain⟨b,hb,e⟩:=List.mem_filterMap.mp hp;cases q:h.get? b with
 | none=>rw[q]at e;cases e
 | some o =>
  rw[q]at e;have e':(b,o)=p:=Option.some.inj e;subst e';exact⟨hb,q⟩
theorem Inv.pinned{pins:qO}{σ:St}{H:Hp}{s:Shared}{fp:List Addr}(I:Inv X pins σ H s)(hf:∀b∈fp,FpOk X pins H b)(ho:∀b∈fp,∃o,s.heap.get? b=some o/\∀v,o.data≠.cell v):Inv X (pins++Ut fp s.heap) σ H s :=
 I.pins_of fun p hp=>(List.mem_append.mp hp).elim (fun z=>I.pin p (List.mem_append_right _ z)) fun z=>by
  obtain⟨hb,e⟩:=zls z;obtain⟨f0,f1,f2,_⟩:=hf p.1 hb;obtain⟨o,e',d⟩:=ho p.1 hb;rw[e]at e';cases e';exact⟨e,f0,f1,f2,d⟩
theorem Inv.unpinned{pins pl:qO}{σ:St}{H:Hp}{s:Shared}(I:Inv X (pins++pl) σ H s):Inv X pins σ H s:=I.pins_of fun p hp=>I.pin p (List.mem_append_right _ (List.mem_append_left _ hp))
theorem zqE{iter:Expr}{body:List Stmt}{wi:TI}{g:TG}{tb:TS}{pos:Pos}(hp:PassesOwn (model X.prog X.w) X.A X.env X.xe)(hc:X.calm=true)(hi:PI X tg iter wi)(hg:PG X tg g)(hb:PSs X body tb)
  (hs:∀x,foldedSetIterable iter X.env x=pure x:=by intro _;rfl):PS X (.For tg iter body [] pos) (tFor wi g tb):=by
 intro pins s σ H D I h;refine wpAny_For (thn (hi pins s σ H _ I h) fun v s1 h1=>thn h1 fun itv s2 h2=>?_) hs
 obtain⟨it,fp,tn,J,H2,e,I2,T,st2,f2,W,⟨m0,w0⟩,turn⟩:=h2;subst e;have stat:∀{H':Hp},(∀b∈fp,H' b=none)->∀b∈fp,FpOk X pins H' b:=fun hn b hb=>⟨hn b hb,(f2 b hb).2⟩
 refine codeAny_forLoop_any (fun n s'=>∃i σ' H',Inv X pins σ' H' s'/\tn i s'.heap/\(∀b∈fp,H' b=none)/\W i n σ' H') ?_ m0 ⟨0,σ,H2,I2,st2,fun b hb=>(f2 b hb).1,w0⟩
 rintro n s3 ⟨i,σ3,H3,I3,st3,fr3,w3⟩;rcases turn i n σ3 H3 w3 with⟨stop,qn⟩|⟨go,N,hN,step⟩
 ·refine wpAny_passesOwn hp (thn (T.done X rfl rfl rfl hc i pins s3 σ3 H3 X.xe I3 (stat fr3) st3 stop) fun r s4 ⟨hr,I4⟩=>?_)
  subst hr;exact wpAny_execs_nil ⟨σ3,H3,I4,qn⟩
 ·refine wpAny_passesOwn hp (thn (T.item X rfl rfl rfl hc i pins s3 σ3 H3 X.xe I3 (stat fr3) st3 go) fun r s4 ⟨u,hr,h4⟩=>?_)
  subst hr;refine wpAny_passesOwn hp (thn h4 fun _ s5 ⟨x,H5,I5,r5,y5,st5,fr5⟩=>?_)
  have I5':=I5.pinned (stat fr5) (T.obj _ _ st5);refine wpAny_passesOwn hp (thn (hg _ s5 σ3 H5 x u _ I5' r5 (step x H5 y5)) fun _ s6 ⟨σ6,H6,I6,q6⟩=>?_)
  refine wpAny_passesOwn hp (thn (hb _ s6 σ6 H6 _ I6 q6) fun f s7 q7=>?_)
  have again:∀{σ7:St} {H7:Hp},Inv X (pins++Ut fp s5.heap) σ7 H7 s7->N σ7 H7->∃m,m<n/\∃i σ' H',Inv X pins σ' H' s7/\tn i s7.heap/\(∀b∈fp,H' b=none)/\W i m σ' H':=fun {σ7 H7} I7 n7=>by
   obtain⟨m',hm,w7⟩:=hN σ7 H7 n7;refine⟨m',hm,i+1,σ7,H7,I7.unpinned,T.keep _ _ _ st5 fun b hb o e=>(I7.pin (b,o) (List.mem_append_right _ (List.mem_append_right _ (Q1 hb e)))).1,fun b hb=>?_,w7⟩
   obtain⟨o,e,d⟩:=T.obj _ _ st5 b hb;exact(I7.pin (b,o) (List.mem_append_right _ (List.mem_append_right _ (Q1 hb e)))).2.1
  cases f with
  | next=>obtain⟨σ7,H7,I7,n7⟩:=q7;exact again I7 n7
  | cont=>obtain⟨σ7,H7,I7,n7⟩:=q7;exact again I7 n7
  | brk=>obtain⟨σ7,H7,I7,q7⟩:=q7;exact⟨σ7,H7,I7.unpinned,q7⟩
  | ret v=>obtain⟨x7,σ7,H7,I7,r7,q7⟩:=q7;exact⟨x7,σ7,H7,I7.unpinned,r7,q7⟩
end
abbrev R2:=V->V->Hp->VK->Prop
def OpR(X:Cx)(f:Value->Value->Sem Value)(r:R2):Prop :=
 ∀(pins:qO) (s:Shared) (σ:St) (H:Hp) (x y:V) (v u:Value) (Q:VK),Inv X pins σ H s->RelV x v->RelV y u->r x y H Q ->
  wpAny (model X.prog X.w) X.A (f v u) (EP X pins σ Q) X.xe s
def UnR(X:Cx)(f:Value->Sem Value)(r:V->Hp->VK->Prop):Prop :=
 ∀(pins:qO) (s:Shared) (σ:St) (H:Hp) (x:V) (v:Value) (Q:VK),Inv X pins σ H s->RelV x v->r x H Q ->
  wpAny (model X.prog X.w) X.A (f v) (EP X pins σ Q) X.xe s
def JU(X:Cx)(f:Value)(r:List V->Hp->VK->Prop):Prop :=
 ∀(pins:qO) (s:Shared) (σ:St) (H:Hp) (xs:List V) (us:List Value) (Q:VK),Inv X pins σ H s->Vals xs us->r xs H Q ->
  wpAny (model X.prog X.w) X.A (call f us) (EP X pins σ Q) X.xe s
def TruR(X:Cx)(r:V->Hp->(Bool->Hp->Prop)->Prop):Prop :=
 ∀(pins:qO) (s:Shared) (σ:St) (H:Hp) (x:V) (v:Value) (Q:Bool->Hp->Prop),Inv X pins σ H s->RelV x v->r x H Q ->
  wpAny (model X.prog X.w) X.A (truthy v) (TP X pins σ Q) X.xe s
def tOp(r:R2)(ta tb:TE):TE:=fun σ H Q=>ta σ H fun x H1=>tb σ H1 fun y H2=>r x y H2 Q
def tUn(r:V->Hp->VK->Prop)(ta:TE):TE:=fun σ H Q=>ta σ H fun x H1=>r x H1 Q
def rI(C:Int->Int->Prop)(g:Int->Int->V):R2:=fun x y H Q=>∃i j,x=.int i/\y=.int j/\C i j/\Q (g i j) H
def rI0(g:Int->Int->V):R2:=fun x y H Q=>∃i j,x=.int i/\y=.int j/\Q (g i j) H
def rU(g:Int->V):V->Hp->VK->Prop:=fun x H Q=>∃i,x=.int i/\Q (g i) H
section
variable{X:Cx}{a b c:Expr}{ta tb tc:TE}{pos:Pos}
theorem binT(ha:PE X a ta)(hb:PE X b tb){pins:qO}{s:Shared}{σ:St}{H:Hp}{R:V->V->Hp->Prop}(I:Inv X pins σ H s)
  (h:ta σ H fun x H1=>tb σ H1 fun y H2=>R x y H2) {Q:qV} {f:Value->Value->Sem Value}
  (hf:∀v u s2 x y H2,Inv X pins σ H2 s2->RelV x v->RelV y u->R x y H2->wpAny (model X.prog X.w) X.A (f v u) Q X.xe s2) :
  wpAny (model X.prog X.w) X.A (eval a X.env) (fun v s₁=>wpAny (model X.prog X.w) X.A (eval b X.env) (fun u s₂=>wpAny (model X.prog X.w) X.A (f v u) Q X.xe s₂) X.xe s₁) X.xe s:=by
 refine thn (ha pins s σ H _ I h) fun v s1 ⟨x,H1,I1,r1,q1⟩=>?_
 refine thn (hb pins s1 σ H1 _ I1 q1) fun u s2 ⟨y,H2,I2,r2,q2⟩=>?_
 exact hf v u s2 x y H2 I2 r1 r2 q2
theorem JK{op:Operator}{r:R2}(ho:OpR X (binaryOp op) r)(ha:PE X a ta)(hb:PE X b tb):PE X (.BinOp a op b pos) (tOp r ta tb):=by
 intro pins s σ H Q I h;exact wpAny_BinOp (binT ha hb I h fun v u s2 x y H2 I2 rx ry q=>ho pins s2 σ H2 x y v u Q I2 rx ry q)
theorem ztI{op:UnaryOp}{r:V->Hp->VK->Prop}(ho:UnR X (unaryOp op) r)(ha:PE X a ta):PE X (.UnaryOp op a pos) (tUn r ta):=by
 intro pins s σ H Q I h;exact UnaryOp_ (thn (ha pins s σ H _ I h) fun v s1 ⟨x,H1,I1,r1,q1⟩=>ho pins s1 σ H1 x v Q I1 r1 q1)
theorem opI{f:Value->Value->Sem Value}{C:Int->Int->Prop}{g:Int->Int->Int}
  (rule:∀(i j:Int) (t u:Tok) (s:Shared) (Q:qV) (E:qV),C i j->Q (.int (g i j) s.toks) { s with toks:=s.toks+1 }->wpAny (model X.prog X.w) X.A (f (.int i t) (.int j u)) Q E s) :
  OpR X f (rI C fun i j=>.int (g i j)):=by
 intro pins s σ H x y v u Q I rx ry h;obtain⟨i,j,rfl,rfl,hc,q⟩:=h;obtain⟨t,rfl⟩:=rx;obtain⟨t',rfl⟩:=ry;exact rule i j t t' s _ _ hc ⟨.int (g i j),H,I.tok _,⟨_,rfl⟩,q⟩
theorem opI0{f:Value->Value->Sem Value}{g:Int->Int->Int}
  (rule:∀(i j:Int) (t u:Tok) (s:Shared) (Q:qV) (E:qV),Q (.int (g i j) s.toks) { s with toks:=s.toks+1 }->wpAny (model X.prog X.w) X.A (f (.int i t) (.int j u)) Q E s) :
  OpR X f (rI0 fun i j=>.int (g i j)):=by
 intro pins s σ H x y v u Q I rx ry h;obtain⟨i,j,rfl,rfl,q⟩:=h;obtain⟨t,rfl⟩:=rx;obtain⟨t',rfl⟩:=ry;exact rule i j t t' s _ _ ⟨.int (g i j),H,I.tok _,⟨_,rfl⟩,q⟩
theorem opB0{f:Value->Value->Sem Value}{g:Int->Int->Bool}
  (rule:∀(i j:Int) (t u:Tok) (s:Shared) (Q:qV) (E:qV),Q (.bool (g i j)) s->wpAny (model X.prog X.w) X.A (f (.int i t) (.int j u)) Q E s) :
  OpR X f (rI0 fun i j=>.bl (g i j)):=by
 intro pins s σ H x y v u Q I rx ry h;obtain⟨i,j,rfl,rfl,q⟩:=h;obtain⟨t,rfl⟩:=rx;obtain⟨t',rfl⟩:=ry;exact rule i j t t' s _ _ ⟨.bl (g i j),H,I,rfl,q⟩
def CPow(i j:Int):Prop:=0<=j/\j<=1000000/\i.natAbs<2 ^ 64
def CMul(i j:Int):Prop:=(-(2 ^ 64)<i/\i<2 ^ 64)\/(-(2 ^ 64)<j/\j<2 ^ 64)
theorem CMul.ok{i j:Int}(h:CMul i j):IntMulOk i j:=by
 rcases h with⟨h1,h2⟩|⟨h1,h2⟩
 ·exact .of_left (intBits_le_64 h1 h2)
 ·exact .of_right (intBits_le_64 h1 h2)
theorem zjM(k:Nat):(0:Int)<=2 ^ k:=by
 rw[two_pow_cast];exact Int.natCast_nonneg _
theorem Q5:OpR X (binaryOp .Add) (rI0 fun i j=>.int (i+j)):=opI0 fun _ _ _ _ _ _ _ q=>add_int q
theorem zqZ:OpR X (binaryOp .Sub) (rI0 fun i j=>.int (i - j)):=opI0 fun _ _ _ _ _ _ _ q=>sub_int q
theorem Q6:OpR X (binaryOp .Mult) (rI CMul fun i j=>.int (i*j)):=opI fun _ _ _ _ _ _ _ hc q=>mul_int q hc.ok
theorem Yi:OpR X (binaryOp .Mod) (rI (fun _ j=>0<j) fun i j=>.int (i % j)):=opI fun i j _ _ _ _ _ hc q=>by
 have h1:(0:Int)<j:=hc;exact mod_int' (by lia) (by rw[Int.fmod_eq_emod_of_nonneg i (by lia)];exact q)
theorem zq2:OpR X (binaryOp .Pow) (rI CPow fun i j=>.int (i ^ j.toNat)):=opI fun _ _ _ _ _ _ _ hc q=>pow_int_small hc.1 hc.2.1 hc.2.2 q
theorem zq1:OpR X (binaryOp .LShift) (rI CPow fun i j=>.int (i*2 ^ j.toNat)):=opI fun _ _ _ _ _ _ _ hc q=>lshift_int_small hc.1 hc.2.1 hc.2.2 q
theorem zq0:OpR X (binaryOp .RShift) (rI (fun _ j=>0<=j) fun i j=>.int (i / 2 ^ j.toNat)):=opI fun i j _ _ _ _ _ hc q =>
 rshift_int hc (by rw[Int.fdiv_eq_ediv_of_nonneg i (zjM _)];exact q)
theorem zq_:OpR X (binaryOp .BitAnd) (rI0 fun i j=>.int (Builtin.bitAnd i j)):=opI0 fun _ _ _ _ _ _ _ q=>and_int q
theorem zqY:OpR X (binaryOp .BitXor) (rI0 fun i j=>.int (Builtin.bitXor i j)):=opI0 fun _ _ _ _ _ _ _ q=>xor_int q
theorem unI{f:Value->Sem Value}{g:Int->Int}
  (rule:∀(i:Int) (t:Tok) (s:Shared) (Q:qV) (E:qV),Q (.int (g i) s.toks) { s with toks:=s.toks+1 }->wpAny (model X.prog X.w) X.A (f (.int i t)) Q E s) :
  UnR X f (rU fun i=>.int (g i)):=by
 intro pins s σ H x v Q I rx h;obtain⟨i,rfl,q⟩:=h;obtain⟨t,rfl⟩:=rx;exact rule i t s _ _ ⟨.int (g i),H,I.tok _,⟨_,rfl⟩,q⟩
theorem zp2:UnR X (unaryOp .USub) (rU fun i=>.int (-i)):=unI fun _ _ _ _ _ q=>neg_int q
end
def scal:V->V->Bool
 | .non,.non=>true|.non,.int _=>true|.int _,.non=>true|.non,.bl _=>true|.bl _,.non=>true|.non,.str _=>true|.str _,.non=>true
 | .int _,.int _=>true|.bl _,.bl _=>true|.str _,.str _=>true|.byt _,.byt _=>true
 | .int _,.str _=>true|.str _,.int _=>true|.bl _,.str _=>true|.str _,.bl _=>true
 | _,_=>false
def rEq:R2:=fun x y H Q=>scal x y=true/\Q (.bl (decide (x=y))) H
def rNe:R2:=fun x y H Q=>scal x y=true/\Q (.bl (!decide (x=y))) H
theorem zl1{i j:Int}:decide (V.int i=V.int j)=(i == j):=by
 rw[Bool.eq_iff_iff];simp
theorem zoc{i j:Bool}:decide (V.bl i=V.bl j)=(i == j):=by
 rw[Bool.eq_iff_iff];simp
theorem zl0{i j:Str}:decide (V.str i=V.str j)=(i == j):=by
 rw[Bool.eq_iff_iff];simp
theorem zl2{i j:Array UInt8}:decide (V.byt i=V.byt j)=(i.toList == j.toList):=by
 rw[Bool.eq_iff_iff];cases i;cases j;simp
section
variable{X:Cx}{a b c:Expr}{ta tb tc:TE}{pos:Pos}
theorem JD{pins:qO}{σ:St}{H:Hp}{s:Shared}{Q:VK}{k k':Bool}(I:Inv X pins σ H s)(q:Q (.bl k) H)(e:k=k'):EP X pins σ Q (.bool k') s:=by
 subst e;exact⟨.bl k,H,I,rfl,q⟩
theorem ztP:OpR X (compareOp .Eq) rEq:=by
 intro pins s σ H x y v u Q I rx ry h;obtain⟨hs,q⟩:=h;cases x with
 | non =>
  cases rx;cases y with
  | non=>cases ry;exact PySem.EqNone.eq_none_none (JD I q (by simp))
  | bl j=>cases ry;exact PySem.EqNone.eq_none_bool (JD I q (by simp))
  | int j=>obtain⟨t',rfl⟩:=ry;exact PySem.EqNone.eq_none_int (JD I q (by simp))
  | str j=>obtain⟨t',rfl⟩:=ry;exact PySem.EqNone.eq_none_str (JD I q (by simp))
  | _=>exact absurd (show false=true from hs) Bool.false_ne_true
 | bl i =>
  cases rx;cases y with
  | non=>cases ry;exact PySem.EqNone.eq_bool_none (JD I q (by simp))
  | bl j=>cases ry;exact eq_bool (JD I q zoc)
  | str j=>obtain⟨t',rfl⟩:=ry;exact PySem.EqMixed.eq_bool_str (JD I q (by simp))
  | _=>exact absurd (show false=true from hs) Bool.false_ne_true
 | int i =>
  obtain⟨t,rfl⟩:=rx;cases y with
  | non=>cases ry;exact PySem.EqNone.eq_int_none (JD I q (by simp))
  | int j=>obtain⟨t',rfl⟩:=ry;exact eq_int (JD I q zl1)
  | str j=>obtain⟨t',rfl⟩:=ry;exact PySem.EqMixed.eq_int_str (JD I q (by simp))
  | _=>exact absurd (show false=true from hs) Bool.false_ne_true
 | str i =>
  obtain⟨t,rfl⟩:=rx;cases y with
  | non=>cases ry;exact PySem.EqNone.eq_str_none (JD I q (by simp))
  | bl j=>cases ry;exact PySem.EqMixed.eq_str_bool (JD I q (by simp))
  | int j=>obtain⟨t',rfl⟩:=ry;exact PySem.EqMixed.eq_str_int (JD I q (by simp))
  | str j=>obtain⟨t',rfl⟩:=ry;exact eq_str (JD I q zl0)
  | _=>exact absurd (show false=true from hs) Bool.false_ne_true
 | byt i =>
  obtain⟨t,rfl⟩:=rx;cases y with
  | byt j=>obtain⟨t',rfl⟩:=ry;exact PySem.W.eq_bytes (JD I q zl2)
  | _=>exact absurd (show false=true from hs) Bool.false_ne_true
 | _=>cases y <;> exact absurd (show false=true from hs) Bool.false_ne_true
theorem ztN:OpR X (compareOp .NotEq) rNe:=by
 intro pins s σ H x y v u Q I rx ry h;obtain⟨hs,q⟩:=h;cases x with
 | non =>
  cases rx;cases y with
  | non=>cases ry;exact PySem.EqNone.ne_none_none (JD I q (by simp))
  | bl j=>cases ry;exact PySem.EqNone.ne_none_bool (JD I q (by simp))
  | int j=>obtain⟨t',rfl⟩:=ry;exact PySem.EqNone.ne_none_int (JD I q (by simp))
  | str j=>obtain⟨t',rfl⟩:=ry;exact PySem.EqNone.ne_none_str (JD I q (by simp))
  | _=>exact absurd (show false=true from hs) Bool.false_ne_true
 | bl i =>
  cases rx;cases y with
  | non=>cases ry;exact PySem.EqNone.ne_bool_none (JD I q (by simp))
  | bl j=>cases ry;exact ne_bool (JD I q (congrArg not zoc))
  | str j=>obtain⟨t',rfl⟩:=ry;exact PySem.EqMixed.ne_bool_str (JD I q (by simp))
  | _=>exact absurd (show false=true from hs) Bool.false_ne_true
 | int i =>
  obtain⟨t,rfl⟩:=rx;cases y with
  | non=>cases ry;exact PySem.EqNone.ne_int_none (JD I q (by simp))
  | int j=>obtain⟨t',rfl⟩:=ry;exact ne_int (JD I q (congrArg not zl1))
  | str j=>obtain⟨t',rfl⟩:=ry;exact PySem.EqMixed.ne_int_str (JD I q (by simp))
  | _=>exact absurd (show false=true from hs) Bool.false_ne_true
 | str i =>
  obtain⟨t,rfl⟩:=rx;cases y with
  | non=>cases ry;exact PySem.EqNone.ne_str_none (JD I q (by simp))
  | bl j=>cases ry;exact PySem.EqMixed.ne_str_bool (JD I q (by simp))
  | int j=>obtain⟨t',rfl⟩:=ry;exact PySem.EqMixed.ne_str_int (JD I q (by simp))
  | str j=>obtain⟨t',rfl⟩:=ry;exact ne_str (JD I q (congrArg not zl0))
  | _=>exact absurd (show false=true from hs) Bool.false_ne_true
 | byt i =>
  obtain⟨t,rfl⟩:=rx;cases y with
  | byt j=>obtain⟨t',rfl⟩:=ry;exact PySem.W.ne_bytes (JD I q (congrArg not zl2))
  | _=>exact absurd (show false=true from hs) Bool.false_ne_true
 | _=>cases y <;> exact absurd (show false=true from hs) Bool.false_ne_true
theorem zq5:OpR X (compareOp .Lt) (rI0 fun i j=>.bl (decide (i<j))):=opB0 fun _ _ _ _ _ _ _ q=>lt_int q
theorem ztO:OpR X (compareOp .LtE) (rI0 fun i j=>.bl (decide (i<=j))):=opB0 fun _ _ _ _ _ _ _ q=>le_int q
theorem UM:OpR X (compareOp .Gt) (rI0 fun i j=>.bl (decide (j<i))):=opB0 fun _ _ _ _ _ _ _ q=>gt_int q
theorem Z0:OpR X (compareOp .GtE) (rI0 fun i j=>.bl (decide (j<=i))):=opB0 fun _ _ _ _ _ _ _ q=>ge_int q
theorem zli:OpR X (compareOp .Lt) (fun x y H Q=>∃i j,x=.str i/\y=.str j/\Q (.bl (decide (i.cps.toList<j.cps.toList))) H):=by
 intro pins s σ H x y v u Q I rx ry h;obtain⟨i,j,rfl,rfl,q⟩:=h;obtain⟨t,rfl⟩:=rx;obtain⟨t',rfl⟩:=ry;exact lt_str (JD I q rfl)
theorem zq7:OpR X (compareOp .Is) (fun x y H Q=>y=.non/\Q (.bl (decide (x=.non))) H):=by
 intro pins s σ H x y v u Q I rx ry h;obtain⟨rfl,q⟩:=h;cases ry;refine is_none_gen (JD I q ?_);cases x <;> first
  | (cases rx;rfl)
  | (obtain⟨t,rfl⟩:=rx;rfl)
theorem zoW:OpR X (compareOp .IsNot) (fun x y H Q=>y=.non/\Q (.bl (!decide (x=.non))) H):=by
 intro pins s σ H x y v u Q I rx ry h;obtain⟨rfl,q⟩:=h;cases ry;refine isnot_none_gen (JD I q ?_);cases x <;> first
  | (cases rx;rfl)
  | (obtain⟨t,rfl⟩:=rx;rfl)
theorem OpR.or{f:Value->Value->Sem Value}{r r':R2}(h:OpR X f r)(h':OpR X f r'):OpR X f (fun x y H Q=>r x y H Q\/r' x y H Q):=by
 intro pins s σ H x y v u Q I rx ry q;rcases q with q|q
 ·exact h pins s σ H x y v u Q I rx ry q
 ·exact h' pins s σ H x y v u Q I rx ry q
theorem Jm(b:Expr){op:CmpOp}(h:op≠.In:=by decide)(h2:op≠.NotIn:=by decide):behindInMarks op b=false:=by
 have e1:(op == CmpOp.In)=false:=by cases op <;> first|rfl|exact absurd rfl h
 have e2:(op == CmpOp.NotIn)=false:=by cases op <;> first|rfl|exact absurd rfl h2
 cases b <;> simp[behindInMarks,e1,e2]
theorem zlc{op:CmpOp}{r:R2}(ho:OpR X (compareOp op) r)(ha:PE X a ta)(hb:PE X b tb)(hm:behindInMarks op b=false):PE X (.Compare a [op] [b] pos) (tOp r ta tb):=by
 intro pins s σ H Q I h;exact wpAny_Compare1 (binT ha hb I h fun v u s2 x y H2 I2 rx ry q=>ho pins s2 σ H2 x y v u Q I2 rx ry q) hm
def zp7(t:TE):TT:=fun σ H Q=>t σ H fun x H'=>∃k,x=.bl k/\Q k H'
theorem zia{op:CmpOp}{r:R2}(ho:OpR X (compareOp op) r)(ha:PE X a ta)(hb:PE X b tb)(hm:behindInMarks op b=false):PT X (.Compare a [op] [b] pos) (zp7 (tOp r ta tb)):=by
 intro pins s σ H Q I h;refine wpAny_isTrue_Compare1 (thn (ha pins s σ H _ I h) fun v s1 ⟨x,H1,I1,r1,q1⟩=>thn (hb pins s1 σ H1 _ I1 q1) fun u s2 ⟨y,H2,I2,r2,q2⟩ =>
  thn (ho pins s2 σ H2 x y v u _ I2 r1 r2 q2) fun c s3 ⟨z,H3,I3,r3,k,e,q3⟩=>?_) hm
 subst e;cases r3;exact wpAny_truthy_bool ⟨H3,I3,q3⟩
def znR(r r':R2)(ta tb tc:TE):TE:=fun σ H Q=>ta σ H fun x H1=>tb σ H1 fun y H2=>r x y H2 fun z H3=>∃k,z=.bl k /\
 (if k=true then tc σ H3 fun w' H4=>r' y w' H4 Q else Q (.bl false) H3)
theorem zm4{op op':CmpOp}{r r':R2}(ho:OpR X (compareOp op) r)(ho':OpR X (compareOp op') r')(ha:PE X a ta)(hb:PE X b tb)(hc:PE X c tc)
  (hm:lastMarks [op,op'] [b,c]=false:=by with_unfolding_all rfl):PE X (.Compare a [op,op'] [b,c] pos) (znR r r' ta tb tc):=by
 intro pins s σ H Q I h;refine Compare_chain (thn (ha pins s σ H _ I h) fun v s1 ⟨x,H1,I1,r1,q1⟩=>chain_link (thn (hb pins s1 σ H1 _ I1 q1) fun u s2 ⟨y,H2,I2,r2,q2⟩ =>
  thn (ho pins s2 σ H2 x y v u _ I2 r1 r2 q2) fun d s3 ⟨z,H3,I3,r3,k,e,q3⟩=>?_)) hm
 subst e;cases r3;refine wpAny_truthy_bool ?_;cases k with
 | false=>exact ite_ff ⟨.bl false,H3,I3,rfl,q3⟩
 | true=>exact ite_tt (chain_last (thn (hc pins s3 σ H3 _ I3 q3) fun w' s4 ⟨z',H4,I4,r4,q4⟩=>ho' pins s4 σ H4 y z' u w' Q I4 r2 r4 q4))
theorem zmV{op op':CmpOp}{r r':R2}(ho:OpR X (compareOp op) r)(ho':OpR X (compareOp op') r')(ha:PE X a ta)(hb:PE X b tb)(hc:PE X c tc)
  (hm:lastMarks [op,op'] [b,c]=false:=by with_unfolding_all rfl):PT X (.Compare a [op,op'] [b,c] pos) (zp7 (znR r r' ta tb tc)):=by
 intro pins s σ H Q I h;refine isTrue_chain (thn (ha pins s σ H _ I h) fun v s1 ⟨x,H1,I1,r1,q1⟩=>test_link (thn (hb pins s1 σ H1 _ I1 q1) fun u s2 ⟨y,H2,I2,r2,q2⟩ =>
  thn (ho pins s2 σ H2 x y v u _ I2 r1 r2 q2) fun d s3 ⟨z,H3,I3,r3,k,e,q3⟩=>?_)) hm
 subst e;cases r3;refine wpAny_truthy_bool ?_;cases k with
 | false =>
  obtain⟨k',e',q'⟩:=q3;cases e';exact ite_ff ⟨H3,I3,q'⟩
 | true =>
  refine ite_tt (test_last (thn (hc pins s3 σ H3 _ I3 q3) fun w' s4 ⟨z',H4,I4,r4,q4⟩=>thn (ho' pins s4 σ H4 y z' u w' _ I4 r2 r4 q4) fun d' s5 ⟨z2,H5,I5,r5,k2,e2,q5⟩=>?_))
  subst e2;cases r5;exact wpAny_truthy_bool ⟨H5,I5,q5⟩
def TruV(K:qF)(x:V)(H:Hp)(k:Bool):Prop :=
 match x with
 | .non=>k=false
 | .bl b=>k=b
 | .int i=>k=(i != 0)
 | .str y=>y.length<=sizeLine/\k=((y.length:Int) != 0)
 | .byt y=>y.size<=sizeLine/\k=((y.size:Int) != 0)
 | .ref p=>(∃xs,SqL K H p xs/\k=!xs.isEmpty)\/(∃xs,SqT K H p xs/\k=!xs.isEmpty)\/∃kvs,H p=some (.dK kvs)/\k=!kvs.isEmpty
 | _=>False
theorem zj_{κ:Type}{kvs:List (κ×V)}{vs:List (κ×Value)}(r:KV kvs vs):(!vs.isEmpty)=!kvs.isEmpty:=by
 cases r <;> rfl
theorem zfP{xs:List V}{its:List Value}(r:Vals xs its):(!its.toArray.isEmpty)=!xs.isEmpty:=by
 cases r <;> simp
theorem Yh:(sizeLine:Nat)<2 ^ 63:=by rw[sizeLine_eq];decide
theorem zp4:TruR X (fun x H Q=>∃k,TruV X.K x H k/\Q k H):=by
 intro pins s σ H x v Q I rx h;obtain⟨k,e,q⟩:=h;have hl:=Yh;have hs:sizeLine=16777216:=sizeLine_eq;cases x with
 | non =>
  cases rx;have e':k=false:=e;subst e';exact truthy_none ⟨H,I,q⟩
 | bl b =>
  cases rx;have e':k=b:=e;subst e';exact wpAny_truthy_bool ⟨H,I,q⟩
 | int i =>
  obtain⟨t,rfl⟩:=rx;have e':k=(i != 0):=e;subst e';exact PySem.P.truthy_int ⟨H,I,q⟩
 | str y =>
  obtain⟨t,rfl⟩:=rx;obtain⟨hy,e'⟩:y.length<=sizeLine/\k=((y.length:Int) != 0):=e;subst e';exact PySem.P.truthy_str (by lia) ⟨H,I.tok _,q⟩
 | byt y =>
  obtain⟨t,rfl⟩:=rx;obtain⟨hy,e'⟩:y.size<=sizeLine/\k=((y.size:Int) != 0):=e;subst e';exact PySem.W.truthy_bytes (by lia) ⟨H,I.tok _,q⟩
 | ref p =>
  cases rx;have e':(∃xs,SqL X.K H p xs/\k=!xs.isEmpty)\/(∃xs,SqT X.K H p xs/\k=!xs.isEmpty)\/∃kvs,H p=some (.dK kvs)/\k=!kvs.isEmpty:=e;rcases e' with⟨xs,hx,e'⟩|⟨xs,hx,e'⟩|⟨kvs,hx,e'⟩
  ·subst e';obtain⟨its,r,pl,hz⟩:=I.list hx;have hlen:=r.length;exact wpAny_truthy_list pl.isList (by simp only[List.size_toArray];lia) ⟨H,I.tok _,by rw[zfP r];exact q⟩
  ·subst e';obtain⟨its,r,pl,hz⟩:=I.tuple hx;have hlen:=r.length;exact truthy_tuple pl (by simp only[List.size_toArray];lia) ⟨H,I.tok _,by rw[zfP r];exact q⟩
  ·subst e';obtain⟨hz,hS,vs,r,m⟩:kvs.length<=sizeLine/\(p == sysModules)=false/\∃vs,KV kvs vs/\s.heap.DictOf (JJ X.prog X.w) p vs:=I.hok p _ hx;have hlen:kvs.length=vs.length:=Paired.length r;exact wpAny_truthy_dict hS m (by lia) ⟨H,I.tok _,by rw[zj_ r];exact q⟩
 | _=>exact(show False from e).elim
theorem zmU(ha:PE X a ta)(he:∀whole,isTrue a X.env whole=(do let v <- whole;standAt a.pos;holding [v] (truthy v))) :
  PT X a (fun σ H Q=>ta σ H fun x H'=>∃k,TruV X.K x H' k/\Q k H'):=by
 intro pins s σ H Q I h;exact isTrue_plain (thn (ha pins s σ H _ I h) fun v s1 ⟨x,H1,I1,r1,q1⟩=>zp4 pins s1 σ H1 x v Q I1 r1 q1) (he _)
theorem zjV:OpR X (binaryOp .Add) (fun x y H Q=>∃i j,x=.str i/\y=.str j/\i.length+j.length<=sizeLine/\Q (.str (i++j)) H):=by
 intro pins s σ H x y v u Q I rx ry h;obtain⟨i,j,rfl,rfl,hz,q⟩:=h;obtain⟨t,rfl⟩:=rx;obtain⟨t',rfl⟩:=ry;exact add_str (fun t' tk=>⟨.str (i++j),H,I.tok _,⟨_,rfl⟩,q⟩) hz
theorem vals1{x:V}{us:List Value}(r:Vals [x] us):∃u,us=[u]/\RelV x u:=by
 cases r with
 | cons r1 r2=>cases r2;exact⟨_,rfl,r1⟩
theorem vals2{x y:V}{us:List Value}(r:Vals [x,y] us):∃u w',us=[u,w']/\RelV x u/\RelV y w':=by
 cases r with
 | cons r1 r2 =>
  cases r2 with
  | cons r3 r4=>cases r4;exact⟨_,_,rfl,r1,r3⟩
theorem Uz(hc:X.calm=true):JU X (.builtin "max") (fun xs H Q=>∃i j,xs=[.int i,.int j]/\Q (.int (if j > i then j else i)) H):=by
 intro pins s σ H xs us Q I r h;obtain⟨i,j,rfl,q⟩:=h;obtain⟨u,w',rfl,⟨t,rfl⟩,⟨t',rfl⟩⟩:=vals2 r;refine max_two_ints (I.ok.hd hc) fun h' tk k=>⟨_,H,I.kept k,?_,q⟩
 by_cases hj:j > i
 ·rw[if_pos hj,if_pos hj];exact⟨_,rfl⟩
 ·rw[if_neg hj,if_neg hj];exact⟨_,rfl⟩
theorem UA(hc:X.calm=true):JU X (.builtin "min") (fun xs H Q=>∃i j,xs=[.int i,.int j]/\Q (.int (if j<i then j else i)) H):=by
 intro pins s σ H xs us Q I r h;obtain⟨i,j,rfl,q⟩:=h;obtain⟨u,w',rfl,⟨t,rfl⟩,⟨t',rfl⟩⟩:=vals2 r;refine min_two_ints (I.ok.hd hc) fun h' tk k=>⟨_,H,I.kept k,?_,q⟩
 by_cases hj:j<i
 ·rw[if_pos hj,if_pos hj];exact⟨_,rfl⟩
 ·rw[if_neg hj,if_neg hj];exact⟨_,rfl⟩
theorem ze9:JU X (.type "int") (fun xs H Q=>(∃i,xs=[.int i]/\Q (.int i) H)\/∃k,xs=[.bl k]/\Q (.int (if k then 1 else 0)) H):=by
 intro pins s σ H xs us Q I r h;rcases h with⟨i,rfl,q⟩|⟨k,rfl,q⟩
 ·obtain⟨u,rfl,t,rfl⟩:=vals1 r;exact call_int_int ⟨.int i,H,I,⟨_,rfl⟩,q⟩
 ·obtain⟨u,rfl,r1⟩:=vals1 r;cases r1;exact call_int_bool ⟨.int (if k then 1 else 0),H,I.tok _,⟨_,rfl⟩,q⟩
def LenV(K:qF)(x:V)(H:Hp)(n:Nat):Prop :=
 match x with
 | .str y=>y.length<=sizeLine/\n=y.length
 | .byt y=>y.size<=sizeLine/\n=y.size
 | .ref p=>(∃xs,SqL K H p xs/\n=xs.length)\/∃xs,SqT K H p xs/\n=xs.length
 | _=>False
theorem Qp:JU X (.builtin "len") (fun xs H Q=>∃x n,xs=[x]/\LenV X.K x H n/\Q (.int n) H):=by
 intro pins s σ H xs us Q I r h;obtain⟨x,n,rfl,e,q⟩:=h;obtain⟨u,rfl,rx⟩:=vals1 r;have hl:=Yh;have hs:sizeLine=16777216:=sizeLine_eq;cases x with
 | str y =>
  obtain⟨t,rfl⟩:=rx;obtain⟨hy,e'⟩:y.length<=sizeLine/\n=y.length:=e;subst e';exact len_str (by lia) ⟨.int _,H,I.tok _,⟨_,rfl⟩,q⟩
 | byt y =>
  obtain⟨t,rfl⟩:=rx;obtain⟨hy,e'⟩:y.size<=sizeLine/\n=y.size:=e;subst e';exact PySem.W.len_bytes (by lia) ⟨.int _,H,I.tok _,⟨_,rfl⟩,q⟩
 | ref p =>
  cases rx;have e':(∃xs,SqL X.K H p xs/\n=xs.length)\/∃xs,SqT X.K H p xs/\n=xs.length:=e;rcases e' with⟨xs,hx,e'⟩|⟨xs,hx,e'⟩
  ·subst e';obtain⟨its,r',pl,hz⟩:=I.list hx;have hlen:=r'.length;exact Calls.call_len_list pl.isList (by simp only[List.size_toArray];lia) ⟨.int xs.length,H,I.tok _,⟨_,by simp only[List.size_toArray];rw[hlen]⟩,q⟩
  ·subst e';obtain⟨its,r',pl,hz⟩:=I.tuple hx;have hlen:=r'.length;exact len_tuple pl (by simp only[List.size_toArray];lia) ⟨.int xs.length,H,I.tok _,⟨_,by simp only[List.size_toArray];rw[hlen]⟩,q⟩
 | _=>exact(show False from e).elim
end
structure ObjM(h:Heap)(x dx C:Addr)(mA:qM):Prop where
 obj:h.get? x=some (PySem.W.instObj C dx)
 ns:h.Ns1 dx mA
 ne:dx≠x
theorem zlz{h:Heap}{dx:Addr}{mA:qM}(n:h.Ns1 dx mA):∃od,h.get? dx=some od/\∀name,PySem.W.lookIn name od=some (mA name):=by
 obtain⟨o,es,ep,ho,hd,hk,_,hm⟩:=n;refine⟨o,ho,fun name=>?_⟩
 have e:=hm name;unfold nsFind findBy at e;rw[<- Array.find?_toList]at e;unfold PySem.W.lookIn;rw[hd];dsimp only;split
 ·rename_i y q;rw[q]at e;exact congrArg some e
 ·rename_i q;rw[q]at e;have a:es.toList.any (·.refKey)=false:=by
   rw[List.any_eq_false];intro y hy;obtain⟨z,t,hkey⟩:=hk y (Array.mem_toList_iff.mp hy);simp[DictEntry.refKey,hkey]
  have a':¬es.toList.any (·.refKey)=true:=by rw[a];exact Bool.false_ne_true
  rw[if_neg a'];exact congrArg some e
theorem ObjM.look{h:Heap}{x dx C:Addr}{mA:qM}(I:ObjM h x dx C mA):∃od,PySem.W.InstAt h x (PySem.W.instObj C dx) C (some od)/\∀name,PySem.W.lookIn name od=some (mA name) :=
 let ⟨od,ho,hl⟩:=zlz I.ns
 ⟨od,⟨I.obj,rfl,rfl,ho⟩,hl⟩
section
variable{P:Program}{w:World}{H H':Hp}{h h':Heap}{a C dx:Addr}{fs fs':List (Str×V)}
theorem zpg(hok:HOk P w H h)(e:H a=some (.ins C dx fs)):∃mA,ObjM h a dx C mA/\(∀f,RelO (fs.lookup f) (mA f))/\PySem.Within mA (fs.map (·.1))/\fs.length<=1000/\H dx=some (.own a):=by
 obtain⟨d,z,ne,ob,mA,n,r,q⟩:=(show JL P w H h a (.ins C dx fs) from hok a _ e)
 exact⟨mA,⟨ob,n,ne⟩,r,q,z,d⟩
end
structure Cls(K:qF)(C:Addr):Prop where
 pg:PySem.W.plainGet K C Str.empty=true
 hd:PySem.W.hasDictIn K C=true
 po:PySem.W.plainOver K C=true
 sa:PySem.W.findIn K (.ref C) "__setattr__" = some (some (.builtin "object.__setattr__"))
theorem Cls.get{K:qF}{C:Addr}(c:Cls K C)(f:Str):PySem.W.plainGet K C f=true:=c.pg
section
variable{X:Cx}{pins:qO}{σ:St}{H:Hp}{s:Shared}{A:Around}{E:qV}{Q:qV}{c:Value}{b:Bool}
inductive TyOf (K:qF)(H:Hp):V->Value->Prop where
 | non:TyOf K H .non (.type "NoneType")
 | bl (x:Bool):TyOf K H (.bl x) (.type "bool")
 | int (i:Int):TyOf K H (.int i) (.type "int")
 | str (x:Str):TyOf K H (.str x) (.type "str")
 | flt (x:UInt64):TyOf K H (.flt x) (.type "float")
 | lst {a:Addr} {xs:List V} (e:H a=some (.lst xs)):TyOf K H (.ref a) (.type "list")
 | frz {a:Addr} {o:Obj} {xs:List V} (e:H a=some (.frz o (.lst xs))):TyOf K H (.ref a) (.type "list")
 | tup {a:Addr} {xs:List V} (e:H a=some (.tup xs)):TyOf K H (.ref a) (.type "tuple")
 | dK {a:Addr} {kvs:List (Key×V)} (e:H a=some (.dK kvs)):TyOf K H (.ref a) (.type "dict")
 | dT {a:Addr} {kvs:List (List Key×V)} (e:H a=some (.dT kvs)):TyOf K H (.ref a) (.type "dict")
 | ins {a C dx:Addr} {fs:List (Str×V)} (e:H a=some (.ins C dx fs)) (cl:Cls K C) (ha:PySem.W.findIn K (.ref C) "__class__" = some (some (.builtin "object.__class__")))
   (hn:PySem.W.specialIn K (.builtin "object.__class__") "__get__" = some (some (.builtin "getset_descriptor.__get__"))) (htk:PySem.W.takesIn K (.builtin "object.__class__")=some true)
   (hm:PySem.W.mroIn K C (.type "object")=some true):TyOf K H (.ref a) (.ref C)
theorem zlK{x:V}{u t:Value}(I:Inv X pins σ H s)(rx:RelV x u)(ty:TyOf X.K H x t)(e:PySem.W.kitOne X.K t c=some b)(h:∀tk,Q (.bool b) { s with toks:=tk }) :
  wpAny (model X.prog X.w) A (call (.builtin "isinstance") [u,c]) Q E s:=by
 cases ty with
 | non=>cases(show u=Value.none from rx);exact PySem.W.kia_one PySem.W.kitx_none I.kIn True.intro e (fun z=>nomatch z) h
 | bl y=>cases(show u=Value.bool y from rx);exact PySem.W.kia_one PySem.W.kitx_bool I.kIn True.intro e (fun z=>nomatch z) h
 | int i=>obtain⟨t,q⟩:=(show ∃t,u=Value.int i t from rx);cases q;exact PySem.W.kia_one PySem.W.kitx_int I.kIn True.intro e (fun z=>nomatch z) h
 | str y=>obtain⟨t,q⟩:=(show ∃t,u=Value.str y t from rx);cases q;exact PySem.W.kia_one PySem.W.kitx_str I.kIn True.intro e (fun z=>nomatch z) h
 | flt y=>obtain⟨t,q⟩:=(show ∃t,u=Value.float y t from rx);cases q;exact PySem.W.kia_one PySem.W.kitx_float I.kIn True.intro e (fun z=>nomatch z) h
 | @lst a xs ea =>
  cases(show u=Value.ref a from rx)
  obtain⟨_,_,n,_,h1⟩:=(show JL X.prog X.w H s.heap a (.lst xs) from I.hok a _ ea)
  exact PySem.W.kia_one PySem.W.kitx_list I.kIn ⟨_,h1,rfl⟩ e (fun z=>nomatch z) h
 | @frz a ob xs ea =>
  cases(show u=Value.ref a from rx)
  obtain⟨_,_,_,n,_,h1⟩:=(show JL X.prog X.w H s.heap a (.frz ob (.lst xs)) from I.hok a _ ea)
  exact PySem.W.kia_one PySem.W.kitx_list I.kIn ⟨_,h1,rfl⟩ e (fun z=>nomatch z) h
 | @tup a xs ea =>
  cases(show u=Value.ref a from rx)
  obtain⟨_,_,_,p⟩:=(show JL X.prog X.w H s.heap a (.tup xs) from I.hok a _ ea)
  obtain⟨o,h1,h2,_⟩:=p;exact PySem.W.kia_one PySem.W.kitx_tuple I.kIn ⟨o,h1,h2⟩ e (fun z=>nomatch z) h
 | @dK a kvs ea =>
  cases(show u=Value.ref a from rx)
  obtain⟨_,_,vs,_,p⟩:=(show JL X.prog X.w H s.heap a (.dK kvs) from I.hok a _ ea)
  obtain⟨o,es,ep,h1,h2,_⟩:=p;exact PySem.W.kia_one PySem.W.kitx_dict I.kIn ⟨o,h1,h2.1⟩ e (fun z=>nomatch z) h
 | @dT a kvs ea =>
  cases(show u=Value.ref a from rx)
  obtain⟨_,_,xs,_,o,es,ep,h1,h2,_⟩:=(show JL X.prog X.w H s.heap a (.dT kvs) from I.hok a _ ea)
  exact PySem.W.kia_one PySem.W.kitx_dict I.kIn ⟨o,h1,h2.1⟩ e (fun z=>nomatch z) h
 | @ins a C dx fs ea cl ha hn htk hm =>
  cases(show u=Value.ref a from rx)
  obtain⟨mA,O,_⟩:=zpg I.hok ea;obtain⟨od,J,_⟩:=O.look;exact PySem.W.kia_one (PySem.W.kitx_own (cl.get _) cl.hd ha hn htk hm) I.kIn J e (fun z=>nomatch z) h
end
structure Room(k:Nat)(A:Around):Prop where
 hd:A.handled=none
 dp:A.depth+3*k+5<recursionLimit
 un:A.units+16*k+200<cLine
 gd:A.guards=some []
theorem Room.mono{j k:Nat}{A:Around}(r:Room k A)(h:j<=k):Room j A:=⟨r.hd,by have:=r.dp;lia,by have:=r.un;lia,r.gd⟩
theorem Room.deeper{k:Nat}{A:Around}(r:Room (k+1) A)(env:Env):Room k (A.deeper env) :=
 ⟨r.hd,by have:=r.dp;show A.depth+1+3*k+5<_;lia,by have:=r.un;show A.units+3+16*k+200<_;lia,r.gd⟩
theorem Room.depth{k:Nat}{A:Around}(r:Room k A):A.depth<recursionLimit:=by have:=r.dp;lia
theorem Room.units{k:Nat}{A:Around}(r:Room k A):A.units+64<cLine:=by have:=r.un;lia
theorem Room.units0{k:Nat}{A:Around}(r:Room k A):A.units<cLine:=by have:=r.un;lia
def tNil:TA:=fun _ H Q=>Q [] H
def Qx(ta:TE)(tr:TA):TA:=fun σ H Q=>ta σ H fun x H1=>tr σ H1 fun xs H2=>Q (x::xs) H2
section
variable{X:Cx}{e:Expr}{es:List Expr}{te:TE}{t:TA}{pos:Pos}
theorem Ur:PA X [] tNil:=fun _ _ _ _ H Q I h=>Calls.spliced_nil ⟨[],H,I,.nil,h⟩
theorem Q7(ha:PE X e te)(hr:PA X es t)(hs:starEach (e::es) X.env=(false,eval e X.env)::starEach es X.env:=by rfl):PA X (e::es) (Qx te t):=by
 intro pos pins s σ H Q I h;rw[hs];show wpAny _ _ (spliced ((false,eval e X.env)::backTo pos (starEach es X.env))) _ _ s
 refine Calls.spliced_cons (thn (ha pins s σ H _ I h) fun u s1 ⟨x,H1,I1,r1,q1⟩=>?_)
 exact thn (hr pos pins s1 σ H1 _ I1 q1) fun us s2 ⟨xs,H2,I2,r2,q2⟩=>⟨x::xs,H2,I2,.cons r1 r2,q2⟩
def tTup(t:TA):TE:=fun σ H Q=>t σ H fun xs H1=>xs.length<=sizeLine/\∀p,H1 p=none->Q (.ref p) (upd H1 p (.tup xs))
def tLst(t:TA):TE:=fun σ H Q=>t σ H fun xs H1=>xs.length<=sizeLine/\∀p,H1 p=none->Q (.ref p) (upd H1 p (.lst xs))
theorem zqL{x1}(h:PA X es t):PE X (.Tuple es x1 pos) (tTup t):=by
 intro pins s σ H Q I hq;refine wpAny_Tuple_spliced (thn (h pos pins s σ H _ I hq) fun us s1 ⟨xs,H1,I1,r,z,q⟩=>⟨by rw[<- r.length];exact z,?_⟩)
 have hf:H1 s1.heap.objs.size=none:=I1.hok.fresh (Nat.le_refl _);refine⟨.ref s1.heap.objs.size,upd H1 s1.heap.objs.size (.tup xs),I1.laid (t':=s1.toks) (fun b u e=>Heap.get?_push_of_some _ e) (Nat.le_refl _) ?_,rfl,q _ hf⟩
 exact⟨z,us,r,⟨_,Heap.get?_push_size _ rfl,rfl,⟨_,rfl⟩,rfl⟩⟩
theorem zqP(h:PA X es t):PE X (.List es pos) (tLst t):=by
 intro pins s σ H Q I hq;refine wpAny_List_spliced (thn (h pos pins s σ H _ I hq) fun us s1 ⟨xs,H1,I1,r,z,q⟩=>⟨by rw[<- r.length];exact z,?_⟩)
 have hf:H1 s1.heap.objs.size=none:=I1.hok.fresh (Nat.le_refl _);refine⟨.ref s1.heap.objs.size,upd H1 s1.heap.objs.size (.lst xs),I1.laid (t':=s1.toks) (fun b u e=>Heap.get?_push_of_some _ e) (Nat.le_refl _) ?_,rfl,q _ hf⟩
 exact⟨z,us,0,r,Heap.get?_push_size _ rfl⟩
end
abbrev Sp:=List V->Hp->VK->XK->Prop
abbrev CXT:=List Env->Hp->Shared->XK->Value->Shared->Prop
structure Env0(P:Program)(w:World)(K:qF)(mg:qM)(base:Heap)(A:Around)(outer:List Env)(s:Shared)(H:Hp):Prop where
 frames:A.frames=some outer
 mod:Mod K mg base
 bs:∀b o,base.get? b=some o->s.heap.get? b=some o/\H b=none
 bsz:base.objs.size<=s.heap.objs.size
 funs:s.heap.FunFrames base outer
 frf:∀b∈frs outer,H b=none
 hok:HOk P w H s.heap
 bare:AllBare s.gens
def CE(outer:List Env)(P:Program)(w:World)(H:Hp)(s:Shared)(Q:VK)(u:Value)(s':Shared):Prop :=
 ∃v H',s'.os=s.os/\AllBare s'.gens/\Un (frs outer) [] H H' s.heap s'.heap/\HOk P w H' s'.heap/\RelV v u/\Q v H'
def CR(CX:CXT)(outer:List Env)(P:Program)(w:World)(H:Hp)(s:Shared)(Q:VK)(E:XK)(r:Result)(s':Shared):Prop :=
 match r with
 | .ok (.ret u)=>CE outer P w H s Q u s'
 | .ok _=>False
 | .error e=>CX outer H s E e s'
structure FnOk(P:Program)(w:World)(K:qF)(mg:qM)(base:Heap)(CX:CXT)(k:Nat)(f:Addr)(fd:FuncData)(ps:List Str)(sp:Sp):Prop where
 len:∀vs H Q E,sp vs H Q E->vs.length=ps.length
 run:∀(A:Around) (outer:List Env) (s:Shared) (H:Hp) (args:Args) (us:List Value) (vs:List V) (Q:VK) (E:XK),Room k A->Env0 P w K mg base A outer s H->BindsTo s fd args (ps.zip us)->Vals vs us->sp vs H Q E ->
  codeAny (model P w) A (.call (.ref f) args) (CR CX outer P w H s Q E) s
theorem FnOk.imp{P:Program}{w:World}{K:qF}{mg:qM}{base:Heap}{CX:CXT}{k:Nat}{f:Addr}{fd:FuncData}{ps:List Str}{sp sp':Sp}(F:FnOk P w K mg base CX k f fd ps sp)
  (h:∀vs H Q E,sp' vs H Q E->sp vs H Q E):FnOk P w K mg base CX k f fd ps sp' :=
 ⟨fun vs H Q E q=>F.len vs H Q E (h _ _ _ _ q),fun A outer s H args us vs Q E hr he hb hv hs=>F.run A outer s H args us vs Q E hr he hb hv (h _ _ _ _ hs)⟩
section
variable{X:Cx}{pins:qO}{σ:St}{H:Hp}{s s':Shared}
theorem Inv.env0(I:Inv X pins σ H s):Env0 X.prog X.w X.K X.mg X.base X.A X.stack s H :=
 ⟨I.ok.frames,I.ok.mod,I.bs,Nat.le_trans I.ok.bsz I.sz,I.stack,I.stkFree,I.hok,I.bare⟩
theorem Inv.after{Q:VK}{u:Value}(I:Inv X pins σ H s)(h:CE X.stack X.prog X.w H s Q u s'):EP X pins σ Q u s':=by
 obtain⟨v,H',os,bare,un,hok,r,q⟩:=h;obtain⟨hh,g,d,t,os'⟩:=s';obtain rfl:os'=s.os:=os;exact⟨v,H',I.call (h':=hh) (g':=g) (d':=d) (t':=t) (ch:=[]) un hok bare (fun b z=>absurd z (by simp)),r,q⟩
end
def zp9(sp:Sp)(dvs:List V)(E:XK)(t:TA):TE:=fun σ H Q=>t σ H fun vs H1=>sp (vs++dvs) H1 Q E
def Binds(K:qF)(fd:FuncData)(ps:List Str)(ds:List Value):Prop :=
 ∀(s:Shared) (us:List Value),K.In s.heap->(us++ds).length=ps.length->BindsTo s fd ⟨us,[]⟩ (ps.zip (us++ds))
theorem Binds.all{K:qF}{fd:FuncData}{ps:List Str}(h:∀us:List Value,us.length=ps.length->bindArgs fd ⟨us,[]⟩=pure (ps.zip us)):Binds K fd ps []:=fun s us _ hl=>by
 rw[List.append_nil]at hl ⊢;exact .of_eq (h us hl)
def zmq(CX:CXT)(X:Cx)(E:XK):Prop:=∀(pins:qO) (σ:St) (H:Hp) (s:Shared) (e:Value) (s':Shared),Inv X pins σ H s->CX X.stack H s E e s'->X.xe e s'
section
variable{X:Cx}{CX:CXT}{k:Nat}{f C:Addr}{fd:FuncData}{ps:List Str}{sp:Sp}{dvs:List V}{ds:List Value}{E:XK}{x m:Str}{p pos apos:Pos}{e o:Expr}{es:List Expr}{ta:TE}{t:TA}
theorem zqt{pins:qO}{σ:St}{H:Hp}{s:Shared}{Q:VK}{us:List Value}{vs:List V}(F:FnOk X.prog X.w X.K X.mg X.base CX k f fd ps sp)(hr:Room k X.A)(hb:Binds X.K fd ps ds)(hd:Vals dvs ds)(hx:zmq CX X E)
  (I:Inv X pins σ H s) (r:Vals vs us) (h:sp (vs++dvs) H Q E):wpAny (model X.prog X.w) X.A (call (.ref f) us) (EP X pins σ Q) X.xe s:=by
 have r2:Vals (vs++dvs) (us++ds):=r.append hd;have hl:(us++ds).length=ps.length:=by rw[<- r2.length];exact F.len _ _ _ _ h
 refine wpAny_call (codeAny_mono (F.run X.A X.stack s H ⟨us,[]⟩ (us++ds) (vs++dvs) Q E hr I.env0 (hb s us I.kIn hl) r2 h) fun r s' hq=>?_)
 cases r with
 | error e=>exact hx pins σ H s e s' I hq
 | ok fl =>
  cases fl with
  | ret u=>exact I.after hq
  | next=>exact False.elim hq
  | brk=>exact False.elim hq
  | cont=>exact False.elim hq
theorem zoQ(F:FnOk X.prog X.w X.K X.mg X.base CX k f fd ps sp)(hr:Room k X.A)(hg:Gl X x)(hm:X.mg x=some (.ref f))(hk:PySem.W.keepIn X.K (.ref f)=true)(hb:Binds X.K fd ps ds)(hd:Vals dvs ds)(hx:zmq CX X E)
  (ha:PA X (e::es) t) (hdb:(x == ("__debug__":Str))=false:=by decide) (he:starEach (e::es) X.env=(false,eval e X.env)::starEach es X.env:=by rfl) (hpl:(backTo pos (starEach es X.env)).any (·.1)=false:=by rfl) :
  PE X (.Call (.Name x p) (e::es) [] pos) (zp9 sp dvs E t):=by
 intro pins s σ H Q I h;refine wpAny_Call_Name_kw (zo_ I hg hm ?_ hdb);refine PySem.W.callWith_K (h₀:=X.base) I.ok.mod.kin hk (thn (ha pos pins s σ H _ I h) fun us s1 ⟨vs,H1,I1,r,q⟩=>⟨I1.kIn,?_⟩) he hpl
 exact zqt F hr hb hd hx I1 r q
end
structure FnScope(N P:List Str)(sc:Scope):Prop where
 kind:sc.kind=.function
 co:sc.isCoroutine=false
 gen:sc.isGenerator=false
 nd:N.Nodup
 pre:N.take P.length=P
 par:∀x∈P,sc.names.lookup x=some .local\/sc.names.lookup x=some .cell
 nofree:∀y∈sc.names,y.2≠.free
theorem zhV{kindOf:Str->Option NameKind}{x:Str}:∀{binds:List (Str×Value)}{m:qM},(∀v,(x,v)∉binds)->bindL kindOf binds m x=m x
 | [],_,_=>rfl
 | (n,v)::r,m,h=>by
  unfold bindL;rw[zhV fun w hw=>h w (List.mem_cons_of_mem _ hw)]
  split
  ·have:x≠n:=by rintro rfl;exact h v List.mem_cons_self
   simp[this]
  ·rfl
theorem zhX{kindOf:Str->Option NameKind}{x:Str}:∀{binds:List (Str×Value)}{m:qM},(∀v,(x,v)∉binds)->bindC kindOf binds m x=m x
 | [],_,_=>rfl
 | (n,v)::r,m,h=>by
  unfold bindC;rw[zhX fun w hw=>h w (List.mem_cons_of_mem _ hw)]
  split
  ·rfl
  ·have:x≠n:=by rintro rfl;exact h v List.mem_cons_self
   simp[this]
theorem zhW{kindOf:Str->Option NameKind}{x:Str}{v:Value}:∀{P:List Str}{vs:List Value}{i:Nat}{m:qM},P.Nodup->P[i]?=some x->vs[i]?=some v->kindOf x=some .local ->
  bindL kindOf (P.zip vs) m x=some v
 | [],_,_,_,_,h,_,_=>by simp at h
 | _::_,[],_,_,_,_,h,_=>by simp at h
 | p::P,w::vs,0,m,nd,h1,h2,hk=>by
  simp at h1 h2;subst h1;subst h2;show bindL kindOf ((p,w)::P.zip vs) m p=_
  unfold bindL;rw[zhV fun v hv=>(List.nodup_cons.mp nd).1 (List.of_mem_zip hv).1,if_pos hk]
  simp
 | p::P,w::vs,i+1,m,nd,h1,h2,hk=>by
  show bindL kindOf ((p,w)::P.zip vs) m x=_
  unfold bindL;exact zhW (i:=i) (List.nodup_cons.mp nd).2 (by simpa using h1) (by simpa using h2) hk
theorem zhY{kindOf:Str->Option NameKind}{x:Str}{v:Value}:∀{P:List Str}{vs:List Value}{i:Nat}{m:qM},P.Nodup->P[i]?=some x->vs[i]?=some v->kindOf x≠some .local ->
  bindC kindOf (P.zip vs) m x=some v
 | [],_,_,_,_,h,_,_=>by simp at h
 | _::_,[],_,_,_,_,h,_=>by simp at h
 | p::P,w::vs,0,m,nd,h1,h2,hk=>by
  simp at h1 h2;subst h1;subst h2;show bindC kindOf ((p,w)::P.zip vs) m p=_
  unfold bindC;rw[zhX fun v hv=>(List.nodup_cons.mp nd).1 (List.of_mem_zip hv).1,if_neg hk]
  simp
 | p::P,w::vs,i+1,m,nd,h1,h2,hk=>by
  show bindC kindOf ((p,w)::P.zip vs) m x=_
  unfold bindC;exact zhY (i:=i) (List.nodup_cons.mp nd).2 (by simpa using h1) (by simpa using h2) hk
def start(N:List Str)(vs:List V):St:=vs.map some++List.replicate (N.length - vs.length) none
def cxOf(CX:CXT)(P:Program)(w:World)(K:qF)(mg:qM)(base:Heap)(N:List Str)(qual:Str)(scope:Scope)(f:Addr)(cd:Value)(A:Around)(outer:List Env)(s:Shared)(H:Hp)(E:XK):Cx where
 prog:=P
 w:=w
 K:=K
 mg:=mg
 base:=base
 A:=A.deeper (envOfC qual scope s.heap.objs.size f cd)
 N:=N
 s₀:=s
 H₀:=H
 env:=envOfC qual scope s.heap.objs.size f cd
 outer:=outer
 stack:=envOfC qual scope s.heap.objs.size f cd::outer
 ex:=[]
 calm:=true
 fn:=fun _=>true
 pn:=[]
 xe:=fun e s'=>wpAny (model P w) (A.deeper (envOfC qual scope s.heap.objs.size f cd)) (leaving (envOfC qual scope s.heap.objs.size f cd) e) (fun _ s''=>CX outer H s E e s'') (fun e' s''=>CX outer H s E e' s'') s'
theorem zjF{sc:Scope}{n:Nat}{x:Str}(h:sc.names.lookup x=some .cell):∃c,(cellsFrom n sc.names []).lookup x=some c:=by
 have q:=PySem.W.cellsFrom_some sc.names n [] (.inl h);exact Option.isSome_iff_exists.mp q
theorem zlL{CX:CXT}{P:Program}{w:World}{K:qF}{mg:qM}{base:Heap}{N ps:List Str}{qual:Str}{scope:Scope}{f:Addr}{cd:Value}{A:Around}{outer:List Env}{s s1:Shared}{H:Hp}{E:XK}{us:List Value}{vs:List V}
  (S:FnScope N ps scope) (hd:A.handled=none) (e0:Env0 P w K mg base A outer s H) (hl:vs.length=ps.length) (r:Vals vs us)
  (x:InCallC s s.heap.objs.size (bindL (envOfC qual scope s.heap.objs.size f cd).kindOf (ps.zip us) fun _=>none) (cellsFrom (s.heap.objs.size+1) scope.names []) (bindC (envOfC qual scope s.heap.objs.size f cd).kindOf (ps.zip us) fun _=>none) s1) :
  Inv (cxOf CX P w K mg base N qual scope f cd A outer s H E) [] (start N vs) H s1:=by
 have hpl:ps.length<=N.length:=by have:=congrArg List.length S.pre;rw[List.length_take]at this;lia
 obtain⟨h1,tk,rfl,hk⟩:=x.done;have noA:∀b:Addr,b∉(cxOf CX P w K mg base N qual scope f cd A outer s H E).ex:=fun b z=>absurd (show b∈([]:List Addr) from z) (by simp)
 refine⟨⟨e0.mod,S.kind,rfl,rfl,Nat.le_refl _,fun y z c h1 h2=>?_,fun y hy=>?_,fun y c _ h=>?_,fun _=>hd,Around.frames_deeper e0.frames,.inr ⟨rfl,rfl⟩,fun b z=>absurd z (noA b),e0.bs,e0.bsz,fun b _ _=>noA b,fun b z=>absurd z (noA b),e0.funs,e0.frf⟩,
  rfl,e0.bare,Un.kept hk,⟨_,x.toInCall.ns,fun i y v h1 h2 h3=>?_⟩,fun y c h=>⟨_,x.cell y c h⟩,e0.hok.fresh (Nat.le_refl _),fun y c h=>?_,fun p hp=>absurd (show p∈([]:qO) from hp) (by simp),e0.hok.kept hk,?_⟩
 ·exact name_of_addr x.apart (PySem.mem_of_lookup h1) (PySem.mem_of_lookup h2)
 ·have hy:scope.names.lookup y=some .cell\/scope.names.lookup y=some .free:=hy;rcases hy with hy|hy
  ·exact zjF hy
  ·exact absurd rfl (S.nofree _ (PySem.mem_of_lookup hy))
 ·exact Nat.le_of_lt (x.above y c (PySem.mem_of_lookup h))
 ·have hi:i<vs.length:=by
   unfold start at h2
   by_cases hi:i<vs.length
   ·exact hi
   ·rw[List.getElem?_append_right (by simpa using hi)]at h2
    rw[List.getElem?_replicate]at h2;split at h2 <;> cases h2
  have ha:vs[i]?=some v:=by
   unfold start at h2;rw[List.getElem?_append_left (by simpa using hi),List.getElem?_map]at h2
   cases e:vs[i]? with
   | none=>rw[e]at h2;cases h2
   | some a=>rw[e]at h2;cases h2;rfl
  obtain⟨u,hu,rv⟩:=r.get ha;have hp:ps[i]?=some y:=by
   rw[<- S.pre,List.getElem?_take_of_lt (by lia)];exact h1
  have ndP:ps.Nodup:=by rw[<- S.pre];exact S.nd.sublist (List.take_sublist _ _)
  refine⟨u,rv,?_⟩;rcases S.par y (List.mem_of_getElem? hp) with k|k
  ·exact .inl ⟨k,zhW ndP hp hu k⟩
  ·obtain⟨c,e⟩:=zjF (n:=s.heap.objs.size+1) k;refine .inr ⟨.inl k,c,e,?_⟩;have q:=x.cell y c e;rw[zhY ndP hp hu (by show scope.names.lookup y≠_;rw[k];decide)]at q
   exact q
 ·exact e0.hok.fresh (Nat.le_of_lt (x.above y c (PySem.mem_of_lookup h)))
 ·unfold start;show _=N.length
  rw[List.length_append,List.length_map,List.length_replicate];lia
theorem zut{CX:CXT}{P:Program}{w:World}{K:qF}{mg:qM}{base:Heap}{k:Nat}{f:Addr}{name qual:Str}{params:Arguments}{body:List Stmt}{scope:Scope}{dV kV doc pm cdv ct oc:Value}{an od:Option Addr}
  {osl:Array (Option Value)} {N ps:List Str} {sp:Sp} (lk:K.lookup f=some ⟨oc,od,.func (PySem.W.fnOf name qual params body scope dV kV doc pm an cdv ct),osl⟩) (hcd:PySem.W.codeIn K cdv qual=true) (S:FnScope N ps scope)
  (len:∀vs H Q E,sp vs H Q E->vs.length=ps.length)
  (hbody:∀(A:Around) (outer:List Env) (s:Shared) (H:Hp) (vs:List V) (Q:VK) (E:XK),Room k (A.deeper (envOfC qual scope s.heap.objs.size f cdv))->sp vs H Q E ->
   ∃t,PSs (cxOf CX P w K mg base N qual scope f cdv A outer s H E) body t/\t { nx:=fun _ H'=>Q .non H',rt:=Q } (start N vs) H) :
  FnOk P w K mg base CX (k+1) f (PySem.W.fnOf name qual params body scope dV kV doc pm an cdv ct) ps sp:=by
 refine⟨len,fun A outer s H args us vs Q E hr e0 hb r hsp=>?_⟩
 have hl:=len _ _ _ _ hsp;have KX:K.In s.heap:=e0.mod.kin.keeps fun b o e=>(e0.bs b o e).1
 have lim:s.heap.NoLimit:=e0.mod.nolimit.keeps fun b o e=>(e0.bs b o e).1
 have hkind:∀y∈ps.zip us,scope.names.lookup y.1=some .local\/(scope.names.lookup y.1=some .cell/\((cellsFrom (s.heap.objs.size+1) scope.names []).lookup y.1).isSome=true):=fun⟨n,v⟩ hy=>by
  rcases S.par n (List.of_mem_zip hy).1 with q|q
  ·exact .inl q
  ·exact .inr ⟨q,PySem.W.cellsFrom_some _ _ _ (.inl q)⟩
 refine codeAny_call_function hr.depth (KX _ _ lk) rfl S.co S.gen rfl (PySem.W.codeRec_of KX hcd) (hb _ _ _ _ ?_);refine wpAny_newFunctionEnv_cells S.kind hkind fun env he s1 x=>?_
 subst he;refine⟨lim.keeps x.toInCall.keep,codeAny_func ?_⟩;obtain⟨t,ht,hq⟩:=hbody A outer s H vs Q E (hr.deeper _) hsp;have I:Inv (cxOf CX P w K mg base N qual scope f cdv A outer s H E) [] (start N vs) H s1:=zlL S hr.hd e0 hl r x;refine wpAny_mono (ht [] s1 (start N vs) H _ I hq) (fun fl s' hs=>?_) fun e s' hs=>hs
 have fin:∀{σ':St} {H':Hp} {v:V} {u:Value},Inv (cxOf CX P w K mg base N qual scope f cdv A outer s H E) [] σ' H' s'->RelV v u->Q v H'->CE outer P w H s Q u s' :=
  fun {σ' H' v u} J rv q=>⟨v,H',J.os,J.bare,J.base,J.hok,rv,q⟩
 cases fl with
 | ret u =>
  obtain⟨v,σ',H',J,rv,q⟩:=hs;exact fin J rv q
 | next =>
  obtain⟨σ',H',J,q⟩:=hs;exact fin (v:=V.non) (u:=Value.none) J rfl q
 | brk =>
  obtain⟨_,_,_,q⟩:=hs;exact False.elim q
 | cont =>
  obtain⟨_,_,_,q⟩:=hs;exact False.elim q
section
variable{X:Cx}{x:Str}{p pos:Pos}{e:Expr}{es:List Expr}{t:TA}{id T:String}{r:List V->Hp->VK->Prop}
def tCB(r:List V->Hp->VK->Prop)(t:TA):TE:=fun σ H Q=>t σ H fun vs H1=>r vs H1 Q
theorem zm5(hc:JU X (.builtin id) r)(hg:Gl X x)(hm:X.mg x=none)(hv:bootBuiltins x=some (.builtin id))(ha:PA X (e::es) t)(hn:x ≠ "__name__":=by decide) (hdb:(x == ("__debug__":Str))=false:=by decide)
  (he:starEach (e::es) X.env=(false,eval e X.env)::starEach es X.env:=by rfl) (hpl:(backTo pos (starEach es X.env)).any (·.1)=false:=by rfl):PE X (.Call (.Name x p) (e::es) [] pos) (tCB r t):=by
 intro pins s σ H Q I h;refine wpAny_Call_Name_kw (Zk I hg hm hv ?_ hn hdb);exact PyProof.Rows.callWith_builtin1 (thn (ha pos pins s σ H _ I h) fun us s1 ⟨vs,H1,I1,r1,q1⟩=>hc pins s1 σ H1 vs us Q I1 r1 q1) he hpl
theorem zg7(hc:JU X (.type T) r)(hg:Gl X x)(hm:X.mg x=none)(hv:bootBuiltins x=some (.type T))(ha:PA X (e::es) t)(hn:x ≠ "__name__":=by decide) (hdb:(x == ("__debug__":Str))=false:=by decide)
  (he:starEach (e::es) X.env=(false,eval e X.env)::starEach es X.env:=by rfl) (hpl:(backTo pos (starEach es X.env)).any (·.1)=false:=by rfl):PE X (.Call (.Name x p) (e::es) [] pos) (tCB r t):=by
 intro pins s σ H Q I h;refine wpAny_Call_Name_kw (Zk I hg hm hv ?_ hn hdb);exact PyProof.Rows.callWith_type1 (thn (ha pos pins s σ H _ I h) fun us s1 ⟨vs,H1,I1,r1,q1⟩=>hc pins s1 σ H1 vs us Q I1 r1 q1) he hpl
end
end L2
namespace HT
open PySem PyProof.Rows
def lexLt:List Int->List Int->Bool
 | [],[]=>false
 | [],_::_=>true
 | _::_,[]=>false
 | x::xs,y::ys=>if x=y then lexLt xs ys else decide (x<y)
theorem zj5(x y:Int)(xs ys:List Int):lexLt (x::xs) (y::ys)=if x=y then lexLt xs ys else decide (x<y):=rfl
theorem zgw:lexLt [] []=false:=rfl
theorem zfg(y:Int)(ys:List Int):lexLt [] (y::ys)=true:=rfl
theorem zfh(x:Int)(xs:List Int):lexLt (x::xs) []=false:=rfl
theorem znx(A:Around)(s:Shared)(a:Int)(t:Tok)(c:Int)(u:Tok):∃e,SeqAt.EqAt A s (.int a t) (.int c u) e/\(e=true↔a=c) :=
 ⟨(a == c),SeqAt.EqAt.int_int a t c u,by simp⟩
theorem zmQ(A:Around)(s:Shared)(a:Int)(t:Tok)(c:Int)(u:Tok)(prog:Program)(w:World)(E:qV)(Q:qV)(h:Q (.bool (decide (a<c))) s) :
  wpAny (model prog w) A (richCompare .Lt (.int a t) (.int c u)) Q E s :=
 (PyProof.Rows.lt_int h:wpAny (model prog w) A (compareOp .Lt (.int a t) (.int c u)) Q E s)
section
open PySem.SeqAt
open PySem.AutoSeq1 (wpAny_loadPart')
open PySem.MeetsSeq PySem.MeetsSeq2 PySem.MeetsSeq3
theorem zf8(l b:Addr)(items items2:Array Value)(n n2:Nat)(dd dd2:Option Addr)(sl sl2:Array (Option Value))(ns ms:List Int)(hi:IntsAre items.toList ns)(hj:IntsAre items2.toList ms) :
  Meets (Builtin.«tuple.__lt__» ⟨[.ref l,.ref b],[]⟩)
   (fun _ R s=>s.heap.get? l=some { cls:=.type "tuple",dict:=dd,data:=.seq items n,slots:=sl }/\s.heap.get? b=some { cls:=.type "tuple",dict:=dd2,data:=.seq items2 n2,slots:=sl2 } /\
    R (.ok (.ret (.bool (lexLt ns ms)))) s) :=
 .of_wp fun prog w A R s h=>by
  obtain⟨hp,g,d,tk,os⟩:=s;obtain⟨hl,hb,h⟩:=h;have f2:=AutoSeq1.sub_tuple_tuple;have z1:items.size=ns.length:=by rw[<- hi.length];simp
  have z2:items2.size=ms.length:=by rw[<- hj.length];simp
  wp_walk using wpAny_loadPart' hl,wpAny_loadPart' hb,wpAny_forIn_list _ (fun rest b s'=>b.1=none/\s'=⟨hp,g,d,tk,os⟩/\∃(vs ws:List Value) (ns' ms':List Int),rest=vs.zip ws /\
   IntsAre vs ns'/\IntsAre ws ms'/\ns'.length+items2.size=ms'.length+items.size/\R (.ok (.ret (.bool (lexLt ns' ms')))) ⟨hp,g,d,tk,os⟩) _
  case turn =>
   rintro⟨y,x⟩ rest b s' ⟨hb',rfl,vs,ws,ns',ms',hz,hvi,hwi,hlen,hR⟩;cases hvi with
   | nil=>rw[List.zip_nil_left]at hz;cases hz
   | cons a t hvi' =>
    cases hwi with
    | nil=>rw[List.zip_nil_right]at hz;cases hz
    | cons c u hwi' =>
     rw[List.zip_cons_cons]at hz
     injection hz with hyx hrest
     injection hyx with hy hx
     subst hy hx;rw[zj5]at hR;simp only[List.length_cons]at hlen;obtain⟨e,he,hiff⟩:=znx A.in1 ⟨hp,g,d,tk,os⟩ a t c u;refine wpAny_bind (he prog w _ _ ?_);cases e with
     | true =>
      rw[if_pos (hiff.mp rfl)]at hR
      wp_walk
      exact⟨rfl,rfl,_,_,_,_,hrest,hvi',hwi',by lia,hR⟩
     | false =>
      rw[if_neg (fun q=>absurd (hiff.mpr q) Bool.false_ne_true)]at hR
      have hri:=zmQ A.in1 ⟨hp,g,d,tk,os⟩ a t c u prog w
      wp_walk using hri
      exact⟨_,rfl,by simpa using hR⟩
  case fin =>
   rintro⟨b1,b2⟩ s' ⟨hb',rfl,vs,ws,ns',ms',hz,hvi,hwi,hlen,hR⟩;simp only at hb';subst hb';have hv:lexLt ns' ms'=decide (items.size<items2.size):=by
    cases hvi with
    | nil =>
     cases hwi with
     | nil =>
      simp only[List.length_nil]at hlen;rw[zgw];exact(decide_eq_false (by lia)).symm
     | cons c u hw =>
      simp only[List.length_nil,List.length_cons]at hlen;rw[zfg];exact(decide_eq_true (by lia)).symm
    | cons a t hv =>
     cases hwi with
     | nil =>
      simp only[List.length_nil,List.length_cons]at hlen;rw[zfh];exact(decide_eq_false (by lia)).symm
     | cons c u hw =>
      rw[List.zip_cons_cons]at hz;cases hz
   rw[hv]at hR
   wp_walk
   exact⟨_,rfl,by simpa[Builtin.Tuple.tupleCompareSizes] using hR⟩
  case h =>
   exact⟨rfl,rfl,items.toList,items2.toList,ns,ms,rfl,hi,hj,by lia,h⟩
end
section
variable{prog:Program}{w:World}{A:Around}{E:qV}{s:Shared}
theorem zj4{l b:Addr}{items items2:Array Value}{ns ms:List Int}{Q:qV}(hl:IsTup s.heap l items)(hb:IsTup s.heap b items2)(hi:IntsAre items.toList ns)(hj:IntsAre items2.toList ms)
  (hu:A.units<cLine) (h:Q (.bool (lexLt ns ms)) s):wpAny (model prog w) A (compareOp .Lt (.ref l) (.ref b)) Q E s:=by
 obtain⟨⟨cls,dd,data,sl⟩,ho,hc,n,hd⟩:=id hl;obtain⟨⟨cls2,dd2,data2,sl2⟩,ho2,hc2,n2,hd2⟩:=id hb;simp only at hc hd hc2 hd2;subst hc hd hc2 hd2;exact richCompare_meets_room (op:=.Lt) ⟨_,ho,rfl⟩ ⟨_,ho2,rfl⟩ PySem.F.slot_tuple_lt PySem.F.entry_tuple_lt (PySem.F.args_tuple_lt_2 _ _) (zf8 l b items items2 n n2 dd dd2 sl sl2 ns ms hi hj)
  ⟨ho,ho2,show Value.bool (lexLt ns ms)≠Value.notImplemented/\Q (.bool (lexLt ns ms)) s from⟨(fun x=>nomatch x),h⟩⟩ hu
theorem zpQ{t b:Addr}{vs ws:List Value}{Q:qV}(ht:IsTup s.heap t vs.toArray)(hb:IsTup s.heap b ws.toArray)(hv:vs≠[])
  (h1:ws=[]->Q (.ref t) s) (h2:ws≠[]->Q (.ref s.heap.objs.size) { s with heap:=s.heap.push { cls:=.type "tuple",data:=.seq (vs++ws).toArray } })
  (hsz:vs.length+ws.length<=sizeLine):wpAny (model prog w) A (binaryOp .Add (.ref t) (.ref b)) Q E s:=by
 obtain⟨⟨cls,dd,data,sl⟩,ho,hc,n,hd⟩:=id ht;obtain⟨⟨cls2,dd2,data2,sl2⟩,ho2,hc2,n2,hd2⟩:=id hb;simp only at hc hd hc2 hd2;subst hc hd hc2 hd2;have e:vs.toArray++ws.toArray=(vs++ws).toArray:=by simp
 by_cases hw:ws=[]
 ·exact concat_meets ⟨_,ho,rfl⟩ ⟨_,ho2,rfl⟩ noFill_tuple_add seq_tuple_add PySem.F.slot_tuple_add PySem.F.entry_tuple_add (PySem.F.args_tuple_add_2 _ _)
   (tuple_addW1 t b vs.toArray ws.toArray n n2 dd dd2 sl sl2 (by simpa using hv) (by simp[hw])) ⟨ho,ho2,h1 hw⟩
 ·refine concat_meets ⟨_,ho,rfl⟩ ⟨_,ho2,rfl⟩ noFill_tuple_add seq_tuple_add PySem.F.slot_tuple_add PySem.F.entry_tuple_add (PySem.F.args_tuple_add_2 _ _)
   (tuple_addW2 t b vs.toArray ws.toArray n n2 dd dd2 sl sl2 (by simpa using hv) (by simpa using hw) (by rw[List.size_toArray,List.size_toArray];exact hsz)) ⟨ho,ho2,?_⟩
  rw[e];exact h2 hw
def sIx(n d:Nat):Option Int->Nat
 | none=>d
 | some v=>if v<0 then(v+(n:Int)).toNat else min v.toNat n
theorem zqr(n d:Nat)(hd:d<=n)(o:Option Int):sIx n d o<=n:=by
 cases o with
 | none=>exact hd
 | some v =>
  show(if v<0 then(v+(n:Int)).toNat else min v.toNat n)<=n
  by_cases hv:v<0
  ·rw[if_pos hv];lia
  ·rw[if_neg hv];exact Nat.min_le_right _ _
theorem zmf(v:Int)(n d:Nat):(if v<0 then max (v+(n:Int)) 0 else min v (n:Int))=((sIx n d (some v):Nat):Int):=by
 show(if v<0 then max (v+(n:Int)) 0 else min v (n:Int))=(((if v<0 then(v+(n:Int)).toNat else min v.toNat n):Nat):Int)
 by_cases hv:v<0
 ·simp only[if_pos hv];lia
 ·simp only[if_neg hv];lia
theorem zko(lo hi:Option Int)(n:Nat):Builtin.Slice.sliceAdjust lo hi 1 (n:Int)=(((sIx n 0 lo:Nat):Int),((sIx n n hi:Nat):Int)):=by
 have h1:¬((1:Int)<0):=by lia
 unfold Builtin.Slice.sliceAdjust;simp only[h1,if_false];refine Prod.ext ?_ ?_
 ·cases lo with
  | none=>rfl
  | some v=>exact zmf v n 0
 ·cases hi with
  | none=>rfl
  | some v=>exact zmf v n n
theorem zjU(i j:Nat):Builtin.Slice.slicePlaces (i:Int) (j:Int) 1=j - i:=by
 unfold Builtin.Slice.slicePlaces;have h1:(1:Int) > 0:=by lia
 simp only[h1,if_true,Int.ediv_one];split <;> lia
theorem zfy{v:Value}{o:Option Int}{Q:Option Int->Shared->Prop}(p:IsPart v o)(h:Q o s):wpAny (model prog w) A (Builtin.Slice.slicePartIndex v) Q E s:=by
 cases p with
 | none=>exact slicePart_none h
 | int i t=>exact slicePart_int h
theorem zci{sl:Addr}{vl vu:Value}{lo hi:Option Int}{n:Nat}{Q:Int×Int×Nat->Shared->Prop}(hs:s.heap.IsSliceOf sl vl vu .none)(pl:IsPart vl lo)(pu:IsPart vu hi)
  (h:Q (((sIx n 0 lo:Nat):Int),1,sIx n n hi - sIx n 0 lo) s):wpAny (model prog w) A (Builtin.Slice.sliceApplied (.ref sl) (pure (n:Int))) Q E s:=by
 obtain⟨os,hos,hcs,hds⟩:=id hs;unfold Builtin.Slice.sliceApplied Builtin.Slice.sliceFields;refine wpAny_bind (wpAny_bind (wpAny_field hos hds (x:=vl) rfl (wpAny_bind (wpAny_field hos hds (x:=vu) rfl (wpAny_bind (wpAny_field hos hds (x:=.none) rfl (wpAny_pure ?_)))))));refine wpAny_bind (slicePart_none ?_);show wpAny _ _ (if ((1:Int) == 0)=true then _ else _) _ _ s
 rw[if_neg (by decide)]
 refine wpAny_bind (zfy pl (wpAny_bind (zfy pu (wpAny_bind (wpAny_pure ?_)))));show wpAny _ _ (match Builtin.Slice.sliceAdjust lo hi 1 (n:Int) with|(lo,hi)=>pure (lo,(1:Int),Builtin.Slice.slicePlaces lo hi 1)) _ _ s
 rw[zko lo hi n];show wpAny _ _ (pure (((sIx n 0 lo:Nat):Int),(1:Int),Builtin.Slice.slicePlaces ((sIx n 0 lo:Nat):Int) ((sIx n n hi:Nat):Int) 1)) _ _ s
 rw[zjU];exact wpAny_pure h
theorem zmY(xs:Array Value)(i k:Nat):((List.range k).filterMap fun(m:Nat)=>xs[((i:Int)+(m:Int)*1).toNat]?).toArray=((xs.toList.drop i).take k).toArray:=by
 have e:(fun(m:Nat)=>xs[((i:Int)+(m:Int)*1).toNat]?)=fun m=>xs[i+m]?:=by
  funext m
  have:((i:Int)+(m:Int)*1).toNat=i+m:=by lia
  rw[this]
 rw[e];have:=pick_run xs i k;rw[List.filterMap_map]at this;have e2:((fun x=>xs[x]?)∘fun x=>i+x)=fun m=>xs[i+m]?:=rfl
 rw[e2]at this;rw[this]
theorem zdK{t sl:Addr}{items:Array Value}{vl vu:Value}{lo hi:Option Int}{Q:qV}(ht:IsTup s.heap t items)(hs:s.heap.IsSliceOf sl vl vu .none)(pl:IsPart vl lo)(pu:IsPart vu hi)
  (hw:¬(sIx items.size 0 lo=0/\sIx items.size items.size hi=items.size))
  (h:Q (.ref s.heap.objs.size) { s with heap:=s.heap.push { cls:=.type "tuple",data:=.seq ((items.toList.drop (sIx items.size 0 lo)).take (sIx items.size items.size hi - sIx items.size 0 lo)).toArray } })
  (hsz:items.size<=sizeLine):wpAny (model prog w) A (getItem (.ref t) (.ref sl)) Q E s:=by
 have htake:sizeOk (.seq ((items.toList.drop (sIx items.size 0 lo)).take (sIx items.size items.size hi - sIx items.size 0 lo)).toArray):=by
  show((items.toList.drop (sIx items.size 0 lo)).take (sIx items.size items.size hi - sIx items.size 0 lo)).toArray.size<=sizeLine
  rw[List.size_toArray,List.length_take,List.length_drop,Array.length_toList];lia
 have hj:sIx items.size items.size hi<=items.size:=zqr _ _ (Nat.le_refl _) hi;obtain⟨os,hos,hcs,hds⟩:=id hs;have hTs:s.TypeIs (.ref sl) "slice":=⟨os,hos,hcs⟩;unfold getItem
 try with_reducible refine wpAny_holding ?_
 first|refine wpAny_bind (wpAny_pure ?_)|skip
 refine wpAny_bind (wpAny_sequenceKey ht.typeIs (by decide) ?_)
 refine wpAny_bind (wpAny_callSpecial?_slot (name:=Str.ofString "__getitem__") ht.typeIs PyProof.Rows.slot_tuple_getitem
  (wpAny_call_entry PyProof.Rows.slot_tuple_getitem ht.typeIs entry_tuple_getitem ?_ (args_tuple_getitem _ _)))
 show wpAny _ _ (Builtin.Tuple.tupleItemsOf (.ref t) >>= _) _ _ s
 refine wpAny_bind (tupleItemsOf_ ht ?_);refine wpAny_bind (wpAny_typeOf hTs ?_);rw[if_pos (by decide)]
 refine wpAny_bind (zci hs pl pu ?_);have hno:¬((((sIx items.size 0 lo:Nat):Int) == 0&&(1:Int) == 1&&(sIx items.size items.size hi - sIx items.size 0 lo) == items.size)=true):=by
  intro q;rw[Bool.and_eq_true,Bool.and_eq_true]at q;have q1:((sIx items.size 0 lo:Nat):Int)=0:=eq_of_beq q.1.1;have q2:sIx items.size items.size hi - sIx items.size 0 lo=items.size:=eq_of_beq q.2;exact hw ⟨by lia,by lia⟩
 show wpAny _ _ (if (((sIx items.size 0 lo:Nat):Int) == 0&&(1:Int) == 1&&(sIx items.size items.size hi - sIx items.size 0 lo) == items.size)=true then _ else _) _ _ s
 rw[if_neg hno,zmY]
 first
  | exact wpAny_bind (m:=Builtin.Tuple.tupleExact _) (wpAny_newObj_type (wpAny_pure ⟨_,rfl,wpAny_pure h⟩) htake)
  | exact wpAny_bind (m:=Builtin.Tuple.tupleExact _) (wpAny_newObj_type (wpAny_bind (wpAny_pure (wpAny_pure ⟨_,rfl,wpAny_pure h⟩))) htake)
  | exact wpAny_bind (wpAny_bind (m:=Builtin.Tuple.tupleExact _) (wpAny_newObj_type (wpAny_pure (wpAny_pure ⟨_,rfl,wpAny_pure h⟩)) htake))
  | exact wpAny_bind (wpAny_bind (m:=Builtin.Tuple.tupleExact _) (wpAny_newObj_type (wpAny_pure ⟨_,rfl,wpAny_pure h⟩) htake))
end
end HT
namespace L2
open PySem PySem.Spec PyProof.Rows
abbrev TO:=St->Hp->(Option Int->Hp->Prop)->Prop
def PO(X:Cx)(e:Option Expr)(t:TO):Prop :=
 ∀(pins:qO) (s:Shared) (σ:St) (H:Hp) (Q:Option Int->Hp->Prop),Inv X pins σ H s->t σ H Q ->
  wpAny (model X.prog X.w) X.A (evalPart e X.env) (fun u s'=>∃o H',Inv X pins σ H' s'/\IsPart u o/\Q o H') X.xe s
def zom:TO:=fun _ H Q=>Q none H
def zs6(t:TE):TO:=fun σ H Q=>t σ H fun x H1=>∃i,x=.int i/\Q (some i) H1
theorem intsAre_of{ns:List Int}:∀{us:List Value},Vals (ns.map V.int) us->IntsAre us ns:=by
 induction ns with
 | nil=>intro us r;rw[List.map_nil]at r;cases r;exact .nil
 | cons n ns ih =>
  intro us r;rw[List.map_cons]at r;cases r with
  | cons r1 r2 =>
   obtain⟨t,e⟩:=r1;subst e;exact .cons n t (ih r2)
section
variable{X:Cx}{e:Expr}{te:TE}{lo hi:Option Expr}{tl th:TO}{pos p2:Pos}
theorem zoJ:PO X none zom:=by
 intro pins s σ H Q I h;rw[evalPart_none];exact wpAny_pure ⟨none,H,I,.none,h⟩
theorem zoI(h:PE X e te):PO X (some e) (zs6 te):=by
 intro pins s σ H Q I hw;rw[evalPart_some];refine thn (h pins s σ H _ I hw) fun u s1 ⟨x,H1,I1,r1,q1⟩=>?_
 obtain⟨i,rfl,q⟩:=q1;obtain⟨t,rfl⟩:=r1;exact⟨some i,H1,I1,.int i t,q⟩
def SlR(X:Cx)(r:V->Option Int->Option Int->Hp->VK->Prop):Prop :=
 ∀(pins:qO) (s:Shared) (σ:St) (H:Hp) (x:V) (v vl vu:Value) (lo hi:Option Int) (sl:Addr) (Q:VK),Inv X pins σ H s->RelV x v->s.heap.IsSliceOf sl vl vu .none->IsPart vl lo->IsPart vu hi->r x lo hi H Q ->
  ∃T id,typeLookup (.type T) "__getitem__" = pure (some (.builtin id))/\s.TypeIs v T/\wpAny (model X.prog X.w) X.A (getItem v (.ref sl)) (EP X pins σ Q) X.xe s
theorem SlR.or{r r':V->Option Int->Option Int->Hp->VK->Prop}(h:SlR X r)(h':SlR X r'):SlR X (fun x lo hi H Q=>r x lo hi H Q\/r' x lo hi H Q):=by
 intro pins s σ H x v vl vu lo hi sl Q I rx hs pl pu q;rcases q with q|q
 ·exact h pins s σ H x v vl vu lo hi sl Q I rx hs pl pu q
 ·exact h' pins s σ H x v vl vu lo hi sl Q I rx hs pl pu q
def tSl(r:V->Option Int->Option Int->Hp->VK->Prop)(te:TE)(tl th:TO):TE:=fun σ H Q=>te σ H fun x H1=>tl σ H1 fun l H2=>th σ H2 fun u H3=>r x l u H3 Q
theorem zm0{r:V->Option Int->Option Int->Hp->VK->Prop}(hr:SlR X r)(he:PE X e te)(hl:PO X lo tl)(hu:PO X hi th):PE X (.Subscript e (.Slice lo hi none p2) pos) (tSl r te tl th):=by
 intro pins s σ H Q I h;refine Subscript_ (thn (he pins s σ H _ I h) fun v s1 ⟨x,H1,I1,r1,q1⟩=>?_)
 refine wpAny_Slice (thn (hl pins s1 σ H1 _ I1 q1) fun vl s2 ⟨l,H2,I2,pl,q2⟩=>thn (hu pins s2 σ H2 _ I2 q2) fun vu s3 ⟨u,H3,I3,pu,q3⟩=>?_)
 rw[evalPart_none];refine wpAny_pure ?_;have I4:Inv X pins σ H3 { s3 with heap:=s3.heap.push { cls:=.type "slice",data:=.fields #[vl,vu,.none] } }:=I3.kept (t':=s3.toks) fun b ob q=>Heap.get?_push_of_some _ q
 obtain⟨T,id,hT,ht,hg⟩:=hr pins { s3 with heap:=s3.heap.push { cls:=.type "slice",data:=.fields #[vl,vu,.none] } } σ H3 x v vl vu l u s3.heap.objs.size Q I4 r1 (Heap.IsSliceOf.new ..) pl pu q3
 show wpAny (model X.prog X.w) X.A (subscriptTail e (.Slice lo hi none p2) v (.ref s3.heap.objs.size)) (EP X pins σ Q) X.xe { s3 with heap:=s3.heap.push { cls:=.type "slice",data:=.fields #[vl,vu,.none] } }
 exact tail_any (ops:=[.ref s3.heap.objs.size,v]) ht hT hg (by with_unfolding_all rfl)
def cutV(xs:List V)(lo hi:Option Int):List V:=(xs.drop (HT.sIx xs.length 0 lo)).take (HT.sIx xs.length xs.length hi - HT.sIx xs.length 0 lo)
theorem ziV(xs:List V)(lo hi:Option Int):(cutV xs lo hi).length<=xs.length:=by
 unfold cutV;rw[List.length_take,List.length_drop];lia
def rSlT(K:qF):V->Option Int->Option Int->Hp->VK->Prop:=fun x lo hi H Q=>∃a xs,x=.ref a/\SqT K H a xs /\
 ¬(HT.sIx xs.length 0 lo=0/\HT.sIx xs.length xs.length hi=xs.length)/\∀p,H p=none->Q (.ref p) (upd H p (.tup (cutV xs lo hi)))
theorem zqa:SlR X (rSlT X.K):=by
 intro pins s σ H x v vl vu lo hi sl Q I rx hs pl pu h;obtain⟨a,xs,rfl,hx,hw,q⟩:=h;cases rx;obtain⟨its,r,ht,hz⟩:=I.tuple hx;have hlen:its.toArray.size=xs.length:=by rw[List.size_toArray];exact r.length.symm
 refine⟨"tuple",_,PyProof.Rows.slot_tuple_getitem.lookup,ht.typeIs,?_⟩;refine HT.zdK ht hs pl pu (by rw[hlen];exact hw) ?_ (by rw[hlen];exact hz)
 rw[hlen];refine⟨.ref s.heap.objs.size,_,I.laid (t':=s.toks) (o:=.tup (cutV xs lo hi)) (fun b ob q=>Heap.get?_push_of_some _ q) (Nat.le_refl _) ?_,rfl,q _ (I.hok.fresh (Nat.le_refl _))⟩
 exact⟨Nat.le_trans (ziV xs lo hi) hz,_,(r.drop (HT.sIx xs.length 0 lo)).take (HT.sIx xs.length xs.length hi - HT.sIx xs.length 0 lo),IsTD.new _ _⟩
def rLtT(K:qF):R2:=fun x y H Q=>∃a b ns ms,x=.ref a/\y=.ref b/\SqT K H a (ns.map V.int)/\SqT K H b (ms.map V.int)/\Q (.bl (HT.lexLt ns ms)) H
theorem zq4(hu:X.A.units<cLine):OpR X (compareOp .Lt) (rLtT X.K):=by
 intro pins s σ H x y v u Q I rx ry h;obtain⟨a,b,ns,ms,rfl,rfl,ha,hb,q⟩:=h;cases rx;cases ry;obtain⟨its,r1,p1,_⟩:=I.tuple ha;obtain⟨its2,r2,p2,_⟩:=I.tuple hb;have i1:IntsAre its.toArray.toList ns:=intsAre_of r1;have i2:IntsAre its2.toArray.toList ms:=intsAre_of r2;exact HT.zj4 p1 p2 i1 i2 hu ⟨.bl (HT.lexLt ns ms),H,I,rfl,q⟩
def ztG(K:qF):R2:=fun x y H Q=>∃a b xs ys,x=.ref a/\y=.ref b/\SqT K H a xs/\SqT K H b ys/\xs≠[]/\xs.length+ys.length<=sizeLine /\
 (ys=[]->Q (.ref a) H)/\(ys≠[]->∀p,H p=none->Q (.ref p) (upd H p (.tup (xs++ys))))
theorem Vals.nil_iff{xs:List V}{us:List Value}(r:Vals xs us):us=[]↔xs=[]:=by
 cases r with
 | nil=>simp
 | cons _ _=>simp
theorem zoX:OpR X (binaryOp .Add) (ztG X.K):=by
 intro pins s σ H x y v u Q I rx ry h;obtain⟨a,b,xs,ys,rfl,rfl,ha,hb,hx,hz,q1,q2⟩:=h;cases rx;cases ry;obtain⟨its,r1,p1,_⟩:=I.tuple ha;obtain⟨its2,r2,p2,_⟩:=I.tuple hb;refine HT.zpQ p1 p2 (fun z=>hx (r1.nil_iff.mp z)) (fun z=>⟨.ref a,H,I,rfl,q1 (r2.nil_iff.mp z)⟩) (fun z=>?_) (by rw[<- r1.length,<- r2.length];exact hz)
 refine⟨.ref s.heap.objs.size,_,I.laid (t':=s.toks) (o:=.tup (xs++ys)) (fun b ob q=>Heap.get?_push_of_some _ q) (Nat.le_refl _) ?_,rfl,q2 (fun w=>z (r2.nil_iff.mpr w)) _ (I.hok.fresh (Nat.le_refl _))⟩
 exact⟨by rw[List.length_append];exact hz,_,r1.append r2,IsTD.new _ _⟩
end
def ixN(n:Nat)(i:Int):Option Nat:=if 0<=i then(if i<n then some i.toNat else none) else if -(n:Int)<=i then some (i+n).toNat else none
def atI{α:Type}(xs:List α)(i:Int):Option α:=(ixN xs.length i).bind fun j=>xs[j]?
theorem zlJ{n:Nat}{i:Int}{j:Nat}(h:ixN n i=some j):seqIndex? i n=some j/\j<n/\-(n:Int)<=i/\i<n:=by
 unfold ixN at h
 by_cases h0:0<=i
 ·rw[if_pos h0]at h
  by_cases h1:i<n
  ·rw[if_pos h1]at h;have e:i.toNat=j:=Option.some.inj h;exact⟨by rw[seqIndex_of h0 h1,e],by lia,by lia,h1⟩
  ·rw[if_neg h1]at h;cases h
 ·rw[if_neg h0]at h
  by_cases h1:-(n:Int)<=i
  ·rw[if_pos h1]at h;have e:(i+n).toNat=j:=Option.some.inj h;exact⟨by rw[seqIndex_neg (by lia) h1,e],by lia,h1,by lia⟩
  ·rw[if_neg h1]at h;cases h
theorem zi3{α:Type}{xs:List α}{i:Int}{v:α}(h:atI xs i=some v):∃j,seqIndex? i xs.length=some j/\xs[j]?=some v/\j<xs.length/\-(xs.length:Int)<=i/\i<xs.length:=by
 unfold atI at h;cases e:ixN xs.length i with
 | none=>rw[e]at h;cases h
 | some j =>
  rw[e]at h;obtain⟨h1,h2,h3,h4⟩:=zlJ e;exact⟨j,h1,h,h2,h3,h4⟩
theorem zpS{α:Type}{xs:List α}{j:Nat}{v:α}(h:xs[j]?=some v):atI xs (j:Int)=some v:=by
 have hj:j<xs.length:=(List.getElem?_eq_some_iff.mp h).1;have e:ixN xs.length (j:Int)=some j:=by
  unfold ixN;rw[if_pos (by lia),if_pos (by lia)];simp
 unfold atI;rw[e];exact h
def zmp(b:Expr):Prop:=∀o i,subscripted b false o i=operate [o,i] (getItem o i)
def IxR(X:Cx)(r:R2):Prop :=
 ∀(value slice:Expr) (pins:qO) (s:Shared) (σ:St) (H:Hp) (x y:V) (v u:Value) (Q:VK),Inv X pins σ H s->RelV x v->RelV y u->r x y H Q ->
  subscripted slice false v u=operate [v,u] (getItem v u)->wpAny (model X.prog X.w) X.A (subscriptTail value slice v u) (EP X pins σ Q) X.xe s
def MtR(X:Cx)(id:String)(r:V->List V->Hp->VK->Prop):Prop :=
 ∀(pins:qO) (s:Shared) (σ:St) (H:Hp) (x:V) (xs:List V) (v:Value) (us:List Value) (Q:VK),Inv X pins σ H s->RelV x v->Vals xs us->r x xs H Q ->
  wpAny (model X.prog X.w) X.A (call (.builtin id) (v::us)) (EP X pins σ Q) X.xe s
section
variable{X:Cx}{a b:Expr}{ta tb:TE}{pos:Pos}
theorem IxR.or{r r':R2}(h:IxR X r)(h':IxR X r'):IxR X (fun x y H Q=>r x y H Q\/r' x y H Q):=by
 intro value slice pins s σ H x y v u Q I rx ry q hs;rcases q with q|q
 ·exact h value slice pins s σ H x y v u Q I rx ry q hs
 ·exact h' value slice pins s σ H x y v u Q I rx ry q hs
theorem Uf{r:R2}(hr:IxR X r)(ha:PE X a ta)(hb:PE X b tb)(hs:zmp b):PE X (.Subscript a b pos) (tOp r ta tb):=by
 intro pins s σ H Q I h;exact Subscript_ (binT ha hb I h fun v u s2 x y H2 I2 rx ry q=>hr a b pins s2 σ H2 x y v u Q I2 rx ry q (hs _ _))
def rIxL(K:qF):R2:=fun x y H Q=>∃p xs i v,x=.ref p/\y=.int i/\SqL K H p xs/\atI xs i=some v/\Q v H
def rIxT(K:qF):R2:=fun x y H Q=>∃p xs i v,x=.ref p/\y=.int i/\SqT K H p xs/\atI xs i=some v/\Q v H
def rIxS:R2:=fun x y H Q=>∃z i c,x=.str z/\y=.int i/\z.length<=sizeLine/\atI z.cps.toList i=some c/\Q (.str ⟨#[c]⟩) H
theorem Uu:IxR X (rIxL X.K):=by
 intro value slice pins s σ H x y v u Q I rx ry h hs;obtain⟨p,xs,i,z,rfl,rfl,hq,he,q⟩:=h;cases rx;obtain⟨t,rfl⟩:=ry;obtain⟨its,r,pl,hz⟩:=I.list hq;obtain⟨j,h1,h2,h3,h4,h5⟩:=zi3 he;obtain⟨w,ew,rw'⟩:=r.get h2;have hl:=r.length;have hn:=Yh;have fin:EP X pins σ Q w s:=⟨z,H,I,rw',q⟩
 by_cases h0:0<=i
 ·have hj:i.toNat=j:=by
   rw[seqIndex_of h0 h5]at h1;exact Option.some.inj h1
  exact item_listR pl.isList h0 (by lia) (by rw[hj];simpa using ew) fin hs
 ·have hj:(i+(its.toArray.size:Int)).toNat=j:=by
   rw[seqIndex_neg (by lia) h4]at h1
   rw[List.size_toArray,<- hl];exact Option.some.inj h1
  exact subscriptTail_builtinR (x:=w) pl.isList.typeIs slot_list_getitem.lookup
   (wpAny_getItem_list_neg (Q:=fun r s'=>r=w/\EP X pins σ Q r s') pl.isList (by lia) (by rw[List.size_toArray] <;> lia) (by lia) (by rw[hj];simpa using ew) ⟨rfl,fin⟩) hs
theorem zrA:IxR X (rIxT X.K):=by
 intro value slice pins s σ H x y v u Q I rx ry h hs;obtain⟨p,xs,i,z,rfl,rfl,hq,he,q⟩:=h;cases rx;obtain⟨t,rfl⟩:=ry;obtain⟨its,r,pl,hz⟩:=I.tuple hq;obtain⟨j,h1,h2,h3,h4,h5⟩:=zi3 he;obtain⟨w,ew,rw'⟩:=r.get h2;have hl:=r.length;have hn:=Yh;have fin:EP X pins σ Q w s:=⟨z,H,I,rw',q⟩;exact subscriptTail_builtinR (x:=w) pl.typeIs slot_tuple_getitem.lookup
  (getItem_tuple (j:=j) (Q:=fun r s'=>r=w/\EP X pins σ Q r s') pl (by lia) (by lia) (by rw[List.size_toArray,<- hl];exact h1) (by simpa using ew) ⟨rfl,fin⟩) hs
theorem zrB:IxR X rIxS:=by
 intro value slice pins s σ H x y v u Q I rx ry h hs;obtain⟨z,i,c,rfl,rfl,hz,he,q⟩:=h;obtain⟨t,rfl⟩:=rx;obtain⟨t',rfl⟩:=ry;obtain⟨j,h1,h2,h3,h4,h5⟩:=zi3 he;have hl:z.cps.toList.length=z.length:=by simp[Str.length]
 rw[hl]at h1 h4 h5;have hn:=Yh;exact tail_any (typeIs_str s z t) slot_str_getitem.lookup (getItem_str (c:=c) (by
  have e1:decide (i < -(2 ^ 63:Int))=false:=decide_eq_false (by lia)
  have e2:decide (i>=2 ^ 63)=false:=decide_eq_false (by lia)
  rw[e1,e2,Bool.or_false]) (by rw[h1];simpa using h2) ⟨.str ⟨#[c]⟩,H,I.tok _,⟨_,rfl⟩,q⟩) hs
def rIx(K:qF):R2:=fun x y H Q=>rIxL K x y H Q\/rIxT K x y H Q\/rIxS x y H Q
theorem zrC:IxR X (rIx X.K):=Uu.or (zrA.or zrB)
theorem zj2(its:List Value)(n j:Nat)(u:Value):Obj.mapSeq (·.setIfInBounds j u) { cls:=.type "list",data:=.seq its.toArray n }={ cls:=.type "list",data:=.seq (its.set j u).toArray n }:=by
 simp[Obj.mapSeq]
theorem Inv.lst{pins:qO}{σ:St}{H:Hp}{s:Shared}{p:Addr}{xs:List V}(I:Inv X pins σ H s)(h:H p=some (.lst xs)) :
  ∃(its:List Value) (n:Nat),Vals xs its/\s.heap.get? p=some { cls:=.type "list",data:=.seq its.toArray n }/\xs.length<=sizeLine:=by
 obtain⟨z,its,n,r,e⟩:=I.hok p _ h;exact⟨its,n,r,e,z⟩
theorem Inv.lstUpd{pins:qO}{σ:St}{H:Hp}{s:Shared}{p:Addr}{xs ys:List V}{its its':List Value}{n n':Nat}{f:Obj->Obj}(I:Inv X pins σ H s)(h:H p=some (.lst xs))
  (ho:s.heap.get? p=some { cls:=.type "list",data:=.seq its.toArray n }) (hf:f { cls:=.type "list",data:=.seq its.toArray n }={ cls:=.type "list",data:=.seq its'.toArray n' }) (r:Vals ys its') (hz:ys.length<=sizeLine) (t:Nat) :
  Inv X pins σ (upd H p (.lst ys)) { s with heap:=s.heap.update p f,toks:=t }:=by
 have e:(s.heap.update p f).get? p=some { cls:=.type "list",data:=.seq its'.toArray n' }:=by
  rw[Heap.get?_update_self f ho (by rw[hf] <;> rfl),hf]
 refine I.write (x:=p) (e:=p) (by rw[h];trivial) (.inl rfl) (fun b u hb q=>(Heap.get?_update_other _ _ (Ne.symm hb)).trans q) ⟨_,e⟩ ?_
 exact⟨hz,its',n',r,e⟩
def ztF:V->V->V->Hp->(Hp->Prop)->Prop:=fun o i v H Q=>∃p xs k j,o=.ref p/\i=.int k/\H p=some (.lst xs)/\ixN xs.length k=some j/\Q (upd H p (.lst (xs.set j v)))
theorem set_list:PSet X ztF:=by
 intro pins s σ H o i v ov iv u Q I ro ri rv h;obtain⟨p,xs,k,j,rfl,rfl,hp,hj,q⟩:=h;cases ro;obtain⟨t,rfl⟩:=ri;obtain⟨its,n,r,ho,hz⟩:=I.lst hp;obtain⟨h1,h2,h3,h4⟩:=zlJ hj;have hl:=r.length;have hn:=Yh;have I':Inv X pins σ (upd H p (.lst (xs.set j v))) { s with heap:=s.heap.update p (Obj.mapSeq (·.setIfInBounds j u)) } :=
  I.lstUpd hp ho (zj2 its n j u) (r.set rv j) (by rw[List.length_set];exact hz) s.toks
 by_cases h0:0<=k
 ·have hk:k.toNat=j:=by
   rw[seqIndex_of h0 h4]at h1;exact Option.some.inj h1
  exact PySem.W.ki_setAt ho h0 (by lia) (by rw[List.size_toArray,<- hl];exact h4) (by rw[hk];exact⟨_,I',q⟩)
 ·have hk:(k+(its.toArray.size:Int)).toNat=j:=by
   rw[seqIndex_neg (by lia) h3]at h1
   rw[List.size_toArray,<- hl];exact Option.some.inj h1
  exact PySem.W.ki_setBack ho (by lia) (by rw[List.size_toArray,<- hl];exact h3) (by lia) (by rw[hk];exact⟨_,I',q⟩)
theorem zhJ:JU X (.builtin "len") (fun xs H Q=>∃p ys,xs=[.ref p]/\(SqL X.K H p ys\/SqT X.K H p ys)/\Q (.int ys.length) H):=by
 intro pins s σ H xs us Q I r h;obtain⟨p,ys,rfl,hq,q⟩:=h;obtain⟨u,rfl,rx⟩:=vals1 r;cases rx;have hn:=Yh;rcases hq with hq|hq
 ·obtain⟨its,r',pl,hz⟩:=I.list hq;have hlen:=r'.length;exact Calls.call_len_list pl.isList (by simp only[List.size_toArray] <;> lia) ⟨.int ys.length,H,I.tok _,⟨s.toks+1,by rw[List.size_toArray,hlen]⟩,q⟩
 ·obtain⟨its,r',pl,hz⟩:=I.tuple hq;have hlen:=r'.length;exact len_tuple pl (by simp only[List.size_toArray] <;> lia) ⟨.int ys.length,H,I.tok _,⟨s.toks+1,by rw[List.size_toArray,hlen]⟩,q⟩
theorem ZL:JU X (.type "tuple") (fun xs H Q=>∃p ys,xs=[.ref p]/\((SqL X.K H p ys/\∀l,H l=none->Q (.ref l) (upd H l (.tup ys)))\/(SqT X.K H p ys/\Q (.ref p) H))):=by
 intro pins s σ H xs us Q I r h;obtain⟨p,ys,rfl,h⟩:=h;obtain⟨u,rfl,rx⟩:=vals1 r;cases rx;rcases h with⟨hq,q⟩|⟨hq,q⟩
 ·obtain⟨its,r',pl,hz⟩:=I.list hq;have hlen:=r'.length;refine call_tuple_list pl.isList (fun h' kp=>?_) (by simp only[List.size_toArray] <;> lia)
  have I1:Inv X pins σ H { s with heap:=h' }:=I.kept (t':=s.toks) kp
  have I2:Inv X pins σ (upd H h'.objs.size (.tup ys)) { s with heap:=h'.push { cls:=.type "tuple",data:=.seq its.toArray } } :=
   I1.laid (t':=s.toks) (fun b o e=>Heap.get?_push_of_some _ e) (Nat.le_refl _) (show JL X.prog X.w _ _ _ (.tup ys) from⟨hz,its,r',IsTD.new _ _⟩)
  exact⟨.ref h'.objs.size,_,I2,rfl,q _ (I1.hok.fresh (Nat.le_refl _))⟩
 ·obtain⟨its,r',pl,hz⟩:=I.tuple hq;exact call_tuple_same pl ⟨.ref p,H,I,rfl,q⟩
def tyV(K:qF)(T:String)(x:V)(H:Hp):Prop:=match x with
 | .str _=>T = "str"
 | .int _=>T = "int"
 | .ref p=>(T = "list" /\ ∃xs,SqL K H p xs)\/(T = "tuple" /\ ∃o,K.lookup p=some o/\o.cls=.type "tuple" /\ o.dict=none) \/
   (T = "dict" /\ ((∃kvs,H p=some (.dK kvs))\/∃kvs,H p=some (.dT kvs)))\/(T = "set" /\ ∃S n,H p=some (.set S n))
 | _=>False
theorem znQ{pins:qO}{σ:St}{H:Hp}{s:Shared}{T:String}{x:V}{v:Value}(I:Inv X pins σ H s)(r:RelV x v)(ty:tyV X.K T x H) :
  s.TypeIs v T/\∀a,v=.ref a->∃ob,s.heap.get? a=some ob/\ob.dict=none:=by
 cases x with
 | str z =>
  obtain⟨t,rfl⟩:=r;cases(show T = "str" from ty)
  exact⟨typeIs_str s z t,fun _ e=>nomatch e⟩
 | int i =>
  obtain⟨t,rfl⟩:=r;cases(show T = "int" from ty)
  exact⟨typeIs_int s i t,fun _ e=>nomatch e⟩
 | ref p =>
  cases r;rcases ty with⟨rfl,xs,hq⟩|⟨rfl,o,hk,hc,hd⟩|⟨rfl,hk⟩|⟨rfl,S,n,hk⟩
  ·obtain⟨its,_,pl,_⟩:=I.list hq;refine⟨pl.isList.typeIs,fun a e=>?_⟩
   cases e;obtain⟨o,n,e,c,hd,_⟩:=pl;exact⟨o,e,hd⟩
  ·refine⟨⟨o,I.kIn p o hk,hc⟩,fun a e=>?_⟩
   cases e;exact⟨o,I.kIn _ o hk,hd⟩
  ·have z:∃o,s.heap.get? p=some o/\o.ExactDict:=by
    rcases hk with⟨kvs,hk⟩|⟨kvs,hk⟩
    ·obtain⟨_,_,_,_,o,_,_,e,ex,_⟩:=I.hok p _ hk;exact⟨o,e,ex⟩
    ·obtain⟨_,_,_,_,o,_,_,e,ex,_⟩:=I.hok p _ hk;exact⟨o,e,ex⟩
   obtain⟨o,e,ex⟩:=z;refine⟨⟨o,e,ex.1⟩,fun a e2=>?_⟩
   cases e2;exact⟨o,e,ex.2.1⟩
  ·obtain⟨o,_,_,_,e,ex,_⟩:=I.hok p _ hk;refine⟨⟨o,e,ex.1⟩,fun a e2=>?_⟩
   cases e2;exact⟨o,e,ex.2.1⟩
 | _=>exact False.elim ty
def tBM0(K:qF)(T:String)(r:V->List V->Hp->VK->Prop)(to:TE):TE:=fun σ H Q=>to σ H fun x H1=>tyV K T x H1/\r x [] H1 Q
def tBM(K:qF)(T:String)(r:V->List V->Hp->VK->Prop)(to:TE)(t:TA):TE:=fun σ H Q=>to σ H fun x H1=>tyV K T x H1/\t σ H1 fun xs H2=>r x xs H2 Q
variable{o e:Expr}{es:List Expr}{to:TE}{t:TA}{name:Str}{apos cpos:Pos}{T id:String}{r:V->List V->Hp->VK->Prop}
theorem zqS(pa:PlainAttrs T)(slot:Slot T name id)(hty:typeOf (.builtin id)=pure (.type "method_descriptor")) (hm:MtR X id r) (ho:PE X o to)
  (hbase:attributeBase o name X.env (eval o X.env)=eval o X.env:=by rfl) (hline:(apos.endLine == cpos.line)=true:=by rfl):PE X (.Call (.Attribute o name apos) [] [] cpos) (tBM0 X.K T r to):=by
 intro pins s σ H Q I h;refine wpAny_Call_method0_late hbase hline (thn (ho pins s σ H _ I h) fun v s1 ⟨x,H1,I1,r1,ty,q1⟩=>?_)
 obtain⟨h1,h2⟩:=znQ I1 r1 ty;exact⟨T,id,pa,slot,hty,h1,h2,Calls.callWith_builtin rfl (PySem.evalArgs_none (hm pins s1 σ H1 x [] v [] Q I1 r1 .nil q1))⟩
theorem zqT(pa:PlainAttrs T)(slot:Slot T name id)(hty:typeOf (.builtin id)=pure (.type "method_descriptor")) (hm:MtR X id r) (ho:PE X o to) (ha:PA X (e::es) t)
  (hbase:attributeBase o name X.env (eval o X.env)=eval o X.env:=by rfl)
  (hfew:((backTo cpos (starEach (e::es) X.env)).all (fun x=>!x.1)&&(backToKw cpos (keywordEach [] X.env)).all (fun x=>x.1.isSome)
   && decide ((e::es).length+([]:List Keyword).length+(if ([]:List Keyword).isEmpty then 0 else 1)<30))=true:=by rfl)
  (hline:(apos.endLine == cpos.line)=true:=by rfl) (hs:starEach (e::es) X.env=(false,eval e X.env)::starEach es X.env:=by rfl) (hplain:(backTo cpos (starEach es X.env)).any (·.1)=false:=by rfl) :
  PE X (.Call (.Attribute o name apos) (e::es) [] cpos) (tBM X.K T r to t):=by
 intro pins s σ H Q I h;refine wpAny_Call_method_late hbase hfew hline rfl (thn (ho pins s σ H _ I h) fun v s1 ⟨x,H1,I1,r1,ty,q1⟩=>?_)
 obtain⟨h1,h2⟩:=znQ I1 r1 ty;refine⟨T,id,pa,slot,hty,h1,h2,?_⟩;have hA:=ha cpos pins s1 σ H1 _ I1 q1;rw[hs]at hA ⊢;refine Calls.callWith_builtin (by show(false||(backTo cpos (starEach es X.env)).any (·.1))=false;rw[hplain] <;> rfl) (Calls.evalArgs_plain ?_)
 exact thn hA fun us s2 ⟨vs,H2,I2,r2,q2⟩=>hm pins s2 σ H2 x vs v us Q I2 r1 r2 q2
end
def MtM(X:Cx)(id:String)(r:V->List V->Hp->VK->Prop):Prop :=
 ∀(pins:qO) (s:Shared) (σ:St) (H:Hp) (x:V) (xs:List V) (v:Value) (us:List Value) (Q:VK),Inv X pins σ H s->RelV x v->Vals xs us->r x xs H Q ->
  wpAny (model X.prog X.w) X.A (call (.builtin id) (v::us)) (EP X pins σ Q) X.xe s
theorem Vals.one:∀{x:V}{us:List Value},Vals [x] us->∃u,us=[u]/\RelV x u
 | _,_,.cons r .nil=>⟨_,rfl,r⟩
section
variable{X:Cx}{pins:qO}{σ:St}{H:Hp}{s:Shared}{l b:Addr}{xs ys zs:List V}
theorem Inv.lset{its its':List Value}{n:Nat}{f:Array Value->Array Value}{t':Nat}(I:Inv X pins σ H s)(hH:H l=some (.lst xs))
  (e:s.heap.get? l=some { cls:=.type "list",data:=.seq its.toArray n }) (hf:f its.toArray=its'.toArray) (hv:Vals ys its') (hz:ys.length<=sizeLine) :
  Inv X pins σ (upd H l (.lst ys)) { s with heap:=s.heap.update l (Obj.mapSeq f),toks:=t' }:=by
 have q:=PySem.IsL.update e f;rw[hf]at q;refine I.write (x:=l) (e:=l) (by rw[hH];exact trivial) (.inl rfl) (fun b' u hb hu=>(Heap.get?_update_other s.heap (Obj.mapSeq f) (Ne.symm hb)).trans hu) ⟨_,q⟩ ?_
 exact⟨hz,its',_,hv,q⟩
theorem Inv.lstM(I:Inv X pins σ H s)(hH:H l=some (.lst xs)):xs.length<=sizeLine/\∃(its:List Value) (n:Nat),Vals xs its/\xs.length=its.length/\s.heap.get? l=some { cls:=.type "list",data:=.seq its.toArray n }:=by
 obtain⟨z,its,n,r,e⟩:=I.hok l _ hH;exact⟨z,its,n,r,r.length,e⟩
theorem znb{n:Nat}(h:n<=sizeLine):Builtin.List.listTooLong n=false:=by
 unfold Builtin.List.listTooLong;exact decide_eq_false (by lia)
end
section
variable{X:Cx}
def zoC:V->List V->Hp->VK->Prop:=fun x vs H Q=>∃l xs y,x=.ref l/\vs=[y]/\H l=some (.lst xs)/\xs.length<sizeLine/\Q .non (upd H l (.lst (xs++[y])))
theorem zeF:MtM X "list.append" zoC:=by
 intro pins s σ H x vs v us Q I rx rv h;obtain⟨l,xs,y,rfl,rfl,hH,hz,q⟩:=h;cases rx;obtain⟨u,rfl,ru⟩:=rv.one;obtain⟨z,its,n,r,hl,e⟩:=I.lstM hH;refine call_meets F.slot_list_append ⟨_,e,rfl⟩ F.entry_list_append (F.args_list_append_2 _ _) (PySem.list_append l its.toArray n u (by rw[List.size_toArray];lia)) ⟨e,?_⟩
 refine⟨.non,_,I.lset (its':=its++[u]) hH e (by simp) (r.append (.cons ru .nil)) ?_,rfl,q⟩
 rw[List.length_append,List.length_singleton];lia
end
end L2
namespace Att
open PySem PySem.W PySem.Calls PyProof.Rows
theorem zeV{P:Params}{h:Heap}:∀(ns:List Int) (vs:List Value),WellAll P h vs (ns.map WData.int)->IntsAre vs ns:=by
 intro ns;induction ns with
 | nil =>
  intro vs w;rw[List.map_nil]at w;cases w;exact .nil
 | cons n ns ih =>
  intro vs w;rw[List.map_cons]at w;cases w with
  | cons a b =>
   cases a;exact .cons _ _ (ih _ b)
theorem zkI{l:OpenLaw}{n:Nat}(hn:l.most=some n){P:Params}{h:Heap}{args:List WData}{vals:List Value}
  (hpre:l.row.toRowW.claim.pre args=true) (hwl:WellAll P h vals args) :
  ∃a vs ns,vals=[Value.ref a]/\args=[WData.list (ns.map WData.int)]/\h.get? a=some { cls:=.type "list",data:=.seq vs.toArray }/\IntsAre vs ns/\ns.length<=n:=by
 have hsh:WShape.hasAll [] args [.list .int]=true:=(pre_splitW hpre).1;have hc:l.pre.holds [] { args:=args }=true:=(pre_splitW hpre).2;obtain⟨d,r,rfl,h1,h2⟩:=hasAllW_cons hsh;obtain rfl:=hasAllW_nil h2;obtain⟨xs,rfl,h3⟩:=hasW_list h1;obtain⟨ns,rfl⟩:=items_int h3;have hlen:ns.length<=n:=by
  unfold OpenLaw.pre at hc;have h4:(WTm.not (.lt (.lit (.int (n:Int))) (.len (.arg 0)))).holds [] { args:=[.list (ns.map .int)] }=true:=by
   have h4:=(holds_andW hc).1;rw[hn]at h4;exact h4
  have h5:=condW_of h4 (w_not (w_lt w_lit (w_len_list (w_arg rfl))));rw[List.length_map]at h5;refine Nat.le_of_not_lt fun q=>?_
  have q':(n:Int)<((ns.length:Nat):Int):=by lia
  first
   | (rw[decide_eq_true q']at h5;exact absurd h5 (by decide))
   | (simp at h5;lia)
 cases hwl with
 | cons w1 w2 =>
  cases w2;cases w1 with
  | list ho hall=>exact⟨_,_,ns,rfl,rfl,ho,zeV ns _ hall,hlen⟩
theorem zk7(l:OpenLaw)(args:List WData):l.row.toRowW.claim.post args (.bool true) args=true :=
 postW_of (r:=l.row.toRowW) (X:=(true == true))
  (show WShape.has [] (.bool true) .bool=true by first|rfl|decide|simp[WShape.has,WShape.arms,WShape.armsAll])
  (show(WTm.eq .res (.lit (.bool true))).value [] { args:=args,res:=some (.bool true),after:=args }=some (.bool (true == true)) from w_eq_bool (w_res rfl) w_lit) rfl
theorem attach_call{l:OpenLaw}{n:Nat}{q:Program}{loose:List Str}{XP:(Str->Option Value)->Heap->Prop}{YP:World->Heap->Prop}{d:DefRec}
  (hn:l.most=some n) (hdf:d.params.defaults=[])
  (call:∀(w:World) (s₀ s₁:Shared) (mg mb:qM) (fa:Addr) (o:Obj) (pm cd doc:Value) (a:Addr) (vs:List Value) (ns:List Int),
   Ground q loose [] XP w s₀ mg mb s₁.heap->YP w s₁.heap ->
   s₁.heap.get? fa=some o->o.data=.func (docDef d.name d.params d.body d.scope pm cd doc)->s₁.heap.CodeRec cd d.name->mg d.name=some (.ref fa) ->
   s₁.heap.get? a=some { cls:=.type "list",data:=.seq vs.toArray }->IntsAre vs ns->ns.length<=n->s₁.gens=#[] ->
   codeAny (model l.prog w) callerA (.call (.ref fa) ⟨[.ref a],[]⟩) (fun r s'=>r=.ok (.ret (.bool true))/\OldK s₁.heap s'.heap/\s'.os=s₁.os/\AllBare s'.gens) s₁) :
  WalkO q loose XP YP l.row.toRowW d [] (fun f vs=>PySem.call f vs):=by
 intro w s₀ s₁ mg mb G Y fa o pm cd doc dV kV ho hd hcd hD hmg hg args vals as hpre hlay hrd hwl hlo;obtain rfl:dV=.none:=Dflts.none hD hdf;obtain rfl:kV=.none:=Dflts.noKw hD;obtain⟨a,vs,ns,rfl,rfl,hobj,hints,hlen⟩:=zkI hn hpre hwl;refine enter_call (codeAny_mono (call w s₀ s₁ mg mb fa o pm cd doc a vs ns G Y ho (fd_plain hd) hcd hmg hobj hints hlen hg) fun r s' hq=>?_)
 obtain⟨rfl,h2,h3,h4⟩:=hq;exact⟨.inl ⟨.bool true,.bool true,[],rfl,fun _=>rfl,.bool true,zk7 l _,fun _=>⟨List.Pairwise.nil,fun _ hm=>(nomatch hm)⟩⟩,h2,h3,h4⟩
end Att
namespace L2
open PySem PySem.Spec PyProof.Rows
theorem zgS:∀{vs:List Value}{ns:List Int},IntsAre vs ns->Vals (ns.map V.int) vs
 | _,_,.nil=>.nil
 | _,_,.cons n t h=>.cons ⟨t,rfl⟩ (zgS h)
def Only(H:Hp):Prop:=∀b,H b=none\/∃o xs,H b=some (.frz o (.lst xs))
theorem zng{P:Program}{w:World}{K:qF}{mg mb:qM}{CX:CXT}{k:Nat}{fa a:Addr}{fd:FuncData}{x:Str}{sp:Sp}{s₁:Shared}{vs:List Value}{ns:List Int}
  (KX:K.In s₁.heap) (hns:s₁.heap.Ns mainGlobals mg) (hb:s₁.heap.Ns builtinsNs mb) (hbb:∀x:Str,x ≠ "__name__" -> mb x=bootBuiltins x) (hlim:s₁.heap.NoLimit) (hg:s₁.gens=#[])
  (ha:s₁.heap.get? a=some { cls:=.type "list",data:=.seq vs.toArray }) (hi:IntsAre vs ns) (hl:ns.length<=sizeLine) (hr:Room k callerA)
  (F:∀base:Heap,K.In base->base.Ns mainGlobals mg->FnOk P w K mg base CX k fa fd [x] sp) (hbind:∀(s:Shared) (u:Value),BindsTo s fd ⟨[u],[]⟩ [(x,u)])
  (hsp:∀H:Hp,Only H->SqL K H a (ns.map V.int)->sp [.ref a] H (fun v _=>v=.bl true) fun _ _ _=>False)
  (hCX:∀H e s',CX [] H s₁ (fun _ _ _=>False) e s'->False) :
  codeAny (model P w) callerA (.call (.ref fa) ⟨[.ref a],[]⟩) (fun r s'=>r=.ok (.ret (.bool true))/\OldK s₁.heap s'.heap/\s'.os=s₁.os/\AllBare s'.gens) s₁:=by
 have rv:=zgS hi;have lenV:=hi.length;have core:∀H:Hp,Only H->SqL K H a (ns.map V.int)->HOk P w H s₁.heap->(∀b,H b≠none->b=a)->(H a≠none->K.lookup a=none) ->
   codeAny (model P w) callerA (.call (.ref fa) ⟨[.ref a],[]⟩) (fun r s'=>r=.ok (.ret (.bool true))/\OldK s₁.heap s'.heap/\s'.os=s₁.os/\AllBare s'.gens) s₁:=by
  intro H hO hS hok hA hK;have base_of:∀{b:Addr} {o:Obj},s₁.heap.get? b=some o->H b=none->(hidT s₁.heap H).get? b=some o:=fun e n=>znr e n
  have noA:∀{b:Addr} {o:Obj} {es:Array DictEntry} {ep:Nat},s₁.heap.get? b=some o->o.data=.dict es ep->H b=none:=fun {b o es ep} e d=>by
   cases q:H b with
   | none=>rfl
   | some u =>
    have e':b=a:=hA b (by rw[q];simp)
    subst e';rw[ha]at e;cases e;have d':Data.seq vs.toArray _=Data.dict es ep:=d;cases d'
  have nsK:∀{b:Addr} {m:qM},s₁.heap.Ns b m->(hidT s₁.heap H).Ns b m:=fun {b m} ⟨o,es,ep,e,d,r⟩=>⟨o,es,ep,base_of e (noA e d),d,r⟩
  have hKb:K.In (hidT s₁.heap H):=fun b o e=>base_of (KX b o e) (by
   cases q:H b with
   | none=>rfl
   | some u =>
    have e':b=a:=hA b (by rw[q];simp)
    subst e';rw[hK (by rw[q];simp)]at e;cases e)
  have hM:Mod K mg (hidT s₁.heap H):=⟨hKb,nsK hns,⟨mb,nsK hb,hbb⟩,let ⟨mc,h1,h2⟩:=hlim;⟨mc,nsK h1,h2⟩⟩
  have e0:Env0 P w K mg (hidT s₁.heap H) callerA [] s₁ H:=⟨rfl,hM,fun b o e=>zo1 e,Nat.le_of_eq (zlO _ _),trivial,fun b hb=>absurd (show b∈([]:List Addr) from hb) (by simp),hok,.of_eq hg⟩
  refine codeAny_mono ((F _ hKb (nsK hns)).run callerA [] s₁ H ⟨[.ref a],[]⟩ [.ref a] [.ref a] _ _ hr e0 (hbind s₁ (.ref a)) (.cons rfl .nil) (hsp H hO hS)) fun r s' h=>?_
  cases r with
  | error e=>exact(hCX H e s' h).elim
  | ok fl =>
   cases fl with
   | next=>exact False.elim h
   | brk=>exact False.elim h
   | cont=>exact False.elim h
   | ret u =>
    obtain⟨v,H',os,bare,un,hok',r',q⟩:=h;have q':v=.bl true:=q;subst q';obtain rfl:u=Value.bool true:=r';refine⟨rfl,OldK.of_keep fun b o e=>?_,os,bare⟩
    cases q:H b with
    | none=>exact un.keep b o e q (by intro z;exact absurd (show b∈([]:List Addr) from z) (by simp)) (by simp)
    | some u =>
     rcases hO b with z|⟨ob,xs,z⟩
     ·rw[q]at z;cases z
     ·have z2:=un.frzs b ob _ z;obtain⟨e1,_⟩:=hok b _ z;obtain⟨e2,_⟩:=hok' b _ z2;rw[e]at e1;cases e1;exact e2
 cases hk:K.lookup a with
 | some o =>
  have e:=KX a o hk;rw[ha]at e;cases e;refine core (fun _=>none) (fun _=>.inl rfl) (.inr ⟨_,vs.toArray,_,hk,rfl,rfl,rfl,by rw[List.size_toArray,lenV];exact hl,by simpa using rv⟩) (fun b u z=>by have z':(none:Option HO)=some u:=z;cases z') (fun b z=>absurd rfl z) fun z=>absurd rfl z
 | none =>
  refine core (fun b=>if b=a then some (.frz { cls:=.type "list",data:=.seq vs.toArray } (.lst (ns.map V.int))) else none) (fun b=>?_) (.inl (.inr ⟨{ cls:=.type "list",data:=.seq vs.toArray },if_pos rfl⟩)) (fun b u z=>?_) (fun b z=>?_) fun _=>hk
  ·by_cases hb:b=a
   ·exact .inr ⟨_,_,if_pos hb⟩
   ·exact .inl (if_neg hb)
  ·by_cases hb:b=a
   ·have z':=(if_pos hb).symm.trans z;cases z';subst hb;exact⟨ha,by rw[List.length_map];exact hl,vs,_,rv,ha⟩
   ·have z':=(if_neg hb).symm.trans z;cases z'
  ·by_cases hb:b=a
   ·exact hb
   ·exact absurd (if_neg hb) z
def Qs(s:Stmt):Arguments:=match s with
 | .FunctionDef _ a _ _ _ _ _ _ _ _=>a
 | _=>{ posonlyargs:=[],args:=[],vararg:=none,kwonlyargs:=[],kw_defaults:=[],kwarg:=none,defaults:=[] }
def Qc(s:Stmt):List Stmt:=match s with
 | .FunctionDef _ _ b _ _ _ _ _ _ _=>b
 | _=>[]
def Jl(s:Stmt):Scope:=match s with
 | .FunctionDef _ _ _ _ _ _ sc _ _ _=>sc
 | _=>{ kind:=.function,names:=[],isGenerator:=false,isCoroutine:=false }
abbrev CX0:CXT:=fun _ _ _ _ _ _=>False
abbrev E0:XK:=fun _ _ _=>False
theorem ztM{X:Cx}:zmq CX0 X E0:=fun _ _ _ _ _ _ _ h=>h.elim
structure Fun(K:qF)(x qual:Str)(st:Stmt)(f:Addr)(fd:FuncData):Prop where
 ex:∃(oc:Value) (od:Option Addr) (kV doc pm:Value) (an:Option Addr) (cdv ct:Value) (osl:Array (Option Value)),
  fd=PySem.W.fnOf x qual (Qs st) (Qc st) (Jl st) .none kV doc pm an cdv ct/\K.lookup f=some ⟨oc,od,.func fd,osl⟩/\PySem.W.codeIn K cdv qual=true
 kp:PySem.W.keepIn K (.ref f)=true
section
variable{P:Program}{w:World}{K:qF}{mg:qM}{base:Heap}
theorem Fun.ok{x qual:Str}{st:Stmt}{f:Addr}{fd:FuncData}{N ps:List Str}{k:Nat}{sp:Sp}(F:Fun K x qual st f fd)(S:FnScope N ps (Jl st))(len:∀vs H Q E,sp vs H Q E->vs.length=ps.length)
  (hbody:∀(cdv:Value) (A:Around) (outer:List Env) (s:Shared) (H:Hp) (vs:List V) (Q:VK) (E:XK),Room k (A.deeper (envOfC qual (Jl st) s.heap.objs.size f cdv))->sp vs H Q E ->
   ∃t,PSs (cxOf CX0 P w K mg base N qual (Jl st) f cdv A outer s H E).nox (Qc st) t/\t { nx:=fun _ H'=>Q .non H',rt:=Q } (start N vs) H):FnOk P w K mg base CX0 (k+1) f fd ps sp:=by
 obtain⟨oc,od,kV,doc,pm,an,cdv,ct,osl,rfl,lk,hcd⟩:=F.ex;refine zut lk hcd S len fun A outer s H vs Q E hr hsp=>?_
 obtain⟨t,h,q⟩:=hbody cdv A outer s H vs Q E hr hsp;exact⟨t,h.nox,q⟩
theorem Fun.binds{x qual:Str}{st:Stmt}{f:Addr}{fd:FuncData}{ps:List Str}(F:Fun K x qual st f fd)
  (h:∀(kV doc pm:Value) (an:Option Addr) (cdv ct:Value) (us:List Value),us.length=ps.length->bindArgs (PySem.W.fnOf x qual (Qs st) (Qc st) (Jl st) .none kV doc pm an cdv ct) ⟨us,[]⟩=pure (ps.zip us)):Binds K fd ps []:=by
 obtain⟨oc,od,kV,doc,pm,an,cdv,ct,osl,rfl,lk,hcd⟩:=F.ex;exact .all (h kV doc pm an cdv ct)
theorem zoa{x qual:Str}{st:Stmt}{f:Addr}{oc:Value}{od an:Option Addr}{osl:Array (Option Value)}{kV doc pm cdv ct:Value}(l:K.lookup f=some ⟨oc,od,.func (PySem.W.fnOf x qual (Qs st) (Qc st) (Jl st) .none kV doc pm an cdv ct),osl⟩)
  (c:PySem.W.codeIn K cdv qual=true) (k:PySem.W.keepIn K (.ref f)=true):Fun K x qual st f (PySem.W.fnOf x qual (Qs st) (Qc st) (Jl st) .none kV doc pm an cdv ct):=⟨⟨oc,od,kV,doc,pm,an,cdv,ct,osl,rfl,l,c⟩,k⟩
end
section
variable{X:Cx}
theorem pv(i:Nat){x:Str}{pos:Pos}(hN:X.N[i]?=some x:=by rfl)(hv:Vis X.env.scope x:=by walk_at "V")(hd:(x == ("__debug__":Str))=false:=by decide)
  (hcd:(x == ("__classdict__":Str))=false:=by decide):PE X (.Name x pos) (tVar i):=QU hN hv hd hcd
end
theorem iteF{A B:Prop}(h:B):if false=true then A else B:=by
 rw[if_neg Bool.false_ne_true];exact h
theorem iteT{A B:Prop}(h:A):if true=true then A else B:=by
 rw[if_pos rfl];exact h
def Same(H H':Hp):Prop:=∀b o,H b=some o->H' b=some o
theorem Same.refl(H:Hp):Same H H:=fun _ _ h=>h
def closed(env:Env):List (Str×NameKind)->List (Str×Addr)->List (Str×Addr)
 | [],acc=>acc
 | (n,k)::r,acc=>closed env r (if (k == .free)=true then(n,(env.cells.lookup n).getD 0)::acc else acc)
theorem ze8{env:Env}:∀(l:List (Str×NameKind)) (acc:List (Str×Addr)),(∀x∈l,x.2=.free->∃c,env.cells.lookup x.1=some c) ->
  (forIn l acc fun x __s=>if (x.snd == NameKind.free)=true then do
    let c <- cellOf env x.fst
    pure (ForInStep.yield ((x.fst,c)::__s))
   else pure (ForInStep.yield __s):Sem (List (Str×Addr)))=pure (closed env l acc)
 | [],acc,_=>rfl
 | (n,k)::r,acc,h=>by
  have ih:=fun a=>ze8 (env:=env) r a fun x hx=>h x (List.mem_cons_of_mem _ hx)
  rw[List.forIn_cons]
  by_cases e:(k == NameKind.free)=true
  ·obtain⟨c,hc⟩:=h (n,k) List.mem_cons_self (by simpa using e)
   have hc':List.lookup n env.cells=some c:=hc;have e2:cellOf env n=pure c:=by unfold cellOf;rw[hc']
   simp only[e,if_true,e2,pure_bind];rw[ih]
   conv=>rhs;unfold closed
   simp only[e,if_true,hc',Option.getD_some]
  ·have e0:(k == NameKind.free)=false:=by simpa using e
   simp only[e0,Bool.false_eq_true,if_false,pure_bind];rw[ih]
   conv=>rhs;unfold closed
   simp only[e0,Bool.false_eq_true,if_false]
theorem zbm{scope:Scope}{env:Env}(h:∀x∈scope.names,x.2=.free->∃c,env.cells.lookup x.1=some c):closureFor scope env=pure (closed env scope.names []):=by
 simp only[closureFor];rw[ze8 scope.names [] h]
 rfl
theorem Y7{env:Env}:∀(l:List (Str×NameKind)) (acc:List (Str×Addr)),(∀x∈l,x.2=.free->∃c,env.cells.lookup x.1=some c) ->
  (∀x c,acc.lookup x=some c->env.cells.lookup x=some c)->∀x c,(closed env l acc).lookup x=some c->env.cells.lookup x=some c
 | [],acc,_,ha=>ha
 | (n,k)::r,acc,h,ha=>by
  unfold closed;refine Y7 r _ (fun x hx=>h x (List.mem_cons_of_mem _ hx)) fun x c=>?_
  by_cases e:(k == NameKind.free)=true
  ·obtain⟨d,hd⟩:=h (n,k) List.mem_cons_self (by simpa using e)
   have hd':List.lookup n env.cells=some d:=hd;simp only[e,if_true,hd',Option.getD_some];intro q;rw[List.lookup_cons]at q
   by_cases ex:(x == n)=true
   ·simp only[ex]at q;have ex':x=n:=by simpa using ex
    cases q;rw[ex'];exact hd'
   ·have ex2:(x == n)=false:=by simpa using ex
    simp only[ex2]at q;exact ha x c q
  ·have e0:(k == NameKind.free)=false:=by simpa using e
   simp only[e0,Bool.false_eq_true,if_false];exact ha x c
theorem zf1{env:Env}:∀(l:List (Str×NameKind)) (acc:List (Str×Addr)) (x:Str),(∃c,acc.lookup x=some c)->∃c,(closed env l acc).lookup x=some c
 | [],_,_,h=>h
 | (n,k)::r,acc,x,h=>by
  unfold closed;refine zf1 r _ x ?_
  by_cases e:(k == NameKind.free)=true
  ·simp only[e,if_true];rw[List.lookup_cons];cases(x == n) with
   | true=>exact⟨_,rfl⟩
   | false=>exact h
  ·have e0:(k == NameKind.free)=false:=by simpa using e
   simp only[e0,Bool.false_eq_true,if_false];exact h
theorem zdO{env:Env}:∀(l:List (Str×NameKind)) (acc:List (Str×Addr)) (x:Str),(x,NameKind.free)∈l->∃c,(closed env l acc).lookup x=some c
 | [],_,_,h=>nomatch h
 | (n,k)::r,acc,x,h=>by
  unfold closed;rcases List.mem_cons.mp h with e|h
  ·cases e;refine zf1 r _ _ ?_;have hh:(NameKind.free == NameKind.free)=true:=rfl;simp only[hh,if_true];rw[List.lookup_cons];simp
  ·exact zdO r _ x h
theorem lookup_mem{α:Type}{l:List (Str×α)}{x:Str}{v:α}(h:l.lookup x=some v):(x,v)∈l:=by
 induction l with
 | nil=>simp at h
 | cons p r ih =>
  obtain⟨n,w⟩:=p;rw[List.lookup_cons]at h
  by_cases e:(x == n)=true
  ·simp only[e]at h;cases h;have e':x=n:=by simpa using e
   rw[e'];exact List.mem_cons_self
  ·have e2:(x == n)=false:=by simpa using e
   simp only[e2]at h;exact List.mem_cons_of_mem _ (ih h)
def Ug(env:Env)(p:Str×NameKind):Str×NameKind:=if (p.2 == NameKind.free&&env.scope.kind == .function&&env.kindOf p.1 == some .cell)=true then(p.1,.cell) else p
theorem zkW(env:Env)(p:Str×NameKind):(Ug env p).1=p.1:=by
 unfold Ug
 by_cases c:(p.2 == NameKind.free&&env.scope.kind == .function&&env.kindOf p.1 == some .cell)=true
 ·rw[if_pos c]
 ·rw[if_neg c]
def kin(env:Env)(x:Str):Option NameKind->Option NameKind
 | some .free=>if (env.scope.kind == .function&&env.kindOf x == some .cell)=true then some .cell else some .free
 | o=>o
theorem zkV(env:Env)(x:Str)(k:NameKind):some (Ug env (x,k)).2=kin env x (some k):=by
 unfold Ug
 by_cases c:(k == NameKind.free&&env.scope.kind == .function&&env.kindOf x == some .cell)=true
 ·rw[if_pos c];rw[Bool.and_eq_true,Bool.and_eq_true]at c;have k':k=.free:=by simpa using c.1.1
  subst k';unfold kin;rw[if_pos (by rw[Bool.and_eq_true];exact⟨c.1.2,c.2⟩)]
 ·rw[if_neg c];cases k with
  | free =>
   have:¬(env.scope.kind == .function&&env.kindOf x == some .cell)=true:=fun z=>c (by
    have hh:(NameKind.free == NameKind.free)=true:=rfl;rw[hh,Bool.true_and];exact z)
   unfold kin;rw[if_neg this]
  | _=>rfl
theorem zgd(scope:Scope)(env:Env):(relabel scope env).names=scope.names.map (Ug env):=by
 show scope.names.map _=_
 refine List.map_congr_left fun p _=>?_
 obtain⟨n,k⟩:=p
 rfl
theorem zfC(env:Env):∀(l:List (Str×NameKind)) (x:Str),(l.map (Ug env)).lookup x=kin env x (l.lookup x)
 | [],_=>rfl
 | (n,k)::r,x=>by
  have ih:=zfC env r x;have e0:Ug env (n,k)=(n,(Ug env (n,k)).2):=Prod.ext (zkW env (n,k)) rfl;rw[List.map_cons,e0,List.lookup_cons,List.lookup_cons]
  by_cases e:(x == n)=true
  ·have e':x=n:=by simpa using e
   subst e';simp only[beq_self_eq_true];exact zkV env x k
  ·have e2:(x == n)=false:=by simpa using e
   simp only[e2];exact ih
theorem zdT(scope:Scope)(env:Env)(x:Str):(relabel scope env).names.lookup x=kin env x (scope.names.lookup x):=by
 rw[zgd];exact zfC env _ x
abbrev capN(X:Cx)(capt:List Nat):List Str:=capt.map fun i=>X.N.getD i Str.empty
abbrev capS(capt:List Nat)(σ:St):St:=capt.map fun i=>σ.getD i none
abbrev Jy(own:List Str):St:=own.map fun _=>none
abbrev Jh(X:Cx)(scope:Scope)(own:List Str)(capt:List Nat)(C:Addr)(s₀:Shared)(H₀:Hp)(fp:List Addr):Cx :=
 { X with N:=own++capN X capt,s₀:=s₀,H₀:=H₀,env:=compEnvC scope (closed X.env scope.names []) C X.env,outer:=X.stack,stack:=X.stack,ex:=fp,fn:=fun _=>false,pn:=[],xe:=fun _ _=>False }
structure CompScope(scope:Scope)(own:List Str)(capt:List Nat)(X:Cx):Prop where
 kind:scope.kind=.function
 nocell:∀y∈scope.names,y.2≠.cell
 names:∀y∈scope.names,y.2=.local->scope.names.lookup y.1=some .local
 frees:∀y∈scope.names,y.2=.free->X.env.kindOf y.1=some .cell\/X.env.kindOf y.1=some .free
 caps:∀k∈capt,scope.names.lookup (X.N.getD k Str.empty)=some .free
theorem getD_some{α:Type}{l:List (Option α)}{k:Nat}{v:α}(h:l.getD k none=some v):l[k]?=some (some v):=by
 rw[List.getD_eq_getElem?_getD]at h;cases e:l[k]? with
 | none=>rw[e]at h;cases h
 | some o=>rw[e]at h;simp at h;rw[h]
section
variable{X:Cx}{scope:Scope}{own:List Str}{capt:List Nat}
theorem CompScope.cells(S:CompScope scope own capt X)(ok:X.Ok):∀x∈scope.names,x.2=.free->∃c,X.env.cells.lookup x.1=some c:=fun x hx hf=>ok.has x.1 (S.frees x hx hf)
theorem zpO{pins:qO}{σ:St}{H₀:Hp}{s₀:Shared}{C:Addr}{fp:List Addr}(S:CompScope scope own capt X)(I:Inv X pins σ H₀ s₀)(hf:∀b∈fp,FpOk X pins H₀ b)(hfp:∀b∈fp,b<s₀.heap.objs.size)(hC:s₀.heap.objs.size<=C) :
  (Jh X scope own capt C s₀ H₀ fp).Ok:=by
 have sub:=Y7 scope.names [] (S.cells I.ok) (fun x c h=>nomatch (show(none:Option Addr)=some c from h))
 refine⟨I.ok.mod,S.kind,I.ok.glob,I.ok.blt,hC,fun x y c h1 h2=>I.ok.inj x y c (sub x c h1) (sub y c h2),fun x hk=>?_,fun x c z=>absurd (show false=true from z) Bool.false_ne_true,I.ok.hd,I.ok.frames,.inl rfl,fun b hb=>?_,I.bs,Nat.le_trans I.ok.bsz I.sz,fun b o e hb=>?_,fun b hb z=>?_,I.stack,I.stkFree⟩
 ·have e:=zdT scope X.env x;have hk':(relabel scope X.env).names.lookup x=some .cell\/(relabel scope X.env).names.lookup x=some .free:=hk;rw[e]at hk';cases q:scope.names.lookup x with
  | none=>rw[q]at hk';rcases hk' with z|z <;> cases z
  | some k =>
   rw[q]at hk';cases k with
   | free=>exact zdO scope.names [] x (lookup_mem q)
   | cell=>exact absurd rfl (S.nocell _ (lookup_mem q))
   | _=>rcases hk' with z|z <;> cases z
 ·obtain⟨f0,f1,f2,f3,f4,f5⟩:=hf b hb;exact⟨Nat.ne_of_lt (Nat.lt_of_lt_of_le (hfp b hb) hC),fun x c e=>f4 x c (sub x c e)⟩
 ·obtain⟨f0,f1,f2,f3,f4,f5⟩:=hf b hb;rcases f3 with z|z
  ·exact I.ok.noex b o e z
  ·exact absurd (Nat.lt_of_lt_of_le (Heap.lt_size (I.ok.bs b o e).1) z) (Nat.lt_irrefl _)
 ·obtain⟨f0,f1,f2,f3,f4,f5⟩:=hf b hb;rcases List.mem_cons.mp (I.stkSub b z) with q|q
  ·exact f1 q
  ·exact f2 q
theorem zhF{ho':HO}{pins:qO}{σ:St}{H₀:Hp}{s₀:Shared}{fp:List Addr}{h':Heap}{D C:Addr}{tk:Nat}(S:CompScope scope own capt X)(I:Inv X pins σ H₀ s₀)(hf:∀b∈fp,FpOk X pins H₀ b)(hfp:∀b∈fp,b<s₀.heap.objs.size)
  (hD:s₀.heap.objs.size<=D) (hC:s₀.heap.objs.size<=C) (hDC:D≠C) (old:∀b o,s₀.heap.get? b=some o->h'.get? b=some o) (hns:h'.Ns C (fun _=>none)) (ho:JL X.prog X.w (upd H₀ D ho') h' D ho') :
  Inv (Jh X scope own capt C s₀ H₀ fp) [] (Jy own++capS capt σ) (upd H₀ D ho') { s₀ with heap:=h',toks:=tk }:=by
 have ok:=zpO S I hf hfp hC;have sub:=Y7 scope.names [] (S.cells I.ok) (fun x c h=>nomatch (show(none:Option Addr)=some c from h))
 have hn:H₀ D=none:=I.hok.fresh hD;refine⟨ok,rfl,I.bare,Un.laid old hD hn,⟨_,hns,fun i x v e1 e2 e3=>?_⟩,fun x c e=>?_,?_,fun x c e=>?_,fun p hp=>absurd (show p∈([]:qO) from hp) (by simp),I.hok.laid (o:=ho') old hD ho,(by show(Jy own++capS capt σ).length=(own++capN X capt).length;simp[Jy,capS,capN])⟩
 ·have hlen:(Jy own).length=own.length:=List.length_map ..
  by_cases hi:i<own.length
  ·rw[List.getElem?_append_left (by rw[hlen];exact hi)]at e2
   unfold Jy at e2;rw[List.getElem?_map]at e2;cases q:own[i]? with
   | none=>rw[q]at e2;cases e2
   | some z=>rw[q]at e2;cases e2
  ·have hi':own.length<=i:=Nat.le_of_not_lt hi;have e1':(own++capN X capt)[i]?=some x:=e1;rw[List.getElem?_append_right hi']at e1';rw[List.getElem?_append_right (by rw[hlen];exact hi'),hlen]at e2
   unfold capN at e1';unfold capS at e2;rw[List.getElem?_map]at e1' e2;cases q:capt[i - own.length]? with
   | none=>rw[q]at e1';cases e1'
   | some k =>
    rw[q]at e1' e2;have ex:X.N.getD k Str.empty=x:=Option.some.inj e1';have ev:σ.getD k none=some v:=Option.some.inj e2;have hk:k∈capt:=List.mem_of_getElem? q;have hv:=getD_some ev;have hlt:k<X.N.length:=by
     rw[<- I.len];exact(List.getElem?_eq_some_iff.mp hv).1
    have hx:X.N[k]?=some x:=by
     rw[List.getD_eq_getElem?_getD,List.getElem?_eq_getElem hlt]at ex;rw[List.getElem?_eq_getElem hlt];exact congrArg some ex
    have hfree:=S.caps k hk;rw[ex]at hfree;have hkind:=S.frees _ (lookup_mem hfree) rfl;obtain⟨m,hm,hl⟩:=I.loc;have vis:Vis X.env.scope x:=by
     rcases hkind with z|z
     ·exact .inr (.inl z)
     ·exact .inr (.inr z)
    obtain⟨u,r,l⟩:=hl k x v hx hv vis;refine⟨u,r,.inr ⟨?_,?_⟩⟩
    ·have e:=zdT scope X.env x;rw[hfree]at e;show(relabel scope X.env).names.lookup x=some .cell\/(relabel scope X.env).names.lookup x=some .free
     rw[e];unfold kin
     by_cases c:(X.env.scope.kind == .function&&X.env.kindOf x == some .cell)=true
     ·rw[if_pos c];exact .inl rfl
     ·rw[if_neg c];exact .inr rfl
    ·rcases l with⟨z,_⟩|⟨_,c,hc,hcell⟩
     ·rcases hkind with y|y <;> (have y':X.env.kindOf x=_:=y;rw[z]at y';cases y')
     ·obtain⟨d,hd⟩:=zdO (env:=X.env) scope.names [] x (lookup_mem hfree);have:=sub x d hd;rw[hc]at this;cases this;obtain⟨o,ho,hod⟩:=hcell;exact⟨c,hd,o,old _ _ ho,hod⟩
 ·obtain⟨v,o,ho,hd⟩:=I.cell x c (sub x c e);exact⟨v,o,old _ _ ho,hd⟩
 ·show upd H₀ D ho' C=none
  rw[Jv (Ne.symm hDC)];exact I.hok.fresh hC
 ·obtain⟨v,o,ho,hd⟩:=I.cell x c (sub x c e);show upd H₀ D ho' c=none
  rw[Jv (Nat.ne_of_lt (Nat.lt_of_lt_of_le (Heap.lt_size ho) hD))];exact I.freeC x c (sub x c e)
theorem zjE{pins:qO}{σ:St}{H₀:Hp}{s₀:Shared}{fp:List Addr}{h':Heap}{D C:Addr}{tk:Nat}(S:CompScope scope own capt X)(I:Inv X pins σ H₀ s₀)(hf:∀b∈fp,FpOk X pins H₀ b)(hfp:∀b∈fp,b<s₀.heap.objs.size)
  (hD:s₀.heap.objs.size<=D) (hC:s₀.heap.objs.size<=C) (hDC:D≠C) (old:∀b o,s₀.heap.get? b=some o->h'.get? b=some o) (hns:h'.Ns C (fun _=>none)) (hacc:h'.get? D=some { cls:=.type "list",data:=.seq ([]:List Value).toArray 0 }) :
  Inv (Jh X scope own capt C s₀ H₀ fp) [] (Jy own++capS capt σ) (upd H₀ D (.lst [])) { s₀ with heap:=h',toks:=tk }:=zhF S I hf hfp hD hC hDC old hns ⟨Nat.zero_le _,[],0,.nil,hacc⟩
theorem zgH{pins pins':qO}{σ σ':St}{H₀ H':Hp}{s₀ s':Shared}{fp:List Addr}{h'':Heap}{C:Addr}(I:Inv X pins σ H₀ s₀)(hf:∀b∈fp,FpOk X pins H₀ b)(hC:s₀.heap.objs.size<=C)
  (J:Inv (Jh X scope own capt C s₀ H₀ fp) pins' σ' H' s') (sb:Heap.SameBut C s'.heap h''):Inv X pins σ H' { s' with heap:=h'' }:=by
 have hCn:H' C=none:=J.free;have neC:∀b o,s₀.heap.get? b=some o->b≠C:=fun b o e=>Nat.ne_of_lt (Nat.lt_of_lt_of_le (Heap.lt_size e) hC)
 have u:Un (frs X.stack) fp H₀ H' s₀.heap s'.heap:=J.base;have u2:Un (frs X.stack) fp H₀ H' s₀.heap h'':=by
  refine⟨fun b o q n h1 h2=>(sb.2 b (neC b o q)).trans (u.keep b o q n h1 h2),fun b o q n h1 h2=>?_,u.free,fun b o q h2=>?_,u.tups,u.frzs,u.tbls⟩
  ·obtain⟨sl,e⟩:=u.slot b o q n h1 h2;exact⟨sl,(sb.2 b (neC b o q)).trans e⟩
  ·obtain⟨o',e⟩:=u.there b o q h2;exact⟨o',(sb.2 b (neC b o q)).trans e⟩
 have hok:HOk X.prog X.w H' h'':=fun b ob e=>by
  refine(J.hok b ob e).stay (fun c v hc q=>(sb.2 c ?_).trans q) (fun _ q=>q) fun _ _ q=>q
  rintro rfl;rcases hc with z|z
  ·subst z;rw[hCn]at e;cases e
  ·rw[hCn]at z;cases z
 refine I.call' (s':={ s' with heap:=h'' }) J.os u2 hok J.bare fun b hb=>?_
 obtain⟨f0,f1,f2,f3,f4,f5⟩:=hf b hb;exact⟨f3,f1,f4,f5⟩
end
def PTs(Y:Cx)(ifs:List Expr)(t:TT):Prop :=
 ∀(pins:qO) (s:Shared) (σ:St) (H:Hp) (Q:Bool->Hp->Prop),Inv Y pins σ H s->t σ H Q ->
  wpAny (model Y.prog Y.w) Y.A (forIn ifs true fun c r=>if r=true then do let ok <- isTrue c Y.env (eval c Y.env);pure (ForInStep.yield ok) else pure (ForInStep.yield r)) (TP Y pins σ Q) Y.xe s
def tYes:TT:=fun _ H Q=>Q true H
theorem zoF{Y:Cx}:PTs Y [] tYes:=fun _ _ _ H _ I h=>wpAny_tests_nil ⟨H,I,h⟩
theorem zoE{Y:Cx}{c:Expr}{t:TT}(h:PT Y c t):PTs Y [c] t:=fun pins s σ H Q I q=>wpAny_tests_one (h pins s σ H Q I q)
abbrev NoX:Value->Shared->Prop:=fun _ _=>False
theorem zkf{prog:Program}{w:World}{A:Around}{R:Result->Shared->Prop}{s:Shared}{elt target iter:Expr}{ifs:List Expr}{scope:Scope}{pos:Pos}{it acc:Value}{env:Env}(I:Nat->Shared->Prop)
  (turn:∀n s,I n s->wpAny (model prog w) A (pyNext it) (fun r s₁=>match r with
   | none=>R (.ok .next) s₁
   | some v=>wpAny (model prog w) A (letOwnedTupleGo target it v) (fun _ s₂=>wpAny (model prog w) A (assign target env v) (fun _ s₃ =>
     wpAny (model prog w) A (forIn ifs true fun c r=>if r=true then do let ok <- isTrue c env (eval c env);pure (ForInStep.yield ok) else pure (ForInStep.yield r)) (fun ok s₄ =>
      if ok=true then wpAny (model prog w) A (eval elt env) (fun x s₅=>wpAny (model prog w) A (call (.builtin "list.append") [acc,x]) (fun _ s₆=>∃m,m<n/\I m s₆) NoX s₅) NoX s₄
      else ∃m,m<n/\I m s₄) NoX s₃) NoX s₂) NoX s₁) NoX s) (n:Nat) (h:I n s) :
  codeAny (model prog w) A (.compLoop (.ListComp elt [⟨target,iter,ifs,0⟩] scope pos) 0 it acc env) R s:=by
 refine codeAny_loop rfl I (fun n s hI=>?_) n h
 show wpAny _ A ((compTurn (.ListComp elt [⟨target,iter,ifs,0⟩] scope pos) 0 it acc env).onRaise (fun x=>do noteFrame x env;theTreesLotGoes x)) _ _ s
 refine wpAny_noted (wpAny_mono (E:=NoX) ?_ (fun _ _ q=>q) fun _ _ z=>False.elim z)
 rw[compTurn_list];refine wpAny_bind (wpAny_standAt (wpAny_bind (thn (turn n s hI) fun r s₁ h₁=>?_)))
 cases r with
 | none=>exact wpAny_pure h₁
 | some v =>
  refine wpAny_bind (thn h₁ fun _ s₂ h₂=>wpAny_bind (thn h₂ fun _ s₃ h₃=>wpAny_bind (thn h₃ fun ok s₄ h₄=>?_)))
  cases ok with
  | false=>exact wpAny_pure ⟨rfl,h₄⟩
  | true =>
   refine wpAny_bind (wpAny_bind (thn h₄ fun x s₅ h₅=>wpAny_bind (thn h₅ fun _ s₆ h₆=>?_)))
   exact wpAny_pure (wpAny_pure ⟨rfl,h₆⟩)
def Wk:St->St->Prop
 | [],[]=>True
 | none::r,_::r'=>Wk r r'
 | some v::r,o::r'=>o=some v/\Wk r r'
 | _,_=>False
theorem Wk.weak:∀{σ σ':St},Wk σ σ'->σ.length=σ'.length/\∀(i:Nat) v,σ[i]?=some (some v)->σ'[i]?=some (some v)
 | [],[],_=>⟨rfl,fun _ _ h=>by simp at h⟩
 | none::r,o::r',h=>by
  obtain⟨a,b⟩:=Wk.weak (σ:=r) (σ':=r') h;refine⟨by simp[a],fun i v e=>?_⟩
  cases i with
  | zero=>simp at e
  | succ i=>simpa using b i v (by simpa using e)
 | some w::r,o::r',h=>by
  obtain⟨h0,h1⟩:o=some w/\Wk r r':=h;obtain⟨a,b⟩:=Wk.weak h1;refine⟨by simp[a],fun i v e=>?_⟩
  cases i with
  | zero=>rw[h0];simpa using e
  | succ i=>simpa using b i v (by simpa using e)
 | none::_,[],h=>False.elim h
 | some _::_,[],h=>False.elim h
 | [],_::_,h=>False.elim h
def zpW(own:List Str)(capt:List Nat)(g:TG)(tt:TT)(te:TE)(σ:St)(J:It)(H1:Hp)(D:Addr)(Q:VK):Prop:=∃W:Nat->Nat->Hp->Prop,(∃m,W 0 m (upd H1 D (.lst [])))/\∀i m H2,W i m H2 ->
 (J.stop i H2/\Q (.ref D) H2)\/(J.go i H2/\∃(N:V->Hp->Prop) (N':Hp->Prop),(∀v H6,N v H6->∃ys,H6 D=some (.lst ys)/\ys.length<sizeLine/\∃m',m'<m/\W (i+1) m' (upd H6 D (.lst (ys++[v]))))/\(∀H5,N' H5->∃m',m'<m/\W (i+1) m' H5) /\
  ∀x H3,J.yld i H2 x H3->g x (Jy own++capS capt σ) H3 fun σ4 H4=>Wk (Jy own++capS capt σ) σ4/\tt σ4 H4 fun b H5=>if b=true then te σ4 H5 N else N' H5)
def tComp(own:List Str)(capt:List Nat)(wi:TI)(g:TG)(tt:TT)(te:TE):TE:=fun σ H Q=>wi σ H fun J H1=>∀D,H1 D=none->zpW own capt g tt te σ J H1 D Q
section
variable{X:Cx}{scope:Scope}{own:List Str}{capt:List Nat}{elt tg iter:Expr}{ifs:List Expr}{pos:Pos}{wi:TI}{g:TG}{tt:TT}{te:TE}
theorem znJ(hc:X.calm=true)(S:CompScope scope own capt X)
  (hg:∀C s₀ H₀ fp,PG (Jh X scope own capt C s₀ H₀ fp) tg g) (ht:∀C s₀ H₀ fp,PTs (Jh X scope own capt C s₀ H₀ fp) ifs tt) (he:∀C s₀ H₀ fp,PE (Jh X scope own capt C s₀ H₀ fp) elt te)
  {pins:qO} {σ:St} {Q:VK} {itv:Value} {s2:Shared} {E:qV} {RR:Value->Addr->Result->Shared->Prop}
  (h2:PIE X pins σ tg (fun J H1=>∀D,H1 D=none->zpW own capt g tt te σ J H1 D Q) itv s2)
  (hR:∀D C s' H',(∃m,s'.heap.Ns C m)->(∀h'',Heap.SameBut C s'.heap h''->Inv X pins σ H' { s' with heap:=h'' })->H' C=none->FpOk X pins H' C->Q (.ref D) H'->RR (.ref D) C (.ok .next) s') :
  wpAny (model X.prog X.w) X.A (newList []) (fun acc s₃=>wpAny (model X.prog X.w) X.A (newFunctionEnv scope X.env.globals (closed X.env scope.names []) [] X.env.qual none .none (some X.env)) (fun cenv s₄ =>
   codeAny (model X.prog X.w) X.A (.compStart (.ListComp elt [⟨tg,iter,ifs,0⟩] scope pos) 0 itv acc { cenv with scope:=relabel scope X.env }) (RR acc cenv.locals) s₄) E s₃) E s2:=by
 obtain⟨it,fp,tn,J,H2,e,I2,T,st2,f2,rd⟩:=h2;subst e;have hfp:∀b∈fp,b<s2.heap.objs.size:=fun b hb=>by
  obtain⟨o,e,_⟩:=T.obj 0 _ st2 b hb;exact Heap.lt_size e
 refine wpAny_newObj_type (wpAny_newFunctionEnv S.nocell (by intro y hy;simp at hy) (fun h₁ hns₁ hsb₁=>?_) S.kind)
 dsimp only at hns₁ hsb₁ ⊢;generalize hH3:s2.heap.push { cls:=.type "list",dict:=none,data:=.seq ([]:List Value).toArray }=H3 at hns₁ hsb₁ ⊢;have hC:H3.objs.size=s2.heap.objs.size+1:=by rw[<- hH3,Heap.size_push]
 have hDC:s2.heap.objs.size≠H3.objs.size:=by rw[hC];exact Nat.ne_of_lt (Nat.lt_succ_self _)
 have hCle:s2.heap.objs.size<=H3.objs.size:=by rw[hC];exact Nat.le_succ _
 have neC:∀b o,s2.heap.get? b=some o->b≠H3.objs.size:=fun b o e=>Nat.ne_of_lt (Nat.lt_of_lt_of_le (Heap.lt_size e) hCle)
 have old:∀b o,s2.heap.get? b=some o->h₁.get? b=some o:=fun b o e=>hsb₁.extBut b o (neC b o e) (Heap.get?_push_of_some _ (hH3▸Heap.get?_push_of_some _ e))
 have hacc:h₁.get? s2.heap.objs.size=some { cls:=.type "list",data:=.seq ([]:List Value).toArray 0 }:=hsb₁.extBut _ _ hDC (Heap.get?_push_of_some _ (hH3▸Heap.get?_push_size _ rfl));have hnD:H2 s2.heap.objs.size=none:=I2.hok.fresh (Nat.le_refl _);obtain⟨W,⟨m0,w0⟩,turn⟩:=rd _ hnD;have hLC:H3.objs.size≠X.env.locals:=fun z=>by
  have h:=I2.lt;rw[<- z]at h;exact absurd h (Nat.not_lt.mpr hCle)
 have J0:∀tk,Inv (Jh X scope own capt H3.objs.size s2 H2 fp) [] (Jy own++capS capt σ) (upd H2 s2.heap.objs.size (.lst [])) { s2 with heap:=h₁,toks:=tk }:=fun tk =>
  zjE (tk:=tk) S I2 f2 hfp (Nat.le_refl _) hCle hDC old hns₁ hacc
 have fr0:∀b∈fp,upd H2 s2.heap.objs.size (.lst []) b=none:=fun b hb=>by
  rw[Jv (Nat.ne_of_lt (hfp b hb))];exact(f2 b hb).1
 have stat:∀{H':Hp},(∀b∈fp,H' b=none)->∀b∈fp,FpOk (Jh X scope own capt H3.objs.size s2 H2 fp) [] H' b:=fun hn b hb=>by
  obtain⟨g0,g1,g2,g3,g4,g5⟩:=f2 b hb;have sub:=Y7 scope.names [] (S.cells I2.ok) (fun x c h=>nomatch (show(none:Option Addr)=some c from h))
  refine⟨hn b hb,Nat.ne_of_lt (Nat.lt_of_lt_of_le (hfp b hb) hCle),fun z=>?_,.inl hb,fun x c e=>g4 x c (sub x c e),fun p hp=>absurd (show p∈([]:qO) from hp) (by simp)⟩
  rcases List.mem_cons.mp (I2.stkSub b z) with q|q
  ·exact g1 q
  ·exact g2 q
 have loop:∀s₃:Shared,(∃tk,s₃={ s2 with heap:=h₁,toks:=tk }) ->
   codeAny (model X.prog X.w) X.A (.compLoop (.ListComp elt [⟨tg,iter,ifs,0⟩] scope pos) 0 (.ref it) (.ref s2.heap.objs.size) (compEnvC scope (closed X.env scope.names []) H3.objs.size X.env)) (RR (.ref s2.heap.objs.size) H3.objs.size) s₃:=by
  rintro s₃ ⟨tk,rfl⟩;refine zkf (fun n s'=>∃i H',Inv (Jh X scope own capt H3.objs.size s2 H2 fp) [] (Jy own++capS capt σ) H' s'/\tn i s'.heap/\(∀b∈fp,H' b=none)/\W i n H') ?_ m0
   ⟨0,_,J0 tk,T.keep _ _ _ st2 fun b hb o e=>old b o e,fr0,w0⟩
  rintro n s4 ⟨i,H4,I4,st4,fr4,w4⟩;rcases turn i n H4 w4 with⟨stop,qn⟩|⟨go,N,N',hN,hN',step⟩
  ·refine thn (T.done (Jh X scope own capt H3.objs.size s2 H2 fp) rfl rfl rfl hc i [] s4 _ H4 NoX I4 (stat fr4) st4 stop) fun r s5 ⟨hr,I5⟩=>?_
   subst hr;obtain⟨m,hn,_⟩:=I5.loc;exact hR _ _ s5 H4 ⟨m,hn⟩ (fun h'' sb=>zgH I2 f2 hCle I5 sb) I5.free (I2.fpOk hCle I5.free) qn
  ·refine thn (T.item (Jh X scope own capt H3.objs.size s2 H2 fp) rfl rfl rfl hc i [] s4 _ H4 NoX I4 (stat fr4) st4 go) fun r s5 ⟨u,hr,h5⟩=>?_
   subst hr;refine thn h5 fun _ s6 ⟨x,H6,I6,r6,y6,st6,fr6⟩=>?_
   have I6':=I6.pinned (stat fr6) (T.obj _ _ st6);refine thn (hg _ _ _ _ _ s6 _ H6 x u _ I6' r6 (step x H6 y6)) fun _ s7 ⟨σ7,H7,I7,wk,q7⟩=>?_
   obtain⟨wl,wv⟩:=wk.weak;have again:∀{s8:Shared} {H8:Hp} {m':Nat},Inv (Jh X scope own capt H3.objs.size s2 H2 fp) ([]++Ut fp s6.heap) σ7 H8 s8->m'<n->W (i+1) m' H8 ->
     ∃m,m<n/\∃i H',Inv (Jh X scope own capt H3.objs.size s2 H2 fp) [] (Jy own++capS capt σ) H' s8/\tn i s8.heap/\(∀b∈fp,H' b=none)/\W i m H':=fun {s8 H8 m'} I8 hm w8=>by
    refine⟨m',hm,i+1,H8,(I8.unpinned).weak wl wv,T.keep _ _ _ st6 fun b hb o e=>(I8.pin (b,o) (List.mem_append_right _ (List.mem_append_right _ (Q1 hb e)))).1,fun b hb=>?_,w8⟩
    obtain⟨o,e,d⟩:=T.obj _ _ st6 b hb;exact(I8.pin (b,o) (List.mem_append_right _ (List.mem_append_right _ (Q1 hb e)))).2.1
   refine thn (ht _ _ _ _ _ s7 σ7 H7 _ I7 q7) fun ok s8 ⟨H8,I8,q8⟩=>?_
   cases ok with
   | false =>
    obtain⟨m',hm,w8⟩:=hN' H8 (by simpa using q8)
    exact again I8 hm w8
   | true =>
    refine thn (he _ _ _ _ _ s8 σ7 H8 N I8 (by simpa using q8)) fun y s9 ⟨v,H9,I9,r9,q9⟩=>?_
    obtain⟨ys,hD,hl,m',hm,w9⟩:=hN v H9 q9;refine thn (zeF (X:=Jh X scope own capt H3.objs.size s2 H2 fp) _ s9 σ7 H9 (.ref s2.heap.objs.size) [v] _ [y] (fun _ H'=>H'=upd H9 s2.heap.objs.size (.lst (ys++[v]))) I9 rfl (.cons r9 .nil) ⟨_,ys,v,rfl,rfl,hD,hl,rfl⟩) fun _ s10 ⟨_,H10,I10,_,q10⟩=>?_
    subst q10;exact again I10 hm w9
 exact codeAny_compStart_list (loop _ ⟨_,rfl⟩) (T.self X.A 0 _ _ _ (T.keep _ _ _ st2 fun b hb o e=>old b o e) (loop _ ⟨_,rfl⟩))
theorem zm1(hc:X.calm=true)(S:CompScope scope own capt X)(hi:PI X tg iter wi)
  (hg:∀C s₀ H₀ fp,PG (Jh X scope own capt C s₀ H₀ fp) tg g) (ht:∀C s₀ H₀ fp,PTs (Jh X scope own capt C s₀ H₀ fp) ifs tt) (he:∀C s₀ H₀ fp,PE (Jh X scope own capt C s₀ H₀ fp) elt te)
  (hs:∀x,foldedSetIterable iter X.env x=pure x:=by intro _;rfl):PE X (.ListComp elt [⟨tg,iter,ifs,0⟩] scope pos) (tComp own capt wi g tt te):=by
 intro pins s σ H Q I h;rw[eval_ListComp];refine wpAny_comprehension_free (use:=none) rfl hs (zbm (S.cells I.ok)) S.kind S.names (thn (hi pins s σ H _ I h) fun v s1 h1=>thn h1 fun itv s2 h2=>?_)
 refine znJ (RR:=fun acc C=>compPost (model X.prog X.w) X.A X.xe none (EP X pins σ Q) acc C) hc S hg ht he h2 fun D C s' H' hn J _ _ q=>?_
 obtain⟨m,hn⟩:=hn;exact⟨m,hn,fun h'' sb=>⟨.ref D,H',J h'' sb,rfl,q⟩⟩
end
theorem zmc{J:It}{n:Nat}{own:List Str}{capt:List Nat}{g:TG}{tt:TT}{te:TE}{σ:St}{H1:Hp}{D:Addr}{Q:VK}(Pv:Nat->List V->Hp->Prop)(h0:Pv 0 [] (upd H1 D (.lst [])))
  (turn:∀i ys H2,i<n->H2 D=some (.lst ys)->Pv i ys H2->J.go i H2/\∀x H3,J.yld i H2 x H3->g x (Jy own++capS capt σ) H3 fun σ4 H4=>Wk (Jy own++capS capt σ) σ4/\tt σ4 H4 fun b H5 =>
   if b=true then te σ4 H5 (fun v H6=>∃zs,H6 D=some (.lst zs)/\zs.length<sizeLine/\Pv (i+1) (zs++[v]) (upd H6 D (.lst (zs++[v])))) else ∃zs,H5 D=some (.lst zs)/\Pv (i+1) zs H5)
  (stop:∀ys H2,H2 D=some (.lst ys)->Pv n ys H2->J.stop n H2/\Q (.ref D) H2) :
  zpW own capt g tt te σ J H1 D Q:=by
 refine⟨fun i m H=>m=n - i/\i<=n/\∃ys,H D=some (.lst ys)/\Pv i ys H,⟨n,rfl,Nat.zero_le _,[],JQ,h0⟩,?_⟩
 rintro i m H2 ⟨rfl,hi,ys,hD,p⟩
 by_cases hlt:i<n
 ·obtain⟨go,st⟩:=turn i ys H2 hlt hD p;refine .inr ⟨go,_,_,?_,?_,st⟩
  ·rintro v H6 ⟨zs,e,l,q⟩;exact⟨zs,e,l,n - (i+1),by omega,rfl,hlt,_,JQ,q⟩
  ·rintro H5 ⟨zs,e,q⟩;exact⟨n - (i+1),by omega,rfl,hlt,zs,e,q⟩
 ·have e:i=n:=by omega
  subst e;exact .inl (stop ys H2 hD p)
def zhH(scope outer:Scope)(N:List Str)(capt:List Nat):Bool :=
 scope.kind == .function&&scope.names.all (fun y=>!(y.2 == .cell))&&scope.names.all (fun y=>!(y.2 == .local)||scope.names.lookup y.1 == some .local) &&
 scope.names.all (fun y=>!(y.2 == .free)||(outer.names.lookup y.1 == some .cell||outer.names.lookup y.1 == some .free))&&capt.all (fun k=>scope.names.lookup (N.getD k Str.empty) == some .free)
theorem CompScope.of{X:Cx}{scope:Scope}{own:List Str}{capt:List Nat}(h:zhH scope X.env.scope X.N capt=true):CompScope scope own capt X:=by
 unfold zhH at h;simp only[Bool.and_eq_true]at h;obtain⟨⟨⟨⟨h1,h2⟩,h3⟩,h4⟩,h5⟩:=h;rw[List.all_eq_true]at h2 h3 h4 h5;refine⟨by simpa using h1,fun y hy=>?_,fun y hy hl=>?_,fun y hy hf=>?_,fun k hk=>?_⟩
 ·simpa using h2 y hy
 ·have:=h3 y hy;rw[hl]at this;simpa using this
 ·have:=h4 y hy;rw[hf]at this;show X.env.scope.names.lookup y.1=some .cell\/X.env.scope.names.lookup y.1=some .free
  simpa using this
 ·simpa using h5 k hk
section
variable{X:Cx}
theorem zq8:OpR X (compareOp .Is) (fun x y H Q=>∃a b,x=.bl a/\y=.bl b/\Q (.bl (a == b)) H):=by
 intro pins s σ H x y v u Q I rx ry h;obtain⟨a,b,rfl,rfl,q⟩:=h;cases rx;cases ry;exact is_bool ⟨.bl (a == b),H,I,rfl,q⟩
theorem zll:OpR X (compareOp .IsNot) (fun x y H Q=>∃a b,x=.bl a/\y=.bl b/\Q (.bl (a != b)) H):=by
 intro pins s σ H x y v u Q I rx ry h;obtain⟨a,b,rfl,rfl,q⟩:=h;cases rx;cases ry;exact isnot_bool ⟨.bl (a != b),H,I,rfl,q⟩
def kitB(t T:String):Option Bool:=if (Value.type t == Value.type T)=true then some true else if PySem.W.kitMeta T=true then(fastBuiltinMro t).map (·.contains (.type T)) else none
theorem YO(K:qF)(t T:String):PySem.W.kitOne K (.type t) (.type T)=kitB t T:=rfl
inductive Ty (H:Hp):V->String->Prop where
 | non:Ty H .non "NoneType"
 | bl (x:Bool):Ty H (.bl x) "bool"
 | int (i:Int):Ty H (.int i) "int"
 | str (x:Str):Ty H (.str x) "str"
 | lst {a:Addr} {xs:List V} (e:H a=some (.lst xs)):Ty H (.ref a) "list"
 | tup {a:Addr} {xs:List V} (e:H a=some (.tup xs)):Ty H (.ref a) "tuple"
 | dK {a:Addr} {kvs:List (Key×V)} (e:H a=some (.dK kvs)):Ty H (.ref a) "dict"
theorem Ty.of{K:qF}{H:Hp}{v:V}{t:String}(h:Ty H v t):TyOf K H v (.type t):=by
 cases h with
 | non=>exact .non
 | bl x=>exact .bl x
 | int i=>exact .int i
 | str x=>exact .str x
 | lst e=>exact .lst e
 | tup e=>exact .tup e
 | dK e=>exact .dK e
theorem znN:bootBuiltins "isinstance" = some (.builtin "isinstance"):=by decide +kernel
theorem boot_int:bootBuiltins "int" = some (.type "int"):=by decide +kernel
theorem zdQ:bootBuiltins "bool" = some (.type "bool"):=by decide +kernel
theorem QM:bootBuiltins "tuple" = some (.type "tuple"):=by decide +kernel
theorem Ys:bootBuiltins "all" = some (.builtin "all"):=by decide +kernel
theorem Uy:bootBuiltins "min" = some (.builtin "min"):=by decide +kernel
theorem Ux:bootBuiltins "max" = some (.builtin "max"):=by decide +kernel
theorem J6:bootBuiltins "len" = some (.builtin "len"):=by decide +kernel
theorem zml:bootBuiltins "sum" = some (.builtin "sum"):=by decide +kernel
theorem zhS:∀{bs:List Bool}{us:List Value},Vals (bs.map V.bl) us->LSm.BoolsAre us bs
 | [],_,h=>by cases h;exact .nil
 | b::bs,_,h=>by
  cases h with
  | cons r t =>
   cases(show _=Value.bool b from r)
   exact .cons b (zhS t)
theorem Yt(hc:X.calm=true):JU X (.builtin "all") (fun xs H Q=>∃(a:Addr) (bs:List Bool),xs=[.ref a]/\SqL X.K H a (bs.map V.bl)/\Q (.bl (bs.all id)) H):=by
 intro pins s σ H xs us Q I r h;obtain⟨a,bs,rfl,hq,q⟩:=h;cases r with
 | cons r1 r2 =>
  cases r2;cases(show _=Value.ref a from r1)
  obtain⟨its,rv,p,hz⟩:=I.list hq;have hb:=zhS rv;have hl:s.heap.IsList a its.toArray:=p.isList;have hlt:a<s.heap.objs.size:=by obtain⟨_,e,_⟩:=hl;exact Heap.lt_size e
  refine call_all_walk (wpAny_pyIter_list hl ?_);refine⟨s.heap.objs.size,[s.heap.objs.size,a],[s.heap.objs.size],its.toArray.size,_,_,fun i=>(bs[i]?).getD true,rfl,Walks.list (A:=X.A.in1) (I.ok.hd hc) _ a (Nat.ne_of_lt hlt) its.toArray,
   ⟨⟨_,Heap.get?_push_size _ rfl,rfl,rfl⟩,hl.push _⟩,fun i v s' Q' E' hP hQ=>?_,fun h' tk hk=>?_⟩
  ·obtain⟨b,e,rfl⟩:=hb.get i v (by simpa using hP)
   simp only[e,Option.getD_some]at hQ;exact wpAny_truthy_bool hQ
  ·have e:((List.range its.toArray.size).all fun i=>(bs[i]?).getD true)=bs.all id:=by
    rw[List.size_toArray,hb.length];exact LSm.range_all bs
   rw[e];exact⟨.bl _,H,I.kept (LSm.kept_iter hk),rfl,q⟩
mutual
inductive Shows (H:Hp):V->PyData->Prop
 | non:Shows H .non .none
 | bl (b:Bool):Shows H (.bl b) (.bool b)
 | int (i:Int):Shows H (.int i) (.int i)
 | str (x:Str):Shows H (.str x) (.str x)
 | lst {a:Addr} {xs:List V} {ds:qD}:H a=some (.lst xs)->ShowsAll H xs ds->Shows H (.ref a) (.list ds)
 | tup {a:Addr} {xs:List V} {ds:qD}:H a=some (.tup xs)->ShowsAll H xs ds->Shows H (.ref a) (.tuple ds)
inductive ShowsAll (H:Hp):List V->List PyData->Prop
 | nil:ShowsAll H [] []
 | cons {v:V} {vs:List V} {d:PyData} {ds:qD}:Shows H v d->ShowsAll H vs ds->ShowsAll H (v::vs) (d::ds)
end
def Za(i j:Int):Prop:=0<j/\j<2 ^ 128
theorem Vg:OpR X (binaryOp .FloorDiv) (rI Za fun i j=>.int (i / j)):=opI fun i j _ _ _ _ _ hc q=>by
 have h1:(0:Int)<j:=hc.1;have h2:j<2 ^ 128:=hc.2;refine floordiv_int (by omega) (by rw[Int.fdiv_eq_ediv_of_nonneg i (by omega)];exact q) (.inl (PyProof.noPylong_of_log2 ?_))
 have h3:j.natAbs<2 ^ 128:=by omega
 have h4:j.natAbs.log2<128:=(Nat.log2_lt (by omega)).mpr h3
 omega
end
def Pl(X:Cx)(es:List Expr):Prop:=∀pos,(backTo pos (starEach es X.env)).any (·.1)=false
def Hd(X:Cx):List Expr->Prop
 | []=>True
 | e::r=>starEach (e::r) X.env=(false,eval e X.env)::starEach r X.env/\Pl X r
structure PB(X:Cx)(es:List Expr)(t:TA):Prop where
 pa:PA X es t
 pl:Pl X es
 hd:Hd X es
section
variable{X:Cx}{es:List Expr}{t:TA}{te:TE}
theorem Us:PB X [] tNil:=⟨Ur,fun _=>rfl,trivial⟩
theorem QZ{e:Expr}(h:PE X e te)(hr:PB X es t)(hs:starEach (e::es) X.env=(false,eval e X.env)::starEach es X.env):PB X (e::es) (Qx te t) :=
 ⟨Q7 h hr.pa hs,fun pos=>by
  rw[hs];have:(backTo pos ((false,eval e X.env)::starEach es X.env)).any (·.1)=(false||(backTo pos (starEach es X.env)).any (·.1)):=rfl
  rw[this,hr.pl pos];rfl,hs,hr.pl⟩
theorem pb_i{i:Int}{j pos}(hr:PB X es t):PB X (.Constant (.int i) j pos::es) (Qx (tC (.int i)) t):=QZ JI hr rfl
theorem pb_v(i:Nat){x:Str}{pos:Pos}(hr:PB X es t)(hN:X.N[i]?=some x:=by rfl)(hv:Vis X.env.scope x:=by walk_at "V")(hd:(x == ("__debug__":Str))=false:=by decide)
  (hcd:(x == ("__classdict__":Str))=false:=by decide):PB X (.Name x pos::es) (Qx (tVar i) t):=QZ (QU hN hv hd hcd) hr rfl
theorem zoS{x:Str}{pos:Pos}(h:PE X (.Name x pos) te)(hr:PB X es t):PB X (.Name x pos::es) (Qx te t):=QZ h hr rfl
theorem zn0{a b c d}(h:PE X (.BinOp a b c d) te)(hr:PB X es t):PB X (.BinOp a b c d::es) (Qx te t):=QZ h hr rfl
theorem zqV{a b c d}(h:PE X (.Compare a b c d) te)(hr:PB X es t):PB X (.Compare a b c d::es) (Qx te t):=QZ h hr rfl
variable{e:Expr}{x:Str}{p pos:Pos}
theorem zoP{x1}(h:PB X es t):PE X (.Tuple es x1 pos) (tTup t):=zqL h.pa
theorem zk_(h:PB X es t):PE X (.List es pos) (tLst t):=zqP h.pa
theorem Z2{id:String}{r:List V->Hp->VK->Prop}(hc:JU X (.builtin id) r)(hm:X.mg x=none)(hv:bootBuiltins x=some (.builtin id))(h:PB X (e::es) t)(hg:Gl X x:=by rfl)(hn:x ≠ "__name__":=by decide) (hdb:(x == ("__debug__":Str))=false:=by decide) :
  PE X (.Call (.Name x p) (e::es) [] pos) (tCB r t):=zm5 hc hg hm hv h.pa hn hdb h.hd.1 (h.hd.2 pos)
theorem zqR{T:String}{r:List V->Hp->VK->Prop}(hc:JU X (.type T) r)(hm:X.mg x=none)(hv:bootBuiltins x=some (.type T))(h:PB X (e::es) t)(hg:Gl X x:=by rfl)(hn:x ≠ "__name__":=by decide) (hdb:(x == ("__debug__":Str))=false:=by decide) :
  PE X (.Call (.Name x p) (e::es) [] pos) (tCB r t):=zg7 hc hg hm hv h.pa hn hdb h.hd.1 (h.hd.2 pos)
end
end L2
namespace Bd
open PySem L2
structure Def(K:qF)(mg:qM)(x:Str)(st:Stmt)(ps:List Str)(f:Addr)(fd:FuncData):Prop where
 F:Fun K x x st f fd
 b:Binds K fd ps []
 m:mg x=some (.ref f)
section
variable{X:Cx}{k:Nat}{f:Addr}{fd:FuncData}{ps:List Str}{sp:Sp}{x:Str}{p pos:Pos}{e:Expr}{es:List Expr}{t:TA}{st:Stmt}
theorem zm2(D:Def X.K X.mg x st ps f fd)(G:FnOk X.prog X.w X.K X.mg X.base CX0 k f fd ps sp)(hr:Room k X.A)(h:PB X (e::es) t)(hg:Gl X x:=by rfl)
  (hdb:(x == ("__debug__":Str))=false:=by decide):PE X (.Call (.Name x p) (e::es) [] pos) (zp9 sp [] E0 t):=zoQ G hr hg D.m D.F.kp D.b .nil ztM h.pa hdb h.hd.1 (h.hd.2 pos)
theorem ztJ{T:String}{p:Pos}(hm:X.mg x=none)(hv:bootBuiltins x=some (.type T))(hg:Gl X x:=by rfl)(hn:x ≠ "__name__":=by decide) (hd:(x == ("__debug__":Str))=false:=by decide):PE X (.Name x p) (tC (.ty T)) :=
 zoR hg hm hv rfl hn hd
end
theorem iteP{c A B:Prop}[Decidable c](hc:c)(h:A):if decide c=true then A else B:=by
 rw[decide_eq_true hc];exact iteT h
theorem iteN{c A B:Prop}[Decidable c](hc:¬c)(h:B):if decide c=true then A else B:=by
 rw[decide_eq_false hc];exact iteF h
theorem zrD{c A B:Prop}[Decidable c](h1:c->A)(h2:¬c->B):if decide c=true then A else B:=by
 by_cases h:c
 ·exact iteP h (h1 h)
 ·exact iteN h (h2 h)
theorem zgN{α:Type}{xs:List α}{k:Int}{v:α}(h0:0<=k)(h:xs[k.toNat]?=some v):atI xs k=some v:=by
 obtain⟨n,rfl⟩:=Int.eq_ofNat_of_zero_le h0;exact zpS h
theorem QL(k:Nat):(0:Int)<2 ^ k:=by
 have:(0:Nat)<2 ^ k:=Nat.two_pow_pos k;have e:((2 ^ k:Nat):Int)=(2:Int) ^ k:=by simp
 omega
theorem zk6{k:Nat}(h:k<=64):(2:Int) ^ k<2 ^ 128:=by
 have:(2:Nat) ^ k<2 ^ 128:=Nat.pow_lt_pow_right (by decide) (by omega)
 have e:((2 ^ k:Nat):Int)=(2:Int) ^ k:=by simp
 omega
theorem zgh{k:Nat}(h:k<=64):(2:Int) ^ k<=2 ^ 64:=by
 have:(2:Nat) ^ k<=2 ^ 64:=Nat.pow_le_pow_right (by decide) (by omega)
 have e:((2 ^ k:Nat):Int)=(2:Int) ^ k:=by simp
 omega
theorem zmJ{H:Hp}{p:Addr}{o:HO}(h:H p=none):Same H (upd H p o):=fun b u e=>by
 rw[Jv (Qu e h)];exact e
end Bd
namespace L2
open PySem PySem.Spec PyProof.Rows
theorem zpT(k h:Nat):(k*2 ^ h) &&& (2 ^ h)=(k % 2)*2 ^ h:=by
 have e1:k*2 ^ h=k <<< h:=(Nat.shiftLeft_eq k h).symm;have e2:(2:Nat) ^ h=1 <<< h:=by rw[Nat.shiftLeft_eq,Nat.one_mul]
 have e3:(k &&& 1) <<< h=k <<< h &&& 1 <<< h:=Nat.shiftLeft_and_distrib;rw[e1]
 conv=>lhs;rw[e2]
 rw[<- e3,Nat.and_one_is_mod,Nat.shiftLeft_eq]
theorem zi5{k:Int}(h:Nat)(k0:0<=k):Builtin.bitXor (k*2 ^ h) (2 ^ h)=if k % 2=0 then k*2 ^ h+2 ^ h else k*2 ^ h - 2 ^ h:=by
 obtain⟨n,rfl⟩:=Int.eq_ofNat_of_zero_le k0;have e0:((2 ^ h:Nat):Int)=(2:Int) ^ h:=by simp
 have e1:((n:Int)*2 ^ h)=((n*2 ^ h:Nat):Int):=by rw[Int.natCast_mul,e0]
 rw[bitXor_and,e1,<- e0,bitAnd_pp (Int.natCast_nonneg _) (Int.natCast_nonneg _)];have e2:((n*2 ^ h:Nat):Int).toNat &&& ((2 ^ h:Nat):Int).toNat=(n % 2)*2 ^ h:=by
  rw[Int.toNat_natCast,Int.toNat_natCast];exact zpT n h
 rw[e2];rcases Nat.mod_two_eq_zero_or_one n with z|z
 ·have:((n:Int)) % 2=0:=by lia
  rw[if_pos this,z];simp
 ·have:¬((n:Int)) % 2=0:=by lia
  rw[if_neg this,z,Nat.one_mul];lia
def HAND:PyData:=.dict [(.none,.none)]
def SCR(ns:List Int):PyData:=.dict [(.none,.list (ns.map .int))]
def Z8(H:Hp)(hd:Addr)(n:Int):Prop:=∃d m t:Int,H hd=some (.lst [.int d,.int m,.int t])/\0<=m/\m<2 ^ 62/\0<=t/\t<=n
def StT(K:qF)(a:Addr)(xs:List V):Prop :=
 ∃(o:Obj) (its:Array Value) (n:Nat),K.lookup a=some o/\o.cls=.type "tuple" /\ o.data=.seq its n/\its.size<=sizeLine/\Vals xs its.toList/\o.dict=none
theorem StT.sq{K:qF}{H:Hp}{a:Addr}{xs:List V}(h:StT K a xs):SqT K H a xs:=by
 obtain⟨o,its,n,h1,h2,h3,h4,h5,_⟩:=h;exact .inr ⟨o,its,n,h1,h2,h3,h4,h5⟩
def hsT(k:Int×Int):Int:=reduceHash (Builtin.Tuple.tupleHashOf [hashInt k.1,hashInt k.2])
def entZ(z:(Int×Int)×Addr×V)(e:DictEntry):Prop:=e.hash=hsT z.1/\e.key=.ref z.2.1/\RelV z.2.2 e.val
abbrev ZT:=List ((Int×Int)×Addr×V)
def ZDO(a:Addr)(zs:ZT)(ep:Nat):HO:=.ext fun h=>(a == sysModules)=false/\zs.length<=sizeLine/\(zs.map (·.1)).Nodup/\∃o es,h.get? a=some o/\o.ExactDict/\o.data=.dict es ep/\Paired entZ zs es.toList
abbrev KT2:=List ((Int×Int)×PyData)
def entI(z:Int×V)(e:DictEntry):Prop:=e.hash=hashInt z.1/\(∃t,e.key=.int z.1 t)/\RelV z.2 e.val
def KDO(a:Addr)(zs:List (Int×V))(ep:Nat):HO:=.ext fun h=>(a == sysModules)=false/\zs.length<=sizeLine/\(zs.map (·.1)).Nodup/\∃o es,h.get? a=some o/\o.ExactDict/\o.data=.dict es ep/\Paired entI zs es.toList
def blkT(k:Int×Int):PyData:=.tuple [.int k.1,.int k.2]
def Zc(ks:List (Int×PyData)):List (PyData×PyData):=ks.map fun q=>(.int q.1,q.2)
def Js(ks:KT2):List (PyData×PyData):=ks.map fun q=>(blkT q.1,q.2)
mutual
inductive Rep (K:qF)(hd:Option Addr)(O:Addr->Prop)(H:Hp):V->PyData->Prop
 | non:Rep K hd O H .non .none
 | bl (b:Bool):Rep K hd O H (.bl b) (.bool b)
 | int (i:Int):Rep K hd O H (.int i) (.int i)
 | str (x:Str):Rep K hd O H (.str x) (.str x)
 | tup {a vs ds} (h:H a=some (.tup vs)) (o:¬O a) (r:Reps K hd O H vs ds):Rep K hd O H (.ref a) (.tuple ds)
 | tupS {a vs ds} (h:StT K a vs) (r:Reps K hd O H vs ds):Rep K hd O H (.ref a) (.tuple ds)
 | lst {a vs ds} (h:H a=some (.lst vs)) (o:¬O a) (r:Reps K hd O H vs ds):Rep K hd O H (.ref a) (.list ds)
 | dct {a ep} (h:H a=some (KDO a [] ep)) (o:¬O a):Rep K hd O H (.ref a) (.dict [])
 | dcK {a kvs ep ks ps} (h:H a=some (KDO a kvs ep)) (o:¬O a) (r:RepsK K hd O H kvs ks) (e:ps=Zc ks):Rep K hd O H (.ref a) (.dict ps)
 | dcT {a zs ep ks ps} (h:H a=some (ZDO a zs ep)) (o:¬O a) (r:RepsT K hd O H zs ks) (e:ps=Js ks):Rep K hd O H (.ref a) (.dict ps)
 | hand {a} (h:hd=some a):Rep K hd O H (.ref a) HAND
 | scr {a ns} (h:Rd H a (.lst (ns.map V.int))) (o:¬O a):Rep K hd O H (.ref a) (SCR ns)
 | scrS {a} {ns:List Int} (h:∀H':Hp,SqL K H' a (ns.map V.int)):Rep K hd O H (.ref a) (SCR ns)
inductive Reps (K:qF)(hd:Option Addr)(O:Addr->Prop)(H:Hp):List V->List PyData->Prop
 | nil:Reps K hd O H [] []
 | cons {v d vs ds} (h:Rep K hd O H v d) (r:Reps K hd O H vs ds):Reps K hd O H (v::vs) (d::ds)
inductive RepsK (K:qF)(hd:Option Addr)(O:Addr->Prop)(H:Hp):List (Int×V)->List (Int×PyData)->Prop
 | nil:RepsK K hd O H [] []
 | cons {k v d kvs ks} (h:Rep K hd O H v d) (r:RepsK K hd O H kvs ks):RepsK K hd O H ((k,v)::kvs) ((k,d)::ks)
inductive RepsT (K:qF)(hd:Option Addr)(O:Addr->Prop)(H:Hp):ZT->KT2->Prop
 | nil:RepsT K hd O H [] []
 | cons {k q v d zs ks} (h:Rep K hd O H (.ref q) (.tuple [.int k.1,.int k.2])) (h2:Rep K hd O H v d) (r:RepsT K hd O H zs ks):RepsT K hd O H ((k,q,v)::zs) ((k,d)::ks)
end
section
variable{K:qF}{hd:Option Addr}{O O':Addr->Prop}{H H':Hp}
mutual
theorem Rep.mono(ho:∀a o,H a=some o->O' a->O a)(hh:∀a o,¬O a->H a=some o->H' a=some o):∀{v d},Rep K hd O H v d->Rep K hd O' H' v d
 | _,_,.non=>.non
 | _,_,.bl b=>.bl b
 | _,_,.int i=>.int i
 | _,_,.str x=>.str x
 | _,_,.tup h o r=>.tup (hh _ _ o h) (fun z=>o (ho _ _ h z)) (Reps.mono ho hh r)
 | _,_,.tupS h r=>.tupS h (Reps.mono ho hh r)
 | _,_,.lst h o r=>.lst (hh _ _ o h) (fun z=>o (ho _ _ h z)) (Reps.mono ho hh r)
 | _,_,.dct h o=>.dct (hh _ _ o h) (fun z=>o (ho _ _ h z))
 | _,_,.dcK h o r e=>.dcK (hh _ _ o h) (fun z=>o (ho _ _ h z)) (RepsK.mono ho hh r) e
 | _,_,.dcT h o r e=>.dcT (hh _ _ o h) (fun z=>o (ho _ _ h z)) (RepsT.mono ho hh r) e
 | _,_,.hand h=>.hand h
 | _,_,.scr h o=>by
  rcases h with h|⟨u,h⟩
  ·exact .scr (.inl (hh _ _ o h)) (fun z=>o (ho _ _ h z))
  ·exact .scr (.inr ⟨u,hh _ _ o h⟩) (fun z=>o (ho _ _ h z))
 | _,_,.scrS h=>.scrS h
theorem Reps.mono(ho:∀a o,H a=some o->O' a->O a)(hh:∀a o,¬O a->H a=some o->H' a=some o):∀{vs ds},Reps K hd O H vs ds->Reps K hd O' H' vs ds
 | _,_,.nil=>.nil
 | _,_,.cons h r=>.cons (Rep.mono ho hh h) (Reps.mono ho hh r)
theorem RepsK.mono(ho:∀a o,H a=some o->O' a->O a)(hh:∀a o,¬O a->H a=some o->H' a=some o):∀{vs ds},RepsK K hd O H vs ds->RepsK K hd O' H' vs ds
 | _,_,.nil=>.nil
 | _,_,.cons h r=>.cons (Rep.mono ho hh h) (RepsK.mono ho hh r)
theorem RepsT.mono(ho:∀a o,H a=some o->O' a->O a)(hh:∀a o,¬O a->H a=some o->H' a=some o):∀{vs ds},RepsT K hd O H vs ds->RepsT K hd O' H' vs ds
 | _,_,.nil=>.nil
 | _,_,.cons h h2 r=>.cons (Rep.mono ho hh h) (Rep.mono ho hh h2) (RepsT.mono ho hh r)
end
theorem dict_noK{ks:List (Int×PyData)}{v:PyData}{r:List (PyData×PyData)}(e:(PyData.none,v)::r=Zc ks):False:=by
 cases ks with
 | nil=>cases e
 | cons q ks=>cases e
theorem dict_noT{ks:KT2}{v:PyData}{r:List (PyData×PyData)}(e:(PyData.none,v)::r=Js ks):False:=by
 cases ks with
 | nil=>cases e
 | cons q ks=>cases e
theorem Reps.length:∀{vs ds},Reps K hd O H vs ds->vs.length=ds.length
 | _,_,.nil=>rfl
 | _,_,.cons _ r=>by simp[Reps.length r]
theorem Reps.get:∀{vs ds}{i:Nat}{d},Reps K hd O H vs ds->ds[i]?=some d->∃v,vs[i]?=some v/\Rep K hd O H v d
 | _,_,_,_,.nil,e=>by simp at e
 | _,_,0,_,.cons h _,e=>by simp at e;subst e;exact⟨_,rfl,h⟩
 | _,_,i+1,_,.cons _ r,e=>by
  obtain⟨v,h1,h2⟩:=Reps.get (i:=i) r (by simpa using e)
  exact⟨v,by simpa using h1,h2⟩
theorem Reps.append:∀{vs ws ds es},Reps K hd O H vs ds->Reps K hd O H ws es->Reps K hd O H (vs++ws) (ds++es)
 | _,_,_,_,.nil,s=>s
 | _,_,_,_,.cons h r,s=>.cons h (Reps.append r s)
theorem Reps.take:∀{vs ds} (n:Nat),Reps K hd O H vs ds->Reps K hd O H (vs.take n) (ds.take n)
 | _,_,0,_=>.nil
 | _,_,_+1,.nil=>.nil
 | _,_,n+1,.cons h r=>.cons h (Reps.take n r)
theorem Reps.drop:∀{vs ds} (n:Nat),Reps K hd O H vs ds->Reps K hd O H (vs.drop n) (ds.drop n)
 | _,_,0,r=>r
 | _,_,_+1,.nil=>.nil
 | _,_,n+1,.cons _ r=>Reps.drop n r
theorem Reps.set{v d}(h:Rep K hd O H v d):∀{vs ds} (n:Nat),Reps K hd O H vs ds->Reps K hd O H (vs.set n v) (ds.set n d)
 | _,_,_,.nil=>.nil
 | _,_,0,.cons _ r=>.cons h r
 | _,_,n+1,.cons q r=>.cons q (Reps.set h n r)
theorem Rep.tupI{v:V}{ds:qD}(h:Rep K hd O H v (.tuple ds)):∃a vs,v=.ref a/\SqT K H a vs/\Reps K hd O H vs ds:=by
 cases h with
 | tup h o r=>exact⟨_,_,rfl,.inl (.inl h),r⟩
 | tupS h r=>exact⟨_,_,rfl,h.sq,r⟩
theorem Rep.lstI{v:V}{ds:qD}(h:Rep K hd O H v (.list ds)):∃a vs,v=.ref a/\H a=some (.lst vs)/\¬O a/\Reps K hd O H vs ds:=by
 cases h with
 | lst h o r=>exact⟨_,_,rfl,h,o,r⟩
theorem Rep.intI{v:V}{i:Int}(h:Rep K hd O H v (.int i)):v=.int i:=by cases h;rfl
theorem Rep.blI{v:V}{b:Bool}(h:Rep K hd O H v (.bool b)):v=.bl b:=by cases h;rfl
theorem Rep.strI{v:V}{x:Str}(h:Rep K hd O H v (.str x)):v=.str x:=by cases h;rfl
theorem Rep.nonI{v:V}(h:Rep K hd O H v .none):v=.non:=by cases h;rfl
theorem Rep.handI{v:V}(h:Rep K hd O H v HAND):∃a,v=.ref a/\hd=some a:=by
 generalize e:HAND=d at h;cases h with
 | hand h=>exact⟨_,rfl,h⟩
 | dct _ _=>cases e
 | dcK _ _ _ e'=>cases e;exact(dict_noK e').elim
 | dcT _ _ _ e'=>cases e;exact(dict_noT e').elim
 | scr _ _=>simp[HAND,SCR]at e
 | scrS _=>simp[HAND,SCR]at e
 | _=>cases e
theorem Rep.scrI{v:V}{ns:List Int}(h:Rep K hd O H v (SCR ns)):∃a,v=.ref a/\SqL K H a (ns.map V.int):=by
 generalize e:SCR ns=d at h;cases h with
 | hand h=>simp[HAND,SCR]at e
 | dct _ _=>cases e
 | dcK _ _ _ e'=>cases e;exact(dict_noK e').elim
 | dcT _ _ _ e'=>cases e;exact(dict_noT e').elim
 | @scr a ms h o =>
  have:ns=ms:=by
   have e':(ns.map PyData.int)=ms.map PyData.int:=by simpa[SCR] using e
   have:=congrArg (List.map fun x=>match x with|PyData.int i=>i|_=>0) e'
   simpa[List.map_map,Function.comp_def] using this
  subst this;exact⟨_,rfl,.inl h⟩
 | @scrS a ms h =>
  have:ns=ms:=by
   have e':(ns.map PyData.int)=ms.map PyData.int:=by simpa[SCR] using e
   have:=congrArg (List.map fun x=>match x with|PyData.int i=>i|_=>0) e'
   simpa[List.map_map,Function.comp_def] using this
  subst this;exact⟨_,rfl,h H⟩
 | _=>cases e
end
mutual
def JY:PyData->Bool
 | .list _=>false
 | .tuple ts=>Zl ts
 | .dict [(.none,.none)]=>true
 | .dict _=>false
 | _=>true
def Zl:List PyData->Bool
 | []=>true
 | t::ts=>JY t&&Zl ts
end
section
variable{K:qF}{hd:Option Addr}{O O':Addr->Prop}{H:Hp}
theorem zo3{ks:List (Int×PyData)}(e:JY (.dict (Zc ks))=true):False:=by
 unfold JY at e;split at e
 ·rename_i h;cases h
 ·rename_i h;cases h
 ·rename_i h;exact dict_noK (PyData.dict.inj h).symm
 ·cases e
 ·rename_i h;exact h _ rfl
theorem zo2{ks:KT2}(e:JY (.dict (Js ks))=true):False:=by
 unfold JY at e;split at e
 ·rename_i h;cases h
 ·rename_i h;cases h
 ·rename_i h;exact dict_noT (PyData.dict.inj h).symm
 ·cases e
 ·rename_i h;exact h _ rfl
def MutO(o:Option HO):Prop:=(∃xs,o=some (.lst xs))\/(∃ks,o=some (.dK ks))\/∃a zs ep,o=some (ZDO a zs ep)
mutual
theorem Rep.up(ho:∀a,O a->MutO (H a)):∀{v d},Rep K hd O' H v d->JY d=true->Rep K hd O H v d
 | _,_,.non,_=>.non
 | _,_,.bl b,_=>.bl b
 | _,_,.int i,_=>.int i
 | _,_,.str x,_=>.str x
 | _,_,.tup h _ r,e=>.tup h (fun z=>by rcases ho _ z with⟨xs,q⟩|⟨xs,q⟩|⟨xs,zs,ep,q⟩ <;> (rw[h]at q;cases q)) (Reps.up ho r (by simpa[JY] using e))
 | _,_,.tupS h r,e=>.tupS h (Reps.up ho r (by simpa[JY] using e))
 | _,_,.lst _ _ _,e=>by simp[JY]at e
 | _,_,.dct h _,e=>by simp[JY]at e
 | _,_,.dcK _ _ _ e',e=>by subst e';exact(zo3 e).elim
 | _,_,.dcT _ _ _ e',e=>by subst e';exact(zo2 e).elim
 | _,_,.hand h,_=>.hand h
 | _,_,.scr _ _,e=>by simp[SCR,JY]at e
 | _,_,.scrS _,e=>by simp[SCR,JY]at e
theorem Reps.up(ho:∀a,O a->MutO (H a)):∀{vs ds},Reps K hd O' H vs ds->Zl ds=true->Reps K hd O H vs ds
 | _,_,.nil,_=>.nil
 | _,_,.cons h r,e=>by
  simp only[Zl,Bool.and_eq_true]at e;exact .cons (Rep.up ho h e.1) (Reps.up ho r e.2)
end
end
section
variable{X:Cx}{pins:qO}{σ:St}{H:Hp}{s:Shared}{hd:Option Addr}{O:Addr->Prop}
mutual
theorem Rep.reads(I:Inv X pins σ H s):∀{v:V}{d:PyData}{u:Value},Rep X.K hd O H v d->RelV v u->d.hasDict=false->∃as,Reads s.heap u d as
 | _,_,_,.non,r,_=>by cases r;exact⟨_,.none⟩
 | _,_,_,.bl b,r,_=>by cases r;exact⟨_,.bool b⟩
 | _,_,_,.int i,r,_=>by obtain⟨t,rfl⟩:=r;exact⟨_,.int i t⟩
 | _,_,_,.str x,r,_=>by obtain⟨t,rfl⟩:=r;exact⟨_,.str x t⟩
 | _,_,_,.tup (a:=a) (vs:=vs) h _ q,r,e=>by
  cases r;obtain⟨its,rv,p,_⟩:=I.tuple (xs:=vs) (.inl (.inl h));obtain⟨o,ho,hc,n,hdat⟩:=p;obtain⟨as,ra⟩:=Reps.reads I q rv (by simpa[PyData.hasDict] using e)
  exact⟨_,.tuple ho hc hdat (by simpa using ra)⟩
 | _,_,_,.tupS (a:=a) (vs:=vs) h q,r,e=>by
  cases r;obtain⟨its,rv,p,_⟩:=I.tuple (xs:=vs) h.sq;obtain⟨o,ho,hc,n,hdat⟩:=p;obtain⟨as,ra⟩:=Reps.reads I q rv (by simpa[PyData.hasDict] using e)
  exact⟨_,.tuple ho hc hdat (by simpa using ra)⟩
 | _,_,_,.lst (a:=a) (vs:=vs) h _ q,r,e=>by
  cases r;obtain⟨its,rv,p,_⟩:=I.list (xs:=vs) (.inl (.inl h));obtain⟨o,n,ho,hc,_,hdat⟩:=p;obtain⟨as,ra⟩:=Reps.reads I q rv (by simpa[PyData.hasDict] using e)
  exact⟨_,.list ho hc hdat (by simpa using ra)⟩
 | _,_,_,.dct _ _,_,e=>by simp[PyData.hasDict]at e
 | _,_,_,.dcK _ _ _ _,_,e=>by simp[PyData.hasDict]at e
 | _,_,_,.dcT _ _ _ _,_,e=>by simp[PyData.hasDict]at e
 | _,_,_,.hand _,_,e=>by simp[HAND,PyData.hasDict]at e
 | _,_,_,.scr _ _,_,e=>by simp[SCR,PyData.hasDict]at e
 | _,_,_,.scrS _,_,e=>by simp[SCR,PyData.hasDict]at e
theorem Reps.reads(I:Inv X pins σ H s):∀{vs:List V}{ds:qD}{us:List Value},Reps X.K hd O H vs ds->Vals vs us->PyData.hasDictAll ds=false->∃as,ReadsAll s.heap us ds as
 | _,_,_,.nil,r,_=>by cases r;exact⟨_,.nil⟩
 | _,_,_,.cons h q,r,e=>by
  cases r with
  | cons r1 r2 =>
   have e':=e;simp only[PyData.hasDictAll,Bool.or_eq_false_iff]at e';obtain⟨as,ra⟩:=Rep.reads I h r1 e'.1;obtain⟨bs,rb⟩:=Reps.reads I q r2 e'.2;exact⟨_,.cons ra rb⟩
end
end
inductive Cell where
 | val (d:PyData)
 | own (ds:qD)
 | dct (ks:List (Key×PyData))
 | rdo (ks:List (Key×PyData))
 | dtt (ks:KT2)
def Cell.mine:Cell->Bool
 | .val _=>false
 | .own _=>true
 | .dct _=>true
 | .rdo _=>false
 | .dtt _=>true
def UW(K:qF)(hd:Option Addr)(O:Addr->Prop)(H:Hp)(kvs:List (Key×V))(ks:List (Key×PyData)):Prop:=Paired (fun(p:Key×V) (q:Key×PyData)=>p.1=q.1/\Rep K hd O H p.2 q.2) kvs ks
theorem UW.mono{K:qF}{hd:Option Addr}{O O':Addr->Prop}{H H':Hp}(ho:∀a o,H a=some o->O' a->O a)(hh:∀a o,¬O a->H a=some o->H' a=some o){kvs:List (Key×V)}{ks:List (Key×PyData)}(r:UW K hd O H kvs ks):UW K hd O' H' kvs ks :=
 Paired.mapP r fun _ _ z=>⟨z.1,z.2.mono ho hh⟩
abbrev En:=List (Option Cell)
structure Ctx where
 hd:Option Addr
 ext:Addr->Prop
def OwnS(ρ:En)(σ:St)(a:Addr):Prop:=∃(i:Nat) (c:Cell),c.mine=true/\ρ[i]?=some (some c)/\σ[i]?=some (some (V.ref a))
def Own(C:Ctx)(ρ:En)(σ:St)(a:Addr):Prop:=C.ext a\/OwnS ρ σ a
def Hn(hd:Option Addr)(H:Hp)(n:Nat):Prop:=∀a,hd=some a->Z8 H a n
structure Stt(K:qF)(C:Ctx)(ρ:En)(σ:St)(H:Hp)(n:Nat):Prop where
 len:ρ.length=σ.length
 val:∀(i:Nat) (d:PyData),ρ[i]?=some (some (Cell.val d))->∃v,σ[i]?=some (some v)/\Rep K C.hd (Own C ρ σ) H v d
 own:∀(i:Nat) (ds:qD),ρ[i]?=some (some (Cell.own ds))->∃a vs,σ[i]?=some (some (V.ref a))/\H a=some (.lst vs)/\Reps K C.hd (Own C ρ σ) H vs ds/\¬C.ext a
 dct:∀(i:Nat) (ks:List (Key×PyData)),ρ[i]?=some (some (Cell.dct ks))->∃a kvs,σ[i]?=some (some (V.ref a))/\H a=some (.dK kvs)/\UW K C.hd (Own C ρ σ) H kvs ks/\¬C.ext a
 rdo:∀(i:Nat) (ks:List (Key×PyData)),ρ[i]?=some (some (Cell.rdo ks))->∃a kvs,σ[i]?=some (some (V.ref a))/\H a=some (.dK kvs)/\UW K C.hd (Own C ρ σ) H kvs ks/\C.ext a/\C.hd≠some a
 dtt:∀(i:Nat) (ks:KT2),ρ[i]?=some (some (Cell.dtt ks))->∃a zs ep,σ[i]?=some (some (V.ref a))/\H a=some (ZDO a zs ep)/\RepsT K C.hd (Own C ρ σ) H zs ks/\¬C.ext a
 dif:∀(i j:Nat) (c e:Cell) (a:Addr),c.mine=true->e.mine=true->ρ[i]?=some (some c)->ρ[j]?=some (some e)->σ[i]?=some (some (V.ref a))->σ[j]?=some (some (V.ref a))->i=j
 hnd:Hn C.hd H n
 ext:∀a,C.ext a->MutO (H a)
 hx:∀a,C.hd=some a->C.ext a
def ExtE(hd:Option Addr)(H H':Hp):Prop:=∀a o,H a=some o->hd≠some a->H' a=some o
theorem ExtE.refl{hd:Option Addr}{H:Hp}:ExtE hd H H:=fun _ _ h _=>h
theorem ExtE.trans{hd:Option Addr}{H H1 H2:Hp}(a:ExtE hd H H1)(b:ExtE hd H1 H2):ExtE hd H H2:=fun c o h n=>b c o (a c o h n) n
theorem ExtE.new{hd:Option Addr}{H:Hp}{p:Addr}{o:HO}(h:H p=none):ExtE hd H (upd H p o):=fun b u e _=>by
 rw[Jv (Qu e h)];exact e
section
variable{K:qF}{C:Ctx}{ρ:En}{σ:St}{H H':Hp}{n n':Nat}
theorem MutO.ne{o:Option HO}(h:MutO o):o≠none:=by
 rcases h with⟨_,rfl⟩|⟨_,rfl⟩|⟨_,_,_,rfl⟩ <;> exact fun z=>by cases z
theorem Stt.at(S:Stt K C ρ σ H n){i:Nat}{c:Cell}(m:c.mine=true)(h1:ρ[i]?=some (some c)):∃a:Addr,σ[i]?=some (some (V.ref a))/\MutO (H a)/\¬C.ext a:=by
 cases c with
 | val d=>cases m
 | own ds =>
  obtain⟨a,vs,e1,e2,_,e4⟩:=S.own i ds h1;exact⟨a,e1,.inl ⟨_,e2⟩,e4⟩
 | dct ks =>
  obtain⟨a,vs,e1,e2,_,e4⟩:=S.dct i ks h1;exact⟨a,e1,.inr (.inl ⟨_,e2⟩),e4⟩
 | rdo ks=>cases m
 | dtt ks =>
  obtain⟨a,vs,ep,e1,e2,_,e4⟩:=S.dtt i ks h1;exact⟨a,e1,.inr (.inr ⟨_,_,_,e2⟩),e4⟩
theorem Stt.lst(S:Stt K C ρ σ H n){a:Addr}(h:Own C ρ σ a):MutO (H a):=by
 rcases h with h|⟨i,c,m,h1,h2⟩
 ·exact S.ext a h
 ·obtain⟨b,e1,e2,_⟩:=S.at m h1;rw[h2]at e1;cases e1;exact e2
theorem Stt.dom(S:Stt K C ρ σ H n){a:Addr}(h:Own C ρ σ a):H a≠none:=(S.lst h).ne
theorem Stt.free(S:Stt K C ρ σ H n){a:Addr}(h:H a=none):¬Own C ρ σ a:=fun z=>S.dom z h
theorem ExtE.rep(e:ExtE C.hd H H')(hx:∀a,C.hd=some a->C.ext a){v d}(r:Rep K C.hd (Own C ρ σ) H v d):Rep K C.hd (Own C ρ σ) H' v d :=
 r.mono (fun _ _ _ z=>z) fun a o no h=>e a o h fun z=>no (.inl (hx a z))
theorem ExtE.reps(e:ExtE C.hd H H')(hx:∀a,C.hd=some a->C.ext a){v d}(r:Reps K C.hd (Own C ρ σ) H v d):Reps K C.hd (Own C ρ σ) H' v d :=
 r.mono (fun _ _ _ z=>z) fun a o no h=>e a o h fun z=>no (.inl (hx a z))
theorem Stt.on(S:Stt K C ρ σ H n)(e:ExtE C.hd H H')(h:Hn C.hd H' n'):Stt K C ρ σ H' n' where
 len:=S.len
 val:=fun i d hi=>by
  obtain⟨v,h1,h2⟩:=S.val i d hi;exact⟨v,h1,e.rep S.hx h2⟩
 own:=fun i ds hi=>by
  obtain⟨a,vs,h1,h2,h3,h4⟩:=S.own i ds hi;exact⟨a,vs,h1,e a _ h2 fun z=>h4 (S.hx a z),e.reps S.hx h3,h4⟩
 dct:=fun i ks hi=>by
  obtain⟨a,vs,h1,h2,h3,h4⟩:=S.dct i ks hi;exact⟨a,vs,h1,e a _ h2 fun z=>h4 (S.hx a z),Paired.mapP h3 fun _ _ z=>⟨z.1,e.rep S.hx z.2⟩,h4⟩
 rdo:=fun i ks hi=>by
  obtain⟨a,vs,h1,h2,h3,h4,h5⟩:=S.rdo i ks hi;exact⟨a,vs,h1,e a _ h2 h5,Paired.mapP h3 fun _ _ z=>⟨z.1,e.rep S.hx z.2⟩,h4,h5⟩
 dtt:=fun i ks hi=>by
  obtain⟨a,vs,ep,h1,h2,h3,h4⟩:=S.dtt i ks hi;exact⟨a,vs,ep,h1,e a _ h2 fun z=>h4 (S.hx a z),h3.mono (fun _ _ _ z=>z) (fun a o no h=>e a o h fun z=>no (.inl (S.hx a z))),h4⟩
 dif:=S.dif
 hnd:=h
 ext:=fun a ha=>by
  by_cases z:C.hd=some a
  ·obtain⟨d,m,t,q,_⟩:=h a z;exact .inl ⟨_,q⟩
  ·rcases S.ext a ha with⟨xs,q⟩|⟨xs,q⟩|⟨b,xs,ep,q⟩
   ·exact .inl ⟨xs,e a _ q z⟩
   ·exact .inr (.inl ⟨xs,e a _ q z⟩)
   ·exact .inr (.inr ⟨b,xs,ep,e a _ q z⟩)
 hx:=S.hx
end
abbrev DTE:=En->Nat->(PyData->Nat->Prop)->Prop
abbrev DTT:=En->Nat->(Bool->Nat->Prop)->Prop
abbrev DTA:=En->Nat->(List PyData->Nat->Prop)->Prop
def DE(X:Cx)(e:Expr)(d:DTE):Prop:=∃te,PE X e te/\∀(C:Ctx) (ρ:En) (σ:St) (H:Hp) (n:Nat) (Q:VK) (R:qN),Stt X.K C ρ σ H n->d ρ n R ->
 (∀t n' v H',R t n'->ExtE C.hd H H'->Hn C.hd H' n'->Rep X.K C.hd (Own C ρ σ) H' v t->Q v H')->te σ H Q
def RepT(K:qF)(hd:Option Addr)(O:Addr->Prop)(H:Hp)(v:V)(t:PyData):Prop :=
 Rep K hd O H v t\/(∃a vs ds,v=.ref a/\t=.list ds/\H a=some (.lst vs)/\Reps K hd O H vs ds/\hd≠some a)\/∃a zs ep ks,v=.ref a/\t=.dict (Js ks)/\H a=some (ZDO a zs ep)/\RepsT K hd O H zs ks/\hd≠some a
def DL(X:Cx)(e:Expr)(d:DTE):Prop:=∃te,PE X e te/\∀(C:Ctx) (ρ:En) (σ:St) (H:Hp) (n:Nat) (Q:VK) (R:qN),Stt X.K C ρ σ H n->d ρ n R ->
 (∀t n' v H',R t n'->ExtE C.hd H H'->Hn C.hd H' n'->RepT X.K C.hd (Own C ρ σ) H' v t->Q v H')->te σ H Q
def DN(X:Cx)(e:Expr)(d:DTA):Prop:=∃te,PE X e te/\∀(C:Ctx) (ρ:En) (σ:St) (H:Hp) (n:Nat) (Q:VK) (R:List PyData->Nat->Prop),Stt X.K C ρ σ H n->d ρ n R ->
 (∀ts n' p vs H',R ts n'->ExtE C.hd H H'->Hn C.hd H' n'->H p=none->H' p=some (.lst vs)->Reps X.K C.hd (fun a=>Own C ρ σ a\/a=p) H' vs ts->Q (.ref p) H')->te σ H Q
def DT(X:Cx)(e:Expr)(d:DTT):Prop:=∃te,PT X e te/\∀(C:Ctx) (ρ:En) (σ:St) (H:Hp) (n:Nat) (Q:Bool->Hp->Prop) (R:Bool->Nat->Prop),Stt X.K C ρ σ H n->d ρ n R ->
 (∀b n' H',R b n'->ExtE C.hd H H'->Hn C.hd H' n'->Q b H')->te σ H Q
def DW(X:Cx)(e:Expr)(d:DTT):Prop:=∃te,PW X e te/\∀(C:Ctx) (ρ:En) (σ:St) (H:Hp) (n:Nat) (Q:Bool->Hp->Prop) (R:Bool->Nat->Prop),Stt X.K C ρ σ H n->d ρ n R ->
 (∀b n' H',R b n'->ExtE C.hd H H'->Hn C.hd H' n'->Q b H')->te σ H Q
def DB(X:Cx)(es:List Expr)(d:DTA):Prop:=∃ta,PB X es ta/\∀(C:Ctx) (ρ:En) (σ:St) (H:Hp) (n:Nat) (Q:List V->Hp->Prop) (R:List PyData->Nat->Prop),Stt X.K C ρ σ H n->d ρ n R ->
 (∀ts n' vs H',R ts n'->ExtE C.hd H H'->Hn C.hd H' n'->Reps X.K C.hd (Own C ρ σ) H' vs ts->ts.length=es.length->Q vs H')->ta σ H Q
section
variable{X:Cx}{e a b c:Expr}{es:List Expr}{d da db dc:DTE}{pos:Pos}
theorem dl(h:DE X e d):DL X e d:=by
 obtain⟨te,p,h⟩:=h;exact⟨te,p,fun C ρ σ H n Q R S hd hq=>h C ρ σ H n Q R S hd fun t n' v H' r e h1 h2=>hq t n' v H' r e h1 (.inl h2)⟩
def dNew(d:DTA):DTE:=fun ρ n R=>d ρ n fun ts n'=>R (.list ts) n'
theorem JO{d:DTA}(h:DN X e d):DE X e (dNew d):=by
 obtain⟨te,p,h⟩:=h;refine⟨te,p,fun C ρ σ H n Q R S hd hq=>h C ρ σ H n Q _ S hd fun ts n' p vs H' r e h1 h2 h3 h4=>hq _ n' _ H' r e h1 (.lst h3 (S.free h2) (h4.mono (fun _ _ _ z=>.inl z) fun _ _ _ z=>z))⟩
def dVar(i:Nat):DTE:=fun ρ n R=>match ρ[i]? with|some (some (Cell.val d))=>R d n|_=>False
def dOwn(i:Nat):DTE:=fun ρ n R=>match ρ[i]? with|some (some (Cell.own d))=>R (.list d) n|_=>False
def dC(t:PyData):DTE:=fun _ n R=>R t n
theorem Ja(i:Nat){x:Str}{pos:Pos}(hN:X.N[i]?=some x:=by rfl)(hv:Vis X.env.scope x:=by walk_at "V")(hd:(x == ("__debug__":Str))=false:=by decide)
  (hcd:(x == ("__classdict__":Str))=false:=by decide):DE X (.Name x pos) (dVar i):=by
 refine⟨_,QU hN hv hd hcd,fun C ρ σ H n Q R S h hq=>?_⟩
 unfold dVar at h;split at h
 ·rename_i d e;obtain⟨v,h1,h2⟩:=S.val i d e;exact⟨v,h1,hq d n v H h ExtE.refl S.hnd h2⟩
 ·exact h.elim
theorem Ui(i:Nat){x:Str}{pos:Pos}(hN:X.N[i]?=some x:=by rfl)(hv:Vis X.env.scope x:=by walk_at "V")(hd:(x == ("__debug__":Str))=false:=by decide)
  (hcd:(x == ("__classdict__":Str))=false:=by decide):DL X (.Name x pos) (dOwn i):=by
 refine⟨_,QU hN hv hd hcd,fun C ρ σ H n Q R S h hq=>?_⟩
 unfold dOwn at h;split at h
 ·rename_i ds e;obtain⟨p,vs,h1,h2,h3,h4⟩:=S.own i ds e;exact⟨.ref p,h1,hq _ n _ H h ExtE.refl S.hnd (.inr (.inl ⟨p,vs,ds,rfl,rfl,h2,h3,fun z=>h4 (S.hx p z)⟩))⟩
 ·exact h.elim
def ZW(i:Nat):DTE:=fun ρ n R=>match ρ[i]? with|some (some (Cell.dtt ks))=>R (.dict (Js ks)) n|_=>False
theorem zpF(i:Nat){x:Str}{pos:Pos}(hN:X.N[i]?=some x:=by rfl)(hv:Vis X.env.scope x:=by walk_at "V")(hd:(x == ("__debug__":Str))=false:=by decide)
  (hcd:(x == ("__classdict__":Str))=false:=by decide):DL X (.Name x pos) (ZW i):=by
 refine⟨_,QU hN hv hd hcd,fun C ρ σ H n Q R S h hq=>?_⟩
 unfold ZW at h;split at h
 ·rename_i ks e;obtain⟨p,zs,ep,h1,h2,h3,h4⟩:=S.dtt i ks e;exact⟨.ref p,h1,hq _ n _ H h ExtE.refl S.hnd (.inr (.inr ⟨p,zs,ep,ks,rfl,rfl,h2,h3,fun z=>h4 (S.hx p z)⟩))⟩
 ·exact h.elim
theorem Jd{i j pos}:DE X (.Constant (.int i) j pos) (dC (.int i)):=⟨_,JI,fun _ _ _ H n _ _ S h hq=>hq _ n _ H h ExtE.refl S.hnd (.int i)⟩
theorem JZ{b j pos}:DE X (.Constant (.bool b) j pos) (dC (.bool b)):=⟨_,ztL,fun _ _ _ H n _ _ S h hq=>hq _ n _ H h ExtE.refl S.hnd (.bl b)⟩
theorem Uh{j pos}:DE X (.Constant .none j pos) (dC .none):=⟨_,zqO,fun _ _ _ H n _ _ S h hq=>hq _ n _ H h ExtE.refl S.hnd .non⟩
end
section
variable{K:qF}{hd:Option Addr}{O:Addr->Prop}{H H':Hp}{v:V}{t:PyData}{n:Nat}
theorem Same.ext(h:Same H H'):ExtE hd H H':=fun a o e _=>h a o e
theorem Hn.same(h:Hn hd H n)(s:Same H H'):Hn hd H' n:=fun a e=>by
 obtain⟨d,m,t,q,r⟩:=h a e;exact⟨d,m,t,s _ _ q,r⟩
theorem Rep.same(s:Same H H')(r:Rep K hd O H v t):Rep K hd O H' v t:=r.mono (fun _ _ _ z=>z) fun a o _ h=>s a o h
theorem Reps.same{vs ts}(s:Same H H')(r:Reps K hd O H vs ts):Reps K hd O H' vs ts:=r.mono (fun _ _ _ z=>z) fun a o _ h=>s a o h
theorem ExtE.repT{C:Ctx}{ρ:En}{σ:St}(e:ExtE C.hd H H')(hx:∀a,C.hd=some a->C.ext a)(r:RepT K C.hd (Own C ρ σ) H v t):RepT K C.hd (Own C ρ σ) H' v t:=by
 rcases r with r|⟨a,vs,ds,h1,h2,h3,h4,h5⟩|⟨a,zs,ep,ks,h1,h2,h3,h4,h5⟩
 ·exact .inl (e.rep hx r)
 ·exact .inr (.inl ⟨a,vs,ds,h1,h2,e _ _ h3 h5,e.reps hx h4,h5⟩)
 ·exact .inr (.inr ⟨a,zs,ep,ks,h1,h2,e _ _ h3 h5,h4.mono (fun _ _ _ z=>z) (fun a o no h=>e a o h fun z=>no (.inl (hx a z))),h5⟩)
theorem RepT.lstI{ds}(h:RepT K hd O H v (.list ds)):∃a vs,v=.ref a/\H a=some (.lst vs)/\Reps K hd O H vs ds:=by
 rcases h with h|⟨a,vs,es,h1,h2,h3,h4,_⟩|⟨a,vs,ep,es,h1,h2,h3,h4,_⟩
 ·obtain⟨a,vs,h1,h2,_,h3⟩:=h.lstI;exact⟨a,vs,h1,h2,h3⟩
 ·cases h2;exact⟨a,vs,h1,h3,h4⟩
 ·cases h2
theorem RepT.tupI{ds}(h:RepT K hd O H v (.tuple ds)):∃a vs,v=.ref a/\SqT K H a vs/\Reps K hd O H vs ds:=by
 rcases h with h|⟨a,vs,es,h1,h2,h3,h4,_⟩|⟨a,vs,ep,es,h1,h2,h3,h4,_⟩
 ·exact h.tupI
 ·cases h2
 ·cases h2
theorem RepT.rep(h:RepT K hd O H v t)(nl:∀ds,t≠.list ds)(nd:∀ks,t≠.dict (Js ks):=by intro ks z;first|cases z|exact dict_noT (PyData.dict.inj z)):Rep K hd O H v t:=by
 rcases h with h|⟨a,vs,es,h1,h2,h3,h4,_⟩|⟨a,vs,ep,es,h1,h2,h3,h4,_⟩
 ·exact h
 ·exact absurd h2 (nl es)
 ·exact absurd h2 (nd es)
theorem RepT.intI{i}(h:RepT K hd O H v (.int i)):v=.int i:=(h.rep (by intro _ z;cases z)).intI
theorem RepT.blI{i}(h:RepT K hd O H v (.bool i)):v=.bl i:=(h.rep (by intro _ z;cases z)).blI
theorem RepT.strI{i}(h:RepT K hd O H v (.str i)):v=.str i:=(h.rep (by intro _ z;cases z)).strI
theorem RepT.nonI(h:RepT K hd O H v .none):v=.non:=(h.rep (by intro _ z;cases z)).nonI
theorem Rep.newT{p:Addr}{vs ts}(no:¬O p)(h:H p=none)(r:Reps K hd O H vs ts):Rep K hd O (upd H p (.tup vs)) (.ref p) (.tuple ts) :=
 .tup JQ no (r.same (fun b u e=>by rw[Jv (Qu e h)];exact e))
end
theorem Qb{H:Hp}{p:Addr}{o:HO}(h:H p=none):Same H (upd H p o):=fun b u e=>by
 rw[Jv (Qu e h)];exact e
abbrev G2:=PyData->PyData->(PyData->Prop)->Prop
def dOp(g:G2)(da db:DTE):DTE:=fun ρ n R=>da ρ n fun x n1=>db ρ n1 fun y n2=>g x y fun z=>R z n2
def Gp2(X:Cx)(r:R2)(g:G2):Prop:=∀(hd:Option Addr) (O:Addr->Prop) (H:Hp) (x y:V) (t u:PyData) (Q:VK) (R:PyData->Prop),(∀p,O p->H p≠none)->RepT X.K hd O H x t->RepT X.K hd O H y u->g t u R ->
 (∀z v H',R z->Same H H'->Rep X.K hd O H' v z->Q v H')->r x y H Q
section
variable{X:Cx}{a b c:Expr}{da db dc:DTE}{pos:Pos}{r r':R2}{g g':G2}
theorem two{C:Ctx}{ρ:En}{σ:St}{H:Hp}{n:Nat}{ta tb:TE}(ha:∀(C:Ctx) (ρ:En) (σ:St) (H:Hp) (n:Nat) (Q:VK) (R:qN),Stt X.K C ρ σ H n->da ρ n R ->
  (∀t n' v H',R t n'->ExtE C.hd H H'->Hn C.hd H' n'->RepT X.K C.hd (Own C ρ σ) H' v t->Q v H')->ta σ H Q)
  (hb:∀(C:Ctx) (ρ:En) (σ:St) (H:Hp) (n:Nat) (Q:VK) (R:qN),Stt X.K C ρ σ H n->db ρ n R ->
  (∀t n' v H',R t n'->ExtE C.hd H H'->Hn C.hd H' n'->RepT X.K C.hd (Own C ρ σ) H' v t->Q v H')->tb σ H Q)
  {Q2:V->V->Hp->Prop} {R2:PyData->PyData->Nat->Prop} (S:Stt X.K C ρ σ H n) (h:da ρ n fun x n1=>db ρ n1 fun y n2=>R2 x y n2)
  (hq:∀x y n2 v w H2,R2 x y n2->ExtE C.hd H H2->Stt X.K C ρ σ H2 n2->RepT X.K C.hd (Own C ρ σ) H2 v x->RepT X.K C.hd (Own C ρ σ) H2 w y->Q2 v w H2) :
  ta σ H fun v H1=>tb σ H1 fun w H2=>Q2 v w H2:=by
 refine ha C ρ σ H n _ _ S h fun t n1 v H1 r1 e1 h1 q1=>?_
 have S1:=S.on e1 h1;refine hb C ρ σ H1 n1 _ _ S1 r1 fun u n2 w H2 r2 e2 h2 q2=>?_
 exact hq t u n2 v w H2 r2 (e1.trans e2) (S1.on e2 h2) (e2.repT S.hx q1) q2
theorem QO{op:Operator}(ho:OpR X (binaryOp op) r)(hg:Gp2 X r g)(ha:DL X a da)(hb:DL X b db):DE X (.BinOp a op b pos) (dOp g da db):=by
 obtain⟨ta,pa,ha⟩:=ha;obtain⟨tb,pb,hb⟩:=hb;refine⟨_,JK ho pa pb,fun C ρ σ H n Q R S h hq=>?_⟩
 refine two ha hb S h fun x y n2 v w H2 r2 e S2 q1 q2=>?_
 exact hg C.hd (Own C ρ σ) H2 v w x y Q _ (fun p=>S2.dom) q1 q2 r2 fun z u H' rz sm rp=>hq z n2 u H' rz (e.trans sm.ext) (S2.hnd.same sm) rp
theorem JV{op:CmpOp}(ho:OpR X (compareOp op) r)(hg:Gp2 X r g)(ha:DL X a da)(hb:DL X b db)(hm:behindInMarks op b=false):DE X (.Compare a [op] [b] pos) (dOp g da db):=by
 obtain⟨ta,pa,ha⟩:=ha;obtain⟨tb,pb,hb⟩:=hb;refine⟨_,zlc ho pa pb hm,fun C ρ σ H n Q R S h hq=>?_⟩
 refine two ha hb S h fun x y n2 v w H2 r2 e S2 q1 q2=>?_
 exact hg C.hd (Own C ρ σ) H2 v w x y Q _ (fun p=>S2.dom) q1 q2 r2 fun z u H' rz sm rp=>hq z n2 u H' rz (e.trans sm.ext) (S2.hnd.same sm) rp
def Yv(d:DTE):DTT:=fun ρ n R=>d ρ n fun t n'=>match t with|.bool k=>R k n'|_=>False
theorem Jt{op:CmpOp}(ho:OpR X (compareOp op) r)(hg:Gp2 X r g)(ha:DL X a da)(hb:DL X b db)(hm:behindInMarks op b=false):DT X (.Compare a [op] [b] pos) (Yv (dOp g da db)):=by
 obtain⟨ta,pa,ha⟩:=ha;obtain⟨tb,pb,hb⟩:=hb;refine⟨_,zia ho pa pb hm,fun C ρ σ H n Q R S h hq=>?_⟩
 refine two ha hb S h fun x y n2 v w H2 r2 e S2 q1 q2=>?_
 refine hg C.hd (Own C ρ σ) H2 v w x y _ _ (fun p=>S2.dom) q1 q2 r2 fun z u H' rz sm rp=>?_
 cases z with
 | bool k =>
  cases rp;exact⟨k,rfl,hq k n2 H' rz (e.trans sm.ext) (S2.hnd.same sm)⟩
 | _=>exact rz.elim
def YL(g g':G2)(da db dc:DTE):DTE:=fun ρ n R=>da ρ n fun x n1=>db ρ n1 fun y n2=>g x y fun z=>match z with
 | .bool true=>dc ρ n2 fun w n3=>g' y w fun z=>R z n3
 | .bool false=>R (.bool false) n2
 | _=>False
def gI(C:Int->Int->Prop)(f:Int->Int->Int):G2
 | .int i,.int j,R=>C i j/\R (.int (f i j))
 | _,_,_=>False
def gB(f:Int->Int->Bool):G2
 | .int i,.int j,R=>R (.bool (f i j))
 | _,_,_=>False
theorem gp_I{C:Int->Int->Prop}{f:Int->Int->Int}:Gp2 X (rI C fun i j=>.int (f i j)) (gI C f):=by
 intro hd O H x y t u Q R dom rx ry h hq;unfold gI at h;split at h
 ·rename_i i j;exact⟨i,j,rx.intI,ry.intI,h.1,hq _ _ H h.2 (Same.refl H) (.int _)⟩
 ·exact h.elim
def gI0(f:Int->Int->Int):G2
 | .int i,.int j,R=>R (.int (f i j))
 | _,_,_=>False
theorem zpu{f:Int->Int->Int}:Gp2 X (rI0 fun i j=>.int (f i j)) (gI0 f):=by
 intro hd O H x y t u Q R dom rx ry h hq;unfold gI0 at h;split at h
 ·rename_i i j;exact⟨i,j,rx.intI,ry.intI,hq _ _ H h (Same.refl H) (.int _)⟩
 ·exact h.elim
theorem gp_B{f:Int->Int->Bool}:Gp2 X (rI0 fun i j=>.bl (f i j)) (gB f):=by
 intro hd O H x y t u Q R dom rx ry h hq;unfold gB at h;split at h
 ·rename_i i j;exact⟨i,j,rx.intI,ry.intI,hq _ _ H h (Same.refl H) (.bl _)⟩
 ·exact h.elim
end
section
variable{X:Cx}{a b c:Expr}{da db dc:DTE}{pos:Pos}
def oSub:=gI0 fun i j=>i - j
def oMod:=gI (fun _ j=>0<j) fun i j=>i % j
def Q4:=gI Za fun i j=>i / j
def oShl:=gI CPow fun i j=>i*2 ^ j.toNat
def oShr:=gI (fun _ j=>0<=j) fun i j=>i / 2 ^ j.toNat
def oXor:=gI0 Builtin.bitXor
def oAnd:=gI0 Builtin.bitAnd
theorem Qr(ha:DL X a da)(hb:DL X b db):DE X (.BinOp a .Sub b pos) (dOp oSub da db):=QO zqZ zpu ha hb
theorem zl5(ha:DL X a da)(hb:DL X b db):DE X (.BinOp a .Mod b pos) (dOp oMod da db):=QO Yi gp_I ha hb
theorem ziS(ha:DL X a da)(hb:DL X b db):DE X (.BinOp a .FloorDiv b pos) (dOp Q4 da db):=QO Vg gp_I ha hb
theorem J1(ha:DL X a da)(hb:DL X b db):DE X (.BinOp a .LShift b pos) (dOp oShl da db):=QO zq1 gp_I ha hb
theorem zsf(ha:DL X a da)(hb:DL X b db):DE X (.BinOp a .RShift b pos) (dOp oShr da db):=QO zq0 gp_I ha hb
theorem zod(ha:DL X a da)(hb:DL X b db):DE X (.BinOp a .BitXor b pos) (dOp oXor da db):=QO zqY zpu ha hb
theorem zsh(ha:DL X a da)(hb:DL X b db):DE X (.BinOp a .BitAnd b pos) (dOp oAnd da db):=QO zq_ zpu ha hb
end
section
variable{X:Cx}{pins:qO}{σ:St}{H:Hp}{s:Shared}{hd:Option Addr}{O:Addr->Prop}
theorem RepT.reads(I:Inv X pins σ H s){v:V}{d:PyData}{u:Value}(h:RepT X.K hd O H v d)(r:RelV v u)(e:d.hasDict=false):∃as,Reads s.heap u d as:=by
 rcases h with h|⟨a,vs,ds,rfl,rfl,h3,h4,_⟩|⟨a,zs,ep,ks,rfl,rfl,h3,h4,_⟩
 rotate_left 2
 ·simp[PyData.hasDict]at e
 ·exact h.reads I r e
 ·cases r;obtain⟨its,rv,p,_⟩:=I.list (xs:=vs) (.inl (.inl h3));obtain⟨o,n,ho,hc,_,hdat⟩:=p;obtain⟨as,ra⟩:=Reps.reads I h4 rv (by simpa[PyData.hasDict] using e)
  exact⟨_,.list ho hc hdat (by simpa using ra)⟩
end
def Okd(t:PyData):Prop:=t.canLay0=true/\t.depth<=60
section
variable{X:Cx}{a b c:Expr}{da db dc:DTE}{pos:Pos}{k:Nat}
def rEqD(K:qF)(neg:Bool):R2:=fun x y H Q=>∃hd O t u,RepT K hd O H x t/\RepT K hd O H y u/\Okd t/\Okd u/\Q (.bl (if neg then !t.eqv u else t.eqv u)) H
theorem zq9(hr:Room k X.A):OpR X (compareOp .Eq) (rEqD X.K false):=by
 intro pins s σ H x y v u Q I rx ry h;obtain⟨hd,O,t,w,h1,h2,h3,h4,q⟩:=h;obtain⟨as,ra⟩:=h1.reads I rx (PyData.hasDict_of_canLay _ h3.1);obtain⟨bs,rb⟩:=h2.reads I ry (PyData.hasDict_of_canLay _ h4.1);refine SeqAt.compareEq_reads ra rb h3.1 h4.1 ?_ ⟨.bl _,H,I,rfl,q⟩;have:=hr.un;have:=h3.2;omega
theorem zq3(hr:Room k X.A):OpR X (compareOp .NotEq) (rEqD X.K true):=by
 intro pins s σ H x y v u Q I rx ry h;obtain⟨hd,O,t,w,h1,h2,h3,h4,q⟩:=h;obtain⟨as,ra⟩:=h1.reads I rx (PyData.hasDict_of_canLay _ h3.1);obtain⟨bs,rb⟩:=h2.reads I ry (PyData.hasDict_of_canLay _ h4.1);refine SeqAt.compareNe_reads ra rb h3.1 h4.1 ?_ ⟨.bl _,H,I,rfl,q⟩;have:=hr.un;have:=h3.2;omega
def oEq:G2
 | .int i,.int j,R=>R (.bool (decide (i=j)))
 | .str i,.str j,R=>R (.bool (decide (i=j)))
 | .bool i,.bool j,R=>R (.bool (decide (i=j)))
 | t,u,R=>Okd t/\Okd u/\R (.bool (t.eqv u))
def oNe:G2
 | .int i,.int j,R=>R (.bool (!decide (i=j)))
 | .str i,.str j,R=>R (.bool (!decide (i=j)))
 | .bool i,.bool j,R=>R (.bool (!decide (i=j)))
 | t,u,R=>Okd t/\Okd u/\R (.bool (!t.eqv u))
def rEqA(K:qF):R2:=fun x y H Q=>rEq x y H Q\/rEqD K false x y H Q
def rNeA(K:qF):R2:=fun x y H Q=>rNe x y H Q\/rEqD K true x y H Q
theorem QA(hr:Room k X.A):OpR X (compareOp .Eq) (rEqA X.K):=OpR.or ztP (zq9 hr)
theorem QT(hr:Room k X.A):OpR X (compareOp .NotEq) (rNeA X.K):=OpR.or ztN (zq3 hr)
theorem Qy:Gp2 X (rEqA X.K) oEq:=by
 intro hd O H x y t u Q R dom rx ry h hq;unfold oEq at h;split at h
 ·rename_i i j;rw[rx.intI,ry.intI];refine .inl ⟨rfl,?_⟩;have e:decide (V.int i=V.int j)=decide (i=j):=decide_eq_decide.mpr ⟨fun z=>by cases z;rfl,fun z=>by rw[z]⟩
  rw[e];exact hq _ _ H h (Same.refl H) (.bl _)
 ·rename_i i j;rw[rx.strI,ry.strI];refine .inl ⟨rfl,?_⟩;have e:decide (V.str i=V.str j)=decide (i=j):=decide_eq_decide.mpr ⟨fun z=>by cases z;rfl,fun z=>by rw[z]⟩
  rw[e];exact hq _ _ H h (Same.refl H) (.bl _)
 ·rename_i i j;rw[rx.blI,ry.blI];refine .inl ⟨rfl,?_⟩;have e:decide (V.bl i=V.bl j)=decide (i=j):=decide_eq_decide.mpr ⟨fun z=>by cases z;rfl,fun z=>by rw[z]⟩
  rw[e];exact hq _ _ H h (Same.refl H) (.bl _)
 ·exact .inr ⟨hd,O,_,_,rx,ry,h.1,h.2.1,hq _ _ H h.2.2 (Same.refl H) (.bl _)⟩
theorem QP:Gp2 X (rNeA X.K) oNe:=by
 intro hd O H x y t u Q R dom rx ry h hq;unfold oNe at h;split at h
 ·rename_i i j;rw[rx.intI,ry.intI];refine .inl ⟨rfl,?_⟩;have e:decide (V.int i=V.int j)=decide (i=j):=decide_eq_decide.mpr ⟨fun z=>by cases z;rfl,fun z=>by rw[z]⟩
  rw[e];exact hq _ _ H h (Same.refl H) (.bl _)
 ·rename_i i j;rw[rx.strI,ry.strI];refine .inl ⟨rfl,?_⟩;have e:decide (V.str i=V.str j)=decide (i=j):=decide_eq_decide.mpr ⟨fun z=>by cases z;rfl,fun z=>by rw[z]⟩
  rw[e];exact hq _ _ H h (Same.refl H) (.bl _)
 ·rename_i i j;rw[rx.blI,ry.blI];refine .inl ⟨rfl,?_⟩;have e:decide (V.bl i=V.bl j)=decide (i=j):=decide_eq_decide.mpr ⟨fun z=>by cases z;rfl,fun z=>by rw[z]⟩
  rw[e];exact hq _ _ H h (Same.refl H) (.bl _)
 ·exact .inr ⟨hd,O,_,_,rx,ry,h.1,h.2.1,hq _ _ H h.2.2 (Same.refl H) (.bl _)⟩
def isNone:PyData->Bool
 | .none=>true
 | _=>false
def oIs:G2
 | .bool a,.bool b,R=>R (.bool (a == b))
 | t,.none,R=>R (.bool (isNone t))
 | _,_,_=>False
def oIsN:G2
 | .bool a,.bool b,R=>R (.bool (a != b))
 | t,.none,R=>R (.bool (!isNone t))
 | _,_,_=>False
def rIs:R2:=fun x y H Q=>(y=.non/\Q (.bl (decide (x=.non))) H)\/∃a b,x=.bl a/\y=.bl b/\Q (.bl (a == b)) H
def rIsN:R2:=fun x y H Q=>(y=.non/\Q (.bl (!decide (x=.non))) H)\/∃a b,x=.bl a/\y=.bl b/\Q (.bl (a != b)) H
theorem Z1:OpR X (compareOp .Is) rIs:=OpR.or zq7 zq8
theorem zlk:OpR X (compareOp .IsNot) rIsN:=OpR.or zoW zll
theorem RepT.isN{K:qF}{hd:Option Addr}{O:Addr->Prop}{H:Hp}{v:V}{t:PyData}(h:RepT K hd O H v t):decide (v=.non)=(isNone t):=by
 rcases h with h|⟨a,vs,ds,rfl,rfl,h3,h4,_⟩|⟨a,zs,ep,ks,rfl,rfl,h3,h4,_⟩
 ·cases h <;> simp[HAND,SCR,isNone]
 ·simp[isNone]
 ·simp[isNone]
theorem ZQ:Gp2 X rIs oIs:=by
 intro hd O H x y t u Q R dom rx ry h hq;unfold oIs at h;split at h
 ·rename_i i j;exact .inr ⟨i,j,rx.blI,ry.blI,hq _ _ H h (Same.refl H) (.bl _)⟩
 ·refine .inl ⟨ry.nonI,?_⟩;rw[rx.isN];exact hq _ _ H h (Same.refl H) (.bl _)
 ·exact h.elim
theorem zlR:Gp2 X rIsN oIsN:=by
 intro hd O H x y t u Q R dom rx ry h hq;unfold oIsN at h;split at h
 ·rename_i i j;exact .inr ⟨i,j,rx.blI,ry.blI,hq _ _ H h (Same.refl H) (.bl _)⟩
 ·refine .inl ⟨ry.nonI,?_⟩;rw[rx.isN];exact hq _ _ H h (Same.refl H) (.bl _)
 ·exact h.elim
def oLtA:G2
 | .int i,.int j,R=>R (.bool (decide (i<j)))
 | .str i,.str j,R=>R (.bool (decide (i.cps.toList<j.cps.toList)))
 | .tuple xs,.tuple ys,R=>∃ns ms,xs=ns.map PyData.int/\ys=ms.map PyData.int/\R (.bool (HT.lexLt ns ms))
 | _,_,_=>False
def rLtA(K:qF):R2:=fun x y H Q=>(rI0 fun i j=>.bl (decide (i<j))) x y H Q\/(∃i j,x=.str i/\y=.str j/\Q (.bl (decide (i.cps.toList<j.cps.toList))) H)\/rLtT K x y H Q
theorem Qo(hr:Room k X.A):OpR X (compareOp .Lt) (rLtA X.K):=OpR.or zq5 (OpR.or zli (zq4 hr.units0))
theorem Vk{K:qF}{hd:Option Addr}{O:Addr->Prop}{H:Hp}:∀{ns:List Int}{vs:List V},Reps K hd O H vs (ns.map PyData.int)->vs=ns.map V.int
 | [],_,h=>by cases h;rfl
 | n::ns,_,h=>by
  cases h with
  | cons h r=>rw[h.intI,Vk r];rfl
theorem Qn:Gp2 X (rLtA X.K) oLtA:=by
 intro hd O H x y t u Q R dom rx ry h hq;unfold oLtA at h;split at h
 ·exact .inl ⟨_,_,rx.intI,ry.intI,hq _ _ H h (Same.refl H) (.bl _)⟩
 ·exact .inr (.inl ⟨_,_,rx.strI,ry.strI,hq _ _ H h (Same.refl H) (.bl _)⟩)
 ·obtain⟨ns,ms,rfl,rfl,h⟩:=h;obtain⟨p,vs,e1,s1,r1⟩:=rx.tupI;obtain⟨q,ws,e2,s2,r2⟩:=ry.tupI;rw[Vk r1]at s1;rw[Vk r2]at s2;exact .inr (.inr ⟨p,q,ns,ms,e1,e2,s1,s2,hq _ _ H h (Same.refl H) (.bl _)⟩)
 ·exact h.elim
def oLeA:G2
 | .int i,.int j,R=>R (.bool (decide (i<=j)))
 | .str i,.str j,R=>R (.bool (!decide (j.cps.toList<i.cps.toList)))
 | _,_,_=>False
def rLeA:R2:=fun x y H Q=>(rI0 fun i j=>.bl (decide (i<=j))) x y H Q\/(∃i j,x=.str i/\y=.str j/\Q (.bl (!decide (j.cps.toList<i.cps.toList))) H)
theorem zlj:OpR X (compareOp .LtE) (fun x y H Q=>∃i j,x=.str i/\y=.str j/\Q (.bl (!decide (j.cps.toList<i.cps.toList))) H):=by
 intro pins s σ H x y v u Q I rx ry h;obtain⟨i,j,rfl,rfl,q⟩:=h;obtain⟨t,rfl⟩:=rx;obtain⟨t',rfl⟩:=ry;exact PySem.P.le_str ⟨.bl _,H,I,rfl,q⟩
theorem QB:OpR X (compareOp .LtE) rLeA:=OpR.or ztO zlj
theorem Qz:Gp2 X rLeA oLeA:=by
 intro hd O H x y t u Q R dom rx ry h hq;unfold oLeA at h;split at h
 ·exact .inl ⟨_,_,rx.intI,ry.intI,hq _ _ H h (Same.refl H) (.bl _)⟩
 ·exact .inr ⟨_,_,rx.strI,ry.strI,hq _ _ H h (Same.refl H) (.bl _)⟩
 ·exact h.elim
variable{r r':R2}{g g':G2}
theorem znE{op op':CmpOp}(ho:OpR X (compareOp op) r)(hg:Gp2 X r g)(ho':OpR X (compareOp op') r')(hg':Gp2 X r' g')(ha:DL X a da)(hb:DL X b db)(hc:DL X c dc)
  (hm:lastMarks [op,op'] [b,c]=false:=by with_unfolding_all rfl):DE X (.Compare a [op,op'] [b,c] pos) (YL g g' da db dc):=by
 obtain⟨ta,pa,ha⟩:=ha;obtain⟨tb,pb,hb⟩:=hb;obtain⟨tc,pc,hc⟩:=hc;refine⟨_,zm4 ho ho' pa pb pc hm,fun C ρ σ H n Q R S h hq=>?_⟩
 refine two ha hb S h fun x y n2 v w H2 r2 e S2 q1 q2=>?_
 refine hg C.hd (Own C ρ σ) H2 v w x y _ _ (fun p=>S2.dom) q1 q2 r2 fun z u H' rz sm rp=>?_
 have S3:=S2.on sm.ext (S2.hnd.same sm);cases z with
 | bool k =>
  cases rp;refine⟨k,rfl,?_⟩;cases k with
  | false=>exact iteF (hq _ n2 _ H' rz (e.trans sm.ext) S3.hnd (.bl _))
  | true =>
   refine iteT (hc C ρ σ H' n2 _ _ S3 rz fun z2 n3 w2 H4 r4 e4 h4 q4=>?_)
   have S4:=S3.on e4 h4;have q2':=e4.repT S.hx ((Same.ext sm:ExtE C.hd H2 H').repT S.hx q2);exact hg' C.hd (Own C ρ σ) H4 w w2 y z2 Q _ (fun p=>S4.dom) q2' q4 r4 fun z u H' rz sm' rp=>hq z n3 u H' rz (((e.trans sm.ext).trans e4).trans sm'.ext) (S4.hnd.same sm') rp
 | _=>exact rz.elim
end
section
variable{X:Cx}{a b c e:Expr}{es rest:List Expr}{d da db dc:DTE}{t u:DTT}{pos p:Pos}{k:Nat}
def truD:PyData->(Bool->Prop)->Prop
 | .none,R=>R false
 | .bool b,R=>R b
 | .int i,R=>R (decide (i≠0))
 | .str x,R=>x.length<=16777216/\R (decide (x.length≠0))
 | .list ts,R=>R (!ts.isEmpty)
 | .tuple ts,R=>R (!ts.isEmpty)
 | _,_=>False
def dTru(d:DTE):DTT:=fun ρ n R=>d ρ n fun t n'=>truD t fun b=>R b n'
theorem zp5{K:qF}{hd:Option Addr}{O:Addr->Prop}{H:Hp}{v:V}{t:PyData}{Q:Bool->Hp->Prop}{R:Bool->Prop}(r:RepT K hd O H v t)(h:truD t R)(hq:∀b,R b->Q b H):∃k,TruV K v H k/\Q k H:=by
 cases t with
 | none=>exact⟨false,by rw[r.nonI];rfl,hq _ h⟩
 | bool b=>exact⟨b,by rw[r.blI];rfl,hq _ h⟩
 | int i=>exact⟨decide (i≠0),by rw[r.intI];show _=(i != 0);by_cases z:i=0 <;> simp[z],hq _ h⟩
 | str x =>
  refine⟨decide (x.length≠0),by rw[r.strI];exact⟨h.1,by by_cases z:x.length=0 <;> simp[z]⟩,hq _ h.2⟩
 | list ts =>
  obtain⟨p,vs,e,h1,h2⟩:=r.lstI;subst e;refine⟨!ts.isEmpty,.inl ⟨vs,.of h1,?_⟩,hq _ h⟩;cases h2 <;> rfl
 | tuple ts =>
  obtain⟨p,vs,e,h1,h2⟩:=r.tupI;subst e;refine⟨!ts.isEmpty,.inr (.inl ⟨vs,h1,?_⟩),hq _ h⟩;cases h2 <;> rfl
 | dict _=>exact h.elim
theorem JR(ha:DL X a da)(he:∀whole,isTrue a X.env whole=(do let v <- whole;standAt a.pos;holding [v] (truthy v)):=by intro _;rfl):DT X a (dTru da):=by
 obtain⟨ta,pa,ha⟩:=ha;refine⟨_,zmU pa he,fun C ρ σ H n Q R S h hq=>?_⟩
 refine ha C ρ σ H n _ _ S h fun t n' v H' r e1 h1 q=>?_
 exact zp5 q r fun b rb=>hq b n' H' rb e1 h1
def dAnd(t u:DTT):DTT:=fun ρ n R=>t ρ n fun b n1=>if b=true then u ρ n1 R else R false n1
def dOr(t u:DTT):DTT:=fun ρ n R=>t ρ n fun b n1=>if b=true then R true n1 else u ρ n1 R
def dNot(t:DTT):DTT:=fun ρ n R=>t ρ n fun b n1=>R (!b) n1
theorem JS(h:DW X a t):DT X a t:=by
 obtain⟨ta,pa,h⟩:=h;exact⟨_,pa.pt,h⟩
theorem ZB(h:DT X a t):DW X (.BoolOp .And [a] pos) t:=by
 obtain⟨ta,pa,h⟩:=h;exact⟨_,zoD pa,h⟩
theorem Qh(h:DT X a t):DW X (.BoolOp .Or [a] pos) t:=by
 obtain⟨ta,pa,h⟩:=h;exact⟨_,zqz pa,h⟩
theorem Zp(h:DT X a t)(h':DW X (.BoolOp .And (b::rest) pos) u):DW X (.BoolOp .And (a::b::rest) pos) (dAnd t u):=by
 obtain⟨ta,pa,h⟩:=h;obtain⟨tb,pb,h'⟩:=h';refine⟨_,zqA pa pb,fun C ρ σ H n Q R S hd hq=>?_⟩
 refine h C ρ σ H n _ _ S hd fun b n1 H1 r e1 h1=>?_
 cases b with
 | true=>exact iteT (h' C ρ σ H1 n1 Q R (S.on e1 h1) (by simpa using r) fun b n2 H2 r e2 h2=>hq b n2 H2 r (e1.trans e2) h2)
 | false=>exact iteF (hq _ n1 H1 (by simpa using r) e1 h1)
theorem J3(h:DT X a t)(h':DW X (.BoolOp .Or (b::rest) pos) u):DW X (.BoolOp .Or (a::b::rest) pos) (dOr t u):=by
 obtain⟨ta,pa,h⟩:=h;obtain⟨tb,pb,h'⟩:=h';refine⟨_,ztH pa pb,fun C ρ σ H n Q R S hd hq=>?_⟩
 refine h C ρ σ H n _ _ S hd fun b n1 H1 r e1 h1=>?_
 cases b with
 | false=>exact iteF (h' C ρ σ H1 n1 Q R (S.on e1 h1) (by simpa using r) fun b n2 H2 r e2 h2=>hq b n2 H2 r (e1.trans e2) h2)
 | true=>exact iteT (hq _ n1 H1 (by simpa using r) e1 h1)
theorem J9(h:DT X a t):DT X (.UnaryOp .Not a pos) (dNot t):=by
 obtain⟨ta,pa,h⟩:=h;refine⟨_,zqC pa,fun C ρ σ H n Q R S hd hq=>?_⟩
 exact h C ρ σ H n _ _ S hd fun b n1 H1 r e1 h1=>hq _ n1 H1 r e1 h1
def bolD:PyData->(Bool->Prop)->Prop
 | .bool b,R=>R b
 | _,_=>False
def zpN(da db:DTE):DTE:=fun ρ n R=>da ρ n fun t n1=>bolD t fun b=>if b=true then db ρ n1 R else R (.bool false) n1
def dOrV(da db:DTE):DTE:=fun ρ n R=>da ρ n fun t n1=>bolD t fun b=>if b=true then R (.bool true) n1 else db ρ n1 R
def zpM(da:DTE):DTE:=fun ρ n R=>da ρ n fun t n1=>bolD t fun b=>R (.bool (!b)) n1
theorem QF{op}(h:DE X a d):DE X (.BoolOp op [a] pos) d:=by
 obtain⟨ta,pa,h⟩:=h;exact⟨_,zqM pa,h⟩
theorem Qt(h:DE X a da)(h':DE X (.BoolOp .And (b::rest) pos) db):DE X (.BoolOp .And (a::b::rest) pos) (zpN da db):=by
 obtain⟨ta,pa,h⟩:=h;obtain⟨tb,pb,h'⟩:=h';refine⟨_,zqU pa pb,fun C ρ σ H n Q R S hd hq=>?_⟩
 refine h C ρ σ H n _ _ S hd fun t n1 v H1 r e1 h1 q1=>?_
 cases t with
 | bool b =>
  cases q1;refine⟨b,rfl,?_⟩;cases b with
  | true=>exact iteT (h' C ρ σ H1 n1 Q R (S.on e1 h1) (by simpa[bolD] using r) fun t n2 v H2 r e2 h2 q2=>hq t n2 v H2 r (e1.trans e2) h2 q2)
  | false=>exact iteF (hq _ n1 _ H1 (by simpa[bolD] using r) e1 h1 (.bl _))
 | _=>exact r.elim
theorem zoe(h:DE X a da)(h':DE X (.BoolOp .Or (b::rest) pos) db):DE X (.BoolOp .Or (a::b::rest) pos) (dOrV da db):=by
 obtain⟨ta,pa,h⟩:=h;obtain⟨tb,pb,h'⟩:=h';refine⟨_,ztK pa pb,fun C ρ σ H n Q R S hd hq=>?_⟩
 refine h C ρ σ H n _ _ S hd fun t n1 v H1 r e1 h1 q1=>?_
 cases t with
 | bool b =>
  cases q1;refine⟨b,rfl,?_⟩;cases b with
  | false=>exact iteF (h' C ρ σ H1 n1 Q R (S.on e1 h1) (by simpa[bolD] using r) fun t n2 v H2 r e2 h2 q2=>hq t n2 v H2 r (e1.trans e2) h2 q2)
  | true=>exact iteT (hq _ n1 _ H1 (by simpa[bolD] using r) e1 h1 (.bl _))
 | _=>exact r.elim
theorem zl3(h:DE X a da):DE X (.UnaryOp .Not a pos) (zpM da):=by
 obtain⟨ta,pa,h⟩:=h;refine⟨_,zqN pa,fun C ρ σ H n Q R S hd hq=>?_⟩
 refine h C ρ σ H n _ _ S hd fun t n1 v H1 r e1 h1 q1=>?_
 cases t with
 | bool b =>
  cases q1;exact⟨b,rfl,hq _ n1 _ H1 r e1 h1 (.bl _)⟩
 | _=>exact r.elim
def dNil:DTA:=fun _ n R=>R [] n
def Qq(d:DTE)(ds:DTA):DTA:=fun ρ n R=>d ρ n fun t n1=>ds ρ n1 fun ts n2=>R (t::ts) n2
theorem Je:DB X [] dNil:=⟨_,Us,fun C ρ σ H n Q R S h hq=>hq [] n [] H h ExtE.refl S.hnd .nil rfl⟩
theorem Jb{ds:DTA}(h:DE X e d)(hr:DB X es ds)(hs:starEach (e::es) X.env=(false,eval e X.env)::starEach es X.env):DB X (e::es) (Qq d ds):=by
 obtain⟨ta,pa,h⟩:=h;obtain⟨tb,pb,hr⟩:=hr;refine⟨_,QZ pa pb hs,fun C ρ σ H n Q R S hd hq=>?_⟩
 refine h C ρ σ H n _ _ S hd fun t n1 v H1 r e1 h1 q1=>?_
 refine hr C ρ σ H1 n1 _ _ (S.on e1 h1) r fun ts n2 vs H2 r2 e2 h2 q2 l2=>?_
 exact hq _ n2 _ H2 r2 (e1.trans e2) h2 (.cons (e2.rep S.hx q1) q2) (by simp[l2])
def Zb(K:qF)(hd:Option Addr)(O:Addr->Prop)(H:Hp):List V->List PyData->Prop:=Paired (RepT K hd O H)
def DBL(X:Cx)(es:List Expr)(d:DTA):Prop:=∃ta,PB X es ta/\∀(C:Ctx) (ρ:En) (σ:St) (H:Hp) (n:Nat) (Q:List V->Hp->Prop) (R:List PyData->Nat->Prop),Stt X.K C ρ σ H n->d ρ n R ->
 (∀ts n' vs H',R ts n'->ExtE C.hd H H'->Hn C.hd H' n'->Zb X.K C.hd (Own C ρ σ) H' vs ts->ts.length=es.length->Q vs H')->ta σ H Q
theorem Jq:DBL X [] dNil:=⟨_,Us,fun C ρ σ H n Q R S h hq=>hq [] n [] H h ExtE.refl S.hnd .nil rfl⟩
theorem Jj{ds:DTA}(h:DL X e d)(hr:DBL X es ds)(hs:starEach (e::es) X.env=(false,eval e X.env)::starEach es X.env):DBL X (e::es) (Qq d ds):=by
 obtain⟨ta,pa,h⟩:=h;obtain⟨tb,pb,hr⟩:=hr;refine⟨_,QZ pa pb hs,fun C ρ σ H n Q R S hd hq=>?_⟩
 refine h C ρ σ H n _ _ S hd fun t n1 v H1 r e1 h1 q1=>?_
 refine hr C ρ σ H1 n1 _ _ (S.on e1 h1) r fun ts n2 vs H2 r2 e2 h2 q2 l2=>?_
 exact hq _ n2 _ H2 r2 (e1.trans e2) h2 (.cons (e2.repT S.hx q1) q2) (by simp[l2])
def dTup(ds:DTA):DTE:=fun ρ n R=>ds ρ n fun ts n1=>R (.tuple ts) n1
theorem Ju{x1:Nat}{ds:DTA}(h:DB X es ds)(hl:es.length<=sizeLine:=by decide):DE X (.Tuple es x1 pos) (dTup ds):=by
 obtain⟨ta,pa,h⟩:=h;refine⟨_,zoP pa,fun C ρ σ H n Q R S hd hq=>?_⟩
 refine h C ρ σ H n _ _ S hd fun ts n1 vs H1 r e1 h1 q1 l1=>⟨by rw[q1.length,l1];exact hl,fun p hp=>?_⟩
 have S1:=S.on e1 h1;exact hq _ n1 _ _ r (e1.trans (ExtE.new hp)) (h1.same (Qb hp)) (.newT (S1.free hp) hp q1)
theorem Qg{ds:DTA}(h:DB X es ds)(hl:es.length<=sizeLine:=by decide):DN X (.List es pos) ds:=by
 obtain⟨ta,pa,h⟩:=h;refine⟨_,zk_ pa,fun C ρ σ H n Q R S hd hq=>?_⟩
 refine h C ρ σ H n _ _ S hd fun ts n1 vs H1 r e1 h1 q1 l1=>⟨by rw[q1.length,l1];exact hl,fun p hp=>?_⟩
 have S1:=S.on e1 h1;have hp0:H p=none:=by
  cases z:H p with
  | none=>rfl
  | some o =>
   by_cases y:C.hd=some p
   ·obtain⟨d,m,t,q,_⟩:=h1 p y;rw[hp]at q;cases q
   ·rw[e1 p o z y]at hp;cases hp
 refine hq ts n1 p vs _ r (e1.trans (ExtE.new hp)) (h1.same (Qb hp)) hp0 JQ ?_;refine q1.mono (fun b o hb z=>z.elim id fun z=>?_) fun b o _ hb=>Qb hp b o hb
 subst z;rw[hp]at hb;cases hb
end
section
variable{X:Cx}{a b c e:Expr}{es rest:List Expr}{d da db dc:DTE}{ds:DTA}{pos p:Pos}{k:Nat}{x:Str}
abbrev GC:=List PyData->(PyData->Prop)->Prop
def Zo(g:GC)(ds:DTA):DTE:=fun ρ n R=>ds ρ n fun ts n1=>g ts fun z=>R z n1
def GpC(X:Cx)(r:List V->Hp->VK->Prop)(g:GC):Prop:=∀(hd:Option Addr) (O:Addr->Prop) (H:Hp) (xs:List V) (ts:qD) (Q:VK) (R:PyData->Prop),(∀p,O p->H p≠none)->Zb X.K hd O H xs ts->g ts R ->
 (∀z v H',R z->Same H H'->Rep X.K hd O H' v z->Q v H')->r xs H Q
theorem Jw{id:String}{r:List V->Hp->VK->Prop}{g:GC}(hc:JU X (.builtin id) r)(hgp:GpC X r g)(hm:X.mg x=none)(hv:bootBuiltins x=some (.builtin id))(h:DBL X (e::es) ds)(hg:Gl X x:=by rfl)(hn:x ≠ "__name__":=by decide) (hdb:(x == ("__debug__":Str))=false:=by decide) :
  DE X (.Call (.Name x p) (e::es) [] pos) (Zo g ds):=by
 obtain⟨ta,pa,h⟩:=h;refine⟨_,Z2 hc hm hv pa hg hn hdb,fun C ρ σ H n Q R S hd hq=>?_⟩
 refine h C ρ σ H n _ _ S hd fun ts n1 vs H1 r1 e1 h1 q1 _=>?_
 have S1:=S.on e1 h1;exact hgp C.hd (Own C ρ σ) H1 vs ts Q _ (fun p=>S1.dom) q1 r1 fun z u H' rz sm rp=>hq z n1 u H' rz (e1.trans sm.ext) (h1.same sm) rp
theorem UN{T:String}{r:List V->Hp->VK->Prop}{g:GC}(hc:JU X (.type T) r)(hgp:GpC X r g)(hm:X.mg x=none)(hv:bootBuiltins x=some (.type T))(h:DBL X (e::es) ds)(hg:Gl X x:=by rfl)(hn:x ≠ "__name__":=by decide) (hdb:(x == ("__debug__":Str))=false:=by decide) :
  DE X (.Call (.Name x p) (e::es) [] pos) (Zo g ds):=by
 obtain⟨ta,pa,h⟩:=h;refine⟨_,zqR hc hm hv pa hg hn hdb,fun C ρ σ H n Q R S hd hq=>?_⟩
 refine h C ρ σ H n _ _ S hd fun ts n1 vs H1 r1 e1 h1 q1 _=>?_
 have S1:=S.on e1 h1;exact hgp C.hd (Own C ρ σ) H1 vs ts Q _ (fun p=>S1.dom) q1 r1 fun z u H' rz sm rp=>hq z n1 u H' rz (e1.trans sm.ext) (h1.same sm) rp
theorem QC{K:qF}{hd:Option Addr}{O:Addr->Prop}{H:Hp}{xs:List V}{t:PyData}(h:Zb K hd O H xs [t]):∃v,xs=[v]/\RepT K hd O H v t:=by
 cases h with
 | cons h r=>cases r;exact⟨_,rfl,h⟩
theorem znY{K:qF}{hd:Option Addr}{O:Addr->Prop}{H:Hp}{xs:List V}{t u:PyData}(h:Zb K hd O H xs [t,u]):∃v w,xs=[v,w]/\RepT K hd O H v t/\RepT K hd O H w u:=by
 cases h with
 | cons h r=>cases r with|cons h2 r=>cases r;exact⟨_,_,rfl,h,h2⟩
def bLen:GC
 | [.list ts],R=>R (.int ts.length)
 | [.tuple ts],R=>R (.int ts.length)
 | [.str x],R=>x.length<=16777216/\R (.int x.length)
 | [.dict [(.none,.list ts)]],R=>R (.int ts.length)
 | _,_=>False
def rLen(K:qF):List V->Hp->VK->Prop:=fun xs H Q=>∃x n,xs=[x]/\LenV K x H n/\Q (.int n) H
theorem Qm:GpC X (rLen X.K) bLen:=by
 intro hd O H xs ts Q R dom rs h hq;unfold bLen at h;split at h
 ·obtain⟨v,rfl,r⟩:=QC rs;obtain⟨p,vs,rfl,h1,h2⟩:=r.lstI;exact⟨_,_,rfl,.inl ⟨vs,.of h1,rfl⟩,by rw[h2.length];exact hq _ _ H h (Same.refl H) (.int _)⟩
 ·obtain⟨v,rfl,r⟩:=QC rs;obtain⟨p,vs,rfl,h1,h2⟩:=r.tupI;exact⟨_,_,rfl,.inr ⟨vs,h1,rfl⟩,by rw[h2.length];exact hq _ _ H h (Same.refl H) (.int _)⟩
 ·obtain⟨v,rfl,r⟩:=QC rs;rw[r.strI];exact⟨_,_,rfl,⟨h.1,rfl⟩,hq _ _ H h.2 (Same.refl H) (.int _)⟩
 ·rename_i ts;obtain⟨v,rfl,r⟩:=QC rs;have r:=r.rep (by intro _ z;cases z)
  generalize e:(PyData.dict [(PyData.none,PyData.list ts)])=t at r;cases r with
  | scr h1 o =>
   simp only[SCR,PyData.dict.injEq,List.cons.injEq,Prod.mk.injEq,PyData.list.injEq,true_and,and_true]at e;subst e;exact⟨_,_,rfl,.inl ⟨_,.inl h1,rfl⟩,by simpa using hq _ _ H h (Same.refl H) (.int _)⟩
  | scrS h1 =>
   simp only[SCR,PyData.dict.injEq,List.cons.injEq,Prod.mk.injEq,PyData.list.injEq,true_and,and_true]at e;subst e;exact⟨_,_,rfl,.inl ⟨_,h1 H,rfl⟩,by simpa using hq _ _ H h (Same.refl H) (.int _)⟩
  | hand _=>simp[HAND]at e
  | dct _ _=>cases e
  | dcK _ _ _ e'=>cases e;exact(dict_noK e').elim
  | dcT _ _ _ e'=>cases e;exact(dict_noT e').elim
  | _=>cases e
 ·exact h.elim
def bMin:GC
 | [.int i,.int j],R=>R (.int (if j<i then j else i))
 | _,_=>False
def bMax:GC
 | [.int i,.int j],R=>R (.int (if j > i then j else i))
 | _,_=>False
theorem Uo:GpC X (fun xs H Q=>∃i j,xs=[.int i,.int j]/\Q (.int (if j<i then j else i)) H) bMin:=by
 intro hd O H xs ts Q R dom rs h hq;unfold bMin at h;split at h
 ·obtain⟨v,w,rfl,r1,r2⟩:=znY rs;rw[r1.intI,r2.intI];exact⟨_,_,rfl,hq _ _ H h (Same.refl H) (.int _)⟩
 ·exact h.elim
theorem Um:GpC X (fun xs H Q=>∃i j,xs=[.int i,.int j]/\Q (.int (if j > i then j else i)) H) bMax:=by
 intro hd O H xs ts Q R dom rs h hq;unfold bMax at h;split at h
 ·obtain⟨v,w,rfl,r1,r2⟩:=znY rs;rw[r1.intI,r2.intI];exact⟨_,_,rfl,hq _ _ H h (Same.refl H) (.int _)⟩
 ·exact h.elim
def bInt:GC
 | [.int i],R=>R (.int i)
 | [.bool k],R=>R (.int (if k then 1 else 0))
 | _,_=>False
theorem zn_:GpC X (fun xs H Q=>(∃i,xs=[.int i]/\Q (.int i) H)\/∃k,xs=[.bl k]/\Q (.int (if k then 1 else 0)) H) bInt:=by
 intro hd O H xs ts Q R dom rs h hq;unfold bInt at h;split at h
 ·obtain⟨v,rfl,r1⟩:=QC rs;rw[r1.intI];exact .inl ⟨_,rfl,hq _ _ H h (Same.refl H) (.int _)⟩
 ·obtain⟨v,rfl,r1⟩:=QC rs;rw[r1.blI];exact .inr ⟨_,rfl,hq _ _ H h (Same.refl H) (.int _)⟩
 ·exact h.elim
def bAll:GC
 | [.list ts],R=>∃bs:List Bool,ts=bs.map PyData.bool/\R (.bool (bs.all id))
 | _,_=>False
theorem zfA{K:qF}{hd:Option Addr}{O:Addr->Prop}{H:Hp}:∀{ns:List Bool}{vs:List V},Reps K hd O H vs (ns.map PyData.bool)->vs=ns.map V.bl
 | [],_,h=>by cases h;rfl
 | n::ns,_,h=>by
  cases h with
  | cons h r=>rw[h.blI,zfA r];rfl
theorem U5:GpC X (fun xs H Q=>∃(a:Addr) (bs:List Bool),xs=[.ref a]/\SqL X.K H a (bs.map V.bl)/\Q (.bl (bs.all id)) H) bAll:=by
 intro hd O H xs ts Q R dom rs h hq;unfold bAll at h;split at h
 ·obtain⟨bs,rfl,h⟩:=h;obtain⟨v,rfl,r1⟩:=QC rs;obtain⟨p,vs,rfl,h1,h2⟩:=r1.lstI;rw[zfA h2]at h1;exact⟨p,bs,rfl,.of h1,hq _ _ H h (Same.refl H) (.bl _)⟩
 ·exact h.elim
def Zm:GC
 | [.list ts],R=>R (.tuple ts)
 | [.tuple ts],R=>R (.tuple ts)
 | _,_=>False
theorem ZD:GpC X (fun xs H Q=>∃p ys,xs=[.ref p]/\((SqL X.K H p ys/\∀l,H l=none->Q (.ref l) (upd H l (.tup ys)))\/(SqT X.K H p ys/\Q (.ref p) H))) Zm:=by
 intro hd O H xs ts Q R dom rs h hq;unfold Zm at h;split at h
 ·obtain⟨v,rfl,r1⟩:=QC rs;obtain⟨p,vs,rfl,h1,h2⟩:=r1.lstI;refine⟨p,vs,rfl,.inl ⟨.of h1,fun l hl=>?_⟩⟩
  exact hq _ _ _ h (Qb hl) (.newT (fun z=>dom l z hl) hl h2)
 ·obtain⟨v,rfl,r1⟩:=QC rs;obtain⟨p,vs,rfl,h1,h2⟩:=r1.tupI;exact⟨p,vs,rfl,.inr ⟨h1,hq _ _ H h (Same.refl H) (r1.rep (by intro _ z;cases z))⟩⟩
 ·exact h.elim
def YQ:PyData->(List PyData->Prop)->Prop
 | .list ts,R=>R ts
 | .tuple ts,R=>R ts
 | _,_=>False
def tyN:PyData->Option String
 | .none=>some "NoneType"
 | .bool _=>some "bool"
 | .int _=>some "int"
 | .str _=>some "str"
 | .list _=>some "list"
 | .tuple _=>some "tuple"
 | .dict []=>some "dict"
 | .dict _=>none
def rIsi(K:qF):List V->Hp->VK->Prop:=fun xs H Q=>∃x hd O t T y b,xs=[x,.ty T]/\RepT K hd O H x t/\tyN t=some y/\kitB y T=some b/\Q (.bl b) H
theorem zmh:JU X (.builtin "isinstance") (rIsi X.K):=by
 intro pins s σ H xs us Q I r h;obtain⟨x,hd,O,t,T,y,b,rfl,rp,ty,e,q⟩:=h;cases r with
 | cons r1 r2 =>
  cases r2 with
  | cons r3 r4 =>
   cases r4;cases(show _=Value.type T from r3)
   have fin:∀y',tyN t=some y'->y'=y:=fun y' h=>Option.some.inj (h.symm.trans ty)
   have go:Ty H x y->wpAny (model X.prog X.w) X.A (call (.builtin "isinstance") [_,Value.type T]) (EP X pins σ Q) X.xe s:=fun ty=>zlK I r1 ty.of ((YO X.K y T).trans e) fun tk=>⟨.bl b,H,I.tok tk,rfl,q⟩
   rcases rp with rp|⟨a,vs,ds,rfl,rfl,h3,h4,_⟩|⟨a,zs,ep,ks,rfl,rfl,h3,h4,_⟩
   ·cases rp with
    | non=>cases ty;exact go .non
    | bl b=>cases ty;exact go (.bl b)
    | int i=>cases ty;exact go (.int i)
    | str i=>cases ty;exact go (.str i)
    | tup h o r=>cases ty;exact go (.tup h)
    | lst h o r=>cases ty;exact go (.lst h)
    | @dct a ep h o =>
      cases ty;cases(show _=Value.ref a from r1)
      obtain⟨⟨_,_,_,ob,es,g1,g2,_⟩,_⟩:=I.hok a _ h;exact PySem.W.kia_one PySem.W.kitx_dict I.kIn ⟨ob,g1,g2.1⟩ ((YO X.K "dict" T).trans e) (fun z=>nomatch z) fun tk=>⟨.bl b,H,I.tok tk,rfl,q⟩
    | @dcK a kvs ep ks ps h o r e' =>
     cases ps with
     | nil =>
      cases ty;cases(show _=Value.ref a from r1)
      obtain⟨⟨_,_,_,ob,es,g1,g2,_⟩,_⟩:=I.hok a _ h;exact PySem.W.kia_one PySem.W.kitx_dict I.kIn ⟨ob,g1,g2.1⟩ ((YO X.K "dict" T).trans e) (fun z=>nomatch z) fun tk=>⟨.bl b,H,I.tok tk,rfl,q⟩
     | cons _ _=>simp[tyN]at ty
    | @dcT a zs ep ks ps h o r e' =>
     cases ps with
     | nil =>
      cases ty;cases(show _=Value.ref a from r1)
      obtain⟨⟨_,_,_,ob,es,g1,g2,_⟩,_⟩:=I.hok a _ h;exact PySem.W.kia_one PySem.W.kitx_dict I.kIn ⟨ob,g1,g2.1⟩ ((YO X.K "dict" T).trans e) (fun z=>nomatch z) fun tk=>⟨.bl b,H,I.tok tk,rfl,q⟩
     | cons _ _=>simp[tyN]at ty
    | hand h=>simp[HAND,tyN]at ty
    | scr h o=>simp[SCR,tyN]at ty
    | scrS h=>simp[SCR,tyN]at ty
    | @tupS a vs ds h r =>
     cases ty;cases(show _=Value.ref a from r1)
     obtain⟨o,its,n,hk,hc,_⟩:=h;exact PySem.W.kia_one PySem.W.kitx_tuple I.kIn ⟨o,I.kIn a o hk,hc⟩ ((YO X.K "tuple" T).trans e) (fun z=>nomatch z) fun tk=>⟨.bl b,H,I.tok tk,rfl,q⟩
   ·cases ty;exact go (.lst h3)
   ·cases ks with
    | nil =>
     cases ty;cases(show _=Value.ref a from r1)
     obtain⟨⟨_,_,_,ob,es,g1,g2,_⟩,_⟩:=I.hok a _ h3;exact PySem.W.kia_one PySem.W.kitx_dict I.kIn ⟨ob,g1,g2.1⟩ ((YO X.K "dict" T).trans e) (fun z=>nomatch z) fun tk=>⟨.bl b,H,I.tok tk,rfl,q⟩
    | cons _ _=>simp[tyN,Js]at ty
end
section
variable{X:Cx}{a b c e:Expr}{es rest:List Expr}{d da db dc:DTE}{ds:DTA}{pos p:Pos}{k:Nat}{x:Str}
theorem Reps.atI{K:qF}{hd:Option Addr}{O:Addr->Prop}{H:Hp}{vs ts}{i:Int}{t}(r:Reps K hd O H vs ts)(h:L2.atI ts i=some t):∃v,L2.atI vs i=some v/\Rep K hd O H v t:=by
 unfold L2.atI at h ⊢;rw[r.length];cases e:ixN ts.length i with
 | none=>rw[e]at h;cases h
 | some j =>
  rw[e]at h;have h:ts[j]?=some t:=h;exact r.get h
def oIx:G2
 | .list ts,.int i,R=>match atI ts i with|some t=>R t|none=>False
 | .tuple ts,.int i,R=>match atI ts i with|some t=>R t|none=>False
 | .str x,.int i,R=>x.length<=16777216/\match atI x.cps.toList i with|some c=>R (.str ⟨#[c]⟩)|none=>False
 | _,_,_=>False
theorem zur:Gp2 X (rIx X.K) oIx:=by
 intro hd O H x y t u Q R dom rx ry h hq;unfold oIx at h;split at h
 ·rename_i ts i;obtain⟨p,vs,rfl,h1,h2⟩:=rx.lstI;split at h
  ·rename_i t et;obtain⟨v,ev,rv⟩:=h2.atI et;exact .inl ⟨p,vs,i,v,rfl,ry.intI,.of h1,ev,hq _ _ H h (Same.refl H) rv⟩
  ·exact h.elim
 ·rename_i ts i;obtain⟨p,vs,rfl,h1,h2⟩:=rx.tupI;split at h
  ·rename_i t et;obtain⟨v,ev,rv⟩:=h2.atI et;exact .inr (.inl ⟨p,vs,i,v,rfl,ry.intI,h1,ev,hq _ _ H h (Same.refl H) rv⟩)
  ·exact h.elim
 ·rename_i z i;obtain⟨h0,h⟩:=h;split at h
  ·rename_i c ec;exact .inr (.inr ⟨z,i,c,rx.strI,ry.intI,h0,ec,hq _ _ H h (Same.refl H) (.str _)⟩)
  ·exact h.elim
 ·exact h.elim
theorem Jn(ha:DL X a da)(hb:DL X b db)(hs:zmp b:=by intro _ _;rfl):DE X (.Subscript a b pos) (dOp oIx da db):=by
 obtain⟨ta,pa,ha⟩:=ha;obtain⟨tb,pb,hb⟩:=hb;refine⟨_,Uf zrC pa pb hs,fun C ρ σ H n Q R S h hq=>?_⟩
 refine two ha hb S h fun x y n2 v w H2 r2 e S2 q1 q2=>?_
 exact zur C.hd (Own C ρ σ) H2 v w x y Q _ (fun p=>S2.dom) q1 q2 r2 fun z u H' rz sm rp=>hq z n2 u H' rz (e.trans sm.ext) (S2.hnd.same sm) rp
def dNeg(d:DTE):DTE:=fun ρ n R=>d ρ n fun t n1=>match t with|.int i=>R (.int (-i)) n1|_=>False
theorem Yj(h:DE X a da):DE X (.UnaryOp .USub a pos) (dNeg da):=by
 obtain⟨ta,pa,h⟩:=h;refine⟨_,ztI zp2 pa,fun C ρ σ H n Q R S hd hq=>?_⟩
 refine h C ρ σ H n _ _ S hd fun t n1 v H1 r e1 h1 q1=>?_
 cases t with
 | int i=>rw[q1.intI];exact⟨i,rfl,hq _ n1 _ H1 r e1 h1 (.int _)⟩
 | _=>exact r.elim
def zqx(K:qF):R2:=fun x y H Q=>∃a b xs ys,x=.ref a/\y=.ref b/\SqT K H a xs/\SqT K H b ys/\xs.length+ys.length<=sizeLine /\
 (xs=[]->Q (.ref b) H)/\(ys=[]->Q (.ref a) H)/\∀p,H p=none->Q (.ref p) (upd H p (.tup (xs++ys)))
theorem zoY:OpR X (binaryOp .Add) (zqx X.K):=by
 intro pins s σ H x y v u Q I rx ry h;obtain⟨a,b,xs,ys,rfl,rfl,ha,hb,hz,q0,q1,q2⟩:=h
 by_cases hx:xs=[]
 ·cases rx;cases ry;obtain⟨its,r1,p1,_⟩:=I.tuple ha;obtain⟨its2,r2,p2,_⟩:=I.tuple hb;have hv:its=[]:=r1.nil_iff.mpr hx;obtain⟨⟨cls,dd,data,sl⟩,ho,hc,n,hd⟩:=id p1;obtain⟨⟨cls2,dd2,data2,sl2⟩,ho2,hc2,n2,hd2⟩:=id p2;simp only at hc hd hc2 hd2;subst hc hd hc2 hd2;exact concat_meets ⟨_,ho,rfl⟩ ⟨_,ho2,rfl⟩ noFill_tuple_add seq_tuple_add PySem.F.slot_tuple_add PySem.F.entry_tuple_add (PySem.F.args_tuple_add_2 _ _)
   (tuple_addW0 a b its.toArray its2.toArray n n2 dd dd2 sl sl2 (by simp[hv])) ⟨ho,ho2,⟨.ref b,H,I,rfl,q0 hx⟩⟩
 ·exact zoX pins s σ H _ _ v u Q I rx ry ⟨a,b,xs,ys,rfl,rfl,ha,hb,hx,hz,q1,fun _=>q2⟩
def oAdd:G2
 | .int i,.int j,R=>R (.int (i+j))
 | .str i,.str j,R=>i.length+j.length<=16777216/\R (.str (i++j))
 | .tuple xs,.tuple ys,R=>xs.length+ys.length<=16777216/\R (.tuple (xs++ys))
 | _,_,_=>False
def zqy(K:qF):R2:=fun x y H Q=>(rI0 fun i j=>.int (i+j)) x y H Q\/(∃i j,x=.str i/\y=.str j/\i.length+j.length<=sizeLine/\Q (.str (i++j)) H)\/zqx K x y H Q
theorem zoZ:OpR X (binaryOp .Add) (zqy X.K):=OpR.or Q5 (OpR.or zjV zoY)
theorem zr2:Gp2 X (zqy X.K) oAdd:=by
 intro hd O H x y t u Q R dom rx ry h hq;unfold oAdd at h;split at h
 ·exact .inl ⟨_,_,rx.intI,ry.intI,hq _ _ H h (Same.refl H) (.int _)⟩
 ·exact .inr (.inl ⟨_,_,rx.strI,ry.strI,h.1,hq _ _ H h.2 (Same.refl H) (.str _)⟩)
 ·rename_i xs ys;obtain⟨p,vs,rfl,h1,h2⟩:=rx.tupI;obtain⟨q,ws,rfl,h3,h4⟩:=ry.tupI;refine .inr (.inr ⟨p,q,vs,ws,rfl,rfl,h1,h3,by rw[h2.length,h4.length];exact h.1,fun e=>?_,fun e=>?_,fun l hl=>?_⟩)
  ·subst e;cases h2;exact hq _ _ H h.2 (Same.refl H) (ry.rep (by intro _ z;cases z))
  ·subst e;cases h4;exact hq _ _ H h.2 (Same.refl H) (by rw[List.append_nil];exact rx.rep (by intro _ z;cases z))
  ·exact hq _ _ _ h.2 (Qb hl) (.newT (fun z=>dom l z hl) hl (h2.append h4))
 ·exact h.elim
theorem JC(ha:DL X a da)(hb:DL X b db):DE X (.BinOp a .Add b pos) (dOp oAdd da db):=QO zoZ zr2 ha hb
theorem ziO{C:Ctx}{H H1:Hp}{n1:Nat}{p:Addr}(e1:ExtE C.hd H H1)(h1:Hn C.hd H1 n1)(hp:H1 p=none):H p=none:=by
 cases z:H p with
 | none=>rfl
 | some o =>
  by_cases y:C.hd=some p
  ·obtain⟨d,m,t,q,_⟩:=h1 p y;rw[hp]at q;cases q
  ·rw[e1 p o z y]at hp;cases hp
def oMul:=gI CMul fun i j=>i*j
theorem zl4(ha:DL X a da)(hb:DL X b db):DE X (.BinOp a .Mult b pos) (dOp oMul da db):=QO Q6 gp_I ha hb
abbrev GD:=List PyData->Nat->(PyData->Nat->Prop)->Prop
def spD(K:qF)(m:Nat)(g:GD):Sp:=fun vs H Q _=>∃(hd:Option Addr) (O:Addr->Prop) (ts:qD) (n:Nat) (R:qN),Reps K hd O H vs ts/\Hn hd H n/\(∀a,O a->MutO (H a))/\(∀a,hd=some a->O a)/\ts.length=m/\g ts n R /\
 ∀t n' v H',R t n'->ExtE hd H H'->Hn hd H' n'->Rep K hd O H' v t->Q v H'
def dFn(g:GD)(ds:DTA):DTE:=fun ρ n R=>ds ρ n fun ts n1=>g ts n1 R
theorem zuv{st:Stmt}{ps:List Str}{f:Addr}{fd:FuncData}{g:GD}{m:Nat}(D:Bd.Def X.K X.mg x st ps f fd)(G:FnOk X.prog X.w X.K X.mg X.base CX0 k f fd ps (spD X.K m g))(hr:Room k X.A)(h:DB X (e::es) ds)(hm:(e::es).length=m:=by rfl)(hg:Gl X x:=by rfl)
  (hdb:(x == ("__debug__":Str))=false:=by decide):DE X (.Call (.Name x p) (e::es) [] pos) (dFn g ds):=by
 obtain⟨ta,pa,h⟩:=h;refine⟨_,Bd.zm2 D G hr pa hg hdb,fun C ρ σ H n Q R S hd hq=>?_⟩
 refine h C ρ σ H n _ _ S hd fun ts n1 vs H1 r1 e1 h1 q1 l1=>?_
 have S1:=S.on e1 h1;rw[List.append_nil];exact⟨C.hd,Own C ρ σ,ts,n1,R,q1,h1,fun a=>S1.lst,fun a z=>.inl (S.hx a z),l1.trans hm,r1,fun t n' v H' rt e2 h2 q2=>hq t n' v H' rt (e1.trans e2) h2 q2⟩
def dFnL(g:GD)(ds:DTA):DTE:=fun ρ n R=>ds ρ n fun ts n1=>g ts n1 fun t n2=>JY t=true/\R t n2
theorem zsg{st:Stmt}{ps:List Str}{f:Addr}{fd:FuncData}{g:GD}{m:Nat}(D:Bd.Def X.K X.mg x st ps f fd)(G:FnOk X.prog X.w X.K X.mg X.base CX0 k f fd ps (spD X.K m g))(hr:Room k X.A)(h:DBL X (e::es) ds)(hm:(e::es).length=m:=by rfl)(hg:Gl X x:=by rfl)
  (hdb:(x == ("__debug__":Str))=false:=by decide):DE X (.Call (.Name x p) (e::es) [] pos) (dFnL g ds):=by
 obtain⟨ta,pa,h⟩:=h;refine⟨_,Bd.zm2 D G hr pa hg hdb,fun C ρ σ H n Q R S hd hq=>?_⟩
 refine h C ρ σ H n _ _ S hd fun ts n1 vs H1 r1 e1 h1 q1 l1=>?_
 have S1:=S.on e1 h1;rw[List.append_nil];have lend:∀{vs ts},Zb X.K C.hd (Own C ρ σ) H1 vs ts->Reps X.K C.hd (fun a=>C.hd=some a) H1 vs ts:=by
  intro vs ts q;induction q with
  | nil=>exact .nil
  | cons r _ ih =>
   refine .cons ?_ ih;rcases r with r|⟨a,ws,us,rfl,rfl,h3,h4,h5⟩|⟨a,zs,ep,ks,rfl,rfl,h3,h4,h5⟩
   ·exact r.mono (fun a o _ z=>.inl (S.hx a z)) fun _ _ _ z=>z
   ·exact .lst h3 h5 (h4.mono (fun a o _ z=>.inl (S.hx a z)) fun _ _ _ z=>z)
   ·exact .dcT h3 h5 (h4.mono (fun a o _ z=>.inl (S.hx a z)) fun _ _ _ z=>z) rfl
 refine⟨C.hd,fun a=>C.hd=some a,ts,n1,_,lend q1,h1,fun a z=>?_,fun a z=>z,l1.trans hm,r1,fun t n' v H' rt e2 h2 q2=>?_⟩
 ·obtain⟨d,m,t,q,_⟩:=h1 a z;exact .inl ⟨_,q⟩
 ·exact hq t n' v H' rt.2 (e1.trans e2) h2 (q2.up (fun a z=>(S1.on e2 h2).lst z) rt.1)
end
def Keep(C:Ctx)(ρ:En)(σ:St)(H:Hp)(ρ':En)(σ':St)(H':Hp):Prop:=∀a o,H a=some o->C.hd≠some a->¬OwnS ρ σ a->H' a=some o/\¬OwnS ρ' σ' a
structure DEnds where
 nx:En->Nat->Prop
 rt:PyData->Nat->Prop
 bk:En->Nat->Prop:=fun _ _=>False
 ct:En->Nat->Prop:=fun _ _=>False
abbrev DTS:=DEnds->En->Nat->Prop
structure Good(K:qF)(C:Ctx)(ρ:En)(σ:St)(H:Hp)(D:Ends)(D':DEnds):Prop where
 nx:∀ρ' σ' H' n',D'.nx ρ' n'->Stt K C ρ' σ' H' n'->Keep C ρ σ H ρ' σ' H'->D.nx σ' H'
 rt:∀t n' v H',D'.rt t n'->Hn C.hd H' n'->(∀a o,H a=some o->C.hd≠some a->¬OwnS ρ σ a->H' a=some o)->Rep K C.hd C.ext H' v t->D.rt v H'
 bk:∀ρ' σ' H' n',D'.bk ρ' n'->Stt K C ρ' σ' H' n'->Keep C ρ σ H ρ' σ' H'->D.bk σ' H'
 ct:∀ρ' σ' H' n',D'.ct ρ' n'->Stt K C ρ' σ' H' n'->Keep C ρ σ H ρ' σ' H'->D.ct σ' H'
def DS(X:Cx)(st:Stmt)(d:DTS):Prop:=∃ts,PS X st ts/\∀(C:Ctx) (ρ:En) (σ:St) (H:Hp) (n:Nat) (D:Ends) (D':DEnds),Stt X.K C ρ σ H n->d D' ρ n->Good X.K C ρ σ H D D'->ts D σ H
def DSs(X:Cx)(st:List Stmt)(d:DTS):Prop:=∃ts,PSs X st ts/\∀(C:Ctx) (ρ:En) (σ:St) (H:Hp) (n:Nat) (D:Ends) (D':DEnds),Stt X.K C ρ σ H n->d D' ρ n->Good X.K C ρ σ H D D'->ts D σ H
section
variable{K:qF}{C:Ctx}{ρ ρ1 ρ2:En}{σ σ1 σ2:St}{H H1 H2:Hp}{n n1:Nat}{D:Ends}{D':DEnds}
theorem Keep.refl:Keep C ρ σ H ρ σ H:=fun _ _ h _ no=>⟨h,no⟩
theorem Keep.trans(k1:Keep C ρ σ H ρ1 σ1 H1)(k2:Keep C ρ1 σ1 H1 ρ2 σ2 H2):Keep C ρ σ H ρ2 σ2 H2:=fun a o h nh no=>by
 obtain⟨h1,no1⟩:=k1 a o h nh no;exact k2 a o h1 nh no1
theorem ExtE.keep(e:ExtE C.hd H H1):Keep C ρ σ H ρ σ H1:=fun a o h nh no=>⟨e a o h nh,no⟩
theorem Good.on(g:Good K C ρ σ H D D')(k:Keep C ρ σ H ρ1 σ1 H1):Good K C ρ1 σ1 H1 D D' where
 nx:=fun ρ' σ' H' n' h S k'=>g.nx ρ' σ' H' n' h S (k.trans k')
 rt:=fun t n' v H' h hn k' r=>g.rt t n' v H' h hn (fun a o ha nh no=>by
  obtain⟨h1,no1⟩:=k a o ha nh no;exact k' a o h1 nh no1) r
 bk:=fun ρ' σ' H' n' h S k'=>g.bk ρ' σ' H' n' h S (k.trans k')
 ct:=fun ρ' σ' H' n' h S k'=>g.ct ρ' σ' H' n' h S (k.trans k')
theorem Keep.rep(k:Keep C ρ σ H ρ1 σ1 H1)(hx:∀a,C.hd=some a->C.ext a){v t}(r:Rep K C.hd (Own C ρ σ) H v t):Rep K C.hd (Own C ρ1 σ1) H1 v t :=
 Rep.mono (O:=Own C ρ σ) (fun a o h z=>by
  by_cases q:Own C ρ σ a
  ·exact q
  ·rcases z with z|z
   ·exact .inl z
   ·exact absurd z (k a o h (fun y=>q (.inl (hx a y))) fun y=>q (.inr y)).2) (fun a o no h=>(k a o h (fun y=>no (.inl (hx a y))) fun y=>no (.inr y)).1) r
theorem Keep.reps(k:Keep C ρ σ H ρ1 σ1 H1)(hx:∀a,C.hd=some a->C.ext a){v t}(r:Reps K C.hd (Own C ρ σ) H v t):Reps K C.hd (Own C ρ1 σ1) H1 v t :=
 Reps.mono (O:=Own C ρ σ) (fun a o h z=>by
  by_cases q:Own C ρ σ a
  ·exact q
  ·rcases z with z|z
   ·exact .inl z
   ·exact absurd z (k a o h (fun y=>q (.inl (hx a y))) fun y=>q (.inr y)).2) (fun a o no h=>(k a o h (fun y=>no (.inl (hx a y))) fun y=>no (.inr y)).1) r
theorem JF{α:Type}{l:List (Option α)}{i j:Nat}{v w:α}(h:(l.set i (some v))[j]?=some (some w)):(i=j/\v=w)\/(i≠j/\l[j]?=some (some w)):=by
 by_cases e:i=j
 ·subst e;rw[List.getElem?_set]at h;simp only[↓reduceIte]at h;split at h
  ·simp at h;exact .inl ⟨rfl,h⟩
  ·cases h
 ·rw[List.getElem?_set_ne e]at h;exact .inr ⟨e,h⟩
theorem YC{α:Type}{l:List (Option α)}{i j:Nat}{v w:α}(e:i≠j)(h:l[j]?=some (some w)):(l.set i (some v))[j]?=some (some w):=by
 rw[List.getElem?_set_ne e];exact h
theorem znU{α:Type}{l:List (Option α)}{i j:Nat}{v:α}{w:Option α}(h:(l.set i (some v))[j]?=some w)(e:i=j):i<l.length:=by
 subst e;rw[List.getElem?_set]at h;simp only[↓reduceIte]at h;split at h
 ·assumption
 ·cases h
theorem znV{α:Type}{l:List (Option α)}{i:Nat}{v:α}(h:i<l.length):(l.set i (some v))[i]?=some (some v):=by
 rw[List.getElem?_set];simp[h]
theorem zjg{i:Nat}{t:PyData}{v:V}{a:Addr}(h:OwnS (ρ.set i (some (.val t))) (σ.set i (some v)) a):OwnS ρ σ a:=by
 obtain⟨j,c,m,h1,h2⟩:=h;rcases JF h1 with⟨_,z⟩|⟨e,h1⟩
 ·subst z;cases m
 ·rcases JF h2 with⟨z,_⟩|⟨_,h2⟩
  ·exact absurd z e
  ·exact⟨j,c,m,h1,h2⟩
def QD(K:qF)(hd:Option Addr)(O:Addr->Prop)(H:Hp)(a:Addr):Cell->Prop
 | .val _=>False
 | .rdo _=>False
 | .own ts=>∃vs,H a=some (.lst vs)/\Reps K hd O H vs ts
 | .dct ks=>∃kvs,H a=some (.dK kvs)/\UW K hd O H kvs ks
 | .dtt ks=>∃zs ep,H a=some (ZDO a zs ep)/\RepsT K hd O H zs ks
theorem QD.mono{hd:Option Addr}{O O':Addr->Prop}{H H':Hp}{a:Addr}{c:Cell}(x:QD K hd O H a c)(ho:∀a o,H a=some o->O' a->O a)(hh:∀a o,¬O a->H a=some o->H' a=some o)(ha:∀o,H a=some o->H' a=some o):QD K hd O' H' a c:=by
 cases c with
 | val _=>exact x.elim
 | rdo _=>exact x.elim
 | own ts=>obtain⟨vs,h1,h2⟩:=x;exact⟨vs,ha _ h1,h2.mono ho hh⟩
 | dct ks=>obtain⟨vs,h1,h2⟩:=x;exact⟨vs,ha _ h1,h2.mono ho hh⟩
 | dtt ks=>obtain⟨vs,ep,h1,h2⟩:=x;exact⟨vs,ep,ha _ h1,h2.mono ho hh⟩
theorem QD.some{hd:Option Addr}{O:Addr->Prop}{H:Hp}{a:Addr}{c:Cell}(x:QD K hd O H a c):∃o,H a=some o:=by
 cases c with
 | val _=>exact x.elim
 | rdo _=>exact x.elim
 | own ts=>obtain⟨vs,h1,h2⟩:=x;exact⟨_,h1⟩
 | dct ks=>obtain⟨vs,h1,h2⟩:=x;exact⟨_,h1⟩
 | dtt ks=>obtain⟨vs,ep,h1,h2⟩:=x;exact⟨_,h1⟩
theorem QD.mine{hd:Option Addr}{O:Addr->Prop}{H:Hp}{a:Addr}{c:Cell}(x:QD K hd O H a c):c.mine=true:=by
 cases c with
 | val _=>exact x.elim
 | rdo _=>exact x.elim
 | own ts=>rfl
 | dct ks=>rfl
 | dtt ks=>rfl
theorem Stt.cell(S:Stt K C ρ σ H n){i:Nat}{c:Cell}(m:c.mine=true)(h:ρ[i]?=some (some c)):∃a:Addr,σ[i]?=some (some (V.ref a))/\QD K C.hd (Own C ρ σ) H a c/\¬C.ext a:=by
 cases c with
 | val _=>cases m
 | rdo _=>cases m
 | own ts=>obtain⟨a,vs,h1,h2,h3,h4⟩:=S.own i ts h;exact⟨a,h1,⟨vs,h2,h3⟩,h4⟩
 | dct ks=>obtain⟨a,vs,h1,h2,h3,h4⟩:=S.dct i ks h;exact⟨a,h1,⟨vs,h2,h3⟩,h4⟩
 | dtt ks=>obtain⟨a,vs,ep,h1,h2,h3,h4⟩:=S.dtt i ks h;exact⟨a,h1,⟨vs,ep,h2,h3⟩,h4⟩
def zpV(K:qF)(C:Ctx)(ρ:En)(σ:St)(H:Hp):Prop:=∀(i:Nat) (ks:List (Key×PyData)),ρ[i]?=some (some (Cell.rdo ks))->∃a kvs,σ[i]?=some (some (V.ref a))/\H a=some (.dK kvs)/\UW K C.hd (Own C ρ σ) H kvs ks/\C.ext a/\C.hd≠some a
theorem Stt.mk'(len:ρ.length=σ.length)(val:∀(i:Nat) (d:PyData),ρ[i]?=some (some (Cell.val d))->∃v,σ[i]?=some (some v)/\Rep K C.hd (Own C ρ σ) H v d)
  (cell:∀(i:Nat) (c:Cell),c.mine=true->ρ[i]?=some (some c)->∃a:Addr,σ[i]?=some (some (V.ref a))/\QD K C.hd (Own C ρ σ) H a c/\¬C.ext a)
  (rdo:zpV K C ρ σ H) (dif:∀(i j:Nat) (c e:Cell) (a:Addr),c.mine=true->e.mine=true->ρ[i]?=some (some c)->ρ[j]?=some (some e)->σ[i]?=some (some (V.ref a))->σ[j]?=some (some (V.ref a))->i=j)
  (hnd:Hn C.hd H n) (ext:∀a,C.ext a->MutO (H a)) (hx:∀a,C.hd=some a->C.ext a):Stt K C ρ σ H n where
 len:=len
 val:=val
 own:=fun i ts h=>by obtain⟨a,h1,⟨vs,h2,h3⟩,h4⟩:=cell i _ rfl h;exact⟨a,vs,h1,h2,h3,h4⟩
 dct:=fun i ts h=>by obtain⟨a,h1,⟨vs,h2,h3⟩,h4⟩:=cell i _ rfl h;exact⟨a,vs,h1,h2,h3,h4⟩
 rdo:=rdo
 dtt:=fun i ts h=>by obtain⟨a,h1,⟨vs,ep,h2,h3⟩,h4⟩:=cell i _ rfl h;exact⟨a,vs,ep,h1,h2,h3,h4⟩
 dif:=dif
 hnd:=hnd
 ext:=ext
 hx:=hx
theorem Stt.put(S:Stt K C ρ σ H n){i:Nat}{t:PyData}{v:V}(r:Rep K C.hd (Own C ρ σ) H v t):Stt K C (ρ.set i (some (.val t))) (σ.set i (some v)) H n:=by
 have sub:∀a o,H a=some o->Own C (ρ.set i (some (.val t))) (σ.set i (some v)) a->Own C ρ σ a:=fun a o _ z=>z.elim .inl fun z=>.inr (zjg z)
 have mono:∀{w u},Rep K C.hd (Own C ρ σ) H w u->Rep K C.hd (Own C (ρ.set i (some (.val t))) (σ.set i (some v))) H w u:=fun q=>q.mono sub fun _ _ _ z=>z
 refine .mk' (by simp[S.len]) (fun j d h=>?_) (fun j c m h=>?_) (fun j ks h=>?_) (fun j k c e a m1 m2 h1 h2 h3 h4=>?_) S.hnd S.ext S.hx
 rotate_left 2
 ·rcases JF h with⟨_,z⟩|⟨e,h'⟩
  ·cases z
  ·obtain⟨a,kvs,q1,q2,q3,q4⟩:=S.rdo j ks h';exact⟨a,kvs,YC e q1,q2,q3.mono sub fun _ _ _ z=>z,q4⟩
 rotate_left 1
 ·rcases JF h with⟨e,z⟩|⟨e,h'⟩
  ·cases z;have:=znU h e;subst e;exact⟨v,znV (by rw[<- S.len];exact this),mono r⟩
  ·obtain⟨w,h1,h2⟩:=S.val j d h';exact⟨w,YC e h1,mono h2⟩
 ·rcases JF h with⟨e,z⟩|⟨e,h'⟩
  ·subst z;cases m
  ·obtain⟨a,h1,h2,h3⟩:=S.cell m h';exact⟨a,YC e h1,h2.mono sub (fun _ _ _ z=>z) fun _ z=>z,h3⟩
 ·rcases JF h1 with⟨e,z⟩|⟨e,h1'⟩
  ·subst z;cases m1
  ·rcases JF h2 with⟨e2,z⟩|⟨e2,h2'⟩
   ·subst z;cases m2
   ·rcases JF h3 with⟨z,_⟩|⟨_,h3'⟩
    ·exact absurd z e
    ·rcases JF h4 with⟨z,_⟩|⟨_,h4'⟩
     ·exact absurd z e2
     ·exact S.dif j k c _ a m1 m2 h1' h2' h3' h4'
theorem YZ{i:Nat}{t:PyData}{v:V}:Keep C ρ σ H (ρ.set i (some (.val t))) (σ.set i (some v)) H:=fun a o h _ no=>⟨h,fun z=>no (zjg z)⟩
theorem zjh{i:Nat}{c:Cell}{p a:Addr}(h:OwnS (ρ.set i (some c)) (σ.set i (some (.ref p))) a):OwnS ρ σ a\/a=p:=by
 obtain⟨j,ds,m,h1,h2⟩:=h;rcases JF h2 with⟨e,z⟩|⟨e,h2⟩
 ·cases z;exact .inr rfl
 ·rcases JF h1 with⟨z,_⟩|⟨_,h1⟩
  ·exact absurd z e
  ·exact .inl ⟨j,ds,m,h1,h2⟩
theorem Stt.putNew(S:Stt K C ρ σ H n){i:Nat}{c:Cell}{p:Addr}{H':Hp}(e:ExtE C.hd H H')(h:Hn C.hd H' n1)(hp:H p=none)(r:QD K C.hd (fun a=>Own C ρ σ a\/a=p) H' p c) :
  Stt K C (ρ.set i (some c)) (σ.set i (some (.ref p))) H' n1:=by
 have S':=S.on e h;have mc:=r.mine;have sub:∀a,Own C (ρ.set i (some c)) (σ.set i (some (.ref p))) a->Own C ρ σ a\/a=p:=fun a z=>z.elim (fun z=>.inl (.inl z)) fun z=>(zjh z).elim (fun z=>.inl (.inr z)) .inr
 have npx:¬C.ext p:=fun z=>S.dom (.inl z) hp
 have sb:∀a o,H a=some o->Own C (ρ.set i (some c)) (σ.set i (some (.ref p))) a->Own C ρ σ a:=fun a o ho z=>(sub a z).elim id fun z=>by subst z;rw[hp]at ho;cases ho
 have kp:∀a o,¬Own C ρ σ a->H a=some o->H' a=some o:=fun a o no ho=>e a o ho fun z=>no (.inl (S.hx a z))
 have notp:∀(j:Nat) (d:Cell),d.mine=true->ρ[j]?=some (some d)->σ[j]?≠some (some (V.ref p)):=fun j d m h1 h2=>by
  obtain⟨a,e1,e2,_⟩:=S.cell m h1;rw[h2]at e1;cases e1;obtain⟨o,e2⟩:=e2.some;rw[hp]at e2;cases e2
 refine .mk' (by simp[S.len]) (fun j d hj=>?_) (fun j d m hj=>?_) (fun j ks hj=>?_) (fun j k c1 c2 a m1 m2 h1 h2 h3 h4=>?_) h S'.ext S.hx
 rotate_left 2
 ·rcases JF hj with⟨_,z⟩|⟨e',h'⟩
  ·subst z;cases mc
  ·obtain⟨a,kvs,q1,q2,q3,q4,q5⟩:=S.rdo j ks h';exact⟨a,kvs,YC e' q1,e a _ q2 q5,q3.mono sb kp,q4,q5⟩
 rotate_left 1
 ·rcases JF hj with⟨_,z⟩|⟨e',h'⟩
  ·subst z;cases mc
  ·obtain⟨w,h1,h2⟩:=S.val j d h';exact⟨w,YC e' h1,h2.mono sb kp⟩
 ·rcases JF hj with⟨e',z⟩|⟨e',h'⟩
  ·subst z;have:=znU hj e';subst e';exact⟨p,znV (by rw[<- S.len];exact this),r.mono (fun a o _ z=>sub a z) (fun _ _ _ z=>z) fun _ z=>z,npx⟩
  ·obtain⟨a,h1,h2,h4⟩:=S.cell m h';exact⟨a,YC e' h1,h2.mono sb kp (fun o ho=>e a o ho fun z=>h4 (S.hx a z)),h4⟩
 ·rcases JF h3 with⟨e3,z3⟩|⟨e3,h3'⟩
  ·cases z3;rcases JF h4 with⟨e4,_⟩|⟨e4,h4'⟩
   ·rw[<- e3,<- e4]
   ·rcases JF h2 with⟨z,_⟩|⟨_,h2'⟩
    ·exact absurd z e4
    ·exact absurd h4' (notp k _ m2 h2')
  ·rcases JF h1 with⟨z,_⟩|⟨_,h1'⟩
   ·exact absurd z e3
   ·rcases JF h4 with⟨e4,z4⟩|⟨e4,h4'⟩
    ·cases z4;exact absurd h3' (notp j _ m1 h1')
    ·rcases JF h2 with⟨z,_⟩|⟨_,h2'⟩
     ·exact absurd z e4
     ·exact S.dif j k _ _ a m1 m2 h1' h2' h3' h4'
theorem Stt.putOwn(S:Stt K C ρ σ H n){i:Nat}{ts:qD}{p:Addr}{vs:List V}{H':Hp}(e:ExtE C.hd H H')(h:Hn C.hd H' n1)(hp:H p=none)(hp':H' p=some (.lst vs))(r:Reps K C.hd (fun a=>Own C ρ σ a\/a=p) H' vs ts) :
  Stt K C (ρ.set i (some (.own ts))) (σ.set i (some (.ref p))) H' n1:=S.putNew e h hp ⟨vs,hp',r⟩
theorem zeS{i:Nat}{c:Cell}{p:Addr}{H':Hp}(e:ExtE C.hd H H')(hp:H p=none):Keep C ρ σ H (ρ.set i (some c)) (σ.set i (some (.ref p))) H':=fun a o h nh no =>
 ⟨e a o h nh,fun z=>(zjh z).elim no fun z=>by subst z;rw[hp]at h;cases h⟩
theorem ziH{i:Nat}{ts:qD}{p:Addr}{H':Hp}(e:ExtE C.hd H H')(hp:H p=none):Keep C ρ σ H (ρ.set i (some (.own ts))) (σ.set i (some (.ref p))) H':=zeS e hp
theorem Stt.chgC(S:Stt K C ρ σ H n){i:Nat}{c c':Cell}{p:Addr}{o':HO}(m:c.mine=true)(m':c'.mine=true)(h1:ρ[i]?=some (some c))(h2:σ[i]?=some (some (.ref p)))
  (r:∀(O':Addr->Prop) (H':Hp),(∀a o,H a=some o->O' a->Own C ρ σ a)->(∀a o,¬Own C ρ σ a->H a=some o->H' a=some o)->H' p=some o'->QD K C.hd O' H' p c') :
  Stt K C (ρ.set i (some c')) σ (upd H p o') n/\Keep C ρ σ H (ρ.set i (some c')) σ (upd H p o'):=by
 have op:OwnS ρ σ p:=⟨i,c,m,h1,h2⟩;obtain⟨p',e1,hp,npx⟩:=S.cell m h1;rw[h2]at e1;cases e1;have own1:∀a,OwnS (ρ.set i (some c')) σ a->OwnS ρ σ a:=fun a ⟨j,d,md,q1,q2⟩=>by
  rcases JF q1 with⟨e,_⟩|⟨e,q1⟩
  ·subst e;rw[h2]at q2;cases q2;exact op
  ·exact⟨j,d,md,q1,q2⟩
 have sub:∀a o,H a=some o->Own C (ρ.set i (some c')) σ a->Own C ρ σ a:=fun a o _ z=>z.elim .inl fun z=>.inr (own1 a z)
 have kp:∀a o,¬Own C ρ σ a->H a=some o->upd H p o' a=some o:=fun a o no ho=>by rw[Jv (show a≠p from fun z=>no (by rw[z];exact .inr op))];exact ho
 have rd:zpV K C (ρ.set i (some c')) σ (upd H p o'):=fun j ks hj=>by
  rcases JF hj with⟨_,z⟩|⟨e',h'⟩
  ·subst z;cases m'
  ·obtain⟨a,kvs,q1,q2,q3,q4,q5⟩:=S.rdo j ks h';exact⟨a,kvs,q1,by rw[Jv (show a≠p from fun z=>npx (by rw[<- z];exact q4))];exact q2,q3.mono sub kp,q4,q5⟩
 refine⟨.mk' (by simp[S.len]) (fun j d hj=>?_) (fun j d md hj=>?_) rd (fun j k c1 c2 a m1 m2 q1 q2 q3 q4=>?_) (fun a ha=>?_) (fun a ha=>?_) S.hx,fun a o h nh no=>⟨by rw[Jv (show a≠p from fun z=>no (by rw[z];exact op))];exact h,fun z=>no (own1 a z)⟩⟩
 ·rcases JF hj with⟨_,z⟩|⟨e',h'⟩
  ·subst z;cases m'
  ·obtain⟨w,q1,q2⟩:=S.val j d h';exact⟨w,q1,q2.mono sub kp⟩
 ·rcases JF hj with⟨e',z⟩|⟨e',h'⟩
  ·subst z;subst e';exact⟨p,h2,r _ _ sub kp JQ,npx⟩
  ·obtain⟨a,q1,q2,q4⟩:=S.cell md h';have:a≠p:=fun z=>by subst z;exact e' (S.dif i j c d a m md h1 h' h2 q1)
   exact⟨a,q1,q2.mono sub kp (fun o ho=>by rw[Jv this];exact ho),q4⟩
 ·have get:∀(j:Nat) (d:Cell),d.mine=true->(ρ.set i (some c'))[j]?=some (some d)->∃d':Cell,d'.mine=true/\ρ[j]?=some (some d'):=fun j d md q=>by
   rcases JF q with⟨e,_⟩|⟨_,q⟩
   ·subst e;exact⟨_,m,h1⟩
   ·exact⟨_,md,q⟩
  obtain⟨d1,md1,g1⟩:=get j c1 m1 q1;obtain⟨d2,md2,g2⟩:=get k c2 m2 q2;exact S.dif j k d1 d2 a md1 md2 g1 g2 q3 q4
 ·obtain⟨d,m,t,q,rest⟩:=S.hnd a ha;exact⟨d,m,t,by rw[Jv (show a≠p from fun z=>npx (by rw[<- z];exact S.hx a ha))];exact q,rest⟩
 ·by_cases z:a=p
  ·subst z;exact absurd ha npx
  ·rw[Jv z];exact S.ext a ha
theorem Stt.chg(S:Stt K C ρ σ H n){i:Nat}{ts us:qD}{p:Addr}{ws:List V}(h1:ρ[i]?=some (some (.own ts)))(h2:σ[i]?=some (some (.ref p)))(r:Reps K C.hd (Own C ρ σ) H ws us) :
  Stt K C (ρ.set i (some (.own us))) σ (upd H p (.lst ws)) n/\Keep C ρ σ H (ρ.set i (some (.own us))) σ (upd H p (.lst ws)):=S.chgC rfl rfl h1 h2 fun _ _ a b hp=>⟨ws,hp,r.mono a b⟩
theorem Stt.freeze(S:Stt K C ρ σ H n){i:Nat}{ts:qD}(h1:ρ[i]?=some (some (.own ts))):Stt K C (ρ.set i (some (.val (.list ts)))) σ H n/\Keep C ρ σ H (ρ.set i (some (.val (.list ts)))) σ H:=by
 obtain⟨p,vs,h2,hp,hr,npx⟩:=S.own i ts h1;have own1:∀a,OwnS (ρ.set i (some (.val (.list ts)))) σ a->OwnS ρ σ a/\a≠p:=fun a ⟨j,ds,m,q1,q2⟩=>by
  rcases JF q1 with⟨_,z⟩|⟨e,q1⟩
  ·subst z;cases m
  ·exact⟨⟨j,ds,m,q1,q2⟩,fun z=>by subst z;exact e (S.dif i j (.own ts) ds a rfl m h1 q1 h2 q2)⟩
 have sub:∀a o,H a=some o->Own C (ρ.set i (some (.val (.list ts)))) σ a->Own C ρ σ a:=fun a o _ z=>z.elim .inl fun z=>.inr (own1 a z).1
 have rd:zpV K C (ρ.set i (some (.val (.list ts)))) σ H:=fun j ks hj=>by
  rcases JF hj with⟨_,z⟩|⟨e',h'⟩
  ·cases z
  ·obtain⟨a,kvs,q1,q2,q3,q4⟩:=S.rdo j ks h';exact⟨a,kvs,q1,q2,q3.mono sub fun _ _ _ z=>z,q4⟩
 refine⟨.mk' (by simp[S.len]) (fun j d hj=>?_) (fun j d m hj=>?_) rd (fun j k c1 c2 a m1 m2 q1 q2 q3 q4=>?_) S.hnd S.ext S.hx,fun a o h _ no=>⟨h,fun z=>no (own1 a z).1⟩⟩
 ·rcases JF hj with⟨e',z⟩|⟨e',h'⟩
  ·cases z;subst e';exact⟨.ref p,h2,.lst hp (fun z=>z.elim npx fun z=>(own1 p z).2 rfl) (hr.mono sub fun _ _ _ z=>z)⟩
  ·obtain⟨w,q1,q2⟩:=S.val j d h';exact⟨w,q1,q2.mono sub fun _ _ _ z=>z⟩
 ·rcases JF hj with⟨_,z⟩|⟨e',h'⟩
  ·subst z;cases m
  ·obtain⟨a,q1,q3,q4⟩:=S.cell m h';exact⟨a,q1,q3.mono sub (fun _ _ _ z=>z) fun _ z=>z,q4⟩
 ·rcases JF q1 with⟨_,z⟩|⟨_,g1⟩
  ·subst z;cases m1
  ·rcases JF q2 with⟨_,z⟩|⟨_,g2⟩
   ·subst z;cases m2
   ·exact S.dif j k _ _ a m1 m2 g1 g2 q3 q4
end
section
variable{X:Cx}{a b c e:Expr}{es rest:List Expr}{d da db dc:DTE}{ds:DTA}{dt:DTT}{t u:DTS}{st:Stmt}{sts sa sb:List Stmt}{pos p:Pos}{k:Nat}{x:Str}
def zou:DTS:=fun D ρ n=>D.nx ρ n
def sSeq(t u:DTS):DTS:=fun D ρ n=>t { D with nx:=u D } ρ n
theorem JH:DSs X [] zou:=⟨_,zib,fun C ρ σ H n D D' S h g=>g.nx ρ σ H n h S Keep.refl⟩
theorem Jg(h1:DS X st t)(h2:DSs X sts u):DSs X (st::sts) (sSeq t u):=by
 obtain⟨ta,pa,h1⟩:=h1;obtain⟨tb,pb,h2⟩:=h2;refine⟨_,QN pa pb,fun C ρ σ H n D D' S h g=>?_⟩
 exact h1 C ρ σ H n _ _ S h ⟨fun ρ' σ' H' n' hn S' k=>h2 C ρ' σ' H' n' D D' S' hn (g.on k),g.rt,g.bk,g.ct⟩
theorem Jf(h1:DS X st t):DSs X [st] t:=by
 obtain⟨ta,pa,h1⟩:=h1;exact⟨_,Zy pa,h1⟩
def Zv(i:Nat)(t:DTS):DTS:=fun D ρ n=>match ρ[i]? with|some (some (.own ts))=>t D (ρ.set i (some (.val (.list ts)))) n|_=>False
theorem Y8(i:Nat)(h1:DSs X sts t):DSs X sts (Zv i t):=by
 obtain⟨ta,pa,h1⟩:=h1;refine⟨_,pa,fun C ρ σ H n D D' S h g=>?_⟩
 unfold Zv at h;split at h
 ·rename_i ts et;obtain⟨S',kp⟩:=S.freeze et;exact h1 C _ σ H n D D' S' h (g.on kp)
 ·exact h.elim
def sRet(d:DTE):DTS:=fun D ρ n=>d ρ n fun t n'=>D.rt t n'
theorem Jk(h:DE X e d):DS X (.Return (some e) pos) (sRet d):=by
 obtain⟨ta,pa,h⟩:=h;refine⟨_,Zs pa,fun C ρ σ H n D D' S hd g=>?_⟩
 refine h C ρ σ H n _ _ S hd fun t n' v H' r e1 h1 q=>?_
 exact g.rt t n' v H' r h1 (fun a o ha nh _=>e1 a o ha nh) (q.mono (fun _ _ _ z=>.inl z) fun _ _ _ z=>z)
def sIf(c:DTT)(t u:DTS):DTS:=fun D ρ n=>c ρ n fun b n1=>if b=true then t D ρ n1 else u D ρ n1
theorem Jz(hc:DT X c dt)(h1:DSs X sa t)(h2:DSs X sb u):DS X (.If c sa sb pos) (sIf dt t u):=by
 obtain⟨tc,pc,hc⟩:=hc;obtain⟨ta,pa,h1⟩:=h1;obtain⟨tb,pb,h2⟩:=h2;refine⟨_,zoH pc pa pb,fun C ρ σ H n D D' S hd g=>?_⟩
 refine hc C ρ σ H n _ _ S hd fun b n1 H1 r e1 hn=>?_
 cases b with
 | true=>exact iteT (h1 C ρ σ H1 n1 D D' (S.on e1 hn) (by simpa using r) (g.on e1.keep))
 | false=>exact iteF (h2 C ρ σ H1 n1 D D' (S.on e1 hn) (by simpa using r) (g.on e1.keep))
def sSet(i:Nat)(d:DTE):DTS:=fun D ρ n=>d ρ n fun t n'=>D.nx (ρ.set i (some (.val t))) n'
theorem Jr{i:Nat}{pos':Pos}(hN:X.N.Nodup)(hi:X.N[i]?=some x)(hx:Loc X.env.scope x)(h:DE X e d)(hs:swapsWith e (some (.Name x pos')) pos.line X.env=pure false:=by rfl)(hf:X.fn x=true\/X.env.scope.names.lookup x=some .local:=by walk_at "F") :
  DS X (.Assign [.Name x pos'] e pos) (sSet i d):=by
 obtain⟨ta,pa,h⟩:=h;refine⟨_,QV hN hi hx pa hs hf,fun C ρ σ H n D D' S hd g=>?_⟩
 refine h C ρ σ H n _ _ S hd fun t n' v H' r e1 h1 q=>?_
 exact g.nx _ _ H' n' r ((S.on e1 h1).put q) (e1.keep.trans YZ)
def sOwn(i:Nat)(d:DTA):DTS:=fun D ρ n=>d ρ n fun ts n'=>D.nx (ρ.set i (some (.own ts))) n'
theorem YM{i:Nat}{pos':Pos}(hN:X.N.Nodup)(hi:X.N[i]?=some x)(hx:Loc X.env.scope x)(h:DN X e ds)(hs:swapsWith e (some (.Name x pos')) pos.line X.env=pure false:=by rfl)(hf:X.fn x=true\/X.env.scope.names.lookup x=some .local:=by walk_at "F") :
  DS X (.Assign [.Name x pos'] e pos) (sOwn i ds):=by
 obtain⟨ta,pa,h⟩:=h;refine⟨_,QV hN hi hx pa hs hf,fun C ρ σ H n D D' S hd g=>?_⟩
 refine h C ρ σ H n _ _ S hd fun ts n' p vs H' r e1 h1 hp hp' q=>?_
 exact g.nx _ _ H' n' r (S.putOwn e1 h1 hp hp' q) (ziH e1 hp)
def sAug(i:Nat)(f:Int->Int->Int)(d:DTE):DTS:=fun D ρ n=>match ρ[i]? with
 | some (some (.val (.int j)))=>d ρ n fun t n'=>match t with|.int k=>D.nx (ρ.set i (some (.val (.int (f j k))))) n'|_=>False
 | _=>False
theorem zsb{i:Nat}{op:Operator}{f:Int->Int->Int}{pos':Pos}(hN:X.N.Nodup)(hi:X.N[i]?=some x)(hx:Loc X.env.scope x)(h:DE X e d)(ho:PIp X op (ipI f))(hf:X.fn x=true\/X.env.scope.names.lookup x=some .local:=by walk_at "F") :
  DS X (.AugAssign (.Name x pos') op e pos) (sAug i f d):=by
 obtain⟨ta,pa,h⟩:=h;refine⟨_,zqF hN hi hx pa ho hf,fun C ρ σ H n D D' S hd g=>?_⟩
 unfold sAug at hd;split at hd
 ·rename_i j ej;obtain⟨v,h1,h2⟩:=S.val i _ ej;refine⟨v,h1,h C ρ σ H n _ _ S hd fun t n' w H' r e1 hn q=>?_⟩
  cases t with
  | int k=>exact⟨j,k,h2.intI,q.intI,g.nx _ _ H' n' r ((S.on e1 hn).put (.int _)) (e1.keep.trans YZ)⟩
  | _=>exact r.elim
 ·exact hd.elim
abbrev DTG:=PyData->En->(En->Prop)->Prop
abbrev DTGs:=List PyData->En->(En->Prop)->Prop
def DG(X:Cx)(tg:Expr)(is:List Nat)(d:DTG):Prop:=(∀t ρ R,d t ρ R->∃ρ',R ρ')/\∃g,PG X tg g/\∀(C:Ctx) (ρ:En) (σ:St) (H:Hp) (n:Nat) (v:V) (t:PyData) (Q:St->Hp->Prop) (R:En->Prop),Stt X.K C ρ σ H n->Rep X.K C.hd (Own C ρ σ) H v t->d t ρ R ->
 (∀ρ' σ',R ρ'->Stt X.K C ρ' σ' H n->Keep C ρ σ H ρ' σ' H->(∀j,j∉is->σ'[j]?=σ[j]?)->σ'.length=σ.length->Q σ' H)->g v σ H Q
def DGs(X:Cx)(tgs:List Expr)(is:List Nat)(d:DTGs):Prop:=(∀ts ρ R,d ts ρ R->ts.length=tgs.length)/\(∀t ρ R,d t ρ R->∃ρ',R ρ')/\∃g,PGs X tgs g/\∀(C:Ctx) (ρ:En) (σ:St) (H:Hp) (n:Nat) (vs:List V) (ts:qD) (Q:St->Hp->Prop) (R:En->Prop),Stt X.K C ρ σ H n->Reps X.K C.hd (Own C ρ σ) H vs ts->d ts ρ R ->
 (∀ρ' σ',R ρ'->Stt X.K C ρ' σ' H n->Keep C ρ σ H ρ' σ' H->(∀j,j∉is->σ'[j]?=σ[j]?)->σ'.length=σ.length->Q σ' H)->g vs σ H Q
def Qi(i:Nat):DTG:=fun t ρ R=>R (ρ.set i (some (.val t)))
def UX:DTGs:=fun ts ρ R=>match ts with|[]=>R ρ|_=>False
def QW(d:DTG)(ds:DTGs):DTGs:=fun ts ρ R=>match ts with|t::ts=>d t ρ fun ρ'=>ds ts ρ' R|[]=>False
def UY(ds:DTGs):DTG:=fun t ρ R=>match t with|.tuple ts=>ds ts ρ R|_=>False
theorem Jp{i:Nat}(hN:X.N.Nodup)(hi:X.N[i]?=some x)(hx:Loc X.env.scope x)(hf:X.fn x=true\/X.env.scope.names.lookup x=some .local:=by walk_at "F"):DG X (.Name x pos) [i] (Qi i):=by
 refine⟨fun t ρ R h=>⟨_,h⟩,_,zoN hN hi hx hf,fun C ρ σ H n v t Q R S r hd hq=>?_⟩
 exact hq _ _ hd (S.put r) YZ (fun j hj=>by rw[List.getElem?_set_ne (fun z=>hj (by simp[z]))]) (by simp)
theorem Qd:DGs X [] [] UX:=by
 refine⟨fun ts ρ R h=>?_,fun ts ρ R h=>?_,_,zoM,fun C ρ σ H n vs ts Q R S r hd hq=>?_⟩
 ·cases ts with
  | nil=>rfl
  | cons _ _=>exact h.elim
 ·cases ts with
  | nil=>exact⟨_,h⟩
  | cons _ _=>exact h.elim
 ·cases r with
  | nil=>exact⟨rfl,hq _ _ hd S Keep.refl (fun _ _=>rfl) rfl⟩
  | cons _ _=>exact hd.elim
theorem JB{is js:List Nat}{g:DTG}{gs:DTGs}(h1:DG X e is g)(h2:DGs X es js gs)(hs:(assignEach (e::es) X.env).map (·.2)=assign e X.env::(assignEach es X.env).map (·.2):=by rfl):DGs X (e::es) (is++js) (QW g gs):=by
 obtain⟨w1,ga,pa,h1⟩:=h1;obtain⟨l2,w2,gb,pb,h2⟩:=h2;refine⟨fun ts ρ R h=>?_,fun ts ρ R h=>?_,_,zmZ pa pb hs,fun C ρ σ H n vs ts Q R S r hd hq=>?_⟩
 ·cases ts with
  | nil=>exact h.elim
  | cons t ts =>
   obtain⟨ρ',h'⟩:=w1 t ρ _ h;simp[l2 ts ρ' R h']
 ·cases ts with
  | nil=>exact h.elim
  | cons t ts =>
   obtain⟨ρ',h'⟩:=w1 t ρ _ h;exact w2 ts ρ' R h'
 ·cases r with
  | nil=>exact hd.elim
  | cons r rs =>
   refine⟨_,_,rfl,h1 C ρ σ H n _ _ _ _ S r hd fun ρ' σ' hr S' kp hj hl=>?_⟩
   refine h2 C ρ' σ' H n _ _ _ _ S' (kp.reps S.hx rs) hr fun ρ2 σ2 hr2 S2 kp2 hj2 hl2=>?_
   exact hq ρ2 σ2 hr2 S2 (kp.trans kp2) (fun j hj'=>by rw[hj2 j (fun z=>hj' (by simp[z])),hj j (fun z=>hj' (by simp[z]))]) (hl2.trans hl)
theorem J8{is:List Nat}{gs:DTGs}{k:Nat}(hc:X.calm=true)(h:DGs X es is gs)(hn:(assignEach es X.env).length=es.length:=by rfl)(hst:(assignEach es X.env).findIdx? (·.1)=none:=by rfl):DG X (.Tuple es k pos) is (UY gs):=by
 obtain⟨l,w,g,pg,h⟩:=h;refine⟨fun t ρ R h=>?_,_,zqK hc pg hn hst,fun C ρ σ H n v t Q R S r hd hq=>?_⟩
 ·cases t with
  | tuple ts=>exact w ts ρ R h
  | _=>exact h.elim
 ·cases t with
  | tuple ts =>
   obtain⟨p,vs,rfl,h1,h2⟩:=r.tupI;exact⟨p,vs,rfl,h1,by rw[h2.length];exact l ts ρ R hd,h C ρ σ H n vs ts Q R S h2 hd hq⟩
  | _=>exact hd.elim
def sAsg(d:DTE)(g:DTG):DTS:=fun D ρ n=>d ρ n fun t n'=>g t ρ fun ρ'=>D.nx ρ' n'
theorem QS{tg:Expr}{is:List Nat}{g:DTG}(h:DE X e d)(hg:DG X tg is g)(hs:swapsWithSole [tg] e pos.line X.env=pure false:=by rfl)(hw:swappedStores [tg] e X.env=pure none:=by rfl)
  (h1:(assignEach [tg] X.env).map (·.2)=[assign tg X.env]:=by rfl):DS X (.Assign [tg] e pos) (sAsg d g):=by
 obtain⟨ta,pa,h⟩:=h;obtain⟨w,gb,pb,hg⟩:=hg;refine⟨_,Z7 pa pb hs hw h1,fun C ρ σ H n D D' S hd gd=>?_⟩
 refine h C ρ σ H n _ _ S hd fun t n' v H' r e1 hn q=>?_
 exact hg C ρ σ H' n' v t _ _ (S.on e1 hn) q r fun ρ' σ' hr S' kp _ _=>gd.nx ρ' σ' H' n' hr S' (e1.keep.trans kp)
def sPar(i j:Nat)(ds:DTA):DTS:=fun D ρ n=>ds ρ n fun ts n'=>match ts with|[t,u]=>D.nx ((ρ.set i (some (.val t))).set j (some (.val u))) n'|_=>False
theorem zlW{i j:Nat}{x y:Str}{px py pt:Pos}{kt k2 pt2}(hc:X.calm=true)(hN:X.N.Nodup)(hi:X.N[i]?=some x)(hj:X.N[j]?=some y)(hij:i≠j)
  (hx:X.env.scope.names.lookup x=some .local) (hy:X.env.scope.names.lookup y=some .local) (h:DB X [a,b] ds)
  (hw:swappedStores [.Tuple [.Name x px,.Name y py] kt pt] (.Tuple [a,b] k2 pt2) X.env=pure (some [x,y]):=by rfl)
  (hs:swapsWithSole [.Tuple [.Name x px,.Name y py] kt pt] (.Tuple [a,b] k2 pt2) pos.line X.env=pure false:=by rfl) :
  DS X (.Assign [.Tuple [.Name x px,.Name y py] kt pt] (.Tuple [a,b] k2 pt2) pos) (sPar i j ds):=by
 obtain⟨ta,pa,h⟩:=h;refine⟨_,zqD hc hN hi hj hij hx hy pa.pa hw hs,fun C ρ σ H n D D' S hd g=>?_⟩
 refine h C ρ σ H n _ _ S hd fun ts n1 vs H1 r e1 h1 q1 _=>?_
 cases q1 with
 | nil=>exact r.elim
 | cons r1 q1 =>
  cases q1 with
  | nil=>exact r.elim
  | cons r2 q1 =>
   cases q1 with
   | cons _ _=>exact r.elim
   | nil =>
    have S1:=(S.on e1 h1).put (i:=i) r1;exact⟨_,_,rfl,g.nx _ _ H1 n1 r (S1.put (Keep.rep YZ S.hx r2)) ((e1.keep.trans YZ).trans YZ)⟩
def Zu(i:Nat)(d:DTE):DTS:=fun D ρ n=>match ρ[i]? with
 | some (some (.own ts))=>d ρ n fun t n'=>ts.length<16777216/\D.nx (ρ.set i (some (.own (ts++[t])))) n'
 | _=>False
theorem UC(i:Nat){p1 p2 p3:Pos}(h:DE X e d)(hN:X.N[i]?=some x:=by rfl)(hv:Vis X.env.scope x:=by walk_at "V")(hd:(x == ("__debug__":Str))=false:=by decide)
  (hcd:(x == ("__classdict__":Str))=false:=by decide) (hs:swapsWith (.Call (.Attribute (.Name x p1) "append" p2) [e] [] p3) none pos.line X.env=pure false:=by rfl)
  (hbase:attributeBase (.Name x p1) "append" X.env (eval (.Name x p1) X.env)=eval (.Name x p1) X.env:=by rfl)
  (hfew:((backTo p3 (starEach [e] X.env)).all (fun x=>!x.1)&&(backToKw p3 (keywordEach [] X.env)).all (fun x=>x.1.isSome)
   && decide ([e].length+([]:List Keyword).length+(if ([]:List Keyword).isEmpty then 0 else 1)<30))=true:=by rfl)
  (hline:(p2.endLine == p3.line)=true:=by rfl) (hst:starEach [e] X.env=[(false,eval e X.env)]:=by rfl):DS X (.Expr (.Call (.Attribute (.Name x p1) "append" p2) [e] [] p3) pos) (Zu i d):=by
 obtain⟨ta,pa,h⟩:=h;refine⟨_,zk2 (zqT PySem.F.plainAttrs_list PySem.F.slot_list_append PySem.F.type_list_append zeF (QU hN hv hd hcd) (Q7 pa Ur hst) hbase hfew hline hst rfl) hs,fun C ρ σ H n D D' S hd g=>?_⟩
 unfold Zu at hd;split at hd
 ·rename_i ts et;obtain⟨p,vs,h1,h2,h3,h4⟩:=S.own i ts et;refine⟨.ref p,h1,.inl ⟨rfl,_,SqL.of h2⟩,?_⟩;refine h C ρ σ H n _ _ S hd fun t n' v H' r e1 hn q=>?_
  have S1:=S.on e1 hn;obtain⟨p',vs',h1',h2',h3',h4'⟩:=S1.own i ts et;rw[h1]at h1';cases h1';refine⟨p,vs',v,rfl,rfl,h2',by rw[h3'.length];exact r.1,?_⟩
  obtain⟨S2,k2⟩:=S1.chg et h1 (h3'.append (.cons q .nil));exact g.nx _ _ _ n' r.2 S2 (e1.keep.trans k2)
 ·exact hd.elim
def sPut(i:Nat)(dj d:DTE):DTS:=fun D ρ n=>d ρ n fun t n1=>match ρ[i]? with
 | some (some (.own ts))=>dj ρ n1 fun j n2=>match j with|.int j=>(match ixN ts.length j with|some k=>D.nx (ρ.set i (some (.own (ts.set k t)))) n2|none=>False)|_=>False
 | _=>False
theorem zsa(i:Nat){dj:DTE}{p1 p2:Pos}(hj:DE X b dj)(h:DE X e d)(hN:X.N[i]?=some x:=by rfl)(hv:Vis X.env.scope x:=by walk_at "V")(hd:(x == ("__debug__":Str))=false:=by decide)
  (hcd:(x == ("__classdict__":Str))=false:=by decide) (hs:swapsWithSole [.Subscript (.Name x p1) b p2] e pos.line X.env=pure false:=by rfl) (hw:swappedStores [.Subscript (.Name x p1) b p2] e X.env=pure none:=by rfl)
  (h1:(assignEach [.Subscript (.Name x p1) b p2] X.env).map (·.2)=[assign (.Subscript (.Name x p1) b p2) X.env]:=by rfl)
  (hsub:PG X (.Subscript (.Name x p1) b p2)=PG X (.Subscript (.Name x p1) b p2):=rfl) (pg:∀{to ti:TE} {t:TSet},PE X (.Name x p1) to->PE X b ti->PSet X t->PG X (.Subscript (.Name x p1) b p2) (L2.gSub to ti t):=by intro _ _ _ h1 h2 h3;exact pg_sub h1 h2 h3) :
  DS X (.Assign [.Subscript (.Name x p1) b p2] e pos) (sPut i dj d):=by
 obtain⟨ta,pa,h⟩:=h;obtain⟨tj,pj,hj⟩:=hj;refine⟨_,Z7 pa (pg (QU hN hv hd hcd) pj set_list) hs hw h1,fun C ρ σ H n D D' S hd g=>?_⟩
 refine h C ρ σ H n _ _ S hd fun t n1 v H1 r e1 hn q=>?_
 have S1:=S.on e1 hn;split at r
 ·rename_i ts et;obtain⟨p,vs,h1,h2,h3,h4⟩:=S1.own i ts et;refine⟨.ref p,h1,hj C ρ σ H1 n1 _ _ S1 r fun j n2 w H2 r2 e2 hn2 q2=>?_⟩
  have S2:=S1.on e2 hn2;cases j with
  | int j =>
   have r2:(match ixN ts.length j with|some k=>D'.nx (ρ.set i (some (.own (ts.set k t)))) n2|none=>False):=r2
   cases ek:ixN ts.length j with
   | none=>rw[ek]at r2;exact r2.elim
   | some m =>
    rw[ek]at r2;obtain⟨p',vs',h1',h2',h3',h4'⟩:=S2.own i ts et;rw[h1]at h1';cases h1';refine⟨p,vs',j,m,rfl,q2.intI,h2',by rw[h3'.length];exact ek,?_⟩
    obtain⟨S3,k3⟩:=S2.chg et h1 (h3'.set (e2.rep S.hx q) m);exact g.nx _ _ _ n2 r2 S3 ((e1.trans e2).keep.trans k3)
  | _=>exact r2.elim
 ·exact r.elim
def zkQ(c:DTT)(tb:DTS):DTS:=fun D ρ n=>∃W:Nat->En->Nat->Prop,(∃m,W m ρ n)/\∀m ρ n,W m ρ n ->
 c ρ n fun b n1=>if b=true then tb { D with nx:=fun ρ' n'=>∃m',m'<m/\W m' ρ' n',ct:=fun ρ' n'=>∃m',m'<m/\W m' ρ' n',bk:=D.nx } ρ n1 else D.nx ρ n1
theorem zgG(hp:PassesOwn (model X.prog X.w) X.A X.env X.xe)(hc:DT X c dt)(hb:DSs X sa t):DS X (.While c sa [] pos) (zkQ dt t):=by
 obtain⟨tc,pc,hc⟩:=hc;obtain⟨tb,pb,hb⟩:=hb;refine⟨_,zmW hp pc pb,fun C ρ σ H n D D' S hd g=>?_⟩
 obtain⟨W,⟨m0,w0⟩,turn⟩:=hd;refine⟨fun m σ1 H1=>∃ρ1 n1,W m ρ1 n1/\Stt X.K C ρ1 σ1 H1 n1/\Keep C ρ σ H ρ1 σ1 H1,⟨m0,ρ,n,w0,S,Keep.refl⟩,?_⟩
 rintro m σ1 H1 ⟨ρ1,n1,w1,S1,k1⟩;refine hc C ρ1 σ1 H1 n1 _ _ S1 (turn m ρ1 n1 w1) fun b n2 H2 r e2 hn2=>?_
 have S2:=S1.on e2 hn2;have k2:=k1.trans e2.keep;cases b with
 | true =>
  refine iteT ⟨fun σ' H'=>∃m',m'<m/\∃ρ' n',W m' ρ' n'/\Stt X.K C ρ' σ' H' n'/\Keep C ρ σ H ρ' σ' H',fun σ' H' ⟨m',hm,z⟩=>⟨m',hm,z⟩,?_⟩
  refine hb C ρ1 σ1 H2 n2 _ { D' with nx:=fun ρ' n'=>∃m',m'<m/\W m' ρ' n',ct:=fun ρ' n'=>∃m',m'<m/\W m' ρ' n',bk:=D'.nx } S2 (by simpa using r) ⟨?_,fun t n' v H' h hn k' r=>g.rt t n' v H' h hn (fun a o ha nh no=>?_) r,?_,?_⟩
  ·rintro ρ' σ' H' n' ⟨m',hm,w'⟩ S' k';exact⟨m',hm,ρ',n',w',S',k2.trans k'⟩
  ·obtain⟨q1,q2⟩:=k2 a o ha nh no;exact k' a o q1 nh q2
  ·intro ρ' σ' H' n' h' S' k';exact g.nx ρ' σ' H' n' h' S' (k2.trans k')
  ·rintro ρ' σ' H' n' ⟨m',hm,w'⟩ S' k';exact⟨m',hm,ρ',n',w',S',k2.trans k'⟩
 | false=>exact iteF (g.nx ρ1 σ1 H2 n2 (by simpa using r) S2 k2)
end
def ItOk(K:qF)(hd:Option Addr)(P O:Addr->Prop)(H:Hp)(J:It)(ts:qD):Prop:=∀(O2:Addr->Prop) (H2:Hp),(∀a o,H a=some o->P a->H2 a=some o)->(∀a o,H a=some o->¬O a->¬O2 a)->(∀a,O2 a->H2 a≠none) ->
 (∀i t,ts[i]?=some t->J.go i H2/\∀x H3,J.yld i H2 x H3->Same H2 H3/\Rep K hd O2 H3 x t)/\J.stop ts.length H2
def DI(X:Cx)(tg iter:Expr)(d:DTA):Prop:=∃wi,PI X tg iter wi/\∀(C:Ctx) (ρ:En) (σ:St) (H:Hp) (n:Nat) (Q:It->Hp->Prop) (R:List PyData->Nat->Prop),Stt X.K C ρ σ H n->d ρ n R ->
 (∀ts n' J H',R ts n'->ExtE C.hd H H'->Hn C.hd H' n'->ItOk X.K C.hd (fun a=>¬Own C ρ σ a) (Own C ρ σ) H' J ts->Q J H')->wi σ H Q
def DIL(X:Cx)(tg iter:Expr)(d:DTA):Prop:=∃wi,PI X tg iter wi/\∀(C:Ctx) (ρ:En) (σ:St) (H:Hp) (n:Nat) (Q:It->Hp->Prop) (R:List PyData->Nat->Prop),Stt X.K C ρ σ H n->d ρ n R ->
 (∀ts n' J H',R ts n'->ExtE C.hd H H'->Hn C.hd H' n'->ItOk X.K C.hd (fun a=>C.hd≠some a) (Own C ρ σ) H' J ts->Q J H')->wi σ H Q
section
variable{X:Cx}{a b c e tg iter:Expr}{es rest:List Expr}{d da db dc:DTE}{ds di:DTA}{dt:DTT}{t u:DTS}{st:Stmt}{sts sa sb:List Stmt}{pos p:Pos}{k:Nat}{x:Str}
theorem dil(h:DI X tg iter di):DIL X tg iter di:=by
 obtain⟨wi,pi,h⟩:=h;refine⟨wi,pi,fun C ρ σ H n Q R S hd hq=>h C ρ σ H n Q R S hd fun ts n' J H' r e1 hn it=>hq ts n' J H' r e1 hn ?_⟩
 exact fun O2 H2 h1 h2 h3=>it O2 H2 (fun a o ha no=>h1 a o ha fun z=>no (.inl (S.hx a z))) h2 h3
theorem Reps.getP{K:qF}{hd:Option Addr}{O:Addr->Prop}{H:Hp}{vs ts}{i:Nat}{t}{x:V}(r:Reps K hd O H vs ts)(h:ts[i]?=some t)(hx:vs[i]?=some x):Rep K hd O H x t:=by
 obtain⟨v,h1,h2⟩:=r.get h;rw[hx]at h1;cases h1;exact h2
theorem Vd{K:qF}{hd:Option Addr}{P O:Addr->Prop}{H:Hp}{q:Addr}{vs ts}(hq:H q=some (.lst vs))(hP:P q)(hO:∀a,¬O a->P a)(r:Reps K hd O H vs ts):ItOk K hd P O H (Itl K q) ts:=by
 intro O2 H2 h1 h2 _;have hq2:=h1 q _ hq hP;have r2:Reps K hd O2 H2 vs ts:=r.mono (fun a o ha z=>Classical.byContradiction fun no=>h2 a o ha no z) fun a o no ha=>h1 a o ha (hO a no)
 refine⟨fun i t et=>?_,⟨vs,.of hq2,by rw[r.length];exact Nat.le_refl _⟩⟩
 obtain⟨v,ev,rv⟩:=r2.get et;refine⟨⟨vs,v,.of hq2,ev⟩,fun x H3 hy=>?_⟩
 obtain⟨rfl,hy⟩:=hy;exact⟨Same.refl _,r2.getP et (hy vs (.of hq2))⟩
theorem zn5{K:qF}{hd:Option Addr}{P O:Addr->Prop}{H:Hp}{v:V}{ts}(hO:∀a,¬O a->P a)(r:Rep K hd O H v (.tuple ts)):∃q vs,v=.ref q/\SqT K H q vs/\ItOk K hd P O H (Itt K q) ts:=by
 have key:∀q vs,Reps K hd O H vs ts->(∀(O2:Addr->Prop) (H2:Hp),(∀a o,H a=some o->P a->H2 a=some o)->(∀a o,H a=some o->¬O a->¬O2 a)->SqT K H2 q vs)->ItOk K hd P O H (Itt K q) ts:=by
  intro q vs r hs O2 H2 h1 h2 _;have hq2:=hs O2 H2 h1 h2;have r2:Reps K hd O2 H2 vs ts:=r.mono (fun a o ha z=>Classical.byContradiction fun no=>h2 a o ha no z) fun a o no ha=>h1 a o ha (hO a no)
  refine⟨fun i t et=>?_,⟨vs,hq2,by rw[r.length];exact Nat.le_refl _⟩⟩
  obtain⟨v,ev,rv⟩:=r2.get et;refine⟨⟨vs,v,hq2,ev⟩,fun x H3 hy=>?_⟩
  obtain⟨rfl,hy⟩:=hy;exact⟨Same.refl _,r2.getP et (hy vs hq2)⟩
 cases r with
 | @tup q vs ds h o r=>exact⟨q,vs,rfl,.inl (.inl h),key q vs r fun O2 H2 h1 _=>.inl (.inl (h1 q _ h (hO q o)))⟩
 | @tupS q vs ds h r=>exact⟨q,vs,rfl,h.sq,key q vs r fun O2 H2 _ _=>h.sq⟩
def dItL(d:DTE):DTA:=fun ρ n R=>d ρ n fun t n'=>match t with|.list ts=>R ts n'|_=>False
def dItT(d:DTE):DTA:=fun ρ n R=>d ρ n fun t n'=>match t with|.tuple ts=>R ts n'|_=>False
theorem zlY(h:DE X iter d):DI X tg iter (dItL d):=by
 obtain⟨ta,pa,h⟩:=h;refine⟨_,zk9 pa,fun C ρ σ H n Q R S hd hq=>?_⟩
 refine h C ρ σ H n _ _ S hd fun t n' v H' r e1 hn q=>?_
 cases t with
 | list ts =>
  obtain⟨p,vs,rfl,h1,no,h2⟩:=q.lstI;exact⟨p,rfl,⟨vs,.of h1⟩,hq ts n' _ H' r e1 hn (Vd h1 no (fun _ z=>z) h2)⟩
 | _=>exact r.elim
theorem znA(h:DL X iter d):DIL X tg iter (dItL d):=by
 obtain⟨ta,pa,h⟩:=h;refine⟨_,zk9 pa,fun C ρ σ H n Q R S hd hq=>?_⟩
 refine h C ρ σ H n _ _ S hd fun t n' v H' r e1 hn q=>?_
 cases t with
 | list ts =>
  rcases q with q|⟨p,vs,ds,rfl,et,h1,h2,nh⟩|⟨p,zs,ep,ks,rfl,et,h1,h2,nh⟩
  rotate_left 2
  ·cases et
  ·obtain⟨p,vs,rfl,h1,no,h2⟩:=q.lstI;exact⟨p,rfl,⟨vs,.of h1⟩,hq ts n' _ H' r e1 hn (Vd h1 (fun z=>no (.inl (S.hx p z))) (fun a no z=>no (.inl (S.hx a z))) h2)⟩
  ·cases et;exact⟨p,rfl,⟨vs,.of h1⟩,hq ts n' _ H' r e1 hn (Vd h1 nh (fun a no z=>no (.inl (S.hx a z))) h2)⟩
 | _=>exact r.elim
theorem QR(h:DE X iter d):DI X tg iter (dItT d):=by
 obtain⟨ta,pa,h⟩:=h;refine⟨_,zqH pa,fun C ρ σ H n Q R S hd hq=>?_⟩
 refine h C ρ σ H n _ _ S hd fun t n' v H' r e1 hn q=>?_
 cases t with
 | tuple ts =>
  obtain⟨p,vs,rfl,h1,it⟩:=zn5 (P:=fun a=>¬Own C ρ σ a) (fun _ z=>z) q
  exact⟨p,rfl,⟨vs,h1⟩,hq ts n' _ H' r e1 hn it⟩
 | _=>exact r.elim
def J4(lo:Int)(n:Nat):List PyData:=(List.range n).map fun(i:Nat)=>PyData.int (lo+(i:Int))
theorem znm{K:qF}{hd:Option Addr}{P O:Addr->Prop}{H:Hp}{lo:Int}{m:Nat}:ItOk K hd P O H (Itr lo m) (J4 lo m):=by
 intro O2 H2 _ _ _;refine⟨fun i t et=>?_,by show m<=(J4 lo m).length;simp[J4]⟩
 unfold J4 at et;rw[List.getElem?_map]at et
 by_cases hi:i<m
 ·rw[List.getElem?_range hi]at et;cases et;refine⟨hi,fun x H3 hy=>?_⟩
  obtain⟨rfl,rfl⟩:=hy;exact⟨Same.refl _,.int _⟩
 ·rw[List.getElem?_eq_none (by simp;omega)]at et
  cases et
def Zg(d:DTE):DTA:=fun ρ n R=>d ρ n fun t n'=>match t with|.int j=>(-(2 ^ 62)<=j/\j<2 ^ 62)/\R (J4 0 j.toNat) n'|_=>False
theorem Vj(hm:X.mg "range" = none) (h:DE X a d) (hg:Gl X "range":=by rfl) (hs:starEach [a] X.env=[(false,eval a X.env)]:=by rfl):DI X tg (.Call (.Name "range" p) [a] [] pos) (Zg d):=by
 obtain⟨ta,pa,h⟩:=h;refine⟨_,zk8 hg hm (Q7 pa Ur hs) hs,fun C ρ σ H n Q R S hd hq=>?_⟩
 refine h C ρ σ H n _ _ S hd fun t n' v H' r e1 hn q=>?_
 cases t with
 | int j =>
  rw[q.intI];exact⟨j,rfl,r.1.1,r.1.2,hq _ n' _ H' r.2 e1 hn znm⟩
 | _=>exact r.elim
def forP(g:DTG)(tb:DTS)(D:DEnds):List PyData->En->Nat->Prop
 | [],ρ,n=>D.nx ρ n
 | t::ts,ρ,n=>g t ρ fun ρ'=>tb { D with nx:=forP g tb D ts,ct:=forP g tb D ts,bk:=D.nx } ρ' n
def sFor(di:DTA)(g:DTG)(tb:DTS):DTS:=fun D ρ n=>di ρ n fun ts n1=>forP g tb D ts ρ n1
theorem Uj{is:List Nat}{g:DTG}(hp:PassesOwn (model X.prog X.w) X.A X.env X.xe)(hc:X.calm=true)(hi:DI X tg iter di)(hg:DG X tg is g)(hb:DSs X sa t)
  (hs:∀x,foldedSetIterable iter X.env x=pure x:=by intro _;rfl):DS X (.For tg iter sa [] pos) (sFor di g t):=by
 obtain⟨wi,pi,hi⟩:=hi;obtain⟨_,gg,pg,hg⟩:=hg;obtain⟨tb,pb,hb⟩:=hb;refine⟨_,zqE hp hc pi pg pb hs,fun C ρ σ H n D D' S hd gd=>?_⟩
 refine hi C ρ σ H n _ _ S hd fun ts n1 J H1 r e1 hn it=>?_
 have S1:=S.on e1 hn;refine⟨fun i m σ2 H2=>m=ts.length - i/\i<=ts.length/\∃ρ2 n2,forP g t D' (ts.drop i) ρ2 n2/\Stt X.K C ρ2 σ2 H2 n2/\Keep C ρ σ H1 ρ2 σ2 H2,⟨ts.length,by simp,Nat.zero_le _,ρ,n1,by simpa using r,S1,Keep.refl⟩,?_⟩
 rintro i m σ2 H2 ⟨rfl,hi',ρ2,n2,f2,S2,k2⟩;have itq:=it (Own C ρ2 σ2) H2 (fun a o ha no=>(k2 a o ha (fun z=>no (.inl (S.hx a z))) fun z=>no (.inr z)).1) (fun a o ha no z=>z.elim (fun z=>no (.inl z)) fun z=>(k2 a o ha (fun y=>no (.inl (S.hx a y))) fun y=>no (.inr y)).2 z) (fun a=>S2.dom)
 by_cases hlt:i<ts.length
 ·have et:ts[i]?=some ts[i]:=List.getElem?_eq_getElem hlt;obtain⟨go,yl⟩:=itq.1 i _ et;rw[List.drop_eq_getElem_cons hlt]at f2;refine .inr ⟨go,fun σ' H'=>∃ρ' n',forP g t D' (ts.drop (i+1)) ρ' n'/\Stt X.K C ρ' σ' H' n'/\Keep C ρ σ H1 ρ' σ' H',fun σ' H' z=>⟨ts.length - (i+1),by omega,rfl,hlt,z⟩,fun x H3 hy=>?_⟩
  obtain⟨sm,rx⟩:=yl x H3 hy;have S3:=S2.on sm.ext (S2.hnd.same sm);have k3:Keep C ρ σ H1 ρ2 σ2 H3:=k2.trans (Same.ext sm:ExtE C.hd H2 H3).keep;refine hg C ρ2 σ2 H3 n2 x _ _ _ S3 rx f2 fun ρ4 σ4 r4 S4 k4 _ _=>?_
  have k5:=k3.trans k4;refine hb C ρ4 σ4 H3 n2 _ { D' with nx:=forP g t D' (ts.drop (i+1)),ct:=forP g t D' (ts.drop (i+1)),bk:=D'.nx } S4 r4 ⟨fun ρ' σ' H' n' h' S' k'=>⟨ρ',n',h',S',k5.trans k'⟩,fun t n' v H' h hn' k' rp=>gd.rt t n' v H' h hn' (fun a o ha nh no=>?_) rp,fun ρ' σ' H' n' h' S' k'=>gd.nx ρ' σ' H' n' h' S' (e1.keep.trans (k5.trans k')),fun ρ' σ' H' n' h' S' k'=>⟨ρ',n',h',S',k5.trans k'⟩⟩
  obtain⟨q1,q2⟩:=(e1.keep.trans k5) a o ha nh no;exact k' a o q1 nh q2
 ·have e:i=ts.length:=by omega
  subst e;rw[List.drop_length]at f2;exact .inl ⟨itq.2,gd.nx ρ2 σ2 H2 n2 f2 S2 (e1.keep.trans k2)⟩
def JX(N:List Str)(ts:qD):En:=ts.map (fun t=>some (.val t))++List.replicate (N.length - ts.length) none
theorem zkC{K:qF}{hd:Option Addr}{O:Addr->Prop}{H:Hp}{n:Nat}{N:List Str}{vs:List V}{ts:qD}(r:Reps K hd O H vs ts)(hn:Hn hd H n)(dom:∀a,O a->MutO (H a))(hx:∀a,hd=some a->O a) :
  Stt K ⟨hd,O⟩ (JX N ts) (start N vs) H n/\∀a,¬OwnS (JX N ts) (start N vs) a:=by
 have get:∀(i:Nat) c,(JX N ts)[i]?=some (some c)->∃t,c=.val t/\ts[i]?=some t:=fun i c h=>by
  unfold JX at h
  by_cases hi:i<ts.length
  ·rw[List.getElem?_append_left (by simpa using hi),List.getElem?_map]at h
   cases e:ts[i]? with
   | none=>rw[e]at h;cases h
   | some t=>rw[e]at h;cases h;exact⟨t,rfl,rfl⟩
  ·rw[List.getElem?_append_right (by simpa using hi),List.getElem?_replicate]at h
   split at h <;> cases h
 have no:∀a,¬OwnS (JX N ts) (start N vs) a:=fun a ⟨i,ds,m,h1,_⟩=>by
  obtain⟨t,e,_⟩:=get i _ h1;subst e;cases m
 refine⟨.mk' (by unfold JX start;simp[r.length]) (fun i d h=>?_) (fun i ds m h=>?_) (fun i ks h=>by obtain⟨t,e,_⟩:=get i _ h;cases e) (fun i j ds es a m _ h=>?_) hn dom hx,no⟩
 ·obtain⟨t,e,et⟩:=get i _ h;cases e;obtain⟨v,ev,rv⟩:=r.get et;refine⟨v,?_,rv.mono (fun a o _ z=>z.elim id fun z=>absurd z (no a)) fun _ _ _ z=>z⟩
  unfold start;have hi:i<vs.length:=by
   rcases Nat.lt_or_ge i vs.length with z|z
   ·exact z
   ·rw[List.getElem?_eq_none z]at ev;cases ev
  rw[List.getElem?_append_left (by simpa using hi),List.getElem?_map,ev];rfl
 ·obtain⟨t,e,_⟩:=get i _ h;subst e;cases m
 ·obtain⟨t,e,_⟩:=get i _ h;subst e;cases m
end
end L2
namespace Bd
open PySem L2 PyProof.Rows
theorem Def.okD{P:Program}{w:World}{K:qF}{mg:qM}{base:Heap}{x:Str}{st:Stmt}{ps N:List Str}{f:Addr}{fd:FuncData}{k m:Nat}{g:GD}(D:Def K mg x st ps f fd)(S:FnScope N ps (Jl st))(hm:m=ps.length)
  (hb:∀(cdv:Value) (A:Around) (outer:List Env) (s:Shared) (H:Hp) (E:XK),Room k (A.deeper (envOfC x (Jl st) s.heap.objs.size f cdv))->∃d,DSs (cxOf CX0 P w K mg base N x (Jl st) f cdv A outer s H E).nox (Qc st) d /\
   ∀ts n R,ts.length=m->g ts n R->d { nx:=fun _ n'=>R .none n',rt:=R } (JX N ts) n):FnOk P w K mg base CX0 (k+1) f fd ps (spD K m g):=by
 refine D.F.ok S (fun vs H Q E h=>?_) (fun cdv A outer s H vs Q E hr h=>?_)
 ·obtain⟨hd,O,ts,n,R,r,_,_,_,hl,_⟩:=h;rw[r.length,hl,hm]
 ·obtain⟨hd,O,ts,n,R,r,hn,dom,hx,hl,hg,hq⟩:=h;obtain⟨d,⟨t,pt,ht⟩,hd'⟩:=hb cdv A outer s H E hr;obtain⟨S0,no⟩:=zkC (N:=N) r hn dom hx;refine⟨t,pt,ht ⟨hd,O⟩ _ _ H n _ _ S0 (hd' ts n R hl hg) ⟨fun ρ' σ' H' n' h S' k'=>?_,fun t n' v H' h hn' k' rp=>?_,fun _ _ _ _ h=>h.elim,fun _ _ _ _ h=>h.elim⟩⟩
  ·exact hq .none n' .non H' h (fun a o ha nh=>(k' a o ha nh (no a)).1) S'.hnd .non
  ·exact hq t n' v H' h (fun a o ha nh=>k' a o ha nh (no a)) hn' rp
end Bd
namespace L2
open PySem PySem.Spec PyProof.Rows
def DTs(Y:Cx)(ifs:List Expr)(d:DTT):Prop:=∃te,PTs Y ifs te/\∀(C:Ctx) (ρ:En) (σ:St) (H:Hp) (n:Nat) (Q:Bool->Hp->Prop) (R:Bool->Nat->Prop),Stt Y.K C ρ σ H n->d ρ n R ->
 (∀b n' H',R b n'->ExtE C.hd H H'->Hn C.hd H' n'->Q b H')->te σ H Q
def dYes:DTT:=fun _ n R=>R true n
section
variable{Y:Cx}{c:Expr}{d:DTT}
theorem Qk:DTs Y [] dYes:=⟨_,zoF,fun C ρ σ H n Q R S h hq=>hq true n H h ExtE.refl S.hnd⟩
theorem zpB(h:DT Y c d):DTs Y [c] d:=by
 obtain⟨te,p,h⟩:=h;exact⟨_,zoE p,h⟩
end
theorem DE.uni{ι:Type}{Xf:ι->Cx}{K:qF}(hK:∀i,(Xf i).K=K){e:Expr}{d:DTE}(h:∀i,DE (Xf i) e d):∃te:TE,(∀i,PE (Xf i) e te)/\∀(C:Ctx) (ρ:En) (σ:St) (H:Hp) (n:Nat) (Q:VK) (R:qN),Stt K C ρ σ H n->d ρ n R ->
  (∀t n' v H',R t n'->ExtE C.hd H H'->Hn C.hd H' n'->Rep K C.hd (Own C ρ σ) H' v t->Q v H')->te σ H Q:=by
 refine⟨fun σ H Q=>∀i,(Classical.choose (h i)) σ H Q,fun i pins s σ H Q I hw=>(Classical.choose_spec (h i)).1 pins s σ H Q I (hw i),fun C ρ σ H n Q R S hd hq i=>?_⟩
 have:=(Classical.choose_spec (h i)).2 C ρ σ H n Q R;exact this (by rw[hK i];exact S) hd fun t n' v H' r e h q=>hq t n' v H' r e h (by rw[<- hK i];exact q)
theorem DTs.uni{ι:Type}{Xf:ι->Cx}{K:qF}(hK:∀i,(Xf i).K=K){e:List Expr}{d:DTT}(h:∀i,DTs (Xf i) e d):∃te:TT,(∀i,PTs (Xf i) e te)/\∀(C:Ctx) (ρ:En) (σ:St) (H:Hp) (n:Nat) (Q:Bool->Hp->Prop) (R:Bool->Nat->Prop),Stt K C ρ σ H n->d ρ n R ->
  (∀b n' H',R b n'->ExtE C.hd H H'->Hn C.hd H' n'->Q b H')->te σ H Q:=by
 refine⟨fun σ H Q=>∀i,(Classical.choose (h i)) σ H Q,fun i pins s σ H Q I hw=>(Classical.choose_spec (h i)).1 pins s σ H Q I (hw i),fun C ρ σ H n Q R S hd hq i=>?_⟩
 have:=(Classical.choose_spec (h i)).2 C ρ σ H n Q R;exact this (by rw[hK i];exact S) hd hq
theorem DG.uni{ι:Type}[Nonempty ι]{Xf:ι->Cx}{K:qF}(hK:∀i,(Xf i).K=K){e:Expr}{is:List Nat}{d:DTG}(h:∀i,DG (Xf i) e is d):∃te:TG,(∀i,PG (Xf i) e te)/\∀(C:Ctx) (ρ:En) (σ:St) (H:Hp) (n:Nat) (v:V) (t:PyData) (Q:St->Hp->Prop) (R:En->Prop),Stt K C ρ σ H n->Rep K C.hd (Own C ρ σ) H v t->d t ρ R ->
  (∀ρ' σ',R ρ'->Stt K C ρ' σ' H n->Keep C ρ σ H ρ' σ' H->(∀j,j∉is->σ'[j]?=σ[j]?)->σ'.length=σ.length->Q σ' H)->te v σ H Q:=by
 refine⟨fun v σ H Q=>∀i,(Classical.choose (h i).2) v σ H Q,fun i pins s σ H v u Q I r hw=>(Classical.choose_spec (h i).2).1 pins s σ H v u Q I r (hw i),fun C ρ σ H n v t Q R S r hd hq i=>?_⟩
 have:=(Classical.choose_spec (h i).2).2 C ρ σ H n v t Q R;exact this (by rw[hK i];exact S) (by rw[hK i];exact r) hd fun ρ' σ' hr S'=>hq ρ' σ' hr (by rw[<- hK i];exact S')
theorem Wk.of:∀{σ σ':St},σ.length=σ'.length->(∀(i:Nat) v,σ[i]?=some (some v)->σ'[i]?=some (some v))->Wk σ σ'
 | [],[],_,_=>trivial
 | [],_::_,h,_=>by simp at h
 | _::_,[],h,_=>by simp at h
 | none::r,o::r',h,k=>Wk.of (σ:=r) (σ':=r') (by simpa using h) fun i v e=>by simpa using k (i+1) v (by simpa using e)
 | some w::r,o::r',h,k=>⟨by simpa using k 0 w rfl,Wk.of (by simpa using h) fun i v e=>by simpa using k (i+1) v (by simpa using e)⟩
def capV:Option Cell->Option Cell
 | some (.val d)=>some (.val d)
 | some (.dct ks)=>some (.rdo ks)
 | some (.rdo ks)=>some (.rdo ks)
 | _=>none
def JA(m:Nat)(capt:List Nat)(ρ:En):En:=List.replicate m none++capt.map fun i=>capV (ρ.getD i none)
def JM(g:DTG)(tt:DTT)(te:DTE)(ρ0:En):List PyData->List PyData->Nat->(List PyData->Nat->Prop)->Prop
 | [],acc,n,R=>R acc n
 | x::xs,acc,n,R=>g x ρ0 fun ρ1=>tt ρ1 n fun b n2=>if b=true then te ρ1 n2 fun t n3=>acc.length<16777216/\JM g tt te ρ0 xs (acc++[t]) n3 R else JM g tt te ρ0 xs acc n2 R
def dComp(m:Nat)(capt:List Nat)(di:DTA)(g:DTG)(tt:DTT)(te:DTE):DTA:=fun ρ n R=>di ρ n fun ts n1=>JM g tt te (JA m capt ρ) ts [] n1 R
section
variable{X:Cx}{scope:Scope}{own:List Str}{capt:List Nat}{elt tg iter:Expr}{ifs:List Expr}{pos:Pos}{di:DTA}{is:List Nat}{g:DTG}{tt:DTT}{te:DTE}
theorem zgB{ρ:En}{i:Nat}{c:Cell}(h:capV (ρ.getD i none)=some c):(∃d,c=.val d/\ρ[i]?=some (some (.val d)))\/∃ks,c=.rdo ks/\(ρ[i]?=some (some (.dct ks))\/ρ[i]?=some (some (.rdo ks))):=by
 rw[List.getD_eq_getElem?_getD]at h;cases e:ρ[i]? with
 | none=>rw[e]at h;cases h
 | some o =>
  rw[e]at h;cases o with
  | none=>cases h
  | some c' =>
   cases c' with
   | val d'=>simp[capV]at h;exact .inl ⟨d',h.symm,rfl⟩
   | own _=>simp[capV]at h
   | dct ks=>simp[capV]at h;exact .inr ⟨ks,h.symm,.inl rfl⟩
   | dtt ks=>simp[capV]at h
   | rdo ks=>simp[capV]at h;exact .inr ⟨ks,h.symm,.inr rfl⟩
theorem zhE{K:qF}{C:Ctx}{ρ:En}{σ:St}{H H2:Hp}{n n2:Nat}{D:Addr}(S:Stt K C ρ σ H n)(e:ExtE C.hd H H2)(hn:Hn C.hd H2 n2)(hD:H D=none)(hy:MutO (H2 D)) :
  Stt K ⟨C.hd,fun a=>Own C ρ σ a\/a=D⟩ (JA own.length capt ρ) (Jy own++capS capt σ) H2 n2/\∀a,¬OwnS (JA own.length capt ρ) (Jy own++capS capt σ) a:=by
 have get:∀(i:Nat) c,(JA own.length capt ρ)[i]?=some (some c)->∃j,capV (ρ.getD j none)=some c/\own.length<=i/\capt[i - own.length]?=some j:=fun i c h=>by
  unfold JA at h
  by_cases hi:i<own.length
  ·rw[List.getElem?_append_left (by simpa using hi),List.getElem?_replicate]at h
   split at h <;> cases h
  ·rw[List.getElem?_append_right (by simpa using hi),List.length_replicate,List.getElem?_map]at h
   cases ej:capt[i - own.length]? with
   | none=>rw[ej]at h;cases h
   | some j =>
    rw[ej]at h;exact⟨j,by simpa using h,by omega,rfl⟩
 have slot:∀(i j:Nat) (v:V),own.length<=i->capt[i - own.length]?=some j->σ[j]?=some (some v)->(Jy own++capS capt σ)[i]?=some (some v):=fun i j v hi e3 h1=>by
  rw[List.getElem?_append_right (by simpa using hi)]
  simp only[List.length_map,List.getElem?_map,e3,Option.map_some];rw[List.getD_eq_getElem?_getD,h1];rfl
 have nm:∀(i:Nat) (c:Cell),c.mine=true->(JA own.length capt ρ)[i]?=some (some c)->False:=fun i c m h=>by
  obtain⟨j,e1,_⟩:=get i c h;rcases zgB e1 with⟨d,rfl,_⟩|⟨ks,rfl,_⟩ <;> cases m
 have no:∀a,¬OwnS (JA own.length capt ρ) (Jy own++capS capt σ) a:=fun a ⟨i,c,m,h1,_⟩=>nm i c m h1
 have S2:=S.on e hn;have sub:∀a o,H a=some o->Own ⟨C.hd,fun a=>Own C ρ σ a\/a=D⟩ (JA own.length capt ρ) (Jy own++capS capt σ) a->Own C ρ σ a:=fun a o ha z=>by
  rcases z with z|z
  ·rcases z with z|z
   ·exact z
   ·subst z;rw[hD]at ha;cases ha
  ·exact absurd z (no a)
 have kp:∀a o,¬Own C ρ σ a->H a=some o->H2 a=some o:=fun a o nO ha=>e a o ha fun z=>nO (.inl (S.hx a z))
 refine⟨.mk' (by unfold JA;simp) (fun i d h=>?_) (fun i ds m h=>(nm i _ m h).elim) (fun i ks h=>?_) (fun i j ds es a m _ h=>(nm i _ m h).elim) hn (fun a ha=>?_) (fun a ha=>.inl (.inl (S.hx a ha))),no⟩
 ·obtain⟨j,e1,hi,e3⟩:=get i _ h;rcases zgB e1 with⟨d',z,e2⟩|⟨ks,z,_⟩
  ·cases z;obtain⟨v,h1,h2⟩:=S.val j d e2;exact⟨v,slot i j v hi e3 h1,h2.mono sub kp⟩
  ·cases z
 ·obtain⟨j,e1,hi,e3⟩:=get i _ h;rcases zgB e1 with⟨d',z,e2⟩|⟨ks',z,e2⟩
  ·cases z
  ·cases z;rcases e2 with e2|e2
   ·obtain⟨a,kvs,h1,h2,h3,h4⟩:=S.dct j ks e2;have nh:C.hd≠some a:=fun z=>h4 (S.hx a z)
    exact⟨a,kvs,slot i j _ hi e3 h1,e a _ h2 nh,h3.mono sub kp,.inl (.inr ⟨j,.dct ks,rfl,e2,h1⟩),nh⟩
   ·obtain⟨a,kvs,h1,h2,h3,h4,nh⟩:=S.rdo j ks e2;exact⟨a,kvs,slot i j _ hi e3 h1,e a _ h2 nh,h3.mono sub kp,.inl (.inl h4),nh⟩
 ·rcases ha with ha|rfl
  ·exact S2.lst ha
  ·exact hy
theorem zjC{K:qF}{C:Ctx}{ρ:En}{σ:St}{H H2:Hp}{n n2:Nat}{D:Addr}{ys:List V}(S:Stt K C ρ σ H n)(e:ExtE C.hd H H2)(hn:Hn C.hd H2 n2)(hD:H D=none)(hy:H2 D=some (.lst ys)) :
  Stt K ⟨C.hd,fun a=>Own C ρ σ a\/a=D⟩ (JA own.length capt ρ) (Jy own++capS capt σ) H2 n2/\∀a,¬OwnS (JA own.length capt ρ) (Jy own++capS capt σ) a:=zhE S e hn hD (.inl ⟨_,hy⟩)
def zux(K:qF)(te:TE)(d:DTA):Prop:=∀(C:Ctx) (ρ:En) (σ:St) (H:Hp) (n:Nat) (Q:VK) (R:List PyData->Nat->Prop),Stt K C ρ σ H n->d ρ n R ->
 (∀ts n' p vs H',R ts n'->ExtE C.hd H H'->Hn C.hd H' n'->H p=none->H' p=some (.lst vs)->Reps K C.hd (fun a=>Own C ρ σ a\/a=p) H' vs ts->Q (.ref p) H')->te σ H Q
theorem zma(hi:DIL X tg iter di)
  (hg:∀C s₀ H₀ fp,DG (Jh X scope own capt C s₀ H₀ fp) tg is g) (hin:∀i∈is,i<own.length) (ht:∀C s₀ H₀ fp,DTs (Jh X scope own capt C s₀ H₀ fp) ifs tt) (he:∀C s₀ H₀ fp,DE (Jh X scope own capt C s₀ H₀ fp) elt te) :
  ∃(wi:TI) (gg:TG) (gt:TT) (ge:TE),PI X tg iter wi/\(∀C s₀ H₀ fp,PG (Jh X scope own capt C s₀ H₀ fp) tg gg)/\(∀C s₀ H₀ fp,PTs (Jh X scope own capt C s₀ H₀ fp) ifs gt)/\(∀C s₀ H₀ fp,PE (Jh X scope own capt C s₀ H₀ fp) elt ge)/\zux X.K (tComp own capt wi gg gt ge) (dComp own.length capt di g tt te):=by
 obtain⟨wi,pi,hi⟩:=hi
 let Xf:(Addr×Shared×Hp×List Addr)->Cx:=fun q=>Jh X scope own capt q.1 q.2.1 q.2.2.1 q.2.2.2
 have hK:∀q,(Xf q).K=X.K:=fun _=>rfl
 have hne:Nonempty (Addr×Shared×Hp×List Addr):=⟨(0,X.s₀,X.H₀,[])⟩;obtain⟨gg,pg,hgg⟩:=DG.uni (Xf:=Xf) hK fun q=>hg q.1 q.2.1 q.2.2.1 q.2.2.2
 obtain⟨gt,pt,hgt⟩:=DTs.uni (Xf:=Xf) hK fun q=>ht q.1 q.2.1 q.2.2.1 q.2.2.2
 obtain⟨ge,pe,hge⟩:=DE.uni (Xf:=Xf) hK fun q=>he q.1 q.2.1 q.2.2.1 q.2.2.2
 refine⟨wi,gg,gt,ge,pi,(fun C s₀ H₀ fp=>pg (C,s₀,H₀,fp)),(fun C s₀ H₀ fp=>pt (C,s₀,H₀,fp)),(fun C s₀ H₀ fp=>pe (C,s₀,H₀,fp)),fun C ρ σ H n Q R St hd hq=>?_⟩
 refine hi C ρ σ H n _ _ St hd fun ts n1 J H1 r e1 hn it=>fun D hD1=>?_
 have St1:=St.on e1 hn;have hD:H D=none:=ziO e1 hn hD1;have nhd:C.hd≠some D:=fun z=>St.dom (.inl (St.hx D z)) hD
 refine zmc (n:=ts.length) (fun i ys H2=>∃acc n2,JM g tt te (JA own.length capt ρ) (ts.drop i) acc n2 R/\Reps X.K C.hd (fun a=>Own C ρ σ a\/a=D) H2 ys acc/\ExtE C.hd H1 H2/\Hn C.hd H2 n2)
  ⟨[],n1,by simpa using r,.nil,ExtE.new hD1,hn.same (Qb hD1)⟩ ?_ ?_
 ·rintro i ys H2 hlt hy ⟨acc,n2,c2,r2,e2,hn2⟩;have et:ts[i]?=some ts[i]:=List.getElem?_eq_getElem hlt;rw[List.drop_eq_getElem_cons hlt]at c2;have itq:=it (fun a=>Own C ρ σ a\/a=D) H2 (fun a o ha nh=>e2 a o ha nh) (fun a o ha no z=>z.elim no fun z=>by subst z;rw[hD1]at ha;cases ha) (fun a z=>z.elim (fun z=>(St1.on e2 hn2).dom z) fun z=>by subst z;rw[hy];exact fun z=>by cases z)
  obtain⟨go,yl⟩:=itq.1 i _ et;refine⟨go,fun x H3 hyd=>?_⟩
  obtain⟨sm,rx⟩:=yl x H3 hyd;have hn3:=hn2.same sm;have e3:ExtE C.hd H1 H3:=e2.trans sm.ext;obtain⟨I3,no3⟩:=zjC (own:=own) (capt:=capt) (D:=D) (ys:=ys) St (e1.trans e3) hn3 hD (sm _ _ hy);have rx':Rep X.K C.hd (Own ⟨C.hd,fun a=>Own C ρ σ a\/a=D⟩ (JA own.length capt ρ) (Jy own++capS capt σ)) H3 x ts[i]:=rx.mono (fun a o _ z=>z.elim id fun z=>absurd z (no3 a)) fun _ _ _ z=>z
  refine hgg ⟨C.hd,fun a=>Own C ρ σ a\/a=D⟩ (JA own.length capt ρ) (Jy own++capS capt σ) H3 n2 x ts[i] _ _ I3 rx' c2 fun ρ4 σ4 r4 S4 k4 hj hl=>⟨Wk.of hl.symm fun j v ej=>?_,?_⟩
  ·by_cases hjo:j<own.length
   ·rw[List.getElem?_append_left (by simpa using hjo),List.getElem?_map]at ej
    cases z:own[j]? with
    | none=>rw[z]at ej;cases ej
    | some q=>rw[z]at ej;cases ej
   ·rw[hj j (fun z=>hjo (hin j z))];exact ej
  ·refine hgt _ ρ4 σ4 H3 n2 _ _ S4 r4 fun b n5 H5 r5 e5 hn5=>?_
   have S5:=S4.on e5 hn5;have hy5:H5 D=some (.lst ys):=e5 D _ (sm _ _ hy) nhd;have r25:∀{H6},ExtE C.hd H2 H6->Reps X.K C.hd (fun a=>Own C ρ σ a\/a=D) H6 ys acc:=fun e=>r2.mono (fun _ _ _ z=>z) fun a o no ha=>e a o ha fun z=>no (.inl (.inl (St.hx a z)))
   cases b with
   | false =>
    refine iteF ⟨ys,hy5,acc,n5,by simpa using r5,r25 ((Same.ext sm).trans e5),e3.trans e5,hn5⟩
   | true =>
    refine iteT (hge _ ρ4 σ4 H5 n5 _ _ S5 (by simpa using r5) fun t n6 v H6 r6 e6 hn6 q6=>?_)
    have hy6:H6 D=some (.lst ys):=e6 D _ hy5 nhd;have rl:=(r25 ((Same.ext sm).trans (e5.trans e6))).length;refine⟨ys,hy6,by rw[rl];exact r6.1,acc++[t],n6,r6.2,?_,?_,?_⟩
    ·have q6':Rep X.K C.hd (fun a=>Own C ρ σ a\/a=D) H6 v t:=q6.mono (fun _ _ _ z=>.inl z) fun _ _ _ z=>z
     have all:=(r25 ((Same.ext sm).trans (e5.trans e6))).append (Reps.cons q6' .nil);exact all.mono (fun _ _ _ z=>z) fun a o no ha=>by rw[Jv (show a≠D from fun z=>no (.inr z))];exact ha
    ·exact fun a o ha nh=>by
      rw[Jv (Qu ha hD1)];exact(e3.trans (e5.trans e6)) a o ha nh
    ·exact fun a ha=>by
      obtain⟨d,m,t,q,rest⟩:=hn6 a ha;exact⟨d,m,t,by rw[Jv (show a≠D from fun z=>nhd (by rw[<- z];exact ha))];exact q,rest⟩
 ·rintro ys H2 hy ⟨acc,n2,c2,r2,e2,hn2⟩;rw[List.drop_length]at c2;have itq:=it (fun a=>Own C ρ σ a\/a=D) H2 (fun a o ha nh=>e2 a o ha nh) (fun a o ha no z=>z.elim no fun z=>by subst z;rw[hD1]at ha;cases ha) (fun a z=>z.elim (fun z=>(St1.on e2 hn2).dom z) fun z=>by subst z;rw[hy];exact fun z=>by cases z)
  exact⟨itq.2,hq acc n2 D ys H2 c2 (e1.trans e2) hn2 hD hy r2⟩
theorem QI(hc:X.calm=true)(S:CompScope scope own capt X)(hi:DIL X tg iter di)
  (hg:∀C s₀ H₀ fp,DG (Jh X scope own capt C s₀ H₀ fp) tg is g) (hin:∀i∈is,i<own.length) (ht:∀C s₀ H₀ fp,DTs (Jh X scope own capt C s₀ H₀ fp) ifs tt) (he:∀C s₀ H₀ fp,DE (Jh X scope own capt C s₀ H₀ fp) elt te)
  (hs:∀x,foldedSetIterable iter X.env x=pure x:=by intro _;rfl):DN X (.ListComp elt [⟨tg,iter,ifs,0⟩] scope pos) (dComp own.length capt di g tt te):=by
 obtain⟨wi,gg,gt,ge,a,b,c,d,sp⟩:=zma hi hg hin ht he;exact⟨_,zm1 hc S a b c d hs,sp⟩
end
def zkF(K:qF):Sp:=fun vs H Q _=>∃(a:Addr) (ns:List Int) (k:Int),vs=[.ref a,.int k]/\SqL K H a (ns.map V.int)/\ns.length<=63/\0<=k/\k<=100 /\
 ∀hd H',H hd=none->Z8 H' hd 0->Same H H'->Q (.ref hd) H'
def zsp(hd:Addr)(H H':Hp):Prop:=∀b o,H b=some o->b≠hd->H' b=some o
def znT:Sp:=fun vs H Q _=>∃(hd:Addr) (many n:Int),vs=[.ref hd,.int many]/\Z8 H hd n/\n<=1000000000000/\0<many/\many<2 ^ 128 /\
 ∀(r:Int) H',0<=r->r<many->Z8 H' hd (n+1)->zsp hd H H'->Q (.int r) H'
def Ul:GD:=fun ts n R=>match ts with
 | [h,.int many]=>h=HAND/\0<many/\many<2 ^ 128/\n<=1000000000000/\∀r:Int,0<=r->r<many->R (.int r) (n+1)
 | _=>False
theorem zmG{K:qF}(vs:List V)(H:Hp)(Q:VK)(E:XK)(h:spD K 2 Ul vs H Q E):znT vs H Q E:=by
 obtain⟨hd,O,ts,n,R,r,hn,dom,hx,hl,g,hq⟩:=h;unfold Ul at g;split at g
 ·rename_i hh many;obtain⟨rfl,m0,m1,hn',g⟩:=g;cases r with
  | cons r1 r =>
   cases r with
   | cons r2 r =>
    cases r;obtain⟨a,rfl,ea⟩:=r1.handI;rw[r2.intI];refine⟨a,many,n,rfl,hn a ea,by omega,m0,m1,fun q H' q0 q1 hh sx=>?_⟩
    refine hq _ (n+1) _ H' (g q q0 q1) (fun b o hb nb=>sx b o hb fun z=>nb (by rw[ea,z])) (fun b eb=>?_) (.int _)
    rw[ea]at eb;cases eb;exact hh
 ·exact g.elim
def zop(K:qF):Sp:=fun vs H Q _=>∃(a:Addr) (ns:List Int),vs=[.ref a]/\SqL K H a (ns.map V.int)/\ns.length<=63/\∀H',Q (.bl true) H'
def zr3:GD:=fun ts n R=>∃ns:List Int,ts=[SCR ns]/\ns.length<=63/\∀n',R (.bool true) n'
theorem zpa{K:qF}(vs:List V)(H:Hp)(Q:VK)(E:XK)(h:zop K vs H Q E):spD K 1 zr3 vs H Q E:=by
 obtain⟨a,ns,rfl,sq,hl,q⟩:=h;refine⟨none,fun _=>False,[SCR ns],0,fun t _=>t=.bool true,.cons ?_ .nil,(fun a e=>by cases e),(fun a z=>z.elim),(fun a e=>by cases e),rfl,⟨ns,rfl,hl,fun _=>rfl⟩,fun t n' v H' ht _ _ rp=>?_⟩
 ·rcases sq with sq|sq
  ·exact .scr sq (fun z=>z)
  ·exact .scrS fun _=>.inr sq
 ·subst ht;rw[rp.blI];exact q H'
section
variable{env:Env}{es:List Expr}{a b:Expr}{l1 l2:List Expr}{p:Pos}{x:Str}
theorem Jc:starEach (.Name x p::es) env=(false,eval (.Name x p) env)::starEach es env:=rfl
theorem Jo{i:Int}{j}:starEach (.Constant (.int i) j p::es) env=(false,eval (.Constant (.int i) j p) env)::starEach es env:=rfl
theorem JE{c d}:starEach (.Call a l1 c d::es) env=(false,eval (.Call a l1 c d) env)::starEach es env:=rfl
theorem zh7:starEach (.List l1 p::es) env=(false,eval (.List l1 p) env)::starEach es env:=rfl
theorem zf_{k}:starEach (.Tuple l1 k p::es) env=(false,eval (.Tuple l1 k p) env)::starEach es env:=rfl
theorem JG{o}:starEach (.BinOp a o b p::es) env=(false,eval (.BinOp a o b p) env)::starEach es env:=rfl
theorem zoo{o}:starEach (.UnaryOp o a p::es) env=(false,eval (.UnaryOp o a p) env)::starEach es env:=rfl
theorem Uk:starEach (.Subscript a b p::es) env=(false,eval (.Subscript a b p) env)::starEach es env:=rfl
theorem znS{o}:starEach (.Compare a o l1 p::es) env=(false,eval (.Compare a o l1 p) env)::starEach es env:=rfl
theorem QJ{g s}:starEach (.ListComp a g s p::es) env=(false,eval (.ListComp a g s p) env)::starEach es env:=rfl
end
section
variable{X:Cx}{a b c e:Expr}{da db dc:DTE}{pos p:Pos}{r r':R2}{g g':G2}
theorem zny{op op':CmpOp}(ho:OpR X (compareOp op) r)(hg:Gp2 X r g)(ho':OpR X (compareOp op') r')(hg':Gp2 X r' g')(ha:DL X a da)(hb:DL X b db)(hc:DL X c dc)
  (hm:lastMarks [op,op'] [b,c]=false:=by with_unfolding_all rfl):DT X (.Compare a [op,op'] [b,c] pos) (Yv (YL g g' da db dc)):=by
 obtain⟨ta,pa,ha⟩:=ha;obtain⟨tb,pb,hb⟩:=hb;obtain⟨tc,pc,hc⟩:=hc;refine⟨_,zmV ho ho' pa pb pc hm,fun C ρ σ H n Q R S h hq=>?_⟩
 refine two ha hb S h fun x y n2 v w H2 r2 e S2 q1 q2=>?_
 refine hg C.hd (Own C ρ σ) H2 v w x y _ _ (fun p=>S2.dom) q1 q2 r2 fun z u H' rz sm rp=>?_
 have S3:=S2.on sm.ext (S2.hnd.same sm);cases z with
 | bool k =>
  cases rp;refine⟨k,rfl,?_⟩;cases k with
  | false=>exact iteF ⟨false,rfl,hq _ n2 H' rz (e.trans sm.ext) S3.hnd⟩
  | true =>
   refine iteT (hc C ρ σ H' n2 _ _ S3 rz fun z2 n3 w2 H4 r4 e4 h4 q4=>?_)
   have S4:=S3.on e4 h4;have q2':=e4.repT S.hx ((Same.ext sm:ExtE C.hd H2 H').repT S.hx q2);refine hg' C.hd (Own C ρ σ) H4 w w2 y z2 _ _ (fun p=>S4.dom) q2' q4 r4 fun z u H' rz sm' rp=>?_
   cases z with
   | bool k=>cases rp;exact⟨k,rfl,hq _ n3 H' rz (((e.trans sm.ext).trans e4).trans sm'.ext) (S4.hnd.same sm')⟩
   | _=>exact rz.elim
 | _=>exact rz.elim
end
section
variable{C:Int->Int->Prop}{f:Int->Int->Int}{fb:Int->Int->Bool}{i j k:Int}{R:PyData->Prop}{Rb:Bool->Prop}{xs ys:qD}{s t:Str}{a b:Bool}{u v:PyData}
theorem l_gI:gI C f (.int i) (.int j) R=(C i j/\R (.int (f i j))):=propext Iff.rfl
theorem YA:gI0 f (.int i) (.int j) R=R (.int (f i j)):=propext Iff.rfl
theorem U6:oAdd (.int i) (.int j) R=R (.int (i+j)):=propext Iff.rfl
theorem U7:oAdd (.tuple xs) (.tuple ys) R=(xs.length+ys.length<=16777216/\R (.tuple (xs++ys))):=propext Iff.rfl
theorem US:oEq (.int i) (.int j) R=R (.bool (decide (i=j))):=propext Iff.rfl
theorem UT:oEq (.tuple xs) (.tuple ys) R=(Okd (.tuple xs)/\Okd (.tuple ys)/\R (.bool (PyData.eqv (.tuple xs) (.tuple ys)))):=propext Iff.rfl
theorem UJ:oNe (.int i) (.int j) R=R (.bool (!decide (i=j))):=propext Iff.rfl
theorem UL:oNe (.tuple xs) (.tuple ys) R=(Okd (.tuple xs)/\Okd (.tuple ys)/\R (.bool (!PyData.eqv (.tuple xs) (.tuple ys)))):=propext Iff.rfl
theorem UK:oNe (.list xs) (.list ys) R=(Okd (.list xs)/\Okd (.list ys)/\R (.bool (!PyData.eqv (.list xs) (.list ys)))):=propext Iff.rfl
theorem UU:oIs (.bool a) (.bool b) R=R (.bool (a == b)):=propext Iff.rfl
theorem UV:oIs u .none R=R (.bool (isNone u)):=by cases u <;> exact propext Iff.rfl
theorem Yo:oIsN u .none R=R (.bool (!isNone u)):=by cases u <;> exact propext Iff.rfl
theorem UG:oLtA (.int i) (.int j) R=R (.bool (decide (i<j))):=propext Iff.rfl
theorem UF:oLeA (.int i) (.int j) R=R (.bool (decide (i<=j))):=propext Iff.rfl
theorem YB{x:PyData}(h:atI xs i=some x):oIx (.list xs) (.int i) R=R x:=by show(match atI xs i with|some t=>R t|none=>False)=_;rw[h]
theorem ZS{x:PyData}(h:atI xs i=some x):oIx (.tuple xs) (.int i) R=R x:=by show(match atI xs i with|some t=>R t|none=>False)=_;rw[h]
theorem Yb:oIx (.tuple (u::xs)) (.int 0) R=R u:=ZS (by unfold atI ixN;simp)
theorem Yc:oIx (.tuple (u::v::xs)) (.int 1) R=R v:=ZS (by unfold atI ixN;simp;rw[if_pos (by omega)];rfl)
theorem U9:oIx (.list (u::xs)) (.int 0) R=R u:=YB (by unfold atI ixN;simp)
theorem Ya:oIx (.list (u::v::xs)) (.int 1) R=R v:=YB (by unfold atI ixN;simp;rw[if_pos (by omega)];rfl)
theorem Yf:truD (.bool a) Rb=Rb a:=propext Iff.rfl
theorem Yg:truD (.list xs) Rb=Rb (!xs.isEmpty):=propext Iff.rfl
theorem UR:bolD (.bool a) Rb=Rb a:=propext Iff.rfl
theorem Yd:bLen [.list xs] R=R (.int xs.length):=propext Iff.rfl
theorem Ye:bLen [.tuple xs] R=R (.int xs.length):=propext Iff.rfl
theorem Yl{ns:List Int}:bLen [SCR ns] R=R (.int ns.length):=by show R (.int (ns.map PyData.int).length)=_;rw[List.length_map]
theorem UI:bMin [.int i,.int j] R=R (.int (if j<i then j else i)):=propext Iff.rfl
theorem UH:bMax [.int i,.int j] R=R (.int (if j > i then j else i)):=propext Iff.rfl
theorem U8:bInt [.bool a] R=R (.int (if a then 1 else 0)):=propext Iff.rfl
theorem Ym:Zm [.list xs] R=R (.tuple xs):=propext Iff.rfl
theorem Yp{Rl:List PyData->Prop}:YQ (.list xs) Rl=Rl xs:=propext Iff.rfl
theorem zrh(y:String)(h:y∈["NoneType","bool","int","str","list","tuple","dict"]):kitB y "int" = some (decide (y = "int")||decide (y = "bool")):=by
 simp only[List.mem_cons,List.not_mem_nil,or_false]at h;rcases h with rfl|rfl|rfl|rfl|rfl|rfl|rfl <;> decide +kernel
theorem zpb(y:String)(h:y∈["NoneType","bool","int","str","list","tuple","dict"]):kitB y "bool" = some (decide (y = "bool")):=by
 simp only[List.mem_cons,List.not_mem_nil,or_false]at h;rcases h with rfl|rfl|rfl|rfl|rfl|rfl|rfl <;> decide +kernel
theorem zni(y:String)(h:y∈["NoneType","bool","int","str","list","tuple","dict"]):kitB y "tuple" = some (decide (y = "tuple")):=by
 simp only[List.mem_cons,List.not_mem_nil,or_false]at h;rcases h with rfl|rfl|rfl|rfl|rfl|rfl|rfl <;> decide +kernel
def Pln(t:PyData):Prop:=tyN t≠none
def isInt:PyData->Bool|.int _=>true|.bool _=>true|_=>false
def isBool:PyData->Bool|.bool _=>true|_=>false
def isTup:PyData->Bool|.tuple _=>true|_=>false
variable{d:DTE}{ρ:En}{n:Nat}{Rn:qN}
theorem zh3{y:String}(h:tyN u=some y):y∈["NoneType","bool","int","str","list","tuple","dict"]:=by
 unfold tyN at h;split at h <;> cases h <;> simp
def isiD(f:PyData->Bool)(d:DTE):DTE:=fun ρ n R=>d ρ n fun t n1=>Pln t/\R (.bool (f t)) n1
end
section
variable{X:Cx}{e:Expr}{d:DTE}{p p2 pos:Pos}
theorem QH{T:String}{f:PyData->Bool}{y:Str}(hk:∀t y,tyN t=some y->kitB y T=some (f t))(hm:X.mg "isinstance" = none) (hmT:X.mg y=none) (hT:bootBuiltins y=some (.type T)) (h:DL X e d) (hs:starEach (e::[.Name y p2]) X.env=(false,eval e X.env)::starEach [.Name y p2] X.env) (hg:Gl X "isinstance":=by rfl) (hgT:Gl X y:=by rfl) (hn:y ≠ "__name__":=by decide) (hd:(y == ("__debug__":Str))=false:=by decide) :
  DE X (.Call (.Name "isinstance" p) [e,.Name y p2] [] pos) (isiD f d):=by
 obtain⟨ta,pa,h⟩:=h;refine⟨_,Z2 zmh hm znN (QZ pa (zoS (Bd.ztJ hmT hT hgT hn hd) Us) hs) hg,fun C ρ σ H n Q R S hd hq=>?_⟩
 refine h C ρ σ H n _ _ S hd fun t n1 v H1 r1 e1 h1 q1=>?_
 cases et:tyN t with
 | none=>exact absurd et r1.1
 | some z=>exact⟨v,C.hd,Own C ρ σ,t,T,z,f t,rfl,q1,et,hk t z et,hq _ n1 _ H1 r1.2 e1 h1 (.bl _)⟩
theorem zn9:∀t y,tyN t=some y->kitB y "int" = some (isInt t):=fun t y e=>by
 rw[zrh y (zh3 e)];unfold tyN at e;split at e <;> cases e <;> rfl
theorem ziQ:∀t y,tyN t=some y->kitB y "bool" = some (isBool t):=fun t y e=>by
 rw[zpb y (zh3 e)];unfold tyN at e;split at e <;> cases e <;> rfl
theorem YY:∀t y,tyN t=some y->kitB y "tuple" = some (isTup t):=fun t y e=>by
 rw[zni y (zh3 e)];unfold tyN at e;split at e <;> cases e <;> rfl
theorem Q0{i:Int}:Pln (.int i):=by simp[Pln,tyN]
theorem QY{i:Bool}:Pln (.bool i):=by simp[Pln,tyN]
theorem Q8{i:Str}:Pln (.str i):=by simp[Pln,tyN]
theorem Uc{i:qD}:Pln (.tuple i):=by simp[Pln,tyN]
theorem Ua{i:qD}:Pln (.list i):=by simp[Pln,tyN]
theorem Ub:Pln .none:=by simp[Pln,tyN]
theorem Q9:Pln (.dict []):=by simp[Pln,tyN]
end
abbrev blk(i h:Int):PyData:=.tuple [.int i,.int h]
theorem QX{i h:Int}:Okd (.tuple [.int i,.int h]):=⟨by simp[PyData.canLay0,PyData.canLayAll0],by simp[PyData.depth,PyData.depthAll]⟩
theorem zgF{i h j g:Int}:PyData.eqv (.tuple [.int i,.int h]) (.tuple [.int j,.int g])=(decide (i=j)&&decide (h=g)):=by
 simp only[PyData.eqv,PyData.eqvAll,Bool.and_true];rw[Bool.beq_eq_decide_eq,Bool.beq_eq_decide_eq]
def IsBk(bits i h:Int):Prop:=0<=h/\h<=bits/\∃k:Int,0<=k/\i=k*2 ^ h.toNat/\k<2 ^ (bits - h).toNat
theorem zgg(k:Nat):(0:Int)<2 ^ k:=Bd.QL k
theorem zjd{a b:Nat}:(2:Int) ^ (a+b)=2 ^ a*2 ^ b:=Int.pow_add 2 a b
theorem IsBk.bounds{bits i h:Int}(b0:0<=bits)(H:IsBk bits i h):0<=i/\i+2 ^ h.toNat<=2 ^ bits.toNat:=by
 obtain⟨h0,h1,k,k0,rfl,k1⟩:=H;have p:=zgg h.toNat;refine⟨Int.mul_nonneg k0 (Int.le_of_lt p),?_⟩;have e:bits.toNat=(bits - h).toNat+h.toNat:=by lia
 rw[e,zjd];have:(k+1)*2 ^ h.toNat<=2 ^ (bits - h).toNat*2 ^ h.toNat:=Int.mul_le_mul_of_nonneg_right (by lia) (Int.le_of_lt p)
 rw[Int.add_mul,Int.one_mul]at this;exact this
theorem cpow{j:Int}(h0:0<=j)(h1:j<=1000000):CPow 1 j:=⟨h0,h1,by decide⟩
section
variable{t u tb:DTS}{D:DEnds}{ρ ρ0:En}{n i j m:Nat}{d da db dc d1 d2:DTE}{ds di:DTA}{c c' tt:DTT}{g:G2}{g':G2}{gc:GC}{gd:GD}{tg:DTG}{tgs:DTGs}{R:qN}{Rb:Bool->Nat->Prop}{Rl:List PyData->Nat->Prop}{Re:En->Prop}{x y:PyData}{xs ys acc:qD}{f:Int->Int->Int}{fb:PyData->Bool}{k:Bool}{capt:List Nat}{h:Option Cell}
theorem YJ:(sSeq t u D ρ n)=(t { D with nx:=u D } ρ n):=propext Iff.rfl
theorem YI:(sRet d D ρ n)=(d ρ n fun t n'=>D.rt t n'):=propext Iff.rfl
theorem YK:(sSet i d D ρ n)=(d ρ n fun t n'=>D.nx (ρ.set i (some (.val t))) n'):=propext Iff.rfl
theorem YH:(sAsg d tg D ρ n)=(d ρ n fun t n'=>tg t ρ fun ρ'=>D.nx ρ' n'):=propext Iff.rfl
theorem u_dC:(dC x ρ n R)=(R x n):=propext Iff.rfl
theorem Yy:(dOp g da db ρ n R)=(da ρ n fun x n1=>db ρ n1 fun y n2=>g x y fun z=>R z n2):=propext Iff.rfl
theorem YD:(dNew ds ρ n R)=(ds ρ n fun ts n'=>R (.list ts) n'):=propext Iff.rfl
theorem YF:(dTup ds ρ n R)=(ds ρ n fun ts n1=>R (.tuple ts) n1):=propext Iff.rfl
theorem YE:(dNil ρ n Rl)=(Rl [] n):=propext Iff.rfl
theorem YT:(Qq d ds ρ n Rl)=(d ρ n fun t n1=>ds ρ n1 fun ts n2=>Rl (t::ts) n2):=propext Iff.rfl
theorem Yx:(dFn gd ds ρ n R)=(ds ρ n fun ts n1=>gd ts n1 R):=propext Iff.rfl
theorem Y0:(Zo gc ds ρ n R)=(ds ρ n fun ts n1=>gc ts fun z=>R z n1):=propext Iff.rfl
theorem Y2:(Qi i x ρ Re)=(Re (ρ.set i (some (.val x)))):=propext Iff.rfl
theorem YV:(UY tgs (.tuple xs) ρ Re)=(tgs xs ρ Re):=propext Iff.rfl
theorem YU:(UX [] ρ Re)=(Re ρ):=propext Iff.rfl
theorem Y1:(QW tg tgs (x::xs) ρ Re)=(tg x ρ fun ρ'=>tgs xs ρ' Re):=propext Iff.rfl
def cVal:Option Cell->(PyData->Prop)->Prop
 | some (.val d),R=>R d
 | _,_=>False
def cOwn:Option Cell->(List PyData->Prop)->Prop
 | some (.own d),R=>R d
 | _,_=>False
theorem YR{Q:PyData->Prop}:cVal (some (.val x)) Q=Q x:=propext Iff.rfl
theorem YG:dVar i ρ n R=cVal (ρ.getD i none) fun d=>R d n:=by
 unfold dVar;rw[List.getD_eq_getElem?_getD];cases e:ρ[i]? with
 | none=>exact propext Iff.rfl
 | some o=>cases o with
  | none=>exact propext Iff.rfl
  | some c=>cases c <;> exact propext Iff.rfl
theorem Yn:Yv d ρ n Rb=(d ρ n fun t n'=>bolD t fun b=>Rb b n'):=by
 unfold Yv;congr 1
 funext t n'
 cases t <;> exact propext Iff.rfl
def lLst:PyData->(List PyData->Prop)->Prop
 | .list xs,R=>R xs
 | _,_=>False
def lTup:PyData->(List PyData->Prop)->Prop
 | .tuple xs,R=>R xs
 | _,_=>False
theorem U1:dItL d ρ n Rl=(d ρ n fun t n'=>lLst t fun ts=>Rl ts n'):=by
 unfold dItL;congr 1
 funext t n'
 cases t <;> exact propext Iff.rfl
theorem U2:dItT d ρ n Rl=(d ρ n fun t n'=>lTup t fun ts=>Rl ts n'):=by
 unfold dItT;congr 1
 funext t n'
 cases t <;> exact propext Iff.rfl
def lInt:PyData->(Int->Prop)->Prop
 | .int i,R=>R i
 | _,_=>False
theorem Yq:Zg d ρ n Rl=(d ρ n fun t n'=>lInt t fun j=>(-(2 ^ 62)<=j/\j<2 ^ 62)/\Rl (J4 0 j.toNat) n'):=by
 unfold Zg;congr 1
 funext t n'
 cases t <;> exact propext Iff.rfl
theorem U3:dNeg d ρ n R=(d ρ n fun t n'=>lInt t fun i=>R (.int (-i)) n'):=by
 unfold dNeg;congr 1
 funext t n'
 cases t <;> exact propext Iff.rfl
def Ze:List PyData->(PyData->PyData->Prop)->Prop
 | [x,y],R=>R x y
 | _,_=>False
theorem U4:sPar i j ds D ρ n=(ds ρ n fun ts n'=>Ze ts fun t u=>D.nx ((ρ.set i (some (.val t))).set j (some (.val u))) n'):=by
 unfold sPar;congr 1
 funext ts n'
 rcases ts with _|⟨a,_|⟨b,_|⟨c,r⟩⟩⟩ <;> exact propext Iff.rfl
theorem UZ:sAug i f d D ρ n=cVal (ρ.getD i none) fun v=>lInt v fun q=>d ρ n fun t n'=>lInt t fun k=>D.nx (ρ.set i (some (.val (.int (f q k))))) n':=by
 unfold sAug;rw[List.getD_eq_getElem?_getD];cases e:ρ[i]? with
 | none=>exact propext Iff.rfl
 | some o=>cases o with
  | none=>exact propext Iff.rfl
  | some c=>cases c with
   | own _=>exact propext Iff.rfl
   | dct _=>exact propext Iff.rfl
   | dtt _=>exact propext Iff.rfl
   | rdo _=>exact propext Iff.rfl
   | val v=>cases v with
    | int q =>
     show(d ρ n fun t n'=>_)=(d ρ n fun t n'=>_)
     congr 1
     funext t n'
     cases t <;> exact propext Iff.rfl
    | _=>exact propext Iff.rfl
theorem Yu:YL g g' da db dc ρ n R=(da ρ n fun x n1=>db ρ n1 fun y n2=>g x y fun z=>bolD z fun b=>if b=true then dc ρ n2 fun w n3=>g' y w fun z=>R z n3 else R (.bool false) n2):=by
 unfold YL;congr 1
 funext x n1
 congr 1
 funext y n2
 congr 1
 funext z
 cases z with
 | bool b=>cases b <;> simp[bolD]
 | _=>exact propext Iff.rfl
def UQ(ρ:En)(i:Nat)(D:DEnds)(dj:DTE)(t:PyData)(n1:Nat)(ts:qD):Prop:=dj ρ n1 fun j n2=>lInt j fun j=>(match ixN ts.length j with|some k=>D.nx (ρ.set i (some (.own (ts.set k t)))) n2|none=>False)
theorem U0{dj:DTE}:sPut i dj d D ρ n=(d ρ n fun t n1=>cOwn (ρ.getD i none) fun xs=>UQ ρ i D dj t n1 xs):=by
 unfold sPut;congr 1
 funext t n1
 rw[List.getD_eq_getElem?_getD];cases e:ρ[i]? with
 | none=>exact propext Iff.rfl
 | some o=>cases o with
  | none=>exact propext Iff.rfl
  | some c=>cases c with
   | val _=>exact propext Iff.rfl
   | dct _=>exact propext Iff.rfl
   | dtt _=>exact propext Iff.rfl
   | rdo _=>exact propext Iff.rfl
   | own xs =>
    show(dj ρ n1 fun j n2=>_)=UQ ρ i D dj t n1 xs
    unfold UQ;congr 1
    funext j n2
    cases j <;> exact propext Iff.rfl
end
section
variable{t u tb:DTS}{D:DEnds}{ρ ρ0:En}{n i j m:Nat}{d da db dc d1 d2:DTE}{ds di:DTA}{c c' tt:DTT}{g:G2}{g':G2}{gc:GC}{gd:GD}{tg:DTG}{tgs:DTGs}{R:qN}{Rb:Bool->Nat->Prop}{Rl:List PyData->Nat->Prop}{Re:En->Prop}{x y:PyData}{xs ys acc:qD}{f:Int->Int->Int}{fb:PyData->Bool}{k:Bool}{capt:List Nat}
theorem zrF(h:t { D with nx:=u D } ρ n):sSeq t u D ρ n:=h
theorem zpj(h:D.nx ρ n):zou D ρ n:=h
theorem zrG(h:d ρ n fun t n'=>D.rt t n'):sRet d D ρ n:=h
theorem zug(h:c ρ n fun b n1=>if b=true then t D ρ n1 else u D ρ n1):sIf c t u D ρ n:=h
theorem zrJ(h:d ρ n fun t n'=>tg t ρ fun ρ'=>D.nx ρ' n'):sAsg d tg D ρ n:=h
theorem zrI(h:di ρ n fun ts n1=>forP tg tb D ts ρ n1):sFor di tg tb D ρ n:=h
theorem i_dC(h:R x n):dC x ρ n R:=h
theorem zuk(h:da ρ n fun x n1=>db ρ n1 fun y n2=>g x y fun z=>R z n2):dOp g da db ρ n R:=h
theorem zrU(h:ds ρ n fun ts n'=>R (.list ts) n'):dNew ds ρ n R:=h
theorem zrP(h:ds ρ n fun ts n1=>R (.tuple ts) n1):dTup ds ρ n R:=h
theorem zrT(h:Rl [] n):dNil ρ n Rl:=h
theorem zpp(h:d ρ n fun t n1=>ds ρ n1 fun ts n2=>Rl (t::ts) n2):Qq d ds ρ n Rl:=h
theorem zul(h:ds ρ n fun ts n1=>gd ts n1 R):dFn gd ds ρ n R:=h
theorem zrY(h:ds ρ n fun ts n1=>gd ts n1 fun t n2=>JY t=true/\R t n2):dFnL gd ds ρ n R:=h
theorem znq(h:ds ρ n fun ts n1=>gc ts fun z=>R z n1):Zo gc ds ρ n R:=h
theorem zrZ(h:c ρ n fun b n1=>if b=true then c' ρ n1 Rb else Rb false n1):dAnd c c' ρ n Rb:=h
theorem zuj(h:c ρ n fun b n1=>if b=true then Rb true n1 else c' ρ n1 Rb):dOr c c' ρ n Rb:=h
theorem zrS(h:c ρ n fun b n1=>Rb (!b) n1):dNot c ρ n Rb:=h
theorem zpr(h:da ρ n fun t n1=>bolD t fun b=>if b=true then db ρ n1 R else R (.bool false) n1):zpN da db ρ n R:=h
theorem zrR(h:da ρ n fun t n1=>bolD t fun b=>if b=true then R (.bool true) n1 else db ρ n1 R):dOrV da db ρ n R:=h
theorem zpo(h:da ρ n fun t n1=>bolD t fun b=>R (.bool (!b)) n1):zpM da ρ n R:=h
theorem zrQ(h:d ρ n fun t n'=>truD t fun b=>Rb b n'):dTru d ρ n Rb:=h
theorem zpq(h:di ρ n fun ts n1=>JM tg tt d (JA m capt ρ) ts [] n1 Rl):dComp m capt di tg tt d ρ n Rl:=h
theorem zrO(h:Rb true n):dYes ρ n Rb:=h
theorem zph(h:tgs xs ρ Re):UY tgs (.tuple xs) ρ Re:=h
theorem zpi(h:Re ρ):UX [] ρ Re:=h
theorem zno(h:tg x ρ fun ρ'=>tgs xs ρ' Re):QW tg tgs (x::xs) ρ Re:=h
theorem zpk(h:d ρ n fun t n'=>bolD t fun b=>Rb b n'):Yv d ρ n Rb:=Yn.symm▸h
theorem zrX(h:d ρ n fun t n'=>lLst t fun ts=>Rl ts n'):dItL d ρ n Rl:=U1.symm▸h
theorem zrW(h:d ρ n fun t n'=>lTup t fun ts=>Rl ts n'):dItT d ρ n Rl:=U2.symm▸h
theorem zpm(h:d ρ n fun t n'=>lInt t fun j=>(-(2 ^ 62)<=j/\j<2 ^ 62)/\Rl (J4 0 j.toNat) n'):Zg d ρ n Rl:=Yq.symm▸h
theorem zrV(h:d ρ n fun t n'=>lInt t fun i=>R (.int (-i)) n'):dNeg d ρ n R:=U3.symm▸h
theorem znp(h:da ρ n fun x n1=>db ρ n1 fun y n2=>g x y fun z=>bolD z fun b=>if b=true then dc ρ n2 fun w n3=>g' y w fun z=>R z n3 else R (.bool false) n2):YL g g' da db dc ρ n R:=Yu.symm▸h
theorem zrH(h:ds ρ n fun ts n'=>Ze ts fun t u=>D.nx ((ρ.set i (some (.val t))).set j (some (.val u))) n'):sPar i j ds D ρ n:=U4.symm▸h
def lIsi(fb:PyData->Bool)(t:PyData)(R:PyData->Prop):Prop:=Pln t/\R (.bool (fb t))
theorem zrN(h:d ρ n fun t n1=>lIsi fb t fun z=>R z n1):isiD fb d ρ n R:=h
def Zx:List PyData->Option (List Bool)
 | []=>some []
 | .bool b::r=>(Zx r).map (b::·)
 | _=>none
theorem zfx:∀{xs:qD}{bs:List Bool},Zx xs=some bs->xs=bs.map PyData.bool
 | [],_,h=>by cases h;rfl
 | .bool b::r,bs,h=>by
  unfold Zx at h;cases e:Zx r with
  | none=>rw[e]at h;cases h
  | some cs=>rw[e]at h;cases h;rw[zfx e];rfl
 | .none::_,_,h=>by cases h
 | .int _::_,_,h=>by cases h
 | .str _::_,_,h=>by cases h
 | .list _::_,_,h=>by cases h
 | .tuple _::_,_,h=>by cases h
 | .dict _::_,_,h=>by cases h
theorem zn6(e:ρ[i]?=some (some (.val x)))(h:R x n):dVar i ρ n R:=by unfold dVar;rw[e];exact h
theorem zn7(e:ρ[i]?=some (some (.own xs)))(h:R (.list xs) n):dOwn i ρ n R:=by unfold dOwn;rw[e];exact h
theorem zjs(e:ρ[i]?=some (some (.own xs)))(h:d ρ n fun t n'=>xs.length<16777216/\D.nx (ρ.set i (some (.own (xs++[t])))) n'):Zu i d D ρ n:=by unfold Zu;rw[e];exact h
theorem zjr(e:ρ[i]?=some (some (.own xs)))(h:t D (ρ.set i (some (.val (.list xs)))) n):Zv i t D ρ n:=by unfold Zv;rw[e];exact h
theorem zum{q:Int}(e:ρ[i]?=some (some (.val (.int q))))(h:d ρ n fun t n'=>lInt t fun k=>D.nx (ρ.set i (some (.val (.int (f q k))))) n'):sAug i f d D ρ n:=by
 rw[UZ,List.getD_eq_getElem?_getD,e];exact h
theorem zuh{dj:DTE}(e:ρ[i]?=some (some (.own xs)))(h:d ρ n fun t n1=>UQ ρ i D dj t n1 xs):sPut i dj d D ρ n:=by
 rw[U0,List.getD_eq_getElem?_getD,e];exact h
theorem zrK{dj:DTE}(h:dj ρ n fun j n2=>lInt j fun j=>(match ixN xs.length j with|some k=>D.nx (ρ.set i (some (.own (xs.set k x)))) n2|none=>False)):UQ ρ i D dj x n xs:=h
theorem zui{b:Bool}{A B:Prop}(h1:b=true->A)(h2:b=false->B):if b=true then A else B:=by cases b with|true=>exact iteT (h1 rfl)|false=>exact iteF (h2 rfl)
theorem zrM{p:Prop}[Decidable p]{A B:Prop}(h1:p->A)(h2:¬p->B):if decide p=true then A else B:=by
 by_cases h:p
 ·rw[decide_eq_true h];exact iteT (h1 h)
 ·rw[decide_eq_false h];exact iteF (h2 h)
theorem zrL{b:Bool}{A B:Prop}(h:if b=true then B else A):if (!b)=true then A else B:=by
 cases b with|true=>exact iteF h|false=>exact iteT h
end
section
variable{C:Int->Int->Prop}{f:Int->Int->Int}{fb:Int->Int->Bool}{i j k:Int}{R:PyData->Prop}{Rb:Bool->Prop}{xs ys:qD}{s t:Str}{a b:Bool}{u v x y:PyData}{Rn:qN}{n:Nat}
theorem zrz(h:R (.int (i+j))):oAdd (.int i) (.int j) R:=U6.symm▸h
theorem zry(h:(xs.length+ys.length<=16777216/\R (.tuple (xs++ys)))):oAdd (.tuple xs) (.tuple ys) R:=U7.symm▸h
theorem zub(h:R (.bool (decide (i=j)))):oEq (.int i) (.int j) R:=US.symm▸h
theorem zua(h:(Okd (.tuple xs)/\Okd (.tuple ys)/\R (.bool (PyData.eqv (.tuple xs) (.tuple ys))))):oEq (.tuple xs) (.tuple ys) R:=UT.symm▸h
theorem zt0(h:R (.bool (!decide (i=j)))):oNe (.int i) (.int j) R:=UJ.symm▸h
theorem ztY(h:(Okd (.tuple xs)/\Okd (.tuple ys)/\R (.bool (!PyData.eqv (.tuple xs) (.tuple ys))))):oNe (.tuple xs) (.tuple ys) R:=UL.symm▸h
theorem ztZ(h:(Okd (.list xs)/\Okd (.list ys)/\R (.bool (!PyData.eqv (.list xs) (.list ys))))):oNe (.list xs) (.list ys) R:=UK.symm▸h
theorem zt9(h:R (.bool (a == b))):oIs (.bool a) (.bool b) R:=UU.symm▸h
theorem zt8(h:R (.bool (isNone u))):oIs u .none R:=UV.symm▸h
theorem zpf(h:R (.bool (!isNone u))):oIsN u .none R:=Yo.symm▸h
theorem zt5(h:R (.bool (decide (i<j)))):oLtA (.int i) (.int j) R:=UG.symm▸h
theorem zt7(h:R (.bool (decide (i<=j)))):oLeA (.int i) (.int j) R:=UF.symm▸h
theorem zrq(h:R u):oIx (.tuple (u::xs)) (.int 0) R:=Yb.symm▸h
theorem zrp(h:R v):oIx (.tuple (u::v::xs)) (.int 1) R:=Yc.symm▸h
theorem zrv(h:R u):oIx (.list (u::xs)) (.int 0) R:=U9.symm▸h
theorem zru(h:R v):oIx (.list (u::v::xs)) (.int 1) R:=Ya.symm▸h
theorem zrj(h:Rb a):truD (.bool a) Rb:=Yf.symm▸h
theorem zri(h:Rb (!xs.isEmpty)):truD (.list xs) Rb:=Yg.symm▸h
theorem zuc(h:Rb a):bolD (.bool a) Rb:=UR.symm▸h
theorem zrn(h:R (.int xs.length)):bLen [.list xs] R:=Yd.symm▸h
theorem zrm(h:R (.int xs.length)):bLen [.tuple xs] R:=Ye.symm▸h
theorem znk{ns:List Int}(h:R (.int ns.length)):bLen [SCR ns] R:=Yl.symm▸h
theorem zt3(h:R (.int (if j<i then j else i))):bMin [.int i,.int j] R:=UI.symm▸h
theorem zt4(h:R (.int (if j > i then j else i))):bMax [.int i,.int j] R:=UH.symm▸h
theorem zrw(h:R (.int (if a then 1 else 0))):bInt [.bool a] R:=U8.symm▸h
theorem znj(h:R (.tuple xs)):Zm [.list xs] R:=Ym.symm▸h
theorem zpe{Rl:List PyData->Prop}(h:Rl xs):YQ (.list xs) Rl:=Yp.symm▸h
theorem zt6{Q:List PyData->Prop}(h:Q xs):lLst (.list xs) Q:=h
theorem ztV{Q:List PyData->Prop}(h:Q xs):lTup (.tuple xs) Q:=h
theorem zt_{i:Int}{Q:Int->Prop}(h:Q i):lInt (.int i) Q:=h
theorem zrl{Q:PyData->PyData->Prop}(h:Q x y):Ze [x,y] Q:=h
theorem zt1(c:CMul i j)(h:R (.int (i*j))):oMul (.int i) (.int j) R:=⟨c,h⟩
theorem zt2(c:0<j)(h:R (.int (i % j))):oMod (.int i) (.int j) R:=⟨c,h⟩
theorem zrx(c:Za i j)(h:R (.int (i / j))):Q4 (.int i) (.int j) R:=⟨c,h⟩
theorem ztX(c:CPow i j)(h:R (.int (i*2 ^ j.toNat))):oShl (.int i) (.int j) R:=⟨c,h⟩
theorem ztW(h:R (.int (i - j))):oSub (.int i) (.int j) R:=h
theorem ztU(h:R (.int (Builtin.bitXor i j))):oXor (.int i) (.int j) R:=h
theorem zud(h:R (.int (Builtin.bitAnd i j))):oAnd (.int i) (.int j) R:=h
theorem j_gB(h:R (.bool (fb i j))):gB fb (.int i) (.int j) R:=h
theorem ziL(h:R (.bool true)):lIsi isInt (.int i) R:=⟨Q0,h⟩
theorem zhr(h:R (.bool true)):lIsi isInt (.bool a) R:=⟨QY,h⟩
theorem ziK(h:R (.bool false)):lIsi isInt (.str s) R:=⟨Q8,h⟩
theorem zgy(h:R (.bool false)):lIsi isInt (.tuple xs) R:=⟨Uc,h⟩
theorem zhp(h:R (.bool false)):lIsi isInt (.list xs) R:=⟨Ua,h⟩
theorem zho(h:R (.bool false)):lIsi isInt (.none) R:=⟨Ub,h⟩
theorem zhq(h:R (.bool false)):lIsi isInt (.dict []) R:=⟨Q9,h⟩
theorem zhs(h:R (.bool false)):lIsi isBool (.int i) R:=⟨Q0,h⟩
theorem zgz(h:R (.bool true)):lIsi isBool (.bool a) R:=⟨QY,h⟩
theorem ziJ(h:R (.bool false)):lIsi isTup (.int i) R:=⟨Q0,h⟩
theorem zhn(h:R (.bool false)):lIsi isTup (.bool a) R:=⟨QY,h⟩
theorem ziI(h:R (.bool false)):lIsi isTup (.str s) R:=⟨Q8,h⟩
theorem zgx(h:R (.bool true)):lIsi isTup (.tuple xs) R:=⟨Uc,h⟩
theorem zhl(h:R (.bool false)):lIsi isTup (.list xs) R:=⟨Ua,h⟩
theorem zhk(h:R (.bool false)):lIsi isTup (.none) R:=⟨Ub,h⟩
theorem zhm(h:R (.bool false)):lIsi isTup (.dict []) R:=⟨Q9,h⟩
theorem zue{bs:List Bool}(e:Zx xs=some bs)(h:R (.bool (bs.all id))):bAll [.list xs] R:=⟨bs,zfx e,h⟩
end
theorem Zh{h:Int}(h0:0<h):(2:Int) ^ h.toNat=2*2 ^ (h - 1).toNat:=by
 have e:h.toNat=(h - 1).toNat+1:=by lia
 rw[e,Int.pow_succ,Int.mul_comm]
theorem zqG{h:Int}(h0:0<=h):(2:Int) ^ (h+1).toNat=2*2 ^ h.toNat:=by
 have:=Zh (h:=h+1) (by lia)
 rw[this];simp
theorem IsBk.low{bits i h:Int}(B:IsBk bits i h)(hh:0<h):IsBk bits i (h - 1):=by
 obtain⟨h0,h1,k,k0,rfl,k1⟩:=B;refine⟨by lia,by lia,2*k,by lia,?_,?_⟩
 ·rw[Zh hh,<- Int.mul_assoc,Int.mul_comm k 2]
 ·have e:(bits - (h - 1)).toNat=(bits - h).toNat+1:=by lia
  rw[e,Int.pow_succ];lia
theorem IsBk.up{bits i h:Int}(B:IsBk bits i h)(hh:0<h):IsBk bits (i+2 ^ h.toNat / 2) (h - 1):=by
 obtain⟨h0,h1,k,k0,rfl,k1⟩:=B;refine⟨by lia,by lia,2*k+1,by lia,?_,?_⟩
 ·rw[Zh hh];have:2*(2:Int) ^ (h - 1).toNat / 2=2 ^ (h - 1).toNat:=by lia
  rw[this,Int.add_mul,Int.one_mul,<- Int.mul_assoc,Int.mul_comm k 2]
 ·have e:(bits - (h - 1)).toNat=(bits - h).toNat+1:=by lia
  rw[e,Int.pow_succ];lia
theorem znc{k:Int}(P:Int)(hP:0<P):k*P % (2*P)=(k % 2)*P:=by
 rw[Int.mul_comm 2 P,Int.mul_comm k P,Int.mul_emod_mul_of_pos _ _ hP,Int.mul_comm]
theorem IsBk.abt{bits i h:Int}(B:IsBk bits i h)(hh:h<bits):IsBk bits (i - i % (2*2 ^ h.toNat)) (h+1):=by
 obtain⟨h0,h1,k,k0,rfl,k1⟩:=B;refine⟨by lia,by lia,k / 2,by lia,?_,?_⟩
 ·rw[znc _ (zgg _),zqG h0,<- Int.sub_mul];have:k - k % 2=k / 2*2:=by lia
  rw[this,Int.mul_assoc]
 ·have e:(bits - h).toNat=(bits - (h+1)).toNat+1:=by lia
  rw[e,Int.pow_succ]at k1;lia
theorem IsBk.oth{bits i h:Int}(B:IsBk bits i h)(hh:h<bits):IsBk bits (Builtin.bitXor i (2 ^ h.toNat)) h:=by
 obtain⟨h0,h1,k,k0,rfl,k1⟩:=B;rw[zi5 _ k0];have e:(bits - h).toNat=(bits - (h+1)).toNat+1:=by lia
 split
 ·refine⟨h0,h1,k+1,by lia,by rw[Int.add_mul,Int.one_mul],?_⟩
  rw[e,Int.pow_succ]at k1 ⊢;lia
 ·refine⟨h0,h1,k - 1,by lia,by rw[Int.sub_mul,Int.one_mul],by lia⟩
theorem IsBk.nxt{bits i h:Int}(B:IsBk bits i h)(hh:i+2*2 ^ h.toNat<=2 ^ bits.toNat):IsBk bits (i+2 ^ h.toNat) h:=by
 obtain⟨h0,h1,k,k0,rfl,k1⟩:=B;refine⟨h0,h1,k+1,by lia,by rw[Int.add_mul,Int.one_mul],?_⟩
 have e:bits.toNat=(bits - h).toNat+h.toNat:=by lia
 rw[e,zjd]at hh;have p:=zgg h.toNat;have:(k+2)*2 ^ h.toNat<=2 ^ (bits - h).toNat*2 ^ h.toNat:=by rw[Int.add_mul];exact hh
 have:=Int.le_of_mul_le_mul_right this p;lia
theorem zuw{j:Int}:CMul 2 j:=.inl ⟨by decide,by decide⟩
theorem zpP{j:Int}:Za j 2:=⟨by decide,by decide⟩
theorem UD(h:Nat):(1:Int)*2 ^ h=2 ^ h:=Int.one_mul _
def BlkN(bits i:Int)(h:Nat):Prop:=(h:Int)<=bits/\∃k:Int,0<=k/\i=k*2 ^ h/\k<2 ^ (bits.toNat - h)
theorem IsBk.n{bits i h:Int}(B:IsBk bits i h):BlkN bits i h.toNat:=by
 obtain⟨h0,h1,k,k0,e,k1⟩:=B;refine⟨by lia,k,k0,e,?_⟩
 have:(bits - h).toNat=bits.toNat - h.toNat:=by lia
 rw[<- this];exact k1
theorem zmm{bits j:Int}{g h:Nat}(b:BlkN bits j g)(l:g<=h):j / 2 ^ h*2 ^ h<=j/\j+2 ^ g<=(j / 2 ^ h+1)*2 ^ h:=by
 obtain⟨_,m,m0,rfl,_⟩:=b;have pA:=Bd.QL h;have pB:=Bd.QL g;have pC:=Bd.QL (h - g);have eA:(2:Int) ^ h=2 ^ (h - g)*2 ^ g:=by rw[<- Int.pow_add];congr 1;lia
 refine⟨Int.ediv_mul_le _ (by lia),?_⟩
 have eq:(m*2 ^ g) / 2 ^ h=m / 2 ^ (h - g):=by rw[eA];exact Int.mul_ediv_mul_of_pos_left m _ pB
 rw[eq,eA,<- Int.mul_assoc];have e1:m*2 ^ g+2 ^ g=(m+1)*2 ^ g:=by rw[Int.add_mul,Int.one_mul]
 rw[e1];refine Int.mul_le_mul_of_nonneg_right ?_ (by lia)
 have:=Int.lt_ediv_add_one_mul_self m pC;lia
theorem zjl{a b A:Int}(p:0<A)(l:a<b):(a+1)*A<=b*A:=Int.mul_le_mul_of_nonneg_right (by lia) (by lia)
theorem ziP{bits i j:Int}{h g:Nat}(bi:BlkN bits i h)(bj:BlkN bits j g):(g<=h/\j / 2 ^ h*2 ^ h=i)↔(i<=j/\j+2 ^ g<=i+2 ^ h):=by
 have pA:=Bd.QL h;have pB:=Bd.QL g;constructor
 ·rintro⟨l,e⟩;have t:=zmm bj l;rw[e,Int.add_mul,Int.one_mul,e]at t;exact t
 ·rintro⟨l1,l2⟩;have l:g<=h:=by
   by_cases z:g<=h
   ·exact z
   ·exfalso;have:(2:Int) ^ h<2 ^ g:=by
     have e:(2:Int) ^ g=2 ^ (g - h)*2 ^ h:=by rw[<- Int.pow_add];congr 1;lia
     have p2:(2:Int)<=2 ^ (g - h):=by
      obtain⟨d,hd⟩:∃d,g - h=d+1:=⟨g - h - 1,by lia⟩
      rw[hd,Int.pow_succ];have:=Bd.QL d;lia
     rw[e];have:=Int.mul_le_mul_of_nonneg_right p2 (show(0:Int)<=2 ^ h by lia)
     lia
    lia
  refine⟨l,?_⟩;obtain⟨_,k,k0,rfl,_⟩:=bi;have e:j / 2 ^ h=k:=by
   have a1:k<=j / 2 ^ h:=(Int.le_ediv_iff_mul_le pA).mpr l1;have a2:j / 2 ^ h<k+1:=(Int.ediv_lt_iff_lt_mul pA).mpr (by rw[Int.add_mul,Int.one_mul];lia)
   lia
  rw[e]
theorem zhT{bits i j:Int}{h g:Nat}(bi:BlkN bits i h)(bj:BlkN bits j g)(l:g<=h):(g<=h/\j / 2 ^ h*2 ^ h=i)\/j+2 ^ g<=i\/i+2 ^ h<=j:=by
 have pA:=Bd.QL h;have t:=zmm bj l;obtain⟨_,k,k0,rfl,_⟩:=bi;rcases Int.lt_trichotomy (j / 2 ^ h) k with z|z|z
 ·have:=zjl pA z;exact .inr (.inl (by lia))
 ·exact .inl ⟨l,by rw[z]⟩
 ·have:=zjl pA z;rw[Int.add_mul,Int.one_mul]at this;exact .inr (.inr (by lia))
def hldD(i h j g:Int):Bool:=decide (g<=h)&&decide (j / 2 ^ h.toNat*2 ^ h.toNat=i)
theorem zn8{bits i h j g:Int}(A:IsBk bits i h)(B:IsBk bits j g):hldD i h j g=decide (i<=j/\j+2 ^ g.toNat<=i+2 ^ h.toNat):=by
 have:=ziP A.n B.n;unfold hldD;rw[<- Bool.decide_and];refine decide_eq_decide.mpr ⟨fun z=>this.mp ⟨by have:=A.1;have:=B.1;lia,z.2⟩,fun z=>?_⟩
 obtain⟨l,e⟩:=this.mpr z;exact⟨by have:=A.1;have:=B.1;lia,e⟩
theorem zlV{g:DTG}{tb:DTS}{D:DEnds}(Inv:Nat->En->Nat->Prop):∀(ts:qD) (i:Nat) {ρ:En}{n:Nat},Inv i ρ n ->
  (∀(k:Nat) (t:PyData) (ρ:En) (n:Nat) (K:En->Nat->Prop),ts[k]?=some t->Inv (i+k) ρ n->(∀ρ' n',Inv (i+k+1) ρ' n'->K ρ' n')->g t ρ fun ρ'=>tb { D with nx:=K,ct:=K,bk:=D.nx } ρ' n) ->
  (∀ρ n,Inv (i+ts.length) ρ n->D.nx ρ n)->forP g tb D ts ρ n
 | [],i,ρ,n,h0,_,fin=>fin ρ n (by simpa using h0)
 | t::ts,i,ρ,n,h0,turn,fin=>by
  refine turn 0 t ρ n _ rfl (by simpa using h0) fun ρ' n' h'=>?_
  refine zlV Inv ts (i+1) (by simpa using h') (fun k u ρ n K e hI hK=>?_) (fun ρ n h=>fin ρ n ?_)
  ·refine turn (k+1) u ρ n K (by simpa using e) ?_ fun ρ' n' h'=>hK ρ' n' ?_
   ·have:i+(k+1)=i+1+k:=by lia
    rw[this];exact hI
   ·have:i+1+k+1=i+(k+1)+1:=by lia
    rw[this];exact h'
  ·have:i+(t::ts).length=i+1+ts.length:=by simp;lia
   rw[this]at *;exact h
theorem Yk{g:DTG}{tb:DTS}{D:DEnds}{ts:qD}{ρ:En}{n:Nat}(Inv:Nat->En->Nat->Prop)(h0:Inv 0 ρ n)
  (turn:∀(k:Nat) (t:PyData) (ρ:En) (n:Nat) (K:En->Nat->Prop),ts[k]?=some t->Inv k ρ n->(∀ρ' n',Inv (k+1) ρ' n'->K ρ' n')->g t ρ fun ρ'=>tb { D with nx:=K,ct:=K,bk:=D.nx } ρ' n)
  (fin:∀ρ n,Inv ts.length ρ n->D.nx ρ n):forP g tb D ts ρ n:=by
 refine zlV Inv ts 0 h0 (fun k t ρ n K e hI hK=>turn k t ρ n K e (by simpa using hI) fun ρ' n' h'=>hK ρ' n' (by simpa using h')) fun ρ n h=>fin ρ n (by simpa using h)
theorem zfD{lo:Int}{m i:Nat}{t:PyData}(h:(J4 lo m)[i]?=some t):i<m/\t=.int (lo+(i:Int)):=by
 unfold J4 at h;rw[List.getElem?_map]at h
 by_cases hi:i<m
 ·rw[List.getElem?_range hi]at h;cases h;exact⟨hi,rfl⟩
 ·rw[List.getElem?_eq_none (by simp;lia)]at h
  cases h
theorem zdD{lo:Int}{m:Nat}:(J4 lo m).length=m:=by simp[J4]
theorem zgR{c:DTT}{tb:DTS}{D:DEnds}{ρ:En}{n:Nat}(Inv:Nat->En->Nat->Prop){m:Nat}(h0:Inv m ρ n)
  (turn:∀m ρ n,Inv m ρ n->c ρ n fun b n1=>if b=true then tb { D with nx:=fun ρ' n'=>∃m',m'<m/\Inv m' ρ' n',ct:=fun ρ' n'=>∃m',m'<m/\Inv m' ρ' n',bk:=D.nx } ρ n1 else D.nx ρ n1):zkQ c tb D ρ n :=
 ⟨Inv,⟨m,h0⟩,turn⟩
theorem IsBk.x1{bits i h:Int}(B:IsBk bits i h)(hh:0<h):Builtin.bitXor i (2 ^ (h - 1).toNat)=i+2 ^ h.toNat / 2:=by
 obtain⟨h0,h1,k,k0,rfl,k1⟩:=B;have e:k*2 ^ h.toNat=(2*k)*2 ^ (h - 1).toNat:=by rw[Zh hh,<- Int.mul_assoc,Int.mul_comm k 2]
 rw[e,zi5 _ (by lia),if_pos (by lia),Zh hh]
 lia
def rkAt(rk:Value->Int)(xs:Array Keyed)(i:Nat):Int:=((xs[i]?).map fun p=>rk p.1).getD 0
theorem Zt{rk:Value->Int}{xs ys:Array Keyed}{i j:Nat}(h:xs[i]?=ys[j]?):rkAt rk xs i=rkAt rk ys j:=by unfold rkAt;rw[h]
theorem znW{rk:Value->Int}{xs:Array Keyed}{u d:Nat}(hu:u<xs.size)(hd:d<=u)(k:Nat) :
  (k=u - d->rkAt rk (bubble xs u d) k=rkAt rk xs u)/\(u - d<k->k<=u->rkAt rk (bubble xs u d) k=rkAt rk xs (k - 1))/\(k<u - d\/u<k->rkAt rk (bubble xs u d) k=rkAt rk xs k):=by
 have e:=getElem?_bubble hu d hd k;refine⟨fun h=>?_,fun h1 h2=>?_,fun h=>?_⟩
 ·rw[if_pos h]at e;exact Zt e
 ·rw[if_neg (by lia),if_pos ⟨h1,h2⟩]at e;exact Zt e
 ·rw[if_neg (by lia),if_neg (by lia)]at e;exact Zt e
theorem zkS{rk:Value->Int}{xs:Array Keyed}{i j:Nat}(hj:j<=xs.size)(k:Nat) :
  (i<=k->k<j->rkAt rk (mirror xs i j ((j - i) / 2)) k=rkAt rk xs (i+j - 1 - k))/\(k<i\/j<=k->rkAt rk (mirror xs i j ((j - i) / 2)) k=rkAt rk xs k):=by
 have e:=getElem?_mirror_all (i:=i) hj k;refine⟨fun h1 h2=>?_,fun h=>?_⟩
 ·rw[if_pos ⟨h1,h2⟩]at e;exact Zt e
 ·rw[if_neg (by lia)]at e;exact Zt e
structure Sb(kd:SortKind)(a0:Array Keyed)(z:SortSt):Prop where
 pm:(arrOf z).Perm a0
 kn:kindOf z=kd
 fl:failedOf z=none
 pe:pendingOf z=#[]
def Up(rk:Value->Int)(xs:Array Keyed)(m:Nat):Prop:=∀i j,i<j->j<m->rkAt rk xs i<=rkAt rk xs j
def Dn(rk:Value->Int)(xs:Array Keyed)(m:Nat):Prop:=∀i j,i<j->j<m->rkAt rk xs j<=rkAt rk xs i
section
variable{prog:Program}{w:World}{A:Around}{E:qV}{s:Shared}{kd:SortKind}{rk:Value->Int}{a0:Array Keyed}
def Cmp(prog:Program)(w:World)(A:Around)(s:Shared)(kd:SortKind)(rk:Value->Int)(a0:Array Keyed):Prop :=
 ∀(p q:Keyed) (E:qV) (Q:Bool->Shared->Prop),p∈a0.toList->q∈a0.toList->Q (decide (rk p.1<rk q.1)) s->wpAny (model prog w) A (keyLt' kd p.1 q.1) Q E s
theorem Sb.sz{z:SortSt}(b:Sb kd a0 z):(arrOf z).size=a0.size:=b.pm.size_eq
theorem Sb.arr{z:SortSt}(b:Sb kd a0 z){xs:Array Keyed}(h:xs.Perm (arrOf z)):Sb kd a0 (setArr z xs):=⟨h.trans b.pm,b.kn,b.fl,b.pe⟩
theorem ask{z:SortSt}{i j:Nat}{Q:Option Bool->SortSt->Prop}(c:Cmp prog w A s kd rk a0)(b:Sb kd a0 z)(hi:i<a0.size)(hj:j<a0.size)
  (h:Q (some (decide (rkAt rk (arrOf z) i<rkAt rk (arrOf z) j))) z):wpS (model prog w) A E s (ltAt' i j) Q z:=by
 have mem:∀k,k<a0.size->∃p,(arrOf z)[k]?=some p/\p∈a0.toList:=fun k hk=>by
  have hk':k<(arrOf z).size:=by rw[b.sz];exact hk
  exact⟨(arrOf z)[k],Array.getElem?_eq_getElem hk',(Array.perm_iff_toList_perm.mp b.pm).mem_iff.mp (by simp)⟩
 obtain⟨p,ep,mp⟩:=mem i hi;obtain⟨q,eq,mq⟩:=mem j hj;have r1:rkAt rk (arrOf z) i=rk p.1:=by unfold rkAt;rw[ep];rfl
 have r2:rkAt rk (arrOf z) j=rk q.1:=by unfold rkAt;rw[eq];rfl
 rw[r1,r2]at h;rw[ltAt'_eq];refine wpS_bind (wpS_get ?_);show wpS (model prog w) A E s (elem' (arrOf z) i >>= fun x=>elem' (arrOf z) j >>= fun y=>lt' x y) Q z
 simp only[elem'_eq,ep,eq,pure_bind];rw[lt'_eq];refine wpS_bind (wpS_get (wpS_bind (wpS_lift (wpAny_attempt ?_))));rw[b.kn];exact c p q _ _ mp mq ⟨rfl,wpS_pure h⟩
theorem zsm{z:SortSt}{n ok:Nat}{Q:Bool->SortSt->Prop}(c:Cmp prog w A s kd rk a0)(hn:n<=a0.size)(hok:ok<=n)(b:Sb kd a0 z)(up:Up rk (arrOf z) ok)
  (h:∀y,Sb kd a0 y->Up rk (arrOf y) n->Q true y):wpS (model prog w) A E s (binarySort' 0 n ok) Q z:=by
 rw[binarySort'_eq];simp only[Nat.zero_add];refine wpS_bind (wpS_mono (wpS_forRange (Q:=fun c y=>c=(none,())/\Sb kd a0 y/\Up rk (arrOf y) n) (I:=fun k c y=>c=(none,())/\Sb kd a0 y/\Up rk (arrOf y) (min k n)) ?turn ?last ⟨rfl,b,fun i j h1 h2=>up i j h1 (by lia)⟩) ?post)
 case post =>
  rintro _ y ⟨rfl,by',u⟩
  exact wpS_pure (h y by' u)
 case last =>
  rintro _ y ⟨rfl,by',u⟩
  exact⟨rfl,by',by rwa [show min (max (max ok 1) n) n=n by lia]at u⟩
 case turn =>
  rintro k _ y k1 k2 ⟨rfl,by',u⟩
  rw[show min k n=k by lia]at u
  refine wpS_bind (wpS_mono (wpS_forRange (Q:=fun c y'=>y'=y/\∃l r,c=(none,l,r)/\l<=k/\(∀i,i<l->rkAt rk (arrOf y) i<=rkAt rk (arrOf y) k)/\∀i,l<=i->i<k->rkAt rk (arrOf y) k<rkAt rk (arrOf y) i)
   (I:=fun x c y'=>y'=y/\∃l r,c=(none,l,r)/\l<=r/\r<=k/\r - l+x<=k/\(∀i,i<l->rkAt rk (arrOf y) i<=rkAt rk (arrOf y) k)/\∀i,r<=i->i<k->rkAt rk (arrOf y) k<rkAt rk (arrOf y) i) ?t2 ?l2 ⟨rfl,0,k,rfl,by lia,by lia,by lia,fun i hi=>by lia,fun i i1 i2=>by lia⟩) ?p2)
  case l2 =>
   rintro _ v ⟨e,l,r,rfl,q1,q2,q3,q4,q5⟩;subst e;exact⟨rfl,l,r,rfl,by lia,q4,fun i i1 i2=>q5 i (by lia) i2⟩
  case t2 =>
   rintro x _ v _ _ ⟨e,l,r,rfl,q1,q2,q3,q4,q5⟩;subst e
   by_cases ge:r<=l
   ·simp only[ge_iff_le,ge,if_true];exact wpS_pure ⟨rfl,l,r,rfl,by lia,q4,fun i i1 i2=>q5 i (by lia) i2⟩
   ·simp only[ge_iff_le,ge,if_false];refine wpS_bind (ask c by' (by lia) (by lia) ?_)
    by_cases le:rkAt rk (arrOf v) k<rkAt rk (arrOf v) ((l+r) / 2)
    ·simp only[le,decide_true,if_true];refine wpS_pure ⟨rfl,l,(l+r) / 2,rfl,by lia,by lia,by lia,q4,fun i i1 i2=>?_⟩
     rcases Nat.lt_or_ge ((l+r) / 2) i with g|g
     ·have:=u _ _ g i2;lia
     ·have:i=(l+r) / 2:=by lia
      rw[this];exact le
    ·simp only[le,decide_false,Bool.false_eq_true,if_false];refine wpS_pure ⟨rfl,(l+r) / 2+1,r,rfl,by lia,by lia,by lia,fun i i1=>?_,q5⟩
     rcases Nat.lt_or_ge i ((l+r) / 2) with g|g
     ·have:=u _ _ g (by lia);lia
     ·have:i=(l+r) / 2:=by lia
      rw[this];lia
  case p2 =>
   rintro _ v ⟨e,l,r,rfl,q2,q4,q5⟩;subst e;show wpS (model prog w) A E s (moveDown' k l >>= fun _=>pure (ForInStep.yield (none,()))) _ v
   rw[moveDown'_eq];have hk:k<(arrOf v).size:=by rw[by'.sz];lia
   refine wpS_bind (wpS_modify (wpS_pure ⟨rfl,by'.arr (bubble_perm _ _ _),fun i j h1 h2=>?_⟩))
   show rkAt rk (bubble (arrOf v) k (k - l)) i<=rkAt rk (bubble (arrOf v) k (k - l)) j
   have hj:j<=k:=by lia
   obtain⟨a1,a2,a3⟩:=znW (rk:=rk) hk (show k - l<=k by lia) i
   obtain⟨b1,b2,b3⟩:=znW (rk:=rk) hk (show k - l<=k by lia) j
   have el:k - (k - l)=l:=by lia
   rw[el]at a1 a2 a3 b1 b2 b3;rcases Nat.lt_trichotomy j l with jl|jl|jl
   ·rw[a3 (by lia),b3 (by lia)];exact u i j h1 (by lia)
   ·rw[a3 (by lia),b1 jl];exact q4 i (by lia)
   ·rw[b2 jl hj];rcases Nat.lt_trichotomy i l with il|il|il
    ·rw[a3 (by lia)]
     rcases Nat.lt_or_ge i (j - 1) with g|g
     ·exact u i (j - 1) g (by lia)
     ·exact absurd g (by lia)
    ·rw[a1 il];exact Int.le_of_lt (q5 (j - 1) (by lia) (by lia))
    ·rw[a2 il (by lia)]
     rcases Nat.lt_or_ge (i - 1) (j - 1) with g|g
     ·exact u _ _ g (by lia)
     ·exact absurd g (by lia)
end
section
variable{prog:Program}{w:World}{A:Around}{E:qV}{s:Shared}{kd:SortKind}{rk:Value->Int}{a0:Array Keyed}
theorem zoj{z:SortSt}{a m:Nat}{Q:AscSt->SortSt->Prop}(c:Cmp prog w A s kd rk a0)(hm:m<=a0.size)(a1:1<=a)(am:a<=m)(b:Sb kd a0 z)(up:Up rk (arrOf z) a)
  (h:∀n,a<=n->n<=m->Up rk (arrOf z) n->(n<m->rkAt rk (arrOf z) n<rkAt rk (arrOf z) (n - 1))->Q (none,n) z):wpS (model prog w) A E s (ascLoop a m) Q z:=by
 unfold ascLoop;refine wpS_forRange (I:=fun x c y=>y=z/\c=(none,x)/\Up rk (arrOf z) x) (fun x _ y x1 x2 I=>?_) (fun _ y I=>?_) ⟨rfl,rfl,up⟩
 ·obtain⟨e,rfl,u⟩:=I;subst e;refine wpS_bind (ask c b (by omega) (by omega) ?_)
  by_cases g:rkAt rk (arrOf y) x<rkAt rk (arrOf y) (x - 1)
  ·simp only[g,decide_true,if_true];exact wpS_pure (h x x1 (by omega) u fun _=>g)
  ·simp only[g,decide_false,Bool.false_eq_true,if_false];refine wpS_pure ⟨rfl,rfl,fun i j h1 h2=>?_⟩
   rcases Nat.lt_or_ge j x with jx|jx
   ·exact u i j h1 jx
   ·have ej:j=x:=by omega
    subst ej;rcases Nat.lt_or_ge i (j - 1) with ij|ij
    ·have:=u i (j - 1) ij (by omega);omega
    ·have:i=j - 1:=by omega
     rw[this];omega
 ·obtain⟨e,rfl,u⟩:=I;subst e;rw[show max a m=m by omega]at u ⊢
  exact h m am (Nat.le_refl _) u fun g=>absurd g (by omega)
theorem zkB{z:SortSt}{n m:Nat}{Q:Option Nat->SortSt->Prop}(c:Cmp prog w A s kd rk a0)(hm:m<=a0.size)(n1:1<=n)(nm:n<=m)(b:Sb kd a0 z)(dn:Dn rk (arrOf z) n)
  (h:∀k y,Sb kd a0 y->1<=k->k<=m->Up rk (arrOf y) k->Q (some k) y):wpS (model prog w) A E s (tail3 n m) Q z:=by
 unfold tail3;have hz:n<=(arrOf z).size:=by rw[b.sz];omega
 refine wpS_bind (wpS_reverse (wpS_bind ?_));have b2:=b.arr (mirror_perm (arrOf z) 0 n ((n - 0) / 2));refine zoj c hm n1 nm b2 (fun i j h1 h2=>?_) fun k k1 k2 u _=>wpS_pure (h k _ b2 (by omega) k2 u)
 show rkAt rk (mirror (arrOf z) 0 n ((n - 0) / 2)) i<=rkAt rk (mirror (arrOf z) 0 n ((n - 0) / 2)) j
 rw[(zkS (rk:=rk) hz i).1 (by omega) (by omega),(zkS (rk:=rk) hz j).1 (by omega) h2]
 exact dn _ _ (by omega) (by omega)
theorem ZE{xs:Array Keyed}{i j:Nat}(hj:j<=xs.size)(al:∀k,i<=k->k<j->rkAt rk xs k=rkAt rk xs (j - 1))(k:Nat):rkAt rk (mirror xs i j ((j - i) / 2)) k=rkAt rk xs k:=by
 obtain⟨p,q⟩:=zkS (rk:=rk) (i:=i) hj k
 by_cases g:i<=k/\k<j
 ·rw[p g.1 g.2,al _ (by omega) (by omega),al k g.1 g.2]
 ·exact q (by omega)
theorem zpH{z:SortSt}{n m:Nat}{Q:DescSt->SortSt->Prop}(c:Cmp prog w A s kd rk a0)(hm:m<=a0.size)(n1:1<=n)(nm:n<=m)(b:Sb kd a0 z)(dn:Dn rk (arrOf z) n)
  (h:∀k e y,Sb kd a0 y->n<=k->k<=m->Dn rk (arrOf y) k->e<k->(∀i,k - (e+1)<=i->i<k->rkAt rk (arrOf y) i=rkAt rk (arrOf y) (k - 1))->Q (none,k,e) y) :
  wpS (model prog w) A E s (descLoop n m) Q z:=by
 unfold descLoop;refine wpS_forRange (I:=fun x c y=>∃e,c=(none,x,e)/\Sb kd a0 y/\Dn rk (arrOf y) x/\e<x/\∀i,x - (e+1)<=i->i<x->rkAt rk (arrOf y) i=rkAt rk (arrOf y) (x - 1)) (fun x _ y x1 x2 I=>?_) (fun _ y I=>?_)
  ⟨0,rfl,b,dn,by omega,fun i i1 i2=>by rw[show i=n - 1 by omega]⟩
 ·obtain⟨e,rfl,by',d,ex,al⟩:=I
  have xz:x<=(arrOf y).size:=by rw[by'.sz];omega
  refine wpS_bind (ask c by' (show x<a0.size by omega) (show x - 1<a0.size by omega) ?_)
  by_cases g:rkAt rk (arrOf y) x<rkAt rk (arrOf y) (x - 1)
  ·simp only[g,decide_true,if_true];have d2:∀xs:Array Keyed,(∀k,rkAt rk xs k=rkAt rk (arrOf y) k)->Dn rk xs (x+1):=fun xs hx i j h1 h2=>by
    rw[hx,hx];rcases Nat.lt_or_ge j x with jx|jx
    ·exact d i j h1 jx
    ·have ej:j=x:=by omega
     subst ej;rcases Nat.lt_or_ge i (j - 1) with ij|ij
     ·have:=d i (j - 1) ij (by omega);omega
     ·have:i=j - 1:=by omega
      rw[this];omega
   have one:∀xs:Array Keyed,∀i,x+1 - (0+1)<=i->i<x+1->rkAt rk xs i=rkAt rk xs (x+1 - 1):=fun xs i i1 i2=>by rw[show i=x+1 - 1 by omega]
   by_cases e0:e > 0
   ·simp only[e0,if_true];exact wpS_bind (wpS_reverse (wpS_pure ⟨0,rfl,by'.arr (mirror_perm _ _ _ _),d2 _ (ZE xz al),by omega,one _⟩))
   ·simp only[e0,if_false];exact wpS_pure ⟨0,rfl,by',d2 _ (fun _=>rfl),by omega,one _⟩
  ·simp only[g,decide_false,Bool.false_eq_true,if_false];refine wpS_bind (ask c by' (show x - 1<a0.size by omega) (show x<a0.size by omega) ?_)
   by_cases g2:rkAt rk (arrOf y) (x - 1)<rkAt rk (arrOf y) x
   ·simp only[g2,decide_true,if_true];exact wpS_pure (h x e y by' x1 (by omega) d ex al)
   ·simp only[g2,decide_false,Bool.false_eq_true,if_false];have eqx:rkAt rk (arrOf y) x=rkAt rk (arrOf y) (x - 1):=by omega
    refine wpS_pure ⟨e+1,rfl,by',fun i j h1 h2=>?_,by omega,fun i i1 i2=>?_⟩
    ·rcases Nat.lt_or_ge j x with jx|jx
     ·exact d i j h1 jx
     ·have ej:j=x:=by omega
      subst ej;rcases Nat.lt_or_ge i (j - 1) with ij|ij
      ·have:=d i (j - 1) ij (by omega);omega
      ·have:i=j - 1:=by omega
       rw[this];omega
    ·rw[show x+1 - 1=x by omega]
     rcases Nat.lt_or_ge i x with ix|ix
     ·rw[al i (by omega) ix,eqx]
     ·rw[show i=x by omega]
 ·obtain⟨e,rfl,by',d,ex,al⟩:=I
  rw[show max n m=m by omega]at *
  exact h m e y by' nm (Nat.le_refl _) d ex al
theorem zle{z:SortSt}{n m:Nat}{Q:Option Nat->SortSt->Prop}(c:Cmp prog w A s kd rk a0)(hm:m<=a0.size)(nm:n+1<=m)(b:Sb kd a0 z)(dn:Dn rk (arrOf z) (n+1))
  (h:∀k y,Sb kd a0 y->1<=k->k<=m->Up rk (arrOf y) k->Q (some k) y):wpS (model prog w) A E s (descPart n m) Q z:=by
 unfold descPart;refine wpS_bind (wpS_lift (wpAny_rule ⟨rfl,wpS_bind ?_⟩));refine zpH c hm (by omega) nm b dn fun k e y by' k1 k2 d ek al=>?_
 have kz:k<=(arrOf y).size:=by rw[by'.sz];omega
 by_cases e0:e > 0
 ·simp only[e0,if_true];refine wpS_bind (wpS_reverse (zkB c hm (by omega) k2 (by'.arr (mirror_perm _ _ _ _)) (fun i j h1 h2=>?_) h))
  show rkAt rk (mirror (arrOf y) (k - (e+1)) k ((k - (k - (e+1))) / 2)) j<=rkAt rk (mirror (arrOf y) (k - (e+1)) k ((k - (k - (e+1))) / 2)) i
  rw[ZE kz al,ZE kz al];exact d i j h1 h2
 ·simp only[e0,if_false];exact zkB c hm (by omega) k2 by' d h
theorem zqs{z:SortSt}{m:Nat}{Q:Option Nat->SortSt->Prop}(c:Cmp prog w A s kd rk a0)(hm:m<=a0.size)(m1:1<=m)(b:Sb kd a0 z)
  (h:∀k y,Sb kd a0 y->1<=k->k<=m->Up rk (arrOf y) k->Q (some k) y):wpS (model prog w) A E s (countRun' 0 m) Q z:=by
 rw[countRun0_eq];refine wpS_bind (zoj c hm (Nat.le_refl 1) m1 b (fun i j h1 h2=>absurd h1 (by omega)) fun n n1 n2 u lt=>?_)
 by_cases en:n=m
 ·simp only[en,beq_self_eq_true,if_true];exact wpS_pure (h m z b m1 (Nat.le_refl _) (en▸u))
 ·have en':(n == m)=false:=by simpa using en
  simp only[en',Bool.false_eq_true,if_false];have l:=lt (by omega)
  by_cases g:n > 1
  ·simp only[g,if_true];refine wpS_bind (ask c b (by omega) (by omega) ?_)
   by_cases rose:rkAt rk (arrOf z) 0<rkAt rk (arrOf z) (n - 1)
   ·simp only[rose,decide_true,if_true];exact wpS_pure (h n z b n1 n2 u)
   ·simp only[rose,decide_false,Bool.false_eq_true,if_false];have zn:n<=(arrOf z).size:=by rw[b.sz];omega
    have al:∀k,0<=k->k<n->rkAt rk (arrOf z) k=rkAt rk (arrOf z) (n - 1):=fun k _ kn=>by
     have p:rkAt rk (arrOf z) 0<=rkAt rk (arrOf z) k:=by
      rcases Nat.eq_zero_or_pos k with k0|k0
      ·rw[k0];exact Int.le_refl _
      ·exact u 0 k k0 kn
     have q:rkAt rk (arrOf z) k<=rkAt rk (arrOf z) (n - 1):=by
      rcases Nat.lt_or_ge k (n - 1) with kk|kk
      ·exact u k (n - 1) kk (by omega)
      ·rw[show k=n - 1 by omega];exact Int.le_refl _
     omega
    refine wpS_bind (wpS_reverse (zle c hm (by omega) (b.arr (mirror_perm _ _ _ _)) (fun i j h1 h2=>?_) h))
    show rkAt rk (mirror (arrOf z) 0 n ((n - 0) / 2)) j<=rkAt rk (mirror (arrOf z) 0 n ((n - 0) / 2)) i
    rw[ZE zn al,ZE zn al];have ai:=al i (by omega) (by omega)
    rcases Nat.lt_or_ge j n with jn|jn
    ·have:=al j (by omega) jn;omega
    ·rw[show j=n by omega];omega
  ·simp only[g,if_false];have e1:n=1:=by omega
   subst e1;refine zle c hm (by omega) b (fun i j h1 h2=>?_) h
   rw[show i=0 by omega,show j=1 by omega]
   exact Int.le_of_lt l
theorem zow{z:SortSt}{Q:Unit->SortSt->Prop}(c:Cmp prog w A s kd rk a0)(b:Sb kd a0 z)(s2:2<=a0.size)(s64:a0.size<64)
  (h:∀y,(arrOf y).Perm a0->failedOf y=none->Up rk (arrOf y) a0.size->Q () y):wpS (model prog w) A E s sortRuns' Q z:=by
 rw[sortRuns'_eq];refine wpS_bind (wpS_get ?_);have mr:minRun' a0.size a0.size 0=a0.size:=by
  obtain⟨q,hq⟩:∃q,a0.size=q+1:=⟨a0.size - 1,by omega⟩
  conv=>lhs;rw[hq]
  rw[minRun'_succ,if_pos (by omega)];omega
 simp only[b.sz,mr];refine wpS_bind (wpS_mono (wpS_forRange (Q:=fun c y=>c=(none,a0.size)/\(arrOf y).Perm a0/\failedOf y=none/\pendingOf y=#[(0,a0.size,0)]/\Up rk (arrOf y) a0.size)
  (I:=fun x c y=>(x=0/\c=(none,0)/\Sb kd a0 y)\/(0<x/\c=(none,a0.size)/\(arrOf y).Perm a0/\failedOf y=none/\pendingOf y=#[(0,a0.size,0)]/\Up rk (arrOf y) a0.size)) ?turn ?last (.inl ⟨rfl,rfl,b⟩)) ?post)
 case last =>
  rintro _ y (⟨x0,_⟩|⟨_,q⟩)
  ·omega
  ·exact q
 case turn =>
  rintro x _ y _ _ (⟨rfl,rfl,by'⟩|⟨x1,rfl,q⟩)
  ·simp only[ge_iff_le,show ¬a0.size<=0 by omega,if_false,Nat.sub_zero,Nat.min_self,Nat.zero_add]
   have fin:∀y2,Sb kd a0 y2->Up rk (arrOf y2) a0.size->(arrOf (setPending y2 ((pendingOf y2).push (0,a0.size,0)))).Perm a0/\failedOf (setPending y2 ((pendingOf y2).push (0,a0.size,0)))=none/\pendingOf (setPending y2 ((pendingOf y2).push (0,a0.size,0)))=#[(0,a0.size,0)]/\Up rk (arrOf (setPending y2 ((pendingOf y2).push (0,a0.size,0)))) a0.size :=
    fun y2 b2 u2=>⟨b2.pm,b2.fl,by show(pendingOf y2).push (0,a0.size,0)=_;rw[b2.pe];rfl,u2⟩
   refine wpS_bind (zqs c (Nat.le_refl _) (by omega) by' fun k y1 b1 k1 k2 u1=>?_)
   by_cases g:k<a0.size
   ·simp only[g,if_true];refine wpS_bind (wpS_lift (wpAny_rule ⟨rfl,wpS_bind ?_⟩));refine zsm c (Nat.le_refl _) k2 b1 u1 fun y2 b2 u2=>?_
    simp only[Bool.not_true,Bool.false_eq_true,if_false];refine wpS_bind (wpS_get ?_);have pb:(pendingOf y2).back?=none:=by rw[b2.pe];rfl
    simp only[pb];exact wpS_bind (wpS_modify (wpS_pure (.inr ⟨by omega,rfl,fin y2 b2 u2⟩)))
   ·simp only[g,if_false];have ek:k=a0.size:=by omega
    subst ek;refine wpS_bind (wpS_get ?_);have pb:(pendingOf y1).back?=none:=by rw[b1.pe];rfl
    simp only[pb];exact wpS_bind (wpS_modify (wpS_pure (.inr ⟨by omega,rfl,fin y1 b1 u1⟩)))
  ·simp only[ge_iff_le,Nat.le_refl,if_true];exact wpS_pure ⟨rfl,q⟩
 case post =>
  rintro _ y ⟨rfl,q1,q2,q3,q4⟩;refine wpS_bind (wpS_mono (wpS_forRange (Q:=fun c v=>v=y/\c=(none,())) (I:=fun _ c v=>v=y/\c=(none,())) (fun x _ v _ _ I=>?_) (fun _ _ I=>I) ⟨rfl,rfl⟩) fun _ v I=>?_)
  ·obtain⟨e,rfl⟩:=I;subst e;refine wpS_bind (wpS_get ?_);simp only[q3,List.size_toArray,List.length_cons,List.length_nil,Nat.le_refl,if_true];exact wpS_pure ⟨rfl,rfl⟩
  ·obtain⟨e,rfl⟩:=I;subst e;exact wpS_pure (h v q1 q2 q4)
end
theorem zmO{prog:Program}{w:World}{A:Around}{E:qV}{s:Shared}{kd:SortKind}{rk:Value->Int}{a0:Array Keyed}{z:SortSt}{Q:Unit->SortSt->Prop}(c:Cmp prog w A s kd rk a0)(b:Sb kd a0 z)(s2:2<=a0.size)(s64:a0.size<64)
  (h:∀y,(arrOf y).Perm a0->failedOf y=none->Up rk (arrOf y) a0.size->Q () y):wpS (model prog w) A E s sortRuns' Q z:=zow c b s2 s64 h
def midH(h:Heap)(a:Addr)(vs:List Value):Heap:=((h.update a (Obj.mapSeq fun _=>#[])).push (seqObj "tuple" vs.toArray 0)).push (seqObj "list" #[] 0)
section
variable{prog:Program}{w:World}{A:Around}{E:qV}{s:Shared}{rk:Value->Int}
def Kinds(prog:Program)(w:World)(A:Around)(s:Shared)(rk:Value->Int)(vs:List Value):Prop:=2<=vs.length->∃kd,(∀(E:qV) (Q:SortKind->Shared->Prop),Q kd s->wpAny (model prog w) A (keyKind' vs.toArray) Q E s)/\Cmp prog w A s kd rk (pairsOf vs)
theorem zne{a:Addr}{vs:List Value}{n:Nat}{P:Fin->Shared->Prop}(ho:s.heap.get? a=some (seqObj "list" vs.toArray n)) (h64:vs.length<64) (hk:Kinds prog w A { s with heap:=midH s.heap a vs } rk vs)
  (h:∀y:SortSt,(arrOf y).Perm (pairsOf vs)->Up rk (arrOf y) vs.length->P (.done (.ret .none)) { s with heap:=sortedHeap s.heap a vs ((arrOf y).map (·.2)) }) :
  wpAny (model prog w) A (Builtin.«list.sort» ⟨[.ref a],[]⟩) P E s:=by
 rw[list_sort_plain];have la:a<s.heap.objs.size:=Heap.lt_size ho;refine wpAny_bind (listItems_at ho rfl (wpAny_bind (listUpdate_at ho rfl ?_)));obtain⟨e1,o1⟩:∃e1,(s.heap.update a (Obj.mapSeq fun _=>#[])).get? a=some (seqObj "list" #[] e1):=⟨_,get?_update_seq ho (fun _=>#[])⟩
 refine wpAny_bind (seqEpoch_at o1 rfl (wpAny_bind (wpAny_newTuple (wpAny_bind (wpAny_newList (wpAny_holding ?_))))));have o2:(midH s.heap a vs).get? a=some (seqObj "list" #[] e1):=by
  unfold midH;rw[Heap.get?_push_ne _ _ _ (by rw[size_push',Heap.size_update];exact Nat.ne_of_lt (Nat.lt_of_lt_of_le la (Nat.le_succ _))),Heap.get?_push_ne _ _ _ (by rw[Heap.size_update];exact Nat.ne_of_lt la)]
  exact o1
 show wpAny (model prog w) A _ P E { s with heap:=midH s.heap a vs }
 have z:vs.toArray.size=vs.length:=by simp
 have tail:∀(y:SortSt),(arrOf y).Perm (pairsOf vs)->failedOf y=none->Up rk (arrOf y) vs.length->wpAny (model prog w) A (do
   let touched:=(<- seqEpoch a) != e1
   Builtin.List.listUpdate (.ref a) fun _=>(arrOf y).map (·.2)
   if let some e:=failedOf y then rule "list.sort.comparison-raised";throw e
   if touched then rule "list.sort.modified";raiseError "ValueError" "list modified during sort"
   ret .none) P E { s with heap:=midH s.heap a vs }:=fun y pm fl up=>by
  refine wpAny_bind (seqEpoch_at o2 rfl (wpAny_bind (listUpdate_at o2 rfl ?_ (hsz2:=?_))))
  ·rw[fl];simp only[bne_self_eq_false,Bool.false_eq_true,if_false];exact wpAny_pure (h y pm up)
  ·rw[Array.size_map,pm.size_eq,pairsOf_size];show vs.length<=sizeLine+1
   have:64<=sizeLine:=by decide
   omega
 by_cases two:vs.length<2
 ·simp only[z,two,if_true];refine wpAny_bind (wpAny_pure ?_);rw[StateT.run_pure];refine wpAny_bind (wpAny_pure ?_);exact tail (SortSt.mk' general' (vs.toArray.zip vs.toArray) #[] 7 none) (Array.Perm.refl _) rfl fun i j h1 h2=>absurd h2 (by omega)
 ·simp only[z,two,if_false];obtain⟨kd,k1,k2⟩:=hk (by omega)
  refine wpAny_bind (k1 _ _ ?_);refine wpAny_bind (wpAny_mono (zmO (Q:=fun _ y=>(arrOf y).Perm (pairsOf vs)/\failedOf y=none/\Up rk (arrOf y) vs.length) (z:=SortSt.mk' kd (vs.toArray.zip vs.toArray) #[] 7 none) k2 ⟨Array.Perm.refl _,rfl,rfl,rfl⟩ (by rw[pairsOf_size];omega) (by rw[pairsOf_size];exact h64)
   fun y p1 p2 p3=>⟨p1,p2,by rwa [pairsOf_size]at p3⟩) ?_ fun _ _ e=>e)
  rintro⟨⟨⟩,y⟩ s' ⟨rfl,p1,p2,p3⟩;exact tail y p1 p2 p3
theorem ziZ{l:Addr}{vs:List Value}{o:Obj}{T:String}{n:Nat}{Q:List Value->Shared->Prop}(ho:s.heap.get? l=some o)(hc:o.cls=.type T)(hT:T = "list" \/ T = "tuple") (hd:o.data=.seq vs.toArray n) (hz:vs.length<=sizeLine)
  (h:Q vs { s with heap:=(s.heap.push (seqObj "list" #[] 0)).update s.heap.objs.size (Obj.mapSeq (·++vs.toArray)) }):wpAny (model prog w) A (collect (.ref l)) Q E s:=by
 unfold collect;refine wpAny_bind (wpAny_runValue (codeAny_builtin entry_proto_collect' ?_));show wpAny (model prog w) _ (newList [] >>= fun x=>again (.builtin "list.__iadd__" ⟨[x,.ref l],[]⟩)) _ _ s
 refine wpAny_bind (wpAny_newList (wpAny_pure ⟨Code.quiet_builtin _ (by decide +kernel),codeAny_builtin entry_list_iadd' ?_⟩))
 show wpAny (model prog w) _ (Builtin.List.listExtendWith (.ref s.heap.objs.size) (.ref l) (.ref s.heap.objs.size)) _ _ { s with heap:=s.heap.push (seqObj "list" #[] 0) }
 unfold Builtin.List.listExtendWith;have o1:(s.heap.push (seqObj "list" #[] 0)).get? l=some o:=Heap.get?_push_of_some _ ho;refine wpAny_bind (wpAny_typeOf (T:=T) ⟨o,o1,hc⟩ ?_);have cond:∀b:Bool,(b||Value.type T == Value.type "list" ||Value.type T == Value.type "tuple")=true:=by
  intro b;have c1:(Value.type "list" == Value.type "list")=true:=rfl;have c2:(Value.type "tuple" == Value.type "tuple")=true:=rfl;rcases hT with rfl|rfl
  ·rw[c1];simp
  ·rw[c2];simp
 rw[if_pos (cond _)];refine wpAny_bind (listItems_at o1 hd (wpAny_bind (listItems_at (xs:=#[]) (n:=0) (Heap.get?_push_size _ rfl) rfl ?_)));rw[if_neg (by simp)]
 refine wpAny_bind (listUpdate_at (xs:=#[]) (n:=0) (Heap.get?_push_size _ rfl) rfl (wpAny_pure ?_) (Nat.zero_le _) (by simp only[Array.size_append,List.size_toArray,List.length_nil];omega))
 refine wpAny_bind (m:=load s.heap.objs.size) (wpAny_load (get?_update_seq (Heap.get?_push_size _ rfl) _) ?_);show wpAny (model prog w) A (pure ((#[]:Array Value)++vs.toArray).toList) Q E _
 have e:((#[]:Array Value)++vs.toArray).toList=vs:=by simp
 rw[e];exact wpAny_pure h
def preH(h:Heap)(vs:List Value):Heap:=((h.push (seqObj "list" #[] 0)).update h.objs.size (Obj.mapSeq (·++vs.toArray))).push (seqObj "list" vs.toArray 0)
theorem zjP{l:Addr}{vs:List Value}{o:Obj}{T:String}{n:Nat}{Q:qV}(ho:s.heap.get? l=some o)(hc:o.cls=.type T)(hT:T = "list" \/ T = "tuple") (hd:o.data=.seq vs.toArray n) (h64:vs.length<64)
  (hk:∀A',Kinds prog w A' { s with heap:=midH (preH s.heap vs) (s.heap.objs.size+1) vs } rk vs)
  (h:∀y:SortSt,(arrOf y).Perm (pairsOf vs)->Up rk (arrOf y) vs.length->Q (.ref (s.heap.objs.size+1)) { s with heap:=sortedAll s.heap vs ((arrOf y).map (·.2)) }) :
  wpAny (model prog w) A (call (.builtin "sorted") [.ref l]) Q E s:=by
 refine Calls.call_function_entry kind_sorted plain_sorted entry_sorted (args_sorted1 _) ?_;unfold Builtin.«sorted»;refine wpAny_bind (m:=checkCount "sorted" 1 1 _) (wpAny_pure ?_)
 refine wpAny_bind (ziZ ho hc hT hd (by have:64<=sizeLine:=by decide
                                        omega) (wpAny_bind (wpAny_newList ?_)))
 have z:((s.heap.push (seqObj "list" #[] 0)).update s.heap.objs.size (Obj.mapSeq (·++vs.toArray))).objs.size=s.heap.objs.size+1:=by rw[Heap.size_update,size_push']
 have o3:(preH s.heap vs).get? (s.heap.objs.size+1)=some (seqObj "list" vs.toArray 0):=by
  unfold preH;rw[<- z];exact Heap.get?_push_size _ rfl
 show wpAny (model prog w) _ _ _ _ { s with heap:=preH s.heap vs }
 rw[z];refine wpAny_bind (wpAny_holding (wpAny_call_entry slot_list_sort ⟨_,o3,rfl⟩ entry_list_sort (zne o3 h64 (hk _) fun y p1 p2=>⟨_,rfl,?_⟩) (args_list_sort _)))
 exact wpAny_pure ⟨_,rfl,h y p1 p2⟩
end
section
variable{prog:Program}{w:World}{A:Around}{E:qV}{s:Shared}
theorem zlG(b:Bool)(x y:Value):keyLt' (tuples' b) x y=(do
  let xs <- Builtin.List.listItems x
  let ys <- Builtin.List.listItems y
  for ((p,q),i) in (xs.toList.zip ys.toList).zipIdx do
   if !(<- eqBool p q) then return <- oneLt' (b&&i == 0) p q
  return decide (xs.size<ys.size)):=rfl
def LtAt(prog:Program)(w:World)(A:Around)(s:Shared)(one:Bool)(p q:Value)(l:Bool):Prop:=∀(E:qV) (Q:Bool->Shared->Prop),Q l s->wpAny (model prog w) A (oneLt' one p q) Q E s
theorem zlF{b:Bool}{x y:Addr}{ox oy:Obj}{p0 p1 q0 q1:Value}{n m:Nat}{c0 c1 l0 l1:Bool}{Q:Bool->Shared->Prop}(hx:s.heap.get? x=some ox)(dx:ox.data=.seq #[p0,p1] n)(hy:s.heap.get? y=some oy)(dy:oy.data=.seq #[q0,q1] m)
  (e0:SeqAt.EqAt A s p0 q0 c0) (e1:SeqAt.EqAt A s p1 q1 c1) (t0:c0=false->LtAt prog w A s b p0 q0 l0) (t1:c1=false->LtAt prog w A s false p1 q1 l1) (h:Q (if c0=true then(if c1=true then false else l1) else l0) s) :
  wpAny (model prog w) A (keyLt' (tuples' b) (.ref x) (.ref y)) Q E s:=by
 rw[zlG];refine wpAny_bind (listItems_at hx dx (wpAny_bind (listItems_at hy dy ?_)));have ez:((#[p0,p1]:Array Value).toList.zip (#[q0,q1]:Array Value).toList).zipIdx=[((p0,q0),0),((p1,q1),1)]:=rfl;simp only[ez,List.forIn_cons,List.forIn_nil];refine wpAny_bind (wpAny_bind ?_);refine wpAny_bind (e0 prog w E _ ?_);cases c0 with
 | false =>
  simp only[Bool.not_false,if_true];have z0:(b&&(0:Nat) == 0)=b:=by simp
  rw[z0];refine wpAny_bind (t0 rfl E _ ?_);exact wpAny_pure (wpAny_pure (wpAny_pure (by simpa using h)))
 | true =>
  simp only[Bool.not_true,Bool.false_eq_true,if_false];refine wpAny_pure (wpAny_bind (wpAny_bind (e1 prog w E _ ?_)));cases c1 with
  | false =>
   simp only[Bool.not_false,if_true];have z1:(b&&(1:Nat) == 0)=false:=by simp
   rw[z1];refine wpAny_bind (t1 rfl E _ ?_);exact wpAny_pure (wpAny_pure (wpAny_pure (by simpa using h)))
  | true =>
   simp only[Bool.not_true,Bool.false_eq_true,if_false];exact wpAny_pure (wpAny_pure (wpAny_pure (by simpa using h)))
theorem zlx(a b:Int)(t u:Tok):LtAt prog w A s true (.int a t) (.int b u) (decide (a<b)):=fun _ _ q=>oneLt_int q
theorem znd(a b:Int)(t u:Tok):LtAt prog w A s false (.int a t) (.int b u) (decide (a<b)):=fun E Q q=>by
 rw[oneLt'_eq];simp only[Bool.false_eq_true,if_false];refine wpAny_bind (show wpAny (model prog w) A (compareOp .Lt (.int a t) (.int b u)) _ E s from lt_int ?_)
 exact wpAny_truthy_bool q
def PrIn(h:Heap)(u:Value)(b k:Int):Prop:=∃(a:Addr) (o:Obj) (t t':Tok) (n:Nat),u=.ref a/\h.get? a=some o/\o.cls=.type "tuple" /\ o.data=.seq #[.int b t,.int k t'] n
def two?:List Value->Int
 | [.int b _,.int k _]=>b*1000+k
 | _=>0
def rkC(h:Heap)(u:Value):Int:=match u with
 | .ref a=>match h.get? a with
  | some o=>match o.data with
   | .seq xs _=>two? xs.toList
   | _=>0
  | none=>0
 | _=>0
theorem PrIn.rk{h:Heap}{u:Value}{b k:Int}(p:PrIn h u b k):rkC h u=b*1000+k:=by
 obtain⟨a,o,t,t',n,rfl,e1,_,e2⟩:=p;simp only[rkC,e1,e2,two?]
theorem PrIn.kept{h h':Heap}{u:Value}{b k:Int}(p:PrIn h u b k)(kp:∀b o,h.get? b=some o->h'.get? b=some o):PrIn h' u b k:=by
 obtain⟨a,o,t,t',n,e0,e1,e2,e3⟩:=p;exact⟨a,o,t,t',n,e0,kp _ _ e1,e2,e3⟩
theorem zgu{α β:Type}{f:α->Sem β}{P:α->β->Prop}{M:Model}:∀(l:List α) {Q:List β->Shared->Prop},(∀v∈l,∀(Q':β->Shared->Prop),(∀r,P v r->Q' r s)->wpAny M A (f v) Q' E s)->(∀rs,Paired P l rs->Q rs s)->wpAny M A (l.mapM f) Q E s
 | [],_,_,h=>by rw[List.mapM_nil];exact wpAny_pure (h _ .nil)
 | x::l,Q,hf,h=>by
  rw[List.mapM_cons];exact wpAny_bind (hf x (.head _) _ fun r hr=>wpAny_bind (zgu l (fun v hv=>hf v (.tail _ hv)) fun rs hrs=>wpAny_pure (h _ (.cons hr hrs))))
theorem znv(v:Value):firstOfTuple' v=(do
  if (<- typeOf v) != .type "tuple" then return none
  return (<- Builtin.List.listItems v)[0]?):=rfl
theorem zj8{vs:List Value}{Q:SortKind->Shared->Prop}(h1:1<=vs.length)(hp:∀v∈vs,∃b k,PrIn s.heap v b k)(h:Q (tuples' true) s):wpAny (model prog w) A (keyKind' vs.toArray) Q E s:=by
 rw[keyKind'_eq,List.mapM_toArray,map_eq_pure_bind];refine wpAny_bind (wpAny_bind (zgu (P:=fun _ r=>∃(b:Int) (t:Tok),r=some (.int b t)) vs (fun v hv Q' hq=>?_) fun rs hrs=>wpAny_pure ?_))
 ·obtain⟨b,k,a,o,t,t',n,rfl,e1,e2,e3⟩:=hp v hv;rw[znv];refine wpAny_bind (wpAny_typeOf (T:="tuple") ⟨o,e1,e2⟩ ?_);rw[if_neg (by decide)]
  exact wpAny_bind (listItems_at e1 e3 (wpAny_pure (hq _ ⟨b,t,rfl⟩)))
 ·have al:∀r∈rs,∃(b:Int) (t:Tok),r=some (.int b t):=by
   clear h hp h1;induction hrs with
   | nil=>intro r hr;cases hr
   | cons x y ih =>
    intro r hr;rcases List.mem_cons.mp hr with rfl|hr
    ·exact x
    ·exact ih r hr
  have ln:rs.length=vs.length:=by
   clear h hp h1 al;induction hrs with
   | nil=>rfl
   | cons x y ih=>simp[ih]
  have hall:(rs.toArray.all fun x=>x.isSome)=true:=by
   simp only[List.all_toArray,List.all_eq_true];intro x hx;obtain⟨b,t,rfl⟩:=al x hx
   rfl
  rw[if_pos hall];refine wpAny_bind (wpAny_rule ?_);rw[oneTypeOnly'_eq];have hfm:rs.toArray.filterMap id=(rs.filterMap id).toArray:=by simp
  rw[hfm,List.mapM_toArray,map_eq_pure_bind];refine wpAny_bind (wpAny_bind (wpAny_bind (zgu (P:=fun _ r=>r=Value.type "int") _ (fun v hv Q' hq=>?_) fun ts hts=>wpAny_pure ?_)))
  ·obtain⟨x,hx,e⟩:=List.mem_filterMap.mp hv;obtain⟨b,t,rfl⟩:=al x hx;cases e;exact wpAny_pure (hq _ rfl)
  ·have al2:∀r∈ts,r=Value.type "int":=by
    clear h hp h1;generalize rs.filterMap id=l at hts;induction hts with
    | nil=>intro r hr;cases hr
    | cons x y ih =>
     intro r hr;rcases List.mem_cons.mp hr with rfl|hr
     ·exact x
     ·exact ih r hr
   have ln2:ts.length=rs.length:=by
    have:ts.length=(rs.filterMap id).length:=by
     clear h hp h1 al2;generalize rs.filterMap id=l at hts;induction hts with
     | nil=>rfl
     | cons x y ih=>simp[ih]
    rw[this];clear this hts hfm hall;clear ln hrs;induction rs with
    | nil=>rfl
    | cons x l ih =>
     obtain⟨b,t,rfl⟩:=al x (.head _);simp only[List.filterMap_cons,id,List.length_cons];rw[ih fun r hr=>al r (.tail _ hr)]
   obtain⟨r1,rr,rfl⟩:∃r1 rr,ts=r1::rr:=by
    cases ts with
    | nil=>simp at ln2;omega
    | cons a b=>exact⟨a,b,rfl⟩
   have e1:r1=Value.type "int":=al2 r1 (.head _);subst e1;have hall2:(((Value.type "int")::rr).toArray.all fun x=>x == Value.type "int")=true:=by
    simp only[List.all_toArray,List.all_eq_true];intro x hx;rw[al2 x hx];rfl
   have h0:((Value.type "int")::rr).toArray[0]?=some (Value.type "int"):=by simp
   rw[h0];simp only[hall2,if_true];refine wpAny_pure (wpAny_pure ?_);exact h
theorem ziG{vs:List Value}{h0:Heap}(hp:∀v∈vs,∃b k,PrIn s.heap v b k/\rkC h0 v=b*1000+k/\0<=k/\k<1000):Kinds prog w A s (rkC h0) vs:=fun h2=>by
 refine⟨tuples' true,fun E Q q=>zj8 (by omega) (fun v hv=>?_) q,fun p q E Q mp mq h=>?_⟩
 ·obtain⟨b,k,h,_⟩:=hp v hv;exact⟨b,k,h⟩
 ·have mem:∀z∈(pairsOf vs).toList,z.1∈vs:=fun z hz=>by
   have:z∈vs.zip vs:=by simpa[pairsOf] using hz
   exact(List.of_mem_zip this).1
  obtain⟨b,k,⟨a,o,t,t',n,e0,e1,e2,e3⟩,r1,k0,k1⟩:=hp _ (mem p mp);obtain⟨b',k',⟨a',o',u,u',n',f0,f1,f2,f3⟩,r2,k0',k1'⟩:=hp _ (mem q mq);rw[r1,r2]at h;rw[e0,f0];refine zlF e1 e3 f1 f3 (SeqAt.EqAt.int_int b t b' u) (SeqAt.EqAt.int_int k t' k' u') (fun _=>zlx b b' t u) (fun _=>znd k k' t' u') ?_
  have:(if (b == b')=true then(if (k == k')=true then false else decide (k<k')) else decide (b<b'))=decide (b*1000+k<b'*1000+k'):=by
   simp only[beq_iff_eq];split
   ·split
    ·symm;rw[decide_eq_false_iff_not];omega
    ·rw[decide_eq_decide];omega
   ·rw[decide_eq_decide];omega
  rw[this];exact h
end
theorem zgj{α β:Type}{l:List (α×β)}{m:List β}(h:m.Perm (l.map (·.2))):∃l':List (α×β),l'.Perm l/\l'.map (·.2)=m:=by
 induction m generalizing l with
 | nil =>
  have:l.map (·.2)=[]:=h.symm.eq_nil;cases l with
  | nil=>exact⟨[],.refl _,rfl⟩
  | cons a b=>simp at this
 | cons x m ih =>
  have hx:x∈l.map (·.2):=h.mem_iff.mp (.head _);obtain⟨z,hz,rfl⟩:=List.mem_map.mp hx;obtain⟨l1,l2,rfl⟩:=List.append_of_mem hz;have h2:(z.2::m).Perm (z.2::(l1++l2).map (·.2)):=by
   refine h.trans ?_;simp only[List.map_append,List.map_cons];exact List.perm_middle
  obtain⟨l',p,e⟩:=ih (List.perm_cons _|>.mp h2)
  exact⟨z::l',(p.cons z).trans List.perm_middle.symm,by simp[e]⟩
theorem zj1{h:Heap}{vs:List Value}{b:Addr}{o:Obj}(hb:h.get? b=some o):(midH (preH h vs) (h.objs.size+1) vs).get? b=some o:=by
 have hlt:b<h.objs.size:=Heap.lt_size hb;unfold midH preH;rw[Heap.get?_push_ne _ _ _ (by rw[size_push',Heap.size_update,size_push',Heap.size_update,size_push'];exact Nat.ne_of_lt (Nat.lt_of_lt_of_le hlt (by lia))),Heap.get?_push_ne _ _ _ (by rw[Heap.size_update,size_push',Heap.size_update,size_push'];exact Nat.ne_of_lt (Nat.lt_of_lt_of_le hlt (by lia))),
  Heap.get?_update_ne _ _ _ _ (by exact Nat.ne_of_lt (Nat.lt_of_lt_of_le hlt (by lia))),Heap.get?_push_ne _ _ _ (by rw[Heap.size_update,size_push'];exact Nat.ne_of_lt (Nat.lt_of_lt_of_le hlt (by lia))),Heap.get?_update_ne _ _ _ _ (by exact Nat.ne_of_lt (Nat.lt_of_lt_of_le hlt (by lia))),Heap.get?_push_ne _ _ _ (by exact Nat.ne_of_lt (Nat.lt_of_lt_of_le hlt (by lia)))]
 exact hb
def rkD:PyData->Int
 | .tuple [.int b,.int k]=>b*1000+k
 | _=>0
def PrV(K:qF)(H:Hp)(z:V×PyData):Prop:=∃q b k,z.1=.ref q/\z.2=.tuple [.int b,.int k]/\SqT K H q [.int b,.int k]/\0<=k/\k<1000
section
variable{X:Cx}
theorem zhI:JU X (.builtin "sorted") (fun xs H Q=>∃(p:Addr) (zs:List (V×PyData)),xs=[.ref p]/\(SqL X.K H p (zs.map (·.1))\/SqT X.K H p (zs.map (·.1)))/\zs.length<64/\(∀z∈zs,PrV X.K H z) /\
  ∀zs':List (V×PyData),zs'.Perm zs->zs'.Pairwise (fun a b=>rkD a.2<=rkD b.2)->∀l,H l=none->Q (.ref l) (upd H l (.lst (zs'.map (·.1))))):=by
 intro pins s σ H xs us Q I r h;obtain⟨p,zs,rfl,hq,h64,hp,q⟩:=h;obtain⟨u,rfl,rx⟩:=vals1 r;cases rx;have key:∀(its:List Value) (o:Obj) (T:String) (n:Nat),Vals (zs.map (·.1)) its->s.heap.get? p=some o->o.cls=.type T->(T = "list" \/ T = "tuple")->o.data=.seq its.toArray n -> 
   wpAny (model X.prog X.w) X.A (call (.builtin "sorted") [.ref p]) (EP X pins σ Q) X.xe s:=fun its o T n rv ho hc hT hd=>by
  have hlen:zs.length=its.length:=by simpa using rv.length
  have each:∀x∈zs.zip its,RelV x.1.1 x.2/\∃b k,PrIn s.heap x.2 b k/\x.1.2=.tuple [.int b,.int k]/\0<=k/\k<1000:=by
   have rel:∀(zs:List (V×PyData)) (its:List Value),Vals (zs.map (·.1)) its->∀x∈zs.zip its,RelV x.1.1 x.2:=by
    intro zs;induction zs with
    | nil=>intro its _ x hx;simp at hx
    | cons z zs ih =>
     intro its r x hx;cases r with
     | cons r1 r2 =>
      rcases List.mem_cons.mp (by simpa using hx) with rfl|hx
      ·exact r1
      ·exact ih _ r2 x hx
   intro x hx;have r1:=rel zs its rv x hx;obtain⟨q',b,k,e1,e2,e3,k0,k1⟩:=hp x.1 (List.of_mem_zip hx).1;refine⟨r1,b,k,?_,e2,k0,k1⟩;rw[e1]at r1;obtain⟨is,rs,⟨o',f1,f2,n',f3⟩,_⟩:=I.tuple e3;cases rs with
   | cons a1 a2 =>
    cases a2 with
    | cons a3 a4 =>
     cases a4;obtain⟨t,rfl⟩:=a1;obtain⟨t',rfl⟩:=a3;exact⟨q',o',t,t',n',r1,f1,f2,f3⟩
  refine zjP (rk:=rkC s.heap) ho hc hT hd (by lia) (fun A'=>ziG fun v hv=>?_) fun y pm up=>?_
  ·obtain⟨i,hi,rfl⟩:=List.getElem_of_mem hv;have hz:i<zs.length:=by lia
   have mem:(zs[i],its[i])∈zs.zip its:=by
    have:(zs.zip its)[i]'(by simp;lia)=(zs[i],its[i]):=by simp
    rw[<- this];exact List.getElem_mem _
   obtain⟨_,b,k,h1,_,k0,k1⟩:=each _ mem;exact⟨b,k,h1.kept fun _ _ e=>zj1 e,h1.rk,k0,k1⟩
  ·have pml:(arrOf y).toList.Perm (its.zip its):=by
    have:=Array.perm_iff_toList_perm.mp pm;simpa[pairsOf] using this
   have pm1:((arrOf y).toList.map (·.2)).Perm ((zs.zip its).map (·.2)):=by
    refine(pml.map _).trans ?_;rw[List.map_snd_zip (by lia),List.map_snd_zip (by lia)]
   obtain⟨ws,p1,p2⟩:=zgj pm1;have eachw:∀x∈ws,RelV x.1.1 x.2/\∃b k,PrIn s.heap x.2 b k/\x.1.2=.tuple [.int b,.int k]/\0<=k/\k<1000:=fun x hx=>each x (p1.mem_iff.mp hx)
   have pz:(ws.map (·.1)).Perm zs:=by
    have:=p1.map (·.1)
    rwa [List.map_fst_zip (by lia)]at this
   have rw':Vals ((ws.map (·.1)).map (·.1)) (ws.map (·.2)):=by
    have:∀ws:List ((V×PyData)×Value),(∀x∈ws,RelV x.1.1 x.2)->Vals ((ws.map (·.1)).map (·.1)) (ws.map (·.2)):=by
     intro ws;induction ws with
     | nil=>intro _;exact .nil
     | cons a l ih=>intro h;exact .cons (h a (.head _)) (ih fun x hx=>h x (.tail _ hx))
    exact this ws fun x hx=>(eachw x hx).1
   have rkeq:∀x∈ws,rkC s.heap x.2=rkD x.1.2:=fun x hx=>by
    obtain⟨_,b,k,h1,h2,_⟩:=eachw x hx;rw[h1.rk,h2];rfl
   have fst_snd:∀z∈(arrOf y).toList,z.1=z.2:=fun z hz=>by
    have:z∈its.zip its:=pml.mem_iff.mp hz;obtain⟨i,hi,rfl⟩:=List.getElem_of_mem this;simp
   have szy:(arrOf y).size=its.length:=by
    have:=pml.length_eq;simpa using this
   have pw:(ws.map (·.1)).Pairwise (fun a b=>rkD a.2<=rkD b.2):=by
    rw[List.pairwise_map,List.pairwise_iff_getElem];intro i j hi hj hij;have lw:ws.length=its.length:=by
     have:=congrArg List.length p2;simpa[szy] using this
    have gw:∀k (hk:k<ws.length),rkAt (rkC s.heap) (arrOf y) k=rkD ws[k].1.2:=fun k hk=>by
     have hk':k<(arrOf y).size:=by lia
     have e1:(arrOf y).toList[k]'(by simpa using hk')=(arrOf y)[k]:=by simp
     have e2:ws[k].2=(arrOf y)[k].2:=by
      have:(ws.map (·.2))[k]'(by simpa using hk)=((arrOf y).toList.map (·.2))[k]'(by simpa using hk'):=by simp only[p2]
      simpa using this
     have e3:(arrOf y)[k].1=(arrOf y)[k].2:=fst_snd _ (by rw[<- e1];exact List.getElem_mem _)
     unfold rkAt;rw[Array.getElem?_eq_getElem hk'];simp only[Option.map_some,Option.getD_some];rw[e3,<- e2];exact rkeq _ (List.getElem_mem _)
    have:=up i j hij (by lia)
    rwa [gw i hi,gw j hj]at this
   have ev:(arrOf y).map (·.2)=(ws.map (·.2)).toArray:=by
    apply Array.toList_inj.mp;rw[Array.toList_map,p2]
   rw[ev];obtain⟨e,he⟩:=sortedAll_at s.heap its (ws.map (·.2)).toArray;refine⟨.ref (s.heap.objs.size+1),_,I.laid (a:=s.heap.objs.size+1) (o:=.lst ((ws.map (·.1)).map (·.1))) (t':=s.toks) (fun _ _=>sortedAll_old) (Nat.le_succ _) ?_,rfl,q _ pz pw _ (I.hok.fresh (Nat.le_succ _))⟩
   refine⟨?_,ws.map (·.2),e,rw',he⟩;have:64<=sizeLine:=by decide
   have:=pz.length_eq;simp at this ⊢;lia
 rcases hq with hq|hq
 ·obtain⟨its,r',pl,hz⟩:=I.list hq;obtain⟨o,ho,hc,n,hd⟩:=pl.isList;exact key its o "list" n r' ho hc (.inl rfl) hd
 ·obtain⟨its,r',pl,hz⟩:=I.tuple hq;obtain⟨o,ho,hc,n,hd⟩:=pl;exact key its o "tuple" n r' ho hc (.inr rfl) hd
end
def IsPr(t:PyData):Prop:=∃b k:Int,t=.tuple [.int b,.int k]/\0<=k/\k<1000
def Zf(t:PyData)(R:List PyData->Prop):Prop:=YQ t fun ts=>ts.length<64/\(∀x∈ts,IsPr x)/\∀ts':List PyData,ts'.Perm ts->ts'.Pairwise (fun a b=>rkD a<=rkD b)->R ts'
def zpK(d:DTE):DTA:=fun ρ n R=>d ρ n fun t n1=>Zf t fun ts=>R ts n1
section
variable{X:Cx}{e:Expr}{d:DTE}{pos p:Pos}{k:Nat}
theorem zhB(hr:Room k X.A)(hm:X.mg "sorted" = none) (h:DL X e d) (hs:starEach [e] X.env=[(false,eval e X.env)]) (hg:Gl X "sorted":=by rfl):DN X (.Call (.Name "sorted" p) [e] [] pos) (zpK d):=by
 obtain⟨ta,pa,h⟩:=h;refine⟨_,Z2 zhI hm boot_sorted (QZ pa Us hs) hg,fun C ρ σ H n Q R S hd hq=>?_⟩
 refine h C ρ σ H n _ _ S hd fun t n1 v H1 r1 e1 h1 q1=>?_
 have S1:=S.on e1 h1;have fin:∀p vs ts,Reps X.K C.hd (Own C ρ σ) H1 vs ts->R ts n1->H1 p=none->Q (.ref p) (upd H1 p (.lst vs)):=fun p vs ts rp rr hp=>by
  have hp0:H p=none:=by
   cases z:H p with
   | none=>rfl
   | some o =>
    by_cases y:C.hd=some p
    ·obtain⟨d,m,t,q,_⟩:=h1 p y;rw[hp]at q;cases q
    ·rw[e1 p o z y]at hp;cases hp
  refine hq ts n1 p vs _ rr (e1.trans (ExtE.new hp)) (h1.same (Qb hp)) hp0 JQ ?_;refine rp.mono (fun b o hb z=>z.elim id fun z=>?_) fun b o _ hb=>Qb hp b o hb
  subst z;rw[hp]at hb;cases hb
 have go:∀(p:Addr) vs ts,(SqL X.K H1 p vs\/SqT X.K H1 p vs)->Reps X.K C.hd (Own C ρ σ) H1 vs ts->(ts.length<64/\(∀x∈ts,IsPr x)/\∀ts':List PyData,ts'.Perm ts->ts'.Pairwise (fun a b=>rkD a<=rkD b)->R ts' n1) ->
   ∃(p':Addr) (zs:List (V×PyData)),[V.ref p]=[V.ref p']/\(SqL X.K H1 p' (zs.map (·.1))\/SqT X.K H1 p' (zs.map (·.1)))/\zs.length<64/\(∀z∈zs,PrV X.K H1 z) /\
  ∀zs':List (V×PyData),zs'.Perm zs->zs'.Pairwise (fun a b=>rkD a.2<=rkD b.2)->∀l,H1 l=none->Q (.ref l) (upd H1 l (.lst (zs'.map (·.1)))):=fun p vs ts hs rp h=>by
  have ln:=rp.length;have rel:∀z∈vs.zip ts,Rep X.K C.hd (Own C ρ σ) H1 z.1 z.2:=fun z hz=>by
   obtain⟨i,hi,rfl⟩:=List.getElem_of_mem hz;have hi2:i<ts.length:=by simp at hi;lia
   obtain⟨v,h1,h2⟩:=rp.get (List.getElem?_eq_getElem hi2);have hi1:i<vs.length:=by lia
   rw[List.getElem?_eq_getElem hi1]at h1;cases h1;simpa using h2
  refine⟨p,vs.zip ts,rfl,?_,by simp;lia,fun z hz=>?_,fun zs' pm pw l hl=>?_⟩
  ·rw[List.map_fst_zip (by lia)];exact hs
  ·obtain⟨b,k,e,k0,k1⟩:=h.2.1 z.2 (List.of_mem_zip hz).2;have r:=rel z hz;rw[e]at r;obtain⟨a,ws,e1,e2,e3⟩:=r.tupI;cases e3 with
   | cons x1 x2 =>
    cases x2 with
    | cons x3 x4 =>
     cases x4;rw[x1.intI,x3.intI]at e2;exact⟨a,b,k,e1,e,e2,k0,k1⟩
  ·refine fin l _ (zs'.map (·.2)) ?_ (h.2.2 _ ?_ ?_) hl
   ·have:∀zs:List (V×PyData),(∀z∈zs,Rep X.K C.hd (Own C ρ σ) H1 z.1 z.2)->Reps X.K C.hd (Own C ρ σ) H1 (zs.map (·.1)) (zs.map (·.2)):=by
     intro zs;induction zs with
     | nil=>intro _;exact .nil
     | cons a l ih=>intro h;exact .cons (h a (.head _)) (ih fun x hx=>h x (.tail _ hx))
    exact this zs' fun z hz=>rel z (pm.mem_iff.mp hz)
   ·have:=pm.map (·.2)
    rwa [List.map_snd_zip (by lia)]at this
   ·rw[List.pairwise_map];exact pw
 cases t with
 | list ts =>
  obtain⟨p,vs,rfl,h1',h2⟩:=q1.lstI;exact go p vs ts (.inl (.of h1')) h2 r1
 | tuple ts =>
  obtain⟨p,vs,rfl,h1',h2⟩:=q1.tupI;exact go p vs ts (.inr h1') h2 r1
 | _=>exact r1.elim
end
abbrev prD(b:Int×Int):PyData:=.tuple [.int b.1,.int b.2]
def pD(bs:qB):List PyData:=bs.map prD
theorem JP{bs:qB}:(pD bs).length=bs.length:=by simp[pD]
theorem zqW{bs cs:qB}:pD bs++pD cs=pD (bs++cs):=by simp[pD]
theorem Z6{i h:Int}{bs:qB}:pD bs++[.tuple [.int i,.int h]]=pD (bs++[(i,h)]):=by simp[pD]
theorem zlg{bs:qB}{k:Nat}{t:PyData}(h:(pD bs)[k]?=some t):∃i g:Int,bs[k]?=some (i,g)/\t=.tuple [.int i,.int g]:=by
 unfold pD at h;rw[List.getElem?_map]at h;cases e:bs[k]? with
 | none=>rw[e]at h;cases h
 | some b=>rw[e]at h;cases h;exact⟨b.1,b.2,rfl,rfl⟩
def eB(b:Int×Int):Int:=b.1+2 ^ b.2.toNat
def Bks(bits:Int)(bs:qB):Prop:=∀b∈bs,IsBk bits b.1 b.2
def Ptc(bits:Int)(bs:qB):Prop:=Bks bits bs/\bs.Pairwise fun a b=>eB a<=b.1
theorem JT(b:Int×Int):b.1<eB b:=by have:=Bd.QL b.2.toNat;unfold eB;lia
theorem Ptc.ends{bits:Int}{bs:qB}(P:Ptc bits bs):bs.Pairwise fun a b=>eB a<=eB b:=P.2.imp fun {a b} h=>by have:=JT b;lia
theorem zrb{bs:qB}:Okd (.list (pD bs)):=by
 have:∀bs:List (Int×Int),PyData.canLayAll0 (pD bs)=true/\PyData.depthAll (pD bs)<=1:=by
  intro bs;induction bs with
  | nil=>exact⟨by simp[pD,PyData.canLayAll0],by simp[pD,PyData.depthAll]⟩
  | cons b l ih =>
   refine⟨?_,?_⟩
   ·have:=ih.1;simp only[pD,List.map_cons,PyData.canLayAll0,PyData.canLay0,Bool.and_true,Bool.true_and]at this ⊢;exact this
   ·have:=ih.2;simp only[pD,List.map_cons,PyData.depthAll,PyData.depth]at this ⊢;lia
 exact⟨by simp only[PyData.canLay0];exact(this bs).1,by simp only[PyData.depth];have:=(this bs).2;lia⟩
theorem zif:Okd (.list []):=⟨by simp[PyData.canLay0,PyData.canLayAll0],by simp[PyData.depth,PyData.depthAll]⟩
theorem zpl{d:DTE}{ρ:En}{n:Nat}{Rl:List PyData->Nat->Prop}(h:d ρ n fun t n1=>Zf t fun ts=>Rl ts n1):zpK d ρ n Rl:=h
theorem zrk{bits:Int}{bs:qB}{Rl:List PyData->Prop}(hb:bits<=64)(B:Bks bits bs)(dis:bs.Pairwise fun a b=>eB a<=b.1\/eB b<=a.1)(h64:bs.length<64)
  (h:∀cs,Ptc bits cs->cs.Perm bs->Rl (pD cs)):Zf (.list (pD bs)) Rl:=by
 refine⟨by rw[JP];exact h64,fun x hx=>?_,fun ts' pm pw=>?_⟩
 ·obtain⟨b,hb',rfl⟩:=List.mem_map.mp hx;have:=B b hb';exact⟨b.1,b.2,rfl,this.1,by have:=this.2.1;lia⟩
 ·have pm':ts'.Perm ((bs.map fun b=>(b,prD b)).map (·.2)):=by
   have:(bs.map fun b=>(b,prD b)).map (·.2)=pD bs:=by simp[pD]
   rw[this];exact pm
  obtain⟨zs,p1,p2⟩:=zgj pm';have ez:∀z∈zs,z.2=prD z.1:=fun z hz=>by
   obtain⟨b,_,rfl⟩:=List.mem_map.mp (p1.mem_iff.mp hz)
   rfl
  have e:ts'=pD (zs.map (·.1)):=by
   rw[<- p2];unfold pD;rw[List.map_map];exact List.map_congr_left fun z hz=>ez z hz
  have pc:(zs.map (·.1)).Perm bs:=by
   have:=p1.map (·.1);rw[List.map_map]at this;have e2:bs.map ((fun x:(Int×Int)×PyData=>x.1)∘fun b=>(b,prD b))=bs:=by
    show bs.map id=bs
    exact List.map_id _
   rwa [e2]at this
  rw[e];have dis':(zs.map (·.1)).Pairwise fun a b=>eB a<=b.1\/eB b<=a.1:=(pc.pairwise_iff (fun {a b} h=>h.symm)).mpr dis
  have B':Bks bits (zs.map (·.1)):=fun b hb=>B b (pc.mem_iff.mp hb)
  rw[e]at pw;unfold pD at pw;rw[List.pairwise_map]at pw;refine h _ ⟨B',?_⟩ pc;have both:=List.Pairwise.and dis' pw;refine List.Pairwise.imp_of_mem ?_ both;rintro a b ha hb ⟨h1,h2⟩;have h2:a.1*1000+a.2<=b.1*1000+b.2:=h2;have a0:=(B' a ha).1;have a1:=(B' a ha).2.1;have b0:=(B' b hb).1;have b1:=(B' b hb).2.1;have:=JT a;have:=JT b;lia
theorem zsk{tg:DTG}{tt:DTT}{d:DTE}{ρ0:En}{Rl:List PyData->Nat->Prop}(Inv:Nat->List PyData->Nat->Prop):∀(xs:qD) (i:Nat) {acc:qD}{n:Nat},Inv i acc n ->
  (∀(k:Nat) (x:PyData) (acc:qD) (n:Nat) (K:List PyData->Nat->Prop),xs[k]?=some x->Inv (i+k) acc n->(∀acc' n',Inv (i+k+1) acc' n'->K acc' n') ->
   tg x ρ0 fun ρ1=>tt ρ1 n fun b n2=>if b=true then d ρ1 n2 fun t n3=>acc.length<16777216/\K (acc++[t]) n3 else K acc n2) ->
  (∀acc n,Inv (i+xs.length) acc n->Rl acc n)->JM tg tt d ρ0 xs acc n Rl
 | [],i,acc,n,h0,_,fin=>fin acc n (by simpa using h0)
 | x::xs,i,acc,n,h0,turn,fin=>by
  refine turn 0 x acc n (fun acc n=>JM tg tt d ρ0 xs acc n Rl) rfl (by simpa using h0) fun acc' n' h'=>?_
  refine zsk Inv xs (i+1) (by simpa using h') (fun k u acc n K e hI hK=>?_) (fun acc n h=>fin acc n ?_)
  ·refine turn (k+1) u acc n K (by simpa using e) ?_ fun acc' n' h'=>hK acc' n' ?_
   ·have:i+(k+1)=i+1+k:=by lia
    rw[this];exact hI
   ·have:i+1+k+1=i+(k+1)+1:=by lia
    rw[this];exact h'
  ·have:i+(x::xs).length=i+1+xs.length:=by simp;lia
   rw[this]at *;exact h
theorem zoi{tg:DTG}{tt:DTT}{d:DTE}{ρ0:En}{Rl:List PyData->Nat->Prop}{xs:qD}{n:Nat}(Inv:Nat->List PyData->Nat->Prop)(h0:Inv 0 [] n)
  (turn:∀(k:Nat) (x:PyData) (acc:qD) (n:Nat) (K:List PyData->Nat->Prop),xs[k]?=some x->Inv k acc n->(∀acc' n',Inv (k+1) acc' n'->K acc' n') ->
   tg x ρ0 fun ρ1=>tt ρ1 n fun b n2=>if b=true then d ρ1 n2 fun t n3=>acc.length<16777216/\K (acc++[t]) n3 else K acc n2)
  (fin:∀acc n,Inv xs.length acc n->Rl acc n):JM tg tt d ρ0 xs [] n Rl :=
 zsk Inv xs 0 h0 (fun k x acc n K e hI hK=>turn k x acc n K e (by simpa using hI) fun a m h=>hK a m (by simpa using h)) fun acc n h=>fin acc n (by simpa using h)
theorem UB{α:Type}{cs:List α}{D:α->PyData}{tg:DTG}{tt:DTT}{d:DTE}{ρ0:En}{n:Nat}{Rl:List PyData->Nat->Prop}(F:α->PyData)(hl:cs.length<=16777216)
  (step:∀b∈cs,∀(K:qN) (X:Nat->Prop),K (F b) n->tg (D b) ρ0 fun ρ1=>tt ρ1 n fun c n2=>if c=true then d ρ1 n2 K else X n2) (fin:Rl (cs.map F) n):JM tg tt d ρ0 (cs.map D) [] n Rl:=by
 refine zoi (fun j acc m=>m=n/\acc=(cs.take j).map F) ⟨rfl,rfl⟩ ?_ ?_
 ·rintro j x acc m K ej ⟨rfl,rfl⟩ hK;rw[List.getElem?_map]at ej;cases eb:cs[j]? with
  | none=>rw[eb]at ej;cases ej
  | some b =>
   rw[eb]at ej;cases ej;obtain⟨hj,e2⟩:=List.getElem?_eq_some_iff.mp eb;refine step b (List.mem_of_getElem? eb) _ _ ⟨?_,hK _ _ ⟨rfl,?_⟩⟩
   ·simp;lia
   ·rw[List.take_succ,eb];simp
 ·rintro acc m ⟨rfl,rfl⟩;rw[List.length_map,List.take_length];exact fin
theorem zun{bs:List Bool}{R:PyData->Prop}(h:R (.bool (bs.all id))):bAll [.list (bs.map PyData.bool)] R:=⟨bs,rfl,h⟩
theorem Zj{α:Type}{cs:List α}{f:α->Bool}{R:PyData->Prop}(h:R (.bool (cs.all f))):bAll [.list (cs.map fun b=>PyData.bool (f b))] R:=by
 have e:(cs.map fun b=>PyData.bool (f b))=(cs.map f).map PyData.bool:=by simp
 rw[e];refine zun ?_;have e2:(cs.map f).all id=cs.all f:=by simp[List.all_map,Function.comp_def]
 rw[e2];exact h
theorem zrr{xs:qD}{k:Nat}{x:PyData}{R:PyData->Prop}(e:xs[k]?=some x)(h:R x):oIx (.tuple xs) (.int (k:Int)) R:=by
 have hk:k<xs.length:=by
  rcases Nat.lt_or_ge k xs.length with z|z
  ·exact z
  ·rw[List.getElem?_eq_none z]at e;cases e
 rw[ZS (x:=x)]
 ·exact h
 ·unfold atI ixN;have:((0:Int)<=(k:Int)):=by lia
  have:((k:Int)<(xs.length:Int)):=by lia
  have e2:xs[k]=x:=by rw[List.getElem?_eq_getElem hk]at e;exact Option.some.inj e
  simp[hk,e2]
theorem zpd{xs:qD}{i:Int}{k:Nat}{x:PyData}{R:PyData->Prop}(hi:i=(k:Int))(e:xs[k]?=some x)(h:R x):oIx (.tuple xs) (.int i) R:=by subst hi;exact zrr e h
theorem zoT{bs:qB}{k:Nat}{b:Int×Int}(h:bs[k]?=some b):(pD bs)[k]?=some (.tuple [.int b.1,.int b.2]):=by
 unfold pD;rw[List.getElem?_map,h];rfl
theorem zpz{bs:qB}:PyData.eqv (.list (pD bs)) (.list [])=bs.isEmpty:=by
 cases bs with
 | nil=>simp[pD,PyData.eqv,PyData.eqvAll]
 | cons b l=>simp[pD,PyData.eqv,PyData.eqvAll]
theorem Va{many:Int}{n:Nat}{R:qN}(h0:0<many)(h1:many<2 ^ 128)(hn:n<=1000000000000)(h:∀r:Int,0<=r->r<many->R (.int r) (n+1)):Ul [HAND,.int many] n R:=⟨rfl,h0,h1,hn,h⟩
theorem zjZ{i h:Int}:JY (.tuple [.int i,.int h])=true:=by simp[JY,Zl]
theorem Bks.app{bits i h:Int}{bs:qB}(B:Bks bits bs)(C:IsBk bits i h):Bks bits (bs++[(i,h)]):=fun b hb=>by
 rcases List.mem_append.mp hb with z|z
 ·exact B b z
 ·cases List.mem_singleton.mp z;exact C
section
variable{prog:Program}{w:World}{A:Around}{E:qV}{s:Shared}
open HT in
theorem zc7{t sl:Addr}{items:Array Value}{vl vu:Value}{lo hi:Option Int}{Q:qV}(ht:IsTup s.heap t items)(hs:s.heap.IsSliceOf sl vl vu .none)(pl:IsPart vl lo)(pu:IsPart vu hi)
  (hw:HT.sIx items.size 0 lo=0/\HT.sIx items.size items.size hi=items.size) (h:Q (.ref t) s):wpAny (model prog w) A (getItem (.ref t) (.ref sl)) Q E s:=by
 obtain⟨os,hos,hcs,hds⟩:=id hs;have hTs:s.TypeIs (.ref sl) "slice":=⟨os,hos,hcs⟩;unfold getItem
 try with_reducible refine wpAny_holding ?_
 first|refine wpAny_bind (wpAny_pure ?_)|skip
 refine wpAny_bind (wpAny_sequenceKey ht.typeIs (by decide) ?_)
 refine wpAny_bind (wpAny_callSpecial?_slot (name:=Str.ofString "__getitem__") ht.typeIs PyProof.Rows.slot_tuple_getitem
  (wpAny_call_entry PyProof.Rows.slot_tuple_getitem ht.typeIs entry_tuple_getitem ?_ (args_tuple_getitem _ _)))
 show wpAny _ _ (Builtin.Tuple.tupleItemsOf (.ref t) >>= _) _ _ s
 refine wpAny_bind (tupleItemsOf_ ht ?_);refine wpAny_bind (wpAny_typeOf hTs ?_);rw[if_pos (by decide)]
 refine wpAny_bind (HT.zci hs pl pu ?_);have hyes:(((HT.sIx items.size 0 lo:Nat):Int) == 0&&(1:Int) == 1&&(HT.sIx items.size items.size hi - HT.sIx items.size 0 lo) == items.size)=true:=by
  rw[hw.1,hw.2];simp
 show wpAny _ _ (if (((HT.sIx items.size 0 lo:Nat):Int) == 0&&(1:Int) == 1&&(HT.sIx items.size items.size hi - HT.sIx items.size 0 lo) == items.size)=true then _ else _) _ _ s
 rw[if_pos hyes];unfold Builtin.Tuple.tupleIsExact;refine wpAny_bind (wpAny_bind (wpAny_typeOf ht.typeIs (wpAny_pure ?_)));rw[if_pos (by decide)]
 exact wpAny_bind (wpAny_rule (wpAny_pure ⟨_,rfl,wpAny_pure h⟩))
end
section
variable{X:Cx}
def rSlW(K:qF):V->Option Int->Option Int->Hp->VK->Prop:=fun x lo hi H Q=>∃a xs,x=.ref a/\SqT K H a xs/\(HT.sIx xs.length 0 lo=0/\HT.sIx xs.length xs.length hi=xs.length)/\Q (.ref a) H
theorem zoq:SlR X (rSlW X.K):=by
 intro pins s σ H x v vl vu lo hi sl Q I rx hs pl pu h;obtain⟨a,xs,rfl,hx,hw,q⟩:=h;cases rx;obtain⟨its,r,ht,hz⟩:=I.tuple hx;have hlen:its.toArray.size=xs.length:=by rw[List.size_toArray];exact r.length.symm
 refine⟨"tuple",_,PyProof.Rows.slot_tuple_getitem.lookup,ht.typeIs,?_⟩;exact zc7 ht hs pl pu (by rw[hlen];exact hw) ⟨.ref a,H,I,rfl,q⟩
end
abbrev DTO:=En->Nat->(Option Int->Nat->Prop)->Prop
def DP(X:Cx)(e:Option Expr)(d:DTO):Prop:=∃t,PO X e t/\∀(C:Ctx) (ρ:En) (σ:St) (H:Hp) (n:Nat) (Q:Option Int->Hp->Prop) (R:Option Int->Nat->Prop),Stt X.K C ρ σ H n->d ρ n R ->
 (∀o n' H',R o n'->ExtE C.hd H H'->Hn C.hd H' n'->Q o H')->t σ H Q
def ziU:DTO:=fun ρ n R=>R none n
def zpL(d:DTE):DTO:=fun ρ n R=>d ρ n fun t n'=>lInt t fun i=>R (some i) n'
def cutD(ts:qD)(lo hi:Option Int):List PyData:=(ts.drop (HT.sIx ts.length 0 lo)).take (HT.sIx ts.length ts.length hi - HT.sIx ts.length 0 lo)
section
variable{X:Cx}{e:Expr}{d:DTE}{lo hi:Option Expr}{dlo dhi:DTO}{pos p2:Pos}
theorem Zz:DP X none ziU:=⟨_,zoJ,fun C ρ σ H n Q R S h hq=>hq none n H h ExtE.refl S.hnd⟩
theorem ZA(h:DE X e d):DP X (some e) (zpL d):=by
 obtain⟨ta,pa,h⟩:=h;refine⟨_,zoI pa,fun C ρ σ H n Q R S hd hq=>?_⟩
 refine h C ρ σ H n _ _ S hd fun t n1 v H1 r1 e1 h1 q1=>?_
 cases t with
 | int i =>
  cases q1;exact⟨i,rfl,hq (some i) n1 H1 r1 e1 h1⟩
 | _=>exact r1.elim
theorem znG{K:qF}{hd:Option Addr}{O:Addr->Prop}{H:Hp}{vs ts}(r:Reps K hd O H vs ts)(lo hi:Option Int):Reps K hd O H (cutV vs lo hi) (cutD ts lo hi):=by
 unfold cutV cutD;rw[r.length];exact(r.drop _).take _
theorem zke{ts:qD}{lo hi:Option Int}(h:HT.sIx ts.length 0 lo=0/\HT.sIx ts.length ts.length hi=ts.length):cutD ts lo hi=ts:=by
 unfold cutD;rw[h.1,h.2];simp
end
section
variable{X:Cx}
theorem zmg(hc:X.calm=true):JU X (.builtin "sum") (fun xs H Q=>∃(a:Addr) (ns:List Int),xs=[.ref a]/\SqL X.K H a (ns.map V.int)/\Q (.int ns.sum) H):=by
 intro pins s σ H xs us Q I r h;obtain⟨a,ns,rfl,hq,q⟩:=h;obtain⟨u,rfl,rx⟩:=vals1 r;cases rx;obtain⟨its,rv,p,hz⟩:=I.list hq;have hi:=intsAre_of rv;have hl:s.heap.IsList a its.toArray:=p.isList;obtain⟨xs,hx⟩:=hi.allInts.items;have hn:numsOf its.toArray.toList=ns:=by rw[show its.toArray.toList=its from rfl,hi.numsOf]
 rw[hx]at hl hn;rw[nums_intItems]at hn;refine sum_intListG (I.ok.hd hc) hl fun h' tk t' hk=>?_
 rw[preSum_eq,List.take_of_length_le (by simp),hn]
 exact⟨.int ns.sum,H,I.kept hk,⟨_,rfl⟩,q⟩
def bSum:GC
 | [.list ts],R=>∃ns:List Int,ts=ns.map PyData.int/\R (.int ns.sum)
 | _,_=>False
theorem zr0:GpC X (fun xs H Q=>∃(a:Addr) (ns:List Int),xs=[.ref a]/\SqL X.K H a (ns.map V.int)/\Q (.int ns.sum) H) bSum:=by
 intro hd O H xs ts Q R dom rs h hq;unfold bSum at h;split at h
 ·obtain⟨ns,rfl,h⟩:=h;obtain⟨v,rfl,r1⟩:=QC rs;obtain⟨p,vs,rfl,h1,h2⟩:=r1.lstI;rw[Vk h2]at h1;exact⟨p,ns,rfl,.of h1,hq _ _ H h (Same.refl H) (.int _)⟩
 ·exact h.elim
end
section
variable{d da db:DTE}{dlo dhi:DTO}{ρ:En}{n:Nat}{R:qN}{Ro:Option Int->Nat->Prop}{Rl:List PyData->Nat->Prop}{xs ys:qD}{lo hi:Option Int}{Q:PyData->Prop}{Ql:List PyData->Prop}
theorem zlN(h:Ro none n):ziU ρ n Ro:=h
theorem zpn(h:d ρ n fun t n'=>lInt t fun i=>Ro (some i) n'):zpL d ρ n Ro:=h
end
theorem zuf{α:Type}{cs:List α}{f:α->Int}{R:PyData->Prop}(h:R (.int (cs.map f).sum)):bSum [.list (cs.map fun b=>PyData.int (f b))] R:=by
 have e:(cs.map fun b=>PyData.int (f b))=(cs.map f).map PyData.int:=by simp
 rw[e];exact⟨cs.map f,rfl,h⟩
theorem zf0{cs:qD}{tg:DTG}{tt:DTT}{d:DTE}{ρ0:En}{n:Nat}{Rl:List PyData->Nat->Prop}(F:PyData->PyData)(hl:cs.length<=16777216)
  (step:∀b∈cs,∀(K:qN) (X:Nat->Prop),K (F b) n->tg b ρ0 fun ρ1=>tt ρ1 n fun c n2=>if c=true then d ρ1 n2 K else X n2) (fin:Rl (cs.map F) n):JM tg tt d ρ0 cs [] n Rl:=by
 have:=UB (cs:=cs) (D:=fun t=>t) (tg:=tg) (tt:=tt) (d:=d) (ρ0:=ρ0) (n:=n) (Rl:=Rl) F hl step fin
 simpa using this
class Stp (P:Prop)(Q:outParam Prop):Prop where
 go:Q->P
section
variable{t u tb:DTS}{D:DEnds}{ρ ρ0:En}{n i j m:Nat}{d da db dc d1 d2:DTE}{ds di:DTA}{c c' tt:DTT}{g:G2}{g':G2}{gc:GC}{gd:GD}{tg:DTG}{tgs:DTGs}{R:qN}{Rb:Bool->Nat->Prop}{Rl:List PyData->Nat->Prop}{Re:En->Prop}{x y:PyData}{xs ys acc:qD}{f:Int->Int->Int}{fb:PyData->Bool}{k:Bool}{capt:List Nat}
instance zsH :Stp (sSeq t u D ρ n) ((t { D with nx:=u D } ρ n)):=⟨fun h=>zrF h⟩
instance zqh :Stp (zou D ρ n) ((D.nx ρ n)):=⟨fun h=>zpj h⟩
instance zsI :Stp (sRet d D ρ n) ((d ρ n fun t n'=>D.rt t n')):=⟨fun h=>zrG h⟩
instance ztu :Stp (sIf c t u D ρ n) ((c ρ n fun b n1=>if b=true then t D ρ n1 else u D ρ n1)):=⟨fun h=>zug h⟩
instance zsK :Stp (sAsg d tg D ρ n) ((d ρ n fun t n'=>tg t ρ fun ρ'=>D.nx ρ' n')):=⟨fun h=>zrJ h⟩
instance zsJ :Stp (sFor di tg tb D ρ n) ((di ρ n fun ts n1=>forP tg tb D ts ρ n1)):=⟨fun h=>zrI h⟩
instance zuM :Stp (dC x ρ n R) ((R x n)):=⟨fun h=>i_dC h⟩
instance ztw :Stp (dOp g da db ρ n R) ((da ρ n fun x n1=>db ρ n1 fun y n2=>g x y fun z=>R z n2)):=⟨fun h=>zuk h⟩
instance zsT :Stp (dNew ds ρ n R) ((ds ρ n fun ts n'=>R (.list ts) n')):=⟨fun h=>zrU h⟩
instance zsO :Stp (dTup ds ρ n R) ((ds ρ n fun ts n1=>R (.tuple ts) n1)):=⟨fun h=>zrP h⟩
instance zsS :Stp (dNil ρ n Rl) ((Rl [] n)):=⟨fun h=>zrT h⟩
instance zqn :Stp (Qq d ds ρ n Rl) ((d ρ n fun t n1=>ds ρ n1 fun ts n2=>Rl (t::ts) n2)):=⟨fun h=>zpp h⟩
instance ztx :Stp (dFn gd ds ρ n R) ((ds ρ n fun ts n1=>gd ts n1 R)):=⟨fun h=>zul h⟩
instance zsX :Stp (dFnL gd ds ρ n R) ((ds ρ n fun ts n1=>gd ts n1 fun t n2=>JY t=true/\R t n2)):=⟨fun h=>zrY h⟩
instance zp1 :Stp (Zo gc ds ρ n R) ((ds ρ n fun ts n1=>gc ts fun z=>R z n1)):=⟨fun h=>znq h⟩
instance zsM :Stp (isiD fb d ρ n R) ((d ρ n fun t n1=>lIsi fb t fun z=>R z n1)):=⟨fun h=>zrN h⟩
instance zsY :Stp (dAnd c c' ρ n Rb) ((c ρ n fun b n1=>if b=true then c' ρ n1 Rb else Rb false n1)):=⟨fun h=>zrZ h⟩
instance ztv :Stp (dOr c c' ρ n Rb) ((c ρ n fun b n1=>if b=true then Rb true n1 else c' ρ n1 Rb)):=⟨fun h=>zuj h⟩
instance zsR :Stp (dNot c ρ n Rb) ((c ρ n fun b n1=>Rb (!b) n1)):=⟨fun h=>zrS h⟩
instance zqo :Stp (zpN da db ρ n R) ((da ρ n fun t n1=>bolD t fun b=>if b=true then db ρ n1 R else R (.bool false) n1)):=⟨fun h=>zpr h⟩
instance zsQ :Stp (dOrV da db ρ n R) ((da ρ n fun t n1=>bolD t fun b=>if b=true then R (.bool true) n1 else db ρ n1 R)):=⟨fun h=>zrR h⟩
instance zqm :Stp (zpM da ρ n R) ((da ρ n fun t n1=>bolD t fun b=>R (.bool (!b)) n1)):=⟨fun h=>zpo h⟩
instance zsP :Stp (dTru d ρ n Rb) ((d ρ n fun t n'=>truD t fun b=>Rb b n')):=⟨fun h=>zrQ h⟩
instance zsN :Stp (dYes ρ n Rb) ((Rb true n)):=⟨fun h=>zrO h⟩
instance zqf :Stp (UY tgs (.tuple xs) ρ Re) ((tgs xs ρ Re)):=⟨fun h=>zph h⟩
instance zqg :Stp (UX [] ρ Re) ((Re ρ)):=⟨fun h=>zpi h⟩
instance zpZ :Stp (QW tg tgs (x::xs) ρ Re) ((tg x ρ fun ρ'=>tgs xs ρ' Re)):=⟨fun h=>zno h⟩
instance zqi :Stp (Yv d ρ n Rb) ((d ρ n fun t n'=>bolD t fun b=>Rb b n')):=⟨fun h=>zpk h⟩
instance zsW :Stp (dItL d ρ n Rl) ((d ρ n fun t n'=>lLst t fun ts=>Rl ts n')):=⟨fun h=>zrX h⟩
instance zsV :Stp (dItT d ρ n Rl) ((d ρ n fun t n'=>lTup t fun ts=>Rl ts n')):=⟨fun h=>zrW h⟩
instance zqk :Stp (Zg d ρ n Rl) ((d ρ n fun t n'=>lInt t fun j=>(-(2 ^ 62)<=j/\j<2 ^ 62)/\Rl (J4 0 j.toNat) n')):=⟨fun h=>zpm h⟩
instance zsU :Stp (dNeg d ρ n R) ((d ρ n fun t n'=>lInt t fun i=>R (.int (-i)) n')):=⟨fun h=>zrV h⟩
instance zp0 :Stp (YL g g' da db dc ρ n R) ((da ρ n fun x n1=>db ρ n1 fun y n2=>g x y fun z=>bolD z fun b=>if b=true then dc ρ n2 fun w n3=>g' y w fun z=>R z n3 else R (.bool false) n2)):=⟨fun h=>znp h⟩
instance zsL {b:Bool}{A B:Prop}:Stp (if (!b)=true then A else B) ((if b=true then B else A)):=⟨fun h=>zrL h⟩
end
section
variable{C:Int->Int->Prop}{f:Int->Int->Int}{fb:Int->Int->Bool}{i j k:Int}{R:PyData->Prop}{Rb:Bool->Prop}{xs ys:qD}{s t:Str}{a b:Bool}{u v x y:PyData}{Rn:qN}{n:Nat}
instance zsG :Stp (oAdd (.int i) (.int j) R) ((R (.int (i+j)))):=⟨fun h=>zrz h⟩
instance zsF :Stp (oAdd (.tuple xs) (.tuple ys) R) (((xs.length+ys.length<=16777216/\R (.tuple (xs++ys))))):=⟨fun h=>zry h⟩
instance ztr :Stp (oEq (.int i) (.int j) R) ((R (.bool (decide (i=j))))):=⟨fun h=>zub h⟩
instance ztq :Stp (oEq (.tuple xs) (.tuple ys) R) (((Okd (.tuple xs)/\Okd (.tuple ys)/\R (.bool (PyData.eqv (.tuple xs) (.tuple ys)))))):=⟨fun h=>zua h⟩
instance ztg :Stp (oNe (.int i) (.int j) R) ((R (.bool (!decide (i=j))))):=⟨fun h=>zt0 h⟩
instance zte :Stp (oNe (.tuple xs) (.tuple ys) R) (((Okd (.tuple xs)/\Okd (.tuple ys)/\R (.bool (!PyData.eqv (.tuple xs) (.tuple ys)))))):=⟨fun h=>ztY h⟩
instance ztf :Stp (oNe (.list xs) (.list ys) R) (((Okd (.list xs)/\Okd (.list ys)/\R (.bool (!PyData.eqv (.list xs) (.list ys)))))):=⟨fun h=>ztZ h⟩
instance zto :Stp (oIs u .none R) ((R (.bool (isNone u)))):=⟨fun h=>zt8 h⟩
instance zqe :Stp (oIsN u .none R) ((R (.bool (!isNone u)))):=⟨fun h=>zpf h⟩
instance ztl :Stp (oLtA (.int i) (.int j) R) ((R (.bool (decide (i<j))))):=⟨fun h=>zt5 h⟩
instance ztn :Stp (oLeA (.int i) (.int j) R) ((R (.bool (decide (i<=j))))):=⟨fun h=>zt7 h⟩
instance zsA :Stp (oIx (.tuple (u::xs)) (.int 0) R) ((R u)):=⟨fun h=>zrq h⟩
instance zsz :Stp (oIx (.tuple (u::v::xs)) (.int 1) R) ((R v)):=⟨fun h=>zrp h⟩
instance zsC :Stp (oIx (.list (u::xs)) (.int 0) R) ((R u)):=⟨fun h=>zrv h⟩
instance zsB :Stp (oIx (.list (u::v::xs)) (.int 1) R) ((R v)):=⟨fun h=>zru h⟩
instance zsv :Stp (truD (.bool a) Rb) ((Rb a)):=⟨fun h=>zrj h⟩
instance zsu :Stp (truD (.list xs) Rb) ((Rb (!xs.isEmpty))):=⟨fun h=>zri h⟩
instance zts :Stp (bolD (.bool a) Rb) ((Rb a)):=⟨fun h=>zuc h⟩
instance zsy :Stp (bLen [.list xs] R) ((R (.int xs.length))):=⟨fun h=>zrn h⟩
instance zsx :Stp (bLen [.tuple xs] R) ((R (.int xs.length))):=⟨fun h=>zrm h⟩
instance zpY {ns:List Int}:Stp (bLen [SCR ns] R) ((R (.int ns.length))):=⟨fun h=>znk h⟩
instance ztj :Stp (bMin [.int i,.int j] R) ((R (.int (if j<i then j else i)))):=⟨fun h=>zt3 h⟩
instance ztk :Stp (bMax [.int i,.int j] R) ((R (.int (if j > i then j else i)))):=⟨fun h=>zt4 h⟩
instance zsD :Stp (bInt [.bool a] R) ((R (.int (if a then 1 else 0)))):=⟨fun h=>zrw h⟩
instance zpX :Stp (Zm [.list xs] R) ((R (.tuple xs))):=⟨fun h=>znj h⟩
instance zqd {Rl:List PyData->Prop}:Stp (YQ (.list xs) Rl) ((Rl xs)):=⟨fun h=>zpe h⟩
instance ztm {Q:List PyData->Prop}:Stp (lLst (.list xs) Q) ((Q xs)):=⟨fun h=>zt6 h⟩
instance ztb {Q:List PyData->Prop}:Stp (lTup (.tuple xs) Q) ((Q xs)):=⟨fun h=>ztV h⟩
instance ztp {i:Int}{Q:Int->Prop}:Stp (lInt (.int i) Q) ((Q i)):=⟨fun h=>zt_ h⟩
instance zsw {Q:PyData->PyData->Prop}:Stp (Ze [x,y] Q) ((Q x y)):=⟨fun h=>zrl h⟩
instance zth :Stp (oMul (.int i) (.int j) R) ((CMul i j)/\(R (.int (i*j)))):=⟨fun h=>zt1 h.1 h.2⟩
instance zti :Stp (oMod (.int i) (.int j) R) ((0<j)/\(R (.int (i % j)))):=⟨fun h=>zt2 h.1 h.2⟩
instance zsE :Stp (Q4 (.int i) (.int j) R) ((Za i j)/\(R (.int (i / j)))):=⟨fun h=>zrx h.1 h.2⟩
instance ztd :Stp (oShl (.int i) (.int j) R) ((CPow i j)/\(R (.int (i*2 ^ j.toNat)))):=⟨fun h=>ztX h.1 h.2⟩
instance ztc :Stp (oSub (.int i) (.int j) R) ((R (.int (i - j)))):=⟨fun h=>ztW h⟩
instance zta :Stp (oXor (.int i) (.int j) R) ((R (.int (Builtin.bitXor i j)))):=⟨fun h=>ztU h⟩
instance ztt :Stp (oAnd (.int i) (.int j) R) ((R (.int (Builtin.bitAnd i j)))):=⟨fun h=>zud h⟩
instance zuI :Stp (gB fb (.int i) (.int j) R) ((R (.bool (fb i j)))):=⟨fun h=>j_gB h⟩
instance zmN :Stp (lIsi isInt (.int i) R) ((R (.bool true))):=⟨fun h=>ziL h⟩
instance zmA :Stp (lIsi isInt (.bool a) R) ((R (.bool true))):=⟨fun h=>zhr h⟩
instance zmM :Stp (lIsi isInt (.str s) R) ((R (.bool false))):=⟨fun h=>ziK h⟩
instance zkO :Stp (lIsi isInt (.tuple xs) R) ((R (.bool false))):=⟨fun h=>zgy h⟩
instance zmy :Stp (lIsi isInt (.list xs) R) ((R (.bool false))):=⟨fun h=>zhp h⟩
instance zmx :Stp (lIsi isInt (.none) R) ((R (.bool false))):=⟨fun h=>zho h⟩
instance zmz :Stp (lIsi isInt (.dict []) R) ((R (.bool false))):=⟨fun h=>zhq h⟩
instance zmB :Stp (lIsi isBool (.int i) R) ((R (.bool false))):=⟨fun h=>zhs h⟩
instance zkP :Stp (lIsi isBool (.bool a) R) ((R (.bool true))):=⟨fun h=>zgz h⟩
instance zmL :Stp (lIsi isTup (.int i) R) ((R (.bool false))):=⟨fun h=>ziJ h⟩
instance zmw :Stp (lIsi isTup (.bool a) R) ((R (.bool false))):=⟨fun h=>zhn h⟩
instance zmK :Stp (lIsi isTup (.str s) R) ((R (.bool false))):=⟨fun h=>ziI h⟩
instance zkN :Stp (lIsi isTup (.tuple xs) R) ((R (.bool true))):=⟨fun h=>zgx h⟩
instance zmu :Stp (lIsi isTup (.list xs) R) ((R (.bool false))):=⟨fun h=>zhl h⟩
instance zmt :Stp (lIsi isTup (.none) R) ((R (.bool false))):=⟨fun h=>zhk h⟩
instance zmv :Stp (lIsi isTup (.dict []) R) ((R (.bool false))):=⟨fun h=>zhm h⟩
end
section
variable{d da db:DTE}{dlo dhi:DTO}{ρ:En}{n:Nat}{R:qN}{Ro:Option Int->Nat->Prop}{Rl:List PyData->Nat->Prop}{xs ys:qD}{lo hi:Option Int}{Q:PyData->Prop}{Ql:List PyData->Prop}
instance zos :Stp (ziU ρ n Ro) ((Ro none n)):=⟨fun h=>zlN h⟩
instance zql :Stp (zpL d ρ n Ro) ((d ρ n fun t n'=>lInt t fun i=>Ro (some i) n')):=⟨fun h=>zpn h⟩
end
section
instance zqj {d:DTE}{ρ:En}{n:Nat}{Rl:List PyData->Nat->Prop}:Stp (zpK d ρ n Rl) ((d ρ n fun t n1=>Zf t fun ts=>Rl ts n1)):=⟨fun h=>zpl h⟩
end
section
variable{R:PyData->Prop}{b:Bool}{A B:Prop}
instance zuJ:Stp (if true=true then A else B) A:=⟨fun h=>iteT h⟩
instance zuK:Stp (if false=true then A else B) B:=⟨fun h=>iteF h⟩
instance zuL:Stp (oIs (.bool true) (.bool true) R) (R (.bool true)):=⟨fun h=>zt9 h⟩
end
class GetN (ρ:En)(i:Nat)(c:outParam (Option Cell)):Prop where
 e:ρ[i]?=some c
class SetN (ρ:En)(i:Nat)(c:Option Cell)(ρ':outParam En):Prop where
 e:ρ.set i c=ρ'
instance{a0:Option Cell}{as:En}:GetN (a0::as) 0 a0:=⟨rfl⟩
instance{a0 c:Option Cell}{as:En}:SetN (a0::as) 0 c (c::as):=⟨rfl⟩
instance{a0 a1:Option Cell}{as:En}:GetN (a0::a1::as) 1 a1:=⟨rfl⟩
instance{a0 a1 c:Option Cell}{as:En}:SetN (a0::a1::as) 1 c (a0::c::as):=⟨rfl⟩
instance{a0 a1 a2:Option Cell}{as:En}:GetN (a0::a1::a2::as) 2 a2:=⟨rfl⟩
instance{a0 a1 a2 c:Option Cell}{as:En}:SetN (a0::a1::a2::as) 2 c (a0::a1::c::as):=⟨rfl⟩
instance{a0 a1 a2 a3:Option Cell}{as:En}:GetN (a0::a1::a2::a3::as) 3 a3:=⟨rfl⟩
instance{a0 a1 a2 a3 c:Option Cell}{as:En}:SetN (a0::a1::a2::a3::as) 3 c (a0::a1::a2::c::as):=⟨rfl⟩
instance{a0 a1 a2 a3 a4:Option Cell}{as:En}:GetN (a0::a1::a2::a3::a4::as) 4 a4:=⟨rfl⟩
instance{a0 a1 a2 a3 a4 c:Option Cell}{as:En}:SetN (a0::a1::a2::a3::a4::as) 4 c (a0::a1::a2::a3::c::as):=⟨rfl⟩
instance{a0 a1 a2 a3 a4 a5:Option Cell}{as:En}:GetN (a0::a1::a2::a3::a4::a5::as) 5 a5:=⟨rfl⟩
instance{a0 a1 a2 a3 a4 a5 c:Option Cell}{as:En}:SetN (a0::a1::a2::a3::a4::a5::as) 5 c (a0::a1::a2::a3::a4::c::as):=⟨rfl⟩
instance{a0 a1 a2 a3 a4 a5 a6:Option Cell}{as:En}:GetN (a0::a1::a2::a3::a4::a5::a6::as) 6 a6:=⟨rfl⟩
instance{a0 a1 a2 a3 a4 a5 a6 c:Option Cell}{as:En}:SetN (a0::a1::a2::a3::a4::a5::a6::as) 6 c (a0::a1::a2::a3::a4::a5::c::as):=⟨rfl⟩
instance{a0 a1 a2 a3 a4 a5 a6 a7:Option Cell}{as:En}:GetN (a0::a1::a2::a3::a4::a5::a6::a7::as) 7 a7:=⟨rfl⟩
instance{a0 a1 a2 a3 a4 a5 a6 a7 c:Option Cell}{as:En}:SetN (a0::a1::a2::a3::a4::a5::a6::a7::as) 7 c (a0::a1::a2::a3::a4::a5::a6::c::as):=⟨rfl⟩
instance{a0 a1 a2 a3 a4 a5 a6 a7 a8:Option Cell}{as:En}:GetN (a0::a1::a2::a3::a4::a5::a6::a7::a8::as) 8 a8:=⟨rfl⟩
instance{a0 a1 a2 a3 a4 a5 a6 a7 a8 c:Option Cell}{as:En}:SetN (a0::a1::a2::a3::a4::a5::a6::a7::a8::as) 8 c (a0::a1::a2::a3::a4::a5::a6::a7::c::as):=⟨rfl⟩
instance{a0 a1 a2 a3 a4 a5 a6 a7 a8 a9:Option Cell}{as:En}:GetN (a0::a1::a2::a3::a4::a5::a6::a7::a8::a9::as) 9 a9:=⟨rfl⟩
instance{a0 a1 a2 a3 a4 a5 a6 a7 a8 a9 c:Option Cell}{as:En}:SetN (a0::a1::a2::a3::a4::a5::a6::a7::a8::a9::as) 9 c (a0::a1::a2::a3::a4::a5::a6::a7::a8::c::as):=⟨rfl⟩
instance{a0 a1 a2 a3 a4 a5 a6 a7 a8 a9 a10:Option Cell}{as:En}:GetN (a0::a1::a2::a3::a4::a5::a6::a7::a8::a9::a10::as) 10 a10:=⟨rfl⟩
instance{a0 a1 a2 a3 a4 a5 a6 a7 a8 a9 a10 c:Option Cell}{as:En}:SetN (a0::a1::a2::a3::a4::a5::a6::a7::a8::a9::a10::as) 10 c (a0::a1::a2::a3::a4::a5::a6::a7::a8::a9::c::as):=⟨rfl⟩
instance{a0 a1 a2 a3 a4 a5 a6 a7 a8 a9 a10 a11:Option Cell}{as:En}:GetN (a0::a1::a2::a3::a4::a5::a6::a7::a8::a9::a10::a11::as) 11 a11:=⟨rfl⟩
instance{a0 a1 a2 a3 a4 a5 a6 a7 a8 a9 a10 a11 c:Option Cell}{as:En}:SetN (a0::a1::a2::a3::a4::a5::a6::a7::a8::a9::a10::a11::as) 11 c (a0::a1::a2::a3::a4::a5::a6::a7::a8::a9::a10::c::as):=⟨rfl⟩
instance{a0 a1 a2 a3 a4 a5 a6 a7 a8 a9 a10 a11 a12:Option Cell}{as:En}:GetN (a0::a1::a2::a3::a4::a5::a6::a7::a8::a9::a10::a11::a12::as) 12 a12:=⟨rfl⟩
instance{a0 a1 a2 a3 a4 a5 a6 a7 a8 a9 a10 a11 a12 c:Option Cell}{as:En}:SetN (a0::a1::a2::a3::a4::a5::a6::a7::a8::a9::a10::a11::a12::as) 12 c (a0::a1::a2::a3::a4::a5::a6::a7::a8::a9::a10::a11::c::as):=⟨rfl⟩
instance{a0 a1 a2 a3 a4 a5 a6 a7 a8 a9 a10 a11 a12 a13:Option Cell}{as:En}:GetN (a0::a1::a2::a3::a4::a5::a6::a7::a8::a9::a10::a11::a12::a13::as) 13 a13:=⟨rfl⟩
instance{a0 a1 a2 a3 a4 a5 a6 a7 a8 a9 a10 a11 a12 a13 c:Option Cell}{as:En}:SetN (a0::a1::a2::a3::a4::a5::a6::a7::a8::a9::a10::a11::a12::a13::as) 13 c (a0::a1::a2::a3::a4::a5::a6::a7::a8::a9::a10::a11::a12::c::as):=⟨rfl⟩
instance{a0 a1 a2 a3 a4 a5 a6 a7 a8 a9 a10 a11 a12 a13 a14:Option Cell}{as:En}:GetN (a0::a1::a2::a3::a4::a5::a6::a7::a8::a9::a10::a11::a12::a13::a14::as) 14 a14:=⟨rfl⟩
instance{a0 a1 a2 a3 a4 a5 a6 a7 a8 a9 a10 a11 a12 a13 a14 c:Option Cell}{as:En}:SetN (a0::a1::a2::a3::a4::a5::a6::a7::a8::a9::a10::a11::a12::a13::a14::as) 14 c (a0::a1::a2::a3::a4::a5::a6::a7::a8::a9::a10::a11::a12::a13::c::as):=⟨rfl⟩
instance{a0 a1 a2 a3 a4 a5 a6 a7 a8 a9 a10 a11 a12 a13 a14 a15:Option Cell}{as:En}:GetN (a0::a1::a2::a3::a4::a5::a6::a7::a8::a9::a10::a11::a12::a13::a14::a15::as) 15 a15:=⟨rfl⟩
instance{a0 a1 a2 a3 a4 a5 a6 a7 a8 a9 a10 a11 a12 a13 a14 a15 c:Option Cell}{as:En}:SetN (a0::a1::a2::a3::a4::a5::a6::a7::a8::a9::a10::a11::a12::a13::a14::a15::as) 15 c (a0::a1::a2::a3::a4::a5::a6::a7::a8::a9::a10::a11::a12::a13::a14::c::as):=⟨rfl⟩
instance{a0 a1 a2 a3 a4 a5 a6 a7 a8 a9 a10 a11 a12 a13 a14 a15 a16:Option Cell}{as:En}:GetN (a0::a1::a2::a3::a4::a5::a6::a7::a8::a9::a10::a11::a12::a13::a14::a15::a16::as) 16 a16:=⟨rfl⟩
instance{a0 a1 a2 a3 a4 a5 a6 a7 a8 a9 a10 a11 a12 a13 a14 a15 a16 c:Option Cell}{as:En}:SetN (a0::a1::a2::a3::a4::a5::a6::a7::a8::a9::a10::a11::a12::a13::a14::a15::a16::as) 16 c (a0::a1::a2::a3::a4::a5::a6::a7::a8::a9::a10::a11::a12::a13::a14::a15::c::as):=⟨rfl⟩
instance{a0 a1 a2 a3 a4 a5 a6 a7 a8 a9 a10 a11 a12 a13 a14 a15 a16 a17:Option Cell}{as:En}:GetN (a0::a1::a2::a3::a4::a5::a6::a7::a8::a9::a10::a11::a12::a13::a14::a15::a16::a17::as) 17 a17:=⟨rfl⟩
instance{a0 a1 a2 a3 a4 a5 a6 a7 a8 a9 a10 a11 a12 a13 a14 a15 a16 a17 c:Option Cell}{as:En}:SetN (a0::a1::a2::a3::a4::a5::a6::a7::a8::a9::a10::a11::a12::a13::a14::a15::a16::a17::as) 17 c (a0::a1::a2::a3::a4::a5::a6::a7::a8::a9::a10::a11::a12::a13::a14::a15::a16::c::as):=⟨rfl⟩
instance{a0 a1 a2 a3 a4 a5 a6 a7 a8 a9 a10 a11 a12 a13 a14 a15 a16 a17 a18:Option Cell}{as:En}:GetN (a0::a1::a2::a3::a4::a5::a6::a7::a8::a9::a10::a11::a12::a13::a14::a15::a16::a17::a18::as) 18 a18:=⟨rfl⟩
instance{a0 a1 a2 a3 a4 a5 a6 a7 a8 a9 a10 a11 a12 a13 a14 a15 a16 a17 a18 c:Option Cell}{as:En}:SetN (a0::a1::a2::a3::a4::a5::a6::a7::a8::a9::a10::a11::a12::a13::a14::a15::a16::a17::a18::as) 18 c (a0::a1::a2::a3::a4::a5::a6::a7::a8::a9::a10::a11::a12::a13::a14::a15::a16::a17::c::as):=⟨rfl⟩
instance{a0 a1 a2 a3 a4 a5 a6 a7 a8 a9 a10 a11 a12 a13 a14 a15 a16 a17 a18 a19:Option Cell}{as:En}:GetN (a0::a1::a2::a3::a4::a5::a6::a7::a8::a9::a10::a11::a12::a13::a14::a15::a16::a17::a18::a19::as) 19 a19:=⟨rfl⟩
instance{a0 a1 a2 a3 a4 a5 a6 a7 a8 a9 a10 a11 a12 a13 a14 a15 a16 a17 a18 a19 c:Option Cell}{as:En}:SetN (a0::a1::a2::a3::a4::a5::a6::a7::a8::a9::a10::a11::a12::a13::a14::a15::a16::a17::a18::a19::as) 19 c (a0::a1::a2::a3::a4::a5::a6::a7::a8::a9::a10::a11::a12::a13::a14::a15::a16::a17::a18::c::as):=⟨rfl⟩
instance{a0 a1 a2 a3 a4 a5 a6 a7 a8 a9 a10 a11 a12 a13 a14 a15 a16 a17 a18 a19 a20:Option Cell}{as:En}:GetN (a0::a1::a2::a3::a4::a5::a6::a7::a8::a9::a10::a11::a12::a13::a14::a15::a16::a17::a18::a19::a20::as) 20 a20:=⟨rfl⟩
instance{a0 a1 a2 a3 a4 a5 a6 a7 a8 a9 a10 a11 a12 a13 a14 a15 a16 a17 a18 a19 a20 c:Option Cell}{as:En}:SetN (a0::a1::a2::a3::a4::a5::a6::a7::a8::a9::a10::a11::a12::a13::a14::a15::a16::a17::a18::a19::a20::as) 20 c (a0::a1::a2::a3::a4::a5::a6::a7::a8::a9::a10::a11::a12::a13::a14::a15::a16::a17::a18::a19::c::as):=⟨rfl⟩
instance{a0 a1 a2 a3 a4 a5 a6 a7 a8 a9 a10 a11 a12 a13 a14 a15 a16 a17 a18 a19 a20 a21:Option Cell}{as:En}:GetN (a0::a1::a2::a3::a4::a5::a6::a7::a8::a9::a10::a11::a12::a13::a14::a15::a16::a17::a18::a19::a20::a21::as) 21 a21:=⟨rfl⟩
instance{a0 a1 a2 a3 a4 a5 a6 a7 a8 a9 a10 a11 a12 a13 a14 a15 a16 a17 a18 a19 a20 a21 c:Option Cell}{as:En}:SetN (a0::a1::a2::a3::a4::a5::a6::a7::a8::a9::a10::a11::a12::a13::a14::a15::a16::a17::a18::a19::a20::a21::as) 21 c (a0::a1::a2::a3::a4::a5::a6::a7::a8::a9::a10::a11::a12::a13::a14::a15::a16::a17::a18::a19::a20::c::as):=⟨rfl⟩
instance{a0 a1 a2 a3 a4 a5 a6 a7 a8 a9 a10 a11 a12 a13 a14 a15 a16 a17 a18 a19 a20 a21 a22:Option Cell}{as:En}:GetN (a0::a1::a2::a3::a4::a5::a6::a7::a8::a9::a10::a11::a12::a13::a14::a15::a16::a17::a18::a19::a20::a21::a22::as) 22 a22:=⟨rfl⟩
instance{a0 a1 a2 a3 a4 a5 a6 a7 a8 a9 a10 a11 a12 a13 a14 a15 a16 a17 a18 a19 a20 a21 a22 c:Option Cell}{as:En}:SetN (a0::a1::a2::a3::a4::a5::a6::a7::a8::a9::a10::a11::a12::a13::a14::a15::a16::a17::a18::a19::a20::a21::a22::as) 22 c (a0::a1::a2::a3::a4::a5::a6::a7::a8::a9::a10::a11::a12::a13::a14::a15::a16::a17::a18::a19::a20::a21::c::as):=⟨rfl⟩
instance{a0 a1 a2 a3 a4 a5 a6 a7 a8 a9 a10 a11 a12 a13 a14 a15 a16 a17 a18 a19 a20 a21 a22 a23:Option Cell}{as:En}:GetN (a0::a1::a2::a3::a4::a5::a6::a7::a8::a9::a10::a11::a12::a13::a14::a15::a16::a17::a18::a19::a20::a21::a22::a23::as) 23 a23:=⟨rfl⟩
instance{a0 a1 a2 a3 a4 a5 a6 a7 a8 a9 a10 a11 a12 a13 a14 a15 a16 a17 a18 a19 a20 a21 a22 a23 c:Option Cell}{as:En}:SetN (a0::a1::a2::a3::a4::a5::a6::a7::a8::a9::a10::a11::a12::a13::a14::a15::a16::a17::a18::a19::a20::a21::a22::a23::as) 23 c (a0::a1::a2::a3::a4::a5::a6::a7::a8::a9::a10::a11::a12::a13::a14::a15::a16::a17::a18::a19::a20::a21::a22::c::as):=⟨rfl⟩
instance{a0 a1 a2 a3 a4 a5 a6 a7 a8 a9 a10 a11 a12 a13 a14 a15 a16 a17 a18 a19 a20 a21 a22 a23 a24:Option Cell}{as:En}:GetN (a0::a1::a2::a3::a4::a5::a6::a7::a8::a9::a10::a11::a12::a13::a14::a15::a16::a17::a18::a19::a20::a21::a22::a23::a24::as) 24 a24:=⟨rfl⟩
instance{a0 a1 a2 a3 a4 a5 a6 a7 a8 a9 a10 a11 a12 a13 a14 a15 a16 a17 a18 a19 a20 a21 a22 a23 a24 c:Option Cell}{as:En}:SetN (a0::a1::a2::a3::a4::a5::a6::a7::a8::a9::a10::a11::a12::a13::a14::a15::a16::a17::a18::a19::a20::a21::a22::a23::a24::as) 24 c (a0::a1::a2::a3::a4::a5::a6::a7::a8::a9::a10::a11::a12::a13::a14::a15::a16::a17::a18::a19::a20::a21::a22::a23::c::as):=⟨rfl⟩
instance{a0 a1 a2 a3 a4 a5 a6 a7 a8 a9 a10 a11 a12 a13 a14 a15 a16 a17 a18 a19 a20 a21 a22 a23 a24 a25:Option Cell}{as:En}:GetN (a0::a1::a2::a3::a4::a5::a6::a7::a8::a9::a10::a11::a12::a13::a14::a15::a16::a17::a18::a19::a20::a21::a22::a23::a24::a25::as) 25 a25:=⟨rfl⟩
instance{a0 a1 a2 a3 a4 a5 a6 a7 a8 a9 a10 a11 a12 a13 a14 a15 a16 a17 a18 a19 a20 a21 a22 a23 a24 a25 c:Option Cell}{as:En}:SetN (a0::a1::a2::a3::a4::a5::a6::a7::a8::a9::a10::a11::a12::a13::a14::a15::a16::a17::a18::a19::a20::a21::a22::a23::a24::a25::as) 25 c (a0::a1::a2::a3::a4::a5::a6::a7::a8::a9::a10::a11::a12::a13::a14::a15::a16::a17::a18::a19::a20::a21::a22::a23::a24::c::as):=⟨rfl⟩
class NormE (ρ:En)(ρ':outParam En):Prop where
 e:ρ=ρ'
instance{a:Option Cell}{as:En}:NormE (a::as) (a::as):=⟨rfl⟩
instance{ρ ρ1 ρ2:En}{i:Nat}{c:Option Cell}[h:NormE ρ ρ1][k:SetN ρ1 i c ρ2]:NormE (ρ.set i c) ρ2:=⟨by rw[h.e];exact k.e⟩
class NoneN (as:En)(nn:outParam En):Prop where
 e:List.replicate as.length none=nn
instance:NoneN [] []:=⟨rfl⟩
instance{a:Option Cell}{as nn:En}[h:NoneN as nn]:NoneN (a::as) (none::nn):=⟨by rw[List.length_cons,List.replicate_succ,h.e]⟩
class StartN (N:List Str)(ts:qD)(ρ:outParam En):Prop where
 e:JX N ts=ρ
instance:StartN [] [] []:=⟨rfl⟩
instance{x:Str}{N:List Str}{ρ:En}[h:StartN N [] ρ]:StartN (x::N) [] (none::ρ):=⟨by
 have:=h.e;simp only[JX,List.map_nil,List.nil_append,List.length_nil,Nat.sub_zero]at this ⊢;rw[List.length_cons,List.replicate_succ,this]⟩
instance{x:Str}{N:List Str}{t:PyData}{ts:qD}{ρ:En}[h:StartN N ts ρ]:StartN (x::N) (t::ts) (some (.val t)::ρ):=⟨by
 have:=h.e;simp only[JX]at this ⊢;rw[List.map_cons,List.length_cons,List.length_cons,List.cons_append,Nat.add_sub_add_right,this]⟩
theorem zjO{d:DTS}{D:DEnds}{n:Nat}{N:List Str}{ts:qD}{ρ:En}[e:StartN N ts ρ](h:d D ρ n):d D (JX N ts) n:=e.e.symm▸h
class CapN (is:List Nat)(ρ:En)(out:outParam En):Prop where
 e:(is.map fun i=>capV (ρ.getD i none))=out
class CapC (c:Option Cell)(c':outParam (Option Cell)):Prop where
 e:capV c=c'
instance{d:PyData}:CapC (some (.val d)) (some (.val d)):=⟨rfl⟩
instance{d:qD}:CapC (some (.own d)) none:=⟨rfl⟩
instance:CapC none none:=⟨rfl⟩
instance{ρ:En}:CapN [] ρ []:=⟨rfl⟩
instance{i:Nat}{is:List Nat}{ρ out:En}{c c':Option Cell}[g:GetN ρ i c][k:CapC c c'][h:CapN is ρ out]:CapN (i::is) ρ (c'::out):=⟨by
 have ge:=g.e;rw[List.map_cons,h.e,List.getD_eq_getElem?_getD,ge,Option.getD_some,k.e]⟩
class CompN (m:Nat)(capt:List Nat)(ρ:En)(ρ':outParam En):Prop where
 e:JA m capt ρ=ρ'
instance{x:Str}{capt:List Nat}{ρ out:En}[h:CapN capt ρ out]:CompN (List.length [x]) capt ρ (none::out):=⟨by unfold JA;rw[h.e];rfl⟩
instance{x y:Str}{capt:List Nat}{ρ out:En}[h:CapN capt ρ out]:CompN (List.length [x,y]) capt ρ (none::none::out):=⟨by unfold JA;rw[h.e];rfl⟩
instance{x y z:Str}{capt:List Nat}{ρ out:En}[h:CapN capt ρ out]:CompN (List.length [x,y,z]) capt ρ (none::none::none::out):=⟨by unfold JA;rw[h.e];rfl⟩
instance{x y z u:Str}{capt:List Nat}{ρ out:En}[h:CapN capt ρ out]:CompN (List.length [x,y,z,u]) capt ρ (none::none::none::none::out):=⟨by unfold JA;rw[h.e];rfl⟩
def SetK(i:Nat)(c:Option Cell)(K:En->Nat->Prop)(ρ:En)(n:Nat):Prop:=K (ρ.set i c) n
section
variable{t u:DTS}{D:DEnds}{ρ ρ0 ρ':En}{n i j m:Nat}{d dj:DTE}{ds di:DTA}{tt:DTT}{tg:DTG}{R:qN}{Rl:List PyData->Nat->Prop}{Re:En->Prop}{x:PyData}{xs:qD}{f:Int->Int->Int}{capt:List Nat}{c:Option Cell}{K:En->Nat->Prop}{q:Int}
instance zuS [h:SetN ρ i c ρ']:Stp (SetK i c K ρ n) (K ρ' n):=⟨fun k=>by unfold SetK;rw[h.e];exact k⟩
instance zuC:Stp (sSet i d D ρ n) (d ρ n fun t n'=>SetK i (some (.val t)) D.nx ρ n'):=⟨fun h=>h⟩
instance zuD:Stp (sOwn i ds D ρ n) (ds ρ n fun t n'=>SetK i (some (.own t)) D.nx ρ n'):=⟨fun h=>h⟩
instance zst [h:SetN ρ i (some (.val x)) ρ']:Stp (Qi i x ρ Re) (Re ρ'):=⟨fun k=>by unfold Qi;rw[h.e];exact k⟩
instance zuP [h:GetN ρ i (some (.val x))]:Stp (dVar i ρ n R) (R x n):=⟨fun k=>zn6 h.e k⟩
instance zuQ [h:GetN ρ i (some (.own xs))]:Stp (dOwn i ρ n R) (R (.list xs) n):=⟨fun k=>zn7 h.e k⟩
instance zs1 [h:GetN ρ i (some (.own xs))]:Stp (Zu i d D ρ n) (d ρ n fun t n'=>xs.length<16777216/\SetK i (some (.own (xs++[t]))) D.nx ρ n'):=⟨fun k=>zjs h.e k⟩
instance zsZ [h:GetN ρ i (some (.own xs))][h':SetN ρ i (some (.val (.list xs))) ρ']:Stp (Zv i t D ρ n) (t D ρ' n):=⟨fun k=>zjr h.e (by rw[h'.e];exact k)⟩
instance zu1 [h:GetN ρ i (some (.val (.int q)))]:Stp (sAug i f d D ρ n) (d ρ n fun t n'=>lInt t fun k=>SetK i (some (.val (.int (f q k)))) D.nx ρ n'):=⟨fun k=>zum h.e k⟩
instance zuV:Stp (sPar i j ds D ρ n) (ds ρ n fun ts n'=>Ze ts fun t u=>SetK i (some (.val t)) (fun ρ1 n1=>SetK j (some (.val u)) D.nx ρ1 n1) ρ n'):=⟨fun h=>zrH h⟩
instance zuR [h:CompN m capt ρ ρ0]:Stp (dComp m capt di tg tt d ρ n Rl) (di ρ n fun ts n1=>JM tg tt d ρ0 ts [] n1 Rl):=⟨fun k=>zpq (by rw[h.e];exact k)⟩
theorem zqB{D:DEnds}{ρ:En}{i:Nat}{xs:qD}{x:PyData}{n:Nat}{j:Int}{k:Nat}(e:ixN xs.length j=some k)(h:SetK i (some (.own (xs.set k x))) D.nx ρ n) :
  (match ixN xs.length j with|some k=>D.nx (ρ.set i (some (.own (xs.set k x)))) n|none=>False):=by rw[e];exact h
instance zuU [h:GetN ρ i (some (.own xs))]:Stp (sPut i dj d D ρ n) (d ρ n fun t n1=>UQ ρ i D dj t n1 xs):=⟨fun k=>zuh h.e k⟩
instance zuF:Stp (UQ ρ i D dj x n xs) (dj ρ n fun j n2=>lInt j fun j=>(match ixN xs.length j with|some k=>D.nx (ρ.set i (some (.own (xs.set k x)))) n2|none=>False)):=⟨fun h=>zrK h⟩
end
theorem JN{ρ:En}{i:Nat}:ρ.set i (ρ.getD i none)=ρ:=by
 apply List.ext_getElem?
 intro j
 by_cases h:i=j
 ·subst h
  by_cases hl:i<ρ.length
  ·rw[List.getElem?_set_self hl,List.getD_eq_getElem?_getD,List.getElem?_eq_getElem hl];rfl
  ·rw[List.getElem?_eq_none (by simp;omega),List.getElem?_eq_none (by omega)]
 ·rw[List.getElem?_set_ne h]
section
variable{g:DTG}{tb:DTS}{D:DEnds}{ts:qD}{ρ:En}{n:Nat}
theorem zob(i0 i1:Nat)(Inv:Nat->Option Cell->Option Cell->Nat->Prop){ρf:Option Cell->Option Cell->En}[N:∀a0 a1,NormE ((ρ.set i0 a0).set i1 a1) (ρf a0 a1)](h0:Inv 0 (ρ.getD i0 none) (ρ.getD i1 none) n)
  (turn:∀(k:Nat) (t:PyData) (a0 a1:Option Cell) (m:Nat) (K:En->Nat->Prop) (RT:qN) (BK:En->Nat->Prop),ts[k]?=some t->Inv k a0 a1 m->(∀b0 b1 m',Inv (k+1) b0 b1 m'->K (ρf b0 b1) m')->(∀t m,D.rt t m->RT t m)->(∀ρ m,D.nx ρ m->BK ρ m)->g t (ρf a0 a1) fun ρ'=>tb { nx:=K,rt:=RT,bk:=BK,ct:=K } ρ' m)
  (fin:∀a0 a1 m,Inv ts.length a0 a1 m->D.nx (ρf a0 a1) m):forP g tb D ts ρ n:=by
 refine Yk (fun k ρ' m=>∃a0 a1,ρ'=((ρ.set i0 a0).set i1 a1)/\Inv k a0 a1 m) ⟨_,_,?_,h0⟩ ?_ ?_
 ·rw[JN,JN]
 ·rintro k t ρ' m K e ⟨a0,a1,rfl,hI⟩ hK;rw[(N a0 a1).e];exact turn k t a0 a1 m K D.rt D.nx e hI (fun b0 b1 m' h=>(N b0 b1).e▸hK _ _ ⟨b0,b1,rfl,h⟩) (fun _ _ h=>h) (fun _ _ h=>h)
 ·rintro ρ' m ⟨a0,a1,rfl,hI⟩;rw[(N a0 a1).e];exact fin a0 a1 m hI
theorem zr8(i0 i1 i2 i3:Nat)(Inv:Nat->Option Cell->Option Cell->Option Cell->Option Cell->Nat->Prop){ρf:Option Cell->Option Cell->Option Cell->Option Cell->En}[N:∀a0 a1 a2 a3,NormE ((((ρ.set i0 a0).set i1 a1).set i2 a2).set i3 a3) (ρf a0 a1 a2 a3)](h0:Inv 0 (ρ.getD i0 none) (ρ.getD i1 none) (ρ.getD i2 none) (ρ.getD i3 none) n)
  (turn:∀(k:Nat) (t:PyData) (a0 a1 a2 a3:Option Cell) (m:Nat) (K:En->Nat->Prop) (RT:qN) (BK:En->Nat->Prop),ts[k]?=some t->Inv k a0 a1 a2 a3 m->(∀b0 b1 b2 b3 m',Inv (k+1) b0 b1 b2 b3 m'->K (ρf b0 b1 b2 b3) m')->(∀t m,D.rt t m->RT t m)->(∀ρ m,D.nx ρ m->BK ρ m)->g t (ρf a0 a1 a2 a3) fun ρ'=>tb { nx:=K,rt:=RT,bk:=BK,ct:=K } ρ' m)
  (fin:∀a0 a1 a2 a3 m,Inv ts.length a0 a1 a2 a3 m->D.nx (ρf a0 a1 a2 a3) m):forP g tb D ts ρ n:=by
 refine Yk (fun k ρ' m=>∃a0 a1 a2 a3,ρ'=((((ρ.set i0 a0).set i1 a1).set i2 a2).set i3 a3)/\Inv k a0 a1 a2 a3 m) ⟨_,_,_,_,?_,h0⟩ ?_ ?_
 ·rw[JN,JN,JN,JN]
 ·rintro k t ρ' m K e ⟨a0,a1,a2,a3,rfl,hI⟩ hK;rw[(N a0 a1 a2 a3).e];exact turn k t a0 a1 a2 a3 m K D.rt D.nx e hI (fun b0 b1 b2 b3 m' h=>(N b0 b1 b2 b3).e▸hK _ _ ⟨b0,b1,b2,b3,rfl,h⟩) (fun _ _ h=>h) (fun _ _ h=>h)
 ·rintro ρ' m ⟨a0,a1,a2,a3,rfl,hI⟩;rw[(N a0 a1 a2 a3).e];exact fin a0 a1 a2 a3 m hI
theorem zr7(i0 i1 i2 i3 i4:Nat)(Inv:Nat->Option Cell->Option Cell->Option Cell->Option Cell->Option Cell->Nat->Prop){ρf:Option Cell->Option Cell->Option Cell->Option Cell->Option Cell->En}[N:∀a0 a1 a2 a3 a4,NormE (((((ρ.set i0 a0).set i1 a1).set i2 a2).set i3 a3).set i4 a4) (ρf a0 a1 a2 a3 a4)](h0:Inv 0 (ρ.getD i0 none) (ρ.getD i1 none) (ρ.getD i2 none) (ρ.getD i3 none) (ρ.getD i4 none) n)
  (turn:∀(k:Nat) (t:PyData) (a0 a1 a2 a3 a4:Option Cell) (m:Nat) (K:En->Nat->Prop) (RT:qN) (BK:En->Nat->Prop),ts[k]?=some t->Inv k a0 a1 a2 a3 a4 m->(∀b0 b1 b2 b3 b4 m',Inv (k+1) b0 b1 b2 b3 b4 m'->K (ρf b0 b1 b2 b3 b4) m')->(∀t m,D.rt t m->RT t m)->(∀ρ m,D.nx ρ m->BK ρ m)->g t (ρf a0 a1 a2 a3 a4) fun ρ'=>tb { nx:=K,rt:=RT,bk:=BK,ct:=K } ρ' m)
  (fin:∀a0 a1 a2 a3 a4 m,Inv ts.length a0 a1 a2 a3 a4 m->D.nx (ρf a0 a1 a2 a3 a4) m):forP g tb D ts ρ n:=by
 refine Yk (fun k ρ' m=>∃a0 a1 a2 a3 a4,ρ'=(((((ρ.set i0 a0).set i1 a1).set i2 a2).set i3 a3).set i4 a4)/\Inv k a0 a1 a2 a3 a4 m) ⟨_,_,_,_,_,?_,h0⟩ ?_ ?_
 ·rw[JN,JN,JN,JN,JN]
 ·rintro k t ρ' m K e ⟨a0,a1,a2,a3,a4,rfl,hI⟩ hK;rw[(N a0 a1 a2 a3 a4).e];exact turn k t a0 a1 a2 a3 a4 m K D.rt D.nx e hI (fun b0 b1 b2 b3 b4 m' h=>(N b0 b1 b2 b3 b4).e▸hK _ _ ⟨b0,b1,b2,b3,b4,rfl,h⟩) (fun _ _ h=>h) (fun _ _ h=>h)
 ·rintro ρ' m ⟨a0,a1,a2,a3,a4,rfl,hI⟩;rw[(N a0 a1 a2 a3 a4).e];exact fin a0 a1 a2 a3 a4 m hI
theorem zpy(i0 i1 i2 i3 i4 i5 i6 i7 i8 i9:Nat)(Inv:Nat->Option Cell->Option Cell->Option Cell->Option Cell->Option Cell->Option Cell->Option Cell->Option Cell->Option Cell->Option Cell->Nat->Prop){ρf:Option Cell->Option Cell->Option Cell->Option Cell->Option Cell->Option Cell->Option Cell->Option Cell->Option Cell->Option Cell->En}[N:∀a0 a1 a2 a3 a4 a5 a6 a7 a8 a9,NormE ((((((((((ρ.set i0 a0).set i1 a1).set i2 a2).set i3 a3).set i4 a4).set i5 a5).set i6 a6).set i7 a7).set i8 a8).set i9 a9) (ρf a0 a1 a2 a3 a4 a5 a6 a7 a8 a9)](h0:Inv 0 (ρ.getD i0 none) (ρ.getD i1 none) (ρ.getD i2 none) (ρ.getD i3 none) (ρ.getD i4 none) (ρ.getD i5 none) (ρ.getD i6 none) (ρ.getD i7 none) (ρ.getD i8 none) (ρ.getD i9 none) n)
  (turn:∀(k:Nat) (t:PyData) (a0 a1 a2 a3 a4 a5 a6 a7 a8 a9:Option Cell) (m:Nat) (K:En->Nat->Prop) (RT:qN) (BK:En->Nat->Prop),ts[k]?=some t->Inv k a0 a1 a2 a3 a4 a5 a6 a7 a8 a9 m->(∀b0 b1 b2 b3 b4 b5 b6 b7 b8 b9 m',Inv (k+1) b0 b1 b2 b3 b4 b5 b6 b7 b8 b9 m'->K (ρf b0 b1 b2 b3 b4 b5 b6 b7 b8 b9) m')->(∀t m,D.rt t m->RT t m)->(∀ρ m,D.nx ρ m->BK ρ m)->g t (ρf a0 a1 a2 a3 a4 a5 a6 a7 a8 a9) fun ρ'=>tb { nx:=K,rt:=RT,bk:=BK,ct:=K } ρ' m)
  (fin:∀a0 a1 a2 a3 a4 a5 a6 a7 a8 a9 m,Inv ts.length a0 a1 a2 a3 a4 a5 a6 a7 a8 a9 m->D.nx (ρf a0 a1 a2 a3 a4 a5 a6 a7 a8 a9) m):forP g tb D ts ρ n:=by
 refine Yk (fun k ρ' m=>∃a0 a1 a2 a3 a4 a5 a6 a7 a8 a9,ρ'=((((((((((ρ.set i0 a0).set i1 a1).set i2 a2).set i3 a3).set i4 a4).set i5 a5).set i6 a6).set i7 a7).set i8 a8).set i9 a9)/\Inv k a0 a1 a2 a3 a4 a5 a6 a7 a8 a9 m) ⟨_,_,_,_,_,_,_,_,_,_,?_,h0⟩ ?_ ?_
 ·rw[JN,JN,JN,JN,JN,JN,JN,JN,JN,JN]
 ·rintro k t ρ' m K e ⟨a0,a1,a2,a3,a4,a5,a6,a7,a8,a9,rfl,hI⟩ hK;rw[(N a0 a1 a2 a3 a4 a5 a6 a7 a8 a9).e];exact turn k t a0 a1 a2 a3 a4 a5 a6 a7 a8 a9 m K D.rt D.nx e hI (fun b0 b1 b2 b3 b4 b5 b6 b7 b8 b9 m' h=>(N b0 b1 b2 b3 b4 b5 b6 b7 b8 b9).e▸hK _ _ ⟨b0,b1,b2,b3,b4,b5,b6,b7,b8,b9,rfl,h⟩) (fun _ _ h=>h) (fun _ _ h=>h)
 ·rintro ρ' m ⟨a0,a1,a2,a3,a4,a5,a6,a7,a8,a9,rfl,hI⟩;rw[(N a0 a1 a2 a3 a4 a5 a6 a7 a8 a9).e];exact fin a0 a1 a2 a3 a4 a5 a6 a7 a8 a9 m hI
theorem zkw{c:DTT}{tb:DTS}{D:DEnds}{ρ:En}{n:Nat}(Inv:Nat->En->Nat->Prop){m:Nat}(h0:Inv m ρ n)
  (turn:∀m ρ n (K:En->Nat->Prop) (RT:qN) (BK:En->Nat->Prop),Inv m ρ n->(∀m' ρ' n',m'<m->Inv m' ρ' n'->K ρ' n')->(∀t m,D.rt t m->RT t m)->(∀ρ m,D.nx ρ m->BK ρ m) ->
   c ρ n fun b n1=>if b=true then tb { nx:=K,rt:=RT,bk:=BK,ct:=K } ρ n1 else BK ρ n1):zkQ c tb D ρ n :=
 zgR Inv h0 fun m ρ n h=>turn m ρ n (fun ρ' n'=>∃m',m'<m/\Inv m' ρ' n') D.rt D.nx h (fun m' _ _ a b=>⟨m',a,b⟩) (fun _ _ h=>h) (fun _ _ h=>h)
end
open Builtin Builtin.Str
def cutS(x:Str)(lo hi:Option Int):Str:=⟨((x.cps.toList.drop (HT.sIx x.length 0 lo)).take (HT.sIx x.length x.length hi - HT.sIx x.length 0 lo)).toArray⟩
theorem Vb(n d:Nat)(i:Int):((HT.sIx n d (some i):Nat):Int)=max 0 (min (if i<0 then i+(n:Int) else i) (n:Int)):=by
 simp only[HT.sIx]
 by_cases h:i<0
 ·simp only[h,if_true] <;> lia
 ·simp only[h,if_false] <;> lia
theorem zp_(lo hi:Option Int)(n:Nat):strSliceIndices lo hi 1 n=sliceRange ((HT.sIx n 0 lo:Nat):Int) ((HT.sIx n n hi:Nat):Int) 1:=by
 have d0:((HT.sIx n 0 none:Nat):Int)=0:=by simp[HT.sIx]
 have d1:((HT.sIx n n none:Nat):Int)=n:=by simp[HT.sIx]
 cases lo with
 | none =>
  cases hi with
  | none=>rw[d0,d1];rfl
  | some j=>rw[d0,Vb];rfl
 | some i =>
  cases hi with
  | none=>rw[d1,Vb];rfl
  | some j=>rw[Vb,Vb];rfl
theorem zkG(x:Str)(lo hi:Option Int):Txt.slice x lo hi=cutS x lo hi:=by
 have e:strSliceIndices lo hi 1 x.length=(List.range (HT.sIx x.length x.length hi - HT.sIx x.length 0 lo)).map (HT.sIx x.length 0 lo+·):=by rw[zp_,sliceRange_one]
 have pk:(strSliceIndices lo hi 1 x.length).filterMap (x.cps[·]?)=(x.cps.toList.drop (HT.sIx x.length 0 lo)).take (HT.sIx x.length x.length hi - HT.sIx x.length 0 lo):=by rw[e,pick_run]
 unfold Txt.slice;split
 ·rename_i h;have hl:(strSliceIndices lo hi 1 x.length).length=x.length:=by simpa using h
  rw[e,List.length_map,List.length_range]at hl;unfold cutS;have h2:HT.sIx x.length x.length hi<=x.length:=by
   cases hi with
   | none=>simp[HT.sIx]
   | some i=>simp only[HT.sIx];split <;> lia
  have z:HT.sIx x.length 0 lo=0\/x.length=0:=by lia
  have:(x.cps.toList.drop (HT.sIx x.length 0 lo)).take (HT.sIx x.length x.length hi - HT.sIx x.length 0 lo)=x.cps.toList:=by
   have sz:x.cps.toList.length=x.length:=by simp[Str.length]
   rcases z with z|z
   ·rw[z,List.drop_zero,List.take_of_length_le (by lia)]
   ·have:x.cps.toList=[]:=List.length_eq_zero_iff.mp (by lia)
    rw[this];simp
  rw[this]
 ·rw[pk];rfl
section
variable{X:Cx}
theorem zfO{v:Value}{p:Option Int}(h:IsPart v p):∃l:Option (Int×Tok),v=partValue l/\l.map (·.1)=p:=by
 cases h with
 | none=>exact⟨none,rfl,rfl⟩
 | int i t=>exact⟨some (i,t),rfl,rfl⟩
def rSlS:V->Option Int->Option Int->Hp->VK->Prop:=fun x lo hi H Q=>∃z,x=.str z/\z.length<=sizeLine/\Q (.str (cutS z lo hi)) H
theorem zqb:SlR X rSlS:=by
 intro pins s σ H x v vl vu lo hi sl Q I rx hs pl pu h;obtain⟨z,rfl,hz,q⟩:=h;obtain⟨t,rfl⟩:=rx;obtain⟨l,rfl,rfl⟩:=zfO pl;obtain⟨u,rfl,rfl⟩:=zfO pu;have hs':s.heap.IsSlice sl l u none:=hs;refine⟨"str",_,F.slot_str_getitem.lookup,typeIs_str _ _ _,wpAny_getItem_str_slice (l:=l) (u:=u) (st:=none) hs' rfl (post_val_or_str ?_)⟩;have e:(if (((none:Option (Int×Tok)).map (·.1)).getD 1 == 1&&(slicePicked z l u none).length == z.length)=true then z else⟨((slicePicked z l u none).filterMap (z.cps[·]?)).toArray⟩)=Txt.slice z (l.map (·.1)) (u.map (·.1)):=rfl
 rw[e];refine⟨Nat.le_trans (Txt.slice_le z _ _) hz,fun t' k=>⟨.str (Txt.slice z (l.map (·.1)) (u.map (·.1))),H,I.tok _,⟨_,rfl⟩,?_⟩⟩
 rw[zkG];exact q
def oSlA(t:PyData)(lo hi:Option Int)(R:PyData->Prop):Prop:=match t with
 | .tuple ts=>R (.tuple (cutD ts lo hi))
 | .str x=>x.length<=16777216/\R (.str (cutS x lo hi))
 | _=>False
def dSlA(d:DTE)(dl du:DTO):DTE:=fun ρ n R=>d ρ n fun t n1=>dl ρ n1 fun lo n2=>du ρ n2 fun hi n3=>oSlA t lo hi fun z=>R z n3
variable{e a b iter tg:Expr}{d da db:DTE}{lo hi:Option Expr}{dlo dhi:DTO}{pos p2:Pos}
theorem ZH(h:DL X e d)(hl:DP X lo dlo)(hu:DP X hi dhi):DE X (.Subscript e (.Slice lo hi none p2) pos) (dSlA d dlo dhi):=by
 obtain⟨ta,pa,h⟩:=h;obtain⟨tl,pl,hl⟩:=hl;obtain⟨tu,pu,hu⟩:=hu;refine⟨_,zm0 (SlR.or (SlR.or zqa zoq) zqb) pa pl pu,fun C ρ σ H n Q R S hd hq=>?_⟩
 refine h C ρ σ H n _ _ S hd fun t n1 v H1 r1 e1 h1 q1=>?_
 have S1:=S.on e1 h1;refine hl C ρ σ H1 n1 _ _ S1 r1 fun lo n2 H2 r2 e2 h2=>?_
 have S2:=S1.on e2 h2;refine hu C ρ σ H2 n2 _ _ S2 r2 fun hi n3 H3 r3 e3 h3=>?_
 have S3:=S2.on e3 h3;have q3:=(e2.trans e3).repT S.hx q1;cases t with
 | tuple ts =>
  obtain⟨a,vs,rfl,hs,rs⟩:=q3.tupI
  by_cases w:HT.sIx vs.length 0 lo=0/\HT.sIx vs.length vs.length hi=vs.length
  ·refine .inl (.inr ⟨a,vs,rfl,hs,w,hq _ n3 _ H3 r3 (e1.trans (e2.trans e3)) h3 ?_⟩);rw[zke (by rw[<- rs.length];exact w)]
   exact q3.rep (by intro _ z;cases z)
  ·refine .inl (.inl ⟨a,vs,rfl,hs,w,fun p hp=>hq _ n3 _ _ r3 (e1.trans (e2.trans (e3.trans (ExtE.new hp)))) (h3.same (Qb hp)) ?_⟩)
   exact .newT (S3.free hp) hp (znG rs lo hi)
 | str z =>
  rw[q3.strI];exact .inr ⟨z,rfl,r3.1,hq _ n3 _ H3 r3.2 (e1.trans (e2.trans e3)) h3 (.str _)⟩
 | _=>exact r3.elim
end
section
variable{ρ:En}{n:Nat}{d da db:DTE}{dlo dhi:DTO}{R:qN}{Rl:List PyData->Nat->Prop}{Q:PyData->Prop}{xs:qD}{lo hi:Option Int}{x:Str}{i j:Int}{Ql:List PyData->Prop}
instance zuT:Stp (dSlA d dlo dhi ρ n R) (d ρ n fun t n1=>dlo ρ n1 fun lo n2=>dhi ρ n2 fun hi n3=>oSlA t lo hi fun z=>R z n3):=⟨fun h=>h⟩
instance zuA:Stp (oSlA (.tuple xs) lo hi Q) (Q (.tuple (cutD xs lo hi))):=⟨fun h=>h⟩
end
mutual
def plnD:PyData->Bool
 | .dict []=>true
 | .dict _=>false
 | .tuple ts=>decide (ts.length<=1000000)&&Yw ts
 | .list ts=>decide (ts.length<=1000000)&&Yw ts
 | .str x=>decide (x.length<=1000000)
 | _=>true
def Yw:List PyData->Bool
 | []=>true
 | t::ts=>plnD t&&Yw ts
end
def PlnD(d:PyData):Prop:=plnD d=true
theorem zeD:∀{ts:qD},Yw ts=true↔∀t∈ts,PlnD t
 | []=>by simp[Yw]
 | t::ts=>by
  rw[Yw,Bool.and_eq_true,zeD (ts:=ts)];constructor
  ·rintro⟨a,b⟩ u hu;rcases List.mem_cons.mp hu with rfl|hu
   ·exact a
   ·exact b u hu
  ·intro h;exact⟨h t (by simp),fun u hu=>h u (by simp[hu])⟩
theorem PlnD.tup{ts:qD}(h:PlnD (.tuple ts)):ts.length<=1000000/\∀t∈ts,PlnD t:=by
 unfold PlnD plnD at h;rw[Bool.and_eq_true,decide_eq_true_iff,zeD]at h;exact h
theorem zgi{ts:qD}(l:ts.length<=1000000)(h:∀t∈ts,PlnD t):PlnD (.tuple ts):=by
 unfold PlnD plnD;rw[Bool.and_eq_true,decide_eq_true_iff,zeD];exact⟨l,h⟩
theorem Vh{i:Int}:PlnD (.int i):=by unfold PlnD plnD;rfl
theorem zje:∀t∈([]:qD),PlnD t:=fun t h=>nomatch h
theorem ZI{x:PyData}{xs:qD}(h:PlnD x)(h':∀t∈xs,PlnD t):∀t∈x::xs,PlnD t:=fun t ht=>by
 rcases List.mem_cons.mp ht with rfl|ht
 ·exact h
 ·exact h' t ht
theorem PlnD.pln{d:PyData}(h:PlnD d):Pln d:=by
 cases d with
 | dict ks =>
  cases ks with
  | nil=>exact Q9
  | cons a b=>cases a with|mk x y=>simp[PlnD,plnD]at h
 | none=>exact Ub
 | bool=>exact QY
 | int=>exact Q0
 | str=>exact Q8
 | list=>exact Ua
 | tuple=>exact Uc
theorem ziX{α:Type}{cs:List α}{D:α->PyData}{tg:DTG}{tt:DTT}{d:DTE}{ρ0:En}{n:Nat}{Rl:List PyData->Nat->Prop}(p:α->Bool)(F:α->PyData)(hl:cs.length<=16777216)
  (step:∀b∈cs,∀(K:qN) (X:Nat->Prop),(p b=true->K (F b) n)->(p b=false->X n)->tg (D b) ρ0 fun ρ1=>tt ρ1 n fun c n2=>if c=true then d ρ1 n2 K else X n2) (fin:Rl ((cs.filter p).map F) n):JM tg tt d ρ0 (cs.map D) [] n Rl:=by
 refine zoi (fun j acc m=>m=n/\acc=((cs.take j).filter p).map F) ⟨rfl,rfl⟩ ?_ ?_
 ·rintro j x acc m K ej ⟨rfl,rfl⟩ hK;rw[List.getElem?_map]at ej;cases eb:cs[j]? with
  | none=>rw[eb]at ej;cases ej
  | some b =>
   rw[eb]at ej;cases ej;obtain⟨hj,e2⟩:=List.getElem?_eq_some_iff.mp eb;have tk:cs.take (j+1)=cs.take j++[b]:=by rw[List.take_succ,eb];rfl
   refine step b (List.mem_of_getElem? eb) _ _ (fun hp=>⟨?_,hK _ _ ⟨rfl,?_⟩⟩) (fun hp=>hK _ _ ⟨rfl,?_⟩)
   ·have:=List.length_filter_le p (cs.take j);simp at this ⊢;lia
   ·rw[tk,List.filter_append,List.map_append];simp[hp]
   ·rw[tk,List.filter_append,List.map_append];simp[hp]
 ·rintro acc m ⟨rfl,rfl⟩;rw[List.length_map,List.take_length];exact fin
theorem zrt{xs:qD}{r:Int}{R:PyData->Prop}(r0:0<=r)(r1:r<xs.length)(h:∀x∈xs,R x):oIx (.list xs) (.int r) R:=by
 have hr:r.toNat<xs.length:=by omega
 rw[YB (Bd.zgN r0 (List.getElem?_eq_getElem hr))];exact h _ (List.getElem_mem hr)
theorem zro{xs:qD}{r:Int}{R:PyData->Prop}(r0:0<=r)(r1:r<xs.length)(h:∀x∈xs,R x):oIx (.tuple xs) (.int r) R:=by
 have hr:r.toNat<xs.length:=by omega
 rw[ZS (Bd.zgN r0 (List.getElem?_eq_getElem hr))];exact h _ (List.getElem_mem hr)
section
variable{prog:Program}{w:World}{A:Around}{R:Result->Shared->Prop}{s:Shared}{elt tg1 it1 tg2 it2:Expr}{ifs1 ifs2:List Expr}{scope:Scope}{pos:Pos}{it acc:Value}{env:Env}
theorem zhG(it acc:Value)(env:Env):compTurn (.ListComp elt [⟨tg1,it1,ifs1,0⟩,⟨tg2,it2,ifs2,0⟩] scope pos) 0 it acc env=(do
      standAt it1.pos
      match <- pyNext it with
      | none=>pure (.done .next)
      | some v =>
       letOwnedTupleGo tg1 it v
       assign tg1 env v
       let mut ok:=true
       for c in ifs1 do
        if ok then ok <- isTrue c env (eval c env)
       if ok then
        let x <- eval it2 env
        standAt it2.pos
        let x <- foldedSetIterable it2 env x
        let _ <- runOwn (.compStart (.ListComp elt [⟨tg1,it1,ifs1,0⟩,⟨tg2,it2,ifs2,0⟩] scope pos) 1 (<- holding [x] (pyIter x)) acc env) env
       again (.compLoop (.ListComp elt [⟨tg1,it1,ifs1,0⟩,⟨tg2,it2,ifs2,0⟩] scope pos) 0 it acc env)):=by rfl
theorem ziY(it acc:Value)(env:Env):compTurn (.ListComp elt [⟨tg1,it1,ifs1,0⟩,⟨tg2,it2,ifs2,0⟩] scope pos) 1 it acc env=(do
      standAt it2.pos
      match <- pyNext it with
      | none=>pure (.done .next)
      | some v =>
       letOwnedTupleGo tg2 it v
       assign tg2 env v
       let mut ok:=true
       for c in ifs2 do
        if ok then ok <- isTrue c env (eval c env)
       if ok then
        (do let _ <- call (.builtin "list.append") [acc,<- eval elt env])
       again (.compLoop (.ListComp elt [⟨tg1,it1,ifs1,0⟩,⟨tg2,it2,ifs2,0⟩] scope pos) 1 it acc env)):=by rfl
theorem zmD(I:Nat->Shared->Prop)
  (turn:∀n s,I n s->wpAny (model prog w) A (pyNext it) (fun r s₁=>match r with
   | none=>R (.ok .next) s₁
   | some v=>wpAny (model prog w) A (letOwnedTupleGo tg2 it v) (fun _ s₂=>wpAny (model prog w) A (assign tg2 env v) (fun _ s₃ =>
     wpAny (model prog w) A (forIn ifs2 true fun c r=>if r=true then do let ok <- isTrue c env (eval c env);pure (ForInStep.yield ok) else pure (ForInStep.yield r)) (fun ok s₄ =>
      if ok=true then wpAny (model prog w) A (eval elt env) (fun x s₅=>wpAny (model prog w) A (call (.builtin "list.append") [acc,x]) (fun _ s₆=>∃m,m<n/\I m s₆) NoX s₅) NoX s₄
      else ∃m,m<n/\I m s₄) NoX s₃) NoX s₂) NoX s₁) NoX s) (n:Nat) (h:I n s) :
  codeAny (model prog w) A (.compLoop (.ListComp elt [⟨tg1,it1,ifs1,0⟩,⟨tg2,it2,ifs2,0⟩] scope pos) 1 it acc env) R s:=by
 refine codeAny_loop rfl I (fun n s hI=>?_) n h
 show wpAny _ A ((compTurn (.ListComp elt [⟨tg1,it1,ifs1,0⟩,⟨tg2,it2,ifs2,0⟩] scope pos) 1 it acc env).onRaise (fun x=>do noteFrame x env;theTreesLotGoes x)) _ _ s
 refine wpAny_noted (wpAny_mono (E:=NoX) ?_ (fun _ _ q=>q) fun _ _ z=>False.elim z)
 rw[ziY];refine wpAny_bind (wpAny_standAt (wpAny_bind (thn (turn n s hI) fun r s₁ h₁=>?_)))
 cases r with
 | none=>exact wpAny_pure h₁
 | some v =>
  refine wpAny_bind (thn h₁ fun _ s₂ h₂=>wpAny_bind (thn h₂ fun _ s₃ h₃=>wpAny_bind (thn h₃ fun ok s₄ h₄=>?_)))
  cases ok with
  | false=>exact wpAny_pure ⟨rfl,h₄⟩
  | true =>
   refine wpAny_bind (wpAny_bind (thn h₄ fun x s₅ h₅=>wpAny_bind (thn h₅ fun _ s₆ h₆=>?_)))
   exact wpAny_pure (wpAny_pure ⟨rfl,h₆⟩)
theorem zkz(hs:∀x,foldedSetIterable it2 env x=pure x)(I:Nat->Shared->Prop)
  (turn:∀n s,I n s->wpAny (model prog w) A (pyNext it) (fun r s₁=>match r with
   | none=>R (.ok .next) s₁
   | some v=>wpAny (model prog w) A (letOwnedTupleGo tg1 it v) (fun _ s₂=>wpAny (model prog w) A (assign tg1 env v) (fun _ s₃ =>
     wpAny (model prog w) A (forIn ifs1 true fun c r=>if r=true then do let ok <- isTrue c env (eval c env);pure (ForInStep.yield ok) else pure (ForInStep.yield r)) (fun ok s₄ =>
      if ok=true then wpAny (model prog w) A (eval it2 env) (fun x s₅=>wpAny (model prog w) A (pyIter x) (fun itv s₆ =>
       codeAny (model prog w) A (.compStart (.ListComp elt [⟨tg1,it1,ifs1,0⟩,⟨tg2,it2,ifs2,0⟩] scope pos) 1 itv acc env) (fun r s₇=>r=.ok .next/\∃m,m<n/\I m s₇) s₆) NoX s₅) NoX s₄
      else ∃m,m<n/\I m s₄) NoX s₃) NoX s₂) NoX s₁) NoX s) (n:Nat) (h:I n s) :
  codeAny (model prog w) A (.compLoop (.ListComp elt [⟨tg1,it1,ifs1,0⟩,⟨tg2,it2,ifs2,0⟩] scope pos) 0 it acc env) R s:=by
 refine codeAny_loop rfl I (fun n s hI=>?_) n h
 show wpAny _ A ((compTurn (.ListComp elt [⟨tg1,it1,ifs1,0⟩,⟨tg2,it2,ifs2,0⟩] scope pos) 0 it acc env).onRaise (fun x=>do noteFrame x env;theTreesLotGoes x)) _ _ s
 refine wpAny_noted (wpAny_mono (E:=NoX) ?_ (fun _ _ q=>q) fun _ _ z=>False.elim z)
 rw[zhG];refine wpAny_bind (wpAny_standAt (wpAny_bind (thn (turn n s hI) fun r s₁ h₁=>?_)))
 cases r with
 | none=>exact wpAny_pure h₁
 | some v =>
  refine wpAny_bind (thn h₁ fun _ s₂ h₂=>wpAny_bind (thn h₂ fun _ s₃ h₃=>wpAny_bind (thn h₃ fun ok s₄ h₄=>?_)))
  cases ok with
  | false=>exact wpAny_pure ⟨rfl,h₄⟩
  | true =>
   refine wpAny_bind (thn h₄ fun x s₅ h₅=>wpAny_bind (wpAny_standAt (wpAny_bind (wpAny_of_eq (hs x) (wpAny_bind (wpAny_holding (thn h₅ fun itv s₆ h₆=>?_)))))))
   refine wpAny_bind (wpAny_runOwn (codeAny_mono h₆ fun r s₇ h₇=>?_))
   obtain⟨rfl,m,hm,hI'⟩:=h₇;exact wpAny_pure ⟨rfl,m,hm,hI'⟩
theorem zmH
  (h0:codeAny (model prog w) A (.compLoop (.ListComp elt [⟨tg1,it1,ifs1,0⟩,⟨tg2,it2,ifs2,0⟩] scope pos) 1 it acc env) R s)
  (h:wpAny (model prog w) A (pyIter it) (fun it' s'=>codeAny (model prog w) A (.compLoop (.ListComp elt [⟨tg1,it1,ifs1,0⟩,⟨tg2,it2,ifs2,0⟩] scope pos) 1 it' acc env) R s')
   (notedBy (model prog w) A env fun x s'=>R (.error x) s') s) :
  codeAny (model prog w) A (.compStart (.ListComp elt [⟨tg1,it1,ifs1,0⟩,⟨tg2,it2,ifs2,0⟩] scope pos) 1 it acc env) R s:=by
 refine codeAny_of_tree ?_;show wpAny _ _ ((compStart (.ListComp elt [⟨tg1,it1,ifs1,0⟩,⟨tg2,it2,ifs2,0⟩] scope pos) 1 it acc env).onRaise (fun x=>do noteFrame x env;standAt theWindowsPlace)) _ _ s
 refine wpAny_notedAt ?_;unfold compStart;show wpAny _ _ (PySem.ask >>= _) _ _ s
 refine wpAny_bind (wpAny_askSetting (wpAny_ite ?_));split
 ·first
   | exact wpAny_bind (wpAny_pure (wpAny_pure (And.intro rfl h0)))
   | exact wpAny_pure (And.intro rfl h0)
 ·first
   | exact wpAny_bind (wpAny_rule (wpAny_bind (wpAny_standAt (wpAny_bind (wpAny_mono h (fun it' s' h'=>wpAny_pure (And.intro rfl h')) fun _ _ x=>x)))))
   | (refine wpAny_bind (wpAny_rule ?_);show wpAny _ _ (standAt it2.pos >>= _) _ _ s;exact wpAny_bind (wpAny_standAt (wpAny_bind (wpAny_mono h (fun it' s' h'=>wpAny_pure (And.intro rfl h')) fun _ _ x=>x))))
end
def Z9(g:TG)(tt:TT)(te:TE)(σ:St)(J:It)(H1:Hp)(D:Addr)(Q:Hp->Prop):Prop:=∃W:Nat->Nat->Hp->Prop,(∃m,W 0 m H1)/\∀i m H2,W i m H2 ->
 (J.stop i H2/\Q H2)\/(J.go i H2/\∃(N:V->Hp->Prop) (N':Hp->Prop),(∀v H6,N v H6->∃ys,H6 D=some (.lst ys)/\ys.length<sizeLine/\∃m',m'<m/\W (i+1) m' (upd H6 D (.lst (ys++[v]))))/\(∀H5,N' H5->∃m',m'<m/\W (i+1) m' H5) /\
  ∀x H3,J.yld i H2 x H3->g x σ H3 fun σ4 H4=>Wk σ σ4/\tt σ4 H4 fun b H5=>if b=true then te σ4 H5 N else N' H5)
section
variable{Y:Cx}{elt tg1 it1 tg2 it2:Expr}{ifs1 ifs2:List Expr}{scope:Scope}{pos:Pos}{g:TG}{tt:TT}{te:TE}
theorem zlM(hxe:Y.xe=NoX)(hc:Y.calm=true)(hg:PG Y tg2 g)(ht:PTs Y ifs2 tt)(he:PE Y elt te){pins:qO}{σ:St}{D:Addr}{itv:Value}{s:Shared}{Q:Hp->Prop}{R:Result->Shared->Prop}
  (h:PIE Y pins σ tg2 (fun J H1=>Z9 g tt te σ J H1 D Q) itv s) (hR:∀s' H',Inv Y pins σ H' s'->Q H'->R (.ok .next) s') :
  codeAny (model Y.prog Y.w) Y.A (.compStart (.ListComp elt [⟨tg1,it1,ifs1,0⟩,⟨tg2,it2,ifs2,0⟩] scope pos) 1 itv (.ref D) Y.env) R s:=by
 obtain⟨it,fp,tn,J,H2,e,I2,T,st2,f2,W,⟨m0,w0⟩,turn⟩:=h;subst e;have stat:∀{H':Hp},(∀b∈fp,H' b=none)->∀b∈fp,FpOk Y pins H' b:=fun hn b hb=>⟨hn b hb,(f2 b hb).2⟩
 have loop:codeAny (model Y.prog Y.w) Y.A (.compLoop (.ListComp elt [⟨tg1,it1,ifs1,0⟩,⟨tg2,it2,ifs2,0⟩] scope pos) 1 (.ref it) (.ref D) Y.env) R s:=by
  refine zmD (fun n s'=>∃i H',Inv Y pins σ H' s'/\tn i s'.heap/\(∀b∈fp,H' b=none)/\W i n H') ?_ m0 ⟨0,_,I2,st2,fun b hb=>(f2 b hb).1,w0⟩
  rintro n s4 ⟨i,H4,I4,st4,fr4,w4⟩;rcases turn i n H4 w4 with⟨stop,qn⟩|⟨go,N,N',hN,hN',step⟩
  ·refine thn (T.done Y rfl rfl rfl hc i pins s4 _ H4 NoX I4 (stat fr4) st4 stop) fun r s5 ⟨hr,I5⟩=>?_
   subst hr;exact hR _ _ I5 qn
  ·refine thn (T.item Y rfl rfl rfl hc i pins s4 _ H4 NoX I4 (stat fr4) st4 go) fun r s5 ⟨u,hr,h5⟩=>?_
   subst hr;refine thn h5 fun _ s6 ⟨x,H6,I6,r6,y6,st6,fr6⟩=>?_
   have I6':=I6.pinned (stat fr6) (T.obj _ _ st6);have a1:=hg _ s6 _ H6 x u _ I6' r6 (step x H6 y6);rw[hxe]at a1;refine thn a1 fun _ s7 ⟨σ7,H7,I7,wk,q7⟩=>?_
   obtain⟨wl,wv⟩:=wk.weak;have again:∀{s8:Shared} {H8:Hp} {m':Nat},Inv Y (pins++Ut fp s6.heap) σ7 H8 s8->m'<n->W (i+1) m' H8 ->
     ∃m,m<n/\∃i H',Inv Y pins σ H' s8/\tn i s8.heap/\(∀b∈fp,H' b=none)/\W i m H':=fun {s8 H8 m'} I8 hm w8=>by
    refine⟨m',hm,i+1,H8,(I8.unpinned).weak wl wv,T.keep _ _ _ st6 fun b hb o e=>(I8.pin (b,o) (List.mem_append_right _ (List.mem_append_right _ (Q1 hb e)))).1,fun b hb=>?_,w8⟩
    obtain⟨o,e,d⟩:=T.obj _ _ st6 b hb;exact(I8.pin (b,o) (List.mem_append_right _ (List.mem_append_right _ (Q1 hb e)))).2.1
   have a2:=ht _ s7 σ7 H7 _ I7 q7;rw[hxe]at a2;refine thn a2 fun ok s8 ⟨H8,I8,q8⟩=>?_
   cases ok with
   | false =>
    obtain⟨m',hm,w8⟩:=hN' H8 (by simpa using q8)
    exact again I8 hm w8
   | true =>
    have a3:=he _ s8 σ7 H8 N I8 (by simpa using q8)
    rw[hxe]at a3;refine thn a3 fun y s9 ⟨v,H9,I9,r9,q9⟩=>?_
    obtain⟨ys,hD,hl,m',hm,w9⟩:=hN v H9 q9;have a4:=zeF (X:=Y) _ s9 σ7 H9 (.ref D) [v] _ [y] (fun _ H'=>H'=upd H9 D (.lst (ys++[v]))) I9 rfl (.cons r9 .nil) ⟨_,ys,v,rfl,rfl,hD,hl,rfl⟩
    rw[hxe]at a4;refine thn a4 fun _ s10 ⟨_,H10,I10,_,q10⟩=>?_
    subst q10;exact again I10 hm w9
 exact zmH loop (T.self Y.A 0 _ _ _ st2 loop)
end
def zmr(own:List Str)(capt:List Nat)(g:TG)(tt:TT)(wi2:TI)(g2:TG)(tt2:TT)(te:TE)(σ:St)(J:It)(H1:Hp)(D:Addr)(Q:VK):Prop:=∃W:Nat->Nat->Hp->Prop,(∃m,W 0 m (upd H1 D (.lst [])))/\∀i m H2,W i m H2 ->
 (J.stop i H2/\Q (.ref D) H2)\/(J.go i H2/\∃(N N':Hp->Prop),(∀H6,N H6->∃m',m'<m/\W (i+1) m' H6)/\(∀H5,N' H5->∃m',m'<m/\W (i+1) m' H5) /\
  ∀x H3,J.yld i H2 x H3->g x (Jy own++capS capt σ) H3 fun σ4 H4=>Wk (Jy own++capS capt σ) σ4/\tt σ4 H4 fun b H5=>if b=true then wi2 σ4 H5 (fun J2 H6=>Z9 g2 tt2 te σ4 J2 H6 D N) else N' H5)
def zp8(own:List Str)(capt:List Nat)(wi:TI)(g:TG)(tt:TT)(wi2:TI)(g2:TG)(tt2:TT)(te:TE):TE:=fun σ H Q=>wi σ H fun J H1=>∀D,H1 D=none->zmr own capt g tt wi2 g2 tt2 te σ J H1 D Q
section
variable{X:Cx}{scope:Scope}{own:List Str}{capt:List Nat}{elt tg iter tg2 it2:Expr}{ifs ifs2:List Expr}{pos:Pos}{wi wi2:TI}{g g2:TG}{tt tt2:TT}{te:TE}
theorem zmb(hc:X.calm=true)(S:CompScope scope own capt X)
  (hg:∀C s₀ H₀ fp,PG (Jh X scope own capt C s₀ H₀ fp) tg g) (ht:∀C s₀ H₀ fp,PTs (Jh X scope own capt C s₀ H₀ fp) ifs tt) (hi2:∀C s₀ H₀ fp,PI (Jh X scope own capt C s₀ H₀ fp) tg2 it2 wi2)
  (hg2:∀C s₀ H₀ fp,PG (Jh X scope own capt C s₀ H₀ fp) tg2 g2) (ht2:∀C s₀ H₀ fp,PTs (Jh X scope own capt C s₀ H₀ fp) ifs2 tt2) (he:∀C s₀ H₀ fp,PE (Jh X scope own capt C s₀ H₀ fp) elt te)
  (hs2:∀(C:Addr) (x:Value),foldedSetIterable it2 (compEnvC scope (closed X.env scope.names []) C X.env) x=pure x)
  {pins:qO} {σ:St} {Q:VK} {itv:Value} {s2:Shared} {E:qV} {RR:Value->Addr->Result->Shared->Prop}
  (h2:PIE X pins σ tg (fun J H1=>∀D,H1 D=none->zmr own capt g tt wi2 g2 tt2 te σ J H1 D Q) itv s2)
  (hR:∀D C s' H',(∃m,s'.heap.Ns C m)->(∀h'',Heap.SameBut C s'.heap h''->Inv X pins σ H' { s' with heap:=h'' })->H' C=none->FpOk X pins H' C->Q (.ref D) H'->RR (.ref D) C (.ok .next) s') :
  wpAny (model X.prog X.w) X.A (newList []) (fun acc s₃=>wpAny (model X.prog X.w) X.A (newFunctionEnv scope X.env.globals (closed X.env scope.names []) [] X.env.qual none .none (some X.env)) (fun cenv s₄ =>
   codeAny (model X.prog X.w) X.A (.compStart (.ListComp elt [⟨tg,iter,ifs,0⟩,⟨tg2,it2,ifs2,0⟩] scope pos) 0 itv acc { cenv with scope:=relabel scope X.env }) (RR acc cenv.locals) s₄) E s₃) E s2:=by
 obtain⟨it,fp,tn,J,H2,e,I2,T,st2,f2,rd⟩:=h2;subst e;have hfp:∀b∈fp,b<s2.heap.objs.size:=fun b hb=>by
  obtain⟨o,e,_⟩:=T.obj 0 _ st2 b hb;exact Heap.lt_size e
 refine wpAny_newObj_type (wpAny_newFunctionEnv S.nocell (by intro y hy;simp at hy) (fun h₁ hns₁ hsb₁=>?_) S.kind)
 dsimp only at hns₁ hsb₁ ⊢;generalize hH3:s2.heap.push { cls:=.type "list",dict:=none,data:=.seq ([]:List Value).toArray }=H3 at hns₁ hsb₁ ⊢;have hC:H3.objs.size=s2.heap.objs.size+1:=by rw[<- hH3,Heap.size_push]
 have hDC:s2.heap.objs.size≠H3.objs.size:=by rw[hC];exact Nat.ne_of_lt (Nat.lt_succ_self _)
 have hCle:s2.heap.objs.size<=H3.objs.size:=by rw[hC];exact Nat.le_succ _
 have neC:∀b o,s2.heap.get? b=some o->b≠H3.objs.size:=fun b o e=>Nat.ne_of_lt (Nat.lt_of_lt_of_le (Heap.lt_size e) hCle)
 have old:∀b o,s2.heap.get? b=some o->h₁.get? b=some o:=fun b o e=>hsb₁.extBut b o (neC b o e) (Heap.get?_push_of_some _ (hH3▸Heap.get?_push_of_some _ e))
 have hacc:h₁.get? s2.heap.objs.size=some { cls:=.type "list",data:=.seq ([]:List Value).toArray 0 }:=hsb₁.extBut _ _ hDC (Heap.get?_push_of_some _ (hH3▸Heap.get?_push_size _ rfl));have hnD:H2 s2.heap.objs.size=none:=I2.hok.fresh (Nat.le_refl _);obtain⟨W,⟨m0,w0⟩,turn⟩:=rd _ hnD;have hLC:H3.objs.size≠X.env.locals:=fun z=>by
  have h:=I2.lt;rw[<- z]at h;exact absurd h (Nat.not_lt.mpr hCle)
 have J0:∀tk,Inv (Jh X scope own capt H3.objs.size s2 H2 fp) [] (Jy own++capS capt σ) (upd H2 s2.heap.objs.size (.lst [])) { s2 with heap:=h₁,toks:=tk }:=fun tk =>
  zjE (tk:=tk) S I2 f2 hfp (Nat.le_refl _) hCle hDC old hns₁ hacc
 have fr0:∀b∈fp,upd H2 s2.heap.objs.size (.lst []) b=none:=fun b hb=>by
  rw[Jv (Nat.ne_of_lt (hfp b hb))];exact(f2 b hb).1
 have stat:∀{H':Hp},(∀b∈fp,H' b=none)->∀b∈fp,FpOk (Jh X scope own capt H3.objs.size s2 H2 fp) [] H' b:=fun hn b hb=>by
  obtain⟨g0,g1,g2,g3,g4,g5⟩:=f2 b hb;have sub:=Y7 scope.names [] (S.cells I2.ok) (fun x c h=>nomatch (show(none:Option Addr)=some c from h))
  refine⟨hn b hb,Nat.ne_of_lt (Nat.lt_of_lt_of_le (hfp b hb) hCle),fun z=>?_,.inl hb,fun x c e=>g4 x c (sub x c e),fun p hp=>absurd (show p∈([]:qO) from hp) (by simp)⟩
  rcases List.mem_cons.mp (I2.stkSub b z) with q|q
  ·exact g1 q
  ·exact g2 q
 have loop:∀s₃:Shared,(∃tk,s₃={ s2 with heap:=h₁,toks:=tk }) ->
   codeAny (model X.prog X.w) X.A (.compLoop (.ListComp elt [⟨tg,iter,ifs,0⟩,⟨tg2,it2,ifs2,0⟩] scope pos) 0 (.ref it) (.ref s2.heap.objs.size) (compEnvC scope (closed X.env scope.names []) H3.objs.size X.env)) (RR (.ref s2.heap.objs.size) H3.objs.size) s₃:=by
  rintro s₃ ⟨tk,rfl⟩;refine zkz (hs2 _) (fun n s'=>∃i H',Inv (Jh X scope own capt H3.objs.size s2 H2 fp) [] (Jy own++capS capt σ) H' s'/\tn i s'.heap/\(∀b∈fp,H' b=none)/\W i n H') ?_ m0
   ⟨0,_,J0 tk,T.keep _ _ _ st2 fun b hb o e=>old b o e,fr0,w0⟩
  rintro n s4 ⟨i,H4,I4,st4,fr4,w4⟩;rcases turn i n H4 w4 with⟨stop,qn⟩|⟨go,N,N',hN,hN',step⟩
  ·refine thn (T.done (Jh X scope own capt H3.objs.size s2 H2 fp) rfl rfl rfl hc i [] s4 _ H4 NoX I4 (stat fr4) st4 stop) fun r s5 ⟨hr,I5⟩=>?_
   subst hr;obtain⟨m,hn,_⟩:=I5.loc;exact hR _ _ s5 H4 ⟨m,hn⟩ (fun h'' sb=>zgH I2 f2 hCle I5 sb) I5.free (I2.fpOk hCle I5.free) qn
  ·refine thn (T.item (Jh X scope own capt H3.objs.size s2 H2 fp) rfl rfl rfl hc i [] s4 _ H4 NoX I4 (stat fr4) st4 go) fun r s5 ⟨u,hr,h5⟩=>?_
   subst hr;refine thn h5 fun _ s6 ⟨x,H6,I6,r6,y6,st6,fr6⟩=>?_
   have I6':=I6.pinned (stat fr6) (T.obj _ _ st6);refine thn (hg _ _ _ _ _ s6 _ H6 x u _ I6' r6 (step x H6 y6)) fun _ s7 ⟨σ7,H7,I7,wk,q7⟩=>?_
   obtain⟨wl,wv⟩:=wk.weak;have again:∀{s8:Shared} {H8:Hp} {m':Nat},Inv (Jh X scope own capt H3.objs.size s2 H2 fp) ([]++Ut fp s6.heap) σ7 H8 s8->m'<n->W (i+1) m' H8 ->
     ∃m,m<n/\∃i H',Inv (Jh X scope own capt H3.objs.size s2 H2 fp) [] (Jy own++capS capt σ) H' s8/\tn i s8.heap/\(∀b∈fp,H' b=none)/\W i m H':=fun {s8 H8 m'} I8 hm w8=>by
    refine⟨m',hm,i+1,H8,(I8.unpinned).weak wl wv,T.keep _ _ _ st6 fun b hb o e=>(I8.pin (b,o) (List.mem_append_right _ (List.mem_append_right _ (Q1 hb e)))).1,fun b hb=>?_,w8⟩
    obtain⟨o,e,d⟩:=T.obj _ _ st6 b hb;exact(I8.pin (b,o) (List.mem_append_right _ (List.mem_append_right _ (Q1 hb e)))).2.1
   refine thn (ht _ _ _ _ _ s7 σ7 H7 _ I7 q7) fun ok s8 ⟨H8,I8,q8⟩=>?_
   cases ok with
   | false =>
    obtain⟨m',hm,w8⟩:=hN' H8 (by simpa using q8)
    exact again I8 hm w8
   | true =>
    refine thn (hi2 _ _ _ _ _ s8 σ7 H8 _ I8 (by simpa using q8)) fun y s9 h9=>thn h9 fun itv2 s10 h10=>?_
    refine zlM (Y:=Jh X scope own capt H3.objs.size s2 H2 fp) rfl hc (hg2 _ _ _ _) (ht2 _ _ _ _) (he _ _ _ _) h10 fun s' H' I' q'=>⟨rfl,?_⟩
    obtain⟨m',hm,w9⟩:=hN H' q';exact again I' hm w9
 exact codeAny_compStart_list (loop _ ⟨_,rfl⟩) (T.self X.A 0 _ _ _ (T.keep _ _ _ st2 fun b hb o e=>old b o e) (loop _ ⟨_,rfl⟩))
theorem zla(hc:X.calm=true)(S:CompScope scope own capt X)(hi:PI X tg iter wi)
  (hg:∀C s₀ H₀ fp,PG (Jh X scope own capt C s₀ H₀ fp) tg g) (ht:∀C s₀ H₀ fp,PTs (Jh X scope own capt C s₀ H₀ fp) ifs tt) (hi2:∀C s₀ H₀ fp,PI (Jh X scope own capt C s₀ H₀ fp) tg2 it2 wi2)
  (hg2:∀C s₀ H₀ fp,PG (Jh X scope own capt C s₀ H₀ fp) tg2 g2) (ht2:∀C s₀ H₀ fp,PTs (Jh X scope own capt C s₀ H₀ fp) ifs2 tt2) (he:∀C s₀ H₀ fp,PE (Jh X scope own capt C s₀ H₀ fp) elt te)
  (hs:∀x,foldedSetIterable iter X.env x=pure x:=by intro _;rfl) (hs2:∀(C:Addr) (x:Value),foldedSetIterable it2 (compEnvC scope (closed X.env scope.names []) C X.env) x=pure x:=by intro _ _;rfl) :
  PE X (.ListComp elt [⟨tg,iter,ifs,0⟩,⟨tg2,it2,ifs2,0⟩] scope pos) (zp8 own capt wi g tt wi2 g2 tt2 te):=by
 intro pins s σ H Q I h;rw[eval_ListComp];refine wpAny_comprehension_free (use:=none) rfl hs (zbm (S.cells I.ok)) S.kind S.names (thn (hi pins s σ H _ I h) fun v s1 h1=>thn h1 fun itv s2 h2=>?_)
 refine zmb (RR:=fun acc C=>compPost (model X.prog X.w) X.A X.xe none (EP X pins σ Q) acc C) hc S hg ht hi2 hg2 ht2 he hs2 h2 fun D C s' H' hn J _ _ q=>?_
 obtain⟨m,hn⟩:=hn;exact⟨m,hn,fun h'' sb=>⟨.ref D,H',J h'' sb,rfl,q⟩⟩
end
theorem zka{J:It}{n:Nat}{g:TG}{tt:TT}{te:TE}{σ:St}{H1:Hp}{D:Addr}{Q:Hp->Prop}(Pv:Nat->List V->Hp->Prop)(h0:∃ys,H1 D=some (.lst ys)/\Pv 0 ys H1)
  (turn:∀i ys H2,i<n->H2 D=some (.lst ys)->Pv i ys H2->J.go i H2/\∀x H3,J.yld i H2 x H3->g x σ H3 fun σ4 H4=>Wk σ σ4/\tt σ4 H4 fun b H5 =>
   if b=true then te σ4 H5 (fun v H6=>∃zs,H6 D=some (.lst zs)/\zs.length<sizeLine/\Pv (i+1) (zs++[v]) (upd H6 D (.lst (zs++[v])))) else ∃zs,H5 D=some (.lst zs)/\Pv (i+1) zs H5)
  (stop:∀ys H2,H2 D=some (.lst ys)->Pv n ys H2->J.stop n H2/\Q H2):Z9 g tt te σ J H1 D Q:=by
 refine⟨fun i m H=>m=n - i/\i<=n/\∃ys,H D=some (.lst ys)/\Pv i ys H,⟨n,rfl,Nat.zero_le _,h0⟩,?_⟩
 rintro i m H2 ⟨rfl,hi,ys,hD,p⟩
 by_cases hlt:i<n
 ·obtain⟨go,st⟩:=turn i ys H2 hlt hD p;refine .inr ⟨go,_,_,?_,?_,st⟩
  ·rintro v H6 ⟨zs,e,l,q⟩;exact⟨zs,e,l,n - (i+1),by omega,rfl,hlt,_,JQ,q⟩
  ·rintro H5 ⟨zs,e,q⟩;exact⟨n - (i+1),by omega,rfl,hlt,zs,e,q⟩
 ·have e:i=n:=by omega
  subst e;exact .inl (stop ys H2 hD p)
theorem zkg{J:It}{n:Nat}{own:List Str}{capt:List Nat}{g g2:TG}{tt tt2:TT}{wi2:TI}{te:TE}{σ:St}{H1:Hp}{D:Addr}{Q:VK}(Pv:Nat->List V->Hp->Prop)(h0:Pv 0 [] (upd H1 D (.lst [])))
  (turn:∀i ys H2,i<n->H2 D=some (.lst ys)->Pv i ys H2->J.go i H2/\∀x H3,J.yld i H2 x H3->g x (Jy own++capS capt σ) H3 fun σ4 H4=>Wk (Jy own++capS capt σ) σ4/\tt σ4 H4 fun b H5 =>
   if b=true then wi2 σ4 H5 (fun J2 H6=>Z9 g2 tt2 te σ4 J2 H6 D fun H7=>∃zs,H7 D=some (.lst zs)/\Pv (i+1) zs H7) else ∃zs,H5 D=some (.lst zs)/\Pv (i+1) zs H5)
  (stop:∀ys H2,H2 D=some (.lst ys)->Pv n ys H2->J.stop n H2/\Q (.ref D) H2) :
  zmr own capt g tt wi2 g2 tt2 te σ J H1 D Q:=by
 refine⟨fun i m H=>m=n - i/\i<=n/\∃ys,H D=some (.lst ys)/\Pv i ys H,⟨n,rfl,Nat.zero_le _,[],JQ,h0⟩,?_⟩
 rintro i m H2 ⟨rfl,hi,ys,hD,p⟩
 by_cases hlt:i<n
 ·obtain⟨go,st⟩:=turn i ys H2 hlt hD p;refine .inr ⟨go,_,_,?_,?_,st⟩
  ·rintro H6 ⟨zs,e,q⟩;exact⟨n - (i+1),by omega,rfl,hlt,zs,e,q⟩
  ·rintro H5 ⟨zs,e,q⟩;exact⟨n - (i+1),by omega,rfl,hlt,zs,e,q⟩
 ·have e:i=n:=by omega
  subst e;exact .inl (stop ys H2 hD p)
theorem DI.uni{ι:Type}{Xf:ι->Cx}{K:qF}(hK:∀i,(Xf i).K=K){tg e:Expr}{d:DTA}(h:∀i,DI (Xf i) tg e d):∃wi:TI,(∀i,PI (Xf i) tg e wi)/\∀(C:Ctx) (ρ:En) (σ:St) (H:Hp) (n:Nat) (Q:It->Hp->Prop) (R:List PyData->Nat->Prop),Stt K C ρ σ H n->d ρ n R ->
  (∀ts n' J H',R ts n'->ExtE C.hd H H'->Hn C.hd H' n'->ItOk K C.hd (fun a=>¬Own C ρ σ a) (Own C ρ σ) H' J ts->Q J H')->wi σ H Q:=by
 refine⟨fun σ H Q=>∀i,(Classical.choose (h i)) σ H Q,fun i pins s σ H R I hw=>(Classical.choose_spec (h i)).1 pins s σ H R I (hw i),fun C ρ σ H n Q R S hd hq i=>?_⟩
 have:=(Classical.choose_spec (h i)).2 C ρ σ H n Q R;exact this (by rw[hK i];exact S) hd fun t n' J H' r e h q=>hq t n' J H' r e h (by rw[<- hK i];exact q)
theorem Stt.onX{K:qF}{C:Ctx}{ρ:En}{σ:St}{H H':Hp}{n n':Nat}(S:Stt K C ρ σ H n)(k:∀a o,H a=some o->¬C.ext a->H' a=some o)(hl:∀a,C.ext a->MutO (H' a))(kr:∀a ks,H a=some (.dK ks)->C.ext a->C.hd≠some a->H' a=some (.dK ks))(hn:Hn C.hd H' n'):Stt K C ρ σ H' n' where
 len:=S.len
 val:=fun i d hi=>by
  obtain⟨v,h1,h2⟩:=S.val i d hi;exact⟨v,h1,h2.mono (fun _ _ _ z=>z) fun a o no h=>k a o h fun z=>no (.inl z)⟩
 own:=fun i ds hi=>by
  obtain⟨a,vs,h1,h2,h3,h4⟩:=S.own i ds hi;exact⟨a,vs,h1,k a _ h2 h4,h3.mono (fun _ _ _ z=>z) (fun a o no h=>k a o h fun z=>no (.inl z)),h4⟩
 dct:=fun i ds hi=>by
  obtain⟨a,vs,h1,h2,h3,h4⟩:=S.dct i ds hi;exact⟨a,vs,h1,k a _ h2 h4,h3.mono (fun _ _ _ z=>z) (fun a o no h=>k a o h fun z=>no (.inl z)),h4⟩
 rdo:=fun i ds hi=>by
  obtain⟨a,vs,h1,h2,h3,h4,h5⟩:=S.rdo i ds hi;exact⟨a,vs,h1,kr a _ h2 h4 h5,h3.mono (fun _ _ _ z=>z) (fun a o no h=>k a o h fun z=>no (.inl z)),h4,h5⟩
 dtt:=fun i ds hi=>by
  obtain⟨a,vs,ep,h1,h2,h3,h4⟩:=S.dtt i ds hi;exact⟨a,vs,ep,h1,k a _ h2 h4,h3.mono (fun _ _ _ z=>z) (fun a o no h=>k a o h fun z=>no (.inl z)),h4⟩
 dif:=S.dif
 hnd:=hn
 ext:=hl
 hx:=S.hx
def Uw(g:DTG)(tt:DTT)(di2:DTA)(g2:DTG)(tt2:DTT)(te:DTE)(ρ0:En):List PyData->List PyData->Nat->(List PyData->Nat->Prop)->Prop
 | [],acc,n,R=>R acc n
 | x::xs,acc,n,R=>g x ρ0 fun ρ1=>tt ρ1 n fun b n2=>if b=true then di2 ρ1 n2 fun ts n3=>JM g2 tt2 te ρ1 ts acc n3 fun acc' n4=>Uw g tt di2 g2 tt2 te ρ0 xs acc' n4 R else Uw g tt di2 g2 tt2 te ρ0 xs acc n2 R
def zl9(m:Nat)(capt:List Nat)(di:DTA)(g:DTG)(tt:DTT)(di2:DTA)(g2:DTG)(tt2:DTT)(te:DTE):DTA:=fun ρ n R=>di ρ n fun ts n1=>Uw g tt di2 g2 tt2 te (JA m capt ρ) ts [] n1 R
section
variable{X:Cx}{scope:Scope}{own:List Str}{capt:List Nat}{elt tg iter tg2 it2:Expr}{ifs ifs2:List Expr}{pos:Pos}{di di2:DTA}{is is2:List Nat}{g g2:DTG}{tt tt2:DTT}{te:DTE}
theorem znz(hc:X.calm=true)(S:CompScope scope own capt X)(hi:DIL X tg iter di)
  (hg:∀C s₀ H₀ fp,DG (Jh X scope own capt C s₀ H₀ fp) tg is g) (hin:∀i∈is,i<own.length) (ht:∀C s₀ H₀ fp,DTs (Jh X scope own capt C s₀ H₀ fp) ifs tt)
  (hi2:∀C s₀ H₀ fp,DI (Jh X scope own capt C s₀ H₀ fp) tg2 it2 di2) (hg2:∀C s₀ H₀ fp,DG (Jh X scope own capt C s₀ H₀ fp) tg2 is2 g2) (hin2:∀i∈is2,i<own.length/\i∉is) (ht2:∀C s₀ H₀ fp,DTs (Jh X scope own capt C s₀ H₀ fp) ifs2 tt2)
  (he:∀C s₀ H₀ fp,DE (Jh X scope own capt C s₀ H₀ fp) elt te)
  (hs:∀x,foldedSetIterable iter X.env x=pure x:=by intro _;rfl) (hs2:∀(C:Addr) (x:Value),foldedSetIterable it2 (compEnvC scope (closed X.env scope.names []) C X.env) x=pure x:=by intro _ _;rfl) :
  DN X (.ListComp elt [⟨tg,iter,ifs,0⟩,⟨tg2,it2,ifs2,0⟩] scope pos) (zl9 own.length capt di g tt di2 g2 tt2 te):=by
 obtain⟨wi,pi,hi⟩:=hi
 let Xf:(Addr×Shared×Hp×List Addr)->Cx:=fun q=>Jh X scope own capt q.1 q.2.1 q.2.2.1 q.2.2.2
 have hK:∀q,(Xf q).K=X.K:=fun _=>rfl
 have hne:Nonempty (Addr×Shared×Hp×List Addr):=⟨(0,X.s₀,X.H₀,[])⟩;obtain⟨gg,pg,hgg⟩:=DG.uni (Xf:=Xf) hK fun q=>hg q.1 q.2.1 q.2.2.1 q.2.2.2
 obtain⟨gt,pt,hgt⟩:=DTs.uni (Xf:=Xf) hK fun q=>ht q.1 q.2.1 q.2.2.1 q.2.2.2
 obtain⟨wi2,pi2,hwi2⟩:=DI.uni (Xf:=Xf) hK fun q=>hi2 q.1 q.2.1 q.2.2.1 q.2.2.2
 obtain⟨gg2,pg2,hgg2⟩:=DG.uni (Xf:=Xf) hK fun q=>hg2 q.1 q.2.1 q.2.2.1 q.2.2.2
 obtain⟨gt2,pt2,hgt2⟩:=DTs.uni (Xf:=Xf) hK fun q=>ht2 q.1 q.2.1 q.2.2.1 q.2.2.2
 obtain⟨ge,pe,hge⟩:=DE.uni (Xf:=Xf) hK fun q=>he q.1 q.2.1 q.2.2.1 q.2.2.2
 refine⟨_,zla hc S pi (fun C s₀ H₀ fp=>pg (C,s₀,H₀,fp)) (fun C s₀ H₀ fp=>pt (C,s₀,H₀,fp)) (fun C s₀ H₀ fp=>pi2 (C,s₀,H₀,fp)) (fun C s₀ H₀ fp=>pg2 (C,s₀,H₀,fp)) (fun C s₀ H₀ fp=>pt2 (C,s₀,H₀,fp)) (fun C s₀ H₀ fp=>pe (C,s₀,H₀,fp)) hs hs2,fun C ρ σ H n Q R St hd hq=>?_⟩
 refine hi C ρ σ H n _ _ St hd fun ts n1 J H1 r e1 hn it=>fun D hD1=>?_
 have St1:=St.on e1 hn;have hD:H D=none:=ziO e1 hn hD1;have nhd:C.hd≠some D:=fun z=>St.dom (.inl (St.hx D z)) hD
 refine zkg (n:=ts.length) (fun i ys H2=>∃acc n2,Uw g tt di2 g2 tt2 te (JA own.length capt ρ) (ts.drop i) acc n2 R/\Reps X.K C.hd (fun a=>Own C ρ σ a\/a=D) H2 ys acc/\ExtE C.hd H1 H2/\Hn C.hd H2 n2)
  ⟨[],n1,by simpa using r,.nil,ExtE.new hD1,hn.same (Qb hD1)⟩ ?_ ?_
 ·rintro i ys H2 hlt hy ⟨acc,n2,c2,r2,e2,hn2⟩;have et:ts[i]?=some ts[i]:=List.getElem?_eq_getElem hlt;rw[List.drop_eq_getElem_cons hlt]at c2;have itq:=it (fun a=>Own C ρ σ a\/a=D) H2 (fun a o ha nh=>e2 a o ha nh) (fun a o ha no z=>z.elim no fun z=>by subst z;rw[hD1]at ha;cases ha) (fun a z=>z.elim (fun z=>(St1.on e2 hn2).dom z) fun z=>by subst z;rw[hy];exact fun z=>by cases z)
  obtain⟨go,yl⟩:=itq.1 i _ et;refine⟨go,fun x H3 hyd=>?_⟩
  obtain⟨sm,rx⟩:=yl x H3 hyd;have hn3:=hn2.same sm;have e3:ExtE C.hd H1 H3:=e2.trans sm.ext;obtain⟨I3,no3⟩:=zjC (own:=own) (capt:=capt) (D:=D) (ys:=ys) St (e1.trans e3) hn3 hD (sm _ _ hy);have rx':Rep X.K C.hd (Own ⟨C.hd,fun a=>Own C ρ σ a\/a=D⟩ (JA own.length capt ρ) (Jy own++capS capt σ)) H3 x ts[i]:=rx.mono (fun a o _ z=>z.elim id fun z=>absurd z (no3 a)) fun _ _ _ z=>z
  refine hgg ⟨C.hd,fun a=>Own C ρ σ a\/a=D⟩ (JA own.length capt ρ) (Jy own++capS capt σ) H3 n2 x ts[i] _ _ I3 rx' c2 fun ρ4 σ4 r4 S4 k4 hj hl=>⟨Wk.of hl.symm fun j v ej=>?_,?_⟩
  ·by_cases hjo:j<own.length
   ·rw[List.getElem?_append_left (by simpa using hjo),List.getElem?_map]at ej
    cases z:own[j]? with
    | none=>rw[z]at ej;cases ej
    | some q=>rw[z]at ej;cases ej
   ·rw[hj j (fun z=>hjo (hin j z))];exact ej
  ·refine hgt _ ρ4 σ4 H3 n2 _ _ S4 r4 fun b n5 H5 r5 e5 hn5=>?_
   have S5:=S4.on e5 hn5;have hy5:H5 D=some (.lst ys):=e5 D _ (sm _ _ hy) nhd;have r25:∀{H6},ExtE C.hd H2 H6->Reps X.K C.hd (fun a=>Own C ρ σ a\/a=D) H6 ys acc:=fun e=>r2.mono (fun _ _ _ z=>z) fun a o no ha=>e a o ha fun z=>no (.inl (.inl (St.hx a z)))
   cases b with
   | false =>
    refine iteF ⟨ys,hy5,acc,n5,by simpa using r5,r25 ((Same.ext sm).trans e5),e3.trans e5,hn5⟩
   | true =>
    refine iteT (hwi2 ⟨C.hd,fun a=>Own C ρ σ a\/a=D⟩ ρ4 σ4 H5 n5 _ _ S5 (by simpa using r5) fun us n6 J2 H6 r6 e6 hn6 it6=>?_)
    have S6:=S5.on e6 hn6;have hy6:H6 D=some (.lst ys):=e6 D _ hy5 nhd;refine zka (n:=us.length) (fun k zs H7=>∃acc' n7,JM g2 tt2 te ρ4 (us.drop k) acc' n7 (fun acc' n4=>Uw g tt di2 g2 tt2 te (JA own.length capt ρ) (ts.drop (i+1)) acc' n4 R)/\Reps X.K C.hd (fun a=>Own C ρ σ a\/a=D) H7 zs acc'/\ExtE C.hd H1 H7/\Hn C.hd H7 n7/\∀a o,H6 a=some o->¬(Own C ρ σ a\/a=D)->H7 a=some o)
     ⟨ys,hy6,acc,n6,by simpa using r6,r25 ((Same.ext sm).trans (e5.trans e6)),e3.trans (e5.trans e6),hn6,fun _ _ h _=>h⟩ ?_ ?_
    ·rintro k zs H7 hk hz ⟨acc',n7,c7,r7,e7,hn7,k7⟩;have et2:us[k]?=some us[k]:=List.getElem?_eq_getElem hk;rw[List.drop_eq_getElem_cons hk]at c7;have S7:Stt X.K ⟨C.hd,fun a=>Own C ρ σ a\/a=D⟩ ρ4 σ4 H7 n7:=S6.onX k7 (fun a z=>z.elim (fun z=>(St1.on e7 hn7).lst z) fun z=>by subst z;exact .inl ⟨_,hz⟩) (fun a ks ha z nh=>z.elim (fun z=>by
      have e16:ExtE C.hd H1 H6:=e3.trans (e5.trans e6);rcases St1.lst z with⟨xs,q⟩|⟨xs,q⟩|⟨b,xs,ep,q⟩
      ·rw[e16 a _ q nh]at ha;cases ha
      ·rw[e16 a _ q nh]at ha;cases ha;exact e7 a _ q nh
      ·rw[e16 a _ q nh]at ha;cases ha) (fun z=>by subst z;rw[hy6]at ha;cases ha)) hn7
     have itq2:=it6 (Own ⟨C.hd,fun a=>Own C ρ σ a\/a=D⟩ ρ4 σ4) H7 (fun a o ha no=>k7 a o ha fun z=>no (.inl z)) (fun a o ha no=>no) (fun a z=>S7.dom z)
     obtain⟨go2,yl2⟩:=itq2.1 k _ et2;refine⟨go2,fun y H8 hyd2=>?_⟩
     obtain⟨sm8,ry⟩:=yl2 y H8 hyd2;have hn8:=hn7.same sm8;have S8:=S7.on (Same.ext sm8) hn8;refine hgg2 _ ρ4 σ4 H8 n7 y us[k] _ _ S8 ry c7 fun ρ9 σ9 r9 S9 k9 hj9 hl9=>⟨Wk.of hl9.symm fun j v ej=>?_,?_⟩
     ·by_cases hjo:j∈is2
      ·exfalso;obtain⟨lo,nis⟩:=hin2 j hjo;rw[hj j nis,List.getElem?_append_left (by simpa using lo),List.getElem?_map]at ej
       cases z:own[j]? with
       | none=>rw[z]at ej;cases ej
       | some q=>rw[z]at ej;cases ej
      ·rw[hj9 j hjo];exact ej
     ·refine hgt2 _ ρ9 σ9 H8 n7 _ _ S9 r9 fun b n10 H10 r10 e10 hn10=>?_
      have S10:=S9.on e10 hn10;have hz10:H10 D=some (.lst zs):=e10 D _ (sm8 _ _ hz) nhd;have r710:∀{H'},ExtE C.hd H7 H'->Reps X.K C.hd (fun a=>Own C ρ σ a\/a=D) H' zs acc':=fun e=>r7.mono (fun _ _ _ z=>z) fun a o no ha=>e a o ha fun z=>no (.inl (.inl (St.hx a z)))
      have kk:∀{H'},ExtE C.hd H7 H'->∀a o,H6 a=some o->¬(Own C ρ σ a\/a=D)->H' a=some o:=fun e a o ha no=>e a o (k7 a o ha no) fun z=>no (.inl (.inl (St.hx a z)))
      cases b with
      | false=>exact iteF ⟨zs,hz10,acc',n10,by simpa using r10,r710 ((Same.ext sm8).trans e10),e7.trans ((Same.ext sm8).trans e10),hn10,kk ((Same.ext sm8).trans e10)⟩
      | true =>
       refine iteT (hge _ ρ9 σ9 H10 n10 _ _ S10 (by simpa using r10) fun t n11 v H11 r11 e11 hn11 q11=>?_)
       have hz11:H11 D=some (.lst zs):=e11 D _ hz10 nhd;have e711:ExtE C.hd H7 H11:=(Same.ext sm8).trans (e10.trans e11);have rl:=(r710 e711).length;refine⟨zs,hz11,by rw[rl];exact r11.1,acc'++[t],n11,r11.2,?_,?_,?_,?_⟩
       ·have q11':Rep X.K C.hd (fun a=>Own C ρ σ a\/a=D) H11 v t:=q11.mono (fun _ _ _ z=>.inl z) fun _ _ _ z=>z
        have all:=(r710 e711).append (Reps.cons q11' .nil);exact all.mono (fun _ _ _ z=>z) fun a o no ha=>by rw[Jv (show a≠D from fun z=>no (.inr z))];exact ha
       ·exact fun a o ha nh=>by
         rw[Jv (Qu ha hD1)];exact(e7.trans e711) a o ha nh
       ·exact fun a ha=>by
         obtain⟨d,m,t,q,rest⟩:=hn11 a ha;exact⟨d,m,t,by rw[Jv (show a≠D from fun z=>nhd (by rw[<- z];exact ha))];exact q,rest⟩
       ·exact fun a o ha no=>by
         rw[Jv (show a≠D from fun z=>no (.inr z))]
         exact kk e711 a o ha no
    ·rintro zs H7 hz ⟨acc',n7,c7,r7,e7,hn7,k7⟩;rw[List.drop_length]at c7;have S7:Stt X.K ⟨C.hd,fun a=>Own C ρ σ a\/a=D⟩ ρ4 σ4 H7 n7:=S6.onX k7 (fun a z=>z.elim (fun z=>(St1.on e7 hn7).lst z) fun z=>by subst z;exact .inl ⟨_,hz⟩) (fun a ks ha z nh=>z.elim (fun z=>by
      have e16:ExtE C.hd H1 H6:=e3.trans (e5.trans e6);rcases St1.lst z with⟨xs,q⟩|⟨xs,q⟩|⟨b,xs,ep,q⟩
      ·rw[e16 a _ q nh]at ha;cases ha
      ·rw[e16 a _ q nh]at ha;cases ha;exact e7 a _ q nh
      ·rw[e16 a _ q nh]at ha;cases ha) (fun z=>by subst z;rw[hy6]at ha;cases ha)) hn7
     have itq2:=it6 (Own ⟨C.hd,fun a=>Own C ρ σ a\/a=D⟩ ρ4 σ4) H7 (fun a o ha no=>k7 a o ha fun z=>no (.inl z)) (fun a o ha no=>no) (fun a z=>S7.dom z)
     exact⟨itq2.2,zs,hz,acc',n7,c7,r7,e7,hn7⟩
 ·rintro ys H2 hy ⟨acc,n2,c2,r2,e2,hn2⟩;rw[List.drop_length]at c2;have itq:=it (fun a=>Own C ρ σ a\/a=D) H2 (fun a o ha nh=>e2 a o ha nh) (fun a o ha no z=>z.elim no fun z=>by subst z;rw[hD1]at ha;cases ha) (fun a z=>z.elim (fun z=>(St1.on e2 hn2).dom z) fun z=>by subst z;rw[hy];exact fun z=>by cases z)
  exact⟨itq.2,hq acc n2 D ys H2 c2 (e1.trans e2) hn2 hD hy r2⟩
end
section
variable{ρ ρ0:En}{n m:Nat}{di di2:DTA}{g g2:DTG}{tt tt2:DTT}{te:DTE}{capt:List Nat}{Rl:List PyData->Nat->Prop}
instance ztB [h:CompN m capt ρ ρ0]:Stp (zl9 m capt di g tt di2 g2 tt2 te ρ n Rl) (di ρ n fun ts n1=>Uw g tt di2 g2 tt2 te ρ0 ts [] n1 Rl):=⟨fun k=>by unfold zl9;rw[h.e];exact k⟩
end
abbrev Run:=Int×Int
def NR(rs:List Run):Prop:=(∀r∈rs,r.1<r.2)/\rs.Pairwise fun a b=>a.2<b.1
def mR(x:Int)(rs:List Run):Prop:=∃r∈rs,r.1<=x/\x<r.2
def mB(x:Int)(bs:qB):Prop:=∃b∈bs,b.1<=x/\x<eB b
theorem J5{x:Int}{r:Run}{rs:List Run}:mR x (r::rs)↔(r.1<=x/\x<r.2)\/mR x rs:=by
 unfold mR;constructor
 ·rintro⟨s,hs,h⟩;rcases List.mem_cons.mp hs with rfl|hs
  ·exact .inl h
  ·exact .inr ⟨s,hs,h⟩
 ·rintro(h|⟨s,hs,h⟩)
  ·exact⟨r,by simp,h⟩
  ·exact⟨s,by simp[hs],h⟩
theorem YS{x:Int}:¬mR x []:=fun⟨_,h,_⟩=>nomatch h
theorem zlu{x:Int}{rs ss:List Run}:mR x (rs++ss)↔mR x rs\/mR x ss:=by
 unfold mR;constructor
 ·rintro⟨s,hs,h⟩;rcases List.mem_append.mp hs with hs|hs
  ·exact .inl ⟨s,hs,h⟩
  ·exact .inr ⟨s,hs,h⟩
 ·rintro(⟨s,hs,h⟩|⟨s,hs,h⟩)
  ·exact⟨s,by simp[hs],h⟩
  ·exact⟨s,by simp[hs],h⟩
theorem zlv{x:Int}{b:Int×Int}{bs:qB}:mB x (b::bs)↔(b.1<=x/\x<eB b)\/mB x bs:=by
 unfold mB;constructor
 ·rintro⟨s,hs,h⟩;rcases List.mem_cons.mp hs with rfl|hs
  ·exact .inl h
  ·exact .inr ⟨s,hs,h⟩
 ·rintro(h|⟨s,hs,h⟩)
  ·exact⟨b,by simp,h⟩
  ·exact⟨s,by simp[hs],h⟩
theorem Z5{x:Int}:¬mB x []:=fun⟨_,h,_⟩=>nomatch h
theorem zn4{x:Int}{bs cs:qB}:mB x (bs++cs)↔mB x bs\/mB x cs:=by
 unfold mB;constructor
 ·rintro⟨s,hs,h⟩;rcases List.mem_append.mp hs with hs|hs
  ·exact .inl ⟨s,hs,h⟩
  ·exact .inr ⟨s,hs,h⟩
 ·rintro(⟨s,hs,h⟩|⟨s,hs,h⟩)
  ·exact⟨s,by simp[hs],h⟩
  ·exact⟨s,by simp[hs],h⟩
theorem zo8{x:Int}{bs cs:qB}(h:bs.Perm cs):mB x bs↔mB x cs:=by
 unfold mB;constructor
 ·rintro⟨s,hs,q⟩;exact⟨s,h.mem_iff.mp hs,q⟩
 ·rintro⟨s,hs,q⟩;exact⟨s,h.mem_iff.mpr hs,q⟩
theorem NR.tail{r:Run}{rs:List Run}(h:NR (r::rs)):NR rs:=⟨fun s hs=>h.1 s (by simp[hs]),(List.pairwise_cons.mp h.2).2⟩
theorem NR.ahead{r:Run}{rs:List Run}(h:NR (r::rs)){x:Int}(hx:mR x rs):r.2<x:=by
 obtain⟨s,hs,h1,h2⟩:=hx;have:=(List.pairwise_cons.mp h.2).1 s hs;lia
theorem NR.uniq:∀{rs ss:List Run},NR rs->NR ss->(∀x,mR x rs↔mR x ss)->rs=ss
 | [],[],_,_,_=>rfl
 | [],s::ss,_,h,e=>by
  exfalso;have:=h.1 s (by simp)
  exact YS ((e s.1).mpr (J5.mpr (.inl ⟨Int.le_refl _,this⟩)))
 | r::rs,[],h,_,e=>by
  exfalso;have:=h.1 r (by simp)
  exact YS ((e r.1).mp (J5.mpr (.inl ⟨Int.le_refl _,this⟩)))
 | r::rs,s::ss,hr,hs,e=>by
  have r1:=hr.1 r (by simp)
  have s1:=hs.1 s (by simp)
  have a:∀x,mR x (r::rs)->r.1<=x:=fun x hx=>by
   rcases J5.mp hx with z|z
   ·exact z.1
   ·have:=hr.ahead z;lia
  have b:∀x,mR x (s::ss)->s.1<=x:=fun x hx=>by
   rcases J5.mp hx with z|z
   ·exact z.1
   ·have:=hs.ahead z;lia
  have e1:r.1=s.1:=by
   have:=b r.1 ((e r.1).mp (J5.mpr (.inl ⟨Int.le_refl _,r1⟩)));have:=a s.1 ((e s.1).mpr (J5.mpr (.inl ⟨Int.le_refl _,s1⟩)));lia
  have nr:¬mR r.2 (r::rs):=fun z=>by
   rcases J5.mp z with y|y
   ·lia
   ·have:=hr.ahead y;lia
  have ns:¬mR s.2 (s::ss):=fun z=>by
   rcases J5.mp z with y|y
   ·lia
   ·have:=hs.ahead y;lia
  have e2:r.2=s.2:=by
   rcases Int.lt_trichotomy r.2 s.2 with z|z|z
   ·exact absurd ((e r.2).mpr (J5.mpr (.inl ⟨by lia,z⟩))) nr
   ·exact z
   ·exact absurd ((e s.2).mp (J5.mpr (.inl ⟨by lia,z⟩))) ns
  have er:r=s:=Prod.ext e1 e2;subst er;rw[NR.uniq hr.tail hs.tail fun x=>?_]
  have ex:=e x;rw[J5,J5]at ex;constructor
  ·intro z;have:=hr.ahead z;rcases ex.mp (Or.inr z) with y|y
   ·lia
   ·exact y
  ·intro z;have:=hs.ahead z;rcases ex.mpr (Or.inr z) with y|y
   ·lia
   ·exact y
def Qw(lo hi:Int)(h:Nat):Prop:=lo % 2 ^ h=0/\(2:Int) ^ h<=hi - lo/\¬(lo % 2 ^ (h+1)=0/\(2:Int) ^ (h+1)<=hi - lo)
theorem zdI{a b:Nat}(h:a<=b):((2:Int) ^ a)∣2 ^ b:=⟨2 ^ (b - a),by rw[<- Int.pow_add];congr 1;lia⟩
theorem Ue{a b:Nat}(h:a<=b):(2:Int) ^ a<=2 ^ b:=by
 obtain⟨c,e⟩:=zdI h;have pa:=Bd.QL a;have pb:=Bd.QL b;have pc:0<c:=by
  rcases Int.lt_trichotomy c 0 with z|z|z
  ·have:=Int.mul_neg_of_pos_of_neg pa z;lia
  ·subst z;lia
  ·exact z
 rw[e];have:=Int.mul_le_mul_of_nonneg_left (show(1:Int)<=c by lia) (show(0:Int)<=2 ^ a by lia)
 lia
theorem Yr{lo:Int}{a b:Nat}(h:a<=b)(e:lo % 2 ^ b=0):lo % 2 ^ a=0:=by
 have d:((2:Int) ^ b)∣lo:=Int.dvd_of_emod_eq_zero e;exact Int.emod_eq_zero_of_dvd (Int.dvd_trans (zdI h) d)
theorem Qw.uniq{lo hi:Int}{h g:Nat}(a:Qw lo hi h)(b:Qw lo hi g):h=g:=by
 rcases Nat.lt_trichotomy h g with z|z|z
 ·exfalso;exact a.2.2 ⟨Yr (show h+1<=g by lia) b.1,Int.le_trans (Ue (show h+1<=g by lia)) b.2.1⟩
 ·exact z
 ·exfalso;exact b.2.2 ⟨Yr (show g+1<=h by lia) a.1,Int.le_trans (Ue (show g+1<=h by lia)) a.2.1⟩
def Jx:Int->Int->List (Int×Int)->Prop
 | lo,hi,[]=>lo=hi
 | lo,hi,b::r=>lo<hi/\b.1=lo/\0<=b.2/\Qw lo hi b.2.toNat/\Jx (lo+2 ^ b.2.toNat) hi r
theorem Jx.le:∀{bs:qB}{lo hi:Int},Jx lo hi bs->lo<=hi
 | [],_,_,h=>by have:_=_:=h;lia
 | b::r,lo,hi,h=>by have:=h.1;lia
theorem Jx.uniq:∀{bs cs:qB}{lo hi:Int},Jx lo hi bs->Jx lo hi cs->bs=cs
 | [],[],_,_,_,_=>rfl
 | [],c::cs,lo,hi,h,k=>by have:lo=hi:=h;have:=k.1;lia
 | b::bs,[],lo,hi,h,k=>by have:lo=hi:=k;have:=h.1;lia
 | b::bs,c::cs,lo,hi,h,k=>by
  obtain⟨h1,h2,h3,h4,h5⟩:=h;obtain⟨k1,k2,k3,k4,k5⟩:=k;have e:=h4.uniq k4;have e2:b.2=c.2:=by lia
  have eb:b=c:=Prod.ext (by lia) e2
  subst eb;rw[Jx.uniq h5 k5]
theorem Jx.mem:∀{bs:qB}{lo hi:Int},Jx lo hi bs->∀x,mB x bs↔lo<=x/\x<hi
 | [],lo,hi,h,x=>by
  have:lo=hi:=h;exact⟨fun z=>absurd z Z5,fun z=>by lia⟩
 | b::r,lo,hi,h,x=>by
  obtain⟨h1,h2,h3,h4,h5⟩:=h;have:=Jx.mem h5 x;have l:=Jx.le h5;have p:=Bd.QL b.2.toNat;rw[zlv,this];unfold eB;rw[h2];lia
theorem Jx.blk{bits:Int}(b0:0<=bits):∀{bs:qB}{lo hi:Int},Jx lo hi bs->0<=lo->hi<=2 ^ bits.toNat->Bks bits bs
 | [],_,_,_,_,_=>fun b hb=>nomatch hb
 | b::r,lo,hi,h,l0,l1=>by
  obtain⟨h1,h2,h3,h4,h5⟩:=h;have p:=Bd.QL b.2.toNat;have l:=Jx.le h5;have ih:=Jx.blk b0 h5 (by lia) l1
  intro c hc;rcases List.mem_cons.mp hc with rfl|hc
  ·have hb:c.2.toNat<=bits.toNat:=by
    rcases Nat.lt_or_ge bits.toNat c.2.toNat with z|z
    ·exfalso;have:=Ue (show bits.toNat+1<=c.2.toNat by lia)
     have p2:=Bd.QL bits.toNat;rw[Int.pow_succ]at this;have:=h4.2.1;lia
    ·exact z
   obtain⟨k,ek⟩:=Int.dvd_of_emod_eq_zero h4.1;have k0:0<=k:=by
    rcases Int.lt_or_le k 0 with z|z
    ·have:=Int.mul_neg_of_pos_of_neg p z;lia
    ·exact z
   refine⟨h3,by lia,k,k0,by rw[h2,ek,Int.mul_comm],?_⟩
   have e:(2:Int) ^ bits.toNat=2 ^ (bits - c.2).toNat*2 ^ c.2.toNat:=by rw[<- Int.pow_add];congr 1;lia
   have up:k*2 ^ c.2.toNat<2 ^ (bits - c.2).toNat*2 ^ c.2.toNat:=by
    rw[<- e,Int.mul_comm,<- ek];lia
   exact Int.lt_of_mul_lt_mul_right up (by lia)
  ·exact ih c hc
theorem Jx.in:∀{bs:qB}{lo hi:Int},Jx lo hi bs->∀b∈bs,lo<=b.1/\eB b<=hi
 | [],_,_,_=>fun b hb=>nomatch hb
 | b::r,lo,hi,h=>by
  obtain⟨h1,h2,h3,h4,h5⟩:=h;have p:=Bd.QL b.2.toNat;have ih:=Jx.in h5;have l:=Jx.le h5;intro c hc;rcases List.mem_cons.mp hc with rfl|hc
  ·unfold eB;rw[h2];lia
  ·have:=ih c hc;lia
theorem Jx.pw:∀{bs:qB}{lo hi:Int},Jx lo hi bs->bs.Pairwise fun a b=>eB a<=b.1
 | [],_,_,_=>.nil
 | b::r,lo,hi,h=>by
  obtain⟨h1,h2,h3,h4,h5⟩:=h;refine .cons (fun c hc=>?_) (Jx.pw h5)
  have:=Jx.in h5 c hc;unfold eB;rw[h2];lia
theorem zgW:∀{bs:qB}{lo hi:Int}{k:Nat},Jx lo hi bs->lo % 2 ^ k=0->hi - lo<2 ^ k->bs.length<=k
 | [],_,_,_,_,_,_=>Nat.zero_le _
 | b::r,lo,hi,k,h,d,l=>by
  obtain⟨h1,h2,h3,h4,h5⟩:=h;have hk:b.2.toNat<k:=by
   rcases Nat.lt_or_ge b.2.toNat k with z|z
   ·exact z
   ·have:=Ue z;have:=h4.2.1;lia
  have up:¬(2:Int) ^ (b.2.toNat+1)<=hi - lo:=fun z=>h4.2.2 ⟨Yr (show b.2.toNat+1<=k by lia) d,z⟩
  rw[Int.pow_succ]at up;have:=zgW (k:=b.2.toNat) h5 (by rw[Int.add_emod,h4.1];simp) (by lia)
  rw[List.length_cons];lia
theorem zgV{K:Nat}:∀{bs:qB}{lo hi:Int}{k:Nat},Jx lo hi bs->lo % 2 ^ k=0->hi - lo<2 ^ K->k<=K->bs.length<=(K - k)+K
 | [],_,_,_,_,_,_,_=>Nat.zero_le _
 | b::r,lo,hi,k,h,d,l,hkK=>by
  obtain⟨h1,h2,h3,h4,h5⟩:=h;have p:=Bd.QL b.2.toNat;have hK:b.2.toNat<K:=by
   rcases Nat.lt_or_ge b.2.toNat K with z|z
   ·exact z
   ·have:=Ue z;have:=h4.2.1;lia
  rw[List.length_cons]
  by_cases up:(2:Int) ^ (b.2.toNat+1)<=hi - lo
  ·have nd:¬lo % 2 ^ (b.2.toNat+1)=0:=fun z=>h4.2.2 ⟨z,up⟩
   have hk:k<=b.2.toNat:=by
    rcases Nat.lt_or_ge b.2.toNat k with z|z
    ·exact absurd (Yr (show b.2.toNat+1<=k by lia) d) nd
    ·exact z
   have d':(lo+2 ^ b.2.toNat) % 2 ^ (b.2.toNat+1)=0:=by
    obtain⟨q,eq⟩:=Int.dvd_of_emod_eq_zero h4.1;have e2:(2:Int) ^ (b.2.toNat+1)=2 ^ b.2.toNat*2:=Int.pow_succ _ _;rw[e2]at nd ⊢;have odd:q % 2=1:=by
     rcases Int.emod_two_eq q with z|z
     ·exfalso;obtain⟨t,et⟩:=Int.dvd_of_emod_eq_zero z;apply nd;apply Int.emod_eq_zero_of_dvd;exact⟨t,by rw[eq,et,Int.mul_assoc]⟩
     ·exact z
    apply Int.emod_eq_zero_of_dvd;refine⟨(q+1) / 2,?_⟩;have:q+1=2*((q+1) / 2):=by lia
    rw[eq,Int.mul_assoc,<- this,Int.mul_add,Int.mul_one]
   have:=zgV (K:=K) (k:=b.2.toNat+1) h5 d' (by lia) (by lia)
   lia
  ·rw[Int.pow_succ]at up;have:=zgW (k:=b.2.toNat) h5 (by rw[Int.add_emod,h4.1];simp) (by lia)
   lia
theorem Jx.len{bs:qB}{lo hi:Int}(h:Jx lo hi bs)(l0:0<=lo)(l1:hi<=2 ^ 64):bs.length<=130:=by
 have:=zgV (K:=65) (k:=0) h (by simp) (by have e:(2:Int) ^ 65=2*2 ^ 64:=by decide
                                          lia) (by decide)
 lia
theorem zju{lo hi:Int}(h:lo<hi):∃g,Qw lo hi g:=by
 have key:∀(d k:Nat),lo % 2 ^ k=0->(2:Int) ^ k<=hi - lo->(hi - lo).toNat<2 ^ (k+d)->∃g,Qw lo hi g:=by
  intro d;induction d with
  | zero =>
   intro k _ b c;exfalso;have:((2 ^ k:Nat):Int)=(2:Int) ^ k:=by rw[Int.natCast_pow];rfl
   rw[Nat.add_zero]at c;lia
  | succ d ih =>
   intro k a b c
   by_cases z:lo % 2 ^ (k+1)=0/\(2:Int) ^ (k+1)<=hi - lo
   ·exact ih (k+1) z.1 z.2 (by rw[show k+1+d=k+(d+1) by lia];exact c)
   ·exact⟨k,a,b,z⟩
 refine key (hi - lo).toNat 0 (by simp) (by simp;lia) ?_
 rw[Nat.zero_add];exact Nat.lt_two_pow_self
theorem zkE:∀(n:Nat) (lo hi:Int),(hi - lo).toNat<=n->lo<=hi->∃bs,Jx lo hi bs:=by
 intro n;induction n with
 | zero =>
  intro lo hi h l;exact⟨[],by show lo=hi;lia⟩
 | succ n ih =>
  intro lo hi h l
  by_cases z:lo<hi
  ·obtain⟨g,G⟩:=zju z;have p:=Bd.QL g;have:=G.2.1;obtain⟨bs,B⟩:=ih (lo+2 ^ g) hi (by lia) (by lia)
   exact⟨(lo,(g:Int))::bs,z,rfl,by show(0:Int)<=(g:Int);lia,by simpa using G,by simpa using B⟩
  ·exact⟨[],by show lo=hi;lia⟩
def PatS:List Run->List (Int×Int)->Prop
 | [],ps=>ps=[]
 | r::rs,ps=>∃a b,ps=a++b/\Jx r.1 r.2 a/\PatS rs b
theorem PatS.uniq:∀{rs:List Run}{ps qs:qB},PatS rs ps->PatS rs qs->ps=qs
 | [],_,_,h,k=>by rw[show _=[] from h,show _=[] from k]
 | r::rs,_,_,h,k=>by
  obtain⟨a,b,rfl,h1,h2⟩:=h;obtain⟨c,d,rfl,k1,k2⟩:=k;rw[h1.uniq k1,PatS.uniq h2 k2]
theorem PatS.mem:∀{rs:List Run}{ps:qB},PatS rs ps->∀x,mB x ps↔mR x rs
 | [],_,h,x=>by
  cases(show _=[] from h)
  exact⟨fun z=>absurd z Z5,fun z=>absurd z YS⟩
 | r::rs,_,h,x=>by
  obtain⟨a,b,rfl,h1,h2⟩:=h;rw[zn4,J5,h1.mem x,PatS.mem h2 x]
theorem PatS.blk{bits:Int}(b0:0<=bits):∀{rs:List Run}{ps:qB},PatS rs ps->(∀r∈rs,0<=r.1/\r.2<=2 ^ bits.toNat)->Bks bits ps
 | [],_,h,_=>by cases(show _=[] from h);exact fun b hb=>nomatch hb
 | r::rs,_,h,w=>by
  obtain⟨a,b,rfl,h1,h2⟩:=h;have wr:=w r (by simp)
  intro c hc;rcases List.mem_append.mp hc with hc|hc
  ·exact h1.blk b0 wr.1 wr.2 c hc
  ·exact PatS.blk b0 h2 (fun s hs=>w s (by simp[hs])) c hc
theorem PatS.in:∀{rs:List Run}{ps:qB},PatS rs ps->∀b∈ps,∃r∈rs,r.1<=b.1/\eB b<=r.2
 | [],_,h=>by cases(show _=[] from h);exact fun b hb=>nomatch hb
 | r::rs,_,h=>by
  obtain⟨a,b,rfl,h1,h2⟩:=h;intro c hc;rcases List.mem_append.mp hc with hc|hc
  ·exact⟨r,by simp,h1.in c hc⟩
  ·obtain⟨s,hs,q⟩:=PatS.in h2 c hc;exact⟨s,by simp[hs],q⟩
theorem PatS.pw:∀{rs:List Run}{ps:qB},PatS rs ps->NR rs->ps.Pairwise fun a b=>eB a<=b.1
 | [],_,h,_=>by cases(show _=[] from h);exact .nil
 | r::rs,_,h,nr=>by
  obtain⟨a,b,rfl,h1,h2⟩:=h;rw[List.pairwise_append];refine⟨h1.pw,PatS.pw h2 nr.tail,fun x hx y hy=>?_⟩
  have:=h1.in x hx;obtain⟨s,hs,q⟩:=PatS.in h2 y hy;have:=(List.pairwise_cons.mp nr.2).1 s hs;lia
def CanP(S:Int->Prop)(ps:qB):Prop:=∃rs,NR rs/\(∀x,mR x rs↔S x)/\PatS rs ps
theorem CanP.uniq{S T:Int->Prop}{ps qs:qB}(h:CanP S ps)(k:CanP T qs)(e:∀x,S x↔T x):ps=qs:=by
 obtain⟨rs,h1,h2,h3⟩:=h;obtain⟨ss,k1,k2,k3⟩:=k;have:rs=ss:=h1.uniq k1 fun x=>by rw[h2,k2,e]
 subst this;exact h3.uniq k3
theorem CanP.mem{S:Int->Prop}{ps:qB}(h:CanP S ps)(x:Int):mB x ps↔S x:=by
 obtain⟨rs,h1,h2,h3⟩:=h;rw[h3.mem,h2]
theorem CanP.ptc{S:Int->Prop}{ps:qB}{bits:Int}(b0:0<=bits)(h:CanP S ps)(w:∀x,S x->0<=x/\x<2 ^ bits.toNat):Ptc bits ps:=by
 obtain⟨rs,h1,h2,h3⟩:=h;refine⟨h3.blk b0 fun r hr=>?_,h3.pw h1⟩
 have lt:=h1.1 r hr;have a:=w r.1 ((h2 _).mp ⟨r,hr,Int.le_refl _,lt⟩);have b:=w (r.2 - 1) ((h2 _).mp ⟨r,hr,by lia,by lia⟩)
 lia
section
variable{X:Cx}{a:Expr}{da:DTE}{ρ:En}{n:Nat}{R:qN}
theorem zlt:MtR X "int.bit_length" (fun x xs H Q=>∃i,x=.int i/\xs=[]/\Q (.int (Builtin.Int.intBits i)) H):=by
 intro pins s σ H x xs v us Q I rx rs h;obtain⟨i,rfl,rfl,q⟩:=h;obtain⟨t,rfl⟩:=rx;cases rs;exact call_int_bit_length ⟨.int _,H,I.tok _,⟨_,rfl⟩,q⟩
def zl_(d:DTE):DTE:=fun ρ n R=>d ρ n fun t n1=>lInt t fun i=>R (.int (Builtin.Int.intBits i)) n1
theorem zhC{p2 p3:Pos}(h:DL X a da)(hbase:attributeBase a "bit_length" X.env (eval a X.env)=eval a X.env:=by rfl) (hline:(p2.endLine == p3.line)=true:=by rfl):DE X (.Call (.Attribute a "bit_length" p2) [] [] p3) (zl_ da):=by
 obtain⟨ta,pa,h⟩:=h;refine⟨_,zqS PySem.F.plainAttrs_int slot_int_bit_length type_int_bit_length zlt pa hbase hline,fun C ρ σ H n Q R S hd hq=>?_⟩
 refine h C ρ σ H n _ _ S hd fun t n1 v H1 r e1 h1 q1=>?_
 cases t with
 | int i =>
  rw[q1.intI];exact⟨rfl,i,rfl,rfl,hq _ n1 _ H1 r e1 h1 (.int _)⟩
 | _=>exact r.elim
instance zs0:Stp (zl_ da ρ n R) (da ρ n fun t n1=>lInt t fun i=>R (.int (Builtin.Int.intBits i)) n1):=⟨fun h=>h⟩
end
theorem zeW{i:Int}(h:0<i):(Builtin.Int.intBits i:Int) - 1=(i.toNat.log2:Int):=by
 unfold Builtin.Int.intBits;have:(i == 0)=false:=by simp;lia
 rw[this];have e:i.natAbs=i.toNat:=by lia
 rw[e];simp
theorem zlA{i:Int}(h:0<i):(2:Int) ^ i.toNat.log2<=i:=by
 have:=Nat.log2_self_le (n:=i.toNat) (by lia)
 have e:((2 ^ i.toNat.log2:Nat):Int)=(2:Int) ^ i.toNat.log2:=by rw[Int.natCast_pow];rfl
 lia
theorem zlw{i:Int}(h:0<i):i<(2:Int) ^ (i.toNat.log2+1):=by
 have:=Nat.lt_log2_self (n:=i.toNat);have e:((2 ^ (i.toNat.log2+1):Nat):Int)=(2:Int) ^ (i.toNat.log2+1):=by rw[Int.natCast_pow];rfl
 lia
theorem zlB(t:Nat):∀x:Nat,x % 2 ^ t=0->¬x % 2 ^ (t+1)=0->x - (x &&& (x - 1))=2 ^ t:=by
 induction t with
 | zero =>
  intro x _ h;have od:x % 2=1:=by
   have:¬x % 2=0:=by simpa using h
   lia
  have e:x &&& (x - 1)=x - 1:=by
   apply Nat.eq_of_testBit_eq;intro i;rw[Nat.testBit_and];cases i with
   | zero =>
    have:(x - 1).testBit 0=false:=by rw[Nat.testBit_zero];simp;lia
    rw[this,Bool.and_false]
   | succ i =>
    have:x / 2=(x - 1) / 2:=by lia
    rw[Nat.testBit_succ,Nat.testBit_succ,this,Bool.and_self]
  rw[e];simp;lia
 | succ t ih =>
  intro x h1 h2;have ev:x % 2=0:=by
   have:2∣2 ^ (t+1):=⟨2 ^ t,by rw[Nat.pow_succ,Nat.mul_comm]⟩
   exact Nat.mod_eq_zero_of_dvd (Nat.dvd_trans this (Nat.dvd_of_mod_eq_zero h1))
  have hx:x=2*(x / 2):=by lia
  have p1:(x / 2) % 2 ^ t=0:=by
   obtain⟨q,e⟩:=Nat.dvd_of_mod_eq_zero h1;apply Nat.mod_eq_zero_of_dvd;refine⟨q,?_⟩;rw[Nat.pow_succ]at e;have:x=2*(2 ^ t*q):=by rw[e];rw[Nat.mul_comm (2 ^ t) 2,Nat.mul_assoc]
   lia
  have p2:¬(x / 2) % 2 ^ (t+1)=0:=fun z=>by
   obtain⟨q,e⟩:=Nat.dvd_of_mod_eq_zero z;apply h2;apply Nat.mod_eq_zero_of_dvd;refine⟨q,?_⟩;rw[Nat.pow_succ,Nat.mul_comm (2 ^ (t+1)) 2,Nat.mul_assoc,<- e];exact hx
  have:=ih (x / 2) p1 p2;have e:x &&& (x - 1)=2*(x / 2 &&& (x / 2 - 1)):=by
   apply Nat.eq_of_testBit_eq;intro i;rw[Nat.testBit_and];cases i with
   | zero =>
    have a:x.testBit 0=false:=by rw[Nat.testBit_zero];simp;lia
    rw[a,Bool.false_and,Nat.testBit_zero];simp
   | succ i =>
    have nz:0<x / 2:=by
     rcases Nat.eq_zero_or_pos (x / 2) with z|z
     ·rw[z]at p2;simp at p2
     ·exact z
    have b:(x - 1) / 2=x / 2 - 1:=by lia
    rw[Nat.testBit_succ,Nat.testBit_succ,Nat.testBit_succ,b,Nat.mul_div_cancel_left _ (by decide:0<2),Nat.testBit_and]
  rw[e,Nat.pow_succ];have le:(x / 2 &&& (x / 2 - 1))<=x / 2:=Nat.and_le_left;lia
theorem zpU{b:Int}(h:0<b){t:Nat}(h1:b % 2 ^ t=0)(h2:¬b % 2 ^ (t+1)=0):Builtin.bitAnd b (-b)=2 ^ t:=by
 have e:Builtin.bitAnd b (-b)=b - ((b.toNat &&& (b.toNat - 1):Nat):Int):=by
  have h0:decide (0<=b)=true:=decide_eq_true (by lia)
  have h3:decide (0<=-b)=false:=decide_eq_false (by lia)
  show(match decide (0<=b),decide (0<=-b) with
   | true,true=>((b.toNat &&& (-b).toNat:Nat):Int)
   | true,false=>b - ((b.toNat &&& (Builtin.bitNot (-b)).toNat:Nat):Int)
   | false,true=>(-b) - (((-b).toNat &&& (Builtin.bitNot b).toNat:Nat):Int)
   | false,false=>Builtin.bitNot (((Builtin.bitNot b).toNat|||(Builtin.bitNot (-b)).toNat:Nat):Int))=_
  rw[h0,h3];have:(Builtin.bitNot (-b)).toNat=b.toNat - 1:=by
   have:Builtin.bitNot (-b)=b - 1:=by show -(-b) - 1=b - 1;lia
   rw[this];lia
  rw[this]
 have cast:∀k:Nat,b % (2:Int) ^ k=((b.toNat % 2 ^ k:Nat):Int):=fun k=>by
  rw[Int.natCast_emod,Int.natCast_pow,Int.toNat_of_nonneg (by lia)];rfl
 rw[cast]at h1 h2;have:=zlB t b.toNat (by lia) (by lia)
 have le:(b.toNat &&& (b.toNat - 1))<=b.toNat:=Nat.and_le_left;rw[e];have e3:((2 ^ t:Nat):Int)=(2:Int) ^ t:=by rw[Int.natCast_pow];rfl
 lia
theorem zs4{b:Int}(h:0<b):∃t:Nat,b % 2 ^ t=0/\¬b % 2 ^ (t+1)=0:=by
 obtain⟨g,G⟩:=zju (lo:=b) (hi:=b+b+1) (by lia)
 refine⟨g,G.1,fun z=>?_⟩
 have d:=Int.dvd_of_emod_eq_zero z;have:=Int.le_of_dvd h d;exact G.2.2 ⟨z,by lia⟩
theorem zjp{xs:qD}{x:PyData}:ixN (xs++[x]).length (-1)=some xs.length:=by
 unfold ixN;simp;lia
theorem znl{xs:qD}{x:PyData}{Q:PyData->Prop}(h:Q x):oIx (.list (xs++[x])) (.int (-1)) Q:=by
 have e:atI (xs++[x]) (-1)=some x:=by
  unfold atI;rw[zjp];simp
 rw[YB e];exact h
section
variable{X:Cx}{tg iter:Expr}{d:DTE}
def iSeq(K:qF)(tl:TE):TI:=fun σ H R=>tl σ H fun x H1=>∃a,x=.ref a/\(((∃xs,SqL K H1 a xs)/\R (Itl K a) H1)\/((∃xs,SqT K H1 a xs)/\R (Itt K a) H1))
theorem zqI{l:Expr}{tl:TE}(hl:PE X l tl):PI X tg l (iSeq X.K tl):=by
 intro pins s σ H R I h;refine thn (hl pins s σ H _ I h) fun v s1 ⟨x,H1,I1,r1,q1⟩=>?_
 obtain⟨a,e,q1⟩:=q1;subst e;cases r1;rcases q1 with⟨⟨xs,hq⟩,q⟩|⟨⟨xs,hq⟩,q⟩
 ·obtain⟨its,rv,p,hz⟩:=I1.list hq;refine wpAny_pyIter_list p.isList ?_;refine⟨s1.heap.objs.size,[s1.heap.objs.size],_,_,H1,rfl,I1.kept (t':=s1.toks) fun b o e=>Heap.get?_push_of_some _ e,zgU a _,⟨_,Heap.get?_push_size _ rfl,rfl,rfl⟩,fun b hb=>?_,q⟩
  have e:b=s1.heap.objs.size:=by simpa using hb
  subst e;exact I1.fpOk (Nat.le_refl _) (I1.hok.fresh (Nat.le_refl _))
 ·obtain⟨its,rv,p,hz⟩:=I1.tuple hq;refine wpAny_pyIter_tuple (show s1.heap.IsTuple a its.toArray from p) ?_
  refine⟨s1.heap.objs.size,[s1.heap.objs.size],_,_,H1,rfl,I1.kept (t':=s1.toks) fun b o e=>Heap.get?_push_of_some _ e,zfw a _,⟨_,Heap.get?_push_size _ rfl,rfl,rfl⟩,fun b hb=>?_,q⟩
  have e:b=s1.heap.objs.size:=by simpa using hb
  subst e;exact I1.fpOk (Nat.le_refl _) (I1.hok.fresh (Nat.le_refl _))
def dItA(d:DTE):DTA:=fun ρ n R=>d ρ n fun t n'=>YQ t fun ts=>R ts n'
theorem zsc(h:DE X iter d):DI X tg iter (dItA d):=by
 obtain⟨ta,pa,h⟩:=h;refine⟨_,zqI pa,fun C ρ σ H n Q R S hd hq=>?_⟩
 refine h C ρ σ H n _ _ S hd fun t n' v H' r e1 hn q=>?_
 cases t with
 | tuple ts =>
  obtain⟨p,vs,rfl,h1,it⟩:=zn5 (P:=fun a=>¬Own C ρ σ a) (fun _ z=>z) q
  exact⟨p,rfl,.inr ⟨⟨vs,h1⟩,hq ts n' _ H' r e1 hn it⟩⟩
 | list ts =>
  obtain⟨p,vs,rfl,h1,no,r2⟩:=q.lstI;exact⟨p,rfl,.inl ⟨⟨vs,SqL.of h1⟩,hq ts n' _ H' r e1 hn (Vd h1 no (fun _ z=>z) r2)⟩⟩
 | _=>exact r.elim
end
section
variable{ρ:En}{n:Nat}{d:DTE}{Rl:List PyData->Nat->Prop}
instance zuY:Stp (dItA d ρ n Rl) (d ρ n fun t n'=>YQ t fun ts=>Rl ts n'):=⟨fun h=>h⟩
end
theorem YW{bits:Int}{p q:Int×Int}(P:IsBk bits p.1 p.2)(Q:IsBk bits q.1 q.2){x:Int}(hp:p.1<=x/\x<eB p)(hq:q.1<=x/\x<eB q):(p.1<=q.1/\eB q<=eB p/\q.2<=p.2)\/(q.1<=p.1/\eB p<=eB q/\p.2<=q.2):=by
 unfold eB at *;rcases Nat.le_total q.2.toNat p.2.toNat with l|l
 ·rcases zhT P.n Q.n l with z|z|z
  ·left
   have:=(ziP P.n Q.n).mp z;have:=P.1;have:=Q.1;lia
  ·lia
  ·lia
 ·rcases zhT Q.n P.n l with z|z|z
  ·right
   have:=(ziP Q.n P.n).mp z;have:=P.1;have:=Q.1;lia
  ·lia
  ·lia
theorem zmn{bits i h:Int}(B:IsBk bits i h):i % 2 ^ h.toNat=0:=by
 obtain⟨_,_,k,_,rfl,_⟩:=B;exact Int.mul_emod_left _ _
theorem Jx.great:∀{bs:qB}{lo hi:Int},Jx lo hi bs->∀b∈bs,Qw b.1 hi b.2.toNat/\lo<=b.1
 | [],_,_,_=>fun b hb=>nomatch hb
 | b::r,lo,hi,h=>by
  obtain⟨h1,h2,h3,h4,h5⟩:=h;have p:=Bd.QL b.2.toNat;intro c hc;rcases List.mem_cons.mp hc with rfl|hc
  ·rw[h2];exact⟨h4,Int.le_refl _⟩
  ·have:=Jx.great h5 c hc;exact⟨this.1,by lia⟩
theorem Jx.max{bits:Int}(b0:0<=bits){bs:qB}{lo hi:Int}(S:Jx lo hi bs)(l0:0<=lo)(l1:hi<=2 ^ bits.toNat){p q:Int×Int}(hp:p∈bs)(Q:IsBk bits q.1 q.2)(w:lo<=q.1/\eB q<=hi)(i:q.1<=p.1/\eB p<=eB q):q=p:=by
 have B:=S.blk b0 l0 l1;have P:=B p hp;have pp:=Bd.QL p.2.toNat;have pq:=Bd.QL q.2.toNat;have nest:=YW P Q (x:=p.1) ⟨Int.le_refl _,by unfold eB;lia⟩ ⟨i.1,by unfold eB at *;lia⟩
 have hle:p.2<=q.2:=by
  rcases nest with⟨a,b,c⟩|⟨a,b,c⟩
  ·have e1:p.1=q.1:=by lia
   have e2:eB p=eB q:=by lia
   unfold eB at e2;rcases Int.lt_or_le q.2 p.2 with z|z
   ·have p0:=P.1;have q0:=Q.1;have:=Ue (show q.2.toNat+1<=p.2.toNat by lia)
    rw[Int.pow_succ]at this;lia
   ·exact z
  ·exact c
 have p0:=P.1;have q0:=Q.1
 by_cases e:p.2=q.2
 ·have e1:(2:Int) ^ p.2.toNat=2 ^ q.2.toNat:=by rw[e]
  have:q.1=p.1:=by unfold eB at *;lia
  exact Prod.ext this e.symm
 ·exfalso;have hlt:p.2.toNat+1<=q.2.toNat:=by lia
  have dq:=zmn Q;have dq1:=Yr hlt dq;have G:=(S.great p hp).1
  by_cases ev:p.1 % 2 ^ (p.2.toNat+1)=0
  ·
   apply G.2.2;refine⟨ev,?_⟩;obtain⟨a,ea⟩:=Int.dvd_of_emod_eq_zero ev;have de:eB q % 2 ^ (p.2.toNat+1)=0:=by
    unfold eB;rw[Int.add_emod,dq1,Int.emod_eq_zero_of_dvd (zdI hlt)];simp
   obtain⟨c,ec⟩:=Int.dvd_of_emod_eq_zero de;have lt:p.1<eB q:=by have:=i.2;unfold eB at *;lia
   rw[ea,ec]at lt;have pos:=Bd.QL (p.2.toNat+1);have ac:a<c:=Int.lt_of_mul_lt_mul_left lt (by lia)
   have:=Int.mul_le_mul_of_nonneg_left (show a+1<=c by lia) (show(0:Int)<=2 ^ (p.2.toNat+1) by lia)
   rw[Int.mul_add,Int.mul_one,<- ea,<- ec]at this;lia
  ·
   have lowmod:(p.1 - 2 ^ p.2.toNat) % 2 ^ (p.2.toNat+1)=0:=by
    obtain⟨k,ek⟩:=Int.dvd_of_emod_eq_zero (zmn P);have e2:(2:Int) ^ (p.2.toNat+1)=2 ^ p.2.toNat*2:=Int.pow_succ _ _;rw[e2]at ev ⊢;have odd:k % 2=1:=by
     rcases Int.emod_two_eq k with z|z
     ·exfalso;obtain⟨t,et⟩:=Int.dvd_of_emod_eq_zero z;apply ev;apply Int.emod_eq_zero_of_dvd;exact⟨t,by rw[ek,et,Int.mul_assoc]⟩
     ·exact z
    apply Int.emod_eq_zero_of_dvd;refine⟨(k - 1) / 2,?_⟩;have:k - 1=2*((k - 1) / 2):=by lia
    rw[ek,Int.mul_assoc,<- this,Int.mul_sub,Int.mul_one]
   have lowq:q.1<=p.1 - 2 ^ p.2.toNat:=by
    obtain⟨a,ea⟩:=Int.dvd_of_emod_eq_zero lowmod;obtain⟨c,ec⟩:=Int.dvd_of_emod_eq_zero dq1;have pos:=Bd.QL (p.2.toNat+1);have e2:(2:Int) ^ (p.2.toNat+1)=2 ^ p.2.toNat*2:=Int.pow_succ _ _;have lt:q.1<p.1 - 2 ^ p.2.toNat+2 ^ (p.2.toNat+1):=by lia
    rw[ea,ec]at lt;have:(2:Int) ^ (p.2.toNat+1)*c<2 ^ (p.2.toNat+1)*(a+1):=by rw[Int.mul_add,Int.mul_one];exact lt
    have ca:=Int.lt_of_mul_lt_mul_left this (by lia)
    have:=Int.mul_le_mul_of_nonneg_left (show c<=a by lia) (show(0:Int)<=2 ^ (p.2.toNat+1) by lia)
    rw[<- ea,<- ec]at this;exact this
   obtain⟨c,hc,c1,c2⟩:=(S.mem (p.1 - 2 ^ p.2.toNat)).mpr ⟨by lia,by have:=S.in p hp;unfold eB at this;lia⟩
   have C:=B c hc;have pc:=Bd.QL c.2.toNat;have cp:eB c<=p.1:=by
    obtain⟨i1,h1,rfl⟩:=List.getElem_of_mem hc;obtain⟨i2,h2,rfl⟩:=List.getElem_of_mem hp;rcases Nat.lt_trichotomy i1 i2 with z|z|z
    ·exact List.pairwise_iff_getElem.mp S.pw i1 i2 h1 h2 z
    ·subst z;lia
    ·have:=List.pairwise_iff_getElem.mp S.pw i2 i1 h2 h1 z;unfold eB at this;lia
   have LB:IsBk bits (p.1 - 2 ^ p.2.toNat) (p.2+1):=by
    have hq1:=Q.2.1;obtain⟨a,ea⟩:=Int.dvd_of_emod_eq_zero lowmod;have e1:(p.2+1).toNat=p.2.toNat+1:=by lia
    have pos:=Bd.QL (p.2.toNat+1);have a0:0<=a:=by
     rcases Int.lt_or_le a 0 with z|z
     ·have:=Int.mul_neg_of_pos_of_neg pos z;have:=(Q.bounds b0).1;lia
     ·exact z
    refine⟨by lia,by lia,a,a0,by rw[e1,ea,Int.mul_comm],?_⟩
    have e:(2:Int) ^ bits.toNat=2 ^ (bits - (p.2+1)).toNat*2 ^ (p.2.toNat+1):=by rw[<- Int.pow_add];congr 1;lia
    have up:a*2 ^ (p.2.toNat+1)<2 ^ (bits - (p.2+1)).toNat*2 ^ (p.2.toNat+1):=by
     rw[<- e,Int.mul_comm,<- ea];have:=(P.bounds b0).2;lia
    exact Int.lt_of_mul_lt_mul_right up (by lia)
   have e1:(p.2+1).toNat=p.2.toNat+1:=by lia
   have n3:=YW (p:=c) (q:=(p.1 - 2 ^ p.2.toNat,p.2+1)) C LB (x:=p.1 - 2 ^ p.2.toNat) ⟨c1,c2⟩ ⟨Int.le_refl _,by show _<_+2 ^ (p.2+1).toNat;have:=Bd.QL (p.2+1).toNat;lia⟩
   have eL:eB (p.1 - 2 ^ p.2.toNat,p.2+1)=p.1+2 ^ p.2.toNat:=by
    show p.1 - 2 ^ p.2.toNat+2 ^ (p.2+1).toNat=_
    rw[e1,Int.pow_succ];lia
   rcases n3 with⟨z1,z2,z3⟩|⟨z1,z2,z3⟩
   ·lia
   ·have z1:p.1 - 2 ^ p.2.toNat<=c.1:=z1;have z3:c.2<=p.2+1:=z3;have cb:c.1=p.1 - 2 ^ p.2.toNat:=by lia
    have c0:=C.1;have ch:c.2<=p.2:=by
     rcases Int.lt_or_le p.2 c.2 with z|z
     ·have:c.2=p.2+1:=by lia
      unfold eB at cp;rw[this,e1,Int.pow_succ]at cp;lia
     ·exact z
    have Gc:=(S.great c hc).1;apply Gc.2.2;refine⟨?_,?_⟩
    ·rw[cb];exact Yr (show c.2.toNat+1<=p.2.toNat+1 by lia) lowmod
    ·have:=Ue (show c.2.toNat+1<=p.2.toNat+1 by lia)
     have e2:(2:Int) ^ (p.2.toNat+1)=2 ^ p.2.toNat*2:=Int.pow_succ _ _;have:=S.in p hp;unfold eB at this;lia
theorem NR.one{rs:List Run}(nr:NR rs){a b:Int}(h:a<b)(w:∀x,a<=x->x<b->mR x rs):∃r∈rs,r.1<=a/\b<=r.2:=by
 obtain⟨r,hr,h1,h2⟩:=w a (Int.le_refl _) h;refine⟨r,hr,h1,?_⟩;rcases Int.lt_or_le r.2 b with z|z
 ·exfalso;obtain⟨s,hs,k1,k2⟩:=w r.2 (by lia) z
  obtain⟨i,hi,rfl⟩:=List.getElem_of_mem hr;obtain⟨j,hj,rfl⟩:=List.getElem_of_mem hs;have li:=nr.1 _ hr;have lj:=nr.1 _ hs;rcases Nat.lt_trichotomy i j with y|y|y
  ·have:=List.pairwise_iff_getElem.mp nr.2 i j hi hj y;lia
  ·subst y;lia
  ·have:=List.pairwise_iff_getElem.mp nr.2 j i hj hi y;lia
 ·exact z
theorem PatS.from:∀{rs:List Run}{ps:qB},PatS rs ps->∀p∈ps,∃r∈rs,∃bs,Jx r.1 r.2 bs/\p∈bs
 | [],_,h=>by cases(show _=[] from h);exact fun b hb=>nomatch hb
 | s::rs,_,h=>by
  obtain⟨a,b,rfl,h1,h2⟩:=h;intro p hp;rcases List.mem_append.mp hp with hp|hp
  ·exact⟨s,by simp,a,h1,hp⟩
  ·obtain⟨r,hr,bs,B,hb⟩:=PatS.from h2 p hp
   exact⟨r,by simp[hr],bs,B,hb⟩
theorem CanP.max{bits:Int}(b0:0<=bits){S:Int->Prop}{ps:qB}(h:CanP S ps)(w:∀x,S x->0<=x/\x<2 ^ bits.toNat){p q:Int×Int}(hp:p∈ps)(Q:IsBk bits q.1 q.2)(wq:∀x,q.1<=x->x<eB q->S x)(i:q.1<=p.1/\eB p<=eB q):q=p:=by
 obtain⟨rs,nr,me,P⟩:=h;obtain⟨r,hr,bs,B,hb⟩:=P.from p hp
 have lt:=nr.1 r hr;have w1:=w r.1 ((me _).mp ⟨r,hr,Int.le_refl _,lt⟩);have w2:=w (r.2 - 1) ((me _).mp ⟨r,hr,by lia,by lia⟩)
 have pin:=B.in p hb;have pp:=JT p;obtain⟨s,hs,s1,s2⟩:=nr.one (a:=q.1) (b:=eB q) (JT q) fun x h1 h2=>(me x).mpr (wq x h1 h2)
 have rs':r=s:=by
  obtain⟨i1,h1,rfl⟩:=List.getElem_of_mem hr;obtain⟨i2,h2,rfl⟩:=List.getElem_of_mem hs;rcases Nat.lt_trichotomy i1 i2 with y|y|y
  ·have:=List.pairwise_iff_getElem.mp nr.2 i1 i2 h1 h2 y;lia
  ·subst y;rfl
  ·have:=List.pairwise_iff_getElem.mp nr.2 i2 i1 h2 h1 y;lia
 subst rs';exact B.max b0 w1.1 (by lia) hb Q ⟨s1,s2⟩ i
theorem zhh:∀{ps bs:qB},(ps.Pairwise fun a b=>eB a<=b.1)->(∀p∈ps,∃b∈bs,p.1<=b.1/\b.1<eB p)->ps.length<=bs.length
 | [],_,_,_=>Nat.zero_le _
 | p::ps,bs,pw,h=>by
  obtain⟨b,hb,b1,b2⟩:=h p (by simp)
  have pw':=List.pairwise_cons.mp pw;have:=zhh (ps:=ps) (bs:=bs.erase b) pw'.2 fun q hq=>by
   obtain⟨c,hc,c1,c2⟩:=h q (by simp[hq])
   refine⟨c,(List.mem_erase_of_ne ?_).mpr hc,c1,c2⟩;rintro rfl;have:=pw'.1 q hq;lia
  have e:=List.length_erase_of_mem hb;have:=List.length_pos_of_mem hb;rw[List.length_cons];lia
theorem CanP.le{bits:Int}(b0:0<=bits){bs ps:qB}(B:Bks bits bs)(h:CanP (fun x=>mB x bs) ps):ps.length<=bs.length:=by
 have w:∀x,mB x bs->0<=x/\x<2 ^ bits.toNat:=fun x ⟨b,hb,h1,h2⟩=>by
  have:=(B b hb).bounds b0;unfold eB at h2;lia
 have P:=h.ptc b0 w;refine zhh P.2 fun p hp=>?_
 have pp:=JT p;obtain⟨b,hb,h1,h2⟩:=(h.mem p.1).mp ⟨p,hp,Int.le_refl _,pp⟩;rcases YW (P.1 p hp) (B b hb) (x:=p.1) ⟨Int.le_refl _,pp⟩ ⟨h1,h2⟩ with z|z
 ·exact⟨b,hb,z.1,by have:=JT b;lia⟩
 ·have:=h.max b0 w hp (B b hb) (fun x y1 y2=>⟨b,hb,y1,y2⟩) ⟨z.1,z.2.1⟩
  subst this;exact⟨b,hb,Int.le_refl _,pp⟩
end L2
namespace L2
open PySem Bd
theorem CanP.hold{bits:Int}(b0:0<=bits){S:Int->Prop}{ps:qB}(h:CanP S ps)(w:∀x,S x->0<=x/\x<2 ^ bits.toNat){b:Int×Int}(B:IsBk bits b.1 b.2)(wb:∀x,b.1<=x->x<eB b->S x):∃p∈ps,p.1<=b.1/\eB b<=eB p:=by
 have P:=h.ptc b0 w;have lt:=JT b;obtain⟨p,hp,p1,p2⟩:=(h.mem b.1).mpr (wb b.1 (Int.le_refl _) lt);rcases YW (P.1 p hp) B (x:=b.1) ⟨p1,p2⟩ ⟨Int.le_refl _,lt⟩ with z|z
 ·exact⟨p,hp,z.1,z.2.1⟩
 ·have e:=h.max b0 w hp B wb ⟨z.1,z.2.1⟩;exact⟨p,hp,by rw[e];exact Int.le_refl _,by rw[e];exact Int.le_refl _⟩
variable{as bs cs:List Run}{a b:Nat}
end L2
namespace L2
open PySem PySem.Spec PyProof.Rows
theorem ztT{P:Program}{w:World}{k:Key}{u:Value}(r:RelV (kV k) u):(JJ P w).is k u=true:=by
 cases k with
 | inl i=>obtain⟨t,e⟩:=(show ∃t,u=Value.int i t from r);subst e;exact zis P w i t
 | inr x=>obtain⟨t,e⟩:=(show ∃t,u=Value.str x t from r);subst e;exact zir P w x t
theorem zht{P:Program}{w:World}:∀{ks:List Key}{us:List Value},Vals (ks.map kV) us->ItemsAre (JJ P w) ks us
 | [],_,r=>by rw[List.map_nil]at r;cases r;exact .nil
 | k::ks,_,r=>by
  rw[List.map_cons]at r;cases r with
  | cons h t=>exact .cons (ztT h) (zht t)
abbrev KT(H:Hp):List (List Key×V)->List (List Key×Addr×Value)->Prop:=Paired fun p q=>p.1=q.1/\H q.2.1=some (.tup (p.1.map kV))/\RelV p.2 q.2.2
section
variable{X:Cx}{pins:qO}{σ:St}{H:Hp}{s:Shared}{a:Addr}{y v:V}{u r:Value}{o:Option V}{A:Around}{E:qV}
theorem Inv.big(I:Inv X pins σ H s):sysModules<s.heap.objs.size:=by
 have h:mainGlobals<s.heap.objs.size:=(I.mod.glob.keeps I.bk).lt;exact Nat.lt_trans (by decide) h
theorem zl7{h':Heap}{t':Nat}{ob:HO}(I:Inv X pins σ H s)(mu:Mut (H a))(hs:Heap.SameBut a s.heap h')(he:∃q,h'.get? a=some q)(new:JL X.prog X.w (upd H a ob) h' a ob) :
  Inv X pins σ (upd H a ob) { s with heap:=h',toks:=t' } :=
 I.write (x:=a) (e:=a) mu (.inl rfl) (fun b q hb z=>(hs.2 b hb).trans z) he new
end
def NoSl(i:Expr):Prop:=∀ov iv,subscripted i false ov iv=operate [ov,iv] (getItem ov iv)
theorem zon{prog:Program}{w:World}{A:Around}{E:qV}{s:Shared}{env:Env}{value slice:Expr}{pos:Pos}{T id:String}{Q:qV}
  (hl:typeLookup (.type T) "__getitem__" = pure (some (.builtin id))) (hs:NoSl slice)
  (h:wpAny (model prog w) A (eval value env) (fun o s₁=>wpAny (model prog w) A (eval slice env) (fun i s₂=>s₂.TypeIs o T/\wpAny (model prog w) A (getItem o i) Q E s₂) E s₁) E s) :
  wpAny (model prog w) A (eval (.Subscript value slice pos) env) Q E s:=by
 refine Subscript_ (wpAny_mono h (fun o s₁ h₁=>wpAny_mono h₁ (fun i s₂ h₂=>?_) fun _ _ x=>x) fun _ _ x=>x)
 obtain⟨hT,h₂⟩:=h₂;unfold subscriptTail;refine wpAny_bind ?_;rw[getitemInPython_of_ne hT.not_modules];refine wpAny_bind (wpAny_specialOf hT hl ?_);have fin:wpAny (model prog w) A (subscripted slice false o i) (fun r s₃=>wpAny (model prog w) A (letTemporaryGo value o r >>= fun _=>pure r) Q E s₃) E s₂:=by
  rw[hs o i];exact wpAny_operating (wpAny_mono h₂ (fun r s₃ h₃=>wpAny_bind (wpAny_letTemporaryGo (wpAny_pure h₃))) fun _ _ x=>x)
 first
  | exact wpAny_pure (wpAny_bind fin)
  | exact wpAny_bind (wpAny_pure (wpAny_bind fin))
  | exact wpAny_bind fin
end L2
namespace L2
open PySem PySem.Spec PyProof PyProof.Rows
abbrev KD:=List (Key×PyData)
section
variable{D:DEnds}{ρ ρ':En}{n i j:Nat}{d dk dv:DTE}{R:qN}{ks:KD}
instance{ks:KD}:CapC (some (.dct ks)) (some (.rdo ks)):=⟨rfl⟩
instance{ks:KD}:CapC (some (.rdo ks)) (some (.rdo ks)):=⟨rfl⟩
end
theorem zcU:entryFor table "dict.update.loop" = some Builtin.«dict.update.loop»:=by kernel_rfl
theorem zlE:typeLookup (.type "list") "keys" = pure none:=by rw[typeLookup_type,builtinLookup_eq_fast];kernel_rfl
theorem zpv:typeLookup (.type "list") "__getattr__" = pure none:=by rw[typeLookup_type,builtinLookup_eq_fast];kernel_rfl
section
variable{prog:Program}{w:World}{A:Around}{E:qV}{s:Shared}
theorem zgC{a:Addr}{o:Obj}{u:Tok}{P:Fin->Shared->Prop}(ho:s.heap.get? a=some o)(hc:o.cls=.type "list") (hq:∃its n,o.data=.seq its n) (hd:o.dict=none) (hA:A.handled=none)
  (h:∀h' tk e,Heap.NewAttrErr s.heap h' e (.ref a) "keys" -> E (.ref e) { s with heap:=h',toks:=tk }):wpAny (model prog w) A (Builtin.«object.__getattribute__» ⟨[.ref a,.str "keys" u],[]⟩) P E s:=by
 obtain⟨hp,g,d,tk,os⟩:=s;have hT:∀(t:Nat),Shared.TypeIs ⟨hp,g,d,t,os⟩ (.ref a) "list":=fun _=>⟨o,ho,hc⟩
 have hm:=zlE;unfold Builtin.«object.__getattribute__»
 repeat (any_goals (first|assumption|wp_step))
 rw[hc,hm]
 repeat (any_goals (first|assumption|wp_step))
 obtain⟨its,n,hq⟩:=hq;rw[hq];dsimp only;unfold instanceDict
 repeat (any_goals (first|assumption|wp_step))
 rw[hd]
 repeat (any_goals (first|assumption|wp_step))
 simp only[hc,Bool.not_false,Bool.true_or,if_true]
 repeat (any_goals (first|assumption|wp_step))
 rw[hc];dsimp only
 repeat (any_goals (first|assumption|wp_step))
 exact wpAny_raiseAttrError hA h (attrMsg_fits (by decide +kernel) (by size_fits))
theorem zfi{a:Addr}{o:Obj}{u:Tok}{R:Result->Shared->Prop}(ho:s.heap.get? a=some o)(hc:o.cls=.type "list") (hq:∃its n,o.data=.seq its n) (hd:o.dict=none) (hA:A.handled=none)
  (h:∀h' tk e,Heap.NewAttrErr s.heap h' e (.ref a) "keys" -> R (.error (.ref e)) { s with heap:=h',toks:=tk }):codeAny (model prog w) A (.call (.builtin "list.__getattribute__") ⟨[.ref a,.str "keys" u],[]⟩) R s :=
 codeAny_call_builtin F.slot_list_getattribute.plain F.entry_list_ga (F.slot_list_getattribute.check _ _ _ _ _ _ _ _ (show s.TypeIs (.ref a) "list" from⟨_,ho,hc⟩) (F.args_list_getattribute_2 _ _) (zgC ho hc hq hd hA h))
theorem zhj{a:Addr}{o:Obj}{u:Tok}{Q:qV}(ho:s.heap.get? a=some o)(hc:o.cls=.type "list") (hq:∃its n,o.data=.seq its n) (hd:o.dict=none) (hA:A.handled=none)
  (h:∀h' tk e,Heap.NewAttrErr s.heap h' e (.ref a) "keys" -> E (.ref e) { s with heap:=h',toks:=tk }):wpAny (model prog w) A (getAttrBy (.ref a) (.str "keys" u) false) Q E s:=by
 obtain⟨hp,g,d,tk,os⟩:=s;have hT:(⟨hp,g,d,tk,os⟩:Shared).TypeIs (.ref a) "list":=⟨o,ho,hc⟩;have f2:=F.slot_list_getattribute.lookup;have f3:=F.slot_list_getattribute.bind (.ref a);have f1:=sub_AttributeError;have f5:=zpv
 repeat (any_goals (first|assumption|wp_step))
 refine zfi ho hc hq hd hA fun h' tk' e hx=>?_
 obtain⟨t',u',he⟩:=hx.there
 repeat (any_goals (first|assumption|wp_step))
 exact h _ _ _ hx
theorem zfj{a:Addr}{o:Obj}{Q:Option Value->Shared->Prop}(ho:s.heap.get? a=some o)(hc:o.cls=.type "list") (hq:∃its n,o.data=.seq its n) (hd:o.dict=none) (hA:A.handled=none)
  (h:∀h' tk,(∀b ob,s.heap.get? b=some ob->h'.get? b=some ob)->Q none { s with heap:=h',toks:=tk }):wpAny (model prog w) A (getAttr? (.ref a) "keys") Q E s:=by
 unfold getAttr? getAttrBy?
 obtain⟨hp,g,d,tk,os⟩:=s;have f1:=sub_AttributeError
 repeat (any_goals (first|assumption|(with_reducible refine zhj ho hc hq hd hA fun h' tk' e hx=>?_)|wp_step))
 obtain⟨t',u',he⟩:=hx.there
 repeat (any_goals (first|assumption|wp_step))
 exact h _ _ hx.keeps
end
section
variable{prog:Program}{w:World}{A:Around}{E:qV}{Ky:Type}[DecidableEq Ky]{knd:PySem.KeyKind prog w Ky}
def KpH(d it:Addr)(h h':Heap):Prop:=∀b o,b≠d->b≠it->h.get? b=some o->h'.get? b=some o
end
theorem JW{k:Nat}{A:Around}(r:Room k A):A.units+1<cLine:=by have:=r.un;lia
theorem Zn{bits:Int}(b0:0<=bits){bs:qB}(B:Bks bits bs){x:Int}(h:mB x bs):0<=x/\x<2 ^ bits.toNat:=by
 obtain⟨b,hb,h1,h2⟩:=h;have:=(B b hb).bounds b0;unfold eB at h2;lia
theorem ztQ{bits:Int}(b0:0<=bits)(b1:bits<=64){S:Int->Prop}{rs:qB}(nr:NR rs)(e:∀x,mR x rs↔S x)(w:∀x,S x->0<=x/\x<2 ^ bits.toNat):∀r∈rs,0<=r.1/\r.1<=r.2/\r.2<=2 ^ 64:=fun r hr=>by
 have lt:=nr.1 r hr;have a:=w r.1 ((e _).mp ⟨r,hr,Int.le_refl _,lt⟩);have b:=w (r.2 - 1) ((e _).mp ⟨r,hr,by lia,by lia⟩)
 have:=Bd.zgh (k:=bits.toNat) (by lia)
 lia
section
variable{prog:Program}{w:World}{A:Around}{E:qV}
def PrT(prog:Program)(w:World)(h:Heap)(x:Value)(z:List Key×Addr×Value):Prop:=∃p:Addr,x=.ref p/\IsTup h p #[.ref z.2.1,z.2.2]/\IsTupleKey (JJ prog w) h z.1 z.2.1
theorem ZY{h:Heap}{k:List Key}{a b:Addr}{T:String}(r:IsTupleKey (JJ prog w) h k a)(hb:∃o,h.get? b=some o/\o.cls=.type T)(ht:T ≠ "tuple"):a≠b:=by
 rintro rfl;obtain⟨o,_,_,e,c,_⟩:=r;obtain⟨o',e',c'⟩:=hb;rw[e]at e';cases e';rw[c]at c'
 injection c' with c'
 exact ht c'.symm
theorem Ve{h h':Heap}{k:List Key}{a:Addr}(r:IsTupleKey (JJ prog w) h k a)(kp:∀o,h.get? a=some o->h'.get? a=some o):IsTupleKey (JJ prog w) h' k a:=by
 obtain⟨o,its,n,e,c⟩:=r;exact⟨o,its,n,kp o e,c⟩
theorem tup_ne{h:Heap}{a b:Addr}{xs:Array Value}{T:String}(r:IsTup h a xs)(hb:∃o,h.get? b=some o/\o.cls=.type T)(ht:T ≠ "tuple"):a≠b:=by
 rintro rfl;obtain⟨o,e,c,_⟩:=r;obtain⟨o',e',c'⟩:=hb;rw[e]at e';cases e';rw[c]at c'
 injection c' with c'
 exact ht c'.symm
theorem zlZ{h:Heap}{d:Addr}{xs:List (List Key×Addr×Value)}(hd:h.DictOfH (tupleKind (JJ prog w)) d xs):∃o,h.get? d=some o/\o.cls=.type "dict":=by
 obtain⟨o,es,ep,ho,hc,_⟩:=hd;exact⟨o,ho,hc.1⟩
theorem zky{A:Around}{xs:List Value}{kw:List (Str×Value)}:(A.under (.builtin "dict.update.loop" ⟨xs,kw⟩)).units=A.units+1:=by
 first|rfl|simp[Around.under,Code.cUnits,Code.frames,Code.isFrame]
end
section
variable{X:Cx}
theorem Uq{pins:qO}{σ:St}{H:Hp}{s:Shared}{b:Addr}{k:List Key}(I:Inv X pins σ H s)(h:SqT X.K H b (k.map kV)):IsTupleKey (JJ X.prog X.w) s.heap k b:=by
 obtain⟨its,r,⟨o,e,c,n,d⟩,_⟩:=I.tuple h;exact⟨o,its.toArray,n,e,c,d,by simpa using zht r⟩
theorem zic{α β:Type}{F:α->β->Prop}{l₁:List α}{l₂:List β}(r:Paired F l₁ l₂){b:β}(h:b∈l₂):∃a∈l₁,F a b:=by
 induction r with
 | nil=>cases h
 | cons f t ih =>
  rcases List.mem_cons.mp h with rfl|h
  ·exact⟨_,List.mem_cons_self,f⟩
  ·obtain⟨b,hb,g⟩:=ih h;exact⟨b,List.mem_cons_of_mem _ hb,g⟩
end
end L2
namespace Bd
open PySem L2
theorem znH{ts:qD}{lo hi:Option Int}{t:PyData}(h:t∈cutD ts lo hi):t∈ts:=by
 unfold cutD at h;exact List.mem_of_mem_drop (List.mem_of_mem_take h)
theorem znI{ts:qD}{lo hi:Option Int}:(cutD ts lo hi).length<=ts.length:=by
 unfold cutD;rw[List.length_take,List.length_drop];lia
end Bd
namespace L2
open PySem PySem.Spec PyProof PyProof.Rows PySem.W
section
variable{X:Cx}{e:Expr}{x:Str}{pos:Pos}{d:DTE}
def zmT(K:qF):V->List V->Hp->VK->Prop:=fun x vs H Q=>∃l b xs zs,x=.ref l/\vs=[.ref b]/\H l=some (.lst xs)/\SqT K H b zs/\xs.length+zs.length<=sizeLine/\Q .non (upd H l (.lst (xs++zs)))
theorem zj0:MtM X "list.extend" (zmT X.K):=by
 intro pins s σ H x vs v us Q I rx rv h;obtain⟨l,b,xs,zs,rfl,rfl,hH,hB,hz,q⟩:=h;cases rx;obtain⟨u,rfl,ru⟩:=rv.one;cases ru;obtain⟨z,its,n,r,hl,e⟩:=I.lstM hH;obtain⟨its2,r2,⟨o,ho,hc,n2,hd⟩,z2⟩:=I.tuple hB;have lr:=r.length;have lr2:=r2.length;have hsz:its.toArray.size+its2.toArray.size<=sizeLine:=by rw[List.size_toArray,List.size_toArray];lia
 have hlong:¬(!its.toArray.isEmpty&&Builtin.List.listTooLong (its.toArray.size+its2.toArray.size))=true:=by
  rw[znb hsz,Bool.and_false];exact Bool.false_ne_true
 refine wpAny_call_entry F.slot_list_extend ⟨_,e,rfl⟩ F.entry_list_extend ?_ (F.args_list_extend_2 _ _);show wpAny _ _ (Builtin.List.listExtendWith (.ref l) (.ref b) .none) _ _ s
 unfold Builtin.List.listExtendWith;refine wpAny_bind (wpAny_typeOf (T:="tuple") ⟨o,ho,hc⟩ ?_);have h1:(Builtin.List.listSameRef (.ref l) (.ref b)||Value.type "tuple" == Value.type "list" ||Value.type "tuple" == Value.type "tuple")=true:=by simp
 simp only[h1,if_true];refine wpAny_bind ?_;unfold Builtin.List.listItems;refine wpAny_bind (wpAny_seqItems ho hd (wpAny_pure ?_));refine wpAny_bind ?_;refine wpAny_bind (wpAny_seqItems e rfl (wpAny_pure ?_));rw[if_neg hlong];show wpAny _ _ (updateSeq l (·++its2.toArray) >>= fun _=>ret .none) _ _ s
 have hs1:its.toArray.size<=sizeLine:=by rw[List.size_toArray];lia
 have hs2:(its.toArray++its2.toArray).size<=sizeLine+1:=by rw[Array.size_append];lia
 refine wpAny_bind (wpAny_updateSeq e rfl (hz:=hs1) (_hz':=hs2) ?_);refine wpAny_pure ⟨_,rfl,?_⟩;refine⟨.non,_,I.lset (its':=its++its2) hH e (by simp) (r.append r2) ?_,rfl,q⟩
 rw[List.length_append];lia
def Vi(i:Nat)(d:DTE):DTS:=fun D ρ n=>match ρ[i]? with
 | some (some (.own ts))=>d ρ n fun t n'=>lTup t fun us=>ts.length+us.length<=16777216/\D.nx (ρ.set i (some (.own (ts++us)))) n'
 | _=>False
theorem zkc(i:Nat){p1 p2 p3:Pos}(h:DE X e d)(hN:X.N[i]?=some x:=by rfl)(hv:Vis X.env.scope x:=by walk_at "V")(hd:(x == ("__debug__":Str))=false:=by decide)
  (hcd:(x == ("__classdict__":Str))=false:=by decide) (hs:swapsWith (.Call (.Attribute (.Name x p1) "extend" p2) [e] [] p3) none pos.line X.env=pure false:=by rfl)
  (hbase:attributeBase (.Name x p1) "extend" X.env (eval (.Name x p1) X.env)=eval (.Name x p1) X.env:=by rfl)
  (hfew:((backTo p3 (starEach [e] X.env)).all (fun x=>!x.1)&&(backToKw p3 (keywordEach [] X.env)).all (fun x=>x.1.isSome)
   && decide ([e].length+([]:List Keyword).length+(if ([]:List Keyword).isEmpty then 0 else 1)<30))=true:=by rfl)
  (hline:(p2.endLine == p3.line)=true:=by rfl) (hst:starEach [e] X.env=[(false,eval e X.env)]:=by rfl):DS X (.Expr (.Call (.Attribute (.Name x p1) "extend" p2) [e] [] p3) pos) (Vi i d):=by
 obtain⟨ta,pa,h⟩:=h;refine⟨_,zk2 (zqT PySem.F.plainAttrs_list PySem.F.slot_list_extend PySem.F.type_list_extend zj0 (QU hN hv hd hcd) (Q7 pa Ur hst) hbase hfew hline hst rfl) hs,fun C ρ σ H n D D' S hd g=>?_⟩
 unfold Vi at hd;split at hd
 ·rename_i ts et;obtain⟨p,vs,h1,h2,h3,h4⟩:=S.own i ts et;refine⟨.ref p,h1,.inl ⟨rfl,_,SqL.of h2⟩,?_⟩;refine h C ρ σ H n _ _ S hd fun t n' v H' r e1 hn q=>?_
  cases t with
  | tuple us =>
   have S1:=S.on e1 hn;obtain⟨p',vs',h1',h2',h3',h4'⟩:=S1.own i ts et;rw[h1]at h1';cases h1';obtain⟨b,ws,rfl,hb,q⟩:=q.tupI;refine⟨p,b,vs',ws,rfl,rfl,h2',hb,by rw[h3'.length,q.length];exact r.1,?_⟩
   obtain⟨S2,k2⟩:=S1.chg et h1 (h3'.append q);exact g.nx _ _ _ n' r.2 S2 (e1.keep.trans k2)
  | _=>exact r.elim
 ·exact hd.elim
instance zqp {i:Nat}{ρ:En}{n:Nat}{D:DEnds}{xs:qD}[h:GetN ρ i (some (.own xs))]:Stp (Vi i d D ρ n) (d ρ n fun t n'=>lTup t fun us=>xs.length+us.length<=16777216/\SetK i (some (.own (xs++us))) D.nx ρ n'):=⟨fun k=>by
 unfold Vi;rw[h.e];exact k⟩
end
end L2
namespace Bd
open PySem L2
def Dq(K:qF)(mg:qM)(x:Str)(st:Stmt)(ps:List Str):Prop:=∃f fd,Def K mg x st ps f fd
def Fq(P:Program)(w:World)(K:qF)(mg:qM)(base:Heap)(x:Str)(st:Stmt)(ps:List Str)(k:Nat)(sp:Sp):Prop:=∃f fd,Def K mg x st ps f fd/\FnOk P w K mg base CX0 k f fd ps sp
end Bd
namespace L2
open PySem PySem.Spec PyProof.Rows
section
variable{X:Cx}{x:Str}{st:Stmt}{ps:List Str}{k n m:Nat}{g:GD}{e:Expr}{es:List Expr}{ds:DTA}{p pos:Pos}
theorem Ji(F:Bd.Fq X.prog X.w X.K X.mg X.base x st ps k (spD X.K m g))(hr:Room n X.A)(h:DB X (e::es) ds)(hk:k<=n:=by decide)(hm:(e::es).length=m:=by rfl)(hg:Gl X x:=by rfl)
  (hdb:(x == ("__debug__":Str))=false:=by decide):DE X (.Call (.Name x p) (e::es) [] pos) (dFn g ds):=by
 obtain⟨f,fd,D,G⟩:=F;exact zuv D G (hr.mono hk) h hm hg hdb
theorem zof(F:Bd.Fq X.prog X.w X.K X.mg X.base x st ps k (spD X.K m g))(hr:Room n X.A)(h:DBL X (e::es) ds)(hk:k<=n:=by decide)(hm:(e::es).length=m:=by rfl)(hg:Gl X x:=by rfl)
  (hdb:(x == ("__debug__":Str))=false:=by decide):DE X (.Call (.Name x p) (e::es) [] pos) (dFnL g ds):=by
 obtain⟨f,fd,D,G⟩:=F;exact zsg D G (hr.mono hk) h hm hg hdb
end
end L2
namespace Bd
open PySem L2
section
variable{K:qF}{h:Heap}{mg:qM}{x:Str}{st:Stmt}{ps:List Str}
abbrev BndA(x:Str)(st:Stmt)(ps:List Str):Prop:=∀(kV doc pm:Value) (an:Option Addr) (cdv ct:Value) (us:List Value),us.length=ps.length->bindArgs (PySem.W.fnOf x x (Qs st) (Qc st) (Jl st) .none kV doc pm an cdv ct) ⟨us,[]⟩=pure (ps.zip us)
theorem len1:∀{us:List Value},us.length=1->∃a,us=[a]
 | [a],_=>⟨a,rfl⟩
theorem len2:∀{us:List Value},us.length=2->∃a b,us=[a,b]
 | [a,b],_=>⟨a,b,rfl⟩
theorem len3:∀{us:List Value},us.length=3->∃a b c,us=[a,b,c]
 | [a,b,c],_=>⟨a,b,c,rfl⟩
theorem len4:∀{us:List Value},us.length=4->∃a b c d,us=[a,b,c,d]
 | [a,b,c,d],_=>⟨a,b,c,d,rfl⟩
end
end Bd
namespace L2
open PySem PySem.Spec PyProof PyProof.Rows
def ZV(h:Heap)(d:Addr)(es:Array DictEntry)(ep:Nat):Prop:=∃o,h.get? d=some o/\o.ExactDict/\o.data=.dict es ep
def zput(zs:ZT)(k:Int×Int)(b:Addr)(v:V):ZT:=if (zs.any fun z=>decide (z.1=k))=true then zs.map (fun z=>if z.1=k then(z.1,z.2.1,v) else z) else zs++[(k,b,v)]
def putT(ks:KT2)(k:Int×Int)(t:PyData):KT2:=if (ks.any fun z=>decide (z.1=k))=true then ks.map (fun z=>if z.1=k then(z.1,t) else z) else ks++[(k,t)]
def valT(ks:KT2)(k:Int×Int):Option PyData:=(ks.find? fun z=>decide (z.1=k)).map (·.2)
def kL(k:Int×Int):List Key:=[.inl k.1,.inl k.2]
theorem Z4{k k':Int×Int}:kL k=kL k'↔k=k':=by
 constructor
 ·intro h;unfold kL at h
  injection h with h1 h2
  injection h2 with h2 _
  injection h1 with h1
  injection h2 with h2
  exact Prod.ext h1 h2
 ·rintro rfl;rfl
def ZX(z:(Int×Int)×Addr×V)(x:List Key×Addr×Value):Prop:=x.1=kL z.1/\x.2.1=z.2.1/\RelV z.2.2 x.2.2
theorem zkr{zs:ZT}{xs:List (List Key×Addr×Value)}(r:Paired ZX zs xs)(k:Int×Int):(atKey xs (kL k)).isSome=zs.any fun z=>decide (z.1=k):=by
 induction r with
 | nil=>rfl
 | @cons z x zs xs h t ih =>
  by_cases e:z.1=k
  ·have:x.1=kL k:=by rw[h.1,e]
   simp[atKey,List.find?_cons,this,e]
  ·have:¬x.1=kL k:=fun z'=>e (Z4.mp (h.1.symm.trans z'))
   have e2:atKey (x::xs) (kL k)=atKey xs (kL k):=by simp[atKey,List.find?_cons,this]
   rw[e2,ih,List.any_cons,decide_eq_false e,Bool.false_or]
theorem zkp{zs:ZT}{xs:List (List Key×Addr×Value)}(r:Paired ZX zs xs)(k:Int×Int){b:Addr}{v:V}{u:Value}(rv:RelV v u):Paired ZX (zput zs k b v) (storedH xs (kL k) b u):=by
 unfold zput storedH;rw[zkr r k]
 by_cases e:(zs.any fun z=>decide (z.1=k))=true
 ·rw[if_pos e,if_pos e];clear e;induction r with
  | nil=>exact .nil
  | @cons z x zs xs h t ih =>
   refine .cons ?_ ih;unfold putAt;dsimp only
   by_cases e:z.1=k
   ·rw[if_pos e,if_pos (by rw[h.1,e])]
    exact⟨h.1,h.2.1,rv⟩
   ·rw[if_neg e,if_neg (fun z'=>e (Z4.mp (h.1.symm.trans z')))]
    exact h
 ·rw[if_neg e,if_neg e];exact Paired.snoc r ⟨rfl,rfl,rv⟩
theorem zkq{zs:ZT}{xs:List (List Key×Addr×Value)}(r:Paired ZX zs xs):xs.map (·.1)=(zs.map (·.1)).map kL:=by
 induction r with
 | nil=>rfl
 | cons h t ih=>rw[List.map_cons,List.map_cons,List.map_cons,ih,h.1]
theorem zjj{l:qB}:(l.map kL).Nodup↔l.Nodup:=by
 induction l with
 | nil=>simp
 | cons a l ih =>
  rw[List.map_cons,List.nodup_cons,List.nodup_cons,ih];have:kL a∈l.map kL↔a∈l:=by
   constructor
   ·intro h;obtain⟨b,hb,e⟩:=List.mem_map.mp h
    rwa [<- Z4.mp e]
   ·exact List.mem_map_of_mem
  rw[this]
theorem zf6(zs:ZT)(k:Int×Int)(b:Addr)(v:V):(zput zs k b v).length<=zs.length+1:=by
 unfold zput;split
 ·rw[List.length_map];exact Nat.le_succ _
 ·simp
section
variable{P:Program}{w:World}
theorem zuu{z:(Int×Int)×Addr×V}{x:List Key×Addr×Value}(h:ZX z x):entZ z (entryOfKey (tupleKind (JJ P w)) x):=by
 obtain⟨h1,h2,h3⟩:=h;refine⟨?_,?_,h3⟩
 ·show tupleKeyHash (JJ P w) x.1=_
  rw[h1];rfl
 ·show Value.ref x.2.1=_
  rw[h2]
theorem zmC{zs:ZT}{es:List DictEntry}(r:Paired entZ zs es):∃xs:List (List Key×Addr×Value),Paired ZX zs xs/\es=xs.map (entryOfKey (tupleKind (JJ P w))):=by
 induction r with
 | nil=>exact⟨[],.nil,rfl⟩
 | @cons z e zs es h t ih =>
  obtain⟨xs,x1,x2⟩:=ih;obtain⟨h1,h2,h3⟩:=h;refine⟨(kL z.1,z.2.1,e.val)::xs,.cons ⟨rfl,rfl,h3⟩ x1,?_⟩;rw[List.map_cons,<- x2];congr 1;cases e;dsimp only at h1 h2;rw[h1,h2]
  rfl
theorem zr_{zs:ZT}{xs:List (List Key×Addr×Value)}(r:Paired ZX zs xs):Paired entZ zs (xs.map (entryOfKey (tupleKind (JJ P w)))):=by
 induction r with
 | nil=>exact .nil
 | cons h t ih=>exact .cons (zuu h) ih
end
section
variable{X:Cx}{pins:qO}{σ:St}{H:Hp}{s:Shared}{a:Addr}{zs:ZT}{ep:Nat}{A:Around}{E:qV}
theorem Zq(I:Inv X pins σ H s)(h:H a=some (ZDO a zs ep))(hk:∀z∈zs,SqT X.K H z.2.1 [.int z.1.1,.int z.1.2]):(a == sysModules)=false/\zs.length<=sizeLine/\∃xs,Paired ZX zs xs/\s.heap.DictOfH (tupleKind (JJ X.prog X.w)) a xs:=by
 obtain⟨⟨hs,lz,nd,o,es,g1,g2,g3,pr⟩,_⟩:=I.hok a _ h;obtain⟨xs,x1,x2⟩:=zmC (P:=X.prog) (w:=X.w) pr;refine⟨hs,lz,xs,x1,o,es,ep,g1,g2,g3,x2,fun x hx=>?_,?_⟩
 ·obtain⟨z,hz,e1,e2,_⟩:=zic x1 hx;have:=Uq (k:=kL z.1) I (hk z hz);rw[e1,e2];exact this
 ·rw[zkq x1];exact zjj.mpr nd
theorem Zr{H':Hp}{h':Heap}{xs:List (List Key×Addr×Value)}(hs:(a == sysModules)=false)(lz:zs.length<=sizeLine)(r:Paired ZX zs xs)(dd:h'.DictOfH (tupleKind (JJ X.prog X.w)) a xs):∃ep,JL X.prog X.w H' h' a (ZDO a zs ep):=by
 obtain⟨o,es,ep,g1,g2,g3,g4,_,g5⟩:=dd;refine⟨ep,⟨hs,lz,?_,o,es,g1,g2,g3,?_⟩,⟨o,g1⟩,?_⟩
 ·rw[zkq r]at g5;exact zjj.mp g5
 ·rw[g4];exact zr_ r
 ·rintro h1 h2 ⟨x1,x2,x3,o,es,y1,y2⟩ k;exact⟨x1,x2,x3,o,es,k o y1,y2⟩
theorem zkt{k:Int×Int}{b:Addr}{v:V}{r:Value}{Q:Unit->Shared->Prop}(hu:A.units+1<cLine)(I:Inv X pins σ H s)(h:H a=some (ZDO a zs ep))(hk:∀z∈zs,SqT X.K H z.2.1 [.int z.1.1,.int z.1.2])(hb:SqT X.K H b [.int k.1,.int k.2])(hl:zs.length<sizeLine)(rv:RelV v r)
  (hq:∀s' ep',Inv X pins σ (upd H a (ZDO a (zput zs k b v) ep')) s'->Q () s'):wpAny (model X.prog X.w) A (setItem (.ref a) (.ref b) r) Q E s:=by
 obtain⟨hs,lz,xs,x1,dd⟩:=Zq I h hk;have lx:xs.length<=sizeLine:=by rw[<- Paired.length x1];exact lz
 refine wpAny_setItem_heap (hsz:=lx) (tupleKind_room_in1 hu) (Uq (k:=kL k) I hb) dd fun h' dd' hs'=>?_
 have he:∃q,h'.get? a=some q:=let ⟨q,_,_,e,_⟩:=dd';⟨q,e⟩
 have lz':(zput zs k b v).length<=sizeLine:=by have:=zf6 zs k b v;lia
 have ok:∀H':Hp,∃ep',JL X.prog X.w H' h' a (ZDO a (zput zs k b v) ep'):=fun H'=>Zr hs lz' (zkp x1 k rv) dd'
 obtain⟨ep',ok1⟩:=ok H;exact hq _ ep' (zl7 I (by rw[h];exact True.intro) hs' he ok1)
end
section
variable{K:qF}{hd:Option Addr}{O:Addr->Prop}{H:Hp}{zs:ZT}{ks:KT2}
theorem RepsT.sq(r:RepsT K hd O H zs ks):∀z∈zs,SqT K H z.2.1 [.int z.1.1,.int z.1.2]:=by
 intro z hz;induction zs generalizing ks with
 | nil=>cases hz
 | cons y zs ih =>
  cases r with
  | cons h1 h2 r =>
   rcases List.mem_cons.mp hz with rfl|hz
   ·obtain⟨a,vs,e,sq,rp⟩:=h1.tupI;cases e;cases rp with
    | cons x1 x2 =>
     cases x2 with
     | cons x3 x4 =>
      cases x4;rw[x1.intI,x3.intI]at sq;exact sq
   ·exact ih r hz
theorem RepsT.length(r:RepsT K hd O H zs ks):zs.length=ks.length:=by
 induction zs generalizing ks with
 | nil=>cases r;rfl
 | cons y zs ih =>
  cases r with
  | cons h1 h2 r=>rw[List.length_cons,List.length_cons,ih r]
theorem RepsT.keys(r:RepsT K hd O H zs ks):zs.map (·.1)=ks.map (·.1):=by
 induction zs generalizing ks with
 | nil=>cases r;rfl
 | cons y zs ih =>
  cases r with
  | cons h1 h2 r=>rw[List.map_cons,List.map_cons,ih r]
theorem RepsT.snoc{k:Int×Int}{q:Addr}{v:V}{d:PyData}(h:Rep K hd O H (.ref q) (.tuple [.int k.1,.int k.2]))(h2:Rep K hd O H v d):∀{zs:ZT}{ks:KT2},RepsT K hd O H zs ks->RepsT K hd O H (zs++[(k,q,v)]) (ks++[(k,d)])
 | _,_,.nil=>.cons h h2 .nil
 | _,_,.cons a b r=>.cons a b (RepsT.snoc h h2 r)
theorem RepsT.put(r:RepsT K hd O H zs ks)(k:Int×Int){b:Addr}{v:V}{t:PyData}(rb:Rep K hd O H (.ref b) (.tuple [.int k.1,.int k.2]))(rv:Rep K hd O H v t):RepsT K hd O H (zput zs k b v) (putT ks k t):=by
 have ea:(zs.any fun z=>decide (z.1=k))=ks.any fun z=>decide (z.1=k):=by
  have e1:(zs.any fun z=>decide (z.1=k))=(zs.map (·.1)).any fun z=>decide (z=k):=by rw[List.any_map];rfl
  have e2:(ks.any fun z=>decide (z.1=k))=(ks.map (·.1)).any fun z=>decide (z=k):=by rw[List.any_map];rfl
  rw[e1,e2,r.keys]
 unfold zput putT;rw[ea];split
 ·clear ea;rename_i e;clear e;induction zs generalizing ks with
  | nil=>cases r;exact .nil
  | cons y zs ih =>
   cases r with
   | @cons k' q v' d zs ks h1 h2 r =>
    rw[List.map_cons,List.map_cons];dsimp only
    by_cases e:k'=k
    ·rw[if_pos e,if_pos e];exact .cons h1 rv (ih r)
    ·rw[if_neg e,if_neg e];exact .cons h1 h2 (ih r)
 ·exact RepsT.snoc rb rv r
theorem Rep.bkI{v:V}{a b:Int}(h:Rep K hd O H v (.tuple [.int a,.int b])):∃q,v=.ref q/\SqT K H q [.int a,.int b]:=by
 obtain⟨q,vs,rfl,sq,rp⟩:=h.tupI;cases rp with
 | cons x1 x2 =>
  cases x2 with
  | cons x3 x4 =>
   cases x4;rw[x1.intI,x3.intI]at sq;exact⟨q,rfl,sq⟩
end
section
variable{X:Cx}{e e1 e2:Expr}{x:Str}{pos:Pos}{d d1 d2:DTE}
def zs5:TE:=fun _ H Q=>∀p,H p=none->∀ep,Q (.ref p) (upd H p (ZDO p [] ep))
theorem zoO:PE X (.Dict [] [] pos) zs5:=fun pins s σ H Q I h=>by
 have hb:(s.heap.objs.size == sysModules)=false:=beq_eq_false_iff_ne.mpr (Ne.symm (Nat.ne_of_lt I.big));obtain⟨ep,ok⟩:=Zr (X:=X) (H':=H) (zs:=[]) hb (Nat.zero_le _) .nil (Heap.DictOfH.new s.heap);exact wpAny_Dict_empty ⟨.ref s.heap.objs.size,_,I.laid (a:=s.heap.objs.size) (o:=ZDO s.heap.objs.size [] ep) (t':=s.toks) (fun _ _ q=>Heap.get?_push_of_some _ q) (Nat.le_refl _) ok,rfl,h _ (I.hok.fresh (Nat.le_refl _)) ep⟩
def zqq(i:Nat):DTS:=fun D ρ n=>D.nx (ρ.set i (some (.dtt []))) n
theorem zpD{i:Nat}{pos' dp:Pos}(hN:X.N.Nodup)(hi:X.N[i]?=some x)(hx:Loc X.env.scope x)(hs:swapsWith (.Dict [] [] dp) (some (.Name x pos')) pos.line X.env=pure false:=by rfl)(hf:X.fn x=true\/X.env.scope.names.lookup x=some .local:=by walk_at "F") :
  DS X (.Assign [.Name x pos'] (.Dict [] [] dp) pos) (zqq i):=by
 refine⟨_,QV hN hi hx zoO hs hf,fun C ρ σ H n D D' S hd g=>?_⟩
 intro p hp ep;have e1:ExtE C.hd H (upd H p (ZDO p [] ep)):=ExtE.new hp;have hn:Hn C.hd (upd H p (ZDO p [] ep)) n:=S.hnd.same (Qb hp);exact g.nx _ _ _ n hd (S.putNew e1 hn hp ⟨[],ep,JQ,.nil⟩) (zeS e1 hp)
def ztC(K:qF)(td ty tv:TE):TS:=fun D σ H=>tv σ H fun v H1=>td σ H1 fun x H2=>ty σ H2 fun y H3=>∃a zs ep k b,x=.ref a/\y=.ref b/\H3 a=some (ZDO a zs ep)/\(∀z∈zs,SqT K H3 z.2.1 [.int z.1.1,.int z.1.2])/\SqT K H3 b [.int k.1,.int k.2]/\zs.length<sizeLine/\∀ep',D.nx σ (upd H3 a (ZDO a (zput zs k b v) ep'))
theorem zoG{o i value:Expr}{td ty tv:TE}{pos':Pos}(hu:X.A.units+1<cLine)(ho:PE X o td)(hi:PE X i ty)(hv:PE X value tv)(hs:swapsWith value (some (.Subscript o i pos')) pos.line X.env=pure false) :
  PS X (.Assign [.Subscript o i pos'] value pos) (ztC X.K td ty tv):=by
 intro pins s σ H D I h;refine wpAny_Assign_Subscript (thn (hv pins s σ H _ I h) fun r s1 ⟨v,H1,I1,rv,q1⟩=>thn (ho pins s1 σ H1 _ I1 q1) fun u s2 ⟨x,H2,I2,rx,q2⟩=>thn (hi pins s2 σ H2 _ I2 q2) fun iv s3 ⟨y,H3,I3,ry,a,zs,ep,k,b,ex,ey,g,hk,hb,hl,q3⟩=>?_) hs
 subst ex ey;cases(show u=Value.ref a from rx)
 cases(show iv=Value.ref b from ry)
 exact zkt hu I3 g hk hb hl rv fun s4 ep' I4=>⟨σ,_,I4,q3 ep'⟩
def lBlk(y:PyData)(R:Int×Int->Prop):Prop:=∃k:Int×Int,y=.tuple [.int k.1,.int k.2]/\R k
def zot(i:Nat)(dk dv:DTE):DTS:=fun D ρ n=>dv ρ n fun t n1=>match ρ[i]? with
 | some (some (.dtt ks))=>dk ρ n1 fun y n2=>lBlk y fun k=>ks.length<16777216/\D.nx (ρ.set i (some (.dtt (putT ks k t)))) n2
 | _=>False
theorem zpC(i:Nat){p1 pos':Pos}(hr:X.A.units+1<cLine)(h1:DE X e1 d1)(h2:DE X e2 d2)(hN:X.N[i]?=some x:=by rfl)(hv:Vis X.env.scope x:=by walk_at "V")(hd:(x == ("__debug__":Str))=false:=by decide)
  (hcd:(x == ("__classdict__":Str))=false:=by decide) (hs:swapsWith e2 (some (.Subscript (.Name x p1) e1 pos')) pos.line X.env=pure false:=by rfl) :
  DS X (.Assign [.Subscript (.Name x p1) e1 pos'] e2 pos) (zot i d1 d2):=by
 obtain⟨t1,pa1,h1⟩:=h1;obtain⟨t2,pa2,h2⟩:=h2;refine⟨_,zoG hr (QU hN hv hd hcd) pa1 pa2 hs,fun C ρ σ H n D D' S hd g=>?_⟩
 refine h2 C ρ σ H n _ _ S hd fun t n1 v H1 r e1 hn1 q=>?_
 have S1:=S.on e1 hn1;split at r
 ·rename_i ks et;obtain⟨p,zs,ep,s1,s2,s3,s4⟩:=S1.dtt i ks et;refine⟨.ref p,s1,?_⟩;refine h1 C ρ σ H1 n1 _ _ S1 r fun y n2 w H2 r2 e2 hn2 q2=>?_
  have S2:=S1.on e2 hn2;obtain⟨p',zs',ep',u1,u2,u3,u4⟩:=S2.dtt i ks et;rw[s1]at u1;cases u1;obtain⟨k,rfl,hl,r2⟩:=r2;obtain⟨b,rfl,sb⟩:=q2.bkI;have q':=e2.rep S.hx q;refine⟨p,zs',ep',k,b,rfl,rfl,u2,u3.sq,sb,by rw[u3.length];exact hl,fun e3=>?_⟩
  obtain⟨S3,k3⟩:=S2.chgC (c':=.dtt (putT ks k t)) rfl rfl et s1 fun O' H' a b hp=>⟨_,_,hp,(u3.put k q2 q').mono a b⟩
  exact g.nx _ _ _ n2 r2 S3 ((e1.keep.trans e2.keep).trans k3)
 ·exact r.elim
end
section
variable{D:DEnds}{ρ ρ':En}{n i j:Nat}{d dk dv:DTE}{R:qN}{ks:KT2}
instance zuz:Stp (zqq i D ρ n) (SetK i (some (.dtt [])) D.nx ρ n):=⟨fun h=>h⟩
instance zuy [h:GetN ρ i (some (.dtt ks))]:Stp (zot i dk dv D ρ n) (dv ρ n fun t n1=>dk ρ n1 fun y n2=>lBlk y fun k=>ks.length<16777216/\SetK i (some (.dtt (putT ks k t))) D.nx ρ n2):=⟨fun k=>by
 unfold zot;rw[h.e];exact k⟩
instance zu0 {a b:Int}{Q:Int×Int->Prop}:Stp (lBlk (.tuple [.int a,.int b]) Q) (Q (a,b)):=⟨fun h=>⟨(a,b),rfl,h⟩⟩
end
section
variable{prog:Program}{w:World}{A:Around}{E:qV}
theorem PrT.keepL{h h':Heap}{x:Value}{z:List Key×Addr×Value}(d it:Addr)(hd:∃o,h.get? d=some o/\o.cls=.type "dict") (hi:∃o,h.get? it=some o/\o.cls=.type "list_iterator") (r:PrT prog w h x z) (kp:KpH d it h h'):PrT prog w h' x z:=by
 obtain⟨p,e,tp,tk⟩:=r;refine⟨p,e,?_,Ve tk fun o=>kp _ o (ZY tk hd (by decide)) (ZY tk hi (by decide))⟩
 have n1:=tup_ne tp hd (by decide)
 have n2:=tup_ne tp hi (by decide)
 obtain⟨o,g,c⟩:=tp;exact⟨o,kp p o n1 n2 g,c⟩
theorem zjB{h h':Heap}{d it:Addr}{xs:List (List Key×Addr×Value)}(hd:h.DictOfH (tupleKind (JJ prog w)) d xs)(hi:∃o,h.get? it=some o/\o.cls=.type "list_iterator") (kp:∀b o,b≠it->h.get? b=some o->h'.get? b=some o) (ndi:d≠it):h'.DictOfH (tupleKind (JJ prog w)) d xs:=by
 obtain⟨o,es,ep,ho,hc,hd,he,his,hn⟩:=hd;exact⟨o,es,ep,kp d o ndi ho,hc,hd,he,fun x hx=>Ve (his x hx) fun o e=>kp _ o (ZY (his x hx) hi (by decide)) e,hn⟩
def mkX(xs ps:List (List Key×Addr×Value)):List (List Key×Addr×Value):=ps.foldl (fun acc z=>storedH acc z.1 z.2.1 z.2.2) xs
theorem zh6(xs:List (List Key×Addr×Value))(k:List Key)(a:Addr)(v:Value):(storedH xs k a v).length<=xs.length+1:=by
 unfold storedH;split
 ·rw[List.length_map];exact Nat.le_succ _
 ·simp
theorem zgT{d it l:Addr}{items:Array Value}{res:Value}(hA:A.handled=none)(hu:A.units+1<cLine)(ndi:d≠it)(nl:l≠d)(nli:l≠it):∀(ps:List (List Key×Addr×Value)) (i:Nat) (xs:List (List Key×Addr×Value)) (s:Shared) (t:Tok) {R:Result->Shared->Prop},
  s.heap.IsList l items->s.heap.IsListIter it l i->s.heap.DictOfH (tupleKind (JJ prog w)) d xs->xs.length+ps.length<=sizeLine->Paired (PrT prog w s.heap) (items.toList.drop i) ps ->
  (∀h' tk,KpH d it s.heap h'->h'.DictOfH (tupleKind (JJ prog w)) d (mkX xs ps)->R (.ok (.ret res)) { s with heap:=h',toks:=tk }) ->
  codeAny (model prog w) A (.builtin "dict.update.loop" ⟨[.ref d,.ref it,.int i t,res],[]⟩) R s
 | [],i,xs,s,t,R,hl,hi,hd,hz,hp,h=>by
  have e:items[i]?=none:=by
   generalize hq:items.toList.drop i=q at hp;cases hp;have:=List.drop_eq_nil_iff.mp hq;exact Array.getElem?_eq_none (by simpa using this)
  refine codeAny_builtin zcU ?_;show wpAny _ _ (pyNext (.ref it) >>= _) _ _ s
  refine wpAny_bind (wpAny_pyNext_list_end hA hi hl e fun h' hx=>?_)
  show wpAny _ _ (Builtin.Dict.addKeywords d [] >>= fun _=>ret res) _ _ _
  unfold Builtin.Dict.addKeywords;rw[List.forIn_nil];obtain⟨oi,gi,ci,_⟩:=id hi;exact wpAny_bind (wpAny_pure (wpAny_pure (h h' s.toks (fun b o _ n ho=>hx b o n ho) (zjB hd ⟨oi,gi,ci⟩ (fun b o n e=>hx b o n e) ndi))))
 | (k,a,v)::ps,i,xs,s,t,R,hl,hi,hd,hz,hp,h=>by
  generalize hq:items.toList.drop i=q at hp;cases hp with
  | cons r rs =>
   rename_i x xs';have hi':∃o,s.heap.get? it=some o/\o.cls=.type "list_iterator":=by obtain⟨oi,gi,ci,_⟩:=id hi;exact⟨oi,gi,ci⟩
   obtain⟨p,rfl,tp,ki⟩:=r;have np:=tup_ne tp (zlZ hd) (by decide)
   have npi:=tup_ne tp hi' (by decide)
   obtain⟨o,ho,oc,n,od⟩:=id tp;have hlt:i<items.toList.length:=by
    by_cases z:i<items.toList.length
    ·exact z
    ·rw[List.drop_of_length_le (by lia)]at hq;cases hq
   rw[List.drop_eq_getElem_cons hlt]at hq;obtain⟨e1,e2⟩:=List.cons.inj hq;have e:items[i]?=some (.ref p):=by rw[<- e1,<- Array.getElem?_toList];exact List.getElem?_eq_getElem hlt
   refine codeAny_builtin zcU ?_;show wpAny _ _ (pyNext (.ref it) >>= _) _ _ s
   refine wpAny_bind (wpAny_pyNext_list_item hi hl e fun h1 hi1 hs1=>?_)
   refine wpAny_bind (wpAny_holding ?_);have ho1:h1.get? p=some o:=(hs1.2 p npi).trans ho;have hT:(⟨h1,s.gens,s.drawn,s.toks,s.os⟩:Shared).TypeIs (.ref p) "tuple":=⟨o,ho1,oc⟩;refine wpAny_bind (wpAny_tryCatch ?_);unfold Builtin.Dict.pairItems;refine wpAny_bind (wpAny_typeOf hT ?_);rw[if_pos (by rfl)]
   refine wpAny_bind (wpAny_seqItems ho1 od (wpAny_pure ?_));show wpAny _ _ (holding [.ref a,v] (dictSet d (.ref a) v)) _ _ _
   have kp1:KpH d it s.heap h1:=fun b ob _ n hb=>(hs1.2 b n).trans hb
   have hd1:=zjB hd hi' (fun b ob n hb=>(hs1.2 b n).trans hb) ndi
   have ki1:IsTupleKey (JJ prog w) h1 k a:=Ve ki fun ob hb=>(hs1.2 a (ZY ki hi' (by decide))).trans hb
   rw[List.length_cons]at hz;refine wpAny_holding (wpAny_dictSet_heap (s:=⟨h1,s.gens,s.drawn,s.toks,s.os⟩) (knd:=tupleKind (JJ prog w)) (by show Around.units _<cLine;rw[zky];exact hu) ki1 hd1 (fun h2 hd2 hs2=>?_) (by lia))
   have kp2:KpH d it h1 h2:=fun b ob n _ hb=>(hs2.2 b n).trans hb
   refine wpAny_pure ⟨Code.quiet_builtin _ (by decide +kernel),?_⟩
   have kp:KpH d it s.heap h2:=fun b ob n1 n2 hb=>kp2 b ob n1 n2 (kp1 b ob n1 n2 hb)
   refine zgT (items:=items) hA hu ndi nl nli ps (i+1) (storedH xs k a v) _ 0 ?_ ?_ hd2 ?_ ?_ fun h' tk kp' hd'=>?_
   ·obtain⟨ol,hol,r⟩:=hl;exact⟨ol,kp l ol nl nli hol,r⟩
   ·obtain⟨oi,hoi,r⟩:=hi1;exact⟨oi,(hs2.2 it (Ne.symm ndi)).trans hoi,r⟩
   ·have:=zh6 xs k a v;lia
   ·rw[e2];exact Paired.mapP rs fun _ _ r=>r.keepL d it (zlZ hd) hi' kp
   ·exact h h' tk (fun b ob n1 n2 hb=>kp' b ob n1 n2 (kp b ob n1 n2 hb)) hd'
theorem ze_{s:Shared}{l:Addr}{o:Obj}{its:Array Value}{n:Nat}{ps:List (List Key×Addr×Value)}{Q:qV}(ho:s.heap.get? l=some o)(hc:o.cls=.type "list") (hq:o.data=.seq its n) (hd:o.dict=none) (hA:A.handled=none) (hu:A.units+64<cLine)
  (hp:Paired (PrT prog w s.heap) its.toList ps) (hz:ps.length<=sizeLine)
  (h:∀h' tk,(∀b ob,s.heap.get? b=some ob->h'.get? b=some ob)->h'.DictOfH (tupleKind (JJ prog w)) s.heap.objs.size (mkX [] ps)->Q (.ref s.heap.objs.size) { s with heap:=h',toks:=tk }) :
  wpAny (model prog w) A (call (.type "dict") [.ref l]) Q E s:=by
 refine callType_codes (Q₁:=fun obj s₁=>obj=.ref s.heap.objs.size/\s₁={ s with heap:=s.heap.push { cls:=.type "dict",data:=.dict #[] } }) F.kt_called_dict (F.kt_typeCall_dict_1 _) F.entry_dict_init (kt_code_dict_new _ ⟨rfl,rfl⟩) ?_
 rintro obj s₁ ⟨rfl,rfl⟩;have hnew:(s.heap.push { cls:=.type "dict",data:=.dict #[] }).DictOfH (tupleKind (JJ prog w)) s.heap.objs.size []:=Heap.DictOfH.new s.heap;have ho':(s.heap.push { cls:=.type "dict",data:=.dict #[] }).get? l=some o:=Heap.get?_push_of_some _ ho;have hnt:=hnew.typeIs (s:={ s with heap:=s.heap.push { cls:=.type "dict",data:=.dict #[] } })
 refine⟨hnt,F.args_dict_init_2 _ _,?_⟩;unfold Builtin.«dict.__init__»;refine wpAny_bind ?_;unfold Builtin.Dict.selfAndRest;refine wpAny_bind (wpAny_notOrdered_dict hnt ?_);show wpAny _ _ (pure (s.heap.objs.size,[Value.ref l])) _ _ _
 refine wpAny_pure ?_;show wpAny _ _ (Builtin.Dict.updateFrom "dict.__init__" s.heap.objs.size (.ref l) [] .none) _ _ _
 unfold Builtin.Dict.updateFrom;refine wpAny_bind (wpAny_typeOf (T:="list") ⟨o,ho',hc⟩ ?_);rw[if_pos (by rfl)]
 refine wpAny_bind (zfj ho' hc ⟨its,n,hq⟩ hd hA fun h1 tk1 k1=>?_)
 rw[if_pos (show(none:Option Value).isNone=true from rfl)]
 refine wpAny_bind (wpAny_rule ?_);have ho1:=k1 l o ho';have hl1:h1.IsList l its:=⟨o,ho1,hc,n,hq⟩;refine wpAny_bind (wpAny_pyIter_list hl1 ?_);refine wpAny_pure ⟨Code.quiet_builtin _ (by decide +kernel),?_⟩
 obtain⟨od,es,ep,hod,rd⟩:=hnew;have hod1:=k1 _ od hod;have l1:=Heap.lt_size hod1;have l2:=Heap.lt_size ho;have l3:=Heap.lt_size ho1;have kk:∀b ob,s.heap.get? b=some ob->(h1.push { cls:=.type "list_iterator",data:=.fields #[.ref l,.int 0 0] }).get? b=some ob:=fun b ob hb=>Heap.get?_push_of_some _ (k1 b ob (Heap.get?_push_of_some _ hb))
 refine zgT (A:=A.in1) (items:=its) (xs:=[]) (i:=0) (ps:=ps) (show A.in1.handled=none from hA) (show A.units+1+1<cLine by lia) (Nat.ne_of_lt l1) (Nat.ne_of_lt l2) (Nat.ne_of_lt l3) _ 0 ?_ ?_ ?_ (by simpa using hz) ?_ fun h' tk kp hd'=>?_
 ·exact⟨o,Heap.get?_push_of_some _ ho1,hc,n,hq⟩
 ·exact⟨_,Heap.get?_push_size _ rfl,rfl,rfl⟩
 ·exact⟨od,es,ep,Heap.get?_push_of_some _ hod1,rd.1,rd.2.1,rd.2.2.1,by simp,by simp⟩
 ·rw[List.drop_zero];refine Paired.mapP hp fun x z ⟨p,e,tp,tk⟩=>⟨p,e,?_,Ve tk fun ob=>kk _ ob⟩
  obtain⟨ob,hob,r⟩:=tp;exact⟨ob,kk p ob hob,r⟩
 ·exact⟨rfl,h h' tk (fun b ob hb=>kp b ob (Nat.ne_of_lt (Heap.lt_size hb)) (Nat.ne_of_lt (Nat.lt_trans (Heap.lt_size hb) l1)) (kk b ob hb)) hd'⟩
theorem zoB{s:Shared}{d:Addr}{es:Array DictEntry}{ep:Nat}{Q:qV}(hs:(d == sysModules)=false)(hm:ZV s.heap d es ep)(hz:es.size<=sizeLine)(h:∀t tk,Q (.int es.size t) { s with toks:=tk }):wpAny (model prog w) A (call (.builtin "len") [.ref d]) Q E s:=by
 obtain⟨o,g1,g2,g3⟩:=hm;have ty:s.TypeIs (.ref d) "dict":=⟨o,g1,g2.1⟩;have hl:sizeLine=16777216:=sizeLine_eq;refine Calls.call_function_entry kind_len plain_len entry_len (args_len1 _) ?_;unfold Builtin.«len»;refine wpAny_bind (m:=oneArg "len" _) (wpAny_pure (wpAny_bind (m:=callSpecial? (.ref d) (Str.ofString "__len__")) ?_));refine wpAny_callSpecial?_slot (name:=Str.ofString "__len__") ty PySem.F.slot_dict_len ?_
 refine wpAny_call_entry PySem.F.slot_dict_len ty PySem.F.entry_dict_len ?_ (PySem.F.args_dict_len_1 _);show wpAny _ _ (dictSize d >>= _) _ _ s
 unfold dictSize;refine wpAny_bind (wpAny_bind (wpAny_dictEntries g1 g3 (wpAny_pure ?_)));show wpAny _ _ (Builtin.Dict.pendingCount d >>= _) _ _ s
 refine wpAny_bind (wpAny_pendingCount_other hs (wpAny_ret_mkInt ?_));rw[show((es.size:Int)+((0:Nat):Int))=(es.size:Int) from by simp]
 refine wpAny_bind (wpAny_holding (wpAny_pure (wpAny_bind (wpAny_letGo ?_))));show wpAny _ _ (if ((es.size:Nat):Int)<0 then _ else _) _ _ _
 rw[if_neg (by lia)]
 show wpAny _ _ (if ((es.size:Nat):Int)>=2 ^ 63 then _ else _) _ _ _
 rw[if_neg (by lia)]
 exact wpAny_bind (wpAny_mkInt (wpAny_pure ⟨_,rfl,h _ _⟩))
end
def mkZ(zs:ZT):ZT:=zs.foldl (fun acc z=>zput acc z.1 z.2.1 z.2.2) []
def mkT(ks:KT2):KT2:=ks.foldl (fun acc z=>putT acc z.1 z.2) []
def KZp(K:qF)(H:Hp)(x:V)(z:(Int×Int)×Addr×V):Prop:=∃a,x=.ref a/\SqT K H a [.ref z.2.1,z.2.2]/\SqT K H z.2.1 [.int z.1.1,.int z.1.2]
section
variable{X:Cx}
theorem zok{zs zs':ZT}{ps xs:List (List Key×Addr×Value)}(r:Paired ZX zs ps)(a:Paired ZX zs' xs):Paired ZX (zs.foldl (fun acc z=>zput acc z.1 z.2.1 z.2.2) zs') (mkX xs ps):=by
 induction r generalizing zs' xs with
 | nil=>exact a
 | @cons z x zs ps h t ih =>
  unfold mkX;rw[List.foldl_cons,List.foldl_cons];have:Paired ZX (zput zs' z.1 z.2.1 z.2.2) (storedH xs x.1 x.2.1 x.2.2):=by
   rw[h.1,h.2.1];exact zkp a z.1 h.2.2
  exact ih this
theorem zo7(zs:ZT):(mkZ zs).length<=zs.length:=by
 have key:∀(zs acc:ZT),(zs.foldl (fun acc z=>zput acc z.1 z.2.1 z.2.2) acc).length<=acc.length+zs.length:=by
  intro zs;induction zs with
  | nil=>intro acc;simp
  | cons z zs ih =>
   intro acc;have:=ih (zput acc z.1 z.2.1 z.2.2);have:=zf6 acc z.1 z.2.1 z.2.2;rw[List.foldl_cons,List.length_cons];lia
 simpa[mkZ] using key zs []
theorem zlf{pins:qO}{σ:St}{H:Hp}{s:Shared}(I:Inv X pins σ H s):∀{vs:List V}{its:List Value}{zs:ZT},Vals vs its->Paired (KZp X.K H) vs zs ->
  ∃ps:List (List Key×Addr×Value),Paired ZX zs ps/\Paired (PrT X.prog X.w s.heap) its ps
 | [],_,_,r,h=>by cases r;cases h;exact⟨[],.nil,.nil⟩
 | v::vs,_,_,r,h=>by
  cases r with
  | cons r1 r2 =>
   cases h with
   | @cons _ z _ zs h1 h2 =>
    obtain⟨a,rfl,sq,sk⟩:=h1;obtain⟨ps,k1,k2⟩:=zlf I r2 h2;obtain⟨its2,rv,it,_⟩:=I.tuple sq;cases rv with
    | cons q1 q2 =>
     cases q2 with
     | cons q3 q4 =>
      cases q4;rename_i u w;cases(show _=Value.ref a from r1)
      cases(show _=Value.ref z.2.1 from q1)
      exact⟨(kL z.1,z.2.1,w)::ps,.cons ⟨rfl,rfl,q3⟩ k1,.cons ⟨a,rfl,it,Uq (k:=kL z.1) I sk⟩ k2⟩
theorem zki(hc:X.calm=true)(hu:X.A.units+64<cLine):JU X (.type "dict") (fun xs H Q=>∃(p:Addr) (vs:List V) (zs:ZT),xs=[.ref p]/\H p=some (.lst vs)/\Paired (KZp X.K H) vs zs/\∀l ep,H l=none->Q (.ref l) (upd H l (ZDO l (mkZ zs) ep))):=by
 intro pins s σ H xs us Q I r h;obtain⟨p,vs,zs,rfl,hp,pr,q⟩:=h;obtain⟨u,rfl,ru⟩:=r.one;cases(show u=Value.ref p from ru)
 obtain⟨lz,its,n,rel,g⟩:=I.hok p _ hp;obtain⟨ps,k1,k2⟩:=zlf I rel pr;have lp:zs.length=vs.length:=(Paired.length pr).symm;have l2:ps.length=zs.length:=(Paired.length k1).symm;refine ze_ (A:=X.A) (its:=its.toArray) (ps:=ps) g rfl rfl rfl (I.ok.hd hc) hu (by simpa using k2) (by lia) fun h' tk kp dd=>?_
 have hb:(s.heap.objs.size == sysModules)=false:=beq_eq_false_iff_ne.mpr (Ne.symm (Nat.ne_of_lt I.big));have lm:(mkZ zs).length<=sizeLine:=by have:=zo7 zs;lia
 obtain⟨ep,ok⟩:=Zr (X:=X) (H':=H) hb lm (zok k1 .nil) dd;exact⟨.ref s.heap.objs.size,_,I.laid (a:=s.heap.objs.size) (o:=ZDO s.heap.objs.size (mkZ zs) ep) (t':=tk) kp (Nat.le_refl _) ok,rfl,q _ ep (I.hok.fresh (Nat.le_refl _))⟩
theorem zhK:JU X (.builtin "len") (fun xs H Q=>∃a zs ep,xs=[.ref a]/\H a=some (ZDO a zs ep)/\Q (.int zs.length) H):=by
 intro pins s σ H xs us Q I r h;obtain⟨a,zs,ep,rfl,ha,q⟩:=h;obtain⟨u,rfl,rx⟩:=vals1 r;cases rx;obtain⟨⟨hs,lz,nd,o,es,g1,g2,g3,pr⟩,_⟩:=I.hok a _ ha;have el:es.size=zs.length:=by have:=Paired.length pr;simpa using this.symm
 refine zoB (es:=es) (ep:=ep) hs ⟨o,g1,g2,g3⟩ (by lia) fun t tk=>⟨.int zs.length,H,I.tok tk,⟨t,by rw[el]⟩,q⟩
end
def prT(q:(Int×Int)×PyData):PyData:=.tuple [.tuple [.int q.1.1,.int q.1.2],q.2]
theorem zi_{K:qF}{hd:Option Addr}{O:Addr->Prop}{H:Hp}:∀{vs:List V}{ks:KT2},Reps K hd O H vs (ks.map prT)->∃zs:ZT,Paired (KZp K H) vs zs/\RepsT K hd O H zs ks
 | _,[],r=>by cases r;exact⟨[],.nil,.nil⟩
 | _,a::ks,r=>by
  cases r with
  | cons h r =>
   obtain⟨zs,z1,z2⟩:=zi_ r;obtain⟨b,ws,rfl,sq,rp⟩:=h.tupI;cases rp with
   | cons x1 x2 =>
    cases x2 with
    | cons x3 x4 =>
     cases x4;obtain⟨q,rfl,sq2⟩:=x1.bkI;exact⟨(a.1,q,_)::zs,.cons ⟨b,rfl,sq,sq2⟩ z1,.cons x1 x3 z2⟩
theorem zfB{K:qF}{hd:Option Addr}{O:Addr->Prop}{H:Hp}:∀{zs:ZT}{ks:KT2}{zs':ZT}{ks':KT2},RepsT K hd O H zs ks->RepsT K hd O H zs' ks'->RepsT K hd O H (zs.foldl (fun acc z=>zput acc z.1 z.2.1 z.2.2) zs') (ks.foldl (fun acc z=>putT acc z.1 z.2) ks')
 | _,_,_,_,.nil,a=>a
 | _,_,_,_,.cons (zs:=zs) (ks:=ks) h1 h2 r,a=>zfB (zs:=zs) (ks:=ks) r (a.put _ h1 h2)
end L2
namespace L2
open PySem
abbrev RL:=List ((Int×Int)×Int)
end L2
namespace Bd
open PySem PySem.W PySem.Calls L2 PyProof.Rows
structure ZZ where
 P:Program
 w:World
 K:qF
 mg:Str->Option Value
 base:Heap
def FQ(Z:ZZ)(x:Str)(st:Stmt)(ps:List Str)(k:Nat)(sp:Sp):Prop:=Fq Z.P Z.w Z.K Z.mg Z.base x st ps k sp
theorem okQ{Z:ZZ}{x:Str}{st:Stmt}{ps N:List Str}{k m:Nat}{g:GD}(D:Dq Z.K Z.mg x st ps)(S:FnScope N ps (Jl st))(hm:m=ps.length)
  (hb:∀(f:Addr) (cdv:Value) (A:Around) (outer:List Env) (s:Shared) (H:Hp) (E:XK),Room k (A.deeper (envOfC x (Jl st) s.heap.objs.size f cdv))->∃d,DSs (cxOf CX0 Z.P Z.w Z.K Z.mg Z.base N x (Jl st) f cdv A outer s H E).nox (Qc st) d /\
   ∀ts n R,ts.length=m->g ts n R->d { nx:=fun _ n'=>R .none n',rt:=R } (JX N ts) n):FQ Z x st ps (k+1) (spD Z.K m g):=by
 obtain⟨f,fd,D⟩:=D;exact⟨f,fd,D,D.okD S hm fun cdv A outer s H E hr=>hb f cdv A outer s H E hr⟩
theorem bnd1{x:Str}{st:Stmt}{a:Str}(h:∀(kV doc pm:Value) (an:Option Addr) (cdv ct u:Value),bindArgs (PySem.W.fnOf x x (Qs st) (Qc st) (Jl st) .none kV doc pm an cdv ct) ⟨[u],[]⟩=pure [(a,u)]):BndA x st [a]:=fun _ _ _ _ _ _ us hl=>by obtain⟨_,rfl⟩:=len1 hl;exact h ..
theorem bnd2{x:Str}{st:Stmt}{a b:Str}(h:∀(kV doc pm:Value) (an:Option Addr) (cdv ct u v:Value),bindArgs (PySem.W.fnOf x x (Qs st) (Qc st) (Jl st) .none kV doc pm an cdv ct) ⟨[u,v],[]⟩=pure [(a,u),(b,v)]):BndA x st [a,b]:=fun _ _ _ _ _ _ us hl=>by obtain⟨_,_,rfl⟩:=len2 hl;exact h ..
theorem bnd3{x:Str}{st:Stmt}{a b c:Str}(h:∀(kV doc pm:Value) (an:Option Addr) (cdv ct u v y:Value),bindArgs (PySem.W.fnOf x x (Qs st) (Qc st) (Jl st) .none kV doc pm an cdv ct) ⟨[u,v,y],[]⟩=pure [(a,u),(b,v),(c,y)]):BndA x st [a,b,c]:=fun _ _ _ _ _ _ us hl=>by obtain⟨_,_,_,rfl⟩:=len3 hl;exact h ..
theorem bnd4{x:Str}{st:Stmt}{a b c d:Str}(h:∀(kV doc pm:Value) (an:Option Addr) (cdv ct u v y z:Value),bindArgs (PySem.W.fnOf x x (Qs st) (Qc st) (Jl st) .none kV doc pm an cdv ct) ⟨[u,v,y,z],[]⟩=pure [(a,u),(b,v),(c,y),(d,z)]):BndA x st [a,b,c,d]:=fun _ _ _ _ _ _ us hl=>by obtain⟨_,_,_,_,rfl⟩:=len4 hl;exact h ..
def Qj(h:Heap):qF:=(List.range h.objs.size).filterMap fun a=>(h.get? a).map fun o=>(a,o)
theorem zly{h:Heap}:∀{as:List Addr}{a:Addr},a∈as->(as.filterMap fun a=>(h.get? a).map fun o=>(a,o)).lookup a=h.get? a\/h.get? a=none
 | [],_,m=>nomatch m
 | b::as,a,m=>by
  by_cases e:a=b
  ·subst e;cases g:h.get? a with
   | none=>exact .inr rfl
   | some o=>exact .inl (by rw[List.filterMap_cons];simp[g,List.lookup_cons])
  ·have m':a∈as:=(List.mem_cons.mp m).resolve_left e;rcases zly (h:=h) m' with z|z
   ·refine .inl ?_;rw[List.filterMap_cons];cases g:h.get? b with
    | none=>exact z
    | some o =>
     have:(a == b)=false:=by simpa using e
     simp only[Option.map_some];rw[List.lookup_cons,this];exact z
   ·exact .inr z
theorem zda{h:Heap}{a:Addr}{o:Obj}(e:h.get? a=some o):(Qj h).lookup a=some o:=by
 have m:a∈List.range h.objs.size:=List.mem_range.mpr (Heap.lt_size e);rcases zly (h:=h) m with z|z
 ·exact z.trans e
 ·rw[e]at z;cases z
theorem zkv{h:Heap}:(Qj h).In h:=fun a o e=>by
 have key:∀(as:List Addr),(as.filterMap fun a=>(h.get? a).map fun o=>(a,o)).lookup a=some o->h.get? a=some o:=by
  intro as;induction as with
  | nil=>intro z;cases z
  | cons b as ih =>
   intro z;rw[List.filterMap_cons]at z;cases g:h.get? b with
   | none=>rw[g]at z;exact ih z
   | some ob =>
    rw[g]at z;simp only[Option.map_some,List.lookup_cons]at z;cases q:a == b with
    | true=>rw[q]at z;cases z;rw[eq_of_beq q];exact g
    | false=>rw[q]at z;exact ih z
 exact key _ e
def Z3:Stmt->Bool
 | .FunctionDef ..=>true
 | _=>false
def defName:Stmt->Str
 | .FunctionDef n _ _ _ _ _ _ _ _ _=>n
 | _=>Str.ofString ""
def zse:Stmt->Pos
 | .FunctionDef _ _ _ _ _ _ _ _ _ p=>p
 | _=>⟨0,0,0,0⟩
def recD(st:Stmt):DefRec:=⟨defName st,Qs st,Qc st,Jl st,zse st⟩
theorem getD_mem{l:List Stmt}{i:Nat}(h:Z3 (l.getD i (.Pass ⟨0,0,0,0⟩))=true):l.getD i (.Pass ⟨0,0,0,0⟩)∈l:=by
 rw[List.getD_eq_getElem?_getD]at h ⊢;cases e:l[i]? with
 | none=>rw[e]at h;cases h
 | some s=>exact List.mem_of_getElem? e
section
variable{q:Program}{loose:List Str}{mean:ExcName->Option Value}{mg mb:qM}{h:Heap}{x:Str}{st:Stmt}{ps:List Str}
theorem zme{cd:Value}{n:Str}(c:h.CodeRec cd n):PySem.W.codeIn (Qj h) cd n=true:=by
 obtain⟨a,o,vs,t,rfl,g,d,e⟩:=c;unfold PySem.W.codeIn;dsimp only;rw[zda g];obtain⟨oc,od,dd,sl⟩:=o;cases(show dd=_ from d)
 have l2:vs.toList[1]?=some (.str n t):=by simpa using e
 dsimp only
 match hv:vs.toList,l2 with
 | [],l2=>simp at l2
 | [_],l2=>simp at l2
 | a::b::r,l2 =>
  have:b=.str n t:=by simpa using l2
  subst this;simp
theorem dq_g(T:Top q loose mean mg mb h)(hd:recD st∈recsOf q)(hn:defName st=x)(hb:BndA x st ps):Dq (Qj h) mg x st ps:=by
 obtain⟨a,o,pm,cd,doc,h1,h2,h3,h4⟩:=T.fn _ hd;have h1:mg (defName st)=some (.ref a):=h1;have h4:h.CodeRec cd (defName st):=h4;rw[hn]at h1 h4;obtain⟨oc,od,dd,sl⟩:=o;have h3:dd=.func (docDef (defName st) (Qs st) (Qc st) (Jl st) pm cd doc):=h3;rw[hn]at h3;have l:(Qj h).lookup a=some ⟨oc,od,.func (PySem.W.fnOf x x (Qs st) (Qc st) (Jl st) .none .none doc pm none cd .none),sl⟩:=by
  rw[zda h2,h3];rfl
 have kp:PySem.W.keepIn (Qj h) (.ref a)=true:=by
  unfold PySem.W.keepIn;dsimp only;rw[l]
 exact⟨a,_,zoa l (zme h4) kp,(zoa l (zme h4) kp).binds hb,h1⟩
end
theorem zs2{lw:PySem.W.OpenLaw}{q:Program}{loose:List Str}{XP:(Str->Option Value)->Heap->Prop}{YP:World->Heap->Prop}{d:DefRec}{k:Nat}(hk:k<=60)(hn:lw.most=some 63)(hdf:d.params.defaults=[])
  (F:∀(w:World) (s₀:Shared) (mg mb:qM) (fa:Addr) (h:Heap),Ground q loose [] XP w s₀ mg mb h->mg d.name=some (.ref fa) ->
   ∃fd:FuncData,(∀(s:Shared) (u:Value),BindsTo s fd ⟨[u],[]⟩ [("_law_script",u)])/\∀base:Heap,(Qj h).In base->base.Ns mainGlobals mg->FnOk lw.prog w (Qj h) mg base CX0 k fa fd ["_law_script"] (zop (Qj h))) :
  PySem.W.WalkO q loose XP YP lw.row.toRowW d [] (fun f vs=>PySem.call f vs):=by
 refine Att.attach_call hn hdf fun w s₀ s₁ mg mb fa o pm cd doc a vs ns G Y ho hd hcd hmg hobj hints hlen hg=>?_
 obtain⟨fd,hb,hF⟩:=F w s₀ mg mb fa _ G hmg;exact zng zkv G.T.g G.T.b G.T.builtins G.T.nolimit hg hobj hints (Nat.le_trans hlen (by decide)) ((show Room 60 callerA from⟨rfl,by decide,by decide,rfl⟩).mono hk) hF hb (fun H hO hS=>⟨a,ns,rfl,hS,hlen,fun _=>rfl⟩) fun H e s' z=>z
end Bd
namespace L2
open PySem PySem.Spec PyProof PyProof.Rows
theorem zks{a:Addr}{ep:Nat}:ZDO a [] ep=KDO a [] ep:=by
 unfold ZDO KDO;congr 1
 funext h
 have e:∀l:List DictEntry,Paired entZ [] l↔Paired entI [] l:=fun l=>⟨fun h=>by cases h;exact .nil,fun h=>by cases h;exact .nil⟩
 simp only[e,List.map_nil,List.length_nil,List.nodup_nil]
theorem zpG{ks:KT2}{ls:List (Int×PyData)}(e:Js ks=Zc ls):ks=[]/\ls=[]:=by
 cases ks with
 | nil=>cases ls with
  | nil=>exact⟨rfl,rfl⟩
  | cons _ _=>cases e
 | cons a ks=>cases ls with
  | nil=>cases e
  | cons b ls =>
   have h:=(Prod.mk.inj (List.cons.inj (show(blkT a.1,a.2)::Js ks=(PyData.int b.1,b.2)::Zc ls from e)).1).1
   cases h
theorem zji{α:Type}[DecidableEq α]:∀{xs ys:List α},xs.Nodup->(∀x∈xs,x∈ys)->xs.length<=ys.length
 | [],_,_,_=>Nat.zero_le _
 | x::xs,ys,nd,h=>by
  have nd':=List.nodup_cons.mp nd;have:=zji (xs:=xs) (ys:=ys.erase x) nd'.2 fun y hy=>(List.mem_erase_of_ne (by rintro rfl;exact nd'.1 hy)).mpr (h y (by simp[hy]))
  have hx:=h x (by simp)
  have e:=List.length_erase_of_mem hx;have:=List.length_pos_of_mem hx;rw[List.length_cons];lia
abbrev BL:=List (Int×Int)
theorem zrs{xs:qD}{k:Nat}{x:PyData}{R:PyData->Prop}(e:xs[k]?=some x)(h:R x):oIx (.list xs) (.int (k:Int)) R:=by
 have hk:k<xs.length:=by
  rcases Nat.lt_or_ge k xs.length with z|z
  ·exact z
  ·rw[List.getElem?_eq_none z]at e;cases e
 rw[YB (x:=x)]
 ·exact h
 ·unfold atI ixN;have:((0:Int)<=(k:Int)):=by lia
  have:((k:Int)<(xs.length:Int)):=by lia
  have e2:xs[k]=x:=by rw[List.getElem?_eq_getElem hk]at e;exact Option.some.inj e
  simp[hk,e2]
section
variable{prog:Program}{w:World}{A:Around}{E:qV}{s:Shared}
theorem zkX{d:Addr}{es:Array DictEntry}{ep:Nat}{Q:qV}(hs:(d == sysModules)=false)(hm:ZV s.heap d es ep)
  (hQ:Q (.ref s.heap.objs.size) { s with heap:=s.heap.push { cls:=.type "dict_keyiterator",data:=.fields #[.ref d,.int 0 0,.int es.size 0,.int ep 0] } }):wpAny (model prog w) A (pyIter (.ref d)) Q E s:=by
 obtain⟨od,god,xod,dod⟩:=hm;have ty:s.TypeIs (.ref d) "dict":=⟨od,god,xod.1⟩;refine wpAny_pyIter_slot ty PySem.F.slot_dict_iter (wpAny_call_entry PySem.F.slot_dict_iter ty PySem.F.entry_dict_iter ?_ (PySem.F.args_dict_iter_1 _));unfold Builtin.«dict.__iter__»;refine wpAny_bind ?_;unfold Builtin.Dict.dictSlotNone;refine wpAny_bind (wpAny_notOrdered_dict ty ?_);show wpAny _ _ (pure (Value.ref d)) _ _ s
 refine wpAny_pure ?_;show wpAny _ _ (Builtin.Dict.showsAll d >>= _) _ _ s
 unfold Builtin.Dict.showsAll;have ns:¬((d == sysModules)=true):=by rw[hs];exact Bool.false_ne_true
 rw[if_neg ns];refine wpAny_bind (wpAny_pure (wpAny_bind (wpAny_dictEntries god dod (wpAny_bind (wpAny_dictEpoch god dod ?_)))));exact wpAny_bind (wpAny_newObj_type (wpAny_pure ⟨_,rfl,"dict_keyiterator",_,⟨_,Heap.get?_push_size _ rfl,rfl⟩,PySem.F.slot_dict_keyiterator_next.lookup,by simpa[rawInt] using hQ⟩))
theorem zkY{it d:Addr}{i ep:Nat}{es:Array DictEntry}{e:DictEntry}{Q:Option Value->Shared->Prop}(hi:s.heap.IsKeyIter it d i es.size ep)(hm:ZV s.heap d es ep)(hx:es[i]?=some e)
  (hQ:∀h',h'.IsKeyIter it d (i+1) es.size ep->Heap.SameBut it s.heap h'->Q (some e.key) { s with heap:=h' }):wpAny (model prog w) A (pyNext (.ref it)) Q E s:=by
 obtain⟨o,ho,hc,hd⟩:=id hi;obtain⟨od,god,xod,dod⟩:=hm;have ty:=hi.typeIs;have lt:i<es.size:=(Array.getElem?_eq_some_iff.mp hx).1;unfold pyNext;refine wpAny_bind (wpAny_attempt ?_);refine wpAny_callSpecial?_slot (name:=Str.ofString "__next__") ty PySem.F.slot_dict_keyiterator_next ?_;refine wpAny_call_entry PySem.F.slot_dict_keyiterator_next ty PySem.F.entry_dict_keyiterator_next ?_ (PySem.F.args_dict_keyiterator_next_1 _)
 refine wpAny_bind (wpAny_pure (wpAny_bind (wpAny_bind ?_)));refine wpAny_bind (wpAny_typeNameOfWhole_keyiter ty (wpAny_pure (wpAny_bind (wpAny_fieldsOf ho hd ?_))));have ow:Builtin.Dict_items.ownsTuple "dict_keyiterator" = false:=by decide
 simp only[ow,Bool.false_eq_true,if_false];show wpAny _ _ (if (Value.ref d == Value.none)=true then _ else _) _ _ s
 have nd:¬((Value.ref d == Value.none)=true):=Bool.false_ne_true;rw[if_neg nd];refine wpAny_bind (wpAny_pure (wpAny_bind (wpAny_dictEntries god dod ?_)));rw[if_neg (by simp)]
 refine wpAny_bind (wpAny_pure (wpAny_bind (wpAny_dictEpoch god dod ?_)));rw[if_neg (by simp)]
 refine wpAny_pure ?_;simp only[show ¬((i:Int)<0) from by lia,if_false,Int.toNat_natCast,hx]
 refine wpAny_bind (wpAny_bind (wpAny_typeNameOfWhole_keyiter ty (wpAny_pure (wpAny_bind (wpAny_isOneOf_keyiter ty ?_)))));show wpAny _ _ (setField (.ref it) 1 (rawInt ((i:Int)+1)) >>= _) _ _ s
 refine wpAny_bind (wpAny_setField ho hd (by simp) ?_)
 have hit':(s.heap.update it (Obj.mapFields (·.setIfInBounds 1 (rawInt ((i:Int)+1))))).IsKeyIter it d (i+1) es.size ep :=
  ⟨_,Heap.get?_update_self _ ho (Obj.isFreed_of_fields (Obj.data_mapFields hd _)),(Obj.cls_mapFields ..).trans hc,by rw[Obj.data_mapFields hd];simp[rawInt]⟩
 refine wpAny_bind (wpAny_holding (wpAny_bind (wpAny_isOneOf_keyiter (s:={ s with heap:=s.heap.update it (Obj.mapFields (·.setIfInBounds 1 (rawInt ((i:Int)+1)))) }) hit'.typeIs ?_)))
 show wpAny _ _ (pure e.key) _ _ _
 exact wpAny_pure (wpAny_pure ⟨_,rfl,wpAny_pure (hQ _ hit' (Heap.SameBut.update ..))⟩)
theorem zmR{it d:Addr}{i ep:Nat}{es:Array DictEntry}{Q:Option Value->Shared->Prop}(hA:A.handled=none)(hi:s.heap.IsKeyIter it d i es.size ep)(hm:ZV s.heap d es ep)(hx:es.size<=i)
  (hQ:∀h',Heap.ExtBut it s.heap h'->Q none { s with heap:=h' }):wpAny (model prog w) A (pyNext (.ref it)) Q E s:=by
 obtain⟨o,ho,hc,hd⟩:=id hi;obtain⟨od,god,xod,dod⟩:=hm;have ty:=hi.typeIs;unfold pyNext;refine wpAny_bind (wpAny_attempt ?_);refine wpAny_callSpecial?_slot (name:=Str.ofString "__next__") ty PySem.F.slot_dict_keyiterator_next ?_;refine wpAny_call_entry PySem.F.slot_dict_keyiterator_next ty PySem.F.entry_dict_keyiterator_next ?_ (PySem.F.args_dict_keyiterator_next_1 _);refine wpAny_bind (wpAny_pure (wpAny_bind (wpAny_bind ?_)))
 refine wpAny_bind (wpAny_typeNameOfWhole_keyiter ty (wpAny_pure (wpAny_bind (wpAny_fieldsOf ho hd ?_))));have ow:Builtin.Dict_items.ownsTuple "dict_keyiterator" = false:=by decide
 simp only[ow,Bool.false_eq_true,if_false];show wpAny _ _ (if (Value.ref d == Value.none)=true then _ else _) _ _ s
 have nd:¬((Value.ref d == Value.none)=true):=Bool.false_ne_true;rw[if_neg nd];refine wpAny_bind (wpAny_pure (wpAny_bind (wpAny_dictEntries god dod ?_)));rw[if_neg (by simp)]
 refine wpAny_bind (wpAny_pure (wpAny_bind (wpAny_dictEpoch god dod ?_)));rw[if_neg (by simp)]
 refine wpAny_pure ?_;simp only[show ¬((i:Int)<0) from by lia,if_false,Int.toNat_natCast,Array.getElem?_eq_none hx]
 refine wpAny_bind (wpAny_bind (wpAny_typeNameOfWhole_keyiter ty (wpAny_pure ?_)));show wpAny _ _ (setField (.ref it) 0 .none >>= _) _ _ s
 refine wpAny_bind (wpAny_setField ho hd (by simp) ?_)
 show wpAny _ _ (newExc (.type "StopIteration") [] >>= _) _ _ _
 refine wpAny_bind ?_;simp only[newExc,newTuple];refine wpAny_bind (wpAny_newObj_type ?_ (by size_fits))
 refine wpAny_bind (m:=firstArgMember _ _) (wpAny_of_eq (a:=Value.none) (by first|rfl|(simp only[firstArgMember];rfl)) ?_)
 refine wpAny_newObj_type ?_ (by size_fits)
 simp only[raiseNew];refine wpAny_bind (wpAny_handled ?_);have hA1:A.in1.handled=none:=hA;rw[hA1];refine wpAny_bind (wpAny_pure (wpAny_throw ?_));refine wpAny_bind (wpAny_isInstance (T:="StopIteration") (b:=true) ⟨_,Heap.get?_push_size _ rfl,rfl⟩ isSubtype_stop (wpAny_pure (hQ _ ?_)));exact(((Heap.SameBut.update ..).extBut.push _).push _)
end
theorem ze6:∀{ks ls:KT2},Js ks=Js ls->ks=ls
 | [],[],_=>rfl
 | [],_::_,e=>by cases e
 | _::_,[],e=>by cases e
 | (a,b)::ks,(c,d)::ls,e=>by
  have h:=List.cons.inj (show(blkT a,b)::Js ks=(blkT c,d)::Js ls from e)
  have h1:=Prod.mk.inj h.1;have h2:=PyData.tuple.inj h1.1;have e1:=PyData.int.inj (List.cons.inj h2).1;have e2:=PyData.int.inj (List.cons.inj (List.cons.inj h2).2).1;rw[h1.2,ze6 h.2,Prod.ext e1 e2]
section
variable{K:qF}{hd:Option Addr}{O:Addr->Prop}{H:Hp}
theorem Rep.dtI{v:V}{ks:KT2}(h:Rep K hd O H v (.dict (Js ks))):∃a zs ep,v=.ref a/\H a=some (ZDO a zs ep)/\¬O a/\RepsT K hd O H zs ks:=by
 generalize e:PyData.dict (Js ks)=t at h;cases h with
 | @dct a ep h o =>
  have e:=PyData.dict.inj e;cases ks with
  | nil=>exact⟨a,[],ep,rfl,by rw[zks];exact h,o,.nil⟩
  | cons _ _=>cases e
 | @dcK a kvs ep ks' ps h o r e' =>
  have e:=PyData.dict.inj e;rw[e']at e;obtain⟨rfl,rfl⟩:=zpG e;cases r;exact⟨a,[],ep,rfl,by rw[zks];exact h,o,.nil⟩
 | @dcT a zs ep ks' ps h o r e' =>
  have e:=PyData.dict.inj e;rw[e']at e;rw[ze6 e];exact⟨a,zs,ep,rfl,h,o,r⟩
 | hand _=>exact(dict_noT (PyData.dict.inj e).symm).elim
 | scr _ _=>exact(dict_noT (PyData.dict.inj e).symm).elim
 | scrS _=>exact(dict_noT (PyData.dict.inj e).symm).elim
 | _=>cases e
theorem RepT.dtI{v:V}{ks:KT2}(h:RepT K hd O H v (.dict (Js ks))):∃a zs ep,v=.ref a/\H a=some (ZDO a zs ep)/\RepsT K hd O H zs ks:=by
 rcases h with h|⟨p,vs,ds,rfl,et,h1,h2,nh⟩|⟨p,zs,ep,ks',rfl,et,h1,h2,nh⟩
 ·obtain⟨a,zs,ep,e,h1,_,h2⟩:=h.dtI;exact⟨a,zs,ep,e,h1,h2⟩
 ·cases et
 ·rw[ze6 (PyData.dict.inj et)];exact⟨p,zs,ep,rfl,h1,h2⟩
def valZ(zs:ZT)(k:Int×Int):Option V:=(zs.find? fun z=>decide (z.1=k)).map (·.2.2)
theorem RepsT.val{zs:ZT}{ks:KT2}(r:RepsT K hd O H zs ks){k:Int×Int}{d:PyData}(h:valT ks k=some d):∃v,valZ zs k=some v/\Rep K hd O H v d:=by
 induction zs generalizing ks with
 | nil=>cases r;simp[valT]at h
 | cons y zs ih =>
  cases r with
  | @cons k' q v' d' zs ks h1 h2 r =>
   unfold valT at h;unfold valZ;rw[List.find?_cons]at h ⊢;dsimp only at h ⊢
   by_cases e:k'=k
   ·rw[decide_eq_true e]at h ⊢;cases h;exact⟨v',rfl,h2⟩
   ·rw[decide_eq_false e]at h ⊢;exact ih r h
theorem znw{ks:KT2}{k:Int×Int}:(ks.any ((fun z=>decide (z=k))∘fun x=>x.1))=(ks.find? fun z=>decide (z.1=k)).isSome:=by
 induction ks with
 | nil=>rfl
 | cons y ks ih =>
  rw[List.any_cons,List.find?_cons];show(decide (y.1=k)||_)=_
  cases decide (y.1=k)
  ·exact ih
  ·rfl
theorem RepsT.anyK{zs:ZT}{ks:KT2}(r:RepsT K hd O H zs ks)(k:Int×Int):(zs.any fun z=>decide (z.1=k))=(valT ks k).isSome:=by
 have e1:(zs.any fun z=>decide (z.1=k))=(zs.map (·.1)).any fun z=>decide (z=k):=by rw[List.any_map];rfl
 rw[e1,r.keys,List.any_map];unfold valT;rw[Option.isSome_map];exact znw
end
theorem znP{zs:ZT}{xs:List (List Key×Addr×Value)}(r:Paired ZX zs xs){k:Int×Int}{v:V}(h:valZ zs k=some v):∃p,atKey xs (kL k)=some p/\RelV v p.2:=by
 induction r with
 | nil=>simp[valZ]at h
 | @cons z x zs xs h1 t ih =>
  unfold valZ at h;rw[List.find?_cons]at h
  by_cases e:z.1=k
  ·rw[decide_eq_true e]at h;cases h;have:x.1=kL k:=by rw[h1.1,e]
   exact⟨x.2,by simp[atKey,List.find?_cons,this],h1.2.2⟩
  ·rw[decide_eq_false e]at h;have:¬x.1=kL k:=fun z'=>e (Z4.mp (h1.1.symm.trans z'))
   obtain⟨p,p1,p2⟩:=ih h;refine⟨p,?_,p2⟩;rw[<- p1];simp[atKey,List.find?_cons,this]
section
variable{X:Cx}{a b iter tg:Expr}{da db dd:DTE}{pos p:Pos}{k:Nat}
def zsq(K:qF)(H:Hp)(y:V)(k:Int×Int):Prop:=∃b,y=.ref b/\SqT K H b [.int k.1,.int k.2]
def zsr(K:qF)(H:Hp)(x:V)(zs:ZT):Prop:=∃a ep,x=.ref a/\H a=some (ZDO a zs ep)/\∀z∈zs,SqT K H z.2.1 [.int z.1.1,.int z.1.2]
def rInT(K:qF)(neg:Bool):R2:=fun x y H Q=>∃k zs,zsq K H x k/\zsr K H y zs/\Q (.bl (if neg then !(zs.any fun z=>decide (z.1=k)) else zs.any fun z=>decide (z.1=k))) H
theorem zid(hu:X.A.units+1<cLine):OpR X (compareOp .NotIn) (rInT X.K true):=by
 intro pins s σ H x y v u Q I rx ry h;obtain⟨k,zs,⟨b,rfl,sq⟩,⟨a,ep,rfl,ha,hk⟩,q⟩:=h;cases(show v=Value.ref b from rx)
 cases(show u=Value.ref a from ry)
 obtain⟨hs,lz,xs,x1,dd⟩:=Zq I ha hk;refine wpAny_notIn_heap (tupleKind_room_in1 hu) (Uq (k:=kL k) I sq) hs dd ?_;rw[zkr x1];exact⟨.bl _,H,I.tok _,rfl,q⟩
def oInT(neg:Bool):G2:=fun x y R=>∃(k:Int×Int) (ks:KT2),x=.tuple [.int k.1,.int k.2]/\y=.dict (Js ks)/\R (.bool (if neg then !(valT ks k).isSome else(valT ks k).isSome))
theorem RepT.bkI{K:qF}{hd:Option Addr}{O:Addr->Prop}{H:Hp}{v:V}{a b:Int}(h:RepT K hd O H v (.tuple [.int a,.int b])):∃q,v=.ref q/\SqT K H q [.int a,.int b]:=by
 rcases h with h|⟨p,vs,ds,rfl,et,h1,h2,nh⟩|⟨p,zs,ep,ks',rfl,et,h1,h2,nh⟩
 ·exact h.bkI
 ·cases et
 ·cases et
theorem zlS{neg:Bool}:Gp2 X (rInT X.K neg) (oInT neg):=by
 intro hd O H x y t u Q R dom rx ry h hq;obtain⟨k,ks,rfl,rfl,r⟩:=h;obtain⟨a,zs,ep,rfl,ha,rk⟩:=ry.dtI;refine⟨k,zs,rx.bkI,⟨a,ep,rfl,ha,rk.sq⟩,?_⟩;rw[rk.anyK k];exact hq _ _ H r (Same.refl H) (.bl _)
theorem UO{k:Int×Int}{ks:KT2}{neg:Bool}{R:PyData->Prop}(h:R (.bool (if neg then !(valT ks k).isSome else(valT ks k).isSome))):oInT neg (.tuple [.int k.1,.int k.2]) (.dict (Js ks)) R:=⟨k,ks,rfl,rfl,h⟩
def rIxZ(K:qF):R2:=fun x y H Q=>∃k zs v,zsq K H y k/\zsr K H x zs/\valZ zs k=some v/\Q v H
theorem zq6(hu:X.A.units+1<cLine){pins:qO}{s:Shared}{σ:St}{H:Hp}{x y:V}{v u:Value}{Q:VK}{E:qV}(I:Inv X pins σ H s)(rx:RelV x v)(ry:RelV y u)(h:rIxZ X.K x y H Q):(∃a,v=.ref a/\s.TypeIs (.ref a) "dict")/\wpAny (model X.prog X.w) X.A (getItem v u) (EP X pins σ Q) E s:=by
 obtain⟨k,zs,w,⟨b,rfl,sq⟩,⟨a,ep,rfl,ha,hk⟩,hv,q⟩:=h;cases(show v=Value.ref a from rx)
 cases(show u=Value.ref b from ry)
 obtain⟨hs,lz,xs,x1,dd⟩:=Zq I ha hk;obtain⟨p,p1,p2⟩:=znP x1 hv;refine⟨⟨a,rfl,?_⟩,wpAny_getItem_heap (tupleKind_room_in1 hu) (Uq (k:=kL k) I sq) dd p1 ⟨w,H,I.tok _,p2,q⟩⟩;obtain⟨o,g,c⟩:=zlZ dd;exact⟨o,g,c⟩
def zsn:GC:=fun ts R=>∃ks:KT2,ts=[.dict (Js ks)]/\R (.int ks.length)
theorem zlQ:GpC X (fun xs H Q=>∃a zs ep,xs=[.ref a]/\H a=some (ZDO a zs ep)/\Q (.int zs.length) H) zsn:=by
 intro hd O H xs ts Q R dom rs h hq;obtain⟨ks,rfl,r⟩:=h;obtain⟨v,rfl,rv⟩:=QC rs;obtain⟨a,zs,ep,rfl,ha,rk⟩:=rv.dtI;exact⟨a,zs,ep,rfl,ha,by rw[rk.length];exact hq _ _ H r (Same.refl H) (.int _)⟩
theorem YN{ks:KT2}{R:PyData->Prop}(h:R (.int ks.length)):zsn [.dict (Js ks)] R:=⟨ks,rfl,h⟩
def ItZ(a:Addr)(zs:ZT)(ep:Nat):It :=
 ⟨fun i H=>H a=some (ZDO a zs ep)/\i<zs.length,fun i H x H'=>H'=H/\∃z,zs[i]?=some z/\x=.ref z.2.1,fun i H=>H a=some (ZDO a zs ep)/\zs.length<=i⟩
theorem zpA{zs:ZT}{es:List DictEntry}(r:Paired entZ zs es){i:Nat}{z:(Int×Int)×Addr×V}(h:zs[i]?=some z):∃e,es[i]?=some e/\e.key=.ref z.2.1:=by
 induction r generalizing i with
 | nil=>simp at h
 | @cons y e zs es h1 t ih =>
  cases i with
  | zero=>simp at h;subst h;exact⟨e,by simp,h1.2.1⟩
  | succ i=>simpa using ih (by simpa using h)
theorem zkA{P:Program}{w:World}{K:qF}{tg:Expr}(a it:Addr)(zs:ZT)(ep:Nat):Turn P w K tg (ItZ a zs ep) [it] it (fun i h=>h.IsKeyIter it a i zs.length ep) where
 mem:=by simp
 obj:=fun i h st b hb=>by
  have e:b=it:=by simpa using hb
  subst e;obtain⟨o,e,c,d⟩:=st;exact⟨o,e,fun v z=>by rw[d]at z;cases z⟩
 keep:=fun i h h' st k=>by
  obtain⟨o,e,r⟩:=st;exact⟨o,k it (by simp) o e,r⟩
 item:=by
  intro X hP hw hK hc i pins s σ H E I hf st hg;subst hP hw hK;obtain⟨ha,hi⟩:=hg;obtain⟨⟨hs,lz,nd,o,es,g1,g2,g3,pr⟩,_⟩:=I.hok a _ ha;have hx:zs[i]?=some zs[i]:=List.getElem?_eq_getElem hi;obtain⟨e,he,ke⟩:=zpA pr hx;have el:es.size=zs.length:=by have:=Paired.length pr;simpa using this.symm
  obtain⟨f0,f1,f2,f3,f4,f5⟩:=hf it (by simp)
  refine zkY (es:=es) (by rw[el];exact st) ⟨o,g1,g2,g3⟩ (by rw[<- Array.getElem?_toList];exact he) fun h' st' sb=>?_
  rw[el]at st';have I1:Inv X pins σ H { s with heap:=h' }:=I.turned (t':=s.toks) (fun b o hb e=>(sb.2 b hb).trans e) f0 f1 f3 f4 f5
  obtain⟨o',e',c,d⟩:=id st';rw[ke];exact⟨_,rfl,Zd (s:={ s with heap:=h' }) e' c d (by decide) ⟨.ref zs[i].2.1,H,I1,rfl,⟨rfl,zs[i],hx,rfl⟩,st',fun b hb=>(hf b hb).1⟩⟩
 done:=by
  intro X hP hw hK hc i pins s σ H E I hf st hg;subst hP hw hK;obtain⟨ha,hi⟩:=hg;obtain⟨⟨hs,lz,nd,o,es,g1,g2,g3,pr⟩,_⟩:=I.hok a _ ha;have el:es.size=zs.length:=by have:=Paired.length pr;simpa using this.symm
  obtain⟨f0,f1,f2,f3,f4,f5⟩:=hf it (by simp)
  exact zmR (es:=es) (I.ok.hd hc) (by rw[el];exact st) ⟨o,g1,g2,g3⟩ (by lia) fun h' eb=>⟨rfl,I.turned (t':=s.toks) (fun b o hb e=>eb b o hb e) f0 f1 f3 f4 f5⟩
 self:=fun _ _ _ _ _ st h=>wpAny_pyIter_keyiter st h
def zuq(tl:TE):TI:=fun σ H R=>tl σ H fun x H1=>∃a zs ep,x=.ref a/\H1 a=some (ZDO a zs ep)/\R (ItZ a zs ep) H1
theorem zoL{l:Expr}{tl:TE}(hl:PE X l tl):PI X tg l (zuq tl):=by
 intro pins s σ H R I h;refine thn (hl pins s σ H _ I h) fun v s1 ⟨x,H1,I1,r1,q1⟩=>?_
 obtain⟨a,zs,ep,e,ha,q⟩:=q1;subst e;cases r1;obtain⟨⟨hs,lz,nd,o,es,g1,g2,g3,pr⟩,_⟩:=I1.hok a _ ha;have el:es.size=zs.length:=by have:=Paired.length pr;simpa using this.symm
 refine zkX (es:=es) hs ⟨o,g1,g2,g3⟩ ?_;rw[el];refine⟨s1.heap.objs.size,[s1.heap.objs.size],_,_,H1,rfl,I1.kept (t':=s1.toks) fun b o e=>Heap.get?_push_of_some _ e,zkA a _ zs ep,⟨_,Heap.get?_push_size _ rfl,rfl,rfl⟩,fun b hb=>?_,q⟩
 have e:b=s1.heap.objs.size:=by simpa using hb
 subst e;exact I1.fpOk (Nat.le_refl _) (I1.hok.fresh (Nat.le_refl _))
def dItZ(d:DTE):DTA:=fun ρ n R=>d ρ n fun t n'=>∃ks:KT2,t=.dict (Js ks)/\R (ks.map fun q=>blkT q.1) n'
theorem RepsT.getK{K:qF}{hd:Option Addr}{O:Addr->Prop}{H:Hp}{zs:ZT}{ks:KT2}(r:RepsT K hd O H zs ks){i:Nat}{z:(Int×Int)×Addr×V}{q:(Int×Int)×PyData}(hz:zs[i]?=some z)(hq:ks[i]?=some q):Rep K hd O H (.ref z.2.1) (blkT q.1):=by
 induction zs generalizing ks i with
 | nil=>simp at hz
 | cons y zs ih =>
  cases r with
  | @cons k' q' v' d' zs ks h1 h2 r =>
   cases i with
   | zero=>simp at hz hq;subst hz hq;exact h1
   | succ i=>exact ih r (by simpa using hz) (by simpa using hq)
theorem ziR(h:DE X iter dd):DI X tg iter (dItZ dd):=by
 obtain⟨ta,pa,h⟩:=h;refine⟨_,zoL pa,fun C ρ σ H n Q R S hd hq=>?_⟩
 refine h C ρ σ H n _ _ S hd fun t n' v H' ⟨ks,et,r⟩ e1 hn q=>?_
 subst et;obtain⟨a,zs,ep,rfl,ha,no,rk⟩:=q.dtI;refine⟨a,zs,ep,rfl,ha,hq _ n' _ H' r e1 hn ?_⟩;intro O2 H2 h1 h2 _;have ha2:=h1 a _ ha no;have r2:RepsT X.K C.hd O2 H2 zs ks:=rk.mono (fun a o ha z=>Classical.byContradiction fun no=>h2 a o ha no z) fun a o no ha=>h1 a o ha no
 refine⟨fun i t et=>?_,⟨ha2,by rw[List.length_map,rk.length];exact Nat.le_refl _⟩⟩
 rw[List.getElem?_map]at et;obtain⟨q,hq',eq⟩:=Option.map_eq_some_iff.mp et;have hi:i<zs.length:=by rw[rk.length];exact(List.getElem?_eq_some_iff.mp hq').1
 refine⟨⟨ha2,hi⟩,fun x H3 hy=>?_⟩
 obtain⟨rfl,z,hz,rfl⟩:=hy;rw[<- eq];exact⟨Same.refl _,r2.getK hz hq'⟩
instance zuW {d:DTE}{ρ:En}{n:Nat}{R:List PyData->Nat->Prop}:Stp (dItZ d ρ n R) (d ρ n fun t n'=>∃ks:KT2,t=.dict (Js ks)/\R (ks.map fun q=>blkT q.1) n'):=⟨fun h=>h⟩
end
section
variable{X:Cx}{a b e:Expr}{da db d:DTE}{pos p:Pos}{k:Nat}{x:Str}{ta tb:TE}
theorem zqQ(hu:X.A.units+1<cLine)(ho:PE X a ta)(hi:PE X b tb)(hs:NoSl b):PE X (.Subscript a b pos) (tOp (rIxZ X.K) ta tb):=by
 intro pins s σ H Q I h;refine zon PySem.F.slot_dict_getitem.lookup hs (thn (ho pins s σ H _ I h) fun u s1 ⟨x,H1,I1,rx,q1⟩=>thn (hi pins s1 σ H1 _ I1 q1) fun iv s2 ⟨y,H2,I2,ry,q2⟩=>?_)
 obtain⟨⟨a,ea,ty⟩,w⟩:=zq6 (E:=X.xe) hu I2 rx ry q2;subst ea;exact⟨ty,w⟩
def oIxZ:G2:=fun x y R=>∃(k:Int×Int) (ks:KT2) (d:PyData),x=.dict (Js ks)/\y=.tuple [.int k.1,.int k.2]/\valT ks k=some d/\R d
theorem zr1:Gp2 X (rIxZ X.K) oIxZ:=by
 intro hd O H x y t u Q R dom rx ry h hq;obtain⟨k,ks,d,rfl,rfl,hv,r⟩:=h;obtain⟨a,zs,ep,rfl,ha,rk⟩:=rx.dtI;obtain⟨v,v1,v2⟩:=rk.val hv;exact⟨k,zs,v,ry.bkI,⟨a,ep,rfl,ha,rk.sq⟩,v1,hq _ _ H r (Same.refl H) v2⟩
theorem QQ(hu:X.A.units+1<cLine)(ha:DL X a da)(hb:DL X b db)(hs:NoSl b:=by intro _ _;rfl):DE X (.Subscript a b pos) (dOp oIxZ da db):=by
 obtain⟨ta,pa,ha⟩:=ha;obtain⟨tb,pb,hb⟩:=hb;refine⟨_,zqQ hu pa pb hs,fun C ρ σ H n Q R S h hq=>?_⟩
 refine two ha hb S h fun x y n2 v w H2 r2 e S2 q1 q2=>?_
 exact zr1 C.hd (Own C ρ σ) H2 v w x y Q _ (fun p=>S2.dom) q1 q2 r2 fun z u H' rz sm rp=>hq z n2 u H' rz (e.trans sm.ext) (S2.hnd.same sm) rp
theorem UP{k:Int×Int}{ks:KT2}{d:PyData}{R:PyData->Prop}(hv:valT ks k=some d)(h:R d):oIxZ (.dict (Js ks)) (.tuple [.int k.1,.int k.2]) R:=⟨k,ks,d,rfl,rfl,hv,h⟩
def dDtt(i:Nat):DTE:=fun ρ n R=>match ρ[i]? with|some (some (.dtt ks))=>R (.dict (Js ks)) n|_=>False
theorem zpE(i:Nat){p':Pos}(hN:X.N[i]?=some x:=by rfl)(hv:Vis X.env.scope x:=by walk_at "V")(hd:(x == ("__debug__":Str))=false:=by decide)
  (hcd:(x == ("__classdict__":Str))=false:=by decide):DS X (.Return (some (.Name x p')) pos) (sRet (dDtt i)):=by
 refine⟨_,Zs (QU hN hv hd hcd),fun C ρ σ H n D D' S h g=>?_⟩
 unfold sRet dDtt at h;split at h
 ·rename_i ks e;obtain⟨p,zs,ep,h1,h2,h3,h4⟩:=S.dtt i ks e;exact⟨.ref p,h1,g.rt _ n _ H h S.hnd (fun a o ha _ _=>ha) (.dcT h2 h4 (h3.mono (fun _ _ _ z=>.inl z) fun _ _ _ z=>z) rfl)⟩
 ·exact h.elim
instance zuZ {i:Nat}{ks:KT2}{ρ:En}{n:Nat}{R:qN}[h:GetN ρ i (some (.dtt ks))]:Stp (dDtt i ρ n R) (R (.dict (Js ks)) n):=⟨fun k=>by unfold dDtt;rw[h.e];exact k⟩
end
abbrev PR:=List ((Int×Int)×(Int×Int))
def twoD(q:Int×Int):PyData:=.tuple [.int q.1,.int q.2]
def prK(qs:PR):KT2:=qs.map fun q=>(q.1,twoD q.2)
def valP(qs:PR)(k:Int×Int):Option (Int×Int):=(qs.find? fun q=>decide (q.1=k)).map (·.2)
theorem Qe{qs:PR}{k:Int×Int}:valT (prK qs) k=(valP qs k).map twoD:=by
 unfold valT valP prK;induction qs with
 | nil=>rfl
 | cons q qs ih =>
  rw[List.map_cons,List.find?_cons,List.find?_cons];dsimp only;cases decide (q.1=k)
  ·exact ih
  ·rfl
abbrev upH(b:Int×Int):Int×Int:=(Builtin.bitXor b.1 (2 ^ (b.2 - 1).toNat),b.2 - 1)
abbrev loH(b:Int×Int):Int×Int:=(b.1,b.2 - 1)
def bpD(no al:Bool)(qs:PR)(b:Int×Int):Option (Int×Int) :=
 if no then some (0,1) else if al then some (1,0) else match valP qs (loH b),valP qs (upH b) with
  | some x,some y=>some (if x.2+y.2+1<x.1+y.1 then x.2+y.2+1 else x.1+y.1,if x.1+y.1+1<x.2+y.2 then x.1+y.1+1 else x.2+y.2)
  | _,_=>none
def optD:Option (Int×Int)->PyData|some q=>twoD q|none=>.none
def HasN(ps:qB)(b:Int×Int):Prop:=∀p∈ps,eB p<=b.1\/eB b<=p.1
def HasA(ps:qB)(b:Int×Int):Prop:=∃p∈ps,p.1<=b.1/\eB b<=eB p
def rgtD(o:Option (Int×Int))(q:Int×Int):Bool:=match o with|some m=>decide (q.1<=m.1)&&decide (q.2<=m.2)|none=>false
theorem zgv{ps:qB}{b:Int×Int}(h:b.2=0):HasN ps b\/HasA ps b:=by
 have e:eB b=b.1+1:=by unfold eB;rw[h];rfl
 by_cases q:∃p∈ps,p.1<=b.1/\b.1<eB p
 ·obtain⟨p,hp,h1,h2⟩:=q;exact .inr ⟨p,hp,h1,by lia⟩
 ·refine .inl fun p hp=>?_
  by_cases z:eB p<=b.1
  ·exact .inl z
  ·refine .inr ?_
   by_cases y:p.1<=b.1
   ·exact absurd ⟨p,hp,y,by lia⟩ q
   ·lia
section
variable{bits:Int}{ps bs:BL}{b c:Int×Int}
theorem up_eq(B:IsBk bits b.1 b.2)(h:1<=b.2):upH b=(b.1+2 ^ (b.2 - 1).toNat,b.2 - 1):=by
 have e:=B.x1 (by lia)
 have p:(2:Int) ^ b.2.toNat=2*2 ^ (b.2 - 1).toNat:=by
  have:b.2.toNat=(b.2 - 1).toNat+1:=by lia
  rw[this,Int.pow_succ];lia
 unfold upH;rw[e,p];congr 1;lia
theorem YX(h:1<=b.2):(2:Int) ^ b.2.toNat=2*2 ^ (b.2 - 1).toNat:=by
 have:b.2.toNat=(b.2 - 1).toNat+1:=by lia
 rw[this,Int.pow_succ];lia
theorem ztR(B:IsBk bits b.1 b.2)(h:1<=b.2):IsBk bits (loH b).1 (loH b).2:=by
 obtain⟨h0,h1,k,k0,e,k1⟩:=B;refine⟨by show 0<=b.2 - 1;lia,by show b.2 - 1<=bits;lia,2*k,by lia,?_,?_⟩
 ·show b.1=2*k*2 ^ (b.2 - 1).toNat
  rw[e,YX h,Int.mul_comm 2 k,Int.mul_assoc]
 ·show 2*k<2 ^ (bits - (b.2 - 1)).toNat
  have:(bits - (b.2 - 1)).toNat=(bits - b.2).toNat+1:=by lia
  rw[this,Int.pow_succ];lia
theorem zs3(B:IsBk bits b.1 b.2)(h:1<=b.2):IsBk bits (upH b).1 (upH b).2:=by
 rw[up_eq B h];obtain⟨h0,h1,k,k0,e,k1⟩:=B;refine⟨by show 0<=b.2 - 1;lia,by show b.2 - 1<=bits;lia,2*k+1,by lia,?_,?_⟩
 ·show b.1+2 ^ (b.2 - 1).toNat=(2*k+1)*2 ^ (b.2 - 1).toNat
  rw[e,YX h,Int.add_mul,Int.one_mul,Int.mul_comm 2 k,Int.mul_assoc]
 ·show 2*k+1<2 ^ (bits - (b.2 - 1)).toNat
  have:(bits - (b.2 - 1)).toNat=(bits - b.2).toNat+1:=by lia
  rw[this,Int.pow_succ];lia
theorem zkM(B:IsBk bits b.1 b.2)(C:IsBk bits c.1 c.2)(h:b.2=c.2){x:Int}(x1:b.1<=x/\x<eB b)(x2:c.1<=x/\x<eB c):b=c:=by
 have e:eB b - b.1=eB c - c.1:=by unfold eB;rw[h];lia
 rcases YW B C x1 x2 with z|z
 ·exact Prod.ext (by lia) h
 ·exact Prod.ext (by lia) h
theorem znt(B:IsBk bits b.1 b.2)(C:IsBk bits c.1 c.2)(hb:1<=b.2)(hc:1<=c.2){d:Int×Int}(h1:d=loH b\/d=upH b)(h2:d=loH c\/d=upH c):b=c:=by
 have pb:=YX (b:=b) hb;have pc:=YX (b:=c) hc;have qb:=Bd.QL (b.2 - 1).toNat;have qc:=Bd.QL (c.2 - 1).toNat;rw[up_eq B hb]at h1;rw[up_eq C hc]at h2;have e1:d.2=b.2 - 1:=by rcases h1 with rfl|rfl <;> rfl
 have e2:d.2=c.2 - 1:=by rcases h2 with rfl|rfl <;> rfl
 have i1:b.1<=d.1/\d.1<eB b:=by
  unfold eB;rcases h1 with rfl|rfl <;> constructor <;> dsimp only <;> lia
 have i2:c.1<=d.1/\d.1<eB c:=by
  unfold eB;rcases h2 with rfl|rfl <;> constructor <;> dsimp only <;> lia
 exact zkM B C (by lia) i1 i2
def Prt(ps:BL)(b:Int×Int):Prop:=¬HasN ps b/\¬HasA ps b
theorem Prt.pos(h:Prt ps b)(B:IsBk bits b.1 b.2):1<=b.2:=by
 have h0:=B.1
 by_cases z:b.2=0
 ·rcases zgv (ps:=ps) z with q|q
  ·exact absurd q h.1
  ·exact absurd q h.2
 ·lia
theorem Prt.inn(h:Prt ps b)(B:IsBk bits b.1 b.2)(P:Bks bits ps):∃p∈ps,b.1<=p.1/\p.1<eB b:=by
 refine Classical.byContradiction fun no=>h.1 fun p hp=>?_
 refine Classical.byContradiction fun z=>?_
 have pp:=JT p;have pb:=JT b;have x1:b.1<eB p:=by lia
 have x2:p.1<eB b:=by lia
 by_cases q:b.1<=p.1
 ·exact no ⟨p,hp,q,x2⟩
 ·rcases YW B (P p hp) (x:=b.1) ⟨Int.le_refl _,pb⟩ ⟨by lia,x1⟩ with z|z
  ·lia
  ·exact h.2 ⟨p,hp,z.1,z.2.1⟩
structure PInv(bits:Int)(ps bs:BL)(k:Nat):Prop where
 bk:Bks bits bs
 nd:bs.Nodup
 root:bs[0]?=some (0,bits)
 par:∀c∈bs,c=(0,bits)\/∃(j:Nat) (b:Int×Int),j<k/\bs[j]?=some b/\Prt ps b/\(c=loH b\/c=upH b)
 kid:∀(j:Nat) (b:Int×Int),j<k->bs[j]?=some b->Prt ps b->(∃i,j<i/\bs[i]?=some (loH b))/\∃i,j<i/\bs[i]?=some (upH b)
 cnt:∃ds:BL,ds.Nodup/\(∀d∈ds,Prt ps d/\∃j,j<k/\bs[j]?=some d)/\bs.length=1+2*ds.length
theorem PInv.start(b0:0<=bits):PInv bits ps [(0,bits)] 0 where
 bk:=fun b hb=>by
  cases List.mem_singleton.mp hb;exact⟨b0,Int.le_refl _,0,Int.le_refl _,by simp,Bd.QL _⟩
 nd:=by simp
 root:=rfl
 par:=fun c hc=>.inl (List.mem_singleton.mp hc)
 kid:=fun j b hj=>by lia
 cnt:=⟨[],.nil,(fun d h=>nomatch h),rfl⟩
theorem PInv.no{k:Nat}(I:PInv bits ps bs k)(hb:bs[k]?=some b)(h:¬Prt ps b):PInv bits ps bs (k+1) where
 bk:=I.bk
 nd:=I.nd
 root:=I.root
 par:=fun c hc=>by
  rcases I.par c hc with z|⟨j,b,j1,r⟩
  ·exact .inl z
  ·exact .inr ⟨j,b,by lia,r⟩
 kid:=fun j c hj hc hp=>by
  by_cases e:j=k
  ·subst e;rw[hb]at hc;cases hc;exact absurd hp h
  ·exact I.kid j c (by lia) hc hp
 cnt:=by
  obtain⟨ds,d1,d2,d3⟩:=I.cnt;exact⟨ds,d1,fun d hd=>by obtain⟨a,j,j1,j2⟩:=d2 d hd;exact⟨a,j,by lia,j2⟩,d3⟩
theorem PInv.yes{k:Nat}(b0:0<=bits)(I:PInv bits ps bs k)(hb:bs[k]?=some b)(h:Prt ps b):PInv bits ps (bs++[loH b,upH b]) (k+1):=by
 have hk:=(List.getElem?_eq_some_iff.mp hb).1;have B:=I.bk b (List.mem_of_getElem? hb);have h1:=h.pos B;have pb:=YX (b:=b) h1;have qb:=Bd.QL (b.2 - 1).toNat;have old:∀{j:Nat} {c:Int×Int},bs[j]?=some c->(bs++[loH b,upH b])[j]?=some c:=fun {j c} hj=>by
  rw[List.getElem?_append_left (List.getElem?_eq_some_iff.mp hj).1];exact hj
 have fresh:∀d,(d=loH b\/d=upH b)->d∉bs:=by
  intro d hd hm;rcases I.par d hm with z|⟨j,c,j1,j2,j3,j4⟩
  ·have:d.2=b.2 - 1:=by rcases hd with rfl|rfl <;> rfl
   have e2:=B.2.1;rw[z]at this;have this:bits=b.2 - 1:=this;lia
  ·have Cc:=I.bk c (List.mem_of_getElem? j2);have:=znt B Cc h1 (j3.pos Cc) hd j4;subst this;have:=(List.getElem?_inj (Nat.lt_trans j1 hk) I.nd).mp (j2.trans hb.symm);lia
 have ne:loH b≠upH b:=by
  rw[up_eq B h1];intro e;have:=congrArg Prod.fst e;dsimp only at this;lia
 have l0:(bs++[loH b,upH b])[bs.length]?=some (loH b):=by simp
 have l1:(bs++[loH b,upH b])[bs.length+1]?=some (upH b):=by simp
 refine⟨?_,?_,?_,?_,?_,?_⟩
 ·intro c hc;rcases List.mem_append.mp hc with hc|hc
  ·exact I.bk c hc
  ·simp only[List.mem_cons,List.not_mem_nil,or_false]at hc;rcases hc with rfl|rfl
   ·exact ztR B h1
   ·exact zs3 B h1
 ·rw[List.nodup_append];refine⟨I.nd,by simp[ne],fun x hx y hy e=>?_⟩
  subst e;simp only[List.mem_cons,List.not_mem_nil,or_false]at hy;exact fresh x hy hx
 ·exact old I.root
 ·intro c hc;rcases List.mem_append.mp hc with hc|hc
  ·rcases I.par c hc with z|⟨j,d,j1,j2,r⟩
   ·exact .inl z
   ·exact .inr ⟨j,d,by lia,old j2,r⟩
  ·simp only[List.mem_cons,List.not_mem_nil,or_false]at hc;exact .inr ⟨k,b,by lia,old hb,h,hc⟩
 ·intro j c hj hc hp
  by_cases e:j=k
  ·subst e;have:c=b:=by
    have:=old hb;rw[hc]at this;exact Option.some.inj this
   subst this;exact⟨⟨bs.length,hk,l0⟩,bs.length+1,by lia,l1⟩
  ·have jl:j<bs.length:=by lia
   rw[List.getElem?_append_left jl]at hc;obtain⟨⟨i1,a1,a2⟩,i2,c1,c2⟩:=I.kid j c (by lia) hc hp
   exact⟨⟨i1,a1,old a2⟩,i2,c1,old c2⟩
 ·obtain⟨ds,d1,d2,d3⟩:=I.cnt;refine⟨ds++[b],?_,?_,by simp[d3];lia⟩
  ·rw[List.nodup_append];refine⟨d1,by simp,fun x hx y hy e=>?_⟩
   subst e;cases List.mem_singleton.mp hy;obtain⟨_,j,j1,j2⟩:=d2 _ hx;have:=(List.getElem?_inj (Nat.lt_trans j1 hk) I.nd).mp (j2.trans hb.symm);lia
  ·intro d hd;rcases List.mem_append.mp hd with hd|hd
   ·obtain⟨a,j,j1,j2⟩:=d2 d hd;exact⟨a,j,by lia,old j2⟩
   ·cases List.mem_singleton.mp hd;exact⟨h,k,by lia,old hb⟩
end
theorem zjn{α β:Type}(ps:List β):∀xs:List α,(xs.flatMap fun h=>ps.map fun p=>(h,p)).length=xs.length*ps.length
 | []=>by simp
 | x::xs=>by rw[List.flatMap_cons,List.length_append,zjn ps xs,List.length_map,List.length_cons,Nat.succ_mul,Nat.add_comm]
section
variable{bits:Int}{ps bs:BL}{b c:Int×Int}
theorem zk3(b1:bits<=64)(P:Bks bits ps){ds:BL}(nd:ds.Nodup)(h:∀d∈ds,Prt ps d/\IsBk bits d.1 d.2):ds.length<=65*ps.length:=by
 classical
 let g:Int×Int->Int×Int:=fun d=>if h:∃p∈ps,d.1<=p.1/\p.1<eB d then h.choose else(0,0)
 have gs:∀d∈ds,g d∈ps/\d.1<=(g d).1/\(g d).1<eB d:=fun d hd=>by
  obtain⟨p,B⟩:=h d hd;have ex:=p.inn B P;have e:g d=ex.choose:=dif_pos ex;rw[e];exact ex.choose_spec
 have ndm:(ds.map fun d=>(d.2,g d)).Nodup:=by
  refine List.pairwise_map.mpr (List.Pairwise.imp_of_mem ?_ nd);intro a c ha hc n e;have e1:=congrArg Prod.fst e;have e2:=congrArg Prod.snd e;dsimp only at e1 e2;have ga:=gs a ha;have gc:=gs c hc;rw[<- e2]at gc;exact n (zkM (h a ha).2 (h c hc).2 e1 ga.2 gc.2)
 have:=zji (ys:=((List.range 65).map fun i:Nat=>(i:Int)).flatMap fun h=>ps.map fun p=>(h,p)) ndm fun x hx=>by
  obtain⟨d,hd,rfl⟩:=List.mem_map.mp hx;rw[List.mem_flatMap];have B:=(h d hd).2;have h0:=B.1;have h1:=B.2.1;exact⟨d.2,List.mem_map.mpr ⟨d.2.toNat,List.mem_range.mpr (by lia),by lia⟩,List.mem_map.mpr ⟨g d,(gs d hd).1,rfl⟩⟩
 rw[zjn,List.length_map,List.length_map,List.length_range]at this;exact this
theorem PInv.len{k:Nat}(b1:bits<=64)(P:Bks bits ps)(I:PInv bits ps bs k):bs.length<=1+130*ps.length:=by
 obtain⟨ds,d1,d2,d3⟩:=I.cnt;have:=zk3 b1 P d1 fun d hd=>by
  obtain⟨a,j,_,j2⟩:=d2 d hd;exact⟨a,I.bk d (List.mem_of_getElem? j2)⟩
 lia
def msz(bs:BL):Nat:=(bs.map fun b=>2 ^ (b.2.toNat+1) - 1).sum
theorem zo6(xs ys:BL):msz (xs++ys)=msz xs+msz ys:=by simp[msz]
theorem zn2{k:Nat}(hb:bs[k]?=some b):msz (bs.drop (k+1))<msz (bs.drop k):=by
 have hk:=(List.getElem?_eq_some_iff.mp hb).1;have e:bs.drop k=b::bs.drop (k+1):=by
  rw[List.drop_eq_getElem_cons hk];rw[List.getElem?_eq_getElem hk]at hb;rw[Option.some.inj hb]
 rw[e];have:1<2 ^ (b.2.toNat+1):=Nat.one_lt_two_pow (by lia)
 simp only[msz,List.map_cons,List.sum_cons];lia
theorem zo5{k:Nat}(hb:bs[k]?=some b)(h:1<=b.2):msz ((bs++[loH b,upH b]).drop (k+1))<msz (bs.drop k):=by
 have hk:=(List.getElem?_eq_some_iff.mp hb).1;have e:bs.drop k=b::bs.drop (k+1):=by
  rw[List.drop_eq_getElem_cons hk];rw[List.getElem?_eq_getElem hk]at hb;rw[Option.some.inj hb]
 rw[List.drop_append_of_le_length (by lia),zo6,e]
 have p:2 ^ (b.2.toNat+1)=2*2 ^ b.2.toNat:=by rw[Nat.pow_succ];lia
 have q:(b.2 - 1).toNat+1=b.2.toNat:=by lia
 have pos:1<=2 ^ b.2.toNat:=Nat.one_le_two_pow;simp only[msz,List.map_cons,List.sum_cons,List.map_nil,List.sum_nil,q];lia
end
section
variable{prog:Program}{w:World}{A:Around}{E:qV}{s:Shared}
theorem zfn{T newId T':String}{Bn:Builtin}{args:List Value}{Q:qV}
  (h1:(Value.type T == Value.type "type")=false)
  (h2:((Manifest.find? T).bind (·.mro.findSome? fun t=>(Manifest.find? t).bind fun b=>if b.noNew then some true else if b.attrs.any (·.1 == "__new__") then some false else none)).getD false=false)
  (hm:∃c tl,mroOf (.type T)=pure (c::tl)) (hmade:Bind.madeBy (.type T)=pure (some newId)) (plain:plainId newId=true) (hsub:isSubtype (.type T') (.type T)=pure false)
  (hct:checkTypeCall T ⟨args,[]⟩=pure ()) (hcn:checkBuiltinCall newId ⟨.type T::args,[]⟩=pure ()) (entryN:entryFor table newId=some Bn)
  (h:wpAny (model prog w) A.in1.in1 (Bn ⟨.type T::args,[]⟩) (fun fin s₁=>∃obj,fin=Fin.done (Flow.ret obj)/\s₁.TypeIs obj T'/\Q obj s₁) E s) :
  wpAny (model prog w) A (call (.type T) args) Q E s:=by
 obtain⟨c,tl,hmro⟩:=hm;refine wpAny_call (codeAny_of_tree ?_);show wpAny _ _ (callAny (.type T) _) _ _ _
 refine wpAny_pure ⟨Code.quiet_builtin _ (by decide +kernel),codeAny_builtin F.entry_type_call ?_⟩
 rw[Around.under_plain (weight_type_call_type T args []) (units_type_call_type T args [])]
 repeat (any_goals (first|assumption|wp_step))
 refine codeAny_mono (R:=wants (fun obj s₁=>s₁.TypeIs obj T'/\Q obj s₁) E) (codeAny_call_builtin plain entryN (wpAny_of_eq hcn ?_)) fun r s₁ hr=>?_
 ·exact wpAny_mono h (fun fin s1 ⟨obj,e,q⟩=>by subst e;exact q) (fun _ _ z=>z)
 ·cases r with
  | error e=>exact hr
  | ok fl =>
   cases fl with
   | ret obj =>
    obtain⟨hT,hq⟩:=hr;show wpAny _ _ (isInstance obj (.type T) >>= _) _ _ s₁
    refine wpAny_bind (wpAny_isInstance hT hsub ?_)
    repeat (any_goals (first|assumption|wp_step))
   | _=>exact hr.elim
theorem zg0{l:Addr}{its:Array Value}{n:Nat}{Q:qV}(ho:s.heap.get? l=some { cls:=.type "list",dict:=none,data:=.seq its n,slots:=#[] }) (h:Q (.ref s.heap.objs.size) { s with heap:=s.heap.push { cls:=.type "list_reverseiterator",data:=.fields #[.ref l,.int (its.size - 1) 0] } }) :
  wpAny (model prog w) A (Builtin.«reversed.__new__» ⟨[.type "reversed",.ref l],[]⟩) (fun fin s₁=>∃obj,fin=Fin.done (Flow.ret obj)/\Q obj s₁) E s:=by
 have hsub:isSubtype (.type "reversed") (.type "reversed")=pure true:=by kernel_rfl
 have hT:s.TypeIs (.ref l) "list":=⟨_,ho,rfl⟩;have hl:=PySem.F.slot_list_reversed.lookup;have hb:=PySem.F.slot_list_reversed.bind (.ref l);unfold Builtin.«reversed.__new__»
 repeat (any_goals (first|assumption|wp_step))
 refine codeAny_mono (R:=wants Q E) (codeAny_call_builtin PySem.F.slot_list_reversed.plain PySem.F.entry_list_reversed (PySem.F.slot_list_reversed.check _ _ _ _ _ _ _ _ hT (PySem.F.args_list_reversed_1 _) (PySem.AutoListH.list___reversed___list_0 l its n prog w A (wants Q E) s ⟨ho,by simpa[rawInt,wants] using h⟩))) fun r s1 hr=>?_
 cases r with
 | error e=>exact hr
 | ok fl =>
  cases fl with
  | ret v=>exact wpAny_pure ⟨_,rfl,hr⟩
  | _=>exact hr.elim
theorem zgI{l:Addr}{its:Array Value}{n:Nat}{Q:qV}(ho:s.heap.get? l=some { cls:=.type "list",dict:=none,data:=.seq its n,slots:=#[] }) (h:Q (.ref s.heap.objs.size) { s with heap:=s.heap.push { cls:=.type "list_reverseiterator",data:=.fields #[.ref l,.int (its.size - 1) 0] } }) :
  wpAny (model prog w) A (call (.type "reversed") [.ref l]) Q E s:=by
 refine zfn (T:="reversed") (newId:="reversed.__new__") (T':="list_reverseiterator") (by decide) (by decide +kernel) ⟨.type "reversed",[.type "object"],by rw[mroOf_type];kernel_rfl⟩ (by kernel_rfl) (by decide +kernel) (by kernel_rfl) ?_ ?_ (by kernel_rfl) (zg0 ho ⟨⟨_,Heap.get?_push_size _ rfl,rfl⟩,h⟩)
 ·kernel_rfl
 ·kernel_rfl
end
theorem ZO:Slot "list_reverseiterator" "__next__" "list_reverseiterator.__next__" :=
 .of (owner:="list_reverseiterator") (n:="__next__") (by rw[typeLookup_type,builtinLookup_eq_fast];kernel_rfl) (by decide +kernel) (by decide +kernel) (by decide +kernel) (by decide +kernel) (by kernel_rfl)
theorem zdc:Slot "list_reverseiterator" "__iter__" "list_reverseiterator.__iter__" :=
 .of (owner:="list_reverseiterator") (n:="__iter__") (by rw[typeLookup_type,builtinLookup_eq_fast];kernel_rfl) (by decide +kernel) (by decide +kernel) (by decide +kernel) (by decide +kernel) (by kernel_rfl)
theorem zcV:entryFor table "list_reverseiterator.__next__" = some Builtin.«list_reverseiterator.__next__»:=entryFor_of_tree (by kernel_rfl)
theorem zdz(a:Value):argsOk "list_reverseiterator.__next__" ⟨[a],[]⟩:=by
 unfold argsOk
 kernel_rfl
def IsRevIter(h:Heap)(it l:Addr)(j:Int):Prop:=∃o,h.get? it=some o/\o.cls=.type "list_reverseiterator" /\ o.data=.fields #[.ref l,.int j 0]
section
variable{prog:Program}{w:World}{A:Around}{E:qV}{s:Shared}
theorem zkH{a:Addr}{o:Obj}{its:Array Value}{n:Nat}{Q:Option (Array Value)->Shared->Prop}(ho:s.heap.get? a=some o)(hd:o.data=.seq its n)(h:Q (some its) s):wpAny (model prog w) A (seqItems? (.ref a)) Q E s:=by
 show wpAny _ _ (load a >>= _) _ _ s
 refine wpAny_bind (wpAny_load ho ?_);rw[hd];exact wpAny_pure h
theorem zmP{it l:Addr}{its:Array Value}{j:Nat}{x:Value}{Q:Option Value->Shared->Prop}(hi:IsRevIter s.heap it l (j:Int))(hl:s.heap.IsList l its)(hx:its[j]?=some x)
  (hQ:∀h',IsRevIter h' it l ((j:Int) - 1)->Heap.SameBut it s.heap h'->Q (some x) { s with heap:=h' }):wpAny (model prog w) A (pyNext (.ref it)) Q E s:=by
 obtain⟨o,ho,hc,hd⟩:=id hi;obtain⟨ol,gl,cl,n,dl⟩:=id hl;have ty:s.TypeIs (.ref it) "list_reverseiterator":=⟨o,ho,hc⟩;unfold pyNext;refine wpAny_bind (wpAny_attempt ?_);refine wpAny_callSpecial?_slot (name:=Str.ofString "__next__") ty ZO ?_;refine wpAny_call_entry ZO ty zcV ?_ (zdz _);unfold Builtin.«list_reverseiterator.__next__»;refine wpAny_bind (wpAny_pure ?_);refine wpAny_bind (wpAny_field ho hd (x:=.int (j:Int) 0) rfl ?_)
 have nn:¬((j:Int)<0):=by lia
 show wpAny _ _ (if (j:Int)<0 then _ else _) _ _ _
 rw[if_neg nn];refine wpAny_bind (wpAny_field ho hd (x:=.ref l) rfl ?_);refine wpAny_bind (zkH gl dl ?_);show wpAny _ _ (match its[(j:Int).toNat]? with|some x=>_|_=>_) _ _ _
 rw[Int.toNat_natCast,hx];refine wpAny_bind (wpAny_setField ho hd (by simp) ?_)
 have hit':IsRevIter (s.heap.update it (Obj.mapFields (·.setIfInBounds 1 (rawInt ((j:Int) - 1))))) it l ((j:Int) - 1) :=
  ⟨_,Heap.get?_update_self _ ho (Obj.isFreed_of_fields (Obj.data_mapFields hd _)),(Obj.cls_mapFields ..).trans hc,by rw[Obj.data_mapFields hd];simp[rawInt]⟩
 exact wpAny_pure ⟨_,rfl,wpAny_pure (hQ _ hit' (Heap.SameBut.update ..))⟩
theorem zoz{it l:Addr}{Q:Option Value->Shared->Prop}(hA:A.handled=none)(hi:IsRevIter s.heap it l (-1))(hQ:∀h',Heap.ExtBut it s.heap h'->Q none { s with heap:=h' }):wpAny (model prog w) A (pyNext (.ref it)) Q E s:=by
 obtain⟨o,ho,hc,hd⟩:=id hi;have ty:s.TypeIs (.ref it) "list_reverseiterator":=⟨o,ho,hc⟩;unfold pyNext;refine wpAny_bind (wpAny_attempt ?_);refine wpAny_callSpecial?_slot (name:=Str.ofString "__next__") ty ZO ?_;refine wpAny_call_entry ZO ty zcV ?_ (zdz _);unfold Builtin.«list_reverseiterator.__next__»;refine wpAny_bind (wpAny_pure ?_);refine wpAny_bind (wpAny_field ho hd (x:=.int (-1) 0) rfl ?_)
 show wpAny _ _ (if (-1:Int)<0 then _ else _) _ _ _
 rw[if_pos (by decide)]
 refine wpAny_bind (wpAny_rule ?_);refine wpAny_bind ?_;unfold Builtin.SmallTypes.stopIteration;show wpAny _ _ (newExc (.type "StopIteration") [] >>= _) _ _ _
 refine wpAny_bind ?_;simp only[newExc,newTuple];refine wpAny_bind (wpAny_newObj_type ?_ (by size_fits))
 refine wpAny_bind (m:=firstArgMember _ _) (wpAny_of_eq (a:=Value.none) (by first|rfl|(simp only[firstArgMember];rfl)) ?_)
 refine wpAny_newObj_type ?_ (by size_fits)
 simp only[raiseNew];refine wpAny_bind (wpAny_handled ?_);have hA1:A.in1.handled=none:=hA;rw[hA1];refine wpAny_bind (wpAny_pure (wpAny_throw ?_));refine wpAny_bind (wpAny_isInstance (T:="StopIteration") (b:=true) ⟨_,Heap.get?_push_size _ rfl,rfl⟩ isSubtype_stop (wpAny_pure (hQ _ ?_)));have e0:Heap.ExtBut it s.heap s.heap:=fun b o _ e=>e
 exact Heap.ExtBut.push (Heap.ExtBut.push e0 _) _
end
section
variable{X:Cx}{iter tg:Expr}{dd:DTE}
theorem zfl:entryFor table "list_reverseiterator.__iter__" = some Builtin.«dict_keyiterator.__iter__»:=entryFor_alias (id':="dict_keyiterator.__iter__") (by kernel_rfl) rfl (by decide +kernel) (by kernel_rfl)
theorem zgO(a:Value):argsOk "list_reverseiterator.__iter__" ⟨[a],[]⟩:=by
 unfold argsOk
 kernel_rfl
theorem zi9{it l:Addr}{j:Int}{prog:Program}{w:World}{A:Around}{E:qV}{s:Shared}{Q:qV}(hi:IsRevIter s.heap it l j)(h:Q (.ref it) s):wpAny (model prog w) A (pyIter (.ref it)) Q E s:=by
 obtain⟨o,ho,hc,hd⟩:=hi;have ty:s.TypeIs (.ref it) "list_reverseiterator":=⟨o,ho,hc⟩;refine wpAny_pyIter_slot ty zdc (wpAny_call_entry zdc ty zfl ?_ (zgO _));show wpAny _ _ (ret (.ref it)) _ _ s
 exact wpAny_pure ⟨_,rfl,"list_reverseiterator",_,ty,ZO.lookup,h⟩
def ItV(a:Addr)(vs:List V):It :=
 ⟨fun i H=>H a=some (.lst vs)/\i<vs.length,fun i H x H'=>H'=H/\vs.reverse[i]?=some x,fun i H=>H a=some (.lst vs)/\vs.length<=i⟩
theorem zmE{P:Program}{w:World}{K:qF}{tg:Expr}(a it:Addr)(vs:List V):Turn P w K tg (ItV a vs) [it] it (fun i h=>i<=vs.length/\IsRevIter h it a ((vs.length:Int) - 1 - (i:Int))) where
 mem:=by simp
 obj:=fun i h st b hb=>by
  have e:b=it:=by simpa using hb
  subst e;obtain⟨_,o,e,c,d⟩:=st;exact⟨o,e,fun v z=>by rw[d]at z;cases z⟩
 keep:=fun i h h' st k=>by
  obtain⟨l,o,e,r⟩:=st;exact⟨l,o,k it (by simp) o e,r⟩
 item:=by
  intro X hP hw hK hc i pins s σ H E I hf st hg;subst hP hw hK;obtain⟨ha,hi⟩:=hg;obtain⟨its,rv,p,hz⟩:=I.list (.of ha);have hl:=rv.length;have hx:vs.reverse[i]?=some (vs.reverse[i]'(by simpa using hi)):=List.getElem?_eq_getElem (by simpa using hi)
  generalize vs.reverse[i]'(by simpa using hi)=x at hx
  have hx2:vs[vs.length - 1 - i]?=some x:=by rw[<- hx,List.getElem?_reverse hi]
  obtain⟨u,hu,ru⟩:=rv.get hx2;obtain⟨f0,f1,f2,f3,f4,f5⟩:=hf it (by simp)
  have e1:(vs.length:Int) - 1 - (i:Int)=((vs.length - 1 - i:Nat):Int):=by lia
  obtain⟨_,st⟩:=st;rw[e1]at st;refine zmP st p.isList (x:=u) (by simpa using hu) fun h' st' sb=>?_
  have I1:Inv X pins σ H { s with heap:=h' }:=I.turned (t':=s.toks) (fun b o hb e=>(sb.2 b hb).trans e) f0 f1 f3 f4 f5
  obtain⟨o,e,c,d⟩:=id st';exact⟨u,rfl,Zd (s:={ s with heap:=h' }) e c d (by decide) ⟨x,H,I1,ru,⟨rfl,hx⟩,⟨hi,by
   have e2:(vs.length:Int) - 1 - ((i+1:Nat):Int)=((vs.length - 1 - i:Nat):Int) - 1:=by lia
   rw[e2];exact st'⟩,fun b hb=>(hf b hb).1⟩⟩
 done:=by
  intro X hP hw hK hc i pins s σ H E I hf st hg;subst hP hw hK;obtain⟨ha,hi⟩:=hg;obtain⟨f0,f1,f2,f3,f4,f5⟩:=hf it (by simp)
  obtain⟨l,st⟩:=st;have e1:(vs.length:Int) - 1 - (i:Int)=-1:=by lia
  rw[e1]at st;exact zoz (I.ok.hd hc) st fun h' eb=>⟨rfl,I.turned (t':=s.toks) (fun b o hb e=>eb b o hb e) f0 f1 f3 f4 f5⟩
 self:=fun _ _ _ _ _ st h=>zi9 st.2 h
end
theorem boot_reversed:bootBuiltins "reversed" = some (.type "reversed"):=by first|rfl|kernel_rfl
section
variable{X:Cx}{a tg:Expr}{d:DTE}{p pos:Pos}
def iRev(ta:TA):TI:=fun σ H R=>ta σ H fun vs H1=>∃l xs,vs=[.ref l]/\H1 l=some (.lst xs)/\R (ItV l xs) H1
theorem zqJ{ta:TA}(hg:Gl X "reversed") (hm:X.mg "reversed" = none) (ha:PA X [a] ta) (hs:starEach [a] X.env=[(false,eval a X.env)]:=by rfl):PI X tg (.Call (.Name "reversed" p) [a] [] pos) (iRev ta):=by
 intro pins s σ H R I h;refine Call_ (Zk I hg hm boot_reversed (PyProof.Rows.callWith_type1 (thn (ha pos pins s σ H _ I h) fun us s1 ⟨vs,H1,I1,r1,q1⟩=>?_) hs rfl))
 obtain⟨l,xs,e,hl,q⟩:=q1;subst e;cases r1 with
 | cons r rr =>
  cases rr;cases(show _=Value.ref l from r)
  obtain⟨z,its,n,rel,g⟩:=I1.hok l _ hl;have el:=rel.length;refine zgI (its:=its.toArray) (n:=n) g ?_;have I2:=I1.kept (t':=s1.toks) (h':=s1.heap.push { cls:=.type "list_reverseiterator",data:=.fields #[.ref l,.int (its.toArray.size - 1) 0] }) fun b o e=>Heap.get?_push_of_some _ e
  have ri:IsRevIter (s1.heap.push { cls:=.type "list_reverseiterator",data:=.fields #[.ref l,.int (its.toArray.size - 1) 0] }) s1.heap.objs.size l ((xs.length:Int) - 1 - ((0:Nat):Int)):=by
   refine⟨_,Heap.get?_push_size _ rfl,rfl,?_⟩;simp[el]
  refine zi9 ri ?_;refine⟨s1.heap.objs.size,[s1.heap.objs.size],_,_,H1,rfl,I2,zmE l _ xs,⟨Nat.zero_le _,ri⟩,fun b hb=>?_,q⟩
  have e:b=s1.heap.objs.size:=by simpa using hb
  subst e;exact I1.fpOk (Nat.le_refl _) (I1.hok.fresh (Nat.le_refl _))
def dItR(d:DTE):DTA:=fun ρ n R=>d ρ n fun t n'=>lLst t fun ts=>R ts.reverse n'
theorem zsd(hm:X.mg "reversed" = none) (h:DE X a d) (hg:Gl X "reversed":=by rfl) (hs:starEach [a] X.env=[(false,eval a X.env)]:=by rfl):DI X tg (.Call (.Name "reversed" p) [a] [] pos) (dItR d):=by
 obtain⟨ta,pa,h⟩:=h;refine⟨_,zqJ hg hm (Q7 pa Ur hs) hs,fun C ρ σ H n Q R S hd hq=>?_⟩
 refine h C ρ σ H n _ _ S hd fun t n' v H' r e1 hn q=>?_
 cases t with
 | list ts =>
  obtain⟨l,vs,rfl,h1,no,h2⟩:=q.lstI;refine⟨l,vs,rfl,h1,hq _ n' _ H' r e1 hn ?_⟩;intro O2 H2 g1 g2 _;have hq2:=g1 l _ h1 no;have r2:Reps X.K C.hd O2 H2 vs ts:=h2.mono (fun a o ha z=>Classical.byContradiction fun no=>g2 a o ha no z) fun a o no ha=>g1 a o ha no
  have el:=h2.length;refine⟨fun i t et=>?_,⟨hq2,by rw[List.length_reverse,el];exact Nat.le_refl _⟩⟩
  have hi:i<ts.length:=by simpa using(List.getElem?_eq_some_iff.mp et).1
  refine⟨⟨hq2,by lia⟩,fun x H3 hy=>?_⟩
  obtain⟨rfl,hy⟩:=hy;refine⟨Same.refl _,?_⟩;rw[List.getElem?_reverse hi]at et;rw[List.getElem?_reverse (by lia),el]at hy
  exact r2.getP et hy
 | _=>exact r.elim
instance zuX {d:DTE}{ρ:En}{n:Nat}{R:List PyData->Nat->Prop}:Stp (dItR d ρ n R) (d ρ n fun t n'=>lLst t fun ts=>R ts.reverse n'):=⟨fun h=>h⟩
end
theorem zi6{qs more:PR}{k v:Int×Int}(h:valP qs k=some v):valP (qs++more) k=some v:=by
 unfold valP at *;rw[List.find?_append];cases e:qs.find? fun q=>decide (q.1=k) with
 | none=>rw[e]at h;cases h
 | some q=>rw[e]at h;exact h
theorem zf7{qs:PR}{k:Int×Int}(h:k∈qs.map (·.1)):∃v,valP qs k=some v:=by
 unfold valP;cases e:qs.find? fun q=>decide (q.1=k) with
 | none =>
  obtain⟨q,hq,rfl⟩:=List.mem_map.mp h;have:=List.find?_eq_none.mp e q hq;simp at this
 | some q=>exact⟨q.2,rfl⟩
theorem zmk{no al:Bool}{qs more:PR}{b v:Int×Int}(h:bpD no al qs b=some v):bpD no al (qs++more) b=some v:=by
 unfold bpD at *;cases no
 ·cases al
  ·simp only[Bool.false_eq_true,if_false]at h ⊢;cases e1:valP qs (loH b) with
   | none=>rw[e1]at h;cases h
   | some x =>
    cases e2:valP qs (upH b) with
    | none=>rw[e1,e2]at h;cases h
    | some y =>
     rw[e1,e2]at h;rw[zi6 e1,zi6 e2];exact h
  ·exact h
 ·exact h
theorem znM{no al:Bool}{qs:PR}{b:Int×Int}(h:no=false->al=false->loH b∈qs.map (·.1)/\upH b∈qs.map (·.1)):∃v,bpD no al qs b=some v:=by
 unfold bpD;cases no
 ·cases al
  ·obtain⟨h1,h2⟩:=h rfl rfl;obtain⟨x,e1⟩:=zf7 h1;obtain⟨y,e2⟩:=zf7 h2;rw[e1,e2];exact⟨_,rfl⟩
  ·exact⟨_,rfl⟩
 ·exact⟨_,rfl⟩
theorem zk0{qs:PR}{b v:Int×Int}(h:b∉qs.map (·.1)):putT (prK qs) b (twoD v)=prK (qs++[(b,v)]):=by
 have e:((prK qs).any fun z=>decide (z.1=b))=false:=by
  rw[List.any_eq_false];intro z hz e;obtain⟨q,hq,rfl⟩:=List.mem_map.mp hz;exact h (List.mem_map.mpr ⟨q,hq,of_decide_eq_true e⟩)
 unfold putT;rw[e];simp[prK]
theorem ziW{prog:Program}{w:World}{A:Around}{R:Result->Shared->Prop}{s:Shared}{kx vx target iter:Expr}{ifs:List Expr}{scope:Scope}{pos:Pos}{it:Value}{D:Addr}{env:Env}(I:Nat->Shared->Prop)
  (turn:∀n s,I n s->wpAny (model prog w) A (pyNext it) (fun r s₁=>match r with
   | none=>R (.ok .next) s₁
   | some v=>wpAny (model prog w) A (letOwnedTupleGo target it v) (fun _ s₂=>wpAny (model prog w) A (assign target env v) (fun _ s₃ =>
     wpAny (model prog w) A (forIn ifs true fun c r=>if r=true then do let ok <- isTrue c env (eval c env);pure (ForInStep.yield ok) else pure (ForInStep.yield r)) (fun ok s₄ =>
      if ok=true then wpAny (model prog w) A (eval kx env) (fun kv s₅=>wpAny (model prog w) A (eval vx env) (fun vv s₆=>wpAny (model prog w) A (dictSet D kv vv) (fun _ s₇=>∃m,m<n/\I m s₇) NoX s₆) NoX s₅) NoX s₄
      else ∃m,m<n/\I m s₄) NoX s₃) NoX s₂) NoX s₁) NoX s) (n:Nat) (h:I n s) :
  codeAny (model prog w) A (.compLoop (.DictComp kx vx [⟨target,iter,ifs,0⟩] scope pos) 0 it (.ref D) env) R s:=by
 refine codeAny_loop rfl I (fun n s hI=>?_) n h
 show wpAny _ A ((compTurn (.DictComp kx vx [⟨target,iter,ifs,0⟩] scope pos) 0 it (.ref D) env).onRaise (fun x=>do noteFrame x env;theTreesLotGoes x)) _ _ s
 refine wpAny_noted (wpAny_mono (E:=NoX) ?_ (fun _ _ q=>q) fun _ _ z=>False.elim z)
 rw[compTurn_dict];refine wpAny_bind (wpAny_standAt (wpAny_bind (thn (turn n s hI) fun r s₁ h₁=>?_)))
 cases r with
 | none=>exact wpAny_pure h₁
 | some v =>
  refine wpAny_bind (thn h₁ fun _ s₂ h₂=>wpAny_bind (thn h₂ fun _ s₃ h₃=>wpAny_bind (thn h₃ fun ok s₄ h₄=>?_)))
  cases ok with
  | false=>exact wpAny_pure ⟨rfl,h₄⟩
  | true =>
   exact wpAny_bind (wpAny_bind (thn h₄ fun kv s₅ h₅=>wpAny_bind (wpAny_holding (thn h₅ fun vv s₆ h₆=>wpAny_bind (wpAny_standAt (wpAny_holding (thn h₆ fun _ s₇ h₇=>wpAny_pure ⟨rfl,h₇⟩)))))))
section
variable{X:Cx}{pins:qO}{σ:St}{H:Hp}{s:Shared}{a:Addr}{zs:ZT}{ep:Nat}{A:Around}{E:qV}
theorem zku{k:Int×Int}{b:Addr}{v:V}{r:Value}{Q:Unit->Shared->Prop}(hu:A.units+1<cLine)(I:Inv X pins σ H s)(h:H a=some (ZDO a zs ep))(hk:∀z∈zs,SqT X.K H z.2.1 [.int z.1.1,.int z.1.2])(hb:SqT X.K H b [.int k.1,.int k.2])(hl:zs.length<sizeLine)(rv:RelV v r)
  (hq:∀s' ep',Inv X pins σ (upd H a (ZDO a (zput zs k b v) ep')) s'->Q () s'):wpAny (model X.prog X.w) A (dictSet a (.ref b) r) Q E s:=by
 obtain⟨hs,lz,xs,x1,dd⟩:=Zq I h hk;have lx:xs.length<=sizeLine:=by rw[<- Paired.length x1];exact lz
 refine wpAny_dictSet_heap (hsz:=lx) (show A.units<cLine by lia) (Uq (k:=kL k) I hb) dd fun h' dd' hs'=>?_
 have he:∃q,h'.get? a=some q:=let ⟨q,_,_,e,_⟩:=dd';⟨q,e⟩
 have lz':(zput zs k b v).length<=sizeLine:=by have:=zf6 zs k b v;lia
 have ok:∀H':Hp,∃ep',JL X.prog X.w H' h' a (ZDO a (zput zs k b v) ep'):=fun H'=>Zr hs lz' (zkp x1 k rv) dd'
 obtain⟨ep',ok1⟩:=ok H;exact hq _ ep' (zl7 I (by rw[h];exact True.intro) hs' he ok1)
end
def zss(K:qF)(own:List Str)(capt:List Nat)(g:TG)(tt:TT)(tk tv:TE)(σ:St)(J:It)(H1:Hp)(D:Addr)(Q:VK):Prop:=∃W:Nat->Nat->Hp->Prop,(∀ep,∃m,W 0 m (upd H1 D (ZDO D [] ep)))/\∀i m H2,W i m H2 ->
 (J.stop i H2/\Q (.ref D) H2)\/(J.go i H2/\∃(N:V->V->Hp->Prop) (N':Hp->Prop),(∀kv v H6,N kv v H6->∃zs ep k b,kv=.ref b/\H6 D=some (ZDO D zs ep)/\(∀z∈zs,SqT K H6 z.2.1 [.int z.1.1,.int z.1.2])/\SqT K H6 b [.int k.1,.int k.2]/\zs.length<sizeLine/\∀ep',∃m',m'<m/\W (i+1) m' (upd H6 D (ZDO D (zput zs k b v) ep')))/\(∀H5,N' H5->∃m',m'<m/\W (i+1) m' H5) /\
  ∀x H3,J.yld i H2 x H3->g x (Jy own++capS capt σ) H3 fun σ4 H4=>Wk (Jy own++capS capt σ) σ4/\tt σ4 H4 fun b H5=>if b=true then tk σ4 H5 (fun kv H6=>tv σ4 H6 (N kv)) else N' H5)
def tCompZ(K:qF)(own:List Str)(capt:List Nat)(wi:TI)(g:TG)(tt:TT)(tk tv:TE):TE:=fun σ H Q=>wi σ H fun J H1=>∀D,H1 D=none->zss K own capt g tt tk tv σ J H1 D Q
section
variable{X:Cx}{scope:Scope}{own:List Str}{capt:List Nat}{kx vx tg iter:Expr}{ifs:List Expr}{pos:Pos}{wi:TI}{g:TG}{tt:TT}{tk tv:TE}
theorem zmd(hu:X.A.units+1<cLine)(hc:X.calm=true)(S:CompScope scope own capt X)
  (hg:∀C s₀ H₀ fp,PG (Jh X scope own capt C s₀ H₀ fp) tg g) (ht:∀C s₀ H₀ fp,PTs (Jh X scope own capt C s₀ H₀ fp) ifs tt) (hk:∀C s₀ H₀ fp,PE (Jh X scope own capt C s₀ H₀ fp) kx tk) (he:∀C s₀ H₀ fp,PE (Jh X scope own capt C s₀ H₀ fp) vx tv)
  {pins:qO} {σ:St} {Q:VK} {itv:Value} {s2:Shared} {E:qV} {RR:Value->Addr->Result->Shared->Prop}
  (h2:PIE X pins σ tg (fun J H1=>∀D,H1 D=none->zss X.K own capt g tt tk tv σ J H1 D Q) itv s2)
  (hR:∀D C s' H',(∃m,s'.heap.Ns C m)->(∀h'',Heap.SameBut C s'.heap h''->Inv X pins σ H' { s' with heap:=h'' })->H' C=none->FpOk X pins H' C->Q (.ref D) H'->RR (.ref D) C (.ok .next) s') :
  wpAny (model X.prog X.w) X.A newDict (fun acc s₃=>wpAny (model X.prog X.w) X.A (newFunctionEnv scope X.env.globals (closed X.env scope.names []) [] X.env.qual none .none (some X.env)) (fun cenv s₄ =>
   codeAny (model X.prog X.w) X.A (.compStart (.DictComp kx vx [⟨tg,iter,ifs,0⟩] scope pos) 0 itv acc { cenv with scope:=relabel scope X.env }) (RR acc cenv.locals) s₄) E s₃) E s2:=by
 obtain⟨it,fp,tn,J,H2,e,I2,T,st2,f2,rd⟩:=h2;subst e;have hfp:∀b∈fp,b<s2.heap.objs.size:=fun b hb=>by
  obtain⟨o,e,_⟩:=T.obj 0 _ st2 b hb;exact Heap.lt_size e
 have hsm:(s2.heap.objs.size == sysModules)=false:=beq_eq_false_iff_ne.mpr (Ne.symm (Nat.ne_of_lt I2.big));refine wpAny_newObj_type (wpAny_newFunctionEnv S.nocell (by intro y hy;simp at hy) (fun h₁ hns₁ hsb₁=>?_) S.kind)
 dsimp only at hns₁ hsb₁ ⊢;have hnew:(s2.heap.push { cls:=.type "dict",dict:=none,data:=.dict #[] }).DictOfH (tupleKind (JJ X.prog X.w)) s2.heap.objs.size []:=Heap.DictOfH.new s2.heap;generalize hH3:s2.heap.push { cls:=.type "dict",dict:=none,data:=.dict #[] }=H3 at hns₁ hsb₁ hnew ⊢;have hC:H3.objs.size=s2.heap.objs.size+1:=by rw[<- hH3,Heap.size_push]
 have hDC:s2.heap.objs.size≠H3.objs.size:=by rw[hC];exact Nat.ne_of_lt (Nat.lt_succ_self _)
 have hCle:s2.heap.objs.size<=H3.objs.size:=by rw[hC];exact Nat.le_succ _
 have neC:∀b o,s2.heap.get? b=some o->b≠H3.objs.size:=fun b o e=>Nat.ne_of_lt (Nat.lt_of_lt_of_le (Heap.lt_size e) hCle)
 have old:∀b o,s2.heap.get? b=some o->h₁.get? b=some o:=fun b o e=>hsb₁.extBut b o (neC b o e) (Heap.get?_push_of_some _ (hH3▸Heap.get?_push_of_some _ e))
 have hnD:H2 s2.heap.objs.size=none:=I2.hok.fresh (Nat.le_refl _);have hacc:∀H',∃ep,JL X.prog X.w H' h₁ s2.heap.objs.size (ZDO s2.heap.objs.size [] ep):=fun H'=>by
  refine Zr (X:=X) (H':=H') (zs:=[]) hsm (Nat.zero_le _) .nil ?_;obtain⟨o,es,ep,g1,g2⟩:=hnew;exact⟨o,es,ep,hsb₁.extBut _ _ hDC (Heap.get?_push_of_some _ g1),g2.1,g2.2.1,g2.2.2.1,fun x hx=>absurd hx (by simp),g2.2.2.2.2⟩
 obtain⟨ep0,hacc⟩:=hacc H2;have hacc:JL X.prog X.w (upd H2 s2.heap.objs.size (ZDO s2.heap.objs.size [] ep0)) h₁ s2.heap.objs.size (ZDO s2.heap.objs.size [] ep0):=hacc;obtain⟨W,w0,turn⟩:=rd _ hnD;obtain⟨m0,w0⟩:=w0 ep0;have J0:∀tk,Inv (Jh X scope own capt H3.objs.size s2 H2 fp) [] (Jy own++capS capt σ) (upd H2 s2.heap.objs.size (ZDO s2.heap.objs.size [] ep0)) { s2 with heap:=h₁,toks:=tk }:=fun tk =>
  zhF (tk:=tk) S I2 f2 hfp (Nat.le_refl _) hCle hDC old hns₁ hacc
 have fr0:∀b∈fp,upd H2 s2.heap.objs.size (ZDO s2.heap.objs.size [] ep0) b=none:=fun b hb=>by
  rw[Jv (Nat.ne_of_lt (hfp b hb))];exact(f2 b hb).1
 have stat:∀{H':Hp},(∀b∈fp,H' b=none)->∀b∈fp,FpOk (Jh X scope own capt H3.objs.size s2 H2 fp) [] H' b:=fun hn b hb=>by
  obtain⟨g0,g1,g2,g3,g4,g5⟩:=f2 b hb;have sub:=Y7 scope.names [] (S.cells I2.ok) (fun x c h=>nomatch (show(none:Option Addr)=some c from h))
  refine⟨hn b hb,Nat.ne_of_lt (Nat.lt_of_lt_of_le (hfp b hb) hCle),fun z=>?_,.inl hb,fun x c e=>g4 x c (sub x c e),fun p hp=>absurd (show p∈([]:qO) from hp) (by simp)⟩
  rcases List.mem_cons.mp (I2.stkSub b z) with q|q
  ·exact g1 q
  ·exact g2 q
 have loop:∀s₃:Shared,(∃tk,s₃={ s2 with heap:=h₁,toks:=tk }) ->
   codeAny (model X.prog X.w) X.A (.compLoop (.DictComp kx vx [⟨tg,iter,ifs,0⟩] scope pos) 0 (.ref it) (.ref s2.heap.objs.size) (compEnvC scope (closed X.env scope.names []) H3.objs.size X.env)) (RR (.ref s2.heap.objs.size) H3.objs.size) s₃:=by
  rintro s₃ ⟨tk,rfl⟩;refine ziW (fun n s'=>∃i H',Inv (Jh X scope own capt H3.objs.size s2 H2 fp) [] (Jy own++capS capt σ) H' s'/\tn i s'.heap/\(∀b∈fp,H' b=none)/\W i n H') ?_ m0
   ⟨0,_,J0 tk,T.keep _ _ _ st2 fun b hb o e=>old b o e,fr0,w0⟩
  rintro n s4 ⟨i,H4,I4,st4,fr4,w4⟩;rcases turn i n H4 w4 with⟨stop,qn⟩|⟨go,N,N',hN,hN',step⟩
  ·refine thn (T.done (Jh X scope own capt H3.objs.size s2 H2 fp) rfl rfl rfl hc i [] s4 _ H4 NoX I4 (stat fr4) st4 stop) fun r s5 ⟨hr,I5⟩=>?_
   subst hr;obtain⟨m,hn,_⟩:=I5.loc;exact hR _ _ s5 H4 ⟨m,hn⟩ (fun h'' sb=>zgH I2 f2 hCle I5 sb) I5.free (I2.fpOk hCle I5.free) qn
  ·refine thn (T.item (Jh X scope own capt H3.objs.size s2 H2 fp) rfl rfl rfl hc i [] s4 _ H4 NoX I4 (stat fr4) st4 go) fun r s5 ⟨u,hr,h5⟩=>?_
   subst hr;refine thn h5 fun _ s6 ⟨x,H6,I6,r6,y6,st6,fr6⟩=>?_
   have I6':=I6.pinned (stat fr6) (T.obj _ _ st6);refine thn (hg _ _ _ _ _ s6 _ H6 x u _ I6' r6 (step x H6 y6)) fun _ s7 ⟨σ7,H7,I7,wk,q7⟩=>?_
   obtain⟨wl,wv⟩:=wk.weak;have again:∀{s8:Shared} {H8:Hp} {m':Nat},Inv (Jh X scope own capt H3.objs.size s2 H2 fp) ([]++Ut fp s6.heap) σ7 H8 s8->m'<n->W (i+1) m' H8 ->
     ∃m,m<n/\∃i H',Inv (Jh X scope own capt H3.objs.size s2 H2 fp) [] (Jy own++capS capt σ) H' s8/\tn i s8.heap/\(∀b∈fp,H' b=none)/\W i m H':=fun {s8 H8 m'} I8 hm w8=>by
    refine⟨m',hm,i+1,H8,(I8.unpinned).weak wl wv,T.keep _ _ _ st6 fun b hb o e=>(I8.pin (b,o) (List.mem_append_right _ (List.mem_append_right _ (Q1 hb e)))).1,fun b hb=>?_,w8⟩
    obtain⟨o,e,d⟩:=T.obj _ _ st6 b hb;exact(I8.pin (b,o) (List.mem_append_right _ (List.mem_append_right _ (Q1 hb e)))).2.1
   refine thn (ht _ _ _ _ _ s7 σ7 H7 _ I7 q7) fun ok s8 ⟨H8,I8,q8⟩=>?_
   cases ok with
   | false =>
    obtain⟨m',hm,w8⟩:=hN' H8 (by simpa using q8)
    exact again I8 hm w8
   | true =>
    refine thn (hk _ _ _ _ _ s8 σ7 H8 (fun kv H6=>tv σ7 H6 (N kv)) I8 (by simpa using q8)) fun y s9 ⟨kv,H9,I9,r9,q9⟩=>?_
    refine thn (he _ _ _ _ _ s9 σ7 H9 _ I9 q9) fun y2 s10 ⟨v,H10,I10,r10,q10⟩=>?_
    obtain⟨zs,ep,k,b,rfl,hD,hsq,hb,hl,w9⟩:=hN kv v H10 q10;cases(show y=Value.ref b from r9)
    refine zku (X:=Jh X scope own capt H3.objs.size s2 H2 fp) hu I10 hD hsq hb hl r10 fun s11 ep' I11=>?_
    obtain⟨m',hm,w9⟩:=w9 ep';exact again I11 hm w9
 exact codeAny_compStart_dict (loop _ ⟨_,rfl⟩) (T.self X.A 0 _ _ _ (T.keep _ _ _ st2 fun b hb o e=>old b o e) (loop _ ⟨_,rfl⟩))
theorem zm3(hu:X.A.units+1<cLine)(hc:X.calm=true)(S:CompScope scope own capt X)(hi:PI X tg iter wi)
  (hg:∀C s₀ H₀ fp,PG (Jh X scope own capt C s₀ H₀ fp) tg g) (ht:∀C s₀ H₀ fp,PTs (Jh X scope own capt C s₀ H₀ fp) ifs tt) (hk:∀C s₀ H₀ fp,PE (Jh X scope own capt C s₀ H₀ fp) kx tk) (he:∀C s₀ H₀ fp,PE (Jh X scope own capt C s₀ H₀ fp) vx tv)
  (hs:∀x,foldedSetIterable iter X.env x=pure x:=by intro _;rfl):PE X (.DictComp kx vx [⟨tg,iter,ifs,0⟩] scope pos) (tCompZ X.K own capt wi g tt tk tv):=by
 intro pins s σ H Q I h;rw[arm_eval_DictComp];refine wpAny_comprehension_free (use:=none) rfl hs (zbm (S.cells I.ok)) S.kind S.names (thn (hi pins s σ H _ I h) fun v s1 h1=>thn h1 fun itv s2 h2=>?_)
 refine zmd (RR:=fun acc C=>compPost (model X.prog X.w) X.A X.xe none (EP X pins σ Q) acc C) hu hc S hg ht hk he h2 fun D C s' H' hn J _ _ q=>?_
 obtain⟨m,hn⟩:=hn;exact⟨m,hn,fun h'' sb=>⟨.ref D,H',J h'' sb,rfl,q⟩⟩
end
def QG(g:DTG)(tt:DTT)(tk tv:DTE)(ρ0:En):List PyData->KT2->Nat->(KT2->Nat->Prop)->Prop
 | [],acc,n,R=>R acc n
 | x::xs,acc,n,R=>g x ρ0 fun ρ1=>tt ρ1 n fun b n2=>if b=true then tk ρ1 n2 fun y n3=>tv ρ1 n3 fun t n4=>lBlk y fun k=>acc.length<16777216/\QG g tt tk tv ρ0 xs (putT acc k t) n4 R else QG g tt tk tv ρ0 xs acc n2 R
def dCompT(m:Nat)(capt:List Nat)(di:DTA)(g:DTG)(tt:DTT)(tk tv:DTE):DTE:=fun ρ n R=>di ρ n fun ts n1=>QG g tt tk tv (JA m capt ρ) ts [] n1 fun ks n'=>R (.dict (Js ks)) n'
section
variable{X:Cx}{scope:Scope}{own:List Str}{capt:List Nat}{kx vx tg iter:Expr}{ifs:List Expr}{pos:Pos}{di:DTA}{is:List Nat}{g:DTG}{tt:DTT}{tk tv:DTE}
theorem znD(hu:X.A.units+1<cLine)(hc:X.calm=true)(S:CompScope scope own capt X)(hi:DIL X tg iter di)
  (hg:∀C s₀ H₀ fp,DG (Jh X scope own capt C s₀ H₀ fp) tg is g) (hin:∀i∈is,i<own.length) (ht:∀C s₀ H₀ fp,DTs (Jh X scope own capt C s₀ H₀ fp) ifs tt) (hk:∀C s₀ H₀ fp,DE (Jh X scope own capt C s₀ H₀ fp) kx tk) (he:∀C s₀ H₀ fp,DE (Jh X scope own capt C s₀ H₀ fp) vx tv)
  (hs:∀x,foldedSetIterable iter X.env x=pure x:=by intro _;rfl):DE X (.DictComp kx vx [⟨tg,iter,ifs,0⟩] scope pos) (dCompT own.length capt di g tt tk tv):=by
 obtain⟨wi,pi,hi⟩:=hi
 let Xf:(Addr×Shared×Hp×List Addr)->Cx:=fun q=>Jh X scope own capt q.1 q.2.1 q.2.2.1 q.2.2.2
 have hK:∀q,(Xf q).K=X.K:=fun _=>rfl
 have hne:Nonempty (Addr×Shared×Hp×List Addr):=⟨(0,X.s₀,X.H₀,[])⟩;obtain⟨gg,pg,hgg⟩:=DG.uni (Xf:=Xf) hK fun q=>hg q.1 q.2.1 q.2.2.1 q.2.2.2
 obtain⟨gt,pt,hgt⟩:=DTs.uni (Xf:=Xf) hK fun q=>ht q.1 q.2.1 q.2.2.1 q.2.2.2
 obtain⟨gk,pk,hgk⟩:=DE.uni (Xf:=Xf) hK fun q=>hk q.1 q.2.1 q.2.2.1 q.2.2.2
 obtain⟨ge,pe,hge⟩:=DE.uni (Xf:=Xf) hK fun q=>he q.1 q.2.1 q.2.2.1 q.2.2.2
 refine⟨_,zm3 hu hc S pi (fun C s₀ H₀ fp=>pg (C,s₀,H₀,fp)) (fun C s₀ H₀ fp=>pt (C,s₀,H₀,fp)) (fun C s₀ H₀ fp=>pk (C,s₀,H₀,fp)) (fun C s₀ H₀ fp=>pe (C,s₀,H₀,fp)) hs,fun C ρ σ H n Q R St hd hq=>?_⟩
 refine hi C ρ σ H n _ _ St hd fun ts n1 J H1 r e1 hn it=>fun D hD1=>?_
 have St1:=St.on e1 hn;have hD:H D=none:=ziO e1 hn hD1;have nhd:C.hd≠some D:=fun z=>St.dom (.inl (St.hx D z)) hD
 refine⟨fun i m H2=>m=ts.length - i/\i<=ts.length/\∃zs ep acc n2,H2 D=some (ZDO D zs ep)/\QG g tt tk tv (JA own.length capt ρ) (ts.drop i) acc n2 (fun ks n'=>R (.dict (Js ks)) n')/\RepsT X.K C.hd (fun a=>Own C ρ σ a\/a=D) H2 zs acc/\ExtE C.hd H1 H2/\Hn C.hd H2 n2,
  fun ep=>⟨ts.length,rfl,Nat.zero_le _,[],ep,[],n1,JQ,by simpa using r,.nil,ExtE.new hD1,hn.same (Qb hD1)⟩,?_⟩
 rintro i m H2 ⟨rfl,hil,zs,ep,acc,n2,hy,c2,r2,e2,hn2⟩;have itq:=it (fun a=>Own C ρ σ a\/a=D) H2 (fun a o ha nh=>e2 a o ha nh) (fun a o ha no z=>z.elim no fun z=>by subst z;rw[hD1]at ha;cases ha) (fun a z=>z.elim (fun z=>(St1.on e2 hn2).dom z) fun z=>by subst z;rw[hy];exact fun z=>by cases z)
 by_cases hlt:i<ts.length
 ·have et:ts[i]?=some ts[i]:=List.getElem?_eq_getElem hlt;rw[List.drop_eq_getElem_cons hlt]at c2;obtain⟨go,yl⟩:=itq.1 i _ et;have zl:∀{H6:Hp},ExtE C.hd H2 H6->RepsT X.K C.hd (fun a=>Own C ρ σ a\/a=D) H6 zs acc:=fun e=>r2.mono (fun _ _ _ z=>z) fun a o no ha=>e a o ha fun z=>no (.inl (.inl (St.hx a z)))
  refine .inr ⟨go,fun kv v H6=>∃k t b n4,kv=.ref b/\acc.length<16777216/\QG g tt tk tv (JA own.length capt ρ) (ts.drop (i+1)) (putT acc k t) n4 (fun ks n'=>R (.dict (Js ks)) n')/\ExtE C.hd H2 H6/\Hn C.hd H6 n4/\Rep X.K C.hd (fun a=>Own C ρ σ a\/a=D) H6 (.ref b) (.tuple [.int k.1,.int k.2])/\Rep X.K C.hd (fun a=>Own C ρ σ a\/a=D) H6 v t,
   fun H5=>∃n2,QG g tt tk tv (JA own.length capt ρ) (ts.drop (i+1)) acc n2 (fun ks n'=>R (.dict (Js ks)) n')/\ExtE C.hd H2 H5/\Hn C.hd H5 n2,?_,?_,?_⟩
  ·rintro kv v H6 ⟨k,t,b,n4,rfl,hl,c6,e6,hn6,rk,rv⟩;have z6:=zl e6;have hy6:H6 D=some (ZDO D zs ep):=e6 D _ hy nhd;obtain⟨b',eb,sq⟩:=rk.bkI;cases eb;refine⟨zs,ep,k,b,rfl,hy6,z6.sq,sq,by rw[z6.length];exact hl,fun ep'=>⟨ts.length - (i+1),by lia,rfl,hlt,_,ep',_,n4,JQ,c6,?_,?_,?_⟩⟩
   ·exact(z6.put k rk rv).mono (fun _ _ _ z=>z) fun a o no ha=>by rw[Jv (show a≠D from fun z=>no (.inr z))];exact ha
   ·exact fun a o ha nh=>by
     rw[Jv (Qu ha hD1)];exact(e2.trans e6) a o ha nh
   ·exact fun a ha=>by
     obtain⟨d,m,t,q,rest⟩:=hn6 a ha;exact⟨d,m,t,by rw[Jv (show a≠D from fun z=>nhd (by rw[<- z];exact ha))];exact q,rest⟩
  ·rintro H5 ⟨n2',c5,e5,hn5⟩;exact⟨ts.length - (i+1),by lia,rfl,hlt,zs,ep,acc,n2',e5 D _ hy nhd,c5,zl e5,e2.trans e5,hn5⟩
  ·intro x H3 hyd;obtain⟨sm,rx⟩:=yl x H3 hyd;have hn3:=hn2.same sm;have e3:ExtE C.hd H1 H3:=e2.trans sm.ext;obtain⟨I3,no3⟩:=zhE (own:=own) (capt:=capt) (D:=D) St (e1.trans e3) hn3 hD (.inr (.inr ⟨_,_,_,sm _ _ hy⟩));have rx':Rep X.K C.hd (Own ⟨C.hd,fun a=>Own C ρ σ a\/a=D⟩ (JA own.length capt ρ) (Jy own++capS capt σ)) H3 x ts[i]:=rx.mono (fun a o _ z=>z.elim id fun z=>absurd z (no3 a)) fun _ _ _ z=>z
   refine hgg ⟨C.hd,fun a=>Own C ρ σ a\/a=D⟩ (JA own.length capt ρ) (Jy own++capS capt σ) H3 n2 x ts[i] _ _ I3 rx' c2 fun ρ4 σ4 r4 S4 k4 hj hl=>⟨Wk.of hl.symm fun j v ej=>?_,?_⟩
   ·by_cases hjo:j<own.length
    ·rw[List.getElem?_append_left (by simpa using hjo),List.getElem?_map]at ej
     cases z:own[j]? with
     | none=>rw[z]at ej;cases ej
     | some q=>rw[z]at ej;cases ej
    ·rw[hj j (fun z=>hjo (hin j z))];exact ej
   ·refine hgt _ ρ4 σ4 H3 n2 _ _ S4 r4 fun b n5 H5 r5 e5 hn5=>?_
    have S5:=S4.on e5 hn5;cases b with
    | false=>exact iteF ⟨n5,by simpa using r5,(Same.ext sm).trans e5,hn5⟩
    | true =>
     refine iteT (hgk _ ρ4 σ4 H5 n5 _ _ S5 (by simpa using r5) fun y n6 kv H6 r6 e6 hn6 q6=>?_)
     have S6:=S5.on e6 hn6;refine hge _ ρ4 σ4 H6 n6 _ _ S6 r6 fun t n7 v H7 r7 e7 hn7 q7=>?_
     obtain⟨k,rfl,hl,c7⟩:=r7;have q6':=e7.rep S6.hx q6;obtain⟨b,rfl,sb⟩:=q6'.bkI;exact⟨k,t,b,n7,rfl,hl,c7,(Same.ext sm).trans (e5.trans (e6.trans e7)),hn7,q6'.mono (fun _ _ _ z=>.inl z) fun _ _ _ z=>z,q7.mono (fun _ _ _ z=>.inl z) fun _ _ _ z=>z⟩
 ·have e:i=ts.length:=by lia
  subst e;rw[List.drop_length]at c2;exact .inl ⟨itq.2,hq _ n2 _ H2 c2 (e1.trans e2) hn2 (.dcT hy (fun z=>St1.free hD1 z) (r2.mono (fun _ _ _ z=>.inl z) fun _ _ _ z=>z) rfl)⟩
end
section
variable{m:Nat}{capt:List Nat}{di:DTA}{tg:DTG}{tt:DTT}{tk tv:DTE}{ρ ρ0:En}{n:Nat}{R:qN}{Rt:KT2->Nat->Prop}
instance ztA [h:CompN m capt ρ ρ0]:Stp (dCompT m capt di tg tt tk tv ρ n R) (di ρ n fun ts n1=>QG tg tt tk tv ρ0 ts [] n1 fun ks n'=>R (.dict (Js ks)) n'):=⟨fun k=>by
 unfold dCompT;rw[h.e];exact k⟩
theorem zkh{α:Type}{cs:List α}{D:α->PyData}(F:α->(Int×Int))(G:α->PyData)(hl:cs.length<16777216)
  (step:∀b∈cs,∀(K:PyData->Nat->PyData->Nat->Prop) (X:Nat->Prop),K (blkT (F b)) n (G b) n->tg (D b) ρ0 fun ρ1=>tt ρ1 n fun c n2=>if c=true then tk ρ1 n2 fun y n3=>tv ρ1 n3 fun t n4=>K y n3 t n4 else X n2)
  (fin:Rt (cs.foldl (fun acc b=>putT acc (F b) (G b)) []) n):QG tg tt tk tv ρ0 (cs.map D) [] n Rt:=by
 have len:∀(acc:KT2) k t,(putT acc k t).length<=acc.length+1:=fun acc k t=>by
  unfold putT;split
  ·rw[List.length_map];exact Nat.le_succ _
  ·simp
 have key:∀(xs:List α) (acc:KT2),(∀x∈xs,x∈cs)->acc.length+xs.length<16777216->Rt (xs.foldl (fun acc b=>putT acc (F b) (G b)) acc) n->QG tg tt tk tv ρ0 (xs.map D) acc n Rt:=by
  intro xs;induction xs with
  | nil=>intro acc _ _ h;exact h
  | cons x xs ih =>
   intro acc hx hl h;have hl':acc.length+(xs.length+1)<16777216:=hl;exact step x (hx x (.head _)) (fun y _ t n4=>lBlk y fun k=>acc.length<16777216/\QG tg tt tk tv ρ0 (xs.map D) (putT acc k t) n4 Rt) (fun n2=>QG tg tt tk tv ρ0 (xs.map D) acc n2 Rt)
    ⟨F x,rfl,by lia,ih _ (fun y hy=>hx y (.tail _ hy)) (by have:=len acc (F x) (G x);lia) h⟩
 exact key cs [] (fun _ h=>h) (by simpa using hl) fin
end
noncomputable def zb7 (ps:BL):Nat->Int×Int->Int×Int
 | 0,b=>open Classical in if HasN ps b then(0,1) else(1,0)
 | h+1,b=>open Classical in if HasN ps b then(0,1) else if HasA ps b then(1,0) else
  ((if (zb7 ps h (loH b)).2+(zb7 ps h (upH b)).2+1<(zb7 ps h (loH b)).1+(zb7 ps h (upH b)).1 then(zb7 ps h (loH b)).2+(zb7 ps h (upH b)).2+1 else(zb7 ps h (loH b)).1+(zb7 ps h (upH b)).1),
   if (zb7 ps h (loH b)).1+(zb7 ps h (upH b)).1+1<(zb7 ps h (loH b)).2+(zb7 ps h (upH b)).2 then(zb7 ps h (loH b)).1+(zb7 ps h (upH b)).1+1 else(zb7 ps h (loH b)).2+(zb7 ps h (upH b)).2)
structure PrsI(bits:Int)(ps bs:BL)(k:Nat)(qs:PR):Prop where
 keys:qs.map (·.1)=bs.reverse.take k
 pos:∀q∈qs,0<=q.2.1/\0<=q.2.2
 rgt:∀q∈qs,∀no al:Bool,(no=true↔HasN ps q.1)->(al=true↔HasA ps q.1)->bpD no al qs q.1=some q.2
theorem Y9{qs:PR}{k v:Int×Int}(h:valP qs k=some v):(k,v)∈qs:=by
 unfold valP at h;obtain⟨q,h1,h2⟩:=Option.map_eq_some_iff.mp h;have e:=List.find?_some h1;have m:=List.mem_of_find?_eq_some h1;have e':q.1=k:=of_decide_eq_true e;rw[<- e',<- h2];exact m
theorem zh0{qs:PR}(nd:(qs.map (·.1)).Nodup){q:(Int×Int)×(Int×Int)}(h:q∈qs):valP qs q.1=some q.2:=by
 induction qs with
 | nil=>cases h
 | cons x xs ih =>
  rw[List.map_cons,List.nodup_cons]at nd;unfold valP;rw[List.find?_cons]
  by_cases e:x.1=q.1
  ·rw[decide_eq_true e];rcases List.mem_cons.mp h with rfl|h
   ·rfl
   ·exact absurd (List.mem_map_of_mem (f:=(·.1)) h) (e▸nd.1)
  ·rw[decide_eq_false e];rcases List.mem_cons.mp h with rfl|h
   ·exact absurd rfl e
   ·exact ih nd.2 h
theorem zhf{α:Type}{l:List α}(h:l.Nodup):l.reverse.Nodup:=List.pairwise_reverse.mpr (List.Pairwise.imp (fun h=>Ne.symm h) h)
section
variable{bits:Int}{ps bs:BL}{b:Int×Int}{qs:PR}{k:Nat}
theorem zqu{α:Type}{l:List α}{k:Nat}{x:α}(h:l.reverse[k]?=some x):k<l.length/\l[l.length - 1 - k]?=some x:=by
 have hk:k<l.length:=by simpa using(List.getElem?_eq_some_iff.mp h).1
 rw[List.getElem?_reverse hk]at h;exact⟨hk,h⟩
theorem zi8{α:Type}{l:List α}{i k:Nat}{x:α}(h:l[i]?=some x)(hk:l.length - 1 - k<i):x∈l.reverse.take k:=by
 have hi:=(List.getElem?_eq_some_iff.mp h).1;have e:l.reverse[l.length - 1 - i]?=some x:=by
  rw[List.getElem?_reverse (by lia)]
  rw[<- h];congr 1;lia
 refine List.mem_of_getElem? (i:=l.length - 1 - i) ?_;rw[List.getElem?_take_of_lt (by lia)]
 exact e
theorem PrsI.start:PrsI bits ps bs 0 []:=⟨rfl,(fun q h=>nomatch h),(fun q h=>nomatch h)⟩
theorem PrsI.step(I:PInv bits ps bs bs.length)(J:PrsI bits ps bs k qs)(hb:bs.reverse[k]?=some b){no al:Bool}(hn:no=true↔HasN ps b)(ha:al=true↔HasA ps b):∃v,bpD no al qs b=some v/\b∉qs.map (·.1)/\PrsI bits ps bs (k+1) (qs++[(b,v)]):=by
 obtain⟨hk,hb'⟩:=zqu hb;have kids:no=false->al=false->loH b∈qs.map (·.1)/\upH b∈qs.map (·.1):=fun e1 e2=>by
  have pr:Prt ps b:=⟨(fun z=>by rw[hn.mpr z]at e1;cases e1),(fun z=>by rw[ha.mpr z]at e2;cases e2)⟩
  obtain⟨⟨i1,a1,a2⟩,i2,c1,c2⟩:=I.kid _ b (by lia) hb' pr
  rw[J.keys];exact⟨zi8 a2 (by lia),zi8 c2 (by lia)⟩
 obtain⟨v,hv⟩:=znM kids;have nd:bs.reverse.Nodup:=zhf I.nd;have fresh:b∉qs.map (·.1):=by
  rw[J.keys];intro m;obtain⟨i,hi⟩:=List.mem_iff_getElem?.mp m;have il:i<k:=by
   have:=(List.getElem?_eq_some_iff.mp hi).1;rw[List.length_take]at this;lia
  rw[List.getElem?_take_of_lt il]at hi;have:=(List.getElem?_inj (by rw[List.length_reverse];lia) nd).mp (hi.trans hb.symm)
  lia
 have pv:0<=v.1/\0<=v.2:=by
  unfold bpD at hv;cases no
  ·cases al
   ·simp only[Bool.false_eq_true,if_false]at hv;cases e1:valP qs (loH b) with
    | none=>rw[e1]at hv;cases hv
    | some x =>
     cases e2:valP qs (upH b) with
     | none=>rw[e1,e2]at hv;cases hv
     | some y =>
      rw[e1,e2]at hv;have px:=J.pos _ (Y9 e1);have py:=J.pos _ (Y9 e2);dsimp only at px py;cases hv;dsimp only;constructor <;> split <;> lia
   ·cases hv;decide
  ·cases hv;decide
 refine⟨v,hv,fresh,?_,?_,?_⟩
 ·rw[List.map_append,J.keys,List.take_succ,hb];rfl
 ·intro q hq;rcases List.mem_append.mp hq with hq|hq
  ·exact J.pos q hq
  ·cases List.mem_singleton.mp hq;exact pv
 ·intro q hq no' al' hn' ha';rcases List.mem_append.mp hq with hq|hq
  ·exact zmk (J.rgt q hq no' al' hn' ha')
  ·cases List.mem_singleton.mp hq;have e1:no'=no:=by rw[Bool.eq_iff_iff,hn',hn]
   have e2:al'=al:=by rw[Bool.eq_iff_iff,ha',ha]
   rw[e1,e2];exact zmk hv
def PrOk(bits:Int)(ps:BL)(qs:PR):Prop:=∃bs:BL,PInv bits ps bs bs.length/\PrsI bits ps bs bs.length qs
theorem PrOk.bk(h:PrOk bits ps qs):∀q∈qs,IsBk bits q.1.1 q.1.2:=fun q hq=>by
 obtain⟨bs,I,J⟩:=h;have:=List.mem_map_of_mem (f:=(·.1)) hq;rw[J.keys]at this;exact I.bk _ (List.mem_reverse.mp (List.mem_of_mem_take this))
theorem PrOk.nd(h:PrOk bits ps qs):(qs.map (·.1)).Nodup:=by
 obtain⟨bs,I,J⟩:=h;rw[J.keys,<- List.length_reverse,List.take_length];exact zhf I.nd
theorem PrOk.root(h:PrOk bits ps qs):∃v,valP qs (0,bits)=some v:=by
 obtain⟨bs,I,J⟩:=h;refine zf7 ?_;rw[J.keys,<- List.length_reverse,List.take_length];exact List.mem_reverse.mpr (List.mem_of_getElem? I.root)
theorem PrOk.pos(h:PrOk bits ps qs):∀q∈qs,0<=q.2.1/\0<=q.2.2:=by
 obtain⟨bs,I,J⟩:=h;exact J.pos
theorem PrOk.len(h:PrOk bits ps qs)(b1:bits<=64)(P:Bks bits ps):1<=qs.length/\qs.length<=1+130*ps.length:=by
 obtain⟨bs,I,J⟩:=h;have e:qs.length=bs.length:=by
  have:=congrArg List.length J.keys;simpa using this
 have:=(List.getElem?_eq_some_iff.mp I.root).1;have:=I.len b1 P;lia
theorem PrOk.rgt(h:PrOk bits ps qs):∀q∈qs,∀no al:Bool,(no=true↔HasN ps q.1)->(al=true↔HasA ps q.1)->bpD no al qs q.1=some q.2:=by
 obtain⟨bs,I,J⟩:=h;exact J.rgt
theorem PrOk.val(h:PrOk bits ps qs):∀(n:Nat),∀q∈qs,q.1.2.toNat=n->q.2=zb7 ps n q.1:=by
 classical
 intro n;induction n with
 | zero =>
  intro q hq e;have:=h.rgt q hq (decide (HasN ps q.1)) (decide (HasA ps q.1)) (by rw[decide_eq_true_eq]) (by rw[decide_eq_true_eq])
  unfold bpD at this;unfold zb7
  by_cases hn:HasN ps q.1
  ·rw[decide_eq_true hn]at this;rw[if_pos hn];exact(Option.some.inj this).symm
  ·have ha:HasA ps q.1:=by
    have h0:=(h.bk q hq).1;rcases zgv (ps:=ps) (b:=q.1) (by lia) with z|z
    ·exact absurd z hn
    ·exact z
   rw[decide_eq_false hn,decide_eq_true ha]at this;rw[if_neg hn];exact(Option.some.inj this).symm
 | succ n ih =>
  intro q hq e;have:=h.rgt q hq (decide (HasN ps q.1)) (decide (HasA ps q.1)) (by rw[decide_eq_true_eq]) (by rw[decide_eq_true_eq])
  unfold bpD at this;unfold zb7
  by_cases hn:HasN ps q.1
  ·rw[decide_eq_true hn]at this;rw[if_pos hn];exact(Option.some.inj this).symm
  ·rw[if_neg hn];rw[decide_eq_false hn]at this
   by_cases ha:HasA ps q.1
   ·rw[decide_eq_true ha]at this;rw[if_pos ha];exact(Option.some.inj this).symm
   ·rw[decide_eq_false ha]at this;rw[if_neg ha];simp only[Bool.false_eq_true,if_false]at this;cases e1:valP qs (loH q.1) with
    | none=>rw[e1]at this;cases this
    | some x =>
     cases e2:valP qs (upH q.1) with
     | none=>rw[e1,e2]at this;cases this
     | some y =>
      rw[e1,e2]at this;have i1:=ih _ (Y9 e1) (show(q.1.2 - 1).toNat=n by lia)
      have i2:=ih _ (Y9 e2) (show(q.1.2 - 1).toNat=n by lia)
      dsimp only at i1 i2;rw[<- i1,<- i2];exact(Option.some.inj this).symm
noncomputable def zj3 (bits:Int) (ps:BL):Int:=(zb7 ps bits.toNat (0,bits)).1
theorem PrOk.many(h:PrOk bits ps qs){v:Int×Int}(hv:valP qs (0,bits)=some v):v.1=zj3 bits ps:=by
 unfold zj3;rw[<- h.val _ _ (Y9 hv) rfl]
end
instance zuG {i:Nat}{ks:KT2}{ρ:En}{n:Nat}{R:qN}[h:GetN ρ i (some (.dtt ks))]:Stp (ZW i ρ n R) (R (.dict (Js ks)) n):=⟨fun k=>by unfold ZW;rw[h.e];exact k⟩
def Qf(qs:PR)(acc:KT2):KT2:=qs.foldl (fun a q=>putT a q.1 (twoD q.2)) acc
theorem Vc:∀{qs acc:PR},((acc++qs).map (·.1)).Nodup->Qf qs (prK acc)=prK (acc++qs)
 | [],acc,_=>by simp[Qf]
 | q::qs,acc,nd=>by
  have fr:q.1∉acc.map (·.1):=by
   intro m;rw[List.map_append,List.nodup_append]at nd;exact nd.2.2 q.1 m q.1 (by simp) rfl
  have:=Vc (qs:=qs) (acc:=acc++[(q.1,q.2)]) (by simpa using nd)
  unfold Qf at this ⊢;rw[List.foldl_cons,zk0 fr,this];simp
theorem zk1{acc:KT2}{k:Int×Int}{t:PyData}:((putT acc k t).map (·.1)=acc.map (·.1)/\k∈acc.map (·.1))\/((putT acc k t).map (·.1)=acc.map (·.1)++[k]/\k∉acc.map (·.1)):=by
 unfold putT
 by_cases e:(acc.any fun z=>decide (z.1=k))=true
 ·rw[if_pos e];refine .inl ⟨?_,?_⟩
  ·rw[List.map_map];refine List.map_congr_left fun z _=>?_
   show(if z.1=k then(z.1,t) else z).1=z.1
   split <;> rfl
  ·obtain⟨z,hz,e⟩:=List.any_eq_true.mp e;exact List.mem_map.mpr ⟨z,hz,of_decide_eq_true e⟩
 ·rw[if_neg e];refine .inr ⟨by simp,fun m=>?_⟩
  obtain⟨z,hz,e'⟩:=List.mem_map.mp m;exact e (List.any_eq_true.mpr ⟨z,hz,decide_eq_true e'⟩)
theorem zgE:∀{qs:PR}{acc:KT2},(acc.map (·.1)).Nodup->(Qf qs acc).length<=acc.length+qs.length/\((Qf qs acc).length=acc.length+qs.length->(acc.map (·.1)++qs.map (·.1)).Nodup)
 | [],acc,nd=>by simp[Qf,nd]
 | q::qs,acc,nd=>by
  rcases zk1 (acc:=acc) (k:=q.1) (t:=twoD q.2) with⟨e,m⟩|⟨e,m⟩
  ·have el:=congrArg List.length e;rw[List.length_map,List.length_map]at el;have ih:=zgE (qs:=qs) (acc:=putT acc q.1 (twoD q.2)) (by rw[e];exact nd)
   have e2:Qf (q::qs) acc=Qf qs (putT acc q.1 (twoD q.2)):=rfl;rw[e2,List.length_cons];exact⟨by have:=ih.1;lia,fun z=>by have:=ih.1;lia⟩
  ·have el:=congrArg List.length e;rw[List.length_map,List.length_append,List.length_map]at el;have el:(putT acc q.1 (twoD q.2)).length=acc.length+1:=el;have nd':((putT acc q.1 (twoD q.2)).map (·.1)).Nodup:=by
    rw[e,List.nodup_append];exact⟨nd,by simp,fun a ha b hb z=>by subst z;cases List.mem_singleton.mp hb;exact m ha⟩
   have ih:=zgE (qs:=qs) (acc:=putT acc q.1 (twoD q.2)) nd';have e2:Qf (q::qs) acc=Qf qs (putT acc q.1 (twoD q.2)):=rfl;rw[e2,List.length_cons];refine⟨by have:=ih.1;lia,fun z=>?_⟩
   have:=ih.2 (by lia)
   rw[e]at this;simpa using this
theorem zjA{qs:PR}:(Qf qs []).length=qs.length↔(qs.map (·.1)).Nodup:=by
 constructor
 ·intro h;have:=(zgE (qs:=qs) (acc:=[]) (by simp)).2 (by simpa using h)
  simpa using this
 ·intro h;have e:=Vc (qs:=qs) (acc:=[]) (by simpa using h)
  have e':Qf qs []=prK qs:=e;rw[e',prK,List.length_map]
def scr2(ts:qD)(P:List Int->Int->Prop):Prop:=∃ns k,ts=[SCR ns,.int k]/\P ns k
def zog(g:GD)(ds:DTA):DTE:=fun ρ n R=>ds ρ n fun ts n1=>scr2 ts fun ns k=>ns.length<=63/\0<=k/\k<=100/\g [HAND] 0 fun t _=>∃b,t=.bool b/\R t n1
section
variable{X:Cx}{x hx:Str}{st sh:Stmt}{ps ph:List Str}{k kh n:Nat}{g:GD}{e1 e2:Expr}{ds:DTA}{p p2 p3 pos:Pos}
theorem znB(F:Bd.Fq X.prog X.w X.K X.mg X.base x st ps k (spD X.K 1 g))(Fh:Bd.Fq X.prog X.w X.K X.mg X.base hx sh ph kh (zkF X.K))(hr:Room n X.A)(h:DB X [e1,e2] ds)(hk:k<=n:=by decide)(hkh:kh<=n:=by decide)(hg:Gl X x:=by rfl)(hgh:Gl X hx:=by rfl)
  (hdb:(x == ("__debug__":Str))=false:=by decide) (hdh:(hx == ("__debug__":Str))=false:=by decide) (hs:starEach [.Call (.Name hx p2) [e1,e2] [] p3] X.env=[(false,eval (.Call (.Name hx p2) [e1,e2] [] p3) X.env)]:=by rfl):DE X (.Call (.Name x p) [.Call (.Name hx p2) [e1,e2] [] p3] [] pos) (zog g ds):=by
 obtain⟨f,fd,D,G⟩:=F;obtain⟨fh,fdh,Dh,Gh⟩:=Fh;obtain⟨ta,pa,h⟩:=h;refine⟨_,Bd.zm2 D G (hr.mono hk) (QZ (Bd.zm2 Dh Gh (hr.mono hkh) pa hgh hdh) Us hs) hg hdb,fun C ρ σ H n Q R S hd hq=>?_⟩
 refine h C ρ σ H n _ _ S hd fun ts n1 vs H1 r1 x1 h1 q1 l1=>?_
 have S1:=S.on x1 h1;obtain⟨ns,kk,rfl,hl,k0,k1,r1⟩:=r1;cases q1 with
 | cons y1 y2 =>
  cases y2 with
  | cons y3 y4 =>
   cases y4;obtain⟨a0,rfl,sq0⟩:=y1.scrI;rw[y3.intI];refine⟨a0,ns,kk,rfl,sq0,hl,k0,k1,fun b H2 hb hok sm=>?_⟩
   refine⟨some b,fun a=>Own C ρ σ a\/a=b,[HAND],0,_,.cons (.hand rfl) .nil,(fun a ea=>by cases ea;exact hok),(fun a z=>?_),(fun a ea=>.inr (by cases ea;rfl)),rfl,r1,?_⟩
   ·rcases z with z|rfl
    ·rcases S1.lst z with⟨xs,q⟩|⟨xs,q⟩|⟨b,xs,ep,q⟩
     ·exact .inl ⟨xs,sm _ _ q⟩
     ·exact .inr (.inl ⟨xs,sm _ _ q⟩)
     ·exact .inr (.inr ⟨b,xs,ep,sm _ _ q⟩)
    ·obtain⟨_,_,_,q,_⟩:=hok;exact .inl ⟨_,q⟩
   ·rintro t n' v H3 ⟨bb,rfl,rt⟩ e3 h3 q3;rw[q3.blI];have ne:∀a o,H1 a=some o->some b≠some a:=fun a o ha z=>by cases z;rw[hb]at ha;cases ha
    refine hq _ n1 _ H3 rt (fun a o ha na=>?_) (fun a ea=>?_) (.bl bb)
    ·have:=x1 a o ha na;exact e3 a o (sm a o this) (ne a o this)
    ·obtain⟨d,m,t,q,rest⟩:=h1 a ea;exact⟨d,m,t,e3 a _ (sm a _ q) (ne a _ q),rest⟩
end
instance zty {g:GD}{ds:DTA}{ρ:En}{n:Nat}{R:qN}:Stp (zog g ds ρ n R) (ds ρ n fun ts n1=>scr2 ts fun ns k=>ns.length<=63/\0<=k/\k<=100/\g [HAND] 0 fun t _=>∃b,t=.bool b/\R t n1):=⟨fun h=>h⟩
instance zuB {ns:List Int}{k:Int}{P:List Int->Int->Prop}:Stp (scr2 [SCR ns,.int k] P) (P ns k):=⟨fun h=>⟨ns,k,rfl,h⟩⟩
section
variable{X:Cx}{e:Expr}{d:DTA}{pos p p2 cp:Pos}
def zoh(d:DTA):DTE:=fun ρ n R=>d ρ n fun ts n1=>∃ks:KT2,ts=ks.map prT/\R (.dict (Js (mkT ks))) n1
theorem znC(hc:X.calm=true)(hu:X.A.units+64<cLine)(hmd:X.mg "dict" = none) (h:DN X e d) (hst:starEach [e] X.env=[(false,eval e X.env)]:=by rfl) (hgd:Gl X "dict":=by rfl) :
  DE X (.Call (.Name "dict" p2) [e] [] cp) (zoh d):=by
 obtain⟨ta,pa,h⟩:=h;refine⟨_,zg7 (zki hc hu) hgd hmd rfl (Q7 pa Ur hst) (he:=hst),fun C ρ σ H n Q R S hd hq=>?_⟩
 refine h C ρ σ H n _ _ S hd fun ts n1 p vs H1 ⟨ks,ets,r⟩ e1 hn1 hp0 hp rp=>?_
 subst ets;obtain⟨zs,z1,z2⟩:=zi_ rp;refine⟨p,vs,zs,rfl,hp,z1,fun l ep hl=>?_⟩
 have S1:=S.on e1 hn1;have rk:RepsT X.K C.hd (fun a=>Own C ρ σ a\/a=p) H1 (mkZ zs) (mkT ks):=zfB z2 .nil
 exact hq _ n1 _ _ r (e1.trans (ExtE.new hl)) (hn1.same (Qb hl)) (.dcT JQ (S1.free hl) (rk.mono (fun _ _ _ z=>.inl z) (fun b o _ hb=>Qb hl b o hb)) rfl)
instance ztz {d:DTA}{ρ:En}{n:Nat}{R:qN}:Stp (zoh d ρ n R) (d ρ n fun ts n1=>∃ks:KT2,ts=ks.map prT/\R (.dict (Js (mkT ks))) n1):=⟨fun h=>h⟩
end
theorem zkx{zs:ZT}{xs:List (List Key×Addr×Value)}(r:Paired ZX zs xs){k:Int×Int}(h:valZ zs k=none):atKey xs (kL k)=none:=by
 have e:=zkr r k;have z:(zs.any fun z=>decide (z.1=k))=false:=by
  rw[List.any_eq_false];intro z hz he;unfold valZ at h;rw[Option.map_eq_none_iff,List.find?_eq_none]at h;exact h z hz he
 rw[z]at e;cases q:atKey xs (kL k) with
 | none=>rfl
 | some v=>rw[q]at e;cases e
section
variable{X:Cx}{o e e2:Expr}{da db dc:DTE}{to:TE}{t:TA}{p2 p3:Pos}
def zqw(K:qF):V->List V->Hp->VK->Prop:=fun x xs H Q=>∃a zs ep k b,x=.ref a/\H a=some (ZDO a zs ep)/\(∀z∈zs,SqT K H z.2.1 [.int z.1.1,.int z.1.2])/\SqT K H b [.int k.1,.int k.2] /\
 ∃dv,((xs=[.ref b]/\dv=.non)\/xs=[.ref b,dv])/\Q ((valZ zs k).getD dv) H
theorem zo4(hu:X.A.units+1<cLine):MtR X "dict.get" (zqw X.K):=by
 intro pins s σ H x xs v us Q I rx rs h;obtain⟨a,zs,ep,k,b,rfl,ha,hk,sb,dv,hx,q⟩:=h;cases(show v=Value.ref a from rx)
 obtain⟨hs,lz,ys,x1,dd⟩:=Zq I ha hk;have fin:∀(Q':qV) (dr:Value),RelV dv dr->(∀u s',Inv X pins σ H s'->RelV ((valZ zs k).getD dv) u->Q' u s') ->
   (∀u,(atKey ys (kL k)).map (·.2)=some u->RelV ((valZ zs k).getD dv) u)/\((atKey ys (kL k)).map (·.2)=none->RelV ((valZ zs k).getD dv) dr):=fun Q' dr rd _=>by
  cases ev:valZ zs k with
  | none =>
   have:=zkx x1 ev;rw[this];exact⟨(fun u z=>nomatch z),fun _=>rd⟩
  | some w =>
   obtain⟨p,p1,p2⟩:=znP x1 ev;rw[p1];exact⟨fun u z=>by cases z;exact p2,fun z=>nomatch z⟩
 have ty:s.TypeIs (.ref a) "dict":=dd.typeIs;rcases hx with⟨rfl,rfl⟩|rfl
 ·cases rs with
  | @cons _ u _ _ r1 r2 =>
   cases r2;cases(show u=Value.ref b from r1)
   refine wpAny_call_entry PySem.F.slot_dict_get ty PySem.F.entry_dict_get ?_ (PySem.F.args_dict_get_2 _ _);show wpAny _ _ (dictGet a (.ref b) >>= _) _ _ s
   refine wpAny_bind (wpAny_dictGet_heap (tupleKind_room_in1 hu) (Uq (k:=kL k) I sb) dd ?_);obtain⟨f1,f2⟩:=fin (fun _ _=>True) .none rfl fun _ _ _ _=>trivial
   cases ek:(atKey ys (kL k)).map (·.2) with
   | some u=>exact wpAny_pure ⟨u,rfl,_,H,I.tok _,f1 u ek,q⟩
   | none =>
    show wpAny _ _ (Builtin.Dict.missed a (.ref b) >>= _) _ _ _
    exact wpAny_bind (wpAny_missed_other hs (wpAny_pure ⟨.none,rfl,_,H,I.tok _,f2 ek,q⟩))
 ·cases rs with
  | @cons _ u _ _ r1 r2 =>
   cases r2 with
   | @cons _ dr _ _ r3 r4 =>
    cases r4;cases(show u=Value.ref b from r1)
    refine wpAny_call_entry PySem.F.slot_dict_get ty PySem.F.entry_dict_get ?_ (PySem.F.args_dict_get_3 _ _ _);show wpAny _ _ (dictGet a (.ref b) >>= _) _ _ s
    refine wpAny_bind (wpAny_dictGet_heap (tupleKind_room_in1 hu) (Uq (k:=kL k) I sb) dd ?_);obtain⟨f1,f2⟩:=fin (fun _ _=>True) dr r3 fun _ _ _ _=>trivial
    cases ek:(atKey ys (kL k)).map (·.2) with
    | some u=>exact wpAny_pure ⟨u,rfl,_,H,I.tok _,f1 u ek,q⟩
    | none =>
     show wpAny _ _ (Builtin.Dict.missed a (.ref b) >>= _) _ _ _
     exact wpAny_bind (wpAny_missed_other hs (wpAny_pure ⟨dr,rfl,_,H,I.tok _,f2 ek,q⟩))
def tBMZ(r:V->List V->Hp->VK->Prop)(to:TE)(t:TA):TE:=fun σ H Q=>to σ H fun x H1=>(∃a zs ep,x=.ref a/\H1 a=some (ZDO a zs ep))/\t σ H1 fun xs H2=>r x xs H2 Q
variable{es:List Expr}{apos cpos:Pos}
theorem zlb(hu:X.A.units+1<cLine)(ho:PE X o to)(ha:PA X (e::es) t)
  (hbase:attributeBase o "get" X.env (eval o X.env)=eval o X.env:=by rfl)
  (hfew:((backTo cpos (starEach (e::es) X.env)).all (fun x=>!x.1)&&(backToKw cpos (keywordEach [] X.env)).all (fun x=>x.1.isSome)
   && decide ((e::es).length+([]:List Keyword).length+(if ([]:List Keyword).isEmpty then 0 else 1)<30))=true:=by rfl)
  (hline:(apos.endLine == cpos.line)=true:=by rfl) (hs:starEach (e::es) X.env=(false,eval e X.env)::starEach es X.env:=by rfl) (hplain:(backTo cpos (starEach es X.env)).any (·.1)=false:=by rfl) :
  PE X (.Call (.Attribute o "get" apos) (e::es) [] cpos) (tBMZ (zqw X.K) to t):=by
 intro pins s σ H Q I h;refine wpAny_Call_method_late hbase hfew hline rfl (thn (ho pins s σ H _ I h) fun v s1 ⟨x,H1,I1,r1,⟨a,zs,ep,ex,hz⟩,q1⟩=>?_)
 subst ex;cases(show v=Value.ref a from r1)
 obtain⟨⟨hsm,lz,nd,ob,ens,g1,g2,g3,pr⟩,_⟩:=I1.hok a _ hz;refine⟨"dict","dict.get",PySem.F.plainAttrs_dict,PySem.F.slot_dict_get,PySem.F.type_dict_get,⟨ob,g1,g2.1⟩,fun b eb=>by cases eb;exact⟨ob,g1,g2.2.1⟩,?_⟩
 have hA:=ha cpos pins s1 σ H1 _ I1 q1;rw[hs]at hA ⊢;refine Calls.callWith_builtin (by show(false||(backTo cpos (starEach es X.env)).any (·.1))=false;rw[hplain] <;> rfl) (Calls.evalArgs_plain ?_)
 exact thn hA fun us s2 ⟨vs,H2,I2,r2,q2⟩=>zo4 hu pins s2 σ H2 (.ref a) vs (.ref a) us Q I2 rfl r2 q2
def lDct(t:PyData)(P:KT2->Prop):Prop:=∃ks:KT2,t=.dict (Js ks)/\P ks
def zsj(da db:DTE):DTE:=fun ρ n R=>da ρ n fun t n1=>lDct t fun ks=>db ρ n1 fun y n2=>lBlk y fun k=>R ((valT ks k).getD .none) n2
def zsi(da db dc:DTE):DTE:=fun ρ n R=>da ρ n fun t n1=>lDct t fun ks=>db ρ n1 fun y n2=>dc ρ n2 fun u n3=>lBlk y fun k=>R ((valT ks k).getD u) n3
theorem RepsT.valN{K:qF}{hd:Option Addr}{O:Addr->Prop}{H:Hp}{zs:ZT}{ks:KT2}(r:RepsT K hd O H zs ks){k:Int×Int}{dv:V}{u:PyData}(h:Rep K hd O H dv u):Rep K hd O H ((valZ zs k).getD dv) ((valT ks k).getD u):=by
 cases e:valT ks k with
 | some d =>
  obtain⟨v,v1,v2⟩:=r.val e;rw[v1];exact v2
 | none =>
  have a:=r.anyK k;rw[e]at a;have:valZ zs k=none:=by
   unfold valZ;rw[Option.map_eq_none_iff,List.find?_eq_none];intro z hz he;have:(zs.any fun z=>decide (z.1=k))=true:=List.any_eq_true.mpr ⟨z,hz,he⟩
   rw[a]at this;cases this
  rw[this];exact h
theorem zl6(hu:X.A.units+1<cLine)(h:DE X o da)(h':DE X e db)(hst:starEach [e] X.env=[(false,eval e X.env)]:=by rfl)(hbase:attributeBase o "get" X.env (eval o X.env)=eval o X.env:=by rfl)
  (hfew:((backTo p3 (starEach [e] X.env)).all (fun x=>!x.1)&&(backToKw p3 (keywordEach [] X.env)).all (fun x=>x.1.isSome)
   && decide ([e].length+([]:List Keyword).length+(if ([]:List Keyword).isEmpty then 0 else 1)<30))=true:=by rfl)
  (hline:(p2.endLine == p3.line)=true:=by rfl) (hpl:(backTo p3 (starEach ([]:List Expr) X.env)).any (·.1)=false:=by rfl):DE X (.Call (.Attribute o "get" p2) [e] [] p3) (zsj da db):=by
 obtain⟨ta,pa,h⟩:=h;obtain⟨tb,pb,h'⟩:=h';refine⟨_,zlb hu pa (Q7 pb Ur hst) hbase hfew hline hst hpl,fun C ρ σ H n Q R S hd hq=>?_⟩
 refine h C ρ σ H n _ _ S hd fun t n1 v H1 r e1 h1 q1=>?_
 obtain⟨ks,rfl,r⟩:=r;obtain⟨a,zs,ep,rfl,ha,no,rk⟩:=q1.dtI;have S1:=S.on e1 h1;refine⟨⟨a,zs,ep,rfl,ha⟩,h' C ρ σ H1 n1 _ _ S1 r fun y n2 w H2 r2 e2 hn2 q2=>?_⟩
 obtain⟨k,rfl,r2⟩:=r2;obtain⟨b,rfl,sb⟩:=q2.bkI;have rk2:RepsT X.K C.hd (Own C ρ σ) H2 zs ks:=rk.mono (fun _ _ _ z=>z) fun a o no h=>e2 a o h fun z=>no (.inl (S.hx a z))
 exact⟨a,zs,ep,k,b,rfl,e2 a _ ha (fun z=>no (.inl (S.hx a z))),rk2.sq,sb,.non,.inl ⟨rfl,rfl⟩,hq _ n2 _ H2 r2 (e1.trans e2) hn2 (rk2.valN .non)⟩
theorem zpJ(hu:X.A.units+1<cLine)(h:DE X o da)(h':DE X e db)(h'':DE X e2 dc)(hst:starEach [e,e2] X.env=[(false,eval e X.env),(false,eval e2 X.env)]:=by rfl)(hst2:starEach [e2] X.env=[(false,eval e2 X.env)]:=by rfl)(hbase:attributeBase o "get" X.env (eval o X.env)=eval o X.env:=by rfl)
  (hfew:((backTo p3 (starEach [e,e2] X.env)).all (fun x=>!x.1)&&(backToKw p3 (keywordEach [] X.env)).all (fun x=>x.1.isSome)
   && decide ([e,e2].length+([]:List Keyword).length+(if ([]:List Keyword).isEmpty then 0 else 1)<30))=true:=by rfl)
  (hline:(p2.endLine == p3.line)=true:=by rfl) (hpl:(backTo p3 (starEach [e2] X.env)).any (·.1)=false:=by rfl):DE X (.Call (.Attribute o "get" p2) [e,e2] [] p3) (zsi da db dc):=by
 obtain⟨ta,pa,h⟩:=h;obtain⟨tb,pb,h'⟩:=h';obtain⟨tc,pc,h''⟩:=h'';refine⟨_,zlb hu pa (Q7 pb (Q7 pc Ur hst2) (by rw[hst,hst2])) hbase hfew hline (by rw[hst,hst2]) hpl,fun C ρ σ H n Q R S hd hq=>?_⟩
 refine h C ρ σ H n _ _ S hd fun t n1 v H1 r e1 h1 q1=>?_
 obtain⟨ks,rfl,r⟩:=r;obtain⟨a,zs,ep,rfl,ha,no,rk⟩:=q1.dtI;have S1:=S.on e1 h1;refine⟨⟨a,zs,ep,rfl,ha⟩,h' C ρ σ H1 n1 _ _ S1 r fun y n2 w H2 r2 e2 hn2 q2=>?_⟩
 have S2:=S1.on e2 hn2;refine h'' C ρ σ H2 n2 _ _ S2 r2 fun u n3 w3 H3 r3 e3 hn3 q3=>?_
 obtain⟨k,rfl,r3⟩:=r3;obtain⟨b,rfl,sb⟩:=(e3.rep S.hx q2).bkI;have e23:=e2.trans e3;have rk2:RepsT X.K C.hd (Own C ρ σ) H3 zs ks:=rk.mono (fun _ _ _ z=>z) fun a o no h=>e23 a o h fun z=>no (.inl (S.hx a z))
 exact⟨a,zs,ep,k,b,rfl,e23 a _ ha (fun z=>no (.inl (S.hx a z))),rk2.sq,sb,w3,.inr rfl,hq _ n3 _ H3 r3 (e1.trans e23) hn3 (rk2.valN q3)⟩
end
section
variable{da db dc:DTE}{ρ:En}{n:Nat}{R:qN}{ks:KT2}{P:KT2->Prop}
instance zuO:Stp (zsj da db ρ n R) (da ρ n fun t n1=>lDct t fun ks=>db ρ n1 fun y n2=>lBlk y fun k=>R ((valT ks k).getD .none) n2):=⟨fun h=>h⟩
instance zuN:Stp (zsi da db dc ρ n R) (da ρ n fun t n1=>lDct t fun ks=>db ρ n1 fun y n2=>dc ρ n2 fun u n3=>lBlk y fun k=>R ((valT ks k).getD u) n3):=⟨fun h=>h⟩
instance zuH:Stp (lDct (.dict (Js ks)) P) (P ks):=⟨fun h=>⟨ks,rfl,h⟩⟩
end
def ovL(lo hi:Int)(p:Int×Int):Int:=max 0 (min hi (eB p) - max lo p.1)
def ovD(b p:Int×Int):Int:=ovL b.1 (eB b) p
theorem zqX{i g j k:Int}:ovD (i,g) (j,k)=if ((if j+1*2 ^ k.toNat<i+1*2 ^ g.toNat then j+1*2 ^ k.toNat else i+1*2 ^ g.toNat) - if j > i then j else i) > 0 then(if j+1*2 ^ k.toNat<i+1*2 ^ g.toNat then j+1*2 ^ k.toNat else i+1*2 ^ g.toNat) - if j > i then j else i else 0:=by
 unfold ovD ovL eB;dsimp only;rw[Int.one_mul,Int.one_mul];generalize (2:Int) ^ k.toNat=u;generalize (2:Int) ^ g.toNat=v;split <;> split <;> split <;> omega
theorem zoU{lo hi:Int}:∀{ps:BL},0<=(ps.map (ovL lo hi)).sum
 | []=>by simp
 | p::ps=>by
  have:=zoU (lo:=lo) (hi:=hi) (ps:=ps);rw[List.map_cons,List.sum_cons];unfold ovL at *;omega
theorem zn1:∀{ps:BL}{lo hi:Int},ps.Pairwise (fun a b=>eB a<=b.1)->lo<=hi->(ps.map (ovL lo hi)).sum<=hi - lo/\((ps.map (ovL lo hi)).sum=hi - lo↔∀x,lo<=x->x<hi->mB x ps)
 | [],lo,hi,_,h=>by
  refine⟨by simp;omega,?_⟩
  constructor
  ·intro e x x0 x1;have:(0:Int)=hi - lo:=e;omega
  ·intro z
   by_cases q:lo=hi
   ·simp[q]
   ·obtain⟨b,hb,_⟩:=z lo (Int.le_refl _) (by omega)
    cases hb
 | p::ps,lo,hi,pw,h=>by
  rw[List.pairwise_cons]at pw;obtain⟨pf,pw⟩:=pw
  let mid:=max lo (min hi (eB p))
  have hm:mid=max lo (min hi (eB p)):=rfl;have pp:=JT p;have e:ps.map (ovL lo hi)=ps.map (ovL mid hi):=List.map_congr_left fun q hq=>by
   have:=pf q hq;unfold ovL;omega
  obtain⟨i1,i2⟩:=zn1 (ps:=ps) (lo:=mid) (hi:=hi) pw (by omega)
  rw[List.map_cons,List.sum_cons,e];generalize (ps.map (ovL mid hi)).sum=s at i1 i2;have o1:ovL lo hi p<=mid - lo:=by unfold ovL;omega
  refine⟨by omega,?_⟩
  constructor
  ·intro z x x0 x1;have z1:ovL lo hi p=mid - lo:=by omega
   have z2:s=hi - mid:=by omega
   by_cases q:x<mid
   ·refine⟨p,.head _,?_,by omega⟩
    unfold ovL at z1;omega
   ·obtain⟨b,hb,hx⟩:=i2.mp z2 x (by omega) x1
    exact⟨b,.tail _ hb,hx⟩
  ·intro z;have z2:s=hi - mid:=i2.mpr fun x x0 x1=>by
    obtain⟨b,hb,hx⟩:=z x (by omega) x1
    rcases List.mem_cons.mp hb with rfl|hb
    ·omega
    ·exact⟨b,hb,hx⟩
   have z1:ovL lo hi p=mid - lo:=by
    by_cases q:lo<mid
    ·obtain⟨b,hb,hx⟩:=z lo (Int.le_refl _) (by omega)
     rcases List.mem_cons.mp hb with rfl|hb
     ·unfold ovL;omega
     ·have:=pf b hb;omega
    ·unfold ovL;omega
   omega
theorem zjt{l:BL}{b:Int×Int}:HasN l b↔∀x,b.1<=x->x<eB b->¬mB x l:=by
 constructor
 ·rintro h x x0 x1 ⟨p,hp,hx⟩;rcases h p hp with z|z <;> omega
 ·intro h p hp;have pp:=JT p;have pb:=JT b;refine Classical.byContradiction fun z=>?_
  exact h (max b.1 p.1) (by omega) (by omega) ⟨p,hp,by omega,by omega⟩
theorem zlh{b:Int×Int}:∀{ps:BL},(ps.map (ovD b)).sum=0↔HasN ps b
 | []=>by simp[HasN]
 | p::ps=>by
  have i:=zlh (b:=b) (ps:=ps);have n:=zoU (lo:=b.1) (hi:=eB b) (ps:=ps);have pp:=JT p;have pb:=JT b;have n:0<=(ps.map (ovD b)).sum:=n;rw[List.map_cons,List.sum_cons];have e:HasN (p::ps) b↔(eB p<=b.1\/eB b<=p.1)/\HasN ps b:=by
   unfold HasN;simp
  rw[e,<- i];generalize (ps.map (ovD b)).sum=s at n;unfold ovD ovL;omega
section
variable{bits:Int}{bs ps:BL}{b:Int×Int}
theorem zps(C:CanP (fun x=>mB x bs) ps):(bs.map (ovD b)).sum=0↔HasN ps b:=by
 rw[zlh,zjt,zjt];exact⟨fun h x a c z=>h x a c ((C.mem x).mp z),fun h x a c z=>h x a c ((C.mem x).mpr z)⟩
theorem zns(b0:0<=bits)(P:Ptc bits bs)(C:CanP (fun x=>mB x bs) ps)(B:IsBk bits b.1 b.2):(bs.map (ovD b)).sum<=eB b - b.1/\((bs.map (ovD b)).sum=eB b - b.1↔HasA ps b):=by
 have pb:=JT b;obtain⟨h1,h2⟩:=zn1 (ps:=bs) (lo:=b.1) (hi:=eB b) P.2 (by omega)
 refine⟨h1,h2.trans ?_⟩;constructor
 ·intro z;obtain⟨p,hp,a,c⟩:=C.hold b0 (fun x hx=>Zn b0 P.1 hx) B z
  exact⟨p,hp,a,c⟩
 ·rintro⟨p,hp,a,c⟩ x x0 x1;exact(C.mem x).mp ⟨p,hp,by omega,by omega⟩
end
def Rg(ps:BL)(qs:PR)(q:(Int×Int)×(Int×Int)):Prop:=∀no al:Bool,(no=true↔HasN ps q.1)->(al=true↔HasA ps q.1)->rgtD (bpD no al qs q.1) q.2=true
section
variable{ps:BL}{qs:PR}{q:(Int×Int)×(Int×Int)}
theorem zox(h:HasN ps q.1):Rg ps qs q↔q.2.1<=0/\q.2.2<=1:=by
 have e:∀al,rgtD (bpD true al qs q.1) q.2=(decide (q.2.1<=0)&&decide (q.2.2<=1)):=fun al=>rfl
 constructor
 ·intro z
  classical
  have:=z true (decide (HasA ps q.1)) (by simp[h]) (by rw[decide_eq_true_eq])
  rw[e]at this;simpa using this
 ·rintro⟨a,b⟩ no al hn ha;have:no=true:=hn.mpr h;subst this;rw[e,decide_eq_true a,decide_eq_true b];rfl
theorem zkU(h:¬HasN ps q.1)(h':HasA ps q.1):Rg ps qs q↔q.2.1<=1/\q.2.2<=0:=by
 have e:rgtD (bpD false true qs q.1) q.2=(decide (q.2.1<=1)&&decide (q.2.2<=0)):=rfl;constructor
 ·intro z;have:=z false true (by simp[h]) (by simp[h'])
  rw[e]at this;simpa using this
 ·rintro⟨a,b⟩ no al hn ha;have e1:no=false:=by
   cases no with
   | false=>rfl
   | true=>exact absurd (hn.mp rfl) h
  have e2:al=true:=ha.mpr h';subst e1 e2;rw[e,decide_eq_true a,decide_eq_true b];rfl
theorem zkT(h:¬HasN ps q.1)(h':¬HasA ps q.1):Rg ps qs q↔rgtD (bpD false false qs q.1) q.2=true:=by
 constructor
 ·intro z;exact z false false (by simp[h]) (by simp[h'])
 ·intro z no al hn ha;have e1:no=false:=by
   cases no with
   | false=>rfl
   | true=>exact absurd (hn.mp rfl) h
  have e2:al=false:=by
   cases al with
   | false=>rfl
   | true=>exact absurd (ha.mp rfl) h'
  subst e1 e2;exact z
theorem zoy{x y:Int×Int}(h:¬HasN ps q.1)(h':¬HasA ps q.1)(e1:valP qs (loH q.1)=some x)(e2:valP qs (upH q.1)=some y):Rg ps qs q↔q.2.1<=(if x.2+y.2+1<x.1+y.1 then x.2+y.2+1 else x.1+y.1)/\q.2.2<=(if x.1+y.1+1<x.2+y.2 then x.1+y.1+1 else x.2+y.2):=by
 rw[zkT h h'];have:bpD false false qs q.1=some (if x.2+y.2+1<x.1+y.1 then x.2+y.2+1 else x.1+y.1,if x.1+y.1+1<x.2+y.2 then x.1+y.1+1 else x.2+y.2):=by
  unfold bpD;rw[e1,e2];rfl
 rw[this];show(decide _&&decide _)=true↔_
 rw[Bool.and_eq_true,decide_eq_true_eq,decide_eq_true_eq]
theorem znX(h:¬HasN ps q.1)(h':¬HasA ps q.1)(e:valP qs (loH q.1)=none\/valP qs (upH q.1)=none):¬Rg ps qs q:=by
 rw[zkT h h'];have:bpD false false qs q.1=none:=by
  unfold bpD;rcases e with e|e
  ·simp[e]
  ·cases q:valP qs (loH _) with
   | none=>rfl
   | some x=>simp[e]
 rw[this];exact fun z=>nomatch z
end
theorem zee:fillsNumberSlot (.type "tuple") "mul" = pure false :=
 PySem.fillsNumberSlot_seq (id:="tuple.__mul__") (r:=some (.builtin "tuple.__rmul__")) F.slot_tuple_mul.lookup (by decide +kernel) F.slot_tuple_rmul.lookup (by decide +kernel)
theorem zg1:seqRepeat? (.type "tuple")=pure (some (.builtin "tuple.__mul__")):=by
 unfold seqRepeat?
 rw[PySem.seqSlot_of (T:="tuple") (name:="__mul__") (id:="tuple.__mul__") F.slot_tuple_mul.lookup (by decide +kernel),PySem.seqSlot_of (T:="tuple") (name:="__rmul__") (id:="tuple.__rmul__") F.slot_tuple_rmul.lookup (by decide +kernel)]
 rfl
section
variable{prog:Program}{w:World}{A:Around}{E:qV}{s:Shared}
theorem zhu{k:Int}{t:Tok}{l:Addr}{o:Obj}{items:Array Value}{n:Nat}{Q:qV}(ho:s.heap.get? l=some o)(hc:o.cls=.type "tuple") (hd:o.data=.seq items n) (h:Q .notImplemented s) :
  wpAny (model prog w) A (call (.builtin "int.__rmul__") [.int k t,.ref l]) Q E s:=by
 refine wpAny_call_entry F.slot_int_rmul (typeIs_int s k t) F.entry_int_rmul ?_ (F.args_int_rmul_2 _ _);obtain⟨cls,dict,data,slots⟩:=o;dsimp only at hc hd;subst hc hd;obtain⟨hp,g,d,tk,os⟩:=s
 wp_walk
 exact⟨_,rfl,h⟩
theorem zol{k:Int}{t:Tok}{l:Addr}{o:Obj}{x:Value}{n:Nat}{Q:qV}(ho:s.heap.get? l=some o)(hc:o.cls=.type "tuple") (hd:o.data=.seq #[x] n) (h1:k=1->Q (.ref l) s) (h2:k=2->Q (.ref s.heap.objs.size) { s with heap:=s.heap.push { cls:=.type "tuple",data:=.seq #[x,x] } }) (hk:k=1\/k=2) :
  wpAny (model prog w) A (call (.builtin "tuple.__mul__") [.ref l,.int k t]) Q E s:=by
 refine wpAny_call_entry F.slot_tuple_mul ⟨o,ho,hc⟩ F.entry_tuple_mul ?_ (F.args_tuple_mul_2 _ _);obtain⟨cls,dict,data,slots⟩:=o;dsimp only at hc hd;subst hc hd;obtain⟨hp,g,d,tk,os⟩:=s;rcases hk with rfl|rfl
 ·wp_walk
  exact⟨_,rfl,h1 rfl⟩
 ·wp_walk
  exact⟨_,rfl,h2 rfl⟩
end
section
variable{X:Cx}{a b:Expr}{da db:DTE}{pos:Pos}
def zqv(K:qF):R2:=fun x y H Q=>∃a v k,x=.ref a/\y=.int k/\SqT K H a [v]/\(k=1\/k=2)/\(k=1->Q (.ref a) H)/\(k=2->∀p,H p=none->Q (.ref p) (upd H p (.tup [v,v])))
theorem zoV:OpR X (binaryOp .Mult) (zqv X.K):=by
 intro pins s σ H x y v u Q I rx ry h;obtain⟨a,z,k,rfl,rfl,sq,hk,q1,q2⟩:=h;cases(show v=Value.ref a from rx)
 obtain⟨t,rfl⟩:=ry;obtain⟨is,rs,⟨o,f1,f2,n,f3⟩,_⟩:=I.tuple sq;cases rs with
 | @cons _ w _ _ r1 r2 =>
  cases r2;refine wpAny_binaryOp_repeat_ref (T:="tuple") (U:="int") (by decide) ⟨o,f1,f2⟩ (fun s'=>typeIs_int s' k t) zee F.fills_int_mul F.slot_int_rmul zg1 F.slot_int_index.lookup
   (zhu f1 f2 f3 ⟨rfl,⟨o,f1,f2⟩,zol (x:=w) f1 f2 f3 (fun e=>⟨.ref a,H,I,rfl,q1 e⟩) (fun e=>?_) hk⟩)
  exact⟨.ref s.heap.objs.size,_,I.laid (a:=s.heap.objs.size) (o:=.tup [z,z]) (t':=s.toks) (fun _ _ q=>Heap.get?_push_of_some _ q) (Nat.le_refl _) ⟨(show 2<=sizeLine by decide),[w,w],.cons r1 (.cons r1 .nil),IsTD.new _ _⟩,rfl,q2 e _ (I.hok.fresh (Nat.le_refl _))⟩
def ZU:G2
 | .tuple [t],.int k,R=>(k=1\/k=2)/\R (.tuple (List.replicate k.toNat t))
 | _,_,_=>False
theorem zpt:Gp2 X (zqv X.K) ZU:=by
 intro hd O H x y t u Q R dom rx ry g hq;unfold ZU at g;split at g
 ·rename_i t k;obtain⟨hk,g⟩:=g;rw[ry.intI];rcases rx with rx|⟨p,vs,ds,rfl,et,h1,h2,nh⟩|⟨p,zs,ep,ks',rfl,et,h1,h2,nh⟩
  ·obtain⟨a,vs,rfl,sq,rp⟩:=rx.tupI;have rp':=rp;cases rp with
   | @cons v d _ _ r1 r2 =>
    cases r2;refine⟨a,v,k,rfl,rfl,sq,hk,fun e=>?_,fun e p hp=>?_⟩
    ·subst e;exact hq _ _ H g (Same.refl _) rx
    ·subst e;have sm:Same H (upd H p (.tup [v,v])):=Qb hp;exact hq _ _ _ g sm (.tup JQ (fun z=>dom p z hp) (.cons (r1.same sm) (.cons (r1.same sm) .nil)))
  ·cases et
  ·cases et
 ·exact g.elim
theorem zpI(ha:DL X a da)(hb:DL X b db):DE X (.BinOp a .Mult b pos) (dOp ZU da db):=QO zoV zpt ha hb
instance zuE {t:PyData}{k:Int}{R:PyData->Prop}:Stp (ZU (.tuple [t]) (.int k) R) ((k=1\/k=2)/\R (.tuple (List.replicate k.toNat t))):=⟨fun h=>h⟩
end
end L2
namespace Bd
open PySem L2
def top(i:Nat):Stmt:=PySem.Challenge.pw_blockdeal_k18_papers_spoilt.main.body.getD i (.Pass ⟨0,0,0,0⟩)
set_option maxHeartbeats 4000000
local macro_rules | `(tactic| walk_at "S") => `(tactic| first | with_reducible refine zjO ?_ | with_reducible refine Stp.go ?_ | with_reducible refine zue (by with_unfolding_all rfl) ?_ | with_reducible refine j_any (by with_unfolding_all rfl) ?_ | with_reducible refine zn6 (by with_unfolding_all rfl) ?_ | with_reducible refine zn7 (by with_unfolding_all rfl) ?_ | with_reducible refine zjs (by with_unfolding_all rfl) ?_ | with_reducible refine zjr (by with_unfolding_all rfl) ?_)
set_option hygiene false in
local macro_rules | `(tactic| walk_at "K") => `(tactic| first | walk_at "S" | with_reducible refine zrM (fun hc => ?_) (fun hc => ?_) | with_reducible refine zui (fun hc => ?_) (fun hc => ?_) | with_reducible refine And.intro ?_ ?_)
set_option hygiene false in
local macro_rules | `(tactic| wp_walk using $ts:term,*) => `(tactic| repeat' (first $[| with_reducible refine $ts:term]* | walk_at "K"))
local macro_rules | `(tactic| wp_walk) => `(tactic| repeat' walk_at "K")
structure Txt(mg:qM):Prop where
 isi:mg "isinstance" = none
 int:mg "int" = none
 boo:mg "bool" = none
 tup:mg "tuple" = none
 len:mg "len" = none
 min:mg "min" = none
 max:mg "max" = none
 str:mg "str" = none
 rep:mg "repr" = none
 all:mg "all" = none
 any:mg "any" = none
 ran:mg "range" = none
 sum:mg "sum" = none
 srt:mg "sorted" = none
 lst:mg "list" = none
 abs:mg "abs" = none
 zip:mg "zip" = none
 dct:mg "dict" = none
 rev:mg "reversed" = none
 enu:mg "enumerate" = none
section
variable{P:Program}{w:World}{K:qF}{mg:qM}{base:Heap}{Z:ZZ}
theorem zh9:FnScope ["thing"] ["thing"] (Jl (top 1)):=⟨rfl,rfl,rfl,by decide +kernel,rfl,by decide +kernel,by decide +kernel⟩
def ZR:PyData->Bool|.int _=>true|_=>false
def zdL:GD:=fun ts n R=>match ts with
 | [d]=>Pln d/\R (.bool (ZR d)) n
 | _=>False
theorem UE{d:PyData}{b:Bool}{n:Nat}{R:qN}(e:ZR d=b)(h:Pln d)(h':R (.bool b) n):zdL [d] n R:=⟨h,e▸h'⟩
def zdF(Z:ZZ):Prop:=FQ Z "is_whole" (top 1) ["thing"] 1 (spD Z.K 1 zdL)
theorem zij(D:Dq Z.K Z.mg "is_whole" (top 1) ["thing"]) (T:Txt Z.mg):zdF Z:=by
 refine' okQ D zh9 rfl fun f cdv A outer s H E hr=>⟨_,(Jf (Jk (Qt (QH zn9 T.isi T.int boot_int (dl (Ja 0)) Jc) (QF (zl3 (QH ziQ T.isi T.boo zdQ (dl (Ja 0)) Jc)))))),?_⟩
 intro ts n R hl h;unfold zdL at h;split at h
 ·rename_i d;obtain⟨p,h⟩:=h;cases d with
  | dict ks =>
   cases ks with
   | nil =>
    wp_walk
    exact h
   | cons a b=>exact absurd rfl p
  | _ =>
   wp_walk
   exact h
 ·exact h.elim
theorem zc1:FnScope ["bits","thing","begin","height"] ["bits","thing"] (Jl (top 2)):=⟨rfl,rfl,rfl,by decide +kernel,rfl,by decide +kernel,by decide +kernel⟩
def Qa(bits:Int):PyData->Bool
 | .tuple [.int b,.int h]=>decide (0<=h/\h<=bits/\0<=b/\b<2 ^ bits.toNat/\b % 2 ^ h.toNat=0)
 | _=>false
theorem zeU{bits b h:Int}:Qa bits (.tuple [.int b,.int h])=decide (0<=h/\h<=bits/\0<=b/\b<2 ^ bits.toNat/\b % 2 ^ h.toNat=0):=rfl
theorem zeT{bits b h:Int}(b0:0<=bits):Qa bits (.tuple [.int b,.int h])=true↔IsBk bits b h:=by
 unfold Qa;rw[decide_eq_true_iff];constructor
 ·rintro⟨h0,h1,g0,g1,g2⟩;have p:=QL h.toNat;have e:=Int.emod_add_mul_ediv b (2 ^ h.toNat);refine⟨h0,h1,b / 2 ^ h.toNat,Int.ediv_nonneg g0 (by lia),?_,?_⟩
  ·rw[Int.mul_comm];lia
  ·apply Int.ediv_lt_of_lt_mul p;rw[<- Int.pow_add,show(bits - h).toNat+h.toNat=bits.toNat by lia]
   exact g1
 ·intro B;have bb:=B.bounds b0;obtain⟨h0,h1,k,k0,rfl,k1⟩:=B;refine⟨h0,h1,bb.1,?_,Int.mul_emod_left _ _⟩;have:=QL h.toNat;lia
def Pl2(d:PyData):Prop:=Pln d/\∀ts,d=.tuple ts->∀t∈ts,Pln t
def zdM:GD:=fun ts n R=>match ts with
 | [.int bits,d]=>0<=bits/\bits<=64/\Pl2 d/\R (.bool (Qa bits d)) n
 | _=>False
theorem zkm{bits:Int}{d:PyData}{n:Nat}{R:qN}(b0:0<=bits)(b1:bits<=64)(h:Pl2 d)(h':R (.bool (Qa bits d)) n):zdM [.int bits,d] n R:=⟨b0,b1,h,h'⟩
theorem zr9{b c:Bool}{n:Nat}{R:qN}(e:b=c)(h:R (.bool c) n):R (.bool b) n:=e▸h
def zfI(Z:ZZ):Prop:=FQ Z "is_block" (top 2) ["bits","thing"] 2 (spD Z.K 2 zdM)
theorem zim(D:Dq Z.K Z.mg "is_block" (top 2) ["bits","thing"]) (h_is_whole:zdF Z) (T:Txt Z.mg):zfI Z:=by
 refine' okQ D zc1 rfl fun f cdv A outer s H E hr=>⟨_,(Jg (Jz (JS (J3 (J9 (JR (dl (QH YY T.isi T.tup QM (dl (Ja 1)) Jc)))) (Qh (Jt (QT hr) QP (dl (Jw Qp Qm T.len J6 (Jj (dl (Ja 1)) Jq Jc))) (dl Jd) (Jm _))))) (Jf (Jk JZ)) JH) (Jg (QS (Ja 1) (J8 rfl (JB (Jp (i:=2) zc1.nd rfl (Or.inl rfl)) (JB (Jp (i:=3) zc1.nd rfl (Or.inl rfl)) Qd)))) (Jg (Jz (JS (J3 (J9 (JR (dl (Ji h_is_whole hr (Jb (Ja 2) Je Jc))))) (Qh (J9 (JR (dl (Ji h_is_whole hr (Jb (Ja 3) Je Jc)))))))) (Jf (Jk JZ)) JH) (Jg (Jz (JS (J3 (Jt (Qo hr) Qn (dl (Ja 3)) (dl Jd) (Jm _)) (Qh (Jt UM gp_B (dl (Ja 3)) (dl (Ja 0)) (Jm _))))) (Jf (Jk JZ)) JH) (Jf (Jk (Qt (znE QB Qz (Qo hr) Qn (dl Jd) (dl (Ja 2)) (dl (J1 (dl Jd) (dl (Ja 0))))) (QF (JV (QA hr) Qy (dl (zl5 (dl (Ja 2)) (dl (J1 (dl Jd) (dl (Ja 3)))))) (dl Jd) (Jm _)))))))))),?_⟩
 intro ts n R hl h;unfold zdM at h;split at h
 ·rename_i bits d;obtain⟨b0,b1,⟨p,p2⟩,h⟩:=h;cases d with
  | dict ks =>
   cases ks with
   | nil =>
    wp_walk
    exact h
   | cons a b=>exact absurd rfl p
  | tuple ts =>
   have p2:=p2 ts rfl
   match ts,p2,h with
   | [],_,h =>
    wp_walk
    all_goals first|exact h|(exfalso;simp at hc;done)
   | [x],_,h =>
    have wr:Qa bits (.tuple [x])=false:=by unfold Qa;split <;> simp_all
    rw[wr]at h
    wp_walk
    all_goals first|exact h|(exfalso;simp at hc;done)
   | x::y::z::r,_,h =>
    have wr:Qa bits (.tuple (x::y::z::r))=false:=by unfold Qa;split <;> simp_all
    rw[wr]at h
    wp_walk
    all_goals first|exact h|(exfalso;simp at hc;lia)
   | [x,y],p2,h =>
    have px:=p2 x (by simp)
    have py:=p2 y (by simp)
    have wx:(∃b,x=.int b)\/(ZR x=false/\Qa bits (.tuple [x,y])=false):=by
     cases x with
     | int b=>exact .inl ⟨b,rfl⟩
     | _=>exact .inr ⟨rfl,rfl⟩
    rcases wx with⟨b,rfl⟩|⟨wx,wr⟩
    ·have wy:(∃g,y=.int g)\/(ZR y=false/\Qa bits (.tuple [.int b,y])=false):=by
      cases y with
      | int b=>exact .inl ⟨b,rfl⟩
      | _=>exact .inr ⟨rfl,rfl⟩
     rcases wy with⟨g,rfl⟩|⟨wy,wr⟩
     ·wp_walk using UE (b:=true) rfl px ?_,UE (b:=true) rfl py ?_
      all_goals first
       | exact cpow (by lia) (by lia)
       | (rw[UD];exact QL _)
       | skip
      all_goals
       refine zr9 ?_ h
       try simp only[UD]at *
       rw[zeU];generalize (2:Int) ^ bits.toNat=X at *;generalize b % (2:Int) ^ g.toNat=Y at *
       first
        | (symm;rw[decide_eq_false_iff_not];lia)
        | (rw[decide_eq_decide];lia)
        | (exfalso;simp at hc;done)
     ·rw[wr]at h
      wp_walk using UE (b:=true) rfl px ?_,UE wy py ?_
      all_goals first|exact h|(exfalso;simp at hc;done)
    ·rw[wr]at h
     wp_walk using UE wx px ?_
     all_goals first|exact h|(exfalso;simp at hc;done)
  | _ =>
   wp_walk
   exact h
 ·exact h.elim
theorem zjQ:FnScope ["block"] ["block"] (Jl (top 3)):=⟨rfl,rfl,rfl,by decide +kernel,rfl,by decide +kernel,by decide +kernel⟩
def zhx:GD:=fun ts n R=>∃i h:Int,ts=[.tuple [.int i,.int h]]/\0<=h/\h<=1000/\R (.int (2 ^ h.toNat)) n
theorem zmi{i h:Int}{n:Nat}{R:qN}(g0:0<=h)(g1:h<=1000)(h':R (.int (2 ^ h.toNat)) n):zhx [.tuple [.int i,.int h]] n R:=⟨_,_,rfl,g0,g1,h'⟩
def zg3(Z:ZZ):Prop:=FQ Z "size_of" (top 3) ["block"] 1 (spD Z.K 1 zhx)
theorem zjW(D:Dq Z.K Z.mg "size_of" (top 3) ["block"]) (T:Txt Z.mg):zg3 Z:=by
 refine' okQ D zjQ rfl fun f cdv A outer s H E hr=>⟨_,(Jf (Jk (J1 (dl Jd) (dl (Jn (dl (Ja 0)) (dl Jd)))))),?_⟩
 intro ts n R hl hh;obtain⟨i,h,rfl,g0,g1,hh⟩:=hh
 wp_walk
 ·exact cpow (by lia) (by lia)
 ·rw[UD];exact hh
theorem zkL:FnScope ["block","height"] ["block","height"] (Jl (top 6)):=⟨rfl,rfl,rfl,by decide +kernel,rfl,by decide +kernel,by decide +kernel⟩
def zjz:GD:=fun ts n R=>∃i h g:Int,ts=[.tuple [.int i,.int h],.int g]/\0<=g/\g<=1000/\0<=i/\i<2 ^ 64/\R (.tuple [.int (i / 2 ^ g.toNat*2 ^ g.toNat),.int g]) n
theorem znL{i h g:Int}{n:Nat}{R:qN}(g0:0<=g)(g1:g<=1000)(i0:0<=i)(i1:i<2 ^ 64)(h':R (.tuple [.int (i / 2 ^ g.toNat*2 ^ g.toNat),.int g]) n):zjz [.tuple [.int i,.int h],.int g] n R:=⟨_,_,_,rfl,g0,g1,i0,i1,h'⟩
def zjb(Z:ZZ):Prop:=FQ Z "around" (top 6) ["block","height"] 1 (spD Z.K 2 zjz)
theorem zlr(D:Dq Z.K Z.mg "around" (top 6) ["block","height"]) (T:Txt Z.mg):zjb Z:=by
 refine' okQ D zkL rfl fun f cdv A outer s H E hr=>⟨_,(Jf (Jk (Ju (Jb (J1 (dl (zsf (dl (Jn (dl (Ja 0)) (dl Jd))) (dl (Ja 1)))) (dl (Ja 1))) (Jb (Ja 1) Je Jc) JG)))),?_⟩
 intro ts n R hl hh;obtain⟨i,h,g,rfl,g0,g1,i0,i1,hh⟩:=hh;simp only[YJ,YI,YK,YH,u_dC,Yy,YD,YF,YE,YT,Yx,Y0,Y2,YV,YU,Y1,YG,YR,Yn,U1,U2,Yq,U3,U4,Yu,UZ,U0,oSub,oMul,oMod,Q4,oShl,oShr,oXor,oAnd,isNone,isInt,isBool,isTup,l_gI,YA,U6,U7,US,UT,UJ,UL,UK,UU,UV,Yo,UG,UF,Yb,Yc,U9,Ya,Yf,Yg,UR,Yd,Ye,Yl,UI,UH,U8,Ym,Yp,Q0,QY,Q8,Uc,Ua,Ub,Q9,QX,JX,JA,capV,List.map_cons,List.map_nil,List.length_cons,List.length_nil,List.replicate_succ,List.replicate_zero,List.cons_append,List.nil_append,List.append_nil,List.getElem?_cons_succ,List.getElem?_cons_zero,List.set_cons_succ,List.set_cons_zero,List.getD_cons_succ,List.getD_cons_zero,Nat.zero_add,Nat.reduceAdd,Nat.reduceSub,Nat.sub_self,true_and,and_true,Bool.false_eq_true,if_true,if_false,ite_true,ite_false,Bool.not_true,Bool.not_false,Int.natCast_zero]
 refine⟨g0,⟨g0,by lia,?_⟩,hh⟩
 have:i / 2 ^ g.toNat<=i:=Int.ediv_le_self _ i0;have:0<=i / 2 ^ g.toNat:=Int.ediv_nonneg i0 (Int.le_of_lt (QL _));lia
theorem zmI:FnScope ["one","other"] ["one","other"] (Jl (top 4)):=⟨rfl,rfl,rfl,by decide +kernel,rfl,by decide +kernel,by decide +kernel⟩
def zlU:GD:=fun ts n R=>∃i h j g:Int,ts=[.tuple [.int i,.int h],.tuple [.int j,.int g]]/\0<=h/\h<=1000/\0<=j/\j<2 ^ 64/\R (.bool (hldD i h j g)) n
theorem zpR{i h j g:Int}{n:Nat}{R:qN}(h0:0<=h)(h1:h<=1000)(j0:0<=j)(j1:j<2 ^ 64)(h':R (.bool (hldD i h j g)) n):zlU [.tuple [.int i,.int h],.tuple [.int j,.int g]] n R:=⟨_,_,_,_,rfl,h0,h1,j0,j1,h'⟩
def zkZ(Z:ZZ):Prop:=FQ Z "holds" (top 4) ["one","other"] 2 (spD Z.K 2 zlU)
theorem zm_(D:Dq Z.K Z.mg "holds" (top 4) ["one","other"]) (h_around:zjb Z) (T:Txt Z.mg):zkZ Z:=by
 refine' okQ D zmI rfl fun f cdv A outer s H E hr=>⟨_,(Jf (Jk (Qt (JV Z0 gp_B (dl (Jn (dl (Ja 0)) (dl Jd))) (dl (Jn (dl (Ja 1)) (dl Jd))) (Jm _)) (QF (JV (QA hr) Qy (dl (Ji h_around hr (Jb (Ja 1) (Jb (Jn (dl (Ja 0)) (dl Jd)) Je Uk) Jc))) (dl (Ja 0)) (Jm _)))))),?_⟩
 intro ts n R hl hh;obtain⟨i,h,j,g,rfl,g0,g1,j0,j1,hh⟩:=hh;unfold hldD at hh
 wp_walk using znL g0 g1 j0 j1 ?_
 ·exact QX
 ·exact QX
 ·rw[decide_eq_true hc,Bool.true_and]at hh;rw[zgF];simpa using hh
 ·rw[decide_eq_false hc,Bool.false_and]at hh;exact hh
theorem zca:FnScope ["block","begin","height"] ["block"] (Jl (top 7)):=⟨rfl,rfl,rfl,by decide +kernel,rfl,by decide +kernel,by decide +kernel⟩
def zd7:GD:=fun ts n R=>∃i h:Int,ts=[.tuple [.int i,.int h]]/\0<=h/\h<=1000/\R (.tuple [.int (Builtin.bitXor i (2 ^ h.toNat)),.int h]) n
theorem zhM{i h:Int}{n:Nat}{R:qN}(g0:0<=h)(g1:h<=1000)(h':R (.tuple [.int (Builtin.bitXor i (2 ^ h.toNat)),.int h]) n):zd7 [.tuple [.int i,.int h]] n R:=⟨_,_,rfl,g0,g1,h'⟩
def zdV(Z:ZZ):Prop:=FQ Z "other_half" (top 7) ["block"] 1 (spD Z.K 1 zd7)
theorem zgn(D:Dq Z.K Z.mg "other_half" (top 7) ["block"]) (T:Txt Z.mg):zdV Z:=by
 refine' okQ D zca rfl fun f cdv A outer s H E hr=>⟨_,(Jg (QS (Ja 0) (J8 rfl (JB (Jp (i:=1) zca.nd rfl (Or.inl rfl)) (JB (Jp (i:=2) zca.nd rfl (Or.inl rfl)) Qd)))) (Jf (Jk (Ju (Jb (zod (dl (Ja 1)) (dl (J1 (dl Jd) (dl (Ja 2))))) (Jb (Ja 2) Je Jc) JG))))),?_⟩
 intro ts n R hl hh;obtain⟨i,h,rfl,g0,g1,hh⟩:=hh;simp only[YJ,YI,YK,YH,u_dC,Yy,YD,YF,YE,YT,Yx,Y0,Y2,YV,YU,Y1,YG,YR,Yn,U1,U2,Yq,U3,U4,Yu,UZ,U0,oSub,oMul,oMod,Q4,oShl,oShr,oXor,oAnd,isNone,isInt,isBool,isTup,l_gI,YA,U6,U7,US,UT,UJ,UL,UK,UU,UV,Yo,UG,UF,Yb,Yc,U9,Ya,Yf,Yg,UR,Yd,Ye,Yl,UI,UH,U8,Ym,Yp,Q0,QY,Q8,Uc,Ua,Ub,Q9,QX,JX,JA,capV,List.map_cons,List.map_nil,List.length_cons,List.length_nil,List.replicate_succ,List.replicate_zero,List.cons_append,List.nil_append,List.append_nil,List.getElem?_cons_succ,List.getElem?_cons_zero,List.set_cons_succ,List.set_cons_zero,List.getD_cons_succ,List.getD_cons_zero,Nat.zero_add,Nat.reduceAdd,Nat.reduceSub,Nat.sub_self,true_and,and_true,Bool.false_eq_true,if_true,if_false,ite_true,ite_false,Bool.not_true,Bool.not_false,Int.natCast_zero]
 refine⟨cpow g0 (by lia),?_⟩
 rw[Int.one_mul];exact hh
theorem Vl:FnScope ["block","begin","height","lower"] ["block"] (Jl (top 5)):=⟨rfl,rfl,rfl,by decide +kernel,rfl,by decide +kernel,by decide +kernel⟩
def zjw:GD:=fun ts n R=>∃i h:Int,ts=[.tuple [.int i,.int h]]/\1<=h/\h<=1000/\R (.tuple [.tuple [.int i,.int (h - 1)],.tuple [.int (Builtin.bitXor i (2 ^ (h - 1).toNat)),.int (h - 1)]]) n
theorem Vf{i h:Int}{n:Nat}{R:qN}(g0:1<=h)(g1:h<=1000)(h':R (.tuple [.tuple [.int i,.int (h - 1)],.tuple [.int (Builtin.bitXor i (2 ^ (h - 1).toNat)),.int (h - 1)]]) n):zjw [.tuple [.int i,.int h]] n R:=⟨_,_,rfl,g0,g1,h'⟩
def zge(Z:ZZ):Prop:=FQ Z "halves" (top 5) ["block"] 2 (spD Z.K 1 zjw)
theorem zlo(D:Dq Z.K Z.mg "halves" (top 5) ["block"]) (h_other_half:zdV Z) (T:Txt Z.mg):zge Z:=by
 refine' okQ D Vl rfl fun f cdv A outer s H E hr=>⟨_,(Jg (QS (Ja 0) (J8 rfl (JB (Jp (i:=1) Vl.nd rfl (Or.inl rfl)) (JB (Jp (i:=2) Vl.nd rfl (Or.inl rfl)) Qd)))) (Jg (Jr (i:=3) Vl.nd rfl (Or.inl rfl) (Ju (Jb (Ja 1) (Jb (Qr (dl (Ja 2)) (dl Jd)) Je JG) Jc))) (Jf (Jk (Ju (Jb (Ja 3) (Jb (Ji h_other_half hr (Jb (Ja 3) Je Jc)) Je JE) Jc)))))),?_⟩
 intro ts n R hl hh;obtain⟨i,h,rfl,g0,g1,hh⟩:=hh
 wp_walk using zhM ?_ ?_ ?_
 ·lia
 ·lia
 ·exact hh
theorem zkK:FnScope ["block"] ["block"] (Jl (top 16)):=⟨rfl,rfl,rfl,by decide +kernel,rfl,by decide +kernel,by decide +kernel⟩
def zjy:GD:=fun ts n R=>∃i h:Int,ts=[.tuple [.int i,.int h]]/\0<=h/\h<=1000/\R (.int (i+2 ^ h.toNat)) n
theorem ZC{i h:Int}{n:Nat}{R:qN}(g0:0<=h)(g1:h<=1000)(h':R (.int (i+2 ^ h.toNat)) n):zjy [.tuple [.int i,.int h]] n R:=⟨_,_,rfl,g0,g1,h'⟩
def ZF(Z:ZZ):Prop:=FQ Z "end_of" (top 16) ["block"] 2 (spD Z.K 1 zjy)
theorem zlq(D:Dq Z.K Z.mg "end_of" (top 16) ["block"]) (h_size_of:zg3 Z) (T:Txt Z.mg):ZF Z:=by
 refine' okQ D zkK rfl fun f cdv A outer s H E hr=>⟨_,(Jf (Jk (JC (dl (Jn (dl (Ja 0)) (dl Jd))) (dl (Ji h_size_of hr (Jb (Ja 0) Je Jc)))))),?_⟩
 intro ts n R hl hh;obtain⟨i,h,rfl,g0,g1,hh⟩:=hh
 wp_walk using zmi ?_ ?_ ?_
 ·lia
 ·lia
 ·exact hh
theorem zbU:FnScope ["begin","high","room"] ["begin","high"] (Jl (top 17)):=⟨rfl,rfl,rfl,by decide +kernel,rfl,by decide +kernel,by decide +kernel⟩
theorem zkb{hi:Int}(h:0<hi):Qw 0 hi hi.toNat.log2:=⟨by simp,by have:=zlA h;lia,fun z=>by have:=zlw h;have:=z.2;lia⟩
theorem zlP{lo hi:Int}{t:Nat}(h:lo<hi)(h1:lo % 2 ^ t=0)(h2:¬lo % 2 ^ (t+1)=0):Qw lo hi (min (hi - lo).toNat.log2 t):=by
 have a:=zlA (i:=hi - lo) (by lia)
 have b:=zlw (i:=hi - lo) (by lia)
 rcases Nat.le_total (hi - lo).toNat.log2 t with z|z
 ·rw[Nat.min_eq_left z];exact⟨Yr z h1,a,fun y=>by have:=y.2;lia⟩
 ·rw[Nat.min_eq_right z];exact⟨h1,Int.le_trans (Ue z) a,fun y=>h2 y.1⟩
theorem znf(t:Nat):((2:Int) ^ t).toNat.log2=t:=by
 have e:((2:Int) ^ t).toNat=2 ^ t:=by
  have:((2 ^ t:Nat):Int)=(2:Int) ^ t:=by rw[Int.natCast_pow];rfl
  rw[<- this];rfl
 rw[e,Nat.log2_two_pow]
def zb6:GD:=fun ts n R=>∃lo hi:Int,ts=[.int lo,.int hi]/\0<=lo/\lo<hi/\∀g:Nat,Qw lo hi g->R (.int g) n
theorem zdP{lo hi:Int}{n:Nat}{R:qN}(l0:0<=lo)(l1:lo<hi)(h:∀g:Nat,Qw lo hi g->R (.int g) n):zb6 [.int lo,.int hi] n R:=⟨lo,hi,rfl,l0,l1,h⟩
def zb2(Z:ZZ):Prop:=FQ Z "greatest_height" (top 17) ["begin","high"] 1 (spD Z.K 2 zb6)
theorem zdp(D:Dq Z.K Z.mg "greatest_height" (top 17) ["begin","high"]) (T:Txt Z.mg):zb2 Z:=by
 refine' okQ D zbU rfl fun f cdv A outer s H E hr=>⟨_,(Jg (Jr (i:=2) zbU.nd rfl (Or.inl rfl) (Qr (dl (zhC (dl (Qr (dl (Ja 1)) (dl (Ja 0)))))) (dl Jd))) (Jg (Jz (Jt (QA hr) Qy (dl (Ja 0)) (dl Jd) (Jm _)) (Jf (Jk (Ja 2))) JH) (Jf (Jk (Jw (UA rfl) Uo T.min Uy (Jj (dl (Ja 2)) (Jj (dl (Qr (dl (zhC (dl (zsh (dl (Ja 0)) (dl (Yj (Ja 0))))))) (dl Jd))) Jq JG) Jc)))))),?_⟩
 intro ts n R hl h;obtain⟨lo,hi,rfl,l0,l1,h⟩:=h;have room:=zeW (i:=hi - lo) (by lia)
 wp_walk
 ·rw[room];subst hc;have:=h _ (zkb l1);rw[Int.sub_zero];exact this
 ·obtain⟨t,t1,t2⟩:=zs4 (b:=lo) (by lia)
  have an:=zpU (b:=lo) (by lia) t1 t2
  have lb:=zeW (i:=(2:Int) ^ t) (QL t);rw[znf]at lb;rw[an,room,lb];have:=h _ (zlP l1 t1 t2);have e:(if (t:Int)<((hi - lo).toNat.log2:Int) then(t:Int) else((hi - lo).toNat.log2:Int))=((min (hi - lo).toNat.log2 t:Nat):Int):=by
   split <;> lia
  rw[e];exact this
theorem Zw:FnScope ["low","high","blocks","begin","block"] ["low","high"] (Jl (top 10)):=⟨rfl,rfl,rfl,by decide +kernel,rfl,by decide +kernel,by decide +kernel⟩
def Zi:GD:=fun ts n R=>∃lo hi:Int,ts=[.int lo,.int hi]/\0<=lo/\lo<=hi/\hi<=2 ^ 64/\∀bs,Jx lo hi bs->R (.tuple (pD bs)) n
theorem zsl{lo hi:Int}{n:Nat}{R:qN}(l0:0<=lo)(l1:lo<=hi)(l2:hi<=2 ^ 64)(h:∀bs,Jx lo hi bs->R (.tuple (pD bs)) n):Zi [.int lo,.int hi] n R:=⟨lo,hi,rfl,l0,l1,l2,h⟩
def znZ(Z:ZZ):Prop:=FQ Z "span" (top 10) ["low","high"] 3 (spD Z.K 2 Zi)
theorem zo0(D:Dq Z.K Z.mg "span" (top 10) ["low","high"]) (h_end_of:ZF Z) (h_greatest_height:zb2 Z) (T:Txt Z.mg):znZ Z:=by
 refine' okQ D Zw rfl fun f cdv A outer s H E hr=>⟨_,(Jg (YM (i:=2) Zw.nd rfl (Or.inl rfl) (Qg Je)) (Jg (Jr (i:=3) Zw.nd rfl (Or.inl rfl) (Ja 0)) (Jg (zgG PassesOwn.never (Jt (Qo hr) Qn (dl (Ja 3)) (dl (Ja 1)) (Jm _)) (Jg (Jr (i:=4) Zw.nd rfl (Or.inl rfl) (Ju (Jb (Ja 3) (Jb (Ji h_greatest_height hr (Jb (Ja 3) (Jb (Ja 1) Je Jc) Jc)) Je JE) Jc))) (Jg (UC 2 (Ja 4)) (Jf (Jr (i:=3) Zw.nd rfl (Or.inl rfl) (Ji h_end_of hr (Jb (Ja 4) Je Jc))))))) (Y8 2 (Jf (Jk (UN ZL ZD T.tup QM (Jj (dl (Ja 2)) Jq Jc)))))))),?_⟩
 intro ts n R hl h;obtain⟨lo,hi,rfl,l0,l1,l2,h⟩:=h;obtain⟨all,A⟩:=zkE _ lo hi (Nat.le_refl _) l1;have al:=A.len l0 l2
 wp_walk
 refine zkw (fun m ρ n'=>n'=n/\∃(bs rest:qB) (be:Int) (c4:Option Cell),ρ=[some (.val (.int lo)),some (.val (.int hi)),some (.own (pD bs)),some (.val (.int be)),c4]/\all=bs++rest/\Jx be hi rest/\lo<=be/\m=rest.length) (m:=all.length) ⟨rfl,[],all,lo,_,rfl,rfl,A,Int.le_refl _,rfl⟩ ?_
 rintro m ρ n' NX RT BK ⟨rfl,bs,rest,be,c4,rfl,eall,S,lb,rfl⟩ hN hR hB
 wp_walk
 ·cases rest with
  | nil=>have:be=hi:=S;lia
  | cons b r =>
   obtain⟨s1,s2,s3,s4,s5⟩:=S;refine zdP (by lia) hc fun g G=>?_
   have eg:b.2.toNat=g:=s4.uniq G;have eb:b=(be,(g:Int)):=Prod.ext s2 (by show b.2=(g:Int);lia)
   have gl:g<=64:=by
    rcases Nat.lt_or_ge 64 g with z|z
    ·have:=Ue (show 65<=g by lia)
     have:=G.2.1;have e:(2:Int) ^ 65=2*2 ^ 64:=by decide
     lia
    ·exact z
   wp_walk using ZC (by lia) (by lia) ?_
   ·rw[JP];have:=congrArg List.length eall;rw[List.length_append]at this;lia
   ·refine hN r.length _ _ (by simp) ⟨rfl,bs++[b],r,be+2 ^ (g:Int).toNat,some (.val (.tuple [.int be,.int (g:Int)])),by rw[eb,<- Z6],by rw[eall];simp,?_,?_,rfl⟩
    ·rw[eg]at s5;simpa using s5
    ·have:=QL (g:Int).toNat;lia
 ·have e:be=hi:=by have:=S.le;lia
  cases rest with
  | cons b r=>have:=S.1;lia
  | nil =>
   refine hB _ _ ?_
   wp_walk
   rw[List.append_nil]at eall;rw[<- eall];exact h _ A
theorem zh8:FnScope ["runs"] ["runs"] (Jl (top 18)):=⟨rfl,rfl,rfl,by decide +kernel,rfl,by decide +kernel,by decide +kernel⟩
def zfR:GD:=fun ts n R=>∃rs:List (Int×Int),ts=[.list (pD rs)]/\(∀r∈rs,0<=r.1/\r.1<=r.2/\r.2<=2 ^ 64)/\rs.length<=100000/\∀ps,PatS rs ps->R (.tuple (pD ps)) n
theorem zkj{rs:qB}{n:Nat}{R:qN}(w:∀r∈rs,0<=r.1/\r.1<=r.2/\r.2<=2 ^ 64)(l:rs.length<=100000)(h:∀ps,PatS rs ps->R (.tuple (pD ps)) n):zfR [.list (pD rs)] n R:=⟨rs,rfl,w,l,h⟩
theorem zld:∀{rs:qB},(∀r∈rs,r.1<=r.2)->∃ps,PatS rs ps
 | [],_=>⟨[],rfl⟩
 | r::rs,h=>by
  obtain⟨a,A⟩:=zkE _ r.1 r.2 (Nat.le_refl _) (h r (by simp))
  obtain⟨b,B⟩:=zld (rs:=rs) fun s hs=>h s (by simp[hs])
  exact⟨a++b,a,b,rfl,A,B⟩
theorem zjD{g:DTG}{d:DTE}{ρ1:En}{n:Nat}{Rl:List PyData->Nat->Prop}:∀(xs acc:qD),(∀x∈xs,∀K:PyData->Nat->Prop,K x n->g x ρ1 fun ρ2=>d ρ2 n K)->acc.length+xs.length<=16777216->Rl (acc++xs) n->JM g dYes d ρ1 xs acc n Rl
 | [],acc,_,_,h=>by simpa[JM] using h
 | x::xs,acc,hg,hl,h=>by
  have e:(fun ρ2=>dYes ρ2 n fun b n2=>if b=true then d ρ2 n2 fun t n3=>acc.length<16777216/\JM g dYes d ρ1 xs (acc++[t]) n3 Rl else JM g dYes d ρ1 xs acc n2 Rl)=fun ρ2=>d ρ2 n fun t n3=>acc.length<16777216/\JM g dYes d ρ1 xs (acc++[t]) n3 Rl:=by
   funext ρ2
   exact propext ⟨fun z=>by simpa[dYes] using z,fun z=>by simpa[dYes] using z⟩
  show g x ρ1 fun ρ2=>dYes ρ2 n fun b n2=>if b=true then d ρ2 n2 fun t n3=>acc.length<16777216/\JM g dYes d ρ1 xs (acc++[t]) n3 Rl else JM g dYes d ρ1 xs acc n2 Rl
  rw[e];refine hg x (by simp) _ ⟨by simp at hl;lia,zjD xs (acc++[x]) (fun y hy=>hg y (by simp[hy])) (by simp at hl ⊢;lia) (by simpa using h)⟩
def zfE(Z:ZZ):Prop:=FQ Z "patch_of" (top 18) ["runs"] 4 (spD Z.K 1 zfR)
theorem zig(D:Dq Z.K Z.mg "patch_of" (top 18) ["runs"]) (h_span:znZ Z) (T:Txt Z.mg):zfE Z:=by
 refine' okQ D zh8 rfl fun f cdv A outer s H E hr=>⟨_,(Jf (Jk (UN ZL ZD T.tup QM (Jj (dl (JO (znz (own:=["low","high","block"]) (capt:=[]) rfl (CompScope.of rfl) (dil (zsc (Ja 0))) (fun _ _ _ _=>(J8 rfl (JB (Jp (i:=0) (by show(["low","high","block"]:List Str).Nodup;decide +kernel) rfl (Or.inl rfl)) (JB (Jp (i:=1) (by show(["low","high","block"]:List Str).Nodup;decide +kernel) rfl (Or.inl rfl)) Qd)))) (by decide) (fun _ _ _ _=>Qk) (fun _ _ _ _=>(QR (Ji h_span hr (Jb (Ja 0) (Jb (Ja 1) Je Jc) Jc)))) (fun _ _ _ _=>(Jp (i:=2) (by show(["low","high","block"]:List Str).Nodup;decide +kernel) rfl (Or.inl rfl))) (by decide) (fun _ _ _ _=>Qk) (fun _ _ _ _=>(Ja 2))))) Jq QJ)))),?_⟩
 intro ts n R hl h;obtain⟨rs,rfl,w,l,h⟩:=h
 wp_walk
 have key:∀(rs:qB) (acc ps:qB),(∀r∈rs,0<=r.1/\r.1<=r.2/\r.2<=2 ^ 64)->acc.length+130*rs.length<=16777216->PatS rs ps->∀K:List PyData->Nat->Prop,K (pD (acc++ps)) n ->
   Uw (UY (QW (Qi 0) (QW (Qi 1) UX))) dYes (dItT (dFn Zi (Qq (dVar 0) (Qq (dVar 1) dNil)))) (Qi 2) dYes (dVar 2) [none,none,none] (pD rs) (pD acc) n K:=by
  intro rs;induction rs with
  | nil =>
   intro acc ps _ _ P K hK;cases(show ps=[] from P)
   rw[List.append_nil]at hK;exact hK
  | cons r rs ih =>
   intro acc ps w la P K hK;obtain⟨a,b,rfl,Sa,Pb⟩:=P;have wr:=w r (by simp)
   have ll:=Sa.len wr.1 wr.2.2;show UY (QW (Qi 0) (QW (Qi 1) UX)) (.tuple [.int r.1,.int r.2]) [none,none,none] fun ρ1=>dYes ρ1 n fun b n2=>if b=true then dItT (dFn Zi (Qq (dVar 0) (Qq (dVar 1) dNil))) ρ1 n2 fun ts n3=>JM (Qi 2) dYes (dVar 2) ρ1 ts (pD acc) n3 fun acc' n4=>Uw (UY (QW (Qi 0) (QW (Qi 1) UX))) dYes (dItT (dFn Zi (Qq (dVar 0) (Qq (dVar 1) dNil)))) (Qi 2) dYes (dVar 2) [none,none,none] (pD rs) acc' n4 K else _
   rw[List.length_cons]at la
   wp_walk using zsl wr.1 wr.2.1 wr.2.2 (fun bs B=>?_)
   rw[B.uniq Sa];refine zjD _ _ (fun x hx K2 hK2=>?_) (by rw[JP,JP];lia) ?_
   ·wp_walk
    exact hK2
   ·rw[zqW];exact ih (acc++a) b (fun s hs=>w s (by simp[hs])) (by rw[List.length_append];lia) Pb K (by rw[List.append_assoc];exact hK)
 obtain⟨ps,P⟩:=zld (rs:=rs) fun r hr=>(w r hr).2.1
 refine key rs [] ps w (by simp;lia) P _ ?_
 wp_walk
 exact h ps P
theorem ZN:FnScope ["blocks","runs","block","low","high"] ["blocks"] (Jl (top 19)):=⟨rfl,rfl,rfl,by decide +kernel,rfl,by decide +kernel,by decide +kernel⟩
theorem zpc{bits:Int}{bs:qB}{t:PyData}{Rl:List PyData->Prop}(ht:t=.list (pD bs)\/t=.tuple (pD bs))(hb:bits<=64)(B:Bks bits bs)(h64:bs.length<64)
  (h:∀cs:List (Int×Int),cs.Perm bs->cs.Pairwise (fun a b=>a.1<=b.1)->Rl (pD cs)):Zf t Rl:=by
 have key:(pD bs).length<64/\(∀x∈pD bs,IsPr x)/\∀ts':List PyData,ts'.Perm (pD bs)->ts'.Pairwise (fun a b=>rkD a<=rkD b)->Rl ts':=by
  refine⟨by rw[JP];exact h64,fun x hx=>?_,fun ts' pm pw=>?_⟩
  ·obtain⟨b,hb',rfl⟩:=List.mem_map.mp hx;have:=B b hb';exact⟨b.1,b.2,rfl,this.1,by have:=this.2.1;lia⟩
  ·have pm':ts'.Perm ((bs.map fun b=>(b,prD b)).map (·.2)):=by
    have:(bs.map fun b=>(b,prD b)).map (·.2)=pD bs:=by simp[pD]
    rw[this];exact pm
   obtain⟨zs,p1,p2⟩:=zgj pm';have ez:∀z∈zs,z.2=prD z.1:=fun z hz=>by
    obtain⟨b,_,rfl⟩:=List.mem_map.mp (p1.mem_iff.mp hz)
    rfl
   have e:ts'=pD (zs.map (·.1)):=by
    rw[<- p2];unfold pD;rw[List.map_map];exact List.map_congr_left fun z hz=>ez z hz
   have pc:(zs.map (·.1)).Perm bs:=by
    have:=p1.map (·.1);rw[List.map_map]at this;have e2:bs.map ((fun x:(Int×Int)×PyData=>x.1)∘fun b=>(b,prD b))=bs:=by
     show bs.map id=bs
     exact List.map_id _
    rwa [e2]at this
   rw[e];have B':Bks bits (zs.map (·.1)):=fun b hb=>B b (pc.mem_iff.mp hb)
   rw[e]at pw;unfold pD at pw;rw[List.pairwise_map]at pw;refine h _ pc (List.Pairwise.imp_of_mem ?_ pw);intro a b ha hb h2;have h2:a.1*1000+a.2<=b.1*1000+b.2:=h2;have a0:=(B' a ha).1;have a1:=(B' a ha).2.1;have b0:=(B' b hb).1;have b1:=(B' b hb).2.1;lia
 rcases ht with rfl|rfl <;> exact key
def zhy:GD:=fun ts n R=>∃(bits:Int) (bs:qB) (t:PyData),ts=[t]/\(t=.list (pD bs)\/t=.tuple (pD bs))/\0<=bits/\bits<=64/\Bks bits bs/\bs.length<64/\∀rs,NR rs->(∀x,mR x rs↔mB x bs)->rs.length<=bs.length->R (.list (pD rs)) n
theorem zmj{bits:Int}{bs:qB}{t:PyData}{n:Nat}{R:qN}(ht:t=.list (pD bs)\/t=.tuple (pD bs))(b0:0<=bits)(b1:bits<=64)(B:Bks bits bs)(l:bs.length<64)(h:∀rs,NR rs->(∀x,mR x rs↔mB x bs)->rs.length<=bs.length->R (.list (pD rs)) n):zhy [t] n R:=⟨bits,bs,t,rfl,ht,b0,b1,B,l,h⟩
def zg4(Z:ZZ):Prop:=FQ Z "runs_of" (top 19) ["blocks"] 3 (spD Z.K 1 zhy)
theorem zjX(D:Dq Z.K Z.mg "runs_of" (top 19) ["blocks"]) (h_end_of:ZF Z) (T:Txt Z.mg):zg4 Z:=by
 refine' okQ D ZN rfl fun f cdv A outer s H E hr=>⟨_,(Jg (YM (i:=1) ZN.nd rfl (Or.inl rfl) (Qg Je)) (Jg (Uj PassesOwn.never rfl (zlY (JO (zhB hr T.srt (dl (Ja 0)) Jc))) (Jp (i:=2) ZN.nd rfl (Or.inl rfl)) (Jf (Jz (JS (Zp (JR (Ui 1)) (ZB (Jt QB Qz (dl (Jn (dl (Ja 2)) (dl Jd))) (dl (Jn (dl (Jn (Ui 1) (dl (Yj Jd)))) (dl Jd))) (Jm _))))) (Jg (QS (Jn (Ui 1) (dl (Yj Jd))) (J8 rfl (JB (Jp (i:=3) ZN.nd rfl (Or.inl rfl)) (JB (Jp (i:=4) ZN.nd rfl (Or.inl rfl)) Qd)))) (Jf (zsa 1 (Yj Jd) (Ju (Jb (Ja 3) (Jb (Jw (Uz rfl) Um T.max Ux (Jj (dl (Ja 4)) (Jj (dl (Ji h_end_of hr (Jb (Ja 2) Je Jc))) Jq JE) Jc)) Je JE) Jc))))) (Jf (UC 1 (Ju (Jb (Jn (dl (Ja 2)) (dl Jd)) (Jb (Ji h_end_of hr (Jb (Ja 2) Je Jc)) Je JE) Uk))))))) (Y8 1 (Jf (Jk (Ja 1)))))),?_⟩
 intro ts n R hl h;obtain⟨bits,bs,t,rfl,ht,b0,b1,B,l,h⟩:=h
 wp_walk
 refine zpc ht b1 B l fun cs pm pw=>?_
 have Bc:Bks bits cs:=fun b hb=>B b (pm.mem_iff.mp hb)
 have lc:=pm.length_eq;refine zr8 1 2 3 4 (fun k a1 _ _ _ m=>m=n/\∃rs:List (Int×Int),a1=some (.own (pD rs))/\NR rs/\(∀x,mR x rs↔mB x (cs.take k))/\rs.length<=k/\∀r∈rs,∀b∈cs.drop k,r.1<=b.1) ⟨rfl,[],rfl,⟨(fun r hr=>nomatch hr),.nil⟩,(fun x=>⟨fun z=>absurd z YS,fun z=>absurd z Z5⟩),Nat.le_refl _,fun r hr=>nomatch hr⟩ ?_ ?_
 ·rintro k t' a1 a2 a3 a4 m K RT BK et ⟨rfl,rs,rfl,nr,me,lr,lo⟩ hK hRT hBK;obtain⟨i,g,eb,rfl⟩:=zlg et;have kl:=(List.getElem?_eq_some_iff.mp eb).1;have Bb:=Bc _ (List.mem_of_getElem? eb);have g0:0<=g:=Bb.1;have g1:g<=bits:=Bb.2.1;have pg:=QL g.toNat;have tk:cs.take (k+1)=cs.take k++[(i,g)]:=by rw[List.take_succ,eb];rfl
  have dk:cs.drop k=(i,g)::cs.drop (k+1):=by
   rw[List.drop_eq_getElem_cons kl];congr 1;have:=List.getElem?_eq_getElem kl;rw[eb]at this;exact(Option.some.inj this).symm
  have after:∀b∈cs.drop (k+1),i<=b.1:=fun b hb=>by
   have:cs.Pairwise fun a b=>a.1<=b.1:=pw
   have:=(this.sublist (List.drop_sublist k cs));rw[dk]at this;exact(List.pairwise_cons.mp this).1 b hb
  have m1:∀x,mB x (cs.take (k+1))↔mB x (cs.take k)\/(i<=x/\x<i+2 ^ g.toNat):=fun x=>by
   rw[tk,zn4,zlv];constructor
   ·rintro(z|z|z)
    ·exact .inl z
    ·exact .inr z
    ·exact absurd z Z5
   ·rintro(z|z)
    ·exact .inl z
    ·exact .inr (.inl z)
  have new:(∀r∈rs,r.2<i)->∀c2 c3 c4,K [some (.val t),some (.own (pD rs++[.tuple [.int i,.int (i+2 ^ g.toNat)]])),c2,c3,c4] m:=fun hlt c2 c3 c4 =>
   hK _ _ _ _ _ ⟨rfl,rs++[(i,i+2 ^ g.toNat)],by rw[<- Z6],⟨fun r hr=>by
    rcases List.mem_append.mp hr with z|z
    ·exact nr.1 r z
    ·cases List.mem_singleton.mp z;show i<i+2 ^ g.toNat;lia,by
    rw[List.pairwise_append];exact⟨nr.2,List.pairwise_singleton _ _,fun a ha b hb=>by cases List.mem_singleton.mp hb;exact hlt a ha⟩⟩,(fun x=>by
    rw[zlu,me,m1,J5];constructor
    ·rintro(z|z|z)
     ·exact .inl z
     ·exact .inr z
     ·exact absurd z YS
    ·rintro(z|z)
     ·exact .inl z
     ·exact .inr (.inl z)),by simp;lia,fun r hr b hb=>by
    rcases List.mem_append.mp hr with z|z
    ·exact lo r z b (by rw[dk];simp[hb])
    ·cases List.mem_singleton.mp z;exact after b hb⟩
  rcases List.eq_nil_or_concat rs with rfl|⟨rs',r,rfl⟩
  ·wp_walk using ZC g0 (by lia) ?_
   ·show 0<16777216;decide
   ·exact new (fun r hr=>nomatch hr) _ _ _
   ·exact absurd hc (by simp[pD])
  ·rw[List.concat_eq_append]at *;have sn:pD (rs'++[r])=pD rs'++[.tuple [.int r.1,.int r.2]]:=by simp[pD]
   have lr':rs'.length+1<=k:=by simpa using lr
   have r12:=nr.1 r (by simp)
   have rlo:r.1<=i:=lo r (by simp) (i,g) (by rw[dk];simp)
   have pws:=List.pairwise_append.mp nr.2;rw[sn]at new ⊢
   wp_walk using znl ?_,ZC g0 (by lia) ?_
   all_goals first
    | (exfalso;simp at hc;done)
    | (exfalso;rename_i y;simp at y;done)
    | (simp[JP];lia)
    | skip
   ·refine zqB zjp ?_
    wp_walk
    rw[List.set_append_right _ _ (Nat.le_refl _),Nat.sub_self];have mx:(if i+2 ^ g.toNat > r.2 then i+2 ^ g.toNat else r.2)=max r.2 (i+2 ^ g.toNat):=by split <;> lia
    refine hK _ _ _ _ _ ⟨rfl,rs'++[(r.1,max r.2 (i+2 ^ g.toNat))],?_,⟨fun s hs=>?_,?_⟩,fun x=>?_,by simp;lia,fun s hs b hb=>?_⟩
    ·rw[mx];simp[pD]
    ·rcases List.mem_append.mp hs with z|z
     ·exact nr.1 s (by simp[z])
     ·cases List.mem_singleton.mp z;show r.1<max r.2 _;lia
    ·rw[List.pairwise_append];exact⟨pws.1,List.pairwise_singleton _ _,fun a ha b hb=>by cases List.mem_singleton.mp hb;exact pws.2.2 a ha r (by simp)⟩
    ·have mex:=me x;rw[zlu,J5]at mex;rw[zlu,J5,m1,<- mex];have nn:=YS (x:=x);show _\/(r.1<=x/\x<max r.2 (i+2 ^ g.toNat))\/_↔_
     constructor
     ·rintro(z|z|z)
      ·exact .inl (.inl z)
      ·by_cases w:x<r.2
       ·exact .inl (.inr (.inl ⟨z.1,w⟩))
       ·exact .inr (by lia)
      ·exact absurd z nn
     ·rintro((z|z|z)|z)
      ·exact .inl z
      ·exact .inr (.inl (by lia))
      ·exact absurd z nn
      ·exact .inr (.inl (by lia))
    ·rcases List.mem_append.mp hs with z|z
     ·exact lo s (by simp[z]) b (by rw[dk];simp[hb])
     ·cases List.mem_singleton.mp z;exact lo r (by simp) b (by rw[dk];simp[hb])
   ·refine new (fun s hs=>?_) _ _ _
    rcases List.mem_append.mp hs with z|z
    ·have:=pws.2.2 s z r (by simp);have:=nr.1 r (by simp);lia
    ·cases List.mem_singleton.mp z;lia
 ·rintro a1 a2 a3 a4 m ⟨rfl,rs,rfl,nr,me,lr,lo⟩;rw[JP]at me lr;rw[List.take_length]at me
  wp_walk
  exact h rs nr (fun x=>by rw[me x,zo8 pm]) (by lia)
theorem zkJ:FnScope ["blocks"] ["blocks"] (Jl (top 9)):=⟨rfl,rfl,rfl,by decide +kernel,rfl,by decide +kernel,by decide +kernel⟩
def zjx:GD:=fun ts n R=>∃(bits:Int) (bs:qB) (t:PyData),ts=[t]/\(t=.list (pD bs)\/t=.tuple (pD bs))/\0<=bits/\bits<=64/\Bks bits bs/\bs.length<64/\∀ps,CanP (fun x=>mB x bs) ps->ps.length<=bs.length->R (.tuple (pD ps)) n
theorem zjH{bits:Int}{bs:qB}{t:PyData}{n:Nat}{R:qN}(ht:t=.list (pD bs)\/t=.tuple (pD bs))(b0:0<=bits)(b1:bits<=64)(B:Bks bits bs)(l:bs.length<64)(h:∀ps,CanP (fun x=>mB x bs) ps->ps.length<=bs.length->R (.tuple (pD ps)) n):zjx [t] n R:=⟨bits,bs,t,rfl,ht,b0,b1,B,l,h⟩
def zgf(Z:ZZ):Prop:=FQ Z "fewest" (top 9) ["blocks"] 5 (spD Z.K 1 zjx)
theorem zlp(D:Dq Z.K Z.mg "fewest" (top 9) ["blocks"]) (h_patch_of:zfE Z) (h_runs_of:zg4 Z) (T:Txt Z.mg):zgf Z:=by
 refine' okQ D zkJ rfl fun f cdv A outer s H E hr=>⟨_,(Jf (Jk (Ji h_patch_of hr (Jb (Ji h_runs_of hr (Jb (Ja 0) Je Jc)) Je JE)))),?_⟩
 intro ts n R hl h;obtain⟨bits,bs,t,rfl,ht,b0,b1,B,l,h⟩:=h
 wp_walk using zmj ht b0 b1 B l (fun rs nr me lr=>?_)
 have w:=ztQ b0 b1 nr me fun x hx=>Zn b0 B hx
 wp_walk using zkj w ?_ (fun ps P=>?_)
 ·lia
 ·have C:CanP (fun x=>mB x bs) ps:=⟨rs,nr,me,P⟩
  exact h ps C (C.le b0 B)
theorem Y6:FnScope ["patch","address","low","high","middle"] ["patch","address"] (Jl (top 15)):=⟨rfl,rfl,rfl,by decide +kernel,rfl,by decide +kernel,by decide +kernel⟩
def zfX:GD:=fun ts n R=>∃(bits:Int) (bs:qB) (a:Int),ts=[.tuple (pD bs),.int a]/\bits<=64/\Ptc bits bs/\bs.length<1000000/\∀k:Nat,k<=bs.length->(∀(j:Nat) (b:Int×Int),j<k->bs[j]?=some b->eB b<=a)->(∀(j:Nat) (b:Int×Int),k<=j->bs[j]?=some b->a<eB b)->R (.int (k:Int)) n
theorem zf5{bits a:Int}{bs:qB}{n:Nat}{R:qN}(b1:bits<=64)(P:Ptc bits bs)(hl:bs.length<1000000)(h:∀k:Nat,k<=bs.length->(∀(j:Nat) (b:Int×Int),j<k->bs[j]?=some b->eB b<=a)->(∀(j:Nat) (b:Int×Int),k<=j->bs[j]?=some b->a<eB b)->R (.int (k:Int)) n):zfX [.tuple (pD bs),.int a] n R:=⟨bits,bs,a,rfl,b1,P,hl,h⟩
def zdH(Z:ZZ):Prop:=FQ Z "ended_by" (top 15) ["patch","address"] 3 (spD Z.K 2 zfX)
theorem zio(D:Dq Z.K Z.mg "ended_by" (top 15) ["patch","address"]) (h_end_of:ZF Z) (T:Txt Z.mg):zdH Z:=by
 refine' okQ D Y6 rfl fun f cdv A outer s H E hr=>⟨_,(Jg (Jr (i:=2) Y6.nd rfl (Or.inl rfl) Jd) (Jg (Jr (i:=3) Y6.nd rfl (Or.inl rfl) (Jw Qp Qm T.len J6 (Jj (dl (Ja 0)) Jq Jc))) (Jg (zgG PassesOwn.never (Jt (Qo hr) Qn (dl (Ja 2)) (dl (Ja 3)) (Jm _)) (Jg (Jr (i:=4) Y6.nd rfl (Or.inl rfl) (ziS (dl (JC (dl (Ja 2)) (dl (Ja 3)))) (dl Jd))) (Jf (Jz (Jt QB Qz (dl (Ji h_end_of hr (Jb (Jn (dl (Ja 0)) (dl (Ja 4))) Je Uk))) (dl (Ja 1)) (Jm _)) (Jf (Jr (i:=2) Y6.nd rfl (Or.inl rfl) (JC (dl (Ja 4)) (dl Jd)))) (Jf (Jr (i:=3) Y6.nd rfl (Or.inl rfl) (Ja 4))))))) (Jf (Jk (Ja 2)))))),?_⟩
 intro ts n R hl hh;obtain⟨bits,bs,a,rfl,b1,P,hl6,hh⟩:=hh;have srt:=P.ends
 wp_walk
 rw[JP];refine zgR (m:=bs.length) (fun m ρ n'=>n'=n/\∃lo hi:Nat,∃c,ρ=[some (.val (.tuple (pD bs))),some (.val (.int a)),some (.val (.int (lo:Int))),some (.val (.int (hi:Int))),c]/\lo<=hi/\hi<=bs.length/\m=hi - lo/\(∀(j:Nat) (b:Int×Int),j<lo->bs[j]?=some b->eB b<=a)/\(∀(j:Nat) (b:Int×Int),hi<=j->bs[j]?=some b->a<eB b)) ?_ ?_
 ·refine⟨rfl,0,bs.length,none,rfl,Nat.zero_le _,Nat.le_refl _,rfl,fun j b hj=>absurd hj (Nat.not_lt_zero _),fun j b hj e=>?_⟩
  rw[List.getElem?_eq_none hj]at e;cases e
 ·rintro m ρ n' ⟨rfl,lo,hi,c,rfl,h1,h2,rfl,h3,h4⟩
  wp_walk
  ·exact zpP
  ·have hm:(lo+hi) / 2<bs.length:=by lia
   obtain⟨b,eb⟩:∃b,bs[(lo+hi) / 2]?=some b:=⟨_,List.getElem?_eq_getElem hm⟩;have hb:=P.1 b (List.mem_of_getElem? eb);refine zpd (k:=(lo+hi) / 2) (by lia) (zoT eb) ?_
   have sx:∀(i j:Nat) (x y:Int×Int),bs[i]?=some x->bs[j]?=some y->i<=j->eB x<=eB y:=fun i j x y ei ej hij=>by
    by_cases z:i=j
    ·subst z;rw[ei]at ej;cases ej;exact Int.le_refl _
    ·obtain⟨l1,rfl⟩:=List.getElem?_eq_some_iff.mp ei;obtain⟨l2,rfl⟩:=List.getElem?_eq_some_iff.mp ej;exact List.pairwise_iff_getElem.mp srt i j l1 l2 (by lia)
   wp_walk using ZC ?_ ?_ ?_
   ·exact hb.1
   ·have:=hb.2.1;lia
   ·have hc:eB b<=a:=hc;refine⟨_,?_,rfl,(lo+hi) / 2+1,hi,some (.val (.int (((lo+hi) / 2:Nat):Int))),?_,by lia,h2,rfl,fun j x hj e=>?_,h4⟩
    ·lia
    ·have e1:((lo:Int)+hi) / 2=(((lo+hi) / 2:Nat):Int):=by lia
     first|(rw[e1];done)|(rw[e1];rfl)
    ·exact Int.le_trans (sx _ _ _ _ e eb (by lia)) hc
   ·have hc:¬eB b<=a:=hc;refine⟨_,?_,rfl,lo,(lo+hi) / 2,some (.val (.int (((lo+hi) / 2:Nat):Int))),?_,by lia,by lia,rfl,h3,fun j x hj e=>?_⟩
    ·lia
    ·have e1:((lo:Int)+hi) / 2=(((lo+hi) / 2:Nat):Int):=by lia
     first|(rw[e1];done)|(rw[e1];rfl)
    ·have:=sx _ _ _ _ eb e (by lia);lia
  ·have e:lo=hi:=by lia
   subst e;exact hh lo h2 h3 h4
theorem zdf:FnScope ["patch","address","at"] ["patch","address"] (Jl (top 11)):=⟨rfl,rfl,rfl,by decide +kernel,rfl,by decide +kernel,by decide +kernel⟩
def zd9:GD:=fun ts n R=>∃(bits:Int) (bs:qB) (a:Int),ts=[.tuple (pD bs),.int a]/\bits<=64/\Ptc bits bs/\bs.length<1000000/\(∀b∈bs,b.1<=a->a<eB b->R (.tuple [.int b.1,.int b.2]) n)/\((∀b∈bs,¬(b.1<=a/\a<eB b))->R .none n)
theorem zhP{bits a:Int}{bs:qB}{n:Nat}{R:qN}(b1:bits<=64)(P:Ptc bits bs)(hl:bs.length<1000000)(h:∀b∈bs,b.1<=a->a<eB b->R (.tuple [.int b.1,.int b.2]) n)(h':(∀b∈bs,¬(b.1<=a/\a<eB b))->R .none n):zd9 [.tuple (pD bs),.int a] n R:=⟨bits,bs,a,rfl,b1,P,hl,h,h'⟩
def zdX(Z:ZZ):Prop:=FQ Z "block_with" (top 11) ["patch","address"] 4 (spD Z.K 2 zd9)
theorem zgp(D:Dq Z.K Z.mg "block_with" (top 11) ["patch","address"]) (h_ended_by:zdH Z) (T:Txt Z.mg):zdX Z:=by
 refine' okQ D zdf rfl fun f cdv A outer s H E hr=>⟨_,(Jg (Jr (i:=2) zdf.nd rfl (Or.inl rfl) (Ji h_ended_by hr (Jb (Ja 0) (Jb (Ja 1) Je Jc) Jc))) (Jg (Jz (JS (Zp (Jt (Qo hr) Qn (dl (Ja 2)) (dl (Jw Qp Qm T.len J6 (Jj (dl (Ja 0)) Jq Jc))) (Jm _)) (ZB (Jt QB Qz (dl (Jn (dl (Jn (dl (Ja 0)) (dl (Ja 2)))) (dl Jd))) (dl (Ja 1)) (Jm _))))) (Jf (Jk (Jn (dl (Ja 0)) (dl (Ja 2))))) JH) (Jf (Jk Uh)))),?_⟩
 intro ts n R hl hh;obtain⟨bits,bs,a,rfl,b1,P,hl6,hh,hn⟩:=hh
 wp_walk using zf5 b1 P hl6 (fun k k0 k1 k2=>?_)
 ·rw[JP]at hc;have hm:k<bs.length:=by lia
  obtain⟨b,eb⟩:∃b,bs[k]?=some b:=⟨_,List.getElem?_eq_getElem hm⟩;refine zpd (k:=k) rfl (zoT eb) ?_
  wp_walk
  ·refine zpd (k:=k) rfl (zoT eb) ?_;exact hh b (List.mem_of_getElem? eb) (by assumption) (k2 k b (Nat.le_refl _) eb)
  ·have hx:¬b.1<=a:=hc;refine hn fun x hm' ⟨x0,x1⟩=>?_
   obtain⟨j,ej,rfl⟩:=List.getElem_of_mem hm';have ej':=List.getElem?_eq_getElem ej
   by_cases z:j<k
   ·have:=k1 j _ z ej';lia
   ·by_cases y:j=k
    ·subst y;rw[ej']at eb;cases eb;exact hx x0
    ·obtain⟨l1,rfl⟩:=List.getElem?_eq_some_iff.mp eb;have:=List.pairwise_iff_getElem.mp P.2 k j l1 ej (by lia)
     have:=JT bs[k];exact hx (by lia)
 ·rw[JP]at hc;refine hn fun x hm' ⟨x0,x1⟩=>?_
  obtain⟨j,ej,rfl⟩:=List.getElem_of_mem hm';have:=k1 j _ (by lia) (List.getElem?_eq_getElem ej)
  lia
theorem zcP:FnScope ["patch","block","found"] ["patch","block"] (Jl (top 12)):=⟨rfl,rfl,rfl,by decide +kernel,rfl,by decide +kernel,by decide +kernel⟩
theorem zra{bits:Int}{bs:qB}(P:Ptc bits bs){p q:Int×Int}{x:Int}(hp:p∈bs)(hq:q∈bs)(p1:p.1<=x)(p2:x<eB p)(q1:q.1<=x)(q2:x<eB q):p=q:=by
 obtain⟨i,hi,rfl⟩:=List.getElem_of_mem hp;obtain⟨j,hj,rfl⟩:=List.getElem_of_mem hq;rcases Nat.lt_trichotomy i j with z|z|z
 ·have:=List.pairwise_iff_getElem.mp P.2 i j hi hj z;lia
 ·subst z;rfl
 ·have:=List.pairwise_iff_getElem.mp P.2 j i hj hi z;lia
def zdt:GD:=fun ts n R=>∃(bits:Int) (bs:qB) (b:Int×Int),ts=[.tuple (pD bs),.tuple [.int b.1,.int b.2]]/\0<=bits/\bits<=64/\Ptc bits bs/\bs.length<1000000/\IsBk bits b.1 b.2/\(∀p∈bs,p.1<=b.1->eB b<=eB p->R (.tuple [.int p.1,.int p.2]) n)/\((∀p∈bs,¬(p.1<=b.1/\eB b<=eB p))->R .none n)
theorem zgK{bits:Int}{bs:qB}{b:Int×Int}{n:Nat}{R:qN}(b0:0<=bits)(b1:bits<=64)(P:Ptc bits bs)(hl:bs.length<1000000)(B:IsBk bits b.1 b.2)(h:∀p∈bs,p.1<=b.1->eB b<=eB p->R (.tuple [.int p.1,.int p.2]) n)(h':(∀p∈bs,¬(p.1<=b.1/\eB b<=eB p))->R .none n):zdt [.tuple (pD bs),.tuple [.int b.1,.int b.2]] n R:=⟨bits,bs,b,rfl,b0,b1,P,hl,B,h,h'⟩
def zdk(Z:ZZ):Prop:=FQ Z "block_about" (top 12) ["patch","block"] 5 (spD Z.K 2 zdt)
theorem zfd(D:Dq Z.K Z.mg "block_about" (top 12) ["patch","block"]) (h_block_with:zdX Z) (h_holds:zkZ Z) (T:Txt Z.mg):zdk Z:=by
 refine' okQ D zcP rfl fun f cdv A outer s H E hr=>⟨_,(Jg (Jr (i:=2) zcP.nd rfl (Or.inl rfl) (Ji h_block_with hr (Jb (Ja 0) (Jb (Jn (dl (Ja 1)) (dl Jd)) Je Uk) Jc))) (Jg (Jz (JS (Zp (Jt zlk zlR (dl (Ja 2)) (dl Uh) (Jm _)) (ZB (JR (dl (Ji h_holds hr (Jb (Ja 2) (Jb (Ja 1) Je Jc) Jc))))))) (Jf (Jk (Ja 2))) JH) (Jf (Jk Uh)))),?_⟩
 intro ts n R hl hh;obtain⟨bits,bs,b,rfl,b0,b1,P,hl2,B,h,h'⟩:=hh;have bd:=B.bounds b0;have pe:=JT b;have p64:(2:Int) ^ bits.toNat<=2 ^ 64:=Bd.zgh (by lia)
 have pb:=Bd.QL b.2.toNat;have j1:b.1<2 ^ 64:=by lia
 have h64:∀p∈bs,p.2<=1000:=fun p hp=>by have:=(P.1 p hp).2.1;lia
 have h00:∀p∈bs,0<=p.2:=fun p hp=>(P.1 p hp).1
 wp_walk using zhP b1 P hl2 (fun p hp i1 i2=>?_) (fun no=>?_),zpR (h00 _ hp) (h64 _ hp) bd.1 j1 ?_
 ·exact absurd hc (by simp[isNone])
 ·rw[zn8 (P.1 p hp) B]at hc;have hd:=of_decide_eq_true hc;exact h p hp hd.1 hd.2
 ·rw[zn8 (P.1 p hp) B]at hc;have hd:=of_decide_eq_false hc;refine h' fun q hq z=>?_
  have qe:q=p:=zra P hq hp z.1 (by lia) i1 i2
  subst qe;exact hd z
 ·exact h' fun p hp z=>no p hp ⟨z.1,by lia⟩
 ·exact absurd hc (by simp[isNone])
theorem zjR:FnScope ["patch","block"] ["patch","block"] (Jl (top 13)):=⟨rfl,rfl,rfl,by decide +kernel,rfl,by decide +kernel,by decide +kernel⟩
def zhz:GD:=fun ts n R=>∃(bits:Int) (bs:qB) (b:Int×Int),ts=[.tuple (pD bs),.tuple [.int b.1,.int b.2]]/\0<=bits/\bits<=64/\Ptc bits bs/\bs.length<1000000/\IsBk bits b.1 b.2/\∀k:Bool,(k=true↔∃p∈bs,p.1<=b.1/\eB b<=eB p)->R (.bool k) n
theorem zhO{bits:Int}{bs:qB}{b:Int×Int}{n:Nat}{R:qN}(b0:0<=bits)(b1:bits<=64)(P:Ptc bits bs)(hl:bs.length<1000000)(B:IsBk bits b.1 b.2)(h:∀k:Bool,(k=true↔∃p∈bs,p.1<=b.1/\eB b<=eB p)->R (.bool k) n):zhz [.tuple (pD bs),.tuple [.int b.1,.int b.2]] n R:=⟨bits,bs,b,rfl,b0,b1,P,hl,B,h⟩
def zex(Z:ZZ):Prop:=FQ Z "has_all" (top 13) ["patch","block"] 6 (spD Z.K 2 zhz)
theorem zjY(D:Dq Z.K Z.mg "has_all" (top 13) ["patch","block"]) (h_block_about:zdk Z) (T:Txt Z.mg):zex Z:=by
 refine' okQ D zjR rfl fun f cdv A outer s H E hr=>⟨_,(Jf (Jk (JV zlk zlR (dl (Ji h_block_about hr (Jb (Ja 0) (Jb (Ja 1) Je Jc) Jc))) (dl Uh) (Jm _)))),?_⟩
 intro ts n R hl hh;obtain⟨bits,bs,b,rfl,b0,b1,P,hl2,B,h⟩:=hh
 wp_walk using zgK b0 b1 P hl2 B (fun p hp i1 i2=>?_) (fun no=>?_)
 ·exact h _ ⟨fun _=>⟨p,hp,i1,i2⟩,fun _=>rfl⟩
 ·exact h _ ⟨fun z=>(nomatch z),fun⟨p,hp,z⟩=>absurd z (no p hp)⟩
theorem zes:FnScope ["patch","block","at"] ["patch","block"] (Jl (top 14)):=⟨rfl,rfl,rfl,by decide +kernel,rfl,by decide +kernel,by decide +kernel⟩
def zfW:GD:=fun ts n R=>∃(bits:Int) (bs:qB) (b:Int×Int),ts=[.tuple (pD bs),.tuple [.int b.1,.int b.2]]/\0<=bits/\bits<=64/\Ptc bits bs/\bs.length<1000000/\IsBk bits b.1 b.2/\∀k:Bool,(k=true↔∀p∈bs,eB p<=b.1\/eB b<=p.1)->R (.bool k) n
theorem zf4{bits:Int}{bs:qB}{b:Int×Int}{n:Nat}{R:qN}(b0:0<=bits)(b1:bits<=64)(P:Ptc bits bs)(hl:bs.length<1000000)(B:IsBk bits b.1 b.2)(h:∀k:Bool,(k=true↔∀p∈bs,eB p<=b.1\/eB b<=p.1)->R (.bool k) n):zfW [.tuple (pD bs),.tuple [.int b.1,.int b.2]] n R:=⟨bits,bs,b,rfl,b0,b1,P,hl,B,h⟩
def zdG(Z:ZZ):Prop:=FQ Z "has_none" (top 14) ["patch","block"] 4 (spD Z.K 2 zfW)
theorem zin(D:Dq Z.K Z.mg "has_none" (top 14) ["patch","block"]) (h_ended_by:zdH Z) (h_end_of:ZF Z) (T:Txt Z.mg):zdG Z:=by
 refine' okQ D zes rfl fun f cdv A outer s H E hr=>⟨_,(Jg (Jr (i:=2) zes.nd rfl (Or.inl rfl) (Ji h_ended_by hr (Jb (Ja 0) (Jb (Jn (dl (Ja 1)) (dl Jd)) Je Uk) Jc))) (Jf (Jk (zoe (JV (QA hr) Qy (dl (Ja 2)) (dl (Jw Qp Qm T.len J6 (Jj (dl (Ja 0)) Jq Jc))) (Jm _)) (QF (JV QB Qz (dl (Ji h_end_of hr (Jb (Ja 1) Je Jc))) (dl (Jn (dl (Jn (dl (Ja 0)) (dl (Ja 2)))) (dl Jd))) (Jm _))))))),?_⟩
 intro ts n R hl hh;obtain⟨bits,bs,b,rfl,b0,b1,P,hl2,B,h⟩:=hh;have h0:=B.1;have h1:b.2<=1000:=by have:=B.2.1;lia
 wp_walk using zf5 b1 P hl2 (fun k hk lo up=>?_),ZC h0 h1 ?_
 ·rw[JP]at hc;refine h true ⟨fun _ p hp=>?_,fun _=>rfl⟩
  obtain⟨j,hj,e⟩:=List.getElem_of_mem hp;exact .inl (lo j p (by lia) (by rw[List.getElem?_eq_getElem hj,e]))
 ·rw[JP]at hc;have hk2:k<bs.length:=by lia
  have gb:(pD bs)[k]?=some (.tuple [.int bs[k].1,.int bs[k].2]):=by rw[pD,List.getElem?_map,List.getElem?_eq_getElem hk2];rfl
  refine zrr gb ?_
  wp_walk
  refine h _ ?_;rw[decide_eq_true_eq];constructor
  ·intro z p hp;obtain⟨j,hj,rfl⟩:=List.getElem_of_mem hp;rcases Nat.lt_trichotomy j k with q|q|q
   ·exact .inl (lo j _ q (List.getElem?_eq_getElem hj))
   ·subst q;exact .inr z
   ·have:=List.pairwise_iff_getElem.mp P.2 k j hk2 hj q;have:=JT bs[k];exact .inr (by unfold eB at *;lia)
  ·intro z;have:=up k bs[k] (Nat.le_refl _) (List.getElem?_eq_getElem hk2);rcases z bs[k] (List.getElem_mem hk2) with q|q
   ·lia
   ·exact q
theorem ZM:FnScope ["bits","patch","parts","at","block"] ["bits","patch"] (Jl (top 23)):=⟨rfl,rfl,rfl,by decide +kernel,rfl,by decide +kernel,by decide +kernel⟩
def zfS:GD:=fun ts n R=>∃(bits:Int) (ps:qB),ts=[.int bits,.tuple (pD ps)]/\0<=bits/\bits<=64/\Ptc bits ps/\ps.length<=1000/\∀bs:BL,PInv bits ps bs bs.length->bs.length<=1+130*ps.length->R (.list (pD bs)) n
theorem zkk{bits:Int}{ps:qB}{n:Nat}{R:qN}(b0:0<=bits)(b1:bits<=64)(P:Ptc bits ps)(l:ps.length<=1000)(h:∀bs:BL,PInv bits ps bs bs.length->bs.length<=1+130*ps.length->R (.list (pD bs)) n):zfS [.int bits,.tuple (pD ps)] n R:=⟨bits,ps,rfl,b0,b1,P,l,h⟩
def zfF(Z:ZZ):Prop:=FQ Z "parts_of" (top 23) ["bits","patch"] 7 (spD Z.K 2 zfS)
theorem zih(D:Dq Z.K Z.mg "parts_of" (top 23) ["bits","patch"]) (h_has_all:zex Z) (h_has_none:zdG Z) (h_halves:zge Z) (T:Txt Z.mg):zfF Z:=by
 refine' okQ D ZM rfl fun f cdv A outer s H E hr=>⟨_,(Jg (YM (i:=2) ZM.nd rfl (Or.inl rfl) (Qg (Jb (Ju (Jb Jd (Jb (Ja 0) Je Jc) Jo)) Je zf_))) (Jg (Jr (i:=3) ZM.nd rfl (Or.inl rfl) Jd) (Jg (zgG PassesOwn.never (Jt (Qo hr) Qn (dl (Ja 3)) (dl (Jw Qp Qm T.len J6 (Jj (Ui 2) Jq Jc))) (Jm _)) (Jg (Jr (i:=4) ZM.nd rfl (Or.inl rfl) (Jn (Ui 2) (dl (Ja 3)))) (Jg (Jz (JS (Zp (J9 (JR (dl (Ji h_has_all hr (Jb (Ja 1) (Jb (Ja 4) Je Jc) Jc))))) (ZB (J9 (JR (dl (Ji h_has_none hr (Jb (Ja 1) (Jb (Ja 4) Je Jc) Jc)))))))) (Jf (zkc 2 (Ji h_halves hr (Jb (Ja 4) Je Jc)))) JH) (Jf (zsb (i:=3) ZM.nd rfl (Or.inl rfl) Jd zrE))))) (Y8 2 (Jf (Jk (Ja 2))))))),?_⟩
 intro ts n R hl hh;obtain⟨bits,ps,rfl,b0,b1,P,l,h⟩:=hh
 wp_walk
 refine zkw (m:=msz ([(0,bits)]:BL)) (fun m ρ n'=>n'=n/\∃(bs:BL) (k:Nat) (c:Option Cell),ρ=[some (.val (.int bits)),some (.val (.tuple (pD ps))),some (.own (pD bs)),some (.val (.int (k:Int))),c]/\PInv bits ps bs k/\k<=bs.length/\msz (bs.drop k)<=m) ⟨rfl,[(0,bits)],0,_,rfl,PInv.start b0,by simp,Nat.le_refl _⟩ ?_
 rintro m ρ n' K RT BK ⟨rfl,bs,k,c,rfl,I,kl,hm⟩ hK hRT hBK;have ln:=I.len b1 P.1
 wp_walk
 ·rw[JP]at hc;have hk:k<bs.length:=by lia
  have hb:bs[k]?=some bs[k]:=List.getElem?_eq_getElem hk;generalize bs[k]=b at hb;have gb:(pD bs)[k]?=some (.tuple [.int b.1,.int b.2]):=by rw[pD,List.getElem?_map,hb];rfl
  have B:=I.bk b (List.mem_of_getElem? hb);have h64:b.2<=1000:=by have:=B.2.1;lia
  have lp:ps.length<1000000:=by lia
  refine zrs gb ?_
  wp_walk using zhO b0 b1 P lp B (fun al hal=>?_)
  ·subst hc;refine hK _ _ _ ?_ ⟨rfl,bs,k+1,_,by rw[Int.natCast_succ],I.no hb (fun z=>z.2 (hal.mp rfl)),hk,Nat.le_refl _⟩
   have:=zn2 hb;lia
  ·subst hc
   wp_walk using zf4 b0 b1 P lp B (fun no hno=>?_)
   ·subst hc;refine hK _ _ _ ?_ ⟨rfl,bs,k+1,_,by rw[Int.natCast_succ],I.no hb (fun z=>z.1 (hno.mp rfl)),hk,Nat.le_refl _⟩
    have:=zn2 hb;lia
   ·subst hc;have pr:Prt ps b:=⟨fun z=>absurd (hno.mpr z) (by decide),fun z=>absurd (hal.mpr z) (by decide)⟩
    have g0:=pr.pos B
    wp_walk using Vf g0 h64 ?_
    ·rw[JP];show bs.length+2<=_
     lia
    ·have ep:pD bs++[PyData.tuple [.int b.1,.int (b.2 - 1)],.tuple [.int (Builtin.bitXor b.1 (2 ^ (b.2 - 1).toNat)),.int (b.2 - 1)]]=pD (bs++[loH b,upH b]):=by simp[pD,prD]
     refine hK _ _ _ ?_ ⟨rfl,bs++[loH b,upH b],k+1,_,by rw[Int.natCast_succ,ep],I.yes b0 hb pr,by rw[List.length_append];lia,Nat.le_refl _⟩
     have:=zo5 hb g0;lia
 ·rw[JP]at hc;have e:k=bs.length:=by lia
  subst e;refine hBK _ _ ?_
  wp_walk
  exact h bs I ln
theorem ZK:FnScope ["patch","pairs","block","lower","upper","zeros","ones"] ["patch","pairs","block"] (Jl (top 24)):=⟨rfl,rfl,rfl,by decide +kernel,rfl,by decide +kernel,by decide +kernel⟩
def zeZ:GD:=fun ts n R=>∃(bits:Int) (ps:qB) (qs:PR) (b:Int×Int),ts=[.tuple (pD ps),.dict (Js (prK qs)),.tuple [.int b.1,.int b.2]]/\0<=bits/\bits<=64/\Ptc bits ps/\ps.length<1000000/\IsBk bits b.1 b.2/\∀no al:Bool,(no=true↔HasN ps b)->(al=true↔HasA ps b)->R (optD (bpD no al qs b)) n
theorem zfa{bits:Int}{ps:qB}{qs:PR}{b:Int×Int}{n:Nat}{R:qN}(b0:0<=bits)(b1:bits<=64)(P:Ptc bits ps)(hl:ps.length<1000000)(B:IsBk bits b.1 b.2)(h:∀no al:Bool,(no=true↔HasN ps b)->(al=true↔HasA ps b)->R (optD (bpD no al qs b)) n):zeZ [.tuple (pD ps),.dict (Js (prK qs)),.tuple [.int b.1,.int b.2]] n R:=⟨bits,ps,qs,b,rfl,b0,b1,P,hl,B,h⟩
def zc2(Z:ZZ):Prop:=FQ Z "best_pair" (top 24) ["patch","pairs","block"] 7 (spD Z.K 3 zeZ)
theorem zg8(D:Dq Z.K Z.mg "best_pair" (top 24) ["patch","pairs","block"]) (h_has_none:zdG Z) (h_has_all:zex Z) (h_halves:zge Z) (T:Txt Z.mg):zc2 Z:=by
 refine' okQ D ZK rfl fun f cdv A outer s H E hr=>⟨_,(Jg (Jz (JR (dl (Ji h_has_none hr (Jb (Ja 0) (Jb (Ja 2) Je Jc) Jc)))) (Jf (Jk (Ju (Jb Jd (Jb Jd Je Jo) Jo)))) JH) (Jg (Jz (JR (dl (Ji h_has_all hr (Jb (Ja 0) (Jb (Ja 2) Je Jc) Jc)))) (Jf (Jk (Ju (Jb Jd (Jb Jd Je Jo) Jo)))) JH) (Jg (QS (Ji h_halves hr (Jb (Ja 2) Je Jc)) (J8 rfl (JB (Jp (i:=3) ZK.nd rfl (Or.inl rfl)) (JB (Jp (i:=4) ZK.nd rfl (Or.inl rfl)) Qd)))) (Jg (Jz (JS (J3 (Jt (zid (JW hr)) zlS (dl (Ja 3)) (dl (Ja 1)) rfl) (Qh (Jt (zid (JW hr)) zlS (dl (Ja 4)) (dl (Ja 1)) rfl)))) (Jf (Jk Uh)) JH) (Jg (Jr (i:=5) ZK.nd rfl (Or.inl rfl) (JC (dl (Jn (dl (QQ (JW hr) (dl (Ja 1)) (dl (Ja 3)))) (dl Jd))) (dl (Jn (dl (QQ (JW hr) (dl (Ja 1)) (dl (Ja 4)))) (dl Jd))))) (Jg (Jr (i:=6) ZK.nd rfl (Or.inl rfl) (JC (dl (Jn (dl (QQ (JW hr) (dl (Ja 1)) (dl (Ja 3)))) (dl Jd))) (dl (Jn (dl (QQ (JW hr) (dl (Ja 1)) (dl (Ja 4)))) (dl Jd))))) (Jf (Jk (Ju (Jb (Jw (UA rfl) Uo T.min Uy (Jj (dl (Ja 5)) (Jj (dl (JC (dl (Ja 6)) (dl Jd))) Jq JG) Jc)) (Jb (Jw (UA rfl) Uo T.min Uy (Jj (dl (Ja 6)) (Jj (dl (JC (dl (Ja 5)) (dl Jd))) Jq JG) Jc)) Je JE) JE)))))))))),?_⟩
 intro ts n R hl hh;obtain⟨bits,ps,qs,b,rfl,b0,b1,P,hl2,B,h⟩:=hh;have h1:b.2<=1000:=by have:=B.2.1;lia
 wp_walk using zf4 b0 b1 P hl2 B (fun no hno=>?_)
 ·subst hc
  classical
  exact h true (decide (HasA ps b)) hno (by rw[decide_eq_true_eq])
 ·subst hc
  wp_walk using zhO b0 b1 P hl2 B (fun al hal=>?_)
  ·subst hc;exact h false true hno hal
  ·subst hc;have g0:1<=b.2:=by
    have h0:=B.1;rcases Int.lt_or_le 0 b.2 with z|z
    ·lia
    ·rcases zgv (ps:=ps) (b:=b) (by lia) with q|q
     ·exact absurd (hno.mpr q) (by decide)
     ·exact absurd (hal.mpr q) (by decide)
   have key:=h false false hno hal;cases e1:valP qs (loH b) with
   | none =>
    have v1:valT (prK qs) (loH b)=none:=by rw[Qe,e1];rfl
    have k0:bpD false false qs b=none:=by simp[bpD,e1]
    rw[k0]at key
    wp_walk using Vf g0 h1 ?_,UO (k:=loH b) ?_
    ·exact key
    ·rw[v1]at hc;cases hc
   | some x =>
    have v1:valT (prK qs) (loH b)=some (.tuple [.int x.1,.int x.2]):=by rw[Qe,e1];rfl
    cases e2:valP qs (upH b) with
    | none =>
     have v2:valT (prK qs) (upH b)=none:=by rw[Qe,e2];rfl
     have k0:bpD false false qs b=none:=by simp[bpD,e1,e2]
     rw[k0]at key
     wp_walk using Vf g0 h1 ?_,UO (k:=loH b) ?_,UO (k:=upH b) ?_
     ·exact key
     ·exact key
     ·rw[v2]at hc;cases hc
    | some y =>
     have v2:valT (prK qs) (upH b)=some (.tuple [.int y.1,.int y.2]):=by rw[Qe,e2];rfl
     have k0:bpD false false qs b=some (if x.2+y.2+1<x.1+y.1 then x.2+y.2+1 else x.1+y.1,if x.1+y.1+1<x.2+y.2 then x.1+y.1+1 else x.2+y.2):=by simp only[bpD,e1,e2];rfl
     rw[k0]at key
     wp_walk using Vf g0 h1 ?_,UO (k:=loH b) ?_,UO (k:=upH b) ?_,UP v1 ?_,UP v2 ?_
     ·rw[v1]at hc;cases hc
     ·rw[v2]at hc;cases hc
     ·exact key
theorem Vo:FnScope ["bits","patch","wanted","pairs","block"] ["bits","patch"] (Jl (top 22)):=⟨rfl,rfl,rfl,by decide +kernel,rfl,by decide +kernel,by decide +kernel⟩
def zfT:GD:=fun ts n R=>∃(bits:Int) (bs:BL),ts=[.int bits,.tuple (pD bs)]/\0<=bits/\bits<=64/\Bks bits bs/\bs.length<64/\bs.length<=1000/\∀(ps:BL) (qs:PR),CanP (fun x=>mB x bs) ps->PrOk bits ps qs->R (.dict (Js (prK qs))) n
theorem zf2{bits:Int}{bs:BL}{n:Nat}{R:qN}(b0:0<=bits)(b1:bits<=64)(B:Bks bits bs)(l:bs.length<64)(l2:bs.length<=1000)(h:∀(ps:BL) (qs:PR),CanP (fun x=>mB x bs) ps->PrOk bits ps qs->R (.dict (Js (prK qs))) n):zfT [.int bits,.tuple (pD bs)] n R:=⟨bits,bs,rfl,b0,b1,B,l,l2,h⟩
def zdE(Z:ZZ):Prop:=FQ Z "pairs_of" (top 22) ["bits","patch"] 8 (spD Z.K 2 zfT)
theorem zii(D:Dq Z.K Z.mg "pairs_of" (top 22) ["bits","patch"]) (h_fewest:zgf Z) (h_parts_of:zfF Z) (h_best_pair:zc2 Z) (T:Txt Z.mg):zdE Z:=by
 refine' okQ D Vo rfl fun f cdv A outer s H E hr=>⟨_,(Jg (Jr (i:=2) Vo.nd rfl (Or.inl rfl) (Ji h_fewest hr (Jb (Ja 1) Je Jc))) (Jg (zpD (i:=3) Vo.nd rfl (Or.inl rfl)) (Jg (Uj PassesOwn.never rfl (zsd T.rev (Ji h_parts_of hr (Jb (Ja 0) (Jb (Ja 2) Je Jc) Jc))) (Jp (i:=4) Vo.nd rfl (Or.inl rfl)) (Jf (zpC 3 (JW hr) (Ja 4) (zof h_best_pair hr (Jj (dl (Ja 2)) (Jj (zpF 3) (Jj (dl (Ja 4)) Jq Jc) Jc) Jc))))) (Jf (zpE 3))))),?_⟩
 intro ts n R hl hh;obtain⟨bits,bs,rfl,b0,b1,B,l,l2,h⟩:=hh
 wp_walk using zjH (.inr rfl) b0 b1 B l (fun ps C lp=>?_)
 have P:Ptc bits ps:=C.ptc b0 fun x hx=>Zn b0 B hx
 have l3:ps.length<=1000:=by lia
 wp_walk using zkk b0 b1 P l3 (fun ws I lw=>?_)
 have er:(pD ws).reverse=pD ws.reverse:=by simp[pD]
 rw[er];refine Yk (fun k ρ m'=>m'=n/\∃qs:PR,∃c4,ρ=[some (.val (.int bits)),some (.val (.tuple (pD bs))),some (.val (.tuple (pD ps))),some (.dtt (prK qs)),c4]/\PrsI bits ps ws k qs) ⟨rfl,[],_,rfl,PrsI.start⟩ ?_ ?_
 ·rintro k t ρ m' K et ⟨rfl,qs,c4,rfl,J⟩ hK;obtain⟨i,h,eb,rfl⟩:=zlg et;have Bb:=I.bk _ (List.mem_reverse.mp (List.mem_of_getElem? eb));have lp2:ps.length<1000000:=by lia
  have lq:qs.length<=ws.length:=by
   have:=congrArg List.length J.keys;simp at this;lia
  wp_walk using zfa (b:=(i,h)) b0 b1 P lp2 Bb (fun no al hn ha=>?_)
  ·obtain⟨v,e,fr,J2⟩:=J.step I eb hn ha;rw[e];rfl
  ·rw[prK,List.length_map];lia
  ·obtain⟨v,e,fr,J2⟩:=J.step I eb hn ha;rw[e,show optD (some v)=twoD v from rfl,zk0 fr]
   exact hK _ _ ⟨rfl,_,_,rfl,J2⟩
 ·rintro ρ m' ⟨rfl,qs,c4,rfl,J⟩;rw[JP,List.length_reverse]at J
  wp_walk
  exact h ps qs C ⟨ws,I,J⟩
theorem zga:FnScope ["bits","patch"] ["bits","patch"] (Jl (top 21)):=⟨rfl,rfl,rfl,by decide +kernel,rfl,by decide +kernel,by decide +kernel⟩
def zd8:GD:=fun ts n R=>∃(bits:Int) (bs:BL),ts=[.int bits,.tuple (pD bs)]/\0<=bits/\bits<=64/\Bks bits bs/\bs.length<64/\bs.length<=1000/\∀ps:BL,CanP (fun x=>mB x bs) ps->R (.int (zj3 bits ps)) n
theorem zhN{bits:Int}{bs:BL}{n:Nat}{R:qN}(b0:0<=bits)(b1:bits<=64)(B:Bks bits bs)(l:bs.length<64)(l2:bs.length<=1000)(h:∀ps:BL,CanP (fun x=>mB x bs) ps->R (.int (zj3 bits ps)) n):zd8 [.int bits,.tuple (pD bs)] n R:=⟨bits,bs,rfl,b0,b1,B,l,l2,h⟩
def zdW(Z:ZZ):Prop:=FQ Z "many_rules" (top 21) ["bits","patch"] 9 (spD Z.K 2 zd8)
theorem zgo(D:Dq Z.K Z.mg "many_rules" (top 21) ["bits","patch"]) (h_pairs_of:zdE Z) (T:Txt Z.mg):zdW Z:=by
 refine' okQ D zga rfl fun f cdv A outer s H E hr=>⟨_,(Jf (Jk (Jn (dl (QQ (JW hr) (dl (Ji h_pairs_of hr (Jb (Ja 0) (Jb (Ja 1) Je Jc) Jc))) (dl (Ju (Jb Jd (Jb (Ja 0) Je Jc) Jo))))) (dl Jd)))),?_⟩
 intro ts n R hl hh;obtain⟨bits,bs,rfl,b0,b1,B,l,l2,h⟩:=hh
 wp_walk using zf2 b0 b1 B l l2 (fun ps qs C Q=>?_)
 obtain⟨v,ev⟩:=Q.root;have vt:valT (prK qs) (0,bits)=some (.tuple [.int v.1,.int v.2]):=by rw[Qe,ev];rfl
 refine UP (k:=(0,bits)) vt ?_
 wp_walk
 rw[Q.many ev];exact h ps C
theorem zcO:FnScope ["bits","patch","pairs"] ["bits","patch"] (Jl (top 26)):=⟨rfl,rfl,rfl,by decide +kernel,rfl,by decide +kernel,by decide +kernel⟩
def rwD(q:(Int×Int)×(Int×Int)):PyData:=.tuple [.tuple [.int q.1.1,.int q.1.2],.int q.2.1,.int q.2.2]
def zds:GD:=fun ts n R=>∃(bits:Int) (bs:BL),ts=[.int bits,.tuple (pD bs)]/\0<=bits/\bits<=64/\Bks bits bs/\bs.length<64/\bs.length<=1000/\∀(ps:BL) (qs:PR),CanP (fun x=>mB x bs) ps->ps.length<=bs.length->PrOk bits ps qs->qs.length<=1+130*bs.length->R (.tuple (qs.map rwD)) n
theorem zgJ{bits:Int}{bs:BL}{n:Nat}{R:qN}(b0:0<=bits)(b1:bits<=64)(B:Bks bits bs)(l:bs.length<64)(l2:bs.length<=1000)(h:∀(ps:BL) (qs:PR),CanP (fun x=>mB x bs) ps->ps.length<=bs.length->PrOk bits ps qs->qs.length<=1+130*bs.length->R (.tuple (qs.map rwD)) n):zds [.int bits,.tuple (pD bs)] n R:=⟨bits,bs,rfl,b0,b1,B,l,l2,h⟩
def zdi(Z:ZZ):Prop:=FQ Z "rules_paper" (top 26) ["bits","patch"] 9 (spD Z.K 2 zds)
theorem zfc(D:Dq Z.K Z.mg "rules_paper" (top 26) ["bits","patch"]) (h_pairs_of:zdE Z) (T:Txt Z.mg):zdi Z:=by
 refine' okQ D zcO rfl fun f cdv A outer s H E hr=>⟨_,(Jg (Jr (i:=2) zcO.nd rfl (Or.inr rfl) (Ji h_pairs_of hr (Jb (Ja 0) (Jb (Ja 1) Je Jc) Jc))) (Jf (Jk (UN ZL ZD T.tup QM (Jj (dl (JO (QI (own:=["block"]) (capt:=[2]) rfl (CompScope.of rfl) (dil (ziR (Ja 2))) (fun _ _ _ _=>(Jp (i:=0) (by show(["block","pairs"]:List Str).Nodup;decide +kernel) rfl (Or.inl rfl))) (by decide) (fun _ _ _ _=>Qk) (fun _ _ _ _=>(Ju (Jb (Ja 0) (Jb (Jn (dl (QQ (JW hr) (dl (Ja 1)) (dl (Ja 0)))) (dl Jd)) (Jb (Jn (dl (QQ (JW hr) (dl (Ja 1)) (dl (Ja 0)))) (dl Jd)) Je Uk) Uk) Jc)))))) Jq QJ))))),?_⟩
 intro ts n R hl hh;obtain⟨bits,bs,rfl,b0,b1,B,l,l2,h⟩:=hh
 wp_walk using zf2 b0 b1 B l l2 (fun ps qs C Q=>?_)
 have lp:=C.le b0 B;have P:Ptc bits ps:=C.ptc b0 fun x hx=>Zn b0 B hx
 have lq:=(Q.len b1 P.1).2;refine⟨prK qs,rfl,?_⟩;have e:(prK qs).map (fun q=>L2.blkT q.1)=qs.map fun q=>L2.blkT q.1:=by simp[prK]
 rw[e];refine UB (cs:=qs) rwD (by lia) ?_ ?_
 ·intro q hq K2 X2 hK2;have ev:=zh0 Q.nd hq;have vt:valT (prK qs) q.1=some (.tuple [.int q.2.1,.int q.2.2]):=by rw[Qe,ev];rfl
  rw[L2.blkT]
  wp_walk using UP vt ?_
  exact hK2
 ·wp_walk
  exact h ps qs C lp Q (by lia)
theorem Vn:FnScope ["patch","pairs","block","most","a","b"] ["patch","pairs","block"] (Jl (top 30)):=⟨rfl,rfl,rfl,by decide +kernel,rfl,by decide +kernel,by decide +kernel⟩
def zfU:GD:=fun ts n R=>∃(bits:Int) (ps:qB) (qs:PR) (b q:Int×Int),ts=[.tuple (pD ps),.dict (Js (prK qs)),.tuple [.int b.1,.int b.2]]/\0<=bits/\bits<=64/\Ptc bits ps/\ps.length<1000000/\IsBk bits b.1 b.2/\valP qs b=some q/\∀no al:Bool,(no=true↔HasN ps b)->(al=true↔HasA ps b)->R (.bool (rgtD (bpD no al qs b) q)) n
theorem zkl{bits:Int}{ps:qB}{qs:PR}{b q:Int×Int}{n:Nat}{R:qN}(b0:0<=bits)(b1:bits<=64)(P:Ptc bits ps)(hl:ps.length<1000000)(B:IsBk bits b.1 b.2)(hq:valP qs b=some q)(h:∀no al:Bool,(no=true↔HasN ps b)->(al=true↔HasA ps b)->R (.bool (rgtD (bpD no al qs b) q)) n):zfU [.tuple (pD ps),.dict (Js (prK qs)),.tuple [.int b.1,.int b.2]] n R:=⟨bits,ps,qs,b,q,rfl,b0,b1,P,hl,B,hq,h⟩
def zfG(Z:ZZ):Prop:=FQ Z "is_right" (top 30) ["patch","pairs","block"] 8 (spD Z.K 3 zfU)
theorem zik(D:Dq Z.K Z.mg "is_right" (top 30) ["patch","pairs","block"]) (h_best_pair:zc2 Z) (T:Txt Z.mg):zfG Z:=by
 refine' okQ D Vn rfl fun f cdv A outer s H E hr=>⟨_,(Jg (Jr (i:=3) Vn.nd rfl (Or.inl rfl) (Ji h_best_pair hr (Jb (Ja 0) (Jb (Ja 1) (Jb (Ja 2) Je Jc) Jc) Jc))) (Jg (Jz (Jt Z1 ZQ (dl (Ja 3)) (dl Uh) (Jm _)) (Jf (Jk JZ)) JH) (Jg (QS (QQ (JW hr) (dl (Ja 1)) (dl (Ja 2))) (J8 rfl (JB (Jp (i:=4) Vn.nd rfl (Or.inl rfl)) (JB (Jp (i:=5) Vn.nd rfl (Or.inl rfl)) Qd)))) (Jf (Jk (Qt (JV QB Qz (dl (Ja 4)) (dl (Jn (dl (Ja 3)) (dl Jd))) (Jm _)) (QF (JV QB Qz (dl (Ja 5)) (dl (Jn (dl (Ja 3)) (dl Jd))) (Jm _))))))))),?_⟩
 intro ts n R hl hh;obtain⟨bits,ps,qs,b,q,rfl,b0,b1,P,hl2,B,hq,h⟩:=hh;have v:valT (prK qs) b=some (.tuple [.int q.1,.int q.2]):=by rw[Qe,hq];rfl
 wp_walk using zfa b0 b1 P hl2 B (fun no al hn ha=>?_)
 ·have key:=h no al hn ha;cases e:bpD no al qs b with
  | none=>rw[e]at key;exact key
  | some m=>rw[e]at hc;exact absurd hc (by simp[optD,twoD,isNone])
 ·have key:=h no al hn ha;cases e:bpD no al qs b with
  | none=>rw[e]at hc;exact absurd hc (by simp[optD,isNone])
  | some m =>
   rw[e]at key;have key:R (.bool (decide (q.1<=m.1)&&decide (q.2<=m.2))) n:=key;have eo:optD (some m)=.tuple [.int m.1,.int m.2]:=rfl;rw[eo]
   wp_walk using UP v ?_
   ·rw[decide_eq_true hc,Bool.true_and]at key;exact key
   ·rw[decide_eq_false hc,Bool.false_and]at key;exact key
theorem zh_:FnScope ["thing"] ["thing"] (Jl (top 29)):=⟨rfl,rfl,rfl,by decide +kernel,rfl,by decide +kernel,by decide +kernel⟩
def cntD:PyData->Bool|.int i=>decide (0<=i)|_=>false
def zfV:GD:=fun ts n R=>∃d:PyData,ts=[d]/\PlnD d/\R (.bool (cntD d)) n
theorem zf3{d:PyData}{n:Nat}{R:qN}(p:PlnD d)(h:R (.bool (cntD d)) n):zfV [d] n R:=⟨d,rfl,p,h⟩
def zfH(Z:ZZ):Prop:=FQ Z "is_count" (top 29) ["thing"] 2 (spD Z.K 1 zfV)
theorem zil(D:Dq Z.K Z.mg "is_count" (top 29) ["thing"]) (h_is_whole:zdF Z) (T:Txt Z.mg):zfH Z:=by
 refine' okQ D zh_ rfl fun f cdv A outer s H E hr=>⟨_,(Jf (Jk (Qt (Ji h_is_whole hr (Jb (Ja 0) Je Jc)) (QF (JV Z0 gp_B (dl (Ja 0)) (dl Jd) (Jm _)))))),?_⟩
 intro ts n R hl h;obtain⟨d,rfl,p,h⟩:=h;cases d with
 | int i =>
  have h:R (.bool (decide (0<=i))) n:=h
  wp_walk using UE (b:=true) rfl p.pln ?_
  all_goals first|exact h|exact absurd rfl hc
 | dict ks =>
  cases ks with
  | nil =>
   wp_walk using UE (b:=false) rfl p.pln ?_
   all_goals first|exact h|exact absurd rfl hc
  | cons a b=>exact absurd rfl p.pln
 | _ =>
  wp_walk using UE (b:=false) rfl p.pln ?_
  all_goals first|exact h|exact absurd rfl hc
theorem Vm:FnScope ["bits","thing","block","a","b"] ["bits","thing"] (Jl (top 28)):=⟨rfl,rfl,rfl,by decide +kernel,rfl,by decide +kernel,by decide +kernel⟩
def J7(bits:Int):PyData->Bool
 | .tuple [b,x,y]=>Qa bits b&&(cntD x&&cntD y)
 | _=>false
def zjv:GD:=fun ts n R=>∃(bits:Int) (d:PyData),ts=[.int bits,d]/\0<=bits/\bits<=64/\PlnD d/\R (.bool (J7 bits d)) n
theorem znK{bits:Int}{d:PyData}{n:Nat}{R:qN}(b0:0<=bits)(b1:bits<=64)(p:PlnD d)(h:R (.bool (J7 bits d)) n):zjv [.int bits,d] n R:=⟨bits,d,rfl,b0,b1,p,h⟩
theorem zoK{d:PyData}(h:PlnD d):Pl2 d:=⟨h.pln,fun ts e t ht=>by subst e;exact(h.tup.2 t ht).pln⟩
def zja(Z:ZZ):Prop:=FQ Z "is_row" (top 28) ["bits","thing"] 3 (spD Z.K 2 zjv)
theorem zln(D:Dq Z.K Z.mg "is_row" (top 28) ["bits","thing"]) (h_is_block:zfI Z) (h_is_count:zfH Z) (T:Txt Z.mg):zja Z:=by
 refine' okQ D Vm rfl fun f cdv A outer s H E hr=>⟨_,(Jg (Jz (JS (J3 (J9 (JR (dl (QH YY T.isi T.tup QM (dl (Ja 1)) Jc)))) (Qh (Jt (QT hr) QP (dl (Jw Qp Qm T.len J6 (Jj (dl (Ja 1)) Jq Jc))) (dl Jd) (Jm _))))) (Jf (Jk JZ)) JH) (Jg (QS (Ja 1) (J8 rfl (JB (Jp (i:=2) Vm.nd rfl (Or.inl rfl)) (JB (Jp (i:=3) Vm.nd rfl (Or.inl rfl)) (JB (Jp (i:=4) Vm.nd rfl (Or.inl rfl)) Qd))))) (Jf (Jk (Qt (Ji h_is_block hr (Jb (Ja 0) (Jb (Ja 2) Je Jc) Jc)) (Qt (Ji h_is_count hr (Jb (Ja 3) Je Jc)) (QF (Ji h_is_count hr (Jb (Ja 4) Je Jc))))))))),?_⟩
 intro ts n R hl h;obtain⟨bits,d,rfl,b0,b1,p,h⟩:=h;cases d with
 | dict ks =>
  cases ks with
  | nil =>
   wp_walk
   exact h
  | cons a b=>exact absurd rfl p.pln
 | tuple ts =>
  obtain⟨l6,p3⟩:=p.tup
  match ts,p3,h with
  | [],_,h =>
   wp_walk
   all_goals first|exact h|(exfalso;simp at hc;done)
  | [x],_,h =>
   have e:J7 bits (.tuple [x])=false:=by unfold J7;split <;> simp_all
   rw[e]at h
   wp_walk
   all_goals first|exact h|(exfalso;simp at hc;done)
  | [x,y],_,h =>
   have e:J7 bits (.tuple [x,y])=false:=by unfold J7;split <;> simp_all
   rw[e]at h
   wp_walk
   all_goals first|exact h|(exfalso;simp at hc;done)
  | x::y::z::w::r,_,h =>
   have e:J7 bits (.tuple (x::y::z::w::r))=false:=by unfold J7;split <;> simp_all
   rw[e]at h
   wp_walk
   all_goals first|exact h|(exfalso;simp at hc;lia)
  | [x,y,z],p3,h =>
   have px:=p3 x (by simp)
   have py:=p3 y (by simp)
   have pz:=p3 z (by simp)
   have h:R (.bool (Qa bits x&&(cntD y&&cntD z))) n:=h
   wp_walk using zkm b0 b1 (zoK px) ?_,zf3 py ?_,zf3 pz ?_
   ·rename_i q1 q2;rw[q2,hc,Bool.true_and,Bool.true_and]at h;exact h
   ·rename_i q1 q2;rw[hc,Bool.false_and,Bool.and_false]at h;exact h
   ·rw[hc,Bool.false_and]at h;exact h
   ·exact absurd rfl hc
 | _ =>
  wp_walk
  exact h
theorem zb9:FnScope ["bits","patch","many","paper","pairs","wanted"] ["bits","patch","many","paper"] (Jl (top 27)):=⟨rfl,rfl,rfl,by decide +kernel,rfl,by decide +kernel,by decide +kernel⟩
def RwOk(bits:Int)(q:(Int×Int)×(Int×Int)):Prop:=IsBk bits q.1.1 q.1.2/\0<=q.2.1/\0<=q.2.2
theorem ztE{bits:Int}(b0:0<=bits){q:(Int×Int)×(Int×Int)}(h:RwOk bits q):J7 bits (rwD q)=true:=by
 show(Qa bits (.tuple [.int q.1.1,.int q.1.2])&&(decide (0<=q.2.1)&&decide (0<=q.2.2)))=true
 rw[(zeT b0).mpr h.1,decide_eq_true h.2.1,decide_eq_true h.2.2];rfl
theorem ztD{bits:Int}(b0:0<=bits){t:PyData}(h:J7 bits t=true):∃q,t=rwD q/\RwOk bits q:=by
 unfold J7 at h;split at h
 ·rename_i b x y;rw[Bool.and_eq_true,Bool.and_eq_true]at h;obtain⟨h1,h2,h3⟩:=h;have h1':=h1;unfold Qa at h1;split at h1
  ·rename_i i g;unfold cntD at h2 h3;split at h2
   ·rename_i u;split at h3
    ·rename_i v;exact⟨((i,g),(u,v)),rfl,(zeT b0).mp h1',of_decide_eq_true h2,of_decide_eq_true h3⟩
    ·cases h3
   ·cases h2
  ·cases h1
 ·cases h
theorem zkR{bits:Int}(b0:0<=bits):∀{ts:qD},ts.all (J7 bits)=true->∃qs:PR,ts=qs.map rwD/\∀q∈qs,RwOk bits q
 | [],_=>⟨[],rfl,(fun q h=>nomatch h)⟩
 | t::ts,h=>by
  rw[List.all_cons,Bool.and_eq_true]at h;obtain⟨q,rfl,hq⟩:=ztD b0 h.1;obtain⟨qs,rfl,hs⟩:=zkR b0 h.2;exact⟨q::qs,rfl,fun x hx=>by
   rcases List.mem_cons.mp hx with rfl|hx
   ·exact hq
   ·exact hs x hx⟩
theorem Uv{qs ls:PR}(h:qs.map rwD=ls.map rwD):qs=ls:=by
 induction qs generalizing ls with
 | nil=>cases ls with
  | nil=>rfl
  | cons _ _=>cases h
 | cons q qs ih =>
  cases ls with
  | nil=>cases h
  | cons l ls =>
   obtain⟨⟨a,b⟩,⟨c,d⟩⟩:=q;obtain⟨⟨a',b'⟩,⟨c',d'⟩⟩:=l;rw[List.map_cons,List.map_cons]at h
   injection h with h1 h2
   rw[ih h2];simp[rwD]at h1;obtain⟨⟨rfl,rfl⟩,rfl,rfl⟩:=h1
   rfl
def QE(bits:Int)(ps:BL)(many:Int)(d:PyData):Prop:=∃qs:PR,d=.tuple (qs.map rwD)/\(∀q∈qs,RwOk bits q)/\(qs.map (·.1)).Nodup/\(∃v,valP qs (0,bits)=some v/\many<=v.1)/\∀q∈qs,∀no al:Bool,(no=true↔HasN ps q.1)->(al=true↔HasA ps q.1)->rgtD (bpD no al qs q.1) q.2=true
theorem zmX{x y:PyData}(h:PlnD x)(h':PlnD y):PlnD (.tuple [x,y]):=zgi (by simp) (ZI h (ZI h' zje))
theorem zjT{x y z:PyData}(h:PlnD x)(h':PlnD y)(h'':PlnD z):PlnD (.tuple [x,y,z]):=zgi (by simp) (ZI h (ZI h' (ZI h'' zje)))
theorem zov{qs:PR}:∀t∈qs.map rwD,PlnD t:=fun t ht=>by
 obtain⟨q,_,rfl⟩:=List.mem_map.mp ht;exact zjT (zmX Vh Vh) Vh Vh
theorem zk4{bits:Int}{ps:BL}{qs:PR}(Q:PrOk bits ps qs){many:Int}(h:many<=zj3 bits ps):QE bits ps many (.tuple (qs.map rwD)):=by
 obtain⟨v,ev⟩:=Q.root;refine⟨qs,rfl,fun q hq=>⟨Q.bk q hq,Q.pos q hq⟩,Q.nd,⟨v,ev,by rw[Q.many ev];exact h⟩,fun q hq no al hn ha=>?_⟩
 rw[Q.rgt q hq no al hn ha];simp[rgtD]
def zcw:GD:=fun ts n R=>∃(bits:Int) (bs ps:BL) (many:Int) (d:PyData),ts=[.int bits,.tuple (pD bs),.int many,d]/\0<=bits/\bits<=64/\Bks bits bs/\bs.length<64/\bs.length<=1000/\CanP (fun x=>mB x bs) ps/\PlnD d/\∀b:Bool,(b=true↔QE bits ps many d)->R (.bool b) n
theorem zhL{bits:Int}{bs ps:BL}{many:Int}{d:PyData}{n:Nat}{R:qN}(b0:0<=bits)(b1:bits<=64)(B:Bks bits bs)(l:bs.length<64)(l2:bs.length<=1000)(C:CanP (fun x=>mB x bs) ps)(p:PlnD d)(h:∀b:Bool,(b=true↔QE bits ps many d)->R (.bool b) n):zcw [.int bits,.tuple (pD bs),.int many,d] n R:=⟨bits,bs,ps,many,d,rfl,b0,b1,B,l,l2,C,p,h⟩
def zdU(Z:ZZ):Prop:=FQ Z "shows_many" (top 27) ["bits","patch","many","paper"] 9 (spD Z.K 4 zcw)
theorem zgm(D:Dq Z.K Z.mg "shows_many" (top 27) ["bits","patch","many","paper"]) (h_fewest:zgf Z) (h_is_right:zfG Z) (h_is_row:zja Z) (T:Txt Z.mg):zdU Z:=by
 refine' okQ D zb9 rfl fun f cdv A outer s H E hr=>⟨_,(Jg (Jz (JS (J3 (J9 (JR (dl (QH YY T.isi T.tup QM (dl (Ja 3)) Jc)))) (Qh (J9 (JR (dl (Jw (Yt rfl) U5 T.all Ys (Jj (dl (JO (QI (own:=["row"]) (capt:=[0]) rfl (CompScope.of rfl) (dil (QR (Ja 3))) (fun _ _ _ _=>(Jp (i:=0) (by show(["row","bits"]:List Str).Nodup;decide +kernel) rfl (Or.inl rfl))) (by decide) (fun _ _ _ _=>Qk) (fun _ _ _ _=>(Ji h_is_row hr (Jb (Ja 1) (Jb (Ja 0) Je Jc) Jc)))))) Jq QJ)))))))) (Jf (Jk JZ)) JH) (Jg (Jr (i:=4) zb9.nd rfl (Or.inr rfl) (znD (own:=["block","a","b"]) (capt:=[]) (JW hr) rfl (CompScope.of rfl) (dil (QR (Ja 3))) (fun _ _ _ _=>(J8 rfl (JB (Jp (i:=0) (by show(["block","a","b"]:List Str).Nodup;decide +kernel) rfl (Or.inl rfl)) (JB (Jp (i:=1) (by show(["block","a","b"]:List Str).Nodup;decide +kernel) rfl (Or.inl rfl)) (JB (Jp (i:=2) (by show(["block","a","b"]:List Str).Nodup;decide +kernel) rfl (Or.inl rfl)) Qd))))) (by decide) (fun _ _ _ _=>Qk) (fun _ _ _ _=>(Ja 0)) (fun _ _ _ _=>(Ju (Jb (Ja 1) (Jb (Ja 2) Je Jc) Jc))))) (Jg (Jz (JS (J3 (Jt (QT hr) QP (dl (Jw zhK zlQ T.len J6 (Jj (dl (Ja 4)) Jq Jc))) (dl (Jw Qp Qm T.len J6 (Jj (dl (Ja 3)) Jq Jc))) (Jm _)) (Qh (Jt (zid (JW hr)) zlS (dl (Ju (Jb Jd (Jb (Ja 0) Je Jc) Jo))) (dl (Ja 4)) rfl)))) (Jf (Jk JZ)) JH) (Jg (Jz (Jt (Qo hr) Qn (dl (Jn (dl (QQ (JW hr) (dl (Ja 4)) (dl (Ju (Jb Jd (Jb (Ja 0) Je Jc) Jo))))) (dl Jd))) (dl (Ja 2)) (Jm _)) (Jf (Jk JZ)) JH) (Jg (Jr (i:=5) zb9.nd rfl (Or.inr rfl) (Ji h_fewest hr (Jb (Ja 1) Je Jc))) (Jf (Jk (Jw (Yt rfl) U5 T.all Ys (Jj (dl (JO (QI (own:=["block"]) (capt:=[5,4]) rfl (CompScope.of rfl) (dil (ziR (Ja 4))) (fun _ _ _ _=>(Jp (i:=0) (by show(["block","wanted","pairs"]:List Str).Nodup;decide +kernel) rfl (Or.inl rfl))) (by decide) (fun _ _ _ _=>Qk) (fun _ _ _ _=>(Ji h_is_right hr (Jb (Ja 1) (Jb (Ja 2) (Jb (Ja 0) Je Jc) Jc) Jc)))))) Jq QJ))))))))),?_⟩
 intro ts n R hl hh;obtain⟨bits,bs,ps,many,d,rfl,b0,b1,B,l,l2,C,p,h⟩:=hh;have no:(¬QE bits ps many d)->R (.bool false) n:=fun z=>h false ⟨(fun y=>by cases y),fun y=>absurd y z⟩
 cases d with
 | dict ks =>
  cases ks with
  | nil =>
   have key:=no fun⟨qs,e,_⟩=>by cases e
   wp_walk
   exact key
  | cons a b=>exact absurd rfl p.pln
 | tuple us =>
  obtain⟨l6,p3⟩:=p.tup
  wp_walk
  refine zf0 (fun t=>.bool (J7 bits t)) (by lia) ?_ ?_
  ·intro t mt K2 X2 hK2
   wp_walk using znK b0 b1 (p3 t mt) ?_
   exact hK2
  ·wp_walk using Zj (f:=J7 bits) ?_
   ·obtain⟨qs,rfl,ok⟩:=zkR b0 hc;rw[List.length_map]at l6;refine zkh (cs:=qs) (D:=rwD) (fun q=>q.1) (fun q=>twoD q.2) (by lia) ?_ ?_
    ·intro q hq K2 X2 hK2;rw[rwD]
     wp_walk
     exact hK2
    ·by_cases nd:(qs.map (·.1)).Nodup
     ·have ef:qs.foldl (fun acc b=>putT acc b.1 (twoD b.2)) []=prK qs:=Vc (qs:=qs) (acc:=[]) (by simpa using nd)
      rw[ef];cases ev:valP qs (0,bits) with
      | none =>
       have vt:valT (prK qs) (0,bits)=none:=by rw[Qe,ev];rfl
       have key:=no fun⟨ls,e,_,_,⟨v,hv,_⟩,_⟩=>by
        rw[Uv (PyData.tuple.inj e),hv]at ev;cases ev
       wp_walk using YN ?_,UO (k:=(0,bits)) ?_
       ·exact key
       ·rw[vt]at hc;cases hc
       ·exact key
      | some v =>
       have vt:valT (prK qs) (0,bits)=some (.tuple [.int v.1,.int v.2]):=by rw[Qe,ev];rfl
       wp_walk using YN ?_,UO (k:=(0,bits)) ?_,UP (k:=(0,bits)) vt ?_,zjH (.inr rfl) b0 b1 B l (fun ps' C' lp=>?_)
       ·rw[vt]at hc;cases hc
       ·exact no fun⟨ls,e,_,_,⟨v',hv,hm⟩,_⟩=>by
         rw[<- Uv (PyData.tuple.inj e),ev]at hv;cases hv;lia
       ·have ep:=C'.uniq C fun x=>Iff.rfl
        subst ep;have P:Ptc bits ps':=C'.ptc b0 fun x hx=>Zn b0 B hx
        have lp2:ps'.length<1000000:=by lia
        refine⟨prK qs,rfl,?_⟩;have e:(prK qs).map (fun q=>L2.blkT q.1)=qs.map fun q=>L2.blkT q.1:=by simp[prK]
        rw[e]
        classical
        let f:(Int×Int)×(Int×Int)->Bool:=fun q=>rgtD (bpD (decide (HasN ps' q.1)) (decide (HasA ps' q.1)) qs q.1) q.2
        refine UB (cs:=qs) (fun q=>.bool (f q)) (by lia) ?_ ?_
        ·intro q hq K2 X2 hK2;have Bq:=(ok q hq).1;have vq:=zh0 nd hq;rw[L2.blkT]
         wp_walk using zkl (b:=q.1) (q:=q.2) b0 b1 P lp2 Bq vq (fun no al hn ha=>?_)
         have e1:no=decide (HasN ps' q.1):=by rw[Bool.eq_iff_iff,hn,decide_eq_true_eq]
         have e2:al=decide (HasA ps' q.1):=by rw[Bool.eq_iff_iff,ha,decide_eq_true_eq]
         rw[e1,e2];exact hK2
        ·wp_walk using Zj (f:=f) ?_
         refine h _ ?_;rw[List.all_eq_true];constructor
         ·intro z;refine⟨qs,rfl,ok,nd,⟨v,ev,by lia⟩,fun q hq no al hn ha=>?_⟩
          have e1:no=decide (HasN ps' q.1):=by rw[Bool.eq_iff_iff,hn,decide_eq_true_eq]
          have e2:al=decide (HasA ps' q.1):=by rw[Bool.eq_iff_iff,ha,decide_eq_true_eq]
          rw[e1,e2];exact z q hq
         ·rintro⟨ls,e,_,_,_,r⟩ q hq;have el:=Uv (PyData.tuple.inj e);subst el;exact r q hq _ _ (by rw[decide_eq_true_eq]) (by rw[decide_eq_true_eq])
       ·exact absurd (by rw[prK,List.length_map,List.length_map]) hc
     ·have key:=no fun⟨ls,e,_,nd',_⟩=>by
       rw[<- Uv (PyData.tuple.inj e)]at nd';exact nd nd'
      have ef:(qs.foldl (fun acc b=>putT acc b.1 (twoD b.2)) []).length≠qs.length:=fun z=>nd (zjA.mp z)
      generalize qs.foldl (fun acc b=>putT acc b.1 (twoD b.2)) []=ks at ef ⊢
      wp_walk using YN ?_
      ·rw[List.length_map]at hc;exact absurd (Int.ofNat.inj hc) ef
      ·exact key
   ·have key:=no fun⟨ls,e,ok,_⟩=>by
     have:us.all (J7 bits)=true:=by
      rw[PyData.tuple.inj e,List.all_eq_true];intro x hx;obtain⟨q,hq,rfl⟩:=List.mem_map.mp hx;exact ztE b0 (ok q hq)
     rw[this]at hc;cases hc
    exact key
 | _ =>
  have key:=no fun⟨qs,e,_⟩=>by cases e
  wp_walk
  exact key
theorem scH:FnScope ["_law_script","_law_k","_law_cell"] ["_law_script","_law_k"] (Jl (top 32)):=⟨rfl,rfl,rfl,by decide +kernel,rfl,by decide +kernel,by decide +kernel⟩
theorem zhc{f:Addr}{fd:FuncData}(D:Def K mg "_law_hand" (top 32) ["_law_script","_law_k"] f fd) (T:Txt mg):FnOk P w K mg base CX0 1 f fd ["_law_script","_law_k"] (zkF K):=by
 refine D.F.ok scH (fun vs H Q E h=>?_) (fun cdv A outer s H vs Q E hr h=>?_)
 ·obtain⟨a,ns,k,rfl,_⟩:=h
  rfl
 ·obtain⟨a,ns,k,rfl,hS,hl,k0,k1,q⟩:=h;refine⟨_,QN (QV (i:=2) scH.nd rfl (Or.inl rfl) JI)
   (QN (zoH (zia zq5 (pv 1) (Z2 zhJ T.len J6 (pb_v 0 Us)) (Jm _)) (Zy (QV (i:=2) scH.nd rfl (Or.inl rfl) (Uf Uu (pv 0) (pv 1) (fun _ _=>rfl)))) zib)
   (Zy (Zs (zk_ (zn0 (JK Q6 (pv 2) (zqR ze9 T.int boot_int (zqV (zlc Z0 (pv 2) (JK zq2 JI JI) (Jm _)) Us)))
    (zn0 (JK Q5 (JK Q5 (JK Yi (pv 2) JI) (JK Q6 JI (pv 1))) JI) (pb_i Us))))))),?_⟩
  refine⟨_,rfl,_,rfl,a,_,rfl,.inl hS,_,_,rfl,rfl,_,rfl,?_⟩;have fin:∀c:Int,tRet (tLst (Qx (tOp (rI CMul fun i j=>V.int (i*j)) (tVar 2) (tCB (fun xs H Q=>(∃i,xs=[.int i]/\Q (.int i) H)\/∃k,xs=[.bl k]/\Q (.int (if k then 1 else 0)) H) (Qx (tOp (rI0 fun i j=>.bl (decide (j<=i))) (tVar 2) (tOp (rI CPow fun i j=>.int (i ^ j.toNat)) (tC (.int 10)) (tC (.int 18)))) tNil)))
    (Qx (tOp (rI0 fun i j=>.int (i+j)) (tOp (rI0 fun i j=>.int (i+j)) (tOp (rI (fun _ j=>0<j) fun i j=>.int (i % j)) (tVar 2) (tC (.int 2305843009213693951))) (tOp (rI CMul fun i j=>V.int (i*j)) (tC (.int 7919)) (tVar 1))) (tC (.int 3))) (Qx (tC (.int 0)) tNil))))
    { nx:=fun _ H'=>Q .non H',rt:=Q } [some (.ref a),some (.int k),some (.int c)] H:=by
   intro c;refine⟨_,rfl,_,rfl,_,_,rfl,rfl,⟨by decide,by decide,by decide⟩,_,_,rfl,rfl,.inr ⟨_,rfl,_,_,rfl,rfl,.inr ?_,?_⟩⟩
   ·split <;> decide
   ·refine⟨_,rfl,_,_,rfl,rfl,(by show(0:Int)<2305843009213693951;decide),_,rfl,_,_,rfl,rfl,.inl ⟨by decide,by decide⟩,_,_,rfl,rfl,_,_,rfl,rfl,(by show 3<=sizeLine;decide),fun l hn=>?_⟩
    refine q l _ hn ⟨_,_,_,JQ,?_,?_,Int.le_refl _,Int.le_refl _⟩ (zmJ hn)
    ·lia
    ·lia
  refine zrD (fun c=>?_) (fun c=>?_)
  ·have hk:k.toNat<ns.length:=by rw[List.length_map]at c;lia
   refine⟨_,rfl,_,rfl,a,_,_,V.int (ns[k.toNat]),rfl,rfl,hS,?_,?_⟩
   ·exact zgN k0 (by rw[List.getElem?_map,List.getElem?_eq_getElem hk];rfl)
   ·exact fin _
  ·exact fin 0
def zez(Z:ZZ):Prop:=FQ Z "_law_hand" (top 32) ["_law_script","_law_k"] 1 (zkF Z.K)
theorem zgl(D:Dq Z.K Z.mg "_law_hand" (top 32) ["_law_script","_law_k"]) (T:Txt Z.mg):zez Z:=by
 obtain⟨f,fd,D⟩:=D;exact⟨f,fd,D,zhc D T⟩
theorem zgZ{H:Hp}{hd:Addr}{o:HO}:zsp hd H (upd H hd o):=fun b u e n=>by rw[Jv n];exact e
theorem scT:FnScope ["_law_hand_here","_law_many","_law_digit","_law_turn","_law_mixed","_law_odd"] ["_law_hand_here","_law_many"] (Jl (top 33)):=⟨rfl,rfl,rfl,by decide +kernel,rfl,by decide +kernel,by decide +kernel⟩
theorem zm9{f:Addr}{fd:FuncData}(D:Def K mg "_law_take" (top 33) ["_law_hand_here","_law_many"] f fd) (T:Txt mg):FnOk P w K mg base CX0 1 f fd ["_law_hand_here","_law_many"] znT:=by
 refine D.F.ok scT (fun vs H Q E h=>?_) (fun cdv A outer s H vs Q E hr h=>?_)
 ·obtain⟨hd,many,n,rfl,_⟩:=h
  rfl
 ·obtain⟨hd,many,n,rfl,⟨d,m,t,hh,m0,m1,t0,t1⟩,hn,y0,y1,q⟩:=h;refine⟨_,QN (zoH (zia UM (Uf Uu (pv 0) JI (fun _ _=>rfl)) JI (Jm _))
    (QN (QV (i:=2) scT.nd rfl (Or.inl rfl) (JK Yi (Uf Uu (pv 0) JI (fun _ _=>rfl)) (pv 1)))
    (QN (Z7 (JK Vg (Uf Uu (pv 0) JI (fun _ _=>rfl)) (pv 1)) (pg_sub (pv 0) JI set_list))
    (Zy (Zs (pv 2))))) zib)
   (QN (Z7 (JK Q5 (Uf Uu (pv 0) JI (fun _ _=>rfl)) JI) (pg_sub (pv 0) JI set_list))
   (QN (QV (i:=3) scT.nd rfl (Or.inl rfl) (Uf Uu (pv 0) JI (fun _ _=>rfl)))
   (QN (QV (i:=4) scT.nd rfl (Or.inl rfl) (JK Yi (JK Q6 (Uf Uu (pv 0) JI (fun _ _=>rfl)) (JK Q5 (JK Q5 JI (JK Q6 (JK Q6 JI (pv 3)) (pv 3))) (JK Q6 JI (pv 3)))) JI))
   (QN (QV (i:=5) scT.nd rfl (Or.inl rfl) (JK Q5 (JK Q5 (JK Yi (pv 4) JI) (JK Q6 (pv 3) JI)) JI))
   (QN (QV (i:=4) scT.nd rfl (Or.inl rfl) (JK Yi (JK Q6 (pv 4) (pv 5)) JI))
   (Zy (Zs (JK Yi (JK Q5 (JK Vg (pv 4) JI) (JK Vg (pv 4) JI)) (pv 1))))))))),?_⟩
  refine⟨_,rfl,hd,_,_,_,rfl,rfl,.of hh,rfl,_,_,rfl,rfl,_,rfl,?_⟩;refine zrD (fun c=>?_) (fun c=>?_)
  ·refine⟨_,rfl,hd,_,_,_,rfl,rfl,.of hh,rfl,_,rfl,_,_,rfl,rfl,y0,?_⟩;refine⟨_,rfl,hd,_,_,_,rfl,rfl,.of hh,rfl,_,rfl,_,_,rfl,rfl,⟨y0,y1⟩,?_⟩;refine⟨_,rfl,hd,_,_,0,rfl,rfl,hh,rfl,?_⟩;refine⟨_,rfl,?_⟩;exact q _ _ (Int.emod_nonneg _ (by lia)) (Int.emod_lt_of_pos _ y0) ⟨_,_,_,JQ,m0,m1,t0,by lia⟩ zgZ
  ·refine⟨_,rfl,hd,_,_,_,rfl,rfl,.of hh,rfl,_,_,rfl,rfl,?_⟩;refine⟨_,rfl,hd,_,_,2,rfl,rfl,hh,rfl,?_⟩;refine⟨_,rfl,hd,_,_,_,rfl,rfl,.of JQ,rfl,?_⟩;refine⟨_,rfl,hd,_,_,_,rfl,rfl,.of JQ,rfl,_,rfl,_,_,rfl,rfl,.inl ⟨by decide,by decide⟩,_,rfl,_,_,rfl,rfl,.inr ⟨by lia,by lia⟩,_,_,rfl,rfl,_,rfl,_,_,rfl,rfl,.inl ⟨by decide,by decide⟩,_,_,rfl,rfl,_,_,rfl,rfl,.inl ⟨by lia,by lia⟩,_,_,rfl,rfl,(by show(0:Int)<2305843009213693921;decide),?_⟩
   refine⟨_,rfl,_,_,rfl,rfl,(by show(0:Int)<1000003;decide),_,rfl,_,_,rfl,rfl,.inr ⟨by decide,by decide⟩,_,_,rfl,rfl,_,_,rfl,rfl,?_⟩
   refine⟨_,rfl,_,rfl,_,_,rfl,rfl,.inl ⟨by lia,by lia⟩,_,_,rfl,rfl,(by show(0:Int)<2305843009213693907;decide),?_⟩
   refine⟨_,rfl,_,_,rfl,rfl,⟨by decide,by decide⟩,_,rfl,_,_,rfl,rfl,⟨by decide,by decide⟩,_,_,rfl,rfl,_,rfl,_,_,rfl,rfl,y0,?_⟩
   exact q _ _ (Int.emod_nonneg _ (by lia)) (Int.emod_lt_of_pos _ y0) ⟨_,_,_,JQ,m0,m1,by lia,by lia⟩ zgZ
theorem zg9{f:Addr}{fd:FuncData}(D:Def K mg "_law_take" (top 33) ["_law_hand_here","_law_many"] f fd) (T:Txt mg):FnOk P w K mg base CX0 1 f fd ["_law_hand_here","_law_many"] (spD K 2 Ul) :=
 (zm9 D T).imp zmG
def Y5(Z:ZZ):Prop:=FQ Z "_law_take" (top 33) ["_law_hand_here","_law_many"] 1 (spD Z.K 2 Ul)
theorem zgk(D:Dq Z.K Z.mg "_law_take" (top 33) ["_law_hand_here","_law_many"]) (T:Txt Z.mg):Y5 Z:=by
 obtain⟨f,fd,D⟩:=D;exact⟨f,fd,D,zg9 D T⟩
theorem zgX:FnScope ["_law_hand_here","_law_some"] ["_law_hand_here","_law_some"] (Jl (top 34)):=⟨rfl,rfl,rfl,by decide +kernel,rfl,by decide +kernel,by decide +kernel⟩
def Y3:GD:=fun ts n R=>match ts with
 | [h,.list xs]=>h=HAND/\xs≠[]/\xs.length<=1000000/\n<=1000000000000/\∀x∈xs,R x (n+1)
 | _=>False
theorem zc9{xs:qD}{n:Nat}{R:qN}(h0:xs≠[])(h1:xs.length<=1000000)(hn:n<=1000000000000)(h:∀x∈xs,R x (n+1)):Y3 [HAND,.list xs] n R:=⟨rfl,h0,h1,hn,h⟩
def Y4(Z:ZZ):Prop:=FQ Z "_law_pick" (top 34) ["_law_hand_here","_law_some"] 2 (spD Z.K 2 Y3)
theorem zg_(D:Dq Z.K Z.mg "_law_pick" (top 34) ["_law_hand_here","_law_some"]) (h__law_take:Y5 Z) (T:Txt Z.mg):Y4 Z:=by
 refine' okQ D zgX rfl fun f cdv A outer s H E hr=>⟨_,(Jf (Jk (Jn (dl (Ja 1)) (dl (Ji h__law_take hr (Jb (Ja 0) (Jb (Jw Qp Qm T.len J6 (Jj (dl (Ja 1)) Jq Jc)) Je JE) Jc)))))),?_⟩
 intro ts n R hl h;unfold Y3 at h;split at h
 ·rename_i hd xs;obtain⟨rfl,h0,h1,h2,h⟩:=h;have hp:0<xs.length:=List.length_pos_iff.mpr h0;simp only[YJ,YI,YK,YH,u_dC,Yy,YD,YF,YE,YT,Yx,Y0,Y2,YV,YU,Y1,YG,YR,Yn,U1,U2,Yq,U3,U4,Yu,UZ,U0,oSub,oMul,oMod,Q4,oShl,oShr,oXor,oAnd,isNone,isInt,isBool,isTup,l_gI,YA,U6,U7,US,UT,UJ,UL,UK,UU,UV,Yo,UG,UF,Yb,Yc,U9,Ya,Yf,Yg,UR,Yd,Ye,Yl,UI,UH,U8,Ym,Yp,Q0,QY,Q8,Uc,Ua,Ub,Q9,QX,JX,JA,capV,List.map_cons,List.map_nil,List.length_cons,List.length_nil,List.replicate_succ,List.replicate_zero,List.cons_append,List.nil_append,List.append_nil,List.getElem?_cons_succ,List.getElem?_cons_zero,List.set_cons_succ,List.set_cons_zero,List.getD_cons_succ,List.getD_cons_zero,Nat.zero_add,Nat.reduceAdd,Nat.reduceSub,Nat.sub_self,true_and,and_true,Bool.false_eq_true,if_true,if_false,ite_true,ite_false,Bool.not_true,Bool.not_false,Int.natCast_zero,Ul]
  refine⟨by lia,by lia,h2,fun r r0 r1=>?_⟩
  have hr':r.toNat<xs.length:=by lia
  rw[YB (zgN r0 (List.getElem?_eq_getElem hr'))];exact h _ (List.getElem_mem hr')
 ·exact h.elim
theorem zgY:FnScope ["_law_hand_here"] ["_law_hand_here"] (Jl (top 35)):=⟨rfl,rfl,rfl,by decide +kernel,rfl,by decide +kernel,by decide +kernel⟩
def zc8:GD:=fun ts n R=>match ts with
 | [h]=>h=HAND/\n<=1000000000000/\∀b:Int,1<=b->b<=64->R (.int b) (n+1)
 | _=>False
theorem zi2{n:Nat}{R:qN}(hn:n<=1000000000000)(h:∀b:Int,1<=b->b<=64->R (.int b) (n+1)):zc8 [HAND] n R:=⟨rfl,hn,h⟩
def zeB(Z:ZZ):Prop:=FQ Z "_law_bits" (top 35) ["_law_hand_here"] 3 (spD Z.K 1 zc8)
theorem zhe(D:Dq Z.K Z.mg "_law_bits" (top 35) ["_law_hand_here"]) (h__law_pick:Y4 Z) (T:Txt Z.mg):zeB Z:=by
 refine' okQ D zgY rfl fun f cdv A outer s H E hr=>⟨_,(Jf (Jk (Ji h__law_pick hr (Jb (Ja 0) (Jb (JO (Qg (Jb Jd (Jb Jd (Jb Jd (Jb Jd (Jb Jd (Jb Jd (Jb Jd (Jb Jd (Jb Jd (Jb Jd Je Jo) Jo) Jo) Jo) Jo) Jo) Jo) Jo) Jo) Jo))) Je zh7) Jc)))),?_⟩
 intro ts n R hl h;unfold zc8 at h;split at h
 ·obtain⟨rfl,h1,h⟩:=h;simp only[YJ,YI,YK,YH,u_dC,Yy,YD,YF,YE,YT,Yx,Y0,Y2,YV,YU,Y1,YG,YR,Yn,U1,U2,Yq,U3,U4,Yu,UZ,U0,oSub,oMul,oMod,Q4,oShl,oShr,oXor,oAnd,isNone,isInt,isBool,isTup,l_gI,YA,U6,U7,US,UT,UJ,UL,UK,UU,UV,Yo,UG,UF,Yb,Yc,U9,Ya,Yf,Yg,UR,Yd,Ye,Yl,UI,UH,U8,Ym,Yp,Q0,QY,Q8,Uc,Ua,Ub,Q9,QX,JX,JA,capV,List.map_cons,List.map_nil,List.length_cons,List.length_nil,List.replicate_succ,List.replicate_zero,List.cons_append,List.nil_append,List.append_nil,List.getElem?_cons_succ,List.getElem?_cons_zero,List.set_cons_succ,List.set_cons_zero,List.getD_cons_succ,List.getD_cons_zero,Nat.zero_add,Nat.reduceAdd,Nat.reduceSub,Nat.sub_self,true_and,and_true,Bool.false_eq_true,if_true,if_false,ite_true,ite_false,Bool.not_true,Bool.not_false,Int.natCast_zero,Y3]
  refine⟨by simp,by decide,h1,fun x hx=>?_⟩
  simp only[List.mem_cons,List.not_mem_nil,or_false]at hx;rcases hx with rfl|rfl|rfl|rfl|rfl|rfl|rfl|rfl|rfl|rfl <;> exact h _ (by decide) (by decide)
 ·exact h.elim
theorem zdg:FnScope ["_law_hand_here","_law_bits_here","_law_height"] ["_law_hand_here","_law_bits_here"] (Jl (top 36)):=⟨rfl,rfl,rfl,by decide +kernel,rfl,by decide +kernel,by decide +kernel⟩
def zcy:GD:=fun ts n R=>match ts with
 | [h,.int bits]=>h=HAND/\1<=bits/\bits<=64/\n<=1000000000000 - 10/\∀i h:Int,IsBk bits i h->R (.tuple [.int i,.int h]) (n+3)
 | _=>False
theorem zed{bits:Int}{n:Nat}{R:qN}(b0:1<=bits)(b1:bits<=64)(hn:n<=1000000000000 - 10)(h:∀i h:Int,IsBk bits i h->R (.tuple [.int i,.int h]) (n+3)):zcy [HAND,.int bits] n R:=⟨rfl,b0,b1,hn,h⟩
def zcp(Z:ZZ):Prop:=FQ Z "_law_block" (top 36) ["_law_hand_here","_law_bits_here"] 3 (spD Z.K 2 zcy)
theorem zgs(D:Dq Z.K Z.mg "_law_block" (top 36) ["_law_hand_here","_law_bits_here"]) (h__law_pick:Y4 Z) (h__law_take:Y5 Z) (T:Txt Z.mg):zcp Z:=by
 refine' okQ D zdg rfl fun f cdv A outer s H E hr=>⟨_,(Jg (Jr (i:=2) zdg.nd rfl (Or.inl rfl) (Jw (UA rfl) Uo T.min Uy (Jj (dl (Ja 1)) (Jj (dl (Ji h__law_pick hr (Jb (Ja 0) (Jb (JO (Qg (Jb Jd (Jb Jd (Jb Jd (Jb Jd (Jb Jd (Jb Jd (Jb (Ji h__law_take hr (Jb (Ja 0) (Jb (JC (dl (Ja 1)) (dl Jd)) Je JG) Jc)) (Jb (Ja 1) Je Jc) JE) Jo) Jo) Jo) Jo) Jo) Jo))) Je zh7) Jc))) Jq JE) Jc))) (Jf (Jk (Ju (Jb (zl4 (dl (Ji h__law_take hr (Jb (Ja 0) (Jb (J1 (dl Jd) (dl (Qr (dl (Ja 1)) (dl (Ja 2))))) Je JG) Jc))) (dl (J1 (dl Jd) (dl (Ja 2))))) (Jb (Ja 2) Je Jc) JG))))),?_⟩
 intro ts n R hl h;unfold zcy at h;split at h
 ·rename_i hd bits;obtain⟨rfl,b0,b1,hn,h⟩:=h;simp only[YJ,YI,YK,YH,u_dC,Yy,YD,YF,YE,YT,Yx,Y0,Y2,YV,YU,Y1,YG,YR,Yn,U1,U2,Yq,U3,U4,Yu,UZ,U0,oSub,oMul,oMod,Q4,oShl,oShr,oXor,oAnd,isNone,isInt,isBool,isTup,l_gI,YA,U6,U7,US,UT,UJ,UL,UK,UU,UV,Yo,UG,UF,Yb,Yc,U9,Ya,Yf,Yg,UR,Yd,Ye,Yl,UI,UH,U8,Ym,Yp,Q0,QY,Q8,Uc,Ua,Ub,Q9,QX,JX,JA,capV,List.map_cons,List.map_nil,List.length_cons,List.length_nil,List.replicate_succ,List.replicate_zero,List.cons_append,List.nil_append,List.append_nil,List.getElem?_cons_succ,List.getElem?_cons_zero,List.set_cons_succ,List.set_cons_zero,List.getD_cons_succ,List.getD_cons_zero,Nat.zero_add,Nat.reduceAdd,Nat.reduceSub,Nat.sub_self,true_and,and_true,Bool.false_eq_true,if_true,if_false,ite_true,ite_false,Bool.not_true,Bool.not_false,Int.natCast_zero,Y3,Ul]
  refine⟨by lia,by lia,by lia,fun r r0 r1=>⟨by simp,by decide,by lia,fun x hx=>?_⟩⟩
  have hv:∃b:Int,x=.int b/\0<=b:=by
   simp only[List.mem_cons,List.not_mem_nil,or_false]at hx;rcases hx with h|h|h|h|h|h|h|h <;> first|exact⟨_,h,by decide⟩|exact⟨_,h,by lia⟩
  obtain⟨b,rfl,bb⟩:=hv;simp only[YJ,YI,YK,YH,u_dC,Yy,YD,YF,YE,YT,Yx,Y0,Y2,YV,YU,Y1,YG,YR,Yn,U1,U2,Yq,U3,U4,Yu,UZ,U0,oSub,oMul,oMod,Q4,oShl,oShr,oXor,oAnd,isNone,isInt,isBool,isTup,l_gI,YA,U6,U7,US,UT,UJ,UL,UK,UU,UV,Yo,UG,UF,Yb,Yc,U9,Ya,Yf,Yg,UR,Yd,Ye,Yl,UI,UH,U8,Ym,Yp,Q0,QY,Q8,Uc,Ua,Ub,Q9,QX,JX,JA,capV,List.map_cons,List.map_nil,List.length_cons,List.length_nil,List.replicate_succ,List.replicate_zero,List.cons_append,List.nil_append,List.append_nil,List.getElem?_cons_succ,List.getElem?_cons_zero,List.set_cons_succ,List.set_cons_zero,List.getD_cons_succ,List.getD_cons_zero,Nat.zero_add,Nat.reduceAdd,Nat.reduceSub,Nat.sub_self,true_and,and_true,Bool.false_eq_true,if_true,if_false,ite_true,ite_false,Bool.not_true,Bool.not_false,Int.natCast_zero,Ul]
  have key:∀m:Int,0<=m->m<=bits->(CPow 1 (bits - m)/\(0:Int)<1*2 ^ (bits - m).toNat/\1*2 ^ (bits - m).toNat<(2:Int) ^ 128/\n+1+1<=1000000000000/\∀r:Int,0<=r->r<1*2 ^ (bits - m).toNat->CPow 1 m/\CMul r (1*2 ^ m.toNat)/\R (.tuple [.int (r*(1*2 ^ m.toNat)),.int m]) (n+1+1+1)):=by
   intro m m0 m1;have e1:(1:Int)*2 ^ (bits - m).toNat=2 ^ (bits - m).toNat:=Int.one_mul _;have e2:(1:Int)*2 ^ m.toNat=2 ^ m.toNat:=Int.one_mul _;rw[e1,e2];refine⟨cpow (by lia) (by lia),QL _,zk6 (by lia),by lia,fun k k0 k1=>⟨cpow m0 (by lia),.inl ⟨by lia,?_⟩,?_⟩⟩
   ·have:=zgh (k:=(bits - m).toNat) (by lia);lia
   ·exact h _ m ⟨m0,m1,k,k0,rfl,k1⟩
  exact key (if b<bits then b else bits) (by split <;> lia) (by split <;> lia)
 ·exact h.elim
theorem ZJ:FnScope ["_law_hand_here","_law_bits_here","_law_block_here","_law_begin","_law_height","_law_size","_law_some"] ["_law_hand_here","_law_bits_here","_law_block_here"] (Jl (top 37)):=⟨rfl,rfl,rfl,by decide +kernel,rfl,by decide +kernel,by decide +kernel⟩
def ze0:GD:=fun ts n R=>∃bits i h:Int,ts=[HAND,.int bits,.tuple [.int i,.int h]]/\1<=bits/\bits<=64/\n<=1000000000000 - 100/\IsBk bits i h/\∀j g:Int,IsBk bits j g->R (.tuple [.int j,.int g]) (n+7)
theorem zc_{bits i h:Int}{n:Nat}{R:qN}(b0:1<=bits)(b1:bits<=64)(hn:n<=1000000000000 - 100)(B:IsBk bits i h)(h':∀j g:Int,IsBk bits j g->R (.tuple [.int j,.int g]) (n+7)):ze0 [HAND,.int bits,.tuple [.int i,.int h]] n R:=⟨_,_,_,rfl,b0,b1,hn,B,h'⟩
def zc3(Z:ZZ):Prop:=FQ Z "_law_near" (top 37) ["_law_hand_here","_law_bits_here","_law_block_here"] 4 (spD Z.K 3 ze0)
theorem zha(D:Dq Z.K Z.mg "_law_near" (top 37) ["_law_hand_here","_law_bits_here","_law_block_here"]) (h__law_pick:Y4 Z) (h__law_block:zcp Z) (T:Txt Z.mg):zc3 Z:=by
 refine' okQ D ZJ rfl fun f cdv A outer s H E hr=>⟨_,(Jg (QS (Ja 2) (J8 rfl (JB (Jp (i:=3) ZJ.nd rfl (Or.inl rfl)) (JB (Jp (i:=4) ZJ.nd rfl (Or.inl rfl)) Qd)))) (Jg (Jr (i:=5) ZJ.nd rfl (Or.inl rfl) (J1 (dl Jd) (dl (Ja 4)))) (Jg (YM (i:=6) ZJ.nd rfl (Or.inl rfl) (Qg (Jb (Ja 2) (Jb (Ju (Jb (Ja 3) (Jb (Jw (Uz rfl) Um T.max Ux (Jj (dl Jd) (Jj (dl (Qr (dl (Ja 4)) (dl Jd))) Jq JG) Jo)) Je JE) Jc)) (Jb (Ji h__law_block hr (Jb (Ja 0) (Jb (Ja 1) Je Jc) Jc)) (Jb (Ji h__law_block hr (Jb (Ja 0) (Jb (Ja 1) Je Jc) Jc)) Je JE) JE) zf_) Jc))) (Jg (Jz (Jt UM gp_B (dl (Ja 4)) (dl Jd) (Jm _)) (Jf (UC 6 (Ju (Jb (JC (dl (Ja 3)) (dl (ziS (dl (Ja 5)) (dl Jd)))) (Jb (Qr (dl (Ja 4)) (dl Jd)) Je JG) JG)))) JH) (Jg (Jz (Jt (Qo hr) Qn (dl (Ja 4)) (dl (Ja 1)) (Jm _)) (Jg (UC 6 (Ju (Jb (Qr (dl (Ja 3)) (dl (zl5 (dl (Ja 3)) (dl (zl4 (dl Jd) (dl (Ja 5))))))) (Jb (JC (dl (Ja 4)) (dl Jd)) Je JG) JG))) (Jf (UC 6 (Ju (Jb (zod (dl (Ja 3)) (dl (Ja 5))) (Jb (Ja 4) Je Jc) JG))))) JH) (Jg (Jz (Jt QB Qz (dl (JC (dl (Ja 3)) (dl (zl4 (dl Jd) (dl (Ja 5)))))) (dl (J1 (dl Jd) (dl (Ja 1)))) (Jm _)) (Jf (UC 6 (Ju (Jb (JC (dl (Ja 3)) (dl (Ja 5))) (Jb (Ja 4) Je Jc) JG)))) JH) (Y8 6 (Jf (Jk (Ji h__law_pick hr (Jb (Ja 0) (Jb (Ja 6) Je Jc) Jc))))))))))),?_⟩
 intro ts n R hl hh;obtain⟨bits,i,h,rfl,b0,b1,hn,B,hh⟩:=hh;have h0:=B.1;have h1:=B.2.1;have bx:∀j g:Int,IsBk bits j g->∀m,m=n+7->R (.tuple [.int j,.int g]) m:=fun j g b m e=>e▸hh j g b
 have Bl:IsBk bits i (if h - 1 > 0 then h - 1 else 0):=by
  split
  ·exact B.low (by lia)
  ·by_cases z:h=0
   ·subst z;exact B
   ·have:h=1:=by lia
    subst this;exact B.low (by decide)
 wp_walk using zed ?_ ?_ ?_ (fun _ _ _=>?_),zc9 ?_ ?_ ?_ ?_
 all_goals first
  | lia
  | exact cpow (by lia) (by lia)
  | exact zuw
  | exact zpP
  | (rw[UD];exact Int.mul_pos (by decide) (QL _))
  | (intro z;simp at z;done)
  | (simp only[List.cons_append,List.nil_append,List.length_cons,List.length_nil];decide)
  | skip
 all_goals
  simp only[List.cons_append,List.nil_append,List.forall_mem_cons,UD]at *
  repeat' (with_reducible refine And.intro ?_ ?_)
 all_goals first
  | exact bx _ _ B _ rfl
  | exact bx _ _ Bl _ rfl
  | exact bx _ _ (by assumption) _ rfl
  | exact bx _ _ (B.up (by lia)) _ rfl
  | exact bx _ _ (B.abt (by lia)) _ rfl
  | exact bx _ _ (B.oth (by lia)) _ rfl
  | exact bx _ _ (B.nxt (by assumption)) _ rfl
  | (intro x hx;simp at hx)
theorem ZP:FnScope ["_law_hand_here","_law_bits_here","_law_most","_law_found","_law_k","_law_block_here"] ["_law_hand_here","_law_bits_here","_law_most"] (Jl (top 38)):=⟨rfl,rfl,rfl,by decide +kernel,rfl,by decide +kernel,by decide +kernel⟩
def zdv:GD:=fun ts n R=>∃bits most:Int,ts=[HAND,.int bits,.int most]/\1<=bits/\bits<=64/\0<=most/\most<=1000/\n<=1000000000000 - 100000/\∀(bs:qB) (m:Nat),Bks bits bs->bs.length<=most.toNat->m<=n+1+12*most.toNat->R (.list (pD bs)) m
theorem zgM{bits most:Int}{n:Nat}{R:qN}(b0:1<=bits)(b1:bits<=64)(m0:0<=most)(m1:most<=1000)(hn:n<=1000000000000 - 100000)(h:∀(bs:qB) (m:Nat),Bks bits bs->bs.length<=most.toNat->m<=n+1+12*most.toNat->R (.list (pD bs)) m):zdv [HAND,.int bits,.int most] n R:=⟨bits,most,rfl,b0,b1,m0,m1,hn,h⟩
def zdm(Z:ZZ):Prop:=FQ Z "_law_blocks" (top 38) ["_law_hand_here","_law_bits_here","_law_most"] 5 (spD Z.K 3 zdv)
theorem zff(D:Dq Z.K Z.mg "_law_blocks" (top 38) ["_law_hand_here","_law_bits_here","_law_most"]) (h__law_take:Y5 Z) (h__law_block:zcp Z) (h__law_near:zc3 Z) (h__law_pick:Y4 Z) (T:Txt Z.mg):zdm Z:=by
 refine' okQ D ZP rfl fun f cdv A outer s H E hr=>⟨_,(Jg (YM (i:=3) ZP.nd rfl (Or.inl rfl) (Qg Je)) (Jg (Uj PassesOwn.never rfl (Vj T.ran (Ji h__law_take hr (Jb (Ja 0) (Jb (JC (dl (Ja 2)) (dl Jd)) Je JG) Jc))) (Jp (i:=4) ZP.nd rfl (Or.inl rfl)) (Jg (Jr (i:=5) ZP.nd rfl (Or.inl rfl) (Ji h__law_block hr (Jb (Ja 0) (Jb (Ja 1) Je Jc) Jc))) (Jg (Jz (JS (Zp (Jt (QT hr) QP (Ui 3) (dl (JO (Qg Je))) (Jm _)) (ZB (Jt UM gp_B (dl (Ji h__law_take hr (Jb (Ja 0) (Jb Jd Je Jo) Jc))) (dl Jd) (Jm _))))) (Jf (Jr (i:=5) ZP.nd rfl (Or.inl rfl) (Ji h__law_near hr (Jb (Ja 0) (Jb (Ja 1) (Jb (zof h__law_pick hr (Jj (dl (Ja 0)) (Jj (Ui 3) Jq Jc) Jc)) Je JE) Jc) Jc)))) JH) (Jf (UC 3 (Ja 5)))))) (Y8 3 (Jf (Jk (Ja 3)))))),?_⟩
 intro ts n R hl hh;obtain⟨bits,most,rfl,b0,b1,m0,m1,hn,hh⟩:=hh
 wp_walk using Va ?_ ?_ ?_ (fun r r0 r1=>?_)
 ·lia
 ·lia
 ·lia
 ·lia
 ·lia
 refine Yk (fun k ρ m=>∃bs:List (Int×Int),∃c4 c5,ρ=[some (.val HAND),some (.val (.int bits)),some (.val (.int most)),some (.own (pD bs)),c4,c5]/\Bks bits bs/\bs.length=k/\m<=n+1+12*k) ⟨[],_,_,rfl,(fun b hb=>nomatch hb),rfl,by lia⟩ ?_ ?_
 ·rintro k t ρ m K et ⟨bs,c4,c5,rfl,B,hk,hm⟩ hK;obtain⟨hk2,rfl⟩:=zfD et;have hk3:k<1000:=by lia
  have fin:∀(i h:Int) (x4 x5:Option Cell) (m':Nat),IsBk bits i h->m'<=m+12->K [some (.val HAND),some (.val (.int bits)),some (.val (.int most)),some (.own (pD bs++[.tuple [.int i,.int h]])),x4,x5] m':=fun i h x4 x5 m' C hm' =>
   hK _ _ ⟨bs++[(i,h)],_,_,by rw[<- Z6],B.app C,by simp[hk],by lia⟩
  wp_walk using zed ?_ ?_ ?_ (fun i h C=>?_),Va ?_ ?_ ?_ (fun q q0 q1=>?_),zc9 ?_ ?_ ?_ ?_,zc_ ?_ ?_ ?_ ?_ (fun j g C'=>?_)
  all_goals first
   | lia
   | exact zrb
   | exact zif
   | (rw[JP];lia)
   | decide
   | (intro z
      have y:PyData.eqv (.list (pD bs)) (.list [])=false:=by assumption
      rw[zpz]at y;have y2:bs=[]:=by
       have:=congrArg List.length z;rw[JP]at this;exact List.length_eq_zero_iff.mp this
      rw[y2]at y;cases y)
   | exact fin _ _ _ _ _ (by assumption) (by lia)
   | skip
  all_goals
   intro x hx;obtain⟨b,hb,rfl⟩:=List.mem_map.mp hx;refine⟨zjZ,?_⟩;have C0:=B b hb
   wp_walk using zc_ ?_ ?_ ?_ ?_ (fun j g C'=>?_)
   all_goals first
    | lia
    | exact C0
    | (rw[JP];lia)
    | exact fin _ _ _ _ _ (by assumption) (by lia)
 ·rintro ρ m ⟨bs,c4,c5,rfl,B,hk,hm⟩;have el:bs.length<=most.toNat:=by
   rw[hk];unfold J4;simp;lia
  wp_walk
  exact hh bs m B el (by lia)
theorem Vp:FnScope ["_law_hand_here","_law_bits_here","_law_most","_law_found","_law_begin","_law_height"] ["_law_hand_here","_law_bits_here","_law_most"] (Jl (top 39)):=⟨rfl,rfl,rfl,by decide +kernel,rfl,by decide +kernel,by decide +kernel⟩
def zd_:GD:=fun ts n R=>∃bits most:Int,ts=[HAND,.int bits,.int most]/\1<=bits/\bits<=64/\0<=most/\most<64/\n<=1000000000000 - 100000/\∀(bs:qB) (m:Nat),Ptc bits bs->bs.length<=most.toNat->m<=n+1+12*most.toNat->R (.tuple (pD bs)) m
theorem zhR{bits most:Int}{n:Nat}{R:qN}(b0:1<=bits)(b1:bits<=64)(m0:0<=most)(m1:most<64)(hn:n<=1000000000000 - 100000)(h:∀(bs:qB) (m:Nat),Ptc bits bs->bs.length<=most.toNat->m<=n+1+12*most.toNat->R (.tuple (pD bs)) m):zd_ [HAND,.int bits,.int most] n R:=⟨bits,most,rfl,b0,b1,m0,m1,hn,h⟩
def zdZ(Z:ZZ):Prop:=FQ Z "_law_patch" (top 39) ["_law_hand_here","_law_bits_here","_law_most"] 6 (spD Z.K 3 zd_)
theorem zgr(D:Dq Z.K Z.mg "_law_patch" (top 39) ["_law_hand_here","_law_bits_here","_law_most"]) (h__law_blocks:zdm Z) (T:Txt Z.mg):zdZ Z:=by
 refine' okQ D Vp rfl fun f cdv A outer s H E hr=>⟨_,(Jg (YM (i:=3) Vp.nd rfl (Or.inl rfl) (Qg Je)) (Jg (Uj PassesOwn.never rfl (zlY (Ji h__law_blocks hr (Jb (Ja 0) (Jb (Ja 1) (Jb (Ja 2) Je Jc) Jc) Jc))) (J8 rfl (JB (Jp (i:=4) Vp.nd rfl (Or.inr rfl)) (JB (Jp (i:=5) Vp.nd rfl (Or.inr rfl)) Qd))) (Jf (Jz (JR (dl (Jw (Yt rfl) U5 T.all Ys (Jj (dl (JO (QI (own:=["_law_one"]) (capt:=[4,5]) rfl (CompScope.of rfl) (znA (Ui 3)) (fun _ _ _ _=>(Jp (i:=0) (by show(["_law_one","_law_begin","_law_height"]:List Str).Nodup;decide +kernel) rfl (Or.inl rfl))) (by decide) (fun _ _ _ _=>Qk) (fun _ _ _ _=>(zoe (JV QB Qz (dl (JC (dl (Ja 1)) (dl (J1 (dl Jd) (dl (Ja 2)))))) (dl (Jn (dl (Ja 0)) (dl Jd))) (Jm _)) (QF (JV QB Qz (dl (JC (dl (Jn (dl (Ja 0)) (dl Jd))) (dl (J1 (dl Jd) (dl (Jn (dl (Ja 0)) (dl Jd))))))) (dl (Ja 1)) (Jm _)))))))) Jq QJ)))) (Jf (UC 3 (Ju (Jb (Ja 4) (Jb (Ja 5) Je Jc) Jc)))) JH))) (Y8 3 (Jf (Jk (UN ZL ZD T.tup QM (Jj (dl (JO (zhB hr T.srt (dl (Ja 3)) Jc))) Jq JE))))))),?_⟩
 intro ts n R hl hh;obtain⟨bits,most,rfl,b0,b1,m0,m1,hn,hh⟩:=hh
 wp_walk using zgM ?_ ?_ ?_ ?_ ?_ (fun bs m B hlen hm=>?_)
 ·lia
 ·lia
 ·lia
 ·lia
 ·lia
 refine Yk (fun k ρ m'=>m'=m/\∃cs:List (Int×Int),∃c4 c5,ρ=[some (.val HAND),some (.val (.int bits)),some (.val (.int most)),some (.own (pD cs)),c4,c5]/\Bks bits cs/\(cs.Pairwise fun a b=>eB a<=b.1\/eB b<=a.1)/\cs.length<=k) ⟨rfl,[],_,_,rfl,(fun b hb=>nomatch hb),.nil,Nat.le_refl _⟩ ?_ ?_
 ·rintro k t ρ m' K et ⟨rfl,cs,c4,c5,rfl,C,dis,hk⟩ hK;obtain⟨i,h,eb,rfl⟩:=zlg et;have hb:=B _ (List.mem_of_getElem? eb);have h0:0<=h:=hb.1;have h1:h<=bits:=hb.2.1;have hk3:k<64:=by
   have:=(List.getElem?_eq_some_iff.mp eb).1;lia
  wp_walk
  refine UB (D:=prD) (fun b=>.bool (decide (i+2 ^ h.toNat<=b.1)||decide (eB b<=i))) (by lia) ?_ ?_
  ·rintro⟨i',h'⟩ hb' K2 X2 hK2;have hc':=C _ hb';have h0':0<=h':=hc'.1;have h1':h'<=bits:=hc'.2.1
   wp_walk
   ·exact cpow (by lia) (by lia)
   ·have hc:i+2 ^ h.toNat<=i':=by rw[UD]at hc;exact hc
    rw[decide_eq_true hc]at hK2;exact hK2
   ·exact cpow (by lia) (by lia)
   ·have hc:¬i+2 ^ h.toNat<=i':=by rw[UD]at hc;exact hc
    rw[decide_eq_false hc]at hK2;rw[UD];exact hK2
  ·wp_walk using Zj ?_
   ·rw[JP];lia
   ·have al:∀b∈cs,i+2 ^ h.toNat<=b.1\/eB b<=i:=fun b hb=>by
     have:=List.all_eq_true.mp hc b hb;simpa using this
    refine hK _ _ ⟨rfl,cs++[(i,h)],_,_,by rw[<- Z6],C.app hb,?_,by simp;lia⟩
    rw[List.pairwise_append];refine⟨dis,List.pairwise_singleton _ _,fun a ha b hb'=>?_⟩
    cases List.mem_singleton.mp hb';rcases al a ha with z|z
    ·exact .inr z
    ·exact .inl z
   ·exact hK _ _ ⟨rfl,cs,_,_,rfl,C,dis,by lia⟩
 ·rintro ρ m' ⟨rfl,cs,c4,c5,rfl,C,dis,hk⟩;rw[JP]at hk
  wp_walk
  refine zrk b1 C dis (by lia) fun es P pm=>?_
  wp_walk
  exact hh es _ P (by have:=pm.length_eq;lia) (by lia)
theorem zgb:FnScope ["_law_thing"] ["_law_thing"] (Jl (top 40)):=⟨rfl,rfl,rfl,by decide +kernel,rfl,by decide +kernel,by decide +kernel⟩
def zcx:GD:=fun ts n R=>∃i:Int,ts=[.int i]/\R (.bool (decide (0<=i))) n
theorem zhQ{i:Int}{n:Nat}{R:qN}(h:R (.bool (decide (0<=i))) n):zcx [.int i] n R:=⟨i,rfl,h⟩
def zdY(Z:ZZ):Prop:=FQ Z "_law_whole" (top 40) ["_law_thing"] 1 (spD Z.K 1 zcx)
theorem zgq(D:Dq Z.K Z.mg "_law_whole" (top 40) ["_law_thing"]) (T:Txt Z.mg):zdY Z:=by
 refine' okQ D zgb rfl fun f cdv A outer s H E hr=>⟨_,(Jf (Jk (Qt (QH zn9 T.isi T.int boot_int (dl (Ja 0)) Jc) (Qt (zl3 (QH ziQ T.isi T.boo zdQ (dl (Ja 0)) Jc)) (QF (JV Z0 gp_B (dl (Ja 0)) (dl Jd) (Jm _))))))),?_⟩
 intro ts n R hl h;obtain⟨i,rfl,h⟩:=h
 wp_walk
 exact h
theorem zcQ:FnScope ["_law_bits_here","_law_thing","_law_block_here"] ["_law_bits_here","_law_thing"] (Jl (top 41)):=⟨rfl,rfl,rfl,by decide +kernel,rfl,by decide +kernel,by decide +kernel⟩
def zdu:GD:=fun ts n R=>∃(bits:Int) (q:(Int×Int)×(Int×Int)),ts=[.int bits,rwD q]/\0<=bits/\bits<=64/\RwOk bits q/\R (.bool true) n
theorem zgL{bits:Int}{q:(Int×Int)×(Int×Int)}{n:Nat}{R:qN}(b0:0<=bits)(b1:bits<=64)(ok:RwOk bits q)(h:R (.bool true) n):zdu [.int bits,rwD q] n R:=⟨bits,q,rfl,b0,b1,ok,h⟩
def zdl(Z:ZZ):Prop:=FQ Z "_law_is_row" (top 41) ["_law_bits_here","_law_thing"] 2 (spD Z.K 2 zdu)
theorem zfe(D:Dq Z.K Z.mg "_law_is_row" (top 41) ["_law_bits_here","_law_thing"]) (h__law_whole:zdY Z) (T:Txt Z.mg):zdl Z:=by
 refine' okQ D zcQ rfl fun f cdv A outer s H E hr=>⟨_,(Jg (Jz (JS (J3 (J9 (JR (dl (QH YY T.isi T.tup QM (dl (Ja 1)) Jc)))) (J3 (Jt (QT hr) QP (dl (Jw Qp Qm T.len J6 (Jj (dl (Ja 1)) Jq Jc))) (dl Jd) (Jm _)) (Qh (J9 (JR (dl (Jw (Yt rfl) U5 T.all Ys (Jj (dl (JO (QI (own:=["_law_one"]) (capt:=[]) rfl (CompScope.of rfl) (dil (QR (ZH (dl (Ja 1)) (ZA Jd) Zz))) (fun _ _ _ _=>(Jp (i:=0) (by show(["_law_one"]:List Str).Nodup;decide +kernel) rfl (Or.inl rfl))) (by decide) (fun _ _ _ _=>Qk) (fun _ _ _ _=>(Ji h__law_whole hr (Jb (Ja 0) Je Jc)))))) Jq QJ))))))))) (Jf (Jk JZ)) JH) (Jg (Jr (i:=2) zcQ.nd rfl (Or.inl rfl) (Jn (dl (Ja 1)) (dl Jd))) (Jg (Jz (JS (J3 (J9 (JR (dl (QH YY T.isi T.tup QM (dl (Ja 2)) Jc)))) (J3 (Jt (QT hr) QP (dl (Jw Qp Qm T.len J6 (Jj (dl (Ja 2)) Jq Jc))) (dl Jd) (Jm _)) (Qh (J9 (JR (dl (Jw (Yt rfl) U5 T.all Ys (Jj (dl (JO (QI (own:=["_law_one"]) (capt:=[]) rfl (CompScope.of rfl) (dil (QR (Ja 2))) (fun _ _ _ _=>(Jp (i:=0) (by show(["_law_one"]:List Str).Nodup;decide +kernel) rfl (Or.inl rfl))) (by decide) (fun _ _ _ _=>Qk) (fun _ _ _ _=>(Ji h__law_whole hr (Jb (Ja 0) Je Jc)))))) Jq QJ))))))))) (Jf (Jk JZ)) JH) (Jf (Jk (Qt (JV QB Qz (dl (Jn (dl (Ja 2)) (dl Jd))) (dl (Ja 0)) (Jm _)) (Qt (JV (Qo hr) Qn (dl (Jn (dl (Ja 2)) (dl Jd))) (dl (J1 (dl Jd) (dl (Ja 0)))) (Jm _)) (QF (JV (QA hr) Qy (dl (zl5 (dl (Jn (dl (Ja 2)) (dl Jd))) (dl (J1 (dl Jd) (dl (Jn (dl (Ja 2)) (dl Jd))))))) (dl Jd) (Jm _)))))))))),?_⟩
 intro ts n R hl h;obtain⟨bits,⟨⟨i,g⟩,⟨a,c⟩⟩,rfl,b0,b1,ok,h⟩:=h;rw[show rwD ((i,g),(a,c))=.tuple [.tuple [.int i,.int g],.int a,.int c] from rfl]
 have bk:=zeT (b:=i) (h:=g) b0|>.mpr ok.1
 rw[zeU,decide_eq_true_eq]at bk;have a0:0<=a:=ok.2.1;have c0:0<=c:=ok.2.2;have two:∀{x y:Int} {ρ0:En} {R:List PyData->Nat->Prop},ρ0=[none]->0<=x->0<=y->R [.bool true,.bool true] n->JM (Qi 0) dYes (dFn zcx (Qq (dVar 0) dNil)) ρ0 [PyData.int x,PyData.int y] [] n R:=fun {x y ρ0 R} e x0 y0 h=>by
  subst e;refine UB (cs:=[x,y]) (D:=PyData.int) (fun _=>.bool true) (by simp) ?_ h
  intro b hb K X hK;have b0:0<=b:=by
   rcases List.mem_cons.mp hb with rfl|hb
   ·exact x0
   ·cases List.mem_singleton.mp hb;exact y0
  wp_walk using zhQ ?_
  rw[decide_eq_true b0];exact hK
 wp_walk
 ·rw[show cutD [PyData.tuple [PyData.int i,PyData.int g],PyData.int a,PyData.int c] (some 1) none=[PyData.int a,PyData.int c] from rfl]
  have tp:=QL g.toNat
  wp_walk using two rfl a0 c0 ?_,two rfl bk.2.2.1 bk.1 ?_
  all_goals first
   | exact cpow b0 (by lia)
   | exact cpow bk.1 (by lia)
   | exact absurd hc (by decide)
   | exact absurd rfl hc
   | exact absurd bk.2.1 hc
   | (rw[Int.one_mul]at hc;exact absurd bk.2.2.2.1 hc)
   | (rw[Int.one_mul];exact tp)
   | (rw[Int.one_mul,decide_eq_true bk.2.2.2.2];exact h)
 ·exact absurd rfl hc
theorem zdS:FnScope ["_law_patch_here","_law_begin","_law_height","_law_end"] ["_law_patch_here","_law_begin","_law_height"] (Jl (top 42)):=⟨rfl,rfl,rfl,by decide +kernel,rfl,by decide +kernel,by decide +kernel⟩
def ze1:GD:=fun ts n R=>∃(bs:BL) (b:Int×Int),ts=[.tuple (pD bs),.int b.1,.int b.2]/\0<=b.2/\b.2<=64/\(∀p∈bs,0<=p.2/\p.2<=64)/\bs.length<=1000/\R (.int (bs.map (ovD b)).sum) n
theorem zi0{bs:BL}{b:Int×Int}{n:Nat}{R:qN}(g0:0<=b.2)(g1:b.2<=64)(hb:∀p∈bs,0<=p.2/\p.2<=64)(lb:bs.length<=1000)(h:R (.int (bs.map (ovD b)).sum) n):ze1 [.tuple (pD bs),.int b.1,.int b.2] n R:=⟨bs,b,rfl,g0,g1,hb,lb,h⟩
def zey(Z:ZZ):Prop:=FQ Z "_law_held" (top 42) ["_law_patch_here","_law_begin","_law_height"] 1 (spD Z.K 3 ze1)
theorem zhb(D:Dq Z.K Z.mg "_law_held" (top 42) ["_law_patch_here","_law_begin","_law_height"]) (T:Txt Z.mg):zey Z:=by
 refine' okQ D zdS rfl fun f cdv A outer s H E hr=>⟨_,(Jg (Jr (i:=3) zdS.nd rfl (Or.inr rfl) (JC (dl (Ja 1)) (dl (J1 (dl Jd) (dl (Ja 2)))))) (Jf (Jk (Jw (zmg rfl) zr0 T.sum zml (Jj (dl (JO (QI (own:=["_law_one"]) (capt:=[3,1]) rfl (CompScope.of rfl) (dil (QR (Ja 0))) (fun _ _ _ _=>(Jp (i:=0) (by show(["_law_one","_law_end","_law_begin"]:List Str).Nodup;decide +kernel) rfl (Or.inl rfl))) (by decide) (fun _ _ _ _=>Qk) (fun _ _ _ _=>(Jw (Uz rfl) Um T.max Ux (Jj (dl Jd) (Jj (dl (Qr (dl (Jw (UA rfl) Uo T.min Uy (Jj (dl (Ja 1)) (Jj (dl (JC (dl (Jn (dl (Ja 0)) (dl Jd))) (dl (J1 (dl Jd) (dl (Jn (dl (Ja 0)) (dl Jd))))))) Jq JG) Jc))) (dl (Jw (Uz rfl) Um T.max Ux (Jj (dl (Ja 2)) (Jj (dl (Jn (dl (Ja 0)) (dl Jd))) Jq Uk) Jc))))) Jq JG) Jo)))))) Jq QJ))))),?_⟩
 intro ts n R hl h;obtain⟨bs,⟨i,g⟩,rfl,g0,g1,hb,lb,h⟩:=h
 wp_walk
 ·exact cpow g0 (by have:g<=64:=g1;lia)
 ·refine UB (cs:=bs) (D:=prD) (fun p=>.int (ovD (i,g) p)) (by lia) ?_ ?_
  ·rintro⟨j,k⟩ hp K X hK;have k0:=hb _ hp
   wp_walk
   ·exact cpow k0.1 (by have:k<=64:=k0.2;lia)
   ·rw[zqX]at hK;exact hK
  ·wp_walk using zuf (f:=ovD (i,g)) ?_
   exact h
theorem Qv:FnScope ["_law_bits_here","_law_patch_here","_law_many","_law_thing","_law_known","_law_begin","_law_height","_law_a","_law_b","_law_held_here","_law_most","_law_lower","_law_upper","_law_keep","_law_turn"] ["_law_bits_here","_law_patch_here","_law_many","_law_thing"] (Jl (top 43)):=⟨rfl,rfl,rfl,by decide +kernel,rfl,by decide +kernel,by decide +kernel⟩
def zdN:GD:=fun ts n R=>∃(bits:Int) (bs ps:BL) (many:Int) (qs:PR),ts=[.int bits,.tuple (pD bs),.int many,.tuple (qs.map rwD)]/\0<=bits/\bits<=64/\Ptc bits bs/\bs.length<=1000/\CanP (fun x=>mB x bs) ps/\(∀q∈qs,RwOk bits q)/\qs.length<=100000/\0<=many/\∀b:Bool,(b=true↔QE bits ps many (.tuple (qs.map rwD)))->R (.bool b) n
theorem zkn{bits:Int}{bs ps:BL}{many:Int}{qs:PR}{n:Nat}{R:qN}(b0:0<=bits)(b1:bits<=64)(P:Ptc bits bs)(lb:bs.length<=1000)(C:CanP (fun x=>mB x bs) ps)(ok:∀q∈qs,RwOk bits q)(lq:qs.length<=100000)(m0:0<=many)(h:∀b:Bool,(b=true↔QE bits ps many (.tuple (qs.map rwD)))->R (.bool b) n):zdN [.int bits,.tuple (pD bs),.int many,.tuple (qs.map rwD)] n R:=⟨bits,bs,ps,many,qs,rfl,b0,b1,P,lb,C,ok,lq,m0,h⟩
def zfJ(Z:ZZ):Prop:=FQ Z "_law_due" (top 43) ["_law_bits_here","_law_patch_here","_law_many","_law_thing"] 3 (spD Z.K 4 zdN)
theorem ziq(D:Dq Z.K Z.mg "_law_due" (top 43) ["_law_bits_here","_law_patch_here","_law_many","_law_thing"]) (h__law_held:zey Z) (h__law_is_row:zdl Z) (T:Txt Z.mg):zfJ Z:=by
 refine' okQ D Qv rfl fun f cdv A outer s H E hr=>⟨_,(Jg (Jz (JS (J3 (J9 (JR (dl (QH YY T.isi T.tup QM (dl (Ja 3)) Jc)))) (Qh (J9 (JR (dl (Jw (Yt rfl) U5 T.all Ys (Jj (dl (JO (QI (own:=["_law_row"]) (capt:=[0]) rfl (CompScope.of rfl) (dil (QR (Ja 3))) (fun _ _ _ _=>(Jp (i:=0) (by show(["_law_row","_law_bits_here"]:List Str).Nodup;decide +kernel) rfl (Or.inl rfl))) (by decide) (fun _ _ _ _=>Qk) (fun _ _ _ _=>(Ji h__law_is_row hr (Jb (Ja 1) (Jb (Ja 0) Je Jc) Jc)))))) Jq QJ)))))))) (Jf (Jk JZ)) JH) (Jg (Jr (i:=4) Qv.nd rfl (Or.inl rfl) (znC rfl hr.units T.dct (QI (own:=["_law_block_here","_law_a","_law_b"]) (capt:=[]) rfl (CompScope.of rfl) (dil (QR (Ja 3))) (fun _ _ _ _=>(J8 rfl (JB (Jp (i:=0) (by show(["_law_block_here","_law_a","_law_b"]:List Str).Nodup;decide +kernel) rfl (Or.inl rfl)) (JB (Jp (i:=1) (by show(["_law_block_here","_law_a","_law_b"]:List Str).Nodup;decide +kernel) rfl (Or.inl rfl)) (JB (Jp (i:=2) (by show(["_law_block_here","_law_a","_law_b"]:List Str).Nodup;decide +kernel) rfl (Or.inl rfl)) Qd))))) (by decide) (fun _ _ _ _=>Qk) (fun _ _ _ _=>(Ju (Jb (Ja 0) (Jb (Ju (Jb (Ja 1) (Jb (Ja 2) Je Jc) Jc)) Je zf_) Jc)))))) (Jg (Jz (JS (J3 (Jt (QT hr) QP (dl (Jw zhK zlQ T.len J6 (Jj (dl (Ja 4)) Jq Jc))) (dl (Jw Qp Qm T.len J6 (Jj (dl (Ja 3)) Jq Jc))) (Jm _)) (Qh (Jt (Qo hr) Qn (dl (Jn (dl (zpJ (JW hr) (Ja 4) (Ju (Jb Jd (Jb (Ja 0) Je Jc) Jo)) (Ju (Jb (Yj Jd) (Jb Jd Je Jo) zoo)))) (dl Jd))) (dl (Ja 2)) (Jm _))))) (Jf (Jk JZ)) JH) (Jg (Uj PassesOwn.never rfl (ziR (Ja 4)) (J8 rfl (JB (Jp (i:=5) Qv.nd rfl (Or.inl rfl)) (JB (Jp (i:=6) Qv.nd rfl (Or.inl rfl)) Qd))) (Jg (QS (QQ (JW hr) (dl (Ja 4)) (dl (Ju (Jb (Ja 5) (Jb (Ja 6) Je Jc) Jc)))) (J8 rfl (JB (Jp (i:=7) Qv.nd rfl (Or.inl rfl)) (JB (Jp (i:=8) Qv.nd rfl (Or.inl rfl)) Qd)))) (Jg (Jr (i:=9) Qv.nd rfl (Or.inl rfl) (Ji h__law_held hr (Jb (Ja 1) (Jb (Ja 5) (Jb (Ja 6) Je Jc) Jc) Jc))) (Jg (Jr (i:=10) Qv.nd rfl (Or.inl rfl) (JO (Qg (Jb (UN ze9 zn_ T.int boot_int (Jj (dl (JV UM gp_B (dl (Ja 9)) (dl Jd) (Jm _))) Jq znS)) (Jb (UN ze9 zn_ T.int boot_int (Jj (dl (JV (QA hr) Qy (dl (Ja 9)) (dl Jd) (Jm _))) Jq znS)) Je JE) JE)))) (Jg (Jz (zny (Qo hr) Qn (Qo hr) Qn (dl Jd) (dl (Ja 9)) (dl (J1 (dl Jd) (dl (Ja 6))))) (Jg (Jr (i:=11) Qv.nd rfl (Or.inl rfl) (zl6 (JW hr) (Ja 4) (Ju (Jb (Ja 5) (Jb (Qr (dl (Ja 6)) (dl Jd)) Je JG) Jc)))) (Jg (Jr (i:=12) Qv.nd rfl (Or.inl rfl) (zl6 (JW hr) (Ja 4) (Ju (Jb (JC (dl (Ja 5)) (dl (ziS (dl (J1 (dl Jd) (dl (Ja 6)))) (dl Jd)))) (Jb (Qr (dl (Ja 6)) (dl Jd)) Je JG) JG)))) (Jg (Jz (JS (J3 (Jt Z1 ZQ (dl (Ja 11)) (dl Uh) (Jm _)) (Qh (Jt Z1 ZQ (dl (Ja 12)) (dl Uh) (Jm _))))) (Jf (Jk JZ)) JH) (Jg (zlW (i:=13) (j:=14) rfl Qv.nd rfl rfl (by decide) rfl rfl (Jb (JC (dl (Jn (dl (Ja 11)) (dl Jd))) (dl (Jn (dl (Ja 12)) (dl Jd)))) (Jb (JC (dl (Jn (dl (Ja 11)) (dl Jd))) (dl (Jn (dl (Ja 12)) (dl Jd)))) Je JG) JG)) (Jf (Jr (i:=10) Qv.nd rfl (Or.inl rfl) (JO (Qg (Jb (Jw (UA rfl) Uo T.min Uy (Jj (dl (Ja 13)) (Jj (dl (JC (dl (Ja 14)) (dl Jd))) Jq JG) Jc)) (Jb (Jw (UA rfl) Uo T.min Uy (Jj (dl (Ja 14)) (Jj (dl (JC (dl (Ja 13)) (dl Jd))) Jq JG) Jc)) Je JE) JE))))))))) JH) (Jf (Jz (JS (J3 (Jt UM gp_B (dl (Ja 7)) (dl (Jn (dl (Ja 10)) (dl Jd))) (Jm _)) (Qh (Jt UM gp_B (dl (Ja 8)) (dl (Jn (dl (Ja 10)) (dl Jd))) (Jm _))))) (Jf (Jk JZ)) JH))))))) (Jf (Jk JZ)))))),?_⟩
 intro ts n R hl hh;obtain⟨bits,bs,ps,many,qs,rfl,b0,b1,P,lb,C,ok,lq,m0,h⟩:=hh;have no:(¬QE bits ps many (.tuple (qs.map rwD)))->R (.bool false) n:=fun z=>h false ⟨(fun y=>by cases y),fun y=>absurd y z⟩
 wp_walk
 refine UB (cs:=qs) (D:=rwD) (fun _=>.bool true) (by lia) ?_ ?_
 ·intro q hq K2 X2 hK2
  wp_walk using zgL b0 b1 (ok q hq) ?_
  exact hK2
 ·wp_walk using Zj (f:=fun _=>true) ?_
  ·refine UB (cs:=qs) (D:=rwD) (fun q=>.tuple [.tuple [.int q.1.1,.int q.1.2],twoD q.2]) (by lia) ?_ ?_
   ·intro q hq K2 X2 hK2;rw[rwD]
    wp_walk
    exact hK2
   ·refine⟨prK qs,by simp[prK,prT],?_⟩
    by_cases nd:(qs.map (·.1)).Nodup
    ·have ef:mkT (prK qs)=prK qs:=by
      have:=Vc (qs:=qs) (acc:=[]) (by simpa using nd)
      refine Eq.trans ?_ this;unfold mkT Qf prK;rw[List.foldl_map];rfl
     rw[ef];cases ev:valP qs (0,bits) with
     | none =>
      have gt:(valT (prK qs) (0,bits)).getD (.tuple [.int (-1),.int 0])=.tuple [.int (-1),.int 0]:=by rw[Qe,ev];rfl
      have key:=no fun⟨ls,e,_,_,⟨v,hv,_⟩,_⟩=>by
       rw[Uv (PyData.tuple.inj e),hv]at ev;cases ev
      wp_walk using YN ?_
      ·rw[gt]
       wp_walk
       ·exact key
       ·lia
      ·exact key
     | some v =>
      have gt:(valT (prK qs) (0,bits)).getD (.tuple [.int (-1),.int 0])=.tuple [.int v.1,.int v.2]:=by rw[Qe,ev];rfl
      wp_walk using YN ?_
      ·rw[gt]
       wp_walk
       ·exact no fun⟨ls,e,_,_,⟨v',hv,hm⟩,_⟩=>by
         rw[<- Uv (PyData.tuple.inj e),ev]at hv;cases hv;lia
       ·refine⟨prK qs,rfl,?_⟩;have e:(prK qs).map (fun q=>L2.blkT q.1)=qs.map fun q=>L2.blkT q.1:=by simp[prK]
        rw[e];have hb:∀p∈bs,0<=p.2/\p.2<=64:=fun p hp=>⟨(P.1 p hp).1,by have:=(P.1 p hp).2.1;lia⟩
        have bad:∀q∈qs,¬Rg ps qs q->R (.bool false) n:=fun q hq z=>no fun⟨ls,e,_,_,_,r⟩=>by
         have el:=Uv (PyData.tuple.inj e);subst el;exact z (r q hq)
        refine zpy 5 6 7 8 9 10 11 12 13 14 (fun k _ _ _ _ _ _ _ _ _ _ m=>m=n/\∀j q,j<k->qs[j]?=some q->Rg ps qs q) ⟨rfl,fun j q hj=>by lia⟩ ?_ ?_
        ·rintro k t _ _ _ _ _ _ _ _ _ _ m K RT BK et ⟨rfl,I⟩ hK hRT hBK;rw[List.getElem?_map]at et;obtain⟨q,hq,rfl⟩:=Option.map_eq_some_iff.mp et;have mq:=List.mem_of_getElem? hq;have Bq:=(ok q mq).1;have vq:=zh0 nd mq;have vt:valT (prK qs) q.1=some (.tuple [.int q.2.1,.int q.2.2]):=by rw[Qe,vq];rfl
         have g0:=Bq.1;have g1:q.1.2<=64:=by have:=Bq.2.1;lia
         have hno:=zps (b:=q.1) C;obtain⟨hle,hal⟩:=zns b0 P C Bq;have hnn:0<=(bs.map (ovD q.1)).sum:=zoU;have sz:eB q.1 - q.1.1=2 ^ q.1.2.toNat:=by unfold eB;lia
         rw[sz]at hle hal;have tp:=QL q.1.2.toNat;have nxt:Rg ps qs q->∀j q',j<k+1->qs[j]?=some q'->Rg ps qs q':=fun z j q' hj hq'=>by
          by_cases e:j=k
          ·subst e;rw[hq]at hq';cases hq';exact z
          ·exact I j q' (by lia) hq'
         have gn:∀k,isNone ((valT (prK qs) k).getD .none)=true->valP qs k=none:=fun k hk=>by
          cases e:valP qs k with
          | none=>rfl
          | some x=>rw[Qe,e]at hk;cases hk
         have gs:∀k,isNone ((valT (prK qs) k).getD .none)=false->∃x,valP qs k=some x/\(valT (prK qs) k).getD .none=.tuple [.int x.1,.int x.2]:=fun k hk=>by
          cases e:valP qs k with
          | none=>rw[Qe,e]at hk;cases hk
          | some x=>exact⟨x,rfl,by rw[Qe,e];rfl⟩
         generalize hS:(bs.map (ovD q.1)).sum=S at hno hle hal hnn;have eup:0<S->S<1*2 ^ q.1.2.toNat->(q.1.1+1*2 ^ q.1.2.toNat / 2,q.1.2 - 1)=upH q.1:=fun s0 s1=>by
          have h1:1<=q.1.2:=by
           by_cases z:q.1.2=0
           ·rw[z]at s1;have:S<1:=s1;lia
           ·lia
          rw[up_eq Bq h1,YX (b:=q.1) h1];congr 1;lia
         have nN:0<S->¬HasN ps q.1:=fun s0 z=>by have:=hno.mpr z;lia
         have nA:S<1*2 ^ q.1.2.toNat->¬HasA ps q.1:=fun s1 z=>by have:=hal.mpr z;lia
         have yA:¬S<1*2 ^ q.1.2.toNat->HasA ps q.1:=fun s1=>hal.mp (by lia)
         have yN:¬0<S->HasN ps q.1:=fun s0=>hno.mp (by lia)
         rw[L2.blkT]
         wp_walk using UP vt ?_,zi0 g0 g1 hb lb ?_
         all_goals try rw[hS]at *
         ·exact cpow g0 (by lia)
         ·exact cpow g0 (by lia)
         ·exact zpP
         ·rename_i s0 s1;exact hRT _ _ (bad q mq (znX (nN s0) (nA s1) (.inl (gn _ hc))))
         ·rename_i s0 s1 h1;rw[eup s0 s1]at hc;exact hRT _ _ (bad q mq (znX (nN s0) (nA s1) (.inr (gn _ hc))))
         ·rename_i s0 s1 h1;have eu:=eup s0 s1;rw[eu]at hc;obtain⟨x,x1,x2⟩:=gs _ h1;obtain⟨y,y1,y2⟩:=gs _ hc;have rk:=zoy (q:=q) (nN s0) (nA s1) x1 y1;rw[eu,x2,y2]
          wp_walk
          ·exact hRT _ _ (bad q mq fun z=>absurd (rk.mp z).1 (Int.not_le.mpr hc))
          ·exact hRT _ _ (bad q mq fun z=>absurd (rk.mp z).2 (Int.not_le.mpr hc))
          ·rename_i h2;exact hK _ _ _ _ _ _ _ _ _ _ _ ⟨rfl,nxt (rk.mpr ⟨Int.not_lt.mp h2,Int.not_lt.mp hc⟩)⟩
         ·rename_i s0 s1;rw[decide_eq_true s0]at hc;exact hRT _ _ (bad q mq fun z=>by have:=((zkU (nN s0) (yA s1)).mp z).1;simp at hc;lia)
         ·rename_i s0 s1 h1;rw[decide_eq_false (show ¬S=0 by lia)]at hc
          exact hRT _ _ (bad q mq fun z=>by have:=((zkU (nN s0) (yA s1)).mp z).2;simp at hc;lia)
         ·rename_i s0 s1 h1;rw[decide_eq_true s0]at h1;rw[decide_eq_false (show ¬S=0 by lia)]at hc
          simp at h1 hc;exact hK _ _ _ _ _ _ _ _ _ _ _ ⟨rfl,nxt ((zkU (nN s0) (yA s1)).mpr ⟨by lia,by lia⟩)⟩
         ·rename_i s0;rw[decide_eq_false s0]at hc;exact hRT _ _ (bad q mq fun z=>by have:=((zox (yN s0)).mp z).1;simp at hc;lia)
         ·rename_i s0 h1;rw[decide_eq_true (show S=0 by lia)]at hc
          exact hRT _ _ (bad q mq fun z=>by have:=((zox (yN s0)).mp z).2;simp at hc;lia)
         ·rename_i s0 h1;rw[decide_eq_false s0]at h1;rw[decide_eq_true (show S=0 by lia)]at hc
          simp at h1 hc;exact hK _ _ _ _ _ _ _ _ _ _ _ ⟨rfl,nxt ((zox (yN s0)).mpr ⟨by lia,by lia⟩)⟩
        ·rintro _ _ _ _ _ _ _ _ _ _ m ⟨rfl,I⟩
         wp_walk
         refine h true ⟨fun _=>⟨qs,rfl,ok,nd,⟨v,ev,by lia⟩,fun q hq=>?_⟩,fun _=>rfl⟩
         obtain⟨j,hj⟩:=List.mem_iff_getElem?.mp hq;exact I j q (by rw[List.length_map];exact(List.getElem?_eq_some_iff.mp hj).1) hj
      ·exact absurd (by rw[prK,List.length_map,List.length_map]) hc
    ·have key:=no fun⟨ls,e,_,nd',_⟩=>by
      rw[<- Uv (PyData.tuple.inj e)]at nd';exact nd nd'
     have ef:(mkT (prK qs)).length≠qs.length:=fun z=>nd (zjA.mp (by
      rw[<- z];unfold mkT Qf prK;rw[List.foldl_map]))
     generalize mkT (prK qs)=ks at ef ⊢
     wp_walk using YN ?_
     ·rw[List.length_map]at hc;exact absurd (Int.ofNat.inj hc) ef
     ·exact key
  ·exact absurd hc (by simp)
theorem QK:FnScope ["_law_hand_here","_law_bits_here","_law_paper","_law_at","_law_way","_law_block_here","_law_a","_law_b","_law_rest","_law_row"] ["_law_hand_here","_law_bits_here","_law_paper"] (Jl (top 44)):=⟨rfl,rfl,rfl,by decide +kernel,rfl,by decide +kernel,by decide +kernel⟩
def RwT(bits:Int)(t:PyData):Prop:=∃q,t=rwD q/\RwOk bits q
theorem zi7{bits:Int}:∀{us:qD},(∀t∈us,RwT bits t)->∃ls:PR,us=ls.map rwD/\∀q∈ls,RwOk bits q
 | [],_=>⟨[],rfl,(fun q h=>nomatch h)⟩
 | t::us,h=>by
  obtain⟨q,e,ok⟩:=h t (.head _);obtain⟨ls,e2,ok2⟩:=zi7 (us:=us) fun t ht=>h t (.tail _ ht)
  refine⟨q::ls,by rw[e,e2];rfl,fun x hx=>?_⟩
  rcases List.mem_cons.mp hx with rfl|hx
  ·exact ok
  ·exact ok2 x hx
def zck:GD:=fun ts n R=>∃(bits:Int) (qs:PR),ts=[HAND,.int bits,.tuple (qs.map rwD)]/\1<=bits/\bits<=64/\(∀q∈qs,RwOk bits q)/\qs≠[]/\qs.length<=50000/\n<=1000000000000 - 100000/\∀(ls:PR) (m:Nat),(∀q∈ls,RwOk bits q)->ls.length<=2*qs.length+2->m<=n+20->R (.tuple (ls.map rwD)) m
theorem zeg{bits:Int}{qs:PR}{n:Nat}{R:qN}(b0:1<=bits)(b1:bits<=64)(ok:∀q∈qs,RwOk bits q)(ne:qs≠[])(lq:qs.length<=50000)(hn:n<=1000000000000 - 100000)(h:∀(ls:PR) (m:Nat),(∀q∈ls,RwOk bits q)->ls.length<=2*qs.length+2->m<=n+20->R (.tuple (ls.map rwD)) m):zck [HAND,.int bits,.tuple (qs.map rwD)] n R:=⟨bits,qs,rfl,b0,b1,ok,ne,lq,hn,h⟩
def zcj(Z:ZZ):Prop:=FQ Z "_law_otherwise" (top 44) ["_law_hand_here","_law_bits_here","_law_paper"] 5 (spD Z.K 3 zck)
theorem zdJ(D:Dq Z.K Z.mg "_law_otherwise" (top 44) ["_law_hand_here","_law_bits_here","_law_paper"]) (h__law_take:Y5 Z) (h__law_near:zc3 Z) (T:Txt Z.mg):zcj Z:=by
 refine' okQ D QK rfl fun f cdv A outer s H E hr=>⟨_,(Jg (zlW (i:=3) (j:=4) rfl QK.nd rfl rfl (by decide) rfl rfl (Jb (Ji h__law_take hr (Jb (Ja 0) (Jb (Jw Qp Qm T.len J6 (Jj (dl (Ja 2)) Jq Jc)) Je JE) Jc)) (Jb (Ji h__law_take hr (Jb (Ja 0) (Jb Jd Je Jo) Jc)) Je JE) JE)) (Jg (QS (Jn (dl (Ja 2)) (dl (Ja 3))) (J8 rfl (JB (Jp (i:=5) QK.nd rfl (Or.inl rfl)) (JB (Jp (i:=6) QK.nd rfl (Or.inl rfl)) (JB (Jp (i:=7) QK.nd rfl (Or.inl rfl)) Qd))))) (Jg (Jr (i:=8) QK.nd rfl (Or.inl rfl) (JC (dl (ZH (dl (Ja 2)) Zz (ZA (Ja 3)))) (dl (ZH (dl (Ja 2)) (ZA (JC (dl (Ja 3)) (dl Jd))) Zz)))) (Jg (Jr (i:=9) QK.nd rfl (Or.inl rfl) (Ju (Jb (Ja 5) (Jb (Ja 6) (Jb (Ja 7) Je Jc) Jc) Jc))) (Jg (Jz (Jt (Qo hr) Qn (dl (Ja 4)) (dl Jd) (Jm _)) (Jf (Jr (i:=9) QK.nd rfl (Or.inl rfl) (Ju (Jb (Ja 5) (Jb (Jw (Uz rfl) Um T.max Ux (Jj (dl Jd) (Jj (dl (JC (dl (Ja 6)) (dl (Jn (dl (JO (Qg (Jb Jd (Jb (Yj Jd) (Jb Jd Je Jo) zoo) Jo)))) (dl (Ji h__law_take hr (Jb (Ja 0) (Jb Jd Je Jo) Jc))))))) Jq JG) Jo)) (Jb (Ja 7) Je Jc) JE) Jc)))) (Jf (Jz (Jt (QA hr) Qy (dl (Ja 4)) (dl Jd) (Jm _)) (Jf (Jr (i:=9) QK.nd rfl (Or.inl rfl) (Ju (Jb (Ja 5) (Jb (Ja 6) (Jb (Jw (Uz rfl) Um T.max Ux (Jj (dl Jd) (Jj (dl (JC (dl (Ja 7)) (dl (Jn (dl (JO (Qg (Jb Jd (Jb (Yj Jd) (Jb Jd Je Jo) zoo) Jo)))) (dl (Ji h__law_take hr (Jb (Ja 0) (Jb Jd Je Jo) Jc))))))) Jq JG) Jo)) Je JE) Jc) Jc)))) (Jf (Jz (Jt (QA hr) Qy (dl (Ja 4)) (dl Jd) (Jm _)) (Jf (Jr (i:=9) QK.nd rfl (Or.inl rfl) (Ju (Jb (Ja 5) (Jb (Ja 7) (Jb (Ja 6) Je Jc) Jc) Jc)))) (Jf (Jz (Jt (QA hr) Qy (dl (Ja 4)) (dl Jd) (Jm _)) (Jf (Jr (i:=9) QK.nd rfl (Or.inl rfl) (Ju (Jb (Ji h__law_near hr (Jb (Ja 0) (Jb (Ja 1) (Jb (Ja 5) Je Jc) Jc) Jc)) (Jb (Ja 6) (Jb (Ja 7) Je Jc) Jc) JE)))) (Jf (Jz (Jt (QA hr) Qy (dl (Ja 4)) (dl Jd) (Jm _)) (Jf (Jk (Ja 8))) (Jf (Jz (Jt (QA hr) Qy (dl (Ja 4)) (dl Jd) (Jm _)) (Jf (Jk (JC (dl (Ja 8)) (dl (zpI (dl (Ju (Jb (Ja 9) Je Jc))) (dl (JC (dl Jd) (dl (Ji h__law_take hr (Jb (Ja 0) (Jb Jd Je Jo) Jc)))))))))) (Jf (Jk (UN ZL ZD T.tup QM (Jj (dl (JO (QI (own:=["_law_one"]) (capt:=[1]) rfl (CompScope.of rfl) (dil (QR (Ja 2))) (fun _ _ _ _=>(Jp (i:=0) (by show(["_law_one","_law_bits_here"]:List Str).Nodup;decide +kernel) rfl (Or.inl rfl))) (by decide) (fun _ _ _ _=>(zpB (Jt (QT hr) QP (dl (Jn (dl (Ja 0)) (dl Jd))) (dl (Ju (Jb Jd (Jb (Ja 1) Je Jc) Jo))) (Jm _)))) (fun _ _ _ _=>(Ja 0))))) Jq QJ))))))))))))))) (Jf (Jk (JC (dl (JC (dl (ZH (dl (Ja 2)) Zz (ZA (Ja 3)))) (dl (Ju (Jb (Ja 9) Je Jc))))) (dl (ZH (dl (Ja 2)) (ZA (JC (dl (Ja 3)) (dl Jd))) Zz)))))))))),?_⟩
 intro ts n R hl hh;obtain⟨bits,qs,rfl,b0,b1,ok,ne,lq,hn,h⟩:=hh;have lp:=List.length_pos_iff.mpr ne;have lm:(qs.map rwD).length=qs.length:=List.length_map _;have fin:∀(us:qD) (m:Nat),(∀t∈us,RwT bits t)->us.length<=2*qs.length+2->m<=n+20->R (.tuple us) m:=fun us m hu lu hm=>by
  obtain⟨ls,e,ok2⟩:=zi7 hu;subst e;exact h ls m ok2 (by rw[List.length_map]at lu;exact lu) hm
 have ix:∀(r:Int) (P:PyData->Prop),0<=r->r<(qs.map rwD).length->(∀i g a c,IsBk bits i g->0<=a->0<=c->P (.tuple [.tuple [.int i,.int g],.int a,.int c]))->oIx (.tuple (qs.map rwD)) (.int r) P:=fun r P r0 r1 hp=>zro r0 r1 fun x hx=>by
  obtain⟨q,hq,rfl⟩:=List.mem_map.mp hx;exact hp _ _ _ _ (ok q hq).1 (ok q hq).2.1 (ok q hq).2.2
 have cl:∀lo hi,(cutD (qs.map rwD) lo hi).length<=qs.length:=fun lo hi=>by have:=znI (ts:=qs.map rwD) (lo:=lo) (hi:=hi);rw[lm]at this;exact this
 have cm:∀lo hi,∀t∈cutD (qs.map rwD) lo hi,RwT bits t:=fun lo hi t ht=>by
  obtain⟨q,hq,rfl⟩:=List.mem_map.mp (znH ht);exact⟨q,rfl,ok q hq⟩
 have l2:∀{xs ys:qD} {k m:Nat},xs.length<=k->ys.length<=m->(xs++ys).length<=k+m:=fun a b=>by rw[List.length_append];exact Nat.add_le_add a b
 have m2:∀{xs ys:qD},(∀t∈xs,RwT bits t)->(∀t∈ys,RwT bits t)->∀t∈xs++ys,RwT bits t:=fun h h' t ht=>(List.mem_append.mp ht).elim (h t) (h' t)
 have rw1:∀{i g a c:Int},IsBk bits i g->0<=a->0<=c->RwT bits (.tuple [.tuple [.int i,.int g],.int a,.int c]):=fun B a0 c0=>⟨((_,_),(_,_)),rfl,B,a0,c0⟩
 have l3:∀{r:Int} {x:PyData},(cutD (qs.map rwD) none (some r)++[x]++cutD (qs.map rwD) (some (r+1)) none).length<=2*qs.length+2:=fun {r x}=>by
  have c1:=cl none (some r);have c2:=cl (some (r+1)) none;rw[List.length_append,List.length_append];show _+1+_<=_
  lia
 have end1:∀{r:Int} {i g a c:Int} {m:Nat},IsBk bits i g->0<=a->0<=c->m<=n+20->R (.tuple (cutD (qs.map rwD) none (some r)++[.tuple [.tuple [.int i,.int g],.int a,.int c]]++cutD (qs.map rwD) (some (r+1)) none)) m:=fun B a0 c0 hm=>fin _ _ (m2 (m2 (cm _ _) fun t ht=>by cases List.mem_singleton.mp ht;exact rw1 B a0 c0) (cm _ _)) l3 hm
 have ix3:∀{r:Int} {P:PyData->Prop},(∀z:Int,P (.int z))->0<=r->r<3->oIx (.list [.int 1,.int (-1),.int 7]) (.int r) P:=fun hp r0 r1=>zrt r0 (by exact r1) fun x hx=>by
  simp only[List.mem_cons,List.not_mem_nil,or_false]at hx;rcases hx with rfl|rfl|rfl <;> exact hp _
 have s1:∀{r:Int} {x:PyData},(cutD (qs.map rwD) none (some r)).length+[x].length<=16777216:=fun {r x}=>by
  have c1:=cl none (some r);show _+1<=_
  lia
 have s2:∀{r:Int} {x:PyData},(cutD (qs.map rwD) none (some r)++[x]).length+(cutD (qs.map rwD) (some (r+1)) none).length<=16777216:=fun {r x}=>by
  have:=l3 (r:=r) (x:=x);rw[List.length_append]at this;lia
 have s3:∀{r:Int},(cutD (qs.map rwD) none (some r)).length+(cutD (qs.map rwD) (some (r+1)) none).length<=100000:=fun {r}=>by
  have c1:=cl none (some r);have c2:=cl (some (r+1)) none;lia
 wp_walk using Va ?_ ?_ ?_ (fun r r0 r1=>?_),ix _ _ ?_ ?_ (fun i g a c B a0 c0=>?_),ix3 (fun z=>?_) ?_ ?_,zc_ b0 b1 ?_ B (fun j g' B'=>?_)
 all_goals first|lia|decide|(rw[lm];lia)|exact s1|exact s2|exact Nat.le_trans s3 (by decide)|assumption|exact end1 (by assumption) (by lia) (by lia) (by lia)|skip
 ·exact fin _ _ (m2 (cm _ _) (cm _ _)) (Nat.le_trans (l2 (cl _ _) (cl _ _)) (by lia)) (by lia)
 ·rename_i ra rb r1 r0;refine Nat.le_trans (Nat.add_le_add (Nat.le_trans (l2 (cl _ _) (cl _ _)) (Nat.le_refl _)) (show _<=2 by rw[List.length_replicate];lia)) (by lia)
 ·refine fin _ _ (m2 (m2 (cm _ _) (cm _ _)) fun t ht=>?_) ?_ (by lia)
  ·rw[List.eq_of_mem_replicate ht];exact rw1 B a0 c0
  ·exact Nat.le_trans (l2 (l2 (cl _ _) (cl _ _)) (show _<=2 by rw[List.length_replicate];lia)) (by lia)
 ·refine ziX (cs:=qs) (D:=rwD) (fun q=>decide (¬q.1=(0,bits))) rwD (by lia) ?_ ?_
  ·rintro⟨⟨i,g⟩,⟨a,c⟩⟩ hq K X hK hX;rw[show rwD ((i,g),(a,c))=.tuple [.tuple [.int i,.int g],.int a,.int c] from rfl]
   wp_walk
   ·exact QX
   ·exact QX
   ·rw[zgF,Bool.and_eq_true,decide_eq_true_eq,decide_eq_true_eq]at hc;exact hX (by rw[hc.1,hc.2];simp)
   ·rw[zgF]at hc;exact hK (decide_eq_true fun z=>by
     cases z;simp at hc)
  ·wp_walk
   exact fin _ _ (fun t ht=>by
    obtain⟨q,hq,rfl⟩:=List.mem_map.mp ht;exact⟨q,rfl,ok q (List.mem_filter.mp hq).1⟩) (by rw[List.length_map];have:=List.length_filter_le (fun q=>decide (¬q.1=(0,bits))) qs;lia) (by lia)
theorem Q3:FnScope ["_law_hand_here","_law_bits_here","_law_patch_here","_law_many","_law_told","_law_turn","_law_paper","_law_again","_law_most","_law_found"] ["_law_hand_here"] (Jl (top 45)):=⟨rfl,rfl,rfl,by decide +kernel,rfl,by decide +kernel,by decide +kernel⟩
theorem zlm{qs:PR}:Okd (.tuple (qs.map rwD)):=by
 have:∀qs:PR,PyData.canLayAll0 (qs.map rwD)=true/\PyData.depthAll (qs.map rwD)<=2:=by
  intro qs;induction qs with
  | nil=>exact⟨by simp[PyData.canLayAll0],by simp[PyData.depthAll]⟩
  | cons b l ih =>
   refine⟨?_,?_⟩
   ·have:=ih.1;simp only[rwD,List.map_cons,PyData.canLayAll0,PyData.canLay0,Bool.and_true,Bool.true_and]at this ⊢;exact this
   ·have:=ih.2;simp only[rwD,List.map_cons,PyData.depthAll,PyData.depth]at this ⊢;lia
 exact⟨by simp only[PyData.canLay0];exact(this qs).1,by have:=(this qs).2;simp only[PyData.depth];lia⟩
theorem zif:Okd (.tuple []):=zlm (qs:=[])
def ze2:GD:=fun ts n R=>ts=[HAND]/\n<=1000/\∀m,R (.bool true) m
theorem zi1{n:Nat}{R:qN}(hn:n<=1000)(h:∀m,R (.bool true) m):ze2 [HAND] n R:=⟨rfl,hn,h⟩
def zeA(Z:ZZ):Prop:=FQ Z "_law_case" (top 45) ["_law_hand_here"] 10 (spD Z.K 1 ze2)
theorem zhd(D:Dq Z.K Z.mg "_law_case" (top 45) ["_law_hand_here"]) (h__law_bits:zeB Z) (h__law_patch:zdZ Z) (h__law_pick:Y4 Z) (h_many_rules:zdW Z) (h_rules_paper:zdi Z) (h__law_due:zfJ Z) (h_shows_many:zdU Z) (h__law_take:Y5 Z) (h__law_otherwise:zcj Z) (T:Txt Z.mg):zeA Z:=by
 refine' okQ D Q3 rfl fun f cdv A outer s H E hr=>⟨_,(Jg (Jr (i:=1) Q3.nd rfl (Or.inl rfl) (Ji h__law_bits hr (Jb (Ja 0) Je Jc))) (Jg (Jr (i:=2) Q3.nd rfl (Or.inl rfl) (Ji h__law_patch hr (Jb (Ja 0) (Jb (Ja 1) (Jb (Ji h__law_pick hr (Jb (Ja 0) (Jb (JO (Qg (Jb Jd (Jb Jd (Jb Jd (Jb Jd (Jb Jd (Jb Jd (Jb Jd (Jb Jd Je Jo) Jo) Jo) Jo) Jo) Jo) Jo) Jo))) Je zh7) Jc)) Je JE) Jc) Jc))) (Jg (zlW (i:=3) (j:=4) rfl Q3.nd rfl rfl (by decide) rfl rfl (Jb (Ji h_many_rules hr (Jb (Ja 1) (Jb (Ja 2) Je Jc) Jc)) (Jb (Ji h_rules_paper hr (Jb (Ja 1) (Jb (Ja 2) Je Jc) Jc)) Je JE) JE)) (Jg (Uj PassesOwn.never rfl (Vj T.ran Jd) (Jp (i:=5) Q3.nd rfl (Or.inl rfl)) (Jg (Jr (i:=6) Q3.nd rfl (Or.inl rfl) (Ja 4)) (Jg (Uj PassesOwn.never rfl (Vj T.ran (JC (dl Jd) (dl (Ji h__law_take hr (Jb (Ja 0) (Jb Jd Je Jo) Jc))))) (Jp (i:=7) Q3.nd rfl (Or.inl rfl)) (Jf (Jz (Jt (QT hr) QP (dl (Ja 6)) (dl (Ju Je)) (Jm _)) (Jf (Jr (i:=6) Q3.nd rfl (Or.inl rfl) (Ji h__law_otherwise hr (Jb (Ja 0) (Jb (Ja 1) (Jb (Ja 6) Je Jc) Jc) Jc)))) JH))) (Jf (Uj PassesOwn.never rfl (QR (Ju (Jb (Ja 3) (Jb (JC (dl (Ja 3)) (dl Jd)) (Jb (Jw (Uz rfl) Um T.max Ux (Jj (dl Jd) (Jj (dl (Qr (dl (Ja 3)) (dl Jd))) Jq JG) Jo)) Je JE) JG) Jc))) (Jp (i:=8) Q3.nd rfl (Or.inl rfl)) (Jg (Jr (i:=9) Q3.nd rfl (Or.inl rfl) (Ji h_shows_many hr (Jb (Ja 1) (Jb (Ja 2) (Jb (Ja 8) (Jb (Ja 6) Je Jc) Jc) Jc) Jc))) (Jf (Jz (JS (J3 (J9 (JR (dl (QH ziQ T.isi T.boo zdQ (dl (Ja 9)) Jc)))) (Qh (Jt (QT hr) QP (dl (Ja 9)) (dl (Ji h__law_due hr (Jb (Ja 1) (Jb (Ja 2) (Jb (Ja 8) (Jb (Ja 6) Je Jc) Jc) Jc) Jc))) (Jm _))))) (Jf (Jk JZ)) JH)))))))) (Jf (Jk (Qt (JV Z1 ZQ (dl (Ji h_shows_many hr (Jb (Ja 1) (Jb (Ja 2) (Jb (Ja 3) (Jb (Ja 4) Je Jc) Jc) Jc) Jc))) (dl JZ) (Jm _)) (QF (Ji h__law_due hr (Jb (Ja 1) (Jb (Ja 2) (Jb (Ja 3) (Jb (Ja 4) Je Jc) Jc) Jc) Jc)))))))))),?_⟩
 intro ts n R hl h;obtain⟨rfl,hn,h⟩:=h;have pk:∀{n:Nat} {R:qN},n<=1000000000000->(∀most:Int,0<=most->most<=12->R (.int most) (n+1))->Y3 [HAND,.list [.int 6,.int 6,.int 6,.int 6,.int 6,.int 6,.int 6,.int 12]] n R:=fun h1 h2=>zc9 (by simp) (by simp) h1 fun x hx=>by
  simp only[List.mem_cons,List.not_mem_nil,or_false]at hx;rcases hx with rfl|rfl|rfl|rfl|rfl|rfl|rfl|rfl <;> exact h2 _ (by decide) (by decide)
 wp_walk using zi2 ?_ (fun bits b0 b1=>?_),pk ?_ (fun most m0 m1=>?_)
 ·lia
 ·lia
 refine zhR b0 b1 m0 (by lia) (by lia) (fun bs m P lb hm=>?_)
 have b0':0<=bits:=by lia
 have PB:=P.1;have l1:bs.length<64:=by lia
 have l2:bs.length<=1000:=by lia
 wp_walk using zhN b0' b1 PB l1 l2 (fun ps C=>?_),zgJ b0' b1 PB l1 l2 (fun ps' qs C' lp Q lq=>?_)
 ·decide
 ·decide
 have ep:=C'.uniq C fun x=>Iff.rfl
 subst ep;have ql:qs.length<=2000:=by lia
 have ok:∀q∈qs,RwOk bits q:=fun q hq=>⟨Q.bk q hq,Q.pos q hq⟩
 have mn:0<=zj3 bits ps':=by
  obtain⟨v,ev⟩:=Q.root;rw[<- Q.many ev];exact(Q.pos _ (Y9 ev)).1
 have both:∀(ls:PR),(∀q∈ls,RwOk bits q)->ls.length<=100000->∀y:Int,0<=y->∃b:Bool,(b=true↔QE bits ps' y (.tuple (ls.map rwD)))/\(∀{m:Nat} {R:qN},R (.bool b) m->zcw [.int bits,.tuple (pD bs),.int y,.tuple (ls.map rwD)] m R)/\∀{m:Nat} {R:qN},R (.bool b) m->zdN [.int bits,.tuple (pD bs),.int y,.tuple (ls.map rwD)] m R:=fun ls okl l9 y y0=>by
  classical
  have e:∀b:Bool,(b=true↔QE bits ps' y (.tuple (ls.map rwD)))->b=decide (QE bits ps' y (.tuple (ls.map rwD))):=fun b hb=>by rw[Bool.eq_iff_iff,hb,decide_eq_true_eq]
  refine⟨decide (QE bits ps' y (.tuple (ls.map rwD))),by rw[decide_eq_true_eq],fun {m R} h=>?_,fun {m R} h=>?_⟩
  ·exact zhL b0' b1 PB l1 l2 C' (zgi (by rw[List.length_map];lia) zov) fun b hb=>by rw[e b hb];exact h
  ·exact zkn b0' b1 P l2 C' okl l9 y0 fun b hb=>by rw[e b hb];exact h
 generalize ht:J4 0 (Int.toNat 10)=ts;have h10:ts.length=10:=by rw[<- ht,zdD];rfl
 refine zr7 5 6 7 8 9 (fun k _ _ _ _ _ m'=>m'<=m+100*k) (by lia) ?_ ?_
 ·rintro k t _ _ _ _ _ m' K RT BK et hm' hK hRT hBK;have k10:=(List.getElem?_eq_some_iff.mp et).1
  wp_walk using Va ?_ ?_ ?_ (fun r r0 r1=>?_)
  ·decide
  ·decide
  ·lia
  ·lia
  ·lia
  generalize ht2:J4 0 (Int.toNat (1+r))=us;have h3:us.length<=3:=by rw[<- ht2,zdD];lia
  refine zob 6 7 (fun k c _ m2=>m2<=m'+1+20*k/\∃ls:PR,c=some (.val (.tuple (ls.map rwD)))/\(∀q∈ls,RwOk bits q)/\ls.length+2<=2 ^ k*2002) ⟨by lia,qs,rfl,ok,by simp;lia⟩ ?_ ?_
  ·rintro k2 t2 _ _ m2 K2 RT2 BK2 et2 ⟨hm2,ls,rfl,okl,ll⟩ hK2 hRT2 hBK2;have k3:=(List.getElem?_eq_some_iff.mp et2).1;have l8:2 ^ k2<=2 ^ 3:=Nat.pow_le_pow_right (by decide) (by lia)
   have l9:ls.length<=50000:=by lia
   wp_walk
   ·exact zlm
   ·exact zif
   ·exact hK2 _ _ _ ⟨by lia,ls,rfl,okl,by rw[Nat.pow_succ];lia⟩
   ·have ne:ls≠[]:=fun z=>by
     rw[z]at hc;simp[PyData.eqv,PyData.eqvAll]at hc
    refine zeg b0 b1 okl ne l9 (by lia) (fun ls' m3 ok' ll' hm3=>?_)
    wp_walk
    exact hK2 _ _ _ ⟨by lia,ls',rfl,ok',by rw[Nat.pow_succ];lia⟩
  ·rintro _ _ m2 ⟨hm2,ls,rfl,okl,ll⟩;have l8:2 ^ us.length<=2 ^ 3:=Nat.pow_le_pow_right (by decide) h3
   have l9:ls.length<=100000:=by lia
   have j_neB:∀{b:Bool} {R:PyData->Prop},R (.bool false)->oNe (.bool b) (.bool b) R:=fun {b R} h=>by
    have e:(!decide (b=b))=false:=by simp
    show R (.bool (!decide (b=b)))
    rw[e];exact h
   wp_walk
   refine zob 8 9 (fun _ _ _ m3=>m3=m2) rfl ?_ ?_
   ·rintro k3 t3 _ _ m3 K3 RT3 BK3 et3 rfl hK3 hRT3 hBK3;have ty:∃y:Int,t3=.int y/\0<=y:=by
     have:=List.mem_of_getElem? et3;simp only[List.mem_cons,List.not_mem_nil,or_false]at this;rcases this with rfl|rfl|rfl
     ·exact⟨_,rfl,mn⟩
     ·exact⟨_,rfl,by lia⟩
     ·exact⟨_,rfl,by split <;> lia⟩
    obtain⟨y,rfl,y0⟩:=ty;obtain⟨b,_,sh,du⟩:=both ls okl l9 y y0
    wp_walk using sh ?_,du ?_,j_neB ?_
    exact hK3 _ _ _ rfl
   ·rintro _ _ m3 rfl;exact hK _ _ _ _ _ _ (by lia)
 ·rintro _ _ _ _ _ m' hm';obtain⟨b,hb,sh,du⟩:=both qs ok (by lia) _ mn
  have eb:=hb.mpr (zk4 Q (Int.le_refl _));subst eb
  wp_walk using sh ?_,du ?_
  exact h _
theorem zqc:FnScope ["_law_script"] ["_law_script"] (Jl (top 46)):=⟨rfl,rfl,rfl,by decide +kernel,rfl,by decide +kernel,by decide +kernel⟩
theorem zrc{f:Addr}{fd:FuncData}(D:Def Z.K Z.mg "law" (top 46) ["_law_script"] f fd) (h__law_case:zeA Z) (h__law_hand:zez Z) (T:Txt Z.mg):FnOk Z.P Z.w Z.K Z.mg Z.base CX0 11 f fd ["_law_script"] (spD Z.K 1 zr3):=by
 refine D.okD zqc rfl fun cdv A outer s H E hr=>?_
 refine'⟨_,(Jf (Jk (Jw (Yt rfl) U5 T.all Ys (Jj (dl (JO (QI (own:=["_law_k"]) (capt:=[0]) rfl (CompScope.of rfl) (dil (Vj T.ran (Jw (Uz rfl) Um T.max Ux (Jj (dl Jd) (Jj (dl (Jw (UA rfl) Uo T.min Uy (Jj (dl (Jw Qp Qm T.len J6 (Jj (dl (Ja 0)) Jq Jc))) (Jj (dl Jd) Jq Jo) JE))) Jq JE) Jo)))) (fun _ _ _ _=>(Jp (i:=0) (by show(["_law_k","_law_script"]:List Str).Nodup;decide +kernel) rfl (Or.inl rfl))) (by decide) (fun _ _ _ _=>Qk) (fun _ _ _ _=>(znB h__law_case h__law_hand hr (Jb (Ja 1) (Jb (Ja 0) Je Jc) Jc)))))) Jq QJ)))),?_⟩
 intro ts n R hl hh;obtain⟨ns,rfl,hl63,hh⟩:=hh
 wp_walk
 ·split <;> (try split) <;> lia
 ·split <;> (try split) <;> lia
 generalize hz:Int.toNat _=z;have z5:z<=3:=by
  rw[<- hz];split <;> (try split) <;> lia
 generalize hts:J4 0 z=us;refine zf0 (fun _=>.bool true) (by rw[<- hts,zdD];lia) ?_ ?_
 ·intro b hb K X hK;rw[<- hts]at hb;obtain⟨i,hi⟩:=List.mem_iff_getElem?.mp hb;obtain⟨i1,rfl⟩:=zfD hi
  wp_walk using zi1 ?_ (fun m=>?_)
  ·lia
  ·lia
  ·lia
  ·lia
  ·exact⟨true,rfl,hK⟩
 ·wp_walk using Zj (f:=fun _=>true) ?_
  rw[show us.all (fun _=>true)=true by simp]
  exact hh _
end
section
open PySem.W PyProof.Rows
def pw:Program:=PySem.Challenge.pw_blockdeal_k18_papers_spoilt
def ztS:Stmt->Bool
 | .FunctionDef ..=>true
 | .Assign [.Name x _] _ _=>!(x == Str.ofString "__name__")
 | _=>false
def qv:Program:={ pw with main:={ pw.main with body:=pw.main.body.filter ztS } }
theorem zoA:recsOf qv=(pw.main.body.filter Z3).map recD:=by kernel_rfl
theorem zn3{i:Nat}(h:Z3 (top i)=true):recD (top i)∈recsOf qv:=by
 rw[zoA];exact List.mem_map_of_mem (List.mem_filter.mpr ⟨getD_mem h,h⟩)
theorem dqG{i:Nat}{x:Str}{ps:List Str}{mean:ExcName->Option Value}{mg mb:qM}{h:Heap}(T:PyProof.Rows.Top qv (looseW qv []) mean mg mb h)(hb:BndA x (top i) ps)(h1:Z3 (top i)=true:=by kernel_rfl)(h2:defName (top i)=x:=by kernel_rfl):Dq (Qj h) mg x (top i) ps:=dq_g T (zn3 h1) h2 hb
def zr5:List Str:=[Str.ofString "isinstance",Str.ofString "int",Str.ofString "bool",Str.ofString "tuple",Str.ofString "len",Str.ofString "min",Str.ofString "max",Str.ofString "str",Str.ofString "repr",Str.ofString "all",Str.ofString "any",Str.ofString "range",Str.ofString "sum",Str.ofString "sorted",Str.ofString "list",Str.ofString "abs",Str.ofString "zip",Str.ofString "dict",Str.ofString "reversed",Str.ofString "enumerate"]
def zr6(x:Str):Bool:=!startupNames.contains x&&!(looseW qv []).contains x&&!((recsOf qv).map (·.name)).contains x&&!((litsOf qv).map (·.1)).contains x&&!((clssOf qv (looseW qv [])).map (·.name)).contains x
theorem zpw:zr5.all zr6=true:=by kernel_rfl
theorem zpx{mean:ExcName->Option Value}{mg mb:qM}{h:Heap}(T:PyProof.Rows.Top qv (looseW qv []) mean mg mb h){x:Str}(m:x∈zr5):mg x=none:=by
 have e:=List.all_eq_true.mp zpw x m;unfold zr6 at e;simp only[Bool.and_eq_true,Bool.not_eq_true',List.contains_eq_mem,decide_eq_false_iff_not]at e;obtain⟨⟨⟨⟨a,b⟩,c⟩,d⟩,f⟩:=e;exact T.free x a b c d f
theorem zp3{mean:ExcName->Option Value}{mg mb:qM}{h:Heap}(T:PyProof.Rows.Top qv (looseW qv []) mean mg mb h):Txt mg:=by
 constructor <;> exact zpx T (List.contains_iff_mem.mp (by kernel_rfl))
theorem zor:PySem.Challenge.rw_blockdeal_k18_papers_spoilt.wellSaid=true:=by kernel_rfl
theorem zo9:LeftO pw qv [] (fun s=>xlAt qv [] s&&recOk (RowW.records PySem.Challenge.rw_blockdeal_k18_papers_spoilt.row.toRowW) s) (Hook.obs Hook.none) (Hook.val Hook.none) 20000:=fun w=>by kernel_rfl
theorem zso{mean:ExcName->Option Value}{mg mb:qM}{h:Heap}{w:World}{fa:Addr}(T0:PyProof.Rows.Top qv (looseW qv []) mean mg mb h)(hfa:mg (defName (top 46))=some (.ref fa)) :
  ∃fd:FuncData,(∀(s:Shared) (v:Value),BindsTo s fd ⟨[v],[]⟩ [("_law_script",v)])/\∀base:Heap,(Qj h).In base->base.Ns mainGlobals mg->FnOk PySem.Challenge.rw_blockdeal_k18_papers_spoilt.prog w (Qj h) mg base CX0 11 fa fd ["_law_script"] (zop (Qj h)):=by
 have T:=zp3 T0;obtain⟨f,fd,DL⟩:=dq_g (x:="law") (ps:=["_law_script"]) T0 (zn3 (i:=46) (by kernel_rfl)) (by kernel_rfl) fun _ _ _ _ _ _ us hl=>by obtain⟨_,rfl⟩:=len1 hl;rfl
 have e0:Value.ref f=Value.ref fa:=Option.some.inj (DL.m.symm.trans hfa);cases e0;refine⟨fd,fun s v=>?_,fun base _ _=>?_⟩
 ·obtain⟨oc,od,kV,doc,pm,an,cdv,ct,osl,rfl,_,_⟩:=DL.F.ex;exact .of_eq rfl
 let Z:ZZ:=⟨PySem.Challenge.rw_blockdeal_k18_papers_spoilt.prog,w,Qj h,mg,base⟩
 have h_is_whole:=zij (Z:=Z) (dqG (i:=1) T0 (bnd1 fun _ _ _ _ _ _ _=>rfl))  T
 have h_is_block:=zim (Z:=Z) (dqG (i:=2) T0 (bnd2 fun _ _ _ _ _ _ _ _=>rfl)) h_is_whole T
 have h_size_of:=zjW (Z:=Z) (dqG (i:=3) T0 (bnd1 fun _ _ _ _ _ _ _=>rfl))  T
 have h_around:=zlr (Z:=Z) (dqG (i:=6) T0 (bnd2 fun _ _ _ _ _ _ _ _=>rfl))  T
 have h_holds:=zm_ (Z:=Z) (dqG (i:=4) T0 (bnd2 fun _ _ _ _ _ _ _ _=>rfl)) h_around T
 have h_other_half:=zgn (Z:=Z) (dqG (i:=7) T0 (bnd1 fun _ _ _ _ _ _ _=>rfl))  T
 have h_halves:=zlo (Z:=Z) (dqG (i:=5) T0 (bnd1 fun _ _ _ _ _ _ _=>rfl)) h_other_half T
 have h_end_of:=zlq (Z:=Z) (dqG (i:=16) T0 (bnd1 fun _ _ _ _ _ _ _=>rfl)) h_size_of T
 have h_greatest_height:=zdp (Z:=Z) (dqG (i:=17) T0 (bnd2 fun _ _ _ _ _ _ _ _=>rfl))  T
 have h_span:=zo0 (Z:=Z) (dqG (i:=10) T0 (bnd2 fun _ _ _ _ _ _ _ _=>rfl)) h_end_of h_greatest_height T
 have h_patch_of:=zig (Z:=Z) (dqG (i:=18) T0 (bnd1 fun _ _ _ _ _ _ _=>rfl)) h_span T
 have h_runs_of:=zjX (Z:=Z) (dqG (i:=19) T0 (bnd1 fun _ _ _ _ _ _ _=>rfl)) h_end_of T
 have h_fewest:=zlp (Z:=Z) (dqG (i:=9) T0 (bnd1 fun _ _ _ _ _ _ _=>rfl)) h_patch_of h_runs_of T
 have h_ended_by:=zio (Z:=Z) (dqG (i:=15) T0 (bnd2 fun _ _ _ _ _ _ _ _=>rfl)) h_end_of T
 have h_block_with:=zgp (Z:=Z) (dqG (i:=11) T0 (bnd2 fun _ _ _ _ _ _ _ _=>rfl)) h_ended_by T
 have h_block_about:=zfd (Z:=Z) (dqG (i:=12) T0 (bnd2 fun _ _ _ _ _ _ _ _=>rfl)) h_block_with h_holds T
 have h_has_all:=zjY (Z:=Z) (dqG (i:=13) T0 (bnd2 fun _ _ _ _ _ _ _ _=>rfl)) h_block_about T
 have h_has_none:=zin (Z:=Z) (dqG (i:=14) T0 (bnd2 fun _ _ _ _ _ _ _ _=>rfl)) h_ended_by h_end_of T
 have h_parts_of:=zih (Z:=Z) (dqG (i:=23) T0 (bnd2 fun _ _ _ _ _ _ _ _=>rfl)) h_has_all h_has_none h_halves T
 have h_best_pair:=zg8 (Z:=Z) (dqG (i:=24) T0 (bnd3 fun _ _ _ _ _ _ _ _ _=>rfl)) h_has_none h_has_all h_halves T
 have h_pairs_of:=zii (Z:=Z) (dqG (i:=22) T0 (bnd2 fun _ _ _ _ _ _ _ _=>rfl)) h_fewest h_parts_of h_best_pair T
 have h_many_rules:=zgo (Z:=Z) (dqG (i:=21) T0 (bnd2 fun _ _ _ _ _ _ _ _=>rfl)) h_pairs_of T
 have h_rules_paper:=zfc (Z:=Z) (dqG (i:=26) T0 (bnd2 fun _ _ _ _ _ _ _ _=>rfl)) h_pairs_of T
 have h_is_right:=zik (Z:=Z) (dqG (i:=30) T0 (bnd3 fun _ _ _ _ _ _ _ _ _=>rfl)) h_best_pair T
 have h_is_count:=zil (Z:=Z) (dqG (i:=29) T0 (bnd1 fun _ _ _ _ _ _ _=>rfl)) h_is_whole T
 have h_is_row:=zln (Z:=Z) (dqG (i:=28) T0 (bnd2 fun _ _ _ _ _ _ _ _=>rfl)) h_is_block h_is_count T
 have h_shows_many:=zgm (Z:=Z) (dqG (i:=27) T0 (bnd4 fun _ _ _ _ _ _ _ _ _ _=>rfl)) h_fewest h_is_right h_is_row T
 have h__law_hand:=zgl (Z:=Z) (dqG (i:=32) T0 (bnd2 fun _ _ _ _ _ _ _ _=>rfl))  T
 have h__law_take:=zgk (Z:=Z) (dqG (i:=33) T0 (bnd2 fun _ _ _ _ _ _ _ _=>rfl))  T
 have h__law_pick:=zg_ (Z:=Z) (dqG (i:=34) T0 (bnd2 fun _ _ _ _ _ _ _ _=>rfl)) h__law_take T
 have h__law_bits:=zhe (Z:=Z) (dqG (i:=35) T0 (bnd1 fun _ _ _ _ _ _ _=>rfl)) h__law_pick T
 have h__law_block:=zgs (Z:=Z) (dqG (i:=36) T0 (bnd2 fun _ _ _ _ _ _ _ _=>rfl)) h__law_pick h__law_take T
 have h__law_near:=zha (Z:=Z) (dqG (i:=37) T0 (bnd3 fun _ _ _ _ _ _ _ _ _=>rfl)) h__law_pick h__law_block T
 have h__law_blocks:=zff (Z:=Z) (dqG (i:=38) T0 (bnd3 fun _ _ _ _ _ _ _ _ _=>rfl)) h__law_take h__law_block h__law_near h__law_pick T
 have h__law_patch:=zgr (Z:=Z) (dqG (i:=39) T0 (bnd3 fun _ _ _ _ _ _ _ _ _=>rfl)) h__law_blocks T
 have h__law_whole:=zgq (Z:=Z) (dqG (i:=40) T0 (bnd1 fun _ _ _ _ _ _ _=>rfl))  T
 have h__law_is_row:=zfe (Z:=Z) (dqG (i:=41) T0 (bnd2 fun _ _ _ _ _ _ _ _=>rfl)) h__law_whole T
 have h__law_held:=zhb (Z:=Z) (dqG (i:=42) T0 (bnd3 fun _ _ _ _ _ _ _ _ _=>rfl))  T
 have h__law_due:=ziq (Z:=Z) (dqG (i:=43) T0 (bnd4 fun _ _ _ _ _ _ _ _ _ _=>rfl)) h__law_held h__law_is_row T
 have h__law_otherwise:=zdJ (Z:=Z) (dqG (i:=44) T0 (bnd3 fun _ _ _ _ _ _ _ _ _=>rfl)) h__law_take h__law_near T
 have h__law_case:=zhd (Z:=Z) (dqG (i:=45) T0 (bnd1 fun _ _ _ _ _ _ _=>rfl)) h__law_bits h__law_patch h__law_pick h_many_rules h_rules_paper h__law_due h_shows_many h__law_take h__law_otherwise T
 exact(zrc (Z:=Z) DL h__law_case h__law_hand T).imp zpa
end
end Bd
open PySem PySem.W PyProof.Rows
set_option maxRecDepth 100000 in
set_option maxHeartbeats 0 in
theorem PySem.Challenge.cw_blockdeal_k18_papers_spoilt_holds : PySem.Challenge.rw_blockdeal_k18_papers_spoilt.Holds := by
 w_on
 refine holds_law Bd.zor fun said=>?_
 refine holds_open (r:=PySem.Challenge.rw_blockdeal_k18_papers_spoilt.row) (d:=Bd.recD (Bd.top 46)) (kwd:=[]) Bd.zo9 (Hook.of Hook.none) (Hook.keeps Hook.none) (fun s e=>xl_of s (Bool.and_eq_true_iff.mp e).1) XL.keeps (by kernel_rfl) (by kernel_rfl) (by kernel_rfl) (fun s e=>recFacts_of (Bool.and_eq_true_iff.mp e).2) (by kernel_rfl) said (by kernel_rfl) ⟨rfl,rfl,rfl,rfl,rfl,by decide +kernel⟩ ?hw ?hc
 case hw=>w_witness2
 case hc=>exact Bd.zs2 (lw:=PySem.Challenge.rw_blockdeal_k18_papers_spoilt) (k:=11) (by decide) rfl rfl fun w s₀ mg mb fa h G hmg=>Bd.zso G.T hmg
