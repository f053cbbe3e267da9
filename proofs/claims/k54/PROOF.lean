import PyProof.Rows.All
import Wide.All
import OpenK.AllK
import Wide.FinOn
import Lean
import PyProof.EqAt
import PyProof.EqKinds
import PyProof.TupleCall
import PySem.Challenge.RW_blockdeal_k54_whole_addresses_in_one_pla
local macro_rules | `(tactic| walk_at "V") => `(tactic| first | exact Or.inl rfl | exact Or.inr (Or.inl rfl) | exact Or.inr (Or.inr rfl))
local macro_rules | `(tactic| walk_at "F") => `(tactic| first | exact .inl rfl | exact .inr rfl | assumption)
abbrev qF:=PySem.W.Frag
abbrev qB:=List (Int×Int)
abbrev qN:=PySem.PyData->Nat->Prop
abbrev qM:=PySem.Str->Option PySem.Value
abbrev qV:=PySem.Value->PySem.Shared->Prop
abbrev qD:=List PySem.PyData
abbrev qO:=List (PySem.Addr×PySem.Obj)
set_option Elab.async false
set_option linter.all false
set_option maxRecDepth 100000
set_option maxHeartbeats 4000000
namespace L2
open PySem PySem.Spec PyProof.Rows
abbrev Key:=Sum Int Str
def YW:Key->Value->Bool
 | .inl k,v=>Value.isInt k v
 | .inr x,v=>Value.isStrOf x v
def keyH(w:World):Key->Int
 | .inl k=>hashInt k
 | .inr x=>hashStr w x
theorem Uw:∀{k:Key}{v:Value},YW k v=true->(∃i t,k=Sum.inl i/\v=Value.int i t)\/(∃x t,k=Sum.inr x/\v=Value.str x t)
 | .inl i,v,h=>by
  obtain⟨t,e⟩:=Value.isInt_shape (k:=i) (v:=v) h;exact .inl ⟨i,t,rfl,e⟩
 | .inr x,v,h=>by
  obtain⟨t,e⟩:=Value.isStrOf_shape (x:=x) (v:=v) h;exact .inr ⟨x,t,rfl,e⟩
theorem zm8(i:Int)(t:Tok):YW (.inl i) (.int i t)=true:=by simp[YW,Value.isInt]
theorem zm7(x:Str)(t:Tok):YW (.inr x) (.str x t)=true:=by simp[YW,Value.isStrOf]
theorem zsM(a b:Int):decide ((Sum.inl a:Key)=Sum.inl b)=(a == b):=by
 by_cases e:a=b
 ·subst e;simp
 ·have h:¬(Sum.inl a:Key)=Sum.inl b:=fun q=>e (Sum.inl.inj q)
  rw[decide_eq_false h];exact(beq_eq_false_iff_ne.mpr e).symm
theorem zsJ(a b:Str):decide ((Sum.inr a:Key)=Sum.inr b)=decide (a=b):=by
 by_cases e:a=b
 ·subst e;simp
 ·have h:¬(Sum.inr a:Key)=Sum.inr b:=fun q=>e (Sum.inr.inj q)
  rw[decide_eq_false h,decide_eq_false e]
theorem zsL(a:Int)(b:Str):decide ((Sum.inl a:Key)=Sum.inr b)=false:=decide_eq_false (fun q=>nomatch q)
theorem zsK(a:Str)(b:Int):decide ((Sum.inr a:Key)=Sum.inl b)=false:=decide_eq_false (fun q=>nomatch q)
def JU(prog:Program)(w:World):PySem.KeyKind prog w Key where
 is:=YW
 hash:=keyH w
 inj:=fun v a b ha hb=>by
  rcases Uw ha with⟨i,t,rfl,rfl⟩|⟨x,t,rfl,rfl⟩
  ·rcases Uw hb with⟨j,u,rfl,e⟩|⟨y,u,rfl,e⟩
   ·injection e with e1 _;rw[e1]
   ·exact nomatch e
  ·rcases Uw hb with⟨j,u,rfl,e⟩|⟨y,u,rfl,e⟩
   ·exact nomatch e
   ·injection e with e1 _;rw[e1]
 byValue:=fun k v h=>by
  rcases Uw h with⟨i,t,rfl,rfl⟩|⟨x,t,rfl,rfl⟩ <;> rfl
 pyHash:=fun hv h=>by
  rcases Uw hv with⟨i,t,rfl,rfl⟩|⟨x,t,rfl,rfl⟩
  ·exact wpAny_pyHash_int h
  ·exact wpAny_pyHash_str h
 eqBool:=fun hu hv h=>by
  rcases Uw hu with⟨i,t,rfl,rfl⟩|⟨x,t,rfl,rfl⟩
  ·rcases Uw hv with⟨j,u,rfl,rfl⟩|⟨y,u,rfl,rfl⟩
   ·rw[zsM]at h;exact wpAny_eqBool_int h
   ·rw[zsL]at h;exact SeqAt.EqAt.int_str i t y u _ _ _ _ h
  ·rcases Uw hv with⟨j,u,rfl,rfl⟩|⟨y,u,rfl,rfl⟩
   ·rw[zsK]at h;exact SeqAt.EqAt.str_int x t j u _ _ _ _ h
   ·rw[zsJ]at h;exact wpAny_eqBool_str h
 «strs»:=fun k x t v h=>by
  rcases Uw h with⟨i,u,rfl,e⟩|⟨y,u,rfl,e⟩
  ·exact nomatch e
  ·injection e with e1 _
   subst e1;cases v <;> rfl
theorem zjc(prog:Program)(w:World)(i:Int)(t:Tok):(JU prog w).is (.inl i) (.int i t)=true:=zm8 i t
theorem zjb(prog:Program)(w:World)(x:Str)(t:Tok):(JU prog w).is (.inr x) (.str x t)=true:=zm7 x t
inductive V where
 | non|bl (b:Bool)|int (i:Int)|str (x:Str)|byt (b:Array UInt8)|flt (b:UInt64)|ref (a:Addr)|ty (n:String)
 deriving DecidableEq
def RelV:V->Value->Prop
 | .non,u=>u=Value.none
 | .bl b,u=>u=Value.bool b
 | .int i,u=>∃t,u=Value.int i t
 | .str x,u=>∃t,u=Value.str x t
 | .byt b,u=>∃t,u=Value.bytes b t
 | .flt b,u=>∃t,u=Value.float b t
 | .ref a,u=>u=Value.ref a
 | .ty n,u=>u=Value.type n
abbrev Vals:List V->List Value->Prop:=Paired RelV
theorem Vals.length{xs:List V}{us:List Value}(r:Vals xs us):xs.length=us.length:=Paired.length r
theorem Vals.get:∀{xs:List V}{us:List Value}{i:Nat}{x:V},Vals xs us->xs[i]?=some x->∃u,us[i]?=some u/\RelV x u
 | _,_,_,_,.nil,e=>by simp at e
 | _,_,0,_,.cons r _,e=>by simp at e;subst e;exact⟨_,rfl,r⟩
 | _,_,i+1,x,.cons _ t,e=>by
  obtain⟨u,h1,h2⟩:=Vals.get (i:=i) (x:=x) t (by simpa using e)
  exact⟨u,by simpa using h1,h2⟩
theorem Vals.set{x:V}{u:Value}(r:RelV x u):∀{xs:List V}{us:List Value} (i:Nat),Vals xs us->Vals (xs.set i x) (us.set i u)
 | _,_,_,.nil=>.nil
 | _,_,0,.cons _ t=>.cons r t
 | _,_,i+1,.cons q t=>.cons q (Vals.set r i t)
theorem Vals.append:∀{xs ys:List V}{us ws:List Value},Vals xs us->Vals ys ws->Vals (xs++ys) (us++ws)
 | _,_,_,_,.nil,s=>s
 | _,_,_,_,.cons r t,s=>.cons r (Vals.append t s)
theorem Vals.take:∀{xs:List V}{us:List Value} (n:Nat),Vals xs us->Vals (xs.take n) (us.take n)
 | _,_,0,_=>.nil
 | _,_,_+1,.nil=>.nil
 | _,_,n+1,.cons r t=>.cons r (Vals.take n t)
theorem Vals.drop:∀{xs:List V}{us:List Value} (n:Nat),Vals xs us->Vals (xs.drop n) (us.drop n)
 | _,_,0,r=>r
 | _,_,_+1,.nil=>.nil
 | _,_,n+1,.cons _ t=>Vals.drop n t
def RelO:Option V->Option Value->Prop
 | some v,some u=>RelV v u
 | none,none=>True
 | _,_=>False
def KV{κ:Type}:List (κ×V)->List (κ×Value)->Prop:=Paired fun(p:κ×V) (q:κ×Value)=>p.1=q.1/\RelV p.2 q.2
def kV:Key->V
 | .inl i=>.int i
 | .inr x=>.str x
inductive HO where
 | lst (xs:List V)
 | tup (xs:List V)
 | dK (kvs:List (Key×V))|dT (kvs:List (List Key×V))
 | set (S:Int->Bool) (n:Nat)
 | ins (C dx:Addr) (fs:List (Str×V))
 | own (x:Addr)
 | xd (fs:List (Str×V))
 | met (f x:Addr)
 | rng (lo hi:Int)
 | frz (o:Obj) (u:HO)
 | tbl (ps:Array Value)
 | ext (φ:Heap->Prop)
abbrev Hp:=Addr->Option HO
def upd(H:Hp)(a:Addr)(o:HO):Hp:=fun b=>if b=a then some o else H b
theorem Qe{H:Hp}{a:Addr}{o:HO}:upd H a o a=some o:=by unfold upd;rw[if_pos rfl]
theorem Jw{H:Hp}{a b:Addr}{o:HO}(h:b≠a):upd H a o b=H b:=by unfold upd;rw[if_neg h]
theorem QX{H:Hp}{a b:Addr}{o:HO}(h:H a=some o)(h':H b=none):a≠b:=by
 intro e;subst e;rw[h]at h';cases h'
def IsTD(h:Heap)(a:Addr)(items:Array Value):Prop:=∃o,h.get? a=some o/\o.cls=.type "tuple" /\ (∃n,o.data=.seq items n)/\o.dict=none
theorem IsTD.tup{h:Heap}{a:Addr}{items:Array Value}(x:IsTD h a items):IsTup h a items:=by
 obtain⟨o,e,c,d,_⟩:=x;exact⟨o,e,c,d⟩
theorem IsTD.lt{h:Heap}{a:Addr}{items:Array Value}(x:IsTD h a items):a<h.objs.size:=x.tup.lt
theorem IsTD.new(h:Heap)(items:Array Value):IsTD (h.push { cls:=.type "tuple",data:=.seq items }) h.objs.size items:=⟨_,Heap.get?_push_size _ rfl,rfl,⟨_,rfl⟩,rfl⟩
section
variable(P:Program)(w:World)
def JQ(H:Hp)(h:Heap)(a:Addr):HO->Prop
 | .lst xs=>xs.length<=sizeLine/\∃(its:List Value) (n:Nat),Vals xs its/\h.get? a=some { cls:=.type "list",data:=.seq its.toArray n }
 | .tup xs=>xs.length<=sizeLine/\∃its:List Value,Vals xs its/\IsTD h a its.toArray
 | .dK kvs=>kvs.length<=sizeLine/\(a == sysModules)=false/\∃vs,KV kvs vs/\h.DictOf (JU P w) a vs
 | .dT kvs=>kvs.length<=sizeLine/\(a == sysModules)=false/\∃xs:List (List Key×Addr×Value),
   Paired (fun(p:List Key×V) (q:List Key×Addr×Value)=>p.1=q.1/\H q.2.1=some (.tup (p.1.map kV))/\RelV p.2 q.2.2) kvs xs /\
   ∃o es ep,h.get? a=some o/\o.ExactDict/\o.data=.dict es ep/\es.toList=xs.map (entryOfKey (tupleKind (JU P w)))/\(xs.map (·.1)).Nodup
 | .set S n=>h.SetOf (intKind P w) a S n
 | .ins C dx fs=>H dx=some (.own a)/\fs.length<=1000/\dx≠a/\h.get? a=some (PySem.W.instObj C dx) /\
   ∃mA,h.Ns1 dx mA/\(∀f,RelO (fs.lookup f) (mA f))/\PySem.Within mA (fs.map (·.1))
 | .own _=>∃o,h.get? a=some o
 | .xd fs=>∃mA,h.Ns1 a mA/\∀f,RelO (fs.lookup f) (mA f)
 | .rng lo hi=>∃t u v,h.get? a=some { cls:=.type "range",data:=.fields #[.int lo t,.int hi u,.int 1 v] }
 | .frz o u=>h.get? a=some o/\JQ H h a u
 | .tbl ps=>h.get? a=some { cls:=.none,data:=.fields ps }
 | .met f x=>h.get? a=some (PySem.W.methodObj (.ref f) (.ref x))
 | .ext φ=>φ h/\(∃o,h.get? a=some o)/\∀h1 h2:Heap,φ h1->(∀o,h1.get? a=some o->h2.get? a=some o)->φ h2
def HOk(H:Hp)(h:Heap):Prop:=∀a o,H a=some o->JQ P w H h a o
end
section
variable{P:Program}{w:World}{H H':Hp}{h h':Heap}{a:Addr}{o:HO}
theorem JQ.lt(x:JQ P w H h a o):a<h.objs.size:=by
 cases o with
 | lst xs=>obtain⟨_,_,_,_,e⟩:=x;exact Heap.lt_size e
 | tup xs=>obtain⟨_,_,_,p⟩:=x;exact p.lt
 | dK kvs=>obtain⟨_,_,_,_,o,_,_,e,_⟩:=x;exact Heap.lt_size e
 | dT kvs=>obtain⟨_,_,_,_,o,_,_,e,_⟩:=x;exact Heap.lt_size e
 | set S n=>obtain⟨o,_,_,_,e,_⟩:=x;exact Heap.lt_size e
 | ins C dx fs=>obtain⟨_,_,_,e,_⟩:=x;exact Heap.lt_size e
 | own y=>obtain⟨_,e⟩:=x;exact Heap.lt_size e
 | xd fs=>obtain⟨_,⟨_,_,_,e,_⟩,_⟩:=x;exact Heap.lt_size e
 | rng lo hi=>obtain⟨_,_,_,e⟩:=x;exact Heap.lt_size e
 | frz ob u=>obtain⟨e,_⟩:=x;exact Heap.lt_size e
 | tbl ps=>exact Heap.lt_size (show h.get? a=some _ from x)
 | met f y=>exact Heap.lt_size (show h.get? a=some _ from x)
 | ext φ=>obtain⟨_,⟨_,e⟩,_⟩:=x;exact Heap.lt_size e
theorem Paired.mapP{α β:Type}{F G:α->β->Prop}:∀{l₁:List α}{l₂:List β},Paired F l₁ l₂->(∀a b,F a b->G a b)->Paired G l₁ l₂
 | _,_,.nil,_=>.nil
 | _,_,.cons r t,f=>.cons (f _ _ r) (Paired.mapP t f)
theorem JQ.stay(x:JQ P w H h a o)(k:∀b u,(b=a\/H b=some (.own a))->h.get? b=some u->h'.get? b=some u)
  (ho:∀b,H b=some (.own a)->H' b=some (.own a)) (ht:∀b xs,H b=some (.tup xs)->H' b=some (.tup xs)):JQ P w H' h' a o:=by
 induction o with
 | lst xs=>obtain⟨z,its,n,r,e⟩:=x;exact⟨z,its,n,r,k _ _ (.inl rfl) e⟩
 | tup xs=>obtain⟨z,its,r,ob,e,c⟩:=x;exact⟨z,its,r,ob,k _ _ (.inl rfl) e,c⟩
 | dK kvs=>obtain⟨z,y,vs,r,ob,es,ep,e,c⟩:=x;exact⟨z,y,vs,r,ob,es,ep,k _ _ (.inl rfl) e,c⟩
 | dT kvs =>
  obtain⟨z,y,xs,r,ob,es,ep,e,c⟩:=x;exact⟨z,y,xs,Paired.mapP r fun p q z=>⟨z.1,ht _ _ z.2.1,z.2.2⟩,ob,es,ep,k _ _ (.inl rfl) e,c⟩
 | set S n=>obtain⟨ob,es,ep,t,e,c⟩:=x;exact⟨ob,es,ep,t,k _ _ (.inl rfl) e,c⟩
 | ins C dx fs =>
  obtain⟨d,z,ne,e,mA,⟨od,es,ep,e2,c⟩,r⟩:=x;exact⟨ho _ d,z,ne,k _ _ (.inl rfl) e,mA,⟨od,es,ep,k _ _ (.inr d) e2,c⟩,r⟩
 | own y=>obtain⟨ob,e⟩:=x;exact⟨ob,k _ _ (.inl rfl) e⟩
 | xd fs=>obtain⟨mA,⟨od,es,ep,e,c⟩,r⟩:=x;exact⟨mA,⟨od,es,ep,k _ _ (.inl rfl) e,c⟩,r⟩
 | rng lo hi=>obtain⟨t,u,v,e⟩:=x;exact⟨t,u,v,k _ _ (.inl rfl) e⟩
 | frz ob u ih=>obtain⟨e,q⟩:=x;exact⟨k _ _ (.inl rfl) e,ih q⟩
 | tbl ps =>
  have e:h.get? a=some { cls:=.none,data:=.fields ps }:=x;show h'.get? a=some { cls:=.none,data:=.fields ps }
  exact k a _ (.inl rfl) e
 | met f y =>
  have e:h.get? a=some (PySem.W.methodObj (.ref f) (.ref y)):=x;show h'.get? a=some (PySem.W.methodObj (.ref f) (.ref y))
  exact k a _ (.inl rfl) e
 | ext φ=>obtain⟨p,⟨o,e⟩,st⟩:=x;exact⟨st _ _ p fun o q=>k _ _ (.inl rfl) q,⟨o,k _ _ (.inl rfl) e⟩,st⟩
theorem HOk.lt(x:HOk P w H h)(e:H a=some o):a<h.objs.size:=(x a o e).lt
theorem HOk.fresh(x:HOk P w H h)(e:h.objs.size<=a):H a=none:=by
 cases q:H a with
 | none=>rfl
 | some u=>exact absurd (Nat.lt_of_lt_of_le (x.lt q) e) (Nat.lt_irrefl _)
theorem HOk.kept(x:HOk P w H h)(k:∀b u,h.get? b=some u->h'.get? b=some u):HOk P w H h':=fun a o e =>
 (x a o e).stay (fun b u _ q=>k b u q) (fun _ q=>q) fun _ _ q=>q
theorem HOk.laid(x:HOk P w H h)(k:∀b u,h.get? b=some u->h'.get? b=some u)(hp:h.objs.size<=a)(new:JQ P w (upd H a o) h' a o):HOk P w (upd H a o) h':=fun b u e=>by
 have hn:=x.fresh hp
 by_cases hb:b=a
 ·subst hb;rw[Qe]at e;cases e;exact new
 ·rw[Jw hb]at e;exact(x b u e).stay (fun c v _ q=>k c v q) (fun c q=>by rw[Jw (QX q hn)];exact q) fun c xs q=>by rw[Jw (QX q hn)];exact q
end
def Rd(H:Hp)(a:Addr)(u:HO):Prop:=H a=some u\/∃o,H a=some (.frz o u)
theorem Rd.ok{P:Program}{w:World}{H:Hp}{h:Heap}{a:Addr}{u:HO}(r:Rd H a u)(x:HOk P w H h):JQ P w H h a u:=by
 rcases r with r|⟨o,r⟩
 ·exact x a u r
 ·obtain⟨_,q⟩:=x a _ r;exact q
def Mut:Option HO->Prop
 | some (.lst _)=>True
 | some (.dK _)=>True
 | some (.dT _)=>True
 | some (.set _ _)=>True
 | some (.ins _ _ _)=>True
 | some (.ext _)=>True
 | _=>False
section
variable{P:Program}{w:World}{H:Hp}{h h':Heap}{x e:Addr}{o':HO}
theorem HOk.write(ok:HOk P w H h)(mu:Mut (H x))(he:e=x\/H e=some (.own x))(k:∀b u,b≠e->h.get? b=some u->h'.get? b=some u)(heo:∃u,h'.get? e=some u)
  (new:JQ P w (upd H x o') h' x o'):HOk P w (upd H x o') h':=fun b u q=>by
 have nown:∀c y,H c=some (.own y)->c≠x:=fun c y r z=>by subst z;rw[r]at mu;exact mu
 have ntup:∀c xs,H c=some (.tup xs)->c≠x:=fun c xs r z=>by subst z;rw[r]at mu;exact mu
 by_cases hb:b=x
 ·subst hb;rw[Qe]at q;cases q;exact new
 ·rw[Jw hb]at q
  by_cases hbe:b=e
  ·have q':H b=some (.own x):=by
    rcases he with z|z
    ·exact absurd (hbe.trans z) hb
    ·rw[hbe];exact z
   rw[q]at q';cases q';obtain⟨v,hv⟩:=heo;exact⟨v,by rw[hbe];exact hv⟩
  ·refine(ok b u q).stay (fun c v hc r=>k c v ?_ r) (fun c r=>by rw[Jw (nown c b r)];exact r) fun c xs r=>by rw[Jw (ntup c xs r)];exact r
   rcases hc with rfl|hc
   ·exact hbe
   ·rintro rfl;rcases he with z|z
    ·exact nown c b hc z
    ·rw[hc]at z;cases z;exact hb rfl
end
structure Un(fs ex:List Addr)(H H':Hp)(h h':Heap):Prop where
 keep:∀b o,h.get? b=some o->H b=none->b∉fs->b∉ex->h'.get? b=some o
 slot:∀b o,h.get? b=some o->H b=none->b∈fs->b∉ex->∃sl,h'.get? b=some { o with slots:=sl }
 free:∀b o,h.get? b=some o->H b=none->b∉ex->H' b=none
 there:∀b o,h.get? b=some o->b∉ex->∃o',h'.get? b=some o'
 tups:∀b xs,H b=some (.tup xs)->H' b=some (.tup xs)
 frzs:∀b o u,H b=some (.frz o u)->H' b=some (.frz o u)
 tbls:∀b ps,H b=some (.tbl ps)->∃more,H' b=some (.tbl (ps++more))
section
variable{fs fs' ex ex':List Addr}{H H1 H2:Hp}{h h1 h2 h':Heap}{a x e:Addr}{o:HO}
theorem Un.any(u:Un fs ex H H1 h h1){b:Addr}{ob:Obj}(q:h.get? b=some ob)(n:H b=none)(hx:b∉ex):∃sl,h1.get? b=some { ob with slots:=sl }:=by
 by_cases hb:b∈fs
 ·exact u.slot b ob q n hb hx
 ·exact⟨ob.slots,u.keep b ob q n hb hx⟩
theorem Un.kept(k:∀b u,h.get? b=some u->h'.get? b=some u):Un fs ex H H h h' :=
 ⟨fun b ob q _ _ _=>k b ob q,fun b ob q _ _ _=>⟨ob.slots,k b ob q⟩,fun _ _ _ n _=>n,fun b ob q _=>⟨ob,k b ob q⟩,fun _ _ q=>q,fun _ _ _ q=>q,fun _ ps q=>⟨#[],by rw[q];simp⟩⟩
theorem Un.refl:Un fs ex H H h h:=Un.kept fun _ _ q=>q
theorem Un.laid(k:∀b u,h.get? b=some u->h'.get? b=some u)(hp:h.objs.size<=a)(hn:H a=none):Un fs ex H (upd H a o) h h' where
 keep:=fun b u q _ _ _=>k b u q
 slot:=fun b u q _ _ _=>⟨u.slots,k b u q⟩
 free:=fun b u q n _=>by rw[Jw (Nat.ne_of_lt (Nat.lt_of_lt_of_le (Heap.lt_size q) hp))];exact n
 there:=fun b u q _=>⟨u,k b u q⟩
 tups:=fun b xs q=>by rw[Jw (QX q hn)];exact q
 frzs:=fun b u xs q=>by rw[Jw (QX q hn)];exact q
 tbls:=fun b ps q=>⟨#[],by rw[Jw (QX q hn),q];simp⟩
theorem Un.write(mu:Mut (H x))(he:e=x\/H e=some (.own x))(k:∀b u,b≠e->h.get? b=some u->h'.get? b=some u)(heo:∃u,h'.get? e=some u):Un fs ex H (upd H x o) h h':=by
 have hx:∀b,H b=none->b≠x:=fun b n z=>by subst z;rw[n]at mu;exact mu
 have hb:∀b,H b=none->b≠e:=fun b n z=>by
  subst z;rcases he with r|r
  ·exact hx b n r
  ·rw[n]at r;cases r
 have hm:∀b u,H b=some u->¬Mut (some u)->b≠x:=fun b u q nm z=>by subst z;rw[q]at mu;exact nm mu
 refine⟨fun b u q n _ _=>k b u (hb b n) q,fun b u q n _ _=>⟨u.slots,k b u (hb b n) q⟩,fun b u q n _=>by rw[Jw (hx b n)];exact n,fun b u q _=>?_,
  fun b xs q=>by rw[Jw (hm b _ q fun z=>z)];exact q,fun b u xs q=>by rw[Jw (hm b _ q fun z=>z)];exact q,fun b ps q=>⟨#[],by rw[Jw (hm b _ q fun z=>z),q];simp⟩⟩
 by_cases hbe:b=e
 ·subst hbe;exact heo
 ·exact⟨u,k b u hbe q⟩
end
def trk(h:Heap)(H:Hp):List Addr:=(List.range h.objs.size).filter fun a=>(H a).isSome
def hidT(h:Heap)(H:Hp):Heap:=PySem.W.hideAll h (trk h H)
theorem zng(h:Heap)(H:Hp):(hidT h H).objs.size=h.objs.size:=PySem.W.hideAll_size _ _
theorem zpa{h:Heap}{H:Hp}{b:Addr}{o:Obj}(e:h.get? b=some o)(n:H b=none):(hidT h H).get? b=some o :=
 PySem.W.hideAll_get _ e fun hm=>by
  have q:(H b).isSome=true:=(List.mem_filter.mp hm).2;rw[n]at q;simp at q
theorem zqz{h:Heap}{H:Hp}{b:Addr}{o:Obj}(e:(hidT h H).get? b=some o):h.get? b=some o/\H b=none:=by
 have e':h.get? b=some o:=PySem.W.of_hideAll (trk h H) e;refine⟨e',?_⟩;cases q:H b with
 | none=>rfl
 | some x =>
  have hm:b∈trk h H:=List.mem_filter.mpr ⟨List.mem_range.mpr (Heap.lt_size e'),by simp[q]⟩
  have z:(hidT h H).get? b=none:=PySem.W.hideAll_none (trk h H) hm;rw[z]at e;cases e
structure Mod(K:qF)(mg:qM)(base:Heap):Prop where
 kin:K.In base
 glob:base.Ns mainGlobals mg
 blt:∃mb,base.Ns builtinsNs mb/\∀x:Str,x ≠ "__name__" -> mb x=bootBuiltins x
 nolimit:base.NoLimit
structure Cx where
 prog:Program
 w:World
 K:qF
 mg:Str->Option Value
 base:Heap
 A:Around
 N:List Str
 s₀:Shared
 H₀:Hp
 env:Env
 outer:List Env
 stack:List Env
 ex:List Addr
 fn:Str->Bool
 calm:Bool
 pn:List (Addr×Obj)
 xe:Value->Shared->Prop
def frs(l:List Env):List Addr:=l.filterMap (·.frame)
abbrev Cx.fs(X:Cx):List Addr:=frs X.outer
def Vis(sc:Scope)(x:Str):Prop:=sc.names.lookup x=some .local\/sc.names.lookup x=some .cell\/sc.names.lookup x=some .free
def Loc(sc:Scope)(x:Str):Prop:=sc.names.lookup x=some .local\/sc.names.lookup x=some .cell
def Look(env:Env)(h:Heap)(m:qM)(x:Str)(u:Value):Prop :=
 (env.kindOf x=some .local/\m x=some u)\/((env.kindOf x=some .cell\/env.kindOf x=some .free)/\∃c,env.cells.lookup x=some c/\h.IsCell c (some u))
structure Cx.Ok(X:Cx):Prop where
 mod:Mod X.K X.mg X.base
 kind:X.env.scope.kind=.function
 glob:X.env.globals=mainGlobals
 blt:X.env.builtins=builtinsNs
 above:X.s₀.heap.objs.size<=X.env.locals
 inj:∀x y c,X.env.cells.lookup x=some c->X.env.cells.lookup y=some c->x=y
 has:∀x,(X.env.kindOf x=some .cell\/X.env.kindOf x=some .free)->∃c,X.env.cells.lookup x=some c
 cab:∀x c,X.fn x=true->X.env.cells.lookup x=some c->X.s₀.heap.objs.size<=c
 hd:X.calm=true->X.A.handled=none
 frames:X.A.frames=some X.stack
 stk:X.stack=X.outer\/(X.stack=X.env::X.outer/\X.env.frame=some X.env.locals)
 exf:∀b∈X.ex,b≠X.env.locals/\∀x c,X.env.cells.lookup x=some c->c≠b
 bs:∀b o,X.base.get? b=some o->X.s₀.heap.get? b=some o/\X.H₀ b=none
 bsz:X.base.objs.size<=X.s₀.heap.objs.size
 noex:∀b o,X.base.get? b=some o->b∉X.ex
 exfs:∀b∈X.ex,b∉X.fs
 funs:X.s₀.heap.FunFrames X.base X.outer
 frf:∀b∈X.fs,X.H₀ b=none
structure Inv(X:Cx)(pins:qO)(σ:List (Option V))(H:Hp)(s:Shared):Prop where
 ok:X.Ok
 os:s.os=X.s₀.os
 bare:AllBare s.gens
 base:Un X.fs X.ex X.H₀ H X.s₀.heap s.heap
 loc:∃m,s.heap.Ns X.env.locals m/\∀(i:Nat) (x:Str) (v:V),X.N[i]?=some x->σ[i]?=some (some v)->Vis X.env.scope x->∃u,RelV v u/\Look X.env s.heap m x u
 cell:∀x c,X.env.cells.lookup x=some c->∃v,s.heap.IsCell c v
 free:H X.env.locals=none
 freeC:∀x c,X.env.cells.lookup x=some c->H c=none
 pin:∀p∈X.pn++pins,s.heap.get? p.1=some p.2/\H p.1=none/\p.1≠X.env.locals/\p.1∉X.fs/\∀v,p.2.data≠.cell v
 hok:HOk X.prog X.w H s.heap
 len:σ.length=X.N.length
section
variable{X:Cx}{pins:qO}{σ:List (Option V)}{H H':Hp}{s:Shared}{h':Heap}
theorem Cx.Ok.nofr(ok:X.Ok){b:Addr}{o:Obj}(e:X.base.get? b=some o):b∉X.fs:=fun hb=>by
 have:=(ok.funs.mem hb).1;rw[e]at this;cases this
theorem Inv.bs(I:Inv X pins σ H s):∀b o,X.base.get? b=some o->s.heap.get? b=some o/\H b=none:=fun b o e =>
 ⟨I.base.keep b o (I.ok.bs b o e).1 (I.ok.bs b o e).2 (I.ok.nofr e) (I.ok.noex b o e),I.base.free b o (I.ok.bs b o e).1 (I.ok.bs b o e).2 (I.ok.noex b o e)⟩
theorem Inv.bk(I:Inv X pins σ H s):∀b o,X.base.get? b=some o->s.heap.get? b=some o:=fun b o e=>(I.bs b o e).1
theorem Inv.mod(I:Inv X pins σ H s):Mod X.K X.mg X.base:=I.ok.mod
theorem Inv.kIn(I:Inv X pins σ H s):X.K.In s.heap:=I.ok.mod.kin.keeps I.bk
theorem Inv.lt(I:Inv X pins σ H s):X.env.locals<s.heap.objs.size:=let ⟨_,hn,_⟩:=I.loc;hn.lt
theorem Inv.sz(I:Inv X pins σ H s):X.s₀.heap.objs.size<=s.heap.objs.size:=Nat.le_trans I.ok.above (Nat.le_of_lt I.lt)
theorem Inv.nofs(I:Inv X pins σ H s){a:Addr}(h:s.heap.objs.size<=a):a∉X.fs:=fun hb=>by
 obtain⟨_,o,ho,_⟩:=I.ok.funs.mem hb;exact absurd (Nat.lt_of_lt_of_le (Heap.lt_size ho) (Nat.le_trans I.sz h)) (Nat.lt_irrefl _)
theorem Inv.cne(I:Inv X pins σ H s):∀x c,X.env.cells.lookup x=some c->c≠X.env.locals:=fun x c e z=>by
 obtain⟨v,o,ho,hd⟩:=I.cell x c e;obtain⟨m,⟨o',es,ep,ho',hd',_⟩,_⟩:=I.loc;rw[z,ho']at ho;cases ho;rw[hd']at hd;cases hd
theorem Inv.funs(I:Inv X pins σ H s):s.heap.FunFrames X.base X.outer:=by
 have all:∀(l:List Env),(∀b∈frs l,b∈X.fs)->X.s₀.heap.FunFrames X.base l->s.heap.FunFrames X.base l:=by
  intro l;induction l with
  | nil=>intro _ _;trivial
  | cons env r ih =>
   intro hs hl;obtain⟨hk,⟨L,o,hf,hn,ho,hd⟩,hr⟩:=hl;have hL:L∈X.fs:=hs L (by unfold frs;rw[List.filterMap_cons,hf];exact List.mem_cons_self)
   obtain⟨sl,e⟩:=I.base.slot L o ho (I.ok.frf L hL) hL fun z=>I.ok.exfs L z hL
   exact⟨hk,⟨L,_,hf,hn,e,hd⟩,ih (fun b hb=>hs b (by unfold frs;rw[List.filterMap_cons,hf];exact List.mem_cons_of_mem _ hb)) hr⟩
 exact all X.outer (fun _ hb=>hb) I.ok.funs
theorem Inv.stack(I:Inv X pins σ H s):s.heap.FunFrames X.base X.stack:=by
 rcases I.ok.stk with e|⟨e,hf⟩
 ·rw[e];exact I.funs
 ·rw[e];obtain⟨m,hn,_⟩:=I.loc;refine .cons (by rw[I.ok.kind];decide) hf hn ?_ I.funs
  exact Heap.get?_none_of_le (Nat.le_trans I.ok.bsz I.ok.above)
theorem Inv.stkSub(I:Inv X pins σ H s):∀b∈frs X.stack,b∈X.env.locals::X.fs:=fun b hb=>by
 rcases I.ok.stk with e|⟨e,hf⟩
 ·rw[e]at hb;exact List.mem_cons_of_mem _ hb
 ·rw[e]at hb;unfold frs at hb;rw[List.filterMap_cons,hf]at hb;exact hb
theorem Inv.stkFree(I:Inv X pins σ H s):∀b∈frs X.stack,H b=none:=fun b hb=>by
 rcases List.mem_cons.mp (I.stkSub b hb) with e|hb
 ·rw[e];exact I.free
 ·obtain⟨_,o,ho,_⟩:=I.ok.funs.mem hb;exact I.base.free b o ho (I.ok.frf b hb) fun z=>I.ok.exfs b z hb
theorem Inv.step{g':Array GenState}{t':Nat}{d':Drawn}{ch:List Addr}(I:Inv X pins σ H s)
  (hch:∀b∈ch,(b∈X.ex\/X.s₀.heap.objs.size<=b)/\b≠X.env.locals/\(∀x c,X.env.cells.lookup x=some c->c≠b)/\∀p∈X.pn++pins,p.1≠b)
  (keep:∀b o,b≠X.env.locals->b∉X.fs->b∉ch->s.heap.get? b=some o->H b=none->h'.get? b=some o)
  (slot:∀b o,b≠X.env.locals->b∈X.fs->b∉ch->s.heap.get? b=some o->H b=none->∃sl,h'.get? b=some { o with slots:=sl }) (free:∀b o,b∉ch->s.heap.get? b=some o->H b=none->H' b=none)
  (there:∀b o,b∉ch->s.heap.get? b=some o->∃o',h'.get? b=some o')
  (tups:∀b xs,H b=some (.tup xs)->H' b=some (.tup xs)) (frzs:∀b o u,H b=some (.frz o u)->H' b=some (.frz o u)) (tbls:∀b ps,H b=some (.tbl ps)->∃more,H' b=some (.tbl (ps++more)))
  (ns:∀m,s.heap.Ns X.env.locals m->h'.Ns X.env.locals m) (hok:HOk X.prog X.w H' h') (hg:AllBare g') :
  Inv X pins σ H' { s with heap:=h',gens:=g',drawn:=d',toks:=t' }:=by
 have neL:∀b o,X.s₀.heap.get? b=some o->b≠X.env.locals:=fun b o e=>Nat.ne_of_lt (Nat.lt_of_lt_of_le (Heap.lt_size e) I.ok.above)
 have neC:∀b o,X.s₀.heap.get? b=some o->b∉X.ex->b∉ch:=fun b o e hx hb=>by
  rcases(hch b hb).1 with z|z
  ·exact hx z
  ·exact absurd (Nat.lt_of_lt_of_le (Heap.lt_size e) z) (Nat.lt_irrefl _)
 have cellK:∀x c,X.env.cells.lookup x=some c->∀v,s.heap.IsCell c v->h'.IsCell c v:=fun x c e v ⟨o,ho,hd⟩=>by
  have nch:c∉ch:=fun z=>(hch c z).2.2.1 x c e rfl
  by_cases hc:c∈X.fs
  ·obtain⟨sl,q⟩:=slot c o (I.cne x c e) hc nch ho (I.freeC x c e);exact⟨_,q,hd⟩
  ·exact⟨o,keep c o (I.cne x c e) hc nch ho (I.freeC x c e),hd⟩
 refine⟨I.ok,I.os,hg,⟨fun b o e n hb hx=>?_,fun b o e n hb hx=>?_,fun b o e n hx=>?_,fun b o e hx=>?_,fun b xs e=>tups b xs (I.base.tups b xs e),fun b o xs e=>frzs b o xs (I.base.frzs b o xs e),fun b ps e=>?_⟩,?_,fun x c e=>?_,?_,fun x c e=>?_,fun p hp=>?_,hok,I.len⟩
 ·exact keep b o (neL b o e) hb (neC b o e hx) (I.base.keep b o e n hb hx) (I.base.free b o e n hx)
 ·obtain⟨sl,e1⟩:=I.base.slot b o e n hb hx;obtain⟨sl',e2⟩:=slot b _ (neL b o e) hb (neC b o e hx) e1 (I.base.free b o e n hx);exact⟨sl',e2⟩
 ·obtain⟨o',e1⟩:=I.base.there b o e hx;exact free b o' (neC b o e hx) e1 (I.base.free b o e n hx)
 ·obtain⟨o',e1⟩:=I.base.there b o e hx;exact there b o' (neC b o e hx) e1
 ·obtain⟨m1,e1⟩:=I.base.tbls b ps e;obtain⟨m2,e2⟩:=tbls b _ e1;exact⟨m1++m2,by rw[e2,Array.append_assoc]⟩
 ·obtain⟨m,hn,hl⟩:=I.loc;refine⟨m,ns m hn,fun i x v e1 e2 e3=>?_⟩
  obtain⟨u,r,l⟩:=hl i x v e1 e2 e3;refine⟨u,r,?_⟩;rcases l with l|⟨k,c,e,z⟩
  ·exact .inl l
  ·exact .inr ⟨k,c,e,cellK x c e _ z⟩
 ·obtain⟨v,z⟩:=I.cell x c e;exact⟨v,cellK x c e v z⟩
 ·obtain⟨m,⟨o,_,_,ho,_⟩,_⟩:=I.loc;exact free _ o (fun z=>(hch _ z).2.1 rfl) ho I.free
 ·obtain⟨v,o,ho,hd⟩:=I.cell x c e;exact free c o (fun z=>(hch c z).2.2.1 x c e rfl) ho (I.freeC x c e)
 ·obtain⟨e,n,ne,nf,d⟩:=I.pin p hp;have nch:p.1∉ch:=fun z=>(hch p.1 z).2.2.2 p hp rfl
  exact⟨keep p.1 p.2 ne nf nch e n,free p.1 p.2 nch e n,ne,nf,d⟩
theorem Inv.un{t':Nat}(I:Inv X pins σ H s)(u:Un X.fs [] H H' s.heap h')(hok:HOk X.prog X.w H' h'):Inv X pins σ H' { s with heap:=h',toks:=t' }:=by
 obtain⟨m,⟨o,es,ep,ho,r⟩,_⟩:=id I.loc;obtain⟨sl,hL⟩:=u.any ho I.free (by simp)
 exact I.step (g':=s.gens) (d':=s.drawn) (ch:=[]) (fun _ z=>nomatch z) (fun b o _ hb _ e n=>u.keep b o e n hb (by simp)) (fun b o _ hb _ e n=>u.slot b o e n hb (by simp)) (fun b o _ e n=>u.free b o e n (by simp)) (fun b o _ e=>u.there b o e (by simp)) u.tups u.frzs u.tbls (fun m' hm=>by
  obtain⟨o',es',ep',ho',r'⟩:=hm;rw[ho]at ho';cases ho';exact⟨_,es',ep',hL,r'⟩) hok I.bare
theorem Inv.call{g':Array GenState}{t':Nat}{d':Drawn}{ch:List Addr}(I:Inv X pins σ H s)(u:Un (frs X.stack) ch H H' s.heap h')(hok:HOk X.prog X.w H' h')(hg:AllBare g')
  (hch:∀b∈ch,(b∈X.ex\/X.s₀.heap.objs.size<=b)/\b≠X.env.locals/\(∀x c,X.env.cells.lookup x=some c->c≠b)/\∀p∈X.pn++pins,p.1≠b) :
  Inv X pins σ H' { s with heap:=h',gens:=g',drawn:=d',toks:=t' }:=by
 obtain⟨m,⟨o,es,ep,ho,r⟩,_⟩:=id I.loc;obtain⟨sl,hL⟩:=u.any ho I.free fun z=>(hch _ z).2.1 rfl
 exact I.step (ch:=ch) hch (fun b o hL hb hc e n=>u.keep b o e n (fun z=>(List.mem_cons.mp (I.stkSub b z)).elim hL hb) hc) (fun b o _ _ hc e n=>u.any e n hc) (fun b o hc e n=>u.free b o e n hc) (fun b o hc e=>u.there b o e hc) u.tups u.frzs u.tbls (fun m' hm=>by
  obtain⟨o',es',ep',ho',r'⟩:=hm;rw[ho]at ho';cases ho';exact⟨_,es',ep',hL,r'⟩) hok hg
theorem Inv.turned{t':Nat}{it:Addr}(I:Inv X pins σ H s)(k:∀b o,b≠it->s.heap.get? b=some o->h'.get? b=some o)(hn:H it=none)(hL:it≠X.env.locals)
  (h1:it∈X.ex\/X.s₀.heap.objs.size<=it) (h2:∀x c,X.env.cells.lookup x=some c->c≠it) (h3:∀p∈X.pn++pins,p.1≠it):Inv X pins σ H { s with heap:=h',toks:=t' }:=by
 have nit:∀b u,H b=some u->b≠it:=fun b u e z=>by rw[z,hn]at e;cases e
 refine I.step (g':=s.gens) (d':=s.drawn) (ch:=[it]) (fun b hb=>?_) (fun b o _ _ hc e _=>k b o (fun z=>hc (by simp[z])) e) (fun b o _ _ hc e _=>⟨o.slots,k b o (fun z=>hc (by simp[z])) e⟩) (fun _ _ _ _ n=>n)
  (fun b o hc e=>⟨o,k b o (fun z=>hc (by simp[z])) e⟩) (fun _ _ e=>e) (fun _ _ _ e=>e) (fun b ps e=>⟨#[],by rw[e];simp⟩) (fun m hm=>?_) (fun b u e=>?_) I.bare
 ·have e:b=it:=by simpa using hb
  subst e;exact⟨h1,hL,h2,h3⟩
 ·obtain⟨o,es,ep,ho,r⟩:=hm;exact⟨o,es,ep,k _ o (Ne.symm hL) ho,r⟩
 ·refine(I.hok b u e).stay (fun c v hc q=>k c v ?_ q) (fun _ q=>q) fun _ _ q=>q
  rcases hc with z|z
  ·rw[z];exact nit b u e
  ·exact nit c _ z
theorem Inv.tok(I:Inv X pins σ H s)(t:Nat):Inv X pins σ H { s with toks:=t }:=I.un (h':=s.heap) (t':=t) Un.refl I.hok
theorem Inv.kept{t':Nat}(I:Inv X pins σ H s)(k:∀b u,s.heap.get? b=some u->h'.get? b=some u):Inv X pins σ H { s with heap:=h',toks:=t' }:=I.un (Un.kept k) (I.hok.kept k)
theorem Inv.laid{a:Addr}{o:HO}{t':Nat}(I:Inv X pins σ H s)(k:∀b u,s.heap.get? b=some u->h'.get? b=some u)(hp:s.heap.objs.size<=a)(new:JQ X.prog X.w (upd H a o) h' a o) :
  Inv X pins σ (upd H a o) { s with heap:=h',toks:=t' }:=I.un (Un.laid k hp (I.hok.fresh hp)) (I.hok.laid k hp new)
theorem Inv.write{x e:Addr}{o:HO}{t':Nat}(I:Inv X pins σ H s)(mu:Mut (H x))(he:e=x\/H e=some (.own x))(k:∀b u,b≠e->s.heap.get? b=some u->h'.get? b=some u)(heo:∃u,h'.get? e=some u)
  (new:JQ X.prog X.w (upd H x o) h' x o):Inv X pins σ (upd H x o) { s with heap:=h',toks:=t' }:=I.un (Un.write mu he k heo) (I.hok.write mu he k heo new)
theorem Inv.weak{σ':List (Option V)}(I:Inv X pins σ H s)(hl:σ'.length=σ.length)(w:∀(i:Nat) v,σ'[i]?=some (some v)->σ[i]?=some (some v)):Inv X pins σ' H s :=
 ⟨I.ok,I.os,I.bare,I.base,let ⟨m,hn,hl'⟩:=I.loc;⟨m,hn,fun i x v e1 e2 e3=>hl' i x v e1 (w i v e2) e3⟩,I.cell,I.free,I.freeC,I.pin,I.hok,hl.trans I.len⟩
theorem Inv.pins_of{pins':qO}(I:Inv X pins σ H s)(h:∀p∈pins',s.heap.get? p.1=some p.2/\H p.1=none/\p.1≠X.env.locals/\p.1∉X.fs/\∀v,p.2.data≠.cell v):Inv X pins' σ H s :=
 ⟨I.ok,I.os,I.bare,I.base,I.loc,I.cell,I.free,I.freeC,fun p hp=>(List.mem_append.mp hp).elim (fun z=>I.pin p (List.mem_append_left _ z)) (h p),I.hok,I.len⟩
theorem zkh{N:List Str}(hN:N.Nodup){i j:Nat}{x:Str}(a:N[i]?=some x)(b:N[j]?=some x):i=j:=by
 obtain⟨h1,e1⟩:=List.getElem?_eq_some_iff.mp a;obtain⟨h2,e2⟩:=List.getElem?_eq_some_iff.mp b;exact(List.getElem_inj hN).mp (e1.trans e2.symm)
theorem zhp{M:Model}{A:Around}{E:qV}{i:Nat}{x:Str}{v:V}{u:Value}{Q:Unit->Shared->Prop}(I:Inv X pins σ H s)(hN:X.N.Nodup)(hi:X.N[i]?=some x)(hx:Loc X.env.scope x)(r:RelV v u)
  (h:∀s',Inv X pins (σ.set i (some v)) H s'->(∃a,Heap.SameBut a s.heap s'.heap/\(a=X.env.locals\/X.env.cells.lookup x=some a))->Q () s') (hf:X.fn x=true\/X.env.scope.names.lookup x=some .local:=by walk_at "F"):wpAny M A (storeName X.env x u) Q E s:=by
 obtain⟨m,hn,hl⟩:=id I.loc;have hcls:(X.env.scope.kind == .class||(X.env.scope.kind == .module&&X.env.locals != X.env.globals))=false:=by rw[I.ok.kind];rfl
 have hiσ:i<σ.length:=by rw[I.len];exact(List.getElem?_eq_some_iff.mp hi).1
 have cne:=I.cne;have tracked:∀{a:Addr} {h':Heap},(∃o,s.heap.get? a=some o/\H a=none)->Heap.SameBut a s.heap h'->HOk X.prog X.w H h':=fun {a h'} ha hs b ob e=>by
  obtain⟨_,_,hfree⟩:=ha;refine(I.hok b ob e).stay (fun c w' hc q=>(hs.2 c ?_).trans q) (fun _ q=>q) fun _ _ q=>q
  rintro rfl;rcases hc with rfl|hc
  ·rw[hfree]at e;cases e
  ·rw[hfree]at hc;cases hc
 rcases hx with hk|hk
 ·refine wpAny_storeName_local hk hn (fun h' hn' hs=>?_) hcls
  obtain⟨oL,_,_,hoL,_⟩:=id hn;refine h _ ⟨I.ok,I.os,I.bare,⟨fun b o e n hb hx=>?_,fun b o e n hb hx=>?_,I.base.free,fun b o e hx=>?_,I.base.tups,I.base.frzs,I.base.tbls⟩,⟨_,hn',fun j y v' e1 e2 e3=>?_⟩,fun y c e=>?_,I.free,I.freeC,fun p hp=>?_,tracked ⟨oL,hoL,I.free⟩ hs,by simpa using I.len⟩ ⟨_,hs,.inl rfl⟩
  ·exact(hs.2 b (Nat.ne_of_lt (Nat.lt_of_lt_of_le (Heap.lt_size e) I.ok.above))).trans (I.base.keep b o e n hb hx)
  ·obtain⟨sl,e1⟩:=I.base.slot b o e n hb hx;exact⟨sl,(hs.2 b (Nat.ne_of_lt (Nat.lt_of_lt_of_le (Heap.lt_size e) I.ok.above))).trans e1⟩
  ·obtain⟨o',e1⟩:=I.base.there b o e hx;exact⟨o',(hs.2 b (Nat.ne_of_lt (Nat.lt_of_lt_of_le (Heap.lt_size e) I.ok.above))).trans e1⟩
  ·by_cases hj:j=i
   ·subst hj;rw[hi]at e1;cases e1;rw[List.getElem?_set_self hiσ]at e2;cases e2;exact⟨u,r,.inl ⟨hk,by simp⟩⟩
   ·rw[List.getElem?_set_ne (Ne.symm hj)]at e2;obtain⟨u',r',q⟩:=hl j y v' e1 e2 e3;refine⟨u',r',?_⟩;rcases q with⟨k,e⟩|⟨k,c,e,z⟩
    ·refine .inl ⟨k,?_⟩;have:y≠x:=fun e=>hj (zkh hN e1 (e▸hi))
     simp[this,e]
    ·exact .inr ⟨k,c,e,z.sameBut hs (cne y c e)⟩
  ·obtain⟨w',z⟩:=I.cell y c e;exact⟨w',z.sameBut hs (cne y c e)⟩
  ·obtain⟨e,n,ne,nf,d⟩:=I.pin p hp;exact⟨(hs.2 p.1 ne).trans e,n,ne,nf,d⟩
 ·have hfn:X.fn x=true:=by
   rcases hf with z|z
   ·exact z
   ·rw[z]at hk;cases hk
  obtain⟨c,hc⟩:=I.ok.has x (.inl hk);obtain⟨w',z⟩:=I.cell x c hc;refine wpAny_storeName_cell I.ok.kind hk hc z (fun h' hc' hs=>?_)
  obtain⟨oc,hoc,hocd⟩:=id z;refine h { s with heap:=h' } ⟨I.ok,I.os,I.bare,⟨fun b o e n hb hx=>?_,fun b o e n hb hx=>?_,I.base.free,fun b o e hx=>?_,I.base.tups,I.base.frzs,I.base.tbls⟩,⟨m,hn.sameBut hs (Ne.symm (cne x c hc)),fun j y v' e1 e2 e3=>?_⟩,fun y c' e=>?_,I.free,I.freeC,fun p hp=>?_,tracked ⟨oc,hoc,I.freeC x c hc⟩ hs,by simpa using I.len⟩ ⟨c,hs,.inr hc⟩
  ·exact(hs.2 b (Nat.ne_of_lt (Nat.lt_of_lt_of_le (Heap.lt_size e) (I.ok.cab x c hfn hc)))).trans (I.base.keep b o e n hb hx)
  ·obtain⟨sl,e1⟩:=I.base.slot b o e n hb hx;exact⟨sl,(hs.2 b (Nat.ne_of_lt (Nat.lt_of_lt_of_le (Heap.lt_size e) (I.ok.cab x c hfn hc)))).trans e1⟩
  ·obtain⟨o',e1⟩:=I.base.there b o e hx;exact⟨o',(hs.2 b (Nat.ne_of_lt (Nat.lt_of_lt_of_le (Heap.lt_size e) (I.ok.cab x c hfn hc)))).trans e1⟩
  ·by_cases hj:j=i
   ·subst hj;rw[hi]at e1;cases e1;rw[List.getElem?_set_self hiσ]at e2;cases e2;exact⟨u,r,.inr ⟨.inl hk,c,hc,hc'⟩⟩
   ·rw[List.getElem?_set_ne (Ne.symm hj)]at e2;obtain⟨u',r',q⟩:=hl j y v' e1 e2 e3;refine⟨u',r',?_⟩;rcases q with q|⟨k,c',e,z'⟩
    ·exact .inl q
    ·refine .inr ⟨k,c',e,z'.sameBut hs ?_⟩;rintro rfl;exact hj (zkh hN e1 (I.ok.inj _ _ _ e hc▸hi))
  ·by_cases hcc:c'=c
   ·subst hcc;exact⟨_,hc'⟩
   ·obtain⟨w2,z2⟩:=I.cell y c' e;exact⟨w2,z2.sameBut hs hcc⟩
  ·obtain⟨e,n,ne,nf,d⟩:=I.pin p hp;refine⟨(hs.2 p.1 ?_).trans e,n,ne,nf,d⟩;intro q;rw[q,hoc]at e;have q':oc=p.2:=Option.some.inj e;exact d w' (by rw[<- q'];exact hocd)
theorem zgs{M:Model}{A:Around}{E:qV}{i:Nat}{x:Str}{v:V}{u:Value}{Q:Unit->Shared->Prop}(I:Inv X pins σ H s)(hN:X.N.Nodup)(hi:X.N[i]?=some x)(hx:Loc X.env.scope x)(r:RelV v u)
  (h:∀s',Inv X pins (σ.set i (some v)) H s'->Q () s') (hf:X.fn x=true\/X.env.scope.names.lookup x=some .local:=by walk_at "F"):wpAny M A (storeName X.env x u) Q E s :=
 zhp I hN hi hx r (fun s' I' _=>h s' I') hf
theorem Inv.call'{s':Shared}{ch:List Addr}(I:Inv X pins σ H s)(ho:s'.os=s.os)(u:Un (frs X.stack) ch H H' s.heap s'.heap)(hok:HOk X.prog X.w H' s'.heap)(hg:AllBare s'.gens)
  (hch:∀b∈ch,(b∈X.ex\/X.s₀.heap.objs.size<=b)/\b≠X.env.locals/\(∀x c,X.env.cells.lookup x=some c->c≠b)/\∀p∈X.pn++pins,p.1≠b):Inv X pins σ H' s':=by
 obtain⟨h',g',d',t',o'⟩:=s';have e:o'=s.os:=ho;subst e;exact I.call (g':=g') (t':=t') (d':=d') u hok hg hch
end
abbrev XK:=Value->Option Addr->Hp->Prop
abbrev St:=List (Option V)
abbrev VK:=V->Hp->Prop
abbrev TE:=St->Hp->VK->Prop
abbrev TT:=St->Hp->(Bool->Hp->Prop)->Prop
abbrev TA:=St->Hp->(List V->Hp->Prop)->Prop
structure Ends where
 nx:St->Hp->Prop
 rt:VK
 bk:St->Hp->Prop:=fun _ _=>False
 ct:St->Hp->Prop:=fun _ _=>False
abbrev TS:=Ends->St->Hp->Prop
def EP(X:Cx)(pins:qO)(σ:St)(Q:VK)(u:Value)(s':Shared):Prop:=∃v H',Inv X pins σ H' s'/\RelV v u/\Q v H'
def TP(X:Cx)(pins:qO)(σ:St)(Q:Bool->Hp->Prop)(b:Bool)(s':Shared):Prop:=∃H',Inv X pins σ H' s'/\Q b H'
def AP(X:Cx)(pins:qO)(σ:St)(Q:List V->Hp->Prop)(us:List Value)(s':Shared):Prop:=∃vs H',Inv X pins σ H' s'/\Vals vs us/\Q vs H'
def SP(X:Cx)(pins:qO)(D:Ends)(f:Flow)(s':Shared):Prop :=
 match f with
 | .next=>∃σ' H',Inv X pins σ' H' s'/\D.nx σ' H'
 | .brk=>∃σ' H',Inv X pins σ' H' s'/\D.bk σ' H'
 | .cont=>∃σ' H',Inv X pins σ' H' s'/\D.ct σ' H'
 | .ret u=>∃v σ' H',Inv X pins σ' H' s'/\RelV v u/\D.rt v H'
def PE(X:Cx)(e:Expr)(t:TE):Prop :=
 ∀(pins:qO) (s:Shared) (σ:St) (H:Hp) (Q:VK),Inv X pins σ H s->t σ H Q->wpAny (model X.prog X.w) X.A (eval e X.env) (EP X pins σ Q) X.xe s
def PT(X:Cx)(e:Expr)(t:TT):Prop :=
 ∀(pins:qO) (s:Shared) (σ:St) (H:Hp) (Q:Bool->Hp->Prop),Inv X pins σ H s->t σ H Q->wpAny (model X.prog X.w) X.A (isTrue e X.env (eval e X.env)) (TP X pins σ Q) X.xe s
def PW(X:Cx)(e:Expr)(t:TT):Prop :=
 ∀(whole:Sem Value) (pins:qO) (s:Shared) (σ:St) (H:Hp) (Q:Bool->Hp->Prop),Inv X pins σ H s->t σ H Q->wpAny (model X.prog X.w) X.A (isTrue e X.env whole) (TP X pins σ Q) X.xe s
theorem PW.pt{X:Cx}{e:Expr}{t:TT}(h:PW X e t):PT X e t:=h _
def PA(X:Cx)(es:List Expr)(t:TA):Prop :=
 ∀(pos:Pos) (pins:qO) (s:Shared) (σ:St) (H:Hp) (Q:List V->Hp->Prop),Inv X pins σ H s->t σ H Q->wpAny (model X.prog X.w) X.A (spliced (backTo pos (starEach es X.env))) (AP X pins σ Q) X.xe s
def PS(X:Cx)(st:Stmt)(t:TS):Prop :=
 ∀(pins:qO) (s:Shared) (σ:St) (H:Hp) (D:Ends),Inv X pins σ H s->t D σ H->wpAny (model X.prog X.w) X.A (exec st X.env) (SP X pins D) X.xe s
def PSs(X:Cx)(st:List Stmt)(t:TS):Prop :=
 ∀(pins:qO) (s:Shared) (σ:St) (H:Hp) (D:Ends),Inv X pins σ H s->t D σ H->wpAny (model X.prog X.w) X.A (execs st X.env) (SP X pins D) X.xe s
theorem thn{α:Type}{t:Sem α}{Q Q':α->Shared->Prop}{M:Model}{A:Around}{E:qV}{s:Shared}(h:wpAny M A t Q E s)(hQ:∀a s,Q a s->Q' a s):wpAny M A t Q' E s:=wpAny_mono h hQ fun _ _ x=>x
section
variable{X:Cx}
def tVar(i:Nat):TE:=fun σ H Q=>∃v,σ[i]?=some (some v)/\Q v H
def tC(v:V):TE:=fun _ H Q=>Q v H
theorem Q3{i:Nat}{x:Str}{pos:Pos}(hN:X.N[i]?=some x)(hv:Vis X.env.scope x)(hd:(x == ("__debug__":Str))=false:=by decide) (hcd:(x == ("__classdict__":Str))=false:=by decide):PE X (.Name x pos) (tVar i):=by
 intro pins s σ H Q I h;obtain⟨v,e,h⟩:=h;obtain⟨m,hn,hl⟩:=I.loc;obtain⟨u,r,l⟩:=hl i x v hN e hv;have fin:EP X pins σ Q u s:=⟨v,H,I,r,h⟩;rcases l with⟨hk,hm⟩|⟨hk,c,hc,hcell⟩
 ·exact wpAny_Name (wpAny_loadName_local I.ok.kind hk hn hm fin) hd
 ·rcases hk with hk|hk
  ·exact wpAny_Name (wpAny_loadName_cell I.ok.kind hk hc hcell fin) hd
  ·exact wpAny_Name (wpAny_loadName_free I.ok.kind hk hc hcell fin hcd) hd
theorem JK{i j pos}:PE X (.Constant (.int i) j pos) (tC (.int i)):=fun _ _ _ H _ I h=>wpAny_Constant_int ⟨.int i,H,I.tok _,⟨_,rfl⟩,h⟩
theorem zvt{b j pos}:PE X (.Constant (.bool b) j pos) (tC (.bl b)):=fun _ _ _ H _ I h=>Constant_bool ⟨.bl b,H,I,rfl,h⟩
theorem zsj{j pos}:PE X (.Constant .none j pos) (tC .non):=fun _ _ _ H _ I h=>Constant_none ⟨.non,H,I,rfl,h⟩
theorem zsg{x j pos}:PE X (.Constant (.str x) j pos) (tC (.str x)):=fun _ _ _ H _ I h=>Calls.Constant_str ⟨.str x,H,I.tok _,⟨_,rfl⟩,h⟩
def Gl(X:Cx)(x:Str):Prop:=X.env.kindOf x=some .globalImplicit
theorem zqG{E:qV}{pins:qO}{s:Shared}{σ:St}{H:Hp}{x:Str}{u:Value}{pos:Pos}{Q:qV}(I:Inv X pins σ H s)(hg:Gl X x)(hm:X.mg x=some u)(h:Q u s)
  (hd:(x == ("__debug__":Str))=false:=by decide):wpAny (model X.prog X.w) X.A (eval (.Name x pos) X.env) Q E s :=
 Calls.Name_function_global I.ok.kind hg (Calls.loadGlobal_global (by rw[I.ok.glob];exact I.mod.glob.keeps I.bk) hm h) hd
theorem Y5{E:qV}{pins:qO}{s:Shared}{σ:St}{H:Hp}{x:Str}{u:Value}{pos:Pos}{Q:qV}(I:Inv X pins σ H s)(hg:Gl X x)(hm:X.mg x=none)(hv:bootBuiltins x=some u)(h:Q u s)
  (hn:x ≠ "__name__":=by decide) (hd:(x == ("__debug__":Str))=false:=by decide):wpAny (model X.prog X.w) X.A (eval (.Name x pos) X.env) Q E s:=by
 obtain⟨mb,h1,h2⟩:=I.mod.blt;exact Calls.Name_function_global I.ok.kind hg (Calls.loadGlobal_builtin (by rw[I.ok.glob];exact I.mod.glob.keeps I.bk) hm (by rw[I.ok.blt];exact h1.keeps I.bk) ((h2 x hn).trans hv) h) hd
theorem zqm{x:Str}{v:V}{u:Value}{pos:Pos}(hg:Gl X x)(hm:X.mg x=none)(hv:bootBuiltins x=some u)(r:RelV v u)(hn:x ≠ "__name__":=by decide) (hd:(x == ("__debug__":Str))=false:=by decide):PE X (.Name x pos) (tC v) :=
 fun _ _ _ H _ I h=>Y5 I hg hm hv ⟨v,H,I,r,h⟩ hn hd
variable{a b:Expr}{ta tb:TE}{pos:Pos}
variable{tA tB':TT}{rest:List Expr}
def tAnd(t u:TT):TT:=fun σ H Q=>t σ H fun c H1=>if c=true then u σ H1 Q else Q false H1
def tOr(t u:TT):TT:=fun σ H Q=>t σ H fun c H1=>if c=true then Q true H1 else u σ H1 Q
def tNot(t:TT):TT:=fun σ H Q=>t σ H fun c H1=>Q (!c) H1
theorem zp7(ha:PT X a tA):PW X (.BoolOp .And [a] pos) tA:=by
 intro wh pins s σ H Q I h;refine isTrue_and (thn (ha pins s σ H Q I h) fun c s1 e=>?_)
 cases c with
 | true=>exact isTrue_and_nil e
 | false=>exact e
theorem zr3(ha:PT X a tA):PW X (.BoolOp .Or [a] pos) tA:=by
 intro wh pins s σ H Q I h;refine isTrue_or (thn (ha pins s σ H Q I h) fun c s1 e=>?_)
 cases c with
 | false=>exact isTrue_or_nil e
 | true=>exact e
theorem zr4(ha:PT X a tA)(hb:PW X (.BoolOp .And (b::rest) pos) tB'):PW X (.BoolOp .And (a::b::rest) pos) (tAnd tA tB'):=by
 intro wh pins s σ H Q I h;refine isTrue_and (thn (ha pins s σ H _ I h) fun c s1 ⟨H1,I1,q1⟩=>?_)
 cases c with
 | true=>exact hb wh pins s1 σ H1 Q I1 q1
 | false=>exact⟨H1,I1,q1⟩
theorem zvo(ha:PT X a tA)(hb:PW X (.BoolOp .Or (b::rest) pos) tB'):PW X (.BoolOp .Or (a::b::rest) pos) (tOr tA tB'):=by
 intro wh pins s σ H Q I h;refine isTrue_or (thn (ha pins s σ H _ I h) fun c s1 ⟨H1,I1,q1⟩=>?_)
 cases c with
 | true=>exact⟨H1,I1,q1⟩
 | false=>exact hb wh pins s1 σ H1 Q I1 q1
theorem zr6(ha:PT X a tA):PT X (.UnaryOp .Not a pos) (tNot tA):=by
 intro pins s σ H Q I h;exact isTrue_not (ha pins s σ H (fun c H1=>Q (!c) H1) I h)
def zuP(ta tb:TE):TE:=fun σ H Q=>ta σ H fun x H1=>∃c,x=.bl c/\if c=true then tb σ H1 Q else Q (.bl false) H1
def tOrV(ta tb:TE):TE:=fun σ H Q=>ta σ H fun x H1=>∃c,x=.bl c/\if c=true then Q (.bl true) H1 else tb σ H1 Q
def zuM(ta:TE):TE:=fun σ H Q=>ta σ H fun x H1=>∃c,x=.bl c/\Q (.bl (!c)) H1
theorem zsh{op}{t:TE}(h:PE X a t):PE X (.BoolOp op [a] pos) t:=fun pins s σ H Q I hw=>BoolOp_one (h pins s σ H Q I hw)
theorem zsn(ha:PE X a ta)(hb:PE X (.BoolOp .And (b::rest) pos) tb):PE X (.BoolOp .And (a::b::rest) pos) (zuP ta tb):=by
 intro pins s σ H Q I h;refine BoolOp_and (thn (ha pins s σ H _ I h) fun v s1 ⟨x,H1,I1,r1,q1⟩=>?_)
 obtain⟨c,rfl,q1⟩:=q1;cases r1;refine wpAny_truthy_bool ?_;cases c with
 | true=>exact hb pins s1 σ H1 Q I1 q1
 | false=>exact⟨.bl false,H1,I1,rfl,q1⟩
theorem zvs(ha:PE X a ta)(hb:PE X (.BoolOp .Or (b::rest) pos) tb):PE X (.BoolOp .Or (a::b::rest) pos) (tOrV ta tb):=by
 intro pins s σ H Q I h;refine BoolOp_or (thn (ha pins s σ H _ I h) fun v s1 ⟨x,H1,I1,r1,q1⟩=>?_)
 obtain⟨c,rfl,q1⟩:=q1;cases r1;refine wpAny_truthy_bool ?_;cases c with
 | false=>exact hb pins s1 σ H1 Q I1 q1
 | true=>exact⟨.bl true,H1,I1,rfl,q1⟩
theorem zsi(ha:PE X a ta):PE X (.UnaryOp .Not a pos) (zuM ta):=by
 intro pins s σ H Q I h;refine UnaryOp_ (thn (ha pins s σ H _ I h) fun v s1 ⟨x,H1,I1,r1,q1⟩=>?_)
 obtain⟨c,rfl,q1⟩:=q1;cases r1;exact not_of (wpAny_truthy_bool ⟨.bl (!c),H1,I1,rfl,q1⟩)
def tIf(t:TT)(ta tb:TE):TE:=fun σ H Q=>t σ H fun c H1=>if c=true then ta σ H1 Q else tb σ H1 Q
theorem zoJ{c:Expr}(hc:PT X c tA)(ha:PE X a ta)(hb:PE X b tb):PE X (.IfExp c a b pos) (tIf tA ta tb):=by
 intro pins s σ H Q I h;refine wpAny_IfExp (thn (hc pins s σ H _ I h) fun d s1 ⟨H1,I1,q1⟩=>?_)
 cases d with
 | true=>exact ha pins s1 σ H1 Q I1 q1
 | false=>exact hb pins s1 σ H1 Q I1 q1
end
def SqL(K:qF)(H:Hp)(a:Addr)(xs:List V):Prop :=
 Rd H a (.lst xs) \/
  ∃(o:Obj) (its:Array Value) (n:Nat),K.lookup a=some o/\o.cls=.type "list" /\ o.dict=none/\o.data=.seq its n/\its.size<=sizeLine/\Vals xs its.toList
def SqT(K:qF)(H:Hp)(a:Addr)(xs:List V):Prop :=
 Rd H a (.tup xs) \/
  ∃(o:Obj) (its:Array Value) (n:Nat),K.lookup a=some o/\o.cls=.type "tuple" /\ o.data=.seq its n/\its.size<=sizeLine/\Vals xs its.toList
def absV:Value->Option V
 | .none=>some .non
 | .bool b=>some (.bl b)
 | .int i _=>some (.int i)
 | .str x _=>some (.str x)
 | .bytes b _=>some (.byt b)
 | .float b _=>some (.flt b)
 | .ref a=>some (.ref a)
 | .type n=>some (.ty n)
 | _=>none
theorem RelV.abs{x:V}{u:Value}(r:RelV x u):absV u=some x:=by
 cases x with
 | non=>cases r;rfl
 | bl _=>cases r;rfl
 | int _=>obtain⟨t,rfl⟩:=r;rfl
 | str _=>obtain⟨t,rfl⟩:=r;rfl
 | byt _=>obtain⟨t,rfl⟩:=r;rfl
 | flt _=>obtain⟨t,rfl⟩:=r;rfl
 | ref _=>cases r;rfl
 | ty _=>cases r;rfl
theorem RelV.inj{x y:V}{u:Value}(r:RelV x u)(q:RelV y u):x=y:=Option.some.inj (r.abs.symm.trans q.abs)
theorem Vals.inj:∀{xs ys:List V}{us:List Value},Vals xs us->Vals ys us->xs=ys
 | _,_,_,.nil,.nil=>rfl
 | _,_,_,.cons r t,.cons r' t'=>by rw[r.inj r',Vals.inj t t']
section
variable{X:Cx}{pins:qO}{σ:St}{H:Hp}{s:Shared}{a:Addr}{xs ys:List V}
theorem SqL.of{K:qF}(h:H a=some (.lst xs)):SqL K H a xs:=.inl (.inl h)
theorem Inv.list(I:Inv X pins σ H s)(h:SqL X.K H a xs):∃its:List Value,Vals xs its/\PlainL s.heap a its.toArray/\xs.length<=sizeLine:=by
 rcases h with h|⟨o,its,n,hk,hc,hd,hs,hz,r⟩
 ·obtain⟨z,its,n,r,e⟩:=h.ok I.hok;exact⟨its,r,⟨_,n,e,rfl,rfl,rfl⟩,z⟩
 ·refine⟨its.toList,r,⟨o,n,I.kIn a o hk,hc,hd,by simpa using hs⟩,?_⟩
  have e:=r.length;simp only[Array.length_toList]at e;lia
theorem Inv.tuple(I:Inv X pins σ H s)(h:SqT X.K H a xs):∃its:List Value,Vals xs its/\IsTup s.heap a its.toArray/\xs.length<=sizeLine:=by
 rcases h with h|⟨o,its,n,hk,hc,hs,hz,r⟩
 ·obtain⟨z,its,r,p⟩:=h.ok I.hok;exact⟨its,r,p.tup,z⟩
 ·refine⟨its.toList,r,⟨o,I.kIn a o hk,hc,n,by simpa using hs⟩,?_⟩
  have e:=r.length;simp only[Array.length_toList]at e;lia
theorem Inv.list_inj(I:Inv X pins σ H s)(h:SqL X.K H a xs)(h':SqL X.K H a ys):xs=ys:=by
 obtain⟨its,r,⟨o,n,e,_,_,d⟩,_⟩:=I.list h;obtain⟨its',r',⟨o',n',e',_,_,d'⟩,_⟩:=I.list h';rw[e]at e';cases e';rw[d]at d'
 injection d' with d1 _
 have:its=its':=by simpa using congrArg Array.toList d1
 subst this;exact r.inj r'
theorem Inv.tuple_inj(I:Inv X pins σ H s)(h:SqT X.K H a xs)(h':SqT X.K H a ys):xs=ys:=by
 obtain⟨its,r,⟨o,e,_,n,d⟩,_⟩:=I.tuple h;obtain⟨its',r',⟨o',e',_,n',d'⟩,_⟩:=I.tuple h';rw[e]at e';cases e';rw[d]at d'
 injection d' with d1 _
 have:its=its':=by simpa using congrArg Array.toList d1
 subst this;exact r.inj r'
end
abbrev Cx.wish(X:Cx)(E:qV):Cx:={ X with xe:=E }
abbrev Cx.nox(X:Cx):Cx:=X.wish fun _ _=>False
theorem Cx.Ok.wish{X:Cx}(ok:X.Ok)(E:qV):(X.wish E).Ok :=
 ⟨ok.mod,ok.kind,ok.glob,ok.blt,ok.above,ok.inj,ok.has,ok.cab,ok.hd,ok.frames,ok.stk,ok.exf,ok.bs,ok.bsz,ok.noex,ok.exfs,ok.funs,ok.frf⟩
theorem Cx.Ok.unwish{X:Cx}{E:qV}(ok:(X.wish E).Ok):X.Ok :=
 ⟨ok.mod,ok.kind,ok.glob,ok.blt,ok.above,ok.inj,ok.has,ok.cab,ok.hd,ok.frames,ok.stk,ok.exf,ok.bs,ok.bsz,ok.noex,ok.exfs,ok.funs,ok.frf⟩
section
variable{X:Cx}{pins:qO}{σ:St}{H:Hp}{s:Shared}{E:qV}
theorem Inv.wish(I:Inv X pins σ H s)(E:qV):Inv (X.wish E) pins σ H s:=⟨I.ok.wish E,I.os,I.bare,I.base,I.loc,I.cell,I.free,I.freeC,I.pin,I.hok,I.len⟩
theorem Inv.unwish(I:Inv (X.wish E) pins σ H s):Inv X pins σ H s:=⟨I.ok.unwish,I.os,I.bare,I.base,I.loc,I.cell,I.free,I.freeC,I.pin,I.hok,I.len⟩
theorem SP.unwish{D:Ends}{f:Flow}{s':Shared}(h:SP (X.wish E) pins D f s'):SP X pins D f s':=by
 cases f with
 | next=>obtain⟨σ',H',I,q⟩:=h;exact⟨σ',H',I.unwish,q⟩
 | brk=>obtain⟨σ',H',I,q⟩:=h;exact⟨σ',H',I.unwish,q⟩
 | cont=>obtain⟨σ',H',I,q⟩:=h;exact⟨σ',H',I.unwish,q⟩
 | ret u=>obtain⟨v,σ',H',I,r,q⟩:=h;exact⟨v,σ',H',I.unwish,r,q⟩
theorem PSs.nox{st:List Stmt}{t:TS}(h:PSs X.nox st t):PSs X st t:=fun pins s σ H D I hw =>
 wpAny_mono (h pins s σ H D (I.wish _) hw) (fun _ _ q=>q.unwish) fun _ _ z=>False.elim z
end
section
variable{X:Cx}{st:Stmt}{rest:List Stmt}{t u:TS}{e:Expr}{te:TE}{pos:Pos}
def zuN:TS:=fun D σ H=>D.nx σ H
def tSeq(t u:TS):TS:=fun D σ H=>t { D with nx:=u D } σ H
theorem ziY:PSs X [] zuN:=fun _ _ σ H _ I h=>wpAny_execs_nil ⟨σ,H,I,h⟩
theorem QG(h1:PS X st t)(h2:PSs X rest u):PSs X (st::rest) (tSeq t u):=by
 intro pins s σ H D I h;refine wpAny_execs_cons (thn (h1 pins s σ H { D with nx:=u D } I h) fun f s1 q=>?_)
 cases f with
 | next =>
  obtain⟨σ',H',I',q⟩:=q;exact h2 pins s1 σ' H' D I' q
 | ret v=>exact q
 | brk=>exact q
 | cont=>exact q
theorem ZY(h1:PS X st t):PSs X [st] t:=by
 intro pins s σ H D I h;refine wpAny_execs_cons (thn (h1 pins s σ H D I h) fun f s1 q=>?_)
 cases f with
 | next=>exact wpAny_execs_nil q
 | ret v=>exact q
 | brk=>exact q
 | cont=>exact q
theorem Inv.quiet{pins:qO}{σ:St}{H:Hp}{s:Shared}(I:Inv X pins σ H s):interactive X.env=false:=by simp[interactive,I.ok.kind]
def zuO(te:TE):TS:=fun D σ H=>te σ H fun _ H1=>D.nx σ H1
theorem ziZ(he:PE X e te)(hs:swapsWith e none pos.line X.env=pure false:=by rfl):PS X (.Expr e pos) (zuO te):=by
 intro pins s σ H D I h;exact wpAny_Expr_any (thn (he pins s σ H _ I h) fun v s1 ⟨x,H1,I1,r1,q1⟩=>⟨σ,H1,I1,q1⟩) I.quiet hs
def tRet(te:TE):TS:=fun D σ H=>te σ H D.rt
theorem Vx(he:PE X e te):PS X (.Return (some e) pos) (tRet te):=by
 intro pins s σ H D I h;exact wpAny_Return_some (thn (he pins s σ H _ I h) fun v s1 ⟨x,H1,I1,r1,q1⟩=>⟨x,σ,H1,I1,r1,q1⟩)
def tIfS(c:TT)(t u:TS):TS:=fun D σ H=>c σ H fun b H1=>if b=true then t D σ H1 else u D σ H1
theorem zp_{c:Expr}{a b:List Stmt}{tc:TT}(hc:PT X c tc)(ha:PSs X a t)(hb:PSs X b u):PS X (.If c a b pos) (tIfS tc t u):=by
 intro pins s σ H D I h;refine wpAny_If (thn (hc pins s σ H _ I h) fun d s1 ⟨H1,I1,q1⟩=>?_)
 cases d with
 | true=>exact ha pins s1 σ H1 D I1 q1
 | false=>exact hb pins s1 σ H1 D I1 q1
end
abbrev TG:=V->St->Hp->(St->Hp->Prop)->Prop
abbrev TGs:=List V->St->Hp->(St->Hp->Prop)->Prop
def PG(X:Cx)(target:Expr)(t:TG):Prop :=
 ∀(pins:qO) (s:Shared) (σ:St) (H:Hp) (v:V) (u:Value) (Q:St->Hp->Prop),Inv X pins σ H s->RelV v u->t v σ H Q ->
  wpAny (model X.prog X.w) X.A (assign target X.env u) (fun _ s'=>∃σ' H',Inv X pins σ' H' s'/\Q σ' H') X.xe s
def PGs(X:Cx)(ts:List Expr)(t:TGs):Prop :=
 ∀(pins:qO) (s:Shared) (σ:St) (H:Hp) (vs:List V) (us:List Value) (Q:St->Hp->Prop),Inv X pins σ H s->Vals vs us->t vs σ H Q ->
  wpAny (model X.prog X.w) X.A (assignInOrder ((assignEach ts X.env).map (·.2)) us) (fun _ s'=>∃σ' H',Inv X pins σ' H' s'/\Q σ' H') X.xe s
abbrev TSet:=V->V->V->Hp->(Hp->Prop)->Prop
def PSet(X:Cx)(t:TSet):Prop :=
 ∀(pins:qO) (s:Shared) (σ:St) (H:Hp) (o i v:V) (ov iv u:Value) (Q:Hp->Prop),Inv X pins σ H s->RelV o ov->RelV i iv->RelV v u->t o i v H Q ->
  wpAny (model X.prog X.w) X.A (setItem ov iv u) (fun _ s'=>∃H',Inv X pins σ H' s'/\Q H') X.xe s
abbrev TIp:=V->V->Hp->VK->Prop
def PIp(X:Cx)(op:Operator)(t:TIp):Prop :=
 ∀(pins:qO) (s:Shared) (σ:St) (H:Hp) (x y:V) (v u:Value) (Q:VK),Inv X pins σ H s->RelV x v->RelV y u->t x y H Q ->
  wpAny (model X.prog X.w) X.A (inplaceOp op v u) (EP X pins σ Q) X.xe s
section
variable{X:Cx}{pos:Pos}
def Ve(i:Nat):TG:=fun v σ H Q=>Q (σ.set i (some v)) H
theorem zqh{i:Nat}{x:Str}(hN:X.N.Nodup)(hi:X.N[i]?=some x)(hx:Loc X.env.scope x)(hf:X.fn x=true\/X.env.scope.names.lookup x=some .local:=by walk_at "F"):PG X (.Name x pos) (Ve i):=by
 intro pins s σ H v u Q I r h;exact wpAny_assign_Name (zgs I hN hi hx r (fun s' I'=>⟨_,H,I',h⟩) hf)
def gNil:TGs:=fun vs σ H Q=>vs=[]/\Q σ H
def zwg(t:TG)(u:TGs):TGs:=fun vs σ H Q=>∃v r,vs=v::r/\t v σ H fun σ' H'=>u r σ' H' Q
theorem zqg:PGs X [] gNil:=by
 intro pins s σ H vs us Q I r h;obtain⟨e,h⟩:=h;subst e;cases r;exact assignInOrder_nil ⟨σ,H,I,h⟩
theorem zoH{e:Expr}{es:List Expr}{t:TG}{u:TGs}(h1:PG X e t)(h2:PGs X es u)
  (hs:(assignEach (e::es) X.env).map (·.2)=assign e X.env::(assignEach es X.env).map (·.2):=by rfl):PGs X (e::es) (zwg t u):=by
 intro pins s σ H vs us Q I r h;obtain⟨v,vr,e1,h⟩:=h;subst e1;cases r with
 | cons r rr =>
  rw[hs];refine assignInOrder_cons (thn (h1 pins s σ H _ _ _ I r h) fun _ s1 ⟨σ1,H1,I1,q1⟩=>?_)
  exact h2 pins s1 σ1 H1 _ _ Q I1 rr q1
def gTup(K:qF)(n:Nat)(t:TGs):TG:=fun v σ H Q=>∃a xs,v=.ref a/\SqT K H a xs/\xs.length=n/\t xs σ H Q
theorem zse{es:List Expr}{k:Nat}{t:TGs}{n:Nat}(hc:X.calm=true)(h:PGs X es t)
  (hn:(assignEach es X.env).length=n:=by rfl) (hst:(assignEach es X.env).findIdx? (·.1)=none:=by rfl):PG X (.Tuple es k pos) (gTup X.K n t):=by
 intro pins s σ H v u Q I r hw;obtain⟨a,xs,e1,hq,hl,hw⟩:=hw;subst e1;cases r;obtain⟨its,rv,ht,hz⟩:=I.tuple hq;refine assign_Tuple_tuple (I.ok.hd hc) ht (by simp[hn,<- hl,rv.length]) hst fun h' hx=>?_
 have I1:Inv X pins σ H { s with heap:=h' }:=I.kept (t':=s.toks) fun b o e=>hx b o (Nat.ne_of_lt (Heap.lt_size e)) e
 exact h pins _ σ H xs _ Q I1 (by simpa using rv) hw
def gSub(to ti:TE)(t:TSet):TG:=fun v σ H Q=>to σ H fun o H1=>ti σ H1 fun i H2=>t o i v H2 fun H3=>Q σ H3
theorem pg_sub{o i:Expr}{to ti:TE}{t:TSet}(ho:PE X o to)(hi:PE X i ti)(hs:PSet X t)
  (ha:∀v,assign (.Subscript o i pos) X.env v=(do
   let ov <- holding [v] (eval o X.env)
   let iv <- holding [v,ov] (eval i X.env)
   standAt pos
   holding [v,ov,iv] (setItem ov iv v)
   release [v,ov,iv] []):=by intro _;rfl):PG X (.Subscript o i pos) (gSub to ti t):=by
 intro pins s σ H v u Q I r h;rw[ha];refine wpAny_bind (wpAny_holding (thn (ho pins s σ H _ I h) fun ov s1 ⟨x,H1,I1,r1,q1⟩=>?_))
 refine wpAny_bind (wpAny_holding (thn (hi pins s1 σ H1 _ I1 q1) fun iv s2 ⟨y,H2,I2,r2,q2⟩=>?_))
 refine wpAny_bind (wpAny_standAt (wpAny_bind (wpAny_holding (thn (hs pins s2 σ H2 x y v ov iv u _ I2 r1 r2 r q2) fun _ s3 ⟨H3,I3,q3⟩=>?_))))
 exact wpAny_release ⟨σ,H3,I3,q3⟩
def tAsg(te:TE)(g:TG):TS:=fun D σ H=>te σ H fun x H1=>g x σ H1 D.nx
theorem Vw{tg e:Expr}{te:TE}{g:TG}(he:PE X e te)(hg:PG X tg g)(hs:swapsWithSole [tg] e pos.line X.env=pure false:=by rfl)(hw:swappedStores [tg] e X.env=pure none:=by rfl)
  (h1:(assignEach [tg] X.env).map (·.2)=[assign tg X.env]:=by rfl):PS X (.Assign [tg] e pos) (tAsg te g):=by
 intro pins s σ H D I h;refine wpAny_Assign_stores (thn (he pins s σ H _ I h) fun v s1 ⟨x,H1,I1,r1,q1⟩=>?_) hs hw
 rw[h1];exact thn (hg pins s1 σ H1 x v _ I1 r1 q1) fun _ s2 q=>q
theorem Q4{i:Nat}{x:Str}{e:Expr}{te:TE}{pos':Pos}(hN:X.N.Nodup)(hi:X.N[i]?=some x)(hx:Loc X.env.scope x)(he:PE X e te)(hs:swapsWith e (some (.Name x pos')) pos.line X.env=pure false:=by rfl)(hf:X.fn x=true\/X.env.scope.names.lookup x=some .local:=by walk_at "F") :
  PS X (.Assign [.Name x pos'] e pos) (tAsg te (Ve i)):=by
 intro pins s σ H D I h;refine wpAny_Assign_Name (thn (he pins s σ H _ I h) fun v s1 ⟨y,H1,I1,r1,q1⟩=>?_) hs
 exact zgs I1 hN hi hx r1 (fun s2 I2=>⟨_,H1,I2,q1⟩) hf
def tAug(i:Nat)(te:TE)(ti:TIp):TS:=fun D σ H=>∃x,σ[i]?=some (some x)/\te σ H fun y H1=>ti x y H1 fun z H2=>D.nx (σ.set i (some z)) H2
theorem zr8{i:Nat}{x:Str}{e:Expr}{te:TE}{op:Operator}{ti:TIp}{pos':Pos}(hN:X.N.Nodup)(hi:X.N[i]?=some x)(hx:Loc X.env.scope x)(he:PE X e te)(ho:PIp X op ti)(hf:X.fn x=true\/X.env.scope.names.lookup x=some .local:=by walk_at "F") :
  PS X (.AugAssign (.Name x pos') op e pos) (tAug i te ti):=by
 intro pins s σ H D I h;obtain⟨v,e1,h⟩:=h;obtain⟨m,hn,hl⟩:=I.loc;have vis:Vis X.env.scope x:=by rcases hx with k|k;exact .inl k;exact .inr (.inl k)
 obtain⟨u,r,l⟩:=hl i x v hi e1 vis;refine wpAny_AugAssign_Name ?_;have go:wpAny (model X.prog X.w) X.A (eval e X.env) (fun w s₂=>wpAny (model X.prog X.w) X.A (inplaceOp op u w) (fun r s₃=>wpAny (model X.prog X.w) X.A (storeName X.env x r) (fun _=>SP X pins D .next) X.xe s₃) X.xe s₂) X.xe s:=by
  refine thn (he pins s σ H _ I h) fun w s1 ⟨y,H1,I1,r1,q1⟩=>?_
  refine thn (ho pins s1 σ H1 v y u w _ I1 r r1 q1) fun z s2 ⟨zv,H2,I2,r2,q2⟩=>?_
  exact zgs I2 hN hi hx r2 (fun s3 I3=>⟨_,H2,I3,q2⟩) hf
 rcases l with⟨hk,hm⟩|⟨hk,c,hc,hcell⟩
 ·exact wpAny_loadName_local I.ok.kind hk hn hm go
 ·rcases hk with hk|hk
  ·exact wpAny_loadName_cell I.ok.kind hk hc hcell go
  ·rcases hx with k|k
   ·have:X.env.scope.names.lookup x=some .free:=hk;rw[k]at this;cases this
   ·have:X.env.scope.names.lookup x=some .free:=hk;rw[k]at this;cases this
def ipI(f:Int->Int->Int):TIp:=fun x y H Q=>∃i j,x=.int i/\y=.int j/\Q (.int (f i j)) H
theorem Vq:PIp X .Add (ipI fun i j=>i+j):=by
 intro pins s σ H x y v u Q I r1 r2 h;obtain⟨i,j,e1,e2,q⟩:=h;subst e1;subst e2;obtain⟨t,rfl⟩:=r1;obtain⟨t',rfl⟩:=r2;exact iadd_int ⟨.int _,H,I.tok _,⟨_,rfl⟩,q⟩
end
section
variable{X:Cx}{pos:Pos}
def zrB(c:TT)(tb:TS):TS:=fun D σ H=>∃W:Nat->St->Hp->Prop,(∃m,W m σ H)/\∀m σ H,W m σ H ->
 c σ H fun b H1=>if b=true then ∃N:St->Hp->Prop,(∀σ' H',N σ' H'->∃m',m'<m/\W m' σ' H')/\tb { D with nx:=N,ct:=N,bk:=D.nx } σ H1 else D.nx σ H1
theorem zoC{c:Expr}{body:List Stmt}{tc:TT}{tb:TS}(hp:PassesOwn (model X.prog X.w) X.A X.env X.xe)(hc:PT X c tc)(hb:PSs X body tb):PS X (.While c body [] pos) (zrB tc tb):=by
 intro pins s σ H D I h;obtain⟨W,⟨m0,w0⟩,turn⟩:=h;refine wpAny_While (codeAny_whileLoop (fun n s'=>∃σ' H',Inv X pins σ' H' s'/\W n σ' H') ?_ m0 ⟨σ,H,I,w0⟩)
 rintro n s1 ⟨σ1,H1,I1,w1⟩;refine wpAny_passesOwn hp (thn (hc pins s1 σ1 H1 _ I1 (turn n σ1 H1 w1)) fun b s2 ⟨H2,I2,q2⟩=>?_)
 cases b with
 | true =>
  obtain⟨N,hN,q2⟩:=q2;rw[if_pos rfl];refine wpAny_passesOwn hp (thn (hb pins s2 σ1 H2 _ I2 q2) fun f s3 q3=>?_)
  cases f with
  | next =>
   obtain⟨σ3,H3,I3,n3⟩:=q3;obtain⟨m',hm,w3⟩:=hN σ3 H3 n3;exact⟨m',hm,σ3,H3,I3,w3⟩
  | cont =>
   obtain⟨σ3,H3,I3,n3⟩:=q3;obtain⟨m',hm,w3⟩:=hN σ3 H3 n3;exact⟨m',hm,σ3,H3,I3,w3⟩
  | brk=>exact q3
  | ret v=>exact q3
 | false =>
  rw[if_neg Bool.false_ne_true];exact wpAny_execs_nil ⟨σ1,H2,I2,q2⟩
end
structure It where
 go:Nat->Hp->Prop
 yld:Nat->Hp->V->Hp->Prop
 stop:Nat->Hp->Prop
def FpOk(X:Cx)(pins:qO)(H:Hp)(b:Addr):Prop :=
 H b=none/\b≠X.env.locals/\b∉X.fs/\(b∈X.ex\/X.s₀.heap.objs.size<=b)/\(∀x c,X.env.cells.lookup x=some c->c≠b)/\∀p∈X.pn++pins,p.1≠b
theorem Inv.fpOk{X:Cx}{pins:qO}{σ:St}{H H':Hp}{s:Shared}{b:Addr}(I:Inv X pins σ H s)(hb:s.heap.objs.size<=b)(hn:H' b=none):FpOk X pins H' b:=by
 refine⟨hn,Nat.ne_of_gt (Nat.lt_of_lt_of_le I.lt hb),I.nofs hb,.inr (Nat.le_trans I.sz hb),fun x c e z=>?_,fun p hp z=>?_⟩
 ·obtain⟨v,q⟩:=I.cell x c e;exact absurd (Nat.lt_of_lt_of_le q.lt (by rw[z];exact hb)) (Nat.lt_irrefl _)
 ·exact absurd (Nat.lt_of_lt_of_le (Heap.lt_size (I.pin p hp).1) (by rw[z];exact hb)) (Nat.lt_irrefl _)
structure Turn(P:Program)(w:World)(K:qF)(tg:Expr)(J:It)(fp:List Addr)(it:Addr)(tn:Nat->Heap->Prop):Prop where
 mem:it∈fp
 obj:∀i h,tn i h->∀b∈fp,∃o,h.get? b=some o/\∀v,o.data≠.cell v
 keep:∀i h h',tn i h->(∀b∈fp,∀o,h.get? b=some o->h'.get? b=some o)->tn i h'
 item:∀(X:Cx),X.prog=P->X.w=w->X.K=K->X.calm=true->∀(i:Nat) (pins:qO) (s:Shared) (σ:St) (H:Hp) (E:qV),Inv X pins σ H s->(∀b∈fp,FpOk X pins H b)->tn i s.heap->J.go i H ->
  wpAny (model P w) X.A (pyNext (.ref it)) (fun r s1=>∃u,r=some u /\
   wpAny (model P w) X.A (letOwnedTupleGo tg (.ref it) u) (fun _ s2=>∃x H',Inv X pins σ H' s2/\RelV x u/\J.yld i H x H'/\tn (i+1) s2.heap/\∀b∈fp,H' b=none) E s1) E s
 done:∀(X:Cx),X.prog=P->X.w=w->X.K=K->X.calm=true->∀(i:Nat) (pins:qO) (s:Shared) (σ:St) (H:Hp) (E:qV),Inv X pins σ H s->(∀b∈fp,FpOk X pins H b)->tn i s.heap->J.stop i H ->
  wpAny (model P w) X.A (pyNext (.ref it)) (fun r s1=>r=none/\Inv X pins σ H s1) E s
 self:∀(A:Around) (i:Nat) (s:Shared) (Q:qV) (E:qV),tn i s.heap->Q (.ref it) s->wpAny (model P w) A (pyIter (.ref it)) Q E s
abbrev TI:=St->Hp->(It->Hp->Prop)->Prop
def PIE(X:Cx)(pins:qO)(σ:St)(tg:Expr)(R:It->Hp->Prop)(itv:Value)(s2:Shared):Prop :=
 ∃(it:Addr) (fp:List Addr) (tn:Nat->Heap->Prop) (J:It) (H':Hp),itv=.ref it/\Inv X pins σ H' s2/\Turn X.prog X.w X.K tg J fp it tn/\tn 0 s2.heap/\(∀b∈fp,FpOk X pins H' b)/\R J H'
def PI(X:Cx)(tg iter:Expr)(wi:TI):Prop :=
 ∀(pins:qO) (s:Shared) (σ:St) (H:Hp) (R:It->Hp->Prop),Inv X pins σ H s->wi σ H R ->
  wpAny (model X.prog X.w) X.A (eval iter X.env) (fun v s1=>wpAny (model X.prog X.w) X.A (pyIter v) (PIE X pins σ tg R) X.xe s1) X.xe s
theorem Vf{M:Model}{A:Around}{E:qV}{s:Shared}{tg:Expr}{it:Addr}{u:Value}{o:Obj}{n:String}{vs:Array Value}{Q:Unit->Shared->Prop}(ho:s.heap.get? it=some o)(hc:o.cls=.type n)(hd:o.data=.fields vs)
  (hn:["enumerate","zip","dict_itemiterator","dict_reverseitemiterator","odict_iterator","itertools.zip_longest","itertools.pairwise"].contains n=false) (hQ:Q () s):wpAny M A (letOwnedTupleGo tg (.ref it) u) Q E s:=by
 unfold letOwnedTupleGo;cases tg <;> first
  | exact wpAny_pure hQ
  | (cases u <;> first
    | exact wpAny_pure hQ
    | (refine wpAny_bind (wpAny_load ho ?_)
       rw[hc,hd];show wpAny M A (if (["enumerate","zip","dict_itemiterator","dict_reverseitemiterator","odict_iterator","itertools.zip_longest","itertools.pairwise"].contains n&&vs[0]? == some (rawInt _))=true then _ else _) Q E s
       rw[if_neg (by intro h;rw[hn,Bool.false_and]at h;cases h)]
       exact wpAny_pure hQ))
def Itl(K:qF)(a:Addr):It :=
 ⟨fun i H=>∃xs x,SqL K H a xs/\xs[i]?=some x,fun i H x H'=>H'=H/\∀xs,SqL K H a xs->xs[i]?=some x,fun i H=>∃xs,SqL K H a xs/\xs.length<=i⟩
def Itt(K:qF)(a:Addr):It :=
 ⟨fun i H=>∃xs x,SqT K H a xs/\xs[i]?=some x,fun i H x H'=>H'=H/\∀xs,SqT K H a xs->xs[i]?=some x,fun i H=>∃xs,SqT K H a xs/\xs.length<=i⟩
def Itr(lo:Int)(n:Nat):It:=⟨fun i _=>i<n,fun i H x H'=>H'=H/\x=.int (lo+i),fun i _=>n<=i⟩
theorem zhl{P:Program}{w:World}{K:qF}{tg:Expr}(a it:Addr):Turn P w K tg (Itl K a) [it] it (fun i h=>h.IsListIter it a i) where
 mem:=by simp
 obj:=fun i h st b hb=>by
  have e:b=it:=by simpa using hb
  subst e;obtain⟨o,e,c,d⟩:=st;exact⟨o,e,fun v z=>by rw[d]at z;cases z⟩
 keep:=fun i h h' st k=>st.at fun o e=>k it (by simp) o e
 item:=by
  intro X hP hw hK hc i pins s σ H E I hf st hg;subst hP hw hK;obtain⟨xs,x,hq,hx⟩:=hg;obtain⟨its,rv,p,hz⟩:=I.list hq;obtain⟨u,hu,ru⟩:=rv.get hx;obtain⟨f0,f1,f2,f3,f4,f5⟩:=hf it (by simp)
  refine wpAny_pyNext_list_item st p.isList (x:=u) (by simpa using hu) fun h' st' sb=>?_
  have I1:Inv X pins σ H { s with heap:=h' }:=I.turned (t':=s.toks) (fun b o hb e=>(sb.2 b hb).trans e) f0 f1 f3 f4 f5
  obtain⟨o,e,c,d⟩:=id st';exact⟨u,rfl,Vf (s:={ s with heap:=h' }) e c d (by decide) ⟨x,H,I1,ru,⟨rfl,fun ys hy=>by rw[I.list_inj hy hq];exact hx⟩,st',fun b hb=>(hf b hb).1⟩⟩
 done:=by
  intro X hP hw hK hc i pins s σ H E I hf st hg;subst hP hw hK;obtain⟨xs,hq,hx⟩:=hg;obtain⟨its,rv,p,hz⟩:=I.list hq;obtain⟨f0,f1,f2,f3,f4,f5⟩:=hf it (by simp)
  have hl:=rv.length;exact wpAny_pyNext_list_end (I.ok.hd hc) st p.isList (by simp;lia) fun h' eb=>⟨rfl,I.turned (t':=s.toks) (fun b o hb e=>eb b o hb e) f0 f1 f3 f4 f5⟩
 self:=fun _ _ _ _ _ st h=>wpAny_pyIter_listiter st h
theorem zf3{P:Program}{w:World}{K:qF}{tg:Expr}(a it:Addr):Turn P w K tg (Itt K a) [it] it (fun i h=>h.IsTupleIter it a i) where
 mem:=by simp
 obj:=fun i h st b hb=>by
  have e:b=it:=by simpa using hb
  subst e;obtain⟨o,e,c,d⟩:=st;exact⟨o,e,fun v z=>by rw[d]at z;cases z⟩
 keep:=fun i h h' st k=>st.at fun o e=>k it (by simp) o e
 item:=by
  intro X hP hw hK hc i pins s σ H E I hf st hg;subst hP hw hK;obtain⟨xs,x,hq,hx⟩:=hg;obtain⟨its,rv,p,hz⟩:=I.tuple hq;obtain⟨u,hu,ru⟩:=rv.get hx;obtain⟨f0,f1,f2,f3,f4,f5⟩:=hf it (by simp)
  refine wpAny_pyNext_tuple_item st (show s.heap.IsTuple a its.toArray from p) (x:=u) (by simpa using hu) fun h' st' sb=>?_
  have I1:Inv X pins σ H { s with heap:=h' }:=I.turned (t':=s.toks) (fun b o hb e=>(sb.2 b hb).trans e) f0 f1 f3 f4 f5
  obtain⟨o,e,c,d⟩:=id st';exact⟨u,rfl,Vf (s:={ s with heap:=h' }) e c d (by decide) ⟨x,H,I1,ru,⟨rfl,fun ys hy=>by rw[I.tuple_inj hy hq];exact hx⟩,st',fun b hb=>(hf b hb).1⟩⟩
 done:=by
  intro X hP hw hK hc i pins s σ H E I hf st hg;subst hP hw hK;obtain⟨xs,hq,hx⟩:=hg;obtain⟨its,rv,p,hz⟩:=I.tuple hq;obtain⟨f0,f1,f2,f3,f4,f5⟩:=hf it (by simp)
  have hl:=rv.length;exact wpAny_pyNext_tuple_end (I.ok.hd hc) st (show s.heap.IsTuple a its.toArray from p) (by simp;lia) fun h' eb=>⟨rfl,I.turned (t':=s.toks) (fun b o hb e=>eb b o hb e) f0 f1 f3 f4 f5⟩
 self:=fun _ _ _ _ _ st h=>wpAny_pyIter_tupleiter st h
theorem zk0{P:Program}{w:World}{K:qF}{tg:Expr}(it:Addr)(lo:Int)(n:Nat):Turn P w K tg (Itr lo n) [it] it (fun i h=>IsRangeIter h it (lo+(i:Nat)*1) ((n:Int) - (i:Nat)) 1) where
 mem:=by simp
 obj:=fun i h st b hb=>by
  have e:b=it:=by simpa using hb
  subst e;exact⟨_,st,fun v z=>by
   have z':Data.fields _=Data.cell v:=z;cases z'⟩
 keep:=fun i h h' st k=>k it (by simp) _ st
 item:=by
  intro X hP hw hK hc i pins s σ H E I hf st hg;subst hP hw hK;obtain⟨f0,f1,f2,f3,f4,f5⟩:=hf it (by simp)
  have W:=Walks.range (prog:=X.prog) (w:=X.w) (I.ok.hd hc) it lo 1 n;refine W.item i s _ _ hg st fun v h' tk hv st' kk=>?_
  obtain⟨t,rfl⟩:=hv;have I1:Inv X pins σ H { s with heap:=h',toks:=tk }:=I.turned (fun b o hb e=>kk b o (by simpa using hb) e) f0 f1 f3 f4 f5
  refine⟨_,rfl,Vf (s:={ s with heap:=h',toks:=tk }) (n:="range_iterator") st' rfl rfl (by decide) ⟨.int (lo+i),H,I1,⟨t,?_⟩,⟨rfl,rfl⟩,st',fun b hb=>(hf b hb).1⟩⟩
  rw[Int.mul_one]
 done:=by
  intro X hP hw hK hc i pins s σ H E I hf st hg;subst hP hw hK;obtain⟨f0,f1,f2,f3,f4,f5⟩:=hf it (by simp)
  exact wpAny_pyNext_range_end (I.ok.hd hc) st (by have:n<=i:=hg;lia) fun h' eb=>⟨rfl,I.turned (t':=s.toks) (fun b o hb e=>eb b o hb e) f0 f1 f3 f4 f5⟩
 self:=fun _ _ _ _ _ st h=>wpAny_pyIter_rangeiter st h
section
variable{X:Cx}{tg:Expr}
def zwe(K:qF)(tl:TE):TI:=fun σ H R=>tl σ H fun x H1=>∃a,x=.ref a/\(∃xs,SqL K H1 a xs)/\R (Itl K a) H1
def iTup(K:qF)(tl:TE):TI:=fun σ H R=>tl σ H fun x H1=>∃a,x=.ref a/\(∃xs,SqT K H1 a xs)/\R (Itt K a) H1
theorem zmq{l:Expr}{tl:TE}(hl:PE X l tl):PI X tg l (zwe X.K tl):=by
 intro pins s σ H R I h;refine thn (hl pins s σ H _ I h) fun v s1 ⟨x,H1,I1,r1,q1⟩=>?_
 obtain⟨a,e,⟨xs,hq⟩,q⟩:=q1;subst e;cases r1;obtain⟨its,rv,p,hz⟩:=I1.list hq;refine wpAny_pyIter_list p.isList ?_;refine⟨s1.heap.objs.size,[s1.heap.objs.size],_,_,H1,rfl,I1.kept (t':=s1.toks) fun b o e=>Heap.get?_push_of_some _ e,zhl a _,⟨_,Heap.get?_push_size _ rfl,rfl,rfl⟩,fun b hb=>?_,q⟩
 have e:b=s1.heap.objs.size:=by simpa using hb
 subst e;exact I1.fpOk (Nat.le_refl _) (I1.hok.fresh (Nat.le_refl _))
theorem zsb{l:Expr}{tl:TE}(hl:PE X l tl):PI X tg l (iTup X.K tl):=by
 intro pins s σ H R I h;refine thn (hl pins s σ H _ I h) fun v s1 ⟨x,H1,I1,r1,q1⟩=>?_
 obtain⟨a,e,⟨xs,hq⟩,q⟩:=q1;subst e;cases r1;obtain⟨its,rv,p,hz⟩:=I1.tuple hq;refine wpAny_pyIter_tuple (show s1.heap.IsTuple a its.toArray from p) ?_
 refine⟨s1.heap.objs.size,[s1.heap.objs.size],_,_,H1,rfl,I1.kept (t':=s1.toks) fun b o e=>Heap.get?_push_of_some _ e,zf3 a _,⟨_,Heap.get?_push_size _ rfl,rfl,rfl⟩,fun b hb=>?_,q⟩
 have e:b=s1.heap.objs.size:=by simpa using hb
 subst e;exact I1.fpOk (Nat.le_refl _) (I1.hok.fresh (Nat.le_refl _))
theorem zoy{pins:qO}{σ:St}{H:Hp}{s:Shared}{R:It->Hp->Prop}{E:qV}{lo hi:Int}{t u v:Tok}{tk:Nat}(I:Inv X pins σ H s)(h1:-(2 ^ 62)<=lo)(h2:lo<2 ^ 62)(h3:-(2 ^ 62)<=hi)(h4:hi<2 ^ 62)
  (q:R (Itr lo (hi - lo).toNat) H):wpAny (model X.prog X.w) X.A (pyIter (.ref s.heap.objs.size)) (PIE X pins σ tg R) E { s with heap:=s.heap.push { cls:=.type "range",data:=.fields #[.int lo t,.int hi u,.int 1 v] },toks:=tk }:=by
 refine wpAny_pyIter_range (IsRange.new ..) (small_one h1 h2 h3 h4) ?_;have I1:Inv X pins σ H { s with heap:=s.heap.push { cls:=.type "range",data:=.fields #[.int lo t,.int hi u,.int 1 v] },toks:=tk }:=I.kept fun b o e=>Heap.get?_push_of_some _ e
 refine⟨(s.heap.push { cls:=.type "range",data:=.fields #[.int lo t,.int hi u,.int 1 v] }).objs.size,[(s.heap.push { cls:=.type "range",data:=.fields #[.int lo t,.int hi u,.int 1 v] }).objs.size],_,_,H,rfl,
  I1.kept (t':=tk) fun b o e=>Heap.get?_push_of_some _ e,zk0 _ lo (hi - lo).toNat,?_,fun b hb=>?_,q⟩
 ·have e1:lo+((0:Nat):Int)*1=lo:=by simp
  have e2:(((hi - lo).toNat:Nat):Int) - ((0:Nat):Int)=Builtin.Range.rangeSize lo hi 1:=by rw[rangeSize_one];split <;> lia
  show IsRangeIter _ _ (lo+((0:Nat):Int)*1) ((((hi - lo).toNat:Nat):Int) - ((0:Nat):Int)) 1
  rw[e1,e2];exact Heap.get?_push_size _ rfl
 ·have e:b=(s.heap.push { cls:=.type "range",data:=.fields #[.int lo t,.int hi u,.int 1 v] }).objs.size:=by simpa using hb
  subst e;exact I1.fpOk (Nat.le_refl _) (I1.hok.fresh (Nat.le_refl _))
def zwd(ta:TA):TI:=fun σ H R=>ta σ H fun vs H1=>∃j:Int,vs=[.int j]/\-(2 ^ 62)<=j/\j<2 ^ 62/\R (Itr 0 j.toNat) H1
theorem zmp{a:Expr}{ta:TA}{p pos:Pos}(hg:Gl X "range") (hm:X.mg "range" = none) (ha:PA X [a] ta) (hs:starEach [a] X.env=[(false,eval a X.env)]:=by rfl):PI X tg (.Call (.Name "range" p) [a] [] pos) (zwd ta):=by
 intro pins s σ H R I h;refine Call_ (Y5 I hg hm boot_range (PyProof.Rows.callWith_type1 (thn (ha pos pins s σ H _ I h) fun us s1 ⟨vs,H1,I1,r1,q1⟩=>?_) hs rfl))
 obtain⟨j,e,q1,q2,q⟩:=q1;subst e;cases r1 with
 | cons r rr =>
  cases rr;obtain⟨t,rfl⟩:=r;exact call_range_1 (zoy I1 (by lia) (by lia) q1 q2 (by simpa using q))
def tFor(wi:TI)(g:TG)(tb:TS):TS:=fun D σ H=>wi σ H fun J H1=>∃W:Nat->Nat->St->Hp->Prop,(∃m,W 0 m σ H1)/\∀i m σ H,W i m σ H ->
 (J.stop i H/\D.nx σ H)\/(J.go i H/\∃N:St->Hp->Prop,(∀σ' H',N σ' H'->∃m',m'<m/\W (i+1) m' σ' H')/\∀x H',J.yld i H x H'->g x σ H' fun σ2 H2=>tb { D with nx:=N,ct:=N,bk:=D.nx } σ2 H2)
def Yz(fp:List Addr)(h:Heap):List (Addr×Obj):=fp.filterMap fun b=>(h.get? b).map fun o=>(b,o)
theorem UK{fp:List Addr}{h:Heap}{b:Addr}{o:Obj}(hb:b∈fp)(e:h.get? b=some o):(b,o)∈Yz fp h:=List.mem_filterMap.mpr ⟨b,hb,by rw[e];rfl⟩
theorem zmN{fp:List Addr}{h:Heap}{p:Addr×Obj}(hp:p∈Yz fp h):p.1∈fp/\h.get? p.1=some p.2:=by
 obtain⟨b,hb,e⟩:=List.mem_filterMap.mp hp;cases q:h.get? b with
 | none=>rw[q]at e;cases e
 | some o =>
  rw[q]at e;have e':(b,o)=p:=Option.some.inj e;subst e';exact⟨hb,q⟩
theorem Inv.pinned{pins:qO}{σ:St}{H:Hp}{s:Shared}{fp:List Addr}(I:Inv X pins σ H s)(hf:∀b∈fp,FpOk X pins H b)(ho:∀b∈fp,∃o,s.heap.get? b=some o/\∀v,o.data≠.cell v):Inv X (pins++Yz fp s.heap) σ H s :=
 I.pins_of fun p hp=>(List.mem_append.mp hp).elim (fun z=>I.pin p (List.mem_append_right _ z)) fun z=>by
  obtain⟨hb,e⟩:=zmN z;obtain⟨f0,f1,f2,_⟩:=hf p.1 hb;obtain⟨o,e',d⟩:=ho p.1 hb;rw[e]at e';cases e';exact⟨e,f0,f1,f2,d⟩
theorem Inv.unpinned{pins pl:qO}{σ:St}{H:Hp}{s:Shared}(I:Inv X (pins++pl) σ H s):Inv X pins σ H s:=I.pins_of fun p hp=>I.pin p (List.mem_append_right _ (List.mem_append_left _ hp))
theorem zr7{iter:Expr}{body:List Stmt}{wi:TI}{g:TG}{tb:TS}{pos:Pos}(hp:PassesOwn (model X.prog X.w) X.A X.env X.xe)(hc:X.calm=true)(hi:PI X tg iter wi)(hg:PG X tg g)(hb:PSs X body tb)
  (hs:∀x,foldedSetIterable iter X.env x=pure x:=by intro _;rfl):PS X (.For tg iter body [] pos) (tFor wi g tb):=by
 intro pins s σ H D I h;refine wpAny_For (thn (hi pins s σ H _ I h) fun v s1 h1=>thn h1 fun itv s2 h2=>?_) hs
 obtain⟨it,fp,tn,J,H2,e,I2,T,st2,f2,W,⟨m0,w0⟩,turn⟩:=h2;subst e;have stat:∀{H':Hp},(∀b∈fp,H' b=none)->∀b∈fp,FpOk X pins H' b:=fun hn b hb=>⟨hn b hb,(f2 b hb).2⟩
 refine codeAny_forLoop_any (fun n s'=>∃i σ' H',Inv X pins σ' H' s'/\tn i s'.heap/\(∀b∈fp,H' b=none)/\W i n σ' H') ?_ m0 ⟨0,σ,H2,I2,st2,fun b hb=>(f2 b hb).1,w0⟩
 rintro n s3 ⟨i,σ3,H3,I3,st3,fr3,w3⟩;rcases turn i n σ3 H3 w3 with⟨stop,qn⟩|⟨go,N,hN,step⟩
 ·refine wpAny_passesOwn hp (thn (T.done X rfl rfl rfl hc i pins s3 σ3 H3 X.xe I3 (stat fr3) st3 stop) fun r s4 ⟨hr,I4⟩=>?_)
  subst hr;exact wpAny_execs_nil ⟨σ3,H3,I4,qn⟩
 ·refine wpAny_passesOwn hp (thn (T.item X rfl rfl rfl hc i pins s3 σ3 H3 X.xe I3 (stat fr3) st3 go) fun r s4 ⟨u,hr,h4⟩=>?_)
  subst hr;refine wpAny_passesOwn hp (thn h4 fun _ s5 ⟨x,H5,I5,r5,y5,st5,fr5⟩=>?_)
  have I5':=I5.pinned (stat fr5) (T.obj _ _ st5);refine wpAny_passesOwn hp (thn (hg _ s5 σ3 H5 x u _ I5' r5 (step x H5 y5)) fun _ s6 ⟨σ6,H6,I6,q6⟩=>?_)
  refine wpAny_passesOwn hp (thn (hb _ s6 σ6 H6 _ I6 q6) fun f s7 q7=>?_)
  have again:∀{σ7:St} {H7:Hp},Inv X (pins++Yz fp s5.heap) σ7 H7 s7->N σ7 H7->∃m,m<n/\∃i σ' H',Inv X pins σ' H' s7/\tn i s7.heap/\(∀b∈fp,H' b=none)/\W i m σ' H':=fun {σ7 H7} I7 n7=>by
   obtain⟨m',hm,w7⟩:=hN σ7 H7 n7;refine⟨m',hm,i+1,σ7,H7,I7.unpinned,T.keep _ _ _ st5 fun b hb o e=>(I7.pin (b,o) (List.mem_append_right _ (List.mem_append_right _ (UK hb e)))).1,fun b hb=>?_,w7⟩
   obtain⟨o,e,d⟩:=T.obj _ _ st5 b hb;exact(I7.pin (b,o) (List.mem_append_right _ (List.mem_append_right _ (UK hb e)))).2.1
  cases f with
  | next=>obtain⟨σ7,H7,I7,n7⟩:=q7;exact again I7 n7
  | cont=>obtain⟨σ7,H7,I7,n7⟩:=q7;exact again I7 n7
  | brk=>obtain⟨σ7,H7,I7,q7⟩:=q7;exact⟨σ7,H7,I7.unpinned,q7⟩
  | ret v=>obtain⟨x7,σ7,H7,I7,r7,q7⟩:=q7;exact⟨x7,σ7,H7,I7.unpinned,r7,q7⟩
end
abbrev R2:=V->V->Hp->VK->Prop
def OpR(X:Cx)(f:Value->Value->Sem Value)(r:R2):Prop :=
 ∀(pins:qO) (s:Shared) (σ:St) (H:Hp) (x y:V) (v u:Value) (Q:VK),Inv X pins σ H s->RelV x v->RelV y u->r x y H Q ->
  wpAny (model X.prog X.w) X.A (f v u) (EP X pins σ Q) X.xe s
def UnR(X:Cx)(f:Value->Sem Value)(r:V->Hp->VK->Prop):Prop :=
 ∀(pins:qO) (s:Shared) (σ:St) (H:Hp) (x:V) (v:Value) (Q:VK),Inv X pins σ H s->RelV x v->r x H Q ->
  wpAny (model X.prog X.w) X.A (f v) (EP X pins σ Q) X.xe s
def Qb(X:Cx)(f:Value)(r:List V->Hp->VK->Prop):Prop :=
 ∀(pins:qO) (s:Shared) (σ:St) (H:Hp) (xs:List V) (us:List Value) (Q:VK),Inv X pins σ H s->Vals xs us->r xs H Q ->
  wpAny (model X.prog X.w) X.A (call f us) (EP X pins σ Q) X.xe s
def TruR(X:Cx)(r:V->Hp->(Bool->Hp->Prop)->Prop):Prop :=
 ∀(pins:qO) (s:Shared) (σ:St) (H:Hp) (x:V) (v:Value) (Q:Bool->Hp->Prop),Inv X pins σ H s->RelV x v->r x H Q ->
  wpAny (model X.prog X.w) X.A (truthy v) (TP X pins σ Q) X.xe s
def tOp(r:R2)(ta tb:TE):TE:=fun σ H Q=>ta σ H fun x H1=>tb σ H1 fun y H2=>r x y H2 Q
def tUn(r:V->Hp->VK->Prop)(ta:TE):TE:=fun σ H Q=>ta σ H fun x H1=>r x H1 Q
def rI(C:Int->Int->Prop)(g:Int->Int->V):R2:=fun x y H Q=>∃i j,x=.int i/\y=.int j/\C i j/\Q (g i j) H
def rI0(g:Int->Int->V):R2:=fun x y H Q=>∃i j,x=.int i/\y=.int j/\Q (g i j) H
def rU(g:Int->V):V->Hp->VK->Prop:=fun x H Q=>∃i,x=.int i/\Q (g i) H
section
variable{X:Cx}{a b c:Expr}{ta tb tc:TE}{pos:Pos}
theorem binT(ha:PE X a ta)(hb:PE X b tb){pins:qO}{s:Shared}{σ:St}{H:Hp}{R:V->V->Hp->Prop}(I:Inv X pins σ H s)
  (h:ta σ H fun x H1=>tb σ H1 fun y H2=>R x y H2) {Q:qV} {f:Value->Value->Sem Value}
  (hf:∀v u s2 x y H2,Inv X pins σ H2 s2->RelV x v->RelV y u->R x y H2->wpAny (model X.prog X.w) X.A (f v u) Q X.xe s2) :
  wpAny (model X.prog X.w) X.A (eval a X.env) (fun v s₁=>wpAny (model X.prog X.w) X.A (eval b X.env) (fun u s₂=>wpAny (model X.prog X.w) X.A (f v u) Q X.xe s₂) X.xe s₁) X.xe s:=by
 refine thn (ha pins s σ H _ I h) fun v s1 ⟨x,H1,I1,r1,q1⟩=>?_
 refine thn (hb pins s1 σ H1 _ I1 q1) fun u s2 ⟨y,H2,I2,r2,q2⟩=>?_
 exact hf v u s2 x y H2 I2 r1 r2 q2
theorem JG{op:Operator}{r:R2}(ho:OpR X (binaryOp op) r)(ha:PE X a ta)(hb:PE X b tb):PE X (.BinOp a op b pos) (tOp r ta tb):=by
 intro pins s σ H Q I h;exact wpAny_BinOp (binT ha hb I h fun v u s2 x y H2 I2 rx ry q=>ho pins s2 σ H2 x y v u Q I2 rx ry q)
theorem zvq{op:UnaryOp}{r:V->Hp->VK->Prop}(ho:UnR X (unaryOp op) r)(ha:PE X a ta):PE X (.UnaryOp op a pos) (tUn r ta):=by
 intro pins s σ H Q I h;exact UnaryOp_ (thn (ha pins s σ H _ I h) fun v s1 ⟨x,H1,I1,r1,q1⟩=>ho pins s1 σ H1 x v Q I1 r1 q1)
theorem opI{f:Value->Value->Sem Value}{C:Int->Int->Prop}{g:Int->Int->Int}
  (rule:∀(i j:Int) (t u:Tok) (s:Shared) (Q:qV) (E:qV),C i j->Q (.int (g i j) s.toks) { s with toks:=s.toks+1 }->wpAny (model X.prog X.w) X.A (f (.int i t) (.int j u)) Q E s) :
  OpR X f (rI C fun i j=>.int (g i j)):=by
 intro pins s σ H x y v u Q I rx ry h;obtain⟨i,j,rfl,rfl,hc,q⟩:=h;obtain⟨t,rfl⟩:=rx;obtain⟨t',rfl⟩:=ry;exact rule i j t t' s _ _ hc ⟨.int (g i j),H,I.tok _,⟨_,rfl⟩,q⟩
theorem opI0{f:Value->Value->Sem Value}{g:Int->Int->Int}
  (rule:∀(i j:Int) (t u:Tok) (s:Shared) (Q:qV) (E:qV),Q (.int (g i j) s.toks) { s with toks:=s.toks+1 }->wpAny (model X.prog X.w) X.A (f (.int i t) (.int j u)) Q E s) :
  OpR X f (rI0 fun i j=>.int (g i j)):=by
 intro pins s σ H x y v u Q I rx ry h;obtain⟨i,j,rfl,rfl,q⟩:=h;obtain⟨t,rfl⟩:=rx;obtain⟨t',rfl⟩:=ry;exact rule i j t t' s _ _ ⟨.int (g i j),H,I.tok _,⟨_,rfl⟩,q⟩
theorem opB0{f:Value->Value->Sem Value}{g:Int->Int->Bool}
  (rule:∀(i j:Int) (t u:Tok) (s:Shared) (Q:qV) (E:qV),Q (.bool (g i j)) s->wpAny (model X.prog X.w) X.A (f (.int i t) (.int j u)) Q E s) :
  OpR X f (rI0 fun i j=>.bl (g i j)):=by
 intro pins s σ H x y v u Q I rx ry h;obtain⟨i,j,rfl,rfl,q⟩:=h;obtain⟨t,rfl⟩:=rx;obtain⟨t',rfl⟩:=ry;exact rule i j t t' s _ _ ⟨.bl (g i j),H,I,rfl,q⟩
def CPow(i j:Int):Prop:=0<=j/\j<=1000000/\i.natAbs<2 ^ 64
def CMul(i j:Int):Prop:=(-(2 ^ 64)<i/\i<2 ^ 64)\/(-(2 ^ 64)<j/\j<2 ^ 64)
theorem CMul.ok{i j:Int}(h:CMul i j):IntMulOk i j:=by
 rcases h with⟨h1,h2⟩|⟨h1,h2⟩
 ·exact .of_left (intBits_le_64 h1 h2)
 ·exact .of_right (intBits_le_64 h1 h2)
theorem zkZ(k:Nat):(0:Int)<=2 ^ k:=by
 rw[two_pow_cast];exact Int.natCast_nonneg _
theorem Uq:OpR X (binaryOp .Add) (rI0 fun i j=>.int (i+j)):=opI0 fun _ _ _ _ _ _ _ q=>add_int q
theorem zsq:OpR X (binaryOp .Sub) (rI0 fun i j=>.int (i - j)):=opI0 fun _ _ _ _ _ _ _ q=>sub_int q
theorem Q1:OpR X (binaryOp .Mult) (rI CMul fun i j=>.int (i*j)):=opI fun _ _ _ _ _ _ _ hc q=>mul_int q hc.ok
theorem Yr:OpR X (binaryOp .Mod) (rI (fun _ j=>0<j) fun i j=>.int (i % j)):=opI fun i j _ _ _ _ _ hc q=>by
 have h1:(0:Int)<j:=hc;exact mod_int' (by lia) (by rw[Int.fmod_eq_emod_of_nonneg i (by lia)];exact q)
theorem zst:OpR X (binaryOp .Pow) (rI CPow fun i j=>.int (i ^ j.toNat)):=opI fun _ _ _ _ _ _ _ hc q=>pow_int_small hc.1 hc.2.1 hc.2.2 q
theorem zss:OpR X (binaryOp .LShift) (rI CPow fun i j=>.int (i*2 ^ j.toNat)):=opI fun _ _ _ _ _ _ _ hc q=>lshift_int_small hc.1 hc.2.1 hc.2.2 q
theorem zsr:OpR X (binaryOp .RShift) (rI (fun _ j=>0<=j) fun i j=>.int (i / 2 ^ j.toNat)):=opI fun i j _ _ _ _ _ hc q =>
 rshift_int hc (by rw[Int.fdiv_eq_ediv_of_nonneg i (zkZ _)];exact q)
theorem zsC:OpR X (binaryOp .BitAnd) (rI0 fun i j=>.int (Builtin.bitAnd i j)):=opI0 fun _ _ _ _ _ _ _ q=>and_int q
theorem zsp:OpR X (binaryOp .BitXor) (rI0 fun i j=>.int (Builtin.bitXor i j)):=opI0 fun _ _ _ _ _ _ _ q=>xor_int q
theorem unI{f:Value->Sem Value}{g:Int->Int}
  (rule:∀(i:Int) (t:Tok) (s:Shared) (Q:qV) (E:qV),Q (.int (g i) s.toks) { s with toks:=s.toks+1 }->wpAny (model X.prog X.w) X.A (f (.int i t)) Q E s) :
  UnR X f (rU fun i=>.int (g i)):=by
 intro pins s σ H x v Q I rx h;obtain⟨i,rfl,q⟩:=h;obtain⟨t,rfl⟩:=rx;exact rule i t s _ _ ⟨.int (g i),H,I.tok _,⟨_,rfl⟩,q⟩
theorem zrx:UnR X (unaryOp .USub) (rU fun i=>.int (-i)):=unI fun _ _ _ _ _ q=>neg_int q
end
def scal:V->V->Bool
 | .non,.non=>true|.non,.int _=>true|.int _,.non=>true|.non,.bl _=>true|.bl _,.non=>true|.non,.str _=>true|.str _,.non=>true
 | .int _,.int _=>true|.bl _,.bl _=>true|.str _,.str _=>true|.byt _,.byt _=>true
 | .int _,.str _=>true|.str _,.int _=>true|.bl _,.str _=>true|.str _,.bl _=>true
 | _,_=>false
def rEq:R2:=fun x y H Q=>scal x y=true/\Q (.bl (decide (x=y))) H
def rNe:R2:=fun x y H Q=>scal x y=true/\Q (.bl (!decide (x=y))) H
theorem znv{i j:Int}:decide (V.int i=V.int j)=(i == j):=by
 rw[Bool.eq_iff_iff];simp
theorem zpQ{i j:Bool}:decide (V.bl i=V.bl j)=(i == j):=by
 rw[Bool.eq_iff_iff];simp
theorem znu{i j:Str}:decide (V.str i=V.str j)=(i == j):=by
 rw[Bool.eq_iff_iff];simp
theorem znw{i j:Array UInt8}:decide (V.byt i=V.byt j)=(i.toList == j.toList):=by
 rw[Bool.eq_iff_iff];cases i;cases j;simp
section
variable{X:Cx}{a b c:Expr}{ta tb tc:TE}{pos:Pos}
theorem JA{pins:qO}{σ:St}{H:Hp}{s:Shared}{Q:VK}{k k':Bool}(I:Inv X pins σ H s)(q:Q (.bl k) H)(e:k=k'):EP X pins σ Q (.bool k') s:=by
 subst e;exact⟨.bl k,H,I,rfl,q⟩
theorem zvx:OpR X (compareOp .Eq) rEq:=by
 intro pins s σ H x y v u Q I rx ry h;obtain⟨hs,q⟩:=h;cases x with
 | non =>
  cases rx;cases y with
  | non=>cases ry;exact PySem.EqNone.eq_none_none (JA I q (by simp))
  | bl j=>cases ry;exact PySem.EqNone.eq_none_bool (JA I q (by simp))
  | int j=>obtain⟨t',rfl⟩:=ry;exact PySem.EqNone.eq_none_int (JA I q (by simp))
  | str j=>obtain⟨t',rfl⟩:=ry;exact PySem.EqNone.eq_none_str (JA I q (by simp))
  | _=>exact absurd (show false=true from hs) Bool.false_ne_true
 | bl i =>
  cases rx;cases y with
  | non=>cases ry;exact PySem.EqNone.eq_bool_none (JA I q (by simp))
  | bl j=>cases ry;exact eq_bool (JA I q zpQ)
  | str j=>obtain⟨t',rfl⟩:=ry;exact PySem.EqMixed.eq_bool_str (JA I q (by simp))
  | _=>exact absurd (show false=true from hs) Bool.false_ne_true
 | int i =>
  obtain⟨t,rfl⟩:=rx;cases y with
  | non=>cases ry;exact PySem.EqNone.eq_int_none (JA I q (by simp))
  | int j=>obtain⟨t',rfl⟩:=ry;exact eq_int (JA I q znv)
  | str j=>obtain⟨t',rfl⟩:=ry;exact PySem.EqMixed.eq_int_str (JA I q (by simp))
  | _=>exact absurd (show false=true from hs) Bool.false_ne_true
 | str i =>
  obtain⟨t,rfl⟩:=rx;cases y with
  | non=>cases ry;exact PySem.EqNone.eq_str_none (JA I q (by simp))
  | bl j=>cases ry;exact PySem.EqMixed.eq_str_bool (JA I q (by simp))
  | int j=>obtain⟨t',rfl⟩:=ry;exact PySem.EqMixed.eq_str_int (JA I q (by simp))
  | str j=>obtain⟨t',rfl⟩:=ry;exact eq_str (JA I q znu)
  | _=>exact absurd (show false=true from hs) Bool.false_ne_true
 | byt i =>
  obtain⟨t,rfl⟩:=rx;cases y with
  | byt j=>obtain⟨t',rfl⟩:=ry;exact PySem.W.eq_bytes (JA I q znw)
  | _=>exact absurd (show false=true from hs) Bool.false_ne_true
 | _=>cases y <;> exact absurd (show false=true from hs) Bool.false_ne_true
theorem zvv:OpR X (compareOp .NotEq) rNe:=by
 intro pins s σ H x y v u Q I rx ry h;obtain⟨hs,q⟩:=h;cases x with
 | non =>
  cases rx;cases y with
  | non=>cases ry;exact PySem.EqNone.ne_none_none (JA I q (by simp))
  | bl j=>cases ry;exact PySem.EqNone.ne_none_bool (JA I q (by simp))
  | int j=>obtain⟨t',rfl⟩:=ry;exact PySem.EqNone.ne_none_int (JA I q (by simp))
  | str j=>obtain⟨t',rfl⟩:=ry;exact PySem.EqNone.ne_none_str (JA I q (by simp))
  | _=>exact absurd (show false=true from hs) Bool.false_ne_true
 | bl i =>
  cases rx;cases y with
  | non=>cases ry;exact PySem.EqNone.ne_bool_none (JA I q (by simp))
  | bl j=>cases ry;exact ne_bool (JA I q (congrArg not zpQ))
  | str j=>obtain⟨t',rfl⟩:=ry;exact PySem.EqMixed.ne_bool_str (JA I q (by simp))
  | _=>exact absurd (show false=true from hs) Bool.false_ne_true
 | int i =>
  obtain⟨t,rfl⟩:=rx;cases y with
  | non=>cases ry;exact PySem.EqNone.ne_int_none (JA I q (by simp))
  | int j=>obtain⟨t',rfl⟩:=ry;exact ne_int (JA I q (congrArg not znv))
  | str j=>obtain⟨t',rfl⟩:=ry;exact PySem.EqMixed.ne_int_str (JA I q (by simp))
  | _=>exact absurd (show false=true from hs) Bool.false_ne_true
 | str i =>
  obtain⟨t,rfl⟩:=rx;cases y with
  | non=>cases ry;exact PySem.EqNone.ne_str_none (JA I q (by simp))
  | bl j=>cases ry;exact PySem.EqMixed.ne_str_bool (JA I q (by simp))
  | int j=>obtain⟨t',rfl⟩:=ry;exact PySem.EqMixed.ne_str_int (JA I q (by simp))
  | str j=>obtain⟨t',rfl⟩:=ry;exact ne_str (JA I q (congrArg not znu))
  | _=>exact absurd (show false=true from hs) Bool.false_ne_true
 | byt i =>
  obtain⟨t,rfl⟩:=rx;cases y with
  | byt j=>obtain⟨t',rfl⟩:=ry;exact PySem.W.ne_bytes (JA I q (congrArg not znw))
  | _=>exact absurd (show false=true from hs) Bool.false_ne_true
 | _=>cases y <;> exact absurd (show false=true from hs) Bool.false_ne_true
theorem zsw:OpR X (compareOp .Lt) (rI0 fun i j=>.bl (decide (i<j))):=opB0 fun _ _ _ _ _ _ _ q=>lt_int q
theorem zvw:OpR X (compareOp .LtE) (rI0 fun i j=>.bl (decide (i<=j))):=opB0 fun _ _ _ _ _ _ _ q=>le_int q
theorem Vl:OpR X (compareOp .Gt) (rI0 fun i j=>.bl (decide (j<i))):=opB0 fun _ _ _ _ _ _ _ q=>gt_int q
theorem zsz:OpR X (compareOp .GtE) (rI0 fun i j=>.bl (decide (j<=i))):=opB0 fun _ _ _ _ _ _ _ q=>ge_int q
theorem zmA:OpR X (compareOp .Lt) (fun x y H Q=>∃i j,x=.str i/\y=.str j/\Q (.bl (decide (i.cps.toList<j.cps.toList))) H):=by
 intro pins s σ H x y v u Q I rx ry h;obtain⟨i,j,rfl,rfl,q⟩:=h;obtain⟨t,rfl⟩:=rx;obtain⟨t',rfl⟩:=ry;exact lt_str (JA I q rfl)
theorem zsx:OpR X (compareOp .Is) (fun x y H Q=>y=.non/\Q (.bl (decide (x=.non))) H):=by
 intro pins s σ H x y v u Q I rx ry h;obtain⟨rfl,q⟩:=h;cases ry;refine is_none_gen (JA I q ?_);cases x <;> first
  | (cases rx;rfl)
  | (obtain⟨t,rfl⟩:=rx;rfl)
theorem zqo:OpR X (compareOp .IsNot) (fun x y H Q=>y=.non/\Q (.bl (!decide (x=.non))) H):=by
 intro pins s σ H x y v u Q I rx ry h;obtain⟨rfl,q⟩:=h;cases ry;refine isnot_none_gen (JA I q ?_);cases x <;> first
  | (cases rx;rfl)
  | (obtain⟨t,rfl⟩:=rx;rfl)
theorem OpR.or{f:Value->Value->Sem Value}{r r':R2}(h:OpR X f r)(h':OpR X f r'):OpR X f (fun x y H Q=>r x y H Q\/r' x y H Q):=by
 intro pins s σ H x y v u Q I rx ry q;rcases q with q|q
 ·exact h pins s σ H x y v u Q I rx ry q
 ·exact h' pins s σ H x y v u Q I rx ry q
theorem Jo(b:Expr){op:CmpOp}(h:op≠.In:=by decide)(h2:op≠.NotIn:=by decide):behindInMarks op b=false:=by
 have e1:(op == CmpOp.In)=false:=by cases op <;> first|rfl|exact absurd rfl h
 have e2:(op == CmpOp.NotIn)=false:=by cases op <;> first|rfl|exact absurd rfl h2
 cases b <;> simp[behindInMarks,e1,e2]
theorem zmu{op:CmpOp}{r:R2}(ho:OpR X (compareOp op) r)(ha:PE X a ta)(hb:PE X b tb)(hm:behindInMarks op b=false):PE X (.Compare a [op] [b] pos) (tOp r ta tb):=by
 intro pins s σ H Q I h;exact wpAny_Compare1 (binT ha hb I h fun v u s2 x y H2 I2 rx ry q=>ho pins s2 σ H2 x y v u Q I2 rx ry q) hm
def zrC(t:TE):TT:=fun σ H Q=>t σ H fun x H'=>∃k,x=.bl k/\Q k H'
theorem ziX{op:CmpOp}{r:R2}(ho:OpR X (compareOp op) r)(ha:PE X a ta)(hb:PE X b tb)(hm:behindInMarks op b=false):PT X (.Compare a [op] [b] pos) (zrC (tOp r ta tb)):=by
 intro pins s σ H Q I h;refine wpAny_isTrue_Compare1 (thn (ha pins s σ H _ I h) fun v s1 ⟨x,H1,I1,r1,q1⟩=>thn (hb pins s1 σ H1 _ I1 q1) fun u s2 ⟨y,H2,I2,r2,q2⟩ =>
  thn (ho pins s2 σ H2 x y v u _ I2 r1 r2 q2) fun c s3 ⟨z,H3,I3,r3,k,e,q3⟩=>?_) hm
 subst e;cases r3;exact wpAny_truthy_bool ⟨H3,I3,q3⟩
def zpu(r r':R2)(ta tb tc:TE):TE:=fun σ H Q=>ta σ H fun x H1=>tb σ H1 fun y H2=>r x y H2 fun z H3=>∃k,z=.bl k /\
 (if k=true then tc σ H3 fun w' H4=>r' y w' H4 Q else Q (.bl false) H3)
theorem zoK{op op':CmpOp}{r r':R2}(ho:OpR X (compareOp op) r)(ho':OpR X (compareOp op') r')(ha:PE X a ta)(hb:PE X b tb)(hc:PE X c tc)
  (hm:lastMarks [op,op'] [b,c]=false:=by with_unfolding_all rfl):PE X (.Compare a [op,op'] [b,c] pos) (zpu r r' ta tb tc):=by
 intro pins s σ H Q I h;refine Compare_chain (thn (ha pins s σ H _ I h) fun v s1 ⟨x,H1,I1,r1,q1⟩=>chain_link (thn (hb pins s1 σ H1 _ I1 q1) fun u s2 ⟨y,H2,I2,r2,q2⟩ =>
  thn (ho pins s2 σ H2 x y v u _ I2 r1 r2 q2) fun d s3 ⟨z,H3,I3,r3,k,e,q3⟩=>?_)) hm
 subst e;cases r3;refine wpAny_truthy_bool ?_;cases k with
 | false=>exact ite_ff ⟨.bl false,H3,I3,rfl,q3⟩
 | true=>exact ite_tt (chain_last (thn (hc pins s3 σ H3 _ I3 q3) fun w' s4 ⟨z',H4,I4,r4,q4⟩=>ho' pins s4 σ H4 y z' u w' Q I4 r2 r4 q4))
theorem zoB{op op':CmpOp}{r r':R2}(ho:OpR X (compareOp op) r)(ho':OpR X (compareOp op') r')(ha:PE X a ta)(hb:PE X b tb)(hc:PE X c tc)
  (hm:lastMarks [op,op'] [b,c]=false:=by with_unfolding_all rfl):PT X (.Compare a [op,op'] [b,c] pos) (zrC (zpu r r' ta tb tc)):=by
 intro pins s σ H Q I h;refine isTrue_chain (thn (ha pins s σ H _ I h) fun v s1 ⟨x,H1,I1,r1,q1⟩=>test_link (thn (hb pins s1 σ H1 _ I1 q1) fun u s2 ⟨y,H2,I2,r2,q2⟩ =>
  thn (ho pins s2 σ H2 x y v u _ I2 r1 r2 q2) fun d s3 ⟨z,H3,I3,r3,k,e,q3⟩=>?_)) hm
 subst e;cases r3;refine wpAny_truthy_bool ?_;cases k with
 | false =>
  obtain⟨k',e',q'⟩:=q3;cases e';exact ite_ff ⟨H3,I3,q'⟩
 | true =>
  refine ite_tt (test_last (thn (hc pins s3 σ H3 _ I3 q3) fun w' s4 ⟨z',H4,I4,r4,q4⟩=>thn (ho' pins s4 σ H4 y z' u w' _ I4 r2 r4 q4) fun d' s5 ⟨z2,H5,I5,r5,k2,e2,q5⟩=>?_))
  subst e2;cases r5;exact wpAny_truthy_bool ⟨H5,I5,q5⟩
def TruV(K:qF)(x:V)(H:Hp)(k:Bool):Prop :=
 match x with
 | .non=>k=false
 | .bl b=>k=b
 | .int i=>k=(i != 0)
 | .str y=>y.length<=sizeLine/\k=((y.length:Int) != 0)
 | .byt y=>y.size<=sizeLine/\k=((y.size:Int) != 0)
 | .ref p=>(∃xs,SqL K H p xs/\k=!xs.isEmpty)\/(∃xs,SqT K H p xs/\k=!xs.isEmpty)\/∃kvs,H p=some (.dK kvs)/\k=!kvs.isEmpty
 | _=>False
theorem zlD{κ:Type}{kvs:List (κ×V)}{vs:List (κ×Value)}(r:KV kvs vs):(!vs.isEmpty)=!kvs.isEmpty:=by
 cases r <;> rfl
theorem zgf{xs:List V}{its:List Value}(r:Vals xs its):(!its.toArray.isEmpty)=!xs.isEmpty:=by
 cases r <;> simp
theorem Yq:(sizeLine:Nat)<2 ^ 63:=by rw[sizeLine_eq];decide
theorem zrz:TruR X (fun x H Q=>∃k,TruV X.K x H k/\Q k H):=by
 intro pins s σ H x v Q I rx h;obtain⟨k,e,q⟩:=h;have hl:=Yq;have hs:sizeLine=16777216:=sizeLine_eq;cases x with
 | non =>
  cases rx;have e':k=false:=e;subst e';exact truthy_none ⟨H,I,q⟩
 | bl b =>
  cases rx;have e':k=b:=e;subst e';exact wpAny_truthy_bool ⟨H,I,q⟩
 | int i =>
  obtain⟨t,rfl⟩:=rx;have e':k=(i != 0):=e;subst e';exact PySem.P.truthy_int ⟨H,I,q⟩
 | str y =>
  obtain⟨t,rfl⟩:=rx;obtain⟨hy,e'⟩:y.length<=sizeLine/\k=((y.length:Int) != 0):=e;subst e';exact PySem.P.truthy_str (by lia) ⟨H,I.tok _,q⟩
 | byt y =>
  obtain⟨t,rfl⟩:=rx;obtain⟨hy,e'⟩:y.size<=sizeLine/\k=((y.size:Int) != 0):=e;subst e';exact PySem.W.truthy_bytes (by lia) ⟨H,I.tok _,q⟩
 | ref p =>
  cases rx;have e':(∃xs,SqL X.K H p xs/\k=!xs.isEmpty)\/(∃xs,SqT X.K H p xs/\k=!xs.isEmpty)\/∃kvs,H p=some (.dK kvs)/\k=!kvs.isEmpty:=e;rcases e' with⟨xs,hx,e'⟩|⟨xs,hx,e'⟩|⟨kvs,hx,e'⟩
  ·subst e';obtain⟨its,r,pl,hz⟩:=I.list hx;have hlen:=r.length;exact wpAny_truthy_list pl.isList (by simp only[List.size_toArray];lia) ⟨H,I.tok _,by rw[zgf r];exact q⟩
  ·subst e';obtain⟨its,r,pl,hz⟩:=I.tuple hx;have hlen:=r.length;exact truthy_tuple pl (by simp only[List.size_toArray];lia) ⟨H,I.tok _,by rw[zgf r];exact q⟩
  ·subst e';obtain⟨hz,hS,vs,r,m⟩:kvs.length<=sizeLine/\(p == sysModules)=false/\∃vs,KV kvs vs/\s.heap.DictOf (JU X.prog X.w) p vs:=I.hok p _ hx;have hlen:kvs.length=vs.length:=Paired.length r;exact wpAny_truthy_dict hS m (by lia) ⟨H,I.tok _,by rw[zlD r];exact q⟩
 | _=>exact(show False from e).elim
theorem zoA(ha:PE X a ta)(he:∀whole,isTrue a X.env whole=(do let v <- whole;standAt a.pos;holding [v] (truthy v))) :
  PT X a (fun σ H Q=>ta σ H fun x H'=>∃k,TruV X.K x H' k/\Q k H'):=by
 intro pins s σ H Q I h;exact isTrue_plain (thn (ha pins s σ H _ I h) fun v s1 ⟨x,H1,I1,r1,q1⟩=>zrz pins s1 σ H1 x v Q I1 r1 q1) (he _)
theorem zlb:OpR X (binaryOp .Add) (fun x y H Q=>∃i j,x=.str i/\y=.str j/\i.length+j.length<=sizeLine/\Q (.str (i++j)) H):=by
 intro pins s σ H x y v u Q I rx ry h;obtain⟨i,j,rfl,rfl,hz,q⟩:=h;obtain⟨t,rfl⟩:=rx;obtain⟨t',rfl⟩:=ry;exact add_str (fun t' tk=>⟨.str (i++j),H,I.tok _,⟨_,rfl⟩,q⟩) hz
theorem vals1{x:V}{us:List Value}(r:Vals [x] us):∃u,us=[u]/\RelV x u:=by
 cases r with
 | cons r1 r2=>cases r2;exact⟨_,rfl,r1⟩
theorem vals2{x y:V}{us:List Value}(r:Vals [x,y] us):∃u w',us=[u,w']/\RelV x u/\RelV y w':=by
 cases r with
 | cons r1 r2 =>
  cases r2 with
  | cons r3 r4=>cases r4;exact⟨_,_,rfl,r1,r3⟩
theorem Wh(hc:X.calm=true):Qb X (.builtin "max") (fun xs H Q=>∃i j,xs=[.int i,.int j]/\Q (.int (if j > i then j else i)) H):=by
 intro pins s σ H xs us Q I r h;obtain⟨i,j,rfl,q⟩:=h;obtain⟨u,w',rfl,⟨t,rfl⟩,⟨t',rfl⟩⟩:=vals2 r;refine max_two_ints (I.ok.hd hc) fun h' tk k=>⟨_,H,I.kept k,?_,q⟩
 by_cases hj:j > i
 ·rw[if_pos hj,if_pos hj];exact⟨_,rfl⟩
 ·rw[if_neg hj,if_neg hj];exact⟨_,rfl⟩
theorem Wi(hc:X.calm=true):Qb X (.builtin "min") (fun xs H Q=>∃i j,xs=[.int i,.int j]/\Q (.int (if j<i then j else i)) H):=by
 intro pins s σ H xs us Q I r h;obtain⟨i,j,rfl,q⟩:=h;obtain⟨u,w',rfl,⟨t,rfl⟩,⟨t',rfl⟩⟩:=vals2 r;refine min_two_ints (I.ok.hd hc) fun h' tk k=>⟨_,H,I.kept k,?_,q⟩
 by_cases hj:j<i
 ·rw[if_pos hj,if_pos hj];exact⟨_,rfl⟩
 ·rw[if_neg hj,if_neg hj];exact⟨_,rfl⟩
theorem ziC:Qb X (.type "int") (fun xs H Q=>(∃i,xs=[.int i]/\Q (.int i) H)\/∃k,xs=[.bl k]/\Q (.int (if k then 1 else 0)) H):=by
 intro pins s σ H xs us Q I r h;rcases h with⟨i,rfl,q⟩|⟨k,rfl,q⟩
 ·obtain⟨u,rfl,t,rfl⟩:=vals1 r;exact call_int_int ⟨.int i,H,I,⟨_,rfl⟩,q⟩
 ·obtain⟨u,rfl,r1⟩:=vals1 r;cases r1;exact call_int_bool ⟨.int (if k then 1 else 0),H,I.tok _,⟨_,rfl⟩,q⟩
def LenV(K:qF)(x:V)(H:Hp)(n:Nat):Prop :=
 match x with
 | .str y=>y.length<=sizeLine/\n=y.length
 | .byt y=>y.size<=sizeLine/\n=y.size
 | .ref p=>(∃xs,SqL K H p xs/\n=xs.length)\/∃xs,SqT K H p xs/\n=xs.length
 | _=>False
theorem QE:Qb X (.builtin "len") (fun xs H Q=>∃x n,xs=[x]/\LenV X.K x H n/\Q (.int n) H):=by
 intro pins s σ H xs us Q I r h;obtain⟨x,n,rfl,e,q⟩:=h;obtain⟨u,rfl,rx⟩:=vals1 r;have hl:=Yq;have hs:sizeLine=16777216:=sizeLine_eq;cases x with
 | str y =>
  obtain⟨t,rfl⟩:=rx;obtain⟨hy,e'⟩:y.length<=sizeLine/\n=y.length:=e;subst e';exact len_str (by lia) ⟨.int _,H,I.tok _,⟨_,rfl⟩,q⟩
 | byt y =>
  obtain⟨t,rfl⟩:=rx;obtain⟨hy,e'⟩:y.size<=sizeLine/\n=y.size:=e;subst e';exact PySem.W.len_bytes (by lia) ⟨.int _,H,I.tok _,⟨_,rfl⟩,q⟩
 | ref p =>
  cases rx;have e':(∃xs,SqL X.K H p xs/\n=xs.length)\/∃xs,SqT X.K H p xs/\n=xs.length:=e;rcases e' with⟨xs,hx,e'⟩|⟨xs,hx,e'⟩
  ·subst e';obtain⟨its,r',pl,hz⟩:=I.list hx;have hlen:=r'.length;exact Calls.call_len_list pl.isList (by simp only[List.size_toArray];lia) ⟨.int xs.length,H,I.tok _,⟨_,by simp only[List.size_toArray];rw[hlen]⟩,q⟩
  ·subst e';obtain⟨its,r',pl,hz⟩:=I.tuple hx;have hlen:=r'.length;exact len_tuple pl (by simp only[List.size_toArray];lia) ⟨.int xs.length,H,I.tok _,⟨_,by simp only[List.size_toArray];rw[hlen]⟩,q⟩
 | _=>exact(show False from e).elim
end
structure ObjM(h:Heap)(x dx C:Addr)(mA:qM):Prop where
 obj:h.get? x=some (PySem.W.instObj C dx)
 ns:h.Ns1 dx mA
 ne:dx≠x
theorem zm1{h:Heap}{dx:Addr}{mA:qM}(n:h.Ns1 dx mA):∃od,h.get? dx=some od/\∀name,PySem.W.lookIn name od=some (mA name):=by
 obtain⟨o,es,ep,ho,hd,hk,_,hm⟩:=n;refine⟨o,ho,fun name=>?_⟩
 have e:=hm name;unfold nsFind findBy at e;rw[<- Array.find?_toList]at e;unfold PySem.W.lookIn;rw[hd];dsimp only;split
 ·rename_i y q;rw[q]at e;exact congrArg some e
 ·rename_i q;rw[q]at e;have a:es.toList.any (·.refKey)=false:=by
   rw[List.any_eq_false];intro y hy;obtain⟨z,t,hkey⟩:=hk y (Array.mem_toList_iff.mp hy);simp[DictEntry.refKey,hkey]
  have a':¬es.toList.any (·.refKey)=true:=by rw[a];exact Bool.false_ne_true
  rw[if_neg a'];exact congrArg some e
theorem ObjM.look{h:Heap}{x dx C:Addr}{mA:qM}(I:ObjM h x dx C mA):∃od,PySem.W.InstAt h x (PySem.W.instObj C dx) C (some od)/\∀name,PySem.W.lookIn name od=some (mA name) :=
 let ⟨od,ho,hl⟩:=zm1 I.ns
 ⟨od,⟨I.obj,rfl,rfl,ho⟩,hl⟩
section
variable{P:Program}{w:World}{H H':Hp}{h h':Heap}{a C dx:Addr}{fs fs':List (Str×V)}
theorem zqM(hok:HOk P w H h)(e:H a=some (.ins C dx fs)):∃mA,ObjM h a dx C mA/\(∀f,RelO (fs.lookup f) (mA f))/\PySem.Within mA (fs.map (·.1))/\fs.length<=1000/\H dx=some (.own a):=by
 obtain⟨d,z,ne,ob,mA,n,r,q⟩:=(show JQ P w H h a (.ins C dx fs) from hok a _ e)
 exact⟨mA,⟨ob,n,ne⟩,r,q,z,d⟩
end
structure Cls(K:qF)(C:Addr):Prop where
 pg:PySem.W.plainGet K C Str.empty=true
 hd:PySem.W.hasDictIn K C=true
 po:PySem.W.plainOver K C=true
 sa:PySem.W.findIn K (.ref C) "__setattr__" = some (some (.builtin "object.__setattr__"))
theorem Cls.get{K:qF}{C:Addr}(c:Cls K C)(f:Str):PySem.W.plainGet K C f=true:=c.pg
section
variable{X:Cx}{pins:qO}{σ:St}{H:Hp}{s:Shared}{A:Around}{E:qV}{Q:qV}{c:Value}{b:Bool}
inductive TyOf (K:qF)(H:Hp):V->Value->Prop where
 | non:TyOf K H .non (.type "NoneType")
 | bl (x:Bool):TyOf K H (.bl x) (.type "bool")
 | int (i:Int):TyOf K H (.int i) (.type "int")
 | str (x:Str):TyOf K H (.str x) (.type "str")
 | flt (x:UInt64):TyOf K H (.flt x) (.type "float")
 | lst {a:Addr} {xs:List V} (e:H a=some (.lst xs)):TyOf K H (.ref a) (.type "list")
 | frz {a:Addr} {o:Obj} {xs:List V} (e:H a=some (.frz o (.lst xs))):TyOf K H (.ref a) (.type "list")
 | tup {a:Addr} {xs:List V} (e:H a=some (.tup xs)):TyOf K H (.ref a) (.type "tuple")
 | dK {a:Addr} {kvs:List (Key×V)} (e:H a=some (.dK kvs)):TyOf K H (.ref a) (.type "dict")
 | dT {a:Addr} {kvs:List (List Key×V)} (e:H a=some (.dT kvs)):TyOf K H (.ref a) (.type "dict")
 | ins {a C dx:Addr} {fs:List (Str×V)} (e:H a=some (.ins C dx fs)) (cl:Cls K C) (ha:PySem.W.findIn K (.ref C) "__class__" = some (some (.builtin "object.__class__")))
   (hn:PySem.W.specialIn K (.builtin "object.__class__") "__get__" = some (some (.builtin "getset_descriptor.__get__"))) (htk:PySem.W.takesIn K (.builtin "object.__class__")=some true)
   (hm:PySem.W.mroIn K C (.type "object")=some true):TyOf K H (.ref a) (.ref C)
theorem znb{x:V}{u t:Value}(I:Inv X pins σ H s)(rx:RelV x u)(ty:TyOf X.K H x t)(e:PySem.W.kitOne X.K t c=some b)(h:∀tk,Q (.bool b) { s with toks:=tk }) :
  wpAny (model X.prog X.w) A (call (.builtin "isinstance") [u,c]) Q E s:=by
 cases ty with
 | non=>cases(show u=Value.none from rx);exact PySem.W.kia_one PySem.W.kitx_none I.kIn True.intro e (fun z=>nomatch z) h
 | bl y=>cases(show u=Value.bool y from rx);exact PySem.W.kia_one PySem.W.kitx_bool I.kIn True.intro e (fun z=>nomatch z) h
 | int i=>obtain⟨t,q⟩:=(show ∃t,u=Value.int i t from rx);cases q;exact PySem.W.kia_one PySem.W.kitx_int I.kIn True.intro e (fun z=>nomatch z) h
 | str y=>obtain⟨t,q⟩:=(show ∃t,u=Value.str y t from rx);cases q;exact PySem.W.kia_one PySem.W.kitx_str I.kIn True.intro e (fun z=>nomatch z) h
 | flt y=>obtain⟨t,q⟩:=(show ∃t,u=Value.float y t from rx);cases q;exact PySem.W.kia_one PySem.W.kitx_float I.kIn True.intro e (fun z=>nomatch z) h
 | @lst a xs ea =>
  cases(show u=Value.ref a from rx)
  obtain⟨_,_,n,_,h1⟩:=(show JQ X.prog X.w H s.heap a (.lst xs) from I.hok a _ ea)
  exact PySem.W.kia_one PySem.W.kitx_list I.kIn ⟨_,h1,rfl⟩ e (fun z=>nomatch z) h
 | @frz a ob xs ea =>
  cases(show u=Value.ref a from rx)
  obtain⟨_,_,_,n,_,h1⟩:=(show JQ X.prog X.w H s.heap a (.frz ob (.lst xs)) from I.hok a _ ea)
  exact PySem.W.kia_one PySem.W.kitx_list I.kIn ⟨_,h1,rfl⟩ e (fun z=>nomatch z) h
 | @tup a xs ea =>
  cases(show u=Value.ref a from rx)
  obtain⟨_,_,_,p⟩:=(show JQ X.prog X.w H s.heap a (.tup xs) from I.hok a _ ea)
  obtain⟨o,h1,h2,_⟩:=p;exact PySem.W.kia_one PySem.W.kitx_tuple I.kIn ⟨o,h1,h2⟩ e (fun z=>nomatch z) h
 | @dK a kvs ea =>
  cases(show u=Value.ref a from rx)
  obtain⟨_,_,vs,_,p⟩:=(show JQ X.prog X.w H s.heap a (.dK kvs) from I.hok a _ ea)
  obtain⟨o,es,ep,h1,h2,_⟩:=p;exact PySem.W.kia_one PySem.W.kitx_dict I.kIn ⟨o,h1,h2.1⟩ e (fun z=>nomatch z) h
 | @dT a kvs ea =>
  cases(show u=Value.ref a from rx)
  obtain⟨_,_,xs,_,o,es,ep,h1,h2,_⟩:=(show JQ X.prog X.w H s.heap a (.dT kvs) from I.hok a _ ea)
  exact PySem.W.kia_one PySem.W.kitx_dict I.kIn ⟨o,h1,h2.1⟩ e (fun z=>nomatch z) h
 | @ins a C dx fs ea cl ha hn htk hm =>
  cases(show u=Value.ref a from rx)
  obtain⟨mA,O,_⟩:=zqM I.hok ea;obtain⟨od,J,_⟩:=O.look;exact PySem.W.kia_one (PySem.W.kitx_own (cl.get _) cl.hd ha hn htk hm) I.kIn J e (fun z=>nomatch z) h
end
structure Room(k:Nat)(A:Around):Prop where
 hd:A.handled=none
 dp:A.depth+3*k+5<recursionLimit
 un:A.units+16*k+200<cLine
 gd:A.guards=some []
theorem Room.mono{j k:Nat}{A:Around}(r:Room k A)(h:j<=k):Room j A:=⟨r.hd,by have:=r.dp;lia,by have:=r.un;lia,r.gd⟩
theorem Room.deeper{k:Nat}{A:Around}(r:Room (k+1) A)(env:Env):Room k (A.deeper env) :=
 ⟨r.hd,by have:=r.dp;show A.depth+1+3*k+5<_;lia,by have:=r.un;show A.units+3+16*k+200<_;lia,r.gd⟩
theorem Room.depth{k:Nat}{A:Around}(r:Room k A):A.depth<recursionLimit:=by have:=r.dp;lia
theorem Room.units{k:Nat}{A:Around}(r:Room k A):A.units+64<cLine:=by have:=r.un;lia
theorem Room.units0{k:Nat}{A:Around}(r:Room k A):A.units<cLine:=by have:=r.un;lia
def tNil:TA:=fun _ H Q=>Q [] H
def QN(ta:TE)(tr:TA):TA:=fun σ H Q=>ta σ H fun x H1=>tr σ H1 fun xs H2=>Q (x::xs) H2
section
variable{X:Cx}{e:Expr}{es:List Expr}{te:TE}{t:TA}{pos:Pos}
theorem Yu:PA X [] tNil:=fun _ _ _ _ H Q I h=>Calls.spliced_nil ⟨[],H,I,.nil,h⟩
theorem UJ(ha:PE X e te)(hr:PA X es t)(hs:starEach (e::es) X.env=(false,eval e X.env)::starEach es X.env:=by rfl):PA X (e::es) (QN te t):=by
 intro pos pins s σ H Q I h;rw[hs];show wpAny _ _ (spliced ((false,eval e X.env)::backTo pos (starEach es X.env))) _ _ s
 refine Calls.spliced_cons (thn (ha pins s σ H _ I h) fun u s1 ⟨x,H1,I1,r1,q1⟩=>?_)
 exact thn (hr pos pins s1 σ H1 _ I1 q1) fun us s2 ⟨xs,H2,I2,r2,q2⟩=>⟨x::xs,H2,I2,.cons r1 r2,q2⟩
def tTup(t:TA):TE:=fun σ H Q=>t σ H fun xs H1=>xs.length<=sizeLine/\∀p,H1 p=none->Q (.ref p) (upd H1 p (.tup xs))
def tLst(t:TA):TE:=fun σ H Q=>t σ H fun xs H1=>xs.length<=sizeLine/\∀p,H1 p=none->Q (.ref p) (upd H1 p (.lst xs))
theorem zsf{x1}(h:PA X es t):PE X (.Tuple es x1 pos) (tTup t):=by
 intro pins s σ H Q I hq;refine wpAny_Tuple_spliced (thn (h pos pins s σ H _ I hq) fun us s1 ⟨xs,H1,I1,r,z,q⟩=>⟨by rw[<- r.length];exact z,?_⟩)
 have hf:H1 s1.heap.objs.size=none:=I1.hok.fresh (Nat.le_refl _);refine⟨.ref s1.heap.objs.size,upd H1 s1.heap.objs.size (.tup xs),I1.laid (t':=s1.toks) (fun b u e=>Heap.get?_push_of_some _ e) (Nat.le_refl _) ?_,rfl,q _ hf⟩
 exact⟨z,us,r,⟨_,Heap.get?_push_size _ rfl,rfl,⟨_,rfl⟩,rfl⟩⟩
theorem zsk(h:PA X es t):PE X (.List es pos) (tLst t):=by
 intro pins s σ H Q I hq;refine wpAny_List_spliced (thn (h pos pins s σ H _ I hq) fun us s1 ⟨xs,H1,I1,r,z,q⟩=>⟨by rw[<- r.length];exact z,?_⟩)
 have hf:H1 s1.heap.objs.size=none:=I1.hok.fresh (Nat.le_refl _);refine⟨.ref s1.heap.objs.size,upd H1 s1.heap.objs.size (.lst xs),I1.laid (t':=s1.toks) (fun b u e=>Heap.get?_push_of_some _ e) (Nat.le_refl _) ?_,rfl,q _ hf⟩
 exact⟨z,us,0,r,Heap.get?_push_size _ rfl⟩
end
abbrev Sp:=List V->Hp->VK->XK->Prop
abbrev CXT:=List Env->Hp->Shared->XK->Value->Shared->Prop
structure Env0(P:Program)(w:World)(K:qF)(mg:qM)(base:Heap)(A:Around)(outer:List Env)(s:Shared)(H:Hp):Prop where
 frames:A.frames=some outer
 mod:Mod K mg base
 bs:∀b o,base.get? b=some o->s.heap.get? b=some o/\H b=none
 bsz:base.objs.size<=s.heap.objs.size
 funs:s.heap.FunFrames base outer
 frf:∀b∈frs outer,H b=none
 hok:HOk P w H s.heap
 bare:AllBare s.gens
def CE(outer:List Env)(P:Program)(w:World)(H:Hp)(s:Shared)(Q:VK)(u:Value)(s':Shared):Prop :=
 ∃v H',s'.os=s.os/\AllBare s'.gens/\Un (frs outer) [] H H' s.heap s'.heap/\HOk P w H' s'.heap/\RelV v u/\Q v H'
def CR(CX:CXT)(outer:List Env)(P:Program)(w:World)(H:Hp)(s:Shared)(Q:VK)(E:XK)(r:Result)(s':Shared):Prop :=
 match r with
 | .ok (.ret u)=>CE outer P w H s Q u s'
 | .ok _=>False
 | .error e=>CX outer H s E e s'
structure FnOk(P:Program)(w:World)(K:qF)(mg:qM)(base:Heap)(CX:CXT)(k:Nat)(f:Addr)(fd:FuncData)(ps:List Str)(sp:Sp):Prop where
 len:∀vs H Q E,sp vs H Q E->vs.length=ps.length
 run:∀(A:Around) (outer:List Env) (s:Shared) (H:Hp) (args:Args) (us:List Value) (vs:List V) (Q:VK) (E:XK),Room k A->Env0 P w K mg base A outer s H->BindsTo s fd args (ps.zip us)->Vals vs us->sp vs H Q E ->
  codeAny (model P w) A (.call (.ref f) args) (CR CX outer P w H s Q E) s
theorem FnOk.imp{P:Program}{w:World}{K:qF}{mg:qM}{base:Heap}{CX:CXT}{k:Nat}{f:Addr}{fd:FuncData}{ps:List Str}{sp sp':Sp}(F:FnOk P w K mg base CX k f fd ps sp)
  (h:∀vs H Q E,sp' vs H Q E->sp vs H Q E):FnOk P w K mg base CX k f fd ps sp' :=
 ⟨fun vs H Q E q=>F.len vs H Q E (h _ _ _ _ q),fun A outer s H args us vs Q E hr he hb hv hs=>F.run A outer s H args us vs Q E hr he hb hv (h _ _ _ _ hs)⟩
section
variable{X:Cx}{pins:qO}{σ:St}{H:Hp}{s s':Shared}
theorem Inv.env0(I:Inv X pins σ H s):Env0 X.prog X.w X.K X.mg X.base X.A X.stack s H :=
 ⟨I.ok.frames,I.ok.mod,I.bs,Nat.le_trans I.ok.bsz I.sz,I.stack,I.stkFree,I.hok,I.bare⟩
theorem Inv.after{Q:VK}{u:Value}(I:Inv X pins σ H s)(h:CE X.stack X.prog X.w H s Q u s'):EP X pins σ Q u s':=by
 obtain⟨v,H',os,bare,un,hok,r,q⟩:=h;obtain⟨hh,g,d,t,os'⟩:=s';obtain rfl:os'=s.os:=os;exact⟨v,H',I.call (h':=hh) (g':=g) (d':=d) (t':=t) (ch:=[]) un hok bare (fun b z=>absurd z (by simp)),r,q⟩
end
def zrE(sp:Sp)(dvs:List V)(E:XK)(t:TA):TE:=fun σ H Q=>t σ H fun vs H1=>sp (vs++dvs) H1 Q E
def Binds(K:qF)(fd:FuncData)(ps:List Str)(ds:List Value):Prop :=
 ∀(s:Shared) (us:List Value),K.In s.heap->(us++ds).length=ps.length->BindsTo s fd ⟨us,[]⟩ (ps.zip (us++ds))
theorem Binds.all{K:qF}{fd:FuncData}{ps:List Str}(h:∀us:List Value,us.length=ps.length->bindArgs fd ⟨us,[]⟩=pure (ps.zip us)):Binds K fd ps []:=fun s us _ hl=>by
 rw[List.append_nil]at hl ⊢;exact .of_eq (h us hl)
def znY(CX:CXT)(X:Cx)(E:XK):Prop:=∀(pins:qO) (σ:St) (H:Hp) (s:Shared) (e:Value) (s':Shared),Inv X pins σ H s->CX X.stack H s E e s'->X.xe e s'
section
variable{X:Cx}{CX:CXT}{k:Nat}{f C:Addr}{fd:FuncData}{ps:List Str}{sp:Sp}{dvs:List V}{ds:List Value}{E:XK}{x m:Str}{p pos apos:Pos}{e o:Expr}{es:List Expr}{ta:TE}{t:TA}
theorem zrZ{pins:qO}{σ:St}{H:Hp}{s:Shared}{Q:VK}{us:List Value}{vs:List V}(F:FnOk X.prog X.w X.K X.mg X.base CX k f fd ps sp)(hr:Room k X.A)(hb:Binds X.K fd ps ds)(hd:Vals dvs ds)(hx:znY CX X E)
  (I:Inv X pins σ H s) (r:Vals vs us) (h:sp (vs++dvs) H Q E):wpAny (model X.prog X.w) X.A (call (.ref f) us) (EP X pins σ Q) X.xe s:=by
 have r2:Vals (vs++dvs) (us++ds):=r.append hd;have hl:(us++ds).length=ps.length:=by rw[<- r2.length];exact F.len _ _ _ _ h
 refine wpAny_call (codeAny_mono (F.run X.A X.stack s H ⟨us,[]⟩ (us++ds) (vs++dvs) Q E hr I.env0 (hb s us I.kIn hl) r2 h) fun r s' hq=>?_)
 cases r with
 | error e=>exact hx pins σ H s e s' I hq
 | ok fl =>
  cases fl with
  | ret u=>exact I.after hq
  | next=>exact False.elim hq
  | brk=>exact False.elim hq
  | cont=>exact False.elim hq
theorem zqk(F:FnOk X.prog X.w X.K X.mg X.base CX k f fd ps sp)(hr:Room k X.A)(hg:Gl X x)(hm:X.mg x=some (.ref f))(hk:PySem.W.keepIn X.K (.ref f)=true)(hb:Binds X.K fd ps ds)(hd:Vals dvs ds)(hx:znY CX X E)
  (ha:PA X (e::es) t) (hdb:(x == ("__debug__":Str))=false:=by decide) (he:starEach (e::es) X.env=(false,eval e X.env)::starEach es X.env:=by rfl) (hpl:(backTo pos (starEach es X.env)).any (·.1)=false:=by rfl) :
  PE X (.Call (.Name x p) (e::es) [] pos) (zrE sp dvs E t):=by
 intro pins s σ H Q I h;refine wpAny_Call_Name_kw (zqG I hg hm ?_ hdb);refine PySem.W.callWith_K (h₀:=X.base) I.ok.mod.kin hk (thn (ha pos pins s σ H _ I h) fun us s1 ⟨vs,H1,I1,r,q⟩=>⟨I1.kIn,?_⟩) he hpl
 exact zrZ F hr hb hd hx I1 r q
end
structure FnScope(N P:List Str)(sc:Scope):Prop where
 kind:sc.kind=.function
 co:sc.isCoroutine=false
 gen:sc.isGenerator=false
 nd:N.Nodup
 pre:N.take P.length=P
 par:∀x∈P,sc.names.lookup x=some .local\/sc.names.lookup x=some .cell
 nofree:∀y∈sc.names,y.2≠.free
theorem ziH{kindOf:Str->Option NameKind}{x:Str}:∀{binds:List (Str×Value)}{m:qM},(∀v,(x,v)∉binds)->bindL kindOf binds m x=m x
 | [],_,_=>rfl
 | (n,v)::r,m,h=>by
  unfold bindL;rw[ziH fun w hw=>h w (List.mem_cons_of_mem _ hw)]
  split
  ·have:x≠n:=by rintro rfl;exact h v List.mem_cons_self
   simp[this]
  ·rfl
theorem ziJ{kindOf:Str->Option NameKind}{x:Str}:∀{binds:List (Str×Value)}{m:qM},(∀v,(x,v)∉binds)->bindC kindOf binds m x=m x
 | [],_,_=>rfl
 | (n,v)::r,m,h=>by
  unfold bindC;rw[ziJ fun w hw=>h w (List.mem_cons_of_mem _ hw)]
  split
  ·rfl
  ·have:x≠n:=by rintro rfl;exact h v List.mem_cons_self
   simp[this]
theorem ziI{kindOf:Str->Option NameKind}{x:Str}{v:Value}:∀{P:List Str}{vs:List Value}{i:Nat}{m:qM},P.Nodup->P[i]?=some x->vs[i]?=some v->kindOf x=some .local ->
  bindL kindOf (P.zip vs) m x=some v
 | [],_,_,_,_,h,_,_=>by simp at h
 | _::_,[],_,_,_,_,h,_=>by simp at h
 | p::P,w::vs,0,m,nd,h1,h2,hk=>by
  simp at h1 h2;subst h1;subst h2;show bindL kindOf ((p,w)::P.zip vs) m p=_
  unfold bindL;rw[ziH fun v hv=>(List.nodup_cons.mp nd).1 (List.of_mem_zip hv).1,if_pos hk]
  simp
 | p::P,w::vs,i+1,m,nd,h1,h2,hk=>by
  show bindL kindOf ((p,w)::P.zip vs) m x=_
  unfold bindL;exact ziI (i:=i) (List.nodup_cons.mp nd).2 (by simpa using h1) (by simpa using h2) hk
theorem ziK{kindOf:Str->Option NameKind}{x:Str}{v:Value}:∀{P:List Str}{vs:List Value}{i:Nat}{m:qM},P.Nodup->P[i]?=some x->vs[i]?=some v->kindOf x≠some .local ->
  bindC kindOf (P.zip vs) m x=some v
 | [],_,_,_,_,h,_,_=>by simp at h
 | _::_,[],_,_,_,_,h,_=>by simp at h
 | p::P,w::vs,0,m,nd,h1,h2,hk=>by
  simp at h1 h2;subst h1;subst h2;show bindC kindOf ((p,w)::P.zip vs) m p=_
  unfold bindC;rw[ziJ fun v hv=>(List.nodup_cons.mp nd).1 (List.of_mem_zip hv).1,if_neg hk]
  simp
 | p::P,w::vs,i+1,m,nd,h1,h2,hk=>by
  show bindC kindOf ((p,w)::P.zip vs) m x=_
  unfold bindC;exact ziK (i:=i) (List.nodup_cons.mp nd).2 (by simpa using h1) (by simpa using h2) hk
def start(N:List Str)(vs:List V):St:=vs.map some++List.replicate (N.length - vs.length) none
def cxOf(CX:CXT)(P:Program)(w:World)(K:qF)(mg:qM)(base:Heap)(N:List Str)(qual:Str)(scope:Scope)(f:Addr)(cd:Value)(A:Around)(outer:List Env)(s:Shared)(H:Hp)(E:XK):Cx where
 prog:=P
 w:=w
 K:=K
 mg:=mg
 base:=base
 A:=A.deeper (envOfC qual scope s.heap.objs.size f cd)
 N:=N
 s₀:=s
 H₀:=H
 env:=envOfC qual scope s.heap.objs.size f cd
 outer:=outer
 stack:=envOfC qual scope s.heap.objs.size f cd::outer
 ex:=[]
 calm:=true
 fn:=fun _=>true
 pn:=[]
 xe:=fun e s'=>wpAny (model P w) (A.deeper (envOfC qual scope s.heap.objs.size f cd)) (leaving (envOfC qual scope s.heap.objs.size f cd) e) (fun _ s''=>CX outer H s E e s'') (fun e' s''=>CX outer H s E e' s'') s'
theorem zkU{sc:Scope}{n:Nat}{x:Str}(h:sc.names.lookup x=some .cell):∃c,(cellsFrom n sc.names []).lookup x=some c:=by
 have q:=PySem.W.cellsFrom_some sc.names n [] (.inl h);exact Option.isSome_iff_exists.mp q
theorem znd{CX:CXT}{P:Program}{w:World}{K:qF}{mg:qM}{base:Heap}{N ps:List Str}{qual:Str}{scope:Scope}{f:Addr}{cd:Value}{A:Around}{outer:List Env}{s s1:Shared}{H:Hp}{E:XK}{us:List Value}{vs:List V}
  (S:FnScope N ps scope) (hd:A.handled=none) (e0:Env0 P w K mg base A outer s H) (hl:vs.length=ps.length) (r:Vals vs us)
  (x:InCallC s s.heap.objs.size (bindL (envOfC qual scope s.heap.objs.size f cd).kindOf (ps.zip us) fun _=>none) (cellsFrom (s.heap.objs.size+1) scope.names []) (bindC (envOfC qual scope s.heap.objs.size f cd).kindOf (ps.zip us) fun _=>none) s1) :
  Inv (cxOf CX P w K mg base N qual scope f cd A outer s H E) [] (start N vs) H s1:=by
 have hpl:ps.length<=N.length:=by have:=congrArg List.length S.pre;rw[List.length_take]at this;lia
 obtain⟨h1,tk,rfl,hk⟩:=x.done;have noA:∀b:Addr,b∉(cxOf CX P w K mg base N qual scope f cd A outer s H E).ex:=fun b z=>absurd (show b∈([]:List Addr) from z) (by simp)
 refine⟨⟨e0.mod,S.kind,rfl,rfl,Nat.le_refl _,fun y z c h1 h2=>?_,fun y hy=>?_,fun y c _ h=>?_,fun _=>hd,Around.frames_deeper e0.frames,.inr ⟨rfl,rfl⟩,fun b z=>absurd z (noA b),e0.bs,e0.bsz,fun b _ _=>noA b,fun b z=>absurd z (noA b),e0.funs,e0.frf⟩,
  rfl,e0.bare,Un.kept hk,⟨_,x.toInCall.ns,fun i y v h1 h2 h3=>?_⟩,fun y c h=>⟨_,x.cell y c h⟩,e0.hok.fresh (Nat.le_refl _),fun y c h=>?_,fun p hp=>absurd (show p∈([]:qO) from hp) (by simp),e0.hok.kept hk,?_⟩
 ·exact name_of_addr x.apart (PySem.mem_of_lookup h1) (PySem.mem_of_lookup h2)
 ·have hy:scope.names.lookup y=some .cell\/scope.names.lookup y=some .free:=hy;rcases hy with hy|hy
  ·exact zkU hy
  ·exact absurd rfl (S.nofree _ (PySem.mem_of_lookup hy))
 ·exact Nat.le_of_lt (x.above y c (PySem.mem_of_lookup h))
 ·have hi:i<vs.length:=by
   unfold start at h2
   by_cases hi:i<vs.length
   ·exact hi
   ·rw[List.getElem?_append_right (by simpa using hi)]at h2
    rw[List.getElem?_replicate]at h2;split at h2 <;> cases h2
  have ha:vs[i]?=some v:=by
   unfold start at h2;rw[List.getElem?_append_left (by simpa using hi),List.getElem?_map]at h2
   cases e:vs[i]? with
   | none=>rw[e]at h2;cases h2
   | some a=>rw[e]at h2;cases h2;rfl
  obtain⟨u,hu,rv⟩:=r.get ha;have hp:ps[i]?=some y:=by
   rw[<- S.pre,List.getElem?_take_of_lt (by lia)];exact h1
  have ndP:ps.Nodup:=by rw[<- S.pre];exact S.nd.sublist (List.take_sublist _ _)
  refine⟨u,rv,?_⟩;rcases S.par y (List.mem_of_getElem? hp) with k|k
  ·exact .inl ⟨k,ziI ndP hp hu k⟩
  ·obtain⟨c,e⟩:=zkU (n:=s.heap.objs.size+1) k;refine .inr ⟨.inl k,c,e,?_⟩;have q:=x.cell y c e;rw[ziK ndP hp hu (by show scope.names.lookup y≠_;rw[k];decide)]at q
   exact q
 ·exact e0.hok.fresh (Nat.le_of_lt (x.above y c (PySem.mem_of_lookup h)))
 ·unfold start;show _=N.length
  rw[List.length_append,List.length_map,List.length_replicate];lia
theorem zwh{CX:CXT}{P:Program}{w:World}{K:qF}{mg:qM}{base:Heap}{k:Nat}{f:Addr}{name qual:Str}{params:Arguments}{body:List Stmt}{scope:Scope}{dV kV doc pm cdv ct oc:Value}{an od:Option Addr}
  {osl:Array (Option Value)} {N ps:List Str} {sp:Sp} (lk:K.lookup f=some ⟨oc,od,.func (PySem.W.fnOf name qual params body scope dV kV doc pm an cdv ct),osl⟩) (hcd:PySem.W.codeIn K cdv qual=true) (S:FnScope N ps scope)
  (len:∀vs H Q E,sp vs H Q E->vs.length=ps.length)
  (hbody:∀(A:Around) (outer:List Env) (s:Shared) (H:Hp) (vs:List V) (Q:VK) (E:XK),Room k (A.deeper (envOfC qual scope s.heap.objs.size f cdv))->sp vs H Q E ->
   ∃t,PSs (cxOf CX P w K mg base N qual scope f cdv A outer s H E) body t/\t { nx:=fun _ H'=>Q .non H',rt:=Q } (start N vs) H) :
  FnOk P w K mg base CX (k+1) f (PySem.W.fnOf name qual params body scope dV kV doc pm an cdv ct) ps sp:=by
 refine⟨len,fun A outer s H args us vs Q E hr e0 hb r hsp=>?_⟩
 have hl:=len _ _ _ _ hsp;have KX:K.In s.heap:=e0.mod.kin.keeps fun b o e=>(e0.bs b o e).1
 have lim:s.heap.NoLimit:=e0.mod.nolimit.keeps fun b o e=>(e0.bs b o e).1
 have hkind:∀y∈ps.zip us,scope.names.lookup y.1=some .local\/(scope.names.lookup y.1=some .cell/\((cellsFrom (s.heap.objs.size+1) scope.names []).lookup y.1).isSome=true):=fun⟨n,v⟩ hy=>by
  rcases S.par n (List.of_mem_zip hy).1 with q|q
  ·exact .inl q
  ·exact .inr ⟨q,PySem.W.cellsFrom_some _ _ _ (.inl q)⟩
 refine codeAny_call_function hr.depth (KX _ _ lk) rfl S.co S.gen rfl (PySem.W.codeRec_of KX hcd) (hb _ _ _ _ ?_);refine wpAny_newFunctionEnv_cells S.kind hkind fun env he s1 x=>?_
 subst he;refine⟨lim.keeps x.toInCall.keep,codeAny_func ?_⟩;obtain⟨t,ht,hq⟩:=hbody A outer s H vs Q E (hr.deeper _) hsp;have I:Inv (cxOf CX P w K mg base N qual scope f cdv A outer s H E) [] (start N vs) H s1:=znd S hr.hd e0 hl r x;refine wpAny_mono (ht [] s1 (start N vs) H _ I hq) (fun fl s' hs=>?_) fun e s' hs=>hs
 have fin:∀{σ':St} {H':Hp} {v:V} {u:Value},Inv (cxOf CX P w K mg base N qual scope f cdv A outer s H E) [] σ' H' s'->RelV v u->Q v H'->CE outer P w H s Q u s' :=
  fun {σ' H' v u} J rv q=>⟨v,H',J.os,J.bare,J.base,J.hok,rv,q⟩
 cases fl with
 | ret u =>
  obtain⟨v,σ',H',J,rv,q⟩:=hs;exact fin J rv q
 | next =>
  obtain⟨σ',H',J,q⟩:=hs;exact fin (v:=V.non) (u:=Value.none) J rfl q
 | brk =>
  obtain⟨_,_,_,q⟩:=hs;exact False.elim q
 | cont =>
  obtain⟨_,_,_,q⟩:=hs;exact False.elim q
section
variable{X:Cx}{x:Str}{p pos:Pos}{e:Expr}{es:List Expr}{t:TA}{id T:String}{r:List V->Hp->VK->Prop}
def tCB(r:List V->Hp->VK->Prop)(t:TA):TE:=fun σ H Q=>t σ H fun vs H1=>r vs H1 Q
theorem zoL(hc:Qb X (.builtin id) r)(hg:Gl X x)(hm:X.mg x=none)(hv:bootBuiltins x=some (.builtin id))(ha:PA X (e::es) t)(hn:x ≠ "__name__":=by decide) (hdb:(x == ("__debug__":Str))=false:=by decide)
  (he:starEach (e::es) X.env=(false,eval e X.env)::starEach es X.env:=by rfl) (hpl:(backTo pos (starEach es X.env)).any (·.1)=false:=by rfl):PE X (.Call (.Name x p) (e::es) [] pos) (tCB r t):=by
 intro pins s σ H Q I h;refine wpAny_Call_Name_kw (Y5 I hg hm hv ?_ hn hdb);exact PyProof.Rows.callWith_builtin1 (thn (ha pos pins s σ H _ I h) fun us s1 ⟨vs,H1,I1,r1,q1⟩=>hc pins s1 σ H1 vs us Q I1 r1 q1) he hpl
theorem zmv(hc:Qb X (.type T) r)(hg:Gl X x)(hm:X.mg x=none)(hv:bootBuiltins x=some (.type T))(ha:PA X (e::es) t)(hn:x ≠ "__name__":=by decide) (hdb:(x == ("__debug__":Str))=false:=by decide)
  (he:starEach (e::es) X.env=(false,eval e X.env)::starEach es X.env:=by rfl) (hpl:(backTo pos (starEach es X.env)).any (·.1)=false:=by rfl):PE X (.Call (.Name x p) (e::es) [] pos) (tCB r t):=by
 intro pins s σ H Q I h;refine wpAny_Call_Name_kw (Y5 I hg hm hv ?_ hn hdb);exact PyProof.Rows.callWith_type1 (thn (ha pos pins s σ H _ I h) fun us s1 ⟨vs,H1,I1,r1,q1⟩=>hc pins s1 σ H1 vs us Q I1 r1 q1) he hpl
end
end L2
namespace HT
open PySem PyProof.Rows
def lexLt:List Int->List Int->Bool
 | [],[]=>false
 | [],_::_=>true
 | _::_,[]=>false
 | x::xs,y::ys=>if x=y then lexLt xs ys else decide (x<y)
theorem zlv(x y:Int)(xs ys:List Int):lexLt (x::xs) (y::ys)=if x=y then lexLt xs ys else decide (x<y):=rfl
theorem zgU:lexLt [] []=false:=rfl
theorem zfR(y:Int)(ys:List Int):lexLt [] (y::ys)=true:=rfl
theorem zfS(x:Int)(xs:List Int):lexLt (x::xs) []=false:=rfl
theorem zpi(A:Around)(s:Shared)(a:Int)(t:Tok)(c:Int)(u:Tok):∃e,SeqAt.EqAt A s (.int a t) (.int c u) e/\(e=true↔a=c) :=
 ⟨(a == c),SeqAt.EqAt.int_int a t c u,by simp⟩
theorem zox(A:Around)(s:Shared)(a:Int)(t:Tok)(c:Int)(u:Tok)(prog:Program)(w:World)(E:qV)(Q:qV)(h:Q (.bool (decide (a<c))) s) :
  wpAny (model prog w) A (richCompare .Lt (.int a t) (.int c u)) Q E s :=
 (PyProof.Rows.lt_int h:wpAny (model prog w) A (compareOp .Lt (.int a t) (.int c u)) Q E s)
section
open PySem.SeqAt
open PySem.AutoSeq1 (wpAny_loadPart')
open PySem.MeetsSeq PySem.MeetsSeq2 PySem.MeetsSeq3
theorem zgq(l b:Addr)(items items2:Array Value)(n n2:Nat)(dd dd2:Option Addr)(sl sl2:Array (Option Value))(ns ms:List Int)(hi:IntsAre items.toList ns)(hj:IntsAre items2.toList ms) :
  Meets (Builtin.«tuple.__lt__» ⟨[.ref l,.ref b],[]⟩)
   (fun _ R s=>s.heap.get? l=some { cls:=.type "tuple",dict:=dd,data:=.seq items n,slots:=sl }/\s.heap.get? b=some { cls:=.type "tuple",dict:=dd2,data:=.seq items2 n2,slots:=sl2 } /\
    R (.ok (.ret (.bool (lexLt ns ms)))) s) :=
 .of_wp fun prog w A R s h=>by
  obtain⟨hp,g,d,tk,os⟩:=s;obtain⟨hl,hb,h⟩:=h;have f2:=AutoSeq1.sub_tuple_tuple;have z1:items.size=ns.length:=by rw[<- hi.length];simp
  have z2:items2.size=ms.length:=by rw[<- hj.length];simp
  wp_walk using wpAny_loadPart' hl,wpAny_loadPart' hb,wpAny_forIn_list _ (fun rest b s'=>b.1=none/\s'=⟨hp,g,d,tk,os⟩/\∃(vs ws:List Value) (ns' ms':List Int),rest=vs.zip ws /\
   IntsAre vs ns'/\IntsAre ws ms'/\ns'.length+items2.size=ms'.length+items.size/\R (.ok (.ret (.bool (lexLt ns' ms')))) ⟨hp,g,d,tk,os⟩) _
  case turn =>
   rintro⟨y,x⟩ rest b s' ⟨hb',rfl,vs,ws,ns',ms',hz,hvi,hwi,hlen,hR⟩;cases hvi with
   | nil=>rw[List.zip_nil_left]at hz;cases hz
   | cons a t hvi' =>
    cases hwi with
    | nil=>rw[List.zip_nil_right]at hz;cases hz
    | cons c u hwi' =>
     rw[List.zip_cons_cons]at hz
     injection hz with hyx hrest
     injection hyx with hy hx
     subst hy hx;rw[zlv]at hR;simp only[List.length_cons]at hlen;obtain⟨e,he,hiff⟩:=zpi A.in1 ⟨hp,g,d,tk,os⟩ a t c u;refine wpAny_bind (he prog w _ _ ?_);cases e with
     | true =>
      rw[if_pos (hiff.mp rfl)]at hR
      wp_walk
      exact⟨rfl,rfl,_,_,_,_,hrest,hvi',hwi',by lia,hR⟩
     | false =>
      rw[if_neg (fun q=>absurd (hiff.mpr q) Bool.false_ne_true)]at hR
      have hri:=zox A.in1 ⟨hp,g,d,tk,os⟩ a t c u prog w
      wp_walk using hri
      exact⟨_,rfl,by simpa using hR⟩
  case fin =>
   rintro⟨b1,b2⟩ s' ⟨hb',rfl,vs,ws,ns',ms',hz,hvi,hwi,hlen,hR⟩;simp only at hb';subst hb';have hv:lexLt ns' ms'=decide (items.size<items2.size):=by
    cases hvi with
    | nil =>
     cases hwi with
     | nil =>
      simp only[List.length_nil]at hlen;rw[zgU];exact(decide_eq_false (by lia)).symm
     | cons c u hw =>
      simp only[List.length_nil,List.length_cons]at hlen;rw[zfR];exact(decide_eq_true (by lia)).symm
    | cons a t hv =>
     cases hwi with
     | nil =>
      simp only[List.length_nil,List.length_cons]at hlen;rw[zfS];exact(decide_eq_false (by lia)).symm
     | cons c u hw =>
      rw[List.zip_cons_cons]at hz;cases hz
   rw[hv]at hR
   wp_walk
   exact⟨_,rfl,by simpa[Builtin.Tuple.tupleCompareSizes] using hR⟩
  case h =>
   exact⟨rfl,rfl,items.toList,items2.toList,ns,ms,rfl,hi,hj,by lia,h⟩
end
section
variable{prog:Program}{w:World}{A:Around}{E:qV}{s:Shared}
theorem zlu{l b:Addr}{items items2:Array Value}{ns ms:List Int}{Q:qV}(hl:IsTup s.heap l items)(hb:IsTup s.heap b items2)(hi:IntsAre items.toList ns)(hj:IntsAre items2.toList ms)
  (hu:A.units<cLine) (h:Q (.bool (lexLt ns ms)) s):wpAny (model prog w) A (compareOp .Lt (.ref l) (.ref b)) Q E s:=by
 obtain⟨⟨cls,dd,data,sl⟩,ho,hc,n,hd⟩:=id hl;obtain⟨⟨cls2,dd2,data2,sl2⟩,ho2,hc2,n2,hd2⟩:=id hb;simp only at hc hd hc2 hd2;subst hc hd hc2 hd2;exact richCompare_meets_room (op:=.Lt) ⟨_,ho,rfl⟩ ⟨_,ho2,rfl⟩ PySem.F.slot_tuple_lt PySem.F.entry_tuple_lt (PySem.F.args_tuple_lt_2 _ _) (zgq l b items items2 n n2 dd dd2 sl sl2 ns ms hi hj)
  ⟨ho,ho2,show Value.bool (lexLt ns ms)≠Value.notImplemented/\Q (.bool (lexLt ns ms)) s from⟨(fun x=>nomatch x),h⟩⟩ hu
theorem zre{t b:Addr}{vs ws:List Value}{Q:qV}(ht:IsTup s.heap t vs.toArray)(hb:IsTup s.heap b ws.toArray)(hv:vs≠[])
  (h1:ws=[]->Q (.ref t) s) (h2:ws≠[]->Q (.ref s.heap.objs.size) { s with heap:=s.heap.push { cls:=.type "tuple",data:=.seq (vs++ws).toArray } })
  (hsz:vs.length+ws.length<=sizeLine):wpAny (model prog w) A (binaryOp .Add (.ref t) (.ref b)) Q E s:=by
 obtain⟨⟨cls,dd,data,sl⟩,ho,hc,n,hd⟩:=id ht;obtain⟨⟨cls2,dd2,data2,sl2⟩,ho2,hc2,n2,hd2⟩:=id hb;simp only at hc hd hc2 hd2;subst hc hd hc2 hd2;have e:vs.toArray++ws.toArray=(vs++ws).toArray:=by simp
 by_cases hw:ws=[]
 ·exact concat_meets ⟨_,ho,rfl⟩ ⟨_,ho2,rfl⟩ noFill_tuple_add seq_tuple_add PySem.F.slot_tuple_add PySem.F.entry_tuple_add (PySem.F.args_tuple_add_2 _ _)
   (tuple_addW1 t b vs.toArray ws.toArray n n2 dd dd2 sl sl2 (by simpa using hv) (by simp[hw])) ⟨ho,ho2,h1 hw⟩
 ·refine concat_meets ⟨_,ho,rfl⟩ ⟨_,ho2,rfl⟩ noFill_tuple_add seq_tuple_add PySem.F.slot_tuple_add PySem.F.entry_tuple_add (PySem.F.args_tuple_add_2 _ _)
   (tuple_addW2 t b vs.toArray ws.toArray n n2 dd dd2 sl sl2 (by simpa using hv) (by simpa using hw) (by rw[List.size_toArray,List.size_toArray];exact hsz)) ⟨ho,ho2,?_⟩
  rw[e];exact h2 hw
def sIx(n d:Nat):Option Int->Nat
 | none=>d
 | some v=>if v<0 then(v+(n:Int)).toNat else min v.toNat n
theorem zgy(n d:Nat):sIx n d none=d:=rfl
theorem ziV(n d k:Nat):sIx n d (some (k:Int))=min k n:=by
 show(if (k:Int)<0 then((k:Int)+(n:Int)).toNat else min (k:Int).toNat n)=min k n
 rw[if_neg (by lia),Int.toNat_natCast]
theorem zrY(n d:Nat)(hd:d<=n)(o:Option Int):sIx n d o<=n:=by
 cases o with
 | none=>exact hd
 | some v =>
  show(if v<0 then(v+(n:Int)).toNat else min v.toNat n)<=n
  by_cases hv:v<0
  ·rw[if_pos hv];lia
  ·rw[if_neg hv];exact Nat.min_le_right _ _
theorem znH(v:Int)(n d:Nat):(if v<0 then max (v+(n:Int)) 0 else min v (n:Int))=((sIx n d (some v):Nat):Int):=by
 show(if v<0 then max (v+(n:Int)) 0 else min v (n:Int))=(((if v<0 then(v+(n:Int)).toNat else min v.toNat n):Nat):Int)
 by_cases hv:v<0
 ·simp only[if_pos hv];lia
 ·simp only[if_neg hv];lia
theorem zlR(lo hi:Option Int)(n:Nat):Builtin.Slice.sliceAdjust lo hi 1 (n:Int)=(((sIx n 0 lo:Nat):Int),((sIx n n hi:Nat):Int)):=by
 have h1:¬((1:Int)<0):=by lia
 unfold Builtin.Slice.sliceAdjust;simp only[h1,if_false];refine Prod.ext ?_ ?_
 ·cases lo with
  | none=>rfl
  | some v=>exact znH v n 0
 ·cases hi with
  | none=>rfl
  | some v=>exact znH v n n
theorem zk_(i j:Nat):Builtin.Slice.slicePlaces (i:Int) (j:Int) 1=j - i:=by
 unfold Builtin.Slice.slicePlaces;have h1:(1:Int) > 0:=by lia
 simp only[h1,if_true,Int.ediv_one];split <;> lia
theorem zf4{v:Value}{o:Option Int}{Q:Option Int->Shared->Prop}(p:IsPart v o)(h:Q o s):wpAny (model prog w) A (Builtin.Slice.slicePartIndex v) Q E s:=by
 cases p with
 | none=>exact slicePart_none h
 | int i t=>exact slicePart_int h
theorem zcF{sl:Addr}{vl vu:Value}{lo hi:Option Int}{n:Nat}{Q:Int×Int×Nat->Shared->Prop}(hs:s.heap.IsSliceOf sl vl vu .none)(pl:IsPart vl lo)(pu:IsPart vu hi)
  (h:Q (((sIx n 0 lo:Nat):Int),1,sIx n n hi - sIx n 0 lo) s):wpAny (model prog w) A (Builtin.Slice.sliceApplied (.ref sl) (pure (n:Int))) Q E s:=by
 obtain⟨os,hos,hcs,hds⟩:=id hs;unfold Builtin.Slice.sliceApplied Builtin.Slice.sliceFields;refine wpAny_bind (wpAny_bind (wpAny_field hos hds (x:=vl) rfl (wpAny_bind (wpAny_field hos hds (x:=vu) rfl (wpAny_bind (wpAny_field hos hds (x:=.none) rfl (wpAny_pure ?_)))))));refine wpAny_bind (slicePart_none ?_);show wpAny _ _ (if ((1:Int) == 0)=true then _ else _) _ _ s
 rw[if_neg (by decide)]
 refine wpAny_bind (zf4 pl (wpAny_bind (zf4 pu (wpAny_bind (wpAny_pure ?_)))));show wpAny _ _ (match Builtin.Slice.sliceAdjust lo hi 1 (n:Int) with|(lo,hi)=>pure (lo,(1:Int),Builtin.Slice.slicePlaces lo hi 1)) _ _ s
 rw[zlR lo hi n];show wpAny _ _ (pure (((sIx n 0 lo:Nat):Int),(1:Int),Builtin.Slice.slicePlaces ((sIx n 0 lo:Nat):Int) ((sIx n n hi:Nat):Int) 1)) _ _ s
 rw[zk_];exact wpAny_pure h
theorem zoG(xs:Array Value)(i k:Nat):((List.range k).filterMap fun(m:Nat)=>xs[((i:Int)+(m:Int)*1).toNat]?).toArray=((xs.toList.drop i).take k).toArray:=by
 have e:(fun(m:Nat)=>xs[((i:Int)+(m:Int)*1).toNat]?)=fun m=>xs[i+m]?:=by
  funext m
  have:((i:Int)+(m:Int)*1).toNat=i+m:=by lia
  rw[this]
 rw[e];have:=pick_run xs i k;rw[List.filterMap_map]at this;have e2:((fun x=>xs[x]?)∘fun x=>i+x)=fun m=>xs[i+m]?:=rfl
 rw[e2]at this;rw[this]
theorem zei{t sl:Addr}{items:Array Value}{vl vu:Value}{lo hi:Option Int}{Q:qV}(ht:IsTup s.heap t items)(hs:s.heap.IsSliceOf sl vl vu .none)(pl:IsPart vl lo)(pu:IsPart vu hi)
  (hw:¬(sIx items.size 0 lo=0/\sIx items.size items.size hi=items.size))
  (h:Q (.ref s.heap.objs.size) { s with heap:=s.heap.push { cls:=.type "tuple",data:=.seq ((items.toList.drop (sIx items.size 0 lo)).take (sIx items.size items.size hi - sIx items.size 0 lo)).toArray } })
  (hsz:items.size<=sizeLine):wpAny (model prog w) A (getItem (.ref t) (.ref sl)) Q E s:=by
 have htake:sizeOk (.seq ((items.toList.drop (sIx items.size 0 lo)).take (sIx items.size items.size hi - sIx items.size 0 lo)).toArray):=by
  show((items.toList.drop (sIx items.size 0 lo)).take (sIx items.size items.size hi - sIx items.size 0 lo)).toArray.size<=sizeLine
  rw[List.size_toArray,List.length_take,List.length_drop,Array.length_toList];lia
 have hj:sIx items.size items.size hi<=items.size:=zrY _ _ (Nat.le_refl _) hi;obtain⟨os,hos,hcs,hds⟩:=id hs;have hTs:s.TypeIs (.ref sl) "slice":=⟨os,hos,hcs⟩;unfold getItem
 try with_reducible refine wpAny_holding ?_
 first|refine wpAny_bind (wpAny_pure ?_)|skip
 refine wpAny_bind (wpAny_sequenceKey ht.typeIs (by decide) ?_)
 refine wpAny_bind (wpAny_callSpecial?_slot (name:=Str.ofString "__getitem__") ht.typeIs PyProof.Rows.slot_tuple_getitem
  (wpAny_call_entry PyProof.Rows.slot_tuple_getitem ht.typeIs entry_tuple_getitem ?_ (args_tuple_getitem _ _)))
 show wpAny _ _ (Builtin.Tuple.tupleItemsOf (.ref t) >>= _) _ _ s
 refine wpAny_bind (tupleItemsOf_ ht ?_);refine wpAny_bind (wpAny_typeOf hTs ?_);rw[if_pos (by decide)]
 refine wpAny_bind (zcF hs pl pu ?_);have hno:¬((((sIx items.size 0 lo:Nat):Int) == 0&&(1:Int) == 1&&(sIx items.size items.size hi - sIx items.size 0 lo) == items.size)=true):=by
  intro q;rw[Bool.and_eq_true,Bool.and_eq_true]at q;have q1:((sIx items.size 0 lo:Nat):Int)=0:=eq_of_beq q.1.1;have q2:sIx items.size items.size hi - sIx items.size 0 lo=items.size:=eq_of_beq q.2;exact hw ⟨by lia,by lia⟩
 show wpAny _ _ (if (((sIx items.size 0 lo:Nat):Int) == 0&&(1:Int) == 1&&(sIx items.size items.size hi - sIx items.size 0 lo) == items.size)=true then _ else _) _ _ s
 rw[if_neg hno,zoG]
 first
  | exact wpAny_bind (m:=Builtin.Tuple.tupleExact _) (wpAny_newObj_type (wpAny_pure ⟨_,rfl,wpAny_pure h⟩) htake)
  | exact wpAny_bind (m:=Builtin.Tuple.tupleExact _) (wpAny_newObj_type (wpAny_bind (wpAny_pure (wpAny_pure ⟨_,rfl,wpAny_pure h⟩))) htake)
  | exact wpAny_bind (wpAny_bind (m:=Builtin.Tuple.tupleExact _) (wpAny_newObj_type (wpAny_pure (wpAny_pure ⟨_,rfl,wpAny_pure h⟩)) htake))
  | exact wpAny_bind (wpAny_bind (m:=Builtin.Tuple.tupleExact _) (wpAny_newObj_type (wpAny_pure ⟨_,rfl,wpAny_pure h⟩) htake))
end
end HT
namespace L2
open PySem PySem.Spec PyProof.Rows
abbrev TO:=St->Hp->(Option Int->Hp->Prop)->Prop
def PO(X:Cx)(e:Option Expr)(t:TO):Prop :=
 ∀(pins:qO) (s:Shared) (σ:St) (H:Hp) (Q:Option Int->Hp->Prop),Inv X pins σ H s->t σ H Q ->
  wpAny (model X.prog X.w) X.A (evalPart e X.env) (fun u s'=>∃o H',Inv X pins σ H' s'/\IsPart u o/\Q o H') X.xe s
def zpV:TO:=fun _ H Q=>Q none H
def zuL(t:TE):TO:=fun σ H Q=>t σ H fun x H1=>∃i,x=.int i/\Q (some i) H1
theorem intsAre_of{ns:List Int}:∀{us:List Value},Vals (ns.map V.int) us->IntsAre us ns:=by
 induction ns with
 | nil=>intro us r;rw[List.map_nil]at r;cases r;exact .nil
 | cons n ns ih =>
  intro us r;rw[List.map_cons]at r;cases r with
  | cons r1 r2 =>
   obtain⟨t,e⟩:=r1;subst e;exact .cons n t (ih r2)
section
variable{X:Cx}{e:Expr}{te:TE}{lo hi:Option Expr}{tl th:TO}{pos p2:Pos}
theorem zqc:PO X none zpV:=by
 intro pins s σ H Q I h;rw[evalPart_none];exact wpAny_pure ⟨none,H,I,.none,h⟩
theorem zqb(h:PE X e te):PO X (some e) (zuL te):=by
 intro pins s σ H Q I hw;rw[evalPart_some];refine thn (h pins s σ H _ I hw) fun u s1 ⟨x,H1,I1,r1,q1⟩=>?_
 obtain⟨i,rfl,q⟩:=q1;obtain⟨t,rfl⟩:=r1;exact⟨some i,H1,I1,.int i t,q⟩
def SlR(X:Cx)(r:V->Option Int->Option Int->Hp->VK->Prop):Prop :=
 ∀(pins:qO) (s:Shared) (σ:St) (H:Hp) (x:V) (v vl vu:Value) (lo hi:Option Int) (sl:Addr) (Q:VK),Inv X pins σ H s->RelV x v->s.heap.IsSliceOf sl vl vu .none->IsPart vl lo->IsPart vu hi->r x lo hi H Q ->
  ∃T id,typeLookup (.type T) "__getitem__" = pure (some (.builtin id))/\s.TypeIs v T/\wpAny (model X.prog X.w) X.A (getItem v (.ref sl)) (EP X pins σ Q) X.xe s
theorem SlR.or{r r':V->Option Int->Option Int->Hp->VK->Prop}(h:SlR X r)(h':SlR X r'):SlR X (fun x lo hi H Q=>r x lo hi H Q\/r' x lo hi H Q):=by
 intro pins s σ H x v vl vu lo hi sl Q I rx hs pl pu q;rcases q with q|q
 ·exact h pins s σ H x v vl vu lo hi sl Q I rx hs pl pu q
 ·exact h' pins s σ H x v vl vu lo hi sl Q I rx hs pl pu q
def tSl(r:V->Option Int->Option Int->Hp->VK->Prop)(te:TE)(tl th:TO):TE:=fun σ H Q=>te σ H fun x H1=>tl σ H1 fun l H2=>th σ H2 fun u H3=>r x l u H3 Q
theorem zkd{r:V->Option Int->Option Int->Hp->VK->Prop}(hr:SlR X r)(he:PE X e te)(hl:PO X lo tl)(hu:PO X hi th):PE X (.Subscript e (.Slice lo hi none p2) pos) (tSl r te tl th):=by
 intro pins s σ H Q I h;refine Subscript_ (thn (he pins s σ H _ I h) fun v s1 ⟨x,H1,I1,r1,q1⟩=>?_)
 refine wpAny_Slice (thn (hl pins s1 σ H1 _ I1 q1) fun vl s2 ⟨l,H2,I2,pl,q2⟩=>thn (hu pins s2 σ H2 _ I2 q2) fun vu s3 ⟨u,H3,I3,pu,q3⟩=>?_)
 rw[evalPart_none];refine wpAny_pure ?_;have I4:Inv X pins σ H3 { s3 with heap:=s3.heap.push { cls:=.type "slice",data:=.fields #[vl,vu,.none] } }:=I3.kept (t':=s3.toks) fun b ob q=>Heap.get?_push_of_some _ q
 obtain⟨T,id,hT,ht,hg⟩:=hr pins { s3 with heap:=s3.heap.push { cls:=.type "slice",data:=.fields #[vl,vu,.none] } } σ H3 x v vl vu l u s3.heap.objs.size Q I4 r1 (Heap.IsSliceOf.new ..) pl pu q3
 show wpAny (model X.prog X.w) X.A (subscriptTail e (.Slice lo hi none p2) v (.ref s3.heap.objs.size)) (EP X pins σ Q) X.xe { s3 with heap:=s3.heap.push { cls:=.type "slice",data:=.fields #[vl,vu,.none] } }
 exact tail_any (ops:=[.ref s3.heap.objs.size,v]) ht hT hg (by with_unfolding_all rfl)
def cutV(xs:List V)(lo hi:Option Int):List V:=(xs.drop (HT.sIx xs.length 0 lo)).take (HT.sIx xs.length xs.length hi - HT.sIx xs.length 0 lo)
theorem zfH(xs:List V)(lo hi:Option Int):(cutV xs lo hi).length<=xs.length:=by
 unfold cutV;rw[List.length_take,List.length_drop];lia
def rSlT(K:qF):V->Option Int->Option Int->Hp->VK->Prop:=fun x lo hi H Q=>∃a xs,x=.ref a/\SqT K H a xs /\
 ¬(HT.sIx xs.length 0 lo=0/\HT.sIx xs.length xs.length hi=xs.length)/\∀p,H p=none->Q (.ref p) (upd H p (.tup (cutV xs lo hi)))
theorem zrH:SlR X (rSlT X.K):=by
 intro pins s σ H x v vl vu lo hi sl Q I rx hs pl pu h;obtain⟨a,xs,rfl,hx,hw,q⟩:=h;cases rx;obtain⟨its,r,ht,hz⟩:=I.tuple hx;have hlen:its.toArray.size=xs.length:=by rw[List.size_toArray];exact r.length.symm
 refine⟨"tuple",_,PyProof.Rows.slot_tuple_getitem.lookup,ht.typeIs,?_⟩;refine HT.zei ht hs pl pu (by rw[hlen];exact hw) ?_ (by rw[hlen];exact hz)
 rw[hlen];refine⟨.ref s.heap.objs.size,_,I.laid (t':=s.toks) (o:=.tup (cutV xs lo hi)) (fun b ob q=>Heap.get?_push_of_some _ q) (Nat.le_refl _) ?_,rfl,q _ (I.hok.fresh (Nat.le_refl _))⟩
 exact⟨Nat.le_trans (zfH xs lo hi) hz,_,(r.drop (HT.sIx xs.length 0 lo)).take (HT.sIx xs.length xs.length hi - HT.sIx xs.length 0 lo),IsTD.new _ _⟩
def rLtT(K:qF):R2:=fun x y H Q=>∃a b ns ms,x=.ref a/\y=.ref b/\SqT K H a (ns.map V.int)/\SqT K H b (ms.map V.int)/\Q (.bl (HT.lexLt ns ms)) H
theorem zsv(hu:X.A.units<cLine):OpR X (compareOp .Lt) (rLtT X.K):=by
 intro pins s σ H x y v u Q I rx ry h;obtain⟨a,b,ns,ms,rfl,rfl,ha,hb,q⟩:=h;cases rx;cases ry;obtain⟨its,r1,p1,_⟩:=I.tuple ha;obtain⟨its2,r2,p2,_⟩:=I.tuple hb;have i1:IntsAre its.toArray.toList ns:=intsAre_of r1;have i2:IntsAre its2.toArray.toList ms:=intsAre_of r2;exact HT.zlu p1 p2 i1 i2 hu ⟨.bl (HT.lexLt ns ms),H,I,rfl,q⟩
def zvn(K:qF):R2:=fun x y H Q=>∃a b xs ys,x=.ref a/\y=.ref b/\SqT K H a xs/\SqT K H b ys/\xs≠[]/\xs.length+ys.length<=sizeLine /\
 (ys=[]->Q (.ref a) H)/\(ys≠[]->∀p,H p=none->Q (.ref p) (upd H p (.tup (xs++ys))))
theorem Vals.nil_iff{xs:List V}{us:List Value}(r:Vals xs us):us=[]↔xs=[]:=by
 cases r with
 | nil=>simp
 | cons _ _=>simp
theorem zqs:OpR X (binaryOp .Add) (zvn X.K):=by
 intro pins s σ H x y v u Q I rx ry h;obtain⟨a,b,xs,ys,rfl,rfl,ha,hb,hx,hz,q1,q2⟩:=h;cases rx;cases ry;obtain⟨its,r1,p1,_⟩:=I.tuple ha;obtain⟨its2,r2,p2,_⟩:=I.tuple hb;refine HT.zre p1 p2 (fun z=>hx (r1.nil_iff.mp z)) (fun z=>⟨.ref a,H,I,rfl,q1 (r2.nil_iff.mp z)⟩) (fun z=>?_) (by rw[<- r1.length,<- r2.length];exact hz)
 refine⟨.ref s.heap.objs.size,_,I.laid (t':=s.toks) (o:=.tup (xs++ys)) (fun b ob q=>Heap.get?_push_of_some _ q) (Nat.le_refl _) ?_,rfl,q2 (fun w=>z (r2.nil_iff.mpr w)) _ (I.hok.fresh (Nat.le_refl _))⟩
 exact⟨by rw[List.length_append];exact hz,_,r1.append r2,IsTD.new _ _⟩
end
def ixN(n:Nat)(i:Int):Option Nat:=if 0<=i then(if i<n then some i.toNat else none) else if -(n:Int)<=i then some (i+n).toNat else none
def atI{α:Type}(xs:List α)(i:Int):Option α:=(ixN xs.length i).bind fun j=>xs[j]?
theorem zna{n:Nat}{i:Int}{j:Nat}(h:ixN n i=some j):seqIndex? i n=some j/\j<n/\-(n:Int)<=i/\i<n:=by
 unfold ixN at h
 by_cases h0:0<=i
 ·rw[if_pos h0]at h
  by_cases h1:i<n
  ·rw[if_pos h1]at h;have e:i.toNat=j:=Option.some.inj h;exact⟨by rw[seqIndex_of h0 h1,e],by lia,by lia,h1⟩
  ·rw[if_neg h1]at h;cases h
 ·rw[if_neg h0]at h
  by_cases h1:-(n:Int)<=i
  ·rw[if_pos h1]at h;have e:(i+n).toNat=j:=Option.some.inj h;exact⟨by rw[seqIndex_neg (by lia) h1,e],by lia,h1,by lia⟩
  ·rw[if_neg h1]at h;cases h
theorem zjZ{α:Type}{xs:List α}{i:Int}{v:α}(h:atI xs i=some v):∃j,seqIndex? i xs.length=some j/\xs[j]?=some v/\j<xs.length/\-(xs.length:Int)<=i/\i<xs.length:=by
 unfold atI at h;cases e:ixN xs.length i with
 | none=>rw[e]at h;cases h
 | some j =>
  rw[e]at h;obtain⟨h1,h2,h3,h4⟩:=zna e;exact⟨j,h1,h,h2,h3,h4⟩
theorem zrj{α:Type}{xs:List α}{j:Nat}{v:α}(h:xs[j]?=some v):atI xs (j:Int)=some v:=by
 have hj:j<xs.length:=(List.getElem?_eq_some_iff.mp h).1;have e:ixN xs.length (j:Int)=some j:=by
  unfold ixN;rw[if_pos (by lia),if_pos (by lia)];simp
 unfold atI;rw[e];exact h
def VI(b:Expr):Prop:=∀o i,subscripted b false o i=operate [o,i] (getItem o i)
def IxR(X:Cx)(r:R2):Prop :=
 ∀(value slice:Expr) (pins:qO) (s:Shared) (σ:St) (H:Hp) (x y:V) (v u:Value) (Q:VK),Inv X pins σ H s->RelV x v->RelV y u->r x y H Q ->
  subscripted slice false v u=operate [v,u] (getItem v u)->wpAny (model X.prog X.w) X.A (subscriptTail value slice v u) (EP X pins σ Q) X.xe s
def MtR(X:Cx)(id:String)(r:V->List V->Hp->VK->Prop):Prop :=
 ∀(pins:qO) (s:Shared) (σ:St) (H:Hp) (x:V) (xs:List V) (v:Value) (us:List Value) (Q:VK),Inv X pins σ H s->RelV x v->Vals xs us->r x xs H Q ->
  wpAny (model X.prog X.w) X.A (call (.builtin id) (v::us)) (EP X pins σ Q) X.xe s
section
variable{X:Cx}{a b:Expr}{ta tb:TE}{pos:Pos}
theorem IxR.or{r r':R2}(h:IxR X r)(h':IxR X r'):IxR X (fun x y H Q=>r x y H Q\/r' x y H Q):=by
 intro value slice pins s σ H x y v u Q I rx ry q hs;rcases q with q|q
 ·exact h value slice pins s σ H x y v u Q I rx ry q hs
 ·exact h' value slice pins s σ H x y v u Q I rx ry q hs
theorem Uy{r:R2}(hr:IxR X r)(ha:PE X a ta)(hb:PE X b tb)(hs:VI b):PE X (.Subscript a b pos) (tOp r ta tb):=by
 intro pins s σ H Q I h;exact Subscript_ (binT ha hb I h fun v u s2 x y H2 I2 rx ry q=>hr a b pins s2 σ H2 x y v u Q I2 rx ry q (hs _ _))
def rIxL(K:qF):R2:=fun x y H Q=>∃p xs i v,x=.ref p/\y=.int i/\SqL K H p xs/\atI xs i=some v/\Q v H
def rIxT(K:qF):R2:=fun x y H Q=>∃p xs i v,x=.ref p/\y=.int i/\SqT K H p xs/\atI xs i=some v/\Q v H
def rIxS:R2:=fun x y H Q=>∃z i c,x=.str z/\y=.int i/\z.length<=sizeLine/\atI z.cps.toList i=some c/\Q (.str ⟨#[c]⟩) H
theorem UI:IxR X (rIxL X.K):=by
 intro value slice pins s σ H x y v u Q I rx ry h hs;obtain⟨p,xs,i,z,rfl,rfl,hq,he,q⟩:=h;cases rx;obtain⟨t,rfl⟩:=ry;obtain⟨its,r,pl,hz⟩:=I.list hq;obtain⟨j,h1,h2,h3,h4,h5⟩:=zjZ he;obtain⟨w,ew,rw'⟩:=r.get h2;have hl:=r.length;have hn:=Yq;have fin:EP X pins σ Q w s:=⟨z,H,I,rw',q⟩
 by_cases h0:0<=i
 ·have hj:i.toNat=j:=by
   rw[seqIndex_of h0 h5]at h1;exact Option.some.inj h1
  exact item_listR pl.isList h0 (by lia) (by rw[hj];simpa using ew) fin hs
 ·have hj:(i+(its.toArray.size:Int)).toNat=j:=by
   rw[seqIndex_neg (by lia) h4]at h1
   rw[List.size_toArray,<- hl];exact Option.some.inj h1
  exact subscriptTail_builtinR (x:=w) pl.isList.typeIs slot_list_getitem.lookup
   (wpAny_getItem_list_neg (Q:=fun r s'=>r=w/\EP X pins σ Q r s') pl.isList (by lia) (by rw[List.size_toArray] <;> lia) (by lia) (by rw[hj];simpa using ew) ⟨rfl,fin⟩) hs
theorem zs6:IxR X (rIxT X.K):=by
 intro value slice pins s σ H x y v u Q I rx ry h hs;obtain⟨p,xs,i,z,rfl,rfl,hq,he,q⟩:=h;cases rx;obtain⟨t,rfl⟩:=ry;obtain⟨its,r,pl,hz⟩:=I.tuple hq;obtain⟨j,h1,h2,h3,h4,h5⟩:=zjZ he;obtain⟨w,ew,rw'⟩:=r.get h2;have hl:=r.length;have hn:=Yq;have fin:EP X pins σ Q w s:=⟨z,H,I,rw',q⟩;exact subscriptTail_builtinR (x:=w) pl.typeIs slot_tuple_getitem.lookup
  (getItem_tuple (j:=j) (Q:=fun r s'=>r=w/\EP X pins σ Q r s') pl (by lia) (by lia) (by rw[List.size_toArray,<- hl];exact h1) (by simpa using ew) ⟨rfl,fin⟩) hs
theorem zs7:IxR X rIxS:=by
 intro value slice pins s σ H x y v u Q I rx ry h hs;obtain⟨z,i,c,rfl,rfl,hz,he,q⟩:=h;obtain⟨t,rfl⟩:=rx;obtain⟨t',rfl⟩:=ry;obtain⟨j,h1,h2,h3,h4,h5⟩:=zjZ he;have hl:z.cps.toList.length=z.length:=by simp[Str.length]
 rw[hl]at h1 h4 h5;have hn:=Yq;exact tail_any (typeIs_str s z t) slot_str_getitem.lookup (getItem_str (c:=c) (by
  have e1:decide (i < -(2 ^ 63:Int))=false:=decide_eq_false (by lia)
  have e2:decide (i>=2 ^ 63)=false:=decide_eq_false (by lia)
  rw[e1,e2,Bool.or_false]) (by rw[h1];simpa using h2) ⟨.str ⟨#[c]⟩,H,I.tok _,⟨_,rfl⟩,q⟩) hs
def rIx(K:qF):R2:=fun x y H Q=>rIxL K x y H Q\/rIxT K x y H Q\/rIxS x y H Q
theorem zs8:IxR X (rIx X.K):=UI.or (zs6.or zs7)
theorem zls(its:List Value)(n j:Nat)(u:Value):Obj.mapSeq (·.setIfInBounds j u) { cls:=.type "list",data:=.seq its.toArray n }={ cls:=.type "list",data:=.seq (its.set j u).toArray n }:=by
 simp[Obj.mapSeq]
theorem Inv.lst{pins:qO}{σ:St}{H:Hp}{s:Shared}{p:Addr}{xs:List V}(I:Inv X pins σ H s)(h:H p=some (.lst xs)) :
  ∃(its:List Value) (n:Nat),Vals xs its/\s.heap.get? p=some { cls:=.type "list",data:=.seq its.toArray n }/\xs.length<=sizeLine:=by
 obtain⟨z,its,n,r,e⟩:=I.hok p _ h;exact⟨its,n,r,e,z⟩
theorem Inv.lstUpd{pins:qO}{σ:St}{H:Hp}{s:Shared}{p:Addr}{xs ys:List V}{its its':List Value}{n n':Nat}{f:Obj->Obj}(I:Inv X pins σ H s)(h:H p=some (.lst xs))
  (ho:s.heap.get? p=some { cls:=.type "list",data:=.seq its.toArray n }) (hf:f { cls:=.type "list",data:=.seq its.toArray n }={ cls:=.type "list",data:=.seq its'.toArray n' }) (r:Vals ys its') (hz:ys.length<=sizeLine) (t:Nat) :
  Inv X pins σ (upd H p (.lst ys)) { s with heap:=s.heap.update p f,toks:=t }:=by
 have e:(s.heap.update p f).get? p=some { cls:=.type "list",data:=.seq its'.toArray n' }:=by
  rw[Heap.get?_update_self f ho (by rw[hf] <;> rfl),hf]
 refine I.write (x:=p) (e:=p) (by rw[h];trivial) (.inl rfl) (fun b u hb q=>(Heap.get?_update_other _ _ (Ne.symm hb)).trans q) ⟨_,e⟩ ?_
 exact⟨hz,its',n',r,e⟩
def zvm:V->V->V->Hp->(Hp->Prop)->Prop:=fun o i v H Q=>∃p xs k j,o=.ref p/\i=.int k/\H p=some (.lst xs)/\ixN xs.length k=some j/\Q (upd H p (.lst (xs.set j v)))
theorem set_list:PSet X zvm:=by
 intro pins s σ H o i v ov iv u Q I ro ri rv h;obtain⟨p,xs,k,j,rfl,rfl,hp,hj,q⟩:=h;cases ro;obtain⟨t,rfl⟩:=ri;obtain⟨its,n,r,ho,hz⟩:=I.lst hp;obtain⟨h1,h2,h3,h4⟩:=zna hj;have hl:=r.length;have hn:=Yq;have I':Inv X pins σ (upd H p (.lst (xs.set j v))) { s with heap:=s.heap.update p (Obj.mapSeq (·.setIfInBounds j u)) } :=
  I.lstUpd hp ho (zls its n j u) (r.set rv j) (by rw[List.length_set];exact hz) s.toks
 by_cases h0:0<=k
 ·have hk:k.toNat=j:=by
   rw[seqIndex_of h0 h4]at h1;exact Option.some.inj h1
  exact PySem.W.ki_setAt ho h0 (by lia) (by rw[List.size_toArray,<- hl];exact h4) (by rw[hk];exact⟨_,I',q⟩)
 ·have hk:(k+(its.toArray.size:Int)).toNat=j:=by
   rw[seqIndex_neg (by lia) h3]at h1
   rw[List.size_toArray,<- hl];exact Option.some.inj h1
  exact PySem.W.ki_setBack ho (by lia) (by rw[List.size_toArray,<- hl];exact h3) (by lia) (by rw[hk];exact⟨_,I',q⟩)
theorem zhs(lo hi:Option Int)(n:Nat):(sliceBounds lo hi none n).1=((HT.sIx n 0 lo:Nat):Int)/\(sliceBounds lo hi none n).2.1=((HT.sIx n n hi:Nat):Int)/\(sliceBounds lo hi none n).2.2=1:=by
 refine⟨?_,?_,rfl⟩
 ·cases lo with
  | none=>simp[sliceBounds,HT.sIx]
  | some i =>
   simp only[sliceBounds,HT.sIx,Option.getD_none,show(1:Int) > 0 by decide,if_true]
   by_cases h:i<0
   ·simp only[h,if_true] <;> lia
   ·simp only[h,if_false] <;> lia
 ·cases hi with
  | none=>simp[sliceBounds,HT.sIx]
  | some i =>
   simp only[sliceBounds,HT.sIx,Option.getD_none,show(1:Int) > 0 by decide,if_true]
   by_cases h:i<0
   ·simp only[h,if_true] <;> lia
   ·simp only[h,if_false] <;> lia
theorem zgu(its:List Value)(lo hi:Option Int):slicePick its.toArray lo hi none=((its.drop (HT.sIx its.length 0 lo)).take (HT.sIx its.length its.length hi - HT.sIx its.length 0 lo)).toArray:=by
 obtain⟨h1,h2,h3⟩:=zhs lo hi its.toArray.size;unfold slicePick;rw[h1,h2,h3];simp only[sliceRange_one,pick_run,List.size_toArray] <;> rfl
def rSlL(K:qF):V->Option Int->Option Int->Hp->VK->Prop:=fun x lo hi H Q=>∃a xs,x=.ref a/\SqL K H a xs/\∀p,H p=none->Q (.ref p) (upd H p (.lst (cutV xs lo hi)))
theorem zpZ:SlR X (rSlL X.K):=by
 intro pins s σ H x v vl vu lo hi sl Q I rx hs pl pu h;obtain⟨a,xs,rfl,hx,q⟩:=h;cases rx;obtain⟨its,r,ht,hz⟩:=I.list hx;have hlen:=r.length;refine⟨"list",_,slot_list_getitem.lookup,ht.isList.typeIs,?_⟩;refine wpAny_getItem_list_slice ht.isList hs pl pu .none (by simp) ?_ (by rw[List.size_toArray] <;> lia)
 rw[zgu,<- hlen];refine⟨.ref s.heap.objs.size,_,I.laid (t':=s.toks) (o:=.lst (cutV xs lo hi)) (fun b ob q=>Heap.get?_push_of_some _ q) (Nat.le_refl _) ?_,rfl,q _ (I.hok.fresh (Nat.le_refl _))⟩
 exact⟨Nat.le_trans (zfH xs lo hi) hz,_,0,(r.drop (HT.sIx xs.length 0 lo)).take (HT.sIx xs.length xs.length hi - HT.sIx xs.length 0 lo),Heap.get?_push_size _ rfl⟩
theorem ziB:Qb X (.builtin "len") (fun xs H Q=>∃p ys,xs=[.ref p]/\(SqL X.K H p ys\/SqT X.K H p ys)/\Q (.int ys.length) H):=by
 intro pins s σ H xs us Q I r h;obtain⟨p,ys,rfl,hq,q⟩:=h;obtain⟨u,rfl,rx⟩:=vals1 r;cases rx;have hn:=Yq;rcases hq with hq|hq
 ·obtain⟨its,r',pl,hz⟩:=I.list hq;have hlen:=r'.length;exact Calls.call_len_list pl.isList (by simp only[List.size_toArray] <;> lia) ⟨.int ys.length,H,I.tok _,⟨s.toks+1,by rw[List.size_toArray,hlen]⟩,q⟩
 ·obtain⟨its,r',pl,hz⟩:=I.tuple hq;have hlen:=r'.length;exact len_tuple pl (by simp only[List.size_toArray] <;> lia) ⟨.int ys.length,H,I.tok _,⟨s.toks+1,by rw[List.size_toArray,hlen]⟩,q⟩
theorem Ue:Qb X (.type "tuple") (fun xs H Q=>∃p ys,xs=[.ref p]/\((SqL X.K H p ys/\∀l,H l=none->Q (.ref l) (upd H l (.tup ys)))\/(SqT X.K H p ys/\Q (.ref p) H))):=by
 intro pins s σ H xs us Q I r h;obtain⟨p,ys,rfl,h⟩:=h;obtain⟨u,rfl,rx⟩:=vals1 r;cases rx;rcases h with⟨hq,q⟩|⟨hq,q⟩
 ·obtain⟨its,r',pl,hz⟩:=I.list hq;have hlen:=r'.length;refine call_tuple_list pl.isList (fun h' kp=>?_) (by simp only[List.size_toArray] <;> lia)
  have I1:Inv X pins σ H { s with heap:=h' }:=I.kept (t':=s.toks) kp
  have I2:Inv X pins σ (upd H h'.objs.size (.tup ys)) { s with heap:=h'.push { cls:=.type "tuple",data:=.seq its.toArray } } :=
   I1.laid (t':=s.toks) (fun b o e=>Heap.get?_push_of_some _ e) (Nat.le_refl _) (show JQ X.prog X.w _ _ _ (.tup ys) from⟨hz,its,r',IsTD.new _ _⟩)
  exact⟨.ref h'.objs.size,_,I2,rfl,q _ (I1.hok.fresh (Nat.le_refl _))⟩
 ·obtain⟨its,r',pl,hz⟩:=I.tuple hq;exact call_tuple_same pl ⟨.ref p,H,I,rfl,q⟩
def tyV(K:qF)(T:String)(x:V)(H:Hp):Prop:=match x with
 | .str _=>T = "str"
 | .int _=>T = "int"
 | .ref p=>(T = "list" /\ ∃xs,SqL K H p xs)\/(T = "tuple" /\ ∃o,K.lookup p=some o/\o.cls=.type "tuple" /\ o.dict=none) \/
   (T = "dict" /\ ((∃kvs,H p=some (.dK kvs))\/∃kvs,H p=some (.dT kvs)))\/(T = "set" /\ ∃S n,H p=some (.set S n))
 | _=>False
theorem zps{pins:qO}{σ:St}{H:Hp}{s:Shared}{T:String}{x:V}{v:Value}(I:Inv X pins σ H s)(r:RelV x v)(ty:tyV X.K T x H) :
  s.TypeIs v T/\∀a,v=.ref a->∃ob,s.heap.get? a=some ob/\ob.dict=none:=by
 cases x with
 | str z =>
  obtain⟨t,rfl⟩:=r;cases(show T = "str" from ty)
  exact⟨typeIs_str s z t,fun _ e=>nomatch e⟩
 | int i =>
  obtain⟨t,rfl⟩:=r;cases(show T = "int" from ty)
  exact⟨typeIs_int s i t,fun _ e=>nomatch e⟩
 | ref p =>
  cases r;rcases ty with⟨rfl,xs,hq⟩|⟨rfl,o,hk,hc,hd⟩|⟨rfl,hk⟩|⟨rfl,S,n,hk⟩
  ·obtain⟨its,_,pl,_⟩:=I.list hq;refine⟨pl.isList.typeIs,fun a e=>?_⟩
   cases e;obtain⟨o,n,e,c,hd,_⟩:=pl;exact⟨o,e,hd⟩
  ·refine⟨⟨o,I.kIn p o hk,hc⟩,fun a e=>?_⟩
   cases e;exact⟨o,I.kIn _ o hk,hd⟩
  ·have z:∃o,s.heap.get? p=some o/\o.ExactDict:=by
    rcases hk with⟨kvs,hk⟩|⟨kvs,hk⟩
    ·obtain⟨_,_,_,_,o,_,_,e,ex,_⟩:=I.hok p _ hk;exact⟨o,e,ex⟩
    ·obtain⟨_,_,_,_,o,_,_,e,ex,_⟩:=I.hok p _ hk;exact⟨o,e,ex⟩
   obtain⟨o,e,ex⟩:=z;refine⟨⟨o,e,ex.1⟩,fun a e2=>?_⟩
   cases e2;exact⟨o,e,ex.2.1⟩
  ·obtain⟨o,_,_,_,e,ex,_⟩:=I.hok p _ hk;refine⟨⟨o,e,ex.1⟩,fun a e2=>?_⟩
   cases e2;exact⟨o,e,ex.2.1⟩
 | _=>exact False.elim ty
def tBM0(K:qF)(T:String)(r:V->List V->Hp->VK->Prop)(to:TE):TE:=fun σ H Q=>to σ H fun x H1=>tyV K T x H1/\r x [] H1 Q
def tBM(K:qF)(T:String)(r:V->List V->Hp->VK->Prop)(to:TE)(t:TA):TE:=fun σ H Q=>to σ H fun x H1=>tyV K T x H1/\t σ H1 fun xs H2=>r x xs H2 Q
variable{o e:Expr}{es:List Expr}{to:TE}{t:TA}{name:Str}{apos cpos:Pos}{T id:String}{r:V->List V->Hp->VK->Prop}
theorem zsm(pa:PlainAttrs T)(slot:Slot T name id)(hty:typeOf (.builtin id)=pure (.type "method_descriptor")) (hm:MtR X id r) (ho:PE X o to)
  (hbase:attributeBase o name X.env (eval o X.env)=eval o X.env:=by rfl) (hline:(apos.endLine == cpos.line)=true:=by rfl):PE X (.Call (.Attribute o name apos) [] [] cpos) (tBM0 X.K T r to):=by
 intro pins s σ H Q I h;refine wpAny_Call_method0_late hbase hline (thn (ho pins s σ H _ I h) fun v s1 ⟨x,H1,I1,r1,ty,q1⟩=>?_)
 obtain⟨h1,h2⟩:=zps I1 r1 ty;exact⟨T,id,pa,slot,hty,h1,h2,Calls.callWith_builtin rfl (PySem.evalArgs_none (hm pins s1 σ H1 x [] v [] Q I1 r1 .nil q1))⟩
theorem zql(pa:PlainAttrs T)(slot:Slot T name id)(hty:typeOf (.builtin id)=pure (.type "method_descriptor")) (hm:MtR X id r) (ho:PE X o to) (ha:PA X (e::es) t)
  (hbase:attributeBase o name X.env (eval o X.env)=eval o X.env:=by rfl)
  (hfew:((backTo cpos (starEach (e::es) X.env)).all (fun x=>!x.1)&&(backToKw cpos (keywordEach [] X.env)).all (fun x=>x.1.isSome)
   && decide ((e::es).length+([]:List Keyword).length+(if ([]:List Keyword).isEmpty then 0 else 1)<30))=true:=by rfl)
  (hline:(apos.endLine == cpos.line)=true:=by rfl) (hs:starEach (e::es) X.env=(false,eval e X.env)::starEach es X.env:=by rfl) (hplain:(backTo cpos (starEach es X.env)).any (·.1)=false:=by rfl) :
  PE X (.Call (.Attribute o name apos) (e::es) [] cpos) (tBM X.K T r to t):=by
 intro pins s σ H Q I h;refine wpAny_Call_method_late hbase hfew hline rfl (thn (ho pins s σ H _ I h) fun v s1 ⟨x,H1,I1,r1,ty,q1⟩=>?_)
 obtain⟨h1,h2⟩:=zps I1 r1 ty;refine⟨T,id,pa,slot,hty,h1,h2,?_⟩;have hA:=ha cpos pins s1 σ H1 _ I1 q1;rw[hs]at hA ⊢;refine Calls.callWith_builtin (by show(false||(backTo cpos (starEach es X.env)).any (·.1))=false;rw[hplain] <;> rfl) (Calls.evalArgs_plain ?_)
 exact thn hA fun us s2 ⟨vs,H2,I2,r2,q2⟩=>hm pins s2 σ H2 x vs v us Q I2 r1 r2 q2
end
def MtM(X:Cx)(id:String)(r:V->List V->Hp->VK->Prop):Prop :=
 ∀(pins:qO) (s:Shared) (σ:St) (H:Hp) (x:V) (xs:List V) (v:Value) (us:List Value) (Q:VK),Inv X pins σ H s->RelV x v->Vals xs us->r x xs H Q ->
  wpAny (model X.prog X.w) X.A (call (.builtin id) (v::us)) (EP X pins σ Q) X.xe s
theorem Vals.one:∀{x:V}{us:List Value},Vals [x] us->∃u,us=[u]/\RelV x u
 | _,_,.cons r .nil=>⟨_,rfl,r⟩
section
variable{X:Cx}{pins:qO}{σ:St}{H:Hp}{s:Shared}{l b:Addr}{xs ys zs:List V}
theorem Inv.lset{its its':List Value}{n:Nat}{f:Array Value->Array Value}{t':Nat}(I:Inv X pins σ H s)(hH:H l=some (.lst xs))
  (e:s.heap.get? l=some { cls:=.type "list",data:=.seq its.toArray n }) (hf:f its.toArray=its'.toArray) (hv:Vals ys its') (hz:ys.length<=sizeLine) :
  Inv X pins σ (upd H l (.lst ys)) { s with heap:=s.heap.update l (Obj.mapSeq f),toks:=t' }:=by
 have q:=PySem.IsL.update e f;rw[hf]at q;refine I.write (x:=l) (e:=l) (by rw[hH];exact trivial) (.inl rfl) (fun b' u hb hu=>(Heap.get?_update_other s.heap (Obj.mapSeq f) (Ne.symm hb)).trans hu) ⟨_,q⟩ ?_
 exact⟨hz,its',_,hv,q⟩
theorem Inv.lnew{its:List Value}{t':Nat}(I:Inv X pins σ H s)(hv:Vals ys its)(hz:ys.length<=sizeLine) :
  Inv X pins σ (upd H s.heap.objs.size (.lst ys)) { s with heap:=s.heap.push { cls:=.type "list",data:=.seq its.toArray },toks:=t' } :=
 I.laid (fun _ _ q=>Heap.get?_push_of_some _ q) (Nat.le_refl _) ⟨hz,its,0,hv,Heap.get?_push_size _ rfl⟩
theorem Inv.fresh(I:Inv X pins σ H s):H s.heap.objs.size=none:=I.hok.fresh (Nat.le_refl _)
theorem Inv.lstM(I:Inv X pins σ H s)(hH:H l=some (.lst xs)):xs.length<=sizeLine/\∃(its:List Value) (n:Nat),Vals xs its/\xs.length=its.length/\s.heap.get? l=some { cls:=.type "list",data:=.seq its.toArray n }:=by
 obtain⟨z,its,n,r,e⟩:=I.hok l _ hH;exact⟨z,its,n,r,r.length,e⟩
theorem zkg{n:Nat}(h:n<=sizeLine):Builtin.List.listTooLong n=false:=by
 unfold Builtin.List.listTooLong;exact decide_eq_false (by lia)
end
section
variable{X:Cx}
def zp6:V->List V->Hp->VK->Prop:=fun x vs H Q=>∃l xs y,x=.ref l/\vs=[y]/\H l=some (.lst xs)/\xs.length<sizeLine/\Q .non (upd H l (.lst (xs++[y])))
theorem zfc:MtM X "list.append" zp6:=by
 intro pins s σ H x vs v us Q I rx rv h;obtain⟨l,xs,y,rfl,rfl,hH,hz,q⟩:=h;cases rx;obtain⟨u,rfl,ru⟩:=rv.one;obtain⟨z,its,n,r,hl,e⟩:=I.lstM hH;refine call_meets F.slot_list_append ⟨_,e,rfl⟩ F.entry_list_append (F.args_list_append_2 _ _) (PySem.list_append l its.toArray n u (by rw[List.size_toArray];lia)) ⟨e,?_⟩
 refine⟨.non,_,I.lset (its':=its++[u]) hH e (by simp) (r.append (.cons ru .nil)) ?_,rfl,q⟩
 rw[List.length_append,List.length_singleton];lia
def zp5:V->List V->Hp->VK->Prop:=fun x vs H Q=>∃l b xs zs,x=.ref l/\vs=[.ref b]/\H l=some (.lst xs)/\H b=some (.lst zs)/\xs.length+zs.length<=sizeLine/\Q .non (upd H l (.lst (xs++zs)))
theorem zmR:MtM X "list.extend" zp5:=by
 intro pins s σ H x vs v us Q I rx rv h;obtain⟨l,b,xs,zs,rfl,rfl,hH,hB,hz,q⟩:=h;cases rx;obtain⟨u,rfl,ru⟩:=rv.one;cases ru;obtain⟨z,its,n,r,hl,e⟩:=I.lstM hH;obtain⟨z2,its2,n2,r2,hl2,e2⟩:=I.lstM hB;have hsz:its.toArray.size+its2.toArray.size<=sizeLine:=by rw[List.size_toArray,List.size_toArray];lia
 have hlong:¬(!its.toArray.isEmpty&&Builtin.List.listTooLong (its.toArray.size+its2.toArray.size))=true:=by
  rw[zkg hsz,Bool.and_false];exact Bool.false_ne_true
 refine call_meets F.slot_list_extend ⟨_,e,rfl⟩ F.entry_list_extend (F.args_list_extend_2 _ _)
  (AutoSeq1.list_extend_list_list_0 l its.toArray n b its2.toArray n2 hlong (by rw[List.size_toArray];lia) (by lia)) ⟨e,e2,?_⟩
 refine⟨.non,_,I.lset (its':=its++its2) hH e (by simp) (r.append r2) ?_,rfl,q⟩
 rw[List.length_append];lia
def rCat:R2:=fun x y H Q=>∃l b xs zs,x=.ref l/\y=.ref b/\H l=some (.lst xs)/\H b=some (.lst zs)/\xs.length+zs.length<=sizeLine/\∀p,H p=none->Q (.ref p) (upd H p (.lst (xs++zs)))
theorem zsB:OpR X (binaryOp .Add) rCat:=by
 intro pins s σ H x y v u Q I rx ry h;obtain⟨l,b,xs,zs,rfl,rfl,hH,hB,hz,q⟩:=h;cases rx;cases ry;obtain⟨z,its,n,r,hl,e⟩:=I.lstM hH;obtain⟨z2,its2,n2,r2,hl2,e2⟩:=I.lstM hB;refine PySem.P.add_list e e2 ?_ (by rw[List.size_toArray,List.size_toArray];lia)
 have ea:its.toArray++its2.toArray=(its++its2).toArray:=by simp
 rw[ea];exact⟨.ref _,_,I.lnew (t':=s.toks) (r.append r2) (by rw[List.length_append];lia),rfl,q _ I.fresh⟩
end
end L2
namespace Att
open PySem PySem.W PySem.Calls PyProof.Rows
theorem zfv{P:Params}{h:Heap}:∀(ns:List Int) (vs:List Value),WellAll P h vs (ns.map WData.int)->IntsAre vs ns:=by
 intro ns;induction ns with
 | nil =>
  intro vs w;rw[List.map_nil]at w;cases w;exact .nil
 | cons n ns ih =>
  intro vs w;rw[List.map_cons]at w;cases w with
  | cons a b =>
   cases a;exact .cons _ _ (ih _ b)
theorem zl3{l:OpenLaw}{n:Nat}(hn:l.most=some n){P:Params}{h:Heap}{args:List WData}{vals:List Value}
  (hpre:l.row.toRowW.claim.pre args=true) (hwl:WellAll P h vals args) :
  ∃a vs ns,vals=[Value.ref a]/\args=[WData.list (ns.map WData.int)]/\h.get? a=some { cls:=.type "list",data:=.seq vs.toArray }/\IntsAre vs ns/\ns.length<=n:=by
 have hsh:WShape.hasAll [] args [.list .int]=true:=(pre_splitW hpre).1;have hc:l.pre.holds [] { args:=args }=true:=(pre_splitW hpre).2;obtain⟨d,r,rfl,h1,h2⟩:=hasAllW_cons hsh;obtain rfl:=hasAllW_nil h2;obtain⟨xs,rfl,h3⟩:=hasW_list h1;obtain⟨ns,rfl⟩:=items_int h3;have hlen:ns.length<=n:=by
  unfold OpenLaw.pre at hc;have h4:(WTm.not (.lt (.lit (.int (n:Int))) (.len (.arg 0)))).holds [] { args:=[.list (ns.map .int)] }=true:=by
   have h4:=(holds_andW hc).1;rw[hn]at h4;exact h4
  have h5:=condW_of h4 (w_not (w_lt w_lit (w_len_list (w_arg rfl))));rw[List.length_map]at h5;refine Nat.le_of_not_lt fun q=>?_
  have q':(n:Int)<((ns.length:Nat):Int):=by lia
  first
   | (rw[decide_eq_true q']at h5;exact absurd h5 (by decide))
   | (simp at h5;lia)
 cases hwl with
 | cons w1 w2 =>
  cases w2;cases w1 with
  | list ho hall=>exact⟨_,_,ns,rfl,rfl,ho,zfv ns _ hall,hlen⟩
theorem zmn(l:OpenLaw)(args:List WData):l.row.toRowW.claim.post args (.bool true) args=true :=
 postW_of (r:=l.row.toRowW) (X:=(true == true))
  (show WShape.has [] (.bool true) .bool=true by first|rfl|decide|simp[WShape.has,WShape.arms,WShape.armsAll])
  (show(WTm.eq .res (.lit (.bool true))).value [] { args:=args,res:=some (.bool true),after:=args }=some (.bool (true == true)) from w_eq_bool (w_res rfl) w_lit) rfl
theorem attach_call{l:OpenLaw}{n:Nat}{q:Program}{loose:List Str}{XP:(Str->Option Value)->Heap->Prop}{YP:World->Heap->Prop}{d:DefRec}
  (hn:l.most=some n) (hdf:d.params.defaults=[])
  (call:∀(w:World) (s₀ s₁:Shared) (mg mb:qM) (fa:Addr) (o:Obj) (pm cd doc:Value) (a:Addr) (vs:List Value) (ns:List Int),
   Ground q loose [] XP w s₀ mg mb s₁.heap->YP w s₁.heap ->
   s₁.heap.get? fa=some o->o.data=.func (docDef d.name d.params d.body d.scope pm cd doc)->s₁.heap.CodeRec cd d.name->mg d.name=some (.ref fa) ->
   s₁.heap.get? a=some { cls:=.type "list",data:=.seq vs.toArray }->IntsAre vs ns->ns.length<=n->s₁.gens=#[] ->
   codeAny (model l.prog w) callerA (.call (.ref fa) ⟨[.ref a],[]⟩) (fun r s'=>r=.ok (.ret (.bool true))/\OldK s₁.heap s'.heap/\s'.os=s₁.os/\AllBare s'.gens) s₁) :
  WalkO q loose XP YP l.row.toRowW d [] (fun f vs=>PySem.call f vs):=by
 intro w s₀ s₁ mg mb G Y fa o pm cd doc dV kV ho hd hcd hD hmg hg args vals as hpre hlay hrd hwl hlo;obtain rfl:dV=.none:=Dflts.none hD hdf;obtain rfl:kV=.none:=Dflts.noKw hD;obtain⟨a,vs,ns,rfl,rfl,hobj,hints,hlen⟩:=zl3 hn hpre hwl;refine enter_call (codeAny_mono (call w s₀ s₁ mg mb fa o pm cd doc a vs ns G Y ho (fd_plain hd) hcd hmg hobj hints hlen hg) fun r s' hq=>?_)
 obtain⟨rfl,h2,h3,h4⟩:=hq;exact⟨.inl ⟨.bool true,.bool true,[],rfl,fun _=>rfl,.bool true,zmn l _,fun _=>⟨List.Pairwise.nil,fun _ hm=>(nomatch hm)⟩⟩,h2,h3,h4⟩
end Att
namespace L2
open PySem PySem.Spec PyProof.Rows
theorem zhj:∀{vs:List Value}{ns:List Int},IntsAre vs ns->Vals (ns.map V.int) vs
 | _,_,.nil=>.nil
 | _,_,.cons n t h=>.cons ⟨t,rfl⟩ (zhj h)
def Only(H:Hp):Prop:=∀b,H b=none\/∃o xs,H b=some (.frz o (.lst xs))
theorem zo0{P:Program}{w:World}{K:qF}{mg mb:qM}{CX:CXT}{k:Nat}{fa a:Addr}{fd:FuncData}{x:Str}{sp:Sp}{s₁:Shared}{vs:List Value}{ns:List Int}
  (KX:K.In s₁.heap) (hns:s₁.heap.Ns mainGlobals mg) (hb:s₁.heap.Ns builtinsNs mb) (hbb:∀x:Str,x ≠ "__name__" -> mb x=bootBuiltins x) (hlim:s₁.heap.NoLimit) (hg:s₁.gens=#[])
  (ha:s₁.heap.get? a=some { cls:=.type "list",data:=.seq vs.toArray }) (hi:IntsAre vs ns) (hl:ns.length<=sizeLine) (hr:Room k callerA)
  (F:∀base:Heap,K.In base->base.Ns mainGlobals mg->FnOk P w K mg base CX k fa fd [x] sp) (hbind:∀(s:Shared) (u:Value),BindsTo s fd ⟨[u],[]⟩ [(x,u)])
  (hsp:∀H:Hp,Only H->SqL K H a (ns.map V.int)->sp [.ref a] H (fun v _=>v=.bl true) fun _ _ _=>False)
  (hCX:∀H e s',CX [] H s₁ (fun _ _ _=>False) e s'->False) :
  codeAny (model P w) callerA (.call (.ref fa) ⟨[.ref a],[]⟩) (fun r s'=>r=.ok (.ret (.bool true))/\OldK s₁.heap s'.heap/\s'.os=s₁.os/\AllBare s'.gens) s₁:=by
 have rv:=zhj hi;have lenV:=hi.length;have core:∀H:Hp,Only H->SqL K H a (ns.map V.int)->HOk P w H s₁.heap->(∀b,H b≠none->b=a)->(H a≠none->K.lookup a=none) ->
   codeAny (model P w) callerA (.call (.ref fa) ⟨[.ref a],[]⟩) (fun r s'=>r=.ok (.ret (.bool true))/\OldK s₁.heap s'.heap/\s'.os=s₁.os/\AllBare s'.gens) s₁:=by
  intro H hO hS hok hA hK;have base_of:∀{b:Addr} {o:Obj},s₁.heap.get? b=some o->H b=none->(hidT s₁.heap H).get? b=some o:=fun e n=>zpa e n
  have noA:∀{b:Addr} {o:Obj} {es:Array DictEntry} {ep:Nat},s₁.heap.get? b=some o->o.data=.dict es ep->H b=none:=fun {b o es ep} e d=>by
   cases q:H b with
   | none=>rfl
   | some u =>
    have e':b=a:=hA b (by rw[q];simp)
    subst e';rw[ha]at e;cases e;have d':Data.seq vs.toArray _=Data.dict es ep:=d;cases d'
  have nsK:∀{b:Addr} {m:qM},s₁.heap.Ns b m->(hidT s₁.heap H).Ns b m:=fun {b m} ⟨o,es,ep,e,d,r⟩=>⟨o,es,ep,base_of e (noA e d),d,r⟩
  have hKb:K.In (hidT s₁.heap H):=fun b o e=>base_of (KX b o e) (by
   cases q:H b with
   | none=>rfl
   | some u =>
    have e':b=a:=hA b (by rw[q];simp)
    subst e';rw[hK (by rw[q];simp)]at e;cases e)
  have hM:Mod K mg (hidT s₁.heap H):=⟨hKb,nsK hns,⟨mb,nsK hb,hbb⟩,let ⟨mc,h1,h2⟩:=hlim;⟨mc,nsK h1,h2⟩⟩
  have e0:Env0 P w K mg (hidT s₁.heap H) callerA [] s₁ H:=⟨rfl,hM,fun b o e=>zqz e,Nat.le_of_eq (zng _ _),trivial,fun b hb=>absurd (show b∈([]:List Addr) from hb) (by simp),hok,.of_eq hg⟩
  refine codeAny_mono ((F _ hKb (nsK hns)).run callerA [] s₁ H ⟨[.ref a],[]⟩ [.ref a] [.ref a] _ _ hr e0 (hbind s₁ (.ref a)) (.cons rfl .nil) (hsp H hO hS)) fun r s' h=>?_
  cases r with
  | error e=>exact(hCX H e s' h).elim
  | ok fl =>
   cases fl with
   | next=>exact False.elim h
   | brk=>exact False.elim h
   | cont=>exact False.elim h
   | ret u =>
    obtain⟨v,H',os,bare,un,hok',r',q⟩:=h;have q':v=.bl true:=q;subst q';obtain rfl:u=Value.bool true:=r';refine⟨rfl,OldK.of_keep fun b o e=>?_,os,bare⟩
    cases q:H b with
    | none=>exact un.keep b o e q (by intro z;exact absurd (show b∈([]:List Addr) from z) (by simp)) (by simp)
    | some u =>
     rcases hO b with z|⟨ob,xs,z⟩
     ·rw[q]at z;cases z
     ·have z2:=un.frzs b ob _ z;obtain⟨e1,_⟩:=hok b _ z;obtain⟨e2,_⟩:=hok' b _ z2;rw[e]at e1;cases e1;exact e2
 cases hk:K.lookup a with
 | some o =>
  have e:=KX a o hk;rw[ha]at e;cases e;refine core (fun _=>none) (fun _=>.inl rfl) (.inr ⟨_,vs.toArray,_,hk,rfl,rfl,rfl,by rw[List.size_toArray,lenV];exact hl,by simpa using rv⟩) (fun b u z=>by have z':(none:Option HO)=some u:=z;cases z') (fun b z=>absurd rfl z) fun z=>absurd rfl z
 | none =>
  refine core (fun b=>if b=a then some (.frz { cls:=.type "list",data:=.seq vs.toArray } (.lst (ns.map V.int))) else none) (fun b=>?_) (.inl (.inr ⟨{ cls:=.type "list",data:=.seq vs.toArray },if_pos rfl⟩)) (fun b u z=>?_) (fun b z=>?_) fun _=>hk
  ·by_cases hb:b=a
   ·exact .inr ⟨_,_,if_pos hb⟩
   ·exact .inl (if_neg hb)
  ·by_cases hb:b=a
   ·have z':=(if_pos hb).symm.trans z;cases z';subst hb;exact⟨ha,by rw[List.length_map];exact hl,vs,_,rv,ha⟩
   ·have z':=(if_neg hb).symm.trans z;cases z'
  ·by_cases hb:b=a
   ·exact hb
   ·exact absurd (if_neg hb) z
def QI(s:Stmt):Arguments:=match s with
 | .FunctionDef _ a _ _ _ _ _ _ _ _=>a
 | _=>{ posonlyargs:=[],args:=[],vararg:=none,kwonlyargs:=[],kw_defaults:=[],kwarg:=none,defaults:=[] }
def Qn(s:Stmt):List Stmt:=match s with
 | .FunctionDef _ _ b _ _ _ _ _ _ _=>b
 | _=>[]
def Jj(s:Stmt):Scope:=match s with
 | .FunctionDef _ _ _ _ _ _ sc _ _ _=>sc
 | _=>{ kind:=.function,names:=[],isGenerator:=false,isCoroutine:=false }
abbrev CX0:CXT:=fun _ _ _ _ _ _=>False
abbrev E0:XK:=fun _ _ _=>False
theorem zvu{X:Cx}:znY CX0 X E0:=fun _ _ _ _ _ _ _ h=>h.elim
structure Fun(K:qF)(x qual:Str)(st:Stmt)(f:Addr)(fd:FuncData):Prop where
 ex:∃(oc:Value) (od:Option Addr) (kV doc pm:Value) (an:Option Addr) (cdv ct:Value) (osl:Array (Option Value)),
  fd=PySem.W.fnOf x qual (QI st) (Qn st) (Jj st) .none kV doc pm an cdv ct/\K.lookup f=some ⟨oc,od,.func fd,osl⟩/\PySem.W.codeIn K cdv qual=true
 kp:PySem.W.keepIn K (.ref f)=true
section
variable{P:Program}{w:World}{K:qF}{mg:qM}{base:Heap}
theorem Fun.ok{x qual:Str}{st:Stmt}{f:Addr}{fd:FuncData}{N ps:List Str}{k:Nat}{sp:Sp}(F:Fun K x qual st f fd)(S:FnScope N ps (Jj st))(len:∀vs H Q E,sp vs H Q E->vs.length=ps.length)
  (hbody:∀(cdv:Value) (A:Around) (outer:List Env) (s:Shared) (H:Hp) (vs:List V) (Q:VK) (E:XK),Room k (A.deeper (envOfC qual (Jj st) s.heap.objs.size f cdv))->sp vs H Q E ->
   ∃t,PSs (cxOf CX0 P w K mg base N qual (Jj st) f cdv A outer s H E).nox (Qn st) t/\t { nx:=fun _ H'=>Q .non H',rt:=Q } (start N vs) H):FnOk P w K mg base CX0 (k+1) f fd ps sp:=by
 obtain⟨oc,od,kV,doc,pm,an,cdv,ct,osl,rfl,lk,hcd⟩:=F.ex;refine zwh lk hcd S len fun A outer s H vs Q E hr hsp=>?_
 obtain⟨t,h,q⟩:=hbody cdv A outer s H vs Q E hr hsp;exact⟨t,h.nox,q⟩
theorem Fun.binds{x qual:Str}{st:Stmt}{f:Addr}{fd:FuncData}{ps:List Str}(F:Fun K x qual st f fd)
  (h:∀(kV doc pm:Value) (an:Option Addr) (cdv ct:Value) (us:List Value),us.length=ps.length->bindArgs (PySem.W.fnOf x qual (QI st) (Qn st) (Jj st) .none kV doc pm an cdv ct) ⟨us,[]⟩=pure (ps.zip us)):Binds K fd ps []:=by
 obtain⟨oc,od,kV,doc,pm,an,cdv,ct,osl,rfl,lk,hcd⟩:=F.ex;exact .all (h kV doc pm an cdv ct)
theorem zpN{x qual:Str}{st:Stmt}{f:Addr}{oc:Value}{od an:Option Addr}{osl:Array (Option Value)}{kV doc pm cdv ct:Value}(l:K.lookup f=some ⟨oc,od,.func (PySem.W.fnOf x qual (QI st) (Qn st) (Jj st) .none kV doc pm an cdv ct),osl⟩)
  (c:PySem.W.codeIn K cdv qual=true) (k:PySem.W.keepIn K (.ref f)=true):Fun K x qual st f (PySem.W.fnOf x qual (QI st) (Qn st) (Jj st) .none kV doc pm an cdv ct):=⟨⟨oc,od,kV,doc,pm,an,cdv,ct,osl,rfl,l,c⟩,k⟩
end
section
variable{X:Cx}
theorem pv(i:Nat){x:Str}{pos:Pos}(hN:X.N[i]?=some x:=by rfl)(hv:Vis X.env.scope x:=by walk_at "V")(hd:(x == ("__debug__":Str))=false:=by decide)
  (hcd:(x == ("__classdict__":Str))=false:=by decide):PE X (.Name x pos) (tVar i):=Q3 hN hv hd hcd
end
theorem iteF{A B:Prop}(h:B):if false=true then A else B:=by
 rw[if_neg Bool.false_ne_true];exact h
theorem iteT{A B:Prop}(h:A):if true=true then A else B:=by
 rw[if_pos rfl];exact h
def Same(H H':Hp):Prop:=∀b o,H b=some o->H' b=some o
theorem Same.refl(H:Hp):Same H H:=fun _ _ h=>h
def closed(env:Env):List (Str×NameKind)->List (Str×Addr)->List (Str×Addr)
 | [],acc=>acc
 | (n,k)::r,acc=>closed env r (if (k == .free)=true then(n,(env.cells.lookup n).getD 0)::acc else acc)
theorem zfJ{env:Env}:∀(l:List (Str×NameKind)) (acc:List (Str×Addr)),(∀x∈l,x.2=.free->∃c,env.cells.lookup x.1=some c) ->
  (forIn l acc fun x __s=>if (x.snd == NameKind.free)=true then do
    let c <- cellOf env x.fst
    pure (ForInStep.yield ((x.fst,c)::__s))
   else pure (ForInStep.yield __s):Sem (List (Str×Addr)))=pure (closed env l acc)
 | [],acc,_=>rfl
 | (n,k)::r,acc,h=>by
  have ih:=fun a=>zfJ (env:=env) r a fun x hx=>h x (List.mem_cons_of_mem _ hx)
  rw[List.forIn_cons]
  by_cases e:(k == NameKind.free)=true
  ·obtain⟨c,hc⟩:=h (n,k) List.mem_cons_self (by simpa using e)
   have hc':List.lookup n env.cells=some c:=hc;have e2:cellOf env n=pure c:=by unfold cellOf;rw[hc']
   simp only[e,if_true,e2,pure_bind];rw[ih]
   conv=>rhs;unfold closed
   simp only[e,if_true,hc',Option.getD_some]
  ·have e0:(k == NameKind.free)=false:=by simpa using e
   simp only[e0,Bool.false_eq_true,if_false,pure_bind];rw[ih]
   conv=>rhs;unfold closed
   simp only[e0,Bool.false_eq_true,if_false]
theorem zbG{scope:Scope}{env:Env}(h:∀x∈scope.names,x.2=.free->∃c,env.cells.lookup x.1=some c):closureFor scope env=pure (closed env scope.names []):=by
 simp only[closureFor];rw[zfJ scope.names [] h]
 rfl
theorem Z5{env:Env}:∀(l:List (Str×NameKind)) (acc:List (Str×Addr)),(∀x∈l,x.2=.free->∃c,env.cells.lookup x.1=some c) ->
  (∀x c,acc.lookup x=some c->env.cells.lookup x=some c)->∀x c,(closed env l acc).lookup x=some c->env.cells.lookup x=some c
 | [],acc,_,ha=>ha
 | (n,k)::r,acc,h,ha=>by
  unfold closed;refine Z5 r _ (fun x hx=>h x (List.mem_cons_of_mem _ hx)) fun x c=>?_
  by_cases e:(k == NameKind.free)=true
  ·obtain⟨d,hd⟩:=h (n,k) List.mem_cons_self (by simpa using e)
   have hd':List.lookup n env.cells=some d:=hd;simp only[e,if_true,hd',Option.getD_some];intro q;rw[List.lookup_cons]at q
   by_cases ex:(x == n)=true
   ·simp only[ex]at q;have ex':x=n:=by simpa using ex
    cases q;rw[ex'];exact hd'
   ·have ex2:(x == n)=false:=by simpa using ex
    simp only[ex2]at q;exact ha x c q
  ·have e0:(k == NameKind.free)=false:=by simpa using e
   simp only[e0,Bool.false_eq_true,if_false];exact ha x c
theorem zgn{env:Env}:∀(l:List (Str×NameKind)) (acc:List (Str×Addr)) (x:Str),(∃c,acc.lookup x=some c)->∃c,(closed env l acc).lookup x=some c
 | [],_,_,h=>h
 | (n,k)::r,acc,x,h=>by
  unfold closed;refine zgn r _ x ?_
  by_cases e:(k == NameKind.free)=true
  ·simp only[e,if_true];rw[List.lookup_cons];cases(x == n) with
   | true=>exact⟨_,rfl⟩
   | false=>exact h
  ·have e0:(k == NameKind.free)=false:=by simpa using e
   simp only[e0,Bool.false_eq_true,if_false];exact h
theorem zem{env:Env}:∀(l:List (Str×NameKind)) (acc:List (Str×Addr)) (x:Str),(x,NameKind.free)∈l->∃c,(closed env l acc).lookup x=some c
 | [],_,_,h=>nomatch h
 | (n,k)::r,acc,x,h=>by
  unfold closed;rcases List.mem_cons.mp h with e|h
  ·cases e;refine zgn r _ _ ?_;have hh:(NameKind.free == NameKind.free)=true:=rfl;simp only[hh,if_true];rw[List.lookup_cons];simp
  ·exact zem r _ x h
theorem lookup_mem{α:Type}{l:List (Str×α)}{x:Str}{v:α}(h:l.lookup x=some v):(x,v)∈l:=by
 induction l with
 | nil=>simp at h
 | cons p r ih =>
  obtain⟨n,w⟩:=p;rw[List.lookup_cons]at h
  by_cases e:(x == n)=true
  ·simp only[e]at h;cases h;have e':x=n:=by simpa using e
   rw[e'];exact List.mem_cons_self
  ·have e2:(x == n)=false:=by simpa using e
   simp only[e2]at h;exact List.mem_cons_of_mem _ (ih h)
def Uz(env:Env)(p:Str×NameKind):Str×NameKind:=if (p.2 == NameKind.free&&env.scope.kind == .function&&env.kindOf p.1 == some .cell)=true then(p.1,.cell) else p
theorem zme(env:Env)(p:Str×NameKind):(Uz env p).1=p.1:=by
 unfold Uz
 by_cases c:(p.2 == NameKind.free&&env.scope.kind == .function&&env.kindOf p.1 == some .cell)=true
 ·rw[if_pos c]
 ·rw[if_neg c]
def kin(env:Env)(x:Str):Option NameKind->Option NameKind
 | some .free=>if (env.scope.kind == .function&&env.kindOf x == some .cell)=true then some .cell else some .free
 | o=>o
theorem zmd(env:Env)(x:Str)(k:NameKind):some (Uz env (x,k)).2=kin env x (some k):=by
 unfold Uz
 by_cases c:(k == NameKind.free&&env.scope.kind == .function&&env.kindOf x == some .cell)=true
 ·rw[if_pos c];rw[Bool.and_eq_true,Bool.and_eq_true]at c;have k':k=.free:=by simpa using c.1.1
  subst k';unfold kin;rw[if_pos (by rw[Bool.and_eq_true];exact⟨c.1.2,c.2⟩)]
 ·rw[if_neg c];cases k with
  | free =>
   have:¬(env.scope.kind == .function&&env.kindOf x == some .cell)=true:=fun z=>c (by
    have hh:(NameKind.free == NameKind.free)=true:=rfl;rw[hh,Bool.true_and];exact z)
   unfold kin;rw[if_neg this]
  | _=>rfl
theorem zgB(scope:Scope)(env:Env):(relabel scope env).names=scope.names.map (Uz env):=by
 show scope.names.map _=_
 refine List.map_congr_left fun p _=>?_
 obtain⟨n,k⟩:=p
 rfl
theorem zf6(env:Env):∀(l:List (Str×NameKind)) (x:Str),(l.map (Uz env)).lookup x=kin env x (l.lookup x)
 | [],_=>rfl
 | (n,k)::r,x=>by
  have ih:=zf6 env r x;have e0:Uz env (n,k)=(n,(Uz env (n,k)).2):=Prod.ext (zme env (n,k)) rfl;rw[List.map_cons,e0,List.lookup_cons,List.lookup_cons]
  by_cases e:(x == n)=true
  ·have e':x=n:=by simpa using e
   subst e';simp only[beq_self_eq_true];exact zmd env x k
  ·have e2:(x == n)=false:=by simpa using e
   simp only[e2];exact ih
theorem zep(scope:Scope)(env:Env)(x:Str):(relabel scope env).names.lookup x=kin env x (scope.names.lookup x):=by
 rw[zgB];exact zf6 env _ x
abbrev capN(X:Cx)(capt:List Nat):List Str:=capt.map fun i=>X.N.getD i Str.empty
abbrev capS(capt:List Nat)(σ:St):St:=capt.map fun i=>σ.getD i none
abbrev JF(own:List Str):St:=own.map fun _=>none
abbrev Jm(X:Cx)(scope:Scope)(own:List Str)(capt:List Nat)(C:Addr)(s₀:Shared)(H₀:Hp)(fp:List Addr):Cx :=
 { X with N:=own++capN X capt,s₀:=s₀,H₀:=H₀,env:=compEnvC scope (closed X.env scope.names []) C X.env,outer:=X.stack,stack:=X.stack,ex:=fp,fn:=fun _=>false,pn:=[],xe:=fun _ _=>False }
structure CompScope(scope:Scope)(own:List Str)(capt:List Nat)(X:Cx):Prop where
 kind:scope.kind=.function
 nocell:∀y∈scope.names,y.2≠.cell
 names:∀y∈scope.names,y.2=.local->scope.names.lookup y.1=some .local
 frees:∀y∈scope.names,y.2=.free->X.env.kindOf y.1=some .cell\/X.env.kindOf y.1=some .free
 caps:∀k∈capt,scope.names.lookup (X.N.getD k Str.empty)=some .free
theorem getD_some{α:Type}{l:List (Option α)}{k:Nat}{v:α}(h:l.getD k none=some v):l[k]?=some (some v):=by
 rw[List.getD_eq_getElem?_getD]at h;cases e:l[k]? with
 | none=>rw[e]at h;cases h
 | some o=>rw[e]at h;simp at h;rw[h]
section
variable{X:Cx}{scope:Scope}{own:List Str}{capt:List Nat}
theorem CompScope.cells(S:CompScope scope own capt X)(ok:X.Ok):∀x∈scope.names,x.2=.free->∃c,X.env.cells.lookup x.1=some c:=fun x hx hf=>ok.has x.1 (S.frees x hx hf)
theorem zrd{pins:qO}{σ:St}{H₀:Hp}{s₀:Shared}{C:Addr}{fp:List Addr}(S:CompScope scope own capt X)(I:Inv X pins σ H₀ s₀)(hf:∀b∈fp,FpOk X pins H₀ b)(hfp:∀b∈fp,b<s₀.heap.objs.size)(hC:s₀.heap.objs.size<=C) :
  (Jm X scope own capt C s₀ H₀ fp).Ok:=by
 have sub:=Z5 scope.names [] (S.cells I.ok) (fun x c h=>nomatch (show(none:Option Addr)=some c from h))
 refine⟨I.ok.mod,S.kind,I.ok.glob,I.ok.blt,hC,fun x y c h1 h2=>I.ok.inj x y c (sub x c h1) (sub y c h2),fun x hk=>?_,fun x c z=>absurd (show false=true from z) Bool.false_ne_true,I.ok.hd,I.ok.frames,.inl rfl,fun b hb=>?_,I.bs,Nat.le_trans I.ok.bsz I.sz,fun b o e hb=>?_,fun b hb z=>?_,I.stack,I.stkFree⟩
 ·have e:=zep scope X.env x;have hk':(relabel scope X.env).names.lookup x=some .cell\/(relabel scope X.env).names.lookup x=some .free:=hk;rw[e]at hk';cases q:scope.names.lookup x with
  | none=>rw[q]at hk';rcases hk' with z|z <;> cases z
  | some k =>
   rw[q]at hk';cases k with
   | free=>exact zem scope.names [] x (lookup_mem q)
   | cell=>exact absurd rfl (S.nocell _ (lookup_mem q))
   | _=>rcases hk' with z|z <;> cases z
 ·obtain⟨f0,f1,f2,f3,f4,f5⟩:=hf b hb;exact⟨Nat.ne_of_lt (Nat.lt_of_lt_of_le (hfp b hb) hC),fun x c e=>f4 x c (sub x c e)⟩
 ·obtain⟨f0,f1,f2,f3,f4,f5⟩:=hf b hb;rcases f3 with z|z
  ·exact I.ok.noex b o e z
  ·exact absurd (Nat.lt_of_lt_of_le (Heap.lt_size (I.ok.bs b o e).1) z) (Nat.lt_irrefl _)
 ·obtain⟨f0,f1,f2,f3,f4,f5⟩:=hf b hb;rcases List.mem_cons.mp (I.stkSub b z) with q|q
  ·exact f1 q
  ·exact f2 q
theorem zkT{pins:qO}{σ:St}{H₀:Hp}{s₀:Shared}{fp:List Addr}{h':Heap}{D C:Addr}{tk:Nat}(S:CompScope scope own capt X)(I:Inv X pins σ H₀ s₀)(hf:∀b∈fp,FpOk X pins H₀ b)(hfp:∀b∈fp,b<s₀.heap.objs.size)
  (hD:s₀.heap.objs.size<=D) (hC:s₀.heap.objs.size<=C) (hDC:D≠C) (old:∀b o,s₀.heap.get? b=some o->h'.get? b=some o) (hns:h'.Ns C (fun _=>none)) (hacc:h'.get? D=some { cls:=.type "list",data:=.seq ([]:List Value).toArray 0 }) :
  Inv (Jm X scope own capt C s₀ H₀ fp) [] (JF own++capS capt σ) (upd H₀ D (.lst [])) { s₀ with heap:=h',toks:=tk }:=by
 have ok:=zrd S I hf hfp hC;have sub:=Z5 scope.names [] (S.cells I.ok) (fun x c h=>nomatch (show(none:Option Addr)=some c from h))
 have hn:H₀ D=none:=I.hok.fresh hD;refine⟨ok,rfl,I.bare,Un.laid old hD hn,⟨_,hns,fun i x v e1 e2 e3=>?_⟩,fun x c e=>?_,?_,fun x c e=>?_,fun p hp=>absurd (show p∈([]:qO) from hp) (by simp),I.hok.laid (o:=.lst []) old hD (show JQ X.prog X.w _ h' D (.lst []) from⟨Nat.zero_le _,[],0,.nil,hacc⟩),(by show(JF own++capS capt σ).length=(own++capN X capt).length;simp[JF,capS,capN])⟩
 ·have hlen:(JF own).length=own.length:=List.length_map ..
  by_cases hi:i<own.length
  ·rw[List.getElem?_append_left (by rw[hlen];exact hi)]at e2
   unfold JF at e2;rw[List.getElem?_map]at e2;cases q:own[i]? with
   | none=>rw[q]at e2;cases e2
   | some z=>rw[q]at e2;cases e2
  ·have hi':own.length<=i:=Nat.le_of_not_lt hi;have e1':(own++capN X capt)[i]?=some x:=e1;rw[List.getElem?_append_right hi']at e1';rw[List.getElem?_append_right (by rw[hlen];exact hi'),hlen]at e2
   unfold capN at e1';unfold capS at e2;rw[List.getElem?_map]at e1' e2;cases q:capt[i - own.length]? with
   | none=>rw[q]at e1';cases e1'
   | some k =>
    rw[q]at e1' e2;have ex:X.N.getD k Str.empty=x:=Option.some.inj e1';have ev:σ.getD k none=some v:=Option.some.inj e2;have hk:k∈capt:=List.mem_of_getElem? q;have hv:=getD_some ev;have hlt:k<X.N.length:=by
     rw[<- I.len];exact(List.getElem?_eq_some_iff.mp hv).1
    have hx:X.N[k]?=some x:=by
     rw[List.getD_eq_getElem?_getD,List.getElem?_eq_getElem hlt]at ex;rw[List.getElem?_eq_getElem hlt];exact congrArg some ex
    have hfree:=S.caps k hk;rw[ex]at hfree;have hkind:=S.frees _ (lookup_mem hfree) rfl;obtain⟨m,hm,hl⟩:=I.loc;have vis:Vis X.env.scope x:=by
     rcases hkind with z|z
     ·exact .inr (.inl z)
     ·exact .inr (.inr z)
    obtain⟨u,r,l⟩:=hl k x v hx hv vis;refine⟨u,r,.inr ⟨?_,?_⟩⟩
    ·have e:=zep scope X.env x;rw[hfree]at e;show(relabel scope X.env).names.lookup x=some .cell\/(relabel scope X.env).names.lookup x=some .free
     rw[e];unfold kin
     by_cases c:(X.env.scope.kind == .function&&X.env.kindOf x == some .cell)=true
     ·rw[if_pos c];exact .inl rfl
     ·rw[if_neg c];exact .inr rfl
    ·rcases l with⟨z,_⟩|⟨_,c,hc,hcell⟩
     ·rcases hkind with y|y <;> (have y':X.env.kindOf x=_:=y;rw[z]at y';cases y')
     ·obtain⟨d,hd⟩:=zem (env:=X.env) scope.names [] x (lookup_mem hfree);have:=sub x d hd;rw[hc]at this;cases this;obtain⟨o,ho,hod⟩:=hcell;exact⟨c,hd,o,old _ _ ho,hod⟩
 ·obtain⟨v,o,ho,hd⟩:=I.cell x c (sub x c e);exact⟨v,o,old _ _ ho,hd⟩
 ·show upd H₀ D (.lst []) C=none
  rw[Jw (Ne.symm hDC)];exact I.hok.fresh hC
 ·obtain⟨v,o,ho,hd⟩:=I.cell x c (sub x c e);show upd H₀ D (.lst []) c=none
  rw[Jw (Nat.ne_of_lt (Nat.lt_of_lt_of_le (Heap.lt_size ho) hD))];exact I.freeC x c (sub x c e)
theorem zkS{pins pins':qO}{σ σ':St}{H₀ H':Hp}{s₀ s':Shared}{fp:List Addr}{h'':Heap}{C:Addr}(I:Inv X pins σ H₀ s₀)(hf:∀b∈fp,FpOk X pins H₀ b)(hC:s₀.heap.objs.size<=C)
  (J:Inv (Jm X scope own capt C s₀ H₀ fp) pins' σ' H' s') (sb:Heap.SameBut C s'.heap h''):Inv X pins σ H' { s' with heap:=h'' }:=by
 have hCn:H' C=none:=J.free;have neC:∀b o,s₀.heap.get? b=some o->b≠C:=fun b o e=>Nat.ne_of_lt (Nat.lt_of_lt_of_le (Heap.lt_size e) hC)
 have u:Un (frs X.stack) fp H₀ H' s₀.heap s'.heap:=J.base;have u2:Un (frs X.stack) fp H₀ H' s₀.heap h'':=by
  refine⟨fun b o q n h1 h2=>(sb.2 b (neC b o q)).trans (u.keep b o q n h1 h2),fun b o q n h1 h2=>?_,u.free,fun b o q h2=>?_,u.tups,u.frzs,u.tbls⟩
  ·obtain⟨sl,e⟩:=u.slot b o q n h1 h2;exact⟨sl,(sb.2 b (neC b o q)).trans e⟩
  ·obtain⟨o',e⟩:=u.there b o q h2;exact⟨o',(sb.2 b (neC b o q)).trans e⟩
 have hok:HOk X.prog X.w H' h'':=fun b ob e=>by
  refine(J.hok b ob e).stay (fun c v hc q=>(sb.2 c ?_).trans q) (fun _ q=>q) fun _ _ q=>q
  rintro rfl;rcases hc with z|z
  ·subst z;rw[hCn]at e;cases e
  ·rw[hCn]at z;cases z
 refine I.call' (s':={ s' with heap:=h'' }) J.os u2 hok J.bare fun b hb=>?_
 obtain⟨f0,f1,f2,f3,f4,f5⟩:=hf b hb;exact⟨f3,f1,f4,f5⟩
end
def PTs(Y:Cx)(ifs:List Expr)(t:TT):Prop :=
 ∀(pins:qO) (s:Shared) (σ:St) (H:Hp) (Q:Bool->Hp->Prop),Inv Y pins σ H s->t σ H Q ->
  wpAny (model Y.prog Y.w) Y.A (forIn ifs true fun c r=>if r=true then do let ok <- isTrue c Y.env (eval c Y.env);pure (ForInStep.yield ok) else pure (ForInStep.yield r)) (TP Y pins σ Q) Y.xe s
def tYes:TT:=fun _ H Q=>Q true H
theorem zp9{Y:Cx}:PTs Y [] tYes:=fun _ _ _ H _ I h=>wpAny_tests_nil ⟨H,I,h⟩
theorem zp8{Y:Cx}{c:Expr}{t:TT}(h:PT Y c t):PTs Y [c] t:=fun pins s σ H Q I q=>wpAny_tests_one (h pins s σ H Q I q)
abbrev NoX:Value->Shared->Prop:=fun _ _=>False
theorem zlJ{prog:Program}{w:World}{A:Around}{R:Result->Shared->Prop}{s:Shared}{elt target iter:Expr}{ifs:List Expr}{scope:Scope}{pos:Pos}{it acc:Value}{env:Env}(I:Nat->Shared->Prop)
  (turn:∀n s,I n s->wpAny (model prog w) A (pyNext it) (fun r s₁=>match r with
   | none=>R (.ok .next) s₁
   | some v=>wpAny (model prog w) A (letOwnedTupleGo target it v) (fun _ s₂=>wpAny (model prog w) A (assign target env v) (fun _ s₃ =>
     wpAny (model prog w) A (forIn ifs true fun c r=>if r=true then do let ok <- isTrue c env (eval c env);pure (ForInStep.yield ok) else pure (ForInStep.yield r)) (fun ok s₄ =>
      if ok=true then wpAny (model prog w) A (eval elt env) (fun x s₅=>wpAny (model prog w) A (call (.builtin "list.append") [acc,x]) (fun _ s₆=>∃m,m<n/\I m s₆) NoX s₅) NoX s₄
      else ∃m,m<n/\I m s₄) NoX s₃) NoX s₂) NoX s₁) NoX s) (n:Nat) (h:I n s) :
  codeAny (model prog w) A (.compLoop (.ListComp elt [⟨target,iter,ifs,0⟩] scope pos) 0 it acc env) R s:=by
 refine codeAny_loop rfl I (fun n s hI=>?_) n h
 show wpAny _ A ((compTurn (.ListComp elt [⟨target,iter,ifs,0⟩] scope pos) 0 it acc env).onRaise (fun x=>do noteFrame x env;theTreesLotGoes x)) _ _ s
 refine wpAny_noted (wpAny_mono (E:=NoX) ?_ (fun _ _ q=>q) fun _ _ z=>False.elim z)
 rw[compTurn_list];refine wpAny_bind (wpAny_standAt (wpAny_bind (thn (turn n s hI) fun r s₁ h₁=>?_)))
 cases r with
 | none=>exact wpAny_pure h₁
 | some v =>
  refine wpAny_bind (thn h₁ fun _ s₂ h₂=>wpAny_bind (thn h₂ fun _ s₃ h₃=>wpAny_bind (thn h₃ fun ok s₄ h₄=>?_)))
  cases ok with
  | false=>exact wpAny_pure ⟨rfl,h₄⟩
  | true =>
   refine wpAny_bind (wpAny_bind (thn h₄ fun x s₅ h₅=>wpAny_bind (thn h₅ fun _ s₆ h₆=>?_)))
   exact wpAny_pure (wpAny_pure ⟨rfl,h₆⟩)
def Wk:St->St->Prop
 | [],[]=>True
 | none::r,_::r'=>Wk r r'
 | some v::r,o::r'=>o=some v/\Wk r r'
 | _,_=>False
theorem Wk.weak:∀{σ σ':St},Wk σ σ'->σ.length=σ'.length/\∀(i:Nat) v,σ[i]?=some (some v)->σ'[i]?=some (some v)
 | [],[],_=>⟨rfl,fun _ _ h=>by simp at h⟩
 | none::r,o::r',h=>by
  obtain⟨a,b⟩:=Wk.weak (σ:=r) (σ':=r') h;refine⟨by simp[a],fun i v e=>?_⟩
  cases i with
  | zero=>simp at e
  | succ i=>simpa using b i v (by simpa using e)
 | some w::r,o::r',h=>by
  obtain⟨h0,h1⟩:o=some w/\Wk r r':=h;obtain⟨a,b⟩:=Wk.weak h1;refine⟨by simp[a],fun i v e=>?_⟩
  cases i with
  | zero=>rw[h0];simpa using e
  | succ i=>simpa using b i v (by simpa using e)
 | none::_,[],h=>False.elim h
 | some _::_,[],h=>False.elim h
 | [],_::_,h=>False.elim h
def zro(own:List Str)(capt:List Nat)(g:TG)(tt:TT)(te:TE)(σ:St)(J:It)(H1:Hp)(D:Addr)(Q:VK):Prop:=∃W:Nat->Nat->Hp->Prop,(∃m,W 0 m (upd H1 D (.lst [])))/\∀i m H2,W i m H2 ->
 (J.stop i H2/\Q (.ref D) H2)\/(J.go i H2/\∃(N:V->Hp->Prop) (N':Hp->Prop),(∀v H6,N v H6->∃ys,H6 D=some (.lst ys)/\ys.length<sizeLine/\∃m',m'<m/\W (i+1) m' (upd H6 D (.lst (ys++[v]))))/\(∀H5,N' H5->∃m',m'<m/\W (i+1) m' H5) /\
  ∀x H3,J.yld i H2 x H3->g x (JF own++capS capt σ) H3 fun σ4 H4=>Wk (JF own++capS capt σ) σ4/\tt σ4 H4 fun b H5=>if b=true then te σ4 H5 N else N' H5)
def tComp(own:List Str)(capt:List Nat)(wi:TI)(g:TG)(tt:TT)(te:TE):TE:=fun σ H Q=>wi σ H fun J H1=>∀D,H1 D=none->zro own capt g tt te σ J H1 D Q
section
variable{X:Cx}{scope:Scope}{own:List Str}{capt:List Nat}{elt tg iter:Expr}{ifs:List Expr}{pos:Pos}{wi:TI}{g:TG}{tt:TT}{te:TE}
theorem zkQ(hc:X.calm=true)(S:CompScope scope own capt X)
  (hg:∀C s₀ H₀ fp,PG (Jm X scope own capt C s₀ H₀ fp) tg g) (ht:∀C s₀ H₀ fp,PTs (Jm X scope own capt C s₀ H₀ fp) ifs tt) (he:∀C s₀ H₀ fp,PE (Jm X scope own capt C s₀ H₀ fp) elt te)
  {pins:qO} {σ:St} {Q:VK} {itv:Value} {s2:Shared} {E:qV} {RR:Value->Addr->Result->Shared->Prop}
  (h2:PIE X pins σ tg (fun J H1=>∀D,H1 D=none->zro own capt g tt te σ J H1 D Q) itv s2)
  (hR:∀D C s' H',(∃m,s'.heap.Ns C m)->(∀h'',Heap.SameBut C s'.heap h''->Inv X pins σ H' { s' with heap:=h'' })->H' C=none->FpOk X pins H' C->Q (.ref D) H'->RR (.ref D) C (.ok .next) s') :
  wpAny (model X.prog X.w) X.A (newList []) (fun acc s₃=>wpAny (model X.prog X.w) X.A (newFunctionEnv scope X.env.globals (closed X.env scope.names []) [] X.env.qual none .none (some X.env)) (fun cenv s₄ =>
   codeAny (model X.prog X.w) X.A (.compStart (.ListComp elt [⟨tg,iter,ifs,0⟩] scope pos) 0 itv acc { cenv with scope:=relabel scope X.env }) (RR acc cenv.locals) s₄) E s₃) E s2:=by
 obtain⟨it,fp,tn,J,H2,e,I2,T,st2,f2,rd⟩:=h2;subst e;have hfp:∀b∈fp,b<s2.heap.objs.size:=fun b hb=>by
  obtain⟨o,e,_⟩:=T.obj 0 _ st2 b hb;exact Heap.lt_size e
 refine wpAny_newObj_type (wpAny_newFunctionEnv S.nocell (by intro y hy;simp at hy) (fun h₁ hns₁ hsb₁=>?_) S.kind)
 dsimp only at hns₁ hsb₁ ⊢;generalize hH3:s2.heap.push { cls:=.type "list",dict:=none,data:=.seq ([]:List Value).toArray }=H3 at hns₁ hsb₁ ⊢;have hC:H3.objs.size=s2.heap.objs.size+1:=by rw[<- hH3,Heap.size_push]
 have hDC:s2.heap.objs.size≠H3.objs.size:=by rw[hC];exact Nat.ne_of_lt (Nat.lt_succ_self _)
 have hCle:s2.heap.objs.size<=H3.objs.size:=by rw[hC];exact Nat.le_succ _
 have neC:∀b o,s2.heap.get? b=some o->b≠H3.objs.size:=fun b o e=>Nat.ne_of_lt (Nat.lt_of_lt_of_le (Heap.lt_size e) hCle)
 have old:∀b o,s2.heap.get? b=some o->h₁.get? b=some o:=fun b o e=>hsb₁.extBut b o (neC b o e) (Heap.get?_push_of_some _ (hH3▸Heap.get?_push_of_some _ e))
 have hacc:h₁.get? s2.heap.objs.size=some { cls:=.type "list",data:=.seq ([]:List Value).toArray 0 }:=hsb₁.extBut _ _ hDC (Heap.get?_push_of_some _ (hH3▸Heap.get?_push_size _ rfl));have hnD:H2 s2.heap.objs.size=none:=I2.hok.fresh (Nat.le_refl _);obtain⟨W,⟨m0,w0⟩,turn⟩:=rd _ hnD;have hLC:H3.objs.size≠X.env.locals:=fun z=>by
  have h:=I2.lt;rw[<- z]at h;exact absurd h (Nat.not_lt.mpr hCle)
 have J0:∀tk,Inv (Jm X scope own capt H3.objs.size s2 H2 fp) [] (JF own++capS capt σ) (upd H2 s2.heap.objs.size (.lst [])) { s2 with heap:=h₁,toks:=tk }:=fun tk =>
  zkT (tk:=tk) S I2 f2 hfp (Nat.le_refl _) hCle hDC old hns₁ hacc
 have fr0:∀b∈fp,upd H2 s2.heap.objs.size (.lst []) b=none:=fun b hb=>by
  rw[Jw (Nat.ne_of_lt (hfp b hb))];exact(f2 b hb).1
 have stat:∀{H':Hp},(∀b∈fp,H' b=none)->∀b∈fp,FpOk (Jm X scope own capt H3.objs.size s2 H2 fp) [] H' b:=fun hn b hb=>by
  obtain⟨g0,g1,g2,g3,g4,g5⟩:=f2 b hb;have sub:=Z5 scope.names [] (S.cells I2.ok) (fun x c h=>nomatch (show(none:Option Addr)=some c from h))
  refine⟨hn b hb,Nat.ne_of_lt (Nat.lt_of_lt_of_le (hfp b hb) hCle),fun z=>?_,.inl hb,fun x c e=>g4 x c (sub x c e),fun p hp=>absurd (show p∈([]:qO) from hp) (by simp)⟩
  rcases List.mem_cons.mp (I2.stkSub b z) with q|q
  ·exact g1 q
  ·exact g2 q
 have loop:∀s₃:Shared,(∃tk,s₃={ s2 with heap:=h₁,toks:=tk }) ->
   codeAny (model X.prog X.w) X.A (.compLoop (.ListComp elt [⟨tg,iter,ifs,0⟩] scope pos) 0 (.ref it) (.ref s2.heap.objs.size) (compEnvC scope (closed X.env scope.names []) H3.objs.size X.env)) (RR (.ref s2.heap.objs.size) H3.objs.size) s₃:=by
  rintro s₃ ⟨tk,rfl⟩;refine zlJ (fun n s'=>∃i H',Inv (Jm X scope own capt H3.objs.size s2 H2 fp) [] (JF own++capS capt σ) H' s'/\tn i s'.heap/\(∀b∈fp,H' b=none)/\W i n H') ?_ m0
   ⟨0,_,J0 tk,T.keep _ _ _ st2 fun b hb o e=>old b o e,fr0,w0⟩
  rintro n s4 ⟨i,H4,I4,st4,fr4,w4⟩;rcases turn i n H4 w4 with⟨stop,qn⟩|⟨go,N,N',hN,hN',step⟩
  ·refine thn (T.done (Jm X scope own capt H3.objs.size s2 H2 fp) rfl rfl rfl hc i [] s4 _ H4 NoX I4 (stat fr4) st4 stop) fun r s5 ⟨hr,I5⟩=>?_
   subst hr;obtain⟨m,hn,_⟩:=I5.loc;exact hR _ _ s5 H4 ⟨m,hn⟩ (fun h'' sb=>zkS I2 f2 hCle I5 sb) I5.free (I2.fpOk hCle I5.free) qn
  ·refine thn (T.item (Jm X scope own capt H3.objs.size s2 H2 fp) rfl rfl rfl hc i [] s4 _ H4 NoX I4 (stat fr4) st4 go) fun r s5 ⟨u,hr,h5⟩=>?_
   subst hr;refine thn h5 fun _ s6 ⟨x,H6,I6,r6,y6,st6,fr6⟩=>?_
   have I6':=I6.pinned (stat fr6) (T.obj _ _ st6);refine thn (hg _ _ _ _ _ s6 _ H6 x u _ I6' r6 (step x H6 y6)) fun _ s7 ⟨σ7,H7,I7,wk,q7⟩=>?_
   obtain⟨wl,wv⟩:=wk.weak;have again:∀{s8:Shared} {H8:Hp} {m':Nat},Inv (Jm X scope own capt H3.objs.size s2 H2 fp) ([]++Yz fp s6.heap) σ7 H8 s8->m'<n->W (i+1) m' H8 ->
     ∃m,m<n/\∃i H',Inv (Jm X scope own capt H3.objs.size s2 H2 fp) [] (JF own++capS capt σ) H' s8/\tn i s8.heap/\(∀b∈fp,H' b=none)/\W i m H':=fun {s8 H8 m'} I8 hm w8=>by
    refine⟨m',hm,i+1,H8,(I8.unpinned).weak wl wv,T.keep _ _ _ st6 fun b hb o e=>(I8.pin (b,o) (List.mem_append_right _ (List.mem_append_right _ (UK hb e)))).1,fun b hb=>?_,w8⟩
    obtain⟨o,e,d⟩:=T.obj _ _ st6 b hb;exact(I8.pin (b,o) (List.mem_append_right _ (List.mem_append_right _ (UK hb e)))).2.1
   refine thn (ht _ _ _ _ _ s7 σ7 H7 _ I7 q7) fun ok s8 ⟨H8,I8,q8⟩=>?_
   cases ok with
   | false =>
    obtain⟨m',hm,w8⟩:=hN' H8 (by simpa using q8)
    exact again I8 hm w8
   | true =>
    refine thn (he _ _ _ _ _ s8 σ7 H8 N I8 (by simpa using q8)) fun y s9 ⟨v,H9,I9,r9,q9⟩=>?_
    obtain⟨ys,hD,hl,m',hm,w9⟩:=hN v H9 q9;refine thn (zfc (X:=Jm X scope own capt H3.objs.size s2 H2 fp) _ s9 σ7 H9 (.ref s2.heap.objs.size) [v] _ [y] (fun _ H'=>H'=upd H9 s2.heap.objs.size (.lst (ys++[v]))) I9 rfl (.cons r9 .nil) ⟨_,ys,v,rfl,rfl,hD,hl,rfl⟩) fun _ s10 ⟨_,H10,I10,_,q10⟩=>?_
    subst q10;exact again I10 hm w9
 exact codeAny_compStart_list (loop _ ⟨_,rfl⟩) (T.self X.A 0 _ _ _ (T.keep _ _ _ st2 fun b hb o e=>old b o e) (loop _ ⟨_,rfl⟩))
theorem zoI(hc:X.calm=true)(S:CompScope scope own capt X)(hi:PI X tg iter wi)
  (hg:∀C s₀ H₀ fp,PG (Jm X scope own capt C s₀ H₀ fp) tg g) (ht:∀C s₀ H₀ fp,PTs (Jm X scope own capt C s₀ H₀ fp) ifs tt) (he:∀C s₀ H₀ fp,PE (Jm X scope own capt C s₀ H₀ fp) elt te)
  (hs:∀x,foldedSetIterable iter X.env x=pure x:=by intro _;rfl):PE X (.ListComp elt [⟨tg,iter,ifs,0⟩] scope pos) (tComp own capt wi g tt te):=by
 intro pins s σ H Q I h;rw[eval_ListComp];refine wpAny_comprehension_free (use:=none) rfl hs (zbG (S.cells I.ok)) S.kind S.names (thn (hi pins s σ H _ I h) fun v s1 h1=>thn h1 fun itv s2 h2=>?_)
 refine zkQ (RR:=fun acc C=>compPost (model X.prog X.w) X.A X.xe none (EP X pins σ Q) acc C) hc S hg ht he h2 fun D C s' H' hn J _ _ q=>?_
 obtain⟨m,hn⟩:=hn;exact⟨m,hn,fun h'' sb=>⟨.ref D,H',J h'' sb,rfl,q⟩⟩
theorem zmi(hc:X.calm=true)(S:CompScope scope own capt X)(hi:PI X tg iter wi)
  (hg:∀C s₀ H₀ fp,PG (Jm X scope own capt C s₀ H₀ fp) tg g) (ht:∀C s₀ H₀ fp,PTs (Jm X scope own capt C s₀ H₀ fp) ifs tt) (he:∀C s₀ H₀ fp,PE (Jm X scope own capt C s₀ H₀ fp) elt te)
  {i:Nat} {x:Str} {pos' spos:Pos} (hN:X.N.Nodup) (hxi:X.N[i]?=some x) (hx:Loc X.env.scope x)
  (hs:∀x,foldedSetIterable iter X.env x=pure x:=by intro _;rfl) (hsw:swapsWith (.ListComp elt [⟨tg,iter,ifs,0⟩] scope pos) (some (.Name x pos')) spos.line X.env=pure true:=by rfl)
  (hf:X.fn x=true\/X.env.scope.names.lookup x=some .local:=by walk_at "F") :
  PS X (.Assign [.Name x pos'] (.ListComp elt [⟨tg,iter,ifs,0⟩] scope pos) spos) (tAsg (tComp own capt wi g tt te) (Ve i)):=by
 intro pins s σ H D I h;rw[exec_Assign_Name_used _ _ _ _ hsw];refine wpAny_bind (wpAny_standAt (wpAny_bind ?_));show wpAny _ X.A (do let _ <- comprehension (.ListComp elt [⟨tg,iter,ifs,0⟩] scope pos) scope X.env _ (newList []) false (eval iter X.env) (some (assign (.Name x pos') X.env))) _ _ s
 refine wpAny_bind (wpAny_mono (wpAny_comprehension_free (use:=some (assign (.Name x pos') X.env)) (Q:=fun _ s'=>SP X pins D .next s') rfl hs (zbG (S.cells I.ok)) S.kind S.names (thn (hi pins s σ H _ I h) fun v s1 h1=>thn h1 fun itv s2 h2=>?_)) (fun _ s' hq=>wpAny_pure (wpAny_pure hq)) fun _ _ e=>e)
 refine zkQ (RR:=fun acc C=>compPost (model X.prog X.w) X.A X.xe (some (assign (.Name x pos') X.env)) (fun _ s'=>SP X pins D .next s') acc C) hc S hg ht he h2 fun D' C s' H' hn J hCn fp q=>?_
 obtain⟨m,hn⟩:=hn;obtain⟨f0,f1,f2,f3,f4,f5⟩:=fp;have Is:Inv X pins σ H' s':=J s'.heap (Heap.SameBut.refl _ _);refine wpAny_assign_Name (zhp Is hN hxi hx (show RelV (.ref D') (.ref D') from rfl) (fun s'' I'' sb=>?_) hf)
 obtain⟨a,sb,ha⟩:=sb;have neA:C≠a:=by
  rcases ha with rfl|ha
  ·exact f1
  ·exact fun z=>f4 x a ha z.symm
 have hn':s''.heap.Ns C m:=hn.sameBut sb neA;exact⟨m,hn',fun h' sb'=>⟨_,H',I''.turned (t':=s''.toks) (fun b o hb e=>(sb'.2 b hb).trans e) f0 f1 f3 f4 f5,q⟩⟩
end
theorem znF{J:It}{n:Nat}{own:List Str}{capt:List Nat}{g:TG}{tt:TT}{te:TE}{σ:St}{H1:Hp}{D:Addr}{Q:VK}(Pv:Nat->List V->Hp->Prop)(h0:Pv 0 [] (upd H1 D (.lst [])))
  (turn:∀i ys H2,i<n->H2 D=some (.lst ys)->Pv i ys H2->J.go i H2/\∀x H3,J.yld i H2 x H3->g x (JF own++capS capt σ) H3 fun σ4 H4=>Wk (JF own++capS capt σ) σ4/\tt σ4 H4 fun b H5 =>
   if b=true then te σ4 H5 (fun v H6=>∃zs,H6 D=some (.lst zs)/\zs.length<sizeLine/\Pv (i+1) (zs++[v]) (upd H6 D (.lst (zs++[v])))) else ∃zs,H5 D=some (.lst zs)/\Pv (i+1) zs H5)
  (stop:∀ys H2,H2 D=some (.lst ys)->Pv n ys H2->J.stop n H2/\Q (.ref D) H2) :
  zro own capt g tt te σ J H1 D Q:=by
 refine⟨fun i m H=>m=n - i/\i<=n/\∃ys,H D=some (.lst ys)/\Pv i ys H,⟨n,rfl,Nat.zero_le _,[],Qe,h0⟩,?_⟩
 rintro i m H2 ⟨rfl,hi,ys,hD,p⟩
 by_cases hlt:i<n
 ·obtain⟨go,st⟩:=turn i ys H2 hlt hD p;refine .inr ⟨go,_,_,?_,?_,st⟩
  ·rintro v H6 ⟨zs,e,l,q⟩;exact⟨zs,e,l,n - (i+1),by omega,rfl,hlt,_,Qe,q⟩
  ·rintro H5 ⟨zs,e,q⟩;exact⟨n - (i+1),by omega,rfl,hlt,zs,e,q⟩
 ·have e:i=n:=by omega
  subst e;exact .inl (stop ys H2 hD p)
def ziz(scope outer:Scope)(N:List Str)(capt:List Nat):Bool :=
 scope.kind == .function&&scope.names.all (fun y=>!(y.2 == .cell))&&scope.names.all (fun y=>!(y.2 == .local)||scope.names.lookup y.1 == some .local) &&
 scope.names.all (fun y=>!(y.2 == .free)||(outer.names.lookup y.1 == some .cell||outer.names.lookup y.1 == some .free))&&capt.all (fun k=>scope.names.lookup (N.getD k Str.empty) == some .free)
theorem CompScope.of{X:Cx}{scope:Scope}{own:List Str}{capt:List Nat}(h:ziz scope X.env.scope X.N capt=true):CompScope scope own capt X:=by
 unfold ziz at h;simp only[Bool.and_eq_true]at h;obtain⟨⟨⟨⟨h1,h2⟩,h3⟩,h4⟩,h5⟩:=h;rw[List.all_eq_true]at h2 h3 h4 h5;refine⟨by simpa using h1,fun y hy=>?_,fun y hy hl=>?_,fun y hy hf=>?_,fun k hk=>?_⟩
 ·simpa using h2 y hy
 ·have:=h3 y hy;rw[hl]at this;simpa using this
 ·have:=h4 y hy;rw[hf]at this;show X.env.scope.names.lookup y.1=some .cell\/X.env.scope.names.lookup y.1=some .free
  simpa using this
 ·simpa using h5 k hk
section
variable{X:Cx}
theorem zsy:OpR X (compareOp .Is) (fun x y H Q=>∃a b,x=.bl a/\y=.bl b/\Q (.bl (a == b)) H):=by
 intro pins s σ H x y v u Q I rx ry h;obtain⟨a,b,rfl,rfl,q⟩:=h;cases rx;cases ry;exact is_bool ⟨.bl (a == b),H,I,rfl,q⟩
theorem zmC:OpR X (compareOp .IsNot) (fun x y H Q=>∃a b,x=.bl a/\y=.bl b/\Q (.bl (a != b)) H):=by
 intro pins s σ H x y v u Q I rx ry h;obtain⟨a,b,rfl,rfl,q⟩:=h;cases rx;cases ry;exact isnot_bool ⟨.bl (a != b),H,I,rfl,q⟩
def kitB(t T:String):Option Bool:=if (Value.type t == Value.type T)=true then some true else if PySem.W.kitMeta T=true then(fastBuiltinMro t).map (·.contains (.type T)) else none
theorem Vt(K:qF)(t T:String):PySem.W.kitOne K (.type t) (.type T)=kitB t T:=rfl
inductive Ty (H:Hp):V->String->Prop where
 | non:Ty H .non "NoneType"
 | bl (x:Bool):Ty H (.bl x) "bool"
 | int (i:Int):Ty H (.int i) "int"
 | str (x:Str):Ty H (.str x) "str"
 | lst {a:Addr} {xs:List V} (e:H a=some (.lst xs)):Ty H (.ref a) "list"
 | tup {a:Addr} {xs:List V} (e:H a=some (.tup xs)):Ty H (.ref a) "tuple"
 | dK {a:Addr} {kvs:List (Key×V)} (e:H a=some (.dK kvs)):Ty H (.ref a) "dict"
theorem Ty.of{K:qF}{H:Hp}{v:V}{t:String}(h:Ty H v t):TyOf K H v (.type t):=by
 cases h with
 | non=>exact .non
 | bl x=>exact .bl x
 | int i=>exact .int i
 | str x=>exact .str x
 | lst e=>exact .lst e
 | tup e=>exact .tup e
 | dK e=>exact .dK e
theorem zpq:bootBuiltins "isinstance" = some (.builtin "isinstance"):=by decide +kernel
theorem boot_int:bootBuiltins "int" = some (.type "int"):=by decide +kernel
theorem zlQ:bootBuiltins "bool" = some (.type "bool"):=by decide +kernel
theorem Qq:bootBuiltins "tuple" = some (.type "tuple"):=by decide +kernel
theorem znS:bootBuiltins "str" = some (.type "str"):=by decide +kernel
theorem Us:bootBuiltins "all" = some (.builtin "all"):=by decide +kernel
theorem znT:bootBuiltins "any" = some (.builtin "any"):=by decide +kernel
theorem Wg:bootBuiltins "min" = some (.builtin "min"):=by decide +kernel
theorem Wf:bootBuiltins "max" = some (.builtin "max"):=by decide +kernel
theorem Qy:bootBuiltins "len" = some (.builtin "len"):=by decide +kernel
theorem znR:bootBuiltins "sum" = some (.builtin "sum"):=by decide +kernel
theorem zfM:∀{bs:List Bool}{us:List Value},Vals (bs.map V.bl) us->LSm.BoolsAre us bs
 | [],_,h=>by cases h;exact .nil
 | b::bs,_,h=>by
  cases h with
  | cons r t =>
   cases(show _=Value.bool b from r)
   exact .cons b (zfM t)
theorem Ut(hc:X.calm=true):Qb X (.builtin "all") (fun xs H Q=>∃(a:Addr) (bs:List Bool),xs=[.ref a]/\SqL X.K H a (bs.map V.bl)/\Q (.bl (bs.all id)) H):=by
 intro pins s σ H xs us Q I r h;obtain⟨a,bs,rfl,hq,q⟩:=h;cases r with
 | cons r1 r2 =>
  cases r2;cases(show _=Value.ref a from r1)
  obtain⟨its,rv,p,hz⟩:=I.list hq;have hb:=zfM rv;have hl:s.heap.IsList a its.toArray:=p.isList;have hlt:a<s.heap.objs.size:=by obtain⟨_,e,_⟩:=hl;exact Heap.lt_size e
  refine call_all_walk (wpAny_pyIter_list hl ?_);refine⟨s.heap.objs.size,[s.heap.objs.size,a],[s.heap.objs.size],its.toArray.size,_,_,fun i=>(bs[i]?).getD true,rfl,Walks.list (A:=X.A.in1) (I.ok.hd hc) _ a (Nat.ne_of_lt hlt) its.toArray,
   ⟨⟨_,Heap.get?_push_size _ rfl,rfl,rfl⟩,hl.push _⟩,fun i v s' Q' E' hP hQ=>?_,fun h' tk hk=>?_⟩
  ·obtain⟨b,e,rfl⟩:=hb.get i v (by simpa using hP)
   simp only[e,Option.getD_some]at hQ;exact wpAny_truthy_bool hQ
  ·have e:((List.range its.toArray.size).all fun i=>(bs[i]?).getD true)=bs.all id:=by
    rw[List.size_toArray,hb.length];exact LSm.range_all bs
   rw[e];exact⟨.bl _,H,I.kept (LSm.kept_iter hk),rfl,q⟩
theorem znK(hc:X.calm=true):Qb X (.builtin "any") (fun xs H Q=>∃(a:Addr) (bs:List Bool),xs=[.ref a]/\SqL X.K H a (bs.map V.bl)/\Q (.bl (bs.any id)) H):=by
 intro pins s σ H xs us Q I r h;obtain⟨a,bs,rfl,hq,q⟩:=h;cases r with
 | cons r1 r2 =>
  cases r2;cases(show _=Value.ref a from r1)
  obtain⟨its,rv,p,hz⟩:=I.list hq;have hb:=zfM rv;have hl:s.heap.IsList a its.toArray:=p.isList;have hlt:a<s.heap.objs.size:=by obtain⟨_,e,_⟩:=hl;exact Heap.lt_size e
  refine call_any_walk (wpAny_pyIter_list hl ?_);refine⟨s.heap.objs.size,[s.heap.objs.size,a],[s.heap.objs.size],its.toArray.size,_,_,fun i=>(bs[i]?).getD false,rfl,Walks.list (A:=X.A.in1) (I.ok.hd hc) _ a (Nat.ne_of_lt hlt) its.toArray,
   ⟨⟨_,Heap.get?_push_size _ rfl,rfl,rfl⟩,hl.push _⟩,fun i v s' Q' E' hP hQ=>?_,fun h' tk hk=>?_⟩
  ·obtain⟨b,e,rfl⟩:=hb.get i v (by simpa using hP)
   simp only[e,Option.getD_some]at hQ;exact wpAny_truthy_bool hQ
  ·have e:((List.range its.toArray.size).any fun i=>(bs[i]?).getD false)=bs.any id:=by
    rw[List.size_toArray,hb.length];exact LSm.range_any bs
   rw[e];exact⟨.bl _,H,I.kept (LSm.kept_iter hk),rfl,q⟩
mutual
inductive Shows (H:Hp):V->PyData->Prop
 | non:Shows H .non .none
 | bl (b:Bool):Shows H (.bl b) (.bool b)
 | int (i:Int):Shows H (.int i) (.int i)
 | str (x:Str):Shows H (.str x) (.str x)
 | lst {a:Addr} {xs:List V} {ds:qD}:H a=some (.lst xs)->ShowsAll H xs ds->Shows H (.ref a) (.list ds)
 | tup {a:Addr} {xs:List V} {ds:qD}:H a=some (.tup xs)->ShowsAll H xs ds->Shows H (.ref a) (.tuple ds)
inductive ShowsAll (H:Hp):List V->List PyData->Prop
 | nil:ShowsAll H [] []
 | cons {v:V} {vs:List V} {d:PyData} {ds:qD}:Shows H v d->ShowsAll H vs ds->ShowsAll H (v::vs) (d::ds)
end
section
variable{pins:qO}{σ:St}{H:Hp}{s:Shared}
mutual
theorem Shows.reads(I:Inv X pins σ H s):∀{v:V}{d:PyData}{u:Value},Shows H v d->RelV v u->∃as,Reads s.heap u d as
 | _,_,_,.non,r=>by cases r;exact⟨_,.none⟩
 | _,_,_,.bl b,r=>by cases r;exact⟨_,.bool b⟩
 | _,_,_,.int i,r=>by obtain⟨t,rfl⟩:=r;exact⟨_,.int i t⟩
 | _,_,_,.str x,r=>by obtain⟨t,rfl⟩:=r;exact⟨_,.str x t⟩
 | _,_,_,.lst e h,r=>by
  cases r;obtain⟨_,its,n,rv,e1⟩:=I.hok _ _ e;obtain⟨as,q⟩:=ShowsAll.reads I h rv;exact⟨_,.list e1 rfl rfl (by simpa using q)⟩
 | _,_,_,.tup e h,r=>by
  cases r;obtain⟨_,its,rv,o,e1,e2,⟨n,e3⟩,_⟩:=I.hok _ _ e;obtain⟨as,q⟩:=ShowsAll.reads I h rv;exact⟨_,.tuple e1 e2 e3 (by simpa using q)⟩
theorem ShowsAll.reads(I:Inv X pins σ H s):∀{vs:List V}{ds:qD}{us:List Value},ShowsAll H vs ds->Vals vs us->∃as,ReadsAll s.heap us ds as
 | _,_,_,.nil,r=>by cases r;exact⟨_,.nil⟩
 | _,_,_,.cons h t,r=>by
  cases r with
  | cons r rr =>
   obtain⟨as,q⟩:=Shows.reads I h r;obtain⟨bs,q'⟩:=ShowsAll.reads I t rr;exact⟨_,.cons q q'⟩
end
end
def ZF(i j:Int):Prop:=0<j/\j<2 ^ 128
theorem V3:OpR X (binaryOp .FloorDiv) (rI ZF fun i j=>.int (i / j)):=opI fun i j _ _ _ _ _ hc q=>by
 have h1:(0:Int)<j:=hc.1;have h2:j<2 ^ 128:=hc.2;refine floordiv_int (by omega) (by rw[Int.fdiv_eq_ediv_of_nonneg i (by omega)];exact q) (.inl (PyProof.noPylong_of_log2 ?_))
 have h3:j.natAbs<2 ^ 128:=by omega
 have h4:j.natAbs.log2<128:=(Nat.log2_lt (by omega)).mpr h3
 omega
end
def Pl(X:Cx)(es:List Expr):Prop:=∀pos,(backTo pos (starEach es X.env)).any (·.1)=false
def Hd(X:Cx):List Expr->Prop
 | []=>True
 | e::r=>starEach (e::r) X.env=(false,eval e X.env)::starEach r X.env/\Pl X r
structure PB(X:Cx)(es:List Expr)(t:TA):Prop where
 pa:PA X es t
 pl:Pl X es
 hd:Hd X es
section
variable{X:Cx}{es:List Expr}{t:TA}{te:TE}
theorem UC:PB X [] tNil:=⟨Yu,fun _=>rfl,trivial⟩
theorem QW{e:Expr}(h:PE X e te)(hr:PB X es t)(hs:starEach (e::es) X.env=(false,eval e X.env)::starEach es X.env):PB X (e::es) (QN te t) :=
 ⟨UJ h hr.pa hs,fun pos=>by
  rw[hs];have:(backTo pos ((false,eval e X.env)::starEach es X.env)).any (·.1)=(false||(backTo pos (starEach es X.env)).any (·.1)):=rfl
  rw[this,hr.pl pos];rfl,hs,hr.pl⟩
theorem pb_i{i:Int}{j pos}(hr:PB X es t):PB X (.Constant (.int i) j pos::es) (QN (tC (.int i)) t):=QW JK hr rfl
theorem pb_v(i:Nat){x:Str}{pos:Pos}(hr:PB X es t)(hN:X.N[i]?=some x:=by rfl)(hv:Vis X.env.scope x:=by walk_at "V")(hd:(x == ("__debug__":Str))=false:=by decide)
  (hcd:(x == ("__classdict__":Str))=false:=by decide):PB X (.Name x pos::es) (QN (tVar i) t):=QW (Q3 hN hv hd hcd) hr rfl
theorem zqn{x:Str}{pos:Pos}(h:PE X (.Name x pos) te)(hr:PB X es t):PB X (.Name x pos::es) (QN te t):=QW h hr rfl
theorem zpz{a b c d}(h:PE X (.BinOp a b c d) te)(hr:PB X es t):PB X (.BinOp a b c d::es) (QN te t):=QW h hr rfl
theorem zso{a b c d}(h:PE X (.Compare a b c d) te)(hr:PB X es t):PB X (.Compare a b c d::es) (QN te t):=QW h hr rfl
variable{e:Expr}{x:Str}{p pos:Pos}
theorem zqi{x1}(h:PB X es t):PE X (.Tuple es x1 pos) (tTup t):=zsf h.pa
theorem zmr(h:PB X es t):PE X (.List es pos) (tLst t):=zsk h.pa
theorem Vm{id:String}{r:List V->Hp->VK->Prop}(hc:Qb X (.builtin id) r)(hm:X.mg x=none)(hv:bootBuiltins x=some (.builtin id))(h:PB X (e::es) t)(hg:Gl X x:=by rfl)(hn:x ≠ "__name__":=by decide) (hdb:(x == ("__debug__":Str))=false:=by decide) :
  PE X (.Call (.Name x p) (e::es) [] pos) (tCB r t):=zoL hc hg hm hv h.pa hn hdb h.hd.1 (h.hd.2 pos)
theorem zsl{T:String}{r:List V->Hp->VK->Prop}(hc:Qb X (.type T) r)(hm:X.mg x=none)(hv:bootBuiltins x=some (.type T))(h:PB X (e::es) t)(hg:Gl X x:=by rfl)(hn:x ≠ "__name__":=by decide) (hdb:(x == ("__debug__":Str))=false:=by decide) :
  PE X (.Call (.Name x p) (e::es) [] pos) (tCB r t):=zmv hc hg hm hv h.pa hn hdb h.hd.1 (h.hd.2 pos)
end
end L2
namespace Bd
open PySem L2
structure Def(K:qF)(mg:qM)(x:Str)(st:Stmt)(ps:List Str)(f:Addr)(fd:FuncData):Prop where
 F:Fun K x x st f fd
 b:Binds K fd ps []
 m:mg x=some (.ref f)
section
variable{X:Cx}{k:Nat}{f:Addr}{fd:FuncData}{ps:List Str}{sp:Sp}{x:Str}{p pos:Pos}{e:Expr}{es:List Expr}{t:TA}{st:Stmt}
theorem zqj(D:Def X.K X.mg x st ps f fd)(G:FnOk X.prog X.w X.K X.mg X.base CX0 k f fd ps sp)(hr:Room k X.A)(h:PB X (e::es) t)(hg:Gl X x:=by rfl)
  (hdb:(x == ("__debug__":Str))=false:=by decide):PE X (.Call (.Name x p) (e::es) [] pos) (zrE sp [] E0 t):=zqk G hr hg D.m D.F.kp D.b .nil zvu h.pa hdb h.hd.1 (h.hd.2 pos)
theorem zvr{T:String}{p:Pos}(hm:X.mg x=none)(hv:bootBuiltins x=some (.type T))(hg:Gl X x:=by rfl)(hn:x ≠ "__name__":=by decide) (hd:(x == ("__debug__":Str))=false:=by decide):PE X (.Name x p) (tC (.ty T)) :=
 zqm hg hm hv rfl hn hd
end
theorem iteP{c A B:Prop}[Decidable c](hc:c)(h:A):if decide c=true then A else B:=by
 rw[decide_eq_true hc];exact iteT h
theorem iteN{c A B:Prop}[Decidable c](hc:¬c)(h:B):if decide c=true then A else B:=by
 rw[decide_eq_false hc];exact iteF h
theorem zs_{c A B:Prop}[Decidable c](h1:c->A)(h2:¬c->B):if decide c=true then A else B:=by
 by_cases h:c
 ·exact iteP h (h1 h)
 ·exact iteN h (h2 h)
theorem zjY{α:Type}{xs:List α}{k:Int}{v:α}(h0:0<=k)(h:xs[k.toNat]?=some v):atI xs k=some v:=by
 obtain⟨n,rfl⟩:=Int.eq_ofNat_of_zero_le h0;exact zrj h
theorem Qj(k:Nat):(0:Int)<2 ^ k:=by
 have:(0:Nat)<2 ^ k:=Nat.two_pow_pos k;have e:((2 ^ k:Nat):Int)=(2:Int) ^ k:=by simp
 omega
theorem zmm{k:Nat}(h:k<=64):(2:Int) ^ k<2 ^ 128:=by
 have:(2:Nat) ^ k<2 ^ 128:=Nat.pow_lt_pow_right (by decide) (by omega)
 have e:((2 ^ k:Nat):Int)=(2:Int) ^ k:=by simp
 omega
theorem zeG{k:Nat}(h:k<=64):(2:Int) ^ k<=2 ^ 64:=by
 have:(2:Nat) ^ k<=2 ^ 64:=Nat.pow_le_pow_right (by decide) (by omega)
 have e:((2 ^ k:Nat):Int)=(2:Int) ^ k:=by simp
 omega
theorem zom{H:Hp}{p:Addr}{o:HO}(h:H p=none):Same H (upd H p o):=fun b u e=>by
 rw[Jw (QX e h)];exact e
end Bd
namespace L2
open PySem PySem.Spec PyProof.Rows
theorem zrk(k h:Nat):(k*2 ^ h) &&& (2 ^ h)=(k % 2)*2 ^ h:=by
 have e1:k*2 ^ h=k <<< h:=(Nat.shiftLeft_eq k h).symm;have e2:(2:Nat) ^ h=1 <<< h:=by rw[Nat.shiftLeft_eq,Nat.one_mul]
 have e3:(k &&& 1) <<< h=k <<< h &&& 1 <<< h:=Nat.shiftLeft_and_distrib;rw[e1]
 conv=>lhs;rw[e2]
 rw[<- e3,Nat.and_one_is_mod,Nat.shiftLeft_eq]
theorem zj2{k:Int}(h:Nat)(k0:0<=k):Builtin.bitXor (k*2 ^ h) (2 ^ h)=if k % 2=0 then k*2 ^ h+2 ^ h else k*2 ^ h - 2 ^ h:=by
 obtain⟨n,rfl⟩:=Int.eq_ofNat_of_zero_le k0;have e0:((2 ^ h:Nat):Int)=(2:Int) ^ h:=by simp
 have e1:((n:Int)*2 ^ h)=((n*2 ^ h:Nat):Int):=by rw[Int.natCast_mul,e0]
 rw[bitXor_and,e1,<- e0,bitAnd_pp (Int.natCast_nonneg _) (Int.natCast_nonneg _)];have e2:((n*2 ^ h:Nat):Int).toNat &&& ((2 ^ h:Nat):Int).toNat=(n % 2)*2 ^ h:=by
  rw[Int.toNat_natCast,Int.toNat_natCast];exact zrk n h
 rw[e2];rcases Nat.mod_two_eq_zero_or_one n with z|z
 ·have:((n:Int)) % 2=0:=by lia
  rw[if_pos this,z];simp
 ·have:¬((n:Int)) % 2=0:=by lia
  rw[if_neg this,z,Nat.one_mul];lia
def HAND:PyData:=.dict [(.none,.none)]
def SCR(ns:List Int):PyData:=.dict [(.none,.list (ns.map .int))]
def Vy(H:Hp)(hd:Addr)(n:Int):Prop:=∃d m t:Int,H hd=some (.lst [.int d,.int m,.int t])/\0<=m/\m<2 ^ 62/\0<=t/\t<=n
def StT(K:qF)(a:Addr)(xs:List V):Prop :=
 ∃(o:Obj) (its:Array Value) (n:Nat),K.lookup a=some o/\o.cls=.type "tuple" /\ o.data=.seq its n/\its.size<=sizeLine/\Vals xs its.toList/\o.dict=none
theorem StT.sq{K:qF}{H:Hp}{a:Addr}{xs:List V}(h:StT K a xs):SqT K H a xs:=by
 obtain⟨o,its,n,h1,h2,h3,h4,h5,_⟩:=h;exact .inr ⟨o,its,n,h1,h2,h3,h4,h5⟩
def hsT(k:Int×Int):Int:=reduceHash (Builtin.Tuple.tupleHashOf [hashInt k.1,hashInt k.2])
def entZ(z:(Int×Int)×Addr×V)(e:DictEntry):Prop:=e.hash=hsT z.1/\e.key=.ref z.2.1/\RelV z.2.2 e.val
abbrev ZT:=List ((Int×Int)×Addr×V)
def ZDO(a:Addr)(zs:ZT)(ep:Nat):HO:=.ext fun h=>(a == sysModules)=false/\zs.length<=sizeLine/\(zs.map (·.1)).Nodup/\∃o es,h.get? a=some o/\o.ExactDict/\o.data=.dict es ep/\Paired entZ zs es.toList
abbrev KT2:=List ((Int×Int)×PyData)
def kdD:Key->PyData
 | .inl i=>.int i
 | .inr x=>.str x
def blkT(k:Int×Int):PyData:=.tuple [.int k.1,.int k.2]
def zq8(ks:List (Key×PyData)):List (PyData×PyData):=ks.map fun q=>(kdD q.1,q.2)
def YV(ks:KT2):List (PyData×PyData):=ks.map fun q=>(blkT q.1,q.2)
mutual
inductive Rep (K:qF)(hd:Option Addr)(O:Addr->Prop)(H:Hp):V->PyData->Prop
 | non:Rep K hd O H .non .none
 | bl (b:Bool):Rep K hd O H (.bl b) (.bool b)
 | int (i:Int):Rep K hd O H (.int i) (.int i)
 | str (x:Str):Rep K hd O H (.str x) (.str x)
 | tup {a vs ds} (h:H a=some (.tup vs)) (o:¬O a) (r:Reps K hd O H vs ds):Rep K hd O H (.ref a) (.tuple ds)
 | tupS {a vs ds} (h:StT K a vs) (r:Reps K hd O H vs ds):Rep K hd O H (.ref a) (.tuple ds)
 | lst {a vs ds} (h:H a=some (.lst vs)) (o:¬O a) (r:Reps K hd O H vs ds):Rep K hd O H (.ref a) (.list ds)
 | dct {a} (h:H a=some (.dK [])) (o:¬O a):Rep K hd O H (.ref a) (.dict [])
 | dcK {a kvs ks ps} (h:H a=some (.dK kvs)) (o:¬O a) (r:RepsK K hd O H kvs ks) (e:ps=zq8 ks):Rep K hd O H (.ref a) (.dict ps)
 | dcT {a zs ep ks ps} (h:H a=some (ZDO a zs ep)) (o:¬O a) (r:RepsT K hd O H zs ks) (e:ps=YV ks):Rep K hd O H (.ref a) (.dict ps)
 | hand {a} (h:hd=some a):Rep K hd O H (.ref a) HAND
 | scr {a ns} (h:Rd H a (.lst (ns.map V.int))) (o:¬O a):Rep K hd O H (.ref a) (SCR ns)
 | scrS {a} {ns:List Int} (h:∀H':Hp,SqL K H' a (ns.map V.int)):Rep K hd O H (.ref a) (SCR ns)
inductive Reps (K:qF)(hd:Option Addr)(O:Addr->Prop)(H:Hp):List V->List PyData->Prop
 | nil:Reps K hd O H [] []
 | cons {v d vs ds} (h:Rep K hd O H v d) (r:Reps K hd O H vs ds):Reps K hd O H (v::vs) (d::ds)
inductive RepsK (K:qF)(hd:Option Addr)(O:Addr->Prop)(H:Hp):List (Key×V)->List (Key×PyData)->Prop
 | nil:RepsK K hd O H [] []
 | cons {k v d kvs ks} (h:Rep K hd O H v d) (r:RepsK K hd O H kvs ks):RepsK K hd O H ((k,v)::kvs) ((k,d)::ks)
inductive RepsT (K:qF)(hd:Option Addr)(O:Addr->Prop)(H:Hp):ZT->KT2->Prop
 | nil:RepsT K hd O H [] []
 | cons {k q v d zs ks} (h:Rep K hd O H (.ref q) (.tuple [.int k.1,.int k.2])) (h2:Rep K hd O H v d) (r:RepsT K hd O H zs ks):RepsT K hd O H ((k,q,v)::zs) ((k,d)::ks)
end
section
variable{K:qF}{hd:Option Addr}{O O':Addr->Prop}{H H':Hp}
mutual
theorem Rep.mono(ho:∀a o,H a=some o->O' a->O a)(hh:∀a o,¬O a->H a=some o->H' a=some o):∀{v d},Rep K hd O H v d->Rep K hd O' H' v d
 | _,_,.non=>.non
 | _,_,.bl b=>.bl b
 | _,_,.int i=>.int i
 | _,_,.str x=>.str x
 | _,_,.tup h o r=>.tup (hh _ _ o h) (fun z=>o (ho _ _ h z)) (Reps.mono ho hh r)
 | _,_,.tupS h r=>.tupS h (Reps.mono ho hh r)
 | _,_,.lst h o r=>.lst (hh _ _ o h) (fun z=>o (ho _ _ h z)) (Reps.mono ho hh r)
 | _,_,.dct h o=>.dct (hh _ _ o h) (fun z=>o (ho _ _ h z))
 | _,_,.dcK h o r e=>.dcK (hh _ _ o h) (fun z=>o (ho _ _ h z)) (RepsK.mono ho hh r) e
 | _,_,.dcT h o r e=>.dcT (hh _ _ o h) (fun z=>o (ho _ _ h z)) (RepsT.mono ho hh r) e
 | _,_,.hand h=>.hand h
 | _,_,.scr h o=>by
  rcases h with h|⟨u,h⟩
  ·exact .scr (.inl (hh _ _ o h)) (fun z=>o (ho _ _ h z))
  ·exact .scr (.inr ⟨u,hh _ _ o h⟩) (fun z=>o (ho _ _ h z))
 | _,_,.scrS h=>.scrS h
theorem Reps.mono(ho:∀a o,H a=some o->O' a->O a)(hh:∀a o,¬O a->H a=some o->H' a=some o):∀{vs ds},Reps K hd O H vs ds->Reps K hd O' H' vs ds
 | _,_,.nil=>.nil
 | _,_,.cons h r=>.cons (Rep.mono ho hh h) (Reps.mono ho hh r)
theorem RepsK.mono(ho:∀a o,H a=some o->O' a->O a)(hh:∀a o,¬O a->H a=some o->H' a=some o):∀{vs ds},RepsK K hd O H vs ds->RepsK K hd O' H' vs ds
 | _,_,.nil=>.nil
 | _,_,.cons h r=>.cons (Rep.mono ho hh h) (RepsK.mono ho hh r)
theorem RepsT.mono(ho:∀a o,H a=some o->O' a->O a)(hh:∀a o,¬O a->H a=some o->H' a=some o):∀{vs ds},RepsT K hd O H vs ds->RepsT K hd O' H' vs ds
 | _,_,.nil=>.nil
 | _,_,.cons h h2 r=>.cons (Rep.mono ho hh h) (Rep.mono ho hh h2) (RepsT.mono ho hh r)
end
theorem dict_noK{ks:List (Key×PyData)}{v:PyData}{r:List (PyData×PyData)}(e:(PyData.none,v)::r=zq8 ks):False:=by
 cases ks with
 | nil=>cases e
 | cons q ks=>obtain⟨k,d⟩:=q;cases k <;> cases e
theorem dict_noT{ks:KT2}{v:PyData}{r:List (PyData×PyData)}(e:(PyData.none,v)::r=YV ks):False:=by
 cases ks with
 | nil=>cases e
 | cons q ks=>cases e
theorem Reps.length:∀{vs ds},Reps K hd O H vs ds->vs.length=ds.length
 | _,_,.nil=>rfl
 | _,_,.cons _ r=>by simp[Reps.length r]
theorem Reps.get:∀{vs ds}{i:Nat}{d},Reps K hd O H vs ds->ds[i]?=some d->∃v,vs[i]?=some v/\Rep K hd O H v d
 | _,_,_,_,.nil,e=>by simp at e
 | _,_,0,_,.cons h _,e=>by simp at e;subst e;exact⟨_,rfl,h⟩
 | _,_,i+1,_,.cons _ r,e=>by
  obtain⟨v,h1,h2⟩:=Reps.get (i:=i) r (by simpa using e)
  exact⟨v,by simpa using h1,h2⟩
theorem Reps.append:∀{vs ws ds es},Reps K hd O H vs ds->Reps K hd O H ws es->Reps K hd O H (vs++ws) (ds++es)
 | _,_,_,_,.nil,s=>s
 | _,_,_,_,.cons h r,s=>.cons h (Reps.append r s)
theorem Reps.take:∀{vs ds} (n:Nat),Reps K hd O H vs ds->Reps K hd O H (vs.take n) (ds.take n)
 | _,_,0,_=>.nil
 | _,_,_+1,.nil=>.nil
 | _,_,n+1,.cons h r=>.cons h (Reps.take n r)
theorem Reps.drop:∀{vs ds} (n:Nat),Reps K hd O H vs ds->Reps K hd O H (vs.drop n) (ds.drop n)
 | _,_,0,r=>r
 | _,_,_+1,.nil=>.nil
 | _,_,n+1,.cons _ r=>Reps.drop n r
theorem Reps.set{v d}(h:Rep K hd O H v d):∀{vs ds} (n:Nat),Reps K hd O H vs ds->Reps K hd O H (vs.set n v) (ds.set n d)
 | _,_,_,.nil=>.nil
 | _,_,0,.cons _ r=>.cons h r
 | _,_,n+1,.cons q r=>.cons q (Reps.set h n r)
theorem Rep.tupI{v:V}{ds:qD}(h:Rep K hd O H v (.tuple ds)):∃a vs,v=.ref a/\SqT K H a vs/\Reps K hd O H vs ds:=by
 cases h with
 | tup h o r=>exact⟨_,_,rfl,.inl (.inl h),r⟩
 | tupS h r=>exact⟨_,_,rfl,h.sq,r⟩
theorem Rep.lstI{v:V}{ds:qD}(h:Rep K hd O H v (.list ds)):∃a vs,v=.ref a/\H a=some (.lst vs)/\¬O a/\Reps K hd O H vs ds:=by
 cases h with
 | lst h o r=>exact⟨_,_,rfl,h,o,r⟩
theorem Rep.intI{v:V}{i:Int}(h:Rep K hd O H v (.int i)):v=.int i:=by cases h;rfl
theorem Rep.blI{v:V}{b:Bool}(h:Rep K hd O H v (.bool b)):v=.bl b:=by cases h;rfl
theorem Rep.strI{v:V}{x:Str}(h:Rep K hd O H v (.str x)):v=.str x:=by cases h;rfl
theorem Rep.nonI{v:V}(h:Rep K hd O H v .none):v=.non:=by cases h;rfl
theorem Rep.handI{v:V}(h:Rep K hd O H v HAND):∃a,v=.ref a/\hd=some a:=by
 generalize e:HAND=d at h;cases h with
 | hand h=>exact⟨_,rfl,h⟩
 | dct _ _=>cases e
 | dcK _ _ _ e'=>cases e;exact(dict_noK e').elim
 | dcT _ _ _ e'=>cases e;exact(dict_noT e').elim
 | scr _ _=>simp[HAND,SCR]at e
 | scrS _=>simp[HAND,SCR]at e
 | _=>cases e
theorem Rep.scrI{v:V}{ns:List Int}(h:Rep K hd O H v (SCR ns)):∃a,v=.ref a/\SqL K H a (ns.map V.int):=by
 generalize e:SCR ns=d at h;cases h with
 | hand h=>simp[HAND,SCR]at e
 | dct _ _=>cases e
 | dcK _ _ _ e'=>cases e;exact(dict_noK e').elim
 | dcT _ _ _ e'=>cases e;exact(dict_noT e').elim
 | @scr a ms h o =>
  have:ns=ms:=by
   have e':(ns.map PyData.int)=ms.map PyData.int:=by simpa[SCR] using e
   have:=congrArg (List.map fun x=>match x with|PyData.int i=>i|_=>0) e'
   simpa[List.map_map,Function.comp_def] using this
  subst this;exact⟨_,rfl,.inl h⟩
 | @scrS a ms h =>
  have:ns=ms:=by
   have e':(ns.map PyData.int)=ms.map PyData.int:=by simpa[SCR] using e
   have:=congrArg (List.map fun x=>match x with|PyData.int i=>i|_=>0) e'
   simpa[List.map_map,Function.comp_def] using this
  subst this;exact⟨_,rfl,h H⟩
 | _=>cases e
end
mutual
def Qa:PyData->Bool
 | .list _=>false
 | .tuple ts=>ZP ts
 | .dict [(.none,.none)]=>true
 | .dict _=>false
 | _=>true
def ZP:List PyData->Bool
 | []=>true
 | t::ts=>Qa t&&ZP ts
end
section
variable{K:qF}{hd:Option Addr}{O O':Addr->Prop}{H:Hp}
theorem zqC{ks:List (Key×PyData)}(e:Qa (.dict (zq8 ks))=true):False:=by
 unfold Qa at e;split at e
 ·rename_i h;cases h
 ·rename_i h;cases h
 ·rename_i h;exact dict_noK (PyData.dict.inj h).symm
 ·cases e
 ·rename_i h;exact h _ rfl
theorem zqB{ks:KT2}(e:Qa (.dict (YV ks))=true):False:=by
 unfold Qa at e;split at e
 ·rename_i h;cases h
 ·rename_i h;cases h
 ·rename_i h;exact dict_noT (PyData.dict.inj h).symm
 ·cases e
 ·rename_i h;exact h _ rfl
def MutO(o:Option HO):Prop:=(∃xs,o=some (.lst xs))\/(∃ks,o=some (.dK ks))\/∃a zs ep,o=some (ZDO a zs ep)
mutual
theorem Rep.up(ho:∀a,O a->MutO (H a)):∀{v d},Rep K hd O' H v d->Qa d=true->Rep K hd O H v d
 | _,_,.non,_=>.non
 | _,_,.bl b,_=>.bl b
 | _,_,.int i,_=>.int i
 | _,_,.str x,_=>.str x
 | _,_,.tup h _ r,e=>.tup h (fun z=>by rcases ho _ z with⟨xs,q⟩|⟨xs,q⟩|⟨xs,zs,ep,q⟩ <;> (rw[h]at q;cases q)) (Reps.up ho r (by simpa[Qa] using e))
 | _,_,.tupS h r,e=>.tupS h (Reps.up ho r (by simpa[Qa] using e))
 | _,_,.lst _ _ _,e=>by simp[Qa]at e
 | _,_,.dct h _,e=>by simp[Qa]at e
 | _,_,.dcK _ _ _ e',e=>by subst e';exact(zqC e).elim
 | _,_,.dcT _ _ _ e',e=>by subst e';exact(zqB e).elim
 | _,_,.hand h,_=>.hand h
 | _,_,.scr _ _,e=>by simp[SCR,Qa]at e
 | _,_,.scrS _,e=>by simp[SCR,Qa]at e
theorem Reps.up(ho:∀a,O a->MutO (H a)):∀{vs ds},Reps K hd O' H vs ds->ZP ds=true->Reps K hd O H vs ds
 | _,_,.nil,_=>.nil
 | _,_,.cons h r,e=>by
  simp only[ZP,Bool.and_eq_true]at e;exact .cons (Rep.up ho h e.1) (Reps.up ho r e.2)
end
end
section
variable{X:Cx}{pins:qO}{σ:St}{H:Hp}{s:Shared}{hd:Option Addr}{O:Addr->Prop}
mutual
theorem Rep.reads(I:Inv X pins σ H s):∀{v:V}{d:PyData}{u:Value},Rep X.K hd O H v d->RelV v u->d.hasDict=false->∃as,Reads s.heap u d as
 | _,_,_,.non,r,_=>by cases r;exact⟨_,.none⟩
 | _,_,_,.bl b,r,_=>by cases r;exact⟨_,.bool b⟩
 | _,_,_,.int i,r,_=>by obtain⟨t,rfl⟩:=r;exact⟨_,.int i t⟩
 | _,_,_,.str x,r,_=>by obtain⟨t,rfl⟩:=r;exact⟨_,.str x t⟩
 | _,_,_,.tup (a:=a) (vs:=vs) h _ q,r,e=>by
  cases r;obtain⟨its,rv,p,_⟩:=I.tuple (xs:=vs) (.inl (.inl h));obtain⟨o,ho,hc,n,hdat⟩:=p;obtain⟨as,ra⟩:=Reps.reads I q rv (by simpa[PyData.hasDict] using e)
  exact⟨_,.tuple ho hc hdat (by simpa using ra)⟩
 | _,_,_,.tupS (a:=a) (vs:=vs) h q,r,e=>by
  cases r;obtain⟨its,rv,p,_⟩:=I.tuple (xs:=vs) h.sq;obtain⟨o,ho,hc,n,hdat⟩:=p;obtain⟨as,ra⟩:=Reps.reads I q rv (by simpa[PyData.hasDict] using e)
  exact⟨_,.tuple ho hc hdat (by simpa using ra)⟩
 | _,_,_,.lst (a:=a) (vs:=vs) h _ q,r,e=>by
  cases r;obtain⟨its,rv,p,_⟩:=I.list (xs:=vs) (.inl (.inl h));obtain⟨o,n,ho,hc,_,hdat⟩:=p;obtain⟨as,ra⟩:=Reps.reads I q rv (by simpa[PyData.hasDict] using e)
  exact⟨_,.list ho hc hdat (by simpa using ra)⟩
 | _,_,_,.dct _ _,_,e=>by simp[PyData.hasDict]at e
 | _,_,_,.dcK _ _ _ _,_,e=>by simp[PyData.hasDict]at e
 | _,_,_,.dcT _ _ _ _,_,e=>by simp[PyData.hasDict]at e
 | _,_,_,.hand _,_,e=>by simp[HAND,PyData.hasDict]at e
 | _,_,_,.scr _ _,_,e=>by simp[SCR,PyData.hasDict]at e
 | _,_,_,.scrS _,_,e=>by simp[SCR,PyData.hasDict]at e
theorem Reps.reads(I:Inv X pins σ H s):∀{vs:List V}{ds:qD}{us:List Value},Reps X.K hd O H vs ds->Vals vs us->PyData.hasDictAll ds=false->∃as,ReadsAll s.heap us ds as
 | _,_,_,.nil,r,_=>by cases r;exact⟨_,.nil⟩
 | _,_,_,.cons h q,r,e=>by
  cases r with
  | cons r1 r2 =>
   have e':=e;simp only[PyData.hasDictAll,Bool.or_eq_false_iff]at e';obtain⟨as,ra⟩:=Rep.reads I h r1 e'.1;obtain⟨bs,rb⟩:=Reps.reads I q r2 e'.2;exact⟨_,.cons ra rb⟩
end
end
inductive Cell where
 | val (d:PyData)
 | own (ds:qD)
 | dct (ks:List (Key×PyData))
 | rdo (ks:List (Key×PyData))
 | dtt (ks:KT2)
def Cell.mine:Cell->Bool
 | .val _=>false
 | .own _=>true
 | .dct _=>true
 | .rdo _=>false
 | .dtt _=>true
def U6(K:qF)(hd:Option Addr)(O:Addr->Prop)(H:Hp)(kvs:List (Key×V))(ks:List (Key×PyData)):Prop:=Paired (fun(p:Key×V) (q:Key×PyData)=>p.1=q.1/\Rep K hd O H p.2 q.2) kvs ks
theorem U6.mono{K:qF}{hd:Option Addr}{O O':Addr->Prop}{H H':Hp}(ho:∀a o,H a=some o->O' a->O a)(hh:∀a o,¬O a->H a=some o->H' a=some o){kvs:List (Key×V)}{ks:List (Key×PyData)}(r:U6 K hd O H kvs ks):U6 K hd O' H' kvs ks :=
 Paired.mapP r fun _ _ z=>⟨z.1,z.2.mono ho hh⟩
abbrev En:=List (Option Cell)
structure Ctx where
 hd:Option Addr
 ext:Addr->Prop
def OwnS(ρ:En)(σ:St)(a:Addr):Prop:=∃(i:Nat) (c:Cell),c.mine=true/\ρ[i]?=some (some c)/\σ[i]?=some (some (V.ref a))
def Own(C:Ctx)(ρ:En)(σ:St)(a:Addr):Prop:=C.ext a\/OwnS ρ σ a
def Hn(hd:Option Addr)(H:Hp)(n:Nat):Prop:=∀a,hd=some a->Vy H a n
structure Stt(K:qF)(C:Ctx)(ρ:En)(σ:St)(H:Hp)(n:Nat):Prop where
 len:ρ.length=σ.length
 val:∀(i:Nat) (d:PyData),ρ[i]?=some (some (Cell.val d))->∃v,σ[i]?=some (some v)/\Rep K C.hd (Own C ρ σ) H v d
 own:∀(i:Nat) (ds:qD),ρ[i]?=some (some (Cell.own ds))->∃a vs,σ[i]?=some (some (V.ref a))/\H a=some (.lst vs)/\Reps K C.hd (Own C ρ σ) H vs ds/\¬C.ext a
 dct:∀(i:Nat) (ks:List (Key×PyData)),ρ[i]?=some (some (Cell.dct ks))->∃a kvs,σ[i]?=some (some (V.ref a))/\H a=some (.dK kvs)/\U6 K C.hd (Own C ρ σ) H kvs ks/\¬C.ext a
 rdo:∀(i:Nat) (ks:List (Key×PyData)),ρ[i]?=some (some (Cell.rdo ks))->∃a kvs,σ[i]?=some (some (V.ref a))/\H a=some (.dK kvs)/\U6 K C.hd (Own C ρ σ) H kvs ks/\C.ext a/\C.hd≠some a
 dtt:∀(i:Nat) (ks:KT2),ρ[i]?=some (some (Cell.dtt ks))->∃a zs ep,σ[i]?=some (some (V.ref a))/\H a=some (ZDO a zs ep)/\RepsT K C.hd (Own C ρ σ) H zs ks/\¬C.ext a
 dif:∀(i j:Nat) (c e:Cell) (a:Addr),c.mine=true->e.mine=true->ρ[i]?=some (some c)->ρ[j]?=some (some e)->σ[i]?=some (some (V.ref a))->σ[j]?=some (some (V.ref a))->i=j
 hnd:Hn C.hd H n
 ext:∀a,C.ext a->MutO (H a)
 hx:∀a,C.hd=some a->C.ext a
def ExtE(hd:Option Addr)(H H':Hp):Prop:=∀a o,H a=some o->hd≠some a->H' a=some o
theorem ExtE.refl{hd:Option Addr}{H:Hp}:ExtE hd H H:=fun _ _ h _=>h
theorem ExtE.trans{hd:Option Addr}{H H1 H2:Hp}(a:ExtE hd H H1)(b:ExtE hd H1 H2):ExtE hd H H2:=fun c o h n=>b c o (a c o h n) n
theorem ExtE.new{hd:Option Addr}{H:Hp}{p:Addr}{o:HO}(h:H p=none):ExtE hd H (upd H p o):=fun b u e _=>by
 rw[Jw (QX e h)];exact e
section
variable{K:qF}{C:Ctx}{ρ:En}{σ:St}{H H':Hp}{n n':Nat}
theorem MutO.ne{o:Option HO}(h:MutO o):o≠none:=by
 rcases h with⟨_,rfl⟩|⟨_,rfl⟩|⟨_,_,_,rfl⟩ <;> exact fun z=>by cases z
theorem Stt.at(S:Stt K C ρ σ H n){i:Nat}{c:Cell}(m:c.mine=true)(h1:ρ[i]?=some (some c)):∃a:Addr,σ[i]?=some (some (V.ref a))/\MutO (H a)/\¬C.ext a:=by
 cases c with
 | val d=>cases m
 | own ds =>
  obtain⟨a,vs,e1,e2,_,e4⟩:=S.own i ds h1;exact⟨a,e1,.inl ⟨_,e2⟩,e4⟩
 | dct ks =>
  obtain⟨a,vs,e1,e2,_,e4⟩:=S.dct i ks h1;exact⟨a,e1,.inr (.inl ⟨_,e2⟩),e4⟩
 | rdo ks=>cases m
 | dtt ks =>
  obtain⟨a,vs,ep,e1,e2,_,e4⟩:=S.dtt i ks h1;exact⟨a,e1,.inr (.inr ⟨_,_,_,e2⟩),e4⟩
theorem Stt.lst(S:Stt K C ρ σ H n){a:Addr}(h:Own C ρ σ a):MutO (H a):=by
 rcases h with h|⟨i,c,m,h1,h2⟩
 ·exact S.ext a h
 ·obtain⟨b,e1,e2,_⟩:=S.at m h1;rw[h2]at e1;cases e1;exact e2
theorem Stt.dom(S:Stt K C ρ σ H n){a:Addr}(h:Own C ρ σ a):H a≠none:=(S.lst h).ne
theorem Stt.free(S:Stt K C ρ σ H n){a:Addr}(h:H a=none):¬Own C ρ σ a:=fun z=>S.dom z h
theorem ExtE.rep(e:ExtE C.hd H H')(hx:∀a,C.hd=some a->C.ext a){v d}(r:Rep K C.hd (Own C ρ σ) H v d):Rep K C.hd (Own C ρ σ) H' v d :=
 r.mono (fun _ _ _ z=>z) fun a o no h=>e a o h fun z=>no (.inl (hx a z))
theorem ExtE.reps(e:ExtE C.hd H H')(hx:∀a,C.hd=some a->C.ext a){v d}(r:Reps K C.hd (Own C ρ σ) H v d):Reps K C.hd (Own C ρ σ) H' v d :=
 r.mono (fun _ _ _ z=>z) fun a o no h=>e a o h fun z=>no (.inl (hx a z))
theorem Stt.on(S:Stt K C ρ σ H n)(e:ExtE C.hd H H')(h:Hn C.hd H' n'):Stt K C ρ σ H' n' where
 len:=S.len
 val:=fun i d hi=>by
  obtain⟨v,h1,h2⟩:=S.val i d hi;exact⟨v,h1,e.rep S.hx h2⟩
 own:=fun i ds hi=>by
  obtain⟨a,vs,h1,h2,h3,h4⟩:=S.own i ds hi;exact⟨a,vs,h1,e a _ h2 fun z=>h4 (S.hx a z),e.reps S.hx h3,h4⟩
 dct:=fun i ks hi=>by
  obtain⟨a,vs,h1,h2,h3,h4⟩:=S.dct i ks hi;exact⟨a,vs,h1,e a _ h2 fun z=>h4 (S.hx a z),Paired.mapP h3 fun _ _ z=>⟨z.1,e.rep S.hx z.2⟩,h4⟩
 rdo:=fun i ks hi=>by
  obtain⟨a,vs,h1,h2,h3,h4,h5⟩:=S.rdo i ks hi;exact⟨a,vs,h1,e a _ h2 h5,Paired.mapP h3 fun _ _ z=>⟨z.1,e.rep S.hx z.2⟩,h4,h5⟩
 dtt:=fun i ks hi=>by
  obtain⟨a,vs,ep,h1,h2,h3,h4⟩:=S.dtt i ks hi;exact⟨a,vs,ep,h1,e a _ h2 fun z=>h4 (S.hx a z),h3.mono (fun _ _ _ z=>z) (fun a o no h=>e a o h fun z=>no (.inl (S.hx a z))),h4⟩
 dif:=S.dif
 hnd:=h
 ext:=fun a ha=>by
  by_cases z:C.hd=some a
  ·obtain⟨d,m,t,q,_⟩:=h a z;exact .inl ⟨_,q⟩
  ·rcases S.ext a ha with⟨xs,q⟩|⟨xs,q⟩|⟨b,xs,ep,q⟩
   ·exact .inl ⟨xs,e a _ q z⟩
   ·exact .inr (.inl ⟨xs,e a _ q z⟩)
   ·exact .inr (.inr ⟨b,xs,ep,e a _ q z⟩)
 hx:=S.hx
end
abbrev DTE:=En->Nat->(PyData->Nat->Prop)->Prop
abbrev DTT:=En->Nat->(Bool->Nat->Prop)->Prop
abbrev DTA:=En->Nat->(List PyData->Nat->Prop)->Prop
def DE(X:Cx)(e:Expr)(d:DTE):Prop:=∃te,PE X e te/\∀(C:Ctx) (ρ:En) (σ:St) (H:Hp) (n:Nat) (Q:VK) (R:qN),Stt X.K C ρ σ H n->d ρ n R ->
 (∀t n' v H',R t n'->ExtE C.hd H H'->Hn C.hd H' n'->Rep X.K C.hd (Own C ρ σ) H' v t->Q v H')->te σ H Q
def RepT(K:qF)(hd:Option Addr)(O:Addr->Prop)(H:Hp)(v:V)(t:PyData):Prop :=
 Rep K hd O H v t\/(∃a vs ds,v=.ref a/\t=.list ds/\H a=some (.lst vs)/\Reps K hd O H vs ds/\hd≠some a)\/∃a zs ep ks,v=.ref a/\t=.dict (YV ks)/\H a=some (ZDO a zs ep)/\RepsT K hd O H zs ks/\hd≠some a
def DL(X:Cx)(e:Expr)(d:DTE):Prop:=∃te,PE X e te/\∀(C:Ctx) (ρ:En) (σ:St) (H:Hp) (n:Nat) (Q:VK) (R:qN),Stt X.K C ρ σ H n->d ρ n R ->
 (∀t n' v H',R t n'->ExtE C.hd H H'->Hn C.hd H' n'->RepT X.K C.hd (Own C ρ σ) H' v t->Q v H')->te σ H Q
def DN(X:Cx)(e:Expr)(d:DTA):Prop:=∃te,PE X e te/\∀(C:Ctx) (ρ:En) (σ:St) (H:Hp) (n:Nat) (Q:VK) (R:List PyData->Nat->Prop),Stt X.K C ρ σ H n->d ρ n R ->
 (∀ts n' p vs H',R ts n'->ExtE C.hd H H'->Hn C.hd H' n'->H p=none->H' p=some (.lst vs)->Reps X.K C.hd (fun a=>Own C ρ σ a\/a=p) H' vs ts->Q (.ref p) H')->te σ H Q
def DT(X:Cx)(e:Expr)(d:DTT):Prop:=∃te,PT X e te/\∀(C:Ctx) (ρ:En) (σ:St) (H:Hp) (n:Nat) (Q:Bool->Hp->Prop) (R:Bool->Nat->Prop),Stt X.K C ρ σ H n->d ρ n R ->
 (∀b n' H',R b n'->ExtE C.hd H H'->Hn C.hd H' n'->Q b H')->te σ H Q
def DW(X:Cx)(e:Expr)(d:DTT):Prop:=∃te,PW X e te/\∀(C:Ctx) (ρ:En) (σ:St) (H:Hp) (n:Nat) (Q:Bool->Hp->Prop) (R:Bool->Nat->Prop),Stt X.K C ρ σ H n->d ρ n R ->
 (∀b n' H',R b n'->ExtE C.hd H H'->Hn C.hd H' n'->Q b H')->te σ H Q
def DB(X:Cx)(es:List Expr)(d:DTA):Prop:=∃ta,PB X es ta/\∀(C:Ctx) (ρ:En) (σ:St) (H:Hp) (n:Nat) (Q:List V->Hp->Prop) (R:List PyData->Nat->Prop),Stt X.K C ρ σ H n->d ρ n R ->
 (∀ts n' vs H',R ts n'->ExtE C.hd H H'->Hn C.hd H' n'->Reps X.K C.hd (Own C ρ σ) H' vs ts->ts.length=es.length->Q vs H')->ta σ H Q
section
variable{X:Cx}{e a b c:Expr}{es:List Expr}{d da db dc:DTE}{pos:Pos}
theorem dl(h:DE X e d):DL X e d:=by
 obtain⟨te,p,h⟩:=h;exact⟨te,p,fun C ρ σ H n Q R S hd hq=>h C ρ σ H n Q R S hd fun t n' v H' r e h1 h2=>hq t n' v H' r e h1 (.inl h2)⟩
def dNew(d:DTA):DTE:=fun ρ n R=>d ρ n fun ts n'=>R (.list ts) n'
theorem Js{d:DTA}(h:DN X e d):DE X e (dNew d):=by
 obtain⟨te,p,h⟩:=h;refine⟨te,p,fun C ρ σ H n Q R S hd hq=>h C ρ σ H n Q _ S hd fun ts n' p vs H' r e h1 h2 h3 h4=>hq _ n' _ H' r e h1 (.lst h3 (S.free h2) (h4.mono (fun _ _ _ z=>.inl z) fun _ _ _ z=>z))⟩
def dVar(i:Nat):DTE:=fun ρ n R=>match ρ[i]? with|some (some (Cell.val d))=>R d n|_=>False
def dOwn(i:Nat):DTE:=fun ρ n R=>match ρ[i]? with|some (some (Cell.own d))=>R (.list d) n|_=>False
def dC(t:PyData):DTE:=fun _ n R=>R t n
theorem Ja(i:Nat){x:Str}{pos:Pos}(hN:X.N[i]?=some x:=by rfl)(hv:Vis X.env.scope x:=by walk_at "V")(hd:(x == ("__debug__":Str))=false:=by decide)
  (hcd:(x == ("__classdict__":Str))=false:=by decide):DE X (.Name x pos) (dVar i):=by
 refine⟨_,Q3 hN hv hd hcd,fun C ρ σ H n Q R S h hq=>?_⟩
 unfold dVar at h;split at h
 ·rename_i d e;obtain⟨v,h1,h2⟩:=S.val i d e;exact⟨v,h1,hq d n v H h ExtE.refl S.hnd h2⟩
 ·exact h.elim
theorem Yt(i:Nat){x:Str}{pos:Pos}(hN:X.N[i]?=some x:=by rfl)(hv:Vis X.env.scope x:=by walk_at "V")(hd:(x == ("__debug__":Str))=false:=by decide)
  (hcd:(x == ("__classdict__":Str))=false:=by decide):DL X (.Name x pos) (dOwn i):=by
 refine⟨_,Q3 hN hv hd hcd,fun C ρ σ H n Q R S h hq=>?_⟩
 unfold dOwn at h;split at h
 ·rename_i ds e;obtain⟨p,vs,h1,h2,h3,h4⟩:=S.own i ds e;exact⟨.ref p,h1,hq _ n _ H h ExtE.refl S.hnd (.inr (.inl ⟨p,vs,ds,rfl,rfl,h2,h3,fun z=>h4 (S.hx p z)⟩))⟩
 ·exact h.elim
theorem Jd{i j pos}:DE X (.Constant (.int i) j pos) (dC (.int i)):=⟨_,JK,fun _ _ _ H n _ _ S h hq=>hq _ n _ H h ExtE.refl S.hnd (.int i)⟩
theorem JR{b j pos}:DE X (.Constant (.bool b) j pos) (dC (.bool b)):=⟨_,zvt,fun _ _ _ H n _ _ S h hq=>hq _ n _ H h ExtE.refl S.hnd (.bl b)⟩
theorem QO{j pos}:DE X (.Constant .none j pos) (dC .none):=⟨_,zsj,fun _ _ _ H n _ _ S h hq=>hq _ n _ H h ExtE.refl S.hnd .non⟩
theorem Ui{x j pos}:DE X (.Constant (.str x) j pos) (dC (.str x)):=⟨_,zsg,fun _ _ _ H n _ _ S h hq=>hq _ n _ H h ExtE.refl S.hnd (.str x)⟩
end
section
variable{K:qF}{hd:Option Addr}{O:Addr->Prop}{H H':Hp}{v:V}{t:PyData}{n:Nat}
theorem Same.ext(h:Same H H'):ExtE hd H H':=fun a o e _=>h a o e
theorem Hn.same(h:Hn hd H n)(s:Same H H'):Hn hd H' n:=fun a e=>by
 obtain⟨d,m,t,q,r⟩:=h a e;exact⟨d,m,t,s _ _ q,r⟩
theorem Reps.same{vs ts}(s:Same H H')(r:Reps K hd O H vs ts):Reps K hd O H' vs ts:=r.mono (fun _ _ _ z=>z) fun a o _ h=>s a o h
theorem ExtE.repT{C:Ctx}{ρ:En}{σ:St}(e:ExtE C.hd H H')(hx:∀a,C.hd=some a->C.ext a)(r:RepT K C.hd (Own C ρ σ) H v t):RepT K C.hd (Own C ρ σ) H' v t:=by
 rcases r with r|⟨a,vs,ds,h1,h2,h3,h4,h5⟩|⟨a,zs,ep,ks,h1,h2,h3,h4,h5⟩
 ·exact .inl (e.rep hx r)
 ·exact .inr (.inl ⟨a,vs,ds,h1,h2,e _ _ h3 h5,e.reps hx h4,h5⟩)
 ·exact .inr (.inr ⟨a,zs,ep,ks,h1,h2,e _ _ h3 h5,h4.mono (fun _ _ _ z=>z) (fun a o no h=>e a o h fun z=>no (.inl (hx a z))),h5⟩)
theorem RepT.lstI{ds}(h:RepT K hd O H v (.list ds)):∃a vs,v=.ref a/\H a=some (.lst vs)/\Reps K hd O H vs ds:=by
 rcases h with h|⟨a,vs,es,h1,h2,h3,h4,_⟩|⟨a,vs,ep,es,h1,h2,h3,h4,_⟩
 ·obtain⟨a,vs,h1,h2,_,h3⟩:=h.lstI;exact⟨a,vs,h1,h2,h3⟩
 ·cases h2;exact⟨a,vs,h1,h3,h4⟩
 ·cases h2
theorem RepT.tupI{ds}(h:RepT K hd O H v (.tuple ds)):∃a vs,v=.ref a/\SqT K H a vs/\Reps K hd O H vs ds:=by
 rcases h with h|⟨a,vs,es,h1,h2,h3,h4,_⟩|⟨a,vs,ep,es,h1,h2,h3,h4,_⟩
 ·exact h.tupI
 ·cases h2
 ·cases h2
theorem RepT.rep(h:RepT K hd O H v t)(nl:∀ds,t≠.list ds)(nd:∀ks,t≠.dict (YV ks):=by intro ks z;first|cases z|exact dict_noT (PyData.dict.inj z)):Rep K hd O H v t:=by
 rcases h with h|⟨a,vs,es,h1,h2,h3,h4,_⟩|⟨a,vs,ep,es,h1,h2,h3,h4,_⟩
 ·exact h
 ·exact absurd h2 (nl es)
 ·exact absurd h2 (nd es)
theorem RepT.intI{i}(h:RepT K hd O H v (.int i)):v=.int i:=(h.rep (by intro _ z;cases z)).intI
theorem RepT.blI{i}(h:RepT K hd O H v (.bool i)):v=.bl i:=(h.rep (by intro _ z;cases z)).blI
theorem RepT.strI{i}(h:RepT K hd O H v (.str i)):v=.str i:=(h.rep (by intro _ z;cases z)).strI
theorem RepT.nonI(h:RepT K hd O H v .none):v=.non:=(h.rep (by intro _ z;cases z)).nonI
theorem Rep.newT{p:Addr}{vs ts}(no:¬O p)(h:H p=none)(r:Reps K hd O H vs ts):Rep K hd O (upd H p (.tup vs)) (.ref p) (.tuple ts) :=
 .tup Qe no (r.same (fun b u e=>by rw[Jw (QX e h)];exact e))
end
theorem Qr{H:Hp}{p:Addr}{o:HO}(h:H p=none):Same H (upd H p o):=fun b u e=>by
 rw[Jw (QX e h)];exact e
abbrev G2:=PyData->PyData->(PyData->Prop)->Prop
def dOp(g:G2)(da db:DTE):DTE:=fun ρ n R=>da ρ n fun x n1=>db ρ n1 fun y n2=>g x y fun z=>R z n2
def Gp2(X:Cx)(r:R2)(g:G2):Prop:=∀(hd:Option Addr) (O:Addr->Prop) (H:Hp) (x y:V) (t u:PyData) (Q:VK) (R:PyData->Prop),(∀p,O p->H p≠none)->RepT X.K hd O H x t->RepT X.K hd O H y u->g t u R ->
 (∀z v H',R z->Same H H'->Rep X.K hd O H' v z->Q v H')->r x y H Q
section
variable{X:Cx}{a b c:Expr}{da db dc:DTE}{pos:Pos}{r r':R2}{g g':G2}
theorem two{C:Ctx}{ρ:En}{σ:St}{H:Hp}{n:Nat}{ta tb:TE}(ha:∀(C:Ctx) (ρ:En) (σ:St) (H:Hp) (n:Nat) (Q:VK) (R:qN),Stt X.K C ρ σ H n->da ρ n R ->
  (∀t n' v H',R t n'->ExtE C.hd H H'->Hn C.hd H' n'->RepT X.K C.hd (Own C ρ σ) H' v t->Q v H')->ta σ H Q)
  (hb:∀(C:Ctx) (ρ:En) (σ:St) (H:Hp) (n:Nat) (Q:VK) (R:qN),Stt X.K C ρ σ H n->db ρ n R ->
  (∀t n' v H',R t n'->ExtE C.hd H H'->Hn C.hd H' n'->RepT X.K C.hd (Own C ρ σ) H' v t->Q v H')->tb σ H Q)
  {Q2:V->V->Hp->Prop} {R2:PyData->PyData->Nat->Prop} (S:Stt X.K C ρ σ H n) (h:da ρ n fun x n1=>db ρ n1 fun y n2=>R2 x y n2)
  (hq:∀x y n2 v w H2,R2 x y n2->ExtE C.hd H H2->Stt X.K C ρ σ H2 n2->RepT X.K C.hd (Own C ρ σ) H2 v x->RepT X.K C.hd (Own C ρ σ) H2 w y->Q2 v w H2) :
  ta σ H fun v H1=>tb σ H1 fun w H2=>Q2 v w H2:=by
 refine ha C ρ σ H n _ _ S h fun t n1 v H1 r1 e1 h1 q1=>?_
 have S1:=S.on e1 h1;refine hb C ρ σ H1 n1 _ _ S1 r1 fun u n2 w H2 r2 e2 h2 q2=>?_
 exact hq t u n2 v w H2 r2 (e1.trans e2) (S1.on e2 h2) (e2.repT S.hx q1) q2
theorem QY{op:Operator}(ho:OpR X (binaryOp op) r)(hg:Gp2 X r g)(ha:DL X a da)(hb:DL X b db):DE X (.BinOp a op b pos) (dOp g da db):=by
 obtain⟨ta,pa,ha⟩:=ha;obtain⟨tb,pb,hb⟩:=hb;refine⟨_,JG ho pa pb,fun C ρ σ H n Q R S h hq=>?_⟩
 refine two ha hb S h fun x y n2 v w H2 r2 e S2 q1 q2=>?_
 exact hg C.hd (Own C ρ σ) H2 v w x y Q _ (fun p=>S2.dom) q1 q2 r2 fun z u H' rz sm rp=>hq z n2 u H' rz (e.trans sm.ext) (S2.hnd.same sm) rp
theorem JZ{op:CmpOp}(ho:OpR X (compareOp op) r)(hg:Gp2 X r g)(ha:DL X a da)(hb:DL X b db)(hm:behindInMarks op b=false):DE X (.Compare a [op] [b] pos) (dOp g da db):=by
 obtain⟨ta,pa,ha⟩:=ha;obtain⟨tb,pb,hb⟩:=hb;refine⟨_,zmu ho pa pb hm,fun C ρ σ H n Q R S h hq=>?_⟩
 refine two ha hb S h fun x y n2 v w H2 r2 e S2 q1 q2=>?_
 exact hg C.hd (Own C ρ σ) H2 v w x y Q _ (fun p=>S2.dom) q1 q2 r2 fun z u H' rz sm rp=>hq z n2 u H' rz (e.trans sm.ext) (S2.hnd.same sm) rp
def U3(d:DTE):DTT:=fun ρ n R=>d ρ n fun t n'=>match t with|.bool k=>R k n'|_=>False
theorem Jt{op:CmpOp}(ho:OpR X (compareOp op) r)(hg:Gp2 X r g)(ha:DL X a da)(hb:DL X b db)(hm:behindInMarks op b=false):DT X (.Compare a [op] [b] pos) (U3 (dOp g da db)):=by
 obtain⟨ta,pa,ha⟩:=ha;obtain⟨tb,pb,hb⟩:=hb;refine⟨_,ziX ho pa pb hm,fun C ρ σ H n Q R S h hq=>?_⟩
 refine two ha hb S h fun x y n2 v w H2 r2 e S2 q1 q2=>?_
 refine hg C.hd (Own C ρ σ) H2 v w x y _ _ (fun p=>S2.dom) q1 q2 r2 fun z u H' rz sm rp=>?_
 cases z with
 | bool k =>
  cases rp;exact⟨k,rfl,hq k n2 H' rz (e.trans sm.ext) (S2.hnd.same sm)⟩
 | _=>exact rz.elim
def Y2(g g':G2)(da db dc:DTE):DTE:=fun ρ n R=>da ρ n fun x n1=>db ρ n1 fun y n2=>g x y fun z=>match z with
 | .bool true=>dc ρ n2 fun w n3=>g' y w fun z=>R z n3
 | .bool false=>R (.bool false) n2
 | _=>False
def gI(C:Int->Int->Prop)(f:Int->Int->Int):G2
 | .int i,.int j,R=>C i j/\R (.int (f i j))
 | _,_,_=>False
def gB(f:Int->Int->Bool):G2
 | .int i,.int j,R=>R (.bool (f i j))
 | _,_,_=>False
theorem gp_I{C:Int->Int->Prop}{f:Int->Int->Int}:Gp2 X (rI C fun i j=>.int (f i j)) (gI C f):=by
 intro hd O H x y t u Q R dom rx ry h hq;unfold gI at h;split at h
 ·rename_i i j;exact⟨i,j,rx.intI,ry.intI,h.1,hq _ _ H h.2 (Same.refl H) (.int _)⟩
 ·exact h.elim
def gI0(f:Int->Int->Int):G2
 | .int i,.int j,R=>R (.int (f i j))
 | _,_,_=>False
theorem zq3{f:Int->Int->Int}:Gp2 X (rI0 fun i j=>.int (f i j)) (gI0 f):=by
 intro hd O H x y t u Q R dom rx ry h hq;unfold gI0 at h;split at h
 ·rename_i i j;exact⟨i,j,rx.intI,ry.intI,hq _ _ H h (Same.refl H) (.int _)⟩
 ·exact h.elim
theorem gp_B{f:Int->Int->Bool}:Gp2 X (rI0 fun i j=>.bl (f i j)) (gB f):=by
 intro hd O H x y t u Q R dom rx ry h hq;unfold gB at h;split at h
 ·rename_i i j;exact⟨i,j,rx.intI,ry.intI,hq _ _ H h (Same.refl H) (.bl _)⟩
 ·exact h.elim
end
section
variable{X:Cx}{a b c:Expr}{da db dc:DTE}{pos:Pos}
def oSub:=gI0 fun i j=>i - j
def oMod:=gI (fun _ j=>0<j) fun i j=>i % j
def Ug:=gI ZF fun i j=>i / j
def oShl:=gI CPow fun i j=>i*2 ^ j.toNat
def oShr:=gI (fun _ j=>0<=j) fun i j=>i / 2 ^ j.toNat
def oXor:=gI0 Builtin.bitXor
def oAnd:=gI0 Builtin.bitAnd
theorem Uj(ha:DL X a da)(hb:DL X b db):DE X (.BinOp a .Sub b pos) (dOp oSub da db):=QY zsq zq3 ha hb
theorem znx(ha:DL X a da)(hb:DL X b db):DE X (.BinOp a .Mod b pos) (dOp oMod da db):=QY Yr gp_I ha hb
theorem zny(ha:DL X a da)(hb:DL X b db):DE X (.BinOp a .FloorDiv b pos) (dOp Ug da db):=QY V3 gp_I ha hb
theorem J1(ha:DL X a da)(hb:DL X b db):DE X (.BinOp a .LShift b pos) (dOp oShl da db):=QY zss gp_I ha hb
theorem ztS(ha:DL X a da)(hb:DL X b db):DE X (.BinOp a .RShift b pos) (dOp oShr da db):=QY zsr gp_I ha hb
theorem zpR(ha:DL X a da)(hb:DL X b db):DE X (.BinOp a .BitXor b pos) (dOp oXor da db):=QY zsp zq3 ha hb
theorem ztW(ha:DL X a da)(hb:DL X b db):DE X (.BinOp a .BitAnd b pos) (dOp oAnd da db):=QY zsC zq3 ha hb
end
section
variable{X:Cx}{pins:qO}{σ:St}{H:Hp}{s:Shared}{hd:Option Addr}{O:Addr->Prop}
theorem RepT.reads(I:Inv X pins σ H s){v:V}{d:PyData}{u:Value}(h:RepT X.K hd O H v d)(r:RelV v u)(e:d.hasDict=false):∃as,Reads s.heap u d as:=by
 rcases h with h|⟨a,vs,ds,rfl,rfl,h3,h4,_⟩|⟨a,zs,ep,ks,rfl,rfl,h3,h4,_⟩
 rotate_left 2
 ·simp[PyData.hasDict]at e
 ·exact h.reads I r e
 ·cases r;obtain⟨its,rv,p,_⟩:=I.list (xs:=vs) (.inl (.inl h3));obtain⟨o,n,ho,hc,_,hdat⟩:=p;obtain⟨as,ra⟩:=Reps.reads I h4 rv (by simpa[PyData.hasDict] using e)
  exact⟨_,.list ho hc hdat (by simpa using ra)⟩
end
def Okd(t:PyData):Prop:=t.canLay0=true/\t.depth<=60
section
variable{X:Cx}{a b c:Expr}{da db dc:DTE}{pos:Pos}{k:Nat}
def rEqD(K:qF)(neg:Bool):R2:=fun x y H Q=>∃hd O t u,RepT K hd O H x t/\RepT K hd O H y u/\Okd t/\Okd u/\Q (.bl (if neg then !t.eqv u else t.eqv u)) H
theorem zsA(hr:Room k X.A):OpR X (compareOp .Eq) (rEqD X.K false):=by
 intro pins s σ H x y v u Q I rx ry h;obtain⟨hd,O,t,w,h1,h2,h3,h4,q⟩:=h;obtain⟨as,ra⟩:=h1.reads I rx (PyData.hasDict_of_canLay _ h3.1);obtain⟨bs,rb⟩:=h2.reads I ry (PyData.hasDict_of_canLay _ h4.1);refine SeqAt.compareEq_reads ra rb h3.1 h4.1 ?_ ⟨.bl _,H,I,rfl,q⟩;have:=hr.un;have:=h3.2;omega
theorem zsu(hr:Room k X.A):OpR X (compareOp .NotEq) (rEqD X.K true):=by
 intro pins s σ H x y v u Q I rx ry h;obtain⟨hd,O,t,w,h1,h2,h3,h4,q⟩:=h;obtain⟨as,ra⟩:=h1.reads I rx (PyData.hasDict_of_canLay _ h3.1);obtain⟨bs,rb⟩:=h2.reads I ry (PyData.hasDict_of_canLay _ h4.1);refine SeqAt.compareNe_reads ra rb h3.1 h4.1 ?_ ⟨.bl _,H,I,rfl,q⟩;have:=hr.un;have:=h3.2;omega
def oEq:G2
 | .int i,.int j,R=>R (.bool (decide (i=j)))
 | .str i,.str j,R=>R (.bool (decide (i=j)))
 | .bool i,.bool j,R=>R (.bool (decide (i=j)))
 | t,u,R=>Okd t/\Okd u/\R (.bool (t.eqv u))
def oNe:G2
 | .int i,.int j,R=>R (.bool (!decide (i=j)))
 | .str i,.str j,R=>R (.bool (!decide (i=j)))
 | .bool i,.bool j,R=>R (.bool (!decide (i=j)))
 | t,u,R=>Okd t/\Okd u/\R (.bool (!t.eqv u))
def rEqA(K:qF):R2:=fun x y H Q=>rEq x y H Q\/rEqD K false x y H Q
def rNeA(K:qF):R2:=fun x y H Q=>rNe x y H Q\/rEqD K true x y H Q
theorem QC(hr:Room k X.A):OpR X (compareOp .Eq) (rEqA X.K):=OpR.or zvx (zsA hr)
theorem Ys(hr:Room k X.A):OpR X (compareOp .NotEq) (rNeA X.K):=OpR.or zvv (zsu hr)
theorem QA:Gp2 X (rEqA X.K) oEq:=by
 intro hd O H x y t u Q R dom rx ry h hq;unfold oEq at h;split at h
 ·rename_i i j;rw[rx.intI,ry.intI];refine .inl ⟨rfl,?_⟩;have e:decide (V.int i=V.int j)=decide (i=j):=decide_eq_decide.mpr ⟨fun z=>by cases z;rfl,fun z=>by rw[z]⟩
  rw[e];exact hq _ _ H h (Same.refl H) (.bl _)
 ·rename_i i j;rw[rx.strI,ry.strI];refine .inl ⟨rfl,?_⟩;have e:decide (V.str i=V.str j)=decide (i=j):=decide_eq_decide.mpr ⟨fun z=>by cases z;rfl,fun z=>by rw[z]⟩
  rw[e];exact hq _ _ H h (Same.refl H) (.bl _)
 ·rename_i i j;rw[rx.blI,ry.blI];refine .inl ⟨rfl,?_⟩;have e:decide (V.bl i=V.bl j)=decide (i=j):=decide_eq_decide.mpr ⟨fun z=>by cases z;rfl,fun z=>by rw[z]⟩
  rw[e];exact hq _ _ H h (Same.refl H) (.bl _)
 ·exact .inr ⟨hd,O,_,_,rx,ry,h.1,h.2.1,hq _ _ H h.2.2 (Same.refl H) (.bl _)⟩
theorem U4:Gp2 X (rNeA X.K) oNe:=by
 intro hd O H x y t u Q R dom rx ry h hq;unfold oNe at h;split at h
 ·rename_i i j;rw[rx.intI,ry.intI];refine .inl ⟨rfl,?_⟩;have e:decide (V.int i=V.int j)=decide (i=j):=decide_eq_decide.mpr ⟨fun z=>by cases z;rfl,fun z=>by rw[z]⟩
  rw[e];exact hq _ _ H h (Same.refl H) (.bl _)
 ·rename_i i j;rw[rx.strI,ry.strI];refine .inl ⟨rfl,?_⟩;have e:decide (V.str i=V.str j)=decide (i=j):=decide_eq_decide.mpr ⟨fun z=>by cases z;rfl,fun z=>by rw[z]⟩
  rw[e];exact hq _ _ H h (Same.refl H) (.bl _)
 ·rename_i i j;rw[rx.blI,ry.blI];refine .inl ⟨rfl,?_⟩;have e:decide (V.bl i=V.bl j)=decide (i=j):=decide_eq_decide.mpr ⟨fun z=>by cases z;rfl,fun z=>by rw[z]⟩
  rw[e];exact hq _ _ H h (Same.refl H) (.bl _)
 ·exact .inr ⟨hd,O,_,_,rx,ry,h.1,h.2.1,hq _ _ H h.2.2 (Same.refl H) (.bl _)⟩
def isNone:PyData->Bool
 | .none=>true
 | _=>false
def oIs:G2
 | .bool a,.bool b,R=>R (.bool (a == b))
 | t,.none,R=>R (.bool (isNone t))
 | _,_,_=>False
def oIsN:G2
 | .bool a,.bool b,R=>R (.bool (a != b))
 | t,.none,R=>R (.bool (!isNone t))
 | _,_,_=>False
def rIs:R2:=fun x y H Q=>(y=.non/\Q (.bl (decide (x=.non))) H)\/∃a b,x=.bl a/\y=.bl b/\Q (.bl (a == b)) H
def rIsN:R2:=fun x y H Q=>(y=.non/\Q (.bl (!decide (x=.non))) H)\/∃a b,x=.bl a/\y=.bl b/\Q (.bl (a != b)) H
theorem zqr:OpR X (compareOp .Is) rIs:=OpR.or zsx zsy
theorem zi3:OpR X (compareOp .IsNot) rIsN:=OpR.or zqo zmC
theorem RepT.isN{K:qF}{hd:Option Addr}{O:Addr->Prop}{H:Hp}{v:V}{t:PyData}(h:RepT K hd O H v t):decide (v=.non)=(isNone t):=by
 rcases h with h|⟨a,vs,ds,rfl,rfl,h3,h4,_⟩|⟨a,zs,ep,ks,rfl,rfl,h3,h4,_⟩
 ·cases h <;> simp[HAND,SCR,isNone]
 ·simp[isNone]
 ·simp[isNone]
theorem zq1:Gp2 X rIs oIs:=by
 intro hd O H x y t u Q R dom rx ry h hq;unfold oIs at h;split at h
 ·rename_i i j;exact .inr ⟨i,j,rx.blI,ry.blI,hq _ _ H h (Same.refl H) (.bl _)⟩
 ·refine .inl ⟨ry.nonI,?_⟩;rw[rx.isN];exact hq _ _ H h (Same.refl H) (.bl _)
 ·exact h.elim
theorem zjK:Gp2 X rIsN oIsN:=by
 intro hd O H x y t u Q R dom rx ry h hq;unfold oIsN at h;split at h
 ·rename_i i j;exact .inr ⟨i,j,rx.blI,ry.blI,hq _ _ H h (Same.refl H) (.bl _)⟩
 ·refine .inl ⟨ry.nonI,?_⟩;rw[rx.isN];exact hq _ _ H h (Same.refl H) (.bl _)
 ·exact h.elim
def rInD(K:qF)(neg:Bool):R2:=fun x y H Q=>∃hd O t ts,RepT K hd O H x t/\(RepT K hd O H y (.tuple ts)\/RepT K hd O H y (.list ts))/\Okd t/\(∀u∈ts,Okd u)/\Q (.bl (if neg then !ts.any (fun u=>u.eqv t) else ts.any (fun u=>u.eqv t))) H
theorem zmG:∀{ts:qD},(∀u∈ts,Okd u)->PyData.canLayAll0 ts=true
 | [],_=>by simp[PyData.canLayAll0]
 | t::ts,h=>by
  simp only[PyData.canLayAll0,Bool.and_eq_true];exact⟨(h t (by simp)).1,zmG fun u hu=>h u (by simp[hu])⟩
theorem zmD(hr:Room k X.A):OpR X (compareOp .In) (rInD X.K false):=by
 intro pins s σ H x y v u Q I rx ry h;obtain⟨hd,O,t,ts,h1,h2,h3,h4,q⟩:=h;obtain⟨as,ra⟩:=h1.reads I rx (PyData.hasDict_of_canLay _ h3.1);have cl:=zmG h4;have hu:X.A.units+1+min (PyData.depthAll ts) t.depth<cLine:=by
  have:=hr.un;have:=h3.2;omega
 rcases h2 with h2|h2
 ·obtain⟨bs,rb⟩:=h2.reads I ry (PyData.hasDict_of_canLay _ (by simpa[PyData.canLay0] using cl))
  exact SeqAt.in_tuple_reads rb ra cl h3.1 hu ⟨.bl _,H,I,rfl,q⟩
 ·obtain⟨bs,rb⟩:=h2.reads I ry (PyData.hasDict_of_canLay _ (by simpa[PyData.canLay0] using cl))
  exact SeqAt.in_list_reads rb ra cl h3.1 hu ⟨.bl _,H,I,rfl,q⟩
def oIn:G2
 | t,.tuple ts,R=>Okd t/\(∀u∈ts,Okd u)/\R (.bool (ts.any fun u=>u.eqv t))
 | t,.list ts,R=>Okd t/\(∀u∈ts,Okd u)/\R (.bool (ts.any fun u=>u.eqv t))
 | _,_,_=>False
theorem zq2:Gp2 X (rInD X.K false) oIn:=by
 intro hd O H x y t u Q R dom rx ry h hq;unfold oIn at h;split at h
 ·exact⟨hd,O,_,_,rx,.inl ry,h.1,h.2.1,hq _ _ H h.2.2 (Same.refl H) (.bl _)⟩
 ·exact⟨hd,O,_,_,rx,.inr ry,h.1,h.2.1,hq _ _ H h.2.2 (Same.refl H) (.bl _)⟩
 ·exact h.elim
def oLtA:G2
 | .int i,.int j,R=>R (.bool (decide (i<j)))
 | .str i,.str j,R=>R (.bool (decide (i.cps.toList<j.cps.toList)))
 | .tuple xs,.tuple ys,R=>∃ns ms,xs=ns.map PyData.int/\ys=ms.map PyData.int/\R (.bool (HT.lexLt ns ms))
 | _,_,_=>False
def rLtA(K:qF):R2:=fun x y H Q=>(rI0 fun i j=>.bl (decide (i<j))) x y H Q\/(∃i j,x=.str i/\y=.str j/\Q (.bl (decide (i.cps.toList<j.cps.toList))) H)\/rLtT K x y H Q
theorem J5(hr:Room k X.A):OpR X (compareOp .Lt) (rLtA X.K):=OpR.or zsw (OpR.or zmA (zsv hr.units0))
theorem Wc{K:qF}{hd:Option Addr}{O:Addr->Prop}{H:Hp}:∀{ns:List Int}{vs:List V},Reps K hd O H vs (ns.map PyData.int)->vs=ns.map V.int
 | [],_,h=>by cases h;rfl
 | n::ns,_,h=>by
  cases h with
  | cons h r=>rw[h.intI,Wc r];rfl
theorem J4:Gp2 X (rLtA X.K) oLtA:=by
 intro hd O H x y t u Q R dom rx ry h hq;unfold oLtA at h;split at h
 ·exact .inl ⟨_,_,rx.intI,ry.intI,hq _ _ H h (Same.refl H) (.bl _)⟩
 ·exact .inr (.inl ⟨_,_,rx.strI,ry.strI,hq _ _ H h (Same.refl H) (.bl _)⟩)
 ·obtain⟨ns,ms,rfl,rfl,h⟩:=h;obtain⟨p,vs,e1,s1,r1⟩:=rx.tupI;obtain⟨q,ws,e2,s2,r2⟩:=ry.tupI;rw[Wc r1]at s1;rw[Wc r2]at s2;exact .inr (.inr ⟨p,q,ns,ms,e1,e2,s1,s2,hq _ _ H h (Same.refl H) (.bl _)⟩)
 ·exact h.elim
def oLeA:G2
 | .int i,.int j,R=>R (.bool (decide (i<=j)))
 | .str i,.str j,R=>R (.bool (!decide (j.cps.toList<i.cps.toList)))
 | _,_,_=>False
def rLeA:R2:=fun x y H Q=>(rI0 fun i j=>.bl (decide (i<=j))) x y H Q\/(∃i j,x=.str i/\y=.str j/\Q (.bl (!decide (j.cps.toList<i.cps.toList))) H)
theorem zmB:OpR X (compareOp .LtE) (fun x y H Q=>∃i j,x=.str i/\y=.str j/\Q (.bl (!decide (j.cps.toList<i.cps.toList))) H):=by
 intro pins s σ H x y v u Q I rx ry h;obtain⟨i,j,rfl,rfl,q⟩:=h;obtain⟨t,rfl⟩:=rx;obtain⟨t',rfl⟩:=ry;exact PySem.P.le_str ⟨.bl _,H,I,rfl,q⟩
theorem Qd:OpR X (compareOp .LtE) rLeA:=OpR.or zvw zmB
theorem Qc:Gp2 X rLeA oLeA:=by
 intro hd O H x y t u Q R dom rx ry h hq;unfold oLeA at h;split at h
 ·exact .inl ⟨_,_,rx.intI,ry.intI,hq _ _ H h (Same.refl H) (.bl _)⟩
 ·exact .inr ⟨_,_,rx.strI,ry.strI,hq _ _ H h (Same.refl H) (.bl _)⟩
 ·exact h.elim
variable{r r':R2}{g g':G2}
theorem zkN{op op':CmpOp}(ho:OpR X (compareOp op) r)(hg:Gp2 X r g)(ho':OpR X (compareOp op') r')(hg':Gp2 X r' g')(ha:DL X a da)(hb:DL X b db)(hc:DL X c dc)
  (hm:lastMarks [op,op'] [b,c]=false:=by with_unfolding_all rfl):DE X (.Compare a [op,op'] [b,c] pos) (Y2 g g' da db dc):=by
 obtain⟨ta,pa,ha⟩:=ha;obtain⟨tb,pb,hb⟩:=hb;obtain⟨tc,pc,hc⟩:=hc;refine⟨_,zoK ho ho' pa pb pc hm,fun C ρ σ H n Q R S h hq=>?_⟩
 refine two ha hb S h fun x y n2 v w H2 r2 e S2 q1 q2=>?_
 refine hg C.hd (Own C ρ σ) H2 v w x y _ _ (fun p=>S2.dom) q1 q2 r2 fun z u H' rz sm rp=>?_
 have S3:=S2.on sm.ext (S2.hnd.same sm);cases z with
 | bool k =>
  cases rp;refine⟨k,rfl,?_⟩;cases k with
  | false=>exact iteF (hq _ n2 _ H' rz (e.trans sm.ext) S3.hnd (.bl _))
  | true =>
   refine iteT (hc C ρ σ H' n2 _ _ S3 rz fun z2 n3 w2 H4 r4 e4 h4 q4=>?_)
   have S4:=S3.on e4 h4;have q2':=e4.repT S.hx ((Same.ext sm:ExtE C.hd H2 H').repT S.hx q2);exact hg' C.hd (Own C ρ σ) H4 w w2 y z2 Q _ (fun p=>S4.dom) q2' q4 r4 fun z u H' rz sm' rp=>hq z n3 u H' rz (((e.trans sm.ext).trans e4).trans sm'.ext) (S4.hnd.same sm') rp
 | _=>exact rz.elim
end
section
variable{X:Cx}{a b c e:Expr}{es rest:List Expr}{d da db dc:DTE}{t u:DTT}{pos p:Pos}{k:Nat}
def truD:PyData->(Bool->Prop)->Prop
 | .none,R=>R false
 | .bool b,R=>R b
 | .int i,R=>R (decide (i≠0))
 | .str x,R=>x.length<=16777216/\R (decide (x.length≠0))
 | .list ts,R=>R (!ts.isEmpty)
 | .tuple ts,R=>R (!ts.isEmpty)
 | _,_=>False
def dTru(d:DTE):DTT:=fun ρ n R=>d ρ n fun t n'=>truD t fun b=>R b n'
theorem zrA{K:qF}{hd:Option Addr}{O:Addr->Prop}{H:Hp}{v:V}{t:PyData}{Q:Bool->Hp->Prop}{R:Bool->Prop}(r:RepT K hd O H v t)(h:truD t R)(hq:∀b,R b->Q b H):∃k,TruV K v H k/\Q k H:=by
 cases t with
 | none=>exact⟨false,by rw[r.nonI];rfl,hq _ h⟩
 | bool b=>exact⟨b,by rw[r.blI];rfl,hq _ h⟩
 | int i=>exact⟨decide (i≠0),by rw[r.intI];show _=(i != 0);by_cases z:i=0 <;> simp[z],hq _ h⟩
 | str x =>
  refine⟨decide (x.length≠0),by rw[r.strI];exact⟨h.1,by by_cases z:x.length=0 <;> simp[z]⟩,hq _ h.2⟩
 | list ts =>
  obtain⟨p,vs,e,h1,h2⟩:=r.lstI;subst e;refine⟨!ts.isEmpty,.inl ⟨vs,.of h1,?_⟩,hq _ h⟩;cases h2 <;> rfl
 | tuple ts =>
  obtain⟨p,vs,e,h1,h2⟩:=r.tupI;subst e;refine⟨!ts.isEmpty,.inr (.inl ⟨vs,h1,?_⟩),hq _ h⟩;cases h2 <;> rfl
 | dict _=>exact h.elim
theorem J3(ha:DL X a da)(he:∀whole,isTrue a X.env whole=(do let v <- whole;standAt a.pos;holding [v] (truthy v)):=by intro _;rfl):DT X a (dTru da):=by
 obtain⟨ta,pa,ha⟩:=ha;refine⟨_,zoA pa he,fun C ρ σ H n Q R S h hq=>?_⟩
 refine ha C ρ σ H n _ _ S h fun t n' v H' r e1 h1 q=>?_
 exact zrA q r fun b rb=>hq b n' H' rb e1 h1
def dAnd(t u:DTT):DTT:=fun ρ n R=>t ρ n fun b n1=>if b=true then u ρ n1 R else R false n1
def dOr(t u:DTT):DTT:=fun ρ n R=>t ρ n fun b n1=>if b=true then R true n1 else u ρ n1 R
def dNot(t:DTT):DTT:=fun ρ n R=>t ρ n fun b n1=>R (!b) n1
theorem Qm(h:DW X a t):DT X a t:=by
 obtain⟨ta,pa,h⟩:=h;exact⟨_,pa.pt,h⟩
theorem Zh(h:DT X a t):DW X (.BoolOp .And [a] pos) t:=by
 obtain⟨ta,pa,h⟩:=h;exact⟨_,zp7 pa,h⟩
theorem Uk(h:DT X a t):DW X (.BoolOp .Or [a] pos) t:=by
 obtain⟨ta,pa,h⟩:=h;exact⟨_,zr3 pa,h⟩
theorem Y3(h:DT X a t)(h':DW X (.BoolOp .And (b::rest) pos) u):DW X (.BoolOp .And (a::b::rest) pos) (dAnd t u):=by
 obtain⟨ta,pa,h⟩:=h;obtain⟨tb,pb,h'⟩:=h';refine⟨_,zr4 pa pb,fun C ρ σ H n Q R S hd hq=>?_⟩
 refine h C ρ σ H n _ _ S hd fun b n1 H1 r e1 h1=>?_
 cases b with
 | true=>exact iteT (h' C ρ σ H1 n1 Q R (S.on e1 h1) (by simpa using r) fun b n2 H2 r e2 h2=>hq b n2 H2 r (e1.trans e2) h2)
 | false=>exact iteF (hq _ n1 H1 (by simpa using r) e1 h1)
theorem Uh(h:DT X a t)(h':DW X (.BoolOp .Or (b::rest) pos) u):DW X (.BoolOp .Or (a::b::rest) pos) (dOr t u):=by
 obtain⟨ta,pa,h⟩:=h;obtain⟨tb,pb,h'⟩:=h';refine⟨_,zvo pa pb,fun C ρ σ H n Q R S hd hq=>?_⟩
 refine h C ρ σ H n _ _ S hd fun b n1 H1 r e1 h1=>?_
 cases b with
 | false=>exact iteF (h' C ρ σ H1 n1 Q R (S.on e1 h1) (by simpa using r) fun b n2 H2 r e2 h2=>hq b n2 H2 r (e1.trans e2) h2)
 | true=>exact iteT (hq _ n1 H1 (by simpa using r) e1 h1)
theorem J7(h:DT X a t):DT X (.UnaryOp .Not a pos) (dNot t):=by
 obtain⟨ta,pa,h⟩:=h;refine⟨_,zr6 pa,fun C ρ σ H n Q R S hd hq=>?_⟩
 exact h C ρ σ H n _ _ S hd fun b n1 H1 r e1 h1=>hq _ n1 H1 r e1 h1
def bolD:PyData->(Bool->Prop)->Prop
 | .bool b,R=>R b
 | _,_=>False
def zrc(da db:DTE):DTE:=fun ρ n R=>da ρ n fun t n1=>bolD t fun b=>if b=true then db ρ n1 R else R (.bool false) n1
def dOrV(da db:DTE):DTE:=fun ρ n R=>da ρ n fun t n1=>bolD t fun b=>if b=true then R (.bool true) n1 else db ρ n1 R
def zrb(da:DTE):DTE:=fun ρ n R=>da ρ n fun t n1=>bolD t fun b=>R (.bool (!b)) n1
theorem QP{op}(h:DE X a d):DE X (.BoolOp op [a] pos) d:=by
 obtain⟨ta,pa,h⟩:=h;exact⟨_,zsh pa,h⟩
theorem QH(h:DE X a da)(h':DE X (.BoolOp .And (b::rest) pos) db):DE X (.BoolOp .And (a::b::rest) pos) (zrc da db):=by
 obtain⟨ta,pa,h⟩:=h;obtain⟨tb,pb,h'⟩:=h';refine⟨_,zsn pa pb,fun C ρ σ H n Q R S hd hq=>?_⟩
 refine h C ρ σ H n _ _ S hd fun t n1 v H1 r e1 h1 q1=>?_
 cases t with
 | bool b =>
  cases q1;refine⟨b,rfl,?_⟩;cases b with
  | true=>exact iteT (h' C ρ σ H1 n1 Q R (S.on e1 h1) (by simpa[bolD] using r) fun t n2 v H2 r e2 h2 q2=>hq t n2 v H2 r (e1.trans e2) h2 q2)
  | false=>exact iteF (hq _ n1 _ H1 (by simpa[bolD] using r) e1 h1 (.bl _))
 | _=>exact r.elim
theorem ztT(h:DE X a da)(h':DE X (.BoolOp .Or (b::rest) pos) db):DE X (.BoolOp .Or (a::b::rest) pos) (dOrV da db):=by
 obtain⟨ta,pa,h⟩:=h;obtain⟨tb,pb,h'⟩:=h';refine⟨_,zvs pa pb,fun C ρ σ H n Q R S hd hq=>?_⟩
 refine h C ρ σ H n _ _ S hd fun t n1 v H1 r e1 h1 q1=>?_
 cases t with
 | bool b =>
  cases q1;refine⟨b,rfl,?_⟩;cases b with
  | false=>exact iteF (h' C ρ σ H1 n1 Q R (S.on e1 h1) (by simpa[bolD] using r) fun t n2 v H2 r e2 h2 q2=>hq t n2 v H2 r (e1.trans e2) h2 q2)
  | true=>exact iteT (hq _ n1 _ H1 (by simpa[bolD] using r) e1 h1 (.bl _))
 | _=>exact r.elim
theorem VQ(h:DE X a da):DE X (.UnaryOp .Not a pos) (zrb da):=by
 obtain⟨ta,pa,h⟩:=h;refine⟨_,zsi pa,fun C ρ σ H n Q R S hd hq=>?_⟩
 refine h C ρ σ H n _ _ S hd fun t n1 v H1 r e1 h1 q1=>?_
 cases t with
 | bool b =>
  cases q1;exact⟨b,rfl,hq _ n1 _ H1 r e1 h1 (.bl _)⟩
 | _=>exact r.elim
def dIfE(t:DTT)(da db:DTE):DTE:=fun ρ n R=>t ρ n fun b n1=>if b=true then da ρ n1 R else db ρ n1 R
theorem zkM(hc:DT X c t)(h:DE X a da)(h':DE X b db):DE X (.IfExp c a b pos) (dIfE t da db):=by
 obtain⟨tc,pc,hc⟩:=hc;obtain⟨ta,pa,h⟩:=h;obtain⟨tb,pb,h'⟩:=h';refine⟨_,zoJ pc pa pb,fun C ρ σ H n Q R S hd hq=>?_⟩
 refine hc C ρ σ H n _ _ S hd fun b n1 H1 r e1 h1=>?_
 cases b with
 | true=>exact iteT (h C ρ σ H1 n1 Q R (S.on e1 h1) (by simpa using r) fun t n2 v H2 r e2 h2 q2=>hq t n2 v H2 r (e1.trans e2) h2 q2)
 | false=>exact iteF (h' C ρ σ H1 n1 Q R (S.on e1 h1) (by simpa using r) fun t n2 v H2 r e2 h2 q2=>hq t n2 v H2 r (e1.trans e2) h2 q2)
def dNil:DTA:=fun _ n R=>R [] n
def QL(d:DTE)(ds:DTA):DTA:=fun ρ n R=>d ρ n fun t n1=>ds ρ n1 fun ts n2=>R (t::ts) n2
theorem Je:DB X [] dNil:=⟨_,UC,fun C ρ σ H n Q R S h hq=>hq [] n [] H h ExtE.refl S.hnd .nil rfl⟩
theorem Jb{ds:DTA}(h:DE X e d)(hr:DB X es ds)(hs:starEach (e::es) X.env=(false,eval e X.env)::starEach es X.env):DB X (e::es) (QL d ds):=by
 obtain⟨ta,pa,h⟩:=h;obtain⟨tb,pb,hr⟩:=hr;refine⟨_,QW pa pb hs,fun C ρ σ H n Q R S hd hq=>?_⟩
 refine h C ρ σ H n _ _ S hd fun t n1 v H1 r e1 h1 q1=>?_
 refine hr C ρ σ H1 n1 _ _ (S.on e1 h1) r fun ts n2 vs H2 r2 e2 h2 q2 l2=>?_
 exact hq _ n2 _ H2 r2 (e1.trans e2) h2 (.cons (e2.rep S.hx q1) q2) (by simp[l2])
def ZD(K:qF)(hd:Option Addr)(O:Addr->Prop)(H:Hp):List V->List PyData->Prop:=Paired (RepT K hd O H)
def DBL(X:Cx)(es:List Expr)(d:DTA):Prop:=∃ta,PB X es ta/\∀(C:Ctx) (ρ:En) (σ:St) (H:Hp) (n:Nat) (Q:List V->Hp->Prop) (R:List PyData->Nat->Prop),Stt X.K C ρ σ H n->d ρ n R ->
 (∀ts n' vs H',R ts n'->ExtE C.hd H H'->Hn C.hd H' n'->ZD X.K C.hd (Own C ρ σ) H' vs ts->ts.length=es.length->Q vs H')->ta σ H Q
theorem Jq:DBL X [] dNil:=⟨_,UC,fun C ρ σ H n Q R S h hq=>hq [] n [] H h ExtE.refl S.hnd .nil rfl⟩
theorem Jp{ds:DTA}(h:DL X e d)(hr:DBL X es ds)(hs:starEach (e::es) X.env=(false,eval e X.env)::starEach es X.env):DBL X (e::es) (QL d ds):=by
 obtain⟨ta,pa,h⟩:=h;obtain⟨tb,pb,hr⟩:=hr;refine⟨_,QW pa pb hs,fun C ρ σ H n Q R S hd hq=>?_⟩
 refine h C ρ σ H n _ _ S hd fun t n1 v H1 r e1 h1 q1=>?_
 refine hr C ρ σ H1 n1 _ _ (S.on e1 h1) r fun ts n2 vs H2 r2 e2 h2 q2 l2=>?_
 exact hq _ n2 _ H2 r2 (e1.trans e2) h2 (.cons (e2.repT S.hx q1) q2) (by simp[l2])
def dTup(ds:DTA):DTE:=fun ρ n R=>ds ρ n fun ts n1=>R (.tuple ts) n1
theorem JI{x1:Nat}{ds:DTA}(h:DB X es ds)(hl:es.length<=sizeLine:=by decide):DE X (.Tuple es x1 pos) (dTup ds):=by
 obtain⟨ta,pa,h⟩:=h;refine⟨_,zqi pa,fun C ρ σ H n Q R S hd hq=>?_⟩
 refine h C ρ σ H n _ _ S hd fun ts n1 vs H1 r e1 h1 q1 l1=>⟨by rw[q1.length,l1];exact hl,fun p hp=>?_⟩
 have S1:=S.on e1 h1;exact hq _ n1 _ _ r (e1.trans (ExtE.new hp)) (h1.same (Qr hp)) (.newT (S1.free hp) hp q1)
theorem JS{ds:DTA}(h:DB X es ds)(hl:es.length<=sizeLine:=by decide):DN X (.List es pos) ds:=by
 obtain⟨ta,pa,h⟩:=h;refine⟨_,zmr pa,fun C ρ σ H n Q R S hd hq=>?_⟩
 refine h C ρ σ H n _ _ S hd fun ts n1 vs H1 r e1 h1 q1 l1=>⟨by rw[q1.length,l1];exact hl,fun p hp=>?_⟩
 have S1:=S.on e1 h1;have hp0:H p=none:=by
  cases z:H p with
  | none=>rfl
  | some o =>
   by_cases y:C.hd=some p
   ·obtain⟨d,m,t,q,_⟩:=h1 p y;rw[hp]at q;cases q
   ·rw[e1 p o z y]at hp;cases hp
 refine hq ts n1 p vs _ r (e1.trans (ExtE.new hp)) (h1.same (Qr hp)) hp0 Qe ?_;refine q1.mono (fun b o hb z=>z.elim id fun z=>?_) fun b o _ hb=>Qr hp b o hb
 subst z;rw[hp]at hb;cases hb
end
section
variable{X:Cx}{a b c e:Expr}{es rest:List Expr}{d da db dc:DTE}{ds:DTA}{pos p:Pos}{k:Nat}{x:Str}
abbrev GC:=List PyData->(PyData->Prop)->Prop
def ZL(g:GC)(ds:DTA):DTE:=fun ρ n R=>ds ρ n fun ts n1=>g ts fun z=>R z n1
def GpC(X:Cx)(r:List V->Hp->VK->Prop)(g:GC):Prop:=∀(hd:Option Addr) (O:Addr->Prop) (H:Hp) (xs:List V) (ts:qD) (Q:VK) (R:PyData->Prop),(∀p,O p->H p≠none)->ZD X.K hd O H xs ts->g ts R ->
 (∀z v H',R z->Same H H'->Rep X.K hd O H' v z->Q v H')->r xs H Q
theorem JB{id:String}{r:List V->Hp->VK->Prop}{g:GC}(hc:Qb X (.builtin id) r)(hgp:GpC X r g)(hm:X.mg x=none)(hv:bootBuiltins x=some (.builtin id))(h:DBL X (e::es) ds)(hg:Gl X x:=by rfl)(hn:x ≠ "__name__":=by decide) (hdb:(x == ("__debug__":Str))=false:=by decide) :
  DE X (.Call (.Name x p) (e::es) [] pos) (ZL g ds):=by
 obtain⟨ta,pa,h⟩:=h;refine⟨_,Vm hc hm hv pa hg hn hdb,fun C ρ σ H n Q R S hd hq=>?_⟩
 refine h C ρ σ H n _ _ S hd fun ts n1 vs H1 r1 e1 h1 q1 _=>?_
 have S1:=S.on e1 h1;exact hgp C.hd (Own C ρ σ) H1 vs ts Q _ (fun p=>S1.dom) q1 r1 fun z u H' rz sm rp=>hq z n1 u H' rz (e1.trans sm.ext) (h1.same sm) rp
theorem QM{T:String}{r:List V->Hp->VK->Prop}{g:GC}(hc:Qb X (.type T) r)(hgp:GpC X r g)(hm:X.mg x=none)(hv:bootBuiltins x=some (.type T))(h:DBL X (e::es) ds)(hg:Gl X x:=by rfl)(hn:x ≠ "__name__":=by decide) (hdb:(x == ("__debug__":Str))=false:=by decide) :
  DE X (.Call (.Name x p) (e::es) [] pos) (ZL g ds):=by
 obtain⟨ta,pa,h⟩:=h;refine⟨_,zsl hc hm hv pa hg hn hdb,fun C ρ σ H n Q R S hd hq=>?_⟩
 refine h C ρ σ H n _ _ S hd fun ts n1 vs H1 r1 e1 h1 q1 _=>?_
 have S1:=S.on e1 h1;exact hgp C.hd (Own C ρ σ) H1 vs ts Q _ (fun p=>S1.dom) q1 r1 fun z u H' rz sm rp=>hq z n1 u H' rz (e1.trans sm.ext) (h1.same sm) rp
theorem QS{K:qF}{hd:Option Addr}{O:Addr->Prop}{H:Hp}{xs:List V}{t:PyData}(h:ZD K hd O H xs [t]):∃v,xs=[v]/\RepT K hd O H v t:=by
 cases h with
 | cons h r=>cases r;exact⟨_,rfl,h⟩
theorem zpx{K:qF}{hd:Option Addr}{O:Addr->Prop}{H:Hp}{xs:List V}{t u:PyData}(h:ZD K hd O H xs [t,u]):∃v w,xs=[v,w]/\RepT K hd O H v t/\RepT K hd O H w u:=by
 cases h with
 | cons h r=>cases r with|cons h2 r=>cases r;exact⟨_,_,rfl,h,h2⟩
def bLen:GC
 | [.list ts],R=>R (.int ts.length)
 | [.tuple ts],R=>R (.int ts.length)
 | [.str x],R=>x.length<=16777216/\R (.int x.length)
 | [.dict [(.none,.list ts)]],R=>R (.int ts.length)
 | _,_=>False
def rLen(K:qF):List V->Hp->VK->Prop:=fun xs H Q=>∃x n,xs=[x]/\LenV K x H n/\Q (.int n) H
theorem QB:GpC X (rLen X.K) bLen:=by
 intro hd O H xs ts Q R dom rs h hq;unfold bLen at h;split at h
 ·obtain⟨v,rfl,r⟩:=QS rs;obtain⟨p,vs,rfl,h1,h2⟩:=r.lstI;exact⟨_,_,rfl,.inl ⟨vs,.of h1,rfl⟩,by rw[h2.length];exact hq _ _ H h (Same.refl H) (.int _)⟩
 ·obtain⟨v,rfl,r⟩:=QS rs;obtain⟨p,vs,rfl,h1,h2⟩:=r.tupI;exact⟨_,_,rfl,.inr ⟨vs,h1,rfl⟩,by rw[h2.length];exact hq _ _ H h (Same.refl H) (.int _)⟩
 ·obtain⟨v,rfl,r⟩:=QS rs;rw[r.strI];exact⟨_,_,rfl,⟨h.1,rfl⟩,hq _ _ H h.2 (Same.refl H) (.int _)⟩
 ·rename_i ts;obtain⟨v,rfl,r⟩:=QS rs;have r:=r.rep (by intro _ z;cases z)
  generalize e:(PyData.dict [(PyData.none,PyData.list ts)])=t at r;cases r with
  | scr h1 o =>
   simp only[SCR,PyData.dict.injEq,List.cons.injEq,Prod.mk.injEq,PyData.list.injEq,true_and,and_true]at e;subst e;exact⟨_,_,rfl,.inl ⟨_,.inl h1,rfl⟩,by simpa using hq _ _ H h (Same.refl H) (.int _)⟩
  | scrS h1 =>
   simp only[SCR,PyData.dict.injEq,List.cons.injEq,Prod.mk.injEq,PyData.list.injEq,true_and,and_true]at e;subst e;exact⟨_,_,rfl,.inl ⟨_,h1 H,rfl⟩,by simpa using hq _ _ H h (Same.refl H) (.int _)⟩
  | hand _=>simp[HAND]at e
  | dct _ _=>cases e
  | dcK _ _ _ e'=>cases e;exact(dict_noK e').elim
  | dcT _ _ _ e'=>cases e;exact(dict_noT e').elim
  | _=>cases e
 ·exact h.elim
def bMin:GC
 | [.int i,.int j],R=>R (.int (if j<i then j else i))
 | _,_=>False
def bMax:GC
 | [.int i,.int j],R=>R (.int (if j > i then j else i))
 | _,_=>False
theorem Vp:GpC X (fun xs H Q=>∃i j,xs=[.int i,.int j]/\Q (.int (if j<i then j else i)) H) bMin:=by
 intro hd O H xs ts Q R dom rs h hq;unfold bMin at h;split at h
 ·obtain⟨v,w,rfl,r1,r2⟩:=zpx rs;rw[r1.intI,r2.intI];exact⟨_,_,rfl,hq _ _ H h (Same.refl H) (.int _)⟩
 ·exact h.elim
theorem Vo:GpC X (fun xs H Q=>∃i j,xs=[.int i,.int j]/\Q (.int (if j > i then j else i)) H) bMax:=by
 intro hd O H xs ts Q R dom rs h hq;unfold bMax at h;split at h
 ·obtain⟨v,w,rfl,r1,r2⟩:=zpx rs;rw[r1.intI,r2.intI];exact⟨_,_,rfl,hq _ _ H h (Same.refl H) (.int _)⟩
 ·exact h.elim
def bInt:GC
 | [.int i],R=>R (.int i)
 | [.bool k],R=>R (.int (if k then 1 else 0))
 | _,_=>False
theorem ztE:GpC X (fun xs H Q=>(∃i,xs=[.int i]/\Q (.int i) H)\/∃k,xs=[.bl k]/\Q (.int (if k then 1 else 0)) H) bInt:=by
 intro hd O H xs ts Q R dom rs h hq;unfold bInt at h;split at h
 ·obtain⟨v,rfl,r1⟩:=QS rs;rw[r1.intI];exact .inl ⟨_,rfl,hq _ _ H h (Same.refl H) (.int _)⟩
 ·obtain⟨v,rfl,r1⟩:=QS rs;rw[r1.blI];exact .inr ⟨_,rfl,hq _ _ H h (Same.refl H) (.int _)⟩
 ·exact h.elim
def bAll:GC
 | [.list ts],R=>∃bs:List Bool,ts=bs.map PyData.bool/\R (.bool (bs.all id))
 | _,_=>False
def bAny:GC
 | [.list ts],R=>∃bs:List Bool,ts=bs.map PyData.bool/\R (.bool (bs.any id))
 | _,_=>False
theorem zec{K:qF}{hd:Option Addr}{O:Addr->Prop}{H:Hp}:∀{ns:List Bool}{vs:List V},Reps K hd O H vs (ns.map PyData.bool)->vs=ns.map V.bl
 | [],_,h=>by cases h;rfl
 | n::ns,_,h=>by
  cases h with
  | cons h r=>rw[h.blI,zec r];rfl
theorem Ul:GpC X (fun xs H Q=>∃(a:Addr) (bs:List Bool),xs=[.ref a]/\SqL X.K H a (bs.map V.bl)/\Q (.bl (bs.all id)) H) bAll:=by
 intro hd O H xs ts Q R dom rs h hq;unfold bAll at h;split at h
 ·obtain⟨bs,rfl,h⟩:=h;obtain⟨v,rfl,r1⟩:=QS rs;obtain⟨p,vs,rfl,h1,h2⟩:=r1.lstI;rw[zec h2]at h1;exact⟨p,bs,rfl,.of h1,hq _ _ H h (Same.refl H) (.bl _)⟩
 ·exact h.elim
theorem ztF:GpC X (fun xs H Q=>∃(a:Addr) (bs:List Bool),xs=[.ref a]/\SqL X.K H a (bs.map V.bl)/\Q (.bl (bs.any id)) H) bAny:=by
 intro hd O H xs ts Q R dom rs h hq;unfold bAny at h;split at h
 ·obtain⟨bs,rfl,h⟩:=h;obtain⟨v,rfl,r1⟩:=QS rs;obtain⟨p,vs,rfl,h1,h2⟩:=r1.lstI;rw[zec h2]at h1;exact⟨p,bs,rfl,.of h1,hq _ _ H h (Same.refl H) (.bl _)⟩
 ·exact h.elim
def ZO:GC
 | [.list ts],R=>R (.tuple ts)
 | [.tuple ts],R=>R (.tuple ts)
 | _,_=>False
theorem Q9:GpC X (fun xs H Q=>∃p ys,xs=[.ref p]/\((SqL X.K H p ys/\∀l,H l=none->Q (.ref l) (upd H l (.tup ys)))\/(SqT X.K H p ys/\Q (.ref p) H))) ZO:=by
 intro hd O H xs ts Q R dom rs h hq;unfold ZO at h;split at h
 ·obtain⟨v,rfl,r1⟩:=QS rs;obtain⟨p,vs,rfl,h1,h2⟩:=r1.lstI;refine⟨p,vs,rfl,.inl ⟨.of h1,fun l hl=>?_⟩⟩
  exact hq _ _ _ h (Qr hl) (.newT (fun z=>dom l z hl) hl h2)
 ·obtain⟨v,rfl,r1⟩:=QS rs;obtain⟨p,vs,rfl,h1,h2⟩:=r1.tupI;exact⟨p,vs,rfl,.inr ⟨h1,hq _ _ H h (Same.refl H) (r1.rep (by intro _ z;cases z))⟩⟩
 ·exact h.elim
def Qi:PyData->(List PyData->Prop)->Prop
 | .list ts,R=>R ts
 | .tuple ts,R=>R ts
 | _,_=>False
def tyN:PyData->Option String
 | .none=>some "NoneType"
 | .bool _=>some "bool"
 | .int _=>some "int"
 | .str _=>some "str"
 | .list _=>some "list"
 | .tuple _=>some "tuple"
 | .dict []=>some "dict"
 | .dict _=>none
def rIsi(K:qF):List V->Hp->VK->Prop:=fun xs H Q=>∃x hd O t T y b,xs=[x,.ty T]/\RepT K hd O H x t/\tyN t=some y/\kitB y T=some b/\Q (.bl b) H
theorem znJ:Qb X (.builtin "isinstance") (rIsi X.K):=by
 intro pins s σ H xs us Q I r h;obtain⟨x,hd,O,t,T,y,b,rfl,rp,ty,e,q⟩:=h;cases r with
 | cons r1 r2 =>
  cases r2 with
  | cons r3 r4 =>
   cases r4;cases(show _=Value.type T from r3)
   have fin:∀y',tyN t=some y'->y'=y:=fun y' h=>Option.some.inj (h.symm.trans ty)
   have go:Ty H x y->wpAny (model X.prog X.w) X.A (call (.builtin "isinstance") [_,Value.type T]) (EP X pins σ Q) X.xe s:=fun ty=>znb I r1 ty.of ((Vt X.K y T).trans e) fun tk=>⟨.bl b,H,I.tok tk,rfl,q⟩
   rcases rp with rp|⟨a,vs,ds,rfl,rfl,h3,h4,_⟩|⟨a,zs,ep,ks,rfl,rfl,h3,h4,_⟩
   ·cases rp with
    | non=>cases ty;exact go .non
    | bl b=>cases ty;exact go (.bl b)
    | int i=>cases ty;exact go (.int i)
    | str i=>cases ty;exact go (.str i)
    | tup h o r=>cases ty;exact go (.tup h)
    | lst h o r=>cases ty;exact go (.lst h)
    | dct h o=>cases ty;exact go (.dK h)
    | @dcK a kvs ks ps h o r e' =>
     cases ps with
     | nil=>cases ty;exact go (.dK h)
     | cons _ _=>simp[tyN]at ty
    | @dcT a zs ep ks ps h o r e' =>
     cases ps with
     | nil =>
      cases ty;cases(show _=Value.ref a from r1)
      obtain⟨⟨_,_,_,ob,es,g1,g2,_⟩,_⟩:=I.hok a _ h;exact PySem.W.kia_one PySem.W.kitx_dict I.kIn ⟨ob,g1,g2.1⟩ ((Vt X.K "dict" T).trans e) (fun z=>nomatch z) fun tk=>⟨.bl b,H,I.tok tk,rfl,q⟩
     | cons _ _=>simp[tyN]at ty
    | hand h=>simp[HAND,tyN]at ty
    | scr h o=>simp[SCR,tyN]at ty
    | scrS h=>simp[SCR,tyN]at ty
    | @tupS a vs ds h r =>
     cases ty;cases(show _=Value.ref a from r1)
     obtain⟨o,its,n,hk,hc,_⟩:=h;exact PySem.W.kia_one PySem.W.kitx_tuple I.kIn ⟨o,I.kIn a o hk,hc⟩ ((Vt X.K "tuple" T).trans e) (fun z=>nomatch z) fun tk=>⟨.bl b,H,I.tok tk,rfl,q⟩
   ·cases ty;exact go (.lst h3)
   ·cases ks with
    | nil =>
     cases ty;cases(show _=Value.ref a from r1)
     obtain⟨⟨_,_,_,ob,es,g1,g2,_⟩,_⟩:=I.hok a _ h3;exact PySem.W.kia_one PySem.W.kitx_dict I.kIn ⟨ob,g1,g2.1⟩ ((Vt X.K "dict" T).trans e) (fun z=>nomatch z) fun tk=>⟨.bl b,H,I.tok tk,rfl,q⟩
    | cons _ _=>simp[tyN,YV]at ty
end
section
variable{X:Cx}{a b c e:Expr}{es rest:List Expr}{d da db dc:DTE}{ds:DTA}{pos p:Pos}{k:Nat}{x:Str}
theorem Reps.atI{K:qF}{hd:Option Addr}{O:Addr->Prop}{H:Hp}{vs ts}{i:Int}{t}(r:Reps K hd O H vs ts)(h:L2.atI ts i=some t):∃v,L2.atI vs i=some v/\Rep K hd O H v t:=by
 unfold L2.atI at h ⊢;rw[r.length];cases e:ixN ts.length i with
 | none=>rw[e]at h;cases h
 | some j =>
  rw[e]at h;have h:ts[j]?=some t:=h;exact r.get h
def oIx:G2
 | .list ts,.int i,R=>match atI ts i with|some t=>R t|none=>False
 | .tuple ts,.int i,R=>match atI ts i with|some t=>R t|none=>False
 | .str x,.int i,R=>x.length<=16777216/\match atI x.cps.toList i with|some c=>R (.str ⟨#[c]⟩)|none=>False
 | _,_,_=>False
theorem zwf:Gp2 X (rIx X.K) oIx:=by
 intro hd O H x y t u Q R dom rx ry h hq;unfold oIx at h;split at h
 ·rename_i ts i;obtain⟨p,vs,rfl,h1,h2⟩:=rx.lstI;split at h
  ·rename_i t et;obtain⟨v,ev,rv⟩:=h2.atI et;exact .inl ⟨p,vs,i,v,rfl,ry.intI,.of h1,ev,hq _ _ H h (Same.refl H) rv⟩
  ·exact h.elim
 ·rename_i ts i;obtain⟨p,vs,rfl,h1,h2⟩:=rx.tupI;split at h
  ·rename_i t et;obtain⟨v,ev,rv⟩:=h2.atI et;exact .inr (.inl ⟨p,vs,i,v,rfl,ry.intI,h1,ev,hq _ _ H h (Same.refl H) rv⟩)
  ·exact h.elim
 ·rename_i z i;obtain⟨h0,h⟩:=h;split at h
  ·rename_i c ec;exact .inr (.inr ⟨z,i,c,rx.strI,ry.intI,h0,ec,hq _ _ H h (Same.refl H) (.str _)⟩)
  ·exact h.elim
 ·exact h.elim
theorem Jl(ha:DL X a da)(hb:DL X b db)(hs:VI b:=by intro _ _;rfl):DE X (.Subscript a b pos) (dOp oIx da db):=by
 obtain⟨ta,pa,ha⟩:=ha;obtain⟨tb,pb,hb⟩:=hb;refine⟨_,Uy zs8 pa pb hs,fun C ρ σ H n Q R S h hq=>?_⟩
 refine two ha hb S h fun x y n2 v w H2 r2 e S2 q1 q2=>?_
 exact zwf C.hd (Own C ρ σ) H2 v w x y Q _ (fun p=>S2.dom) q1 q2 r2 fun z u H' rz sm rp=>hq z n2 u H' rz (e.trans sm.ext) (S2.hnd.same sm) rp
def dNeg(d:DTE):DTE:=fun ρ n R=>d ρ n fun t n1=>match t with|.int i=>R (.int (-i)) n1|_=>False
theorem ZM(h:DE X a da):DE X (.UnaryOp .USub a pos) (dNeg da):=by
 obtain⟨ta,pa,h⟩:=h;refine⟨_,zvq zrx pa,fun C ρ σ H n Q R S hd hq=>?_⟩
 refine h C ρ σ H n _ _ S hd fun t n1 v H1 r e1 h1 q1=>?_
 cases t with
 | int i=>rw[q1.intI];exact⟨i,rfl,hq _ n1 _ H1 r e1 h1 (.int _)⟩
 | _=>exact r.elim
def zr1(K:qF):R2:=fun x y H Q=>∃a b xs ys,x=.ref a/\y=.ref b/\SqT K H a xs/\SqT K H b ys/\xs.length+ys.length<=sizeLine /\
 (xs=[]->Q (.ref b) H)/\(ys=[]->Q (.ref a) H)/\∀p,H p=none->Q (.ref p) (upd H p (.tup (xs++ys)))
theorem zqt:OpR X (binaryOp .Add) (zr1 X.K):=by
 intro pins s σ H x y v u Q I rx ry h;obtain⟨a,b,xs,ys,rfl,rfl,ha,hb,hz,q0,q1,q2⟩:=h
 by_cases hx:xs=[]
 ·cases rx;cases ry;obtain⟨its,r1,p1,_⟩:=I.tuple ha;obtain⟨its2,r2,p2,_⟩:=I.tuple hb;have hv:its=[]:=r1.nil_iff.mpr hx;obtain⟨⟨cls,dd,data,sl⟩,ho,hc,n,hd⟩:=id p1;obtain⟨⟨cls2,dd2,data2,sl2⟩,ho2,hc2,n2,hd2⟩:=id p2;simp only at hc hd hc2 hd2;subst hc hd hc2 hd2;exact concat_meets ⟨_,ho,rfl⟩ ⟨_,ho2,rfl⟩ noFill_tuple_add seq_tuple_add PySem.F.slot_tuple_add PySem.F.entry_tuple_add (PySem.F.args_tuple_add_2 _ _)
   (tuple_addW0 a b its.toArray its2.toArray n n2 dd dd2 sl sl2 (by simp[hv])) ⟨ho,ho2,⟨.ref b,H,I,rfl,q0 hx⟩⟩
 ·exact zqs pins s σ H _ _ v u Q I rx ry ⟨a,b,xs,ys,rfl,rfl,ha,hb,hx,hz,q1,fun _=>q2⟩
def oAdd:G2
 | .int i,.int j,R=>R (.int (i+j))
 | .str i,.str j,R=>i.length+j.length<=16777216/\R (.str (i++j))
 | .tuple xs,.tuple ys,R=>xs.length+ys.length<=16777216/\R (.tuple (xs++ys))
 | _,_,_=>False
def zr2(K:qF):R2:=fun x y H Q=>(rI0 fun i j=>.int (i+j)) x y H Q\/(∃i j,x=.str i/\y=.str j/\i.length+j.length<=sizeLine/\Q (.str (i++j)) H)\/zr1 K x y H Q
theorem zqu:OpR X (binaryOp .Add) (zr2 X.K):=OpR.or Uq (OpR.or zlb zqt)
theorem ztG:Gp2 X (zr2 X.K) oAdd:=by
 intro hd O H x y t u Q R dom rx ry h hq;unfold oAdd at h;split at h
 ·exact .inl ⟨_,_,rx.intI,ry.intI,hq _ _ H h (Same.refl H) (.int _)⟩
 ·exact .inr (.inl ⟨_,_,rx.strI,ry.strI,h.1,hq _ _ H h.2 (Same.refl H) (.str _)⟩)
 ·rename_i xs ys;obtain⟨p,vs,rfl,h1,h2⟩:=rx.tupI;obtain⟨q,ws,rfl,h3,h4⟩:=ry.tupI;refine .inr (.inr ⟨p,q,vs,ws,rfl,rfl,h1,h3,by rw[h2.length,h4.length];exact h.1,fun e=>?_,fun e=>?_,fun l hl=>?_⟩)
  ·subst e;cases h2;exact hq _ _ H h.2 (Same.refl H) (ry.rep (by intro _ z;cases z))
  ·subst e;cases h4;exact hq _ _ H h.2 (Same.refl H) (by rw[List.append_nil];exact rx.rep (by intro _ z;cases z))
  ·exact hq _ _ _ h.2 (Qr hl) (.newT (fun z=>dom l z hl) hl (h2.append h4))
 ·exact h.elim
theorem JN(ha:DL X a da)(hb:DL X b db):DE X (.BinOp a .Add b pos) (dOp oAdd da db):=QY zqu ztG ha hb
def dCat(da db:DTE):DTA:=fun ρ n R=>da ρ n fun x n1=>db ρ n1 fun y n2=>match x,y with|.list xs,.list ys=>xs.length+ys.length<=16777216/\R (xs++ys) n2|_,_=>False
theorem VV{C:Ctx}{H H1:Hp}{n1:Nat}{p:Addr}(e1:ExtE C.hd H H1)(h1:Hn C.hd H1 n1)(hp:H1 p=none):H p=none:=by
 cases z:H p with
 | none=>rfl
 | some o =>
  by_cases y:C.hd=some p
  ·obtain⟨d,m,t,q,_⟩:=h1 p y;rw[hp]at q;cases q
  ·rw[e1 p o z y]at hp;cases hp
theorem zov{K:qF}{hd:Option Addr}{O:Addr->Prop}{H:Hp}{p:Addr}{o:HO}{vs ts}(hp:H p=none)(r:Reps K hd O H vs ts):Reps K hd (fun a=>O a\/a=p) (upd H p o) vs ts:=by
 refine r.mono (fun b o hb z=>z.elim id fun z=>?_) fun b o _ hb=>Qr hp b o hb
 subst z;rw[hp]at hb;cases hb
theorem znr(ha:DL X a da)(hb:DL X b db):DN X (.BinOp a .Add b pos) (dCat da db):=by
 obtain⟨ta,pa,ha⟩:=ha;obtain⟨tb,pb,hb⟩:=hb;refine⟨_,JG zsB pa pb,fun C ρ σ H n Q R S h hq=>?_⟩
 refine two ha hb S h fun x y n2 v w H2 r2 e S2 q1 q2=>?_
 split at r2
 ·obtain⟨p,vs,rfl,h1,h2⟩:=q1.lstI;obtain⟨q,ws,rfl,h3,h4⟩:=q2.lstI;refine⟨p,q,vs,ws,rfl,rfl,h1,h3,by rw[h2.length,h4.length];exact r2.1,fun l hl=>?_⟩
  exact hq _ n2 l _ _ r2.2 (e.trans (ExtE.new hl)) (S2.hnd.same (Qr hl)) (VV e S2.hnd hl) Qe (zov hl (h2.append h4))
 ·exact r2.elim
def oMul:=gI CMul fun i j=>i*j
theorem VA(ha:DL X a da)(hb:DL X b db):DE X (.BinOp a .Mult b pos) (dOp oMul da db):=QY Q1 gp_I ha hb
abbrev GD:=List PyData->Nat->(PyData->Nat->Prop)->Prop
def spD(K:qF)(m:Nat)(g:GD):Sp:=fun vs H Q _=>∃(hd:Option Addr) (O:Addr->Prop) (ts:qD) (n:Nat) (R:qN),Reps K hd O H vs ts/\Hn hd H n/\(∀a,O a->MutO (H a))/\(∀a,hd=some a->O a)/\ts.length=m/\g ts n R /\
 ∀t n' v H',R t n'->ExtE hd H H'->Hn hd H' n'->Rep K hd O H' v t->Q v H'
def dFn(g:GD)(ds:DTA):DTE:=fun ρ n R=>ds ρ n fun ts n1=>g ts n1 R
theorem zwi{st:Stmt}{ps:List Str}{f:Addr}{fd:FuncData}{g:GD}{m:Nat}(D:Bd.Def X.K X.mg x st ps f fd)(G:FnOk X.prog X.w X.K X.mg X.base CX0 k f fd ps (spD X.K m g))(hr:Room k X.A)(h:DB X (e::es) ds)(hm:(e::es).length=m:=by rfl)(hg:Gl X x:=by rfl)
  (hdb:(x == ("__debug__":Str))=false:=by decide):DE X (.Call (.Name x p) (e::es) [] pos) (dFn g ds):=by
 obtain⟨ta,pa,h⟩:=h;refine⟨_,Bd.zqj D G hr pa hg hdb,fun C ρ σ H n Q R S hd hq=>?_⟩
 refine h C ρ σ H n _ _ S hd fun ts n1 vs H1 r1 e1 h1 q1 l1=>?_
 have S1:=S.on e1 h1;rw[List.append_nil];exact⟨C.hd,Own C ρ σ,ts,n1,R,q1,h1,fun a=>S1.lst,fun a z=>.inl (S.hx a z),l1.trans hm,r1,fun t n' v H' rt e2 h2 q2=>hq t n' v H' rt (e1.trans e2) h2 q2⟩
def dFnL(g:GD)(ds:DTA):DTE:=fun ρ n R=>ds ρ n fun ts n1=>g ts n1 fun t n2=>Qa t=true/\R t n2
theorem ztV{st:Stmt}{ps:List Str}{f:Addr}{fd:FuncData}{g:GD}{m:Nat}(D:Bd.Def X.K X.mg x st ps f fd)(G:FnOk X.prog X.w X.K X.mg X.base CX0 k f fd ps (spD X.K m g))(hr:Room k X.A)(h:DBL X (e::es) ds)(hm:(e::es).length=m:=by rfl)(hg:Gl X x:=by rfl)
  (hdb:(x == ("__debug__":Str))=false:=by decide):DE X (.Call (.Name x p) (e::es) [] pos) (dFnL g ds):=by
 obtain⟨ta,pa,h⟩:=h;refine⟨_,Bd.zqj D G hr pa hg hdb,fun C ρ σ H n Q R S hd hq=>?_⟩
 refine h C ρ σ H n _ _ S hd fun ts n1 vs H1 r1 e1 h1 q1 l1=>?_
 have S1:=S.on e1 h1;rw[List.append_nil];have lend:∀{vs ts},ZD X.K C.hd (Own C ρ σ) H1 vs ts->Reps X.K C.hd (fun a=>C.hd=some a) H1 vs ts:=by
  intro vs ts q;induction q with
  | nil=>exact .nil
  | cons r _ ih =>
   refine .cons ?_ ih;rcases r with r|⟨a,ws,us,rfl,rfl,h3,h4,h5⟩|⟨a,zs,ep,ks,rfl,rfl,h3,h4,h5⟩
   ·exact r.mono (fun a o _ z=>.inl (S.hx a z)) fun _ _ _ z=>z
   ·exact .lst h3 h5 (h4.mono (fun a o _ z=>.inl (S.hx a z)) fun _ _ _ z=>z)
   ·exact .dcT h3 h5 (h4.mono (fun a o _ z=>.inl (S.hx a z)) fun _ _ _ z=>z) rfl
 refine⟨C.hd,fun a=>C.hd=some a,ts,n1,_,lend q1,h1,fun a z=>?_,fun a z=>z,l1.trans hm,r1,fun t n' v H' rt e2 h2 q2=>?_⟩
 ·obtain⟨d,m,t,q,_⟩:=h1 a z;exact .inl ⟨_,q⟩
 ·exact hq t n' v H' rt.2 (e1.trans e2) h2 (q2.up (fun a z=>(S1.on e2 h2).lst z) rt.1)
end
def Keep(C:Ctx)(ρ:En)(σ:St)(H:Hp)(ρ':En)(σ':St)(H':Hp):Prop:=∀a o,H a=some o->C.hd≠some a->¬OwnS ρ σ a->H' a=some o/\¬OwnS ρ' σ' a
structure DEnds where
 nx:En->Nat->Prop
 rt:PyData->Nat->Prop
 bk:En->Nat->Prop:=fun _ _=>False
 ct:En->Nat->Prop:=fun _ _=>False
abbrev DTS:=DEnds->En->Nat->Prop
structure Good(K:qF)(C:Ctx)(ρ:En)(σ:St)(H:Hp)(D:Ends)(D':DEnds):Prop where
 nx:∀ρ' σ' H' n',D'.nx ρ' n'->Stt K C ρ' σ' H' n'->Keep C ρ σ H ρ' σ' H'->D.nx σ' H'
 rt:∀t n' v H',D'.rt t n'->Hn C.hd H' n'->(∀a o,H a=some o->C.hd≠some a->¬OwnS ρ σ a->H' a=some o)->Rep K C.hd C.ext H' v t->D.rt v H'
 bk:∀ρ' σ' H' n',D'.bk ρ' n'->Stt K C ρ' σ' H' n'->Keep C ρ σ H ρ' σ' H'->D.bk σ' H'
 ct:∀ρ' σ' H' n',D'.ct ρ' n'->Stt K C ρ' σ' H' n'->Keep C ρ σ H ρ' σ' H'->D.ct σ' H'
def DS(X:Cx)(st:Stmt)(d:DTS):Prop:=∃ts,PS X st ts/\∀(C:Ctx) (ρ:En) (σ:St) (H:Hp) (n:Nat) (D:Ends) (D':DEnds),Stt X.K C ρ σ H n->d D' ρ n->Good X.K C ρ σ H D D'->ts D σ H
def DSs(X:Cx)(st:List Stmt)(d:DTS):Prop:=∃ts,PSs X st ts/\∀(C:Ctx) (ρ:En) (σ:St) (H:Hp) (n:Nat) (D:Ends) (D':DEnds),Stt X.K C ρ σ H n->d D' ρ n->Good X.K C ρ σ H D D'->ts D σ H
section
variable{K:qF}{C:Ctx}{ρ ρ1 ρ2:En}{σ σ1 σ2:St}{H H1 H2:Hp}{n n1:Nat}{D:Ends}{D':DEnds}
theorem Keep.refl:Keep C ρ σ H ρ σ H:=fun _ _ h _ no=>⟨h,no⟩
theorem Keep.trans(k1:Keep C ρ σ H ρ1 σ1 H1)(k2:Keep C ρ1 σ1 H1 ρ2 σ2 H2):Keep C ρ σ H ρ2 σ2 H2:=fun a o h nh no=>by
 obtain⟨h1,no1⟩:=k1 a o h nh no;exact k2 a o h1 nh no1
theorem ExtE.keep(e:ExtE C.hd H H1):Keep C ρ σ H ρ σ H1:=fun a o h nh no=>⟨e a o h nh,no⟩
theorem Good.on(g:Good K C ρ σ H D D')(k:Keep C ρ σ H ρ1 σ1 H1):Good K C ρ1 σ1 H1 D D' where
 nx:=fun ρ' σ' H' n' h S k'=>g.nx ρ' σ' H' n' h S (k.trans k')
 rt:=fun t n' v H' h hn k' r=>g.rt t n' v H' h hn (fun a o ha nh no=>by
  obtain⟨h1,no1⟩:=k a o ha nh no;exact k' a o h1 nh no1) r
 bk:=fun ρ' σ' H' n' h S k'=>g.bk ρ' σ' H' n' h S (k.trans k')
 ct:=fun ρ' σ' H' n' h S k'=>g.ct ρ' σ' H' n' h S (k.trans k')
theorem Keep.reps(k:Keep C ρ σ H ρ1 σ1 H1)(hx:∀a,C.hd=some a->C.ext a){v t}(r:Reps K C.hd (Own C ρ σ) H v t):Reps K C.hd (Own C ρ1 σ1) H1 v t :=
 Reps.mono (O:=Own C ρ σ) (fun a o h z=>by
  by_cases q:Own C ρ σ a
  ·exact q
  ·rcases z with z|z
   ·exact .inl z
   ·exact absurd z (k a o h (fun y=>q (.inl (hx a y))) fun y=>q (.inr y)).2) (fun a o no h=>(k a o h (fun y=>no (.inl (hx a y))) fun y=>no (.inr y)).1) r
theorem JD{α:Type}{l:List (Option α)}{i j:Nat}{v w:α}(h:(l.set i (some v))[j]?=some (some w)):(i=j/\v=w)\/(i≠j/\l[j]?=some (some w)):=by
 by_cases e:i=j
 ·subst e;rw[List.getElem?_set]at h;simp only[↓reduceIte]at h;split at h
  ·simp at h;exact .inl ⟨rfl,h⟩
  ·cases h
 ·rw[List.getElem?_set_ne e]at h;exact .inr ⟨e,h⟩
theorem Zd{α:Type}{l:List (Option α)}{i j:Nat}{v w:α}(e:i≠j)(h:l[j]?=some (some w)):(l.set i (some v))[j]?=some (some w):=by
 rw[List.getElem?_set_ne e];exact h
theorem zpw{α:Type}{l:List (Option α)}{i j:Nat}{v:α}{w:Option α}(h:(l.set i (some v))[j]?=some w)(e:i=j):i<l.length:=by
 subst e;rw[List.getElem?_set]at h;simp only[↓reduceIte]at h;split at h
 ·assumption
 ·cases h
theorem zl2{α:Type}{l:List (Option α)}{i:Nat}{v:α}(h:i<l.length):(l.set i (some v))[i]?=some (some v):=by
 rw[List.getElem?_set];simp[h]
theorem V4{i:Nat}{t:PyData}{v:V}{a:Addr}(h:OwnS (ρ.set i (some (.val t))) (σ.set i (some v)) a):OwnS ρ σ a:=by
 obtain⟨j,c,m,h1,h2⟩:=h;rcases JD h1 with⟨_,z⟩|⟨e,h1⟩
 ·subst z;cases m
 ·rcases JD h2 with⟨z,_⟩|⟨_,h2⟩
  ·exact absurd z e
  ·exact⟨j,c,m,h1,h2⟩
def QT(K:qF)(hd:Option Addr)(O:Addr->Prop)(H:Hp)(a:Addr):Cell->Prop
 | .val _=>False
 | .rdo _=>False
 | .own ts=>∃vs,H a=some (.lst vs)/\Reps K hd O H vs ts
 | .dct ks=>∃kvs,H a=some (.dK kvs)/\U6 K hd O H kvs ks
 | .dtt ks=>∃zs ep,H a=some (ZDO a zs ep)/\RepsT K hd O H zs ks
theorem QT.mono{hd:Option Addr}{O O':Addr->Prop}{H H':Hp}{a:Addr}{c:Cell}(x:QT K hd O H a c)(ho:∀a o,H a=some o->O' a->O a)(hh:∀a o,¬O a->H a=some o->H' a=some o)(ha:∀o,H a=some o->H' a=some o):QT K hd O' H' a c:=by
 cases c with
 | val _=>exact x.elim
 | rdo _=>exact x.elim
 | own ts=>obtain⟨vs,h1,h2⟩:=x;exact⟨vs,ha _ h1,h2.mono ho hh⟩
 | dct ks=>obtain⟨vs,h1,h2⟩:=x;exact⟨vs,ha _ h1,h2.mono ho hh⟩
 | dtt ks=>obtain⟨vs,ep,h1,h2⟩:=x;exact⟨vs,ep,ha _ h1,h2.mono ho hh⟩
theorem QT.some{hd:Option Addr}{O:Addr->Prop}{H:Hp}{a:Addr}{c:Cell}(x:QT K hd O H a c):∃o,H a=some o:=by
 cases c with
 | val _=>exact x.elim
 | rdo _=>exact x.elim
 | own ts=>obtain⟨vs,h1,h2⟩:=x;exact⟨_,h1⟩
 | dct ks=>obtain⟨vs,h1,h2⟩:=x;exact⟨_,h1⟩
 | dtt ks=>obtain⟨vs,ep,h1,h2⟩:=x;exact⟨_,h1⟩
theorem QT.mine{hd:Option Addr}{O:Addr->Prop}{H:Hp}{a:Addr}{c:Cell}(x:QT K hd O H a c):c.mine=true:=by
 cases c with
 | val _=>exact x.elim
 | rdo _=>exact x.elim
 | own ts=>rfl
 | dct ks=>rfl
 | dtt ks=>rfl
theorem Stt.cell(S:Stt K C ρ σ H n){i:Nat}{c:Cell}(m:c.mine=true)(h:ρ[i]?=some (some c)):∃a:Addr,σ[i]?=some (some (V.ref a))/\QT K C.hd (Own C ρ σ) H a c/\¬C.ext a:=by
 cases c with
 | val _=>cases m
 | rdo _=>cases m
 | own ts=>obtain⟨a,vs,h1,h2,h3,h4⟩:=S.own i ts h;exact⟨a,h1,⟨vs,h2,h3⟩,h4⟩
 | dct ks=>obtain⟨a,vs,h1,h2,h3,h4⟩:=S.dct i ks h;exact⟨a,h1,⟨vs,h2,h3⟩,h4⟩
 | dtt ks=>obtain⟨a,vs,ep,h1,h2,h3,h4⟩:=S.dtt i ks h;exact⟨a,h1,⟨vs,ep,h2,h3⟩,h4⟩
def zrn(K:qF)(C:Ctx)(ρ:En)(σ:St)(H:Hp):Prop:=∀(i:Nat) (ks:List (Key×PyData)),ρ[i]?=some (some (Cell.rdo ks))->∃a kvs,σ[i]?=some (some (V.ref a))/\H a=some (.dK kvs)/\U6 K C.hd (Own C ρ σ) H kvs ks/\C.ext a/\C.hd≠some a
theorem Stt.mk'(len:ρ.length=σ.length)(val:∀(i:Nat) (d:PyData),ρ[i]?=some (some (Cell.val d))->∃v,σ[i]?=some (some v)/\Rep K C.hd (Own C ρ σ) H v d)
  (cell:∀(i:Nat) (c:Cell),c.mine=true->ρ[i]?=some (some c)->∃a:Addr,σ[i]?=some (some (V.ref a))/\QT K C.hd (Own C ρ σ) H a c/\¬C.ext a)
  (rdo:zrn K C ρ σ H) (dif:∀(i j:Nat) (c e:Cell) (a:Addr),c.mine=true->e.mine=true->ρ[i]?=some (some c)->ρ[j]?=some (some e)->σ[i]?=some (some (V.ref a))->σ[j]?=some (some (V.ref a))->i=j)
  (hnd:Hn C.hd H n) (ext:∀a,C.ext a->MutO (H a)) (hx:∀a,C.hd=some a->C.ext a):Stt K C ρ σ H n where
 len:=len
 val:=val
 own:=fun i ts h=>by obtain⟨a,h1,⟨vs,h2,h3⟩,h4⟩:=cell i _ rfl h;exact⟨a,vs,h1,h2,h3,h4⟩
 dct:=fun i ts h=>by obtain⟨a,h1,⟨vs,h2,h3⟩,h4⟩:=cell i _ rfl h;exact⟨a,vs,h1,h2,h3,h4⟩
 rdo:=rdo
 dtt:=fun i ts h=>by obtain⟨a,h1,⟨vs,ep,h2,h3⟩,h4⟩:=cell i _ rfl h;exact⟨a,vs,ep,h1,h2,h3,h4⟩
 dif:=dif
 hnd:=hnd
 ext:=ext
 hx:=hx
theorem Stt.put(S:Stt K C ρ σ H n){i:Nat}{t:PyData}{v:V}(r:Rep K C.hd (Own C ρ σ) H v t):Stt K C (ρ.set i (some (.val t))) (σ.set i (some v)) H n:=by
 have sub:∀a o,H a=some o->Own C (ρ.set i (some (.val t))) (σ.set i (some v)) a->Own C ρ σ a:=fun a o _ z=>z.elim .inl fun z=>.inr (V4 z)
 have mono:∀{w u},Rep K C.hd (Own C ρ σ) H w u->Rep K C.hd (Own C (ρ.set i (some (.val t))) (σ.set i (some v))) H w u:=fun q=>q.mono sub fun _ _ _ z=>z
 refine .mk' (by simp[S.len]) (fun j d h=>?_) (fun j c m h=>?_) (fun j ks h=>?_) (fun j k c e a m1 m2 h1 h2 h3 h4=>?_) S.hnd S.ext S.hx
 rotate_left 2
 ·rcases JD h with⟨_,z⟩|⟨e,h'⟩
  ·cases z
  ·obtain⟨a,kvs,q1,q2,q3,q4⟩:=S.rdo j ks h';exact⟨a,kvs,Zd e q1,q2,q3.mono sub fun _ _ _ z=>z,q4⟩
 rotate_left 1
 ·rcases JD h with⟨e,z⟩|⟨e,h'⟩
  ·cases z;have:=zpw h e;subst e;exact⟨v,zl2 (by rw[<- S.len];exact this),mono r⟩
  ·obtain⟨w,h1,h2⟩:=S.val j d h';exact⟨w,Zd e h1,mono h2⟩
 ·rcases JD h with⟨e,z⟩|⟨e,h'⟩
  ·subst z;cases m
  ·obtain⟨a,h1,h2,h3⟩:=S.cell m h';exact⟨a,Zd e h1,h2.mono sub (fun _ _ _ z=>z) fun _ z=>z,h3⟩
 ·rcases JD h1 with⟨e,z⟩|⟨e,h1'⟩
  ·subst z;cases m1
  ·rcases JD h2 with⟨e2,z⟩|⟨e2,h2'⟩
   ·subst z;cases m2
   ·rcases JD h3 with⟨z,_⟩|⟨_,h3'⟩
    ·exact absurd z e
    ·rcases JD h4 with⟨z,_⟩|⟨_,h4'⟩
     ·exact absurd z e2
     ·exact S.dif j k c _ a m1 m2 h1' h2' h3' h4'
theorem V2{i:Nat}{t:PyData}{v:V}:Keep C ρ σ H (ρ.set i (some (.val t))) (σ.set i (some v)) H:=fun a o h _ no=>⟨h,fun z=>no (V4 z)⟩
theorem zke{i:Nat}{c:Cell}{p a:Addr}(h:OwnS (ρ.set i (some c)) (σ.set i (some (.ref p))) a):OwnS ρ σ a\/a=p:=by
 obtain⟨j,ds,m,h1,h2⟩:=h;rcases JD h2 with⟨e,z⟩|⟨e,h2⟩
 ·cases z;exact .inr rfl
 ·rcases JD h1 with⟨z,_⟩|⟨_,h1⟩
  ·exact absurd z e
  ·exact .inl ⟨j,ds,m,h1,h2⟩
theorem Stt.putNew(S:Stt K C ρ σ H n){i:Nat}{c:Cell}{p:Addr}{H':Hp}(e:ExtE C.hd H H')(h:Hn C.hd H' n1)(hp:H p=none)(r:QT K C.hd (fun a=>Own C ρ σ a\/a=p) H' p c) :
  Stt K C (ρ.set i (some c)) (σ.set i (some (.ref p))) H' n1:=by
 have S':=S.on e h;have mc:=r.mine;have sub:∀a,Own C (ρ.set i (some c)) (σ.set i (some (.ref p))) a->Own C ρ σ a\/a=p:=fun a z=>z.elim (fun z=>.inl (.inl z)) fun z=>(zke z).elim (fun z=>.inl (.inr z)) .inr
 have npx:¬C.ext p:=fun z=>S.dom (.inl z) hp
 have sb:∀a o,H a=some o->Own C (ρ.set i (some c)) (σ.set i (some (.ref p))) a->Own C ρ σ a:=fun a o ho z=>(sub a z).elim id fun z=>by subst z;rw[hp]at ho;cases ho
 have kp:∀a o,¬Own C ρ σ a->H a=some o->H' a=some o:=fun a o no ho=>e a o ho fun z=>no (.inl (S.hx a z))
 have notp:∀(j:Nat) (d:Cell),d.mine=true->ρ[j]?=some (some d)->σ[j]?≠some (some (V.ref p)):=fun j d m h1 h2=>by
  obtain⟨a,e1,e2,_⟩:=S.cell m h1;rw[h2]at e1;cases e1;obtain⟨o,e2⟩:=e2.some;rw[hp]at e2;cases e2
 refine .mk' (by simp[S.len]) (fun j d hj=>?_) (fun j d m hj=>?_) (fun j ks hj=>?_) (fun j k c1 c2 a m1 m2 h1 h2 h3 h4=>?_) h S'.ext S.hx
 rotate_left 2
 ·rcases JD hj with⟨_,z⟩|⟨e',h'⟩
  ·subst z;cases mc
  ·obtain⟨a,kvs,q1,q2,q3,q4,q5⟩:=S.rdo j ks h';exact⟨a,kvs,Zd e' q1,e a _ q2 q5,q3.mono sb kp,q4,q5⟩
 rotate_left 1
 ·rcases JD hj with⟨_,z⟩|⟨e',h'⟩
  ·subst z;cases mc
  ·obtain⟨w,h1,h2⟩:=S.val j d h';exact⟨w,Zd e' h1,h2.mono sb kp⟩
 ·rcases JD hj with⟨e',z⟩|⟨e',h'⟩
  ·subst z;have:=zpw hj e';subst e';exact⟨p,zl2 (by rw[<- S.len];exact this),r.mono (fun a o _ z=>sub a z) (fun _ _ _ z=>z) fun _ z=>z,npx⟩
  ·obtain⟨a,h1,h2,h4⟩:=S.cell m h';exact⟨a,Zd e' h1,h2.mono sb kp (fun o ho=>e a o ho fun z=>h4 (S.hx a z)),h4⟩
 ·rcases JD h3 with⟨e3,z3⟩|⟨e3,h3'⟩
  ·cases z3;rcases JD h4 with⟨e4,_⟩|⟨e4,h4'⟩
   ·rw[<- e3,<- e4]
   ·rcases JD h2 with⟨z,_⟩|⟨_,h2'⟩
    ·exact absurd z e4
    ·exact absurd h4' (notp k _ m2 h2')
  ·rcases JD h1 with⟨z,_⟩|⟨_,h1'⟩
   ·exact absurd z e3
   ·rcases JD h4 with⟨e4,z4⟩|⟨e4,h4'⟩
    ·cases z4;exact absurd h3' (notp j _ m1 h1')
    ·rcases JD h2 with⟨z,_⟩|⟨_,h2'⟩
     ·exact absurd z e4
     ·exact S.dif j k _ _ a m1 m2 h1' h2' h3' h4'
theorem Stt.putOwn(S:Stt K C ρ σ H n){i:Nat}{ts:qD}{p:Addr}{vs:List V}{H':Hp}(e:ExtE C.hd H H')(h:Hn C.hd H' n1)(hp:H p=none)(hp':H' p=some (.lst vs))(r:Reps K C.hd (fun a=>Own C ρ σ a\/a=p) H' vs ts) :
  Stt K C (ρ.set i (some (.own ts))) (σ.set i (some (.ref p))) H' n1:=S.putNew e h hp ⟨vs,hp',r⟩
theorem zjA{i:Nat}{c:Cell}{p:Addr}{H':Hp}(e:ExtE C.hd H H')(hp:H p=none):Keep C ρ σ H (ρ.set i (some c)) (σ.set i (some (.ref p))) H':=fun a o h nh no =>
 ⟨e a o h nh,fun z=>(zke z).elim no fun z=>by subst z;rw[hp]at h;cases h⟩
theorem zjz{i:Nat}{ts:qD}{p:Addr}{H':Hp}(e:ExtE C.hd H H')(hp:H p=none):Keep C ρ σ H (ρ.set i (some (.own ts))) (σ.set i (some (.ref p))) H':=zjA e hp
theorem Stt.chgC(S:Stt K C ρ σ H n){i:Nat}{c c':Cell}{p:Addr}{o':HO}(m:c.mine=true)(m':c'.mine=true)(h1:ρ[i]?=some (some c))(h2:σ[i]?=some (some (.ref p)))
  (r:∀(O':Addr->Prop) (H':Hp),(∀a o,H a=some o->O' a->Own C ρ σ a)->(∀a o,¬Own C ρ σ a->H a=some o->H' a=some o)->H' p=some o'->QT K C.hd O' H' p c') :
  Stt K C (ρ.set i (some c')) σ (upd H p o') n/\Keep C ρ σ H (ρ.set i (some c')) σ (upd H p o'):=by
 have op:OwnS ρ σ p:=⟨i,c,m,h1,h2⟩;obtain⟨p',e1,hp,npx⟩:=S.cell m h1;rw[h2]at e1;cases e1;have own1:∀a,OwnS (ρ.set i (some c')) σ a->OwnS ρ σ a:=fun a ⟨j,d,md,q1,q2⟩=>by
  rcases JD q1 with⟨e,_⟩|⟨e,q1⟩
  ·subst e;rw[h2]at q2;cases q2;exact op
  ·exact⟨j,d,md,q1,q2⟩
 have sub:∀a o,H a=some o->Own C (ρ.set i (some c')) σ a->Own C ρ σ a:=fun a o _ z=>z.elim .inl fun z=>.inr (own1 a z)
 have kp:∀a o,¬Own C ρ σ a->H a=some o->upd H p o' a=some o:=fun a o no ho=>by rw[Jw (show a≠p from fun z=>no (by rw[z];exact .inr op))];exact ho
 have rd:zrn K C (ρ.set i (some c')) σ (upd H p o'):=fun j ks hj=>by
  rcases JD hj with⟨_,z⟩|⟨e',h'⟩
  ·subst z;cases m'
  ·obtain⟨a,kvs,q1,q2,q3,q4,q5⟩:=S.rdo j ks h';exact⟨a,kvs,q1,by rw[Jw (show a≠p from fun z=>npx (by rw[<- z];exact q4))];exact q2,q3.mono sub kp,q4,q5⟩
 refine⟨.mk' (by simp[S.len]) (fun j d hj=>?_) (fun j d md hj=>?_) rd (fun j k c1 c2 a m1 m2 q1 q2 q3 q4=>?_) (fun a ha=>?_) (fun a ha=>?_) S.hx,fun a o h nh no=>⟨by rw[Jw (show a≠p from fun z=>no (by rw[z];exact op))];exact h,fun z=>no (own1 a z)⟩⟩
 ·rcases JD hj with⟨_,z⟩|⟨e',h'⟩
  ·subst z;cases m'
  ·obtain⟨w,q1,q2⟩:=S.val j d h';exact⟨w,q1,q2.mono sub kp⟩
 ·rcases JD hj with⟨e',z⟩|⟨e',h'⟩
  ·subst z;subst e';exact⟨p,h2,r _ _ sub kp Qe,npx⟩
  ·obtain⟨a,q1,q2,q4⟩:=S.cell md h';have:a≠p:=fun z=>by subst z;exact e' (S.dif i j c d a m md h1 h' h2 q1)
   exact⟨a,q1,q2.mono sub kp (fun o ho=>by rw[Jw this];exact ho),q4⟩
 ·have get:∀(j:Nat) (d:Cell),d.mine=true->(ρ.set i (some c'))[j]?=some (some d)->∃d':Cell,d'.mine=true/\ρ[j]?=some (some d'):=fun j d md q=>by
   rcases JD q with⟨e,_⟩|⟨_,q⟩
   ·subst e;exact⟨_,m,h1⟩
   ·exact⟨_,md,q⟩
  obtain⟨d1,md1,g1⟩:=get j c1 m1 q1;obtain⟨d2,md2,g2⟩:=get k c2 m2 q2;exact S.dif j k d1 d2 a md1 md2 g1 g2 q3 q4
 ·obtain⟨d,m,t,q,rest⟩:=S.hnd a ha;exact⟨d,m,t,by rw[Jw (show a≠p from fun z=>npx (by rw[<- z];exact S.hx a ha))];exact q,rest⟩
 ·by_cases z:a=p
  ·subst z;exact absurd ha npx
  ·rw[Jw z];exact S.ext a ha
theorem Stt.chg(S:Stt K C ρ σ H n){i:Nat}{ts us:qD}{p:Addr}{ws:List V}(h1:ρ[i]?=some (some (.own ts)))(h2:σ[i]?=some (some (.ref p)))(r:Reps K C.hd (Own C ρ σ) H ws us) :
  Stt K C (ρ.set i (some (.own us))) σ (upd H p (.lst ws)) n/\Keep C ρ σ H (ρ.set i (some (.own us))) σ (upd H p (.lst ws)):=S.chgC rfl rfl h1 h2 fun _ _ a b hp=>⟨ws,hp,r.mono a b⟩
theorem Stt.freeze(S:Stt K C ρ σ H n){i:Nat}{ts:qD}(h1:ρ[i]?=some (some (.own ts))):Stt K C (ρ.set i (some (.val (.list ts)))) σ H n/\Keep C ρ σ H (ρ.set i (some (.val (.list ts)))) σ H:=by
 obtain⟨p,vs,h2,hp,hr,npx⟩:=S.own i ts h1;have own1:∀a,OwnS (ρ.set i (some (.val (.list ts)))) σ a->OwnS ρ σ a/\a≠p:=fun a ⟨j,ds,m,q1,q2⟩=>by
  rcases JD q1 with⟨_,z⟩|⟨e,q1⟩
  ·subst z;cases m
  ·exact⟨⟨j,ds,m,q1,q2⟩,fun z=>by subst z;exact e (S.dif i j (.own ts) ds a rfl m h1 q1 h2 q2)⟩
 have sub:∀a o,H a=some o->Own C (ρ.set i (some (.val (.list ts)))) σ a->Own C ρ σ a:=fun a o _ z=>z.elim .inl fun z=>.inr (own1 a z).1
 have rd:zrn K C (ρ.set i (some (.val (.list ts)))) σ H:=fun j ks hj=>by
  rcases JD hj with⟨_,z⟩|⟨e',h'⟩
  ·cases z
  ·obtain⟨a,kvs,q1,q2,q3,q4⟩:=S.rdo j ks h';exact⟨a,kvs,q1,q2,q3.mono sub fun _ _ _ z=>z,q4⟩
 refine⟨.mk' (by simp[S.len]) (fun j d hj=>?_) (fun j d m hj=>?_) rd (fun j k c1 c2 a m1 m2 q1 q2 q3 q4=>?_) S.hnd S.ext S.hx,fun a o h _ no=>⟨h,fun z=>no (own1 a z).1⟩⟩
 ·rcases JD hj with⟨e',z⟩|⟨e',h'⟩
  ·cases z;subst e';exact⟨.ref p,h2,.lst hp (fun z=>z.elim npx fun z=>(own1 p z).2 rfl) (hr.mono sub fun _ _ _ z=>z)⟩
  ·obtain⟨w,q1,q2⟩:=S.val j d h';exact⟨w,q1,q2.mono sub fun _ _ _ z=>z⟩
 ·rcases JD hj with⟨_,z⟩|⟨e',h'⟩
  ·subst z;cases m
  ·obtain⟨a,q1,q3,q4⟩:=S.cell m h';exact⟨a,q1,q3.mono sub (fun _ _ _ z=>z) fun _ z=>z,q4⟩
 ·rcases JD q1 with⟨_,z⟩|⟨_,g1⟩
  ·subst z;cases m1
  ·rcases JD q2 with⟨_,z⟩|⟨_,g2⟩
   ·subst z;cases m2
   ·exact S.dif j k _ _ a m1 m2 g1 g2 q3 q4
end
section
variable{X:Cx}{a b c e:Expr}{es rest:List Expr}{d da db dc:DTE}{ds:DTA}{dt:DTT}{t u:DTS}{st:Stmt}{sts sa sb:List Stmt}{pos p:Pos}{k:Nat}{x:Str}
def zp2:DTS:=fun D ρ n=>D.nx ρ n
def sSeq(t u:DTS):DTS:=fun D ρ n=>t { D with nx:=u D } ρ n
theorem JC:DSs X [] zp2:=⟨_,ziY,fun C ρ σ H n D D' S h g=>g.nx ρ σ H n h S Keep.refl⟩
theorem Jh(h1:DS X st t)(h2:DSs X sts u):DSs X (st::sts) (sSeq t u):=by
 obtain⟨ta,pa,h1⟩:=h1;obtain⟨tb,pb,h2⟩:=h2;refine⟨_,QG pa pb,fun C ρ σ H n D D' S h g=>?_⟩
 exact h1 C ρ σ H n _ _ S h ⟨fun ρ' σ' H' n' hn S' k=>h2 C ρ' σ' H' n' D D' S' hn (g.on k),g.rt,g.bk,g.ct⟩
theorem Jf(h1:DS X st t):DSs X [st] t:=by
 obtain⟨ta,pa,h1⟩:=h1;exact⟨_,ZY pa,h1⟩
def ZV(i:Nat)(t:DTS):DTS:=fun D ρ n=>match ρ[i]? with|some (some (.own ts))=>t D (ρ.set i (some (.val (.list ts)))) n|_=>False
theorem Uf(i:Nat)(h1:DSs X sts t):DSs X sts (ZV i t):=by
 obtain⟨ta,pa,h1⟩:=h1;refine⟨_,pa,fun C ρ σ H n D D' S h g=>?_⟩
 unfold ZV at h;split at h
 ·rename_i ts et;obtain⟨S',kp⟩:=S.freeze et;exact h1 C _ σ H n D D' S' h (g.on kp)
 ·exact h.elim
def sRet(d:DTE):DTS:=fun D ρ n=>d ρ n fun t n'=>D.rt t n'
theorem Jk(h:DE X e d):DS X (.Return (some e) pos) (sRet d):=by
 obtain⟨ta,pa,h⟩:=h;refine⟨_,Vx pa,fun C ρ σ H n D D' S hd g=>?_⟩
 refine h C ρ σ H n _ _ S hd fun t n' v H' r e1 h1 q=>?_
 exact g.rt t n' v H' r h1 (fun a o ha nh _=>e1 a o ha nh) (q.mono (fun _ _ _ z=>.inl z) fun _ _ _ z=>z)
def sIf(c:DTT)(t u:DTS):DTS:=fun D ρ n=>c ρ n fun b n1=>if b=true then t D ρ n1 else u D ρ n1
theorem Jy(hc:DT X c dt)(h1:DSs X sa t)(h2:DSs X sb u):DS X (.If c sa sb pos) (sIf dt t u):=by
 obtain⟨tc,pc,hc⟩:=hc;obtain⟨ta,pa,h1⟩:=h1;obtain⟨tb,pb,h2⟩:=h2;refine⟨_,zp_ pc pa pb,fun C ρ σ H n D D' S hd g=>?_⟩
 refine hc C ρ σ H n _ _ S hd fun b n1 H1 r e1 hn=>?_
 cases b with
 | true=>exact iteT (h1 C ρ σ H1 n1 D D' (S.on e1 hn) (by simpa using r) (g.on e1.keep))
 | false=>exact iteF (h2 C ρ σ H1 n1 D D' (S.on e1 hn) (by simpa using r) (g.on e1.keep))
def sSet(i:Nat)(d:DTE):DTS:=fun D ρ n=>d ρ n fun t n'=>D.nx (ρ.set i (some (.val t))) n'
theorem Jx{i:Nat}{pos':Pos}(hN:X.N.Nodup)(hi:X.N[i]?=some x)(hx:Loc X.env.scope x)(h:DE X e d)(hs:swapsWith e (some (.Name x pos')) pos.line X.env=pure false:=by rfl)(hf:X.fn x=true\/X.env.scope.names.lookup x=some .local:=by walk_at "F") :
  DS X (.Assign [.Name x pos'] e pos) (sSet i d):=by
 obtain⟨ta,pa,h⟩:=h;refine⟨_,Q4 hN hi hx pa hs hf,fun C ρ σ H n D D' S hd g=>?_⟩
 refine h C ρ σ H n _ _ S hd fun t n' v H' r e1 h1 q=>?_
 exact g.nx _ _ H' n' r ((S.on e1 h1).put q) (e1.keep.trans V2)
def sOwn(i:Nat)(d:DTA):DTS:=fun D ρ n=>d ρ n fun ts n'=>D.nx (ρ.set i (some (.own ts))) n'
theorem QR{i:Nat}{pos':Pos}(hN:X.N.Nodup)(hi:X.N[i]?=some x)(hx:Loc X.env.scope x)(h:DN X e ds)(hs:swapsWith e (some (.Name x pos')) pos.line X.env=pure false:=by rfl)(hf:X.fn x=true\/X.env.scope.names.lookup x=some .local:=by walk_at "F") :
  DS X (.Assign [.Name x pos'] e pos) (sOwn i ds):=by
 obtain⟨ta,pa,h⟩:=h;refine⟨_,Q4 hN hi hx pa hs hf,fun C ρ σ H n D D' S hd g=>?_⟩
 refine h C ρ σ H n _ _ S hd fun ts n' p vs H' r e1 h1 hp hp' q=>?_
 exact g.nx _ _ H' n' r (S.putOwn e1 h1 hp hp' q) (zjz e1 hp)
def sAug(i:Nat)(f:Int->Int->Int)(d:DTE):DTS:=fun D ρ n=>match ρ[i]? with
 | some (some (.val (.int j)))=>d ρ n fun t n'=>match t with|.int k=>D.nx (ρ.set i (some (.val (.int (f j k))))) n'|_=>False
 | _=>False
theorem VB{i:Nat}{op:Operator}{f:Int->Int->Int}{pos':Pos}(hN:X.N.Nodup)(hi:X.N[i]?=some x)(hx:Loc X.env.scope x)(h:DE X e d)(ho:PIp X op (ipI f))(hf:X.fn x=true\/X.env.scope.names.lookup x=some .local:=by walk_at "F") :
  DS X (.AugAssign (.Name x pos') op e pos) (sAug i f d):=by
 obtain⟨ta,pa,h⟩:=h;refine⟨_,zr8 hN hi hx pa ho hf,fun C ρ σ H n D D' S hd g=>?_⟩
 unfold sAug at hd;split at hd
 ·rename_i j ej;obtain⟨v,h1,h2⟩:=S.val i _ ej;refine⟨v,h1,h C ρ σ H n _ _ S hd fun t n' w H' r e1 hn q=>?_⟩
  cases t with
  | int k=>exact⟨j,k,h2.intI,q.intI,g.nx _ _ H' n' r ((S.on e1 hn).put (.int _)) (e1.keep.trans V2)⟩
  | _=>exact r.elim
 ·exact hd.elim
abbrev DTG:=PyData->En->(En->Prop)->Prop
abbrev DTGs:=List PyData->En->(En->Prop)->Prop
def DG(X:Cx)(tg:Expr)(is:List Nat)(d:DTG):Prop:=(∀t ρ R,d t ρ R->∃ρ',R ρ')/\∃g,PG X tg g/\∀(C:Ctx) (ρ:En) (σ:St) (H:Hp) (n:Nat) (v:V) (t:PyData) (Q:St->Hp->Prop) (R:En->Prop),Stt X.K C ρ σ H n->Rep X.K C.hd (Own C ρ σ) H v t->d t ρ R ->
 (∀ρ' σ',R ρ'->Stt X.K C ρ' σ' H n->Keep C ρ σ H ρ' σ' H->(∀j,j∉is->σ'[j]?=σ[j]?)->σ'.length=σ.length->Q σ' H)->g v σ H Q
def DGs(X:Cx)(tgs:List Expr)(is:List Nat)(d:DTGs):Prop:=(∀ts ρ R,d ts ρ R->ts.length=tgs.length)/\(∀t ρ R,d t ρ R->∃ρ',R ρ')/\∃g,PGs X tgs g/\∀(C:Ctx) (ρ:En) (σ:St) (H:Hp) (n:Nat) (vs:List V) (ts:qD) (Q:St->Hp->Prop) (R:En->Prop),Stt X.K C ρ σ H n->Reps X.K C.hd (Own C ρ σ) H vs ts->d ts ρ R ->
 (∀ρ' σ',R ρ'->Stt X.K C ρ' σ' H n->Keep C ρ σ H ρ' σ' H->(∀j,j∉is->σ'[j]?=σ[j]?)->σ'.length=σ.length->Q σ' H)->g vs σ H Q
def QD(i:Nat):DTG:=fun t ρ R=>R (ρ.set i (some (.val t)))
def U7:DTGs:=fun ts ρ R=>match ts with|[]=>R ρ|_=>False
def Q6(d:DTG)(ds:DTGs):DTGs:=fun ts ρ R=>match ts with|t::ts=>d t ρ fun ρ'=>ds ts ρ' R|[]=>False
def U8(ds:DTGs):DTG:=fun t ρ R=>match t with|.tuple ts=>ds ts ρ R|_=>False
theorem Ji{i:Nat}(hN:X.N.Nodup)(hi:X.N[i]?=some x)(hx:Loc X.env.scope x)(hf:X.fn x=true\/X.env.scope.names.lookup x=some .local:=by walk_at "F"):DG X (.Name x pos) [i] (QD i):=by
 refine⟨fun t ρ R h=>⟨_,h⟩,_,zqh hN hi hx hf,fun C ρ σ H n v t Q R S r hd hq=>?_⟩
 exact hq _ _ hd (S.put r) V2 (fun j hj=>by rw[List.getElem?_set_ne (fun z=>hj (by simp[z]))]) (by simp)
theorem JH:DGs X [] [] U7:=by
 refine⟨fun ts ρ R h=>?_,fun ts ρ R h=>?_,_,zqg,fun C ρ σ H n vs ts Q R S r hd hq=>?_⟩
 ·cases ts with
  | nil=>rfl
  | cons _ _=>exact h.elim
 ·cases ts with
  | nil=>exact⟨_,h⟩
  | cons _ _=>exact h.elim
 ·cases r with
  | nil=>exact⟨rfl,hq _ _ hd S Keep.refl (fun _ _=>rfl) rfl⟩
  | cons _ _=>exact hd.elim
theorem Jn{is js:List Nat}{g:DTG}{gs:DTGs}(h1:DG X e is g)(h2:DGs X es js gs)(hs:(assignEach (e::es) X.env).map (·.2)=assign e X.env::(assignEach es X.env).map (·.2):=by rfl):DGs X (e::es) (is++js) (Q6 g gs):=by
 obtain⟨w1,ga,pa,h1⟩:=h1;obtain⟨l2,w2,gb,pb,h2⟩:=h2;refine⟨fun ts ρ R h=>?_,fun ts ρ R h=>?_,_,zoH pa pb hs,fun C ρ σ H n vs ts Q R S r hd hq=>?_⟩
 ·cases ts with
  | nil=>exact h.elim
  | cons t ts =>
   obtain⟨ρ',h'⟩:=w1 t ρ _ h;simp[l2 ts ρ' R h']
 ·cases ts with
  | nil=>exact h.elim
  | cons t ts =>
   obtain⟨ρ',h'⟩:=w1 t ρ _ h;exact w2 ts ρ' R h'
 ·cases r with
  | nil=>exact hd.elim
  | cons r rs =>
   refine⟨_,_,rfl,h1 C ρ σ H n _ _ _ _ S r hd fun ρ' σ' hr S' kp hj hl=>?_⟩
   refine h2 C ρ' σ' H n _ _ _ _ S' (kp.reps S.hx rs) hr fun ρ2 σ2 hr2 S2 kp2 hj2 hl2=>?_
   exact hq ρ2 σ2 hr2 S2 (kp.trans kp2) (fun j hj'=>by rw[hj2 j (fun z=>hj' (by simp[z])),hj j (fun z=>hj' (by simp[z]))]) (hl2.trans hl)
theorem JJ{is:List Nat}{gs:DTGs}{k:Nat}(hc:X.calm=true)(h:DGs X es is gs)(hn:(assignEach es X.env).length=es.length:=by rfl)(hst:(assignEach es X.env).findIdx? (·.1)=none:=by rfl):DG X (.Tuple es k pos) is (U8 gs):=by
 obtain⟨l,w,g,pg,h⟩:=h;refine⟨fun t ρ R h=>?_,_,zse hc pg hn hst,fun C ρ σ H n v t Q R S r hd hq=>?_⟩
 ·cases t with
  | tuple ts=>exact w ts ρ R h
  | _=>exact h.elim
 ·cases t with
  | tuple ts =>
   obtain⟨p,vs,rfl,h1,h2⟩:=r.tupI;exact⟨p,vs,rfl,h1,by rw[h2.length];exact l ts ρ R hd,h C ρ σ H n vs ts Q R S h2 hd hq⟩
  | _=>exact hd.elim
def sAsg(d:DTE)(g:DTG):DTS:=fun D ρ n=>d ρ n fun t n'=>g t ρ fun ρ'=>D.nx ρ' n'
theorem QQ{tg:Expr}{is:List Nat}{g:DTG}(h:DE X e d)(hg:DG X tg is g)(hs:swapsWithSole [tg] e pos.line X.env=pure false:=by rfl)(hw:swappedStores [tg] e X.env=pure none:=by rfl)
  (h1:(assignEach [tg] X.env).map (·.2)=[assign tg X.env]:=by rfl):DS X (.Assign [tg] e pos) (sAsg d g):=by
 obtain⟨ta,pa,h⟩:=h;obtain⟨w,gb,pb,hg⟩:=hg;refine⟨_,Vw pa pb hs hw h1,fun C ρ σ H n D D' S hd gd=>?_⟩
 refine h C ρ σ H n _ _ S hd fun t n' v H' r e1 hn q=>?_
 exact hg C ρ σ H' n' v t _ _ (S.on e1 hn) q r fun ρ' σ' hr S' kp _ _=>gd.nx ρ' σ' H' n' hr S' (e1.keep.trans kp)
def ZU(i:Nat)(d:DTE):DTS:=fun D ρ n=>match ρ[i]? with
 | some (some (.own ts))=>d ρ n fun t n'=>ts.length<16777216/\D.nx (ρ.set i (some (.own (ts++[t])))) n'
 | _=>False
theorem QJ(i:Nat){p1 p2 p3:Pos}(h:DE X e d)(hN:X.N[i]?=some x:=by rfl)(hv:Vis X.env.scope x:=by walk_at "V")(hd:(x == ("__debug__":Str))=false:=by decide)
  (hcd:(x == ("__classdict__":Str))=false:=by decide) (hs:swapsWith (.Call (.Attribute (.Name x p1) "append" p2) [e] [] p3) none pos.line X.env=pure false:=by rfl)
  (hbase:attributeBase (.Name x p1) "append" X.env (eval (.Name x p1) X.env)=eval (.Name x p1) X.env:=by rfl)
  (hfew:((backTo p3 (starEach [e] X.env)).all (fun x=>!x.1)&&(backToKw p3 (keywordEach [] X.env)).all (fun x=>x.1.isSome)
   && decide ([e].length+([]:List Keyword).length+(if ([]:List Keyword).isEmpty then 0 else 1)<30))=true:=by rfl)
  (hline:(p2.endLine == p3.line)=true:=by rfl) (hst:starEach [e] X.env=[(false,eval e X.env)]:=by rfl):DS X (.Expr (.Call (.Attribute (.Name x p1) "append" p2) [e] [] p3) pos) (ZU i d):=by
 obtain⟨ta,pa,h⟩:=h;refine⟨_,ziZ (zql PySem.F.plainAttrs_list PySem.F.slot_list_append PySem.F.type_list_append zfc (Q3 hN hv hd hcd) (UJ pa Yu hst) hbase hfew hline hst rfl) hs,fun C ρ σ H n D D' S hd g=>?_⟩
 unfold ZU at hd;split at hd
 ·rename_i ts et;obtain⟨p,vs,h1,h2,h3,h4⟩:=S.own i ts et;refine⟨.ref p,h1,.inl ⟨rfl,_,SqL.of h2⟩,?_⟩;refine h C ρ σ H n _ _ S hd fun t n' v H' r e1 hn q=>?_
  have S1:=S.on e1 hn;obtain⟨p',vs',h1',h2',h3',h4'⟩:=S1.own i ts et;rw[h1]at h1';cases h1';refine⟨p,vs',v,rfl,rfl,h2',by rw[h3'.length];exact r.1,?_⟩
  obtain⟨S2,k2⟩:=S1.chg et h1 (h3'.append (.cons q .nil));exact g.nx _ _ _ n' r.2 S2 (e1.keep.trans k2)
 ·exact hd.elim
def sPut(i:Nat)(dj d:DTE):DTS:=fun D ρ n=>d ρ n fun t n1=>match ρ[i]? with
 | some (some (.own ts))=>dj ρ n1 fun j n2=>match j with|.int j=>(match ixN ts.length j with|some k=>D.nx (ρ.set i (some (.own (ts.set k t)))) n2|none=>False)|_=>False
 | _=>False
theorem ztO(i:Nat){dj:DTE}{p1 p2:Pos}(hj:DE X b dj)(h:DE X e d)(hN:X.N[i]?=some x:=by rfl)(hv:Vis X.env.scope x:=by walk_at "V")(hd:(x == ("__debug__":Str))=false:=by decide)
  (hcd:(x == ("__classdict__":Str))=false:=by decide) (hs:swapsWithSole [.Subscript (.Name x p1) b p2] e pos.line X.env=pure false:=by rfl) (hw:swappedStores [.Subscript (.Name x p1) b p2] e X.env=pure none:=by rfl)
  (h1:(assignEach [.Subscript (.Name x p1) b p2] X.env).map (·.2)=[assign (.Subscript (.Name x p1) b p2) X.env]:=by rfl)
  (hsub:PG X (.Subscript (.Name x p1) b p2)=PG X (.Subscript (.Name x p1) b p2):=rfl) (pg:∀{to ti:TE} {t:TSet},PE X (.Name x p1) to->PE X b ti->PSet X t->PG X (.Subscript (.Name x p1) b p2) (L2.gSub to ti t):=by intro _ _ _ h1 h2 h3;exact pg_sub h1 h2 h3) :
  DS X (.Assign [.Subscript (.Name x p1) b p2] e pos) (sPut i dj d):=by
 obtain⟨ta,pa,h⟩:=h;obtain⟨tj,pj,hj⟩:=hj;refine⟨_,Vw pa (pg (Q3 hN hv hd hcd) pj set_list) hs hw h1,fun C ρ σ H n D D' S hd g=>?_⟩
 refine h C ρ σ H n _ _ S hd fun t n1 v H1 r e1 hn q=>?_
 have S1:=S.on e1 hn;split at r
 ·rename_i ts et;obtain⟨p,vs,h1,h2,h3,h4⟩:=S1.own i ts et;refine⟨.ref p,h1,hj C ρ σ H1 n1 _ _ S1 r fun j n2 w H2 r2 e2 hn2 q2=>?_⟩
  have S2:=S1.on e2 hn2;cases j with
  | int j =>
   have r2:(match ixN ts.length j with|some k=>D'.nx (ρ.set i (some (.own (ts.set k t)))) n2|none=>False):=r2
   cases ek:ixN ts.length j with
   | none=>rw[ek]at r2;exact r2.elim
   | some m =>
    rw[ek]at r2;obtain⟨p',vs',h1',h2',h3',h4'⟩:=S2.own i ts et;rw[h1]at h1';cases h1';refine⟨p,vs',j,m,rfl,q2.intI,h2',by rw[h3'.length];exact ek,?_⟩
    obtain⟨S3,k3⟩:=S2.chg et h1 (h3'.set (e2.rep S.hx q) m);exact g.nx _ _ _ n2 r2 S3 ((e1.trans e2).keep.trans k3)
  | _=>exact r2.elim
 ·exact r.elim
def zmb(c:DTT)(tb:DTS):DTS:=fun D ρ n=>∃W:Nat->En->Nat->Prop,(∃m,W m ρ n)/\∀m ρ n,W m ρ n ->
 c ρ n fun b n1=>if b=true then tb { D with nx:=fun ρ' n'=>∃m',m'<m/\W m' ρ' n',ct:=fun ρ' n'=>∃m',m'<m/\W m' ρ' n',bk:=D.nx } ρ n1 else D.nx ρ n1
theorem VZ(hp:PassesOwn (model X.prog X.w) X.A X.env X.xe)(hc:DT X c dt)(hb:DSs X sa t):DS X (.While c sa [] pos) (zmb dt t):=by
 obtain⟨tc,pc,hc⟩:=hc;obtain⟨tb,pb,hb⟩:=hb;refine⟨_,zoC hp pc pb,fun C ρ σ H n D D' S hd g=>?_⟩
 obtain⟨W,⟨m0,w0⟩,turn⟩:=hd;refine⟨fun m σ1 H1=>∃ρ1 n1,W m ρ1 n1/\Stt X.K C ρ1 σ1 H1 n1/\Keep C ρ σ H ρ1 σ1 H1,⟨m0,ρ,n,w0,S,Keep.refl⟩,?_⟩
 rintro m σ1 H1 ⟨ρ1,n1,w1,S1,k1⟩;refine hc C ρ1 σ1 H1 n1 _ _ S1 (turn m ρ1 n1 w1) fun b n2 H2 r e2 hn2=>?_
 have S2:=S1.on e2 hn2;have k2:=k1.trans e2.keep;cases b with
 | true =>
  refine iteT ⟨fun σ' H'=>∃m',m'<m/\∃ρ' n',W m' ρ' n'/\Stt X.K C ρ' σ' H' n'/\Keep C ρ σ H ρ' σ' H',fun σ' H' ⟨m',hm,z⟩=>⟨m',hm,z⟩,?_⟩
  refine hb C ρ1 σ1 H2 n2 _ { D' with nx:=fun ρ' n'=>∃m',m'<m/\W m' ρ' n',ct:=fun ρ' n'=>∃m',m'<m/\W m' ρ' n',bk:=D'.nx } S2 (by simpa using r) ⟨?_,fun t n' v H' h hn k' r=>g.rt t n' v H' h hn (fun a o ha nh no=>?_) r,?_,?_⟩
  ·rintro ρ' σ' H' n' ⟨m',hm,w'⟩ S' k';exact⟨m',hm,ρ',n',w',S',k2.trans k'⟩
  ·obtain⟨q1,q2⟩:=k2 a o ha nh no;exact k' a o q1 nh q2
  ·intro ρ' σ' H' n' h' S' k';exact g.nx ρ' σ' H' n' h' S' (k2.trans k')
  ·rintro ρ' σ' H' n' ⟨m',hm,w'⟩ S' k';exact⟨m',hm,ρ',n',w',S',k2.trans k'⟩
 | false=>exact iteF (g.nx ρ1 σ1 H2 n2 (by simpa using r) S2 k2)
end
def ItOk(K:qF)(hd:Option Addr)(P O:Addr->Prop)(H:Hp)(J:It)(ts:qD):Prop:=∀(O2:Addr->Prop) (H2:Hp),(∀a o,H a=some o->P a->H2 a=some o)->(∀a o,H a=some o->¬O a->¬O2 a)->(∀a,O2 a->H2 a≠none) ->
 (∀i t,ts[i]?=some t->J.go i H2/\∀x H3,J.yld i H2 x H3->Same H2 H3/\Rep K hd O2 H3 x t)/\J.stop ts.length H2
def DI(X:Cx)(tg iter:Expr)(d:DTA):Prop:=∃wi,PI X tg iter wi/\∀(C:Ctx) (ρ:En) (σ:St) (H:Hp) (n:Nat) (Q:It->Hp->Prop) (R:List PyData->Nat->Prop),Stt X.K C ρ σ H n->d ρ n R ->
 (∀ts n' J H',R ts n'->ExtE C.hd H H'->Hn C.hd H' n'->ItOk X.K C.hd (fun a=>¬Own C ρ σ a) (Own C ρ σ) H' J ts->Q J H')->wi σ H Q
def DIL(X:Cx)(tg iter:Expr)(d:DTA):Prop:=∃wi,PI X tg iter wi/\∀(C:Ctx) (ρ:En) (σ:St) (H:Hp) (n:Nat) (Q:It->Hp->Prop) (R:List PyData->Nat->Prop),Stt X.K C ρ σ H n->d ρ n R ->
 (∀ts n' J H',R ts n'->ExtE C.hd H H'->Hn C.hd H' n'->ItOk X.K C.hd (fun a=>C.hd≠some a) (Own C ρ σ) H' J ts->Q J H')->wi σ H Q
section
variable{X:Cx}{a b c e tg iter:Expr}{es rest:List Expr}{d da db dc:DTE}{ds di:DTA}{dt:DTT}{t u:DTS}{st:Stmt}{sts sa sb:List Stmt}{pos p:Pos}{k:Nat}{x:Str}
theorem dil(h:DI X tg iter di):DIL X tg iter di:=by
 obtain⟨wi,pi,h⟩:=h;refine⟨wi,pi,fun C ρ σ H n Q R S hd hq=>h C ρ σ H n Q R S hd fun ts n' J H' r e1 hn it=>hq ts n' J H' r e1 hn ?_⟩
 exact fun O2 H2 h1 h2 h3=>it O2 H2 (fun a o ha no=>h1 a o ha fun z=>no (.inl (S.hx a z))) h2 h3
theorem Reps.getP{K:qF}{hd:Option Addr}{O:Addr->Prop}{H:Hp}{vs ts}{i:Nat}{t}{x:V}(r:Reps K hd O H vs ts)(h:ts[i]?=some t)(hx:vs[i]?=some x):Rep K hd O H x t:=by
 obtain⟨v,h1,h2⟩:=r.get h;rw[hx]at h1;cases h1;exact h2
theorem VW{K:qF}{hd:Option Addr}{P O:Addr->Prop}{H:Hp}{q:Addr}{vs ts}(hq:H q=some (.lst vs))(hP:P q)(hO:∀a,¬O a->P a)(r:Reps K hd O H vs ts):ItOk K hd P O H (Itl K q) ts:=by
 intro O2 H2 h1 h2 _;have hq2:=h1 q _ hq hP;have r2:Reps K hd O2 H2 vs ts:=r.mono (fun a o ha z=>Classical.byContradiction fun no=>h2 a o ha no z) fun a o no ha=>h1 a o ha (hO a no)
 refine⟨fun i t et=>?_,⟨vs,.of hq2,by rw[r.length];exact Nat.le_refl _⟩⟩
 obtain⟨v,ev,rv⟩:=r2.get et;refine⟨⟨vs,v,.of hq2,ev⟩,fun x H3 hy=>?_⟩
 obtain⟨rfl,hy⟩:=hy;exact⟨Same.refl _,r2.getP et (hy vs (.of hq2))⟩
theorem zpK{K:qF}{hd:Option Addr}{P O:Addr->Prop}{H:Hp}{v:V}{ts}(hO:∀a,¬O a->P a)(r:Rep K hd O H v (.tuple ts)):∃q vs,v=.ref q/\SqT K H q vs/\ItOk K hd P O H (Itt K q) ts:=by
 have key:∀q vs,Reps K hd O H vs ts->(∀(O2:Addr->Prop) (H2:Hp),(∀a o,H a=some o->P a->H2 a=some o)->(∀a o,H a=some o->¬O a->¬O2 a)->SqT K H2 q vs)->ItOk K hd P O H (Itt K q) ts:=by
  intro q vs r hs O2 H2 h1 h2 _;have hq2:=hs O2 H2 h1 h2;have r2:Reps K hd O2 H2 vs ts:=r.mono (fun a o ha z=>Classical.byContradiction fun no=>h2 a o ha no z) fun a o no ha=>h1 a o ha (hO a no)
  refine⟨fun i t et=>?_,⟨vs,hq2,by rw[r.length];exact Nat.le_refl _⟩⟩
  obtain⟨v,ev,rv⟩:=r2.get et;refine⟨⟨vs,v,hq2,ev⟩,fun x H3 hy=>?_⟩
  obtain⟨rfl,hy⟩:=hy;exact⟨Same.refl _,r2.getP et (hy vs hq2)⟩
 cases r with
 | @tup q vs ds h o r=>exact⟨q,vs,rfl,.inl (.inl h),key q vs r fun O2 H2 h1 _=>.inl (.inl (h1 q _ h (hO q o)))⟩
 | @tupS q vs ds h r=>exact⟨q,vs,rfl,h.sq,key q vs r fun O2 H2 _ _=>h.sq⟩
def dItL(d:DTE):DTA:=fun ρ n R=>d ρ n fun t n'=>match t with|.list ts=>R ts n'|_=>False
def dItT(d:DTE):DTA:=fun ρ n R=>d ρ n fun t n'=>match t with|.tuple ts=>R ts n'|_=>False
theorem Ur(h:DE X iter d):DI X tg iter (dItL d):=by
 obtain⟨ta,pa,h⟩:=h;refine⟨_,zmq pa,fun C ρ σ H n Q R S hd hq=>?_⟩
 refine h C ρ σ H n _ _ S hd fun t n' v H' r e1 hn q=>?_
 cases t with
 | list ts =>
  obtain⟨p,vs,rfl,h1,no,h2⟩:=q.lstI;exact⟨p,rfl,⟨vs,.of h1⟩,hq ts n' _ H' r e1 hn (VW h1 no (fun _ z=>z) h2)⟩
 | _=>exact r.elim
theorem zpm(h:DL X iter d):DIL X tg iter (dItL d):=by
 obtain⟨ta,pa,h⟩:=h;refine⟨_,zmq pa,fun C ρ σ H n Q R S hd hq=>?_⟩
 refine h C ρ σ H n _ _ S hd fun t n' v H' r e1 hn q=>?_
 cases t with
 | list ts =>
  rcases q with q|⟨p,vs,ds,rfl,et,h1,h2,nh⟩|⟨p,zs,ep,ks,rfl,et,h1,h2,nh⟩
  rotate_left 2
  ·cases et
  ·obtain⟨p,vs,rfl,h1,no,h2⟩:=q.lstI;exact⟨p,rfl,⟨vs,.of h1⟩,hq ts n' _ H' r e1 hn (VW h1 (fun z=>no (.inl (S.hx p z))) (fun a no z=>no (.inl (S.hx a z))) h2)⟩
  ·cases et;exact⟨p,rfl,⟨vs,.of h1⟩,hq ts n' _ H' r e1 hn (VW h1 nh (fun a no z=>no (.inl (S.hx a z))) h2)⟩
 | _=>exact r.elim
theorem Qo(h:DE X iter d):DI X tg iter (dItT d):=by
 obtain⟨ta,pa,h⟩:=h;refine⟨_,zsb pa,fun C ρ σ H n Q R S hd hq=>?_⟩
 refine h C ρ σ H n _ _ S hd fun t n' v H' r e1 hn q=>?_
 cases t with
 | tuple ts =>
  obtain⟨p,vs,rfl,h1,it⟩:=zpK (P:=fun a=>¬Own C ρ σ a) (fun _ z=>z) q
  exact⟨p,rfl,⟨vs,h1⟩,hq ts n' _ H' r e1 hn it⟩
 | _=>exact r.elim
def Qw(lo:Int)(n:Nat):List PyData:=(List.range n).map fun(i:Nat)=>PyData.int (lo+(i:Int))
theorem zo6{K:qF}{hd:Option Addr}{P O:Addr->Prop}{H:Hp}{lo:Int}{m:Nat}:ItOk K hd P O H (Itr lo m) (Qw lo m):=by
 intro O2 H2 _ _ _;refine⟨fun i t et=>?_,by show m<=(Qw lo m).length;simp[Qw]⟩
 unfold Qw at et;rw[List.getElem?_map]at et
 by_cases hi:i<m
 ·rw[List.getElem?_range hi]at et;cases et;refine⟨hi,fun x H3 hy=>?_⟩
  obtain⟨rfl,rfl⟩:=hy;exact⟨Same.refl _,.int _⟩
 ·rw[List.getElem?_eq_none (by simp;omega)]at et
  cases et
def ZE(d:DTE):DTA:=fun ρ n R=>d ρ n fun t n'=>match t with|.int j=>(-(2 ^ 62)<=j/\j<2 ^ 62)/\R (Qw 0 j.toNat) n'|_=>False
theorem V9(hm:X.mg "range" = none) (h:DE X a d) (hg:Gl X "range":=by rfl) (hs:starEach [a] X.env=[(false,eval a X.env)]:=by rfl):DI X tg (.Call (.Name "range" p) [a] [] pos) (ZE d):=by
 obtain⟨ta,pa,h⟩:=h;refine⟨_,zmp hg hm (UJ pa Yu hs) hs,fun C ρ σ H n Q R S hd hq=>?_⟩
 refine h C ρ σ H n _ _ S hd fun t n' v H' r e1 hn q=>?_
 cases t with
 | int j =>
  rw[q.intI];exact⟨j,rfl,r.1.1,r.1.2,hq _ n' _ H' r.2 e1 hn zo6⟩
 | _=>exact r.elim
def forP(g:DTG)(tb:DTS)(D:DEnds):List PyData->En->Nat->Prop
 | [],ρ,n=>D.nx ρ n
 | t::ts,ρ,n=>g t ρ fun ρ'=>tb { D with nx:=forP g tb D ts,ct:=forP g tb D ts,bk:=D.nx } ρ' n
def sFor(di:DTA)(g:DTG)(tb:DTS):DTS:=fun D ρ n=>di ρ n fun ts n1=>forP g tb D ts ρ n1
theorem QZ{is:List Nat}{g:DTG}(hp:PassesOwn (model X.prog X.w) X.A X.env X.xe)(hc:X.calm=true)(hi:DI X tg iter di)(hg:DG X tg is g)(hb:DSs X sa t)
  (hs:∀x,foldedSetIterable iter X.env x=pure x:=by intro _;rfl):DS X (.For tg iter sa [] pos) (sFor di g t):=by
 obtain⟨wi,pi,hi⟩:=hi;obtain⟨_,gg,pg,hg⟩:=hg;obtain⟨tb,pb,hb⟩:=hb;refine⟨_,zr7 hp hc pi pg pb hs,fun C ρ σ H n D D' S hd gd=>?_⟩
 refine hi C ρ σ H n _ _ S hd fun ts n1 J H1 r e1 hn it=>?_
 have S1:=S.on e1 hn;refine⟨fun i m σ2 H2=>m=ts.length - i/\i<=ts.length/\∃ρ2 n2,forP g t D' (ts.drop i) ρ2 n2/\Stt X.K C ρ2 σ2 H2 n2/\Keep C ρ σ H1 ρ2 σ2 H2,⟨ts.length,by simp,Nat.zero_le _,ρ,n1,by simpa using r,S1,Keep.refl⟩,?_⟩
 rintro i m σ2 H2 ⟨rfl,hi',ρ2,n2,f2,S2,k2⟩;have itq:=it (Own C ρ2 σ2) H2 (fun a o ha no=>(k2 a o ha (fun z=>no (.inl (S.hx a z))) fun z=>no (.inr z)).1) (fun a o ha no z=>z.elim (fun z=>no (.inl z)) fun z=>(k2 a o ha (fun y=>no (.inl (S.hx a y))) fun y=>no (.inr y)).2 z) (fun a=>S2.dom)
 by_cases hlt:i<ts.length
 ·have et:ts[i]?=some ts[i]:=List.getElem?_eq_getElem hlt;obtain⟨go,yl⟩:=itq.1 i _ et;rw[List.drop_eq_getElem_cons hlt]at f2;refine .inr ⟨go,fun σ' H'=>∃ρ' n',forP g t D' (ts.drop (i+1)) ρ' n'/\Stt X.K C ρ' σ' H' n'/\Keep C ρ σ H1 ρ' σ' H',fun σ' H' z=>⟨ts.length - (i+1),by omega,rfl,hlt,z⟩,fun x H3 hy=>?_⟩
  obtain⟨sm,rx⟩:=yl x H3 hy;have S3:=S2.on sm.ext (S2.hnd.same sm);have k3:Keep C ρ σ H1 ρ2 σ2 H3:=k2.trans (Same.ext sm:ExtE C.hd H2 H3).keep;refine hg C ρ2 σ2 H3 n2 x _ _ _ S3 rx f2 fun ρ4 σ4 r4 S4 k4 _ _=>?_
  have k5:=k3.trans k4;refine hb C ρ4 σ4 H3 n2 _ { D' with nx:=forP g t D' (ts.drop (i+1)),ct:=forP g t D' (ts.drop (i+1)),bk:=D'.nx } S4 r4 ⟨fun ρ' σ' H' n' h' S' k'=>⟨ρ',n',h',S',k5.trans k'⟩,fun t n' v H' h hn' k' rp=>gd.rt t n' v H' h hn' (fun a o ha nh no=>?_) rp,fun ρ' σ' H' n' h' S' k'=>gd.nx ρ' σ' H' n' h' S' (e1.keep.trans (k5.trans k')),fun ρ' σ' H' n' h' S' k'=>⟨ρ',n',h',S',k5.trans k'⟩⟩
  obtain⟨q1,q2⟩:=(e1.keep.trans k5) a o ha nh no;exact k' a o q1 nh q2
 ·have e:i=ts.length:=by omega
  subst e;rw[List.drop_length]at f2;exact .inl ⟨itq.2,gd.nx ρ2 σ2 H2 n2 f2 S2 (e1.keep.trans k2)⟩
def J6(N:List Str)(ts:qD):En:=ts.map (fun t=>some (.val t))++List.replicate (N.length - ts.length) none
theorem zlY{K:qF}{hd:Option Addr}{O:Addr->Prop}{H:Hp}{n:Nat}{N:List Str}{vs:List V}{ts:qD}(r:Reps K hd O H vs ts)(hn:Hn hd H n)(dom:∀a,O a->MutO (H a))(hx:∀a,hd=some a->O a) :
  Stt K ⟨hd,O⟩ (J6 N ts) (start N vs) H n/\∀a,¬OwnS (J6 N ts) (start N vs) a:=by
 have get:∀(i:Nat) c,(J6 N ts)[i]?=some (some c)->∃t,c=.val t/\ts[i]?=some t:=fun i c h=>by
  unfold J6 at h
  by_cases hi:i<ts.length
  ·rw[List.getElem?_append_left (by simpa using hi),List.getElem?_map]at h
   cases e:ts[i]? with
   | none=>rw[e]at h;cases h
   | some t=>rw[e]at h;cases h;exact⟨t,rfl,rfl⟩
  ·rw[List.getElem?_append_right (by simpa using hi),List.getElem?_replicate]at h
   split at h <;> cases h
 have no:∀a,¬OwnS (J6 N ts) (start N vs) a:=fun a ⟨i,ds,m,h1,_⟩=>by
  obtain⟨t,e,_⟩:=get i _ h1;subst e;cases m
 refine⟨.mk' (by unfold J6 start;simp[r.length]) (fun i d h=>?_) (fun i ds m h=>?_) (fun i ks h=>by obtain⟨t,e,_⟩:=get i _ h;cases e) (fun i j ds es a m _ h=>?_) hn dom hx,no⟩
 ·obtain⟨t,e,et⟩:=get i _ h;cases e;obtain⟨v,ev,rv⟩:=r.get et;refine⟨v,?_,rv.mono (fun a o _ z=>z.elim id fun z=>absurd z (no a)) fun _ _ _ z=>z⟩
  unfold start;have hi:i<vs.length:=by
   rcases Nat.lt_or_ge i vs.length with z|z
   ·exact z
   ·rw[List.getElem?_eq_none z]at ev;cases ev
  rw[List.getElem?_append_left (by simpa using hi),List.getElem?_map,ev];rfl
 ·obtain⟨t,e,_⟩:=get i _ h;subst e;cases m
 ·obtain⟨t,e,_⟩:=get i _ h;subst e;cases m
end
end L2
namespace Bd
open PySem L2 PyProof.Rows
theorem Def.okD{P:Program}{w:World}{K:qF}{mg:qM}{base:Heap}{x:Str}{st:Stmt}{ps N:List Str}{f:Addr}{fd:FuncData}{k m:Nat}{g:GD}(D:Def K mg x st ps f fd)(S:FnScope N ps (Jj st))(hm:m=ps.length)
  (hb:∀(cdv:Value) (A:Around) (outer:List Env) (s:Shared) (H:Hp) (E:XK),Room k (A.deeper (envOfC x (Jj st) s.heap.objs.size f cdv))->∃d,DSs (cxOf CX0 P w K mg base N x (Jj st) f cdv A outer s H E).nox (Qn st) d /\
   ∀ts n R,ts.length=m->g ts n R->d { nx:=fun _ n'=>R .none n',rt:=R } (J6 N ts) n):FnOk P w K mg base CX0 (k+1) f fd ps (spD K m g):=by
 refine D.F.ok S (fun vs H Q E h=>?_) (fun cdv A outer s H vs Q E hr h=>?_)
 ·obtain⟨hd,O,ts,n,R,r,_,_,_,hl,_⟩:=h;rw[r.length,hl,hm]
 ·obtain⟨hd,O,ts,n,R,r,hn,dom,hx,hl,hg,hq⟩:=h;obtain⟨d,⟨t,pt,ht⟩,hd'⟩:=hb cdv A outer s H E hr;obtain⟨S0,no⟩:=zlY (N:=N) r hn dom hx;refine⟨t,pt,ht ⟨hd,O⟩ _ _ H n _ _ S0 (hd' ts n R hl hg) ⟨fun ρ' σ' H' n' h S' k'=>?_,fun t n' v H' h hn' k' rp=>?_,fun _ _ _ _ h=>h.elim,fun _ _ _ _ h=>h.elim⟩⟩
  ·exact hq .none n' .non H' h (fun a o ha nh=>(k' a o ha nh (no a)).1) S'.hnd .non
  ·exact hq t n' v H' h (fun a o ha nh=>k' a o ha nh (no a)) hn' rp
end Bd
namespace L2
open PySem PySem.Spec PyProof.Rows
def DTs(Y:Cx)(ifs:List Expr)(d:DTT):Prop:=∃te,PTs Y ifs te/\∀(C:Ctx) (ρ:En) (σ:St) (H:Hp) (n:Nat) (Q:Bool->Hp->Prop) (R:Bool->Nat->Prop),Stt Y.K C ρ σ H n->d ρ n R ->
 (∀b n' H',R b n'->ExtE C.hd H H'->Hn C.hd H' n'->Q b H')->te σ H Q
def dYes:DTT:=fun _ n R=>R true n
section
variable{Y:Cx}{c:Expr}{d:DTT}
theorem JW:DTs Y [] dYes:=⟨_,zp9,fun C ρ σ H n Q R S h hq=>hq true n H h ExtE.refl S.hnd⟩
theorem ZS(h:DT Y c d):DTs Y [c] d:=by
 obtain⟨te,p,h⟩:=h;exact⟨_,zp8 p,h⟩
end
theorem DE.uni{ι:Type}{Xf:ι->Cx}{K:qF}(hK:∀i,(Xf i).K=K){e:Expr}{d:DTE}(h:∀i,DE (Xf i) e d):∃te:TE,(∀i,PE (Xf i) e te)/\∀(C:Ctx) (ρ:En) (σ:St) (H:Hp) (n:Nat) (Q:VK) (R:qN),Stt K C ρ σ H n->d ρ n R ->
  (∀t n' v H',R t n'->ExtE C.hd H H'->Hn C.hd H' n'->Rep K C.hd (Own C ρ σ) H' v t->Q v H')->te σ H Q:=by
 refine⟨fun σ H Q=>∀i,(Classical.choose (h i)) σ H Q,fun i pins s σ H Q I hw=>(Classical.choose_spec (h i)).1 pins s σ H Q I (hw i),fun C ρ σ H n Q R S hd hq i=>?_⟩
 have:=(Classical.choose_spec (h i)).2 C ρ σ H n Q R;exact this (by rw[hK i];exact S) hd fun t n' v H' r e h q=>hq t n' v H' r e h (by rw[<- hK i];exact q)
theorem DTs.uni{ι:Type}{Xf:ι->Cx}{K:qF}(hK:∀i,(Xf i).K=K){e:List Expr}{d:DTT}(h:∀i,DTs (Xf i) e d):∃te:TT,(∀i,PTs (Xf i) e te)/\∀(C:Ctx) (ρ:En) (σ:St) (H:Hp) (n:Nat) (Q:Bool->Hp->Prop) (R:Bool->Nat->Prop),Stt K C ρ σ H n->d ρ n R ->
  (∀b n' H',R b n'->ExtE C.hd H H'->Hn C.hd H' n'->Q b H')->te σ H Q:=by
 refine⟨fun σ H Q=>∀i,(Classical.choose (h i)) σ H Q,fun i pins s σ H Q I hw=>(Classical.choose_spec (h i)).1 pins s σ H Q I (hw i),fun C ρ σ H n Q R S hd hq i=>?_⟩
 have:=(Classical.choose_spec (h i)).2 C ρ σ H n Q R;exact this (by rw[hK i];exact S) hd hq
theorem DG.uni{ι:Type}[Nonempty ι]{Xf:ι->Cx}{K:qF}(hK:∀i,(Xf i).K=K){e:Expr}{is:List Nat}{d:DTG}(h:∀i,DG (Xf i) e is d):∃te:TG,(∀i,PG (Xf i) e te)/\∀(C:Ctx) (ρ:En) (σ:St) (H:Hp) (n:Nat) (v:V) (t:PyData) (Q:St->Hp->Prop) (R:En->Prop),Stt K C ρ σ H n->Rep K C.hd (Own C ρ σ) H v t->d t ρ R ->
  (∀ρ' σ',R ρ'->Stt K C ρ' σ' H n->Keep C ρ σ H ρ' σ' H->(∀j,j∉is->σ'[j]?=σ[j]?)->σ'.length=σ.length->Q σ' H)->te v σ H Q:=by
 refine⟨fun v σ H Q=>∀i,(Classical.choose (h i).2) v σ H Q,fun i pins s σ H v u Q I r hw=>(Classical.choose_spec (h i).2).1 pins s σ H v u Q I r (hw i),fun C ρ σ H n v t Q R S r hd hq i=>?_⟩
 have:=(Classical.choose_spec (h i).2).2 C ρ σ H n v t Q R;exact this (by rw[hK i];exact S) (by rw[hK i];exact r) hd fun ρ' σ' hr S'=>hq ρ' σ' hr (by rw[<- hK i];exact S')
theorem Wk.of:∀{σ σ':St},σ.length=σ'.length->(∀(i:Nat) v,σ[i]?=some (some v)->σ'[i]?=some (some v))->Wk σ σ'
 | [],[],_,_=>trivial
 | [],_::_,h,_=>by simp at h
 | _::_,[],h,_=>by simp at h
 | none::r,o::r',h,k=>Wk.of (σ:=r) (σ':=r') (by simpa using h) fun i v e=>by simpa using k (i+1) v (by simpa using e)
 | some w::r,o::r',h,k=>⟨by simpa using k 0 w rfl,Wk.of (by simpa using h) fun i v e=>by simpa using k (i+1) v (by simpa using e)⟩
def capV:Option Cell->Option Cell
 | some (.val d)=>some (.val d)
 | some (.dct ks)=>some (.rdo ks)
 | some (.rdo ks)=>some (.rdo ks)
 | _=>none
def JE(m:Nat)(capt:List Nat)(ρ:En):En:=List.replicate m none++capt.map fun i=>capV (ρ.getD i none)
def JO(g:DTG)(tt:DTT)(te:DTE)(ρ0:En):List PyData->List PyData->Nat->(List PyData->Nat->Prop)->Prop
 | [],acc,n,R=>R acc n
 | x::xs,acc,n,R=>g x ρ0 fun ρ1=>tt ρ1 n fun b n2=>if b=true then te ρ1 n2 fun t n3=>acc.length<16777216/\JO g tt te ρ0 xs (acc++[t]) n3 R else JO g tt te ρ0 xs acc n2 R
def dComp(m:Nat)(capt:List Nat)(di:DTA)(g:DTG)(tt:DTT)(te:DTE):DTA:=fun ρ n R=>di ρ n fun ts n1=>JO g tt te (JE m capt ρ) ts [] n1 R
section
variable{X:Cx}{scope:Scope}{own:List Str}{capt:List Nat}{elt tg iter:Expr}{ifs:List Expr}{pos:Pos}{di:DTA}{is:List Nat}{g:DTG}{tt:DTT}{te:DTE}
theorem zg3{ρ:En}{i:Nat}{c:Cell}(h:capV (ρ.getD i none)=some c):(∃d,c=.val d/\ρ[i]?=some (some (.val d)))\/∃ks,c=.rdo ks/\(ρ[i]?=some (some (.dct ks))\/ρ[i]?=some (some (.rdo ks))):=by
 rw[List.getD_eq_getElem?_getD]at h;cases e:ρ[i]? with
 | none=>rw[e]at h;cases h
 | some o =>
  rw[e]at h;cases o with
  | none=>cases h
  | some c' =>
   cases c' with
   | val d'=>simp[capV]at h;exact .inl ⟨d',h.symm,rfl⟩
   | own _=>simp[capV]at h
   | dct ks=>simp[capV]at h;exact .inr ⟨ks,h.symm,.inl rfl⟩
   | dtt ks=>simp[capV]at h
   | rdo ks=>simp[capV]at h;exact .inr ⟨ks,h.symm,.inr rfl⟩
theorem zkP{K:qF}{C:Ctx}{ρ:En}{σ:St}{H H2:Hp}{n n2:Nat}{D:Addr}{ys:List V}(S:Stt K C ρ σ H n)(e:ExtE C.hd H H2)(hn:Hn C.hd H2 n2)(hD:H D=none)(hy:H2 D=some (.lst ys)) :
  Stt K ⟨C.hd,fun a=>Own C ρ σ a\/a=D⟩ (JE own.length capt ρ) (JF own++capS capt σ) H2 n2/\∀a,¬OwnS (JE own.length capt ρ) (JF own++capS capt σ) a:=by
 have get:∀(i:Nat) c,(JE own.length capt ρ)[i]?=some (some c)->∃j,capV (ρ.getD j none)=some c/\own.length<=i/\capt[i - own.length]?=some j:=fun i c h=>by
  unfold JE at h
  by_cases hi:i<own.length
  ·rw[List.getElem?_append_left (by simpa using hi),List.getElem?_replicate]at h
   split at h <;> cases h
  ·rw[List.getElem?_append_right (by simpa using hi),List.length_replicate,List.getElem?_map]at h
   cases ej:capt[i - own.length]? with
   | none=>rw[ej]at h;cases h
   | some j =>
    rw[ej]at h;exact⟨j,by simpa using h,by omega,rfl⟩
 have slot:∀(i j:Nat) (v:V),own.length<=i->capt[i - own.length]?=some j->σ[j]?=some (some v)->(JF own++capS capt σ)[i]?=some (some v):=fun i j v hi e3 h1=>by
  rw[List.getElem?_append_right (by simpa using hi)]
  simp only[List.length_map,List.getElem?_map,e3,Option.map_some];rw[List.getD_eq_getElem?_getD,h1];rfl
 have nm:∀(i:Nat) (c:Cell),c.mine=true->(JE own.length capt ρ)[i]?=some (some c)->False:=fun i c m h=>by
  obtain⟨j,e1,_⟩:=get i c h;rcases zg3 e1 with⟨d,rfl,_⟩|⟨ks,rfl,_⟩ <;> cases m
 have no:∀a,¬OwnS (JE own.length capt ρ) (JF own++capS capt σ) a:=fun a ⟨i,c,m,h1,_⟩=>nm i c m h1
 have S2:=S.on e hn;have sub:∀a o,H a=some o->Own ⟨C.hd,fun a=>Own C ρ σ a\/a=D⟩ (JE own.length capt ρ) (JF own++capS capt σ) a->Own C ρ σ a:=fun a o ha z=>by
  rcases z with z|z
  ·rcases z with z|z
   ·exact z
   ·subst z;rw[hD]at ha;cases ha
  ·exact absurd z (no a)
 have kp:∀a o,¬Own C ρ σ a->H a=some o->H2 a=some o:=fun a o nO ha=>e a o ha fun z=>nO (.inl (S.hx a z))
 refine⟨.mk' (by unfold JE;simp) (fun i d h=>?_) (fun i ds m h=>(nm i _ m h).elim) (fun i ks h=>?_) (fun i j ds es a m _ h=>(nm i _ m h).elim) hn (fun a ha=>?_) (fun a ha=>.inl (.inl (S.hx a ha))),no⟩
 ·obtain⟨j,e1,hi,e3⟩:=get i _ h;rcases zg3 e1 with⟨d',z,e2⟩|⟨ks,z,_⟩
  ·cases z;obtain⟨v,h1,h2⟩:=S.val j d e2;exact⟨v,slot i j v hi e3 h1,h2.mono sub kp⟩
  ·cases z
 ·obtain⟨j,e1,hi,e3⟩:=get i _ h;rcases zg3 e1 with⟨d',z,e2⟩|⟨ks',z,e2⟩
  ·cases z
  ·cases z;rcases e2 with e2|e2
   ·obtain⟨a,kvs,h1,h2,h3,h4⟩:=S.dct j ks e2;have nh:C.hd≠some a:=fun z=>h4 (S.hx a z)
    exact⟨a,kvs,slot i j _ hi e3 h1,e a _ h2 nh,h3.mono sub kp,.inl (.inr ⟨j,.dct ks,rfl,e2,h1⟩),nh⟩
   ·obtain⟨a,kvs,h1,h2,h3,h4,nh⟩:=S.rdo j ks e2;exact⟨a,kvs,slot i j _ hi e3 h1,e a _ h2 nh,h3.mono sub kp,.inl (.inl h4),nh⟩
 ·rcases ha with ha|rfl
  ·exact S2.lst ha
  ·exact .inl ⟨_,hy⟩
def zt3(K:qF)(te:TE)(d:DTA):Prop:=∀(C:Ctx) (ρ:En) (σ:St) (H:Hp) (n:Nat) (Q:VK) (R:List PyData->Nat->Prop),Stt K C ρ σ H n->d ρ n R ->
 (∀ts n' p vs H',R ts n'->ExtE C.hd H H'->Hn C.hd H' n'->H p=none->H' p=some (.lst vs)->Reps K C.hd (fun a=>Own C ρ σ a\/a=p) H' vs ts->Q (.ref p) H')->te σ H Q
theorem ziw(hi:DIL X tg iter di)
  (hg:∀C s₀ H₀ fp,DG (Jm X scope own capt C s₀ H₀ fp) tg is g) (hin:∀i∈is,i<own.length) (ht:∀C s₀ H₀ fp,DTs (Jm X scope own capt C s₀ H₀ fp) ifs tt) (he:∀C s₀ H₀ fp,DE (Jm X scope own capt C s₀ H₀ fp) elt te) :
  ∃(wi:TI) (gg:TG) (gt:TT) (ge:TE),PI X tg iter wi/\(∀C s₀ H₀ fp,PG (Jm X scope own capt C s₀ H₀ fp) tg gg)/\(∀C s₀ H₀ fp,PTs (Jm X scope own capt C s₀ H₀ fp) ifs gt)/\(∀C s₀ H₀ fp,PE (Jm X scope own capt C s₀ H₀ fp) elt ge)/\zt3 X.K (tComp own capt wi gg gt ge) (dComp own.length capt di g tt te):=by
 obtain⟨wi,pi,hi⟩:=hi
 let Xf:(Addr×Shared×Hp×List Addr)->Cx:=fun q=>Jm X scope own capt q.1 q.2.1 q.2.2.1 q.2.2.2
 have hK:∀q,(Xf q).K=X.K:=fun _=>rfl
 have hne:Nonempty (Addr×Shared×Hp×List Addr):=⟨(0,X.s₀,X.H₀,[])⟩;obtain⟨gg,pg,hgg⟩:=DG.uni (Xf:=Xf) hK fun q=>hg q.1 q.2.1 q.2.2.1 q.2.2.2
 obtain⟨gt,pt,hgt⟩:=DTs.uni (Xf:=Xf) hK fun q=>ht q.1 q.2.1 q.2.2.1 q.2.2.2
 obtain⟨ge,pe,hge⟩:=DE.uni (Xf:=Xf) hK fun q=>he q.1 q.2.1 q.2.2.1 q.2.2.2
 refine⟨wi,gg,gt,ge,pi,(fun C s₀ H₀ fp=>pg (C,s₀,H₀,fp)),(fun C s₀ H₀ fp=>pt (C,s₀,H₀,fp)),(fun C s₀ H₀ fp=>pe (C,s₀,H₀,fp)),fun C ρ σ H n Q R St hd hq=>?_⟩
 refine hi C ρ σ H n _ _ St hd fun ts n1 J H1 r e1 hn it=>fun D hD1=>?_
 have St1:=St.on e1 hn;have hD:H D=none:=VV e1 hn hD1;have nhd:C.hd≠some D:=fun z=>St.dom (.inl (St.hx D z)) hD
 refine znF (n:=ts.length) (fun i ys H2=>∃acc n2,JO g tt te (JE own.length capt ρ) (ts.drop i) acc n2 R/\Reps X.K C.hd (fun a=>Own C ρ σ a\/a=D) H2 ys acc/\ExtE C.hd H1 H2/\Hn C.hd H2 n2)
  ⟨[],n1,by simpa using r,.nil,ExtE.new hD1,hn.same (Qr hD1)⟩ ?_ ?_
 ·rintro i ys H2 hlt hy ⟨acc,n2,c2,r2,e2,hn2⟩;have et:ts[i]?=some ts[i]:=List.getElem?_eq_getElem hlt;rw[List.drop_eq_getElem_cons hlt]at c2;have itq:=it (fun a=>Own C ρ σ a\/a=D) H2 (fun a o ha nh=>e2 a o ha nh) (fun a o ha no z=>z.elim no fun z=>by subst z;rw[hD1]at ha;cases ha) (fun a z=>z.elim (fun z=>(St1.on e2 hn2).dom z) fun z=>by subst z;rw[hy];exact fun z=>by cases z)
  obtain⟨go,yl⟩:=itq.1 i _ et;refine⟨go,fun x H3 hyd=>?_⟩
  obtain⟨sm,rx⟩:=yl x H3 hyd;have hn3:=hn2.same sm;have e3:ExtE C.hd H1 H3:=e2.trans sm.ext;obtain⟨I3,no3⟩:=zkP (own:=own) (capt:=capt) (D:=D) (ys:=ys) St (e1.trans e3) hn3 hD (sm _ _ hy);have rx':Rep X.K C.hd (Own ⟨C.hd,fun a=>Own C ρ σ a\/a=D⟩ (JE own.length capt ρ) (JF own++capS capt σ)) H3 x ts[i]:=rx.mono (fun a o _ z=>z.elim id fun z=>absurd z (no3 a)) fun _ _ _ z=>z
  refine hgg ⟨C.hd,fun a=>Own C ρ σ a\/a=D⟩ (JE own.length capt ρ) (JF own++capS capt σ) H3 n2 x ts[i] _ _ I3 rx' c2 fun ρ4 σ4 r4 S4 k4 hj hl=>⟨Wk.of hl.symm fun j v ej=>?_,?_⟩
  ·by_cases hjo:j<own.length
   ·rw[List.getElem?_append_left (by simpa using hjo),List.getElem?_map]at ej
    cases z:own[j]? with
    | none=>rw[z]at ej;cases ej
    | some q=>rw[z]at ej;cases ej
   ·rw[hj j (fun z=>hjo (hin j z))];exact ej
  ·refine hgt _ ρ4 σ4 H3 n2 _ _ S4 r4 fun b n5 H5 r5 e5 hn5=>?_
   have S5:=S4.on e5 hn5;have hy5:H5 D=some (.lst ys):=e5 D _ (sm _ _ hy) nhd;have r25:∀{H6},ExtE C.hd H2 H6->Reps X.K C.hd (fun a=>Own C ρ σ a\/a=D) H6 ys acc:=fun e=>r2.mono (fun _ _ _ z=>z) fun a o no ha=>e a o ha fun z=>no (.inl (.inl (St.hx a z)))
   cases b with
   | false =>
    refine iteF ⟨ys,hy5,acc,n5,by simpa using r5,r25 ((Same.ext sm).trans e5),e3.trans e5,hn5⟩
   | true =>
    refine iteT (hge _ ρ4 σ4 H5 n5 _ _ S5 (by simpa using r5) fun t n6 v H6 r6 e6 hn6 q6=>?_)
    have hy6:H6 D=some (.lst ys):=e6 D _ hy5 nhd;have rl:=(r25 ((Same.ext sm).trans (e5.trans e6))).length;refine⟨ys,hy6,by rw[rl];exact r6.1,acc++[t],n6,r6.2,?_,?_,?_⟩
    ·have q6':Rep X.K C.hd (fun a=>Own C ρ σ a\/a=D) H6 v t:=q6.mono (fun _ _ _ z=>.inl z) fun _ _ _ z=>z
     have all:=(r25 ((Same.ext sm).trans (e5.trans e6))).append (Reps.cons q6' .nil);exact all.mono (fun _ _ _ z=>z) fun a o no ha=>by rw[Jw (show a≠D from fun z=>no (.inr z))];exact ha
    ·exact fun a o ha nh=>by
      rw[Jw (QX ha hD1)];exact(e3.trans (e5.trans e6)) a o ha nh
    ·exact fun a ha=>by
      obtain⟨d,m,t,q,rest⟩:=hn6 a ha;exact⟨d,m,t,by rw[Jw (show a≠D from fun z=>nhd (by rw[<- z];exact ha))];exact q,rest⟩
 ·rintro ys H2 hy ⟨acc,n2,c2,r2,e2,hn2⟩;rw[List.drop_length]at c2;have itq:=it (fun a=>Own C ρ σ a\/a=D) H2 (fun a o ha nh=>e2 a o ha nh) (fun a o ha no z=>z.elim no fun z=>by subst z;rw[hD1]at ha;cases ha) (fun a z=>z.elim (fun z=>(St1.on e2 hn2).dom z) fun z=>by subst z;rw[hy];exact fun z=>by cases z)
  exact⟨itq.2,hq acc n2 D ys H2 c2 (e1.trans e2) hn2 hD hy r2⟩
theorem JT(hc:X.calm=true)(S:CompScope scope own capt X)(hi:DIL X tg iter di)
  (hg:∀C s₀ H₀ fp,DG (Jm X scope own capt C s₀ H₀ fp) tg is g) (hin:∀i∈is,i<own.length) (ht:∀C s₀ H₀ fp,DTs (Jm X scope own capt C s₀ H₀ fp) ifs tt) (he:∀C s₀ H₀ fp,DE (Jm X scope own capt C s₀ H₀ fp) elt te)
  (hs:∀x,foldedSetIterable iter X.env x=pure x:=by intro _;rfl):DN X (.ListComp elt [⟨tg,iter,ifs,0⟩] scope pos) (dComp own.length capt di g tt te):=by
 obtain⟨wi,gg,gt,ge,a,b,c,d,sp⟩:=ziw hi hg hin ht he;exact⟨_,zoI hc S a b c d hs,sp⟩
def DNA(X:Cx)(x:Str)(pos':Pos)(e:Expr)(pos:Pos)(i:Nat)(d:DTA):Prop:=∃te,PS X (.Assign [.Name x pos'] e pos) (tAsg te (Ve i))/\zt3 X.K te d
theorem zkJ{x:Str}{pos' spos:Pos}{i:Nat}(hN:X.N.Nodup)(hxi:X.N[i]?=some x)(hx:Loc X.env.scope x)(hc:X.calm=true)(S:CompScope scope own capt X)(hi:DIL X tg iter di)
  (hg:∀C s₀ H₀ fp,DG (Jm X scope own capt C s₀ H₀ fp) tg is g) (hin:∀i∈is,i<own.length) (ht:∀C s₀ H₀ fp,DTs (Jm X scope own capt C s₀ H₀ fp) ifs tt) (he:∀C s₀ H₀ fp,DE (Jm X scope own capt C s₀ H₀ fp) elt te)
  (hs:∀x,foldedSetIterable iter X.env x=pure x:=by intro _;rfl) (hsw:swapsWith (.ListComp elt [⟨tg,iter,ifs,0⟩] scope pos) (some (.Name x pos')) spos.line X.env=pure true:=by rfl)
  (hf:X.fn x=true\/X.env.scope.names.lookup x=some .local:=by walk_at "F") :
  DNA X x pos' (.ListComp elt [⟨tg,iter,ifs,0⟩] scope pos) spos i (dComp own.length capt di g tt te):=by
 obtain⟨wi,gg,gt,ge,a,b,c,d,sp⟩:=ziw hi hg hin ht he;exact⟨_,zmi hc S a b c d hN hxi hx hs hsw hf,sp⟩
theorem zno{x:Str}{pos' spos:Pos}{e:Expr}{i:Nat}{d:DTA}(h:DNA X x pos' e spos i d):DS X (.Assign [.Name x pos'] e spos) (sSet i (dNew d)):=by
 obtain⟨ta,pa,h⟩:=h;refine⟨_,pa,fun C ρ σ H n D D' S hd g=>?_⟩
 refine h C ρ σ H n _ _ S hd fun ts n' p vs H' r e1 h1 h2 h3 h4=>?_
 exact g.nx _ _ H' n' r ((S.on e1 h1).put (.lst h3 (S.free h2|> fun z=>z) (h4.mono (fun _ _ _ z=>.inl z) fun _ _ _ z=>z))) (e1.keep.trans V2)
end
def VG(K:qF):Sp:=fun vs H Q _=>∃(a:Addr) (ns:List Int) (k:Int),vs=[.ref a,.int k]/\SqL K H a (ns.map V.int)/\ns.length<=63/\0<=k/\k<=100 /\
 ∀hd H',H hd=none->Vy H' hd 0->Same H H'->Q (.ref hd) H'
def zt2(hd:Addr)(H H':Hp):Prop:=∀b o,H b=some o->b≠hd->H' b=some o
def zpv:Sp:=fun vs H Q _=>∃(hd:Addr) (many n:Int),vs=[.ref hd,.int many]/\Vy H hd n/\n<=1000000000000/\0<many/\many<2 ^ 128 /\
 ∀(r:Int) H',0<=r->r<many->Vy H' hd (n+1)->zt2 hd H H'->Q (.int r) H'
def UB:GD:=fun ts n R=>match ts with
 | [h,.int many]=>h=HAND/\0<many/\many<2 ^ 128/\n<=1000000000000/\∀r:Int,0<=r->r<many->R (.int r) (n+1)
 | _=>False
theorem zoi{K:qF}(vs:List V)(H:Hp)(Q:VK)(E:XK)(h:spD K 2 UB vs H Q E):zpv vs H Q E:=by
 obtain⟨hd,O,ts,n,R,r,hn,dom,hx,hl,g,hq⟩:=h;unfold UB at g;split at g
 ·rename_i hh many;obtain⟨rfl,m0,m1,hn',g⟩:=g;cases r with
  | cons r1 r =>
   cases r with
   | cons r2 r =>
    cases r;obtain⟨a,rfl,ea⟩:=r1.handI;rw[r2.intI];refine⟨a,many,n,rfl,hn a ea,by omega,m0,m1,fun q H' q0 q1 hh sx=>?_⟩
    refine hq _ (n+1) _ H' (g q q0 q1) (fun b o hb nb=>sx b o hb fun z=>nb (by rw[ea,z])) (fun b eb=>?_) (.int _)
    rw[ea]at eb;cases eb;exact hh
 ·exact g.elim
def zrK:Option (Option Cell)->(List PyData->Prop)->Prop
 | some (some (.val (.dict [(.none,.list ts)]))),R=>R ts
 | _,_=>False
def JM(ρ:En):En:=match (ρ[(0:Nat)]?:Option (Option Cell)) with
 | some (some (.val (.dict [(.none,.list ts)])))=>some (.val (.dict [(.none,.list ts)]))::List.replicate (ρ.length - 1) none
 | _=>List.replicate ρ.length none
def intOf:Option (Option Cell)->(Int->Prop)->Prop
 | some (some (.val (.int k))),R=>R k
 | _,_=>False
def Y0(i j:Nat)(u:DTS):DTS:=fun D ρ n=>zrK ρ[0]? fun ts=>intOf ρ[j]? fun k=>(∃ns:List Int,ts=ns.map PyData.int/\ns.length<=63)/\0<=k/\k<=100 /\
 u { nx:=fun ρ' _=>D.nx (JM ρ') n,rt:=fun t _=>∃b,t=.bool b/\D.rt t n,bk:=fun ρ' _=>D.bk (JM ρ') n,ct:=fun ρ' _=>D.ct (JM ρ') n } (((JM ρ).set j (some (.val (.int k)))).set i (some (.val HAND))) 0
theorem YK{ρ:En}{i:Nat}{c:Cell}(h:(JM ρ)[i]?=some (some c)):i=0/\ρ[0]?=some (some c)/\∃ts,c=.val (.dict [(.none,.list ts)]):=by
 unfold JM at h;split at h
 ·rename_i ts e;cases i with
  | zero=>simp at h;subst h;exact⟨rfl,e,ts,rfl⟩
  | succ i =>
   rw[List.getElem?_cons_succ,List.getElem?_replicate]at h;split at h <;> cases h
 ·rw[List.getElem?_replicate]at h;split at h <;> cases h
theorem zpk{ρ:En}:(JM ρ).length=ρ.length:=by
 unfold JM;split
 ·rename_i ts e;cases ρ with
  | nil=>simp at e
  | cons a r=>simp
 ·simp
theorem zg9{ρ:En}{σ:St}{a:Addr}:¬OwnS (JM ρ) σ a:=fun⟨i,ds,m,h,_⟩=>by
 obtain⟨_,_,ts,e⟩:=YK h;subst e;cases m
theorem Rep.scrHd{K:qF}{hd hd':Option Addr}{O O':Addr->Prop}{H H':Hp}{v:V}{ts:qD}(h:Rep K hd O H v (.dict [(.none,.list ts)]))(ho:∀a o,H a=some o->¬O a->H' a=some o/\¬O' a):Rep K hd' O' H' v (.dict [(.none,.list ts)])/\∃ns:List Int,ts=ns.map PyData.int:=by
 generalize e:(PyData.dict [(PyData.none,PyData.list ts)])=t at h;cases h with
 | @scr a ns h1 o =>
  have e':ts=ns.map PyData.int:=by simpa[SCR] using e
  subst e';refine⟨?_,ns,rfl⟩;rcases h1 with h1|⟨u,h1⟩
  ·exact .scr (.inl (ho a _ h1 o).1) (ho a _ h1 o).2
  ·exact .scr (.inr ⟨u,(ho a _ h1 o).1⟩) (ho a _ h1 o).2
 | @scrS a ns h1 =>
  have e':ts=ns.map PyData.int:=by simpa[SCR] using e
  subst e';exact⟨.scrS h1,ns,rfl⟩
 | hand _=>simp[HAND]at e
 | dct _ _=>cases e
 | dcK _ _ _ e'=>cases e;exact(dict_noK e').elim
 | dcT _ _ _ e'=>cases e;exact(dict_noT e').elim
 | _=>cases e
theorem Stt.drop{K:qF}{C C':Ctx}{ρ:En}{σ:St}{H H':Hp}{n n':Nat}(S:Stt K C' ρ σ H n)(hn:Hn C.hd H' n')(hl:∀a,C.ext a->MutO (H' a))(hx:∀a,C.hd=some a->C.ext a)
  (ho:∀a o,H a=some o->¬Own C' ρ σ a->H' a=some o/\¬C.ext a):Stt K C (JM ρ) σ H' n' where
 len:=by rw[zpk];exact S.len
 val:=fun i d h=>by
  obtain⟨rfl,e0,ts,et⟩:=YK h;cases et;obtain⟨v,h1,h2⟩:=S.val 0 _ e0;exact⟨v,h1,(h2.scrHd fun a o ha no=>⟨(ho a o ha no).1,fun z=>z.elim (ho a o ha no).2 zg9⟩).1⟩
 own:=fun i ds h=>by
  obtain⟨_,_,ts,e⟩:=YK h;cases e
 dct:=fun i ds h=>by
  obtain⟨_,_,ts,e⟩:=YK h;cases e
 rdo:=fun i ds h=>by
  obtain⟨_,_,ts,e⟩:=YK h;cases e
 dtt:=fun i ds h=>by
  obtain⟨_,_,ts,e⟩:=YK h;cases e
 dif:=fun i j ds es a m _ h=>by
  obtain⟨_,_,ts,e⟩:=YK h;subst e;cases m
 hnd:=hn
 ext:=hl
 hx:=hx
section
variable{X:Cx}{st:Stmt}{sts:List Stmt}{ps:List Str}{f:Addr}{fd:FuncData}{u:DTS}{x s kx hx:Str}{pos pos' p p1 p2 p3:Pos}{k:Nat}
theorem zpj{i j:Nat}(D:Bd.Def X.K X.mg hx st ps f fd)(G:FnOk X.prog X.w X.K X.mg X.base CX0 k f fd ps (VG X.K))(hr:Room k X.A)(hN:X.N.Nodup)(hi:X.N[i]?=some x)(hlx:Loc X.env.scope x)(hu:DSs X sts u)(hij:i≠0:=by decide)(hj0:j≠0:=by decide)(hji:j≠i:=by decide)
  (h0:X.N[0]?=some s:=by rfl) (hj:X.N[j]?=some kx:=by rfl) (hv0:Vis X.env.scope s:=by walk_at "V") (hvj:Vis X.env.scope kx:=by walk_at "V")
  (hd0:(s == ("__debug__":Str))=false:=by decide) (hcd0:(s == ("__classdict__":Str))=false:=by decide) (hdj:(kx == ("__debug__":Str))=false:=by decide) (hcdj:(kx == ("__classdict__":Str))=false:=by decide) (hg:Gl X hx:=by rfl) (hdb:(hx == ("__debug__":Str))=false:=by decide)
  (hs:swapsWith (.Call (.Name hx p) [.Name s p1,.Name kx p2] [] p3) (some (.Name x pos')) pos.line X.env=pure false:=by rfl) (hf:X.fn x=true\/X.env.scope.names.lookup x=some .local:=by walk_at "F") :
  DSs X (.Assign [.Name x pos'] (.Call (.Name hx p) [.Name s p1,.Name kx p2] [] p3) pos::sts) (Y0 i j u):=by
 obtain⟨tu,pu,hu⟩:=hu;refine⟨_,QG (Q4 hN hi hlx (Bd.zqj D G hr (QW (Q3 h0 hv0 hd0 hcd0) (QW (Q3 hj hvj hdj hcdj) UC rfl) rfl) hg hdb) hs hf) pu,fun C ρ σ H n Dn D' S hd g=>?_⟩
 unfold Y0 zrK at hd;split at hd
 ·rename_i ts e0;unfold intOf at hd;split at hd
  ·rename_i kk ej;obtain⟨⟨ns,rfl,hl⟩,k0,k1,hd⟩:=hd;obtain⟨v0,s0,r0⟩:=S.val 0 _ e0;obtain⟨vj,sj,rj⟩:=S.val j _ ej;obtain⟨a0,rfl,sq0⟩:=r0.scrI;rw[rj.intI]at sj;refine⟨_,s0,_,sj,?_⟩;refine⟨a0,ns,kk,rfl,sq0,hl,k0,k1,fun h H1 hh hok sm=>?_⟩
   have S1:=S.on (Same.ext sm:ExtE C.hd H H1) (S.hnd.same sm);have nx:¬Own C ρ σ h:=fun z=>S.dom z hh
   have Sd:Stt X.K ⟨some h,fun a=>C.ext a\/a=h⟩ (JM ρ) σ H1 0:=S.drop (fun a ea=>by cases ea;exact hok) (fun a z=>z.elim (fun z=>S1.ext a z) fun z=>by subst z;obtain⟨_,_,_,q,_⟩:=hok;exact .inl ⟨_,q⟩) (fun a ea=>.inr (by cases ea;rfl))
    (fun a o ha no=>⟨sm a o ha,fun z=>z.elim (fun z=>no (.inl z)) fun z=>by subst z;rw[hh]at ha;cases ha⟩)
   have Sd2:=(Sd.put (i:=j) (t:=.int kk) (v:=.int kk) (.int kk)).put (i:=i) (t:=HAND) (v:=.ref h) (.hand rfl);have own2:∀a,¬OwnS (((JM ρ).set j (some (.val (.int kk)))).set i (some (.val HAND))) ((σ.set j (some (.int kk))).set i (some (.ref h))) a:=fun a z=>zg9 (V4 (V4 z))
   have es:(σ.set j (some (V.int kk)))=σ:=by
    apply List.ext_getElem?
    intro q
    by_cases z:j=q
    ·subst z;have:j<σ.length:=by
      rcases Nat.lt_or_ge j σ.length with w|w
      ·exact w
      ·rw[List.getElem?_eq_none w]at sj;cases sj
     rw[zl2 this,sj]
    ·rw[List.getElem?_set_ne z]
   rw[es]at Sd2 own2;refine hu _ _ _ H1 0 _ _ Sd2 hd ?_;have back:∀{ρ' σ' H' n'},Stt X.K ⟨some h,fun a=>C.ext a\/a=h⟩ ρ' σ' H' n'->(∀a o,H1 a=some o->some h≠some a->H' a=some o)->Stt X.K C (JM ρ') σ' H' n:=fun {ρ' σ' H' n'} S' kp =>
    S'.drop (fun a ea=>by
      obtain⟨d,m,t,q,rest⟩:=S.hnd a ea;exact⟨d,m,t,kp a _ (sm _ _ q) (fun z=>by cases z;rw[hh]at q;cases q),rest⟩)
     (fun a z=>by
      rcases S.ext a z with⟨xs,q⟩|⟨xs,q⟩|⟨b,xs,ep,q⟩
      ·exact .inl ⟨xs,kp a _ (sm _ _ q) (fun z=>by cases z;rw[hh]at q;cases q)⟩
      ·exact .inr (.inl ⟨xs,kp a _ (sm _ _ q) (fun z=>by cases z;rw[hh]at q;cases q)⟩)
      ·exact .inr (.inr ⟨b,xs,ep,kp a _ (sm _ _ q) (fun z=>by cases z;rw[hh]at q;cases q)⟩)) S.hx (fun a o ha no=>⟨ha,fun z=>no (.inl (.inl z))⟩)
   have kp1:∀{ρ' σ' H'},Keep ⟨some h,fun a=>C.ext a\/a=h⟩ (((JM ρ).set j (some (.val (.int kk)))).set i (some (.val HAND))) (σ.set i (some (.ref h))) H1 ρ' σ' H'->∀a o,H1 a=some o->some h≠some a->H' a=some o:=fun k a o ha na=>(k a o ha na (own2 a)).1
   have kp2:∀{ρ' σ' H'},Keep ⟨some h,fun a=>C.ext a\/a=h⟩ (((JM ρ).set j (some (.val (.int kk)))).set i (some (.val HAND))) (σ.set i (some (.ref h))) H1 ρ' σ' H'->Keep C ρ σ H (JM ρ') σ' H':=fun k a o ha _ _=>⟨kp1 k a o (sm a o ha) (fun z=>by cases z;rw[hh]at ha;cases ha),zg9⟩
   refine⟨fun ρ' σ' H' n' h' S' k'=>g.nx _ _ H' n h' (back S' (kp1 k')) (kp2 k'),fun t n' v H' h' hn' k' rp=>?_,fun ρ' σ' H' n' h' S' k'=>g.bk _ _ H' n h' (back S' (kp1 k')) (kp2 k'),fun ρ' σ' H' n' h' S' k'=>g.ct _ _ H' n h' (back S' (kp1 k')) (kp2 k')⟩
   obtain⟨b,rfl,h'⟩:=h';rw[rp.blI];have kq:∀a o,H a=some o->H' a=some o:=fun a o ha=>k' a o (sm a o ha) (fun z=>by cases z;rw[hh]at ha;cases ha) (own2 a)
   refine g.rt _ n _ H' h' (fun a ea=>?_) (fun a o ha _ _=>kq a o ha) (.bl b)
   obtain⟨d,m,t,q,rest⟩:=S.hnd a ea;exact⟨d,m,t,kq a _ q,rest⟩
  ·exact hd.elim
 ·exact hd.elim
end
def zpX(K:qF):Sp:=fun vs H Q _=>∃(a:Addr) (ns:List Int),vs=[.ref a]/\SqL K H a (ns.map V.int)/\ns.length<=63/\∀H',Q (.bl true) H'
def ztH:GD:=fun ts n R=>∃ns:List Int,ts=[SCR ns]/\ns.length<=63/\∀n',R (.bool true) n'
theorem zqH{K:qF}(vs:List V)(H:Hp)(Q:VK)(E:XK)(h:zpX K vs H Q E):spD K 1 ztH vs H Q E:=by
 obtain⟨a,ns,rfl,sq,hl,q⟩:=h;refine⟨none,fun _=>False,[SCR ns],0,fun t _=>t=.bool true,.cons ?_ .nil,(fun a e=>by cases e),(fun a z=>z.elim),(fun a e=>by cases e),rfl,⟨ns,rfl,hl,fun _=>rfl⟩,fun t n' v H' ht _ _ rp=>?_⟩
 ·rcases sq with sq|sq
  ·exact .scr sq (fun z=>z)
  ·exact .scrS fun _=>.inr sq
 ·subst ht;rw[rp.blI];exact q H'
section
variable{env:Env}{es:List Expr}{a b:Expr}{l1 l2:List Expr}{p:Pos}{x:Str}
theorem Jc:starEach (.Name x p::es) env=(false,eval (.Name x p) env)::starEach es env:=rfl
theorem Jr{i:Int}{j}:starEach (.Constant (.int i) j p::es) env=(false,eval (.Constant (.int i) j p) env)::starEach es env:=rfl
theorem Zl{j}:starEach (.Constant .none j p::es) env=(false,eval (.Constant .none j p) env)::starEach es env:=rfl
theorem zlZ{i:Str}{j}:starEach (.Constant (.str i) j p::es) env=(false,eval (.Constant (.str i) j p) env)::starEach es env:=rfl
theorem Jv{c d}:starEach (.Call a l1 c d::es) env=(false,eval (.Call a l1 c d) env)::starEach es env:=rfl
theorem VN:starEach (.List l1 p::es) env=(false,eval (.List l1 p) env)::starEach es env:=rfl
theorem V6{k}:starEach (.Tuple l1 k p::es) env=(false,eval (.Tuple l1 k p) env)::starEach es env:=rfl
theorem JP{o}:starEach (.BinOp a o b p::es) env=(false,eval (.BinOp a o b p) env)::starEach es env:=rfl
theorem Q5:starEach (.Subscript a b p::es) env=(false,eval (.Subscript a b p) env)::starEach es env:=rfl
theorem zrG{o}:starEach (.Compare a o l1 p::es) env=(false,eval (.Compare a o l1 p) env)::starEach es env:=rfl
theorem J9{g s}:starEach (.ListComp a g s p::es) env=(false,eval (.ListComp a g s p) env)::starEach es env:=rfl
theorem zuQ{c}:starEach (.IfExp c a b p::es) env=(false,eval (.IfExp c a b p) env)::starEach es env:=rfl
end
section
variable{X:Cx}{a b c e:Expr}{da db dc:DTE}{pos p:Pos}{r r':R2}{g g':G2}
theorem zg8{op op':CmpOp}(ho:OpR X (compareOp op) r)(hg:Gp2 X r g)(ho':OpR X (compareOp op') r')(hg':Gp2 X r' g')(ha:DL X a da)(hb:DL X b db)(hc:DL X c dc)
  (hm:lastMarks [op,op'] [b,c]=false:=by with_unfolding_all rfl):DT X (.Compare a [op,op'] [b,c] pos) (U3 (Y2 g g' da db dc)):=by
 obtain⟨ta,pa,ha⟩:=ha;obtain⟨tb,pb,hb⟩:=hb;obtain⟨tc,pc,hc⟩:=hc;refine⟨_,zoB ho ho' pa pb pc hm,fun C ρ σ H n Q R S h hq=>?_⟩
 refine two ha hb S h fun x y n2 v w H2 r2 e S2 q1 q2=>?_
 refine hg C.hd (Own C ρ σ) H2 v w x y _ _ (fun p=>S2.dom) q1 q2 r2 fun z u H' rz sm rp=>?_
 have S3:=S2.on sm.ext (S2.hnd.same sm);cases z with
 | bool k =>
  cases rp;refine⟨k,rfl,?_⟩;cases k with
  | false=>exact iteF ⟨false,rfl,hq _ n2 H' rz (e.trans sm.ext) S3.hnd⟩
  | true =>
   refine iteT (hc C ρ σ H' n2 _ _ S3 rz fun z2 n3 w2 H4 r4 e4 h4 q4=>?_)
   have S4:=S3.on e4 h4;have q2':=e4.repT S.hx ((Same.ext sm:ExtE C.hd H2 H').repT S.hx q2);refine hg' C.hd (Own C ρ σ) H4 w w2 y z2 _ _ (fun p=>S4.dom) q2' q4 r4 fun z u H' rz sm' rp=>?_
   cases z with
   | bool k=>cases rp;exact⟨k,rfl,hq _ n3 H' rz (((e.trans sm.ext).trans e4).trans sm'.ext) (S4.hnd.same sm')⟩
   | _=>exact rz.elim
 | _=>exact rz.elim
end
section
variable{C:Int->Int->Prop}{f:Int->Int->Int}{fb:Int->Int->Bool}{i j k:Int}{R:PyData->Prop}{Rb:Bool->Prop}{xs ys:qD}{s t:Str}{a b:Bool}{u v:PyData}
theorem l_gI:gI C f (.int i) (.int j) R=(C i j/\R (.int (f i j))):=propext Iff.rfl
theorem YT:gI0 f (.int i) (.int j) R=R (.int (f i j)):=propext Iff.rfl
theorem Yb:oAdd (.int i) (.int j) R=R (.int (i+j)):=propext Iff.rfl
theorem Yc:oAdd (.str s) (.str t) R=(s.length+t.length<=16777216/\R (.str (s++t))):=propext Iff.rfl
theorem Yd:oAdd (.tuple xs) (.tuple ys) R=(xs.length+ys.length<=16777216/\R (.tuple (xs++ys))):=propext Iff.rfl
theorem UO:oEq (.int i) (.int j) R=R (.bool (decide (i=j))):=propext Iff.rfl
theorem UQ:oEq (.str s) (.str t) R=R (.bool (decide (s=t))):=propext Iff.rfl
theorem UR:oEq (.tuple xs) (.tuple ys) R=(Okd (.tuple xs)/\Okd (.tuple ys)/\R (.bool (PyData.eqv (.tuple xs) (.tuple ys)))):=propext Iff.rfl
theorem UP:oEq (.list xs) (.list ys) R=(Okd (.list xs)/\Okd (.list ys)/\R (.bool (PyData.eqv (.list xs) (.list ys)))):=propext Iff.rfl
theorem U0:oNe (.int i) (.int j) R=R (.bool (!decide (i=j))):=propext Iff.rfl
theorem U2:oNe (.str s) (.str t) R=R (.bool (!decide (s=t))):=propext Iff.rfl
theorem U1:oNe (.list xs) (.list ys) R=(Okd (.list xs)/\Okd (.list ys)/\R (.bool (!PyData.eqv (.list xs) (.list ys)))):=propext Iff.rfl
theorem UT:oIs (.bool a) (.bool b) R=R (.bool (a == b)):=propext Iff.rfl
theorem UU:oIs u .none R=R (.bool (isNone u)):=by cases u <;> exact propext Iff.rfl
theorem YA:oIsN (.bool a) (.bool b) R=R (.bool (a != b)):=propext Iff.rfl
theorem YB:oIsN u .none R=R (.bool (!isNone u)):=by cases u <;> exact propext Iff.rfl
theorem US:oIn u (.tuple xs) R=(Okd u/\(∀t∈xs,Okd t)/\R (.bool (xs.any fun t=>t.eqv u))):=by cases u <;> exact propext Iff.rfl
theorem UX:oLtA (.int i) (.int j) R=R (.bool (decide (i<j))):=propext Iff.rfl
theorem UV:oLeA (.int i) (.int j) R=R (.bool (decide (i<=j))):=propext Iff.rfl
theorem UW:oLeA (.str s) (.str t) R=R (.bool (!decide (t.cps.toList<s.cps.toList))):=propext Iff.rfl
theorem YU{x:PyData}(h:atI xs i=some x):oIx (.list xs) (.int i) R=R x:=by show(match atI xs i with|some t=>R t|none=>False)=_;rw[h]
theorem Vn{x:PyData}(h:atI xs i=some x):oIx (.tuple xs) (.int i) R=R x:=by show(match atI xs i with|some t=>R t|none=>False)=_;rw[h]
theorem Yi:oIx (.tuple (u::xs)) (.int 0) R=R u:=Vn (by unfold atI ixN;simp)
theorem Yj:oIx (.tuple (u::v::xs)) (.int 1) R=R v:=Vn (by unfold atI ixN;simp;rw[if_pos (by omega)];rfl)
theorem Yk{w:PyData}:oIx (.tuple (u::v::w::xs)) (.int 2) R=R w:=Vn (by unfold atI ixN;simp;rw[if_pos (by omega)];rfl)
theorem Yf:oIx (.list (u::xs)) (.int 0) R=R u:=YU (by unfold atI ixN;simp)
theorem Yg:oIx (.list (u::v::xs)) (.int 1) R=R v:=YU (by unfold atI ixN;simp;rw[if_pos (by omega)];rfl)
theorem Yh{w:PyData}:oIx (.list (u::v::w::xs)) (.int 2) R=R w:=YU (by unfold atI ixN;simp;rw[if_pos (by omega)];rfl)
theorem Yo:truD (.bool a) Rb=Rb a:=propext Iff.rfl
theorem Yp:truD (.list xs) Rb=Rb (!xs.isEmpty):=propext Iff.rfl
theorem UN:bolD (.bool a) Rb=Rb a:=propext Iff.rfl
theorem Yl:bLen [.list xs] R=R (.int xs.length):=propext Iff.rfl
theorem Yn:bLen [.tuple xs] R=R (.int xs.length):=propext Iff.rfl
theorem Ym:bLen [.str s] R=(s.length<=16777216/\R (.int s.length)):=propext Iff.rfl
theorem YG{ns:List Int}:bLen [SCR ns] R=R (.int ns.length):=by show R (.int (ns.map PyData.int).length)=_;rw[List.length_map]
theorem UZ:bMin [.int i,.int j] R=R (.int (if j<i then j else i)):=propext Iff.rfl
theorem UY:bMax [.int i,.int j] R=R (.int (if j > i then j else i)):=propext Iff.rfl
theorem Ye:bInt [.bool a] R=R (.int (if a then 1 else 0)):=propext Iff.rfl
theorem YH:ZO [.list xs] R=R (.tuple xs):=propext Iff.rfl
theorem YC{Rl:List PyData->Prop}:Qi (.list xs) Rl=Rl xs:=propext Iff.rfl
theorem YF{Rl:List PyData->Prop}:Qi (.tuple xs) Rl=Rl xs:=propext Iff.rfl
theorem zsO(y:String)(h:y∈["NoneType","bool","int","str","list","tuple","dict"]):kitB y "int" = some (decide (y = "int")||decide (y = "bool")):=by
 simp only[List.mem_cons,List.not_mem_nil,or_false]at h;rcases h with rfl|rfl|rfl|rfl|rfl|rfl|rfl <;> decide +kernel
theorem zqI(y:String)(h:y∈["NoneType","bool","int","str","list","tuple","dict"]):kitB y "bool" = some (decide (y = "bool")):=by
 simp only[List.mem_cons,List.not_mem_nil,or_false]at h;rcases h with rfl|rfl|rfl|rfl|rfl|rfl|rfl <;> decide +kernel
theorem zo2(y:String)(h:y∈["NoneType","bool","int","str","list","tuple","dict"]):kitB y "tuple" = some (decide (y = "tuple")):=by
 simp only[List.mem_cons,List.not_mem_nil,or_false]at h;rcases h with rfl|rfl|rfl|rfl|rfl|rfl|rfl <;> decide +kernel
theorem zsN(y:String)(h:y∈["NoneType","bool","int","str","list","tuple","dict"]):kitB y "str" = some (decide (y = "str")):=by
 simp only[List.mem_cons,List.not_mem_nil,or_false]at h;rcases h with rfl|rfl|rfl|rfl|rfl|rfl|rfl <;> decide +kernel
def Pln(t:PyData):Prop:=tyN t≠none
def isInt:PyData->Bool|.int _=>true|.bool _=>true|_=>false
def isBool:PyData->Bool|.bool _=>true|_=>false
def isTup:PyData->Bool|.tuple _=>true|_=>false
def isStr:PyData->Bool|.str _=>true|_=>false
variable{d:DTE}{ρ:En}{n:Nat}{Rn:qN}
theorem VP{y:String}(h:tyN u=some y):y∈["NoneType","bool","int","str","list","tuple","dict"]:=by
 unfold tyN at h;split at h <;> cases h <;> simp
def isiD(f:PyData->Bool)(d:DTE):DTE:=fun ρ n R=>d ρ n fun t n1=>Pln t/\R (.bool (f t)) n1
end
section
variable{X:Cx}{e:Expr}{d:DTE}{p p2 pos:Pos}
theorem UF{T:String}{f:PyData->Bool}{y:Str}(hk:∀t y,tyN t=some y->kitB y T=some (f t))(hm:X.mg "isinstance" = none) (hmT:X.mg y=none) (hT:bootBuiltins y=some (.type T)) (h:DL X e d) (hs:starEach (e::[.Name y p2]) X.env=(false,eval e X.env)::starEach [.Name y p2] X.env) (hg:Gl X "isinstance":=by rfl) (hgT:Gl X y:=by rfl) (hn:y ≠ "__name__":=by decide) (hd:(y == ("__debug__":Str))=false:=by decide) :
  DE X (.Call (.Name "isinstance" p) [e,.Name y p2] [] pos) (isiD f d):=by
 obtain⟨ta,pa,h⟩:=h;refine⟨_,Vm znJ hm zpq (QW pa (zqn (Bd.zvr hmT hT hgT hn hd) UC) hs) hg,fun C ρ σ H n Q R S hd hq=>?_⟩
 refine h C ρ σ H n _ _ S hd fun t n1 v H1 r1 e1 h1 q1=>?_
 cases et:tyN t with
 | none=>exact absurd et r1.1
 | some z=>exact⟨v,C.hd,Own C ρ σ,t,T,z,f t,rfl,q1,et,hk t z et,hq _ n1 _ H1 r1.2 e1 h1 (.bl _)⟩
theorem ztC:∀t y,tyN t=some y->kitB y "int" = some (isInt t):=fun t y e=>by
 rw[zsO y (VP e)];unfold tyN at e;split at e <;> cases e <;> rfl
theorem zqZ:∀t y,tyN t=some y->kitB y "bool" = some (isBool t):=fun t y e=>by
 rw[zqI y (VP e)];unfold tyN at e;split at e <;> cases e <;> rfl
theorem Z0:∀t y,tyN t=some y->kitB y "tuple" = some (isTup t):=fun t y e=>by
 rw[zo2 y (VP e)];unfold tyN at e;split at e <;> cases e <;> rfl
theorem ztB:∀t y,tyN t=some y->kitB y "str" = some (isStr t):=fun t y e=>by
 rw[zsN y (VP e)];unfold tyN at e;split at e <;> cases e <;> rfl
theorem QV{i:Int}:Pln (.int i):=by simp[Pln,tyN]
theorem QU{i:Bool}:Pln (.bool i):=by simp[Pln,tyN]
theorem Q7{i:Str}:Pln (.str i):=by simp[Pln,tyN]
theorem Q8{i:qD}:Pln (.tuple i):=by simp[Pln,tyN]
theorem Ub{i:qD}:Pln (.list i):=by simp[Pln,tyN]
theorem Uc:Pln .none:=by simp[Pln,tyN]
theorem Ua:Pln (.dict []):=by simp[Pln,tyN]
end
abbrev blk(i h:Int):PyData:=.tuple [.int i,.int h]
theorem okd_pair{i h:Int}:Okd (.tuple [.int i,.int h]):=⟨by simp[PyData.canLay0,PyData.canLayAll0],by simp[PyData.depth,PyData.depthAll]⟩
theorem zkH{i h j g:Int}:PyData.eqv (.tuple [.int i,.int h]) (.tuple [.int j,.int g])=(decide (i=j)&&decide (h=g)):=by
 simp only[PyData.eqv,PyData.eqvAll,Bool.and_true];rw[Bool.beq_eq_decide_eq,Bool.beq_eq_decide_eq]
def IsBk(bits i h:Int):Prop:=0<=h/\h<=bits/\∃k:Int,0<=k/\i=k*2 ^ h.toNat/\k<2 ^ (bits - h).toNat
theorem Z3(k:Nat):(0:Int)<2 ^ k:=Bd.Qj k
theorem zkc{a b:Nat}:(2:Int) ^ (a+b)=2 ^ a*2 ^ b:=Int.pow_add 2 a b
theorem IsBk.bounds{bits i h:Int}(b0:0<=bits)(H:IsBk bits i h):0<=i/\i+2 ^ h.toNat<=2 ^ bits.toNat:=by
 obtain⟨h0,h1,k,k0,rfl,k1⟩:=H;have p:=Z3 h.toNat;refine⟨Int.mul_nonneg k0 (Int.le_of_lt p),?_⟩;have e:bits.toNat=(bits - h).toNat+h.toNat:=by lia
 rw[e,zkc];have:(k+1)*2 ^ h.toNat<=2 ^ (bits - h).toNat*2 ^ h.toNat:=Int.mul_le_mul_of_nonneg_right (by lia) (Int.le_of_lt p)
 rw[Int.add_mul,Int.one_mul]at this;exact this
theorem zml{k:Nat}(h:k<=64):(2:Int) ^ k<=18446744073709551616:=by
 have:=Bd.zeG h;simpa using this
theorem IsBk.lt{bits i h:Int}(b0:0<=bits)(b1:bits<=64)(H:IsBk bits i h):0<=i/\i<18446744073709551616:=by
 obtain⟨a,b⟩:=H.bounds b0;have:=zml (show bits.toNat<=64 by lia)
 have:=Z3 h.toNat;lia
theorem cpow{j:Int}(h0:0<=j)(h1:j<=1000000):CPow 1 j:=⟨h0,h1,by decide⟩
section
variable{t u tb:DTS}{D:DEnds}{ρ ρ0:En}{n i j m:Nat}{d da db dc d1 d2:DTE}{ds di:DTA}{c c' tt:DTT}{g:G2}{g':G2}{gc:GC}{gd:GD}{tg:DTG}{tgs:DTGs}{R:qN}{Rb:Bool->Nat->Prop}{Rl:List PyData->Nat->Prop}{Re:En->Prop}{x y:PyData}{xs ys acc:qD}{f:Int->Int->Int}{fb:PyData->Bool}{k:Bool}{capt:List Nat}{h:Option Cell}
theorem Zb:(sSeq t u D ρ n)=(t { D with nx:=u D } ρ n):=propext Iff.rfl
theorem Za:(sRet d D ρ n)=(d ρ n fun t n'=>D.rt t n'):=propext Iff.rfl
theorem Zc:(sSet i d D ρ n)=(d ρ n fun t n'=>D.nx (ρ.set i (some (.val t))) n'):=propext Iff.rfl
theorem Y9:(sAsg d tg D ρ n)=(d ρ n fun t n'=>tg t ρ fun ρ'=>D.nx ρ' n'):=propext Iff.rfl
theorem u_dC:(dC x ρ n R)=(R x n):=propext Iff.rfl
theorem YY:(dOp g da db ρ n R)=(da ρ n fun x n1=>db ρ n1 fun y n2=>g x y fun z=>R z n2):=propext Iff.rfl
theorem Ze:(dNew ds ρ n R)=(ds ρ n fun ts n'=>R (.list ts) n'):=propext Iff.rfl
theorem Zg:(dTup ds ρ n R)=(ds ρ n fun ts n1=>R (.tuple ts) n1):=propext Iff.rfl
theorem Zf:(dNil ρ n Rl)=(Rl [] n):=propext Iff.rfl
theorem Zm:(QL d ds ρ n Rl)=(d ρ n fun t n1=>ds ρ n1 fun ts n2=>Rl (t::ts) n2):=propext Iff.rfl
theorem YX:(dFn gd ds ρ n R)=(ds ρ n fun ts n1=>gd ts n1 R):=propext Iff.rfl
theorem Zt:(ZL gc ds ρ n R)=(ds ρ n fun ts n1=>gc ts fun z=>R z n1):=propext Iff.rfl
theorem Zv:(QD i x ρ Re)=(Re (ρ.set i (some (.val x)))):=propext Iff.rfl
theorem Zo:(U8 tgs (.tuple xs) ρ Re)=(tgs xs ρ Re):=propext Iff.rfl
theorem Zn:(U7 [] ρ Re)=(Re ρ):=propext Iff.rfl
theorem Zu:(Q6 tg tgs (x::xs) ρ Re)=(tg x ρ fun ρ'=>tgs xs ρ' Re):=propext Iff.rfl
def cVal:Option Cell->(PyData->Prop)->Prop
 | some (.val d),R=>R d
 | _,_=>False
def cOwn:Option Cell->(List PyData->Prop)->Prop
 | some (.own d),R=>R d
 | _,_=>False
theorem Y4{Q:PyData->Prop}:cVal (some (.val x)) Q=Q x:=propext Iff.rfl
theorem Y8:dVar i ρ n R=cVal (ρ.getD i none) fun d=>R d n:=by
 unfold dVar;rw[List.getD_eq_getElem?_getD];cases e:ρ[i]? with
 | none=>exact propext Iff.rfl
 | some o=>cases o with
  | none=>exact propext Iff.rfl
  | some c=>cases c <;> exact propext Iff.rfl
theorem YE:U3 d ρ n Rb=(d ρ n fun t n'=>bolD t fun b=>Rb b n'):=by
 unfold U3;congr 1
 funext t n'
 cases t <;> exact propext Iff.rfl
def lCat:PyData->PyData->(List PyData->Prop)->Prop
 | .list xs,.list ys,R=>xs.length+ys.length<=16777216/\R (xs++ys)
 | _,_,_=>False
theorem Yv:dCat da db ρ n Rl=(da ρ n fun x n1=>db ρ n1 fun y n2=>lCat x y fun zs=>Rl zs n2):=by
 unfold dCat;congr 1
 funext x n1
 congr 1
 funext y n2
 cases x <;> cases y <;> exact propext Iff.rfl
def lLst:PyData->(List PyData->Prop)->Prop
 | .list xs,R=>R xs
 | _,_=>False
def lTup:PyData->(List PyData->Prop)->Prop
 | .tuple xs,R=>R xs
 | _,_=>False
theorem Yw:dItL d ρ n Rl=(d ρ n fun t n'=>lLst t fun ts=>Rl ts n'):=by
 unfold dItL;congr 1
 funext t n'
 cases t <;> exact propext Iff.rfl
theorem Yx:dItT d ρ n Rl=(d ρ n fun t n'=>lTup t fun ts=>Rl ts n'):=by
 unfold dItT;congr 1
 funext t n'
 cases t <;> exact propext Iff.rfl
def lInt:PyData->(Int->Prop)->Prop
 | .int i,R=>R i
 | _,_=>False
theorem YD:ZE d ρ n Rl=(d ρ n fun t n'=>lInt t fun j=>(-(2 ^ 62)<=j/\j<2 ^ 62)/\Rl (Qw 0 j.toNat) n'):=by
 unfold ZE;congr 1
 funext t n'
 cases t <;> exact propext Iff.rfl
theorem Yy:dNeg d ρ n R=(d ρ n fun t n'=>lInt t fun i=>R (.int (-i)) n'):=by
 unfold dNeg;congr 1
 funext t n'
 cases t <;> exact propext Iff.rfl
theorem U9:sAug i f d D ρ n=cVal (ρ.getD i none) fun v=>lInt v fun q=>d ρ n fun t n'=>lInt t fun k=>D.nx (ρ.set i (some (.val (.int (f q k))))) n':=by
 unfold sAug;rw[List.getD_eq_getElem?_getD];cases e:ρ[i]? with
 | none=>exact propext Iff.rfl
 | some o=>cases o with
  | none=>exact propext Iff.rfl
  | some c=>cases c with
   | own _=>exact propext Iff.rfl
   | dct _=>exact propext Iff.rfl
   | dtt _=>exact propext Iff.rfl
   | rdo _=>exact propext Iff.rfl
   | val v=>cases v with
    | int q =>
     show(d ρ n fun t n'=>_)=(d ρ n fun t n'=>_)
     congr 1
     funext t n'
     cases t <;> exact propext Iff.rfl
    | _=>exact propext Iff.rfl
theorem YI:Y2 g g' da db dc ρ n R=(da ρ n fun x n1=>db ρ n1 fun y n2=>g x y fun z=>bolD z fun b=>if b=true then dc ρ n2 fun w n3=>g' y w fun z=>R z n3 else R (.bool false) n2):=by
 unfold Y2;congr 1
 funext x n1
 congr 1
 funext y n2
 congr 1
 funext z
 cases z with
 | bool b=>cases b <;> simp[bolD]
 | _=>exact propext Iff.rfl
def UM(ρ:En)(i:Nat)(D:DEnds)(dj:DTE)(t:PyData)(n1:Nat)(ts:qD):Prop:=dj ρ n1 fun j n2=>lInt j fun j=>(match ixN ts.length j with|some k=>D.nx (ρ.set i (some (.own (ts.set k t)))) n2|none=>False)
theorem Ya{dj:DTE}:sPut i dj d D ρ n=(d ρ n fun t n1=>cOwn (ρ.getD i none) fun xs=>UM ρ i D dj t n1 xs):=by
 unfold sPut;congr 1
 funext t n1
 rw[List.getD_eq_getElem?_getD];cases e:ρ[i]? with
 | none=>exact propext Iff.rfl
 | some o=>cases o with
  | none=>exact propext Iff.rfl
  | some c=>cases c with
   | val _=>exact propext Iff.rfl
   | dct _=>exact propext Iff.rfl
   | dtt _=>exact propext Iff.rfl
   | rdo _=>exact propext Iff.rfl
   | own xs =>
    show(dj ρ n1 fun j n2=>_)=UM ρ i D dj t n1 xs
    unfold UM;congr 1
    funext j n2
    cases j <;> exact propext Iff.rfl
end
section
variable{t u tb:DTS}{D:DEnds}{ρ ρ0:En}{n i j m:Nat}{d da db dc d1 d2:DTE}{ds di:DTA}{c c' tt:DTT}{g:G2}{g':G2}{gc:GC}{gd:GD}{tg:DTG}{tgs:DTGs}{R:qN}{Rb:Bool->Nat->Prop}{Rl:List PyData->Nat->Prop}{Re:En->Prop}{x y:PyData}{xs ys acc:qD}{f:Int->Int->Int}{fb:PyData->Bool}{k:Bool}{capt:List Nat}
theorem ztc(h:t { D with nx:=u D } ρ n):sSeq t u D ρ n:=h
theorem zqP(h:D.nx ρ n):zp2 D ρ n:=h
theorem ztd(h:d ρ n fun t n'=>D.rt t n'):sRet d D ρ n:=h
theorem zv6(h:c ρ n fun b n1=>if b=true then t D ρ n1 else u D ρ n1):sIf c t u D ρ n:=h
theorem ztf(h:d ρ n fun t n'=>tg t ρ fun ρ'=>D.nx ρ' n'):sAsg d tg D ρ n:=h
theorem zte(h:di ρ n fun ts n1=>forP tg tb D ts ρ n1):sFor di tg tb D ρ n:=h
theorem i_dC(h:R x n):dC x ρ n R:=h
theorem zv_(h:da ρ n fun x n1=>db ρ n1 fun y n2=>g x y fun z=>R z n2):dOp g da db ρ n R:=h
theorem zts(h:ds ρ n fun ts n'=>R (.list ts) n'):dNew ds ρ n R:=h
theorem ztm(h:ds ρ n fun ts n1=>R (.tuple ts) n1):dTup ds ρ n R:=h
theorem ztr(h:Rl [] n):dNil ρ n Rl:=h
theorem zqW(h:d ρ n fun t n1=>ds ρ n1 fun ts n2=>Rl (t::ts) n2):QL d ds ρ n Rl:=h
theorem zwa(h:ds ρ n fun ts n1=>gd ts n1 R):dFn gd ds ρ n R:=h
theorem ztx(h:ds ρ n fun ts n1=>gd ts n1 fun t n2=>Qa t=true/\R t n2):dFnL gd ds ρ n R:=h
theorem zo_(h:ds ρ n fun ts n1=>gc ts fun z=>R z n1):ZL gc ds ρ n R:=h
theorem ztz(h:c ρ n fun b n1=>if b=true then c' ρ n1 Rb else Rb false n1):dAnd c c' ρ n Rb:=h
theorem zv9(h:c ρ n fun b n1=>if b=true then Rb true n1 else c' ρ n1 Rb):dOr c c' ρ n Rb:=h
theorem ztq(h:c ρ n fun b n1=>Rb (!b) n1):dNot c ρ n Rb:=h
theorem zqY(h:da ρ n fun t n1=>bolD t fun b=>if b=true then db ρ n1 R else R (.bool false) n1):zrc da db ρ n R:=h
theorem ztp(h:da ρ n fun t n1=>bolD t fun b=>if b=true then R (.bool true) n1 else db ρ n1 R):dOrV da db ρ n R:=h
theorem zqV(h:da ρ n fun t n1=>bolD t fun b=>R (.bool (!b)) n1):zrb da ρ n R:=h
theorem ztw(h:c ρ n fun b n1=>if b=true then da ρ n1 R else db ρ n1 R):dIfE c da db ρ n R:=h
theorem ztn(h:d ρ n fun t n'=>truD t fun b=>Rb b n'):dTru d ρ n Rb:=h
theorem zqX(h:di ρ n fun ts n1=>JO tg tt d (JE m capt ρ) ts [] n1 Rl):dComp m capt di tg tt d ρ n Rl:=h
theorem ztl(h:Rb true n):dYes ρ n Rb:=h
theorem zqN(h:tgs xs ρ Re):U8 tgs (.tuple xs) ρ Re:=h
theorem zqO(h:Re ρ):U7 [] ρ Re:=h
theorem zo7(h:tg x ρ fun ρ'=>tgs xs ρ' Re):Q6 tg tgs (x::xs) ρ Re:=h
theorem zqR(h:d ρ n fun t n'=>bolD t fun b=>Rb b n'):U3 d ρ n Rb:=YE.symm▸h
theorem zty(h:da ρ n fun x n1=>db ρ n1 fun y n2=>lCat x y fun zs=>Rl zs n2):dCat da db ρ n Rl:=Yv.symm▸h
theorem ztv(h:d ρ n fun t n'=>lLst t fun ts=>Rl ts n'):dItL d ρ n Rl:=Yw.symm▸h
theorem ztu(h:d ρ n fun t n'=>lTup t fun ts=>Rl ts n'):dItT d ρ n Rl:=Yx.symm▸h
theorem zqT(h:d ρ n fun t n'=>lInt t fun j=>(-(2 ^ 62)<=j/\j<2 ^ 62)/\Rl (Qw 0 j.toNat) n'):ZE d ρ n Rl:=YD.symm▸h
theorem ztt(h:d ρ n fun t n'=>lInt t fun i=>R (.int (-i)) n'):dNeg d ρ n R:=Yy.symm▸h
theorem zo9(h:da ρ n fun x n1=>db ρ n1 fun y n2=>g x y fun z=>bolD z fun b=>if b=true then dc ρ n2 fun w n3=>g' y w fun z=>R z n3 else R (.bool false) n2):Y2 g g' da db dc ρ n R:=YI.symm▸h
def lIsi(fb:PyData->Bool)(t:PyData)(R:PyData->Prop):Prop:=Pln t/\R (.bool (fb t))
theorem ztj(h:d ρ n fun t n1=>lIsi fb t fun z=>R z n1):isiD fb d ρ n R:=h
theorem zpL(e:ρ[i]?=some (some (.val x)))(h:R x n):dVar i ρ n R:=by unfold dVar;rw[e];exact h
theorem zpM(e:ρ[i]?=some (some (.own xs)))(h:R (.list xs) n):dOwn i ρ n R:=by unfold dOwn;rw[e];exact h
theorem zkw(e:ρ[i]?=some (some (.own xs)))(h:d ρ n fun t n'=>xs.length<16777216/\D.nx (ρ.set i (some (.own (xs++[t])))) n'):ZU i d D ρ n:=by unfold ZU;rw[e];exact h
theorem zkv(e:ρ[i]?=some (some (.own xs)))(h:t D (ρ.set i (some (.val (.list xs)))) n):ZV i t D ρ n:=by unfold ZV;rw[e];exact h
theorem zwb{q:Int}(e:ρ[i]?=some (some (.val (.int q))))(h:d ρ n fun t n'=>lInt t fun k=>D.nx (ρ.set i (some (.val (.int (f q k))))) n'):sAug i f d D ρ n:=by
 rw[U9,List.getD_eq_getElem?_getD,e];exact h
theorem zv7{dj:DTE}(e:ρ[i]?=some (some (.own xs)))(h:d ρ n fun t n1=>UM ρ i D dj t n1 xs):sPut i dj d D ρ n:=by
 rw[Ya,List.getD_eq_getElem?_getD,e];exact h
theorem ztg{dj:DTE}(h:dj ρ n fun j n2=>lInt j fun j=>(match ixN xs.length j with|some k=>D.nx (ρ.set i (some (.own (xs.set k x)))) n2|none=>False)):UM ρ i D dj x n xs:=h
theorem zv8{b:Bool}{A B:Prop}(h1:b=true->A)(h2:b=false->B):if b=true then A else B:=by cases b with|true=>exact iteT (h1 rfl)|false=>exact iteF (h2 rfl)
theorem zti{p:Prop}[Decidable p]{A B:Prop}(h1:p->A)(h2:¬p->B):if decide p=true then A else B:=by
 by_cases h:p
 ·rw[decide_eq_true h];exact iteT (h1 h)
 ·rw[decide_eq_false h];exact iteF (h2 h)
theorem zth{b:Bool}{A B:Prop}(h:if b=true then B else A):if (!b)=true then A else B:=by
 cases b with|true=>exact iteF h|false=>exact iteT h
end
section
variable{C:Int->Int->Prop}{f:Int->Int->Int}{fb:Int->Int->Bool}{i j k:Int}{R:PyData->Prop}{Rb:Bool->Prop}{xs ys:qD}{s t:Str}{a b:Bool}{u v x y:PyData}{Rn:qN}{n:Nat}
theorem zs5(h:R (.int (i+j))):oAdd (.int i) (.int j) R:=Yb.symm▸h
theorem zs4(h:(s.length+t.length<=16777216/\R (.str (s++t)))):oAdd (.str s) (.str t) R:=Yc.symm▸h
theorem zs3(h:(xs.length+ys.length<=16777216/\R (.tuple (xs++ys)))):oAdd (.tuple xs) (.tuple ys) R:=Yd.symm▸h
theorem zv0(h:R (.bool (decide (i=j)))):oEq (.int i) (.int j) R:=UO.symm▸h
theorem zvY(h:R (.bool (decide (s=t)))):oEq (.str s) (.str t) R:=UQ.symm▸h
theorem zvX(h:(Okd (.tuple xs)/\Okd (.tuple ys)/\R (.bool (PyData.eqv (.tuple xs) (.tuple ys))))):oEq (.tuple xs) (.tuple ys) R:=UR.symm▸h
theorem zvZ(h:(Okd (.list xs)/\Okd (.list ys)/\R (.bool (PyData.eqv (.list xs) (.list ys))))):oEq (.list xs) (.list ys) R:=UP.symm▸h
theorem zvH(h:R (.bool (!decide (i=j)))):oNe (.int i) (.int j) R:=U0.symm▸h
theorem zvF(h:R (.bool (!decide (s=t)))):oNe (.str s) (.str t) R:=U2.symm▸h
theorem zvG(h:(Okd (.list xs)/\Okd (.list ys)/\R (.bool (!PyData.eqv (.list xs) (.list ys))))):oNe (.list xs) (.list ys) R:=U1.symm▸h
theorem zvU(h:R (.bool (a == b))):oIs (.bool a) (.bool b) R:=UT.symm▸h
theorem zvT(h:R (.bool (isNone u))):oIs u .none R:=UU.symm▸h
theorem zqL(h:R (.bool (a != b))):oIsN (.bool a) (.bool b) R:=YA.symm▸h
theorem zqK(h:R (.bool (!isNone u))):oIsN u .none R:=YB.symm▸h
theorem zvW(h:(Okd u/\(∀t∈xs,Okd t)/\R (.bool (xs.any fun t=>t.eqv u)))):oIn u (.tuple xs) R:=US.symm▸h
theorem zvM(h:R (.bool (decide (i<j)))):oLtA (.int i) (.int j) R:=UX.symm▸h
theorem zvP(h:R (.bool (decide (i<=j)))):oLeA (.int i) (.int j) R:=UV.symm▸h
theorem zvO(h:R (.bool (!decide (t.cps.toList<s.cps.toList)))):oLeA (.str s) (.str t) R:=UW.symm▸h
theorem zsY(h:R u):oIx (.tuple (u::xs)) (.int 0) R:=Yi.symm▸h
theorem zsX(h:R v):oIx (.tuple (u::v::xs)) (.int 1) R:=Yj.symm▸h
theorem zsW{w:PyData}(h:R w):oIx (.tuple (u::v::w::xs)) (.int 2) R:=Yk.symm▸h
theorem Vs(h:R u):oIx (.list (u::xs)) (.int 0) R:=Yf.symm▸h
theorem zpJ(h:R v):oIx (.list (u::v::xs)) (.int 1) R:=Yg.symm▸h
theorem zs0{w:PyData}(h:R w):oIx (.list (u::v::w::xs)) (.int 2) R:=Yh.symm▸h
theorem zsQ(h:Rb a):truD (.bool a) Rb:=Yo.symm▸h
theorem zsP(h:Rb (!xs.isEmpty)):truD (.list xs) Rb:=Yp.symm▸h
theorem zv2(h:Rb a):bolD (.bool a) Rb:=UN.symm▸h
theorem zsV(h:R (.int xs.length)):bLen [.list xs] R:=Yl.symm▸h
theorem zsT(h:R (.int xs.length)):bLen [.tuple xs] R:=Yn.symm▸h
theorem zsU(h:(s.length<=16777216/\R (.int s.length))):bLen [.str s] R:=Ym.symm▸h
theorem zo4{ns:List Int}(h:R (.int ns.length)):bLen [SCR ns] R:=YG.symm▸h
theorem zvK(h:R (.int (if j<i then j else i))):bMin [.int i,.int j] R:=UZ.symm▸h
theorem zvL(h:R (.int (if j > i then j else i))):bMax [.int i,.int j] R:=UY.symm▸h
theorem zs1(h:R (.int (if a then 1 else 0))):bInt [.bool a] R:=Ye.symm▸h
theorem zo3(h:R (.tuple xs)):ZO [.list xs] R:=YH.symm▸h
theorem zqJ{Rl:List PyData->Prop}(h:Rl xs):Qi (.list xs) Rl:=YC.symm▸h
theorem zo5{Rl:List PyData->Prop}(h:Rl xs):Qi (.tuple xs) Rl:=YF.symm▸h
theorem zv1{Q:List PyData->Prop}(h:(xs.length+ys.length<=16777216/\Q (xs++ys))):lCat (.list xs) (.list ys) Q:=h
theorem zvN{Q:List PyData->Prop}(h:Q xs):lLst (.list xs) Q:=h
theorem zvB{Q:List PyData->Prop}(h:Q xs):lTup (.tuple xs) Q:=h
theorem zvV{i:Int}{Q:Int->Prop}(h:Q i):lInt (.int i) Q:=h
theorem zvI(c:CMul i j)(h:R (.int (i*j))):oMul (.int i) (.int j) R:=⟨c,h⟩
theorem zvJ(c:0<j)(h:R (.int (i % j))):oMod (.int i) (.int j) R:=⟨c,h⟩
theorem zs2(c:ZF i j)(h:R (.int (i / j))):Ug (.int i) (.int j) R:=⟨c,h⟩
theorem zvE(c:CPow i j)(h:R (.int (i*2 ^ j.toNat))):oShl (.int i) (.int j) R:=⟨c,h⟩
theorem zvC(h:R (.int (i - j))):oSub (.int i) (.int j) R:=h
theorem zvA(h:R (.int (Builtin.bitXor i j))):oXor (.int i) (.int j) R:=h
theorem zv3(h:R (.int (Builtin.bitAnd i j))):oAnd (.int i) (.int j) R:=h
theorem j_gB(h:R (.bool (fb i j))):gB fb (.int i) (.int j) R:=h
theorem zjG(h:R (.bool true)):lIsi isInt (.int i) R:=⟨QV,h⟩
theorem zif(h:R (.bool true)):lIsi isInt (.bool a) R:=⟨QU,h⟩
theorem zjF(h:R (.bool false)):lIsi isInt (.str s) R:=⟨Q7,h⟩
theorem zgY(h:R (.bool false)):lIsi isInt (.tuple xs) R:=⟨Q8,h⟩
theorem zid(h:R (.bool false)):lIsi isInt (.list xs) R:=⟨Ub,h⟩
theorem zic(h:R (.bool false)):lIsi isInt (.none) R:=⟨Uc,h⟩
theorem zie(h:R (.bool false)):lIsi isInt (.dict []) R:=⟨Ua,h⟩
theorem zig(h:R (.bool false)):lIsi isBool (.int i) R:=⟨QV,h⟩
theorem zgZ(h:R (.bool true)):lIsi isBool (.bool a) R:=⟨QU,h⟩
theorem zjC(h:R (.bool false)):lIsi isTup (.int i) R:=⟨QV,h⟩
theorem zh8(h:R (.bool false)):lIsi isTup (.bool a) R:=⟨QU,h⟩
theorem zjB(h:R (.bool false)):lIsi isTup (.str s) R:=⟨Q7,h⟩
theorem zgW(h:R (.bool true)):lIsi isTup (.tuple xs) R:=⟨Q8,h⟩
theorem zh6(h:R (.bool false)):lIsi isTup (.list xs) R:=⟨Ub,h⟩
theorem zh5(h:R (.bool false)):lIsi isTup (.none) R:=⟨Uc,h⟩
theorem zh7(h:R (.bool false)):lIsi isTup (.dict []) R:=⟨Ua,h⟩
theorem zjE(h:R (.bool false)):lIsi isStr (.int i) R:=⟨QV,h⟩
theorem zib(h:R (.bool false)):lIsi isStr (.bool a) R:=⟨QU,h⟩
theorem zjD(h:R (.bool true)):lIsi isStr (.str s) R:=⟨Q7,h⟩
theorem zgX(h:R (.bool false)):lIsi isStr (.tuple xs) R:=⟨Q8,h⟩
theorem zh_(h:R (.bool false)):lIsi isStr (.list xs) R:=⟨Ub,h⟩
theorem zh9(h:R (.bool false)):lIsi isStr (.none) R:=⟨Uc,h⟩
theorem zia(h:R (.bool false)):lIsi isStr (.dict []) R:=⟨Ua,h⟩
end
theorem zqa{h:Int}(h0:0<h):(2:Int) ^ h.toNat=2*2 ^ (h - 1).toNat:=by
 have e:h.toNat=(h - 1).toNat+1:=by lia
 rw[e,Int.pow_succ,Int.mul_comm]
theorem zr_{h:Int}(h0:0<=h):(2:Int) ^ (h+1).toNat=2*2 ^ h.toNat:=by
 have:=zqa (h:=h+1) (by lia)
 rw[this];simp
theorem IsBk.low{bits i h:Int}(B:IsBk bits i h)(hh:0<h):IsBk bits i (h - 1):=by
 obtain⟨h0,h1,k,k0,rfl,k1⟩:=B;refine⟨by lia,by lia,2*k,by lia,?_,?_⟩
 ·rw[zqa hh,<- Int.mul_assoc,Int.mul_comm k 2]
 ·have e:(bits - (h - 1)).toNat=(bits - h).toNat+1:=by lia
  rw[e,Int.pow_succ];lia
theorem IsBk.up{bits i h:Int}(B:IsBk bits i h)(hh:0<h):IsBk bits (i+2 ^ h.toNat / 2) (h - 1):=by
 obtain⟨h0,h1,k,k0,rfl,k1⟩:=B;refine⟨by lia,by lia,2*k+1,by lia,?_,?_⟩
 ·rw[zqa hh];have:2*(2:Int) ^ (h - 1).toNat / 2=2 ^ (h - 1).toNat:=by lia
  rw[this,Int.add_mul,Int.one_mul,<- Int.mul_assoc,Int.mul_comm k 2]
 ·have e:(bits - (h - 1)).toNat=(bits - h).toNat+1:=by lia
  rw[e,Int.pow_succ];lia
theorem zkj{k:Int}(P:Int)(hP:0<P):k*P % (2*P)=(k % 2)*P:=by
 rw[Int.mul_comm 2 P,Int.mul_comm k P,Int.mul_emod_mul_of_pos _ _ hP,Int.mul_comm]
theorem IsBk.abt{bits i h:Int}(B:IsBk bits i h)(hh:h<bits):IsBk bits (i - i % (2*2 ^ h.toNat)) (h+1):=by
 obtain⟨h0,h1,k,k0,rfl,k1⟩:=B;refine⟨by lia,by lia,k / 2,by lia,?_,?_⟩
 ·rw[zkj _ (Z3 _),zr_ h0,<- Int.sub_mul];have:k - k % 2=k / 2*2:=by lia
  rw[this,Int.mul_assoc]
 ·have e:(bits - h).toNat=(bits - (h+1)).toNat+1:=by lia
  rw[e,Int.pow_succ]at k1;lia
theorem IsBk.oth{bits i h:Int}(B:IsBk bits i h)(hh:h<bits):IsBk bits (Builtin.bitXor i (2 ^ h.toNat)) h:=by
 obtain⟨h0,h1,k,k0,rfl,k1⟩:=B;rw[zj2 _ k0];have e:(bits - h).toNat=(bits - (h+1)).toNat+1:=by lia
 split
 ·refine⟨h0,h1,k+1,by lia,by rw[Int.add_mul,Int.one_mul],?_⟩
  rw[e,Int.pow_succ]at k1 ⊢;lia
 ·refine⟨h0,h1,k - 1,by lia,by rw[Int.sub_mul,Int.one_mul],by lia⟩
theorem IsBk.nxt{bits i h:Int}(B:IsBk bits i h)(hh:i+2*2 ^ h.toNat<=2 ^ bits.toNat):IsBk bits (i+2 ^ h.toNat) h:=by
 obtain⟨h0,h1,k,k0,rfl,k1⟩:=B;refine⟨h0,h1,k+1,by lia,by rw[Int.add_mul,Int.one_mul],?_⟩
 have e:bits.toNat=(bits - h).toNat+h.toNat:=by lia
 rw[e,zkc]at hh;have p:=Z3 h.toNat;have:(k+2)*2 ^ h.toNat<=2 ^ (bits - h).toNat*2 ^ h.toNat:=by rw[Int.add_mul];exact hh
 have:=Int.le_of_mul_le_mul_right this p;lia
theorem zwj{j:Int}:CMul 2 j:=.inl ⟨by decide,by decide⟩
theorem ztY{j:Int}:ZF j 2:=⟨by decide,by decide⟩
theorem Qz(h:Nat):(1:Int)*2 ^ h=2 ^ h:=Int.one_mul _
def BlkN(bits i:Int)(h:Nat):Prop:=(h:Int)<=bits/\∃k:Int,0<=k/\i=k*2 ^ h/\k<2 ^ (bits.toNat - h)
theorem IsBk.n{bits i h:Int}(B:IsBk bits i h):BlkN bits i h.toNat:=by
 obtain⟨h0,h1,k,k0,e,k1⟩:=B;refine⟨by lia,k,k0,e,?_⟩
 have:(bits - h).toNat=bits.toNat - h.toNat:=by lia
 rw[<- this];exact k1
theorem znV{bits j:Int}{g h:Nat}(b:BlkN bits j g)(l:g<=h):j / 2 ^ h*2 ^ h<=j/\j+2 ^ g<=(j / 2 ^ h+1)*2 ^ h:=by
 obtain⟨_,m,m0,rfl,_⟩:=b;have pA:=Bd.Qj h;have pB:=Bd.Qj g;have pC:=Bd.Qj (h - g);have eA:(2:Int) ^ h=2 ^ (h - g)*2 ^ g:=by rw[<- Int.pow_add];congr 1;lia
 refine⟨Int.ediv_mul_le _ (by lia),?_⟩
 have eq:(m*2 ^ g) / 2 ^ h=m / 2 ^ (h - g):=by rw[eA];exact Int.mul_ediv_mul_of_pos_left m _ pB
 rw[eq,eA,<- Int.mul_assoc];have e1:m*2 ^ g+2 ^ g=(m+1)*2 ^ g:=by rw[Int.add_mul,Int.one_mul]
 rw[e1];refine Int.mul_le_mul_of_nonneg_right ?_ (by lia)
 have:=Int.lt_ediv_add_one_mul_self m pC;lia
theorem zki{a b A:Int}(p:0<A)(l:a<b):(a+1)*A<=b*A:=Int.mul_le_mul_of_nonneg_right (by lia) (by lia)
theorem VU{bits i j:Int}{h g:Nat}(bi:BlkN bits i h)(bj:BlkN bits j g):(g<=h/\j / 2 ^ h*2 ^ h=i)↔(i<=j/\j+2 ^ g<=i+2 ^ h):=by
 have pA:=Bd.Qj h;have pB:=Bd.Qj g;constructor
 ·rintro⟨l,e⟩;have t:=znV bj l;rw[e,Int.add_mul,Int.one_mul,e]at t;exact t
 ·rintro⟨l1,l2⟩;have l:g<=h:=by
   by_cases z:g<=h
   ·exact z
   ·exfalso;have:(2:Int) ^ h<2 ^ g:=by
     have e:(2:Int) ^ g=2 ^ (g - h)*2 ^ h:=by rw[<- Int.pow_add];congr 1;lia
     have p2:(2:Int)<=2 ^ (g - h):=by
      obtain⟨d,hd⟩:∃d,g - h=d+1:=⟨g - h - 1,by lia⟩
      rw[hd,Int.pow_succ];have:=Bd.Qj d;lia
     rw[e];have:=Int.mul_le_mul_of_nonneg_right p2 (show(0:Int)<=2 ^ h by lia)
     lia
    lia
  refine⟨l,?_⟩;obtain⟨_,k,k0,rfl,_⟩:=bi;have e:j / 2 ^ h=k:=by
   have a1:k<=j / 2 ^ h:=(Int.le_ediv_iff_mul_le pA).mpr l1;have a2:j / 2 ^ h<k+1:=(Int.ediv_lt_iff_lt_mul pA).mpr (by rw[Int.add_mul,Int.one_mul];lia)
   lia
  rw[e]
theorem We{bits i j:Int}{h g:Nat}(bi:BlkN bits i h)(bj:BlkN bits j g)(l:g<=h):(g<=h/\j / 2 ^ h*2 ^ h=i)\/j+2 ^ g<=i\/i+2 ^ h<=j:=by
 have pA:=Bd.Qj h;have t:=znV bj l;obtain⟨_,k,k0,rfl,_⟩:=bi;rcases Int.lt_trichotomy (j / 2 ^ h) k with z|z|z
 ·have:=zki pA z;exact .inr (.inl (by lia))
 ·exact .inl ⟨l,by rw[z]⟩
 ·have:=zki pA z;rw[Int.add_mul,Int.one_mul]at this;exact .inr (.inr (by lia))
theorem znW{bits i j:Int}{h g:Nat}(bi:BlkN bits i h)(bj:BlkN bits j g):(¬(g<=h/\j / 2 ^ h*2 ^ h=i)/\¬(h<=g/\i / 2 ^ g*2 ^ g=j))↔(j+2 ^ g<=i\/i+2 ^ h<=j):=by
 have pA:=Bd.Qj h;have pB:=Bd.Qj g;have a:=VU bi bj;have b:=VU bj bi;constructor
 ·rintro⟨n1,n2⟩;rcases Nat.le_total g h with l|l
  ·rcases We bi bj l with z|z
   ·exact absurd z n1
   ·exact z
  ·rcases We bj bi l with z|z|z
   ·exact absurd z n2
   ·exact .inr z
   ·exact .inl z
 ·intro z;refine⟨fun y=>?_,fun y=>?_⟩
  ·have:=a.mp y;lia
  ·have:=b.mp y;lia
def hldD(i h j g:Int):Bool:=decide (g<=h)&&decide (j / 2 ^ h.toNat*2 ^ h.toNat=i)
theorem zt0{bits i h j g:Int}(A:IsBk bits i h)(B:IsBk bits j g):(!hldD i h j g&&!hldD j g i h)=decide (j+2 ^ g.toNat<=i\/i+2 ^ h.toNat<=j):=by
 have a:=znW A.n B.n;have h0:=A.1;have g0:=B.1;have e1:hldD i h j g=decide (g.toNat<=h.toNat/\j / 2 ^ h.toNat*2 ^ h.toNat=i):=by
  unfold hldD;rw[<- Bool.decide_and];exact decide_eq_decide.mpr ⟨fun z=>⟨by lia,z.2⟩,fun z=>⟨by lia,z.2⟩⟩
 have e2:hldD j g i h=decide (h.toNat<=g.toNat/\i / 2 ^ g.toNat*2 ^ g.toNat=j):=by
  unfold hldD;rw[<- Bool.decide_and];exact decide_eq_decide.mpr ⟨fun z=>⟨by lia,z.2⟩,fun z=>⟨by lia,z.2⟩⟩
 rw[e1,e2,<- decide_not,<- decide_not,<- Bool.decide_and];exact decide_eq_decide.mpr a
theorem znm{g:DTG}{tb:DTS}{D:DEnds}(Inv:Nat->En->Nat->Prop):∀(ts:qD) (i:Nat) {ρ:En}{n:Nat},Inv i ρ n ->
  (∀(k:Nat) (t:PyData) (ρ:En) (n:Nat) (K:En->Nat->Prop),ts[k]?=some t->Inv (i+k) ρ n->(∀ρ' n',Inv (i+k+1) ρ' n'->K ρ' n')->g t ρ fun ρ'=>tb { D with nx:=K,ct:=K,bk:=D.nx } ρ' n) ->
  (∀ρ n,Inv (i+ts.length) ρ n->D.nx ρ n)->forP g tb D ts ρ n
 | [],i,ρ,n,h0,_,fin=>fin ρ n (by simpa using h0)
 | t::ts,i,ρ,n,h0,turn,fin=>by
  refine turn 0 t ρ n _ rfl (by simpa using h0) fun ρ' n' h'=>?_
  refine znm Inv ts (i+1) (by simpa using h') (fun k u ρ n K e hI hK=>?_) (fun ρ n h=>fin ρ n ?_)
  ·refine turn (k+1) u ρ n K (by simpa using e) ?_ fun ρ' n' h'=>hK ρ' n' ?_
   ·have:i+(k+1)=i+1+k:=by lia
    rw[this];exact hI
   ·have:i+1+k+1=i+(k+1)+1:=by lia
    rw[this];exact h'
  ·have:i+(t::ts).length=i+1+ts.length:=by simp;lia
   rw[this]at *;exact h
theorem YL{g:DTG}{tb:DTS}{D:DEnds}{ts:qD}{ρ:En}{n:Nat}(Inv:Nat->En->Nat->Prop)(h0:Inv 0 ρ n)
  (turn:∀(k:Nat) (t:PyData) (ρ:En) (n:Nat) (K:En->Nat->Prop),ts[k]?=some t->Inv k ρ n->(∀ρ' n',Inv (k+1) ρ' n'->K ρ' n')->g t ρ fun ρ'=>tb { D with nx:=K,ct:=K,bk:=D.nx } ρ' n)
  (fin:∀ρ n,Inv ts.length ρ n->D.nx ρ n):forP g tb D ts ρ n:=by
 refine znm Inv ts 0 h0 (fun k t ρ n K e hI hK=>turn k t ρ n K e (by simpa using hI) fun ρ' n' h'=>hK ρ' n' (by simpa using h')) fun ρ n h=>fin ρ n (by simpa using h)
theorem zed{lo:Int}{m i:Nat}{t:PyData}(h:(Qw lo m)[i]?=some t):i<m/\t=.int (lo+(i:Int)):=by
 unfold Qw at h;rw[List.getElem?_map]at h
 by_cases hi:i<m
 ·rw[List.getElem?_range hi]at h;cases h;exact⟨hi,rfl⟩
 ·rw[List.getElem?_eq_none (by simp;lia)]at h
  cases h
theorem zk8{lo:Int}{m:Nat}:(Qw lo m).length=m:=by simp[Qw]
theorem zhi{c:DTT}{tb:DTS}{D:DEnds}{ρ:En}{n:Nat}(Inv:Nat->En->Nat->Prop){m:Nat}(h0:Inv m ρ n)
  (turn:∀m ρ n,Inv m ρ n->c ρ n fun b n1=>if b=true then tb { D with nx:=fun ρ' n'=>∃m',m'<m/\Inv m' ρ' n',ct:=fun ρ' n'=>∃m',m'<m/\Inv m' ρ' n',bk:=D.nx } ρ n1 else D.nx ρ n1):zmb c tb D ρ n :=
 ⟨Inv,⟨m,h0⟩,turn⟩
theorem IsBk.x4{bits i h:Int}(B:IsBk bits i h):Builtin.bitXor i (2 ^ h.toNat)=if i / 2 ^ h.toNat % 2=0 then i+2 ^ h.toNat else i - 2 ^ h.toNat:=by
 obtain⟨h0,h1,k,k0,rfl,k1⟩:=B;rw[zj2 _ k0,Int.mul_ediv_cancel _ (by have:=Z3 h.toNat;lia)]
theorem zqQ{i j:Nat}{u:DTS}{D:DEnds}{ρ ρd:En}{n:Nat}{ns:List Int}{k:Int}(e0:ρ[0]?=some (some (.val (SCR ns))))(ej:ρ[j]?=some (some (.val (.int k))))(hl:ns.length<=63)(k0:0<=k)(k1:k<=100)(ed:JM ρ=ρd)
  (h:u { nx:=fun ρ' _=>D.nx (JM ρ') n,rt:=fun t _=>∃b,t=.bool b/\D.rt t n,bk:=fun ρ' _=>D.bk (JM ρ') n,ct:=fun ρ' _=>D.ct (JM ρ') n } ((ρd.set j (some (.val (.int k)))).set i (some (.val HAND))) 0):Y0 i j u D ρ n:=by
 subst ed;unfold Y0;rw[e0,ej];exact⟨⟨ns,rfl,hl⟩,k0,k1,h⟩
def rkAt(rk:Value->Int)(xs:Array Keyed)(i:Nat):Int:=((xs[i]?).map fun p=>rk p.1).getD 0
theorem Zj{rk:Value->Int}{xs ys:Array Keyed}{i j:Nat}(h:xs[i]?=ys[j]?):rkAt rk xs i=rkAt rk ys j:=by unfold rkAt;rw[h]
theorem zr0{rk:Value->Int}{xs:Array Keyed}{u d:Nat}(hu:u<xs.size)(hd:d<=u)(k:Nat) :
  (k=u - d->rkAt rk (bubble xs u d) k=rkAt rk xs u)/\(u - d<k->k<=u->rkAt rk (bubble xs u d) k=rkAt rk xs (k - 1))/\(k<u - d\/u<k->rkAt rk (bubble xs u d) k=rkAt rk xs k):=by
 have e:=getElem?_bubble hu d hd k;refine⟨fun h=>?_,fun h1 h2=>?_,fun h=>?_⟩
 ·rw[if_pos h]at e;exact Zj e
 ·rw[if_neg (by lia),if_pos ⟨h1,h2⟩]at e;exact Zj e
 ·rw[if_neg (by lia),if_neg (by lia)]at e;exact Zj e
theorem VF{rk:Value->Int}{xs:Array Keyed}{i j:Nat}(hj:j<=xs.size)(k:Nat) :
  (i<=k->k<j->rkAt rk (mirror xs i j ((j - i) / 2)) k=rkAt rk xs (i+j - 1 - k))/\(k<i\/j<=k->rkAt rk (mirror xs i j ((j - i) / 2)) k=rkAt rk xs k):=by
 have e:=getElem?_mirror_all (i:=i) hj k;refine⟨fun h1 h2=>?_,fun h=>?_⟩
 ·rw[if_pos ⟨h1,h2⟩]at e;exact Zj e
 ·rw[if_neg (by lia)]at e;exact Zj e
structure Sb(kd:SortKind)(a0:Array Keyed)(z:SortSt):Prop where
 pm:(arrOf z).Perm a0
 kn:kindOf z=kd
 fl:failedOf z=none
 pe:pendingOf z=#[]
def Up(rk:Value->Int)(xs:Array Keyed)(m:Nat):Prop:=∀i j,i<j->j<m->rkAt rk xs i<=rkAt rk xs j
section
variable{prog:Program}{w:World}{A:Around}{E:qV}{s:Shared}{kd:SortKind}{rk:Value->Int}{a0:Array Keyed}
def Cmp(prog:Program)(w:World)(A:Around)(s:Shared)(kd:SortKind)(rk:Value->Int)(a0:Array Keyed):Prop :=
 ∀(p q:Keyed) (E:qV) (Q:Bool->Shared->Prop),p∈a0.toList->q∈a0.toList->Q (decide (rk p.1<rk q.1)) s->wpAny (model prog w) A (keyLt' kd p.1 q.1) Q E s
theorem Sb.sz{z:SortSt}(b:Sb kd a0 z):(arrOf z).size=a0.size:=b.pm.size_eq
end
section
variable{prog:Program}{w:World}{A:Around}{E:qV}{s:Shared}{kd:SortKind}{rk:Value->Int}{a0:Array Keyed}
theorem UD{xs:Array Keyed}{i j:Nat}(hj:j<=xs.size)(al:∀k,i<=k->k<j->rkAt rk xs k=rkAt rk xs (j - 1))(k:Nat):rkAt rk (mirror xs i j ((j - i) / 2)) k=rkAt rk xs k:=by
 obtain⟨p,q⟩:=VF (rk:=rk) (i:=i) hj k
 by_cases g:i<=k/\k<j
 ·rw[p g.1 g.2,al _ (by omega) (by omega),al k g.1 g.2]
 ·exact q (by omega)
end
def zjL:Bool->Keyed->Array Keyed->Nat->Nat->Nat->StateT SortSt Sem (Option Nat):=sortPriv% PySem.Builtin.gallop
section
variable{prog:Program}{w:World}{A:Around}{E:qV}{s:Shared}{kd:SortKind}{rk:Value->Int}{a0:Array Keyed}
theorem ZI{z:SortSt}{p q:Keyed}{Q:Option Bool->SortSt->Prop}(c:Cmp prog w A s kd rk a0)(k:kindOf z=kd)(hp:p∈a0.toList)(hq:q∈a0.toList)
  (h:Q (some (decide (rk p.1<rk q.1))) z):wpS (model prog w) A E s (lt' p q) Q z:=by
 rw[lt'_eq];refine wpS_bind (wpS_get (wpS_bind (wpS_lift (wpAny_attempt ?_))));rw[k];exact c p q _ _ hp hq ⟨rfl,wpS_pure h⟩
def bey(rk:Value->Int)(left:Bool)(key:Keyed)(arr:Array Keyed)(base i:Nat):Bool:=if left then decide (rkAt rk arr (base+i)<rk key.1) else !decide (rk key.1<rkAt rk arr (base+i))
theorem Zq{left:Bool}{key:Keyed}{arr:Array Keyed}{base n hint:Nat}{z:SortSt}{Q:Option Nat->SortSt->Prop}(c:Cmp prog w A s kd rk a0)(k:kindOf z=kd)(hk:key∈a0.toList)
  (ha:∀i,i<n->∃p,arr[base+i]?=some p/\p∈a0.toList) (hn:hint<n) (up:∀i j,i<j->j<n->rkAt rk arr (base+i)<=rkAt rk arr (base+j))
  (h:∀m,m<=n->(∀i,i<m->bey rk left key arr base i=true)->(∀i,m<=i->i<n->bey rk left key arr base i=false)->Q (some m) z):wpS (model prog w) A E s (zjL left key arr base n hint) Q z:=by
 have e_:zjL=zjL:=rfl
 conv at e_=>rhs;whnf
 rw[e_];dsimp only;clear e_;have by_:∀(i:Nat) (Q:Option Bool->SortSt->Prop),i<n->Q (some (bey rk left key arr base i)) z->wpS (model prog w) A E s (do
   let x <- elem' arr (base+i)
   if left then lt' x key else return (<- lt' key x).map (!·)) Q z:=by
  intro i Q hi hq;obtain⟨p,ep,mp⟩:=ha i hi;have r:rkAt rk arr (base+i)=rk p.1:=by unfold rkAt;rw[ep];rfl
  simp only[elem'_eq,ep,pure_bind];unfold bey at hq;rw[r]at hq;cases left with
  | true=>exact ZI c k mp hk (by simpa using hq)
  | false =>
   refine wpS_bind (ZI c k hk mp ?_);exact wpS_pure (by simpa using hq)
 have mono:∀i j,i<=j->j<n->bey rk left key arr base j=true->bey rk left key arr base i=true:=by
  intro i j hij hj hb;rcases Nat.eq_or_lt_of_le hij with rfl|hlt
  ·exact hb
  ·have:=up i j hlt hj;unfold bey at *;cases left <;> simp at * <;> omega
 refine wpS_bind (by_ hint _ hn ?_);dsimp only;cases hr:bey rk left key arr base hint with
 | true =>
  rw[if_pos rfl];refine wpS_bind (wpS_mono (wpS_forRange (I:=fun x c z'=>z'=z/\∃l r,c=(none,l,r)/\l<r/\x<r/\hint+l<n/\bey rk left key arr base (hint+l)=true)
   (Q:=fun c z'=>z'=z/\∃l r,c=(none,l,r)/\l<r/\hint+l<n/\bey rk left key arr base (hint+l)=true/\(n - hint<=r\/(hint+r<n/\bey rk left key arr base (hint+r)=false))) ?turn ?last ⟨rfl,0,1,rfl,by omega,by omega,by omega,hr⟩) ?post)
  case post =>
   rintro c z' ⟨rfl,l,r,rfl,h1,h2,h3,h4⟩;dsimp only;have b1:∀i,i<hint+l+1->bey rk left key arr base i=true:=fun i hi=>mono i (hint+l) (by omega) h2 h3
   have b2:∀i,hint+min r (n - hint)<=i->i<n->bey rk left key arr base i=false:=fun i hi hi'=>by
    rcases h4 with h4|⟨h4,h5⟩
    ·omega
    ·cases hb':bey rk left key arr base i with
     | false=>rfl
     | true=>rw[mono (hint+r) i (by omega) hi' hb']at h5;cases h5
   refine wpS_bind (wpS_mono (wpS_forRange (I:=fun x c z''=>z''=z'/\∃l r,c=(none,l,r)/\l<=r/\r<=n/\r - l<=n - x/\(∀i,i<l->bey rk left key arr base i=true)/\(∀i,r<=i->i<n->bey rk left key arr base i=false))
    (Q:=fun c z''=>z''=z'/\∃r,c=(none,r,r)/\r<=n/\(∀i,i<r->bey rk left key arr base i=true)/\(∀i,r<=i->i<n->bey rk left key arr base i=false)) ?turn2 ?last2 ⟨rfl,hint+l+1,hint+min r (n - hint),rfl,by omega,by omega,by omega,b1,b2⟩) ?post2)
   case post2 =>
    rintro c z'' ⟨rfl,r,rfl,q1,q2,q3⟩;exact wpS_pure (h r q1 q2 q3)
   case last2 =>
    rintro c z'' ⟨rfl,l,r,rfl,h1,h2,h3,h4,h5⟩;have:l=r:=by omega
    subst this;exact⟨rfl,l,rfl,h2,h4,h5⟩
   case turn2 =>
    rintro x c z'' _ hx ⟨rfl,l,r,rfl,h1,h2,h3,h4,h5⟩;dsimp only
    by_cases hge:l>=r
    ·rw[if_pos hge];have:l=r:=by omega
     subst this;exact wpS_pure ⟨rfl,l,rfl,h2,h4,h5⟩
    ·rw[if_neg hge];refine wpS_bind (by_ _ _ (by omega) ?_)
     dsimp only;cases hb:bey rk left key arr base (l+(r - l) / 2) with
     | true =>
      rw[if_pos rfl];exact wpS_pure ⟨rfl,_,_,rfl,by omega,h2,by omega,fun i hi=>mono i _ (by omega) (by omega) hb,h5⟩
     | false =>
      rw[if_neg (by simp)]
      refine wpS_pure ⟨rfl,_,_,rfl,by omega,by omega,by omega,h4,fun i hi hi'=>?_⟩
      cases hb':bey rk left key arr base i with
      | false=>rfl
      | true=>rw[mono _ i hi hi' hb']at hb;cases hb
  case last =>
   rintro c z' ⟨rfl,l,r,rfl,h1,h2,h3,h4⟩;exact⟨rfl,l,r,rfl,h1,h3,h4,.inl (by omega)⟩
  case turn =>
   rintro x c z' _ hx ⟨rfl,l,r,rfl,h1,h2,h3,h4⟩;dsimp only
   by_cases hge:r>=n - hint
   ·rw[if_pos hge];exact wpS_pure ⟨rfl,l,r,rfl,h1,h3,h4,.inl hge⟩
   ·rw[if_neg hge];refine wpS_bind (by_ _ _ (by omega) ?_)
    dsimp only;cases hb:bey rk left key arr base (hint+r) with
    | true =>
     rw[if_neg (by simp)]
     exact wpS_pure ⟨rfl,r,_,rfl,by omega,by omega,by omega,hb⟩
    | false =>
     rw[if_pos (by simp)]
     exact wpS_pure ⟨rfl,l,r,rfl,h1,h3,h4,.inr ⟨by omega,hb⟩⟩
 | false =>
  rw[if_neg (by simp)]
  refine wpS_bind (wpS_mono (wpS_forRange (I:=fun x c z'=>z'=z/\∃l r,c=(none,l,r)/\l<r/\x<r/\l<=hint/\bey rk left key arr base (hint - l)=false)
   (Q:=fun c z'=>z'=z/\∃l r,c=(none,l,r)/\l<r/\l<=hint/\bey rk left key arr base (hint - l)=false/\(hint+1<=r\/(r<=hint/\bey rk left key arr base (hint - r)=true))) ?turn ?last ⟨rfl,0,1,rfl,by omega,by omega,by omega,hr⟩) ?post)
  case post =>
   rintro c z' ⟨rfl,l,r,rfl,h1,h2,h3,h4⟩;dsimp only;have b1:∀i,i<hint+1 - min r (hint+1)->bey rk left key arr base i=true:=fun i hi=>by
    rcases h4 with h4|⟨h4,h5⟩
    ·omega
    ·exact mono i (hint - r) (by omega) (by omega) h5
   have b2:∀i,hint - l<=i->i<n->bey rk left key arr base i=false:=fun i hi hi'=>by
    cases hb':bey rk left key arr base i with
    | false=>rfl
    | true=>rw[mono (hint - l) i (by omega) hi' hb']at h3;cases h3
   refine wpS_bind (wpS_mono (wpS_forRange (I:=fun x c z''=>z''=z'/\∃l r,c=(none,l,r)/\l<=r/\r<=n/\r - l<=n - x/\(∀i,i<l->bey rk left key arr base i=true)/\(∀i,r<=i->i<n->bey rk left key arr base i=false))
    (Q:=fun c z''=>z''=z'/\∃r,c=(none,r,r)/\r<=n/\(∀i,i<r->bey rk left key arr base i=true)/\(∀i,r<=i->i<n->bey rk left key arr base i=false)) ?turn2 ?last2 ⟨rfl,hint+1 - min r (hint+1),hint - l,rfl,by omega,by omega,by omega,b1,b2⟩) ?post2)
   case post2 =>
    rintro c z'' ⟨rfl,r,rfl,q1,q2,q3⟩;exact wpS_pure (h r q1 q2 q3)
   case last2 =>
    rintro c z'' ⟨rfl,l,r,rfl,h1,h2,h3,h4,h5⟩;have:l=r:=by omega
    subst this;exact⟨rfl,l,rfl,h2,h4,h5⟩
   case turn2 =>
    rintro x c z'' _ hx ⟨rfl,l,r,rfl,h1,h2,h3,h4,h5⟩;dsimp only
    by_cases hge:l>=r
    ·rw[if_pos hge];have:l=r:=by omega
     subst this;exact wpS_pure ⟨rfl,l,rfl,h2,h4,h5⟩
    ·rw[if_neg hge];refine wpS_bind (by_ _ _ (by omega) ?_)
     dsimp only;cases hb:bey rk left key arr base (l+(r - l) / 2) with
     | true =>
      rw[if_pos rfl];exact wpS_pure ⟨rfl,_,_,rfl,by omega,h2,by omega,fun i hi=>mono i _ (by omega) (by omega) hb,h5⟩
     | false =>
      rw[if_neg (by simp)]
      refine wpS_pure ⟨rfl,_,_,rfl,by omega,by omega,by omega,h4,fun i hi hi'=>?_⟩
      cases hb':bey rk left key arr base i with
      | false=>rfl
      | true=>rw[mono _ i hi hi' hb']at hb;cases hb
  case last =>
   rintro c z' ⟨rfl,l,r,rfl,h1,h2,h3,h4⟩;exact⟨rfl,l,r,rfl,h1,h3,h4,.inl (by omega)⟩
  case turn =>
   rintro x c z' _ hx ⟨rfl,l,r,rfl,h1,h2,h3,h4⟩;dsimp only
   by_cases hge:r>=hint+1
   ·rw[if_pos hge];exact wpS_pure ⟨rfl,l,r,rfl,h1,h3,h4,.inl hge⟩
   ·rw[if_neg hge];refine wpS_bind (by_ _ _ (by omega) ?_)
    dsimp only;cases hb:bey rk left key arr base (hint - r) with
    | true =>
     rw[if_pos rfl];exact wpS_pure ⟨rfl,l,r,rfl,h1,h3,h4,.inr ⟨by omega,hb⟩⟩
    | false =>
     rw[if_neg (by simp)]
     exact wpS_pure ⟨rfl,r,_,rfl,by omega,by omega,by omega,hb⟩
end
end L2
namespace L2
section
variable{α:Type}{r:α->Int}{a b out:List α}{ia ib na nb k:Nat}
theorem m1{x:α}{l m:List α}(h:x∈l):x∈l++m:=List.mem_append.mpr (.inl h)
theorem m2{x:α}{l m:List α}(h:x∈m):x∈l++m:=List.mem_append.mpr (.inr h)
def Ris(r:α->Int)(l:List α):Prop:=l.Pairwise fun x y=>r x<=r y
structure MLo(r:α->Int)(a b out:List α)(ia ib:Nat):Prop where
 pm:(out++(a.drop ia++b.drop ib)).Perm (a++b)
 so:Ris r out
 le:∀x∈out,∀y∈a.drop ia++b.drop ib,r x<=r y
theorem JV{l m:List α}:Ris r (l++m)↔Ris r l/\Ris r m/\∀x∈l,∀y∈m,r x<=r y:=List.pairwise_append
theorem Ris.drop{l:List α}(h:Ris r l)(k:Nat):Ris r (l.drop k):=List.Pairwise.sublist (List.drop_sublist k l) h
theorem Ris.take{l:List α}(h:Ris r l)(k:Nat):Ris r (l.take k):=List.Pairwise.sublist (List.take_sublist k l) h
theorem cut2(l:List α)(i k:Nat):l.drop i=(l.drop i).take k++l.drop (i+k):=by rw[<- List.drop_drop];exact(List.take_append_drop k _).symm
theorem MLo.takeB(h:MLo r a b out ia ib)(hb:Ris r b)(c:∀y∈(b.drop ib).take k,∀x∈a.drop ia,r y<=r x):MLo r a b (out++(b.drop ib).take k) ia (ib+k):=by
 have e:=cut2 b ib k;obtain⟨h1,h2,h3⟩:=h;have hs:=hb.drop ib;rw[e]at h1 h3 hs;have hs:=JV.mp hs;refine⟨?_,JV.mpr ⟨h2,hs.1,fun x hx y hy=>h3 x hx y (m2 (m1 hy))⟩,fun x hx y hy=>?_⟩
 ·refine List.Perm.trans ?_ h1;rw[List.append_assoc];exact List.Perm.append_left _ (List.perm_append_comm_assoc _ _ _)
 ·rcases List.mem_append.mp hx with z|z
  ·refine h3 x z y ?_;rcases List.mem_append.mp hy with w|w
   ·exact m1 w
   ·exact m2 (m2 w)
  ·rcases List.mem_append.mp hy with w|w
   ·exact c x z y w
   ·exact hs.2.2 x z y w
theorem MLo.takeA(h:MLo r a b out ia ib)(ha:Ris r a)(c:∀x∈(a.drop ia).take k,∀y∈b.drop ib,r x<=r y):MLo r a b (out++(a.drop ia).take k) (ia+k) ib:=by
 have e:=cut2 a ia k;obtain⟨h1,h2,h3⟩:=h;have hs:=ha.drop ia;rw[e]at h1 h3 hs;have hs:=JV.mp hs;refine⟨?_,JV.mpr ⟨h2,hs.1,fun x hx y hy=>h3 x hx y (m1 (m1 hy))⟩,fun x hx y hy=>?_⟩
 ·refine List.Perm.trans ?_ h1;simp only[List.append_assoc];exact List.Perm.refl _
 ·rcases List.mem_append.mp hx with z|z
  ·refine h3 x z y ?_;rcases List.mem_append.mp hy with w|w
   ·exact m1 (m2 w)
   ·exact m2 w
  ·rcases List.mem_append.mp hy with w|w
   ·exact hs.2.2 x z y w
   ·exact c x z y w
theorem take1{l:List α}{i:Nat}{y:α}(h:l[i]?=some y):(l.drop i).take 1=[y]:=by
 have hi:=(List.getElem?_eq_some_iff.mp h).1;rw[List.drop_eq_getElem_cons hi];have:=(List.getElem?_eq_some_iff.mp h).2;simp[this]
theorem MLo.pushB{y:α}(h:MLo r a b out ia ib)(hb:Ris r b)(e:b[ib]?=some y)(c:∀x∈a.drop ia,r y<=r x):MLo r a b (out++[y]) ia (ib+1):=by
 have:=h.takeB (k:=1) hb (by rw[take1 e];intro z hz x hx;cases List.mem_singleton.mp hz;exact c x hx)
 rwa [take1 e]at this
theorem MLo.pushA{x:α}(h:MLo r a b out ia ib)(ha:Ris r a)(e:a[ia]?=some x)(c:∀y∈b.drop ib,r x<=r y):MLo r a b (out++[x]) (ia+1) ib:=by
 have:=h.takeA (k:=1) ha (by rw[take1 e];intro z hz y hy;cases List.mem_singleton.mp hz;exact c y hy)
 rwa [take1 e]at this
theorem MLo.done(h:MLo r a b out ia ib)(ha:Ris r a)(hb:Ris r b)(c:∀x∈a.drop ia,∀y∈b.drop ib,r x<=r y):(out++a.drop ia++b.drop ib).Perm (a++b)/\Ris r (out++a.drop ia++b.drop ib):=by
 refine⟨by rw[List.append_assoc];exact h.pm,?_⟩
 rw[List.append_assoc];exact JV.mpr ⟨h.so,JV.mpr ⟨ha.drop _,hb.drop _,c⟩,h.le⟩
theorem MLo.last(h:MLo r a b out ia ib)(ha:Ris r a)(hb:Ris r b)(c:∀y∈b.drop ib,∀x∈a.drop ia,r y<=r x):(out++b.drop ib++a.drop ia).Perm (a++b)/\Ris r (out++b.drop ib++a.drop ia):=by
 refine⟨?_,?_⟩
 ·rw[List.append_assoc];exact(List.Perm.append_left _ List.perm_append_comm).trans h.pm
 ·rw[List.append_assoc];refine JV.mpr ⟨h.so,JV.mpr ⟨hb.drop _,ha.drop _,c⟩,fun x hx y hy=>h.le x hx y ?_⟩
  rcases List.mem_append.mp hy with w|w
  ·exact m2 w
  ·exact m1 w
structure MHi(r:α->Int)(a b out:List α)(na nb:Nat):Prop where
 pm:((a.take na++b.take nb)++out).Perm (a++b)
 so:Ris r out
 le:∀x∈a.take na++b.take nb,∀y∈out,r x<=r y
theorem cut3(l:List α){n k:Nat}(h:k<=n):l.take n=l.take k++(l.take n).drop k:=by
 have:=List.take_append_drop k (l.take n);rw[List.take_take,Nat.min_eq_left h]at this;exact this.symm
theorem MHi.takeB(h:MHi r a b out na nb)(hb:Ris r b)(hk:k<=nb)(c:∀x∈a.take na,∀y∈(b.take nb).drop k,r x<=r y):MHi r a b ((b.take nb).drop k++out) na k:=by
 have e:=cut3 b hk;obtain⟨h1,h2,h3⟩:=h;have hs:=hb.take nb;rw[e]at h1 h3 hs;have hs:=JV.mp hs;refine⟨?_,JV.mpr ⟨hs.2.1,h2,fun x hx y hy=>h3 x (m2 (m2 hx)) y hy⟩,fun x hx y hy=>?_⟩
 ·refine List.Perm.trans ?_ h1;simp only[List.append_assoc];exact List.Perm.refl _
 ·rcases List.mem_append.mp hy with z|z
  ·rcases List.mem_append.mp hx with w|w
   ·exact c x w y z
   ·exact hs.2.2 x w y z
  ·refine h3 x ?_ y z;rcases List.mem_append.mp hx with w|w
   ·exact m1 w
   ·exact m2 (m1 w)
theorem MHi.takeA(h:MHi r a b out na nb)(ha:Ris r a)(hk:k<=na)(c:∀x∈b.take nb,∀y∈(a.take na).drop k,r x<=r y):MHi r a b ((a.take na).drop k++out) k nb:=by
 have e:=cut3 a hk;obtain⟨h1,h2,h3⟩:=h;have hs:=ha.take na;rw[e]at h1 h3 hs;have hs:=JV.mp hs;refine⟨?_,JV.mpr ⟨hs.2.1,h2,fun x hx y hy=>h3 x (m1 (m2 hx)) y hy⟩,fun x hx y hy=>?_⟩
 ·refine List.Perm.trans ?_ h1;simp only[List.append_assoc];exact List.Perm.append_left _ (List.perm_append_comm_assoc _ _ _)
 ·rcases List.mem_append.mp hy with z|z
  ·rcases List.mem_append.mp hx with w|w
   ·exact hs.2.2 x w y z
   ·exact c x w y z
  ·refine h3 x ?_ y z;rcases List.mem_append.mp hx with w|w
   ·exact m1 (m1 w)
   ·exact m2 w
theorem UA{l:List α}{n:Nat}{y:α}(h:l[n]?=some y):(l.take (n+1)).drop n=[y]:=by
 have hi:=(List.getElem?_eq_some_iff.mp h).1;have e:(l.take (n+1))=l.take n++[y]:=by rw[List.take_succ,h];rfl
 rw[e,List.drop_append_of_le_length (by simp;omega),List.drop_of_length_le (by simp;omega)]
 rfl
theorem MHi.pushB{y:α}(h:MHi r a b out na (nb+1))(hb:Ris r b)(e:b[nb]?=some y)(c:∀x∈a.take na,r x<=r y):MHi r a b (y::out) na nb:=by
 have:=h.takeB (k:=nb) hb (by omega) (by rw[UA e];intro x hx z hz;cases List.mem_singleton.mp hz;exact c x hx)
 rwa [UA e]at this
theorem MHi.pushA{x:α}(h:MHi r a b out (na+1) nb)(ha:Ris r a)(e:a[na]?=some x)(c:∀y∈b.take nb,r y<=r x):MHi r a b (x::out) na nb:=by
 have:=h.takeA (k:=na) ha (by omega) (by rw[UA e];intro y hy z hz;cases List.mem_singleton.mp hz;exact c y hy)
 rwa [UA e]at this
theorem MHi.done(h:MHi r a b out na nb)(ha:Ris r a)(hb:Ris r b)(c:∀x∈a.take na,∀y∈b.take nb,r x<=r y):(a.take na++b.take nb++out).Perm (a++b)/\Ris r (a.take na++b.take nb++out) :=
 ⟨h.pm,JV.mpr ⟨JV.mpr ⟨ha.take _,hb.take _,c⟩,h.so,h.le⟩⟩
theorem MHi.first(h:MHi r a b out na nb)(ha:Ris r a)(hb:Ris r b)(c:∀y∈b.take nb,∀x∈a.take na,r y<=r x):(b.take nb++a.take na++out).Perm (a++b)/\Ris r (b.take nb++a.take na++out):=by
 refine⟨(List.Perm.append_right _ List.perm_append_comm).trans h.pm,JV.mpr ⟨JV.mpr ⟨hb.take _,ha.take _,c⟩,h.so,fun x hx y hy=>h.le x ?_ y hy⟩⟩
 rcases List.mem_append.mp hx with w|w
 ·exact m2 w
 ·exact m1 w
end
section
open PySem PySem.Spec PyProof.Rows
theorem ex4{α0:Type}{α1:Type}{α2:Type}{α3:Type}{A R:Prop}{X:α0->α1->α2->α3->Prop}(h:A/\∃x0 x1 x2 x3,X x0 x1 x2 x3)(k:A->∀x0 x1 x2 x3,X x0 x1 x2 x3->R):R:=by
 obtain⟨a,x0,x1,x2,x3,x⟩:=h;exact k a x0 x1 x2 x3 x
theorem ex5{α0:Type}{α1:Type}{α2:Type}{α3:Type}{α4:Type}{A R:Prop}{X:α0->α1->α2->α3->α4->Prop}(h:A/\∃x0 x1 x2 x3 x4,X x0 x1 x2 x3 x4)(k:A->∀x0 x1 x2 x3 x4,X x0 x1 x2 x3 x4->R):R:=by
 obtain⟨a,x0,x1,x2,x3,x4,x⟩:=h;exact k a x0 x1 x2 x3 x4 x
theorem eo5{α0:Type}{α1:Type}{α2:Type}{α3:Type}{α4:Type}{β γ:Type}{A R:Prop}{X:α0->α1->α2->α3->α4->Prop}{Y:β->γ->Prop}(h:A/\((∃x0 x1 x2 x3 x4,X x0 x1 x2 x3 x4)\/∃m r,Y m r))(k:A->∀x0 x1 x2 x3 x4,X x0 x1 x2 x3 x4->R)(k2:A->∀m r,Y m r->R):R:=by
 obtain⟨a,⟨x0,x1,x2,x3,x4,x⟩|⟨m,r,y⟩⟩:=h
 ·exact k a x0 x1 x2 x3 x4 x
 ·exact k2 a m r y
theorem ex6{α0:Type}{α1:Type}{α2:Type}{α3:Type}{α4:Type}{α5:Type}{A R:Prop}{X:α0->α1->α2->α3->α4->α5->Prop}(h:A/\∃x0 x1 x2 x3 x4 x5,X x0 x1 x2 x3 x4 x5)(k:A->∀x0 x1 x2 x3 x4 x5,X x0 x1 x2 x3 x4 x5->R):R:=by
 obtain⟨a,x0,x1,x2,x3,x4,x5,x⟩:=h;exact k a x0 x1 x2 x3 x4 x5 x
theorem eo6{α0:Type}{α1:Type}{α2:Type}{α3:Type}{α4:Type}{α5:Type}{β γ:Type}{A R:Prop}{X:α0->α1->α2->α3->α4->α5->Prop}{Y:β->γ->Prop}(h:A/\((∃x0 x1 x2 x3 x4 x5,X x0 x1 x2 x3 x4 x5)\/∃m r,Y m r))(k:A->∀x0 x1 x2 x3 x4 x5,X x0 x1 x2 x3 x4 x5->R)(k2:A->∀m r,Y m r->R):R:=by
 obtain⟨a,⟨x0,x1,x2,x3,x4,x5,x⟩|⟨m,r,y⟩⟩:=h
 ·exact k a x0 x1 x2 x3 x4 x5 x
 ·exact k2 a m r y
theorem JL{M:Model}{A:Around}{E:qV}{s:Shared}{σ α:Type}{c:Prop}{_:Decidable c}{t e:StateT σ Sem α}{Q:α->σ->Prop}{z:σ}(h1:c->wpS M A E s t Q z)(h2:¬c->wpS M A E s e Q z):wpS M A E s (if c then t else e) Q z:=by
 by_cases h:c
 ·rw[if_pos h];exact h1 h
 ·rw[if_neg h];exact h2 h
theorem zpr{M:Model}{A:Around}{E:qV}{s:Shared}{σ α β:Type}{c:β->Prop}{_:∀o,Decidable (c o)}{t F:β->StateT σ Sem α}{Q:α->σ->Prop}{z:σ}(o1:β)(P:β->Prop)
  (hF:∀o,P o->wpS M A E s (F o) Q z) (h1:c o1->(∀o,P o->wpS M A E s (F o) Q z)->wpS M A E s (t o1) Q z) (h2:¬c o1->P o1):∀o,o1=o->wpS M A E s (if c o then t o else F o) Q z:=by
 rintro o rfl;exact JL (fun h=>h1 h hF) (fun h=>hF _ (h2 h))
theorem VH{M:Model}{A:Around}{E:qV}{s:Shared}{σ α β γ:Type}{c:β->γ->Prop}{_:∀o i,Decidable (c o i)}{t F:β->γ->StateT σ Sem α}{Q:α->σ->Prop}{z:σ}(o1:β)(i1:γ)(P:β->γ->Prop)
  (hF:∀o i,P o i->wpS M A E s (F o i) Q z) (h1:c o1 i1->(∀o i,P o i->wpS M A E s (F o i) Q z)->wpS M A E s (t o1 i1) Q z) (h2:¬c o1 i1->P o1 i1):∀o,o1=o->∀i,i1=i->wpS M A E s (if c o i then t o i else F o i) Q z:=by
 rintro o rfl i rfl;exact JL (fun h=>h1 h hF) (fun h=>hF _ _ (h2 h))
end
end L2
namespace L2
open PySem PySem.Spec PyProof.Rows
def zgQ:Array Keyed->Array Keyed->StateT SortSt Sem (Array Keyed):=sortPriv% PySem.Builtin.mergeLo
def zcs:Nat->StateT SortSt Sem Unit:=sortPriv% PySem.Builtin.setMinGallop
section
variable{prog:Program}{w:World}{A:Around}{E:qV}{s:Shared}{kd:SortKind}{rk:Value->Int}{a0:Array Keyed}
structure SmS(z z':SortSt):Prop where
 kn:kindOf z'=kindOf z
 ar:arrOf z'=arrOf z
 pe:pendingOf z'=pendingOf z
 fl:failedOf z'=failedOf z
theorem SmS.refl(z:SortSt):SmS z z:=⟨rfl,rfl,rfl,rfl⟩
theorem SmS.trans{x y z:SortSt}(h:SmS x y)(k:SmS y z):SmS x z:=⟨k.kn.trans h.kn,k.ar.trans h.ar,k.pe.trans h.pe,k.fl.trans h.fl⟩
theorem Wd{g:Nat}{z:SortSt}{Q:Unit->SortSt->Prop}(h:∀z',SmS z z'->Q () z'):wpS (model prog w) A E s (zcs g) Q z:=by
 have e_:zcs=zcs:=rfl
 conv at e_=>rhs;whnf
 rw[e_];dsimp only;clear e_;exact wpS_modify (h _ ⟨rfl,rfl,rfl,rfl⟩)
theorem JX{x:Array Keyed}{i:Nat}{p:Keyed}{z:SortSt}{Q:Keyed->SortSt->Prop}(e:x[i]?=some p)(h:Q p z):wpS (model prog w) A E s (elem' x i) Q z:=by
 rw[elem'_eq,e];exact wpS_pure h
abbrev rkP(rk:Value->Int)(p:Keyed):Int:=rk p.1
theorem V0{x:Array Keyed}{i:Nat}:(x.extract i x.size).toList=x.toList.drop i:=by
 rw[Array.toList_extract];exact List.take_of_length_le (by simp)
theorem V1{x:Array Keyed}{i k:Nat}:(x.extract i (i+k)).toList=(x.toList.drop i).take k:=by simp
theorem zmU{l:List Keyed}{i k:Nat}{x:Keyed}(h:x∈(l.drop i).take k):∃j,j<k/\l[i+j]?=some x:=by
 obtain⟨j,hj,e⟩:=List.mem_take_iff_getElem.mp h;refine⟨j,by omega,?_⟩
 have:=List.getElem?_eq_getElem (l:=l.drop i) (i:=j) (by omega)
 rw[List.getElem?_drop,e]at this;exact this
theorem zje{l:List Keyed}{i:Nat}{x:Keyed}(h:x∈l.drop i):∃j,i+j<l.length/\l[i+j]?=some x:=by
 obtain⟨j,hj,e⟩:=List.getElem_of_mem h;have:=List.getElem?_eq_getElem hj;rw[List.getElem?_drop,e]at this;exact⟨j,by simp at hj;omega,this⟩
theorem Qk{x:Array Keyed}{i:Nat}{p:Keyed}(h:x.toList[i]?=some p):rkAt rk x i=rkP rk p:=by
 unfold rkAt;rw[Array.getElem?_toList]at h;rw[h];rfl
theorem Vh{x:Array Keyed}(h:Ris (rkP rk) x.toList){i j:Nat}(hij:i<j)(hj:j<x.size):rkAt rk x i<=rkAt rk x j:=by
 have hi:i<x.toList.length:=by simp;omega
 have hj':j<x.toList.length:=by simpa using hj
 rw[Qk (List.getElem?_eq_getElem hi),Qk (List.getElem?_eq_getElem hj')];exact List.pairwise_iff_getElem.mp h i j hi hj' hij
theorem zlo{a b:Array Keyed}{z:SortSt}{Q:Array Keyed->SortSt->Prop}(c0:Cmp prog w A s kd rk a0)(k:kindOf z=kd)(ha:∀p∈a.toList,p∈a0.toList)(hb:∀p∈b.toList,p∈a0.toList)
  (sa:Ris (rkP rk) a.toList) (sb:Ris (rkP rk) b.toList) (na:0<a.size) (nb:0<b.size) (f1:∀y,b.toList[0]?=some y->∀x∈a.toList,rkP rk y<=rkP rk x)
  (f2:∀x,a.toList[a.size - 1]?=some x->∀y∈b.toList,rkP rk y<=rkP rk x)
  (h:∀m z',m.toList.Perm (a.toList++b.toList)->Ris (rkP rk) m.toList->SmS z z'->Q m z'):wpS (model prog w) A E s (zgQ a b) Q z:=by
 have e_:zgQ=zgQ:=rfl
 conv at e_=>rhs;whnf
 rw[e_];clear e_;have gb:∀i,i<b.size->∃p,b[i]?=some p/\b.toList[i]?=some p/\p∈a0.toList:=fun i hi=>⟨b[i],Array.getElem?_eq_getElem hi,by simp[hi],hb _ (by simp)⟩
 have ga:∀i,i<a.size->∃p,a[i]?=some p/\a.toList[i]?=some p/\p∈a0.toList:=fun i hi=>⟨a[i],Array.getElem?_eq_getElem hi,by simp[hi],ha _ (by simp)⟩
 have gaA:∀u i,i<a.size - u->∃p,a[u+i]?=some p/\p∈a0.toList:=fun u i hi=>by
  obtain⟨p,e,_,m⟩:=ga (u+i) (by omega)
  exact⟨p,e,m⟩
 have gbA:∀u i,i<b.size - u->∃p,b[u+i]?=some p/\p∈a0.toList:=fun u i hi=>by
  obtain⟨p,e,_,m⟩:=gb (u+i) (by omega)
  exact⟨p,e,m⟩
 have upA:∀u i j,i<j->j<a.size - u->rkAt rk a (u+i)<=rkAt rk a (u+j):=fun u i j hij hj=>Vh sa (by omega) (by omega)
 have upB:∀u i j,i<j->j<b.size - u->rkAt rk b (u+i)<=rkAt rk b (u+j):=fun u i j hij hj=>Vh sb (by omega) (by omega)
 have dropB:∀i p,b.toList[i]?=some p->∀y∈b.toList.drop i,rkP rk p<=rkP rk y:=fun i p lp y hy=>by
  have e:=cut2 b.toList i 1;rw[take1 lp]at e;have:=sb.drop i;rw[e]at this hy;rcases List.mem_append.mp hy with z|z
  ·cases List.mem_singleton.mp z;exact Int.le_refl _
  ·exact(JV.mp this).2.2 p (by simp) y z
 have dropA:∀i p,a.toList[i]?=some p->∀y∈a.toList.drop i,rkP rk p<=rkP rk y:=fun i p lp y hy=>by
  have e:=cut2 a.toList i 1;rw[take1 lp]at e;have:=sa.drop i;rw[e]at this hy;rcases List.mem_append.mp hy with z|z
  ·cases List.mem_singleton.mp z;exact Int.le_refl _
  ·exact(JV.mp this).2.2 p (by simp) y z
 obtain⟨b0,eb0,lb0,mb0⟩:=gb 0 nb;have M0:MLo (rkP rk) a.toList b.toList [b0] 0 1:=by
  have:MLo (rkP rk) a.toList b.toList [] 0 0:=⟨by simp,List.Pairwise.nil,fun x hx=>nomatch hx⟩
  have:=this.pushB sb lb0 (by simpa using f1 b0 lb0)
  simpa using this
 refine wpS_bind (wpS_lift (wpAny_rule ⟨rfl,?_⟩));refine wpS_bind (JX eb0 ?_);have fin1:∀(out:Array Keyed) (ia ib:Nat) (z':SortSt),SmS z z'->MLo (rkP rk) a.toList b.toList out.toList ia ib->(ia=a.size\/ib=b.size)->(out++a.extract ia a.size++b.extract ib b.size).toList.Perm (a.toList++b.toList)/\Ris (rkP rk) (out++a.extract ia a.size++b.extract ib b.size).toList:=fun out ia ib z' S M e=>by
  rw[Array.toList_append,Array.toList_append,V0,V0];refine M.done sa sb fun x hx y hy=>?_
  rcases e with rfl|rfl
  ·rw[List.drop_of_length_le (by simp)]at hx;cases hx
  ·rw[List.drop_of_length_le (by simp)]at hy;cases hy
 have fin2:∀(out:Array Keyed) (ia ib:Nat) (z':SortSt),SmS z z'->MLo (rkP rk) a.toList b.toList out.toList ia ib->ia+1=a.size->(out++b.extract ib b.size++a.extract ia a.size).toList.Perm (a.toList++b.toList)/\Ris (rkP rk) (out++b.extract ib b.size++a.extract ia a.size).toList:=fun out ia ib z' S M e=>by
  rw[Array.toList_append,Array.toList_append,V0,V0];refine M.last sa sb fun y hy x hx=>?_
  obtain⟨p,ep,lp,mp⟩:=ga ia (by omega)
  have:x=p:=by
   have e1:=take1 lp;rw[List.take_of_length_le (by simp;omega)]at e1
   rw[e1]at hx;exact List.mem_singleton.mp hx
  subst this;exact f2 x (by rw[show a.size - 1=ia by omega];exact lp) y (List.mem_of_mem_drop hy)
 refine JL (fun h1=>?_) (fun h1=>?_)
 ·have:=fin1 #[b0] 0 1 z (.refl z) (by simpa using M0) (.inr (by simpa using h1))
  exact wpS_pure (h _ z this.1 this.2 (.refl z))
 refine JL (fun h2=>?_) (fun h2=>?_)
 ·have:=fin2 #[b0] 0 1 z (.refl z) (by simpa using M0) (by simpa using h2)
  exact wpS_pure (h _ z this.1 this.2 (.refl z))
 have h1:b.size≠1:=fun e=>h1 (by simp[e])
 have h2:a.size≠1:=fun e=>h2 (by simp[e])
 refine wpS_bind (wpS_get ?_);refine wpS_bind (wpS_mono (wpS_forRange (I:=fun X c z'=>SmS z z'/\∃out ia ib mg,c=(none,out,ia,ib,mg)/\MLo (rkP rk) a.toList b.toList (Array.toList out) ia ib/\ia+1<a.size/\ib<b.size/\X+1<=ia+ib)
  (Q:=fun c z'=>SmS z z'/\∃m rest,c=(some m,rest)/\(Array.toList m).Perm (a.toList++b.toList)/\Ris (rkP rk) (Array.toList m)) ?turn ?last ⟨.refl z,#[b0],0,1,_,rfl,by simpa using M0,by omega,by omega,by omega⟩) ?post)
 case post =>
  rintro c z' ⟨S,m,rest,rfl,q1,q2⟩;exact wpS_pure (h m z' q1 q2 S)
 case last =>
  intro c z' hI;refine ex4 hI fun S out ia ib mg q=>?_
  obtain rfl:=q.1;have M:=q.2.1;have l1:=q.2.2.1;have l2:=q.2.2.2.1;have l3:=q.2.2.2.2;omega
 case turn =>
  intro X c z' _ hX hI;refine ex4 hI fun S out ia ib mg q=>?_
  obtain rfl:=q.1;have M:=q.2.1;have l1:=q.2.2.1;have l2:=q.2.2.2.1;have l3:=q.2.2.2.2;have kz:kindOf z'=kd:=S.kn.trans k;refine wpS_bind (wpS_mono (wpS_forRange (I:=fun x c z''=>SmS z z''/\∃out ia ib ac bc,c=(none,out,ia,ib,ac,bc)/\MLo (rkP rk) a.toList b.toList (Array.toList out) ia ib/\ia+1<a.size/\ib<b.size/\X+1+x<=ia+ib)
   (Q:=fun c z''=>SmS z z''/\((∃out ia ib ac bc,c=(none,out,ia,ib,ac,bc)/\MLo (rkP rk) a.toList b.toList (Array.toList out) ia ib/\ia+1<a.size/\ib<b.size/\X+2<=ia+ib)\/∃m rest,c=(some m,rest)/\(Array.toList m).Perm (a.toList++b.toList)/\Ris (rkP rk) (Array.toList m))) ?turn1 ?UA ⟨S,out,ia,ib,0,0,rfl,M,l1,l2,by omega⟩) ?post1)
  case UA =>
   intro c z'' hI;refine ex5 hI fun S out ia ib ac bc q=>?_
   obtain rfl:=q.1;have M:=q.2.1;have l1:=q.2.2.1;have l2:=q.2.2.2.1;have l3:=q.2.2.2.2;exact⟨S,.inl ⟨out,ia,ib,ac,bc,rfl,M,l1,l2,by omega⟩⟩
  case turn1 =>
   intro x c z'' _ hx hI;refine ex5 hI fun S out ia ib ac bc q=>?_
   obtain rfl:=q.1;have M:=q.2.1;have l1:=q.2.2.1;have l2:=q.2.2.2.1;have l3:=q.2.2.2.2;have kz:kindOf z''=kd:=S.kn.trans k;dsimp only;obtain⟨p,ep,lp,mp⟩:=gb ib l2;obtain⟨q,eq,lq,mq⟩:=ga ia (by omega)
   have dB:∀y∈b.toList.drop ib,rkP rk p<=rkP rk y:=fun y hy=>by
    have e:=cut2 b.toList ib 1;rw[take1 lp]at e;have:=sb.drop ib;rw[e]at this hy;rcases List.mem_append.mp hy with z|z
    ·cases List.mem_singleton.mp z;exact Int.le_refl _
    ·exact(JV.mp this).2.2 p (by simp) y z
   have dA:∀y∈a.toList.drop ia,rkP rk q<=rkP rk y:=fun y hy=>by
    have e:=cut2 a.toList ia 1;rw[take1 lq]at e;have:=sa.drop ia;rw[e]at this hy;rcases List.mem_append.mp hy with z|z
    ·cases List.mem_singleton.mp z;exact Int.le_refl _
    ·exact(JV.mp this).2.2 q (by simp) y z
   refine wpS_bind (JX ep (wpS_bind (JX eq (wpS_bind (ZI c0 kz mp mq ?_)))));dsimp only;cases hlt:decide (rk p.1<rk q.1) with
   | true =>
    rw[if_pos rfl];have hlt:=of_decide_eq_true hlt;have M':=M.pushB sb lp fun x hx=>Int.le_trans (Int.le_of_lt hlt) (dA x hx)
    refine wpS_bind (JX ep ?_);refine JL (fun e1=>?_) (fun e1=>?_)
    ·have:=fin1 (out.push p) ia (ib+1) z'' S (by simpa using M') (.inr (by simpa using e1))
     exact wpS_pure ⟨S,.inr ⟨_,_,rfl,this.1,this.2⟩⟩
    ·have e1:ib+1≠b.size:=fun e=>e1 (by simp[e])
     refine JL (fun e2=>?_) (fun e2=>?_)
     ·exact wpS_pure ⟨S,.inl ⟨_,_,_,_,_,rfl,by simpa using M',l1,by omega,by omega⟩⟩
     ·exact wpS_pure ⟨S,_,_,_,_,_,rfl,by simpa using M',l1,by omega,by omega⟩
   | false =>
    rw[if_neg (by simp)]
    have hlt:=of_decide_eq_false hlt;have M':=M.pushA sa lq fun y hy=>Int.le_trans (Int.not_lt.mp hlt) (dB y hy)
    refine wpS_bind (JX eq ?_);refine JL (fun e1=>?_) (fun e1=>?_)
    ·have:=fin2 (out.push q) (ia+1) ib z'' S (by simpa using M') (by simpa using e1)
     exact wpS_pure ⟨S,.inr ⟨_,_,rfl,this.1,this.2⟩⟩
    ·have e1:ia+1+1≠a.size:=fun e=>e1 (by simp[e])
     refine JL (fun e2=>?_) (fun e2=>?_)
     ·exact wpS_pure ⟨S,.inl ⟨_,_,_,_,_,rfl,by simpa using M',by omega,l2,by omega⟩⟩
     ·exact wpS_pure ⟨S,_,_,_,_,_,rfl,by simpa using M',by omega,l2,by omega⟩
  case post1 =>
   intro c z'' hI;refine eo5 hI (fun S out ia ib ac bc q=>?_) (fun S m rest q=>?_)
   ·obtain rfl:=q.1;have M:=q.2.1;have l1:=q.2.2.1;have l2:=q.2.2.2.1;have l3:=q.2.2.2.2;refine wpS_bind (wpS_lift (wpAny_rule ⟨rfl,?_⟩));refine wpS_bind (wpS_mono (wpS_forRange (I:=fun x c z''=>SmS z z''/\∃out ia ib mg ac bc,c=(none,out,ia,ib,mg,ac,bc)/\MLo (rkP rk) a.toList b.toList (Array.toList out) ia ib/\ia+1<a.size/\ib<b.size/\X+2<=ia+ib)
     (Q:=fun c z''=>SmS z z''/\((∃out ia ib mg ac bc,c=(none,out,ia,ib,mg,ac,bc)/\MLo (rkP rk) a.toList b.toList (Array.toList out) ia ib/\ia+1<a.size/\ib<b.size/\X+2<=ia+ib)\/∃m rest,c=(some m,rest)/\(Array.toList m).Perm (a.toList++b.toList)/\Ris (rkP rk) (Array.toList m))) ?turn2 ?last2 ⟨S,out,ia,ib,_,ac,bc,rfl,M,l1,l2,by omega⟩) ?post2)
    case last2 =>
     rintro c z'' ⟨S,r⟩;exact⟨S,.inl r⟩
    case post2 =>
     intro c z'' hI;refine eo6 hI (fun S out ia ib mg ac bc q=>?_) (fun S m rest q=>?_)
     ·obtain rfl:=q.1;have M:=q.2.1;have l1:=q.2.2.1;have l2:=q.2.2.2.1;have l3:=q.2.2.2.2;dsimp only;refine wpS_bind (Wd fun z3 S3=>?_)
      exact wpS_pure ⟨S.trans S3,out,ia,ib,_,rfl,M,l1,l2,by omega⟩
     ·obtain rfl:=q.1;have q1:=q.2.1;have q2:=q.2.2;exact wpS_pure ⟨S,m,_,rfl,q1,q2⟩
    case turn2 =>
     intro x c z'' _ hx hI;refine ex6 hI fun S out ia ib mg ac bc q=>?_
     obtain rfl:=q.1;have M:=q.2.1;have l1:=q.2.2.1;have l2:=q.2.2.2.1;have l3:=q.2.2.2.2;obtain⟨p,ep,lp,mp⟩:=gb ib l2;have dB:=dropB ib p lp;dsimp only;generalize hg:mg=g0;revert g0;refine zpr mg (fun _=>True) ?_ ?_ (fun _=>trivial)
     rotate_left
     ·exact fun _ hF=>hF _ trivial
     intro mg _;refine wpS_bind (Wd fun z3 S3=>?_)
     have S':=S.trans S3;have kz:kindOf z3=kd:=S'.kn.trans k;refine wpS_bind (JX ep (wpS_bind (Zq c0 kz mp (gaA ia) (by omega) (upA ia) fun k1 k1n k1t k1f=>?_)))
     dsimp only;have gA1:∀x∈(a.toList.drop ia).take k1,∀y∈b.toList.drop ib,rkP rk x<=rkP rk y:=fun x hx y hy=>by
      obtain⟨j,jk,ej⟩:=zmU hx;have:=k1t j jk;unfold bey at this;rw[if_neg (by simp),Qk ej,Bool.not_eq_true',decide_eq_false_iff_not]at this
      exact Int.le_trans (Int.not_lt.mp this) (dB y hy)
     have gA2:∀x∈a.toList.drop (ia+k1),rkP rk p<=rkP rk x:=fun x hx=>by
      obtain⟨j,jl,ej⟩:=zje hx;have:=k1f (k1+j) (by omega) (by simp at jl;omega)
      unfold bey at this;rw[if_neg (by simp),show ia+(k1+j)=ia+k1+j by omega,Qk ej,Bool.not_eq_false',decide_eq_true_iff]at this
      exact Int.le_of_lt this
     generalize ho:out=o0;generalize hi:ia=i0;revert i0;revert o0;refine VH out ia (fun o i=>MLo (rkP rk) a.toList b.toList (Array.toList o) i ib/\i+1<a.size/\X+2<=i+ib/\∀x∈a.toList.drop i,rkP rk p<=rkP rk x) ?_ ?_ ?_
     rotate_left
     ·intro hk1 hF;have M2:=M.takeA (k:=k1) sa gA1;rw[<- V1,<- Array.toList_append]at M2;refine JL (fun e0=>?_) (fun e0=>JL (fun e1=>?_) (fun e1=>?_))
      ·have:=fin2 (out++a.extract ia (ia+k1)) (ia+k1) ib z3 S' M2 (by simpa using e0)
       exact wpS_pure ⟨S',.inr ⟨_,_,rfl,this.1,this.2⟩⟩
      ·have:=fin1 (out++a.extract ia (ia+k1)) (ia+k1) ib z3 S' M2 (.inl (by simpa using e1))
       exact wpS_pure ⟨S',.inr ⟨_,_,rfl,this.1,this.2⟩⟩
      ·have e0:ia+k1+1≠a.size:=fun e=>e0 (by simp[e])
       have e1:ia+k1≠a.size:=fun e=>e1 (by simp[e])
       exact hF _ _ ⟨M2,by omega,by omega,gA2⟩
     ·intro hk1;have hk0:k1=0:=by omega
      subst hk0;exact⟨M,l1,l3,gA2⟩
     intro o i ⟨M2,i1,i2,g⟩;have M3:=M2.pushB sb lp g;rw[<- Array.toList_push]at M3;refine wpS_bind (JX ep ?_);refine JL (fun e2=>?_) (fun e2=>?_)
     ·have:=fin1 (Array.push o p) i (ib+1) z3 S' M3 (.inr (by simpa using e2))
      exact wpS_pure ⟨S',.inr ⟨_,_,rfl,this.1,this.2⟩⟩
     have e2:ib+1≠b.size:=fun e=>e2 (by simp[e])
     obtain⟨q,eq,lq,mq⟩:=ga i (by omega)
     have dA:=dropA i q lq;refine wpS_bind (JX eq (wpS_bind (Zq c0 kz mq (gbA (ib+1)) (by omega) (upB (ib+1)) fun k2 k2n k2t k2f=>?_)))
     dsimp only;have gB1:∀y∈(b.toList.drop (ib+1)).take k2,∀x∈a.toList.drop i,rkP rk y<=rkP rk x:=fun y hy x hx=>by
      obtain⟨j,jk,ej⟩:=zmU hy;have:=k2t j jk;unfold bey at this;rw[if_pos rfl,Qk ej,decide_eq_true_iff]at this;exact Int.le_trans (Int.le_of_lt this) (dA x hx)
     have gB2:∀y∈b.toList.drop (ib+1+k2),rkP rk q<=rkP rk y:=fun y hy=>by
      obtain⟨j,jl,ej⟩:=zje hy;have:=k2f (k2+j) (by omega) (by simp at jl;omega)
      unfold bey at this;rw[if_pos rfl,show ib+1+(k2+j)=ib+1+k2+j by omega,Qk ej,decide_eq_false_iff_not]at this
      exact Int.not_lt.mp this
     have l4:ib+1<b.size:=by omega
     have l5:X+2<=i+(ib+1):=by omega
     clear k2t k2f k1t k1f gA1 gA2 l3 M dB e2 l2;generalize Array.push o p=o2 at M3 ⊢;generalize ib+1=j2 at M3 gB1 gB2 l4 l5 k2n ⊢;generalize ho:o2=o0;generalize hi:j2=i0;revert i0;revert o0;refine VH o2 j2 (fun o' j=>MLo (rkP rk) a.toList b.toList (Array.toList o') i j/\j<b.size/\X+2<=i+j/\∀y∈b.toList.drop j,rkP rk q<=rkP rk y) ?_ ?_ ?_
     rotate_left
     ·intro hk2 hF;have M4:=M3.takeB (k:=k2) sb gB1;rw[<- V1,<- Array.toList_append]at M4;refine JL (fun e3=>?_) (fun e3=>?_)
      ·have:=fin1 (o2++b.extract j2 (j2+k2)) i (j2+k2) z3 S' M4 (.inr (by simpa using e3))
       exact wpS_pure ⟨S',.inr ⟨_,_,rfl,this.1,this.2⟩⟩
      ·have e3:j2+k2≠b.size:=fun e=>e3 (by simp[e])
       exact hF _ _ ⟨M4,by omega,by omega,gB2⟩
     ·intro hk2;have hk0:k2=0:=by omega
      subst hk0;exact⟨M3,l4,l5,gB2⟩
     intro o3 j ⟨M4,j1,j3,g'⟩;have M5:=M4.pushA sa lq g';rw[<- Array.toList_push]at M5;refine wpS_bind (JX eq ?_);refine JL (fun e4=>?_) (fun e4=>?_)
     ·have:=fin2 (Array.push o3 q) (i+1) j z3 S' M5 (by simpa using e4)
      exact wpS_pure ⟨S',.inr ⟨_,_,rfl,this.1,this.2⟩⟩
     have e4:i+1+1≠a.size:=fun e=>e4 (by simp[e])
     split
     ·exact wpS_pure ⟨S',.inl ⟨_,_,_,_,_,_,rfl,M5,by omega,by omega,by omega⟩⟩
     ·exact wpS_pure ⟨S',_,_,_,_,_,_,rfl,M5,by omega,by omega,by omega⟩
   ·obtain rfl:=q.1;have q1:=q.2.1;have q2:=q.2.2;exact wpS_pure ⟨S,m,_,rfl,q1,q2⟩
end
def zgR:Array Keyed->Array Keyed->StateT SortSt Sem (Array Keyed):=sortPriv% PySem.Builtin.mergeHi
section
variable{prog:Program}{w:World}{A:Around}{E:qV}{s:Shared}{kd:SortKind}{rk:Value->Int}{a0:Array Keyed}
theorem VD{x:Array Keyed}{k:Nat}:(x.extract 0 k).toList=x.toList.take k:=by simp
theorem VC{x:Array Keyed}{i k:Nat}:(x.extract i k).toList=(x.toList.take k).drop i:=by
 rw[Array.toList_extract,List.drop_take]
theorem zpF{l:List Keyed}{n:Nat}{x:Keyed}(h:x∈l.take n):∃j,j<n/\l[j]?=some x:=by
 obtain⟨j,hj,e⟩:=List.mem_take_iff_getElem.mp h;exact⟨j,by omega,by rw[List.getElem?_eq_getElem (by omega),e]⟩
theorem zmT{l:List Keyed}{n i:Nat}{x:Keyed}(h:x∈(l.take n).drop i):∃j,i<=j/\j<n/\l[j]?=some x:=by
 obtain⟨j,hj,e⟩:=zje h;rw[List.length_take]at hj;rw[List.getElem?_take_of_lt (by omega)]at e
 exact⟨i+j,by omega,by omega,e⟩
theorem MHi.pushB'{r:Keyed->Int}{a b out:List Keyed}{na nb:Nat}{y:Keyed}(h:MHi r a b out na nb)(hb:Ris r b)(p:1<=nb)(e:b[nb - 1]?=some y)(c:∀x∈a.take na,r x<=r y):MHi r a b (y::out) na (nb - 1):=by
 obtain⟨m,rfl⟩:∃m,nb=m+1:=⟨nb - 1,by omega⟩
 exact h.pushB hb e c
theorem MHi.pushA'{r:Keyed->Int}{a b out:List Keyed}{na nb:Nat}{x:Keyed}(h:MHi r a b out na nb)(ha:Ris r a)(p:1<=na)(e:a[na - 1]?=some x)(c:∀y∈b.take nb,r y<=r x):MHi r a b (x::out) (na - 1) nb:=by
 obtain⟨m,rfl⟩:∃m,na=m+1:=⟨na - 1,by omega⟩
 exact h.pushA ha e c
theorem zlp{a b:Array Keyed}{z:SortSt}{Q:Array Keyed->SortSt->Prop}(c0:Cmp prog w A s kd rk a0)(k:kindOf z=kd)(ha:∀p∈a.toList,p∈a0.toList)(hb:∀p∈b.toList,p∈a0.toList)
  (sa:Ris (rkP rk) a.toList) (sb:Ris (rkP rk) b.toList) (na:0<a.size) (nb:0<b.size) (f1:∀y,b.toList[0]?=some y->∀x∈a.toList,rkP rk y<=rkP rk x)
  (f2:∀x,a.toList[a.size - 1]?=some x->∀y∈b.toList,rkP rk y<=rkP rk x)
  (h:∀m z',m.toList.Perm (a.toList++b.toList)->Ris (rkP rk) m.toList->SmS z z'->Q m z'):wpS (model prog w) A E s (zgR a b) Q z:=by
 have e_:zgR=zgR:=rfl
 conv at e_=>rhs;whnf
 rw[e_];clear e_;have gb:∀i,i<b.size->∃p,b[i]?=some p/\b.toList[i]?=some p/\p∈a0.toList:=fun i hi=>⟨b[i],Array.getElem?_eq_getElem hi,by simp[hi],hb _ (by simp)⟩
 have ga:∀i,i<a.size->∃p,a[i]?=some p/\a.toList[i]?=some p/\p∈a0.toList:=fun i hi=>⟨a[i],Array.getElem?_eq_getElem hi,by simp[hi],ha _ (by simp)⟩
 have gaA:∀u i,i<u->u<=a.size->∃p,a[0+i]?=some p/\p∈a0.toList:=fun u i hi hu=>by
  obtain⟨p,e,_,m⟩:=ga i (by omega)
  exact⟨p,by rw[Nat.zero_add];exact e,m⟩
 have gbA:∀u i,i<u->u<=b.size->∃p,b[0+i]?=some p/\p∈a0.toList:=fun u i hi hu=>by
  obtain⟨p,e,_,m⟩:=gb i (by omega)
  exact⟨p,by rw[Nat.zero_add];exact e,m⟩
 have upA:∀u i j,u<=a.size->i<j->j<u->rkAt rk a (0+i)<=rkAt rk a (0+j):=fun u i j hu hij hj=>Vh sa (by omega) (by omega)
 have upB:∀u i j,u<=b.size->i<j->j<u->rkAt rk b (0+i)<=rkAt rk b (0+j):=fun u i j hu hij hj=>Vh sb (by omega) (by omega)
 have takeLe:∀(l:List Keyed),Ris (rkP rk) l->∀n p,l[n]?=some p->∀y∈l.take (n+1),rkP rk y<=rkP rk p:=fun l sl n p lp y hy=>by
  have e:l.take (n+1)=l.take n++[p]:=by rw[List.take_succ,lp];rfl
  have:=sl.take (n+1);rw[e]at this hy;rcases List.mem_append.mp hy with z|z
  ·exact(JV.mp this).2.2 y z p (by simp)
  ·cases List.mem_singleton.mp z;exact Int.le_refl _
 obtain⟨x0,ex0,lx0,mx0⟩:=ga (a.size - 1) (by omega)
 have M0:MHi (rkP rk) a.toList b.toList [x0] (a.size - 1) b.size:=by
  have:MHi (rkP rk) a.toList b.toList [] (a.size - 1+1) b.size:=⟨by rw[List.take_of_length_le (by simp;omega),List.take_of_length_le (by simp)];simp,List.Pairwise.nil,fun x _ y hy=>nomatch hy⟩
  exact this.pushA sa lx0 fun y hy=>f2 x0 lx0 y (List.mem_of_mem_take hy)
 refine wpS_bind (wpS_lift (wpAny_rule ⟨rfl,?_⟩));refine wpS_bind (JX ex0 ?_);have fin1:∀(out:Array Keyed) (na nb:Nat),MHi (rkP rk) a.toList b.toList out.toList.reverse na nb->(na=0\/nb=0)->(a.extract 0 na++b.extract 0 nb++out.reverse).toList.Perm (a.toList++b.toList)/\Ris (rkP rk) (a.extract 0 na++b.extract 0 nb++out.reverse).toList:=fun out na nb M e=>by
  rw[Array.toList_append,Array.toList_append,VD,VD,Array.toList_reverse];refine M.done sa sb fun x hx y hy=>?_
  rcases e with rfl|rfl
  ·simp at hx
  ·simp at hy
 have fin2:∀(out:Array Keyed) (na nb:Nat),MHi (rkP rk) a.toList b.toList out.toList.reverse na nb->nb=1->(b.extract 0 nb++a.extract 0 na++out.reverse).toList.Perm (a.toList++b.toList)/\Ris (rkP rk) (b.extract 0 nb++a.extract 0 na++out.reverse).toList:=fun out na nb M e=>by
  rw[Array.toList_append,Array.toList_append,VD,VD,Array.toList_reverse];refine M.first sa sb fun y hy x hx=>?_
  subst e;obtain⟨p,ep,lp,mp⟩:=gb 0 (by omega)
  have e1:=take1 lp;rw[List.drop_zero]at e1;rw[e1]at hy;cases List.mem_singleton.mp hy;exact f1 _ lp x (List.mem_of_mem_take hx)
 refine JL (fun h1=>?_) (fun h1=>?_)
 ·have:=fin1 #[x0] (a.size - 1) b.size (by simpa using M0) (.inl (by simpa using h1))
  exact wpS_pure (h _ z this.1 this.2 (.refl z))
 refine JL (fun h2=>?_) (fun h2=>?_)
 ·have:=fin2 #[x0] (a.size - 1) b.size (by simpa using M0) (by simpa using h2)
  exact wpS_pure (h _ z this.1 this.2 (.refl z))
 have h1:a.size - 1≠0:=fun e=>h1 (by simp[e])
 have h2:b.size≠1:=fun e=>h2 (by simp[e])
 refine wpS_bind (wpS_get ?_);refine wpS_bind (wpS_mono (wpS_forRange (I:=fun X c z'=>SmS z z'/\∃na nb out mg,c=(none,na,nb,out,mg)/\MHi (rkP rk) a.toList b.toList (Array.toList out).reverse na nb/\1<=na/\2<=nb/\na<=a.size/\nb<=b.size/\na+nb+X+1<=a.size+b.size)
  (Q:=fun c z'=>SmS z z'/\∃m rest,c=(some m,rest)/\(Array.toList m).Perm (a.toList++b.toList)/\Ris (rkP rk) (Array.toList m)) ?turn ?last ⟨.refl z,a.size - 1,b.size,#[x0],_,rfl,by simpa using M0,by omega,by omega,by omega,by omega,by omega⟩) ?post)
 case post =>
  rintro c z' ⟨S,m,rest,rfl,q1,q2⟩;exact wpS_pure (h m z' q1 q2 S)
 case last =>
  intro c z' hI;refine ex4 hI fun S na nb out mg q=>?_
  obtain rfl:=q.1;have M:=q.2.1;have l1:=q.2.2.1;have l2:=q.2.2.2.1;have l4:=q.2.2.2.2.1;have l5:=q.2.2.2.2.2.1;have l3:=q.2.2.2.2.2.2;omega
 case turn =>
  intro X c z' _ hX hI;refine ex4 hI fun S na nb out mg q=>?_
  obtain rfl:=q.1;have M:=q.2.1;have l1:=q.2.2.1;have l2:=q.2.2.2.1;have l4:=q.2.2.2.2.1;have l5:=q.2.2.2.2.2.1;have l3:=q.2.2.2.2.2.2;have kz:kindOf z'=kd:=S.kn.trans k;refine wpS_bind (wpS_mono (wpS_forRange (I:=fun x c z''=>SmS z z''/\∃na nb out ac bc,c=(none,na,nb,out,ac,bc)/\MHi (rkP rk) a.toList b.toList (Array.toList out).reverse na nb/\1<=na/\2<=nb/\na<=a.size/\nb<=b.size/\na+nb+X+1+x<=a.size+b.size)
   (Q:=fun c z''=>SmS z z''/\((∃na nb out ac bc,c=(none,na,nb,out,ac,bc)/\MHi (rkP rk) a.toList b.toList (Array.toList out).reverse na nb/\1<=na/\2<=nb/\na<=a.size/\nb<=b.size/\na+nb+X+2<=a.size+b.size)\/∃m rest,c=(some m,rest)/\(Array.toList m).Perm (a.toList++b.toList)/\Ris (rkP rk) (Array.toList m))) ?turn1 ?UA ⟨S,na,nb,out,0,0,rfl,M,l1,l2,l4,l5,by omega⟩) ?post1)
  case UA =>
   intro c z'' hI;refine ex5 hI fun S na nb out ac bc q=>?_
   obtain rfl:=q.1;have M:=q.2.1;have l1:=q.2.2.1;have l2:=q.2.2.2.1;have l4:=q.2.2.2.2.1;have l5:=q.2.2.2.2.2.1;have l3:=q.2.2.2.2.2.2;exact⟨S,.inl ⟨na,nb,out,ac,bc,rfl,M,l1,l2,l4,l5,by omega⟩⟩
  case turn1 =>
   intro x c z'' _ hx hI;refine ex5 hI fun S na nb out ac bc q=>?_
   obtain rfl:=q.1;have M:=q.2.1;have l1:=q.2.2.1;have l2:=q.2.2.2.1;have l4:=q.2.2.2.2.1;have l5:=q.2.2.2.2.2.1;have l3:=q.2.2.2.2.2.2;have kz:kindOf z''=kd:=S.kn.trans k;dsimp only;obtain⟨p,ep,lp,mp⟩:=gb (nb - 1) (by omega)
   obtain⟨q,eq,lq,mq⟩:=ga (na - 1) (by omega)
   have dB:=takeLe b.toList sb (nb - 1) p lp;rw[show nb - 1+1=nb by omega]at dB
   have dA:=takeLe a.toList sa (na - 1) q lq;rw[show na - 1+1=na by omega]at dA
   refine wpS_bind (JX ep (wpS_bind (JX eq (wpS_bind (ZI c0 kz mp mq ?_)))));dsimp only;cases hlt:decide (rk p.1<rk q.1) with
   | true =>
    rw[if_pos rfl];have hlt:=of_decide_eq_true hlt;have M':=M.pushA' sa (by omega) lq fun y hy=>Int.le_trans (dB y hy) (Int.le_of_lt hlt)
    refine wpS_bind (JX eq ?_);refine JL (fun e1=>?_) (fun e1=>?_)
    ·have:=fin1 (out.push q) (na - 1) nb (by simpa using M') (.inl (by simpa using e1))
     exact wpS_pure ⟨S,.inr ⟨_,_,rfl,this.1,this.2⟩⟩
    ·have e1:na - 1≠0:=fun e=>e1 (by simp[e])
     refine JL (fun e2=>?_) (fun e2=>?_)
     ·exact wpS_pure ⟨S,.inl ⟨_,_,_,_,_,rfl,by simpa using M',by omega,by omega,by omega,by omega,by omega⟩⟩
     ·exact wpS_pure ⟨S,_,_,_,_,_,rfl,by simpa using M',by omega,by omega,by omega,by omega,by omega⟩
   | false =>
    rw[if_neg (by simp)]
    have hlt:=of_decide_eq_false hlt;have M':=M.pushB' sb (by omega) lp fun x hx=>Int.le_trans (dA x hx) (Int.not_lt.mp hlt)
    refine wpS_bind (JX ep ?_);refine JL (fun e1=>?_) (fun e1=>?_)
    ·have:=fin2 (out.push p) na (nb - 1) (by simpa using M') (by simpa using e1)
     exact wpS_pure ⟨S,.inr ⟨_,_,rfl,this.1,this.2⟩⟩
    ·have e1:nb - 1≠1:=fun e=>e1 (by simp[e])
     refine JL (fun e2=>?_) (fun e2=>?_)
     ·exact wpS_pure ⟨S,.inl ⟨_,_,_,_,_,rfl,by simpa using M',by omega,by omega,by omega,by omega,by omega⟩⟩
     ·exact wpS_pure ⟨S,_,_,_,_,_,rfl,by simpa using M',by omega,by omega,by omega,by omega,by omega⟩
  case post1 =>
   intro c z'' hI;refine eo5 hI (fun S na nb out ac bc q=>?_) (fun S m rest q=>?_)
   ·obtain rfl:=q.1;have M:=q.2.1;have l1:=q.2.2.1;have l2:=q.2.2.2.1;have l4:=q.2.2.2.2.1;have l5:=q.2.2.2.2.2.1;have l3:=q.2.2.2.2.2.2;refine wpS_bind (wpS_lift (wpAny_rule ⟨rfl,?_⟩));refine wpS_bind (wpS_mono (wpS_forRange (I:=fun x c z''=>SmS z z''/\∃na nb out mg ac bc,c=(none,na,nb,out,mg,ac,bc)/\MHi (rkP rk) a.toList b.toList (Array.toList out).reverse na nb/\1<=na/\2<=nb/\na<=a.size/\nb<=b.size/\na+nb+X+2<=a.size+b.size)
     (Q:=fun c z''=>SmS z z''/\((∃na nb out mg ac bc,c=(none,na,nb,out,mg,ac,bc)/\MHi (rkP rk) a.toList b.toList (Array.toList out).reverse na nb/\1<=na/\2<=nb/\na<=a.size/\nb<=b.size/\na+nb+X+2<=a.size+b.size)\/∃m rest,c=(some m,rest)/\(Array.toList m).Perm (a.toList++b.toList)/\Ris (rkP rk) (Array.toList m))) ?turn2 ?last2 ⟨S,na,nb,out,_,ac,bc,rfl,M,l1,l2,l4,l5,by omega⟩) ?post2)
    case last2 =>
     rintro c z'' ⟨S,r⟩;exact⟨S,.inl r⟩
    case post2 =>
     intro c z'' hI;refine eo6 hI (fun S na nb out mg ac bc q=>?_) (fun S m rest q=>?_)
     ·obtain rfl:=q.1;have M:=q.2.1;have l1:=q.2.2.1;have l2:=q.2.2.2.1;have l4:=q.2.2.2.2.1;have l5:=q.2.2.2.2.2.1;have l3:=q.2.2.2.2.2.2;dsimp only;refine wpS_bind (Wd fun z3 S3=>?_)
      exact wpS_pure ⟨S.trans S3,na,nb,out,_,rfl,M,l1,l2,l4,l5,by omega⟩
     ·obtain rfl:=q.1;have q1:=q.2.1;have q2:=q.2.2;exact wpS_pure ⟨S,m,_,rfl,q1,q2⟩
    case turn2 =>
     intro x c z'' _ hx hI;refine ex6 hI fun S na nb out mg ac bc q=>?_
     obtain rfl:=q.1;have M:=q.2.1;have l1:=q.2.2.1;have l2:=q.2.2.2.1;have l4:=q.2.2.2.2.1;have l5:=q.2.2.2.2.2.1;have l3:=q.2.2.2.2.2.2;obtain⟨p,ep,lp,mp⟩:=gb (nb - 1) (by omega)
     have dB:=takeLe b.toList sb (nb - 1) p lp;rw[show nb - 1+1=nb by omega]at dB
     dsimp only;generalize hg:mg=g0;revert g0;refine zpr mg (fun _=>True) ?_ ?_ (fun _=>trivial)
     rotate_left
     ·exact fun _ hF=>hF _ trivial
     intro mg _;refine wpS_bind (Wd fun z3 S3=>?_)
     have S':=S.trans S3;have kz:kindOf z3=kd:=S'.kn.trans k;refine wpS_bind (JX ep (wpS_bind (Zq c0 kz mp (fun i hi=>gaA na i hi (by omega)) (by omega) (fun i j=>upA na i j (by omega)) fun at1 k1n k1t k1f=>?_)))
     dsimp only;have gA1:∀x∈b.toList.take nb,∀y∈(a.toList.take na).drop at1,rkP rk x<=rkP rk y:=fun x hx y hy=>by
      obtain⟨j,j1,j2,ej⟩:=zmT hy;have:=k1f j j1 j2;unfold bey at this;rw[if_neg (by simp),Nat.zero_add,Qk ej,Bool.not_eq_false',decide_eq_true_iff]at this
      exact Int.le_trans (dB x hx) (Int.le_of_lt this)
     have gA2:∀x∈a.toList.take at1,rkP rk x<=rkP rk p:=fun x hx=>by
      obtain⟨j,j1,ej⟩:=zpF hx;have:=k1t j j1;unfold bey at this;rw[if_neg (by simp),Nat.zero_add,Qk ej,Bool.not_eq_true',decide_eq_false_iff_not]at this
      exact Int.not_lt.mp this
     generalize hk:na - at1=k1;generalize ho:out=o0;generalize hi:na=i0;revert i0;revert o0;refine VH out na (fun o i=>MHi (rkP rk) a.toList b.toList (Array.toList o).reverse i nb/\1<=i/\i<=na/\∀x∈a.toList.take i,rkP rk x<=rkP rk p) ?_ ?_ ?_
     rotate_left
     ·intro hk1 hF;have M2:=M.takeA (k:=at1) sa k1n gA1;rw[<- VC]at M2;have M2':MHi (rkP rk) a.toList b.toList (Array.toList (out++(a.extract at1 na).reverse)).reverse at1 nb:=by simpa using M2
      refine JL (fun e1=>?_) (fun e1=>?_)
      ·have:=fin1 (out++(a.extract at1 na).reverse) at1 nb M2' (.inl (by simpa using e1))
       exact wpS_pure ⟨S',.inr ⟨_,_,rfl,this.1,this.2⟩⟩
      ·have e1:at1≠0:=fun e=>e1 (by simp[e])
       exact hF _ _ ⟨M2',by omega,k1n,gA2⟩
     ·intro hk1;have hk0:at1=na:=by omega
      rw[hk0]at gA2;exact⟨M,l1,Nat.le_refl _,gA2⟩
     intro o i ⟨M2,i1,i2,g⟩;have M3:=M2.pushB' sb (by omega) lp g
     have M3':MHi (rkP rk) a.toList b.toList (Array.toList (Array.push o p)).reverse i (nb - 1):=by simpa using M3
     refine wpS_bind (JX ep ?_);refine JL (fun e2=>?_) (fun e2=>?_)
     ·have:=fin2 (Array.push o p) i (nb - 1) M3' (by simpa using e2)
      exact wpS_pure ⟨S',.inr ⟨_,_,rfl,this.1,this.2⟩⟩
     have e2:nb - 1≠1:=fun e=>e2 (by simp[e])
     obtain⟨q,eq,lq,mq⟩:=ga (i - 1) (by omega)
     have dA:=takeLe a.toList sa (i - 1) q lq;rw[show i - 1+1=i by omega]at dA
     refine wpS_bind (JX eq (wpS_bind (Zq c0 kz mq (fun i hi=>gbA (nb - 1) i hi (by omega)) (by omega) (fun i j=>upB (nb - 1) i j (by omega)) fun at2 k2n k2t k2f=>?_)))
     dsimp only;have gB1:∀x∈a.toList.take i,∀y∈(b.toList.take (nb - 1)).drop at2,rkP rk x<=rkP rk y:=fun x hx y hy=>by
      obtain⟨j,j1,j2,ej⟩:=zmT hy;have:=k2f j j1 j2;unfold bey at this;rw[if_pos rfl,Nat.zero_add,Qk ej,decide_eq_false_iff_not]at this;exact Int.le_trans (dA x hx) (Int.not_lt.mp this)
     have gB2:∀y∈b.toList.take at2,rkP rk y<=rkP rk q:=fun y hy=>by
      obtain⟨j,j1,ej⟩:=zpF hy;have:=k2t j j1;unfold bey at this;rw[if_pos rfl,Nat.zero_add,Qk ej,decide_eq_true_iff]at this;exact Int.le_of_lt this
     have l6:2<=nb - 1:=by omega
     have l7:nb - 1<=b.size:=by omega
     have l8:i+(nb - 1)+X+2<=a.size+b.size:=by omega
     have l9:i<=a.size:=by omega
     clear k2t k2f k1t k1f gA1 gA2 dB e2 M M2 M3 hk k1n l1 l2 l3 l4 l5 i2;generalize Array.push o p=o2 at M3' ⊢;generalize nb - 1=j2 at M3' gB1 l6 l7 l8 k2n ⊢;generalize hk2:j2 - at2=k2;generalize ho:o2=o0;generalize hi:j2=i0;revert i0;revert o0;refine VH o2 j2 (fun o' j=>MHi (rkP rk) a.toList b.toList (Array.toList o').reverse i j/\2<=j/\j<=j2/\∀y∈b.toList.take j,rkP rk y<=rkP rk q) ?_ ?_ ?_
     rotate_left
     ·intro hk2 hF;have M4:=M3'.takeB (k:=at2) sb k2n gB1;rw[<- VC]at M4;have M4':MHi (rkP rk) a.toList b.toList (Array.toList (o2++(b.extract at2 j2).reverse)).reverse i at2:=by simpa using M4
      refine JL (fun e3=>?_) (fun e3=>JL (fun e5=>?_) (fun e5=>?_))
      ·have:=fin2 (o2++(b.extract at2 j2).reverse) i at2 M4' (by simpa using e3)
       exact wpS_pure ⟨S',.inr ⟨_,_,rfl,this.1,this.2⟩⟩
      ·have:=fin1 (o2++(b.extract at2 j2).reverse) i at2 M4' (.inr (by simpa using e5))
       exact wpS_pure ⟨S',.inr ⟨_,_,rfl,this.1,this.2⟩⟩
      ·have e3:at2≠1:=fun e=>e3 (by simp[e])
       have e5:at2≠0:=fun e=>e5 (by simp[e])
       exact hF _ _ ⟨M4',by omega,k2n,gB2⟩
     ·intro hk2;have hk0:at2=j2:=by omega
      rw[hk0]at gB2;exact⟨M3',l6,Nat.le_refl _,gB2⟩
     intro o3 j ⟨M4,j1,j3,g'⟩;have M5:=M4.pushA' sa (by omega) lq g'
     have M5':MHi (rkP rk) a.toList b.toList (Array.toList (Array.push o3 q)).reverse (i - 1) j:=by simpa using M5
     refine wpS_bind (JX eq ?_);refine JL (fun e4=>?_) (fun e4=>?_)
     ·have:=fin1 (Array.push o3 q) (i - 1) j M5' (.inl (by simpa using e4))
      exact wpS_pure ⟨S',.inr ⟨_,_,rfl,this.1,this.2⟩⟩
     have e4:i - 1≠0:=fun e=>e4 (by simp[e])
     split
     ·exact wpS_pure ⟨S',.inl ⟨_,_,_,_,_,_,rfl,M5',by omega,by omega,by omega,by omega,by omega⟩⟩
     ·exact wpS_pure ⟨S',_,_,_,_,_,_,rfl,M5',by omega,by omega,by omega,by omega,by omega⟩
   ·obtain rfl:=q.1;have q1:=q.2.1;have q2:=q.2.2;exact wpS_pure ⟨S,m,_,rfl,q1,q2⟩
end
theorem zlX{α:Type}{l:List α}{i:Nat}{p:α}(h:i<l.length):(l.set i p).take (i+1)=l.take i++[p]:=by
 rw[List.take_succ,List.getElem?_set_self h,List.take_set_of_le (Nat.le_refl _)]
 rfl
theorem znq{α:Type}{l:List α}{i j:Nat}{p:α}(h:i<j):(l.set i p).drop j=l.drop j:=by
 rw[List.drop_set];rw[if_pos h]
theorem zmh{α:Type}(o:Nat):∀(m:List α) (n:Nat) (x:Array α),o+n+m.length<=x.size ->
  ((m.zipIdx n).foldl (fun a (q:α×Nat)=>a.setIfInBounds (o+q.2) q.1) x).toList=x.toList.take (o+n)++m++x.toList.drop (o+n+m.length)
 | [],n,x,h=>by simp
 | p::ms,n,x,h=>by
  rw[List.length_cons]at h;rw[List.zipIdx_cons,List.foldl_cons,zmh o ms (n+1) _ (by rw[Array.size_setIfInBounds];omega)]
  have e:(x.setIfInBounds (o+n) p).toList=x.toList.set (o+n) p:=by simp
  have hl:o+n<x.toList.length:=by simp;omega
  dsimp only;rw[e,show o+(n+1)=o+n+1 by omega,zlX hl,znq (by omega),List.length_cons,show o+n+1+ms.length=o+n+(ms.length+1) by omega]
  simp
def UpL(rk:Value->Int)(xs:Array Keyed)(lo m:Nat):Prop:=∀i j,i<j->j<m->rkAt rk xs (lo+i)<=rkAt rk xs (lo+j)
section
variable{prog:Program}{w:World}{A:Around}{E:qV}{s:Shared}{kd:SortKind}{rk:Value->Int}{a0:Array Keyed}
theorem zpU{z z1:SortSt}{Q:PUnit->SortSt->Prop}(h:Q ⟨⟩ z1):wpS (model prog w) A E s (set z1:StateT SortSt Sem PUnit) Q z:=by
 unfold wpS;rw[StateT.run_set];exact wpAny_pure ⟨rfl,h⟩
theorem zmc{x:Array Keyed}{lo m:Nat}(h:UpL rk x lo m)(hx:lo+m<=x.size):Ris (rkP rk) (x.extract lo (lo+m)).toList:=by
 refine List.pairwise_iff_getElem.mpr fun i j hi hj hij=>?_
 have hi':i<m:=by simp at hi;lia
 have hj':j<m:=by simp at hj;lia
 have:=h i j hij hj';rw[Qk (p:=(x.extract lo (lo+m)).toList[i]) (by simp),Qk (p:=(x.extract lo (lo+m)).toList[j]) (by simp)]at this
 exact this
theorem VR{x:Array Keyed}{lo hi:Nat}{p:Keyed}(h:p∈(x.extract lo hi).toList):∃j,lo<=j/\j<hi/\j<x.size/\rkAt rk x j=rkP rk p:=by
 obtain⟨i,hi',e⟩:=List.getElem_of_mem h;have l:i<hi - lo/\i+lo<x.size:=by simp at hi';lia
 refine⟨lo+i,by lia,by lia,by lia,Qk ?_⟩
 rw[<- e];simp
theorem ix1{s n y:Nat}(h:n<=y):s+n+(y - n)=s+y:=by lia
theorem zlq{i sa na nb pw pw2:Nat}{z:SortSt}{Q:Bool->SortSt->Prop}(c:Cmp prog w A s kd rk a0)(k:kindOf z=kd)(fl:failedOf z=none)(pm:(arrOf z).Perm a0)
  (p1:(pendingOf z)[i]?=some (sa,na,pw)) (p2:(pendingOf z)[i+1]?=some (sa+na,nb,pw2)) (hna:0<na) (hnb:0<nb) (hs:sa+na+nb<=a0.size) (u1:UpL rk (arrOf z) sa na) (u2:UpL rk (arrOf z) (sa+na) nb)
  (h:∀y,kindOf y=kd->failedOf y=none->(arrOf y).Perm a0->pendingOf y=((pendingOf z).setIfInBounds i (sa,na+nb,pw)).eraseIdxIfInBounds (i+1)->UpL rk (arrOf y) sa (na+nb)->(∀j,j<sa\/sa+na+nb<=j->rkAt rk (arrOf y) j=rkAt rk (arrOf z) j)->Q true y) :
  wpS (model prog w) A E s (mergeAt' i) Q z:=by
 have sz:(arrOf z).size=a0.size:=pm.size_eq;have mem:∀j,j<a0.size->∃p,(arrOf z)[j]?=some p/\p∈a0.toList:=fun j hj=>by
  have hj':j<(arrOf z).size:=by lia
  exact⟨(arrOf z)[j],Array.getElem?_eq_getElem hj',(Array.perm_iff_toList_perm.mp pm).mem_iff.mp (by simp)⟩
 have mem2:∀p∈(arrOf z).toList,p∈a0.toList:=fun p hp=>(Array.perm_iff_toList_perm.mp pm).mem_iff.mp hp
 have e_:mergeAt'=mergeAt':=rfl
 conv at e_=>rhs;whnf
 rw[e_];dsimp only;clear e_;refine wpS_bind (wpS_get ?_);change (arrOf z).size=_ at sz;have p1':=p1;have p2':=p2;unfold pendingOf at p1' p2';rw[p1',p2'];dsimp only;refine wpS_bind (zpU ?_);obtain⟨v0,ev0,mv0⟩:=mem (sa+na) (by lia)
 refine wpS_bind (JX ev0 ?_);have rv0:rkAt rk (arrOf z) (sa+na)=rk v0.1:=by unfold rkAt;rw[ev0];rfl
 refine wpS_bind (Zq c k mv0 (fun j hj=>mem _ (by lia)) hna u1 fun k hk t1 t2=>?_)
 have b1:∀j,j<k->rkAt rk (arrOf z) (sa+j)<=rkAt rk (arrOf z) (sa+na):=fun j hj=>by
  have:=t1 j hj;rw[rv0];unfold bey at this;simp at this;exact this
 have b2:∀j,k<=j->j<na->rkAt rk (arrOf z) (sa+na)<rkAt rk (arrOf z) (sa+j):=fun j hj hj'=>by
  have:=t2 j hj hj';rw[rv0];unfold bey at this;simp at this;exact this
 dsimp only
 by_cases e1:(na - k == 0)=true
 ·rw[if_pos e1];have ek:k=na:=by simp at e1;lia
  refine wpS_pure (h _ (by assumption) fl pm rfl ?_ (fun _ _=>rfl))
  intro x y hxy hy;change rkAt rk (arrOf z) (sa+x)<=rkAt rk (arrOf z) (sa+y)
  by_cases hy2:y<na
  ·exact u1 x y hxy hy2
  ·by_cases hx2:x<na
   ·have q1:=b1 x (by lia)
    by_cases hy3:y=na
    ·rw[hy3];exact q1
    ·have q2:=u2 0 (y - na) (by lia) (by lia)
     rw[ix1 (show na<=y by lia)]at q2
     simp at q2;lia
   ·have q2:=u2 (x - na) (y - na) (by lia) (by lia)
    rw[ix1 (show na<=y by lia),ix1 (show na<=x by lia)]at q2
    exact q2
 rw[if_neg e1];have hk2:k<na:=by simp at e1;lia
 obtain⟨ul,eul,mul⟩:=mem (sa+k+(na - k) - 1) (by lia)
 refine wpS_bind (JX eul ?_);have rul:rkAt rk (arrOf z) (sa+na - 1)=rk ul.1:=by unfold rkAt;rw[show sa+na - 1=sa+k+(na - k) - 1 by lia,eul];rfl
 refine wpS_bind (Zq c (by assumption) mul (fun j hj=>mem _ (by lia)) (by lia) u2 fun m hm t3 t4=>?_)
 have b3:∀j,j<m->rkAt rk (arrOf z) (sa+na+j)<rkAt rk (arrOf z) (sa+na - 1):=fun j hj=>by
  have:=t3 j hj;rw[rul];unfold bey at this;simp at this;exact this
 have b4:∀j,m<=j->j<nb->rkAt rk (arrOf z) (sa+na - 1)<=rkAt rk (arrOf z) (sa+na+j):=fun j hj hj'=>by
  have:=t4 j hj hj';rw[rul];unfold bey at this;simp at this;exact this
 dsimp only;have le1:∀x y,x<=y->y<na->rkAt rk (arrOf z) (sa+x)<=rkAt rk (arrOf z) (sa+y):=fun x y hxy hy=>by
  by_cases e:x=y
  ·rw[e];exact Int.le_refl _
  ·exact u1 x y (by lia) hy
 have le2:∀x y,x<=y->y<nb->rkAt rk (arrOf z) (sa+na+x)<=rkAt rk (arrOf z) (sa+na+y):=fun x y hxy hy=>by
  by_cases e:x=y
  ·rw[e];exact Int.le_refl _
  ·exact u2 x y (by lia) hy
 by_cases e2:(m == 0)=true
 ·rw[if_pos e2];have em:m=0:=by simpa using e2
  refine wpS_pure (h _ (by assumption) fl pm rfl ?_ (fun _ _=>rfl))
  intro x y hxy hy;change rkAt rk (arrOf z) (sa+x)<=rkAt rk (arrOf z) (sa+y)
  by_cases hy2:y<na
  ·exact u1 x y hxy hy2
  ·by_cases hx2:x<na
   ·have q1:=b4 (y - na) (by lia) (by lia)
    have q2:=le1 x (na - 1) (by lia) (by lia)
    rw[show sa+(na - 1)=sa+na - 1 by lia]at q2
    rw[ix1 (show na<=y by lia)]at q1
    lia
   ·have q2:=u2 (x - na) (y - na) (by lia) (by lia)
    rw[ix1 (show na<=y by lia),ix1 (show na<=x by lia)]at q2
    exact q2
 rw[if_neg e2];have hm2:0<m:=by simp at e2;lia
 have exA:(arrOf z).extract (sa+k) (sa+na)=(arrOf z).extract (sa+k) (sa+k+(na - k)):=by rw[ix1 (show k<=na by lia)]
 have rA:Ris (rkP rk) ((arrOf z).extract (sa+k) (sa+na)).toList:=by
  rw[exA];refine zmc (fun x y hxy hy=>?_) (by lia)
  have:=u1 (k+x) (k+y) (by lia) (by lia)
  rw[<- Nat.add_assoc,<- Nat.add_assoc]at this;exact this
 have rB:Ris (rkP rk) ((arrOf z).extract (sa+na) (sa+na+m)).toList:=zmc (fun x y hxy hy=>u2 x y hxy (by lia)) (by lia)
 have szA:((arrOf z).extract (sa+k) (sa+na)).size=na - k:=by simp;lia
 have szB:((arrOf z).extract (sa+na) (sa+na+m)).size=m:=by simp;lia
 have mA:∀p∈((arrOf z).extract (sa+k) (sa+na)).toList,p∈a0.toList:=fun p hp=>mem2 p (by
  rw[VC]at hp;exact List.mem_of_mem_take (List.mem_of_mem_drop hp))
 have mB:∀p∈((arrOf z).extract (sa+na) (sa+na+m)).toList,p∈a0.toList:=fun p hp=>mem2 p (by
  rw[VC]at hp;exact List.mem_of_mem_take (List.mem_of_mem_drop hp))
 have f1:∀y,((arrOf z).extract (sa+na) (sa+na+m)).toList[0]?=some y->∀x∈((arrOf z).extract (sa+k) (sa+na)).toList,rkP rk y<=rkP rk x:=fun y hy x hx=>by
  obtain⟨j,j1,j2,j3,e⟩:=VR (rk:=rk) hx;have:=b2 (j - sa) (by lia) (by lia)
  rw[Nat.add_sub_of_le (show sa<=j by lia),e]at this
  have ey:rkAt rk (arrOf z) (sa+na)=rkP rk y:=Qk (by rw[<- hy];simp only[Array.getElem?_toList,Array.getElem?_extract];rw[if_pos (by lia)];rfl)
  lia
 have f2:∀x,((arrOf z).extract (sa+k) (sa+na)).toList[((arrOf z).extract (sa+k) (sa+na)).size - 1]?=some x->∀y∈((arrOf z).extract (sa+na) (sa+na+m)).toList,rkP rk y<=rkP rk x:=fun x hx y hy=>by
  obtain⟨j,j1,j2,j3,e⟩:=VR (rk:=rk) hy;have:=b3 (j - (sa+na)) (by lia)
  rw[Nat.add_sub_of_le (show sa+na<=j by lia),e]at this
  have ex:rkAt rk (arrOf z) (sa+na - 1)=rkP rk x:=Qk (by
   rw[<- hx,szA];simp only[Array.getElem?_toList,Array.getElem?_extract];rw[if_pos (by lia),show sa+k+(na - k - 1)=sa+na - 1 by lia])
  lia
 have fin:∀(M:Array Keyed) (z2 y:SortSt),M.toList.Perm (((arrOf z).extract (sa+k) (sa+na)).toList++((arrOf z).extract (sa+na) (sa+na+m)).toList)->Ris (rkP rk) M.toList->arrOf z2=arrOf z->kindOf y=kd->failedOf y=none->pendingOf y=((pendingOf z).setIfInBounds i (sa,na+nb,pw)).eraseIdxIfInBounds (i+1) ->
   arrOf y=(M.toList.zipIdx.foldl (fun a (q:Keyed×Nat)=>a.setIfInBounds (sa+k+q.2) q.1) (arrOf z2))->Q true y:=by
  intro M z2 y PM RM ez ky fy py ay;have lM:M.toList.length=na - k+m:=by
   have:=PM.length_eq;rw[List.length_append,Array.length_toList (xs:=(arrOf z).extract _ _),Array.length_toList (xs:=(arrOf z).extract _ _),szA,szB]at this;exact this
  have ayl:(arrOf y).toList=(arrOf z).toList.take (sa+k)++M.toList++(arrOf z).toList.drop (sa+na+m):=by
   rw[ay,ez];have:=zmh (sa+k) M.toList 0 (arrOf z) (by rw[lM];lia)
   rw[show sa+k+0=sa+k by lia,lM,show sa+k+(na - k+m)=sa+na+m by lia]at this
   exact this
  have split0:(arrOf z).toList=(arrOf z).toList.take (sa+k)++(((arrOf z).extract (sa+k) (sa+na)).toList++((arrOf z).extract (sa+na) (sa+na+m)).toList)++(arrOf z).toList.drop (sa+na+m):=by
   rw[exA,V1,V1];have c1:=cut2 (arrOf z).toList (sa+k) (na - k);rw[ix1 (show k<=na by lia)]at c1
   have c2:=cut2 (arrOf z).toList (sa+na) m;rw[List.append_assoc,List.append_assoc,<- c2,<- c1,List.take_append_drop]
  have PY:(arrOf y).Perm a0:=by
   refine Array.Perm.trans ?_ pm;rw[Array.perm_iff_toList_perm,ayl]
   conv=>rhs;rw[split0]
   exact List.Perm.append_right _ (List.Perm.append_left _ PM)
  have hlt:((arrOf z).toList.take (sa+k)).length=sa+k:=by simp;lia
  have outer:∀j,j<sa+k\/sa+na+m<=j->rkAt rk (arrOf y) j=rkAt rk (arrOf z) j:=by
   intro j hj;refine Zj ?_;rw[<- Array.getElem?_toList,<- Array.getElem?_toList,ayl];rcases hj with hj|hj
   ·rw[List.append_assoc,List.getElem?_append_left (by lia),List.getElem?_take,if_pos (by lia)]
   ·rw[List.getElem?_append_right (by rw[List.length_append,lM,hlt];lia),List.length_append,lM,hlt,List.getElem?_drop]
    congr 1;lia
  have inner:∀j,sa+k<=j->j<sa+na+m->∃p,M.toList[j - (sa+k)]?=some p/\rkAt rk (arrOf y) j=rkP rk p:=by
   intro j j1 j2;have hj:j - (sa+k)<M.toList.length:=by lia
   refine⟨M.toList[j - (sa+k)],List.getElem?_eq_getElem hj,Qk ?_⟩;rw[ayl,List.getElem?_append_left (by rw[List.length_append,lM,hlt];lia),List.getElem?_append_right (by lia),hlt]
   exact List.getElem?_eq_getElem hj
  have inM:∀p∈M.toList,∃j,sa+k<=j/\j<sa+na+m/\rkAt rk (arrOf z) j=rkP rk p:=by
   intro p hp;rcases List.mem_append.mp (PM.mem_iff.mp hp) with q|q
   ·obtain⟨j,j1,j2,_,e⟩:=VR (rk:=rk) q;exact⟨j,j1,by lia,e⟩
   ·obtain⟨j,j1,j2,_,e⟩:=VR (rk:=rk) q;exact⟨j,by lia,j2,e⟩
  refine h y ky fy PY py ?_ fun j hj=>outer j (by lia)
  clear PY ayl split0 szA szB hlt sz exA rv0 rul;intro x y' hxy hy
  by_cases x1:x<k
  ·rw[outer (sa+x) (by lia)]
   by_cases y1:y'<k
   ·rw[outer (sa+y') (by lia)];exact u1 x y' hxy (by lia)
   ·have low:∀j,sa+k<=j->j<sa+na+nb->rkAt rk (arrOf z) (sa+x)<=rkAt rk (arrOf z) j:=fun j j1 j2=>by
     by_cases j3:j<sa+na
     ·have:=u1 x (j - sa) (by lia) (by lia)
      rw[Nat.add_sub_of_le (show sa<=j by lia)]at this;exact this
     ·have q1:=b1 x x1;have q2:=le2 0 (j - (sa+na)) (by lia) (by lia)
      rw[Nat.add_sub_of_le (show sa+na<=j by lia)]at q2
      simp at q2;lia
    by_cases y2:sa+y'<sa+na+m
    ·obtain⟨p,ep,er⟩:=inner (sa+y') (by lia) y2
     rw[er];obtain⟨j,j1,j2,e⟩:=inM p (List.mem_of_getElem? ep);rw[<- e];exact low j j1 (by lia)
    ·rw[outer (sa+y') (by lia)];exact low _ (by lia) (by lia)
  ·by_cases x2:sa+x<sa+na+m
   ·obtain⟨p,ep,er⟩:=inner (sa+x) (by lia) x2
    rw[er]
    by_cases y2:sa+y'<sa+na+m
    ·obtain⟨q,eq,er2⟩:=inner (sa+y') (by lia) y2
     rw[er2];have h1:sa+x - (sa+k)<M.toList.length:=by lia
     have h2:sa+y' - (sa+k)<M.toList.length:=by lia
     rw[List.getElem?_eq_getElem h1]at ep;rw[List.getElem?_eq_getElem h2]at eq;cases ep;cases eq;exact List.pairwise_iff_getElem.mp RM _ _ h1 h2 (by lia)
    ·rw[outer (sa+y') (by lia)]
     obtain⟨j,j1,j2,e⟩:=inM p (List.mem_of_getElem? ep);rw[<- e];have q4:=b4 (y' - na) (by lia) (by lia)
     rw[ix1 (show na<=y' by lia)]at q4
     by_cases j3:j<sa+na
     ·have:=le1 (j - sa) (na - 1) (by lia) (by lia)
      rw[Nat.add_sub_of_le (show sa<=j by lia),show sa+(na - 1)=sa+na - 1 by lia]at this
      lia
     ·have:=le2 (j - (sa+na)) (y' - na) (by lia) (by lia)
      rw[Nat.add_sub_of_le (show sa+na<=j by lia),ix1 (show na<=y' by lia)]at this
      exact this
   ·rw[outer (sa+x) (by lia),outer (sa+y') (by lia)]
    have:=u2 (x - na) (y' - na) (by lia) (by lia)
    rw[ix1 (show na<=x by lia),ix1 (show na<=y' by lia)]at this
    exact this
 by_cases le:na - k<=m
 ·rw[if_pos le];refine wpS_bind (zlo c (by assumption) mA mB rA rB (Nat.lt_of_lt_of_eq (by lia) szA.symm) (Nat.lt_of_lt_of_eq hm2 szB.symm) f1 f2 fun M z2 PM RM S=>?_)
  refine wpS_bind (wpS_modify (wpS_bind (wpS_get (wpS_pure ?_))));have f2':failedOf z2=none:=S.fl.trans fl;show Q (failedOf z2).isNone _
  rw[f2'];exact fin M z2 _ PM RM S.ar (S.kn.trans (by assumption)) f2' S.pe rfl
 ·rw[if_neg le];refine wpS_bind (zlp c (by assumption) mA mB rA rB (Nat.lt_of_lt_of_eq (by lia) szA.symm) (Nat.lt_of_lt_of_eq hm2 szB.symm) f1 f2 fun M z2 PM RM S=>?_)
  refine wpS_bind (wpS_modify (wpS_bind (wpS_get (wpS_pure ?_))));have f2':failedOf z2=none:=S.fl.trans fl;show Q (failedOf z2).isNone _
  rw[f2'];exact fin M z2 _ PM RM S.ar (S.kn.trans (by assumption)) f2' S.pe rfl
end
structure Sl(rk:Value->Int)(kd:SortKind)(a0:Array Keyed)(z0:SortSt)(lo:Nat)(z:SortSt):Prop where
 pm:(arrOf z).Perm a0
 kn:kindOf z=kd
 fl:failedOf z=none
 pe:pendingOf z=pendingOf z0
 lw:∀j,j<lo->rkAt rk (arrOf z) j=rkAt rk (arrOf z0) j
def DnL(rk:Value->Int)(xs:Array Keyed)(lo m:Nat):Prop:=∀i j,i<j->j<m->rkAt rk xs (lo+j)<=rkAt rk xs (lo+i)
section
variable{prog:Program}{w:World}{A:Around}{E:qV}{s:Shared}{kd:SortKind}{rk:Value->Int}{a0:Array Keyed}{z0:SortSt}{lo:Nat}
theorem Sl.sz{z:SortSt}(b:Sl rk kd a0 z0 lo z):(arrOf z).size=a0.size:=b.pm.size_eq
theorem Sl.arr{z:SortSt}(b:Sl rk kd a0 z0 lo z){xs:Array Keyed}(h:xs.Perm (arrOf z))(l:∀j,j<lo->rkAt rk xs j=rkAt rk (arrOf z) j):Sl rk kd a0 z0 lo (setArr z xs):=⟨h.trans b.pm,b.kn,b.fl,b.pe,fun j hj=>(l j hj).trans (b.lw j hj)⟩
theorem askL{z:SortSt}{i j:Nat}{Q:Option Bool->SortSt->Prop}(c:Cmp prog w A s kd rk a0)(b:Sl rk kd a0 z0 lo z)(hi:i<a0.size)(hj:j<a0.size)
  (h:Q (some (decide (rkAt rk (arrOf z) i<rkAt rk (arrOf z) j))) z):wpS (model prog w) A E s (ltAt' i j) Q z:=by
 have mem:∀k,k<a0.size->∃p,(arrOf z)[k]?=some p/\p∈a0.toList:=fun k hk=>by
  have hk':k<(arrOf z).size:=by rw[b.sz];exact hk
  exact⟨(arrOf z)[k],Array.getElem?_eq_getElem hk',(Array.perm_iff_toList_perm.mp b.pm).mem_iff.mp (by simp)⟩
 obtain⟨p,ep,mp⟩:=mem i hi;obtain⟨q,eq,mq⟩:=mem j hj;have r1:rkAt rk (arrOf z) i=rk p.1:=by unfold rkAt;rw[ep];rfl
 have r2:rkAt rk (arrOf z) j=rk q.1:=by unfold rkAt;rw[eq];rfl
 rw[r1,r2]at h;rw[ltAt'_eq];refine wpS_bind (wpS_get ?_);show wpS (model prog w) A E s (elem' (arrOf z) i >>= fun x=>elem' (arrOf z) j >>= fun y=>lt' x y) Q z
 simp only[elem'_eq,ep,eq,pure_bind];exact ZI c b.kn mp mq h
theorem zri{z:SortSt}{n ok:Nat}{Q:Bool->SortSt->Prop}(c:Cmp prog w A s kd rk a0)(hn:lo+n<=a0.size)(hok:ok<=n)(b:Sl rk kd a0 z0 lo z)(up:UpL rk (arrOf z) lo ok)
  (h:∀y,Sl rk kd a0 z0 lo y->UpL rk (arrOf y) lo n->Q true y):wpS (model prog w) A E s (binarySort' lo n ok) Q z:=by
 rw[binarySort'_eq];refine wpS_bind (wpS_mono (wpS_forRange (Q:=fun c y=>c=(none,())/\Sl rk kd a0 z0 lo y/\UpL rk (arrOf y) lo n) (I:=fun k c y=>c=(none,())/\Sl rk kd a0 z0 lo y/\UpL rk (arrOf y) lo (min k n)) ?turn ?last ⟨rfl,b,fun i j h1 h2=>up i j h1 (by lia)⟩) ?post)
 case post =>
  rintro _ y ⟨rfl,by',u⟩
  exact wpS_pure (h y by' u)
 case last =>
  rintro _ y ⟨rfl,by',u⟩
  exact⟨rfl,by',by rwa [show min (max (max ok 1) n) n=n by lia]at u⟩
 case turn =>
  rintro k _ y k1 k2 ⟨rfl,by',u⟩
  rw[show min k n=k by lia]at u
  refine wpS_bind (wpS_mono (wpS_forRange (Q:=fun c y'=>y'=y/\∃l r,c=(none,l,r)/\l<=k/\(∀i,i<l->rkAt rk (arrOf y) (lo+i)<=rkAt rk (arrOf y) (lo+k))/\∀i,l<=i->i<k->rkAt rk (arrOf y) (lo+k)<rkAt rk (arrOf y) (lo+i))
   (I:=fun x c y'=>y'=y/\∃l r,c=(none,l,r)/\l<=r/\r<=k/\r - l+x<=k/\(∀i,i<l->rkAt rk (arrOf y) (lo+i)<=rkAt rk (arrOf y) (lo+k))/\∀i,r<=i->i<k->rkAt rk (arrOf y) (lo+k)<rkAt rk (arrOf y) (lo+i)) ?t2 ?l2 ⟨rfl,0,k,rfl,by lia,by lia,by lia,fun i hi=>by lia,fun i i1 i2=>by lia⟩) ?p2)
  case l2 =>
   rintro _ v ⟨e,l,r,rfl,q1,q2,q3,q4,q5⟩;subst e;exact⟨rfl,l,r,rfl,by lia,q4,fun i i1 i2=>q5 i (by lia) i2⟩
  case t2 =>
   rintro x _ v _ _ ⟨e,l,r,rfl,q1,q2,q3,q4,q5⟩;subst e
   by_cases ge:r<=l
   ·simp only[ge_iff_le,ge,if_true];exact wpS_pure ⟨rfl,l,r,rfl,by lia,q4,fun i i1 i2=>q5 i (by lia) i2⟩
   ·simp only[ge_iff_le,ge,if_false];refine wpS_bind (askL c by' (by lia) (by lia) ?_)
    by_cases le:rkAt rk (arrOf v) (lo+k)<rkAt rk (arrOf v) (lo+(l+r) / 2)
    ·simp only[le,decide_true,if_true];refine wpS_pure ⟨rfl,l,(l+r) / 2,rfl,by lia,by lia,by lia,q4,fun i i1 i2=>?_⟩
     rcases Nat.lt_or_ge ((l+r) / 2) i with g|g
     ·have:=u _ _ g i2;lia
     ·have:i=(l+r) / 2:=by lia
      rw[this];exact le
    ·simp only[le,decide_false,Bool.false_eq_true,if_false];refine wpS_pure ⟨rfl,(l+r) / 2+1,r,rfl,by lia,by lia,by lia,fun i i1=>?_,q5⟩
     rcases Nat.lt_or_ge i ((l+r) / 2) with g|g
     ·have:=u _ _ g (by lia);lia
     ·have:i=(l+r) / 2:=by lia
      rw[this];lia
  case p2 =>
   rintro _ v ⟨e,l,r,rfl,q2,q4,q5⟩;subst e;show wpS (model prog w) A E s (moveDown' (lo+k) (lo+l) >>= fun _=>pure (ForInStep.yield (none,()))) _ v
   rw[moveDown'_eq];have hk:lo+k<(arrOf v).size:=by rw[by'.sz];lia
   have bub:∀j,_:=fun j=>zr0 (rk:=rk) hk (show lo+k - (lo+l)<=lo+k by lia) j
   have el:lo+k - (lo+k - (lo+l))=lo+l:=by lia
   rw[el]at bub;refine wpS_bind (wpS_modify (wpS_pure ⟨rfl,by'.arr (bubble_perm _ _ _) (fun j hj=>(bub j).2.2 (by lia)),fun i j h1 h2=>?_⟩))
   show rkAt rk (bubble (arrOf v) (lo+k) (lo+k - (lo+l))) (lo+i)<=rkAt rk (bubble (arrOf v) (lo+k) (lo+k - (lo+l))) (lo+j)
   have hj:j<=k:=by lia
   obtain⟨a1,a2,a3⟩:=bub (lo+i);obtain⟨b1,b2,b3⟩:=bub (lo+j);rcases Nat.lt_trichotomy j l with jl|jl|jl
   ·rw[a3 (by lia),b3 (by lia)];exact u i j h1 (by lia)
   ·rw[a3 (by lia),b1 (by lia)];exact q4 i (by lia)
   ·rw[b2 (by lia) (by lia),show lo+j - 1=lo+(j - 1) by lia]
    rcases Nat.lt_trichotomy i l with il|il|il
    ·rw[a3 (by lia)]
     exact u i (j - 1) (by lia) (by lia)
    ·rw[a1 (by lia)];exact Int.le_of_lt (q5 (j - 1) (by lia) (by lia))
    ·rw[a2 (by lia) (by lia),show lo+i - 1=lo+(i - 1) by lia]
     exact u _ _ (by lia) (by lia)
theorem UpL.more{xs:Array Keyed}{x:Nat}(u:UpL rk xs lo x)(x1:1<=x)(g:¬rkAt rk xs (lo+x)<rkAt rk xs (lo+x - 1)):UpL rk xs lo (x+1):=fun i j h1 h2=>by
 rw[show lo+x - 1=lo+(x - 1) by lia]at g
 rcases Nat.lt_or_ge j x with jx|jx
 ·exact u i j h1 jx
 ·have ej:j=x:=by lia
  subst ej;rcases Nat.lt_or_ge i (j - 1) with ij|ij
  ·have:=u i (j - 1) ij (by lia);lia
  ·have:i=j - 1:=by lia
   rw[this];lia
theorem DnL.more{xs:Array Keyed}{x:Nat}(u:DnL rk xs lo x)(x1:1<=x)(g:rkAt rk xs (lo+x)<=rkAt rk xs (lo+x - 1)):DnL rk xs lo (x+1):=fun i j h1 h2=>by
 rw[show lo+x - 1=lo+(x - 1) by lia]at g
 rcases Nat.lt_or_ge j x with jx|jx
 ·exact u i j h1 jx
 ·have ej:j=x:=by lia
  subst ej;rcases Nat.lt_or_ge i (j - 1) with ij|ij
  ·have:=u i (j - 1) ij (by lia);lia
  ·have:i=j - 1:=by lia
   rw[this];lia
theorem zp3{z:SortSt}{m:Nat}{Q:Option Nat->SortSt->Prop}(c:Cmp prog w A s kd rk a0)(hm:lo+m<=a0.size)(m1:1<=m)(b:Sl rk kd a0 z0 lo z)
  (h:∀k y,Sl rk kd a0 z0 lo y->1<=k->k<=m->UpL rk (arrOf y) lo k->Q (some k) y):wpS (model prog w) A E s (countRun' lo m) Q z:=by
 rw[countRun'_eq];refine wpS_bind (wpS_mono (wpS_forRange (I:=fun x c y=>y=z/\c=(none,x)/\UpL rk (arrOf z) lo x) (Q:=fun c y=>y=z/\∃n,c=(none,n)/\1<=n/\n<=m/\UpL rk (arrOf z) lo n/\(n<m->rkAt rk (arrOf z) (lo+n)<rkAt rk (arrOf z) (lo+n - 1))) ?turn ?last ⟨rfl,rfl,fun i j h1 h2=>absurd h1 (by lia)⟩) ?post)
 case last =>
  rintro _ y ⟨rfl,rfl,u⟩;rw[show max 1 m=m by lia]at u ⊢
  exact⟨rfl,m,rfl,m1,Nat.le_refl _,u,fun g=>absurd g (by lia)⟩
 case turn =>
  rintro x _ y x1 x2 ⟨rfl,rfl,u⟩;dsimp only;refine wpS_bind (askL c b (by lia) (by lia) ?_)
  by_cases g:rkAt rk (arrOf y) (lo+x)<rkAt rk (arrOf y) (lo+x - 1)
  ·simp only[g,decide_true,if_true];exact wpS_pure ⟨rfl,x,rfl,x1,by lia,u,fun _=>g⟩
  ·simp only[g,decide_false,Bool.false_eq_true,if_false];exact wpS_pure ⟨rfl,rfl,u.more x1 g⟩
 case post =>
  rintro _ y ⟨rfl,n,rfl,n1,n2,u,lt⟩;dsimp only
  by_cases en:n=m
  ·simp only[en,beq_self_eq_true,if_true];exact wpS_pure (h m y b m1 (Nat.le_refl _) (en▸u))
  have en':(n == m)=false:=by simpa using en
  simp only[en',Bool.false_eq_true,if_false];have l:=lt (by lia)
  have zn:lo+n<=(arrOf y).size:=by rw[b.sz];lia
  have pre:n<=1\/1<n:=by lia
  have both:∀(F:StateT SortSt Sem (Option Nat)) ,(∀y',Sl rk kd a0 z0 lo y'->DnL rk (arrOf y') lo (n+1)->wpS (model prog w) A E s F Q y')->wpS (model prog w) A E s (if n > 1 then ltAt' lo (lo+n - 1) >>= fun x=>match x with
    | some rose=>if rose=true then pure (some n) else reverseSlice' lo (lo+n) >>= fun _=>F
    | _=>pure none
   else F) Q y:=by
   intro F hF
   by_cases g:n > 1
   ·simp only[g,if_true];refine wpS_bind (askL c b (by lia) (by lia) ?_)
    by_cases rose:rkAt rk (arrOf y) lo<rkAt rk (arrOf y) (lo+n - 1)
    ·simp only[rose,decide_true,if_true];exact wpS_pure (h n y b n1 n2 u)
    ·simp only[rose,decide_false,Bool.false_eq_true,if_false];have al:∀k,lo<=k->k<lo+n->rkAt rk (arrOf y) k=rkAt rk (arrOf y) (lo+n - 1):=fun k k1 kn=>by
      have p:rkAt rk (arrOf y) lo<=rkAt rk (arrOf y) k:=by
       rcases Nat.eq_or_lt_of_le k1 with k0|k0
       ·rw[k0];exact Int.le_refl _
       ·have:=u 0 (k - lo) (by lia) (by lia)
        rw[show lo+(k - lo)=k by lia]at this
        exact this
      have q:rkAt rk (arrOf y) k<=rkAt rk (arrOf y) (lo+n - 1):=by
       rcases Nat.lt_or_ge k (lo+n - 1) with kk|kk
       ·have:=u (k - lo) (n - 1) (by lia) (by lia)
        rw[show lo+(k - lo)=k by lia,show lo+(n - 1)=lo+n - 1 by lia]at this
        exact this
       ·rw[show k=lo+n - 1 by lia];exact Int.le_refl _
      lia
     refine wpS_bind (wpS_reverse (hF _ (b.arr (mirror_perm _ _ _ _) fun j hj=>UD zn al j) fun i j h1 h2=>?_))
     show rkAt rk (mirror (arrOf y) lo (lo+n) ((lo+n - lo) / 2)) (lo+j)<=rkAt rk (mirror (arrOf y) lo (lo+n) ((lo+n - lo) / 2)) (lo+i)
     rw[UD zn al,UD zn al];have ai:=al (lo+i) (by lia) (by lia)
     rcases Nat.lt_or_ge j n with jn|jn
     ·have:=al (lo+j) (by lia) (by lia);lia
     ·rw[show j=n by lia];lia
   ·simp only[g,if_false];have e1:n=1:=by lia
    subst e1;refine hF y b fun i j h1 h2=>?_
    rw[show i=0 by lia,show j=1 by lia]
    exact Int.le_of_lt l
  refine both _ fun y b dn=>?_
  clear both;refine wpS_bind (wpS_lift (wpAny_rule ⟨rfl,wpS_bind ?_⟩));refine wpS_mono (wpS_forRange (I:=fun x c y=>∃e,c=(none,x,e)/\Sl rk kd a0 z0 lo y/\DnL rk (arrOf y) lo x/\e<x/\∀i,lo+x - (e+1)<=i->i<lo+x->rkAt rk (arrOf y) i=rkAt rk (arrOf y) (lo+x - 1))
   (Q:=fun c y=>∃x e,c=(none,x,e)/\1<=x/\x<=m/\Sl rk kd a0 z0 lo y/\DnL rk (arrOf y) lo x/\e<x/\∀i,lo+x - (e+1)<=i->i<lo+x->rkAt rk (arrOf y) i=rkAt rk (arrOf y) (lo+x - 1)) ?turn2 ?last2 ⟨0,rfl,b,dn,by lia,fun i i1 i2=>by rw[show i=lo+(n+1) - 1 by lia]⟩) ?post2
  case last2 =>
   rintro _ y ⟨e,rfl,q⟩;rw[show max (n+1) m=m by lia]at *
   exact⟨m,e,rfl,m1,Nat.le_refl _,q⟩
  case turn2 =>
   rintro x _ y x1 x2 ⟨e,rfl,by',d,ex,al⟩
   have xz:lo+x<=(arrOf y).size:=by rw[by'.sz];lia
   dsimp only;refine wpS_bind (askL c by' (show lo+x<a0.size by lia) (show lo+x - 1<a0.size by lia) ?_)
   have one:∀xs:Array Keyed,∀i,lo+(x+1) - (0+1)<=i->i<lo+(x+1)->rkAt rk xs i=rkAt rk xs (lo+(x+1) - 1):=fun xs i i1 i2=>by rw[show i=lo+(x+1) - 1 by lia]
   by_cases g:rkAt rk (arrOf y) (lo+x)<rkAt rk (arrOf y) (lo+x - 1)
   ·simp only[g,decide_true,if_true];have d2:∀xs:Array Keyed,(∀k,rkAt rk xs k=rkAt rk (arrOf y) k)->DnL rk xs lo (x+1):=fun xs hx i j h1 h2=>by
     rw[hx,hx];exact d.more (by lia) (Int.le_of_lt g) i j h1 h2
    by_cases e0:e > 0
    ·simp only[e0,if_true];exact wpS_bind (wpS_reverse (wpS_pure ⟨0,rfl,by'.arr (mirror_perm _ _ _ _) (fun j hj=>UD xz al j),d2 _ (UD xz al),by lia,one _⟩))
    ·simp only[e0,if_false];exact wpS_pure ⟨0,rfl,by',d2 _ (fun _=>rfl),by lia,one _⟩
   ·simp only[g,decide_false,Bool.false_eq_true,if_false];refine wpS_bind (askL c by' (show lo+x - 1<a0.size by lia) (show lo+x<a0.size by lia) ?_)
    by_cases g2:rkAt rk (arrOf y) (lo+x - 1)<rkAt rk (arrOf y) (lo+x)
    ·simp only[g2,decide_true,if_true];exact wpS_pure ⟨x,e,rfl,by lia,by lia,by',d,ex,al⟩
    ·simp only[g2,decide_false,Bool.false_eq_true,if_false];have eqx:rkAt rk (arrOf y) (lo+x)=rkAt rk (arrOf y) (lo+x - 1):=by lia
     refine wpS_pure ⟨e+1,rfl,by',d.more (by lia) (by lia),by lia,fun i i1 i2=>?_⟩
     rw[show lo+(x+1) - 1=lo+x by lia]
     rcases Nat.lt_or_ge i (lo+x) with ix|ix
     ·rw[al i (by lia) ix,eqx]
     ·rw[show i=lo+x by lia]
  case post2 =>
   rintro _ y ⟨x,e,rfl,x1,x2,by',d,ex,al⟩
   have kz:lo+x<=(arrOf y).size:=by rw[by'.sz];lia
   dsimp only;have fin:∀(F:StateT SortSt Sem (Option Nat)),(∀y',Sl rk kd a0 z0 lo y'->DnL rk (arrOf y') lo x->wpS (model prog w) A E s F Q y')->wpS (model prog w) A E s (if e > 0 then reverseSlice' (lo+x - (e+1)) (lo+x) >>= fun _=>F else F) Q y:=by
    intro F hF
    by_cases e0:e > 0
    ·simp only[e0,if_true];refine wpS_bind (wpS_reverse (hF _ (by'.arr (mirror_perm _ _ _ _) fun j hj=>UD kz al j) fun i j h1 h2=>?_))
     show rkAt rk (mirror (arrOf y) (lo+x - (e+1)) (lo+x) ((lo+x - (lo+x - (e+1))) / 2)) (lo+j)<=rkAt rk (mirror (arrOf y) (lo+x - (e+1)) (lo+x) ((lo+x - (lo+x - (e+1))) / 2)) (lo+i)
     rw[UD kz al,UD kz al];exact d i j h1 h2
    ·simp only[e0,if_false];exact hF y by' d
   refine fin _ fun y by' d=>?_
   clear fin;have hz:lo+x<=(arrOf y).size:=by rw[by'.sz];lia
   have b2:=by'.arr (mirror_perm (arrOf y) lo (lo+x) ((lo+x - lo) / 2)) fun j hj=>(VF (rk:=rk) hz j).2 (.inl hj)
   refine wpS_bind (wpS_reverse (wpS_bind ?_));have u2:UpL rk (mirror (arrOf y) lo (lo+x) ((lo+x - lo) / 2)) lo x:=fun i j h1 h2=>by
    rw[(VF (rk:=rk) hz (lo+i)).1 (by lia) (by lia),(VF (rk:=rk) hz (lo+j)).1 (by lia) (by lia)]
    have:=d (x - 1 - j) (x - 1 - i) (by lia) (by lia)
    rw[show lo+(x - 1 - j)=lo+(lo+x) - 1 - (lo+j) by lia,show lo+(x - 1 - i)=lo+(lo+x) - 1 - (lo+i) by lia]at this
    exact this
   change UpL rk (arrOf (setArr y (mirror (arrOf y) lo (lo+x) ((lo+x - lo) / 2)))) lo x at u2;generalize setArr y (mirror (arrOf y) lo (lo+x) ((lo+x - lo) / 2))=v at b2 u2 ⊢;refine wpS_mono (wpS_forRange (I:=fun x c y=>y=v/\c=(none,x)/\UpL rk (arrOf v) lo x) (Q:=fun c y=>y=v/\∃n,c=(none,n)/\1<=n/\n<=m/\UpL rk (arrOf v) lo n) ?turn3 ?last3 ⟨rfl,rfl,u2⟩) ?post3
   case last3 =>
    rintro _ y ⟨rfl,rfl,u⟩;rw[show max x m=m by lia]at u ⊢
    exact⟨rfl,m,rfl,m1,Nat.le_refl _,u⟩
   case turn3 =>
    rintro x' _ y x1 x2 ⟨rfl,rfl,u⟩;dsimp only;refine wpS_bind (askL c b2 (by lia) (by lia) ?_)
    by_cases g:rkAt rk (arrOf y) (lo+x')<rkAt rk (arrOf y) (lo+x' - 1)
    ·simp only[g,decide_true,if_true];exact wpS_pure ⟨rfl,x',rfl,by lia,by lia,u⟩
    ·simp only[g,decide_false,Bool.false_eq_true,if_false];exact wpS_pure ⟨rfl,rfl,u.more (by lia) g⟩
   case post3 =>
    rintro _ y ⟨rfl,n,rfl,n1,n2,u⟩;exact wpS_pure (h n y b2 n1 n2 u)
end
abbrev Run3:=Nat×Nat×Nat
def Side:List Run3->Nat->Nat->Prop
 | [],a,b=>a=b
 | q::r,a,b=>q.1=a/\0<q.2.1/\Side r (a+q.2.1) b
theorem Z4:∀{l m:List Run3}{a b:Nat},Side (l++m) a b↔∃c,Side l a c/\Side m c b
 | [],m,a,b=>⟨fun h=>⟨a,rfl,h⟩,fun⟨c,e,h⟩=>by cases e;exact h⟩
 | q::l,m,a,b=>by
  constructor
  ·rintro⟨h1,h2,h3⟩;obtain⟨c,c1,c2⟩:=Z4.mp h3;exact⟨c,⟨h1,h2,c1⟩,c2⟩
  ·rintro⟨c,⟨h1,h2,c1⟩,c2⟩;exact⟨h1,h2,Z4.mpr ⟨c,c1,c2⟩⟩
theorem ZX:∀{l:List Run3}{a b:Nat},Side l a b->a+l.length<=b/\∀q∈l,a<=q.1/\q.1+q.2.1<=b
 | [],a,b,h=>⟨by cases h;simp,fun q hq=>nomatch hq⟩
 | p::l,a,b,⟨h1,h2,h3⟩=>by
  obtain⟨i1,i2⟩:=ZX h3;refine⟨by simp only[List.length_cons];lia,fun q hq=>?_⟩
  rcases List.mem_cons.mp hq with rfl|m
  ·lia
  ·have:=i2 q m;lia
theorem zj5{f:Run3->Run3}(hf:∀q,(f q).1=q.1/\(f q).2.1=q.2.1):∀{l:List Run3}{i a b:Nat},Side l a b->Side (l.modify i f) a b/\∀q'∈l.modify i f,∃q∈l,q'.1=q.1/\q'.2.1=q.2.1
 | [],i,a,b,h=>by simp only[List.modify_nil];exact⟨h,fun q hq=>nomatch hq⟩
 | p::l,0,a,b,⟨h1,h2,h3⟩=>by
  rw[List.modify_zero_cons];refine⟨⟨(hf p).1.trans h1,(hf p).2▸h2,(hf p).2▸h3⟩,fun q hq=>?_⟩
  rcases List.mem_cons.mp hq with rfl|m
  ·exact⟨p,List.mem_cons_self,hf p⟩
  ·exact⟨q,List.mem_cons_of_mem _ m,rfl,rfl⟩
 | p::l,i+1,a,b,⟨h1,h2,h3⟩=>by
  rw[List.modify_succ_cons];obtain⟨i1,i2⟩:=zj5 hf (i:=i) h3;refine⟨⟨h1,h2,i1⟩,fun q hq=>?_⟩
  rcases List.mem_cons.mp hq with rfl|m
  ·exact⟨q,List.mem_cons_self,rfl,rfl⟩
  ·obtain⟨q',m',e⟩:=i2 q m;exact⟨q',List.mem_cons_of_mem _ m',e⟩
theorem zht{α:Type}{x y v:α}:∀(l r:List α),((l++x::y::r).set l.length v).eraseIdx (l.length+1)=l++v::r
 | [],r=>rfl
 | a::l,r=>by
  have:=zht (x:=x) (y:=y) (v:=v) l r;simp only[List.cons_append,List.length_cons,List.set_cons_succ,List.eraseIdx_cons_succ,this]
structure Rn(rk:Value->Int)(kd:SortKind)(a0:Array Keyed)(lo:Nat)(z:SortSt):Prop where
 pm:(arrOf z).Perm a0
 kn:kindOf z=kd
 fl:failedOf z=none
 sd:Side (pendingOf z).toList 0 lo
 ls:lo<=a0.size
 up:∀q∈(pendingOf z).toList,UpL rk (arrOf z) q.1 q.2.1
theorem UpL.same{rk:Value->Int}{xs ys:Array Keyed}{lo m:Nat}(u:UpL rk xs lo m)(e:∀j,lo<=j->j<lo+m->rkAt rk ys j=rkAt rk xs j):UpL rk ys lo m:=fun i j h1 h2=>by
 rw[e (lo+i) (by lia) (by lia),e (lo+j) (by lia) (by lia)]
 exact u i j h1 h2
section
variable{prog:Program}{w:World}{A:Around}{E:qV}{s:Shared}{kd:SortKind}{rk:Value->Int}{a0:Array Keyed}{z0:SortSt}{lo:Nat}
theorem zpE{i:Nat}{z:SortSt}{Q:Bool->SortSt->Prop}(c:Cmp prog w A s kd rk a0)(R:Rn rk kd a0 lo z)(hi:i+1<(pendingOf z).size)
  (h:∀y,Rn rk kd a0 lo y->(pendingOf y).size+1=(pendingOf z).size->(∀j,lo<=j->rkAt rk (arrOf y) j=rkAt rk (arrOf z) j)->Q true y):wpS (model prog w) A E s (mergeAt' i) Q z:=by
 obtain⟨l,x,y,r,el,ei⟩:∃l x y r,(pendingOf z).toList=l++x::y::r/\l.length=i:=by
  have h1:i<(pendingOf z).toList.length:=by simp;lia
  have h2:i+1<(pendingOf z).toList.length:=by simp;lia
  refine⟨(pendingOf z).toList.take i,(pendingOf z).toList[i],(pendingOf z).toList[i+1],(pendingOf z).toList.drop (i+2),?_,by simp;lia⟩
  rw[<- List.drop_eq_getElem_cons h2,<- List.drop_eq_getElem_cons h1,List.take_append_drop]
 obtain⟨sa,na,pw⟩:=x;obtain⟨sb,nb,pw2⟩:=y;have sd:=R.sd;rw[el]at sd;obtain⟨a,s1,q1,q2,q3,q4,q5⟩:=Z4.mp sd;dsimp only at q1 q2 q3 q4 q5;subst q1;subst q3;have up:=R.up;rw[el]at up;obtain⟨t1,t2⟩:=ZX q5;have t3:=ZX s1;have ls:=R.ls;refine zlq (sa:=sa) (na:=na) (nb:=nb) (pw:=pw) (pw2:=pw2) c R.kn R.fl R.pm ?_ ?_ q2 q4 (by lia) (up (sa,na,pw) (by simp)) (up (sa+na,nb,pw2) (by simp)) fun y' ky fy py pe u out=>?_
 ·rw[<- Array.getElem?_toList,el,List.getElem?_append_right (by lia),show i - l.length=0 by lia];rfl
 ·rw[<- Array.getElem?_toList,el,List.getElem?_append_right (by lia),show i+1 - l.length=1 by lia];rfl
 ·have pl:(pendingOf y').toList=l++(sa,na+nb,pw)::r:=by
   rw[pe];subst ei;rw[Array.toList_eraseIdxIfInBounds,Array.toList_setIfInBounds,el];exact zht l r
  refine h y' ⟨py,ky,fy,?_,R.ls,?_⟩ ?_ fun j hj=>out j (.inr (by lia))
  ·rw[pl];refine Z4.mpr ⟨sa,s1,rfl,by show 0<na+nb;lia,?_⟩
   show Side r (sa+(na+nb)) lo
   rw[<- Nat.add_assoc];exact q5
  ·rw[pl];intro q hq;rcases List.mem_append.mp hq with m|m
   ·exact(up q (by simp[m])).same fun j j1 j2=>out j (.inl (by have:=t3.2 q m;lia))
   ·rcases List.mem_cons.mp m with rfl|m
    ·exact u
    ·exact(up q (by simp[m])).same fun j j1 j2=>out j (.inr (by have:=t2 q m;lia))
  ·have e1:(pendingOf y').size=(pendingOf y').toList.length:=by simp
   have e2:(pendingOf z).size=(pendingOf z).toList.length:=by simp
   rw[e1,e2,pl,el];simp;lia
theorem zou{z:SortSt}{Q:Unit->SortSt->Prop}(c:Cmp prog w A s kd rk a0)(b:Sb kd a0 z)(s2:2<=a0.size)
  (h:∀y,(arrOf y).Perm a0->failedOf y=none->Up rk (arrOf y) a0.size->Q () y):wpS (model prog w) A E s sortRuns' Q z:=by
 rw[sortRuns'_eq];refine wpS_bind (wpS_get ?_);rw[b.sz];dsimp only;generalize minRun' a0.size a0.size 0=mr;refine wpS_bind (wpS_mono (wpS_forRange (Q:=fun c y=>∃lo,c=(none,lo)/\Rn rk kd a0 lo y/\a0.size<=lo)
  (I:=fun x c y=>∃lo,c=(none,lo)/\Rn rk kd a0 lo y/\x<=lo) ?turn ?last ⟨0,rfl,⟨b.pm,b.kn,b.fl,by rw[b.pe];rfl,by lia,by rw[b.pe];intro q hq;simp at hq⟩,by lia⟩) ?post)
 case last =>
  rintro _ y ⟨lo,rfl,R,hx⟩;exact⟨lo,rfl,R,by lia⟩
 case turn =>
  rintro x _ y _ hx ⟨lo,rfl,R,hl⟩;dsimp only
  by_cases ge:lo>=a0.size
  ·rw[if_pos ge];exact wpS_pure ⟨lo,rfl,R,ge⟩
  rw[if_neg ge];have rest:∀(n:Nat) (y1:SortSt),1<=n->lo+n<=a0.size->Sl rk kd a0 y lo y1->UpL rk (arrOf y1) lo n->Rn rk kd a0 lo y1:=fun n y1 n1 n2 S u=>by
   refine⟨S.pm,S.kn,S.fl,S.pe▸R.sd,R.ls,?_⟩;rw[S.pe];intro q hq;exact(R.up q hq).same fun j j1 j2=>S.lw j (by have:=(ZX R.sd).2 q hq;lia)
  have push:∀(n:Nat) (y1:SortSt),1<=n->lo+n<=a0.size->Rn rk kd a0 lo y1->UpL rk (arrOf y1) lo n->Rn rk kd a0 (lo+n) (setPending y1 ((pendingOf y1).push (lo,n,0))):=fun n y1 n1 n2 S u=>by
   have e:(pendingOf (setPending y1 ((pendingOf y1).push (lo,n,0)))).toList=(pendingOf y1).toList++[(lo,n,0)]:=by
    show((pendingOf y1).push (lo,n,0)).toList=_
    simp
   refine⟨S.pm,S.kn,S.fl,?_,n2,?_⟩
   ·rw[e];exact Z4.mpr ⟨lo,S.sd,rfl,n1,rfl⟩
   ·rw[e];intro q hq;rcases List.mem_append.mp hq with m|m
    ·exact S.up q m
    ·cases List.mem_singleton.mp m;exact u
  refine wpS_bind (zp3 (z0:=y) (lo:=lo) c (by lia) (by lia) ⟨R.pm,R.kn,R.fl,rfl,fun _ _=>rfl⟩ fun k y1 S1 k1 k2 u1=>?_)
  dsimp only
  by_cases g:k<mr
  rw[if_pos g];refine wpS_bind (wpS_lift (wpAny_rule ⟨rfl,wpS_bind (zri c (n:=min (a0.size - lo) mr) (by lia) (by lia) S1 u1 fun y2 S2 u2=>?_)⟩))
  simp only[Bool.not_true,Bool.false_eq_true,if_false];have n1:1<=min (a0.size - lo) mr:=by lia
  have n2:lo+min (a0.size - lo) mr<=a0.size:=by lia
  generalize min (a0.size - lo) mr=n at u2 n1 n2 ⊢
  rotate_left 1
  rw[if_neg g];have n1:1<=k:=k1;have n2:lo+k<=a0.size:=by lia
  have S2:=S1;have u2:=u1;revert S1 u1 S2 u2;generalize y1=y2;generalize k=n at n1 n2 ⊢;intro _ _ S2 u2
  all_goals
   have R2:=rest n y2 n1 n2 S2 u2;refine wpS_bind (wpS_get ?_);cases hb:(pendingOf y2).back? with
   | none =>
    dsimp only;exact wpS_bind (wpS_modify (wpS_pure ⟨_,rfl,push n y2 n1 n2 R2 u2,by lia⟩))
   | some q =>
    obtain⟨q1,q2,q3⟩:=q;dsimp only;generalize power' a0.size (2*q1+q2) (2*q1+q2+q2+n) a0.size=pw;refine wpS_bind (wpS_mono (wpS_forRange (I:=fun _ c v=>c=(none,())/\Rn rk kd a0 lo v/\UpL rk (arrOf v) lo n) (Q:=fun c v=>c=(none,())/\Rn rk kd a0 lo v/\UpL rk (arrOf v) lo n) ?_ (fun _ _ I=>I) ⟨rfl,R2,u2⟩) ?_)
    ·rintro x' _ v _ _ ⟨rfl,Rv,uv⟩;refine wpS_bind (wpS_get ?_)
     by_cases big:(pendingOf v).size > 1
     ·rw[if_pos big,Array.getElem?_eq_getElem (by lia)]
      generalize (pendingOf v)[(pendingOf v).size - 2]'(by lia)=o
      obtain⟨o1,o2,o3⟩:=o;dsimp only
      by_cases po:o3<=pw
      ·rw[if_pos po];exact wpS_pure ⟨rfl,Rv,uv⟩
      ·rw[if_neg po];refine wpS_bind (zpE c Rv (by lia) fun y' R' _ out=>?_)
       simp only[Bool.not_true,Bool.false_eq_true,if_false];exact wpS_pure ⟨rfl,R',uv.same fun j j1 _=>out j j1⟩
     ·rw[if_neg big];exact wpS_pure ⟨rfl,Rv,uv⟩
    ·rintro _ v ⟨rfl,Rv,uv⟩;dsimp only;have m:=zj5 (f:=fun x=>(x.1,x.2.1,pw)) (fun q=>⟨rfl,rfl⟩) (i:=(pendingOf v).size - 1) Rv.sd
     refine wpS_bind (wpS_modify (wpS_bind (wpS_modify (wpS_pure ⟨_,rfl,push n _ n1 n2 ⟨Rv.pm,Rv.kn,Rv.fl,?_,Rv.ls,?_⟩ uv,by lia⟩))))
     ·show Side ((pendingOf v).modify _ _).toList 0 lo
      rw[Array.toList_modify];exact m.1
     ·show ∀q∈((pendingOf v).modify _ _).toList,UpL rk (arrOf v) q.1 q.2.1
      rw[Array.toList_modify];intro q hq;obtain⟨q',m',e1,e2⟩:=m.2 q hq;rw[e1,e2];exact Rv.up q' m'
 case post =>
  rintro _ y ⟨lo,rfl,R,hl⟩;have el:lo=a0.size:=by have:=R.ls;lia
  subst el;dsimp only;have p0:=(ZX R.sd).1;have ps:(pendingOf y).toList.length=(pendingOf y).size:=by simp
  refine wpS_bind (wpS_mono (wpS_forRange (I:=fun x c v=>c=(none,())/\Rn rk kd a0 a0.size v/\((pendingOf v).size<=1\/(pendingOf v).size+x<=a0.size)) (Q:=fun c v=>c=(none,())/\Rn rk kd a0 a0.size v/\(pendingOf v).size<=1) ?_ ?_ ⟨rfl,R,.inr (by lia)⟩) ?_)
  ·rintro x _ v _ hx ⟨rfl,Rv,sz⟩;refine wpS_bind (wpS_get ?_)
   by_cases le:(pendingOf v).size<=1
   ·rw[if_pos le];exact wpS_pure ⟨rfl,Rv,le⟩
   rw[if_neg le];refine wpS_bind (zpE c Rv ?_ fun y' R' e _=>?_)
   ·have ile:∀(p:Prop) [Decidable p] (a b n:Nat),a<=n->b<=n->(if p then a else b)<=n:=by intros;split <;> assumption
    exact Nat.lt_of_le_of_lt (Nat.add_le_add_right (ile _ _ _ ((pendingOf v).size - 2) (by lia) (Nat.le_refl _)) 1) (by lia)
   ·simp only[Bool.not_true,Bool.false_eq_true,if_false];exact wpS_pure ⟨rfl,R',.inr (by lia)⟩
  ·rintro _ v ⟨rfl,Rv,sz⟩;exact⟨rfl,Rv,by lia⟩
  ·rintro _ v ⟨rfl,Rv,sz⟩;refine wpS_pure (h v Rv.pm Rv.fl ?_);have sd:=Rv.sd;have up:=Rv.up;have ps:(pendingOf v).toList.length=(pendingOf v).size:=by simp
   generalize (pendingOf v).toList=L at sd up ps
   match L,sd,up,ps with
   | [],sd,_,_ =>
    have:(0:Nat)=a0.size:=sd;lia
   | [q],sd,up,_ =>
    obtain⟨e1,_,e2⟩:=sd;have e2:0+q.2.1=a0.size:=e2;have u:=up q (by simp)
    intro i j h1 h2;have:=u i j h1 (by lia)
    rw[e1]at this;simpa using this
   | _::_::_,_,_,ps=>simp at ps;lia
end
theorem zot{prog:Program}{w:World}{A:Around}{E:qV}{s:Shared}{kd:SortKind}{rk:Value->Int}{a0:Array Keyed}{z:SortSt}{Q:Unit->SortSt->Prop}(c:Cmp prog w A s kd rk a0)(b:Sb kd a0 z)(s2:2<=a0.size)(_:a0.size<100000)
  (h:∀y,(arrOf y).Perm a0->failedOf y=none->Up rk (arrOf y) a0.size->Q () y):wpS (model prog w) A E s sortRuns' Q z:=zou c b s2 h
def midH(h:Heap)(a:Addr)(vs:List Value):Heap:=((h.update a (Obj.mapSeq fun _=>#[])).push (seqObj "tuple" vs.toArray 0)).push (seqObj "list" #[] 0)
section
variable{prog:Program}{w:World}{A:Around}{E:qV}{s:Shared}{rk:Value->Int}
def Kinds(prog:Program)(w:World)(A:Around)(s:Shared)(rk:Value->Int)(vs:List Value):Prop:=2<=vs.length->∃kd,(∀(E:qV) (Q:SortKind->Shared->Prop),Q kd s->wpAny (model prog w) A (keyKind' vs.toArray) Q E s)/\Cmp prog w A s kd rk (pairsOf vs)
theorem zoY{a:Addr}{vs:List Value}{n:Nat}{P:Fin->Shared->Prop}(ho:s.heap.get? a=some (seqObj "list" vs.toArray n)) (h64:vs.length<100000) (hk:Kinds prog w A { s with heap:=midH s.heap a vs } rk vs)
  (h:∀y:SortSt,(arrOf y).Perm (pairsOf vs)->Up rk (arrOf y) vs.length->P (.done (.ret .none)) { s with heap:=sortedHeap s.heap a vs ((arrOf y).map (·.2)) }) :
  wpAny (model prog w) A (Builtin.«list.sort» ⟨[.ref a],[]⟩) P E s:=by
 rw[list_sort_plain];have la:a<s.heap.objs.size:=Heap.lt_size ho;refine wpAny_bind (listItems_at ho rfl (wpAny_bind (listUpdate_at ho rfl ?_)));obtain⟨e1,o1⟩:∃e1,(s.heap.update a (Obj.mapSeq fun _=>#[])).get? a=some (seqObj "list" #[] e1):=⟨_,get?_update_seq ho (fun _=>#[])⟩
 refine wpAny_bind (seqEpoch_at o1 rfl (wpAny_bind (wpAny_newTuple (wpAny_bind (wpAny_newList (wpAny_holding ?_))))));have o2:(midH s.heap a vs).get? a=some (seqObj "list" #[] e1):=by
  unfold midH;rw[Heap.get?_push_ne _ _ _ (by rw[size_push',Heap.size_update];exact Nat.ne_of_lt (Nat.lt_of_lt_of_le la (Nat.le_succ _))),Heap.get?_push_ne _ _ _ (by rw[Heap.size_update];exact Nat.ne_of_lt la)]
  exact o1
 show wpAny (model prog w) A _ P E { s with heap:=midH s.heap a vs }
 have z:vs.toArray.size=vs.length:=by simp
 have tail:∀(y:SortSt),(arrOf y).Perm (pairsOf vs)->failedOf y=none->Up rk (arrOf y) vs.length->wpAny (model prog w) A (do
   let touched:=(<- seqEpoch a) != e1
   Builtin.List.listUpdate (.ref a) fun _=>(arrOf y).map (·.2)
   if let some e:=failedOf y then rule "list.sort.comparison-raised";throw e
   if touched then rule "list.sort.modified";raiseError "ValueError" "list modified during sort"
   ret .none) P E { s with heap:=midH s.heap a vs }:=fun y pm fl up=>by
  refine wpAny_bind (seqEpoch_at o2 rfl (wpAny_bind (listUpdate_at o2 rfl ?_ (hsz2:=?_))))
  ·rw[fl];simp only[bne_self_eq_false,Bool.false_eq_true,if_false];exact wpAny_pure (h y pm up)
  ·rw[Array.size_map,pm.size_eq,pairsOf_size];show vs.length<=sizeLine+1
   have:100000<=sizeLine:=by decide
   omega
 by_cases two:vs.length<2
 ·simp only[z,two,if_true];refine wpAny_bind (wpAny_pure ?_);rw[StateT.run_pure];refine wpAny_bind (wpAny_pure ?_);exact tail (SortSt.mk' general' (vs.toArray.zip vs.toArray) #[] 7 none) (Array.Perm.refl _) rfl fun i j h1 h2=>absurd h2 (by omega)
 ·simp only[z,two,if_false];obtain⟨kd,k1,k2⟩:=hk (by omega)
  refine wpAny_bind (k1 _ _ ?_);refine wpAny_bind (wpAny_mono (zot (Q:=fun _ y=>(arrOf y).Perm (pairsOf vs)/\failedOf y=none/\Up rk (arrOf y) vs.length) (z:=SortSt.mk' kd (vs.toArray.zip vs.toArray) #[] 7 none) k2 ⟨Array.Perm.refl _,rfl,rfl,rfl⟩ (by rw[pairsOf_size];omega) (by rw[pairsOf_size];exact h64)
   fun y p1 p2 p3=>⟨p1,p2,by rwa [pairsOf_size]at p3⟩) ?_ fun _ _ e=>e)
  rintro⟨⟨⟩,y⟩ s' ⟨rfl,p1,p2,p3⟩;exact tail y p1 p2 p3
theorem zjR{l:Addr}{vs:List Value}{o:Obj}{T:String}{n:Nat}{Q:List Value->Shared->Prop}(ho:s.heap.get? l=some o)(hc:o.cls=.type T)(hT:T = "list" \/ T = "tuple") (hd:o.data=.seq vs.toArray n) (hz:vs.length<=sizeLine)
  (h:Q vs { s with heap:=(s.heap.push (seqObj "list" #[] 0)).update s.heap.objs.size (Obj.mapSeq (·++vs.toArray)) }):wpAny (model prog w) A (collect (.ref l)) Q E s:=by
 unfold collect;refine wpAny_bind (wpAny_runValue (codeAny_builtin entry_proto_collect' ?_));show wpAny (model prog w) _ (newList [] >>= fun x=>again (.builtin "list.__iadd__" ⟨[x,.ref l],[]⟩)) _ _ s
 refine wpAny_bind (wpAny_newList (wpAny_pure ⟨Code.quiet_builtin _ (by decide +kernel),codeAny_builtin entry_list_iadd' ?_⟩))
 show wpAny (model prog w) _ (Builtin.List.listExtendWith (.ref s.heap.objs.size) (.ref l) (.ref s.heap.objs.size)) _ _ { s with heap:=s.heap.push (seqObj "list" #[] 0) }
 unfold Builtin.List.listExtendWith;have o1:(s.heap.push (seqObj "list" #[] 0)).get? l=some o:=Heap.get?_push_of_some _ ho;refine wpAny_bind (wpAny_typeOf (T:=T) ⟨o,o1,hc⟩ ?_);have cond:∀b:Bool,(b||Value.type T == Value.type "list" ||Value.type T == Value.type "tuple")=true:=by
  intro b;have c1:(Value.type "list" == Value.type "list")=true:=rfl;have c2:(Value.type "tuple" == Value.type "tuple")=true:=rfl;rcases hT with rfl|rfl
  ·rw[c1];simp
  ·rw[c2];simp
 rw[if_pos (cond _)];refine wpAny_bind (listItems_at o1 hd (wpAny_bind (listItems_at (xs:=#[]) (n:=0) (Heap.get?_push_size _ rfl) rfl ?_)));rw[if_neg (by simp)]
 refine wpAny_bind (listUpdate_at (xs:=#[]) (n:=0) (Heap.get?_push_size _ rfl) rfl (wpAny_pure ?_) (Nat.zero_le _) (by simp only[Array.size_append,List.size_toArray,List.length_nil];omega))
 refine wpAny_bind (m:=load s.heap.objs.size) (wpAny_load (get?_update_seq (Heap.get?_push_size _ rfl) _) ?_);show wpAny (model prog w) A (pure ((#[]:Array Value)++vs.toArray).toList) Q E _
 have e:((#[]:Array Value)++vs.toArray).toList=vs:=by simp
 rw[e];exact wpAny_pure h
def preH(h:Heap)(vs:List Value):Heap:=((h.push (seqObj "list" #[] 0)).update h.objs.size (Obj.mapSeq (·++vs.toArray))).push (seqObj "list" vs.toArray 0)
theorem zk2{l:Addr}{vs:List Value}{o:Obj}{T:String}{n:Nat}{Q:qV}(ho:s.heap.get? l=some o)(hc:o.cls=.type T)(hT:T = "list" \/ T = "tuple") (hd:o.data=.seq vs.toArray n) (h64:vs.length<100000)
  (hk:∀A',Kinds prog w A' { s with heap:=midH (preH s.heap vs) (s.heap.objs.size+1) vs } rk vs)
  (h:∀y:SortSt,(arrOf y).Perm (pairsOf vs)->Up rk (arrOf y) vs.length->Q (.ref (s.heap.objs.size+1)) { s with heap:=sortedAll s.heap vs ((arrOf y).map (·.2)) }) :
  wpAny (model prog w) A (call (.builtin "sorted") [.ref l]) Q E s:=by
 refine Calls.call_function_entry kind_sorted plain_sorted entry_sorted (args_sorted1 _) ?_;unfold Builtin.«sorted»;refine wpAny_bind (m:=checkCount "sorted" 1 1 _) (wpAny_pure ?_)
 refine wpAny_bind (zjR ho hc hT hd (by have:100000<=sizeLine:=by decide
                                        omega) (wpAny_bind (wpAny_newList ?_)))
 have z:((s.heap.push (seqObj "list" #[] 0)).update s.heap.objs.size (Obj.mapSeq (·++vs.toArray))).objs.size=s.heap.objs.size+1:=by rw[Heap.size_update,size_push']
 have o3:(preH s.heap vs).get? (s.heap.objs.size+1)=some (seqObj "list" vs.toArray 0):=by
  unfold preH;rw[<- z];exact Heap.get?_push_size _ rfl
 show wpAny (model prog w) _ _ _ _ { s with heap:=preH s.heap vs }
 rw[z];refine wpAny_bind (wpAny_holding (wpAny_call_entry slot_list_sort ⟨_,o3,rfl⟩ entry_list_sort (zoY o3 h64 (hk _) fun y p1 p2=>⟨_,rfl,?_⟩) (args_list_sort _)))
 exact wpAny_pure ⟨_,rfl,h y p1 p2⟩
end
section
variable{prog:Program}{w:World}{A:Around}{E:qV}{s:Shared}
theorem zm6(b:Bool)(x y:Value):keyLt' (tuples' b) x y=(do
  let xs <- Builtin.List.listItems x
  let ys <- Builtin.List.listItems y
  for ((p,q),i) in (xs.toList.zip ys.toList).zipIdx do
   if !(<- eqBool p q) then return <- oneLt' (b&&i == 0) p q
  return decide (xs.size<ys.size)):=rfl
def LtAt(prog:Program)(w:World)(A:Around)(s:Shared)(one:Bool)(p q:Value)(l:Bool):Prop:=∀(E:qV) (Q:Bool->Shared->Prop),Q l s->wpAny (model prog w) A (oneLt' one p q) Q E s
theorem zm5{b:Bool}{x y:Addr}{ox oy:Obj}{p0 p1 q0 q1:Value}{n m:Nat}{c0 c1 l0 l1:Bool}{Q:Bool->Shared->Prop}(hx:s.heap.get? x=some ox)(dx:ox.data=.seq #[p0,p1] n)(hy:s.heap.get? y=some oy)(dy:oy.data=.seq #[q0,q1] m)
  (e0:SeqAt.EqAt A s p0 q0 c0) (e1:SeqAt.EqAt A s p1 q1 c1) (t0:c0=false->LtAt prog w A s b p0 q0 l0) (t1:c1=false->LtAt prog w A s false p1 q1 l1) (h:Q (if c0=true then(if c1=true then false else l1) else l0) s) :
  wpAny (model prog w) A (keyLt' (tuples' b) (.ref x) (.ref y)) Q E s:=by
 rw[zm6];refine wpAny_bind (listItems_at hx dx (wpAny_bind (listItems_at hy dy ?_)));have ez:((#[p0,p1]:Array Value).toList.zip (#[q0,q1]:Array Value).toList).zipIdx=[((p0,q0),0),((p1,q1),1)]:=rfl;simp only[ez,List.forIn_cons,List.forIn_nil];refine wpAny_bind (wpAny_bind ?_);refine wpAny_bind (e0 prog w E _ ?_);cases c0 with
 | false =>
  simp only[Bool.not_false,if_true];have z0:(b&&(0:Nat) == 0)=b:=by simp
  rw[z0];refine wpAny_bind (t0 rfl E _ ?_);exact wpAny_pure (wpAny_pure (wpAny_pure (by simpa using h)))
 | true =>
  simp only[Bool.not_true,Bool.false_eq_true,if_false];refine wpAny_pure (wpAny_bind (wpAny_bind (e1 prog w E _ ?_)));cases c1 with
  | false =>
   simp only[Bool.not_false,if_true];have z1:(b&&(1:Nat) == 0)=false:=by simp
   rw[z1];refine wpAny_bind (t1 rfl E _ ?_);exact wpAny_pure (wpAny_pure (wpAny_pure (by simpa using h)))
  | true =>
   simp only[Bool.not_true,Bool.false_eq_true,if_false];exact wpAny_pure (wpAny_pure (wpAny_pure (by simpa using h)))
theorem zmZ(a b:Int)(t u:Tok):LtAt prog w A s true (.int a t) (.int b u) (decide (a<b)):=fun _ _ q=>oneLt_int q
theorem zoX(a b:Int)(t u:Tok):LtAt prog w A s false (.int a t) (.int b u) (decide (a<b)):=fun E Q q=>by
 rw[oneLt'_eq];simp only[Bool.false_eq_true,if_false];refine wpAny_bind (show wpAny (model prog w) A (compareOp .Lt (.int a t) (.int b u)) _ E s from lt_int ?_)
 exact wpAny_truthy_bool q
def PrIn(h:Heap)(u:Value)(b k:Int):Prop:=∃(a:Addr) (o:Obj) (t t':Tok) (n:Nat),u=.ref a/\h.get? a=some o/\o.cls=.type "tuple" /\ o.data=.seq #[.int b t,.int k t'] n
def two?:List Value->Int
 | [.int b _,.int k _]=>b*1000+k
 | _=>0
def rkC(h:Heap)(u:Value):Int:=match u with
 | .ref a=>match h.get? a with
  | some o=>match o.data with
   | .seq xs _=>two? xs.toList
   | _=>0
  | none=>0
 | _=>0
theorem PrIn.rk{h:Heap}{u:Value}{b k:Int}(p:PrIn h u b k):rkC h u=b*1000+k:=by
 obtain⟨a,o,t,t',n,rfl,e1,_,e2⟩:=p;simp only[rkC,e1,e2,two?]
theorem PrIn.kept{h h':Heap}{u:Value}{b k:Int}(p:PrIn h u b k)(kp:∀b o,h.get? b=some o->h'.get? b=some o):PrIn h' u b k:=by
 obtain⟨a,o,t,t',n,e0,e1,e2,e3⟩:=p;exact⟨a,o,t,t',n,e0,kp _ _ e1,e2,e3⟩
theorem zgT{α β:Type}{f:α->Sem β}{P:α->β->Prop}{M:Model}:∀(l:List α) {Q:List β->Shared->Prop},(∀v∈l,∀(Q':β->Shared->Prop),(∀r,P v r->Q' r s)->wpAny M A (f v) Q' E s)->(∀rs,Paired P l rs->Q rs s)->wpAny M A (l.mapM f) Q E s
 | [],_,_,h=>by rw[List.mapM_nil];exact wpAny_pure (h _ .nil)
 | x::l,Q,hf,h=>by
  rw[List.mapM_cons];exact wpAny_bind (hf x (.head _) _ fun r hr=>wpAny_bind (zgT l (fun v hv=>hf v (.tail _ hv)) fun rs hrs=>wpAny_pure (h _ (.cons hr hrs))))
theorem zpg(v:Value):firstOfTuple' v=(do
  if (<- typeOf v) != .type "tuple" then return none
  return (<- Builtin.List.listItems v)[0]?):=rfl
theorem zly{vs:List Value}{Q:SortKind->Shared->Prop}(h1:1<=vs.length)(hp:∀v∈vs,∃b k,PrIn s.heap v b k)(h:Q (tuples' true) s):wpAny (model prog w) A (keyKind' vs.toArray) Q E s:=by
 rw[keyKind'_eq,List.mapM_toArray,map_eq_pure_bind];refine wpAny_bind (wpAny_bind (zgT (P:=fun _ r=>∃(b:Int) (t:Tok),r=some (.int b t)) vs (fun v hv Q' hq=>?_) fun rs hrs=>wpAny_pure ?_))
 ·obtain⟨b,k,a,o,t,t',n,rfl,e1,e2,e3⟩:=hp v hv;rw[zpg];refine wpAny_bind (wpAny_typeOf (T:="tuple") ⟨o,e1,e2⟩ ?_);rw[if_neg (by decide)]
  exact wpAny_bind (listItems_at e1 e3 (wpAny_pure (hq _ ⟨b,t,rfl⟩)))
 ·have al:∀r∈rs,∃(b:Int) (t:Tok),r=some (.int b t):=by
   clear h hp h1;induction hrs with
   | nil=>intro r hr;cases hr
   | cons x y ih =>
    intro r hr;rcases List.mem_cons.mp hr with rfl|hr
    ·exact x
    ·exact ih r hr
  have ln:rs.length=vs.length:=by
   clear h hp h1 al;induction hrs with
   | nil=>rfl
   | cons x y ih=>simp[ih]
  have hall:(rs.toArray.all fun x=>x.isSome)=true:=by
   simp only[List.all_toArray,List.all_eq_true];intro x hx;obtain⟨b,t,rfl⟩:=al x hx
   rfl
  rw[if_pos hall];refine wpAny_bind (wpAny_rule ?_);rw[oneTypeOnly'_eq];have hfm:rs.toArray.filterMap id=(rs.filterMap id).toArray:=by simp
  rw[hfm,List.mapM_toArray,map_eq_pure_bind];refine wpAny_bind (wpAny_bind (wpAny_bind (zgT (P:=fun _ r=>r=Value.type "int") _ (fun v hv Q' hq=>?_) fun ts hts=>wpAny_pure ?_)))
  ·obtain⟨x,hx,e⟩:=List.mem_filterMap.mp hv;obtain⟨b,t,rfl⟩:=al x hx;cases e;exact wpAny_pure (hq _ rfl)
  ·have al2:∀r∈ts,r=Value.type "int":=by
    clear h hp h1;generalize rs.filterMap id=l at hts;induction hts with
    | nil=>intro r hr;cases hr
    | cons x y ih =>
     intro r hr;rcases List.mem_cons.mp hr with rfl|hr
     ·exact x
     ·exact ih r hr
   have ln2:ts.length=rs.length:=by
    have:ts.length=(rs.filterMap id).length:=by
     clear h hp h1 al2;generalize rs.filterMap id=l at hts;induction hts with
     | nil=>rfl
     | cons x y ih=>simp[ih]
    rw[this];clear this hts hfm hall;clear ln hrs;induction rs with
    | nil=>rfl
    | cons x l ih =>
     obtain⟨b,t,rfl⟩:=al x (.head _);simp only[List.filterMap_cons,id,List.length_cons];rw[ih fun r hr=>al r (.tail _ hr)]
   obtain⟨r1,rr,rfl⟩:∃r1 rr,ts=r1::rr:=by
    cases ts with
    | nil=>simp at ln2;omega
    | cons a b=>exact⟨a,b,rfl⟩
   have e1:r1=Value.type "int":=al2 r1 (.head _);subst e1;have hall2:(((Value.type "int")::rr).toArray.all fun x=>x == Value.type "int")=true:=by
    simp only[List.all_toArray,List.all_eq_true];intro x hx;rw[al2 x hx];rfl
   have h0:((Value.type "int")::rr).toArray[0]?=some (Value.type "int"):=by simp
   rw[h0];simp only[hall2,if_true];refine wpAny_pure (wpAny_pure ?_);exact h
theorem zjw{vs:List Value}{h0:Heap}(hp:∀v∈vs,∃b k,PrIn s.heap v b k/\rkC h0 v=b*1000+k/\0<=k/\k<1000):Kinds prog w A s (rkC h0) vs:=fun h2=>by
 refine⟨tuples' true,fun E Q q=>zly (by omega) (fun v hv=>?_) q,fun p q E Q mp mq h=>?_⟩
 ·obtain⟨b,k,h,_⟩:=hp v hv;exact⟨b,k,h⟩
 ·have mem:∀z∈(pairsOf vs).toList,z.1∈vs:=fun z hz=>by
   have:z∈vs.zip vs:=by simpa[pairsOf] using hz
   exact(List.of_mem_zip this).1
  obtain⟨b,k,⟨a,o,t,t',n,e0,e1,e2,e3⟩,r1,k0,k1⟩:=hp _ (mem p mp);obtain⟨b',k',⟨a',o',u,u',n',f0,f1,f2,f3⟩,r2,k0',k1'⟩:=hp _ (mem q mq);rw[r1,r2]at h;rw[e0,f0];refine zm5 e1 e3 f1 f3 (SeqAt.EqAt.int_int b t b' u) (SeqAt.EqAt.int_int k t' k' u') (fun _=>zmZ b b' t u) (fun _=>zoX k k' t' u') ?_
  have:(if (b == b')=true then(if (k == k')=true then false else decide (k<k')) else decide (b<b'))=decide (b*1000+k<b'*1000+k'):=by
   simp only[beq_iff_eq];split
   ·split
    ·symm;rw[decide_eq_false_iff_not];omega
    ·rw[decide_eq_decide];omega
   ·rw[decide_eq_decide];omega
  rw[this];exact h
end
theorem zgE{α β:Type}{l:List (α×β)}{m:List β}(h:m.Perm (l.map (·.2))):∃l':List (α×β),l'.Perm l/\l'.map (·.2)=m:=by
 induction m generalizing l with
 | nil =>
  have:l.map (·.2)=[]:=h.symm.eq_nil;cases l with
  | nil=>exact⟨[],.refl _,rfl⟩
  | cons a b=>simp at this
 | cons x m ih =>
  have hx:x∈l.map (·.2):=h.mem_iff.mp (.head _);obtain⟨z,hz,rfl⟩:=List.mem_map.mp hx;obtain⟨l1,l2,rfl⟩:=List.append_of_mem hz;have h2:(z.2::m).Perm (z.2::(l1++l2).map (·.2)):=by
   refine h.trans ?_;simp only[List.map_append,List.map_cons];exact List.perm_middle
  obtain⟨l',p,e⟩:=ih (List.perm_cons _|>.mp h2)
  exact⟨z::l',(p.cons z).trans List.perm_middle.symm,by simp[e]⟩
theorem zln{h:Heap}{vs:List Value}{b:Addr}{o:Obj}(hb:h.get? b=some o):(midH (preH h vs) (h.objs.size+1) vs).get? b=some o:=by
 have hlt:b<h.objs.size:=Heap.lt_size hb;unfold midH preH;rw[Heap.get?_push_ne _ _ _ (by rw[size_push',Heap.size_update,size_push',Heap.size_update,size_push'];exact Nat.ne_of_lt (Nat.lt_of_lt_of_le hlt (by lia))),Heap.get?_push_ne _ _ _ (by rw[Heap.size_update,size_push',Heap.size_update,size_push'];exact Nat.ne_of_lt (Nat.lt_of_lt_of_le hlt (by lia))),
  Heap.get?_update_ne _ _ _ _ (by exact Nat.ne_of_lt (Nat.lt_of_lt_of_le hlt (by lia))),Heap.get?_push_ne _ _ _ (by rw[Heap.size_update,size_push'];exact Nat.ne_of_lt (Nat.lt_of_lt_of_le hlt (by lia))),Heap.get?_update_ne _ _ _ _ (by exact Nat.ne_of_lt (Nat.lt_of_lt_of_le hlt (by lia))),Heap.get?_push_ne _ _ _ (by exact Nat.ne_of_lt (Nat.lt_of_lt_of_le hlt (by lia)))]
 exact hb
def rkD:PyData->Int
 | .tuple [.int b,.int k]=>b*1000+k
 | _=>0
def PrV(K:qF)(H:Hp)(z:V×PyData):Prop:=∃q b k,z.1=.ref q/\z.2=.tuple [.int b,.int k]/\SqT K H q [.int b,.int k]/\0<=k/\k<1000
section
variable{X:Cx}
theorem ziA:Qb X (.builtin "sorted") (fun xs H Q=>∃(p:Addr) (zs:List (V×PyData)),xs=[.ref p]/\(SqL X.K H p (zs.map (·.1))\/SqT X.K H p (zs.map (·.1)))/\zs.length<100000/\(∀z∈zs,PrV X.K H z) /\
  ∀zs':List (V×PyData),zs'.Perm zs->zs'.Pairwise (fun a b=>rkD a.2<=rkD b.2)->∀l,H l=none->Q (.ref l) (upd H l (.lst (zs'.map (·.1))))):=by
 intro pins s σ H xs us Q I r h;obtain⟨p,zs,rfl,hq,h64,hp,q⟩:=h;obtain⟨u,rfl,rx⟩:=vals1 r;cases rx;have key:∀(its:List Value) (o:Obj) (T:String) (n:Nat),Vals (zs.map (·.1)) its->s.heap.get? p=some o->o.cls=.type T->(T = "list" \/ T = "tuple")->o.data=.seq its.toArray n -> 
   wpAny (model X.prog X.w) X.A (call (.builtin "sorted") [.ref p]) (EP X pins σ Q) X.xe s:=fun its o T n rv ho hc hT hd=>by
  have hlen:zs.length=its.length:=by simpa using rv.length
  have each:∀x∈zs.zip its,RelV x.1.1 x.2/\∃b k,PrIn s.heap x.2 b k/\x.1.2=.tuple [.int b,.int k]/\0<=k/\k<1000:=by
   have rel:∀(zs:List (V×PyData)) (its:List Value),Vals (zs.map (·.1)) its->∀x∈zs.zip its,RelV x.1.1 x.2:=by
    intro zs;induction zs with
    | nil=>intro its _ x hx;simp at hx
    | cons z zs ih =>
     intro its r x hx;cases r with
     | cons r1 r2 =>
      rcases List.mem_cons.mp (by simpa using hx) with rfl|hx
      ·exact r1
      ·exact ih _ r2 x hx
   intro x hx;have r1:=rel zs its rv x hx;obtain⟨q',b,k,e1,e2,e3,k0,k1⟩:=hp x.1 (List.of_mem_zip hx).1;refine⟨r1,b,k,?_,e2,k0,k1⟩;rw[e1]at r1;obtain⟨is,rs,⟨o',f1,f2,n',f3⟩,_⟩:=I.tuple e3;cases rs with
   | cons a1 a2 =>
    cases a2 with
    | cons a3 a4 =>
     cases a4;obtain⟨t,rfl⟩:=a1;obtain⟨t',rfl⟩:=a3;exact⟨q',o',t,t',n',r1,f1,f2,f3⟩
  refine zk2 (rk:=rkC s.heap) ho hc hT hd (by lia) (fun A'=>zjw fun v hv=>?_) fun y pm up=>?_
  ·obtain⟨i,hi,rfl⟩:=List.getElem_of_mem hv;have hz:i<zs.length:=by lia
   have mem:(zs[i],its[i])∈zs.zip its:=by
    have:(zs.zip its)[i]'(by simp;lia)=(zs[i],its[i]):=by simp
    rw[<- this];exact List.getElem_mem _
   obtain⟨_,b,k,h1,_,k0,k1⟩:=each _ mem;exact⟨b,k,h1.kept fun _ _ e=>zln e,h1.rk,k0,k1⟩
  ·have pml:(arrOf y).toList.Perm (its.zip its):=by
    have:=Array.perm_iff_toList_perm.mp pm;simpa[pairsOf] using this
   have pm1:((arrOf y).toList.map (·.2)).Perm ((zs.zip its).map (·.2)):=by
    refine(pml.map _).trans ?_;rw[List.map_snd_zip (by lia),List.map_snd_zip (by lia)]
   obtain⟨ws,p1,p2⟩:=zgE pm1;have eachw:∀x∈ws,RelV x.1.1 x.2/\∃b k,PrIn s.heap x.2 b k/\x.1.2=.tuple [.int b,.int k]/\0<=k/\k<1000:=fun x hx=>each x (p1.mem_iff.mp hx)
   have pz:(ws.map (·.1)).Perm zs:=by
    have:=p1.map (·.1)
    rwa [List.map_fst_zip (by lia)]at this
   have rw':Vals ((ws.map (·.1)).map (·.1)) (ws.map (·.2)):=by
    have:∀ws:List ((V×PyData)×Value),(∀x∈ws,RelV x.1.1 x.2)->Vals ((ws.map (·.1)).map (·.1)) (ws.map (·.2)):=by
     intro ws;induction ws with
     | nil=>intro _;exact .nil
     | cons a l ih=>intro h;exact .cons (h a (.head _)) (ih fun x hx=>h x (.tail _ hx))
    exact this ws fun x hx=>(eachw x hx).1
   have rkeq:∀x∈ws,rkC s.heap x.2=rkD x.1.2:=fun x hx=>by
    obtain⟨_,b,k,h1,h2,_⟩:=eachw x hx;rw[h1.rk,h2];rfl
   have fst_snd:∀z∈(arrOf y).toList,z.1=z.2:=fun z hz=>by
    have:z∈its.zip its:=pml.mem_iff.mp hz;obtain⟨i,hi,rfl⟩:=List.getElem_of_mem this;simp
   have szy:(arrOf y).size=its.length:=by
    have:=pml.length_eq;simpa using this
   have pw:(ws.map (·.1)).Pairwise (fun a b=>rkD a.2<=rkD b.2):=by
    rw[List.pairwise_map,List.pairwise_iff_getElem];intro i j hi hj hij;have lw:ws.length=its.length:=by
     have:=congrArg List.length p2;simpa[szy] using this
    have gw:∀k (hk:k<ws.length),rkAt (rkC s.heap) (arrOf y) k=rkD ws[k].1.2:=fun k hk=>by
     have hk':k<(arrOf y).size:=by lia
     have e1:(arrOf y).toList[k]'(by simpa using hk')=(arrOf y)[k]:=by simp
     have e2:ws[k].2=(arrOf y)[k].2:=by
      have:(ws.map (·.2))[k]'(by simpa using hk)=((arrOf y).toList.map (·.2))[k]'(by simpa using hk'):=by simp only[p2]
      simpa using this
     have e3:(arrOf y)[k].1=(arrOf y)[k].2:=fst_snd _ (by rw[<- e1];exact List.getElem_mem _)
     unfold rkAt;rw[Array.getElem?_eq_getElem hk'];simp only[Option.map_some,Option.getD_some];rw[e3,<- e2];exact rkeq _ (List.getElem_mem _)
    have:=up i j hij (by lia)
    rwa [gw i hi,gw j hj]at this
   have ev:(arrOf y).map (·.2)=(ws.map (·.2)).toArray:=by
    apply Array.toList_inj.mp;rw[Array.toList_map,p2]
   rw[ev];obtain⟨e,he⟩:=sortedAll_at s.heap its (ws.map (·.2)).toArray;refine⟨.ref (s.heap.objs.size+1),_,I.laid (a:=s.heap.objs.size+1) (o:=.lst ((ws.map (·.1)).map (·.1))) (t':=s.toks) (fun _ _=>sortedAll_old) (Nat.le_succ _) ?_,rfl,q _ pz pw _ (I.hok.fresh (Nat.le_succ _))⟩
   refine⟨?_,ws.map (·.2),e,rw',he⟩;have:100000<=sizeLine:=by decide
   have:=pz.length_eq;simp at this ⊢;lia
 rcases hq with hq|hq
 ·obtain⟨its,r',pl,hz⟩:=I.list hq;obtain⟨o,ho,hc,n,hd⟩:=pl.isList;exact key its o "list" n r' ho hc (.inl rfl) hd
 ·obtain⟨its,r',pl,hz⟩:=I.tuple hq;obtain⟨o,ho,hc,n,hd⟩:=pl;exact key its o "tuple" n r' ho hc (.inr rfl) hd
end
def IsPr(t:PyData):Prop:=∃b k:Int,t=.tuple [.int b,.int k]/\0<=k/\k<1000
def ZJ(t:PyData)(R:List PyData->Prop):Prop:=Qi t fun ts=>ts.length<100000/\(∀x∈ts,IsPr x)/\∀ts':List PyData,ts'.Perm ts->ts'.Pairwise (fun a b=>rkD a<=rkD b)->R ts'
def zq_(d:DTE):DTA:=fun ρ n R=>d ρ n fun t n1=>ZJ t fun ts=>R ts n1
section
variable{X:Cx}{e:Expr}{d:DTE}{pos p:Pos}{k:Nat}
theorem zfD(hr:Room k X.A)(hm:X.mg "sorted" = none) (h:DL X e d) (hs:starEach [e] X.env=[(false,eval e X.env)]) (hg:Gl X "sorted":=by rfl):DN X (.Call (.Name "sorted" p) [e] [] pos) (zq_ d):=by
 obtain⟨ta,pa,h⟩:=h;refine⟨_,Vm ziA hm boot_sorted (QW pa UC hs) hg,fun C ρ σ H n Q R S hd hq=>?_⟩
 refine h C ρ σ H n _ _ S hd fun t n1 v H1 r1 e1 h1 q1=>?_
 have S1:=S.on e1 h1;have fin:∀p vs ts,Reps X.K C.hd (Own C ρ σ) H1 vs ts->R ts n1->H1 p=none->Q (.ref p) (upd H1 p (.lst vs)):=fun p vs ts rp rr hp=>by
  have hp0:H p=none:=by
   cases z:H p with
   | none=>rfl
   | some o =>
    by_cases y:C.hd=some p
    ·obtain⟨d,m,t,q,_⟩:=h1 p y;rw[hp]at q;cases q
    ·rw[e1 p o z y]at hp;cases hp
  refine hq ts n1 p vs _ rr (e1.trans (ExtE.new hp)) (h1.same (Qr hp)) hp0 Qe ?_;refine rp.mono (fun b o hb z=>z.elim id fun z=>?_) fun b o _ hb=>Qr hp b o hb
  subst z;rw[hp]at hb;cases hb
 have go:∀(p:Addr) vs ts,(SqL X.K H1 p vs\/SqT X.K H1 p vs)->Reps X.K C.hd (Own C ρ σ) H1 vs ts->(ts.length<100000/\(∀x∈ts,IsPr x)/\∀ts':List PyData,ts'.Perm ts->ts'.Pairwise (fun a b=>rkD a<=rkD b)->R ts' n1) ->
   ∃(p':Addr) (zs:List (V×PyData)),[V.ref p]=[V.ref p']/\(SqL X.K H1 p' (zs.map (·.1))\/SqT X.K H1 p' (zs.map (·.1)))/\zs.length<100000/\(∀z∈zs,PrV X.K H1 z) /\
  ∀zs':List (V×PyData),zs'.Perm zs->zs'.Pairwise (fun a b=>rkD a.2<=rkD b.2)->∀l,H1 l=none->Q (.ref l) (upd H1 l (.lst (zs'.map (·.1)))):=fun p vs ts hs rp h=>by
  have ln:=rp.length;have rel:∀z∈vs.zip ts,Rep X.K C.hd (Own C ρ σ) H1 z.1 z.2:=fun z hz=>by
   obtain⟨i,hi,rfl⟩:=List.getElem_of_mem hz;have hi2:i<ts.length:=by simp at hi;lia
   obtain⟨v,h1,h2⟩:=rp.get (List.getElem?_eq_getElem hi2);have hi1:i<vs.length:=by lia
   rw[List.getElem?_eq_getElem hi1]at h1;cases h1;simpa using h2
  refine⟨p,vs.zip ts,rfl,?_,by simp;lia,fun z hz=>?_,fun zs' pm pw l hl=>?_⟩
  ·rw[List.map_fst_zip (by lia)];exact hs
  ·obtain⟨b,k,e,k0,k1⟩:=h.2.1 z.2 (List.of_mem_zip hz).2;have r:=rel z hz;rw[e]at r;obtain⟨a,ws,e1,e2,e3⟩:=r.tupI;cases e3 with
   | cons x1 x2 =>
    cases x2 with
    | cons x3 x4 =>
     cases x4;rw[x1.intI,x3.intI]at e2;exact⟨a,b,k,e1,e,e2,k0,k1⟩
  ·refine fin l _ (zs'.map (·.2)) ?_ (h.2.2 _ ?_ ?_) hl
   ·have:∀zs:List (V×PyData),(∀z∈zs,Rep X.K C.hd (Own C ρ σ) H1 z.1 z.2)->Reps X.K C.hd (Own C ρ σ) H1 (zs.map (·.1)) (zs.map (·.2)):=by
     intro zs;induction zs with
     | nil=>intro _;exact .nil
     | cons a l ih=>intro h;exact .cons (h a (.head _)) (ih fun x hx=>h x (.tail _ hx))
    exact this zs' fun z hz=>rel z (pm.mem_iff.mp hz)
   ·have:=pm.map (·.2)
    rwa [List.map_snd_zip (by lia)]at this
   ·rw[List.pairwise_map];exact pw
 cases t with
 | list ts =>
  obtain⟨p,vs,rfl,h1',h2⟩:=q1.lstI;exact go p vs ts (.inl (.of h1')) h2 r1
 | tuple ts =>
  obtain⟨p,vs,rfl,h1',h2⟩:=q1.tupI;exact go p vs ts (.inr h1') h2 r1
 | _=>exact r1.elim
end
abbrev prD(b:Int×Int):PyData:=.tuple [.int b.1,.int b.2]
def pD(bs:qB):List PyData:=bs.map prD
theorem Jz{bs:qB}:(pD bs).length=bs.length:=by simp[pD]
theorem Y6{bs cs:qB}:pD bs++pD cs=pD (bs++cs):=by simp[pD]
theorem Y7{i h:Int}{bs:qB}:pD bs++[.tuple [.int i,.int h]]=pD (bs++[(i,h)]):=by simp[pD]
theorem ZQ{bs:qB}{k:Nat}{t:PyData}(h:(pD bs)[k]?=some t):∃i g:Int,bs[k]?=some (i,g)/\t=.tuple [.int i,.int g]:=by
 unfold pD at h;rw[List.getElem?_map]at h;cases e:bs[k]? with
 | none=>rw[e]at h;cases h
 | some b=>rw[e]at h;cases h;exact⟨b.1,b.2,rfl,rfl⟩
def eB(b:Int×Int):Int:=b.1+2 ^ b.2.toNat
def Bks(bits:Int)(bs:qB):Prop:=∀b∈bs,IsBk bits b.1 b.2
def Ptc(bits:Int)(bs:qB):Prop:=Bks bits bs/\bs.Pairwise fun a b=>eB a<=b.1
theorem Qu(b:Int×Int):b.1<eB b:=by have:=Bd.Qj b.2.toNat;unfold eB;lia
theorem Ptc.ends{bits:Int}{bs:qB}(P:Ptc bits bs):bs.Pairwise fun a b=>eB a<=eB b:=P.2.imp fun {a b} h=>by have:=Qu b;lia
theorem zpB{bs:qB}:Okd (.list (pD bs)):=by
 have:∀bs:List (Int×Int),PyData.canLayAll0 (pD bs)=true/\PyData.depthAll (pD bs)<=1:=by
  intro bs;induction bs with
  | nil=>exact⟨by simp[pD,PyData.canLayAll0],by simp[pD,PyData.depthAll]⟩
  | cons b l ih =>
   refine⟨?_,?_⟩
   ·have:=ih.1;simp only[pD,List.map_cons,PyData.canLayAll0,PyData.canLay0,Bool.and_true,Bool.true_and]at this ⊢;exact this
   ·have:=ih.2;simp only[pD,List.map_cons,PyData.depthAll,PyData.depth]at this ⊢;lia
 exact⟨by simp only[PyData.canLay0];exact(this bs).1,by simp only[PyData.depth];have:=(this bs).2;lia⟩
theorem zmF:Okd (.list []):=⟨by simp[PyData.canLay0,PyData.canLayAll0],by simp[PyData.depth,PyData.depthAll]⟩
theorem zqS{d:DTE}{ρ:En}{n:Nat}{Rl:List PyData->Nat->Prop}(h:d ρ n fun t n1=>ZJ t fun ts=>Rl ts n1):zq_ d ρ n Rl:=h
theorem zsR{bits:Int}{bs:qB}{Rl:List PyData->Prop}(hb:bits<=64)(B:Bks bits bs)(dis:bs.Pairwise fun a b=>eB a<=b.1\/eB b<=a.1)(h64:bs.length<100000)
  (h:∀cs,Ptc bits cs->cs.Perm bs->Rl (pD cs)):ZJ (.list (pD bs)) Rl:=by
 refine⟨by rw[Jz];exact h64,fun x hx=>?_,fun ts' pm pw=>?_⟩
 ·obtain⟨b,hb',rfl⟩:=List.mem_map.mp hx;have:=B b hb';exact⟨b.1,b.2,rfl,this.1,by have:=this.2.1;lia⟩
 ·have pm':ts'.Perm ((bs.map fun b=>(b,prD b)).map (·.2)):=by
   have:(bs.map fun b=>(b,prD b)).map (·.2)=pD bs:=by simp[pD]
   rw[this];exact pm
  obtain⟨zs,p1,p2⟩:=zgE pm';have ez:∀z∈zs,z.2=prD z.1:=fun z hz=>by
   obtain⟨b,_,rfl⟩:=List.mem_map.mp (p1.mem_iff.mp hz)
   rfl
  have e:ts'=pD (zs.map (·.1)):=by
   rw[<- p2];unfold pD;rw[List.map_map];exact List.map_congr_left fun z hz=>ez z hz
  have pc:(zs.map (·.1)).Perm bs:=by
   have:=p1.map (·.1);rw[List.map_map]at this;have e2:bs.map ((fun x:(Int×Int)×PyData=>x.1)∘fun b=>(b,prD b))=bs:=by
    show bs.map id=bs
    exact List.map_id _
   rwa [e2]at this
  rw[e];have dis':(zs.map (·.1)).Pairwise fun a b=>eB a<=b.1\/eB b<=a.1:=(pc.pairwise_iff (fun {a b} h=>h.symm)).mpr dis
  have B':Bks bits (zs.map (·.1)):=fun b hb=>B b (pc.mem_iff.mp hb)
  rw[e]at pw;unfold pD at pw;rw[List.pairwise_map]at pw;refine h _ ⟨B',?_⟩ pc;have both:=List.Pairwise.and dis' pw;refine List.Pairwise.imp_of_mem ?_ both;rintro a b ha hb ⟨h1,h2⟩;have h2:a.1*1000+a.2<=b.1*1000+b.2:=h2;have a0:=(B' a ha).1;have a1:=(B' a ha).2.1;have b0:=(B' b hb).1;have b1:=(B' b hb).2.1;have:=Qu a;have:=Qu b;lia
theorem ztX{tg:DTG}{tt:DTT}{d:DTE}{ρ0:En}{Rl:List PyData->Nat->Prop}(Inv:Nat->List PyData->Nat->Prop):∀(xs:qD) (i:Nat) {acc:qD}{n:Nat},Inv i acc n ->
  (∀(k:Nat) (x:PyData) (acc:qD) (n:Nat) (K:List PyData->Nat->Prop),xs[k]?=some x->Inv (i+k) acc n->(∀acc' n',Inv (i+k+1) acc' n'->K acc' n') ->
   tg x ρ0 fun ρ1=>tt ρ1 n fun b n2=>if b=true then d ρ1 n2 fun t n3=>acc.length<16777216/\K (acc++[t]) n3 else K acc n2) ->
  (∀acc n,Inv (i+xs.length) acc n->Rl acc n)->JO tg tt d ρ0 xs acc n Rl
 | [],i,acc,n,h0,_,fin=>fin acc n (by simpa using h0)
 | x::xs,i,acc,n,h0,turn,fin=>by
  refine turn 0 x acc n (fun acc n=>JO tg tt d ρ0 xs acc n Rl) rfl (by simpa using h0) fun acc' n' h'=>?_
  refine ztX Inv xs (i+1) (by simpa using h') (fun k u acc n K e hI hK=>?_) (fun acc n h=>fin acc n ?_)
  ·refine turn (k+1) u acc n K (by simpa using e) ?_ fun acc' n' h'=>hK acc' n' ?_
   ·have:i+(k+1)=i+1+k:=by lia
    rw[this];exact hI
   ·have:i+1+k+1=i+(k+1)+1:=by lia
    rw[this];exact h'
  ·have:i+(x::xs).length=i+1+xs.length:=by simp;lia
   rw[this]at *;exact h
theorem ZK{tg:DTG}{tt:DTT}{d:DTE}{ρ0:En}{Rl:List PyData->Nat->Prop}{xs:qD}{n:Nat}(Inv:Nat->List PyData->Nat->Prop)(h0:Inv 0 [] n)
  (turn:∀(k:Nat) (x:PyData) (acc:qD) (n:Nat) (K:List PyData->Nat->Prop),xs[k]?=some x->Inv k acc n->(∀acc' n',Inv (k+1) acc' n'->K acc' n') ->
   tg x ρ0 fun ρ1=>tt ρ1 n fun b n2=>if b=true then d ρ1 n2 fun t n3=>acc.length<16777216/\K (acc++[t]) n3 else K acc n2)
  (fin:∀acc n,Inv xs.length acc n->Rl acc n):JO tg tt d ρ0 xs [] n Rl :=
 ztX Inv xs 0 h0 (fun k x acc n K e hI hK=>turn k x acc n K e (by simpa using hI) fun a m h=>hK a m (by simpa using h)) fun acc n h=>fin acc n (by simpa using h)
theorem Qs{α:Type}{cs:List α}{D:α->PyData}{tg:DTG}{tt:DTT}{d:DTE}{ρ0:En}{n:Nat}{Rl:List PyData->Nat->Prop}(F:α->PyData)(hl:cs.length<=16777216)
  (step:∀b∈cs,∀(K:qN) (X:Nat->Prop),K (F b) n->tg (D b) ρ0 fun ρ1=>tt ρ1 n fun c n2=>if c=true then d ρ1 n2 K else X n2) (fin:Rl (cs.map F) n):JO tg tt d ρ0 (cs.map D) [] n Rl:=by
 refine ZK (fun j acc m=>m=n/\acc=(cs.take j).map F) ⟨rfl,rfl⟩ ?_ ?_
 ·rintro j x acc m K ej ⟨rfl,rfl⟩ hK;rw[List.getElem?_map]at ej;cases eb:cs[j]? with
  | none=>rw[eb]at ej;cases ej
  | some b =>
   rw[eb]at ej;cases ej;obtain⟨hj,e2⟩:=List.getElem?_eq_some_iff.mp eb;refine step b (List.mem_of_getElem? eb) _ _ ⟨?_,hK _ _ ⟨rfl,?_⟩⟩
   ·simp;lia
   ·rw[List.take_succ,eb];simp
 ·rintro acc m ⟨rfl,rfl⟩;rw[List.length_map,List.take_length];exact fin
theorem zwc{bs:List Bool}{R:PyData->Prop}(h:R (.bool (bs.all id))):bAll [.list (bs.map PyData.bool)] R:=⟨bs,rfl,h⟩
theorem Um{α:Type}{cs:List α}{f:α->Bool}{R:PyData->Prop}(h:R (.bool (cs.all f))):bAll [.list (cs.map fun b=>PyData.bool (f b))] R:=by
 have e:(cs.map fun b=>PyData.bool (f b))=(cs.map f).map PyData.bool:=by simp
 rw[e];refine zwc ?_;have e2:(cs.map f).all id=cs.all f:=by simp[List.all_map,Function.comp_def]
 rw[e2];exact h
theorem zvQ{xs:qD}{k:Nat}{x:PyData}{R:PyData->Prop}(e:xs[k]?=some x)(h:R x):oIx (.tuple xs) (.int (k:Int)) R:=by
 have hk:k<xs.length:=by
  rcases Nat.lt_or_ge k xs.length with z|z
  ·exact z
  ·rw[List.getElem?_eq_none z]at e;cases e
 rw[Vn (x:=x)]
 ·exact h
 ·unfold atI ixN;have:((0:Int)<=(k:Int)):=by lia
  have:((k:Int)<(xs.length:Int)):=by lia
  have e2:xs[k]=x:=by rw[List.getElem?_eq_getElem hk]at e;exact Option.some.inj e
  simp[hk,e2]
theorem ZH{xs:qD}{i:Int}{k:Nat}{x:PyData}{R:PyData->Prop}(hi:i=(k:Int))(e:xs[k]?=some x)(h:R x):oIx (.tuple xs) (.int i) R:=by subst hi;exact zvQ e h
theorem ZG{bs:qB}{k:Nat}{b:Int×Int}(h:bs[k]?=some b):(pD bs)[k]?=some (.tuple [.int b.1,.int b.2]):=by
 unfold pD;rw[List.getElem?_map,h];rfl
theorem zq7{bs:qB}:PyData.eqv (.list (pD bs)) (.list [])=bs.isEmpty:=by
 cases bs with
 | nil=>simp[pD,PyData.eqv,PyData.eqvAll]
 | cons b l=>simp[pD,PyData.eqv,PyData.eqvAll]
theorem Y1{many:Int}{n:Nat}{R:qN}(h0:0<many)(h1:many<2 ^ 128)(hn:n<=1000000000000)(h:∀r:Int,0<=r->r<many->R (.int r) (n+1)):UB [HAND,.int many] n R:=⟨rfl,h0,h1,hn,h⟩
theorem zll{i h:Int}:Qa (.tuple [.int i,.int h])=true:=by simp[Qa,ZP]
theorem Bks.app{bits i h:Int}{bs:qB}(B:Bks bits bs)(C:IsBk bits i h):Bks bits (bs++[(i,h)]):=fun b hb=>by
 rcases List.mem_append.mp hb with z|z
 ·exact B b z
 ·cases List.mem_singleton.mp z;exact C
section
variable{prog:Program}{w:World}{A:Around}{E:qV}{s:Shared}
open HT in
theorem zdu{t sl:Addr}{items:Array Value}{vl vu:Value}{lo hi:Option Int}{Q:qV}(ht:IsTup s.heap t items)(hs:s.heap.IsSliceOf sl vl vu .none)(pl:IsPart vl lo)(pu:IsPart vu hi)
  (hw:HT.sIx items.size 0 lo=0/\HT.sIx items.size items.size hi=items.size) (h:Q (.ref t) s):wpAny (model prog w) A (getItem (.ref t) (.ref sl)) Q E s:=by
 obtain⟨os,hos,hcs,hds⟩:=id hs;have hTs:s.TypeIs (.ref sl) "slice":=⟨os,hos,hcs⟩;unfold getItem
 try with_reducible refine wpAny_holding ?_
 first|refine wpAny_bind (wpAny_pure ?_)|skip
 refine wpAny_bind (wpAny_sequenceKey ht.typeIs (by decide) ?_)
 refine wpAny_bind (wpAny_callSpecial?_slot (name:=Str.ofString "__getitem__") ht.typeIs PyProof.Rows.slot_tuple_getitem
  (wpAny_call_entry PyProof.Rows.slot_tuple_getitem ht.typeIs entry_tuple_getitem ?_ (args_tuple_getitem _ _)))
 show wpAny _ _ (Builtin.Tuple.tupleItemsOf (.ref t) >>= _) _ _ s
 refine wpAny_bind (tupleItemsOf_ ht ?_);refine wpAny_bind (wpAny_typeOf hTs ?_);rw[if_pos (by decide)]
 refine wpAny_bind (HT.zcF hs pl pu ?_);have hyes:(((HT.sIx items.size 0 lo:Nat):Int) == 0&&(1:Int) == 1&&(HT.sIx items.size items.size hi - HT.sIx items.size 0 lo) == items.size)=true:=by
  rw[hw.1,hw.2];simp
 show wpAny _ _ (if (((HT.sIx items.size 0 lo:Nat):Int) == 0&&(1:Int) == 1&&(HT.sIx items.size items.size hi - HT.sIx items.size 0 lo) == items.size)=true then _ else _) _ _ s
 rw[if_pos hyes];unfold Builtin.Tuple.tupleIsExact;refine wpAny_bind (wpAny_bind (wpAny_typeOf ht.typeIs (wpAny_pure ?_)));rw[if_pos (by decide)]
 exact wpAny_bind (wpAny_rule (wpAny_pure ⟨_,rfl,wpAny_pure h⟩))
end
section
variable{X:Cx}
def rSlW(K:qF):V->Option Int->Option Int->Hp->VK->Prop:=fun x lo hi H Q=>∃a xs,x=.ref a/\SqT K H a xs/\(HT.sIx xs.length 0 lo=0/\HT.sIx xs.length xs.length hi=xs.length)/\Q (.ref a) H
theorem zpY:SlR X (rSlW X.K):=by
 intro pins s σ H x v vl vu lo hi sl Q I rx hs pl pu h;obtain⟨a,xs,rfl,hx,hw,q⟩:=h;cases rx;obtain⟨its,r,ht,hz⟩:=I.tuple hx;have hlen:its.toArray.size=xs.length:=by rw[List.size_toArray];exact r.length.symm
 refine⟨"tuple",_,PyProof.Rows.slot_tuple_getitem.lookup,ht.typeIs,?_⟩;exact zdu ht hs pl pu (by rw[hlen];exact hw) ⟨.ref a,H,I,rfl,q⟩
end
abbrev DTO:=En->Nat->(Option Int->Nat->Prop)->Prop
def DP(X:Cx)(e:Option Expr)(d:DTO):Prop:=∃t,PO X e t/\∀(C:Ctx) (ρ:En) (σ:St) (H:Hp) (n:Nat) (Q:Option Int->Hp->Prop) (R:Option Int->Nat->Prop),Stt X.K C ρ σ H n->d ρ n R ->
 (∀o n' H',R o n'->ExtE C.hd H H'->Hn C.hd H' n'->Q o H')->t σ H Q
def zjO:DTO:=fun ρ n R=>R none n
def zra(d:DTE):DTO:=fun ρ n R=>d ρ n fun t n'=>lInt t fun i=>R (some i) n'
def cutD(ts:qD)(lo hi:Option Int):List PyData:=(ts.drop (HT.sIx ts.length 0 lo)).take (HT.sIx ts.length ts.length hi - HT.sIx ts.length 0 lo)
def lSl(t:PyData)(lo hi:Option Int)(R:List PyData->Prop):Prop:=match t with
 | .list ts=>R (cutD ts lo hi)
 | _=>False
def dSlL(d:DTE)(dl du:DTO):DTA:=fun ρ n R=>d ρ n fun t n1=>dl ρ n1 fun lo n2=>du ρ n2 fun hi n3=>lSl t lo hi fun z=>R z n3
section
variable{X:Cx}{e:Expr}{d:DTE}{lo hi:Option Expr}{dlo dhi:DTO}{pos p2:Pos}
theorem UG:DP X none zjO:=⟨_,zqc,fun C ρ σ H n Q R S h hq=>hq none n H h ExtE.refl S.hnd⟩
theorem UH(h:DE X e d):DP X (some e) (zra d):=by
 obtain⟨ta,pa,h⟩:=h;refine⟨_,zqb pa,fun C ρ σ H n Q R S hd hq=>?_⟩
 refine h C ρ σ H n _ _ S hd fun t n1 v H1 r1 e1 h1 q1=>?_
 cases t with
 | int i =>
  cases q1;exact⟨i,rfl,hq (some i) n1 H1 r1 e1 h1⟩
 | _=>exact r1.elim
theorem zkO{K:qF}{hd:Option Addr}{O:Addr->Prop}{H:Hp}{vs ts}(r:Reps K hd O H vs ts)(lo hi:Option Int):Reps K hd O H (cutV vs lo hi) (cutD ts lo hi):=by
 unfold cutV cutD;rw[r.length];exact(r.drop _).take _
theorem zlI{ts:qD}{lo hi:Option Int}(h:HT.sIx ts.length 0 lo=0/\HT.sIx ts.length ts.length hi=ts.length):cutD ts lo hi=ts:=by
 unfold cutD;rw[h.1,h.2];simp
theorem zkK(h:DL X e d)(hl:DP X lo dlo)(hu:DP X hi dhi):DN X (.Subscript e (.Slice lo hi none p2) pos) (dSlL d dlo dhi):=by
 obtain⟨ta,pa,h⟩:=h;obtain⟨tl,pl,hl⟩:=hl;obtain⟨tu,pu,hu⟩:=hu;refine⟨_,zkd zpZ pa pl pu,fun C ρ σ H n Q R S hd hq=>?_⟩
 refine h C ρ σ H n _ _ S hd fun t n1 v H1 r1 e1 h1 q1=>?_
 have S1:=S.on e1 h1;refine hl C ρ σ H1 n1 _ _ S1 r1 fun lo n2 H2 r2 e2 h2=>?_
 have S2:=S1.on e2 h2;refine hu C ρ σ H2 n2 _ _ S2 r2 fun hi n3 H3 r3 e3 h3=>?_
 have S3:=S2.on e3 h3;have q3:=(e2.trans e3).repT S.hx q1;cases t with
 | list ts =>
  obtain⟨a,vs,rfl,hs,rs⟩:=q3.lstI;refine⟨a,vs,rfl,.of hs,fun p hp=>?_⟩
  have e:=e1.trans (e2.trans e3);refine hq _ n3 p _ _ r3 (e.trans (ExtE.new hp)) (h3.same (Qr hp)) (VV e h3 hp) Qe ?_;refine(zkO rs lo hi).mono (fun b o hb z=>z.elim id fun z=>?_) fun b o _ hb=>Qr hp b o hb
  subst z;rw[hp]at hb;cases hb
 | _=>exact r3.elim
end
section
variable{X:Cx}
theorem znI(hc:X.calm=true):Qb X (.builtin "sum") (fun xs H Q=>∃(a:Addr) (ns:List Int),xs=[.ref a]/\SqL X.K H a (ns.map V.int)/\Q (.int ns.sum) H):=by
 intro pins s σ H xs us Q I r h;obtain⟨a,ns,rfl,hq,q⟩:=h;obtain⟨u,rfl,rx⟩:=vals1 r;cases rx;obtain⟨its,rv,p,hz⟩:=I.list hq;have hi:=intsAre_of rv;have hl:s.heap.IsList a its.toArray:=p.isList;obtain⟨xs,hx⟩:=hi.allInts.items;have hn:numsOf its.toArray.toList=ns:=by rw[show its.toArray.toList=its from rfl,hi.numsOf]
 rw[hx]at hl hn;rw[nums_intItems]at hn;refine sum_intListG (I.ok.hd hc) hl fun h' tk t' hk=>?_
 rw[preSum_eq,List.take_of_length_le (by simp),hn]
 exact⟨.int ns.sum,H,I.kept hk,⟨_,rfl⟩,q⟩
def bSum:GC
 | [.list ts],R=>∃ns:List Int,ts=ns.map PyData.int/\R (.int ns.sum)
 | _,_=>False
theorem ztD:GpC X (fun xs H Q=>∃(a:Addr) (ns:List Int),xs=[.ref a]/\SqL X.K H a (ns.map V.int)/\Q (.int ns.sum) H) bSum:=by
 intro hd O H xs ts Q R dom rs h hq;unfold bSum at h;split at h
 ·obtain⟨ns,rfl,h⟩:=h;obtain⟨v,rfl,r1⟩:=QS rs;obtain⟨p,vs,rfl,h1,h2⟩:=r1.lstI;rw[Wc h2]at h1;exact⟨p,ns,rfl,.of h1,hq _ _ H h (Same.refl H) (.int _)⟩
 ·exact h.elim
end
structure NxS(prog:Program)(w:World)(i a:Addr)(IT:Nat->Heap->Prop)(SQ:Heap->Array Value->Prop):Prop where
 rcd:∀k h,IT k h->∃o,h.get? i=some o/\∀v,o.data≠.cell v
 keep:∀k h h',IT k h->(∀o,h.get? i=some o->h'.get? i=some o)->IT k h'
 sk:∀h h' xs,SQ h xs->(∀o,h.get? a=some o->h'.get? a=some o)->SQ h' xs
 item:∀(A:Around) (E:qV) (k:Nat) (xs:Array Value) (x:Value) (s:Shared) (Q:qV),IT k s.heap->SQ s.heap xs->xs[k]?=some x ->
  (∀h',IT (k+1) h'->Heap.SameBut i s.heap h'->Q x { s with heap:=h' })->wpAny (model prog w) A (Builtin.SmallTypes.nextOf (.ref i)) Q E s
 done:∀(A:Around) (E:qV) (k:Nat) (xs:Array Value) (s:Shared) (Q:qV),A.handled=none->IT k s.heap->SQ s.heap xs->xs[k]?=none ->
  (∀h' e,Heap.ExtBut i s.heap h'->(∃o,h'.get? e=some o/\o.cls=.type "StopIteration")->E (.ref e) { s with heap:=h' })->wpAny (model prog w) A (Builtin.SmallTypes.nextOf (.ref i)) Q E s
theorem zqA{prog:Program}{w:World}{i a:Addr}:NxS prog w i a (fun k h=>h.IsListIter i a k) (fun h xs=>h.IsList a xs) where
 rcd:=fun k h ⟨o,e,c,d⟩=>⟨o,e,fun v z=>by rw[d]at z;cases z⟩
 keep:=fun k h h' x f=>x.at f
 sk:=fun h h' xs x f=>x.at f
 item:=fun A E k xs x s Q h1 h2 h3 h=>wpAny_nextOf_list_item h1 h2 h3 h
 done:=fun A E k xs s Q hh h1 h2 h3 h=>wpAny_nextOf_list_end hh h1 h2 h3 h
section
variable{prog:Program}{w:World}{A:Around}{E:qV}{s:Shared}
theorem zh0{i:Addr}{T id:String}{Q:qV}{f:Builtin}(hT:s.TypeIs (.ref i) T)(sl:Slot T "__next__" id) (en:entryFor table id=some f) (ao:argsOk id ⟨[.ref i],[]⟩)
  (h:wpAny (model prog w) A.in1 (f ⟨[.ref i],[]⟩) (fun fin s'=>∃v,fin=.done (.ret v)/\Q v s') E s):wpAny (model prog w) A (Builtin.SmallTypes.nextOf (.ref i)) Q E s:=by
 unfold Builtin.SmallTypes.nextOf;refine wpAny_bind (wpAny_callSpecial?_slot (name:=Str.ofString "__next__") hT sl (wpAny_call_entry sl hT en ?_ ao));refine wpAny_mono h (fun fin s' hq=>?_) fun _ _ e=>e
 obtain⟨v,e,q⟩:=hq;exact⟨v,e,wpAny_pure q⟩
theorem zhm{i a:Addr}{k:Nat}{xs:Array Value}{x:Value}{Q:qV}(h1:s.heap.IsTupleIter i a k)(h2:s.heap.IsTuple a xs)(h3:xs[k]?=some x)
  (h:∀h',h'.IsTupleIter i a (k+1)->Heap.SameBut i s.heap h'->Q x { s with heap:=h' }):wpAny (model prog w) A (Builtin.SmallTypes.nextOf (.ref i)) Q E s:=by
 refine zh0 h1.typeIs F.slot_tuple_iterator_next F.entry_tuple_iterator_next (F.args_tuple_iterator_next_1 _) ?_;obtain⟨o,e1,e2,e3⟩:=h1;obtain⟨p,f1,_,n,f3⟩:=h2;refine wpAny_bind (m:=field (.ref i) 0) (wpAny_field e1 e3 (x:=.ref a) rfl ?_);have ne:¬((Value.ref a == Value.none)=true):=fun z=>by cases z
 rw[if_neg ne];refine wpAny_bind (m:=field (.ref i) 1) (wpAny_field e1 e3 (x:=.int k 0) rfl ?_);refine wpAny_bind (m:=seqItems? (.ref a)) (wpAny_seqItems f1 f3 ?_);simp only[Int.toNat_natCast,h3];refine wpAny_bind (wpAny_setField e1 e3 (by simp) (wpAny_pure ⟨x,rfl,h _ ?_ (Heap.SameBut.update ..)⟩))
 refine⟨_,Heap.get?_update_self _ e1 (Obj.isFreed_of_fields (Obj.data_mapFields e3 _)),?_,?_⟩
 ·rw[Obj.cls_mapFields];exact e2
 ·rw[Obj.data_mapFields e3];simp[rawInt]
theorem zhn{i a:Addr}{k:Nat}{xs:Array Value}{Q:qV}(hh:A.handled=none)(h1:s.heap.IsTupleIter i a k)(h2:s.heap.IsTuple a xs)(h3:xs[k]?=none)
  (h:∀h' e,Heap.ExtBut i s.heap h'->(∃o,h'.get? e=some o/\o.cls=.type "StopIteration")->E (.ref e) { s with heap:=h' }):wpAny (model prog w) A (Builtin.SmallTypes.nextOf (.ref i)) Q E s:=by
 refine zh0 h1.typeIs F.slot_tuple_iterator_next F.entry_tuple_iterator_next (F.args_tuple_iterator_next_1 _) ?_;obtain⟨o,e1,e2,e3⟩:=h1;obtain⟨p,f1,_,n,f3⟩:=h2;refine wpAny_bind (m:=field (.ref i) 0) (wpAny_field e1 e3 (x:=.ref a) rfl ?_);have ne:¬((Value.ref a == Value.none)=true):=fun z=>by cases z
 rw[if_neg ne];refine wpAny_bind (m:=field (.ref i) 1) (wpAny_field e1 e3 (x:=.int k 0) rfl ?_);refine wpAny_bind (m:=seqItems? (.ref a)) (wpAny_seqItems f1 f3 ?_);simp only[Int.toNat_natCast,h3];refine wpAny_bind (wpAny_rule (wpAny_bind (wpAny_setField e1 e3 (by simp) ?_)))
 refine wpAny_bind (m:=newExc (.type "StopIteration") []) ?_;simp only[newExc,newTuple];refine wpAny_bind (wpAny_newObj_type ?_ (by size_fits))
 refine wpAny_bind (m:=firstArgMember _ _) (wpAny_of_eq (a:=Value.none) (by first|rfl|(simp only[firstArgMember];rfl)) (wpAny_newObj_type ?_ (by size_fits)))
 simp only[raiseNew];refine wpAny_bind (wpAny_handled ?_);have hh1:A.in1.handled=none:=hh
 first|rw[hh1]|rw[hh]
 exact wpAny_bind (wpAny_pure (wpAny_throw (h _ _ (((Heap.SameBut.update ..).extBut.push _).push _) ⟨_,Heap.get?_push_size _ rfl,rfl⟩)))
end
theorem Heap.IsTupleIter.at'{h h':Heap}{i a:Addr}{k:Nat}(x:h.IsTupleIter i a k)(f:∀o,h.get? i=some o->h'.get? i=some o):h'.IsTupleIter i a k:=by
 obtain⟨o,e,r⟩:=x;exact⟨o,f o e,r⟩
theorem Heap.IsTuple.at'{h h':Heap}{a:Addr}{xs:Array Value}(x:h.IsTuple a xs)(f:∀o,h.get? a=some o->h'.get? a=some o):h'.IsTuple a xs:=by
 obtain⟨o,e,r⟩:=x;exact⟨o,f o e,r⟩
theorem zsG{prog:Program}{w:World}{i a:Addr}:NxS prog w i a (fun k h=>h.IsTupleIter i a k) (fun h xs=>h.IsTuple a xs) where
 rcd:=fun k h ⟨o,e,c,d⟩=>⟨o,e,fun v z=>by rw[d]at z;cases z⟩
 keep:=fun k h h' x f=>Heap.IsTupleIter.at' x f
 sk:=fun h h' xs x f=>Heap.IsTuple.at' x f
 item:=fun A E k xs x s Q h1 h2 h3 h=>zhm h1 h2 h3 h
 done:=fun A E k xs s Q hh h1 h2 h3 h=>zhn hh h1 h2 h3 h
structure ZAp(z TI TO i1 i2 a1 a2:Addr):Prop where
 p:[z,TI,TO,i1,i2].Nodup
 q:∀a∈[a1,a2],a∉[z,TI,TO,i1,i2]
section
variable{prog:Program}{w:World}{A:Around}{E:qV}{s:Shared}{z TI TO i1 i2 a1 a2:Addr}{I1 I2:Nat->Heap->Prop}{S1 S2:Heap->Array Value->Prop}
structure ZSt(z TI TO i1 i2:Addr)(I1 I2:Nat->Heap->Prop)(f:Value)(k:Nat)(h:Heap):Prop where
 zip:IsZip h z TI TO f
 ti:IsPair h TI (.ref i1) (.ref i2)
 to:∃a b,IsPair h TO a b
 it1:I1 k h
 it2:I2 k h
theorem zlT(D:ZAp z TI TO i1 i2 a1 a2):(z≠TI/\z≠TO/\z≠i1/\z≠i2/\TI≠TO/\TI≠i1/\TI≠i2/\TO≠i1/\TO≠i2/\i1≠i2)/\(a1≠z/\a1≠TO/\a1≠i1/\a1≠i2)/\(a2≠z/\a2≠TO/\a2≠i1/\a2≠i2):=by
 have h1:=D.p;have h2:=D.q;simp only[List.nodup_cons,List.mem_cons,List.not_mem_nil,or_false,not_or,List.nodup_nil,and_true,not_false_eq_true]at h1;have q1:=h2 a1 (by simp)
 have q2:=h2 a2 (by simp)
 simp only[List.mem_cons,List.not_mem_nil,or_false,not_or]at q1 q2;exact⟨⟨h1.1.1,h1.1.2.1,h1.1.2.2.1,h1.1.2.2.2,h1.2.1.1,h1.2.1.2.1,h1.2.1.2.2,h1.2.2.1.1,h1.2.2.1.2,h1.2.2.2⟩,⟨q1.1,q1.2.2.1,q1.2.2.2.1,q1.2.2.2.2⟩,⟨q2.1,q2.2.2.1,q2.2.2.2.1,q2.2.2.2.2⟩⟩
theorem z_item{k:Nat}{xs ys:Array Value}{x y:Value}{Q:qV}(D:ZAp z TI TO i1 i2 a1 a2)(N1:NxS prog w i1 a1 I1 S1)(N2:NxS prog w i2 a2 I2 S2)(st:ZSt z TI TO i1 i2 I1 I2 .none k s.heap)(s1:S1 s.heap xs)(s2:S2 s.heap ys)
  (hx:xs[k]?=some x) (hy:ys[k]?=some y)
  (hQ:∀h',ZSt z TI TO i1 i2 I1 I2 (rawInt s.heap.objs.size) (k+1) h'->IsPair h' s.heap.objs.size x y->h'.objs.size=s.heap.objs.size+1 ->
   (∀c o,c≠z->c≠TO->c≠i1->c≠i2->s.heap.get? c=some o->h'.get? c=some o)->Q (.ref s.heap.objs.size) { s with heap:=h' }) :
  wpAny (model prog w) A (Builtin.«zip.__next__» ⟨[.ref z],[]⟩) (fun fin s'=>∃v,fin=.done (.ret v)/\Q v s') E s:=by
 obtain⟨⟨d1,d2,d3,d4,d5,d6,d7,d8,d9,d10⟩,⟨e1,e2,e3,e4⟩,⟨g1,g2,g3,g4⟩⟩:=zlT D;obtain⟨zip,ti,⟨va,vb,to⟩,it1,it2⟩:=st;refine wpAny_bind (m:=field (.ref z) 2) (wpAny_field zip rfl (x:=.bool false) rfl ?_);refine wpAny_bind (m:=field (.ref z) 3) (wpAny_field zip rfl (x:=.ref TI) rfl (wpAny_bind (wpAny_seqItems ti rfl ?_)));refine wpAny_bind (m:=Builtin.SmallTypes.ownedTupleIsFree (.ref z)) ?_;unfold Builtin.SmallTypes.ownedTupleIsFree
 refine wpAny_bind (wpAny_field zip rfl (x:=.none) rfl (wpAny_pure ?_));simp only[if_true];refine wpAny_bind (wpAny_rule (wpAny_bind (wpAny_field zip rfl (x:=.ref TO) rfl (wpAny_bind (wpAny_setField_rec zip (by simp) fun hA zA bA=>?_)))))
 have zA':IsZip hA z TI TO .ellipsis:=zA;refine wpAny_bind ?_;simp only[List.zipIdx_cons,List.zipIdx_nil,List.forIn_cons,List.forIn_nil];refine wpAny_bind (wpAny_bind (wpAny_onRaise (wpAny_bind (m:=Builtin.SmallTypes.nextOf (.ref i1)) ?_)));refine N1.item _ _ k xs x _ _ (N1.keep _ _ _ it1 fun o e=>bA.extBut _ _ d3.symm e) (N1.sk _ _ _ s1 fun o e=>bA.extBut _ _ e1 e) hx fun hB it1B bB=>wpAny_pure ?_
 have toB:IsPair hB TO va vb:=bB.extBut _ _ d8 (bA.extBut _ _ d2.symm to);refine wpAny_bind (wpAny_seqItems toB rfl (wpAny_bind (wpAny_updateSeq_pair toB fun hC toC bC=>?_)))
 have toC':IsPair hC TO x vb:=toC;refine wpAny_bind (wpAny_letGo (wpAny_pure ?_));refine wpAny_bind (wpAny_bind (wpAny_onRaise (wpAny_bind (m:=Builtin.SmallTypes.nextOf (.ref i2)) ?_)));have up2:∀c o,c≠z->c≠TO->c≠i1->s.heap.get? c=some o->hC.get? c=some o:=fun c o c1 c2 c3 e=>bC.extBut _ _ c2 (bB.extBut _ _ c3 (bA.extBut _ _ c1 e))
 refine N2.item _ _ k ys y _ _ (N2.keep _ _ _ it2 fun o e=>up2 _ _ d4.symm d9.symm d10.symm e) (N2.sk _ _ _ s2 fun o e=>up2 _ _ g1 g2 g3 e) hy fun hD it2D bD=>wpAny_pure ?_
 have toD:IsPair hD TO x vb:=bD.extBut _ _ d9 toC';refine wpAny_bind (wpAny_seqItems toD rfl (wpAny_bind (wpAny_updateSeq_pair toD fun hF toF bF=>?_)))
 have toF':IsPair hF TO x y:=toF;refine wpAny_bind (wpAny_letGo (wpAny_pure (wpAny_pure ?_)));refine wpAny_bind (wpAny_seqItems toF' rfl (wpAny_bind (wpAny_newTuple ?_)));have sz:hF.objs.size=s.heap.objs.size:=by rw[bF.1,bD.1,bC.1,bB.1,bA.1]
 have upF:∀c o,c≠z->c≠TO->c≠i1->c≠i2->s.heap.get? c=some o->hF.get? c=some o:=fun c o c1 c2 c3 c4 e=>bF.extBut _ _ c2 (bD.extBut _ _ c4 (up2 c o c1 c2 c3 e))
 have zF:IsZip hF z TI TO .ellipsis:=bF.extBut _ _ d2 (bD.extBut _ _ d4 (bC.extBut _ _ d2 (bB.extBut _ _ d3 zA')));have zlt:z<hF.objs.size:=Heap.lt_size zF;refine wpAny_bind (m:=Builtin.SmallTypes.ownedTupleHandOut (.ref z) (.ref hF.objs.size)) ?_;unfold Builtin.SmallTypes.ownedTupleHandOut;have zG:IsZip (hF.push { cls:=.type "tuple",data:=.seq #[x,y] }) z TI TO .ellipsis:=Heap.get?_push_of_some _ zF
 refine wpAny_bind (wpAny_setField_rec zG (by simp) fun hI zI bI=>?_)
 have zI':IsZip hI z TI TO (rawInt hF.objs.size):=zI;refine wpAny_setField_rec zI' (by simp) fun hJ zJ bJ=>wpAny_pure ⟨_,rfl,?_⟩
 have zJ':IsZip hJ z TI TO (rawInt hF.objs.size):=zJ;have up:∀c o,c≠z->hF.get? c=some o->hJ.get? c=some o:=fun c o c1 e=>bJ.extBut _ _ c1 (bI.extBut _ _ c1 (Heap.get?_push_of_some _ e))
 have pr:IsPair hJ hF.objs.size x y:=bJ.extBut _ _ (Nat.ne_of_gt zlt) (bI.extBut _ _ (Nat.ne_of_gt zlt) (Heap.get?_push_size _ rfl));have szJ:hJ.objs.size=hF.objs.size+1:=by rw[bJ.1,bI.1,Heap.size_push]
 rw[sz]at zJ' pr szJ;show Q (.ref hF.objs.size) _
 rw[sz];refine hQ hJ ⟨zJ',up _ _ d1.symm (upF _ _ d1.symm d5 d6 d7 ti),⟨x,y,up _ _ d2.symm toF'⟩,?_,?_⟩ pr szJ fun c o c1 c2 c3 c4 e=>up c o c1 (upF c o c1 c2 c3 c4 e)
 ·exact N1.keep _ _ _ it1B fun o e=>up _ _ d3.symm (bF.extBut _ _ d8.symm (bD.extBut _ _ d10 (bC.extBut _ _ d8.symm e)))
 ·exact N2.keep _ _ _ it2D fun o e=>up _ _ d4.symm (bF.extBut _ _ d9.symm e)
theorem z_end{k:Nat}{xs ys:Array Value}{Q:PySem.Fin->Shared->Prop}(hh:A.handled=none)(D:ZAp z TI TO i1 i2 a1 a2)(N1:NxS prog w i1 a1 I1 S1)(N2:NxS prog w i2 a2 I2 S2)(st:ZSt z TI TO i1 i2 I1 I2 .none k s.heap)(s1:S1 s.heap xs)(s2:S2 s.heap ys)
  (hxy:xs[k]?=none\/ys[k]?=none)
  (hE:∀h' e,(∀c o,c≠z->c≠TO->c≠i1->c≠i2->s.heap.get? c=some o->h'.get? c=some o)->(∃o,h'.get? e=some o/\o.cls=.type "StopIteration")->E (.ref e) { s with heap:=h' }) :
  wpAny (model prog w) A (Builtin.«zip.__next__» ⟨[.ref z],[]⟩) Q E s:=by
 obtain⟨⟨d1,d2,d3,d4,d5,d6,d7,d8,d9,d10⟩,⟨e1,e2,e3,e4⟩,⟨g1,g2,g3,g4⟩⟩:=zlT D;obtain⟨zip,ti,⟨va,vb,to⟩,it1,it2⟩:=st;refine wpAny_bind (m:=field (.ref z) 2) (wpAny_field zip rfl (x:=.bool false) rfl ?_);refine wpAny_bind (m:=field (.ref z) 3) (wpAny_field zip rfl (x:=.ref TI) rfl (wpAny_bind (wpAny_seqItems ti rfl ?_)));refine wpAny_bind (m:=Builtin.SmallTypes.ownedTupleIsFree (.ref z)) ?_;unfold Builtin.SmallTypes.ownedTupleIsFree
 refine wpAny_bind (wpAny_field zip rfl (x:=.none) rfl (wpAny_pure ?_));simp only[if_true];refine wpAny_bind (wpAny_rule (wpAny_bind (wpAny_field zip rfl (x:=.ref TO) rfl (wpAny_bind (wpAny_setField_rec zip (by simp) fun hA zA bA=>?_)))))
 have zA':IsZip hA z TI TO .ellipsis:=zA;refine wpAny_bind ?_;simp only[List.zipIdx_cons,List.zipIdx_nil,List.forIn_cons,List.forIn_nil];refine wpAny_bind (wpAny_bind (wpAny_onRaise (wpAny_bind (m:=Builtin.SmallTypes.nextOf (.ref i1)) ?_)));have a1':=N1.keep _ _ _ it1 fun o e=>bA.extBut _ _ d3.symm e
 have a2':=N1.sk _ _ _ s1 fun o e=>bA.extBut _ _ e1 e
 cases hx:xs[k]? with
 | none =>
  refine N1.done _ _ k xs _ _ hh a1' a2' hx fun hB e bB ⟨oe,he,hc⟩=>?_
  have zB:IsZip hB z TI TO .ellipsis:=bB _ _ d3 zA';have ez:e≠z:=fun y=>by subst y;rw[zB]at he;cases he;simp at hc
  exact wpAny_setField_rec zB (by simp) fun hC _ bC=>hE hC e (fun c o c1 _ c3 _ y=>bC.extBut _ _ c1 (bB _ _ c3 (bA.extBut _ _ c1 y))) ⟨oe,bC.extBut _ _ ez he,hc⟩
 | some x =>
  have hy:ys[k]?=none:=by rcases hxy with h|h;rw[hx]at h;cases h;exact h
  refine N1.item _ _ k xs x _ _ a1' a2' hx fun hB it1B bB=>wpAny_pure ?_
  have toB:IsPair hB TO va vb:=bB.extBut _ _ d8 (bA.extBut _ _ d2.symm to);refine wpAny_bind (wpAny_seqItems toB rfl (wpAny_bind (wpAny_updateSeq_pair toB fun hC toC bC=>?_)))
  refine wpAny_bind (wpAny_letGo (wpAny_pure ?_));refine wpAny_bind (wpAny_bind (wpAny_onRaise (wpAny_bind (m:=Builtin.SmallTypes.nextOf (.ref i2)) ?_)));have up2:∀c o,c≠z->c≠TO->c≠i1->s.heap.get? c=some o->hC.get? c=some o:=fun c o c1 c2 c3 e=>bC.extBut _ _ c2 (bB.extBut _ _ c3 (bA.extBut _ _ c1 e))
  refine N2.done _ _ k ys _ _ hh (N2.keep _ _ _ it2 fun o e=>up2 _ _ d4.symm d9.symm d10.symm e) (N2.sk _ _ _ s2 fun o e=>up2 _ _ g1 g2 g3 e) hy fun hD e bD ⟨oe,he,hc⟩=>?_
  have zD:IsZip hD z TI TO .ellipsis:=bD _ _ d4 (bC.extBut _ _ d2 (bB.extBut _ _ d3 zA'));have ez:e≠z:=fun y=>by subst y;rw[zD]at he;cases he;simp at hc
  exact wpAny_setField_rec zD (by simp) fun hF _ bF=>hE hF e (fun c o c1 c2 c3 c4 y=>bF.extBut _ _ c1 (bD _ _ c4 (up2 c o c1 c2 c3 y))) ⟨oe,bF.extBut _ _ ez he,hc⟩
theorem zrw{k:Nat}{xs ys:Array Value}{x y:Value}{Q:Option Value->Shared->Prop}(D:ZAp z TI TO i1 i2 a1 a2)(N1:NxS prog w i1 a1 I1 S1)(N2:NxS prog w i2 a2 I2 S2)(st:ZSt z TI TO i1 i2 I1 I2 .none k s.heap)(s1:S1 s.heap xs)(s2:S2 s.heap ys)
  (hx:xs[k]?=some x) (hy:ys[k]?=some y)
  (hQ:∀h',ZSt z TI TO i1 i2 I1 I2 (rawInt s.heap.objs.size) (k+1) h'->IsPair h' s.heap.objs.size x y->h'.objs.size=s.heap.objs.size+1 ->
   (∀c o,c≠z->c≠TO->c≠i1->c≠i2->s.heap.get? c=some o->h'.get? c=some o)->Q (some (.ref s.heap.objs.size)) { s with heap:=h' }) :
  wpAny (model prog w) A (pyNext (.ref z)) Q E s:=by
 have hT:s.TypeIs (.ref z) "zip":=⟨_,st.zip,rfl⟩;unfold pyNext;exact wpAny_bind (wpAny_attempt (wpAny_callSpecial?_slot (name:=Str.ofString "__next__") hT F.slot_zip_next (wpAny_call_entry F.slot_zip_next hT F.entry_zip_next
  (z_item D N1 N2 st s1 s2 hx hy fun h' b1 b2 b3 b4=>wpAny_pure (hQ h' b1 b2 b3 b4)) (F.args_zip_next_1 _))))
theorem zrv{k:Nat}{xs ys:Array Value}{Q:Option Value->Shared->Prop}(hh:A.handled=none)(D:ZAp z TI TO i1 i2 a1 a2)(N1:NxS prog w i1 a1 I1 S1)(N2:NxS prog w i2 a2 I2 S2)(st:ZSt z TI TO i1 i2 I1 I2 .none k s.heap)(s1:S1 s.heap xs)(s2:S2 s.heap ys)
  (hxy:xs[k]?=none\/ys[k]?=none) (hQ:∀h',(∀c o,c≠z->c≠TO->c≠i1->c≠i2->s.heap.get? c=some o->h'.get? c=some o)->Q none { s with heap:=h' }):wpAny (model prog w) A (pyNext (.ref z)) Q E s:=by
 have hT:s.TypeIs (.ref z) "zip":=⟨_,st.zip,rfl⟩;unfold pyNext;refine wpAny_bind (wpAny_attempt (wpAny_callSpecial?_slot (name:=Str.ofString "__next__") hT F.slot_zip_next (wpAny_call_entry F.slot_zip_next hT F.entry_zip_next
  (z_end hh D N1 N2 st s1 s2 hxy fun h' e hk ⟨o,ho,hc⟩=>?_) (F.args_zip_next_1 _))))
 exact wpAny_bind (wpAny_isInstance (T:="StopIteration") (b:=true) ⟨o,ho,hc⟩ isSubtype_stop (wpAny_pure (hQ _ hk)))
end
def SqB(t:Bool)(K:qF)(H:Hp)(a:Addr)(xs:List V):Prop:=match t with|true=>SqT K H a xs|false=>SqL K H a xs
def ITB(t:Bool)(i a:Addr):Nat->Heap->Prop:=match t with|true=>fun k h=>h.IsTupleIter i a k|false=>fun k h=>h.IsListIter i a k
def SQB(t:Bool)(a:Addr):Heap->Array Value->Prop:=match t with|true=>fun h xs=>h.IsTuple a xs|false=>fun h xs=>h.IsList a xs
def itN(t:Bool):String:=match t with|true=>"tuple_iterator" | false=>"list_iterator"
theorem nx_B{prog:Program}{w:World}{i a:Addr}(t:Bool):NxS prog w i a (ITB t i a) (SQB t a):=by
 cases t
 ·exact zqA
 ·exact zsG
section
variable{X:Cx}{pins:qO}{σ:St}{H:Hp}{s:Shared}
theorem Inv.seqB{t:Bool}{a:Addr}{xs:List V}(I:Inv X pins σ H s)(h:SqB t X.K H a xs):∃its:List Value,Vals xs its/\SQB t a s.heap its.toArray/\xs.length<=sizeLine:=by
 cases t
 ·obtain⟨its,r,p,z⟩:=I.list h;exact⟨its,r,p.isList,z⟩
 ·obtain⟨its,r,p,z⟩:=I.tuple h;exact⟨its,r,p,z⟩
theorem Inv.injB{t:Bool}{a:Addr}{xs ys:List V}(I:Inv X pins σ H s)(h:SqB t X.K H a xs)(h':SqB t X.K H a ys):xs=ys:=by
 cases t
 ·exact I.list_inj h h'
 ·exact I.tuple_inj h h'
theorem Inv.turnedL{h':Heap}{t':Nat}(ch:List Addr)(I:Inv X pins σ H s)(k:∀b o,b∉ch->s.heap.get? b=some o->h'.get? b=some o)(f:∀b∈ch,FpOk X pins H b):Inv X pins σ H { s with heap:=h',toks:=t' }:=by
 have nch:∀b u,H b=some u->b∉ch:=fun b u e z=>by rw[(f b z).1]at e;cases e
 refine I.step (g':=s.gens) (d':=s.drawn) (ch:=ch) (fun b hb=>⟨(f b hb).2.2.2.1,(f b hb).2.1,(f b hb).2.2.2.2.1,(f b hb).2.2.2.2.2⟩) (fun b o _ _ hc e _=>k b o hc e) (fun b o _ _ hc e _=>⟨o.slots,k b o hc e⟩) (fun _ _ _ _ n=>n) (fun b o hc e=>⟨o,k b o hc e⟩) (fun _ _ e=>e) (fun _ _ _ e=>e)
  (fun b ps e=>⟨#[],by rw[e];simp⟩) (fun m ⟨o,es,ep,ho,r⟩=>⟨o,es,ep,k _ o (fun z=>(f _ z).2.1 rfl) ho,r⟩) (fun b u e=>(I.hok b u e).stay (fun c v hc q=>k c v ?_ q) (fun _ q=>q) fun _ _ q=>q) I.bare
 rcases hc with z|z
 ·rw[z];exact nch b u e
 ·exact nch c _ z
end
section
variable{prog:Program}{w:World}{A:Around}{E:qV}{s:Shared}
theorem zs9{t:Bool}{a:Addr}{xs:Array Value}{Q:qV}(h:SQB t a s.heap xs)(hQ:Q (.ref s.heap.objs.size) { s with heap:=s.heap.push { cls:=.type (itN t),data:=.fields #[.ref a,.int 0 0] } }):wpAny (model prog w) A (pyIter (.ref a)) Q E s:=by
 cases t
 ·exact wpAny_pyIter_list h hQ
 ·exact wpAny_pyIter_tuple h hQ
theorem SQB.push{t:Bool}{a:Addr}{xs:Array Value}{h:Heap}(x:SQB t a h xs)(o:Obj):SQB t a (h.push o) xs:=by
 cases t
 ·exact Heap.IsList.push x o
 ·exact Heap.IsTuple.push x o
abbrev zA(h:Heap)(t:Bool)(a:Addr):Heap:=h.push { cls:=.type (itN t),data:=.fields #[.ref a,.int 0 0] }
abbrev zB(h:Heap)(t u:Bool)(a b:Addr):Heap:=(zA h t a).push { cls:=.type (itN u),data:=.fields #[.ref b,.int 0 0] }
abbrev zC(h:Heap)(t u:Bool)(a b:Addr):Heap:=(zB h t u a b).push { cls:=.type "tuple",data:=.seq #[.ref h.objs.size,.ref (zA h t a).objs.size] }
abbrev zD(h:Heap)(t u:Bool)(a b:Addr):Heap:=(zC h t u a b).push { cls:=.type "tuple",data:=.seq #[.none,.none] }
abbrev zE(h:Heap)(t u:Bool)(a b:Addr):Heap:=(zD h t u a b).push { cls:=.type "zip",data:=.fields #[.none,.bool false,.bool false,.ref (zB h t u a b).objs.size,.ref (zC h t u a b).objs.size] }
theorem zoW(t u:Bool)(a b:Addr)(xs ys:Array Value) :
  Meets (Builtin.«zip.__new__» ⟨[.type "zip",.ref a,.ref b],[]⟩) (fun _ R s=>SQB t a s.heap xs/\SQB u b s.heap ys/\R (.ok (.ret (.ref (zD s.heap t u a b).objs.size))) { s with heap:=zE s.heap t u a b }) :=
 .of_wp fun prog w A R s h=>by
  obtain⟨hp,g,d,tk,os⟩:=s;obtain⟨h1,h2,h⟩:=h;have hsub:=sub_zip;have L1:SQB t a (Shared.heap ⟨hp,g,d,tk,os⟩) xs:=h1;have L2:SQB u b (Shared.heap ⟨hp.push { cls:=.type (itN t),data:=.fields #[.ref a,.int 0 0] },g,d,tk,os⟩) ys:=SQB.push h2 _
  wp_walk using zs9 L1,zs9 L2
  exact⟨_,rfl,h⟩
theorem ITB.new{t:Bool}{i a:Addr}{h:Heap}(e:h.get? i=some { cls:=.type (itN t),data:=.fields #[.ref a,.int 0 0] }):ITB t i a 0 h:=by
 cases t
 ·exact⟨_,e,rfl,rfl⟩
 ·exact⟨_,e,rfl,rfl⟩
theorem zrg{t u:Bool}{a b:Addr}{xs ys:Array Value}{Q:qV}(h1:SQB t a s.heap xs)(h2:SQB u b s.heap ys)
  (h:∀h',ZSt (s.heap.objs.size+4) (s.heap.objs.size+2) (s.heap.objs.size+3) s.heap.objs.size (s.heap.objs.size+1) (ITB t s.heap.objs.size a) (ITB u (s.heap.objs.size+1) b) .none 0 h'->h'.objs.size=s.heap.objs.size+5 ->
   (∀c o,s.heap.get? c=some o->h'.get? c=some o)->Q (.ref (s.heap.objs.size+4)) { s with heap:=h' }) :
  wpAny (model prog w) A (call (.type "zip") [.ref a,.ref b]) Q E s:=by
 refine callType_new F.called_zip (by decide) (F.typeCall_zip_2 _ _) (F.newCall_zip_2 _ _) (fun obj=>F.args_object_init_3 obj _ _) F.entry_zip_new (zoW t u a b xs ys) ⟨h1,h2,?_⟩
 have n1:(zA s.heap t a).objs.size=s.heap.objs.size+1:=Heap.size_push ..;have n2:(zB s.heap t u a b).objs.size=s.heap.objs.size+2:=by rw[Heap.size_push,n1]
 have n3:(zC s.heap t u a b).objs.size=s.heap.objs.size+3:=by rw[Heap.size_push,n2]
 have n4:(zD s.heap t u a b).objs.size=s.heap.objs.size+4:=by rw[Heap.size_push,n3]
 have n5:(zE s.heap t u a b).objs.size=s.heap.objs.size+5:=by rw[Heap.size_push,n4]
 have g5:(zE s.heap t u a b).get? (zD s.heap t u a b).objs.size=some _:=Heap.get?_push_size _ rfl;have g4:(zE s.heap t u a b).get? (zC s.heap t u a b).objs.size=some _:=Heap.get?_push_of_some _ (Heap.get?_push_size _ rfl);have g3:(zE s.heap t u a b).get? (zB s.heap t u a b).objs.size=some _:=Heap.get?_push_of_some _ (Heap.get?_push_of_some _ (Heap.get?_push_size _ rfl));have g2:(zE s.heap t u a b).get? (zA s.heap t a).objs.size=some _:=Heap.get?_push_of_some _ (Heap.get?_push_of_some _ (Heap.get?_push_of_some _ (Heap.get?_push_size _ rfl)))
 have g1:(zE s.heap t u a b).get? s.heap.objs.size=some _:=Heap.get?_push_of_some _ (Heap.get?_push_of_some _ (Heap.get?_push_of_some _ (Heap.get?_push_of_some _ (Heap.get?_push_size _ rfl))));show _/\_
 rw[n2,n3,n4]at g5;rw[n1,n2]at g3;rw[n3]at g4;rw[n1]at g2;rw[n4];refine⟨⟨_,g5,rfl⟩,h _ ⟨g5,g3,⟨_,_,g4⟩,.new g1,.new g2⟩ n5 fun c o x=>?_⟩
 iterate 5 refine Heap.get?_push_of_some _ ?_
 exact x
end
def Itz(t u:Bool)(K:qF)(a b:Addr):It :=
 ⟨fun i H=>∃xs ys x y,SqB t K H a xs/\SqB u K H b ys/\xs[i]?=some x/\ys[i]?=some y,
  fun i H v H'=>∃p x y,H p=none/\v=.ref p/\(∀xs,SqB t K H a xs->xs[i]?=some x)/\(∀ys,SqB u K H b ys->ys[i]?=some y)/\H'=upd H p (.tup [x,y]),
  fun i H=>∃xs ys,SqB t K H a xs/\SqB u K H b ys/\(xs.length<=i\/ys.length<=i)⟩
theorem zof{P:Program}{w:World}{K:qF}{elts:List Expr}{x1:_}{pos:Pos}{t u:Bool}{z TI TO i1 i2 a b:Addr}(D:ZAp z TI TO i1 i2 a b) :
  Turn P w K (.Tuple elts x1 pos) (Itz t u K a b) [z,TI,TO,i1,i2] z (fun i h=>ZSt z TI TO i1 i2 (ITB t i1 a) (ITB u i2 b) .none i h) where
 mem:=by simp
 obj:=fun i h st c hc=>by
  obtain⟨zp,ti,⟨va,vb,to⟩,j1,j2⟩:=st;simp only[List.mem_cons,List.not_mem_nil,or_false]at hc;rcases hc with rfl|rfl|rfl|rfl|rfl
  ·exact⟨_,zp,fun v y=>by cases y⟩
  ·exact⟨_,ti,fun v y=>by cases y⟩
  ·exact⟨_,to,fun v y=>by cases y⟩
  ·exact(nx_B (prog:=P) (w:=w) t).rcd _ _ j1
  ·exact(nx_B (prog:=P) (w:=w) u).rcd _ _ j2
 keep:=fun i h h' st k=>by
  obtain⟨zp,ti,⟨va,vb,to⟩,j1,j2⟩:=st;exact⟨k _ (by simp) _ zp,k _ (by simp) _ ti,⟨va,vb,k _ (by simp) _ to⟩,(nx_B (prog:=P) (w:=w) t).keep _ _ _ j1 (k _ (by simp)),(nx_B (prog:=P) (w:=w) u).keep _ _ _ j2 (k _ (by simp))⟩
 item:=by
  intro X hP hw hK hc i pins s σ H E I hf st hg;subst hP hw hK;obtain⟨xs,ys,x,y,q1,q2,hx,hy⟩:=hg;obtain⟨its,r1,p1,z1⟩:=I.seqB q1;obtain⟨jts,r2,p2,z2⟩:=I.seqB q2;obtain⟨ux,hux,rux⟩:=r1.get hx;obtain⟨uy,huy,ruy⟩:=r2.get hy;refine zrw D (nx_B t) (nx_B u) st p1 p2 (x:=ux) (y:=uy) (by simpa using hux) (by simpa using huy) fun h' st' pr sz kp=>?_
  refine⟨_,rfl,?_⟩;refine wpAny_letOwnedTupleGo_zip (s:={ s with heap:=h' }) st'.zip fun h2 z2' sb=>?_
  obtain⟨⟨d1,d2,d3,d4,d5,d6,d7,d8,d9,d10⟩,_,_⟩:=zlT D;have big:∀c∈[z,TI,TO,i1,i2],c<s.heap.objs.size:=fun c hc=>by
   obtain⟨zp,ti,⟨va,vb,to⟩,j1,j2⟩:=st;simp only[List.mem_cons,List.not_mem_nil,or_false]at hc;rcases hc with rfl|rfl|rfl|rfl|rfl
   ·exact Heap.lt_size zp
   ·exact Heap.lt_size ti
   ·exact Heap.lt_size to
   ·obtain⟨o,e,_⟩:=(nx_B (prog:=X.prog) (w:=X.w) t).rcd _ _ j1;exact Heap.lt_size e
   ·obtain⟨o,e,_⟩:=(nx_B (prog:=X.prog) (w:=X.w) u).rcd _ _ j2;exact Heap.lt_size e
  have hp:H s.heap.objs.size=none:=I.hok.fresh (Nat.le_refl _);have I1:Inv X pins σ (upd H s.heap.objs.size (.tup [x,y])) { s with heap:=s.heap.push { cls:=.type "tuple",data:=.seq #[ux,uy] } } :=
   I.laid (t':=s.toks) (fun b o e=>Heap.get?_push_of_some _ e) (Nat.le_refl _) (show JQ X.prog X.w _ _ _ (.tup [x,y]) from⟨by show 2<=sizeLine;decide,[ux,uy],.cons rux (.cons ruy .nil),IsTD.new _ _⟩)
  have npos:∀c∈[z,TI,TO,i1,i2],c≠s.heap.objs.size:=fun c hc=>Nat.ne_of_lt (big c hc)
  have fu:∀c∈[z,TI,TO,i1,i2],upd H s.heap.objs.size (.tup [x,y]) c=none:=fun c hc=>by rw[Jw (npos c hc)];exact(hf c hc).1
  refine⟨.ref s.heap.objs.size,upd H s.heap.objs.size (.tup [x,y]),?_,rfl,⟨_,x,y,hp,rfl,fun xs' h=>by rw[I.injB h q1];exact hx,fun ys' h=>by rw[I.injB h q2];exact hy,rfl⟩,?_,fu⟩
  ·refine Inv.turnedL (s:={ s with heap:=s.heap.push { cls:=.type "tuple",data:=.seq #[ux,uy] } }) (t':=s.toks) [z,TO,i1,i2] I1 (fun c o hc e=>?_) fun c hc=>?_
   ·simp only[List.mem_cons,List.not_mem_nil,or_false,not_or]at hc;refine sb.extBut _ _ hc.1 ?_
    by_cases y:c=s.heap.objs.size
    ·subst y;have e':(s.heap.push { cls:=.type "tuple",data:=.seq #[ux,uy] }).get? s.heap.objs.size=some _:=Heap.get?_push_size _ rfl;have e2:some o=some _:=e.symm.trans e';cases e2;exact pr
    ·have e':s.heap.get? c=some o:=by
      have e3:(s.heap.push { cls:=.type "tuple",data:=.seq #[ux,uy] }).get? c=some o:=e
      rwa [Heap.get?_push_ne _ _ _ y]at e3
     exact kp c o hc.1 hc.2.1 hc.2.2.1 hc.2.2.2 e'
   ·have m:c∈[z,TI,TO,i1,i2]:=by simp only[List.mem_cons,List.not_mem_nil,or_false]at hc ⊢;rcases hc with h|h|h|h <;> simp[h]
    exact⟨fu c m,(hf c m).2⟩
  ·obtain⟨zp,ti,⟨va,vb,to⟩,j1,j2⟩:=st';exact⟨z2',sb.extBut _ _ d1.symm ti,⟨va,vb,sb.extBut _ _ d2.symm to⟩,(nx_B (prog:=X.prog) (w:=X.w) t).keep _ _ _ j1 fun o e=>sb.extBut _ _ d3.symm e,(nx_B (prog:=X.prog) (w:=X.w) u).keep _ _ _ j2 fun o e=>sb.extBut _ _ d4.symm e⟩
 done:=by
  intro X hP hw hK hc i pins s σ H E I hf st hg;subst hP hw hK;obtain⟨xs,ys,q1,q2,hx⟩:=hg;obtain⟨its,r1,p1,z1⟩:=I.seqB q1;obtain⟨jts,r2,p2,z2⟩:=I.seqB q2;have l1:=r1.length;have l2:=r2.length;refine zrv (I.ok.hd hc) D (nx_B t) (nx_B u) st p1 p2 (by rcases hx with h|h;exact .inl (by simp;omega);exact .inr (by simp;omega)) fun h' kp=>⟨rfl,?_⟩
  refine Inv.turnedL (t':=s.toks) [z,TO,i1,i2] I (fun c o hc e=>?_) fun c hc=>hf c ?_
  ·simp only[List.mem_cons,List.not_mem_nil,or_false,not_or]at hc;exact kp c o hc.1 hc.2.1 hc.2.2.1 hc.2.2.2 e
  ·simp only[List.mem_cons,List.not_mem_nil,or_false]at hc ⊢;rcases hc with h|h|h|h <;> simp[h]
 self:=fun _ _ _ _ _ st h=>wpAny_pyIter_zip st.zip h
section
variable{X:Cx}{a b:Expr}{elts:List Expr}{x1:Nat}{p p' pos:Pos}
def iZip(K:qF)(ta:TA):TI:=fun σ H R=>ta σ H fun vs H1=>∃(t u:Bool) (c d:Addr) (xs ys:List V),vs=[.ref c,.ref d]/\SqB t K H1 c xs/\SqB u K H1 d ys/\R (Itz t u K c d) H1
theorem SQB.lt{t:Bool}{c:Addr}{xs:Array Value}{h:Heap}(x:SQB t c h xs):c<h.objs.size:=by
 cases t
 ·obtain⟨o,e,_⟩:=x;exact Heap.lt_size e
 ·obtain⟨o,e,_⟩:=x;exact Heap.lt_size e
theorem zpT{n:Nat}{c d:Addr}(h1:c<n)(h2:d<n):ZAp (n+4) (n+2) (n+3) n (n+1) c d:=by
 have ne:∀(e:Addr) (k:Nat),e<n->e≠n+k:=fun e k h=>Nat.ne_of_lt (Nat.lt_of_lt_of_le h (Nat.le_add_right _ _))
 refine⟨by simp,fun e he=>?_⟩
 have hl:e<n:=by
  simp only[List.mem_cons,List.not_mem_nil,or_false]at he;rcases he with rfl|rfl
  ·exact h1
  ·exact h2
 simp only[List.mem_cons,List.not_mem_nil,or_false,not_or];exact⟨ne e 4 hl,ne e 2 hl,ne e 3 hl,Nat.ne_of_lt hl,ne e 1 hl⟩
theorem zsa{ta:TA}(hg:Gl X "zip") (hm:X.mg "zip" = none) (ha:PA X [a,b] ta) (hs:starEach [a,b] X.env=[(false,eval a X.env),(false,eval b X.env)]) (hs2:starEach [b] X.env=[(false,eval b X.env)]) :
  PI X (.Tuple elts x1 p') (.Call (.Name "zip" p) [a,b] [] pos) (iZip X.K ta):=by
 intro pins s σ H R I h;refine Call_ (Y5 I hg hm boot_zip (PyProof.Rows.callWith_type1 (thn (ha pos pins s σ H _ I h) fun us s1 ⟨vs,H1,I1,r1,q1⟩=>?_) (by rw[hs,hs2]) (by rw[hs2];rfl)))
 obtain⟨t,u,c,d,xs,ys,rfl,s1',s2',q⟩:=q1;cases r1 with
 | cons r rr =>
  cases rr with
  | cons r' rr =>
   cases rr;cases r;cases r';obtain⟨its,_,p1,_⟩:=I1.seqB s1';obtain⟨jts,_,p2,_⟩:=I1.seqB s2';refine zrg p1 p2 fun h' st sz kp=>?_
   refine wpAny_pyIter_zip (s:={ s1 with heap:=h' }) st.zip ?_
   refine⟨_,_,_,_,H1,rfl,I1.kept (t':=s1.toks) kp,zof (zpT p1.lt p2.lt),st,fun e he=>?_,q⟩
   have ge:s1.heap.objs.size<=e:=by
    simp only[List.mem_cons,List.not_mem_nil,or_false]at he;rcases he with rfl|rfl|rfl|rfl|rfl
    ·exact Nat.le_add_right _ _
    ·exact Nat.le_add_right _ _
    ·exact Nat.le_add_right _ _
    ·exact Nat.le_refl _
    ·exact Nat.le_add_right _ _
   exact I1.fpOk ge (I1.hok.fresh ge)
theorem srcB{K:qF}{hd:Option Addr}{P O:Addr->Prop}{H:Hp}{v:V}{t:PyData}{ts:qD}(hO:∀a,¬O a->P a)(r:Rep K hd O H v t)(h:t=.tuple ts\/t=.list ts) :
  ∃(k:Bool) (q:Addr) (vs:List V),v=.ref q/\SqB k K H q vs/\∀(O2:Addr->Prop) (H2:Hp),(∀a o,H a=some o->P a->H2 a=some o)->(∀a o,H a=some o->¬O a->¬O2 a)->SqB k K H2 q vs/\Reps K hd O2 H2 vs ts:=by
 have mv:∀vs,Reps K hd O H vs ts->∀(O2:Addr->Prop) (H2:Hp),(∀a o,H a=some o->P a->H2 a=some o)->(∀a o,H a=some o->¬O a->¬O2 a)->Reps K hd O2 H2 vs ts:=fun vs r O2 H2 h1 h2 =>
  r.mono (fun a o ha z=>Classical.byContradiction fun no=>h2 a o ha no z) fun a o no ha=>h1 a o ha (hO a no)
 rcases h with rfl|rfl
 ·cases r with
  | @tup q vs ds h o r=>exact⟨true,q,vs,rfl,.inl (.inl h),fun O2 H2 h1 h2=>⟨.inl (.inl (h1 q _ h (hO q o))),mv vs r O2 H2 h1 h2⟩⟩
  | @tupS q vs ds h r=>exact⟨true,q,vs,rfl,h.sq,fun O2 H2 h1 h2=>⟨h.sq,mv vs r O2 H2 h1 h2⟩⟩
 ·obtain⟨q,vs,rfl,h1',no,r⟩:=r.lstI;exact⟨false,q,vs,rfl,SqL.of h1',fun O2 H2 h1 h2=>⟨SqL.of (h1 q _ h1' (hO q no)),mv vs r O2 H2 h1 h2⟩⟩
def zipD(xs ys:qD):List PyData:=(xs.zip ys).map fun q=>.tuple [q.1,q.2]
def dZip(da db:DTE):DTA:=fun ρ n R=>da ρ n fun x n1=>db ρ n1 fun y n2=>Qi x fun xs=>Qi y fun ys=>R (zipD xs ys) n2
theorem zks{t:PyData}{R:List PyData->Prop}(h:Qi t R):∃ts,(t=.tuple ts\/t=.list ts)/\R ts:=by
 cases t with
 | list ts=>exact⟨ts,.inr rfl,h⟩
 | tuple ts=>exact⟨ts,.inl rfl,h⟩
 | _=>exact h.elim
theorem zns{da db:DTE}(hm:X.mg "zip" = none) (h:DE X a da) (h':DE X b db) (hg:Gl X "zip":=by rfl) (hs:starEach [a,b] X.env=[(false,eval a X.env),(false,eval b X.env)]:=by rfl) (hs2:starEach [b] X.env=[(false,eval b X.env)]:=by rfl) :
  DI X (.Tuple elts x1 p') (.Call (.Name "zip" p) [a,b] [] pos) (dZip da db):=by
 obtain⟨ta,pa,h⟩:=h;obtain⟨tb,pb,h'⟩:=h';refine⟨_,zsa hg hm (UJ pa (UJ pb Yu hs2) (by rw[hs,hs2])) hs hs2,fun C ρ σ H n Q R S hd hq=>?_⟩
 refine h C ρ σ H n _ _ S hd fun x n1 v H1 r1 e1 hn1 q1=>?_
 have S1:=S.on e1 hn1;refine h' C ρ σ H1 n1 _ _ S1 r1 fun y n2 w H2 r2 e2 hn2 q2=>?_
 have q1':=e2.rep S.hx q1;obtain⟨xs,hx,r2⟩:=zks r2;obtain⟨ys,hy,r2⟩:=zks r2;obtain⟨k1,c,vs,rfl,s1,f1⟩:=srcB (P:=fun a=>¬Own C ρ σ a) (fun _ z=>z) q1' hx
 obtain⟨k2,d,ws,rfl,s2,f2⟩:=srcB (P:=fun a=>¬Own C ρ σ a) (fun _ z=>z) q2 hy
 refine⟨k1,k2,c,d,vs,ws,rfl,s1,s2,hq _ n2 _ H2 r2 (e1.trans e2) hn2 ?_⟩;intro O2 H3 h1 h2 h3;obtain⟨g1,rs1⟩:=f1 O2 H3 h1 h2;obtain⟨g2,rs2⟩:=f2 O2 H3 h1 h2;refine⟨fun i t et=>?_,?_⟩
 ·unfold zipD at et;rw[List.getElem?_map]at et;cases ez:(xs.zip ys)[i]? with
  | none=>rw[ez]at et;cases et
  | some q =>
   rw[ez]at et;cases et;obtain⟨ex,ey⟩:=List.getElem?_zip_eq_some.mp ez;obtain⟨vx,evx,rx⟩:=rs1.get ex;obtain⟨vy,evy,ry⟩:=rs2.get ey;refine⟨⟨vs,ws,vx,vy,g1,g2,evx,evy⟩,fun v H4 hyd=>?_⟩
   obtain⟨pp,x',y',hp,rfl,hx',hy',rfl⟩:=hyd;have e1:x'=vx:=Option.some.inj ((hx' vs g1).symm.trans evx);have e2:y'=vy:=Option.some.inj ((hy' ws g2).symm.trans evy);subst e1 e2;exact⟨Qr hp,.newT (fun z=>h3 pp z hp) hp (.cons rx (.cons ry .nil))⟩
 ·refine⟨vs,ws,g1,g2,?_⟩;have:=rs1.length;have:=rs2.length;unfold zipD;simp only[List.length_map,List.length_zip];omega
end
section
variable{d da db:DTE}{dlo dhi:DTO}{ρ:En}{n:Nat}{R:qN}{Ro:Option Int->Nat->Prop}{Rl:List PyData->Nat->Prop}{xs ys:qD}{lo hi:Option Int}{Q:PyData->Prop}{Ql:List PyData->Prop}
theorem zto(h:d ρ n fun t n1=>dlo ρ n1 fun lo n2=>dhi ρ n2 fun hi n3=>lSl t lo hi fun z=>Rl z n3):dSlL d dlo dhi ρ n Rl:=h
theorem znf(h:Ro none n):zjO ρ n Ro:=h
theorem zqU(h:d ρ n fun t n'=>lInt t fun i=>Ro (some i) n'):zra d ρ n Ro:=h
theorem zvD(h:Ql (cutD xs lo hi)):lSl (.list xs) lo hi Ql:=h
theorem ztk(h:da ρ n fun x n1=>db ρ n1 fun y n2=>Qi x fun xs=>Qi y fun ys=>Rl (zipD xs ys) n2):dZip da db ρ n Rl:=h
end
theorem ztA{α:Type}{cs:List α}{f:α->Bool}{R:PyData->Prop}(h:R (.bool (cs.any f))):bAny [.list (cs.map fun b=>PyData.bool (f b))] R:=by
 have e:(cs.map fun b=>PyData.bool (f b))=(cs.map f).map PyData.bool:=by simp
 rw[e];refine⟨cs.map f,rfl,?_⟩;have e2:(cs.map f).any id=cs.any f:=by simp[List.any_map,Function.comp_def]
 rw[e2];exact h
theorem zv5{α:Type}{cs:List α}{f:α->Int}{R:PyData->Prop}(h:R (.int (cs.map f).sum)):bSum [.list (cs.map fun b=>PyData.int (f b))] R:=by
 have e:(cs.map fun b=>PyData.int (f b))=(cs.map f).map PyData.int:=by simp
 rw[e];exact⟨cs.map f,rfl,h⟩
theorem zgm{cs:qD}{tg:DTG}{tt:DTT}{d:DTE}{ρ0:En}{n:Nat}{Rl:List PyData->Nat->Prop}(F:PyData->PyData)(hl:cs.length<=16777216)
  (step:∀b∈cs,∀(K:qN) (X:Nat->Prop),K (F b) n->tg b ρ0 fun ρ1=>tt ρ1 n fun c n2=>if c=true then d ρ1 n2 K else X n2) (fin:Rl (cs.map F) n):JO tg tt d ρ0 cs [] n Rl:=by
 have:=Qs (cs:=cs) (D:=fun t=>t) (tg:=tg) (tt:=tt) (d:=d) (ρ0:=ρ0) (n:=n) (Rl:=Rl) F hl step fin
 simpa using this
theorem zha{ts:qD}:cutD ts (some 1) none=ts.tail:=by
 unfold cutD;rw[HT.zgy,show(some (1:Int))=some ((1:Nat):Int) from rfl,HT.ziV]
 cases ts with
 | nil=>simp
 | cons a l =>
  have:min 1 (a::l).length=1:=by simp
  rw[this];simp
theorem zlS{bs:qB}:zipD (pD bs) (pD bs).tail=(bs.zip bs.tail).map fun q=>.tuple [prD q.1,prD q.2]:=by
 unfold zipD pD;rw[<- List.map_tail,List.zip_map];simp
theorem VX{bits:Int}{bs:qB}:(∀q∈bs.zip bs.tail,eB q.1<=q.2.1)↔bs.Pairwise fun a b=>eB a<=b.1:=by
 induction bs with
 | nil=>simp
 | cons a l ih =>
  cases l with
  | nil=>simp
  | cons b l =>
   simp only[List.tail_cons,List.zip_cons_cons,List.forall_mem_cons]at ih ⊢;rw[ih];constructor
   ·rintro⟨h1,h2⟩;refine List.pairwise_cons.mpr ⟨fun c hc=>?_,h2⟩
    rcases List.mem_cons.mp hc with rfl|hc
    ·exact h1
    ·have:=(List.pairwise_cons.mp h2).1 c hc;have:=Qu b;omega
   ·intro h;have h':=List.pairwise_cons.mp h;exact⟨h'.1 b (.head _),h'.2⟩
class Stp (P:Prop)(Q:outParam Prop):Prop where
 go:Q->P
section
variable{t u tb:DTS}{D:DEnds}{ρ ρ0:En}{n i j m:Nat}{d da db dc d1 d2:DTE}{ds di:DTA}{c c' tt:DTT}{g:G2}{g':G2}{gc:GC}{gd:GD}{tg:DTG}{tgs:DTGs}{R:qN}{Rb:Bool->Nat->Prop}{Rl:List PyData->Nat->Prop}{Re:En->Prop}{x y:PyData}{xs ys acc:qD}{f:Int->Int->Int}{fb:PyData->Bool}{k:Bool}{capt:List Nat}
instance zui :Stp (sSeq t u D ρ n) ((t { D with nx:=u D } ρ n)):=⟨fun h=>ztc h⟩
instance zrP :Stp (zp2 D ρ n) ((D.nx ρ n)):=⟨fun h=>zqP h⟩
instance zuj :Stp (sRet d D ρ n) ((d ρ n fun t n'=>D.rt t n')):=⟨fun h=>ztd h⟩
instance zvh :Stp (sIf c t u D ρ n) ((c ρ n fun b n1=>if b=true then t D ρ n1 else u D ρ n1)):=⟨fun h=>zv6 h⟩
instance zul :Stp (sAsg d tg D ρ n) ((d ρ n fun t n'=>tg t ρ fun ρ'=>D.nx ρ' n')):=⟨fun h=>ztf h⟩
instance zuk :Stp (sFor di tg tb D ρ n) ((di ρ n fun ts n1=>forP tg tb D ts ρ n1)):=⟨fun h=>zte h⟩
instance zwv :Stp (dC x ρ n R) ((R x n)):=⟨fun h=>i_dC h⟩
instance zvj :Stp (dOp g da db ρ n R) ((da ρ n fun x n1=>db ρ n1 fun y n2=>g x y fun z=>R z n2)):=⟨fun h=>zv_ h⟩
instance zuw :Stp (dNew ds ρ n R) ((ds ρ n fun ts n'=>R (.list ts) n')):=⟨fun h=>zts h⟩
instance zuq :Stp (dTup ds ρ n R) ((ds ρ n fun ts n1=>R (.tuple ts) n1)):=⟨fun h=>ztm h⟩
instance zuv :Stp (dNil ρ n Rl) ((Rl [] n)):=⟨fun h=>ztr h⟩
instance zrV :Stp (QL d ds ρ n Rl) ((d ρ n fun t n1=>ds ρ n1 fun ts n2=>Rl (t::ts) n2)):=⟨fun h=>zqW h⟩
instance zvk :Stp (dFn gd ds ρ n R) ((ds ρ n fun ts n1=>gd ts n1 R)):=⟨fun h=>zwa h⟩
instance zuB :Stp (dFnL gd ds ρ n R) ((ds ρ n fun ts n1=>gd ts n1 fun t n2=>Qa t=true/\R t n2)):=⟨fun h=>ztx h⟩
instance zru :Stp (ZL gc ds ρ n R) ((ds ρ n fun ts n1=>gc ts fun z=>R z n1)):=⟨fun h=>zo_ h⟩
instance zun :Stp (isiD fb d ρ n R) ((d ρ n fun t n1=>lIsi fb t fun z=>R z n1)):=⟨fun h=>ztj h⟩
instance zuD :Stp (dAnd c c' ρ n Rb) ((c ρ n fun b n1=>if b=true then c' ρ n1 Rb else Rb false n1)):=⟨fun h=>ztz h⟩
instance zvi :Stp (dOr c c' ρ n Rb) ((c ρ n fun b n1=>if b=true then Rb true n1 else c' ρ n1 Rb)):=⟨fun h=>zv9 h⟩
instance zuu :Stp (dNot c ρ n Rb) ((c ρ n fun b n1=>Rb (!b) n1)):=⟨fun h=>ztq h⟩
instance zrW :Stp (zrc da db ρ n R) ((da ρ n fun t n1=>bolD t fun b=>if b=true then db ρ n1 R else R (.bool false) n1)):=⟨fun h=>zqY h⟩
instance zut :Stp (dOrV da db ρ n R) ((da ρ n fun t n1=>bolD t fun b=>if b=true then R (.bool true) n1 else db ρ n1 R)):=⟨fun h=>ztp h⟩
instance zrU :Stp (zrb da ρ n R) ((da ρ n fun t n1=>bolD t fun b=>R (.bool (!b)) n1)):=⟨fun h=>zqV h⟩
instance zuA :Stp (dIfE c da db ρ n R) ((c ρ n fun b n1=>if b=true then da ρ n1 R else db ρ n1 R)):=⟨fun h=>ztw h⟩
instance zur :Stp (dTru d ρ n Rb) ((d ρ n fun t n'=>truD t fun b=>Rb b n')):=⟨fun h=>ztn h⟩
instance zup :Stp (dYes ρ n Rb) ((Rb true n)):=⟨fun h=>ztl h⟩
instance zrN :Stp (U8 tgs (.tuple xs) ρ Re) ((tgs xs ρ Re)):=⟨fun h=>zqN h⟩
instance zrO :Stp (U7 [] ρ Re) ((Re ρ)):=⟨fun h=>zqO h⟩
instance zrs :Stp (Q6 tg tgs (x::xs) ρ Re) ((tg x ρ fun ρ'=>tgs xs ρ' Re)):=⟨fun h=>zo7 h⟩
instance zrQ :Stp (U3 d ρ n Rb) ((d ρ n fun t n'=>bolD t fun b=>Rb b n')):=⟨fun h=>zqR h⟩
instance zuC :Stp (dCat da db ρ n Rl) ((da ρ n fun x n1=>db ρ n1 fun y n2=>lCat x y fun zs=>Rl zs n2)):=⟨fun h=>zty h⟩
instance zuz :Stp (dItL d ρ n Rl) ((d ρ n fun t n'=>lLst t fun ts=>Rl ts n')):=⟨fun h=>ztv h⟩
instance zuy :Stp (dItT d ρ n Rl) ((d ρ n fun t n'=>lTup t fun ts=>Rl ts n')):=⟨fun h=>ztu h⟩
instance zrS :Stp (ZE d ρ n Rl) ((d ρ n fun t n'=>lInt t fun j=>(-(2 ^ 62)<=j/\j<2 ^ 62)/\Rl (Qw 0 j.toNat) n')):=⟨fun h=>zqT h⟩
instance zux :Stp (dNeg d ρ n R) ((d ρ n fun t n'=>lInt t fun i=>R (.int (-i)) n')):=⟨fun h=>ztt h⟩
instance zrt :Stp (Y2 g g' da db dc ρ n R) ((da ρ n fun x n1=>db ρ n1 fun y n2=>g x y fun z=>bolD z fun b=>if b=true then dc ρ n2 fun w n3=>g' y w fun z=>R z n3 else R (.bool false) n2)):=⟨fun h=>zo9 h⟩
instance zum {b:Bool}{A B:Prop}:Stp (if (!b)=true then A else B) ((if b=true then B else A)):=⟨fun h=>zth h⟩
end
section
variable{C:Int->Int->Prop}{f:Int->Int->Int}{fb:Int->Int->Bool}{i j k:Int}{R:PyData->Prop}{Rb:Bool->Prop}{xs ys:qD}{s t:Str}{a b:Bool}{u v x y:PyData}{Rn:qN}{n:Nat}
instance zug :Stp (oAdd (.int i) (.int j) R) ((R (.int (i+j)))):=⟨fun h=>zs5 h⟩
instance zuf :Stp (oAdd (.str s) (.str t) R) (((s.length+t.length<=16777216/\R (.str (s++t))))):=⟨fun h=>zs4 h⟩
instance zue :Stp (oAdd (.tuple xs) (.tuple ys) R) (((xs.length+ys.length<=16777216/\R (.tuple (xs++ys))))):=⟨fun h=>zs3 h⟩
instance zvd :Stp (oEq (.int i) (.int j) R) ((R (.bool (decide (i=j))))):=⟨fun h=>zv0 h⟩
instance zvb :Stp (oEq (.str s) (.str t) R) ((R (.bool (decide (s=t))))):=⟨fun h=>zvY h⟩
instance zva :Stp (oEq (.tuple xs) (.tuple ys) R) (((Okd (.tuple xs)/\Okd (.tuple ys)/\R (.bool (PyData.eqv (.tuple xs) (.tuple ys)))))):=⟨fun h=>zvX h⟩
instance zvc :Stp (oEq (.list xs) (.list ys) R) (((Okd (.list xs)/\Okd (.list ys)/\R (.bool (PyData.eqv (.list xs) (.list ys)))))):=⟨fun h=>zvZ h⟩
instance zuY :Stp (oNe (.int i) (.int j) R) ((R (.bool (!decide (i=j))))):=⟨fun h=>zvH h⟩
instance zuW :Stp (oNe (.str s) (.str t) R) ((R (.bool (!decide (s=t))))):=⟨fun h=>zvF h⟩
instance zuX :Stp (oNe (.list xs) (.list ys) R) (((Okd (.list xs)/\Okd (.list ys)/\R (.bool (!PyData.eqv (.list xs) (.list ys)))))):=⟨fun h=>zvG h⟩
instance zu8 :Stp (oIs (.bool a) (.bool b) R) ((R (.bool (a == b)))):=⟨fun h=>zvU h⟩
instance zu7 :Stp (oIs u .none R) ((R (.bool (isNone u)))):=⟨fun h=>zvT h⟩
instance zrM :Stp (oIsN u .none R) ((R (.bool (!isNone u)))):=⟨fun h=>zqK h⟩
instance zu_ :Stp (oIn u (.tuple xs) R) (((Okd u/\(∀t∈xs,Okd t)/\R (.bool (xs.any fun t=>t.eqv u))))):=⟨fun h=>zvW h⟩
instance zu3 :Stp (oLtA (.int i) (.int j) R) ((R (.bool (decide (i<j))))):=⟨fun h=>zvM h⟩
instance zu6 :Stp (oLeA (.int i) (.int j) R) ((R (.bool (decide (i<=j))))):=⟨fun h=>zvP h⟩
instance zu5 :Stp (oLeA (.str s) (.str t) R) ((R (.bool (!decide (t.cps.toList<s.cps.toList))))):=⟨fun h=>zvO h⟩
instance zub :Stp (oIx (.tuple (u::xs)) (.int 0) R) ((R u)):=⟨fun h=>zsY h⟩
instance zua :Stp (oIx (.tuple (u::v::xs)) (.int 1) R) ((R v)):=⟨fun h=>zsX h⟩
instance zt_ {w:PyData}:Stp (oIx (.tuple (u::v::w::xs)) (.int 2) R) ((R w)):=⟨fun h=>zsW h⟩
instance zt6 :Stp (truD (.bool a) Rb) ((Rb a)):=⟨fun h=>zsQ h⟩
instance zt5 :Stp (truD (.list xs) Rb) ((Rb (!xs.isEmpty))):=⟨fun h=>zsP h⟩
instance zvf :Stp (bolD (.bool a) Rb) ((Rb a)):=⟨fun h=>zv2 h⟩
instance zt9 :Stp (bLen [.list xs] R) ((R (.int xs.length))):=⟨fun h=>zsV h⟩
instance zt7 :Stp (bLen [.tuple xs] R) ((R (.int xs.length))):=⟨fun h=>zsT h⟩
instance zt8 :Stp (bLen [.str s] R) (((s.length<=16777216/\R (.int s.length)))):=⟨fun h=>zsU h⟩
instance zrq {ns:List Int}:Stp (bLen [SCR ns] R) ((R (.int ns.length))):=⟨fun h=>zo4 h⟩
instance zu1 :Stp (bMin [.int i,.int j] R) ((R (.int (if j<i then j else i)))):=⟨fun h=>zvK h⟩
instance zu2 :Stp (bMax [.int i,.int j] R) ((R (.int (if j > i then j else i)))):=⟨fun h=>zvL h⟩
instance zuc :Stp (bInt [.bool a] R) ((R (.int (if a then 1 else 0)))):=⟨fun h=>zs1 h⟩
instance zrp :Stp (ZO [.list xs] R) ((R (.tuple xs))):=⟨fun h=>zo3 h⟩
instance zrL {Rl:List PyData->Prop}:Stp (Qi (.list xs) Rl) ((Rl xs)):=⟨fun h=>zqJ h⟩
instance zrr {Rl:List PyData->Prop}:Stp (Qi (.tuple xs) Rl) ((Rl xs)):=⟨fun h=>zo5 h⟩
instance zve {Q:List PyData->Prop}:Stp (lCat (.list xs) (.list ys) Q) (((xs.length+ys.length<=16777216/\Q (xs++ys)))):=⟨fun h=>zv1 h⟩
instance zu4 {Q:List PyData->Prop}:Stp (lLst (.list xs) Q) ((Q xs)):=⟨fun h=>zvN h⟩
instance zuS {Q:List PyData->Prop}:Stp (lTup (.tuple xs) Q) ((Q xs)):=⟨fun h=>zvB h⟩
instance zu9 {i:Int}{Q:Int->Prop}:Stp (lInt (.int i) Q) ((Q i)):=⟨fun h=>zvV h⟩
instance zuZ :Stp (oMul (.int i) (.int j) R) ((CMul i j)/\(R (.int (i*j)))):=⟨fun h=>zvI h.1 h.2⟩
instance zu0 :Stp (oMod (.int i) (.int j) R) ((0<j)/\(R (.int (i % j)))):=⟨fun h=>zvJ h.1 h.2⟩
instance zud :Stp (Ug (.int i) (.int j) R) ((ZF i j)/\(R (.int (i / j)))):=⟨fun h=>zs2 h.1 h.2⟩
instance zuV :Stp (oShl (.int i) (.int j) R) ((CPow i j)/\(R (.int (i*2 ^ j.toNat)))):=⟨fun h=>zvE h.1 h.2⟩
instance zuT :Stp (oSub (.int i) (.int j) R) ((R (.int (i - j)))):=⟨fun h=>zvC h⟩
instance zuR :Stp (oXor (.int i) (.int j) R) ((R (.int (Builtin.bitXor i j)))):=⟨fun h=>zvA h⟩
instance zvg :Stp (oAnd (.int i) (.int j) R) ((R (.int (Builtin.bitAnd i j)))):=⟨fun h=>zv3 h⟩
instance zws :Stp (gB fb (.int i) (.int j) R) ((R (.bool (fb i j)))):=⟨fun h=>j_gB h⟩
instance zos :Stp (lIsi isInt (.int i) R) ((R (.bool true))):=⟨fun h=>zjG h⟩
instance zob :Stp (lIsi isInt (.bool a) R) ((R (.bool true))):=⟨fun h=>zif h⟩
instance zor :Stp (lIsi isInt (.str s) R) ((R (.bool false))):=⟨fun h=>zjF h⟩
instance zl_ :Stp (lIsi isInt (.tuple xs) R) ((R (.bool false))):=⟨fun h=>zgY h⟩
instance zn_ :Stp (lIsi isInt (.list xs) R) ((R (.bool false))):=⟨fun h=>zid h⟩
instance zn9 :Stp (lIsi isInt (.none) R) ((R (.bool false))):=⟨fun h=>zic h⟩
instance zoa :Stp (lIsi isInt (.dict []) R) ((R (.bool false))):=⟨fun h=>zie h⟩
instance zoc :Stp (lIsi isBool (.int i) R) ((R (.bool false))):=⟨fun h=>zig h⟩
instance zma :Stp (lIsi isBool (.bool a) R) ((R (.bool true))):=⟨fun h=>zgZ h⟩
instance zoo :Stp (lIsi isTup (.int i) R) ((R (.bool false))):=⟨fun h=>zjC h⟩
instance zn4 :Stp (lIsi isTup (.bool a) R) ((R (.bool false))):=⟨fun h=>zh8 h⟩
instance zon :Stp (lIsi isTup (.str s) R) ((R (.bool false))):=⟨fun h=>zjB h⟩
instance zl8 :Stp (lIsi isTup (.tuple xs) R) ((R (.bool true))):=⟨fun h=>zgW h⟩
instance zn2 :Stp (lIsi isTup (.list xs) R) ((R (.bool false))):=⟨fun h=>zh6 h⟩
instance zn1 :Stp (lIsi isTup (.none) R) ((R (.bool false))):=⟨fun h=>zh5 h⟩
instance zn3 :Stp (lIsi isTup (.dict []) R) ((R (.bool false))):=⟨fun h=>zh7 h⟩
instance zoq :Stp (lIsi isStr (.int i) R) ((R (.bool false))):=⟨fun h=>zjE h⟩
instance zn8 :Stp (lIsi isStr (.bool a) R) ((R (.bool false))):=⟨fun h=>zib h⟩
instance zop :Stp (lIsi isStr (.str s) R) ((R (.bool true))):=⟨fun h=>zjD h⟩
instance zl9 :Stp (lIsi isStr (.tuple xs) R) ((R (.bool false))):=⟨fun h=>zgX h⟩
instance zn6 :Stp (lIsi isStr (.list xs) R) ((R (.bool false))):=⟨fun h=>zh_ h⟩
instance zn5 :Stp (lIsi isStr (.none) R) ((R (.bool false))):=⟨fun h=>zh9 h⟩
instance zn7 :Stp (lIsi isStr (.dict []) R) ((R (.bool false))):=⟨fun h=>zia h⟩
end
section
variable{d da db:DTE}{dlo dhi:DTO}{ρ:En}{n:Nat}{R:qN}{Ro:Option Int->Nat->Prop}{Rl:List PyData->Nat->Prop}{xs ys:qD}{lo hi:Option Int}{Q:PyData->Prop}{Ql:List PyData->Prop}
instance zus :Stp (dSlL d dlo dhi ρ n Rl) ((d ρ n fun t n1=>dlo ρ n1 fun lo n2=>dhi ρ n2 fun hi n3=>lSl t lo hi fun z=>Rl z n3)):=⟨fun h=>zto h⟩
instance zp1 :Stp (zjO ρ n Ro) ((Ro none n)):=⟨fun h=>znf h⟩
instance zrT :Stp (zra d ρ n Ro) ((d ρ n fun t n'=>lInt t fun i=>Ro (some i) n')):=⟨fun h=>zqU h⟩
instance zuo :Stp (dZip da db ρ n Rl) ((da ρ n fun x n1=>db ρ n1 fun y n2=>Qi x fun xs=>Qi y fun ys=>Rl (zipD xs ys) n2)):=⟨fun h=>ztk h⟩
instance zuU :Stp (lSl (.list xs) lo hi Ql) ((Ql (cutD xs lo hi))):=⟨fun h=>zvD h⟩
end
section
instance zrR {d:DTE}{ρ:En}{n:Nat}{Rl:List PyData->Nat->Prop}:Stp (zq_ d ρ n Rl) ((d ρ n fun t n1=>ZJ t fun ts=>Rl ts n1)):=⟨fun h=>zqS h⟩
end
section
variable{R:PyData->Prop}{b:Bool}{A B:Prop}
instance zwt:Stp (if true=true then A else B) A:=⟨fun h=>iteT h⟩
instance zwu:Stp (if false=true then A else B) B:=⟨fun h=>iteF h⟩
instance zuh:Stp (oIsN (.bool true) (.bool true) R) (R (.bool false)):=⟨fun h=>zqL h⟩
end
class GetN (ρ:En)(i:Nat)(c:outParam (Option Cell)):Prop where
 e:ρ[i]?=some c
class SetN (ρ:En)(i:Nat)(c:Option Cell)(ρ':outParam En):Prop where
 e:ρ.set i c=ρ'
instance{a0:Option Cell}{as:En}:GetN (a0::as) 0 a0:=⟨rfl⟩
instance{a0 c:Option Cell}{as:En}:SetN (a0::as) 0 c (c::as):=⟨rfl⟩
instance{a0 a1:Option Cell}{as:En}:GetN (a0::a1::as) 1 a1:=⟨rfl⟩
instance{a0 a1 c:Option Cell}{as:En}:SetN (a0::a1::as) 1 c (a0::c::as):=⟨rfl⟩
instance{a0 a1 a2:Option Cell}{as:En}:GetN (a0::a1::a2::as) 2 a2:=⟨rfl⟩
instance{a0 a1 a2 c:Option Cell}{as:En}:SetN (a0::a1::a2::as) 2 c (a0::a1::c::as):=⟨rfl⟩
instance{a0 a1 a2 a3:Option Cell}{as:En}:GetN (a0::a1::a2::a3::as) 3 a3:=⟨rfl⟩
instance{a0 a1 a2 a3 c:Option Cell}{as:En}:SetN (a0::a1::a2::a3::as) 3 c (a0::a1::a2::c::as):=⟨rfl⟩
instance{a0 a1 a2 a3 a4:Option Cell}{as:En}:GetN (a0::a1::a2::a3::a4::as) 4 a4:=⟨rfl⟩
instance{a0 a1 a2 a3 a4 c:Option Cell}{as:En}:SetN (a0::a1::a2::a3::a4::as) 4 c (a0::a1::a2::a3::c::as):=⟨rfl⟩
instance{a0 a1 a2 a3 a4 a5:Option Cell}{as:En}:GetN (a0::a1::a2::a3::a4::a5::as) 5 a5:=⟨rfl⟩
instance{a0 a1 a2 a3 a4 a5 c:Option Cell}{as:En}:SetN (a0::a1::a2::a3::a4::a5::as) 5 c (a0::a1::a2::a3::a4::c::as):=⟨rfl⟩
instance{a0 a1 a2 a3 a4 a5 a6:Option Cell}{as:En}:GetN (a0::a1::a2::a3::a4::a5::a6::as) 6 a6:=⟨rfl⟩
instance{a0 a1 a2 a3 a4 a5 a6 c:Option Cell}{as:En}:SetN (a0::a1::a2::a3::a4::a5::a6::as) 6 c (a0::a1::a2::a3::a4::a5::c::as):=⟨rfl⟩
instance{a0 a1 a2 a3 a4 a5 a6 a7:Option Cell}{as:En}:GetN (a0::a1::a2::a3::a4::a5::a6::a7::as) 7 a7:=⟨rfl⟩
instance{a0 a1 a2 a3 a4 a5 a6 a7 c:Option Cell}{as:En}:SetN (a0::a1::a2::a3::a4::a5::a6::a7::as) 7 c (a0::a1::a2::a3::a4::a5::a6::c::as):=⟨rfl⟩
instance{a0 a1 a2 a3 a4 a5 a6 a7 a8:Option Cell}{as:En}:GetN (a0::a1::a2::a3::a4::a5::a6::a7::a8::as) 8 a8:=⟨rfl⟩
instance{a0 a1 a2 a3 a4 a5 a6 a7 a8 c:Option Cell}{as:En}:SetN (a0::a1::a2::a3::a4::a5::a6::a7::a8::as) 8 c (a0::a1::a2::a3::a4::a5::a6::a7::c::as):=⟨rfl⟩
instance{a0 a1 a2 a3 a4 a5 a6 a7 a8 a9:Option Cell}{as:En}:GetN (a0::a1::a2::a3::a4::a5::a6::a7::a8::a9::as) 9 a9:=⟨rfl⟩
instance{a0 a1 a2 a3 a4 a5 a6 a7 a8 a9 c:Option Cell}{as:En}:SetN (a0::a1::a2::a3::a4::a5::a6::a7::a8::a9::as) 9 c (a0::a1::a2::a3::a4::a5::a6::a7::a8::c::as):=⟨rfl⟩
instance{a0 a1 a2 a3 a4 a5 a6 a7 a8 a9 a10:Option Cell}{as:En}:GetN (a0::a1::a2::a3::a4::a5::a6::a7::a8::a9::a10::as) 10 a10:=⟨rfl⟩
instance{a0 a1 a2 a3 a4 a5 a6 a7 a8 a9 a10 c:Option Cell}{as:En}:SetN (a0::a1::a2::a3::a4::a5::a6::a7::a8::a9::a10::as) 10 c (a0::a1::a2::a3::a4::a5::a6::a7::a8::a9::c::as):=⟨rfl⟩
instance{a0 a1 a2 a3 a4 a5 a6 a7 a8 a9 a10 a11:Option Cell}{as:En}:GetN (a0::a1::a2::a3::a4::a5::a6::a7::a8::a9::a10::a11::as) 11 a11:=⟨rfl⟩
instance{a0 a1 a2 a3 a4 a5 a6 a7 a8 a9 a10 a11 c:Option Cell}{as:En}:SetN (a0::a1::a2::a3::a4::a5::a6::a7::a8::a9::a10::a11::as) 11 c (a0::a1::a2::a3::a4::a5::a6::a7::a8::a9::a10::c::as):=⟨rfl⟩
instance{a0 a1 a2 a3 a4 a5 a6 a7 a8 a9 a10 a11 a12:Option Cell}{as:En}:GetN (a0::a1::a2::a3::a4::a5::a6::a7::a8::a9::a10::a11::a12::as) 12 a12:=⟨rfl⟩
instance{a0 a1 a2 a3 a4 a5 a6 a7 a8 a9 a10 a11 a12 c:Option Cell}{as:En}:SetN (a0::a1::a2::a3::a4::a5::a6::a7::a8::a9::a10::a11::a12::as) 12 c (a0::a1::a2::a3::a4::a5::a6::a7::a8::a9::a10::a11::c::as):=⟨rfl⟩
instance{a0 a1 a2 a3 a4 a5 a6 a7 a8 a9 a10 a11 a12 a13:Option Cell}{as:En}:GetN (a0::a1::a2::a3::a4::a5::a6::a7::a8::a9::a10::a11::a12::a13::as) 13 a13:=⟨rfl⟩
instance{a0 a1 a2 a3 a4 a5 a6 a7 a8 a9 a10 a11 a12 a13 c:Option Cell}{as:En}:SetN (a0::a1::a2::a3::a4::a5::a6::a7::a8::a9::a10::a11::a12::a13::as) 13 c (a0::a1::a2::a3::a4::a5::a6::a7::a8::a9::a10::a11::a12::c::as):=⟨rfl⟩
instance{a0 a1 a2 a3 a4 a5 a6 a7 a8 a9 a10 a11 a12 a13 a14:Option Cell}{as:En}:GetN (a0::a1::a2::a3::a4::a5::a6::a7::a8::a9::a10::a11::a12::a13::a14::as) 14 a14:=⟨rfl⟩
instance{a0 a1 a2 a3 a4 a5 a6 a7 a8 a9 a10 a11 a12 a13 a14 c:Option Cell}{as:En}:SetN (a0::a1::a2::a3::a4::a5::a6::a7::a8::a9::a10::a11::a12::a13::a14::as) 14 c (a0::a1::a2::a3::a4::a5::a6::a7::a8::a9::a10::a11::a12::a13::c::as):=⟨rfl⟩
instance{a0 a1 a2 a3 a4 a5 a6 a7 a8 a9 a10 a11 a12 a13 a14 a15:Option Cell}{as:En}:GetN (a0::a1::a2::a3::a4::a5::a6::a7::a8::a9::a10::a11::a12::a13::a14::a15::as) 15 a15:=⟨rfl⟩
instance{a0 a1 a2 a3 a4 a5 a6 a7 a8 a9 a10 a11 a12 a13 a14 a15 c:Option Cell}{as:En}:SetN (a0::a1::a2::a3::a4::a5::a6::a7::a8::a9::a10::a11::a12::a13::a14::a15::as) 15 c (a0::a1::a2::a3::a4::a5::a6::a7::a8::a9::a10::a11::a12::a13::a14::c::as):=⟨rfl⟩
instance{a0 a1 a2 a3 a4 a5 a6 a7 a8 a9 a10 a11 a12 a13 a14 a15 a16:Option Cell}{as:En}:GetN (a0::a1::a2::a3::a4::a5::a6::a7::a8::a9::a10::a11::a12::a13::a14::a15::a16::as) 16 a16:=⟨rfl⟩
instance{a0 a1 a2 a3 a4 a5 a6 a7 a8 a9 a10 a11 a12 a13 a14 a15 a16 c:Option Cell}{as:En}:SetN (a0::a1::a2::a3::a4::a5::a6::a7::a8::a9::a10::a11::a12::a13::a14::a15::a16::as) 16 c (a0::a1::a2::a3::a4::a5::a6::a7::a8::a9::a10::a11::a12::a13::a14::a15::c::as):=⟨rfl⟩
instance{a0 a1 a2 a3 a4 a5 a6 a7 a8 a9 a10 a11 a12 a13 a14 a15 a16 a17:Option Cell}{as:En}:GetN (a0::a1::a2::a3::a4::a5::a6::a7::a8::a9::a10::a11::a12::a13::a14::a15::a16::a17::as) 17 a17:=⟨rfl⟩
instance{a0 a1 a2 a3 a4 a5 a6 a7 a8 a9 a10 a11 a12 a13 a14 a15 a16 a17 c:Option Cell}{as:En}:SetN (a0::a1::a2::a3::a4::a5::a6::a7::a8::a9::a10::a11::a12::a13::a14::a15::a16::a17::as) 17 c (a0::a1::a2::a3::a4::a5::a6::a7::a8::a9::a10::a11::a12::a13::a14::a15::a16::c::as):=⟨rfl⟩
instance{a0 a1 a2 a3 a4 a5 a6 a7 a8 a9 a10 a11 a12 a13 a14 a15 a16 a17 a18:Option Cell}{as:En}:GetN (a0::a1::a2::a3::a4::a5::a6::a7::a8::a9::a10::a11::a12::a13::a14::a15::a16::a17::a18::as) 18 a18:=⟨rfl⟩
instance{a0 a1 a2 a3 a4 a5 a6 a7 a8 a9 a10 a11 a12 a13 a14 a15 a16 a17 a18 c:Option Cell}{as:En}:SetN (a0::a1::a2::a3::a4::a5::a6::a7::a8::a9::a10::a11::a12::a13::a14::a15::a16::a17::a18::as) 18 c (a0::a1::a2::a3::a4::a5::a6::a7::a8::a9::a10::a11::a12::a13::a14::a15::a16::a17::c::as):=⟨rfl⟩
instance{a0 a1 a2 a3 a4 a5 a6 a7 a8 a9 a10 a11 a12 a13 a14 a15 a16 a17 a18 a19:Option Cell}{as:En}:GetN (a0::a1::a2::a3::a4::a5::a6::a7::a8::a9::a10::a11::a12::a13::a14::a15::a16::a17::a18::a19::as) 19 a19:=⟨rfl⟩
instance{a0 a1 a2 a3 a4 a5 a6 a7 a8 a9 a10 a11 a12 a13 a14 a15 a16 a17 a18 a19 c:Option Cell}{as:En}:SetN (a0::a1::a2::a3::a4::a5::a6::a7::a8::a9::a10::a11::a12::a13::a14::a15::a16::a17::a18::a19::as) 19 c (a0::a1::a2::a3::a4::a5::a6::a7::a8::a9::a10::a11::a12::a13::a14::a15::a16::a17::a18::c::as):=⟨rfl⟩
instance{a0 a1 a2 a3 a4 a5 a6 a7 a8 a9 a10 a11 a12 a13 a14 a15 a16 a17 a18 a19 a20:Option Cell}{as:En}:GetN (a0::a1::a2::a3::a4::a5::a6::a7::a8::a9::a10::a11::a12::a13::a14::a15::a16::a17::a18::a19::a20::as) 20 a20:=⟨rfl⟩
instance{a0 a1 a2 a3 a4 a5 a6 a7 a8 a9 a10 a11 a12 a13 a14 a15 a16 a17 a18 a19 a20 c:Option Cell}{as:En}:SetN (a0::a1::a2::a3::a4::a5::a6::a7::a8::a9::a10::a11::a12::a13::a14::a15::a16::a17::a18::a19::a20::as) 20 c (a0::a1::a2::a3::a4::a5::a6::a7::a8::a9::a10::a11::a12::a13::a14::a15::a16::a17::a18::a19::c::as):=⟨rfl⟩
instance{a0 a1 a2 a3 a4 a5 a6 a7 a8 a9 a10 a11 a12 a13 a14 a15 a16 a17 a18 a19 a20 a21:Option Cell}{as:En}:GetN (a0::a1::a2::a3::a4::a5::a6::a7::a8::a9::a10::a11::a12::a13::a14::a15::a16::a17::a18::a19::a20::a21::as) 21 a21:=⟨rfl⟩
instance{a0 a1 a2 a3 a4 a5 a6 a7 a8 a9 a10 a11 a12 a13 a14 a15 a16 a17 a18 a19 a20 a21 c:Option Cell}{as:En}:SetN (a0::a1::a2::a3::a4::a5::a6::a7::a8::a9::a10::a11::a12::a13::a14::a15::a16::a17::a18::a19::a20::a21::as) 21 c (a0::a1::a2::a3::a4::a5::a6::a7::a8::a9::a10::a11::a12::a13::a14::a15::a16::a17::a18::a19::a20::c::as):=⟨rfl⟩
instance{a0 a1 a2 a3 a4 a5 a6 a7 a8 a9 a10 a11 a12 a13 a14 a15 a16 a17 a18 a19 a20 a21 a22:Option Cell}{as:En}:GetN (a0::a1::a2::a3::a4::a5::a6::a7::a8::a9::a10::a11::a12::a13::a14::a15::a16::a17::a18::a19::a20::a21::a22::as) 22 a22:=⟨rfl⟩
instance{a0 a1 a2 a3 a4 a5 a6 a7 a8 a9 a10 a11 a12 a13 a14 a15 a16 a17 a18 a19 a20 a21 a22 c:Option Cell}{as:En}:SetN (a0::a1::a2::a3::a4::a5::a6::a7::a8::a9::a10::a11::a12::a13::a14::a15::a16::a17::a18::a19::a20::a21::a22::as) 22 c (a0::a1::a2::a3::a4::a5::a6::a7::a8::a9::a10::a11::a12::a13::a14::a15::a16::a17::a18::a19::a20::a21::c::as):=⟨rfl⟩
instance{a0 a1 a2 a3 a4 a5 a6 a7 a8 a9 a10 a11 a12 a13 a14 a15 a16 a17 a18 a19 a20 a21 a22 a23:Option Cell}{as:En}:GetN (a0::a1::a2::a3::a4::a5::a6::a7::a8::a9::a10::a11::a12::a13::a14::a15::a16::a17::a18::a19::a20::a21::a22::a23::as) 23 a23:=⟨rfl⟩
instance{a0 a1 a2 a3 a4 a5 a6 a7 a8 a9 a10 a11 a12 a13 a14 a15 a16 a17 a18 a19 a20 a21 a22 a23 c:Option Cell}{as:En}:SetN (a0::a1::a2::a3::a4::a5::a6::a7::a8::a9::a10::a11::a12::a13::a14::a15::a16::a17::a18::a19::a20::a21::a22::a23::as) 23 c (a0::a1::a2::a3::a4::a5::a6::a7::a8::a9::a10::a11::a12::a13::a14::a15::a16::a17::a18::a19::a20::a21::a22::c::as):=⟨rfl⟩
instance{a0 a1 a2 a3 a4 a5 a6 a7 a8 a9 a10 a11 a12 a13 a14 a15 a16 a17 a18 a19 a20 a21 a22 a23 a24:Option Cell}{as:En}:GetN (a0::a1::a2::a3::a4::a5::a6::a7::a8::a9::a10::a11::a12::a13::a14::a15::a16::a17::a18::a19::a20::a21::a22::a23::a24::as) 24 a24:=⟨rfl⟩
instance{a0 a1 a2 a3 a4 a5 a6 a7 a8 a9 a10 a11 a12 a13 a14 a15 a16 a17 a18 a19 a20 a21 a22 a23 a24 c:Option Cell}{as:En}:SetN (a0::a1::a2::a3::a4::a5::a6::a7::a8::a9::a10::a11::a12::a13::a14::a15::a16::a17::a18::a19::a20::a21::a22::a23::a24::as) 24 c (a0::a1::a2::a3::a4::a5::a6::a7::a8::a9::a10::a11::a12::a13::a14::a15::a16::a17::a18::a19::a20::a21::a22::a23::c::as):=⟨rfl⟩
instance{a0 a1 a2 a3 a4 a5 a6 a7 a8 a9 a10 a11 a12 a13 a14 a15 a16 a17 a18 a19 a20 a21 a22 a23 a24 a25:Option Cell}{as:En}:GetN (a0::a1::a2::a3::a4::a5::a6::a7::a8::a9::a10::a11::a12::a13::a14::a15::a16::a17::a18::a19::a20::a21::a22::a23::a24::a25::as) 25 a25:=⟨rfl⟩
instance{a0 a1 a2 a3 a4 a5 a6 a7 a8 a9 a10 a11 a12 a13 a14 a15 a16 a17 a18 a19 a20 a21 a22 a23 a24 a25 c:Option Cell}{as:En}:SetN (a0::a1::a2::a3::a4::a5::a6::a7::a8::a9::a10::a11::a12::a13::a14::a15::a16::a17::a18::a19::a20::a21::a22::a23::a24::a25::as) 25 c (a0::a1::a2::a3::a4::a5::a6::a7::a8::a9::a10::a11::a12::a13::a14::a15::a16::a17::a18::a19::a20::a21::a22::a23::a24::c::as):=⟨rfl⟩
class NormE (ρ:En)(ρ':outParam En):Prop where
 e:ρ=ρ'
instance{a:Option Cell}{as:En}:NormE (a::as) (a::as):=⟨rfl⟩
instance{ρ ρ1 ρ2:En}{i:Nat}{c:Option Cell}[h:NormE ρ ρ1][k:SetN ρ1 i c ρ2]:NormE (ρ.set i c) ρ2:=⟨by rw[h.e];exact k.e⟩
class NoneN (as:En)(nn:outParam En):Prop where
 e:List.replicate as.length none=nn
instance:NoneN [] []:=⟨rfl⟩
instance{a:Option Cell}{as nn:En}[h:NoneN as nn]:NoneN (a::as) (none::nn):=⟨by rw[List.length_cons,List.replicate_succ,h.e]⟩
class StartN (N:List Str)(ts:qD)(ρ:outParam En):Prop where
 e:J6 N ts=ρ
instance:StartN [] [] []:=⟨rfl⟩
instance{x:Str}{N:List Str}{ρ:En}[h:StartN N [] ρ]:StartN (x::N) [] (none::ρ):=⟨by
 have:=h.e;simp only[J6,List.map_nil,List.nil_append,List.length_nil,Nat.sub_zero]at this ⊢;rw[List.length_cons,List.replicate_succ,this]⟩
instance{x:Str}{N:List Str}{t:PyData}{ts:qD}{ρ:En}[h:StartN N ts ρ]:StartN (x::N) (t::ts) (some (.val t)::ρ):=⟨by
 have:=h.e;simp only[J6]at this ⊢;rw[List.map_cons,List.length_cons,List.length_cons,List.cons_append,Nat.add_sub_add_right,this]⟩
theorem zk1{d:DTS}{D:DEnds}{n:Nat}{N:List Str}{ts:qD}{ρ:En}[e:StartN N ts ρ](h:d D ρ n):d D (J6 N ts) n:=e.e.symm▸h
class CapN (is:List Nat)(ρ:En)(out:outParam En):Prop where
 e:(is.map fun i=>capV (ρ.getD i none))=out
class CapC (c:Option Cell)(c':outParam (Option Cell)):Prop where
 e:capV c=c'
instance{d:PyData}:CapC (some (.val d)) (some (.val d)):=⟨rfl⟩
instance{d:qD}:CapC (some (.own d)) none:=⟨rfl⟩
instance:CapC none none:=⟨rfl⟩
instance{ρ:En}:CapN [] ρ []:=⟨rfl⟩
instance{i:Nat}{is:List Nat}{ρ out:En}{c c':Option Cell}[g:GetN ρ i c][k:CapC c c'][h:CapN is ρ out]:CapN (i::is) ρ (c'::out):=⟨by
 have ge:=g.e;rw[List.map_cons,h.e,List.getD_eq_getElem?_getD,ge,Option.getD_some,k.e]⟩
class CompN (m:Nat)(capt:List Nat)(ρ:En)(ρ':outParam En):Prop where
 e:JE m capt ρ=ρ'
instance{x:Str}{capt:List Nat}{ρ out:En}[h:CapN capt ρ out]:CompN (List.length [x]) capt ρ (none::out):=⟨by unfold JE;rw[h.e];rfl⟩
instance{x y:Str}{capt:List Nat}{ρ out:En}[h:CapN capt ρ out]:CompN (List.length [x,y]) capt ρ (none::none::out):=⟨by unfold JE;rw[h.e];rfl⟩
instance{x y z:Str}{capt:List Nat}{ρ out:En}[h:CapN capt ρ out]:CompN (List.length [x,y,z]) capt ρ (none::none::none::out):=⟨by unfold JE;rw[h.e];rfl⟩
instance{x y z u:Str}{capt:List Nat}{ρ out:En}[h:CapN capt ρ out]:CompN (List.length [x,y,z,u]) capt ρ (none::none::none::none::out):=⟨by unfold JE;rw[h.e];rfl⟩
def SetK(i:Nat)(c:Option Cell)(K:En->Nat->Prop)(ρ:En)(n:Nat):Prop:=K (ρ.set i c) n
section
variable{t u:DTS}{D:DEnds}{ρ ρ0 ρ':En}{n i j m:Nat}{d dj:DTE}{ds di:DTA}{tt:DTT}{tg:DTG}{R:qN}{Rl:List PyData->Nat->Prop}{Re:En->Prop}{x:PyData}{xs:qD}{f:Int->Int->Int}{capt:List Nat}{c:Option Cell}{K:En->Nat->Prop}{q:Int}
instance zwA [h:SetN ρ i c ρ']:Stp (SetK i c K ρ n) (K ρ' n):=⟨fun k=>by unfold SetK;rw[h.e];exact k⟩
instance zwm:Stp (sSet i d D ρ n) (d ρ n fun t n'=>SetK i (some (.val t)) D.nx ρ n'):=⟨fun h=>h⟩
instance zwn:Stp (sOwn i ds D ρ n) (ds ρ n fun t n'=>SetK i (some (.own t)) D.nx ρ n'):=⟨fun h=>h⟩
instance zt4 [h:SetN ρ i (some (.val x)) ρ']:Stp (QD i x ρ Re) (Re ρ'):=⟨fun k=>by unfold QD;rw[h.e];exact k⟩
instance zwx [h:GetN ρ i (some (.val x))]:Stp (dVar i ρ n R) (R x n):=⟨fun k=>zpL h.e k⟩
instance zwy [h:GetN ρ i (some (.own xs))]:Stp (dOwn i ρ n R) (R (.list xs) n):=⟨fun k=>zpM h.e k⟩
instance zuI [h:GetN ρ i (some (.own xs))]:Stp (ZU i d D ρ n) (d ρ n fun t n'=>xs.length<16777216/\SetK i (some (.own (xs++[t]))) D.nx ρ n'):=⟨fun k=>zkw h.e k⟩
instance zuE [h:GetN ρ i (some (.own xs))][h':SetN ρ i (some (.val (.list xs))) ρ']:Stp (ZV i t D ρ n) (t D ρ' n):=⟨fun k=>zkv h.e (by rw[h'.e];exact k)⟩
instance zwF [h:GetN ρ i (some (.val (.int q)))]:Stp (sAug i f d D ρ n) (d ρ n fun t n'=>lInt t fun k=>SetK i (some (.val (.int (f q k)))) D.nx ρ n'):=⟨fun k=>zwb h.e k⟩
instance zwz [h:CompN m capt ρ ρ0]:Stp (dComp m capt di tg tt d ρ n Rl) (di ρ n fun ts n1=>JO tg tt d ρ0 ts [] n1 Rl):=⟨fun k=>zqX (by rw[h.e];exact k)⟩
theorem zr5{D:DEnds}{ρ:En}{i:Nat}{xs:qD}{x:PyData}{n:Nat}{j:Int}{k:Nat}(e:ixN xs.length j=some k)(h:SetK i (some (.own (xs.set k x))) D.nx ρ n) :
  (match ixN xs.length j with|some k=>D.nx (ρ.set i (some (.own (xs.set k x)))) n|none=>False):=by rw[e];exact h
instance zwC [h:GetN ρ i (some (.own xs))]:Stp (sPut i dj d D ρ n) (d ρ n fun t n1=>UM ρ i D dj t n1 xs):=⟨fun k=>zv7 h.e k⟩
instance zwo:Stp (UM ρ i D dj x n xs) (dj ρ n fun j n2=>lInt j fun j=>(match ixN xs.length j with|some k=>D.nx (ρ.set i (some (.own (xs.set k x)))) n2|none=>False)):=⟨fun h=>ztg h⟩
end
theorem Ud{ρ:En}{i:Nat}:ρ.set i (ρ.getD i none)=ρ:=by
 apply List.ext_getElem?
 intro j
 by_cases h:i=j
 ·subst h
  by_cases hl:i<ρ.length
  ·rw[List.getElem?_set_self hl,List.getD_eq_getElem?_getD,List.getElem?_eq_getElem hl];rfl
  ·rw[List.getElem?_eq_none (by simp;omega),List.getElem?_eq_none (by omega)]
 ·rw[List.getElem?_set_ne h]
section
variable{g:DTG}{tb:DTS}{D:DEnds}{ts:qD}{ρ:En}{n:Nat}
theorem ztM(i0:Nat)(Inv:Nat->Option Cell->Nat->Prop){ρf:Option Cell->En}[N:∀a0,NormE (ρ.set i0 a0) (ρf a0)](h0:Inv 0 (ρ.getD i0 none) n)
  (turn:∀(k:Nat) (t:PyData) (a0:Option Cell) (m:Nat) (K:En->Nat->Prop) (RT:qN) (BK:En->Nat->Prop),ts[k]?=some t->Inv k a0 m->(∀b0 m',Inv (k+1) b0 m'->K (ρf b0) m')->(∀t m,D.rt t m->RT t m)->(∀ρ m,D.nx ρ m->BK ρ m)->g t (ρf a0) fun ρ'=>tb { nx:=K,rt:=RT,bk:=BK,ct:=K } ρ' m)
  (fin:∀a0 m,Inv ts.length a0 m->D.nx (ρf a0) m):forP g tb D ts ρ n:=by
 refine YL (fun k ρ' m=>∃a0,ρ'=(ρ.set i0 a0)/\Inv k a0 m) ⟨_,?_,h0⟩ ?_ ?_
 ·rw[Ud]
 ·rintro k t ρ' m K e ⟨a0,rfl,hI⟩ hK;rw[(N a0).e];exact turn k t a0 m K D.rt D.nx e hI (fun b0 m' h=>(N b0).e▸hK _ _ ⟨b0,rfl,h⟩) (fun _ _ h=>h) (fun _ _ h=>h)
 ·rintro ρ' m ⟨a0,rfl,hI⟩;rw[(N a0).e];exact fin a0 m hI
theorem ztL(i0 i1:Nat)(Inv:Nat->Option Cell->Option Cell->Nat->Prop){ρf:Option Cell->Option Cell->En}[N:∀a0 a1,NormE ((ρ.set i0 a0).set i1 a1) (ρf a0 a1)](h0:Inv 0 (ρ.getD i0 none) (ρ.getD i1 none) n)
  (turn:∀(k:Nat) (t:PyData) (a0 a1:Option Cell) (m:Nat) (K:En->Nat->Prop) (RT:qN) (BK:En->Nat->Prop),ts[k]?=some t->Inv k a0 a1 m->(∀b0 b1 m',Inv (k+1) b0 b1 m'->K (ρf b0 b1) m')->(∀t m,D.rt t m->RT t m)->(∀ρ m,D.nx ρ m->BK ρ m)->g t (ρf a0 a1) fun ρ'=>tb { nx:=K,rt:=RT,bk:=BK,ct:=K } ρ' m)
  (fin:∀a0 a1 m,Inv ts.length a0 a1 m->D.nx (ρf a0 a1) m):forP g tb D ts ρ n:=by
 refine YL (fun k ρ' m=>∃a0 a1,ρ'=((ρ.set i0 a0).set i1 a1)/\Inv k a0 a1 m) ⟨_,_,?_,h0⟩ ?_ ?_
 ·rw[Ud,Ud]
 ·rintro k t ρ' m K e ⟨a0,a1,rfl,hI⟩ hK;rw[(N a0 a1).e];exact turn k t a0 a1 m K D.rt D.nx e hI (fun b0 b1 m' h=>(N b0 b1).e▸hK _ _ ⟨b0,b1,rfl,h⟩) (fun _ _ h=>h) (fun _ _ h=>h)
 ·rintro ρ' m ⟨a0,a1,rfl,hI⟩;rw[(N a0 a1).e];exact fin a0 a1 m hI
theorem ztK(i0 i1 i2:Nat)(Inv:Nat->Option Cell->Option Cell->Option Cell->Nat->Prop){ρf:Option Cell->Option Cell->Option Cell->En}[N:∀a0 a1 a2,NormE (((ρ.set i0 a0).set i1 a1).set i2 a2) (ρf a0 a1 a2)](h0:Inv 0 (ρ.getD i0 none) (ρ.getD i1 none) (ρ.getD i2 none) n)
  (turn:∀(k:Nat) (t:PyData) (a0 a1 a2:Option Cell) (m:Nat) (K:En->Nat->Prop) (RT:qN) (BK:En->Nat->Prop),ts[k]?=some t->Inv k a0 a1 a2 m->(∀b0 b1 b2 m',Inv (k+1) b0 b1 b2 m'->K (ρf b0 b1 b2) m')->(∀t m,D.rt t m->RT t m)->(∀ρ m,D.nx ρ m->BK ρ m)->g t (ρf a0 a1 a2) fun ρ'=>tb { nx:=K,rt:=RT,bk:=BK,ct:=K } ρ' m)
  (fin:∀a0 a1 a2 m,Inv ts.length a0 a1 a2 m->D.nx (ρf a0 a1 a2) m):forP g tb D ts ρ n:=by
 refine YL (fun k ρ' m=>∃a0 a1 a2,ρ'=(((ρ.set i0 a0).set i1 a1).set i2 a2)/\Inv k a0 a1 a2 m) ⟨_,_,_,?_,h0⟩ ?_ ?_
 ·rw[Ud,Ud,Ud]
 ·rintro k t ρ' m K e ⟨a0,a1,a2,rfl,hI⟩ hK;rw[(N a0 a1 a2).e];exact turn k t a0 a1 a2 m K D.rt D.nx e hI (fun b0 b1 b2 m' h=>(N b0 b1 b2).e▸hK _ _ ⟨b0,b1,b2,rfl,h⟩) (fun _ _ h=>h) (fun _ _ h=>h)
 ·rintro ρ' m ⟨a0,a1,a2,rfl,hI⟩;rw[(N a0 a1 a2).e];exact fin a0 a1 a2 m hI
theorem VE(i0 i1 i2 i3:Nat)(Inv:Nat->Option Cell->Option Cell->Option Cell->Option Cell->Nat->Prop){ρf:Option Cell->Option Cell->Option Cell->Option Cell->En}[N:∀a0 a1 a2 a3,NormE ((((ρ.set i0 a0).set i1 a1).set i2 a2).set i3 a3) (ρf a0 a1 a2 a3)](h0:Inv 0 (ρ.getD i0 none) (ρ.getD i1 none) (ρ.getD i2 none) (ρ.getD i3 none) n)
  (turn:∀(k:Nat) (t:PyData) (a0 a1 a2 a3:Option Cell) (m:Nat) (K:En->Nat->Prop) (RT:qN) (BK:En->Nat->Prop),ts[k]?=some t->Inv k a0 a1 a2 a3 m->(∀b0 b1 b2 b3 m',Inv (k+1) b0 b1 b2 b3 m'->K (ρf b0 b1 b2 b3) m')->(∀t m,D.rt t m->RT t m)->(∀ρ m,D.nx ρ m->BK ρ m)->g t (ρf a0 a1 a2 a3) fun ρ'=>tb { nx:=K,rt:=RT,bk:=BK,ct:=K } ρ' m)
  (fin:∀a0 a1 a2 a3 m,Inv ts.length a0 a1 a2 a3 m->D.nx (ρf a0 a1 a2 a3) m):forP g tb D ts ρ n:=by
 refine YL (fun k ρ' m=>∃a0 a1 a2 a3,ρ'=((((ρ.set i0 a0).set i1 a1).set i2 a2).set i3 a3)/\Inv k a0 a1 a2 a3 m) ⟨_,_,_,_,?_,h0⟩ ?_ ?_
 ·rw[Ud,Ud,Ud,Ud]
 ·rintro k t ρ' m K e ⟨a0,a1,a2,a3,rfl,hI⟩ hK;rw[(N a0 a1 a2 a3).e];exact turn k t a0 a1 a2 a3 m K D.rt D.nx e hI (fun b0 b1 b2 b3 m' h=>(N b0 b1 b2 b3).e▸hK _ _ ⟨b0,b1,b2,b3,rfl,h⟩) (fun _ _ h=>h) (fun _ _ h=>h)
 ·rintro ρ' m ⟨a0,a1,a2,a3,rfl,hI⟩;rw[(N a0 a1 a2 a3).e];exact fin a0 a1 a2 a3 m hI
theorem zo8{i j:Nat}{u:DTS}{D:DEnds}{as nn ρ1 ρ2:En}{n:Nat}{ns:List Int}{k:Int}[ej:GetN (some (.val (SCR ns))::as) j (some (.val (.int k)))][e1:NoneN as nn][e2:SetN (some (.val (SCR ns))::nn) j (some (.val (.int k))) ρ1][e3:SetN ρ1 i (some (.val HAND)) ρ2](hl:ns.length<=63)(k0:0<=k)(k1:k<=100)
  (h:∀(NX:En->Nat->Prop) (RT:qN) (BK CT:En->Nat->Prop),(∀ρ' m,D.nx (JM ρ') n->NX ρ' m)->(∀b m,D.rt (.bool b) n->RT (.bool b) m)->(∀ρ' m,D.bk (JM ρ') n->BK ρ' m)->(∀ρ' m,D.ct (JM ρ') n->CT ρ' m) ->
   u { nx:=NX,rt:=RT,bk:=BK,ct:=CT } ρ2 0):Y0 i j u D (some (.val (SCR ns))::as) n:=by
 refine zqQ (ρd:=some (.val (SCR ns))::nn) rfl ej.e hl k0 k1 ?_ ?_
 ·show some (Cell.val (SCR ns))::List.replicate (List.length (some (Cell.val (SCR ns))::as) - 1) none=_
  rw[List.length_cons,Nat.add_sub_cancel,e1.e]
 ·rw[e2.e,e3.e];exact h _ _ _ _ (fun _ _ h=>h) (fun b _ h=>⟨b,rfl,h⟩) (fun _ _ h=>h) (fun _ _ h=>h)
theorem ziM{c:DTT}{tb:DTS}{D:DEnds}{ρ:En}{n:Nat}(Inv:Nat->En->Nat->Prop){m:Nat}(h0:Inv m ρ n)
  (turn:∀m ρ n (K:En->Nat->Prop) (RT:qN) (BK:En->Nat->Prop),Inv m ρ n->(∀m' ρ' n',m'<m->Inv m' ρ' n'->K ρ' n')->(∀t m,D.rt t m->RT t m)->(∀ρ m,D.nx ρ m->BK ρ m) ->
   c ρ n fun b n1=>if b=true then tb { nx:=K,rt:=RT,bk:=BK,ct:=K } ρ n1 else BK ρ n1):zmb c tb D ρ n :=
 zhi Inv h0 fun m ρ n h=>turn m ρ n (fun ρ' n'=>∃m',m'<m/\Inv m' ρ' n') D.rt D.nx h (fun m' _ _ a b=>⟨m',a,b⟩) (fun _ _ h=>h) (fun _ _ h=>h)
end
open Builtin Builtin.Str
def cutS(x:Str)(lo hi:Option Int):Str:=⟨((x.cps.toList.drop (HT.sIx x.length 0 lo)).take (HT.sIx x.length x.length hi - HT.sIx x.length 0 lo)).toArray⟩
theorem VL(n d:Nat)(i:Int):((HT.sIx n d (some i):Nat):Int)=max 0 (min (if i<0 then i+(n:Int) else i) (n:Int)):=by
 simp only[HT.sIx]
 by_cases h:i<0
 ·simp only[h,if_true] <;> lia
 ·simp only[h,if_false] <;> lia
theorem zrF(lo hi:Option Int)(n:Nat):strSliceIndices lo hi 1 n=sliceRange ((HT.sIx n 0 lo:Nat):Int) ((HT.sIx n n hi:Nat):Int) 1:=by
 have d0:((HT.sIx n 0 none:Nat):Int)=0:=by simp[HT.sIx]
 have d1:((HT.sIx n n none:Nat):Int)=n:=by simp[HT.sIx]
 cases lo with
 | none =>
  cases hi with
  | none=>rw[d0,d1];rfl
  | some j=>rw[d0,VL];rfl
 | some i =>
  cases hi with
  | none=>rw[d1,VL];rfl
  | some j=>rw[VL,VL];rfl
theorem zl1(x:Str)(lo hi:Option Int):Txt.slice x lo hi=cutS x lo hi:=by
 have e:strSliceIndices lo hi 1 x.length=(List.range (HT.sIx x.length x.length hi - HT.sIx x.length 0 lo)).map (HT.sIx x.length 0 lo+·):=by rw[zrF,sliceRange_one]
 have pk:(strSliceIndices lo hi 1 x.length).filterMap (x.cps[·]?)=(x.cps.toList.drop (HT.sIx x.length 0 lo)).take (HT.sIx x.length x.length hi - HT.sIx x.length 0 lo):=by rw[e,pick_run]
 unfold Txt.slice;split
 ·rename_i h;have hl:(strSliceIndices lo hi 1 x.length).length=x.length:=by simpa using h
  rw[e,List.length_map,List.length_range]at hl;unfold cutS;have h2:HT.sIx x.length x.length hi<=x.length:=by
   cases hi with
   | none=>simp[HT.sIx]
   | some i=>simp only[HT.sIx];split <;> lia
  have z:HT.sIx x.length 0 lo=0\/x.length=0:=by lia
  have:(x.cps.toList.drop (HT.sIx x.length 0 lo)).take (HT.sIx x.length x.length hi - HT.sIx x.length 0 lo)=x.cps.toList:=by
   have sz:x.cps.toList.length=x.length:=by simp[Str.length]
   rcases z with z|z
   ·rw[z,List.drop_zero,List.take_of_length_le (by lia)]
   ·have:x.cps.toList=[]:=List.length_eq_zero_iff.mp (by lia)
    rw[this];simp
  rw[this]
 ·rw[pk];rfl
section
variable{X:Cx}
theorem zge{v:Value}{p:Option Int}(h:IsPart v p):∃l:Option (Int×Tok),v=partValue l/\l.map (·.1)=p:=by
 cases h with
 | none=>exact⟨none,rfl,rfl⟩
 | int i t=>exact⟨some (i,t),rfl,rfl⟩
def rSlS:V->Option Int->Option Int->Hp->VK->Prop:=fun x lo hi H Q=>∃z,x=.str z/\z.length<=sizeLine/\Q (.str (cutS z lo hi)) H
theorem zrI:SlR X rSlS:=by
 intro pins s σ H x v vl vu lo hi sl Q I rx hs pl pu h;obtain⟨z,rfl,hz,q⟩:=h;obtain⟨t,rfl⟩:=rx;obtain⟨l,rfl,rfl⟩:=zge pl;obtain⟨u,rfl,rfl⟩:=zge pu;have hs':s.heap.IsSlice sl l u none:=hs;refine⟨"str",_,F.slot_str_getitem.lookup,typeIs_str _ _ _,wpAny_getItem_str_slice (l:=l) (u:=u) (st:=none) hs' rfl (post_val_or_str ?_)⟩;have e:(if (((none:Option (Int×Tok)).map (·.1)).getD 1 == 1&&(slicePicked z l u none).length == z.length)=true then z else⟨((slicePicked z l u none).filterMap (z.cps[·]?)).toArray⟩)=Txt.slice z (l.map (·.1)) (u.map (·.1)):=rfl
 rw[e];refine⟨Nat.le_trans (Txt.slice_le z _ _) hz,fun t' k=>⟨.str (Txt.slice z (l.map (·.1)) (u.map (·.1))),H,I.tok _,⟨_,rfl⟩,?_⟩⟩
 rw[zl1];exact q
def oSlA(t:PyData)(lo hi:Option Int)(R:PyData->Prop):Prop:=match t with
 | .tuple ts=>R (.tuple (cutD ts lo hi))
 | .str x=>x.length<=16777216/\R (.str (cutS x lo hi))
 | _=>False
def dSlA(d:DTE)(dl du:DTO):DTE:=fun ρ n R=>d ρ n fun t n1=>dl ρ n1 fun lo n2=>du ρ n2 fun hi n3=>oSlA t lo hi fun z=>R z n3
variable{e a b iter tg:Expr}{d da db:DTE}{lo hi:Option Expr}{dlo dhi:DTO}{pos p2:Pos}
theorem Zp(h:DL X e d)(hl:DP X lo dlo)(hu:DP X hi dhi):DE X (.Subscript e (.Slice lo hi none p2) pos) (dSlA d dlo dhi):=by
 obtain⟨ta,pa,h⟩:=h;obtain⟨tl,pl,hl⟩:=hl;obtain⟨tu,pu,hu⟩:=hu;refine⟨_,zkd (SlR.or (SlR.or zrH zpY) zrI) pa pl pu,fun C ρ σ H n Q R S hd hq=>?_⟩
 refine h C ρ σ H n _ _ S hd fun t n1 v H1 r1 e1 h1 q1=>?_
 have S1:=S.on e1 h1;refine hl C ρ σ H1 n1 _ _ S1 r1 fun lo n2 H2 r2 e2 h2=>?_
 have S2:=S1.on e2 h2;refine hu C ρ σ H2 n2 _ _ S2 r2 fun hi n3 H3 r3 e3 h3=>?_
 have S3:=S2.on e3 h3;have q3:=(e2.trans e3).repT S.hx q1;cases t with
 | tuple ts =>
  obtain⟨a,vs,rfl,hs,rs⟩:=q3.tupI
  by_cases w:HT.sIx vs.length 0 lo=0/\HT.sIx vs.length vs.length hi=vs.length
  ·refine .inl (.inr ⟨a,vs,rfl,hs,w,hq _ n3 _ H3 r3 (e1.trans (e2.trans e3)) h3 ?_⟩);rw[zlI (by rw[<- rs.length];exact w)]
   exact q3.rep (by intro _ z;cases z)
  ·refine .inl (.inl ⟨a,vs,rfl,hs,w,fun p hp=>hq _ n3 _ _ r3 (e1.trans (e2.trans (e3.trans (ExtE.new hp)))) (h3.same (Qr hp)) ?_⟩)
   exact .newT (S3.free hp) hp (zkO rs lo hi)
 | str z =>
  rw[q3.strI];exact .inr ⟨z,rfl,r3.1,hq _ n3 _ H3 r3.2 (e1.trans (e2.trans e3)) h3 (.str _)⟩
 | _=>exact r3.elim
def repS(x:Str)(n:Int):Str:=⟨(List.replicate n.toNat x.cps.toList).flatten.toArray⟩
theorem zir(x:Array Nat):∀(n:Nat) (acc:Array Nat),(List.replicate n x).foldl (·++·) acc=(acc.toList++(List.replicate n x.toList).flatten).toArray
 | 0,acc=>by simp
 | n+1,acc=>by
  rw[List.replicate_succ,List.foldl_cons,zir x n,List.replicate_succ,List.flatten_cons];simp
theorem zqp:OpR X (binaryOp .Mult) (fun x y H Q=>∃i j,x=.str i/\y=.int j/\-100000<=j/\j<=100000/\i.length<=100/\Q (.str (repS i j)) H):=by
 intro pins s σ H x y v u Q I rx ry h;obtain⟨i,j,rfl,rfl,j0,j1,hi,q⟩:=h;obtain⟨t,rfl⟩:=rx;obtain⟨t',rfl⟩:=ry;have e0:decide (j < -(2 ^ 63:Int))=false:=decide_eq_false (by lia)
 have e1:decide (j>=2 ^ 63)=false:=decide_eq_false (by lia)
 have bnd:∀n:Nat,n<=100000->i.length*n<=10000000:=fun n hn=>Nat.mul_le_mul hi hn
 refine P.mul_str (by rw[e0,e1];rfl) (fun h1 _ h2=>?_) (fun h1 _=>?_) ?_
 ·have h3:(100:Int)<=(2 ^ 63 - 1) / j:=by
   apply Int.le_ediv_of_mul_le (by lia)
   lia
  lia
 ·have:=bnd j.toNat (by lia)
  unfold tooLong;exact decide_eq_false (by have:sizeLine=16777216:=rfl;lia)
 ·by_cases c1:j<1
  ·rw[if_pos c1];have e:repS i j=Str.empty:=by
    unfold repS;rw[show j.toNat=0 by lia];rfl
   rw[e]at q;exact⟨by decide,.str Str.empty,H,I.tok _,⟨_,rfl⟩,q⟩
  ·rw[if_neg c1]
   by_cases c2:(j == 1||i.length == 0)=true
   ·rw[if_pos c2];have e:repS i j=i:=by
     unfold repS;rw[Bool.or_eq_true,beq_iff_eq,beq_iff_eq]at c2;rcases c2 with c2|c2
     ·subst c2;simp
     ·have z:i.cps.toList=[]:=List.length_eq_zero_iff.mp (by simpa[Str.length] using c2)
      have z':i.cps=#[]:=by
       have:=congrArg List.toArray z;simpa using this
      rw[z];have:(List.replicate j.toNat ([]:List Nat)).flatten=[]:=by simp
      rw[this,<- z']
    rw[e]at q;exact⟨.str i,H,I,⟨_,rfl⟩,q⟩
   ·rw[if_neg c2];have e:repS i j=⟨(List.replicate j.toNat i.cps).foldl (·++·) #[]⟩:=by
     unfold repS;rw[zir];simp
    rw[e]at q;refine⟨?_,.str _,H,I.tok _,⟨_,rfl⟩,q⟩;have:=bnd j.toNat (by lia)
    show(⟨(List.replicate j.toNat i.cps).foldl (·++·) #[]⟩:Str).length<=sizeLine
    rw[<- e];unfold repS Str.length;rw[List.size_toArray,List.length_flatten,List.map_replicate,List.sum_replicate_nat,Array.length_toList];have e3:sizeLine=16777216:=rfl;have e4:j.toNat*i.cps.size=i.length*j.toNat:=by rw[Nat.mul_comm];rfl
    lia
def Vk:G2
 | .int i,.int j,R=>CMul i j/\R (.int (i*j))
 | .str i,.int j,R=>-100000<=j/\j<=100000/\i.length<=100/\R (.str (repS i j))
 | _,_,_=>False
theorem zqq:OpR X (binaryOp .Mult) (fun x y H Q=>(rI CMul fun i j=>.int (i*j)) x y H Q\/∃i j,x=.str i/\y=.int j/\-100000<=j/\j<=100000/\i.length<=100/\Q (.str (repS i j)) H):=OpR.or Q1 zqp
theorem zq0:Gp2 X (fun x y H Q=>(rI CMul fun i j=>.int (i*j)) x y H Q\/∃i j,x=.str i/\y=.int j/\-100000<=j/\j<=100000/\i.length<=100/\Q (.str (repS i j)) H) Vk:=by
 intro hd O H x y t u Q R dom rx ry g hq;unfold Vk at g;split at g
 ·rw[rx.intI,ry.intI];exact .inl ⟨_,_,rfl,rfl,g.1,hq _ _ H g.2 (Same.refl _) (.int _)⟩
 ·rw[rx.strI,ry.intI];exact .inr ⟨_,_,rfl,rfl,g.1,g.2.1,g.2.2.1,hq _ _ H g.2.2.2 (Same.refl _) (.str _)⟩
 ·exact g.elim
theorem zq9(ha:DL X a da)(hb:DL X b db):DE X (.BinOp a .Mult b pos) (dOp Vk da db):=QY zqq zq0 ha hb
end
def Its(z:Str):It:=⟨fun i _=>i<z.cps.size,fun i H x H'=>H'=H/\∃c,z.cps[i]?=some c/\x=.str ⟨#[c]⟩,fun i _=>z.cps.size<=i⟩
theorem zog{P:Program}{w:World}{K:qF}{tg:Expr}(z:Str)(t:Tok)(it:Addr)(T:String)(hT:T = "str_ascii_iterator" \/ T = "str_iterator"):Turn P w K tg (Its z) [it] it (fun i h=>h.IsStrIter it T z t i) where
 mem:=by simp
 obj:=fun i h st b hb=>by
  have e:b=it:=by simpa using hb
  subst e;obtain⟨o,e,c,d⟩:=st;exact⟨o,e,fun v z=>by rw[d]at z;cases z⟩
 keep:=fun i h h' st k=>by
  obtain⟨o,e,r⟩:=st;exact⟨o,k it (by simp) o e,r⟩
 item:=by
  intro X hP hw hK hc i pins s σ H E I hf st hg;subst hP hw hK;obtain⟨f0,f1,f2,f3,f4,f5⟩:=hf it (by simp)
  have hg:i<z.cps.size:=hg;have ec:z.cps[i]?=some z.cps[i]:=by simp[hg]
  have fin:∀h',h'.IsStrIter it T z t (i+1)->Heap.SameBut it s.heap h'->∃u,some (Value.str ⟨#[z.cps[i]]⟩ s.toks)=some u /\
    wpAny (model X.prog X.w) X.A (letOwnedTupleGo tg (.ref it) u) (fun _ s2=>∃x H',Inv X pins σ H' s2/\RelV x u/\(Its z).yld i H x H'/\s2.heap.IsStrIter it T z t (i+1)/\∀b∈[it],H' b=none) E { s with heap:=h',toks:=s.toks+1 }:=by
   intro h' st' sb;have I1:Inv X pins σ H { s with heap:=h',toks:=s.toks+1 }:=I.turned (t':=s.toks+1) (fun b o hb e=>(sb.2 b hb).trans e) f0 f1 f3 f4 f5
   obtain⟨o,e,c,d⟩:=id st';have ne:(T = "enumerate")=False:=by rcases hT with rfl|rfl <;> decide
   refine⟨_,rfl,Vf (s:={ s with heap:=h',toks:=s.toks+1 }) (n:=T) e c d (by rcases hT with rfl|rfl <;> decide) ⟨.str ⟨#[z.cps[i]]⟩,H,I1,⟨_,rfl⟩,⟨rfl,_,ec,rfl⟩,st',fun b hb=>(hf b hb).1⟩⟩
  rcases hT with rfl|rfl
  ·exact wpAny_pyNext_ascii_item st ec fin
  ·exact wpAny_pyNext_wide_item st ec fin
 done:=by
  intro X hP hw hK hc i pins s σ H E I hf st hg;subst hP hw hK;obtain⟨f0,f1,f2,f3,f4,f5⟩:=hf it (by simp)
  have hg:z.cps.size<=i:=hg;have ec:z.cps[i]?=none:=by simp[hg]
  rcases hT with rfl|rfl
  ·exact wpAny_pyNext_ascii_end (I.ok.hd hc) st ec fun h' eb=>⟨rfl,I.turned (t':=s.toks) (fun b o hb e=>eb b o hb e) f0 f1 f3 f4 f5⟩
  ·exact wpAny_pyNext_wide_end (I.ok.hd hc) st ec fun h' eb=>⟨rfl,I.turned (t':=s.toks) (fun b o hb e=>eb b o hb e) f0 f1 f3 f4 f5⟩
 self:=fun _ _ _ _ _ st h=>by
  rcases hT with rfl|rfl
  ·exact wpAny_pyIter_striter_ascii st h
  ·exact wpAny_pyIter_striter_wide st h
section
variable{X:Cx}{tg iter:Expr}{d:DTE}
def iStr(tl:TE):TI:=fun σ H R=>tl σ H fun x H1=>∃z,x=.str z/\R (Its z) H1
theorem zsc{l:Expr}{tl:TE}(hl:PE X l tl):PI X tg l (iStr tl):=by
 intro pins s σ H R I h;refine thn (hl pins s σ H _ I h) fun v s1 ⟨x,H1,I1,r1,q1⟩=>?_
 obtain⟨z,rfl,q⟩:=q1;obtain⟨t,rfl⟩:=r1;have key:∀T,(T = "str_ascii_iterator" \/ T = "str_iterator")->PIE X pins σ tg R (.ref s1.heap.objs.size) { s1 with heap:=s1.heap.push { cls:=.type T,data:=.fields #[.str z t,.int 0 0] } }:=by
  intro T hT;refine⟨s1.heap.objs.size,[s1.heap.objs.size],_,_,H1,rfl,I1.kept (t':=s1.toks) fun b o e=>Heap.get?_push_of_some _ e,zog z t _ T hT,⟨_,Heap.get?_push_size _ rfl,rfl,rfl⟩,fun b hb=>?_,q⟩
  have e:b=s1.heap.objs.size:=by simpa using hb
  subst e;exact I1.fpOk (Nat.le_refl _) (I1.hok.fresh (Nat.le_refl _))
 cases ha:z.cps.all (·<128)
 ·exact wpAny_pyIter_wide ha (key _ (.inr rfl))
 ·exact wpAny_pyIter_ascii ha (key _ (.inl rfl))
def sgnD(z:Str):List PyData:=z.cps.toList.map fun c=>.str ⟨#[c]⟩
theorem zta{K:qF}{hd:Option Addr}{P O:Addr->Prop}{H:Hp}{z:Str}:ItOk K hd P O H (Its z) (sgnD z):=by
 intro O2 H2 _ _ _;have sz:z.cps.toList.length=z.cps.size:=by simp
 refine⟨fun i t et=>?_,by show z.cps.size<=(sgnD z).length;unfold sgnD;rw[List.length_map];lia⟩
 unfold sgnD at et;rw[List.getElem?_map]at et;cases ec:z.cps.toList[i]? with
 | none=>rw[ec]at et;cases et
 | some c =>
  rw[ec]at et;cases et;obtain⟨hi,ec2⟩:=List.getElem?_eq_some_iff.mp ec;have hi':i<z.cps.size:=by lia
  have ec3:z.cps[i]?=some c:=by rw[<- Array.getElem?_toList];exact ec
  refine⟨hi',fun x H3 hy=>?_⟩
  obtain⟨rfl,c',e',rfl⟩:=hy;rw[ec3]at e';cases e';exact⟨Same.refl _,.str _⟩
def lStr:PyData->(Str->Prop)->Prop
 | .str z,R=>R z
 | _,_=>False
def dItS(d:DTE):DTA:=fun ρ n R=>d ρ n fun t n'=>lStr t fun z=>R (sgnD z) n'
theorem ztQ(h:DE X iter d):DI X tg iter (dItS d):=by
 obtain⟨ta,pa,h⟩:=h;refine⟨_,zsc pa,fun C ρ σ H n Q R S hd hq=>?_⟩
 refine h C ρ σ H n _ _ S hd fun t n' v H' r e1 hn q=>?_
 cases t with
 | str z =>
  rw[q.strI];exact⟨z,rfl,hq _ n' _ H' r e1 hn zta⟩
 | _=>exact r.elim
end
section
variable{ρ:En}{n:Nat}{d da db:DTE}{dlo dhi:DTO}{R:qN}{Rl:List PyData->Nat->Prop}{Q:PyData->Prop}{xs:qD}{lo hi:Option Int}{x:Str}{i j:Int}{Ql:List PyData->Prop}
instance zwB:Stp (dSlA d dlo dhi ρ n R) (d ρ n fun t n1=>dlo ρ n1 fun lo n2=>dhi ρ n2 fun hi n3=>oSlA t lo hi fun z=>R z n3):=⟨fun h=>h⟩
instance zwk:Stp (oSlA (.tuple xs) lo hi Q) (Q (.tuple (cutD xs lo hi))):=⟨fun h=>h⟩
instance zwl:Stp (oSlA (.str x) lo hi Q) (x.length<=16777216/\Q (.str (cutS x lo hi))):=⟨fun h=>h⟩
instance zwq:Stp (Vk (.str x) (.int j) Q) (-100000<=j/\j<=100000/\x.length<=100/\Q (.str (repS x j))):=⟨fun h=>h⟩
instance zwD:Stp (dItS d ρ n Rl) (d ρ n fun t n'=>lStr t fun z=>Rl (sgnD z) n'):=⟨fun h=>h⟩
instance zwr {Rs:Str->Prop}:Stp (lStr (.str x) Rs) (Rs x):=⟨fun h=>h⟩
end
mutual
def plnD:PyData->Bool
 | .dict []=>true
 | .dict _=>false
 | .tuple ts=>decide (ts.length<=1000000)&&YZ ts
 | .list ts=>decide (ts.length<=1000000)&&YZ ts
 | .str x=>decide (x.length<=1000000)
 | _=>true
def YZ:List PyData->Bool
 | []=>true
 | t::ts=>plnD t&&YZ ts
end
def PlnD(d:PyData):Prop:=plnD d=true
theorem ze8:∀{ts:qD},YZ ts=true↔∀t∈ts,PlnD t
 | []=>by simp[YZ]
 | t::ts=>by
  rw[YZ,Bool.and_eq_true,ze8 (ts:=ts)];constructor
  ·rintro⟨a,b⟩ u hu;rcases List.mem_cons.mp hu with rfl|hu
   ·exact a
   ·exact b u hu
  ·intro h;exact⟨h t (by simp),fun u hu=>h u (by simp[hu])⟩
theorem PlnD.tup{ts:qD}(h:PlnD (.tuple ts)):ts.length<=1000000/\∀t∈ts,PlnD t:=by
 unfold PlnD plnD at h;rw[Bool.and_eq_true,decide_eq_true_iff,ze8]at h;exact h
theorem PlnD.str{x:Str}(h:PlnD (.str x)):x.length<=1000000:=by
 unfold PlnD plnD at h;exact decide_eq_true_iff.mp h
theorem Z2{ts:qD}(l:ts.length<=1000000)(h:∀t∈ts,PlnD t):PlnD (.tuple ts):=by
 unfold PlnD plnD;rw[Bool.and_eq_true,decide_eq_true_iff,ze8];exact⟨l,h⟩
theorem zoD{x:Str}(h:x.length<=1000000):PlnD (.str x):=by unfold PlnD plnD;exact decide_eq_true h
theorem zgD{i:Int}:PlnD (.int i):=by unfold PlnD plnD;rfl
theorem zgC:∀t∈([]:qD),PlnD t:=fun t h=>nomatch h
theorem YS{x:PyData}{xs:qD}(h:PlnD x)(h':∀t∈xs,PlnD t):∀t∈x::xs,PlnD t:=fun t ht=>by
 rcases List.mem_cons.mp ht with rfl|ht
 ·exact h
 ·exact h' t ht
theorem PlnD.pln{d:PyData}(h:PlnD d):Pln d:=by
 cases d with
 | dict ks =>
  cases ks with
  | nil=>exact Ua
  | cons a b=>cases a with|mk x y=>simp[PlnD,plnD]at h
 | none=>exact Uc
 | bool=>exact QU
 | int=>exact QV
 | str=>exact Q7
 | list=>exact Ub
 | tuple=>exact Q8
def IsNm(s:Str):Prop:=1<=s.length/\s.length<=8/\∀c∈s.cps.toList,97<=c/\c<=122
def nmS(s:Str):Bool:=decide (1<=s.length)&&decide (s.length<=8)&&s.cps.toList.all fun c=>decide (97<=c)&&decide (c<=122)
theorem zmQ{s:Str}:nmS s=true↔IsNm s:=by
 unfold nmS IsNm;simp only[Bool.and_eq_true,decide_eq_true_iff,List.all_eq_true,and_assoc]
def nmD:PyData->Bool
 | .str s=>nmS s
 | _=>false
theorem Qv(s:Str):s.cps.toList.length=s.length:=by simp[Str.length]
theorem zmE{a b:Nat}:(([a]:List Nat)<[b])↔a<b:=by
 constructor
 ·intro h;cases h with
  | rel h=>exact h
  | cons h=>cases h
 ·intro h;exact .rel h
theorem zqF{a c:Nat}:(!decide (([c]:List Nat)<[a]))=decide (a<=c):=by
 rw[<- decide_not];exact decide_eq_decide.mpr (by rw[zmE];lia)
theorem zj0(a b:Str):(a++b).cps.toList=a.cps.toList++b.cps.toList:=by
 show(a.cps++b.cps).toList=_
 simp
theorem Str.ext'{a b:Str}(h:a.cps.toList=b.cps.toList):a=b:=by
 cases a with|mk a =>
 cases b with|mk b =>
 have:a=b:=Array.toList_inj.mp h;rw[this]
theorem zsZ{x:Str}{i:Int}{k c:Nat}{R:PyData->Prop}(hl:x.length<=16777216)(hi:i=(k:Int))(e:x.cps.toList[k]?=some c)(h:R (.str ⟨#[c]⟩)):oIx (.str x) (.int i) R:=by
 subst hi;have a:atI x.cps.toList (k:Int)=some c:=Bd.zjY (by lia) (by simpa using e)
 show x.length<=16777216/\(match atI x.cps.toList (k:Int) with|some c=>R (.str ⟨#[c]⟩)|none=>False)
 rw[a];exact⟨hl,h⟩
theorem letters{k:Nat}(h:k<26):(Str.ofString "abcdefghijklmnopqrstuvwxyz").cps.toList[k]?=some (97+k):=by
 have:∀i:Fin 26,(Str.ofString "abcdefghijklmnopqrstuvwxyz").cps.toList[i.val]?=some (97+i.val):=by decide +kernel
 exact this ⟨k,h⟩
theorem zfI{x:Str}{i:Int}{k:Nat}(h:i=(k:Int)):(cutS x none (some i)).cps.toList=x.cps.toList.take k:=by
 subst h;unfold cutS;rw[HT.zgy,HT.ziV];simp only[List.drop_zero,Nat.sub_zero];rw[<- Qv x];simp[List.take_eq_take_iff]
theorem ziv{x:Str}{i:Int}{k:Nat}(h:i=(k:Int))(hk:k<=x.length):(cutS x (some i) none).cps.toList=x.cps.toList.drop k:=by
 subst h;unfold cutS;rw[HT.zgy,HT.ziV,Nat.min_eq_left hk];show(List.take _ (List.drop k x.cps.toList))=_
 rw[List.take_of_length_le (by rw[List.length_drop,Qv];lia)]
def OkK(k:Nat)(t:PyData):Prop:=t.canLay0=true/\t.depth<=k
theorem OkK.okd{k:Nat}{t:PyData}(h:OkK k t)(hk:k<=60:=by decide):Okd t:=⟨h.1,Nat.le_trans h.2 hk⟩
theorem zqy{i:Int}:OkK 0 (.int i):=⟨by simp[PyData.canLay0],by simp[PyData.depth]⟩
theorem zoS:OkK 0 .none:=⟨by simp[PyData.canLay0],by simp[PyData.depth]⟩
theorem zqw{s:Str}(h:PyData.canLay0 (.str s)=true):OkK 0 (.str s):=⟨h,by simp[PyData.depth]⟩
theorem OkK.mono{k k':Nat}{t:PyData}(h:OkK k t)(l:k<=k'):OkK k' t:=⟨h.1,Nat.le_trans h.2 l⟩
theorem zja{k:Nat}:∀{ts:qD},(∀t∈ts,OkK k t)->PyData.canLayAll0 ts=true/\PyData.depthAll ts<=k
 | [],_=>⟨by simp[PyData.canLayAll0],by simp[PyData.depthAll]⟩
 | t::ts,h=>by
  obtain⟨a,b⟩:=zja (ts:=ts) fun u hu=>h u (by simp[hu])
  have c:=h t (by simp)
  refine⟨by simp[PyData.canLayAll0,c.1,a],?_⟩
  have:=c.2;simp only[PyData.depthAll];lia
theorem zmM{k:Nat}{ts:qD}(h:∀t∈ts,OkK k t):OkK (k+1) (.tuple ts):=by
 obtain⟨a,b⟩:=zja h;exact⟨by simpa only[PyData.canLay0] using a,by simp only[PyData.depth];lia⟩
theorem zqx{k:Nat}{ts:qD}(h:∀t∈ts,OkK k t):OkK (k+1) (.list ts):=by
 obtain⟨a,b⟩:=zja h;exact⟨by simpa only[PyData.canLay0] using a,by simp only[PyData.depth];lia⟩
theorem zsE{b:Int×Int}:OkK 1 (prD b):=zmM fun t ht=>by
 simp only[List.mem_cons,List.not_mem_nil,or_false]at ht;rcases ht with rfl|rfl <;> exact zqy
theorem Vi{s:Str}(h:IsNm s):OkK 0 (.str s):=zqw (by
 simp only[PyData.canLay0];show(s.cps.all (·<0x110000))=true
 rw[<- Array.all_toList,List.all_eq_true];intro c hc;have:=h.2.2 c hc;exact decide_eq_true (by lia))
theorem zph{xs:qD}:PyData.eqv (.list xs) (.list [])=xs.isEmpty:=by
 cases xs with
 | nil=>rfl
 | cons a b=>rfl
theorem Vd{α:Type}{cs:List α}{D:α->PyData}{tg:DTG}{tt:DTT}{d:DTE}{ρ0:En}{n:Nat}{Rl:List PyData->Nat->Prop}(p:α->Bool)(F:α->PyData)(hl:cs.length<=16777216)
  (step:∀b∈cs,∀(K:qN) (X:Nat->Prop),(p b=true->K (F b) n)->(p b=false->X n)->tg (D b) ρ0 fun ρ1=>tt ρ1 n fun c n2=>if c=true then d ρ1 n2 K else X n2) (fin:Rl ((cs.filter p).map F) n):JO tg tt d ρ0 (cs.map D) [] n Rl:=by
 refine ZK (fun j acc m=>m=n/\acc=((cs.take j).filter p).map F) ⟨rfl,rfl⟩ ?_ ?_
 ·rintro j x acc m K ej ⟨rfl,rfl⟩ hK;rw[List.getElem?_map]at ej;cases eb:cs[j]? with
  | none=>rw[eb]at ej;cases ej
  | some b =>
   rw[eb]at ej;cases ej;obtain⟨hj,e2⟩:=List.getElem?_eq_some_iff.mp eb;have tk:cs.take (j+1)=cs.take j++[b]:=by rw[List.take_succ,eb];rfl
   refine step b (List.mem_of_getElem? eb) _ _ (fun hp=>⟨?_,hK _ _ ⟨rfl,?_⟩⟩) (fun hp=>hK _ _ ⟨rfl,?_⟩)
   ·have:=List.length_filter_le p (cs.take j);simp at this ⊢;lia
   ·rw[tk,List.filter_append,List.map_append];simp[hp]
   ·rw[tk,List.filter_append,List.map_append];simp[hp]
 ·rintro acc m ⟨rfl,rfl⟩;rw[List.length_map,List.take_length];exact fin
theorem zow{x:Str}{n:Int}:(repS x n).cps.toList=(List.replicate n.toNat x.cps.toList).flatten:=rfl
section
variable{prog:Program}{w:World}{A:Around}{R:Result->Shared->Prop}{s:Shared}{elt tg1 it1 tg2 it2:Expr}{ifs1 ifs2:List Expr}{scope:Scope}{pos:Pos}{it acc:Value}{env:Env}
theorem zix(it acc:Value)(env:Env):compTurn (.ListComp elt [⟨tg1,it1,ifs1,0⟩,⟨tg2,it2,ifs2,0⟩] scope pos) 0 it acc env=(do
      standAt it1.pos
      match <- pyNext it with
      | none=>pure (.done .next)
      | some v =>
       letOwnedTupleGo tg1 it v
       assign tg1 env v
       let mut ok:=true
       for c in ifs1 do
        if ok then ok <- isTrue c env (eval c env)
       if ok then
        let x <- eval it2 env
        standAt it2.pos
        let x <- foldedSetIterable it2 env x
        let _ <- runOwn (.compStart (.ListComp elt [⟨tg1,it1,ifs1,0⟩,⟨tg2,it2,ifs2,0⟩] scope pos) 1 (<- holding [x] (pyIter x)) acc env) env
       again (.compLoop (.ListComp elt [⟨tg1,it1,ifs1,0⟩,⟨tg2,it2,ifs2,0⟩] scope pos) 0 it acc env)):=by rfl
theorem zjQ(it acc:Value)(env:Env):compTurn (.ListComp elt [⟨tg1,it1,ifs1,0⟩,⟨tg2,it2,ifs2,0⟩] scope pos) 1 it acc env=(do
      standAt it2.pos
      match <- pyNext it with
      | none=>pure (.done .next)
      | some v =>
       letOwnedTupleGo tg2 it v
       assign tg2 env v
       let mut ok:=true
       for c in ifs2 do
        if ok then ok <- isTrue c env (eval c env)
       if ok then
        (do let _ <- call (.builtin "list.append") [acc,<- eval elt env])
       again (.compLoop (.ListComp elt [⟨tg1,it1,ifs1,0⟩,⟨tg2,it2,ifs2,0⟩] scope pos) 1 it acc env)):=by rfl
theorem zoe(I:Nat->Shared->Prop)
  (turn:∀n s,I n s->wpAny (model prog w) A (pyNext it) (fun r s₁=>match r with
   | none=>R (.ok .next) s₁
   | some v=>wpAny (model prog w) A (letOwnedTupleGo tg2 it v) (fun _ s₂=>wpAny (model prog w) A (assign tg2 env v) (fun _ s₃ =>
     wpAny (model prog w) A (forIn ifs2 true fun c r=>if r=true then do let ok <- isTrue c env (eval c env);pure (ForInStep.yield ok) else pure (ForInStep.yield r)) (fun ok s₄ =>
      if ok=true then wpAny (model prog w) A (eval elt env) (fun x s₅=>wpAny (model prog w) A (call (.builtin "list.append") [acc,x]) (fun _ s₆=>∃m,m<n/\I m s₆) NoX s₅) NoX s₄
      else ∃m,m<n/\I m s₄) NoX s₃) NoX s₂) NoX s₁) NoX s) (n:Nat) (h:I n s) :
  codeAny (model prog w) A (.compLoop (.ListComp elt [⟨tg1,it1,ifs1,0⟩,⟨tg2,it2,ifs2,0⟩] scope pos) 1 it acc env) R s:=by
 refine codeAny_loop rfl I (fun n s hI=>?_) n h
 show wpAny _ A ((compTurn (.ListComp elt [⟨tg1,it1,ifs1,0⟩,⟨tg2,it2,ifs2,0⟩] scope pos) 1 it acc env).onRaise (fun x=>do noteFrame x env;theTreesLotGoes x)) _ _ s
 refine wpAny_noted (wpAny_mono (E:=NoX) ?_ (fun _ _ q=>q) fun _ _ z=>False.elim z)
 rw[zjQ];refine wpAny_bind (wpAny_standAt (wpAny_bind (thn (turn n s hI) fun r s₁ h₁=>?_)))
 cases r with
 | none=>exact wpAny_pure h₁
 | some v =>
  refine wpAny_bind (thn h₁ fun _ s₂ h₂=>wpAny_bind (thn h₂ fun _ s₃ h₃=>wpAny_bind (thn h₃ fun ok s₄ h₄=>?_)))
  cases ok with
  | false=>exact wpAny_pure ⟨rfl,h₄⟩
  | true =>
   refine wpAny_bind (wpAny_bind (thn h₄ fun x s₅ h₅=>wpAny_bind (thn h₅ fun _ s₆ h₆=>?_)))
   exact wpAny_pure (wpAny_pure ⟨rfl,h₆⟩)
theorem zlW(hs:∀x,foldedSetIterable it2 env x=pure x)(I:Nat->Shared->Prop)
  (turn:∀n s,I n s->wpAny (model prog w) A (pyNext it) (fun r s₁=>match r with
   | none=>R (.ok .next) s₁
   | some v=>wpAny (model prog w) A (letOwnedTupleGo tg1 it v) (fun _ s₂=>wpAny (model prog w) A (assign tg1 env v) (fun _ s₃ =>
     wpAny (model prog w) A (forIn ifs1 true fun c r=>if r=true then do let ok <- isTrue c env (eval c env);pure (ForInStep.yield ok) else pure (ForInStep.yield r)) (fun ok s₄ =>
      if ok=true then wpAny (model prog w) A (eval it2 env) (fun x s₅=>wpAny (model prog w) A (pyIter x) (fun itv s₆ =>
       codeAny (model prog w) A (.compStart (.ListComp elt [⟨tg1,it1,ifs1,0⟩,⟨tg2,it2,ifs2,0⟩] scope pos) 1 itv acc env) (fun r s₇=>r=.ok .next/\∃m,m<n/\I m s₇) s₆) NoX s₅) NoX s₄
      else ∃m,m<n/\I m s₄) NoX s₃) NoX s₂) NoX s₁) NoX s) (n:Nat) (h:I n s) :
  codeAny (model prog w) A (.compLoop (.ListComp elt [⟨tg1,it1,ifs1,0⟩,⟨tg2,it2,ifs2,0⟩] scope pos) 0 it acc env) R s:=by
 refine codeAny_loop rfl I (fun n s hI=>?_) n h
 show wpAny _ A ((compTurn (.ListComp elt [⟨tg1,it1,ifs1,0⟩,⟨tg2,it2,ifs2,0⟩] scope pos) 0 it acc env).onRaise (fun x=>do noteFrame x env;theTreesLotGoes x)) _ _ s
 refine wpAny_noted (wpAny_mono (E:=NoX) ?_ (fun _ _ q=>q) fun _ _ z=>False.elim z)
 rw[zix];refine wpAny_bind (wpAny_standAt (wpAny_bind (thn (turn n s hI) fun r s₁ h₁=>?_)))
 cases r with
 | none=>exact wpAny_pure h₁
 | some v =>
  refine wpAny_bind (thn h₁ fun _ s₂ h₂=>wpAny_bind (thn h₂ fun _ s₃ h₃=>wpAny_bind (thn h₃ fun ok s₄ h₄=>?_)))
  cases ok with
  | false=>exact wpAny_pure ⟨rfl,h₄⟩
  | true =>
   refine wpAny_bind (thn h₄ fun x s₅ h₅=>wpAny_bind (wpAny_standAt (wpAny_bind (wpAny_of_eq (hs x) (wpAny_bind (wpAny_holding (thn h₅ fun itv s₆ h₆=>?_)))))))
   refine wpAny_bind (wpAny_runOwn (codeAny_mono h₆ fun r s₇ h₇=>?_))
   obtain⟨rfl,m,hm,hI'⟩:=h₇;exact wpAny_pure ⟨rfl,m,hm,hI'⟩
theorem zoj
  (h0:codeAny (model prog w) A (.compLoop (.ListComp elt [⟨tg1,it1,ifs1,0⟩,⟨tg2,it2,ifs2,0⟩] scope pos) 1 it acc env) R s)
  (h:wpAny (model prog w) A (pyIter it) (fun it' s'=>codeAny (model prog w) A (.compLoop (.ListComp elt [⟨tg1,it1,ifs1,0⟩,⟨tg2,it2,ifs2,0⟩] scope pos) 1 it' acc env) R s')
   (notedBy (model prog w) A env fun x s'=>R (.error x) s') s) :
  codeAny (model prog w) A (.compStart (.ListComp elt [⟨tg1,it1,ifs1,0⟩,⟨tg2,it2,ifs2,0⟩] scope pos) 1 it acc env) R s:=by
 refine codeAny_of_tree ?_;show wpAny _ _ ((compStart (.ListComp elt [⟨tg1,it1,ifs1,0⟩,⟨tg2,it2,ifs2,0⟩] scope pos) 1 it acc env).onRaise (fun x=>do noteFrame x env;standAt theWindowsPlace)) _ _ s
 refine wpAny_notedAt ?_;unfold compStart;show wpAny _ _ (PySem.ask >>= _) _ _ s
 refine wpAny_bind (wpAny_askSetting (wpAny_ite ?_));split
 ·first
   | exact wpAny_bind (wpAny_pure (wpAny_pure (And.intro rfl h0)))
   | exact wpAny_pure (And.intro rfl h0)
 ·first
   | exact wpAny_bind (wpAny_rule (wpAny_bind (wpAny_standAt (wpAny_bind (wpAny_mono h (fun it' s' h'=>wpAny_pure (And.intro rfl h')) fun _ _ x=>x)))))
   | (refine wpAny_bind (wpAny_rule ?_);show wpAny _ _ (standAt it2.pos >>= _) _ _ s;exact wpAny_bind (wpAny_standAt (wpAny_bind (wpAny_mono h (fun it' s' h'=>wpAny_pure (And.intro rfl h')) fun _ _ x=>x))))
end
def Vz(g:TG)(tt:TT)(te:TE)(σ:St)(J:It)(H1:Hp)(D:Addr)(Q:Hp->Prop):Prop:=∃W:Nat->Nat->Hp->Prop,(∃m,W 0 m H1)/\∀i m H2,W i m H2 ->
 (J.stop i H2/\Q H2)\/(J.go i H2/\∃(N:V->Hp->Prop) (N':Hp->Prop),(∀v H6,N v H6->∃ys,H6 D=some (.lst ys)/\ys.length<sizeLine/\∃m',m'<m/\W (i+1) m' (upd H6 D (.lst (ys++[v]))))/\(∀H5,N' H5->∃m',m'<m/\W (i+1) m' H5) /\
  ∀x H3,J.yld i H2 x H3->g x σ H3 fun σ4 H4=>Wk σ σ4/\tt σ4 H4 fun b H5=>if b=true then te σ4 H5 N else N' H5)
section
variable{Y:Cx}{elt tg1 it1 tg2 it2:Expr}{ifs1 ifs2:List Expr}{scope:Scope}{pos:Pos}{g:TG}{tt:TT}{te:TE}
theorem zne(hxe:Y.xe=NoX)(hc:Y.calm=true)(hg:PG Y tg2 g)(ht:PTs Y ifs2 tt)(he:PE Y elt te){pins:qO}{σ:St}{D:Addr}{itv:Value}{s:Shared}{Q:Hp->Prop}{R:Result->Shared->Prop}
  (h:PIE Y pins σ tg2 (fun J H1=>Vz g tt te σ J H1 D Q) itv s) (hR:∀s' H',Inv Y pins σ H' s'->Q H'->R (.ok .next) s') :
  codeAny (model Y.prog Y.w) Y.A (.compStart (.ListComp elt [⟨tg1,it1,ifs1,0⟩,⟨tg2,it2,ifs2,0⟩] scope pos) 1 itv (.ref D) Y.env) R s:=by
 obtain⟨it,fp,tn,J,H2,e,I2,T,st2,f2,W,⟨m0,w0⟩,turn⟩:=h;subst e;have stat:∀{H':Hp},(∀b∈fp,H' b=none)->∀b∈fp,FpOk Y pins H' b:=fun hn b hb=>⟨hn b hb,(f2 b hb).2⟩
 have loop:codeAny (model Y.prog Y.w) Y.A (.compLoop (.ListComp elt [⟨tg1,it1,ifs1,0⟩,⟨tg2,it2,ifs2,0⟩] scope pos) 1 (.ref it) (.ref D) Y.env) R s:=by
  refine zoe (fun n s'=>∃i H',Inv Y pins σ H' s'/\tn i s'.heap/\(∀b∈fp,H' b=none)/\W i n H') ?_ m0 ⟨0,_,I2,st2,fun b hb=>(f2 b hb).1,w0⟩
  rintro n s4 ⟨i,H4,I4,st4,fr4,w4⟩;rcases turn i n H4 w4 with⟨stop,qn⟩|⟨go,N,N',hN,hN',step⟩
  ·refine thn (T.done Y rfl rfl rfl hc i pins s4 _ H4 NoX I4 (stat fr4) st4 stop) fun r s5 ⟨hr,I5⟩=>?_
   subst hr;exact hR _ _ I5 qn
  ·refine thn (T.item Y rfl rfl rfl hc i pins s4 _ H4 NoX I4 (stat fr4) st4 go) fun r s5 ⟨u,hr,h5⟩=>?_
   subst hr;refine thn h5 fun _ s6 ⟨x,H6,I6,r6,y6,st6,fr6⟩=>?_
   have I6':=I6.pinned (stat fr6) (T.obj _ _ st6);have a1:=hg _ s6 _ H6 x u _ I6' r6 (step x H6 y6);rw[hxe]at a1;refine thn a1 fun _ s7 ⟨σ7,H7,I7,wk,q7⟩=>?_
   obtain⟨wl,wv⟩:=wk.weak;have again:∀{s8:Shared} {H8:Hp} {m':Nat},Inv Y (pins++Yz fp s6.heap) σ7 H8 s8->m'<n->W (i+1) m' H8 ->
     ∃m,m<n/\∃i H',Inv Y pins σ H' s8/\tn i s8.heap/\(∀b∈fp,H' b=none)/\W i m H':=fun {s8 H8 m'} I8 hm w8=>by
    refine⟨m',hm,i+1,H8,(I8.unpinned).weak wl wv,T.keep _ _ _ st6 fun b hb o e=>(I8.pin (b,o) (List.mem_append_right _ (List.mem_append_right _ (UK hb e)))).1,fun b hb=>?_,w8⟩
    obtain⟨o,e,d⟩:=T.obj _ _ st6 b hb;exact(I8.pin (b,o) (List.mem_append_right _ (List.mem_append_right _ (UK hb e)))).2.1
   have a2:=ht _ s7 σ7 H7 _ I7 q7;rw[hxe]at a2;refine thn a2 fun ok s8 ⟨H8,I8,q8⟩=>?_
   cases ok with
   | false =>
    obtain⟨m',hm,w8⟩:=hN' H8 (by simpa using q8)
    exact again I8 hm w8
   | true =>
    have a3:=he _ s8 σ7 H8 N I8 (by simpa using q8)
    rw[hxe]at a3;refine thn a3 fun y s9 ⟨v,H9,I9,r9,q9⟩=>?_
    obtain⟨ys,hD,hl,m',hm,w9⟩:=hN v H9 q9;have a4:=zfc (X:=Y) _ s9 σ7 H9 (.ref D) [v] _ [y] (fun _ H'=>H'=upd H9 D (.lst (ys++[v]))) I9 rfl (.cons r9 .nil) ⟨_,ys,v,rfl,rfl,hD,hl,rfl⟩
    rw[hxe]at a4;refine thn a4 fun _ s10 ⟨_,H10,I10,_,q10⟩=>?_
    subst q10;exact again I10 hm w9
 exact zoj loop (T.self Y.A 0 _ _ _ st2 loop)
end
def znZ(own:List Str)(capt:List Nat)(g:TG)(tt:TT)(wi2:TI)(g2:TG)(tt2:TT)(te:TE)(σ:St)(J:It)(H1:Hp)(D:Addr)(Q:VK):Prop:=∃W:Nat->Nat->Hp->Prop,(∃m,W 0 m (upd H1 D (.lst [])))/\∀i m H2,W i m H2 ->
 (J.stop i H2/\Q (.ref D) H2)\/(J.go i H2/\∃(N N':Hp->Prop),(∀H6,N H6->∃m',m'<m/\W (i+1) m' H6)/\(∀H5,N' H5->∃m',m'<m/\W (i+1) m' H5) /\
  ∀x H3,J.yld i H2 x H3->g x (JF own++capS capt σ) H3 fun σ4 H4=>Wk (JF own++capS capt σ) σ4/\tt σ4 H4 fun b H5=>if b=true then wi2 σ4 H5 (fun J2 H6=>Vz g2 tt2 te σ4 J2 H6 D N) else N' H5)
def zrD(own:List Str)(capt:List Nat)(wi:TI)(g:TG)(tt:TT)(wi2:TI)(g2:TG)(tt2:TT)(te:TE):TE:=fun σ H Q=>wi σ H fun J H1=>∀D,H1 D=none->znZ own capt g tt wi2 g2 tt2 te σ J H1 D Q
section
variable{X:Cx}{scope:Scope}{own:List Str}{capt:List Nat}{elt tg iter tg2 it2:Expr}{ifs ifs2:List Expr}{pos:Pos}{wi wi2:TI}{g g2:TG}{tt tt2:TT}{te:TE}
theorem znE(hc:X.calm=true)(S:CompScope scope own capt X)
  (hg:∀C s₀ H₀ fp,PG (Jm X scope own capt C s₀ H₀ fp) tg g) (ht:∀C s₀ H₀ fp,PTs (Jm X scope own capt C s₀ H₀ fp) ifs tt) (hi2:∀C s₀ H₀ fp,PI (Jm X scope own capt C s₀ H₀ fp) tg2 it2 wi2)
  (hg2:∀C s₀ H₀ fp,PG (Jm X scope own capt C s₀ H₀ fp) tg2 g2) (ht2:∀C s₀ H₀ fp,PTs (Jm X scope own capt C s₀ H₀ fp) ifs2 tt2) (he:∀C s₀ H₀ fp,PE (Jm X scope own capt C s₀ H₀ fp) elt te)
  (hs2:∀(C:Addr) (x:Value),foldedSetIterable it2 (compEnvC scope (closed X.env scope.names []) C X.env) x=pure x)
  {pins:qO} {σ:St} {Q:VK} {itv:Value} {s2:Shared} {E:qV} {RR:Value->Addr->Result->Shared->Prop}
  (h2:PIE X pins σ tg (fun J H1=>∀D,H1 D=none->znZ own capt g tt wi2 g2 tt2 te σ J H1 D Q) itv s2)
  (hR:∀D C s' H',(∃m,s'.heap.Ns C m)->(∀h'',Heap.SameBut C s'.heap h''->Inv X pins σ H' { s' with heap:=h'' })->H' C=none->FpOk X pins H' C->Q (.ref D) H'->RR (.ref D) C (.ok .next) s') :
  wpAny (model X.prog X.w) X.A (newList []) (fun acc s₃=>wpAny (model X.prog X.w) X.A (newFunctionEnv scope X.env.globals (closed X.env scope.names []) [] X.env.qual none .none (some X.env)) (fun cenv s₄ =>
   codeAny (model X.prog X.w) X.A (.compStart (.ListComp elt [⟨tg,iter,ifs,0⟩,⟨tg2,it2,ifs2,0⟩] scope pos) 0 itv acc { cenv with scope:=relabel scope X.env }) (RR acc cenv.locals) s₄) E s₃) E s2:=by
 obtain⟨it,fp,tn,J,H2,e,I2,T,st2,f2,rd⟩:=h2;subst e;have hfp:∀b∈fp,b<s2.heap.objs.size:=fun b hb=>by
  obtain⟨o,e,_⟩:=T.obj 0 _ st2 b hb;exact Heap.lt_size e
 refine wpAny_newObj_type (wpAny_newFunctionEnv S.nocell (by intro y hy;simp at hy) (fun h₁ hns₁ hsb₁=>?_) S.kind)
 dsimp only at hns₁ hsb₁ ⊢;generalize hH3:s2.heap.push { cls:=.type "list",dict:=none,data:=.seq ([]:List Value).toArray }=H3 at hns₁ hsb₁ ⊢;have hC:H3.objs.size=s2.heap.objs.size+1:=by rw[<- hH3,Heap.size_push]
 have hDC:s2.heap.objs.size≠H3.objs.size:=by rw[hC];exact Nat.ne_of_lt (Nat.lt_succ_self _)
 have hCle:s2.heap.objs.size<=H3.objs.size:=by rw[hC];exact Nat.le_succ _
 have neC:∀b o,s2.heap.get? b=some o->b≠H3.objs.size:=fun b o e=>Nat.ne_of_lt (Nat.lt_of_lt_of_le (Heap.lt_size e) hCle)
 have old:∀b o,s2.heap.get? b=some o->h₁.get? b=some o:=fun b o e=>hsb₁.extBut b o (neC b o e) (Heap.get?_push_of_some _ (hH3▸Heap.get?_push_of_some _ e))
 have hacc:h₁.get? s2.heap.objs.size=some { cls:=.type "list",data:=.seq ([]:List Value).toArray 0 }:=hsb₁.extBut _ _ hDC (Heap.get?_push_of_some _ (hH3▸Heap.get?_push_size _ rfl));have hnD:H2 s2.heap.objs.size=none:=I2.hok.fresh (Nat.le_refl _);obtain⟨W,⟨m0,w0⟩,turn⟩:=rd _ hnD;have hLC:H3.objs.size≠X.env.locals:=fun z=>by
  have h:=I2.lt;rw[<- z]at h;exact absurd h (Nat.not_lt.mpr hCle)
 have J0:∀tk,Inv (Jm X scope own capt H3.objs.size s2 H2 fp) [] (JF own++capS capt σ) (upd H2 s2.heap.objs.size (.lst [])) { s2 with heap:=h₁,toks:=tk }:=fun tk =>
  zkT (tk:=tk) S I2 f2 hfp (Nat.le_refl _) hCle hDC old hns₁ hacc
 have fr0:∀b∈fp,upd H2 s2.heap.objs.size (.lst []) b=none:=fun b hb=>by
  rw[Jw (Nat.ne_of_lt (hfp b hb))];exact(f2 b hb).1
 have stat:∀{H':Hp},(∀b∈fp,H' b=none)->∀b∈fp,FpOk (Jm X scope own capt H3.objs.size s2 H2 fp) [] H' b:=fun hn b hb=>by
  obtain⟨g0,g1,g2,g3,g4,g5⟩:=f2 b hb;have sub:=Z5 scope.names [] (S.cells I2.ok) (fun x c h=>nomatch (show(none:Option Addr)=some c from h))
  refine⟨hn b hb,Nat.ne_of_lt (Nat.lt_of_lt_of_le (hfp b hb) hCle),fun z=>?_,.inl hb,fun x c e=>g4 x c (sub x c e),fun p hp=>absurd (show p∈([]:qO) from hp) (by simp)⟩
  rcases List.mem_cons.mp (I2.stkSub b z) with q|q
  ·exact g1 q
  ·exact g2 q
 have loop:∀s₃:Shared,(∃tk,s₃={ s2 with heap:=h₁,toks:=tk }) ->
   codeAny (model X.prog X.w) X.A (.compLoop (.ListComp elt [⟨tg,iter,ifs,0⟩,⟨tg2,it2,ifs2,0⟩] scope pos) 0 (.ref it) (.ref s2.heap.objs.size) (compEnvC scope (closed X.env scope.names []) H3.objs.size X.env)) (RR (.ref s2.heap.objs.size) H3.objs.size) s₃:=by
  rintro s₃ ⟨tk,rfl⟩;refine zlW (hs2 _) (fun n s'=>∃i H',Inv (Jm X scope own capt H3.objs.size s2 H2 fp) [] (JF own++capS capt σ) H' s'/\tn i s'.heap/\(∀b∈fp,H' b=none)/\W i n H') ?_ m0
   ⟨0,_,J0 tk,T.keep _ _ _ st2 fun b hb o e=>old b o e,fr0,w0⟩
  rintro n s4 ⟨i,H4,I4,st4,fr4,w4⟩;rcases turn i n H4 w4 with⟨stop,qn⟩|⟨go,N,N',hN,hN',step⟩
  ·refine thn (T.done (Jm X scope own capt H3.objs.size s2 H2 fp) rfl rfl rfl hc i [] s4 _ H4 NoX I4 (stat fr4) st4 stop) fun r s5 ⟨hr,I5⟩=>?_
   subst hr;obtain⟨m,hn,_⟩:=I5.loc;exact hR _ _ s5 H4 ⟨m,hn⟩ (fun h'' sb=>zkS I2 f2 hCle I5 sb) I5.free (I2.fpOk hCle I5.free) qn
  ·refine thn (T.item (Jm X scope own capt H3.objs.size s2 H2 fp) rfl rfl rfl hc i [] s4 _ H4 NoX I4 (stat fr4) st4 go) fun r s5 ⟨u,hr,h5⟩=>?_
   subst hr;refine thn h5 fun _ s6 ⟨x,H6,I6,r6,y6,st6,fr6⟩=>?_
   have I6':=I6.pinned (stat fr6) (T.obj _ _ st6);refine thn (hg _ _ _ _ _ s6 _ H6 x u _ I6' r6 (step x H6 y6)) fun _ s7 ⟨σ7,H7,I7,wk,q7⟩=>?_
   obtain⟨wl,wv⟩:=wk.weak;have again:∀{s8:Shared} {H8:Hp} {m':Nat},Inv (Jm X scope own capt H3.objs.size s2 H2 fp) ([]++Yz fp s6.heap) σ7 H8 s8->m'<n->W (i+1) m' H8 ->
     ∃m,m<n/\∃i H',Inv (Jm X scope own capt H3.objs.size s2 H2 fp) [] (JF own++capS capt σ) H' s8/\tn i s8.heap/\(∀b∈fp,H' b=none)/\W i m H':=fun {s8 H8 m'} I8 hm w8=>by
    refine⟨m',hm,i+1,H8,(I8.unpinned).weak wl wv,T.keep _ _ _ st6 fun b hb o e=>(I8.pin (b,o) (List.mem_append_right _ (List.mem_append_right _ (UK hb e)))).1,fun b hb=>?_,w8⟩
    obtain⟨o,e,d⟩:=T.obj _ _ st6 b hb;exact(I8.pin (b,o) (List.mem_append_right _ (List.mem_append_right _ (UK hb e)))).2.1
   refine thn (ht _ _ _ _ _ s7 σ7 H7 _ I7 q7) fun ok s8 ⟨H8,I8,q8⟩=>?_
   cases ok with
   | false =>
    obtain⟨m',hm,w8⟩:=hN' H8 (by simpa using q8)
    exact again I8 hm w8
   | true =>
    refine thn (hi2 _ _ _ _ _ s8 σ7 H8 _ I8 (by simpa using q8)) fun y s9 h9=>thn h9 fun itv2 s10 h10=>?_
    refine zne (Y:=Jm X scope own capt H3.objs.size s2 H2 fp) rfl hc (hg2 _ _ _ _) (ht2 _ _ _ _) (he _ _ _ _) h10 fun s' H' I' q'=>⟨rfl,?_⟩
    obtain⟨m',hm,w9⟩:=hN H' q';exact again I' hm w9
 exact codeAny_compStart_list (loop _ ⟨_,rfl⟩) (T.self X.A 0 _ _ _ (T.keep _ _ _ st2 fun b hb o e=>old b o e) (loop _ ⟨_,rfl⟩))
theorem zms(hc:X.calm=true)(S:CompScope scope own capt X)(hi:PI X tg iter wi)
  (hg:∀C s₀ H₀ fp,PG (Jm X scope own capt C s₀ H₀ fp) tg g) (ht:∀C s₀ H₀ fp,PTs (Jm X scope own capt C s₀ H₀ fp) ifs tt) (hi2:∀C s₀ H₀ fp,PI (Jm X scope own capt C s₀ H₀ fp) tg2 it2 wi2)
  (hg2:∀C s₀ H₀ fp,PG (Jm X scope own capt C s₀ H₀ fp) tg2 g2) (ht2:∀C s₀ H₀ fp,PTs (Jm X scope own capt C s₀ H₀ fp) ifs2 tt2) (he:∀C s₀ H₀ fp,PE (Jm X scope own capt C s₀ H₀ fp) elt te)
  (hs:∀x,foldedSetIterable iter X.env x=pure x:=by intro _;rfl) (hs2:∀(C:Addr) (x:Value),foldedSetIterable it2 (compEnvC scope (closed X.env scope.names []) C X.env) x=pure x:=by intro _ _;rfl) :
  PE X (.ListComp elt [⟨tg,iter,ifs,0⟩,⟨tg2,it2,ifs2,0⟩] scope pos) (zrD own capt wi g tt wi2 g2 tt2 te):=by
 intro pins s σ H Q I h;rw[eval_ListComp];refine wpAny_comprehension_free (use:=none) rfl hs (zbG (S.cells I.ok)) S.kind S.names (thn (hi pins s σ H _ I h) fun v s1 h1=>thn h1 fun itv s2 h2=>?_)
 refine znE (RR:=fun acc C=>compPost (model X.prog X.w) X.A X.xe none (EP X pins σ Q) acc C) hc S hg ht hi2 hg2 ht2 he hs2 h2 fun D C s' H' hn J _ _ q=>?_
 obtain⟨m,hn⟩:=hn;exact⟨m,hn,fun h'' sb=>⟨.ref D,H',J h'' sb,rfl,q⟩⟩
end
theorem zlE{J:It}{n:Nat}{g:TG}{tt:TT}{te:TE}{σ:St}{H1:Hp}{D:Addr}{Q:Hp->Prop}(Pv:Nat->List V->Hp->Prop)(h0:∃ys,H1 D=some (.lst ys)/\Pv 0 ys H1)
  (turn:∀i ys H2,i<n->H2 D=some (.lst ys)->Pv i ys H2->J.go i H2/\∀x H3,J.yld i H2 x H3->g x σ H3 fun σ4 H4=>Wk σ σ4/\tt σ4 H4 fun b H5 =>
   if b=true then te σ4 H5 (fun v H6=>∃zs,H6 D=some (.lst zs)/\zs.length<sizeLine/\Pv (i+1) (zs++[v]) (upd H6 D (.lst (zs++[v])))) else ∃zs,H5 D=some (.lst zs)/\Pv (i+1) zs H5)
  (stop:∀ys H2,H2 D=some (.lst ys)->Pv n ys H2->J.stop n H2/\Q H2):Vz g tt te σ J H1 D Q:=by
 refine⟨fun i m H=>m=n - i/\i<=n/\∃ys,H D=some (.lst ys)/\Pv i ys H,⟨n,rfl,Nat.zero_le _,h0⟩,?_⟩
 rintro i m H2 ⟨rfl,hi,ys,hD,p⟩
 by_cases hlt:i<n
 ·obtain⟨go,st⟩:=turn i ys H2 hlt hD p;refine .inr ⟨go,_,_,?_,?_,st⟩
  ·rintro v H6 ⟨zs,e,l,q⟩;exact⟨zs,e,l,n - (i+1),by omega,rfl,hlt,_,Qe,q⟩
  ·rintro H5 ⟨zs,e,q⟩;exact⟨n - (i+1),by omega,rfl,hlt,zs,e,q⟩
 ·have e:i=n:=by omega
  subst e;exact .inl (stop ys H2 hD p)
theorem zlK{J:It}{n:Nat}{own:List Str}{capt:List Nat}{g g2:TG}{tt tt2:TT}{wi2:TI}{te:TE}{σ:St}{H1:Hp}{D:Addr}{Q:VK}(Pv:Nat->List V->Hp->Prop)(h0:Pv 0 [] (upd H1 D (.lst [])))
  (turn:∀i ys H2,i<n->H2 D=some (.lst ys)->Pv i ys H2->J.go i H2/\∀x H3,J.yld i H2 x H3->g x (JF own++capS capt σ) H3 fun σ4 H4=>Wk (JF own++capS capt σ) σ4/\tt σ4 H4 fun b H5 =>
   if b=true then wi2 σ4 H5 (fun J2 H6=>Vz g2 tt2 te σ4 J2 H6 D fun H7=>∃zs,H7 D=some (.lst zs)/\Pv (i+1) zs H7) else ∃zs,H5 D=some (.lst zs)/\Pv (i+1) zs H5)
  (stop:∀ys H2,H2 D=some (.lst ys)->Pv n ys H2->J.stop n H2/\Q (.ref D) H2) :
  znZ own capt g tt wi2 g2 tt2 te σ J H1 D Q:=by
 refine⟨fun i m H=>m=n - i/\i<=n/\∃ys,H D=some (.lst ys)/\Pv i ys H,⟨n,rfl,Nat.zero_le _,[],Qe,h0⟩,?_⟩
 rintro i m H2 ⟨rfl,hi,ys,hD,p⟩
 by_cases hlt:i<n
 ·obtain⟨go,st⟩:=turn i ys H2 hlt hD p;refine .inr ⟨go,_,_,?_,?_,st⟩
  ·rintro H6 ⟨zs,e,q⟩;exact⟨n - (i+1),by omega,rfl,hlt,zs,e,q⟩
  ·rintro H5 ⟨zs,e,q⟩;exact⟨n - (i+1),by omega,rfl,hlt,zs,e,q⟩
 ·have e:i=n:=by omega
  subst e;exact .inl (stop ys H2 hD p)
theorem DI.uni{ι:Type}{Xf:ι->Cx}{K:qF}(hK:∀i,(Xf i).K=K){tg e:Expr}{d:DTA}(h:∀i,DI (Xf i) tg e d):∃wi:TI,(∀i,PI (Xf i) tg e wi)/\∀(C:Ctx) (ρ:En) (σ:St) (H:Hp) (n:Nat) (Q:It->Hp->Prop) (R:List PyData->Nat->Prop),Stt K C ρ σ H n->d ρ n R ->
  (∀ts n' J H',R ts n'->ExtE C.hd H H'->Hn C.hd H' n'->ItOk K C.hd (fun a=>¬Own C ρ σ a) (Own C ρ σ) H' J ts->Q J H')->wi σ H Q:=by
 refine⟨fun σ H Q=>∀i,(Classical.choose (h i)) σ H Q,fun i pins s σ H R I hw=>(Classical.choose_spec (h i)).1 pins s σ H R I (hw i),fun C ρ σ H n Q R S hd hq i=>?_⟩
 have:=(Classical.choose_spec (h i)).2 C ρ σ H n Q R;exact this (by rw[hK i];exact S) hd fun t n' J H' r e h q=>hq t n' J H' r e h (by rw[<- hK i];exact q)
theorem Stt.onX{K:qF}{C:Ctx}{ρ:En}{σ:St}{H H':Hp}{n n':Nat}(S:Stt K C ρ σ H n)(k:∀a o,H a=some o->¬C.ext a->H' a=some o)(hl:∀a,C.ext a->MutO (H' a))(kr:∀a ks,H a=some (.dK ks)->C.ext a->C.hd≠some a->H' a=some (.dK ks))(hn:Hn C.hd H' n'):Stt K C ρ σ H' n' where
 len:=S.len
 val:=fun i d hi=>by
  obtain⟨v,h1,h2⟩:=S.val i d hi;exact⟨v,h1,h2.mono (fun _ _ _ z=>z) fun a o no h=>k a o h fun z=>no (.inl z)⟩
 own:=fun i ds hi=>by
  obtain⟨a,vs,h1,h2,h3,h4⟩:=S.own i ds hi;exact⟨a,vs,h1,k a _ h2 h4,h3.mono (fun _ _ _ z=>z) (fun a o no h=>k a o h fun z=>no (.inl z)),h4⟩
 dct:=fun i ds hi=>by
  obtain⟨a,vs,h1,h2,h3,h4⟩:=S.dct i ds hi;exact⟨a,vs,h1,k a _ h2 h4,h3.mono (fun _ _ _ z=>z) (fun a o no h=>k a o h fun z=>no (.inl z)),h4⟩
 rdo:=fun i ds hi=>by
  obtain⟨a,vs,h1,h2,h3,h4,h5⟩:=S.rdo i ds hi;exact⟨a,vs,h1,kr a _ h2 h4 h5,h3.mono (fun _ _ _ z=>z) (fun a o no h=>k a o h fun z=>no (.inl z)),h4,h5⟩
 dtt:=fun i ds hi=>by
  obtain⟨a,vs,ep,h1,h2,h3,h4⟩:=S.dtt i ds hi;exact⟨a,vs,ep,h1,k a _ h2 h4,h3.mono (fun _ _ _ z=>z) (fun a o no h=>k a o h fun z=>no (.inl z)),h4⟩
 dif:=S.dif
 hnd:=hn
 ext:=hl
 hx:=S.hx
def UE(g:DTG)(tt:DTT)(di2:DTA)(g2:DTG)(tt2:DTT)(te:DTE)(ρ0:En):List PyData->List PyData->Nat->(List PyData->Nat->Prop)->Prop
 | [],acc,n,R=>R acc n
 | x::xs,acc,n,R=>g x ρ0 fun ρ1=>tt ρ1 n fun b n2=>if b=true then di2 ρ1 n2 fun ts n3=>JO g2 tt2 te ρ1 ts acc n3 fun acc' n4=>UE g tt di2 g2 tt2 te ρ0 xs acc' n4 R else UE g tt di2 g2 tt2 te ρ0 xs acc n2 R
def znB(m:Nat)(capt:List Nat)(di:DTA)(g:DTG)(tt:DTT)(di2:DTA)(g2:DTG)(tt2:DTT)(te:DTE):DTA:=fun ρ n R=>di ρ n fun ts n1=>UE g tt di2 g2 tt2 te (JE m capt ρ) ts [] n1 R
section
variable{X:Cx}{scope:Scope}{own:List Str}{capt:List Nat}{elt tg iter tg2 it2:Expr}{ifs ifs2:List Expr}{pos:Pos}{di di2:DTA}{is is2:List Nat}{g g2:DTG}{tt tt2:DTT}{te:DTE}
theorem zpl(hc:X.calm=true)(S:CompScope scope own capt X)(hi:DIL X tg iter di)
  (hg:∀C s₀ H₀ fp,DG (Jm X scope own capt C s₀ H₀ fp) tg is g) (hin:∀i∈is,i<own.length) (ht:∀C s₀ H₀ fp,DTs (Jm X scope own capt C s₀ H₀ fp) ifs tt)
  (hi2:∀C s₀ H₀ fp,DI (Jm X scope own capt C s₀ H₀ fp) tg2 it2 di2) (hg2:∀C s₀ H₀ fp,DG (Jm X scope own capt C s₀ H₀ fp) tg2 is2 g2) (hin2:∀i∈is2,i<own.length/\i∉is) (ht2:∀C s₀ H₀ fp,DTs (Jm X scope own capt C s₀ H₀ fp) ifs2 tt2)
  (he:∀C s₀ H₀ fp,DE (Jm X scope own capt C s₀ H₀ fp) elt te)
  (hs:∀x,foldedSetIterable iter X.env x=pure x:=by intro _;rfl) (hs2:∀(C:Addr) (x:Value),foldedSetIterable it2 (compEnvC scope (closed X.env scope.names []) C X.env) x=pure x:=by intro _ _;rfl) :
  DN X (.ListComp elt [⟨tg,iter,ifs,0⟩,⟨tg2,it2,ifs2,0⟩] scope pos) (znB own.length capt di g tt di2 g2 tt2 te):=by
 obtain⟨wi,pi,hi⟩:=hi
 let Xf:(Addr×Shared×Hp×List Addr)->Cx:=fun q=>Jm X scope own capt q.1 q.2.1 q.2.2.1 q.2.2.2
 have hK:∀q,(Xf q).K=X.K:=fun _=>rfl
 have hne:Nonempty (Addr×Shared×Hp×List Addr):=⟨(0,X.s₀,X.H₀,[])⟩;obtain⟨gg,pg,hgg⟩:=DG.uni (Xf:=Xf) hK fun q=>hg q.1 q.2.1 q.2.2.1 q.2.2.2
 obtain⟨gt,pt,hgt⟩:=DTs.uni (Xf:=Xf) hK fun q=>ht q.1 q.2.1 q.2.2.1 q.2.2.2
 obtain⟨wi2,pi2,hwi2⟩:=DI.uni (Xf:=Xf) hK fun q=>hi2 q.1 q.2.1 q.2.2.1 q.2.2.2
 obtain⟨gg2,pg2,hgg2⟩:=DG.uni (Xf:=Xf) hK fun q=>hg2 q.1 q.2.1 q.2.2.1 q.2.2.2
 obtain⟨gt2,pt2,hgt2⟩:=DTs.uni (Xf:=Xf) hK fun q=>ht2 q.1 q.2.1 q.2.2.1 q.2.2.2
 obtain⟨ge,pe,hge⟩:=DE.uni (Xf:=Xf) hK fun q=>he q.1 q.2.1 q.2.2.1 q.2.2.2
 refine⟨_,zms hc S pi (fun C s₀ H₀ fp=>pg (C,s₀,H₀,fp)) (fun C s₀ H₀ fp=>pt (C,s₀,H₀,fp)) (fun C s₀ H₀ fp=>pi2 (C,s₀,H₀,fp)) (fun C s₀ H₀ fp=>pg2 (C,s₀,H₀,fp)) (fun C s₀ H₀ fp=>pt2 (C,s₀,H₀,fp)) (fun C s₀ H₀ fp=>pe (C,s₀,H₀,fp)) hs hs2,fun C ρ σ H n Q R St hd hq=>?_⟩
 refine hi C ρ σ H n _ _ St hd fun ts n1 J H1 r e1 hn it=>fun D hD1=>?_
 have St1:=St.on e1 hn;have hD:H D=none:=VV e1 hn hD1;have nhd:C.hd≠some D:=fun z=>St.dom (.inl (St.hx D z)) hD
 refine zlK (n:=ts.length) (fun i ys H2=>∃acc n2,UE g tt di2 g2 tt2 te (JE own.length capt ρ) (ts.drop i) acc n2 R/\Reps X.K C.hd (fun a=>Own C ρ σ a\/a=D) H2 ys acc/\ExtE C.hd H1 H2/\Hn C.hd H2 n2)
  ⟨[],n1,by simpa using r,.nil,ExtE.new hD1,hn.same (Qr hD1)⟩ ?_ ?_
 ·rintro i ys H2 hlt hy ⟨acc,n2,c2,r2,e2,hn2⟩;have et:ts[i]?=some ts[i]:=List.getElem?_eq_getElem hlt;rw[List.drop_eq_getElem_cons hlt]at c2;have itq:=it (fun a=>Own C ρ σ a\/a=D) H2 (fun a o ha nh=>e2 a o ha nh) (fun a o ha no z=>z.elim no fun z=>by subst z;rw[hD1]at ha;cases ha) (fun a z=>z.elim (fun z=>(St1.on e2 hn2).dom z) fun z=>by subst z;rw[hy];exact fun z=>by cases z)
  obtain⟨go,yl⟩:=itq.1 i _ et;refine⟨go,fun x H3 hyd=>?_⟩
  obtain⟨sm,rx⟩:=yl x H3 hyd;have hn3:=hn2.same sm;have e3:ExtE C.hd H1 H3:=e2.trans sm.ext;obtain⟨I3,no3⟩:=zkP (own:=own) (capt:=capt) (D:=D) (ys:=ys) St (e1.trans e3) hn3 hD (sm _ _ hy);have rx':Rep X.K C.hd (Own ⟨C.hd,fun a=>Own C ρ σ a\/a=D⟩ (JE own.length capt ρ) (JF own++capS capt σ)) H3 x ts[i]:=rx.mono (fun a o _ z=>z.elim id fun z=>absurd z (no3 a)) fun _ _ _ z=>z
  refine hgg ⟨C.hd,fun a=>Own C ρ σ a\/a=D⟩ (JE own.length capt ρ) (JF own++capS capt σ) H3 n2 x ts[i] _ _ I3 rx' c2 fun ρ4 σ4 r4 S4 k4 hj hl=>⟨Wk.of hl.symm fun j v ej=>?_,?_⟩
  ·by_cases hjo:j<own.length
   ·rw[List.getElem?_append_left (by simpa using hjo),List.getElem?_map]at ej
    cases z:own[j]? with
    | none=>rw[z]at ej;cases ej
    | some q=>rw[z]at ej;cases ej
   ·rw[hj j (fun z=>hjo (hin j z))];exact ej
  ·refine hgt _ ρ4 σ4 H3 n2 _ _ S4 r4 fun b n5 H5 r5 e5 hn5=>?_
   have S5:=S4.on e5 hn5;have hy5:H5 D=some (.lst ys):=e5 D _ (sm _ _ hy) nhd;have r25:∀{H6},ExtE C.hd H2 H6->Reps X.K C.hd (fun a=>Own C ρ σ a\/a=D) H6 ys acc:=fun e=>r2.mono (fun _ _ _ z=>z) fun a o no ha=>e a o ha fun z=>no (.inl (.inl (St.hx a z)))
   cases b with
   | false =>
    refine iteF ⟨ys,hy5,acc,n5,by simpa using r5,r25 ((Same.ext sm).trans e5),e3.trans e5,hn5⟩
   | true =>
    refine iteT (hwi2 ⟨C.hd,fun a=>Own C ρ σ a\/a=D⟩ ρ4 σ4 H5 n5 _ _ S5 (by simpa using r5) fun us n6 J2 H6 r6 e6 hn6 it6=>?_)
    have S6:=S5.on e6 hn6;have hy6:H6 D=some (.lst ys):=e6 D _ hy5 nhd;refine zlE (n:=us.length) (fun k zs H7=>∃acc' n7,JO g2 tt2 te ρ4 (us.drop k) acc' n7 (fun acc' n4=>UE g tt di2 g2 tt2 te (JE own.length capt ρ) (ts.drop (i+1)) acc' n4 R)/\Reps X.K C.hd (fun a=>Own C ρ σ a\/a=D) H7 zs acc'/\ExtE C.hd H1 H7/\Hn C.hd H7 n7/\∀a o,H6 a=some o->¬(Own C ρ σ a\/a=D)->H7 a=some o)
     ⟨ys,hy6,acc,n6,by simpa using r6,r25 ((Same.ext sm).trans (e5.trans e6)),e3.trans (e5.trans e6),hn6,fun _ _ h _=>h⟩ ?_ ?_
    ·rintro k zs H7 hk hz ⟨acc',n7,c7,r7,e7,hn7,k7⟩;have et2:us[k]?=some us[k]:=List.getElem?_eq_getElem hk;rw[List.drop_eq_getElem_cons hk]at c7;have S7:Stt X.K ⟨C.hd,fun a=>Own C ρ σ a\/a=D⟩ ρ4 σ4 H7 n7:=S6.onX k7 (fun a z=>z.elim (fun z=>(St1.on e7 hn7).lst z) fun z=>by subst z;exact .inl ⟨_,hz⟩) (fun a ks ha z nh=>z.elim (fun z=>by
      have e16:ExtE C.hd H1 H6:=e3.trans (e5.trans e6);rcases St1.lst z with⟨xs,q⟩|⟨xs,q⟩|⟨b,xs,ep,q⟩
      ·rw[e16 a _ q nh]at ha;cases ha
      ·rw[e16 a _ q nh]at ha;cases ha;exact e7 a _ q nh
      ·rw[e16 a _ q nh]at ha;cases ha) (fun z=>by subst z;rw[hy6]at ha;cases ha)) hn7
     have itq2:=it6 (Own ⟨C.hd,fun a=>Own C ρ σ a\/a=D⟩ ρ4 σ4) H7 (fun a o ha no=>k7 a o ha fun z=>no (.inl z)) (fun a o ha no=>no) (fun a z=>S7.dom z)
     obtain⟨go2,yl2⟩:=itq2.1 k _ et2;refine⟨go2,fun y H8 hyd2=>?_⟩
     obtain⟨sm8,ry⟩:=yl2 y H8 hyd2;have hn8:=hn7.same sm8;have S8:=S7.on (Same.ext sm8) hn8;refine hgg2 _ ρ4 σ4 H8 n7 y us[k] _ _ S8 ry c7 fun ρ9 σ9 r9 S9 k9 hj9 hl9=>⟨Wk.of hl9.symm fun j v ej=>?_,?_⟩
     ·by_cases hjo:j∈is2
      ·exfalso;obtain⟨lo,nis⟩:=hin2 j hjo;rw[hj j nis,List.getElem?_append_left (by simpa using lo),List.getElem?_map]at ej
       cases z:own[j]? with
       | none=>rw[z]at ej;cases ej
       | some q=>rw[z]at ej;cases ej
      ·rw[hj9 j hjo];exact ej
     ·refine hgt2 _ ρ9 σ9 H8 n7 _ _ S9 r9 fun b n10 H10 r10 e10 hn10=>?_
      have S10:=S9.on e10 hn10;have hz10:H10 D=some (.lst zs):=e10 D _ (sm8 _ _ hz) nhd;have r710:∀{H'},ExtE C.hd H7 H'->Reps X.K C.hd (fun a=>Own C ρ σ a\/a=D) H' zs acc':=fun e=>r7.mono (fun _ _ _ z=>z) fun a o no ha=>e a o ha fun z=>no (.inl (.inl (St.hx a z)))
      have kk:∀{H'},ExtE C.hd H7 H'->∀a o,H6 a=some o->¬(Own C ρ σ a\/a=D)->H' a=some o:=fun e a o ha no=>e a o (k7 a o ha no) fun z=>no (.inl (.inl (St.hx a z)))
      cases b with
      | false=>exact iteF ⟨zs,hz10,acc',n10,by simpa using r10,r710 ((Same.ext sm8).trans e10),e7.trans ((Same.ext sm8).trans e10),hn10,kk ((Same.ext sm8).trans e10)⟩
      | true =>
       refine iteT (hge _ ρ9 σ9 H10 n10 _ _ S10 (by simpa using r10) fun t n11 v H11 r11 e11 hn11 q11=>?_)
       have hz11:H11 D=some (.lst zs):=e11 D _ hz10 nhd;have e711:ExtE C.hd H7 H11:=(Same.ext sm8).trans (e10.trans e11);have rl:=(r710 e711).length;refine⟨zs,hz11,by rw[rl];exact r11.1,acc'++[t],n11,r11.2,?_,?_,?_,?_⟩
       ·have q11':Rep X.K C.hd (fun a=>Own C ρ σ a\/a=D) H11 v t:=q11.mono (fun _ _ _ z=>.inl z) fun _ _ _ z=>z
        have all:=(r710 e711).append (Reps.cons q11' .nil);exact all.mono (fun _ _ _ z=>z) fun a o no ha=>by rw[Jw (show a≠D from fun z=>no (.inr z))];exact ha
       ·exact fun a o ha nh=>by
         rw[Jw (QX ha hD1)];exact(e7.trans e711) a o ha nh
       ·exact fun a ha=>by
         obtain⟨d,m,t,q,rest⟩:=hn11 a ha;exact⟨d,m,t,by rw[Jw (show a≠D from fun z=>nhd (by rw[<- z];exact ha))];exact q,rest⟩
       ·exact fun a o ha no=>by
         rw[Jw (show a≠D from fun z=>no (.inr z))]
         exact kk e711 a o ha no
    ·rintro zs H7 hz ⟨acc',n7,c7,r7,e7,hn7,k7⟩;rw[List.drop_length]at c7;have S7:Stt X.K ⟨C.hd,fun a=>Own C ρ σ a\/a=D⟩ ρ4 σ4 H7 n7:=S6.onX k7 (fun a z=>z.elim (fun z=>(St1.on e7 hn7).lst z) fun z=>by subst z;exact .inl ⟨_,hz⟩) (fun a ks ha z nh=>z.elim (fun z=>by
      have e16:ExtE C.hd H1 H6:=e3.trans (e5.trans e6);rcases St1.lst z with⟨xs,q⟩|⟨xs,q⟩|⟨b,xs,ep,q⟩
      ·rw[e16 a _ q nh]at ha;cases ha
      ·rw[e16 a _ q nh]at ha;cases ha;exact e7 a _ q nh
      ·rw[e16 a _ q nh]at ha;cases ha) (fun z=>by subst z;rw[hy6]at ha;cases ha)) hn7
     have itq2:=it6 (Own ⟨C.hd,fun a=>Own C ρ σ a\/a=D⟩ ρ4 σ4) H7 (fun a o ha no=>k7 a o ha fun z=>no (.inl z)) (fun a o ha no=>no) (fun a z=>S7.dom z)
     exact⟨itq2.2,zs,hz,acc',n7,c7,r7,e7,hn7⟩
 ·rintro ys H2 hy ⟨acc,n2,c2,r2,e2,hn2⟩;rw[List.drop_length]at c2;have itq:=it (fun a=>Own C ρ σ a\/a=D) H2 (fun a o ha nh=>e2 a o ha nh) (fun a o ha no z=>z.elim no fun z=>by subst z;rw[hD1]at ha;cases ha) (fun a z=>z.elim (fun z=>(St1.on e2 hn2).dom z) fun z=>by subst z;rw[hy];exact fun z=>by cases z)
  exact⟨itq.2,hq acc n2 D ys H2 c2 (e1.trans e2) hn2 hD hy r2⟩
end
section
variable{ρ ρ0:En}{n m:Nat}{di di2:DTA}{g g2:DTG}{tt tt2:DTT}{te:DTE}{capt:List Nat}{Rl:List PyData->Nat->Prop}
instance zvl [h:CompN m capt ρ ρ0]:Stp (znB m capt di g tt di2 g2 tt2 te ρ n Rl) (di ρ n fun ts n1=>UE g tt di2 g2 tt2 te ρ0 ts [] n1 Rl):=⟨fun k=>by unfold znB;rw[h.e];exact k⟩
end
abbrev Run:=Int×Int
def NR(rs:List Run):Prop:=(∀r∈rs,r.1<r.2)/\rs.Pairwise fun a b=>a.2<b.1
def mR(x:Int)(rs:List Run):Prop:=∃r∈rs,r.1<=x/\x<r.2
def mB(x:Int)(bs:qB):Prop:=∃b∈bs,b.1<=x/\x<eB b
theorem JY{x:Int}{r:Run}{rs:List Run}:mR x (r::rs)↔(r.1<=x/\x<r.2)\/mR x rs:=by
 unfold mR;constructor
 ·rintro⟨s,hs,h⟩;rcases List.mem_cons.mp hs with rfl|hs
  ·exact .inl h
  ·exact .inr ⟨s,hs,h⟩
 ·rintro(h|⟨s,hs,h⟩)
  ·exact⟨r,by simp,h⟩
  ·exact⟨s,by simp[hs],h⟩
theorem Qp{x:Int}:¬mR x []:=fun⟨_,h,_⟩=>nomatch h
theorem Uo{x:Int}{rs ss:List Run}:mR x (rs++ss)↔mR x rs\/mR x ss:=by
 unfold mR;constructor
 ·rintro⟨s,hs,h⟩;rcases List.mem_append.mp hs with hs|hs
  ·exact .inl ⟨s,hs,h⟩
  ·exact .inr ⟨s,hs,h⟩
 ·rintro(⟨s,hs,h⟩|⟨s,hs,h⟩)
  ·exact⟨s,by simp[hs],h⟩
  ·exact⟨s,by simp[hs],h⟩
theorem zmW{x:Int}{b:Int×Int}{bs:qB}:mB x (b::bs)↔(b.1<=x/\x<eB b)\/mB x bs:=by
 unfold mB;constructor
 ·rintro⟨s,hs,h⟩;rcases List.mem_cons.mp hs with rfl|hs
  ·exact .inl h
  ·exact .inr ⟨s,hs,h⟩
 ·rintro(h|⟨s,hs,h⟩)
  ·exact⟨b,by simp,h⟩
  ·exact⟨s,by simp[hs],h⟩
theorem ZR{x:Int}:¬mB x []:=fun⟨_,h,_⟩=>nomatch h
theorem Vu{x:Int}{bs cs:qB}:mB x (bs++cs)↔mB x bs\/mB x cs:=by
 unfold mB;constructor
 ·rintro⟨s,hs,h⟩;rcases List.mem_append.mp hs with hs|hs
  ·exact .inl ⟨s,hs,h⟩
  ·exact .inr ⟨s,hs,h⟩
 ·rintro(⟨s,hs,h⟩|⟨s,hs,h⟩)
  ·exact⟨s,by simp[hs],h⟩
  ·exact⟨s,by simp[hs],h⟩
theorem zmV{x:Int}{bs cs:qB}(h:bs.Perm cs):mB x bs↔mB x cs:=by
 unfold mB;constructor
 ·rintro⟨s,hs,q⟩;exact⟨s,h.mem_iff.mp hs,q⟩
 ·rintro⟨s,hs,q⟩;exact⟨s,h.mem_iff.mpr hs,q⟩
theorem NR.tail{r:Run}{rs:List Run}(h:NR (r::rs)):NR rs:=⟨fun s hs=>h.1 s (by simp[hs]),(List.pairwise_cons.mp h.2).2⟩
theorem NR.ahead{r:Run}{rs:List Run}(h:NR (r::rs)){x:Int}(hx:mR x rs):r.2<x:=by
 obtain⟨s,hs,h1,h2⟩:=hx;have:=(List.pairwise_cons.mp h.2).1 s hs;lia
theorem NR.uniq:∀{rs ss:List Run},NR rs->NR ss->(∀x,mR x rs↔mR x ss)->rs=ss
 | [],[],_,_,_=>rfl
 | [],s::ss,_,h,e=>by
  exfalso;have:=h.1 s (by simp)
  exact Qp ((e s.1).mpr (JY.mpr (.inl ⟨Int.le_refl _,this⟩)))
 | r::rs,[],h,_,e=>by
  exfalso;have:=h.1 r (by simp)
  exact Qp ((e r.1).mp (JY.mpr (.inl ⟨Int.le_refl _,this⟩)))
 | r::rs,s::ss,hr,hs,e=>by
  have r1:=hr.1 r (by simp)
  have s1:=hs.1 s (by simp)
  have a:∀x,mR x (r::rs)->r.1<=x:=fun x hx=>by
   rcases JY.mp hx with z|z
   ·exact z.1
   ·have:=hr.ahead z;lia
  have b:∀x,mR x (s::ss)->s.1<=x:=fun x hx=>by
   rcases JY.mp hx with z|z
   ·exact z.1
   ·have:=hs.ahead z;lia
  have e1:r.1=s.1:=by
   have:=b r.1 ((e r.1).mp (JY.mpr (.inl ⟨Int.le_refl _,r1⟩)));have:=a s.1 ((e s.1).mpr (JY.mpr (.inl ⟨Int.le_refl _,s1⟩)));lia
  have nr:¬mR r.2 (r::rs):=fun z=>by
   rcases JY.mp z with y|y
   ·lia
   ·have:=hr.ahead y;lia
  have ns:¬mR s.2 (s::ss):=fun z=>by
   rcases JY.mp z with y|y
   ·lia
   ·have:=hs.ahead y;lia
  have e2:r.2=s.2:=by
   rcases Int.lt_trichotomy r.2 s.2 with z|z|z
   ·exact absurd ((e r.2).mpr (JY.mpr (.inl ⟨by lia,z⟩))) nr
   ·exact z
   ·exact absurd ((e s.2).mp (JY.mpr (.inl ⟨by lia,z⟩))) ns
  have er:r=s:=Prod.ext e1 e2;subst er;rw[NR.uniq hr.tail hs.tail fun x=>?_]
  have ex:=e x;rw[JY,JY]at ex;constructor
  ·intro z;have:=hr.ahead z;rcases ex.mp (Or.inr z) with y|y
   ·lia
   ·exact y
  ·intro z;have:=hs.ahead z;rcases ex.mpr (Or.inr z) with y|y
   ·lia
   ·exact y
def QK(lo hi:Int)(h:Nat):Prop:=lo % 2 ^ h=0/\(2:Int) ^ h<=hi - lo/\¬(lo % 2 ^ (h+1)=0/\(2:Int) ^ (h+1)<=hi - lo)
theorem zef{a b:Nat}(h:a<=b):((2:Int) ^ a)∣2 ^ b:=⟨2 ^ (b - a),by rw[<- Int.pow_add];congr 1;lia⟩
theorem Uu{a b:Nat}(h:a<=b):(2:Int) ^ a<=2 ^ b:=by
 obtain⟨c,e⟩:=zef h;have pa:=Bd.Qj a;have pb:=Bd.Qj b;have pc:0<c:=by
  rcases Int.lt_trichotomy c 0 with z|z|z
  ·have:=Int.mul_neg_of_pos_of_neg pa z;lia
  ·subst z;lia
  ·exact z
 rw[e];have:=Int.mul_le_mul_of_nonneg_left (show(1:Int)<=c by lia) (show(0:Int)<=2 ^ a by lia)
 lia
theorem YR{lo:Int}{a b:Nat}(h:a<=b)(e:lo % 2 ^ b=0):lo % 2 ^ a=0:=by
 have d:((2:Int) ^ b)∣lo:=Int.dvd_of_emod_eq_zero e;exact Int.emod_eq_zero_of_dvd (Int.dvd_trans (zef h) d)
theorem QK.uniq{lo hi:Int}{h g:Nat}(a:QK lo hi h)(b:QK lo hi g):h=g:=by
 rcases Nat.lt_trichotomy h g with z|z|z
 ·exfalso;exact a.2.2 ⟨YR (show h+1<=g by lia) b.1,Int.le_trans (Uu (show h+1<=g by lia)) b.2.1⟩
 ·exact z
 ·exfalso;exact b.2.2 ⟨YR (show g+1<=h by lia) a.1,Int.le_trans (Uu (show g+1<=h by lia)) a.2.1⟩
def Ju:Int->Int->List (Int×Int)->Prop
 | lo,hi,[]=>lo=hi
 | lo,hi,b::r=>lo<hi/\b.1=lo/\0<=b.2/\QK lo hi b.2.toNat/\Ju (lo+2 ^ b.2.toNat) hi r
theorem Ju.le:∀{bs:qB}{lo hi:Int},Ju lo hi bs->lo<=hi
 | [],_,_,h=>by have:_=_:=h;lia
 | b::r,lo,hi,h=>by have:=h.1;lia
theorem Ju.uniq:∀{bs cs:qB}{lo hi:Int},Ju lo hi bs->Ju lo hi cs->bs=cs
 | [],[],_,_,_,_=>rfl
 | [],c::cs,lo,hi,h,k=>by have:lo=hi:=h;have:=k.1;lia
 | b::bs,[],lo,hi,h,k=>by have:lo=hi:=k;have:=h.1;lia
 | b::bs,c::cs,lo,hi,h,k=>by
  obtain⟨h1,h2,h3,h4,h5⟩:=h;obtain⟨k1,k2,k3,k4,k5⟩:=k;have e:=h4.uniq k4;have e2:b.2=c.2:=by lia
  have eb:b=c:=Prod.ext (by lia) e2
  subst eb;rw[Ju.uniq h5 k5]
theorem Ju.mem:∀{bs:qB}{lo hi:Int},Ju lo hi bs->∀x,mB x bs↔lo<=x/\x<hi
 | [],lo,hi,h,x=>by
  have:lo=hi:=h;exact⟨fun z=>absurd z ZR,fun z=>by lia⟩
 | b::r,lo,hi,h,x=>by
  obtain⟨h1,h2,h3,h4,h5⟩:=h;have:=Ju.mem h5 x;have l:=Ju.le h5;have p:=Bd.Qj b.2.toNat;rw[zmW,this];unfold eB;rw[h2];lia
theorem Ju.blk{bits:Int}(b0:0<=bits):∀{bs:qB}{lo hi:Int},Ju lo hi bs->0<=lo->hi<=2 ^ bits.toNat->Bks bits bs
 | [],_,_,_,_,_=>fun b hb=>nomatch hb
 | b::r,lo,hi,h,l0,l1=>by
  obtain⟨h1,h2,h3,h4,h5⟩:=h;have p:=Bd.Qj b.2.toNat;have l:=Ju.le h5;have ih:=Ju.blk b0 h5 (by lia) l1
  intro c hc;rcases List.mem_cons.mp hc with rfl|hc
  ·have hb:c.2.toNat<=bits.toNat:=by
    rcases Nat.lt_or_ge bits.toNat c.2.toNat with z|z
    ·exfalso;have:=Uu (show bits.toNat+1<=c.2.toNat by lia)
     have p2:=Bd.Qj bits.toNat;rw[Int.pow_succ]at this;have:=h4.2.1;lia
    ·exact z
   obtain⟨k,ek⟩:=Int.dvd_of_emod_eq_zero h4.1;have k0:0<=k:=by
    rcases Int.lt_or_le k 0 with z|z
    ·have:=Int.mul_neg_of_pos_of_neg p z;lia
    ·exact z
   refine⟨h3,by lia,k,k0,by rw[h2,ek,Int.mul_comm],?_⟩
   have e:(2:Int) ^ bits.toNat=2 ^ (bits - c.2).toNat*2 ^ c.2.toNat:=by rw[<- Int.pow_add];congr 1;lia
   have up:k*2 ^ c.2.toNat<2 ^ (bits - c.2).toNat*2 ^ c.2.toNat:=by
    rw[<- e,Int.mul_comm,<- ek];lia
   exact Int.lt_of_mul_lt_mul_right up (by lia)
  ·exact ih c hc
theorem Ju.in:∀{bs:qB}{lo hi:Int},Ju lo hi bs->∀b∈bs,lo<=b.1/\eB b<=hi
 | [],_,_,_=>fun b hb=>nomatch hb
 | b::r,lo,hi,h=>by
  obtain⟨h1,h2,h3,h4,h5⟩:=h;have p:=Bd.Qj b.2.toNat;have ih:=Ju.in h5;have l:=Ju.le h5;intro c hc;rcases List.mem_cons.mp hc with rfl|hc
  ·unfold eB;rw[h2];lia
  ·have:=ih c hc;lia
theorem Ju.pw:∀{bs:qB}{lo hi:Int},Ju lo hi bs->bs.Pairwise fun a b=>eB a<=b.1
 | [],_,_,_=>.nil
 | b::r,lo,hi,h=>by
  obtain⟨h1,h2,h3,h4,h5⟩:=h;refine .cons (fun c hc=>?_) (Ju.pw h5)
  have:=Ju.in h5 c hc;unfold eB;rw[h2];lia
theorem zhr:∀{bs:qB}{lo hi:Int}{k:Nat},Ju lo hi bs->lo % 2 ^ k=0->hi - lo<2 ^ k->bs.length<=k
 | [],_,_,_,_,_,_=>Nat.zero_le _
 | b::r,lo,hi,k,h,d,l=>by
  obtain⟨h1,h2,h3,h4,h5⟩:=h;have hk:b.2.toNat<k:=by
   rcases Nat.lt_or_ge b.2.toNat k with z|z
   ·exact z
   ·have:=Uu z;have:=h4.2.1;lia
  have up:¬(2:Int) ^ (b.2.toNat+1)<=hi - lo:=fun z=>h4.2.2 ⟨YR (show b.2.toNat+1<=k by lia) d,z⟩
  rw[Int.pow_succ]at up;have:=zhr (k:=b.2.toNat) h5 (by rw[Int.add_emod,h4.1];simp) (by lia)
  rw[List.length_cons];lia
theorem zhq{K:Nat}:∀{bs:qB}{lo hi:Int}{k:Nat},Ju lo hi bs->lo % 2 ^ k=0->hi - lo<2 ^ K->k<=K->bs.length<=(K - k)+K
 | [],_,_,_,_,_,_,_=>Nat.zero_le _
 | b::r,lo,hi,k,h,d,l,hkK=>by
  obtain⟨h1,h2,h3,h4,h5⟩:=h;have p:=Bd.Qj b.2.toNat;have hK:b.2.toNat<K:=by
   rcases Nat.lt_or_ge b.2.toNat K with z|z
   ·exact z
   ·have:=Uu z;have:=h4.2.1;lia
  rw[List.length_cons]
  by_cases up:(2:Int) ^ (b.2.toNat+1)<=hi - lo
  ·have nd:¬lo % 2 ^ (b.2.toNat+1)=0:=fun z=>h4.2.2 ⟨z,up⟩
   have hk:k<=b.2.toNat:=by
    rcases Nat.lt_or_ge b.2.toNat k with z|z
    ·exact absurd (YR (show b.2.toNat+1<=k by lia) d) nd
    ·exact z
   have d':(lo+2 ^ b.2.toNat) % 2 ^ (b.2.toNat+1)=0:=by
    obtain⟨q,eq⟩:=Int.dvd_of_emod_eq_zero h4.1;have e2:(2:Int) ^ (b.2.toNat+1)=2 ^ b.2.toNat*2:=Int.pow_succ _ _;rw[e2]at nd ⊢;have odd:q % 2=1:=by
     rcases Int.emod_two_eq q with z|z
     ·exfalso;obtain⟨t,et⟩:=Int.dvd_of_emod_eq_zero z;apply nd;apply Int.emod_eq_zero_of_dvd;exact⟨t,by rw[eq,et,Int.mul_assoc]⟩
     ·exact z
    apply Int.emod_eq_zero_of_dvd;refine⟨(q+1) / 2,?_⟩;have:q+1=2*((q+1) / 2):=by lia
    rw[eq,Int.mul_assoc,<- this,Int.mul_add,Int.mul_one]
   have:=zhq (K:=K) (k:=b.2.toNat+1) h5 d' (by lia) (by lia)
   lia
  ·rw[Int.pow_succ]at up;have:=zhr (k:=b.2.toNat) h5 (by rw[Int.add_emod,h4.1];simp) (by lia)
   lia
theorem Ju.len{bs:qB}{lo hi:Int}(h:Ju lo hi bs)(l0:0<=lo)(l1:hi<=2 ^ 64):bs.length<=130:=by
 have:=zhq (K:=65) (k:=0) h (by simp) (by have e:(2:Int) ^ 65=2*2 ^ 64:=by decide
                                          lia) (by decide)
 lia
theorem zkx{lo hi:Int}(h:lo<hi):∃g,QK lo hi g:=by
 have key:∀(d k:Nat),lo % 2 ^ k=0->(2:Int) ^ k<=hi - lo->(hi - lo).toNat<2 ^ (k+d)->∃g,QK lo hi g:=by
  intro d;induction d with
  | zero =>
   intro k _ b c;exfalso;have:((2 ^ k:Nat):Int)=(2:Int) ^ k:=by rw[Int.natCast_pow];rfl
   rw[Nat.add_zero]at c;lia
  | succ d ih =>
   intro k a b c
   by_cases z:lo % 2 ^ (k+1)=0/\(2:Int) ^ (k+1)<=hi - lo
   ·exact ih (k+1) z.1 z.2 (by rw[show k+1+d=k+(d+1) by lia];exact c)
   ·exact⟨k,a,b,z⟩
 refine key (hi - lo).toNat 0 (by simp) (by simp;lia) ?_
 rw[Nat.zero_add];exact Nat.lt_two_pow_self
theorem zl0:∀(n:Nat) (lo hi:Int),(hi - lo).toNat<=n->lo<=hi->∃bs,Ju lo hi bs:=by
 intro n;induction n with
 | zero =>
  intro lo hi h l;exact⟨[],by show lo=hi;lia⟩
 | succ n ih =>
  intro lo hi h l
  by_cases z:lo<hi
  ·obtain⟨g,G⟩:=zkx z;have p:=Bd.Qj g;have:=G.2.1;obtain⟨bs,B⟩:=ih (lo+2 ^ g) hi (by lia) (by lia)
   exact⟨(lo,(g:Int))::bs,z,rfl,by show(0:Int)<=(g:Int);lia,by simpa using G,by simpa using B⟩
  ·exact⟨[],by show lo=hi;lia⟩
def PatS:List Run->List (Int×Int)->Prop
 | [],ps=>ps=[]
 | r::rs,ps=>∃a b,ps=a++b/\Ju r.1 r.2 a/\PatS rs b
theorem PatS.uniq:∀{rs:List Run}{ps qs:qB},PatS rs ps->PatS rs qs->ps=qs
 | [],_,_,h,k=>by rw[show _=[] from h,show _=[] from k]
 | r::rs,_,_,h,k=>by
  obtain⟨a,b,rfl,h1,h2⟩:=h;obtain⟨c,d,rfl,k1,k2⟩:=k;rw[h1.uniq k1,PatS.uniq h2 k2]
theorem PatS.mem:∀{rs:List Run}{ps:qB},PatS rs ps->∀x,mB x ps↔mR x rs
 | [],_,h,x=>by
  cases(show _=[] from h)
  exact⟨fun z=>absurd z ZR,fun z=>absurd z Qp⟩
 | r::rs,_,h,x=>by
  obtain⟨a,b,rfl,h1,h2⟩:=h;rw[Vu,JY,h1.mem x,PatS.mem h2 x]
theorem PatS.blk{bits:Int}(b0:0<=bits):∀{rs:List Run}{ps:qB},PatS rs ps->(∀r∈rs,0<=r.1/\r.2<=2 ^ bits.toNat)->Bks bits ps
 | [],_,h,_=>by cases(show _=[] from h);exact fun b hb=>nomatch hb
 | r::rs,_,h,w=>by
  obtain⟨a,b,rfl,h1,h2⟩:=h;have wr:=w r (by simp)
  intro c hc;rcases List.mem_append.mp hc with hc|hc
  ·exact h1.blk b0 wr.1 wr.2 c hc
  ·exact PatS.blk b0 h2 (fun s hs=>w s (by simp[hs])) c hc
theorem PatS.in:∀{rs:List Run}{ps:qB},PatS rs ps->∀b∈ps,∃r∈rs,r.1<=b.1/\eB b<=r.2
 | [],_,h=>by cases(show _=[] from h);exact fun b hb=>nomatch hb
 | r::rs,_,h=>by
  obtain⟨a,b,rfl,h1,h2⟩:=h;intro c hc;rcases List.mem_append.mp hc with hc|hc
  ·exact⟨r,by simp,h1.in c hc⟩
  ·obtain⟨s,hs,q⟩:=PatS.in h2 c hc;exact⟨s,by simp[hs],q⟩
theorem PatS.pw:∀{rs:List Run}{ps:qB},PatS rs ps->NR rs->ps.Pairwise fun a b=>eB a<=b.1
 | [],_,h,_=>by cases(show _=[] from h);exact .nil
 | r::rs,_,h,nr=>by
  obtain⟨a,b,rfl,h1,h2⟩:=h;rw[List.pairwise_append];refine⟨h1.pw,PatS.pw h2 nr.tail,fun x hx y hy=>?_⟩
  have:=h1.in x hx;obtain⟨s,hs,q⟩:=PatS.in h2 y hy;have:=(List.pairwise_cons.mp nr.2).1 s hs;lia
theorem PatS.len:∀{rs:List Run}{ps:qB},PatS rs ps->(∀r∈rs,0<=r.1/\r.2<=2 ^ 64)->ps.length<=130*rs.length
 | [],_,h,_=>by cases(show _=[] from h);simp
 | r::rs,_,h,w=>by
  obtain⟨a,b,rfl,h1,h2⟩:=h;have wr:=w r (by simp)
  have:=h1.len wr.1 wr.2;have:=PatS.len h2 fun s hs=>w s (by simp[hs])
  rw[List.length_append,List.length_cons];lia
def CanP(S:Int->Prop)(ps:qB):Prop:=∃rs,NR rs/\(∀x,mR x rs↔S x)/\PatS rs ps
theorem CanP.uniq{S T:Int->Prop}{ps qs:qB}(h:CanP S ps)(k:CanP T qs)(e:∀x,S x↔T x):ps=qs:=by
 obtain⟨rs,h1,h2,h3⟩:=h;obtain⟨ss,k1,k2,k3⟩:=k;have:rs=ss:=h1.uniq k1 fun x=>by rw[h2,k2,e]
 subst this;exact h3.uniq k3
theorem CanP.mem{S:Int->Prop}{ps:qB}(h:CanP S ps)(x:Int):mB x ps↔S x:=by
 obtain⟨rs,h1,h2,h3⟩:=h;rw[h3.mem,h2]
theorem CanP.ptc{S:Int->Prop}{ps:qB}{bits:Int}(b0:0<=bits)(h:CanP S ps)(w:∀x,S x->0<=x/\x<2 ^ bits.toNat):Ptc bits ps:=by
 obtain⟨rs,h1,h2,h3⟩:=h;refine⟨h3.blk b0 fun r hr=>?_,h3.pw h1⟩
 have lt:=h1.1 r hr;have a:=w r.1 ((h2 _).mp ⟨r,hr,Int.le_refl _,lt⟩);have b:=w (r.2 - 1) ((h2 _).mp ⟨r,hr,by lia,by lia⟩)
 lia
section
variable{X:Cx}{a:Expr}{da:DTE}{ρ:En}{n:Nat}{R:qN}
theorem zmS:MtR X "int.bit_length" (fun x xs H Q=>∃i,x=.int i/\xs=[]/\Q (.int (Builtin.Int.intBits i)) H):=by
 intro pins s σ H x xs v us Q I rx rs h;obtain⟨i,rfl,rfl,q⟩:=h;obtain⟨t,rfl⟩:=rx;cases rs;exact call_int_bit_length ⟨.int _,H,I.tok _,⟨_,rfl⟩,q⟩
def znC(d:DTE):DTE:=fun ρ n R=>d ρ n fun t n1=>lInt t fun i=>R (.int (Builtin.Int.intBits i)) n1
theorem zit{p2 p3:Pos}(h:DL X a da)(hbase:attributeBase a "bit_length" X.env (eval a X.env)=eval a X.env:=by rfl) (hline:(p2.endLine == p3.line)=true:=by rfl):DE X (.Call (.Attribute a "bit_length" p2) [] [] p3) (znC da):=by
 obtain⟨ta,pa,h⟩:=h;refine⟨_,zsm PySem.F.plainAttrs_int slot_int_bit_length type_int_bit_length zmS pa hbase hline,fun C ρ σ H n Q R S hd hq=>?_⟩
 refine h C ρ σ H n _ _ S hd fun t n1 v H1 r e1 h1 q1=>?_
 cases t with
 | int i =>
  rw[q1.intI];exact⟨rfl,i,rfl,rfl,hq _ n1 _ H1 r e1 h1 (.int _)⟩
 | _=>exact r.elim
instance zuH:Stp (znC da ρ n R) (da ρ n fun t n1=>lInt t fun i=>R (.int (Builtin.Int.intBits i)) n1):=⟨fun h=>h⟩
end
theorem zfw{i:Int}(h:0<i):(Builtin.Int.intBits i:Int) - 1=(i.toNat.log2:Int):=by
 unfold Builtin.Int.intBits;have:(i == 0)=false:=by simp;lia
 rw[this];have e:i.natAbs=i.toNat:=by lia
 rw[e];simp
theorem zm2{i:Int}(h:0<i):(2:Int) ^ i.toNat.log2<=i:=by
 have:=Nat.log2_self_le (n:=i.toNat) (by lia)
 have e:((2 ^ i.toNat.log2:Nat):Int)=(2:Int) ^ i.toNat.log2:=by rw[Int.natCast_pow];rfl
 lia
theorem zmY{i:Int}(h:0<i):i<(2:Int) ^ (i.toNat.log2+1):=by
 have:=Nat.lt_log2_self (n:=i.toNat);have e:((2 ^ (i.toNat.log2+1):Nat):Int)=(2:Int) ^ (i.toNat.log2+1):=by rw[Int.natCast_pow];rfl
 lia
theorem zm3(t:Nat):∀x:Nat,x % 2 ^ t=0->¬x % 2 ^ (t+1)=0->x - (x &&& (x - 1))=2 ^ t:=by
 induction t with
 | zero =>
  intro x _ h;have od:x % 2=1:=by
   have:¬x % 2=0:=by simpa using h
   lia
  have e:x &&& (x - 1)=x - 1:=by
   apply Nat.eq_of_testBit_eq;intro i;rw[Nat.testBit_and];cases i with
   | zero =>
    have:(x - 1).testBit 0=false:=by rw[Nat.testBit_zero];simp;lia
    rw[this,Bool.and_false]
   | succ i =>
    have:x / 2=(x - 1) / 2:=by lia
    rw[Nat.testBit_succ,Nat.testBit_succ,this,Bool.and_self]
  rw[e];simp;lia
 | succ t ih =>
  intro x h1 h2;have ev:x % 2=0:=by
   have:2∣2 ^ (t+1):=⟨2 ^ t,by rw[Nat.pow_succ,Nat.mul_comm]⟩
   exact Nat.mod_eq_zero_of_dvd (Nat.dvd_trans this (Nat.dvd_of_mod_eq_zero h1))
  have hx:x=2*(x / 2):=by lia
  have p1:(x / 2) % 2 ^ t=0:=by
   obtain⟨q,e⟩:=Nat.dvd_of_mod_eq_zero h1;apply Nat.mod_eq_zero_of_dvd;refine⟨q,?_⟩;rw[Nat.pow_succ]at e;have:x=2*(2 ^ t*q):=by rw[e];rw[Nat.mul_comm (2 ^ t) 2,Nat.mul_assoc]
   lia
  have p2:¬(x / 2) % 2 ^ (t+1)=0:=fun z=>by
   obtain⟨q,e⟩:=Nat.dvd_of_mod_eq_zero z;apply h2;apply Nat.mod_eq_zero_of_dvd;refine⟨q,?_⟩;rw[Nat.pow_succ,Nat.mul_comm (2 ^ (t+1)) 2,Nat.mul_assoc,<- e];exact hx
  have:=ih (x / 2) p1 p2;have e:x &&& (x - 1)=2*(x / 2 &&& (x / 2 - 1)):=by
   apply Nat.eq_of_testBit_eq;intro i;rw[Nat.testBit_and];cases i with
   | zero =>
    have a:x.testBit 0=false:=by rw[Nat.testBit_zero];simp;lia
    rw[a,Bool.false_and,Nat.testBit_zero];simp
   | succ i =>
    have nz:0<x / 2:=by
     rcases Nat.eq_zero_or_pos (x / 2) with z|z
     ·rw[z]at p2;simp at p2
     ·exact z
    have b:(x - 1) / 2=x / 2 - 1:=by lia
    rw[Nat.testBit_succ,Nat.testBit_succ,Nat.testBit_succ,b,Nat.mul_div_cancel_left _ (by decide:0<2),Nat.testBit_and]
  rw[e,Nat.pow_succ];have le:(x / 2 &&& (x / 2 - 1))<=x / 2:=Nat.and_le_left;lia
theorem zrl{b:Int}(h:0<b){t:Nat}(h1:b % 2 ^ t=0)(h2:¬b % 2 ^ (t+1)=0):Builtin.bitAnd b (-b)=2 ^ t:=by
 have e:Builtin.bitAnd b (-b)=b - ((b.toNat &&& (b.toNat - 1):Nat):Int):=by
  have h0:decide (0<=b)=true:=decide_eq_true (by lia)
  have h3:decide (0<=-b)=false:=decide_eq_false (by lia)
  show(match decide (0<=b),decide (0<=-b) with
   | true,true=>((b.toNat &&& (-b).toNat:Nat):Int)
   | true,false=>b - ((b.toNat &&& (Builtin.bitNot (-b)).toNat:Nat):Int)
   | false,true=>(-b) - (((-b).toNat &&& (Builtin.bitNot b).toNat:Nat):Int)
   | false,false=>Builtin.bitNot (((Builtin.bitNot b).toNat|||(Builtin.bitNot (-b)).toNat:Nat):Int))=_
  rw[h0,h3];have:(Builtin.bitNot (-b)).toNat=b.toNat - 1:=by
   have:Builtin.bitNot (-b)=b - 1:=by show -(-b) - 1=b - 1;lia
   rw[this];lia
  rw[this]
 have cast:∀k:Nat,b % (2:Int) ^ k=((b.toNat % 2 ^ k:Nat):Int):=fun k=>by
  rw[Int.natCast_emod,Int.natCast_pow,Int.toNat_of_nonneg (by lia)];rfl
 rw[cast]at h1 h2;have:=zm3 t b.toNat (by lia) (by lia)
 have le:(b.toNat &&& (b.toNat - 1))<=b.toNat:=Nat.and_le_left;rw[e];have e3:((2 ^ t:Nat):Int)=(2:Int) ^ t:=by rw[Int.natCast_pow];rfl
 lia
theorem zuK{b:Int}(h:0<b):∃t:Nat,b % 2 ^ t=0/\¬b % 2 ^ (t+1)=0:=by
 obtain⟨g,G⟩:=zkx (lo:=b) (hi:=b+b+1) (by lia)
 refine⟨g,G.1,fun z=>?_⟩
 have d:=Int.dvd_of_emod_eq_zero z;have:=Int.le_of_dvd h d;exact G.2.2 ⟨z,by lia⟩
theorem zkr{xs:qD}{x:PyData}:ixN (xs++[x]).length (-1)=some xs.length:=by
 unfold ixN;simp;lia
theorem zkp{xs:qD}{x:PyData}{Q:PyData->Prop}(h:Q x):oIx (.list (xs++[x])) (.int (-1)) Q:=by
 have e:atI (xs++[x]) (-1)=some x:=by
  unfold atI;rw[zkr];simp
 rw[YU e];exact h
end L2
namespace Bd
open PySem L2
def ppD(xs:List (PyData×PyData)):List PyData:=xs.map fun p=>.tuple [p.1,p.2]
def oD(os:List ((Int×Int)×Str)):List PyData:=os.map fun p=>.tuple [prD p.1,.str p.2]
theorem Q0{os:List ((Int×Int)×Str)}:(oD os).length=os.length:=by simp[oD]
def Shr(bits:Int)(os:List ((Int×Int)×Str)):Prop:=Ptc bits (os.map (·.1))/\∀p∈os,IsNm p.2
def IsSh(bits:Int)(d:PyData):Prop:=∃os,d=.tuple (oD os)/\Shr bits os
theorem Vj(os:List ((Int×Int)×Str)):oD os=ppD (os.map fun p=>(prD p.1,.str p.2)):=by
 unfold oD ppD;rw[List.map_map];rfl
theorem zi0:∀{xs ys:List (PyData×PyData)},ppD xs=ppD ys->xs=ys
 | [],[],_=>rfl
 | [],_::_,h=>by cases h
 | _::_,[],h=>by cases h
 | (a,b)::xs,(c,d)::ys,h=>by
  simp only[ppD,List.map_cons,List.cons.injEq,PyData.tuple.injEq,and_true]at h;obtain⟨⟨rfl,rfl⟩,h⟩:=h;rw[zi0 h]
def apB(a b:Int×Int):Prop:=eB a<=b.1\/eB b<=a.1
def okPr(p q:(Int×Int)×Str):Prop:=p.2=q.2\/apB p.1 q.1
def Agr(os ks:List ((Int×Int)×Str)):Prop:=∀p∈os,∀q∈ks,okPr p q
theorem zsF{os:List ((Int×Int)×Str)}{k:Nat}{p:(Int×Int)×Str}(h:os[k]?=some p):(oD os)[k]?=some (.tuple [.tuple [.int p.1.1,.int p.1.2],.str p.2]):=by
 unfold oD;rw[List.getElem?_map,h];rfl
theorem zpS{bits:Int}{a b:Int×Int}(A:IsBk bits a.1 a.2)(B:IsBk bits b.1 b.2):(!hldD a.1 a.2 b.1 b.2&&!hldD b.1 b.2 a.1 a.2)=true↔apB a b:=by
 rw[zt0 A B,decide_eq_true_iff];unfold apB eB;omega
abbrev Deal:=Int×List ((Int×Int)×Str)×List ((Int×Int)×Str)
def dlD(d:Deal):PyData:=.tuple [.int d.1,.tuple (oD d.2.1),.tuple (oD d.2.2)]
def Dl(d:Deal):Prop:=1<=d.1/\d.1<=64/\Shr d.1 d.2.1/\Shr d.1 d.2.2/\Agr d.2.1 d.2.2
def IsDl(x:PyData):Prop:=∃d:Deal,x=dlD d/\Dl d
theorem dl3{a b c:PyData}{d:Deal}(e:PyData.tuple [a,b,c]=dlD d):a=.int d.1/\b=.tuple (oD d.2.1)/\c=.tuple (oD d.2.2):=by
 unfold dlD at e;simpa using e
theorem zmP:∀{os ks:List ((Int×Int)×Str)},oD os=oD ks->os=ks
 | [],[],_=>rfl
 | [],_::_,h=>by cases h
 | _::_,[],h=>by cases h
 | ((a,b),c)::os,((a',b'),c')::ks,h=>by
  simp only[oD,List.map_cons,List.cons.injEq,PyData.tuple.injEq,PyData.int.injEq,PyData.str.injEq,and_true]at h;obtain⟨⟨⟨rfl,rfl⟩,rfl⟩,h⟩:=h;rw[zmP h]
def nD(nms:List Str):List PyData:=nms.map .str
theorem zpD{nms:List Str}:(nD nms).length=nms.length:=by simp[nD]
end Bd
namespace L2
open PySem PySem.Spec PyProof.Rows
section
variable{X:Cx}{tg iter:Expr}{d:DTE}
def iSeq(K:qF)(tl:TE):TI:=fun σ H R=>tl σ H fun x H1=>∃a,x=.ref a/\(((∃xs,SqL K H1 a xs)/\R (Itl K a) H1)\/((∃xs,SqT K H1 a xs)/\R (Itt K a) H1))
theorem zsd{l:Expr}{tl:TE}(hl:PE X l tl):PI X tg l (iSeq X.K tl):=by
 intro pins s σ H R I h;refine thn (hl pins s σ H _ I h) fun v s1 ⟨x,H1,I1,r1,q1⟩=>?_
 obtain⟨a,e,q1⟩:=q1;subst e;cases r1;rcases q1 with⟨⟨xs,hq⟩,q⟩|⟨⟨xs,hq⟩,q⟩
 ·obtain⟨its,rv,p,hz⟩:=I1.list hq;refine wpAny_pyIter_list p.isList ?_;refine⟨s1.heap.objs.size,[s1.heap.objs.size],_,_,H1,rfl,I1.kept (t':=s1.toks) fun b o e=>Heap.get?_push_of_some _ e,zhl a _,⟨_,Heap.get?_push_size _ rfl,rfl,rfl⟩,fun b hb=>?_,q⟩
  have e:b=s1.heap.objs.size:=by simpa using hb
  subst e;exact I1.fpOk (Nat.le_refl _) (I1.hok.fresh (Nat.le_refl _))
 ·obtain⟨its,rv,p,hz⟩:=I1.tuple hq;refine wpAny_pyIter_tuple (show s1.heap.IsTuple a its.toArray from p) ?_
  refine⟨s1.heap.objs.size,[s1.heap.objs.size],_,_,H1,rfl,I1.kept (t':=s1.toks) fun b o e=>Heap.get?_push_of_some _ e,zf3 a _,⟨_,Heap.get?_push_size _ rfl,rfl,rfl⟩,fun b hb=>?_,q⟩
  have e:b=s1.heap.objs.size:=by simpa using hb
  subst e;exact I1.fpOk (Nat.le_refl _) (I1.hok.fresh (Nat.le_refl _))
def dItA(d:DTE):DTA:=fun ρ n R=>d ρ n fun t n'=>Qi t fun ts=>R ts n'
theorem zpO(h:DE X iter d):DI X tg iter (dItA d):=by
 obtain⟨ta,pa,h⟩:=h;refine⟨_,zsd pa,fun C ρ σ H n Q R S hd hq=>?_⟩
 refine h C ρ σ H n _ _ S hd fun t n' v H' r e1 hn q=>?_
 cases t with
 | tuple ts =>
  obtain⟨p,vs,rfl,h1,it⟩:=zpK (P:=fun a=>¬Own C ρ σ a) (fun _ z=>z) q
  exact⟨p,rfl,.inr ⟨⟨vs,h1⟩,hq ts n' _ H' r e1 hn it⟩⟩
 | list ts =>
  obtain⟨p,vs,rfl,h1,no,r2⟩:=q.lstI;exact⟨p,rfl,.inl ⟨⟨vs,SqL.of h1⟩,hq ts n' _ H' r e1 hn (VW h1 no (fun _ z=>z) r2)⟩⟩
 | _=>exact r.elim
end
section
variable{ρ:En}{n:Nat}{d:DTE}{Rl:List PyData->Nat->Prop}
instance zwE:Stp (dItA d ρ n Rl) (d ρ n fun t n'=>Qi t fun ts=>Rl ts n'):=⟨fun h=>h⟩
end
theorem zhf{bits:Int}{p q:Int×Int}(P:IsBk bits p.1 p.2)(Q:IsBk bits q.1 q.2){x:Int}(hp:p.1<=x/\x<eB p)(hq:q.1<=x/\x<eB q):(p.1<=q.1/\eB q<=eB p/\q.2<=p.2)\/(q.1<=p.1/\eB p<=eB q/\p.2<=q.2):=by
 unfold eB at *;rcases Nat.le_total q.2.toNat p.2.toNat with l|l
 ·rcases We P.n Q.n l with z|z|z
  ·left
   have:=(VU P.n Q.n).mp z;have:=P.1;have:=Q.1;lia
  ·lia
  ·lia
 ·rcases We Q.n P.n l with z|z|z
  ·right
   have:=(VU Q.n P.n).mp z;have:=P.1;have:=Q.1;lia
  ·lia
  ·lia
theorem VJ{bits i h:Int}(B:IsBk bits i h):i % 2 ^ h.toNat=0:=by
 obtain⟨_,_,k,_,rfl,_⟩:=B;exact Int.mul_emod_left _ _
theorem Ju.great:∀{bs:qB}{lo hi:Int},Ju lo hi bs->∀b∈bs,QK b.1 hi b.2.toNat/\lo<=b.1
 | [],_,_,_=>fun b hb=>nomatch hb
 | b::r,lo,hi,h=>by
  obtain⟨h1,h2,h3,h4,h5⟩:=h;have p:=Bd.Qj b.2.toNat;intro c hc;rcases List.mem_cons.mp hc with rfl|hc
  ·rw[h2];exact⟨h4,Int.le_refl _⟩
  ·have:=Ju.great h5 c hc;exact⟨this.1,by lia⟩
theorem Ju.max{bits:Int}(b0:0<=bits){bs:qB}{lo hi:Int}(S:Ju lo hi bs)(l0:0<=lo)(l1:hi<=2 ^ bits.toNat){p q:Int×Int}(hp:p∈bs)(Q:IsBk bits q.1 q.2)(w:lo<=q.1/\eB q<=hi)(i:q.1<=p.1/\eB p<=eB q):q=p:=by
 have B:=S.blk b0 l0 l1;have P:=B p hp;have pp:=Bd.Qj p.2.toNat;have pq:=Bd.Qj q.2.toNat;have nest:=zhf P Q (x:=p.1) ⟨Int.le_refl _,by unfold eB;lia⟩ ⟨i.1,by unfold eB at *;lia⟩
 have hle:p.2<=q.2:=by
  rcases nest with⟨a,b,c⟩|⟨a,b,c⟩
  ·have e1:p.1=q.1:=by lia
   have e2:eB p=eB q:=by lia
   unfold eB at e2;rcases Int.lt_or_le q.2 p.2 with z|z
   ·have p0:=P.1;have q0:=Q.1;have:=Uu (show q.2.toNat+1<=p.2.toNat by lia)
    rw[Int.pow_succ]at this;lia
   ·exact z
  ·exact c
 have p0:=P.1;have q0:=Q.1
 by_cases e:p.2=q.2
 ·have e1:(2:Int) ^ p.2.toNat=2 ^ q.2.toNat:=by rw[e]
  have:q.1=p.1:=by unfold eB at *;lia
  exact Prod.ext this e.symm
 ·exfalso;have hlt:p.2.toNat+1<=q.2.toNat:=by lia
  have dq:=VJ Q;have dq1:=YR hlt dq;have G:=(S.great p hp).1
  by_cases ev:p.1 % 2 ^ (p.2.toNat+1)=0
  ·
   apply G.2.2;refine⟨ev,?_⟩;obtain⟨a,ea⟩:=Int.dvd_of_emod_eq_zero ev;have de:eB q % 2 ^ (p.2.toNat+1)=0:=by
    unfold eB;rw[Int.add_emod,dq1,Int.emod_eq_zero_of_dvd (zef hlt)];simp
   obtain⟨c,ec⟩:=Int.dvd_of_emod_eq_zero de;have lt:p.1<eB q:=by have:=i.2;unfold eB at *;lia
   rw[ea,ec]at lt;have pos:=Bd.Qj (p.2.toNat+1);have ac:a<c:=Int.lt_of_mul_lt_mul_left lt (by lia)
   have:=Int.mul_le_mul_of_nonneg_left (show a+1<=c by lia) (show(0:Int)<=2 ^ (p.2.toNat+1) by lia)
   rw[Int.mul_add,Int.mul_one,<- ea,<- ec]at this;lia
  ·
   have lowmod:(p.1 - 2 ^ p.2.toNat) % 2 ^ (p.2.toNat+1)=0:=by
    obtain⟨k,ek⟩:=Int.dvd_of_emod_eq_zero (VJ P);have e2:(2:Int) ^ (p.2.toNat+1)=2 ^ p.2.toNat*2:=Int.pow_succ _ _;rw[e2]at ev ⊢;have odd:k % 2=1:=by
     rcases Int.emod_two_eq k with z|z
     ·exfalso;obtain⟨t,et⟩:=Int.dvd_of_emod_eq_zero z;apply ev;apply Int.emod_eq_zero_of_dvd;exact⟨t,by rw[ek,et,Int.mul_assoc]⟩
     ·exact z
    apply Int.emod_eq_zero_of_dvd;refine⟨(k - 1) / 2,?_⟩;have:k - 1=2*((k - 1) / 2):=by lia
    rw[ek,Int.mul_assoc,<- this,Int.mul_sub,Int.mul_one]
   have lowq:q.1<=p.1 - 2 ^ p.2.toNat:=by
    obtain⟨a,ea⟩:=Int.dvd_of_emod_eq_zero lowmod;obtain⟨c,ec⟩:=Int.dvd_of_emod_eq_zero dq1;have pos:=Bd.Qj (p.2.toNat+1);have e2:(2:Int) ^ (p.2.toNat+1)=2 ^ p.2.toNat*2:=Int.pow_succ _ _;have lt:q.1<p.1 - 2 ^ p.2.toNat+2 ^ (p.2.toNat+1):=by lia
    rw[ea,ec]at lt;have:(2:Int) ^ (p.2.toNat+1)*c<2 ^ (p.2.toNat+1)*(a+1):=by rw[Int.mul_add,Int.mul_one];exact lt
    have ca:=Int.lt_of_mul_lt_mul_left this (by lia)
    have:=Int.mul_le_mul_of_nonneg_left (show c<=a by lia) (show(0:Int)<=2 ^ (p.2.toNat+1) by lia)
    rw[<- ea,<- ec]at this;exact this
   obtain⟨c,hc,c1,c2⟩:=(S.mem (p.1 - 2 ^ p.2.toNat)).mpr ⟨by lia,by have:=S.in p hp;unfold eB at this;lia⟩
   have C:=B c hc;have pc:=Bd.Qj c.2.toNat;have cp:eB c<=p.1:=by
    obtain⟨i1,h1,rfl⟩:=List.getElem_of_mem hc;obtain⟨i2,h2,rfl⟩:=List.getElem_of_mem hp;rcases Nat.lt_trichotomy i1 i2 with z|z|z
    ·exact List.pairwise_iff_getElem.mp S.pw i1 i2 h1 h2 z
    ·subst z;lia
    ·have:=List.pairwise_iff_getElem.mp S.pw i2 i1 h2 h1 z;unfold eB at this;lia
   have LB:IsBk bits (p.1 - 2 ^ p.2.toNat) (p.2+1):=by
    have hq1:=Q.2.1;obtain⟨a,ea⟩:=Int.dvd_of_emod_eq_zero lowmod;have e1:(p.2+1).toNat=p.2.toNat+1:=by lia
    have pos:=Bd.Qj (p.2.toNat+1);have a0:0<=a:=by
     rcases Int.lt_or_le a 0 with z|z
     ·have:=Int.mul_neg_of_pos_of_neg pos z;have:=(Q.bounds b0).1;lia
     ·exact z
    refine⟨by lia,by lia,a,a0,by rw[e1,ea,Int.mul_comm],?_⟩
    have e:(2:Int) ^ bits.toNat=2 ^ (bits - (p.2+1)).toNat*2 ^ (p.2.toNat+1):=by rw[<- Int.pow_add];congr 1;lia
    have up:a*2 ^ (p.2.toNat+1)<2 ^ (bits - (p.2+1)).toNat*2 ^ (p.2.toNat+1):=by
     rw[<- e,Int.mul_comm,<- ea];have:=(P.bounds b0).2;lia
    exact Int.lt_of_mul_lt_mul_right up (by lia)
   have e1:(p.2+1).toNat=p.2.toNat+1:=by lia
   have n3:=zhf (p:=c) (q:=(p.1 - 2 ^ p.2.toNat,p.2+1)) C LB (x:=p.1 - 2 ^ p.2.toNat) ⟨c1,c2⟩ ⟨Int.le_refl _,by show _<_+2 ^ (p.2+1).toNat;have:=Bd.Qj (p.2+1).toNat;lia⟩
   have eL:eB (p.1 - 2 ^ p.2.toNat,p.2+1)=p.1+2 ^ p.2.toNat:=by
    show p.1 - 2 ^ p.2.toNat+2 ^ (p.2+1).toNat=_
    rw[e1,Int.pow_succ];lia
   rcases n3 with⟨z1,z2,z3⟩|⟨z1,z2,z3⟩
   ·lia
   ·have z1:p.1 - 2 ^ p.2.toNat<=c.1:=z1;have z3:c.2<=p.2+1:=z3;have cb:c.1=p.1 - 2 ^ p.2.toNat:=by lia
    have c0:=C.1;have ch:c.2<=p.2:=by
     rcases Int.lt_or_le p.2 c.2 with z|z
     ·have:c.2=p.2+1:=by lia
      unfold eB at cp;rw[this,e1,Int.pow_succ]at cp;lia
     ·exact z
    have Gc:=(S.great c hc).1;apply Gc.2.2;refine⟨?_,?_⟩
    ·rw[cb];exact YR (show c.2.toNat+1<=p.2.toNat+1 by lia) lowmod
    ·have:=Uu (show c.2.toNat+1<=p.2.toNat+1 by lia)
     have e2:(2:Int) ^ (p.2.toNat+1)=2 ^ p.2.toNat*2:=Int.pow_succ _ _;have:=S.in p hp;unfold eB at this;lia
theorem NR.one{rs:List Run}(nr:NR rs){a b:Int}(h:a<b)(w:∀x,a<=x->x<b->mR x rs):∃r∈rs,r.1<=a/\b<=r.2:=by
 obtain⟨r,hr,h1,h2⟩:=w a (Int.le_refl _) h;refine⟨r,hr,h1,?_⟩;rcases Int.lt_or_le r.2 b with z|z
 ·exfalso;obtain⟨s,hs,k1,k2⟩:=w r.2 (by lia) z
  obtain⟨i,hi,rfl⟩:=List.getElem_of_mem hr;obtain⟨j,hj,rfl⟩:=List.getElem_of_mem hs;have li:=nr.1 _ hr;have lj:=nr.1 _ hs;rcases Nat.lt_trichotomy i j with y|y|y
  ·have:=List.pairwise_iff_getElem.mp nr.2 i j hi hj y;lia
  ·subst y;lia
  ·have:=List.pairwise_iff_getElem.mp nr.2 j i hj hi y;lia
 ·exact z
theorem PatS.from:∀{rs:List Run}{ps:qB},PatS rs ps->∀p∈ps,∃r∈rs,∃bs,Ju r.1 r.2 bs/\p∈bs
 | [],_,h=>by cases(show _=[] from h);exact fun b hb=>nomatch hb
 | s::rs,_,h=>by
  obtain⟨a,b,rfl,h1,h2⟩:=h;intro p hp;rcases List.mem_append.mp hp with hp|hp
  ·exact⟨s,by simp,a,h1,hp⟩
  ·obtain⟨r,hr,bs,B,hb⟩:=PatS.from h2 p hp
   exact⟨r,by simp[hr],bs,B,hb⟩
theorem CanP.max{bits:Int}(b0:0<=bits){S:Int->Prop}{ps:qB}(h:CanP S ps)(w:∀x,S x->0<=x/\x<2 ^ bits.toNat){p q:Int×Int}(hp:p∈ps)(Q:IsBk bits q.1 q.2)(wq:∀x,q.1<=x->x<eB q->S x)(i:q.1<=p.1/\eB p<=eB q):q=p:=by
 obtain⟨rs,nr,me,P⟩:=h;obtain⟨r,hr,bs,B,hb⟩:=P.from p hp
 have lt:=nr.1 r hr;have w1:=w r.1 ((me _).mp ⟨r,hr,Int.le_refl _,lt⟩);have w2:=w (r.2 - 1) ((me _).mp ⟨r,hr,by lia,by lia⟩)
 have pin:=B.in p hb;have pp:=Qu p;obtain⟨s,hs,s1,s2⟩:=nr.one (a:=q.1) (b:=eB q) (Qu q) fun x h1 h2=>(me x).mpr (wq x h1 h2)
 have rs':r=s:=by
  obtain⟨i1,h1,rfl⟩:=List.getElem_of_mem hr;obtain⟨i2,h2,rfl⟩:=List.getElem_of_mem hs;rcases Nat.lt_trichotomy i1 i2 with y|y|y
  ·have:=List.pairwise_iff_getElem.mp nr.2 i1 i2 h1 h2 y;lia
  ·subst y;rfl
  ·have:=List.pairwise_iff_getElem.mp nr.2 i2 i1 h2 h1 y;lia
 subst rs';exact B.max b0 w1.1 (by lia) hb Q ⟨s1,s2⟩ i
theorem zh2:∀{ps bs:qB},(ps.Pairwise fun a b=>eB a<=b.1)->(∀p∈ps,∃b∈bs,p.1<=b.1/\b.1<eB p)->ps.length<=bs.length
 | [],_,_,_=>Nat.zero_le _
 | p::ps,bs,pw,h=>by
  obtain⟨b,hb,b1,b2⟩:=h p (by simp)
  have pw':=List.pairwise_cons.mp pw;have:=zh2 (ps:=ps) (bs:=bs.erase b) pw'.2 fun q hq=>by
   obtain⟨c,hc,c1,c2⟩:=h q (by simp[hq])
   refine⟨c,(List.mem_erase_of_ne ?_).mpr hc,c1,c2⟩;rintro rfl;have:=pw'.1 q hq;lia
  have e:=List.length_erase_of_mem hb;have:=List.length_pos_of_mem hb;rw[List.length_cons];lia
theorem CanP.le{bits:Int}(b0:0<=bits){bs ps:qB}(B:Bks bits bs)(h:CanP (fun x=>mB x bs) ps):ps.length<=bs.length:=by
 have w:∀x,mB x bs->0<=x/\x<2 ^ bits.toNat:=fun x ⟨b,hb,h1,h2⟩=>by
  have:=(B b hb).bounds b0;unfold eB at h2;lia
 have P:=h.ptc b0 w;refine zh2 P.2 fun p hp=>?_
 have pp:=Qu p;obtain⟨b,hb,h1,h2⟩:=(h.mem p.1).mp ⟨p,hp,Int.le_refl _,pp⟩;rcases zhf (P.1 p hp) (B b hb) (x:=p.1) ⟨Int.le_refl _,pp⟩ ⟨h1,h2⟩ with z|z
 ·exact⟨b,hb,z.1,by have:=Qu b;lia⟩
 ·have:=h.max b0 w hp (B b hb) (fun x y1 y2=>⟨b,hb,y1,y2⟩) ⟨z.1,z.2.1⟩
  subst this;exact⟨b,hb,Int.le_refl _,pp⟩
section
variable{Q:PyData->Prop}{s t:Str}{i j:Int}{b:Bool}{xs ys:qD}
theorem zhM:Okd .none:=zoS.okd
instance zwp:Stp (oNe (.str s) .none Q) (Okd (.str s)/\Q (.bool true)):=⟨fun h=>⟨h.1,zhM,h.2⟩⟩
instance zww:Stp (oEq (.str s) .none Q) (Okd (.str s)/\Q (.bool false)):=⟨fun h=>⟨h.1,zhM,h.2⟩⟩
end
end L2
namespace Bd
open PySem L2
def Qt(nm:PyData):Prop:=nm=.none\/∃s,nm=.str s/\IsNm s
def who(s:Str):PyData->Bool
 | .str t=>decide (s=t)
 | _=>false
def Qh(d:Deal)(nm:PyData):List (Int×Int):=(d.2.2.filter fun p=>!who p.2 nm).map (·.1)
def ofName(os:List ((Int×Int)×Str))(nm:PyData):List (Int×Int):=(os.filter fun p=>who p.2 nm).map (·.1)
end Bd
namespace L2
open PySem PySem.Spec PyProof PyProof.Rows PySem.W
section
variable{X:Cx}{e a b c:Expr}{x:Str}{pos:Pos}{d:DTE}{ds:DTA}
def VS(i:Nat)(d:DTE):DTS:=fun D ρ n=>match ρ[i]? with
 | some (some (.own ts))=>d ρ n fun t n'=>lLst t fun us=>ts.length+us.length<=16777216/\D.nx (ρ.set i (some (.own (ts++us)))) n'
 | _=>False
theorem znp(i:Nat){p1 p2 p3:Pos}(h:DE X e d)(hN:X.N[i]?=some x:=by rfl)(hv:Vis X.env.scope x:=by walk_at "V")(hd:(x == ("__debug__":Str))=false:=by decide)
  (hcd:(x == ("__classdict__":Str))=false:=by decide) (hs:swapsWith (.Call (.Attribute (.Name x p1) "extend" p2) [e] [] p3) none pos.line X.env=pure false:=by rfl)
  (hbase:attributeBase (.Name x p1) "extend" X.env (eval (.Name x p1) X.env)=eval (.Name x p1) X.env:=by rfl)
  (hfew:((backTo p3 (starEach [e] X.env)).all (fun x=>!x.1)&&(backToKw p3 (keywordEach [] X.env)).all (fun x=>x.1.isSome)
   && decide ([e].length+([]:List Keyword).length+(if ([]:List Keyword).isEmpty then 0 else 1)<30))=true:=by rfl)
  (hline:(p2.endLine == p3.line)=true:=by rfl) (hst:starEach [e] X.env=[(false,eval e X.env)]:=by rfl):DS X (.Expr (.Call (.Attribute (.Name x p1) "extend" p2) [e] [] p3) pos) (VS i d):=by
 obtain⟨ta,pa,h⟩:=h;refine⟨_,ziZ (zql PySem.F.plainAttrs_list PySem.F.slot_list_extend PySem.F.type_list_extend zmR (Q3 hN hv hd hcd) (UJ pa Yu hst) hbase hfew hline hst rfl) hs,fun C ρ σ H n D D' S hd g=>?_⟩
 unfold VS at hd;split at hd
 ·rename_i ts et;obtain⟨p,vs,h1,h2,h3,h4⟩:=S.own i ts et;refine⟨.ref p,h1,.inl ⟨rfl,_,SqL.of h2⟩,?_⟩;refine h C ρ σ H n _ _ S hd fun t n' v H' r e1 hn q=>?_
  cases t with
  | list us =>
   have S1:=S.on e1 hn;obtain⟨p',vs',h1',h2',h3',h4'⟩:=S1.own i ts et;rw[h1]at h1';cases h1';obtain⟨b,ws,rfl,hb,_,q⟩:=q.lstI;refine⟨p,b,vs',ws,rfl,rfl,h2',hb,by rw[h3'.length,q.length];exact r.1,?_⟩
   obtain⟨S2,k2⟩:=S1.chg et h1 (h3'.append q);exact g.nx _ _ _ n' r.2 S2 (e1.keep.trans k2)
  | _=>exact r.elim
 ·exact hd.elim
instance zuF {i:Nat}{ρ:En}{n:Nat}{D:DEnds}{xs:qD}[h:GetN ρ i (some (.own xs))]:Stp (VS i d D ρ n) (d ρ n fun t n'=>lLst t fun us=>xs.length+us.length<=16777216/\SetK i (some (.own (xs++us))) D.nx ρ n'):=⟨fun k=>by
 unfold VS;rw[h.e];exact k⟩
end
end L2
namespace L2
open PySem Bd
theorem zrm{bits i h:Int}(B:IsBk bits i h)(hh:h<bits):IsBk bits (i / 2 ^ (h+1).toNat*2 ^ (h+1).toNat) (h+1)/\i / 2 ^ (h+1).toNat*2 ^ (h+1).toNat<=i/\i+2 ^ h.toNat<=i / 2 ^ (h+1).toNat*2 ^ (h+1).toNat+2 ^ (h+1).toNat:=by
 have h0:=B.1;have e:(h+1).toNat=h.toNat+1:=by lia
 have e2:(2:Int) ^ (h+1).toNat=2*2 ^ h.toNat:=by rw[e,Int.pow_succ,Int.mul_comm]
 have a:=B.abt hh;have p:=Qj h.toNat;have dv:=VJ B;have e3:i / 2 ^ (h+1).toNat*2 ^ (h+1).toNat=i - i % (2*2 ^ h.toNat):=by
  rw[e2];have:=Int.mul_ediv_add_emod i (2*2 ^ h.toNat);rw[Int.mul_comm]at this;lia
 rw[e3,e2];refine⟨a,?_,?_⟩
 ·have:=Int.emod_nonneg i (show(2*2 ^ h.toNat:Int)≠0 by lia);lia
 ·generalize (2:Int) ^ h.toNat=P at *;have m:=Int.emod_lt_of_pos i (show(0:Int)<2*P by lia)
  have d1:P∣i:=Int.dvd_of_emod_eq_zero dv;have d2:P∣i % (2*P):=by
   rw[Int.emod_def];exact Int.dvd_sub d1 (Int.dvd_trans ⟨2,by lia⟩ (Int.dvd_mul_right _ _))
  obtain⟨c,hc⟩:=d2;have:c<2:=by
   by_cases z:c<2
   ·exact z
   ·have:=Int.mul_le_mul_of_nonneg_left (show(2:Int)<=c by lia) (Int.le_of_lt p);lia
  have:P*c<=P*1:=Int.mul_le_mul_of_nonneg_left (by lia) (Int.le_of_lt p)
  lia
theorem CanP.nohalf{bits:Int}(b0:0<=bits){S:Int->Prop}{ps:qB}(h:CanP S ps)(w:∀x,S x->0<=x/\x<2 ^ bits.toNat):∀q∈ps.zip ps.tail,¬(Builtin.bitXor q.1.1 (2 ^ q.1.2.toNat)=q.2.1/\q.1.2=q.2.2):=by
 rintro⟨⟨i,g⟩,⟨j,k⟩⟩ hq ⟨e1,e2⟩;dsimp only at e1 e2;subst e2;have P:=h.ptc b0 w;have ch:eB (i,g)<=j:=(VX (bits:=bits)).mpr P.2 _ hq;have ma:=(List.of_mem_zip hq).1;have mb:(j,g)∈ps:=List.mem_of_mem_tail (List.of_mem_zip hq).2;have A:IsBk bits i g:=P.1 _ ma;have B:IsBk bits j g:=P.1 _ mb;have x4:=A.x4;have p:=Qj g.toNat;unfold eB at ch;dsimp only at ch;rw[e1]at x4;have ev:i / 2 ^ g.toNat % 2=0:=by
  by_cases z:i / 2 ^ g.toNat % 2=0
  ·exact z
  ·rw[if_neg z]at x4;lia
 rw[if_pos ev]at x4;have g0:0<=g:=A.1;have bA:=A.bounds b0;have bB:=B.bounds b0;have gl:g<bits:=by
  by_cases z:g<bits
  ·exact z
  ·have:g=bits:=by have:=A.2.1;lia
   subst this;lia
 obtain⟨Q,q1,q2⟩:=zrm A gl;have e:(g+1).toNat=g.toNat+1:=by lia
 have e2:(2:Int) ^ (g+1).toNat=2*2 ^ g.toNat:=by rw[e,Int.pow_succ,Int.mul_comm]
 have dv:=VJ A;have fl:i / 2 ^ (g+1).toNat*2 ^ (g+1).toNat=i:=by
  have dm:i % (2*2 ^ g.toNat)=0:=by
   obtain⟨_,_,k,_,rfl,_⟩:=A;rw[Int.mul_ediv_cancel _ (by lia)]at ev
   rw[zkj _ p,ev,Int.zero_mul]
  rw[e2];exact Int.ediv_mul_cancel_of_emod_eq_zero dm
 rw[fl]at Q q1 q2;have mx:=h.max b0 w ma (q:=(i,g+1)) Q (fun x x1 x2=>by
  unfold eB at x2;dsimp only at x1 x2;rw[e2]at x2
  by_cases z:x<i+2 ^ g.toNat
  ·exact(h.mem x).mp ⟨_,ma,x1,z⟩
  ·exact(h.mem x).mp ⟨_,mb,by dsimp only;lia,by unfold eB;dsimp only;lia⟩) ⟨Int.le_refl _,by unfold eB;dsimp only;rw[e2];lia⟩
 have:=congrArg Prod.snd mx;dsimp only at this;lia
theorem zsI{as:List Run}{a:Nat}{p:Run}(e:as[a]?=some p)(x:Int):mR x (as.take (a+1))↔mR x (as.take a)\/(p.1<=x/\x<p.2):=by
 rw[List.take_succ,e,Uo];constructor
 ·rintro(z|⟨r,hr,h⟩)
  ·exact .inl z
  ·cases List.mem_singleton.mp hr;exact .inr h
 ·rintro(z|z)
  ·exact .inl z
  ·exact .inr ⟨p,by simp,z⟩
theorem zkl{as:List Run}{a:Nat}{p:Run}(e:as[a]?=some p){x:Int}(h:mR x as):mR x (as.take a)\/(p.1<=x/\x<p.2)\/∃r∈as.drop (a+1),r.1<=x:=by
 obtain⟨r,hr,h1,h2⟩:=h;obtain⟨i,hi,rfl⟩:=List.getElem_of_mem hr;have ha:=(List.getElem?_eq_some_iff.mp e).1;rcases Nat.lt_trichotomy i a with z|z|z
 ·exact .inl ⟨as[i],List.mem_take_iff_getElem.mpr ⟨i,by omega,rfl⟩,h1,h2⟩
 ·subst z;rw[List.getElem?_eq_getElem hi]at e;cases e;exact .inr (.inl ⟨h1,h2⟩)
 ·refine .inr (.inr ⟨as[i],?_,h1⟩);rw[List.mem_drop_iff_getElem];exact⟨i - (a+1),by omega,by congr 1;omega⟩
theorem NR.beyond{as:List Run}(n:NR as){a:Nat}{p:Run}(e:as[a]?=some p):∀r∈as.drop (a+1),p.2<r.1:=fun r hr=>by
 obtain⟨i,hi,rfl⟩:=List.mem_drop_iff_getElem.mp hr;have ha:=(List.getElem?_eq_some_iff.mp e).1;have:=List.pairwise_iff_getElem.mp n.2 a (a+1+i) ha (by omega) (by omega)
 rw[List.getElem?_eq_getElem ha]at e;cases e;exact this
structure ShI(as bs cs:List Run)(a b:Nat):Prop where
 nr:NR cs
 me:∀x,mR x cs↔mR x as/\mR x bs/\(mR x (as.take a)\/mR x (bs.take b))
 gp:∀c∈cs,∀r∈as.drop a,∀s∈bs.drop b,c.2<max r.1 s.1
 ln:cs.length<=a+b
def shr2(p q:Run):List Run:=if max p.1 q.1<min p.2 q.2 then[(max p.1 q.1,min p.2 q.2)] else[]
theorem zkk{p q:Run}{x:Int}:mR x (shr2 p q)↔(p.1<=x/\x<p.2)/\(q.1<=x/\x<q.2):=by
 unfold shr2;split
 ·constructor
  ·rintro⟨r,hr,h⟩;cases List.mem_singleton.mp hr;dsimp only at h;omega
  ·intro h;exact⟨_,List.mem_singleton.mpr rfl,by dsimp only;omega,by dsimp only;omega⟩
 ·exact⟨fun z=>absurd z Qp,fun z=>by omega⟩
theorem VM{p q:Run}:∀c∈shr2 p q,c.1=max p.1 q.1/\c.2=min p.2 q.2/\c.1<c.2:=by
 unfold shr2;split
 ·intro c hc;cases List.mem_singleton.mp hc;exact⟨rfl,rfl,by assumption⟩
 ·intro c hc;cases hc
theorem zj6{p q:Run}:(shr2 p q).length<=1:=by unfold shr2;split <;> simp
variable{as bs cs:List Run}{a b:Nat}
theorem ShI.zero:ShI as bs [] 0 0:=⟨⟨fun r hr=>(nomatch hr),List.Pairwise.nil⟩,fun x=>⟨fun z=>absurd z Qp,fun z=>by
 rcases z.2.2 with y|y
 ·exact absurd y Qp
 ·exact absurd y Qp⟩,fun c hc=>(nomatch hc),Nat.le_refl _⟩
theorem Wa{as:List Run}{a:Nat}{p:Run}(e:as[a]?=some p):p∈as.drop a/\∀r∈as.drop (a+1),r∈as.drop a:=by
 obtain⟨h,rfl⟩:=List.getElem?_eq_some_iff.mp e;have e:=List.drop_eq_getElem_cons h;exact⟨by rw[e];exact List.mem_cons_self,fun r hr=>by rw[e];exact List.mem_cons_of_mem _ hr⟩
theorem ShI.nrx(h:ShI as bs cs a b){p q:Run}(ep:as[a]?=some p)(eq:bs[b]?=some q):NR (cs++shr2 p q):=by
 refine⟨fun r hr=>?_,?_⟩
 ·rcases List.mem_append.mp hr with z|z
  ·exact h.nr.1 r z
  ·exact(VM r z).2.2
 ·rw[List.pairwise_append];refine⟨h.nr.2,?_,fun c hc d hd=>?_⟩
  ·unfold shr2;split
   ·exact List.pairwise_singleton _ _
   ·exact .nil
  ·rw[(VM d hd).1];exact h.gp c hc p (Wa ep).1 q (Wa eq).1
theorem ShI.stepA(h:ShI as bs cs a b)(nb:NR bs)(na:NR as){p q:Run}(ep:as[a]?=some p)(eq:bs[b]?=some q)(lt:p.2<q.2):ShI as bs (cs++shr2 p q) (a+1) b:=by
 have pa:p∈as:=List.mem_of_getElem? ep;have qb:q∈bs:=List.mem_of_getElem? eq;refine⟨h.nrx ep eq,fun x=>?_,fun c hc r hr s hs=>?_,by have:=h.ln;have:=zj6 (p:=p) (q:=q);rw[List.length_append];omega⟩
 ·rw[Uo,h.me,zkk,zsI ep];constructor
  ·rintro(⟨z1,z2,z3⟩|⟨z1,z2⟩)
   ·exact⟨z1,z2,z3.elim (fun y=>.inl (.inl y)) .inr⟩
   ·exact⟨⟨p,pa,z1⟩,⟨q,qb,z2⟩,.inl (.inr z1)⟩
  ·rintro⟨z1,z2,(z|z)|z⟩
   ·exact .inl ⟨z1,z2,.inl z⟩
   ·rcases zkl eq z2 with y|y|⟨s,hs,y⟩
    ·exact .inl ⟨z1,z2,.inr y⟩
    ·exact .inr ⟨z,y⟩
    ·have:=nb.beyond eq s hs;omega
   ·exact .inl ⟨z1,z2,.inr z⟩
 ·rcases List.mem_append.mp hc with z|z
  ·exact h.gp c z r ((Wa ep).2 r hr) s hs
  ·have:=na.beyond ep r hr;have:=VM c z;omega
theorem ShI.stepB(h:ShI as bs cs a b)(nb:NR bs)(na:NR as){p q:Run}(ep:as[a]?=some p)(eq:bs[b]?=some q)(lt:¬p.2<q.2):ShI as bs (cs++shr2 p q) a (b+1):=by
 have pa:p∈as:=List.mem_of_getElem? ep;have qb:q∈bs:=List.mem_of_getElem? eq;refine⟨h.nrx ep eq,fun x=>?_,fun c hc r hr s hs=>?_,by have:=h.ln;have:=zj6 (p:=p) (q:=q);rw[List.length_append];omega⟩
 ·rw[Uo,h.me,zkk,zsI eq];constructor
  ·rintro(⟨z1,z2,z3⟩|⟨z1,z2⟩)
   ·exact⟨z1,z2,z3.elim .inl (fun y=>.inr (.inl y))⟩
   ·exact⟨⟨p,pa,z1⟩,⟨q,qb,z2⟩,.inr (.inr z2)⟩
  ·rintro⟨z1,z2,z|(z|z)⟩
   ·exact .inl ⟨z1,z2,.inl z⟩
   ·exact .inl ⟨z1,z2,.inr z⟩
   ·rcases zkl ep z1 with y|y|⟨s,hs,y⟩
    ·exact .inl ⟨z1,z2,.inl y⟩
    ·exact .inr ⟨y,z⟩
    ·have:=na.beyond ep s hs;omega
 ·rcases List.mem_append.mp hc with z|z
  ·exact h.gp c z r hr s ((Wa eq).2 s hs)
  ·have:=nb.beyond eq s hs;have:=VM c z;omega
theorem ShI.fin(h:ShI as bs cs a b)(e:as.length<=a\/bs.length<=b)(x:Int):mR x cs↔mR x as/\mR x bs:=by
 rw[h.me];refine⟨fun z=>⟨z.1,z.2.1⟩,fun z=>⟨z.1,z.2,?_⟩⟩
 rcases e with e|e
 ·exact .inl (by rw[List.take_of_length_le e];exact z.1)
 ·exact .inr (by rw[List.take_of_length_le e];exact z.2)
end L2
namespace L2
open PySem PySem.Spec PyProof.Rows
theorem zvz{P:Program}{w:World}{k:Key}{u:Value}(r:RelV (kV k) u):(JU P w).is k u=true:=by
 cases k with
 | inl i=>obtain⟨t,e⟩:=(show ∃t,u=Value.int i t from r);subst e;exact zjc P w i t
 | inr x=>obtain⟨t,e⟩:=(show ∃t,u=Value.str x t from r);subst e;exact zjb P w x t
theorem zih{P:Program}{w:World}:∀{ks:List Key}{us:List Value},Vals (ks.map kV) us->ItemsAre (JU P w) ks us
 | [],_,r=>by rw[List.map_nil]at r;cases r;exact .nil
 | k::ks,_,r=>by
  rw[List.map_cons]at r;cases r with
  | cons h t=>exact .cons (zvz h) (zih t)
abbrev KT(H:Hp):List (List Key×V)->List (List Key×Addr×Value)->Prop:=Paired fun p q=>p.1=q.1/\H q.2.1=some (.tup (p.1.map kV))/\RelV p.2 q.2.2
end L2
namespace L2
open PySem PySem.Spec PyProof PyProof.Rows
def keyD:PyData->Option Key
 | .int i=>some (.inl i)
 | .str x=>some (.inr x)
 | _=>none
abbrev KD:=List (Key×PyData)
section
variable{K:qF}{hd:Option Addr}{O:Addr->Prop}{H:Hp}{kvs:List (Key×V)}{ks:KD}
theorem Rep.keyV{v:V}{t:PyData}{k:Key}(r:Rep K hd O H v t)(h:keyD t=some k):v=kV k:=by
 cases t with
 | int i=>cases h;exact r.intI
 | str x=>cases h;exact r.strI
 | _=>cases h
end
section
variable{D:DEnds}{ρ ρ':En}{n i j:Nat}{d dk dv:DTE}{R:qN}{ks:KD}
instance{ks:KD}:CapC (some (.dct ks)) (some (.rdo ks)):=⟨rfl⟩
instance{ks:KD}:CapC (some (.rdo ks)) (some (.rdo ks)):=⟨rfl⟩
end
theorem zdk:entryFor table "dict.update.loop" = some Builtin.«dict.update.loop»:=by kernel_rfl
theorem zlz:typeLookup (.type "tuple") "keys" = pure none:=by rw[typeLookup_type,builtinLookup_eq_fast];kernel_rfl
theorem zpc:typeLookup (.type "tuple") "__getattr__" = pure none:=by rw[typeLookup_type,builtinLookup_eq_fast];kernel_rfl
section
variable{prog:Program}{w:World}{A:Around}{E:qV}{Ky:Type}[DecidableEq Ky]{knd:PySem.KeyKind prog w Ky}
def KpH(d it:Addr)(h h':Heap):Prop:=∀b o,b≠d->b≠it->h.get? b=some o->h'.get? b=some o
end
theorem Qf{bits:Int}(b0:0<=bits){bs:qB}(B:Bks bits bs){x:Int}(h:mB x bs):0<=x/\x<2 ^ bits.toNat:=by
 obtain⟨b,hb,h1,h2⟩:=h;have:=(B b hb).bounds b0;unfold eB at h2;lia
theorem Ux{bits:Int}(b0:0<=bits)(b1:bits<=64){S:Int->Prop}{rs:qB}(nr:NR rs)(e:∀x,mR x rs↔S x)(w:∀x,S x->0<=x/\x<2 ^ bits.toNat):∀r∈rs,0<=r.1/\r.1<=r.2/\r.2<=2 ^ 64:=fun r hr=>by
 have lt:=nr.1 r hr;have a:=w r.1 ((e _).mp ⟨r,hr,Int.le_refl _,lt⟩);have b:=w (r.2 - 1) ((e _).mp ⟨r,hr,by lia,by lia⟩)
 have:=Bd.zeG (k:=bits.toNat) (by lia)
 lia
section
variable{prog:Program}{w:World}{A:Around}{E:qV}{s:Shared}
theorem zfT{a:Addr}{o:Obj}{u:Tok}{P:Fin->Shared->Prop}(ho:s.heap.get? a=some o)(hc:o.cls=.type "tuple") (hq:∃its n,o.data=.seq its n) (hd:o.dict=none) (hA:A.handled=none)
  (h:∀h' tk e,Heap.NewAttrErr s.heap h' e (.ref a) "keys" -> E (.ref e) { s with heap:=h',toks:=tk }):wpAny (model prog w) A (Builtin.«object.__getattribute__» ⟨[.ref a,.str "keys" u],[]⟩) P E s:=by
 obtain⟨hp,g,d,tk,os⟩:=s;have hT:∀(t:Nat),Shared.TypeIs ⟨hp,g,d,t,os⟩ (.ref a) "tuple":=fun _=>⟨o,ho,hc⟩
 have hm:=zlz;unfold Builtin.«object.__getattribute__»
 repeat (any_goals (first|assumption|wp_step))
 rw[hc,hm]
 repeat (any_goals (first|assumption|wp_step))
 obtain⟨its,n,hq⟩:=hq;rw[hq];dsimp only;unfold instanceDict
 repeat (any_goals (first|assumption|wp_step))
 rw[hd]
 repeat (any_goals (first|assumption|wp_step))
 simp only[hc,Bool.not_false,Bool.true_or,if_true]
 repeat (any_goals (first|assumption|wp_step))
 rw[hc];dsimp only
 repeat (any_goals (first|assumption|wp_step))
 exact wpAny_raiseAttrError hA h (attrMsg_fits (by decide +kernel) (by size_fits))
theorem zft{a:Addr}{o:Obj}{u:Tok}{R:Result->Shared->Prop}(ho:s.heap.get? a=some o)(hc:o.cls=.type "tuple") (hq:∃its n,o.data=.seq its n) (hd:o.dict=none) (hA:A.handled=none)
  (h:∀h' tk e,Heap.NewAttrErr s.heap h' e (.ref a) "keys" -> R (.error (.ref e)) { s with heap:=h',toks:=tk }):codeAny (model prog w) A (.call (.builtin "tuple.__getattribute__") ⟨[.ref a,.str "keys" u],[]⟩) R s :=
 codeAny_call_builtin F.slot_tuple_getattribute.plain F.entry_tuple_ga (F.slot_tuple_getattribute.check _ _ _ _ _ _ _ _ (show s.TypeIs (.ref a) "tuple" from⟨_,ho,hc⟩) (F.args_tuple_getattribute_2 _ _) (zfT ho hc hq hd hA h))
theorem zgV{a:Addr}{o:Obj}{u:Tok}{Q:qV}(ho:s.heap.get? a=some o)(hc:o.cls=.type "tuple") (hq:∃its n,o.data=.seq its n) (hd:o.dict=none) (hA:A.handled=none)
  (h:∀h' tk e,Heap.NewAttrErr s.heap h' e (.ref a) "keys" -> E (.ref e) { s with heap:=h',toks:=tk }):wpAny (model prog w) A (getAttrBy (.ref a) (.str "keys" u) false) Q E s:=by
 obtain⟨hp,g,d,tk,os⟩:=s;have hT:(⟨hp,g,d,tk,os⟩:Shared).TypeIs (.ref a) "tuple":=⟨o,ho,hc⟩;have f2:=F.slot_tuple_getattribute.lookup;have f3:=F.slot_tuple_getattribute.bind (.ref a);have f1:=sub_AttributeError;have f5:=zpc
 repeat (any_goals (first|assumption|wp_step))
 refine zft ho hc hq hd hA fun h' tk' e hx=>?_
 obtain⟨t',u',he⟩:=hx.there
 repeat (any_goals (first|assumption|wp_step))
 exact h _ _ _ hx
theorem zfu{a:Addr}{o:Obj}{Q:Option Value->Shared->Prop}(ho:s.heap.get? a=some o)(hc:o.cls=.type "tuple") (hq:∃its n,o.data=.seq its n) (hd:o.dict=none) (hA:A.handled=none)
  (h:∀h' tk,(∀b ob,s.heap.get? b=some ob->h'.get? b=some ob)->Q none { s with heap:=h',toks:=tk }):wpAny (model prog w) A (getAttr? (.ref a) "keys") Q E s:=by
 unfold getAttr? getAttrBy?
 obtain⟨hp,g,d,tk,os⟩:=s;have f1:=sub_AttributeError
 repeat (any_goals (first|assumption|(with_reducible refine zgV ho hc hq hd hA fun h' tk' e hx=>?_)|wp_step))
 obtain⟨t',u',he⟩:=hx.there
 repeat (any_goals (first|assumption|wp_step))
 exact h _ _ hx.keeps
end
section
variable{prog:Program}{w:World}{A:Around}{E:qV}
def PrT(prog:Program)(w:World)(h:Heap)(x:Value)(z:List Key×Addr×Value):Prop:=∃p:Addr,x=.ref p/\IsTup h p #[.ref z.2.1,z.2.2]/\IsTupleKey (JU prog w) h z.1 z.2.1
theorem Vg{h:Heap}{k:List Key}{a b:Addr}{T:String}(r:IsTupleKey (JU prog w) h k a)(hb:∃o,h.get? b=some o/\o.cls=.type T)(ht:T ≠ "tuple"):a≠b:=by
 rintro rfl;obtain⟨o,_,_,e,c,_⟩:=r;obtain⟨o',e',c'⟩:=hb;rw[e]at e';cases e';rw[c]at c'
 injection c' with c'
 exact ht c'.symm
theorem VO{h h':Heap}{k:List Key}{a:Addr}(r:IsTupleKey (JU prog w) h k a)(kp:∀o,h.get? a=some o->h'.get? a=some o):IsTupleKey (JU prog w) h' k a:=by
 obtain⟨o,its,n,e,c⟩:=r;exact⟨o,its,n,kp o e,c⟩
theorem tup_ne{h:Heap}{a b:Addr}{xs:Array Value}{T:String}(r:IsTup h a xs)(hb:∃o,h.get? b=some o/\o.cls=.type T)(ht:T ≠ "tuple"):a≠b:=by
 rintro rfl;obtain⟨o,e,c,_⟩:=r;obtain⟨o',e',c'⟩:=hb;rw[e]at e';cases e';rw[c]at c'
 injection c' with c'
 exact ht c'.symm
theorem PrT.keep{h h':Heap}{x:Value}{z:List Key×Addr×Value}(d it:Addr)(hd:∃o,h.get? d=some o/\o.cls=.type "dict") (hi:∃o,h.get? it=some o/\o.cls=.type "tuple_iterator") (r:PrT prog w h x z) (kp:KpH d it h h'):PrT prog w h' x z:=by
 obtain⟨p,e,tp,tk⟩:=r;refine⟨p,e,?_,VO tk fun o=>kp _ o (Vg tk hd (by decide)) (Vg tk hi (by decide))⟩
 have n1:=tup_ne tp hd (by decide)
 have n2:=tup_ne tp hi (by decide)
 obtain⟨o,g,c⟩:=tp;exact⟨o,kp p o n1 n2 g,c⟩
theorem znt{h h':Heap}{d it:Addr}{xs:List (List Key×Addr×Value)}(hd:h.DictOfH (tupleKind (JU prog w)) d xs)(hi:∃o,h.get? it=some o/\o.cls=.type "tuple_iterator") (kp:∀b o,b≠it->h.get? b=some o->h'.get? b=some o) (ndi:d≠it):h'.DictOfH (tupleKind (JU prog w)) d xs:=by
 obtain⟨o,es,ep,ho,hc,hd,he,his,hn⟩:=hd;exact⟨o,es,ep,kp d o ndi ho,hc,hd,he,fun x hx=>VO (his x hx) fun o e=>kp _ o (Vg (his x hx) hi (by decide)) e,hn⟩
theorem zpP{h:Heap}{d:Addr}{xs:List (List Key×Addr×Value)}(hd:h.DictOfH (tupleKind (JU prog w)) d xs):∃o,h.get? d=some o/\o.cls=.type "dict":=by
 obtain⟨o,es,ep,ho,hc,_⟩:=hd;exact⟨o,ho,hc.1⟩
theorem zlV{A:Around}{xs:List Value}{kw:List (Str×Value)}:(A.under (.builtin "dict.update.loop" ⟨xs,kw⟩)).units=A.units+1:=by
 first|rfl|simp[Around.under,Code.cUnits,Code.frames,Code.isFrame]
theorem zhk{d it l:Addr}{items:Array Value}{res:Value}(hA:A.handled=none)(hu:A.units+1<cLine)(ndi:d≠it)(nl:l≠d)(nli:l≠it):∀(ps:List (List Key×Addr×Value)) (i:Nat) (xs:List (List Key×Addr×Value)) (s:Shared) (t:Tok) {R:Result->Shared->Prop},
  s.heap.IsTuple l items->s.heap.IsTupleIter it l i->s.heap.DictOfH (tupleKind (JU prog w)) d xs->xs.length+ps.length<=sizeLine->((xs++ps).map (·.1)).Nodup->Paired (PrT prog w s.heap) (items.toList.drop i) ps ->
  (∀h' tk,KpH d it s.heap h'->h'.DictOfH (tupleKind (JU prog w)) d (xs++ps)->R (.ok (.ret res)) { s with heap:=h',toks:=tk }) ->
  codeAny (model prog w) A (.builtin "dict.update.loop" ⟨[.ref d,.ref it,.int i t,res],[]⟩) R s
 | [],i,xs,s,t,R,hl,hi,hd,hz,hn,hp,h=>by
  have e:items[i]?=none:=by
   generalize hq:items.toList.drop i=q at hp;cases hp;have:=List.drop_eq_nil_iff.mp hq;exact Array.getElem?_eq_none (by simpa using this)
  refine codeAny_builtin zdk ?_;show wpAny _ _ (pyNext (.ref it) >>= _) _ _ s
  refine wpAny_bind (wpAny_pyNext_tuple_end hA hi hl e fun h' hx=>?_)
  show wpAny _ _ (Builtin.Dict.addKeywords d [] >>= fun _=>ret res) _ _ _
  unfold Builtin.Dict.addKeywords;rw[List.forIn_nil];rw[List.append_nil]at h;obtain⟨oi,gi,ci,_⟩:=id hi;exact wpAny_bind (wpAny_pure (wpAny_pure (h h' s.toks (fun b o _ n ho=>hx b o n ho) (znt hd ⟨oi,gi,ci⟩ (fun b o n e=>hx b o n e) ndi))))
 | (k,a,v)::ps,i,xs,s,t,R,hl,hi,hd,hz,hn,hp,h=>by
  generalize hq:items.toList.drop i=q at hp;cases hp with
  | cons r rs =>
   rename_i x xs';have hi':∃o,s.heap.get? it=some o/\o.cls=.type "tuple_iterator":=by obtain⟨oi,gi,ci,_⟩:=id hi;exact⟨oi,gi,ci⟩
   obtain⟨p,rfl,tp,ki⟩:=r;have np:=tup_ne tp (zpP hd) (by decide)
   have npi:=tup_ne tp hi' (by decide)
   obtain⟨o,ho,oc,n,od⟩:=id tp;have hlt:i<items.toList.length:=by
    by_cases z:i<items.toList.length
    ·exact z
    ·rw[List.drop_of_length_le (by lia)]at hq;cases hq
   rw[List.drop_eq_getElem_cons hlt]at hq;obtain⟨e1,e2⟩:=List.cons.inj hq;have e:items[i]?=some (.ref p):=by rw[<- e1,<- Array.getElem?_toList];exact List.getElem?_eq_getElem hlt
   refine codeAny_builtin zdk ?_;show wpAny _ _ (pyNext (.ref it) >>= _) _ _ s
   refine wpAny_bind (wpAny_pyNext_tuple_item hi hl e fun h1 hi1 hs1=>?_)
   refine wpAny_bind (wpAny_holding ?_);have ho1:h1.get? p=some o:=(hs1.2 p npi).trans ho;have hT:(⟨h1,s.gens,s.drawn,s.toks,s.os⟩:Shared).TypeIs (.ref p) "tuple":=⟨o,ho1,oc⟩;refine wpAny_bind (wpAny_tryCatch ?_);unfold Builtin.Dict.pairItems;refine wpAny_bind (wpAny_typeOf hT ?_);rw[if_pos (by rfl)]
   refine wpAny_bind (wpAny_seqItems ho1 od (wpAny_pure ?_));show wpAny _ _ (holding [.ref a,v] (dictSet d (.ref a) v)) _ _ _
   have kp1:KpH d it s.heap h1:=fun b ob _ n hb=>(hs1.2 b n).trans hb
   have hd1:=znt hd hi' (fun b ob n hb=>(hs1.2 b n).trans hb) ndi
   have ki1:IsTupleKey (JU prog w) h1 k a:=VO ki fun ob hb=>(hs1.2 a (Vg ki hi' (by decide))).trans hb
   rw[List.length_cons]at hz;have kn:k∉xs.map (·.1):=by
    rw[List.map_append,List.nodup_append]at hn;exact fun z=>hn.2.2 k z k (by simp) rfl
   have ak:atKey xs k=none:=by
    unfold atKey;rw[Option.map_eq_none_iff,List.find?_eq_none];intro x hx z;exact kn (List.mem_map.mpr ⟨x,hx,by simpa using z⟩)
   refine wpAny_holding (wpAny_dictSet_heap (s:=⟨h1,s.gens,s.drawn,s.toks,s.os⟩) (knd:=tupleKind (JU prog w)) (by show Around.units _<cLine;rw[zlV];exact hu) ki1 hd1 (fun h2 hd2 hs2=>?_) (by lia))
   have kp2:KpH d it h1 h2:=fun b ob n _ hb=>(hs2.2 b n).trans hb
   refine wpAny_pure ⟨Code.quiet_builtin _ (by decide +kernel),?_⟩
   have kp:KpH d it s.heap h2:=fun b ob n1 n2 hb=>kp2 b ob n1 n2 (kp1 b ob n1 n2 hb)
   rw[storedH_new ak]at hd2;refine zhk (items:=items) hA hu ndi nl nli ps (i+1) (xs++[(k,a,v)]) _ 0 ?_ ?_ hd2 ?_ ?_ ?_ fun h' tk kp' hd'=>?_
   ·obtain⟨ol,hol,r⟩:=hl;exact⟨ol,kp l ol nl nli hol,r⟩
   ·obtain⟨oi,hoi,r⟩:=hi1;exact⟨oi,(hs2.2 it (Ne.symm ndi)).trans hoi,r⟩
   ·rw[List.length_append,List.length_singleton];lia
   ·rw[List.append_assoc];exact hn
   ·rw[e2];exact Paired.mapP rs fun _ _ r=>r.keep d it (zpP hd) hi' kp
   ·rw[List.append_assoc]at hd';exact h h' tk (fun b ob n1 n2 hb=>kp' b ob n1 n2 (kp b ob n1 n2 hb)) hd'
theorem zhc{s:Shared}{l:Addr}{o:Obj}{its:Array Value}{n:Nat}{ps:List (List Key×Addr×Value)}{Q:qV}(ho:s.heap.get? l=some o)(hc:o.cls=.type "tuple") (hq:o.data=.seq its n) (hd:o.dict=none) (hA:A.handled=none) (hu:A.units+64<cLine)
  (hp:Paired (PrT prog w s.heap) its.toList ps) (hz:ps.length<=sizeLine) (hn:(ps.map (·.1)).Nodup)
  (h:∀h' tk,(∀b ob,s.heap.get? b=some ob->h'.get? b=some ob)->h'.DictOfH (tupleKind (JU prog w)) s.heap.objs.size ps->Q (.ref s.heap.objs.size) { s with heap:=h',toks:=tk }) :
  wpAny (model prog w) A (call (.type "dict") [.ref l]) Q E s:=by
 refine callType_codes (Q₁:=fun obj s₁=>obj=.ref s.heap.objs.size/\s₁={ s with heap:=s.heap.push { cls:=.type "dict",data:=.dict #[] } }) F.kt_called_dict (F.kt_typeCall_dict_1 _) F.entry_dict_init (kt_code_dict_new _ ⟨rfl,rfl⟩) ?_
 rintro obj s₁ ⟨rfl,rfl⟩;have hnew:(s.heap.push { cls:=.type "dict",data:=.dict #[] }).DictOfH (tupleKind (JU prog w)) s.heap.objs.size []:=Heap.DictOfH.new s.heap;have ho':(s.heap.push { cls:=.type "dict",data:=.dict #[] }).get? l=some o:=Heap.get?_push_of_some _ ho;have hnt:=hnew.typeIs (s:={ s with heap:=s.heap.push { cls:=.type "dict",data:=.dict #[] } })
 refine⟨hnt,F.args_dict_init_2 _ _,?_⟩;unfold Builtin.«dict.__init__»;refine wpAny_bind ?_;unfold Builtin.Dict.selfAndRest;refine wpAny_bind (wpAny_notOrdered_dict hnt ?_);show wpAny _ _ (pure (s.heap.objs.size,[Value.ref l])) _ _ _
 refine wpAny_pure ?_;show wpAny _ _ (Builtin.Dict.updateFrom "dict.__init__" s.heap.objs.size (.ref l) [] .none) _ _ _
 unfold Builtin.Dict.updateFrom;refine wpAny_bind (wpAny_typeOf (T:="tuple") ⟨o,ho',hc⟩ ?_);rw[if_pos (by rfl)]
 refine wpAny_bind (zfu ho' hc ⟨its,n,hq⟩ hd hA fun h1 tk1 k1=>?_)
 rw[if_pos (show(none:Option Value).isNone=true from rfl)]
 refine wpAny_bind (wpAny_rule ?_);have ho1:=k1 l o ho';have hl1:h1.IsTuple l its:=⟨o,ho1,hc,n,hq⟩;refine wpAny_bind (wpAny_pyIter_tuple hl1 ?_);refine wpAny_pure ⟨Code.quiet_builtin _ (by decide +kernel),?_⟩
 obtain⟨od,es,ep,hod,rd⟩:=hnew;have hod1:=k1 _ od hod;have l1:=Heap.lt_size hod1;have l2:=Heap.lt_size ho;have l3:=Heap.lt_size ho1;have kk:∀b ob,s.heap.get? b=some ob->(h1.push { cls:=.type "tuple_iterator",data:=.fields #[.ref l,.int 0 0] }).get? b=some ob:=fun b ob hb=>Heap.get?_push_of_some _ (k1 b ob (Heap.get?_push_of_some _ hb))
 refine zhk (A:=A.in1) (items:=its) (xs:=[]) (i:=0) (ps:=ps) (show A.in1.handled=none from hA) (show A.units+1+1<cLine by lia) (Nat.ne_of_lt l1) (Nat.ne_of_lt l2) (Nat.ne_of_lt l3) _ 0 ?_ ?_ ?_ (by simpa using hz) (by simpa using hn) ?_ fun h' tk kp hd'=>?_
 ·exact⟨o,Heap.get?_push_of_some _ ho1,hc,n,hq⟩
 ·exact⟨_,Heap.get?_push_size _ rfl,rfl,rfl⟩
 ·exact⟨od,es,ep,Heap.get?_push_of_some _ hod1,rd.1,rd.2.1,rd.2.2.1,by simp,by simp⟩
 ·rw[List.drop_zero];refine Paired.mapP hp fun x z ⟨p,e,tp,tk⟩=>⟨p,e,?_,VO tk fun ob=>kk _ ob⟩
  obtain⟨ob,hob,r⟩:=tp;exact⟨ob,kk p ob hob,r⟩
 ·exact⟨rfl,h h' tk (fun b ob hb=>kp b ob (Nat.ne_of_lt (Heap.lt_size hb)) (Nat.ne_of_lt (Nat.lt_trans (Heap.lt_size hb) l1)) (kk b ob hb)) hd'⟩
end
section
variable{X:Cx}
def TDk(K:qF)(H:Hp)(a:Addr)(xs:List V):Prop:=H a=some (.tup xs)\/StT K a xs
theorem Inv.tupleD{pins:qO}{σ:St}{H:Hp}{s:Shared}{a:Addr}{xs:List V}(I:Inv X pins σ H s)(h:TDk X.K H a xs):∃(o:Obj) (its:List Value) (n:Nat),Vals xs its/\s.heap.get? a=some o/\o.cls=.type "tuple" /\ o.data=.seq its.toArray n/\o.dict=none/\xs.length<=sizeLine:=by
 rcases h with h|⟨o,its,n,hk,hc,hs,hz,r,hd⟩
 ·obtain⟨z,its,r,o,e,c,⟨n,d⟩,dn⟩:=I.hok a _ h;exact⟨o,its,n,r,e,c,d,dn,z⟩
 ·refine⟨o,its.toList,n,r,I.kIn a o hk,hc,by simpa using hs,hd,?_⟩
  have e:=r.length;simp only[Array.length_toList]at e;lia
theorem zpH{pins:qO}{σ:St}{H:Hp}{s:Shared}{b:Addr}{k:List Key}(I:Inv X pins σ H s)(h:SqT X.K H b (k.map kV)):IsTupleKey (JU X.prog X.w) s.heap k b:=by
 obtain⟨its,r,⟨o,e,c,n,d⟩,_⟩:=I.tuple h;exact⟨o,its.toArray,n,e,c,d,by simpa using zih r⟩
def KTp(K:qF)(H:Hp)(x:V)(z:List Key×V):Prop:=∃a b,x=.ref a/\SqT K H a [.ref b,z.2]/\SqT K H b (z.1.map kV)
theorem zmy{pins:qO}{σ:St}{H:Hp}{s:Shared}(I:Inv X pins σ H s):∀{vs:List V}{its:List Value}{zs:List (List Key×V)},Vals vs its->Paired (KTp X.K H) vs zs ->
  ∃ps:List (List Key×Addr×Value),Paired (fun(z:List Key×V) (q:List Key×Addr×Value)=>z.1=q.1/\RelV z.2 q.2.2) zs ps/\Paired (PrT X.prog X.w s.heap) its ps
 | [],_,_,r,h=>by cases r;cases h;exact⟨[],.nil,.nil⟩
 | v::vs,_,_,r,h=>by
  cases r with
  | cons r1 r2 =>
   cases h with
   | @cons _ z _ zs h1 h2 =>
    obtain⟨a,b,rfl,sq,sk⟩:=h1;obtain⟨ps,k1,k2⟩:=zmy I r2 h2;obtain⟨its2,rv,it,_⟩:=I.tuple sq;cases rv with
    | cons q1 q2 =>
     cases q2 with
     | cons q3 q4 =>
      cases q4;rename_i u w;cases(show _=Value.ref a from r1)
      cases(show _=Value.ref b from q1)
      exact⟨(z.1,b,w)::ps,.cons ⟨rfl,q3⟩ k1,.cons ⟨a,rfl,it,zpH I sk⟩ k2⟩
theorem zi2{zs:List (List Key×V)}{ps:List (List Key×Addr×Value)}(r:Paired (fun(z:List Key×V) (q:List Key×Addr×Value)=>z.1=q.1/\RelV z.2 q.2.2) zs ps):zs.map (·.1)=ps.map (·.1):=by
 induction r with
 | nil=>rfl
 | cons h t ih=>rw[List.map_cons,List.map_cons,ih,h.1]
theorem zla{α β:Type}{F:α->β->Prop}{l₁:List α}{l₂:List β}(r:Paired F l₁ l₂){a:α}(h:a∈l₁):∃b∈l₂,F a b:=by
 induction r with
 | nil=>cases h
 | cons f t ih =>
  rcases List.mem_cons.mp h with rfl|h
  ·exact⟨_,List.mem_cons_self,f⟩
  ·obtain⟨b,hb,g⟩:=ih h;exact⟨b,List.mem_cons_of_mem _ hb,g⟩
theorem zi1{α β:Type}{F:α->β->Prop}{l₁:List α}{l₂:List β}(r:Paired F l₁ l₂){b:β}(h:b∈l₂):∃a∈l₁,F a b:=by
 induction r with
 | nil=>cases h
 | cons f t ih =>
  rcases List.mem_cons.mp h with rfl|h
  ·exact⟨_,List.mem_cons_self,f⟩
  ·obtain⟨b,hb,g⟩:=ih h;exact⟨b,List.mem_cons_of_mem _ hb,g⟩
def zpW(K:qF)(i:Nat)(ta:TA):TE:=fun σ H Q=>ta σ H fun vs H1=>∃(c:Addr) (xs:List V) (zs:List (List Key×V)) (b:Addr) (k:List Key) (v:V),vs=[.ref c]/\TDk K H1 c xs/\Paired (KTp K H1) xs zs/\(zs.map (·.1)).Nodup/\σ[i]?=some (some (.ref b))/\SqT K H1 b (k.map kV)/\(k,v)∈zs/\Q v H1
theorem zmt{i:Nat}{x:Str}{e:Expr}{ta:TA}{p p2 cp pos:Pos}(hc:X.calm=true)(hu:X.A.units+64<cLine)(hN:X.N[i]?=some x)(hv:Vis X.env.scope x)(hg:Gl X "dict") (hm:X.mg "dict" = none) (ha:PA X [e] ta) (hst:starEach [e] X.env=[(false,eval e X.env)]) (hs:VI (.Name x p2))
  (hd:(x == ("__debug__":Str))=false:=by decide) (hcd:(x == ("__classdict__":Str))=false:=by decide) :
  PE X (.Subscript (.Call (.Name "dict" p) [e] [] cp) (.Name x p2) pos) (zpW X.K i ta):=by
 intro pins s σ H Q I h;refine Subscript_ (wpAny_Call_Name_kw (Y5 I hg hm rfl ?_));refine PyProof.Rows.callWith_type1 (thn (ha cp pins s σ H _ I h) fun us s1 ⟨vs,H1,I1,r1,q1⟩=>?_) (by rw[hst];rfl) (by rfl)
 obtain⟨c,xs,zs,b,k,v,rfl,td,pr,nd,eb,sk,mem,q⟩:=q1;obtain⟨u,rfl,ru⟩:=r1.one;cases(show u=Value.ref c from ru)
 obtain⟨o,its,n,rel,e1,c1,d1,dn,lz⟩:=I1.tupleD td;obtain⟨ps,k1,k2⟩:=zmy I1 rel pr;have ek:=zi2 k1;refine zhc (A:=X.A) (ps:=ps) e1 c1 d1 dn (I1.ok.hd hc) hu (by simpa using k2) ?_ (by rw[<- ek];exact nd) fun h' tk kp dd=>?_
 ·have e2:=Paired.length pr;have e3:=Paired.length k1;lia
 have I2:Inv X pins σ H1 { s1 with heap:=h',toks:=tk }:=I1.kept kp
 obtain⟨m,hn,hl⟩:=I2.loc;obtain⟨u,r,l⟩:=hl i x (.ref b) hN eb hv;cases(show u=Value.ref b from r)
 obtain⟨⟨k',bb,w⟩,hw,ek',rw'⟩:=zla k1 mem;obtain⟨j,hj⟩:=List.mem_iff_getElem?.mp hw;have ndp:(ps.map (·.1)).Nodup:=by rw[<- ek];exact nd
 have ak:=atKey_of_get ndp hj;have ek'':k=k':=ek';subst ek'';have fin:wpAny (model X.prog X.w) X.A (subscriptTail (.Call (.Name "dict" p) [e] [] cp) (.Name x p2) (.ref s1.heap.objs.size) (.ref b)) (EP X pins σ Q) X.xe { s1 with heap:=h',toks:=tk } :=
  tail_any dd.typeIs PySem.F.slot_dict_getitem.lookup (wpAny_getItem_heap (tupleKind_room_in1 (by lia)) (zpH I2 sk) dd ak ⟨v,H1,I2.tok _,rw',q⟩) (hs _ _)
 rcases l with⟨hk,hm⟩|⟨hk,c,hc,hcell⟩
 ·exact wpAny_Name (wpAny_loadName_local I2.ok.kind hk hn hm fin) hd
 ·rcases hk with hk|hk
  ·exact wpAny_Name (wpAny_loadName_cell I2.ok.kind hk hc hcell fin) hd
  ·exact wpAny_Name (wpAny_loadName_free I2.ok.kind hk hc hcell fin hcd) hd
def ksD:List PyData->Option (List Key)
 | []=>some []
 | t::ts=>match keyD t,ksD ts with|some k,some ks=>some (k::ks)|_,_=>none
def tkD:PyData->Option (List Key)
 | .tuple ts=>ksD ts
 | _=>none
def prsT:List PyData->Option (List (List Key×PyData))
 | []=>some []
 | .tuple [k,v]::ts=>match tkD k,prsT ts with|some q,some ks=>some ((q,v)::ks)|_,_=>none
 | _=>none
theorem zkn{K:qF}{hd:Option Addr}{O:Addr->Prop}{H:Hp}:∀{vs:List V}{ts:qD}{k:List Key},Reps K hd O H vs ts->ksD ts=some k->vs=k.map kV
 | _,[],_,r,h=>by cases r;cases h;rfl
 | _,t::ts,k,r,h=>by
  cases r with
  | cons r1 r2 =>
   unfold ksD at h;cases hq:keyD t with
   | none=>rw[hq]at h;cases h
   | some q =>
    rw[hq]at h;cases hk:ksD ts with
    | none=>rw[hk]at h;cases h
    | some ks =>
     rw[hk]at h;cases h;rw[List.map_cons,r1.keyV hq,zkn r2 hk]
theorem zpt{K:qF}{hd:Option Addr}{O:Addr->Prop}{H:Hp}{v:V}{t:PyData}{k:List Key}(r:Rep K hd O H v t)(h:tkD t=some k):∃b,v=.ref b/\SqT K H b (k.map kV):=by
 cases t with
 | tuple ts =>
  obtain⟨a,vs,rfl,h1,h2⟩:=r.tupI;rw[zkn h2 h]at h1;exact⟨a,rfl,h1⟩
 | _=>cases h
theorem zmk{t:PyData}{ts:qD}{ks:List (List Key×PyData)}(h:prsT (t::ts)=some ks):∃k v q ks',t=.tuple [k,v]/\tkD k=some q/\prsT ts=some ks'/\ks=(q,v)::ks':=by
 have key:∀k v,prsT (.tuple [k,v]::ts)=some ks->∃q ks',tkD k=some q/\prsT ts=some ks'/\ks=(q,v)::ks':=fun k v h=>by
  simp only[prsT]at h;cases hq:tkD k with
  | none=>rw[hq]at h;cases h
  | some q =>
   rw[hq]at h;cases hk:prsT ts with
   | none=>rw[hk]at h;cases h
   | some ks'=>rw[hk]at h;cases h;exact⟨q,ks',rfl,rfl,rfl⟩
 cases t with
 | tuple us =>
  rcases us with _|⟨k,_|⟨v,_|⟨x,r⟩⟩⟩
  ·simp[prsT]at h
  ·simp[prsT]at h
  ·obtain⟨q,ks',a,b,c⟩:=key k v h;exact⟨k,v,q,ks',rfl,a,b,c⟩
  ·simp[prsT]at h
 | _=>simp[prsT]at h
theorem zhH{K:qF}{hd:Option Addr}{O:Addr->Prop}{H:Hp}:∀{vs:List V}{ts:qD}{ks:List (List Key×PyData)},Reps K hd O H vs ts->prsT ts=some ks->∃zs:List (List Key×V),Paired (KTp K H) vs zs/\Paired (fun(z:List Key×V) (q:List Key×PyData)=>z.1=q.1/\Rep K hd O H z.2 q.2) zs ks
 | _,[],_,r,h=>by cases r;cases h;exact⟨[],.nil,.nil⟩
 | _,t::ts,ks,r,h=>by
  cases r with
  | cons r1 r2 =>
   obtain⟨k,v,q,ks',rfl,hq,hk,rfl⟩:=zmk h;obtain⟨zs,z1,z2⟩:=zhH r2 hk;obtain⟨a,ws,rfl,h1,h2⟩:=r1.tupI;cases h2 with
   | cons q1 q2 =>
    cases q2 with
    | cons q3 q4 =>
     cases q4;obtain⟨b,rfl,sb⟩:=zpt q1 hq;exact⟨(q,_)::zs,.cons ⟨a,b,rfl,h1,sb⟩ z1,.cons ⟨rfl,q3⟩ z2⟩
theorem zhK{zs:List (List Key×V)}{ks:List (List Key×PyData)}{F:V->PyData->Prop}(r:Paired (fun(z:List Key×V) (q:List Key×PyData)=>z.1=q.1/\F z.2 q.2) zs ks):zs.map (·.1)=ks.map (·.1):=by
 induction r with
 | nil=>rfl
 | cons h t ih=>rw[List.map_cons,List.map_cons,ih,h.1]
def zjP(i:Nat)(d:DTE):DTE:=fun ρ n R=>d ρ n fun t n1=>match ρ[i]? with
 | some (some (Cell.val kt))=>lTup t fun ts=>∃zs k v,prsT ts=some zs/\tkD kt=some k/\(zs.map (·.1)).Nodup/\(k,v)∈zs/\R v n1
 | _=>False
theorem znz(i:Nat){x:Str}{e:Expr}{d:DTE}{p p2 cp pos:Pos}(hc:X.calm=true)(hu:X.A.units+64<cLine)(hm:X.mg "dict" = none) (h:DE X e d) (hN:X.N[i]?=some x:=by rfl) (hv:Vis X.env.scope x:=by walk_at "V") (hg:Gl X "dict":=by rfl) (hst:starEach [e] X.env=[(false,eval e X.env)]:=by rfl) (hs:VI (.Name x p2):=by intro _ _;rfl)
  (hd:(x == ("__debug__":Str))=false:=by decide) (hcd:(x == ("__classdict__":Str))=false:=by decide):DE X (.Subscript (.Call (.Name "dict" p) [e] [] cp) (.Name x p2) pos) (zjP i d):=by
 obtain⟨ta,pa,h⟩:=h;refine⟨_,zmt hc hu hN hv hg hm (UJ pa Yu hst) hst hs hd hcd,fun C ρ σ H n Q R S hd hq=>?_⟩
 refine h C ρ σ H n _ _ S hd fun t n1 v H1 r1 e1 hn1 q1=>?_
 split at r1
 ·rename_i kt ek;obtain⟨vb,evb,rvb⟩:=S.val i kt ek;have rvb:=e1.rep S.hx rvb;cases t with
  | tuple ts =>
   obtain⟨zs,k,val,hz,hk,nd,mem,r⟩:=r1;obtain⟨b,rfl,sb⟩:=zpt rvb hk;obtain⟨c,xs,rfl,td,rs⟩:∃c xs,v=.ref c/\TDk X.K H1 c xs/\Reps X.K C.hd (Own C ρ σ) H1 xs ts:=by
    cases q1 with
    | tup h o r=>exact⟨_,_,rfl,.inl h,r⟩
    | tupS h r=>exact⟨_,_,rfl,.inr h,r⟩
   obtain⟨zv,z1,z2⟩:=zhH rs hz;obtain⟨⟨k',vv⟩,mv,ekk,rv⟩:=zi1 z2 mem;have ekk:k'=k:=ekk;subst ekk;exact⟨c,xs,zv,b,k',vv,rfl,td,z1,by rw[zhK z2];exact nd,evb,sb,mv,hq _ n1 _ H1 r e1 hn1 rv⟩
  | _=>exact r1.elim
 ·exact r1.elim
end
section
variable{ρ:En}{n i:Nat}{d:DTE}{R:qN}{kt:PyData}
instance zuG [h:GetN ρ i (some (.val kt))]:Stp (zjP i d ρ n R) (d ρ n fun t n1=>lTup t fun ts=>∃zs k v,prsT ts=some zs/\tkD kt=some k/\(zs.map (·.1)).Nodup/\(k,v)∈zs/\R v n1):=⟨fun k=>by
 unfold zjP;have e:=h.e;simp only[e];exact k⟩
end
end L2
namespace Bd
open PySem L2
def disB(a b:Int×Int):Prop:=eB a<=b.1\/eB b<=a.1
theorem disB.symm{a b:Int×Int}(h:disB a b):disB b a:=Or.symm h
theorem ztP{A B:qB}(h:∀x,mB x A->mB x B->False):∀a∈A,∀b∈B,disB a b:=fun a ha b hb=>by
 have pa:=Qu a;have pb:=Qu b
 by_cases z:disB a b
 ·exact z
 ·unfold disB at z;exact(h (max a.1 b.1) ⟨a,ha,by lia,by lia⟩ ⟨b,hb,by lia,by lia⟩).elim
theorem zho:∀{bs:qB}{lo hi:Int},(bs.Pairwise fun a b=>eB a<=b.1)->lo<=hi->(∀x,mB x bs↔lo<=x/\x<hi)->(bs.map fun b=>(2:Int) ^ b.2.toNat).sum=hi - lo
 | [],lo,hi,_,l,h=>by
  have:¬lo<hi:=fun z=>absurd ((h lo).mpr ⟨Int.le_refl _,z⟩) ZR
  simp;lia
 | b::r,lo,hi,p,l,h=>by
  obtain⟨p1,p2⟩:=List.pairwise_cons.mp p;have pb:=Qu b;have hb:=(h b.1).mp ⟨b,by simp,Int.le_refl _,pb⟩
  have he:=(h (eB b - 1)).mp ⟨b,by simp,by lia,by lia⟩
  have e:b.1=lo:=by
   obtain⟨c,hc,c1,c2⟩:=(h lo).mpr ⟨Int.le_refl _,by lia⟩
   rcases List.mem_cons.mp hc with rfl|hc
   ·lia
   ·have:=p1 c hc;lia
  have ih:=zho (lo:=eB b) (hi:=hi) p2 (by lia) fun x=>by
   constructor
   ·rintro⟨c,hc,c1,c2⟩;have:=(h x).mp ⟨c,by simp[hc],c1,c2⟩
    have:=p1 c hc;lia
   ·intro z;obtain⟨c,hc,c1,c2⟩:=(h x).mpr ⟨by lia,z.2⟩
    rcases List.mem_cons.mp hc with rfl|hc
    ·lia
    ·exact⟨c,hc,c1,c2⟩
  rw[List.map_cons,List.sum_cons,ih,<- e];unfold eB;lia
theorem Zi{bs:qB}:Okd (.tuple (pD bs)):=by
 have h:=zpB (bs:=bs);unfold Okd at *;simpa only[PyData.canLay0,PyData.depth] using h
theorem VT{d:PyData}(h:Okd d):PyData.eqv d d=true:=PySem.SeqAt.eqv_refl d h.1
theorem zsS{bs:qB}{R:PyData->Prop}(h:R (.bool false)):oNe (.tuple (pD bs)) (.tuple (pD bs)) R:=⟨Zi,Zi,by rw[VT Zi];exact h⟩
theorem zrf{bits:Int}(b0:0<=bits):CanP (fun x=>0<=x/\x<2 ^ bits.toNat) [(0,bits)]:=by
 have p:=Qj bits.toNat;refine⟨[(0,2 ^ bits.toNat)],⟨fun r hr=>by cases List.mem_singleton.mp hr;exact p,List.pairwise_singleton _ _⟩,fun x=>?_,[(0,bits)],[],rfl,?_,rfl⟩
 ·rw[JY];exact⟨fun z=>z.elim id fun z=>absurd z Qp,.inl⟩
 ·refine⟨p,rfl,b0,⟨by simp,by simp,fun z=>?_⟩,by show(0:Int)+2 ^ bits.toNat=2 ^ bits.toNat;lia⟩
  have z2:(2:Int) ^ (bits.toNat+1)<=2 ^ bits.toNat - 0:=z.2;rw[Int.pow_succ]at z2;lia
theorem zhb{ts:qD}{lo hi:Option Int}{t:PyData}(h:t∈cutD ts lo hi):t∈ts:=by
 unfold cutD at h;exact List.mem_of_mem_drop (List.mem_of_mem_take h)
theorem VY{ts:qD}{lo hi:Option Int}:(cutD ts lo hi).length<=ts.length:=by
 unfold cutD;rw[List.length_take,List.length_drop];lia
end Bd
namespace L2
open PySem PySem.Spec PyProof PyProof.Rows PySem.W
section
variable{X:Cx}{e:Expr}{x:Str}{pos:Pos}{d:DTE}
def zoz(K:qF):V->List V->Hp->VK->Prop:=fun x vs H Q=>∃l b xs zs,x=.ref l/\vs=[.ref b]/\H l=some (.lst xs)/\SqT K H b zs/\xs.length+zs.length<=sizeLine/\Q .non (upd H l (.lst (xs++zs)))
theorem zlm:MtM X "list.extend" (zoz X.K):=by
 intro pins s σ H x vs v us Q I rx rv h;obtain⟨l,b,xs,zs,rfl,rfl,hH,hB,hz,q⟩:=h;cases rx;obtain⟨u,rfl,ru⟩:=rv.one;cases ru;obtain⟨z,its,n,r,hl,e⟩:=I.lstM hH;obtain⟨its2,r2,⟨o,ho,hc,n2,hd⟩,z2⟩:=I.tuple hB;have lr:=r.length;have lr2:=r2.length;have hsz:its.toArray.size+its2.toArray.size<=sizeLine:=by rw[List.size_toArray,List.size_toArray];lia
 have hlong:¬(!its.toArray.isEmpty&&Builtin.List.listTooLong (its.toArray.size+its2.toArray.size))=true:=by
  rw[zkg hsz,Bool.and_false];exact Bool.false_ne_true
 refine wpAny_call_entry F.slot_list_extend ⟨_,e,rfl⟩ F.entry_list_extend ?_ (F.args_list_extend_2 _ _);show wpAny _ _ (Builtin.List.listExtendWith (.ref l) (.ref b) .none) _ _ s
 unfold Builtin.List.listExtendWith;refine wpAny_bind (wpAny_typeOf (T:="tuple") ⟨o,ho,hc⟩ ?_);have h1:(Builtin.List.listSameRef (.ref l) (.ref b)||Value.type "tuple" == Value.type "list" ||Value.type "tuple" == Value.type "tuple")=true:=by simp
 simp only[h1,if_true];refine wpAny_bind ?_;unfold Builtin.List.listItems;refine wpAny_bind (wpAny_seqItems ho hd (wpAny_pure ?_));refine wpAny_bind ?_;refine wpAny_bind (wpAny_seqItems e rfl (wpAny_pure ?_));rw[if_neg hlong];show wpAny _ _ (updateSeq l (·++its2.toArray) >>= fun _=>ret .none) _ _ s
 have hs1:its.toArray.size<=sizeLine:=by rw[List.size_toArray];lia
 have hs2:(its.toArray++its2.toArray).size<=sizeLine+1:=by rw[Array.size_append];lia
 refine wpAny_bind (wpAny_updateSeq e rfl (hz:=hs1) (_hz':=hs2) ?_);refine wpAny_pure ⟨_,rfl,?_⟩;refine⟨.non,_,I.lset (its':=its++its2) hH e (by simp) (r.append r2) ?_,rfl,q⟩
 rw[List.length_append];lia
def V5(i:Nat)(d:DTE):DTS:=fun D ρ n=>match ρ[i]? with
 | some (some (.own ts))=>d ρ n fun t n'=>lTup t fun us=>ts.length+us.length<=16777216/\D.nx (ρ.set i (some (.own (ts++us)))) n'
 | _=>False
theorem zlG(i:Nat){p1 p2 p3:Pos}(h:DE X e d)(hN:X.N[i]?=some x:=by rfl)(hv:Vis X.env.scope x:=by walk_at "V")(hd:(x == ("__debug__":Str))=false:=by decide)
  (hcd:(x == ("__classdict__":Str))=false:=by decide) (hs:swapsWith (.Call (.Attribute (.Name x p1) "extend" p2) [e] [] p3) none pos.line X.env=pure false:=by rfl)
  (hbase:attributeBase (.Name x p1) "extend" X.env (eval (.Name x p1) X.env)=eval (.Name x p1) X.env:=by rfl)
  (hfew:((backTo p3 (starEach [e] X.env)).all (fun x=>!x.1)&&(backToKw p3 (keywordEach [] X.env)).all (fun x=>x.1.isSome)
   && decide ([e].length+([]:List Keyword).length+(if ([]:List Keyword).isEmpty then 0 else 1)<30))=true:=by rfl)
  (hline:(p2.endLine == p3.line)=true:=by rfl) (hst:starEach [e] X.env=[(false,eval e X.env)]:=by rfl):DS X (.Expr (.Call (.Attribute (.Name x p1) "extend" p2) [e] [] p3) pos) (V5 i d):=by
 obtain⟨ta,pa,h⟩:=h;refine⟨_,ziZ (zql PySem.F.plainAttrs_list PySem.F.slot_list_extend PySem.F.type_list_extend zlm (Q3 hN hv hd hcd) (UJ pa Yu hst) hbase hfew hline hst rfl) hs,fun C ρ σ H n D D' S hd g=>?_⟩
 unfold V5 at hd;split at hd
 ·rename_i ts et;obtain⟨p,vs,h1,h2,h3,h4⟩:=S.own i ts et;refine⟨.ref p,h1,.inl ⟨rfl,_,SqL.of h2⟩,?_⟩;refine h C ρ σ H n _ _ S hd fun t n' v H' r e1 hn q=>?_
  cases t with
  | tuple us =>
   have S1:=S.on e1 hn;obtain⟨p',vs',h1',h2',h3',h4'⟩:=S1.own i ts et;rw[h1]at h1';cases h1';obtain⟨b,ws,rfl,hb,q⟩:=q.tupI;refine⟨p,b,vs',ws,rfl,rfl,h2',hb,by rw[h3'.length,q.length];exact r.1,?_⟩
   obtain⟨S2,k2⟩:=S1.chg et h1 (h3'.append q);exact g.nx _ _ _ n' r.2 S2 (e1.keep.trans k2)
  | _=>exact r.elim
 ·exact hd.elim
instance zrX {i:Nat}{ρ:En}{n:Nat}{D:DEnds}{xs:qD}[h:GetN ρ i (some (.own xs))]:Stp (V5 i d D ρ n) (d ρ n fun t n'=>lTup t fun us=>xs.length+us.length<=16777216/\SetK i (some (.own (xs++us))) D.nx ρ n'):=⟨fun k=>by
 unfold V5;rw[h.e];exact k⟩
end
end L2
namespace Bd
open PySem L2
def Dq(K:qF)(mg:qM)(x:Str)(st:Stmt)(ps:List Str):Prop:=∃f fd,Def K mg x st ps f fd
def Fq(P:Program)(w:World)(K:qF)(mg:qM)(base:Heap)(x:Str)(st:Stmt)(ps:List Str)(k:Nat)(sp:Sp):Prop:=∃f fd,Def K mg x st ps f fd/\FnOk P w K mg base CX0 k f fd ps sp
end Bd
namespace L2
open PySem PySem.Spec PyProof.Rows
section
variable{X:Cx}{x:Str}{st:Stmt}{ps:List Str}{k n m:Nat}{g:GD}{e:Expr}{es:List Expr}{ds:DTA}{p pos:Pos}
theorem Jg(F:Bd.Fq X.prog X.w X.K X.mg X.base x st ps k (spD X.K m g))(hr:Room n X.A)(h:DB X (e::es) ds)(hk:k<=n:=by decide)(hm:(e::es).length=m:=by rfl)(hg:Gl X x:=by rfl)
  (hdb:(x == ("__debug__":Str))=false:=by decide):DE X (.Call (.Name x p) (e::es) [] pos) (dFn g ds):=by
 obtain⟨f,fd,D,G⟩:=F;exact zwi D G (hr.mono hk) h hm hg hdb
theorem ztU(F:Bd.Fq X.prog X.w X.K X.mg X.base x st ps k (spD X.K m g))(hr:Room n X.A)(h:DBL X (e::es) ds)(hk:k<=n:=by decide)(hm:(e::es).length=m:=by rfl)(hg:Gl X x:=by rfl)
  (hdb:(x == ("__debug__":Str))=false:=by decide):DE X (.Call (.Name x p) (e::es) [] pos) (dFnL g ds):=by
 obtain⟨f,fd,D,G⟩:=F;exact ztV D G (hr.mono hk) h hm hg hdb
end
section
variable{X:Cx}{hx s kx x:Str}{st:Stmt}{ps:List Str}{k n:Nat}{p p1 p2 p3 pos pos':Pos}{sts:List Stmt}{u:DTS}
theorem znn{i j:Nat}(F:Bd.Fq X.prog X.w X.K X.mg X.base hx st ps k (VG X.K))(hr:Room n X.A)(hN:X.N.Nodup)(hi:X.N[i]?=some x)(hlx:Loc X.env.scope x)(hu:DSs X sts u)(hk:k<=n:=by decide)(hij:i≠0:=by decide)(hj0:j≠0:=by decide)(hji:j≠i:=by decide)
  (h0:X.N[0]?=some s:=by rfl) (hj:X.N[j]?=some kx:=by rfl) (hv0:Vis X.env.scope s:=by walk_at "V") (hvj:Vis X.env.scope kx:=by walk_at "V")
  (hd0:(s == ("__debug__":Str))=false:=by decide) (hcd0:(s == ("__classdict__":Str))=false:=by decide) (hdj:(kx == ("__debug__":Str))=false:=by decide) (hcdj:(kx == ("__classdict__":Str))=false:=by decide) (hg:Gl X hx:=by rfl) (hdb:(hx == ("__debug__":Str))=false:=by decide)
  (hs:swapsWith (.Call (.Name hx p) [.Name s p1,.Name kx p2] [] p3) (some (.Name x pos')) pos.line X.env=pure false:=by rfl) (hf:X.fn x=true\/X.env.scope.names.lookup x=some .local:=by walk_at "F") :
  DSs X (.Assign [.Name x pos'] (.Call (.Name hx p) [.Name s p1,.Name kx p2] [] p3) pos::sts) (Y0 i j u):=by
 obtain⟨f,fd,D,G⟩:=F;exact zpj D G (hr.mono hk) hN hi hlx hu hij hj0 hji h0 hj hv0 hvj hd0 hcd0 hdj hcdj hg hdb hs hf
end
end L2
namespace Bd
open PySem L2
section
variable{K:qF}{h:Heap}{mg:qM}{x:Str}{st:Stmt}{ps:List Str}
abbrev BndA(x:Str)(st:Stmt)(ps:List Str):Prop:=∀(kV doc pm:Value) (an:Option Addr) (cdv ct:Value) (us:List Value),us.length=ps.length->bindArgs (PySem.W.fnOf x x (QI st) (Qn st) (Jj st) .none kV doc pm an cdv ct) ⟨us,[]⟩=pure (ps.zip us)
theorem len1:∀{us:List Value},us.length=1->∃a,us=[a]
 | [a],_=>⟨a,rfl⟩
theorem len2:∀{us:List Value},us.length=2->∃a b,us=[a,b]
 | [a,b],_=>⟨a,b,rfl⟩
theorem len3:∀{us:List Value},us.length=3->∃a b c,us=[a,b,c]
 | [a,b,c],_=>⟨a,b,c,rfl⟩
theorem len4:∀{us:List Value},us.length=4->∃a b c d,us=[a,b,c,d]
 | [a,b,c,d],_=>⟨a,b,c,d,rfl⟩
end
end Bd
namespace L2
open PySem
abbrev RL:=List ((Int×Int)×Int)
end L2
namespace Bd
open PySem PySem.W PySem.Calls L2 PyProof.Rows
structure ZZ where
 P:Program
 w:World
 K:qF
 mg:Str->Option Value
 base:Heap
def FQ(Z:ZZ)(x:Str)(st:Stmt)(ps:List Str)(k:Nat)(sp:Sp):Prop:=Fq Z.P Z.w Z.K Z.mg Z.base x st ps k sp
theorem okQ{Z:ZZ}{x:Str}{st:Stmt}{ps N:List Str}{k m:Nat}{g:GD}(D:Dq Z.K Z.mg x st ps)(S:FnScope N ps (Jj st))(hm:m=ps.length)
  (hb:∀(f:Addr) (cdv:Value) (A:Around) (outer:List Env) (s:Shared) (H:Hp) (E:XK),Room k (A.deeper (envOfC x (Jj st) s.heap.objs.size f cdv))->∃d,DSs (cxOf CX0 Z.P Z.w Z.K Z.mg Z.base N x (Jj st) f cdv A outer s H E).nox (Qn st) d /\
   ∀ts n R,ts.length=m->g ts n R->d { nx:=fun _ n'=>R .none n',rt:=R } (J6 N ts) n):FQ Z x st ps (k+1) (spD Z.K m g):=by
 obtain⟨f,fd,D⟩:=D;exact⟨f,fd,D,D.okD S hm fun cdv A outer s H E hr=>hb f cdv A outer s H E hr⟩
theorem bnd1{x:Str}{st:Stmt}{a:Str}(h:∀(kV doc pm:Value) (an:Option Addr) (cdv ct u:Value),bindArgs (PySem.W.fnOf x x (QI st) (Qn st) (Jj st) .none kV doc pm an cdv ct) ⟨[u],[]⟩=pure [(a,u)]):BndA x st [a]:=fun _ _ _ _ _ _ us hl=>by obtain⟨_,rfl⟩:=len1 hl;exact h ..
theorem bnd2{x:Str}{st:Stmt}{a b:Str}(h:∀(kV doc pm:Value) (an:Option Addr) (cdv ct u v:Value),bindArgs (PySem.W.fnOf x x (QI st) (Qn st) (Jj st) .none kV doc pm an cdv ct) ⟨[u,v],[]⟩=pure [(a,u),(b,v)]):BndA x st [a,b]:=fun _ _ _ _ _ _ us hl=>by obtain⟨_,_,rfl⟩:=len2 hl;exact h ..
theorem bnd3{x:Str}{st:Stmt}{a b c:Str}(h:∀(kV doc pm:Value) (an:Option Addr) (cdv ct u v y:Value),bindArgs (PySem.W.fnOf x x (QI st) (Qn st) (Jj st) .none kV doc pm an cdv ct) ⟨[u,v,y],[]⟩=pure [(a,u),(b,v),(c,y)]):BndA x st [a,b,c]:=fun _ _ _ _ _ _ us hl=>by obtain⟨_,_,_,rfl⟩:=len3 hl;exact h ..
theorem bnd4{x:Str}{st:Stmt}{a b c d:Str}(h:∀(kV doc pm:Value) (an:Option Addr) (cdv ct u v y z:Value),bindArgs (PySem.W.fnOf x x (QI st) (Qn st) (Jj st) .none kV doc pm an cdv ct) ⟨[u,v,y,z],[]⟩=pure [(a,u),(b,v),(c,y),(d,z)]):BndA x st [a,b,c,d]:=fun _ _ _ _ _ _ us hl=>by obtain⟨_,_,_,_,rfl⟩:=len4 hl;exact h ..
def Qx(h:Heap):qF:=(List.range h.objs.size).filterMap fun a=>(h.get? a).map fun o=>(a,o)
theorem zm0{h:Heap}:∀{as:List Addr}{a:Addr},a∈as->(as.filterMap fun a=>(h.get? a).map fun o=>(a,o)).lookup a=h.get? a\/h.get? a=none
 | [],_,m=>nomatch m
 | b::as,a,m=>by
  by_cases e:a=b
  ·subst e;cases g:h.get? a with
   | none=>exact .inr rfl
   | some o=>exact .inl (by rw[List.filterMap_cons];simp[g,List.lookup_cons])
  ·have m':a∈as:=(List.mem_cons.mp m).resolve_left e;rcases zm0 (h:=h) m' with z|z
   ·refine .inl ?_;rw[List.filterMap_cons];cases g:h.get? b with
    | none=>exact z
    | some o =>
     have:(a == b)=false:=by simpa using e
     simp only[Option.map_some];rw[List.lookup_cons,this];exact z
   ·exact .inr z
theorem zdA{h:Heap}{a:Addr}{o:Obj}(e:h.get? a=some o):(Qx h).lookup a=some o:=by
 have m:a∈List.range h.objs.size:=List.mem_range.mpr (Heap.lt_size e);rcases zm0 (h:=h) m with z|z
 ·exact z.trans e
 ·rw[e]at z;cases z
theorem zlU{h:Heap}:(Qx h).In h:=fun a o e=>by
 have key:∀(as:List Addr),(as.filterMap fun a=>(h.get? a).map fun o=>(a,o)).lookup a=some o->h.get? a=some o:=by
  intro as;induction as with
  | nil=>intro z;cases z
  | cons b as ih =>
   intro z;rw[List.filterMap_cons]at z;cases g:h.get? b with
   | none=>rw[g]at z;exact ih z
   | some ob =>
    rw[g]at z;simp only[Option.map_some,List.lookup_cons]at z;cases q:a == b with
    | true=>rw[q]at z;cases z;rw[eq_of_beq q];exact g
    | false=>rw[q]at z;exact ih z
 exact key _ e
def Vr:Stmt->Bool
 | .FunctionDef ..=>true
 | _=>false
def defName:Stmt->Str
 | .FunctionDef n _ _ _ _ _ _ _ _ _=>n
 | _=>Str.ofString ""
def ztR:Stmt->Pos
 | .FunctionDef _ _ _ _ _ _ _ _ _ p=>p
 | _=>⟨0,0,0,0⟩
def recD(st:Stmt):DefRec:=⟨defName st,QI st,Qn st,Jj st,ztR st⟩
theorem getD_mem{l:List Stmt}{i:Nat}(h:Vr (l.getD i (.Pass ⟨0,0,0,0⟩))=true):l.getD i (.Pass ⟨0,0,0,0⟩)∈l:=by
 rw[List.getD_eq_getElem?_getD]at h ⊢;cases e:l[i]? with
 | none=>rw[e]at h;cases h
 | some s=>exact List.mem_of_getElem? e
section
variable{q:Program}{loose:List Str}{mean:ExcName->Option Value}{mg mb:qM}{h:Heap}{x:Str}{st:Stmt}{ps:List Str}
theorem znG{cd:Value}{n:Str}(c:h.CodeRec cd n):PySem.W.codeIn (Qx h) cd n=true:=by
 obtain⟨a,o,vs,t,rfl,g,d,e⟩:=c;unfold PySem.W.codeIn;dsimp only;rw[zdA g];obtain⟨oc,od,dd,sl⟩:=o;cases(show dd=_ from d)
 have l2:vs.toList[1]?=some (.str n t):=by simpa using e
 dsimp only
 match hv:vs.toList,l2 with
 | [],l2=>simp at l2
 | [_],l2=>simp at l2
 | a::b::r,l2 =>
  have:b=.str n t:=by simpa using l2
  subst this;simp
theorem dq_g(T:Top q loose mean mg mb h)(hd:recD st∈recsOf q)(hn:defName st=x)(hb:BndA x st ps):Dq (Qx h) mg x st ps:=by
 obtain⟨a,o,pm,cd,doc,h1,h2,h3,h4⟩:=T.fn _ hd;have h1:mg (defName st)=some (.ref a):=h1;have h4:h.CodeRec cd (defName st):=h4;rw[hn]at h1 h4;obtain⟨oc,od,dd,sl⟩:=o;have h3:dd=.func (docDef (defName st) (QI st) (Qn st) (Jj st) pm cd doc):=h3;rw[hn]at h3;have l:(Qx h).lookup a=some ⟨oc,od,.func (PySem.W.fnOf x x (QI st) (Qn st) (Jj st) .none .none doc pm none cd .none),sl⟩:=by
  rw[zdA h2,h3];rfl
 have kp:PySem.W.keepIn (Qx h) (.ref a)=true:=by
  unfold PySem.W.keepIn;dsimp only;rw[l]
 exact⟨a,_,zpN l (znG h4) kp,(zpN l (znG h4) kp).binds hb,h1⟩
end
theorem zuJ{lw:PySem.W.OpenLaw}{q:Program}{loose:List Str}{XP:(Str->Option Value)->Heap->Prop}{YP:World->Heap->Prop}{d:DefRec}{k:Nat}(hk:k<=60)(hn:lw.most=some 63)(hdf:d.params.defaults=[])
  (F:∀(w:World) (s₀:Shared) (mg mb:qM) (fa:Addr) (h:Heap),Ground q loose [] XP w s₀ mg mb h->mg d.name=some (.ref fa) ->
   ∃fd:FuncData,(∀(s:Shared) (u:Value),BindsTo s fd ⟨[u],[]⟩ [("_law_script",u)])/\∀base:Heap,(Qx h).In base->base.Ns mainGlobals mg->FnOk lw.prog w (Qx h) mg base CX0 k fa fd ["_law_script"] (zpX (Qx h))) :
  PySem.W.WalkO q loose XP YP lw.row.toRowW d [] (fun f vs=>PySem.call f vs):=by
 refine Att.attach_call hn hdf fun w s₀ s₁ mg mb fa o pm cd doc a vs ns G Y ho hd hcd hmg hobj hints hlen hg=>?_
 obtain⟨fd,hb,hF⟩:=F w s₀ mg mb fa _ G hmg;exact zo0 zlU G.T.g G.T.b G.T.builtins G.T.nolimit hg hobj hints (Nat.le_trans hlen (by decide)) ((show Room 60 callerA from⟨rfl,by decide,by decide,rfl⟩).mono hk) hF hb (fun H hO hS=>⟨a,ns,rfl,hS,hlen,fun _=>rfl⟩) fun H e s' z=>z
end Bd
namespace Bd
open PySem L2
def top(i:Nat):Stmt:=PySem.Challenge.pw_blockdeal_k54_whole_addresses_in_one_pla.main.body.getD i (.Pass ⟨0,0,0,0⟩)
set_option maxHeartbeats 4000000
local macro_rules | `(tactic| walk_at "S") => `(tactic| first | with_reducible refine zk1 ?_ | with_reducible refine Stp.go ?_ | with_reducible refine j_all (by with_unfolding_all rfl) ?_ | with_reducible refine j_any (by with_unfolding_all rfl) ?_ | with_reducible refine zpL (by with_unfolding_all rfl) ?_ | with_reducible refine zpM (by with_unfolding_all rfl) ?_ | with_reducible refine zkw (by with_unfolding_all rfl) ?_ | with_reducible refine zkv (by with_unfolding_all rfl) ?_)
set_option hygiene false in
local macro_rules | `(tactic| walk_at "K") => `(tactic| first | walk_at "S" | with_reducible refine zti (fun hc => ?_) (fun hc => ?_) | with_reducible refine zv8 (fun hc => ?_) (fun hc => ?_) | with_reducible refine And.intro ?_ ?_)
set_option hygiene false in
local macro_rules | `(tactic| wp_walk using $ts:term,*) => `(tactic| repeat' (first $[| with_reducible refine $ts:term]* | walk_at "K"))
local macro_rules | `(tactic| wp_walk) => `(tactic| repeat' walk_at "K")
structure Txt(mg:qM):Prop where
 isi:mg "isinstance" = none
 int:mg "int" = none
 boo:mg "bool" = none
 tup:mg "tuple" = none
 len:mg "len" = none
 min:mg "min" = none
 max:mg "max" = none
 str:mg "str" = none
 rep:mg "repr" = none
 all:mg "all" = none
 any:mg "any" = none
 ran:mg "range" = none
 sum:mg "sum" = none
 srt:mg "sorted" = none
 lst:mg "list" = none
 abs:mg "abs" = none
 zip:mg "zip" = none
 dct:mg "dict" = none
 rev:mg "reversed" = none
 enu:mg "enumerate" = none
section
variable{P:Program}{w:World}{K:qF}{mg:qM}{base:Heap}{Z:ZZ}
theorem ziS:FnScope ["thing"] ["thing"] (Jj (top 1)):=⟨rfl,rfl,rfl,by decide +kernel,rfl,by decide +kernel,by decide +kernel⟩
def ZC:PyData->Bool|.int _=>true|_=>false
def zej:GD:=fun ts n R=>match ts with
 | [d]=>Pln d/\R (.bool (ZC d)) n
 | _=>False
theorem YM{d:PyData}{b:Bool}{n:Nat}{R:qN}(e:ZC d=b)(h:Pln d)(h':R (.bool b) n):zej [d] n R:=⟨h,e▸h'⟩
def zee(Z:ZZ):Prop:=FQ Z "is_whole" (top 1) ["thing"] 1 (spD Z.K 1 zej)
theorem zi5(D:Dq Z.K Z.mg "is_whole" (top 1) ["thing"]) (T:Txt Z.mg):zee Z:=by
 refine' okQ D ziS rfl fun f cdv A outer s H E hr=>⟨_,(Jf (Jk (QH (UF ztC T.isi T.int boot_int (dl (Ja 0)) Jc) (QP (VQ (UF zqZ T.isi T.boo zlQ (dl (Ja 0)) Jc)))))),?_⟩
 intro ts n R hl h;unfold zej at h;split at h
 ·rename_i d;obtain⟨p,h⟩:=h;cases d with
  | dict ks =>
   cases ks with
   | nil =>
    wp_walk
    exact h
   | cons a b=>exact absurd rfl p
  | _ =>
   wp_walk
   exact h
 ·exact h.elim
theorem zdo:FnScope ["bits","thing","begin","height"] ["bits","thing"] (Jj (top 2)):=⟨rfl,rfl,rfl,by decide +kernel,rfl,by decide +kernel,by decide +kernel⟩
def Qg(bits:Int):PyData->Bool
 | .tuple [.int b,.int h]=>decide (0<=h/\h<=bits/\0<=b/\b<2 ^ bits.toNat/\b % 2 ^ h.toNat=0)
 | _=>false
theorem zjI{bits b h:Int}:Qg bits (.tuple [.int b,.int h])=decide (0<=h/\h<=bits/\0<=b/\b<2 ^ bits.toNat/\b % 2 ^ h.toNat=0):=rfl
theorem zii{bits b h:Int}(b0:0<=bits):Qg bits (.tuple [.int b,.int h])=true↔IsBk bits b h:=by
 unfold Qg;rw[decide_eq_true_iff];constructor
 ·rintro⟨h0,h1,g0,g1,g2⟩;have p:=Qj h.toNat;have e:=Int.emod_add_mul_ediv b (2 ^ h.toNat);refine⟨h0,h1,b / 2 ^ h.toNat,Int.ediv_nonneg g0 (by lia),?_,?_⟩
  ·rw[Int.mul_comm];lia
  ·apply Int.ediv_lt_of_lt_mul p;rw[<- Int.pow_add,show(bits - h).toNat+h.toNat=bits.toNat by lia]
   exact g1
 ·intro B;have bb:=B.bounds b0;obtain⟨h0,h1,k,k0,rfl,k1⟩:=B;refine⟨h0,h1,bb.1,?_,Int.mul_emod_left _ _⟩;have:=Qj h.toNat;lia
def Pl2(d:PyData):Prop:=Pln d/\∀ts,d=.tuple ts->∀t∈ts,Pln t
def zek:GD:=fun ts n R=>match ts with
 | [.int bits,d]=>0<=bits/\bits<=64/\Pl2 d/\R (.bool (Qg bits d)) n
 | _=>False
theorem zlN{bits:Int}{d:PyData}{n:Nat}{R:qN}(b0:0<=bits)(b1:bits<=64)(h:Pl2 d)(h':R (.bool (Qg bits d)) n):zek [.int bits,d] n R:=⟨b0,b1,h,h'⟩
theorem ztN{b c:Bool}{n:Nat}{R:qN}(e:b=c)(h:R (.bool c) n):R (.bool b) n:=e▸h
def zf8(Z:ZZ):Prop:=FQ Z "is_block" (top 2) ["bits","thing"] 2 (spD Z.K 2 zek)
theorem zi7(D:Dq Z.K Z.mg "is_block" (top 2) ["bits","thing"]) (h_is_whole:zee Z) (T:Txt Z.mg):zf8 Z:=by
 refine' okQ D zdo rfl fun f cdv A outer s H E hr=>⟨_,(Jh (Jy (Qm (Uh (J7 (J3 (dl (UF Z0 T.isi T.tup Qq (dl (Ja 1)) Jc)))) (Uk (Jt (Ys hr) U4 (dl (JB QE QB T.len Qy (Jp (dl (Ja 1)) Jq Jc))) (dl Jd) (Jo _))))) (Jf (Jk JR)) JC) (Jh (QQ (Ja 1) (JJ rfl (Jn (Ji (i:=2) zdo.nd rfl (Or.inl rfl)) (Jn (Ji (i:=3) zdo.nd rfl (Or.inl rfl)) JH)))) (Jh (Jy (Qm (Uh (J7 (J3 (dl (Jg h_is_whole hr (Jb (Ja 2) Je Jc))))) (Uk (J7 (J3 (dl (Jg h_is_whole hr (Jb (Ja 3) Je Jc)))))))) (Jf (Jk JR)) JC) (Jh (Jy (Qm (Uh (Jt (J5 hr) J4 (dl (Ja 3)) (dl Jd) (Jo _)) (Uk (Jt Vl gp_B (dl (Ja 3)) (dl (Ja 0)) (Jo _))))) (Jf (Jk JR)) JC) (Jf (Jk (QH (zkN Qd Qc (J5 hr) J4 (dl Jd) (dl (Ja 2)) (dl (J1 (dl Jd) (dl (Ja 0))))) (QP (JZ (QC hr) QA (dl (znx (dl (Ja 2)) (dl (J1 (dl Jd) (dl (Ja 3)))))) (dl Jd) (Jo _)))))))))),?_⟩
 intro ts n R hl h;unfold zek at h;split at h
 ·rename_i bits d;obtain⟨b0,b1,⟨p,p2⟩,h⟩:=h;cases d with
  | dict ks =>
   cases ks with
   | nil =>
    wp_walk
    exact h
   | cons a b=>exact absurd rfl p
  | tuple ts =>
   have p2:=p2 ts rfl
   match ts,p2,h with
   | [],_,h =>
    wp_walk
    all_goals first|exact h|(exfalso;simp at hc;done)
   | [x],_,h =>
    have wr:Qg bits (.tuple [x])=false:=by unfold Qg;split <;> simp_all
    rw[wr]at h
    wp_walk
    all_goals first|exact h|(exfalso;simp at hc;done)
   | x::y::z::r,_,h =>
    have wr:Qg bits (.tuple (x::y::z::r))=false:=by unfold Qg;split <;> simp_all
    rw[wr]at h
    wp_walk
    all_goals first|exact h|(exfalso;simp at hc;lia)
   | [x,y],p2,h =>
    have px:=p2 x (by simp)
    have py:=p2 y (by simp)
    have wx:(∃b,x=.int b)\/(ZC x=false/\Qg bits (.tuple [x,y])=false):=by
     cases x with
     | int b=>exact .inl ⟨b,rfl⟩
     | _=>exact .inr ⟨rfl,rfl⟩
    rcases wx with⟨b,rfl⟩|⟨wx,wr⟩
    ·have wy:(∃g,y=.int g)\/(ZC y=false/\Qg bits (.tuple [.int b,y])=false):=by
      cases y with
      | int b=>exact .inl ⟨b,rfl⟩
      | _=>exact .inr ⟨rfl,rfl⟩
     rcases wy with⟨g,rfl⟩|⟨wy,wr⟩
     ·wp_walk using YM (b:=true) rfl px ?_,YM (b:=true) rfl py ?_
      all_goals first
       | exact cpow (by lia) (by lia)
       | (rw[Qz];exact Qj _)
       | skip
      all_goals
       refine ztN ?_ h
       try simp only[Qz]at *
       rw[zjI];generalize (2:Int) ^ bits.toNat=X at *;generalize b % (2:Int) ^ g.toNat=Y at *
       first
        | (symm;rw[decide_eq_false_iff_not];lia)
        | (rw[decide_eq_decide];lia)
        | (exfalso;simp at hc;done)
     ·rw[wr]at h
      wp_walk using YM (b:=true) rfl px ?_,YM wy py ?_
      all_goals first|exact h|(exfalso;simp at hc;done)
    ·rw[wr]at h
     wp_walk using YM wx px ?_
     all_goals first|exact h|(exfalso;simp at hc;done)
  | _ =>
   wp_walk
   exact h
 ·exact h.elim
theorem zk3:FnScope ["block"] ["block"] (Jj (top 3)):=⟨rfl,rfl,rfl,by decide +kernel,rfl,by decide +kernel,by decide +kernel⟩
def zil:GD:=fun ts n R=>∃i h:Int,ts=[.tuple [.int i,.int h]]/\0<=h/\h<=1000/\R (.int (2 ^ h.toNat)) n
theorem ziD{i h:Int}{n:Nat}{R:qN}(g0:0<=h)(g1:h<=1000)(h':R (.int (2 ^ h.toNat)) n):zil [.tuple [.int i,.int h]] n R:=⟨_,_,rfl,g0,g1,h'⟩
def zeY(Z:ZZ):Prop:=FQ Z "size_of" (top 3) ["block"] 1 (spD Z.K 1 zil)
theorem zld(D:Dq Z.K Z.mg "size_of" (top 3) ["block"]) (T:Txt Z.mg):zeY Z:=by
 refine' okQ D zk3 rfl fun f cdv A outer s H E hr=>⟨_,(Jf (Jk (J1 (dl Jd) (dl (Jl (dl (Ja 0)) (dl Jd)))))),?_⟩
 intro ts n R hl hh;obtain⟨i,h,rfl,g0,g1,hh⟩:=hh
 wp_walk
 ·exact cpow (by lia) (by lia)
 ·rw[Qz];exact hh
theorem zl7:FnScope ["block","height"] ["block","height"] (Jj (top 6)):=⟨rfl,rfl,rfl,by decide +kernel,rfl,by decide +kernel,by decide +kernel⟩
def zkC:GD:=fun ts n R=>∃i h g:Int,ts=[.tuple [.int i,.int h],.int g]/\0<=g/\g<=1000/\0<=i/\i<2 ^ 64/\R (.tuple [.int (i / 2 ^ g.toNat*2 ^ g.toNat),.int g]) n
theorem zpp{i h g:Int}{n:Nat}{R:qN}(g0:0<=g)(g1:g<=1000)(i0:0<=i)(i1:i<2 ^ 64)(h':R (.tuple [.int (i / 2 ^ g.toNat*2 ^ g.toNat),.int g]) n):zkC [.tuple [.int i,.int h],.int g] n R:=⟨_,_,_,rfl,g0,g1,i0,i1,h'⟩
def zj_(Z:ZZ):Prop:=FQ Z "around" (top 6) ["block","height"] 1 (spD Z.K 2 zkC)
theorem zmL(D:Dq Z.K Z.mg "around" (top 6) ["block","height"]) (T:Txt Z.mg):zj_ Z:=by
 refine' okQ D zl7 rfl fun f cdv A outer s H E hr=>⟨_,(Jf (Jk (JI (Jb (J1 (dl (ztS (dl (Jl (dl (Ja 0)) (dl Jd))) (dl (Ja 1)))) (dl (Ja 1))) (Jb (Ja 1) Je Jc) JP)))),?_⟩
 intro ts n R hl hh;obtain⟨i,h,g,rfl,g0,g1,i0,i1,hh⟩:=hh;simp only[Zb,Za,Zc,Y9,u_dC,YY,Ze,Zg,Zf,Zm,YX,Zt,Zv,Zo,Zn,Zu,Y8,Y4,YE,Yv,Yw,Yx,YD,Yy,YI,U9,Ya,oSub,oMul,oMod,Ug,oShl,oShr,oXor,oAnd,isNone,isInt,isBool,isTup,isStr,l_gI,YT,Yb,Yc,Yd,UO,UQ,UR,UP,U0,U2,U1,UT,UU,YA,YB,US,UX,UV,UW,Yi,Yj,Yk,Yf,Yg,Yh,Yo,Yp,UN,Yl,Yn,Ym,YG,UZ,UY,Ye,YH,YC,YF,QV,QU,Q7,Q8,Ub,Uc,Ua,okd_pair,J6,JE,capV,List.map_cons,List.map_nil,List.length_cons,List.length_nil,List.replicate_succ,List.replicate_zero,List.cons_append,List.nil_append,List.append_nil,List.getElem?_cons_succ,List.getElem?_cons_zero,List.set_cons_succ,List.set_cons_zero,List.getD_cons_succ,List.getD_cons_zero,Nat.zero_add,Nat.reduceAdd,Nat.reduceSub,Nat.sub_self,true_and,and_true,Bool.false_eq_true,if_true,if_false,ite_true,ite_false,Bool.not_true,Bool.not_false,Int.natCast_zero]
 refine⟨g0,⟨g0,by lia,?_⟩,hh⟩
 have:i / 2 ^ g.toNat<=i:=Int.ediv_le_self _ i0;have:0<=i / 2 ^ g.toNat:=Int.ediv_nonneg i0 (Int.le_of_lt (Qj _));lia
theorem zok:FnScope ["one","other"] ["one","other"] (Jj (top 4)):=⟨rfl,rfl,rfl,by decide +kernel,rfl,by decide +kernel,by decide +kernel⟩
def zni:GD:=fun ts n R=>∃i h j g:Int,ts=[.tuple [.int i,.int h],.tuple [.int j,.int g]]/\0<=h/\h<=1000/\0<=j/\j<2 ^ 64/\R (.bool (hldD i h j g)) n
theorem znP{i h j g:Int}{n:Nat}{R:qN}(h0:0<=h)(h1:h<=1000)(j0:0<=j)(j1:j<2 ^ 64)(h':R (.bool (hldD i h j g)) n):zni [.tuple [.int i,.int h],.tuple [.int j,.int g]] n R:=⟨_,_,_,_,rfl,h0,h1,j0,j1,h'⟩
def zmf(Z:ZZ):Prop:=FQ Z "holds" (top 4) ["one","other"] 2 (spD Z.K 2 zni)
theorem zoP(D:Dq Z.K Z.mg "holds" (top 4) ["one","other"]) (h_around:zj_ Z) (T:Txt Z.mg):zmf Z:=by
 refine' okQ D zok rfl fun f cdv A outer s H E hr=>⟨_,(Jf (Jk (QH (JZ zsz gp_B (dl (Jl (dl (Ja 0)) (dl Jd))) (dl (Jl (dl (Ja 1)) (dl Jd))) (Jo _)) (QP (JZ (QC hr) QA (dl (Jg h_around hr (Jb (Ja 1) (Jb (Jl (dl (Ja 0)) (dl Jd)) Je Q5) Jc))) (dl (Ja 0)) (Jo _)))))),?_⟩
 intro ts n R hl hh;obtain⟨i,h,j,g,rfl,g0,g1,j0,j1,hh⟩:=hh;unfold hldD at hh
 wp_walk using zpp g0 g1 j0 j1 ?_
 ·exact okd_pair
 ·exact okd_pair
 ·rw[decide_eq_true hc,Bool.true_and]at hh;rw[zkH];simpa using hh
 ·rw[decide_eq_false hc,Bool.false_and]at hh;exact hh
theorem zol:FnScope ["one","other"] ["one","other"] (Jj (top 5)):=⟨rfl,rfl,rfl,by decide +kernel,rfl,by decide +kernel,by decide +kernel⟩
def zjM:GD:=fun ts n R=>∃i h j g:Int,ts=[.tuple [.int i,.int h],.tuple [.int j,.int g]]/\0<=h/\h<=1000/\0<=g/\g<=1000/\0<=i/\i<2 ^ 64/\0<=j/\j<2 ^ 64/\R (.bool (!hldD i h j g&&!hldD j g i h)) n
theorem znQ{i h j g:Int}{n:Nat}{R:qN}(h0:0<=h)(h1:h<=1000)(g0:0<=g)(g1:g<=1000)(i0:0<=i)(i1:i<2 ^ 64)(j0:0<=j)(j1:j<2 ^ 64)(h':R (.bool (!hldD i h j g&&!hldD j g i h)) n):zjM [.tuple [.int i,.int h],.tuple [.int j,.int g]] n R:=⟨_,_,_,_,rfl,h0,h1,g0,g1,i0,i1,j0,j1,h'⟩
def ziW(Z:ZZ):Prop:=FQ Z "apart" (top 5) ["one","other"] 3 (spD Z.K 2 zjM)
theorem zoQ(D:Dq Z.K Z.mg "apart" (top 5) ["one","other"]) (h_holds:zmf Z) (T:Txt Z.mg):ziW Z:=by
 refine' okQ D zol rfl fun f cdv A outer s H E hr=>⟨_,(Jf (Jk (QH (VQ (Jg h_holds hr (Jb (Ja 0) (Jb (Ja 1) Je Jc) Jc))) (QP (VQ (Jg h_holds hr (Jb (Ja 1) (Jb (Ja 0) Je Jc) Jc))))))),?_⟩
 intro ts n R hl hh;obtain⟨i,h,j,g,rfl,h0,h1,g0,g1,i0,i1,j0,j1,hh⟩:=hh
 wp_walk using znP h0 h1 j0 j1 ?_,znP g0 g1 i0 i1 ?_
 ·rw[hc,Bool.not_true,Bool.false_and]at hh;exact hh
 ·rw[hc,Bool.not_false,Bool.true_and]at hh;exact hh
theorem zct:FnScope ["block","begin","height"] ["block"] (Jj (top 7)):=⟨rfl,rfl,rfl,by decide +kernel,rfl,by decide +kernel,by decide +kernel⟩
def zex:GD:=fun ts n R=>∃i h:Int,ts=[.tuple [.int i,.int h]]/\0<=h/\h<=1000/\R (.tuple [.int (Builtin.bitXor i (2 ^ h.toNat)),.int h]) n
theorem ziE{i h:Int}{n:Nat}{R:qN}(g0:0<=h)(g1:h<=1000)(h':R (.tuple [.int (Builtin.bitXor i (2 ^ h.toNat)),.int h]) n):zex [.tuple [.int i,.int h]] n R:=⟨_,_,rfl,g0,g1,h'⟩
def zeq(Z:ZZ):Prop:=FQ Z "other_half" (top 7) ["block"] 1 (spD Z.K 1 zex)
theorem zgH(D:Dq Z.K Z.mg "other_half" (top 7) ["block"]) (T:Txt Z.mg):zeq Z:=by
 refine' okQ D zct rfl fun f cdv A outer s H E hr=>⟨_,(Jh (QQ (Ja 0) (JJ rfl (Jn (Ji (i:=1) zct.nd rfl (Or.inl rfl)) (Jn (Ji (i:=2) zct.nd rfl (Or.inl rfl)) JH)))) (Jf (Jk (JI (Jb (zpR (dl (Ja 1)) (dl (J1 (dl Jd) (dl (Ja 2))))) (Jb (Ja 2) Je Jc) JP))))),?_⟩
 intro ts n R hl hh;obtain⟨i,h,rfl,g0,g1,hh⟩:=hh;simp only[Zb,Za,Zc,Y9,u_dC,YY,Ze,Zg,Zf,Zm,YX,Zt,Zv,Zo,Zn,Zu,Y8,Y4,YE,Yv,Yw,Yx,YD,Yy,YI,U9,Ya,oSub,oMul,oMod,Ug,oShl,oShr,oXor,oAnd,isNone,isInt,isBool,isTup,isStr,l_gI,YT,Yb,Yc,Yd,UO,UQ,UR,UP,U0,U2,U1,UT,UU,YA,YB,US,UX,UV,UW,Yi,Yj,Yk,Yf,Yg,Yh,Yo,Yp,UN,Yl,Yn,Ym,YG,UZ,UY,Ye,YH,YC,YF,QV,QU,Q7,Q8,Ub,Uc,Ua,okd_pair,J6,JE,capV,List.map_cons,List.map_nil,List.length_cons,List.length_nil,List.replicate_succ,List.replicate_zero,List.cons_append,List.nil_append,List.append_nil,List.getElem?_cons_succ,List.getElem?_cons_zero,List.set_cons_succ,List.set_cons_zero,List.getD_cons_succ,List.getD_cons_zero,Nat.zero_add,Nat.reduceAdd,Nat.reduceSub,Nat.sub_self,true_and,and_true,Bool.false_eq_true,if_true,if_false,ite_true,ite_false,Bool.not_true,Bool.not_false,Int.natCast_zero]
 refine⟨cpow g0 (by lia),?_⟩
 rw[Int.one_mul];exact hh
theorem zk6:FnScope ["thing"] ["thing"] (Jj (top 9)):=⟨rfl,rfl,rfl,by decide +kernel,rfl,by decide +kernel,by decide +kernel⟩
def ziq:GD:=fun ts n R=>∃d,ts=[d]/\PlnD d/\R (.bool (nmD d)) n
theorem znO{d:PyData}{n:Nat}{R:qN}(p:PlnD d)(h:R (.bool (nmD d)) n):ziq [d] n R:=⟨d,rfl,p,h⟩
def zhF(Z:ZZ):Prop:=FQ Z "is_name" (top 9) ["thing"] 1 (spD Z.K 1 ziq)
theorem zlh(D:Dq Z.K Z.mg "is_name" (top 9) ["thing"]) (T:Txt Z.mg):zhF Z:=by
 refine' okQ D zk6 rfl fun f cdv A outer s H E hr=>⟨_,(Jh (Jy (Qm (Uh (J7 (J3 (dl (UF ztB T.isi T.str znS (dl (Ja 0)) Jc)))) (Uk (J7 (zg8 Qd Qc Qd Qc (dl Jd) (dl (JB QE QB T.len Qy (Jp (dl (Ja 0)) Jq Jc))) (dl Jd)))))) (Jf (Jk JR)) JC) (Jf (Jk (JB (Ut rfl) Ul T.all Us (Jp (dl (Js (JT (own:=["letter"]) (capt:=[]) rfl (CompScope.of rfl) (dil (ztQ (Ja 0))) (fun _ _ _ _=>(Ji (i:=0) (by show(["letter"]:List Str).Nodup;decide +kernel) rfl (Or.inl rfl))) (by decide) (fun _ _ _ _=>JW) (fun _ _ _ _=>(zkN Qd Qc Qd Qc (dl Ui) (dl (Ja 0)) (dl Ui)))))) Jq J9))))),?_⟩
 intro ts n R hl h;obtain⟨d,rfl,p,h⟩:=h;cases d with
 | str z =>
  have hz:=p.str;have ea:(Str.ofString "a").cps.toList=[97]:=by decide +kernel
  have ez:(Str.ofString "z").cps.toList=[122]:=by decide +kernel
  have e:nmD (.str z)=(decide (1<=z.length)&&decide (z.length<=8)&&z.cps.toList.all fun c=>decide (97<=c)&&decide (c<=122)):=rfl
  rw[e]at h
  wp_walk
  ·lia
  ·refine Qs (cs:=z.cps.toList) (D:=fun c=>.str ⟨#[c]⟩) (fun c=>.bool (decide (97<=c)&&decide (c<=122))) (by rw[Qv];lia) ?_ ?_
   ·intro c hc' K2 X2 hK2
    wp_walk
    ·have z:c<97:=zmE.mp (show([c]:List Nat)<[97] from ea▸hc)
     rw[decide_eq_false (show ¬97<=c by lia),Bool.false_and]at hK2
     exact hK2
    ·have z:¬c<97:=fun y=>hc (ea.symm▸zmE.mpr y)
     rw[decide_eq_true (show 97<=c by lia),Bool.true_and]at hK2
     have e2:(!decide ((Str.ofString "z").cps.toList<(⟨#[c]⟩:Str).cps.toList))=decide (c<=122):=by
      rw[ez];exact zqF
     rw[e2];exact hK2
   ·wp_walk using Um ?_
    have h1:1<=z.length:=by lia
    have h8:z.length<=8:=by lia
    rw[decide_eq_true h1,decide_eq_true h8]at h;exact h
  ·have h8:¬z.length<=8:=by lia
   rw[decide_eq_false h8,Bool.and_false,Bool.false_and]at h;exact h
  ·have h1:¬1<=z.length:=by lia
   rw[decide_eq_false h1,Bool.false_and,Bool.false_and]at h;exact h
 | dict ks =>
  cases ks with
  | nil =>
   wp_walk
   exact h
  | cons a b=>exact absurd rfl (PlnD.pln p)
 | _ =>
  wp_walk
  exact h
theorem zl6:FnScope ["block"] ["block"] (Jj (top 20)):=⟨rfl,rfl,rfl,by decide +kernel,rfl,by decide +kernel,by decide +kernel⟩
def zkB:GD:=fun ts n R=>∃i h:Int,ts=[.tuple [.int i,.int h]]/\0<=h/\h<=1000/\R (.int (i+2 ^ h.toNat)) n
theorem YJ{i h:Int}{n:Nat}{R:qN}(g0:0<=h)(g1:h<=1000)(h':R (.int (i+2 ^ h.toNat)) n):zkB [.tuple [.int i,.int h]] n R:=⟨_,_,rfl,g0,g1,h'⟩
def Zr(Z:ZZ):Prop:=FQ Z "end_of" (top 20) ["block"] 2 (spD Z.K 1 zkB)
theorem zmK(D:Dq Z.K Z.mg "end_of" (top 20) ["block"]) (h_size_of:zeY Z) (T:Txt Z.mg):Zr Z:=by
 refine' okQ D zl6 rfl fun f cdv A outer s H E hr=>⟨_,(Jf (Jk (JN (dl (Jl (dl (Ja 0)) (dl Jd))) (dl (Jg h_size_of hr (Jb (Ja 0) Je Jc)))))),?_⟩
 intro ts n R hl hh;obtain⟨i,h,rfl,g0,g1,hh⟩:=hh
 wp_walk using ziD ?_ ?_ ?_
 ·lia
 ·lia
 ·exact hh
theorem ziT:FnScope ["bits","thing"] ["bits","thing"] (Jj (top 11)):=⟨rfl,rfl,rfl,by decide +kernel,rfl,by decide +kernel,by decide +kernel⟩
def IsPt(bits:Int)(d:PyData):Prop:=∃bs:List (Int×Int),d=.tuple (pD bs)/\Ptc bits bs
def Pl3(d:PyData):Prop:=Pln d/\∀ts,d=.tuple ts->ts.length<=1000000/\∀t∈ts,Pl2 t
theorem znU{bits:Int}(b0:0<=bits):∀(ts:qD),ts.all (Qg bits)=true->∃bs,ts=pD bs/\Bks bits bs
 | [],_=>⟨[],rfl,fun b hb=>nomatch hb⟩
 | t::ts,h=>by
  rw[List.all_cons,Bool.and_eq_true]at h;obtain⟨bs,rfl,B⟩:=znU b0 ts h.2;have h1:=h.1;unfold Qg at h1;split at h1
  ·rename_i b g;have:=(zii b0).mp (show Qg bits (.tuple [.int b,.int g])=true from h1)
   refine⟨(b,g)::bs,rfl,fun c hc=>?_⟩
   rcases List.mem_cons.mp hc with rfl|hc
   ·exact this
   ·exact B c hc
  ·cases h1
theorem zpA:∀{bs cs:qB},pD bs=pD cs->bs=cs
 | [],[],_=>rfl
 | [],_::_,h=>by cases h
 | _::_,[],h=>by cases h
 | (a,b)::bs,(c,d)::cs,h=>by
  simp only[pD,List.map_cons,List.cons.injEq,PyData.tuple.injEq,PyData.int.injEq,and_true]at h;obtain⟨⟨rfl,rfl⟩,h⟩:=h;rw[zpA h]
def zgh:GD:=fun ts n R=>∃(bits:Int) (d:PyData),ts=[.int bits,d]/\0<=bits/\bits<=64/\Pl3 d/\∀b:Bool,(b=true↔IsPt bits d)->R (.bool b) n
theorem zlL{bits:Int}{d:PyData}{n:Nat}{R:qN}(b0:0<=bits)(b1:bits<=64)(p:Pl3 d)(h:∀b:Bool,(b=true↔IsPt bits d)->R (.bool b) n):zgh [.int bits,d] n R:=⟨bits,d,rfl,b0,b1,p,h⟩
def zf7(Z:ZZ):Prop:=FQ Z "is_patch" (top 11) ["bits","thing"] 3 (spD Z.K 2 zgh)
theorem zi6(D:Dq Z.K Z.mg "is_patch" (top 11) ["bits","thing"]) (h_is_block:zf8 Z) (h_end_of:Zr Z) (T:Txt Z.mg):zf7 Z:=by
 refine' okQ D ziT rfl fun f cdv A outer s H E hr=>⟨_,(Jh (Jy (J7 (J3 (dl (UF Z0 T.isi T.tup Qq (dl (Ja 1)) Jc)))) (Jf (Jk JR)) JC) (Jh (Jy (J7 (J3 (dl (JB (Ut rfl) Ul T.all Us (Jp (dl (Js (JT (own:=["block"]) (capt:=[0]) rfl (CompScope.of rfl) (dil (Qo (Ja 1))) (fun _ _ _ _=>(Ji (i:=0) (by show(["block","bits"]:List Str).Nodup;decide +kernel) rfl (Or.inl rfl))) (by decide) (fun _ _ _ _=>JW) (fun _ _ _ _=>(Jg h_is_block hr (Jb (Ja 1) (Jb (Ja 0) Je Jc) Jc)))))) Jq J9))))) (Jf (Jk JR)) JC) (Jf (Jk (JB (Ut rfl) Ul T.all Us (Jp (dl (Js (JT (own:=["one","other"]) (capt:=[]) rfl (CompScope.of rfl) (dil (zns T.zip (Ja 1) (Zp (dl (Ja 1)) (UH Jd) UG))) (fun _ _ _ _=>(JJ rfl (Jn (Ji (i:=0) (by show(["one","other"]:List Str).Nodup;decide +kernel) rfl (Or.inl rfl)) (Jn (Ji (i:=1) (by show(["one","other"]:List Str).Nodup;decide +kernel) rfl (Or.inl rfl)) JH)))) (by decide) (fun _ _ _ _=>JW) (fun _ _ _ _=>(JZ Qd Qc (dl (Jg h_end_of hr (Jb (Ja 0) Je Jc))) (dl (Jl (dl (Ja 1)) (dl Jd))) (Jo _)))))) Jq J9)))))),?_⟩
 intro ts n R hl h;obtain⟨bits,d,rfl,b0,b1,⟨p,p3⟩,h⟩:=h;cases d with
 | dict ks =>
  cases ks with
  | nil =>
   have h:=h false ⟨fun z=>(by cases z),fun⟨bs,e,_⟩=>(by cases e)⟩
   wp_walk
   exact h
  | cons a b=>exact absurd rfl p
 | tuple ts =>
  obtain⟨l6,p3⟩:=p3 ts rfl
  wp_walk
  refine zgm (fun t=>.bool (Qg bits t)) (by lia) ?_ ?_
  ·intro t ht K2 X2 hK2
   wp_walk using zlN b0 b1 (p3 t ht) ?_
   exact hK2
  ·wp_walk using Um ?_
   ·obtain⟨bs,rfl,B⟩:=znU b0 ts hc;rw[zha,zlS];rw[Jz]at l6;refine Qs (cs:=bs.zip bs.tail) (D:=fun q:(Int×Int)×(Int×Int)=>.tuple [prD q.1,prD q.2]) (fun q:(Int×Int)×(Int×Int)=>.bool (decide (eB q.1<=q.2.1))) (by rw[List.length_zip];lia) ?_ ?_
    ·rintro⟨⟨i,g⟩,⟨j,k⟩⟩ hq K2 X2 hK2;have hm:=B _ (List.of_mem_zip hq).1;have g0:0<=g:=hm.1;have g1:g<=bits:=hm.2.1
     wp_walk using YJ ?_ ?_ ?_
     ·exact g0
     ·exact(show g<=1000 by lia)
     ·exact hK2
    ·wp_walk using Um ?_
     refine h _ ?_;rw[List.all_eq_true];constructor
     ·intro al;exact⟨bs,rfl,B,(VX (bits:=bits)).mp fun q hq=>by simpa using al q hq⟩
     ·rintro⟨cs,e,P⟩ q hq;have e':bs=cs:=zpA (by simpa using e)
      subst e';simpa using(VX (bits:=bits)).mpr P.2 q hq
   ·rename_i hc;refine h false ⟨fun z=>(by cases z),fun⟨bs,e,P⟩=>?_⟩
    cases e;have:(pD bs).all (Qg bits)=true:=by
     rw[List.all_eq_true];intro x hx;obtain⟨b,hb,rfl⟩:=List.mem_map.mp hx;exact(zii b0).mpr (P.1 b hb)
    rw[this]at hc;cases hc
 | _ =>
  have h:=h false ⟨fun z=>(by cases z),fun⟨bs,e,_⟩=>(by cases e)⟩
  wp_walk
  exact h
theorem zhv:FnScope ["patch"] ["patch"] (Jj (top 12)):=⟨rfl,rfl,rfl,by decide +kernel,rfl,by decide +kernel,by decide +kernel⟩
def fewD(bs:qB):Bool:=!(bs.zip bs.tail).any fun q=>decide (Builtin.bitXor q.1.1 (2 ^ q.1.2.toNat)=q.2.1/\q.1.2=q.2.2)
def zfx:GD:=fun ts n R=>∃(bs:qB),ts=[.tuple (pD bs)]/\(∀b∈bs,0<=b.2/\b.2<=64)/\bs.length<=1000000/\R (.bool (fewD bs)) n
theorem zjT{bs:qB}{n:Nat}{R:qN}(hb:∀b∈bs,0<=b.2/\b.2<=64)(hl:bs.length<=1000000)(h:R (.bool (fewD bs)) n):zfx [.tuple (pD bs)] n R:=⟨bs,rfl,hb,hl,h⟩
def ze0(Z:ZZ):Prop:=FQ Z "is_fewest" (top 12) ["patch"] 2 (spD Z.K 1 zfx)
theorem zhO(D:Dq Z.K Z.mg "is_fewest" (top 12) ["patch"]) (h_other_half:zeq Z) (T:Txt Z.mg):ze0 Z:=by
 refine' okQ D zhv rfl fun f cdv A outer s H E hr=>⟨_,(Jf (Jk (VQ (JB (znK rfl) ztF T.any znT (Jp (dl (Js (JT (own:=["one","other"]) (capt:=[]) rfl (CompScope.of rfl) (dil (zns T.zip (Ja 0) (Zp (dl (Ja 0)) (UH Jd) UG))) (fun _ _ _ _=>(JJ rfl (Jn (Ji (i:=0) (by show(["one","other"]:List Str).Nodup;decide +kernel) rfl (Or.inl rfl)) (Jn (Ji (i:=1) (by show(["one","other"]:List Str).Nodup;decide +kernel) rfl (Or.inl rfl)) JH)))) (by decide) (fun _ _ _ _=>JW) (fun _ _ _ _=>(JZ (QC hr) QA (dl (Jg h_other_half hr (Jb (Ja 0) Je Jc))) (dl (Ja 1)) (Jo _)))))) Jq J9))))),?_⟩
 intro ts n R hl h;obtain⟨bs,rfl,hb,hl6,h⟩:=h
 wp_walk
 rw[zha,zlS];refine Qs (cs:=bs.zip bs.tail) (D:=fun q:(Int×Int)×(Int×Int)=>.tuple [prD q.1,prD q.2]) (fun q:(Int×Int)×(Int×Int)=>.bool (decide (Builtin.bitXor q.1.1 (2 ^ q.1.2.toNat)=q.2.1/\q.1.2=q.2.2))) (by rw[List.length_zip];lia) ?_ ?_
 ·rintro⟨⟨i,g⟩,⟨j,k⟩⟩ hq K2 X2 hK2;have hm:=hb _ (List.of_mem_zip hq).1;have g0:0<=g:=hm.1;have g1:g<=64:=hm.2
  wp_walk using ziE ?_ ?_ ?_
  ·exact g0
  ·exact(show g<=1000 by lia)
  ·exact okd_pair
  ·exact okd_pair
  ·rw[zkH];have e:(decide (Builtin.bitXor i (2 ^ g.toNat)=j)&&decide (g=k))=decide (Builtin.bitXor i (2 ^ g.toNat)=j/\g=k):=by simp
   exact(show K2 (.bool (decide (Builtin.bitXor i (2 ^ g.toNat)=j)&&decide (g=k))) n from e▸hK2)
 ·wp_walk using ztA ?_
  exact h
theorem ziU:FnScope ["patch"] ["patch"] (Jj (top 13)):=⟨rfl,rfl,rfl,by decide +kernel,rfl,by decide +kernel,by decide +kernel⟩
def zgj:GD:=fun ts n R=>∃(bs:qB),ts=[.tuple (pD bs)]/\(∀b∈bs,0<=b.2/\b.2<=64)/\bs.length<=1000000/\R (.int (bs.map fun b=>(2:Int) ^ b.2.toNat).sum) n
theorem zlP{bs:qB}{n:Nat}{R:qN}(hb:∀b∈bs,0<=b.2/\b.2<=64)(hl:bs.length<=1000000)(h:R (.int (bs.map fun b=>(2:Int) ^ b.2.toNat).sum) n):zgj [.tuple (pD bs)] n R:=⟨bs,rfl,hb,hl,h⟩
def zf_(Z:ZZ):Prop:=FQ Z "count_of" (top 13) ["patch"] 2 (spD Z.K 1 zgj)
theorem zi_(D:Dq Z.K Z.mg "count_of" (top 13) ["patch"]) (h_size_of:zeY Z) (T:Txt Z.mg):zf_ Z:=by
 refine' okQ D ziU rfl fun f cdv A outer s H E hr=>⟨_,(Jf (Jk (JB (znI rfl) ztD T.sum znR (Jp (dl (Js (JT (own:=["block"]) (capt:=[]) rfl (CompScope.of rfl) (dil (Qo (Ja 0))) (fun _ _ _ _=>(Ji (i:=0) (by show(["block"]:List Str).Nodup;decide +kernel) rfl (Or.inl rfl))) (by decide) (fun _ _ _ _=>JW) (fun _ _ _ _=>(Jg h_size_of hr (Jb (Ja 0) Je Jc)))))) Jq J9)))),?_⟩
 intro ts n R hl h;obtain⟨bs,rfl,hb,hl6,h⟩:=h
 wp_walk
 refine Qs (cs:=bs) (D:=prD) (fun b=>.int (2 ^ b.2.toNat)) (by lia) ?_ ?_
 ·rintro⟨i,g⟩ hq K2 X2 hK2;have hm:=hb _ hq;have g0:0<=g:=hm.1;have g1:g<=64:=hm.2
  wp_walk using ziD ?_ ?_ ?_
  ·exact g0
  ·exact(show g<=1000 by lia)
  ·exact hK2
 ·wp_walk using zv5 ?_
  exact h
theorem zb8:FnScope ["begin","high","room"] ["begin","high"] (Jj (top 21)):=⟨rfl,rfl,rfl,by decide +kernel,rfl,by decide +kernel,by decide +kernel⟩
theorem zlF{hi:Int}(h:0<hi):QK 0 hi hi.toNat.log2:=⟨by simp,by have:=zm2 h;lia,fun z=>by have:=zmY h;have:=z.2;lia⟩
theorem znh{lo hi:Int}{t:Nat}(h:lo<hi)(h1:lo % 2 ^ t=0)(h2:¬lo % 2 ^ (t+1)=0):QK lo hi (min (hi - lo).toNat.log2 t):=by
 have a:=zm2 (i:=hi - lo) (by lia)
 have b:=zmY (i:=hi - lo) (by lia)
 rcases Nat.le_total (hi - lo).toNat.log2 t with z|z
 ·rw[Nat.min_eq_left z];exact⟨YR z h1,a,fun y=>by have:=y.2;lia⟩
 ·rw[Nat.min_eq_right z];exact⟨h1,Int.le_trans (Uu z) a,fun y=>h2 y.1⟩
theorem zoZ(t:Nat):((2:Int) ^ t).toNat.log2=t:=by
 have e:((2:Int) ^ t).toNat=2 ^ t:=by
  have:((2 ^ t:Nat):Int)=(2:Int) ^ t:=by rw[Int.natCast_pow];rfl
  rw[<- this];rfl
 rw[e,Nat.log2_two_pow]
def zco:GD:=fun ts n R=>∃lo hi:Int,ts=[.int lo,.int hi]/\0<=lo/\lo<hi/\∀g:Nat,QK lo hi g->R (.int g) n
theorem zen{lo hi:Int}{n:Nat}{R:qN}(l0:0<=lo)(l1:lo<hi)(h:∀g:Nat,QK lo hi g->R (.int g) n):zco [.int lo,.int hi] n R:=⟨lo,hi,rfl,l0,l1,h⟩
def zcj(Z:ZZ):Prop:=FQ Z "greatest_height" (top 21) ["begin","high"] 1 (spD Z.K 2 zco)
theorem zdN(D:Dq Z.K Z.mg "greatest_height" (top 21) ["begin","high"]) (T:Txt Z.mg):zcj Z:=by
 refine' okQ D zb8 rfl fun f cdv A outer s H E hr=>⟨_,(Jh (Jx (i:=2) zb8.nd rfl (Or.inl rfl) (Uj (dl (zit (dl (Uj (dl (Ja 1)) (dl (Ja 0)))))) (dl Jd))) (Jh (Jy (Jt (QC hr) QA (dl (Ja 0)) (dl Jd) (Jo _)) (Jf (Jk (Ja 2))) JC) (Jf (Jk (JB (Wi rfl) Vp T.min Wg (Jp (dl (Ja 2)) (Jp (dl (Uj (dl (zit (dl (ztW (dl (Ja 0)) (dl (ZM (Ja 0))))))) (dl Jd))) Jq JP) Jc)))))),?_⟩
 intro ts n R hl h;obtain⟨lo,hi,rfl,l0,l1,h⟩:=h;have room:=zfw (i:=hi - lo) (by lia)
 wp_walk
 ·rw[room];subst hc;have:=h _ (zlF l1);rw[Int.sub_zero];exact this
 ·obtain⟨t,t1,t2⟩:=zuK (b:=lo) (by lia)
  have an:=zrl (b:=lo) (by lia) t1 t2
  have lb:=zfw (i:=(2:Int) ^ t) (Qj t);rw[zoZ]at lb;rw[an,room,lb];have:=h _ (znh l1 t1 t2);have e:(if (t:Int)<((hi - lo).toNat.log2:Int) then(t:Int) else((hi - lo).toNat.log2:Int))=((min (hi - lo).toNat.log2 t:Nat):Int):=by
   split <;> lia
  rw[e];exact this
theorem ZW:FnScope ["low","high","blocks","begin","block"] ["low","high"] (Jj (top 15)):=⟨rfl,rfl,rfl,by decide +kernel,rfl,by decide +kernel,by decide +kernel⟩
def ZN:GD:=fun ts n R=>∃lo hi:Int,ts=[.int lo,.int hi]/\0<=lo/\lo<=hi/\hi<=2 ^ 64/\∀bs,Ju lo hi bs->R (.tuple (pD bs)) n
theorem ztZ{lo hi:Int}{n:Nat}{R:qN}(l0:0<=lo)(l1:lo<=hi)(l2:hi<=2 ^ 64)(h:∀bs,Ju lo hi bs->R (.tuple (pD bs)) n):ZN [.int lo,.int hi] n R:=⟨lo,hi,rfl,l0,l1,l2,h⟩
def zpy(Z:ZZ):Prop:=FQ Z "span" (top 15) ["low","high"] 3 (spD Z.K 2 ZN)
theorem zqv(D:Dq Z.K Z.mg "span" (top 15) ["low","high"]) (h_end_of:Zr Z) (h_greatest_height:zcj Z) (T:Txt Z.mg):zpy Z:=by
 refine' okQ D ZW rfl fun f cdv A outer s H E hr=>⟨_,(Jh (QR (i:=2) ZW.nd rfl (Or.inl rfl) (JS Je)) (Jh (Jx (i:=3) ZW.nd rfl (Or.inl rfl) (Ja 0)) (Jh (VZ PassesOwn.never (Jt (J5 hr) J4 (dl (Ja 3)) (dl (Ja 1)) (Jo _)) (Jh (Jx (i:=4) ZW.nd rfl (Or.inl rfl) (JI (Jb (Ja 3) (Jb (Jg h_greatest_height hr (Jb (Ja 3) (Jb (Ja 1) Je Jc) Jc)) Je Jv) Jc))) (Jh (QJ 2 (Ja 4)) (Jf (Jx (i:=3) ZW.nd rfl (Or.inl rfl) (Jg h_end_of hr (Jb (Ja 4) Je Jc))))))) (Uf 2 (Jf (Jk (QM Ue Q9 T.tup Qq (Jp (dl (Ja 2)) Jq Jc)))))))),?_⟩
 intro ts n R hl h;obtain⟨lo,hi,rfl,l0,l1,l2,h⟩:=h;obtain⟨all,A⟩:=zl0 _ lo hi (Nat.le_refl _) l1;have al:=A.len l0 l2
 wp_walk
 refine ziM (fun m ρ n'=>n'=n/\∃(bs rest:qB) (be:Int) (c4:Option Cell),ρ=[some (.val (.int lo)),some (.val (.int hi)),some (.own (pD bs)),some (.val (.int be)),c4]/\all=bs++rest/\Ju be hi rest/\lo<=be/\m=rest.length) (m:=all.length) ⟨rfl,[],all,lo,_,rfl,rfl,A,Int.le_refl _,rfl⟩ ?_
 rintro m ρ n' NX RT BK ⟨rfl,bs,rest,be,c4,rfl,eall,S,lb,rfl⟩ hN hR hB
 wp_walk
 ·cases rest with
  | nil=>have:be=hi:=S;lia
  | cons b r =>
   obtain⟨s1,s2,s3,s4,s5⟩:=S;refine zen (by lia) hc fun g G=>?_
   have eg:b.2.toNat=g:=s4.uniq G;have eb:b=(be,(g:Int)):=Prod.ext s2 (by show b.2=(g:Int);lia)
   have gl:g<=64:=by
    rcases Nat.lt_or_ge 64 g with z|z
    ·have:=Uu (show 65<=g by lia)
     have:=G.2.1;have e:(2:Int) ^ 65=2*2 ^ 64:=by decide
     lia
    ·exact z
   wp_walk using YJ (by lia) (by lia) ?_
   ·rw[Jz];have:=congrArg List.length eall;rw[List.length_append]at this;lia
   ·refine hN r.length _ _ (by simp) ⟨rfl,bs++[b],r,be+2 ^ (g:Int).toNat,some (.val (.tuple [.int be,.int (g:Int)])),by rw[eb,<- Y7],by rw[eall];simp,?_,?_,rfl⟩
    ·rw[eg]at s5;simpa using s5
    ·have:=Qj (g:Int).toNat;lia
 ·have e:be=hi:=by have:=S.le;lia
  cases rest with
  | cons b r=>have:=S.1;lia
  | nil =>
   refine hB _ _ ?_
   wp_walk
   rw[List.append_nil]at eall;rw[<- eall];exact h _ A
theorem ziR:FnScope ["runs"] ["runs"] (Jj (top 22)):=⟨rfl,rfl,rfl,by decide +kernel,rfl,by decide +kernel,by decide +kernel⟩
def zgg:GD:=fun ts n R=>∃rs:List (Int×Int),ts=[.list (pD rs)]/\(∀r∈rs,0<=r.1/\r.1<=r.2/\r.2<=2 ^ 64)/\rs.length<=100000/\∀ps,PatS rs ps->R (.tuple (pD ps)) n
theorem V8{rs:qB}{n:Nat}{R:qN}(w:∀r∈rs,0<=r.1/\r.1<=r.2/\r.2<=2 ^ 64)(l:rs.length<=100000)(h:∀ps,PatS rs ps->R (.tuple (pD ps)) n):zgg [.list (pD rs)] n R:=⟨rs,rfl,w,l,h⟩
theorem zmw:∀{rs:qB},(∀r∈rs,r.1<=r.2)->∃ps,PatS rs ps
 | [],_=>⟨[],rfl⟩
 | r::rs,h=>by
  obtain⟨a,A⟩:=zl0 _ r.1 r.2 (Nat.le_refl _) (h r (by simp))
  obtain⟨b,B⟩:=zmw (rs:=rs) fun s hs=>h s (by simp[hs])
  exact⟨a++b,a,b,rfl,A,B⟩
theorem zkR{g:DTG}{d:DTE}{ρ1:En}{n:Nat}{Rl:List PyData->Nat->Prop}:∀(xs acc:qD),(∀x∈xs,∀K:PyData->Nat->Prop,K x n->g x ρ1 fun ρ2=>d ρ2 n K)->acc.length+xs.length<=16777216->Rl (acc++xs) n->JO g dYes d ρ1 xs acc n Rl
 | [],acc,_,_,h=>by simpa[JO] using h
 | x::xs,acc,hg,hl,h=>by
  have e:(fun ρ2=>dYes ρ2 n fun b n2=>if b=true then d ρ2 n2 fun t n3=>acc.length<16777216/\JO g dYes d ρ1 xs (acc++[t]) n3 Rl else JO g dYes d ρ1 xs acc n2 Rl)=fun ρ2=>d ρ2 n fun t n3=>acc.length<16777216/\JO g dYes d ρ1 xs (acc++[t]) n3 Rl:=by
   funext ρ2
   exact propext ⟨fun z=>by simpa[dYes] using z,fun z=>by simpa[dYes] using z⟩
  show g x ρ1 fun ρ2=>dYes ρ2 n fun b n2=>if b=true then d ρ2 n2 fun t n3=>acc.length<16777216/\JO g dYes d ρ1 xs (acc++[t]) n3 Rl else JO g dYes d ρ1 xs acc n2 Rl
  rw[e];refine hg x (by simp) _ ⟨by simp at hl;lia,zkR xs (acc++[x]) (fun y hy=>hg y (by simp[hy])) (by simp at hl ⊢;lia) (by simpa using h)⟩
def Wp(Z:ZZ):Prop:=FQ Z "patch_of" (top 22) ["runs"] 4 (spD Z.K 1 zgg)
theorem zi4(D:Dq Z.K Z.mg "patch_of" (top 22) ["runs"]) (h_span:zpy Z) (T:Txt Z.mg):Wp Z:=by
 refine' okQ D ziR rfl fun f cdv A outer s H E hr=>⟨_,(Jf (Jk (QM Ue Q9 T.tup Qq (Jp (dl (Js (zpl (own:=["low","high","block"]) (capt:=[]) rfl (CompScope.of rfl) (dil (zpO (Ja 0))) (fun _ _ _ _=>(JJ rfl (Jn (Ji (i:=0) (by show(["low","high","block"]:List Str).Nodup;decide +kernel) rfl (Or.inl rfl)) (Jn (Ji (i:=1) (by show(["low","high","block"]:List Str).Nodup;decide +kernel) rfl (Or.inl rfl)) JH)))) (by decide) (fun _ _ _ _=>JW) (fun _ _ _ _=>(Qo (Jg h_span hr (Jb (Ja 0) (Jb (Ja 1) Je Jc) Jc)))) (fun _ _ _ _=>(Ji (i:=2) (by show(["low","high","block"]:List Str).Nodup;decide +kernel) rfl (Or.inl rfl))) (by decide) (fun _ _ _ _=>JW) (fun _ _ _ _=>(Ja 2))))) Jq J9)))),?_⟩
 intro ts n R hl h;obtain⟨rs,rfl,w,l,h⟩:=h
 wp_walk
 have key:∀(rs:qB) (acc ps:qB),(∀r∈rs,0<=r.1/\r.1<=r.2/\r.2<=2 ^ 64)->acc.length+130*rs.length<=16777216->PatS rs ps->∀K:List PyData->Nat->Prop,K (pD (acc++ps)) n ->
   UE (U8 (Q6 (QD 0) (Q6 (QD 1) U7))) dYes (dItT (dFn ZN (QL (dVar 0) (QL (dVar 1) dNil)))) (QD 2) dYes (dVar 2) [none,none,none] (pD rs) (pD acc) n K:=by
  intro rs;induction rs with
  | nil =>
   intro acc ps _ _ P K hK;cases(show ps=[] from P)
   rw[List.append_nil]at hK;exact hK
  | cons r rs ih =>
   intro acc ps w la P K hK;obtain⟨a,b,rfl,Sa,Pb⟩:=P;have wr:=w r (by simp)
   have ll:=Sa.len wr.1 wr.2.2;show U8 (Q6 (QD 0) (Q6 (QD 1) U7)) (.tuple [.int r.1,.int r.2]) [none,none,none] fun ρ1=>dYes ρ1 n fun b n2=>if b=true then dItT (dFn ZN (QL (dVar 0) (QL (dVar 1) dNil))) ρ1 n2 fun ts n3=>JO (QD 2) dYes (dVar 2) ρ1 ts (pD acc) n3 fun acc' n4=>UE (U8 (Q6 (QD 0) (Q6 (QD 1) U7))) dYes (dItT (dFn ZN (QL (dVar 0) (QL (dVar 1) dNil)))) (QD 2) dYes (dVar 2) [none,none,none] (pD rs) acc' n4 K else _
   rw[List.length_cons]at la
   wp_walk using ztZ wr.1 wr.2.1 wr.2.2 (fun bs B=>?_)
   rw[B.uniq Sa];refine zkR _ _ (fun x hx K2 hK2=>?_) (by rw[Jz,Jz];lia) ?_
   ·wp_walk
    exact hK2
   ·rw[Y6];exact ih (acc++a) b (fun s hs=>w s (by simp[hs])) (by rw[List.length_append];lia) Pb K (by rw[List.append_assoc];exact hK)
 obtain⟨ps,P⟩:=zmw (rs:=rs) fun r hr=>(w r hr).2.1
 refine key rs [] ps w (by simp;lia) P _ ?_
 wp_walk
 exact h ps P
theorem Z7:FnScope ["blocks","runs","block","low","high"] ["blocks"] (Jj (top 23)):=⟨rfl,rfl,rfl,by decide +kernel,rfl,by decide +kernel,by decide +kernel⟩
theorem zm9{bits:Int}{bs:qB}{t:PyData}{Rl:List PyData->Prop}(ht:t=.list (pD bs)\/t=.tuple (pD bs))(hb:bits<=64)(B:Bks bits bs)(h64:bs.length<100000)
  (h:∀cs:List (Int×Int),cs.Perm bs->cs.Pairwise (fun a b=>a.1<=b.1)->Rl (pD cs)):ZJ t Rl:=by
 have key:(pD bs).length<100000/\(∀x∈pD bs,IsPr x)/\∀ts':List PyData,ts'.Perm (pD bs)->ts'.Pairwise (fun a b=>rkD a<=rkD b)->Rl ts':=by
  refine⟨by rw[Jz];exact h64,fun x hx=>?_,fun ts' pm pw=>?_⟩
  ·obtain⟨b,hb',rfl⟩:=List.mem_map.mp hx;have:=B b hb';exact⟨b.1,b.2,rfl,this.1,by have:=this.2.1;lia⟩
  ·have pm':ts'.Perm ((bs.map fun b=>(b,prD b)).map (·.2)):=by
    have:(bs.map fun b=>(b,prD b)).map (·.2)=pD bs:=by simp[pD]
    rw[this];exact pm
   obtain⟨zs,p1,p2⟩:=zgE pm';have ez:∀z∈zs,z.2=prD z.1:=fun z hz=>by
    obtain⟨b,_,rfl⟩:=List.mem_map.mp (p1.mem_iff.mp hz)
    rfl
   have e:ts'=pD (zs.map (·.1)):=by
    rw[<- p2];unfold pD;rw[List.map_map];exact List.map_congr_left fun z hz=>ez z hz
   have pc:(zs.map (·.1)).Perm bs:=by
    have:=p1.map (·.1);rw[List.map_map]at this;have e2:bs.map ((fun x:(Int×Int)×PyData=>x.1)∘fun b=>(b,prD b))=bs:=by
     show bs.map id=bs
     exact List.map_id _
    rwa [e2]at this
   rw[e];have B':Bks bits (zs.map (·.1)):=fun b hb=>B b (pc.mem_iff.mp hb)
   rw[e]at pw;unfold pD at pw;rw[List.pairwise_map]at pw;refine h _ pc (List.Pairwise.imp_of_mem ?_ pw);intro a b ha hb h2;have h2:a.1*1000+a.2<=b.1*1000+b.2:=h2;have a0:=(B' a ha).1;have a1:=(B' a ha).2.1;have b0:=(B' b hb).1;have b1:=(B' b hb).2.1;lia
 rcases ht with rfl|rfl <;> exact key
def zim:GD:=fun ts n R=>∃(bits:Int) (bs:qB) (t:PyData),ts=[t]/\(t=.list (pD bs)\/t=.tuple (pD bs))/\0<=bits/\bits<=64/\Bks bits bs/\bs.length<100000/\∀rs,NR rs->(∀x,mR x rs↔mB x bs)->rs.length<=bs.length->R (.list (pD rs)) n
theorem Z8{bits:Int}{bs:qB}{t:PyData}{n:Nat}{R:qN}(ht:t=.list (pD bs)\/t=.tuple (pD bs))(b0:0<=bits)(b1:bits<=64)(B:Bks bits bs)(l:bs.length<100000)(h:∀rs,NR rs->(∀x,mR x rs↔mB x bs)->rs.length<=bs.length->R (.list (pD rs)) n):zim [t] n R:=⟨bits,bs,t,rfl,ht,b0,b1,B,l,h⟩
def Wb(Z:ZZ):Prop:=FQ Z "runs_of" (top 23) ["blocks"] 3 (spD Z.K 1 zim)
theorem zle(D:Dq Z.K Z.mg "runs_of" (top 23) ["blocks"]) (h_end_of:Zr Z) (T:Txt Z.mg):Wb Z:=by
 refine' okQ D Z7 rfl fun f cdv A outer s H E hr=>⟨_,(Jh (QR (i:=1) Z7.nd rfl (Or.inl rfl) (JS Je)) (Jh (QZ PassesOwn.never rfl (Ur (Js (zfD hr T.srt (dl (Ja 0)) Jc))) (Ji (i:=2) Z7.nd rfl (Or.inl rfl)) (Jf (Jy (Qm (Y3 (J3 (Yt 1)) (Zh (Jt Qd Qc (dl (Jl (dl (Ja 2)) (dl Jd))) (dl (Jl (dl (Jl (Yt 1) (dl (ZM Jd)))) (dl Jd))) (Jo _))))) (Jh (QQ (Jl (Yt 1) (dl (ZM Jd))) (JJ rfl (Jn (Ji (i:=3) Z7.nd rfl (Or.inl rfl)) (Jn (Ji (i:=4) Z7.nd rfl (Or.inl rfl)) JH)))) (Jf (ztO 1 (ZM Jd) (JI (Jb (Ja 3) (Jb (JB (Wh rfl) Vo T.max Wf (Jp (dl (Ja 4)) (Jp (dl (Jg h_end_of hr (Jb (Ja 2) Je Jc))) Jq Jv) Jc)) Je Jv) Jc))))) (Jf (QJ 1 (JI (Jb (Jl (dl (Ja 2)) (dl Jd)) (Jb (Jg h_end_of hr (Jb (Ja 2) Je Jc)) Je Jv) Q5))))))) (Uf 1 (Jf (Jk (Ja 1)))))),?_⟩
 intro ts n R hl h;obtain⟨bits,bs,t,rfl,ht,b0,b1,B,l,h⟩:=h
 wp_walk
 refine zm9 ht b1 B l fun cs pm pw=>?_
 have Bc:Bks bits cs:=fun b hb=>B b (pm.mem_iff.mp hb)
 have lc:=pm.length_eq;refine VE 1 2 3 4 (fun k a1 _ _ _ m=>m=n/\∃rs:List (Int×Int),a1=some (.own (pD rs))/\NR rs/\(∀x,mR x rs↔mB x (cs.take k))/\rs.length<=k/\∀r∈rs,∀b∈cs.drop k,r.1<=b.1) ⟨rfl,[],rfl,⟨(fun r hr=>nomatch hr),.nil⟩,(fun x=>⟨fun z=>absurd z Qp,fun z=>absurd z ZR⟩),Nat.le_refl _,fun r hr=>nomatch hr⟩ ?_ ?_
 ·rintro k t' a1 a2 a3 a4 m K RT BK et ⟨rfl,rs,rfl,nr,me,lr,lo⟩ hK hRT hBK;obtain⟨i,g,eb,rfl⟩:=ZQ et;have kl:=(List.getElem?_eq_some_iff.mp eb).1;have Bb:=Bc _ (List.mem_of_getElem? eb);have g0:0<=g:=Bb.1;have g1:g<=bits:=Bb.2.1;have pg:=Qj g.toNat;have tk:cs.take (k+1)=cs.take k++[(i,g)]:=by rw[List.take_succ,eb];rfl
  have dk:cs.drop k=(i,g)::cs.drop (k+1):=by
   rw[List.drop_eq_getElem_cons kl];congr 1;have:=List.getElem?_eq_getElem kl;rw[eb]at this;exact(Option.some.inj this).symm
  have after:∀b∈cs.drop (k+1),i<=b.1:=fun b hb=>by
   have:cs.Pairwise fun a b=>a.1<=b.1:=pw
   have:=(this.sublist (List.drop_sublist k cs));rw[dk]at this;exact(List.pairwise_cons.mp this).1 b hb
  have m1:∀x,mB x (cs.take (k+1))↔mB x (cs.take k)\/(i<=x/\x<i+2 ^ g.toNat):=fun x=>by
   rw[tk,Vu,zmW];constructor
   ·rintro(z|z|z)
    ·exact .inl z
    ·exact .inr z
    ·exact absurd z ZR
   ·rintro(z|z)
    ·exact .inl z
    ·exact .inr (.inl z)
  have new:(∀r∈rs,r.2<i)->∀c2 c3 c4,K [some (.val t),some (.own (pD rs++[.tuple [.int i,.int (i+2 ^ g.toNat)]])),c2,c3,c4] m:=fun hlt c2 c3 c4 =>
   hK _ _ _ _ _ ⟨rfl,rs++[(i,i+2 ^ g.toNat)],by rw[<- Y7],⟨fun r hr=>by
    rcases List.mem_append.mp hr with z|z
    ·exact nr.1 r z
    ·cases List.mem_singleton.mp z;show i<i+2 ^ g.toNat;lia,by
    rw[List.pairwise_append];exact⟨nr.2,List.pairwise_singleton _ _,fun a ha b hb=>by cases List.mem_singleton.mp hb;exact hlt a ha⟩⟩,(fun x=>by
    rw[Uo,me,m1,JY];constructor
    ·rintro(z|z|z)
     ·exact .inl z
     ·exact .inr z
     ·exact absurd z Qp
    ·rintro(z|z)
     ·exact .inl z
     ·exact .inr (.inl z)),by simp;lia,fun r hr b hb=>by
    rcases List.mem_append.mp hr with z|z
    ·exact lo r z b (by rw[dk];simp[hb])
    ·cases List.mem_singleton.mp z;exact after b hb⟩
  rcases List.eq_nil_or_concat rs with rfl|⟨rs',r,rfl⟩
  ·wp_walk using YJ g0 (by lia) ?_
   ·show 0<16777216;decide
   ·exact new (fun r hr=>nomatch hr) _ _ _
   ·exact absurd hc (by simp[pD])
  ·rw[List.concat_eq_append]at *;have sn:pD (rs'++[r])=pD rs'++[.tuple [.int r.1,.int r.2]]:=by simp[pD]
   have lr':rs'.length+1<=k:=by simpa using lr
   have r12:=nr.1 r (by simp)
   have rlo:r.1<=i:=lo r (by simp) (i,g) (by rw[dk];simp)
   have pws:=List.pairwise_append.mp nr.2;rw[sn]at new ⊢
   wp_walk using zkp ?_,YJ g0 (by lia) ?_
   all_goals first
    | (exfalso;simp at hc;done)
    | (exfalso;rename_i y;simp at y;done)
    | (simp[Jz];lia)
    | skip
   ·refine zr5 zkr ?_
    wp_walk
    rw[List.set_append_right _ _ (Nat.le_refl _),Nat.sub_self];have mx:(if i+2 ^ g.toNat > r.2 then i+2 ^ g.toNat else r.2)=max r.2 (i+2 ^ g.toNat):=by split <;> lia
    refine hK _ _ _ _ _ ⟨rfl,rs'++[(r.1,max r.2 (i+2 ^ g.toNat))],?_,⟨fun s hs=>?_,?_⟩,fun x=>?_,by simp;lia,fun s hs b hb=>?_⟩
    ·rw[mx];simp[pD]
    ·rcases List.mem_append.mp hs with z|z
     ·exact nr.1 s (by simp[z])
     ·cases List.mem_singleton.mp z;show r.1<max r.2 _;lia
    ·rw[List.pairwise_append];exact⟨pws.1,List.pairwise_singleton _ _,fun a ha b hb=>by cases List.mem_singleton.mp hb;exact pws.2.2 a ha r (by simp)⟩
    ·have mex:=me x;rw[Uo,JY]at mex;rw[Uo,JY,m1,<- mex];have nn:=Qp (x:=x);show _\/(r.1<=x/\x<max r.2 (i+2 ^ g.toNat))\/_↔_
     constructor
     ·rintro(z|z|z)
      ·exact .inl (.inl z)
      ·by_cases w:x<r.2
       ·exact .inl (.inr (.inl ⟨z.1,w⟩))
       ·exact .inr (by lia)
      ·exact absurd z nn
     ·rintro((z|z|z)|z)
      ·exact .inl z
      ·exact .inr (.inl (by lia))
      ·exact absurd z nn
      ·exact .inr (.inl (by lia))
    ·rcases List.mem_append.mp hs with z|z
     ·exact lo s (by simp[z]) b (by rw[dk];simp[hb])
     ·cases List.mem_singleton.mp z;exact lo r (by simp) b (by rw[dk];simp[hb])
   ·refine new (fun s hs=>?_) _ _ _
    rcases List.mem_append.mp hs with z|z
    ·have:=pws.2.2 s z r (by simp);have:=nr.1 r (by simp);lia
    ·cases List.mem_singleton.mp z;lia
 ·rintro a1 a2 a3 a4 m ⟨rfl,rs,rfl,nr,me,lr,lo⟩;rw[Jz]at me lr;rw[List.take_length]at me
  wp_walk
  exact h rs nr (fun x=>by rw[me x,zmV pm]) (by lia)
theorem zl5:FnScope ["blocks"] ["blocks"] (Jj (top 14)):=⟨rfl,rfl,rfl,by decide +kernel,rfl,by decide +kernel,by decide +kernel⟩
def zkA:GD:=fun ts n R=>∃(bits:Int) (bs:qB) (t:PyData),ts=[t]/\(t=.list (pD bs)\/t=.tuple (pD bs))/\0<=bits/\bits<=64/\Bks bits bs/\bs.length<100000/\∀ps,CanP (fun x=>mB x bs) ps->ps.length<=bs.length->R (.tuple (pD ps)) n
theorem Zk{bits:Int}{bs:qB}{t:PyData}{n:Nat}{R:qN}(ht:t=.list (pD bs)\/t=.tuple (pD bs))(b0:0<=bits)(b1:bits<=64)(B:Bks bits bs)(l:bs.length<100000)(h:∀ps,CanP (fun x=>mB x bs) ps->ps.length<=bs.length->R (.tuple (pD ps)) n):zkA [t] n R:=⟨bits,bs,t,rfl,ht,b0,b1,B,l,h⟩
def Zs(Z:ZZ):Prop:=FQ Z "fewest" (top 14) ["blocks"] 5 (spD Z.K 1 zkA)
theorem zmJ(D:Dq Z.K Z.mg "fewest" (top 14) ["blocks"]) (h_patch_of:Wp Z) (h_runs_of:Wb Z) (T:Txt Z.mg):Zs Z:=by
 refine' okQ D zl5 rfl fun f cdv A outer s H E hr=>⟨_,(Jf (Jk (Jg h_patch_of hr (Jb (Jg h_runs_of hr (Jb (Ja 0) Je Jc)) Je Jv)))),?_⟩
 intro ts n R hl h;obtain⟨bits,bs,t,rfl,ht,b0,b1,B,l,h⟩:=h
 wp_walk using Z8 ht b0 b1 B l (fun rs nr me lr=>?_)
 have w:=Ux b0 b1 nr me fun x hx=>Qf b0 B hx
 wp_walk using V8 w ?_ (fun ps P=>?_)
 ·lia
 ·have C:CanP (fun x=>mB x bs) ps:=⟨rs,nr,me,P⟩
  exact h ps C (C.le b0 B)
theorem ZB:FnScope ["runs","top","gaps","begin","low","high"] ["runs","top"] (Jj (top 24)):=⟨rfl,rfl,rfl,by decide +kernel,rfl,by decide +kernel,by decide +kernel⟩
def zcO:GD:=fun ts n R=>∃(rs:qB) (top:Int),ts=[.list (pD rs),.int top]/\NR rs/\(∀r∈rs,0<=r.1)/\0<=top/\rs.length<=100000/\∀(gs:qB) (B:Int),NR gs->(∀x,mR x gs↔0<=x/\x<B/\¬mR x rs)->gs.length<=rs.length+1->top<=B->(B=top\/∃r∈rs,B=r.2)->R (.list (pD gs)) n
theorem zcD{rs:qB}{top:Int}{n:Nat}{R:qN}(nr:NR rs)(w:∀r∈rs,0<=r.1)(t0:0<=top)(l:rs.length<=100000)(h:∀(gs:qB) (B:Int),NR gs->(∀x,mR x gs↔0<=x/\x<B/\¬mR x rs)->gs.length<=rs.length+1->top<=B->(B=top\/∃r∈rs,B=r.2)->R (.list (pD gs)) n):zcO [.list (pD rs),.int top] n R:=⟨rs,top,rfl,nr,w,t0,l,h⟩
theorem ziF{rs:qB}{top:Int}{n:Nat}{R:qN}(nr:NR rs)(w:∀r∈rs,0<=r.1/\r.2<=top)(t0:0<=top)(l:rs.length<=100000)(h:∀gs,NR gs->(∀x,mR x gs↔0<=x/\x<top/\¬mR x rs)->gs.length<=rs.length+1->R (.list (pD gs)) n):zcO [.list (pD rs),.int top] n R:=zcD nr (fun r hr=>(w r hr).1) t0 l fun gs B ng me lg tb eb=>by
 have:B=top:=by
  rcases eb with e|⟨r,hr,e⟩
  ·exact e
  ·have:=(w r hr).2;lia
 subst this;exact h gs ng me lg
def zcI(Z:ZZ):Prop:=FQ Z "gaps_below" (top 24) ["runs","top"] 1 (spD Z.K 2 zcO)
theorem zgI(D:Dq Z.K Z.mg "gaps_below" (top 24) ["runs","top"]) (T:Txt Z.mg):zcI Z:=by
 refine' okQ D ZB rfl fun f cdv A outer s H E hr=>⟨_,(Jh (QR (i:=2) ZB.nd rfl (Or.inl rfl) (JS Je)) (Jh (Jx (i:=3) ZB.nd rfl (Or.inl rfl) Jd) (Jh (QZ PassesOwn.never rfl (zpO (Ja 0)) (JJ rfl (Jn (Ji (i:=4) ZB.nd rfl (Or.inl rfl)) (Jn (Ji (i:=5) ZB.nd rfl (Or.inl rfl)) JH))) (Jh (Jy (Jt (J5 hr) J4 (dl (Ja 3)) (dl (Ja 4)) (Jo _)) (Jf (QJ 2 (JI (Jb (Ja 3) (Jb (Ja 4) Je Jc) Jc)))) JC) (Jf (Jx (i:=3) ZB.nd rfl (Or.inl rfl) (Ja 5))))) (Jh (Jy (Jt (J5 hr) J4 (dl (Ja 3)) (dl (Ja 1)) (Jo _)) (Jf (QJ 2 (JI (Jb (Ja 3) (Jb (Ja 1) Je Jc) Jc)))) JC) (Uf 2 (Jf (Jk (Ja 2)))))))),?_⟩
 intro ts n R hl h;obtain⟨rs,top,rfl,nr,w,t0,l,h⟩:=h
 wp_walk
 refine VE 2 3 4 5 (fun k a2 a3 _ _ m=>m=n/\∃(gs:qB) (be:Int),a2=some (.own (pD gs))/\a3=some (.val (.int be))/\NR gs/\(∀x,mR x gs↔0<=x/\x<be/\¬mR x (rs.take k))/\gs.length<=k/\0<=be/\(be=0\/∃r∈rs,be=r.2)/\(∀r∈rs.take k,r.2<=be)/\(∀g∈gs,g.2<be)/\(∀r∈rs.drop k,(k=0/\be=0/\be<=r.1)\/be<r.1)) ⟨rfl,[],0,rfl,rfl,⟨(fun r hr=>nomatch hr),.nil⟩,(fun x=>⟨fun z=>absurd z Qp,fun z=>by lia⟩),Nat.le_refl _,Int.le_refl _,.inl rfl,(fun r hr=>nomatch hr),(fun r hr=>nomatch hr),fun r hr=>.inl ⟨rfl,rfl,w r hr⟩⟩ ?_ ?_
 ·rintro k t' a2 a3 a4 a5 m K RT BK et ⟨rfl,gs,be,rfl,rfl,ng,me,lg,be0,be1,ti,gl,dr⟩ hK hRT hBK;obtain⟨lo,hi,eb,rfl⟩:=ZQ et;have kl:=(List.getElem?_eq_some_iff.mp eb).1;have mr:=List.mem_of_getElem? eb;have r12:=nr.1 _ mr;have r12:lo<hi:=r12;have wr:=w _ mr;have wr1:0<=lo:=wr;have tk:rs.take (k+1)=rs.take k++[(lo,hi)]:=by rw[List.take_succ,eb];rfl
  have dk:rs.drop k=(lo,hi)::rs.drop (k+1):=by
   rw[List.drop_eq_getElem_cons kl];congr 1;have:=List.getElem?_eq_getElem kl;rw[eb]at this;exact(Option.some.inj this).symm
  have after:∀r∈rs.drop (k+1),hi<r.1:=fun r hr=>by
   have:=(nr.2.sublist (List.drop_sublist k rs));rw[dk]at this;exact(List.pairwise_cons.mp this).1 r hr
  have here:=dr (lo,hi) (by rw[dk];simp)
  have here:be<=lo:=by rcases here with z|z;exact z.2.2;exact Int.le_of_lt z
  have mt:∀x,mR x (rs.take (k+1))↔mR x (rs.take k)\/(lo<=x/\x<hi):=fun x=>by
   rw[tk,Uo,JY];constructor
   ·rintro(z|z|z)
    ·exact .inl z
    ·exact .inr z
    ·exact absurd z Qp
   ·rintro(z|z)
    ·exact .inl z
    ·exact .inr (.inl z)
  have old:∀x,be<=x->¬mR x (rs.take k):=fun x hx ⟨r,hr,h1,h2⟩=>by have:=ti r hr;lia
  have go:∀(gs':qB) (c4 c5:Option Cell),NR gs'->(∀x,mR x gs'↔mR x gs\/(be<=x/\x<lo))->gs'.length<=k+1->(∀g∈gs',g.2<hi)->K [some (.val (.list (pD rs))),some (.val (.int top)),some (.own (pD gs')),some (.val (.int hi)),c4,c5] m:=fun gs' c4 c5 n' m' l' g' =>
   hK _ _ _ _ _ ⟨rfl,gs',hi,rfl,rfl,n',(fun x=>by
    rw[m',me,mt];have ox:=old x;constructor
    ·rintro(⟨a,b,c⟩|⟨a,b⟩)
     ·exact⟨a,by lia,fun z=>z.elim c fun z=>by lia⟩
     ·exact⟨by lia,by lia,fun z=>z.elim (ox a) fun z=>by lia⟩
    ·rintro⟨a,b,c⟩
     by_cases y:x<be
     ·exact .inl ⟨a,y,fun z=>c (.inl z)⟩
     ·refine .inr ⟨by lia,?_⟩
      by_cases u:x<lo
      ·exact u
      ·exact absurd (.inr ⟨by lia,b⟩) c),l',by lia,.inr ⟨_,mr,rfl⟩,(fun r hr=>by
    rw[tk]at hr;rcases List.mem_append.mp hr with z|z
    ·have:=ti r z;lia
    ·cases List.mem_singleton.mp z;exact Int.le_refl _),g',fun r hr=>.inr (after r hr)⟩
  wp_walk
  ·rw[Jz];lia
  ·rw[Y7];refine go (gs++[(be,lo)]) _ _ ⟨fun r hr=>?_,?_⟩ (fun x=>?_) (by simp;lia) fun g hg=>?_
   ·rcases List.mem_append.mp hr with z|z
    ·exact ng.1 r z
    ·cases List.mem_singleton.mp z;exact hc
   ·rw[List.pairwise_append];exact⟨ng.2,List.pairwise_singleton _ _,fun a ha b hb=>by cases List.mem_singleton.mp hb;exact gl a ha⟩
   ·rw[Uo,JY];constructor
    ·rintro(z|z|z)
     ·exact .inl z
     ·exact .inr z
     ·exact absurd z Qp
    ·rintro(z|z)
     ·exact .inl z
     ·exact .inr (.inl z)
   ·rcases List.mem_append.mp hg with z|z
    ·have:=gl g z;lia
    ·cases List.mem_singleton.mp z;exact r12
  ·refine go gs _ _ ng (fun x=>⟨.inl,fun z=>z.elim id fun z=>by lia⟩) (by lia) fun g hg=>?_
   have:=gl g hg;lia
 ·rintro a2 a3 a4 a5 m ⟨rfl,gs,be,rfl,rfl,ng,me,lg,be0,be1,ti,gl,dr⟩;rw[Jz]at me lg ti;rw[List.take_length]at me ti;have old:∀x,be<=x->¬mR x rs:=fun x hx ⟨r,hr,h1,h2⟩=>by have:=ti r hr;lia
  wp_walk
  ·rw[Jz];lia
  ·rw[Y7];refine h (gs++[(be,top)]) top ⟨fun r hr=>?_,?_⟩ (fun x=>?_) (by simp;lia) (Int.le_refl _) (.inl rfl)
   ·rcases List.mem_append.mp hr with z|z
    ·exact ng.1 r z
    ·cases List.mem_singleton.mp z;exact hc
   ·rw[List.pairwise_append];exact⟨ng.2,List.pairwise_singleton _ _,fun a ha b hb=>by cases List.mem_singleton.mp hb;exact gl a ha⟩
   ·rw[Uo,JY,me];have ox:=old x;constructor
    ·rintro(⟨a,b,c⟩|z|z)
     ·exact⟨a,by lia,c⟩
     ·exact⟨by have:=z.1;lia,z.2,ox z.1⟩
     ·exact absurd z Qp
    ·rintro⟨a,b,c⟩
     by_cases y:x<be
     ·exact .inl ⟨a,y,c⟩
     ·exact .inr (.inl ⟨by show be<=x;lia,b⟩)
  ·refine h gs be ng me (by lia) (by lia) ?_
   rcases be1 with z|z
   ·exact .inl (by lia)
   ·exact .inr z
theorem zk4:FnScope ["bits","patch"] ["bits","patch"] (Jj (top 16)):=⟨rfl,rfl,rfl,by decide +kernel,rfl,by decide +kernel,by decide +kernel⟩
def zin:GD:=fun ts n R=>∃(bits:Int) (ps:qB),ts=[.int bits,.tuple (pD ps)]/\1<=bits/\bits<=64/\Bks bits ps/\ps.length<100000/\∀qs,CanP (fun x=>0<=x/\x<2 ^ bits.toNat/\¬mB x ps) qs->qs.length<=130*(ps.length+1)->R (.tuple (pD qs)) n
theorem znM{bits:Int}{ps:qB}{n:Nat}{R:qN}(b0:1<=bits)(b1:bits<=64)(B:Bks bits ps)(l:ps.length<100000)(h:∀qs,CanP (fun x=>0<=x/\x<2 ^ bits.toNat/\¬mB x ps) qs->qs.length<=130*(ps.length+1)->R (.tuple (pD qs)) n):zin [.int bits,.tuple (pD ps)] n R:=⟨bits,ps,rfl,b0,b1,B,l,h⟩
def zhD(Z:ZZ):Prop:=FQ Z "rest_of" (top 16) ["bits","patch"] 5 (spD Z.K 2 zin)
theorem zlf(D:Dq Z.K Z.mg "rest_of" (top 16) ["bits","patch"]) (h_patch_of:Wp Z) (h_gaps_below:zcI Z) (h_runs_of:Wb Z) (T:Txt Z.mg):zhD Z:=by
 refine' okQ D zk4 rfl fun f cdv A outer s H E hr=>⟨_,(Jf (Jk (Jg h_patch_of hr (Jb (Jg h_gaps_below hr (Jb (Jg h_runs_of hr (Jb (Ja 1) Je Jc)) (Jb (J1 (dl Jd) (dl (Ja 0))) Je JP) Jv)) Je Jv)))),?_⟩
 intro ts n R hl h;obtain⟨bits,ps,rfl,b0,b1,B,l,h⟩:=h
 wp_walk using Z8 (.inr rfl) (by lia) b1 B l (fun rs nr me lr=>?_)
 ·exact cpow (by lia) (by lia)
 have w:=Ux (by lia) b1 nr me fun x hx=>Qf (by lia) B hx
 have wt:∀r∈rs,0<=r.1/\r.2<=1*2 ^ bits.toNat:=fun r hr=>by
  have lt:=nr.1 r hr;have:=Qf (by lia) B ((me (r.2 - 1)).mp ⟨r,hr,by lia,by lia⟩)
  have:=(w r hr).1;rw[Qz];lia
 have tp:=Qj bits.toNat
 wp_walk using ziF nr wt (by lia) (by lia) (fun gs ng mg lg=>?_)
 have mg':∀x,mR x gs↔0<=x/\x<2 ^ bits.toNat/\¬mB x ps:=fun x=>by rw[mg,Qz,me]
 have w2:=Ux (by lia) b1 ng mg' fun x hx=>⟨hx.1,hx.2.1⟩
 wp_walk using V8 w2 ?_ (fun qs P=>?_)
 ·lia
 ·have:=P.len fun r hr=>⟨(w2 r hr).1,(w2 r hr).2.2⟩
  exact h qs ⟨gs,ng,mg',P⟩ (by lia)
theorem UL:FnScope ["ones","others","shared","at","by","low","high"] ["ones","others"] (Jj (top 25)):=⟨rfl,rfl,rfl,by decide +kernel,rfl,by decide +kernel,by decide +kernel⟩
theorem zpI{xs:qD}{i:Int}{k:Nat}{x:PyData}{R:PyData->Prop}(hi:i=(k:Int))(e:xs[k]?=some x)(h:R x):oIx (.list xs) (.int i) R:=by
 subst hi;have hk:=(List.getElem?_eq_some_iff.mp e).1;rw[YU (x:=x)]
 ·exact h
 ·unfold atI ixN;have e2:xs[k]=x:=by rw[List.getElem?_eq_getElem hk]at e;exact Option.some.inj e
  simp[hk,e2]
def zdU:GD:=fun ts n R=>∃as bs:List (Int×Int),ts=[.list (pD as),.list (pD bs)]/\NR as/\NR bs/\as.length<=1000000/\bs.length<=1000000/\∀cs,NR cs->(∀x,mR x cs↔mR x as/\mR x bs)->cs.length<=as.length+bs.length->R (.list (pD cs)) n
theorem zd2{as bs:qB}{n:Nat}{R:qN}(na:NR as)(nb:NR bs)(la:as.length<=1000000)(lb:bs.length<=1000000)(h:∀cs,NR cs->(∀x,mR x cs↔mR x as/\mR x bs)->cs.length<=as.length+bs.length->R (.list (pD cs)) n):zdU [.list (pD as),.list (pD bs)] n R:=⟨as,bs,rfl,na,nb,la,lb,h⟩
def zdG(Z:ZZ):Prop:=FQ Z "shared_runs" (top 25) ["ones","others"] 1 (spD Z.K 2 zdU)
theorem zfO(D:Dq Z.K Z.mg "shared_runs" (top 25) ["ones","others"]) (T:Txt Z.mg):zdG Z:=by
 refine' okQ D UL rfl fun f cdv A outer s H E hr=>⟨_,(Jh (QR (i:=2) UL.nd rfl (Or.inl rfl) (JS Je)) (Jh (Jx (i:=3) UL.nd rfl (Or.inl rfl) Jd) (Jh (Jx (i:=4) UL.nd rfl (Or.inl rfl) Jd) (Jh (VZ PassesOwn.never (Qm (Y3 (Jt (J5 hr) J4 (dl (Ja 3)) (dl (JB QE QB T.len Qy (Jp (dl (Ja 0)) Jq Jc))) (Jo _)) (Zh (Jt (J5 hr) J4 (dl (Ja 4)) (dl (JB QE QB T.len Qy (Jp (dl (Ja 1)) Jq Jc))) (Jo _))))) (Jh (Jx (i:=5) UL.nd rfl (Or.inl rfl) (JB (Wh rfl) Vo T.max Wf (Jp (dl (Jl (dl (Jl (dl (Ja 0)) (dl (Ja 3)))) (dl Jd))) (Jp (dl (Jl (dl (Jl (dl (Ja 1)) (dl (Ja 4)))) (dl Jd))) Jq Q5) Q5))) (Jh (Jx (i:=6) UL.nd rfl (Or.inl rfl) (JB (Wi rfl) Vp T.min Wg (Jp (dl (Jl (dl (Jl (dl (Ja 0)) (dl (Ja 3)))) (dl Jd))) (Jp (dl (Jl (dl (Jl (dl (Ja 1)) (dl (Ja 4)))) (dl Jd))) Jq Q5) Q5))) (Jh (Jy (Jt (J5 hr) J4 (dl (Ja 5)) (dl (Ja 6)) (Jo _)) (Jf (QJ 2 (JI (Jb (Ja 5) (Jb (Ja 6) Je Jc) Jc)))) JC) (Jf (Jy (Jt (J5 hr) J4 (dl (Jl (dl (Jl (dl (Ja 0)) (dl (Ja 3)))) (dl Jd))) (dl (Jl (dl (Jl (dl (Ja 1)) (dl (Ja 4)))) (dl Jd))) (Jo _)) (Jf (VB (i:=3) UL.nd rfl (Or.inl rfl) Jd Vq)) (Jf (VB (i:=4) UL.nd rfl (Or.inl rfl) Jd Vq)))))))) (Uf 2 (Jf (Jk (Ja 2)))))))),?_⟩
 intro ts n R hl h;obtain⟨as,bs,rfl,na,nb,la,lb,h⟩:=h
 wp_walk
 refine ziM (fun m ρ n'=>n'=n/\∃(a b:Nat) (cs:qB) (c5 c6:Option Cell),ρ=[some (.val (.list (pD as))),some (.val (.list (pD bs))),some (.own (pD cs)),some (.val (.int a)),some (.val (.int b)),c5,c6]/\m=(as.length - a)+(bs.length - b)/\a<=as.length/\b<=bs.length/\ShI as bs cs a b) ⟨rfl,0,0,[],_,_,rfl,rfl,by lia,by lia,.zero⟩ ?_
 rintro m ρ n' NX RT BK ⟨rfl,a,b,cs,c5,c6,rfl,rfl,ha,hb,I⟩ hN hR hB;have fin:(as.length<=a\/bs.length<=b)->BK [some (.val (.list (pD as))),some (.val (.list (pD bs))),some (.own (pD cs)),some (.val (.int a)),some (.val (.int b)),c5,c6] n':=fun e=>hB _ _ (by
  wp_walk
  exact h cs I.nr (I.fin e) (by have:=I.ln;lia))
 have lc:=I.ln
 wp_walk
 ·rename_i hx;rw[Jz]at hx hc;have ha':a<as.length:=by lia
  have hb':b<bs.length:=by lia
  obtain⟨p,ep⟩:∃p,as[a]?=some p:=⟨_,List.getElem?_eq_getElem ha'⟩;obtain⟨q,eq⟩:∃q,bs[b]?=some q:=⟨_,List.getElem?_eq_getElem hb'⟩;have sA:=I.stepA nb na ep eq;have sB:=I.stepB nb na ep eq
  wp_walk using zpI (k:=a) rfl (ZG ep) ?_,zpI (k:=b) rfl (ZG eq) ?_
  ·rw[Jz];lia
  all_goals
   have e1:(if q.1 > p.1 then q.1 else p.1)=max p.1 q.1:=by split <;> lia
   have e2:(if q.2<p.2 then q.2 else p.2)=min p.2 q.2:=by split <;> lia
   rename_i hd;rw[e1,e2]at hd
  ·have es:shr2 p q=[(max p.1 q.1,min p.2 q.2)]:=by unfold shr2;rw[if_pos hd]
   have sA:=sA hc;rw[es]at sA;exact hN ((as.length - (a+1))+(bs.length - b)) _ _ (by lia) ⟨rfl,a+1,b,cs++[(max p.1 q.1,min p.2 q.2)],_,_,by rw[e1,e2,<- Y6];rfl,rfl,by lia,by lia,sA⟩
  ·have es:shr2 p q=[(max p.1 q.1,min p.2 q.2)]:=by unfold shr2;rw[if_pos hd]
   have sB:=sB hc;rw[es]at sB;exact hN ((as.length - a)+(bs.length - (b+1))) _ _ (by lia) ⟨rfl,a,b+1,cs++[(max p.1 q.1,min p.2 q.2)],_,_,by rw[e1,e2,<- Y6];rfl,rfl,by lia,by lia,sB⟩
  ·have es:shr2 p q=[]:=by unfold shr2;rw[if_neg hd]
   have sA:=sA hc;rw[es,List.append_nil]at sA;exact hN ((as.length - (a+1))+(bs.length - b)) _ _ (by lia) ⟨rfl,a+1,b,cs,_,_,rfl,rfl,by lia,by lia,sA⟩
  ·have es:shr2 p q=[]:=by unfold shr2;rw[if_neg hd]
   have sB:=sB hc;rw[es,List.append_nil]at sB;exact hN ((as.length - a)+(bs.length - (b+1))) _ _ (by lia) ⟨rfl,a,b+1,cs,_,_,rfl,rfl,by lia,by lia,sB⟩
 ·rw[Jz]at hc;exact fin (.inr (by lia))
 ·rw[Jz]at hc;exact fin (.inl (by lia))
theorem zea:FnScope ["one","other","runs","top"] ["one","other"] (Jj (top 17)):=⟨rfl,rfl,rfl,by decide +kernel,rfl,by decide +kernel,by decide +kernel⟩
def zij:GD:=fun ts n R=>∃(bits:Int) (ps qs:qB),ts=[.tuple (pD ps),.tuple (pD qs)]/\0<=bits/\bits<=64/\Bks bits ps/\Bks bits qs/\ps.length<100000/\qs.length<100000/\ps.length+qs.length<=90000/\∀cs,CanP (fun x=>mB x ps/\¬mB x qs) cs->cs.length<=130*(ps.length+qs.length+1)->R (.tuple (pD cs)) n
theorem znL{bits:Int}{ps qs:qB}{n:Nat}{R:qN}(b0:0<=bits)(b1:bits<=64)(A:Bks bits ps)(B:Bks bits qs)(l1:ps.length<100000)(l2:qs.length<100000)(l3:ps.length+qs.length<=90000)(h:∀cs,CanP (fun x=>mB x ps/\¬mB x qs) cs->cs.length<=130*(ps.length+qs.length+1)->R (.tuple (pD cs)) n):zij [.tuple (pD ps),.tuple (pD qs)] n R:=⟨bits,ps,qs,rfl,b0,b1,A,B,l1,l2,l3,h⟩
def zhC(Z:ZZ):Prop:=FQ Z "without" (top 17) ["one","other"] 5 (spD Z.K 2 zij)
theorem zlc(D:Dq Z.K Z.mg "without" (top 17) ["one","other"]) (h_runs_of:Wb Z) (h_patch_of:Wp Z) (h_shared_runs:zdG Z) (h_gaps_below:zcI Z) (T:Txt Z.mg):zhC Z:=by
 refine' okQ D zea rfl fun f cdv A outer s H E hr=>⟨_,(Jh (Jx (i:=2) zea.nd rfl (Or.inl rfl) (Jg h_runs_of hr (Jb (Ja 0) Je Jc))) (Jh (Jx (i:=3) zea.nd rfl (Or.inl rfl) (zkM (J3 (dl (Ja 2))) (Jl (dl (Jl (dl (Ja 2)) (dl (ZM Jd)))) (dl Jd)) Jd)) (Jf (Jk (Jg h_patch_of hr (Jb (Jg h_shared_runs hr (Jb (Ja 2) (Jb (Jg h_gaps_below hr (Jb (Jg h_runs_of hr (Jb (Ja 1) Je Jc)) (Jb (Ja 3) Je Jc) Jv)) Je Jv) Jc)) Je Jv)))))),?_⟩
 intro ts n R hl h;obtain⟨bits,ps,qs,rfl,b0,b1,A,B,l1,l2,l3,h⟩:=h
 wp_walk
 refine Z8 (.inr rfl) b0 b1 A l1 (fun rs nr me lr=>?_)
 have wr:=Ux b0 b1 nr me fun x hx=>Qf b0 A hx
 rcases List.eq_nil_or_concat rs with rfl|⟨rs',r,rfl⟩
 ·have t0:(0:Int)<=0:=Int.le_refl _;have tt:∀r∈([]:qB),r.2<=0:=fun r hr=>nomatch hr
  wp_walk
  ·refine Z8 (.inr rfl) b0 b1 B l2 (fun ss ns ms ls=>?_)
   have ws:=Ux b0 b1 ns ms fun x hx=>Qf b0 B hx
   wp_walk using zcD ns (fun r hr=>(ws r hr).1) t0 (by lia) (fun gs Bd ng mg lg tb _=>?_)
   refine zd2 nr ng (by lia) (by lia) (fun cs nc mc lc=>?_)
   have mc':∀x,mR x cs↔mB x ps/\¬mB x qs:=fun x=>by
    rw[mc,mg,ms];constructor
    ·rintro⟨z1,z2,z3,z4⟩;exact⟨(me x).mp z1,z4⟩
    ·rintro⟨z1,z2⟩;have z1':=(me x).mpr z1;refine⟨z1',(Qf b0 A z1).1,?_,z2⟩;obtain⟨r,hr,_,y⟩:=z1';have:=tt r hr;lia
   have w:=Ux b0 b1 nc mc' fun x hx=>Qf b0 A hx.1
   wp_walk using V8 w (by lia) (fun es P=>?_)
   have:=P.len fun r hr=>⟨(w r hr).1,(w r hr).2.2⟩
   exact h es ⟨cs,nc,mc',P⟩ (by lia)
  ·exact absurd hc (by simp[pD])
 ·rw[List.concat_eq_append]at *;have sn:pD (rs'++[r])=pD rs'++[.tuple [.int r.1,.int r.2]]:=by simp[pD]
  have wl:=wr r (by simp)
  have t0:0<=r.2:=by lia
  have tt:∀s∈rs'++[r],s.2<=r.2:=fun s hs=>by
   rcases List.mem_append.mp hs with z|z
   ·have:=(List.pairwise_append.mp nr.2).2.2 s z r (by simp);lia
   ·cases List.mem_singleton.mp z;exact Int.le_refl _
  rw[sn]
  wp_walk using zkp ?_
  ·exact absurd hc (by simp)
  ·refine Z8 (.inr rfl) b0 b1 B l2 (fun ss ns ms ls=>?_)
   have ws:=Ux b0 b1 ns ms fun x hx=>Qf b0 B hx
   wp_walk using zcD ns (fun r hr=>(ws r hr).1) t0 (by lia) (fun gs Bd ng mg lg tb _=>?_)
   rw[<- sn];refine zd2 nr ng (by lia) (by lia) (fun cs nc mc lc=>?_)
   have mc':∀x,mR x cs↔mB x ps/\¬mB x qs:=fun x=>by
    rw[mc,mg,ms];constructor
    ·rintro⟨z1,z2,z3,z4⟩;exact⟨(me x).mp z1,z4⟩
    ·rintro⟨z1,z2⟩;have z1':=(me x).mpr z1;refine⟨z1',(Qf b0 A z1).1,?_,z2⟩;obtain⟨r,hr,_,y⟩:=z1';have:=tt r hr;lia
   have w:=Ux b0 b1 nc mc' fun x hx=>Qf b0 A hx.1
   wp_walk using V8 w (by lia) (fun es P=>?_)
   have:=P.len fun r hr=>⟨(w r hr).1,(w r hr).2.2⟩
   exact h es ⟨cs,nc,mc',P⟩ (by lia)
theorem Zz:FnScope ["patch","address","low","high","middle"] ["patch","address"] (Jj (top 19)):=⟨rfl,rfl,rfl,by decide +kernel,rfl,by decide +kernel,by decide +kernel⟩
def zgi:GD:=fun ts n R=>∃(bits:Int) (bs:qB) (a:Int),ts=[.tuple (pD bs),.int a]/\bits<=64/\Ptc bits bs/\bs.length<1000000/\∀k:Nat,k<=bs.length->(∀(j:Nat) (b:Int×Int),j<k->bs[j]?=some b->eB b<=a)->(∀(j:Nat) (b:Int×Int),k<=j->bs[j]?=some b->a<eB b)->R (.int (k:Int)) n
theorem zlO{bits a:Int}{bs:qB}{n:Nat}{R:qN}(b1:bits<=64)(P:Ptc bits bs)(hl:bs.length<1000000)(h:∀k:Nat,k<=bs.length->(∀(j:Nat) (b:Int×Int),j<k->bs[j]?=some b->eB b<=a)->(∀(j:Nat) (b:Int×Int),k<=j->bs[j]?=some b->a<eB b)->R (.int (k:Int)) n):zgi [.tuple (pD bs),.int a] n R:=⟨bits,bs,a,rfl,b1,P,hl,h⟩
def zf9(Z:ZZ):Prop:=FQ Z "ended_by" (top 19) ["patch","address"] 3 (spD Z.K 2 zgi)
theorem zi9(D:Dq Z.K Z.mg "ended_by" (top 19) ["patch","address"]) (h_end_of:Zr Z) (T:Txt Z.mg):zf9 Z:=by
 refine' okQ D Zz rfl fun f cdv A outer s H E hr=>⟨_,(Jh (Jx (i:=2) Zz.nd rfl (Or.inl rfl) Jd) (Jh (Jx (i:=3) Zz.nd rfl (Or.inl rfl) (JB QE QB T.len Qy (Jp (dl (Ja 0)) Jq Jc))) (Jh (VZ PassesOwn.never (Jt (J5 hr) J4 (dl (Ja 2)) (dl (Ja 3)) (Jo _)) (Jh (Jx (i:=4) Zz.nd rfl (Or.inl rfl) (zny (dl (JN (dl (Ja 2)) (dl (Ja 3)))) (dl Jd))) (Jf (Jy (Jt Qd Qc (dl (Jg h_end_of hr (Jb (Jl (dl (Ja 0)) (dl (Ja 4))) Je Q5))) (dl (Ja 1)) (Jo _)) (Jf (Jx (i:=2) Zz.nd rfl (Or.inl rfl) (JN (dl (Ja 4)) (dl Jd)))) (Jf (Jx (i:=3) Zz.nd rfl (Or.inl rfl) (Ja 4))))))) (Jf (Jk (Ja 2)))))),?_⟩
 intro ts n R hl hh;obtain⟨bits,bs,a,rfl,b1,P,hl6,hh⟩:=hh;have srt:=P.ends
 wp_walk
 rw[Jz];refine zhi (m:=bs.length) (fun m ρ n'=>n'=n/\∃lo hi:Nat,∃c,ρ=[some (.val (.tuple (pD bs))),some (.val (.int a)),some (.val (.int (lo:Int))),some (.val (.int (hi:Int))),c]/\lo<=hi/\hi<=bs.length/\m=hi - lo/\(∀(j:Nat) (b:Int×Int),j<lo->bs[j]?=some b->eB b<=a)/\(∀(j:Nat) (b:Int×Int),hi<=j->bs[j]?=some b->a<eB b)) ?_ ?_
 ·refine⟨rfl,0,bs.length,none,rfl,Nat.zero_le _,Nat.le_refl _,rfl,fun j b hj=>absurd hj (Nat.not_lt_zero _),fun j b hj e=>?_⟩
  rw[List.getElem?_eq_none hj]at e;cases e
 ·rintro m ρ n' ⟨rfl,lo,hi,c,rfl,h1,h2,rfl,h3,h4⟩
  wp_walk
  ·exact ztY
  ·have hm:(lo+hi) / 2<bs.length:=by lia
   obtain⟨b,eb⟩:∃b,bs[(lo+hi) / 2]?=some b:=⟨_,List.getElem?_eq_getElem hm⟩;have hb:=P.1 b (List.mem_of_getElem? eb);refine ZH (k:=(lo+hi) / 2) (by lia) (ZG eb) ?_
   have sx:∀(i j:Nat) (x y:Int×Int),bs[i]?=some x->bs[j]?=some y->i<=j->eB x<=eB y:=fun i j x y ei ej hij=>by
    by_cases z:i=j
    ·subst z;rw[ei]at ej;cases ej;exact Int.le_refl _
    ·obtain⟨l1,rfl⟩:=List.getElem?_eq_some_iff.mp ei;obtain⟨l2,rfl⟩:=List.getElem?_eq_some_iff.mp ej;exact List.pairwise_iff_getElem.mp srt i j l1 l2 (by lia)
   wp_walk using YJ ?_ ?_ ?_
   ·exact hb.1
   ·have:=hb.2.1;lia
   ·have hc:eB b<=a:=hc;refine⟨_,?_,rfl,(lo+hi) / 2+1,hi,some (.val (.int (((lo+hi) / 2:Nat):Int))),?_,by lia,h2,rfl,fun j x hj e=>?_,h4⟩
    ·lia
    ·have e1:((lo:Int)+hi) / 2=(((lo+hi) / 2:Nat):Int):=by lia
     first|(rw[e1];done)|(rw[e1];rfl)
    ·exact Int.le_trans (sx _ _ _ _ e eb (by lia)) hc
   ·have hc:¬eB b<=a:=hc;refine⟨_,?_,rfl,lo,(lo+hi) / 2,some (.val (.int (((lo+hi) / 2:Nat):Int))),?_,by lia,by lia,rfl,h3,fun j x hj e=>?_⟩
    ·lia
    ·have e1:((lo:Int)+hi) / 2=(((lo+hi) / 2:Nat):Int):=by lia
     first|(rw[e1];done)|(rw[e1];rfl)
    ·have:=sx _ _ _ _ eb e (by lia);lia
  ·have e:lo=hi:=by lia
   subst e;exact hh lo h2 h3 h4
theorem zdD:FnScope ["patch","address","at"] ["patch","address"] (Jj (top 18)):=⟨rfl,rfl,rfl,by decide +kernel,rfl,by decide +kernel,by decide +kernel⟩
def zcP:GD:=fun ts n R=>∃(bits:Int) (bs:qB) (a:Int),ts=[.tuple (pD bs),.int a]/\bits<=64/\Ptc bits bs/\bs.length<1000000/\(∀b∈bs,b.1<=a->a<eB b->R (.tuple [.int b.1,.int b.2]) n)/\((∀b∈bs,¬(b.1<=a/\a<eB b))->R .none n)
theorem Wm{bits a:Int}{bs:qB}{n:Nat}{R:qN}(b1:bits<=64)(P:Ptc bits bs)(hl:bs.length<1000000)(h:∀b∈bs,b.1<=a->a<eB b->R (.tuple [.int b.1,.int b.2]) n)(h':(∀b∈bs,¬(b.1<=a/\a<eB b))->R .none n):zcP [.tuple (pD bs),.int a] n R:=⟨bits,bs,a,rfl,b1,P,hl,h,h'⟩
def zcJ(Z:ZZ):Prop:=FQ Z "block_with" (top 18) ["patch","address"] 4 (spD Z.K 2 zcP)
theorem zgJ(D:Dq Z.K Z.mg "block_with" (top 18) ["patch","address"]) (h_ended_by:zf9 Z) (T:Txt Z.mg):zcJ Z:=by
 refine' okQ D zdD rfl fun f cdv A outer s H E hr=>⟨_,(Jh (Jx (i:=2) zdD.nd rfl (Or.inl rfl) (Jg h_ended_by hr (Jb (Ja 0) (Jb (Ja 1) Je Jc) Jc))) (Jh (Jy (Qm (Y3 (Jt (J5 hr) J4 (dl (Ja 2)) (dl (JB QE QB T.len Qy (Jp (dl (Ja 0)) Jq Jc))) (Jo _)) (Zh (Jt Qd Qc (dl (Jl (dl (Jl (dl (Ja 0)) (dl (Ja 2)))) (dl Jd))) (dl (Ja 1)) (Jo _))))) (Jf (Jk (Jl (dl (Ja 0)) (dl (Ja 2))))) JC) (Jf (Jk QO)))),?_⟩
 intro ts n R hl hh;obtain⟨bits,bs,a,rfl,b1,P,hl6,hh,hn⟩:=hh
 wp_walk using zlO b1 P hl6 (fun k k0 k1 k2=>?_)
 ·rw[Jz]at hc;have hm:k<bs.length:=by lia
  obtain⟨b,eb⟩:∃b,bs[k]?=some b:=⟨_,List.getElem?_eq_getElem hm⟩;refine ZH (k:=k) rfl (ZG eb) ?_
  wp_walk
  ·refine ZH (k:=k) rfl (ZG eb) ?_;exact hh b (List.mem_of_getElem? eb) (by assumption) (k2 k b (Nat.le_refl _) eb)
  ·have hx:¬b.1<=a:=hc;refine hn fun x hm' ⟨x0,x1⟩=>?_
   obtain⟨j,ej,rfl⟩:=List.getElem_of_mem hm';have ej':=List.getElem?_eq_getElem ej
   by_cases z:j<k
   ·have:=k1 j _ z ej';lia
   ·by_cases y:j=k
    ·subst y;rw[ej']at eb;cases eb;exact hx x0
    ·obtain⟨l1,rfl⟩:=List.getElem?_eq_some_iff.mp eb;have:=List.pairwise_iff_getElem.mp P.2 k j l1 ej (by lia)
     have:=Qu bs[k];exact hx (by lia)
 ·rw[Jz]at hc;refine hn fun x hm' ⟨x0,x1⟩=>?_
  obtain⟨j,ej,rfl⟩:=List.getElem_of_mem hm';have:=k1 j _ (by lia) (List.getElem?_eq_getElem ej)
  lia
theorem zgx:FnScope ["pairs"] ["pairs"] (Jj (top 34)):=⟨rfl,rfl,rfl,by decide +kernel,rfl,by decide +kernel,by decide +kernel⟩
def Wn:GD:=fun ts n R=>∃xs:List (PyData×PyData),ts=[.tuple (ppD xs)]/\xs.length<=1000000/\R (.tuple (xs.map (·.1))) n
theorem zc0{xs:List (PyData×PyData)}{n:Nat}{R:qN}(l:xs.length<=1000000)(h:R (.tuple (xs.map (·.1))) n):Wn [.tuple (ppD xs)] n R:=⟨xs,rfl,l,h⟩
def Wr(Z:ZZ):Prop:=FQ Z "all_blocks" (top 34) ["pairs"] 1 (spD Z.K 1 Wn)
theorem zgL(D:Dq Z.K Z.mg "all_blocks" (top 34) ["pairs"]) (T:Txt Z.mg):Wr Z:=by
 refine' okQ D zgx rfl fun f cdv A outer s H E hr=>⟨_,(Jf (Jk (QM Ue Q9 T.tup Qq (Jp (dl (Js (JT (own:=["block","name"]) (capt:=[]) rfl (CompScope.of rfl) (dil (Qo (Ja 0))) (fun _ _ _ _=>(JJ rfl (Jn (Ji (i:=0) (by show(["block","name"]:List Str).Nodup;decide +kernel) rfl (Or.inl rfl)) (Jn (Ji (i:=1) (by show(["block","name"]:List Str).Nodup;decide +kernel) rfl (Or.inl rfl)) JH)))) (by decide) (fun _ _ _ _=>JW) (fun _ _ _ _=>(Ja 0))))) Jq J9)))),?_⟩
 intro ts n R hl h;obtain⟨xs,rfl,l,h⟩:=h
 wp_walk
 refine Qs (cs:=xs) (D:=fun p=>.tuple [p.1,p.2]) (fun p=>p.1) (by lia) ?_ ?_
 ·intro p hp K2 X2 hK2
  wp_walk
  exact hK2
 ·wp_walk
  exact h
theorem zk5:FnScope ["thing"] ["thing"] (Jj (top 32)):=⟨rfl,rfl,rfl,by decide +kernel,rfl,by decide +kernel,by decide +kernel⟩
def U5:PyData->Bool
 | .tuple [_,_]=>true
 | _=>false
def zio:GD:=fun ts n R=>∃d,ts=[d]/\Pln d/\R (.bool (U5 d)) n
theorem znN{d:PyData}{n:Nat}{R:qN}(p:Pln d)(h:R (.bool (U5 d)) n):zio [d] n R:=⟨d,rfl,p,h⟩
def zhE(Z:ZZ):Prop:=FQ Z "is_pair" (top 32) ["thing"] 1 (spD Z.K 1 zio)
theorem zlg(D:Dq Z.K Z.mg "is_pair" (top 32) ["thing"]) (T:Txt Z.mg):zhE Z:=by
 refine' okQ D zk5 rfl fun f cdv A outer s H E hr=>⟨_,(Jf (Jk (QH (UF Z0 T.isi T.tup Qq (dl (Ja 0)) Jc) (QP (JZ (QC hr) QA (dl (JB QE QB T.len Qy (Jp (dl (Ja 0)) Jq Jc))) (dl Jd) (Jo _)))))),?_⟩
 intro ts n R hl h;obtain⟨d,rfl,p,h⟩:=h;cases d with
 | tuple ts =>
  have e:U5 (.tuple ts)=decide ((ts.length:Int)=2):=by
   match ts with
   | []=>rfl
   | [_]=>rfl
   | [_,_]=>rfl
   | _::_::_::r =>
    symm
    show decide _=false
    rw[decide_eq_false_iff_not];simp only[List.length_cons];lia
  rw[e]at h
  wp_walk
  exact h
 | dict ks =>
  cases ks with
  | nil =>
   wp_walk
   exact h
  | cons a b=>exact absurd rfl p
 | _ =>
  wp_walk
  exact h
theorem zgw:FnScope ["bits","thing"] ["bits","thing"] (Jj (top 31)):=⟨rfl,rfl,rfl,by decide +kernel,rfl,by decide +kernel,by decide +kernel⟩
theorem zhJ:∀(ts:qD),ts.all U5=true->∃xs,ts=ppD xs
 | [],_=>⟨[],rfl⟩
 | t::ts,h=>by
  rw[List.all_cons,Bool.and_eq_true]at h;obtain⟨xs,rfl⟩:=zhJ ts h.2;have h1:=h.1;unfold U5 at h1;split at h1
  ·rename_i a b;exact⟨(a,b)::xs,rfl⟩
  ·cases h1
theorem zr9:∀{xs:List (PyData×PyData)}{bs:qB},xs.map (·.1)=pD bs->(∀p∈xs,nmD p.2=true)->∃os,ppD xs=oD os/\os.map (·.1)=bs/\∀p∈os,IsNm p.2
 | [],[],_,_=>⟨[],rfl,rfl,fun p hp=>nomatch hp⟩
 | [],_::_,h,_=>by cases h
 | _::_,[],h,_=>by cases h
 | (a,b)::xs,c::bs,h,hn=>by
  simp only[pD,List.map_cons,List.cons.injEq]at h;obtain⟨rfl,h⟩:=h;obtain⟨os,e1,e2,e3⟩:=zr9 (xs:=xs) (bs:=bs) h fun p hp=>hn p (by simp[hp])
  have hb:=hn (prD c,b) (by simp)
  have hb:nmD b=true:=hb;cases b with
  | str s =>
   refine⟨(c,s)::os,?_,?_,?_⟩
   ·show PyData.tuple [prD c,.str s]::ppD xs=PyData.tuple [prD c,.str s]::oD os
    rw[e1]
   ·simp[e2]
   ·intro p hp;rcases List.mem_cons.mp hp with rfl|hp
    ·exact zmQ.mp hb
    ·exact e3 p hp
  | _=>cases hb
theorem zoF{d:PyData}(h:PlnD d):Pl2 d:=⟨h.pln,fun ts e t ht=>by subst e;exact(h.tup.2 t ht).pln⟩
theorem zoE{d:PyData}(h:PlnD d):Pl3 d:=⟨h.pln,fun ts e=>by subst e;exact⟨h.tup.1,fun t ht=>zoF (h.tup.2 t ht)⟩⟩
def zey:GD:=fun ts n R=>∃(bits:Int) (d:PyData),ts=[.int bits,d]/\0<=bits/\bits<=64/\PlnD d/\∀b:Bool,(b=true↔IsSh bits d)->R (.bool b) n
theorem zeB{bits:Int}{d:PyData}{n:Nat}{R:qN}(b0:0<=bits)(b1:bits<=64)(p:PlnD d)(h:∀b:Bool,(b=true↔IsSh bits d)->R (.bool b) n):zey [.int bits,d] n R:=⟨bits,d,rfl,b0,b1,p,h⟩
def zer(Z:ZZ):Prop:=FQ Z "are_shares" (top 31) ["bits","thing"] 4 (spD Z.K 2 zey)
theorem zgK(D:Dq Z.K Z.mg "are_shares" (top 31) ["bits","thing"]) (h_is_patch:zf7 Z) (h_all_blocks:Wr Z) (h_is_name:zhF Z) (h_is_pair:zhE Z) (T:Txt Z.mg):zer Z:=by
 refine' okQ D zgw rfl fun f cdv A outer s H E hr=>⟨_,(Jh (Jy (Qm (Uh (J7 (J3 (dl (UF Z0 T.isi T.tup Qq (dl (Ja 1)) Jc)))) (Uk (J7 (J3 (dl (JB (Ut rfl) Ul T.all Us (Jp (dl (Js (JT (own:=["pair"]) (capt:=[]) rfl (CompScope.of rfl) (dil (Qo (Ja 1))) (fun _ _ _ _=>(Ji (i:=0) (by show(["pair"]:List Str).Nodup;decide +kernel) rfl (Or.inl rfl))) (by decide) (fun _ _ _ _=>JW) (fun _ _ _ _=>(Jg h_is_pair hr (Jb (Ja 0) Je Jc)))))) Jq J9)))))))) (Jf (Jk JR)) JC) (Jf (Jk (QH (Jg h_is_patch hr (Jb (Ja 0) (Jb (Jg h_all_blocks hr (Jb (Ja 1) Je Jc)) Je Jv) Jc)) (QP (JB (Ut rfl) Ul T.all Us (Jp (dl (Js (JT (own:=["block","name"]) (capt:=[]) rfl (CompScope.of rfl) (dil (Qo (Ja 1))) (fun _ _ _ _=>(JJ rfl (Jn (Ji (i:=0) (by show(["block","name"]:List Str).Nodup;decide +kernel) rfl (Or.inl rfl)) (Jn (Ji (i:=1) (by show(["block","name"]:List Str).Nodup;decide +kernel) rfl (Or.inl rfl)) JH)))) (by decide) (fun _ _ _ _=>JW) (fun _ _ _ _=>(Jg h_is_name hr (Jb (Ja 1) Je Jc)))))) Jq J9))))))),?_⟩
 intro ts n R hl h;obtain⟨bits,d,rfl,b0,b1,p,h⟩:=h;cases d with
 | dict ks =>
  cases ks with
  | nil =>
   have h:=h false ⟨fun z=>(by cases z),fun⟨bs,e,_⟩=>(by cases e)⟩
   wp_walk
   exact h
  | cons a b=>exact absurd rfl p.pln
 | tuple ts =>
  obtain⟨l6,p3⟩:=p.tup
  wp_walk
  refine zgm (fun t=>.bool (U5 t)) (by lia) ?_ ?_
  ·intro t ht K2 X2 hK2
   wp_walk using znN (p3 t ht).pln ?_
   exact hK2
  ·wp_walk using Um ?_
   ·obtain⟨xs,rfl⟩:=zhJ ts hc;have lx:xs.length<=1000000:=by simpa[ppD] using l6
    have px:∀q∈xs,PlnD q.1/\PlnD q.2:=fun q hq=>by
     have:=(p3 (.tuple [q.1,q.2]) (List.mem_map.mpr ⟨q,hq,rfl⟩)).tup.2;exact⟨this _ (by simp),this _ (by simp)⟩
    have pl:Pl3 (.tuple (xs.map (·.1))):=zoE (Z2 (by rw[List.length_map];exact lx) fun t ht=>by
     obtain⟨q,hq,rfl⟩:=List.mem_map.mp ht;exact(px q hq).1)
    wp_walk using zc0 lx ?_,zlL b0 b1 pl (fun b hb=>?_)
    ·rename_i hbt;obtain⟨bs,eb,P⟩:=hb.mp hc;refine Qs (cs:=xs) (D:=fun p=>.tuple [p.1,p.2]) (fun p=>.bool (nmD p.2)) (by lia) ?_ ?_
     ·intro q hq K2 X2 hK2
      wp_walk using znO (px q hq).2 ?_
      exact hK2
     ·wp_walk using Um ?_
      refine h _ ?_;rw[List.all_eq_true];constructor
      ·intro al;obtain⟨os,e1,e2,e3⟩:=zr9 (bs:=bs) (PyData.tuple.inj eb) al;exact⟨os,by rw[e1],by rw[e2];exact P,e3⟩
      ·rintro⟨os,e,S⟩ q hq;have e':ppD xs=oD os:=PyData.tuple.inj e;rw[Vj]at e';have:=zi0 e';subst this;obtain⟨o,ho,rfl⟩:=List.mem_map.mp hq;exact zmQ.mpr (S.2 o ho)
    ·have hbf:b=false:=hc;refine h false ⟨fun z=>(by cases z),fun⟨os,e,S⟩=>?_⟩
     have e':ppD xs=oD os:=PyData.tuple.inj e;rw[Vj]at e';have:=zi0 e';subst this;have:IsPt bits (.tuple ((os.map fun p=>(prD p.1,PyData.str p.2)).map (·.1))):=⟨os.map (·.1),by simp[pD],S.1⟩
     rw[hb.mpr this]at hbf;cases hbf
   ·refine h false ⟨fun z=>(by cases z),fun⟨os,e,S⟩=>?_⟩
    cases e;have:(oD os).all U5=true:=by
     rw[List.all_eq_true];intro x hx;obtain⟨o,_,rfl⟩:=List.mem_map.mp hx
     rfl
    rw[this]at hc;cases hc
 | _ =>
  have h:=h false ⟨fun z=>(by cases z),fun⟨bs,e,_⟩=>(by cases e)⟩
  wp_walk
  exact h
theorem Uv:FnScope ["outs","kept","at","by","one","name","other","theirs"] ["outs","kept"] (Jj (top 33)):=⟨rfl,rfl,rfl,by decide +kernel,rfl,by decide +kernel,by decide +kernel⟩
def znj:GD:=fun ts n R=>∃(bits:Int) (os ks:List ((Int×Int)×Str)),ts=[.tuple (oD os),.tuple (oD ks)]/\0<=bits/\bits<=64/\os.length<=1000000/\ks.length<=1000000/\Shr bits os/\Shr bits ks/\∀b:Bool,(b=true↔Agr os ks)->R (.bool b) n
theorem zrh{bits:Int}{os ks:List ((Int×Int)×Str)}{n:Nat}{R:qN}(b0:0<=bits)(b1:bits<=64)(l1:os.length<=1000000)(l2:ks.length<=1000000)(S1:Shr bits os)(S2:Shr bits ks)(h:∀b:Bool,(b=true↔Agr os ks)->R (.bool b) n):znj [.tuple (oD os),.tuple (oD ks)] n R:=⟨bits,os,ks,rfl,b0,b1,l1,l2,S1,S2,h⟩
def zmg(Z:ZZ):Prop:=FQ Z "agree" (top 33) ["outs","kept"] 4 (spD Z.K 2 znj)
theorem zoR(D:Dq Z.K Z.mg "agree" (top 33) ["outs","kept"]) (h_end_of:Zr Z) (h_apart:ziW Z) (T:Txt Z.mg):zmg Z:=by
 refine' okQ D Uv rfl fun f cdv A outer s H E hr=>⟨_,(Jh (Jx (i:=2) Uv.nd rfl (Or.inl rfl) Jd) (Jh (Jx (i:=3) Uv.nd rfl (Or.inl rfl) Jd) (Jh (VZ PassesOwn.never (Qm (Y3 (Jt (J5 hr) J4 (dl (Ja 2)) (dl (JB QE QB T.len Qy (Jp (dl (Ja 0)) Jq Jc))) (Jo _)) (Zh (Jt (J5 hr) J4 (dl (Ja 3)) (dl (JB QE QB T.len Qy (Jp (dl (Ja 1)) Jq Jc))) (Jo _))))) (Jh (QQ (Jl (dl (Ja 0)) (dl (Ja 2))) (JJ rfl (Jn (Ji (i:=4) Uv.nd rfl (Or.inl rfl)) (Jn (Ji (i:=5) Uv.nd rfl (Or.inl rfl)) JH)))) (Jh (QQ (Jl (dl (Ja 1)) (dl (Ja 3))) (JJ rfl (Jn (Ji (i:=6) Uv.nd rfl (Or.inl rfl)) (Jn (Ji (i:=7) Uv.nd rfl (Or.inl rfl)) JH)))) (Jh (Jy (Qm (Y3 (Jt (Ys hr) U4 (dl (Ja 5)) (dl (Ja 7)) (Jo _)) (Zh (J7 (J3 (dl (Jg h_apart hr (Jb (Ja 4) (Jb (Ja 6) Je Jc) Jc)))))))) (Jf (Jk JR)) JC) (Jf (Jy (Jt (J5 hr) J4 (dl (Jg h_end_of hr (Jb (Ja 4) Je Jc))) (dl (Jg h_end_of hr (Jb (Ja 6) Je Jc))) (Jo _)) (Jf (VB (i:=2) Uv.nd rfl (Or.inl rfl) Jd Vq)) (Jf (VB (i:=3) Uv.nd rfl (Or.inl rfl) Jd Vq)))))))) (Jf (Jk JR))))),?_⟩
 intro ts n R hl h;obtain⟨bits,os,ks,rfl,b0,b1,l1,l2,S1,S2,h⟩:=h
 wp_walk
 refine ziM (fun m ρ n'=>n'=n/\∃(at_ by_:Nat) (c4 c5 c6 c7:Option Cell),ρ=[some (.val (.tuple (oD os))),some (.val (.tuple (oD ks))),some (.val (.int at_)),some (.val (.int by_)),c4,c5,c6,c7]/\m=(os.length - at_)+(ks.length - by_)/\at_<=os.length/\by_<=ks.length /\
   (∀(i:Nat) p,i<at_->os[i]?=some p->∀q∈ks,okPr p q)/\(∀(j:Nat) q,j<by_->ks[j]?=some q->∀p∈os,okPr p q)) ⟨rfl,0,0,_,_,_,_,rfl,rfl,by lia,by lia,fun i p hi=>absurd hi (Nat.not_lt_zero _),fun i p hi=>absurd hi (Nat.not_lt_zero _)⟩ ?_
 rintro m ρ n' NX RT BK ⟨rfl,at_,by_,c4,c5,c6,c7,rfl,rfl,la,lb,I1,I2⟩ hN hR hB;have fin:(∀p∈os,∀q∈ks,okPr p q)->∀ρ,BK ρ n':=fun al ρ=>hB _ _ (h true ⟨fun _=>al,fun _=>rfl⟩)
 have A1:(∀(i:Nat) p,i<at_->os[i]?=some p->∀q∈ks,okPr p q)->os.length<=at_->∀p∈os,∀q∈ks,okPr p q:=fun I le p hp q hq=>by
  obtain⟨i,hi,rfl⟩:=List.getElem_of_mem hp;exact I i _ (by lia) (List.getElem?_eq_getElem hi) q hq
 have A2:(∀(j:Nat) q,j<by_->ks[j]?=some q->∀p∈os,okPr p q)->ks.length<=by_->∀p∈os,∀q∈ks,okPr p q:=fun I le p hp q hq=>by
  obtain⟨i,hi,rfl⟩:=List.getElem_of_mem hq;exact I i _ (by lia) (List.getElem?_eq_getElem hi) p hp
 wp_walk
 ·rename_i ha;rw[Q0]at ha hc;have ha:at_<os.length:=by lia
  have hb:by_<ks.length:=by lia
  obtain⟨p,ep⟩:∃p,os[at_]?=some p:=⟨_,List.getElem?_eq_getElem ha⟩;obtain⟨q,eq⟩:∃q,ks[by_]?=some q:=⟨_,List.getElem?_eq_getElem hb⟩;have hp:=List.mem_of_getElem? ep;have hq:=List.mem_of_getElem? eq;have Bp:=S1.1.1 _ (List.mem_map.mpr ⟨p,hp,rfl⟩);have Bq:=S2.1.1 _ (List.mem_map.mpr ⟨q,hq,rfl⟩);have p0:=Bp.1;have p1:=Bp.2.1;have q0:=Bq.1;have q1:=Bq.2.1;have pl:=Bp.lt b0 b1;have ql:=Bq.lt b0 b1;have ap:=zpS Bp Bq
  have goA:okPr p q->eB p.1<eB q.1->∀a b c d,NX [some (.val (.tuple (oD os))),some (.val (.tuple (oD ks))),some (.val (.int (at_+1))),some (.val (.int by_)),a,b,c,d] n':=fun ok lt a b c d=>by
   refine hN ((os.length - (at_+1))+(ks.length - by_)) _ _ (by lia) ⟨rfl,at_+1,by_,a,b,c,d,rfl,rfl,by lia,lb,fun i r hi er s hs=>?_,I2⟩
   by_cases z:i=at_
   ·subst z;rw[ep]at er;cases er;obtain⟨j,hj,rfl⟩:=List.getElem_of_mem hs;rcases Nat.lt_trichotomy j by_ with y|y|y
    ·exact I2 j _ y (List.getElem?_eq_getElem hj) p hp
    ·subst y;rw[List.getElem?_eq_getElem hj]at eq;cases eq;exact ok
    ·right;left
     have pw:=List.pairwise_map.mp S2.1.2;have:=List.pairwise_iff_getElem.mp pw by_ j hb hj y;rw[List.getElem?_eq_getElem hb]at eq;cases eq;lia
   ·exact I1 i r (by lia) er s hs
  have goB:okPr p q->¬eB p.1<eB q.1->∀a b c d,NX [some (.val (.tuple (oD os))),some (.val (.tuple (oD ks))),some (.val (.int at_)),some (.val (.int (by_+1))),a,b,c,d] n':=fun ok lt a b c d=>by
   refine hN ((os.length - at_)+(ks.length - (by_+1))) _ _ (by lia) ⟨rfl,at_,by_+1,a,b,c,d,rfl,rfl,la,by lia,I1,fun i r hi er s hs=>?_⟩
   by_cases z:i=by_
   ·subst z;rw[eq]at er;cases er;obtain⟨j,hj,rfl⟩:=List.getElem_of_mem hs;rcases Nat.lt_trichotomy j at_ with y|y|y
    ·exact I1 j _ y (List.getElem?_eq_getElem hj) q hq
    ·subst y;rw[List.getElem?_eq_getElem hj]at ep;cases ep;exact ok
    ·right;right
     have pw:=List.pairwise_map.mp S1.1.2;have:=List.pairwise_iff_getElem.mp pw at_ j ha hj y;rw[List.getElem?_eq_getElem ha]at ep;cases ep;lia
   ·exact I2 i r (by lia) er s hs
  wp_walk using ZH (k:=at_) rfl (zsF ep) ?_,ZH (k:=by_) rfl (zsF eq) ?_,znQ p0 (by lia) q0 (by lia) pl.1 (by lia) ql.1 (by lia) ?_,YJ p0 (by lia) ?_,YJ q0 (by lia) ?_
  ·rename_i y;exact goA (.inl y) hc _ _ _ _
  ·rename_i y;exact goB (.inl y) hc _ _ _ _
  ·rename_i y;exact goA (.inr (ap.mp y)) hc _ _ _ _
  ·rename_i y;exact goB (.inr (ap.mp y)) hc _ _ _ _
  ·rename_i y;refine hR _ _ (h false ⟨fun z=>(by cases z),fun al=>?_⟩)
   rcases al p hp q hq with z|z
   ·exact absurd z y
   ·rw[ap.mpr z]at hc;cases hc
 ·rw[Q0]at hc;exact fin (A2 I2 (by lia)) _
 ·rw[Q0]at hc;exact fin (A1 I1 (by lia)) _
theorem Wq:FnScope ["thing","bits","outs","kept"] ["thing"] (Jj (top 27)):=⟨rfl,rfl,rfl,by decide +kernel,rfl,by decide +kernel,by decide +kernel⟩
def zfy:GD:=fun ts n R=>∃(d:PyData),ts=[d]/\PlnD d/\∀b:Bool,(b=true↔IsDl d)->R (.bool b) n
theorem zlM{d:PyData}{n:Nat}{R:qN}(p:PlnD d)(i:IsDl d)(h:R (.bool true) n):zfy [d] n R:=⟨d,rfl,p,fun b hb=>by rw[hb.mpr i];exact h⟩
def zhG(Z:ZZ):Prop:=FQ Z "is_deal" (top 27) ["thing"] 5 (spD Z.K 1 zfy)
theorem zli(D:Dq Z.K Z.mg "is_deal" (top 27) ["thing"]) (h_are_shares:zer Z) (h_agree:zmg Z) (h_is_whole:zee Z) (T:Txt Z.mg):zhG Z:=by
 refine' okQ D Wq rfl fun f cdv A outer s H E hr=>⟨_,(Jh (Jy (Qm (Uh (J7 (J3 (dl (UF Z0 T.isi T.tup Qq (dl (Ja 0)) Jc)))) (Uk (Jt (Ys hr) U4 (dl (JB QE QB T.len Qy (Jp (dl (Ja 0)) Jq Jc))) (dl Jd) (Jo _))))) (Jf (Jk JR)) JC) (Jh (QQ (Ja 0) (JJ rfl (Jn (Ji (i:=1) Wq.nd rfl (Or.inl rfl)) (Jn (Ji (i:=2) Wq.nd rfl (Or.inl rfl)) (Jn (Ji (i:=3) Wq.nd rfl (Or.inl rfl)) JH))))) (Jh (Jy (Qm (Uh (J7 (J3 (dl (Jg h_is_whole hr (Jb (Ja 1) Je Jc))))) (Uk (J7 (zg8 Qd Qc Qd Qc (dl Jd) (dl (Ja 1)) (dl Jd)))))) (Jf (Jk JR)) JC) (Jf (Jk (QH (Jg h_are_shares hr (Jb (Ja 1) (Jb (Ja 2) Je Jc) Jc)) (QH (Jg h_are_shares hr (Jb (Ja 1) (Jb (Ja 3) Je Jc) Jc)) (QP (Jg h_agree hr (Jb (Ja 2) (Jb (Ja 3) Je Jc) Jc)))))))))),?_⟩
 intro ts n R hl h;obtain⟨d,rfl,p,h⟩:=h;have no':¬IsDl d->R (.bool false) n:=fun hn=>h false ⟨fun z=>(by cases z),fun z=>absurd z hn⟩
 have no:(∀d',d≠dlD d')->R (.bool false) n:=fun hn=>no' fun⟨d',e,_⟩=>hn d' e
 cases d with
 | dict ks =>
  cases ks with
  | nil =>
   have h:=no fun _ z=>(by cases z)
   wp_walk
   exact h
  | cons a b=>exact absurd rfl p.pln
 | tuple ts =>
  obtain⟨l6,p3⟩:=p.tup
  match ts,p3,h,no,no' with
  | [],_,h,no,_ =>
   have h:=no fun _ z=>(by cases z)
   wp_walk
   all_goals first|exact h|(exfalso;simp at hc;done)
  | [x],_,h,no,_ =>
   have h:=no fun _ z=>(by cases z)
   wp_walk
   all_goals first|exact h|(exfalso;simp at hc;done)
  | [x,y],_,h,no,_ =>
   have h:=no fun _ z=>(by cases z)
   wp_walk
   all_goals first|exact h|(exfalso;simp at hc;done)
  | x::y::z::u::r,_,h,no,_ =>
   have h:=no fun _ z=>(by cases z)
   wp_walk
   all_goals first|exact h|(exfalso;simp at hc;lia)
  | [x,y,z],p3,h,no,no' =>
   have px:=p3 x (by simp)
   have py:=p3 y (by simp)
   have pz:=p3 z (by simp)
   have wx:(∃b,x=.int b)\/(ZC x=false/\∀b,x≠.int b):=by
    cases x with
    | int b=>exact .inl ⟨b,rfl⟩
    | _=>exact .inr ⟨rfl,fun _ z=>by cases z⟩
   rcases wx with⟨bits,rfl⟩|⟨wx,nx⟩
   ·wp_walk using YM (b:=true) rfl px.pln ?_
    ·rename_i hb1;refine zeB (by lia) hc py fun b hb=>?_
     wp_walk
     ·obtain⟨os,rfl,S1⟩:=hb.mp (by assumption)
      refine zeB (by lia) (by lia) pz fun b' hb'=>?_
      wp_walk
      ·obtain⟨ks,rfl,S2⟩:=hb'.mp (by assumption)
       refine zrh (bits:=bits) (by lia) (by lia) (by rw[<- Q0];exact py.tup.1) (by rw[<- Q0];exact pz.tup.1) S1 S2 fun b'' hb''=>h _ ⟨fun z=>?_,fun⟨d,e,D⟩=>?_⟩
       ·exact⟨(bits,os,ks),rfl,hb1,by lia,S1,S2,hb''.mp z⟩
       ·obtain⟨e1,e2,e3⟩:=dl3 e;have z1:=zmP (PyData.tuple.inj e2);have z2:=zmP (PyData.tuple.inj e3);refine hb''.mpr ?_;rw[z1,z2];exact D.2.2.2.2
      ·have hf:b'=false:=by assumption
       refine no' fun⟨d',e,D⟩=>?_
       obtain⟨e1,e2,e3⟩:=dl3 e;have e1:bits=d'.1:=by cases e1;rfl
       have:=hb'.mpr ⟨_,e3,by rw[e1];exact D.2.2.2.1⟩
       rw[this]at hf;cases hf
     ·have hf:b=false:=by assumption
      refine no' fun⟨d',e,D⟩=>?_
      obtain⟨e1,e2,e3⟩:=dl3 e;have e1:bits=d'.1:=by cases e1;rfl
      have:=hb.mpr ⟨_,e2,by rw[e1];exact D.2.2.1⟩
      rw[this]at hf;cases hf
    ·refine no' fun⟨d',e,D⟩=>?_
     have e1:bits=d'.1:=by have:=(dl3 e).1;cases this;rfl
     have:=D.2.1;lia
    ·refine no' fun⟨d',e,D⟩=>?_
     have e1:bits=d'.1:=by have:=(dl3 e).1;cases this;rfl
     have:=D.1;lia
    ·exact absurd rfl hc
   ·have h:=no fun d' e=>nx _ (dl3 e).1
    wp_walk using YM wx px.pln ?_
    all_goals first|exact h|(exfalso;simp at hc;done)
 | _ =>
  have h:=no fun _ z=>(by cases z)
  wp_walk
  exact h
theorem zhu:FnScope ["deal","name"] ["deal","name"] (Jj (top 36)):=⟨rfl,rfl,rfl,by decide +kernel,rfl,by decide +kernel,by decide +kernel⟩
def zdv:GD:=fun ts n R=>∃(d:Deal) (nm:PyData),ts=[dlD d,nm]/\Qt nm/\(∀p∈d.2.2,IsNm p.2)/\d.2.2.length<=1000000/\R (.tuple (pD (Qh d nm))) n
theorem zjS{d:Deal}{nm:PyData}{n:Nat}{R:qN}(hw:Qt nm)(hn:∀p∈d.2.2,IsNm p.2)(l:d.2.2.length<=1000000)(h:R (.tuple (pD (Qh d nm))) n):zdv [dlD d,nm] n R:=⟨d,nm,rfl,hw,hn,l,h⟩
def zeZ(Z:ZZ):Prop:=FQ Z "kept_from" (top 36) ["deal","name"] 1 (spD Z.K 2 zdv)
theorem zhN(D:Dq Z.K Z.mg "kept_from" (top 36) ["deal","name"]) (T:Txt Z.mg):zeZ Z:=by
 refine' okQ D zhu rfl fun f cdv A outer s H E hr=>⟨_,(Jf (Jk (QM Ue Q9 T.tup Qq (Jp (dl (Js (JT (own:=["block","theirs"]) (capt:=[1]) rfl (CompScope.of rfl) (dil (Qo (Jl (dl (Ja 0)) (dl Jd)))) (fun _ _ _ _=>(JJ rfl (Jn (Ji (i:=0) (by show(["block","theirs","name"]:List Str).Nodup;decide +kernel) rfl (Or.inl rfl)) (Jn (Ji (i:=1) (by show(["block","theirs","name"]:List Str).Nodup;decide +kernel) rfl (Or.inl rfl)) JH)))) (by decide) (fun _ _ _ _=>(ZS (Jt (Ys hr) U4 (dl (Ja 1)) (dl (Ja 2)) (Jo _)))) (fun _ _ _ _=>(Ja 0))))) Jq J9)))),?_⟩
 intro ts n R hl h;obtain⟨d,nm,rfl,hw,hn,l,h⟩:=h;obtain⟨bits,os,ks⟩:=d;have l:ks.length<=1000000:=l;have hn:∀p∈ks,IsNm p.2:=hn;rw[show dlD (bits,os,ks)=.tuple [.int bits,.tuple (oD os),.tuple (oD ks)] from rfl]
 wp_walk
 refine Vd (cs:=ks) (D:=fun p=>.tuple [prD p.1,.str p.2]) (fun p=>!who p.2 nm) (fun p=>prD p.1) (by lia) ?_ ?_
 ·intro p hp K2 X2 hK2 hX2;rcases hw with rfl|⟨s,rfl,ns⟩
  ·wp_walk
   ·exact(Vi (hn p hp)).okd
   ·exact hK2 rfl
  ·wp_walk
   ·exact hX2 (by show(!decide (p.2=s))=false;rw[decide_eq_true hc];rfl)
   ·exact hK2 (by show(!decide (p.2=s))=true;rw[decide_eq_false hc];rfl)
 ·wp_walk
  have:((ks.filter fun p=>!who p.2 nm).map fun p=>prD p.1)=pD (Qh (bits,os,ks) nm):=by
   unfold pD Qh;rw[List.map_map];rfl
  rw[this];exact h
theorem Wl:FnScope ["deal","name","bits","outs","kept"] ["deal","name"] (Jj (top 28)):=⟨rfl,rfl,rfl,by decide +kernel,rfl,by decide +kernel,by decide +kernel⟩
def Free(d:Deal)(nm:PyData)(x:Int):Prop:=0<=x/\x<2 ^ d.1.toNat/\¬mB x (d.2.1.map (·.1))/\¬mB x (Qh d nm)
theorem zlB{d:Deal}{nm:PyData}:∀b∈Qh d nm,b∈d.2.2.map (·.1):=fun b hb=>by
 obtain⟨p,hp,rfl⟩:=List.mem_map.mp hb;exact List.mem_map.mpr ⟨p,(List.mem_filter.mp hp).1,rfl⟩
theorem zlC{d:Deal}{nm:PyData}:(Qh d nm).length<=d.2.2.length:=by
 unfold Qh;rw[List.length_map];exact List.length_filter_le _ _
def YQ:GD:=fun ts n R=>∃(d:Deal) (nm:PyData),ts=[dlD d,nm]/\Dl d/\Qt nm/\d.2.1.length+d.2.2.length<100000/\∀qs,CanP (Free d nm) qs->qs.length<=130*(d.2.1.length+d.2.2.length+1)->R (.tuple (pD qs)) n
theorem V7{d:Deal}{nm:PyData}{n:Nat}{R:qN}(D:Dl d)(hw:Qt nm)(l:d.2.1.length+d.2.2.length<100000)(h:∀qs,CanP (Free d nm) qs->qs.length<=130*(d.2.1.length+d.2.2.length+1)->R (.tuple (pD qs)) n):YQ [dlD d,nm] n R:=⟨d,nm,rfl,D,hw,l,h⟩
def Z6(Z:ZZ):Prop:=FQ Z "free_for" (top 28) ["deal","name"] 6 (spD Z.K 2 YQ)
theorem zi8(D:Dq Z.K Z.mg "free_for" (top 28) ["deal","name"]) (h_rest_of:zhD Z) (h_fewest:Zs Z) (h_all_blocks:Wr Z) (h_kept_from:zeZ Z) (T:Txt Z.mg):Z6 Z:=by
 refine' okQ D Wl rfl fun f cdv A outer s H E hr=>⟨_,(Jh (QQ (Ja 0) (JJ rfl (Jn (Ji (i:=2) Wl.nd rfl (Or.inl rfl)) (Jn (Ji (i:=3) Wl.nd rfl (Or.inl rfl)) (Jn (Ji (i:=4) Wl.nd rfl (Or.inl rfl)) JH))))) (Jf (Jk (Jg h_rest_of hr (Jb (Ja 2) (Jb (Jg h_fewest hr (Jb (JN (dl (Jg h_all_blocks hr (Jb (Ja 3) Je Jc))) (dl (Jg h_kept_from hr (Jb (Ja 0) (Jb (Ja 1) Je Jc) Jc)))) Je JP)) Je Jv) Jc))))),?_⟩
 intro ts n R hl h;obtain⟨d,nm,rfl,D,hw,l,h⟩:=h;obtain⟨bits,os,ks⟩:=d;obtain⟨b0,b1,S1,S2,ag⟩:=D;have b0:1<=bits:=b0;have b1:bits<=64:=b1;have S1:Shr bits os:=S1;have S2:Shr bits ks:=S2;have l:os.length+ks.length<100000:=l;have lk:=zlC (d:=(bits,os,ks)) (nm:=nm);have lk:(Qh (bits,os,ks) nm).length<=ks.length:=lk;have eo:(os.map fun p=>(prD p.1,PyData.str p.2)).map (·.1)=pD (os.map (·.1)):=by simp[pD]
 have B:Bks bits (os.map (·.1)++Qh (bits,os,ks) nm):=fun b hb=>by
  rcases List.mem_append.mp hb with z|z
  ·exact S1.1.1 b z
  ·exact S2.1.1 b (zlB b z)
 rw[show dlD (bits,os,ks)=.tuple [.int bits,.tuple (oD os),.tuple (oD ks)] from rfl]
 have kf:∀{n:Nat} {R:qN},R (.tuple (pD (Qh (bits,os,ks) nm))) n->zdv [.tuple [.int bits,.tuple (oD os),.tuple (oD ks)],nm] n R:=fun {n R} z=>zjS (d:=(bits,os,ks)) hw (fun p hp=>S2.2 p hp) (by show ks.length<=_;lia) z
 have ab:∀{n:Nat} {R:qN},R (.tuple (pD (os.map (·.1)))) n->Wn [.tuple (oD os)] n R:=fun {n R} z=>by
  rw[Vj];exact zc0 (by simp;lia) (by rw[eo];exact z)
 wp_walk using kf ?_,ab ?_
 ·rw[Jz,Jz,List.length_map];lia
 rw[Y6]
 wp_walk using Zk (.inr rfl) (by lia) b1 B ?_ (fun ps C lp=>?_)
 ·simp;lia
 have lp:ps.length<=os.length+ks.length:=by rw[List.length_append,List.length_map]at lp;lia
 have Bp:=(C.ptc (bits:=bits) (by lia) fun x hx=>Qf (by lia) B hx).1
 wp_walk using znM b0 b1 Bp (by lia) (fun qs Q lq=>?_)
 refine h qs ?_ (by show qs.length<=130*(os.length+ks.length+1);lia)
 obtain⟨rs,r1,r2,r3⟩:=Q;refine⟨rs,r1,fun x=>?_,r3⟩
 rw[r2];show(0<=x/\x<2 ^ bits.toNat/\¬mB x ps)↔Free (bits,os,ks) nm x
 rw[C.mem,Vu];show _↔0<=x/\x<2 ^ bits.toNat/\¬mB x (os.map (·.1))/\¬mB x (Qh (bits,os,ks) nm)
 constructor
 ·rintro⟨a,b,c⟩;exact⟨a,b,fun z=>c (.inl z),fun z=>c (.inr z)⟩
 ·rintro⟨a,b,c,e⟩;exact⟨a,b,fun z=>z.elim c e⟩
theorem zhw:FnScope ["pairs","name"] ["pairs","name"] (Jj (top 35)):=⟨rfl,rfl,rfl,by decide +kernel,rfl,by decide +kernel,by decide +kernel⟩
def zfz:GD:=fun ts n R=>∃(os:List ((Int×Int)×Str)) (nm:PyData),ts=[.tuple (oD os),nm]/\Qt nm/\(∀p∈os,IsNm p.2)/\os.length<=1000000/\R (.tuple (pD (ofName os nm))) n
theorem zjU{os:List ((Int×Int)×Str)}{nm:PyData}{n:Nat}{R:qN}(hw:Qt nm)(hn:∀p∈os,IsNm p.2)(l:os.length<=1000000)(h:R (.tuple (pD (ofName os nm))) n):zfz [.tuple (oD os),nm] n R:=⟨os,nm,rfl,hw,hn,l,h⟩
def ze1(Z:ZZ):Prop:=FQ Z "blocks_of" (top 35) ["pairs","name"] 1 (spD Z.K 2 zfz)
theorem zhP(D:Dq Z.K Z.mg "blocks_of" (top 35) ["pairs","name"]) (T:Txt Z.mg):ze1 Z:=by
 refine' okQ D zhw rfl fun f cdv A outer s H E hr=>⟨_,(Jf (Jk (QM Ue Q9 T.tup Qq (Jp (dl (Js (JT (own:=["block","theirs"]) (capt:=[1]) rfl (CompScope.of rfl) (dil (Qo (Ja 0))) (fun _ _ _ _=>(JJ rfl (Jn (Ji (i:=0) (by show(["block","theirs","name"]:List Str).Nodup;decide +kernel) rfl (Or.inl rfl)) (Jn (Ji (i:=1) (by show(["block","theirs","name"]:List Str).Nodup;decide +kernel) rfl (Or.inl rfl)) JH)))) (by decide) (fun _ _ _ _=>(ZS (Jt (QC hr) QA (dl (Ja 1)) (dl (Ja 2)) (Jo _)))) (fun _ _ _ _=>(Ja 0))))) Jq J9)))),?_⟩
 intro ts n R hl h;obtain⟨ks,nm,rfl,hw,hn,l,h⟩:=h
 wp_walk
 refine Vd (cs:=ks) (D:=fun p=>.tuple [prD p.1,.str p.2]) (fun p=>who p.2 nm) (fun p=>prD p.1) (by lia) ?_ ?_
 ·intro p hp K2 X2 hK2 hX2;rcases hw with rfl|⟨s,rfl,ns⟩
  ·wp_walk
   ·exact(Vi (hn p hp)).okd
   ·exact hX2 rfl
  ·wp_walk
   ·exact hK2 (by show decide (p.2=s)=true;rw[decide_eq_true hc])
   ·exact hX2 (by show decide (p.2=s)=false;rw[decide_eq_false hc])
 ·wp_walk
  have:((ks.filter fun p=>who p.2 nm).map fun p=>prD p.1)=pD (ofName ks nm):=by
   unfold pD ofName;rw[List.map_map];rfl
  rw[this];exact h
theorem zl4:FnScope ["deal","name"] ["deal","name"] (Jj (top 29)):=⟨rfl,rfl,rfl,by decide +kernel,rfl,by decide +kernel,by decide +kernel⟩
theorem zlj{os:List ((Int×Int)×Str)}{nm:PyData}:∀b∈ofName os nm,b∈os.map (·.1):=fun b hb=>by
 obtain⟨p,hp,rfl⟩:=List.mem_map.mp hb;exact List.mem_map.mpr ⟨p,(List.mem_filter.mp hp).1,rfl⟩
theorem zlk{os:List ((Int×Int)×Str)}{nm:PyData}:(ofName os nm).length<=os.length:=by
 unfold ofName;rw[List.length_map];exact List.length_filter_le _ _
def zg4:GD:=fun ts n R=>∃(d:Deal) (nm:PyData),ts=[dlD d,nm]/\Dl d/\Qt nm/\d.2.1.length<64/\∀qs,CanP (fun x=>mB x (ofName d.2.1 nm)) qs->qs.length<=d.2.1.length->R (.tuple (pD qs)) n
theorem zpn{d:Deal}{nm:PyData}{n:Nat}{R:qN}(D:Dl d)(hw:Qt nm)(l:d.2.1.length<64)(h:∀qs,CanP (fun x=>mB x (ofName d.2.1 nm)) qs->qs.length<=d.2.1.length->R (.tuple (pD qs)) n):zg4 [dlD d,nm] n R:=⟨d,nm,rfl,D,hw,l,h⟩
def zj8(Z:ZZ):Prop:=FQ Z "out_to" (top 29) ["deal","name"] 6 (spD Z.K 2 zg4)
theorem zmH(D:Dq Z.K Z.mg "out_to" (top 29) ["deal","name"]) (h_fewest:Zs Z) (h_blocks_of:ze1 Z) (T:Txt Z.mg):zj8 Z:=by
 refine' okQ D zl4 rfl fun f cdv A outer s H E hr=>⟨_,(Jf (Jk (Jg h_fewest hr (Jb (Jg h_blocks_of hr (Jb (Jl (dl (Ja 0)) (dl Jd)) (Jb (Ja 1) Je Jc) Q5)) Je Jv)))),?_⟩
 intro ts n R hl h;obtain⟨d,nm,rfl,D,hw,l,h⟩:=h;obtain⟨bits,os,ks⟩:=d;obtain⟨b0,b1,S1,S2,ag⟩:=D;have b0:1<=bits:=b0;have b1:bits<=64:=b1;have S1:Shr bits os:=S1;have l:os.length<64:=l;have lo:=zlk (os:=os) (nm:=nm);rw[show dlD (bits,os,ks)=.tuple [.int bits,.tuple (oD os),.tuple (oD ks)] from rfl]
 have S12:∀p∈os,IsNm p.2:=S1.2;have B:Bks bits (ofName os nm):=fun b hb=>S1.1.1 b (zlj b hb)
 wp_walk using zjU hw S12 (by lia) ?_,Zk (.inr rfl) (by lia) b1 B (by lia) (fun ps C lp=>?_)
 exact h ps C (by show ps.length<=os.length;lia)
theorem YO:FnScope ["deal","address","bits","outs","kept","word","pairs","block"] ["deal","address"] (Jj (top 30)):=⟨rfl,rfl,rfl,by decide +kernel,rfl,by decide +kernel,by decide +kernel⟩
def hT(w:Str)(nm:PyData)(b:Int×Int):PyData:=.tuple [.str w,nm,.tuple [.int b.1,.int b.2]]
def inB(a:Int)(b:Int×Int):Prop:=b.1<=a/\a<eB b
def HldS(d:Deal)(a:Int)(z:PyData):Prop :=
 (∃p∈d.2.1,inB a p.1/\z=hT "out" (.str p.2) p.1) \/
 ((∀p∈d.2.1,¬inB a p.1)/\∃p∈d.2.2,inB a p.1/\z=hT "kept" (.str p.2) p.1) \/
 ((∀p∈d.2.1,¬inB a p.1)/\(∀p∈d.2.2,¬inB a p.1)/\∃qs,CanP (Free d .none) qs/\∃b∈qs,inB a b/\z=hT "free" .none b)
def zg5:GD:=fun ts n R=>∃(d:Deal) (a:Int),ts=[dlD d,.int a]/\Dl d/\0<=a/\a<2 ^ d.1.toNat/\d.2.1.length+d.2.2.length<100000/\d.2.1.length+d.2.2.length<=1000/\∀z,HldS d a z->R z n
theorem zpo{d:Deal}{a:Int}{n:Nat}{R:qN}(D:Dl d)(a0:0<=a)(a1:a<2 ^ d.1.toNat)(l:d.2.1.length+d.2.2.length<100000)(l2:d.2.1.length+d.2.2.length<=1000)(h:∀z,HldS d a z->R z n):zg5 [dlD d,.int a] n R:=⟨d,a,rfl,D,a0,a1,l,l2,h⟩
theorem zdt{d:Deal}:Qh d .none=d.2.2.map (·.1):=by
 unfold Qh;congr 1;rw[List.filter_eq_self];intro p _
 rfl
theorem znk{d:Deal}{a:Int}(D:Dl d)(a0:0<=a)(a1:a<2 ^ d.1.toNat)(h1:∀p∈d.2.1,¬inB a p.1)(h2:∀p∈d.2.2,¬inB a p.1):Free d .none a:=by
 refine⟨a0,a1,?_,?_⟩
 ·rintro⟨b,hb,c1,c2⟩;obtain⟨p,hp,rfl⟩:=List.mem_map.mp hb;exact h1 p hp ⟨c1,c2⟩
 ·rw[zdt];rintro⟨b,hb,c1,c2⟩;obtain⟨p,hp,rfl⟩:=List.mem_map.mp hb;exact h2 p hp ⟨c1,c2⟩
theorem zmj:∀(os:List ((Int×Int)×Str)),prsT (oD os)=some (os.map fun p=>([Sum.inl p.1.1,Sum.inl p.1.2],PyData.str p.2))
 | []=>rfl
 | ((i,h),s)::os=>by
  have:=zmj os;simp only[oD,List.map_cons]at this ⊢;simp only[prsT,prD,tkD,ksD,keyD,this]
theorem zmO{bits:Int}{os:List ((Int×Int)×Str)}(S:Shr bits os):((os.map fun p=>(([Sum.inl p.1.1,Sum.inl p.1.2]:List Key),PyData.str p.2)).map (·.1)).Nodup:=by
 rw[List.map_map];have pw:=List.pairwise_map.mp S.1.2;refine List.pairwise_map.mpr (pw.imp ?_);intro a b h e;have e:([Sum.inl a.1.1,Sum.inl a.1.2]:List Key)=[Sum.inl b.1.1,Sum.inl b.1.2]:=e;simp only[List.cons.injEq,Sum.inl.injEq,and_true]at e;have:=Qu a.1;lia
theorem zvp{bits a:Int}{os:qB}(P:Ptc bits os){i j:Nat}{p q:Int×Int}(hp:os[i]?=some p)(hq:os[j]?=some q)(ip:inB a p)(iq:inB a q):i=j:=by
 obtain⟨hi,rfl⟩:=List.getElem?_eq_some_iff.mp hp;obtain⟨hj,rfl⟩:=List.getElem?_eq_some_iff.mp hq;have pw:=List.pairwise_iff_getElem.mp P.2;unfold inB at ip iq;rcases Nat.lt_trichotomy i j with h|h|h
 ·have:=pw i j hi hj h;lia
 ·exact h
 ·have:=pw j i hj hi h;lia
theorem zrJ{bits a:Int}{os:List ((Int×Int)×Str)}(S:Shr bits os){p q:(Int×Int)×Str}(hp:p∈os)(hq:q∈os)(ip:inB a p.1)(iq:inB a q.1):p=q:=by
 obtain⟨i,ei⟩:=List.mem_iff_getElem?.mp hp;obtain⟨j,ej⟩:=List.mem_iff_getElem?.mp hq;have e:=zvp S.1 (i:=i) (j:=j) (by rw[List.getElem?_map,ei];rfl) (by rw[List.getElem?_map,ej];rfl) ip iq
 subst e;rw[ei]at ej;exact Option.some.inj ej
def zj9(Z:ZZ):Prop:=FQ Z "holder" (top 30) ["deal","address"] 7 (spD Z.K 2 zg5)
theorem zmI(D:Dq Z.K Z.mg "holder" (top 30) ["deal","address"]) (h_block_with:zcJ Z) (h_all_blocks:Wr Z) (h_free_for:Z6 Z) (T:Txt Z.mg):zj9 Z:=by
 refine' okQ D YO rfl fun f cdv A outer s H E hr=>⟨_,(Jh (QQ (Ja 0) (JJ rfl (Jn (Ji (i:=2) YO.nd rfl (Or.inl rfl)) (Jn (Ji (i:=3) YO.nd rfl (Or.inl rfl)) (Jn (Ji (i:=4) YO.nd rfl (Or.inl rfl)) JH))))) (Jh (QZ PassesOwn.never rfl (Qo (JI (Jb (JI (Jb Ui (Jb (Ja 3) Je Jc) zlZ)) (Jb (JI (Jb Ui (Jb (Ja 4) Je Jc) zlZ)) Je V6) V6))) (JJ rfl (Jn (Ji (i:=5) YO.nd rfl (Or.inl rfl)) (Jn (Ji (i:=6) YO.nd rfl (Or.inl rfl)) JH))) (Jh (Jx (i:=7) YO.nd rfl (Or.inl rfl) (Jg h_block_with hr (Jb (Jg h_all_blocks hr (Jb (Ja 6) Je Jc)) (Jb (Ja 1) Je Jc) Jv))) (Jf (Jy (Jt zi3 zjK (dl (Ja 7)) (dl QO) (Jo _)) (Jf (Jk (JI (Jb (Ja 5) (Jb (znz 7 rfl hr.units T.dct (Ja 6)) (Jb (Ja 7) Je Jc) Q5) Jc)))) JC)))) (Jf (Jk (JI (Jb Ui (Jb QO (Jb (Jg h_block_with hr (Jb (Jg h_free_for hr (Jb (Ja 0) (Jb QO Je Zl) Jc)) (Jb (Ja 1) Je Jc) Jv)) Je Jv) Zl) zlZ)))))),?_⟩
 intro ts n R hl h;obtain⟨d,a,rfl,D,a0,a1,l,l2,h⟩:=h;have fn:=fun h1 h2=>znk (d:=d) (a:=a) D a0 a1 h1 h2
 have ff:∀{n:Nat} {R:qN},(∀qs,CanP (Free d .none) qs->qs.length<=130*(d.2.1.length+d.2.2.length+1)->R (.tuple (pD qs)) n)->YQ [dlD d,.none] n R:=fun {n R} z=>V7 D (.inl rfl) l z
 obtain⟨bits,os,ks⟩:=d;obtain⟨b0,b1,S1,S2,ag⟩:=D;have b0:1<=bits:=b0;have b1:bits<=64:=b1;have S1:Shr bits os:=S1;have S2:Shr bits ks:=S2;have l:os.length+ks.length<=1000:=l2;have ab:∀{os:List ((Int×Int)×Str)} {n:Nat} {R:qN},os.length<=1000->R (.tuple (pD (os.map (·.1)))) n->Wn [.tuple (oD os)] n R:=fun {os n R} l z=>by
  rw[Vj];have eo:(os.map fun p=>(prD p.1,PyData.str p.2)).map (·.1)=pD (os.map (·.1)):=by simp[pD]
  exact zc0 (by simp;lia) (by rw[eo];exact z)
 have P1:Ptc bits (os.map (·.1)):=S1.1;have P2:Ptc bits (ks.map (·.1)):=S2.1;have lm1:(os.map (·.1)).length<1000000:=by rw[List.length_map];lia
 have lm2:(ks.map (·.1)).length<1000000:=by rw[List.length_map];lia
 rw[show dlD (bits,os,ks)=.tuple [.int bits,.tuple (oD os),.tuple (oD ks)] from rfl]at *
 wp_walk
 refine ztK 5 6 7 (fun k _ _ _ m=>m=n/\(1<=k->∀p∈os,¬inB a p.1)/\(2<=k->∀p∈ks,¬inB a p.1)) ⟨rfl,fun z=>by lia,fun z=>by lia⟩ ?_ ?_
 ·rintro k t a5 a6 a7 m K RT BK et ⟨rfl,i0,i1⟩ hK hRT hBK;have cs:(k=0/\t=.tuple [.str "out",.tuple (oD os)])\/(k=1/\t=.tuple [.str "kept",.tuple (oD ks)]):=by
   rcases k with _|_|k
   ·exact .inl ⟨rfl,by simpa using et.symm⟩
   ·exact .inr ⟨rfl,by simpa using et.symm⟩
   ·simp at et
  rcases cs with⟨rfl,rfl⟩|⟨rfl,rfl⟩
  ·wp_walk using ab (by lia) ?_,Wm b1 P1 lm1 (fun b hb x0 x1=>?_) (fun hn=>?_)
   all_goals first|(exfalso;revert hc;simp[isNone];done)|skip
   ·obtain⟨p,hp,rfl⟩:=List.mem_map.mp hb;refine⟨_,_,.str p.2,zmj os,rfl,zmO S1,List.mem_map.mpr ⟨p,hp,rfl⟩,?_⟩
    wp_walk
    exact hRT _ _ (h _ (.inl ⟨p,hp,⟨x0,x1⟩,rfl⟩))
   exact hK _ _ _ _ ⟨rfl,fun _ p hp z=>hn p.1 (List.mem_map.mpr ⟨p,hp,rfl⟩) z,fun z=>by lia⟩
  ·wp_walk using ab (by lia) ?_,Wm b1 P2 lm2 (fun b hb x0 x1=>?_) (fun hn=>?_)
   all_goals first|(exfalso;revert hc;simp[isNone];done)|skip
   ·obtain⟨p,hp,rfl⟩:=List.mem_map.mp hb;refine⟨_,_,.str p.2,zmj ks,rfl,zmO S2,List.mem_map.mpr ⟨p,hp,rfl⟩,?_⟩
    wp_walk
    exact hRT _ _ (h _ (.inr (.inl ⟨i0 (by lia),p,hp,⟨x0,x1⟩,rfl⟩)))
   exact hK _ _ _ _ ⟨rfl,fun _=>i0 (by lia),fun _ p hp z=>hn p.1 (List.mem_map.mpr ⟨p,hp,rfl⟩) z⟩
 ·rintro a5 a6 a7 m ⟨rfl,i0,i1⟩;have F:=fn (i0 (by simp)) (i1 (by simp))
  wp_walk using ff (fun qs C lq=>?_)
  have Pq:=C.ptc (bits:=bits) (by lia) fun x hx=>⟨hx.1,hx.2.1⟩
  have lq:qs.length<=130*(os.length+ks.length+1):=lq;refine Wm b1 Pq (by lia) (fun b hb x0 x1=>?_) (fun hn=>?_)
  ·wp_walk
   exact h _ (.inr (.inr ⟨i0 (by simp),i1 (by simp),qs,C,b,hb,⟨x0,x1⟩,rfl⟩))
  ·obtain⟨b,hb,c1,c2⟩:=(C.mem a).mpr F;exact absurd ⟨c1,c2⟩ (hn b hb)
theorem scH:FnScope ["_law_script","_law_k","_law_cell"] ["_law_script","_law_k"] (Jj (top 38)):=⟨rfl,rfl,rfl,by decide +kernel,rfl,by decide +kernel,by decide +kernel⟩
theorem zhV{f:Addr}{fd:FuncData}(D:Def K mg "_law_hand" (top 38) ["_law_script","_law_k"] f fd) (T:Txt mg):FnOk P w K mg base CX0 1 f fd ["_law_script","_law_k"] (VG K):=by
 refine D.F.ok scH (fun vs H Q E h=>?_) (fun cdv A outer s H vs Q E hr h=>?_)
 ·obtain⟨a,ns,k,rfl,_⟩:=h
  rfl
 ·obtain⟨a,ns,k,rfl,hS,hl,k0,k1,q⟩:=h;refine⟨_,QG (Q4 (i:=2) scH.nd rfl (Or.inl rfl) JK)
   (QG (zp_ (ziX zsw (pv 1) (Vm ziB T.len Qy (pb_v 0 UC)) (Jo _)) (ZY (Q4 (i:=2) scH.nd rfl (Or.inl rfl) (Uy UI (pv 0) (pv 1) (fun _ _=>rfl)))) ziY)
   (ZY (Vx (zmr (zpz (JG Q1 (pv 2) (zsl ziC T.int boot_int (zso (zmu zsz (pv 2) (JG zst JK JK) (Jo _)) UC)))
    (zpz (JG Uq (JG Uq (JG Yr (pv 2) JK) (JG Q1 JK (pv 1))) JK) (pb_i UC))))))),?_⟩
  refine⟨_,rfl,_,rfl,a,_,rfl,.inl hS,_,_,rfl,rfl,_,rfl,?_⟩;have fin:∀c:Int,tRet (tLst (QN (tOp (rI CMul fun i j=>V.int (i*j)) (tVar 2) (tCB (fun xs H Q=>(∃i,xs=[.int i]/\Q (.int i) H)\/∃k,xs=[.bl k]/\Q (.int (if k then 1 else 0)) H) (QN (tOp (rI0 fun i j=>.bl (decide (j<=i))) (tVar 2) (tOp (rI CPow fun i j=>.int (i ^ j.toNat)) (tC (.int 10)) (tC (.int 18)))) tNil)))
    (QN (tOp (rI0 fun i j=>.int (i+j)) (tOp (rI0 fun i j=>.int (i+j)) (tOp (rI (fun _ j=>0<j) fun i j=>.int (i % j)) (tVar 2) (tC (.int 2305843009213693951))) (tOp (rI CMul fun i j=>V.int (i*j)) (tC (.int 7919)) (tVar 1))) (tC (.int 3))) (QN (tC (.int 0)) tNil))))
    { nx:=fun _ H'=>Q .non H',rt:=Q } [some (.ref a),some (.int k),some (.int c)] H:=by
   intro c;refine⟨_,rfl,_,rfl,_,_,rfl,rfl,⟨by decide,by decide,by decide⟩,_,_,rfl,rfl,.inr ⟨_,rfl,_,_,rfl,rfl,.inr ?_,?_⟩⟩
   ·split <;> decide
   ·refine⟨_,rfl,_,_,rfl,rfl,(by show(0:Int)<2305843009213693951;decide),_,rfl,_,_,rfl,rfl,.inl ⟨by decide,by decide⟩,_,_,rfl,rfl,_,_,rfl,rfl,(by show 3<=sizeLine;decide),fun l hn=>?_⟩
    refine q l _ hn ⟨_,_,_,Qe,?_,?_,Int.le_refl _,Int.le_refl _⟩ (zom hn)
    ·lia
    ·lia
  refine zs_ (fun c=>?_) (fun c=>?_)
  ·have hk:k.toNat<ns.length:=by rw[List.length_map]at c;lia
   refine⟨_,rfl,_,rfl,a,_,_,V.int (ns[k.toNat]),rfl,rfl,hS,?_,?_⟩
   ·exact zjY k0 (by rw[List.getElem?_map,List.getElem?_eq_getElem hk];rfl)
   ·exact fin _
  ·exact fin 0
def ze4(Z:ZZ):Prop:=FQ Z "_law_hand" (top 38) ["_law_script","_law_k"] 1 (VG Z.K)
theorem zgG(D:Dq Z.K Z.mg "_law_hand" (top 38) ["_law_script","_law_k"]) (T:Txt Z.mg):ze4 Z:=by
 obtain⟨f,fd,D⟩:=D;exact⟨f,fd,D,zhV D T⟩
theorem zhA{H:Hp}{hd:Addr}{o:HO}:zt2 hd H (upd H hd o):=fun b u e n=>by rw[Jw n];exact e
theorem scT:FnScope ["_law_hand_here","_law_many","_law_digit","_law_turn","_law_mixed","_law_other"] ["_law_hand_here","_law_many"] (Jj (top 39)):=⟨rfl,rfl,rfl,by decide +kernel,rfl,by decide +kernel,by decide +kernel⟩
theorem zoO{f:Addr}{fd:FuncData}(D:Def K mg "_law_take" (top 39) ["_law_hand_here","_law_many"] f fd) (T:Txt mg):FnOk P w K mg base CX0 1 f fd ["_law_hand_here","_law_many"] zpv:=by
 refine D.F.ok scT (fun vs H Q E h=>?_) (fun cdv A outer s H vs Q E hr h=>?_)
 ·obtain⟨hd,many,n,rfl,_⟩:=h
  rfl
 ·obtain⟨hd,many,n,rfl,⟨d,m,t,hh,m0,m1,t0,t1⟩,hn,y0,y1,q⟩:=h;refine⟨_,QG (zp_ (ziX Vl (Uy UI (pv 0) JK (fun _ _=>rfl)) JK (Jo _))
    (QG (Q4 (i:=2) scT.nd rfl (Or.inl rfl) (JG Yr (Uy UI (pv 0) JK (fun _ _=>rfl)) (pv 1)))
    (QG (Vw (JG V3 (Uy UI (pv 0) JK (fun _ _=>rfl)) (pv 1)) (pg_sub (pv 0) JK set_list))
    (ZY (Vx (pv 2))))) ziY)
   (QG (Vw (JG Uq (Uy UI (pv 0) JK (fun _ _=>rfl)) JK) (pg_sub (pv 0) JK set_list))
   (QG (Q4 (i:=3) scT.nd rfl (Or.inl rfl) (Uy UI (pv 0) JK (fun _ _=>rfl)))
   (QG (Q4 (i:=4) scT.nd rfl (Or.inl rfl) (JG Yr (JG Q1 (Uy UI (pv 0) JK (fun _ _=>rfl)) (JG Uq (JG Uq JK (JG Q1 (JG Q1 JK (pv 3)) (pv 3))) (JG Q1 JK (pv 3)))) JK))
   (QG (Q4 (i:=5) scT.nd rfl (Or.inl rfl) (JG Uq (JG Uq (JG Yr (pv 4) JK) (JG Q1 (pv 3) JK)) JK))
   (QG (Q4 (i:=4) scT.nd rfl (Or.inl rfl) (JG Yr (JG Q1 (pv 4) (pv 5)) JK))
   (ZY (Vx (JG Yr (JG Uq (JG V3 (pv 4) JK) (JG V3 (pv 4) JK)) (pv 1))))))))),?_⟩
  refine⟨_,rfl,hd,_,_,_,rfl,rfl,.of hh,rfl,_,_,rfl,rfl,_,rfl,?_⟩;refine zs_ (fun c=>?_) (fun c=>?_)
  ·refine⟨_,rfl,hd,_,_,_,rfl,rfl,.of hh,rfl,_,rfl,_,_,rfl,rfl,y0,?_⟩;refine⟨_,rfl,hd,_,_,_,rfl,rfl,.of hh,rfl,_,rfl,_,_,rfl,rfl,⟨y0,y1⟩,?_⟩;refine⟨_,rfl,hd,_,_,0,rfl,rfl,hh,rfl,?_⟩;refine⟨_,rfl,?_⟩;exact q _ _ (Int.emod_nonneg _ (by lia)) (Int.emod_lt_of_pos _ y0) ⟨_,_,_,Qe,m0,m1,t0,by lia⟩ zhA
  ·refine⟨_,rfl,hd,_,_,_,rfl,rfl,.of hh,rfl,_,_,rfl,rfl,?_⟩;refine⟨_,rfl,hd,_,_,2,rfl,rfl,hh,rfl,?_⟩;refine⟨_,rfl,hd,_,_,_,rfl,rfl,.of Qe,rfl,?_⟩;refine⟨_,rfl,hd,_,_,_,rfl,rfl,.of Qe,rfl,_,rfl,_,_,rfl,rfl,.inl ⟨by decide,by decide⟩,_,rfl,_,_,rfl,rfl,.inr ⟨by lia,by lia⟩,_,_,rfl,rfl,_,rfl,_,_,rfl,rfl,.inl ⟨by decide,by decide⟩,_,_,rfl,rfl,_,_,rfl,rfl,.inl ⟨by lia,by lia⟩,_,_,rfl,rfl,(by show(0:Int)<2305843009213693921;decide),?_⟩
   refine⟨_,rfl,_,_,rfl,rfl,(by show(0:Int)<1000003;decide),_,rfl,_,_,rfl,rfl,.inr ⟨by decide,by decide⟩,_,_,rfl,rfl,_,_,rfl,rfl,?_⟩
   refine⟨_,rfl,_,rfl,_,_,rfl,rfl,.inl ⟨by lia,by lia⟩,_,_,rfl,rfl,(by show(0:Int)<2305843009213693907;decide),?_⟩
   refine⟨_,rfl,_,_,rfl,rfl,⟨by decide,by decide⟩,_,rfl,_,_,rfl,rfl,⟨by decide,by decide⟩,_,_,rfl,rfl,_,rfl,_,_,rfl,rfl,y0,?_⟩
   exact q _ _ (Int.emod_nonneg _ (by lia)) (Int.emod_lt_of_pos _ y0) ⟨_,_,_,Qe,m0,m1,by lia,by lia⟩ zhA
theorem zhQ{f:Addr}{fd:FuncData}(D:Def K mg "_law_take" (top 39) ["_law_hand_here","_law_many"] f fd) (T:Txt mg):FnOk P w K mg base CX0 1 f fd ["_law_hand_here","_law_many"] (spD K 2 UB) :=
 (zoO D T).imp zoi
def Zy(Z:ZZ):Prop:=FQ Z "_law_take" (top 39) ["_law_hand_here","_law_many"] 1 (spD Z.K 2 UB)
theorem zgF(D:Dq Z.K Z.mg "_law_take" (top 39) ["_law_hand_here","_law_many"]) (T:Txt Z.mg):Zy Z:=by
 obtain⟨f,fd,D⟩:=D;exact⟨f,fd,D,zhQ D T⟩
theorem zhx:FnScope ["_law_hand_here","_law_some"] ["_law_hand_here","_law_some"] (Jj (top 40)):=⟨rfl,rfl,rfl,by decide +kernel,rfl,by decide +kernel,by decide +kernel⟩
def Zx:GD:=fun ts n R=>match ts with
 | [h,.list xs]=>h=HAND/\xs≠[]/\xs.length<=1000000/\n<=1000000000000/\∀x∈xs,R x (n+1)
 | _=>False
theorem Vc{xs:qD}{n:Nat}{R:qN}(h0:xs≠[])(h1:xs.length<=1000000)(hn:n<=1000000000000)(h:∀x∈xs,R x (n+1)):Zx [HAND,.list xs] n R:=⟨rfl,h0,h1,hn,h⟩
def YN(Z:ZZ):Prop:=FQ Z "_law_pick" (top 40) ["_law_hand_here","_law_some"] 2 (spD Z.K 2 Zx)
theorem zhR(D:Dq Z.K Z.mg "_law_pick" (top 40) ["_law_hand_here","_law_some"]) (h__law_take:Zy Z) (T:Txt Z.mg):YN Z:=by
 refine' okQ D zhx rfl fun f cdv A outer s H E hr=>⟨_,(Jf (Jk (Jl (dl (Ja 1)) (dl (Jg h__law_take hr (Jb (Ja 0) (Jb (JB QE QB T.len Qy (Jp (dl (Ja 1)) Jq Jc)) Je Jv) Jc)))))),?_⟩
 intro ts n R hl h;unfold Zx at h;split at h
 ·rename_i hd xs;obtain⟨rfl,h0,h1,h2,h⟩:=h;have hp:0<xs.length:=List.length_pos_iff.mpr h0;simp only[Zb,Za,Zc,Y9,u_dC,YY,Ze,Zg,Zf,Zm,YX,Zt,Zv,Zo,Zn,Zu,Y8,Y4,YE,Yv,Yw,Yx,YD,Yy,YI,U9,Ya,oSub,oMul,oMod,Ug,oShl,oShr,oXor,oAnd,isNone,isInt,isBool,isTup,isStr,l_gI,YT,Yb,Yc,Yd,UO,UQ,UR,UP,U0,U2,U1,UT,UU,YA,YB,US,UX,UV,UW,Yi,Yj,Yk,Yf,Yg,Yh,Yo,Yp,UN,Yl,Yn,Ym,YG,UZ,UY,Ye,YH,YC,YF,QV,QU,Q7,Q8,Ub,Uc,Ua,okd_pair,J6,JE,capV,List.map_cons,List.map_nil,List.length_cons,List.length_nil,List.replicate_succ,List.replicate_zero,List.cons_append,List.nil_append,List.append_nil,List.getElem?_cons_succ,List.getElem?_cons_zero,List.set_cons_succ,List.set_cons_zero,List.getD_cons_succ,List.getD_cons_zero,Nat.zero_add,Nat.reduceAdd,Nat.reduceSub,Nat.sub_self,true_and,and_true,Bool.false_eq_true,if_true,if_false,ite_true,ite_false,Bool.not_true,Bool.not_false,Int.natCast_zero,UB]
  refine⟨by lia,by lia,h2,fun r r0 r1=>?_⟩
  have hr':r.toNat<xs.length:=by lia
  rw[YU (zjY r0 (List.getElem?_eq_getElem hr'))];exact h _ (List.getElem_mem hr')
 ·exact h.elim
theorem zhz:FnScope ["_law_hand_here"] ["_law_hand_here"] (Jj (top 41)):=⟨rfl,rfl,rfl,by decide +kernel,rfl,by decide +kernel,by decide +kernel⟩
def zdx:GD:=fun ts n R=>match ts with
 | [h]=>h=HAND/\n<=1000000000000/\∀b:Int,1<=b->b<=64->R (.int b) (n+1)
 | _=>False
theorem zjX{n:Nat}{R:qN}(hn:n<=1000000000000)(h:∀b:Int,1<=b->b<=64->R (.int b) (n+1)):zdx [HAND] n R:=⟨rfl,hn,h⟩
def ze6(Z:ZZ):Prop:=FQ Z "_law_bits" (top 41) ["_law_hand_here"] 3 (spD Z.K 1 zdx)
theorem zhX(D:Dq Z.K Z.mg "_law_bits" (top 41) ["_law_hand_here"]) (h__law_pick:YN Z) (T:Txt Z.mg):ze6 Z:=by
 refine' okQ D zhz rfl fun f cdv A outer s H E hr=>⟨_,(Jf (Jk (Jg h__law_pick hr (Jb (Ja 0) (Jb (Js (JS (Jb Jd (Jb Jd (Jb Jd (Jb Jd (Jb Jd (Jb Jd (Jb Jd (Jb Jd (Jb Jd (Jb Jd Je Jr) Jr) Jr) Jr) Jr) Jr) Jr) Jr) Jr) Jr))) Je VN) Jc)))),?_⟩
 intro ts n R hl h;unfold zdx at h;split at h
 ·obtain⟨rfl,h1,h⟩:=h;simp only[Zb,Za,Zc,Y9,u_dC,YY,Ze,Zg,Zf,Zm,YX,Zt,Zv,Zo,Zn,Zu,Y8,Y4,YE,Yv,Yw,Yx,YD,Yy,YI,U9,Ya,oSub,oMul,oMod,Ug,oShl,oShr,oXor,oAnd,isNone,isInt,isBool,isTup,isStr,l_gI,YT,Yb,Yc,Yd,UO,UQ,UR,UP,U0,U2,U1,UT,UU,YA,YB,US,UX,UV,UW,Yi,Yj,Yk,Yf,Yg,Yh,Yo,Yp,UN,Yl,Yn,Ym,YG,UZ,UY,Ye,YH,YC,YF,QV,QU,Q7,Q8,Ub,Uc,Ua,okd_pair,J6,JE,capV,List.map_cons,List.map_nil,List.length_cons,List.length_nil,List.replicate_succ,List.replicate_zero,List.cons_append,List.nil_append,List.append_nil,List.getElem?_cons_succ,List.getElem?_cons_zero,List.set_cons_succ,List.set_cons_zero,List.getD_cons_succ,List.getD_cons_zero,Nat.zero_add,Nat.reduceAdd,Nat.reduceSub,Nat.sub_self,true_and,and_true,Bool.false_eq_true,if_true,if_false,ite_true,ite_false,Bool.not_true,Bool.not_false,Int.natCast_zero,Zx]
  refine⟨by simp,by decide,h1,fun x hx=>?_⟩
  simp only[List.mem_cons,List.not_mem_nil,or_false]at hx;rcases hx with rfl|rfl|rfl|rfl|rfl|rfl|rfl|rfl|rfl|rfl <;> exact h _ (by decide) (by decide)
 ·exact h.elim
theorem zdE:FnScope ["_law_hand_here","_law_bits_here","_law_height"] ["_law_hand_here","_law_bits_here"] (Jj (top 42)):=⟨rfl,rfl,rfl,by decide +kernel,rfl,by decide +kernel,by decide +kernel⟩
def zcQ:GD:=fun ts n R=>match ts with
 | [h,.int bits]=>h=HAND/\1<=bits/\bits<=64/\n<=1000000000000 - 10/\∀i h:Int,IsBk bits i h->R (.tuple [.int i,.int h]) (n+3)
 | _=>False
theorem zeD{bits:Int}{n:Nat}{R:qN}(b0:1<=bits)(b1:bits<=64)(hn:n<=1000000000000 - 10)(h:∀i h:Int,IsBk bits i h->R (.tuple [.int i,.int h]) (n+3)):zcQ [HAND,.int bits] n R:=⟨rfl,b0,b1,hn,h⟩
def zcK(Z:ZZ):Prop:=FQ Z "_law_block" (top 42) ["_law_hand_here","_law_bits_here"] 3 (spD Z.K 2 zcQ)
theorem zgO(D:Dq Z.K Z.mg "_law_block" (top 42) ["_law_hand_here","_law_bits_here"]) (h__law_pick:YN Z) (h__law_take:Zy Z) (T:Txt Z.mg):zcK Z:=by
 refine' okQ D zdE rfl fun f cdv A outer s H E hr=>⟨_,(Jh (Jx (i:=2) zdE.nd rfl (Or.inl rfl) (JB (Wi rfl) Vp T.min Wg (Jp (dl (Ja 1)) (Jp (dl (Jg h__law_pick hr (Jb (Ja 0) (Jb (Js (JS (Jb Jd (Jb Jd (Jb Jd (Jb Jd (Jb Jd (Jb Jd (Jb (Jg h__law_take hr (Jb (Ja 0) (Jb (JN (dl (Ja 1)) (dl Jd)) Je JP) Jc)) (Jb (Ja 1) Je Jc) Jv) Jr) Jr) Jr) Jr) Jr) Jr))) Je VN) Jc))) Jq Jv) Jc))) (Jf (Jk (JI (Jb (VA (dl (Jg h__law_take hr (Jb (Ja 0) (Jb (J1 (dl Jd) (dl (Uj (dl (Ja 1)) (dl (Ja 2))))) Je JP) Jc))) (dl (J1 (dl Jd) (dl (Ja 2))))) (Jb (Ja 2) Je Jc) JP))))),?_⟩
 intro ts n R hl h;unfold zcQ at h;split at h
 ·rename_i hd bits;obtain⟨rfl,b0,b1,hn,h⟩:=h;simp only[Zb,Za,Zc,Y9,u_dC,YY,Ze,Zg,Zf,Zm,YX,Zt,Zv,Zo,Zn,Zu,Y8,Y4,YE,Yv,Yw,Yx,YD,Yy,YI,U9,Ya,oSub,oMul,oMod,Ug,oShl,oShr,oXor,oAnd,isNone,isInt,isBool,isTup,isStr,l_gI,YT,Yb,Yc,Yd,UO,UQ,UR,UP,U0,U2,U1,UT,UU,YA,YB,US,UX,UV,UW,Yi,Yj,Yk,Yf,Yg,Yh,Yo,Yp,UN,Yl,Yn,Ym,YG,UZ,UY,Ye,YH,YC,YF,QV,QU,Q7,Q8,Ub,Uc,Ua,okd_pair,J6,JE,capV,List.map_cons,List.map_nil,List.length_cons,List.length_nil,List.replicate_succ,List.replicate_zero,List.cons_append,List.nil_append,List.append_nil,List.getElem?_cons_succ,List.getElem?_cons_zero,List.set_cons_succ,List.set_cons_zero,List.getD_cons_succ,List.getD_cons_zero,Nat.zero_add,Nat.reduceAdd,Nat.reduceSub,Nat.sub_self,true_and,and_true,Bool.false_eq_true,if_true,if_false,ite_true,ite_false,Bool.not_true,Bool.not_false,Int.natCast_zero,Zx,UB]
  refine⟨by lia,by lia,by lia,fun r r0 r1=>⟨by simp,by decide,by lia,fun x hx=>?_⟩⟩
  have hv:∃b:Int,x=.int b/\0<=b:=by
   simp only[List.mem_cons,List.not_mem_nil,or_false]at hx;rcases hx with h|h|h|h|h|h|h|h <;> first|exact⟨_,h,by decide⟩|exact⟨_,h,by lia⟩
  obtain⟨b,rfl,bb⟩:=hv;simp only[Zb,Za,Zc,Y9,u_dC,YY,Ze,Zg,Zf,Zm,YX,Zt,Zv,Zo,Zn,Zu,Y8,Y4,YE,Yv,Yw,Yx,YD,Yy,YI,U9,Ya,oSub,oMul,oMod,Ug,oShl,oShr,oXor,oAnd,isNone,isInt,isBool,isTup,isStr,l_gI,YT,Yb,Yc,Yd,UO,UQ,UR,UP,U0,U2,U1,UT,UU,YA,YB,US,UX,UV,UW,Yi,Yj,Yk,Yf,Yg,Yh,Yo,Yp,UN,Yl,Yn,Ym,YG,UZ,UY,Ye,YH,YC,YF,QV,QU,Q7,Q8,Ub,Uc,Ua,okd_pair,J6,JE,capV,List.map_cons,List.map_nil,List.length_cons,List.length_nil,List.replicate_succ,List.replicate_zero,List.cons_append,List.nil_append,List.append_nil,List.getElem?_cons_succ,List.getElem?_cons_zero,List.set_cons_succ,List.set_cons_zero,List.getD_cons_succ,List.getD_cons_zero,Nat.zero_add,Nat.reduceAdd,Nat.reduceSub,Nat.sub_self,true_and,and_true,Bool.false_eq_true,if_true,if_false,ite_true,ite_false,Bool.not_true,Bool.not_false,Int.natCast_zero,UB]
  have key:∀m:Int,0<=m->m<=bits->(CPow 1 (bits - m)/\(0:Int)<1*2 ^ (bits - m).toNat/\1*2 ^ (bits - m).toNat<(2:Int) ^ 128/\n+1+1<=1000000000000/\∀r:Int,0<=r->r<1*2 ^ (bits - m).toNat->CPow 1 m/\CMul r (1*2 ^ m.toNat)/\R (.tuple [.int (r*(1*2 ^ m.toNat)),.int m]) (n+1+1+1)):=by
   intro m m0 m1;have e1:(1:Int)*2 ^ (bits - m).toNat=2 ^ (bits - m).toNat:=Int.one_mul _;have e2:(1:Int)*2 ^ m.toNat=2 ^ m.toNat:=Int.one_mul _;rw[e1,e2];refine⟨cpow (by lia) (by lia),Qj _,zmm (by lia),by lia,fun k k0 k1=>⟨cpow m0 (by lia),.inl ⟨by lia,?_⟩,?_⟩⟩
   ·have:=zeG (k:=(bits - m).toNat) (by lia);lia
   ·exact h _ m ⟨m0,m1,k,k0,rfl,k1⟩
  exact key (if b<bits then b else bits) (by split <;> lia) (by split <;> lia)
 ·exact h.elim
theorem Vb:FnScope ["_law_hand_here","_law_bits_here","_law_block_here","_law_begin","_law_height","_law_size","_law_some"] ["_law_hand_here","_law_bits_here","_law_block_here"] (Jj (top 43)):=⟨rfl,rfl,rfl,by decide +kernel,rfl,by decide +kernel,by decide +kernel⟩
def zfA:GD:=fun ts n R=>∃bits i h:Int,ts=[HAND,.int bits,.tuple [.int i,.int h]]/\1<=bits/\bits<=64/\n<=1000000000000 - 100/\IsBk bits i h/\∀j g:Int,IsBk bits j g->R (.tuple [.int j,.int g]) (n+7)
theorem zfK{bits i h:Int}{n:Nat}{R:qN}(b0:1<=bits)(b1:bits<=64)(hn:n<=1000000000000 - 100)(B:IsBk bits i h)(h':∀j g:Int,IsBk bits j g->R (.tuple [.int j,.int g]) (n+7)):zfA [HAND,.int bits,.tuple [.int i,.int h]] n R:=⟨_,_,_,rfl,b0,b1,hn,B,h'⟩
def ze2(Z:ZZ):Prop:=FQ Z "_law_near" (top 43) ["_law_hand_here","_law_bits_here","_law_block_here"] 4 (spD Z.K 3 zfA)
theorem zhS(D:Dq Z.K Z.mg "_law_near" (top 43) ["_law_hand_here","_law_bits_here","_law_block_here"]) (h__law_pick:YN Z) (h__law_block:zcK Z) (T:Txt Z.mg):ze2 Z:=by
 refine' okQ D Vb rfl fun f cdv A outer s H E hr=>⟨_,(Jh (QQ (Ja 2) (JJ rfl (Jn (Ji (i:=3) Vb.nd rfl (Or.inl rfl)) (Jn (Ji (i:=4) Vb.nd rfl (Or.inl rfl)) JH)))) (Jh (Jx (i:=5) Vb.nd rfl (Or.inl rfl) (J1 (dl Jd) (dl (Ja 4)))) (Jh (QR (i:=6) Vb.nd rfl (Or.inl rfl) (JS (Jb (Ja 2) (Jb (JI (Jb (Ja 3) (Jb (JB (Wh rfl) Vo T.max Wf (Jp (dl Jd) (Jp (dl (Uj (dl (Ja 4)) (dl Jd))) Jq JP) Jr)) Je Jv) Jc)) (Jb (Jg h__law_block hr (Jb (Ja 0) (Jb (Ja 1) Je Jc) Jc)) (Jb (Jg h__law_block hr (Jb (Ja 0) (Jb (Ja 1) Je Jc) Jc)) Je Jv) Jv) V6) Jc))) (Jh (Jy (Jt Vl gp_B (dl (Ja 4)) (dl Jd) (Jo _)) (Jf (QJ 6 (JI (Jb (JN (dl (Ja 3)) (dl (zny (dl (Ja 5)) (dl Jd)))) (Jb (Uj (dl (Ja 4)) (dl Jd)) Je JP) JP)))) JC) (Jh (Jy (Jt (J5 hr) J4 (dl (Ja 4)) (dl (Ja 1)) (Jo _)) (Jh (QJ 6 (JI (Jb (Uj (dl (Ja 3)) (dl (znx (dl (Ja 3)) (dl (VA (dl Jd) (dl (Ja 5))))))) (Jb (JN (dl (Ja 4)) (dl Jd)) Je JP) JP))) (Jf (QJ 6 (JI (Jb (zpR (dl (Ja 3)) (dl (Ja 5))) (Jb (Ja 4) Je Jc) JP))))) JC) (Jh (Jy (Jt Qd Qc (dl (JN (dl (Ja 3)) (dl (VA (dl Jd) (dl (Ja 5)))))) (dl (J1 (dl Jd) (dl (Ja 1)))) (Jo _)) (Jf (QJ 6 (JI (Jb (JN (dl (Ja 3)) (dl (Ja 5))) (Jb (Ja 4) Je Jc) JP)))) JC) (Uf 6 (Jf (Jk (Jg h__law_pick hr (Jb (Ja 0) (Jb (Ja 6) Je Jc) Jc))))))))))),?_⟩
 intro ts n R hl hh;obtain⟨bits,i,h,rfl,b0,b1,hn,B,hh⟩:=hh;have h0:=B.1;have h1:=B.2.1;have bx:∀j g:Int,IsBk bits j g->∀m,m=n+7->R (.tuple [.int j,.int g]) m:=fun j g b m e=>e▸hh j g b
 have Bl:IsBk bits i (if h - 1 > 0 then h - 1 else 0):=by
  split
  ·exact B.low (by lia)
  ·by_cases z:h=0
   ·subst z;exact B
   ·have:h=1:=by lia
    subst this;exact B.low (by decide)
 wp_walk using zeD ?_ ?_ ?_ (fun _ _ _=>?_),Vc ?_ ?_ ?_ ?_
 all_goals first
  | lia
  | exact cpow (by lia) (by lia)
  | exact zwj
  | exact ztY
  | (rw[Qz];exact Int.mul_pos (by decide) (Qj _))
  | (intro z;simp at z;done)
  | (simp only[List.cons_append,List.nil_append,List.length_cons,List.length_nil];decide)
  | skip
 all_goals
  simp only[List.cons_append,List.nil_append,List.forall_mem_cons,Qz]at *
  repeat' (with_reducible refine And.intro ?_ ?_)
 all_goals first
  | exact bx _ _ B _ rfl
  | exact bx _ _ Bl _ rfl
  | exact bx _ _ (by assumption) _ rfl
  | exact bx _ _ (B.up (by lia)) _ rfl
  | exact bx _ _ (B.abt (by lia)) _ rfl
  | exact bx _ _ (B.oth (by lia)) _ rfl
  | exact bx _ _ (B.nxt (by assumption)) _ rfl
  | (intro x hx;simp at hx)
theorem Z9:FnScope ["_law_hand_here","_law_bits_here","_law_most","_law_found","_law_k","_law_block_here"] ["_law_hand_here","_law_bits_here","_law_most"] (Jj (top 44)):=⟨rfl,rfl,rfl,by decide +kernel,rfl,by decide +kernel,by decide +kernel⟩
def zdV:GD:=fun ts n R=>∃bits most:Int,ts=[HAND,.int bits,.int most]/\1<=bits/\bits<=64/\0<=most/\most<=1000/\n<=1000000000000 - 100000/\∀(bs:qB) (m:Nat),Bks bits bs->bs.length<=most.toNat->m<=n+1+12*most.toNat->R (.list (pD bs)) m
theorem zhe{bits most:Int}{n:Nat}{R:qN}(b0:1<=bits)(b1:bits<=64)(m0:0<=most)(m1:most<=1000)(hn:n<=1000000000000 - 100000)(h:∀(bs:qB) (m:Nat),Bks bits bs->bs.length<=most.toNat->m<=n+1+12*most.toNat->R (.list (pD bs)) m):zdV [HAND,.int bits,.int most] n R:=⟨bits,most,rfl,b0,b1,m0,m1,hn,h⟩
def zdJ(Z:ZZ):Prop:=FQ Z "_law_blocks" (top 44) ["_law_hand_here","_law_bits_here","_law_most"] 5 (spD Z.K 3 zdV)
theorem zfQ(D:Dq Z.K Z.mg "_law_blocks" (top 44) ["_law_hand_here","_law_bits_here","_law_most"]) (h__law_take:Zy Z) (h__law_block:zcK Z) (h__law_near:ze2 Z) (h__law_pick:YN Z) (T:Txt Z.mg):zdJ Z:=by
 refine' okQ D Z9 rfl fun f cdv A outer s H E hr=>⟨_,(Jh (QR (i:=3) Z9.nd rfl (Or.inl rfl) (JS Je)) (Jh (QZ PassesOwn.never rfl (V9 T.ran (Jg h__law_take hr (Jb (Ja 0) (Jb (JN (dl (Ja 2)) (dl Jd)) Je JP) Jc))) (Ji (i:=4) Z9.nd rfl (Or.inl rfl)) (Jh (Jx (i:=5) Z9.nd rfl (Or.inl rfl) (Jg h__law_block hr (Jb (Ja 0) (Jb (Ja 1) Je Jc) Jc))) (Jh (Jy (Qm (Y3 (Jt (Ys hr) U4 (Yt 3) (dl (Js (JS Je))) (Jo _)) (Zh (Jt Vl gp_B (dl (Jg h__law_take hr (Jb (Ja 0) (Jb Jd Je Jr) Jc))) (dl Jd) (Jo _))))) (Jf (Jx (i:=5) Z9.nd rfl (Or.inl rfl) (Jg h__law_near hr (Jb (Ja 0) (Jb (Ja 1) (Jb (ztU h__law_pick hr (Jp (dl (Ja 0)) (Jp (Yt 3) Jq Jc) Jc)) Je Jv) Jc) Jc)))) JC) (Jf (QJ 3 (Ja 5)))))) (Uf 3 (Jf (Jk (Ja 3)))))),?_⟩
 intro ts n R hl hh;obtain⟨bits,most,rfl,b0,b1,m0,m1,hn,hh⟩:=hh
 wp_walk using Y1 ?_ ?_ ?_ (fun r r0 r1=>?_)
 ·lia
 ·lia
 ·lia
 ·lia
 ·lia
 refine YL (fun k ρ m=>∃bs:List (Int×Int),∃c4 c5,ρ=[some (.val HAND),some (.val (.int bits)),some (.val (.int most)),some (.own (pD bs)),c4,c5]/\Bks bits bs/\bs.length=k/\m<=n+1+12*k) ⟨[],_,_,rfl,(fun b hb=>nomatch hb),rfl,by lia⟩ ?_ ?_
 ·rintro k t ρ m K et ⟨bs,c4,c5,rfl,B,hk,hm⟩ hK;obtain⟨hk2,rfl⟩:=zed et;have hk3:k<1000:=by lia
  have fin:∀(i h:Int) (x4 x5:Option Cell) (m':Nat),IsBk bits i h->m'<=m+12->K [some (.val HAND),some (.val (.int bits)),some (.val (.int most)),some (.own (pD bs++[.tuple [.int i,.int h]])),x4,x5] m':=fun i h x4 x5 m' C hm' =>
   hK _ _ ⟨bs++[(i,h)],_,_,by rw[<- Y7],B.app C,by simp[hk],by lia⟩
  wp_walk using zeD ?_ ?_ ?_ (fun i h C=>?_),Y1 ?_ ?_ ?_ (fun q q0 q1=>?_),Vc ?_ ?_ ?_ ?_,zfK ?_ ?_ ?_ ?_ (fun j g C'=>?_)
  all_goals first
   | lia
   | exact zpB
   | exact zmF
   | (rw[Jz];lia)
   | decide
   | (intro z
      have y:PyData.eqv (.list (pD bs)) (.list [])=false:=by assumption
      rw[zq7]at y;have y2:bs=[]:=by
       have:=congrArg List.length z;rw[Jz]at this;exact List.length_eq_zero_iff.mp this
      rw[y2]at y;cases y)
   | exact fin _ _ _ _ _ (by assumption) (by lia)
   | skip
  all_goals
   intro x hx;obtain⟨b,hb,rfl⟩:=List.mem_map.mp hx;refine⟨zll,?_⟩;have C0:=B b hb
   wp_walk using zfK ?_ ?_ ?_ ?_ (fun j g C'=>?_)
   all_goals first
    | lia
    | exact C0
    | (rw[Jz];lia)
    | exact fin _ _ _ _ _ (by assumption) (by lia)
 ·rintro ρ m ⟨bs,c4,c5,rfl,B,hk,hm⟩;have el:bs.length<=most.toNat:=by
   rw[hk];unfold Qw;simp;lia
  wp_walk
  exact hh bs m B el (by lia)
theorem Ws:FnScope ["_law_hand_here","_law_bits_here","_law_most","_law_found","_law_begin","_law_height"] ["_law_hand_here","_law_bits_here","_law_most"] (Jj (top 45)):=⟨rfl,rfl,rfl,by decide +kernel,rfl,by decide +kernel,by decide +kernel⟩
def zez:GD:=fun ts n R=>∃bits most:Int,ts=[HAND,.int bits,.int most]/\1<=bits/\bits<=64/\0<=most/\most<64/\n<=1000000000000 - 100000/\∀(bs:qB) (m:Nat),Ptc bits bs->bs.length<=most.toNat->m<=n+1+12*most.toNat->R (.tuple (pD bs)) m
theorem zeC{bits most:Int}{n:Nat}{R:qN}(b0:1<=bits)(b1:bits<=64)(m0:0<=most)(m1:most<64)(hn:n<=1000000000000 - 100000)(h:∀(bs:qB) (m:Nat),Ptc bits bs->bs.length<=most.toNat->m<=n+1+12*most.toNat->R (.tuple (pD bs)) m):zez [HAND,.int bits,.int most] n R:=⟨bits,most,rfl,b0,b1,m0,m1,hn,h⟩
def zes(Z:ZZ):Prop:=FQ Z "_law_patch" (top 45) ["_law_hand_here","_law_bits_here","_law_most"] 6 (spD Z.K 3 zez)
theorem zgM(D:Dq Z.K Z.mg "_law_patch" (top 45) ["_law_hand_here","_law_bits_here","_law_most"]) (h__law_blocks:zdJ Z) (T:Txt Z.mg):zes Z:=by
 refine' okQ D Ws rfl fun f cdv A outer s H E hr=>⟨_,(Jh (QR (i:=3) Ws.nd rfl (Or.inl rfl) (JS Je)) (Jh (QZ PassesOwn.never rfl (Ur (Jg h__law_blocks hr (Jb (Ja 0) (Jb (Ja 1) (Jb (Ja 2) Je Jc) Jc) Jc))) (JJ rfl (Jn (Ji (i:=4) Ws.nd rfl (Or.inr rfl)) (Jn (Ji (i:=5) Ws.nd rfl (Or.inr rfl)) JH))) (Jf (Jy (J3 (dl (JB (Ut rfl) Ul T.all Us (Jp (dl (Js (JT (own:=["_law_one"]) (capt:=[4,5]) rfl (CompScope.of rfl) (zpm (Yt 3)) (fun _ _ _ _=>(Ji (i:=0) (by show(["_law_one","_law_begin","_law_height"]:List Str).Nodup;decide +kernel) rfl (Or.inl rfl))) (by decide) (fun _ _ _ _=>JW) (fun _ _ _ _=>(ztT (JZ Qd Qc (dl (JN (dl (Ja 1)) (dl (J1 (dl Jd) (dl (Ja 2)))))) (dl (Jl (dl (Ja 0)) (dl Jd))) (Jo _)) (QP (JZ Qd Qc (dl (JN (dl (Jl (dl (Ja 0)) (dl Jd))) (dl (J1 (dl Jd) (dl (Jl (dl (Ja 0)) (dl Jd))))))) (dl (Ja 1)) (Jo _)))))))) Jq J9)))) (Jf (QJ 3 (JI (Jb (Ja 4) (Jb (Ja 5) Je Jc) Jc)))) JC))) (Uf 3 (Jf (Jk (QM Ue Q9 T.tup Qq (Jp (dl (Js (zfD hr T.srt (dl (Ja 3)) Jc))) Jq Jv))))))),?_⟩
 intro ts n R hl hh;obtain⟨bits,most,rfl,b0,b1,m0,m1,hn,hh⟩:=hh
 wp_walk using zhe ?_ ?_ ?_ ?_ ?_ (fun bs m B hlen hm=>?_)
 ·lia
 ·lia
 ·lia
 ·lia
 ·lia
 refine YL (fun k ρ m'=>m'=m/\∃cs:List (Int×Int),∃c4 c5,ρ=[some (.val HAND),some (.val (.int bits)),some (.val (.int most)),some (.own (pD cs)),c4,c5]/\Bks bits cs/\(cs.Pairwise fun a b=>eB a<=b.1\/eB b<=a.1)/\cs.length<=k) ⟨rfl,[],_,_,rfl,(fun b hb=>nomatch hb),.nil,Nat.le_refl _⟩ ?_ ?_
 ·rintro k t ρ m' K et ⟨rfl,cs,c4,c5,rfl,C,dis,hk⟩ hK;obtain⟨i,h,eb,rfl⟩:=ZQ et;have hb:=B _ (List.mem_of_getElem? eb);have h0:0<=h:=hb.1;have h1:h<=bits:=hb.2.1;have hk3:k<64:=by
   have:=(List.getElem?_eq_some_iff.mp eb).1;lia
  wp_walk
  refine Qs (D:=prD) (fun b=>.bool (decide (i+2 ^ h.toNat<=b.1)||decide (eB b<=i))) (by lia) ?_ ?_
  ·rintro⟨i',h'⟩ hb' K2 X2 hK2;have hc':=C _ hb';have h0':0<=h':=hc'.1;have h1':h'<=bits:=hc'.2.1
   wp_walk
   ·exact cpow (by lia) (by lia)
   ·have hc:i+2 ^ h.toNat<=i':=by rw[Qz]at hc;exact hc
    rw[decide_eq_true hc]at hK2;exact hK2
   ·exact cpow (by lia) (by lia)
   ·have hc:¬i+2 ^ h.toNat<=i':=by rw[Qz]at hc;exact hc
    rw[decide_eq_false hc]at hK2;rw[Qz];exact hK2
  ·wp_walk using Um ?_
   ·rw[Jz];lia
   ·have al:∀b∈cs,i+2 ^ h.toNat<=b.1\/eB b<=i:=fun b hb=>by
     have:=List.all_eq_true.mp hc b hb;simpa using this
    refine hK _ _ ⟨rfl,cs++[(i,h)],_,_,by rw[<- Y7],C.app hb,?_,by simp;lia⟩
    rw[List.pairwise_append];refine⟨dis,List.pairwise_singleton _ _,fun a ha b hb'=>?_⟩
    cases List.mem_singleton.mp hb';rcases al a ha with z|z
    ·exact .inr z
    ·exact .inl z
   ·exact hK _ _ ⟨rfl,cs,_,_,rfl,C,dis,by lia⟩
 ·rintro ρ m' ⟨rfl,cs,c4,c5,rfl,C,dis,hk⟩;rw[Jz]at hk
  wp_walk
  refine zsR b1 C dis (by lia) fun es P pm=>?_
  wp_walk
  exact hh es _ P (by have:=pm.length_eq;lia) (by lia)
theorem ZA:FnScope ["_law_hand_here","_law_many","_law_letters","_law_first","_law_step","_law_stem","_law_at"] ["_law_hand_here","_law_many"] (Jj (top 46)):=⟨rfl,rfl,rfl,by decide +kernel,rfl,by decide +kernel,by decide +kernel⟩
def nmL(stem:List Nat)(k c:Nat):Str:=⟨(stem.take k++[c]++stem.drop k).toArray⟩
theorem zsH{stem:List Nat}{k c:Nat}(hl:stem.length<=7)(hs:∀x∈stem,97<=x/\x<=122)(hc:97<=c/\c<=122):IsNm (nmL stem k c):=by
 have e:(nmL stem k c).cps.toList=stem.take k++[c]++stem.drop k:=rfl;have l:(nmL stem k c).length=stem.length+1:=by
  rw[<- Qv,e];simp;lia
 refine⟨by lia,by lia,fun x hx=>?_⟩
 rw[e]at hx;simp only[List.mem_append,List.mem_singleton]at hx;rcases hx with(hx|rfl)|hx
 ·exact hs x (List.mem_of_mem_take hx)
 ·exact hc
 ·exact hs x (List.mem_of_mem_drop hx)
theorem zqD{stem:List Nat}{k c d:Nat}(h:nmL stem k c=nmL stem k d):c=d:=by
 have e:stem.take k++[c]++stem.drop k=stem.take k++[d]++stem.drop k:=congrArg (fun s:Str=>s.cps.toList) h
 rw[List.append_assoc,List.append_assoc]at e;have:=List.append_cancel_left e;simpa using this
theorem znD{step:Int}(h:step=1\/step=3\/step=5\/step=7\/step=9\/step=11){first i j:Int}(i0:0<=i)(i1:i<26)(j0:0<=j)(j1:j<26)(e:(first+step*i) % 26=(first+step*j) % 26):i=j:=by
 rcases h with rfl|rfl|rfl|rfl|rfl|rfl <;> lia
def zeA:GD:=fun ts n R=>∃many:Int,ts=[HAND,.int many]/\0<=many/\many<=26/\n<=1000000000000 - 1000/\∀nms:List Str,nms.length=many.toNat->(∀s∈nms,IsNm s)->nms.Nodup->R (.list (nms.map .str)) (n+5)
theorem ziG{many:Int}{n:Nat}{R:qN}(m0:0<=many)(m1:many<=26)(hn:n<=1000000000000 - 1000)(h:∀nms:List Str,nms.length=many.toNat->(∀s∈nms,IsNm s)->nms.Nodup->R (.list (nms.map .str)) (n+5)):zeA [HAND,.int many] n R:=⟨many,rfl,m0,m1,hn,h⟩
def zet(Z:ZZ):Prop:=FQ Z "_law_names" (top 46) ["_law_hand_here","_law_many"] 3 (spD Z.K 2 zeA)
theorem zgN(D:Dq Z.K Z.mg "_law_names" (top 46) ["_law_hand_here","_law_many"]) (h__law_take:Zy Z) (h__law_pick:YN Z) (T:Txt Z.mg):zet Z:=by
 refine' okQ D ZA rfl fun f cdv A outer s H E hr=>⟨_,(Jh (Jx (i:=2) ZA.nd rfl (Or.inr rfl) Ui) (Jh (QQ (JI (Jb (Jg h__law_take hr (Jb (Ja 0) (Jb Jd Je Jr) Jc)) (Jb (Jg h__law_pick hr (Jb (Ja 0) (Jb (Js (JS (Jb Jd (Jb Jd (Jb Jd (Jb Jd (Jb Jd (Jb Jd Je Jr) Jr) Jr) Jr) Jr) Jr))) Je VN) Jc)) Je Jv) Jv)) (JJ rfl (Jn (Ji (i:=3) ZA.nd rfl (Or.inr rfl)) (Jn (Ji (i:=4) ZA.nd rfl (Or.inr rfl)) JH)))) (Jh (Jx (i:=5) ZA.nd rfl (Or.inr rfl) (zq9 (dl (Jl (dl (Ja 2)) (dl (Jg h__law_take hr (Jb (Ja 0) (Jb Jd Je Jr) Jc))))) (dl (Jg h__law_pick hr (Jb (Ja 0) (Jb (Js (JS (Jb Jd (Jb Jd (Jb Jd (Jb Jd (Jb Jd Je Jr) Jr) Jr) Jr) Jr))) Je VN) Jc))))) (Jh (Jx (i:=6) ZA.nd rfl (Or.inr rfl) (Jg h__law_take hr (Jb (Ja 0) (Jb (JN (dl (JB QE QB T.len Qy (Jp (dl (Ja 5)) Jq Jc))) (dl Jd)) Je JP) Jc))) (Jf (Jk (Js (JT (own:=["_law_k"]) (capt:=[5,2,6,3,4]) rfl (CompScope.of rfl) (dil (V9 T.ran (Ja 1))) (fun _ _ _ _=>(Ji (i:=0) (by show(["_law_k","_law_stem","_law_letters","_law_at","_law_first","_law_step"]:List Str).Nodup;decide +kernel) rfl (Or.inl rfl))) (by decide) (fun _ _ _ _=>JW) (fun _ _ _ _=>(JN (dl (JN (dl (Zp (dl (Ja 1)) UG (UH (Ja 3)))) (dl (Jl (dl (Ja 2)) (dl (znx (dl (JN (dl (Ja 4)) (dl (VA (dl (Ja 5)) (dl (Ja 0)))))) (dl Jd))))))) (dl (Zp (dl (Ja 1)) (UH (Ja 3)) UG)))))))))))),?_⟩
 intro ts n R hl h;obtain⟨many,rfl,m0,m1,hn,h⟩:=h
 wp_walk using Y1 ?_ ?_ ?_ (fun r r0 r1=>?_),Vc ?_ ?_ ?_ (fun x hx=>?_)
 all_goals first|lia|exact cpow (by lia) (by lia)|(simp;done)|skip
 rename_i first f0 f1
 revert r r0 r1;intro l l0 l1;obtain⟨step,rfl,hstep⟩:∃s:Int,x=.int s/\(s=1\/s=3\/s=5\/s=7\/s=9\/s=11):=by
  simp only[List.mem_cons,List.not_mem_nil,or_false]at hx;rcases hx with rfl|rfl|rfl|rfl|rfl|rfl <;> exact⟨_,rfl,by simp⟩
 refine zsZ (k:=l.toNat) (by decide) (by lia) (letters (by lia)) ?_
 wp_walk using Vc ?_ ?_ ?_ (fun y hy=>?_)
 all_goals first|lia|exact cpow (by lia) (by lia)|(simp;done)|skip
 obtain⟨m,rfl,mm0,mm7⟩:∃m:Int,y=.int m/\0<=m/\m<=7:=by
  simp only[List.mem_cons,List.not_mem_nil,or_false]at hy;rcases hy with rfl|rfl|rfl|rfl|rfl <;> exact⟨_,rfl,by decide,by decide⟩
 have stc:(repS (⟨#[97+l.toNat]⟩:Str) m).cps.toList=List.replicate m.toNat (97+l.toNat):=by
  rw[zow];show(List.replicate m.toNat [97+l.toNat]).flatten=_
  generalize m.toNat=k;induction k with
  | zero=>rfl
  | succ k ih=>rw[List.replicate_succ,List.flatten_cons,ih,List.replicate_succ];rfl
 have stl:(repS (⟨#[97+l.toNat]⟩:Str) m).length=m.toNat:=by rw[<- Qv,stc,List.length_replicate]
 wp_walk using Y1 ?_ ?_ ?_ (fun a a0 a1=>?_)
 ·lia
 ·lia
 ·show 1<=100;decide
 ·rw[stl];lia
 ·rw[stl];lia
 ·rw[stl];lia
 ·lia
 ·lia
 ·lia
 rw[stl]at a1;generalize repS (⟨#[97+l.toNat]⟩:Str) m=stem at stc stl;have sok:∀x∈stem.cps.toList,97<=x/\x<=122:=fun x hx=>by
  rw[stc]at hx;have:=List.eq_of_mem_replicate hx;lia
 refine Qs (cs:=List.range many.toNat) (D:=fun(i:Nat)=>.int (0+(i:Int))) (fun i=>.str (nmL stem.cps.toList a.toNat (97+((first+step*(i:Int)) % 26).toNat))) (by simp;lia) ?_ ?_
 ·intro i hi K2 X2 hK2;have hi:=List.mem_range.mp hi;have q0:0<=(first+step*(0+(i:Int))) % 26:=Int.emod_nonneg _ (by decide)
  have q1:(first+step*(0+(i:Int))) % 26<26:=Int.emod_lt_of_pos _ (by decide)
  wp_walk using zsZ (k:=((first+step*(0+(i:Int))) % 26).toNat) (by decide) (by lia) (letters (by lia)) ?_
  all_goals first
   | lia
   | exact .inl ⟨by lia,by lia⟩
   | skip
  ·have l3:(cutS stem none (some a)).length<=7:=by
    rw[<- Qv,zfI (k:=a.toNat) (by lia)]
    have:=Qv stem;simp;lia
   show(cutS stem none (some a)).length+1<=16777216
   lia
  ·have l3:(cutS stem none (some a)).length<=7:=by
    rw[<- Qv,zfI (k:=a.toNat) (by lia)]
    have:=Qv stem;simp;lia
   have l4:(cutS stem (some a) none).length<=7:=by
    rw[<- Qv,ziv (k:=a.toNat) (by lia) (by lia),List.length_drop]
    have:=Qv stem;lia
   rw[<- Qv,zj0,List.length_append,Qv];show _+1+_<=_
   lia
  ·have e:(cutS stem none (some a)++(⟨#[97+((first+step*(0+(i:Int))) % 26).toNat]⟩:Str)++cutS stem (some a) none)=nmL stem.cps.toList a.toNat (97+((first+step*(i:Int)) % 26).toNat):=by
    apply L2.Str.ext';rw[zj0,zj0,zfI (k:=a.toNat) (by lia),ziv (k:=a.toNat) (by lia) (by lia),Int.zero_add]
    rfl
   rw[e];exact hK2
 ·have e:((List.range many.toNat).map fun(i:Nat)=>PyData.str (nmL stem.cps.toList a.toNat (97+((first+step*(i:Int)) % 26).toNat)))=((List.range many.toNat).map fun(i:Nat)=>nmL stem.cps.toList a.toNat (97+((first+step*(i:Int)) % 26).toNat)).map .str:=by rw[List.map_map];rfl
  rw[e];have md:∀i:Nat,0<=(first+step*(i:Int)) % 26/\(first+step*(i:Int)) % 26<26:=fun i=>⟨Int.emod_nonneg _ (by decide),Int.emod_lt_of_pos _ (by decide)⟩
  refine h _ (by simp) (fun s hs=>?_) ?_
  ·obtain⟨i,hi,rfl⟩:=List.mem_map.mp hs;have:=md i;have:=Qv stem;exact zsH (by lia) sok (by lia)
  ·rw[List.Nodup,List.pairwise_map];refine List.Pairwise.imp_of_mem ?_ (List.nodup_range (n:=many.toNat));intro i j hi hj ne e;have hi:=List.mem_range.mp hi;have hj:=List.mem_range.mp hj;have e':=zqD e;have:=md i;have:=md j;have:=znD hstep (first:=first) (i:=i) (j:=j) (by lia) (by lia) (by lia) (by lia) (by lia)
   exact ne (by lia)
theorem zhy:FnScope ["_law_one","_law_other"] ["_law_one","_law_other"] (Jj (top 47)):=⟨rfl,rfl,rfl,by decide +kernel,rfl,by decide +kernel,by decide +kernel⟩
def metB(a b:Int×Int):Bool:=decide (a.1<eB b)&&decide (b.1<eB a)
def zfB:GD:=fun ts n R=>∃a b:Int×Int,ts=[.tuple [.int a.1,.int a.2],.tuple [.int b.1,.int b.2]]/\0<=a.2/\a.2<=64/\0<=b.2/\b.2<=64/\R (.bool (metB a b)) n
theorem zjV{i h j g:Int}{n:Nat}{R:qN}(h0:0<=h)(h1:h<=64)(g0:0<=g)(g1:g<=64)(r:R (.bool (metB (i,h) (j,g))) n):zfB [.tuple [.int i,.int h],.tuple [.int j,.int g]] n R:=⟨(i,h),(j,g),rfl,h0,h1,g0,g1,r⟩
def ze3(Z:ZZ):Prop:=FQ Z "_law_meet" (top 47) ["_law_one","_law_other"] 1 (spD Z.K 2 zfB)
theorem zhT(D:Dq Z.K Z.mg "_law_meet" (top 47) ["_law_one","_law_other"]) (T:Txt Z.mg):ze3 Z:=by
 refine' okQ D zhy rfl fun f cdv A outer s H E hr=>⟨_,(Jf (Jk (QH (JZ (J5 hr) J4 (dl (Jl (dl (Ja 0)) (dl Jd))) (dl (JN (dl (Jl (dl (Ja 1)) (dl Jd))) (dl (J1 (dl Jd) (dl (Jl (dl (Ja 1)) (dl Jd))))))) (Jo _)) (QP (JZ (J5 hr) J4 (dl (Jl (dl (Ja 1)) (dl Jd))) (dl (JN (dl (Jl (dl (Ja 0)) (dl Jd))) (dl (J1 (dl Jd) (dl (Jl (dl (Ja 0)) (dl Jd))))))) (Jo _)))))),?_⟩
 intro ts n R hl h;obtain⟨⟨i,h'⟩,⟨j,g⟩,rfl,h0,h1,g0,g1,h⟩:=h;have h0:0<=h':=h0;have h1:h'<=64:=h1;have g0:0<=g:=g0;have g1:g<=64:=g1;unfold metB eB at h;dsimp only at h
 wp_walk
 all_goals try exact cpow (by lia) (by lia)
 all_goals simp only[Qz]at *
 ·rw[decide_eq_true hc,Bool.true_and]at h;exact h
 ·rw[decide_eq_false hc,Bool.false_and]at h;exact h
theorem Zw:FnScope ["_law_hand_here","_law_bits_here","_law_names_here","_law_most","_law_outs","_law_kept_here","_law_block_here","_law_there","_law_name"] ["_law_hand_here","_law_bits_here","_law_names_here","_law_most"] (Jj (top 48)):=⟨rfl,rfl,rfl,by decide +kernel,rfl,by decide +kernel,by decide +kernel⟩
def zdw:GD:=fun ts n R=>∃(bits most:Int) (nms:List Str),ts=[HAND,.int bits,.list (nD nms),.int most]/\1<=bits/\bits<=64/\0<=most/\most<64/\nms≠[]/\nms.length<=1000/\(∀s∈nms,IsNm s)/\n<=1000000000000 - 200000 /\
 ∀(d:Deal) (m:Nat),Dl d->d.1=bits->d.2.1.length<=most.toNat->d.2.2.length<=most.toNat->(∀p∈d.2.1++d.2.2,p.2∈nms)->m<=n+10000->R (dlD d) m
theorem zjW{bits most:Int}{nms:List Str}{n:Nat}{R:qN}(b0:1<=bits)(b1:bits<=64)(m0:0<=most)(m1:most<64)(ne:nms≠[])(l:nms.length<=1000)(hm:∀s∈nms,IsNm s)(hn:n<=1000000000000 - 200000)
 (h:∀(d:Deal) (m:Nat),Dl d->d.1=bits->d.2.1.length<=most.toNat->d.2.2.length<=most.toNat->(∀p∈d.2.1++d.2.2,p.2∈nms)->m<=n+10000->R (dlD d) m):zdw [HAND,.int bits,.list (nD nms),.int most] n R:=⟨bits,most,nms,rfl,b0,b1,m0,m1,ne,l,hm,hn,h⟩
def ze5(Z:ZZ):Prop:=FQ Z "_law_deal" (top 48) ["_law_hand_here","_law_bits_here","_law_names_here","_law_most"] 7 (spD Z.K 4 zdw)
theorem zhW(D:Dq Z.K Z.mg "_law_deal" (top 48) ["_law_hand_here","_law_bits_here","_law_names_here","_law_most"]) (h__law_patch:zes Z) (h__law_pick:YN Z) (h__law_meet:ze3 Z) (T:Txt Z.mg):ze5 Z:=by
 refine' okQ D Zw rfl fun f cdv A outer s H E hr=>⟨_,(Jh (zno (zkJ (i:=4) Zw.nd rfl (Or.inl rfl) (own:=["_law_block_here"]) (capt:=[0,2]) rfl (CompScope.of rfl) (dil (Qo (Jg h__law_patch hr (Jb (Ja 0) (Jb (Ja 1) (Jb (Ja 3) Je Jc) Jc) Jc)))) (fun _ _ _ _=>(Ji (i:=0) (by show(["_law_block_here","_law_hand_here","_law_names_here"]:List Str).Nodup;decide +kernel) rfl (Or.inl rfl))) (by decide) (fun _ _ _ _=>JW) (fun _ _ _ _=>(JI (Jb (Ja 0) (Jb (Jg h__law_pick hr (Jb (Ja 1) (Jb (Ja 2) Je Jc) Jc)) Je Jv) Jc))))) (Jh (QR (i:=5) Zw.nd rfl (Or.inl rfl) (JS Je)) (Jh (QZ PassesOwn.never rfl (Qo (Jg h__law_patch hr (Jb (Ja 0) (Jb (Ja 1) (Jb (Ja 3) Je Jc) Jc) Jc))) (Ji (i:=6) Zw.nd rfl (Or.inr rfl)) (Jh (zno (zkJ (i:=7) Zw.nd rfl (Or.inl rfl) (own:=["_law_one","_law_name"]) (capt:=[6]) rfl (CompScope.of rfl) (dil (Ur (Ja 4))) (fun _ _ _ _=>(JJ rfl (Jn (Ji (i:=0) (by show(["_law_one","_law_name","_law_block_here"]:List Str).Nodup;decide +kernel) rfl (Or.inl rfl)) (Jn (Ji (i:=1) (by show(["_law_one","_law_name","_law_block_here"]:List Str).Nodup;decide +kernel) rfl (Or.inl rfl)) JH)))) (by decide) (fun _ _ _ _=>(ZS (J3 (dl (Jg h__law_meet hr (Jb (Ja 0) (Jb (Ja 2) Je Jc) Jc)))))) (fun _ _ _ _=>(Ja 1)))) (Jh (Jx (i:=8) Zw.nd rfl (Or.inr rfl) (Jl (dl (Js (znr (dl (Ja 7)) (dl (Js (JS (Jb (Jg h__law_pick hr (Jb (Ja 0) (Jb (Ja 2) Je Jc) Jc)) Je Jv))))))) (dl Jd))) (Jf (Jy (Jt (QC hr) QA (dl (Js (JT (own:=["_law_one"]) (capt:=[8]) rfl (CompScope.of rfl) (dil (Ur (Ja 7))) (fun _ _ _ _=>(Ji (i:=0) (by show(["_law_one","_law_name"]:List Str).Nodup;decide +kernel) rfl (Or.inl rfl))) (by decide) (fun _ _ _ _=>(ZS (Jt (Ys hr) U4 (dl (Ja 0)) (dl (Ja 1)) (Jo _)))) (fun _ _ _ _=>(Ja 0))))) (dl (Js (JS Je))) (Jo _)) (Jf (QJ 5 (JI (Jb (Ja 6) (Jb (Ja 8) Je Jc) Jc)))) JC))))) (Uf 5 (Jf (Jk (JI (Jb (Ja 1) (Jb (QM Ue Q9 T.tup Qq (Jp (dl (Ja 4)) Jq Jc)) (Jb (QM Ue Q9 T.tup Qq (Jp (dl (Ja 5)) Jq Jc)) Je Jv) Jv) Jc)))))))),?_⟩
 intro ts n R hl h;obtain⟨bits,most,nms,rfl,b0,b1,m0,m1,ne,l,hm,hn,h⟩:=h;have pick:∀{n:Nat} {Q:qN},n<=1000000000000->(∀s∈nms,Q (.str s) (n+1))->Zx [HAND,.list (nD nms)] n Q:=fun {n Q} hn hq=>Vc (by intro z;cases nms with|nil=>exact ne rfl|cons a b=>cases z) (by simp[nD];lia) hn fun x hx=>by
  obtain⟨s,hs,rfl⟩:=List.mem_map.mp hx;exact hq s hs
 wp_walk using zeC b0 b1 m0 m1 ?_ (fun bs m P hlen hm1=>?_)
 ·lia
 refine ZK (fun j acc m'=>m'=m+j/\∃os:List ((Int×Int)×Str),acc=oD os/\os.map (·.1)=bs.take j/\∀p∈os,p.2∈nms) ⟨rfl,[],rfl,by simp,fun p hp=>nomatch hp⟩ ?_ ?_
 ·rintro j x acc m' K ej ⟨rfl,os,rfl,e1,e2⟩ hK;obtain⟨i,g,eb,rfl⟩:=ZQ ej;have jl:=(List.getElem?_eq_some_iff.mp eb).1;have lo:os.length=j:=by
   have:=congrArg List.length e1;simp at this;lia
  wp_walk using pick ?_ (fun s hs=>?_)
  ·lia
  ·rw[Q0];lia
  ·refine hK _ _ ⟨by lia,os++[((i,g),s)],by simp[oD],?_,?_⟩
   ·rw[List.map_append,e1,List.take_succ,eb];rfl
   ·intro p hp;rcases List.mem_append.mp hp with z|z
    ·exact e2 p z
    ·cases List.mem_singleton.mp z;exact hs
 ·rintro acc m' ⟨rfl,os,rfl,e1,e2⟩;rw[Jz,List.take_length]at e1
  wp_walk using zeC b0 b1 m0 m1 ?_ (fun cs m2 P2 hlen2 hm2=>?_)
  ·rw[Jz];lia
  rw[Jz]at hm2;have lo:os.length=bs.length:=by rw[<- List.length_map (f:=(·.1)),e1]
  have Bo:∀p∈os,IsBk bits p.1.1 p.1.2:=fun p hp=>P.1 _ (by rw[<- e1];exact List.mem_map.mpr ⟨p,hp,rfl⟩)
  refine VE 5 6 7 8 (fun k a5 _ _ _ m'=>m'<=m2+2*k/\∃ks:List ((Int×Int)×Str),a5=some (.own (oD ks))/\(ks.map (·.1)).Sublist (cs.take k)/\(∀q∈ks,q.2∈nms)/\Agr os ks) ⟨by lia,[],rfl,by simp,fun q hq=>(nomatch hq),fun p hp q hq=>(nomatch hq)⟩ ?_ ?_
  ·rintro k t a5 a6 a7 a8 m' K RT BK et ⟨hm',ks,rfl,sb,kn,ag⟩ hK hRT hBK;obtain⟨i,g,eb,rfl⟩:=ZQ et;have kl:=(List.getElem?_eq_some_iff.mp eb).1;have Bb:=P2.1 _ (List.mem_of_getElem? eb);have g0:0<=g:=Bb.1;have g1:g<=bits:=Bb.2.1;have tk:cs.take (k+1)=cs.take k++[(i,g)]:=by rw[List.take_succ,eb];rfl
   have lks:ks.length<=64:=by
    have:=sb.length_le;simp at this;lia
   wp_walk
   refine Vd (cs:=os) (D:=fun p=>.tuple [prD p.1,.str p.2]) (fun p=>metB p.1 (i,g)) (fun p=>.str p.2) (by lia) ?_ ?_
   ·intro p hp K2 X2 hK2 hX2;have Bp:=Bo p hp;have p0:=Bp.1;have p1:=Bp.2.1
    wp_walk using zjV (by lia) (by lia) (by lia) (by lia) ?_
    ·exact hK2 hc
    ·exact hX2 (by simpa using hc)
   ·generalize ets:(os.filter fun p=>metB p.1 (i,g))=us
    have usub:∀p∈us,p∈os:=fun p hp=>by rw[<- ets]at hp;exact(List.mem_filter.mp hp).1
    have uin:∀p∈os,p.1.1<eB (i,g)->i<eB p.1->p∈us:=fun p hp y z=>by
     rw[<- ets];exact List.mem_filter.mpr ⟨hp,by unfold metB;rw[decide_eq_true y,decide_eq_true (show(i,g).1<eB p.1 from z)];rfl⟩
    have lus:us.length<=64:=by
     have:=List.length_filter_le (fun p:(Int×Int)×Str=>metB p.1 (i,g)) os
     rw[ets]at this;lia
    have e3:(us.map fun p=>PyData.str p.2)=nD (us.map (·.2)):=by unfold nD;rw[List.map_map];rfl
    rw[e3];have vn:∀s∈us.map (·.2),s∈nms:=fun s hs=>by
     obtain⟨p,hp,rfl⟩:=List.mem_map.mp hs;exact e2 p (usub p hp)
    have vin:∀p∈os,p.1.1<eB (i,g)->i<eB p.1->p.2∈us.map (·.2):=fun p hp y z=>List.mem_map.mpr ⟨p,uin p hp y z,rfl⟩
    have lvs:(us.map (·.2)).length<=64:=by rw[List.length_map];exact lus
    generalize us.map (·.2)=vs at vn vin lvs;have nm:∀{s:Str} {Q:PyData->Prop},s∈nms->(∀s'∈nms,Q (.str s'))->oIx (.list (nD vs++[.str s])) (.int 0) Q:=fun {s Q} hs hq=>by
     cases vs with
     | nil=>exact Vs (hq s hs)
     | cons u v=>exact Vs (hq u (vn u (by simp)))
    have ok3:∀ws:List Str,(∀p∈ws,p∈nms)->Okd (.list (nD ws)):=fun ws hv=>(zqx (k:=2) fun t ht=>by
     obtain⟨p,hp,rfl⟩:=List.mem_map.mp ht;exact(Vi (hm _ (hv p hp))).mono (by decide)).okd
    wp_walk using pick ?_ (fun s hs=>?_),nm hs (fun s' hs'=>?_)
    ·lia
    ·rw[zpD];show vs.length+1<=_;lia
    refine Vd (cs:=vs) (D:=fun p=>.str p) (fun p=>!decide (p=s')) (fun p=>.str p) (by lia) ?_ ?_
    ·intro p hp K2 X2 hK2 hX2
     wp_walk
     ·exact hX2 (by rw[decide_eq_true hc];rfl)
     ·exact hK2 (by rw[decide_eq_false hc];rfl)
    ·wp_walk
     ·exact ok3 _ fun p hp=>vn p (List.mem_filter.mp hp).1
     ·exact zmF
     ·rw[Q0];lia
     ·rw[zph]at hc;refine hK _ _ _ _ _ ⟨by lia,ks++[((i,g),s')],by simp[oD],by rw[tk,List.map_append];exact sb.append (List.Sublist.refl _),?_,?_⟩
      ·intro q hq;rcases List.mem_append.mp hq with z|z
       ·exact kn q z
       ·cases List.mem_singleton.mp z;exact hs'
      ·intro p hp q hq;rcases List.mem_append.mp hq with z|z
       ·exact ag p hp q z
       ·cases List.mem_singleton.mp z
        by_cases y:p.1.1<eB (i,g)/\i<eB p.1
        ·by_cases w:p.2=s'
         ·exact .inl w
         ·exfalso;have:p.2∈vs.filter fun p=>!decide (p=s'):=List.mem_filter.mpr ⟨vin p hp y.1 y.2,by rw[decide_eq_false w];rfl⟩
          have e0:vs.filter (fun p=>!decide (p=s'))=[]:=by simpa using hc
          rw[e0]at this;cases this
        ·right
         show eB p.1<=i\/eB (i,g)<=p.1.1
         lia
     ·exact hK _ _ _ _ _ ⟨by lia,ks,rfl,by rw[tk];exact sb.trans (List.sublist_append_left _ _),kn,ag⟩
  ·rintro a5 a6 a7 a8 m' ⟨hm',ks,rfl,sb,kn,ag⟩;rw[Jz,List.take_length]at sb
   wp_walk
   refine h (bits,os,ks) _ ⟨b0,b1,⟨by rw[e1];exact P,fun p hp=>hm _ (e2 p hp)⟩,⟨⟨fun b hb=>P2.1 b (sb.subset hb),P2.2.sublist sb⟩,fun q hq=>hm _ (kn q hq)⟩,ag⟩ rfl (by show os.length<=_;lia) ?_ ?_ ?_
   ·have:=sb.length_le;rw[List.length_map]at this;show ks.length<=_
    lia
   ·intro p hp;rcases List.mem_append.mp hp with z|z
    ·exact e2 p z
    ·exact kn p z
   ·rw[Jz]at hm';lia
theorem zeo:FnScope ["_law_deal_here","_law_name","_law_mine"] ["_law_deal_here","_law_name"] (Jj (top 49)):=⟨rfl,rfl,rfl,by decide +kernel,rfl,by decide +kernel,by decide +kernel⟩
def J8(ks:List ((Int×Int)×Str))(nm:PyData):List (Int×Int):=(ks.filter fun p=>isNone nm||who p.2 nm).map (·.1)
theorem zjx{ks:List ((Int×Int)×Str)}{nm:PyData}:∀b∈J8 ks nm,b∈ks.map (·.1):=fun b hb=>by
 obtain⟨p,hp,rfl⟩:=List.mem_map.mp hb;exact List.mem_map.mpr ⟨p,(List.mem_filter.mp hp).1,rfl⟩
theorem zjy{ks:List ((Int×Int)×Str)}{nm:PyData}:(J8 ks nm).length<=ks.length:=by
 unfold J8;rw[List.length_map];exact List.length_filter_le _ _
def Wj:GD:=fun ts n R=>∃(d:Deal) (nm:PyData),ts=[dlD d,nm]/\Dl d/\Qt nm/\d.2.1.length+d.2.2.length<=1000/\∀qs,CanP (fun x=>mB x (J8 d.2.2 nm)/\¬mB x (d.2.1.map (·.1))) qs->qs.length<=130*(d.2.1.length+d.2.2.length+1)->R (.tuple (pD qs)) n
theorem zfL{d:Deal}{nm:PyData}{n:Nat}{R:qN}(D:Dl d)(hw:Qt nm)(l:d.2.1.length+d.2.2.length<=1000)(h:∀qs,CanP (fun x=>mB x (J8 d.2.2 nm)/\¬mB x (d.2.1.map (·.1))) qs->qs.length<=130*(d.2.1.length+d.2.2.length+1)->R (.tuple (pD qs)) n):Wj [dlD d,nm] n R:=⟨d,nm,rfl,D,hw,l,h⟩
def zdp(Z:ZZ):Prop:=FQ Z "_law_kept" (top 49) ["_law_deal_here","_law_name"] 6 (spD Z.K 2 Wj)
theorem zhU(D:Dq Z.K Z.mg "_law_kept" (top 49) ["_law_deal_here","_law_name"]) (h_fewest:Zs Z) (h_without:zhC Z) (T:Txt Z.mg):zdp Z:=by
 refine' okQ D zeo rfl fun f cdv A outer s H E hr=>⟨_,(Jh (Jx (i:=2) zeo.nd rfl (Or.inl rfl) (Jg h_fewest hr (Jb (Js (JT (own:=["_law_block_here","_law_owner"]) (capt:=[1]) rfl (CompScope.of rfl) (dil (Qo (Jl (dl (Ja 0)) (dl Jd)))) (fun _ _ _ _=>(JJ rfl (Jn (Ji (i:=0) (by show(["_law_block_here","_law_owner","_law_name"]:List Str).Nodup;decide +kernel) rfl (Or.inl rfl)) (Jn (Ji (i:=1) (by show(["_law_block_here","_law_owner","_law_name"]:List Str).Nodup;decide +kernel) rfl (Or.inl rfl)) JH)))) (by decide) (fun _ _ _ _=>(ZS (Qm (Uh (Jt zqr zq1 (dl (Ja 2)) (dl QO) (Jo _)) (Uk (Jt (QC hr) QA (dl (Ja 1)) (dl (Ja 2)) (Jo _))))))) (fun _ _ _ _=>(Ja 0)))) Je J9))) (Jf (Jk (Jg h_without hr (Jb (Ja 2) (Jb (Jg h_fewest hr (Jb (Js (JT (own:=["_law_block_here","_law_owner"]) (capt:=[]) rfl (CompScope.of rfl) (dil (Qo (Jl (dl (Ja 0)) (dl Jd)))) (fun _ _ _ _=>(JJ rfl (Jn (Ji (i:=0) (by show(["_law_block_here","_law_owner"]:List Str).Nodup;decide +kernel) rfl (Or.inl rfl)) (Jn (Ji (i:=1) (by show(["_law_block_here","_law_owner"]:List Str).Nodup;decide +kernel) rfl (Or.inl rfl)) JH)))) (by decide) (fun _ _ _ _=>JW) (fun _ _ _ _=>(Ja 0)))) Je J9)) Je Jv) Jc))))),?_⟩
 intro ts n R hl h;obtain⟨d,nm,rfl,D,hw,l,h⟩:=h;obtain⟨bits,os,ks⟩:=d;obtain⟨b0,b1,S1,S2,ag⟩:=D;have b0:1<=bits:=b0;have b1:bits<=64:=b1;have bb:0<=bits:=by lia
 have S1:Shr bits os:=S1;have S2:Shr bits ks:=S2;have l:os.length+ks.length<=1000:=l;have lk:=zjy (ks:=ks) (nm:=nm);have B1:Bks bits (J8 ks nm):=fun b hb=>S2.1.1 b (zjx b hb)
 have B2:Bks bits (os.map (·.1)):=S1.1.1;rw[show dlD (bits,os,ks)=.tuple [.int bits,.tuple (oD os),.tuple (oD ks)] from rfl]
 wp_walk
 refine Vd (cs:=ks) (D:=fun p=>.tuple [prD p.1,.str p.2]) (fun p=>isNone nm||who p.2 nm) (fun p=>prD p.1) (by lia) ?_ ?_
 ·intro p hp K2 X2 hK2 hX2;have np:=S2.2 p hp;rcases hw with rfl|⟨s,rfl,hs⟩
  ·wp_walk
   all_goals first|exact hK2 rfl|(exfalso;exact Bool.noConfusion (show true=false from hc))
  ·wp_walk
   all_goals first
    | (exfalso;revert hc;simp[isNone];done)
    | skip
   ·exact hK2 (by simp[isNone,who,hc])
   ·exact hX2 (by simp[isNone,who,hc])
 ·rw[show((ks.filter fun p=>isNone nm||who p.2 nm).map fun p=>prD p.1)=pD (J8 ks nm) from by unfold J8 pD;rw[List.map_map];rfl]
  wp_walk using Zk (.inl rfl) bb b1 B1 (by lia) (fun ps C lp=>?_)
  refine Qs (cs:=os) (D:=fun p=>.tuple [prD p.1,.str p.2]) (fun p=>prD p.1) (by lia) ?_ ?_
  ·intro p hp K2 X2 hK2
   wp_walk
   exact hK2
  ·rw[show(os.map fun p=>prD p.1)=pD (os.map (·.1)) from by unfold pD;rw[List.map_map];rfl]
   have lo:(os.map (·.1)).length=os.length:=List.length_map ..
   wp_walk using Zk (.inl rfl) bb b1 B2 (by lia) (fun qs E lq=>?_)
   have Bp:=(C.ptc (bits:=bits) bb fun x hx=>Qf bb B1 hx).1
   have Bq:=(E.ptc (bits:=bits) bb fun x hx=>Qf bb B2 hx).1
   refine znL bb b1 Bp Bq (by lia) (by lia) (by lia) fun cs G lc=>?_
   refine h cs ?_ (by show cs.length<=130*(os.length+ks.length+1);lia)
   obtain⟨rs,r1,r2,r3⟩:=G;refine⟨rs,r1,fun x=>?_,r3⟩
   rw[r2];show(mB x ps/\¬mB x qs)↔(mB x (J8 ks nm)/\¬mB x (os.map (·.1)))
   rw[C.mem,E.mem]
theorem Wt:FnScope ["_law_deal_here","_law_address","_law_word","_law_name","_law_block_here"] ["_law_deal_here","_law_address"] (Jj (top 50)):=⟨rfl,rfl,rfl,by decide +kernel,rfl,by decide +kernel,by decide +kernel⟩
def zbi:GD:=fun ts n R=>∃(d:Deal) (a:Int),ts=[dlD d,.int a]/\Dl d/\0<=a/\a<2 ^ d.1.toNat/\d.2.1.length+d.2.2.length<=1000/\R (.bool true) n
theorem zdz{d:Deal}{a:Int}{n:Nat}{R:qN}(D:Dl d)(a0:0<=a)(a1:a<2 ^ d.1.toNat)(l:d.2.1.length+d.2.2.length<=1000)(h:R (.bool true) n):zbi [dlD d,.int a] n R:=⟨d,a,rfl,D,a0,a1,l,h⟩
theorem Vv{p:(Int×Int)×Str}(h:IsNm p.2):Okd (.tuple [.tuple [.int p.1.1,.int p.1.2],.str p.2]):=(zmM (k:=1) fun u hu=>by
 simp only[List.mem_cons,List.not_mem_nil,or_false]at hu;rcases hu with rfl|rfl
 ·exact zsE (b:=p.1)
 ·exact(Vi h).mono (by decide)).okd
theorem ztb{os:List ((Int×Int)×Str)}{p:(Int×Int)×Str}(hp:p∈os)(h:IsNm p.2):((oD os).any fun t=>t.eqv (.tuple [.tuple [.int p.1.1,.int p.1.2],.str p.2]))=true :=
 List.any_eq_true.mpr ⟨_,List.mem_map.mpr ⟨p,hp,rfl⟩,VT (Vv h)⟩
theorem zpC{bits:Int}{os:List ((Int×Int)×Str)}(S:Shr bits os):∀t∈oD os,Okd t:=fun t ht=>by
 obtain⟨p,hp,rfl⟩:=List.mem_map.mp ht;exact Vv (S.2 p hp)
theorem zv4{bs:qB}{b:Int×Int}(hb:b∈bs):((pD bs).any fun t=>t.eqv (.tuple [.int b.1,.int b.2]))=true :=
 List.any_eq_true.mpr ⟨_,List.mem_map.mpr ⟨b,hb,rfl⟩,VT okd_pair⟩
def zbY(Z:ZZ):Prop:=FQ Z "_law_holder_right" (top 50) ["_law_deal_here","_law_address"] 8 (spD Z.K 2 zbi)
theorem zdd(D:Dq Z.K Z.mg "_law_holder_right" (top 50) ["_law_deal_here","_law_address"]) (h_holder:zj9 Z) (h_block_with:zcJ Z) (h_free_for:Z6 Z) (T:Txt Z.mg):zbY Z:=by
 refine' okQ D Wt rfl fun f cdv A outer s H E hr=>⟨_,(Jh (QQ (Jg h_holder hr (Jb (Ja 0) (Jb (Ja 1) Je Jc) Jc)) (JJ rfl (Jn (Ji (i:=2) Wt.nd rfl (Or.inl rfl)) (Jn (Ji (i:=3) Wt.nd rfl (Or.inl rfl)) (Jn (Ji (i:=4) Wt.nd rfl (Or.inl rfl)) JH))))) (Jh (Jy (J7 (zg8 Qd Qc (J5 hr) J4 (dl (Jl (dl (Ja 4)) (dl Jd))) (dl (Ja 1)) (dl (JN (dl (Jl (dl (Ja 4)) (dl Jd))) (dl (J1 (dl Jd) (dl (Jl (dl (Ja 4)) (dl Jd))))))))) (Jf (Jk JR)) JC) (Jh (Jy (Jt (QC hr) QA (dl (Ja 2)) (dl Ui) (Jo _)) (Jf (Jk (JZ (zmD hr) zq2 (dl (JI (Jb (Ja 4) (Jb (Ja 3) Je Jc) Jc))) (dl (Jl (dl (Ja 0)) (dl Jd))) rfl))) JC) (Jh (Jy (Jt zi3 zjK (dl (Jg h_block_with hr (Jb (QM Ue Q9 T.tup Qq (Jp (dl (Js (JT (own:=["_law_one","_law_owner"]) (capt:=[]) rfl (CompScope.of rfl) (dil (Qo (Jl (dl (Ja 0)) (dl Jd)))) (fun _ _ _ _=>(JJ rfl (Jn (Ji (i:=0) (by show(["_law_one","_law_owner"]:List Str).Nodup;decide +kernel) rfl (Or.inl rfl)) (Jn (Ji (i:=1) (by show(["_law_one","_law_owner"]:List Str).Nodup;decide +kernel) rfl (Or.inl rfl)) JH)))) (by decide) (fun _ _ _ _=>JW) (fun _ _ _ _=>(Ja 0))))) Jq J9)) (Jb (Ja 1) Je Jc) Jv))) (dl QO) (Jo _)) (Jf (Jk JR)) JC) (Jh (Jy (Jt (QC hr) QA (dl (Ja 2)) (dl Ui) (Jo _)) (Jf (Jk (JZ (zmD hr) zq2 (dl (JI (Jb (Ja 4) (Jb (Ja 3) Je Jc) Jc))) (dl (Jl (dl (Ja 0)) (dl Jd))) rfl))) JC) (Jf (Jk (QH (JZ (QC hr) QA (dl (Ja 2)) (dl Ui) (Jo _)) (QH (JZ zqr zq1 (dl (Ja 3)) (dl QO) (Jo _)) (QP (JZ (zmD hr) zq2 (dl (Ja 4)) (dl (Jg h_free_for hr (Jb (Ja 0) (Jb QO Je Zl) Jc))) rfl))))))))))),?_⟩
 intro ts n R hl h;obtain⟨d,a,rfl,D,a0,a1,l,h⟩:=h;have hld:∀{n:Nat} {R:qN},(∀z,HldS d a z->R z n)->zg5 [dlD d,.int a] n R:=fun {n R} z=>zpo D a0 a1 (by lia) l z
 have ff:∀{n:Nat} {R:qN},(∀qs,CanP (Free d .none) qs->qs.length<=130*(d.2.1.length+d.2.2.length+1)->R (.tuple (pD qs)) n)->YQ [dlD d,.none] n R:=fun {n R} z=>V7 D (.inl rfl) (by lia) z
 obtain⟨bits,os,ks⟩:=d;obtain⟨b0,b1,S1,S2,ag⟩:=D;have b0:1<=bits:=b0;have b1:bits<=64:=b1;have S1:Shr bits os:=S1;have S2:Shr bits ks:=S2;have P1:Ptc bits (os.map (·.1)):=S1.1;have l:os.length+ks.length<=1000:=l;have lm1:(os.map (·.1)).length<1000000:=by rw[List.length_map];lia
 have test:∀b:Int×Int,IsBk bits b.1 b.2->inB a b->0<=b.2/\b.2<=64/\b.1<=a/\a<b.1+1*2 ^ b.2.toNat:=fun b B i=>⟨B.1,by have:=B.2.1;lia,i.1,by have:=i.2;unfold eB at this;lia⟩
 have outs:(∀p∈os,¬inB a p.1)->∀{n:Nat} {R:qN},R .none n->zcP [.tuple (pD (os.map (·.1))),.int a] n R:=fun no {n R} z=>Wm b1 P1 lm1 (fun b hb x0 x1=>by
  obtain⟨p,hp,rfl⟩:=List.mem_map.mp hb;exact absurd ⟨x0,x1⟩ (no p hp)) fun _=>z
 have eo:(os.map fun p=>prD p.1)=pD (os.map (·.1)):=by unfold pD;rw[List.map_map];rfl
 rw[show dlD (bits,os,ks)=.tuple [.int bits,.tuple (oD os),.tuple (oD ks)] from rfl]at *
 wp_walk using hld (fun z hz=>?_)
 rcases hz with⟨p,hp,ip,rfl⟩|⟨n1,p,hp,ip,rfl⟩|⟨n1,n2,qs,C,b,hb,ib,rfl⟩
 ·obtain⟨t0,t1,t2,t3⟩:=test p.1 (S1.1.1 _ (List.mem_map.mpr ⟨p,hp,rfl⟩)) ip;unfold hT
  wp_walk
  all_goals first
   | exact cpow (by lia) (by lia)
   | (exfalso;exact hc t3)
   | (exfalso;exact hc t2)
   | (exfalso;exact hc rfl)
   | exact Vv (S1.2 p hp)
   | exact zpC S1
   | (rw[ztb hp (S1.2 p hp)];exact h)
   | skip
 ·obtain⟨t0,t1,t2,t3⟩:=test p.1 (S2.1.1 _ (List.mem_map.mpr ⟨p,hp,rfl⟩)) ip;unfold hT
  wp_walk
  all_goals first
   | exact cpow (by lia) (by lia)
   | (exfalso;exact hc t3)
   | (exfalso;exact hc t2)
   | (exfalso;exact absurd hc (by decide +kernel))
   | skip
  refine Qs (cs:=os) (D:=fun p=>.tuple [prD p.1,.str p.2]) (fun p=>prD p.1) (by lia) ?_ ?_
  ·intro p hp K2 X2 hK2
   wp_walk
   exact hK2
  rw[eo]
  wp_walk using outs n1 ?_
  all_goals first
   | (exfalso;exact hc rfl)
   | exact Vv (S2.2 p hp)
   | exact zpC S2
   | (rw[ztb hp (S2.2 p hp)];exact h)
   | (exfalso;exact Bool.noConfusion (show true=false from hc))
   | (exfalso;rename_i y;exact absurd y (by decide +kernel))
   | (exfalso;rename_i y;exact y rfl)
   | skip
 ·obtain⟨t0,t1,t2,t3⟩:=test b ((C.ptc (bits:=bits) (by lia) fun x hx=>⟨hx.1,hx.2.1⟩).1 b hb) ib
  unfold hT
  wp_walk
  all_goals first
   | exact cpow (by lia) (by lia)
   | (exfalso;exact hc t3)
   | (exfalso;exact hc t2)
   | (exfalso;exact absurd hc (by decide +kernel))
   | skip
  refine Qs (cs:=os) (D:=fun p=>.tuple [prD p.1,.str p.2]) (fun p=>prD p.1) (by lia) ?_ ?_
  ·intro p hp K2 X2 hK2
   wp_walk
   exact hK2
  rw[eo];have ff2:∀{n:Nat} {R:qN},R (.tuple (pD qs)) n->YQ [.tuple [.int bits,.tuple (oD os),.tuple (oD ks)],.none] n R:=fun {n R} z=>ff fun qs' C' _=>by rw[C'.uniq C fun _=>Iff.rfl];exact z
  wp_walk using outs n1 ?_,ff2 ?_
  all_goals first
   | (exfalso;exact absurd hc (by decide +kernel))
   | (exfalso;exact hc rfl)
   | exact okd_pair
   | (intro t ht;obtain⟨c,_,rfl⟩:=List.mem_map.mp ht;exact okd_pair)
   | (rw[zv4 hb];exact h)
   | skip
theorem Va:FnScope ["_law_deal_here","_law_names_here","_law_parts","_law_together","_law_part"] ["_law_deal_here","_law_names_here"] (Jj (top 51)):=⟨rfl,rfl,rfl,by decide +kernel,rfl,by decide +kernel,by decide +kernel⟩
def zcy:GD:=fun ts n R=>∃(d:Deal) (nms:List Str),ts=[dlD d,.list (nD nms)]/\Dl d/\d.2.1.length<=40/\d.2.2.length<=40/\nms.length<=20/\(∀s∈nms,IsNm s)/\nms.Nodup/\(∀p∈d.2.1,p.2∈nms)/\R (.bool true) n
theorem zhd{d:Deal}{nms:List Str}{n:Nat}{R:qN}(D:Dl d)(l1:d.2.1.length<=40)(l2:d.2.2.length<=40)(ln:nms.length<=20)(hn:∀s∈nms,IsNm s)(nd:nms.Nodup)(ho:∀p∈d.2.1,p.2∈nms)(h:R (.bool true) n):zcy [dlD d,.list (nD nms)] n R:=⟨d,nms,rfl,D,l1,l2,ln,hn,nd,ho,h⟩
theorem zq6{bits:Int}(b0:0<=bits){S:Int->Prop}{ps:qB}(h:CanP S ps)(w:∀x,S x->0<=x/\x<2 ^ bits.toNat):fewD ps=true:=by
 unfold fewD;rw[Bool.not_eq_true',List.any_eq_false];intro q hq;simpa using h.nohalf b0 w q hq
theorem zpe{all:List (List (Int×Int))}{x:Int}:mB x all.flatten↔∃q∈all,mB x q:=by
 constructor
 ·rintro⟨b,hb,h⟩;obtain⟨q,hq,hb⟩:=List.mem_flatten.mp hb;exact⟨q,hq,b,hb,h⟩
 ·rintro⟨q,hq,b,hb,h⟩;exact⟨b,List.mem_flatten.mpr ⟨q,hq,hb⟩,h⟩
theorem zpf{bits:Int}{all:List (List (Int×Int))}(P:∀q∈all,Ptc bits q)(dj:all.Pairwise fun a b=>∀x,mB x a->mB x b->False):all.flatten.Pairwise disB:=by
 rw[List.pairwise_flatten];refine⟨fun q hq=>(P q hq).2.imp fun h=>.inl h,dj.imp fun {a b} h=>?_⟩
 exact fun x hx y hy=>ztP h x hx y hy
theorem zkE{all:List (List (Int×Int))}{k:Nat}(h:∀q∈all,q.length<=k):all.flatten.length<=k*all.length:=by
 induction all with
 | nil=>simp
 | cons a r ih =>
  have h1:=h a (by simp)
  have h2:=ih fun q hq=>h q (by simp[hq])
  rw[List.flatten_cons,List.length_append,List.length_cons,Nat.mul_succ];lia
theorem zh4{ks:List ((Int×Int)×Str)}:J8 ks .none=ks.map (·.1):=by
 unfold J8;congr 1;rw[List.filter_eq_self];intro p _
 rfl
theorem Z1{os:List ((Int×Int)×Str)}{x:Int}:mB x (os.map (·.1))↔∃p∈os,inB x p.1:=by
 constructor
 ·rintro⟨b,hb,h⟩;obtain⟨p,hp,rfl⟩:=List.mem_map.mp hb;exact⟨p,hp,h⟩
 ·rintro⟨p,hp,h⟩;exact⟨p.1,List.mem_map.mpr ⟨p,hp,rfl⟩,h⟩
theorem Wo{os:List ((Int×Int)×Str)}{s:Str}{x:Int}:mB x (ofName os (.str s))↔∃p∈os,p.2=s/\inB x p.1:=by
 unfold ofName;constructor
 ·rintro⟨b,hb,h⟩;obtain⟨p,hp,rfl⟩:=List.mem_map.mp hb;obtain⟨h1,h2⟩:=List.mem_filter.mp hp;exact⟨p,h1,by simpa[who] using h2,h⟩
 ·rintro⟨p,hp,e,h⟩;exact⟨p.1,List.mem_map.mpr ⟨p,List.mem_filter.mpr ⟨hp,by simp[who,e]⟩,rfl⟩,h⟩
theorem zmx{bits:Int}{os ks:List ((Int×Int)×Str)}{nms:List Str}{pss:List (List (Int×Int))}{kq fq:qB}(D:Dl (bits,os,ks))(nd:nms.Nodup)(ho:∀p∈os,p.2∈nms)(lp:pss.length=nms.length)
  (hp:∀(i:Nat) (ps:qB),pss[i]?=some ps->ps.length<=40/\∃s,nms[i]?=some s/\CanP (fun x=>mB x (ofName os (.str s))) ps) (CK:CanP (fun x=>mB x (J8 ks .none)/\¬mB x (os.map (·.1))) kq) (CF:CanP (Free (bits,os,ks) .none) fq) :
  (∀q∈pss++[kq,fq],Ptc bits q/\fewD q=true)/\((pss++[kq,fq]).Pairwise fun a b=>∀x,mB x a->mB x b->False)/\∀x,(∃q∈pss++[kq,fq],mB x q)↔0<=x/\x<2 ^ bits.toNat:=by
 obtain⟨b0,b1,S1,S2,ag⟩:=D;have bb:0<=bits:=by have:1<=bits:=b0;lia
 have S1:Shr bits os:=S1;have S2:Shr bits ks:=S2;rw[zh4]at CK;have inr1:∀{x:Int},mB x (os.map (·.1))->0<=x/\x<2 ^ bits.toNat:=fun h=>Qf bb S1.1.1 h
 have inr2:∀{x:Int},mB x (ks.map (·.1))->0<=x/\x<2 ^ bits.toNat:=fun h=>Qf bb S2.1.1 h
 have ino:∀{s:Str} {x:Int},mB x (ofName os (.str s))->mB x (os.map (·.1)):=fun h=>by
  obtain⟨p,hp,_,i⟩:=Wo.mp h;exact Z1.mpr ⟨p,hp,i⟩
 have good:∀{S:Int->Prop} {q:qB},CanP S q->(∀x,S x->0<=x/\x<2 ^ bits.toNat)->Ptc bits q/\fewD q=true:=fun C w=>⟨C.ptc bb w,zq6 bb C w⟩
 have fr:∀{x:Int},Free (bits,os,ks) .none x↔(0<=x/\x<2 ^ bits.toNat/\¬mB x (os.map (·.1))/\¬mB x (ks.map (·.1))):=fun {x}=>by
  unfold Free;rw[zdt]
 have ofp:∀q∈pss,∃i s,pss[i]?=some q/\nms[i]?=some s/\CanP (fun x=>mB x (ofName os (.str s))) q:=fun q hq=>by
  obtain⟨i,ei⟩:=List.mem_iff_getElem?.mp hq;obtain⟨_,s,es,C⟩:=hp i q ei;exact⟨i,s,ei,es,C⟩
 refine⟨fun q hq=>?_,?_,fun x=>?_⟩
 ·rcases List.mem_append.mp hq with hq|hq
  ·obtain⟨i,s,_,_,C⟩:=ofp q hq;exact good C fun x h=>inr1 (ino h)
  ·simp only[List.mem_cons,List.not_mem_nil,or_false]at hq;rcases hq with rfl|rfl
   ·exact good CK fun x h=>inr2 h.1
   ·exact good CF fun x h=>⟨h.1,h.2.1⟩
 ·rw[List.pairwise_append];refine⟨?_,?_,?_⟩
  ·rw[List.pairwise_iff_getElem];intro i j hi hj hij x h1 h2;obtain⟨_,s,es,C⟩:=hp i _ (List.getElem?_eq_getElem hi);obtain⟨_,t,et,E⟩:=hp j _ (List.getElem?_eq_getElem hj);obtain⟨p,hp1,e1,i1⟩:=Wo.mp ((C.mem x).mp h1);obtain⟨q,hq1,e2,i2⟩:=Wo.mp ((E.mem x).mp h2);have e:=zrJ S1 hp1 hq1 i1 i2;subst e;have est:s=t:=e1.symm.trans e2;subst est;obtain⟨li,ei⟩:=List.getElem?_eq_some_iff.mp es;obtain⟨lj,ej⟩:=List.getElem?_eq_some_iff.mp et
   have:=List.pairwise_iff_getElem.mp nd i j li lj hij;exact this (ei.trans ej.symm)
  ·refine List.pairwise_cons.mpr ⟨fun b hb x h1 h2=>?_,List.pairwise_singleton _ _⟩
   cases List.mem_singleton.mp hb;exact(fr.mp ((CF.mem x).mp h2)).2.2.2 ((CK.mem x).mp h1).1
  ·intro a ha b hb x h1 h2;obtain⟨i,s,_,_,C⟩:=ofp a ha;have io:=ino ((C.mem x).mp h1);simp only[List.mem_cons,List.not_mem_nil,or_false]at hb;rcases hb with rfl|rfl
   ·exact((CK.mem x).mp h2).2 io
   ·exact(fr.mp ((CF.mem x).mp h2)).2.2.1 io
 ·constructor
  ·rintro⟨q,hq,h⟩;rcases List.mem_append.mp hq with hq|hq
   ·obtain⟨i,s,_,_,C⟩:=ofp q hq;exact inr1 (ino ((C.mem x).mp h))
   ·simp only[List.mem_cons,List.not_mem_nil,or_false]at hq;rcases hq with rfl|rfl
    ·exact inr2 ((CK.mem x).mp h).1
    ·have:=fr.mp ((CF.mem x).mp h);exact⟨this.1,this.2.1⟩
  ·rintro⟨x0,x1⟩
   by_cases h1:mB x (os.map (·.1))
   ·obtain⟨p,hp1,i1⟩:=Z1.mp h1;obtain⟨i,ei⟩:=List.mem_iff_getElem?.mp (ho p hp1);have li:=(List.getElem?_eq_some_iff.mp ei).1;have li':i<pss.length:=by lia
    obtain⟨_,s,es,C⟩:=hp i _ (List.getElem?_eq_getElem li');rw[ei]at es;cases es;exact⟨_,List.mem_append.mpr (.inl (List.getElem_mem li')),(C.mem x).mpr (Wo.mpr ⟨p,hp1,rfl,i1⟩)⟩
   ·by_cases h2:mB x (ks.map (·.1))
    ·exact⟨kq,by simp,(CK.mem x).mpr ⟨h2,h1⟩⟩
    ·exact⟨fq,by simp,(CF.mem x).mpr (fr.mpr ⟨x0,x1,h1,h2⟩)⟩
def zdI(Z:ZZ):Prop:=FQ Z "_law_parted" (top 51) ["_law_deal_here","_law_names_here"] 7 (spD Z.K 2 zcy)
theorem zfP(D:Dq Z.K Z.mg "_law_parted" (top 51) ["_law_deal_here","_law_names_here"]) (h_out_to:zj8 Z) (h__law_kept:zdp Z) (h_free_for:Z6 Z) (h_count_of:zf_ Z) (h_fewest:Zs Z) (h_apart:ziW Z) (h_is_fewest:ze0 Z) (T:Txt Z.mg):zdI Z:=by
 refine' okQ D Va rfl fun f cdv A outer s H E hr=>⟨_,(Jh (Jx (i:=2) Va.nd rfl (Or.inl rfl) (Js (znr (dl (Js (JT (own:=["_law_name"]) (capt:=[0]) rfl (CompScope.of rfl) (dil (Ur (Ja 1))) (fun _ _ _ _=>(Ji (i:=0) (by show(["_law_name","_law_deal_here"]:List Str).Nodup;decide +kernel) rfl (Or.inl rfl))) (by decide) (fun _ _ _ _=>JW) (fun _ _ _ _=>(Jg h_out_to hr (Jb (Ja 1) (Jb (Ja 0) Je Jc) Jc)))))) (dl (Js (JS (Jb (Jg h__law_kept hr (Jb (Ja 0) (Jb QO Je Zl) Jc)) (Jb (Jg h_free_for hr (Jb (Ja 0) (Jb QO Je Zl) Jc)) Je Jv) Jv))))))) (Jh (Jy (J7 (J3 (dl (JB (Ut rfl) Ul T.all Us (Jp (dl (Js (JT (own:=["_law_part"]) (capt:=[]) rfl (CompScope.of rfl) (dil (Ur (Ja 2))) (fun _ _ _ _=>(Ji (i:=0) (by show(["_law_part"]:List Str).Nodup;decide +kernel) rfl (Or.inl rfl))) (by decide) (fun _ _ _ _=>JW) (fun _ _ _ _=>(JZ zqr zq1 (dl (Jg h_is_fewest hr (Jb (Ja 0) Je Jc))) (dl JR) (Jo _)))))) Jq J9))))) (Jf (Jk JR)) JC) (Jh (QR (i:=3) Va.nd rfl (Or.inl rfl) (JS Je)) (Jh (QZ PassesOwn.never rfl (Ur (Ja 2)) (Ji (i:=4) Va.nd rfl (Or.inl rfl)) (Jf (zlG 3 (Ja 4)))) (Jh (QR (i:=3) Va.nd rfl (Or.inl rfl) (zfD hr T.srt (Yt 3) Jc)) (Uf 3 (Jh (Jy (J7 (J3 (dl (JB (Ut rfl) Ul T.all Us (Jp (dl (Js (JT (own:=["_law_one","_law_other"]) (capt:=[]) rfl (CompScope.of rfl) (dil (zns T.zip (Ja 3) (Js (zkK (dl (Ja 3)) (UH Jd) UG)))) (fun _ _ _ _=>(JJ rfl (Jn (Ji (i:=0) (by show(["_law_one","_law_other"]:List Str).Nodup;decide +kernel) rfl (Or.inl rfl)) (Jn (Ji (i:=1) (by show(["_law_one","_law_other"]:List Str).Nodup;decide +kernel) rfl (Or.inl rfl)) JH)))) (by decide) (fun _ _ _ _=>JW) (fun _ _ _ _=>(Jg h_apart hr (Jb (Ja 0) (Jb (Ja 1) Je Jc) Jc)))))) Jq J9))))) (Jf (Jk JR)) JC) (Jf (Jk (QH (JZ (QC hr) QA (dl (Jg h_count_of hr (Jb (QM Ue Q9 T.tup Qq (Jp (dl (Ja 3)) Jq Jc)) Je Jv))) (dl (J1 (dl Jd) (dl (Jl (dl (Ja 0)) (dl Jd))))) (Jo _)) (QP (JZ (QC hr) QA (dl (Jg h_fewest hr (Jb (Ja 3) Je Jc))) (dl (JI (Jb (JI (Jb Jd (Jb (Jl (dl (Ja 0)) (dl Jd)) Je Q5) Jr)) Je V6))) (Jo _))))))))))))),?_⟩
 intro ts n R hl h;obtain⟨d,nms,rfl,D,l1,l2,ln,hn,nd,ho,h⟩:=h;have ot:∀{s:Str} {n:Nat} {R:qN},s∈nms->(∀qs,CanP (fun x=>mB x (ofName d.2.1 (.str s))) qs->qs.length<=d.2.1.length->R (.tuple (pD qs)) n)->zg4 [dlD d,.str s] n R:=fun {s n R} hs z=>zpn D (.inr ⟨s,rfl,hn s hs⟩) (by lia) z
 have ff:∀{n:Nat} {R:qN},(∀qs,CanP (Free d .none) qs->qs.length<=130*(d.2.1.length+d.2.2.length+1)->R (.tuple (pD qs)) n)->YQ [dlD d,.none] n R:=fun {n R} z=>V7 D (.inl rfl) (by lia) z
 have kp:∀{n:Nat} {R:qN},(∀qs,CanP (fun x=>mB x (J8 d.2.2 .none)/\¬mB x (d.2.1.map (·.1))) qs->qs.length<=130*(d.2.1.length+d.2.2.length+1)->R (.tuple (pD qs)) n)->Wj [dlD d,.none] n R:=fun {n R} z=>zfL D (.inl rfl) (by lia) z
 obtain⟨bits,os,ks⟩:=d;have D':=D;obtain⟨b0,b1,S1,S2,ag⟩:=D;have b0:1<=bits:=b0;have b1:bits<=64:=b1;have bb:0<=bits:=by lia
 have S1:Shr bits os:=S1;have S2:Shr bits ks:=S2;have l1:os.length<=40:=l1;have l2:ks.length<=40:=l2;have ho:∀p∈os,p.2∈nms:=ho;rw[show dlD (bits,os,ks)=.tuple [.int bits,.tuple (oD os),.tuple (oD ks)] from rfl]at *
 wp_walk
 refine ZK (fun j acc m=>m=n/\∃pss:List (List (Int×Int)),acc=pss.map (fun ps=>PyData.tuple (pD ps))/\pss.length=j/\∀(i:Nat) (ps:qB),pss[i]?=some ps->ps.length<=40/\∃s,nms[i]?=some s/\CanP (fun x=>mB x (ofName os (.str s))) ps) ⟨rfl,[],rfl,rfl,fun i ps e=>by simp at e⟩ ?_ ?_
 ·rintro j t acc m K ej ⟨rfl,pss,rfl,lp,hp⟩ hK;unfold nD at ej;rw[List.getElem?_map]at ej;cases es:nms[j]? with
  | none=>rw[es]at ej;cases ej
  | some s =>
   rw[es]at ej;cases ej;have hs:=List.mem_of_getElem? es;have jl:=(List.getElem?_eq_some_iff.mp es).1
   wp_walk using ot hs (fun qs C lq=>?_)
   ·rw[List.length_map];lia
   refine hK _ _ ⟨rfl,pss++[qs],by simp,by simp[lp],fun i ps e=>?_⟩
   by_cases z:i<pss.length
   ·rw[List.getElem?_append_left z]at e;exact hp i ps e
   ·rw[List.getElem?_append_right (by lia)]at e
    have z0:i - pss.length=0:=by
     rcases hz:i - pss.length with _|k
     ·rfl
     ·rw[hz]at e;simp at e
    rw[z0]at e;cases(show qs=ps by simpa using e)
    exact⟨Nat.le_trans lq l1,s,by rw[show i=j by lia];exact es,C⟩
 ·rintro acc m ⟨rfl,pss,rfl,lp,hp⟩;rw[zpD]at lp
  wp_walk using kp (fun kq CK lk=>?_),ff (fun fq CF lf=>?_)
  ·rw[List.length_map];show pss.length+2<=_;lia
  obtain⟨al,dj,cov⟩:=zmx D' nd ho lp hp CK CF;have lk:kq.length<=130*(os.length+ks.length+1):=lk;have lf:fq.length<=130*(os.length+ks.length+1):=lf;have ll:∀q∈pss++[kq,fq],q.length<=10600:=fun q hq=>by
   rcases List.mem_append.mp hq with hq|hq
   ·obtain⟨i,ei⟩:=List.mem_iff_getElem?.mp hq;have:=(hp i q ei).1;lia
   ·simp only[List.mem_cons,List.not_mem_nil,or_false]at hq;rcases hq with rfl|rfl <;> lia
  have lt:(pss++[kq,fq]).flatten.length<=22000:=by
   have h1:pss.flatten.length<=40*pss.length:=zkE fun q hq=>by
    obtain⟨i,ei⟩:=List.mem_iff_getElem?.mp hq;exact(hp i q ei).1
   rw[List.flatten_append,List.length_append];simp only[List.flatten_cons,List.flatten_nil,List.append_nil,List.length_append];lia
  have la:(pss++[kq,fq]).length<=22:=by rw[List.length_append];show pss.length+2<=22;lia
  rw[show List.map (fun ps=>PyData.tuple (pD ps)) pss++[PyData.tuple (pD kq),PyData.tuple (pD fq)]=(pss++[kq,fq]).map (fun ps=>PyData.tuple (pD ps)) from by simp]
  generalize pss++[kq,fq]=all at al dj cov ll lt la;have hg:∀q∈all,∀b∈q,0<=b.2/\b.2<=64:=fun q hq b hb=>by have:=(al q hq).1.1 b hb;exact⟨this.1,by have:=this.2.1;lia⟩
  refine Qs (cs:=all) (D:=fun q=>.tuple (pD q)) (fun _=>.bool true) (by lia) ?_ ?_
  ·intro q hq K2 X2 hK2;have h1:=hg q hq;have h2:=ll q hq
   wp_walk using zjT h1 (by lia) ?_
   rw[(al q hq).2];exact hK2
  have Bw:Bks bits all.flatten:=fun b hb=>by
   obtain⟨q,hq,hb⟩:=List.mem_flatten.mp hb;exact(al q hq).1.1 b hb
  have dw:=zpf (fun q hq=>(al q hq).1) dj
  have mw:∀x,mB x all.flatten↔0<=x/\x<2 ^ bits.toNat:=fun x=>by rw[zpe,cov]
  wp_walk using Um ?_
  rotate_right
  ·exact absurd hc (by simp)
  refine ztL 3 4 (fun k a3 _ m'=>m'=m/\a3=some (.own (pD (all.take k).flatten))) ⟨rfl,rfl⟩ ?_ ?_
  ·rintro k t a3 a4 m' K RT BK et ⟨rfl,rfl⟩ hK hRT hBK;rw[List.getElem?_map]at et;cases eq:all[k]? with
   | none=>rw[eq]at et;cases et
   | some q =>
    rw[eq]at et;cases et;have hq:=List.mem_of_getElem? eq;have l3:=ll q hq;have l4:(all.take k).flatten.length<=10600*(all.take k).length:=zkE fun q hq=>ll q (List.mem_of_mem_take hq)
    have l5:(all.take k).length<=22:=by rw[List.length_take];lia
    wp_walk
    ·rw[Jz,Jz];lia
    ·rw[Y6];refine hK _ _ _ ⟨rfl,?_⟩;rw[List.take_succ,eq];simp
  ·rintro a3 a4 m' ⟨rfl,rfl⟩;rw[List.length_map,List.take_length]
   wp_walk
   refine zm9 (.inl rfl) b1 Bw (by lia) fun es pm pw=>?_
   have Be:Bks bits es:=fun b hb=>Bw b (pm.mem_iff.mp hb)
   have le:es.length<90000:=by rw[pm.length_eq];lia
   have pe:es.Pairwise fun a b=>eB a<=b.1:=by
    have h1:es.Pairwise disB:=(pm.pairwise_iff fun h=>h.symm).mpr dw
    refine(h1.and pw).imp fun {a b} h=>?_
    rcases h.1 with z|z
    ·exact z
    ·have:=Qu b;have:=h.2;lia
   have me:∀x,mB x es↔0<=x/\x<2 ^ bits.toNat:=fun x=>by rw[zmV pm,mw]
   have sm:=zho pe (Int.le_of_lt (Qj bits.toNat)) me;have row:CanP (fun x=>0<=x/\x<2 ^ bits.toNat) [(0,bits)]:=zrf bb
   wp_walk
   rw[zha,zlS];refine Qs (cs:=es.zip es.tail) (D:=fun q:(Int×Int)×(Int×Int)=>.tuple [prD q.1,prD q.2]) (fun _=>.bool true) (by rw[List.length_zip];lia) ?_ ?_
   ·rintro⟨⟨i,g⟩,⟨j,h⟩⟩ hq K2 X2 hK2;have A:=Be _ (List.of_mem_zip hq).1;have B:=Be _ (List.mem_of_mem_tail (List.of_mem_zip hq).2);have ap:(!hldD i g j h&&!hldD j h i g)=true:=(zpS A B).mpr (.inl ((VX (bits:=bits)).mpr pe _ hq));have Al:=A.lt bb b1;have Bl:=B.lt bb b1;have g0:0<=g:=A.1;have g1:g<=bits:=A.2.1;have h0:0<=h:=B.1;have h1:h<=bits:=B.2.1
    wp_walk
    show zjM [.tuple [.int i,.int g],.tuple [.int j,.int h]] _ _
    refine znQ g0 (by lia) h0 (by lia) Al.1 (by lia) Bl.1 (by lia) ?_
    rw[ap];exact hK2
   have hge:∀b∈es,0<=b.2/\b.2<=64:=fun b hb=>by have:=Be b hb;exact⟨this.1,by have:=this.2.1;lia⟩
   have le2:es.length<=1000000:=by lia
   have le3:es.length<100000:=by lia
   wp_walk using Um ?_,zlP hge le2 ?_
   rotate_right
   ·exact absurd hc (by simp)
   ·exact cpow (by lia) (by lia)
   ·refine Zk (.inl rfl) bb b1 Be le3 (fun us U lu=>?_)
    have eu:us=[(0,bits)]:=U.uniq row me;subst eu;have er:∀{R:PyData->Prop},R (.bool true)->oEq (.tuple (pD [(0,bits)])) (.tuple [.tuple [.int 0,.int bits]]) R:=fun {R} z=>⟨Zi,Zi (bs:=[(0,bits)]),by rw[show PyData.tuple [.tuple [.int 0,.int bits]]=.tuple (pD [(0,bits)]) from rfl,VT Zi];exact z⟩
    wp_walk using er ?_
    exact h
   ·exfalso;rw[Qz]at hc;exact hc (by rw[sm];lia)
theorem QF:FnScope ["_law_script","_law_k","_law_hand_here","_law_bits_here","_law_names_here","_law_most","_law_deal_here","_law_name","_law_some","_law_begin","_law_height"] ["_law_script"] (Jj (top 52)):=⟨rfl,rfl,rfl,by decide +kernel,rfl,by decide +kernel,by decide +kernel⟩
theorem zqe{s:Str}(h:IsNm s):PlnD (.str s):=zoD (by have:=h.2.1;lia)
theorem zqd{b:Int×Int}:PlnD (prD b):=Z2 (by simp) (YS zgD (YS zgD zgC))
theorem zmo{os:List ((Int×Int)×Str)}(hl:os.length<=1000000)(h:∀p∈os,IsNm p.2):PlnD (.tuple (oD os)):=Z2 (by rw[Q0];exact hl) fun t ht=>by
 obtain⟨p,hp,rfl⟩:=List.mem_map.mp ht;exact Z2 (by simp) (YS zqd (YS (zqe (h p hp)) zgC))
theorem zqf{d:Deal}(D:Dl d)(h1:d.2.1.length<=1000000)(h2:d.2.2.length<=1000000):PlnD (dlD d):=Z2 (by simp) (YS zgD (YS (zmo h1 D.2.2.1.2) (YS (zmo h2 D.2.2.2.1.2) zgC)))
theorem zvS{a b c r:Int}{R:PyData->Prop}(r0:0<=r)(r1:r<3)(h:∀z,z=a\/z=b\/z=c->R (.int z)):oIx (.list [.int a,.int b,.int c]) (.int r) R:=by
 have e:r=0\/r=1\/r=2:=by lia
 rcases e with rfl|rfl|rfl
 ·exact Vs (h a (.inl rfl))
 ·exact zpJ (h b (.inr (.inl rfl)))
 ·exact zs0 (h c (.inr (.inr rfl)))
theorem zvR{a b:Int}{c:Prop}[Decidable c]{R:PyData->Prop}(h:∀z:Int,z=a\/z=b->R (.int z)):oIx (.list [.int a,.int b]) (.int (if decide c=true then 1 else 0)) R:=by
 by_cases hc:c
 ·rw[if_pos (decide_eq_true hc)];exact zpJ (h b (.inr rfl))
 ·rw[if_neg (by simp[hc])];exact Vs (h a (.inl rfl))
theorem zlr{d:Deal}{s:Str}{x:Int}:mB x (Qh d (.str s))↔∃p∈d.2.2,p.2≠s/\inB x p.1:=by
 unfold Qh;constructor
 ·rintro⟨b,hb,h⟩;obtain⟨p,hp,rfl⟩:=List.mem_map.mp hb;obtain⟨h1,h2⟩:=List.mem_filter.mp hp;exact⟨p,h1,by simpa[who] using h2,h⟩
 ·rintro⟨p,hp,e,h⟩;exact⟨p.1,List.mem_map.mpr ⟨p,List.mem_filter.mpr ⟨hp,by simp[who,e]⟩,rfl⟩,h⟩
theorem zjd{ks:List ((Int×Int)×Str)}{s:Str}{x:Int}:mB x (J8 ks (.str s))↔∃p∈ks,p.2=s/\inB x p.1:=by
 unfold J8;constructor
 ·rintro⟨b,hb,h⟩;obtain⟨p,hp,rfl⟩:=List.mem_map.mp hb;obtain⟨h1,h2⟩:=List.mem_filter.mp hp;exact⟨p,h1,by simpa[who,isNone] using h2,h⟩
 ·rintro⟨p,hp,e,h⟩;exact⟨p.1,List.mem_map.mpr ⟨p,List.mem_filter.mpr ⟨hp,by simp[who,isNone,e]⟩,rfl⟩,h⟩
theorem znl{d:Deal}(D:Dl d){s:Str}{x:Int}:Free d (.str s) x↔(Free d .none x\/(mB x (J8 d.2.2 (.str s))/\¬mB x (d.2.1.map (·.1)))):=by
 have b0:=D.1;unfold Free;rw[zdt,zlr,zjd];constructor
 ·rintro⟨x0,x1,no,nk⟩
  by_cases h:mB x (d.2.2.map (·.1))
  ·obtain⟨p,hp,ip⟩:=Z1.mp h;exact .inr ⟨⟨p,hp,Classical.byContradiction fun e=>nk ⟨p,hp,e,ip⟩,ip⟩,no⟩
  ·exact .inl ⟨x0,x1,no,h⟩
 ·rintro(⟨x0,x1,no,nk⟩|⟨⟨p,hp,e,ip⟩,no⟩)
  ·exact⟨x0,x1,no,fun⟨p,hp,_,ip⟩=>nk (Z1.mpr ⟨p,hp,ip⟩)⟩
  ·have inr:=Qf (by lia) D.2.2.2.1.1.1 (Z1.mpr ⟨p,hp,ip⟩)
   refine⟨inr.1,inr.2,no,fun⟨q,hq,ne,iq⟩=>?_⟩
   rw[zrJ D.2.2.2.1 hp hq ip iq]at e;exact ne e
theorem zsD{f:Addr}{fd:FuncData}(D:Def Z.K Z.mg "law" (top 52) ["_law_script"] f fd) (h__law_hand:ze4 Z) (h__law_bits:ze6 Z) (h__law_names:zet Z) (h__law_deal:ze5 Z) (h__law_take:Zy Z) (h_is_deal:zhG Z) (h__law_parted:zdI Z) (h_free_for:Z6 Z) (h_fewest:Zs Z) (h__law_holder_right:zbY Z) (h__law_kept:zdp Z) (T:Txt Z.mg):FnOk Z.P Z.w Z.K Z.mg Z.base CX0 9 f fd ["_law_script"] (spD Z.K 1 ztH):=by
 refine D.okD QF rfl fun cdv A outer s H E hr=>?_
 refine'⟨_,(Jh (QZ PassesOwn.never rfl (V9 T.ran (JB (Wh rfl) Vo T.max Wf (Jp (dl Jd) (Jp (dl (JB (Wi rfl) Vp T.min Wg (Jp (dl Jd) (Jp (dl (JB QE QB T.len Qy (Jp (dl (Ja 0)) Jq Jc))) Jq Jv) Jr))) Jq Jv) Jr))) (Ji (i:=1) QF.nd rfl (Or.inl rfl)) (znn (i:=2) (j:=1) h__law_hand hr QF.nd rfl (Or.inr rfl) (Jh (Jx (i:=3) QF.nd rfl (Or.inr rfl) (Jg h__law_bits hr (Jb (Ja 2) Je Jc))) (Jh (Jx (i:=4) QF.nd rfl (Or.inl rfl) (Jg h__law_names hr (Jb (Ja 2) (Jb (JN (dl Jd) (dl (Jg h__law_take hr (Jb (Ja 2) (Jb Jd Je Jr) Jc)))) Je JP) Jc))) (Jh (Jx (i:=5) QF.nd rfl (Or.inl rfl) (Jl (dl (Js (JS (Jb Jd (Jb Jd (Jb Jd Je Jr) Jr) Jr)))) (dl (Jg h__law_take hr (Jb (Ja 2) (Jb Jd Je Jr) Jc))))) (Jh (Jx (i:=6) QF.nd rfl (Or.inr rfl) (Jg h__law_deal hr (Jb (Ja 2) (Jb (Ja 3) (Jb (Ja 4) (Jb (zkM (Jt Qd Qc (dl (Ja 3)) (dl Jd) (Jo _)) (Ja 5) Jd) Je zuQ) Jc) Jc) Jc))) (Jh (Jy (Qm (Uh (Jt zi3 zjK (dl (Jg h_is_deal hr (Jb (Ja 6) Je Jc))) (dl JR) (Jo _)) (Uk (J7 (J3 (dl (Jg h__law_parted hr (Jb (Ja 6) (Jb (Ja 4) Je Jc) Jc)))))))) (Jf (Jk JR)) JC) (Jh (QZ PassesOwn.never rfl (Ur (Js (zkK (dl (Ja 4)) UG (UH Jd)))) (Ji (i:=7) QF.nd rfl (Or.inl rfl)) (Jf (Jy (Jt (Ys hr) U4 (dl (Jg h_free_for hr (Jb (Ja 6) (Jb (Ja 7) Je Jc) Jc))) (dl (Jg h_fewest hr (Jb (JN (dl (Jg h_free_for hr (Jb (Ja 6) (Jb QO Je Zl) Jc))) (dl (Jg h__law_kept hr (Jb (Ja 6) (Jb (Ja 7) Je Jc) Jc)))) Je JP))) (Jo _)) (Jf (Jk JR)) JC))) (Jh (QR (i:=8) QF.nd rfl (Or.inl rfl) (znr (dl (Js (JS (Jb Jd (Jb (Uj (dl (J1 (dl Jd) (dl (Ja 3)))) (dl Jd)) Je JP) Jr)))) (dl (Js (JT (own:=["_law_turn"]) (capt:=[2,3]) rfl (CompScope.of rfl) (dil (V9 T.ran (Jl (dl (Js (JS (Jb Jd (Jb Jd Je Jr) Jr)))) (dl (QM ziC ztE T.int boot_int (Jp (dl (JZ Qd Qc (dl (Ja 3)) (dl Jd) (Jo _))) Jq zrG)))))) (fun _ _ _ _=>(Ji (i:=0) (by show(["_law_turn","_law_hand_here","_law_bits_here"]:List Str).Nodup;decide +kernel) rfl (Or.inl rfl))) (by decide) (fun _ _ _ _=>JW) (fun _ _ _ _=>(Jg h__law_take hr (Jb (Ja 1) (Jb (J1 (dl Jd) (dl (Ja 2))) Je JP) Jc)))))))) (Jh (QZ PassesOwn.never rfl (Qo (JN (dl (Zp (dl (Jl (dl (Ja 6)) (dl Jd))) UG (UH Jd))) (dl (Zp (dl (Jl (dl (Ja 6)) (dl Jd))) UG (UH Jd))))) (JJ rfl (Jn (JJ rfl (Jn (Ji (i:=9) QF.nd rfl (Or.inl rfl)) (Jn (Ji (i:=10) QF.nd rfl (Or.inl rfl)) JH))) (Jn (Ji (i:=7) QF.nd rfl (Or.inl rfl)) JH))) (Jf (znp 8 (Js (JS (Jb (Ja 9) (Jb (Uj (dl (JN (dl (Ja 9)) (dl (J1 (dl Jd) (dl (Ja 10)))))) (dl Jd)) Je JP) Jc)))))) (Uf 8 (Jf (Jy (J7 (J3 (dl (JB (Ut rfl) Ul T.all Us (Jp (dl (Js (JT (own:=["_law_address"]) (capt:=[6]) rfl (CompScope.of rfl) (dil (Ur (Ja 8))) (fun _ _ _ _=>(Ji (i:=0) (by show(["_law_address","_law_deal_here"]:List Str).Nodup;decide +kernel) rfl (Or.inl rfl))) (by decide) (fun _ _ _ _=>JW) (fun _ _ _ _=>(Jg h__law_holder_right hr (Jb (Ja 1) (Jb (Ja 0) Je Jc) Jc)))))) Jq J9))))) (Jf (Jk JR)) JC))))))))))))) (Jf (Jk JR))),?_⟩
 intro ts n R hl hh;obtain⟨ns,rfl,hl63,hh⟩:=hh
 wp_walk
 ·split <;> (try split) <;> lia
 ·split <;> (try split) <;> lia
 refine YL (fun _ ρ m=>∃a1 a2 a3 a4 a5 a6 a7 a8 a9 a10,ρ=[some (.val (SCR ns)),a1,a2,a3,a4,a5,a6,a7,a8,a9,a10]/\m=n) ⟨_,_,_,_,_,_,_,_,_,_,rfl,rfl⟩ ?_ ?_
 ·rintro k t ρ m K et ⟨a1,a2,a3,a4,a5,a6,a7,a8,a9,a10,rfl,rfl⟩ hK;obtain⟨hk,rfl⟩:=zed et;have hk8:k<8:=by
   revert hk;split <;> (try split) <;> lia
  with_reducible refine Stp.go ?_
  refine zo8 hl63 (by lia) (by lia) fun NX RT BK CT hNX hRT hBK hCT=>?_
  wp_walk using zjX ?_ (fun bits b0 b1=>?_),Y1 ?_ ?_ ?_ (fun r r0 r1=>?_),ziG ?_ ?_ ?_ (fun nms nl nk nd=>?_)
  all_goals first|lia|skip
  rw[show(nms.map PyData.str)=nD nms from rfl]
  refine zvS (by assumption) (by assumption) fun most hmost=>?_
  have ndl:nms≠[]:=fun z=>by rw[z]at nl;simp at nl;lia
  have nl':nms.length<=9:=by lia
  have pp:=Qj bits.toNat;have p64:=zeG (k:=bits.toNat) (by lia)
  have dl:∀{mo:Int} {n0:Nat} {R:qN},0<=mo->mo<=40->n0<=1000->(∀(d:Deal) (m:Nat),Dl d->d.1=bits->d.2.1.length<=40->d.2.2.length<=40->(∀p∈d.2.1,p.2∈nms)->m<=20000->R (dlD d) m)->zdw [HAND,.int bits,.list (nD nms),.int mo] n0 R:=fun {mo n0 R} m0 m1 h0 z=>zjW b0 b1 m0 (by lia) ndl (by lia) nk (by lia) fun d m D e l1 l2 ho hm=>z d m D e (by lia) (by lia) (fun p hp=>ho p (List.mem_append.mpr (.inl hp))) (by lia)
  have ifm:∀{n0:Nat} {R:qN},(∀mo:Int,0<=mo->mo<=40->R (.int mo) n0)->dIfE (U3 (dOp oLeA (dVar 3) (dC (PyData.int 16)))) (dVar 5) (dC (PyData.int 6)) [some (.val (SCR ns)),some (.val (.int (0+↑k))),some (.val HAND),some (.val (.int bits)),some (.val (.list (nD nms))),some (.val (.int most)),none,none,none,none,none] n0 R:=by
   intro n0 R h
   wp_walk
   ·exact h _ (by lia) (by lia)
   ·exact h _ (by lia) (by lia)
  wp_walk using ifm (fun mo mo0 mo1=>?_),dl ?_ ?_ ?_ (fun d m3 D e l1 l2 ho hm3=>?_)
  all_goals first|lia|skip
  have dT:∀{n:Nat} {R:qN},R (.bool true) n->zfy [dlD d] n R:=fun {n R} z=>zlM (zqf D (by lia) (by lia)) ⟨d,rfl,D⟩ z
  have pt:∀{n:Nat} {R:qN},R (.bool true) n->zcy [dlD d,.list (nD nms)] n R:=fun {n R} z=>zhd D l1 l2 (by lia) nk nd ho z
  have hr:∀{a:Int} {n:Nat} {R:qN},0<=a->a<2 ^ bits.toNat->R (.bool true) n->zbi [dlD d,.int a] n R:=fun {a n R} a0 a1 z=>zdz D a0 (by rw[e];exact a1) (by lia) z
  have ff:∀{nm:PyData} {n:Nat} {R:qN},Qt nm->(∀qs,CanP (Free d nm) qs->qs.length<=10600->R (.tuple (pD qs)) n)->YQ [dlD d,nm] n R:=fun {nm n R} hw z=>V7 D hw (by lia) fun qs C lq=>z qs C (by lia)
  have kp:∀{nm:PyData} {n:Nat} {R:qN},Qt nm->(∀qs,CanP (fun x=>mB x (J8 d.2.2 nm)/\¬mB x (d.2.1.map (·.1))) qs->qs.length<=10600->R (.tuple (pD qs)) n)->Wj [dlD d,nm] n R:=fun {nm n R} hw z=>zfL D hw (by lia) fun qs C lq=>z qs C (by lia)
  have fnm:=fun s x=>znl D (s:=s) (x:=x)
  have hwN:Qt .none:=.inl rfl
  wp_walk using dT ?_,pt ?_
  all_goals first|(exfalso;exact absurd hc (by decide))|skip
  have wh:∀t∈cutD (nD nms) none (some 3),∃s,t=.str s/\IsNm s:=fun t ht=>by
   obtain⟨s,hs,rfl⟩:=List.mem_map.mp (zhb ht);exact⟨s,rfl,nk s hs⟩
  refine ztM 7 (fun _ _ m=>m=m3) rfl ?_ ?_
  ·rintro j t a7 m' K2 RT2 BK2 et2 rfl hK2 hRT2 hBK2;obtain⟨s,rfl,hs⟩:=wh t (List.mem_of_getElem? et2);have hw:Qt (.str s):=.inr ⟨s,rfl,hs⟩
   wp_walk using ff hw (fun qs C lq=>?_)
   wp_walk using ff hwN (fun fs F lf=>?_),kp hw (fun ks' CK lk=>?_)
   ·rw[Jz,Jz];lia
   rw[Y6];have w1:∀x,Free d .none x->0<=x/\x<2 ^ bits.toNat:=fun x hx=>by rw[<- e];exact⟨hx.1,hx.2.1⟩
   have w2:∀x,(mB x (J8 d.2.2 (.str s))/\¬mB x (d.2.1.map (·.1)))->0<=x/\x<2 ^ bits.toNat:=fun x hx=>by
    have:=(fnm s x).mpr (.inr hx);rw[<- e];exact⟨this.1,this.2.1⟩
   have Bf:Bks bits (fs++ks'):=fun b hb=>by
    rcases List.mem_append.mp hb with z|z
    ·exact(F.ptc (bits:=bits) (by lia) w1).1 b z
    ·exact(CK.ptc (bits:=bits) (by lia) w2).1 b z
   refine Zk (.inr rfl) (by lia) b1 Bf (by rw[List.length_append];lia) fun us U lu=>?_
   have eu:us=qs:=U.uniq C fun x=>by rw[Vu,F.mem,CK.mem,fnm]
   subst eu
   wp_walk using zsS ?_
   exact hK2 _ _ rfl
  ·rintro a7 m' rfl;obtain⟨bits',os,ks⟩:=d;have e:bits'=bits:=e;subst e;have l1:os.length<=40:=l1;have l2:ks.length<=40:=l2;obtain⟨_,_,S1,S2,ag⟩:=D;have S1:Shr bits' os:=S1;have S2:Shr bits' ks:=S2;rw[show dlD (bits',os,ks)=.tuple [.int bits',.tuple (oD os),.tuple (oD ks)] from rfl]at *
   wp_walk using zvR (fun z hz=>?_)
   all_goals first|lia|exact cpow (by lia) (by lia)|skip
   refine ZK (fun j acc m2=>m2=m'+j/\∃is:List Int,acc=is.map PyData.int/\is.length=j/\∀a∈is,0<=a/\a<2 ^ bits'.toNat) ⟨rfl,[],rfl,rfl,fun a ha=>nomatch ha⟩ ?_ ?_
   ·rintro j t acc m2 K2 et2 ⟨rfl,is,rfl,li,hi⟩ hK2;obtain⟨hj,rfl⟩:=zed et2
    wp_walk using Y1 ?_ ?_ ?_ (fun q q0 q1=>?_)
    all_goals first|lia|exact cpow (by lia) (by lia)|(rw[Qz];lia)|(rw[List.length_map];lia)|skip
    refine hK2 _ _ ⟨by lia,is++[q],by simp,by simp[li],fun a ha=>?_⟩
    rcases List.mem_append.mp ha with h|h
    ·exact hi a h
    ·cases List.mem_singleton.mp h;rw[Qz]at q1;exact⟨q0,q1⟩
   ·rintro acc m2 ⟨rfl,is,rfl,li,hi⟩;have li8:is.length<=8:=by
     rw[li,zk8];lia
    wp_walk
    ·rw[List.length_map];show 2+is.length<=_;lia
    ·have h1:=VY (ts:=oD os) (lo:=none) (hi:=some 9);have h2:=VY (ts:=oD ks) (lo:=none) (hi:=some 9);rw[Q0]at h1 h2;lia
    have len2:(cutD (oD os) none (some 9)++cutD (oD ks) none (some 9)).length<=80:=by
     have h1:=VY (ts:=oD os) (lo:=none) (hi:=some 9);have h2:=VY (ts:=oD ks) (lo:=none) (hi:=some 9);rw[Q0]at h1 h2;rw[List.length_append];lia
    have mem2:∀t∈cutD (oD os) none (some 9)++cutD (oD ks) none (some 9),∃p:(Int×Int)×Str,t=.tuple [.tuple [.int p.1.1,.int p.1.2],.str p.2]/\IsBk bits' p.1.1 p.1.2:=fun t ht=>by
     rcases List.mem_append.mp ht with ht|ht
     ·obtain⟨p,hp,rfl⟩:=List.mem_map.mp (zhb ht);exact⟨p,rfl,S1.1.1 _ (List.mem_map.mpr ⟨p,hp,rfl⟩)⟩
     ·obtain⟨p,hp,rfl⟩:=List.mem_map.mp (zhb ht);exact⟨p,rfl,S2.1.1 _ (List.mem_map.mpr ⟨p,hp,rfl⟩)⟩
    generalize cutD (oD os) none (some 9)++cutD (oD ks) none (some 9)=ps at mem2 len2;refine VE 7 8 9 10 (fun j _ a8 _ _ m4=>m4=m'+(Qw 0 z.toNat).length/\∃is:List Int,a8=some (.own (is.map .int))/\is.length<=10+2*j/\∀a∈is,0<=a/\a<2 ^ bits'.toNat) ⟨rfl,0::(1*2 ^ bits'.toNat - 1)::is,rfl,by simp;lia,fun a ha=>by
     simp only[List.mem_cons]at ha;rcases ha with rfl|rfl|ha
     ·lia
     ·lia
     ·exact hi a ha⟩ ?_ ?_
    ·rintro j t a7 a8 a9 a10 m4 K2 RT2 BK2 et2 ⟨rfl,is,rfl,li,hi⟩ hK2 hRT2 hBK2;obtain⟨p,rfl,B⟩:=mem2 t (List.mem_of_getElem? et2);have jl:=(List.getElem?_eq_some_iff.mp et2).1;have g0:0<=p.1.2:=B.1;have g1:p.1.2<=bits':=B.2.1;have bd:=B.bounds (by lia)
     have pg:=Qj p.1.2.toNat
     wp_walk
     all_goals try exact cpow (by lia) (by lia)
     ·rw[List.length_map];show is.length+2<=_;lia
     ·refine hK2 _ _ _ _ _ ⟨rfl,is++[p.1.1,p.1.1+1*2 ^ p.1.2.toNat - 1],by simp,by simp;lia,fun a ha=>?_⟩
      rcases List.mem_append.mp ha with h|h
      ·exact hi a h
      ·simp only[List.mem_cons,List.not_mem_nil,or_false]at h;rcases h with rfl|rfl
       ·lia
       ·lia
    ·rintro a7 a8 a9 a10 m4 ⟨rfl,is,rfl,li,hi⟩
     wp_walk
     refine Qs (cs:=is) (D:=fun a=>.int a) (fun _=>.bool true) (by lia) ?_ ?_
     ·intro a ha K2 X2 hK2;obtain⟨a0,a1⟩:=hi a ha
      wp_walk using hr a0 a1 ?_
      exact hK2
     wp_walk using Um ?_
     ·exact hNX _ _ (hK _ _ ⟨_,_,_,_,_,_,_,_,_,_,rfl,rfl⟩)
     ·exact absurd hc (by simp)
 ·rintro ρ m ⟨a1,a2,a3,a4,a5,a6,a7,a8,a9,a10,rfl,rfl⟩
  wp_walk
  exact hh _
end
section
open PySem.W PyProof.Rows
def pw:Program:=PySem.Challenge.pw_blockdeal_k54_whole_addresses_in_one_pla
def zvy:Stmt->Bool
 | .FunctionDef ..=>true
 | .Assign [.Name x _] _ _=>!(x == Str.ofString "__name__")
 | _=>false
def qv:Program:={ pw with main:={ pw.main with body:=pw.main.body.filter zvy } }
theorem zp4:recsOf qv=(pw.main.body.filter Vr).map recD:=by kernel_rfl
theorem zpG{i:Nat}(h:Vr (top i)=true):recD (top i)∈recsOf qv:=by
 rw[zp4];exact List.mem_map_of_mem (List.mem_filter.mpr ⟨getD_mem h,h⟩)
theorem dqG{i:Nat}{x:Str}{ps:List Str}{mean:ExcName->Option Value}{mg mb:qM}{h:Heap}(T:PyProof.Rows.Top qv (looseW qv []) mean mg mb h)(hb:BndA x (top i) ps)(h1:Vr (top i)=true:=by kernel_rfl)(h2:defName (top i)=x:=by kernel_rfl):Dq (Qx h) mg x (top i) ps:=dq_g T (zpG h1) h2 hb
def ztI:List Str:=[Str.ofString "isinstance",Str.ofString "int",Str.ofString "bool",Str.ofString "tuple",Str.ofString "len",Str.ofString "min",Str.ofString "max",Str.ofString "str",Str.ofString "repr",Str.ofString "all",Str.ofString "any",Str.ofString "range",Str.ofString "sum",Str.ofString "sorted",Str.ofString "list",Str.ofString "abs",Str.ofString "zip",Str.ofString "dict",Str.ofString "reversed",Str.ofString "enumerate"]
def ztJ(x:Str):Bool:=!startupNames.contains x&&!(looseW qv []).contains x&&!((recsOf qv).map (·.name)).contains x&&!((litsOf qv).map (·.1)).contains x&&!((clssOf qv (looseW qv [])).map (·.name)).contains x
theorem zq4:ztI.all ztJ=true:=by kernel_rfl
theorem zq5{mean:ExcName->Option Value}{mg mb:qM}{h:Heap}(T:PyProof.Rows.Top qv (looseW qv []) mean mg mb h){x:Str}(m:x∈ztI):mg x=none:=by
 have e:=List.all_eq_true.mp zq4 x m;unfold ztJ at e;simp only[Bool.and_eq_true,Bool.not_eq_true',List.contains_eq_mem,decide_eq_false_iff_not]at e;obtain⟨⟨⟨⟨a,b⟩,c⟩,d⟩,f⟩:=e;exact T.free x a b c d f
theorem zry{mean:ExcName->Option Value}{mg mb:qM}{h:Heap}(T:PyProof.Rows.Top qv (looseW qv []) mean mg mb h):Txt mg:=by
 constructor <;> exact zq5 T (List.contains_iff_mem.mp (by kernel_rfl))
theorem zp0:PySem.Challenge.rw_blockdeal_k54_whole_addresses_in_one_pla.wellSaid=true:=by kernel_rfl
theorem zqE:LeftO pw qv [] (fun s=>xlAt qv [] s&&recOk (RowW.records PySem.Challenge.rw_blockdeal_k54_whole_addresses_in_one_pla.row.toRowW) s) (Hook.obs Hook.none) (Hook.val Hook.none) 20000:=fun w=>by kernel_rfl
theorem zt1{mean:ExcName->Option Value}{mg mb:qM}{h:Heap}{w:World}{fa:Addr}(T0:PyProof.Rows.Top qv (looseW qv []) mean mg mb h)(hfa:mg (defName (top 52))=some (.ref fa)) :
  ∃fd:FuncData,(∀(s:Shared) (v:Value),BindsTo s fd ⟨[v],[]⟩ [("_law_script",v)])/\∀base:Heap,(Qx h).In base->base.Ns mainGlobals mg->FnOk PySem.Challenge.rw_blockdeal_k54_whole_addresses_in_one_pla.prog w (Qx h) mg base CX0 9 fa fd ["_law_script"] (zpX (Qx h)):=by
 have T:=zry T0;obtain⟨f,fd,DL⟩:=dq_g (x:="law") (ps:=["_law_script"]) T0 (zpG (i:=52) (by kernel_rfl)) (by kernel_rfl) fun _ _ _ _ _ _ us hl=>by obtain⟨_,rfl⟩:=len1 hl;rfl
 have e0:Value.ref f=Value.ref fa:=Option.some.inj (DL.m.symm.trans hfa);cases e0;refine⟨fd,fun s v=>?_,fun base _ _=>?_⟩
 ·obtain⟨oc,od,kV,doc,pm,an,cdv,ct,osl,rfl,_,_⟩:=DL.F.ex;exact .of_eq rfl
 let Z:ZZ:=⟨PySem.Challenge.rw_blockdeal_k54_whole_addresses_in_one_pla.prog,w,Qx h,mg,base⟩
 have h_is_whole:=zi5 (Z:=Z) (dqG (i:=1) T0 (bnd1 fun _ _ _ _ _ _ _=>rfl))  T
 have h_is_block:=zi7 (Z:=Z) (dqG (i:=2) T0 (bnd2 fun _ _ _ _ _ _ _ _=>rfl)) h_is_whole T
 have h_size_of:=zld (Z:=Z) (dqG (i:=3) T0 (bnd1 fun _ _ _ _ _ _ _=>rfl))  T
 have h_around:=zmL (Z:=Z) (dqG (i:=6) T0 (bnd2 fun _ _ _ _ _ _ _ _=>rfl))  T
 have h_holds:=zoP (Z:=Z) (dqG (i:=4) T0 (bnd2 fun _ _ _ _ _ _ _ _=>rfl)) h_around T
 have h_apart:=zoQ (Z:=Z) (dqG (i:=5) T0 (bnd2 fun _ _ _ _ _ _ _ _=>rfl)) h_holds T
 have h_other_half:=zgH (Z:=Z) (dqG (i:=7) T0 (bnd1 fun _ _ _ _ _ _ _=>rfl))  T
 have h_is_name:=zlh (Z:=Z) (dqG (i:=9) T0 (bnd1 fun _ _ _ _ _ _ _=>rfl))  T
 have h_end_of:=zmK (Z:=Z) (dqG (i:=20) T0 (bnd1 fun _ _ _ _ _ _ _=>rfl)) h_size_of T
 have h_is_patch:=zi6 (Z:=Z) (dqG (i:=11) T0 (bnd2 fun _ _ _ _ _ _ _ _=>rfl)) h_is_block h_end_of T
 have h_is_fewest:=zhO (Z:=Z) (dqG (i:=12) T0 (bnd1 fun _ _ _ _ _ _ _=>rfl)) h_other_half T
 have h_count_of:=zi_ (Z:=Z) (dqG (i:=13) T0 (bnd1 fun _ _ _ _ _ _ _=>rfl)) h_size_of T
 have h_greatest_height:=zdN (Z:=Z) (dqG (i:=21) T0 (bnd2 fun _ _ _ _ _ _ _ _=>rfl))  T
 have h_span:=zqv (Z:=Z) (dqG (i:=15) T0 (bnd2 fun _ _ _ _ _ _ _ _=>rfl)) h_end_of h_greatest_height T
 have h_patch_of:=zi4 (Z:=Z) (dqG (i:=22) T0 (bnd1 fun _ _ _ _ _ _ _=>rfl)) h_span T
 have h_runs_of:=zle (Z:=Z) (dqG (i:=23) T0 (bnd1 fun _ _ _ _ _ _ _=>rfl)) h_end_of T
 have h_fewest:=zmJ (Z:=Z) (dqG (i:=14) T0 (bnd1 fun _ _ _ _ _ _ _=>rfl)) h_patch_of h_runs_of T
 have h_gaps_below:=zgI (Z:=Z) (dqG (i:=24) T0 (bnd2 fun _ _ _ _ _ _ _ _=>rfl))  T
 have h_rest_of:=zlf (Z:=Z) (dqG (i:=16) T0 (bnd2 fun _ _ _ _ _ _ _ _=>rfl)) h_patch_of h_gaps_below h_runs_of T
 have h_shared_runs:=zfO (Z:=Z) (dqG (i:=25) T0 (bnd2 fun _ _ _ _ _ _ _ _=>rfl))  T
 have h_without:=zlc (Z:=Z) (dqG (i:=17) T0 (bnd2 fun _ _ _ _ _ _ _ _=>rfl)) h_runs_of h_patch_of h_shared_runs h_gaps_below T
 have h_ended_by:=zi9 (Z:=Z) (dqG (i:=19) T0 (bnd2 fun _ _ _ _ _ _ _ _=>rfl)) h_end_of T
 have h_block_with:=zgJ (Z:=Z) (dqG (i:=18) T0 (bnd2 fun _ _ _ _ _ _ _ _=>rfl)) h_ended_by T
 have h_all_blocks:=zgL (Z:=Z) (dqG (i:=34) T0 (bnd1 fun _ _ _ _ _ _ _=>rfl))  T
 have h_is_pair:=zlg (Z:=Z) (dqG (i:=32) T0 (bnd1 fun _ _ _ _ _ _ _=>rfl))  T
 have h_are_shares:=zgK (Z:=Z) (dqG (i:=31) T0 (bnd2 fun _ _ _ _ _ _ _ _=>rfl)) h_is_patch h_all_blocks h_is_name h_is_pair T
 have h_agree:=zoR (Z:=Z) (dqG (i:=33) T0 (bnd2 fun _ _ _ _ _ _ _ _=>rfl)) h_end_of h_apart T
 have h_is_deal:=zli (Z:=Z) (dqG (i:=27) T0 (bnd1 fun _ _ _ _ _ _ _=>rfl)) h_are_shares h_agree h_is_whole T
 have h_kept_from:=zhN (Z:=Z) (dqG (i:=36) T0 (bnd2 fun _ _ _ _ _ _ _ _=>rfl))  T
 have h_free_for:=zi8 (Z:=Z) (dqG (i:=28) T0 (bnd2 fun _ _ _ _ _ _ _ _=>rfl)) h_rest_of h_fewest h_all_blocks h_kept_from T
 have h_blocks_of:=zhP (Z:=Z) (dqG (i:=35) T0 (bnd2 fun _ _ _ _ _ _ _ _=>rfl))  T
 have h_out_to:=zmH (Z:=Z) (dqG (i:=29) T0 (bnd2 fun _ _ _ _ _ _ _ _=>rfl)) h_fewest h_blocks_of T
 have h_holder:=zmI (Z:=Z) (dqG (i:=30) T0 (bnd2 fun _ _ _ _ _ _ _ _=>rfl)) h_block_with h_all_blocks h_free_for T
 have h__law_hand:=zgG (Z:=Z) (dqG (i:=38) T0 (bnd2 fun _ _ _ _ _ _ _ _=>rfl))  T
 have h__law_take:=zgF (Z:=Z) (dqG (i:=39) T0 (bnd2 fun _ _ _ _ _ _ _ _=>rfl))  T
 have h__law_pick:=zhR (Z:=Z) (dqG (i:=40) T0 (bnd2 fun _ _ _ _ _ _ _ _=>rfl)) h__law_take T
 have h__law_bits:=zhX (Z:=Z) (dqG (i:=41) T0 (bnd1 fun _ _ _ _ _ _ _=>rfl)) h__law_pick T
 have h__law_block:=zgO (Z:=Z) (dqG (i:=42) T0 (bnd2 fun _ _ _ _ _ _ _ _=>rfl)) h__law_pick h__law_take T
 have h__law_near:=zhS (Z:=Z) (dqG (i:=43) T0 (bnd3 fun _ _ _ _ _ _ _ _ _=>rfl)) h__law_pick h__law_block T
 have h__law_blocks:=zfQ (Z:=Z) (dqG (i:=44) T0 (bnd3 fun _ _ _ _ _ _ _ _ _=>rfl)) h__law_take h__law_block h__law_near h__law_pick T
 have h__law_patch:=zgM (Z:=Z) (dqG (i:=45) T0 (bnd3 fun _ _ _ _ _ _ _ _ _=>rfl)) h__law_blocks T
 have h__law_names:=zgN (Z:=Z) (dqG (i:=46) T0 (bnd2 fun _ _ _ _ _ _ _ _=>rfl)) h__law_take h__law_pick T
 have h__law_meet:=zhT (Z:=Z) (dqG (i:=47) T0 (bnd2 fun _ _ _ _ _ _ _ _=>rfl))  T
 have h__law_deal:=zhW (Z:=Z) (dqG (i:=48) T0 (bnd4 fun _ _ _ _ _ _ _ _ _ _=>rfl)) h__law_patch h__law_pick h__law_meet T
 have h__law_kept:=zhU (Z:=Z) (dqG (i:=49) T0 (bnd2 fun _ _ _ _ _ _ _ _=>rfl)) h_fewest h_without T
 have h__law_holder_right:=zdd (Z:=Z) (dqG (i:=50) T0 (bnd2 fun _ _ _ _ _ _ _ _=>rfl)) h_holder h_block_with h_free_for T
 have h__law_parted:=zfP (Z:=Z) (dqG (i:=51) T0 (bnd2 fun _ _ _ _ _ _ _ _=>rfl)) h_out_to h__law_kept h_free_for h_count_of h_fewest h_apart h_is_fewest T
 exact(zsD (Z:=Z) DL h__law_hand h__law_bits h__law_names h__law_deal h__law_take h_is_deal h__law_parted h_free_for h_fewest h__law_holder_right h__law_kept T).imp zqH
end
end Bd
open PySem PySem.W PyProof.Rows
set_option maxRecDepth 100000 in
set_option maxHeartbeats 0 in
theorem PySem.Challenge.cw_blockdeal_k54_whole_addresses_in_one_pla_holds : PySem.Challenge.rw_blockdeal_k54_whole_addresses_in_one_pla.Holds := by
 w_on
 refine holds_law Bd.zp0 fun said=>?_
 refine holds_open (r:=PySem.Challenge.rw_blockdeal_k54_whole_addresses_in_one_pla.row) (d:=Bd.recD (Bd.top 52)) (kwd:=[]) Bd.zqE (Hook.of Hook.none) (Hook.keeps Hook.none) (fun s e=>xl_of s (Bool.and_eq_true_iff.mp e).1) XL.keeps (by kernel_rfl) (by kernel_rfl) (by kernel_rfl) (fun s e=>recFacts_of (Bool.and_eq_true_iff.mp e).2) (by kernel_rfl) said (by kernel_rfl) ⟨rfl,rfl,rfl,rfl,rfl,by decide +kernel⟩ ?hw ?hc
 case hw=>w_witness2
 case hc=>exact Bd.zuJ (lw:=PySem.Challenge.rw_blockdeal_k54_whole_addresses_in_one_pla) (k:=9) (by decide) rfl rfl fun w s₀ mg mb fa h G hmg=>Bd.zt1 G.T hmg
