import PyProof.Rows.All
import Wide.All
import OpenK.AllK
import Wide.FinOn
import Lean
import PyProof.EqAt
import PyProof.EqKinds
import PyProof.TupleCall
import PySem.Challenge.RW_blockdeal_k11_whole_none_are_fewer
local macro_rules | `(tactic| walk_at "V") => `(tactic| first | exact Or.inl rfl | exact Or.inr (Or.inl rfl) | exact Or.inr (Or.inr rfl))
local macro_rules | `(tactic| walk_at "F") => `(tactic| first | exact .inl rfl | exact .inr rfl | assumption)
abbrev qF:=PySem.W.Frag
abbrev qB:=List (Int×Int)
abbrev qN:=PySem.PyData->Nat->Prop
abbrev qM:=PySem.Str->Option PySem.Value
abbrev qV:=PySem.Value->PySem.Shared->Prop
abbrev qD:=List PySem.PyData
abbrev qO:=List (PySem.Addr×PySem.Obj)
set_option Elab.async false
set_option linter.all false
set_option maxRecDepth 100000
set_option maxHeartbeats 4000000
namespace L2
open PySem PySem.Spec PyProof.Rows
abbrev Key:=Sum Int Str
def Qk:Key->Value->Bool
 | .inl k,v=>Value.isInt k v
 | .inr x,v=>Value.isStrOf x v
def keyH(w:World):Key->Int
 | .inl k=>hashInt k
 | .inr x=>hashStr w x
theorem JY:∀{k:Key}{v:Value},Qk k v=true->(∃i t,k=Sum.inl i/\v=Value.int i t)\/(∃x t,k=Sum.inr x/\v=Value.str x t)
 | .inl i,v,h=>by
  obtain⟨t,e⟩:=Value.isInt_shape (k:=i) (v:=v) h;exact .inl ⟨i,t,rfl,e⟩
 | .inr x,v,h=>by
  obtain⟨t,e⟩:=Value.isStrOf_shape (x:=x) (v:=v) h;exact .inr ⟨x,t,rfl,e⟩
theorem zgs(i:Int)(t:Tok):Qk (.inl i) (.int i t)=true:=by simp[Qk,Value.isInt]
theorem zgr(x:Str)(t:Tok):Qk (.inr x) (.str x t)=true:=by simp[Qk,Value.isStrOf]
theorem zgo(a b:Int):decide ((Sum.inl a:Key)=Sum.inl b)=(a == b):=by
 by_cases e:a=b
 ·subst e;simp
 ·have h:¬(Sum.inl a:Key)=Sum.inl b:=fun q=>e (Sum.inl.inj q)
  rw[decide_eq_false h];exact(beq_eq_false_iff_ne.mpr e).symm
theorem zkL(a b:Str):decide ((Sum.inr a:Key)=Sum.inr b)=decide (a=b):=by
 by_cases e:a=b
 ·subst e;simp
 ·have h:¬(Sum.inr a:Key)=Sum.inr b:=fun q=>e (Sum.inr.inj q)
  rw[decide_eq_false h,decide_eq_false e]
theorem zkN(a:Int)(b:Str):decide ((Sum.inl a:Key)=Sum.inr b)=false:=decide_eq_false (fun q=>nomatch q)
theorem zkM(a:Str)(b:Int):decide ((Sum.inr a:Key)=Sum.inl b)=false:=decide_eq_false (fun q=>nomatch q)
def JA(prog:Program)(w:World):PySem.KeyKind prog w Key where
 is:=Qk
 hash:=keyH w
 inj:=fun v a b ha hb=>by
  rcases JY ha with⟨i,t,rfl,rfl⟩|⟨x,t,rfl,rfl⟩
  ·rcases JY hb with⟨j,u,rfl,e⟩|⟨y,u,rfl,e⟩
   ·injection e with e1 _;rw[e1]
   ·exact nomatch e
  ·rcases JY hb with⟨j,u,rfl,e⟩|⟨y,u,rfl,e⟩
   ·exact nomatch e
   ·injection e with e1 _;rw[e1]
 byValue:=fun k v h=>by
  rcases JY h with⟨i,t,rfl,rfl⟩|⟨x,t,rfl,rfl⟩ <;> rfl
 pyHash:=fun hv h=>by
  rcases JY hv with⟨i,t,rfl,rfl⟩|⟨x,t,rfl,rfl⟩
  ·exact wpAny_pyHash_int h
  ·exact wpAny_pyHash_str h
 eqBool:=fun hu hv h=>by
  rcases JY hu with⟨i,t,rfl,rfl⟩|⟨x,t,rfl,rfl⟩
  ·rcases JY hv with⟨j,u,rfl,rfl⟩|⟨y,u,rfl,rfl⟩
   ·rw[zgo]at h;exact wpAny_eqBool_int h
   ·rw[zkN]at h;exact SeqAt.EqAt.int_str i t y u _ _ _ _ h
  ·rcases JY hv with⟨j,u,rfl,rfl⟩|⟨y,u,rfl,rfl⟩
   ·rw[zkM]at h;exact SeqAt.EqAt.str_int x t j u _ _ _ _ h
   ·rw[zkL]at h;exact wpAny_eqBool_str h
 «strs»:=fun k x t v h=>by
  rcases JY h with⟨i,u,rfl,e⟩|⟨y,u,rfl,e⟩
  ·exact nomatch e
  ·injection e with e1 _
   subst e1;cases v <;> rfl
theorem zbC(prog:Program)(w:World)(i:Int)(t:Tok):(JA prog w).is (.inl i) (.int i t)=true:=zgs i t
theorem zd_(prog:Program)(w:World)(x:Str)(t:Tok):(JA prog w).is (.inr x) (.str x t)=true:=zgr x t
inductive V where
 | non|bl (b:Bool)|int (i:Int)|str (x:Str)|byt (b:Array UInt8)|flt (b:UInt64)|ref (a:Addr)|ty (n:String)
 deriving DecidableEq
def RelV:V->Value->Prop
 | .non,u=>u=Value.none
 | .bl b,u=>u=Value.bool b
 | .int i,u=>∃t,u=Value.int i t
 | .str x,u=>∃t,u=Value.str x t
 | .byt b,u=>∃t,u=Value.bytes b t
 | .flt b,u=>∃t,u=Value.float b t
 | .ref a,u=>u=Value.ref a
 | .ty n,u=>u=Value.type n
abbrev Vals:List V->List Value->Prop:=Paired RelV
theorem Vals.length{xs:List V}{us:List Value}(r:Vals xs us):xs.length=us.length:=Paired.length r
theorem Vals.get:∀{xs:List V}{us:List Value}{i:Nat}{x:V},Vals xs us->xs[i]?=some x->∃u,us[i]?=some u/\RelV x u
 | _,_,_,_,.nil,e=>by simp at e
 | _,_,0,_,.cons r _,e=>by simp at e;subst e;exact⟨_,rfl,r⟩
 | _,_,i+1,x,.cons _ t,e=>by
  obtain⟨u,h1,h2⟩:=Vals.get (i:=i) (x:=x) t (by simpa using e)
  exact⟨u,by simpa using h1,h2⟩
theorem Vals.set{x:V}{u:Value}(r:RelV x u):∀{xs:List V}{us:List Value} (i:Nat),Vals xs us->Vals (xs.set i x) (us.set i u)
 | _,_,_,.nil=>.nil
 | _,_,0,.cons _ t=>.cons r t
 | _,_,i+1,.cons q t=>.cons q (Vals.set r i t)
theorem Vals.append:∀{xs ys:List V}{us ws:List Value},Vals xs us->Vals ys ws->Vals (xs++ys) (us++ws)
 | _,_,_,_,.nil,s=>s
 | _,_,_,_,.cons r t,s=>.cons r (Vals.append t s)
def RelO:Option V->Option Value->Prop
 | some v,some u=>RelV v u
 | none,none=>True
 | _,_=>False
def KV{κ:Type}:List (κ×V)->List (κ×Value)->Prop:=Paired fun(p:κ×V) (q:κ×Value)=>p.1=q.1/\RelV p.2 q.2
def kV:Key->V
 | .inl i=>.int i
 | .inr x=>.str x
inductive HO where
 | lst (xs:List V)
 | tup (xs:List V)
 | dK (kvs:List (Key×V))|dT (kvs:List (List Key×V))
 | set (S:Int->Bool) (n:Nat)
 | ins (C dx:Addr) (fs:List (Str×V))
 | own (x:Addr)
 | xd (fs:List (Str×V))
 | met (f x:Addr)
 | rng (lo hi:Int)
 | frz (o:Obj) (u:HO)
 | tbl (ps:Array Value)
 | ext (φ:Heap->Prop)
abbrev Hp:=Addr->Option HO
def upd(H:Hp)(a:Addr)(o:HO):Hp:=fun b=>if b=a then some o else H b
theorem JC{H:Hp}{a:Addr}{o:HO}:upd H a o a=some o:=by unfold upd;rw[if_pos rfl]
theorem Je{H:Hp}{a b:Addr}{o:HO}(h:b≠a):upd H a o b=H b:=by unfold upd;rw[if_neg h]
theorem JX{H:Hp}{a b:Addr}{o:HO}(h:H a=some o)(h':H b=none):a≠b:=by
 intro e;subst e;rw[h]at h';cases h'
def IsTD(h:Heap)(a:Addr)(items:Array Value):Prop:=∃o,h.get? a=some o/\o.cls=.type "tuple" /\ (∃n,o.data=.seq items n)/\o.dict=none
theorem IsTD.tup{h:Heap}{a:Addr}{items:Array Value}(x:IsTD h a items):IsTup h a items:=by
 obtain⟨o,e,c,d,_⟩:=x;exact⟨o,e,c,d⟩
theorem IsTD.lt{h:Heap}{a:Addr}{items:Array Value}(x:IsTD h a items):a<h.objs.size:=x.tup.lt
theorem IsTD.new(h:Heap)(items:Array Value):IsTD (h.push { cls:=.type "tuple",data:=.seq items }) h.objs.size items:=⟨_,Heap.get?_push_size _ rfl,rfl,⟨_,rfl⟩,rfl⟩
section
variable(P:Program)(w:World)
def JF(H:Hp)(h:Heap)(a:Addr):HO->Prop
 | .lst xs=>xs.length<=sizeLine/\∃(its:List Value) (n:Nat),Vals xs its/\h.get? a=some { cls:=.type "list",data:=.seq its.toArray n }
 | .tup xs=>xs.length<=sizeLine/\∃its:List Value,Vals xs its/\IsTD h a its.toArray
 | .dK kvs=>kvs.length<=sizeLine/\(a == sysModules)=false/\∃vs,KV kvs vs/\h.DictOf (JA P w) a vs
 | .dT kvs=>kvs.length<=sizeLine/\(a == sysModules)=false/\∃xs:List (List Key×Addr×Value),
   Paired (fun(p:List Key×V) (q:List Key×Addr×Value)=>p.1=q.1/\H q.2.1=some (.tup (p.1.map kV))/\RelV p.2 q.2.2) kvs xs /\
   ∃o es ep,h.get? a=some o/\o.ExactDict/\o.data=.dict es ep/\es.toList=xs.map (entryOfKey (tupleKind (JA P w)))/\(xs.map (·.1)).Nodup
 | .set S n=>h.SetOf (intKind P w) a S n
 | .ins C dx fs=>H dx=some (.own a)/\fs.length<=1000/\dx≠a/\h.get? a=some (PySem.W.instObj C dx) /\
   ∃mA,h.Ns1 dx mA/\(∀f,RelO (fs.lookup f) (mA f))/\PySem.Within mA (fs.map (·.1))
 | .own _=>∃o,h.get? a=some o
 | .xd fs=>∃mA,h.Ns1 a mA/\∀f,RelO (fs.lookup f) (mA f)
 | .rng lo hi=>∃t u v,h.get? a=some { cls:=.type "range",data:=.fields #[.int lo t,.int hi u,.int 1 v] }
 | .frz o u=>h.get? a=some o/\JF H h a u
 | .tbl ps=>h.get? a=some { cls:=.none,data:=.fields ps }
 | .met f x=>h.get? a=some (PySem.W.methodObj (.ref f) (.ref x))
 | .ext φ=>φ h/\(∃o,h.get? a=some o)/\∀h1 h2:Heap,φ h1->(∀o,h1.get? a=some o->h2.get? a=some o)->φ h2
def HOk(H:Hp)(h:Heap):Prop:=∀a o,H a=some o->JF P w H h a o
end
section
variable{P:Program}{w:World}{H H':Hp}{h h':Heap}{a:Addr}{o:HO}
theorem JF.lt(x:JF P w H h a o):a<h.objs.size:=by
 cases o with
 | lst xs=>obtain⟨_,_,_,_,e⟩:=x;exact Heap.lt_size e
 | tup xs=>obtain⟨_,_,_,p⟩:=x;exact p.lt
 | dK kvs=>obtain⟨_,_,_,_,o,_,_,e,_⟩:=x;exact Heap.lt_size e
 | dT kvs=>obtain⟨_,_,_,_,o,_,_,e,_⟩:=x;exact Heap.lt_size e
 | set S n=>obtain⟨o,_,_,_,e,_⟩:=x;exact Heap.lt_size e
 | ins C dx fs=>obtain⟨_,_,_,e,_⟩:=x;exact Heap.lt_size e
 | own y=>obtain⟨_,e⟩:=x;exact Heap.lt_size e
 | xd fs=>obtain⟨_,⟨_,_,_,e,_⟩,_⟩:=x;exact Heap.lt_size e
 | rng lo hi=>obtain⟨_,_,_,e⟩:=x;exact Heap.lt_size e
 | frz ob u=>obtain⟨e,_⟩:=x;exact Heap.lt_size e
 | tbl ps=>exact Heap.lt_size (show h.get? a=some _ from x)
 | met f y=>exact Heap.lt_size (show h.get? a=some _ from x)
 | ext φ=>obtain⟨_,⟨_,e⟩,_⟩:=x;exact Heap.lt_size e
theorem Paired.mapP{α β:Type}{F G:α->β->Prop}:∀{l₁:List α}{l₂:List β},Paired F l₁ l₂->(∀a b,F a b->G a b)->Paired G l₁ l₂
 | _,_,.nil,_=>.nil
 | _,_,.cons r t,f=>.cons (f _ _ r) (Paired.mapP t f)
theorem JF.stay(x:JF P w H h a o)(k:∀b u,(b=a\/H b=some (.own a))->h.get? b=some u->h'.get? b=some u)
  (ho:∀b,H b=some (.own a)->H' b=some (.own a)) (ht:∀b xs,H b=some (.tup xs)->H' b=some (.tup xs)):JF P w H' h' a o:=by
 induction o with
 | lst xs=>obtain⟨z,its,n,r,e⟩:=x;exact⟨z,its,n,r,k _ _ (.inl rfl) e⟩
 | tup xs=>obtain⟨z,its,r,ob,e,c⟩:=x;exact⟨z,its,r,ob,k _ _ (.inl rfl) e,c⟩
 | dK kvs=>obtain⟨z,y,vs,r,ob,es,ep,e,c⟩:=x;exact⟨z,y,vs,r,ob,es,ep,k _ _ (.inl rfl) e,c⟩
 | dT kvs =>
  obtain⟨z,y,xs,r,ob,es,ep,e,c⟩:=x;exact⟨z,y,xs,Paired.mapP r fun p q z=>⟨z.1,ht _ _ z.2.1,z.2.2⟩,ob,es,ep,k _ _ (.inl rfl) e,c⟩
 | set S n=>obtain⟨ob,es,ep,t,e,c⟩:=x;exact⟨ob,es,ep,t,k _ _ (.inl rfl) e,c⟩
 | ins C dx fs =>
  obtain⟨d,z,ne,e,mA,⟨od,es,ep,e2,c⟩,r⟩:=x;exact⟨ho _ d,z,ne,k _ _ (.inl rfl) e,mA,⟨od,es,ep,k _ _ (.inr d) e2,c⟩,r⟩
 | own y=>obtain⟨ob,e⟩:=x;exact⟨ob,k _ _ (.inl rfl) e⟩
 | xd fs=>obtain⟨mA,⟨od,es,ep,e,c⟩,r⟩:=x;exact⟨mA,⟨od,es,ep,k _ _ (.inl rfl) e,c⟩,r⟩
 | rng lo hi=>obtain⟨t,u,v,e⟩:=x;exact⟨t,u,v,k _ _ (.inl rfl) e⟩
 | frz ob u ih=>obtain⟨e,q⟩:=x;exact⟨k _ _ (.inl rfl) e,ih q⟩
 | tbl ps =>
  have e:h.get? a=some { cls:=.none,data:=.fields ps }:=x;show h'.get? a=some { cls:=.none,data:=.fields ps }
  exact k a _ (.inl rfl) e
 | met f y =>
  have e:h.get? a=some (PySem.W.methodObj (.ref f) (.ref y)):=x;show h'.get? a=some (PySem.W.methodObj (.ref f) (.ref y))
  exact k a _ (.inl rfl) e
 | ext φ=>obtain⟨p,⟨o,e⟩,st⟩:=x;exact⟨st _ _ p fun o q=>k _ _ (.inl rfl) q,⟨o,k _ _ (.inl rfl) e⟩,st⟩
theorem HOk.lt(x:HOk P w H h)(e:H a=some o):a<h.objs.size:=(x a o e).lt
theorem HOk.fresh(x:HOk P w H h)(e:h.objs.size<=a):H a=none:=by
 cases q:H a with
 | none=>rfl
 | some u=>exact absurd (Nat.lt_of_lt_of_le (x.lt q) e) (Nat.lt_irrefl _)
theorem HOk.kept(x:HOk P w H h)(k:∀b u,h.get? b=some u->h'.get? b=some u):HOk P w H h':=fun a o e =>
 (x a o e).stay (fun b u _ q=>k b u q) (fun _ q=>q) fun _ _ q=>q
theorem HOk.laid(x:HOk P w H h)(k:∀b u,h.get? b=some u->h'.get? b=some u)(hp:h.objs.size<=a)(new:JF P w (upd H a o) h' a o):HOk P w (upd H a o) h':=fun b u e=>by
 have hn:=x.fresh hp
 by_cases hb:b=a
 ·subst hb;rw[JC]at e;cases e;exact new
 ·rw[Je hb]at e;exact(x b u e).stay (fun c v _ q=>k c v q) (fun c q=>by rw[Je (JX q hn)];exact q) fun c xs q=>by rw[Je (JX q hn)];exact q
end
def Rd(H:Hp)(a:Addr)(u:HO):Prop:=H a=some u\/∃o,H a=some (.frz o u)
theorem Rd.ok{P:Program}{w:World}{H:Hp}{h:Heap}{a:Addr}{u:HO}(r:Rd H a u)(x:HOk P w H h):JF P w H h a u:=by
 rcases r with r|⟨o,r⟩
 ·exact x a u r
 ·obtain⟨_,q⟩:=x a _ r;exact q
def Mut:Option HO->Prop
 | some (.lst _)=>True
 | some (.dK _)=>True
 | some (.dT _)=>True
 | some (.set _ _)=>True
 | some (.ins _ _ _)=>True
 | some (.ext _)=>True
 | _=>False
section
variable{P:Program}{w:World}{H:Hp}{h h':Heap}{x e:Addr}{o':HO}
theorem HOk.write(ok:HOk P w H h)(mu:Mut (H x))(he:e=x\/H e=some (.own x))(k:∀b u,b≠e->h.get? b=some u->h'.get? b=some u)(heo:∃u,h'.get? e=some u)
  (new:JF P w (upd H x o') h' x o'):HOk P w (upd H x o') h':=fun b u q=>by
 have nown:∀c y,H c=some (.own y)->c≠x:=fun c y r z=>by subst z;rw[r]at mu;exact mu
 have ntup:∀c xs,H c=some (.tup xs)->c≠x:=fun c xs r z=>by subst z;rw[r]at mu;exact mu
 by_cases hb:b=x
 ·subst hb;rw[JC]at q;cases q;exact new
 ·rw[Je hb]at q
  by_cases hbe:b=e
  ·have q':H b=some (.own x):=by
    rcases he with z|z
    ·exact absurd (hbe.trans z) hb
    ·rw[hbe];exact z
   rw[q]at q';cases q';obtain⟨v,hv⟩:=heo;exact⟨v,by rw[hbe];exact hv⟩
  ·refine(ok b u q).stay (fun c v hc r=>k c v ?_ r) (fun c r=>by rw[Je (nown c b r)];exact r) fun c xs r=>by rw[Je (ntup c xs r)];exact r
   rcases hc with rfl|hc
   ·exact hbe
   ·rintro rfl;rcases he with z|z
    ·exact nown c b hc z
    ·rw[hc]at z;cases z;exact hb rfl
end
structure Un(fs ex:List Addr)(H H':Hp)(h h':Heap):Prop where
 keep:∀b o,h.get? b=some o->H b=none->b∉fs->b∉ex->h'.get? b=some o
 slot:∀b o,h.get? b=some o->H b=none->b∈fs->b∉ex->∃sl,h'.get? b=some { o with slots:=sl }
 free:∀b o,h.get? b=some o->H b=none->b∉ex->H' b=none
 there:∀b o,h.get? b=some o->b∉ex->∃o',h'.get? b=some o'
 tups:∀b xs,H b=some (.tup xs)->H' b=some (.tup xs)
 frzs:∀b o u,H b=some (.frz o u)->H' b=some (.frz o u)
 tbls:∀b ps,H b=some (.tbl ps)->∃more,H' b=some (.tbl (ps++more))
section
variable{fs fs' ex ex':List Addr}{H H1 H2:Hp}{h h1 h2 h':Heap}{a x e:Addr}{o:HO}
theorem Un.any(u:Un fs ex H H1 h h1){b:Addr}{ob:Obj}(q:h.get? b=some ob)(n:H b=none)(hx:b∉ex):∃sl,h1.get? b=some { ob with slots:=sl }:=by
 by_cases hb:b∈fs
 ·exact u.slot b ob q n hb hx
 ·exact⟨ob.slots,u.keep b ob q n hb hx⟩
theorem Un.kept(k:∀b u,h.get? b=some u->h'.get? b=some u):Un fs ex H H h h' :=
 ⟨fun b ob q _ _ _=>k b ob q,fun b ob q _ _ _=>⟨ob.slots,k b ob q⟩,fun _ _ _ n _=>n,fun b ob q _=>⟨ob,k b ob q⟩,fun _ _ q=>q,fun _ _ _ q=>q,fun _ ps q=>⟨#[],by rw[q];simp⟩⟩
theorem Un.refl:Un fs ex H H h h:=Un.kept fun _ _ q=>q
theorem Un.laid(k:∀b u,h.get? b=some u->h'.get? b=some u)(hp:h.objs.size<=a)(hn:H a=none):Un fs ex H (upd H a o) h h' where
 keep:=fun b u q _ _ _=>k b u q
 slot:=fun b u q _ _ _=>⟨u.slots,k b u q⟩
 free:=fun b u q n _=>by rw[Je (Nat.ne_of_lt (Nat.lt_of_lt_of_le (Heap.lt_size q) hp))];exact n
 there:=fun b u q _=>⟨u,k b u q⟩
 tups:=fun b xs q=>by rw[Je (JX q hn)];exact q
 frzs:=fun b u xs q=>by rw[Je (JX q hn)];exact q
 tbls:=fun b ps q=>⟨#[],by rw[Je (JX q hn),q];simp⟩
theorem Un.write(mu:Mut (H x))(he:e=x\/H e=some (.own x))(k:∀b u,b≠e->h.get? b=some u->h'.get? b=some u)(heo:∃u,h'.get? e=some u):Un fs ex H (upd H x o) h h':=by
 have hx:∀b,H b=none->b≠x:=fun b n z=>by subst z;rw[n]at mu;exact mu
 have hb:∀b,H b=none->b≠e:=fun b n z=>by
  subst z;rcases he with r|r
  ·exact hx b n r
  ·rw[n]at r;cases r
 have hm:∀b u,H b=some u->¬Mut (some u)->b≠x:=fun b u q nm z=>by subst z;rw[q]at mu;exact nm mu
 refine⟨fun b u q n _ _=>k b u (hb b n) q,fun b u q n _ _=>⟨u.slots,k b u (hb b n) q⟩,fun b u q n _=>by rw[Je (hx b n)];exact n,fun b u q _=>?_,
  fun b xs q=>by rw[Je (hm b _ q fun z=>z)];exact q,fun b u xs q=>by rw[Je (hm b _ q fun z=>z)];exact q,fun b ps q=>⟨#[],by rw[Je (hm b _ q fun z=>z),q];simp⟩⟩
 by_cases hbe:b=e
 ·subst hbe;exact heo
 ·exact⟨u,k b u hbe q⟩
end
def trk(h:Heap)(H:Hp):List Addr:=(List.range h.objs.size).filter fun a=>(H a).isSome
def hidT(h:Heap)(H:Hp):Heap:=PySem.W.hideAll h (trk h H)
theorem zgB(h:Heap)(H:Hp):(hidT h H).objs.size=h.objs.size:=PySem.W.hideAll_size _ _
theorem zhL{h:Heap}{H:Hp}{b:Addr}{o:Obj}(e:h.get? b=some o)(n:H b=none):(hidT h H).get? b=some o :=
 PySem.W.hideAll_get _ e fun hm=>by
  have q:(H b).isSome=true:=(List.mem_filter.mp hm).2;rw[n]at q;simp at q
theorem zi1{h:Heap}{H:Hp}{b:Addr}{o:Obj}(e:(hidT h H).get? b=some o):h.get? b=some o/\H b=none:=by
 have e':h.get? b=some o:=PySem.W.of_hideAll (trk h H) e;refine⟨e',?_⟩;cases q:H b with
 | none=>rfl
 | some x =>
  have hm:b∈trk h H:=List.mem_filter.mpr ⟨List.mem_range.mpr (Heap.lt_size e'),by simp[q]⟩
  have z:(hidT h H).get? b=none:=PySem.W.hideAll_none (trk h H) hm;rw[z]at e;cases e
structure Mod(K:qF)(mg:qM)(base:Heap):Prop where
 kin:K.In base
 glob:base.Ns mainGlobals mg
 blt:∃mb,base.Ns builtinsNs mb/\∀x:Str,x ≠ "__name__" -> mb x=bootBuiltins x
 nolimit:base.NoLimit
structure Cx where
 prog:Program
 w:World
 K:qF
 mg:Str->Option Value
 base:Heap
 A:Around
 N:List Str
 s₀:Shared
 H₀:Hp
 env:Env
 outer:List Env
 stack:List Env
 ex:List Addr
 fn:Str->Bool
 calm:Bool
 pn:List (Addr×Obj)
 xe:Value->Shared->Prop
def frs(l:List Env):List Addr:=l.filterMap (·.frame)
abbrev Cx.fs(X:Cx):List Addr:=frs X.outer
def Vis(sc:Scope)(x:Str):Prop:=sc.names.lookup x=some .local\/sc.names.lookup x=some .cell\/sc.names.lookup x=some .free
def Loc(sc:Scope)(x:Str):Prop:=sc.names.lookup x=some .local\/sc.names.lookup x=some .cell
def Look(env:Env)(h:Heap)(m:qM)(x:Str)(u:Value):Prop :=
 (env.kindOf x=some .local/\m x=some u)\/((env.kindOf x=some .cell\/env.kindOf x=some .free)/\∃c,env.cells.lookup x=some c/\h.IsCell c (some u))
structure Cx.Ok(X:Cx):Prop where
 mod:Mod X.K X.mg X.base
 kind:X.env.scope.kind=.function
 glob:X.env.globals=mainGlobals
 blt:X.env.builtins=builtinsNs
 above:X.s₀.heap.objs.size<=X.env.locals
 inj:∀x y c,X.env.cells.lookup x=some c->X.env.cells.lookup y=some c->x=y
 has:∀x,(X.env.kindOf x=some .cell\/X.env.kindOf x=some .free)->∃c,X.env.cells.lookup x=some c
 cab:∀x c,X.fn x=true->X.env.cells.lookup x=some c->X.s₀.heap.objs.size<=c
 hd:X.calm=true->X.A.handled=none
 frames:X.A.frames=some X.stack
 stk:X.stack=X.outer\/(X.stack=X.env::X.outer/\X.env.frame=some X.env.locals)
 exf:∀b∈X.ex,b≠X.env.locals/\∀x c,X.env.cells.lookup x=some c->c≠b
 bs:∀b o,X.base.get? b=some o->X.s₀.heap.get? b=some o/\X.H₀ b=none
 bsz:X.base.objs.size<=X.s₀.heap.objs.size
 noex:∀b o,X.base.get? b=some o->b∉X.ex
 exfs:∀b∈X.ex,b∉X.fs
 funs:X.s₀.heap.FunFrames X.base X.outer
 frf:∀b∈X.fs,X.H₀ b=none
structure Inv(X:Cx)(pins:qO)(σ:List (Option V))(H:Hp)(s:Shared):Prop where
 ok:X.Ok
 os:s.os=X.s₀.os
 bare:AllBare s.gens
 base:Un X.fs X.ex X.H₀ H X.s₀.heap s.heap
 loc:∃m,s.heap.Ns X.env.locals m/\∀(i:Nat) (x:Str) (v:V),X.N[i]?=some x->σ[i]?=some (some v)->Vis X.env.scope x->∃u,RelV v u/\Look X.env s.heap m x u
 cell:∀x c,X.env.cells.lookup x=some c->∃v,s.heap.IsCell c v
 free:H X.env.locals=none
 freeC:∀x c,X.env.cells.lookup x=some c->H c=none
 pin:∀p∈X.pn++pins,s.heap.get? p.1=some p.2/\H p.1=none/\p.1≠X.env.locals/\p.1∉X.fs/\∀v,p.2.data≠.cell v
 hok:HOk X.prog X.w H s.heap
 len:σ.length=X.N.length
section
variable{X:Cx}{pins:qO}{σ:List (Option V)}{H H':Hp}{s:Shared}{h':Heap}
theorem Cx.Ok.nofr(ok:X.Ok){b:Addr}{o:Obj}(e:X.base.get? b=some o):b∉X.fs:=fun hb=>by
 have:=(ok.funs.mem hb).1;rw[e]at this;cases this
theorem Inv.bs(I:Inv X pins σ H s):∀b o,X.base.get? b=some o->s.heap.get? b=some o/\H b=none:=fun b o e =>
 ⟨I.base.keep b o (I.ok.bs b o e).1 (I.ok.bs b o e).2 (I.ok.nofr e) (I.ok.noex b o e),I.base.free b o (I.ok.bs b o e).1 (I.ok.bs b o e).2 (I.ok.noex b o e)⟩
theorem Inv.bk(I:Inv X pins σ H s):∀b o,X.base.get? b=some o->s.heap.get? b=some o:=fun b o e=>(I.bs b o e).1
theorem Inv.mod(I:Inv X pins σ H s):Mod X.K X.mg X.base:=I.ok.mod
theorem Inv.kIn(I:Inv X pins σ H s):X.K.In s.heap:=I.ok.mod.kin.keeps I.bk
theorem Inv.lt(I:Inv X pins σ H s):X.env.locals<s.heap.objs.size:=let ⟨_,hn,_⟩:=I.loc;hn.lt
theorem Inv.sz(I:Inv X pins σ H s):X.s₀.heap.objs.size<=s.heap.objs.size:=Nat.le_trans I.ok.above (Nat.le_of_lt I.lt)
theorem Inv.nofs(I:Inv X pins σ H s){a:Addr}(h:s.heap.objs.size<=a):a∉X.fs:=fun hb=>by
 obtain⟨_,o,ho,_⟩:=I.ok.funs.mem hb;exact absurd (Nat.lt_of_lt_of_le (Heap.lt_size ho) (Nat.le_trans I.sz h)) (Nat.lt_irrefl _)
theorem Inv.cne(I:Inv X pins σ H s):∀x c,X.env.cells.lookup x=some c->c≠X.env.locals:=fun x c e z=>by
 obtain⟨v,o,ho,hd⟩:=I.cell x c e;obtain⟨m,⟨o',es,ep,ho',hd',_⟩,_⟩:=I.loc;rw[z,ho']at ho;cases ho;rw[hd']at hd;cases hd
theorem Inv.funs(I:Inv X pins σ H s):s.heap.FunFrames X.base X.outer:=by
 have all:∀(l:List Env),(∀b∈frs l,b∈X.fs)->X.s₀.heap.FunFrames X.base l->s.heap.FunFrames X.base l:=by
  intro l;induction l with
  | nil=>intro _ _;trivial
  | cons env r ih =>
   intro hs hl;obtain⟨hk,⟨L,o,hf,hn,ho,hd⟩,hr⟩:=hl;have hL:L∈X.fs:=hs L (by unfold frs;rw[List.filterMap_cons,hf];exact List.mem_cons_self)
   obtain⟨sl,e⟩:=I.base.slot L o ho (I.ok.frf L hL) hL fun z=>I.ok.exfs L z hL
   exact⟨hk,⟨L,_,hf,hn,e,hd⟩,ih (fun b hb=>hs b (by unfold frs;rw[List.filterMap_cons,hf];exact List.mem_cons_of_mem _ hb)) hr⟩
 exact all X.outer (fun _ hb=>hb) I.ok.funs
theorem Inv.stack(I:Inv X pins σ H s):s.heap.FunFrames X.base X.stack:=by
 rcases I.ok.stk with e|⟨e,hf⟩
 ·rw[e];exact I.funs
 ·rw[e];obtain⟨m,hn,_⟩:=I.loc;refine .cons (by rw[I.ok.kind];decide) hf hn ?_ I.funs
  exact Heap.get?_none_of_le (Nat.le_trans I.ok.bsz I.ok.above)
theorem Inv.stkSub(I:Inv X pins σ H s):∀b∈frs X.stack,b∈X.env.locals::X.fs:=fun b hb=>by
 rcases I.ok.stk with e|⟨e,hf⟩
 ·rw[e]at hb;exact List.mem_cons_of_mem _ hb
 ·rw[e]at hb;unfold frs at hb;rw[List.filterMap_cons,hf]at hb;exact hb
theorem Inv.stkFree(I:Inv X pins σ H s):∀b∈frs X.stack,H b=none:=fun b hb=>by
 rcases List.mem_cons.mp (I.stkSub b hb) with e|hb
 ·rw[e];exact I.free
 ·obtain⟨_,o,ho,_⟩:=I.ok.funs.mem hb;exact I.base.free b o ho (I.ok.frf b hb) fun z=>I.ok.exfs b z hb
theorem Inv.step{g':Array GenState}{t':Nat}{d':Drawn}{ch:List Addr}(I:Inv X pins σ H s)
  (hch:∀b∈ch,(b∈X.ex\/X.s₀.heap.objs.size<=b)/\b≠X.env.locals/\(∀x c,X.env.cells.lookup x=some c->c≠b)/\∀p∈X.pn++pins,p.1≠b)
  (keep:∀b o,b≠X.env.locals->b∉X.fs->b∉ch->s.heap.get? b=some o->H b=none->h'.get? b=some o)
  (slot:∀b o,b≠X.env.locals->b∈X.fs->b∉ch->s.heap.get? b=some o->H b=none->∃sl,h'.get? b=some { o with slots:=sl }) (free:∀b o,b∉ch->s.heap.get? b=some o->H b=none->H' b=none)
  (there:∀b o,b∉ch->s.heap.get? b=some o->∃o',h'.get? b=some o')
  (tups:∀b xs,H b=some (.tup xs)->H' b=some (.tup xs)) (frzs:∀b o u,H b=some (.frz o u)->H' b=some (.frz o u)) (tbls:∀b ps,H b=some (.tbl ps)->∃more,H' b=some (.tbl (ps++more)))
  (ns:∀m,s.heap.Ns X.env.locals m->h'.Ns X.env.locals m) (hok:HOk X.prog X.w H' h') (hg:AllBare g') :
  Inv X pins σ H' { s with heap:=h',gens:=g',drawn:=d',toks:=t' }:=by
 have neL:∀b o,X.s₀.heap.get? b=some o->b≠X.env.locals:=fun b o e=>Nat.ne_of_lt (Nat.lt_of_lt_of_le (Heap.lt_size e) I.ok.above)
 have neC:∀b o,X.s₀.heap.get? b=some o->b∉X.ex->b∉ch:=fun b o e hx hb=>by
  rcases(hch b hb).1 with z|z
  ·exact hx z
  ·exact absurd (Nat.lt_of_lt_of_le (Heap.lt_size e) z) (Nat.lt_irrefl _)
 have cellK:∀x c,X.env.cells.lookup x=some c->∀v,s.heap.IsCell c v->h'.IsCell c v:=fun x c e v ⟨o,ho,hd⟩=>by
  have nch:c∉ch:=fun z=>(hch c z).2.2.1 x c e rfl
  by_cases hc:c∈X.fs
  ·obtain⟨sl,q⟩:=slot c o (I.cne x c e) hc nch ho (I.freeC x c e);exact⟨_,q,hd⟩
  ·exact⟨o,keep c o (I.cne x c e) hc nch ho (I.freeC x c e),hd⟩
 refine⟨I.ok,I.os,hg,⟨fun b o e n hb hx=>?_,fun b o e n hb hx=>?_,fun b o e n hx=>?_,fun b o e hx=>?_,fun b xs e=>tups b xs (I.base.tups b xs e),fun b o xs e=>frzs b o xs (I.base.frzs b o xs e),fun b ps e=>?_⟩,?_,fun x c e=>?_,?_,fun x c e=>?_,fun p hp=>?_,hok,I.len⟩
 ·exact keep b o (neL b o e) hb (neC b o e hx) (I.base.keep b o e n hb hx) (I.base.free b o e n hx)
 ·obtain⟨sl,e1⟩:=I.base.slot b o e n hb hx;obtain⟨sl',e2⟩:=slot b _ (neL b o e) hb (neC b o e hx) e1 (I.base.free b o e n hx);exact⟨sl',e2⟩
 ·obtain⟨o',e1⟩:=I.base.there b o e hx;exact free b o' (neC b o e hx) e1 (I.base.free b o e n hx)
 ·obtain⟨o',e1⟩:=I.base.there b o e hx;exact there b o' (neC b o e hx) e1
 ·obtain⟨m1,e1⟩:=I.base.tbls b ps e;obtain⟨m2,e2⟩:=tbls b _ e1;exact⟨m1++m2,by rw[e2,Array.append_assoc]⟩
 ·obtain⟨m,hn,hl⟩:=I.loc;refine⟨m,ns m hn,fun i x v e1 e2 e3=>?_⟩
  obtain⟨u,r,l⟩:=hl i x v e1 e2 e3;refine⟨u,r,?_⟩;rcases l with l|⟨k,c,e,z⟩
  ·exact .inl l
  ·exact .inr ⟨k,c,e,cellK x c e _ z⟩
 ·obtain⟨v,z⟩:=I.cell x c e;exact⟨v,cellK x c e v z⟩
 ·obtain⟨m,⟨o,_,_,ho,_⟩,_⟩:=I.loc;exact free _ o (fun z=>(hch _ z).2.1 rfl) ho I.free
 ·obtain⟨v,o,ho,hd⟩:=I.cell x c e;exact free c o (fun z=>(hch c z).2.2.1 x c e rfl) ho (I.freeC x c e)
 ·obtain⟨e,n,ne,nf,d⟩:=I.pin p hp;have nch:p.1∉ch:=fun z=>(hch p.1 z).2.2.2 p hp rfl
  exact⟨keep p.1 p.2 ne nf nch e n,free p.1 p.2 nch e n,ne,nf,d⟩
theorem Inv.un{t':Nat}(I:Inv X pins σ H s)(u:Un X.fs [] H H' s.heap h')(hok:HOk X.prog X.w H' h'):Inv X pins σ H' { s with heap:=h',toks:=t' }:=by
 obtain⟨m,⟨o,es,ep,ho,r⟩,_⟩:=id I.loc;obtain⟨sl,hL⟩:=u.any ho I.free (by simp)
 exact I.step (g':=s.gens) (d':=s.drawn) (ch:=[]) (fun _ z=>nomatch z) (fun b o _ hb _ e n=>u.keep b o e n hb (by simp)) (fun b o _ hb _ e n=>u.slot b o e n hb (by simp)) (fun b o _ e n=>u.free b o e n (by simp)) (fun b o _ e=>u.there b o e (by simp)) u.tups u.frzs u.tbls (fun m' hm=>by
  obtain⟨o',es',ep',ho',r'⟩:=hm;rw[ho]at ho';cases ho';exact⟨_,es',ep',hL,r'⟩) hok I.bare
theorem Inv.call{g':Array GenState}{t':Nat}{d':Drawn}{ch:List Addr}(I:Inv X pins σ H s)(u:Un (frs X.stack) ch H H' s.heap h')(hok:HOk X.prog X.w H' h')(hg:AllBare g')
  (hch:∀b∈ch,(b∈X.ex\/X.s₀.heap.objs.size<=b)/\b≠X.env.locals/\(∀x c,X.env.cells.lookup x=some c->c≠b)/\∀p∈X.pn++pins,p.1≠b) :
  Inv X pins σ H' { s with heap:=h',gens:=g',drawn:=d',toks:=t' }:=by
 obtain⟨m,⟨o,es,ep,ho,r⟩,_⟩:=id I.loc;obtain⟨sl,hL⟩:=u.any ho I.free fun z=>(hch _ z).2.1 rfl
 exact I.step (ch:=ch) hch (fun b o hL hb hc e n=>u.keep b o e n (fun z=>(List.mem_cons.mp (I.stkSub b z)).elim hL hb) hc) (fun b o _ _ hc e n=>u.any e n hc) (fun b o hc e n=>u.free b o e n hc) (fun b o hc e=>u.there b o e hc) u.tups u.frzs u.tbls (fun m' hm=>by
  obtain⟨o',es',ep',ho',r'⟩:=hm;rw[ho]at ho';cases ho';exact⟨_,es',ep',hL,r'⟩) hok hg
theorem Inv.turned{t':Nat}{it:Addr}(I:Inv X pins σ H s)(k:∀b o,b≠it->s.heap.get? b=some o->h'.get? b=some o)(hn:H it=none)(hL:it≠X.env.locals)
  (h1:it∈X.ex\/X.s₀.heap.objs.size<=it) (h2:∀x c,X.env.cells.lookup x=some c->c≠it) (h3:∀p∈X.pn++pins,p.1≠it):Inv X pins σ H { s with heap:=h',toks:=t' }:=by
 have nit:∀b u,H b=some u->b≠it:=fun b u e z=>by rw[z,hn]at e;cases e
 refine I.step (g':=s.gens) (d':=s.drawn) (ch:=[it]) (fun b hb=>?_) (fun b o _ _ hc e _=>k b o (fun z=>hc (by simp[z])) e) (fun b o _ _ hc e _=>⟨o.slots,k b o (fun z=>hc (by simp[z])) e⟩) (fun _ _ _ _ n=>n)
  (fun b o hc e=>⟨o,k b o (fun z=>hc (by simp[z])) e⟩) (fun _ _ e=>e) (fun _ _ _ e=>e) (fun b ps e=>⟨#[],by rw[e];simp⟩) (fun m hm=>?_) (fun b u e=>?_) I.bare
 ·have e:b=it:=by simpa using hb
  subst e;exact⟨h1,hL,h2,h3⟩
 ·obtain⟨o,es,ep,ho,r⟩:=hm;exact⟨o,es,ep,k _ o (Ne.symm hL) ho,r⟩
 ·refine(I.hok b u e).stay (fun c v hc q=>k c v ?_ q) (fun _ q=>q) fun _ _ q=>q
  rcases hc with z|z
  ·rw[z];exact nit b u e
  ·exact nit c _ z
theorem Inv.tok(I:Inv X pins σ H s)(t:Nat):Inv X pins σ H { s with toks:=t }:=I.un (h':=s.heap) (t':=t) Un.refl I.hok
theorem Inv.kept{t':Nat}(I:Inv X pins σ H s)(k:∀b u,s.heap.get? b=some u->h'.get? b=some u):Inv X pins σ H { s with heap:=h',toks:=t' }:=I.un (Un.kept k) (I.hok.kept k)
theorem Inv.laid{a:Addr}{o:HO}{t':Nat}(I:Inv X pins σ H s)(k:∀b u,s.heap.get? b=some u->h'.get? b=some u)(hp:s.heap.objs.size<=a)(new:JF X.prog X.w (upd H a o) h' a o) :
  Inv X pins σ (upd H a o) { s with heap:=h',toks:=t' }:=I.un (Un.laid k hp (I.hok.fresh hp)) (I.hok.laid k hp new)
theorem Inv.write{x e:Addr}{o:HO}{t':Nat}(I:Inv X pins σ H s)(mu:Mut (H x))(he:e=x\/H e=some (.own x))(k:∀b u,b≠e->s.heap.get? b=some u->h'.get? b=some u)(heo:∃u,h'.get? e=some u)
  (new:JF X.prog X.w (upd H x o) h' x o):Inv X pins σ (upd H x o) { s with heap:=h',toks:=t' }:=I.un (Un.write mu he k heo) (I.hok.write mu he k heo new)
theorem Inv.weak{σ':List (Option V)}(I:Inv X pins σ H s)(hl:σ'.length=σ.length)(w:∀(i:Nat) v,σ'[i]?=some (some v)->σ[i]?=some (some v)):Inv X pins σ' H s :=
 ⟨I.ok,I.os,I.bare,I.base,let ⟨m,hn,hl'⟩:=I.loc;⟨m,hn,fun i x v e1 e2 e3=>hl' i x v e1 (w i v e2) e3⟩,I.cell,I.free,I.freeC,I.pin,I.hok,hl.trans I.len⟩
theorem Inv.pins_of{pins':qO}(I:Inv X pins σ H s)(h:∀p∈pins',s.heap.get? p.1=some p.2/\H p.1=none/\p.1≠X.env.locals/\p.1∉X.fs/\∀v,p.2.data≠.cell v):Inv X pins' σ H s :=
 ⟨I.ok,I.os,I.bare,I.base,I.loc,I.cell,I.free,I.freeC,fun p hp=>(List.mem_append.mp hp).elim (fun z=>I.pin p (List.mem_append_left _ z)) (h p),I.hok,I.len⟩
theorem zeD{N:List Str}(hN:N.Nodup){i j:Nat}{x:Str}(a:N[i]?=some x)(b:N[j]?=some x):i=j:=by
 obtain⟨h1,e1⟩:=List.getElem?_eq_some_iff.mp a;obtain⟨h2,e2⟩:=List.getElem?_eq_some_iff.mp b;exact(List.getElem_inj hN).mp (e1.trans e2.symm)
theorem zfH{M:Model}{A:Around}{E:qV}{i:Nat}{x:Str}{v:V}{u:Value}{Q:Unit->Shared->Prop}(I:Inv X pins σ H s)(hN:X.N.Nodup)(hi:X.N[i]?=some x)(hx:Loc X.env.scope x)(r:RelV v u)
  (h:∀s',Inv X pins (σ.set i (some v)) H s'->(∃a,Heap.SameBut a s.heap s'.heap/\(a=X.env.locals\/X.env.cells.lookup x=some a))->Q () s') (hf:X.fn x=true\/X.env.scope.names.lookup x=some .local:=by walk_at "F"):wpAny M A (storeName X.env x u) Q E s:=by
 obtain⟨m,hn,hl⟩:=id I.loc;have hcls:(X.env.scope.kind == .class||(X.env.scope.kind == .module&&X.env.locals != X.env.globals))=false:=by rw[I.ok.kind];rfl
 have hiσ:i<σ.length:=by rw[I.len];exact(List.getElem?_eq_some_iff.mp hi).1
 have cne:=I.cne;have tracked:∀{a:Addr} {h':Heap},(∃o,s.heap.get? a=some o/\H a=none)->Heap.SameBut a s.heap h'->HOk X.prog X.w H h':=fun {a h'} ha hs b ob e=>by
  obtain⟨_,_,hfree⟩:=ha;refine(I.hok b ob e).stay (fun c w' hc q=>(hs.2 c ?_).trans q) (fun _ q=>q) fun _ _ q=>q
  rintro rfl;rcases hc with rfl|hc
  ·rw[hfree]at e;cases e
  ·rw[hfree]at hc;cases hc
 rcases hx with hk|hk
 ·refine wpAny_storeName_local hk hn (fun h' hn' hs=>?_) hcls
  obtain⟨oL,_,_,hoL,_⟩:=id hn;refine h _ ⟨I.ok,I.os,I.bare,⟨fun b o e n hb hx=>?_,fun b o e n hb hx=>?_,I.base.free,fun b o e hx=>?_,I.base.tups,I.base.frzs,I.base.tbls⟩,⟨_,hn',fun j y v' e1 e2 e3=>?_⟩,fun y c e=>?_,I.free,I.freeC,fun p hp=>?_,tracked ⟨oL,hoL,I.free⟩ hs,by simpa using I.len⟩ ⟨_,hs,.inl rfl⟩
  ·exact(hs.2 b (Nat.ne_of_lt (Nat.lt_of_lt_of_le (Heap.lt_size e) I.ok.above))).trans (I.base.keep b o e n hb hx)
  ·obtain⟨sl,e1⟩:=I.base.slot b o e n hb hx;exact⟨sl,(hs.2 b (Nat.ne_of_lt (Nat.lt_of_lt_of_le (Heap.lt_size e) I.ok.above))).trans e1⟩
  ·obtain⟨o',e1⟩:=I.base.there b o e hx;exact⟨o',(hs.2 b (Nat.ne_of_lt (Nat.lt_of_lt_of_le (Heap.lt_size e) I.ok.above))).trans e1⟩
  ·by_cases hj:j=i
   ·subst hj;rw[hi]at e1;cases e1;rw[List.getElem?_set_self hiσ]at e2;cases e2;exact⟨u,r,.inl ⟨hk,by simp⟩⟩
   ·rw[List.getElem?_set_ne (Ne.symm hj)]at e2;obtain⟨u',r',q⟩:=hl j y v' e1 e2 e3;refine⟨u',r',?_⟩;rcases q with⟨k,e⟩|⟨k,c,e,z⟩
    ·refine .inl ⟨k,?_⟩;have:y≠x:=fun e=>hj (zeD hN e1 (e▸hi))
     simp[this,e]
    ·exact .inr ⟨k,c,e,z.sameBut hs (cne y c e)⟩
  ·obtain⟨w',z⟩:=I.cell y c e;exact⟨w',z.sameBut hs (cne y c e)⟩
  ·obtain⟨e,n,ne,nf,d⟩:=I.pin p hp;exact⟨(hs.2 p.1 ne).trans e,n,ne,nf,d⟩
 ·have hfn:X.fn x=true:=by
   rcases hf with z|z
   ·exact z
   ·rw[z]at hk;cases hk
  obtain⟨c,hc⟩:=I.ok.has x (.inl hk);obtain⟨w',z⟩:=I.cell x c hc;refine wpAny_storeName_cell I.ok.kind hk hc z (fun h' hc' hs=>?_)
  obtain⟨oc,hoc,hocd⟩:=id z;refine h { s with heap:=h' } ⟨I.ok,I.os,I.bare,⟨fun b o e n hb hx=>?_,fun b o e n hb hx=>?_,I.base.free,fun b o e hx=>?_,I.base.tups,I.base.frzs,I.base.tbls⟩,⟨m,hn.sameBut hs (Ne.symm (cne x c hc)),fun j y v' e1 e2 e3=>?_⟩,fun y c' e=>?_,I.free,I.freeC,fun p hp=>?_,tracked ⟨oc,hoc,I.freeC x c hc⟩ hs,by simpa using I.len⟩ ⟨c,hs,.inr hc⟩
  ·exact(hs.2 b (Nat.ne_of_lt (Nat.lt_of_lt_of_le (Heap.lt_size e) (I.ok.cab x c hfn hc)))).trans (I.base.keep b o e n hb hx)
  ·obtain⟨sl,e1⟩:=I.base.slot b o e n hb hx;exact⟨sl,(hs.2 b (Nat.ne_of_lt (Nat.lt_of_lt_of_le (Heap.lt_size e) (I.ok.cab x c hfn hc)))).trans e1⟩
  ·obtain⟨o',e1⟩:=I.base.there b o e hx;exact⟨o',(hs.2 b (Nat.ne_of_lt (Nat.lt_of_lt_of_le (Heap.lt_size e) (I.ok.cab x c hfn hc)))).trans e1⟩
  ·by_cases hj:j=i
   ·subst hj;rw[hi]at e1;cases e1;rw[List.getElem?_set_self hiσ]at e2;cases e2;exact⟨u,r,.inr ⟨.inl hk,c,hc,hc'⟩⟩
   ·rw[List.getElem?_set_ne (Ne.symm hj)]at e2;obtain⟨u',r',q⟩:=hl j y v' e1 e2 e3;refine⟨u',r',?_⟩;rcases q with q|⟨k,c',e,z'⟩
    ·exact .inl q
    ·refine .inr ⟨k,c',e,z'.sameBut hs ?_⟩;rintro rfl;exact hj (zeD hN e1 (I.ok.inj _ _ _ e hc▸hi))
  ·by_cases hcc:c'=c
   ·subst hcc;exact⟨_,hc'⟩
   ·obtain⟨w2,z2⟩:=I.cell y c' e;exact⟨w2,z2.sameBut hs hcc⟩
  ·obtain⟨e,n,ne,nf,d⟩:=I.pin p hp;refine⟨(hs.2 p.1 ?_).trans e,n,ne,nf,d⟩;intro q;rw[q,hoc]at e;have q':oc=p.2:=Option.some.inj e;exact d w' (by rw[<- q'];exact hocd)
theorem zeo{M:Model}{A:Around}{E:qV}{i:Nat}{x:Str}{v:V}{u:Value}{Q:Unit->Shared->Prop}(I:Inv X pins σ H s)(hN:X.N.Nodup)(hi:X.N[i]?=some x)(hx:Loc X.env.scope x)(r:RelV v u)
  (h:∀s',Inv X pins (σ.set i (some v)) H s'->Q () s') (hf:X.fn x=true\/X.env.scope.names.lookup x=some .local:=by walk_at "F"):wpAny M A (storeName X.env x u) Q E s :=
 zfH I hN hi hx r (fun s' I' _=>h s' I') hf
theorem Inv.call'{s':Shared}{ch:List Addr}(I:Inv X pins σ H s)(ho:s'.os=s.os)(u:Un (frs X.stack) ch H H' s.heap s'.heap)(hok:HOk X.prog X.w H' s'.heap)(hg:AllBare s'.gens)
  (hch:∀b∈ch,(b∈X.ex\/X.s₀.heap.objs.size<=b)/\b≠X.env.locals/\(∀x c,X.env.cells.lookup x=some c->c≠b)/\∀p∈X.pn++pins,p.1≠b):Inv X pins σ H' s':=by
 obtain⟨h',g',d',t',o'⟩:=s';have e:o'=s.os:=ho;subst e;exact I.call (g':=g') (t':=t') (d':=d') u hok hg hch
end
abbrev XK:=Value->Option Addr->Hp->Prop
abbrev St:=List (Option V)
abbrev VK:=V->Hp->Prop
abbrev TE:=St->Hp->VK->Prop
abbrev TT:=St->Hp->(Bool->Hp->Prop)->Prop
abbrev TA:=St->Hp->(List V->Hp->Prop)->Prop
structure Ends where
 nx:St->Hp->Prop
 rt:VK
 bk:St->Hp->Prop:=fun _ _=>False
 ct:St->Hp->Prop:=fun _ _=>False
abbrev TS:=Ends->St->Hp->Prop
def EP(X:Cx)(pins:qO)(σ:St)(Q:VK)(u:Value)(s':Shared):Prop:=∃v H',Inv X pins σ H' s'/\RelV v u/\Q v H'
def TP(X:Cx)(pins:qO)(σ:St)(Q:Bool->Hp->Prop)(b:Bool)(s':Shared):Prop:=∃H',Inv X pins σ H' s'/\Q b H'
def AP(X:Cx)(pins:qO)(σ:St)(Q:List V->Hp->Prop)(us:List Value)(s':Shared):Prop:=∃vs H',Inv X pins σ H' s'/\Vals vs us/\Q vs H'
def SP(X:Cx)(pins:qO)(D:Ends)(f:Flow)(s':Shared):Prop :=
 match f with
 | .next=>∃σ' H',Inv X pins σ' H' s'/\D.nx σ' H'
 | .brk=>∃σ' H',Inv X pins σ' H' s'/\D.bk σ' H'
 | .cont=>∃σ' H',Inv X pins σ' H' s'/\D.ct σ' H'
 | .ret u=>∃v σ' H',Inv X pins σ' H' s'/\RelV v u/\D.rt v H'
def PE(X:Cx)(e:Expr)(t:TE):Prop :=
 ∀(pins:qO) (s:Shared) (σ:St) (H:Hp) (Q:VK),Inv X pins σ H s->t σ H Q->wpAny (model X.prog X.w) X.A (eval e X.env) (EP X pins σ Q) X.xe s
def PT(X:Cx)(e:Expr)(t:TT):Prop :=
 ∀(pins:qO) (s:Shared) (σ:St) (H:Hp) (Q:Bool->Hp->Prop),Inv X pins σ H s->t σ H Q->wpAny (model X.prog X.w) X.A (isTrue e X.env (eval e X.env)) (TP X pins σ Q) X.xe s
def PW(X:Cx)(e:Expr)(t:TT):Prop :=
 ∀(whole:Sem Value) (pins:qO) (s:Shared) (σ:St) (H:Hp) (Q:Bool->Hp->Prop),Inv X pins σ H s->t σ H Q->wpAny (model X.prog X.w) X.A (isTrue e X.env whole) (TP X pins σ Q) X.xe s
theorem PW.pt{X:Cx}{e:Expr}{t:TT}(h:PW X e t):PT X e t:=h _
def PA(X:Cx)(es:List Expr)(t:TA):Prop :=
 ∀(pos:Pos) (pins:qO) (s:Shared) (σ:St) (H:Hp) (Q:List V->Hp->Prop),Inv X pins σ H s->t σ H Q->wpAny (model X.prog X.w) X.A (spliced (backTo pos (starEach es X.env))) (AP X pins σ Q) X.xe s
def PS(X:Cx)(st:Stmt)(t:TS):Prop :=
 ∀(pins:qO) (s:Shared) (σ:St) (H:Hp) (D:Ends),Inv X pins σ H s->t D σ H->wpAny (model X.prog X.w) X.A (exec st X.env) (SP X pins D) X.xe s
def PSs(X:Cx)(st:List Stmt)(t:TS):Prop :=
 ∀(pins:qO) (s:Shared) (σ:St) (H:Hp) (D:Ends),Inv X pins σ H s->t D σ H->wpAny (model X.prog X.w) X.A (execs st X.env) (SP X pins D) X.xe s
theorem thn{α:Type}{t:Sem α}{Q Q':α->Shared->Prop}{M:Model}{A:Around}{E:qV}{s:Shared}(h:wpAny M A t Q E s)(hQ:∀a s,Q a s->Q' a s):wpAny M A t Q' E s:=wpAny_mono h hQ fun _ _ x=>x
section
variable{X:Cx}
def tVar(i:Nat):TE:=fun σ H Q=>∃v,σ[i]?=some (some v)/\Q v H
def tC(v:V):TE:=fun _ H Q=>Q v H
theorem Qs{i:Nat}{x:Str}{pos:Pos}(hN:X.N[i]?=some x)(hv:Vis X.env.scope x)(hd:(x == ("__debug__":Str))=false:=by decide) (hcd:(x == ("__classdict__":Str))=false:=by decide):PE X (.Name x pos) (tVar i):=by
 intro pins s σ H Q I h;obtain⟨v,e,h⟩:=h;obtain⟨m,hn,hl⟩:=I.loc;obtain⟨u,r,l⟩:=hl i x v hN e hv;have fin:EP X pins σ Q u s:=⟨v,H,I,r,h⟩;rcases l with⟨hk,hm⟩|⟨hk,c,hc,hcell⟩
 ·exact wpAny_Name (wpAny_loadName_local I.ok.kind hk hn hm fin) hd
 ·rcases hk with hk|hk
  ·exact wpAny_Name (wpAny_loadName_cell I.ok.kind hk hc hcell fin) hd
  ·exact wpAny_Name (wpAny_loadName_free I.ok.kind hk hc hcell fin hcd) hd
theorem Jm{i j pos}:PE X (.Constant (.int i) j pos) (tC (.int i)):=fun _ _ _ H _ I h=>wpAny_Constant_int ⟨.int i,H,I.tok _,⟨_,rfl⟩,h⟩
theorem zmI{b j pos}:PE X (.Constant (.bool b) j pos) (tC (.bl b)):=fun _ _ _ H _ I h=>Constant_bool ⟨.bl b,H,I,rfl,h⟩
def Gl(X:Cx)(x:Str):Prop:=X.env.kindOf x=some .globalImplicit
theorem zi6{E:qV}{pins:qO}{s:Shared}{σ:St}{H:Hp}{x:Str}{u:Value}{pos:Pos}{Q:qV}(I:Inv X pins σ H s)(hg:Gl X x)(hm:X.mg x=some u)(h:Q u s)
  (hd:(x == ("__debug__":Str))=false:=by decide):wpAny (model X.prog X.w) X.A (eval (.Name x pos) X.env) Q E s :=
 Calls.Name_function_global I.ok.kind hg (Calls.loadGlobal_global (by rw[I.ok.glob];exact I.mod.glob.keeps I.bk) hm h) hd
theorem Q7{E:qV}{pins:qO}{s:Shared}{σ:St}{H:Hp}{x:Str}{u:Value}{pos:Pos}{Q:qV}(I:Inv X pins σ H s)(hg:Gl X x)(hm:X.mg x=none)(hv:bootBuiltins x=some u)(h:Q u s)
  (hn:x ≠ "__name__":=by decide) (hd:(x == ("__debug__":Str))=false:=by decide):wpAny (model X.prog X.w) X.A (eval (.Name x pos) X.env) Q E s:=by
 obtain⟨mb,h1,h2⟩:=I.mod.blt;exact Calls.Name_function_global I.ok.kind hg (Calls.loadGlobal_builtin (by rw[I.ok.glob];exact I.mod.glob.keeps I.bk) hm (by rw[I.ok.blt];exact h1.keeps I.bk) ((h2 x hn).trans hv) h) hd
variable{a b:Expr}{ta tb:TE}{pos:Pos}
variable{tA tB':TT}{rest:List Expr}
def tAnd(t u:TT):TT:=fun σ H Q=>t σ H fun c H1=>if c=true then u σ H1 Q else Q false H1
theorem ziK(ha:PT X a tA):PW X (.BoolOp .And [a] pos) tA:=by
 intro wh pins s σ H Q I h;refine isTrue_and (thn (ha pins s σ H Q I h) fun c s1 e=>?_)
 cases c with
 | true=>exact isTrue_and_nil e
 | false=>exact e
theorem zj6(ha:PT X a tA)(hb:PW X (.BoolOp .And (b::rest) pos) tB'):PW X (.BoolOp .And (a::b::rest) pos) (tAnd tA tB'):=by
 intro wh pins s σ H Q I h;refine isTrue_and (thn (ha pins s σ H _ I h) fun c s1 ⟨H1,I1,q1⟩=>?_)
 cases c with
 | true=>exact hb wh pins s1 σ H1 Q I1 q1
 | false=>exact⟨H1,I1,q1⟩
def tOrV(ta tb:TE):TE:=fun σ H Q=>ta σ H fun x H1=>∃c,x=.bl c/\if c=true then Q (.bl true) H1 else tb σ H1 Q
theorem zkd{op}{t:TE}(h:PE X a t):PE X (.BoolOp op [a] pos) t:=fun pins s σ H Q I hw=>BoolOp_one (h pins s σ H Q I hw)
theorem zmG(ha:PE X a ta)(hb:PE X (.BoolOp .Or (b::rest) pos) tb):PE X (.BoolOp .Or (a::b::rest) pos) (tOrV ta tb):=by
 intro pins s σ H Q I h;refine BoolOp_or (thn (ha pins s σ H _ I h) fun v s1 ⟨x,H1,I1,r1,q1⟩=>?_)
 obtain⟨c,rfl,q1⟩:=q1;cases r1;refine wpAny_truthy_bool ?_;cases c with
 | false=>exact hb pins s1 σ H1 Q I1 q1
 | true=>exact⟨.bl true,H1,I1,rfl,q1⟩
end
def SqL(K:qF)(H:Hp)(a:Addr)(xs:List V):Prop :=
 Rd H a (.lst xs) \/
  ∃(o:Obj) (its:Array Value) (n:Nat),K.lookup a=some o/\o.cls=.type "list" /\ o.dict=none/\o.data=.seq its n/\its.size<=sizeLine/\Vals xs its.toList
def SqT(K:qF)(H:Hp)(a:Addr)(xs:List V):Prop :=
 Rd H a (.tup xs) \/
  ∃(o:Obj) (its:Array Value) (n:Nat),K.lookup a=some o/\o.cls=.type "tuple" /\ o.data=.seq its n/\its.size<=sizeLine/\Vals xs its.toList
def absV:Value->Option V
 | .none=>some .non
 | .bool b=>some (.bl b)
 | .int i _=>some (.int i)
 | .str x _=>some (.str x)
 | .bytes b _=>some (.byt b)
 | .float b _=>some (.flt b)
 | .ref a=>some (.ref a)
 | .type n=>some (.ty n)
 | _=>none
theorem RelV.abs{x:V}{u:Value}(r:RelV x u):absV u=some x:=by
 cases x with
 | non=>cases r;rfl
 | bl _=>cases r;rfl
 | int _=>obtain⟨t,rfl⟩:=r;rfl
 | str _=>obtain⟨t,rfl⟩:=r;rfl
 | byt _=>obtain⟨t,rfl⟩:=r;rfl
 | flt _=>obtain⟨t,rfl⟩:=r;rfl
 | ref _=>cases r;rfl
 | ty _=>cases r;rfl
theorem RelV.inj{x y:V}{u:Value}(r:RelV x u)(q:RelV y u):x=y:=Option.some.inj (r.abs.symm.trans q.abs)
theorem Vals.inj:∀{xs ys:List V}{us:List Value},Vals xs us->Vals ys us->xs=ys
 | _,_,_,.nil,.nil=>rfl
 | _,_,_,.cons r t,.cons r' t'=>by rw[r.inj r',Vals.inj t t']
section
variable{X:Cx}{pins:qO}{σ:St}{H:Hp}{s:Shared}{a:Addr}{xs ys:List V}
theorem SqL.of{K:qF}(h:H a=some (.lst xs)):SqL K H a xs:=.inl (.inl h)
theorem Inv.list(I:Inv X pins σ H s)(h:SqL X.K H a xs):∃its:List Value,Vals xs its/\PlainL s.heap a its.toArray/\xs.length<=sizeLine:=by
 rcases h with h|⟨o,its,n,hk,hc,hd,hs,hz,r⟩
 ·obtain⟨z,its,n,r,e⟩:=h.ok I.hok;exact⟨its,r,⟨_,n,e,rfl,rfl,rfl⟩,z⟩
 ·refine⟨its.toList,r,⟨o,n,I.kIn a o hk,hc,hd,by simpa using hs⟩,?_⟩
  have e:=r.length;simp only[Array.length_toList]at e;lia
theorem Inv.tuple(I:Inv X pins σ H s)(h:SqT X.K H a xs):∃its:List Value,Vals xs its/\IsTup s.heap a its.toArray/\xs.length<=sizeLine:=by
 rcases h with h|⟨o,its,n,hk,hc,hs,hz,r⟩
 ·obtain⟨z,its,r,p⟩:=h.ok I.hok;exact⟨its,r,p.tup,z⟩
 ·refine⟨its.toList,r,⟨o,I.kIn a o hk,hc,n,by simpa using hs⟩,?_⟩
  have e:=r.length;simp only[Array.length_toList]at e;lia
theorem Inv.list_inj(I:Inv X pins σ H s)(h:SqL X.K H a xs)(h':SqL X.K H a ys):xs=ys:=by
 obtain⟨its,r,⟨o,n,e,_,_,d⟩,_⟩:=I.list h;obtain⟨its',r',⟨o',n',e',_,_,d'⟩,_⟩:=I.list h';rw[e]at e';cases e';rw[d]at d'
 injection d' with d1 _
 have:its=its':=by simpa using congrArg Array.toList d1
 subst this;exact r.inj r'
theorem Inv.tuple_inj(I:Inv X pins σ H s)(h:SqT X.K H a xs)(h':SqT X.K H a ys):xs=ys:=by
 obtain⟨its,r,⟨o,e,_,n,d⟩,_⟩:=I.tuple h;obtain⟨its',r',⟨o',e',_,n',d'⟩,_⟩:=I.tuple h';rw[e]at e';cases e';rw[d]at d'
 injection d' with d1 _
 have:its=its':=by simpa using congrArg Array.toList d1
 subst this;exact r.inj r'
end
abbrev Cx.wish(X:Cx)(E:qV):Cx:={ X with xe:=E }
abbrev Cx.nox(X:Cx):Cx:=X.wish fun _ _=>False
theorem Cx.Ok.wish{X:Cx}(ok:X.Ok)(E:qV):(X.wish E).Ok :=
 ⟨ok.mod,ok.kind,ok.glob,ok.blt,ok.above,ok.inj,ok.has,ok.cab,ok.hd,ok.frames,ok.stk,ok.exf,ok.bs,ok.bsz,ok.noex,ok.exfs,ok.funs,ok.frf⟩
theorem Cx.Ok.unwish{X:Cx}{E:qV}(ok:(X.wish E).Ok):X.Ok :=
 ⟨ok.mod,ok.kind,ok.glob,ok.blt,ok.above,ok.inj,ok.has,ok.cab,ok.hd,ok.frames,ok.stk,ok.exf,ok.bs,ok.bsz,ok.noex,ok.exfs,ok.funs,ok.frf⟩
section
variable{X:Cx}{pins:qO}{σ:St}{H:Hp}{s:Shared}{E:qV}
theorem Inv.wish(I:Inv X pins σ H s)(E:qV):Inv (X.wish E) pins σ H s:=⟨I.ok.wish E,I.os,I.bare,I.base,I.loc,I.cell,I.free,I.freeC,I.pin,I.hok,I.len⟩
theorem Inv.unwish(I:Inv (X.wish E) pins σ H s):Inv X pins σ H s:=⟨I.ok.unwish,I.os,I.bare,I.base,I.loc,I.cell,I.free,I.freeC,I.pin,I.hok,I.len⟩
theorem SP.unwish{D:Ends}{f:Flow}{s':Shared}(h:SP (X.wish E) pins D f s'):SP X pins D f s':=by
 cases f with
 | next=>obtain⟨σ',H',I,q⟩:=h;exact⟨σ',H',I.unwish,q⟩
 | brk=>obtain⟨σ',H',I,q⟩:=h;exact⟨σ',H',I.unwish,q⟩
 | cont=>obtain⟨σ',H',I,q⟩:=h;exact⟨σ',H',I.unwish,q⟩
 | ret u=>obtain⟨v,σ',H',I,r,q⟩:=h;exact⟨v,σ',H',I.unwish,r,q⟩
theorem PSs.nox{st:List Stmt}{t:TS}(h:PSs X.nox st t):PSs X st t:=fun pins s σ H D I hw =>
 wpAny_mono (h pins s σ H D (I.wish _) hw) (fun _ _ q=>q.unwish) fun _ _ z=>False.elim z
end
section
variable{X:Cx}{st:Stmt}{rest:List Stmt}{t u:TS}{e:Expr}{te:TE}{pos:Pos}
def zmk:TS:=fun D σ H=>D.nx σ H
def tSeq(t u:TS):TS:=fun D σ H=>t { D with nx:=u D } σ H
theorem zd6:PSs X [] zmk:=fun _ _ σ H _ I h=>wpAny_execs_nil ⟨σ,H,I,h⟩
theorem JT(h1:PS X st t)(h2:PSs X rest u):PSs X (st::rest) (tSeq t u):=by
 intro pins s σ H D I h;refine wpAny_execs_cons (thn (h1 pins s σ H { D with nx:=u D } I h) fun f s1 q=>?_)
 cases f with
 | next =>
  obtain⟨σ',H',I',q⟩:=q;exact h2 pins s1 σ' H' D I' q
 | ret v=>exact q
 | brk=>exact q
 | cont=>exact q
theorem Ug(h1:PS X st t):PSs X [st] t:=by
 intro pins s σ H D I h;refine wpAny_execs_cons (thn (h1 pins s σ H D I h) fun f s1 q=>?_)
 cases f with
 | next=>exact wpAny_execs_nil q
 | ret v=>exact q
 | brk=>exact q
 | cont=>exact q
theorem Inv.quiet{pins:qO}{σ:St}{H:Hp}{s:Shared}(I:Inv X pins σ H s):interactive X.env=false:=by simp[interactive,I.ok.kind]
def zml(te:TE):TS:=fun D σ H=>te σ H fun _ H1=>D.nx σ H1
theorem ziO(he:PE X e te)(hs:swapsWith e none pos.line X.env=pure false:=by rfl):PS X (.Expr e pos) (zml te):=by
 intro pins s σ H D I h;exact wpAny_Expr_any (thn (he pins s σ H _ I h) fun v s1 ⟨x,H1,I1,r1,q1⟩=>⟨σ,H1,I1,q1⟩) I.quiet hs
def tRet(te:TE):TS:=fun D σ H=>te σ H D.rt
theorem Uv(he:PE X e te):PS X (.Return (some e) pos) (tRet te):=by
 intro pins s σ H D I h;exact wpAny_Return_some (thn (he pins s σ H _ I h) fun v s1 ⟨x,H1,I1,r1,q1⟩=>⟨x,σ,H1,I1,r1,q1⟩)
def tIfS(c:TT)(t u:TS):TS:=fun D σ H=>c σ H fun b H1=>if b=true then t D σ H1 else u D σ H1
theorem ziN{c:Expr}{a b:List Stmt}{tc:TT}(hc:PT X c tc)(ha:PSs X a t)(hb:PSs X b u):PS X (.If c a b pos) (tIfS tc t u):=by
 intro pins s σ H D I h;refine wpAny_If (thn (hc pins s σ H _ I h) fun d s1 ⟨H1,I1,q1⟩=>?_)
 cases d with
 | true=>exact ha pins s1 σ H1 D I1 q1
 | false=>exact hb pins s1 σ H1 D I1 q1
end
abbrev TG:=V->St->Hp->(St->Hp->Prop)->Prop
abbrev TGs:=List V->St->Hp->(St->Hp->Prop)->Prop
def PG(X:Cx)(target:Expr)(t:TG):Prop :=
 ∀(pins:qO) (s:Shared) (σ:St) (H:Hp) (v:V) (u:Value) (Q:St->Hp->Prop),Inv X pins σ H s->RelV v u->t v σ H Q ->
  wpAny (model X.prog X.w) X.A (assign target X.env u) (fun _ s'=>∃σ' H',Inv X pins σ' H' s'/\Q σ' H') X.xe s
def PGs(X:Cx)(ts:List Expr)(t:TGs):Prop :=
 ∀(pins:qO) (s:Shared) (σ:St) (H:Hp) (vs:List V) (us:List Value) (Q:St->Hp->Prop),Inv X pins σ H s->Vals vs us->t vs σ H Q ->
  wpAny (model X.prog X.w) X.A (assignInOrder ((assignEach ts X.env).map (·.2)) us) (fun _ s'=>∃σ' H',Inv X pins σ' H' s'/\Q σ' H') X.xe s
abbrev TSet:=V->V->V->Hp->(Hp->Prop)->Prop
def PSet(X:Cx)(t:TSet):Prop :=
 ∀(pins:qO) (s:Shared) (σ:St) (H:Hp) (o i v:V) (ov iv u:Value) (Q:Hp->Prop),Inv X pins σ H s->RelV o ov->RelV i iv->RelV v u->t o i v H Q ->
  wpAny (model X.prog X.w) X.A (setItem ov iv u) (fun _ s'=>∃H',Inv X pins σ H' s'/\Q H') X.xe s
section
variable{X:Cx}{pos:Pos}
def zlr(i:Nat):TG:=fun v σ H Q=>Q (σ.set i (some v)) H
theorem ziT{i:Nat}{x:Str}(hN:X.N.Nodup)(hi:X.N[i]?=some x)(hx:Loc X.env.scope x)(hf:X.fn x=true\/X.env.scope.names.lookup x=some .local:=by walk_at "F"):PG X (.Name x pos) (zlr i):=by
 intro pins s σ H v u Q I r h;exact wpAny_assign_Name (zeo I hN hi hx r (fun s' I'=>⟨_,H,I',h⟩) hf)
def gNil:TGs:=fun vs σ H Q=>vs=[]/\Q σ H
def znn(t:TG)(u:TGs):TGs:=fun vs σ H Q=>∃v r,vs=v::r/\t v σ H fun σ' H'=>u r σ' H' Q
theorem ziS:PGs X [] gNil:=by
 intro pins s σ H vs us Q I r h;obtain⟨e,h⟩:=h;subst e;cases r;exact assignInOrder_nil ⟨σ,H,I,h⟩
theorem zht{e:Expr}{es:List Expr}{t:TG}{u:TGs}(h1:PG X e t)(h2:PGs X es u)
  (hs:(assignEach (e::es) X.env).map (·.2)=assign e X.env::(assignEach es X.env).map (·.2):=by rfl):PGs X (e::es) (znn t u):=by
 intro pins s σ H vs us Q I r h;obtain⟨v,vr,e1,h⟩:=h;subst e1;cases r with
 | cons r rr =>
  rw[hs];refine assignInOrder_cons (thn (h1 pins s σ H _ _ _ I r h) fun _ s1 ⟨σ1,H1,I1,q1⟩=>?_)
  exact h2 pins s1 σ1 H1 _ _ Q I1 rr q1
def gTup(K:qF)(n:Nat)(t:TGs):TG:=fun v σ H Q=>∃a xs,v=.ref a/\SqT K H a xs/\xs.length=n/\t xs σ H Q
theorem zkb{es:List Expr}{k:Nat}{t:TGs}{n:Nat}(hc:X.calm=true)(h:PGs X es t)
  (hn:(assignEach es X.env).length=n:=by rfl) (hst:(assignEach es X.env).findIdx? (·.1)=none:=by rfl):PG X (.Tuple es k pos) (gTup X.K n t):=by
 intro pins s σ H v u Q I r hw;obtain⟨a,xs,e1,hq,hl,hw⟩:=hw;subst e1;cases r;obtain⟨its,rv,ht,hz⟩:=I.tuple hq;refine assign_Tuple_tuple (I.ok.hd hc) ht (by simp[hn,<- hl,rv.length]) hst fun h' hx=>?_
 have I1:Inv X pins σ H { s with heap:=h' }:=I.kept (t':=s.toks) fun b o e=>hx b o (Nat.ne_of_lt (Heap.lt_size e)) e
 exact h pins _ σ H xs _ Q I1 (by simpa using rv) hw
def gSub(to ti:TE)(t:TSet):TG:=fun v σ H Q=>to σ H fun o H1=>ti σ H1 fun i H2=>t o i v H2 fun H3=>Q σ H3
theorem pg_sub{o i:Expr}{to ti:TE}{t:TSet}(ho:PE X o to)(hi:PE X i ti)(hs:PSet X t)
  (ha:∀v,assign (.Subscript o i pos) X.env v=(do
   let ov <- holding [v] (eval o X.env)
   let iv <- holding [v,ov] (eval i X.env)
   standAt pos
   holding [v,ov,iv] (setItem ov iv v)
   release [v,ov,iv] []):=by intro _;rfl):PG X (.Subscript o i pos) (gSub to ti t):=by
 intro pins s σ H v u Q I r h;rw[ha];refine wpAny_bind (wpAny_holding (thn (ho pins s σ H _ I h) fun ov s1 ⟨x,H1,I1,r1,q1⟩=>?_))
 refine wpAny_bind (wpAny_holding (thn (hi pins s1 σ H1 _ I1 q1) fun iv s2 ⟨y,H2,I2,r2,q2⟩=>?_))
 refine wpAny_bind (wpAny_standAt (wpAny_bind (wpAny_holding (thn (hs pins s2 σ H2 x y v ov iv u _ I2 r1 r2 r q2) fun _ s3 ⟨H3,I3,q3⟩=>?_))))
 exact wpAny_release ⟨σ,H3,I3,q3⟩
def tAsg(te:TE)(g:TG):TS:=fun D σ H=>te σ H fun x H1=>g x σ H1 D.nx
theorem UK{tg e:Expr}{te:TE}{g:TG}(he:PE X e te)(hg:PG X tg g)(hs:swapsWithSole [tg] e pos.line X.env=pure false:=by rfl)(hw:swappedStores [tg] e X.env=pure none:=by rfl)
  (h1:(assignEach [tg] X.env).map (·.2)=[assign tg X.env]:=by rfl):PS X (.Assign [tg] e pos) (tAsg te g):=by
 intro pins s σ H D I h;refine wpAny_Assign_stores (thn (he pins s σ H _ I h) fun v s1 ⟨x,H1,I1,r1,q1⟩=>?_) hs hw
 rw[h1];exact thn (hg pins s1 σ H1 x v _ I1 r1 q1) fun _ s2 q=>q
theorem J7{i:Nat}{x:Str}{e:Expr}{te:TE}{pos':Pos}(hN:X.N.Nodup)(hi:X.N[i]?=some x)(hx:Loc X.env.scope x)(he:PE X e te)(hs:swapsWith e (some (.Name x pos')) pos.line X.env=pure false:=by rfl)(hf:X.fn x=true\/X.env.scope.names.lookup x=some .local:=by walk_at "F") :
  PS X (.Assign [.Name x pos'] e pos) (tAsg te (zlr i)):=by
 intro pins s σ H D I h;refine wpAny_Assign_Name (thn (he pins s σ H _ I h) fun v s1 ⟨y,H1,I1,r1,q1⟩=>?_) hs
 exact zeo I1 hN hi hx r1 (fun s2 I2=>⟨_,H1,I2,q1⟩) hf
end
section
variable{X:Cx}{pos:Pos}
def zjP(c:TT)(tb:TS):TS:=fun D σ H=>∃W:Nat->St->Hp->Prop,(∃m,W m σ H)/\∀m σ H,W m σ H ->
 c σ H fun b H1=>if b=true then ∃N:St->Hp->Prop,(∀σ' H',N σ' H'->∃m',m'<m/\W m' σ' H')/\tb { D with nx:=N,ct:=N,bk:=D.nx } σ H1 else D.nx σ H1
theorem zhp{c:Expr}{body:List Stmt}{tc:TT}{tb:TS}(hp:PassesOwn (model X.prog X.w) X.A X.env X.xe)(hc:PT X c tc)(hb:PSs X body tb):PS X (.While c body [] pos) (zjP tc tb):=by
 intro pins s σ H D I h;obtain⟨W,⟨m0,w0⟩,turn⟩:=h;refine wpAny_While (codeAny_whileLoop (fun n s'=>∃σ' H',Inv X pins σ' H' s'/\W n σ' H') ?_ m0 ⟨σ,H,I,w0⟩)
 rintro n s1 ⟨σ1,H1,I1,w1⟩;refine wpAny_passesOwn hp (thn (hc pins s1 σ1 H1 _ I1 (turn n σ1 H1 w1)) fun b s2 ⟨H2,I2,q2⟩=>?_)
 cases b with
 | true =>
  obtain⟨N,hN,q2⟩:=q2;rw[if_pos rfl];refine wpAny_passesOwn hp (thn (hb pins s2 σ1 H2 _ I2 q2) fun f s3 q3=>?_)
  cases f with
  | next =>
   obtain⟨σ3,H3,I3,n3⟩:=q3;obtain⟨m',hm,w3⟩:=hN σ3 H3 n3;exact⟨m',hm,σ3,H3,I3,w3⟩
  | cont =>
   obtain⟨σ3,H3,I3,n3⟩:=q3;obtain⟨m',hm,w3⟩:=hN σ3 H3 n3;exact⟨m',hm,σ3,H3,I3,w3⟩
  | brk=>exact q3
  | ret v=>exact q3
 | false =>
  rw[if_neg Bool.false_ne_true];exact wpAny_execs_nil ⟨σ1,H2,I2,q2⟩
end
structure It where
 go:Nat->Hp->Prop
 yld:Nat->Hp->V->Hp->Prop
 stop:Nat->Hp->Prop
def FpOk(X:Cx)(pins:qO)(H:Hp)(b:Addr):Prop :=
 H b=none/\b≠X.env.locals/\b∉X.fs/\(b∈X.ex\/X.s₀.heap.objs.size<=b)/\(∀x c,X.env.cells.lookup x=some c->c≠b)/\∀p∈X.pn++pins,p.1≠b
theorem Inv.fpOk{X:Cx}{pins:qO}{σ:St}{H H':Hp}{s:Shared}{b:Addr}(I:Inv X pins σ H s)(hb:s.heap.objs.size<=b)(hn:H' b=none):FpOk X pins H' b:=by
 refine⟨hn,Nat.ne_of_gt (Nat.lt_of_lt_of_le I.lt hb),I.nofs hb,.inr (Nat.le_trans I.sz hb),fun x c e z=>?_,fun p hp z=>?_⟩
 ·obtain⟨v,q⟩:=I.cell x c e;exact absurd (Nat.lt_of_lt_of_le q.lt (by rw[z];exact hb)) (Nat.lt_irrefl _)
 ·exact absurd (Nat.lt_of_lt_of_le (Heap.lt_size (I.pin p hp).1) (by rw[z];exact hb)) (Nat.lt_irrefl _)
structure Turn(P:Program)(w:World)(K:qF)(tg:Expr)(J:It)(fp:List Addr)(it:Addr)(tn:Nat->Heap->Prop):Prop where
 mem:it∈fp
 obj:∀i h,tn i h->∀b∈fp,∃o,h.get? b=some o/\∀v,o.data≠.cell v
 keep:∀i h h',tn i h->(∀b∈fp,∀o,h.get? b=some o->h'.get? b=some o)->tn i h'
 item:∀(X:Cx),X.prog=P->X.w=w->X.K=K->X.calm=true->∀(i:Nat) (pins:qO) (s:Shared) (σ:St) (H:Hp) (E:qV),Inv X pins σ H s->(∀b∈fp,FpOk X pins H b)->tn i s.heap->J.go i H ->
  wpAny (model P w) X.A (pyNext (.ref it)) (fun r s1=>∃u,r=some u /\
   wpAny (model P w) X.A (letOwnedTupleGo tg (.ref it) u) (fun _ s2=>∃x H',Inv X pins σ H' s2/\RelV x u/\J.yld i H x H'/\tn (i+1) s2.heap/\∀b∈fp,H' b=none) E s1) E s
 done:∀(X:Cx),X.prog=P->X.w=w->X.K=K->X.calm=true->∀(i:Nat) (pins:qO) (s:Shared) (σ:St) (H:Hp) (E:qV),Inv X pins σ H s->(∀b∈fp,FpOk X pins H b)->tn i s.heap->J.stop i H ->
  wpAny (model P w) X.A (pyNext (.ref it)) (fun r s1=>r=none/\Inv X pins σ H s1) E s
 self:∀(A:Around) (i:Nat) (s:Shared) (Q:qV) (E:qV),tn i s.heap->Q (.ref it) s->wpAny (model P w) A (pyIter (.ref it)) Q E s
abbrev TI:=St->Hp->(It->Hp->Prop)->Prop
def PIE(X:Cx)(pins:qO)(σ:St)(tg:Expr)(R:It->Hp->Prop)(itv:Value)(s2:Shared):Prop :=
 ∃(it:Addr) (fp:List Addr) (tn:Nat->Heap->Prop) (J:It) (H':Hp),itv=.ref it/\Inv X pins σ H' s2/\Turn X.prog X.w X.K tg J fp it tn/\tn 0 s2.heap/\(∀b∈fp,FpOk X pins H' b)/\R J H'
def PI(X:Cx)(tg iter:Expr)(wi:TI):Prop :=
 ∀(pins:qO) (s:Shared) (σ:St) (H:Hp) (R:It->Hp->Prop),Inv X pins σ H s->wi σ H R ->
  wpAny (model X.prog X.w) X.A (eval iter X.env) (fun v s1=>wpAny (model X.prog X.w) X.A (pyIter v) (PIE X pins σ tg R) X.xe s1) X.xe s
theorem Q6{M:Model}{A:Around}{E:qV}{s:Shared}{tg:Expr}{it:Addr}{u:Value}{o:Obj}{n:String}{vs:Array Value}{Q:Unit->Shared->Prop}(ho:s.heap.get? it=some o)(hc:o.cls=.type n)(hd:o.data=.fields vs)
  (hn:["enumerate","zip","dict_itemiterator","dict_reverseitemiterator","odict_iterator","itertools.zip_longest","itertools.pairwise"].contains n=false) (hQ:Q () s):wpAny M A (letOwnedTupleGo tg (.ref it) u) Q E s:=by
 unfold letOwnedTupleGo;cases tg <;> first
  | exact wpAny_pure hQ
  | (cases u <;> first
    | exact wpAny_pure hQ
    | (refine wpAny_bind (wpAny_load ho ?_)
       rw[hc,hd];show wpAny M A (if (["enumerate","zip","dict_itemiterator","dict_reverseitemiterator","odict_iterator","itertools.zip_longest","itertools.pairwise"].contains n&&vs[0]? == some (rawInt _))=true then _ else _) Q E s
       rw[if_neg (by intro h;rw[hn,Bool.false_and]at h;cases h)]
       exact wpAny_pure hQ))
def Itl(K:qF)(a:Addr):It :=
 ⟨fun i H=>∃xs x,SqL K H a xs/\xs[i]?=some x,fun i H x H'=>H'=H/\∀xs,SqL K H a xs->xs[i]?=some x,fun i H=>∃xs,SqL K H a xs/\xs.length<=i⟩
def Itt(K:qF)(a:Addr):It :=
 ⟨fun i H=>∃xs x,SqT K H a xs/\xs[i]?=some x,fun i H x H'=>H'=H/\∀xs,SqT K H a xs->xs[i]?=some x,fun i H=>∃xs,SqT K H a xs/\xs.length<=i⟩
def Itr(lo:Int)(n:Nat):It:=⟨fun i _=>i<n,fun i H x H'=>H'=H/\x=.int (lo+i),fun i _=>n<=i⟩
theorem zdj{P:Program}{w:World}{K:qF}{tg:Expr}(a it:Addr):Turn P w K tg (Itl K a) [it] it (fun i h=>h.IsListIter it a i) where
 mem:=by simp
 obj:=fun i h st b hb=>by
  have e:b=it:=by simpa using hb
  subst e;obtain⟨o,e,c,d⟩:=st;exact⟨o,e,fun v z=>by rw[d]at z;cases z⟩
 keep:=fun i h h' st k=>st.at fun o e=>k it (by simp) o e
 item:=by
  intro X hP hw hK hc i pins s σ H E I hf st hg;subst hP hw hK;obtain⟨xs,x,hq,hx⟩:=hg;obtain⟨its,rv,p,hz⟩:=I.list hq;obtain⟨u,hu,ru⟩:=rv.get hx;obtain⟨f0,f1,f2,f3,f4,f5⟩:=hf it (by simp)
  refine wpAny_pyNext_list_item st p.isList (x:=u) (by simpa using hu) fun h' st' sb=>?_
  have I1:Inv X pins σ H { s with heap:=h' }:=I.turned (t':=s.toks) (fun b o hb e=>(sb.2 b hb).trans e) f0 f1 f3 f4 f5
  obtain⟨o,e,c,d⟩:=id st';exact⟨u,rfl,Q6 (s:={ s with heap:=h' }) e c d (by decide) ⟨x,H,I1,ru,⟨rfl,fun ys hy=>by rw[I.list_inj hy hq];exact hx⟩,st',fun b hb=>(hf b hb).1⟩⟩
 done:=by
  intro X hP hw hK hc i pins s σ H E I hf st hg;subst hP hw hK;obtain⟨xs,hq,hx⟩:=hg;obtain⟨its,rv,p,hz⟩:=I.list hq;obtain⟨f0,f1,f2,f3,f4,f5⟩:=hf it (by simp)
  have hl:=rv.length;exact wpAny_pyNext_list_end (I.ok.hd hc) st p.isList (by simp;lia) fun h' eb=>⟨rfl,I.turned (t':=s.toks) (fun b o hb e=>eb b o hb e) f0 f1 f3 f4 f5⟩
 self:=fun _ _ _ _ _ st h=>wpAny_pyIter_listiter st h
theorem zcI{P:Program}{w:World}{K:qF}{tg:Expr}(a it:Addr):Turn P w K tg (Itt K a) [it] it (fun i h=>h.IsTupleIter it a i) where
 mem:=by simp
 obj:=fun i h st b hb=>by
  have e:b=it:=by simpa using hb
  subst e;obtain⟨o,e,c,d⟩:=st;exact⟨o,e,fun v z=>by rw[d]at z;cases z⟩
 keep:=fun i h h' st k=>st.at fun o e=>k it (by simp) o e
 item:=by
  intro X hP hw hK hc i pins s σ H E I hf st hg;subst hP hw hK;obtain⟨xs,x,hq,hx⟩:=hg;obtain⟨its,rv,p,hz⟩:=I.tuple hq;obtain⟨u,hu,ru⟩:=rv.get hx;obtain⟨f0,f1,f2,f3,f4,f5⟩:=hf it (by simp)
  refine wpAny_pyNext_tuple_item st (show s.heap.IsTuple a its.toArray from p) (x:=u) (by simpa using hu) fun h' st' sb=>?_
  have I1:Inv X pins σ H { s with heap:=h' }:=I.turned (t':=s.toks) (fun b o hb e=>(sb.2 b hb).trans e) f0 f1 f3 f4 f5
  obtain⟨o,e,c,d⟩:=id st';exact⟨u,rfl,Q6 (s:={ s with heap:=h' }) e c d (by decide) ⟨x,H,I1,ru,⟨rfl,fun ys hy=>by rw[I.tuple_inj hy hq];exact hx⟩,st',fun b hb=>(hf b hb).1⟩⟩
 done:=by
  intro X hP hw hK hc i pins s σ H E I hf st hg;subst hP hw hK;obtain⟨xs,hq,hx⟩:=hg;obtain⟨its,rv,p,hz⟩:=I.tuple hq;obtain⟨f0,f1,f2,f3,f4,f5⟩:=hf it (by simp)
  have hl:=rv.length;exact wpAny_pyNext_tuple_end (I.ok.hd hc) st (show s.heap.IsTuple a its.toArray from p) (by simp;lia) fun h' eb=>⟨rfl,I.turned (t':=s.toks) (fun b o hb e=>eb b o hb e) f0 f1 f3 f4 f5⟩
 self:=fun _ _ _ _ _ st h=>wpAny_pyIter_tupleiter st h
theorem ze6{P:Program}{w:World}{K:qF}{tg:Expr}(it:Addr)(lo:Int)(n:Nat):Turn P w K tg (Itr lo n) [it] it (fun i h=>IsRangeIter h it (lo+(i:Nat)*1) ((n:Int) - (i:Nat)) 1) where
 mem:=by simp
 obj:=fun i h st b hb=>by
  have e:b=it:=by simpa using hb
  subst e;exact⟨_,st,fun v z=>by
   have z':Data.fields _=Data.cell v:=z;cases z'⟩
 keep:=fun i h h' st k=>k it (by simp) _ st
 item:=by
  intro X hP hw hK hc i pins s σ H E I hf st hg;subst hP hw hK;obtain⟨f0,f1,f2,f3,f4,f5⟩:=hf it (by simp)
  have W:=Walks.range (prog:=X.prog) (w:=X.w) (I.ok.hd hc) it lo 1 n;refine W.item i s _ _ hg st fun v h' tk hv st' kk=>?_
  obtain⟨t,rfl⟩:=hv;have I1:Inv X pins σ H { s with heap:=h',toks:=tk }:=I.turned (fun b o hb e=>kk b o (by simpa using hb) e) f0 f1 f3 f4 f5
  refine⟨_,rfl,Q6 (s:={ s with heap:=h',toks:=tk }) (n:="range_iterator") st' rfl rfl (by decide) ⟨.int (lo+i),H,I1,⟨t,?_⟩,⟨rfl,rfl⟩,st',fun b hb=>(hf b hb).1⟩⟩
  rw[Int.mul_one]
 done:=by
  intro X hP hw hK hc i pins s σ H E I hf st hg;subst hP hw hK;obtain⟨f0,f1,f2,f3,f4,f5⟩:=hf it (by simp)
  exact wpAny_pyNext_range_end (I.ok.hd hc) st (by have:n<=i:=hg;lia) fun h' eb=>⟨rfl,I.turned (t':=s.toks) (fun b o hb e=>eb b o hb e) f0 f1 f3 f4 f5⟩
 self:=fun _ _ _ _ _ st h=>wpAny_pyIter_rangeiter st h
section
variable{X:Cx}{tg:Expr}
def znk(K:qF)(tl:TE):TI:=fun σ H R=>tl σ H fun x H1=>∃a,x=.ref a/\(∃xs,SqL K H1 a xs)/\R (Itl K a) H1
def iTup(K:qF)(tl:TE):TI:=fun σ H R=>tl σ H fun x H1=>∃a,x=.ref a/\(∃xs,SqT K H1 a xs)/\R (Itt K a) H1
theorem ziQ{l:Expr}{tl:TE}(hl:PE X l tl):PI X tg l (znk X.K tl):=by
 intro pins s σ H R I h;refine thn (hl pins s σ H _ I h) fun v s1 ⟨x,H1,I1,r1,q1⟩=>?_
 obtain⟨a,e,⟨xs,hq⟩,q⟩:=q1;subst e;cases r1;obtain⟨its,rv,p,hz⟩:=I1.list hq;refine wpAny_pyIter_list p.isList ?_;refine⟨s1.heap.objs.size,[s1.heap.objs.size],_,_,H1,rfl,I1.kept (t':=s1.toks) fun b o e=>Heap.get?_push_of_some _ e,zdj a _,⟨_,Heap.get?_push_size _ rfl,rfl,rfl⟩,fun b hb=>?_,q⟩
 have e:b=s1.heap.objs.size:=by simpa using hb
 subst e;exact I1.fpOk (Nat.le_refl _) (I1.hok.fresh (Nat.le_refl _))
theorem zj_{l:Expr}{tl:TE}(hl:PE X l tl):PI X tg l (iTup X.K tl):=by
 intro pins s σ H R I h;refine thn (hl pins s σ H _ I h) fun v s1 ⟨x,H1,I1,r1,q1⟩=>?_
 obtain⟨a,e,⟨xs,hq⟩,q⟩:=q1;subst e;cases r1;obtain⟨its,rv,p,hz⟩:=I1.tuple hq;refine wpAny_pyIter_tuple (show s1.heap.IsTuple a its.toArray from p) ?_
 refine⟨s1.heap.objs.size,[s1.heap.objs.size],_,_,H1,rfl,I1.kept (t':=s1.toks) fun b o e=>Heap.get?_push_of_some _ e,zcI a _,⟨_,Heap.get?_push_size _ rfl,rfl,rfl⟩,fun b hb=>?_,q⟩
 have e:b=s1.heap.objs.size:=by simpa using hb
 subst e;exact I1.fpOk (Nat.le_refl _) (I1.hok.fresh (Nat.le_refl _))
theorem zex{pins:qO}{σ:St}{H:Hp}{s:Shared}{R:It->Hp->Prop}{E:qV}{lo hi:Int}{t u v:Tok}{tk:Nat}(I:Inv X pins σ H s)(h1:-(2 ^ 62)<=lo)(h2:lo<2 ^ 62)(h3:-(2 ^ 62)<=hi)(h4:hi<2 ^ 62)
  (q:R (Itr lo (hi - lo).toNat) H):wpAny (model X.prog X.w) X.A (pyIter (.ref s.heap.objs.size)) (PIE X pins σ tg R) E { s with heap:=s.heap.push { cls:=.type "range",data:=.fields #[.int lo t,.int hi u,.int 1 v] },toks:=tk }:=by
 refine wpAny_pyIter_range (IsRange.new ..) (small_one h1 h2 h3 h4) ?_;have I1:Inv X pins σ H { s with heap:=s.heap.push { cls:=.type "range",data:=.fields #[.int lo t,.int hi u,.int 1 v] },toks:=tk }:=I.kept fun b o e=>Heap.get?_push_of_some _ e
 refine⟨(s.heap.push { cls:=.type "range",data:=.fields #[.int lo t,.int hi u,.int 1 v] }).objs.size,[(s.heap.push { cls:=.type "range",data:=.fields #[.int lo t,.int hi u,.int 1 v] }).objs.size],_,_,H,rfl,
  I1.kept (t':=tk) fun b o e=>Heap.get?_push_of_some _ e,ze6 _ lo (hi - lo).toNat,?_,fun b hb=>?_,q⟩
 ·have e1:lo+((0:Nat):Int)*1=lo:=by simp
  have e2:(((hi - lo).toNat:Nat):Int) - ((0:Nat):Int)=Builtin.Range.rangeSize lo hi 1:=by rw[rangeSize_one];split <;> lia
  show IsRangeIter _ _ (lo+((0:Nat):Int)*1) ((((hi - lo).toNat:Nat):Int) - ((0:Nat):Int)) 1
  rw[e1,e2];exact Heap.get?_push_size _ rfl
 ·have e:b=(s.heap.push { cls:=.type "range",data:=.fields #[.int lo t,.int hi u,.int 1 v] }).objs.size:=by simpa using hb
  subst e;exact I1.fpOk (Nat.le_refl _) (I1.hok.fresh (Nat.le_refl _))
def znj(ta:TA):TI:=fun σ H R=>ta σ H fun vs H1=>∃j:Int,vs=[.int j]/\-(2 ^ 62)<=j/\j<2 ^ 62/\R (Itr 0 j.toNat) H1
def zni(ta:TA):TI:=fun σ H R=>ta σ H fun vs H1=>∃i j:Int,vs=[.int i,.int j]/\(-(2 ^ 62)<=i/\i<2 ^ 62/\-(2 ^ 62)<=j/\j<2 ^ 62)/\R (Itr i (j - i).toNat) H1
theorem zfX{a:Expr}{ta:TA}{p pos:Pos}(hg:Gl X "range") (hm:X.mg "range" = none) (ha:PA X [a] ta) (hs:starEach [a] X.env=[(false,eval a X.env)]:=by rfl):PI X tg (.Call (.Name "range" p) [a] [] pos) (znj ta):=by
 intro pins s σ H R I h;refine Call_ (Q7 I hg hm boot_range (PyProof.Rows.callWith_type1 (thn (ha pos pins s σ H _ I h) fun us s1 ⟨vs,H1,I1,r1,q1⟩=>?_) hs rfl))
 obtain⟨j,e,q1,q2,q⟩:=q1;subst e;cases r1 with
 | cons r rr =>
  cases rr;obtain⟨t,rfl⟩:=r;exact call_range_1 (zex I1 (by lia) (by lia) q1 q2 (by simpa using q))
theorem zfW{a b:Expr}{ta:TA}{p pos:Pos}(hg:Gl X "range") (hm:X.mg "range" = none) (ha:PA X [a,b] ta) (hs:starEach [a,b] X.env=[(false,eval a X.env),(false,eval b X.env)]:=by rfl) (hs2:starEach [b] X.env=[(false,eval b X.env)]:=by rfl) :
  PI X tg (.Call (.Name "range" p) [a,b] [] pos) (zni ta):=by
 intro pins s σ H R I h;refine Call_ (Q7 I hg hm boot_range (PyProof.Rows.callWith_type1 (thn (ha pos pins s σ H _ I h) fun us s1 ⟨vs,H1,I1,r1,q1⟩=>?_) (by rw[hs,hs2]) (by rw[hs2];rfl)))
 obtain⟨i,j,e,⟨q1,q2,q3,q4⟩,q⟩:=q1;subst e;cases r1 with
 | cons r rr =>
  cases rr with
  | cons r' rr =>
   cases rr;obtain⟨t,rfl⟩:=r;obtain⟨t',rfl⟩:=r';exact call_range_2 (zex I1 q1 q2 q3 q4 q)
def tFor(wi:TI)(g:TG)(tb:TS):TS:=fun D σ H=>wi σ H fun J H1=>∃W:Nat->Nat->St->Hp->Prop,(∃m,W 0 m σ H1)/\∀i m σ H,W i m σ H ->
 (J.stop i H/\D.nx σ H)\/(J.go i H/\∃N:St->Hp->Prop,(∀σ' H',N σ' H'->∃m',m'<m/\W (i+1) m' σ' H')/\∀x H',J.yld i H x H'->g x σ H' fun σ2 H2=>tb { D with nx:=N,ct:=N,bk:=D.nx } σ2 H2)
def QE(fp:List Addr)(h:Heap):List (Addr×Obj):=fp.filterMap fun b=>(h.get? b).map fun o=>(b,o)
theorem Qu{fp:List Addr}{h:Heap}{b:Addr}{o:Obj}(hb:b∈fp)(e:h.get? b=some o):(b,o)∈QE fp h:=List.mem_filterMap.mpr ⟨b,hb,by rw[e];rfl⟩
theorem zf9{fp:List Addr}{h:Heap}{p:Addr×Obj}(hp:p∈QE fp h):p.1∈fp/\h.get? p.1=some p.2:=by
 obtain⟨b,hb,e⟩:=List.mem_filterMap.mp hp;cases q:h.get? b with
 | none=>rw[q]at e;cases e
 | some o =>
  rw[q]at e;have e':(b,o)=p:=Option.some.inj e;subst e';exact⟨hb,q⟩
theorem Inv.pinned{pins:qO}{σ:St}{H:Hp}{s:Shared}{fp:List Addr}(I:Inv X pins σ H s)(hf:∀b∈fp,FpOk X pins H b)(ho:∀b∈fp,∃o,s.heap.get? b=some o/\∀v,o.data≠.cell v):Inv X (pins++QE fp s.heap) σ H s :=
 I.pins_of fun p hp=>(List.mem_append.mp hp).elim (fun z=>I.pin p (List.mem_append_right _ z)) fun z=>by
  obtain⟨hb,e⟩:=zf9 z;obtain⟨f0,f1,f2,_⟩:=hf p.1 hb;obtain⟨o,e',d⟩:=ho p.1 hb;rw[e]at e';cases e';exact⟨e,f0,f1,f2,d⟩
theorem Inv.unpinned{pins pl:qO}{σ:St}{H:Hp}{s:Shared}(I:Inv X (pins++pl) σ H s):Inv X pins σ H s:=I.pins_of fun p hp=>I.pin p (List.mem_append_right _ (List.mem_append_left _ hp))
theorem zj9{iter:Expr}{body:List Stmt}{wi:TI}{g:TG}{tb:TS}{pos:Pos}(hp:PassesOwn (model X.prog X.w) X.A X.env X.xe)(hc:X.calm=true)(hi:PI X tg iter wi)(hg:PG X tg g)(hb:PSs X body tb)
  (hs:∀x,foldedSetIterable iter X.env x=pure x:=by intro _;rfl):PS X (.For tg iter body [] pos) (tFor wi g tb):=by
 intro pins s σ H D I h;refine wpAny_For (thn (hi pins s σ H _ I h) fun v s1 h1=>thn h1 fun itv s2 h2=>?_) hs
 obtain⟨it,fp,tn,J,H2,e,I2,T,st2,f2,W,⟨m0,w0⟩,turn⟩:=h2;subst e;have stat:∀{H':Hp},(∀b∈fp,H' b=none)->∀b∈fp,FpOk X pins H' b:=fun hn b hb=>⟨hn b hb,(f2 b hb).2⟩
 refine codeAny_forLoop_any (fun n s'=>∃i σ' H',Inv X pins σ' H' s'/\tn i s'.heap/\(∀b∈fp,H' b=none)/\W i n σ' H') ?_ m0 ⟨0,σ,H2,I2,st2,fun b hb=>(f2 b hb).1,w0⟩
 rintro n s3 ⟨i,σ3,H3,I3,st3,fr3,w3⟩;rcases turn i n σ3 H3 w3 with⟨stop,qn⟩|⟨go,N,hN,step⟩
 ·refine wpAny_passesOwn hp (thn (T.done X rfl rfl rfl hc i pins s3 σ3 H3 X.xe I3 (stat fr3) st3 stop) fun r s4 ⟨hr,I4⟩=>?_)
  subst hr;exact wpAny_execs_nil ⟨σ3,H3,I4,qn⟩
 ·refine wpAny_passesOwn hp (thn (T.item X rfl rfl rfl hc i pins s3 σ3 H3 X.xe I3 (stat fr3) st3 go) fun r s4 ⟨u,hr,h4⟩=>?_)
  subst hr;refine wpAny_passesOwn hp (thn h4 fun _ s5 ⟨x,H5,I5,r5,y5,st5,fr5⟩=>?_)
  have I5':=I5.pinned (stat fr5) (T.obj _ _ st5);refine wpAny_passesOwn hp (thn (hg _ s5 σ3 H5 x u _ I5' r5 (step x H5 y5)) fun _ s6 ⟨σ6,H6,I6,q6⟩=>?_)
  refine wpAny_passesOwn hp (thn (hb _ s6 σ6 H6 _ I6 q6) fun f s7 q7=>?_)
  have again:∀{σ7:St} {H7:Hp},Inv X (pins++QE fp s5.heap) σ7 H7 s7->N σ7 H7->∃m,m<n/\∃i σ' H',Inv X pins σ' H' s7/\tn i s7.heap/\(∀b∈fp,H' b=none)/\W i m σ' H':=fun {σ7 H7} I7 n7=>by
   obtain⟨m',hm,w7⟩:=hN σ7 H7 n7;refine⟨m',hm,i+1,σ7,H7,I7.unpinned,T.keep _ _ _ st5 fun b hb o e=>(I7.pin (b,o) (List.mem_append_right _ (List.mem_append_right _ (Qu hb e)))).1,fun b hb=>?_,w7⟩
   obtain⟨o,e,d⟩:=T.obj _ _ st5 b hb;exact(I7.pin (b,o) (List.mem_append_right _ (List.mem_append_right _ (Qu hb e)))).2.1
  cases f with
  | next=>obtain⟨σ7,H7,I7,n7⟩:=q7;exact again I7 n7
  | cont=>obtain⟨σ7,H7,I7,n7⟩:=q7;exact again I7 n7
  | brk=>obtain⟨σ7,H7,I7,q7⟩:=q7;exact⟨σ7,H7,I7.unpinned,q7⟩
  | ret v=>obtain⟨x7,σ7,H7,I7,r7,q7⟩:=q7;exact⟨x7,σ7,H7,I7.unpinned,r7,q7⟩
end
abbrev R2:=V->V->Hp->VK->Prop
def OpR(X:Cx)(f:Value->Value->Sem Value)(r:R2):Prop :=
 ∀(pins:qO) (s:Shared) (σ:St) (H:Hp) (x y:V) (v u:Value) (Q:VK),Inv X pins σ H s->RelV x v->RelV y u->r x y H Q ->
  wpAny (model X.prog X.w) X.A (f v u) (EP X pins σ Q) X.xe s
def UnR(X:Cx)(f:Value->Sem Value)(r:V->Hp->VK->Prop):Prop :=
 ∀(pins:qO) (s:Shared) (σ:St) (H:Hp) (x:V) (v:Value) (Q:VK),Inv X pins σ H s->RelV x v->r x H Q ->
  wpAny (model X.prog X.w) X.A (f v) (EP X pins σ Q) X.xe s
def JB(X:Cx)(f:Value)(r:List V->Hp->VK->Prop):Prop :=
 ∀(pins:qO) (s:Shared) (σ:St) (H:Hp) (xs:List V) (us:List Value) (Q:VK),Inv X pins σ H s->Vals xs us->r xs H Q ->
  wpAny (model X.prog X.w) X.A (call f us) (EP X pins σ Q) X.xe s
def TruR(X:Cx)(r:V->Hp->(Bool->Hp->Prop)->Prop):Prop :=
 ∀(pins:qO) (s:Shared) (σ:St) (H:Hp) (x:V) (v:Value) (Q:Bool->Hp->Prop),Inv X pins σ H s->RelV x v->r x H Q ->
  wpAny (model X.prog X.w) X.A (truthy v) (TP X pins σ Q) X.xe s
def tOp(r:R2)(ta tb:TE):TE:=fun σ H Q=>ta σ H fun x H1=>tb σ H1 fun y H2=>r x y H2 Q
def tUn(r:V->Hp->VK->Prop)(ta:TE):TE:=fun σ H Q=>ta σ H fun x H1=>r x H1 Q
def rI(C:Int->Int->Prop)(g:Int->Int->V):R2:=fun x y H Q=>∃i j,x=.int i/\y=.int j/\C i j/\Q (g i j) H
def rI0(g:Int->Int->V):R2:=fun x y H Q=>∃i j,x=.int i/\y=.int j/\Q (g i j) H
def rU(g:Int->V):V->Hp->VK->Prop:=fun x H Q=>∃i,x=.int i/\Q (g i) H
section
variable{X:Cx}{a b c:Expr}{ta tb tc:TE}{pos:Pos}
theorem binT(ha:PE X a ta)(hb:PE X b tb){pins:qO}{s:Shared}{σ:St}{H:Hp}{R:V->V->Hp->Prop}(I:Inv X pins σ H s)
  (h:ta σ H fun x H1=>tb σ H1 fun y H2=>R x y H2) {Q:qV} {f:Value->Value->Sem Value}
  (hf:∀v u s2 x y H2,Inv X pins σ H2 s2->RelV x v->RelV y u->R x y H2->wpAny (model X.prog X.w) X.A (f v u) Q X.xe s2) :
  wpAny (model X.prog X.w) X.A (eval a X.env) (fun v s₁=>wpAny (model X.prog X.w) X.A (eval b X.env) (fun u s₂=>wpAny (model X.prog X.w) X.A (f v u) Q X.xe s₂) X.xe s₁) X.xe s:=by
 refine thn (ha pins s σ H _ I h) fun v s1 ⟨x,H1,I1,r1,q1⟩=>?_
 refine thn (hb pins s1 σ H1 _ I1 q1) fun u s2 ⟨y,H2,I2,r2,q2⟩=>?_
 exact hf v u s2 x y H2 I2 r1 r2 q2
theorem Jp{op:Operator}{r:R2}(ho:OpR X (binaryOp op) r)(ha:PE X a ta)(hb:PE X b tb):PE X (.BinOp a op b pos) (tOp r ta tb):=by
 intro pins s σ H Q I h;exact wpAny_BinOp (binT ha hb I h fun v u s2 x y H2 I2 rx ry q=>ho pins s2 σ H2 x y v u Q I2 rx ry q)
theorem zmF{op:UnaryOp}{r:V->Hp->VK->Prop}(ho:UnR X (unaryOp op) r)(ha:PE X a ta):PE X (.UnaryOp op a pos) (tUn r ta):=by
 intro pins s σ H Q I h;exact UnaryOp_ (thn (ha pins s σ H _ I h) fun v s1 ⟨x,H1,I1,r1,q1⟩=>ho pins s1 σ H1 x v Q I1 r1 q1)
theorem opI{f:Value->Value->Sem Value}{C:Int->Int->Prop}{g:Int->Int->Int}
  (rule:∀(i j:Int) (t u:Tok) (s:Shared) (Q:qV) (E:qV),C i j->Q (.int (g i j) s.toks) { s with toks:=s.toks+1 }->wpAny (model X.prog X.w) X.A (f (.int i t) (.int j u)) Q E s) :
  OpR X f (rI C fun i j=>.int (g i j)):=by
 intro pins s σ H x y v u Q I rx ry h;obtain⟨i,j,rfl,rfl,hc,q⟩:=h;obtain⟨t,rfl⟩:=rx;obtain⟨t',rfl⟩:=ry;exact rule i j t t' s _ _ hc ⟨.int (g i j),H,I.tok _,⟨_,rfl⟩,q⟩
theorem opI0{f:Value->Value->Sem Value}{g:Int->Int->Int}
  (rule:∀(i j:Int) (t u:Tok) (s:Shared) (Q:qV) (E:qV),Q (.int (g i j) s.toks) { s with toks:=s.toks+1 }->wpAny (model X.prog X.w) X.A (f (.int i t) (.int j u)) Q E s) :
  OpR X f (rI0 fun i j=>.int (g i j)):=by
 intro pins s σ H x y v u Q I rx ry h;obtain⟨i,j,rfl,rfl,q⟩:=h;obtain⟨t,rfl⟩:=rx;obtain⟨t',rfl⟩:=ry;exact rule i j t t' s _ _ ⟨.int (g i j),H,I.tok _,⟨_,rfl⟩,q⟩
theorem opB0{f:Value->Value->Sem Value}{g:Int->Int->Bool}
  (rule:∀(i j:Int) (t u:Tok) (s:Shared) (Q:qV) (E:qV),Q (.bool (g i j)) s->wpAny (model X.prog X.w) X.A (f (.int i t) (.int j u)) Q E s) :
  OpR X f (rI0 fun i j=>.bl (g i j)):=by
 intro pins s σ H x y v u Q I rx ry h;obtain⟨i,j,rfl,rfl,q⟩:=h;obtain⟨t,rfl⟩:=rx;obtain⟨t',rfl⟩:=ry;exact rule i j t t' s _ _ ⟨.bl (g i j),H,I,rfl,q⟩
def CPow(i j:Int):Prop:=0<=j/\j<=1000000/\i.natAbs<2 ^ 64
def CMul(i j:Int):Prop:=(-(2 ^ 64)<i/\i<2 ^ 64)\/(-(2 ^ 64)<j/\j<2 ^ 64)
theorem CMul.ok{i j:Int}(h:CMul i j):IntMulOk i j:=by
 rcases h with⟨h1,h2⟩|⟨h1,h2⟩
 ·exact .of_left (intBits_le_64 h1 h2)
 ·exact .of_right (intBits_le_64 h1 h2)
theorem Qg:OpR X (binaryOp .Add) (rI0 fun i j=>.int (i+j)):=opI0 fun _ _ _ _ _ _ _ q=>add_int q
theorem zkm:OpR X (binaryOp .Sub) (rI0 fun i j=>.int (i - j)):=opI0 fun _ _ _ _ _ _ _ q=>sub_int q
theorem Qr:OpR X (binaryOp .Mult) (rI CMul fun i j=>.int (i*j)):=opI fun _ _ _ _ _ _ _ hc q=>mul_int q hc.ok
theorem QT:OpR X (binaryOp .Mod) (rI (fun _ j=>0<j) fun i j=>.int (i % j)):=opI fun i j _ _ _ _ _ hc q=>by
 have h1:(0:Int)<j:=hc;exact mod_int' (by lia) (by rw[Int.fmod_eq_emod_of_nonneg i (by lia)];exact q)
theorem zko:OpR X (binaryOp .Pow) (rI CPow fun i j=>.int (i ^ j.toNat)):=opI fun _ _ _ _ _ _ _ hc q=>pow_int_small hc.1 hc.2.1 hc.2.2 q
theorem zkn:OpR X (binaryOp .LShift) (rI CPow fun i j=>.int (i*2 ^ j.toNat)):=opI fun _ _ _ _ _ _ _ hc q=>lshift_int_small hc.1 hc.2.1 hc.2.2 q
theorem zkw:OpR X (binaryOp .BitAnd) (rI0 fun i j=>.int (Builtin.bitAnd i j)):=opI0 fun _ _ _ _ _ _ _ q=>and_int q
theorem unI{f:Value->Sem Value}{g:Int->Int}
  (rule:∀(i:Int) (t:Tok) (s:Shared) (Q:qV) (E:qV),Q (.int (g i) s.toks) { s with toks:=s.toks+1 }->wpAny (model X.prog X.w) X.A (f (.int i t)) Q E s) :
  UnR X f (rU fun i=>.int (g i)):=by
 intro pins s σ H x v Q I rx h;obtain⟨i,rfl,q⟩:=h;obtain⟨t,rfl⟩:=rx;exact rule i t s _ _ ⟨.int (g i),H,I.tok _,⟨_,rfl⟩,q⟩
theorem zjI:UnR X (unaryOp .USub) (rU fun i=>.int (-i)):=unI fun _ _ _ _ _ q=>neg_int q
end
def scal:V->V->Bool
 | .non,.non=>true|.non,.int _=>true|.int _,.non=>true|.non,.bl _=>true|.bl _,.non=>true|.non,.str _=>true|.str _,.non=>true
 | .int _,.int _=>true|.bl _,.bl _=>true|.str _,.str _=>true|.byt _,.byt _=>true
 | .int _,.str _=>true|.str _,.int _=>true|.bl _,.str _=>true|.str _,.bl _=>true
 | _,_=>false
def rEq:R2:=fun x y H Q=>scal x y=true/\Q (.bl (decide (x=y))) H
def rNe:R2:=fun x y H Q=>scal x y=true/\Q (.bl (!decide (x=y))) H
theorem zgQ{i j:Int}:decide (V.int i=V.int j)=(i == j):=by
 rw[Bool.eq_iff_iff];simp
theorem zit{i j:Bool}:decide (V.bl i=V.bl j)=(i == j):=by
 rw[Bool.eq_iff_iff];simp
theorem zgP{i j:Str}:decide (V.str i=V.str j)=(i == j):=by
 rw[Bool.eq_iff_iff];simp
theorem zgR{i j:Array UInt8}:decide (V.byt i=V.byt j)=(i.toList == j.toList):=by
 rw[Bool.eq_iff_iff];cases i;cases j;simp
section
variable{X:Cx}{a b c:Expr}{ta tb tc:TE}{pos:Pos}
theorem Jj{pins:qO}{σ:St}{H:Hp}{s:Shared}{Q:VK}{k k':Bool}(I:Inv X pins σ H s)(q:Q (.bl k) H)(e:k=k'):EP X pins σ Q (.bool k') s:=by
 subst e;exact⟨.bl k,H,I,rfl,q⟩
theorem zmN:OpR X (compareOp .Eq) rEq:=by
 intro pins s σ H x y v u Q I rx ry h;obtain⟨hs,q⟩:=h;cases x with
 | non =>
  cases rx;cases y with
  | non=>cases ry;exact PySem.EqNone.eq_none_none (Jj I q (by simp))
  | bl j=>cases ry;exact PySem.EqNone.eq_none_bool (Jj I q (by simp))
  | int j=>obtain⟨t',rfl⟩:=ry;exact PySem.EqNone.eq_none_int (Jj I q (by simp))
  | str j=>obtain⟨t',rfl⟩:=ry;exact PySem.EqNone.eq_none_str (Jj I q (by simp))
  | _=>exact absurd (show false=true from hs) Bool.false_ne_true
 | bl i =>
  cases rx;cases y with
  | non=>cases ry;exact PySem.EqNone.eq_bool_none (Jj I q (by simp))
  | bl j=>cases ry;exact eq_bool (Jj I q zit)
  | str j=>obtain⟨t',rfl⟩:=ry;exact PySem.EqMixed.eq_bool_str (Jj I q (by simp))
  | _=>exact absurd (show false=true from hs) Bool.false_ne_true
 | int i =>
  obtain⟨t,rfl⟩:=rx;cases y with
  | non=>cases ry;exact PySem.EqNone.eq_int_none (Jj I q (by simp))
  | int j=>obtain⟨t',rfl⟩:=ry;exact eq_int (Jj I q zgQ)
  | str j=>obtain⟨t',rfl⟩:=ry;exact PySem.EqMixed.eq_int_str (Jj I q (by simp))
  | _=>exact absurd (show false=true from hs) Bool.false_ne_true
 | str i =>
  obtain⟨t,rfl⟩:=rx;cases y with
  | non=>cases ry;exact PySem.EqNone.eq_str_none (Jj I q (by simp))
  | bl j=>cases ry;exact PySem.EqMixed.eq_str_bool (Jj I q (by simp))
  | int j=>obtain⟨t',rfl⟩:=ry;exact PySem.EqMixed.eq_str_int (Jj I q (by simp))
  | str j=>obtain⟨t',rfl⟩:=ry;exact eq_str (Jj I q zgP)
  | _=>exact absurd (show false=true from hs) Bool.false_ne_true
 | byt i =>
  obtain⟨t,rfl⟩:=rx;cases y with
  | byt j=>obtain⟨t',rfl⟩:=ry;exact PySem.W.eq_bytes (Jj I q zgR)
  | _=>exact absurd (show false=true from hs) Bool.false_ne_true
 | _=>cases y <;> exact absurd (show false=true from hs) Bool.false_ne_true
theorem zmK:OpR X (compareOp .NotEq) rNe:=by
 intro pins s σ H x y v u Q I rx ry h;obtain⟨hs,q⟩:=h;cases x with
 | non =>
  cases rx;cases y with
  | non=>cases ry;exact PySem.EqNone.ne_none_none (Jj I q (by simp))
  | bl j=>cases ry;exact PySem.EqNone.ne_none_bool (Jj I q (by simp))
  | int j=>obtain⟨t',rfl⟩:=ry;exact PySem.EqNone.ne_none_int (Jj I q (by simp))
  | str j=>obtain⟨t',rfl⟩:=ry;exact PySem.EqNone.ne_none_str (Jj I q (by simp))
  | _=>exact absurd (show false=true from hs) Bool.false_ne_true
 | bl i =>
  cases rx;cases y with
  | non=>cases ry;exact PySem.EqNone.ne_bool_none (Jj I q (by simp))
  | bl j=>cases ry;exact ne_bool (Jj I q (congrArg not zit))
  | str j=>obtain⟨t',rfl⟩:=ry;exact PySem.EqMixed.ne_bool_str (Jj I q (by simp))
  | _=>exact absurd (show false=true from hs) Bool.false_ne_true
 | int i =>
  obtain⟨t,rfl⟩:=rx;cases y with
  | non=>cases ry;exact PySem.EqNone.ne_int_none (Jj I q (by simp))
  | int j=>obtain⟨t',rfl⟩:=ry;exact ne_int (Jj I q (congrArg not zgQ))
  | str j=>obtain⟨t',rfl⟩:=ry;exact PySem.EqMixed.ne_int_str (Jj I q (by simp))
  | _=>exact absurd (show false=true from hs) Bool.false_ne_true
 | str i =>
  obtain⟨t,rfl⟩:=rx;cases y with
  | non=>cases ry;exact PySem.EqNone.ne_str_none (Jj I q (by simp))
  | bl j=>cases ry;exact PySem.EqMixed.ne_str_bool (Jj I q (by simp))
  | int j=>obtain⟨t',rfl⟩:=ry;exact PySem.EqMixed.ne_str_int (Jj I q (by simp))
  | str j=>obtain⟨t',rfl⟩:=ry;exact ne_str (Jj I q (congrArg not zgP))
  | _=>exact absurd (show false=true from hs) Bool.false_ne_true
 | byt i =>
  obtain⟨t,rfl⟩:=rx;cases y with
  | byt j=>obtain⟨t',rfl⟩:=ry;exact PySem.W.ne_bytes (Jj I q (congrArg not zgR))
  | _=>exact absurd (show false=true from hs) Bool.false_ne_true
 | _=>cases y <;> exact absurd (show false=true from hs) Bool.false_ne_true
theorem zks:OpR X (compareOp .Lt) (rI0 fun i j=>.bl (decide (i<j))):=opB0 fun _ _ _ _ _ _ _ q=>lt_int q
theorem zmL:OpR X (compareOp .LtE) (rI0 fun i j=>.bl (decide (i<=j))):=opB0 fun _ _ _ _ _ _ _ q=>le_int q
theorem zku:OpR X (compareOp .Gt) (rI0 fun i j=>.bl (decide (j<i))):=opB0 fun _ _ _ _ _ _ _ q=>gt_int q
theorem zmM:OpR X (compareOp .GtE) (rI0 fun i j=>.bl (decide (j<=i))):=opB0 fun _ _ _ _ _ _ _ q=>ge_int q
theorem zf3:OpR X (compareOp .Lt) (fun x y H Q=>∃i j,x=.str i/\y=.str j/\Q (.bl (decide (i.cps.toList<j.cps.toList))) H):=by
 intro pins s σ H x y v u Q I rx ry h;obtain⟨i,j,rfl,rfl,q⟩:=h;obtain⟨t,rfl⟩:=rx;obtain⟨t',rfl⟩:=ry;exact lt_str (Jj I q rfl)
theorem OpR.or{f:Value->Value->Sem Value}{r r':R2}(h:OpR X f r)(h':OpR X f r'):OpR X f (fun x y H Q=>r x y H Q\/r' x y H Q):=by
 intro pins s σ H x y v u Q I rx ry q;rcases q with q|q
 ·exact h pins s σ H x y v u Q I rx ry q
 ·exact h' pins s σ H x y v u Q I rx ry q
theorem JN(b:Expr){op:CmpOp}(h:op≠.In:=by decide)(h2:op≠.NotIn:=by decide):behindInMarks op b=false:=by
 have e1:(op == CmpOp.In)=false:=by cases op <;> first|rfl|exact absurd rfl h
 have e2:(op == CmpOp.NotIn)=false:=by cases op <;> first|rfl|exact absurd rfl h2
 cases b <;> simp[behindInMarks,e1,e2]
theorem zf0{op:CmpOp}{r:R2}(ho:OpR X (compareOp op) r)(ha:PE X a ta)(hb:PE X b tb)(hm:behindInMarks op b=false):PE X (.Compare a [op] [b] pos) (tOp r ta tb):=by
 intro pins s σ H Q I h;exact wpAny_Compare1 (binT ha hb I h fun v u s2 x y H2 I2 rx ry q=>ho pins s2 σ H2 x y v u Q I2 rx ry q) hm
def zmj(t:TE):TT:=fun σ H Q=>t σ H fun x H'=>∃k,x=.bl k/\Q k H'
theorem zd5{op:CmpOp}{r:R2}(ho:OpR X (compareOp op) r)(ha:PE X a ta)(hb:PE X b tb)(hm:behindInMarks op b=false):PT X (.Compare a [op] [b] pos) (zmj (tOp r ta tb)):=by
 intro pins s σ H Q I h;refine wpAny_isTrue_Compare1 (thn (ha pins s σ H _ I h) fun v s1 ⟨x,H1,I1,r1,q1⟩=>thn (hb pins s1 σ H1 _ I1 q1) fun u s2 ⟨y,H2,I2,r2,q2⟩ =>
  thn (ho pins s2 σ H2 x y v u _ I2 r1 r2 q2) fun c s3 ⟨z,H3,I3,r3,k,e,q3⟩=>?_) hm
 subst e;cases r3;exact wpAny_truthy_bool ⟨H3,I3,q3⟩
def TruV(K:qF)(x:V)(H:Hp)(k:Bool):Prop :=
 match x with
 | .non=>k=false
 | .bl b=>k=b
 | .int i=>k=(i != 0)
 | .str y=>y.length<=sizeLine/\k=((y.length:Int) != 0)
 | .byt y=>y.size<=sizeLine/\k=((y.size:Int) != 0)
 | .ref p=>(∃xs,SqL K H p xs/\k=!xs.isEmpty)\/(∃xs,SqT K H p xs/\k=!xs.isEmpty)\/∃kvs,H p=some (.dK kvs)/\k=!kvs.isEmpty
 | _=>False
theorem zfr{κ:Type}{kvs:List (κ×V)}{vs:List (κ×Value)}(r:KV kvs vs):(!vs.isEmpty)=!kvs.isEmpty:=by
 cases r <;> rfl
theorem zcT{xs:List V}{its:List Value}(r:Vals xs its):(!its.toArray.isEmpty)=!xs.isEmpty:=by
 cases r <;> simp
theorem QC:(sizeLine:Nat)<2 ^ 63:=by rw[sizeLine_eq];decide
theorem zjN:TruR X (fun x H Q=>∃k,TruV X.K x H k/\Q k H):=by
 intro pins s σ H x v Q I rx h;obtain⟨k,e,q⟩:=h;have hl:=QC;have hs:sizeLine=16777216:=sizeLine_eq;cases x with
 | non =>
  cases rx;have e':k=false:=e;subst e';exact truthy_none ⟨H,I,q⟩
 | bl b =>
  cases rx;have e':k=b:=e;subst e';exact wpAny_truthy_bool ⟨H,I,q⟩
 | int i =>
  obtain⟨t,rfl⟩:=rx;have e':k=(i != 0):=e;subst e';exact PySem.P.truthy_int ⟨H,I,q⟩
 | str y =>
  obtain⟨t,rfl⟩:=rx;obtain⟨hy,e'⟩:y.length<=sizeLine/\k=((y.length:Int) != 0):=e;subst e';exact PySem.P.truthy_str (by lia) ⟨H,I.tok _,q⟩
 | byt y =>
  obtain⟨t,rfl⟩:=rx;obtain⟨hy,e'⟩:y.size<=sizeLine/\k=((y.size:Int) != 0):=e;subst e';exact PySem.W.truthy_bytes (by lia) ⟨H,I.tok _,q⟩
 | ref p =>
  cases rx;have e':(∃xs,SqL X.K H p xs/\k=!xs.isEmpty)\/(∃xs,SqT X.K H p xs/\k=!xs.isEmpty)\/∃kvs,H p=some (.dK kvs)/\k=!kvs.isEmpty:=e;rcases e' with⟨xs,hx,e'⟩|⟨xs,hx,e'⟩|⟨kvs,hx,e'⟩
  ·subst e';obtain⟨its,r,pl,hz⟩:=I.list hx;have hlen:=r.length;exact wpAny_truthy_list pl.isList (by simp only[List.size_toArray];lia) ⟨H,I.tok _,by rw[zcT r];exact q⟩
  ·subst e';obtain⟨its,r,pl,hz⟩:=I.tuple hx;have hlen:=r.length;exact truthy_tuple pl (by simp only[List.size_toArray];lia) ⟨H,I.tok _,by rw[zcT r];exact q⟩
  ·subst e';obtain⟨hz,hS,vs,r,m⟩:kvs.length<=sizeLine/\(p == sysModules)=false/\∃vs,KV kvs vs/\s.heap.DictOf (JA X.prog X.w) p vs:=I.hok p _ hx;have hlen:kvs.length=vs.length:=Paired.length r;exact wpAny_truthy_dict hS m (by lia) ⟨H,I.tok _,by rw[zfr r];exact q⟩
 | _=>exact(show False from e).elim
theorem zho(ha:PE X a ta)(he:∀whole,isTrue a X.env whole=(do let v <- whole;standAt a.pos;holding [v] (truthy v))) :
  PT X a (fun σ H Q=>ta σ H fun x H'=>∃k,TruV X.K x H' k/\Q k H'):=by
 intro pins s σ H Q I h;exact isTrue_plain (thn (ha pins s σ H _ I h) fun v s1 ⟨x,H1,I1,r1,q1⟩=>zjN pins s1 σ H1 x v Q I1 r1 q1) (he _)
theorem zfg:OpR X (binaryOp .Add) (fun x y H Q=>∃i j,x=.str i/\y=.str j/\i.length+j.length<=sizeLine/\Q (.str (i++j)) H):=by
 intro pins s σ H x y v u Q I rx ry h;obtain⟨i,j,rfl,rfl,hz,q⟩:=h;obtain⟨t,rfl⟩:=rx;obtain⟨t',rfl⟩:=ry;exact add_str (fun t' tk=>⟨.str (i++j),H,I.tok _,⟨_,rfl⟩,q⟩) hz
theorem vals1{x:V}{us:List Value}(r:Vals [x] us):∃u,us=[u]/\RelV x u:=by
 cases r with
 | cons r1 r2=>cases r2;exact⟨_,rfl,r1⟩
theorem vals2{x y:V}{us:List Value}(r:Vals [x,y] us):∃u w',us=[u,w']/\RelV x u/\RelV y w':=by
 cases r with
 | cons r1 r2 =>
  cases r2 with
  | cons r3 r4=>cases r4;exact⟨_,_,rfl,r1,r3⟩
theorem zdP(hc:X.calm=true):JB X (.builtin "max") (fun xs H Q=>∃i j,xs=[.int i,.int j]/\Q (.int (if j > i then j else i)) H):=by
 intro pins s σ H xs us Q I r h;obtain⟨i,j,rfl,q⟩:=h;obtain⟨u,w',rfl,⟨t,rfl⟩,⟨t',rfl⟩⟩:=vals2 r;refine max_two_ints (I.ok.hd hc) fun h' tk k=>⟨_,H,I.kept k,?_,q⟩
 by_cases hj:j > i
 ·rw[if_pos hj,if_pos hj];exact⟨_,rfl⟩
 ·rw[if_neg hj,if_neg hj];exact⟨_,rfl⟩
theorem zdO(hc:X.calm=true):JB X (.builtin "min") (fun xs H Q=>∃i j,xs=[.int i,.int j]/\Q (.int (if j<i then j else i)) H):=by
 intro pins s σ H xs us Q I r h;obtain⟨i,j,rfl,q⟩:=h;obtain⟨u,w',rfl,⟨t,rfl⟩,⟨t',rfl⟩⟩:=vals2 r;refine min_two_ints (I.ok.hd hc) fun h' tk k=>⟨_,H,I.kept k,?_,q⟩
 by_cases hj:j<i
 ·rw[if_pos hj,if_pos hj];exact⟨_,rfl⟩
 ·rw[if_neg hj,if_neg hj];exact⟨_,rfl⟩
theorem zg4:JB X (.type "int") (fun xs H Q=>(∃i,xs=[.int i]/\Q (.int i) H)\/∃k,xs=[.bl k]/\Q (.int (if k then 1 else 0)) H):=by
 intro pins s σ H xs us Q I r h;rcases h with⟨i,rfl,q⟩|⟨k,rfl,q⟩
 ·obtain⟨u,rfl,t,rfl⟩:=vals1 r;exact call_int_int ⟨.int i,H,I,⟨_,rfl⟩,q⟩
 ·obtain⟨u,rfl,r1⟩:=vals1 r;cases r1;exact call_int_bool ⟨.int (if k then 1 else 0),H,I.tok _,⟨_,rfl⟩,q⟩
def LenV(K:qF)(x:V)(H:Hp)(n:Nat):Prop :=
 match x with
 | .str y=>y.length<=sizeLine/\n=y.length
 | .byt y=>y.size<=sizeLine/\n=y.size
 | .ref p=>(∃xs,SqL K H p xs/\n=xs.length)\/∃xs,SqT K H p xs/\n=xs.length
 | _=>False
theorem UW:JB X (.builtin "len") (fun xs H Q=>∃x n,xs=[x]/\LenV X.K x H n/\Q (.int n) H):=by
 intro pins s σ H xs us Q I r h;obtain⟨x,n,rfl,e,q⟩:=h;obtain⟨u,rfl,rx⟩:=vals1 r;have hl:=QC;have hs:sizeLine=16777216:=sizeLine_eq;cases x with
 | str y =>
  obtain⟨t,rfl⟩:=rx;obtain⟨hy,e'⟩:y.length<=sizeLine/\n=y.length:=e;subst e';exact len_str (by lia) ⟨.int _,H,I.tok _,⟨_,rfl⟩,q⟩
 | byt y =>
  obtain⟨t,rfl⟩:=rx;obtain⟨hy,e'⟩:y.size<=sizeLine/\n=y.size:=e;subst e';exact PySem.W.len_bytes (by lia) ⟨.int _,H,I.tok _,⟨_,rfl⟩,q⟩
 | ref p =>
  cases rx;have e':(∃xs,SqL X.K H p xs/\n=xs.length)\/∃xs,SqT X.K H p xs/\n=xs.length:=e;rcases e' with⟨xs,hx,e'⟩|⟨xs,hx,e'⟩
  ·subst e';obtain⟨its,r',pl,hz⟩:=I.list hx;have hlen:=r'.length;exact Calls.call_len_list pl.isList (by simp only[List.size_toArray];lia) ⟨.int xs.length,H,I.tok _,⟨_,by simp only[List.size_toArray];rw[hlen]⟩,q⟩
  ·subst e';obtain⟨its,r',pl,hz⟩:=I.tuple hx;have hlen:=r'.length;exact len_tuple pl (by simp only[List.size_toArray];lia) ⟨.int xs.length,H,I.tok _,⟨_,by simp only[List.size_toArray];rw[hlen]⟩,q⟩
 | _=>exact(show False from e).elim
end
structure Room(k:Nat)(A:Around):Prop where
 hd:A.handled=none
 dp:A.depth+3*k+5<recursionLimit
 un:A.units+16*k+200<cLine
 gd:A.guards=some []
theorem Room.mono{j k:Nat}{A:Around}(r:Room k A)(h:j<=k):Room j A:=⟨r.hd,by have:=r.dp;lia,by have:=r.un;lia,r.gd⟩
theorem Room.deeper{k:Nat}{A:Around}(r:Room (k+1) A)(env:Env):Room k (A.deeper env) :=
 ⟨r.hd,by have:=r.dp;show A.depth+1+3*k+5<_;lia,by have:=r.un;show A.units+3+16*k+200<_;lia,r.gd⟩
theorem Room.depth{k:Nat}{A:Around}(r:Room k A):A.depth<recursionLimit:=by have:=r.dp;lia
theorem Room.units0{k:Nat}{A:Around}(r:Room k A):A.units<cLine:=by have:=r.un;lia
def tNil:TA:=fun _ H Q=>Q [] H
def J6(ta:TE)(tr:TA):TA:=fun σ H Q=>ta σ H fun x H1=>tr σ H1 fun xs H2=>Q (x::xs) H2
section
variable{X:Cx}{e:Expr}{es:List Expr}{te:TE}{t:TA}{pos:Pos}
theorem QU:PA X [] tNil:=fun _ _ _ _ H Q I h=>Calls.spliced_nil ⟨[],H,I,.nil,h⟩
theorem Qc(ha:PE X e te)(hr:PA X es t)(hs:starEach (e::es) X.env=(false,eval e X.env)::starEach es X.env:=by rfl):PA X (e::es) (J6 te t):=by
 intro pos pins s σ H Q I h;rw[hs];show wpAny _ _ (spliced ((false,eval e X.env)::backTo pos (starEach es X.env))) _ _ s
 refine Calls.spliced_cons (thn (ha pins s σ H _ I h) fun u s1 ⟨x,H1,I1,r1,q1⟩=>?_)
 exact thn (hr pos pins s1 σ H1 _ I1 q1) fun us s2 ⟨xs,H2,I2,r2,q2⟩=>⟨x::xs,H2,I2,.cons r1 r2,q2⟩
def tTup(t:TA):TE:=fun σ H Q=>t σ H fun xs H1=>xs.length<=sizeLine/\∀p,H1 p=none->Q (.ref p) (upd H1 p (.tup xs))
def tLst(t:TA):TE:=fun σ H Q=>t σ H fun xs H1=>xs.length<=sizeLine/\∀p,H1 p=none->Q (.ref p) (upd H1 p (.lst xs))
theorem zkc{x1}(h:PA X es t):PE X (.Tuple es x1 pos) (tTup t):=by
 intro pins s σ H Q I hq;refine wpAny_Tuple_spliced (thn (h pos pins s σ H _ I hq) fun us s1 ⟨xs,H1,I1,r,z,q⟩=>⟨by rw[<- r.length];exact z,?_⟩)
 have hf:H1 s1.heap.objs.size=none:=I1.hok.fresh (Nat.le_refl _);refine⟨.ref s1.heap.objs.size,upd H1 s1.heap.objs.size (.tup xs),I1.laid (t':=s1.toks) (fun b u e=>Heap.get?_push_of_some _ e) (Nat.le_refl _) ?_,rfl,q _ hf⟩
 exact⟨z,us,r,⟨_,Heap.get?_push_size _ rfl,rfl,⟨_,rfl⟩,rfl⟩⟩
theorem zke(h:PA X es t):PE X (.List es pos) (tLst t):=by
 intro pins s σ H Q I hq;refine wpAny_List_spliced (thn (h pos pins s σ H _ I hq) fun us s1 ⟨xs,H1,I1,r,z,q⟩=>⟨by rw[<- r.length];exact z,?_⟩)
 have hf:H1 s1.heap.objs.size=none:=I1.hok.fresh (Nat.le_refl _);refine⟨.ref s1.heap.objs.size,upd H1 s1.heap.objs.size (.lst xs),I1.laid (t':=s1.toks) (fun b u e=>Heap.get?_push_of_some _ e) (Nat.le_refl _) ?_,rfl,q _ hf⟩
 exact⟨z,us,0,r,Heap.get?_push_size _ rfl⟩
end
abbrev Sp:=List V->Hp->VK->XK->Prop
abbrev CXT:=List Env->Hp->Shared->XK->Value->Shared->Prop
structure Env0(P:Program)(w:World)(K:qF)(mg:qM)(base:Heap)(A:Around)(outer:List Env)(s:Shared)(H:Hp):Prop where
 frames:A.frames=some outer
 mod:Mod K mg base
 bs:∀b o,base.get? b=some o->s.heap.get? b=some o/\H b=none
 bsz:base.objs.size<=s.heap.objs.size
 funs:s.heap.FunFrames base outer
 frf:∀b∈frs outer,H b=none
 hok:HOk P w H s.heap
 bare:AllBare s.gens
def CE(outer:List Env)(P:Program)(w:World)(H:Hp)(s:Shared)(Q:VK)(u:Value)(s':Shared):Prop :=
 ∃v H',s'.os=s.os/\AllBare s'.gens/\Un (frs outer) [] H H' s.heap s'.heap/\HOk P w H' s'.heap/\RelV v u/\Q v H'
def CR(CX:CXT)(outer:List Env)(P:Program)(w:World)(H:Hp)(s:Shared)(Q:VK)(E:XK)(r:Result)(s':Shared):Prop :=
 match r with
 | .ok (.ret u)=>CE outer P w H s Q u s'
 | .ok _=>False
 | .error e=>CX outer H s E e s'
structure FnOk(P:Program)(w:World)(K:qF)(mg:qM)(base:Heap)(CX:CXT)(k:Nat)(f:Addr)(fd:FuncData)(ps:List Str)(sp:Sp):Prop where
 len:∀vs H Q E,sp vs H Q E->vs.length=ps.length
 run:∀(A:Around) (outer:List Env) (s:Shared) (H:Hp) (args:Args) (us:List Value) (vs:List V) (Q:VK) (E:XK),Room k A->Env0 P w K mg base A outer s H->BindsTo s fd args (ps.zip us)->Vals vs us->sp vs H Q E ->
  codeAny (model P w) A (.call (.ref f) args) (CR CX outer P w H s Q E) s
theorem FnOk.imp{P:Program}{w:World}{K:qF}{mg:qM}{base:Heap}{CX:CXT}{k:Nat}{f:Addr}{fd:FuncData}{ps:List Str}{sp sp':Sp}(F:FnOk P w K mg base CX k f fd ps sp)
  (h:∀vs H Q E,sp' vs H Q E->sp vs H Q E):FnOk P w K mg base CX k f fd ps sp' :=
 ⟨fun vs H Q E q=>F.len vs H Q E (h _ _ _ _ q),fun A outer s H args us vs Q E hr he hb hv hs=>F.run A outer s H args us vs Q E hr he hb hv (h _ _ _ _ hs)⟩
section
variable{X:Cx}{pins:qO}{σ:St}{H:Hp}{s s':Shared}
theorem Inv.env0(I:Inv X pins σ H s):Env0 X.prog X.w X.K X.mg X.base X.A X.stack s H :=
 ⟨I.ok.frames,I.ok.mod,I.bs,Nat.le_trans I.ok.bsz I.sz,I.stack,I.stkFree,I.hok,I.bare⟩
theorem Inv.after{Q:VK}{u:Value}(I:Inv X pins σ H s)(h:CE X.stack X.prog X.w H s Q u s'):EP X pins σ Q u s':=by
 obtain⟨v,H',os,bare,un,hok,r,q⟩:=h;obtain⟨hh,g,d,t,os'⟩:=s';obtain rfl:os'=s.os:=os;exact⟨v,H',I.call (h':=hh) (g':=g) (d':=d) (t':=t) (ch:=[]) un hok bare (fun b z=>absurd z (by simp)),r,q⟩
end
def zjR(sp:Sp)(dvs:List V)(E:XK)(t:TA):TE:=fun σ H Q=>t σ H fun vs H1=>sp (vs++dvs) H1 Q E
def Binds(K:qF)(fd:FuncData)(ps:List Str)(ds:List Value):Prop :=
 ∀(s:Shared) (us:List Value),K.In s.heap->(us++ds).length=ps.length->BindsTo s fd ⟨us,[]⟩ (ps.zip (us++ds))
theorem Binds.all{K:qF}{fd:FuncData}{ps:List Str}(h:∀us:List Value,us.length=ps.length->bindArgs fd ⟨us,[]⟩=pure (ps.zip us)):Binds K fd ps []:=fun s us _ hl=>by
 rw[List.append_nil]at hl ⊢;exact .of_eq (h us hl)
def zhb(CX:CXT)(X:Cx)(E:XK):Prop:=∀(pins:qO) (σ:St) (H:Hp) (s:Shared) (e:Value) (s':Shared),Inv X pins σ H s->CX X.stack H s E e s'->X.xe e s'
section
variable{X:Cx}{CX:CXT}{k:Nat}{f C:Addr}{fd:FuncData}{ps:List Str}{sp:Sp}{dvs:List V}{ds:List Value}{E:XK}{x m:Str}{p pos apos:Pos}{e o:Expr}{es:List Expr}{ta:TE}{t:TA}
theorem zj2{pins:qO}{σ:St}{H:Hp}{s:Shared}{Q:VK}{us:List Value}{vs:List V}(F:FnOk X.prog X.w X.K X.mg X.base CX k f fd ps sp)(hr:Room k X.A)(hb:Binds X.K fd ps ds)(hd:Vals dvs ds)(hx:zhb CX X E)
  (I:Inv X pins σ H s) (r:Vals vs us) (h:sp (vs++dvs) H Q E):wpAny (model X.prog X.w) X.A (call (.ref f) us) (EP X pins σ Q) X.xe s:=by
 have r2:Vals (vs++dvs) (us++ds):=r.append hd;have hl:(us++ds).length=ps.length:=by rw[<- r2.length];exact F.len _ _ _ _ h
 refine wpAny_call (codeAny_mono (F.run X.A X.stack s H ⟨us,[]⟩ (us++ds) (vs++dvs) Q E hr I.env0 (hb s us I.kIn hl) r2 h) fun r s' hq=>?_)
 cases r with
 | error e=>exact hx pins σ H s e s' I hq
 | ok fl =>
  cases fl with
  | ret u=>exact I.after hq
  | next=>exact False.elim hq
  | brk=>exact False.elim hq
  | cont=>exact False.elim hq
theorem ziV(F:FnOk X.prog X.w X.K X.mg X.base CX k f fd ps sp)(hr:Room k X.A)(hg:Gl X x)(hm:X.mg x=some (.ref f))(hk:PySem.W.keepIn X.K (.ref f)=true)(hb:Binds X.K fd ps ds)(hd:Vals dvs ds)(hx:zhb CX X E)
  (ha:PA X (e::es) t) (hdb:(x == ("__debug__":Str))=false:=by decide) (he:starEach (e::es) X.env=(false,eval e X.env)::starEach es X.env:=by rfl) (hpl:(backTo pos (starEach es X.env)).any (·.1)=false:=by rfl) :
  PE X (.Call (.Name x p) (e::es) [] pos) (zjR sp dvs E t):=by
 intro pins s σ H Q I h;refine wpAny_Call_Name_kw (zi6 I hg hm ?_ hdb);refine PySem.W.callWith_K (h₀:=X.base) I.ok.mod.kin hk (thn (ha pos pins s σ H _ I h) fun us s1 ⟨vs,H1,I1,r,q⟩=>⟨I1.kIn,?_⟩) he hpl
 exact zj2 F hr hb hd hx I1 r q
end
structure FnScope(N P:List Str)(sc:Scope):Prop where
 kind:sc.kind=.function
 co:sc.isCoroutine=false
 gen:sc.isGenerator=false
 nd:N.Nodup
 pre:N.take P.length=P
 par:∀x∈P,sc.names.lookup x=some .local\/sc.names.lookup x=some .cell
 nofree:∀y∈sc.names,y.2≠.free
theorem zdY{kindOf:Str->Option NameKind}{x:Str}:∀{binds:List (Str×Value)}{m:qM},(∀v,(x,v)∉binds)->bindL kindOf binds m x=m x
 | [],_,_=>rfl
 | (n,v)::r,m,h=>by
  unfold bindL;rw[zdY fun w hw=>h w (List.mem_cons_of_mem _ hw)]
  split
  ·have:x≠n:=by rintro rfl;exact h v List.mem_cons_self
   simp[this]
  ·rfl
theorem zd0{kindOf:Str->Option NameKind}{x:Str}:∀{binds:List (Str×Value)}{m:qM},(∀v,(x,v)∉binds)->bindC kindOf binds m x=m x
 | [],_,_=>rfl
 | (n,v)::r,m,h=>by
  unfold bindC;rw[zd0 fun w hw=>h w (List.mem_cons_of_mem _ hw)]
  split
  ·rfl
  ·have:x≠n:=by rintro rfl;exact h v List.mem_cons_self
   simp[this]
theorem zdZ{kindOf:Str->Option NameKind}{x:Str}{v:Value}:∀{P:List Str}{vs:List Value}{i:Nat}{m:qM},P.Nodup->P[i]?=some x->vs[i]?=some v->kindOf x=some .local ->
  bindL kindOf (P.zip vs) m x=some v
 | [],_,_,_,_,h,_,_=>by simp at h
 | _::_,[],_,_,_,_,h,_=>by simp at h
 | p::P,w::vs,0,m,nd,h1,h2,hk=>by
  simp at h1 h2;subst h1;subst h2;show bindL kindOf ((p,w)::P.zip vs) m p=_
  unfold bindL;rw[zdY fun v hv=>(List.nodup_cons.mp nd).1 (List.of_mem_zip hv).1,if_pos hk]
  simp
 | p::P,w::vs,i+1,m,nd,h1,h2,hk=>by
  show bindL kindOf ((p,w)::P.zip vs) m x=_
  unfold bindL;exact zdZ (i:=i) (List.nodup_cons.mp nd).2 (by simpa using h1) (by simpa using h2) hk
theorem zd1{kindOf:Str->Option NameKind}{x:Str}{v:Value}:∀{P:List Str}{vs:List Value}{i:Nat}{m:qM},P.Nodup->P[i]?=some x->vs[i]?=some v->kindOf x≠some .local ->
  bindC kindOf (P.zip vs) m x=some v
 | [],_,_,_,_,h,_,_=>by simp at h
 | _::_,[],_,_,_,_,h,_=>by simp at h
 | p::P,w::vs,0,m,nd,h1,h2,hk=>by
  simp at h1 h2;subst h1;subst h2;show bindC kindOf ((p,w)::P.zip vs) m p=_
  unfold bindC;rw[zd0 fun v hv=>(List.nodup_cons.mp nd).1 (List.of_mem_zip hv).1,if_neg hk]
  simp
 | p::P,w::vs,i+1,m,nd,h1,h2,hk=>by
  show bindC kindOf ((p,w)::P.zip vs) m x=_
  unfold bindC;exact zd1 (i:=i) (List.nodup_cons.mp nd).2 (by simpa using h1) (by simpa using h2) hk
def start(N:List Str)(vs:List V):St:=vs.map some++List.replicate (N.length - vs.length) none
def cxOf(CX:CXT)(P:Program)(w:World)(K:qF)(mg:qM)(base:Heap)(N:List Str)(qual:Str)(scope:Scope)(f:Addr)(cd:Value)(A:Around)(outer:List Env)(s:Shared)(H:Hp)(E:XK):Cx where
 prog:=P
 w:=w
 K:=K
 mg:=mg
 base:=base
 A:=A.deeper (envOfC qual scope s.heap.objs.size f cd)
 N:=N
 s₀:=s
 H₀:=H
 env:=envOfC qual scope s.heap.objs.size f cd
 outer:=outer
 stack:=envOfC qual scope s.heap.objs.size f cd::outer
 ex:=[]
 calm:=true
 fn:=fun _=>true
 pn:=[]
 xe:=fun e s'=>wpAny (model P w) (A.deeper (envOfC qual scope s.heap.objs.size f cd)) (leaving (envOfC qual scope s.heap.objs.size f cd) e) (fun _ s''=>CX outer H s E e s'') (fun e' s''=>CX outer H s E e' s'') s'
theorem ze3{sc:Scope}{n:Nat}{x:Str}(h:sc.names.lookup x=some .cell):∃c,(cellsFrom n sc.names []).lookup x=some c:=by
 have q:=PySem.W.cellsFrom_some sc.names n [] (.inl h);exact Option.isSome_iff_exists.mp q
theorem zgx{CX:CXT}{P:Program}{w:World}{K:qF}{mg:qM}{base:Heap}{N ps:List Str}{qual:Str}{scope:Scope}{f:Addr}{cd:Value}{A:Around}{outer:List Env}{s s1:Shared}{H:Hp}{E:XK}{us:List Value}{vs:List V}
  (S:FnScope N ps scope) (hd:A.handled=none) (e0:Env0 P w K mg base A outer s H) (hl:vs.length=ps.length) (r:Vals vs us)
  (x:InCallC s s.heap.objs.size (bindL (envOfC qual scope s.heap.objs.size f cd).kindOf (ps.zip us) fun _=>none) (cellsFrom (s.heap.objs.size+1) scope.names []) (bindC (envOfC qual scope s.heap.objs.size f cd).kindOf (ps.zip us) fun _=>none) s1) :
  Inv (cxOf CX P w K mg base N qual scope f cd A outer s H E) [] (start N vs) H s1:=by
 have hpl:ps.length<=N.length:=by have:=congrArg List.length S.pre;rw[List.length_take]at this;lia
 obtain⟨h1,tk,rfl,hk⟩:=x.done;have noA:∀b:Addr,b∉(cxOf CX P w K mg base N qual scope f cd A outer s H E).ex:=fun b z=>absurd (show b∈([]:List Addr) from z) (by simp)
 refine⟨⟨e0.mod,S.kind,rfl,rfl,Nat.le_refl _,fun y z c h1 h2=>?_,fun y hy=>?_,fun y c _ h=>?_,fun _=>hd,Around.frames_deeper e0.frames,.inr ⟨rfl,rfl⟩,fun b z=>absurd z (noA b),e0.bs,e0.bsz,fun b _ _=>noA b,fun b z=>absurd z (noA b),e0.funs,e0.frf⟩,
  rfl,e0.bare,Un.kept hk,⟨_,x.toInCall.ns,fun i y v h1 h2 h3=>?_⟩,fun y c h=>⟨_,x.cell y c h⟩,e0.hok.fresh (Nat.le_refl _),fun y c h=>?_,fun p hp=>absurd (show p∈([]:qO) from hp) (by simp),e0.hok.kept hk,?_⟩
 ·exact name_of_addr x.apart (PySem.mem_of_lookup h1) (PySem.mem_of_lookup h2)
 ·have hy:scope.names.lookup y=some .cell\/scope.names.lookup y=some .free:=hy;rcases hy with hy|hy
  ·exact ze3 hy
  ·exact absurd rfl (S.nofree _ (PySem.mem_of_lookup hy))
 ·exact Nat.le_of_lt (x.above y c (PySem.mem_of_lookup h))
 ·have hi:i<vs.length:=by
   unfold start at h2
   by_cases hi:i<vs.length
   ·exact hi
   ·rw[List.getElem?_append_right (by simpa using hi)]at h2
    rw[List.getElem?_replicate]at h2;split at h2 <;> cases h2
  have ha:vs[i]?=some v:=by
   unfold start at h2;rw[List.getElem?_append_left (by simpa using hi),List.getElem?_map]at h2
   cases e:vs[i]? with
   | none=>rw[e]at h2;cases h2
   | some a=>rw[e]at h2;cases h2;rfl
  obtain⟨u,hu,rv⟩:=r.get ha;have hp:ps[i]?=some y:=by
   rw[<- S.pre,List.getElem?_take_of_lt (by lia)];exact h1
  have ndP:ps.Nodup:=by rw[<- S.pre];exact S.nd.sublist (List.take_sublist _ _)
  refine⟨u,rv,?_⟩;rcases S.par y (List.mem_of_getElem? hp) with k|k
  ·exact .inl ⟨k,zdZ ndP hp hu k⟩
  ·obtain⟨c,e⟩:=ze3 (n:=s.heap.objs.size+1) k;refine .inr ⟨.inl k,c,e,?_⟩;have q:=x.cell y c e;rw[zd1 ndP hp hu (by show scope.names.lookup y≠_;rw[k];decide)]at q
   exact q
 ·exact e0.hok.fresh (Nat.le_of_lt (x.above y c (PySem.mem_of_lookup h)))
 ·unfold start;show _=N.length
  rw[List.length_append,List.length_map,List.length_replicate];lia
theorem zno{CX:CXT}{P:Program}{w:World}{K:qF}{mg:qM}{base:Heap}{k:Nat}{f:Addr}{name qual:Str}{params:Arguments}{body:List Stmt}{scope:Scope}{dV kV doc pm cdv ct oc:Value}{an od:Option Addr}
  {osl:Array (Option Value)} {N ps:List Str} {sp:Sp} (lk:K.lookup f=some ⟨oc,od,.func (PySem.W.fnOf name qual params body scope dV kV doc pm an cdv ct),osl⟩) (hcd:PySem.W.codeIn K cdv qual=true) (S:FnScope N ps scope)
  (len:∀vs H Q E,sp vs H Q E->vs.length=ps.length)
  (hbody:∀(A:Around) (outer:List Env) (s:Shared) (H:Hp) (vs:List V) (Q:VK) (E:XK),Room k (A.deeper (envOfC qual scope s.heap.objs.size f cdv))->sp vs H Q E ->
   ∃t,PSs (cxOf CX P w K mg base N qual scope f cdv A outer s H E) body t/\t { nx:=fun _ H'=>Q .non H',rt:=Q } (start N vs) H) :
  FnOk P w K mg base CX (k+1) f (PySem.W.fnOf name qual params body scope dV kV doc pm an cdv ct) ps sp:=by
 refine⟨len,fun A outer s H args us vs Q E hr e0 hb r hsp=>?_⟩
 have hl:=len _ _ _ _ hsp;have KX:K.In s.heap:=e0.mod.kin.keeps fun b o e=>(e0.bs b o e).1
 have lim:s.heap.NoLimit:=e0.mod.nolimit.keeps fun b o e=>(e0.bs b o e).1
 have hkind:∀y∈ps.zip us,scope.names.lookup y.1=some .local\/(scope.names.lookup y.1=some .cell/\((cellsFrom (s.heap.objs.size+1) scope.names []).lookup y.1).isSome=true):=fun⟨n,v⟩ hy=>by
  rcases S.par n (List.of_mem_zip hy).1 with q|q
  ·exact .inl q
  ·exact .inr ⟨q,PySem.W.cellsFrom_some _ _ _ (.inl q)⟩
 refine codeAny_call_function hr.depth (KX _ _ lk) rfl S.co S.gen rfl (PySem.W.codeRec_of KX hcd) (hb _ _ _ _ ?_);refine wpAny_newFunctionEnv_cells S.kind hkind fun env he s1 x=>?_
 subst he;refine⟨lim.keeps x.toInCall.keep,codeAny_func ?_⟩;obtain⟨t,ht,hq⟩:=hbody A outer s H vs Q E (hr.deeper _) hsp;have I:Inv (cxOf CX P w K mg base N qual scope f cdv A outer s H E) [] (start N vs) H s1:=zgx S hr.hd e0 hl r x;refine wpAny_mono (ht [] s1 (start N vs) H _ I hq) (fun fl s' hs=>?_) fun e s' hs=>hs
 have fin:∀{σ':St} {H':Hp} {v:V} {u:Value},Inv (cxOf CX P w K mg base N qual scope f cdv A outer s H E) [] σ' H' s'->RelV v u->Q v H'->CE outer P w H s Q u s' :=
  fun {σ' H' v u} J rv q=>⟨v,H',J.os,J.bare,J.base,J.hok,rv,q⟩
 cases fl with
 | ret u =>
  obtain⟨v,σ',H',J,rv,q⟩:=hs;exact fin J rv q
 | next =>
  obtain⟨σ',H',J,q⟩:=hs;exact fin (v:=V.non) (u:=Value.none) J rfl q
 | brk =>
  obtain⟨_,_,_,q⟩:=hs;exact False.elim q
 | cont =>
  obtain⟨_,_,_,q⟩:=hs;exact False.elim q
section
variable{X:Cx}{x:Str}{p pos:Pos}{e:Expr}{es:List Expr}{t:TA}{id T:String}{r:List V->Hp->VK->Prop}
def tCB(r:List V->Hp->VK->Prop)(t:TA):TE:=fun σ H Q=>t σ H fun vs H1=>r vs H1 Q
theorem zhv(hc:JB X (.builtin id) r)(hg:Gl X x)(hm:X.mg x=none)(hv:bootBuiltins x=some (.builtin id))(ha:PA X (e::es) t)(hn:x ≠ "__name__":=by decide) (hdb:(x == ("__debug__":Str))=false:=by decide)
  (he:starEach (e::es) X.env=(false,eval e X.env)::starEach es X.env:=by rfl) (hpl:(backTo pos (starEach es X.env)).any (·.1)=false:=by rfl):PE X (.Call (.Name x p) (e::es) [] pos) (tCB r t):=by
 intro pins s σ H Q I h;refine wpAny_Call_Name_kw (Q7 I hg hm hv ?_ hn hdb);exact PyProof.Rows.callWith_builtin1 (thn (ha pos pins s σ H _ I h) fun us s1 ⟨vs,H1,I1,r1,q1⟩=>hc pins s1 σ H1 vs us Q I1 r1 q1) he hpl
theorem zds(hc:JB X (.type T) r)(hg:Gl X x)(hm:X.mg x=none)(hv:bootBuiltins x=some (.type T))(ha:PA X (e::es) t)(hn:x ≠ "__name__":=by decide) (hdb:(x == ("__debug__":Str))=false:=by decide)
  (he:starEach (e::es) X.env=(false,eval e X.env)::starEach es X.env:=by rfl) (hpl:(backTo pos (starEach es X.env)).any (·.1)=false:=by rfl):PE X (.Call (.Name x p) (e::es) [] pos) (tCB r t):=by
 intro pins s σ H Q I h;refine wpAny_Call_Name_kw (Q7 I hg hm hv ?_ hn hdb);exact PyProof.Rows.callWith_type1 (thn (ha pos pins s σ H _ I h) fun us s1 ⟨vs,H1,I1,r1,q1⟩=>hc pins s1 σ H1 vs us Q I1 r1 q1) he hpl
end
end L2
namespace HT
open PySem PyProof.Rows
def lexLt:List Int->List Int->Bool
 | [],[]=>false
 | [],_::_=>true
 | _::_,[]=>false
 | x::xs,y::ys=>if x=y then lexLt xs ys else decide (x<y)
theorem zfp(x y:Int)(xs ys:List Int):lexLt (x::xs) (y::ys)=if x=y then lexLt xs ys else decide (x<y):=rfl
theorem zda:lexLt [] []=false:=rfl
theorem zcC(y:Int)(ys:List Int):lexLt [] (y::ys)=true:=rfl
theorem zcD(x:Int)(xs:List Int):lexLt (x::xs) []=false:=rfl
theorem zhN(A:Around)(s:Shared)(a:Int)(t:Tok)(c:Int)(u:Tok):∃e,SeqAt.EqAt A s (.int a t) (.int c u) e/\(e=true↔a=c) :=
 ⟨(a == c),SeqAt.EqAt.int_int a t c u,by simp⟩
theorem zhn(A:Around)(s:Shared)(a:Int)(t:Tok)(c:Int)(u:Tok)(prog:Program)(w:World)(E:qV)(Q:qV)(h:Q (.bool (decide (a<c))) s) :
  wpAny (model prog w) A (richCompare .Lt (.int a t) (.int c u)) Q E s :=
 (PyProof.Rows.lt_int h:wpAny (model prog w) A (compareOp .Lt (.int a t) (.int c u)) Q E s)
section
open PySem.SeqAt
open PySem.AutoSeq1 (wpAny_loadPart')
open PySem.MeetsSeq PySem.MeetsSeq2 PySem.MeetsSeq3
theorem zcW(l b:Addr)(items items2:Array Value)(n n2:Nat)(dd dd2:Option Addr)(sl sl2:Array (Option Value))(ns ms:List Int)(hi:IntsAre items.toList ns)(hj:IntsAre items2.toList ms) :
  Meets (Builtin.«tuple.__lt__» ⟨[.ref l,.ref b],[]⟩)
   (fun _ R s=>s.heap.get? l=some { cls:=.type "tuple",dict:=dd,data:=.seq items n,slots:=sl }/\s.heap.get? b=some { cls:=.type "tuple",dict:=dd2,data:=.seq items2 n2,slots:=sl2 } /\
    R (.ok (.ret (.bool (lexLt ns ms)))) s) :=
 .of_wp fun prog w A R s h=>by
  obtain⟨hp,g,d,tk,os⟩:=s;obtain⟨hl,hb,h⟩:=h;have f2:=AutoSeq1.sub_tuple_tuple;have z1:items.size=ns.length:=by rw[<- hi.length];simp
  have z2:items2.size=ms.length:=by rw[<- hj.length];simp
  wp_walk using wpAny_loadPart' hl,wpAny_loadPart' hb,wpAny_forIn_list _ (fun rest b s'=>b.1=none/\s'=⟨hp,g,d,tk,os⟩/\∃(vs ws:List Value) (ns' ms':List Int),rest=vs.zip ws /\
   IntsAre vs ns'/\IntsAre ws ms'/\ns'.length+items2.size=ms'.length+items.size/\R (.ok (.ret (.bool (lexLt ns' ms')))) ⟨hp,g,d,tk,os⟩) _
  case turn =>
   rintro⟨y,x⟩ rest b s' ⟨hb',rfl,vs,ws,ns',ms',hz,hvi,hwi,hlen,hR⟩;cases hvi with
   | nil=>rw[List.zip_nil_left]at hz;cases hz
   | cons a t hvi' =>
    cases hwi with
    | nil=>rw[List.zip_nil_right]at hz;cases hz
    | cons c u hwi' =>
     rw[List.zip_cons_cons]at hz
     injection hz with hyx hrest
     injection hyx with hy hx
     subst hy hx;rw[zfp]at hR;simp only[List.length_cons]at hlen;obtain⟨e,he,hiff⟩:=zhN A.in1 ⟨hp,g,d,tk,os⟩ a t c u;refine wpAny_bind (he prog w _ _ ?_);cases e with
     | true =>
      rw[if_pos (hiff.mp rfl)]at hR
      wp_walk
      exact⟨rfl,rfl,_,_,_,_,hrest,hvi',hwi',by lia,hR⟩
     | false =>
      rw[if_neg (fun q=>absurd (hiff.mpr q) Bool.false_ne_true)]at hR
      have hri:=zhn A.in1 ⟨hp,g,d,tk,os⟩ a t c u prog w
      wp_walk using hri
      exact⟨_,rfl,by simpa using hR⟩
  case fin =>
   rintro⟨b1,b2⟩ s' ⟨hb',rfl,vs,ws,ns',ms',hz,hvi,hwi,hlen,hR⟩;simp only at hb';subst hb';have hv:lexLt ns' ms'=decide (items.size<items2.size):=by
    cases hvi with
    | nil =>
     cases hwi with
     | nil =>
      simp only[List.length_nil]at hlen;rw[zda];exact(decide_eq_false (by lia)).symm
     | cons c u hw =>
      simp only[List.length_nil,List.length_cons]at hlen;rw[zcC];exact(decide_eq_true (by lia)).symm
    | cons a t hv =>
     cases hwi with
     | nil =>
      simp only[List.length_nil,List.length_cons]at hlen;rw[zcD];exact(decide_eq_false (by lia)).symm
     | cons c u hw =>
      rw[List.zip_cons_cons]at hz;cases hz
   rw[hv]at hR
   wp_walk
   exact⟨_,rfl,by simpa[Builtin.Tuple.tupleCompareSizes] using hR⟩
  case h =>
   exact⟨rfl,rfl,items.toList,items2.toList,ns,ms,rfl,hi,hj,by lia,h⟩
end
section
variable{prog:Program}{w:World}{A:Around}{E:qV}{s:Shared}
theorem zfo{l b:Addr}{items items2:Array Value}{ns ms:List Int}{Q:qV}(hl:IsTup s.heap l items)(hb:IsTup s.heap b items2)(hi:IntsAre items.toList ns)(hj:IntsAre items2.toList ms)
  (hu:A.units<cLine) (h:Q (.bool (lexLt ns ms)) s):wpAny (model prog w) A (compareOp .Lt (.ref l) (.ref b)) Q E s:=by
 obtain⟨⟨cls,dd,data,sl⟩,ho,hc,n,hd⟩:=id hl;obtain⟨⟨cls2,dd2,data2,sl2⟩,ho2,hc2,n2,hd2⟩:=id hb;simp only at hc hd hc2 hd2;subst hc hd hc2 hd2;exact richCompare_meets_room (op:=.Lt) ⟨_,ho,rfl⟩ ⟨_,ho2,rfl⟩ PySem.F.slot_tuple_lt PySem.F.entry_tuple_lt (PySem.F.args_tuple_lt_2 _ _) (zcW l b items items2 n n2 dd dd2 sl sl2 ns ms hi hj)
  ⟨ho,ho2,show Value.bool (lexLt ns ms)≠Value.notImplemented/\Q (.bool (lexLt ns ms)) s from⟨(fun x=>nomatch x),h⟩⟩ hu
theorem zjv{t b:Addr}{vs ws:List Value}{Q:qV}(ht:IsTup s.heap t vs.toArray)(hb:IsTup s.heap b ws.toArray)(hv:vs≠[])
  (h1:ws=[]->Q (.ref t) s) (h2:ws≠[]->Q (.ref s.heap.objs.size) { s with heap:=s.heap.push { cls:=.type "tuple",data:=.seq (vs++ws).toArray } })
  (hsz:vs.length+ws.length<=sizeLine):wpAny (model prog w) A (binaryOp .Add (.ref t) (.ref b)) Q E s:=by
 obtain⟨⟨cls,dd,data,sl⟩,ho,hc,n,hd⟩:=id ht;obtain⟨⟨cls2,dd2,data2,sl2⟩,ho2,hc2,n2,hd2⟩:=id hb;simp only at hc hd hc2 hd2;subst hc hd hc2 hd2;have e:vs.toArray++ws.toArray=(vs++ws).toArray:=by simp
 by_cases hw:ws=[]
 ·exact concat_meets ⟨_,ho,rfl⟩ ⟨_,ho2,rfl⟩ noFill_tuple_add seq_tuple_add PySem.F.slot_tuple_add PySem.F.entry_tuple_add (PySem.F.args_tuple_add_2 _ _)
   (tuple_addW1 t b vs.toArray ws.toArray n n2 dd dd2 sl sl2 (by simpa using hv) (by simp[hw])) ⟨ho,ho2,h1 hw⟩
 ·refine concat_meets ⟨_,ho,rfl⟩ ⟨_,ho2,rfl⟩ noFill_tuple_add seq_tuple_add PySem.F.slot_tuple_add PySem.F.entry_tuple_add (PySem.F.args_tuple_add_2 _ _)
   (tuple_addW2 t b vs.toArray ws.toArray n n2 dd dd2 sl sl2 (by simpa using hv) (by simpa using hw) (by rw[List.size_toArray,List.size_toArray];exact hsz)) ⟨ho,ho2,?_⟩
  rw[e];exact h2 hw
end
end HT
namespace L2
open PySem PySem.Spec PyProof.Rows
abbrev TO:=St->Hp->(Option Int->Hp->Prop)->Prop
theorem intsAre_of{ns:List Int}:∀{us:List Value},Vals (ns.map V.int) us->IntsAre us ns:=by
 induction ns with
 | nil=>intro us r;rw[List.map_nil]at r;cases r;exact .nil
 | cons n ns ih =>
  intro us r;rw[List.map_cons]at r;cases r with
  | cons r1 r2 =>
   obtain⟨t,e⟩:=r1;subst e;exact .cons n t (ih r2)
section
variable{X:Cx}{e:Expr}{te:TE}{lo hi:Option Expr}{tl th:TO}{pos p2:Pos}
def rLtT(K:qF):R2:=fun x y H Q=>∃a b ns ms,x=.ref a/\y=.ref b/\SqT K H a (ns.map V.int)/\SqT K H b (ms.map V.int)/\Q (.bl (HT.lexLt ns ms)) H
theorem zkq(hu:X.A.units<cLine):OpR X (compareOp .Lt) (rLtT X.K):=by
 intro pins s σ H x y v u Q I rx ry h;obtain⟨a,b,ns,ms,rfl,rfl,ha,hb,q⟩:=h;cases rx;cases ry;obtain⟨its,r1,p1,_⟩:=I.tuple ha;obtain⟨its2,r2,p2,_⟩:=I.tuple hb;have i1:IntsAre its.toArray.toList ns:=intsAre_of r1;have i2:IntsAre its2.toArray.toList ms:=intsAre_of r2;exact HT.zfo p1 p2 i1 i2 hu ⟨.bl (HT.lexLt ns ms),H,I,rfl,q⟩
def zmE(K:qF):R2:=fun x y H Q=>∃a b xs ys,x=.ref a/\y=.ref b/\SqT K H a xs/\SqT K H b ys/\xs≠[]/\xs.length+ys.length<=sizeLine /\
 (ys=[]->Q (.ref a) H)/\(ys≠[]->∀p,H p=none->Q (.ref p) (upd H p (.tup (xs++ys))))
theorem Vals.nil_iff{xs:List V}{us:List Value}(r:Vals xs us):us=[]↔xs=[]:=by
 cases r with
 | nil=>simp
 | cons _ _=>simp
theorem ziX:OpR X (binaryOp .Add) (zmE X.K):=by
 intro pins s σ H x y v u Q I rx ry h;obtain⟨a,b,xs,ys,rfl,rfl,ha,hb,hx,hz,q1,q2⟩:=h;cases rx;cases ry;obtain⟨its,r1,p1,_⟩:=I.tuple ha;obtain⟨its2,r2,p2,_⟩:=I.tuple hb;refine HT.zjv p1 p2 (fun z=>hx (r1.nil_iff.mp z)) (fun z=>⟨.ref a,H,I,rfl,q1 (r2.nil_iff.mp z)⟩) (fun z=>?_) (by rw[<- r1.length,<- r2.length];exact hz)
 refine⟨.ref s.heap.objs.size,_,I.laid (t':=s.toks) (o:=.tup (xs++ys)) (fun b ob q=>Heap.get?_push_of_some _ q) (Nat.le_refl _) ?_,rfl,q2 (fun w=>z (r2.nil_iff.mpr w)) _ (I.hok.fresh (Nat.le_refl _))⟩
 exact⟨by rw[List.length_append];exact hz,_,r1.append r2,IsTD.new _ _⟩
end
def ixN(n:Nat)(i:Int):Option Nat:=if 0<=i then(if i<n then some i.toNat else none) else if -(n:Int)<=i then some (i+n).toNat else none
def atI{α:Type}(xs:List α)(i:Int):Option α:=(ixN xs.length i).bind fun j=>xs[j]?
theorem zgu{n:Nat}{i:Int}{j:Nat}(h:ixN n i=some j):seqIndex? i n=some j/\j<n/\-(n:Int)<=i/\i<n:=by
 unfold ixN at h
 by_cases h0:0<=i
 ·rw[if_pos h0]at h
  by_cases h1:i<n
  ·rw[if_pos h1]at h;have e:i.toNat=j:=Option.some.inj h;exact⟨by rw[seqIndex_of h0 h1,e],by lia,by lia,h1⟩
  ·rw[if_neg h1]at h;cases h
 ·rw[if_neg h0]at h
  by_cases h1:-(n:Int)<=i
  ·rw[if_pos h1]at h;have e:(i+n).toNat=j:=Option.some.inj h;exact⟨by rw[seqIndex_neg (by lia) h1,e],by lia,h1,by lia⟩
  ·rw[if_neg h1]at h;cases h
theorem zek{α:Type}{xs:List α}{i:Int}{v:α}(h:atI xs i=some v):∃j,seqIndex? i xs.length=some j/\xs[j]?=some v/\j<xs.length/\-(xs.length:Int)<=i/\i<xs.length:=by
 unfold atI at h;cases e:ixN xs.length i with
 | none=>rw[e]at h;cases h
 | some j =>
  rw[e]at h;obtain⟨h1,h2,h3,h4⟩:=zgu e;exact⟨j,h1,h,h2,h3,h4⟩
theorem zjx{α:Type}{xs:List α}{j:Nat}{v:α}(h:xs[j]?=some v):atI xs (j:Int)=some v:=by
 have hj:j<xs.length:=(List.getElem?_eq_some_iff.mp h).1;have e:ixN xs.length (j:Int)=some j:=by
  unfold ixN;rw[if_pos (by lia),if_pos (by lia)];simp
 unfold atI;rw[e];exact h
def zha(b:Expr):Prop:=∀o i,subscripted b false o i=operate [o,i] (getItem o i)
def IxR(X:Cx)(r:R2):Prop :=
 ∀(value slice:Expr) (pins:qO) (s:Shared) (σ:St) (H:Hp) (x y:V) (v u:Value) (Q:VK),Inv X pins σ H s->RelV x v->RelV y u->r x y H Q ->
  subscripted slice false v u=operate [v,u] (getItem v u)->wpAny (model X.prog X.w) X.A (subscriptTail value slice v u) (EP X pins σ Q) X.xe s
def MtR(X:Cx)(id:String)(r:V->List V->Hp->VK->Prop):Prop :=
 ∀(pins:qO) (s:Shared) (σ:St) (H:Hp) (x:V) (xs:List V) (v:Value) (us:List Value) (Q:VK),Inv X pins σ H s->RelV x v->Vals xs us->r x xs H Q ->
  wpAny (model X.prog X.w) X.A (call (.builtin id) (v::us)) (EP X pins σ Q) X.xe s
section
variable{X:Cx}{a b:Expr}{ta tb:TE}{pos:Pos}
theorem IxR.or{r r':R2}(h:IxR X r)(h':IxR X r'):IxR X (fun x y H Q=>r x y H Q\/r' x y H Q):=by
 intro value slice pins s σ H x y v u Q I rx ry q hs;rcases q with q|q
 ·exact h value slice pins s σ H x y v u Q I rx ry q hs
 ·exact h' value slice pins s σ H x y v u Q I rx ry q hs
theorem Qm{r:R2}(hr:IxR X r)(ha:PE X a ta)(hb:PE X b tb)(hs:zha b):PE X (.Subscript a b pos) (tOp r ta tb):=by
 intro pins s σ H Q I h;exact Subscript_ (binT ha hb I h fun v u s2 x y H2 I2 rx ry q=>hr a b pins s2 σ H2 x y v u Q I2 rx ry q (hs _ _))
def rIxL(K:qF):R2:=fun x y H Q=>∃p xs i v,x=.ref p/\y=.int i/\SqL K H p xs/\atI xs i=some v/\Q v H
def rIxT(K:qF):R2:=fun x y H Q=>∃p xs i v,x=.ref p/\y=.int i/\SqT K H p xs/\atI xs i=some v/\Q v H
def rIxS:R2:=fun x y H Q=>∃z i c,x=.str z/\y=.int i/\z.length<=sizeLine/\atI z.cps.toList i=some c/\Q (.str ⟨#[c]⟩) H
theorem Qp:IxR X (rIxL X.K):=by
 intro value slice pins s σ H x y v u Q I rx ry h hs;obtain⟨p,xs,i,z,rfl,rfl,hq,he,q⟩:=h;cases rx;obtain⟨t,rfl⟩:=ry;obtain⟨its,r,pl,hz⟩:=I.list hq;obtain⟨j,h1,h2,h3,h4,h5⟩:=zek he;obtain⟨w,ew,rw'⟩:=r.get h2;have hl:=r.length;have hn:=QC;have fin:EP X pins σ Q w s:=⟨z,H,I,rw',q⟩
 by_cases h0:0<=i
 ·have hj:i.toNat=j:=by
   rw[seqIndex_of h0 h5]at h1;exact Option.some.inj h1
  exact item_listR pl.isList h0 (by lia) (by rw[hj];simpa using ew) fin hs
 ·have hj:(i+(its.toArray.size:Int)).toNat=j:=by
   rw[seqIndex_neg (by lia) h4]at h1
   rw[List.size_toArray,<- hl];exact Option.some.inj h1
  exact subscriptTail_builtinR (x:=w) pl.isList.typeIs slot_list_getitem.lookup
   (wpAny_getItem_list_neg (Q:=fun r s'=>r=w/\EP X pins σ Q r s') pl.isList (by lia) (by rw[List.size_toArray] <;> lia) (by lia) (by rw[hj];simpa using ew) ⟨rfl,fin⟩) hs
theorem zk0:IxR X (rIxT X.K):=by
 intro value slice pins s σ H x y v u Q I rx ry h hs;obtain⟨p,xs,i,z,rfl,rfl,hq,he,q⟩:=h;cases rx;obtain⟨t,rfl⟩:=ry;obtain⟨its,r,pl,hz⟩:=I.tuple hq;obtain⟨j,h1,h2,h3,h4,h5⟩:=zek he;obtain⟨w,ew,rw'⟩:=r.get h2;have hl:=r.length;have hn:=QC;have fin:EP X pins σ Q w s:=⟨z,H,I,rw',q⟩;exact subscriptTail_builtinR (x:=w) pl.typeIs slot_tuple_getitem.lookup
  (getItem_tuple (j:=j) (Q:=fun r s'=>r=w/\EP X pins σ Q r s') pl (by lia) (by lia) (by rw[List.size_toArray,<- hl];exact h1) (by simpa using ew) ⟨rfl,fin⟩) hs
theorem zk1:IxR X rIxS:=by
 intro value slice pins s σ H x y v u Q I rx ry h hs;obtain⟨z,i,c,rfl,rfl,hz,he,q⟩:=h;obtain⟨t,rfl⟩:=rx;obtain⟨t',rfl⟩:=ry;obtain⟨j,h1,h2,h3,h4,h5⟩:=zek he;have hl:z.cps.toList.length=z.length:=by simp[Str.length]
 rw[hl]at h1 h4 h5;have hn:=QC;exact tail_any (typeIs_str s z t) slot_str_getitem.lookup (getItem_str (c:=c) (by
  have e1:decide (i < -(2 ^ 63:Int))=false:=decide_eq_false (by lia)
  have e2:decide (i>=2 ^ 63)=false:=decide_eq_false (by lia)
  rw[e1,e2,Bool.or_false]) (by rw[h1];simpa using h2) ⟨.str ⟨#[c]⟩,H,I.tok _,⟨_,rfl⟩,q⟩) hs
def rIx(K:qF):R2:=fun x y H Q=>rIxL K x y H Q\/rIxT K x y H Q\/rIxS x y H Q
theorem zk2:IxR X (rIx X.K):=Qp.or (zk0.or zk1)
theorem zfn(its:List Value)(n j:Nat)(u:Value):Obj.mapSeq (·.setIfInBounds j u) { cls:=.type "list",data:=.seq its.toArray n }={ cls:=.type "list",data:=.seq (its.set j u).toArray n }:=by
 simp[Obj.mapSeq]
theorem Inv.lst{pins:qO}{σ:St}{H:Hp}{s:Shared}{p:Addr}{xs:List V}(I:Inv X pins σ H s)(h:H p=some (.lst xs)) :
  ∃(its:List Value) (n:Nat),Vals xs its/\s.heap.get? p=some { cls:=.type "list",data:=.seq its.toArray n }/\xs.length<=sizeLine:=by
 obtain⟨z,its,n,r,e⟩:=I.hok p _ h;exact⟨its,n,r,e,z⟩
theorem Inv.lstUpd{pins:qO}{σ:St}{H:Hp}{s:Shared}{p:Addr}{xs ys:List V}{its its':List Value}{n n':Nat}{f:Obj->Obj}(I:Inv X pins σ H s)(h:H p=some (.lst xs))
  (ho:s.heap.get? p=some { cls:=.type "list",data:=.seq its.toArray n }) (hf:f { cls:=.type "list",data:=.seq its.toArray n }={ cls:=.type "list",data:=.seq its'.toArray n' }) (r:Vals ys its') (hz:ys.length<=sizeLine) (t:Nat) :
  Inv X pins σ (upd H p (.lst ys)) { s with heap:=s.heap.update p f,toks:=t }:=by
 have e:(s.heap.update p f).get? p=some { cls:=.type "list",data:=.seq its'.toArray n' }:=by
  rw[Heap.get?_update_self f ho (by rw[hf] <;> rfl),hf]
 refine I.write (x:=p) (e:=p) (by rw[h];trivial) (.inl rfl) (fun b u hb q=>(Heap.get?_update_other _ _ (Ne.symm hb)).trans q) ⟨_,e⟩ ?_
 exact⟨hz,its',n',r,e⟩
def zmD:V->V->V->Hp->(Hp->Prop)->Prop:=fun o i v H Q=>∃p xs k j,o=.ref p/\i=.int k/\H p=some (.lst xs)/\ixN xs.length k=some j/\Q (upd H p (.lst (xs.set j v)))
theorem set_list:PSet X zmD:=by
 intro pins s σ H o i v ov iv u Q I ro ri rv h;obtain⟨p,xs,k,j,rfl,rfl,hp,hj,q⟩:=h;cases ro;obtain⟨t,rfl⟩:=ri;obtain⟨its,n,r,ho,hz⟩:=I.lst hp;obtain⟨h1,h2,h3,h4⟩:=zgu hj;have hl:=r.length;have hn:=QC;have I':Inv X pins σ (upd H p (.lst (xs.set j v))) { s with heap:=s.heap.update p (Obj.mapSeq (·.setIfInBounds j u)) } :=
  I.lstUpd hp ho (zfn its n j u) (r.set rv j) (by rw[List.length_set];exact hz) s.toks
 by_cases h0:0<=k
 ·have hk:k.toNat=j:=by
   rw[seqIndex_of h0 h4]at h1;exact Option.some.inj h1
  exact PySem.W.ki_setAt ho h0 (by lia) (by rw[List.size_toArray,<- hl];exact h4) (by rw[hk];exact⟨_,I',q⟩)
 ·have hk:(k+(its.toArray.size:Int)).toNat=j:=by
   rw[seqIndex_neg (by lia) h3]at h1
   rw[List.size_toArray,<- hl];exact Option.some.inj h1
  exact PySem.W.ki_setBack ho (by lia) (by rw[List.size_toArray,<- hl];exact h3) (by lia) (by rw[hk];exact⟨_,I',q⟩)
theorem zdQ:JB X (.builtin "len") (fun xs H Q=>∃p ys,xs=[.ref p]/\(SqL X.K H p ys\/SqT X.K H p ys)/\Q (.int ys.length) H):=by
 intro pins s σ H xs us Q I r h;obtain⟨p,ys,rfl,hq,q⟩:=h;obtain⟨u,rfl,rx⟩:=vals1 r;cases rx;have hn:=QC;rcases hq with hq|hq
 ·obtain⟨its,r',pl,hz⟩:=I.list hq;have hlen:=r'.length;exact Calls.call_len_list pl.isList (by simp only[List.size_toArray] <;> lia) ⟨.int ys.length,H,I.tok _,⟨s.toks+1,by rw[List.size_toArray,hlen]⟩,q⟩
 ·obtain⟨its,r',pl,hz⟩:=I.tuple hq;have hlen:=r'.length;exact len_tuple pl (by simp only[List.size_toArray] <;> lia) ⟨.int ys.length,H,I.tok _,⟨s.toks+1,by rw[List.size_toArray,hlen]⟩,q⟩
theorem zbm:JB X (.type "tuple") (fun xs H Q=>∃p ys,xs=[.ref p]/\((SqL X.K H p ys/\∀l,H l=none->Q (.ref l) (upd H l (.tup ys)))\/(SqT X.K H p ys/\Q (.ref p) H))):=by
 intro pins s σ H xs us Q I r h;obtain⟨p,ys,rfl,h⟩:=h;obtain⟨u,rfl,rx⟩:=vals1 r;cases rx;rcases h with⟨hq,q⟩|⟨hq,q⟩
 ·obtain⟨its,r',pl,hz⟩:=I.list hq;have hlen:=r'.length;refine call_tuple_list pl.isList (fun h' kp=>?_) (by simp only[List.size_toArray] <;> lia)
  have I1:Inv X pins σ H { s with heap:=h' }:=I.kept (t':=s.toks) kp
  have I2:Inv X pins σ (upd H h'.objs.size (.tup ys)) { s with heap:=h'.push { cls:=.type "tuple",data:=.seq its.toArray } } :=
   I1.laid (t':=s.toks) (fun b o e=>Heap.get?_push_of_some _ e) (Nat.le_refl _) (show JF X.prog X.w _ _ _ (.tup ys) from⟨hz,its,r',IsTD.new _ _⟩)
  exact⟨.ref h'.objs.size,_,I2,rfl,q _ (I1.hok.fresh (Nat.le_refl _))⟩
 ·obtain⟨its,r',pl,hz⟩:=I.tuple hq;exact call_tuple_same pl ⟨.ref p,H,I,rfl,q⟩
def tyV(K:qF)(T:String)(x:V)(H:Hp):Prop:=match x with
 | .str _=>T = "str"
 | .int _=>T = "int"
 | .ref p=>(T = "list" /\ ∃xs,SqL K H p xs)\/(T = "tuple" /\ ∃o,K.lookup p=some o/\o.cls=.type "tuple" /\ o.dict=none) \/
   (T = "dict" /\ ((∃kvs,H p=some (.dK kvs))\/∃kvs,H p=some (.dT kvs)))\/(T = "set" /\ ∃S n,H p=some (.set S n))
 | _=>False
theorem zh1{pins:qO}{σ:St}{H:Hp}{s:Shared}{T:String}{x:V}{v:Value}(I:Inv X pins σ H s)(r:RelV x v)(ty:tyV X.K T x H) :
  s.TypeIs v T/\∀a,v=.ref a->∃ob,s.heap.get? a=some ob/\ob.dict=none:=by
 cases x with
 | str z =>
  obtain⟨t,rfl⟩:=r;cases(show T = "str" from ty)
  exact⟨typeIs_str s z t,fun _ e=>nomatch e⟩
 | int i =>
  obtain⟨t,rfl⟩:=r;cases(show T = "int" from ty)
  exact⟨typeIs_int s i t,fun _ e=>nomatch e⟩
 | ref p =>
  cases r;rcases ty with⟨rfl,xs,hq⟩|⟨rfl,o,hk,hc,hd⟩|⟨rfl,hk⟩|⟨rfl,S,n,hk⟩
  ·obtain⟨its,_,pl,_⟩:=I.list hq;refine⟨pl.isList.typeIs,fun a e=>?_⟩
   cases e;obtain⟨o,n,e,c,hd,_⟩:=pl;exact⟨o,e,hd⟩
  ·refine⟨⟨o,I.kIn p o hk,hc⟩,fun a e=>?_⟩
   cases e;exact⟨o,I.kIn _ o hk,hd⟩
  ·have z:∃o,s.heap.get? p=some o/\o.ExactDict:=by
    rcases hk with⟨kvs,hk⟩|⟨kvs,hk⟩
    ·obtain⟨_,_,_,_,o,_,_,e,ex,_⟩:=I.hok p _ hk;exact⟨o,e,ex⟩
    ·obtain⟨_,_,_,_,o,_,_,e,ex,_⟩:=I.hok p _ hk;exact⟨o,e,ex⟩
   obtain⟨o,e,ex⟩:=z;refine⟨⟨o,e,ex.1⟩,fun a e2=>?_⟩
   cases e2;exact⟨o,e,ex.2.1⟩
  ·obtain⟨o,_,_,_,e,ex,_⟩:=I.hok p _ hk;refine⟨⟨o,e,ex.1⟩,fun a e2=>?_⟩
   cases e2;exact⟨o,e,ex.2.1⟩
 | _=>exact False.elim ty
def tBM0(K:qF)(T:String)(r:V->List V->Hp->VK->Prop)(to:TE):TE:=fun σ H Q=>to σ H fun x H1=>tyV K T x H1/\r x [] H1 Q
def tBM(K:qF)(T:String)(r:V->List V->Hp->VK->Prop)(to:TE)(t:TA):TE:=fun σ H Q=>to σ H fun x H1=>tyV K T x H1/\t σ H1 fun xs H2=>r x xs H2 Q
variable{o e:Expr}{es:List Expr}{to:TE}{t:TA}{name:Str}{apos cpos:Pos}{T id:String}{r:V->List V->Hp->VK->Prop}
theorem zkh(pa:PlainAttrs T)(slot:Slot T name id)(hty:typeOf (.builtin id)=pure (.type "method_descriptor")) (hm:MtR X id r) (ho:PE X o to)
  (hbase:attributeBase o name X.env (eval o X.env)=eval o X.env:=by rfl) (hline:(apos.endLine == cpos.line)=true:=by rfl):PE X (.Call (.Attribute o name apos) [] [] cpos) (tBM0 X.K T r to):=by
 intro pins s σ H Q I h;refine wpAny_Call_method0_late hbase hline (thn (ho pins s σ H _ I h) fun v s1 ⟨x,H1,I1,r1,ty,q1⟩=>?_)
 obtain⟨h1,h2⟩:=zh1 I1 r1 ty;exact⟨T,id,pa,slot,hty,h1,h2,Calls.callWith_builtin rfl (PySem.evalArgs_none (hm pins s1 σ H1 x [] v [] Q I1 r1 .nil q1))⟩
theorem zmH(pa:PlainAttrs T)(slot:Slot T name id)(hty:typeOf (.builtin id)=pure (.type "method_descriptor")) (hm:MtR X id r) (ho:PE X o to) (ha:PA X (e::es) t)
  (hbase:attributeBase o name X.env (eval o X.env)=eval o X.env:=by rfl)
  (hfew:((backTo cpos (starEach (e::es) X.env)).all (fun x=>!x.1)&&(backToKw cpos (keywordEach [] X.env)).all (fun x=>x.1.isSome)
   && decide ((e::es).length+([]:List Keyword).length+(if ([]:List Keyword).isEmpty then 0 else 1)<30))=true:=by rfl)
  (hline:(apos.endLine == cpos.line)=true:=by rfl) (hs:starEach (e::es) X.env=(false,eval e X.env)::starEach es X.env:=by rfl) (hplain:(backTo cpos (starEach es X.env)).any (·.1)=false:=by rfl) :
  PE X (.Call (.Attribute o name apos) (e::es) [] cpos) (tBM X.K T r to t):=by
 intro pins s σ H Q I h;refine wpAny_Call_method_late hbase hfew hline rfl (thn (ho pins s σ H _ I h) fun v s1 ⟨x,H1,I1,r1,ty,q1⟩=>?_)
 obtain⟨h1,h2⟩:=zh1 I1 r1 ty;refine⟨T,id,pa,slot,hty,h1,h2,?_⟩;have hA:=ha cpos pins s1 σ H1 _ I1 q1;rw[hs]at hA ⊢;refine Calls.callWith_builtin (by show(false||(backTo cpos (starEach es X.env)).any (·.1))=false;rw[hplain] <;> rfl) (Calls.evalArgs_plain ?_)
 exact thn hA fun us s2 ⟨vs,H2,I2,r2,q2⟩=>hm pins s2 σ H2 x vs v us Q I2 r1 r2 q2
end
def MtM(X:Cx)(id:String)(r:V->List V->Hp->VK->Prop):Prop :=
 ∀(pins:qO) (s:Shared) (σ:St) (H:Hp) (x:V) (xs:List V) (v:Value) (us:List Value) (Q:VK),Inv X pins σ H s->RelV x v->Vals xs us->r x xs H Q ->
  wpAny (model X.prog X.w) X.A (call (.builtin id) (v::us)) (EP X pins σ Q) X.xe s
theorem Vals.one:∀{x:V}{us:List Value},Vals [x] us->∃u,us=[u]/\RelV x u
 | _,_,.cons r .nil=>⟨_,rfl,r⟩
section
variable{X:Cx}{pins:qO}{σ:St}{H:Hp}{s:Shared}{l b:Addr}{xs ys zs:List V}
theorem Inv.lset{its its':List Value}{n:Nat}{f:Array Value->Array Value}{t':Nat}(I:Inv X pins σ H s)(hH:H l=some (.lst xs))
  (e:s.heap.get? l=some { cls:=.type "list",data:=.seq its.toArray n }) (hf:f its.toArray=its'.toArray) (hv:Vals ys its') (hz:ys.length<=sizeLine) :
  Inv X pins σ (upd H l (.lst ys)) { s with heap:=s.heap.update l (Obj.mapSeq f),toks:=t' }:=by
 have q:=PySem.IsL.update e f;rw[hf]at q;refine I.write (x:=l) (e:=l) (by rw[hH];exact trivial) (.inl rfl) (fun b' u hb hu=>(Heap.get?_update_other s.heap (Obj.mapSeq f) (Ne.symm hb)).trans hu) ⟨_,q⟩ ?_
 exact⟨hz,its',_,hv,q⟩
theorem Inv.lstM(I:Inv X pins σ H s)(hH:H l=some (.lst xs)):xs.length<=sizeLine/\∃(its:List Value) (n:Nat),Vals xs its/\xs.length=its.length/\s.heap.get? l=some { cls:=.type "list",data:=.seq its.toArray n }:=by
 obtain⟨z,its,n,r,e⟩:=I.hok l _ hH;exact⟨z,its,n,r,r.length,e⟩
end
section
variable{X:Cx}
def ziJ:V->List V->Hp->VK->Prop:=fun x vs H Q=>∃l xs y,x=.ref l/\vs=[y]/\H l=some (.lst xs)/\xs.length<sizeLine/\Q .non (upd H l (.lst (xs++[y])))
theorem zcl:MtM X "list.append" ziJ:=by
 intro pins s σ H x vs v us Q I rx rv h;obtain⟨l,xs,y,rfl,rfl,hH,hz,q⟩:=h;cases rx;obtain⟨u,rfl,ru⟩:=rv.one;obtain⟨z,its,n,r,hl,e⟩:=I.lstM hH;refine call_meets F.slot_list_append ⟨_,e,rfl⟩ F.entry_list_append (F.args_list_append_2 _ _) (PySem.list_append l its.toArray n u (by rw[List.size_toArray];lia)) ⟨e,?_⟩
 refine⟨.non,_,I.lset (its':=its++[u]) hH e (by simp) (r.append (.cons ru .nil)) ?_,rfl,q⟩
 rw[List.length_append,List.length_singleton];lia
end
end L2
namespace Att
open PySem PySem.W PySem.Calls PyProof.Rows
theorem zco{P:Params}{h:Heap}:∀(ns:List Int) (vs:List Value),WellAll P h vs (ns.map WData.int)->IntsAre vs ns:=by
 intro ns;induction ns with
 | nil =>
  intro vs w;rw[List.map_nil]at w;cases w;exact .nil
 | cons n ns ih =>
  intro vs w;rw[List.map_cons]at w;cases w with
  | cons a b =>
   cases a;exact .cons _ _ (ih _ b)
theorem zfM{l:OpenLaw}{n:Nat}(hn:l.most=some n){P:Params}{h:Heap}{args:List WData}{vals:List Value}
  (hpre:l.row.toRowW.claim.pre args=true) (hwl:WellAll P h vals args) :
  ∃a vs ns,vals=[Value.ref a]/\args=[WData.list (ns.map WData.int)]/\h.get? a=some { cls:=.type "list",data:=.seq vs.toArray }/\IntsAre vs ns/\ns.length<=n:=by
 have hsh:WShape.hasAll [] args [.list .int]=true:=(pre_splitW hpre).1;have hc:l.pre.holds [] { args:=args }=true:=(pre_splitW hpre).2;obtain⟨d,r,rfl,h1,h2⟩:=hasAllW_cons hsh;obtain rfl:=hasAllW_nil h2;obtain⟨xs,rfl,h3⟩:=hasW_list h1;obtain⟨ns,rfl⟩:=items_int h3;have hlen:ns.length<=n:=by
  unfold OpenLaw.pre at hc;have h4:(WTm.not (.lt (.lit (.int (n:Int))) (.len (.arg 0)))).holds [] { args:=[.list (ns.map .int)] }=true:=by
   have h4:=(holds_andW hc).1;rw[hn]at h4;exact h4
  have h5:=condW_of h4 (w_not (w_lt w_lit (w_len_list (w_arg rfl))));rw[List.length_map]at h5;refine Nat.le_of_not_lt fun q=>?_
  have q':(n:Int)<((ns.length:Nat):Int):=by lia
  first
   | (rw[decide_eq_true q']at h5;exact absurd h5 (by decide))
   | (simp at h5;lia)
 cases hwl with
 | cons w1 w2 =>
  cases w2;cases w1 with
  | list ho hall=>exact⟨_,_,ns,rfl,rfl,ho,zco ns _ hall,hlen⟩
theorem zfU(l:OpenLaw)(args:List WData):l.row.toRowW.claim.post args (.bool true) args=true :=
 postW_of (r:=l.row.toRowW) (X:=(true == true))
  (show WShape.has [] (.bool true) .bool=true by first|rfl|decide|simp[WShape.has,WShape.arms,WShape.armsAll])
  (show(WTm.eq .res (.lit (.bool true))).value [] { args:=args,res:=some (.bool true),after:=args }=some (.bool (true == true)) from w_eq_bool (w_res rfl) w_lit) rfl
theorem attach_call{l:OpenLaw}{n:Nat}{q:Program}{loose:List Str}{XP:(Str->Option Value)->Heap->Prop}{YP:World->Heap->Prop}{d:DefRec}
  (hn:l.most=some n) (hdf:d.params.defaults=[])
  (call:∀(w:World) (s₀ s₁:Shared) (mg mb:qM) (fa:Addr) (o:Obj) (pm cd doc:Value) (a:Addr) (vs:List Value) (ns:List Int),
   Ground q loose [] XP w s₀ mg mb s₁.heap->YP w s₁.heap ->
   s₁.heap.get? fa=some o->o.data=.func (docDef d.name d.params d.body d.scope pm cd doc)->s₁.heap.CodeRec cd d.name->mg d.name=some (.ref fa) ->
   s₁.heap.get? a=some { cls:=.type "list",data:=.seq vs.toArray }->IntsAre vs ns->ns.length<=n->s₁.gens=#[] ->
   codeAny (model l.prog w) callerA (.call (.ref fa) ⟨[.ref a],[]⟩) (fun r s'=>r=.ok (.ret (.bool true))/\OldK s₁.heap s'.heap/\s'.os=s₁.os/\AllBare s'.gens) s₁) :
  WalkO q loose XP YP l.row.toRowW d [] (fun f vs=>PySem.call f vs):=by
 intro w s₀ s₁ mg mb G Y fa o pm cd doc dV kV ho hd hcd hD hmg hg args vals as hpre hlay hrd hwl hlo;obtain rfl:dV=.none:=Dflts.none hD hdf;obtain rfl:kV=.none:=Dflts.noKw hD;obtain⟨a,vs,ns,rfl,rfl,hobj,hints,hlen⟩:=zfM hn hpre hwl;refine enter_call (codeAny_mono (call w s₀ s₁ mg mb fa o pm cd doc a vs ns G Y ho (fd_plain hd) hcd hmg hobj hints hlen hg) fun r s' hq=>?_)
 obtain⟨rfl,h2,h3,h4⟩:=hq;exact⟨.inl ⟨.bool true,.bool true,[],rfl,fun _=>rfl,.bool true,zfU l _,fun _=>⟨List.Pairwise.nil,fun _ hm=>(nomatch hm)⟩⟩,h2,h3,h4⟩
end Att
namespace L2
open PySem PySem.Spec PyProof.Rows
theorem zdi:∀{vs:List Value}{ns:List Int},IntsAre vs ns->Vals (ns.map V.int) vs
 | _,_,.nil=>.nil
 | _,_,.cons n t h=>.cons ⟨t,rfl⟩ (zdi h)
def Only(H:Hp):Prop:=∀b,H b=none\/∃o xs,H b=some (.frz o (.lst xs))
theorem zhA{P:Program}{w:World}{K:qF}{mg mb:qM}{CX:CXT}{k:Nat}{fa a:Addr}{fd:FuncData}{x:Str}{sp:Sp}{s₁:Shared}{vs:List Value}{ns:List Int}
  (KX:K.In s₁.heap) (hns:s₁.heap.Ns mainGlobals mg) (hb:s₁.heap.Ns builtinsNs mb) (hbb:∀x:Str,x ≠ "__name__" -> mb x=bootBuiltins x) (hlim:s₁.heap.NoLimit) (hg:s₁.gens=#[])
  (ha:s₁.heap.get? a=some { cls:=.type "list",data:=.seq vs.toArray }) (hi:IntsAre vs ns) (hl:ns.length<=sizeLine) (hr:Room k callerA)
  (F:∀base:Heap,K.In base->base.Ns mainGlobals mg->FnOk P w K mg base CX k fa fd [x] sp) (hbind:∀(s:Shared) (u:Value),BindsTo s fd ⟨[u],[]⟩ [(x,u)])
  (hsp:∀H:Hp,Only H->SqL K H a (ns.map V.int)->sp [.ref a] H (fun v _=>v=.bl true) fun _ _ _=>False)
  (hCX:∀H e s',CX [] H s₁ (fun _ _ _=>False) e s'->False) :
  codeAny (model P w) callerA (.call (.ref fa) ⟨[.ref a],[]⟩) (fun r s'=>r=.ok (.ret (.bool true))/\OldK s₁.heap s'.heap/\s'.os=s₁.os/\AllBare s'.gens) s₁:=by
 have rv:=zdi hi;have lenV:=hi.length;have core:∀H:Hp,Only H->SqL K H a (ns.map V.int)->HOk P w H s₁.heap->(∀b,H b≠none->b=a)->(H a≠none->K.lookup a=none) ->
   codeAny (model P w) callerA (.call (.ref fa) ⟨[.ref a],[]⟩) (fun r s'=>r=.ok (.ret (.bool true))/\OldK s₁.heap s'.heap/\s'.os=s₁.os/\AllBare s'.gens) s₁:=by
  intro H hO hS hok hA hK;have base_of:∀{b:Addr} {o:Obj},s₁.heap.get? b=some o->H b=none->(hidT s₁.heap H).get? b=some o:=fun e n=>zhL e n
  have noA:∀{b:Addr} {o:Obj} {es:Array DictEntry} {ep:Nat},s₁.heap.get? b=some o->o.data=.dict es ep->H b=none:=fun {b o es ep} e d=>by
   cases q:H b with
   | none=>rfl
   | some u =>
    have e':b=a:=hA b (by rw[q];simp)
    subst e';rw[ha]at e;cases e;have d':Data.seq vs.toArray _=Data.dict es ep:=d;cases d'
  have nsK:∀{b:Addr} {m:qM},s₁.heap.Ns b m->(hidT s₁.heap H).Ns b m:=fun {b m} ⟨o,es,ep,e,d,r⟩=>⟨o,es,ep,base_of e (noA e d),d,r⟩
  have hKb:K.In (hidT s₁.heap H):=fun b o e=>base_of (KX b o e) (by
   cases q:H b with
   | none=>rfl
   | some u =>
    have e':b=a:=hA b (by rw[q];simp)
    subst e';rw[hK (by rw[q];simp)]at e;cases e)
  have hM:Mod K mg (hidT s₁.heap H):=⟨hKb,nsK hns,⟨mb,nsK hb,hbb⟩,let ⟨mc,h1,h2⟩:=hlim;⟨mc,nsK h1,h2⟩⟩
  have e0:Env0 P w K mg (hidT s₁.heap H) callerA [] s₁ H:=⟨rfl,hM,fun b o e=>zi1 e,Nat.le_of_eq (zgB _ _),trivial,fun b hb=>absurd (show b∈([]:List Addr) from hb) (by simp),hok,.of_eq hg⟩
  refine codeAny_mono ((F _ hKb (nsK hns)).run callerA [] s₁ H ⟨[.ref a],[]⟩ [.ref a] [.ref a] _ _ hr e0 (hbind s₁ (.ref a)) (.cons rfl .nil) (hsp H hO hS)) fun r s' h=>?_
  cases r with
  | error e=>exact(hCX H e s' h).elim
  | ok fl =>
   cases fl with
   | next=>exact False.elim h
   | brk=>exact False.elim h
   | cont=>exact False.elim h
   | ret u =>
    obtain⟨v,H',os,bare,un,hok',r',q⟩:=h;have q':v=.bl true:=q;subst q';obtain rfl:u=Value.bool true:=r';refine⟨rfl,OldK.of_keep fun b o e=>?_,os,bare⟩
    cases q:H b with
    | none=>exact un.keep b o e q (by intro z;exact absurd (show b∈([]:List Addr) from z) (by simp)) (by simp)
    | some u =>
     rcases hO b with z|⟨ob,xs,z⟩
     ·rw[q]at z;cases z
     ·have z2:=un.frzs b ob _ z;obtain⟨e1,_⟩:=hok b _ z;obtain⟨e2,_⟩:=hok' b _ z2;rw[e]at e1;cases e1;exact e2
 cases hk:K.lookup a with
 | some o =>
  have e:=KX a o hk;rw[ha]at e;cases e;refine core (fun _=>none) (fun _=>.inl rfl) (.inr ⟨_,vs.toArray,_,hk,rfl,rfl,rfl,by rw[List.size_toArray,lenV];exact hl,by simpa using rv⟩) (fun b u z=>by have z':(none:Option HO)=some u:=z;cases z') (fun b z=>absurd rfl z) fun z=>absurd rfl z
 | none =>
  refine core (fun b=>if b=a then some (.frz { cls:=.type "list",data:=.seq vs.toArray } (.lst (ns.map V.int))) else none) (fun b=>?_) (.inl (.inr ⟨{ cls:=.type "list",data:=.seq vs.toArray },if_pos rfl⟩)) (fun b u z=>?_) (fun b z=>?_) fun _=>hk
  ·by_cases hb:b=a
   ·exact .inr ⟨_,_,if_pos hb⟩
   ·exact .inl (if_neg hb)
  ·by_cases hb:b=a
   ·have z':=(if_pos hb).symm.trans z;cases z';subst hb;exact⟨ha,by rw[List.length_map];exact hl,vs,_,rv,ha⟩
   ·have z':=(if_neg hb).symm.trans z;cases z'
  ·by_cases hb:b=a
   ·exact hb
   ·exact absurd (if_neg hb) z
def J1(s:Stmt):Arguments:=match s with
 | .FunctionDef _ a _ _ _ _ _ _ _ _=>a
 | _=>{ posonlyargs:=[],args:=[],vararg:=none,kwonlyargs:=[],kw_defaults:=[],kwarg:=none,defaults:=[] }
def JK(s:Stmt):List Stmt:=match s with
 | .FunctionDef _ _ b _ _ _ _ _ _ _=>b
 | _=>[]
def Jh(s:Stmt):Scope:=match s with
 | .FunctionDef _ _ _ _ _ _ sc _ _ _=>sc
 | _=>{ kind:=.function,names:=[],isGenerator:=false,isCoroutine:=false }
abbrev CX0:CXT:=fun _ _ _ _ _ _=>False
abbrev E0:XK:=fun _ _ _=>False
theorem zmJ{X:Cx}:zhb CX0 X E0:=fun _ _ _ _ _ _ _ h=>h.elim
structure Fun(K:qF)(x qual:Str)(st:Stmt)(f:Addr)(fd:FuncData):Prop where
 ex:∃(oc:Value) (od:Option Addr) (kV doc pm:Value) (an:Option Addr) (cdv ct:Value) (osl:Array (Option Value)),
  fd=PySem.W.fnOf x qual (J1 st) (JK st) (Jh st) .none kV doc pm an cdv ct/\K.lookup f=some ⟨oc,od,.func fd,osl⟩/\PySem.W.codeIn K cdv qual=true
 kp:PySem.W.keepIn K (.ref f)=true
section
variable{P:Program}{w:World}{K:qF}{mg:qM}{base:Heap}
theorem Fun.ok{x qual:Str}{st:Stmt}{f:Addr}{fd:FuncData}{N ps:List Str}{k:Nat}{sp:Sp}(F:Fun K x qual st f fd)(S:FnScope N ps (Jh st))(len:∀vs H Q E,sp vs H Q E->vs.length=ps.length)
  (hbody:∀(cdv:Value) (A:Around) (outer:List Env) (s:Shared) (H:Hp) (vs:List V) (Q:VK) (E:XK),Room k (A.deeper (envOfC qual (Jh st) s.heap.objs.size f cdv))->sp vs H Q E ->
   ∃t,PSs (cxOf CX0 P w K mg base N qual (Jh st) f cdv A outer s H E).nox (JK st) t/\t { nx:=fun _ H'=>Q .non H',rt:=Q } (start N vs) H):FnOk P w K mg base CX0 (k+1) f fd ps sp:=by
 obtain⟨oc,od,kV,doc,pm,an,cdv,ct,osl,rfl,lk,hcd⟩:=F.ex;refine zno lk hcd S len fun A outer s H vs Q E hr hsp=>?_
 obtain⟨t,h,q⟩:=hbody cdv A outer s H vs Q E hr hsp;exact⟨t,h.nox,q⟩
theorem Fun.binds{x qual:Str}{st:Stmt}{f:Addr}{fd:FuncData}{ps:List Str}(F:Fun K x qual st f fd)
  (h:∀(kV doc pm:Value) (an:Option Addr) (cdv ct:Value) (us:List Value),us.length=ps.length->bindArgs (PySem.W.fnOf x qual (J1 st) (JK st) (Jh st) .none kV doc pm an cdv ct) ⟨us,[]⟩=pure (ps.zip us)):Binds K fd ps []:=by
 obtain⟨oc,od,kV,doc,pm,an,cdv,ct,osl,rfl,lk,hcd⟩:=F.ex;exact .all (h kV doc pm an cdv ct)
theorem zio{x qual:Str}{st:Stmt}{f:Addr}{oc:Value}{od an:Option Addr}{osl:Array (Option Value)}{kV doc pm cdv ct:Value}(l:K.lookup f=some ⟨oc,od,.func (PySem.W.fnOf x qual (J1 st) (JK st) (Jh st) .none kV doc pm an cdv ct),osl⟩)
  (c:PySem.W.codeIn K cdv qual=true) (k:PySem.W.keepIn K (.ref f)=true):Fun K x qual st f (PySem.W.fnOf x qual (J1 st) (JK st) (Jh st) .none kV doc pm an cdv ct):=⟨⟨oc,od,kV,doc,pm,an,cdv,ct,osl,rfl,l,c⟩,k⟩
end
section
variable{X:Cx}
theorem pv(i:Nat){x:Str}{pos:Pos}(hN:X.N[i]?=some x:=by rfl)(hv:Vis X.env.scope x:=by walk_at "V")(hd:(x == ("__debug__":Str))=false:=by decide)
  (hcd:(x == ("__classdict__":Str))=false:=by decide):PE X (.Name x pos) (tVar i):=Qs hN hv hd hcd
end
theorem iteF{A B:Prop}(h:B):if false=true then A else B:=by
 rw[if_neg Bool.false_ne_true];exact h
theorem iteT{A B:Prop}(h:A):if true=true then A else B:=by
 rw[if_pos rfl];exact h
def Same(H H':Hp):Prop:=∀b o,H b=some o->H' b=some o
theorem Same.refl(H:Hp):Same H H:=fun _ _ h=>h
def closed(env:Env):List (Str×NameKind)->List (Str×Addr)->List (Str×Addr)
 | [],acc=>acc
 | (n,k)::r,acc=>closed env r (if (k == .free)=true then(n,(env.cells.lookup n).getD 0)::acc else acc)
theorem zcz{env:Env}:∀(l:List (Str×NameKind)) (acc:List (Str×Addr)),(∀x∈l,x.2=.free->∃c,env.cells.lookup x.1=some c) ->
  (forIn l acc fun x __s=>if (x.snd == NameKind.free)=true then do
    let c <- cellOf env x.fst
    pure (ForInStep.yield ((x.fst,c)::__s))
   else pure (ForInStep.yield __s):Sem (List (Str×Addr)))=pure (closed env l acc)
 | [],acc,_=>rfl
 | (n,k)::r,acc,h=>by
  have ih:=fun a=>zcz (env:=env) r a fun x hx=>h x (List.mem_cons_of_mem _ hx)
  rw[List.forIn_cons]
  by_cases e:(k == NameKind.free)=true
  ·obtain⟨c,hc⟩:=h (n,k) List.mem_cons_self (by simpa using e)
   have hc':List.lookup n env.cells=some c:=hc;have e2:cellOf env n=pure c:=by unfold cellOf;rw[hc']
   simp only[e,if_true,e2,pure_bind];rw[ih]
   conv=>rhs;unfold closed
   simp only[e,if_true,hc',Option.getD_some]
  ·have e0:(k == NameKind.free)=false:=by simpa using e
   simp only[e0,Bool.false_eq_true,if_false,pure_bind];rw[ih]
   conv=>rhs;unfold closed
   simp only[e0,Bool.false_eq_true,if_false]
theorem zbc{scope:Scope}{env:Env}(h:∀x∈scope.names,x.2=.free->∃c,env.cells.lookup x.1=some c):closureFor scope env=pure (closed env scope.names []):=by
 simp only[closureFor];rw[zcz scope.names [] h]
 rfl
theorem Ul{env:Env}:∀(l:List (Str×NameKind)) (acc:List (Str×Addr)),(∀x∈l,x.2=.free->∃c,env.cells.lookup x.1=some c) ->
  (∀x c,acc.lookup x=some c->env.cells.lookup x=some c)->∀x c,(closed env l acc).lookup x=some c->env.cells.lookup x=some c
 | [],acc,_,ha=>ha
 | (n,k)::r,acc,h,ha=>by
  unfold closed;refine Ul r _ (fun x hx=>h x (List.mem_cons_of_mem _ hx)) fun x c=>?_
  by_cases e:(k == NameKind.free)=true
  ·obtain⟨d,hd⟩:=h (n,k) List.mem_cons_self (by simpa using e)
   have hd':List.lookup n env.cells=some d:=hd;simp only[e,if_true,hd',Option.getD_some];intro q;rw[List.lookup_cons]at q
   by_cases ex:(x == n)=true
   ·simp only[ex]at q;have ex':x=n:=by simpa using ex
    cases q;rw[ex'];exact hd'
   ·have ex2:(x == n)=false:=by simpa using ex
    simp only[ex2]at q;exact ha x c q
  ·have e0:(k == NameKind.free)=false:=by simpa using e
   simp only[e0,Bool.false_eq_true,if_false];exact ha x c
theorem zcV{env:Env}:∀(l:List (Str×NameKind)) (acc:List (Str×Addr)) (x:Str),(∃c,acc.lookup x=some c)->∃c,(closed env l acc).lookup x=some c
 | [],_,_,h=>h
 | (n,k)::r,acc,x,h=>by
  unfold closed;refine zcV r _ x ?_
  by_cases e:(k == NameKind.free)=true
  ·simp only[e,if_true];rw[List.lookup_cons];cases(x == n) with
   | true=>exact⟨_,rfl⟩
   | false=>exact h
  ·have e0:(k == NameKind.free)=false:=by simpa using e
   simp only[e0,Bool.false_eq_true,if_false];exact h
theorem zbU{env:Env}:∀(l:List (Str×NameKind)) (acc:List (Str×Addr)) (x:Str),(x,NameKind.free)∈l->∃c,(closed env l acc).lookup x=some c
 | [],_,_,h=>nomatch h
 | (n,k)::r,acc,x,h=>by
  unfold closed;rcases List.mem_cons.mp h with e|h
  ·cases e;refine zcV r _ _ ?_;have hh:(NameKind.free == NameKind.free)=true:=rfl;simp only[hh,if_true];rw[List.lookup_cons];simp
  ·exact zbU r _ x h
theorem lookup_mem{α:Type}{l:List (Str×α)}{x:Str}{v:α}(h:l.lookup x=some v):(x,v)∈l:=by
 induction l with
 | nil=>simp at h
 | cons p r ih =>
  obtain⟨n,w⟩:=p;rw[List.lookup_cons]at h
  by_cases e:(x == n)=true
  ·simp only[e]at h;cases h;have e':x=n:=by simpa using e
   rw[e'];exact List.mem_cons_self
  ·have e2:(x == n)=false:=by simpa using e
   simp only[e2]at h;exact List.mem_cons_of_mem _ (ih h)
def Qn(env:Env)(p:Str×NameKind):Str×NameKind:=if (p.2 == NameKind.free&&env.scope.kind == .function&&env.kindOf p.1 == some .cell)=true then(p.1,.cell) else p
theorem zfS(env:Env)(p:Str×NameKind):(Qn env p).1=p.1:=by
 unfold Qn
 by_cases c:(p.2 == NameKind.free&&env.scope.kind == .function&&env.kindOf p.1 == some .cell)=true
 ·rw[if_pos c]
 ·rw[if_neg c]
def kin(env:Env)(x:Str):Option NameKind->Option NameKind
 | some .free=>if (env.scope.kind == .function&&env.kindOf x == some .cell)=true then some .cell else some .free
 | o=>o
theorem zfR(env:Env)(x:Str)(k:NameKind):some (Qn env (x,k)).2=kin env x (some k):=by
 unfold Qn
 by_cases c:(k == NameKind.free&&env.scope.kind == .function&&env.kindOf x == some .cell)=true
 ·rw[if_pos c];rw[Bool.and_eq_true,Bool.and_eq_true]at c;have k':k=.free:=by simpa using c.1.1
  subst k';unfold kin;rw[if_pos (by rw[Bool.and_eq_true];exact⟨c.1.2,c.2⟩)]
 ·rw[if_neg c];cases k with
  | free =>
   have:¬(env.scope.kind == .function&&env.kindOf x == some .cell)=true:=fun z=>c (by
    have hh:(NameKind.free == NameKind.free)=true:=rfl;rw[hh,Bool.true_and];exact z)
   unfold kin;rw[if_neg this]
  | _=>rfl
theorem zcZ(scope:Scope)(env:Env):(relabel scope env).names=scope.names.map (Qn env):=by
 show scope.names.map _=_
 refine List.map_congr_left fun p _=>?_
 obtain⟨n,k⟩:=p
 rfl
theorem zcN(env:Env):∀(l:List (Str×NameKind)) (x:Str),(l.map (Qn env)).lookup x=kin env x (l.lookup x)
 | [],_=>rfl
 | (n,k)::r,x=>by
  have ih:=zcN env r x;have e0:Qn env (n,k)=(n,(Qn env (n,k)).2):=Prod.ext (zfS env (n,k)) rfl;rw[List.map_cons,e0,List.lookup_cons,List.lookup_cons]
  by_cases e:(x == n)=true
  ·have e':x=n:=by simpa using e
   subst e';simp only[beq_self_eq_true];exact zfR env x k
  ·have e2:(x == n)=false:=by simpa using e
   simp only[e2];exact ih
theorem zbZ(scope:Scope)(env:Env)(x:Str):(relabel scope env).names.lookup x=kin env x (scope.names.lookup x):=by
 rw[zcZ];exact zcN env _ x
abbrev capN(X:Cx)(capt:List Nat):List Str:=capt.map fun i=>X.N.getD i Str.empty
abbrev capS(capt:List Nat)(σ:St):St:=capt.map fun i=>σ.getD i none
abbrev Jn(own:List Str):St:=own.map fun _=>none
abbrev Jb(X:Cx)(scope:Scope)(own:List Str)(capt:List Nat)(C:Addr)(s₀:Shared)(H₀:Hp)(fp:List Addr):Cx :=
 { X with N:=own++capN X capt,s₀:=s₀,H₀:=H₀,env:=compEnvC scope (closed X.env scope.names []) C X.env,outer:=X.stack,stack:=X.stack,ex:=fp,fn:=fun _=>false,pn:=[],xe:=fun _ _=>False }
structure CompScope(scope:Scope)(own:List Str)(capt:List Nat)(X:Cx):Prop where
 kind:scope.kind=.function
 nocell:∀y∈scope.names,y.2≠.cell
 names:∀y∈scope.names,y.2=.local->scope.names.lookup y.1=some .local
 frees:∀y∈scope.names,y.2=.free->X.env.kindOf y.1=some .cell\/X.env.kindOf y.1=some .free
 caps:∀k∈capt,scope.names.lookup (X.N.getD k Str.empty)=some .free
theorem getD_some{α:Type}{l:List (Option α)}{k:Nat}{v:α}(h:l.getD k none=some v):l[k]?=some (some v):=by
 rw[List.getD_eq_getElem?_getD]at h;cases e:l[k]? with
 | none=>rw[e]at h;cases h
 | some o=>rw[e]at h;simp at h;rw[h]
section
variable{X:Cx}{scope:Scope}{own:List Str}{capt:List Nat}
theorem CompScope.cells(S:CompScope scope own capt X)(ok:X.Ok):∀x∈scope.names,x.2=.free->∃c,X.env.cells.lookup x.1=some c:=fun x hx hf=>ok.has x.1 (S.frees x hx hf)
theorem zju{pins:qO}{σ:St}{H₀:Hp}{s₀:Shared}{C:Addr}{fp:List Addr}(S:CompScope scope own capt X)(I:Inv X pins σ H₀ s₀)(hf:∀b∈fp,FpOk X pins H₀ b)(hfp:∀b∈fp,b<s₀.heap.objs.size)(hC:s₀.heap.objs.size<=C) :
  (Jb X scope own capt C s₀ H₀ fp).Ok:=by
 have sub:=Ul scope.names [] (S.cells I.ok) (fun x c h=>nomatch (show(none:Option Addr)=some c from h))
 refine⟨I.ok.mod,S.kind,I.ok.glob,I.ok.blt,hC,fun x y c h1 h2=>I.ok.inj x y c (sub x c h1) (sub y c h2),fun x hk=>?_,fun x c z=>absurd (show false=true from z) Bool.false_ne_true,I.ok.hd,I.ok.frames,.inl rfl,fun b hb=>?_,I.bs,Nat.le_trans I.ok.bsz I.sz,fun b o e hb=>?_,fun b hb z=>?_,I.stack,I.stkFree⟩
 ·have e:=zbZ scope X.env x;have hk':(relabel scope X.env).names.lookup x=some .cell\/(relabel scope X.env).names.lookup x=some .free:=hk;rw[e]at hk';cases q:scope.names.lookup x with
  | none=>rw[q]at hk';rcases hk' with z|z <;> cases z
  | some k =>
   rw[q]at hk';cases k with
   | free=>exact zbU scope.names [] x (lookup_mem q)
   | cell=>exact absurd rfl (S.nocell _ (lookup_mem q))
   | _=>rcases hk' with z|z <;> cases z
 ·obtain⟨f0,f1,f2,f3,f4,f5⟩:=hf b hb;exact⟨Nat.ne_of_lt (Nat.lt_of_lt_of_le (hfp b hb) hC),fun x c e=>f4 x c (sub x c e)⟩
 ·obtain⟨f0,f1,f2,f3,f4,f5⟩:=hf b hb;rcases f3 with z|z
  ·exact I.ok.noex b o e z
  ·exact absurd (Nat.lt_of_lt_of_le (Heap.lt_size (I.ok.bs b o e).1) z) (Nat.lt_irrefl _)
 ·obtain⟨f0,f1,f2,f3,f4,f5⟩:=hf b hb;rcases List.mem_cons.mp (I.stkSub b z) with q|q
  ·exact f1 q
  ·exact f2 q
theorem ze2{pins:qO}{σ:St}{H₀:Hp}{s₀:Shared}{fp:List Addr}{h':Heap}{D C:Addr}{tk:Nat}(S:CompScope scope own capt X)(I:Inv X pins σ H₀ s₀)(hf:∀b∈fp,FpOk X pins H₀ b)(hfp:∀b∈fp,b<s₀.heap.objs.size)
  (hD:s₀.heap.objs.size<=D) (hC:s₀.heap.objs.size<=C) (hDC:D≠C) (old:∀b o,s₀.heap.get? b=some o->h'.get? b=some o) (hns:h'.Ns C (fun _=>none)) (hacc:h'.get? D=some { cls:=.type "list",data:=.seq ([]:List Value).toArray 0 }) :
  Inv (Jb X scope own capt C s₀ H₀ fp) [] (Jn own++capS capt σ) (upd H₀ D (.lst [])) { s₀ with heap:=h',toks:=tk }:=by
 have ok:=zju S I hf hfp hC;have sub:=Ul scope.names [] (S.cells I.ok) (fun x c h=>nomatch (show(none:Option Addr)=some c from h))
 have hn:H₀ D=none:=I.hok.fresh hD;refine⟨ok,rfl,I.bare,Un.laid old hD hn,⟨_,hns,fun i x v e1 e2 e3=>?_⟩,fun x c e=>?_,?_,fun x c e=>?_,fun p hp=>absurd (show p∈([]:qO) from hp) (by simp),I.hok.laid (o:=.lst []) old hD (show JF X.prog X.w _ h' D (.lst []) from⟨Nat.zero_le _,[],0,.nil,hacc⟩),(by show(Jn own++capS capt σ).length=(own++capN X capt).length;simp[Jn,capS,capN])⟩
 ·have hlen:(Jn own).length=own.length:=List.length_map ..
  by_cases hi:i<own.length
  ·rw[List.getElem?_append_left (by rw[hlen];exact hi)]at e2
   unfold Jn at e2;rw[List.getElem?_map]at e2;cases q:own[i]? with
   | none=>rw[q]at e2;cases e2
   | some z=>rw[q]at e2;cases e2
  ·have hi':own.length<=i:=Nat.le_of_not_lt hi;have e1':(own++capN X capt)[i]?=some x:=e1;rw[List.getElem?_append_right hi']at e1';rw[List.getElem?_append_right (by rw[hlen];exact hi'),hlen]at e2
   unfold capN at e1';unfold capS at e2;rw[List.getElem?_map]at e1' e2;cases q:capt[i - own.length]? with
   | none=>rw[q]at e1';cases e1'
   | some k =>
    rw[q]at e1' e2;have ex:X.N.getD k Str.empty=x:=Option.some.inj e1';have ev:σ.getD k none=some v:=Option.some.inj e2;have hk:k∈capt:=List.mem_of_getElem? q;have hv:=getD_some ev;have hlt:k<X.N.length:=by
     rw[<- I.len];exact(List.getElem?_eq_some_iff.mp hv).1
    have hx:X.N[k]?=some x:=by
     rw[List.getD_eq_getElem?_getD,List.getElem?_eq_getElem hlt]at ex;rw[List.getElem?_eq_getElem hlt];exact congrArg some ex
    have hfree:=S.caps k hk;rw[ex]at hfree;have hkind:=S.frees _ (lookup_mem hfree) rfl;obtain⟨m,hm,hl⟩:=I.loc;have vis:Vis X.env.scope x:=by
     rcases hkind with z|z
     ·exact .inr (.inl z)
     ·exact .inr (.inr z)
    obtain⟨u,r,l⟩:=hl k x v hx hv vis;refine⟨u,r,.inr ⟨?_,?_⟩⟩
    ·have e:=zbZ scope X.env x;rw[hfree]at e;show(relabel scope X.env).names.lookup x=some .cell\/(relabel scope X.env).names.lookup x=some .free
     rw[e];unfold kin
     by_cases c:(X.env.scope.kind == .function&&X.env.kindOf x == some .cell)=true
     ·rw[if_pos c];exact .inl rfl
     ·rw[if_neg c];exact .inr rfl
    ·rcases l with⟨z,_⟩|⟨_,c,hc,hcell⟩
     ·rcases hkind with y|y <;> (have y':X.env.kindOf x=_:=y;rw[z]at y';cases y')
     ·obtain⟨d,hd⟩:=zbU (env:=X.env) scope.names [] x (lookup_mem hfree);have:=sub x d hd;rw[hc]at this;cases this;obtain⟨o,ho,hod⟩:=hcell;exact⟨c,hd,o,old _ _ ho,hod⟩
 ·obtain⟨v,o,ho,hd⟩:=I.cell x c (sub x c e);exact⟨v,o,old _ _ ho,hd⟩
 ·show upd H₀ D (.lst []) C=none
  rw[Je (Ne.symm hDC)];exact I.hok.fresh hC
 ·obtain⟨v,o,ho,hd⟩:=I.cell x c (sub x c e);show upd H₀ D (.lst []) c=none
  rw[Je (Nat.ne_of_lt (Nat.lt_of_lt_of_le (Heap.lt_size ho) hD))];exact I.freeC x c (sub x c e)
theorem ze1{pins pins':qO}{σ σ':St}{H₀ H':Hp}{s₀ s':Shared}{fp:List Addr}{h'':Heap}{C:Addr}(I:Inv X pins σ H₀ s₀)(hf:∀b∈fp,FpOk X pins H₀ b)(hC:s₀.heap.objs.size<=C)
  (J:Inv (Jb X scope own capt C s₀ H₀ fp) pins' σ' H' s') (sb:Heap.SameBut C s'.heap h''):Inv X pins σ H' { s' with heap:=h'' }:=by
 have hCn:H' C=none:=J.free;have neC:∀b o,s₀.heap.get? b=some o->b≠C:=fun b o e=>Nat.ne_of_lt (Nat.lt_of_lt_of_le (Heap.lt_size e) hC)
 have u:Un (frs X.stack) fp H₀ H' s₀.heap s'.heap:=J.base;have u2:Un (frs X.stack) fp H₀ H' s₀.heap h'':=by
  refine⟨fun b o q n h1 h2=>(sb.2 b (neC b o q)).trans (u.keep b o q n h1 h2),fun b o q n h1 h2=>?_,u.free,fun b o q h2=>?_,u.tups,u.frzs,u.tbls⟩
  ·obtain⟨sl,e⟩:=u.slot b o q n h1 h2;exact⟨sl,(sb.2 b (neC b o q)).trans e⟩
  ·obtain⟨o',e⟩:=u.there b o q h2;exact⟨o',(sb.2 b (neC b o q)).trans e⟩
 have hok:HOk X.prog X.w H' h'':=fun b ob e=>by
  refine(J.hok b ob e).stay (fun c v hc q=>(sb.2 c ?_).trans q) (fun _ q=>q) fun _ _ q=>q
  rintro rfl;rcases hc with z|z
  ·subst z;rw[hCn]at e;cases e
  ·rw[hCn]at z;cases z
 refine I.call' (s':={ s' with heap:=h'' }) J.os u2 hok J.bare fun b hb=>?_
 obtain⟨f0,f1,f2,f3,f4,f5⟩:=hf b hb;exact⟨f3,f1,f4,f5⟩
end
def PTs(Y:Cx)(ifs:List Expr)(t:TT):Prop :=
 ∀(pins:qO) (s:Shared) (σ:St) (H:Hp) (Q:Bool->Hp->Prop),Inv Y pins σ H s->t σ H Q ->
  wpAny (model Y.prog Y.w) Y.A (forIn ifs true fun c r=>if r=true then do let ok <- isTrue c Y.env (eval c Y.env);pure (ForInStep.yield ok) else pure (ForInStep.yield r)) (TP Y pins σ Q) Y.xe s
def tYes:TT:=fun _ H Q=>Q true H
theorem ziM{Y:Cx}:PTs Y [] tYes:=fun _ _ _ H _ I h=>wpAny_tests_nil ⟨H,I,h⟩
theorem ziL{Y:Cx}{c:Expr}{t:TT}(h:PT Y c t):PTs Y [c] t:=fun pins s σ H Q I q=>wpAny_tests_one (h pins s σ H Q I q)
abbrev NoX:Value->Shared->Prop:=fun _ _=>False
theorem zfw{prog:Program}{w:World}{A:Around}{R:Result->Shared->Prop}{s:Shared}{elt target iter:Expr}{ifs:List Expr}{scope:Scope}{pos:Pos}{it acc:Value}{env:Env}(I:Nat->Shared->Prop)
  (turn:∀n s,I n s->wpAny (model prog w) A (pyNext it) (fun r s₁=>match r with
   | none=>R (.ok .next) s₁
   | some v=>wpAny (model prog w) A (letOwnedTupleGo target it v) (fun _ s₂=>wpAny (model prog w) A (assign target env v) (fun _ s₃ =>
     wpAny (model prog w) A (forIn ifs true fun c r=>if r=true then do let ok <- isTrue c env (eval c env);pure (ForInStep.yield ok) else pure (ForInStep.yield r)) (fun ok s₄ =>
      if ok=true then wpAny (model prog w) A (eval elt env) (fun x s₅=>wpAny (model prog w) A (call (.builtin "list.append") [acc,x]) (fun _ s₆=>∃m,m<n/\I m s₆) NoX s₅) NoX s₄
      else ∃m,m<n/\I m s₄) NoX s₃) NoX s₂) NoX s₁) NoX s) (n:Nat) (h:I n s) :
  codeAny (model prog w) A (.compLoop (.ListComp elt [⟨target,iter,ifs,0⟩] scope pos) 0 it acc env) R s:=by
 refine codeAny_loop rfl I (fun n s hI=>?_) n h
 show wpAny _ A ((compTurn (.ListComp elt [⟨target,iter,ifs,0⟩] scope pos) 0 it acc env).onRaise (fun x=>do noteFrame x env;theTreesLotGoes x)) _ _ s
 refine wpAny_noted (wpAny_mono (E:=NoX) ?_ (fun _ _ q=>q) fun _ _ z=>False.elim z)
 rw[compTurn_list];refine wpAny_bind (wpAny_standAt (wpAny_bind (thn (turn n s hI) fun r s₁ h₁=>?_)))
 cases r with
 | none=>exact wpAny_pure h₁
 | some v =>
  refine wpAny_bind (thn h₁ fun _ s₂ h₂=>wpAny_bind (thn h₂ fun _ s₃ h₃=>wpAny_bind (thn h₃ fun ok s₄ h₄=>?_)))
  cases ok with
  | false=>exact wpAny_pure ⟨rfl,h₄⟩
  | true =>
   refine wpAny_bind (wpAny_bind (thn h₄ fun x s₅ h₅=>wpAny_bind (thn h₅ fun _ s₆ h₆=>?_)))
   exact wpAny_pure (wpAny_pure ⟨rfl,h₆⟩)
def Wk:St->St->Prop
 | [],[]=>True
 | none::r,_::r'=>Wk r r'
 | some v::r,o::r'=>o=some v/\Wk r r'
 | _,_=>False
theorem Wk.weak:∀{σ σ':St},Wk σ σ'->σ.length=σ'.length/\∀(i:Nat) v,σ[i]?=some (some v)->σ'[i]?=some (some v)
 | [],[],_=>⟨rfl,fun _ _ h=>by simp at h⟩
 | none::r,o::r',h=>by
  obtain⟨a,b⟩:=Wk.weak (σ:=r) (σ':=r') h;refine⟨by simp[a],fun i v e=>?_⟩
  cases i with
  | zero=>simp at e
  | succ i=>simpa using b i v (by simpa using e)
 | some w::r,o::r',h=>by
  obtain⟨h0,h1⟩:o=some w/\Wk r r':=h;obtain⟨a,b⟩:=Wk.weak h1;refine⟨by simp[a],fun i v e=>?_⟩
  cases i with
  | zero=>rw[h0];simpa using e
  | succ i=>simpa using b i v (by simpa using e)
 | none::_,[],h=>False.elim h
 | some _::_,[],h=>False.elim h
 | [],_::_,h=>False.elim h
def zjC(own:List Str)(capt:List Nat)(g:TG)(tt:TT)(te:TE)(σ:St)(J:It)(H1:Hp)(D:Addr)(Q:VK):Prop:=∃W:Nat->Nat->Hp->Prop,(∃m,W 0 m (upd H1 D (.lst [])))/\∀i m H2,W i m H2 ->
 (J.stop i H2/\Q (.ref D) H2)\/(J.go i H2/\∃(N:V->Hp->Prop) (N':Hp->Prop),(∀v H6,N v H6->∃ys,H6 D=some (.lst ys)/\ys.length<sizeLine/\∃m',m'<m/\W (i+1) m' (upd H6 D (.lst (ys++[v]))))/\(∀H5,N' H5->∃m',m'<m/\W (i+1) m' H5) /\
  ∀x H3,J.yld i H2 x H3->g x (Jn own++capS capt σ) H3 fun σ4 H4=>Wk (Jn own++capS capt σ) σ4/\tt σ4 H4 fun b H5=>if b=true then te σ4 H5 N else N' H5)
def tComp(own:List Str)(capt:List Nat)(wi:TI)(g:TG)(tt:TT)(te:TE):TE:=fun σ H Q=>wi σ H fun J H1=>∀D,H1 D=none->zjC own capt g tt te σ J H1 D Q
section
variable{X:Cx}{scope:Scope}{own:List Str}{capt:List Nat}{elt tg iter:Expr}{ifs:List Expr}{pos:Pos}{wi:TI}{g:TG}{tt:TT}{te:TE}
theorem zhV(hc:X.calm=true)(S:CompScope scope own capt X)
  (hg:∀C s₀ H₀ fp,PG (Jb X scope own capt C s₀ H₀ fp) tg g) (ht:∀C s₀ H₀ fp,PTs (Jb X scope own capt C s₀ H₀ fp) ifs tt) (he:∀C s₀ H₀ fp,PE (Jb X scope own capt C s₀ H₀ fp) elt te)
  {pins:qO} {σ:St} {Q:VK} {itv:Value} {s2:Shared} {E:qV} {RR:Value->Addr->Result->Shared->Prop}
  (h2:PIE X pins σ tg (fun J H1=>∀D,H1 D=none->zjC own capt g tt te σ J H1 D Q) itv s2)
  (hR:∀D C s' H',(∃m,s'.heap.Ns C m)->(∀h'',Heap.SameBut C s'.heap h''->Inv X pins σ H' { s' with heap:=h'' })->H' C=none->FpOk X pins H' C->Q (.ref D) H'->RR (.ref D) C (.ok .next) s') :
  wpAny (model X.prog X.w) X.A (newList []) (fun acc s₃=>wpAny (model X.prog X.w) X.A (newFunctionEnv scope X.env.globals (closed X.env scope.names []) [] X.env.qual none .none (some X.env)) (fun cenv s₄ =>
   codeAny (model X.prog X.w) X.A (.compStart (.ListComp elt [⟨tg,iter,ifs,0⟩] scope pos) 0 itv acc { cenv with scope:=relabel scope X.env }) (RR acc cenv.locals) s₄) E s₃) E s2:=by
 obtain⟨it,fp,tn,J,H2,e,I2,T,st2,f2,rd⟩:=h2;subst e;have hfp:∀b∈fp,b<s2.heap.objs.size:=fun b hb=>by
  obtain⟨o,e,_⟩:=T.obj 0 _ st2 b hb;exact Heap.lt_size e
 refine wpAny_newObj_type (wpAny_newFunctionEnv S.nocell (by intro y hy;simp at hy) (fun h₁ hns₁ hsb₁=>?_) S.kind)
 dsimp only at hns₁ hsb₁ ⊢;generalize hH3:s2.heap.push { cls:=.type "list",dict:=none,data:=.seq ([]:List Value).toArray }=H3 at hns₁ hsb₁ ⊢;have hC:H3.objs.size=s2.heap.objs.size+1:=by rw[<- hH3,Heap.size_push]
 have hDC:s2.heap.objs.size≠H3.objs.size:=by rw[hC];exact Nat.ne_of_lt (Nat.lt_succ_self _)
 have hCle:s2.heap.objs.size<=H3.objs.size:=by rw[hC];exact Nat.le_succ _
 have neC:∀b o,s2.heap.get? b=some o->b≠H3.objs.size:=fun b o e=>Nat.ne_of_lt (Nat.lt_of_lt_of_le (Heap.lt_size e) hCle)
 have old:∀b o,s2.heap.get? b=some o->h₁.get? b=some o:=fun b o e=>hsb₁.extBut b o (neC b o e) (Heap.get?_push_of_some _ (hH3▸Heap.get?_push_of_some _ e))
 have hacc:h₁.get? s2.heap.objs.size=some { cls:=.type "list",data:=.seq ([]:List Value).toArray 0 }:=hsb₁.extBut _ _ hDC (Heap.get?_push_of_some _ (hH3▸Heap.get?_push_size _ rfl));have hnD:H2 s2.heap.objs.size=none:=I2.hok.fresh (Nat.le_refl _);obtain⟨W,⟨m0,w0⟩,turn⟩:=rd _ hnD;have hLC:H3.objs.size≠X.env.locals:=fun z=>by
  have h:=I2.lt;rw[<- z]at h;exact absurd h (Nat.not_lt.mpr hCle)
 have J0:∀tk,Inv (Jb X scope own capt H3.objs.size s2 H2 fp) [] (Jn own++capS capt σ) (upd H2 s2.heap.objs.size (.lst [])) { s2 with heap:=h₁,toks:=tk }:=fun tk =>
  ze2 (tk:=tk) S I2 f2 hfp (Nat.le_refl _) hCle hDC old hns₁ hacc
 have fr0:∀b∈fp,upd H2 s2.heap.objs.size (.lst []) b=none:=fun b hb=>by
  rw[Je (Nat.ne_of_lt (hfp b hb))];exact(f2 b hb).1
 have stat:∀{H':Hp},(∀b∈fp,H' b=none)->∀b∈fp,FpOk (Jb X scope own capt H3.objs.size s2 H2 fp) [] H' b:=fun hn b hb=>by
  obtain⟨g0,g1,g2,g3,g4,g5⟩:=f2 b hb;have sub:=Ul scope.names [] (S.cells I2.ok) (fun x c h=>nomatch (show(none:Option Addr)=some c from h))
  refine⟨hn b hb,Nat.ne_of_lt (Nat.lt_of_lt_of_le (hfp b hb) hCle),fun z=>?_,.inl hb,fun x c e=>g4 x c (sub x c e),fun p hp=>absurd (show p∈([]:qO) from hp) (by simp)⟩
  rcases List.mem_cons.mp (I2.stkSub b z) with q|q
  ·exact g1 q
  ·exact g2 q
 have loop:∀s₃:Shared,(∃tk,s₃={ s2 with heap:=h₁,toks:=tk }) ->
   codeAny (model X.prog X.w) X.A (.compLoop (.ListComp elt [⟨tg,iter,ifs,0⟩] scope pos) 0 (.ref it) (.ref s2.heap.objs.size) (compEnvC scope (closed X.env scope.names []) H3.objs.size X.env)) (RR (.ref s2.heap.objs.size) H3.objs.size) s₃:=by
  rintro s₃ ⟨tk,rfl⟩;refine zfw (fun n s'=>∃i H',Inv (Jb X scope own capt H3.objs.size s2 H2 fp) [] (Jn own++capS capt σ) H' s'/\tn i s'.heap/\(∀b∈fp,H' b=none)/\W i n H') ?_ m0
   ⟨0,_,J0 tk,T.keep _ _ _ st2 fun b hb o e=>old b o e,fr0,w0⟩
  rintro n s4 ⟨i,H4,I4,st4,fr4,w4⟩;rcases turn i n H4 w4 with⟨stop,qn⟩|⟨go,N,N',hN,hN',step⟩
  ·refine thn (T.done (Jb X scope own capt H3.objs.size s2 H2 fp) rfl rfl rfl hc i [] s4 _ H4 NoX I4 (stat fr4) st4 stop) fun r s5 ⟨hr,I5⟩=>?_
   subst hr;obtain⟨m,hn,_⟩:=I5.loc;exact hR _ _ s5 H4 ⟨m,hn⟩ (fun h'' sb=>ze1 I2 f2 hCle I5 sb) I5.free (I2.fpOk hCle I5.free) qn
  ·refine thn (T.item (Jb X scope own capt H3.objs.size s2 H2 fp) rfl rfl rfl hc i [] s4 _ H4 NoX I4 (stat fr4) st4 go) fun r s5 ⟨u,hr,h5⟩=>?_
   subst hr;refine thn h5 fun _ s6 ⟨x,H6,I6,r6,y6,st6,fr6⟩=>?_
   have I6':=I6.pinned (stat fr6) (T.obj _ _ st6);refine thn (hg _ _ _ _ _ s6 _ H6 x u _ I6' r6 (step x H6 y6)) fun _ s7 ⟨σ7,H7,I7,wk,q7⟩=>?_
   obtain⟨wl,wv⟩:=wk.weak;have again:∀{s8:Shared} {H8:Hp} {m':Nat},Inv (Jb X scope own capt H3.objs.size s2 H2 fp) ([]++QE fp s6.heap) σ7 H8 s8->m'<n->W (i+1) m' H8 ->
     ∃m,m<n/\∃i H',Inv (Jb X scope own capt H3.objs.size s2 H2 fp) [] (Jn own++capS capt σ) H' s8/\tn i s8.heap/\(∀b∈fp,H' b=none)/\W i m H':=fun {s8 H8 m'} I8 hm w8=>by
    refine⟨m',hm,i+1,H8,(I8.unpinned).weak wl wv,T.keep _ _ _ st6 fun b hb o e=>(I8.pin (b,o) (List.mem_append_right _ (List.mem_append_right _ (Qu hb e)))).1,fun b hb=>?_,w8⟩
    obtain⟨o,e,d⟩:=T.obj _ _ st6 b hb;exact(I8.pin (b,o) (List.mem_append_right _ (List.mem_append_right _ (Qu hb e)))).2.1
   refine thn (ht _ _ _ _ _ s7 σ7 H7 _ I7 q7) fun ok s8 ⟨H8,I8,q8⟩=>?_
   cases ok with
   | false =>
    obtain⟨m',hm,w8⟩:=hN' H8 (by simpa using q8)
    exact again I8 hm w8
   | true =>
    refine thn (he _ _ _ _ _ s8 σ7 H8 N I8 (by simpa using q8)) fun y s9 ⟨v,H9,I9,r9,q9⟩=>?_
    obtain⟨ys,hD,hl,m',hm,w9⟩:=hN v H9 q9;refine thn (zcl (X:=Jb X scope own capt H3.objs.size s2 H2 fp) _ s9 σ7 H9 (.ref s2.heap.objs.size) [v] _ [y] (fun _ H'=>H'=upd H9 s2.heap.objs.size (.lst (ys++[v]))) I9 rfl (.cons r9 .nil) ⟨_,ys,v,rfl,rfl,hD,hl,rfl⟩) fun _ s10 ⟨_,H10,I10,_,q10⟩=>?_
    subst q10;exact again I10 hm w9
 exact codeAny_compStart_list (loop _ ⟨_,rfl⟩) (T.self X.A 0 _ _ _ (T.keep _ _ _ st2 fun b hb o e=>old b o e) (loop _ ⟨_,rfl⟩))
theorem zhu(hc:X.calm=true)(S:CompScope scope own capt X)(hi:PI X tg iter wi)
  (hg:∀C s₀ H₀ fp,PG (Jb X scope own capt C s₀ H₀ fp) tg g) (ht:∀C s₀ H₀ fp,PTs (Jb X scope own capt C s₀ H₀ fp) ifs tt) (he:∀C s₀ H₀ fp,PE (Jb X scope own capt C s₀ H₀ fp) elt te)
  (hs:∀x,foldedSetIterable iter X.env x=pure x:=by intro _;rfl):PE X (.ListComp elt [⟨tg,iter,ifs,0⟩] scope pos) (tComp own capt wi g tt te):=by
 intro pins s σ H Q I h;rw[eval_ListComp];refine wpAny_comprehension_free (use:=none) rfl hs (zbc (S.cells I.ok)) S.kind S.names (thn (hi pins s σ H _ I h) fun v s1 h1=>thn h1 fun itv s2 h2=>?_)
 refine zhV (RR:=fun acc C=>compPost (model X.prog X.w) X.A X.xe none (EP X pins σ Q) acc C) hc S hg ht he h2 fun D C s' H' hn J _ _ q=>?_
 obtain⟨m,hn⟩:=hn;exact⟨m,hn,fun h'' sb=>⟨.ref D,H',J h'' sb,rfl,q⟩⟩
end
theorem zg1{J:It}{n:Nat}{own:List Str}{capt:List Nat}{g:TG}{tt:TT}{te:TE}{σ:St}{H1:Hp}{D:Addr}{Q:VK}(Pv:Nat->List V->Hp->Prop)(h0:Pv 0 [] (upd H1 D (.lst [])))
  (turn:∀i ys H2,i<n->H2 D=some (.lst ys)->Pv i ys H2->J.go i H2/\∀x H3,J.yld i H2 x H3->g x (Jn own++capS capt σ) H3 fun σ4 H4=>Wk (Jn own++capS capt σ) σ4/\tt σ4 H4 fun b H5 =>
   if b=true then te σ4 H5 (fun v H6=>∃zs,H6 D=some (.lst zs)/\zs.length<sizeLine/\Pv (i+1) (zs++[v]) (upd H6 D (.lst (zs++[v])))) else ∃zs,H5 D=some (.lst zs)/\Pv (i+1) zs H5)
  (stop:∀ys H2,H2 D=some (.lst ys)->Pv n ys H2->J.stop n H2/\Q (.ref D) H2) :
  zjC own capt g tt te σ J H1 D Q:=by
 refine⟨fun i m H=>m=n - i/\i<=n/\∃ys,H D=some (.lst ys)/\Pv i ys H,⟨n,rfl,Nat.zero_le _,[],JC,h0⟩,?_⟩
 rintro i m H2 ⟨rfl,hi,ys,hD,p⟩
 by_cases hlt:i<n
 ·obtain⟨go,st⟩:=turn i ys H2 hlt hD p;refine .inr ⟨go,_,_,?_,?_,st⟩
  ·rintro v H6 ⟨zs,e,l,q⟩;exact⟨zs,e,l,n - (i+1),by omega,rfl,hlt,_,JC,q⟩
  ·rintro H5 ⟨zs,e,q⟩;exact⟨n - (i+1),by omega,rfl,hlt,zs,e,q⟩
 ·have e:i=n:=by omega
  subst e;exact .inl (stop ys H2 hD p)
def zdM(scope outer:Scope)(N:List Str)(capt:List Nat):Bool :=
 scope.kind == .function&&scope.names.all (fun y=>!(y.2 == .cell))&&scope.names.all (fun y=>!(y.2 == .local)||scope.names.lookup y.1 == some .local) &&
 scope.names.all (fun y=>!(y.2 == .free)||(outer.names.lookup y.1 == some .cell||outer.names.lookup y.1 == some .free))&&capt.all (fun k=>scope.names.lookup (N.getD k Str.empty) == some .free)
theorem CompScope.of{X:Cx}{scope:Scope}{own:List Str}{capt:List Nat}(h:zdM scope X.env.scope X.N capt=true):CompScope scope own capt X:=by
 unfold zdM at h;simp only[Bool.and_eq_true]at h;obtain⟨⟨⟨⟨h1,h2⟩,h3⟩,h4⟩,h5⟩:=h;rw[List.all_eq_true]at h2 h3 h4 h5;refine⟨by simpa using h1,fun y hy=>?_,fun y hy hl=>?_,fun y hy hf=>?_,fun k hk=>?_⟩
 ·simpa using h2 y hy
 ·have:=h3 y hy;rw[hl]at this;simpa using this
 ·have:=h4 y hy;rw[hf]at this;show X.env.scope.names.lookup y.1=some .cell\/X.env.scope.names.lookup y.1=some .free
  simpa using this
 ·simpa using h5 k hk
section
variable{X:Cx}
theorem boot_int:bootBuiltins "int" = some (.type "int"):=by decide +kernel
theorem zbD:bootBuiltins "tuple" = some (.type "tuple"):=by decide +kernel
theorem zdV:bootBuiltins "all" = some (.builtin "all"):=by decide +kernel
theorem zdT:bootBuiltins "min" = some (.builtin "min"):=by decide +kernel
theorem zdU:bootBuiltins "max" = some (.builtin "max"):=by decide +kernel
theorem QK:bootBuiltins "len" = some (.builtin "len"):=by decide +kernel
theorem zdW:∀{bs:List Bool}{us:List Value},Vals (bs.map V.bl) us->LSm.BoolsAre us bs
 | [],_,h=>by cases h;exact .nil
 | b::bs,_,h=>by
  cases h with
  | cons r t =>
   cases(show _=Value.bool b from r)
   exact .cons b (zdW t)
theorem zdS(hc:X.calm=true):JB X (.builtin "all") (fun xs H Q=>∃(a:Addr) (bs:List Bool),xs=[.ref a]/\SqL X.K H a (bs.map V.bl)/\Q (.bl (bs.all id)) H):=by
 intro pins s σ H xs us Q I r h;obtain⟨a,bs,rfl,hq,q⟩:=h;cases r with
 | cons r1 r2 =>
  cases r2;cases(show _=Value.ref a from r1)
  obtain⟨its,rv,p,hz⟩:=I.list hq;have hb:=zdW rv;have hl:s.heap.IsList a its.toArray:=p.isList;have hlt:a<s.heap.objs.size:=by obtain⟨_,e,_⟩:=hl;exact Heap.lt_size e
  refine call_all_walk (wpAny_pyIter_list hl ?_);refine⟨s.heap.objs.size,[s.heap.objs.size,a],[s.heap.objs.size],its.toArray.size,_,_,fun i=>(bs[i]?).getD true,rfl,Walks.list (A:=X.A.in1) (I.ok.hd hc) _ a (Nat.ne_of_lt hlt) its.toArray,
   ⟨⟨_,Heap.get?_push_size _ rfl,rfl,rfl⟩,hl.push _⟩,fun i v s' Q' E' hP hQ=>?_,fun h' tk hk=>?_⟩
  ·obtain⟨b,e,rfl⟩:=hb.get i v (by simpa using hP)
   simp only[e,Option.getD_some]at hQ;exact wpAny_truthy_bool hQ
  ·have e:((List.range its.toArray.size).all fun i=>(bs[i]?).getD true)=bs.all id:=by
    rw[List.size_toArray,hb.length];exact LSm.range_all bs
   rw[e];exact⟨.bl _,H,I.kept (LSm.kept_iter hk),rfl,q⟩
mutual
inductive Shows (H:Hp):V->PyData->Prop
 | non:Shows H .non .none
 | bl (b:Bool):Shows H (.bl b) (.bool b)
 | int (i:Int):Shows H (.int i) (.int i)
 | str (x:Str):Shows H (.str x) (.str x)
 | lst {a:Addr} {xs:List V} {ds:qD}:H a=some (.lst xs)->ShowsAll H xs ds->Shows H (.ref a) (.list ds)
 | tup {a:Addr} {xs:List V} {ds:qD}:H a=some (.tup xs)->ShowsAll H xs ds->Shows H (.ref a) (.tuple ds)
inductive ShowsAll (H:Hp):List V->List PyData->Prop
 | nil:ShowsAll H [] []
 | cons {v:V} {vs:List V} {d:PyData} {ds:qD}:Shows H v d->ShowsAll H vs ds->ShowsAll H (v::vs) (d::ds)
end
theorem Inv.bigM{pins:qO}{σ:St}{H:Hp}{s:Shared}(I:Inv X pins σ H s):sysModules<s.heap.objs.size :=
 Nat.lt_trans (by decide) (I.mod.glob.keeps I.bk).lt
def znt(i j:Int):Prop:=0<j/\j<2 ^ 128
theorem zc2:OpR X (binaryOp .FloorDiv) (rI znt fun i j=>.int (i / j)):=opI fun i j _ _ _ _ _ hc q=>by
 have h1:(0:Int)<j:=hc.1;have h2:j<2 ^ 128:=hc.2;refine floordiv_int (by omega) (by rw[Int.fdiv_eq_ediv_of_nonneg i (by omega)];exact q) (.inl (PyProof.noPylong_of_log2 ?_))
 have h3:j.natAbs<2 ^ 128:=by omega
 have h4:j.natAbs.log2<128:=(Nat.log2_lt (by omega)).mpr h3
 omega
end
def Pl(X:Cx)(es:List Expr):Prop:=∀pos,(backTo pos (starEach es X.env)).any (·.1)=false
def Hd(X:Cx):List Expr->Prop
 | []=>True
 | e::r=>starEach (e::r) X.env=(false,eval e X.env)::starEach r X.env/\Pl X r
structure PB(X:Cx)(es:List Expr)(t:TA):Prop where
 pa:PA X es t
 pl:Pl X es
 hd:Hd X es
section
variable{X:Cx}{es:List Expr}{t:TA}{te:TE}
theorem QD:PB X [] tNil:=⟨QU,fun _=>rfl,trivial⟩
theorem Qd{e:Expr}(h:PE X e te)(hr:PB X es t)(hs:starEach (e::es) X.env=(false,eval e X.env)::starEach es X.env):PB X (e::es) (J6 te t) :=
 ⟨Qc h hr.pa hs,fun pos=>by
  rw[hs];have:(backTo pos ((false,eval e X.env)::starEach es X.env)).any (·.1)=(false||(backTo pos (starEach es X.env)).any (·.1)):=rfl
  rw[this,hr.pl pos];rfl,hs,hr.pl⟩
theorem pb_i{i:Int}{j pos}(hr:PB X es t):PB X (.Constant (.int i) j pos::es) (J6 (tC (.int i)) t):=Qd Jm hr rfl
theorem pb_v(i:Nat){x:Str}{pos:Pos}(hr:PB X es t)(hN:X.N[i]?=some x:=by rfl)(hv:Vis X.env.scope x:=by walk_at "V")(hd:(x == ("__debug__":Str))=false:=by decide)
  (hcd:(x == ("__classdict__":Str))=false:=by decide):PB X (.Name x pos::es) (J6 (tVar i) t):=Qd (Qs hN hv hd hcd) hr rfl
theorem zh8{a b c d}(h:PE X (.BinOp a b c d) te)(hr:PB X es t):PB X (.BinOp a b c d::es) (J6 te t):=Qd h hr rfl
theorem zki{a b c d}(h:PE X (.Compare a b c d) te)(hr:PB X es t):PB X (.Compare a b c d::es) (J6 te t):=Qd h hr rfl
variable{e:Expr}{x:Str}{p pos:Pos}
theorem ziU{x1}(h:PB X es t):PE X (.Tuple es x1 pos) (tTup t):=zkc h.pa
theorem zfY(h:PB X es t):PE X (.List es pos) (tLst t):=zke h.pa
theorem ziW{id:String}{r:List V->Hp->VK->Prop}(hc:JB X (.builtin id) r)(hm:X.mg x=none)(hv:bootBuiltins x=some (.builtin id))(h:PB X (e::es) t)(hg:Gl X x:=by rfl)(hn:x ≠ "__name__":=by decide) (hdb:(x == ("__debug__":Str))=false:=by decide) :
  PE X (.Call (.Name x p) (e::es) [] pos) (tCB r t):=zhv hc hg hm hv h.pa hn hdb h.hd.1 (h.hd.2 pos)
theorem zkg{T:String}{r:List V->Hp->VK->Prop}(hc:JB X (.type T) r)(hm:X.mg x=none)(hv:bootBuiltins x=some (.type T))(h:PB X (e::es) t)(hg:Gl X x:=by rfl)(hn:x ≠ "__name__":=by decide) (hdb:(x == ("__debug__":Str))=false:=by decide) :
  PE X (.Call (.Name x p) (e::es) [] pos) (tCB r t):=zds hc hg hm hv h.pa hn hdb h.hd.1 (h.hd.2 pos)
end
end L2
namespace Bd
open PySem L2
structure Def(K:qF)(mg:qM)(x:Str)(st:Stmt)(ps:List Str)(f:Addr)(fd:FuncData):Prop where
 F:Fun K x x st f fd
 b:Binds K fd ps []
 m:mg x=some (.ref f)
section
variable{X:Cx}{k:Nat}{f:Addr}{fd:FuncData}{ps:List Str}{sp:Sp}{x:Str}{p pos:Pos}{e:Expr}{es:List Expr}{t:TA}{st:Stmt}
theorem zkf(D:Def X.K X.mg x st ps f fd)(G:FnOk X.prog X.w X.K X.mg X.base CX0 k f fd ps sp)(hr:Room k X.A)(h:PB X (e::es) t)(hg:Gl X x:=by rfl)
  (hdb:(x == ("__debug__":Str))=false:=by decide):PE X (.Call (.Name x p) (e::es) [] pos) (zjR sp [] E0 t):=ziV G hr hg D.m D.F.kp D.b .nil zmJ h.pa hdb h.hd.1 (h.hd.2 pos)
end
theorem iteP{c A B:Prop}[Decidable c](hc:c)(h:A):if decide c=true then A else B:=by
 rw[decide_eq_true hc];exact iteT h
theorem iteN{c A B:Prop}[Decidable c](hc:¬c)(h:B):if decide c=true then A else B:=by
 rw[decide_eq_false hc];exact iteF h
theorem zk3{c A B:Prop}[Decidable c](h1:c->A)(h2:¬c->B):if decide c=true then A else B:=by
 by_cases h:c
 ·exact iteP h (h1 h)
 ·exact iteN h (h2 h)
theorem zjy{α:Type}{xs:List α}{k:Int}{v:α}(h0:0<=k)(h:xs[k.toNat]?=some v):atI xs k=some v:=by
 obtain⟨n,rfl⟩:=Int.eq_ofNat_of_zero_le h0;exact zjx h
theorem zaf(k:Nat):(0:Int)<2 ^ k:=by
 have:(0:Nat)<2 ^ k:=Nat.two_pow_pos k;have e:((2 ^ k:Nat):Int)=(2:Int) ^ k:=by simp
 omega
theorem zhr{k:Nat}(h:k<=64):(2:Int) ^ k<=2 ^ 64:=by
 have:(2:Nat) ^ k<=2 ^ 64:=Nat.pow_le_pow_right (by decide) (by omega)
 have e:((2 ^ k:Nat):Int)=(2:Int) ^ k:=by simp
 omega
theorem zhj{H:Hp}{p:Addr}{o:HO}(h:H p=none):Same H (upd H p o):=fun b u e=>by
 rw[Je (JX e h)];exact e
end Bd
namespace L2
open PySem PySem.Spec PyProof.Rows
def HAND:PyData:=.dict [(.none,.none)]
def SCR(ns:List Int):PyData:=.dict [(.none,.list (ns.map .int))]
def UL(H:Hp)(hd:Addr)(n:Int):Prop:=∃d m t:Int,H hd=some (.lst [.int d,.int m,.int t])/\0<=m/\m<2 ^ 62/\0<=t/\t<=n
def StT(K:qF)(a:Addr)(xs:List V):Prop :=
 ∃(o:Obj) (its:Array Value) (n:Nat),K.lookup a=some o/\o.cls=.type "tuple" /\ o.data=.seq its n/\its.size<=sizeLine/\Vals xs its.toList/\o.dict=none
theorem StT.sq{K:qF}{H:Hp}{a:Addr}{xs:List V}(h:StT K a xs):SqT K H a xs:=by
 obtain⟨o,its,n,h1,h2,h3,h4,h5,_⟩:=h;exact .inr ⟨o,its,n,h1,h2,h3,h4,h5⟩
def hsT(k:Int×Int):Int:=reduceHash (Builtin.Tuple.tupleHashOf [hashInt k.1,hashInt k.2])
def entZ(z:(Int×Int)×Addr×V)(e:DictEntry):Prop:=e.hash=hsT z.1/\e.key=.ref z.2.1/\RelV z.2.2 e.val
abbrev ZT:=List ((Int×Int)×Addr×V)
def ZDO(a:Addr)(zs:ZT)(ep:Nat):HO:=.ext fun h=>(a == sysModules)=false/\zs.length<=sizeLine/\(zs.map (·.1)).Nodup/\∃o es,h.get? a=some o/\o.ExactDict/\o.data=.dict es ep/\Paired entZ zs es.toList
abbrev KT2:=List ((Int×Int)×PyData)
def entI(z:Int×V)(e:DictEntry):Prop:=e.hash=hashInt z.1/\(∃t,e.key=.int z.1 t)/\RelV z.2 e.val
def KDO(a:Addr)(zs:List (Int×V))(ep:Nat):HO:=.ext fun h=>(a == sysModules)=false/\zs.length<=sizeLine/\(zs.map (·.1)).Nodup/\∃o es,h.get? a=some o/\o.ExactDict/\o.data=.dict es ep/\Paired entI zs es.toList
def blkT(k:Int×Int):PyData:=.tuple [.int k.1,.int k.2]
def Jx(ks:List (Int×PyData)):List (PyData×PyData):=ks.map fun q=>(.int q.1,q.2)
def QN(ks:KT2):List (PyData×PyData):=ks.map fun q=>(blkT q.1,q.2)
mutual
inductive Rep (K:qF)(hd:Option Addr)(O:Addr->Prop)(H:Hp):V->PyData->Prop
 | non:Rep K hd O H .non .none
 | bl (b:Bool):Rep K hd O H (.bl b) (.bool b)
 | int (i:Int):Rep K hd O H (.int i) (.int i)
 | str (x:Str):Rep K hd O H (.str x) (.str x)
 | tup {a vs ds} (h:H a=some (.tup vs)) (o:¬O a) (r:Reps K hd O H vs ds):Rep K hd O H (.ref a) (.tuple ds)
 | tupS {a vs ds} (h:StT K a vs) (r:Reps K hd O H vs ds):Rep K hd O H (.ref a) (.tuple ds)
 | lst {a vs ds} (h:H a=some (.lst vs)) (o:¬O a) (r:Reps K hd O H vs ds):Rep K hd O H (.ref a) (.list ds)
 | dct {a ep} (h:H a=some (KDO a [] ep)) (o:¬O a):Rep K hd O H (.ref a) (.dict [])
 | dcK {a kvs ep ks ps} (h:H a=some (KDO a kvs ep)) (o:¬O a) (r:RepsK K hd O H kvs ks) (e:ps=Jx ks):Rep K hd O H (.ref a) (.dict ps)
 | dcT {a zs ep ks ps} (h:H a=some (ZDO a zs ep)) (o:¬O a) (r:RepsT K hd O H zs ks) (e:ps=QN ks):Rep K hd O H (.ref a) (.dict ps)
 | hand {a} (h:hd=some a):Rep K hd O H (.ref a) HAND
 | scr {a ns} (h:Rd H a (.lst (ns.map V.int))) (o:¬O a):Rep K hd O H (.ref a) (SCR ns)
 | scrS {a} {ns:List Int} (h:∀H':Hp,SqL K H' a (ns.map V.int)):Rep K hd O H (.ref a) (SCR ns)
inductive Reps (K:qF)(hd:Option Addr)(O:Addr->Prop)(H:Hp):List V->List PyData->Prop
 | nil:Reps K hd O H [] []
 | cons {v d vs ds} (h:Rep K hd O H v d) (r:Reps K hd O H vs ds):Reps K hd O H (v::vs) (d::ds)
inductive RepsK (K:qF)(hd:Option Addr)(O:Addr->Prop)(H:Hp):List (Int×V)->List (Int×PyData)->Prop
 | nil:RepsK K hd O H [] []
 | cons {k v d kvs ks} (h:Rep K hd O H v d) (r:RepsK K hd O H kvs ks):RepsK K hd O H ((k,v)::kvs) ((k,d)::ks)
inductive RepsT (K:qF)(hd:Option Addr)(O:Addr->Prop)(H:Hp):ZT->KT2->Prop
 | nil:RepsT K hd O H [] []
 | cons {k q v d zs ks} (h:Rep K hd O H (.ref q) (.tuple [.int k.1,.int k.2])) (h2:Rep K hd O H v d) (r:RepsT K hd O H zs ks):RepsT K hd O H ((k,q,v)::zs) ((k,d)::ks)
end
section
variable{K:qF}{hd:Option Addr}{O O':Addr->Prop}{H H':Hp}
mutual
theorem Rep.mono(ho:∀a o,H a=some o->O' a->O a)(hh:∀a o,¬O a->H a=some o->H' a=some o):∀{v d},Rep K hd O H v d->Rep K hd O' H' v d
 | _,_,.non=>.non
 | _,_,.bl b=>.bl b
 | _,_,.int i=>.int i
 | _,_,.str x=>.str x
 | _,_,.tup h o r=>.tup (hh _ _ o h) (fun z=>o (ho _ _ h z)) (Reps.mono ho hh r)
 | _,_,.tupS h r=>.tupS h (Reps.mono ho hh r)
 | _,_,.lst h o r=>.lst (hh _ _ o h) (fun z=>o (ho _ _ h z)) (Reps.mono ho hh r)
 | _,_,.dct h o=>.dct (hh _ _ o h) (fun z=>o (ho _ _ h z))
 | _,_,.dcK h o r e=>.dcK (hh _ _ o h) (fun z=>o (ho _ _ h z)) (RepsK.mono ho hh r) e
 | _,_,.dcT h o r e=>.dcT (hh _ _ o h) (fun z=>o (ho _ _ h z)) (RepsT.mono ho hh r) e
 | _,_,.hand h=>.hand h
 | _,_,.scr h o=>by
  rcases h with h|⟨u,h⟩
  ·exact .scr (.inl (hh _ _ o h)) (fun z=>o (ho _ _ h z))
  ·exact .scr (.inr ⟨u,hh _ _ o h⟩) (fun z=>o (ho _ _ h z))
 | _,_,.scrS h=>.scrS h
theorem Reps.mono(ho:∀a o,H a=some o->O' a->O a)(hh:∀a o,¬O a->H a=some o->H' a=some o):∀{vs ds},Reps K hd O H vs ds->Reps K hd O' H' vs ds
 | _,_,.nil=>.nil
 | _,_,.cons h r=>.cons (Rep.mono ho hh h) (Reps.mono ho hh r)
theorem RepsK.mono(ho:∀a o,H a=some o->O' a->O a)(hh:∀a o,¬O a->H a=some o->H' a=some o):∀{vs ds},RepsK K hd O H vs ds->RepsK K hd O' H' vs ds
 | _,_,.nil=>.nil
 | _,_,.cons h r=>.cons (Rep.mono ho hh h) (RepsK.mono ho hh r)
theorem RepsT.mono(ho:∀a o,H a=some o->O' a->O a)(hh:∀a o,¬O a->H a=some o->H' a=some o):∀{vs ds},RepsT K hd O H vs ds->RepsT K hd O' H' vs ds
 | _,_,.nil=>.nil
 | _,_,.cons h h2 r=>.cons (Rep.mono ho hh h) (Rep.mono ho hh h2) (RepsT.mono ho hh r)
end
theorem QF{ks:List (Int×PyData)}{v:PyData}{r:List (PyData×PyData)}(e:(PyData.none,v)::r=Jx ks):False:=by
 cases ks with
 | nil=>cases e
 | cons q ks=>cases e
theorem dict_noT{ks:KT2}{v:PyData}{r:List (PyData×PyData)}(e:(PyData.none,v)::r=QN ks):False:=by
 cases ks with
 | nil=>cases e
 | cons q ks=>cases e
theorem Reps.length:∀{vs ds},Reps K hd O H vs ds->vs.length=ds.length
 | _,_,.nil=>rfl
 | _,_,.cons _ r=>by simp[Reps.length r]
theorem Reps.get:∀{vs ds}{i:Nat}{d},Reps K hd O H vs ds->ds[i]?=some d->∃v,vs[i]?=some v/\Rep K hd O H v d
 | _,_,_,_,.nil,e=>by simp at e
 | _,_,0,_,.cons h _,e=>by simp at e;subst e;exact⟨_,rfl,h⟩
 | _,_,i+1,_,.cons _ r,e=>by
  obtain⟨v,h1,h2⟩:=Reps.get (i:=i) r (by simpa using e)
  exact⟨v,by simpa using h1,h2⟩
theorem Reps.append:∀{vs ws ds es},Reps K hd O H vs ds->Reps K hd O H ws es->Reps K hd O H (vs++ws) (ds++es)
 | _,_,_,_,.nil,s=>s
 | _,_,_,_,.cons h r,s=>.cons h (Reps.append r s)
theorem Reps.set{v d}(h:Rep K hd O H v d):∀{vs ds} (n:Nat),Reps K hd O H vs ds->Reps K hd O H (vs.set n v) (ds.set n d)
 | _,_,_,.nil=>.nil
 | _,_,0,.cons _ r=>.cons h r
 | _,_,n+1,.cons q r=>.cons q (Reps.set h n r)
theorem Rep.tupI{v:V}{ds:qD}(h:Rep K hd O H v (.tuple ds)):∃a vs,v=.ref a/\SqT K H a vs/\Reps K hd O H vs ds:=by
 cases h with
 | tup h o r=>exact⟨_,_,rfl,.inl (.inl h),r⟩
 | tupS h r=>exact⟨_,_,rfl,h.sq,r⟩
theorem Rep.lstI{v:V}{ds:qD}(h:Rep K hd O H v (.list ds)):∃a vs,v=.ref a/\H a=some (.lst vs)/\¬O a/\Reps K hd O H vs ds:=by
 cases h with
 | lst h o r=>exact⟨_,_,rfl,h,o,r⟩
theorem Rep.intI{v:V}{i:Int}(h:Rep K hd O H v (.int i)):v=.int i:=by cases h;rfl
theorem Rep.blI{v:V}{b:Bool}(h:Rep K hd O H v (.bool b)):v=.bl b:=by cases h;rfl
theorem Rep.strI{v:V}{x:Str}(h:Rep K hd O H v (.str x)):v=.str x:=by cases h;rfl
theorem Rep.nonI{v:V}(h:Rep K hd O H v .none):v=.non:=by cases h;rfl
theorem Rep.handI{v:V}(h:Rep K hd O H v HAND):∃a,v=.ref a/\hd=some a:=by
 generalize e:HAND=d at h;cases h with
 | hand h=>exact⟨_,rfl,h⟩
 | dct _ _=>cases e
 | dcK _ _ _ e'=>cases e;exact(QF e').elim
 | dcT _ _ _ e'=>cases e;exact(dict_noT e').elim
 | scr _ _=>simp[HAND,SCR]at e
 | scrS _=>simp[HAND,SCR]at e
 | _=>cases e
theorem Rep.scrI{v:V}{ns:List Int}(h:Rep K hd O H v (SCR ns)):∃a,v=.ref a/\SqL K H a (ns.map V.int):=by
 generalize e:SCR ns=d at h;cases h with
 | hand h=>simp[HAND,SCR]at e
 | dct _ _=>cases e
 | dcK _ _ _ e'=>cases e;exact(QF e').elim
 | dcT _ _ _ e'=>cases e;exact(dict_noT e').elim
 | @scr a ms h o =>
  have:ns=ms:=by
   have e':(ns.map PyData.int)=ms.map PyData.int:=by simpa[SCR] using e
   have:=congrArg (List.map fun x=>match x with|PyData.int i=>i|_=>0) e'
   simpa[List.map_map,Function.comp_def] using this
  subst this;exact⟨_,rfl,.inl h⟩
 | @scrS a ms h =>
  have:ns=ms:=by
   have e':(ns.map PyData.int)=ms.map PyData.int:=by simpa[SCR] using e
   have:=congrArg (List.map fun x=>match x with|PyData.int i=>i|_=>0) e'
   simpa[List.map_map,Function.comp_def] using this
  subst this;exact⟨_,rfl,h H⟩
 | _=>cases e
end
mutual
def zmP:PyData->Bool
 | .list _=>false
 | .tuple ts=>zia ts
 | .dict [(.none,.none)]=>true
 | .dict _=>false
 | _=>true
def zia:List PyData->Bool
 | []=>true
 | t::ts=>zmP t&&zia ts
end
section
variable{K:qF}{hd:Option Addr}{O O':Addr->Prop}{H:Hp}
def MutO(o:Option HO):Prop:=(∃xs,o=some (.lst xs))\/(∃ks,o=some (.dK ks))\/∃a zs ep,o=some (ZDO a zs ep)
end
section
variable{X:Cx}{pins:qO}{σ:St}{H:Hp}{s:Shared}{hd:Option Addr}{O:Addr->Prop}
mutual
theorem Rep.reads(I:Inv X pins σ H s):∀{v:V}{d:PyData}{u:Value},Rep X.K hd O H v d->RelV v u->d.hasDict=false->∃as,Reads s.heap u d as
 | _,_,_,.non,r,_=>by cases r;exact⟨_,.none⟩
 | _,_,_,.bl b,r,_=>by cases r;exact⟨_,.bool b⟩
 | _,_,_,.int i,r,_=>by obtain⟨t,rfl⟩:=r;exact⟨_,.int i t⟩
 | _,_,_,.str x,r,_=>by obtain⟨t,rfl⟩:=r;exact⟨_,.str x t⟩
 | _,_,_,.tup (a:=a) (vs:=vs) h _ q,r,e=>by
  cases r;obtain⟨its,rv,p,_⟩:=I.tuple (xs:=vs) (.inl (.inl h));obtain⟨o,ho,hc,n,hdat⟩:=p;obtain⟨as,ra⟩:=Reps.reads I q rv (by simpa[PyData.hasDict] using e)
  exact⟨_,.tuple ho hc hdat (by simpa using ra)⟩
 | _,_,_,.tupS (a:=a) (vs:=vs) h q,r,e=>by
  cases r;obtain⟨its,rv,p,_⟩:=I.tuple (xs:=vs) h.sq;obtain⟨o,ho,hc,n,hdat⟩:=p;obtain⟨as,ra⟩:=Reps.reads I q rv (by simpa[PyData.hasDict] using e)
  exact⟨_,.tuple ho hc hdat (by simpa using ra)⟩
 | _,_,_,.lst (a:=a) (vs:=vs) h _ q,r,e=>by
  cases r;obtain⟨its,rv,p,_⟩:=I.list (xs:=vs) (.inl (.inl h));obtain⟨o,n,ho,hc,_,hdat⟩:=p;obtain⟨as,ra⟩:=Reps.reads I q rv (by simpa[PyData.hasDict] using e)
  exact⟨_,.list ho hc hdat (by simpa using ra)⟩
 | _,_,_,.dct _ _,_,e=>by simp[PyData.hasDict]at e
 | _,_,_,.dcK _ _ _ _,_,e=>by simp[PyData.hasDict]at e
 | _,_,_,.dcT _ _ _ _,_,e=>by simp[PyData.hasDict]at e
 | _,_,_,.hand _,_,e=>by simp[HAND,PyData.hasDict]at e
 | _,_,_,.scr _ _,_,e=>by simp[SCR,PyData.hasDict]at e
 | _,_,_,.scrS _,_,e=>by simp[SCR,PyData.hasDict]at e
theorem Reps.reads(I:Inv X pins σ H s):∀{vs:List V}{ds:qD}{us:List Value},Reps X.K hd O H vs ds->Vals vs us->PyData.hasDictAll ds=false->∃as,ReadsAll s.heap us ds as
 | _,_,_,.nil,r,_=>by cases r;exact⟨_,.nil⟩
 | _,_,_,.cons h q,r,e=>by
  cases r with
  | cons r1 r2 =>
   have e':=e;simp only[PyData.hasDictAll,Bool.or_eq_false_iff]at e';obtain⟨as,ra⟩:=Rep.reads I h r1 e'.1;obtain⟨bs,rb⟩:=Reps.reads I q r2 e'.2;exact⟨_,.cons ra rb⟩
end
end
inductive Cell where
 | val (d:PyData)
 | own (ds:qD)
 | dct (ks:List (Key×PyData))
 | rdo (ks:List (Key×PyData))
 | dtt (ks:KT2)
def Cell.mine:Cell->Bool
 | .val _=>false
 | .own _=>true
 | .dct _=>true
 | .rdo _=>false
 | .dtt _=>true
def Qx(K:qF)(hd:Option Addr)(O:Addr->Prop)(H:Hp)(kvs:List (Key×V))(ks:List (Key×PyData)):Prop:=Paired (fun(p:Key×V) (q:Key×PyData)=>p.1=q.1/\Rep K hd O H p.2 q.2) kvs ks
theorem Qx.mono{K:qF}{hd:Option Addr}{O O':Addr->Prop}{H H':Hp}(ho:∀a o,H a=some o->O' a->O a)(hh:∀a o,¬O a->H a=some o->H' a=some o){kvs:List (Key×V)}{ks:List (Key×PyData)}(r:Qx K hd O H kvs ks):Qx K hd O' H' kvs ks :=
 Paired.mapP r fun _ _ z=>⟨z.1,z.2.mono ho hh⟩
abbrev En:=List (Option Cell)
structure Ctx where
 hd:Option Addr
 ext:Addr->Prop
def OwnS(ρ:En)(σ:St)(a:Addr):Prop:=∃(i:Nat) (c:Cell),c.mine=true/\ρ[i]?=some (some c)/\σ[i]?=some (some (V.ref a))
def Own(C:Ctx)(ρ:En)(σ:St)(a:Addr):Prop:=C.ext a\/OwnS ρ σ a
def Hn(hd:Option Addr)(H:Hp)(n:Nat):Prop:=∀a,hd=some a->UL H a n
structure Stt(K:qF)(C:Ctx)(ρ:En)(σ:St)(H:Hp)(n:Nat):Prop where
 len:ρ.length=σ.length
 val:∀(i:Nat) (d:PyData),ρ[i]?=some (some (Cell.val d))->∃v,σ[i]?=some (some v)/\Rep K C.hd (Own C ρ σ) H v d
 own:∀(i:Nat) (ds:qD),ρ[i]?=some (some (Cell.own ds))->∃a vs,σ[i]?=some (some (V.ref a))/\H a=some (.lst vs)/\Reps K C.hd (Own C ρ σ) H vs ds/\¬C.ext a
 dct:∀(i:Nat) (ks:List (Key×PyData)),ρ[i]?=some (some (Cell.dct ks))->∃a kvs,σ[i]?=some (some (V.ref a))/\H a=some (.dK kvs)/\Qx K C.hd (Own C ρ σ) H kvs ks/\¬C.ext a
 rdo:∀(i:Nat) (ks:List (Key×PyData)),ρ[i]?=some (some (Cell.rdo ks))->∃a kvs,σ[i]?=some (some (V.ref a))/\H a=some (.dK kvs)/\Qx K C.hd (Own C ρ σ) H kvs ks/\C.ext a/\C.hd≠some a
 dtt:∀(i:Nat) (ks:KT2),ρ[i]?=some (some (Cell.dtt ks))->∃a zs ep,σ[i]?=some (some (V.ref a))/\H a=some (ZDO a zs ep)/\RepsT K C.hd (Own C ρ σ) H zs ks/\¬C.ext a
 dif:∀(i j:Nat) (c e:Cell) (a:Addr),c.mine=true->e.mine=true->ρ[i]?=some (some c)->ρ[j]?=some (some e)->σ[i]?=some (some (V.ref a))->σ[j]?=some (some (V.ref a))->i=j
 hnd:Hn C.hd H n
 ext:∀a,C.ext a->MutO (H a)
 hx:∀a,C.hd=some a->C.ext a
def ExtE(hd:Option Addr)(H H':Hp):Prop:=∀a o,H a=some o->hd≠some a->H' a=some o
theorem ExtE.refl{hd:Option Addr}{H:Hp}:ExtE hd H H:=fun _ _ h _=>h
theorem ExtE.trans{hd:Option Addr}{H H1 H2:Hp}(a:ExtE hd H H1)(b:ExtE hd H1 H2):ExtE hd H H2:=fun c o h n=>b c o (a c o h n) n
theorem ExtE.new{hd:Option Addr}{H:Hp}{p:Addr}{o:HO}(h:H p=none):ExtE hd H (upd H p o):=fun b u e _=>by
 rw[Je (JX e h)];exact e
section
variable{K:qF}{C:Ctx}{ρ:En}{σ:St}{H H':Hp}{n n':Nat}
theorem MutO.ne{o:Option HO}(h:MutO o):o≠none:=by
 rcases h with⟨_,rfl⟩|⟨_,rfl⟩|⟨_,_,_,rfl⟩ <;> exact fun z=>by cases z
theorem Stt.at(S:Stt K C ρ σ H n){i:Nat}{c:Cell}(m:c.mine=true)(h1:ρ[i]?=some (some c)):∃a:Addr,σ[i]?=some (some (V.ref a))/\MutO (H a)/\¬C.ext a:=by
 cases c with
 | val d=>cases m
 | own ds =>
  obtain⟨a,vs,e1,e2,_,e4⟩:=S.own i ds h1;exact⟨a,e1,.inl ⟨_,e2⟩,e4⟩
 | dct ks =>
  obtain⟨a,vs,e1,e2,_,e4⟩:=S.dct i ks h1;exact⟨a,e1,.inr (.inl ⟨_,e2⟩),e4⟩
 | rdo ks=>cases m
 | dtt ks =>
  obtain⟨a,vs,ep,e1,e2,_,e4⟩:=S.dtt i ks h1;exact⟨a,e1,.inr (.inr ⟨_,_,_,e2⟩),e4⟩
theorem Stt.lst(S:Stt K C ρ σ H n){a:Addr}(h:Own C ρ σ a):MutO (H a):=by
 rcases h with h|⟨i,c,m,h1,h2⟩
 ·exact S.ext a h
 ·obtain⟨b,e1,e2,_⟩:=S.at m h1;rw[h2]at e1;cases e1;exact e2
theorem Stt.dom(S:Stt K C ρ σ H n){a:Addr}(h:Own C ρ σ a):H a≠none:=(S.lst h).ne
theorem Stt.free(S:Stt K C ρ σ H n){a:Addr}(h:H a=none):¬Own C ρ σ a:=fun z=>S.dom z h
theorem ExtE.rep(e:ExtE C.hd H H')(hx:∀a,C.hd=some a->C.ext a){v d}(r:Rep K C.hd (Own C ρ σ) H v d):Rep K C.hd (Own C ρ σ) H' v d :=
 r.mono (fun _ _ _ z=>z) fun a o no h=>e a o h fun z=>no (.inl (hx a z))
theorem ExtE.reps(e:ExtE C.hd H H')(hx:∀a,C.hd=some a->C.ext a){v d}(r:Reps K C.hd (Own C ρ σ) H v d):Reps K C.hd (Own C ρ σ) H' v d :=
 r.mono (fun _ _ _ z=>z) fun a o no h=>e a o h fun z=>no (.inl (hx a z))
theorem Stt.on(S:Stt K C ρ σ H n)(e:ExtE C.hd H H')(h:Hn C.hd H' n'):Stt K C ρ σ H' n' where
 len:=S.len
 val:=fun i d hi=>by
  obtain⟨v,h1,h2⟩:=S.val i d hi;exact⟨v,h1,e.rep S.hx h2⟩
 own:=fun i ds hi=>by
  obtain⟨a,vs,h1,h2,h3,h4⟩:=S.own i ds hi;exact⟨a,vs,h1,e a _ h2 fun z=>h4 (S.hx a z),e.reps S.hx h3,h4⟩
 dct:=fun i ks hi=>by
  obtain⟨a,vs,h1,h2,h3,h4⟩:=S.dct i ks hi;exact⟨a,vs,h1,e a _ h2 fun z=>h4 (S.hx a z),Paired.mapP h3 fun _ _ z=>⟨z.1,e.rep S.hx z.2⟩,h4⟩
 rdo:=fun i ks hi=>by
  obtain⟨a,vs,h1,h2,h3,h4,h5⟩:=S.rdo i ks hi;exact⟨a,vs,h1,e a _ h2 h5,Paired.mapP h3 fun _ _ z=>⟨z.1,e.rep S.hx z.2⟩,h4,h5⟩
 dtt:=fun i ks hi=>by
  obtain⟨a,vs,ep,h1,h2,h3,h4⟩:=S.dtt i ks hi;exact⟨a,vs,ep,h1,e a _ h2 fun z=>h4 (S.hx a z),h3.mono (fun _ _ _ z=>z) (fun a o no h=>e a o h fun z=>no (.inl (S.hx a z))),h4⟩
 dif:=S.dif
 hnd:=h
 ext:=fun a ha=>by
  by_cases z:C.hd=some a
  ·obtain⟨d,m,t,q,_⟩:=h a z;exact .inl ⟨_,q⟩
  ·rcases S.ext a ha with⟨xs,q⟩|⟨xs,q⟩|⟨b,xs,ep,q⟩
   ·exact .inl ⟨xs,e a _ q z⟩
   ·exact .inr (.inl ⟨xs,e a _ q z⟩)
   ·exact .inr (.inr ⟨b,xs,ep,e a _ q z⟩)
 hx:=S.hx
end
abbrev DTE:=En->Nat->(PyData->Nat->Prop)->Prop
abbrev DTT:=En->Nat->(Bool->Nat->Prop)->Prop
abbrev DTA:=En->Nat->(List PyData->Nat->Prop)->Prop
def DE(X:Cx)(e:Expr)(d:DTE):Prop:=∃te,PE X e te/\∀(C:Ctx) (ρ:En) (σ:St) (H:Hp) (n:Nat) (Q:VK) (R:qN),Stt X.K C ρ σ H n->d ρ n R ->
 (∀t n' v H',R t n'->ExtE C.hd H H'->Hn C.hd H' n'->Rep X.K C.hd (Own C ρ σ) H' v t->Q v H')->te σ H Q
def RepT(K:qF)(hd:Option Addr)(O:Addr->Prop)(H:Hp)(v:V)(t:PyData):Prop :=
 Rep K hd O H v t\/(∃a vs ds,v=.ref a/\t=.list ds/\H a=some (.lst vs)/\Reps K hd O H vs ds/\hd≠some a)\/∃a zs ep ks,v=.ref a/\t=.dict (QN ks)/\H a=some (ZDO a zs ep)/\RepsT K hd O H zs ks/\hd≠some a
def DL(X:Cx)(e:Expr)(d:DTE):Prop:=∃te,PE X e te/\∀(C:Ctx) (ρ:En) (σ:St) (H:Hp) (n:Nat) (Q:VK) (R:qN),Stt X.K C ρ σ H n->d ρ n R ->
 (∀t n' v H',R t n'->ExtE C.hd H H'->Hn C.hd H' n'->RepT X.K C.hd (Own C ρ σ) H' v t->Q v H')->te σ H Q
def DN(X:Cx)(e:Expr)(d:DTA):Prop:=∃te,PE X e te/\∀(C:Ctx) (ρ:En) (σ:St) (H:Hp) (n:Nat) (Q:VK) (R:List PyData->Nat->Prop),Stt X.K C ρ σ H n->d ρ n R ->
 (∀ts n' p vs H',R ts n'->ExtE C.hd H H'->Hn C.hd H' n'->H p=none->H' p=some (.lst vs)->Reps X.K C.hd (fun a=>Own C ρ σ a\/a=p) H' vs ts->Q (.ref p) H')->te σ H Q
def DT(X:Cx)(e:Expr)(d:DTT):Prop:=∃te,PT X e te/\∀(C:Ctx) (ρ:En) (σ:St) (H:Hp) (n:Nat) (Q:Bool->Hp->Prop) (R:Bool->Nat->Prop),Stt X.K C ρ σ H n->d ρ n R ->
 (∀b n' H',R b n'->ExtE C.hd H H'->Hn C.hd H' n'->Q b H')->te σ H Q
def DW(X:Cx)(e:Expr)(d:DTT):Prop:=∃te,PW X e te/\∀(C:Ctx) (ρ:En) (σ:St) (H:Hp) (n:Nat) (Q:Bool->Hp->Prop) (R:Bool->Nat->Prop),Stt X.K C ρ σ H n->d ρ n R ->
 (∀b n' H',R b n'->ExtE C.hd H H'->Hn C.hd H' n'->Q b H')->te σ H Q
def DB(X:Cx)(es:List Expr)(d:DTA):Prop:=∃ta,PB X es ta/\∀(C:Ctx) (ρ:En) (σ:St) (H:Hp) (n:Nat) (Q:List V->Hp->Prop) (R:List PyData->Nat->Prop),Stt X.K C ρ σ H n->d ρ n R ->
 (∀ts n' vs H',R ts n'->ExtE C.hd H H'->Hn C.hd H' n'->Reps X.K C.hd (Own C ρ σ) H' vs ts->ts.length=es.length->Q vs H')->ta σ H Q
section
variable{X:Cx}{e a b c:Expr}{es:List Expr}{d da db dc:DTE}{pos:Pos}
theorem dl(h:DE X e d):DL X e d:=by
 obtain⟨te,p,h⟩:=h;exact⟨te,p,fun C ρ σ H n Q R S hd hq=>h C ρ σ H n Q R S hd fun t n' v H' r e h1 h2=>hq t n' v H' r e h1 (.inl h2)⟩
def dNew(d:DTA):DTE:=fun ρ n R=>d ρ n fun ts n'=>R (.list ts) n'
theorem J9{d:DTA}(h:DN X e d):DE X e (dNew d):=by
 obtain⟨te,p,h⟩:=h;refine⟨te,p,fun C ρ σ H n Q R S hd hq=>h C ρ σ H n Q _ S hd fun ts n' p vs H' r e h1 h2 h3 h4=>hq _ n' _ H' r e h1 (.lst h3 (S.free h2) (h4.mono (fun _ _ _ z=>.inl z) fun _ _ _ z=>z))⟩
def dVar(i:Nat):DTE:=fun ρ n R=>match ρ[i]? with|some (some (Cell.val d))=>R d n|_=>False
def dOwn(i:Nat):DTE:=fun ρ n R=>match ρ[i]? with|some (some (Cell.own d))=>R (.list d) n|_=>False
def dC(t:PyData):DTE:=fun _ n R=>R t n
theorem Ja(i:Nat){x:Str}{pos:Pos}(hN:X.N[i]?=some x:=by rfl)(hv:Vis X.env.scope x:=by walk_at "V")(hd:(x == ("__debug__":Str))=false:=by decide)
  (hcd:(x == ("__classdict__":Str))=false:=by decide):DE X (.Name x pos) (dVar i):=by
 refine⟨_,Qs hN hv hd hcd,fun C ρ σ H n Q R S h hq=>?_⟩
 unfold dVar at h;split at h
 ·rename_i d e;obtain⟨v,h1,h2⟩:=S.val i d e;exact⟨v,h1,hq d n v H h ExtE.refl S.hnd h2⟩
 ·exact h.elim
theorem zgM(i:Nat){x:Str}{pos:Pos}(hN:X.N[i]?=some x:=by rfl)(hv:Vis X.env.scope x:=by walk_at "V")(hd:(x == ("__debug__":Str))=false:=by decide)
  (hcd:(x == ("__classdict__":Str))=false:=by decide):DL X (.Name x pos) (dOwn i):=by
 refine⟨_,Qs hN hv hd hcd,fun C ρ σ H n Q R S h hq=>?_⟩
 unfold dOwn at h;split at h
 ·rename_i ds e;obtain⟨p,vs,h1,h2,h3,h4⟩:=S.own i ds e;exact⟨.ref p,h1,hq _ n _ H h ExtE.refl S.hnd (.inr (.inl ⟨p,vs,ds,rfl,rfl,h2,h3,fun z=>h4 (S.hx p z)⟩))⟩
 ·exact h.elim
theorem Jf{i j pos}:DE X (.Constant (.int i) j pos) (dC (.int i)):=⟨_,Jm,fun _ _ _ H n _ _ S h hq=>hq _ n _ H h ExtE.refl S.hnd (.int i)⟩
theorem Ut{b j pos}:DE X (.Constant (.bool b) j pos) (dC (.bool b)):=⟨_,zmI,fun _ _ _ H n _ _ S h hq=>hq _ n _ H h ExtE.refl S.hnd (.bl b)⟩
end
section
variable{K:qF}{hd:Option Addr}{O:Addr->Prop}{H H':Hp}{v:V}{t:PyData}{n:Nat}
theorem Same.ext(h:Same H H'):ExtE hd H H':=fun a o e _=>h a o e
theorem Hn.same(h:Hn hd H n)(s:Same H H'):Hn hd H' n:=fun a e=>by
 obtain⟨d,m,t,q,r⟩:=h a e;exact⟨d,m,t,s _ _ q,r⟩
theorem Reps.same{vs ts}(s:Same H H')(r:Reps K hd O H vs ts):Reps K hd O H' vs ts:=r.mono (fun _ _ _ z=>z) fun a o _ h=>s a o h
theorem ExtE.repT{C:Ctx}{ρ:En}{σ:St}(e:ExtE C.hd H H')(hx:∀a,C.hd=some a->C.ext a)(r:RepT K C.hd (Own C ρ σ) H v t):RepT K C.hd (Own C ρ σ) H' v t:=by
 rcases r with r|⟨a,vs,ds,h1,h2,h3,h4,h5⟩|⟨a,zs,ep,ks,h1,h2,h3,h4,h5⟩
 ·exact .inl (e.rep hx r)
 ·exact .inr (.inl ⟨a,vs,ds,h1,h2,e _ _ h3 h5,e.reps hx h4,h5⟩)
 ·exact .inr (.inr ⟨a,zs,ep,ks,h1,h2,e _ _ h3 h5,h4.mono (fun _ _ _ z=>z) (fun a o no h=>e a o h fun z=>no (.inl (hx a z))),h5⟩)
theorem RepT.lstI{ds}(h:RepT K hd O H v (.list ds)):∃a vs,v=.ref a/\H a=some (.lst vs)/\Reps K hd O H vs ds:=by
 rcases h with h|⟨a,vs,es,h1,h2,h3,h4,_⟩|⟨a,vs,ep,es,h1,h2,h3,h4,_⟩
 ·obtain⟨a,vs,h1,h2,_,h3⟩:=h.lstI;exact⟨a,vs,h1,h2,h3⟩
 ·cases h2;exact⟨a,vs,h1,h3,h4⟩
 ·cases h2
theorem RepT.tupI{ds}(h:RepT K hd O H v (.tuple ds)):∃a vs,v=.ref a/\SqT K H a vs/\Reps K hd O H vs ds:=by
 rcases h with h|⟨a,vs,es,h1,h2,h3,h4,_⟩|⟨a,vs,ep,es,h1,h2,h3,h4,_⟩
 ·exact h.tupI
 ·cases h2
 ·cases h2
theorem RepT.rep(h:RepT K hd O H v t)(nl:∀ds,t≠.list ds)(nd:∀ks,t≠.dict (QN ks):=by intro ks z;first|cases z|exact dict_noT (PyData.dict.inj z)):Rep K hd O H v t:=by
 rcases h with h|⟨a,vs,es,h1,h2,h3,h4,_⟩|⟨a,vs,ep,es,h1,h2,h3,h4,_⟩
 ·exact h
 ·exact absurd h2 (nl es)
 ·exact absurd h2 (nd es)
theorem RepT.intI{i}(h:RepT K hd O H v (.int i)):v=.int i:=(h.rep (by intro _ z;cases z)).intI
theorem RepT.blI{i}(h:RepT K hd O H v (.bool i)):v=.bl i:=(h.rep (by intro _ z;cases z)).blI
theorem RepT.strI{i}(h:RepT K hd O H v (.str i)):v=.str i:=(h.rep (by intro _ z;cases z)).strI
theorem RepT.nonI(h:RepT K hd O H v .none):v=.non:=(h.rep (by intro _ z;cases z)).nonI
theorem Rep.newT{p:Addr}{vs ts}(no:¬O p)(h:H p=none)(r:Reps K hd O H vs ts):Rep K hd O (upd H p (.tup vs)) (.ref p) (.tuple ts) :=
 .tup JC no (r.same (fun b u e=>by rw[Je (JX e h)];exact e))
end
theorem J4{H:Hp}{p:Addr}{o:HO}(h:H p=none):Same H (upd H p o):=fun b u e=>by
 rw[Je (JX e h)];exact e
abbrev G2:=PyData->PyData->(PyData->Prop)->Prop
def dOp(g:G2)(da db:DTE):DTE:=fun ρ n R=>da ρ n fun x n1=>db ρ n1 fun y n2=>g x y fun z=>R z n2
def Gp2(X:Cx)(r:R2)(g:G2):Prop:=∀(hd:Option Addr) (O:Addr->Prop) (H:Hp) (x y:V) (t u:PyData) (Q:VK) (R:PyData->Prop),(∀p,O p->H p≠none)->RepT X.K hd O H x t->RepT X.K hd O H y u->g t u R ->
 (∀z v H',R z->Same H H'->Rep X.K hd O H' v z->Q v H')->r x y H Q
section
variable{X:Cx}{a b c:Expr}{da db dc:DTE}{pos:Pos}{r r':R2}{g g':G2}
theorem two{C:Ctx}{ρ:En}{σ:St}{H:Hp}{n:Nat}{ta tb:TE}(ha:∀(C:Ctx) (ρ:En) (σ:St) (H:Hp) (n:Nat) (Q:VK) (R:qN),Stt X.K C ρ σ H n->da ρ n R ->
  (∀t n' v H',R t n'->ExtE C.hd H H'->Hn C.hd H' n'->RepT X.K C.hd (Own C ρ σ) H' v t->Q v H')->ta σ H Q)
  (hb:∀(C:Ctx) (ρ:En) (σ:St) (H:Hp) (n:Nat) (Q:VK) (R:qN),Stt X.K C ρ σ H n->db ρ n R ->
  (∀t n' v H',R t n'->ExtE C.hd H H'->Hn C.hd H' n'->RepT X.K C.hd (Own C ρ σ) H' v t->Q v H')->tb σ H Q)
  {Q2:V->V->Hp->Prop} {R2:PyData->PyData->Nat->Prop} (S:Stt X.K C ρ σ H n) (h:da ρ n fun x n1=>db ρ n1 fun y n2=>R2 x y n2)
  (hq:∀x y n2 v w H2,R2 x y n2->ExtE C.hd H H2->Stt X.K C ρ σ H2 n2->RepT X.K C.hd (Own C ρ σ) H2 v x->RepT X.K C.hd (Own C ρ σ) H2 w y->Q2 v w H2) :
  ta σ H fun v H1=>tb σ H1 fun w H2=>Q2 v w H2:=by
 refine ha C ρ σ H n _ _ S h fun t n1 v H1 r1 e1 h1 q1=>?_
 have S1:=S.on e1 h1;refine hb C ρ σ H1 n1 _ _ S1 r1 fun u n2 w H2 r2 e2 h2 q2=>?_
 exact hq t u n2 v w H2 r2 (e1.trans e2) (S1.on e2 h2) (e2.repT S.hx q1) q2
theorem Uu{op:Operator}(ho:OpR X (binaryOp op) r)(hg:Gp2 X r g)(ha:DL X a da)(hb:DL X b db):DE X (.BinOp a op b pos) (dOp g da db):=by
 obtain⟨ta,pa,ha⟩:=ha;obtain⟨tb,pb,hb⟩:=hb;refine⟨_,Jp ho pa pb,fun C ρ σ H n Q R S h hq=>?_⟩
 refine two ha hb S h fun x y n2 v w H2 r2 e S2 q1 q2=>?_
 exact hg C.hd (Own C ρ σ) H2 v w x y Q _ (fun p=>S2.dom) q1 q2 r2 fun z u H' rz sm rp=>hq z n2 u H' rz (e.trans sm.ext) (S2.hnd.same sm) rp
theorem zgT{op:CmpOp}(ho:OpR X (compareOp op) r)(hg:Gp2 X r g)(ha:DL X a da)(hb:DL X b db)(hm:behindInMarks op b=false):DE X (.Compare a [op] [b] pos) (dOp g da db):=by
 obtain⟨ta,pa,ha⟩:=ha;obtain⟨tb,pb,hb⟩:=hb;refine⟨_,zf0 ho pa pb hm,fun C ρ σ H n Q R S h hq=>?_⟩
 refine two ha hb S h fun x y n2 v w H2 r2 e S2 q1 q2=>?_
 exact hg C.hd (Own C ρ σ) H2 v w x y Q _ (fun p=>S2.dom) q1 q2 r2 fun z u H' rz sm rp=>hq z n2 u H' rz (e.trans sm.ext) (S2.hnd.same sm) rp
def Q5(d:DTE):DTT:=fun ρ n R=>d ρ n fun t n'=>match t with|.bool k=>R k n'|_=>False
theorem QB{op:CmpOp}(ho:OpR X (compareOp op) r)(hg:Gp2 X r g)(ha:DL X a da)(hb:DL X b db)(hm:behindInMarks op b=false):DT X (.Compare a [op] [b] pos) (Q5 (dOp g da db)):=by
 obtain⟨ta,pa,ha⟩:=ha;obtain⟨tb,pb,hb⟩:=hb;refine⟨_,zd5 ho pa pb hm,fun C ρ σ H n Q R S h hq=>?_⟩
 refine two ha hb S h fun x y n2 v w H2 r2 e S2 q1 q2=>?_
 refine hg C.hd (Own C ρ σ) H2 v w x y _ _ (fun p=>S2.dom) q1 q2 r2 fun z u H' rz sm rp=>?_
 cases z with
 | bool k =>
  cases rp;exact⟨k,rfl,hq k n2 H' rz (e.trans sm.ext) (S2.hnd.same sm)⟩
 | _=>exact rz.elim
def gI(C:Int->Int->Prop)(f:Int->Int->Int):G2
 | .int i,.int j,R=>C i j/\R (.int (f i j))
 | _,_,_=>False
def gB(f:Int->Int->Bool):G2
 | .int i,.int j,R=>R (.bool (f i j))
 | _,_,_=>False
theorem gp_I{C:Int->Int->Prop}{f:Int->Int->Int}:Gp2 X (rI C fun i j=>.int (f i j)) (gI C f):=by
 intro hd O H x y t u Q R dom rx ry h hq;unfold gI at h;split at h
 ·rename_i i j;exact⟨i,j,rx.intI,ry.intI,h.1,hq _ _ H h.2 (Same.refl H) (.int _)⟩
 ·exact h.elim
def gI0(f:Int->Int->Int):G2
 | .int i,.int j,R=>R (.int (f i j))
 | _,_,_=>False
theorem zlp{f:Int->Int->Int}:Gp2 X (rI0 fun i j=>.int (f i j)) (gI0 f):=by
 intro hd O H x y t u Q R dom rx ry h hq;unfold gI0 at h;split at h
 ·rename_i i j;exact⟨i,j,rx.intI,ry.intI,hq _ _ H h (Same.refl H) (.int _)⟩
 ·exact h.elim
theorem gp_B{f:Int->Int->Bool}:Gp2 X (rI0 fun i j=>.bl (f i j)) (gB f):=by
 intro hd O H x y t u Q R dom rx ry h hq;unfold gB at h;split at h
 ·rename_i i j;exact⟨i,j,rx.intI,ry.intI,hq _ _ H h (Same.refl H) (.bl _)⟩
 ·exact h.elim
end
section
variable{X:Cx}{a b c:Expr}{da db dc:DTE}{pos:Pos}
def oSub:=gI0 fun i j=>i - j
def oShl:=gI CPow fun i j=>i*2 ^ j.toNat
def oAnd:=gI0 Builtin.bitAnd
theorem zgS(ha:DL X a da)(hb:DL X b db):DE X (.BinOp a .Sub b pos) (dOp oSub da db):=Uu zkm zlp ha hb
theorem Qz(ha:DL X a da)(hb:DL X b db):DE X (.BinOp a .LShift b pos) (dOp oShl da db):=Uu zkn gp_I ha hb
theorem zlH(ha:DL X a da)(hb:DL X b db):DE X (.BinOp a .BitAnd b pos) (dOp oAnd da db):=Uu zkw zlp ha hb
end
section
variable{X:Cx}{pins:qO}{σ:St}{H:Hp}{s:Shared}{hd:Option Addr}{O:Addr->Prop}
theorem RepT.reads(I:Inv X pins σ H s){v:V}{d:PyData}{u:Value}(h:RepT X.K hd O H v d)(r:RelV v u)(e:d.hasDict=false):∃as,Reads s.heap u d as:=by
 rcases h with h|⟨a,vs,ds,rfl,rfl,h3,h4,_⟩|⟨a,zs,ep,ks,rfl,rfl,h3,h4,_⟩
 rotate_left 2
 ·simp[PyData.hasDict]at e
 ·exact h.reads I r e
 ·cases r;obtain⟨its,rv,p,_⟩:=I.list (xs:=vs) (.inl (.inl h3));obtain⟨o,n,ho,hc,_,hdat⟩:=p;obtain⟨as,ra⟩:=Reps.reads I h4 rv (by simpa[PyData.hasDict] using e)
  exact⟨_,.list ho hc hdat (by simpa using ra)⟩
end
def Okd(t:PyData):Prop:=t.canLay0=true/\t.depth<=60
section
variable{X:Cx}{a b c:Expr}{da db dc:DTE}{pos:Pos}{k:Nat}
def rEqD(K:qF)(neg:Bool):R2:=fun x y H Q=>∃hd O t u,RepT K hd O H x t/\RepT K hd O H y u/\Okd t/\Okd u/\Q (.bl (if neg then !t.eqv u else t.eqv u)) H
theorem zkv(hr:Room k X.A):OpR X (compareOp .Eq) (rEqD X.K false):=by
 intro pins s σ H x y v u Q I rx ry h;obtain⟨hd,O,t,w,h1,h2,h3,h4,q⟩:=h;obtain⟨as,ra⟩:=h1.reads I rx (PyData.hasDict_of_canLay _ h3.1);obtain⟨bs,rb⟩:=h2.reads I ry (PyData.hasDict_of_canLay _ h4.1);refine SeqAt.compareEq_reads ra rb h3.1 h4.1 ?_ ⟨.bl _,H,I,rfl,q⟩;have:=hr.un;have:=h3.2;omega
theorem zkp(hr:Room k X.A):OpR X (compareOp .NotEq) (rEqD X.K true):=by
 intro pins s σ H x y v u Q I rx ry h;obtain⟨hd,O,t,w,h1,h2,h3,h4,q⟩:=h;obtain⟨as,ra⟩:=h1.reads I rx (PyData.hasDict_of_canLay _ h3.1);obtain⟨bs,rb⟩:=h2.reads I ry (PyData.hasDict_of_canLay _ h4.1);refine SeqAt.compareNe_reads ra rb h3.1 h4.1 ?_ ⟨.bl _,H,I,rfl,q⟩;have:=hr.un;have:=h3.2;omega
def oEq:G2
 | .int i,.int j,R=>R (.bool (decide (i=j)))
 | .str i,.str j,R=>R (.bool (decide (i=j)))
 | .bool i,.bool j,R=>R (.bool (decide (i=j)))
 | t,u,R=>Okd t/\Okd u/\R (.bool (t.eqv u))
def oNe:G2
 | .int i,.int j,R=>R (.bool (!decide (i=j)))
 | .str i,.str j,R=>R (.bool (!decide (i=j)))
 | .bool i,.bool j,R=>R (.bool (!decide (i=j)))
 | t,u,R=>Okd t/\Okd u/\R (.bool (!t.eqv u))
def rEqA(K:qF):R2:=fun x y H Q=>rEq x y H Q\/rEqD K false x y H Q
def rNeA(K:qF):R2:=fun x y H Q=>rNe x y H Q\/rEqD K true x y H Q
theorem zh_(hr:Room k X.A):OpR X (compareOp .Eq) (rEqA X.K):=OpR.or zmN (zkv hr)
theorem zh9(hr:Room k X.A):OpR X (compareOp .NotEq) (rNeA X.K):=OpR.or zmK (zkp hr)
theorem zln:Gp2 X (rEqA X.K) oEq:=by
 intro hd O H x y t u Q R dom rx ry h hq;unfold oEq at h;split at h
 ·rename_i i j;rw[rx.intI,ry.intI];refine .inl ⟨rfl,?_⟩;have e:decide (V.int i=V.int j)=decide (i=j):=decide_eq_decide.mpr ⟨fun z=>by cases z;rfl,fun z=>by rw[z]⟩
  rw[e];exact hq _ _ H h (Same.refl H) (.bl _)
 ·rename_i i j;rw[rx.strI,ry.strI];refine .inl ⟨rfl,?_⟩;have e:decide (V.str i=V.str j)=decide (i=j):=decide_eq_decide.mpr ⟨fun z=>by cases z;rfl,fun z=>by rw[z]⟩
  rw[e];exact hq _ _ H h (Same.refl H) (.bl _)
 ·rename_i i j;rw[rx.blI,ry.blI];refine .inl ⟨rfl,?_⟩;have e:decide (V.bl i=V.bl j)=decide (i=j):=decide_eq_decide.mpr ⟨fun z=>by cases z;rfl,fun z=>by rw[z]⟩
  rw[e];exact hq _ _ H h (Same.refl H) (.bl _)
 ·exact .inr ⟨hd,O,_,_,rx,ry,h.1,h.2.1,hq _ _ H h.2.2 (Same.refl H) (.bl _)⟩
theorem zlk:Gp2 X (rNeA X.K) oNe:=by
 intro hd O H x y t u Q R dom rx ry h hq;unfold oNe at h;split at h
 ·rename_i i j;rw[rx.intI,ry.intI];refine .inl ⟨rfl,?_⟩;have e:decide (V.int i=V.int j)=decide (i=j):=decide_eq_decide.mpr ⟨fun z=>by cases z;rfl,fun z=>by rw[z]⟩
  rw[e];exact hq _ _ H h (Same.refl H) (.bl _)
 ·rename_i i j;rw[rx.strI,ry.strI];refine .inl ⟨rfl,?_⟩;have e:decide (V.str i=V.str j)=decide (i=j):=decide_eq_decide.mpr ⟨fun z=>by cases z;rfl,fun z=>by rw[z]⟩
  rw[e];exact hq _ _ H h (Same.refl H) (.bl _)
 ·rename_i i j;rw[rx.blI,ry.blI];refine .inl ⟨rfl,?_⟩;have e:decide (V.bl i=V.bl j)=decide (i=j):=decide_eq_decide.mpr ⟨fun z=>by cases z;rfl,fun z=>by rw[z]⟩
  rw[e];exact hq _ _ H h (Same.refl H) (.bl _)
 ·exact .inr ⟨hd,O,_,_,rx,ry,h.1,h.2.1,hq _ _ H h.2.2 (Same.refl H) (.bl _)⟩
def oLtA:G2
 | .int i,.int j,R=>R (.bool (decide (i<j)))
 | .str i,.str j,R=>R (.bool (decide (i.cps.toList<j.cps.toList)))
 | .tuple xs,.tuple ys,R=>∃ns ms,xs=ns.map PyData.int/\ys=ms.map PyData.int/\R (.bool (HT.lexLt ns ms))
 | _,_,_=>False
def rLtA(K:qF):R2:=fun x y H Q=>(rI0 fun i j=>.bl (decide (i<j))) x y H Q\/(∃i j,x=.str i/\y=.str j/\Q (.bl (decide (i.cps.toList<j.cps.toList))) H)\/rLtT K x y H Q
theorem zkr(hr:Room k X.A):OpR X (compareOp .Lt) (rLtA X.K):=OpR.or zks (OpR.or zf3 (zkq hr.units0))
theorem zce{K:qF}{hd:Option Addr}{O:Addr->Prop}{H:Hp}:∀{ns:List Int}{vs:List V},Reps K hd O H vs (ns.map PyData.int)->vs=ns.map V.int
 | [],_,h=>by cases h;rfl
 | n::ns,_,h=>by
  cases h with
  | cons h r=>rw[h.intI,zce r];rfl
theorem zll:Gp2 X (rLtA X.K) oLtA:=by
 intro hd O H x y t u Q R dom rx ry h hq;unfold oLtA at h;split at h
 ·exact .inl ⟨_,_,rx.intI,ry.intI,hq _ _ H h (Same.refl H) (.bl _)⟩
 ·exact .inr (.inl ⟨_,_,rx.strI,ry.strI,hq _ _ H h (Same.refl H) (.bl _)⟩)
 ·obtain⟨ns,ms,rfl,rfl,h⟩:=h;obtain⟨p,vs,e1,s1,r1⟩:=rx.tupI;obtain⟨q,ws,e2,s2,r2⟩:=ry.tupI;rw[zce r1]at s1;rw[zce r2]at s2;exact .inr (.inr ⟨p,q,ns,ms,e1,e2,s1,s2,hq _ _ H h (Same.refl H) (.bl _)⟩)
 ·exact h.elim
def oLeA:G2
 | .int i,.int j,R=>R (.bool (decide (i<=j)))
 | .str i,.str j,R=>R (.bool (!decide (j.cps.toList<i.cps.toList)))
 | _,_,_=>False
def rLeA:R2:=fun x y H Q=>(rI0 fun i j=>.bl (decide (i<=j))) x y H Q\/(∃i j,x=.str i/\y=.str j/\Q (.bl (!decide (j.cps.toList<i.cps.toList))) H)
theorem zf4:OpR X (compareOp .LtE) (fun x y H Q=>∃i j,x=.str i/\y=.str j/\Q (.bl (!decide (j.cps.toList<i.cps.toList))) H):=by
 intro pins s σ H x y v u Q I rx ry h;obtain⟨i,j,rfl,rfl,q⟩:=h;obtain⟨t,rfl⟩:=rx;obtain⟨t',rfl⟩:=ry;exact PySem.P.le_str ⟨.bl _,H,I,rfl,q⟩
theorem zf5:OpR X (compareOp .LtE) rLeA:=OpR.or zmL zf4
theorem zgE:Gp2 X rLeA oLeA:=by
 intro hd O H x y t u Q R dom rx ry h hq;unfold oLeA at h;split at h
 ·exact .inl ⟨_,_,rx.intI,ry.intI,hq _ _ H h (Same.refl H) (.bl _)⟩
 ·exact .inr ⟨_,_,rx.strI,ry.strI,hq _ _ H h (Same.refl H) (.bl _)⟩
 ·exact h.elim
variable{r r':R2}{g g':G2}
end
section
variable{X:Cx}{a b c e:Expr}{es rest:List Expr}{d da db dc:DTE}{t u:DTT}{pos p:Pos}{k:Nat}
def truD:PyData->(Bool->Prop)->Prop
 | .none,R=>R false
 | .bool b,R=>R b
 | .int i,R=>R (decide (i≠0))
 | .str x,R=>x.length<=16777216/\R (decide (x.length≠0))
 | .list ts,R=>R (!ts.isEmpty)
 | .tuple ts,R=>R (!ts.isEmpty)
 | _,_=>False
def dTru(d:DTE):DTT:=fun ρ n R=>d ρ n fun t n'=>truD t fun b=>R b n'
theorem zjO{K:qF}{hd:Option Addr}{O:Addr->Prop}{H:Hp}{v:V}{t:PyData}{Q:Bool->Hp->Prop}{R:Bool->Prop}(r:RepT K hd O H v t)(h:truD t R)(hq:∀b,R b->Q b H):∃k,TruV K v H k/\Q k H:=by
 cases t with
 | none=>exact⟨false,by rw[r.nonI];rfl,hq _ h⟩
 | bool b=>exact⟨b,by rw[r.blI];rfl,hq _ h⟩
 | int i=>exact⟨decide (i≠0),by rw[r.intI];show _=(i != 0);by_cases z:i=0 <;> simp[z],hq _ h⟩
 | str x =>
  refine⟨decide (x.length≠0),by rw[r.strI];exact⟨h.1,by by_cases z:x.length=0 <;> simp[z]⟩,hq _ h.2⟩
 | list ts =>
  obtain⟨p,vs,e,h1,h2⟩:=r.lstI;subst e;refine⟨!ts.isEmpty,.inl ⟨vs,.of h1,?_⟩,hq _ h⟩;cases h2 <;> rfl
 | tuple ts =>
  obtain⟨p,vs,e,h1,h2⟩:=r.tupI;subst e;refine⟨!ts.isEmpty,.inr (.inl ⟨vs,h1,?_⟩),hq _ h⟩;cases h2 <;> rfl
 | dict _=>exact h.elim
theorem zgJ(ha:DL X a da)(he:∀whole,isTrue a X.env whole=(do let v <- whole;standAt a.pos;holding [v] (truthy v)):=by intro _;rfl):DT X a (dTru da):=by
 obtain⟨ta,pa,ha⟩:=ha;refine⟨_,zho pa he,fun C ρ σ H n Q R S h hq=>?_⟩
 refine ha C ρ σ H n _ _ S h fun t n' v H' r e1 h1 q=>?_
 exact zjO q r fun b rb=>hq b n' H' rb e1 h1
def dAnd(t u:DTT):DTT:=fun ρ n R=>t ρ n fun b n1=>if b=true then u ρ n1 R else R false n1
theorem znp(h:DW X a t):DT X a t:=by
 obtain⟨ta,pa,h⟩:=h;exact⟨_,pa.pt,h⟩
theorem zjq(h:DT X a t):DW X (.BoolOp .And [a] pos) t:=by
 obtain⟨ta,pa,h⟩:=h;exact⟨_,ziK pa,h⟩
theorem zlB(h:DT X a t)(h':DW X (.BoolOp .And (b::rest) pos) u):DW X (.BoolOp .And (a::b::rest) pos) (dAnd t u):=by
 obtain⟨ta,pa,h⟩:=h;obtain⟨tb,pb,h'⟩:=h';refine⟨_,zj6 pa pb,fun C ρ σ H n Q R S hd hq=>?_⟩
 refine h C ρ σ H n _ _ S hd fun b n1 H1 r e1 h1=>?_
 cases b with
 | true=>exact iteT (h' C ρ σ H1 n1 Q R (S.on e1 h1) (by simpa using r) fun b n2 H2 r e2 h2=>hq b n2 H2 r (e1.trans e2) h2)
 | false=>exact iteF (hq _ n1 H1 (by simpa using r) e1 h1)
def bolD:PyData->(Bool->Prop)->Prop
 | .bool b,R=>R b
 | _,_=>False
def dOrV(da db:DTE):DTE:=fun ρ n R=>da ρ n fun t n1=>bolD t fun b=>if b=true then R (.bool true) n1 else db ρ n1 R
theorem zlG{op}(h:DE X a d):DE X (.BoolOp op [a] pos) d:=by
 obtain⟨ta,pa,h⟩:=h;exact⟨_,zkd pa,h⟩
theorem zlF(h:DE X a da)(h':DE X (.BoolOp .Or (b::rest) pos) db):DE X (.BoolOp .Or (a::b::rest) pos) (dOrV da db):=by
 obtain⟨ta,pa,h⟩:=h;obtain⟨tb,pb,h'⟩:=h';refine⟨_,zmG pa pb,fun C ρ σ H n Q R S hd hq=>?_⟩
 refine h C ρ σ H n _ _ S hd fun t n1 v H1 r e1 h1 q1=>?_
 cases t with
 | bool b =>
  cases q1;refine⟨b,rfl,?_⟩;cases b with
  | false=>exact iteF (h' C ρ σ H1 n1 Q R (S.on e1 h1) (by simpa[bolD] using r) fun t n2 v H2 r e2 h2 q2=>hq t n2 v H2 r (e1.trans e2) h2 q2)
  | true=>exact iteT (hq _ n1 _ H1 (by simpa[bolD] using r) e1 h1 (.bl _))
 | _=>exact r.elim
def dNil:DTA:=fun _ n R=>R [] n
def J5(d:DTE)(ds:DTA):DTA:=fun ρ n R=>d ρ n fun t n1=>ds ρ n1 fun ts n2=>R (t::ts) n2
theorem Ji:DB X [] dNil:=⟨_,QD,fun C ρ σ H n Q R S h hq=>hq [] n [] H h ExtE.refl S.hnd .nil rfl⟩
theorem Jc{ds:DTA}(h:DE X e d)(hr:DB X es ds)(hs:starEach (e::es) X.env=(false,eval e X.env)::starEach es X.env):DB X (e::es) (J5 d ds):=by
 obtain⟨ta,pa,h⟩:=h;obtain⟨tb,pb,hr⟩:=hr;refine⟨_,Qd pa pb hs,fun C ρ σ H n Q R S hd hq=>?_⟩
 refine h C ρ σ H n _ _ S hd fun t n1 v H1 r e1 h1 q1=>?_
 refine hr C ρ σ H1 n1 _ _ (S.on e1 h1) r fun ts n2 vs H2 r2 e2 h2 q2 l2=>?_
 exact hq _ n2 _ H2 r2 (e1.trans e2) h2 (.cons (e2.rep S.hx q1) q2) (by simp[l2])
def Us(K:qF)(hd:Option Addr)(O:Addr->Prop)(H:Hp):List V->List PyData->Prop:=Paired (RepT K hd O H)
def DBL(X:Cx)(es:List Expr)(d:DTA):Prop:=∃ta,PB X es ta/\∀(C:Ctx) (ρ:En) (σ:St) (H:Hp) (n:Nat) (Q:List V->Hp->Prop) (R:List PyData->Nat->Prop),Stt X.K C ρ σ H n->d ρ n R ->
 (∀ts n' vs H',R ts n'->ExtE C.hd H H'->Hn C.hd H' n'->Us X.K C.hd (Own C ρ σ) H' vs ts->ts.length=es.length->Q vs H')->ta σ H Q
theorem JH:DBL X [] dNil:=⟨_,QD,fun C ρ σ H n Q R S h hq=>hq [] n [] H h ExtE.refl S.hnd .nil rfl⟩
theorem Jz{ds:DTA}(h:DL X e d)(hr:DBL X es ds)(hs:starEach (e::es) X.env=(false,eval e X.env)::starEach es X.env):DBL X (e::es) (J5 d ds):=by
 obtain⟨ta,pa,h⟩:=h;obtain⟨tb,pb,hr⟩:=hr;refine⟨_,Qd pa pb hs,fun C ρ σ H n Q R S hd hq=>?_⟩
 refine h C ρ σ H n _ _ S hd fun t n1 v H1 r e1 h1 q1=>?_
 refine hr C ρ σ H1 n1 _ _ (S.on e1 h1) r fun ts n2 vs H2 r2 e2 h2 q2 l2=>?_
 exact hq _ n2 _ H2 r2 (e1.trans e2) h2 (.cons (e2.repT S.hx q1) q2) (by simp[l2])
def dTup(ds:DTA):DTE:=fun ρ n R=>ds ρ n fun ts n1=>R (.tuple ts) n1
theorem Qa{x1:Nat}{ds:DTA}(h:DB X es ds)(hl:es.length<=sizeLine:=by decide):DE X (.Tuple es x1 pos) (dTup ds):=by
 obtain⟨ta,pa,h⟩:=h;refine⟨_,ziU pa,fun C ρ σ H n Q R S hd hq=>?_⟩
 refine h C ρ σ H n _ _ S hd fun ts n1 vs H1 r e1 h1 q1 l1=>⟨by rw[q1.length,l1];exact hl,fun p hp=>?_⟩
 have S1:=S.on e1 h1;exact hq _ n1 _ _ r (e1.trans (ExtE.new hp)) (h1.same (J4 hp)) (.newT (S1.free hp) hp q1)
theorem QA{ds:DTA}(h:DB X es ds)(hl:es.length<=sizeLine:=by decide):DN X (.List es pos) ds:=by
 obtain⟨ta,pa,h⟩:=h;refine⟨_,zfY pa,fun C ρ σ H n Q R S hd hq=>?_⟩
 refine h C ρ σ H n _ _ S hd fun ts n1 vs H1 r e1 h1 q1 l1=>⟨by rw[q1.length,l1];exact hl,fun p hp=>?_⟩
 have S1:=S.on e1 h1;have hp0:H p=none:=by
  cases z:H p with
  | none=>rfl
  | some o =>
   by_cases y:C.hd=some p
   ·obtain⟨d,m,t,q,_⟩:=h1 p y;rw[hp]at q;cases q
   ·rw[e1 p o z y]at hp;cases hp
 refine hq ts n1 p vs _ r (e1.trans (ExtE.new hp)) (h1.same (J4 hp)) hp0 JC ?_;refine q1.mono (fun b o hb z=>z.elim id fun z=>?_) fun b o _ hb=>J4 hp b o hb
 subst z;rw[hp]at hb;cases hb
end
section
variable{X:Cx}{a b c e:Expr}{es rest:List Expr}{d da db dc:DTE}{ds:DTA}{pos p:Pos}{k:Nat}{x:Str}
abbrev GC:=List PyData->(PyData->Prop)->Prop
def UA(g:GC)(ds:DTA):DTE:=fun ρ n R=>ds ρ n fun ts n1=>g ts fun z=>R z n1
def GpC(X:Cx)(r:List V->Hp->VK->Prop)(g:GC):Prop:=∀(hd:Option Addr) (O:Addr->Prop) (H:Hp) (xs:List V) (ts:qD) (Q:VK) (R:PyData->Prop),(∀p,O p->H p≠none)->Us X.K hd O H xs ts->g ts R ->
 (∀z v H',R z->Same H H'->Rep X.K hd O H' v z->Q v H')->r xs H Q
theorem JQ{id:String}{r:List V->Hp->VK->Prop}{g:GC}(hc:JB X (.builtin id) r)(hgp:GpC X r g)(hm:X.mg x=none)(hv:bootBuiltins x=some (.builtin id))(h:DBL X (e::es) ds)(hg:Gl X x:=by rfl)(hn:x ≠ "__name__":=by decide) (hdb:(x == ("__debug__":Str))=false:=by decide) :
  DE X (.Call (.Name x p) (e::es) [] pos) (UA g ds):=by
 obtain⟨ta,pa,h⟩:=h;refine⟨_,ziW hc hm hv pa hg hn hdb,fun C ρ σ H n Q R S hd hq=>?_⟩
 refine h C ρ σ H n _ _ S hd fun ts n1 vs H1 r1 e1 h1 q1 _=>?_
 have S1:=S.on e1 h1;exact hgp C.hd (Own C ρ σ) H1 vs ts Q _ (fun p=>S1.dom) q1 r1 fun z u H' rz sm rp=>hq z n1 u H' rz (e1.trans sm.ext) (h1.same sm) rp
theorem zjs{T:String}{r:List V->Hp->VK->Prop}{g:GC}(hc:JB X (.type T) r)(hgp:GpC X r g)(hm:X.mg x=none)(hv:bootBuiltins x=some (.type T))(h:DBL X (e::es) ds)(hg:Gl X x:=by rfl)(hn:x ≠ "__name__":=by decide) (hdb:(x == ("__debug__":Str))=false:=by decide) :
  DE X (.Call (.Name x p) (e::es) [] pos) (UA g ds):=by
 obtain⟨ta,pa,h⟩:=h;refine⟨_,zkg hc hm hv pa hg hn hdb,fun C ρ σ H n Q R S hd hq=>?_⟩
 refine h C ρ σ H n _ _ S hd fun ts n1 vs H1 r1 e1 h1 q1 _=>?_
 have S1:=S.on e1 h1;exact hgp C.hd (Own C ρ σ) H1 vs ts Q _ (fun p=>S1.dom) q1 r1 fun z u H' rz sm rp=>hq z n1 u H' rz (e1.trans sm.ext) (h1.same sm) rp
theorem Qq{K:qF}{hd:Option Addr}{O:Addr->Prop}{H:Hp}{xs:List V}{t:PyData}(h:Us K hd O H xs [t]):∃v,xs=[v]/\RepT K hd O H v t:=by
 cases h with
 | cons h r=>cases r;exact⟨_,rfl,h⟩
theorem zh6{K:qF}{hd:Option Addr}{O:Addr->Prop}{H:Hp}{xs:List V}{t u:PyData}(h:Us K hd O H xs [t,u]):∃v w,xs=[v,w]/\RepT K hd O H v t/\RepT K hd O H w u:=by
 cases h with
 | cons h r=>cases r with|cons h2 r=>cases r;exact⟨_,_,rfl,h,h2⟩
def bLen:GC
 | [.list ts],R=>R (.int ts.length)
 | [.tuple ts],R=>R (.int ts.length)
 | [.str x],R=>x.length<=16777216/\R (.int x.length)
 | [.dict [(.none,.list ts)]],R=>R (.int ts.length)
 | _,_=>False
def rLen(K:qF):List V->Hp->VK->Prop:=fun xs H Q=>∃x n,xs=[x]/\LenV K x H n/\Q (.int n) H
theorem UF:GpC X (rLen X.K) bLen:=by
 intro hd O H xs ts Q R dom rs h hq;unfold bLen at h;split at h
 ·obtain⟨v,rfl,r⟩:=Qq rs;obtain⟨p,vs,rfl,h1,h2⟩:=r.lstI;exact⟨_,_,rfl,.inl ⟨vs,.of h1,rfl⟩,by rw[h2.length];exact hq _ _ H h (Same.refl H) (.int _)⟩
 ·obtain⟨v,rfl,r⟩:=Qq rs;obtain⟨p,vs,rfl,h1,h2⟩:=r.tupI;exact⟨_,_,rfl,.inr ⟨vs,h1,rfl⟩,by rw[h2.length];exact hq _ _ H h (Same.refl H) (.int _)⟩
 ·obtain⟨v,rfl,r⟩:=Qq rs;rw[r.strI];exact⟨_,_,rfl,⟨h.1,rfl⟩,hq _ _ H h.2 (Same.refl H) (.int _)⟩
 ·rename_i ts;obtain⟨v,rfl,r⟩:=Qq rs;have r:=r.rep (by intro _ z;cases z)
  generalize e:(PyData.dict [(PyData.none,PyData.list ts)])=t at r;cases r with
  | scr h1 o =>
   simp only[SCR,PyData.dict.injEq,List.cons.injEq,Prod.mk.injEq,PyData.list.injEq,true_and,and_true]at e;subst e;exact⟨_,_,rfl,.inl ⟨_,.inl h1,rfl⟩,by simpa using hq _ _ H h (Same.refl H) (.int _)⟩
  | scrS h1 =>
   simp only[SCR,PyData.dict.injEq,List.cons.injEq,Prod.mk.injEq,PyData.list.injEq,true_and,and_true]at e;subst e;exact⟨_,_,rfl,.inl ⟨_,h1 H,rfl⟩,by simpa using hq _ _ H h (Same.refl H) (.int _)⟩
  | hand _=>simp[HAND]at e
  | dct _ _=>cases e
  | dcK _ _ _ e'=>cases e;exact(QF e').elim
  | dcT _ _ _ e'=>cases e;exact(dict_noT e').elim
  | _=>cases e
 ·exact h.elim
def bMin:GC
 | [.int i,.int j],R=>R (.int (if j<i then j else i))
 | _,_=>False
def bMax:GC
 | [.int i,.int j],R=>R (.int (if j > i then j else i))
 | _,_=>False
theorem zil:GpC X (fun xs H Q=>∃i j,xs=[.int i,.int j]/\Q (.int (if j<i then j else i)) H) bMin:=by
 intro hd O H xs ts Q R dom rs h hq;unfold bMin at h;split at h
 ·obtain⟨v,w,rfl,r1,r2⟩:=zh6 rs;rw[r1.intI,r2.intI];exact⟨_,_,rfl,hq _ _ H h (Same.refl H) (.int _)⟩
 ·exact h.elim
theorem zim:GpC X (fun xs H Q=>∃i j,xs=[.int i,.int j]/\Q (.int (if j > i then j else i)) H) bMax:=by
 intro hd O H xs ts Q R dom rs h hq;unfold bMax at h;split at h
 ·obtain⟨v,w,rfl,r1,r2⟩:=zh6 rs;rw[r1.intI,r2.intI];exact⟨_,_,rfl,hq _ _ H h (Same.refl H) (.int _)⟩
 ·exact h.elim
def bAll:GC
 | [.list ts],R=>∃bs:List Bool,ts=bs.map PyData.bool/\R (.bool (bs.all id))
 | _,_=>False
theorem zcM{K:qF}{hd:Option Addr}{O:Addr->Prop}{H:Hp}:∀{ns:List Bool}{vs:List V},Reps K hd O H vs (ns.map PyData.bool)->vs=ns.map V.bl
 | [],_,h=>by cases h;rfl
 | n::ns,_,h=>by
  cases h with
  | cons h r=>rw[h.blI,zcM r];rfl
theorem zin:GpC X (fun xs H Q=>∃(a:Addr) (bs:List Bool),xs=[.ref a]/\SqL X.K H a (bs.map V.bl)/\Q (.bl (bs.all id)) H) bAll:=by
 intro hd O H xs ts Q R dom rs h hq;unfold bAll at h;split at h
 ·obtain⟨bs,rfl,h⟩:=h;obtain⟨v,rfl,r1⟩:=Qq rs;obtain⟨p,vs,rfl,h1,h2⟩:=r1.lstI;rw[zcM h2]at h1;exact⟨p,bs,rfl,.of h1,hq _ _ H h (Same.refl H) (.bl _)⟩
 ·exact h.elim
def Ub:GC
 | [.list ts],R=>R (.tuple ts)
 | [.tuple ts],R=>R (.tuple ts)
 | _,_=>False
theorem zdb:GpC X (fun xs H Q=>∃p ys,xs=[.ref p]/\((SqL X.K H p ys/\∀l,H l=none->Q (.ref l) (upd H l (.tup ys)))\/(SqT X.K H p ys/\Q (.ref p) H))) Ub:=by
 intro hd O H xs ts Q R dom rs h hq;unfold Ub at h;split at h
 ·obtain⟨v,rfl,r1⟩:=Qq rs;obtain⟨p,vs,rfl,h1,h2⟩:=r1.lstI;refine⟨p,vs,rfl,.inl ⟨.of h1,fun l hl=>?_⟩⟩
  exact hq _ _ _ h (J4 hl) (.newT (fun z=>dom l z hl) hl h2)
 ·obtain⟨v,rfl,r1⟩:=Qq rs;obtain⟨p,vs,rfl,h1,h2⟩:=r1.tupI;exact⟨p,vs,rfl,.inr ⟨h1,hq _ _ H h (Same.refl H) (r1.rep (by intro _ z;cases z))⟩⟩
 ·exact h.elim
def QS:PyData->(List PyData->Prop)->Prop
 | .list ts,R=>R ts
 | .tuple ts,R=>R ts
 | _,_=>False
end
section
variable{X:Cx}{a b c e:Expr}{es rest:List Expr}{d da db dc:DTE}{ds:DTA}{pos p:Pos}{k:Nat}{x:Str}
theorem Reps.atI{K:qF}{hd:Option Addr}{O:Addr->Prop}{H:Hp}{vs ts}{i:Int}{t}(r:Reps K hd O H vs ts)(h:L2.atI ts i=some t):∃v,L2.atI vs i=some v/\Rep K hd O H v t:=by
 unfold L2.atI at h ⊢;rw[r.length];cases e:ixN ts.length i with
 | none=>rw[e]at h;cases h
 | some j =>
  rw[e]at h;have h:ts[j]?=some t:=h;exact r.get h
def oIx:G2
 | .list ts,.int i,R=>match atI ts i with|some t=>R t|none=>False
 | .tuple ts,.int i,R=>match atI ts i with|some t=>R t|none=>False
 | .str x,.int i,R=>x.length<=16777216/\match atI x.cps.toList i with|some c=>R (.str ⟨#[c]⟩)|none=>False
 | _,_,_=>False
theorem znm:Gp2 X (rIx X.K) oIx:=by
 intro hd O H x y t u Q R dom rx ry h hq;unfold oIx at h;split at h
 ·rename_i ts i;obtain⟨p,vs,rfl,h1,h2⟩:=rx.lstI;split at h
  ·rename_i t et;obtain⟨v,ev,rv⟩:=h2.atI et;exact .inl ⟨p,vs,i,v,rfl,ry.intI,.of h1,ev,hq _ _ H h (Same.refl H) rv⟩
  ·exact h.elim
 ·rename_i ts i;obtain⟨p,vs,rfl,h1,h2⟩:=rx.tupI;split at h
  ·rename_i t et;obtain⟨v,ev,rv⟩:=h2.atI et;exact .inr (.inl ⟨p,vs,i,v,rfl,ry.intI,h1,ev,hq _ _ H h (Same.refl H) rv⟩)
  ·exact h.elim
 ·rename_i z i;obtain⟨h0,h⟩:=h;split at h
  ·rename_i c ec;exact .inr (.inr ⟨z,i,c,rx.strI,ry.intI,h0,ec,hq _ _ H h (Same.refl H) (.str _)⟩)
  ·exact h.elim
 ·exact h.elim
theorem JR(ha:DL X a da)(hb:DL X b db)(hs:zha b:=by intro _ _;rfl):DE X (.Subscript a b pos) (dOp oIx da db):=by
 obtain⟨ta,pa,ha⟩:=ha;obtain⟨tb,pb,hb⟩:=hb;refine⟨_,Qm zk2 pa pb hs,fun C ρ σ H n Q R S h hq=>?_⟩
 refine two ha hb S h fun x y n2 v w H2 r2 e S2 q1 q2=>?_
 exact znm C.hd (Own C ρ σ) H2 v w x y Q _ (fun p=>S2.dom) q1 q2 r2 fun z u H' rz sm rp=>hq z n2 u H' rz (e.trans sm.ext) (S2.hnd.same sm) rp
def dNeg(d:DTE):DTE:=fun ρ n R=>d ρ n fun t n1=>match t with|.int i=>R (.int (-i)) n1|_=>False
theorem UB(h:DE X a da):DE X (.UnaryOp .USub a pos) (dNeg da):=by
 obtain⟨ta,pa,h⟩:=h;refine⟨_,zmF zjI pa,fun C ρ σ H n Q R S hd hq=>?_⟩
 refine h C ρ σ H n _ _ S hd fun t n1 v H1 r e1 h1 q1=>?_
 cases t with
 | int i=>rw[q1.intI];exact⟨i,rfl,hq _ n1 _ H1 r e1 h1 (.int _)⟩
 | _=>exact r.elim
def zj4(K:qF):R2:=fun x y H Q=>∃a b xs ys,x=.ref a/\y=.ref b/\SqT K H a xs/\SqT K H b ys/\xs.length+ys.length<=sizeLine /\
 (xs=[]->Q (.ref b) H)/\(ys=[]->Q (.ref a) H)/\∀p,H p=none->Q (.ref p) (upd H p (.tup (xs++ys)))
theorem ziY:OpR X (binaryOp .Add) (zj4 X.K):=by
 intro pins s σ H x y v u Q I rx ry h;obtain⟨a,b,xs,ys,rfl,rfl,ha,hb,hz,q0,q1,q2⟩:=h
 by_cases hx:xs=[]
 ·cases rx;cases ry;obtain⟨its,r1,p1,_⟩:=I.tuple ha;obtain⟨its2,r2,p2,_⟩:=I.tuple hb;have hv:its=[]:=r1.nil_iff.mpr hx;obtain⟨⟨cls,dd,data,sl⟩,ho,hc,n,hd⟩:=id p1;obtain⟨⟨cls2,dd2,data2,sl2⟩,ho2,hc2,n2,hd2⟩:=id p2;simp only at hc hd hc2 hd2;subst hc hd hc2 hd2;exact concat_meets ⟨_,ho,rfl⟩ ⟨_,ho2,rfl⟩ noFill_tuple_add seq_tuple_add PySem.F.slot_tuple_add PySem.F.entry_tuple_add (PySem.F.args_tuple_add_2 _ _)
   (tuple_addW0 a b its.toArray its2.toArray n n2 dd dd2 sl sl2 (by simp[hv])) ⟨ho,ho2,⟨.ref b,H,I,rfl,q0 hx⟩⟩
 ·exact ziX pins s σ H _ _ v u Q I rx ry ⟨a,b,xs,ys,rfl,rfl,ha,hb,hx,hz,q1,fun _=>q2⟩
def oAdd:G2
 | .int i,.int j,R=>R (.int (i+j))
 | .str i,.str j,R=>i.length+j.length<=16777216/\R (.str (i++j))
 | .tuple xs,.tuple ys,R=>xs.length+ys.length<=16777216/\R (.tuple (xs++ys))
 | _,_,_=>False
def zj5(K:qF):R2:=fun x y H Q=>(rI0 fun i j=>.int (i+j)) x y H Q\/(∃i j,x=.str i/\y=.str j/\i.length+j.length<=sizeLine/\Q (.str (i++j)) H)\/zj4 K x y H Q
theorem ziZ:OpR X (binaryOp .Add) (zj5 X.K):=OpR.or Qg (OpR.or zfg ziY)
theorem zlo:Gp2 X (zj5 X.K) oAdd:=by
 intro hd O H x y t u Q R dom rx ry h hq;unfold oAdd at h;split at h
 ·exact .inl ⟨_,_,rx.intI,ry.intI,hq _ _ H h (Same.refl H) (.int _)⟩
 ·exact .inr (.inl ⟨_,_,rx.strI,ry.strI,h.1,hq _ _ H h.2 (Same.refl H) (.str _)⟩)
 ·rename_i xs ys;obtain⟨p,vs,rfl,h1,h2⟩:=rx.tupI;obtain⟨q,ws,rfl,h3,h4⟩:=ry.tupI;refine .inr (.inr ⟨p,q,vs,ws,rfl,rfl,h1,h3,by rw[h2.length,h4.length];exact h.1,fun e=>?_,fun e=>?_,fun l hl=>?_⟩)
  ·subst e;cases h2;exact hq _ _ H h.2 (Same.refl H) (ry.rep (by intro _ z;cases z))
  ·subst e;cases h4;exact hq _ _ H h.2 (Same.refl H) (by rw[List.append_nil];exact rx.rep (by intro _ z;cases z))
  ·exact hq _ _ _ h.2 (J4 hl) (.newT (fun z=>dom l z hl) hl (h2.append h4))
 ·exact h.elim
theorem Qe(ha:DL X a da)(hb:DL X b db):DE X (.BinOp a .Add b pos) (dOp oAdd da db):=Uu ziZ zlo ha hb
theorem zgz{C:Ctx}{H H1:Hp}{n1:Nat}{p:Addr}(e1:ExtE C.hd H H1)(h1:Hn C.hd H1 n1)(hp:H1 p=none):H p=none:=by
 cases z:H p with
 | none=>rfl
 | some o =>
  by_cases y:C.hd=some p
  ·obtain⟨d,m,t,q,_⟩:=h1 p y;rw[hp]at q;cases q
  ·rw[e1 p o z y]at hp;cases hp
abbrev GD:=List PyData->Nat->(PyData->Nat->Prop)->Prop
def spD(K:qF)(m:Nat)(g:GD):Sp:=fun vs H Q _=>∃(hd:Option Addr) (O:Addr->Prop) (ts:qD) (n:Nat) (R:qN),Reps K hd O H vs ts/\Hn hd H n/\(∀a,O a->MutO (H a))/\(∀a,hd=some a->O a)/\ts.length=m/\g ts n R /\
 ∀t n' v H',R t n'->ExtE hd H H'->Hn hd H' n'->Rep K hd O H' v t->Q v H'
def dFn(g:GD)(ds:DTA):DTE:=fun ρ n R=>ds ρ n fun ts n1=>g ts n1 R
theorem znq{st:Stmt}{ps:List Str}{f:Addr}{fd:FuncData}{g:GD}{m:Nat}(D:Bd.Def X.K X.mg x st ps f fd)(G:FnOk X.prog X.w X.K X.mg X.base CX0 k f fd ps (spD X.K m g))(hr:Room k X.A)(h:DB X (e::es) ds)(hm:(e::es).length=m:=by rfl)(hg:Gl X x:=by rfl)
  (hdb:(x == ("__debug__":Str))=false:=by decide):DE X (.Call (.Name x p) (e::es) [] pos) (dFn g ds):=by
 obtain⟨ta,pa,h⟩:=h;refine⟨_,Bd.zkf D G hr pa hg hdb,fun C ρ σ H n Q R S hd hq=>?_⟩
 refine h C ρ σ H n _ _ S hd fun ts n1 vs H1 r1 e1 h1 q1 l1=>?_
 have S1:=S.on e1 h1;rw[List.append_nil];exact⟨C.hd,Own C ρ σ,ts,n1,R,q1,h1,fun a=>S1.lst,fun a z=>.inl (S.hx a z),l1.trans hm,r1,fun t n' v H' rt e2 h2 q2=>hq t n' v H' rt (e1.trans e2) h2 q2⟩
end
def Keep(C:Ctx)(ρ:En)(σ:St)(H:Hp)(ρ':En)(σ':St)(H':Hp):Prop:=∀a o,H a=some o->C.hd≠some a->¬OwnS ρ σ a->H' a=some o/\¬OwnS ρ' σ' a
structure DEnds where
 nx:En->Nat->Prop
 rt:PyData->Nat->Prop
 bk:En->Nat->Prop:=fun _ _=>False
 ct:En->Nat->Prop:=fun _ _=>False
abbrev DTS:=DEnds->En->Nat->Prop
structure Good(K:qF)(C:Ctx)(ρ:En)(σ:St)(H:Hp)(D:Ends)(D':DEnds):Prop where
 nx:∀ρ' σ' H' n',D'.nx ρ' n'->Stt K C ρ' σ' H' n'->Keep C ρ σ H ρ' σ' H'->D.nx σ' H'
 rt:∀t n' v H',D'.rt t n'->Hn C.hd H' n'->(∀a o,H a=some o->C.hd≠some a->¬OwnS ρ σ a->H' a=some o)->Rep K C.hd C.ext H' v t->D.rt v H'
 bk:∀ρ' σ' H' n',D'.bk ρ' n'->Stt K C ρ' σ' H' n'->Keep C ρ σ H ρ' σ' H'->D.bk σ' H'
 ct:∀ρ' σ' H' n',D'.ct ρ' n'->Stt K C ρ' σ' H' n'->Keep C ρ σ H ρ' σ' H'->D.ct σ' H'
def DS(X:Cx)(st:Stmt)(d:DTS):Prop:=∃ts,PS X st ts/\∀(C:Ctx) (ρ:En) (σ:St) (H:Hp) (n:Nat) (D:Ends) (D':DEnds),Stt X.K C ρ σ H n->d D' ρ n->Good X.K C ρ σ H D D'->ts D σ H
def DSs(X:Cx)(st:List Stmt)(d:DTS):Prop:=∃ts,PSs X st ts/\∀(C:Ctx) (ρ:En) (σ:St) (H:Hp) (n:Nat) (D:Ends) (D':DEnds),Stt X.K C ρ σ H n->d D' ρ n->Good X.K C ρ σ H D D'->ts D σ H
section
variable{K:qF}{C:Ctx}{ρ ρ1 ρ2:En}{σ σ1 σ2:St}{H H1 H2:Hp}{n n1:Nat}{D:Ends}{D':DEnds}
theorem Keep.refl:Keep C ρ σ H ρ σ H:=fun _ _ h _ no=>⟨h,no⟩
theorem Keep.trans(k1:Keep C ρ σ H ρ1 σ1 H1)(k2:Keep C ρ1 σ1 H1 ρ2 σ2 H2):Keep C ρ σ H ρ2 σ2 H2:=fun a o h nh no=>by
 obtain⟨h1,no1⟩:=k1 a o h nh no;exact k2 a o h1 nh no1
theorem ExtE.keep(e:ExtE C.hd H H1):Keep C ρ σ H ρ σ H1:=fun a o h nh no=>⟨e a o h nh,no⟩
theorem Good.on(g:Good K C ρ σ H D D')(k:Keep C ρ σ H ρ1 σ1 H1):Good K C ρ1 σ1 H1 D D' where
 nx:=fun ρ' σ' H' n' h S k'=>g.nx ρ' σ' H' n' h S (k.trans k')
 rt:=fun t n' v H' h hn k' r=>g.rt t n' v H' h hn (fun a o ha nh no=>by
  obtain⟨h1,no1⟩:=k a o ha nh no;exact k' a o h1 nh no1) r
 bk:=fun ρ' σ' H' n' h S k'=>g.bk ρ' σ' H' n' h S (k.trans k')
 ct:=fun ρ' σ' H' n' h S k'=>g.ct ρ' σ' H' n' h S (k.trans k')
theorem Keep.reps(k:Keep C ρ σ H ρ1 σ1 H1)(hx:∀a,C.hd=some a->C.ext a){v t}(r:Reps K C.hd (Own C ρ σ) H v t):Reps K C.hd (Own C ρ1 σ1) H1 v t :=
 Reps.mono (O:=Own C ρ σ) (fun a o h z=>by
  by_cases q:Own C ρ σ a
  ·exact q
  ·rcases z with z|z
   ·exact .inl z
   ·exact absurd z (k a o h (fun y=>q (.inl (hx a y))) fun y=>q (.inr y)).2) (fun a o no h=>(k a o h (fun y=>no (.inl (hx a y))) fun y=>no (.inr y)).1) r
theorem Jk{α:Type}{l:List (Option α)}{i j:Nat}{v w:α}(h:(l.set i (some v))[j]?=some (some w)):(i=j/\v=w)\/(i≠j/\l[j]?=some (some w)):=by
 by_cases e:i=j
 ·subst e;rw[List.getElem?_set]at h;simp only[↓reduceIte]at h;split at h
  ·simp at h;exact .inl ⟨rfl,h⟩
  ·cases h
 ·rw[List.getElem?_set_ne e]at h;exact .inr ⟨e,h⟩
theorem QV{α:Type}{l:List (Option α)}{i j:Nat}{v w:α}(e:i≠j)(h:l[j]?=some (some w)):(l.set i (some v))[j]?=some (some w):=by
 rw[List.getElem?_set_ne e];exact h
theorem zh4{α:Type}{l:List (Option α)}{i j:Nat}{v:α}{w:Option α}(h:(l.set i (some v))[j]?=some w)(e:i=j):i<l.length:=by
 subst e;rw[List.getElem?_set]at h;simp only[↓reduceIte]at h;split at h
 ·assumption
 ·cases h
theorem zfL{α:Type}{l:List (Option α)}{i:Nat}{v:α}(h:i<l.length):(l.set i (some v))[i]?=some (some v):=by
 rw[List.getElem?_set];simp[h]
theorem UZ{i:Nat}{t:PyData}{v:V}{a:Addr}(h:OwnS (ρ.set i (some (.val t))) (σ.set i (some v)) a):OwnS ρ σ a:=by
 obtain⟨j,c,m,h1,h2⟩:=h;rcases Jk h1 with⟨_,z⟩|⟨e,h1⟩
 ·subst z;cases m
 ·rcases Jk h2 with⟨z,_⟩|⟨_,h2⟩
  ·exact absurd z e
  ·exact⟨j,c,m,h1,h2⟩
def JV(K:qF)(hd:Option Addr)(O:Addr->Prop)(H:Hp)(a:Addr):Cell->Prop
 | .val _=>False
 | .rdo _=>False
 | .own ts=>∃vs,H a=some (.lst vs)/\Reps K hd O H vs ts
 | .dct ks=>∃kvs,H a=some (.dK kvs)/\Qx K hd O H kvs ks
 | .dtt ks=>∃zs ep,H a=some (ZDO a zs ep)/\RepsT K hd O H zs ks
theorem JV.mono{hd:Option Addr}{O O':Addr->Prop}{H H':Hp}{a:Addr}{c:Cell}(x:JV K hd O H a c)(ho:∀a o,H a=some o->O' a->O a)(hh:∀a o,¬O a->H a=some o->H' a=some o)(ha:∀o,H a=some o->H' a=some o):JV K hd O' H' a c:=by
 cases c with
 | val _=>exact x.elim
 | rdo _=>exact x.elim
 | own ts=>obtain⟨vs,h1,h2⟩:=x;exact⟨vs,ha _ h1,h2.mono ho hh⟩
 | dct ks=>obtain⟨vs,h1,h2⟩:=x;exact⟨vs,ha _ h1,h2.mono ho hh⟩
 | dtt ks=>obtain⟨vs,ep,h1,h2⟩:=x;exact⟨vs,ep,ha _ h1,h2.mono ho hh⟩
theorem JV.some{hd:Option Addr}{O:Addr->Prop}{H:Hp}{a:Addr}{c:Cell}(x:JV K hd O H a c):∃o,H a=some o:=by
 cases c with
 | val _=>exact x.elim
 | rdo _=>exact x.elim
 | own ts=>obtain⟨vs,h1,h2⟩:=x;exact⟨_,h1⟩
 | dct ks=>obtain⟨vs,h1,h2⟩:=x;exact⟨_,h1⟩
 | dtt ks=>obtain⟨vs,ep,h1,h2⟩:=x;exact⟨_,h1⟩
theorem JV.mine{hd:Option Addr}{O:Addr->Prop}{H:Hp}{a:Addr}{c:Cell}(x:JV K hd O H a c):c.mine=true:=by
 cases c with
 | val _=>exact x.elim
 | rdo _=>exact x.elim
 | own ts=>rfl
 | dct ks=>rfl
 | dtt ks=>rfl
theorem Stt.cell(S:Stt K C ρ σ H n){i:Nat}{c:Cell}(m:c.mine=true)(h:ρ[i]?=some (some c)):∃a:Addr,σ[i]?=some (some (V.ref a))/\JV K C.hd (Own C ρ σ) H a c/\¬C.ext a:=by
 cases c with
 | val _=>cases m
 | rdo _=>cases m
 | own ts=>obtain⟨a,vs,h1,h2,h3,h4⟩:=S.own i ts h;exact⟨a,h1,⟨vs,h2,h3⟩,h4⟩
 | dct ks=>obtain⟨a,vs,h1,h2,h3,h4⟩:=S.dct i ks h;exact⟨a,h1,⟨vs,h2,h3⟩,h4⟩
 | dtt ks=>obtain⟨a,vs,ep,h1,h2,h3,h4⟩:=S.dtt i ks h;exact⟨a,h1,⟨vs,ep,h2,h3⟩,h4⟩
def zjB(K:qF)(C:Ctx)(ρ:En)(σ:St)(H:Hp):Prop:=∀(i:Nat) (ks:List (Key×PyData)),ρ[i]?=some (some (Cell.rdo ks))->∃a kvs,σ[i]?=some (some (V.ref a))/\H a=some (.dK kvs)/\Qx K C.hd (Own C ρ σ) H kvs ks/\C.ext a/\C.hd≠some a
theorem Stt.mk'(len:ρ.length=σ.length)(val:∀(i:Nat) (d:PyData),ρ[i]?=some (some (Cell.val d))->∃v,σ[i]?=some (some v)/\Rep K C.hd (Own C ρ σ) H v d)
  (cell:∀(i:Nat) (c:Cell),c.mine=true->ρ[i]?=some (some c)->∃a:Addr,σ[i]?=some (some (V.ref a))/\JV K C.hd (Own C ρ σ) H a c/\¬C.ext a)
  (rdo:zjB K C ρ σ H) (dif:∀(i j:Nat) (c e:Cell) (a:Addr),c.mine=true->e.mine=true->ρ[i]?=some (some c)->ρ[j]?=some (some e)->σ[i]?=some (some (V.ref a))->σ[j]?=some (some (V.ref a))->i=j)
  (hnd:Hn C.hd H n) (ext:∀a,C.ext a->MutO (H a)) (hx:∀a,C.hd=some a->C.ext a):Stt K C ρ σ H n where
 len:=len
 val:=val
 own:=fun i ts h=>by obtain⟨a,h1,⟨vs,h2,h3⟩,h4⟩:=cell i _ rfl h;exact⟨a,vs,h1,h2,h3,h4⟩
 dct:=fun i ts h=>by obtain⟨a,h1,⟨vs,h2,h3⟩,h4⟩:=cell i _ rfl h;exact⟨a,vs,h1,h2,h3,h4⟩
 rdo:=rdo
 dtt:=fun i ts h=>by obtain⟨a,h1,⟨vs,ep,h2,h3⟩,h4⟩:=cell i _ rfl h;exact⟨a,vs,ep,h1,h2,h3,h4⟩
 dif:=dif
 hnd:=hnd
 ext:=ext
 hx:=hx
theorem Stt.put(S:Stt K C ρ σ H n){i:Nat}{t:PyData}{v:V}(r:Rep K C.hd (Own C ρ σ) H v t):Stt K C (ρ.set i (some (.val t))) (σ.set i (some v)) H n:=by
 have sub:∀a o,H a=some o->Own C (ρ.set i (some (.val t))) (σ.set i (some v)) a->Own C ρ σ a:=fun a o _ z=>z.elim .inl fun z=>.inr (UZ z)
 have mono:∀{w u},Rep K C.hd (Own C ρ σ) H w u->Rep K C.hd (Own C (ρ.set i (some (.val t))) (σ.set i (some v))) H w u:=fun q=>q.mono sub fun _ _ _ z=>z
 refine .mk' (by simp[S.len]) (fun j d h=>?_) (fun j c m h=>?_) (fun j ks h=>?_) (fun j k c e a m1 m2 h1 h2 h3 h4=>?_) S.hnd S.ext S.hx
 rotate_left 2
 ·rcases Jk h with⟨_,z⟩|⟨e,h'⟩
  ·cases z
  ·obtain⟨a,kvs,q1,q2,q3,q4⟩:=S.rdo j ks h';exact⟨a,kvs,QV e q1,q2,q3.mono sub fun _ _ _ z=>z,q4⟩
 rotate_left 1
 ·rcases Jk h with⟨e,z⟩|⟨e,h'⟩
  ·cases z;have:=zh4 h e;subst e;exact⟨v,zfL (by rw[<- S.len];exact this),mono r⟩
  ·obtain⟨w,h1,h2⟩:=S.val j d h';exact⟨w,QV e h1,mono h2⟩
 ·rcases Jk h with⟨e,z⟩|⟨e,h'⟩
  ·subst z;cases m
  ·obtain⟨a,h1,h2,h3⟩:=S.cell m h';exact⟨a,QV e h1,h2.mono sub (fun _ _ _ z=>z) fun _ z=>z,h3⟩
 ·rcases Jk h1 with⟨e,z⟩|⟨e,h1'⟩
  ·subst z;cases m1
  ·rcases Jk h2 with⟨e2,z⟩|⟨e2,h2'⟩
   ·subst z;cases m2
   ·rcases Jk h3 with⟨z,_⟩|⟨_,h3'⟩
    ·exact absurd z e
    ·rcases Jk h4 with⟨z,_⟩|⟨_,h4'⟩
     ·exact absurd z e2
     ·exact S.dif j k c _ a m1 m2 h1' h2' h3' h4'
theorem zeJ{i:Nat}{t:PyData}{v:V}:Keep C ρ σ H (ρ.set i (some (.val t))) (σ.set i (some v)) H:=fun a o h _ no=>⟨h,fun z=>no (UZ z)⟩
theorem zeC{i:Nat}{c:Cell}{p a:Addr}(h:OwnS (ρ.set i (some c)) (σ.set i (some (.ref p))) a):OwnS ρ σ a\/a=p:=by
 obtain⟨j,ds,m,h1,h2⟩:=h;rcases Jk h2 with⟨e,z⟩|⟨e,h2⟩
 ·cases z;exact .inr rfl
 ·rcases Jk h1 with⟨z,_⟩|⟨_,h1⟩
  ·exact absurd z e
  ·exact .inl ⟨j,ds,m,h1,h2⟩
theorem Stt.putNew(S:Stt K C ρ σ H n){i:Nat}{c:Cell}{p:Addr}{H':Hp}(e:ExtE C.hd H H')(h:Hn C.hd H' n1)(hp:H p=none)(r:JV K C.hd (fun a=>Own C ρ σ a\/a=p) H' p c) :
  Stt K C (ρ.set i (some c)) (σ.set i (some (.ref p))) H' n1:=by
 have S':=S.on e h;have mc:=r.mine;have sub:∀a,Own C (ρ.set i (some c)) (σ.set i (some (.ref p))) a->Own C ρ σ a\/a=p:=fun a z=>z.elim (fun z=>.inl (.inl z)) fun z=>(zeC z).elim (fun z=>.inl (.inr z)) .inr
 have npx:¬C.ext p:=fun z=>S.dom (.inl z) hp
 have sb:∀a o,H a=some o->Own C (ρ.set i (some c)) (σ.set i (some (.ref p))) a->Own C ρ σ a:=fun a o ho z=>(sub a z).elim id fun z=>by subst z;rw[hp]at ho;cases ho
 have kp:∀a o,¬Own C ρ σ a->H a=some o->H' a=some o:=fun a o no ho=>e a o ho fun z=>no (.inl (S.hx a z))
 have notp:∀(j:Nat) (d:Cell),d.mine=true->ρ[j]?=some (some d)->σ[j]?≠some (some (V.ref p)):=fun j d m h1 h2=>by
  obtain⟨a,e1,e2,_⟩:=S.cell m h1;rw[h2]at e1;cases e1;obtain⟨o,e2⟩:=e2.some;rw[hp]at e2;cases e2
 refine .mk' (by simp[S.len]) (fun j d hj=>?_) (fun j d m hj=>?_) (fun j ks hj=>?_) (fun j k c1 c2 a m1 m2 h1 h2 h3 h4=>?_) h S'.ext S.hx
 rotate_left 2
 ·rcases Jk hj with⟨_,z⟩|⟨e',h'⟩
  ·subst z;cases mc
  ·obtain⟨a,kvs,q1,q2,q3,q4,q5⟩:=S.rdo j ks h';exact⟨a,kvs,QV e' q1,e a _ q2 q5,q3.mono sb kp,q4,q5⟩
 rotate_left 1
 ·rcases Jk hj with⟨_,z⟩|⟨e',h'⟩
  ·subst z;cases mc
  ·obtain⟨w,h1,h2⟩:=S.val j d h';exact⟨w,QV e' h1,h2.mono sb kp⟩
 ·rcases Jk hj with⟨e',z⟩|⟨e',h'⟩
  ·subst z;have:=zh4 hj e';subst e';exact⟨p,zfL (by rw[<- S.len];exact this),r.mono (fun a o _ z=>sub a z) (fun _ _ _ z=>z) fun _ z=>z,npx⟩
  ·obtain⟨a,h1,h2,h4⟩:=S.cell m h';exact⟨a,QV e' h1,h2.mono sb kp (fun o ho=>e a o ho fun z=>h4 (S.hx a z)),h4⟩
 ·rcases Jk h3 with⟨e3,z3⟩|⟨e3,h3'⟩
  ·cases z3;rcases Jk h4 with⟨e4,_⟩|⟨e4,h4'⟩
   ·rw[<- e3,<- e4]
   ·rcases Jk h2 with⟨z,_⟩|⟨_,h2'⟩
    ·exact absurd z e4
    ·exact absurd h4' (notp k _ m2 h2')
  ·rcases Jk h1 with⟨z,_⟩|⟨_,h1'⟩
   ·exact absurd z e3
   ·rcases Jk h4 with⟨e4,z4⟩|⟨e4,h4'⟩
    ·cases z4;exact absurd h3' (notp j _ m1 h1')
    ·rcases Jk h2 with⟨z,_⟩|⟨_,h2'⟩
     ·exact absurd z e4
     ·exact S.dif j k _ _ a m1 m2 h1' h2' h3' h4'
theorem Stt.putOwn(S:Stt K C ρ σ H n){i:Nat}{ts:qD}{p:Addr}{vs:List V}{H':Hp}(e:ExtE C.hd H H')(h:Hn C.hd H' n1)(hp:H p=none)(hp':H' p=some (.lst vs))(r:Reps K C.hd (fun a=>Own C ρ σ a\/a=p) H' vs ts) :
  Stt K C (ρ.set i (some (.own ts))) (σ.set i (some (.ref p))) H' n1:=S.putNew e h hp ⟨vs,hp',r⟩
theorem zee{i:Nat}{c:Cell}{p:Addr}{H':Hp}(e:ExtE C.hd H H')(hp:H p=none):Keep C ρ σ H (ρ.set i (some c)) (σ.set i (some (.ref p))) H':=fun a o h nh no =>
 ⟨e a o h nh,fun z=>(zeC z).elim no fun z=>by subst z;rw[hp]at h;cases h⟩
theorem zed{i:Nat}{ts:qD}{p:Addr}{H':Hp}(e:ExtE C.hd H H')(hp:H p=none):Keep C ρ σ H (ρ.set i (some (.own ts))) (σ.set i (some (.ref p))) H':=zee e hp
theorem Stt.chgC(S:Stt K C ρ σ H n){i:Nat}{c c':Cell}{p:Addr}{o':HO}(m:c.mine=true)(m':c'.mine=true)(h1:ρ[i]?=some (some c))(h2:σ[i]?=some (some (.ref p)))
  (r:∀(O':Addr->Prop) (H':Hp),(∀a o,H a=some o->O' a->Own C ρ σ a)->(∀a o,¬Own C ρ σ a->H a=some o->H' a=some o)->H' p=some o'->JV K C.hd O' H' p c') :
  Stt K C (ρ.set i (some c')) σ (upd H p o') n/\Keep C ρ σ H (ρ.set i (some c')) σ (upd H p o'):=by
 have op:OwnS ρ σ p:=⟨i,c,m,h1,h2⟩;obtain⟨p',e1,hp,npx⟩:=S.cell m h1;rw[h2]at e1;cases e1;have own1:∀a,OwnS (ρ.set i (some c')) σ a->OwnS ρ σ a:=fun a ⟨j,d,md,q1,q2⟩=>by
  rcases Jk q1 with⟨e,_⟩|⟨e,q1⟩
  ·subst e;rw[h2]at q2;cases q2;exact op
  ·exact⟨j,d,md,q1,q2⟩
 have sub:∀a o,H a=some o->Own C (ρ.set i (some c')) σ a->Own C ρ σ a:=fun a o _ z=>z.elim .inl fun z=>.inr (own1 a z)
 have kp:∀a o,¬Own C ρ σ a->H a=some o->upd H p o' a=some o:=fun a o no ho=>by rw[Je (show a≠p from fun z=>no (by rw[z];exact .inr op))];exact ho
 have rd:zjB K C (ρ.set i (some c')) σ (upd H p o'):=fun j ks hj=>by
  rcases Jk hj with⟨_,z⟩|⟨e',h'⟩
  ·subst z;cases m'
  ·obtain⟨a,kvs,q1,q2,q3,q4,q5⟩:=S.rdo j ks h';exact⟨a,kvs,q1,by rw[Je (show a≠p from fun z=>npx (by rw[<- z];exact q4))];exact q2,q3.mono sub kp,q4,q5⟩
 refine⟨.mk' (by simp[S.len]) (fun j d hj=>?_) (fun j d md hj=>?_) rd (fun j k c1 c2 a m1 m2 q1 q2 q3 q4=>?_) (fun a ha=>?_) (fun a ha=>?_) S.hx,fun a o h nh no=>⟨by rw[Je (show a≠p from fun z=>no (by rw[z];exact op))];exact h,fun z=>no (own1 a z)⟩⟩
 ·rcases Jk hj with⟨_,z⟩|⟨e',h'⟩
  ·subst z;cases m'
  ·obtain⟨w,q1,q2⟩:=S.val j d h';exact⟨w,q1,q2.mono sub kp⟩
 ·rcases Jk hj with⟨e',z⟩|⟨e',h'⟩
  ·subst z;subst e';exact⟨p,h2,r _ _ sub kp JC,npx⟩
  ·obtain⟨a,q1,q2,q4⟩:=S.cell md h';have:a≠p:=fun z=>by subst z;exact e' (S.dif i j c d a m md h1 h' h2 q1)
   exact⟨a,q1,q2.mono sub kp (fun o ho=>by rw[Je this];exact ho),q4⟩
 ·have get:∀(j:Nat) (d:Cell),d.mine=true->(ρ.set i (some c'))[j]?=some (some d)->∃d':Cell,d'.mine=true/\ρ[j]?=some (some d'):=fun j d md q=>by
   rcases Jk q with⟨e,_⟩|⟨_,q⟩
   ·subst e;exact⟨_,m,h1⟩
   ·exact⟨_,md,q⟩
  obtain⟨d1,md1,g1⟩:=get j c1 m1 q1;obtain⟨d2,md2,g2⟩:=get k c2 m2 q2;exact S.dif j k d1 d2 a md1 md2 g1 g2 q3 q4
 ·obtain⟨d,m,t,q,rest⟩:=S.hnd a ha;exact⟨d,m,t,by rw[Je (show a≠p from fun z=>npx (by rw[<- z];exact S.hx a ha))];exact q,rest⟩
 ·by_cases z:a=p
  ·subst z;exact absurd ha npx
  ·rw[Je z];exact S.ext a ha
theorem Stt.chg(S:Stt K C ρ σ H n){i:Nat}{ts us:qD}{p:Addr}{ws:List V}(h1:ρ[i]?=some (some (.own ts)))(h2:σ[i]?=some (some (.ref p)))(r:Reps K C.hd (Own C ρ σ) H ws us) :
  Stt K C (ρ.set i (some (.own us))) σ (upd H p (.lst ws)) n/\Keep C ρ σ H (ρ.set i (some (.own us))) σ (upd H p (.lst ws)):=S.chgC rfl rfl h1 h2 fun _ _ a b hp=>⟨ws,hp,r.mono a b⟩
theorem Stt.freeze(S:Stt K C ρ σ H n){i:Nat}{ts:qD}(h1:ρ[i]?=some (some (.own ts))):Stt K C (ρ.set i (some (.val (.list ts)))) σ H n/\Keep C ρ σ H (ρ.set i (some (.val (.list ts)))) σ H:=by
 obtain⟨p,vs,h2,hp,hr,npx⟩:=S.own i ts h1;have own1:∀a,OwnS (ρ.set i (some (.val (.list ts)))) σ a->OwnS ρ σ a/\a≠p:=fun a ⟨j,ds,m,q1,q2⟩=>by
  rcases Jk q1 with⟨_,z⟩|⟨e,q1⟩
  ·subst z;cases m
  ·exact⟨⟨j,ds,m,q1,q2⟩,fun z=>by subst z;exact e (S.dif i j (.own ts) ds a rfl m h1 q1 h2 q2)⟩
 have sub:∀a o,H a=some o->Own C (ρ.set i (some (.val (.list ts)))) σ a->Own C ρ σ a:=fun a o _ z=>z.elim .inl fun z=>.inr (own1 a z).1
 have rd:zjB K C (ρ.set i (some (.val (.list ts)))) σ H:=fun j ks hj=>by
  rcases Jk hj with⟨_,z⟩|⟨e',h'⟩
  ·cases z
  ·obtain⟨a,kvs,q1,q2,q3,q4⟩:=S.rdo j ks h';exact⟨a,kvs,q1,q2,q3.mono sub fun _ _ _ z=>z,q4⟩
 refine⟨.mk' (by simp[S.len]) (fun j d hj=>?_) (fun j d m hj=>?_) rd (fun j k c1 c2 a m1 m2 q1 q2 q3 q4=>?_) S.hnd S.ext S.hx,fun a o h _ no=>⟨h,fun z=>no (own1 a z).1⟩⟩
 ·rcases Jk hj with⟨e',z⟩|⟨e',h'⟩
  ·cases z;subst e';exact⟨.ref p,h2,.lst hp (fun z=>z.elim npx fun z=>(own1 p z).2 rfl) (hr.mono sub fun _ _ _ z=>z)⟩
  ·obtain⟨w,q1,q2⟩:=S.val j d h';exact⟨w,q1,q2.mono sub fun _ _ _ z=>z⟩
 ·rcases Jk hj with⟨_,z⟩|⟨e',h'⟩
  ·subst z;cases m
  ·obtain⟨a,q1,q3,q4⟩:=S.cell m h';exact⟨a,q1,q3.mono sub (fun _ _ _ z=>z) fun _ z=>z,q4⟩
 ·rcases Jk q1 with⟨_,z⟩|⟨_,g1⟩
  ·subst z;cases m1
  ·rcases Jk q2 with⟨_,z⟩|⟨_,g2⟩
   ·subst z;cases m2
   ·exact S.dif j k _ _ a m1 m2 g1 g2 q3 q4
end
section
variable{X:Cx}{a b c e:Expr}{es rest:List Expr}{d da db dc:DTE}{ds:DTA}{dt:DTT}{t u:DTS}{st:Stmt}{sts sa sb:List Stmt}{pos p:Pos}{k:Nat}{x:Str}
def ziE:DTS:=fun D ρ n=>D.nx ρ n
def sSeq(t u:DTS):DTS:=fun D ρ n=>t { D with nx:=u D } ρ n
theorem Ue:DSs X [] ziE:=⟨_,zd6,fun C ρ σ H n D D' S h g=>g.nx ρ σ H n h S Keep.refl⟩
theorem Js(h1:DS X st t)(h2:DSs X sts u):DSs X (st::sts) (sSeq t u):=by
 obtain⟨ta,pa,h1⟩:=h1;obtain⟨tb,pb,h2⟩:=h2;refine⟨_,JT pa pb,fun C ρ σ H n D D' S h g=>?_⟩
 exact h1 C ρ σ H n _ _ S h ⟨fun ρ' σ' H' n' hn S' k=>h2 C ρ' σ' H' n' D D' S' hn (g.on k),g.rt,g.bk,g.ct⟩
theorem Jo(h1:DS X st t):DSs X [st] t:=by
 obtain⟨ta,pa,h1⟩:=h1;exact⟨_,Ug pa,h1⟩
def Ui(i:Nat)(t:DTS):DTS:=fun D ρ n=>match ρ[i]? with|some (some (.own ts))=>t D (ρ.set i (some (.val (.list ts)))) n|_=>False
theorem UR(i:Nat)(h1:DSs X sts t):DSs X sts (Ui i t):=by
 obtain⟨ta,pa,h1⟩:=h1;refine⟨_,pa,fun C ρ σ H n D D' S h g=>?_⟩
 unfold Ui at h;split at h
 ·rename_i ts et;obtain⟨S',kp⟩:=S.freeze et;exact h1 C _ σ H n D D' S' h (g.on kp)
 ·exact h.elim
def sRet(d:DTE):DTS:=fun D ρ n=>d ρ n fun t n'=>D.rt t n'
theorem JM(h:DE X e d):DS X (.Return (some e) pos) (sRet d):=by
 obtain⟨ta,pa,h⟩:=h;refine⟨_,Uv pa,fun C ρ σ H n D D' S hd g=>?_⟩
 refine h C ρ σ H n _ _ S hd fun t n' v H' r e1 h1 q=>?_
 exact g.rt t n' v H' r h1 (fun a o ha nh _=>e1 a o ha nh) (q.mono (fun _ _ _ z=>.inl z) fun _ _ _ z=>z)
def sIf(c:DTT)(t u:DTS):DTS:=fun D ρ n=>c ρ n fun b n1=>if b=true then t D ρ n1 else u D ρ n1
theorem QO(hc:DT X c dt)(h1:DSs X sa t)(h2:DSs X sb u):DS X (.If c sa sb pos) (sIf dt t u):=by
 obtain⟨tc,pc,hc⟩:=hc;obtain⟨ta,pa,h1⟩:=h1;obtain⟨tb,pb,h2⟩:=h2;refine⟨_,ziN pc pa pb,fun C ρ σ H n D D' S hd g=>?_⟩
 refine hc C ρ σ H n _ _ S hd fun b n1 H1 r e1 hn=>?_
 cases b with
 | true=>exact iteT (h1 C ρ σ H1 n1 D D' (S.on e1 hn) (by simpa using r) (g.on e1.keep))
 | false=>exact iteF (h2 C ρ σ H1 n1 D D' (S.on e1 hn) (by simpa using r) (g.on e1.keep))
def sSet(i:Nat)(d:DTE):DTS:=fun D ρ n=>d ρ n fun t n'=>D.nx (ρ.set i (some (.val t))) n'
theorem JW{i:Nat}{pos':Pos}(hN:X.N.Nodup)(hi:X.N[i]?=some x)(hx:Loc X.env.scope x)(h:DE X e d)(hs:swapsWith e (some (.Name x pos')) pos.line X.env=pure false:=by rfl)(hf:X.fn x=true\/X.env.scope.names.lookup x=some .local:=by walk_at "F") :
  DS X (.Assign [.Name x pos'] e pos) (sSet i d):=by
 obtain⟨ta,pa,h⟩:=h;refine⟨_,J7 hN hi hx pa hs hf,fun C ρ σ H n D D' S hd g=>?_⟩
 refine h C ρ σ H n _ _ S hd fun t n' v H' r e1 h1 q=>?_
 exact g.nx _ _ H' n' r ((S.on e1 h1).put q) (e1.keep.trans zeJ)
def sOwn(i:Nat)(d:DTA):DTS:=fun D ρ n=>d ρ n fun ts n'=>D.nx (ρ.set i (some (.own ts))) n'
theorem UC{i:Nat}{pos':Pos}(hN:X.N.Nodup)(hi:X.N[i]?=some x)(hx:Loc X.env.scope x)(h:DN X e ds)(hs:swapsWith e (some (.Name x pos')) pos.line X.env=pure false:=by rfl)(hf:X.fn x=true\/X.env.scope.names.lookup x=some .local:=by walk_at "F") :
  DS X (.Assign [.Name x pos'] e pos) (sOwn i ds):=by
 obtain⟨ta,pa,h⟩:=h;refine⟨_,J7 hN hi hx pa hs hf,fun C ρ σ H n D D' S hd g=>?_⟩
 refine h C ρ σ H n _ _ S hd fun ts n' p vs H' r e1 h1 hp hp' q=>?_
 exact g.nx _ _ H' n' r (S.putOwn e1 h1 hp hp' q) (zed e1 hp)
abbrev DTG:=PyData->En->(En->Prop)->Prop
abbrev DTGs:=List PyData->En->(En->Prop)->Prop
def DG(X:Cx)(tg:Expr)(is:List Nat)(d:DTG):Prop:=(∀t ρ R,d t ρ R->∃ρ',R ρ')/\∃g,PG X tg g/\∀(C:Ctx) (ρ:En) (σ:St) (H:Hp) (n:Nat) (v:V) (t:PyData) (Q:St->Hp->Prop) (R:En->Prop),Stt X.K C ρ σ H n->Rep X.K C.hd (Own C ρ σ) H v t->d t ρ R ->
 (∀ρ' σ',R ρ'->Stt X.K C ρ' σ' H n->Keep C ρ σ H ρ' σ' H->(∀j,j∉is->σ'[j]?=σ[j]?)->σ'.length=σ.length->Q σ' H)->g v σ H Q
def DGs(X:Cx)(tgs:List Expr)(is:List Nat)(d:DTGs):Prop:=(∀ts ρ R,d ts ρ R->ts.length=tgs.length)/\(∀t ρ R,d t ρ R->∃ρ',R ρ')/\∃g,PGs X tgs g/\∀(C:Ctx) (ρ:En) (σ:St) (H:Hp) (n:Nat) (vs:List V) (ts:qD) (Q:St->Hp->Prop) (R:En->Prop),Stt X.K C ρ σ H n->Reps X.K C.hd (Own C ρ σ) H vs ts->d ts ρ R ->
 (∀ρ' σ',R ρ'->Stt X.K C ρ' σ' H n->Keep C ρ σ H ρ' σ' H->(∀j,j∉is->σ'[j]?=σ[j]?)->σ'.length=σ.length->Q σ' H)->g vs σ H Q
def JP(i:Nat):DTG:=fun t ρ R=>R (ρ.set i (some (.val t)))
def QQ:DTGs:=fun ts ρ R=>match ts with|[]=>R ρ|_=>False
def Qi(d:DTG)(ds:DTGs):DTGs:=fun ts ρ R=>match ts with|t::ts=>d t ρ fun ρ'=>ds ts ρ' R|[]=>False
def QR(ds:DTGs):DTG:=fun t ρ R=>match t with|.tuple ts=>ds ts ρ R|_=>False
theorem Jq{i:Nat}(hN:X.N.Nodup)(hi:X.N[i]?=some x)(hx:Loc X.env.scope x)(hf:X.fn x=true\/X.env.scope.names.lookup x=some .local:=by walk_at "F"):DG X (.Name x pos) [i] (JP i):=by
 refine⟨fun t ρ R h=>⟨_,h⟩,_,ziT hN hi hx hf,fun C ρ σ H n v t Q R S r hd hq=>?_⟩
 exact hq _ _ hd (S.put r) zeJ (fun j hj=>by rw[List.getElem?_set_ne (fun z=>hj (by simp[z]))]) (by simp)
theorem Uc:DGs X [] [] QQ:=by
 refine⟨fun ts ρ R h=>?_,fun ts ρ R h=>?_,_,ziS,fun C ρ σ H n vs ts Q R S r hd hq=>?_⟩
 ·cases ts with
  | nil=>rfl
  | cons _ _=>exact h.elim
 ·cases ts with
  | nil=>exact⟨_,h⟩
  | cons _ _=>exact h.elim
 ·cases r with
  | nil=>exact⟨rfl,hq _ _ hd S Keep.refl (fun _ _=>rfl) rfl⟩
  | cons _ _=>exact hd.elim
theorem JS{is js:List Nat}{g:DTG}{gs:DTGs}(h1:DG X e is g)(h2:DGs X es js gs)(hs:(assignEach (e::es) X.env).map (·.2)=assign e X.env::(assignEach es X.env).map (·.2):=by rfl):DGs X (e::es) (is++js) (Qi g gs):=by
 obtain⟨w1,ga,pa,h1⟩:=h1;obtain⟨l2,w2,gb,pb,h2⟩:=h2;refine⟨fun ts ρ R h=>?_,fun ts ρ R h=>?_,_,zht pa pb hs,fun C ρ σ H n vs ts Q R S r hd hq=>?_⟩
 ·cases ts with
  | nil=>exact h.elim
  | cons t ts =>
   obtain⟨ρ',h'⟩:=w1 t ρ _ h;simp[l2 ts ρ' R h']
 ·cases ts with
  | nil=>exact h.elim
  | cons t ts =>
   obtain⟨ρ',h'⟩:=w1 t ρ _ h;exact w2 ts ρ' R h'
 ·cases r with
  | nil=>exact hd.elim
  | cons r rs =>
   refine⟨_,_,rfl,h1 C ρ σ H n _ _ _ _ S r hd fun ρ' σ' hr S' kp hj hl=>?_⟩
   refine h2 C ρ' σ' H n _ _ _ _ S' (kp.reps S.hx rs) hr fun ρ2 σ2 hr2 S2 kp2 hj2 hl2=>?_
   exact hq ρ2 σ2 hr2 S2 (kp.trans kp2) (fun j hj'=>by rw[hj2 j (fun z=>hj' (by simp[z])),hj j (fun z=>hj' (by simp[z]))]) (hl2.trans hl)
theorem Q8{is:List Nat}{gs:DTGs}{k:Nat}(hc:X.calm=true)(h:DGs X es is gs)(hn:(assignEach es X.env).length=es.length:=by rfl)(hst:(assignEach es X.env).findIdx? (·.1)=none:=by rfl):DG X (.Tuple es k pos) is (QR gs):=by
 obtain⟨l,w,g,pg,h⟩:=h;refine⟨fun t ρ R h=>?_,_,zkb hc pg hn hst,fun C ρ σ H n v t Q R S r hd hq=>?_⟩
 ·cases t with
  | tuple ts=>exact w ts ρ R h
  | _=>exact h.elim
 ·cases t with
  | tuple ts =>
   obtain⟨p,vs,rfl,h1,h2⟩:=r.tupI;exact⟨p,vs,rfl,h1,by rw[h2.length];exact l ts ρ R hd,h C ρ σ H n vs ts Q R S h2 hd hq⟩
  | _=>exact hd.elim
def sAsg(d:DTE)(g:DTG):DTS:=fun D ρ n=>d ρ n fun t n'=>g t ρ fun ρ'=>D.nx ρ' n'
theorem zir{tg:Expr}{is:List Nat}{g:DTG}(h:DE X e d)(hg:DG X tg is g)(hs:swapsWithSole [tg] e pos.line X.env=pure false:=by rfl)(hw:swappedStores [tg] e X.env=pure none:=by rfl)
  (h1:(assignEach [tg] X.env).map (·.2)=[assign tg X.env]:=by rfl):DS X (.Assign [tg] e pos) (sAsg d g):=by
 obtain⟨ta,pa,h⟩:=h;obtain⟨w,gb,pb,hg⟩:=hg;refine⟨_,UK pa pb hs hw h1,fun C ρ σ H n D D' S hd gd=>?_⟩
 refine h C ρ σ H n _ _ S hd fun t n' v H' r e1 hn q=>?_
 exact hg C ρ σ H' n' v t _ _ (S.on e1 hn) q r fun ρ' σ' hr S' kp _ _=>gd.nx ρ' σ' H' n' hr S' (e1.keep.trans kp)
def Uh(i:Nat)(d:DTE):DTS:=fun D ρ n=>match ρ[i]? with
 | some (some (.own ts))=>d ρ n fun t n'=>ts.length<16777216/\D.nx (ρ.set i (some (.own (ts++[t])))) n'
 | _=>False
theorem UT(i:Nat){p1 p2 p3:Pos}(h:DE X e d)(hN:X.N[i]?=some x:=by rfl)(hv:Vis X.env.scope x:=by walk_at "V")(hd:(x == ("__debug__":Str))=false:=by decide)
  (hcd:(x == ("__classdict__":Str))=false:=by decide) (hs:swapsWith (.Call (.Attribute (.Name x p1) "append" p2) [e] [] p3) none pos.line X.env=pure false:=by rfl)
  (hbase:attributeBase (.Name x p1) "append" X.env (eval (.Name x p1) X.env)=eval (.Name x p1) X.env:=by rfl)
  (hfew:((backTo p3 (starEach [e] X.env)).all (fun x=>!x.1)&&(backToKw p3 (keywordEach [] X.env)).all (fun x=>x.1.isSome)
   && decide ([e].length+([]:List Keyword).length+(if ([]:List Keyword).isEmpty then 0 else 1)<30))=true:=by rfl)
  (hline:(p2.endLine == p3.line)=true:=by rfl) (hst:starEach [e] X.env=[(false,eval e X.env)]:=by rfl):DS X (.Expr (.Call (.Attribute (.Name x p1) "append" p2) [e] [] p3) pos) (Uh i d):=by
 obtain⟨ta,pa,h⟩:=h;refine⟨_,ziO (zmH PySem.F.plainAttrs_list PySem.F.slot_list_append PySem.F.type_list_append zcl (Qs hN hv hd hcd) (Qc pa QU hst) hbase hfew hline hst rfl) hs,fun C ρ σ H n D D' S hd g=>?_⟩
 unfold Uh at hd;split at hd
 ·rename_i ts et;obtain⟨p,vs,h1,h2,h3,h4⟩:=S.own i ts et;refine⟨.ref p,h1,.inl ⟨rfl,_,SqL.of h2⟩,?_⟩;refine h C ρ σ H n _ _ S hd fun t n' v H' r e1 hn q=>?_
  have S1:=S.on e1 hn;obtain⟨p',vs',h1',h2',h3',h4'⟩:=S1.own i ts et;rw[h1]at h1';cases h1';refine⟨p,vs',v,rfl,rfl,h2',by rw[h3'.length];exact r.1,?_⟩
  obtain⟨S2,k2⟩:=S1.chg et h1 (h3'.append (.cons q .nil));exact g.nx _ _ _ n' r.2 S2 (e1.keep.trans k2)
 ·exact hd.elim
def sPut(i:Nat)(dj d:DTE):DTS:=fun D ρ n=>d ρ n fun t n1=>match ρ[i]? with
 | some (some (.own ts))=>dj ρ n1 fun j n2=>match j with|.int j=>(match ixN ts.length j with|some k=>D.nx (ρ.set i (some (.own (ts.set k t)))) n2|none=>False)|_=>False
 | _=>False
theorem zlC(i:Nat){dj:DTE}{p1 p2:Pos}(hj:DE X b dj)(h:DE X e d)(hN:X.N[i]?=some x:=by rfl)(hv:Vis X.env.scope x:=by walk_at "V")(hd:(x == ("__debug__":Str))=false:=by decide)
  (hcd:(x == ("__classdict__":Str))=false:=by decide) (hs:swapsWithSole [.Subscript (.Name x p1) b p2] e pos.line X.env=pure false:=by rfl) (hw:swappedStores [.Subscript (.Name x p1) b p2] e X.env=pure none:=by rfl)
  (h1:(assignEach [.Subscript (.Name x p1) b p2] X.env).map (·.2)=[assign (.Subscript (.Name x p1) b p2) X.env]:=by rfl)
  (hsub:PG X (.Subscript (.Name x p1) b p2)=PG X (.Subscript (.Name x p1) b p2):=rfl) (pg:∀{to ti:TE} {t:TSet},PE X (.Name x p1) to->PE X b ti->PSet X t->PG X (.Subscript (.Name x p1) b p2) (L2.gSub to ti t):=by intro _ _ _ h1 h2 h3;exact pg_sub h1 h2 h3) :
  DS X (.Assign [.Subscript (.Name x p1) b p2] e pos) (sPut i dj d):=by
 obtain⟨ta,pa,h⟩:=h;obtain⟨tj,pj,hj⟩:=hj;refine⟨_,UK pa (pg (Qs hN hv hd hcd) pj set_list) hs hw h1,fun C ρ σ H n D D' S hd g=>?_⟩
 refine h C ρ σ H n _ _ S hd fun t n1 v H1 r e1 hn q=>?_
 have S1:=S.on e1 hn;split at r
 ·rename_i ts et;obtain⟨p,vs,h1,h2,h3,h4⟩:=S1.own i ts et;refine⟨.ref p,h1,hj C ρ σ H1 n1 _ _ S1 r fun j n2 w H2 r2 e2 hn2 q2=>?_⟩
  have S2:=S1.on e2 hn2;cases j with
  | int j =>
   have r2:(match ixN ts.length j with|some k=>D'.nx (ρ.set i (some (.own (ts.set k t)))) n2|none=>False):=r2
   cases ek:ixN ts.length j with
   | none=>rw[ek]at r2;exact r2.elim
   | some m =>
    rw[ek]at r2;obtain⟨p',vs',h1',h2',h3',h4'⟩:=S2.own i ts et;rw[h1]at h1';cases h1';refine⟨p,vs',j,m,rfl,q2.intI,h2',by rw[h3'.length];exact ek,?_⟩
    obtain⟨S3,k3⟩:=S2.chg et h1 (h3'.set (e2.rep S.hx q) m);exact g.nx _ _ _ n2 r2 S3 ((e1.trans e2).keep.trans k3)
  | _=>exact r2.elim
 ·exact r.elim
def zfP(c:DTT)(tb:DTS):DTS:=fun D ρ n=>∃W:Nat->En->Nat->Prop,(∃m,W m ρ n)/\∀m ρ n,W m ρ n ->
 c ρ n fun b n1=>if b=true then tb { D with nx:=fun ρ' n'=>∃m',m'<m/\W m' ρ' n',ct:=fun ρ' n'=>∃m',m'<m/\W m' ρ' n',bk:=D.nx } ρ n1 else D.nx ρ n1
theorem zhP(hp:PassesOwn (model X.prog X.w) X.A X.env X.xe)(hc:DT X c dt)(hb:DSs X sa t):DS X (.While c sa [] pos) (zfP dt t):=by
 obtain⟨tc,pc,hc⟩:=hc;obtain⟨tb,pb,hb⟩:=hb;refine⟨_,zhp hp pc pb,fun C ρ σ H n D D' S hd g=>?_⟩
 obtain⟨W,⟨m0,w0⟩,turn⟩:=hd;refine⟨fun m σ1 H1=>∃ρ1 n1,W m ρ1 n1/\Stt X.K C ρ1 σ1 H1 n1/\Keep C ρ σ H ρ1 σ1 H1,⟨m0,ρ,n,w0,S,Keep.refl⟩,?_⟩
 rintro m σ1 H1 ⟨ρ1,n1,w1,S1,k1⟩;refine hc C ρ1 σ1 H1 n1 _ _ S1 (turn m ρ1 n1 w1) fun b n2 H2 r e2 hn2=>?_
 have S2:=S1.on e2 hn2;have k2:=k1.trans e2.keep;cases b with
 | true =>
  refine iteT ⟨fun σ' H'=>∃m',m'<m/\∃ρ' n',W m' ρ' n'/\Stt X.K C ρ' σ' H' n'/\Keep C ρ σ H ρ' σ' H',fun σ' H' ⟨m',hm,z⟩=>⟨m',hm,z⟩,?_⟩
  refine hb C ρ1 σ1 H2 n2 _ { D' with nx:=fun ρ' n'=>∃m',m'<m/\W m' ρ' n',ct:=fun ρ' n'=>∃m',m'<m/\W m' ρ' n',bk:=D'.nx } S2 (by simpa using r) ⟨?_,fun t n' v H' h hn k' r=>g.rt t n' v H' h hn (fun a o ha nh no=>?_) r,?_,?_⟩
  ·rintro ρ' σ' H' n' ⟨m',hm,w'⟩ S' k';exact⟨m',hm,ρ',n',w',S',k2.trans k'⟩
  ·obtain⟨q1,q2⟩:=k2 a o ha nh no;exact k' a o q1 nh q2
  ·intro ρ' σ' H' n' h' S' k';exact g.nx ρ' σ' H' n' h' S' (k2.trans k')
  ·rintro ρ' σ' H' n' ⟨m',hm,w'⟩ S' k';exact⟨m',hm,ρ',n',w',S',k2.trans k'⟩
 | false=>exact iteF (g.nx ρ1 σ1 H2 n2 (by simpa using r) S2 k2)
end
def ItOk(K:qF)(hd:Option Addr)(P O:Addr->Prop)(H:Hp)(J:It)(ts:qD):Prop:=∀(O2:Addr->Prop) (H2:Hp),(∀a o,H a=some o->P a->H2 a=some o)->(∀a o,H a=some o->¬O a->¬O2 a)->(∀a,O2 a->H2 a≠none) ->
 (∀i t,ts[i]?=some t->J.go i H2/\∀x H3,J.yld i H2 x H3->Same H2 H3/\Rep K hd O2 H3 x t)/\J.stop ts.length H2
def DI(X:Cx)(tg iter:Expr)(d:DTA):Prop:=∃wi,PI X tg iter wi/\∀(C:Ctx) (ρ:En) (σ:St) (H:Hp) (n:Nat) (Q:It->Hp->Prop) (R:List PyData->Nat->Prop),Stt X.K C ρ σ H n->d ρ n R ->
 (∀ts n' J H',R ts n'->ExtE C.hd H H'->Hn C.hd H' n'->ItOk X.K C.hd (fun a=>¬Own C ρ σ a) (Own C ρ σ) H' J ts->Q J H')->wi σ H Q
def DIL(X:Cx)(tg iter:Expr)(d:DTA):Prop:=∃wi,PI X tg iter wi/\∀(C:Ctx) (ρ:En) (σ:St) (H:Hp) (n:Nat) (Q:It->Hp->Prop) (R:List PyData->Nat->Prop),Stt X.K C ρ σ H n->d ρ n R ->
 (∀ts n' J H',R ts n'->ExtE C.hd H H'->Hn C.hd H' n'->ItOk X.K C.hd (fun a=>C.hd≠some a) (Own C ρ σ) H' J ts->Q J H')->wi σ H Q
section
variable{X:Cx}{a b c e tg iter:Expr}{es rest:List Expr}{d da db dc:DTE}{ds di:DTA}{dt:DTT}{t u:DTS}{st:Stmt}{sts sa sb:List Stmt}{pos p:Pos}{k:Nat}{x:Str}
theorem dil(h:DI X tg iter di):DIL X tg iter di:=by
 obtain⟨wi,pi,h⟩:=h;refine⟨wi,pi,fun C ρ σ H n Q R S hd hq=>h C ρ σ H n Q R S hd fun ts n' J H' r e1 hn it=>hq ts n' J H' r e1 hn ?_⟩
 exact fun O2 H2 h1 h2 h3=>it O2 H2 (fun a o ha no=>h1 a o ha fun z=>no (.inl (S.hx a z))) h2 h3
theorem Reps.getP{K:qF}{hd:Option Addr}{O:Addr->Prop}{H:Hp}{vs ts}{i:Nat}{t}{x:V}(r:Reps K hd O H vs ts)(h:ts[i]?=some t)(hx:vs[i]?=some x):Rep K hd O H x t:=by
 obtain⟨v,h1,h2⟩:=r.get h;rw[hx]at h1;cases h1;exact h2
theorem zgw{K:qF}{hd:Option Addr}{P O:Addr->Prop}{H:Hp}{q:Addr}{vs ts}(hq:H q=some (.lst vs))(hP:P q)(hO:∀a,¬O a->P a)(r:Reps K hd O H vs ts):ItOk K hd P O H (Itl K q) ts:=by
 intro O2 H2 h1 h2 _;have hq2:=h1 q _ hq hP;have r2:Reps K hd O2 H2 vs ts:=r.mono (fun a o ha z=>Classical.byContradiction fun no=>h2 a o ha no z) fun a o no ha=>h1 a o ha (hO a no)
 refine⟨fun i t et=>?_,⟨vs,.of hq2,by rw[r.length];exact Nat.le_refl _⟩⟩
 obtain⟨v,ev,rv⟩:=r2.get et;refine⟨⟨vs,v,.of hq2,ev⟩,fun x H3 hy=>?_⟩
 obtain⟨rfl,hy⟩:=hy;exact⟨Same.refl _,r2.getP et (hy vs (.of hq2))⟩
theorem zig{K:qF}{hd:Option Addr}{P O:Addr->Prop}{H:Hp}{v:V}{ts}(hO:∀a,¬O a->P a)(r:Rep K hd O H v (.tuple ts)):∃q vs,v=.ref q/\SqT K H q vs/\ItOk K hd P O H (Itt K q) ts:=by
 have key:∀q vs,Reps K hd O H vs ts->(∀(O2:Addr->Prop) (H2:Hp),(∀a o,H a=some o->P a->H2 a=some o)->(∀a o,H a=some o->¬O a->¬O2 a)->SqT K H2 q vs)->ItOk K hd P O H (Itt K q) ts:=by
  intro q vs r hs O2 H2 h1 h2 _;have hq2:=hs O2 H2 h1 h2;have r2:Reps K hd O2 H2 vs ts:=r.mono (fun a o ha z=>Classical.byContradiction fun no=>h2 a o ha no z) fun a o no ha=>h1 a o ha (hO a no)
  refine⟨fun i t et=>?_,⟨vs,hq2,by rw[r.length];exact Nat.le_refl _⟩⟩
  obtain⟨v,ev,rv⟩:=r2.get et;refine⟨⟨vs,v,hq2,ev⟩,fun x H3 hy=>?_⟩
  obtain⟨rfl,hy⟩:=hy;exact⟨Same.refl _,r2.getP et (hy vs hq2)⟩
 cases r with
 | @tup q vs ds h o r=>exact⟨q,vs,rfl,.inl (.inl h),key q vs r fun O2 H2 h1 _=>.inl (.inl (h1 q _ h (hO q o)))⟩
 | @tupS q vs ds h r=>exact⟨q,vs,rfl,h.sq,key q vs r fun O2 H2 _ _=>h.sq⟩
def dItL(d:DTE):DTA:=fun ρ n R=>d ρ n fun t n'=>match t with|.list ts=>R ts n'|_=>False
def dItT(d:DTE):DTA:=fun ρ n R=>d ρ n fun t n'=>match t with|.tuple ts=>R ts n'|_=>False
theorem zeg(h:DE X iter d):DI X tg iter (dItL d):=by
 obtain⟨ta,pa,h⟩:=h;refine⟨_,ziQ pa,fun C ρ σ H n Q R S hd hq=>?_⟩
 refine h C ρ σ H n _ _ S hd fun t n' v H' r e1 hn q=>?_
 cases t with
 | list ts =>
  obtain⟨p,vs,rfl,h1,no,h2⟩:=q.lstI;exact⟨p,rfl,⟨vs,.of h1⟩,hq ts n' _ H' r e1 hn (zgw h1 no (fun _ z=>z) h2)⟩
 | _=>exact r.elim
theorem zis(h:DE X iter d):DI X tg iter (dItT d):=by
 obtain⟨ta,pa,h⟩:=h;refine⟨_,zj_ pa,fun C ρ σ H n Q R S hd hq=>?_⟩
 refine h C ρ σ H n _ _ S hd fun t n' v H' r e1 hn q=>?_
 cases t with
 | tuple ts =>
  obtain⟨p,vs,rfl,h1,it⟩:=zig (P:=fun a=>¬Own C ρ σ a) (fun _ z=>z) q
  exact⟨p,rfl,⟨vs,h1⟩,hq ts n' _ H' r e1 hn it⟩
 | _=>exact r.elim
def JE(lo:Int)(n:Nat):List PyData:=(List.range n).map fun(i:Nat)=>PyData.int (lo+(i:Int))
theorem zeM{K:qF}{hd:Option Addr}{P O:Addr->Prop}{H:Hp}{lo:Int}{m:Nat}:ItOk K hd P O H (Itr lo m) (JE lo m):=by
 intro O2 H2 _ _ _;refine⟨fun i t et=>?_,by show m<=(JE lo m).length;simp[JE]⟩
 unfold JE at et;rw[List.getElem?_map]at et
 by_cases hi:i<m
 ·rw[List.getElem?_range hi]at et;cases et;refine⟨hi,fun x H3 hy=>?_⟩
  obtain⟨rfl,rfl⟩:=hy;exact⟨Same.refl _,.int _⟩
 ·rw[List.getElem?_eq_none (by simp;omega)]at et
  cases et
def Q3(d:DTE):DTA:=fun ρ n R=>d ρ n fun t n'=>match t with|.int j=>(-(2 ^ 62)<=j/\j<2 ^ 62)/\R (JE 0 j.toNat) n'|_=>False
def Q4(d1 d2:DTE):DTA:=fun ρ n R=>d1 ρ n fun t n1=>d2 ρ n1 fun u n2=>match t,u with|.int i,.int j=>(-(2 ^ 62)<=i/\i<2 ^ 62/\-(2 ^ 62)<=j/\j<2 ^ 62)/\R (JE i (j - i).toNat) n2|_,_=>False
theorem QW(hm:X.mg "range" = none) (h:DE X a d) (hg:Gl X "range":=by rfl) (hs:starEach [a] X.env=[(false,eval a X.env)]:=by rfl):DI X tg (.Call (.Name "range" p) [a] [] pos) (Q3 d):=by
 obtain⟨ta,pa,h⟩:=h;refine⟨_,zfX hg hm (Qc pa QU hs) hs,fun C ρ σ H n Q R S hd hq=>?_⟩
 refine h C ρ σ H n _ _ S hd fun t n' v H' r e1 hn q=>?_
 cases t with
 | int j =>
  rw[q.intI];exact⟨j,rfl,r.1.1,r.1.2,hq _ n' _ H' r.2 e1 hn zeM⟩
 | _=>exact r.elim
theorem zdH(hm:X.mg "range" = none) (h:DE X a da) (h':DE X b db) (hg:Gl X "range":=by rfl) (hs:starEach [a,b] X.env=[(false,eval a X.env),(false,eval b X.env)]:=by rfl) (hs2:starEach [b] X.env=[(false,eval b X.env)]:=by rfl):DI X tg (.Call (.Name "range" p) [a,b] [] pos) (Q4 da db):=by
 obtain⟨ta,pa,h⟩:=h;obtain⟨tb,pb,h'⟩:=h';refine⟨_,zfW hg hm (Qc pa (Qc pb QU hs2) (by rw[hs,hs2])) hs hs2,fun C ρ σ H n Q R S hd hq=>?_⟩
 refine h C ρ σ H n _ _ S hd fun t n' v H' r e1 hn q=>?_
 refine h' C ρ σ H' n' _ _ (S.on e1 hn) r fun u n2 w H2 r2 e2 hn2 q2=>?_
 cases t with
 | int i =>
  cases u with
  | int j =>
   rw[q.intI,q2.intI];exact⟨i,j,rfl,r2.1,hq _ n2 _ H2 r2.2 (e1.trans e2) hn2 zeM⟩
  | _=>exact r2.elim
 | _=>exact r2.elim
def forP(g:DTG)(tb:DTS)(D:DEnds):List PyData->En->Nat->Prop
 | [],ρ,n=>D.nx ρ n
 | t::ts,ρ,n=>g t ρ fun ρ'=>tb { D with nx:=forP g tb D ts,ct:=forP g tb D ts,bk:=D.nx } ρ' n
def sFor(di:DTA)(g:DTG)(tb:DTS):DTS:=fun D ρ n=>di ρ n fun ts n1=>forP g tb D ts ρ n1
theorem Qf{is:List Nat}{g:DTG}(hp:PassesOwn (model X.prog X.w) X.A X.env X.xe)(hc:X.calm=true)(hi:DI X tg iter di)(hg:DG X tg is g)(hb:DSs X sa t)
  (hs:∀x,foldedSetIterable iter X.env x=pure x:=by intro _;rfl):DS X (.For tg iter sa [] pos) (sFor di g t):=by
 obtain⟨wi,pi,hi⟩:=hi;obtain⟨_,gg,pg,hg⟩:=hg;obtain⟨tb,pb,hb⟩:=hb;refine⟨_,zj9 hp hc pi pg pb hs,fun C ρ σ H n D D' S hd gd=>?_⟩
 refine hi C ρ σ H n _ _ S hd fun ts n1 J H1 r e1 hn it=>?_
 have S1:=S.on e1 hn;refine⟨fun i m σ2 H2=>m=ts.length - i/\i<=ts.length/\∃ρ2 n2,forP g t D' (ts.drop i) ρ2 n2/\Stt X.K C ρ2 σ2 H2 n2/\Keep C ρ σ H1 ρ2 σ2 H2,⟨ts.length,by simp,Nat.zero_le _,ρ,n1,by simpa using r,S1,Keep.refl⟩,?_⟩
 rintro i m σ2 H2 ⟨rfl,hi',ρ2,n2,f2,S2,k2⟩;have itq:=it (Own C ρ2 σ2) H2 (fun a o ha no=>(k2 a o ha (fun z=>no (.inl (S.hx a z))) fun z=>no (.inr z)).1) (fun a o ha no z=>z.elim (fun z=>no (.inl z)) fun z=>(k2 a o ha (fun y=>no (.inl (S.hx a y))) fun y=>no (.inr y)).2 z) (fun a=>S2.dom)
 by_cases hlt:i<ts.length
 ·have et:ts[i]?=some ts[i]:=List.getElem?_eq_getElem hlt;obtain⟨go,yl⟩:=itq.1 i _ et;rw[List.drop_eq_getElem_cons hlt]at f2;refine .inr ⟨go,fun σ' H'=>∃ρ' n',forP g t D' (ts.drop (i+1)) ρ' n'/\Stt X.K C ρ' σ' H' n'/\Keep C ρ σ H1 ρ' σ' H',fun σ' H' z=>⟨ts.length - (i+1),by omega,rfl,hlt,z⟩,fun x H3 hy=>?_⟩
  obtain⟨sm,rx⟩:=yl x H3 hy;have S3:=S2.on sm.ext (S2.hnd.same sm);have k3:Keep C ρ σ H1 ρ2 σ2 H3:=k2.trans (Same.ext sm:ExtE C.hd H2 H3).keep;refine hg C ρ2 σ2 H3 n2 x _ _ _ S3 rx f2 fun ρ4 σ4 r4 S4 k4 _ _=>?_
  have k5:=k3.trans k4;refine hb C ρ4 σ4 H3 n2 _ { D' with nx:=forP g t D' (ts.drop (i+1)),ct:=forP g t D' (ts.drop (i+1)),bk:=D'.nx } S4 r4 ⟨fun ρ' σ' H' n' h' S' k'=>⟨ρ',n',h',S',k5.trans k'⟩,fun t n' v H' h hn' k' rp=>gd.rt t n' v H' h hn' (fun a o ha nh no=>?_) rp,fun ρ' σ' H' n' h' S' k'=>gd.nx ρ' σ' H' n' h' S' (e1.keep.trans (k5.trans k')),fun ρ' σ' H' n' h' S' k'=>⟨ρ',n',h',S',k5.trans k'⟩⟩
  obtain⟨q1,q2⟩:=(e1.keep.trans k5) a o ha nh no;exact k' a o q1 nh q2
 ·have e:i=ts.length:=by omega
  subst e;rw[List.drop_length]at f2;exact .inl ⟨itq.2,gd.nx ρ2 σ2 H2 n2 f2 S2 (e1.keep.trans k2)⟩
def JO(N:List Str)(ts:qD):En:=ts.map (fun t=>some (.val t))++List.replicate (N.length - ts.length) none
theorem zfG{K:qF}{hd:Option Addr}{O:Addr->Prop}{H:Hp}{n:Nat}{N:List Str}{vs:List V}{ts:qD}(r:Reps K hd O H vs ts)(hn:Hn hd H n)(dom:∀a,O a->MutO (H a))(hx:∀a,hd=some a->O a) :
  Stt K ⟨hd,O⟩ (JO N ts) (start N vs) H n/\∀a,¬OwnS (JO N ts) (start N vs) a:=by
 have get:∀(i:Nat) c,(JO N ts)[i]?=some (some c)->∃t,c=.val t/\ts[i]?=some t:=fun i c h=>by
  unfold JO at h
  by_cases hi:i<ts.length
  ·rw[List.getElem?_append_left (by simpa using hi),List.getElem?_map]at h
   cases e:ts[i]? with
   | none=>rw[e]at h;cases h
   | some t=>rw[e]at h;cases h;exact⟨t,rfl,rfl⟩
  ·rw[List.getElem?_append_right (by simpa using hi),List.getElem?_replicate]at h
   split at h <;> cases h
 have no:∀a,¬OwnS (JO N ts) (start N vs) a:=fun a ⟨i,ds,m,h1,_⟩=>by
  obtain⟨t,e,_⟩:=get i _ h1;subst e;cases m
 refine⟨.mk' (by unfold JO start;simp[r.length]) (fun i d h=>?_) (fun i ds m h=>?_) (fun i ks h=>by obtain⟨t,e,_⟩:=get i _ h;cases e) (fun i j ds es a m _ h=>?_) hn dom hx,no⟩
 ·obtain⟨t,e,et⟩:=get i _ h;cases e;obtain⟨v,ev,rv⟩:=r.get et;refine⟨v,?_,rv.mono (fun a o _ z=>z.elim id fun z=>absurd z (no a)) fun _ _ _ z=>z⟩
  unfold start;have hi:i<vs.length:=by
   rcases Nat.lt_or_ge i vs.length with z|z
   ·exact z
   ·rw[List.getElem?_eq_none z]at ev;cases ev
  rw[List.getElem?_append_left (by simpa using hi),List.getElem?_map,ev];rfl
 ·obtain⟨t,e,_⟩:=get i _ h;subst e;cases m
 ·obtain⟨t,e,_⟩:=get i _ h;subst e;cases m
end
end L2
namespace Bd
open PySem L2 PyProof.Rows
theorem Def.okD{P:Program}{w:World}{K:qF}{mg:qM}{base:Heap}{x:Str}{st:Stmt}{ps N:List Str}{f:Addr}{fd:FuncData}{k m:Nat}{g:GD}(D:Def K mg x st ps f fd)(S:FnScope N ps (Jh st))(hm:m=ps.length)
  (hb:∀(cdv:Value) (A:Around) (outer:List Env) (s:Shared) (H:Hp) (E:XK),Room k (A.deeper (envOfC x (Jh st) s.heap.objs.size f cdv))->∃d,DSs (cxOf CX0 P w K mg base N x (Jh st) f cdv A outer s H E).nox (JK st) d /\
   ∀ts n R,ts.length=m->g ts n R->d { nx:=fun _ n'=>R .none n',rt:=R } (JO N ts) n):FnOk P w K mg base CX0 (k+1) f fd ps (spD K m g):=by
 refine D.F.ok S (fun vs H Q E h=>?_) (fun cdv A outer s H vs Q E hr h=>?_)
 ·obtain⟨hd,O,ts,n,R,r,_,_,_,hl,_⟩:=h;rw[r.length,hl,hm]
 ·obtain⟨hd,O,ts,n,R,r,hn,dom,hx,hl,hg,hq⟩:=h;obtain⟨d,⟨t,pt,ht⟩,hd'⟩:=hb cdv A outer s H E hr;obtain⟨S0,no⟩:=zfG (N:=N) r hn dom hx;refine⟨t,pt,ht ⟨hd,O⟩ _ _ H n _ _ S0 (hd' ts n R hl hg) ⟨fun ρ' σ' H' n' h S' k'=>?_,fun t n' v H' h hn' k' rp=>?_,fun _ _ _ _ h=>h.elim,fun _ _ _ _ h=>h.elim⟩⟩
  ·exact hq .none n' .non H' h (fun a o ha nh=>(k' a o ha nh (no a)).1) S'.hnd .non
  ·exact hq t n' v H' h (fun a o ha nh=>k' a o ha nh (no a)) hn' rp
end Bd
namespace L2
open PySem PySem.Spec PyProof.Rows
def DTs(Y:Cx)(ifs:List Expr)(d:DTT):Prop:=∃te,PTs Y ifs te/\∀(C:Ctx) (ρ:En) (σ:St) (H:Hp) (n:Nat) (Q:Bool->Hp->Prop) (R:Bool->Nat->Prop),Stt Y.K C ρ σ H n->d ρ n R ->
 (∀b n' H',R b n'->ExtE C.hd H H'->Hn C.hd H' n'->Q b H')->te σ H Q
def dYes:DTT:=fun _ n R=>R true n
section
variable{Y:Cx}{c:Expr}{d:DTT}
theorem Uf:DTs Y [] dYes:=⟨_,ziM,fun C ρ σ H n Q R S h hq=>hq true n H h ExtE.refl S.hnd⟩
theorem zgI(h:DT Y c d):DTs Y [c] d:=by
 obtain⟨te,p,h⟩:=h;exact⟨_,ziL p,h⟩
end
theorem DE.uni{ι:Type}{Xf:ι->Cx}{K:qF}(hK:∀i,(Xf i).K=K){e:Expr}{d:DTE}(h:∀i,DE (Xf i) e d):∃te:TE,(∀i,PE (Xf i) e te)/\∀(C:Ctx) (ρ:En) (σ:St) (H:Hp) (n:Nat) (Q:VK) (R:qN),Stt K C ρ σ H n->d ρ n R ->
  (∀t n' v H',R t n'->ExtE C.hd H H'->Hn C.hd H' n'->Rep K C.hd (Own C ρ σ) H' v t->Q v H')->te σ H Q:=by
 refine⟨fun σ H Q=>∀i,(Classical.choose (h i)) σ H Q,fun i pins s σ H Q I hw=>(Classical.choose_spec (h i)).1 pins s σ H Q I (hw i),fun C ρ σ H n Q R S hd hq i=>?_⟩
 have:=(Classical.choose_spec (h i)).2 C ρ σ H n Q R;exact this (by rw[hK i];exact S) hd fun t n' v H' r e h q=>hq t n' v H' r e h (by rw[<- hK i];exact q)
theorem DTs.uni{ι:Type}{Xf:ι->Cx}{K:qF}(hK:∀i,(Xf i).K=K){e:List Expr}{d:DTT}(h:∀i,DTs (Xf i) e d):∃te:TT,(∀i,PTs (Xf i) e te)/\∀(C:Ctx) (ρ:En) (σ:St) (H:Hp) (n:Nat) (Q:Bool->Hp->Prop) (R:Bool->Nat->Prop),Stt K C ρ σ H n->d ρ n R ->
  (∀b n' H',R b n'->ExtE C.hd H H'->Hn C.hd H' n'->Q b H')->te σ H Q:=by
 refine⟨fun σ H Q=>∀i,(Classical.choose (h i)) σ H Q,fun i pins s σ H Q I hw=>(Classical.choose_spec (h i)).1 pins s σ H Q I (hw i),fun C ρ σ H n Q R S hd hq i=>?_⟩
 have:=(Classical.choose_spec (h i)).2 C ρ σ H n Q R;exact this (by rw[hK i];exact S) hd hq
theorem DG.uni{ι:Type}[Nonempty ι]{Xf:ι->Cx}{K:qF}(hK:∀i,(Xf i).K=K){e:Expr}{is:List Nat}{d:DTG}(h:∀i,DG (Xf i) e is d):∃te:TG,(∀i,PG (Xf i) e te)/\∀(C:Ctx) (ρ:En) (σ:St) (H:Hp) (n:Nat) (v:V) (t:PyData) (Q:St->Hp->Prop) (R:En->Prop),Stt K C ρ σ H n->Rep K C.hd (Own C ρ σ) H v t->d t ρ R ->
  (∀ρ' σ',R ρ'->Stt K C ρ' σ' H n->Keep C ρ σ H ρ' σ' H->(∀j,j∉is->σ'[j]?=σ[j]?)->σ'.length=σ.length->Q σ' H)->te v σ H Q:=by
 refine⟨fun v σ H Q=>∀i,(Classical.choose (h i).2) v σ H Q,fun i pins s σ H v u Q I r hw=>(Classical.choose_spec (h i).2).1 pins s σ H v u Q I r (hw i),fun C ρ σ H n v t Q R S r hd hq i=>?_⟩
 have:=(Classical.choose_spec (h i).2).2 C ρ σ H n v t Q R;exact this (by rw[hK i];exact S) (by rw[hK i];exact r) hd fun ρ' σ' hr S'=>hq ρ' σ' hr (by rw[<- hK i];exact S')
theorem Wk.of:∀{σ σ':St},σ.length=σ'.length->(∀(i:Nat) v,σ[i]?=some (some v)->σ'[i]?=some (some v))->Wk σ σ'
 | [],[],_,_=>trivial
 | [],_::_,h,_=>by simp at h
 | _::_,[],h,_=>by simp at h
 | none::r,o::r',h,k=>Wk.of (σ:=r) (σ':=r') (by simpa using h) fun i v e=>by simpa using k (i+1) v (by simpa using e)
 | some w::r,o::r',h,k=>⟨by simpa using k 0 w rfl,Wk.of (by simpa using h) fun i v e=>by simpa using k (i+1) v (by simpa using e)⟩
def capV:Option Cell->Option Cell
 | some (.val d)=>some (.val d)
 | some (.dct ks)=>some (.rdo ks)
 | some (.rdo ks)=>some (.rdo ks)
 | _=>none
def Ju(m:Nat)(capt:List Nat)(ρ:En):En:=List.replicate m none++capt.map fun i=>capV (ρ.getD i none)
def Jw(g:DTG)(tt:DTT)(te:DTE)(ρ0:En):List PyData->List PyData->Nat->(List PyData->Nat->Prop)->Prop
 | [],acc,n,R=>R acc n
 | x::xs,acc,n,R=>g x ρ0 fun ρ1=>tt ρ1 n fun b n2=>if b=true then te ρ1 n2 fun t n3=>acc.length<16777216/\Jw g tt te ρ0 xs (acc++[t]) n3 R else Jw g tt te ρ0 xs acc n2 R
def dComp(m:Nat)(capt:List Nat)(di:DTA)(g:DTG)(tt:DTT)(te:DTE):DTA:=fun ρ n R=>di ρ n fun ts n1=>Jw g tt te (Ju m capt ρ) ts [] n1 R
section
variable{X:Cx}{scope:Scope}{own:List Str}{capt:List Nat}{elt tg iter:Expr}{ifs:List Expr}{pos:Pos}{di:DTA}{is:List Nat}{g:DTG}{tt:DTT}{te:DTE}
theorem zdc{ρ:En}{i:Nat}{c:Cell}(h:capV (ρ.getD i none)=some c):(∃d,c=.val d/\ρ[i]?=some (some (.val d)))\/∃ks,c=.rdo ks/\(ρ[i]?=some (some (.dct ks))\/ρ[i]?=some (some (.rdo ks))):=by
 rw[List.getD_eq_getElem?_getD]at h;cases e:ρ[i]? with
 | none=>rw[e]at h;cases h
 | some o =>
  rw[e]at h;cases o with
  | none=>cases h
  | some c' =>
   cases c' with
   | val d'=>simp[capV]at h;exact .inl ⟨d',h.symm,rfl⟩
   | own _=>simp[capV]at h
   | dct ks=>simp[capV]at h;exact .inr ⟨ks,h.symm,.inl rfl⟩
   | dtt ks=>simp[capV]at h
   | rdo ks=>simp[capV]at h;exact .inr ⟨ks,h.symm,.inr rfl⟩
theorem zeZ{K:qF}{C:Ctx}{ρ:En}{σ:St}{H H2:Hp}{n n2:Nat}{D:Addr}{ys:List V}(S:Stt K C ρ σ H n)(e:ExtE C.hd H H2)(hn:Hn C.hd H2 n2)(hD:H D=none)(hy:H2 D=some (.lst ys)) :
  Stt K ⟨C.hd,fun a=>Own C ρ σ a\/a=D⟩ (Ju own.length capt ρ) (Jn own++capS capt σ) H2 n2/\∀a,¬OwnS (Ju own.length capt ρ) (Jn own++capS capt σ) a:=by
 have get:∀(i:Nat) c,(Ju own.length capt ρ)[i]?=some (some c)->∃j,capV (ρ.getD j none)=some c/\own.length<=i/\capt[i - own.length]?=some j:=fun i c h=>by
  unfold Ju at h
  by_cases hi:i<own.length
  ·rw[List.getElem?_append_left (by simpa using hi),List.getElem?_replicate]at h
   split at h <;> cases h
  ·rw[List.getElem?_append_right (by simpa using hi),List.length_replicate,List.getElem?_map]at h
   cases ej:capt[i - own.length]? with
   | none=>rw[ej]at h;cases h
   | some j =>
    rw[ej]at h;exact⟨j,by simpa using h,by omega,rfl⟩
 have slot:∀(i j:Nat) (v:V),own.length<=i->capt[i - own.length]?=some j->σ[j]?=some (some v)->(Jn own++capS capt σ)[i]?=some (some v):=fun i j v hi e3 h1=>by
  rw[List.getElem?_append_right (by simpa using hi)]
  simp only[List.length_map,List.getElem?_map,e3,Option.map_some];rw[List.getD_eq_getElem?_getD,h1];rfl
 have nm:∀(i:Nat) (c:Cell),c.mine=true->(Ju own.length capt ρ)[i]?=some (some c)->False:=fun i c m h=>by
  obtain⟨j,e1,_⟩:=get i c h;rcases zdc e1 with⟨d,rfl,_⟩|⟨ks,rfl,_⟩ <;> cases m
 have no:∀a,¬OwnS (Ju own.length capt ρ) (Jn own++capS capt σ) a:=fun a ⟨i,c,m,h1,_⟩=>nm i c m h1
 have S2:=S.on e hn;have sub:∀a o,H a=some o->Own ⟨C.hd,fun a=>Own C ρ σ a\/a=D⟩ (Ju own.length capt ρ) (Jn own++capS capt σ) a->Own C ρ σ a:=fun a o ha z=>by
  rcases z with z|z
  ·rcases z with z|z
   ·exact z
   ·subst z;rw[hD]at ha;cases ha
  ·exact absurd z (no a)
 have kp:∀a o,¬Own C ρ σ a->H a=some o->H2 a=some o:=fun a o nO ha=>e a o ha fun z=>nO (.inl (S.hx a z))
 refine⟨.mk' (by unfold Ju;simp) (fun i d h=>?_) (fun i ds m h=>(nm i _ m h).elim) (fun i ks h=>?_) (fun i j ds es a m _ h=>(nm i _ m h).elim) hn (fun a ha=>?_) (fun a ha=>.inl (.inl (S.hx a ha))),no⟩
 ·obtain⟨j,e1,hi,e3⟩:=get i _ h;rcases zdc e1 with⟨d',z,e2⟩|⟨ks,z,_⟩
  ·cases z;obtain⟨v,h1,h2⟩:=S.val j d e2;exact⟨v,slot i j v hi e3 h1,h2.mono sub kp⟩
  ·cases z
 ·obtain⟨j,e1,hi,e3⟩:=get i _ h;rcases zdc e1 with⟨d',z,e2⟩|⟨ks',z,e2⟩
  ·cases z
  ·cases z;rcases e2 with e2|e2
   ·obtain⟨a,kvs,h1,h2,h3,h4⟩:=S.dct j ks e2;have nh:C.hd≠some a:=fun z=>h4 (S.hx a z)
    exact⟨a,kvs,slot i j _ hi e3 h1,e a _ h2 nh,h3.mono sub kp,.inl (.inr ⟨j,.dct ks,rfl,e2,h1⟩),nh⟩
   ·obtain⟨a,kvs,h1,h2,h3,h4,nh⟩:=S.rdo j ks e2;exact⟨a,kvs,slot i j _ hi e3 h1,e a _ h2 nh,h3.mono sub kp,.inl (.inl h4),nh⟩
 ·rcases ha with ha|rfl
  ·exact S2.lst ha
  ·exact .inl ⟨_,hy⟩
def zns(K:qF)(te:TE)(d:DTA):Prop:=∀(C:Ctx) (ρ:En) (σ:St) (H:Hp) (n:Nat) (Q:VK) (R:List PyData->Nat->Prop),Stt K C ρ σ H n->d ρ n R ->
 (∀ts n' p vs H',R ts n'->ExtE C.hd H H'->Hn C.hd H' n'->H p=none->H' p=some (.lst vs)->Reps K C.hd (fun a=>Own C ρ σ a\/a=p) H' vs ts->Q (.ref p) H')->te σ H Q
theorem zgZ(hi:DIL X tg iter di)
  (hg:∀C s₀ H₀ fp,DG (Jb X scope own capt C s₀ H₀ fp) tg is g) (hin:∀i∈is,i<own.length) (ht:∀C s₀ H₀ fp,DTs (Jb X scope own capt C s₀ H₀ fp) ifs tt) (he:∀C s₀ H₀ fp,DE (Jb X scope own capt C s₀ H₀ fp) elt te) :
  ∃(wi:TI) (gg:TG) (gt:TT) (ge:TE),PI X tg iter wi/\(∀C s₀ H₀ fp,PG (Jb X scope own capt C s₀ H₀ fp) tg gg)/\(∀C s₀ H₀ fp,PTs (Jb X scope own capt C s₀ H₀ fp) ifs gt)/\(∀C s₀ H₀ fp,PE (Jb X scope own capt C s₀ H₀ fp) elt ge)/\zns X.K (tComp own capt wi gg gt ge) (dComp own.length capt di g tt te):=by
 obtain⟨wi,pi,hi⟩:=hi
 let Xf:(Addr×Shared×Hp×List Addr)->Cx:=fun q=>Jb X scope own capt q.1 q.2.1 q.2.2.1 q.2.2.2
 have hK:∀q,(Xf q).K=X.K:=fun _=>rfl
 have hne:Nonempty (Addr×Shared×Hp×List Addr):=⟨(0,X.s₀,X.H₀,[])⟩;obtain⟨gg,pg,hgg⟩:=DG.uni (Xf:=Xf) hK fun q=>hg q.1 q.2.1 q.2.2.1 q.2.2.2
 obtain⟨gt,pt,hgt⟩:=DTs.uni (Xf:=Xf) hK fun q=>ht q.1 q.2.1 q.2.2.1 q.2.2.2
 obtain⟨ge,pe,hge⟩:=DE.uni (Xf:=Xf) hK fun q=>he q.1 q.2.1 q.2.2.1 q.2.2.2
 refine⟨wi,gg,gt,ge,pi,(fun C s₀ H₀ fp=>pg (C,s₀,H₀,fp)),(fun C s₀ H₀ fp=>pt (C,s₀,H₀,fp)),(fun C s₀ H₀ fp=>pe (C,s₀,H₀,fp)),fun C ρ σ H n Q R St hd hq=>?_⟩
 refine hi C ρ σ H n _ _ St hd fun ts n1 J H1 r e1 hn it=>fun D hD1=>?_
 have St1:=St.on e1 hn;have hD:H D=none:=zgz e1 hn hD1;have nhd:C.hd≠some D:=fun z=>St.dom (.inl (St.hx D z)) hD
 refine zg1 (n:=ts.length) (fun i ys H2=>∃acc n2,Jw g tt te (Ju own.length capt ρ) (ts.drop i) acc n2 R/\Reps X.K C.hd (fun a=>Own C ρ σ a\/a=D) H2 ys acc/\ExtE C.hd H1 H2/\Hn C.hd H2 n2)
  ⟨[],n1,by simpa using r,.nil,ExtE.new hD1,hn.same (J4 hD1)⟩ ?_ ?_
 ·rintro i ys H2 hlt hy ⟨acc,n2,c2,r2,e2,hn2⟩;have et:ts[i]?=some ts[i]:=List.getElem?_eq_getElem hlt;rw[List.drop_eq_getElem_cons hlt]at c2;have itq:=it (fun a=>Own C ρ σ a\/a=D) H2 (fun a o ha nh=>e2 a o ha nh) (fun a o ha no z=>z.elim no fun z=>by subst z;rw[hD1]at ha;cases ha) (fun a z=>z.elim (fun z=>(St1.on e2 hn2).dom z) fun z=>by subst z;rw[hy];exact fun z=>by cases z)
  obtain⟨go,yl⟩:=itq.1 i _ et;refine⟨go,fun x H3 hyd=>?_⟩
  obtain⟨sm,rx⟩:=yl x H3 hyd;have hn3:=hn2.same sm;have e3:ExtE C.hd H1 H3:=e2.trans sm.ext;obtain⟨I3,no3⟩:=zeZ (own:=own) (capt:=capt) (D:=D) (ys:=ys) St (e1.trans e3) hn3 hD (sm _ _ hy);have rx':Rep X.K C.hd (Own ⟨C.hd,fun a=>Own C ρ σ a\/a=D⟩ (Ju own.length capt ρ) (Jn own++capS capt σ)) H3 x ts[i]:=rx.mono (fun a o _ z=>z.elim id fun z=>absurd z (no3 a)) fun _ _ _ z=>z
  refine hgg ⟨C.hd,fun a=>Own C ρ σ a\/a=D⟩ (Ju own.length capt ρ) (Jn own++capS capt σ) H3 n2 x ts[i] _ _ I3 rx' c2 fun ρ4 σ4 r4 S4 k4 hj hl=>⟨Wk.of hl.symm fun j v ej=>?_,?_⟩
  ·by_cases hjo:j<own.length
   ·rw[List.getElem?_append_left (by simpa using hjo),List.getElem?_map]at ej
    cases z:own[j]? with
    | none=>rw[z]at ej;cases ej
    | some q=>rw[z]at ej;cases ej
   ·rw[hj j (fun z=>hjo (hin j z))];exact ej
  ·refine hgt _ ρ4 σ4 H3 n2 _ _ S4 r4 fun b n5 H5 r5 e5 hn5=>?_
   have S5:=S4.on e5 hn5;have hy5:H5 D=some (.lst ys):=e5 D _ (sm _ _ hy) nhd;have r25:∀{H6},ExtE C.hd H2 H6->Reps X.K C.hd (fun a=>Own C ρ σ a\/a=D) H6 ys acc:=fun e=>r2.mono (fun _ _ _ z=>z) fun a o no ha=>e a o ha fun z=>no (.inl (.inl (St.hx a z)))
   cases b with
   | false =>
    refine iteF ⟨ys,hy5,acc,n5,by simpa using r5,r25 ((Same.ext sm).trans e5),e3.trans e5,hn5⟩
   | true =>
    refine iteT (hge _ ρ4 σ4 H5 n5 _ _ S5 (by simpa using r5) fun t n6 v H6 r6 e6 hn6 q6=>?_)
    have hy6:H6 D=some (.lst ys):=e6 D _ hy5 nhd;have rl:=(r25 ((Same.ext sm).trans (e5.trans e6))).length;refine⟨ys,hy6,by rw[rl];exact r6.1,acc++[t],n6,r6.2,?_,?_,?_⟩
    ·have q6':Rep X.K C.hd (fun a=>Own C ρ σ a\/a=D) H6 v t:=q6.mono (fun _ _ _ z=>.inl z) fun _ _ _ z=>z
     have all:=(r25 ((Same.ext sm).trans (e5.trans e6))).append (Reps.cons q6' .nil);exact all.mono (fun _ _ _ z=>z) fun a o no ha=>by rw[Je (show a≠D from fun z=>no (.inr z))];exact ha
    ·exact fun a o ha nh=>by
      rw[Je (JX ha hD1)];exact(e3.trans (e5.trans e6)) a o ha nh
    ·exact fun a ha=>by
      obtain⟨d,m,t,q,rest⟩:=hn6 a ha;exact⟨d,m,t,by rw[Je (show a≠D from fun z=>nhd (by rw[<- z];exact ha))];exact q,rest⟩
 ·rintro ys H2 hy ⟨acc,n2,c2,r2,e2,hn2⟩;rw[List.drop_length]at c2;have itq:=it (fun a=>Own C ρ σ a\/a=D) H2 (fun a o ha nh=>e2 a o ha nh) (fun a o ha no z=>z.elim no fun z=>by subst z;rw[hD1]at ha;cases ha) (fun a z=>z.elim (fun z=>(St1.on e2 hn2).dom z) fun z=>by subst z;rw[hy];exact fun z=>by cases z)
  exact⟨itq.2,hq acc n2 D ys H2 c2 (e1.trans e2) hn2 hD hy r2⟩
theorem Ud(hc:X.calm=true)(S:CompScope scope own capt X)(hi:DIL X tg iter di)
  (hg:∀C s₀ H₀ fp,DG (Jb X scope own capt C s₀ H₀ fp) tg is g) (hin:∀i∈is,i<own.length) (ht:∀C s₀ H₀ fp,DTs (Jb X scope own capt C s₀ H₀ fp) ifs tt) (he:∀C s₀ H₀ fp,DE (Jb X scope own capt C s₀ H₀ fp) elt te)
  (hs:∀x,foldedSetIterable iter X.env x=pure x:=by intro _;rfl):DN X (.ListComp elt [⟨tg,iter,ifs,0⟩] scope pos) (dComp own.length capt di g tt te):=by
 obtain⟨wi,gg,gt,ge,a,b,c,d,sp⟩:=zgZ hi hg hin ht he;exact⟨_,zhu hc S a b c d hs,sp⟩
end
def Ux(K:qF):Sp:=fun vs H Q _=>∃(a:Addr) (ns:List Int) (k:Int),vs=[.ref a,.int k]/\SqL K H a (ns.map V.int)/\ns.length<=63/\0<=k/\k<=100 /\
 ∀hd H',H hd=none->UL H' hd 0->Same H H'->Q (.ref hd) H'
def zlP(hd:Addr)(H H':Hp):Prop:=∀b o,H b=some o->b≠hd->H' b=some o
def zh3:Sp:=fun vs H Q _=>∃(hd:Addr) (many n:Int),vs=[.ref hd,.int many]/\UL H hd n/\n<=1000000000000/\0<many/\many<2 ^ 128 /\
 ∀(r:Int) H',0<=r->r<many->UL H' hd (n+1)->zlP hd H H'->Q (.int r) H'
def Ua:GD:=fun ts n R=>match ts with
 | [h,.int many]=>h=HAND/\0<many/\many<2 ^ 128/\n<=1000000000000/\∀r:Int,0<=r->r<many->R (.int r) (n+1)
 | _=>False
theorem zhh{K:qF}(vs:List V)(H:Hp)(Q:VK)(E:XK)(h:spD K 2 Ua vs H Q E):zh3 vs H Q E:=by
 obtain⟨hd,O,ts,n,R,r,hn,dom,hx,hl,g,hq⟩:=h;unfold Ua at g;split at g
 ·rename_i hh many;obtain⟨rfl,m0,m1,hn',g⟩:=g;cases r with
  | cons r1 r =>
   cases r with
   | cons r2 r =>
    cases r;obtain⟨a,rfl,ea⟩:=r1.handI;rw[r2.intI];refine⟨a,many,n,rfl,hn a ea,by omega,m0,m1,fun q H' q0 q1 hh sx=>?_⟩
    refine hq _ (n+1) _ H' (g q q0 q1) (fun b o hb nb=>sx b o hb fun z=>nb (by rw[ea,z])) (fun b eb=>?_) (.int _)
    rw[ea]at eb;cases eb;exact hh
 ·exact g.elim
def zjS:Option (Option Cell)->(List PyData->Prop)->Prop
 | some (some (.val (.dict [(.none,.list ts)]))),R=>R ts
 | _,_=>False
def Jt(ρ:En):En:=match (ρ[(0:Nat)]?:Option (Option Cell)) with
 | some (some (.val (.dict [(.none,.list ts)])))=>some (.val (.dict [(.none,.list ts)]))::List.replicate (ρ.length - 1) none
 | _=>List.replicate ρ.length none
def intOf:Option (Option Cell)->(Int->Prop)->Prop
 | some (some (.val (.int k))),R=>R k
 | _,_=>False
def QP(i j:Nat)(u:DTS):DTS:=fun D ρ n=>zjS ρ[0]? fun ts=>intOf ρ[j]? fun k=>(∃ns:List Int,ts=ns.map PyData.int/\ns.length<=63)/\0<=k/\k<=100 /\
 u { nx:=fun ρ' _=>D.nx (Jt ρ') n,rt:=fun t _=>∃b,t=.bool b/\D.rt t n,bk:=fun ρ' _=>D.bk (Jt ρ') n,ct:=fun ρ' _=>D.ct (Jt ρ') n } (((Jt ρ).set j (some (.val (.int k)))).set i (some (.val HAND))) 0
theorem QG{ρ:En}{i:Nat}{c:Cell}(h:(Jt ρ)[i]?=some (some c)):i=0/\ρ[0]?=some (some c)/\∃ts,c=.val (.dict [(.none,.list ts)]):=by
 unfold Jt at h;split at h
 ·rename_i ts e;cases i with
  | zero=>simp at h;subst h;exact⟨rfl,e,ts,rfl⟩
  | succ i =>
   rw[List.getElem?_cons_succ,List.getElem?_replicate]at h;split at h <;> cases h
 ·rw[List.getElem?_replicate]at h;split at h <;> cases h
theorem zhQ{ρ:En}:(Jt ρ).length=ρ.length:=by
 unfold Jt;split
 ·rename_i ts e;cases ρ with
  | nil=>simp at e
  | cons a r=>simp
 ·simp
theorem zde{ρ:En}{σ:St}{a:Addr}:¬OwnS (Jt ρ) σ a:=fun⟨i,ds,m,h,_⟩=>by
 obtain⟨_,_,ts,e⟩:=QG h;subst e;cases m
theorem Rep.scrHd{K:qF}{hd hd':Option Addr}{O O':Addr->Prop}{H H':Hp}{v:V}{ts:qD}(h:Rep K hd O H v (.dict [(.none,.list ts)]))(ho:∀a o,H a=some o->¬O a->H' a=some o/\¬O' a):Rep K hd' O' H' v (.dict [(.none,.list ts)])/\∃ns:List Int,ts=ns.map PyData.int:=by
 generalize e:(PyData.dict [(PyData.none,PyData.list ts)])=t at h;cases h with
 | @scr a ns h1 o =>
  have e':ts=ns.map PyData.int:=by simpa[SCR] using e
  subst e';refine⟨?_,ns,rfl⟩;rcases h1 with h1|⟨u,h1⟩
  ·exact .scr (.inl (ho a _ h1 o).1) (ho a _ h1 o).2
  ·exact .scr (.inr ⟨u,(ho a _ h1 o).1⟩) (ho a _ h1 o).2
 | @scrS a ns h1 =>
  have e':ts=ns.map PyData.int:=by simpa[SCR] using e
  subst e';exact⟨.scrS h1,ns,rfl⟩
 | hand _=>simp[HAND]at e
 | dct _ _=>cases e
 | dcK _ _ _ e'=>cases e;exact(QF e').elim
 | dcT _ _ _ e'=>cases e;exact(dict_noT e').elim
 | _=>cases e
theorem Stt.drop{K:qF}{C C':Ctx}{ρ:En}{σ:St}{H H':Hp}{n n':Nat}(S:Stt K C' ρ σ H n)(hn:Hn C.hd H' n')(hl:∀a,C.ext a->MutO (H' a))(hx:∀a,C.hd=some a->C.ext a)
  (ho:∀a o,H a=some o->¬Own C' ρ σ a->H' a=some o/\¬C.ext a):Stt K C (Jt ρ) σ H' n' where
 len:=by rw[zhQ];exact S.len
 val:=fun i d h=>by
  obtain⟨rfl,e0,ts,et⟩:=QG h;cases et;obtain⟨v,h1,h2⟩:=S.val 0 _ e0;exact⟨v,h1,(h2.scrHd fun a o ha no=>⟨(ho a o ha no).1,fun z=>z.elim (ho a o ha no).2 zde⟩).1⟩
 own:=fun i ds h=>by
  obtain⟨_,_,ts,e⟩:=QG h;cases e
 dct:=fun i ds h=>by
  obtain⟨_,_,ts,e⟩:=QG h;cases e
 rdo:=fun i ds h=>by
  obtain⟨_,_,ts,e⟩:=QG h;cases e
 dtt:=fun i ds h=>by
  obtain⟨_,_,ts,e⟩:=QG h;cases e
 dif:=fun i j ds es a m _ h=>by
  obtain⟨_,_,ts,e⟩:=QG h;subst e;cases m
 hnd:=hn
 ext:=hl
 hx:=hx
section
variable{X:Cx}{st:Stmt}{sts:List Stmt}{ps:List Str}{f:Addr}{fd:FuncData}{u:DTS}{x s kx hx:Str}{pos pos' p p1 p2 p3:Pos}{k:Nat}
theorem zhO{i j:Nat}(D:Bd.Def X.K X.mg hx st ps f fd)(G:FnOk X.prog X.w X.K X.mg X.base CX0 k f fd ps (Ux X.K))(hr:Room k X.A)(hN:X.N.Nodup)(hi:X.N[i]?=some x)(hlx:Loc X.env.scope x)(hu:DSs X sts u)(hij:i≠0:=by decide)(hj0:j≠0:=by decide)(hji:j≠i:=by decide)
  (h0:X.N[0]?=some s:=by rfl) (hj:X.N[j]?=some kx:=by rfl) (hv0:Vis X.env.scope s:=by walk_at "V") (hvj:Vis X.env.scope kx:=by walk_at "V")
  (hd0:(s == ("__debug__":Str))=false:=by decide) (hcd0:(s == ("__classdict__":Str))=false:=by decide) (hdj:(kx == ("__debug__":Str))=false:=by decide) (hcdj:(kx == ("__classdict__":Str))=false:=by decide) (hg:Gl X hx:=by rfl) (hdb:(hx == ("__debug__":Str))=false:=by decide)
  (hs:swapsWith (.Call (.Name hx p) [.Name s p1,.Name kx p2] [] p3) (some (.Name x pos')) pos.line X.env=pure false:=by rfl) (hf:X.fn x=true\/X.env.scope.names.lookup x=some .local:=by walk_at "F") :
  DSs X (.Assign [.Name x pos'] (.Call (.Name hx p) [.Name s p1,.Name kx p2] [] p3) pos::sts) (QP i j u):=by
 obtain⟨tu,pu,hu⟩:=hu;refine⟨_,JT (J7 hN hi hlx (Bd.zkf D G hr (Qd (Qs h0 hv0 hd0 hcd0) (Qd (Qs hj hvj hdj hcdj) QD rfl) rfl) hg hdb) hs hf) pu,fun C ρ σ H n Dn D' S hd g=>?_⟩
 unfold QP zjS at hd;split at hd
 ·rename_i ts e0;unfold intOf at hd;split at hd
  ·rename_i kk ej;obtain⟨⟨ns,rfl,hl⟩,k0,k1,hd⟩:=hd;obtain⟨v0,s0,r0⟩:=S.val 0 _ e0;obtain⟨vj,sj,rj⟩:=S.val j _ ej;obtain⟨a0,rfl,sq0⟩:=r0.scrI;rw[rj.intI]at sj;refine⟨_,s0,_,sj,?_⟩;refine⟨a0,ns,kk,rfl,sq0,hl,k0,k1,fun h H1 hh hok sm=>?_⟩
   have S1:=S.on (Same.ext sm:ExtE C.hd H H1) (S.hnd.same sm);have nx:¬Own C ρ σ h:=fun z=>S.dom z hh
   have Sd:Stt X.K ⟨some h,fun a=>C.ext a\/a=h⟩ (Jt ρ) σ H1 0:=S.drop (fun a ea=>by cases ea;exact hok) (fun a z=>z.elim (fun z=>S1.ext a z) fun z=>by subst z;obtain⟨_,_,_,q,_⟩:=hok;exact .inl ⟨_,q⟩) (fun a ea=>.inr (by cases ea;rfl))
    (fun a o ha no=>⟨sm a o ha,fun z=>z.elim (fun z=>no (.inl z)) fun z=>by subst z;rw[hh]at ha;cases ha⟩)
   have Sd2:=(Sd.put (i:=j) (t:=.int kk) (v:=.int kk) (.int kk)).put (i:=i) (t:=HAND) (v:=.ref h) (.hand rfl);have own2:∀a,¬OwnS (((Jt ρ).set j (some (.val (.int kk)))).set i (some (.val HAND))) ((σ.set j (some (.int kk))).set i (some (.ref h))) a:=fun a z=>zde (UZ (UZ z))
   have es:(σ.set j (some (V.int kk)))=σ:=by
    apply List.ext_getElem?
    intro q
    by_cases z:j=q
    ·subst z;have:j<σ.length:=by
      rcases Nat.lt_or_ge j σ.length with w|w
      ·exact w
      ·rw[List.getElem?_eq_none w]at sj;cases sj
     rw[zfL this,sj]
    ·rw[List.getElem?_set_ne z]
   rw[es]at Sd2 own2;refine hu _ _ _ H1 0 _ _ Sd2 hd ?_;have back:∀{ρ' σ' H' n'},Stt X.K ⟨some h,fun a=>C.ext a\/a=h⟩ ρ' σ' H' n'->(∀a o,H1 a=some o->some h≠some a->H' a=some o)->Stt X.K C (Jt ρ') σ' H' n:=fun {ρ' σ' H' n'} S' kp =>
    S'.drop (fun a ea=>by
      obtain⟨d,m,t,q,rest⟩:=S.hnd a ea;exact⟨d,m,t,kp a _ (sm _ _ q) (fun z=>by cases z;rw[hh]at q;cases q),rest⟩)
     (fun a z=>by
      rcases S.ext a z with⟨xs,q⟩|⟨xs,q⟩|⟨b,xs,ep,q⟩
      ·exact .inl ⟨xs,kp a _ (sm _ _ q) (fun z=>by cases z;rw[hh]at q;cases q)⟩
      ·exact .inr (.inl ⟨xs,kp a _ (sm _ _ q) (fun z=>by cases z;rw[hh]at q;cases q)⟩)
      ·exact .inr (.inr ⟨b,xs,ep,kp a _ (sm _ _ q) (fun z=>by cases z;rw[hh]at q;cases q)⟩)) S.hx (fun a o ha no=>⟨ha,fun z=>no (.inl (.inl z))⟩)
   have kp1:∀{ρ' σ' H'},Keep ⟨some h,fun a=>C.ext a\/a=h⟩ (((Jt ρ).set j (some (.val (.int kk)))).set i (some (.val HAND))) (σ.set i (some (.ref h))) H1 ρ' σ' H'->∀a o,H1 a=some o->some h≠some a->H' a=some o:=fun k a o ha na=>(k a o ha na (own2 a)).1
   have kp2:∀{ρ' σ' H'},Keep ⟨some h,fun a=>C.ext a\/a=h⟩ (((Jt ρ).set j (some (.val (.int kk)))).set i (some (.val HAND))) (σ.set i (some (.ref h))) H1 ρ' σ' H'->Keep C ρ σ H (Jt ρ') σ' H':=fun k a o ha _ _=>⟨kp1 k a o (sm a o ha) (fun z=>by cases z;rw[hh]at ha;cases ha),zde⟩
   refine⟨fun ρ' σ' H' n' h' S' k'=>g.nx _ _ H' n h' (back S' (kp1 k')) (kp2 k'),fun t n' v H' h' hn' k' rp=>?_,fun ρ' σ' H' n' h' S' k'=>g.bk _ _ H' n h' (back S' (kp1 k')) (kp2 k'),fun ρ' σ' H' n' h' S' k'=>g.ct _ _ H' n h' (back S' (kp1 k')) (kp2 k')⟩
   obtain⟨b,rfl,h'⟩:=h';rw[rp.blI];have kq:∀a o,H a=some o->H' a=some o:=fun a o ha=>k' a o (sm a o ha) (fun z=>by cases z;rw[hh]at ha;cases ha) (own2 a)
   refine g.rt _ n _ H' h' (fun a ea=>?_) (fun a o ha _ _=>kq a o ha) (.bl b)
   obtain⟨d,m,t,q,rest⟩:=S.hnd a ea;exact⟨d,m,t,kq a _ q,rest⟩
  ·exact hd.elim
 ·exact hd.elim
end
def ziC(K:qF):Sp:=fun vs H Q _=>∃(a:Addr) (ns:List Int),vs=[.ref a]/\SqL K H a (ns.map V.int)/\ns.length<=63/\∀H',Q (.bl true) H'
def zlq:GD:=fun ts n R=>∃ns:List Int,ts=[SCR ns]/\ns.length<=63/\∀n',R (.bool true) n'
theorem zi7{K:qF}(vs:List V)(H:Hp)(Q:VK)(E:XK)(h:ziC K vs H Q E):spD K 1 zlq vs H Q E:=by
 obtain⟨a,ns,rfl,sq,hl,q⟩:=h;refine⟨none,fun _=>False,[SCR ns],0,fun t _=>t=.bool true,.cons ?_ .nil,(fun a e=>by cases e),(fun a z=>z.elim),(fun a e=>by cases e),rfl,⟨ns,rfl,hl,fun _=>rfl⟩,fun t n' v H' ht _ _ rp=>?_⟩
 ·rcases sq with sq|sq
  ·exact .scr sq (fun z=>z)
  ·exact .scrS fun _=>.inr sq
 ·subst ht;rw[rp.blI];exact q H'
section
variable{env:Env}{es:List Expr}{a b:Expr}{l1 l2:List Expr}{p:Pos}{x:Str}
theorem Jg:starEach (.Name x p::es) env=(false,eval (.Name x p) env)::starEach es env:=rfl
theorem QJ{i:Int}{j}:starEach (.Constant (.int i) j p::es) env=(false,eval (.Constant (.int i) j p) env)::starEach es env:=rfl
theorem ziB{i:Bool}{j}:starEach (.Constant (.bool i) j p::es) env=(false,eval (.Constant (.bool i) j p) env)::starEach es env:=rfl
theorem J3{c d}:starEach (.Call a l1 c d::es) env=(false,eval (.Call a l1 c d) env)::starEach es env:=rfl
theorem zep{k}:starEach (.Tuple l1 k p::es) env=(false,eval (.Tuple l1 k p) env)::starEach es env:=rfl
theorem Uy{o}:starEach (.BinOp a o b p::es) env=(false,eval (.BinOp a o b p) env)::starEach es env:=rfl
theorem zh2:starEach (.Subscript a b p::es) env=(false,eval (.Subscript a b p) env)::starEach es env:=rfl
theorem UP{g s}:starEach (.ListComp a g s p::es) env=(false,eval (.ListComp a g s p) env)::starEach es env:=rfl
end
section
variable{C:Int->Int->Prop}{f:Int->Int->Int}{fb:Int->Int->Bool}{i j k:Int}{R:PyData->Prop}{Rb:Bool->Prop}{xs ys:qD}{s t:Str}{a b:Bool}{u v:PyData}
theorem zkI:oAdd (.int i) (.int j) R=R (.int (i+j)):=propext Iff.rfl
theorem zkH:oAdd (.tuple xs) (.tuple ys) R=(xs.length+ys.length<=16777216/\R (.tuple (xs++ys))):=propext Iff.rfl
theorem zmV:oEq (.int i) (.int j) R=R (.bool (decide (i=j))):=propext Iff.rfl
theorem zmT:oLtA (.int i) (.int j) R=R (.bool (decide (i<j))):=propext Iff.rfl
theorem zmU:oLeA (.int i) (.int j) R=R (.bool (decide (i<=j))):=propext Iff.rfl
theorem zkG{x:PyData}(h:atI xs i=some x):oIx (.list xs) (.int i) R=R x:=by show(match atI xs i with|some t=>R t|none=>False)=_;rw[h]
theorem zkF{x:PyData}(h:atI xs i=some x):oIx (.tuple xs) (.int i) R=R x:=by show(match atI xs i with|some t=>R t|none=>False)=_;rw[h]
theorem zkE:oIx (.tuple (u::xs)) (.int 0) R=R u:=zkF (by unfold atI ixN;simp)
theorem zkD:oIx (.tuple (u::v::xs)) (.int 1) R=R v:=zkF (by unfold atI ixN;simp;rw[if_pos (by omega)];rfl)
theorem zkA:truD (.bool a) Rb=Rb a:=propext Iff.rfl
theorem zkz:truD (.list xs) Rb=Rb (!xs.isEmpty):=propext Iff.rfl
theorem zmW:bolD (.bool a) Rb=Rb a:=propext Iff.rfl
theorem zkC:bLen [.list xs] R=R (.int xs.length):=propext Iff.rfl
theorem zkB:bLen [.tuple xs] R=R (.int xs.length):=propext Iff.rfl
theorem zhC{ns:List Int}:bLen [SCR ns] R=R (.int ns.length):=by show R (.int (ns.map PyData.int).length)=_;rw[List.length_map]
theorem zmR:bMin [.int i,.int j] R=R (.int (if j<i then j else i)):=propext Iff.rfl
theorem zmS:bMax [.int i,.int j] R=R (.int (if j > i then j else i)):=propext Iff.rfl
theorem zhB:Ub [.list xs] R=R (.tuple xs):=propext Iff.rfl
theorem zi8{Rl:List PyData->Prop}:QS (.list xs) Rl=Rl xs:=propext Iff.rfl
variable{d:DTE}{ρ:En}{n:Nat}{Rn:qN}
end
abbrev blk(i h:Int):PyData:=.tuple [.int i,.int h]
def IsBk(bits i h:Int):Prop:=0<=h/\h<=bits/\∃k:Int,0<=k/\i=k*2 ^ h.toNat/\k<2 ^ (bits - h).toNat
theorem zhq(k:Nat):(0:Int)<2 ^ k:=Bd.zaf k
theorem zhs{a b:Nat}:(2:Int) ^ (a+b)=2 ^ a*2 ^ b:=Int.pow_add 2 a b
theorem IsBk.bounds{bits i h:Int}(b0:0<=bits)(H:IsBk bits i h):0<=i/\i+2 ^ h.toNat<=2 ^ bits.toNat:=by
 obtain⟨h0,h1,k,k0,rfl,k1⟩:=H;have p:=zhq h.toNat;refine⟨Int.mul_nonneg k0 (Int.le_of_lt p),?_⟩;have e:bits.toNat=(bits - h).toNat+h.toNat:=by lia
 rw[e,zhs];have:(k+1)*2 ^ h.toNat<=2 ^ (bits - h).toNat*2 ^ h.toNat:=Int.mul_le_mul_of_nonneg_right (by lia) (Int.le_of_lt p)
 rw[Int.add_mul,Int.one_mul]at this;exact this
theorem cpow{j:Int}(h0:0<=j)(h1:j<=1000000):CPow 1 j:=⟨h0,h1,by decide⟩
section
variable{t u tb:DTS}{D:DEnds}{ρ ρ0:En}{n i j m:Nat}{d da db dc d1 d2:DTE}{ds di:DTA}{c c' tt:DTT}{g:G2}{g':G2}{gc:GC}{gd:GD}{tg:DTG}{tgs:DTGs}{R:qN}{Rb:Bool->Nat->Prop}{Rl:List PyData->Nat->Prop}{Re:En->Prop}{x y:PyData}{xs ys acc:qD}{f:Int->Int->Int}{fb:PyData->Bool}{k:Bool}{capt:List Nat}{h:Option Cell}
def cOwn:Option Cell->(List PyData->Prop)->Prop
 | some (.own d),R=>R d
 | _,_=>False
theorem ziy:Q5 d ρ n Rb=(d ρ n fun t n'=>bolD t fun b=>Rb b n'):=by
 unfold Q5;congr 1
 funext t n'
 cases t <;> exact propext Iff.rfl
def lLst:PyData->(List PyData->Prop)->Prop
 | .list xs,R=>R xs
 | _,_=>False
def lTup:PyData->(List PyData->Prop)->Prop
 | .tuple xs,R=>R xs
 | _,_=>False
theorem zjL:dItL d ρ n Rl=(d ρ n fun t n'=>lLst t fun ts=>Rl ts n'):=by
 unfold dItL;congr 1
 funext t n'
 cases t <;> exact propext Iff.rfl
theorem zjK:dItT d ρ n Rl=(d ρ n fun t n'=>lTup t fun ts=>Rl ts n'):=by
 unfold dItT;congr 1
 funext t n'
 cases t <;> exact propext Iff.rfl
def lInt:PyData->(Int->Prop)->Prop
 | .int i,R=>R i
 | _,_=>False
theorem ziA:Q3 d ρ n Rl=(d ρ n fun t n'=>lInt t fun j=>(-(2 ^ 62)<=j/\j<2 ^ 62)/\Rl (JE 0 j.toNat) n'):=by
 unfold Q3;congr 1
 funext t n'
 cases t <;> exact propext Iff.rfl
theorem ziz:Q4 d1 d2 ρ n Rl=(d1 ρ n fun t n1=>d2 ρ n1 fun u n2=>lInt t fun i=>lInt u fun j=>(-(2 ^ 62)<=i/\i<2 ^ 62/\-(2 ^ 62)<=j/\j<2 ^ 62)/\Rl (JE i (j - i).toNat) n2):=by
 unfold Q4;congr 1
 funext t n1
 congr 1
 funext u n2
 cases t <;> cases u <;> exact propext Iff.rfl
theorem zjJ:dNeg d ρ n R=(d ρ n fun t n'=>lInt t fun i=>R (.int (-i)) n'):=by
 unfold dNeg;congr 1
 funext t n'
 cases t <;> exact propext Iff.rfl
def Qy(ρ:En)(i:Nat)(D:DEnds)(dj:DTE)(t:PyData)(n1:Nat)(ts:qD):Prop:=dj ρ n1 fun j n2=>lInt j fun j=>(match ixN ts.length j with|some k=>D.nx (ρ.set i (some (.own (ts.set k t)))) n2|none=>False)
theorem zmh{dj:DTE}:sPut i dj d D ρ n=(d ρ n fun t n1=>cOwn (ρ.getD i none) fun xs=>Qy ρ i D dj t n1 xs):=by
 unfold sPut;congr 1
 funext t n1
 rw[List.getD_eq_getElem?_getD];cases e:ρ[i]? with
 | none=>exact propext Iff.rfl
 | some o=>cases o with
  | none=>exact propext Iff.rfl
  | some c=>cases c with
   | val _=>exact propext Iff.rfl
   | dct _=>exact propext Iff.rfl
   | dtt _=>exact propext Iff.rfl
   | rdo _=>exact propext Iff.rfl
   | own xs =>
    show(dj ρ n1 fun j n2=>_)=Qy ρ i D dj t n1 xs
    unfold Qy;congr 1
    funext j n2
    cases j <;> exact propext Iff.rfl
end
section
variable{t u tb:DTS}{D:DEnds}{ρ ρ0:En}{n i j m:Nat}{d da db dc d1 d2:DTE}{ds di:DTA}{c c' tt:DTT}{g:G2}{g':G2}{gc:GC}{gd:GD}{tg:DTG}{tgs:DTGs}{R:qN}{Rb:Bool->Nat->Prop}{Rl:List PyData->Nat->Prop}{Re:En->Prop}{x y:PyData}{xs ys acc:qD}{f:Int->Int->Int}{fb:PyData->Bool}{k:Bool}{capt:List Nat}
theorem zk4(h:t { D with nx:=u D } ρ n):sSeq t u D ρ n:=h
theorem zjf(h:D.nx ρ n):ziE D ρ n:=h
theorem zk5(h:d ρ n fun t n'=>D.rt t n'):sRet d D ρ n:=h
theorem zna(h:c ρ n fun b n1=>if b=true then t D ρ n1 else u D ρ n1):sIf c t u D ρ n:=h
theorem zk7(h:d ρ n fun t n'=>tg t ρ fun ρ'=>D.nx ρ' n'):sAsg d tg D ρ n:=h
theorem zk6(h:di ρ n fun ts n1=>forP tg tb D ts ρ n1):sFor di tg tb D ρ n:=h
theorem i_dC(h:R x n):dC x ρ n R:=h
theorem zne(h:da ρ n fun x n1=>db ρ n1 fun y n2=>g x y fun z=>R z n2):dOp g da db ρ n R:=h
theorem zlf(h:ds ρ n fun ts n'=>R (.list ts) n'):dNew ds ρ n R:=h
theorem zlb(h:ds ρ n fun ts n1=>R (.tuple ts) n1):dTup ds ρ n R:=h
theorem zle(h:Rl [] n):dNil ρ n Rl:=h
theorem zjl(h:d ρ n fun t n1=>ds ρ n1 fun ts n2=>Rl (t::ts) n2):J5 d ds ρ n Rl:=h
theorem znf(h:ds ρ n fun ts n1=>gd ts n1 R):dFn gd ds ρ n R:=h
theorem zhK(h:ds ρ n fun ts n1=>gc ts fun z=>R z n1):UA gc ds ρ n R:=h
theorem zlj(h:c ρ n fun b n1=>if b=true then c' ρ n1 Rb else Rb false n1):dAnd c c' ρ n Rb:=h
theorem zld(h:da ρ n fun t n1=>bolD t fun b=>if b=true then R (.bool true) n1 else db ρ n1 R):dOrV da db ρ n R:=h
theorem zlc(h:d ρ n fun t n'=>truD t fun b=>Rb b n'):dTru d ρ n Rb:=h
theorem zjm(h:di ρ n fun ts n1=>Jw tg tt d (Ju m capt ρ) ts [] n1 Rl):dComp m capt di tg tt d ρ n Rl:=h
theorem zla(h:Rb true n):dYes ρ n Rb:=h
theorem zjd(h:tgs xs ρ Re):QR tgs (.tuple xs) ρ Re:=h
theorem zje(h:Re ρ):QQ [] ρ Re:=h
theorem zhI(h:tg x ρ fun ρ'=>tgs xs ρ' Re):Qi tg tgs (x::xs) ρ Re:=h
theorem zjh(h:d ρ n fun t n'=>bolD t fun b=>Rb b n'):Q5 d ρ n Rb:=ziy.symm▸h
theorem zli(h:d ρ n fun t n'=>lLst t fun ts=>Rl ts n'):dItL d ρ n Rl:=zjL.symm▸h
theorem zlh(h:d ρ n fun t n'=>lTup t fun ts=>Rl ts n'):dItT d ρ n Rl:=zjK.symm▸h
theorem zjk(h:d ρ n fun t n'=>lInt t fun j=>(-(2 ^ 62)<=j/\j<2 ^ 62)/\Rl (JE 0 j.toNat) n'):Q3 d ρ n Rl:=ziA.symm▸h
theorem zjj(h:d1 ρ n fun t n1=>d2 ρ n1 fun u n2=>lInt t fun i=>lInt u fun j=>(-(2 ^ 62)<=i/\i<2 ^ 62/\-(2 ^ 62)<=j/\j<2 ^ 62)/\Rl (JE i (j - i).toNat) n2):Q4 d1 d2 ρ n Rl:=ziz.symm▸h
theorem zlg(h:d ρ n fun t n'=>lInt t fun i=>R (.int (-i)) n'):dNeg d ρ n R:=zjJ.symm▸h
theorem zii(e:ρ[i]?=some (some (.val x)))(h:R x n):dVar i ρ n R:=by unfold dVar;rw[e];exact h
theorem zij(e:ρ[i]?=some (some (.own xs)))(h:R (.list xs) n):dOwn i ρ n R:=by unfold dOwn;rw[e];exact h
theorem zeP(e:ρ[i]?=some (some (.own xs)))(h:d ρ n fun t n'=>xs.length<16777216/\D.nx (ρ.set i (some (.own (xs++[t])))) n'):Uh i d D ρ n:=by unfold Uh;rw[e];exact h
theorem zeO(e:ρ[i]?=some (some (.own xs)))(h:t D (ρ.set i (some (.val (.list xs)))) n):Ui i t D ρ n:=by unfold Ui;rw[e];exact h
theorem znb{dj:DTE}(e:ρ[i]?=some (some (.own xs)))(h:d ρ n fun t n1=>Qy ρ i D dj t n1 xs):sPut i dj d D ρ n:=by
 rw[zmh,List.getD_eq_getElem?_getD,e];exact h
theorem zk8{dj:DTE}(h:dj ρ n fun j n2=>lInt j fun j=>(match ixN xs.length j with|some k=>D.nx (ρ.set i (some (.own (xs.set k x)))) n2|none=>False)):Qy ρ i D dj x n xs:=h
theorem znc{b:Bool}{A B:Prop}(h1:b=true->A)(h2:b=false->B):if b=true then A else B:=by cases b with|true=>exact iteT (h1 rfl)|false=>exact iteF (h2 rfl)
theorem zk_{p:Prop}[Decidable p]{A B:Prop}(h1:p->A)(h2:¬p->B):if decide p=true then A else B:=by
 by_cases h:p
 ·rw[decide_eq_true h];exact iteT (h1 h)
 ·rw[decide_eq_false h];exact iteF (h2 h)
theorem zk9{b:Bool}{A B:Prop}(h:if b=true then B else A):if (!b)=true then A else B:=by
 cases b with|true=>exact iteF h|false=>exact iteT h
end
section
variable{C:Int->Int->Prop}{f:Int->Int->Int}{fb:Int->Int->Bool}{i j k:Int}{R:PyData->Prop}{Rb:Bool->Prop}{xs ys:qD}{s t:Str}{a b:Bool}{u v x y:PyData}{Rn:qN}{n:Nat}
theorem zkZ(h:R (.int (i+j))):oAdd (.int i) (.int j) R:=zkI.symm▸h
theorem zkY(h:(xs.length+ys.length<=16777216/\R (.tuple (xs++ys)))):oAdd (.tuple xs) (.tuple ys) R:=zkH.symm▸h
theorem zm8(h:R (.bool (decide (i=j)))):oEq (.int i) (.int j) R:=zmV.symm▸h
theorem zm4(h:R (.bool (decide (i<j)))):oLtA (.int i) (.int j) R:=zmT.symm▸h
theorem zm6(h:R (.bool (decide (i<=j)))):oLeA (.int i) (.int j) R:=zmU.symm▸h
theorem zkX(h:R u):oIx (.tuple (u::xs)) (.int 0) R:=zkE.symm▸h
theorem zkW(h:R v):oIx (.tuple (u::v::xs)) (.int 1) R:=zkD.symm▸h
theorem zkQ(h:Rb a):truD (.bool a) Rb:=zkA.symm▸h
theorem zkP(h:Rb (!xs.isEmpty)):truD (.list xs) Rb:=zkz.symm▸h
theorem zm9(h:Rb a):bolD (.bool a) Rb:=zmW.symm▸h
theorem zkV(h:R (.int xs.length)):bLen [.list xs] R:=zkC.symm▸h
theorem zkU(h:R (.int xs.length)):bLen [.tuple xs] R:=zkB.symm▸h
theorem zhG{ns:List Int}(h:R (.int ns.length)):bLen [SCR ns] R:=zhC.symm▸h
theorem zm2(h:R (.int (if j<i then j else i))):bMin [.int i,.int j] R:=zmR.symm▸h
theorem zm3(h:R (.int (if j > i then j else i))):bMax [.int i,.int j] R:=zmS.symm▸h
theorem zhF(h:R (.tuple xs)):Ub [.list xs] R:=zhB.symm▸h
theorem zjc{Rl:List PyData->Prop}(h:Rl xs):QS (.list xs) Rl:=zi8.symm▸h
theorem zm5{Q:List PyData->Prop}(h:Q xs):lLst (.list xs) Q:=h
theorem zmZ{Q:List PyData->Prop}(h:Q xs):lTup (.tuple xs) Q:=h
theorem zm7{i:Int}{Q:Int->Prop}(h:Q i):lInt (.int i) Q:=h
theorem zm1(c:CPow i j)(h:R (.int (i*2 ^ j.toNat))):oShl (.int i) (.int j) R:=⟨c,h⟩
theorem zm0(h:R (.int (i - j))):oSub (.int i) (.int j) R:=h
theorem zm_(h:R (.int (Builtin.bitAnd i j))):oAnd (.int i) (.int j) R:=h
theorem j_gB(h:R (.bool (fb i j))):gB fb (.int i) (.int j) R:=h
end
theorem Qt(h:Nat):(1:Int)*2 ^ h=2 ^ h:=Int.one_mul _
def BlkN(bits i:Int)(h:Nat):Prop:=(h:Int)<=bits/\∃k:Int,0<=k/\i=k*2 ^ h/\k<2 ^ (bits.toNat - h)
theorem IsBk.n{bits i h:Int}(B:IsBk bits i h):BlkN bits i h.toNat:=by
 obtain⟨h0,h1,k,k0,e,k1⟩:=B;refine⟨by lia,k,k0,e,?_⟩
 have:(bits - h).toNat=bits.toNat - h.toNat:=by lia
 rw[<- this];exact k1
theorem zg8{bits j:Int}{g h:Nat}(b:BlkN bits j g)(l:g<=h):j / 2 ^ h*2 ^ h<=j/\j+2 ^ g<=(j / 2 ^ h+1)*2 ^ h:=by
 obtain⟨_,m,m0,rfl,_⟩:=b;have pA:=Bd.zaf h;have pB:=Bd.zaf g;have pC:=Bd.zaf (h - g);have eA:(2:Int) ^ h=2 ^ (h - g)*2 ^ g:=by rw[<- Int.pow_add];congr 1;lia
 refine⟨Int.ediv_mul_le _ (by lia),?_⟩
 have eq:(m*2 ^ g) / 2 ^ h=m / 2 ^ (h - g):=by rw[eA];exact Int.mul_ediv_mul_of_pos_left m _ pB
 rw[eq,eA,<- Int.mul_assoc];have e1:m*2 ^ g+2 ^ g=(m+1)*2 ^ g:=by rw[Int.add_mul,Int.one_mul]
 rw[e1];refine Int.mul_le_mul_of_nonneg_right ?_ (by lia)
 have:=Int.lt_ediv_add_one_mul_self m pC;lia
theorem zeE{a b A:Int}(p:0<A)(l:a<b):(a+1)*A<=b*A:=Int.mul_le_mul_of_nonneg_right (by lia) (by lia)
theorem zgA{bits i j:Int}{h g:Nat}(bi:BlkN bits i h)(bj:BlkN bits j g):(g<=h/\j / 2 ^ h*2 ^ h=i)↔(i<=j/\j+2 ^ g<=i+2 ^ h):=by
 have pA:=Bd.zaf h;have pB:=Bd.zaf g;constructor
 ·rintro⟨l,e⟩;have t:=zg8 bj l;rw[e,Int.add_mul,Int.one_mul,e]at t;exact t
 ·rintro⟨l1,l2⟩;have l:g<=h:=by
   by_cases z:g<=h
   ·exact z
   ·exfalso;have:(2:Int) ^ h<2 ^ g:=by
     have e:(2:Int) ^ g=2 ^ (g - h)*2 ^ h:=by rw[<- Int.pow_add];congr 1;lia
     have p2:(2:Int)<=2 ^ (g - h):=by
      obtain⟨d,hd⟩:∃d,g - h=d+1:=⟨g - h - 1,by lia⟩
      rw[hd,Int.pow_succ];have:=Bd.zaf d;lia
     rw[e];have:=Int.mul_le_mul_of_nonneg_right p2 (show(0:Int)<=2 ^ h by lia)
     lia
    lia
  refine⟨l,?_⟩;obtain⟨_,k,k0,rfl,_⟩:=bi;have e:j / 2 ^ h=k:=by
   have a1:k<=j / 2 ^ h:=(Int.le_ediv_iff_mul_le pA).mpr l1;have a2:j / 2 ^ h<k+1:=(Int.ediv_lt_iff_lt_mul pA).mpr (by rw[Int.add_mul,Int.one_mul];lia)
   lia
  rw[e]
theorem zdX{bits i j:Int}{h g:Nat}(bi:BlkN bits i h)(bj:BlkN bits j g)(l:g<=h):(g<=h/\j / 2 ^ h*2 ^ h=i)\/j+2 ^ g<=i\/i+2 ^ h<=j:=by
 have pA:=Bd.zaf h;have t:=zg8 bj l;obtain⟨_,k,k0,rfl,_⟩:=bi;rcases Int.lt_trichotomy (j / 2 ^ h) k with z|z|z
 ·have:=zeE pA z;exact .inr (.inl (by lia))
 ·exact .inl ⟨l,by rw[z]⟩
 ·have:=zeE pA z;rw[Int.add_mul,Int.one_mul]at this;exact .inr (.inr (by lia))
theorem zgH{g:DTG}{tb:DTS}{D:DEnds}(Inv:Nat->En->Nat->Prop):∀(ts:qD) (i:Nat) {ρ:En}{n:Nat},Inv i ρ n ->
  (∀(k:Nat) (t:PyData) (ρ:En) (n:Nat) (K:En->Nat->Prop),ts[k]?=some t->Inv (i+k) ρ n->(∀ρ' n',Inv (i+k+1) ρ' n'->K ρ' n')->g t ρ fun ρ'=>tb { D with nx:=K,ct:=K,bk:=D.nx } ρ' n) ->
  (∀ρ n,Inv (i+ts.length) ρ n->D.nx ρ n)->forP g tb D ts ρ n
 | [],i,ρ,n,h0,_,fin=>fin ρ n (by simpa using h0)
 | t::ts,i,ρ,n,h0,turn,fin=>by
  refine turn 0 t ρ n _ rfl (by simpa using h0) fun ρ' n' h'=>?_
  refine zgH Inv ts (i+1) (by simpa using h') (fun k u ρ n K e hI hK=>?_) (fun ρ n h=>fin ρ n ?_)
  ·refine turn (k+1) u ρ n K (by simpa using e) ?_ fun ρ' n' h'=>hK ρ' n' ?_
   ·have:i+(k+1)=i+1+k:=by lia
    rw[this];exact hI
   ·have:i+1+k+1=i+(k+1)+1:=by lia
    rw[this];exact h'
  ·have:i+(t::ts).length=i+1+ts.length:=by simp;lia
   rw[this]at *;exact h
theorem QH{g:DTG}{tb:DTS}{D:DEnds}{ts:qD}{ρ:En}{n:Nat}(Inv:Nat->En->Nat->Prop)(h0:Inv 0 ρ n)
  (turn:∀(k:Nat) (t:PyData) (ρ:En) (n:Nat) (K:En->Nat->Prop),ts[k]?=some t->Inv k ρ n->(∀ρ' n',Inv (k+1) ρ' n'->K ρ' n')->g t ρ fun ρ'=>tb { D with nx:=K,ct:=K,bk:=D.nx } ρ' n)
  (fin:∀ρ n,Inv ts.length ρ n->D.nx ρ n):forP g tb D ts ρ n:=by
 refine zgH Inv ts 0 h0 (fun k t ρ n K e hI hK=>turn k t ρ n K e (by simpa using hI) fun ρ' n' h'=>hK ρ' n' (by simpa using h')) fun ρ n h=>fin ρ n (by simpa using h)
theorem QM{lo:Int}{m i:Nat}{t:PyData}(h:(JE lo m)[i]?=some t):i<m/\t=.int (lo+(i:Int)):=by
 unfold JE at h;rw[List.getElem?_map]at h
 by_cases hi:i<m
 ·rw[List.getElem?_range hi]at h;cases h;exact⟨hi,rfl⟩
 ·rw[List.getElem?_eq_none (by simp;lia)]at h
  cases h
theorem US{lo:Int}{m:Nat}:(JE lo m).length=m:=by simp[JE]
theorem zfC{c:DTT}{tb:DTS}{D:DEnds}{ρ:En}{n:Nat}(Inv:Nat->En->Nat->Prop){m:Nat}(h0:Inv m ρ n)
  (turn:∀m ρ n,Inv m ρ n->c ρ n fun b n1=>if b=true then tb { D with nx:=fun ρ' n'=>∃m',m'<m/\Inv m' ρ' n',ct:=fun ρ' n'=>∃m',m'<m/\Inv m' ρ' n',bk:=D.nx } ρ n1 else D.nx ρ n1):zfP c tb D ρ n :=
 ⟨Inv,⟨m,h0⟩,turn⟩
theorem zjg{i j:Nat}{u:DTS}{D:DEnds}{ρ ρd:En}{n:Nat}{ns:List Int}{k:Int}(e0:ρ[0]?=some (some (.val (SCR ns))))(ej:ρ[j]?=some (some (.val (.int k))))(hl:ns.length<=63)(k0:0<=k)(k1:k<=100)(ed:Jt ρ=ρd)
  (h:u { nx:=fun ρ' _=>D.nx (Jt ρ') n,rt:=fun t _=>∃b,t=.bool b/\D.rt t n,bk:=fun ρ' _=>D.bk (Jt ρ') n,ct:=fun ρ' _=>D.ct (Jt ρ') n } ((ρd.set j (some (.val (.int k)))).set i (some (.val HAND))) 0):QP i j u D ρ n:=by
 subst ed;unfold QP;rw[e0,ej];exact⟨⟨ns,rfl,hl⟩,k0,k1,h⟩
def rkAt(rk:Value->Int)(xs:Array Keyed)(i:Nat):Int:=((xs[i]?).map fun p=>rk p.1).getD 0
theorem QY{rk:Value->Int}{xs ys:Array Keyed}{i j:Nat}(h:xs[i]?=ys[j]?):rkAt rk xs i=rkAt rk ys j:=by unfold rkAt;rw[h]
theorem zj3{rk:Value->Int}{xs:Array Keyed}{u d:Nat}(hu:u<xs.size)(hd:d<=u)(k:Nat) :
  (k=u - d->rkAt rk (bubble xs u d) k=rkAt rk xs u)/\(u - d<k->k<=u->rkAt rk (bubble xs u d) k=rkAt rk xs (k - 1))/\(k<u - d\/u<k->rkAt rk (bubble xs u d) k=rkAt rk xs k):=by
 have e:=getElem?_bubble hu d hd k;refine⟨fun h=>?_,fun h1 h2=>?_,fun h=>?_⟩
 ·rw[if_pos h]at e;exact QY e
 ·rw[if_neg (by lia),if_pos ⟨h1,h2⟩]at e;exact QY e
 ·rw[if_neg (by lia),if_neg (by lia)]at e;exact QY e
theorem Uw{rk:Value->Int}{xs:Array Keyed}{i j:Nat}(hj:j<=xs.size)(k:Nat) :
  (i<=k->k<j->rkAt rk (mirror xs i j ((j - i) / 2)) k=rkAt rk xs (i+j - 1 - k))/\(k<i\/j<=k->rkAt rk (mirror xs i j ((j - i) / 2)) k=rkAt rk xs k):=by
 have e:=getElem?_mirror_all (i:=i) hj k;refine⟨fun h1 h2=>?_,fun h=>?_⟩
 ·rw[if_pos ⟨h1,h2⟩]at e;exact QY e
 ·rw[if_neg (by lia)]at e;exact QY e
structure Sb(kd:SortKind)(a0:Array Keyed)(z:SortSt):Prop where
 pm:(arrOf z).Perm a0
 kn:kindOf z=kd
 fl:failedOf z=none
 pe:pendingOf z=#[]
def Up(rk:Value->Int)(xs:Array Keyed)(m:Nat):Prop:=∀i j,i<j->j<m->rkAt rk xs i<=rkAt rk xs j
section
variable{prog:Program}{w:World}{A:Around}{E:qV}{s:Shared}{kd:SortKind}{rk:Value->Int}{a0:Array Keyed}
def Cmp(prog:Program)(w:World)(A:Around)(s:Shared)(kd:SortKind)(rk:Value->Int)(a0:Array Keyed):Prop :=
 ∀(p q:Keyed) (E:qV) (Q:Bool->Shared->Prop),p∈a0.toList->q∈a0.toList->Q (decide (rk p.1<rk q.1)) s->wpAny (model prog w) A (keyLt' kd p.1 q.1) Q E s
theorem Sb.sz{z:SortSt}(b:Sb kd a0 z):(arrOf z).size=a0.size:=b.pm.size_eq
end
section
variable{prog:Program}{w:World}{A:Around}{E:qV}{s:Shared}{kd:SortKind}{rk:Value->Int}{a0:Array Keyed}
theorem Qw{xs:Array Keyed}{i j:Nat}(hj:j<=xs.size)(al:∀k,i<=k->k<j->rkAt rk xs k=rkAt rk xs (j - 1))(k:Nat):rkAt rk (mirror xs i j ((j - i) / 2)) k=rkAt rk xs k:=by
 obtain⟨p,q⟩:=Uw (rk:=rk) (i:=i) hj k
 by_cases g:i<=k/\k<j
 ·rw[p g.1 g.2,al _ (by omega) (by omega),al k g.1 g.2]
 ·exact q (by omega)
end
def zef:Bool->Keyed->Array Keyed->Nat->Nat->Nat->StateT SortSt Sem (Option Nat):=sortPriv% PySem.Builtin.gallop
section
variable{prog:Program}{w:World}{A:Around}{E:qV}{s:Shared}{kd:SortKind}{rk:Value->Int}{a0:Array Keyed}
theorem Q1{z:SortSt}{p q:Keyed}{Q:Option Bool->SortSt->Prop}(c:Cmp prog w A s kd rk a0)(k:kindOf z=kd)(hp:p∈a0.toList)(hq:q∈a0.toList)
  (h:Q (some (decide (rk p.1<rk q.1))) z):wpS (model prog w) A E s (lt' p q) Q z:=by
 rw[lt'_eq];refine wpS_bind (wpS_get (wpS_bind (wpS_lift (wpAny_attempt ?_))));rw[k];exact c p q _ _ hp hq ⟨rfl,wpS_pure h⟩
def bey(rk:Value->Int)(left:Bool)(key:Keyed)(arr:Array Keyed)(base i:Nat):Bool:=if left then decide (rkAt rk arr (base+i)<rk key.1) else !decide (rk key.1<rkAt rk arr (base+i))
theorem QZ{left:Bool}{key:Keyed}{arr:Array Keyed}{base n hint:Nat}{z:SortSt}{Q:Option Nat->SortSt->Prop}(c:Cmp prog w A s kd rk a0)(k:kindOf z=kd)(hk:key∈a0.toList)
  (ha:∀i,i<n->∃p,arr[base+i]?=some p/\p∈a0.toList) (hn:hint<n) (up:∀i j,i<j->j<n->rkAt rk arr (base+i)<=rkAt rk arr (base+j))
  (h:∀m,m<=n->(∀i,i<m->bey rk left key arr base i=true)->(∀i,m<=i->i<n->bey rk left key arr base i=false)->Q (some m) z):wpS (model prog w) A E s (zef left key arr base n hint) Q z:=by
 have e_:zef=zef:=rfl
 conv at e_=>rhs;whnf
 rw[e_];dsimp only;clear e_;have by_:∀(i:Nat) (Q:Option Bool->SortSt->Prop),i<n->Q (some (bey rk left key arr base i)) z->wpS (model prog w) A E s (do
   let x <- elem' arr (base+i)
   if left then lt' x key else return (<- lt' key x).map (!·)) Q z:=by
  intro i Q hi hq;obtain⟨p,ep,mp⟩:=ha i hi;have r:rkAt rk arr (base+i)=rk p.1:=by unfold rkAt;rw[ep];rfl
  simp only[elem'_eq,ep,pure_bind];unfold bey at hq;rw[r]at hq;cases left with
  | true=>exact Q1 c k mp hk (by simpa using hq)
  | false =>
   refine wpS_bind (Q1 c k hk mp ?_);exact wpS_pure (by simpa using hq)
 have mono:∀i j,i<=j->j<n->bey rk left key arr base j=true->bey rk left key arr base i=true:=by
  intro i j hij hj hb;rcases Nat.eq_or_lt_of_le hij with rfl|hlt
  ·exact hb
  ·have:=up i j hlt hj;unfold bey at *;cases left <;> simp at * <;> omega
 refine wpS_bind (by_ hint _ hn ?_);dsimp only;cases hr:bey rk left key arr base hint with
 | true =>
  rw[if_pos rfl];refine wpS_bind (wpS_mono (wpS_forRange (I:=fun x c z'=>z'=z/\∃l r,c=(none,l,r)/\l<r/\x<r/\hint+l<n/\bey rk left key arr base (hint+l)=true)
   (Q:=fun c z'=>z'=z/\∃l r,c=(none,l,r)/\l<r/\hint+l<n/\bey rk left key arr base (hint+l)=true/\(n - hint<=r\/(hint+r<n/\bey rk left key arr base (hint+r)=false))) ?turn ?last ⟨rfl,0,1,rfl,by omega,by omega,by omega,hr⟩) ?post)
  case post =>
   rintro c z' ⟨rfl,l,r,rfl,h1,h2,h3,h4⟩;dsimp only;have b1:∀i,i<hint+l+1->bey rk left key arr base i=true:=fun i hi=>mono i (hint+l) (by omega) h2 h3
   have b2:∀i,hint+min r (n - hint)<=i->i<n->bey rk left key arr base i=false:=fun i hi hi'=>by
    rcases h4 with h4|⟨h4,h5⟩
    ·omega
    ·cases hb':bey rk left key arr base i with
     | false=>rfl
     | true=>rw[mono (hint+r) i (by omega) hi' hb']at h5;cases h5
   refine wpS_bind (wpS_mono (wpS_forRange (I:=fun x c z''=>z''=z'/\∃l r,c=(none,l,r)/\l<=r/\r<=n/\r - l<=n - x/\(∀i,i<l->bey rk left key arr base i=true)/\(∀i,r<=i->i<n->bey rk left key arr base i=false))
    (Q:=fun c z''=>z''=z'/\∃r,c=(none,r,r)/\r<=n/\(∀i,i<r->bey rk left key arr base i=true)/\(∀i,r<=i->i<n->bey rk left key arr base i=false)) ?turn2 ?last2 ⟨rfl,hint+l+1,hint+min r (n - hint),rfl,by omega,by omega,by omega,b1,b2⟩) ?post2)
   case post2 =>
    rintro c z'' ⟨rfl,r,rfl,q1,q2,q3⟩;exact wpS_pure (h r q1 q2 q3)
   case last2 =>
    rintro c z'' ⟨rfl,l,r,rfl,h1,h2,h3,h4,h5⟩;have:l=r:=by omega
    subst this;exact⟨rfl,l,rfl,h2,h4,h5⟩
   case turn2 =>
    rintro x c z'' _ hx ⟨rfl,l,r,rfl,h1,h2,h3,h4,h5⟩;dsimp only
    by_cases hge:l>=r
    ·rw[if_pos hge];have:l=r:=by omega
     subst this;exact wpS_pure ⟨rfl,l,rfl,h2,h4,h5⟩
    ·rw[if_neg hge];refine wpS_bind (by_ _ _ (by omega) ?_)
     dsimp only;cases hb:bey rk left key arr base (l+(r - l) / 2) with
     | true =>
      rw[if_pos rfl];exact wpS_pure ⟨rfl,_,_,rfl,by omega,h2,by omega,fun i hi=>mono i _ (by omega) (by omega) hb,h5⟩
     | false =>
      rw[if_neg (by simp)]
      refine wpS_pure ⟨rfl,_,_,rfl,by omega,by omega,by omega,h4,fun i hi hi'=>?_⟩
      cases hb':bey rk left key arr base i with
      | false=>rfl
      | true=>rw[mono _ i hi hi' hb']at hb;cases hb
  case last =>
   rintro c z' ⟨rfl,l,r,rfl,h1,h2,h3,h4⟩;exact⟨rfl,l,r,rfl,h1,h3,h4,.inl (by omega)⟩
  case turn =>
   rintro x c z' _ hx ⟨rfl,l,r,rfl,h1,h2,h3,h4⟩;dsimp only
   by_cases hge:r>=n - hint
   ·rw[if_pos hge];exact wpS_pure ⟨rfl,l,r,rfl,h1,h3,h4,.inl hge⟩
   ·rw[if_neg hge];refine wpS_bind (by_ _ _ (by omega) ?_)
    dsimp only;cases hb:bey rk left key arr base (hint+r) with
    | true =>
     rw[if_neg (by simp)]
     exact wpS_pure ⟨rfl,r,_,rfl,by omega,by omega,by omega,hb⟩
    | false =>
     rw[if_pos (by simp)]
     exact wpS_pure ⟨rfl,l,r,rfl,h1,h3,h4,.inr ⟨by omega,hb⟩⟩
 | false =>
  rw[if_neg (by simp)]
  refine wpS_bind (wpS_mono (wpS_forRange (I:=fun x c z'=>z'=z/\∃l r,c=(none,l,r)/\l<r/\x<r/\l<=hint/\bey rk left key arr base (hint - l)=false)
   (Q:=fun c z'=>z'=z/\∃l r,c=(none,l,r)/\l<r/\l<=hint/\bey rk left key arr base (hint - l)=false/\(hint+1<=r\/(r<=hint/\bey rk left key arr base (hint - r)=true))) ?turn ?last ⟨rfl,0,1,rfl,by omega,by omega,by omega,hr⟩) ?post)
  case post =>
   rintro c z' ⟨rfl,l,r,rfl,h1,h2,h3,h4⟩;dsimp only;have b1:∀i,i<hint+1 - min r (hint+1)->bey rk left key arr base i=true:=fun i hi=>by
    rcases h4 with h4|⟨h4,h5⟩
    ·omega
    ·exact mono i (hint - r) (by omega) (by omega) h5
   have b2:∀i,hint - l<=i->i<n->bey rk left key arr base i=false:=fun i hi hi'=>by
    cases hb':bey rk left key arr base i with
    | false=>rfl
    | true=>rw[mono (hint - l) i (by omega) hi' hb']at h3;cases h3
   refine wpS_bind (wpS_mono (wpS_forRange (I:=fun x c z''=>z''=z'/\∃l r,c=(none,l,r)/\l<=r/\r<=n/\r - l<=n - x/\(∀i,i<l->bey rk left key arr base i=true)/\(∀i,r<=i->i<n->bey rk left key arr base i=false))
    (Q:=fun c z''=>z''=z'/\∃r,c=(none,r,r)/\r<=n/\(∀i,i<r->bey rk left key arr base i=true)/\(∀i,r<=i->i<n->bey rk left key arr base i=false)) ?turn2 ?last2 ⟨rfl,hint+1 - min r (hint+1),hint - l,rfl,by omega,by omega,by omega,b1,b2⟩) ?post2)
   case post2 =>
    rintro c z'' ⟨rfl,r,rfl,q1,q2,q3⟩;exact wpS_pure (h r q1 q2 q3)
   case last2 =>
    rintro c z'' ⟨rfl,l,r,rfl,h1,h2,h3,h4,h5⟩;have:l=r:=by omega
    subst this;exact⟨rfl,l,rfl,h2,h4,h5⟩
   case turn2 =>
    rintro x c z'' _ hx ⟨rfl,l,r,rfl,h1,h2,h3,h4,h5⟩;dsimp only
    by_cases hge:l>=r
    ·rw[if_pos hge];have:l=r:=by omega
     subst this;exact wpS_pure ⟨rfl,l,rfl,h2,h4,h5⟩
    ·rw[if_neg hge];refine wpS_bind (by_ _ _ (by omega) ?_)
     dsimp only;cases hb:bey rk left key arr base (l+(r - l) / 2) with
     | true =>
      rw[if_pos rfl];exact wpS_pure ⟨rfl,_,_,rfl,by omega,h2,by omega,fun i hi=>mono i _ (by omega) (by omega) hb,h5⟩
     | false =>
      rw[if_neg (by simp)]
      refine wpS_pure ⟨rfl,_,_,rfl,by omega,by omega,by omega,h4,fun i hi hi'=>?_⟩
      cases hb':bey rk left key arr base i with
      | false=>rfl
      | true=>rw[mono _ i hi hi' hb']at hb;cases hb
  case last =>
   rintro c z' ⟨rfl,l,r,rfl,h1,h2,h3,h4⟩;exact⟨rfl,l,r,rfl,h1,h3,h4,.inl (by omega)⟩
  case turn =>
   rintro x c z' _ hx ⟨rfl,l,r,rfl,h1,h2,h3,h4⟩;dsimp only
   by_cases hge:r>=hint+1
   ·rw[if_pos hge];exact wpS_pure ⟨rfl,l,r,rfl,h1,h3,h4,.inl hge⟩
   ·rw[if_neg hge];refine wpS_bind (by_ _ _ (by omega) ?_)
    dsimp only;cases hb:bey rk left key arr base (hint - r) with
    | true =>
     rw[if_pos rfl];exact wpS_pure ⟨rfl,l,r,rfl,h1,h3,h4,.inr ⟨by omega,hb⟩⟩
    | false =>
     rw[if_neg (by simp)]
     exact wpS_pure ⟨rfl,r,_,rfl,by omega,by omega,by omega,hb⟩
end
end L2
namespace L2
section
variable{α:Type}{r:α->Int}{a b out:List α}{ia ib na nb k:Nat}
theorem m1{x:α}{l m:List α}(h:x∈l):x∈l++m:=List.mem_append.mpr (.inl h)
theorem m2{x:α}{l m:List α}(h:x∈m):x∈l++m:=List.mem_append.mpr (.inr h)
def Ris(r:α->Int)(l:List α):Prop:=l.Pairwise fun x y=>r x<=r y
structure MLo(r:α->Int)(a b out:List α)(ia ib:Nat):Prop where
 pm:(out++(a.drop ia++b.drop ib)).Perm (a++b)
 so:Ris r out
 le:∀x∈out,∀y∈a.drop ia++b.drop ib,r x<=r y
theorem Jv{l m:List α}:Ris r (l++m)↔Ris r l/\Ris r m/\∀x∈l,∀y∈m,r x<=r y:=List.pairwise_append
theorem Ris.drop{l:List α}(h:Ris r l)(k:Nat):Ris r (l.drop k):=List.Pairwise.sublist (List.drop_sublist k l) h
theorem Ris.take{l:List α}(h:Ris r l)(k:Nat):Ris r (l.take k):=List.Pairwise.sublist (List.take_sublist k l) h
theorem cut2(l:List α)(i k:Nat):l.drop i=(l.drop i).take k++l.drop (i+k):=by rw[<- List.drop_drop];exact(List.take_append_drop k _).symm
theorem MLo.takeB(h:MLo r a b out ia ib)(hb:Ris r b)(c:∀y∈(b.drop ib).take k,∀x∈a.drop ia,r y<=r x):MLo r a b (out++(b.drop ib).take k) ia (ib+k):=by
 have e:=cut2 b ib k;obtain⟨h1,h2,h3⟩:=h;have hs:=hb.drop ib;rw[e]at h1 h3 hs;have hs:=Jv.mp hs;refine⟨?_,Jv.mpr ⟨h2,hs.1,fun x hx y hy=>h3 x hx y (m2 (m1 hy))⟩,fun x hx y hy=>?_⟩
 ·refine List.Perm.trans ?_ h1;rw[List.append_assoc];exact List.Perm.append_left _ (List.perm_append_comm_assoc _ _ _)
 ·rcases List.mem_append.mp hx with z|z
  ·refine h3 x z y ?_;rcases List.mem_append.mp hy with w|w
   ·exact m1 w
   ·exact m2 (m2 w)
  ·rcases List.mem_append.mp hy with w|w
   ·exact c x z y w
   ·exact hs.2.2 x z y w
theorem MLo.takeA(h:MLo r a b out ia ib)(ha:Ris r a)(c:∀x∈(a.drop ia).take k,∀y∈b.drop ib,r x<=r y):MLo r a b (out++(a.drop ia).take k) (ia+k) ib:=by
 have e:=cut2 a ia k;obtain⟨h1,h2,h3⟩:=h;have hs:=ha.drop ia;rw[e]at h1 h3 hs;have hs:=Jv.mp hs;refine⟨?_,Jv.mpr ⟨h2,hs.1,fun x hx y hy=>h3 x hx y (m1 (m1 hy))⟩,fun x hx y hy=>?_⟩
 ·refine List.Perm.trans ?_ h1;simp only[List.append_assoc];exact List.Perm.refl _
 ·rcases List.mem_append.mp hx with z|z
  ·refine h3 x z y ?_;rcases List.mem_append.mp hy with w|w
   ·exact m1 (m2 w)
   ·exact m2 w
  ·rcases List.mem_append.mp hy with w|w
   ·exact hs.2.2 x z y w
   ·exact c x z y w
theorem take1{l:List α}{i:Nat}{y:α}(h:l[i]?=some y):(l.drop i).take 1=[y]:=by
 have hi:=(List.getElem?_eq_some_iff.mp h).1;rw[List.drop_eq_getElem_cons hi];have:=(List.getElem?_eq_some_iff.mp h).2;simp[this]
theorem MLo.pushB{y:α}(h:MLo r a b out ia ib)(hb:Ris r b)(e:b[ib]?=some y)(c:∀x∈a.drop ia,r y<=r x):MLo r a b (out++[y]) ia (ib+1):=by
 have:=h.takeB (k:=1) hb (by rw[take1 e];intro z hz x hx;cases List.mem_singleton.mp hz;exact c x hx)
 rwa [take1 e]at this
theorem MLo.pushA{x:α}(h:MLo r a b out ia ib)(ha:Ris r a)(e:a[ia]?=some x)(c:∀y∈b.drop ib,r x<=r y):MLo r a b (out++[x]) (ia+1) ib:=by
 have:=h.takeA (k:=1) ha (by rw[take1 e];intro z hz y hy;cases List.mem_singleton.mp hz;exact c y hy)
 rwa [take1 e]at this
theorem MLo.done(h:MLo r a b out ia ib)(ha:Ris r a)(hb:Ris r b)(c:∀x∈a.drop ia,∀y∈b.drop ib,r x<=r y):(out++a.drop ia++b.drop ib).Perm (a++b)/\Ris r (out++a.drop ia++b.drop ib):=by
 refine⟨by rw[List.append_assoc];exact h.pm,?_⟩
 rw[List.append_assoc];exact Jv.mpr ⟨h.so,Jv.mpr ⟨ha.drop _,hb.drop _,c⟩,h.le⟩
theorem MLo.last(h:MLo r a b out ia ib)(ha:Ris r a)(hb:Ris r b)(c:∀y∈b.drop ib,∀x∈a.drop ia,r y<=r x):(out++b.drop ib++a.drop ia).Perm (a++b)/\Ris r (out++b.drop ib++a.drop ia):=by
 refine⟨?_,?_⟩
 ·rw[List.append_assoc];exact(List.Perm.append_left _ List.perm_append_comm).trans h.pm
 ·rw[List.append_assoc];refine Jv.mpr ⟨h.so,Jv.mpr ⟨hb.drop _,ha.drop _,c⟩,fun x hx y hy=>h.le x hx y ?_⟩
  rcases List.mem_append.mp hy with w|w
  ·exact m2 w
  ·exact m1 w
structure MHi(r:α->Int)(a b out:List α)(na nb:Nat):Prop where
 pm:((a.take na++b.take nb)++out).Perm (a++b)
 so:Ris r out
 le:∀x∈a.take na++b.take nb,∀y∈out,r x<=r y
theorem cut3(l:List α){n k:Nat}(h:k<=n):l.take n=l.take k++(l.take n).drop k:=by
 have:=List.take_append_drop k (l.take n);rw[List.take_take,Nat.min_eq_left h]at this;exact this.symm
theorem MHi.takeB(h:MHi r a b out na nb)(hb:Ris r b)(hk:k<=nb)(c:∀x∈a.take na,∀y∈(b.take nb).drop k,r x<=r y):MHi r a b ((b.take nb).drop k++out) na k:=by
 have e:=cut3 b hk;obtain⟨h1,h2,h3⟩:=h;have hs:=hb.take nb;rw[e]at h1 h3 hs;have hs:=Jv.mp hs;refine⟨?_,Jv.mpr ⟨hs.2.1,h2,fun x hx y hy=>h3 x (m2 (m2 hx)) y hy⟩,fun x hx y hy=>?_⟩
 ·refine List.Perm.trans ?_ h1;simp only[List.append_assoc];exact List.Perm.refl _
 ·rcases List.mem_append.mp hy with z|z
  ·rcases List.mem_append.mp hx with w|w
   ·exact c x w y z
   ·exact hs.2.2 x w y z
  ·refine h3 x ?_ y z;rcases List.mem_append.mp hx with w|w
   ·exact m1 w
   ·exact m2 (m1 w)
theorem MHi.takeA(h:MHi r a b out na nb)(ha:Ris r a)(hk:k<=na)(c:∀x∈b.take nb,∀y∈(a.take na).drop k,r x<=r y):MHi r a b ((a.take na).drop k++out) k nb:=by
 have e:=cut3 a hk;obtain⟨h1,h2,h3⟩:=h;have hs:=ha.take na;rw[e]at h1 h3 hs;have hs:=Jv.mp hs;refine⟨?_,Jv.mpr ⟨hs.2.1,h2,fun x hx y hy=>h3 x (m1 (m2 hx)) y hy⟩,fun x hx y hy=>?_⟩
 ·refine List.Perm.trans ?_ h1;simp only[List.append_assoc];exact List.Perm.append_left _ (List.perm_append_comm_assoc _ _ _)
 ·rcases List.mem_append.mp hy with z|z
  ·rcases List.mem_append.mp hx with w|w
   ·exact hs.2.2 x w y z
   ·exact c x w y z
  ·refine h3 x ?_ y z;rcases List.mem_append.mp hx with w|w
   ·exact m1 (m1 w)
   ·exact m2 w
theorem Ql{l:List α}{n:Nat}{y:α}(h:l[n]?=some y):(l.take (n+1)).drop n=[y]:=by
 have hi:=(List.getElem?_eq_some_iff.mp h).1;have e:(l.take (n+1))=l.take n++[y]:=by rw[List.take_succ,h];rfl
 rw[e,List.drop_append_of_le_length (by simp;omega),List.drop_of_length_le (by simp;omega)]
 rfl
theorem MHi.pushB{y:α}(h:MHi r a b out na (nb+1))(hb:Ris r b)(e:b[nb]?=some y)(c:∀x∈a.take na,r x<=r y):MHi r a b (y::out) na nb:=by
 have:=h.takeB (k:=nb) hb (by omega) (by rw[Ql e];intro x hx z hz;cases List.mem_singleton.mp hz;exact c x hx)
 rwa [Ql e]at this
theorem MHi.pushA{x:α}(h:MHi r a b out (na+1) nb)(ha:Ris r a)(e:a[na]?=some x)(c:∀y∈b.take nb,r y<=r x):MHi r a b (x::out) na nb:=by
 have:=h.takeA (k:=na) ha (by omega) (by rw[Ql e];intro y hy z hz;cases List.mem_singleton.mp hz;exact c y hy)
 rwa [Ql e]at this
theorem MHi.done(h:MHi r a b out na nb)(ha:Ris r a)(hb:Ris r b)(c:∀x∈a.take na,∀y∈b.take nb,r x<=r y):(a.take na++b.take nb++out).Perm (a++b)/\Ris r (a.take na++b.take nb++out) :=
 ⟨h.pm,Jv.mpr ⟨Jv.mpr ⟨ha.take _,hb.take _,c⟩,h.so,h.le⟩⟩
theorem MHi.first(h:MHi r a b out na nb)(ha:Ris r a)(hb:Ris r b)(c:∀y∈b.take nb,∀x∈a.take na,r y<=r x):(b.take nb++a.take na++out).Perm (a++b)/\Ris r (b.take nb++a.take na++out):=by
 refine⟨(List.Perm.append_right _ List.perm_append_comm).trans h.pm,Jv.mpr ⟨Jv.mpr ⟨hb.take _,ha.take _,c⟩,h.so,fun x hx y hy=>h.le x ?_ y hy⟩⟩
 rcases List.mem_append.mp hx with w|w
 ·exact m2 w
 ·exact m1 w
end
section
open PySem PySem.Spec PyProof.Rows
theorem ex4{α0:Type}{α1:Type}{α2:Type}{α3:Type}{A R:Prop}{X:α0->α1->α2->α3->Prop}(h:A/\∃x0 x1 x2 x3,X x0 x1 x2 x3)(k:A->∀x0 x1 x2 x3,X x0 x1 x2 x3->R):R:=by
 obtain⟨a,x0,x1,x2,x3,x⟩:=h;exact k a x0 x1 x2 x3 x
theorem ex5{α0:Type}{α1:Type}{α2:Type}{α3:Type}{α4:Type}{A R:Prop}{X:α0->α1->α2->α3->α4->Prop}(h:A/\∃x0 x1 x2 x3 x4,X x0 x1 x2 x3 x4)(k:A->∀x0 x1 x2 x3 x4,X x0 x1 x2 x3 x4->R):R:=by
 obtain⟨a,x0,x1,x2,x3,x4,x⟩:=h;exact k a x0 x1 x2 x3 x4 x
theorem eo5{α0:Type}{α1:Type}{α2:Type}{α3:Type}{α4:Type}{β γ:Type}{A R:Prop}{X:α0->α1->α2->α3->α4->Prop}{Y:β->γ->Prop}(h:A/\((∃x0 x1 x2 x3 x4,X x0 x1 x2 x3 x4)\/∃m r,Y m r))(k:A->∀x0 x1 x2 x3 x4,X x0 x1 x2 x3 x4->R)(k2:A->∀m r,Y m r->R):R:=by
 obtain⟨a,⟨x0,x1,x2,x3,x4,x⟩|⟨m,r,y⟩⟩:=h
 ·exact k a x0 x1 x2 x3 x4 x
 ·exact k2 a m r y
theorem ex6{α0:Type}{α1:Type}{α2:Type}{α3:Type}{α4:Type}{α5:Type}{A R:Prop}{X:α0->α1->α2->α3->α4->α5->Prop}(h:A/\∃x0 x1 x2 x3 x4 x5,X x0 x1 x2 x3 x4 x5)(k:A->∀x0 x1 x2 x3 x4 x5,X x0 x1 x2 x3 x4 x5->R):R:=by
 obtain⟨a,x0,x1,x2,x3,x4,x5,x⟩:=h;exact k a x0 x1 x2 x3 x4 x5 x
theorem eo6{α0:Type}{α1:Type}{α2:Type}{α3:Type}{α4:Type}{α5:Type}{β γ:Type}{A R:Prop}{X:α0->α1->α2->α3->α4->α5->Prop}{Y:β->γ->Prop}(h:A/\((∃x0 x1 x2 x3 x4 x5,X x0 x1 x2 x3 x4 x5)\/∃m r,Y m r))(k:A->∀x0 x1 x2 x3 x4 x5,X x0 x1 x2 x3 x4 x5->R)(k2:A->∀m r,Y m r->R):R:=by
 obtain⟨a,⟨x0,x1,x2,x3,x4,x5,x⟩|⟨m,r,y⟩⟩:=h
 ·exact k a x0 x1 x2 x3 x4 x5 x
 ·exact k2 a m r y
theorem Jr{M:Model}{A:Around}{E:qV}{s:Shared}{σ α:Type}{c:Prop}{_:Decidable c}{t e:StateT σ Sem α}{Q:α->σ->Prop}{z:σ}(h1:c->wpS M A E s t Q z)(h2:¬c->wpS M A E s e Q z):wpS M A E s (if c then t else e) Q z:=by
 by_cases h:c
 ·rw[if_pos h];exact h1 h
 ·rw[if_neg h];exact h2 h
theorem zh0{M:Model}{A:Around}{E:qV}{s:Shared}{σ α β:Type}{c:β->Prop}{_:∀o,Decidable (c o)}{t F:β->StateT σ Sem α}{Q:α->σ->Prop}{z:σ}(o1:β)(P:β->Prop)
  (hF:∀o,P o->wpS M A E s (F o) Q z) (h1:c o1->(∀o,P o->wpS M A E s (F o) Q z)->wpS M A E s (t o1) Q z) (h2:¬c o1->P o1):∀o,o1=o->wpS M A E s (if c o then t o else F o) Q z:=by
 rintro o rfl;exact Jr (fun h=>h1 h hF) (fun h=>hF _ (h2 h))
theorem Uz{M:Model}{A:Around}{E:qV}{s:Shared}{σ α β γ:Type}{c:β->γ->Prop}{_:∀o i,Decidable (c o i)}{t F:β->γ->StateT σ Sem α}{Q:α->σ->Prop}{z:σ}(o1:β)(i1:γ)(P:β->γ->Prop)
  (hF:∀o i,P o i->wpS M A E s (F o i) Q z) (h1:c o1 i1->(∀o i,P o i->wpS M A E s (F o i) Q z)->wpS M A E s (t o1 i1) Q z) (h2:¬c o1 i1->P o1 i1):∀o,o1=o->∀i,i1=i->wpS M A E s (if c o i then t o i else F o i) Q z:=by
 rintro o rfl i rfl;exact Jr (fun h=>h1 h hF) (fun h=>hF _ _ (h2 h))
end
end L2
namespace L2
open PySem PySem.Spec PyProof.Rows
def zc5:Array Keyed->Array Keyed->StateT SortSt Sem (Array Keyed):=sortPriv% PySem.Builtin.mergeLo
def zbf:Nat->StateT SortSt Sem Unit:=sortPriv% PySem.Builtin.setMinGallop
section
variable{prog:Program}{w:World}{A:Around}{E:qV}{s:Shared}{kd:SortKind}{rk:Value->Int}{a0:Array Keyed}
structure SmS(z z':SortSt):Prop where
 kn:kindOf z'=kindOf z
 ar:arrOf z'=arrOf z
 pe:pendingOf z'=pendingOf z
 fl:failedOf z'=failedOf z
theorem SmS.refl(z:SortSt):SmS z z:=⟨rfl,rfl,rfl,rfl⟩
theorem SmS.trans{x y z:SortSt}(h:SmS x y)(k:SmS y z):SmS x z:=⟨k.kn.trans h.kn,k.ar.trans h.ar,k.pe.trans h.pe,k.fl.trans h.fl⟩
theorem UU{g:Nat}{z:SortSt}{Q:Unit->SortSt->Prop}(h:∀z',SmS z z'->Q () z'):wpS (model prog w) A E s (zbf g) Q z:=by
 have e_:zbf=zbf:=rfl
 conv at e_=>rhs;whnf
 rw[e_];dsimp only;clear e_;exact wpS_modify (h _ ⟨rfl,rfl,rfl,rfl⟩)
theorem Jy{x:Array Keyed}{i:Nat}{p:Keyed}{z:SortSt}{Q:Keyed->SortSt->Prop}(e:x[i]?=some p)(h:Q p z):wpS (model prog w) A E s (elem' x i) Q z:=by
 rw[elem'_eq,e];exact wpS_pure h
abbrev rkP(rk:Value->Int)(p:Keyed):Int:=rk p.1
theorem UX{x:Array Keyed}{i:Nat}:(x.extract i x.size).toList=x.toList.drop i:=by
 rw[Array.toList_extract];exact List.take_of_length_le (by simp)
theorem UY{x:Array Keyed}{i k:Nat}:(x.extract i (i+k)).toList=(x.toList.drop i).take k:=by simp
theorem zgc{l:List Keyed}{i k:Nat}{x:Keyed}(h:x∈(l.drop i).take k):∃j,j<k/\l[i+j]?=some x:=by
 obtain⟨j,hj,e⟩:=List.mem_take_iff_getElem.mp h;refine⟨j,by omega,?_⟩
 have:=List.getElem?_eq_getElem (l:=l.drop i) (i:=j) (by omega)
 rw[List.getElem?_drop,e]at this;exact this
theorem zea{l:List Keyed}{i:Nat}{x:Keyed}(h:x∈l.drop i):∃j,i+j<l.length/\l[i+j]?=some x:=by
 obtain⟨j,hj,e⟩:=List.getElem_of_mem h;have:=List.getElem?_eq_getElem hj;rw[List.getElem?_drop,e]at this;exact⟨j,by simp at hj;omega,this⟩
theorem JD{x:Array Keyed}{i:Nat}{p:Keyed}(h:x.toList[i]?=some p):rkAt rk x i=rkP rk p:=by
 unfold rkAt;rw[Array.getElem?_toList]at h;rw[h];rfl
theorem Ur{x:Array Keyed}(h:Ris (rkP rk) x.toList){i j:Nat}(hij:i<j)(hj:j<x.size):rkAt rk x i<=rkAt rk x j:=by
 have hi:i<x.toList.length:=by simp;omega
 have hj':j<x.toList.length:=by simpa using hj
 rw[JD (List.getElem?_eq_getElem hi),JD (List.getElem?_eq_getElem hj')];exact List.pairwise_iff_getElem.mp h i j hi hj' hij
theorem zfk{a b:Array Keyed}{z:SortSt}{Q:Array Keyed->SortSt->Prop}(c0:Cmp prog w A s kd rk a0)(k:kindOf z=kd)(ha:∀p∈a.toList,p∈a0.toList)(hb:∀p∈b.toList,p∈a0.toList)
  (sa:Ris (rkP rk) a.toList) (sb:Ris (rkP rk) b.toList) (na:0<a.size) (nb:0<b.size) (f1:∀y,b.toList[0]?=some y->∀x∈a.toList,rkP rk y<=rkP rk x)
  (f2:∀x,a.toList[a.size - 1]?=some x->∀y∈b.toList,rkP rk y<=rkP rk x)
  (h:∀m z',m.toList.Perm (a.toList++b.toList)->Ris (rkP rk) m.toList->SmS z z'->Q m z'):wpS (model prog w) A E s (zc5 a b) Q z:=by
 have e_:zc5=zc5:=rfl
 conv at e_=>rhs;whnf
 rw[e_];clear e_;have gb:∀i,i<b.size->∃p,b[i]?=some p/\b.toList[i]?=some p/\p∈a0.toList:=fun i hi=>⟨b[i],Array.getElem?_eq_getElem hi,by simp[hi],hb _ (by simp)⟩
 have ga:∀i,i<a.size->∃p,a[i]?=some p/\a.toList[i]?=some p/\p∈a0.toList:=fun i hi=>⟨a[i],Array.getElem?_eq_getElem hi,by simp[hi],ha _ (by simp)⟩
 have gaA:∀u i,i<a.size - u->∃p,a[u+i]?=some p/\p∈a0.toList:=fun u i hi=>by
  obtain⟨p,e,_,m⟩:=ga (u+i) (by omega)
  exact⟨p,e,m⟩
 have gbA:∀u i,i<b.size - u->∃p,b[u+i]?=some p/\p∈a0.toList:=fun u i hi=>by
  obtain⟨p,e,_,m⟩:=gb (u+i) (by omega)
  exact⟨p,e,m⟩
 have upA:∀u i j,i<j->j<a.size - u->rkAt rk a (u+i)<=rkAt rk a (u+j):=fun u i j hij hj=>Ur sa (by omega) (by omega)
 have upB:∀u i j,i<j->j<b.size - u->rkAt rk b (u+i)<=rkAt rk b (u+j):=fun u i j hij hj=>Ur sb (by omega) (by omega)
 have dropB:∀i p,b.toList[i]?=some p->∀y∈b.toList.drop i,rkP rk p<=rkP rk y:=fun i p lp y hy=>by
  have e:=cut2 b.toList i 1;rw[take1 lp]at e;have:=sb.drop i;rw[e]at this hy;rcases List.mem_append.mp hy with z|z
  ·cases List.mem_singleton.mp z;exact Int.le_refl _
  ·exact(Jv.mp this).2.2 p (by simp) y z
 have dropA:∀i p,a.toList[i]?=some p->∀y∈a.toList.drop i,rkP rk p<=rkP rk y:=fun i p lp y hy=>by
  have e:=cut2 a.toList i 1;rw[take1 lp]at e;have:=sa.drop i;rw[e]at this hy;rcases List.mem_append.mp hy with z|z
  ·cases List.mem_singleton.mp z;exact Int.le_refl _
  ·exact(Jv.mp this).2.2 p (by simp) y z
 obtain⟨b0,eb0,lb0,mb0⟩:=gb 0 nb;have M0:MLo (rkP rk) a.toList b.toList [b0] 0 1:=by
  have:MLo (rkP rk) a.toList b.toList [] 0 0:=⟨by simp,List.Pairwise.nil,fun x hx=>nomatch hx⟩
  have:=this.pushB sb lb0 (by simpa using f1 b0 lb0)
  simpa using this
 refine wpS_bind (wpS_lift (wpAny_rule ⟨rfl,?_⟩));refine wpS_bind (Jy eb0 ?_);have fin1:∀(out:Array Keyed) (ia ib:Nat) (z':SortSt),SmS z z'->MLo (rkP rk) a.toList b.toList out.toList ia ib->(ia=a.size\/ib=b.size)->(out++a.extract ia a.size++b.extract ib b.size).toList.Perm (a.toList++b.toList)/\Ris (rkP rk) (out++a.extract ia a.size++b.extract ib b.size).toList:=fun out ia ib z' S M e=>by
  rw[Array.toList_append,Array.toList_append,UX,UX];refine M.done sa sb fun x hx y hy=>?_
  rcases e with rfl|rfl
  ·rw[List.drop_of_length_le (by simp)]at hx;cases hx
  ·rw[List.drop_of_length_le (by simp)]at hy;cases hy
 have fin2:∀(out:Array Keyed) (ia ib:Nat) (z':SortSt),SmS z z'->MLo (rkP rk) a.toList b.toList out.toList ia ib->ia+1=a.size->(out++b.extract ib b.size++a.extract ia a.size).toList.Perm (a.toList++b.toList)/\Ris (rkP rk) (out++b.extract ib b.size++a.extract ia a.size).toList:=fun out ia ib z' S M e=>by
  rw[Array.toList_append,Array.toList_append,UX,UX];refine M.last sa sb fun y hy x hx=>?_
  obtain⟨p,ep,lp,mp⟩:=ga ia (by omega)
  have:x=p:=by
   have e1:=take1 lp;rw[List.take_of_length_le (by simp;omega)]at e1
   rw[e1]at hx;exact List.mem_singleton.mp hx
  subst this;exact f2 x (by rw[show a.size - 1=ia by omega];exact lp) y (List.mem_of_mem_drop hy)
 refine Jr (fun h1=>?_) (fun h1=>?_)
 ·have:=fin1 #[b0] 0 1 z (.refl z) (by simpa using M0) (.inr (by simpa using h1))
  exact wpS_pure (h _ z this.1 this.2 (.refl z))
 refine Jr (fun h2=>?_) (fun h2=>?_)
 ·have:=fin2 #[b0] 0 1 z (.refl z) (by simpa using M0) (by simpa using h2)
  exact wpS_pure (h _ z this.1 this.2 (.refl z))
 have h1:b.size≠1:=fun e=>h1 (by simp[e])
 have h2:a.size≠1:=fun e=>h2 (by simp[e])
 refine wpS_bind (wpS_get ?_);refine wpS_bind (wpS_mono (wpS_forRange (I:=fun X c z'=>SmS z z'/\∃out ia ib mg,c=(none,out,ia,ib,mg)/\MLo (rkP rk) a.toList b.toList (Array.toList out) ia ib/\ia+1<a.size/\ib<b.size/\X+1<=ia+ib)
  (Q:=fun c z'=>SmS z z'/\∃m rest,c=(some m,rest)/\(Array.toList m).Perm (a.toList++b.toList)/\Ris (rkP rk) (Array.toList m)) ?turn ?last ⟨.refl z,#[b0],0,1,_,rfl,by simpa using M0,by omega,by omega,by omega⟩) ?post)
 case post =>
  rintro c z' ⟨S,m,rest,rfl,q1,q2⟩;exact wpS_pure (h m z' q1 q2 S)
 case last =>
  intro c z' hI;refine ex4 hI fun S out ia ib mg q=>?_
  obtain rfl:=q.1;have M:=q.2.1;have l1:=q.2.2.1;have l2:=q.2.2.2.1;have l3:=q.2.2.2.2;omega
 case turn =>
  intro X c z' _ hX hI;refine ex4 hI fun S out ia ib mg q=>?_
  obtain rfl:=q.1;have M:=q.2.1;have l1:=q.2.2.1;have l2:=q.2.2.2.1;have l3:=q.2.2.2.2;have kz:kindOf z'=kd:=S.kn.trans k;refine wpS_bind (wpS_mono (wpS_forRange (I:=fun x c z''=>SmS z z''/\∃out ia ib ac bc,c=(none,out,ia,ib,ac,bc)/\MLo (rkP rk) a.toList b.toList (Array.toList out) ia ib/\ia+1<a.size/\ib<b.size/\X+1+x<=ia+ib)
   (Q:=fun c z''=>SmS z z''/\((∃out ia ib ac bc,c=(none,out,ia,ib,ac,bc)/\MLo (rkP rk) a.toList b.toList (Array.toList out) ia ib/\ia+1<a.size/\ib<b.size/\X+2<=ia+ib)\/∃m rest,c=(some m,rest)/\(Array.toList m).Perm (a.toList++b.toList)/\Ris (rkP rk) (Array.toList m))) ?turn1 ?Ql ⟨S,out,ia,ib,0,0,rfl,M,l1,l2,by omega⟩) ?post1)
  case Ql =>
   intro c z'' hI;refine ex5 hI fun S out ia ib ac bc q=>?_
   obtain rfl:=q.1;have M:=q.2.1;have l1:=q.2.2.1;have l2:=q.2.2.2.1;have l3:=q.2.2.2.2;exact⟨S,.inl ⟨out,ia,ib,ac,bc,rfl,M,l1,l2,by omega⟩⟩
  case turn1 =>
   intro x c z'' _ hx hI;refine ex5 hI fun S out ia ib ac bc q=>?_
   obtain rfl:=q.1;have M:=q.2.1;have l1:=q.2.2.1;have l2:=q.2.2.2.1;have l3:=q.2.2.2.2;have kz:kindOf z''=kd:=S.kn.trans k;dsimp only;obtain⟨p,ep,lp,mp⟩:=gb ib l2;obtain⟨q,eq,lq,mq⟩:=ga ia (by omega)
   have dB:∀y∈b.toList.drop ib,rkP rk p<=rkP rk y:=fun y hy=>by
    have e:=cut2 b.toList ib 1;rw[take1 lp]at e;have:=sb.drop ib;rw[e]at this hy;rcases List.mem_append.mp hy with z|z
    ·cases List.mem_singleton.mp z;exact Int.le_refl _
    ·exact(Jv.mp this).2.2 p (by simp) y z
   have dA:∀y∈a.toList.drop ia,rkP rk q<=rkP rk y:=fun y hy=>by
    have e:=cut2 a.toList ia 1;rw[take1 lq]at e;have:=sa.drop ia;rw[e]at this hy;rcases List.mem_append.mp hy with z|z
    ·cases List.mem_singleton.mp z;exact Int.le_refl _
    ·exact(Jv.mp this).2.2 q (by simp) y z
   refine wpS_bind (Jy ep (wpS_bind (Jy eq (wpS_bind (Q1 c0 kz mp mq ?_)))));dsimp only;cases hlt:decide (rk p.1<rk q.1) with
   | true =>
    rw[if_pos rfl];have hlt:=of_decide_eq_true hlt;have M':=M.pushB sb lp fun x hx=>Int.le_trans (Int.le_of_lt hlt) (dA x hx)
    refine wpS_bind (Jy ep ?_);refine Jr (fun e1=>?_) (fun e1=>?_)
    ·have:=fin1 (out.push p) ia (ib+1) z'' S (by simpa using M') (.inr (by simpa using e1))
     exact wpS_pure ⟨S,.inr ⟨_,_,rfl,this.1,this.2⟩⟩
    ·have e1:ib+1≠b.size:=fun e=>e1 (by simp[e])
     refine Jr (fun e2=>?_) (fun e2=>?_)
     ·exact wpS_pure ⟨S,.inl ⟨_,_,_,_,_,rfl,by simpa using M',l1,by omega,by omega⟩⟩
     ·exact wpS_pure ⟨S,_,_,_,_,_,rfl,by simpa using M',l1,by omega,by omega⟩
   | false =>
    rw[if_neg (by simp)]
    have hlt:=of_decide_eq_false hlt;have M':=M.pushA sa lq fun y hy=>Int.le_trans (Int.not_lt.mp hlt) (dB y hy)
    refine wpS_bind (Jy eq ?_);refine Jr (fun e1=>?_) (fun e1=>?_)
    ·have:=fin2 (out.push q) (ia+1) ib z'' S (by simpa using M') (by simpa using e1)
     exact wpS_pure ⟨S,.inr ⟨_,_,rfl,this.1,this.2⟩⟩
    ·have e1:ia+1+1≠a.size:=fun e=>e1 (by simp[e])
     refine Jr (fun e2=>?_) (fun e2=>?_)
     ·exact wpS_pure ⟨S,.inl ⟨_,_,_,_,_,rfl,by simpa using M',by omega,l2,by omega⟩⟩
     ·exact wpS_pure ⟨S,_,_,_,_,_,rfl,by simpa using M',by omega,l2,by omega⟩
  case post1 =>
   intro c z'' hI;refine eo5 hI (fun S out ia ib ac bc q=>?_) (fun S m rest q=>?_)
   ·obtain rfl:=q.1;have M:=q.2.1;have l1:=q.2.2.1;have l2:=q.2.2.2.1;have l3:=q.2.2.2.2;refine wpS_bind (wpS_lift (wpAny_rule ⟨rfl,?_⟩));refine wpS_bind (wpS_mono (wpS_forRange (I:=fun x c z''=>SmS z z''/\∃out ia ib mg ac bc,c=(none,out,ia,ib,mg,ac,bc)/\MLo (rkP rk) a.toList b.toList (Array.toList out) ia ib/\ia+1<a.size/\ib<b.size/\X+2<=ia+ib)
     (Q:=fun c z''=>SmS z z''/\((∃out ia ib mg ac bc,c=(none,out,ia,ib,mg,ac,bc)/\MLo (rkP rk) a.toList b.toList (Array.toList out) ia ib/\ia+1<a.size/\ib<b.size/\X+2<=ia+ib)\/∃m rest,c=(some m,rest)/\(Array.toList m).Perm (a.toList++b.toList)/\Ris (rkP rk) (Array.toList m))) ?turn2 ?last2 ⟨S,out,ia,ib,_,ac,bc,rfl,M,l1,l2,by omega⟩) ?post2)
    case last2 =>
     rintro c z'' ⟨S,r⟩;exact⟨S,.inl r⟩
    case post2 =>
     intro c z'' hI;refine eo6 hI (fun S out ia ib mg ac bc q=>?_) (fun S m rest q=>?_)
     ·obtain rfl:=q.1;have M:=q.2.1;have l1:=q.2.2.1;have l2:=q.2.2.2.1;have l3:=q.2.2.2.2;dsimp only;refine wpS_bind (UU fun z3 S3=>?_)
      exact wpS_pure ⟨S.trans S3,out,ia,ib,_,rfl,M,l1,l2,by omega⟩
     ·obtain rfl:=q.1;have q1:=q.2.1;have q2:=q.2.2;exact wpS_pure ⟨S,m,_,rfl,q1,q2⟩
    case turn2 =>
     intro x c z'' _ hx hI;refine ex6 hI fun S out ia ib mg ac bc q=>?_
     obtain rfl:=q.1;have M:=q.2.1;have l1:=q.2.2.1;have l2:=q.2.2.2.1;have l3:=q.2.2.2.2;obtain⟨p,ep,lp,mp⟩:=gb ib l2;have dB:=dropB ib p lp;dsimp only;generalize hg:mg=g0;revert g0;refine zh0 mg (fun _=>True) ?_ ?_ (fun _=>trivial)
     rotate_left
     ·exact fun _ hF=>hF _ trivial
     intro mg _;refine wpS_bind (UU fun z3 S3=>?_)
     have S':=S.trans S3;have kz:kindOf z3=kd:=S'.kn.trans k;refine wpS_bind (Jy ep (wpS_bind (QZ c0 kz mp (gaA ia) (by omega) (upA ia) fun k1 k1n k1t k1f=>?_)))
     dsimp only;have gA1:∀x∈(a.toList.drop ia).take k1,∀y∈b.toList.drop ib,rkP rk x<=rkP rk y:=fun x hx y hy=>by
      obtain⟨j,jk,ej⟩:=zgc hx;have:=k1t j jk;unfold bey at this;rw[if_neg (by simp),JD ej,Bool.not_eq_true',decide_eq_false_iff_not]at this
      exact Int.le_trans (Int.not_lt.mp this) (dB y hy)
     have gA2:∀x∈a.toList.drop (ia+k1),rkP rk p<=rkP rk x:=fun x hx=>by
      obtain⟨j,jl,ej⟩:=zea hx;have:=k1f (k1+j) (by omega) (by simp at jl;omega)
      unfold bey at this;rw[if_neg (by simp),show ia+(k1+j)=ia+k1+j by omega,JD ej,Bool.not_eq_false',decide_eq_true_iff]at this
      exact Int.le_of_lt this
     generalize ho:out=o0;generalize hi:ia=i0;revert i0;revert o0;refine Uz out ia (fun o i=>MLo (rkP rk) a.toList b.toList (Array.toList o) i ib/\i+1<a.size/\X+2<=i+ib/\∀x∈a.toList.drop i,rkP rk p<=rkP rk x) ?_ ?_ ?_
     rotate_left
     ·intro hk1 hF;have M2:=M.takeA (k:=k1) sa gA1;rw[<- UY,<- Array.toList_append]at M2;refine Jr (fun e0=>?_) (fun e0=>Jr (fun e1=>?_) (fun e1=>?_))
      ·have:=fin2 (out++a.extract ia (ia+k1)) (ia+k1) ib z3 S' M2 (by simpa using e0)
       exact wpS_pure ⟨S',.inr ⟨_,_,rfl,this.1,this.2⟩⟩
      ·have:=fin1 (out++a.extract ia (ia+k1)) (ia+k1) ib z3 S' M2 (.inl (by simpa using e1))
       exact wpS_pure ⟨S',.inr ⟨_,_,rfl,this.1,this.2⟩⟩
      ·have e0:ia+k1+1≠a.size:=fun e=>e0 (by simp[e])
       have e1:ia+k1≠a.size:=fun e=>e1 (by simp[e])
       exact hF _ _ ⟨M2,by omega,by omega,gA2⟩
     ·intro hk1;have hk0:k1=0:=by omega
      subst hk0;exact⟨M,l1,l3,gA2⟩
     intro o i ⟨M2,i1,i2,g⟩;have M3:=M2.pushB sb lp g;rw[<- Array.toList_push]at M3;refine wpS_bind (Jy ep ?_);refine Jr (fun e2=>?_) (fun e2=>?_)
     ·have:=fin1 (Array.push o p) i (ib+1) z3 S' M3 (.inr (by simpa using e2))
      exact wpS_pure ⟨S',.inr ⟨_,_,rfl,this.1,this.2⟩⟩
     have e2:ib+1≠b.size:=fun e=>e2 (by simp[e])
     obtain⟨q,eq,lq,mq⟩:=ga i (by omega)
     have dA:=dropA i q lq;refine wpS_bind (Jy eq (wpS_bind (QZ c0 kz mq (gbA (ib+1)) (by omega) (upB (ib+1)) fun k2 k2n k2t k2f=>?_)))
     dsimp only;have gB1:∀y∈(b.toList.drop (ib+1)).take k2,∀x∈a.toList.drop i,rkP rk y<=rkP rk x:=fun y hy x hx=>by
      obtain⟨j,jk,ej⟩:=zgc hy;have:=k2t j jk;unfold bey at this;rw[if_pos rfl,JD ej,decide_eq_true_iff]at this;exact Int.le_trans (Int.le_of_lt this) (dA x hx)
     have gB2:∀y∈b.toList.drop (ib+1+k2),rkP rk q<=rkP rk y:=fun y hy=>by
      obtain⟨j,jl,ej⟩:=zea hy;have:=k2f (k2+j) (by omega) (by simp at jl;omega)
      unfold bey at this;rw[if_pos rfl,show ib+1+(k2+j)=ib+1+k2+j by omega,JD ej,decide_eq_false_iff_not]at this
      exact Int.not_lt.mp this
     have l4:ib+1<b.size:=by omega
     have l5:X+2<=i+(ib+1):=by omega
     clear k2t k2f k1t k1f gA1 gA2 l3 M dB e2 l2;generalize Array.push o p=o2 at M3 ⊢;generalize ib+1=j2 at M3 gB1 gB2 l4 l5 k2n ⊢;generalize ho:o2=o0;generalize hi:j2=i0;revert i0;revert o0;refine Uz o2 j2 (fun o' j=>MLo (rkP rk) a.toList b.toList (Array.toList o') i j/\j<b.size/\X+2<=i+j/\∀y∈b.toList.drop j,rkP rk q<=rkP rk y) ?_ ?_ ?_
     rotate_left
     ·intro hk2 hF;have M4:=M3.takeB (k:=k2) sb gB1;rw[<- UY,<- Array.toList_append]at M4;refine Jr (fun e3=>?_) (fun e3=>?_)
      ·have:=fin1 (o2++b.extract j2 (j2+k2)) i (j2+k2) z3 S' M4 (.inr (by simpa using e3))
       exact wpS_pure ⟨S',.inr ⟨_,_,rfl,this.1,this.2⟩⟩
      ·have e3:j2+k2≠b.size:=fun e=>e3 (by simp[e])
       exact hF _ _ ⟨M4,by omega,by omega,gB2⟩
     ·intro hk2;have hk0:k2=0:=by omega
      subst hk0;exact⟨M3,l4,l5,gB2⟩
     intro o3 j ⟨M4,j1,j3,g'⟩;have M5:=M4.pushA sa lq g';rw[<- Array.toList_push]at M5;refine wpS_bind (Jy eq ?_);refine Jr (fun e4=>?_) (fun e4=>?_)
     ·have:=fin2 (Array.push o3 q) (i+1) j z3 S' M5 (by simpa using e4)
      exact wpS_pure ⟨S',.inr ⟨_,_,rfl,this.1,this.2⟩⟩
     have e4:i+1+1≠a.size:=fun e=>e4 (by simp[e])
     split
     ·exact wpS_pure ⟨S',.inl ⟨_,_,_,_,_,_,rfl,M5,by omega,by omega,by omega⟩⟩
     ·exact wpS_pure ⟨S',_,_,_,_,_,_,rfl,M5,by omega,by omega,by omega⟩
   ·obtain rfl:=q.1;have q1:=q.2.1;have q2:=q.2.2;exact wpS_pure ⟨S,m,_,rfl,q1,q2⟩
end
def zc6:Array Keyed->Array Keyed->StateT SortSt Sem (Array Keyed):=sortPriv% PySem.Builtin.mergeHi
section
variable{prog:Program}{w:World}{A:Around}{E:qV}{s:Shared}{kd:SortKind}{rk:Value->Int}{a0:Array Keyed}
theorem UE{x:Array Keyed}{k:Nat}:(x.extract 0 k).toList=x.toList.take k:=by simp
theorem UD{x:Array Keyed}{i k:Nat}:(x.extract i k).toList=(x.toList.take k).drop i:=by
 rw[Array.toList_extract,List.drop_take]
theorem zic{l:List Keyed}{n:Nat}{x:Keyed}(h:x∈l.take n):∃j,j<n/\l[j]?=some x:=by
 obtain⟨j,hj,e⟩:=List.mem_take_iff_getElem.mp h;exact⟨j,by omega,by rw[List.getElem?_eq_getElem (by omega),e]⟩
theorem zgb{l:List Keyed}{n i:Nat}{x:Keyed}(h:x∈(l.take n).drop i):∃j,i<=j/\j<n/\l[j]?=some x:=by
 obtain⟨j,hj,e⟩:=zea h;rw[List.length_take]at hj;rw[List.getElem?_take_of_lt (by omega)]at e
 exact⟨i+j,by omega,by omega,e⟩
theorem MHi.pushB'{r:Keyed->Int}{a b out:List Keyed}{na nb:Nat}{y:Keyed}(h:MHi r a b out na nb)(hb:Ris r b)(p:1<=nb)(e:b[nb - 1]?=some y)(c:∀x∈a.take na,r x<=r y):MHi r a b (y::out) na (nb - 1):=by
 obtain⟨m,rfl⟩:∃m,nb=m+1:=⟨nb - 1,by omega⟩
 exact h.pushB hb e c
theorem MHi.pushA'{r:Keyed->Int}{a b out:List Keyed}{na nb:Nat}{x:Keyed}(h:MHi r a b out na nb)(ha:Ris r a)(p:1<=na)(e:a[na - 1]?=some x)(c:∀y∈b.take nb,r y<=r x):MHi r a b (x::out) (na - 1) nb:=by
 obtain⟨m,rfl⟩:∃m,na=m+1:=⟨na - 1,by omega⟩
 exact h.pushA ha e c
theorem zfl{a b:Array Keyed}{z:SortSt}{Q:Array Keyed->SortSt->Prop}(c0:Cmp prog w A s kd rk a0)(k:kindOf z=kd)(ha:∀p∈a.toList,p∈a0.toList)(hb:∀p∈b.toList,p∈a0.toList)
  (sa:Ris (rkP rk) a.toList) (sb:Ris (rkP rk) b.toList) (na:0<a.size) (nb:0<b.size) (f1:∀y,b.toList[0]?=some y->∀x∈a.toList,rkP rk y<=rkP rk x)
  (f2:∀x,a.toList[a.size - 1]?=some x->∀y∈b.toList,rkP rk y<=rkP rk x)
  (h:∀m z',m.toList.Perm (a.toList++b.toList)->Ris (rkP rk) m.toList->SmS z z'->Q m z'):wpS (model prog w) A E s (zc6 a b) Q z:=by
 have e_:zc6=zc6:=rfl
 conv at e_=>rhs;whnf
 rw[e_];clear e_;have gb:∀i,i<b.size->∃p,b[i]?=some p/\b.toList[i]?=some p/\p∈a0.toList:=fun i hi=>⟨b[i],Array.getElem?_eq_getElem hi,by simp[hi],hb _ (by simp)⟩
 have ga:∀i,i<a.size->∃p,a[i]?=some p/\a.toList[i]?=some p/\p∈a0.toList:=fun i hi=>⟨a[i],Array.getElem?_eq_getElem hi,by simp[hi],ha _ (by simp)⟩
 have gaA:∀u i,i<u->u<=a.size->∃p,a[0+i]?=some p/\p∈a0.toList:=fun u i hi hu=>by
  obtain⟨p,e,_,m⟩:=ga i (by omega)
  exact⟨p,by rw[Nat.zero_add];exact e,m⟩
 have gbA:∀u i,i<u->u<=b.size->∃p,b[0+i]?=some p/\p∈a0.toList:=fun u i hi hu=>by
  obtain⟨p,e,_,m⟩:=gb i (by omega)
  exact⟨p,by rw[Nat.zero_add];exact e,m⟩
 have upA:∀u i j,u<=a.size->i<j->j<u->rkAt rk a (0+i)<=rkAt rk a (0+j):=fun u i j hu hij hj=>Ur sa (by omega) (by omega)
 have upB:∀u i j,u<=b.size->i<j->j<u->rkAt rk b (0+i)<=rkAt rk b (0+j):=fun u i j hu hij hj=>Ur sb (by omega) (by omega)
 have takeLe:∀(l:List Keyed),Ris (rkP rk) l->∀n p,l[n]?=some p->∀y∈l.take (n+1),rkP rk y<=rkP rk p:=fun l sl n p lp y hy=>by
  have e:l.take (n+1)=l.take n++[p]:=by rw[List.take_succ,lp];rfl
  have:=sl.take (n+1);rw[e]at this hy;rcases List.mem_append.mp hy with z|z
  ·exact(Jv.mp this).2.2 y z p (by simp)
  ·cases List.mem_singleton.mp z;exact Int.le_refl _
 obtain⟨x0,ex0,lx0,mx0⟩:=ga (a.size - 1) (by omega)
 have M0:MHi (rkP rk) a.toList b.toList [x0] (a.size - 1) b.size:=by
  have:MHi (rkP rk) a.toList b.toList [] (a.size - 1+1) b.size:=⟨by rw[List.take_of_length_le (by simp;omega),List.take_of_length_le (by simp)];simp,List.Pairwise.nil,fun x _ y hy=>nomatch hy⟩
  exact this.pushA sa lx0 fun y hy=>f2 x0 lx0 y (List.mem_of_mem_take hy)
 refine wpS_bind (wpS_lift (wpAny_rule ⟨rfl,?_⟩));refine wpS_bind (Jy ex0 ?_);have fin1:∀(out:Array Keyed) (na nb:Nat),MHi (rkP rk) a.toList b.toList out.toList.reverse na nb->(na=0\/nb=0)->(a.extract 0 na++b.extract 0 nb++out.reverse).toList.Perm (a.toList++b.toList)/\Ris (rkP rk) (a.extract 0 na++b.extract 0 nb++out.reverse).toList:=fun out na nb M e=>by
  rw[Array.toList_append,Array.toList_append,UE,UE,Array.toList_reverse];refine M.done sa sb fun x hx y hy=>?_
  rcases e with rfl|rfl
  ·simp at hx
  ·simp at hy
 have fin2:∀(out:Array Keyed) (na nb:Nat),MHi (rkP rk) a.toList b.toList out.toList.reverse na nb->nb=1->(b.extract 0 nb++a.extract 0 na++out.reverse).toList.Perm (a.toList++b.toList)/\Ris (rkP rk) (b.extract 0 nb++a.extract 0 na++out.reverse).toList:=fun out na nb M e=>by
  rw[Array.toList_append,Array.toList_append,UE,UE,Array.toList_reverse];refine M.first sa sb fun y hy x hx=>?_
  subst e;obtain⟨p,ep,lp,mp⟩:=gb 0 (by omega)
  have e1:=take1 lp;rw[List.drop_zero]at e1;rw[e1]at hy;cases List.mem_singleton.mp hy;exact f1 _ lp x (List.mem_of_mem_take hx)
 refine Jr (fun h1=>?_) (fun h1=>?_)
 ·have:=fin1 #[x0] (a.size - 1) b.size (by simpa using M0) (.inl (by simpa using h1))
  exact wpS_pure (h _ z this.1 this.2 (.refl z))
 refine Jr (fun h2=>?_) (fun h2=>?_)
 ·have:=fin2 #[x0] (a.size - 1) b.size (by simpa using M0) (by simpa using h2)
  exact wpS_pure (h _ z this.1 this.2 (.refl z))
 have h1:a.size - 1≠0:=fun e=>h1 (by simp[e])
 have h2:b.size≠1:=fun e=>h2 (by simp[e])
 refine wpS_bind (wpS_get ?_);refine wpS_bind (wpS_mono (wpS_forRange (I:=fun X c z'=>SmS z z'/\∃na nb out mg,c=(none,na,nb,out,mg)/\MHi (rkP rk) a.toList b.toList (Array.toList out).reverse na nb/\1<=na/\2<=nb/\na<=a.size/\nb<=b.size/\na+nb+X+1<=a.size+b.size)
  (Q:=fun c z'=>SmS z z'/\∃m rest,c=(some m,rest)/\(Array.toList m).Perm (a.toList++b.toList)/\Ris (rkP rk) (Array.toList m)) ?turn ?last ⟨.refl z,a.size - 1,b.size,#[x0],_,rfl,by simpa using M0,by omega,by omega,by omega,by omega,by omega⟩) ?post)
 case post =>
  rintro c z' ⟨S,m,rest,rfl,q1,q2⟩;exact wpS_pure (h m z' q1 q2 S)
 case last =>
  intro c z' hI;refine ex4 hI fun S na nb out mg q=>?_
  obtain rfl:=q.1;have M:=q.2.1;have l1:=q.2.2.1;have l2:=q.2.2.2.1;have l4:=q.2.2.2.2.1;have l5:=q.2.2.2.2.2.1;have l3:=q.2.2.2.2.2.2;omega
 case turn =>
  intro X c z' _ hX hI;refine ex4 hI fun S na nb out mg q=>?_
  obtain rfl:=q.1;have M:=q.2.1;have l1:=q.2.2.1;have l2:=q.2.2.2.1;have l4:=q.2.2.2.2.1;have l5:=q.2.2.2.2.2.1;have l3:=q.2.2.2.2.2.2;have kz:kindOf z'=kd:=S.kn.trans k;refine wpS_bind (wpS_mono (wpS_forRange (I:=fun x c z''=>SmS z z''/\∃na nb out ac bc,c=(none,na,nb,out,ac,bc)/\MHi (rkP rk) a.toList b.toList (Array.toList out).reverse na nb/\1<=na/\2<=nb/\na<=a.size/\nb<=b.size/\na+nb+X+1+x<=a.size+b.size)
   (Q:=fun c z''=>SmS z z''/\((∃na nb out ac bc,c=(none,na,nb,out,ac,bc)/\MHi (rkP rk) a.toList b.toList (Array.toList out).reverse na nb/\1<=na/\2<=nb/\na<=a.size/\nb<=b.size/\na+nb+X+2<=a.size+b.size)\/∃m rest,c=(some m,rest)/\(Array.toList m).Perm (a.toList++b.toList)/\Ris (rkP rk) (Array.toList m))) ?turn1 ?Ql ⟨S,na,nb,out,0,0,rfl,M,l1,l2,l4,l5,by omega⟩) ?post1)
  case Ql =>
   intro c z'' hI;refine ex5 hI fun S na nb out ac bc q=>?_
   obtain rfl:=q.1;have M:=q.2.1;have l1:=q.2.2.1;have l2:=q.2.2.2.1;have l4:=q.2.2.2.2.1;have l5:=q.2.2.2.2.2.1;have l3:=q.2.2.2.2.2.2;exact⟨S,.inl ⟨na,nb,out,ac,bc,rfl,M,l1,l2,l4,l5,by omega⟩⟩
  case turn1 =>
   intro x c z'' _ hx hI;refine ex5 hI fun S na nb out ac bc q=>?_
   obtain rfl:=q.1;have M:=q.2.1;have l1:=q.2.2.1;have l2:=q.2.2.2.1;have l4:=q.2.2.2.2.1;have l5:=q.2.2.2.2.2.1;have l3:=q.2.2.2.2.2.2;have kz:kindOf z''=kd:=S.kn.trans k;dsimp only;obtain⟨p,ep,lp,mp⟩:=gb (nb - 1) (by omega)
   obtain⟨q,eq,lq,mq⟩:=ga (na - 1) (by omega)
   have dB:=takeLe b.toList sb (nb - 1) p lp;rw[show nb - 1+1=nb by omega]at dB
   have dA:=takeLe a.toList sa (na - 1) q lq;rw[show na - 1+1=na by omega]at dA
   refine wpS_bind (Jy ep (wpS_bind (Jy eq (wpS_bind (Q1 c0 kz mp mq ?_)))));dsimp only;cases hlt:decide (rk p.1<rk q.1) with
   | true =>
    rw[if_pos rfl];have hlt:=of_decide_eq_true hlt;have M':=M.pushA' sa (by omega) lq fun y hy=>Int.le_trans (dB y hy) (Int.le_of_lt hlt)
    refine wpS_bind (Jy eq ?_);refine Jr (fun e1=>?_) (fun e1=>?_)
    ·have:=fin1 (out.push q) (na - 1) nb (by simpa using M') (.inl (by simpa using e1))
     exact wpS_pure ⟨S,.inr ⟨_,_,rfl,this.1,this.2⟩⟩
    ·have e1:na - 1≠0:=fun e=>e1 (by simp[e])
     refine Jr (fun e2=>?_) (fun e2=>?_)
     ·exact wpS_pure ⟨S,.inl ⟨_,_,_,_,_,rfl,by simpa using M',by omega,by omega,by omega,by omega,by omega⟩⟩
     ·exact wpS_pure ⟨S,_,_,_,_,_,rfl,by simpa using M',by omega,by omega,by omega,by omega,by omega⟩
   | false =>
    rw[if_neg (by simp)]
    have hlt:=of_decide_eq_false hlt;have M':=M.pushB' sb (by omega) lp fun x hx=>Int.le_trans (dA x hx) (Int.not_lt.mp hlt)
    refine wpS_bind (Jy ep ?_);refine Jr (fun e1=>?_) (fun e1=>?_)
    ·have:=fin2 (out.push p) na (nb - 1) (by simpa using M') (by simpa using e1)
     exact wpS_pure ⟨S,.inr ⟨_,_,rfl,this.1,this.2⟩⟩
    ·have e1:nb - 1≠1:=fun e=>e1 (by simp[e])
     refine Jr (fun e2=>?_) (fun e2=>?_)
     ·exact wpS_pure ⟨S,.inl ⟨_,_,_,_,_,rfl,by simpa using M',by omega,by omega,by omega,by omega,by omega⟩⟩
     ·exact wpS_pure ⟨S,_,_,_,_,_,rfl,by simpa using M',by omega,by omega,by omega,by omega,by omega⟩
  case post1 =>
   intro c z'' hI;refine eo5 hI (fun S na nb out ac bc q=>?_) (fun S m rest q=>?_)
   ·obtain rfl:=q.1;have M:=q.2.1;have l1:=q.2.2.1;have l2:=q.2.2.2.1;have l4:=q.2.2.2.2.1;have l5:=q.2.2.2.2.2.1;have l3:=q.2.2.2.2.2.2;refine wpS_bind (wpS_lift (wpAny_rule ⟨rfl,?_⟩));refine wpS_bind (wpS_mono (wpS_forRange (I:=fun x c z''=>SmS z z''/\∃na nb out mg ac bc,c=(none,na,nb,out,mg,ac,bc)/\MHi (rkP rk) a.toList b.toList (Array.toList out).reverse na nb/\1<=na/\2<=nb/\na<=a.size/\nb<=b.size/\na+nb+X+2<=a.size+b.size)
     (Q:=fun c z''=>SmS z z''/\((∃na nb out mg ac bc,c=(none,na,nb,out,mg,ac,bc)/\MHi (rkP rk) a.toList b.toList (Array.toList out).reverse na nb/\1<=na/\2<=nb/\na<=a.size/\nb<=b.size/\na+nb+X+2<=a.size+b.size)\/∃m rest,c=(some m,rest)/\(Array.toList m).Perm (a.toList++b.toList)/\Ris (rkP rk) (Array.toList m))) ?turn2 ?last2 ⟨S,na,nb,out,_,ac,bc,rfl,M,l1,l2,l4,l5,by omega⟩) ?post2)
    case last2 =>
     rintro c z'' ⟨S,r⟩;exact⟨S,.inl r⟩
    case post2 =>
     intro c z'' hI;refine eo6 hI (fun S na nb out mg ac bc q=>?_) (fun S m rest q=>?_)
     ·obtain rfl:=q.1;have M:=q.2.1;have l1:=q.2.2.1;have l2:=q.2.2.2.1;have l4:=q.2.2.2.2.1;have l5:=q.2.2.2.2.2.1;have l3:=q.2.2.2.2.2.2;dsimp only;refine wpS_bind (UU fun z3 S3=>?_)
      exact wpS_pure ⟨S.trans S3,na,nb,out,_,rfl,M,l1,l2,l4,l5,by omega⟩
     ·obtain rfl:=q.1;have q1:=q.2.1;have q2:=q.2.2;exact wpS_pure ⟨S,m,_,rfl,q1,q2⟩
    case turn2 =>
     intro x c z'' _ hx hI;refine ex6 hI fun S na nb out mg ac bc q=>?_
     obtain rfl:=q.1;have M:=q.2.1;have l1:=q.2.2.1;have l2:=q.2.2.2.1;have l4:=q.2.2.2.2.1;have l5:=q.2.2.2.2.2.1;have l3:=q.2.2.2.2.2.2;obtain⟨p,ep,lp,mp⟩:=gb (nb - 1) (by omega)
     have dB:=takeLe b.toList sb (nb - 1) p lp;rw[show nb - 1+1=nb by omega]at dB
     dsimp only;generalize hg:mg=g0;revert g0;refine zh0 mg (fun _=>True) ?_ ?_ (fun _=>trivial)
     rotate_left
     ·exact fun _ hF=>hF _ trivial
     intro mg _;refine wpS_bind (UU fun z3 S3=>?_)
     have S':=S.trans S3;have kz:kindOf z3=kd:=S'.kn.trans k;refine wpS_bind (Jy ep (wpS_bind (QZ c0 kz mp (fun i hi=>gaA na i hi (by omega)) (by omega) (fun i j=>upA na i j (by omega)) fun at1 k1n k1t k1f=>?_)))
     dsimp only;have gA1:∀x∈b.toList.take nb,∀y∈(a.toList.take na).drop at1,rkP rk x<=rkP rk y:=fun x hx y hy=>by
      obtain⟨j,j1,j2,ej⟩:=zgb hy;have:=k1f j j1 j2;unfold bey at this;rw[if_neg (by simp),Nat.zero_add,JD ej,Bool.not_eq_false',decide_eq_true_iff]at this
      exact Int.le_trans (dB x hx) (Int.le_of_lt this)
     have gA2:∀x∈a.toList.take at1,rkP rk x<=rkP rk p:=fun x hx=>by
      obtain⟨j,j1,ej⟩:=zic hx;have:=k1t j j1;unfold bey at this;rw[if_neg (by simp),Nat.zero_add,JD ej,Bool.not_eq_true',decide_eq_false_iff_not]at this
      exact Int.not_lt.mp this
     generalize hk:na - at1=k1;generalize ho:out=o0;generalize hi:na=i0;revert i0;revert o0;refine Uz out na (fun o i=>MHi (rkP rk) a.toList b.toList (Array.toList o).reverse i nb/\1<=i/\i<=na/\∀x∈a.toList.take i,rkP rk x<=rkP rk p) ?_ ?_ ?_
     rotate_left
     ·intro hk1 hF;have M2:=M.takeA (k:=at1) sa k1n gA1;rw[<- UD]at M2;have M2':MHi (rkP rk) a.toList b.toList (Array.toList (out++(a.extract at1 na).reverse)).reverse at1 nb:=by simpa using M2
      refine Jr (fun e1=>?_) (fun e1=>?_)
      ·have:=fin1 (out++(a.extract at1 na).reverse) at1 nb M2' (.inl (by simpa using e1))
       exact wpS_pure ⟨S',.inr ⟨_,_,rfl,this.1,this.2⟩⟩
      ·have e1:at1≠0:=fun e=>e1 (by simp[e])
       exact hF _ _ ⟨M2',by omega,k1n,gA2⟩
     ·intro hk1;have hk0:at1=na:=by omega
      rw[hk0]at gA2;exact⟨M,l1,Nat.le_refl _,gA2⟩
     intro o i ⟨M2,i1,i2,g⟩;have M3:=M2.pushB' sb (by omega) lp g
     have M3':MHi (rkP rk) a.toList b.toList (Array.toList (Array.push o p)).reverse i (nb - 1):=by simpa using M3
     refine wpS_bind (Jy ep ?_);refine Jr (fun e2=>?_) (fun e2=>?_)
     ·have:=fin2 (Array.push o p) i (nb - 1) M3' (by simpa using e2)
      exact wpS_pure ⟨S',.inr ⟨_,_,rfl,this.1,this.2⟩⟩
     have e2:nb - 1≠1:=fun e=>e2 (by simp[e])
     obtain⟨q,eq,lq,mq⟩:=ga (i - 1) (by omega)
     have dA:=takeLe a.toList sa (i - 1) q lq;rw[show i - 1+1=i by omega]at dA
     refine wpS_bind (Jy eq (wpS_bind (QZ c0 kz mq (fun i hi=>gbA (nb - 1) i hi (by omega)) (by omega) (fun i j=>upB (nb - 1) i j (by omega)) fun at2 k2n k2t k2f=>?_)))
     dsimp only;have gB1:∀x∈a.toList.take i,∀y∈(b.toList.take (nb - 1)).drop at2,rkP rk x<=rkP rk y:=fun x hx y hy=>by
      obtain⟨j,j1,j2,ej⟩:=zgb hy;have:=k2f j j1 j2;unfold bey at this;rw[if_pos rfl,Nat.zero_add,JD ej,decide_eq_false_iff_not]at this;exact Int.le_trans (dA x hx) (Int.not_lt.mp this)
     have gB2:∀y∈b.toList.take at2,rkP rk y<=rkP rk q:=fun y hy=>by
      obtain⟨j,j1,ej⟩:=zic hy;have:=k2t j j1;unfold bey at this;rw[if_pos rfl,Nat.zero_add,JD ej,decide_eq_true_iff]at this;exact Int.le_of_lt this
     have l6:2<=nb - 1:=by omega
     have l7:nb - 1<=b.size:=by omega
     have l8:i+(nb - 1)+X+2<=a.size+b.size:=by omega
     have l9:i<=a.size:=by omega
     clear k2t k2f k1t k1f gA1 gA2 dB e2 M M2 M3 hk k1n l1 l2 l3 l4 l5 i2;generalize Array.push o p=o2 at M3' ⊢;generalize nb - 1=j2 at M3' gB1 l6 l7 l8 k2n ⊢;generalize hk2:j2 - at2=k2;generalize ho:o2=o0;generalize hi:j2=i0;revert i0;revert o0;refine Uz o2 j2 (fun o' j=>MHi (rkP rk) a.toList b.toList (Array.toList o').reverse i j/\2<=j/\j<=j2/\∀y∈b.toList.take j,rkP rk y<=rkP rk q) ?_ ?_ ?_
     rotate_left
     ·intro hk2 hF;have M4:=M3'.takeB (k:=at2) sb k2n gB1;rw[<- UD]at M4;have M4':MHi (rkP rk) a.toList b.toList (Array.toList (o2++(b.extract at2 j2).reverse)).reverse i at2:=by simpa using M4
      refine Jr (fun e3=>?_) (fun e3=>Jr (fun e5=>?_) (fun e5=>?_))
      ·have:=fin2 (o2++(b.extract at2 j2).reverse) i at2 M4' (by simpa using e3)
       exact wpS_pure ⟨S',.inr ⟨_,_,rfl,this.1,this.2⟩⟩
      ·have:=fin1 (o2++(b.extract at2 j2).reverse) i at2 M4' (.inr (by simpa using e5))
       exact wpS_pure ⟨S',.inr ⟨_,_,rfl,this.1,this.2⟩⟩
      ·have e3:at2≠1:=fun e=>e3 (by simp[e])
       have e5:at2≠0:=fun e=>e5 (by simp[e])
       exact hF _ _ ⟨M4',by omega,k2n,gB2⟩
     ·intro hk2;have hk0:at2=j2:=by omega
      rw[hk0]at gB2;exact⟨M3',l6,Nat.le_refl _,gB2⟩
     intro o3 j ⟨M4,j1,j3,g'⟩;have M5:=M4.pushA' sa (by omega) lq g'
     have M5':MHi (rkP rk) a.toList b.toList (Array.toList (Array.push o3 q)).reverse (i - 1) j:=by simpa using M5
     refine wpS_bind (Jy eq ?_);refine Jr (fun e4=>?_) (fun e4=>?_)
     ·have:=fin1 (Array.push o3 q) (i - 1) j M5' (.inl (by simpa using e4))
      exact wpS_pure ⟨S',.inr ⟨_,_,rfl,this.1,this.2⟩⟩
     have e4:i - 1≠0:=fun e=>e4 (by simp[e])
     split
     ·exact wpS_pure ⟨S',.inl ⟨_,_,_,_,_,_,rfl,M5',by omega,by omega,by omega,by omega,by omega⟩⟩
     ·exact wpS_pure ⟨S',_,_,_,_,_,_,rfl,M5',by omega,by omega,by omega,by omega,by omega⟩
   ·obtain rfl:=q.1;have q1:=q.2.1;have q2:=q.2.2;exact wpS_pure ⟨S,m,_,rfl,q1,q2⟩
end
theorem zfF{α:Type}{l:List α}{i:Nat}{p:α}(h:i<l.length):(l.set i p).take (i+1)=l.take i++[p]:=by
 rw[List.take_succ,List.getElem?_set_self h,List.take_set_of_le (Nat.le_refl _)]
 rfl
theorem zgL{α:Type}{l:List α}{i j:Nat}{p:α}(h:i<j):(l.set i p).drop j=l.drop j:=by
 rw[List.drop_set];rw[if_pos h]
theorem zfT{α:Type}(o:Nat):∀(m:List α) (n:Nat) (x:Array α),o+n+m.length<=x.size ->
  ((m.zipIdx n).foldl (fun a (q:α×Nat)=>a.setIfInBounds (o+q.2) q.1) x).toList=x.toList.take (o+n)++m++x.toList.drop (o+n+m.length)
 | [],n,x,h=>by simp
 | p::ms,n,x,h=>by
  rw[List.length_cons]at h;rw[List.zipIdx_cons,List.foldl_cons,zfT o ms (n+1) _ (by rw[Array.size_setIfInBounds];omega)]
  have e:(x.setIfInBounds (o+n) p).toList=x.toList.set (o+n) p:=by simp
  have hl:o+n<x.toList.length:=by simp;omega
  dsimp only;rw[e,show o+(n+1)=o+n+1 by omega,zfF hl,zgL (by omega),List.length_cons,show o+n+1+ms.length=o+n+(ms.length+1) by omega]
  simp
def UpL(rk:Value->Int)(xs:Array Keyed)(lo m:Nat):Prop:=∀i j,i<j->j<m->rkAt rk xs (lo+i)<=rkAt rk xs (lo+j)
section
variable{prog:Program}{w:World}{A:Around}{E:qV}{s:Shared}{kd:SortKind}{rk:Value->Int}{a0:Array Keyed}
theorem ziw{z z1:SortSt}{Q:PUnit->SortSt->Prop}(h:Q ⟨⟩ z1):wpS (model prog w) A E s (set z1:StateT SortSt Sem PUnit) Q z:=by
 unfold wpS;rw[StateT.run_set];exact wpAny_pure ⟨rfl,h⟩
theorem zfQ{x:Array Keyed}{lo m:Nat}(h:UpL rk x lo m)(hx:lo+m<=x.size):Ris (rkP rk) (x.extract lo (lo+m)).toList:=by
 refine List.pairwise_iff_getElem.mpr fun i j hi hj hij=>?_
 have hi':i<m:=by simp at hi;lia
 have hj':j<m:=by simp at hj;lia
 have:=h i j hij hj';rw[JD (p:=(x.extract lo (lo+m)).toList[i]) (by simp),JD (p:=(x.extract lo (lo+m)).toList[j]) (by simp)]at this
 exact this
theorem UQ{x:Array Keyed}{lo hi:Nat}{p:Keyed}(h:p∈(x.extract lo hi).toList):∃j,lo<=j/\j<hi/\j<x.size/\rkAt rk x j=rkP rk p:=by
 obtain⟨i,hi',e⟩:=List.getElem_of_mem h;have l:i<hi - lo/\i+lo<x.size:=by simp at hi';lia
 refine⟨lo+i,by lia,by lia,by lia,JD ?_⟩
 rw[<- e];simp
theorem ix1{s n y:Nat}(h:n<=y):s+n+(y - n)=s+y:=by lia
theorem zfm{i sa na nb pw pw2:Nat}{z:SortSt}{Q:Bool->SortSt->Prop}(c:Cmp prog w A s kd rk a0)(k:kindOf z=kd)(fl:failedOf z=none)(pm:(arrOf z).Perm a0)
  (p1:(pendingOf z)[i]?=some (sa,na,pw)) (p2:(pendingOf z)[i+1]?=some (sa+na,nb,pw2)) (hna:0<na) (hnb:0<nb) (hs:sa+na+nb<=a0.size) (u1:UpL rk (arrOf z) sa na) (u2:UpL rk (arrOf z) (sa+na) nb)
  (h:∀y,kindOf y=kd->failedOf y=none->(arrOf y).Perm a0->pendingOf y=((pendingOf z).setIfInBounds i (sa,na+nb,pw)).eraseIdxIfInBounds (i+1)->UpL rk (arrOf y) sa (na+nb)->(∀j,j<sa\/sa+na+nb<=j->rkAt rk (arrOf y) j=rkAt rk (arrOf z) j)->Q true y) :
  wpS (model prog w) A E s (mergeAt' i) Q z:=by
 have sz:(arrOf z).size=a0.size:=pm.size_eq;have mem:∀j,j<a0.size->∃p,(arrOf z)[j]?=some p/\p∈a0.toList:=fun j hj=>by
  have hj':j<(arrOf z).size:=by lia
  exact⟨(arrOf z)[j],Array.getElem?_eq_getElem hj',(Array.perm_iff_toList_perm.mp pm).mem_iff.mp (by simp)⟩
 have mem2:∀p∈(arrOf z).toList,p∈a0.toList:=fun p hp=>(Array.perm_iff_toList_perm.mp pm).mem_iff.mp hp
 have e_:mergeAt'=mergeAt':=rfl
 conv at e_=>rhs;whnf
 rw[e_];dsimp only;clear e_;refine wpS_bind (wpS_get ?_);change (arrOf z).size=_ at sz;have p1':=p1;have p2':=p2;unfold pendingOf at p1' p2';rw[p1',p2'];dsimp only;refine wpS_bind (ziw ?_);obtain⟨v0,ev0,mv0⟩:=mem (sa+na) (by lia)
 refine wpS_bind (Jy ev0 ?_);have rv0:rkAt rk (arrOf z) (sa+na)=rk v0.1:=by unfold rkAt;rw[ev0];rfl
 refine wpS_bind (QZ c k mv0 (fun j hj=>mem _ (by lia)) hna u1 fun k hk t1 t2=>?_)
 have b1:∀j,j<k->rkAt rk (arrOf z) (sa+j)<=rkAt rk (arrOf z) (sa+na):=fun j hj=>by
  have:=t1 j hj;rw[rv0];unfold bey at this;simp at this;exact this
 have b2:∀j,k<=j->j<na->rkAt rk (arrOf z) (sa+na)<rkAt rk (arrOf z) (sa+j):=fun j hj hj'=>by
  have:=t2 j hj hj';rw[rv0];unfold bey at this;simp at this;exact this
 dsimp only
 by_cases e1:(na - k == 0)=true
 ·rw[if_pos e1];have ek:k=na:=by simp at e1;lia
  refine wpS_pure (h _ (by assumption) fl pm rfl ?_ (fun _ _=>rfl))
  intro x y hxy hy;change rkAt rk (arrOf z) (sa+x)<=rkAt rk (arrOf z) (sa+y)
  by_cases hy2:y<na
  ·exact u1 x y hxy hy2
  ·by_cases hx2:x<na
   ·have q1:=b1 x (by lia)
    by_cases hy3:y=na
    ·rw[hy3];exact q1
    ·have q2:=u2 0 (y - na) (by lia) (by lia)
     rw[ix1 (show na<=y by lia)]at q2
     simp at q2;lia
   ·have q2:=u2 (x - na) (y - na) (by lia) (by lia)
    rw[ix1 (show na<=y by lia),ix1 (show na<=x by lia)]at q2
    exact q2
 rw[if_neg e1];have hk2:k<na:=by simp at e1;lia
 obtain⟨ul,eul,mul⟩:=mem (sa+k+(na - k) - 1) (by lia)
 refine wpS_bind (Jy eul ?_);have rul:rkAt rk (arrOf z) (sa+na - 1)=rk ul.1:=by unfold rkAt;rw[show sa+na - 1=sa+k+(na - k) - 1 by lia,eul];rfl
 refine wpS_bind (QZ c (by assumption) mul (fun j hj=>mem _ (by lia)) (by lia) u2 fun m hm t3 t4=>?_)
 have b3:∀j,j<m->rkAt rk (arrOf z) (sa+na+j)<rkAt rk (arrOf z) (sa+na - 1):=fun j hj=>by
  have:=t3 j hj;rw[rul];unfold bey at this;simp at this;exact this
 have b4:∀j,m<=j->j<nb->rkAt rk (arrOf z) (sa+na - 1)<=rkAt rk (arrOf z) (sa+na+j):=fun j hj hj'=>by
  have:=t4 j hj hj';rw[rul];unfold bey at this;simp at this;exact this
 dsimp only;have le1:∀x y,x<=y->y<na->rkAt rk (arrOf z) (sa+x)<=rkAt rk (arrOf z) (sa+y):=fun x y hxy hy=>by
  by_cases e:x=y
  ·rw[e];exact Int.le_refl _
  ·exact u1 x y (by lia) hy
 have le2:∀x y,x<=y->y<nb->rkAt rk (arrOf z) (sa+na+x)<=rkAt rk (arrOf z) (sa+na+y):=fun x y hxy hy=>by
  by_cases e:x=y
  ·rw[e];exact Int.le_refl _
  ·exact u2 x y (by lia) hy
 by_cases e2:(m == 0)=true
 ·rw[if_pos e2];have em:m=0:=by simpa using e2
  refine wpS_pure (h _ (by assumption) fl pm rfl ?_ (fun _ _=>rfl))
  intro x y hxy hy;change rkAt rk (arrOf z) (sa+x)<=rkAt rk (arrOf z) (sa+y)
  by_cases hy2:y<na
  ·exact u1 x y hxy hy2
  ·by_cases hx2:x<na
   ·have q1:=b4 (y - na) (by lia) (by lia)
    have q2:=le1 x (na - 1) (by lia) (by lia)
    rw[show sa+(na - 1)=sa+na - 1 by lia]at q2
    rw[ix1 (show na<=y by lia)]at q1
    lia
   ·have q2:=u2 (x - na) (y - na) (by lia) (by lia)
    rw[ix1 (show na<=y by lia),ix1 (show na<=x by lia)]at q2
    exact q2
 rw[if_neg e2];have hm2:0<m:=by simp at e2;lia
 have exA:(arrOf z).extract (sa+k) (sa+na)=(arrOf z).extract (sa+k) (sa+k+(na - k)):=by rw[ix1 (show k<=na by lia)]
 have rA:Ris (rkP rk) ((arrOf z).extract (sa+k) (sa+na)).toList:=by
  rw[exA];refine zfQ (fun x y hxy hy=>?_) (by lia)
  have:=u1 (k+x) (k+y) (by lia) (by lia)
  rw[<- Nat.add_assoc,<- Nat.add_assoc]at this;exact this
 have rB:Ris (rkP rk) ((arrOf z).extract (sa+na) (sa+na+m)).toList:=zfQ (fun x y hxy hy=>u2 x y hxy (by lia)) (by lia)
 have szA:((arrOf z).extract (sa+k) (sa+na)).size=na - k:=by simp;lia
 have szB:((arrOf z).extract (sa+na) (sa+na+m)).size=m:=by simp;lia
 have mA:∀p∈((arrOf z).extract (sa+k) (sa+na)).toList,p∈a0.toList:=fun p hp=>mem2 p (by
  rw[UD]at hp;exact List.mem_of_mem_take (List.mem_of_mem_drop hp))
 have mB:∀p∈((arrOf z).extract (sa+na) (sa+na+m)).toList,p∈a0.toList:=fun p hp=>mem2 p (by
  rw[UD]at hp;exact List.mem_of_mem_take (List.mem_of_mem_drop hp))
 have f1:∀y,((arrOf z).extract (sa+na) (sa+na+m)).toList[0]?=some y->∀x∈((arrOf z).extract (sa+k) (sa+na)).toList,rkP rk y<=rkP rk x:=fun y hy x hx=>by
  obtain⟨j,j1,j2,j3,e⟩:=UQ (rk:=rk) hx;have:=b2 (j - sa) (by lia) (by lia)
  rw[Nat.add_sub_of_le (show sa<=j by lia),e]at this
  have ey:rkAt rk (arrOf z) (sa+na)=rkP rk y:=JD (by rw[<- hy];simp only[Array.getElem?_toList,Array.getElem?_extract];rw[if_pos (by lia)];rfl)
  lia
 have f2:∀x,((arrOf z).extract (sa+k) (sa+na)).toList[((arrOf z).extract (sa+k) (sa+na)).size - 1]?=some x->∀y∈((arrOf z).extract (sa+na) (sa+na+m)).toList,rkP rk y<=rkP rk x:=fun x hx y hy=>by
  obtain⟨j,j1,j2,j3,e⟩:=UQ (rk:=rk) hy;have:=b3 (j - (sa+na)) (by lia)
  rw[Nat.add_sub_of_le (show sa+na<=j by lia),e]at this
  have ex:rkAt rk (arrOf z) (sa+na - 1)=rkP rk x:=JD (by
   rw[<- hx,szA];simp only[Array.getElem?_toList,Array.getElem?_extract];rw[if_pos (by lia),show sa+k+(na - k - 1)=sa+na - 1 by lia])
  lia
 have fin:∀(M:Array Keyed) (z2 y:SortSt),M.toList.Perm (((arrOf z).extract (sa+k) (sa+na)).toList++((arrOf z).extract (sa+na) (sa+na+m)).toList)->Ris (rkP rk) M.toList->arrOf z2=arrOf z->kindOf y=kd->failedOf y=none->pendingOf y=((pendingOf z).setIfInBounds i (sa,na+nb,pw)).eraseIdxIfInBounds (i+1) ->
   arrOf y=(M.toList.zipIdx.foldl (fun a (q:Keyed×Nat)=>a.setIfInBounds (sa+k+q.2) q.1) (arrOf z2))->Q true y:=by
  intro M z2 y PM RM ez ky fy py ay;have lM:M.toList.length=na - k+m:=by
   have:=PM.length_eq;rw[List.length_append,Array.length_toList (xs:=(arrOf z).extract _ _),Array.length_toList (xs:=(arrOf z).extract _ _),szA,szB]at this;exact this
  have ayl:(arrOf y).toList=(arrOf z).toList.take (sa+k)++M.toList++(arrOf z).toList.drop (sa+na+m):=by
   rw[ay,ez];have:=zfT (sa+k) M.toList 0 (arrOf z) (by rw[lM];lia)
   rw[show sa+k+0=sa+k by lia,lM,show sa+k+(na - k+m)=sa+na+m by lia]at this
   exact this
  have split0:(arrOf z).toList=(arrOf z).toList.take (sa+k)++(((arrOf z).extract (sa+k) (sa+na)).toList++((arrOf z).extract (sa+na) (sa+na+m)).toList)++(arrOf z).toList.drop (sa+na+m):=by
   rw[exA,UY,UY];have c1:=cut2 (arrOf z).toList (sa+k) (na - k);rw[ix1 (show k<=na by lia)]at c1
   have c2:=cut2 (arrOf z).toList (sa+na) m;rw[List.append_assoc,List.append_assoc,<- c2,<- c1,List.take_append_drop]
  have PY:(arrOf y).Perm a0:=by
   refine Array.Perm.trans ?_ pm;rw[Array.perm_iff_toList_perm,ayl]
   conv=>rhs;rw[split0]
   exact List.Perm.append_right _ (List.Perm.append_left _ PM)
  have hlt:((arrOf z).toList.take (sa+k)).length=sa+k:=by simp;lia
  have outer:∀j,j<sa+k\/sa+na+m<=j->rkAt rk (arrOf y) j=rkAt rk (arrOf z) j:=by
   intro j hj;refine QY ?_;rw[<- Array.getElem?_toList,<- Array.getElem?_toList,ayl];rcases hj with hj|hj
   ·rw[List.append_assoc,List.getElem?_append_left (by lia),List.getElem?_take,if_pos (by lia)]
   ·rw[List.getElem?_append_right (by rw[List.length_append,lM,hlt];lia),List.length_append,lM,hlt,List.getElem?_drop]
    congr 1;lia
  have inner:∀j,sa+k<=j->j<sa+na+m->∃p,M.toList[j - (sa+k)]?=some p/\rkAt rk (arrOf y) j=rkP rk p:=by
   intro j j1 j2;have hj:j - (sa+k)<M.toList.length:=by lia
   refine⟨M.toList[j - (sa+k)],List.getElem?_eq_getElem hj,JD ?_⟩;rw[ayl,List.getElem?_append_left (by rw[List.length_append,lM,hlt];lia),List.getElem?_append_right (by lia),hlt]
   exact List.getElem?_eq_getElem hj
  have inM:∀p∈M.toList,∃j,sa+k<=j/\j<sa+na+m/\rkAt rk (arrOf z) j=rkP rk p:=by
   intro p hp;rcases List.mem_append.mp (PM.mem_iff.mp hp) with q|q
   ·obtain⟨j,j1,j2,_,e⟩:=UQ (rk:=rk) q;exact⟨j,j1,by lia,e⟩
   ·obtain⟨j,j1,j2,_,e⟩:=UQ (rk:=rk) q;exact⟨j,by lia,j2,e⟩
  refine h y ky fy PY py ?_ fun j hj=>outer j (by lia)
  clear PY ayl split0 szA szB hlt sz exA rv0 rul;intro x y' hxy hy
  by_cases x1:x<k
  ·rw[outer (sa+x) (by lia)]
   by_cases y1:y'<k
   ·rw[outer (sa+y') (by lia)];exact u1 x y' hxy (by lia)
   ·have low:∀j,sa+k<=j->j<sa+na+nb->rkAt rk (arrOf z) (sa+x)<=rkAt rk (arrOf z) j:=fun j j1 j2=>by
     by_cases j3:j<sa+na
     ·have:=u1 x (j - sa) (by lia) (by lia)
      rw[Nat.add_sub_of_le (show sa<=j by lia)]at this;exact this
     ·have q1:=b1 x x1;have q2:=le2 0 (j - (sa+na)) (by lia) (by lia)
      rw[Nat.add_sub_of_le (show sa+na<=j by lia)]at q2
      simp at q2;lia
    by_cases y2:sa+y'<sa+na+m
    ·obtain⟨p,ep,er⟩:=inner (sa+y') (by lia) y2
     rw[er];obtain⟨j,j1,j2,e⟩:=inM p (List.mem_of_getElem? ep);rw[<- e];exact low j j1 (by lia)
    ·rw[outer (sa+y') (by lia)];exact low _ (by lia) (by lia)
  ·by_cases x2:sa+x<sa+na+m
   ·obtain⟨p,ep,er⟩:=inner (sa+x) (by lia) x2
    rw[er]
    by_cases y2:sa+y'<sa+na+m
    ·obtain⟨q,eq,er2⟩:=inner (sa+y') (by lia) y2
     rw[er2];have h1:sa+x - (sa+k)<M.toList.length:=by lia
     have h2:sa+y' - (sa+k)<M.toList.length:=by lia
     rw[List.getElem?_eq_getElem h1]at ep;rw[List.getElem?_eq_getElem h2]at eq;cases ep;cases eq;exact List.pairwise_iff_getElem.mp RM _ _ h1 h2 (by lia)
    ·rw[outer (sa+y') (by lia)]
     obtain⟨j,j1,j2,e⟩:=inM p (List.mem_of_getElem? ep);rw[<- e];have q4:=b4 (y' - na) (by lia) (by lia)
     rw[ix1 (show na<=y' by lia)]at q4
     by_cases j3:j<sa+na
     ·have:=le1 (j - sa) (na - 1) (by lia) (by lia)
      rw[Nat.add_sub_of_le (show sa<=j by lia),show sa+(na - 1)=sa+na - 1 by lia]at this
      lia
     ·have:=le2 (j - (sa+na)) (y' - na) (by lia) (by lia)
      rw[Nat.add_sub_of_le (show sa+na<=j by lia),ix1 (show na<=y' by lia)]at this
      exact this
   ·rw[outer (sa+x) (by lia),outer (sa+y') (by lia)]
    have:=u2 (x - na) (y' - na) (by lia) (by lia)
    rw[ix1 (show na<=x by lia),ix1 (show na<=y' by lia)]at this
    exact this
 by_cases le:na - k<=m
 ·rw[if_pos le];refine wpS_bind (zfk c (by assumption) mA mB rA rB (Nat.lt_of_lt_of_eq (by lia) szA.symm) (Nat.lt_of_lt_of_eq hm2 szB.symm) f1 f2 fun M z2 PM RM S=>?_)
  refine wpS_bind (wpS_modify (wpS_bind (wpS_get (wpS_pure ?_))));have f2':failedOf z2=none:=S.fl.trans fl;show Q (failedOf z2).isNone _
  rw[f2'];exact fin M z2 _ PM RM S.ar (S.kn.trans (by assumption)) f2' S.pe rfl
 ·rw[if_neg le];refine wpS_bind (zfl c (by assumption) mA mB rA rB (Nat.lt_of_lt_of_eq (by lia) szA.symm) (Nat.lt_of_lt_of_eq hm2 szB.symm) f1 f2 fun M z2 PM RM S=>?_)
  refine wpS_bind (wpS_modify (wpS_bind (wpS_get (wpS_pure ?_))));have f2':failedOf z2=none:=S.fl.trans fl;show Q (failedOf z2).isNone _
  rw[f2'];exact fin M z2 _ PM RM S.ar (S.kn.trans (by assumption)) f2' S.pe rfl
end
structure Sl(rk:Value->Int)(kd:SortKind)(a0:Array Keyed)(z0:SortSt)(lo:Nat)(z:SortSt):Prop where
 pm:(arrOf z).Perm a0
 kn:kindOf z=kd
 fl:failedOf z=none
 pe:pendingOf z=pendingOf z0
 lw:∀j,j<lo->rkAt rk (arrOf z) j=rkAt rk (arrOf z0) j
def DnL(rk:Value->Int)(xs:Array Keyed)(lo m:Nat):Prop:=∀i j,i<j->j<m->rkAt rk xs (lo+j)<=rkAt rk xs (lo+i)
section
variable{prog:Program}{w:World}{A:Around}{E:qV}{s:Shared}{kd:SortKind}{rk:Value->Int}{a0:Array Keyed}{z0:SortSt}{lo:Nat}
theorem Sl.sz{z:SortSt}(b:Sl rk kd a0 z0 lo z):(arrOf z).size=a0.size:=b.pm.size_eq
theorem Sl.arr{z:SortSt}(b:Sl rk kd a0 z0 lo z){xs:Array Keyed}(h:xs.Perm (arrOf z))(l:∀j,j<lo->rkAt rk xs j=rkAt rk (arrOf z) j):Sl rk kd a0 z0 lo (setArr z xs):=⟨h.trans b.pm,b.kn,b.fl,b.pe,fun j hj=>(l j hj).trans (b.lw j hj)⟩
theorem askL{z:SortSt}{i j:Nat}{Q:Option Bool->SortSt->Prop}(c:Cmp prog w A s kd rk a0)(b:Sl rk kd a0 z0 lo z)(hi:i<a0.size)(hj:j<a0.size)
  (h:Q (some (decide (rkAt rk (arrOf z) i<rkAt rk (arrOf z) j))) z):wpS (model prog w) A E s (ltAt' i j) Q z:=by
 have mem:∀k,k<a0.size->∃p,(arrOf z)[k]?=some p/\p∈a0.toList:=fun k hk=>by
  have hk':k<(arrOf z).size:=by rw[b.sz];exact hk
  exact⟨(arrOf z)[k],Array.getElem?_eq_getElem hk',(Array.perm_iff_toList_perm.mp b.pm).mem_iff.mp (by simp)⟩
 obtain⟨p,ep,mp⟩:=mem i hi;obtain⟨q,eq,mq⟩:=mem j hj;have r1:rkAt rk (arrOf z) i=rk p.1:=by unfold rkAt;rw[ep];rfl
 have r2:rkAt rk (arrOf z) j=rk q.1:=by unfold rkAt;rw[eq];rfl
 rw[r1,r2]at h;rw[ltAt'_eq];refine wpS_bind (wpS_get ?_);show wpS (model prog w) A E s (elem' (arrOf z) i >>= fun x=>elem' (arrOf z) j >>= fun y=>lt' x y) Q z
 simp only[elem'_eq,ep,eq,pure_bind];exact Q1 c b.kn mp mq h
theorem zjw{z:SortSt}{n ok:Nat}{Q:Bool->SortSt->Prop}(c:Cmp prog w A s kd rk a0)(hn:lo+n<=a0.size)(hok:ok<=n)(b:Sl rk kd a0 z0 lo z)(up:UpL rk (arrOf z) lo ok)
  (h:∀y,Sl rk kd a0 z0 lo y->UpL rk (arrOf y) lo n->Q true y):wpS (model prog w) A E s (binarySort' lo n ok) Q z:=by
 rw[binarySort'_eq];refine wpS_bind (wpS_mono (wpS_forRange (Q:=fun c y=>c=(none,())/\Sl rk kd a0 z0 lo y/\UpL rk (arrOf y) lo n) (I:=fun k c y=>c=(none,())/\Sl rk kd a0 z0 lo y/\UpL rk (arrOf y) lo (min k n)) ?turn ?last ⟨rfl,b,fun i j h1 h2=>up i j h1 (by lia)⟩) ?post)
 case post =>
  rintro _ y ⟨rfl,by',u⟩
  exact wpS_pure (h y by' u)
 case last =>
  rintro _ y ⟨rfl,by',u⟩
  exact⟨rfl,by',by rwa [show min (max (max ok 1) n) n=n by lia]at u⟩
 case turn =>
  rintro k _ y k1 k2 ⟨rfl,by',u⟩
  rw[show min k n=k by lia]at u
  refine wpS_bind (wpS_mono (wpS_forRange (Q:=fun c y'=>y'=y/\∃l r,c=(none,l,r)/\l<=k/\(∀i,i<l->rkAt rk (arrOf y) (lo+i)<=rkAt rk (arrOf y) (lo+k))/\∀i,l<=i->i<k->rkAt rk (arrOf y) (lo+k)<rkAt rk (arrOf y) (lo+i))
   (I:=fun x c y'=>y'=y/\∃l r,c=(none,l,r)/\l<=r/\r<=k/\r - l+x<=k/\(∀i,i<l->rkAt rk (arrOf y) (lo+i)<=rkAt rk (arrOf y) (lo+k))/\∀i,r<=i->i<k->rkAt rk (arrOf y) (lo+k)<rkAt rk (arrOf y) (lo+i)) ?t2 ?l2 ⟨rfl,0,k,rfl,by lia,by lia,by lia,fun i hi=>by lia,fun i i1 i2=>by lia⟩) ?p2)
  case l2 =>
   rintro _ v ⟨e,l,r,rfl,q1,q2,q3,q4,q5⟩;subst e;exact⟨rfl,l,r,rfl,by lia,q4,fun i i1 i2=>q5 i (by lia) i2⟩
  case t2 =>
   rintro x _ v _ _ ⟨e,l,r,rfl,q1,q2,q3,q4,q5⟩;subst e
   by_cases ge:r<=l
   ·simp only[ge_iff_le,ge,if_true];exact wpS_pure ⟨rfl,l,r,rfl,by lia,q4,fun i i1 i2=>q5 i (by lia) i2⟩
   ·simp only[ge_iff_le,ge,if_false];refine wpS_bind (askL c by' (by lia) (by lia) ?_)
    by_cases le:rkAt rk (arrOf v) (lo+k)<rkAt rk (arrOf v) (lo+(l+r) / 2)
    ·simp only[le,decide_true,if_true];refine wpS_pure ⟨rfl,l,(l+r) / 2,rfl,by lia,by lia,by lia,q4,fun i i1 i2=>?_⟩
     rcases Nat.lt_or_ge ((l+r) / 2) i with g|g
     ·have:=u _ _ g i2;lia
     ·have:i=(l+r) / 2:=by lia
      rw[this];exact le
    ·simp only[le,decide_false,Bool.false_eq_true,if_false];refine wpS_pure ⟨rfl,(l+r) / 2+1,r,rfl,by lia,by lia,by lia,fun i i1=>?_,q5⟩
     rcases Nat.lt_or_ge i ((l+r) / 2) with g|g
     ·have:=u _ _ g (by lia);lia
     ·have:i=(l+r) / 2:=by lia
      rw[this];lia
  case p2 =>
   rintro _ v ⟨e,l,r,rfl,q2,q4,q5⟩;subst e;show wpS (model prog w) A E s (moveDown' (lo+k) (lo+l) >>= fun _=>pure (ForInStep.yield (none,()))) _ v
   rw[moveDown'_eq];have hk:lo+k<(arrOf v).size:=by rw[by'.sz];lia
   have bub:∀j,_:=fun j=>zj3 (rk:=rk) hk (show lo+k - (lo+l)<=lo+k by lia) j
   have el:lo+k - (lo+k - (lo+l))=lo+l:=by lia
   rw[el]at bub;refine wpS_bind (wpS_modify (wpS_pure ⟨rfl,by'.arr (bubble_perm _ _ _) (fun j hj=>(bub j).2.2 (by lia)),fun i j h1 h2=>?_⟩))
   show rkAt rk (bubble (arrOf v) (lo+k) (lo+k - (lo+l))) (lo+i)<=rkAt rk (bubble (arrOf v) (lo+k) (lo+k - (lo+l))) (lo+j)
   have hj:j<=k:=by lia
   obtain⟨a1,a2,a3⟩:=bub (lo+i);obtain⟨b1,b2,b3⟩:=bub (lo+j);rcases Nat.lt_trichotomy j l with jl|jl|jl
   ·rw[a3 (by lia),b3 (by lia)];exact u i j h1 (by lia)
   ·rw[a3 (by lia),b1 (by lia)];exact q4 i (by lia)
   ·rw[b2 (by lia) (by lia),show lo+j - 1=lo+(j - 1) by lia]
    rcases Nat.lt_trichotomy i l with il|il|il
    ·rw[a3 (by lia)]
     exact u i (j - 1) (by lia) (by lia)
    ·rw[a1 (by lia)];exact Int.le_of_lt (q5 (j - 1) (by lia) (by lia))
    ·rw[a2 (by lia) (by lia),show lo+i - 1=lo+(i - 1) by lia]
     exact u _ _ (by lia) (by lia)
theorem UpL.more{xs:Array Keyed}{x:Nat}(u:UpL rk xs lo x)(x1:1<=x)(g:¬rkAt rk xs (lo+x)<rkAt rk xs (lo+x - 1)):UpL rk xs lo (x+1):=fun i j h1 h2=>by
 rw[show lo+x - 1=lo+(x - 1) by lia]at g
 rcases Nat.lt_or_ge j x with jx|jx
 ·exact u i j h1 jx
 ·have ej:j=x:=by lia
  subst ej;rcases Nat.lt_or_ge i (j - 1) with ij|ij
  ·have:=u i (j - 1) ij (by lia);lia
  ·have:i=j - 1:=by lia
   rw[this];lia
theorem DnL.more{xs:Array Keyed}{x:Nat}(u:DnL rk xs lo x)(x1:1<=x)(g:rkAt rk xs (lo+x)<=rkAt rk xs (lo+x - 1)):DnL rk xs lo (x+1):=fun i j h1 h2=>by
 rw[show lo+x - 1=lo+(x - 1) by lia]at g
 rcases Nat.lt_or_ge j x with jx|jx
 ·exact u i j h1 jx
 ·have ej:j=x:=by lia
  subst ej;rcases Nat.lt_or_ge i (j - 1) with ij|ij
  ·have:=u i (j - 1) ij (by lia);lia
  ·have:i=j - 1:=by lia
   rw[this];lia
theorem ziF{z:SortSt}{m:Nat}{Q:Option Nat->SortSt->Prop}(c:Cmp prog w A s kd rk a0)(hm:lo+m<=a0.size)(m1:1<=m)(b:Sl rk kd a0 z0 lo z)
  (h:∀k y,Sl rk kd a0 z0 lo y->1<=k->k<=m->UpL rk (arrOf y) lo k->Q (some k) y):wpS (model prog w) A E s (countRun' lo m) Q z:=by
 rw[countRun'_eq];refine wpS_bind (wpS_mono (wpS_forRange (I:=fun x c y=>y=z/\c=(none,x)/\UpL rk (arrOf z) lo x) (Q:=fun c y=>y=z/\∃n,c=(none,n)/\1<=n/\n<=m/\UpL rk (arrOf z) lo n/\(n<m->rkAt rk (arrOf z) (lo+n)<rkAt rk (arrOf z) (lo+n - 1))) ?turn ?last ⟨rfl,rfl,fun i j h1 h2=>absurd h1 (by lia)⟩) ?post)
 case last =>
  rintro _ y ⟨rfl,rfl,u⟩;rw[show max 1 m=m by lia]at u ⊢
  exact⟨rfl,m,rfl,m1,Nat.le_refl _,u,fun g=>absurd g (by lia)⟩
 case turn =>
  rintro x _ y x1 x2 ⟨rfl,rfl,u⟩;dsimp only;refine wpS_bind (askL c b (by lia) (by lia) ?_)
  by_cases g:rkAt rk (arrOf y) (lo+x)<rkAt rk (arrOf y) (lo+x - 1)
  ·simp only[g,decide_true,if_true];exact wpS_pure ⟨rfl,x,rfl,x1,by lia,u,fun _=>g⟩
  ·simp only[g,decide_false,Bool.false_eq_true,if_false];exact wpS_pure ⟨rfl,rfl,u.more x1 g⟩
 case post =>
  rintro _ y ⟨rfl,n,rfl,n1,n2,u,lt⟩;dsimp only
  by_cases en:n=m
  ·simp only[en,beq_self_eq_true,if_true];exact wpS_pure (h m y b m1 (Nat.le_refl _) (en▸u))
  have en':(n == m)=false:=by simpa using en
  simp only[en',Bool.false_eq_true,if_false];have l:=lt (by lia)
  have zn:lo+n<=(arrOf y).size:=by rw[b.sz];lia
  have pre:n<=1\/1<n:=by lia
  have both:∀(F:StateT SortSt Sem (Option Nat)) ,(∀y',Sl rk kd a0 z0 lo y'->DnL rk (arrOf y') lo (n+1)->wpS (model prog w) A E s F Q y')->wpS (model prog w) A E s (if n > 1 then ltAt' lo (lo+n - 1) >>= fun x=>match x with
    | some rose=>if rose=true then pure (some n) else reverseSlice' lo (lo+n) >>= fun _=>F
    | _=>pure none
   else F) Q y:=by
   intro F hF
   by_cases g:n > 1
   ·simp only[g,if_true];refine wpS_bind (askL c b (by lia) (by lia) ?_)
    by_cases rose:rkAt rk (arrOf y) lo<rkAt rk (arrOf y) (lo+n - 1)
    ·simp only[rose,decide_true,if_true];exact wpS_pure (h n y b n1 n2 u)
    ·simp only[rose,decide_false,Bool.false_eq_true,if_false];have al:∀k,lo<=k->k<lo+n->rkAt rk (arrOf y) k=rkAt rk (arrOf y) (lo+n - 1):=fun k k1 kn=>by
      have p:rkAt rk (arrOf y) lo<=rkAt rk (arrOf y) k:=by
       rcases Nat.eq_or_lt_of_le k1 with k0|k0
       ·rw[k0];exact Int.le_refl _
       ·have:=u 0 (k - lo) (by lia) (by lia)
        rw[show lo+(k - lo)=k by lia]at this
        exact this
      have q:rkAt rk (arrOf y) k<=rkAt rk (arrOf y) (lo+n - 1):=by
       rcases Nat.lt_or_ge k (lo+n - 1) with kk|kk
       ·have:=u (k - lo) (n - 1) (by lia) (by lia)
        rw[show lo+(k - lo)=k by lia,show lo+(n - 1)=lo+n - 1 by lia]at this
        exact this
       ·rw[show k=lo+n - 1 by lia];exact Int.le_refl _
      lia
     refine wpS_bind (wpS_reverse (hF _ (b.arr (mirror_perm _ _ _ _) fun j hj=>Qw zn al j) fun i j h1 h2=>?_))
     show rkAt rk (mirror (arrOf y) lo (lo+n) ((lo+n - lo) / 2)) (lo+j)<=rkAt rk (mirror (arrOf y) lo (lo+n) ((lo+n - lo) / 2)) (lo+i)
     rw[Qw zn al,Qw zn al];have ai:=al (lo+i) (by lia) (by lia)
     rcases Nat.lt_or_ge j n with jn|jn
     ·have:=al (lo+j) (by lia) (by lia);lia
     ·rw[show j=n by lia];lia
   ·simp only[g,if_false];have e1:n=1:=by lia
    subst e1;refine hF y b fun i j h1 h2=>?_
    rw[show i=0 by lia,show j=1 by lia]
    exact Int.le_of_lt l
  refine both _ fun y b dn=>?_
  clear both;refine wpS_bind (wpS_lift (wpAny_rule ⟨rfl,wpS_bind ?_⟩));refine wpS_mono (wpS_forRange (I:=fun x c y=>∃e,c=(none,x,e)/\Sl rk kd a0 z0 lo y/\DnL rk (arrOf y) lo x/\e<x/\∀i,lo+x - (e+1)<=i->i<lo+x->rkAt rk (arrOf y) i=rkAt rk (arrOf y) (lo+x - 1))
   (Q:=fun c y=>∃x e,c=(none,x,e)/\1<=x/\x<=m/\Sl rk kd a0 z0 lo y/\DnL rk (arrOf y) lo x/\e<x/\∀i,lo+x - (e+1)<=i->i<lo+x->rkAt rk (arrOf y) i=rkAt rk (arrOf y) (lo+x - 1)) ?turn2 ?last2 ⟨0,rfl,b,dn,by lia,fun i i1 i2=>by rw[show i=lo+(n+1) - 1 by lia]⟩) ?post2
  case last2 =>
   rintro _ y ⟨e,rfl,q⟩;rw[show max (n+1) m=m by lia]at *
   exact⟨m,e,rfl,m1,Nat.le_refl _,q⟩
  case turn2 =>
   rintro x _ y x1 x2 ⟨e,rfl,by',d,ex,al⟩
   have xz:lo+x<=(arrOf y).size:=by rw[by'.sz];lia
   dsimp only;refine wpS_bind (askL c by' (show lo+x<a0.size by lia) (show lo+x - 1<a0.size by lia) ?_)
   have one:∀xs:Array Keyed,∀i,lo+(x+1) - (0+1)<=i->i<lo+(x+1)->rkAt rk xs i=rkAt rk xs (lo+(x+1) - 1):=fun xs i i1 i2=>by rw[show i=lo+(x+1) - 1 by lia]
   by_cases g:rkAt rk (arrOf y) (lo+x)<rkAt rk (arrOf y) (lo+x - 1)
   ·simp only[g,decide_true,if_true];have d2:∀xs:Array Keyed,(∀k,rkAt rk xs k=rkAt rk (arrOf y) k)->DnL rk xs lo (x+1):=fun xs hx i j h1 h2=>by
     rw[hx,hx];exact d.more (by lia) (Int.le_of_lt g) i j h1 h2
    by_cases e0:e > 0
    ·simp only[e0,if_true];exact wpS_bind (wpS_reverse (wpS_pure ⟨0,rfl,by'.arr (mirror_perm _ _ _ _) (fun j hj=>Qw xz al j),d2 _ (Qw xz al),by lia,one _⟩))
    ·simp only[e0,if_false];exact wpS_pure ⟨0,rfl,by',d2 _ (fun _=>rfl),by lia,one _⟩
   ·simp only[g,decide_false,Bool.false_eq_true,if_false];refine wpS_bind (askL c by' (show lo+x - 1<a0.size by lia) (show lo+x<a0.size by lia) ?_)
    by_cases g2:rkAt rk (arrOf y) (lo+x - 1)<rkAt rk (arrOf y) (lo+x)
    ·simp only[g2,decide_true,if_true];exact wpS_pure ⟨x,e,rfl,by lia,by lia,by',d,ex,al⟩
    ·simp only[g2,decide_false,Bool.false_eq_true,if_false];have eqx:rkAt rk (arrOf y) (lo+x)=rkAt rk (arrOf y) (lo+x - 1):=by lia
     refine wpS_pure ⟨e+1,rfl,by',d.more (by lia) (by lia),by lia,fun i i1 i2=>?_⟩
     rw[show lo+(x+1) - 1=lo+x by lia]
     rcases Nat.lt_or_ge i (lo+x) with ix|ix
     ·rw[al i (by lia) ix,eqx]
     ·rw[show i=lo+x by lia]
  case post2 =>
   rintro _ y ⟨x,e,rfl,x1,x2,by',d,ex,al⟩
   have kz:lo+x<=(arrOf y).size:=by rw[by'.sz];lia
   dsimp only;have fin:∀(F:StateT SortSt Sem (Option Nat)),(∀y',Sl rk kd a0 z0 lo y'->DnL rk (arrOf y') lo x->wpS (model prog w) A E s F Q y')->wpS (model prog w) A E s (if e > 0 then reverseSlice' (lo+x - (e+1)) (lo+x) >>= fun _=>F else F) Q y:=by
    intro F hF
    by_cases e0:e > 0
    ·simp only[e0,if_true];refine wpS_bind (wpS_reverse (hF _ (by'.arr (mirror_perm _ _ _ _) fun j hj=>Qw kz al j) fun i j h1 h2=>?_))
     show rkAt rk (mirror (arrOf y) (lo+x - (e+1)) (lo+x) ((lo+x - (lo+x - (e+1))) / 2)) (lo+j)<=rkAt rk (mirror (arrOf y) (lo+x - (e+1)) (lo+x) ((lo+x - (lo+x - (e+1))) / 2)) (lo+i)
     rw[Qw kz al,Qw kz al];exact d i j h1 h2
    ·simp only[e0,if_false];exact hF y by' d
   refine fin _ fun y by' d=>?_
   clear fin;have hz:lo+x<=(arrOf y).size:=by rw[by'.sz];lia
   have b2:=by'.arr (mirror_perm (arrOf y) lo (lo+x) ((lo+x - lo) / 2)) fun j hj=>(Uw (rk:=rk) hz j).2 (.inl hj)
   refine wpS_bind (wpS_reverse (wpS_bind ?_));have u2:UpL rk (mirror (arrOf y) lo (lo+x) ((lo+x - lo) / 2)) lo x:=fun i j h1 h2=>by
    rw[(Uw (rk:=rk) hz (lo+i)).1 (by lia) (by lia),(Uw (rk:=rk) hz (lo+j)).1 (by lia) (by lia)]
    have:=d (x - 1 - j) (x - 1 - i) (by lia) (by lia)
    rw[show lo+(x - 1 - j)=lo+(lo+x) - 1 - (lo+j) by lia,show lo+(x - 1 - i)=lo+(lo+x) - 1 - (lo+i) by lia]at this
    exact this
   change UpL rk (arrOf (setArr y (mirror (arrOf y) lo (lo+x) ((lo+x - lo) / 2)))) lo x at u2;generalize setArr y (mirror (arrOf y) lo (lo+x) ((lo+x - lo) / 2))=v at b2 u2 ⊢;refine wpS_mono (wpS_forRange (I:=fun x c y=>y=v/\c=(none,x)/\UpL rk (arrOf v) lo x) (Q:=fun c y=>y=v/\∃n,c=(none,n)/\1<=n/\n<=m/\UpL rk (arrOf v) lo n) ?turn3 ?last3 ⟨rfl,rfl,u2⟩) ?post3
   case last3 =>
    rintro _ y ⟨rfl,rfl,u⟩;rw[show max x m=m by lia]at u ⊢
    exact⟨rfl,m,rfl,m1,Nat.le_refl _,u⟩
   case turn3 =>
    rintro x' _ y x1 x2 ⟨rfl,rfl,u⟩;dsimp only;refine wpS_bind (askL c b2 (by lia) (by lia) ?_)
    by_cases g:rkAt rk (arrOf y) (lo+x')<rkAt rk (arrOf y) (lo+x' - 1)
    ·simp only[g,decide_true,if_true];exact wpS_pure ⟨rfl,x',rfl,by lia,by lia,u⟩
    ·simp only[g,decide_false,Bool.false_eq_true,if_false];exact wpS_pure ⟨rfl,rfl,u.more (by lia) g⟩
   case post3 =>
    rintro _ y ⟨rfl,n,rfl,n1,n2,u⟩;exact wpS_pure (h n y b2 n1 n2 u)
end
abbrev Run3:=Nat×Nat×Nat
def Side:List Run3->Nat->Nat->Prop
 | [],a,b=>a=b
 | q::r,a,b=>q.1=a/\0<q.2.1/\Side r (a+q.2.1) b
theorem Um:∀{l m:List Run3}{a b:Nat},Side (l++m) a b↔∃c,Side l a c/\Side m c b
 | [],m,a,b=>⟨fun h=>⟨a,rfl,h⟩,fun⟨c,e,h⟩=>by cases e;exact h⟩
 | q::l,m,a,b=>by
  constructor
  ·rintro⟨h1,h2,h3⟩;obtain⟨c,c1,c2⟩:=Um.mp h3;exact⟨c,⟨h1,h2,c1⟩,c2⟩
  ·rintro⟨c,⟨h1,h2,c1⟩,c2⟩;exact⟨h1,h2,Um.mpr ⟨c,c1,c2⟩⟩
theorem Uk:∀{l:List Run3}{a b:Nat},Side l a b->a+l.length<=b/\∀q∈l,a<=q.1/\q.1+q.2.1<=b
 | [],a,b,h=>⟨by cases h;simp,fun q hq=>nomatch hq⟩
 | p::l,a,b,⟨h1,h2,h3⟩=>by
  obtain⟨i1,i2⟩:=Uk h3;refine⟨by simp only[List.length_cons];lia,fun q hq=>?_⟩
  rcases List.mem_cons.mp hq with rfl|m
  ·lia
  ·have:=i2 q m;lia
theorem zes{f:Run3->Run3}(hf:∀q,(f q).1=q.1/\(f q).2.1=q.2.1):∀{l:List Run3}{i a b:Nat},Side l a b->Side (l.modify i f) a b/\∀q'∈l.modify i f,∃q∈l,q'.1=q.1/\q'.2.1=q.2.1
 | [],i,a,b,h=>by simp only[List.modify_nil];exact⟨h,fun q hq=>nomatch hq⟩
 | p::l,0,a,b,⟨h1,h2,h3⟩=>by
  rw[List.modify_zero_cons];refine⟨⟨(hf p).1.trans h1,(hf p).2▸h2,(hf p).2▸h3⟩,fun q hq=>?_⟩
  rcases List.mem_cons.mp hq with rfl|m
  ·exact⟨p,List.mem_cons_self,hf p⟩
  ·exact⟨q,List.mem_cons_of_mem _ m,rfl,rfl⟩
 | p::l,i+1,a,b,⟨h1,h2,h3⟩=>by
  rw[List.modify_succ_cons];obtain⟨i1,i2⟩:=zes hf (i:=i) h3;refine⟨⟨h1,h2,i1⟩,fun q hq=>?_⟩
  rcases List.mem_cons.mp hq with rfl|m
  ·exact⟨q,List.mem_cons_self,rfl,rfl⟩
  ·obtain⟨q',m',e⟩:=i2 q m;exact⟨q',List.mem_cons_of_mem _ m',e⟩
theorem zdm{α:Type}{x y v:α}:∀(l r:List α),((l++x::y::r).set l.length v).eraseIdx (l.length+1)=l++v::r
 | [],r=>rfl
 | a::l,r=>by
  have:=zdm (x:=x) (y:=y) (v:=v) l r;simp only[List.cons_append,List.length_cons,List.set_cons_succ,List.eraseIdx_cons_succ,this]
structure Rn(rk:Value->Int)(kd:SortKind)(a0:Array Keyed)(lo:Nat)(z:SortSt):Prop where
 pm:(arrOf z).Perm a0
 kn:kindOf z=kd
 fl:failedOf z=none
 sd:Side (pendingOf z).toList 0 lo
 ls:lo<=a0.size
 up:∀q∈(pendingOf z).toList,UpL rk (arrOf z) q.1 q.2.1
theorem UpL.same{rk:Value->Int}{xs ys:Array Keyed}{lo m:Nat}(u:UpL rk xs lo m)(e:∀j,lo<=j->j<lo+m->rkAt rk ys j=rkAt rk xs j):UpL rk ys lo m:=fun i j h1 h2=>by
 rw[e (lo+i) (by lia) (by lia),e (lo+j) (by lia) (by lia)]
 exact u i j h1 h2
section
variable{prog:Program}{w:World}{A:Around}{E:qV}{s:Shared}{kd:SortKind}{rk:Value->Int}{a0:Array Keyed}{z0:SortSt}{lo:Nat}
theorem zib{i:Nat}{z:SortSt}{Q:Bool->SortSt->Prop}(c:Cmp prog w A s kd rk a0)(R:Rn rk kd a0 lo z)(hi:i+1<(pendingOf z).size)
  (h:∀y,Rn rk kd a0 lo y->(pendingOf y).size+1=(pendingOf z).size->(∀j,lo<=j->rkAt rk (arrOf y) j=rkAt rk (arrOf z) j)->Q true y):wpS (model prog w) A E s (mergeAt' i) Q z:=by
 obtain⟨l,x,y,r,el,ei⟩:∃l x y r,(pendingOf z).toList=l++x::y::r/\l.length=i:=by
  have h1:i<(pendingOf z).toList.length:=by simp;lia
  have h2:i+1<(pendingOf z).toList.length:=by simp;lia
  refine⟨(pendingOf z).toList.take i,(pendingOf z).toList[i],(pendingOf z).toList[i+1],(pendingOf z).toList.drop (i+2),?_,by simp;lia⟩
  rw[<- List.drop_eq_getElem_cons h2,<- List.drop_eq_getElem_cons h1,List.take_append_drop]
 obtain⟨sa,na,pw⟩:=x;obtain⟨sb,nb,pw2⟩:=y;have sd:=R.sd;rw[el]at sd;obtain⟨a,s1,q1,q2,q3,q4,q5⟩:=Um.mp sd;dsimp only at q1 q2 q3 q4 q5;subst q1;subst q3;have up:=R.up;rw[el]at up;obtain⟨t1,t2⟩:=Uk q5;have t3:=Uk s1;have ls:=R.ls;refine zfm (sa:=sa) (na:=na) (nb:=nb) (pw:=pw) (pw2:=pw2) c R.kn R.fl R.pm ?_ ?_ q2 q4 (by lia) (up (sa,na,pw) (by simp)) (up (sa+na,nb,pw2) (by simp)) fun y' ky fy py pe u out=>?_
 ·rw[<- Array.getElem?_toList,el,List.getElem?_append_right (by lia),show i - l.length=0 by lia];rfl
 ·rw[<- Array.getElem?_toList,el,List.getElem?_append_right (by lia),show i+1 - l.length=1 by lia];rfl
 ·have pl:(pendingOf y').toList=l++(sa,na+nb,pw)::r:=by
   rw[pe];subst ei;rw[Array.toList_eraseIdxIfInBounds,Array.toList_setIfInBounds,el];exact zdm l r
  refine h y' ⟨py,ky,fy,?_,R.ls,?_⟩ ?_ fun j hj=>out j (.inr (by lia))
  ·rw[pl];refine Um.mpr ⟨sa,s1,rfl,by show 0<na+nb;lia,?_⟩
   show Side r (sa+(na+nb)) lo
   rw[<- Nat.add_assoc];exact q5
  ·rw[pl];intro q hq;rcases List.mem_append.mp hq with m|m
   ·exact(up q (by simp[m])).same fun j j1 j2=>out j (.inl (by have:=t3.2 q m;lia))
   ·rcases List.mem_cons.mp m with rfl|m
    ·exact u
    ·exact(up q (by simp[m])).same fun j j1 j2=>out j (.inr (by have:=t2 q m;lia))
  ·have e1:(pendingOf y').size=(pendingOf y').toList.length:=by simp
   have e2:(pendingOf z).size=(pendingOf z).toList.length:=by simp
   rw[e1,e2,pl,el];simp;lia
theorem zhl{z:SortSt}{Q:Unit->SortSt->Prop}(c:Cmp prog w A s kd rk a0)(b:Sb kd a0 z)(s2:2<=a0.size)
  (h:∀y,(arrOf y).Perm a0->failedOf y=none->Up rk (arrOf y) a0.size->Q () y):wpS (model prog w) A E s sortRuns' Q z:=by
 rw[sortRuns'_eq];refine wpS_bind (wpS_get ?_);rw[b.sz];dsimp only;generalize minRun' a0.size a0.size 0=mr;refine wpS_bind (wpS_mono (wpS_forRange (Q:=fun c y=>∃lo,c=(none,lo)/\Rn rk kd a0 lo y/\a0.size<=lo)
  (I:=fun x c y=>∃lo,c=(none,lo)/\Rn rk kd a0 lo y/\x<=lo) ?turn ?last ⟨0,rfl,⟨b.pm,b.kn,b.fl,by rw[b.pe];rfl,by lia,by rw[b.pe];intro q hq;simp at hq⟩,by lia⟩) ?post)
 case last =>
  rintro _ y ⟨lo,rfl,R,hx⟩;exact⟨lo,rfl,R,by lia⟩
 case turn =>
  rintro x _ y _ hx ⟨lo,rfl,R,hl⟩;dsimp only
  by_cases ge:lo>=a0.size
  ·rw[if_pos ge];exact wpS_pure ⟨lo,rfl,R,ge⟩
  rw[if_neg ge];have rest:∀(n:Nat) (y1:SortSt),1<=n->lo+n<=a0.size->Sl rk kd a0 y lo y1->UpL rk (arrOf y1) lo n->Rn rk kd a0 lo y1:=fun n y1 n1 n2 S u=>by
   refine⟨S.pm,S.kn,S.fl,S.pe▸R.sd,R.ls,?_⟩;rw[S.pe];intro q hq;exact(R.up q hq).same fun j j1 j2=>S.lw j (by have:=(Uk R.sd).2 q hq;lia)
  have push:∀(n:Nat) (y1:SortSt),1<=n->lo+n<=a0.size->Rn rk kd a0 lo y1->UpL rk (arrOf y1) lo n->Rn rk kd a0 (lo+n) (setPending y1 ((pendingOf y1).push (lo,n,0))):=fun n y1 n1 n2 S u=>by
   have e:(pendingOf (setPending y1 ((pendingOf y1).push (lo,n,0)))).toList=(pendingOf y1).toList++[(lo,n,0)]:=by
    show((pendingOf y1).push (lo,n,0)).toList=_
    simp
   refine⟨S.pm,S.kn,S.fl,?_,n2,?_⟩
   ·rw[e];exact Um.mpr ⟨lo,S.sd,rfl,n1,rfl⟩
   ·rw[e];intro q hq;rcases List.mem_append.mp hq with m|m
    ·exact S.up q m
    ·cases List.mem_singleton.mp m;exact u
  refine wpS_bind (ziF (z0:=y) (lo:=lo) c (by lia) (by lia) ⟨R.pm,R.kn,R.fl,rfl,fun _ _=>rfl⟩ fun k y1 S1 k1 k2 u1=>?_)
  dsimp only
  by_cases g:k<mr
  rw[if_pos g];refine wpS_bind (wpS_lift (wpAny_rule ⟨rfl,wpS_bind (zjw c (n:=min (a0.size - lo) mr) (by lia) (by lia) S1 u1 fun y2 S2 u2=>?_)⟩))
  simp only[Bool.not_true,Bool.false_eq_true,if_false];have n1:1<=min (a0.size - lo) mr:=by lia
  have n2:lo+min (a0.size - lo) mr<=a0.size:=by lia
  generalize min (a0.size - lo) mr=n at u2 n1 n2 ⊢
  rotate_left 1
  rw[if_neg g];have n1:1<=k:=k1;have n2:lo+k<=a0.size:=by lia
  have S2:=S1;have u2:=u1;revert S1 u1 S2 u2;generalize y1=y2;generalize k=n at n1 n2 ⊢;intro _ _ S2 u2
  all_goals
   have R2:=rest n y2 n1 n2 S2 u2;refine wpS_bind (wpS_get ?_);cases hb:(pendingOf y2).back? with
   | none =>
    dsimp only;exact wpS_bind (wpS_modify (wpS_pure ⟨_,rfl,push n y2 n1 n2 R2 u2,by lia⟩))
   | some q =>
    obtain⟨q1,q2,q3⟩:=q;dsimp only;generalize power' a0.size (2*q1+q2) (2*q1+q2+q2+n) a0.size=pw;refine wpS_bind (wpS_mono (wpS_forRange (I:=fun _ c v=>c=(none,())/\Rn rk kd a0 lo v/\UpL rk (arrOf v) lo n) (Q:=fun c v=>c=(none,())/\Rn rk kd a0 lo v/\UpL rk (arrOf v) lo n) ?_ (fun _ _ I=>I) ⟨rfl,R2,u2⟩) ?_)
    ·rintro x' _ v _ _ ⟨rfl,Rv,uv⟩;refine wpS_bind (wpS_get ?_)
     by_cases big:(pendingOf v).size > 1
     ·rw[if_pos big,Array.getElem?_eq_getElem (by lia)]
      generalize (pendingOf v)[(pendingOf v).size - 2]'(by lia)=o
      obtain⟨o1,o2,o3⟩:=o;dsimp only
      by_cases po:o3<=pw
      ·rw[if_pos po];exact wpS_pure ⟨rfl,Rv,uv⟩
      ·rw[if_neg po];refine wpS_bind (zib c Rv (by lia) fun y' R' _ out=>?_)
       simp only[Bool.not_true,Bool.false_eq_true,if_false];exact wpS_pure ⟨rfl,R',uv.same fun j j1 _=>out j j1⟩
     ·rw[if_neg big];exact wpS_pure ⟨rfl,Rv,uv⟩
    ·rintro _ v ⟨rfl,Rv,uv⟩;dsimp only;have m:=zes (f:=fun x=>(x.1,x.2.1,pw)) (fun q=>⟨rfl,rfl⟩) (i:=(pendingOf v).size - 1) Rv.sd
     refine wpS_bind (wpS_modify (wpS_bind (wpS_modify (wpS_pure ⟨_,rfl,push n _ n1 n2 ⟨Rv.pm,Rv.kn,Rv.fl,?_,Rv.ls,?_⟩ uv,by lia⟩))))
     ·show Side ((pendingOf v).modify _ _).toList 0 lo
      rw[Array.toList_modify];exact m.1
     ·show ∀q∈((pendingOf v).modify _ _).toList,UpL rk (arrOf v) q.1 q.2.1
      rw[Array.toList_modify];intro q hq;obtain⟨q',m',e1,e2⟩:=m.2 q hq;rw[e1,e2];exact Rv.up q' m'
 case post =>
  rintro _ y ⟨lo,rfl,R,hl⟩;have el:lo=a0.size:=by have:=R.ls;lia
  subst el;dsimp only;have p0:=(Uk R.sd).1;have ps:(pendingOf y).toList.length=(pendingOf y).size:=by simp
  refine wpS_bind (wpS_mono (wpS_forRange (I:=fun x c v=>c=(none,())/\Rn rk kd a0 a0.size v/\((pendingOf v).size<=1\/(pendingOf v).size+x<=a0.size)) (Q:=fun c v=>c=(none,())/\Rn rk kd a0 a0.size v/\(pendingOf v).size<=1) ?_ ?_ ⟨rfl,R,.inr (by lia)⟩) ?_)
  ·rintro x _ v _ hx ⟨rfl,Rv,sz⟩;refine wpS_bind (wpS_get ?_)
   by_cases le:(pendingOf v).size<=1
   ·rw[if_pos le];exact wpS_pure ⟨rfl,Rv,le⟩
   rw[if_neg le];refine wpS_bind (zib c Rv ?_ fun y' R' e _=>?_)
   ·have ile:∀(p:Prop) [Decidable p] (a b n:Nat),a<=n->b<=n->(if p then a else b)<=n:=by intros;split <;> assumption
    exact Nat.lt_of_le_of_lt (Nat.add_le_add_right (ile _ _ _ ((pendingOf v).size - 2) (by lia) (Nat.le_refl _)) 1) (by lia)
   ·simp only[Bool.not_true,Bool.false_eq_true,if_false];exact wpS_pure ⟨rfl,R',.inr (by lia)⟩
  ·rintro _ v ⟨rfl,Rv,sz⟩;exact⟨rfl,Rv,by lia⟩
  ·rintro _ v ⟨rfl,Rv,sz⟩;refine wpS_pure (h v Rv.pm Rv.fl ?_);have sd:=Rv.sd;have up:=Rv.up;have ps:(pendingOf v).toList.length=(pendingOf v).size:=by simp
   generalize (pendingOf v).toList=L at sd up ps
   match L,sd,up,ps with
   | [],sd,_,_ =>
    have:(0:Nat)=a0.size:=sd;lia
   | [q],sd,up,_ =>
    obtain⟨e1,_,e2⟩:=sd;have e2:0+q.2.1=a0.size:=e2;have u:=up q (by simp)
    intro i j h1 h2;have:=u i j h1 (by lia)
    rw[e1]at this;simpa using this
   | _::_::_,_,_,ps=>simp at ps;lia
end
theorem zhk{prog:Program}{w:World}{A:Around}{E:qV}{s:Shared}{kd:SortKind}{rk:Value->Int}{a0:Array Keyed}{z:SortSt}{Q:Unit->SortSt->Prop}(c:Cmp prog w A s kd rk a0)(b:Sb kd a0 z)(s2:2<=a0.size)(_:a0.size<100000)
  (h:∀y,(arrOf y).Perm a0->failedOf y=none->Up rk (arrOf y) a0.size->Q () y):wpS (model prog w) A E s sortRuns' Q z:=zhl c b s2 h
def midH(h:Heap)(a:Addr)(vs:List Value):Heap:=((h.update a (Obj.mapSeq fun _=>#[])).push (seqObj "tuple" vs.toArray 0)).push (seqObj "list" #[] 0)
section
variable{prog:Program}{w:World}{A:Around}{E:qV}{s:Shared}{rk:Value->Int}
def Kinds(prog:Program)(w:World)(A:Around)(s:Shared)(rk:Value->Int)(vs:List Value):Prop:=2<=vs.length->∃kd,(∀(E:qV) (Q:SortKind->Shared->Prop),Q kd s->wpAny (model prog w) A (keyKind' vs.toArray) Q E s)/\Cmp prog w A s kd rk (pairsOf vs)
theorem zhy{a:Addr}{vs:List Value}{n:Nat}{P:Fin->Shared->Prop}(ho:s.heap.get? a=some (seqObj "list" vs.toArray n)) (h64:vs.length<100000) (hk:Kinds prog w A { s with heap:=midH s.heap a vs } rk vs)
  (h:∀y:SortSt,(arrOf y).Perm (pairsOf vs)->Up rk (arrOf y) vs.length->P (.done (.ret .none)) { s with heap:=sortedHeap s.heap a vs ((arrOf y).map (·.2)) }) :
  wpAny (model prog w) A (Builtin.«list.sort» ⟨[.ref a],[]⟩) P E s:=by
 rw[list_sort_plain];have la:a<s.heap.objs.size:=Heap.lt_size ho;refine wpAny_bind (listItems_at ho rfl (wpAny_bind (listUpdate_at ho rfl ?_)));obtain⟨e1,o1⟩:∃e1,(s.heap.update a (Obj.mapSeq fun _=>#[])).get? a=some (seqObj "list" #[] e1):=⟨_,get?_update_seq ho (fun _=>#[])⟩
 refine wpAny_bind (seqEpoch_at o1 rfl (wpAny_bind (wpAny_newTuple (wpAny_bind (wpAny_newList (wpAny_holding ?_))))));have o2:(midH s.heap a vs).get? a=some (seqObj "list" #[] e1):=by
  unfold midH;rw[Heap.get?_push_ne _ _ _ (by rw[size_push',Heap.size_update];exact Nat.ne_of_lt (Nat.lt_of_lt_of_le la (Nat.le_succ _))),Heap.get?_push_ne _ _ _ (by rw[Heap.size_update];exact Nat.ne_of_lt la)]
  exact o1
 show wpAny (model prog w) A _ P E { s with heap:=midH s.heap a vs }
 have z:vs.toArray.size=vs.length:=by simp
 have tail:∀(y:SortSt),(arrOf y).Perm (pairsOf vs)->failedOf y=none->Up rk (arrOf y) vs.length->wpAny (model prog w) A (do
   let touched:=(<- seqEpoch a) != e1
   Builtin.List.listUpdate (.ref a) fun _=>(arrOf y).map (·.2)
   if let some e:=failedOf y then rule "list.sort.comparison-raised";throw e
   if touched then rule "list.sort.modified";raiseError "ValueError" "list modified during sort"
   ret .none) P E { s with heap:=midH s.heap a vs }:=fun y pm fl up=>by
  refine wpAny_bind (seqEpoch_at o2 rfl (wpAny_bind (listUpdate_at o2 rfl ?_ (hsz2:=?_))))
  ·rw[fl];simp only[bne_self_eq_false,Bool.false_eq_true,if_false];exact wpAny_pure (h y pm up)
  ·rw[Array.size_map,pm.size_eq,pairsOf_size];show vs.length<=sizeLine+1
   have:100000<=sizeLine:=by decide
   omega
 by_cases two:vs.length<2
 ·simp only[z,two,if_true];refine wpAny_bind (wpAny_pure ?_);rw[StateT.run_pure];refine wpAny_bind (wpAny_pure ?_);exact tail (SortSt.mk' general' (vs.toArray.zip vs.toArray) #[] 7 none) (Array.Perm.refl _) rfl fun i j h1 h2=>absurd h2 (by omega)
 ·simp only[z,two,if_false];obtain⟨kd,k1,k2⟩:=hk (by omega)
  refine wpAny_bind (k1 _ _ ?_);refine wpAny_bind (wpAny_mono (zhk (Q:=fun _ y=>(arrOf y).Perm (pairsOf vs)/\failedOf y=none/\Up rk (arrOf y) vs.length) (z:=SortSt.mk' kd (vs.toArray.zip vs.toArray) #[] 7 none) k2 ⟨Array.Perm.refl _,rfl,rfl,rfl⟩ (by rw[pairsOf_size];omega) (by rw[pairsOf_size];exact h64)
   fun y p1 p2 p3=>⟨p1,p2,by rwa [pairsOf_size]at p3⟩) ?_ fun _ _ e=>e)
  rintro⟨⟨⟩,y⟩ s' ⟨rfl,p1,p2,p3⟩;exact tail y p1 p2 p3
theorem zei{l:Addr}{vs:List Value}{o:Obj}{T:String}{n:Nat}{Q:List Value->Shared->Prop}(ho:s.heap.get? l=some o)(hc:o.cls=.type T)(hT:T = "list" \/ T = "tuple") (hd:o.data=.seq vs.toArray n) (hz:vs.length<=sizeLine)
  (h:Q vs { s with heap:=(s.heap.push (seqObj "list" #[] 0)).update s.heap.objs.size (Obj.mapSeq (·++vs.toArray)) }):wpAny (model prog w) A (collect (.ref l)) Q E s:=by
 unfold collect;refine wpAny_bind (wpAny_runValue (codeAny_builtin entry_proto_collect' ?_));show wpAny (model prog w) _ (newList [] >>= fun x=>again (.builtin "list.__iadd__" ⟨[x,.ref l],[]⟩)) _ _ s
 refine wpAny_bind (wpAny_newList (wpAny_pure ⟨Code.quiet_builtin _ (by decide +kernel),codeAny_builtin entry_list_iadd' ?_⟩))
 show wpAny (model prog w) _ (Builtin.List.listExtendWith (.ref s.heap.objs.size) (.ref l) (.ref s.heap.objs.size)) _ _ { s with heap:=s.heap.push (seqObj "list" #[] 0) }
 unfold Builtin.List.listExtendWith;have o1:(s.heap.push (seqObj "list" #[] 0)).get? l=some o:=Heap.get?_push_of_some _ ho;refine wpAny_bind (wpAny_typeOf (T:=T) ⟨o,o1,hc⟩ ?_);have cond:∀b:Bool,(b||Value.type T == Value.type "list" ||Value.type T == Value.type "tuple")=true:=by
  intro b;have c1:(Value.type "list" == Value.type "list")=true:=rfl;have c2:(Value.type "tuple" == Value.type "tuple")=true:=rfl;rcases hT with rfl|rfl
  ·rw[c1];simp
  ·rw[c2];simp
 rw[if_pos (cond _)];refine wpAny_bind (listItems_at o1 hd (wpAny_bind (listItems_at (xs:=#[]) (n:=0) (Heap.get?_push_size _ rfl) rfl ?_)));rw[if_neg (by simp)]
 refine wpAny_bind (listUpdate_at (xs:=#[]) (n:=0) (Heap.get?_push_size _ rfl) rfl (wpAny_pure ?_) (Nat.zero_le _) (by simp only[Array.size_append,List.size_toArray,List.length_nil];omega))
 refine wpAny_bind (m:=load s.heap.objs.size) (wpAny_load (get?_update_seq (Heap.get?_push_size _ rfl) _) ?_);show wpAny (model prog w) A (pure ((#[]:Array Value)++vs.toArray).toList) Q E _
 have e:((#[]:Array Value)++vs.toArray).toList=vs:=by simp
 rw[e];exact wpAny_pure h
def preH(h:Heap)(vs:List Value):Heap:=((h.push (seqObj "list" #[] 0)).update h.objs.size (Obj.mapSeq (·++vs.toArray))).push (seqObj "list" vs.toArray 0)
theorem ze_{l:Addr}{vs:List Value}{o:Obj}{T:String}{n:Nat}{Q:qV}(ho:s.heap.get? l=some o)(hc:o.cls=.type T)(hT:T = "list" \/ T = "tuple") (hd:o.data=.seq vs.toArray n) (h64:vs.length<100000)
  (hk:∀A',Kinds prog w A' { s with heap:=midH (preH s.heap vs) (s.heap.objs.size+1) vs } rk vs)
  (h:∀y:SortSt,(arrOf y).Perm (pairsOf vs)->Up rk (arrOf y) vs.length->Q (.ref (s.heap.objs.size+1)) { s with heap:=sortedAll s.heap vs ((arrOf y).map (·.2)) }) :
  wpAny (model prog w) A (call (.builtin "sorted") [.ref l]) Q E s:=by
 refine Calls.call_function_entry kind_sorted plain_sorted entry_sorted (args_sorted1 _) ?_;unfold Builtin.«sorted»;refine wpAny_bind (m:=checkCount "sorted" 1 1 _) (wpAny_pure ?_)
 refine wpAny_bind (zei ho hc hT hd (by have:100000<=sizeLine:=by decide
                                        omega) (wpAny_bind (wpAny_newList ?_)))
 have z:((s.heap.push (seqObj "list" #[] 0)).update s.heap.objs.size (Obj.mapSeq (·++vs.toArray))).objs.size=s.heap.objs.size+1:=by rw[Heap.size_update,size_push']
 have o3:(preH s.heap vs).get? (s.heap.objs.size+1)=some (seqObj "list" vs.toArray 0):=by
  unfold preH;rw[<- z];exact Heap.get?_push_size _ rfl
 show wpAny (model prog w) _ _ _ _ { s with heap:=preH s.heap vs }
 rw[z];refine wpAny_bind (wpAny_holding (wpAny_call_entry slot_list_sort ⟨_,o3,rfl⟩ entry_list_sort (zhy o3 h64 (hk _) fun y p1 p2=>⟨_,rfl,?_⟩) (args_list_sort _)))
 exact wpAny_pure ⟨_,rfl,h y p1 p2⟩
end
section
variable{prog:Program}{w:World}{A:Around}{E:qV}{s:Shared}
theorem zgq(b:Bool)(x y:Value):keyLt' (tuples' b) x y=(do
  let xs <- Builtin.List.listItems x
  let ys <- Builtin.List.listItems y
  for ((p,q),i) in (xs.toList.zip ys.toList).zipIdx do
   if !(<- eqBool p q) then return <- oneLt' (b&&i == 0) p q
  return decide (xs.size<ys.size)):=rfl
def LtAt(prog:Program)(w:World)(A:Around)(s:Shared)(one:Bool)(p q:Value)(l:Bool):Prop:=∀(E:qV) (Q:Bool->Shared->Prop),Q l s->wpAny (model prog w) A (oneLt' one p q) Q E s
theorem zgp{b:Bool}{x y:Addr}{ox oy:Obj}{p0 p1 q0 q1:Value}{n m:Nat}{c0 c1 l0 l1:Bool}{Q:Bool->Shared->Prop}(hx:s.heap.get? x=some ox)(dx:ox.data=.seq #[p0,p1] n)(hy:s.heap.get? y=some oy)(dy:oy.data=.seq #[q0,q1] m)
  (e0:SeqAt.EqAt A s p0 q0 c0) (e1:SeqAt.EqAt A s p1 q1 c1) (t0:c0=false->LtAt prog w A s b p0 q0 l0) (t1:c1=false->LtAt prog w A s false p1 q1 l1) (h:Q (if c0=true then(if c1=true then false else l1) else l0) s) :
  wpAny (model prog w) A (keyLt' (tuples' b) (.ref x) (.ref y)) Q E s:=by
 rw[zgq];refine wpAny_bind (listItems_at hx dx (wpAny_bind (listItems_at hy dy ?_)));have ez:((#[p0,p1]:Array Value).toList.zip (#[q0,q1]:Array Value).toList).zipIdx=[((p0,q0),0),((p1,q1),1)]:=rfl;simp only[ez,List.forIn_cons,List.forIn_nil];refine wpAny_bind (wpAny_bind ?_);refine wpAny_bind (e0 prog w E _ ?_);cases c0 with
 | false =>
  simp only[Bool.not_false,if_true];have z0:(b&&(0:Nat) == 0)=b:=by simp
  rw[z0];refine wpAny_bind (t0 rfl E _ ?_);exact wpAny_pure (wpAny_pure (wpAny_pure (by simpa using h)))
 | true =>
  simp only[Bool.not_true,Bool.false_eq_true,if_false];refine wpAny_pure (wpAny_bind (wpAny_bind (e1 prog w E _ ?_)));cases c1 with
  | false =>
   simp only[Bool.not_false,if_true];have z1:(b&&(1:Nat) == 0)=false:=by simp
   rw[z1];refine wpAny_bind (t1 rfl E _ ?_);exact wpAny_pure (wpAny_pure (wpAny_pure (by simpa using h)))
  | true =>
   simp only[Bool.not_true,Bool.false_eq_true,if_false];exact wpAny_pure (wpAny_pure (wpAny_pure (by simpa using h)))
theorem zgh(a b:Int)(t u:Tok):LtAt prog w A s true (.int a t) (.int b u) (decide (a<b)):=fun _ _ q=>oneLt_int q
theorem zhx(a b:Int)(t u:Tok):LtAt prog w A s false (.int a t) (.int b u) (decide (a<b)):=fun E Q q=>by
 rw[oneLt'_eq];simp only[Bool.false_eq_true,if_false];refine wpAny_bind (show wpAny (model prog w) A (compareOp .Lt (.int a t) (.int b u)) _ E s from lt_int ?_)
 exact wpAny_truthy_bool q
def PrIn(h:Heap)(u:Value)(b k:Int):Prop:=∃(a:Addr) (o:Obj) (t t':Tok) (n:Nat),u=.ref a/\h.get? a=some o/\o.cls=.type "tuple" /\ o.data=.seq #[.int b t,.int k t'] n
def two?:List Value->Int
 | [.int b _,.int k _]=>b*1000+k
 | _=>0
def rkC(h:Heap)(u:Value):Int:=match u with
 | .ref a=>match h.get? a with
  | some o=>match o.data with
   | .seq xs _=>two? xs.toList
   | _=>0
  | none=>0
 | _=>0
theorem PrIn.rk{h:Heap}{u:Value}{b k:Int}(p:PrIn h u b k):rkC h u=b*1000+k:=by
 obtain⟨a,o,t,t',n,rfl,e1,_,e2⟩:=p;simp only[rkC,e1,e2,two?]
theorem PrIn.kept{h h':Heap}{u:Value}{b k:Int}(p:PrIn h u b k)(kp:∀b o,h.get? b=some o->h'.get? b=some o):PrIn h' u b k:=by
 obtain⟨a,o,t,t',n,e0,e1,e2,e3⟩:=p;exact⟨a,o,t,t',n,e0,kp _ _ e1,e2,e3⟩
theorem zc9{α β:Type}{f:α->Sem β}{P:α->β->Prop}{M:Model}:∀(l:List α) {Q:List β->Shared->Prop},(∀v∈l,∀(Q':β->Shared->Prop),(∀r,P v r->Q' r s)->wpAny M A (f v) Q' E s)->(∀rs,Paired P l rs->Q rs s)->wpAny M A (l.mapM f) Q E s
 | [],_,_,h=>by rw[List.mapM_nil];exact wpAny_pure (h _ .nil)
 | x::l,Q,hf,h=>by
  rw[List.mapM_cons];exact wpAny_bind (hf x (.head _) _ fun r hr=>wpAny_bind (zc9 l (fun v hv=>hf v (.tail _ hv)) fun rs hrs=>wpAny_pure (h _ (.cons hr hrs))))
theorem zhM(v:Value):firstOfTuple' v=(do
  if (<- typeOf v) != .type "tuple" then return none
  return (<- Builtin.List.listItems v)[0]?):=rfl
theorem zfq{vs:List Value}{Q:SortKind->Shared->Prop}(h1:1<=vs.length)(hp:∀v∈vs,∃b k,PrIn s.heap v b k)(h:Q (tuples' true) s):wpAny (model prog w) A (keyKind' vs.toArray) Q E s:=by
 rw[keyKind'_eq,List.mapM_toArray,map_eq_pure_bind];refine wpAny_bind (wpAny_bind (zc9 (P:=fun _ r=>∃(b:Int) (t:Tok),r=some (.int b t)) vs (fun v hv Q' hq=>?_) fun rs hrs=>wpAny_pure ?_))
 ·obtain⟨b,k,a,o,t,t',n,rfl,e1,e2,e3⟩:=hp v hv;rw[zhM];refine wpAny_bind (wpAny_typeOf (T:="tuple") ⟨o,e1,e2⟩ ?_);rw[if_neg (by decide)]
  exact wpAny_bind (listItems_at e1 e3 (wpAny_pure (hq _ ⟨b,t,rfl⟩)))
 ·have al:∀r∈rs,∃(b:Int) (t:Tok),r=some (.int b t):=by
   clear h hp h1;induction hrs with
   | nil=>intro r hr;cases hr
   | cons x y ih =>
    intro r hr;rcases List.mem_cons.mp hr with rfl|hr
    ·exact x
    ·exact ih r hr
  have ln:rs.length=vs.length:=by
   clear h hp h1 al;induction hrs with
   | nil=>rfl
   | cons x y ih=>simp[ih]
  have hall:(rs.toArray.all fun x=>x.isSome)=true:=by
   simp only[List.all_toArray,List.all_eq_true];intro x hx;obtain⟨b,t,rfl⟩:=al x hx
   rfl
  rw[if_pos hall];refine wpAny_bind (wpAny_rule ?_);rw[oneTypeOnly'_eq];have hfm:rs.toArray.filterMap id=(rs.filterMap id).toArray:=by simp
  rw[hfm,List.mapM_toArray,map_eq_pure_bind];refine wpAny_bind (wpAny_bind (wpAny_bind (zc9 (P:=fun _ r=>r=Value.type "int") _ (fun v hv Q' hq=>?_) fun ts hts=>wpAny_pure ?_)))
  ·obtain⟨x,hx,e⟩:=List.mem_filterMap.mp hv;obtain⟨b,t,rfl⟩:=al x hx;cases e;exact wpAny_pure (hq _ rfl)
  ·have al2:∀r∈ts,r=Value.type "int":=by
    clear h hp h1;generalize rs.filterMap id=l at hts;induction hts with
    | nil=>intro r hr;cases hr
    | cons x y ih =>
     intro r hr;rcases List.mem_cons.mp hr with rfl|hr
     ·exact x
     ·exact ih r hr
   have ln2:ts.length=rs.length:=by
    have:ts.length=(rs.filterMap id).length:=by
     clear h hp h1 al2;generalize rs.filterMap id=l at hts;induction hts with
     | nil=>rfl
     | cons x y ih=>simp[ih]
    rw[this];clear this hts hfm hall;clear ln hrs;induction rs with
    | nil=>rfl
    | cons x l ih =>
     obtain⟨b,t,rfl⟩:=al x (.head _);simp only[List.filterMap_cons,id,List.length_cons];rw[ih fun r hr=>al r (.tail _ hr)]
   obtain⟨r1,rr,rfl⟩:∃r1 rr,ts=r1::rr:=by
    cases ts with
    | nil=>simp at ln2;omega
    | cons a b=>exact⟨a,b,rfl⟩
   have e1:r1=Value.type "int":=al2 r1 (.head _);subst e1;have hall2:(((Value.type "int")::rr).toArray.all fun x=>x == Value.type "int")=true:=by
    simp only[List.all_toArray,List.all_eq_true];intro x hx;rw[al2 x hx];rfl
   have h0:((Value.type "int")::rr).toArray[0]?=some (Value.type "int"):=by simp
   rw[h0];simp only[hall2,if_true];refine wpAny_pure (wpAny_pure ?_);exact h
theorem zec{vs:List Value}{h0:Heap}(hp:∀v∈vs,∃b k,PrIn s.heap v b k/\rkC h0 v=b*1000+k/\0<=k/\k<1000):Kinds prog w A s (rkC h0) vs:=fun h2=>by
 refine⟨tuples' true,fun E Q q=>zfq (by omega) (fun v hv=>?_) q,fun p q E Q mp mq h=>?_⟩
 ·obtain⟨b,k,h,_⟩:=hp v hv;exact⟨b,k,h⟩
 ·have mem:∀z∈(pairsOf vs).toList,z.1∈vs:=fun z hz=>by
   have:z∈vs.zip vs:=by simpa[pairsOf] using hz
   exact(List.of_mem_zip this).1
  obtain⟨b,k,⟨a,o,t,t',n,e0,e1,e2,e3⟩,r1,k0,k1⟩:=hp _ (mem p mp);obtain⟨b',k',⟨a',o',u,u',n',f0,f1,f2,f3⟩,r2,k0',k1'⟩:=hp _ (mem q mq);rw[r1,r2]at h;rw[e0,f0];refine zgp e1 e3 f1 f3 (SeqAt.EqAt.int_int b t b' u) (SeqAt.EqAt.int_int k t' k' u') (fun _=>zgh b b' t u) (fun _=>zhx k k' t' u') ?_
  have:(if (b == b')=true then(if (k == k')=true then false else decide (k<k')) else decide (b<b'))=decide (b*1000+k<b'*1000+k'):=by
   simp only[beq_iff_eq];split
   ·split
    ·symm;rw[decide_eq_false_iff_not];omega
    ·rw[decide_eq_decide];omega
   ·rw[decide_eq_decide];omega
  rw[this];exact h
end
theorem zc1{α β:Type}{l:List (α×β)}{m:List β}(h:m.Perm (l.map (·.2))):∃l':List (α×β),l'.Perm l/\l'.map (·.2)=m:=by
 induction m generalizing l with
 | nil =>
  have:l.map (·.2)=[]:=h.symm.eq_nil;cases l with
  | nil=>exact⟨[],.refl _,rfl⟩
  | cons a b=>simp at this
 | cons x m ih =>
  have hx:x∈l.map (·.2):=h.mem_iff.mp (.head _);obtain⟨z,hz,rfl⟩:=List.mem_map.mp hx;obtain⟨l1,l2,rfl⟩:=List.append_of_mem hz;have h2:(z.2::m).Perm (z.2::(l1++l2).map (·.2)):=by
   refine h.trans ?_;simp only[List.map_append,List.map_cons];exact List.perm_middle
  obtain⟨l',p,e⟩:=ih (List.perm_cons _|>.mp h2)
  exact⟨z::l',(p.cons z).trans List.perm_middle.symm,by simp[e]⟩
theorem zfj{h:Heap}{vs:List Value}{b:Addr}{o:Obj}(hb:h.get? b=some o):(midH (preH h vs) (h.objs.size+1) vs).get? b=some o:=by
 have hlt:b<h.objs.size:=Heap.lt_size hb;unfold midH preH;rw[Heap.get?_push_ne _ _ _ (by rw[size_push',Heap.size_update,size_push',Heap.size_update,size_push'];exact Nat.ne_of_lt (Nat.lt_of_lt_of_le hlt (by lia))),Heap.get?_push_ne _ _ _ (by rw[Heap.size_update,size_push',Heap.size_update,size_push'];exact Nat.ne_of_lt (Nat.lt_of_lt_of_le hlt (by lia))),
  Heap.get?_update_ne _ _ _ _ (by exact Nat.ne_of_lt (Nat.lt_of_lt_of_le hlt (by lia))),Heap.get?_push_ne _ _ _ (by rw[Heap.size_update,size_push'];exact Nat.ne_of_lt (Nat.lt_of_lt_of_le hlt (by lia))),Heap.get?_update_ne _ _ _ _ (by exact Nat.ne_of_lt (Nat.lt_of_lt_of_le hlt (by lia))),Heap.get?_push_ne _ _ _ (by exact Nat.ne_of_lt (Nat.lt_of_lt_of_le hlt (by lia)))]
 exact hb
def rkD:PyData->Int
 | .tuple [.int b,.int k]=>b*1000+k
 | _=>0
def PrV(K:qF)(H:Hp)(z:V×PyData):Prop:=∃q b k,z.1=.ref q/\z.2=.tuple [.int b,.int k]/\SqT K H q [.int b,.int k]/\0<=k/\k<1000
section
variable{X:Cx}
theorem zdN:JB X (.builtin "sorted") (fun xs H Q=>∃(p:Addr) (zs:List (V×PyData)),xs=[.ref p]/\(SqL X.K H p (zs.map (·.1))\/SqT X.K H p (zs.map (·.1)))/\zs.length<100000/\(∀z∈zs,PrV X.K H z) /\
  ∀zs':List (V×PyData),zs'.Perm zs->zs'.Pairwise (fun a b=>rkD a.2<=rkD b.2)->∀l,H l=none->Q (.ref l) (upd H l (.lst (zs'.map (·.1))))):=by
 intro pins s σ H xs us Q I r h;obtain⟨p,zs,rfl,hq,h64,hp,q⟩:=h;obtain⟨u,rfl,rx⟩:=vals1 r;cases rx;have key:∀(its:List Value) (o:Obj) (T:String) (n:Nat),Vals (zs.map (·.1)) its->s.heap.get? p=some o->o.cls=.type T->(T = "list" \/ T = "tuple")->o.data=.seq its.toArray n -> 
   wpAny (model X.prog X.w) X.A (call (.builtin "sorted") [.ref p]) (EP X pins σ Q) X.xe s:=fun its o T n rv ho hc hT hd=>by
  have hlen:zs.length=its.length:=by simpa using rv.length
  have each:∀x∈zs.zip its,RelV x.1.1 x.2/\∃b k,PrIn s.heap x.2 b k/\x.1.2=.tuple [.int b,.int k]/\0<=k/\k<1000:=by
   have rel:∀(zs:List (V×PyData)) (its:List Value),Vals (zs.map (·.1)) its->∀x∈zs.zip its,RelV x.1.1 x.2:=by
    intro zs;induction zs with
    | nil=>intro its _ x hx;simp at hx
    | cons z zs ih =>
     intro its r x hx;cases r with
     | cons r1 r2 =>
      rcases List.mem_cons.mp (by simpa using hx) with rfl|hx
      ·exact r1
      ·exact ih _ r2 x hx
   intro x hx;have r1:=rel zs its rv x hx;obtain⟨q',b,k,e1,e2,e3,k0,k1⟩:=hp x.1 (List.of_mem_zip hx).1;refine⟨r1,b,k,?_,e2,k0,k1⟩;rw[e1]at r1;obtain⟨is,rs,⟨o',f1,f2,n',f3⟩,_⟩:=I.tuple e3;cases rs with
   | cons a1 a2 =>
    cases a2 with
    | cons a3 a4 =>
     cases a4;obtain⟨t,rfl⟩:=a1;obtain⟨t',rfl⟩:=a3;exact⟨q',o',t,t',n',r1,f1,f2,f3⟩
  refine ze_ (rk:=rkC s.heap) ho hc hT hd (by lia) (fun A'=>zec fun v hv=>?_) fun y pm up=>?_
  ·obtain⟨i,hi,rfl⟩:=List.getElem_of_mem hv;have hz:i<zs.length:=by lia
   have mem:(zs[i],its[i])∈zs.zip its:=by
    have:(zs.zip its)[i]'(by simp;lia)=(zs[i],its[i]):=by simp
    rw[<- this];exact List.getElem_mem _
   obtain⟨_,b,k,h1,_,k0,k1⟩:=each _ mem;exact⟨b,k,h1.kept fun _ _ e=>zfj e,h1.rk,k0,k1⟩
  ·have pml:(arrOf y).toList.Perm (its.zip its):=by
    have:=Array.perm_iff_toList_perm.mp pm;simpa[pairsOf] using this
   have pm1:((arrOf y).toList.map (·.2)).Perm ((zs.zip its).map (·.2)):=by
    refine(pml.map _).trans ?_;rw[List.map_snd_zip (by lia),List.map_snd_zip (by lia)]
   obtain⟨ws,p1,p2⟩:=zc1 pm1;have eachw:∀x∈ws,RelV x.1.1 x.2/\∃b k,PrIn s.heap x.2 b k/\x.1.2=.tuple [.int b,.int k]/\0<=k/\k<1000:=fun x hx=>each x (p1.mem_iff.mp hx)
   have pz:(ws.map (·.1)).Perm zs:=by
    have:=p1.map (·.1)
    rwa [List.map_fst_zip (by lia)]at this
   have rw':Vals ((ws.map (·.1)).map (·.1)) (ws.map (·.2)):=by
    have:∀ws:List ((V×PyData)×Value),(∀x∈ws,RelV x.1.1 x.2)->Vals ((ws.map (·.1)).map (·.1)) (ws.map (·.2)):=by
     intro ws;induction ws with
     | nil=>intro _;exact .nil
     | cons a l ih=>intro h;exact .cons (h a (.head _)) (ih fun x hx=>h x (.tail _ hx))
    exact this ws fun x hx=>(eachw x hx).1
   have rkeq:∀x∈ws,rkC s.heap x.2=rkD x.1.2:=fun x hx=>by
    obtain⟨_,b,k,h1,h2,_⟩:=eachw x hx;rw[h1.rk,h2];rfl
   have fst_snd:∀z∈(arrOf y).toList,z.1=z.2:=fun z hz=>by
    have:z∈its.zip its:=pml.mem_iff.mp hz;obtain⟨i,hi,rfl⟩:=List.getElem_of_mem this;simp
   have szy:(arrOf y).size=its.length:=by
    have:=pml.length_eq;simpa using this
   have pw:(ws.map (·.1)).Pairwise (fun a b=>rkD a.2<=rkD b.2):=by
    rw[List.pairwise_map,List.pairwise_iff_getElem];intro i j hi hj hij;have lw:ws.length=its.length:=by
     have:=congrArg List.length p2;simpa[szy] using this
    have gw:∀k (hk:k<ws.length),rkAt (rkC s.heap) (arrOf y) k=rkD ws[k].1.2:=fun k hk=>by
     have hk':k<(arrOf y).size:=by lia
     have e1:(arrOf y).toList[k]'(by simpa using hk')=(arrOf y)[k]:=by simp
     have e2:ws[k].2=(arrOf y)[k].2:=by
      have:(ws.map (·.2))[k]'(by simpa using hk)=((arrOf y).toList.map (·.2))[k]'(by simpa using hk'):=by simp only[p2]
      simpa using this
     have e3:(arrOf y)[k].1=(arrOf y)[k].2:=fst_snd _ (by rw[<- e1];exact List.getElem_mem _)
     unfold rkAt;rw[Array.getElem?_eq_getElem hk'];simp only[Option.map_some,Option.getD_some];rw[e3,<- e2];exact rkeq _ (List.getElem_mem _)
    have:=up i j hij (by lia)
    rwa [gw i hi,gw j hj]at this
   have ev:(arrOf y).map (·.2)=(ws.map (·.2)).toArray:=by
    apply Array.toList_inj.mp;rw[Array.toList_map,p2]
   rw[ev];obtain⟨e,he⟩:=sortedAll_at s.heap its (ws.map (·.2)).toArray;refine⟨.ref (s.heap.objs.size+1),_,I.laid (a:=s.heap.objs.size+1) (o:=.lst ((ws.map (·.1)).map (·.1))) (t':=s.toks) (fun _ _=>sortedAll_old) (Nat.le_succ _) ?_,rfl,q _ pz pw _ (I.hok.fresh (Nat.le_succ _))⟩
   refine⟨?_,ws.map (·.2),e,rw',he⟩;have:100000<=sizeLine:=by decide
   have:=pz.length_eq;simp at this ⊢;lia
 rcases hq with hq|hq
 ·obtain⟨its,r',pl,hz⟩:=I.list hq;obtain⟨o,ho,hc,n,hd⟩:=pl.isList;exact key its o "list" n r' ho hc (.inl rfl) hd
 ·obtain⟨its,r',pl,hz⟩:=I.tuple hq;obtain⟨o,ho,hc,n,hd⟩:=pl;exact key its o "tuple" n r' ho hc (.inr rfl) hd
end
def IsPr(t:PyData):Prop:=∃b k:Int,t=.tuple [.int b,.int k]/\0<=k/\k<1000
def Q0(t:PyData)(R:List PyData->Prop):Prop:=QS t fun ts=>ts.length<100000/\(∀x∈ts,IsPr x)/\∀ts':List PyData,ts'.Perm ts->ts'.Pairwise (fun a b=>rkD a<=rkD b)->R ts'
def zjt(d:DTE):DTA:=fun ρ n R=>d ρ n fun t n1=>Q0 t fun ts=>R ts n1
section
variable{X:Cx}{e:Expr}{d:DTE}{pos p:Pos}{k:Nat}
theorem zdF(hr:Room k X.A)(hm:X.mg "sorted" = none) (h:DL X e d) (hs:starEach [e] X.env=[(false,eval e X.env)]) (hg:Gl X "sorted":=by rfl):DN X (.Call (.Name "sorted" p) [e] [] pos) (zjt d):=by
 obtain⟨ta,pa,h⟩:=h;refine⟨_,ziW zdN hm boot_sorted (Qd pa QD hs) hg,fun C ρ σ H n Q R S hd hq=>?_⟩
 refine h C ρ σ H n _ _ S hd fun t n1 v H1 r1 e1 h1 q1=>?_
 have S1:=S.on e1 h1;have fin:∀p vs ts,Reps X.K C.hd (Own C ρ σ) H1 vs ts->R ts n1->H1 p=none->Q (.ref p) (upd H1 p (.lst vs)):=fun p vs ts rp rr hp=>by
  have hp0:H p=none:=by
   cases z:H p with
   | none=>rfl
   | some o =>
    by_cases y:C.hd=some p
    ·obtain⟨d,m,t,q,_⟩:=h1 p y;rw[hp]at q;cases q
    ·rw[e1 p o z y]at hp;cases hp
  refine hq ts n1 p vs _ rr (e1.trans (ExtE.new hp)) (h1.same (J4 hp)) hp0 JC ?_;refine rp.mono (fun b o hb z=>z.elim id fun z=>?_) fun b o _ hb=>J4 hp b o hb
  subst z;rw[hp]at hb;cases hb
 have go:∀(p:Addr) vs ts,(SqL X.K H1 p vs\/SqT X.K H1 p vs)->Reps X.K C.hd (Own C ρ σ) H1 vs ts->(ts.length<100000/\(∀x∈ts,IsPr x)/\∀ts':List PyData,ts'.Perm ts->ts'.Pairwise (fun a b=>rkD a<=rkD b)->R ts' n1) ->
   ∃(p':Addr) (zs:List (V×PyData)),[V.ref p]=[V.ref p']/\(SqL X.K H1 p' (zs.map (·.1))\/SqT X.K H1 p' (zs.map (·.1)))/\zs.length<100000/\(∀z∈zs,PrV X.K H1 z) /\
  ∀zs':List (V×PyData),zs'.Perm zs->zs'.Pairwise (fun a b=>rkD a.2<=rkD b.2)->∀l,H1 l=none->Q (.ref l) (upd H1 l (.lst (zs'.map (·.1)))):=fun p vs ts hs rp h=>by
  have ln:=rp.length;have rel:∀z∈vs.zip ts,Rep X.K C.hd (Own C ρ σ) H1 z.1 z.2:=fun z hz=>by
   obtain⟨i,hi,rfl⟩:=List.getElem_of_mem hz;have hi2:i<ts.length:=by simp at hi;lia
   obtain⟨v,h1,h2⟩:=rp.get (List.getElem?_eq_getElem hi2);have hi1:i<vs.length:=by lia
   rw[List.getElem?_eq_getElem hi1]at h1;cases h1;simpa using h2
  refine⟨p,vs.zip ts,rfl,?_,by simp;lia,fun z hz=>?_,fun zs' pm pw l hl=>?_⟩
  ·rw[List.map_fst_zip (by lia)];exact hs
  ·obtain⟨b,k,e,k0,k1⟩:=h.2.1 z.2 (List.of_mem_zip hz).2;have r:=rel z hz;rw[e]at r;obtain⟨a,ws,e1,e2,e3⟩:=r.tupI;cases e3 with
   | cons x1 x2 =>
    cases x2 with
    | cons x3 x4 =>
     cases x4;rw[x1.intI,x3.intI]at e2;exact⟨a,b,k,e1,e,e2,k0,k1⟩
  ·refine fin l _ (zs'.map (·.2)) ?_ (h.2.2 _ ?_ ?_) hl
   ·have:∀zs:List (V×PyData),(∀z∈zs,Rep X.K C.hd (Own C ρ σ) H1 z.1 z.2)->Reps X.K C.hd (Own C ρ σ) H1 (zs.map (·.1)) (zs.map (·.2)):=by
     intro zs;induction zs with
     | nil=>intro _;exact .nil
     | cons a l ih=>intro h;exact .cons (h a (.head _)) (ih fun x hx=>h x (.tail _ hx))
    exact this zs' fun z hz=>rel z (pm.mem_iff.mp hz)
   ·have:=pm.map (·.2)
    rwa [List.map_snd_zip (by lia)]at this
   ·rw[List.pairwise_map];exact pw
 cases t with
 | list ts =>
  obtain⟨p,vs,rfl,h1',h2⟩:=q1.lstI;exact go p vs ts (.inl (.of h1')) h2 r1
 | tuple ts =>
  obtain⟨p,vs,rfl,h1',h2⟩:=q1.tupI;exact go p vs ts (.inr h1') h2 r1
 | _=>exact r1.elim
end
abbrev prD(b:Int×Int):PyData:=.tuple [.int b.1,.int b.2]
def pD(bs:qB):List PyData:=bs.map prD
theorem JG{bs:qB}:(pD bs).length=bs.length:=by simp[pD]
theorem zkl{bs cs:qB}:pD bs++pD cs=pD (bs++cs):=by simp[pD]
theorem zf2{i h:Int}{bs:qB}:pD bs++[.tuple [.int i,.int h]]=pD (bs++[(i,h)]):=by simp[pD]
theorem zkj{bs:qB}{k:Nat}{t:PyData}(h:(pD bs)[k]?=some t):∃i g:Int,bs[k]?=some (i,g)/\t=.tuple [.int i,.int g]:=by
 unfold pD at h;rw[List.getElem?_map]at h;cases e:bs[k]? with
 | none=>rw[e]at h;cases h
 | some b=>rw[e]at h;cases h;exact⟨b.1,b.2,rfl,rfl⟩
def eB(b:Int×Int):Int:=b.1+2 ^ b.2.toNat
def Bks(bits:Int)(bs:qB):Prop:=∀b∈bs,IsBk bits b.1 b.2
def Ptc(bits:Int)(bs:qB):Prop:=Bks bits bs/\bs.Pairwise fun a b=>eB a<=b.1
theorem JL(b:Int×Int):b.1<eB b:=by have:=Bd.zaf b.2.toNat;unfold eB;lia
theorem zd7:Okd (.list []):=⟨by simp[PyData.canLay0,PyData.canLayAll0],by simp[PyData.depth,PyData.depthAll]⟩
theorem zji{d:DTE}{ρ:En}{n:Nat}{Rl:List PyData->Nat->Prop}(h:d ρ n fun t n1=>Q0 t fun ts=>Rl ts n1):zjt d ρ n Rl:=h
theorem zkR{bits:Int}{bs:qB}{Rl:List PyData->Prop}(hb:bits<=64)(B:Bks bits bs)(dis:bs.Pairwise fun a b=>eB a<=b.1\/eB b<=a.1)(h64:bs.length<100000)
  (h:∀cs,Ptc bits cs->cs.Perm bs->Rl (pD cs)):Q0 (.list (pD bs)) Rl:=by
 refine⟨by rw[JG];exact h64,fun x hx=>?_,fun ts' pm pw=>?_⟩
 ·obtain⟨b,hb',rfl⟩:=List.mem_map.mp hx;have:=B b hb';exact⟨b.1,b.2,rfl,this.1,by have:=this.2.1;lia⟩
 ·have pm':ts'.Perm ((bs.map fun b=>(b,prD b)).map (·.2)):=by
   have:(bs.map fun b=>(b,prD b)).map (·.2)=pD bs:=by simp[pD]
   rw[this];exact pm
  obtain⟨zs,p1,p2⟩:=zc1 pm';have ez:∀z∈zs,z.2=prD z.1:=fun z hz=>by
   obtain⟨b,_,rfl⟩:=List.mem_map.mp (p1.mem_iff.mp hz)
   rfl
  have e:ts'=pD (zs.map (·.1)):=by
   rw[<- p2];unfold pD;rw[List.map_map];exact List.map_congr_left fun z hz=>ez z hz
  have pc:(zs.map (·.1)).Perm bs:=by
   have:=p1.map (·.1);rw[List.map_map]at this;have e2:bs.map ((fun x:(Int×Int)×PyData=>x.1)∘fun b=>(b,prD b))=bs:=by
    show bs.map id=bs
    exact List.map_id _
   rwa [e2]at this
  rw[e];have dis':(zs.map (·.1)).Pairwise fun a b=>eB a<=b.1\/eB b<=a.1:=(pc.pairwise_iff (fun {a b} h=>h.symm)).mpr dis
  have B':Bks bits (zs.map (·.1)):=fun b hb=>B b (pc.mem_iff.mp hb)
  rw[e]at pw;unfold pD at pw;rw[List.pairwise_map]at pw;refine h _ ⟨B',?_⟩ pc;have both:=List.Pairwise.and dis' pw;refine List.Pairwise.imp_of_mem ?_ both;rintro a b ha hb ⟨h1,h2⟩;have h2:a.1*1000+a.2<=b.1*1000+b.2:=h2;have a0:=(B' a ha).1;have a1:=(B' a ha).2.1;have b0:=(B' b hb).1;have b1:=(B' b hb).2.1;have:=JL a;have:=JL b;lia
theorem zlJ{tg:DTG}{tt:DTT}{d:DTE}{ρ0:En}{Rl:List PyData->Nat->Prop}(Inv:Nat->List PyData->Nat->Prop):∀(xs:qD) (i:Nat) {acc:qD}{n:Nat},Inv i acc n ->
  (∀(k:Nat) (x:PyData) (acc:qD) (n:Nat) (K:List PyData->Nat->Prop),xs[k]?=some x->Inv (i+k) acc n->(∀acc' n',Inv (i+k+1) acc' n'->K acc' n') ->
   tg x ρ0 fun ρ1=>tt ρ1 n fun b n2=>if b=true then d ρ1 n2 fun t n3=>acc.length<16777216/\K (acc++[t]) n3 else K acc n2) ->
  (∀acc n,Inv (i+xs.length) acc n->Rl acc n)->Jw tg tt d ρ0 xs acc n Rl
 | [],i,acc,n,h0,_,fin=>fin acc n (by simpa using h0)
 | x::xs,i,acc,n,h0,turn,fin=>by
  refine turn 0 x acc n (fun acc n=>Jw tg tt d ρ0 xs acc n Rl) rfl (by simpa using h0) fun acc' n' h'=>?_
  refine zlJ Inv xs (i+1) (by simpa using h') (fun k u acc n K e hI hK=>?_) (fun acc n h=>fin acc n ?_)
  ·refine turn (k+1) u acc n K (by simpa using e) ?_ fun acc' n' h'=>hK acc' n' ?_
   ·have:i+(k+1)=i+1+k:=by lia
    rw[this];exact hI
   ·have:i+1+k+1=i+(k+1)+1:=by lia
    rw[this];exact h'
  ·have:i+(x::xs).length=i+1+xs.length:=by simp;lia
   rw[this]at *;exact h
theorem zg2{tg:DTG}{tt:DTT}{d:DTE}{ρ0:En}{Rl:List PyData->Nat->Prop}{xs:qD}{n:Nat}(Inv:Nat->List PyData->Nat->Prop)(h0:Inv 0 [] n)
  (turn:∀(k:Nat) (x:PyData) (acc:qD) (n:Nat) (K:List PyData->Nat->Prop),xs[k]?=some x->Inv k acc n->(∀acc' n',Inv (k+1) acc' n'->K acc' n') ->
   tg x ρ0 fun ρ1=>tt ρ1 n fun b n2=>if b=true then d ρ1 n2 fun t n3=>acc.length<16777216/\K (acc++[t]) n3 else K acc n2)
  (fin:∀acc n,Inv xs.length acc n->Rl acc n):Jw tg tt d ρ0 xs [] n Rl :=
 zlJ Inv xs 0 h0 (fun k x acc n K e hI hK=>turn k x acc n K e (by simpa using hI) fun a m h=>hK a m (by simpa using h)) fun acc n h=>fin acc n (by simpa using h)
theorem zcy{α:Type}{cs:List α}{D:α->PyData}{tg:DTG}{tt:DTT}{d:DTE}{ρ0:En}{n:Nat}{Rl:List PyData->Nat->Prop}(F:α->PyData)(hl:cs.length<=16777216)
  (step:∀b∈cs,∀(K:qN) (X:Nat->Prop),K (F b) n->tg (D b) ρ0 fun ρ1=>tt ρ1 n fun c n2=>if c=true then d ρ1 n2 K else X n2) (fin:Rl (cs.map F) n):Jw tg tt d ρ0 (cs.map D) [] n Rl:=by
 refine zg2 (fun j acc m=>m=n/\acc=(cs.take j).map F) ⟨rfl,rfl⟩ ?_ ?_
 ·rintro j x acc m K ej ⟨rfl,rfl⟩ hK;rw[List.getElem?_map]at ej;cases eb:cs[j]? with
  | none=>rw[eb]at ej;cases ej
  | some b =>
   rw[eb]at ej;cases ej;obtain⟨hj,e2⟩:=List.getElem?_eq_some_iff.mp eb;refine step b (List.mem_of_getElem? eb) _ _ ⟨?_,hK _ _ ⟨rfl,?_⟩⟩
   ·simp;lia
   ·rw[List.take_succ,eb];simp
 ·rintro acc m ⟨rfl,rfl⟩;rw[List.length_map,List.take_length];exact fin
theorem zng{bs:List Bool}{R:PyData->Prop}(h:R (.bool (bs.all id))):bAll [.list (bs.map PyData.bool)] R:=⟨bs,rfl,h⟩
theorem zik{α:Type}{cs:List α}{f:α->Bool}{R:PyData->Prop}(h:R (.bool (cs.all f))):bAll [.list (cs.map fun b=>PyData.bool (f b))] R:=by
 have e:(cs.map fun b=>PyData.bool (f b))=(cs.map f).map PyData.bool:=by simp
 rw[e];refine zng ?_;have e2:(cs.map f).all id=cs.all f:=by simp[List.all_map,Function.comp_def]
 rw[e2];exact h
theorem ziv{many:Int}{n:Nat}{R:qN}(h0:0<many)(h1:many<2 ^ 128)(hn:n<=1000000000000)(h:∀r:Int,0<=r->r<many->R (.int r) (n+1)):Ua [HAND,.int many] n R:=⟨rfl,h0,h1,hn,h⟩
theorem Bks.app{bits i h:Int}{bs:qB}(B:Bks bits bs)(C:IsBk bits i h):Bks bits (bs++[(i,h)]):=fun b hb=>by
 rcases List.mem_append.mp hb with z|z
 ·exact B b z
 ·cases List.mem_singleton.mp z;exact C
abbrev DTO:=En->Nat->(Option Int->Nat->Prop)->Prop
class Stp (P:Prop)(Q:outParam Prop):Prop where
 go:Q->P
section
variable{t u tb:DTS}{D:DEnds}{ρ ρ0:En}{n i j m:Nat}{d da db dc d1 d2:DTE}{ds di:DTA}{c c' tt:DTT}{g:G2}{g':G2}{gc:GC}{gd:GD}{tg:DTG}{tgs:DTGs}{R:qN}{Rb:Bool->Nat->Prop}{Rl:List PyData->Nat->Prop}{Re:En->Prop}{x y:PyData}{xs ys acc:qD}{f:Int->Int->Int}{fb:PyData->Bool}{k:Bool}{capt:List Nat}
instance zlZ :Stp (sSeq t u D ρ n) ((t { D with nx:=u D } ρ n)):=⟨fun h=>zk4 h⟩
instance zjW :Stp (ziE D ρ n) ((D.nx ρ n)):=⟨fun h=>zjf h⟩
instance zl0 :Stp (sRet d D ρ n) ((d ρ n fun t n'=>D.rt t n')):=⟨fun h=>zk5 h⟩
instance zmy :Stp (sIf c t u D ρ n) ((c ρ n fun b n1=>if b=true then t D ρ n1 else u D ρ n1)):=⟨fun h=>zna h⟩
instance zl2 :Stp (sAsg d tg D ρ n) ((d ρ n fun t n'=>tg t ρ fun ρ'=>D.nx ρ' n')):=⟨fun h=>zk7 h⟩
instance zl1 :Stp (sFor di tg tb D ρ n) ((di ρ n fun ts n1=>forP tg tb D ts ρ n1)):=⟨fun h=>zk6 h⟩
instance znB :Stp (dC x ρ n R) ((R x n)):=⟨fun h=>i_dC h⟩
instance zmz :Stp (dOp g da db ρ n R) ((da ρ n fun x n1=>db ρ n1 fun y n2=>g x y fun z=>R z n2)):=⟨fun h=>zne h⟩
instance zl9 :Stp (dNew ds ρ n R) ((ds ρ n fun ts n'=>R (.list ts) n')):=⟨fun h=>zlf h⟩
instance zl5 :Stp (dTup ds ρ n R) ((ds ρ n fun ts n1=>R (.tuple ts) n1)):=⟨fun h=>zlb h⟩
instance zl8 :Stp (dNil ρ n Rl) ((Rl [] n)):=⟨fun h=>zle h⟩
instance zj1 :Stp (J5 d ds ρ n Rl) ((d ρ n fun t n1=>ds ρ n1 fun ts n2=>Rl (t::ts) n2)):=⟨fun h=>zjl h⟩
instance zmA :Stp (dFn gd ds ρ n R) ((ds ρ n fun ts n1=>gd ts n1 R)):=⟨fun h=>znf h⟩
instance zjG :Stp (UA gc ds ρ n R) ((ds ρ n fun ts n1=>gc ts fun z=>R z n1)):=⟨fun h=>zhK h⟩
instance zmc :Stp (dAnd c c' ρ n Rb) ((c ρ n fun b n1=>if b=true then c' ρ n1 Rb else Rb false n1)):=⟨fun h=>zlj h⟩
instance zl7 :Stp (dOrV da db ρ n R) ((da ρ n fun t n1=>bolD t fun b=>if b=true then R (.bool true) n1 else db ρ n1 R)):=⟨fun h=>zld h⟩
instance zl6 :Stp (dTru d ρ n Rb) ((d ρ n fun t n'=>truD t fun b=>Rb b n')):=⟨fun h=>zlc h⟩
instance zl4 :Stp (dYes ρ n Rb) ((Rb true n)):=⟨fun h=>zla h⟩
instance zjU :Stp (QR tgs (.tuple xs) ρ Re) ((tgs xs ρ Re)):=⟨fun h=>zjd h⟩
instance zjV :Stp (QQ [] ρ Re) ((Re ρ)):=⟨fun h=>zje h⟩
instance zjF :Stp (Qi tg tgs (x::xs) ρ Re) ((tg x ρ fun ρ'=>tgs xs ρ' Re)):=⟨fun h=>zhI h⟩
instance zjX :Stp (Q5 d ρ n Rb) ((d ρ n fun t n'=>bolD t fun b=>Rb b n')):=⟨fun h=>zjh h⟩
instance zmb :Stp (dItL d ρ n Rl) ((d ρ n fun t n'=>lLst t fun ts=>Rl ts n')):=⟨fun h=>zli h⟩
instance zma :Stp (dItT d ρ n Rl) ((d ρ n fun t n'=>lTup t fun ts=>Rl ts n')):=⟨fun h=>zlh h⟩
instance zj0 :Stp (Q3 d ρ n Rl) ((d ρ n fun t n'=>lInt t fun j=>(-(2 ^ 62)<=j/\j<2 ^ 62)/\Rl (JE 0 j.toNat) n')):=⟨fun h=>zjk h⟩
instance zjZ :Stp (Q4 d1 d2 ρ n Rl) ((d1 ρ n fun t n1=>d2 ρ n1 fun u n2=>lInt t fun i=>lInt u fun j=>(-(2 ^ 62)<=i/\i<2 ^ 62/\-(2 ^ 62)<=j/\j<2 ^ 62)/\Rl (JE i (j - i).toNat) n2)):=⟨fun h=>zjj h⟩
instance zl_ :Stp (dNeg d ρ n R) ((d ρ n fun t n'=>lInt t fun i=>R (.int (-i)) n')):=⟨fun h=>zlg h⟩
instance zl3 {b:Bool}{A B:Prop}:Stp (if (!b)=true then A else B) ((if b=true then B else A)):=⟨fun h=>zk9 h⟩
end
section
variable{C:Int->Int->Prop}{f:Int->Int->Int}{fb:Int->Int->Bool}{i j k:Int}{R:PyData->Prop}{Rb:Bool->Prop}{xs ys:qD}{s t:Str}{a b:Bool}{u v x y:PyData}{Rn:qN}{n:Nat}
instance zlY :Stp (oAdd (.int i) (.int j) R) ((R (.int (i+j)))):=⟨fun h=>zkZ h⟩
instance zlX :Stp (oAdd (.tuple xs) (.tuple ys) R) (((xs.length+ys.length<=16777216/\R (.tuple (xs++ys))))):=⟨fun h=>zkY h⟩
instance zmv :Stp (oEq (.int i) (.int j) R) ((R (.bool (decide (i=j))))):=⟨fun h=>zm8 h⟩
instance zmr :Stp (oLtA (.int i) (.int j) R) ((R (.bool (decide (i<j))))):=⟨fun h=>zm4 h⟩
instance zmt :Stp (oLeA (.int i) (.int j) R) ((R (.bool (decide (i<=j))))):=⟨fun h=>zm6 h⟩
instance zlW :Stp (oIx (.tuple (u::xs)) (.int 0) R) ((R u)):=⟨fun h=>zkX h⟩
instance zlV :Stp (oIx (.tuple (u::v::xs)) (.int 1) R) ((R v)):=⟨fun h=>zkW h⟩
instance zlS :Stp (truD (.bool a) Rb) ((Rb a)):=⟨fun h=>zkQ h⟩
instance zlR :Stp (truD (.list xs) Rb) ((Rb (!xs.isEmpty))):=⟨fun h=>zkP h⟩
instance zmw :Stp (bolD (.bool a) Rb) ((Rb a)):=⟨fun h=>zm9 h⟩
instance zlU :Stp (bLen [.list xs] R) ((R (.int xs.length))):=⟨fun h=>zkV h⟩
instance zlT :Stp (bLen [.tuple xs] R) ((R (.int xs.length))):=⟨fun h=>zkU h⟩
instance zjE {ns:List Int}:Stp (bLen [SCR ns] R) ((R (.int ns.length))):=⟨fun h=>zhG h⟩
instance zmp :Stp (bMin [.int i,.int j] R) ((R (.int (if j<i then j else i)))):=⟨fun h=>zm2 h⟩
instance zmq :Stp (bMax [.int i,.int j] R) ((R (.int (if j > i then j else i)))):=⟨fun h=>zm3 h⟩
instance zjD :Stp (Ub [.list xs] R) ((R (.tuple xs))):=⟨fun h=>zhF h⟩
instance zjT {Rl:List PyData->Prop}:Stp (QS (.list xs) Rl) ((Rl xs)):=⟨fun h=>zjc h⟩
instance zms {Q:List PyData->Prop}:Stp (lLst (.list xs) Q) ((Q xs)):=⟨fun h=>zm5 h⟩
instance zmm {Q:List PyData->Prop}:Stp (lTup (.tuple xs) Q) ((Q xs)):=⟨fun h=>zmZ h⟩
instance zmu {i:Int}{Q:Int->Prop}:Stp (lInt (.int i) Q) ((Q i)):=⟨fun h=>zm7 h⟩
instance zmo :Stp (oShl (.int i) (.int j) R) ((CPow i j)/\(R (.int (i*2 ^ j.toNat)))):=⟨fun h=>zm1 h.1 h.2⟩
instance zmn :Stp (oSub (.int i) (.int j) R) ((R (.int (i - j)))):=⟨fun h=>zm0 h⟩
instance zmx :Stp (oAnd (.int i) (.int j) R) ((R (.int (Builtin.bitAnd i j)))):=⟨fun h=>zm_ h⟩
instance zny :Stp (gB fb (.int i) (.int j) R) ((R (.bool (fb i j)))):=⟨fun h=>j_gB h⟩
end
section
instance zjY {d:DTE}{ρ:En}{n:Nat}{Rl:List PyData->Nat->Prop}:Stp (zjt d ρ n Rl) ((d ρ n fun t n1=>Q0 t fun ts=>Rl ts n1)):=⟨fun h=>zji h⟩
end
section
variable{R:PyData->Prop}{b:Bool}{A B:Prop}
instance znz:Stp (if true=true then A else B) A:=⟨fun h=>iteT h⟩
instance znA:Stp (if false=true then A else B) B:=⟨fun h=>iteF h⟩
end
class GetN (ρ:En)(i:Nat)(c:outParam (Option Cell)):Prop where
 e:ρ[i]?=some c
class SetN (ρ:En)(i:Nat)(c:Option Cell)(ρ':outParam En):Prop where
 e:ρ.set i c=ρ'
instance{a0:Option Cell}{as:En}:GetN (a0::as) 0 a0:=⟨rfl⟩
instance{a0 c:Option Cell}{as:En}:SetN (a0::as) 0 c (c::as):=⟨rfl⟩
instance{a0 a1:Option Cell}{as:En}:GetN (a0::a1::as) 1 a1:=⟨rfl⟩
instance{a0 a1 c:Option Cell}{as:En}:SetN (a0::a1::as) 1 c (a0::c::as):=⟨rfl⟩
instance{a0 a1 a2:Option Cell}{as:En}:GetN (a0::a1::a2::as) 2 a2:=⟨rfl⟩
instance{a0 a1 a2 c:Option Cell}{as:En}:SetN (a0::a1::a2::as) 2 c (a0::a1::c::as):=⟨rfl⟩
instance{a0 a1 a2 a3:Option Cell}{as:En}:GetN (a0::a1::a2::a3::as) 3 a3:=⟨rfl⟩
instance{a0 a1 a2 a3 c:Option Cell}{as:En}:SetN (a0::a1::a2::a3::as) 3 c (a0::a1::a2::c::as):=⟨rfl⟩
instance{a0 a1 a2 a3 a4:Option Cell}{as:En}:GetN (a0::a1::a2::a3::a4::as) 4 a4:=⟨rfl⟩
instance{a0 a1 a2 a3 a4 c:Option Cell}{as:En}:SetN (a0::a1::a2::a3::a4::as) 4 c (a0::a1::a2::a3::c::as):=⟨rfl⟩
instance{a0 a1 a2 a3 a4 a5:Option Cell}{as:En}:GetN (a0::a1::a2::a3::a4::a5::as) 5 a5:=⟨rfl⟩
instance{a0 a1 a2 a3 a4 a5 c:Option Cell}{as:En}:SetN (a0::a1::a2::a3::a4::a5::as) 5 c (a0::a1::a2::a3::a4::c::as):=⟨rfl⟩
instance{a0 a1 a2 a3 a4 a5 a6:Option Cell}{as:En}:GetN (a0::a1::a2::a3::a4::a5::a6::as) 6 a6:=⟨rfl⟩
instance{a0 a1 a2 a3 a4 a5 a6 c:Option Cell}{as:En}:SetN (a0::a1::a2::a3::a4::a5::a6::as) 6 c (a0::a1::a2::a3::a4::a5::c::as):=⟨rfl⟩
instance{a0 a1 a2 a3 a4 a5 a6 a7:Option Cell}{as:En}:GetN (a0::a1::a2::a3::a4::a5::a6::a7::as) 7 a7:=⟨rfl⟩
instance{a0 a1 a2 a3 a4 a5 a6 a7 c:Option Cell}{as:En}:SetN (a0::a1::a2::a3::a4::a5::a6::a7::as) 7 c (a0::a1::a2::a3::a4::a5::a6::c::as):=⟨rfl⟩
instance{a0 a1 a2 a3 a4 a5 a6 a7 a8:Option Cell}{as:En}:GetN (a0::a1::a2::a3::a4::a5::a6::a7::a8::as) 8 a8:=⟨rfl⟩
instance{a0 a1 a2 a3 a4 a5 a6 a7 a8 c:Option Cell}{as:En}:SetN (a0::a1::a2::a3::a4::a5::a6::a7::a8::as) 8 c (a0::a1::a2::a3::a4::a5::a6::a7::c::as):=⟨rfl⟩
instance{a0 a1 a2 a3 a4 a5 a6 a7 a8 a9:Option Cell}{as:En}:GetN (a0::a1::a2::a3::a4::a5::a6::a7::a8::a9::as) 9 a9:=⟨rfl⟩
instance{a0 a1 a2 a3 a4 a5 a6 a7 a8 a9 c:Option Cell}{as:En}:SetN (a0::a1::a2::a3::a4::a5::a6::a7::a8::a9::as) 9 c (a0::a1::a2::a3::a4::a5::a6::a7::a8::c::as):=⟨rfl⟩
instance{a0 a1 a2 a3 a4 a5 a6 a7 a8 a9 a10:Option Cell}{as:En}:GetN (a0::a1::a2::a3::a4::a5::a6::a7::a8::a9::a10::as) 10 a10:=⟨rfl⟩
instance{a0 a1 a2 a3 a4 a5 a6 a7 a8 a9 a10 c:Option Cell}{as:En}:SetN (a0::a1::a2::a3::a4::a5::a6::a7::a8::a9::a10::as) 10 c (a0::a1::a2::a3::a4::a5::a6::a7::a8::a9::c::as):=⟨rfl⟩
instance{a0 a1 a2 a3 a4 a5 a6 a7 a8 a9 a10 a11:Option Cell}{as:En}:GetN (a0::a1::a2::a3::a4::a5::a6::a7::a8::a9::a10::a11::as) 11 a11:=⟨rfl⟩
instance{a0 a1 a2 a3 a4 a5 a6 a7 a8 a9 a10 a11 c:Option Cell}{as:En}:SetN (a0::a1::a2::a3::a4::a5::a6::a7::a8::a9::a10::a11::as) 11 c (a0::a1::a2::a3::a4::a5::a6::a7::a8::a9::a10::c::as):=⟨rfl⟩
instance{a0 a1 a2 a3 a4 a5 a6 a7 a8 a9 a10 a11 a12:Option Cell}{as:En}:GetN (a0::a1::a2::a3::a4::a5::a6::a7::a8::a9::a10::a11::a12::as) 12 a12:=⟨rfl⟩
instance{a0 a1 a2 a3 a4 a5 a6 a7 a8 a9 a10 a11 a12 c:Option Cell}{as:En}:SetN (a0::a1::a2::a3::a4::a5::a6::a7::a8::a9::a10::a11::a12::as) 12 c (a0::a1::a2::a3::a4::a5::a6::a7::a8::a9::a10::a11::c::as):=⟨rfl⟩
instance{a0 a1 a2 a3 a4 a5 a6 a7 a8 a9 a10 a11 a12 a13:Option Cell}{as:En}:GetN (a0::a1::a2::a3::a4::a5::a6::a7::a8::a9::a10::a11::a12::a13::as) 13 a13:=⟨rfl⟩
instance{a0 a1 a2 a3 a4 a5 a6 a7 a8 a9 a10 a11 a12 a13 c:Option Cell}{as:En}:SetN (a0::a1::a2::a3::a4::a5::a6::a7::a8::a9::a10::a11::a12::a13::as) 13 c (a0::a1::a2::a3::a4::a5::a6::a7::a8::a9::a10::a11::a12::c::as):=⟨rfl⟩
instance{a0 a1 a2 a3 a4 a5 a6 a7 a8 a9 a10 a11 a12 a13 a14:Option Cell}{as:En}:GetN (a0::a1::a2::a3::a4::a5::a6::a7::a8::a9::a10::a11::a12::a13::a14::as) 14 a14:=⟨rfl⟩
instance{a0 a1 a2 a3 a4 a5 a6 a7 a8 a9 a10 a11 a12 a13 a14 c:Option Cell}{as:En}:SetN (a0::a1::a2::a3::a4::a5::a6::a7::a8::a9::a10::a11::a12::a13::a14::as) 14 c (a0::a1::a2::a3::a4::a5::a6::a7::a8::a9::a10::a11::a12::a13::c::as):=⟨rfl⟩
instance{a0 a1 a2 a3 a4 a5 a6 a7 a8 a9 a10 a11 a12 a13 a14 a15:Option Cell}{as:En}:GetN (a0::a1::a2::a3::a4::a5::a6::a7::a8::a9::a10::a11::a12::a13::a14::a15::as) 15 a15:=⟨rfl⟩
instance{a0 a1 a2 a3 a4 a5 a6 a7 a8 a9 a10 a11 a12 a13 a14 a15 c:Option Cell}{as:En}:SetN (a0::a1::a2::a3::a4::a5::a6::a7::a8::a9::a10::a11::a12::a13::a14::a15::as) 15 c (a0::a1::a2::a3::a4::a5::a6::a7::a8::a9::a10::a11::a12::a13::a14::c::as):=⟨rfl⟩
instance{a0 a1 a2 a3 a4 a5 a6 a7 a8 a9 a10 a11 a12 a13 a14 a15 a16:Option Cell}{as:En}:GetN (a0::a1::a2::a3::a4::a5::a6::a7::a8::a9::a10::a11::a12::a13::a14::a15::a16::as) 16 a16:=⟨rfl⟩
instance{a0 a1 a2 a3 a4 a5 a6 a7 a8 a9 a10 a11 a12 a13 a14 a15 a16 c:Option Cell}{as:En}:SetN (a0::a1::a2::a3::a4::a5::a6::a7::a8::a9::a10::a11::a12::a13::a14::a15::a16::as) 16 c (a0::a1::a2::a3::a4::a5::a6::a7::a8::a9::a10::a11::a12::a13::a14::a15::c::as):=⟨rfl⟩
instance{a0 a1 a2 a3 a4 a5 a6 a7 a8 a9 a10 a11 a12 a13 a14 a15 a16 a17:Option Cell}{as:En}:GetN (a0::a1::a2::a3::a4::a5::a6::a7::a8::a9::a10::a11::a12::a13::a14::a15::a16::a17::as) 17 a17:=⟨rfl⟩
instance{a0 a1 a2 a3 a4 a5 a6 a7 a8 a9 a10 a11 a12 a13 a14 a15 a16 a17 c:Option Cell}{as:En}:SetN (a0::a1::a2::a3::a4::a5::a6::a7::a8::a9::a10::a11::a12::a13::a14::a15::a16::a17::as) 17 c (a0::a1::a2::a3::a4::a5::a6::a7::a8::a9::a10::a11::a12::a13::a14::a15::a16::c::as):=⟨rfl⟩
instance{a0 a1 a2 a3 a4 a5 a6 a7 a8 a9 a10 a11 a12 a13 a14 a15 a16 a17 a18:Option Cell}{as:En}:GetN (a0::a1::a2::a3::a4::a5::a6::a7::a8::a9::a10::a11::a12::a13::a14::a15::a16::a17::a18::as) 18 a18:=⟨rfl⟩
instance{a0 a1 a2 a3 a4 a5 a6 a7 a8 a9 a10 a11 a12 a13 a14 a15 a16 a17 a18 c:Option Cell}{as:En}:SetN (a0::a1::a2::a3::a4::a5::a6::a7::a8::a9::a10::a11::a12::a13::a14::a15::a16::a17::a18::as) 18 c (a0::a1::a2::a3::a4::a5::a6::a7::a8::a9::a10::a11::a12::a13::a14::a15::a16::a17::c::as):=⟨rfl⟩
instance{a0 a1 a2 a3 a4 a5 a6 a7 a8 a9 a10 a11 a12 a13 a14 a15 a16 a17 a18 a19:Option Cell}{as:En}:GetN (a0::a1::a2::a3::a4::a5::a6::a7::a8::a9::a10::a11::a12::a13::a14::a15::a16::a17::a18::a19::as) 19 a19:=⟨rfl⟩
instance{a0 a1 a2 a3 a4 a5 a6 a7 a8 a9 a10 a11 a12 a13 a14 a15 a16 a17 a18 a19 c:Option Cell}{as:En}:SetN (a0::a1::a2::a3::a4::a5::a6::a7::a8::a9::a10::a11::a12::a13::a14::a15::a16::a17::a18::a19::as) 19 c (a0::a1::a2::a3::a4::a5::a6::a7::a8::a9::a10::a11::a12::a13::a14::a15::a16::a17::a18::c::as):=⟨rfl⟩
instance{a0 a1 a2 a3 a4 a5 a6 a7 a8 a9 a10 a11 a12 a13 a14 a15 a16 a17 a18 a19 a20:Option Cell}{as:En}:GetN (a0::a1::a2::a3::a4::a5::a6::a7::a8::a9::a10::a11::a12::a13::a14::a15::a16::a17::a18::a19::a20::as) 20 a20:=⟨rfl⟩
instance{a0 a1 a2 a3 a4 a5 a6 a7 a8 a9 a10 a11 a12 a13 a14 a15 a16 a17 a18 a19 a20 c:Option Cell}{as:En}:SetN (a0::a1::a2::a3::a4::a5::a6::a7::a8::a9::a10::a11::a12::a13::a14::a15::a16::a17::a18::a19::a20::as) 20 c (a0::a1::a2::a3::a4::a5::a6::a7::a8::a9::a10::a11::a12::a13::a14::a15::a16::a17::a18::a19::c::as):=⟨rfl⟩
instance{a0 a1 a2 a3 a4 a5 a6 a7 a8 a9 a10 a11 a12 a13 a14 a15 a16 a17 a18 a19 a20 a21:Option Cell}{as:En}:GetN (a0::a1::a2::a3::a4::a5::a6::a7::a8::a9::a10::a11::a12::a13::a14::a15::a16::a17::a18::a19::a20::a21::as) 21 a21:=⟨rfl⟩
instance{a0 a1 a2 a3 a4 a5 a6 a7 a8 a9 a10 a11 a12 a13 a14 a15 a16 a17 a18 a19 a20 a21 c:Option Cell}{as:En}:SetN (a0::a1::a2::a3::a4::a5::a6::a7::a8::a9::a10::a11::a12::a13::a14::a15::a16::a17::a18::a19::a20::a21::as) 21 c (a0::a1::a2::a3::a4::a5::a6::a7::a8::a9::a10::a11::a12::a13::a14::a15::a16::a17::a18::a19::a20::c::as):=⟨rfl⟩
instance{a0 a1 a2 a3 a4 a5 a6 a7 a8 a9 a10 a11 a12 a13 a14 a15 a16 a17 a18 a19 a20 a21 a22:Option Cell}{as:En}:GetN (a0::a1::a2::a3::a4::a5::a6::a7::a8::a9::a10::a11::a12::a13::a14::a15::a16::a17::a18::a19::a20::a21::a22::as) 22 a22:=⟨rfl⟩
instance{a0 a1 a2 a3 a4 a5 a6 a7 a8 a9 a10 a11 a12 a13 a14 a15 a16 a17 a18 a19 a20 a21 a22 c:Option Cell}{as:En}:SetN (a0::a1::a2::a3::a4::a5::a6::a7::a8::a9::a10::a11::a12::a13::a14::a15::a16::a17::a18::a19::a20::a21::a22::as) 22 c (a0::a1::a2::a3::a4::a5::a6::a7::a8::a9::a10::a11::a12::a13::a14::a15::a16::a17::a18::a19::a20::a21::c::as):=⟨rfl⟩
instance{a0 a1 a2 a3 a4 a5 a6 a7 a8 a9 a10 a11 a12 a13 a14 a15 a16 a17 a18 a19 a20 a21 a22 a23:Option Cell}{as:En}:GetN (a0::a1::a2::a3::a4::a5::a6::a7::a8::a9::a10::a11::a12::a13::a14::a15::a16::a17::a18::a19::a20::a21::a22::a23::as) 23 a23:=⟨rfl⟩
instance{a0 a1 a2 a3 a4 a5 a6 a7 a8 a9 a10 a11 a12 a13 a14 a15 a16 a17 a18 a19 a20 a21 a22 a23 c:Option Cell}{as:En}:SetN (a0::a1::a2::a3::a4::a5::a6::a7::a8::a9::a10::a11::a12::a13::a14::a15::a16::a17::a18::a19::a20::a21::a22::a23::as) 23 c (a0::a1::a2::a3::a4::a5::a6::a7::a8::a9::a10::a11::a12::a13::a14::a15::a16::a17::a18::a19::a20::a21::a22::c::as):=⟨rfl⟩
instance{a0 a1 a2 a3 a4 a5 a6 a7 a8 a9 a10 a11 a12 a13 a14 a15 a16 a17 a18 a19 a20 a21 a22 a23 a24:Option Cell}{as:En}:GetN (a0::a1::a2::a3::a4::a5::a6::a7::a8::a9::a10::a11::a12::a13::a14::a15::a16::a17::a18::a19::a20::a21::a22::a23::a24::as) 24 a24:=⟨rfl⟩
instance{a0 a1 a2 a3 a4 a5 a6 a7 a8 a9 a10 a11 a12 a13 a14 a15 a16 a17 a18 a19 a20 a21 a22 a23 a24 c:Option Cell}{as:En}:SetN (a0::a1::a2::a3::a4::a5::a6::a7::a8::a9::a10::a11::a12::a13::a14::a15::a16::a17::a18::a19::a20::a21::a22::a23::a24::as) 24 c (a0::a1::a2::a3::a4::a5::a6::a7::a8::a9::a10::a11::a12::a13::a14::a15::a16::a17::a18::a19::a20::a21::a22::a23::c::as):=⟨rfl⟩
instance{a0 a1 a2 a3 a4 a5 a6 a7 a8 a9 a10 a11 a12 a13 a14 a15 a16 a17 a18 a19 a20 a21 a22 a23 a24 a25:Option Cell}{as:En}:GetN (a0::a1::a2::a3::a4::a5::a6::a7::a8::a9::a10::a11::a12::a13::a14::a15::a16::a17::a18::a19::a20::a21::a22::a23::a24::a25::as) 25 a25:=⟨rfl⟩
instance{a0 a1 a2 a3 a4 a5 a6 a7 a8 a9 a10 a11 a12 a13 a14 a15 a16 a17 a18 a19 a20 a21 a22 a23 a24 a25 c:Option Cell}{as:En}:SetN (a0::a1::a2::a3::a4::a5::a6::a7::a8::a9::a10::a11::a12::a13::a14::a15::a16::a17::a18::a19::a20::a21::a22::a23::a24::a25::as) 25 c (a0::a1::a2::a3::a4::a5::a6::a7::a8::a9::a10::a11::a12::a13::a14::a15::a16::a17::a18::a19::a20::a21::a22::a23::a24::c::as):=⟨rfl⟩
class NormE (ρ:En)(ρ':outParam En):Prop where
 e:ρ=ρ'
instance{a:Option Cell}{as:En}:NormE (a::as) (a::as):=⟨rfl⟩
instance{ρ ρ1 ρ2:En}{i:Nat}{c:Option Cell}[h:NormE ρ ρ1][k:SetN ρ1 i c ρ2]:NormE (ρ.set i c) ρ2:=⟨by rw[h.e];exact k.e⟩
class NoneN (as:En)(nn:outParam En):Prop where
 e:List.replicate as.length none=nn
instance:NoneN [] []:=⟨rfl⟩
instance{a:Option Cell}{as nn:En}[h:NoneN as nn]:NoneN (a::as) (none::nn):=⟨by rw[List.length_cons,List.replicate_succ,h.e]⟩
class StartN (N:List Str)(ts:qD)(ρ:outParam En):Prop where
 e:JO N ts=ρ
instance:StartN [] [] []:=⟨rfl⟩
instance{x:Str}{N:List Str}{ρ:En}[h:StartN N [] ρ]:StartN (x::N) [] (none::ρ):=⟨by
 have:=h.e;simp only[JO,List.map_nil,List.nil_append,List.length_nil,Nat.sub_zero]at this ⊢;rw[List.length_cons,List.replicate_succ,this]⟩
instance{x:Str}{N:List Str}{t:PyData}{ts:qD}{ρ:En}[h:StartN N ts ρ]:StartN (x::N) (t::ts) (some (.val t)::ρ):=⟨by
 have:=h.e;simp only[JO]at this ⊢;rw[List.map_cons,List.length_cons,List.length_cons,List.cons_append,Nat.add_sub_add_right,this]⟩
theorem ze9{d:DTS}{D:DEnds}{n:Nat}{N:List Str}{ts:qD}{ρ:En}[e:StartN N ts ρ](h:d D ρ n):d D (JO N ts) n:=e.e.symm▸h
class CapN (is:List Nat)(ρ:En)(out:outParam En):Prop where
 e:(is.map fun i=>capV (ρ.getD i none))=out
class CapC (c:Option Cell)(c':outParam (Option Cell)):Prop where
 e:capV c=c'
instance{d:PyData}:CapC (some (.val d)) (some (.val d)):=⟨rfl⟩
instance{d:qD}:CapC (some (.own d)) none:=⟨rfl⟩
instance:CapC none none:=⟨rfl⟩
instance{ρ:En}:CapN [] ρ []:=⟨rfl⟩
instance{i:Nat}{is:List Nat}{ρ out:En}{c c':Option Cell}[g:GetN ρ i c][k:CapC c c'][h:CapN is ρ out]:CapN (i::is) ρ (c'::out):=⟨by
 have ge:=g.e;rw[List.map_cons,h.e,List.getD_eq_getElem?_getD,ge,Option.getD_some,k.e]⟩
class CompN (m:Nat)(capt:List Nat)(ρ:En)(ρ':outParam En):Prop where
 e:Ju m capt ρ=ρ'
instance{x:Str}{capt:List Nat}{ρ out:En}[h:CapN capt ρ out]:CompN (List.length [x]) capt ρ (none::out):=⟨by unfold Ju;rw[h.e];rfl⟩
instance{x y:Str}{capt:List Nat}{ρ out:En}[h:CapN capt ρ out]:CompN (List.length [x,y]) capt ρ (none::none::out):=⟨by unfold Ju;rw[h.e];rfl⟩
instance{x y z:Str}{capt:List Nat}{ρ out:En}[h:CapN capt ρ out]:CompN (List.length [x,y,z]) capt ρ (none::none::none::out):=⟨by unfold Ju;rw[h.e];rfl⟩
instance{x y z u:Str}{capt:List Nat}{ρ out:En}[h:CapN capt ρ out]:CompN (List.length [x,y,z,u]) capt ρ (none::none::none::none::out):=⟨by unfold Ju;rw[h.e];rfl⟩
def SetK(i:Nat)(c:Option Cell)(K:En->Nat->Prop)(ρ:En)(n:Nat):Prop:=K (ρ.set i c) n
section
variable{t u:DTS}{D:DEnds}{ρ ρ0 ρ':En}{n i j m:Nat}{d dj:DTE}{ds di:DTA}{tt:DTT}{tg:DTG}{R:qN}{Rl:List PyData->Nat->Prop}{Re:En->Prop}{x:PyData}{xs:qD}{f:Int->Int->Int}{capt:List Nat}{c:Option Cell}{K:En->Nat->Prop}{q:Int}
instance znF [h:SetN ρ i c ρ']:Stp (SetK i c K ρ n) (K ρ' n):=⟨fun k=>by unfold SetK;rw[h.e];exact k⟩
instance znu:Stp (sSet i d D ρ n) (d ρ n fun t n'=>SetK i (some (.val t)) D.nx ρ n'):=⟨fun h=>h⟩
instance znv:Stp (sOwn i ds D ρ n) (ds ρ n fun t n'=>SetK i (some (.own t)) D.nx ρ n'):=⟨fun h=>h⟩
instance zlQ [h:SetN ρ i (some (.val x)) ρ']:Stp (JP i x ρ Re) (Re ρ'):=⟨fun k=>by unfold JP;rw[h.e];exact k⟩
instance znC [h:GetN ρ i (some (.val x))]:Stp (dVar i ρ n R) (R x n):=⟨fun k=>zii h.e k⟩
instance znD [h:GetN ρ i (some (.own xs))]:Stp (dOwn i ρ n R) (R (.list xs) n):=⟨fun k=>zij h.e k⟩
instance zmf [h:GetN ρ i (some (.own xs))]:Stp (Uh i d D ρ n) (d ρ n fun t n'=>xs.length<16777216/\SetK i (some (.own (xs++[t]))) D.nx ρ n'):=⟨fun k=>zeP h.e k⟩
instance zmd [h:GetN ρ i (some (.own xs))][h':SetN ρ i (some (.val (.list xs))) ρ']:Stp (Ui i t D ρ n) (t D ρ' n):=⟨fun k=>zeO h.e (by rw[h'.e];exact k)⟩
instance znE [h:CompN m capt ρ ρ0]:Stp (dComp m capt di tg tt d ρ n Rl) (di ρ n fun ts n1=>Jw tg tt d ρ0 ts [] n1 Rl):=⟨fun k=>zjm (by rw[h.e];exact k)⟩
theorem zj8{D:DEnds}{ρ:En}{i:Nat}{xs:qD}{x:PyData}{n:Nat}{j:Int}{k:Nat}(e:ixN xs.length j=some k)(h:SetK i (some (.own (xs.set k x))) D.nx ρ n) :
  (match ixN xs.length j with|some k=>D.nx (ρ.set i (some (.own (xs.set k x)))) n|none=>False):=by rw[e];exact h
instance znG [h:GetN ρ i (some (.own xs))]:Stp (sPut i dj d D ρ n) (d ρ n fun t n1=>Qy ρ i D dj t n1 xs):=⟨fun k=>znb h.e k⟩
instance znx:Stp (Qy ρ i D dj x n xs) (dj ρ n fun j n2=>lInt j fun j=>(match ixN xs.length j with|some k=>D.nx (ρ.set i (some (.own (xs.set k x)))) n2|none=>False)):=⟨fun h=>zk8 h⟩
end
theorem Jl{ρ:En}{i:Nat}:ρ.set i (ρ.getD i none)=ρ:=by
 apply List.ext_getElem?
 intro j
 by_cases h:i=j
 ·subst h
  by_cases hl:i<ρ.length
  ·rw[List.getElem?_set_self hl,List.getD_eq_getElem?_getD,List.getElem?_eq_getElem hl];rfl
  ·rw[List.getElem?_eq_none (by simp;omega),List.getElem?_eq_none (by omega)]
 ·rw[List.getElem?_set_ne h]
section
variable{g:DTG}{tb:DTS}{D:DEnds}{ts:qD}{ρ:En}{n:Nat}
theorem zly(i0:Nat)(Inv:Nat->Option Cell->Nat->Prop){ρf:Option Cell->En}[N:∀a0,NormE (ρ.set i0 a0) (ρf a0)](h0:Inv 0 (ρ.getD i0 none) n)
  (turn:∀(k:Nat) (t:PyData) (a0:Option Cell) (m:Nat) (K:En->Nat->Prop) (RT:qN) (BK:En->Nat->Prop),ts[k]?=some t->Inv k a0 m->(∀b0 m',Inv (k+1) b0 m'->K (ρf b0) m')->(∀t m,D.rt t m->RT t m)->(∀ρ m,D.nx ρ m->BK ρ m)->g t (ρf a0) fun ρ'=>tb { nx:=K,rt:=RT,bk:=BK,ct:=K } ρ' m)
  (fin:∀a0 m,Inv ts.length a0 m->D.nx (ρf a0) m):forP g tb D ts ρ n:=by
 refine QH (fun k ρ' m=>∃a0,ρ'=(ρ.set i0 a0)/\Inv k a0 m) ⟨_,?_,h0⟩ ?_ ?_
 ·rw[Jl]
 ·rintro k t ρ' m K e ⟨a0,rfl,hI⟩ hK;rw[(N a0).e];exact turn k t a0 m K D.rt D.nx e hI (fun b0 m' h=>(N b0).e▸hK _ _ ⟨b0,rfl,h⟩) (fun _ _ h=>h) (fun _ _ h=>h)
 ·rintro ρ' m ⟨a0,rfl,hI⟩;rw[(N a0).e];exact fin a0 m hI
theorem zlx(i0 i1:Nat)(Inv:Nat->Option Cell->Option Cell->Nat->Prop){ρf:Option Cell->Option Cell->En}[N:∀a0 a1,NormE ((ρ.set i0 a0).set i1 a1) (ρf a0 a1)](h0:Inv 0 (ρ.getD i0 none) (ρ.getD i1 none) n)
  (turn:∀(k:Nat) (t:PyData) (a0 a1:Option Cell) (m:Nat) (K:En->Nat->Prop) (RT:qN) (BK:En->Nat->Prop),ts[k]?=some t->Inv k a0 a1 m->(∀b0 b1 m',Inv (k+1) b0 b1 m'->K (ρf b0 b1) m')->(∀t m,D.rt t m->RT t m)->(∀ρ m,D.nx ρ m->BK ρ m)->g t (ρf a0 a1) fun ρ'=>tb { nx:=K,rt:=RT,bk:=BK,ct:=K } ρ' m)
  (fin:∀a0 a1 m,Inv ts.length a0 a1 m->D.nx (ρf a0 a1) m):forP g tb D ts ρ n:=by
 refine QH (fun k ρ' m=>∃a0 a1,ρ'=((ρ.set i0 a0).set i1 a1)/\Inv k a0 a1 m) ⟨_,_,?_,h0⟩ ?_ ?_
 ·rw[Jl,Jl]
 ·rintro k t ρ' m K e ⟨a0,a1,rfl,hI⟩ hK;rw[(N a0 a1).e];exact turn k t a0 a1 m K D.rt D.nx e hI (fun b0 b1 m' h=>(N b0 b1).e▸hK _ _ ⟨b0,b1,rfl,h⟩) (fun _ _ h=>h) (fun _ _ h=>h)
 ·rintro ρ' m ⟨a0,a1,rfl,hI⟩;rw[(N a0 a1).e];exact fin a0 a1 m hI
theorem zgG(i0 i1 i2 i3:Nat)(Inv:Nat->Option Cell->Option Cell->Option Cell->Option Cell->Nat->Prop){ρf:Option Cell->Option Cell->Option Cell->Option Cell->En}[N:∀a0 a1 a2 a3,NormE ((((ρ.set i0 a0).set i1 a1).set i2 a2).set i3 a3) (ρf a0 a1 a2 a3)](h0:Inv 0 (ρ.getD i0 none) (ρ.getD i1 none) (ρ.getD i2 none) (ρ.getD i3 none) n)
  (turn:∀(k:Nat) (t:PyData) (a0 a1 a2 a3:Option Cell) (m:Nat) (K:En->Nat->Prop) (RT:qN) (BK:En->Nat->Prop),ts[k]?=some t->Inv k a0 a1 a2 a3 m->(∀b0 b1 b2 b3 m',Inv (k+1) b0 b1 b2 b3 m'->K (ρf b0 b1 b2 b3) m')->(∀t m,D.rt t m->RT t m)->(∀ρ m,D.nx ρ m->BK ρ m)->g t (ρf a0 a1 a2 a3) fun ρ'=>tb { nx:=K,rt:=RT,bk:=BK,ct:=K } ρ' m)
  (fin:∀a0 a1 a2 a3 m,Inv ts.length a0 a1 a2 a3 m->D.nx (ρf a0 a1 a2 a3) m):forP g tb D ts ρ n:=by
 refine QH (fun k ρ' m=>∃a0 a1 a2 a3,ρ'=((((ρ.set i0 a0).set i1 a1).set i2 a2).set i3 a3)/\Inv k a0 a1 a2 a3 m) ⟨_,_,_,_,?_,h0⟩ ?_ ?_
 ·rw[Jl,Jl,Jl,Jl]
 ·rintro k t ρ' m K e ⟨a0,a1,a2,a3,rfl,hI⟩ hK;rw[(N a0 a1 a2 a3).e];exact turn k t a0 a1 a2 a3 m K D.rt D.nx e hI (fun b0 b1 b2 b3 m' h=>(N b0 b1 b2 b3).e▸hK _ _ ⟨b0,b1,b2,b3,rfl,h⟩) (fun _ _ h=>h) (fun _ _ h=>h)
 ·rintro ρ' m ⟨a0,a1,a2,a3,rfl,hI⟩;rw[(N a0 a1 a2 a3).e];exact fin a0 a1 a2 a3 m hI
theorem zlw(i0 i1 i2 i3 i4 i5:Nat)(Inv:Nat->Option Cell->Option Cell->Option Cell->Option Cell->Option Cell->Option Cell->Nat->Prop){ρf:Option Cell->Option Cell->Option Cell->Option Cell->Option Cell->Option Cell->En}[N:∀a0 a1 a2 a3 a4 a5,NormE ((((((ρ.set i0 a0).set i1 a1).set i2 a2).set i3 a3).set i4 a4).set i5 a5) (ρf a0 a1 a2 a3 a4 a5)](h0:Inv 0 (ρ.getD i0 none) (ρ.getD i1 none) (ρ.getD i2 none) (ρ.getD i3 none) (ρ.getD i4 none) (ρ.getD i5 none) n)
  (turn:∀(k:Nat) (t:PyData) (a0 a1 a2 a3 a4 a5:Option Cell) (m:Nat) (K:En->Nat->Prop) (RT:qN) (BK:En->Nat->Prop),ts[k]?=some t->Inv k a0 a1 a2 a3 a4 a5 m->(∀b0 b1 b2 b3 b4 b5 m',Inv (k+1) b0 b1 b2 b3 b4 b5 m'->K (ρf b0 b1 b2 b3 b4 b5) m')->(∀t m,D.rt t m->RT t m)->(∀ρ m,D.nx ρ m->BK ρ m)->g t (ρf a0 a1 a2 a3 a4 a5) fun ρ'=>tb { nx:=K,rt:=RT,bk:=BK,ct:=K } ρ' m)
  (fin:∀a0 a1 a2 a3 a4 a5 m,Inv ts.length a0 a1 a2 a3 a4 a5 m->D.nx (ρf a0 a1 a2 a3 a4 a5) m):forP g tb D ts ρ n:=by
 refine QH (fun k ρ' m=>∃a0 a1 a2 a3 a4 a5,ρ'=((((((ρ.set i0 a0).set i1 a1).set i2 a2).set i3 a3).set i4 a4).set i5 a5)/\Inv k a0 a1 a2 a3 a4 a5 m) ⟨_,_,_,_,_,_,?_,h0⟩ ?_ ?_
 ·rw[Jl,Jl,Jl,Jl,Jl,Jl]
 ·rintro k t ρ' m K e ⟨a0,a1,a2,a3,a4,a5,rfl,hI⟩ hK;rw[(N a0 a1 a2 a3 a4 a5).e];exact turn k t a0 a1 a2 a3 a4 a5 m K D.rt D.nx e hI (fun b0 b1 b2 b3 b4 b5 m' h=>(N b0 b1 b2 b3 b4 b5).e▸hK _ _ ⟨b0,b1,b2,b3,b4,b5,rfl,h⟩) (fun _ _ h=>h) (fun _ _ h=>h)
 ·rintro ρ' m ⟨a0,a1,a2,a3,a4,a5,rfl,hI⟩;rw[(N a0 a1 a2 a3 a4 a5).e];exact fin a0 a1 a2 a3 a4 a5 m hI
theorem zlv(i0 i1 i2 i3 i4 i5 i6:Nat)(Inv:Nat->Option Cell->Option Cell->Option Cell->Option Cell->Option Cell->Option Cell->Option Cell->Nat->Prop){ρf:Option Cell->Option Cell->Option Cell->Option Cell->Option Cell->Option Cell->Option Cell->En}[N:∀a0 a1 a2 a3 a4 a5 a6,NormE (((((((ρ.set i0 a0).set i1 a1).set i2 a2).set i3 a3).set i4 a4).set i5 a5).set i6 a6) (ρf a0 a1 a2 a3 a4 a5 a6)](h0:Inv 0 (ρ.getD i0 none) (ρ.getD i1 none) (ρ.getD i2 none) (ρ.getD i3 none) (ρ.getD i4 none) (ρ.getD i5 none) (ρ.getD i6 none) n)
  (turn:∀(k:Nat) (t:PyData) (a0 a1 a2 a3 a4 a5 a6:Option Cell) (m:Nat) (K:En->Nat->Prop) (RT:qN) (BK:En->Nat->Prop),ts[k]?=some t->Inv k a0 a1 a2 a3 a4 a5 a6 m->(∀b0 b1 b2 b3 b4 b5 b6 m',Inv (k+1) b0 b1 b2 b3 b4 b5 b6 m'->K (ρf b0 b1 b2 b3 b4 b5 b6) m')->(∀t m,D.rt t m->RT t m)->(∀ρ m,D.nx ρ m->BK ρ m)->g t (ρf a0 a1 a2 a3 a4 a5 a6) fun ρ'=>tb { nx:=K,rt:=RT,bk:=BK,ct:=K } ρ' m)
  (fin:∀a0 a1 a2 a3 a4 a5 a6 m,Inv ts.length a0 a1 a2 a3 a4 a5 a6 m->D.nx (ρf a0 a1 a2 a3 a4 a5 a6) m):forP g tb D ts ρ n:=by
 refine QH (fun k ρ' m=>∃a0 a1 a2 a3 a4 a5 a6,ρ'=(((((((ρ.set i0 a0).set i1 a1).set i2 a2).set i3 a3).set i4 a4).set i5 a5).set i6 a6)/\Inv k a0 a1 a2 a3 a4 a5 a6 m) ⟨_,_,_,_,_,_,_,?_,h0⟩ ?_ ?_
 ·rw[Jl,Jl,Jl,Jl,Jl,Jl,Jl]
 ·rintro k t ρ' m K e ⟨a0,a1,a2,a3,a4,a5,a6,rfl,hI⟩ hK;rw[(N a0 a1 a2 a3 a4 a5 a6).e];exact turn k t a0 a1 a2 a3 a4 a5 a6 m K D.rt D.nx e hI (fun b0 b1 b2 b3 b4 b5 b6 m' h=>(N b0 b1 b2 b3 b4 b5 b6).e▸hK _ _ ⟨b0,b1,b2,b3,b4,b5,b6,rfl,h⟩) (fun _ _ h=>h) (fun _ _ h=>h)
 ·rintro ρ' m ⟨a0,a1,a2,a3,a4,a5,a6,rfl,hI⟩;rw[(N a0 a1 a2 a3 a4 a5 a6).e];exact fin a0 a1 a2 a3 a4 a5 a6 m hI
theorem zlu(i0 i1 i2 i3 i4 i5 i6 i7 i8:Nat)(Inv:Nat->Option Cell->Option Cell->Option Cell->Option Cell->Option Cell->Option Cell->Option Cell->Option Cell->Option Cell->Nat->Prop){ρf:Option Cell->Option Cell->Option Cell->Option Cell->Option Cell->Option Cell->Option Cell->Option Cell->Option Cell->En}[N:∀a0 a1 a2 a3 a4 a5 a6 a7 a8,NormE (((((((((ρ.set i0 a0).set i1 a1).set i2 a2).set i3 a3).set i4 a4).set i5 a5).set i6 a6).set i7 a7).set i8 a8) (ρf a0 a1 a2 a3 a4 a5 a6 a7 a8)](h0:Inv 0 (ρ.getD i0 none) (ρ.getD i1 none) (ρ.getD i2 none) (ρ.getD i3 none) (ρ.getD i4 none) (ρ.getD i5 none) (ρ.getD i6 none) (ρ.getD i7 none) (ρ.getD i8 none) n)
  (turn:∀(k:Nat) (t:PyData) (a0 a1 a2 a3 a4 a5 a6 a7 a8:Option Cell) (m:Nat) (K:En->Nat->Prop) (RT:qN) (BK:En->Nat->Prop),ts[k]?=some t->Inv k a0 a1 a2 a3 a4 a5 a6 a7 a8 m->(∀b0 b1 b2 b3 b4 b5 b6 b7 b8 m',Inv (k+1) b0 b1 b2 b3 b4 b5 b6 b7 b8 m'->K (ρf b0 b1 b2 b3 b4 b5 b6 b7 b8) m')->(∀t m,D.rt t m->RT t m)->(∀ρ m,D.nx ρ m->BK ρ m)->g t (ρf a0 a1 a2 a3 a4 a5 a6 a7 a8) fun ρ'=>tb { nx:=K,rt:=RT,bk:=BK,ct:=K } ρ' m)
  (fin:∀a0 a1 a2 a3 a4 a5 a6 a7 a8 m,Inv ts.length a0 a1 a2 a3 a4 a5 a6 a7 a8 m->D.nx (ρf a0 a1 a2 a3 a4 a5 a6 a7 a8) m):forP g tb D ts ρ n:=by
 refine QH (fun k ρ' m=>∃a0 a1 a2 a3 a4 a5 a6 a7 a8,ρ'=(((((((((ρ.set i0 a0).set i1 a1).set i2 a2).set i3 a3).set i4 a4).set i5 a5).set i6 a6).set i7 a7).set i8 a8)/\Inv k a0 a1 a2 a3 a4 a5 a6 a7 a8 m) ⟨_,_,_,_,_,_,_,_,_,?_,h0⟩ ?_ ?_
 ·rw[Jl,Jl,Jl,Jl,Jl,Jl,Jl,Jl,Jl]
 ·rintro k t ρ' m K e ⟨a0,a1,a2,a3,a4,a5,a6,a7,a8,rfl,hI⟩ hK;rw[(N a0 a1 a2 a3 a4 a5 a6 a7 a8).e];exact turn k t a0 a1 a2 a3 a4 a5 a6 a7 a8 m K D.rt D.nx e hI (fun b0 b1 b2 b3 b4 b5 b6 b7 b8 m' h=>(N b0 b1 b2 b3 b4 b5 b6 b7 b8).e▸hK _ _ ⟨b0,b1,b2,b3,b4,b5,b6,b7,b8,rfl,h⟩) (fun _ _ h=>h) (fun _ _ h=>h)
 ·rintro ρ' m ⟨a0,a1,a2,a3,a4,a5,a6,a7,a8,rfl,hI⟩;rw[(N a0 a1 a2 a3 a4 a5 a6 a7 a8).e];exact fin a0 a1 a2 a3 a4 a5 a6 a7 a8 m hI
theorem zhJ{i j:Nat}{u:DTS}{D:DEnds}{as nn ρ1 ρ2:En}{n:Nat}{ns:List Int}{k:Int}[ej:GetN (some (.val (SCR ns))::as) j (some (.val (.int k)))][e1:NoneN as nn][e2:SetN (some (.val (SCR ns))::nn) j (some (.val (.int k))) ρ1][e3:SetN ρ1 i (some (.val HAND)) ρ2](hl:ns.length<=63)(k0:0<=k)(k1:k<=100)
  (h:∀(NX:En->Nat->Prop) (RT:qN) (BK CT:En->Nat->Prop),(∀ρ' m,D.nx (Jt ρ') n->NX ρ' m)->(∀b m,D.rt (.bool b) n->RT (.bool b) m)->(∀ρ' m,D.bk (Jt ρ') n->BK ρ' m)->(∀ρ' m,D.ct (Jt ρ') n->CT ρ' m) ->
   u { nx:=NX,rt:=RT,bk:=BK,ct:=CT } ρ2 0):QP i j u D (some (.val (SCR ns))::as) n:=by
 refine zjg (ρd:=some (.val (SCR ns))::nn) rfl ej.e hl k0 k1 ?_ ?_
 ·show some (Cell.val (SCR ns))::List.replicate (List.length (some (Cell.val (SCR ns))::as) - 1) none=_
  rw[List.length_cons,Nat.add_sub_cancel,e1.e]
 ·rw[e2.e,e3.e];exact h _ _ _ _ (fun _ _ h=>h) (fun b _ h=>⟨b,rfl,h⟩) (fun _ _ h=>h) (fun _ _ h=>h)
theorem zix{c:DTT}{tb:DTS}{D:DEnds}{ρ:En}{n:Nat}(Inv:Nat->En->Nat->Prop){m:Nat}(h0:Inv m ρ n)
  (turn:∀m ρ n (K:En->Nat->Prop) (RT:qN) (BK:En->Nat->Prop),Inv m ρ n->(∀m' ρ' n',m'<m->Inv m' ρ' n'->K ρ' n')->(∀t m,D.rt t m->RT t m)->(∀ρ m,D.nx ρ m->BK ρ m) ->
   c ρ n fun b n1=>if b=true then tb { nx:=K,rt:=RT,bk:=BK,ct:=K } ρ n1 else BK ρ n1):zfP c tb D ρ n :=
 zfC Inv h0 fun m ρ n h=>turn m ρ n (fun ρ' n'=>∃m',m'<m/\Inv m' ρ' n') D.rt D.nx h (fun m' _ _ a b=>⟨m',a,b⟩) (fun _ _ h=>h) (fun _ _ h=>h)
end
mutual
def plnD:PyData->Bool
 | .dict []=>true
 | .dict _=>false
 | .tuple ts=>decide (ts.length<=1000000)&&ziP ts
 | .list ts=>decide (ts.length<=1000000)&&ziP ts
 | .str x=>decide (x.length<=1000000)
 | _=>true
def ziP:List PyData->Bool
 | []=>true
 | t::ts=>plnD t&&ziP ts
end
section
variable{prog:Program}{w:World}{A:Around}{R:Result->Shared->Prop}{s:Shared}{elt tg1 it1 tg2 it2:Expr}{ifs1 ifs2:List Expr}{scope:Scope}{pos:Pos}{it acc:Value}{env:Env}
theorem zdL(it acc:Value)(env:Env):compTurn (.ListComp elt [⟨tg1,it1,ifs1,0⟩,⟨tg2,it2,ifs2,0⟩] scope pos) 0 it acc env=(do
      standAt it1.pos
      match <- pyNext it with
      | none=>pure (.done .next)
      | some v =>
       letOwnedTupleGo tg1 it v
       assign tg1 env v
       let mut ok:=true
       for c in ifs1 do
        if ok then ok <- isTrue c env (eval c env)
       if ok then
        let x <- eval it2 env
        standAt it2.pos
        let x <- foldedSetIterable it2 env x
        let _ <- runOwn (.compStart (.ListComp elt [⟨tg1,it1,ifs1,0⟩,⟨tg2,it2,ifs2,0⟩] scope pos) 1 (<- holding [x] (pyIter x)) acc env) env
       again (.compLoop (.ListComp elt [⟨tg1,it1,ifs1,0⟩,⟨tg2,it2,ifs2,0⟩] scope pos) 0 it acc env)):=by rfl
theorem zeh(it acc:Value)(env:Env):compTurn (.ListComp elt [⟨tg1,it1,ifs1,0⟩,⟨tg2,it2,ifs2,0⟩] scope pos) 1 it acc env=(do
      standAt it2.pos
      match <- pyNext it with
      | none=>pure (.done .next)
      | some v =>
       letOwnedTupleGo tg2 it v
       assign tg2 env v
       let mut ok:=true
       for c in ifs2 do
        if ok then ok <- isTrue c env (eval c env)
       if ok then
        (do let _ <- call (.builtin "list.append") [acc,<- eval elt env])
       again (.compLoop (.ListComp elt [⟨tg1,it1,ifs1,0⟩,⟨tg2,it2,ifs2,0⟩] scope pos) 1 it acc env)):=by rfl
theorem zhg(I:Nat->Shared->Prop)
  (turn:∀n s,I n s->wpAny (model prog w) A (pyNext it) (fun r s₁=>match r with
   | none=>R (.ok .next) s₁
   | some v=>wpAny (model prog w) A (letOwnedTupleGo tg2 it v) (fun _ s₂=>wpAny (model prog w) A (assign tg2 env v) (fun _ s₃ =>
     wpAny (model prog w) A (forIn ifs2 true fun c r=>if r=true then do let ok <- isTrue c env (eval c env);pure (ForInStep.yield ok) else pure (ForInStep.yield r)) (fun ok s₄ =>
      if ok=true then wpAny (model prog w) A (eval elt env) (fun x s₅=>wpAny (model prog w) A (call (.builtin "list.append") [acc,x]) (fun _ s₆=>∃m,m<n/\I m s₆) NoX s₅) NoX s₄
      else ∃m,m<n/\I m s₄) NoX s₃) NoX s₂) NoX s₁) NoX s) (n:Nat) (h:I n s) :
  codeAny (model prog w) A (.compLoop (.ListComp elt [⟨tg1,it1,ifs1,0⟩,⟨tg2,it2,ifs2,0⟩] scope pos) 1 it acc env) R s:=by
 refine codeAny_loop rfl I (fun n s hI=>?_) n h
 show wpAny _ A ((compTurn (.ListComp elt [⟨tg1,it1,ifs1,0⟩,⟨tg2,it2,ifs2,0⟩] scope pos) 1 it acc env).onRaise (fun x=>do noteFrame x env;theTreesLotGoes x)) _ _ s
 refine wpAny_noted (wpAny_mono (E:=NoX) ?_ (fun _ _ q=>q) fun _ _ z=>False.elim z)
 rw[zeh];refine wpAny_bind (wpAny_standAt (wpAny_bind (thn (turn n s hI) fun r s₁ h₁=>?_)))
 cases r with
 | none=>exact wpAny_pure h₁
 | some v =>
  refine wpAny_bind (thn h₁ fun _ s₂ h₂=>wpAny_bind (thn h₂ fun _ s₃ h₃=>wpAny_bind (thn h₃ fun ok s₄ h₄=>?_)))
  cases ok with
  | false=>exact wpAny_pure ⟨rfl,h₄⟩
  | true =>
   refine wpAny_bind (wpAny_bind (thn h₄ fun x s₅ h₅=>wpAny_bind (thn h₅ fun _ s₆ h₆=>?_)))
   exact wpAny_pure (wpAny_pure ⟨rfl,h₆⟩)
theorem zfD(hs:∀x,foldedSetIterable it2 env x=pure x)(I:Nat->Shared->Prop)
  (turn:∀n s,I n s->wpAny (model prog w) A (pyNext it) (fun r s₁=>match r with
   | none=>R (.ok .next) s₁
   | some v=>wpAny (model prog w) A (letOwnedTupleGo tg1 it v) (fun _ s₂=>wpAny (model prog w) A (assign tg1 env v) (fun _ s₃ =>
     wpAny (model prog w) A (forIn ifs1 true fun c r=>if r=true then do let ok <- isTrue c env (eval c env);pure (ForInStep.yield ok) else pure (ForInStep.yield r)) (fun ok s₄ =>
      if ok=true then wpAny (model prog w) A (eval it2 env) (fun x s₅=>wpAny (model prog w) A (pyIter x) (fun itv s₆ =>
       codeAny (model prog w) A (.compStart (.ListComp elt [⟨tg1,it1,ifs1,0⟩,⟨tg2,it2,ifs2,0⟩] scope pos) 1 itv acc env) (fun r s₇=>r=.ok .next/\∃m,m<n/\I m s₇) s₆) NoX s₅) NoX s₄
      else ∃m,m<n/\I m s₄) NoX s₃) NoX s₂) NoX s₁) NoX s) (n:Nat) (h:I n s) :
  codeAny (model prog w) A (.compLoop (.ListComp elt [⟨tg1,it1,ifs1,0⟩,⟨tg2,it2,ifs2,0⟩] scope pos) 0 it acc env) R s:=by
 refine codeAny_loop rfl I (fun n s hI=>?_) n h
 show wpAny _ A ((compTurn (.ListComp elt [⟨tg1,it1,ifs1,0⟩,⟨tg2,it2,ifs2,0⟩] scope pos) 0 it acc env).onRaise (fun x=>do noteFrame x env;theTreesLotGoes x)) _ _ s
 refine wpAny_noted (wpAny_mono (E:=NoX) ?_ (fun _ _ q=>q) fun _ _ z=>False.elim z)
 rw[zdL];refine wpAny_bind (wpAny_standAt (wpAny_bind (thn (turn n s hI) fun r s₁ h₁=>?_)))
 cases r with
 | none=>exact wpAny_pure h₁
 | some v =>
  refine wpAny_bind (thn h₁ fun _ s₂ h₂=>wpAny_bind (thn h₂ fun _ s₃ h₃=>wpAny_bind (thn h₃ fun ok s₄ h₄=>?_)))
  cases ok with
  | false=>exact wpAny_pure ⟨rfl,h₄⟩
  | true =>
   refine wpAny_bind (thn h₄ fun x s₅ h₅=>wpAny_bind (wpAny_standAt (wpAny_bind (wpAny_of_eq (hs x) (wpAny_bind (wpAny_holding (thn h₅ fun itv s₆ h₆=>?_)))))))
   refine wpAny_bind (wpAny_runOwn (codeAny_mono h₆ fun r s₇ h₇=>?_))
   obtain⟨rfl,m,hm,hI'⟩:=h₇;exact wpAny_pure ⟨rfl,m,hm,hI'⟩
theorem zhi
  (h0:codeAny (model prog w) A (.compLoop (.ListComp elt [⟨tg1,it1,ifs1,0⟩,⟨tg2,it2,ifs2,0⟩] scope pos) 1 it acc env) R s)
  (h:wpAny (model prog w) A (pyIter it) (fun it' s'=>codeAny (model prog w) A (.compLoop (.ListComp elt [⟨tg1,it1,ifs1,0⟩,⟨tg2,it2,ifs2,0⟩] scope pos) 1 it' acc env) R s')
   (notedBy (model prog w) A env fun x s'=>R (.error x) s') s) :
  codeAny (model prog w) A (.compStart (.ListComp elt [⟨tg1,it1,ifs1,0⟩,⟨tg2,it2,ifs2,0⟩] scope pos) 1 it acc env) R s:=by
 refine codeAny_of_tree ?_;show wpAny _ _ ((compStart (.ListComp elt [⟨tg1,it1,ifs1,0⟩,⟨tg2,it2,ifs2,0⟩] scope pos) 1 it acc env).onRaise (fun x=>do noteFrame x env;standAt theWindowsPlace)) _ _ s
 refine wpAny_notedAt ?_;unfold compStart;show wpAny _ _ (PySem.ask >>= _) _ _ s
 refine wpAny_bind (wpAny_askSetting (wpAny_ite ?_));split
 ·first
   | exact wpAny_bind (wpAny_pure (wpAny_pure (And.intro rfl h0)))
   | exact wpAny_pure (And.intro rfl h0)
 ·first
   | exact wpAny_bind (wpAny_rule (wpAny_bind (wpAny_standAt (wpAny_bind (wpAny_mono h (fun it' s' h'=>wpAny_pure (And.intro rfl h')) fun _ _ x=>x)))))
   | (refine wpAny_bind (wpAny_rule ?_);show wpAny _ _ (standAt it2.pos >>= _) _ _ s;exact wpAny_bind (wpAny_standAt (wpAny_bind (wpAny_mono h (fun it' s' h'=>wpAny_pure (And.intro rfl h')) fun _ _ x=>x))))
end
def UM(g:TG)(tt:TT)(te:TE)(σ:St)(J:It)(H1:Hp)(D:Addr)(Q:Hp->Prop):Prop:=∃W:Nat->Nat->Hp->Prop,(∃m,W 0 m H1)/\∀i m H2,W i m H2 ->
 (J.stop i H2/\Q H2)\/(J.go i H2/\∃(N:V->Hp->Prop) (N':Hp->Prop),(∀v H6,N v H6->∃ys,H6 D=some (.lst ys)/\ys.length<sizeLine/\∃m',m'<m/\W (i+1) m' (upd H6 D (.lst (ys++[v]))))/\(∀H5,N' H5->∃m',m'<m/\W (i+1) m' H5) /\
  ∀x H3,J.yld i H2 x H3->g x σ H3 fun σ4 H4=>Wk σ σ4/\tt σ4 H4 fun b H5=>if b=true then te σ4 H5 N else N' H5)
section
variable{Y:Cx}{elt tg1 it1 tg2 it2:Expr}{ifs1 ifs2:List Expr}{scope:Scope}{pos:Pos}{g:TG}{tt:TT}{te:TE}
theorem zgy(hxe:Y.xe=NoX)(hc:Y.calm=true)(hg:PG Y tg2 g)(ht:PTs Y ifs2 tt)(he:PE Y elt te){pins:qO}{σ:St}{D:Addr}{itv:Value}{s:Shared}{Q:Hp->Prop}{R:Result->Shared->Prop}
  (h:PIE Y pins σ tg2 (fun J H1=>UM g tt te σ J H1 D Q) itv s) (hR:∀s' H',Inv Y pins σ H' s'->Q H'->R (.ok .next) s') :
  codeAny (model Y.prog Y.w) Y.A (.compStart (.ListComp elt [⟨tg1,it1,ifs1,0⟩,⟨tg2,it2,ifs2,0⟩] scope pos) 1 itv (.ref D) Y.env) R s:=by
 obtain⟨it,fp,tn,J,H2,e,I2,T,st2,f2,W,⟨m0,w0⟩,turn⟩:=h;subst e;have stat:∀{H':Hp},(∀b∈fp,H' b=none)->∀b∈fp,FpOk Y pins H' b:=fun hn b hb=>⟨hn b hb,(f2 b hb).2⟩
 have loop:codeAny (model Y.prog Y.w) Y.A (.compLoop (.ListComp elt [⟨tg1,it1,ifs1,0⟩,⟨tg2,it2,ifs2,0⟩] scope pos) 1 (.ref it) (.ref D) Y.env) R s:=by
  refine zhg (fun n s'=>∃i H',Inv Y pins σ H' s'/\tn i s'.heap/\(∀b∈fp,H' b=none)/\W i n H') ?_ m0 ⟨0,_,I2,st2,fun b hb=>(f2 b hb).1,w0⟩
  rintro n s4 ⟨i,H4,I4,st4,fr4,w4⟩;rcases turn i n H4 w4 with⟨stop,qn⟩|⟨go,N,N',hN,hN',step⟩
  ·refine thn (T.done Y rfl rfl rfl hc i pins s4 _ H4 NoX I4 (stat fr4) st4 stop) fun r s5 ⟨hr,I5⟩=>?_
   subst hr;exact hR _ _ I5 qn
  ·refine thn (T.item Y rfl rfl rfl hc i pins s4 _ H4 NoX I4 (stat fr4) st4 go) fun r s5 ⟨u,hr,h5⟩=>?_
   subst hr;refine thn h5 fun _ s6 ⟨x,H6,I6,r6,y6,st6,fr6⟩=>?_
   have I6':=I6.pinned (stat fr6) (T.obj _ _ st6);have a1:=hg _ s6 _ H6 x u _ I6' r6 (step x H6 y6);rw[hxe]at a1;refine thn a1 fun _ s7 ⟨σ7,H7,I7,wk,q7⟩=>?_
   obtain⟨wl,wv⟩:=wk.weak;have again:∀{s8:Shared} {H8:Hp} {m':Nat},Inv Y (pins++QE fp s6.heap) σ7 H8 s8->m'<n->W (i+1) m' H8 ->
     ∃m,m<n/\∃i H',Inv Y pins σ H' s8/\tn i s8.heap/\(∀b∈fp,H' b=none)/\W i m H':=fun {s8 H8 m'} I8 hm w8=>by
    refine⟨m',hm,i+1,H8,(I8.unpinned).weak wl wv,T.keep _ _ _ st6 fun b hb o e=>(I8.pin (b,o) (List.mem_append_right _ (List.mem_append_right _ (Qu hb e)))).1,fun b hb=>?_,w8⟩
    obtain⟨o,e,d⟩:=T.obj _ _ st6 b hb;exact(I8.pin (b,o) (List.mem_append_right _ (List.mem_append_right _ (Qu hb e)))).2.1
   have a2:=ht _ s7 σ7 H7 _ I7 q7;rw[hxe]at a2;refine thn a2 fun ok s8 ⟨H8,I8,q8⟩=>?_
   cases ok with
   | false =>
    obtain⟨m',hm,w8⟩:=hN' H8 (by simpa using q8)
    exact again I8 hm w8
   | true =>
    have a3:=he _ s8 σ7 H8 N I8 (by simpa using q8)
    rw[hxe]at a3;refine thn a3 fun y s9 ⟨v,H9,I9,r9,q9⟩=>?_
    obtain⟨ys,hD,hl,m',hm,w9⟩:=hN v H9 q9;have a4:=zcl (X:=Y) _ s9 σ7 H9 (.ref D) [v] _ [y] (fun _ H'=>H'=upd H9 D (.lst (ys++[v]))) I9 rfl (.cons r9 .nil) ⟨_,ys,v,rfl,rfl,hD,hl,rfl⟩
    rw[hxe]at a4;refine thn a4 fun _ s10 ⟨_,H10,I10,_,q10⟩=>?_
    subst q10;exact again I10 hm w9
 exact zhi loop (T.self Y.A 0 _ _ _ st2 loop)
end
def zhc(own:List Str)(capt:List Nat)(g:TG)(tt:TT)(wi2:TI)(g2:TG)(tt2:TT)(te:TE)(σ:St)(J:It)(H1:Hp)(D:Addr)(Q:VK):Prop:=∃W:Nat->Nat->Hp->Prop,(∃m,W 0 m (upd H1 D (.lst [])))/\∀i m H2,W i m H2 ->
 (J.stop i H2/\Q (.ref D) H2)\/(J.go i H2/\∃(N N':Hp->Prop),(∀H6,N H6->∃m',m'<m/\W (i+1) m' H6)/\(∀H5,N' H5->∃m',m'<m/\W (i+1) m' H5) /\
  ∀x H3,J.yld i H2 x H3->g x (Jn own++capS capt σ) H3 fun σ4 H4=>Wk (Jn own++capS capt σ) σ4/\tt σ4 H4 fun b H5=>if b=true then wi2 σ4 H5 (fun J2 H6=>UM g2 tt2 te σ4 J2 H6 D N) else N' H5)
def zjQ(own:List Str)(capt:List Nat)(wi:TI)(g:TG)(tt:TT)(wi2:TI)(g2:TG)(tt2:TT)(te:TE):TE:=fun σ H Q=>wi σ H fun J H1=>∀D,H1 D=none->zhc own capt g tt wi2 g2 tt2 te σ J H1 D Q
section
variable{X:Cx}{scope:Scope}{own:List Str}{capt:List Nat}{elt tg iter tg2 it2:Expr}{ifs ifs2:List Expr}{pos:Pos}{wi wi2:TI}{g g2:TG}{tt tt2:TT}{te:TE}
theorem zg0(hc:X.calm=true)(S:CompScope scope own capt X)
  (hg:∀C s₀ H₀ fp,PG (Jb X scope own capt C s₀ H₀ fp) tg g) (ht:∀C s₀ H₀ fp,PTs (Jb X scope own capt C s₀ H₀ fp) ifs tt) (hi2:∀C s₀ H₀ fp,PI (Jb X scope own capt C s₀ H₀ fp) tg2 it2 wi2)
  (hg2:∀C s₀ H₀ fp,PG (Jb X scope own capt C s₀ H₀ fp) tg2 g2) (ht2:∀C s₀ H₀ fp,PTs (Jb X scope own capt C s₀ H₀ fp) ifs2 tt2) (he:∀C s₀ H₀ fp,PE (Jb X scope own capt C s₀ H₀ fp) elt te)
  (hs2:∀(C:Addr) (x:Value),foldedSetIterable it2 (compEnvC scope (closed X.env scope.names []) C X.env) x=pure x)
  {pins:qO} {σ:St} {Q:VK} {itv:Value} {s2:Shared} {E:qV} {RR:Value->Addr->Result->Shared->Prop}
  (h2:PIE X pins σ tg (fun J H1=>∀D,H1 D=none->zhc own capt g tt wi2 g2 tt2 te σ J H1 D Q) itv s2)
  (hR:∀D C s' H',(∃m,s'.heap.Ns C m)->(∀h'',Heap.SameBut C s'.heap h''->Inv X pins σ H' { s' with heap:=h'' })->H' C=none->FpOk X pins H' C->Q (.ref D) H'->RR (.ref D) C (.ok .next) s') :
  wpAny (model X.prog X.w) X.A (newList []) (fun acc s₃=>wpAny (model X.prog X.w) X.A (newFunctionEnv scope X.env.globals (closed X.env scope.names []) [] X.env.qual none .none (some X.env)) (fun cenv s₄ =>
   codeAny (model X.prog X.w) X.A (.compStart (.ListComp elt [⟨tg,iter,ifs,0⟩,⟨tg2,it2,ifs2,0⟩] scope pos) 0 itv acc { cenv with scope:=relabel scope X.env }) (RR acc cenv.locals) s₄) E s₃) E s2:=by
 obtain⟨it,fp,tn,J,H2,e,I2,T,st2,f2,rd⟩:=h2;subst e;have hfp:∀b∈fp,b<s2.heap.objs.size:=fun b hb=>by
  obtain⟨o,e,_⟩:=T.obj 0 _ st2 b hb;exact Heap.lt_size e
 refine wpAny_newObj_type (wpAny_newFunctionEnv S.nocell (by intro y hy;simp at hy) (fun h₁ hns₁ hsb₁=>?_) S.kind)
 dsimp only at hns₁ hsb₁ ⊢;generalize hH3:s2.heap.push { cls:=.type "list",dict:=none,data:=.seq ([]:List Value).toArray }=H3 at hns₁ hsb₁ ⊢;have hC:H3.objs.size=s2.heap.objs.size+1:=by rw[<- hH3,Heap.size_push]
 have hDC:s2.heap.objs.size≠H3.objs.size:=by rw[hC];exact Nat.ne_of_lt (Nat.lt_succ_self _)
 have hCle:s2.heap.objs.size<=H3.objs.size:=by rw[hC];exact Nat.le_succ _
 have neC:∀b o,s2.heap.get? b=some o->b≠H3.objs.size:=fun b o e=>Nat.ne_of_lt (Nat.lt_of_lt_of_le (Heap.lt_size e) hCle)
 have old:∀b o,s2.heap.get? b=some o->h₁.get? b=some o:=fun b o e=>hsb₁.extBut b o (neC b o e) (Heap.get?_push_of_some _ (hH3▸Heap.get?_push_of_some _ e))
 have hacc:h₁.get? s2.heap.objs.size=some { cls:=.type "list",data:=.seq ([]:List Value).toArray 0 }:=hsb₁.extBut _ _ hDC (Heap.get?_push_of_some _ (hH3▸Heap.get?_push_size _ rfl));have hnD:H2 s2.heap.objs.size=none:=I2.hok.fresh (Nat.le_refl _);obtain⟨W,⟨m0,w0⟩,turn⟩:=rd _ hnD;have hLC:H3.objs.size≠X.env.locals:=fun z=>by
  have h:=I2.lt;rw[<- z]at h;exact absurd h (Nat.not_lt.mpr hCle)
 have J0:∀tk,Inv (Jb X scope own capt H3.objs.size s2 H2 fp) [] (Jn own++capS capt σ) (upd H2 s2.heap.objs.size (.lst [])) { s2 with heap:=h₁,toks:=tk }:=fun tk =>
  ze2 (tk:=tk) S I2 f2 hfp (Nat.le_refl _) hCle hDC old hns₁ hacc
 have fr0:∀b∈fp,upd H2 s2.heap.objs.size (.lst []) b=none:=fun b hb=>by
  rw[Je (Nat.ne_of_lt (hfp b hb))];exact(f2 b hb).1
 have stat:∀{H':Hp},(∀b∈fp,H' b=none)->∀b∈fp,FpOk (Jb X scope own capt H3.objs.size s2 H2 fp) [] H' b:=fun hn b hb=>by
  obtain⟨g0,g1,g2,g3,g4,g5⟩:=f2 b hb;have sub:=Ul scope.names [] (S.cells I2.ok) (fun x c h=>nomatch (show(none:Option Addr)=some c from h))
  refine⟨hn b hb,Nat.ne_of_lt (Nat.lt_of_lt_of_le (hfp b hb) hCle),fun z=>?_,.inl hb,fun x c e=>g4 x c (sub x c e),fun p hp=>absurd (show p∈([]:qO) from hp) (by simp)⟩
  rcases List.mem_cons.mp (I2.stkSub b z) with q|q
  ·exact g1 q
  ·exact g2 q
 have loop:∀s₃:Shared,(∃tk,s₃={ s2 with heap:=h₁,toks:=tk }) ->
   codeAny (model X.prog X.w) X.A (.compLoop (.ListComp elt [⟨tg,iter,ifs,0⟩,⟨tg2,it2,ifs2,0⟩] scope pos) 0 (.ref it) (.ref s2.heap.objs.size) (compEnvC scope (closed X.env scope.names []) H3.objs.size X.env)) (RR (.ref s2.heap.objs.size) H3.objs.size) s₃:=by
  rintro s₃ ⟨tk,rfl⟩;refine zfD (hs2 _) (fun n s'=>∃i H',Inv (Jb X scope own capt H3.objs.size s2 H2 fp) [] (Jn own++capS capt σ) H' s'/\tn i s'.heap/\(∀b∈fp,H' b=none)/\W i n H') ?_ m0
   ⟨0,_,J0 tk,T.keep _ _ _ st2 fun b hb o e=>old b o e,fr0,w0⟩
  rintro n s4 ⟨i,H4,I4,st4,fr4,w4⟩;rcases turn i n H4 w4 with⟨stop,qn⟩|⟨go,N,N',hN,hN',step⟩
  ·refine thn (T.done (Jb X scope own capt H3.objs.size s2 H2 fp) rfl rfl rfl hc i [] s4 _ H4 NoX I4 (stat fr4) st4 stop) fun r s5 ⟨hr,I5⟩=>?_
   subst hr;obtain⟨m,hn,_⟩:=I5.loc;exact hR _ _ s5 H4 ⟨m,hn⟩ (fun h'' sb=>ze1 I2 f2 hCle I5 sb) I5.free (I2.fpOk hCle I5.free) qn
  ·refine thn (T.item (Jb X scope own capt H3.objs.size s2 H2 fp) rfl rfl rfl hc i [] s4 _ H4 NoX I4 (stat fr4) st4 go) fun r s5 ⟨u,hr,h5⟩=>?_
   subst hr;refine thn h5 fun _ s6 ⟨x,H6,I6,r6,y6,st6,fr6⟩=>?_
   have I6':=I6.pinned (stat fr6) (T.obj _ _ st6);refine thn (hg _ _ _ _ _ s6 _ H6 x u _ I6' r6 (step x H6 y6)) fun _ s7 ⟨σ7,H7,I7,wk,q7⟩=>?_
   obtain⟨wl,wv⟩:=wk.weak;have again:∀{s8:Shared} {H8:Hp} {m':Nat},Inv (Jb X scope own capt H3.objs.size s2 H2 fp) ([]++QE fp s6.heap) σ7 H8 s8->m'<n->W (i+1) m' H8 ->
     ∃m,m<n/\∃i H',Inv (Jb X scope own capt H3.objs.size s2 H2 fp) [] (Jn own++capS capt σ) H' s8/\tn i s8.heap/\(∀b∈fp,H' b=none)/\W i m H':=fun {s8 H8 m'} I8 hm w8=>by
    refine⟨m',hm,i+1,H8,(I8.unpinned).weak wl wv,T.keep _ _ _ st6 fun b hb o e=>(I8.pin (b,o) (List.mem_append_right _ (List.mem_append_right _ (Qu hb e)))).1,fun b hb=>?_,w8⟩
    obtain⟨o,e,d⟩:=T.obj _ _ st6 b hb;exact(I8.pin (b,o) (List.mem_append_right _ (List.mem_append_right _ (Qu hb e)))).2.1
   refine thn (ht _ _ _ _ _ s7 σ7 H7 _ I7 q7) fun ok s8 ⟨H8,I8,q8⟩=>?_
   cases ok with
   | false =>
    obtain⟨m',hm,w8⟩:=hN' H8 (by simpa using q8)
    exact again I8 hm w8
   | true =>
    refine thn (hi2 _ _ _ _ _ s8 σ7 H8 _ I8 (by simpa using q8)) fun y s9 h9=>thn h9 fun itv2 s10 h10=>?_
    refine zgy (Y:=Jb X scope own capt H3.objs.size s2 H2 fp) rfl hc (hg2 _ _ _ _) (ht2 _ _ _ _) (he _ _ _ _) h10 fun s' H' I' q'=>⟨rfl,?_⟩
    obtain⟨m',hm,w9⟩:=hN H' q';exact again I' hm w9
 exact codeAny_compStart_list (loop _ ⟨_,rfl⟩) (T.self X.A 0 _ _ _ (T.keep _ _ _ st2 fun b hb o e=>old b o e) (loop _ ⟨_,rfl⟩))
theorem zfZ(hc:X.calm=true)(S:CompScope scope own capt X)(hi:PI X tg iter wi)
  (hg:∀C s₀ H₀ fp,PG (Jb X scope own capt C s₀ H₀ fp) tg g) (ht:∀C s₀ H₀ fp,PTs (Jb X scope own capt C s₀ H₀ fp) ifs tt) (hi2:∀C s₀ H₀ fp,PI (Jb X scope own capt C s₀ H₀ fp) tg2 it2 wi2)
  (hg2:∀C s₀ H₀ fp,PG (Jb X scope own capt C s₀ H₀ fp) tg2 g2) (ht2:∀C s₀ H₀ fp,PTs (Jb X scope own capt C s₀ H₀ fp) ifs2 tt2) (he:∀C s₀ H₀ fp,PE (Jb X scope own capt C s₀ H₀ fp) elt te)
  (hs:∀x,foldedSetIterable iter X.env x=pure x:=by intro _;rfl) (hs2:∀(C:Addr) (x:Value),foldedSetIterable it2 (compEnvC scope (closed X.env scope.names []) C X.env) x=pure x:=by intro _ _;rfl) :
  PE X (.ListComp elt [⟨tg,iter,ifs,0⟩,⟨tg2,it2,ifs2,0⟩] scope pos) (zjQ own capt wi g tt wi2 g2 tt2 te):=by
 intro pins s σ H Q I h;rw[eval_ListComp];refine wpAny_comprehension_free (use:=none) rfl hs (zbc (S.cells I.ok)) S.kind S.names (thn (hi pins s σ H _ I h) fun v s1 h1=>thn h1 fun itv s2 h2=>?_)
 refine zg0 (RR:=fun acc C=>compPost (model X.prog X.w) X.A X.xe none (EP X pins σ Q) acc C) hc S hg ht hi2 hg2 ht2 he hs2 h2 fun D C s' H' hn J _ _ q=>?_
 obtain⟨m,hn⟩:=hn;exact⟨m,hn,fun h'' sb=>⟨.ref D,H',J h'' sb,rfl,q⟩⟩
end
theorem zfs{J:It}{n:Nat}{g:TG}{tt:TT}{te:TE}{σ:St}{H1:Hp}{D:Addr}{Q:Hp->Prop}(Pv:Nat->List V->Hp->Prop)(h0:∃ys,H1 D=some (.lst ys)/\Pv 0 ys H1)
  (turn:∀i ys H2,i<n->H2 D=some (.lst ys)->Pv i ys H2->J.go i H2/\∀x H3,J.yld i H2 x H3->g x σ H3 fun σ4 H4=>Wk σ σ4/\tt σ4 H4 fun b H5 =>
   if b=true then te σ4 H5 (fun v H6=>∃zs,H6 D=some (.lst zs)/\zs.length<sizeLine/\Pv (i+1) (zs++[v]) (upd H6 D (.lst (zs++[v])))) else ∃zs,H5 D=some (.lst zs)/\Pv (i+1) zs H5)
  (stop:∀ys H2,H2 D=some (.lst ys)->Pv n ys H2->J.stop n H2/\Q H2):UM g tt te σ J H1 D Q:=by
 refine⟨fun i m H=>m=n - i/\i<=n/\∃ys,H D=some (.lst ys)/\Pv i ys H,⟨n,rfl,Nat.zero_le _,h0⟩,?_⟩
 rintro i m H2 ⟨rfl,hi,ys,hD,p⟩
 by_cases hlt:i<n
 ·obtain⟨go,st⟩:=turn i ys H2 hlt hD p;refine .inr ⟨go,_,_,?_,?_,st⟩
  ·rintro v H6 ⟨zs,e,l,q⟩;exact⟨zs,e,l,n - (i+1),by omega,rfl,hlt,_,JC,q⟩
  ·rintro H5 ⟨zs,e,q⟩;exact⟨n - (i+1),by omega,rfl,hlt,zs,e,q⟩
 ·have e:i=n:=by omega
  subst e;exact .inl (stop ys H2 hD p)
theorem zfx{J:It}{n:Nat}{own:List Str}{capt:List Nat}{g g2:TG}{tt tt2:TT}{wi2:TI}{te:TE}{σ:St}{H1:Hp}{D:Addr}{Q:VK}(Pv:Nat->List V->Hp->Prop)(h0:Pv 0 [] (upd H1 D (.lst [])))
  (turn:∀i ys H2,i<n->H2 D=some (.lst ys)->Pv i ys H2->J.go i H2/\∀x H3,J.yld i H2 x H3->g x (Jn own++capS capt σ) H3 fun σ4 H4=>Wk (Jn own++capS capt σ) σ4/\tt σ4 H4 fun b H5 =>
   if b=true then wi2 σ4 H5 (fun J2 H6=>UM g2 tt2 te σ4 J2 H6 D fun H7=>∃zs,H7 D=some (.lst zs)/\Pv (i+1) zs H7) else ∃zs,H5 D=some (.lst zs)/\Pv (i+1) zs H5)
  (stop:∀ys H2,H2 D=some (.lst ys)->Pv n ys H2->J.stop n H2/\Q (.ref D) H2) :
  zhc own capt g tt wi2 g2 tt2 te σ J H1 D Q:=by
 refine⟨fun i m H=>m=n - i/\i<=n/\∃ys,H D=some (.lst ys)/\Pv i ys H,⟨n,rfl,Nat.zero_le _,[],JC,h0⟩,?_⟩
 rintro i m H2 ⟨rfl,hi,ys,hD,p⟩
 by_cases hlt:i<n
 ·obtain⟨go,st⟩:=turn i ys H2 hlt hD p;refine .inr ⟨go,_,_,?_,?_,st⟩
  ·rintro H6 ⟨zs,e,q⟩;exact⟨n - (i+1),by omega,rfl,hlt,zs,e,q⟩
  ·rintro H5 ⟨zs,e,q⟩;exact⟨n - (i+1),by omega,rfl,hlt,zs,e,q⟩
 ·have e:i=n:=by omega
  subst e;exact .inl (stop ys H2 hD p)
theorem DI.uni{ι:Type}{Xf:ι->Cx}{K:qF}(hK:∀i,(Xf i).K=K){tg e:Expr}{d:DTA}(h:∀i,DI (Xf i) tg e d):∃wi:TI,(∀i,PI (Xf i) tg e wi)/\∀(C:Ctx) (ρ:En) (σ:St) (H:Hp) (n:Nat) (Q:It->Hp->Prop) (R:List PyData->Nat->Prop),Stt K C ρ σ H n->d ρ n R ->
  (∀ts n' J H',R ts n'->ExtE C.hd H H'->Hn C.hd H' n'->ItOk K C.hd (fun a=>¬Own C ρ σ a) (Own C ρ σ) H' J ts->Q J H')->wi σ H Q:=by
 refine⟨fun σ H Q=>∀i,(Classical.choose (h i)) σ H Q,fun i pins s σ H R I hw=>(Classical.choose_spec (h i)).1 pins s σ H R I (hw i),fun C ρ σ H n Q R S hd hq i=>?_⟩
 have:=(Classical.choose_spec (h i)).2 C ρ σ H n Q R;exact this (by rw[hK i];exact S) hd fun t n' J H' r e h q=>hq t n' J H' r e h (by rw[<- hK i];exact q)
theorem Stt.onX{K:qF}{C:Ctx}{ρ:En}{σ:St}{H H':Hp}{n n':Nat}(S:Stt K C ρ σ H n)(k:∀a o,H a=some o->¬C.ext a->H' a=some o)(hl:∀a,C.ext a->MutO (H' a))(kr:∀a ks,H a=some (.dK ks)->C.ext a->C.hd≠some a->H' a=some (.dK ks))(hn:Hn C.hd H' n'):Stt K C ρ σ H' n' where
 len:=S.len
 val:=fun i d hi=>by
  obtain⟨v,h1,h2⟩:=S.val i d hi;exact⟨v,h1,h2.mono (fun _ _ _ z=>z) fun a o no h=>k a o h fun z=>no (.inl z)⟩
 own:=fun i ds hi=>by
  obtain⟨a,vs,h1,h2,h3,h4⟩:=S.own i ds hi;exact⟨a,vs,h1,k a _ h2 h4,h3.mono (fun _ _ _ z=>z) (fun a o no h=>k a o h fun z=>no (.inl z)),h4⟩
 dct:=fun i ds hi=>by
  obtain⟨a,vs,h1,h2,h3,h4⟩:=S.dct i ds hi;exact⟨a,vs,h1,k a _ h2 h4,h3.mono (fun _ _ _ z=>z) (fun a o no h=>k a o h fun z=>no (.inl z)),h4⟩
 rdo:=fun i ds hi=>by
  obtain⟨a,vs,h1,h2,h3,h4,h5⟩:=S.rdo i ds hi;exact⟨a,vs,h1,kr a _ h2 h4 h5,h3.mono (fun _ _ _ z=>z) (fun a o no h=>k a o h fun z=>no (.inl z)),h4,h5⟩
 dtt:=fun i ds hi=>by
  obtain⟨a,vs,ep,h1,h2,h3,h4⟩:=S.dtt i ds hi;exact⟨a,vs,ep,h1,k a _ h2 h4,h3.mono (fun _ _ _ z=>z) (fun a o no h=>k a o h fun z=>no (.inl z)),h4⟩
 dif:=S.dif
 hnd:=hn
 ext:=hl
 hx:=S.hx
def Qo(g:DTG)(tt:DTT)(di2:DTA)(g2:DTG)(tt2:DTT)(te:DTE)(ρ0:En):List PyData->List PyData->Nat->(List PyData->Nat->Prop)->Prop
 | [],acc,n,R=>R acc n
 | x::xs,acc,n,R=>g x ρ0 fun ρ1=>tt ρ1 n fun b n2=>if b=true then di2 ρ1 n2 fun ts n3=>Jw g2 tt2 te ρ1 ts acc n3 fun acc' n4=>Qo g tt di2 g2 tt2 te ρ0 xs acc' n4 R else Qo g tt di2 g2 tt2 te ρ0 xs acc n2 R
def zgX(m:Nat)(capt:List Nat)(di:DTA)(g:DTG)(tt:DTT)(di2:DTA)(g2:DTG)(tt2:DTT)(te:DTE):DTA:=fun ρ n R=>di ρ n fun ts n1=>Qo g tt di2 g2 tt2 te (Ju m capt ρ) ts [] n1 R
section
variable{X:Cx}{scope:Scope}{own:List Str}{capt:List Nat}{elt tg iter tg2 it2:Expr}{ifs ifs2:List Expr}{pos:Pos}{di di2:DTA}{is is2:List Nat}{g g2:DTG}{tt tt2:DTT}{te:DTE}
theorem zhR(hc:X.calm=true)(S:CompScope scope own capt X)(hi:DIL X tg iter di)
  (hg:∀C s₀ H₀ fp,DG (Jb X scope own capt C s₀ H₀ fp) tg is g) (hin:∀i∈is,i<own.length) (ht:∀C s₀ H₀ fp,DTs (Jb X scope own capt C s₀ H₀ fp) ifs tt)
  (hi2:∀C s₀ H₀ fp,DI (Jb X scope own capt C s₀ H₀ fp) tg2 it2 di2) (hg2:∀C s₀ H₀ fp,DG (Jb X scope own capt C s₀ H₀ fp) tg2 is2 g2) (hin2:∀i∈is2,i<own.length/\i∉is) (ht2:∀C s₀ H₀ fp,DTs (Jb X scope own capt C s₀ H₀ fp) ifs2 tt2)
  (he:∀C s₀ H₀ fp,DE (Jb X scope own capt C s₀ H₀ fp) elt te)
  (hs:∀x,foldedSetIterable iter X.env x=pure x:=by intro _;rfl) (hs2:∀(C:Addr) (x:Value),foldedSetIterable it2 (compEnvC scope (closed X.env scope.names []) C X.env) x=pure x:=by intro _ _;rfl) :
  DN X (.ListComp elt [⟨tg,iter,ifs,0⟩,⟨tg2,it2,ifs2,0⟩] scope pos) (zgX own.length capt di g tt di2 g2 tt2 te):=by
 obtain⟨wi,pi,hi⟩:=hi
 let Xf:(Addr×Shared×Hp×List Addr)->Cx:=fun q=>Jb X scope own capt q.1 q.2.1 q.2.2.1 q.2.2.2
 have hK:∀q,(Xf q).K=X.K:=fun _=>rfl
 have hne:Nonempty (Addr×Shared×Hp×List Addr):=⟨(0,X.s₀,X.H₀,[])⟩;obtain⟨gg,pg,hgg⟩:=DG.uni (Xf:=Xf) hK fun q=>hg q.1 q.2.1 q.2.2.1 q.2.2.2
 obtain⟨gt,pt,hgt⟩:=DTs.uni (Xf:=Xf) hK fun q=>ht q.1 q.2.1 q.2.2.1 q.2.2.2
 obtain⟨wi2,pi2,hwi2⟩:=DI.uni (Xf:=Xf) hK fun q=>hi2 q.1 q.2.1 q.2.2.1 q.2.2.2
 obtain⟨gg2,pg2,hgg2⟩:=DG.uni (Xf:=Xf) hK fun q=>hg2 q.1 q.2.1 q.2.2.1 q.2.2.2
 obtain⟨gt2,pt2,hgt2⟩:=DTs.uni (Xf:=Xf) hK fun q=>ht2 q.1 q.2.1 q.2.2.1 q.2.2.2
 obtain⟨ge,pe,hge⟩:=DE.uni (Xf:=Xf) hK fun q=>he q.1 q.2.1 q.2.2.1 q.2.2.2
 refine⟨_,zfZ hc S pi (fun C s₀ H₀ fp=>pg (C,s₀,H₀,fp)) (fun C s₀ H₀ fp=>pt (C,s₀,H₀,fp)) (fun C s₀ H₀ fp=>pi2 (C,s₀,H₀,fp)) (fun C s₀ H₀ fp=>pg2 (C,s₀,H₀,fp)) (fun C s₀ H₀ fp=>pt2 (C,s₀,H₀,fp)) (fun C s₀ H₀ fp=>pe (C,s₀,H₀,fp)) hs hs2,fun C ρ σ H n Q R St hd hq=>?_⟩
 refine hi C ρ σ H n _ _ St hd fun ts n1 J H1 r e1 hn it=>fun D hD1=>?_
 have St1:=St.on e1 hn;have hD:H D=none:=zgz e1 hn hD1;have nhd:C.hd≠some D:=fun z=>St.dom (.inl (St.hx D z)) hD
 refine zfx (n:=ts.length) (fun i ys H2=>∃acc n2,Qo g tt di2 g2 tt2 te (Ju own.length capt ρ) (ts.drop i) acc n2 R/\Reps X.K C.hd (fun a=>Own C ρ σ a\/a=D) H2 ys acc/\ExtE C.hd H1 H2/\Hn C.hd H2 n2)
  ⟨[],n1,by simpa using r,.nil,ExtE.new hD1,hn.same (J4 hD1)⟩ ?_ ?_
 ·rintro i ys H2 hlt hy ⟨acc,n2,c2,r2,e2,hn2⟩;have et:ts[i]?=some ts[i]:=List.getElem?_eq_getElem hlt;rw[List.drop_eq_getElem_cons hlt]at c2;have itq:=it (fun a=>Own C ρ σ a\/a=D) H2 (fun a o ha nh=>e2 a o ha nh) (fun a o ha no z=>z.elim no fun z=>by subst z;rw[hD1]at ha;cases ha) (fun a z=>z.elim (fun z=>(St1.on e2 hn2).dom z) fun z=>by subst z;rw[hy];exact fun z=>by cases z)
  obtain⟨go,yl⟩:=itq.1 i _ et;refine⟨go,fun x H3 hyd=>?_⟩
  obtain⟨sm,rx⟩:=yl x H3 hyd;have hn3:=hn2.same sm;have e3:ExtE C.hd H1 H3:=e2.trans sm.ext;obtain⟨I3,no3⟩:=zeZ (own:=own) (capt:=capt) (D:=D) (ys:=ys) St (e1.trans e3) hn3 hD (sm _ _ hy);have rx':Rep X.K C.hd (Own ⟨C.hd,fun a=>Own C ρ σ a\/a=D⟩ (Ju own.length capt ρ) (Jn own++capS capt σ)) H3 x ts[i]:=rx.mono (fun a o _ z=>z.elim id fun z=>absurd z (no3 a)) fun _ _ _ z=>z
  refine hgg ⟨C.hd,fun a=>Own C ρ σ a\/a=D⟩ (Ju own.length capt ρ) (Jn own++capS capt σ) H3 n2 x ts[i] _ _ I3 rx' c2 fun ρ4 σ4 r4 S4 k4 hj hl=>⟨Wk.of hl.symm fun j v ej=>?_,?_⟩
  ·by_cases hjo:j<own.length
   ·rw[List.getElem?_append_left (by simpa using hjo),List.getElem?_map]at ej
    cases z:own[j]? with
    | none=>rw[z]at ej;cases ej
    | some q=>rw[z]at ej;cases ej
   ·rw[hj j (fun z=>hjo (hin j z))];exact ej
  ·refine hgt _ ρ4 σ4 H3 n2 _ _ S4 r4 fun b n5 H5 r5 e5 hn5=>?_
   have S5:=S4.on e5 hn5;have hy5:H5 D=some (.lst ys):=e5 D _ (sm _ _ hy) nhd;have r25:∀{H6},ExtE C.hd H2 H6->Reps X.K C.hd (fun a=>Own C ρ σ a\/a=D) H6 ys acc:=fun e=>r2.mono (fun _ _ _ z=>z) fun a o no ha=>e a o ha fun z=>no (.inl (.inl (St.hx a z)))
   cases b with
   | false =>
    refine iteF ⟨ys,hy5,acc,n5,by simpa using r5,r25 ((Same.ext sm).trans e5),e3.trans e5,hn5⟩
   | true =>
    refine iteT (hwi2 ⟨C.hd,fun a=>Own C ρ σ a\/a=D⟩ ρ4 σ4 H5 n5 _ _ S5 (by simpa using r5) fun us n6 J2 H6 r6 e6 hn6 it6=>?_)
    have S6:=S5.on e6 hn6;have hy6:H6 D=some (.lst ys):=e6 D _ hy5 nhd;refine zfs (n:=us.length) (fun k zs H7=>∃acc' n7,Jw g2 tt2 te ρ4 (us.drop k) acc' n7 (fun acc' n4=>Qo g tt di2 g2 tt2 te (Ju own.length capt ρ) (ts.drop (i+1)) acc' n4 R)/\Reps X.K C.hd (fun a=>Own C ρ σ a\/a=D) H7 zs acc'/\ExtE C.hd H1 H7/\Hn C.hd H7 n7/\∀a o,H6 a=some o->¬(Own C ρ σ a\/a=D)->H7 a=some o)
     ⟨ys,hy6,acc,n6,by simpa using r6,r25 ((Same.ext sm).trans (e5.trans e6)),e3.trans (e5.trans e6),hn6,fun _ _ h _=>h⟩ ?_ ?_
    ·rintro k zs H7 hk hz ⟨acc',n7,c7,r7,e7,hn7,k7⟩;have et2:us[k]?=some us[k]:=List.getElem?_eq_getElem hk;rw[List.drop_eq_getElem_cons hk]at c7;have S7:Stt X.K ⟨C.hd,fun a=>Own C ρ σ a\/a=D⟩ ρ4 σ4 H7 n7:=S6.onX k7 (fun a z=>z.elim (fun z=>(St1.on e7 hn7).lst z) fun z=>by subst z;exact .inl ⟨_,hz⟩) (fun a ks ha z nh=>z.elim (fun z=>by
      have e16:ExtE C.hd H1 H6:=e3.trans (e5.trans e6);rcases St1.lst z with⟨xs,q⟩|⟨xs,q⟩|⟨b,xs,ep,q⟩
      ·rw[e16 a _ q nh]at ha;cases ha
      ·rw[e16 a _ q nh]at ha;cases ha;exact e7 a _ q nh
      ·rw[e16 a _ q nh]at ha;cases ha) (fun z=>by subst z;rw[hy6]at ha;cases ha)) hn7
     have itq2:=it6 (Own ⟨C.hd,fun a=>Own C ρ σ a\/a=D⟩ ρ4 σ4) H7 (fun a o ha no=>k7 a o ha fun z=>no (.inl z)) (fun a o ha no=>no) (fun a z=>S7.dom z)
     obtain⟨go2,yl2⟩:=itq2.1 k _ et2;refine⟨go2,fun y H8 hyd2=>?_⟩
     obtain⟨sm8,ry⟩:=yl2 y H8 hyd2;have hn8:=hn7.same sm8;have S8:=S7.on (Same.ext sm8) hn8;refine hgg2 _ ρ4 σ4 H8 n7 y us[k] _ _ S8 ry c7 fun ρ9 σ9 r9 S9 k9 hj9 hl9=>⟨Wk.of hl9.symm fun j v ej=>?_,?_⟩
     ·by_cases hjo:j∈is2
      ·exfalso;obtain⟨lo,nis⟩:=hin2 j hjo;rw[hj j nis,List.getElem?_append_left (by simpa using lo),List.getElem?_map]at ej
       cases z:own[j]? with
       | none=>rw[z]at ej;cases ej
       | some q=>rw[z]at ej;cases ej
      ·rw[hj9 j hjo];exact ej
     ·refine hgt2 _ ρ9 σ9 H8 n7 _ _ S9 r9 fun b n10 H10 r10 e10 hn10=>?_
      have S10:=S9.on e10 hn10;have hz10:H10 D=some (.lst zs):=e10 D _ (sm8 _ _ hz) nhd;have r710:∀{H'},ExtE C.hd H7 H'->Reps X.K C.hd (fun a=>Own C ρ σ a\/a=D) H' zs acc':=fun e=>r7.mono (fun _ _ _ z=>z) fun a o no ha=>e a o ha fun z=>no (.inl (.inl (St.hx a z)))
      have kk:∀{H'},ExtE C.hd H7 H'->∀a o,H6 a=some o->¬(Own C ρ σ a\/a=D)->H' a=some o:=fun e a o ha no=>e a o (k7 a o ha no) fun z=>no (.inl (.inl (St.hx a z)))
      cases b with
      | false=>exact iteF ⟨zs,hz10,acc',n10,by simpa using r10,r710 ((Same.ext sm8).trans e10),e7.trans ((Same.ext sm8).trans e10),hn10,kk ((Same.ext sm8).trans e10)⟩
      | true =>
       refine iteT (hge _ ρ9 σ9 H10 n10 _ _ S10 (by simpa using r10) fun t n11 v H11 r11 e11 hn11 q11=>?_)
       have hz11:H11 D=some (.lst zs):=e11 D _ hz10 nhd;have e711:ExtE C.hd H7 H11:=(Same.ext sm8).trans (e10.trans e11);have rl:=(r710 e711).length;refine⟨zs,hz11,by rw[rl];exact r11.1,acc'++[t],n11,r11.2,?_,?_,?_,?_⟩
       ·have q11':Rep X.K C.hd (fun a=>Own C ρ σ a\/a=D) H11 v t:=q11.mono (fun _ _ _ z=>.inl z) fun _ _ _ z=>z
        have all:=(r710 e711).append (Reps.cons q11' .nil);exact all.mono (fun _ _ _ z=>z) fun a o no ha=>by rw[Je (show a≠D from fun z=>no (.inr z))];exact ha
       ·exact fun a o ha nh=>by
         rw[Je (JX ha hD1)];exact(e7.trans e711) a o ha nh
       ·exact fun a ha=>by
         obtain⟨d,m,t,q,rest⟩:=hn11 a ha;exact⟨d,m,t,by rw[Je (show a≠D from fun z=>nhd (by rw[<- z];exact ha))];exact q,rest⟩
       ·exact fun a o ha no=>by
         rw[Je (show a≠D from fun z=>no (.inr z))]
         exact kk e711 a o ha no
    ·rintro zs H7 hz ⟨acc',n7,c7,r7,e7,hn7,k7⟩;rw[List.drop_length]at c7;have S7:Stt X.K ⟨C.hd,fun a=>Own C ρ σ a\/a=D⟩ ρ4 σ4 H7 n7:=S6.onX k7 (fun a z=>z.elim (fun z=>(St1.on e7 hn7).lst z) fun z=>by subst z;exact .inl ⟨_,hz⟩) (fun a ks ha z nh=>z.elim (fun z=>by
      have e16:ExtE C.hd H1 H6:=e3.trans (e5.trans e6);rcases St1.lst z with⟨xs,q⟩|⟨xs,q⟩|⟨b,xs,ep,q⟩
      ·rw[e16 a _ q nh]at ha;cases ha
      ·rw[e16 a _ q nh]at ha;cases ha;exact e7 a _ q nh
      ·rw[e16 a _ q nh]at ha;cases ha) (fun z=>by subst z;rw[hy6]at ha;cases ha)) hn7
     have itq2:=it6 (Own ⟨C.hd,fun a=>Own C ρ σ a\/a=D⟩ ρ4 σ4) H7 (fun a o ha no=>k7 a o ha fun z=>no (.inl z)) (fun a o ha no=>no) (fun a z=>S7.dom z)
     exact⟨itq2.2,zs,hz,acc',n7,c7,r7,e7,hn7⟩
 ·rintro ys H2 hy ⟨acc,n2,c2,r2,e2,hn2⟩;rw[List.drop_length]at c2;have itq:=it (fun a=>Own C ρ σ a\/a=D) H2 (fun a o ha nh=>e2 a o ha nh) (fun a o ha no z=>z.elim no fun z=>by subst z;rw[hD1]at ha;cases ha) (fun a z=>z.elim (fun z=>(St1.on e2 hn2).dom z) fun z=>by subst z;rw[hy];exact fun z=>by cases z)
  exact⟨itq.2,hq acc n2 D ys H2 c2 (e1.trans e2) hn2 hD hy r2⟩
end
section
variable{ρ ρ0:En}{n m:Nat}{di di2:DTA}{g g2:DTG}{tt tt2:DTT}{te:DTE}{capt:List Nat}{Rl:List PyData->Nat->Prop}
instance zmC [h:CompN m capt ρ ρ0]:Stp (zgX m capt di g tt di2 g2 tt2 te ρ n Rl) (di ρ n fun ts n1=>Qo g tt di2 g2 tt2 te ρ0 ts [] n1 Rl):=⟨fun k=>by unfold zgX;rw[h.e];exact k⟩
end
abbrev Run:=Int×Int
def NR(rs:List Run):Prop:=(∀r∈rs,r.1<r.2)/\rs.Pairwise fun a b=>a.2<b.1
def mR(x:Int)(rs:List Run):Prop:=∃r∈rs,r.1<=x/\x<r.2
def mB(x:Int)(bs:qB):Prop:=∃b∈bs,b.1<=x/\x<eB b
theorem UO{x:Int}{r:Run}{rs:List Run}:mR x (r::rs)↔(r.1<=x/\x<r.2)\/mR x rs:=by
 unfold mR;constructor
 ·rintro⟨s,hs,h⟩;rcases List.mem_cons.mp hs with rfl|hs
  ·exact .inl h
  ·exact .inr ⟨s,hs,h⟩
 ·rintro(h|⟨s,hs,h⟩)
  ·exact⟨r,by simp,h⟩
  ·exact⟨s,by simp[hs],h⟩
theorem UJ{x:Int}:¬mR x []:=fun⟨_,h,_⟩=>nomatch h
theorem zgd{x:Int}{rs ss:List Run}:mR x (rs++ss)↔mR x rs\/mR x ss:=by
 unfold mR;constructor
 ·rintro⟨s,hs,h⟩;rcases List.mem_append.mp hs with hs|hs
  ·exact .inl ⟨s,hs,h⟩
  ·exact .inr ⟨s,hs,h⟩
 ·rintro(⟨s,hs,h⟩|⟨s,hs,h⟩)
  ·exact⟨s,by simp[hs],h⟩
  ·exact⟨s,by simp[hs],h⟩
theorem zge{x:Int}{b:Int×Int}{bs:qB}:mB x (b::bs)↔(b.1<=x/\x<eB b)\/mB x bs:=by
 unfold mB;constructor
 ·rintro⟨s,hs,h⟩;rcases List.mem_cons.mp hs with rfl|hs
  ·exact .inl h
  ·exact .inr ⟨s,hs,h⟩
 ·rintro(h|⟨s,hs,h⟩)
  ·exact⟨b,by simp,h⟩
  ·exact⟨s,by simp[hs],h⟩
theorem UI{x:Int}:¬mB x []:=fun⟨_,h,_⟩=>nomatch h
theorem zie{x:Int}{bs cs:qB}:mB x (bs++cs)↔mB x bs\/mB x cs:=by
 unfold mB;constructor
 ·rintro⟨s,hs,h⟩;rcases List.mem_append.mp hs with hs|hs
  ·exact .inl ⟨s,hs,h⟩
  ·exact .inr ⟨s,hs,h⟩
 ·rintro(⟨s,hs,h⟩|⟨s,hs,h⟩)
  ·exact⟨s,by simp[hs],h⟩
  ·exact⟨s,by simp[hs],h⟩
theorem zi3{x:Int}{bs cs:qB}(h:bs.Perm cs):mB x bs↔mB x cs:=by
 unfold mB;constructor
 ·rintro⟨s,hs,q⟩;exact⟨s,h.mem_iff.mp hs,q⟩
 ·rintro⟨s,hs,q⟩;exact⟨s,h.mem_iff.mpr hs,q⟩
theorem NR.tail{r:Run}{rs:List Run}(h:NR (r::rs)):NR rs:=⟨fun s hs=>h.1 s (by simp[hs]),(List.pairwise_cons.mp h.2).2⟩
def JU(lo hi:Int)(h:Nat):Prop:=lo % 2 ^ h=0/\(2:Int) ^ h<=hi - lo/\¬(lo % 2 ^ (h+1)=0/\(2:Int) ^ (h+1)<=hi - lo)
theorem zbT{a b:Nat}(h:a<=b):((2:Int) ^ a)∣2 ^ b:=⟨2 ^ (b - a),by rw[<- Int.pow_add];congr 1;lia⟩
theorem Qb{a b:Nat}(h:a<=b):(2:Int) ^ a<=2 ^ b:=by
 obtain⟨c,e⟩:=zbT h;have pa:=Bd.zaf a;have pb:=Bd.zaf b;have pc:0<c:=by
  rcases Int.lt_trichotomy c 0 with z|z|z
  ·have:=Int.mul_neg_of_pos_of_neg pa z;lia
  ·subst z;lia
  ·exact z
 rw[e];have:=Int.mul_le_mul_of_nonneg_left (show(1:Int)<=c by lia) (show(0:Int)<=2 ^ a by lia)
 lia
theorem QL{lo:Int}{a b:Nat}(h:a<=b)(e:lo % 2 ^ b=0):lo % 2 ^ a=0:=by
 have d:((2:Int) ^ b)∣lo:=Int.dvd_of_emod_eq_zero e;exact Int.emod_eq_zero_of_dvd (Int.dvd_trans (zbT h) d)
theorem JU.uniq{lo hi:Int}{h g:Nat}(a:JU lo hi h)(b:JU lo hi g):h=g:=by
 rcases Nat.lt_trichotomy h g with z|z|z
 ·exfalso;exact a.2.2 ⟨QL (show h+1<=g by lia) b.1,Int.le_trans (Qb (show h+1<=g by lia)) b.2.1⟩
 ·exact z
 ·exfalso;exact b.2.2 ⟨QL (show g+1<=h by lia) a.1,Int.le_trans (Qb (show g+1<=h by lia)) a.2.1⟩
def Jd:Int->Int->List (Int×Int)->Prop
 | lo,hi,[]=>lo=hi
 | lo,hi,b::r=>lo<hi/\b.1=lo/\0<=b.2/\JU lo hi b.2.toNat/\Jd (lo+2 ^ b.2.toNat) hi r
theorem Jd.le:∀{bs:qB}{lo hi:Int},Jd lo hi bs->lo<=hi
 | [],_,_,h=>by have:_=_:=h;lia
 | b::r,lo,hi,h=>by have:=h.1;lia
theorem Jd.uniq:∀{bs cs:qB}{lo hi:Int},Jd lo hi bs->Jd lo hi cs->bs=cs
 | [],[],_,_,_,_=>rfl
 | [],c::cs,lo,hi,h,k=>by have:lo=hi:=h;have:=k.1;lia
 | b::bs,[],lo,hi,h,k=>by have:lo=hi:=k;have:=h.1;lia
 | b::bs,c::cs,lo,hi,h,k=>by
  obtain⟨h1,h2,h3,h4,h5⟩:=h;obtain⟨k1,k2,k3,k4,k5⟩:=k;have e:=h4.uniq k4;have e2:b.2=c.2:=by lia
  have eb:b=c:=Prod.ext (by lia) e2
  subst eb;rw[Jd.uniq h5 k5]
theorem Jd.mem:∀{bs:qB}{lo hi:Int},Jd lo hi bs->∀x,mB x bs↔lo<=x/\x<hi
 | [],lo,hi,h,x=>by
  have:lo=hi:=h;exact⟨fun z=>absurd z UI,fun z=>by lia⟩
 | b::r,lo,hi,h,x=>by
  obtain⟨h1,h2,h3,h4,h5⟩:=h;have:=Jd.mem h5 x;have l:=Jd.le h5;have p:=Bd.zaf b.2.toNat;rw[zge,this];unfold eB;rw[h2];lia
theorem Jd.blk{bits:Int}(b0:0<=bits):∀{bs:qB}{lo hi:Int},Jd lo hi bs->0<=lo->hi<=2 ^ bits.toNat->Bks bits bs
 | [],_,_,_,_,_=>fun b hb=>nomatch hb
 | b::r,lo,hi,h,l0,l1=>by
  obtain⟨h1,h2,h3,h4,h5⟩:=h;have p:=Bd.zaf b.2.toNat;have l:=Jd.le h5;have ih:=Jd.blk b0 h5 (by lia) l1
  intro c hc;rcases List.mem_cons.mp hc with rfl|hc
  ·have hb:c.2.toNat<=bits.toNat:=by
    rcases Nat.lt_or_ge bits.toNat c.2.toNat with z|z
    ·exfalso;have:=Qb (show bits.toNat+1<=c.2.toNat by lia)
     have p2:=Bd.zaf bits.toNat;rw[Int.pow_succ]at this;have:=h4.2.1;lia
    ·exact z
   obtain⟨k,ek⟩:=Int.dvd_of_emod_eq_zero h4.1;have k0:0<=k:=by
    rcases Int.lt_or_le k 0 with z|z
    ·have:=Int.mul_neg_of_pos_of_neg p z;lia
    ·exact z
   refine⟨h3,by lia,k,k0,by rw[h2,ek,Int.mul_comm],?_⟩
   have e:(2:Int) ^ bits.toNat=2 ^ (bits - c.2).toNat*2 ^ c.2.toNat:=by rw[<- Int.pow_add];congr 1;lia
   have up:k*2 ^ c.2.toNat<2 ^ (bits - c.2).toNat*2 ^ c.2.toNat:=by
    rw[<- e,Int.mul_comm,<- ek];lia
   exact Int.lt_of_mul_lt_mul_right up (by lia)
  ·exact ih c hc
theorem Jd.in:∀{bs:qB}{lo hi:Int},Jd lo hi bs->∀b∈bs,lo<=b.1/\eB b<=hi
 | [],_,_,_=>fun b hb=>nomatch hb
 | b::r,lo,hi,h=>by
  obtain⟨h1,h2,h3,h4,h5⟩:=h;have p:=Bd.zaf b.2.toNat;have ih:=Jd.in h5;have l:=Jd.le h5;intro c hc;rcases List.mem_cons.mp hc with rfl|hc
  ·unfold eB;rw[h2];lia
  ·have:=ih c hc;lia
theorem Jd.pw:∀{bs:qB}{lo hi:Int},Jd lo hi bs->bs.Pairwise fun a b=>eB a<=b.1
 | [],_,_,_=>.nil
 | b::r,lo,hi,h=>by
  obtain⟨h1,h2,h3,h4,h5⟩:=h;refine .cons (fun c hc=>?_) (Jd.pw h5)
  have:=Jd.in h5 c hc;unfold eB;rw[h2];lia
theorem zdl:∀{bs:qB}{lo hi:Int}{k:Nat},Jd lo hi bs->lo % 2 ^ k=0->hi - lo<2 ^ k->bs.length<=k
 | [],_,_,_,_,_,_=>Nat.zero_le _
 | b::r,lo,hi,k,h,d,l=>by
  obtain⟨h1,h2,h3,h4,h5⟩:=h;have hk:b.2.toNat<k:=by
   rcases Nat.lt_or_ge b.2.toNat k with z|z
   ·exact z
   ·have:=Qb z;have:=h4.2.1;lia
  have up:¬(2:Int) ^ (b.2.toNat+1)<=hi - lo:=fun z=>h4.2.2 ⟨QL (show b.2.toNat+1<=k by lia) d,z⟩
  rw[Int.pow_succ]at up;have:=zdl (k:=b.2.toNat) h5 (by rw[Int.add_emod,h4.1];simp) (by lia)
  rw[List.length_cons];lia
theorem zdk{K:Nat}:∀{bs:qB}{lo hi:Int}{k:Nat},Jd lo hi bs->lo % 2 ^ k=0->hi - lo<2 ^ K->k<=K->bs.length<=(K - k)+K
 | [],_,_,_,_,_,_,_=>Nat.zero_le _
 | b::r,lo,hi,k,h,d,l,hkK=>by
  obtain⟨h1,h2,h3,h4,h5⟩:=h;have p:=Bd.zaf b.2.toNat;have hK:b.2.toNat<K:=by
   rcases Nat.lt_or_ge b.2.toNat K with z|z
   ·exact z
   ·have:=Qb z;have:=h4.2.1;lia
  rw[List.length_cons]
  by_cases up:(2:Int) ^ (b.2.toNat+1)<=hi - lo
  ·have nd:¬lo % 2 ^ (b.2.toNat+1)=0:=fun z=>h4.2.2 ⟨z,up⟩
   have hk:k<=b.2.toNat:=by
    rcases Nat.lt_or_ge b.2.toNat k with z|z
    ·exact absurd (QL (show b.2.toNat+1<=k by lia) d) nd
    ·exact z
   have d':(lo+2 ^ b.2.toNat) % 2 ^ (b.2.toNat+1)=0:=by
    obtain⟨q,eq⟩:=Int.dvd_of_emod_eq_zero h4.1;have e2:(2:Int) ^ (b.2.toNat+1)=2 ^ b.2.toNat*2:=Int.pow_succ _ _;rw[e2]at nd ⊢;have odd:q % 2=1:=by
     rcases Int.emod_two_eq q with z|z
     ·exfalso;obtain⟨t,et⟩:=Int.dvd_of_emod_eq_zero z;apply nd;apply Int.emod_eq_zero_of_dvd;exact⟨t,by rw[eq,et,Int.mul_assoc]⟩
     ·exact z
    apply Int.emod_eq_zero_of_dvd;refine⟨(q+1) / 2,?_⟩;have:q+1=2*((q+1) / 2):=by lia
    rw[eq,Int.mul_assoc,<- this,Int.mul_add,Int.mul_one]
   have:=zdk (K:=K) (k:=b.2.toNat+1) h5 d' (by lia) (by lia)
   lia
  ·rw[Int.pow_succ]at up;have:=zdl (k:=b.2.toNat) h5 (by rw[Int.add_emod,h4.1];simp) (by lia)
   lia
theorem Jd.len{bs:qB}{lo hi:Int}(h:Jd lo hi bs)(l0:0<=lo)(l1:hi<=2 ^ 64):bs.length<=130:=by
 have:=zdk (K:=65) (k:=0) h (by simp) (by have e:(2:Int) ^ 65=2*2 ^ 64:=by decide
                                          lia) (by decide)
 lia
theorem zeQ{lo hi:Int}(h:lo<hi):∃g,JU lo hi g:=by
 have key:∀(d k:Nat),lo % 2 ^ k=0->(2:Int) ^ k<=hi - lo->(hi - lo).toNat<2 ^ (k+d)->∃g,JU lo hi g:=by
  intro d;induction d with
  | zero =>
   intro k _ b c;exfalso;have:((2 ^ k:Nat):Int)=(2:Int) ^ k:=by rw[Int.natCast_pow];rfl
   rw[Nat.add_zero]at c;lia
  | succ d ih =>
   intro k a b c
   by_cases z:lo % 2 ^ (k+1)=0/\(2:Int) ^ (k+1)<=hi - lo
   ·exact ih (k+1) z.1 z.2 (by rw[show k+1+d=k+(d+1) by lia];exact c)
   ·exact⟨k,a,b,z⟩
 refine key (hi - lo).toNat 0 (by simp) (by simp;lia) ?_
 rw[Nat.zero_add];exact Nat.lt_two_pow_self
theorem zfI:∀(n:Nat) (lo hi:Int),(hi - lo).toNat<=n->lo<=hi->∃bs,Jd lo hi bs:=by
 intro n;induction n with
 | zero =>
  intro lo hi h l;exact⟨[],by show lo=hi;lia⟩
 | succ n ih =>
  intro lo hi h l
  by_cases z:lo<hi
  ·obtain⟨g,G⟩:=zeQ z;have p:=Bd.zaf g;have:=G.2.1;obtain⟨bs,B⟩:=ih (lo+2 ^ g) hi (by lia) (by lia)
   exact⟨(lo,(g:Int))::bs,z,rfl,by show(0:Int)<=(g:Int);lia,by simpa using G,by simpa using B⟩
  ·exact⟨[],by show lo=hi;lia⟩
def PatS:List Run->List (Int×Int)->Prop
 | [],ps=>ps=[]
 | r::rs,ps=>∃a b,ps=a++b/\Jd r.1 r.2 a/\PatS rs b
theorem PatS.mem:∀{rs:List Run}{ps:qB},PatS rs ps->∀x,mB x ps↔mR x rs
 | [],_,h,x=>by
  cases(show _=[] from h)
  exact⟨fun z=>absurd z UI,fun z=>absurd z UJ⟩
 | r::rs,_,h,x=>by
  obtain⟨a,b,rfl,h1,h2⟩:=h;rw[zie,UO,h1.mem x,PatS.mem h2 x]
theorem PatS.blk{bits:Int}(b0:0<=bits):∀{rs:List Run}{ps:qB},PatS rs ps->(∀r∈rs,0<=r.1/\r.2<=2 ^ bits.toNat)->Bks bits ps
 | [],_,h,_=>by cases(show _=[] from h);exact fun b hb=>nomatch hb
 | r::rs,_,h,w=>by
  obtain⟨a,b,rfl,h1,h2⟩:=h;have wr:=w r (by simp)
  intro c hc;rcases List.mem_append.mp hc with hc|hc
  ·exact h1.blk b0 wr.1 wr.2 c hc
  ·exact PatS.blk b0 h2 (fun s hs=>w s (by simp[hs])) c hc
theorem PatS.in:∀{rs:List Run}{ps:qB},PatS rs ps->∀b∈ps,∃r∈rs,r.1<=b.1/\eB b<=r.2
 | [],_,h=>by cases(show _=[] from h);exact fun b hb=>nomatch hb
 | r::rs,_,h=>by
  obtain⟨a,b,rfl,h1,h2⟩:=h;intro c hc;rcases List.mem_append.mp hc with hc|hc
  ·exact⟨r,by simp,h1.in c hc⟩
  ·obtain⟨s,hs,q⟩:=PatS.in h2 c hc;exact⟨s,by simp[hs],q⟩
theorem PatS.pw:∀{rs:List Run}{ps:qB},PatS rs ps->NR rs->ps.Pairwise fun a b=>eB a<=b.1
 | [],_,h,_=>by cases(show _=[] from h);exact .nil
 | r::rs,_,h,nr=>by
  obtain⟨a,b,rfl,h1,h2⟩:=h;rw[List.pairwise_append];refine⟨h1.pw,PatS.pw h2 nr.tail,fun x hx y hy=>?_⟩
  have:=h1.in x hx;obtain⟨s,hs,q⟩:=PatS.in h2 y hy;have:=(List.pairwise_cons.mp nr.2).1 s hs;lia
def CanP(S:Int->Prop)(ps:qB):Prop:=∃rs,NR rs/\(∀x,mR x rs↔S x)/\PatS rs ps
theorem CanP.mem{S:Int->Prop}{ps:qB}(h:CanP S ps)(x:Int):mB x ps↔S x:=by
 obtain⟨rs,h1,h2,h3⟩:=h;rw[h3.mem,h2]
theorem CanP.ptc{S:Int->Prop}{ps:qB}{bits:Int}(b0:0<=bits)(h:CanP S ps)(w:∀x,S x->0<=x/\x<2 ^ bits.toNat):Ptc bits ps:=by
 obtain⟨rs,h1,h2,h3⟩:=h;refine⟨h3.blk b0 fun r hr=>?_,h3.pw h1⟩
 have lt:=h1.1 r hr;have a:=w r.1 ((h2 _).mp ⟨r,hr,Int.le_refl _,lt⟩);have b:=w (r.2 - 1) ((h2 _).mp ⟨r,hr,by lia,by lia⟩)
 lia
section
variable{X:Cx}{a:Expr}{da:DTE}{ρ:En}{n:Nat}{R:qN}
theorem zf_:MtR X "int.bit_length" (fun x xs H Q=>∃i,x=.int i/\xs=[]/\Q (.int (Builtin.Int.intBits i)) H):=by
 intro pins s σ H x xs v us Q I rx rs h;obtain⟨i,rfl,rfl,q⟩:=h;obtain⟨t,rfl⟩:=rx;cases rs;exact call_int_bit_length ⟨.int _,H,I.tok _,⟨_,rfl⟩,q⟩
def zgY(d:DTE):DTE:=fun ρ n R=>d ρ n fun t n1=>lInt t fun i=>R (.int (Builtin.Int.intBits i)) n1
theorem zdJ{p2 p3:Pos}(h:DL X a da)(hbase:attributeBase a "bit_length" X.env (eval a X.env)=eval a X.env:=by rfl) (hline:(p2.endLine == p3.line)=true:=by rfl):DE X (.Call (.Attribute a "bit_length" p2) [] [] p3) (zgY da):=by
 obtain⟨ta,pa,h⟩:=h;refine⟨_,zkh PySem.F.plainAttrs_int slot_int_bit_length type_int_bit_length zf_ pa hbase hline,fun C ρ σ H n Q R S hd hq=>?_⟩
 refine h C ρ σ H n _ _ S hd fun t n1 v H1 r e1 h1 q1=>?_
 cases t with
 | int i =>
  rw[q1.intI];exact⟨rfl,i,rfl,rfl,hq _ n1 _ H1 r e1 h1 (.int _)⟩
 | _=>exact r.elim
instance zme:Stp (zgY da ρ n R) (da ρ n fun t n1=>lInt t fun i=>R (.int (Builtin.Int.intBits i)) n1):=⟨fun h=>h⟩
end
theorem zcp{i:Int}(h:0<i):(Builtin.Int.intBits i:Int) - 1=(i.toNat.log2:Int):=by
 unfold Builtin.Int.intBits;have:(i == 0)=false:=by simp;lia
 rw[this];have e:i.natAbs=i.toNat:=by lia
 rw[e];simp
theorem zgj{i:Int}(h:0<i):(2:Int) ^ i.toNat.log2<=i:=by
 have:=Nat.log2_self_le (n:=i.toNat) (by lia)
 have e:((2 ^ i.toNat.log2:Nat):Int)=(2:Int) ^ i.toNat.log2:=by rw[Int.natCast_pow];rfl
 lia
theorem zgg{i:Int}(h:0<i):i<(2:Int) ^ (i.toNat.log2+1):=by
 have:=Nat.lt_log2_self (n:=i.toNat);have e:((2 ^ (i.toNat.log2+1):Nat):Int)=(2:Int) ^ (i.toNat.log2+1):=by rw[Int.natCast_pow];rfl
 lia
theorem zgk(t:Nat):∀x:Nat,x % 2 ^ t=0->¬x % 2 ^ (t+1)=0->x - (x &&& (x - 1))=2 ^ t:=by
 induction t with
 | zero =>
  intro x _ h;have od:x % 2=1:=by
   have:¬x % 2=0:=by simpa using h
   lia
  have e:x &&& (x - 1)=x - 1:=by
   apply Nat.eq_of_testBit_eq;intro i;rw[Nat.testBit_and];cases i with
   | zero =>
    have:(x - 1).testBit 0=false:=by rw[Nat.testBit_zero];simp;lia
    rw[this,Bool.and_false]
   | succ i =>
    have:x / 2=(x - 1) / 2:=by lia
    rw[Nat.testBit_succ,Nat.testBit_succ,this,Bool.and_self]
  rw[e];simp;lia
 | succ t ih =>
  intro x h1 h2;have ev:x % 2=0:=by
   have:2∣2 ^ (t+1):=⟨2 ^ t,by rw[Nat.pow_succ,Nat.mul_comm]⟩
   exact Nat.mod_eq_zero_of_dvd (Nat.dvd_trans this (Nat.dvd_of_mod_eq_zero h1))
  have hx:x=2*(x / 2):=by lia
  have p1:(x / 2) % 2 ^ t=0:=by
   obtain⟨q,e⟩:=Nat.dvd_of_mod_eq_zero h1;apply Nat.mod_eq_zero_of_dvd;refine⟨q,?_⟩;rw[Nat.pow_succ]at e;have:x=2*(2 ^ t*q):=by rw[e];rw[Nat.mul_comm (2 ^ t) 2,Nat.mul_assoc]
   lia
  have p2:¬(x / 2) % 2 ^ (t+1)=0:=fun z=>by
   obtain⟨q,e⟩:=Nat.dvd_of_mod_eq_zero z;apply h2;apply Nat.mod_eq_zero_of_dvd;refine⟨q,?_⟩;rw[Nat.pow_succ,Nat.mul_comm (2 ^ (t+1)) 2,Nat.mul_assoc,<- e];exact hx
  have:=ih (x / 2) p1 p2;have e:x &&& (x - 1)=2*(x / 2 &&& (x / 2 - 1)):=by
   apply Nat.eq_of_testBit_eq;intro i;rw[Nat.testBit_and];cases i with
   | zero =>
    have a:x.testBit 0=false:=by rw[Nat.testBit_zero];simp;lia
    rw[a,Bool.false_and,Nat.testBit_zero];simp
   | succ i =>
    have nz:0<x / 2:=by
     rcases Nat.eq_zero_or_pos (x / 2) with z|z
     ·rw[z]at p2;simp at p2
     ·exact z
    have b:(x - 1) / 2=x / 2 - 1:=by lia
    rw[Nat.testBit_succ,Nat.testBit_succ,Nat.testBit_succ,b,Nat.mul_div_cancel_left _ (by decide:0<2),Nat.testBit_and]
  rw[e,Nat.pow_succ];have le:(x / 2 &&& (x / 2 - 1))<=x / 2:=Nat.and_le_left;lia
theorem zjz{b:Int}(h:0<b){t:Nat}(h1:b % 2 ^ t=0)(h2:¬b % 2 ^ (t+1)=0):Builtin.bitAnd b (-b)=2 ^ t:=by
 have e:Builtin.bitAnd b (-b)=b - ((b.toNat &&& (b.toNat - 1):Nat):Int):=by
  have h0:decide (0<=b)=true:=decide_eq_true (by lia)
  have h3:decide (0<=-b)=false:=decide_eq_false (by lia)
  show(match decide (0<=b),decide (0<=-b) with
   | true,true=>((b.toNat &&& (-b).toNat:Nat):Int)
   | true,false=>b - ((b.toNat &&& (Builtin.bitNot (-b)).toNat:Nat):Int)
   | false,true=>(-b) - (((-b).toNat &&& (Builtin.bitNot b).toNat:Nat):Int)
   | false,false=>Builtin.bitNot (((Builtin.bitNot b).toNat|||(Builtin.bitNot (-b)).toNat:Nat):Int))=_
  rw[h0,h3];have:(Builtin.bitNot (-b)).toNat=b.toNat - 1:=by
   have:Builtin.bitNot (-b)=b - 1:=by show -(-b) - 1=b - 1;lia
   rw[this];lia
  rw[this]
 have cast:∀k:Nat,b % (2:Int) ^ k=((b.toNat % 2 ^ k:Nat):Int):=fun k=>by
  rw[Int.natCast_emod,Int.natCast_pow,Int.toNat_of_nonneg (by lia)];rfl
 rw[cast]at h1 h2;have:=zgk t b.toNat (by lia) (by lia)
 have le:(b.toNat &&& (b.toNat - 1))<=b.toNat:=Nat.and_le_left;rw[e];have e3:((2 ^ t:Nat):Int)=(2:Int) ^ t:=by rw[Int.natCast_pow];rfl
 lia
theorem zmi{b:Int}(h:0<b):∃t:Nat,b % 2 ^ t=0/\¬b % 2 ^ (t+1)=0:=by
 obtain⟨g,G⟩:=zeQ (lo:=b) (hi:=b+b+1) (by lia)
 refine⟨g,G.1,fun z=>?_⟩
 have d:=Int.dvd_of_emod_eq_zero z;have:=Int.le_of_dvd h d;exact G.2.2 ⟨z,by lia⟩
theorem zeL{xs:qD}{x:PyData}:ixN (xs++[x]).length (-1)=some xs.length:=by
 unfold ixN;simp;lia
theorem zhH{xs:qD}{x:PyData}{Q:PyData->Prop}(h:Q x):oIx (.list (xs++[x])) (.int (-1)) Q:=by
 have e:atI (xs++[x]) (-1)=some x:=by
  unfold atI;rw[zeL];simp
 rw[zkG e];exact h
section
variable{X:Cx}{tg iter:Expr}{d:DTE}
def iSeq(K:qF)(tl:TE):TI:=fun σ H R=>tl σ H fun x H1=>∃a,x=.ref a/\(((∃xs,SqL K H1 a xs)/\R (Itl K a) H1)\/((∃xs,SqT K H1 a xs)/\R (Itt K a) H1))
theorem zka{l:Expr}{tl:TE}(hl:PE X l tl):PI X tg l (iSeq X.K tl):=by
 intro pins s σ H R I h;refine thn (hl pins s σ H _ I h) fun v s1 ⟨x,H1,I1,r1,q1⟩=>?_
 obtain⟨a,e,q1⟩:=q1;subst e;cases r1;rcases q1 with⟨⟨xs,hq⟩,q⟩|⟨⟨xs,hq⟩,q⟩
 ·obtain⟨its,rv,p,hz⟩:=I1.list hq;refine wpAny_pyIter_list p.isList ?_;refine⟨s1.heap.objs.size,[s1.heap.objs.size],_,_,H1,rfl,I1.kept (t':=s1.toks) fun b o e=>Heap.get?_push_of_some _ e,zdj a _,⟨_,Heap.get?_push_size _ rfl,rfl,rfl⟩,fun b hb=>?_,q⟩
  have e:b=s1.heap.objs.size:=by simpa using hb
  subst e;exact I1.fpOk (Nat.le_refl _) (I1.hok.fresh (Nat.le_refl _))
 ·obtain⟨its,rv,p,hz⟩:=I1.tuple hq;refine wpAny_pyIter_tuple (show s1.heap.IsTuple a its.toArray from p) ?_
  refine⟨s1.heap.objs.size,[s1.heap.objs.size],_,_,H1,rfl,I1.kept (t':=s1.toks) fun b o e=>Heap.get?_push_of_some _ e,zcI a _,⟨_,Heap.get?_push_size _ rfl,rfl,rfl⟩,fun b hb=>?_,q⟩
  have e:b=s1.heap.objs.size:=by simpa using hb
  subst e;exact I1.fpOk (Nat.le_refl _) (I1.hok.fresh (Nat.le_refl _))
def dItA(d:DTE):DTA:=fun ρ n R=>d ρ n fun t n'=>QS t fun ts=>R ts n'
theorem zlD(h:DE X iter d):DI X tg iter (dItA d):=by
 obtain⟨ta,pa,h⟩:=h;refine⟨_,zka pa,fun C ρ σ H n Q R S hd hq=>?_⟩
 refine h C ρ σ H n _ _ S hd fun t n' v H' r e1 hn q=>?_
 cases t with
 | tuple ts =>
  obtain⟨p,vs,rfl,h1,it⟩:=zig (P:=fun a=>¬Own C ρ σ a) (fun _ z=>z) q
  exact⟨p,rfl,.inr ⟨⟨vs,h1⟩,hq ts n' _ H' r e1 hn it⟩⟩
 | list ts =>
  obtain⟨p,vs,rfl,h1,no,r2⟩:=q.lstI;exact⟨p,rfl,.inl ⟨⟨vs,SqL.of h1⟩,hq ts n' _ H' r e1 hn (zgw h1 no (fun _ z=>z) r2)⟩⟩
 | _=>exact r.elim
end
section
variable{ρ:En}{n:Nat}{d:DTE}{Rl:List PyData->Nat->Prop}
instance znI:Stp (dItA d ρ n Rl) (d ρ n fun t n'=>QS t fun ts=>Rl ts n'):=⟨fun h=>h⟩
end
theorem UV{bits:Int}{p q:Int×Int}(P:IsBk bits p.1 p.2)(Q:IsBk bits q.1 q.2){x:Int}(hp:p.1<=x/\x<eB p)(hq:q.1<=x/\x<eB q):(p.1<=q.1/\eB q<=eB p/\q.2<=p.2)\/(q.1<=p.1/\eB p<=eB q/\p.2<=q.2):=by
 unfold eB at *;rcases Nat.le_total q.2.toNat p.2.toNat with l|l
 ·rcases zdX P.n Q.n l with z|z|z
  ·left
   have:=(zgA P.n Q.n).mp z;have:=P.1;have:=Q.1;lia
  ·lia
  ·lia
 ·rcases zdX Q.n P.n l with z|z|z
  ·right
   have:=(zgA Q.n P.n).mp z;have:=P.1;have:=Q.1;lia
  ·lia
  ·lia
theorem zg9{bits i h:Int}(B:IsBk bits i h):i % 2 ^ h.toNat=0:=by
 obtain⟨_,_,k,_,rfl,_⟩:=B;exact Int.mul_emod_left _ _
theorem Jd.great:∀{bs:qB}{lo hi:Int},Jd lo hi bs->∀b∈bs,JU b.1 hi b.2.toNat/\lo<=b.1
 | [],_,_,_=>fun b hb=>nomatch hb
 | b::r,lo,hi,h=>by
  obtain⟨h1,h2,h3,h4,h5⟩:=h;have p:=Bd.zaf b.2.toNat;intro c hc;rcases List.mem_cons.mp hc with rfl|hc
  ·rw[h2];exact⟨h4,Int.le_refl _⟩
  ·have:=Jd.great h5 c hc;exact⟨this.1,by lia⟩
theorem Jd.max{bits:Int}(b0:0<=bits){bs:qB}{lo hi:Int}(S:Jd lo hi bs)(l0:0<=lo)(l1:hi<=2 ^ bits.toNat){p q:Int×Int}(hp:p∈bs)(Q:IsBk bits q.1 q.2)(w:lo<=q.1/\eB q<=hi)(i:q.1<=p.1/\eB p<=eB q):q=p:=by
 have B:=S.blk b0 l0 l1;have P:=B p hp;have pp:=Bd.zaf p.2.toNat;have pq:=Bd.zaf q.2.toNat;have nest:=UV P Q (x:=p.1) ⟨Int.le_refl _,by unfold eB;lia⟩ ⟨i.1,by unfold eB at *;lia⟩
 have hle:p.2<=q.2:=by
  rcases nest with⟨a,b,c⟩|⟨a,b,c⟩
  ·have e1:p.1=q.1:=by lia
   have e2:eB p=eB q:=by lia
   unfold eB at e2;rcases Int.lt_or_le q.2 p.2 with z|z
   ·have p0:=P.1;have q0:=Q.1;have:=Qb (show q.2.toNat+1<=p.2.toNat by lia)
    rw[Int.pow_succ]at this;lia
   ·exact z
  ·exact c
 have p0:=P.1;have q0:=Q.1
 by_cases e:p.2=q.2
 ·have e1:(2:Int) ^ p.2.toNat=2 ^ q.2.toNat:=by rw[e]
  have:q.1=p.1:=by unfold eB at *;lia
  exact Prod.ext this e.symm
 ·exfalso;have hlt:p.2.toNat+1<=q.2.toNat:=by lia
  have dq:=zg9 Q;have dq1:=QL hlt dq;have G:=(S.great p hp).1
  by_cases ev:p.1 % 2 ^ (p.2.toNat+1)=0
  ·
   apply G.2.2;refine⟨ev,?_⟩;obtain⟨a,ea⟩:=Int.dvd_of_emod_eq_zero ev;have de:eB q % 2 ^ (p.2.toNat+1)=0:=by
    unfold eB;rw[Int.add_emod,dq1,Int.emod_eq_zero_of_dvd (zbT hlt)];simp
   obtain⟨c,ec⟩:=Int.dvd_of_emod_eq_zero de;have lt:p.1<eB q:=by have:=i.2;unfold eB at *;lia
   rw[ea,ec]at lt;have pos:=Bd.zaf (p.2.toNat+1);have ac:a<c:=Int.lt_of_mul_lt_mul_left lt (by lia)
   have:=Int.mul_le_mul_of_nonneg_left (show a+1<=c by lia) (show(0:Int)<=2 ^ (p.2.toNat+1) by lia)
   rw[Int.mul_add,Int.mul_one,<- ea,<- ec]at this;lia
  ·
   have lowmod:(p.1 - 2 ^ p.2.toNat) % 2 ^ (p.2.toNat+1)=0:=by
    obtain⟨k,ek⟩:=Int.dvd_of_emod_eq_zero (zg9 P);have e2:(2:Int) ^ (p.2.toNat+1)=2 ^ p.2.toNat*2:=Int.pow_succ _ _;rw[e2]at ev ⊢;have odd:k % 2=1:=by
     rcases Int.emod_two_eq k with z|z
     ·exfalso;obtain⟨t,et⟩:=Int.dvd_of_emod_eq_zero z;apply ev;apply Int.emod_eq_zero_of_dvd;exact⟨t,by rw[ek,et,Int.mul_assoc]⟩
     ·exact z
    apply Int.emod_eq_zero_of_dvd;refine⟨(k - 1) / 2,?_⟩;have:k - 1=2*((k - 1) / 2):=by lia
    rw[ek,Int.mul_assoc,<- this,Int.mul_sub,Int.mul_one]
   have lowq:q.1<=p.1 - 2 ^ p.2.toNat:=by
    obtain⟨a,ea⟩:=Int.dvd_of_emod_eq_zero lowmod;obtain⟨c,ec⟩:=Int.dvd_of_emod_eq_zero dq1;have pos:=Bd.zaf (p.2.toNat+1);have e2:(2:Int) ^ (p.2.toNat+1)=2 ^ p.2.toNat*2:=Int.pow_succ _ _;have lt:q.1<p.1 - 2 ^ p.2.toNat+2 ^ (p.2.toNat+1):=by lia
    rw[ea,ec]at lt;have:(2:Int) ^ (p.2.toNat+1)*c<2 ^ (p.2.toNat+1)*(a+1):=by rw[Int.mul_add,Int.mul_one];exact lt
    have ca:=Int.lt_of_mul_lt_mul_left this (by lia)
    have:=Int.mul_le_mul_of_nonneg_left (show c<=a by lia) (show(0:Int)<=2 ^ (p.2.toNat+1) by lia)
    rw[<- ea,<- ec]at this;exact this
   obtain⟨c,hc,c1,c2⟩:=(S.mem (p.1 - 2 ^ p.2.toNat)).mpr ⟨by lia,by have:=S.in p hp;unfold eB at this;lia⟩
   have C:=B c hc;have pc:=Bd.zaf c.2.toNat;have cp:eB c<=p.1:=by
    obtain⟨i1,h1,rfl⟩:=List.getElem_of_mem hc;obtain⟨i2,h2,rfl⟩:=List.getElem_of_mem hp;rcases Nat.lt_trichotomy i1 i2 with z|z|z
    ·exact List.pairwise_iff_getElem.mp S.pw i1 i2 h1 h2 z
    ·subst z;lia
    ·have:=List.pairwise_iff_getElem.mp S.pw i2 i1 h2 h1 z;unfold eB at this;lia
   have LB:IsBk bits (p.1 - 2 ^ p.2.toNat) (p.2+1):=by
    have hq1:=Q.2.1;obtain⟨a,ea⟩:=Int.dvd_of_emod_eq_zero lowmod;have e1:(p.2+1).toNat=p.2.toNat+1:=by lia
    have pos:=Bd.zaf (p.2.toNat+1);have a0:0<=a:=by
     rcases Int.lt_or_le a 0 with z|z
     ·have:=Int.mul_neg_of_pos_of_neg pos z;have:=(Q.bounds b0).1;lia
     ·exact z
    refine⟨by lia,by lia,a,a0,by rw[e1,ea,Int.mul_comm],?_⟩
    have e:(2:Int) ^ bits.toNat=2 ^ (bits - (p.2+1)).toNat*2 ^ (p.2.toNat+1):=by rw[<- Int.pow_add];congr 1;lia
    have up:a*2 ^ (p.2.toNat+1)<2 ^ (bits - (p.2+1)).toNat*2 ^ (p.2.toNat+1):=by
     rw[<- e,Int.mul_comm,<- ea];have:=(P.bounds b0).2;lia
    exact Int.lt_of_mul_lt_mul_right up (by lia)
   have e1:(p.2+1).toNat=p.2.toNat+1:=by lia
   have n3:=UV (p:=c) (q:=(p.1 - 2 ^ p.2.toNat,p.2+1)) C LB (x:=p.1 - 2 ^ p.2.toNat) ⟨c1,c2⟩ ⟨Int.le_refl _,by show _<_+2 ^ (p.2+1).toNat;have:=Bd.zaf (p.2+1).toNat;lia⟩
   have eL:eB (p.1 - 2 ^ p.2.toNat,p.2+1)=p.1+2 ^ p.2.toNat:=by
    show p.1 - 2 ^ p.2.toNat+2 ^ (p.2+1).toNat=_
    rw[e1,Int.pow_succ];lia
   rcases n3 with⟨z1,z2,z3⟩|⟨z1,z2,z3⟩
   ·lia
   ·have z1:p.1 - 2 ^ p.2.toNat<=c.1:=z1;have z3:c.2<=p.2+1:=z3;have cb:c.1=p.1 - 2 ^ p.2.toNat:=by lia
    have c0:=C.1;have ch:c.2<=p.2:=by
     rcases Int.lt_or_le p.2 c.2 with z|z
     ·have:c.2=p.2+1:=by lia
      unfold eB at cp;rw[this,e1,Int.pow_succ]at cp;lia
     ·exact z
    have Gc:=(S.great c hc).1;apply Gc.2.2;refine⟨?_,?_⟩
    ·rw[cb];exact QL (show c.2.toNat+1<=p.2.toNat+1 by lia) lowmod
    ·have:=Qb (show c.2.toNat+1<=p.2.toNat+1 by lia)
     have e2:(2:Int) ^ (p.2.toNat+1)=2 ^ p.2.toNat*2:=Int.pow_succ _ _;have:=S.in p hp;unfold eB at this;lia
theorem NR.one{rs:List Run}(nr:NR rs){a b:Int}(h:a<b)(w:∀x,a<=x->x<b->mR x rs):∃r∈rs,r.1<=a/\b<=r.2:=by
 obtain⟨r,hr,h1,h2⟩:=w a (Int.le_refl _) h;refine⟨r,hr,h1,?_⟩;rcases Int.lt_or_le r.2 b with z|z
 ·exfalso;obtain⟨s,hs,k1,k2⟩:=w r.2 (by lia) z
  obtain⟨i,hi,rfl⟩:=List.getElem_of_mem hr;obtain⟨j,hj,rfl⟩:=List.getElem_of_mem hs;have li:=nr.1 _ hr;have lj:=nr.1 _ hs;rcases Nat.lt_trichotomy i j with y|y|y
  ·have:=List.pairwise_iff_getElem.mp nr.2 i j hi hj y;lia
  ·subst y;lia
  ·have:=List.pairwise_iff_getElem.mp nr.2 j i hj hi y;lia
 ·exact z
theorem PatS.from:∀{rs:List Run}{ps:qB},PatS rs ps->∀p∈ps,∃r∈rs,∃bs,Jd r.1 r.2 bs/\p∈bs
 | [],_,h=>by cases(show _=[] from h);exact fun b hb=>nomatch hb
 | s::rs,_,h=>by
  obtain⟨a,b,rfl,h1,h2⟩:=h;intro p hp;rcases List.mem_append.mp hp with hp|hp
  ·exact⟨s,by simp,a,h1,hp⟩
  ·obtain⟨r,hr,bs,B,hb⟩:=PatS.from h2 p hp
   exact⟨r,by simp[hr],bs,B,hb⟩
theorem CanP.max{bits:Int}(b0:0<=bits){S:Int->Prop}{ps:qB}(h:CanP S ps)(w:∀x,S x->0<=x/\x<2 ^ bits.toNat){p q:Int×Int}(hp:p∈ps)(Q:IsBk bits q.1 q.2)(wq:∀x,q.1<=x->x<eB q->S x)(i:q.1<=p.1/\eB p<=eB q):q=p:=by
 obtain⟨rs,nr,me,P⟩:=h;obtain⟨r,hr,bs,B,hb⟩:=P.from p hp
 have lt:=nr.1 r hr;have w1:=w r.1 ((me _).mp ⟨r,hr,Int.le_refl _,lt⟩);have w2:=w (r.2 - 1) ((me _).mp ⟨r,hr,by lia,by lia⟩)
 have pin:=B.in p hb;have pp:=JL p;obtain⟨s,hs,s1,s2⟩:=nr.one (a:=q.1) (b:=eB q) (JL q) fun x h1 h2=>(me x).mpr (wq x h1 h2)
 have rs':r=s:=by
  obtain⟨i1,h1,rfl⟩:=List.getElem_of_mem hr;obtain⟨i2,h2,rfl⟩:=List.getElem_of_mem hs;rcases Nat.lt_trichotomy i1 i2 with y|y|y
  ·have:=List.pairwise_iff_getElem.mp nr.2 i1 i2 h1 h2 y;lia
  ·subst y;rfl
  ·have:=List.pairwise_iff_getElem.mp nr.2 i2 i1 h2 h1 y;lia
 subst rs';exact B.max b0 w1.1 (by lia) hb Q ⟨s1,s2⟩ i
theorem zcn:∀{ps bs:qB},(ps.Pairwise fun a b=>eB a<=b.1)->(∀p∈ps,∃b∈bs,p.1<=b.1/\b.1<eB p)->ps.length<=bs.length
 | [],_,_,_=>Nat.zero_le _
 | p::ps,bs,pw,h=>by
  obtain⟨b,hb,b1,b2⟩:=h p (by simp)
  have pw':=List.pairwise_cons.mp pw;have:=zcn (ps:=ps) (bs:=bs.erase b) pw'.2 fun q hq=>by
   obtain⟨c,hc,c1,c2⟩:=h q (by simp[hq])
   refine⟨c,(List.mem_erase_of_ne ?_).mpr hc,c1,c2⟩;rintro rfl;have:=pw'.1 q hq;lia
  have e:=List.length_erase_of_mem hb;have:=List.length_pos_of_mem hb;rw[List.length_cons];lia
theorem CanP.le{bits:Int}(b0:0<=bits){bs ps:qB}(B:Bks bits bs)(h:CanP (fun x=>mB x bs) ps):ps.length<=bs.length:=by
 have w:∀x,mB x bs->0<=x/\x<2 ^ bits.toNat:=fun x ⟨b,hb,h1,h2⟩=>by
  have:=(B b hb).bounds b0;unfold eB at h2;lia
 have P:=h.ptc b0 w;refine zcn P.2 fun p hp=>?_
 have pp:=JL p;obtain⟨b,hb,h1,h2⟩:=(h.mem p.1).mp ⟨p,hp,Int.le_refl _,pp⟩;rcases UV (P.1 p hp) (B b hb) (x:=p.1) ⟨Int.le_refl _,pp⟩ ⟨h1,h2⟩ with z|z
 ·exact⟨b,hb,z.1,by have:=JL b;lia⟩
 ·have:=h.max b0 w hp (B b hb) (fun x y1 y2=>⟨b,hb,y1,y2⟩) ⟨z.1,z.2.1⟩
  subst this;exact⟨b,hb,Int.le_refl _,pp⟩
end L2
namespace L2
open PySem Bd
variable{as bs cs:List Run}{a b:Nat}
end L2
namespace L2
open PySem PySem.Spec PyProof.Rows
section
variable{κ:Type}[DecidableEq κ]
def valV(kvs:List (κ×V))(k:κ):Option V:=(kvs.find? fun kv=>decide (kv.1=k)).map (·.2)
def putK(kvs:List (κ×V))(k:κ)(v:V):List (κ×V) :=
 if (kvs.any fun kv=>decide (kv.1=k))=true then kvs.map (fun kv=>if kv.1=k then(kv.1,v) else kv) else kvs++[(k,v)]
theorem zhd{p:κ×V}{r:List (κ×V)}{k:κ}(e:p.1=k):valV (p::r) k=some p.2:=by simp[valV,List.find?_cons,e]
theorem zhe{p:κ×V}{r:List (κ×V)}{k:κ}(e:¬p.1=k):valV (p::r) k=valV r k:=by simp[valV,List.find?_cons,e]
theorem RelO.isSome_eq{o:Option V}{u:Option Value}(r:RelO o u):o.isSome=u.isSome:=by
 cases o with
 | none=>cases u with
  | none=>rfl
  | some _=>exact(show False from r).elim
 | some _=>cases u with
  | none=>exact(show False from r).elim
  | some _=>rfl
theorem KV.val{kvs:List (κ×V)}{vs:List (κ×Value)}(r:KV kvs vs)(k:κ):RelO (valV kvs k) (valueAt vs k):=by
 unfold KV at r;induction r with
 | nil=>exact True.intro
 | @cons p q ps qs h t ih =>
  obtain⟨h1,h2⟩:=h
  by_cases e:p.1=k
  ·have e':q.1=k:=h1.symm.trans e;have b:valueAt (q::qs) k=some q.2:=by simp[valueAt,List.find?_cons,e']
   rw[zhd e,b];exact h2
  ·have e':¬q.1=k:=fun z=>e (h1.trans z)
   have b:valueAt (q::qs) k=valueAt qs k:=by simp[valueAt,List.find?_cons,e']
   rw[zhe e,b];exact ih
theorem KV.any{kvs:List (κ×V)}{vs:List (κ×Value)}(r:KV kvs vs)(k:κ):(kvs.any fun kv=>decide (kv.1=k))=vs.any fun kv=>decide (kv.1=k):=by
 unfold KV at r;induction r with
 | nil=>rfl
 | cons h t ih=>rw[List.any_cons,List.any_cons,ih,h.1]
theorem KV.repl{kvs:List (κ×V)}{vs:List (κ×Value)}(r:KV kvs vs)(k:κ){y:V}{u:Value}(ry:RelV y u) :
  KV (kvs.map fun kv=>if kv.1=k then(kv.1,y) else kv) (vs.map fun kv=>if kv.1=k then(kv.1,u) else kv):=by
 unfold KV at r ⊢;induction r with
 | nil=>exact .nil
 | @cons p q ps qs h t ih =>
  rw[List.map_cons,List.map_cons];refine .cons ?_ ih;obtain⟨h1,h2⟩:=h
  by_cases e:p.1=k
  ·rw[if_pos e,if_pos (h1.symm.trans e)];exact⟨h1,ry⟩
  ·rw[if_neg e,if_neg (fun z=>e (h1.trans z))];exact⟨h1,h2⟩
theorem KV.put{kvs:List (κ×V)}{vs:List (κ×Value)}(r:KV kvs vs)(k:κ){y:V}{u:Value}(ry:RelV y u):KV (putK kvs k y) (stored vs k u):=by
 unfold putK stored;rw[r.any k]
 by_cases e:(vs.any fun kv=>decide (kv.1=k))=true
 ·rw[if_pos e,if_pos e];exact r.repl k ry
 ·rw[if_neg e,if_neg e];exact Paired.snoc r ⟨rfl,ry⟩
theorem KV.length{kvs:List (κ×V)}{vs:List (κ×Value)}(r:KV kvs vs):kvs.length=vs.length:=Paired.length r
end
theorem zmY{P:Program}{w:World}{k:Key}{u:Value}(r:RelV (kV k) u):(JA P w).is k u=true:=by
 cases k with
 | inl i=>obtain⟨t,e⟩:=(show ∃t,u=Value.int i t from r);subst e;exact zbC P w i t
 | inr x=>obtain⟨t,e⟩:=(show ∃t,u=Value.str x t from r);subst e;exact zd_ P w x t
abbrev KT(H:Hp):List (List Key×V)->List (List Key×Addr×Value)->Prop:=Paired fun p q=>p.1=q.1/\H q.2.1=some (.tup (p.1.map kV))/\RelV p.2 q.2.2
end L2
namespace L2
open PySem PySem.Spec PyProof PyProof.Rows
abbrev KD:=List (Key×PyData)
section
variable{D:DEnds}{ρ ρ':En}{n i j:Nat}{d dk dv:DTE}{R:qN}{ks:KD}
instance{ks:KD}:CapC (some (.dct ks)) (some (.rdo ks)):=⟨rfl⟩
instance{ks:KD}:CapC (some (.rdo ks)) (some (.rdo ks)):=⟨rfl⟩
end
theorem zbz:entryFor table "dict.update.loop" = some Builtin.«dict.update.loop»:=by kernel_rfl
theorem zgn:typeLookup (.type "list") "keys" = pure none:=by rw[typeLookup_type,builtinLookup_eq_fast];kernel_rfl
theorem zjn:typeLookup (.type "list") "__getattr__" = pure none:=by rw[typeLookup_type,builtinLookup_eq_fast];kernel_rfl
section
variable{prog:Program}{w:World}{A:Around}{E:qV}{s:Shared}
theorem zdd{a:Addr}{o:Obj}{u:Tok}{P:Fin->Shared->Prop}(ho:s.heap.get? a=some o)(hc:o.cls=.type "list") (hq:∃its n,o.data=.seq its n) (hd:o.dict=none) (hA:A.handled=none)
  (h:∀h' tk e,Heap.NewAttrErr s.heap h' e (.ref a) "keys" -> E (.ref e) { s with heap:=h',toks:=tk }):wpAny (model prog w) A (Builtin.«object.__getattribute__» ⟨[.ref a,.str "keys" u],[]⟩) P E s:=by
 obtain⟨hp,g,d,tk,os⟩:=s;have hT:∀(t:Nat),Shared.TypeIs ⟨hp,g,d,t,os⟩ (.ref a) "list":=fun _=>⟨o,ho,hc⟩
 have hm:=zgn;unfold Builtin.«object.__getattribute__»
 repeat (any_goals (first|assumption|wp_step))
 rw[hc,hm]
 repeat (any_goals (first|assumption|wp_step))
 obtain⟨its,n,hq⟩:=hq;rw[hq];dsimp only;unfold instanceDict
 repeat (any_goals (first|assumption|wp_step))
 rw[hd]
 repeat (any_goals (first|assumption|wp_step))
 simp only[hc,Bool.not_false,Bool.true_or,if_true]
 repeat (any_goals (first|assumption|wp_step))
 rw[hc];dsimp only
 repeat (any_goals (first|assumption|wp_step))
 exact wpAny_raiseAttrError hA h (attrMsg_fits (by decide +kernel) (by size_fits))
theorem zcE{a:Addr}{o:Obj}{u:Tok}{R:Result->Shared->Prop}(ho:s.heap.get? a=some o)(hc:o.cls=.type "list") (hq:∃its n,o.data=.seq its n) (hd:o.dict=none) (hA:A.handled=none)
  (h:∀h' tk e,Heap.NewAttrErr s.heap h' e (.ref a) "keys" -> R (.error (.ref e)) { s with heap:=h',toks:=tk }):codeAny (model prog w) A (.call (.builtin "list.__getattribute__") ⟨[.ref a,.str "keys" u],[]⟩) R s :=
 codeAny_call_builtin F.slot_list_getattribute.plain F.entry_list_ga (F.slot_list_getattribute.check _ _ _ _ _ _ _ _ (show s.TypeIs (.ref a) "list" from⟨_,ho,hc⟩) (F.args_list_getattribute_2 _ _) (zdd ho hc hq hd hA h))
theorem zdy{a:Addr}{o:Obj}{u:Tok}{Q:qV}(ho:s.heap.get? a=some o)(hc:o.cls=.type "list") (hq:∃its n,o.data=.seq its n) (hd:o.dict=none) (hA:A.handled=none)
  (h:∀h' tk e,Heap.NewAttrErr s.heap h' e (.ref a) "keys" -> E (.ref e) { s with heap:=h',toks:=tk }):wpAny (model prog w) A (getAttrBy (.ref a) (.str "keys" u) false) Q E s:=by
 obtain⟨hp,g,d,tk,os⟩:=s;have hT:(⟨hp,g,d,tk,os⟩:Shared).TypeIs (.ref a) "list":=⟨o,ho,hc⟩;have f2:=F.slot_list_getattribute.lookup;have f3:=F.slot_list_getattribute.bind (.ref a);have f1:=sub_AttributeError;have f5:=zjn
 repeat (any_goals (first|assumption|wp_step))
 refine zcE ho hc hq hd hA fun h' tk' e hx=>?_
 obtain⟨t',u',he⟩:=hx.there
 repeat (any_goals (first|assumption|wp_step))
 exact h _ _ _ hx
theorem zcF{a:Addr}{o:Obj}{Q:Option Value->Shared->Prop}(ho:s.heap.get? a=some o)(hc:o.cls=.type "list") (hq:∃its n,o.data=.seq its n) (hd:o.dict=none) (hA:A.handled=none)
  (h:∀h' tk,(∀b ob,s.heap.get? b=some ob->h'.get? b=some ob)->Q none { s with heap:=h',toks:=tk }):wpAny (model prog w) A (getAttr? (.ref a) "keys") Q E s:=by
 unfold getAttr? getAttrBy?
 obtain⟨hp,g,d,tk,os⟩:=s;have f1:=sub_AttributeError
 repeat (any_goals (first|assumption|(with_reducible refine zdy ho hc hq hd hA fun h' tk' e hx=>?_)|wp_step))
 obtain⟨t',u',he⟩:=hx.there
 repeat (any_goals (first|assumption|wp_step))
 exact h _ _ hx.keeps
end
section
variable{prog:Program}{w:World}{A:Around}{E:qV}{Ky:Type}[DecidableEq Ky]{knd:PySem.KeyKind prog w Ky}
def PrAt(knd:PySem.KeyKind prog w Ky)(d it:Addr)(h:Heap)(x:Value)(kv:Ky×Value):Prop:=∃(p:Addr) (u:Value),x=.ref p/\IsTup h p #[u,kv.2]/\knd.is kv.1 u=true/\p≠d/\p≠it
def KpH(d it:Addr)(h h':Heap):Prop:=∀b o,b≠d->b≠it->h.get? b=some o->h'.get? b=some o
theorem PrAt.keep{d it:Addr}{h h':Heap}{x:Value}{kv:Ky×Value}(r:PrAt knd d it h x kv)(k:KpH d it h h'):PrAt knd d it h' x kv:=by
 obtain⟨p,u,e,⟨o,ho,c⟩,ki,n1,n2⟩:=r;exact⟨p,u,e,⟨o,k p o n1 n2 ho,c⟩,ki,n1,n2⟩
theorem zen{d it l:Addr}{items:Array Value}{res:Value}(hA:A.handled=none)(ndi:d≠it)(nl:l≠d)(nli:l≠it):∀(ps:List (Ky×Value)) (i:Nat) (kvs:List (Ky×Value)) (s:Shared) (t:Tok) {R:Result->Shared->Prop},
  s.heap.IsList l items->s.heap.IsListIter it l i->s.heap.DictOf knd d kvs->kvs.length+ps.length<=sizeLine->Paired (PrAt knd d it s.heap) (items.toList.drop i) ps ->
  (∀h' tk,KpH d it s.heap h'->h'.DictOf knd d (ps.foldl (fun acc kv=>stored acc kv.1 kv.2) kvs)->R (.ok (.ret res)) { s with heap:=h',toks:=tk }) ->
  codeAny (model prog w) A (.builtin "dict.update.loop" ⟨[.ref d,.ref it,.int i t,res],[]⟩) R s
 | [],i,kvs,s,t,R,hl,hi,hd,hz,hp,h=>by
  have e:items[i]?=none:=by
   generalize hq:items.toList.drop i=q at hp;cases hp;have:=List.drop_eq_nil_iff.mp hq;exact Array.getElem?_eq_none (by simpa using this)
  refine codeAny_builtin zbz ?_;show wpAny _ _ (pyNext (.ref it) >>= _) _ _ s
  refine wpAny_bind (wpAny_pyNext_list_end hA hi hl e fun h' hx=>?_)
  show wpAny _ _ (Builtin.Dict.addKeywords d [] >>= fun _=>ret res) _ _ _
  unfold Builtin.Dict.addKeywords;rw[List.forIn_nil];exact wpAny_bind (wpAny_pure (wpAny_pure (h h' s.toks (fun b o _ n ho=>hx b o n ho) (hd.extBut hx ndi))))
 | (k,v)::ps,i,kvs,s,t,R,hl,hi,hd,hz,hp,h=>by
  generalize hq:items.toList.drop i=q at hp;cases hp with
  | cons r rs =>
   rename_i x xs;obtain⟨p,u,rfl,⟨o,ho,oc,n,od⟩,ki,np,npi⟩:=r;have hlt:i<items.toList.length:=by
    by_cases z:i<items.toList.length
    ·exact z
    ·rw[List.drop_of_length_le (by lia)]at hq;cases hq
   rw[List.drop_eq_getElem_cons hlt]at hq;obtain⟨e1,e2⟩:=List.cons.inj hq;have e:items[i]?=some (.ref p):=by rw[<- e1,<- Array.getElem?_toList];exact List.getElem?_eq_getElem hlt
   refine codeAny_builtin zbz ?_;show wpAny _ _ (pyNext (.ref it) >>= _) _ _ s
   refine wpAny_bind (wpAny_pyNext_list_item hi hl e fun h1 hi1 hs1=>?_)
   refine wpAny_bind (wpAny_holding ?_);have ho1:h1.get? p=some o:=(hs1.2 p npi).trans ho;have hT:(⟨h1,s.gens,s.drawn,s.toks,s.os⟩:Shared).TypeIs (.ref p) "tuple":=⟨o,ho1,oc⟩;refine wpAny_bind (wpAny_tryCatch ?_);unfold Builtin.Dict.pairItems;refine wpAny_bind (wpAny_typeOf hT ?_);rw[if_pos (by rfl)]
   refine wpAny_bind (wpAny_seqItems ho1 od (wpAny_pure ?_));show wpAny _ _ (holding [u,v] (dictSet d u v)) _ _ _
   have kp1:KpH d it s.heap h1:=fun b ob _ n hb=>(hs1.2 b n).trans hb
   rw[List.length_cons]at hz;refine wpAny_holding (wpAny_dictSet_pairs ki (hd.sameBut hs1 ndi) (fun h2 hd2 hs2=>?_) (by lia))
   have kp2:KpH d it h1 h2:=fun b ob n _ hb=>(hs2.2 b n).trans hb
   refine wpAny_pure ⟨Code.quiet_builtin _ (by decide +kernel),?_⟩
   have kp:KpH d it s.heap h2:=fun b ob n1 n2 hb=>kp2 b ob n1 n2 (kp1 b ob n1 n2 hb)
   refine zen (items:=items) hA ndi nl nli ps (i+1) (stored kvs k v) _ 0 ?_ ?_ hd2 ?_ ?_ fun h' tk kp' hd'=>?_
   ·obtain⟨ol,hol,r⟩:=hl;exact⟨ol,kp l ol nl nli hol,r⟩
   ·obtain⟨oi,hoi,r⟩:=hi1;exact⟨oi,(hs2.2 it (Ne.symm ndi)).trans hoi,r⟩
   ·have:=stored_length_le kvs k v;lia
   ·rw[e2];exact Paired.mapP rs fun _ _ r=>r.keep kp
   ·exact h h' tk (fun b ob n1 n2 hb=>kp' b ob n1 n2 (kp b ob n1 n2 hb)) hd'
end
section
variable{prog:Program}{w:World}{A:Around}{E:qV}{s:Shared}{Ky:Type}[DecidableEq Ky]{knd:PySem.KeyKind prog w Ky}
theorem zcH{l:Addr}{o:Obj}{its:Array Value}{n:Nat}{ps:List (Ky×Value)}{Q:qV}(ho:s.heap.get? l=some o)(hc:o.cls=.type "list") (hq:o.data=.seq its n) (hd:o.dict=none) (hA:A.handled=none)
  (hp:Paired (fun x (kv:Ky×Value)=>∃(p:Addr) (u:Value),x=.ref p/\IsTup s.heap p #[u,kv.2]/\knd.is kv.1 u=true) its.toList ps) (hz:ps.length<=sizeLine)
  (h:∀h' tk,(∀b ob,s.heap.get? b=some ob->h'.get? b=some ob)->h'.DictOf knd s.heap.objs.size (ps.foldl (fun acc kv=>stored acc kv.1 kv.2) [])->Q (.ref s.heap.objs.size) { s with heap:=h',toks:=tk }) :
  wpAny (model prog w) A (call (.type "dict") [.ref l]) Q E s:=by
 refine callType_codes (Q₁:=fun obj s₁=>obj=.ref s.heap.objs.size/\s₁={ s with heap:=s.heap.push { cls:=.type "dict",data:=.dict #[] } }) F.kt_called_dict (F.kt_typeCall_dict_1 _) F.entry_dict_init (kt_code_dict_new _ ⟨rfl,rfl⟩) ?_
 rintro obj s₁ ⟨rfl,rfl⟩;have hnew:(s.heap.push { cls:=.type "dict",data:=.dict #[] }).DictOf knd s.heap.objs.size []:=Heap.DictOf.new s.heap;have ho':(s.heap.push { cls:=.type "dict",data:=.dict #[] }).get? l=some o:=Heap.get?_push_of_some _ ho;have lt:∀b ob,s.heap.get? b=some ob->b<s.heap.objs.size:=fun b ob hb=>Heap.lt_size hb
 refine⟨hnew.typeIs,F.args_dict_init_2 _ _,?_⟩;unfold Builtin.«dict.__init__»;refine wpAny_bind ?_;unfold Builtin.Dict.selfAndRest;refine wpAny_bind (wpAny_notOrdered_dict hnew.typeIs ?_);show wpAny _ _ (pure (s.heap.objs.size,[Value.ref l])) _ _ _
 refine wpAny_pure ?_;show wpAny _ _ (Builtin.Dict.updateFrom "dict.__init__" s.heap.objs.size (.ref l) [] .none) _ _ _
 unfold Builtin.Dict.updateFrom;refine wpAny_bind (wpAny_typeOf (T:="list") ⟨o,ho',hc⟩ ?_);rw[if_pos (by rfl)]
 refine wpAny_bind (zcF ho' hc ⟨its,n,hq⟩ hd hA fun h1 tk1 k1=>?_)
 rw[if_pos (show(none:Option Value).isNone=true from rfl)]
 refine wpAny_bind (wpAny_rule ?_);have ho1:=k1 l o ho';have hl1:h1.IsList l its:=⟨o,ho1,hc,n,hq⟩;refine wpAny_bind (wpAny_pyIter_list hl1 ?_);refine wpAny_pure ⟨Code.quiet_builtin _ (by decide +kernel),?_⟩
 obtain⟨od,es,ep,hod,rd⟩:=hnew;have hod1:=k1 _ od hod;have l1:=Heap.lt_size hod1;have l2:=Heap.lt_size ho;have l3:=Heap.lt_size ho1;have kk:∀b ob,s.heap.get? b=some ob->(h1.push { cls:=.type "list_iterator",data:=.fields #[.ref l,.int 0 0] }).get? b=some ob:=fun b ob hb=>Heap.get?_push_of_some _ (k1 b ob (Heap.get?_push_of_some _ hb))
 refine zen (knd:=knd) (A:=A.in1) (items:=its) (kvs:=[]) (i:=0) (ps:=ps) (show A.in1.handled=none from hA) (Nat.ne_of_lt l1) (Nat.ne_of_lt l2) (Nat.ne_of_lt l3) _ 0 ?_ ?_ ?_ (by simpa using hz) ?_ fun h' tk kp hd'=>?_
 ·exact⟨o,Heap.get?_push_of_some _ ho1,hc,n,hq⟩
 ·exact⟨_,Heap.get?_push_size _ rfl,rfl,rfl⟩
 ·exact⟨od,es,ep,Heap.get?_push_of_some _ hod1,rd⟩
 ·rw[List.drop_zero];exact Paired.mapP hp fun x kv ⟨p,u,e,⟨ob,hob,r⟩,ki⟩=>⟨p,u,e,⟨ob,kk p ob hob,r⟩,ki,Nat.ne_of_lt (Heap.lt_size hob),Nat.ne_of_lt (Nat.lt_trans (Heap.lt_size hob) l1)⟩
 ·exact⟨rfl,h h' tk (fun b ob hb=>kp b ob (Nat.ne_of_lt (Heap.lt_size hb)) (Nat.ne_of_lt (Nat.lt_trans (Heap.lt_size hb) l1)) (kk b ob hb)) hd'⟩
end
section
variable{X:Cx}
theorem zgm:∀{zs:List (Key×V)}{ps:List (Key×Value)}{acc:List (Key×V)}{bs:List (Key×Value)},KV zs ps->KV acc bs->KV (zs.foldl (fun acc z=>putK acc z.1 z.2) acc) (ps.foldl (fun acc kv=>stored acc kv.1 kv.2) bs)
 | [],_,_,_,r,a=>by cases r;exact a
 | z::zs,_,acc,bs,r,a=>by
  cases r with
  | @cons _ q _ qs h t =>
   obtain⟨h1,h2⟩:=h;have:=KV.put a z.1 h2;rw[List.foldl_cons,List.foldl_cons,<- h1];exact zgm t this
theorem zeB{pins:qO}{σ:St}{H:Hp}{s:Shared}(I:Inv X pins σ H s):∀{vs:List V}{its:List Value}{zs:List (Key×V)},Vals vs its->Paired (fun(v:V) (z:Key×V)=>∃a,v=.ref a/\SqT X.K H a [kV z.1,z.2]) vs zs ->
  ∃ps:List (Key×Value),KV zs ps/\Paired (fun x (kv:Key×Value)=>∃(p:Addr) (u:Value),x=.ref p/\IsTup s.heap p #[u,kv.2]/\(JA X.prog X.w).is kv.1 u=true) its ps
 | [],_,_,r,h=>by cases r;cases h;exact⟨[],.nil,.nil⟩
 | v::vs,_,_,r,h=>by
  cases r with
  | cons r1 r2 =>
   cases h with
   | @cons _ z _ zs h1 h2 =>
    obtain⟨a,rfl,sq⟩:=h1;obtain⟨ps,k1,k2⟩:=zeB I r2 h2;obtain⟨its2,rv,it,_⟩:=I.tuple sq;cases rv with
    | cons q1 q2 =>
     cases q2 with
     | cons q3 q4 =>
      cases q4;rename_i u w;cases(show _=Value.ref a from r1)
      exact⟨(z.1,w)::ps,.cons ⟨rfl,q3⟩ k1,.cons ⟨a,u,rfl,it,zmY q1⟩ k2⟩
end
def Itrs(lo c:Int)(n:Nat):It:=⟨fun i _=>i<n,fun i H x H'=>H'=H/\x=.int (lo+i*c),fun i _=>n<=i⟩
theorem zd3{P:Program}{w:World}{K:qF}{tg:Expr}(it:Addr)(lo c:Int)(n:Nat):Turn P w K tg (Itrs lo c n) [it] it (fun i h=>IsRangeIter h it (lo+(i:Nat)*c) ((n:Int) - (i:Nat)) c) where
 mem:=by simp
 obj:=fun i h st b hb=>by
  have e:b=it:=by simpa using hb
  subst e;exact⟨_,st,fun v z=>by
   have z':Data.fields _=Data.cell v:=z;cases z'⟩
 keep:=fun i h h' st k=>k it (by simp) _ st
 item:=by
  intro X hP hw hK hc i pins s σ H E I hf st hg;subst hP hw hK;obtain⟨f0,f1,f2,f3,f4,f5⟩:=hf it (by simp)
  have W:=Walks.range (prog:=X.prog) (w:=X.w) (I.ok.hd hc) it lo c n;refine W.item i s _ _ hg st fun v h' tk hv st' kk=>?_
  obtain⟨t,rfl⟩:=hv;have I1:Inv X pins σ H { s with heap:=h',toks:=tk }:=I.turned (fun b o hb e=>kk b o (by simpa using hb) e) f0 f1 f3 f4 f5
  exact⟨_,rfl,Q6 (s:={ s with heap:=h',toks:=tk }) (n:="range_iterator") st' rfl rfl (by decide) ⟨.int (lo+i*c),H,I1,⟨t,rfl⟩,⟨rfl,rfl⟩,st',fun b hb=>(hf b hb).1⟩⟩
 done:=by
  intro X hP hw hK hc i pins s σ H E I hf st hg;subst hP hw hK;obtain⟨f0,f1,f2,f3,f4,f5⟩:=hf it (by simp)
  exact wpAny_pyNext_range_end (I.ok.hd hc) st (by have:n<=i:=hg;lia) fun h' eb=>⟨rfl,I.turned (t':=s.toks) (fun b o hb e=>eb b o hb e) f0 f1 f3 f4 f5⟩
 self:=fun _ _ _ _ _ st h=>wpAny_pyIter_rangeiter st h
def rngN(a b c:Int):Nat:=(Builtin.Range.rangeSize a b c).toNat
def J8(a c:Int)(n:Nat):List PyData:=(List.range n).map fun(i:Nat)=>PyData.int (a+(i:Int)*c)
theorem zb0{a b c:Int}:0<=Builtin.Range.rangeSize a b c:=by
 unfold Builtin.Range.rangeSize;split
 ·split
  ·have:=Int.ediv_nonneg (a:=b - a - 1) (b:=c) (by lia) (by lia);lia
  ·lia
 ·split
  ·have:=Int.ediv_nonneg (a:=a - b - 1) (b:=-c) (by lia) (by lia);lia
  ·lia
theorem zfa{a b c:Int}(h1:-(2 ^ 60)<=a)(h2:a<2 ^ 60)(h3:-(2 ^ 60)<=b)(h4:b<2 ^ 60)(h5:-(2 ^ 29)<=c)(h6:c<2 ^ 29)(h0:c≠0):Builtin.Range.small a b c=true:=by
 have hs:Builtin.Range.rangeSize a b c<2 ^ 62:=by
  unfold Builtin.Range.rangeSize;split
  ·split
   ·have:=Int.ediv_le_self (a:=b - a - 1) c (by lia)
    lia
   ·lia
  ·split
   ·have:=Int.ediv_le_self (a:=a - b - 1) (-c) (by lia)
    lia
   ·lia
 have hn:=zb0 (a:=a) (b:=b) (c:=c);unfold Builtin.Range.small;simp only[Builtin.Range.rangeFitsLong,Bool.and_eq_true,Bool.or_eq_true,decide_eq_true_eq,beq_iff_eq];split <;> simp only[Bool.and_eq_true,decide_eq_true_eq] <;> lia
section
variable{X:Cx}{tg:Expr}{a b c:Expr}{ta tb tc:TE}{da db dc:DTE}{p pos:Pos}
def znh(ta:TA):TI:=fun σ H R=>ta σ H fun vs H1=>∃i j k:Int,vs=[.int i,.int j,.int k]/\(-(2 ^ 60)<=i/\i<2 ^ 60/\-(2 ^ 60)<=j/\j<2 ^ 60/\-(2 ^ 29)<=k/\k<2 ^ 29/\k≠0)/\R (Itrs i k (rngN i j k)) H1
theorem zfV{ta:TA}(hg:Gl X "range") (hm:X.mg "range" = none) (ha:PA X [a,b,c] ta) (hs:starEach [a,b,c] X.env=[(false,eval a X.env),(false,eval b X.env),(false,eval c X.env)]) (hs2:starEach [b,c] X.env=[(false,eval b X.env),(false,eval c X.env)]) :
  PI X tg (.Call (.Name "range" p) [a,b,c] [] pos) (znh ta):=by
 intro pins s σ H R I h;refine Call_ (Q7 I hg hm boot_range (PyProof.Rows.callWith_type1 (thn (ha pos pins s σ H _ I h) fun us s1 ⟨vs,H1,I1,r1,q1⟩=>?_) (by rw[hs,hs2]) (by rw[hs2];rfl)))
 obtain⟨lo,hi,k,e,⟨q1,q2,q3,q4,q5,q6,q7⟩,q⟩:=q1;subst e;cases r1 with
 | cons r rr =>
  cases rr with
  | cons r' rr =>
   cases rr with
   | cons r'' rr =>
    cases rr;obtain⟨t,rfl⟩:=r;obtain⟨u,rfl⟩:=r';obtain⟨v,rfl⟩:=r'';refine call_range_3 q7 ?_ (.inl (PyProof.noPylong_small (by lia)))
    refine wpAny_pyIter_range (IsRange.new ..) (zfa q1 q2 q3 q4 q5 q6 q7) ?_;have I2:Inv X pins σ H1 { s1 with heap:=s1.heap.push { cls:=.type "range",data:=.fields #[.int lo t,.int hi u,.int k v] },toks:=s1.toks }:=I1.kept fun b o e=>Heap.get?_push_of_some _ e
    refine⟨(s1.heap.push { cls:=.type "range",data:=.fields #[.int lo t,.int hi u,.int k v] }).objs.size,[(s1.heap.push { cls:=.type "range",data:=.fields #[.int lo t,.int hi u,.int k v] }).objs.size],_,_,H1,rfl,
     I2.kept (t':=s1.toks) fun b o e=>Heap.get?_push_of_some _ e,zd3 _ lo k (rngN lo hi k),?_,fun b hb=>?_,q⟩
    ·have e1:lo+((0:Nat):Int)*k=lo:=by simp
     have e2:((rngN lo hi k:Nat):Int) - ((0:Nat):Int)=Builtin.Range.rangeSize lo hi k:=by
      have:=zb0 (a:=lo) (b:=hi) (c:=k);unfold rngN;lia
     show IsRangeIter _ _ (lo+((0:Nat):Int)*k) (((rngN lo hi k:Nat):Int) - ((0:Nat):Int)) k
     rw[e1,e2];exact Heap.get?_push_size _ rfl
    ·have e:b=(s1.heap.push { cls:=.type "range",data:=.fields #[.int lo t,.int hi u,.int k v] }).objs.size:=by simpa using hb
     subst e;exact I2.fpOk (Nat.le_refl _) (I2.hok.fresh (Nat.le_refl _))
theorem zgv{K:qF}{hd:Option Addr}{P O:Addr->Prop}{H:Hp}{lo c:Int}{m:Nat}:ItOk K hd P O H (Itrs lo c m) (J8 lo c m):=by
 intro O2 H2 _ _ _;refine⟨fun i t et=>?_,by show m<=(J8 lo c m).length;simp[J8]⟩
 unfold J8 at et;rw[List.getElem?_map]at et
 by_cases hi:i<m
 ·rw[List.getElem?_range hi]at et;cases et;refine⟨hi,fun x H3 hy=>?_⟩
  obtain⟨rfl,rfl⟩:=hy;exact⟨Same.refl _,.int _⟩
 ·rw[List.getElem?_eq_none (by simp;lia)]at et
  cases et
def zlI(d1 d2 d3:DTE):DTA:=fun ρ n R=>d1 ρ n fun t n1=>d2 ρ n1 fun u n2=>d3 ρ n2 fun v n3=>lInt t fun i=>lInt u fun j=>lInt v fun k=>(-(2 ^ 60)<=i/\i<2 ^ 60/\-(2 ^ 60)<=j/\j<2 ^ 60/\-(2 ^ 29)<=k/\k<2 ^ 29/\k≠0)/\R (J8 i k (rngN i j k)) n3
theorem zgO(hm:X.mg "range" = none) (h:DE X a da) (h':DE X b db) (h'':DE X c dc) (hg:Gl X "range":=by rfl) (hs:starEach [a,b,c] X.env=[(false,eval a X.env),(false,eval b X.env),(false,eval c X.env)]:=by rfl) (hs2:starEach [b,c] X.env=[(false,eval b X.env),(false,eval c X.env)]:=by rfl) (hs3:starEach [c] X.env=[(false,eval c X.env)]:=by rfl) :
  DI X tg (.Call (.Name "range" p) [a,b,c] [] pos) (zlI da db dc):=by
 obtain⟨ta,pa,h⟩:=h;obtain⟨tb,pb,h'⟩:=h';obtain⟨tc,pc,h''⟩:=h'';refine⟨_,zfV hg hm (Qc pa (Qc pb (Qc pc QU hs3) (by rw[hs2,hs3])) (by rw[hs,hs2])) hs hs2,fun C ρ σ H n Q R S hd hq=>?_⟩
 refine h C ρ σ H n _ _ S hd fun t n' v H' r e1 hn q=>?_
 have S1:=S.on e1 hn;refine h' C ρ σ H' n' _ _ S1 r fun u n2 w H2 r2 e2 hn2 q2=>?_
 have S2:=S1.on e2 hn2;refine h'' C ρ σ H2 n2 _ _ S2 r2 fun y n3 w H3 r3 e3 hn3 q3=>?_
 cases t with
 | int i =>
  cases u with
  | int j =>
   cases y with
   | int k =>
    rw[q.intI,q2.intI,q3.intI];exact⟨i,j,k,rfl,r3.1,hq _ n3 _ H3 r3.2 (e1.trans (e2.trans e3)) hn3 zgv⟩
   | _=>exact r3.elim
  | _=>exact r3.elim
 | _=>exact r3.elim
instance znw {d1 d2 d3:DTE}{ρ:En}{n:Nat}{R:List PyData->Nat->Prop}:Stp (zlI d1 d2 d3 ρ n R) (d1 ρ n fun t n1=>d2 ρ n1 fun u n2=>d3 ρ n2 fun v n3=>lInt t fun i=>lInt u fun j=>lInt v fun k=>(-(2 ^ 60)<=i/\i<2 ^ 60/\-(2 ^ 60)<=j/\j<2 ^ 60/\-(2 ^ 29)<=k/\k<2 ^ 29/\k≠0)/\R (J8 i k (rngN i j k)) n3):=⟨fun h=>h⟩
end
theorem zfe{a c:Int}{m i:Nat}{t:PyData}(h:(J8 a c m)[i]?=some t):i<m/\t=.int (a+(i:Int)*c):=by
 unfold J8 at h;rw[List.getElem?_map]at h
 by_cases hi:i<m
 ·rw[List.getElem?_range hi]at h;cases h;exact⟨hi,rfl⟩
 ·rw[List.getElem?_eq_none (by simp;lia)]at h
  cases h
theorem zfd{a c:Int}{m:Nat}:(J8 a c m).length=m:=by simp[J8]
theorem ziG{g e:Nat}:rngN 0 (2 ^ (e+g)) (2 ^ g)=2 ^ e:=by
 unfold rngN Builtin.Range.rangeSize;have pg:=Bd.zaf g;have pe:=Bd.zaf e;have p2:=Bd.zaf (e+g);rw[if_pos pg,if_pos p2,Int.pow_add];have:((2:Int) ^ e*2 ^ g - 0 - 1) / 2 ^ g=2 ^ e - 1:=by
  have e1:(2:Int) ^ e*2 ^ g - 0 - 1=(2 ^ g - 1)+(2 ^ e - 1)*2 ^ g:=by rw[Int.sub_mul];lia
  rw[e1,Int.add_mul_ediv_right _ _ (by lia),Int.ediv_eq_zero_of_lt (by lia) (by lia)]
  lia
 rw[this];have e2:((2:Int) ^ e - 1+1)=((2 ^ e:Nat):Int):=by rw[Int.natCast_pow];simp
 rw[e2,Int.toNat_natCast]
theorem zlL{bits:Int}(b0:0<=bits){bs:qB}(B:Bks bits bs){x:Int}(h:mB x bs):0<=x/\x<2 ^ bits.toNat:=by
 obtain⟨b,hb,h1,h2⟩:=h;have:=(B b hb).bounds b0;unfold eB at h2;lia
theorem zmO{bits:Int}(b0:0<=bits)(b1:bits<=64){S:Int->Prop}{rs:qB}(nr:NR rs)(e:∀x,mR x rs↔S x)(w:∀x,S x->0<=x/\x<2 ^ bits.toNat):∀r∈rs,0<=r.1/\r.1<=r.2/\r.2<=2 ^ 64:=fun r hr=>by
 have lt:=nr.1 r hr;have a:=w r.1 ((e _).mp ⟨r,hr,Int.le_refl _,lt⟩);have b:=w (r.2 - 1) ((e _).mp ⟨r,hr,by lia,by lia⟩)
 have:=Bd.zhr (k:=bits.toNat) (by lia)
 lia
end L2
namespace Bd
open PySem L2
def Dq(K:qF)(mg:qM)(x:Str)(st:Stmt)(ps:List Str):Prop:=∃f fd,Def K mg x st ps f fd
def Fq(P:Program)(w:World)(K:qF)(mg:qM)(base:Heap)(x:Str)(st:Stmt)(ps:List Str)(k:Nat)(sp:Sp):Prop:=∃f fd,Def K mg x st ps f fd/\FnOk P w K mg base CX0 k f fd ps sp
end Bd
namespace L2
open PySem PySem.Spec PyProof.Rows
section
variable{X:Cx}{x:Str}{st:Stmt}{ps:List Str}{k n m:Nat}{g:GD}{e:Expr}{es:List Expr}{ds:DTA}{p pos:Pos}
theorem JI(F:Bd.Fq X.prog X.w X.K X.mg X.base x st ps k (spD X.K m g))(hr:Room n X.A)(h:DB X (e::es) ds)(hk:k<=n:=by decide)(hm:(e::es).length=m:=by rfl)(hg:Gl X x:=by rfl)
  (hdb:(x == ("__debug__":Str))=false:=by decide):DE X (.Call (.Name x p) (e::es) [] pos) (dFn g ds):=by
 obtain⟨f,fd,D,G⟩:=F;exact znq D G (hr.mono hk) h hm hg hdb
end
section
variable{X:Cx}{hx s kx x:Str}{st:Stmt}{ps:List Str}{k n:Nat}{p p1 p2 p3 pos pos':Pos}{sts:List Stmt}{u:DTS}
theorem zgK{i j:Nat}(F:Bd.Fq X.prog X.w X.K X.mg X.base hx st ps k (Ux X.K))(hr:Room n X.A)(hN:X.N.Nodup)(hi:X.N[i]?=some x)(hlx:Loc X.env.scope x)(hu:DSs X sts u)(hk:k<=n:=by decide)(hij:i≠0:=by decide)(hj0:j≠0:=by decide)(hji:j≠i:=by decide)
  (h0:X.N[0]?=some s:=by rfl) (hj:X.N[j]?=some kx:=by rfl) (hv0:Vis X.env.scope s:=by walk_at "V") (hvj:Vis X.env.scope kx:=by walk_at "V")
  (hd0:(s == ("__debug__":Str))=false:=by decide) (hcd0:(s == ("__classdict__":Str))=false:=by decide) (hdj:(kx == ("__debug__":Str))=false:=by decide) (hcdj:(kx == ("__classdict__":Str))=false:=by decide) (hg:Gl X hx:=by rfl) (hdb:(hx == ("__debug__":Str))=false:=by decide)
  (hs:swapsWith (.Call (.Name hx p) [.Name s p1,.Name kx p2] [] p3) (some (.Name x pos')) pos.line X.env=pure false:=by rfl) (hf:X.fn x=true\/X.env.scope.names.lookup x=some .local:=by walk_at "F") :
  DSs X (.Assign [.Name x pos'] (.Call (.Name hx p) [.Name s p1,.Name kx p2] [] p3) pos::sts) (QP i j u):=by
 obtain⟨f,fd,D,G⟩:=F;exact zhO D G (hr.mono hk) hN hi hlx hu hij hj0 hji h0 hj hv0 hvj hd0 hcd0 hdj hcdj hg hdb hs hf
end
end L2
namespace Bd
open PySem L2
section
variable{K:qF}{h:Heap}{mg:qM}{x:Str}{st:Stmt}{ps:List Str}
abbrev BndA(x:Str)(st:Stmt)(ps:List Str):Prop:=∀(kV doc pm:Value) (an:Option Addr) (cdv ct:Value) (us:List Value),us.length=ps.length->bindArgs (PySem.W.fnOf x x (J1 st) (JK st) (Jh st) .none kV doc pm an cdv ct) ⟨us,[]⟩=pure (ps.zip us)
theorem len1:∀{us:List Value},us.length=1->∃a,us=[a]
 | [a],_=>⟨a,rfl⟩
theorem len2:∀{us:List Value},us.length=2->∃a b,us=[a,b]
 | [a,b],_=>⟨a,b,rfl⟩
theorem len3:∀{us:List Value},us.length=3->∃a b c,us=[a,b,c]
 | [a,b,c],_=>⟨a,b,c,rfl⟩
end
end Bd
namespace Bd
open PySem L2
theorem pow8{k:Nat}(h:k<=8):(2:Int) ^ k<=256:=Qb (b:=8) h
end Bd
namespace L2
open PySem PySem.Spec PyProof PyProof.Rows
def znr(h:Heap)(d:Addr)(es:Array DictEntry)(ep:Nat):Prop:=∃o,h.get? d=some o/\o.ExactDict/\o.data=.dict es ep
section
variable{prog:Program}{w:World}{A:Around}{E:qV}
theorem ziI{s:Shared}{d:Addr}{es:Array DictEntry}{ep:Nat}{Q:qV}(hs:(d == sysModules)=false)(hm:znr s.heap d es ep)(hz:es.size<=sizeLine)(h:∀t tk,Q (.int es.size t) { s with toks:=tk }):wpAny (model prog w) A (call (.builtin "len") [.ref d]) Q E s:=by
 obtain⟨o,g1,g2,g3⟩:=hm;have ty:s.TypeIs (.ref d) "dict":=⟨o,g1,g2.1⟩;have hl:sizeLine=16777216:=sizeLine_eq;refine Calls.call_function_entry kind_len plain_len entry_len (args_len1 _) ?_;unfold Builtin.«len»;refine wpAny_bind (m:=oneArg "len" _) (wpAny_pure (wpAny_bind (m:=callSpecial? (.ref d) (Str.ofString "__len__")) ?_));refine wpAny_callSpecial?_slot (name:=Str.ofString "__len__") ty PySem.F.slot_dict_len ?_
 refine wpAny_call_entry PySem.F.slot_dict_len ty PySem.F.entry_dict_len ?_ (PySem.F.args_dict_len_1 _);show wpAny _ _ (dictSize d >>= _) _ _ s
 unfold dictSize;refine wpAny_bind (wpAny_bind (wpAny_dictEntries g1 g3 (wpAny_pure ?_)));show wpAny _ _ (Builtin.Dict.pendingCount d >>= _) _ _ s
 refine wpAny_bind (wpAny_pendingCount_other hs (wpAny_ret_mkInt ?_));rw[show((es.size:Int)+((0:Nat):Int))=(es.size:Int) from by simp]
 refine wpAny_bind (wpAny_holding (wpAny_pure (wpAny_bind (wpAny_letGo ?_))));show wpAny _ _ (if ((es.size:Nat):Int)<0 then _ else _) _ _ _
 rw[if_neg (by lia)]
 show wpAny _ _ (if ((es.size:Nat):Int)>=2 ^ 63 then _ else _) _ _ _
 rw[if_neg (by lia)]
 exact wpAny_bind (wpAny_mkInt (wpAny_pure ⟨_,rfl,h _ _⟩))
end
end L2
namespace L2
open PySem
abbrev RL:=List ((Int×Int)×Int)
end L2
namespace Bd
open PySem PySem.W PySem.Calls L2 PyProof.Rows
structure ZZ where
 P:Program
 w:World
 K:qF
 mg:Str->Option Value
 base:Heap
def FQ(Z:ZZ)(x:Str)(st:Stmt)(ps:List Str)(k:Nat)(sp:Sp):Prop:=Fq Z.P Z.w Z.K Z.mg Z.base x st ps k sp
theorem okQ{Z:ZZ}{x:Str}{st:Stmt}{ps N:List Str}{k m:Nat}{g:GD}(D:Dq Z.K Z.mg x st ps)(S:FnScope N ps (Jh st))(hm:m=ps.length)
  (hb:∀(f:Addr) (cdv:Value) (A:Around) (outer:List Env) (s:Shared) (H:Hp) (E:XK),Room k (A.deeper (envOfC x (Jh st) s.heap.objs.size f cdv))->∃d,DSs (cxOf CX0 Z.P Z.w Z.K Z.mg Z.base N x (Jh st) f cdv A outer s H E).nox (JK st) d /\
   ∀ts n R,ts.length=m->g ts n R->d { nx:=fun _ n'=>R .none n',rt:=R } (JO N ts) n):FQ Z x st ps (k+1) (spD Z.K m g):=by
 obtain⟨f,fd,D⟩:=D;exact⟨f,fd,D,D.okD S hm fun cdv A outer s H E hr=>hb f cdv A outer s H E hr⟩
theorem bnd1{x:Str}{st:Stmt}{a:Str}(h:∀(kV doc pm:Value) (an:Option Addr) (cdv ct u:Value),bindArgs (PySem.W.fnOf x x (J1 st) (JK st) (Jh st) .none kV doc pm an cdv ct) ⟨[u],[]⟩=pure [(a,u)]):BndA x st [a]:=fun _ _ _ _ _ _ us hl=>by obtain⟨_,rfl⟩:=len1 hl;exact h ..
theorem bnd2{x:Str}{st:Stmt}{a b:Str}(h:∀(kV doc pm:Value) (an:Option Addr) (cdv ct u v:Value),bindArgs (PySem.W.fnOf x x (J1 st) (JK st) (Jh st) .none kV doc pm an cdv ct) ⟨[u,v],[]⟩=pure [(a,u),(b,v)]):BndA x st [a,b]:=fun _ _ _ _ _ _ us hl=>by obtain⟨_,_,rfl⟩:=len2 hl;exact h ..
theorem bnd3{x:Str}{st:Stmt}{a b c:Str}(h:∀(kV doc pm:Value) (an:Option Addr) (cdv ct u v y:Value),bindArgs (PySem.W.fnOf x x (J1 st) (JK st) (Jh st) .none kV doc pm an cdv ct) ⟨[u,v,y],[]⟩=pure [(a,u),(b,v),(c,y)]):BndA x st [a,b,c]:=fun _ _ _ _ _ _ us hl=>by obtain⟨_,_,_,rfl⟩:=len3 hl;exact h ..
def JJ(h:Heap):qF:=(List.range h.objs.size).filterMap fun a=>(h.get? a).map fun o=>(a,o)
theorem zgi{h:Heap}:∀{as:List Addr}{a:Addr},a∈as->(as.filterMap fun a=>(h.get? a).map fun o=>(a,o)).lookup a=h.get? a\/h.get? a=none
 | [],_,m=>nomatch m
 | b::as,a,m=>by
  by_cases e:a=b
  ·subst e;cases g:h.get? a with
   | none=>exact .inr rfl
   | some o=>exact .inl (by rw[List.filterMap_cons];simp[g,List.lookup_cons])
  ·have m':a∈as:=(List.mem_cons.mp m).resolve_left e;rcases zgi (h:=h) m' with z|z
   ·refine .inl ?_;rw[List.filterMap_cons];cases g:h.get? b with
    | none=>exact z
    | some o =>
     have:(a == b)=false:=by simpa using e
     simp only[Option.map_some];rw[List.lookup_cons,this];exact z
   ·exact .inr z
theorem zbF{h:Heap}{a:Addr}{o:Obj}(e:h.get? a=some o):(JJ h).lookup a=some o:=by
 have m:a∈List.range h.objs.size:=List.mem_range.mpr (Heap.lt_size e);rcases zgi (h:=h) m with z|z
 ·exact z.trans e
 ·rw[e]at z;cases z
theorem zfB{h:Heap}:(JJ h).In h:=fun a o e=>by
 have key:∀(as:List Addr),(as.filterMap fun a=>(h.get? a).map fun o=>(a,o)).lookup a=some o->h.get? a=some o:=by
  intro as;induction as with
  | nil=>intro z;cases z
  | cons b as ih =>
   intro z;rw[List.filterMap_cons]at z;cases g:h.get? b with
   | none=>rw[g]at z;exact ih z
   | some ob =>
    rw[g]at z;simp only[Option.map_some,List.lookup_cons]at z;cases q:a == b with
    | true=>rw[q]at z;cases z;rw[eq_of_beq q];exact g
    | false=>rw[q]at z;exact ih z
 exact key _ e
def UG:Stmt->Bool
 | .FunctionDef ..=>true
 | _=>false
def defName:Stmt->Str
 | .FunctionDef n _ _ _ _ _ _ _ _ _=>n
 | _=>Str.ofString ""
def zlE:Stmt->Pos
 | .FunctionDef _ _ _ _ _ _ _ _ _ p=>p
 | _=>⟨0,0,0,0⟩
def recD(st:Stmt):DefRec:=⟨defName st,J1 st,JK st,Jh st,zlE st⟩
theorem getD_mem{l:List Stmt}{i:Nat}(h:UG (l.getD i (.Pass ⟨0,0,0,0⟩))=true):l.getD i (.Pass ⟨0,0,0,0⟩)∈l:=by
 rw[List.getD_eq_getElem?_getD]at h ⊢;cases e:l[i]? with
 | none=>rw[e]at h;cases h
 | some s=>exact List.mem_of_getElem? e
section
variable{q:Program}{loose:List Str}{mean:ExcName->Option Value}{mg mb:qM}{h:Heap}{x:Str}{st:Stmt}{ps:List Str}
theorem zg3{cd:Value}{n:Str}(c:h.CodeRec cd n):PySem.W.codeIn (JJ h) cd n=true:=by
 obtain⟨a,o,vs,t,rfl,g,d,e⟩:=c;unfold PySem.W.codeIn;dsimp only;rw[zbF g];obtain⟨oc,od,dd,sl⟩:=o;cases(show dd=_ from d)
 have l2:vs.toList[1]?=some (.str n t):=by simpa using e
 dsimp only
 match hv:vs.toList,l2 with
 | [],l2=>simp at l2
 | [_],l2=>simp at l2
 | a::b::r,l2 =>
  have:b=.str n t:=by simpa using l2
  subst this;simp
theorem dq_g(T:Top q loose mean mg mb h)(hd:recD st∈recsOf q)(hn:defName st=x)(hb:BndA x st ps):Dq (JJ h) mg x st ps:=by
 obtain⟨a,o,pm,cd,doc,h1,h2,h3,h4⟩:=T.fn _ hd;have h1:mg (defName st)=some (.ref a):=h1;have h4:h.CodeRec cd (defName st):=h4;rw[hn]at h1 h4;obtain⟨oc,od,dd,sl⟩:=o;have h3:dd=.func (docDef (defName st) (J1 st) (JK st) (Jh st) pm cd doc):=h3;rw[hn]at h3;have l:(JJ h).lookup a=some ⟨oc,od,.func (PySem.W.fnOf x x (J1 st) (JK st) (Jh st) .none .none doc pm none cd .none),sl⟩:=by
  rw[zbF h2,h3];rfl
 have kp:PySem.W.keepIn (JJ h) (.ref a)=true:=by
  unfold PySem.W.keepIn;dsimp only;rw[l]
 exact⟨a,_,zio l (zg3 h4) kp,(zio l (zg3 h4) kp).binds hb,h1⟩
end
theorem zmg{lw:PySem.W.OpenLaw}{q:Program}{loose:List Str}{XP:(Str->Option Value)->Heap->Prop}{YP:World->Heap->Prop}{d:DefRec}{k:Nat}(hk:k<=60)(hn:lw.most=some 63)(hdf:d.params.defaults=[])
  (F:∀(w:World) (s₀:Shared) (mg mb:qM) (fa:Addr) (h:Heap),Ground q loose [] XP w s₀ mg mb h->mg d.name=some (.ref fa) ->
   ∃fd:FuncData,(∀(s:Shared) (u:Value),BindsTo s fd ⟨[u],[]⟩ [("_law_script",u)])/\∀base:Heap,(JJ h).In base->base.Ns mainGlobals mg->FnOk lw.prog w (JJ h) mg base CX0 k fa fd ["_law_script"] (ziC (JJ h))) :
  PySem.W.WalkO q loose XP YP lw.row.toRowW d [] (fun f vs=>PySem.call f vs):=by
 refine Att.attach_call hn hdf fun w s₀ s₁ mg mb fa o pm cd doc a vs ns G Y ho hd hcd hmg hobj hints hlen hg=>?_
 obtain⟨fd,hb,hF⟩:=F w s₀ mg mb fa _ G hmg;exact zhA zfB G.T.g G.T.b G.T.builtins G.T.nolimit hg hobj hints (Nat.le_trans hlen (by decide)) ((show Room 60 callerA from⟨rfl,by decide,by decide,rfl⟩).mono hk) hF hb (fun H hO hS=>⟨a,ns,rfl,hS,hlen,fun _=>rfl⟩) fun H e s' z=>z
end Bd
namespace L2
open PySem PySem.Spec PyProof PyProof.Rows
theorem zfA{a:Addr}{ep:Nat}:ZDO a [] ep=KDO a [] ep:=by
 unfold ZDO KDO;congr 1
 funext h
 have e:∀l:List DictEntry,Paired entZ [] l↔Paired entI [] l:=fun l=>⟨fun h=>by cases h;exact .nil,fun h=>by cases h;exact .nil⟩
 simp only[e,List.map_nil,List.length_nil,List.nodup_nil]
theorem zdG:∀{ks ls:List (Int×PyData)},Jx ks=Jx ls->ks=ls
 | [],[],_=>rfl
 | [],_::_,e=>by cases e
 | _::_,[],e=>by cases e
 | (a,b)::ks,(c,d)::ls,e=>by
  have h:=List.cons.inj (show(PyData.int a,b)::Jx ks=(PyData.int c,d)::Jx ls from e)
  have h1:=Prod.mk.inj h.1;rw[PyData.int.inj h1.1,h1.2,zdG h.2]
theorem zgN{ks:KT2}{ls:List (Int×PyData)}(e:QN ks=Jx ls):ks=[]/\ls=[]:=by
 cases ks with
 | nil=>cases ls with
  | nil=>exact⟨rfl,rfl⟩
  | cons _ _=>cases e
 | cons a ks=>cases ls with
  | nil=>cases e
  | cons b ls =>
   have h:=(Prod.mk.inj (List.cons.inj (show(blkT a.1,a.2)::QN ks=(PyData.int b.1,b.2)::Jx ls from e)).1).1
   cases h
section
variable{K:qF}{hd:Option Addr}{O:Addr->Prop}{H:Hp}
theorem Rep.dcI{v:V}{ks:List (Int×PyData)}(h:Rep K hd O H v (.dict (Jx ks))):∃a zs ep,v=.ref a/\H a=some (KDO a zs ep)/\¬O a/\RepsK K hd O H zs ks:=by
 generalize e:PyData.dict (Jx ks)=t at h;cases h with
 | @dct a ep h o =>
  have e:=PyData.dict.inj e;cases ks with
  | nil=>exact⟨a,[],ep,rfl,h,o,.nil⟩
  | cons _ _=>cases e
 | @dcK a kvs ep ks' ps h o r e' =>
  have e:=PyData.dict.inj e;rw[e']at e;rw[zdG e];exact⟨a,kvs,ep,rfl,h,o,r⟩
 | @dcT a zs ep ks' ps h o r e' =>
  have e:=PyData.dict.inj e;rw[e']at e;obtain⟨rfl,rfl⟩:=zgN e.symm;cases r;exact⟨a,[],ep,rfl,by rw[<- zfA];exact h,o,.nil⟩
 | hand _=>exact(QF (PyData.dict.inj e).symm).elim
 | scr _ _=>exact(QF (PyData.dict.inj e).symm).elim
 | scrS _=>exact(QF (PyData.dict.inj e).symm).elim
 | _=>cases e
theorem RepsK.length{zs:List (Int×V)}{ks:List (Int×PyData)}(h:RepsK K hd O H zs ks):zs.length=ks.length:=by
 induction zs generalizing ks with
 | nil=>cases h;rfl
 | cons z zs ih=>cases h with|cons h r=>simp[ih r]
theorem RepsK.keys{zs:List (Int×V)}{ks:List (Int×PyData)}(h:RepsK K hd O H zs ks):zs.map (·.1)=ks.map (·.1):=by
 induction zs generalizing ks with
 | nil=>cases h;rfl
 | cons z zs ih=>cases h with|cons h r=>simp[ih r]
end
def kI(z:Int×V):Key×V:=(.inl z.1,z.2)
section
variable{X:Cx}{pins:qO}{σ:St}{H:Hp}{s:Shared}{a:Addr}{zs:List (Int×V)}{ep:Nat}{A:Around}{E:qV}
theorem zkJ{P:Program}{w:World}{es:List DictEntry}(r:Paired entI zs es):∃vs:List (Key×Value),KV (zs.map kI) vs/\Pairs (JA P w) es vs/\∀e∈es,∃k,(JA P w).is k e.key=true/\e.hash=(JA P w).hash k:=by
 induction r with
 | nil=>exact⟨[],.nil,.nil,fun _ h=>nomatch h⟩
 | @cons z e zs es h t ih =>
  obtain⟨vs,v1,v2,v3⟩:=ih;obtain⟨h1,⟨t,h2⟩,h3⟩:=h;have hk:(JA P w).is (.inl z.1) e.key=true:=by rw[h2];exact zbC _ _ _ _
  refine⟨(.inl z.1,e.val)::vs,.cons ⟨rfl,h3⟩ v1,.cons hk rfl v2,fun e' he=>?_⟩
  rcases List.mem_cons.mp he with rfl|he
  ·exact⟨_,hk,h1⟩
  ·exact v3 e' he
theorem zeI{vs:List (Key×Value)}(r:KV (zs.map kI) vs):vs.map (·.1)=(zs.map (·.1)).map Sum.inl:=by
 induction zs generalizing vs with
 | nil=>cases r;rfl
 | cons z zs ih =>
  cases r with
  | cons h t=>rw[List.map_cons,ih t,<- h.1];rfl
theorem UH(I:Inv X pins σ H s)(h:H a=some (KDO a zs ep)):(a == sysModules)=false/\zs.length<=sizeLine/\∃vs,KV (zs.map kI) vs/\s.heap.DictAt (JA X.prog X.w) a vs ep:=by
 obtain⟨⟨hs,lz,nd,o,es,g1,g2,g3,pr⟩,_⟩:=I.hok a _ h;obtain⟨vs,v1,v2,v3⟩:=zkJ (P:=X.prog) (w:=X.w) pr;refine⟨hs,lz,vs,v1,o,es,g1,g2,g3,fun e he=>v3 e (by simpa using he),v2,?_⟩
 rw[zeI v1];exact List.Pairwise.map _ (fun _ _ n z=>n (Sum.inl.inj z)) nd
theorem zlA{P:Program}{w:World}{es:List DictEntry}{vs:List (Key×Value)}(r:KV (zs.map kI) vs)(p:Pairs (JA P w) es vs)(hk:∀e∈es,∃k,(JA P w).is k e.key=true/\e.hash=(JA P w).hash k):Paired entI zs es:=by
 induction zs generalizing vs es with
 | nil=>cases r;cases p;exact .nil
 | cons z zs ih =>
  cases r with
  | @cons _ kv _ kvs h t =>
   cases p with
   | @cons e _ es _ h1 h2 p =>
    obtain⟨q1,q2⟩:=h;have q1':kv.1=Sum.inl z.1:=q1.symm;refine .cons ?_ (ih t p fun e he=>hk e (List.mem_cons_of_mem _ he))
    obtain⟨k,k1,k2⟩:=hk e (List.mem_cons_self ..);rw[q1']at h1;have ek:=(JA P w).inj _ _ _ k1 h1;subst ek;rcases JY (show Qk (.inl z.1) e.key=true from h1) with⟨i,t,e1,e2⟩|⟨x,t,e1,_⟩
    ·cases e1;exact⟨k2,⟨t,e2⟩,by rw[h2];exact q2⟩
    ·cases e1
theorem zkO{H':Hp}{h':Heap}{vs:List (Key×Value)}(hs:(a == sysModules)=false)(lz:zs.length<=sizeLine)(r:KV (zs.map kI) vs)(dd:h'.DictOf (JA X.prog X.w) a vs):∃ep,JF X.prog X.w H' h' a (KDO a zs ep):=by
 obtain⟨o,es,ep,g1,g2,g3,g4,g5,g6⟩:=dd;refine⟨ep,⟨hs,lz,?_,o,es,g1,g2,g3,zlA r g5 fun e he=>g4 e (by simpa using he)⟩,⟨o,g1⟩,?_⟩
 ·rw[zeI r]at g6;exact(List.pairwise_map.mp g6).imp fun n z=>n (by rw[z])
 ·rintro h1 h2 ⟨x1,x2,x3,o,es,y1,y2⟩ k;exact⟨x1,x2,x3,o,es,k o y1,y2⟩
def putJ{α:Type}(ks:List (Int×α))(k:Int)(v:α):List (Int×α):=if (ks.any fun q=>decide (q.1=k))=true then ks.map (fun q=>if q.1=k then(q.1,v) else q) else ks++[(k,v)]
def mkJ{α:Type}(ks:List (Int×α)):List (Int×α):=ks.foldl (fun acc q=>putJ acc q.1 q.2) []
theorem zcq{α:Type}:∀(ks acc:List (Int×α)),((acc++ks).map (·.1)).Nodup->ks.foldl (fun acc q=>putJ acc q.1 q.2) acc=acc++ks
 | [],acc,_=>by simp
 | q::ks,acc,h=>by
  have hn:(acc.any fun r=>decide (r.1=q.1))=false:=by
   rw[List.any_eq_false];intro r hr z;rw[List.map_append,List.nodup_append]at h;exact h.2.2 r.1 (List.mem_map_of_mem hr) q.1 (by simp) (of_decide_eq_true z)
  have e:putJ acc q.1 q.2=acc++[q]:=by
   unfold putJ;rw[hn]
   rfl
  rw[List.foldl_cons,e,zcq ks (acc++[q]) (by simpa using h)]
  simp
theorem zga{α:Type}{ks:List (Int×α)}(h:(ks.map (·.1)).Nodup):mkJ ks=ks:=by
 unfold mkJ;rw[zcq ks [] (by simpa using h)]
 rfl
theorem zj7(acc:List (Int×V))(k:Int)(v:V):putK (acc.map kI) (.inl k) v=(putJ acc k v).map kI:=by
 have e:((acc.map kI).any fun kv=>decide (kv.1=(Sum.inl k:Key)))=acc.any fun q=>decide (q.1=k):=by
  rw[List.any_map];congr 1
  funext q
  show decide ((Sum.inl q.1:Key)=Sum.inl k)=decide (q.1=k)
  rw[zgo];rfl
 unfold putK putJ;rw[e];split
 ·rw[List.map_map,List.map_map];refine List.map_congr_left fun q _=>?_
  show(if (Sum.inl q.1:Key)=Sum.inl k then((Sum.inl q.1:Key),v) else kI q)=kI (if q.1=k then(q.1,v) else q)
  by_cases h:q.1=k
  ·rw[if_pos h,if_pos (by rw[h])];rfl
  ·rw[if_neg h,if_neg fun z=>h (Sum.inl.inj z)]
 ·rw[List.map_append];rfl
theorem zky:∀(zs acc:List (Int×V)),(zs.map kI).foldl (fun acc z=>putK acc z.1 z.2) (acc.map kI)=(zs.foldl (fun acc q=>putJ acc q.1 q.2) acc).map kI
 | [],acc=>rfl
 | z::zs,acc=>by
  rw[List.map_cons,List.foldl_cons,List.foldl_cons,<- zky zs];exact congrArg (fun q=>(zs.map kI).foldl (fun acc z=>putK acc z.1 z.2) q) (zj7 acc z.1 z.2)
theorem zdE:∀(zs acc:List (Int×V)),(zs.foldl (fun acc q=>putJ acc q.1 q.2) acc).length<=acc.length+zs.length
 | [],acc=>by simp
 | z::zs,acc=>by
  have:=zdE zs (putJ acc z.1 z.2);have h2:(putJ acc z.1 z.2).length<=acc.length+1:=by
   unfold putJ;split
   ·simp
   ·simp
  rw[List.foldl_cons,List.length_cons];lia
theorem zfy(hc:X.calm=true):JB X (.type "dict") (fun xs H Q=>∃(p:Addr) (vs:List V) (zs:List (Int×V)),xs=[.ref p]/\H p=some (.lst vs)/\Paired (fun(v:V) (z:Int×V)=>∃a,v=.ref a/\SqT X.K H a [.int z.1,z.2]) vs zs/\∀q ep,H q=none->Q (.ref q) (upd H q (KDO q (mkJ zs) ep))):=by
 intro pins s σ H xs us Q I r h;obtain⟨p,vs,zs,rfl,hp,pr,q⟩:=h;obtain⟨u,rfl,ru⟩:=r.one;cases(show u=Value.ref p from ru)
 obtain⟨z,its,n,rel,e⟩:=I.hok p _ hp;have pr':Paired (fun(v:V) (z:Key×V)=>∃a,v=.ref a/\SqT X.K H a [kV z.1,z.2]) vs (zs.map kI):=by
  clear q hp rel e z;induction pr with
  | nil=>exact .nil
  | cons h t ih=>exact .cons h ih
 obtain⟨ps,k1,k2⟩:=zeB I rel pr';have lp:=Paired.length pr;have lz:ps.length<=sizeLine:=by
  have e1:=k1.length;have e2:=Paired.length pr';lia
 refine zcH (knd:=JA X.prog X.w) (ps:=ps) e rfl rfl rfl (I.ok.hd hc) (by simpa using k2) lz fun h' tk kp dd=>?_
 have hb:(s.heap.objs.size == sysModules)=false:=beq_eq_false_iff_ne.mpr (Ne.symm (Nat.ne_of_lt I.bigM));have kk:=zgm k1 .nil;rw[show((zs.map kI).foldl (fun acc z=>putK acc z.1 z.2) [])=(mkJ zs).map kI from zky zs []]at kk
 have l3:(mkJ zs).length<=zs.length:=by simpa[mkJ] using zdE zs []
 obtain⟨ep,ok⟩:=zkO (X:=X) (H':=H) (zs:=mkJ zs) hb (by lia) kk dd
 exact⟨.ref s.heap.objs.size,_,I.laid (a:=s.heap.objs.size) (o:=KDO s.heap.objs.size (mkJ zs) ep) (t':=tk) (fun b o ho=>kp b o ho) (Nat.le_refl _) ok,rfl,q _ ep (I.hok.fresh (Nat.le_refl _))⟩
end
def prI(q:Int×PyData):PyData:=.tuple [.int q.1,q.2]
section
variable{K:qF}{hd:Option Addr}{O:Addr->Prop}{H:Hp}
theorem zew:∀{vs:List V}{ks:List (Int×PyData)},Reps K hd O H vs (ks.map prI)->∃zs:List (Int×V),Paired (fun(v:V) (z:Int×V)=>∃a,v=.ref a/\SqT K H a [.int z.1,z.2]) vs zs/\RepsK K hd O H zs ks
 | _,[],r=>by cases r;exact⟨[],.nil,.nil⟩
 | _,a::ks,r=>by
  cases r with
  | cons h r =>
   obtain⟨zs,z1,z2⟩:=zew r;obtain⟨b,ws,rfl,sq,rp⟩:=h.tupI;cases rp with
   | cons x1 x2 =>
    cases x2 with
    | cons x3 x4 =>
     cases x4;have:=x1.intI;subst this;exact⟨(a.1,_)::zs,.cons ⟨b,rfl,sq⟩ z1,.cons x3 z2⟩
theorem RepsK.snoc{k:Int}{v:V}{d:PyData}:∀{zs:List (Int×V)}{ks:List (Int×PyData)},RepsK K hd O H zs ks->Rep K hd O H v d->RepsK K hd O H (zs++[(k,v)]) (ks++[(k,d)])
 | _,_,.nil,h=>.cons h .nil
 | _,_,.cons h r,h2=>.cons h (r.snoc h2)
theorem RepsK.putJ{zs:List (Int×V)}{ks:List (Int×PyData)}(r:RepsK K hd O H zs ks)(k:Int){v:V}{d:PyData}(h:Rep K hd O H v d):RepsK K hd O H (putJ zs k v) (putJ ks k d):=by
 have ea:(zs.any fun q=>decide (q.1=k))=ks.any fun q=>decide (q.1=k):=by
  have e1:(zs.any fun z=>decide (z.1=k))=(zs.map (·.1)).any fun z=>decide (z=k):=by rw[List.any_map];rfl
  have e2:(ks.any fun z=>decide (z.1=k))=(ks.map (·.1)).any fun z=>decide (z=k):=by rw[List.any_map];rfl
  rw[e1,e2,r.keys]
 unfold L2.putJ;rw[ea];split
 ·rename_i e;clear e ea;induction zs generalizing ks with
  | nil=>cases r;exact .nil
  | cons y zs ih =>
   cases r with
   | @cons k' v' d' zs ks h1 r =>
    rw[List.map_cons,List.map_cons];dsimp only
    by_cases e:k'=k
    ·rw[if_pos e,if_pos e];exact .cons h (ih r)
    ·rw[if_neg e,if_neg e];exact .cons h1 (ih r)
 ·exact r.snoc h
theorem RepsK.foldJ:∀{zs:List (Int×V)}{ks:List (Int×PyData)}{zs':List (Int×V)}{ks':List (Int×PyData)},RepsK K hd O H zs ks->RepsK K hd O H zs' ks'->RepsK K hd O H (zs.foldl (fun acc q=>L2.putJ acc q.1 q.2) zs') (ks.foldl (fun acc q=>L2.putJ acc q.1 q.2) ks')
 | _,_,_,_,.nil,a=>a
 | _,_,_,_,.cons (kvs:=zs) (ks:=ks) h r,a=>RepsK.foldJ (zs:=zs) (ks:=ks) r (a.putJ _ h)
theorem RepT.dcI{v:V}{ks:List (Int×PyData)}(h:RepT K hd O H v (.dict (Jx ks))):∃a zs ep,v=.ref a/\H a=some (KDO a zs ep)/\RepsK K hd O H zs ks:=by
 rcases h with h|⟨p,vs,ds,rfl,et,h1,h2,nh⟩|⟨p,zs,ep,ks',rfl,et,h1,h2,nh⟩
 ·obtain⟨a,zs,ep,e,h1,_,h2⟩:=h.dcI;exact⟨a,zs,ep,e,h1,h2⟩
 ·cases et
 ·obtain⟨rfl,rfl⟩:=zgN (PyData.dict.inj et).symm;cases h2;exact⟨p,[],ep,rfl,by rw[<- zfA];exact h1,.nil⟩
end
section
variable{X:Cx}{e:Expr}{d:DTA}{pos p p2 cp:Pos}{k:Nat}
def ziu(d:DTA):DTE:=fun ρ n R=>d ρ n fun ts n1=>∃ks:List (Int×PyData),ts=ks.map prI/\R (.dict (Jx (mkJ ks))) n1
theorem zhT(hc:X.calm=true)(hmd:X.mg "dict" = none) (h:DN X e d) (hst:starEach [e] X.env=[(false,eval e X.env)]:=by rfl) (hgd:Gl X "dict":=by rfl) :
  DE X (.Call (.Name "dict" p2) [e] [] cp) (ziu d):=by
 obtain⟨ta,pa,h⟩:=h;refine⟨_,zds (zfy hc) hgd hmd rfl (Qc pa QU hst) (he:=hst),fun C ρ σ H n Q R S hd hq=>?_⟩
 refine h C ρ σ H n _ _ S hd fun ts n1 p vs H1 ⟨ks,ets,r⟩ e1 hn1 hp0 hp rp=>?_
 subst ets;obtain⟨zs,z1,z2⟩:=zew rp;refine⟨p,vs,zs,rfl,hp,z1,fun l ep hl=>?_⟩
 have S1:=S.on e1 hn1;have rk:RepsK X.K C.hd (fun a=>Own C ρ σ a\/a=p) H1 (mkJ zs) (mkJ ks):=z2.foldJ .nil
 exact hq _ n1 _ _ r (e1.trans (ExtE.new hl)) (hn1.same (J4 hl)) (.dcK JC (S1.free hl) (RepsK.mono (fun _ _ _ z=>.inl z) (fun b o _ hb=>J4 hl b o hb) rk) rfl)
def rInI:R2:=fun x y H Q=>∃i a zs ep,x=.int i/\y=.ref a/\H a=some (KDO a zs ep)/\Q (.bl (zs.any fun q=>decide (q.1=i))) H
theorem zjH(zs:List (Int×V))(i:Int):(valV (zs.map kI) (.inl i)).isSome=zs.any fun q=>decide (q.1=i):=by
 unfold valV;rw[Option.isSome_map];induction zs with
 | nil=>rfl
 | cons z zs ih =>
  rw[List.map_cons,List.find?_cons,List.any_cons];have e:decide ((kI z).1=Sum.inl i)=decide (z.1=i):=by
   show decide ((Sum.inl z.1:Key)=Sum.inl i)=_
   rw[zgo];rfl
  rw[e];cases decide (z.1=i)
  ·exact ih
  ·rfl
theorem zkt:OpR X (compareOp .In) rInI:=by
 intro pins s σ H x y v u Q I rx ry h;obtain⟨i,a,zs,ep,rfl,rfl,ha,q⟩:=h;obtain⟨t,rfl⟩:=rx;cases(show u=Value.ref a from ry)
 obtain⟨hs,lz,vs,rel,dd⟩:=UH I ha;refine wpAny_in_of (k:=(Sum.inl i:Key)) (zbC X.prog X.w i t) hs dd.dictOf.mapOf ?_;rw[<- (rel.val (.inl i)).isSome_eq,zjH];exact⟨.bl _,H,I.tok _,rfl,q⟩
def oInI:G2:=fun x y R=>∃i ks,x=.int i/\y=.dict (Jx ks)/\R (.bool (ks.any fun q=>decide (q.1=i)))
theorem zlm:Gp2 X rInI oInI:=by
 intro hd O H x y t u Q R dom rx ry h hq;obtain⟨i,ks,rfl,rfl,r⟩:=h;obtain⟨a,zs,ep,rfl,ha,rk⟩:=ry.dcI;refine⟨i,a,zs,ep,rx.intI,rfl,ha,?_⟩;have ea:(zs.any fun q=>decide (q.1=i))=ks.any fun q=>decide (q.1=i):=by
  have e1:(zs.any fun z=>decide (z.1=i))=(zs.map (·.1)).any fun z=>decide (z=i):=by rw[List.any_map];rfl
  have e2:(ks.any fun z=>decide (z.1=i))=(ks.map (·.1)).any fun z=>decide (z=i):=by rw[List.any_map];rfl
  rw[e1,e2,rk.keys]
 rw[ea];exact hq _ _ H r (Same.refl H) (.bl _)
theorem znd{i:Int}{ks:List (Int×PyData)}{R:PyData->Prop}(h:R (.bool (ks.any fun q=>decide (q.1=i)))):oInI (.int i) (.dict (Jx ks)) R:=⟨i,ks,rfl,rfl,h⟩
theorem zdR:JB X (.builtin "len") (fun xs H Q=>∃a zs ep,xs=[.ref a]/\H a=some (KDO a zs ep)/\Q (.int zs.length) H):=by
 intro pins s σ H xs us Q I r h;obtain⟨a,zs,ep,rfl,ha,q⟩:=h;obtain⟨u,rfl,rx⟩:=vals1 r;cases rx;obtain⟨⟨hs,lz,nd,o,es,g1,g2,g3,pr⟩,_⟩:=I.hok a _ ha;have el:es.size=zs.length:=by have:=Paired.length pr;simpa using this.symm
 refine ziI (es:=es) (ep:=ep) hs ⟨o,g1,g2,g3⟩ (by lia) fun t tk=>⟨.int zs.length,H,I.tok tk,⟨t,by rw[el]⟩,q⟩
def zlM:GC:=fun ts R=>∃ks,ts=[.dict (Jx ks)]/\R (.int ks.length)
theorem zgD:GpC X (fun xs H Q=>∃a zs ep,xs=[.ref a]/\H a=some (KDO a zs ep)/\Q (.int zs.length) H) zlM:=by
 intro hd O H xs ts Q R dom rs h hq;obtain⟨ks,rfl,r⟩:=h;obtain⟨v,rfl,rv⟩:=Qq rs;obtain⟨a,zs,ep,rfl,ha,rk⟩:=rv.dcI;exact⟨a,zs,ep,rfl,ha,by rw[rk.length];exact hq _ _ H r (Same.refl H) (.int _)⟩
theorem zih{ks:List (Int×PyData)}{R:PyData->Prop}(h:R (.int ks.length)):zlM [.dict (Jx ks)] R:=⟨ks,rfl,h⟩
def Iti(a:Addr)(zs:List (Int×V))(ep:Nat):It :=
 ⟨fun i H=>H a=some (KDO a zs ep)/\i<zs.length,fun i H x H'=>H'=H/\∃z,zs[i]?=some z/\x=.int z.1,fun i H=>H a=some (KDO a zs ep)/\zs.length<=i⟩
theorem zi9{zs:List (Int×V)}{vs:List (Key×Value)}(r:KV (zs.map kI) vs){i:Nat}{z:Int×V}(h:zs[i]?=some z):∃u,vs[i]?=some (.inl z.1,u):=by
 induction zs generalizing vs i with
 | nil=>simp at h
 | cons y zs ih =>
  cases r with
  | cons h1 t =>
   rename_i b l2;cases i with
   | zero=>simp at h;subst h;exact⟨b.2,by have:=h1.1;cases b;simp only[List.getElem?_cons_zero];dsimp only at this;rw[<- this];rfl⟩
   | succ i=>simpa using ih t (by simpa using h)
theorem zfE{P:Program}{w:World}{K:qF}{tg:Expr}(a it:Addr)(zs:List (Int×V))(ep:Nat):Turn P w K tg (Iti a zs ep) [it] it (fun i h=>h.IsKeyIter it a i zs.length ep) where
 mem:=by simp
 obj:=fun i h st b hb=>by
  have e:b=it:=by simpa using hb
  subst e;obtain⟨o,e,c,d⟩:=st;exact⟨o,e,fun v z=>by rw[d]at z;cases z⟩
 keep:=fun i h h' st k=>by
  obtain⟨o,e,r⟩:=st;exact⟨o,k it (by simp) o e,r⟩
 item:=by
  intro X hP hw hK hc i pins s σ H E I hf st hg;subst hP hw hK;obtain⟨ha,hi⟩:=hg;obtain⟨hs,lz,vs,rel,dd⟩:=UH I ha;have hx:zs[i]?=some zs[i]:=List.getElem?_eq_getElem hi;obtain⟨u,hu⟩:=zi9 rel hx;have el:vs.length=zs.length:=by have:=rel.length;simpa using this.symm
  obtain⟨f0,f1,f2,f3,f4,f5⟩:=hf it (by simp)
  refine wpAny_pyNext_dict_item (by rw[el];exact st) dd hu fun key h' hk st' sb=>?_
  rw[el]at st';have I1:Inv X pins σ H { s with heap:=h' }:=I.turned (t':=s.toks) (fun b o hb e=>(sb.2 b hb).trans e) f0 f1 f3 f4 f5
  obtain⟨o,e,c,d⟩:=id st';rcases JY (show Qk (.inl zs[i].1) key=true from hk) with⟨j,t,e1,e2⟩|⟨x,t,e1,_⟩
  ·cases e1;subst e2;exact⟨_,rfl,Q6 (s:={ s with heap:=h' }) e c d (by decide) ⟨.int zs[i].1,H,I1,⟨t,rfl⟩,⟨rfl,zs[i],hx,rfl⟩,st',fun b hb=>(hf b hb).1⟩⟩
  ·cases e1
 done:=by
  intro X hP hw hK hc i pins s σ H E I hf st hg;subst hP hw hK;obtain⟨ha,hi⟩:=hg;obtain⟨hs,lz,vs,rel,dd⟩:=UH I ha;have el:vs.length=zs.length:=by have:=rel.length;simpa using this.symm
  obtain⟨f0,f1,f2,f3,f4,f5⟩:=hf it (by simp)
  exact wpAny_pyNext_dict_end (I.ok.hd hc) (by rw[el];exact st) dd (List.getElem?_eq_none (by lia)) fun h' eb=>⟨rfl,I.turned (t':=s.toks) (fun b o hb e=>eb b o hb e) f0 f1 f3 f4 f5⟩
 self:=fun _ _ _ _ _ st h=>wpAny_pyIter_keyiter st h
variable{tg iter:Expr}{dd:DTE}
def znl(tl:TE):TI:=fun σ H R=>tl σ H fun x H1=>∃a zs ep,x=.ref a/\H1 a=some (KDO a zs ep)/\R (Iti a zs ep) H1
theorem ziR{l:Expr}{tl:TE}(hl:PE X l tl):PI X tg l (znl tl):=by
 intro pins s σ H R I h;refine thn (hl pins s σ H _ I h) fun v s1 ⟨x,H1,I1,r1,q1⟩=>?_
 obtain⟨a,zs,ep,e,ha,q⟩:=q1;subst e;cases r1;obtain⟨hs,lz,vs,rel,dd⟩:=UH I1 ha;have el:vs.length=zs.length:=by have:=rel.length;simpa using this.symm
 refine wpAny_pyIter_dict hs dd ?_;rw[el];refine⟨s1.heap.objs.size,[s1.heap.objs.size],_,_,H1,rfl,I1.kept (t':=s1.toks) fun b o e=>Heap.get?_push_of_some _ e,zfE a _ zs ep,⟨_,Heap.get?_push_size _ rfl,rfl,rfl⟩,fun b hb=>?_,q⟩
 have e:b=s1.heap.objs.size:=by simpa using hb
 subst e;exact I1.fpOk (Nat.le_refl _) (I1.hok.fresh (Nat.le_refl _))
def dItI(d:DTE):DTA:=fun ρ n R=>d ρ n fun t n'=>∃ks,t=.dict (Jx ks)/\R (ks.map fun q=>.int q.1) n'
theorem zjr(h:DE X iter dd):DI X tg iter (dItI dd):=by
 obtain⟨ta,pa,h⟩:=h;refine⟨_,ziR pa,fun C ρ σ H n Q R S hd hq=>?_⟩
 refine h C ρ σ H n _ _ S hd fun t n' v H' ⟨ks,et,r⟩ e1 hn q=>?_
 subst et;obtain⟨a,zs,ep,rfl,ha,no,rk⟩:=q.dcI;refine⟨a,zs,ep,rfl,ha,hq _ n' _ H' r e1 hn ?_⟩;intro O2 H2 h1 h2 _;have ha2:=h1 a _ ha no;refine⟨fun i t et=>?_,⟨ha2,by rw[List.length_map,rk.length];exact Nat.le_refl _⟩⟩
 rw[List.getElem?_map]at et;obtain⟨q,hq',eq⟩:=Option.map_eq_some_iff.mp et;have hi:i<zs.length:=by rw[rk.length];exact(List.getElem?_eq_some_iff.mp hq').1
 refine⟨⟨ha2,hi⟩,fun x H3 hy=>?_⟩
 obtain⟨rfl,z,hz,rfl⟩:=hy;have ek:(zs.map (·.1))[i]?=(ks.map (·.1))[i]?:=by rw[rk.keys]
 rw[List.getElem?_map,List.getElem?_map,hz,hq']at ek;have ek:z.1=q.1:=Option.some.inj ek;refine⟨Same.refl _,?_⟩;rw[<- eq,ek];exact .int _
instance zmB {d:DTA}{ρ:En}{n:Nat}{R:qN}:Stp (ziu d ρ n R) (d ρ n fun ts n1=>∃ks:List (Int×PyData),ts=ks.map prI/\R (.dict (Jx (mkJ ks))) n1):=⟨fun h=>h⟩
instance znH {d:DTE}{ρ:En}{n:Nat}{R:List PyData->Nat->Prop}:Stp (dItI d ρ n R) (d ρ n fun t n'=>∃ks,t=.dict (Jx ks)/\R (ks.map fun q=>.int q.1) n'):=⟨fun h=>h⟩
end
def kJ(ns:List Int):List (Int×PyData):=ns.map fun i=>(i,.bool true)
theorem zlN{ns:List Int}{i:Int}:((kJ ns).any fun q=>decide (q.1=i))=decide (i∈ns):=by
 unfold kJ;rw[List.any_map];rw[Bool.eq_iff_iff,List.any_eq_true,decide_eq_true_eq];constructor
 ·rintro⟨x,hx,e⟩;have:=of_decide_eq_true e;subst this;exact hx
 ·intro h;exact⟨i,h,decide_eq_true rfl⟩
theorem zgt{ns:List Int}:(kJ ns).length=ns.length:=by simp[kJ]
theorem zmQ{ns:List Int}(h:ns.Nodup):mkJ (kJ ns)=kJ ns:=zga (by
 have:(kJ ns).map (·.1)=ns:=by simp[kJ,Function.comp_def]
 rw[this];exact h)
def InS(ns:List Int)(b:Int×Int):Prop:=∀x,b.1<=x->x<eB b->x∈ns
structure AllI(bits:Int)(ns:List Int)(g j:Int)(fs:qB):Prop where
 bk:Bks bits fs
 nd:fs.Nodup
 lo:∀b∈fs,b.2<g\/(b.2=g/\b.1<j*2 ^ g.toNat)
 ins:∀b∈fs,InS ns b
 all:∀b,IsBk bits b.1 b.2->InS ns b->(b.2<g\/(b.2=g/\b.1<j*2 ^ g.toNat))->b∈fs
theorem AllI.start{bits:Int}{ns:List Int}:AllI bits ns 0 0 [] where
 bk:=fun b h=>nomatch h
 nd:=.nil
 lo:=fun b h=>nomatch h
 ins:=fun b h=>nomatch h
 all:=fun b B _ h=>by
  have:=B.1;rcases h with h|⟨h1,h2⟩
  ·lia
  ·obtain⟨_,_,k,k0,e,_⟩:=B;have:0<=k*2 ^ b.2.toNat:=Int.mul_nonneg k0 (Int.le_of_lt (Bd.zaf _));lia
theorem AllI.step{bits:Int}{ns:List Int}{g j:Int}{fs:qB}(I:AllI bits ns g j fs){b:Int×Int}(B:IsBk bits b.1 b.2)(h:b.2<g\/(b.2=g/\b.1<(j+1)*2 ^ g.toNat))(hn:¬(b.2<g\/(b.2=g/\b.1<j*2 ^ g.toNat))):b=(j*2 ^ g.toNat,g):=by
 have e2:b.2=g:=by lia
 obtain⟨_,_,k,k0,e,_⟩:=B;rw[e2]at e;have pg:=Bd.zaf g.toNat;have h1:k*2 ^ g.toNat<(j+1)*2 ^ g.toNat:=by lia
 have h2:¬k*2 ^ g.toNat<j*2 ^ g.toNat:=by lia
 have k1:k<j+1:=Int.lt_of_mul_lt_mul_right h1 (Int.le_of_lt pg);have k2:¬k<j:=fun z=>h2 (Int.mul_lt_mul_of_pos_right z pg)
 have:k=j:=by lia
 subst this;exact Prod.ext e e2
theorem AllI.add{bits:Int}{ns:List Int}{g j:Int}{fs:qB}(I:AllI bits ns g j fs)(B:IsBk bits (j*2 ^ g.toNat) g)(h:InS ns (j*2 ^ g.toNat,g)):AllI bits ns g (j+1) (fs++[(j*2 ^ g.toNat,g)]) where
 bk:=I.bk.app B
 nd:=by
  rw[List.nodup_append];refine⟨I.nd,List.nodup_cons.mpr ⟨by simp,.nil⟩,fun a ha b hb e=>?_⟩
  subst e;cases List.mem_singleton.mp hb;have:=I.lo _ ha;dsimp only at this;lia
 lo:=fun b hb=>by
  have pg:=Bd.zaf g.toNat;have e:(j+1)*2 ^ g.toNat=j*2 ^ g.toNat+2 ^ g.toNat:=by rw[Int.add_mul,Int.one_mul]
  rcases List.mem_append.mp hb with hb|hb
  ·rcases I.lo b hb with z|z
   ·exact .inl z
   ·exact .inr ⟨z.1,by lia⟩
  ·cases List.mem_singleton.mp hb;exact .inr ⟨rfl,by dsimp only;lia⟩
 ins:=fun b hb=>by
  rcases List.mem_append.mp hb with hb|hb
  ·exact I.ins b hb
  ·cases List.mem_singleton.mp hb;exact h
 all:=fun b Bb hb z=>by
  by_cases hn:b.2<g\/(b.2=g/\b.1<j*2 ^ g.toNat)
  ·exact List.mem_append_left _ (I.all b Bb hb hn)
  ·rw[I.step Bb z hn];simp
theorem AllI.skip{bits:Int}{ns:List Int}{g j:Int}{fs:qB}(I:AllI bits ns g j fs)(h:¬InS ns (j*2 ^ g.toNat,g)):AllI bits ns g (j+1) fs where
 bk:=I.bk
 nd:=I.nd
 lo:=fun b hb=>by
  have pg:=Bd.zaf g.toNat;have e:(j+1)*2 ^ g.toNat=j*2 ^ g.toNat+2 ^ g.toNat:=by rw[Int.add_mul,Int.one_mul]
  rcases I.lo b hb with z|z
  ·exact .inl z
  ·exact .inr ⟨z.1,by lia⟩
 ins:=I.ins
 all:=fun b Bb hb z=>by
  by_cases hn:b.2<g\/(b.2=g/\b.1<j*2 ^ g.toNat)
  ·exact I.all b Bb hb hn
  ·rw[I.step Bb z hn]at hb;exact absurd hb h
theorem AllI.up{bits:Int}{ns:List Int}{g j:Int}{fs:qB}(I:AllI bits ns g j fs)(g0:0<=g)(hj:j=2 ^ (bits - g).toNat):AllI bits ns (g+1) 0 fs where
 bk:=I.bk
 nd:=I.nd
 lo:=fun b hb=>by
  rcases I.lo b hb with z|z
  ·exact .inl (by lia)
  ·exact .inl (by lia)
 ins:=I.ins
 all:=fun b Bb hb z=>by
  refine I.all b Bb hb ?_;obtain⟨b0,b1,k,k0,e,k1⟩:=Bb;rcases z with z|⟨z1,z2⟩
  ·by_cases e2:b.2=g
   ·refine .inr ⟨e2,?_⟩;rw[e,e2,hj];rw[e2]at k1;exact Int.mul_lt_mul_of_pos_right k1 (Bd.zaf _)
   ·exact .inl (by lia)
  ·have:0<=k*2 ^ b.2.toNat:=Int.mul_nonneg k0 (Int.le_of_lt (Bd.zaf _));lia
def b15:List (Int×Int):=[(0,0),(1,0),(2,0),(3,0),(4,0),(5,0),(6,0),(7,0),(0,1),(2,1),(4,1),(6,1),(0,2),(4,2),(0,3)]
theorem zi2{bits:Int}(b0:0<=bits)(b3:bits<=3){b:Int×Int}(B:IsBk bits b.1 b.2):b∈b15:=by
 obtain⟨i,h⟩:=b;have bd:=B.bounds b0;obtain⟨h0,h1,k,k0,e,_⟩:=B;dsimp only at *;have pb:(2:Int) ^ bits.toNat<=8:=by
  have:bits=0\/bits=1\/bits=2\/bits=3:=by lia
  rcases this with rfl|rfl|rfl|rfl <;> decide
 have:h=0\/h=1\/h=2\/h=3:=by lia
 have fin:∀(w:Int),i=k*w->w=1\/w=2\/w=4\/w=8->i+w<=8->(w=1->h=0)->(w=2->h=1)->(w=4->h=2)->(w=8->h=3)->(i,h)∈b15:=by
  intro w e hw hb w1 w2 w4 w8;rcases hw with rfl|rfl|rfl|rfl
  ·have:=w1 rfl;subst this;have:i=0\/i=1\/i=2\/i=3\/i=4\/i=5\/i=6\/i=7:=by lia
   rcases this with rfl|rfl|rfl|rfl|rfl|rfl|rfl|rfl <;> decide
  ·have:=w2 rfl;subst this;have:i=0\/i=2\/i=4\/i=6:=by lia
   rcases this with rfl|rfl|rfl|rfl <;> decide
  ·have:=w4 rfl;subst this;have:i=0\/i=4:=by lia
   rcases this with rfl|rfl <;> decide
  ·have:=w8 rfl;subst this;have:i=0:=by lia
   subst this;decide
 rcases this with rfl|rfl|rfl|rfl
 ·exact fin 1 e (by simp) (by have:=bd.2;simp only[show(2:Int) ^ (0:Int).toNat=1 from rfl]at this;lia) (fun _=>rfl) (by lia) (by lia) (by lia)
 ·exact fin 2 e (by simp) (by have:=bd.2;simp only[show(2:Int) ^ (1:Int).toNat=2 from rfl]at this;lia) (by lia) (fun _=>rfl) (by lia) (by lia)
 ·exact fin 4 e (by simp) (by have:=bd.2;simp only[show(2:Int) ^ (2:Int).toNat=4 from rfl]at this;lia) (by lia) (by lia) (fun _=>rfl) (by lia)
 ·exact fin 8 e (by simp) (by have:=bd.2;simp only[show(2:Int) ^ (3:Int).toNat=8 from rfl]at this;lia) (by lia) (by lia) (by lia) (fun _=>rfl)
theorem Qj{α:Type}[DecidableEq α]:∀{xs ys:List α},xs.Nodup->(∀x∈xs,x∈ys)->xs.length<=ys.length
 | [],_,_,_=>Nat.zero_le _
 | x::xs,ys,nd,h=>by
  have nd':=List.nodup_cons.mp nd;have:=Qj (xs:=xs) (ys:=ys.erase x) nd'.2 fun y hy=>(List.mem_erase_of_ne (by rintro rfl;exact nd'.1 hy)).mpr (h y (by simp[hy]))
  have hx:=h x (by simp)
  have e:=List.length_erase_of_mem hx;have:=List.length_pos_of_mem hx;rw[List.length_cons];lia
abbrev BL:=List (Int×Int)
def bat(B:BL)(k:Nat):Int×Int:=B.getD k (0,0)
def dsj(a b:Int×Int):Bool:=decide (eB a<=b.1)||decide (eB b<=a.1)
def nextOf(is:List Nat):Nat:=(is.getLast?.map (·+1)).getD 0
def kids(B:BL)(is:List Nat)(m:Nat):List (List Nat):=((List.range m).filter fun k=>decide (nextOf is<=k)&&(is.map (bat B)).all fun j=>dsj (bat B k) j).map fun k=>is++[k]
def selT(B:BL):Nat->List (List Nat)
 | 0=>[[]]
 | t+1=>(selT B t).flatMap fun is=>kids B is B.length
structure Sel(B:BL)(t:Nat)(is:List Nat):Prop where
 len:is.length=t
 ris:is.Pairwise (·<·)
 lt:∀k∈is,k<B.length
 dis:is.Pairwise fun a b=>dsj (bat B b) (bat B a)=true
theorem zck{is:List Nat}{k:Nat}:nextOf (is++[k])=k+1:=by simp[nextOf]
theorem zd9{is:List Nat}(h:is.Pairwise (·<·)){k:Nat}:nextOf is<=k↔∀a∈is,a<k:=by
 rcases List.eq_nil_or_concat is with rfl|⟨js,j,rfl⟩
 ·simp[nextOf]
 ·rw[List.concat_eq_append]at *;rw[zck];rw[List.pairwise_append]at h;constructor
  ·intro hk a ha;rcases List.mem_append.mp ha with ha|ha
   ·have:=h.2.2 a ha j (by simp)
    lia
   ·cases List.mem_singleton.mp ha;lia
  ·intro z;exact z j (by simp)
theorem Qv{B:BL}{is js:List Nat}{m:Nat}:js∈kids B is m↔∃k,js=is++[k]/\k<m/\nextOf is<=k/\∀a∈is,dsj (bat B k) (bat B a)=true:=by
 unfold kids;simp only[List.mem_map,List.mem_filter,List.mem_range,Bool.and_eq_true,decide_eq_true_eq,List.all_eq_true];constructor
 ·rintro⟨k,⟨h1,h2,h3⟩,rfl⟩;exact⟨k,rfl,h1,h2,fun a ha=>h3 _ ⟨a,ha,rfl⟩⟩
 ·rintro⟨k,rfl,h1,h2,h3⟩;refine⟨k,⟨h1,h2,?_⟩,rfl⟩;rintro x ⟨a,ha,rfl⟩;exact h3 a ha
theorem QI{B:BL}:∀{t:Nat}{is:List Nat},is∈selT B t↔Sel B t is
 | 0,is=>by
  unfold selT;rw[List.mem_singleton];constructor
  ·rintro rfl;exact⟨rfl,.nil,(fun _ h=>nomatch h),.nil⟩
  ·intro h;exact List.eq_nil_of_length_eq_zero h.len
 | t+1,is=>by
  unfold selT;rw[List.mem_flatMap];constructor
  ·rintro⟨js,hj,hk⟩;obtain⟨k,rfl,h1,h2,h3⟩:=Qv.mp hk;have S:=QI.mp hj;refine⟨by simp[S.len],?_,?_,?_⟩
   ·rw[List.pairwise_append];exact⟨S.ris,List.pairwise_singleton _ _,fun a ha b hb=>by cases List.mem_singleton.mp hb;exact(zd9 S.ris).mp h2 a ha⟩
   ·intro a ha;rcases List.mem_append.mp ha with ha|ha
    ·exact S.lt a ha
    ·cases List.mem_singleton.mp ha;exact h1
   ·rw[List.pairwise_append];exact⟨S.dis,List.pairwise_singleton _ _,fun a ha b hb=>by cases List.mem_singleton.mp hb;exact h3 a ha⟩
  ·intro S;rcases List.eq_nil_or_concat is with rfl|⟨js,k,rfl⟩
   ·have:=S.len;simp at this
   ·rw[List.concat_eq_append]at *;have r:=List.pairwise_append.mp S.ris;have d:=List.pairwise_append.mp S.dis;have Sj:Sel B t js:=⟨by have:=S.len;simp at this;exact this,r.1,fun a ha=>S.lt a (by simp[ha]),d.1⟩
    exact⟨js,QI.mpr Sj,Qv.mpr ⟨k,rfl,S.lt k (by simp),(zd9 r.1).mpr fun a ha=>r.2.2 a ha k (by simp),fun a ha=>d.2.2 a ha k (by simp)⟩⟩
theorem zcS{B:BL}{is:List Nat}{m:Nat}:(kids B is m).Nodup:=by
 unfold kids;refine List.Pairwise.map _ (fun a b n e=>n ?_) (List.Pairwise.filter _ List.nodup_range)
 have:=List.append_inj_right e rfl;simpa using this
theorem zcL{B:BL}:∀t,(selT B t).Nodup
 | 0=>by unfold selT;simp
 | t+1=>by
  unfold selT;show List.Pairwise _ _
  rw[List.pairwise_flatMap];refine⟨fun is _=>zcS,List.Pairwise.imp ?_ (zcL t)⟩
  intro a b n x hx y hy e;obtain⟨k,e1,_⟩:=Qv.mp hx;obtain⟨l,e2,_⟩:=Qv.mp hy;rw[e1,e2]at e;exact n (List.append_inj_left' e rfl)
def wgt(N:Nat)(is:List Nat):Nat:=2 ^ (N - nextOf is)
def wsum(N:Nat)(l:List (List Nat)):Nat:=(l.map (wgt N)).sum
theorem zeH{N:Nat}:∀(l:List (List Nat)),l.length<=wsum N l
 | []=>Nat.zero_le _
 | a::l=>by
  have:=zeH (N:=N) l;have h2:1<=wgt N a:=Nat.one_le_two_pow;unfold wsum at *;rw[List.map_cons,List.sum_cons,List.length_cons];lia
theorem zkK{B:BL}{is:List Nat}{N:Nat}:∀m,nextOf is<=m->m<=N->wsum N (kids B is m)+2 ^ (N - m)<=wgt N is:=by
 intro m;induction m with
 | zero =>
  intro h _;have e:kids B is 0=[]:=rfl;rw[e];have:nextOf is=0:=by lia
  simp[wsum,wgt,this]
 | succ m ih =>
  intro h hm;have ek:kids B is (m+1)=kids B is m++(if (decide (nextOf is<=m)&&(is.map (bat B)).all fun j=>dsj (bat B m) j)=true then[is++[m]] else[]):=by
   unfold kids;rw[List.range_succ,List.filter_append,List.map_append];congr 1;rw[List.filter_cons];split <;> simp
  by_cases hn:nextOf is<=m
  ·have:=ih hn (by lia)
   have p:2 ^ (N - m)=2 ^ (N - (m+1))+2 ^ (N - (m+1)):=by
    have:N - m=(N - (m+1))+1:=by lia
    rw[this,Nat.pow_succ];lia
   rw[ek];unfold wsum at *;rw[List.map_append,List.sum_append];have:((if (decide (nextOf is<=m)&&(is.map (bat B)).all fun j=>dsj (bat B m) j)=true then[is++[m]] else[]).map (wgt N)).sum<=2 ^ (N - (m+1)):=by
    split
    ·simp[wgt,zck]
    ·simp
   lia
  ·have e1:nextOf is=m+1:=by lia
   have e0:∀j,j<=m+1->kids B is j=[]:=fun j hj=>by
    rw[List.eq_nil_iff_forall_not_mem];intro x hx;obtain⟨k,_,k1,k2,_⟩:=Qv.mp hx;lia
   rw[e0 _ (Nat.le_refl _)];simp[wsum,wgt,e1]
theorem Sel.next{B:BL}{t:Nat}{is:List Nat}(S:Sel B t is):nextOf is<=B.length:=(zd9 S.ris).mpr S.lt
theorem ziq{B:BL}{N:Nat}(eN:N=B.length):∀(l:List (List Nat)),(∀is∈l,nextOf is<=N)->wsum N (l.flatMap fun is=>kids B is B.length)<=wsum N l
 | [],_=>Nat.le_refl _
 | a::l,h=>by
  have h1:=ziq eN l fun is hi=>h is (by simp[hi])
  have h2:=zkK (B:=B) (is:=a) (N:=N) B.length (by rw[<- eN];exact h a (by simp)) (by lia)
  unfold wsum at *;rw[List.flatMap_cons,List.map_append,List.sum_append,List.map_cons,List.sum_cons];lia
theorem zh5{B:BL}:∀t,wsum B.length (selT B t)<=2 ^ B.length
 | 0=>by simp[selT,wsum,wgt,nextOf]
 | t+1=>by
  unfold selT;exact Nat.le_trans (ziq rfl _ fun is hi=>(QI.mp hi).next) (zh5 t)
theorem zet{B:BL}(h:B.length<=15)(t:Nat):(selT B t).length<=32768 :=
 Nat.le_trans (zeH _) (Nat.le_trans (zh5 t) (Nat.pow_le_pow_right (by decide) h))
theorem zdv{α:Type}[DecidableEq α]{xs ys:List α}(nd:xs.Nodup)(h:∀x∈xs,x∈ys)(l:ys.length<=xs.length):∀y∈ys,y∈xs:=by
 intro y hy;refine Classical.byContradiction fun n=>?_
 have:=Qj (xs:=xs) (ys:=ys.erase y) nd fun x hx=>(List.mem_erase_of_ne (by rintro rfl;exact n hx)).mpr (h x hx)
 have e:=List.length_erase_of_mem hy;have:=List.length_pos_of_mem hy;lia
theorem zcY{α:Type}{lt:α->α->Prop}(irr:∀a b,lt a b->lt b a->False):∀{xs ys:List α},xs.Pairwise lt->ys.Pairwise lt->(∀x,x∈xs↔x∈ys)->xs=ys
 | [],[],_,_,_=>rfl
 | [],y::ys,_,_,h=>by have:=(h y).mpr (by simp);simp at this
 | x::xs,[],_,_,h=>by have:=(h x).mp (by simp);simp at this
 | x::xs,y::ys,p,q,h=>by
  have p':=List.pairwise_cons.mp p;have q':=List.pairwise_cons.mp q;have e:x=y:=by
   rcases List.mem_cons.mp ((h x).mp (by simp)) with e|hx
   ·exact e
   ·rcases List.mem_cons.mp ((h y).mpr (by simp)) with e|hy
    ·exact e.symm
    ·exact(irr _ _ (p'.1 y hy) (q'.1 x hx)).elim
  subst e;congr 1;refine zcY irr p'.2 q'.2 fun z=>?_
  have hz:=h z;rw[List.mem_cons,List.mem_cons]at hz;constructor
  ·intro m;rcases hz.mp (.inr m) with e|w
   ·subst e;exact(irr _ _ (p'.1 z m) (p'.1 z m)).elim
   ·exact w
  ·intro m;rcases hz.mpr (.inr m) with e|w
   ·subst e;exact(irr _ _ (q'.1 z m) (q'.1 z m)).elim
   ·exact w
theorem Ptc.nd{bits:Int}{ps:BL}(h:Ptc bits ps):ps.Nodup:=h.2.imp fun {a b} h e=>by subst e;have:=JL a;lia
theorem Ptc.ext{bits:Int}{ps qs:BL}(h:Ptc bits ps)(k:Ptc bits qs)(e:∀x,x∈ps↔x∈qs):ps=qs:=zcY (lt:=fun a b=>eB a<=b.1) (fun a b h1 h2=>by have:=JL a;have:=JL b;lia) h.2 k.2 e
def adrs(b:Int×Int):List Int:=(List.range (2 ^ b.2.toNat)).map fun(k:Nat)=>b.1+(k:Int)
def allA(bs:BL):List Int:=bs.flatMap adrs
def szB(bs:BL):Int:=(bs.map fun b=>(2:Int) ^ b.2.toNat).sum
theorem mem_adrs{b:Int×Int}{x:Int}:x∈adrs b↔b.1<=x/\x<eB b:=by
 have c:((2 ^ b.2.toNat:Nat):Int)=2 ^ b.2.toNat:=by rw[Int.natCast_pow];simp
 unfold adrs eB;rw[List.mem_map];constructor
 ·rintro⟨k,hk,rfl⟩;have:=List.mem_range.mp hk;lia
 ·rintro⟨h1,h2⟩;exact⟨(x - b.1).toNat,List.mem_range.mpr (by lia),by lia⟩
theorem zjA{b:Int×Int}:(adrs b).Nodup:=List.Pairwise.map _ (fun a b n e=>n (by lia)) List.nodup_range
theorem zdh:∀(bs:BL),((allA bs).length:Int)=szB bs
 | []=>rfl
 | b::bs=>by
  have ih:=zdh bs;have c:((2 ^ b.2.toNat:Nat):Int)=2 ^ b.2.toNat:=by rw[Int.natCast_pow];simp
  unfold allA szB at *;rw[List.flatMap_cons,List.length_append,List.map_cons,List.sum_cons,<- ih];have:(adrs b).length=2 ^ b.2.toNat:=by simp[adrs]
  rw[this];lia
theorem zg_{bs:BL}(h:bs.Pairwise fun a b=>dsj b a=true):(allA bs).Nodup:=by
 unfold allA;show List.Pairwise _ _
 rw[List.pairwise_flatMap];refine⟨fun b _=>zjA,h.imp fun {a b} d x hx y hy e=>?_⟩
 subst e;have h1:=mem_adrs.mp hx;have h2:=mem_adrs.mp hy;unfold dsj at d;rw[Bool.or_eq_true,decide_eq_true_eq,decide_eq_true_eq]at d;lia
theorem zc8{bs:BL}{x:Int}:x∈allA bs↔mB x bs:=by
 unfold allA mB;rw[List.mem_flatMap];constructor
 ·rintro⟨b,hb,hx⟩;exact⟨b,hb,mem_adrs.mp hx⟩
 ·rintro⟨b,hb,hx⟩;exact⟨b,hb,mem_adrs.mpr hx⟩
theorem cover{ns:List Int}{qs:BL}(d:qs.Pairwise fun a b=>dsj b a=true)(i:∀b∈qs,InS ns b)(e:szB qs=ns.length)(x:Int):mB x qs↔x∈ns:=by
 have sub:∀y∈allA qs,y∈ns:=fun y hy=>by
  obtain⟨b,hb,h1,h2⟩:=zc8.mp hy;exact i b hb y h1 h2
 have l:ns.length<=(allA qs).length:=by have:=zdh qs;lia
 rw[<- zc8];exact⟨sub x,zdv (zg_ d) sub l x⟩
theorem CanP.has{bits:Int}(b0:0<=bits){qs ps:BL}(B:Bks bits qs)(h:CanP (fun x=>mB x qs) ps)(l:qs.length<=ps.length):∀p∈ps,p∈qs:=by
 intro p0 hp0;refine Classical.byContradiction fun no=>?_
 have w:∀x,mB x qs->0<=x/\x<2 ^ bits.toNat:=fun x ⟨b,hb,h1,h2⟩=>by
  have:=(B b hb).bounds b0;unfold eB at h2;lia
 have P:=h.ptc b0 w;have key:∀p∈ps,∀x,p.1<=x->x<eB p->∃q∈qs,q.1<=x/\x<eB q/\p.1<=q.1/\eB q<=eB p:=by
  intro p hp x x1 x2;obtain⟨b,hb,h1,h2⟩:=(h.mem x).mp ⟨p,hp,x1,x2⟩;rcases UV (P.1 p hp) (B b hb) ⟨x1,x2⟩ ⟨h1,h2⟩ with z|z
  ·exact⟨b,hb,h1,h2,z.1,z.2.1⟩
  ·have:=h.max b0 w hp (B b hb) (fun x y1 y2=>⟨b,hb,y1,y2⟩) ⟨z.1,z.2.1⟩
   subst this;exact⟨b,hb,h1,h2,Int.le_refl _,Int.le_refl _⟩
 have pp0:=JL p0;obtain⟨q0,hq0,a1,a2,a3,a4⟩:=key p0 hp0 p0.1 (Int.le_refl _) pp0;have ne:q0≠p0:=fun e=>no (e▸hq0)
 have lt:eB q0<eB p0:=by
  rcases Int.lt_or_eq_of_le a4 with z|z
  ·exact z
  ·have:=h.max b0 w hp0 (B q0 hq0) (fun x y1 y2=>⟨q0,hq0,y1,y2⟩) ⟨by lia,by lia⟩
   exact absurd this ne
 have qq0:=JL q0;obtain⟨q1,hq1,c1,c2,c3,c4⟩:=key p0 hp0 (eB q0) (by lia) lt
 have n1:q1≠q0:=fun e=>by subst e;lia
 have pw:ps.Pairwise fun a b=>eB a<=b.1:=P.2
 have big:=zcn (bs:=qs.erase q0) pw fun p hp=>by
  have pp:=JL p
  by_cases e:p=p0
  ·subst e;exact⟨q1,(List.mem_erase_of_ne n1).mpr hq1,c3,by have:=JL q1;lia⟩
  ·obtain⟨q,hq,d1,d2,d3,d4⟩:=key p hp p.1 (Int.le_refl _) pp;have qp:=JL q;refine⟨q,(List.mem_erase_of_ne ?_).mpr hq,d3,by lia⟩
   rintro rfl;obtain⟨i,hi,rfl⟩:=List.getElem_of_mem hp;obtain⟨j,hj,rfl⟩:=List.getElem_of_mem hp0;have ij:i≠j:=fun z=>e (by subst z;rfl)
   rcases Nat.lt_or_gt_of_ne ij with z|z
   ·have:=List.pairwise_iff_getElem.mp pw i j hi hj z;lia
   ·have:=List.pairwise_iff_getElem.mp pw j i hj hi z;lia
 have e:=List.length_erase_of_mem hq0;have:=List.length_pos_of_mem hq0;lia
theorem CanP.congr{S T:Int->Prop}{ps:BL}(h:CanP S ps)(e:∀x,S x↔T x):CanP T ps:=by
 obtain⟨rs,a,b,c⟩:=h;exact⟨rs,a,fun x=>(b x).trans (e x),c⟩
theorem QX{B:BL}{k:Nat}(h:k<B.length):bat B k=B[k]:=by
 unfold bat;rw[List.getD_eq_getElem?_getD,List.getElem?_eq_getElem h]
 rfl
theorem UN{B:BL}{k:Nat}(h:k<B.length):bat B k∈B:=by rw[QX h];exact List.getElem_mem h
theorem zej{B:BL}(nd:B.Nodup){j k:Nat}(hj:j<B.length)(hk:k<B.length)(e:bat B j=bat B k):j=k:=by
 rw[QX hj,QX hk]at e;rcases Nat.lt_trichotomy j k with z|z|z
 ·exact absurd e (List.pairwise_iff_getElem.mp nd j k hj hk z)
 ·exact z
 ·exact absurd e.symm (List.pairwise_iff_getElem.mp nd k j hk hj z)
def selF(B:BL)(m:Nat)(w:Int):List (List Nat):=(selT B m).filter fun is=>decide (szB (is.map (bat B))=w)
structure Blks(bits:Int)(ns:List Int)(B:BL):Prop where
 b0:0<=bits
 w:∀x∈ns,0<=x/\x<2 ^ bits.toNat
 nn:ns.Nodup
 bk:Bks bits B
 nd:B.Nodup
 ins:∀b∈B,InS ns b
 all:∀b,IsBk bits b.1 b.2->InS ns b->b∈B
section
variable{bits:Int}{ns:List Int}{B ps:BL}
theorem Blks.sel(X:Blks bits ns B)(C:CanP (fun x=>x∈ns) ps){m:Nat}{is:List Nat}(h:is∈selF B m ns.length):Sel B m is/\ps.length<=m/\(m=ps.length->∀b,b∈is.map (bat B)↔b∈ps):=by
 obtain⟨h1,h2⟩:=List.mem_filter.mp h;have S:=QI.mp h1;have e:=of_decide_eq_true h2;have d:(is.map (bat B)).Pairwise fun a b=>dsj b a=true:=List.pairwise_map.mpr S.dis
 have mB':∀b∈is.map (bat B),b∈B:=fun b hb=>by
  obtain⟨k,hk,rfl⟩:=List.mem_map.mp hb;exact UN (S.lt k hk)
 have cv:=cover d (fun b hb=>X.ins b (mB' b hb)) e
 have C':CanP (fun x=>mB x (is.map (bat B))) ps:=C.congr fun x=>(cv x).symm
 have bk:Bks bits (is.map (bat B)):=fun b hb=>X.bk b (mB' b hb)
 have le:=C'.le X.b0 bk;rw[List.length_map,S.len]at le;refine⟨S,le,fun em=>?_⟩
 have has:=C'.has X.b0 bk (by rw[List.length_map,S.len,em];exact Nat.le_refl _)
 have P:=C.ptc X.b0 X.w;have back:=zdv P.nd has (by rw[List.length_map,S.len,em];exact Nat.le_refl _)
 exact fun b=>⟨back b,has b⟩
theorem Blks.none(X:Blks bits ns B)(C:CanP (fun x=>x∈ns) ps){m:Nat}(h:m<ps.length):selF B m ns.length=[]:=by
 rw[List.eq_nil_iff_forall_not_mem];intro is hi;have:=(X.sel C hi).2.1;lia
theorem zlz{α:Type}{l:List α}{a:α}(nd:l.Nodup)(h:a∈l)(u:∀b∈l,b=a):l=[a]:=by
 cases l with
 | nil=>simp at h
 | cons x l =>
  have:=u x (by simp)
  subst this;cases l with
  | nil=>rfl
  | cons y l =>
   have:=u y (by simp)
   subst this;simp at nd
theorem Blks.one(X:Blks bits ns B)(C:CanP (fun x=>x∈ns) ps):∃is,selF B ps.length ns.length=[is]/\∀b,b∈is.map (bat B)↔b∈ps:=by
 have P:=C.ptc X.b0 X.w
 let is:=(List.range B.length).filter fun k=>decide (bat B k∈ps)
 have mi:∀k,k∈is↔k<B.length/\bat B k∈ps:=fun k=>by
  show k∈(List.range B.length).filter _↔_
  rw[List.mem_filter,List.mem_range,decide_eq_true_eq]
 have ris:is.Pairwise (·<·):=List.Pairwise.filter _ List.pairwise_lt_range;have pB:∀p∈ps,p∈B:=fun p hp=>X.all p (P.1 p hp) fun x x1 x2=>(C.mem x).mp ⟨p,hp,x1,x2⟩
 have me:∀b,b∈is.map (bat B)↔b∈ps:=fun b=>by
  rw[List.mem_map];constructor
  ·rintro⟨k,hk,rfl⟩;exact((mi k).mp hk).2
  ·intro hb;obtain⟨k,hk,e⟩:=List.getElem_of_mem (pB b hb);refine⟨k,(mi k).mpr ⟨hk,?_⟩,?_⟩
   ·rw[QX hk,e];exact hb
   ·rw[QX hk,e]
 have ndm:(is.map (bat B)).Nodup:=by
  refine List.pairwise_map.mpr ?_;refine List.Pairwise.imp_of_mem ?_ ris;intro a b ha hb l e;have:=zej X.nd ((mi a).mp ha).1 ((mi b).mp hb).1 e;lia
 have len:is.length=ps.length:=by
  have l1:=Qj ndm fun b hb=>(me b).mp hb
  have l2:=Qj P.nd fun b hb=>(me b).mpr hb
  rw[List.length_map]at l1 l2;lia
 have dis:is.Pairwise fun a b=>dsj (bat B b) (bat B a)=true:=by
  refine List.Pairwise.imp_of_mem ?_ ris;intro a b ha hb l;have ne:bat B a≠bat B b:=fun e=>by
   have:=zej X.nd ((mi a).mp ha).1 ((mi b).mp hb).1 e;lia
  obtain⟨i,hi,ei⟩:=List.getElem_of_mem ((mi a).mp ha).2;obtain⟨j,hj,ej⟩:=List.getElem_of_mem ((mi b).mp hb).2;rw[<- ei,<- ej]at ne ⊢;unfold dsj;rw[Bool.or_eq_true,decide_eq_true_eq,decide_eq_true_eq];have ij:i≠j:=fun z=>ne (by subst z;rfl)
  rcases Nat.lt_or_gt_of_ne ij with z|z
  ·exact .inr (List.pairwise_iff_getElem.mp P.2 i j hi hj z)
  ·exact .inl (List.pairwise_iff_getElem.mp P.2 j i hj hi z)
 have S:Sel B ps.length is:=⟨len,ris,fun k hk=>((mi k).mp hk).1,dis⟩
 have sz:szB (is.map (bat B))=ns.length:=by
  rw[<- zdh];have nda:=zg_ (List.pairwise_map.mpr dis:(is.map (bat B)).Pairwise fun a b=>dsj b a=true)
  have mm:∀x,x∈allA (is.map (bat B))↔x∈ns:=fun x=>by
   rw[zc8,<- C.mem x];unfold mB;constructor
   ·rintro⟨b,hb,r⟩;exact⟨b,(me b).mp hb,r⟩
   ·rintro⟨b,hb,r⟩;exact⟨b,(me b).mpr hb,r⟩
  have l1:=Qj nda fun x hx=>(mm x).mp hx
  have l2:=Qj X.nn fun x hx=>(mm x).mpr hx
  lia
 refine⟨is,zlz ((zcL _).filter _) (List.mem_filter.mpr ⟨QI.mpr S,decide_eq_true sz⟩) ?_,me⟩;intro js hj;obtain⟨Sj,_,mj⟩:=X.sel C hj;have mj:=mj rfl;refine zcY (lt:=(·<·:Nat->Nat->Prop)) (fun a b h1 h2=>by lia) Sj.ris ris fun k=>?_
 constructor
 ·intro hk;exact(mi k).mpr ⟨Sj.lt k hk,(mj _).mp (List.mem_map_of_mem hk)⟩
 ·intro hk;have h:=(mi k).mp hk;obtain⟨j,hj',e⟩:=List.mem_map.mp ((mj _).mpr h.2);have:=zej X.nd (Sj.lt j hj') h.1 e;subst this;exact hj'
end
def PatR(bits:Int)(B:BL)(is:List Nat)(es:BL):Prop:=Ptc bits es/\es.Perm (is.map (bat B))
theorem Blks.resNone{bits:Int}{ns:List Int}{B ps:BL}(X:Blks bits ns B)(C:CanP (fun x=>x∈ns) ps){m:Nat}(h:m<ps.length){ess:List BL}(r:Paired (PatR bits B) (selF B m ns.length) ess):ess=[]:=by
 rw[X.none C h]at r;cases r;rfl
theorem Blks.resOne{bits:Int}{ns:List Int}{B ps:BL}(X:Blks bits ns B)(C:CanP (fun x=>x∈ns) ps){ess:List BL}(r:Paired (PatR bits B) (selF B ps.length ns.length) ess):ess=[ps]:=by
 obtain⟨is,e,me⟩:=X.one C;rw[e]at r;cases r with
 | cons h t =>
  cases t;have P:=C.ptc X.b0 X.w;rw[h.1.ext P fun b=>(h.2.mem_iff).trans (me b)]
def rowD(B:BL)(is:List Nat):PyData:=.tuple [.tuple (pD (is.map (bat B))),.int (nextOf is),.int (szB (is.map (bat B)))]
theorem zff{α β:Type}{P:α->β->Prop}{xs us:List α}{ys vs:List β}(h:Paired P xs ys)(k:Paired P us vs):Paired P (xs++us) (ys++vs):=by
 induction h with
 | nil=>exact k
 | cons h _ ih=>exact .cons h ih
theorem zdK{α β:Type}{cs:List α}{D:α->PyData}{G:β->PyData}{P:α->β->Prop}{tg:DTG}{tt:DTT}{d:DTE}{ρ0:En}{n:Nat}{Rl:List PyData->Nat->Prop}(p:α->Bool)(hl:cs.length<=16777216)
  (step:∀a∈cs,∀(K:qN) (X:Nat->Prop),(p a=true->∀b,P a b->K (G b) n)->(p a=false->X n)->tg (D a) ρ0 fun ρ1=>tt ρ1 n fun c n2=>if c=true then d ρ1 n2 K else X n2) (fin:∀bs,Paired P (cs.filter p) bs->Rl (bs.map G) n):Jw tg tt d ρ0 (cs.map D) [] n Rl:=by
 refine zg2 (fun j acc m=>m=n/\∃bs,acc=bs.map G/\Paired P ((cs.take j).filter p) bs) ⟨rfl,[],rfl,.nil⟩ ?_ ?_
 ·rintro j x acc m K ej ⟨rfl,bs,rfl,pr⟩ hK;rw[List.getElem?_map]at ej;cases eb:cs[j]? with
  | none=>rw[eb]at ej;cases ej
  | some b =>
   rw[eb]at ej;cases ej;have hj:=(List.getElem?_eq_some_iff.mp eb).1;have et:cs.take (j+1)=cs.take j++[b]:=by rw[List.take_add_one,eb];rfl
   have ln:bs.length<16777216:=by
    have l1:=Paired.length pr;have l2:=List.length_filter_le p (cs.take j);rw[List.length_take]at l2;lia
   refine step b (List.mem_of_getElem? eb) _ _ (fun hp q hq=>⟨by rw[List.length_map];exact ln,hK _ _ ⟨rfl,bs++[q],by simp,?_⟩⟩) fun hp=>hK _ _ ⟨rfl,bs,rfl,?_⟩
   ·rw[et,List.filter_append];have:[b].filter p=[b]:=by simp[hp]
    rw[this];exact zff pr (.cons hq .nil)
   ·rw[et,List.filter_append];have:[b].filter p=[]:=by simp[hp]
    rw[this,List.append_nil];exact pr
 ·rintro acc m ⟨rfl,bs,rfl,pr⟩;rw[List.length_map,List.take_length]at pr;exact fin bs pr
theorem zhD{B:BL}{is:List Nat}{m:Nat}(h:nextOf is<=m)(a:((is.map (bat B)).all fun j=>dsj (bat B m) j)=true):kids B is (m+1)=kids B is m++[is++[m]]:=by
 unfold kids;rw[List.range_succ,List.filter_append,List.map_append];congr 1;rw[List.filter_cons,if_pos (by rw[a,decide_eq_true h];rfl)]
 rfl
theorem zi_{B:BL}{is:List Nat}{m:Nat}(a:((is.map (bat B)).all fun j=>dsj (bat B m) j)=false):kids B is (m+1)=kids B is m:=by
 unfold kids;rw[List.range_succ,List.filter_append,List.map_append,List.filter_cons,if_neg (by rw[a,Bool.and_false];exact Bool.false_ne_true)]
 simp
theorem zhE{B:BL}{is:List Nat}{m:Nat}(h:m<=nextOf is):kids B is m=[]:=by
 rw[List.eq_nil_iff_forall_not_mem];intro x hx;obtain⟨k,_,k1,k2,_⟩:=Qv.mp hx;lia
theorem zja{B:BL}{is:List Nat}{m p:Nat}(h:m<=p):(kids B is m).length<=(kids B is p).length :=
 Qj zcS fun x hx=>by
  obtain⟨k,e,k1,r⟩:=Qv.mp hx;exact Qv.mpr ⟨k,e,by lia,r⟩
theorem zhm{B:BL}{is:List Nat}{k:Nat}:rowD B (is++[k])=.tuple [.tuple (pD (is.map (bat B))++[prD (bat B k)]),.int (k+1:Nat),.int (szB (is.map (bat B))+2 ^ (bat B k).2.toNat)]:=by
 unfold rowD;rw[zck];have e:szB ((is++[k]).map (bat B))=szB (is.map (bat B))+2 ^ (bat B k).2.toNat:=by
  unfold szB;simp
 rw[e];simp[pD]
def soFar(B:BL)(t r:Nat):List (List Nat):=((selT B t).take r).flatMap fun is=>kids B is B.length
theorem zcJ{B:BL}{t r:Nat}{is:List Nat}(h:(selT B t)[r]?=some is):soFar B t (r+1)=soFar B t r++kids B is B.length:=by
 unfold soFar;rw[List.take_add_one,h];simp
theorem zfK{B:BL}{t:Nat}:soFar B t (selT B t).length=selT B (t+1):=by
 unfold soFar;rw[List.take_length]
 rfl
theorem zfJ{B:BL}(h:B.length<=15)(t r:Nat):(soFar B t r).length<=32768:=by
 refine Nat.le_trans (List.Sublist.length_le ?_) (zet h (t+1));show((selT B t).take r).flatMap _|>.Sublist ((selT B t).flatMap _)
 conv=>rhs;rw[<- List.take_append_drop r (selT B t)]
 rw[List.flatMap_append];exact List.sublist_append_left _ _
theorem zif{xs:qD}{k:Nat}{x:PyData}{R:PyData->Prop}(e:xs[k]?=some x)(h:R x):oIx (.list xs) (.int (k:Int)) R:=by
 have hk:k<xs.length:=by
  rcases Nat.lt_or_ge k xs.length with z|z
  ·exact z
  ·rw[List.getElem?_eq_none z]at e;cases e
 rw[zkG (x:=x)]
 ·exact h
 ·unfold atI ixN;have:((0:Int)<=(k:Int)):=by lia
  have:((k:Int)<(xs.length:Int)):=by lia
  have e2:xs[k]=x:=by rw[List.getElem?_eq_getElem hk]at e;exact Option.some.inj e
  simp[hk,e2]
theorem zkk(bs:qB):PyData.canLayAll0 (pD bs)=true/\PyData.depthAll (pD bs)<=1:=by
 induction bs with
 | nil=>exact⟨by simp[pD,PyData.canLayAll0],by simp[pD,PyData.depthAll]⟩
 | cons b l ih =>
  refine⟨?_,?_⟩
  ·have:=ih.1;simp only[pD,List.map_cons,PyData.canLayAll0,PyData.canLay0,Bool.and_true,Bool.true_and]at this ⊢;exact this
  ·have:=ih.2;simp only[pD,List.map_cons,PyData.depthAll,PyData.depth]at this ⊢;lia
theorem zf6{bs:qB}:Okd (.list [.tuple (pD bs)]):=by
 have h:=zkk bs;unfold Okd;simp only[PyData.canLay0,PyData.depth,PyData.canLayAll0,PyData.depthAll,Bool.and_true];exact⟨h.1,by lia⟩
theorem zkS{bs:qB}{R:PyData->Prop}(h:R (.bool false)):oNe (.list [.tuple (pD bs)]) (.list [.tuple (pD bs)]) R:=⟨zf6,zf6,by rw[PySem.SeqAt.eqv_refl _ zf6.1];exact h⟩
theorem zkT{R:PyData->Prop}(h:R (.bool false)):oNe (.list []) (.list []) R:=⟨zd7,zd7,by rw[PySem.SeqAt.eqv_refl _ zd7.1];exact h⟩
theorem few8{bits:Int}(b0:0<=bits)(b3:bits<=3){xs:List Int}(nd:xs.Nodup)(bd:∀x∈xs,0<=x/\x<2 ^ bits.toNat):xs.length<=8:=by
 have pb:(2:Int) ^ bits.toNat<=8:=by
  have:bits=0\/bits=1\/bits=2\/bits=3:=by lia
  rcases this with rfl|rfl|rfl|rfl <;> decide
 refine Qj (ys:=[0,1,2,3,4,5,6,7]) nd fun x hx=>?_
 have:=bd x hx;have:x=0\/x=1\/x=2\/x=3\/x=4\/x=5\/x=6\/x=7:=by lia
 rcases this with rfl|rfl|rfl|rfl|rfl|rfl|rfl|rfl <;> decide
def ones(xs:List Int):BL:=xs.map fun i=>(i,0)
theorem zi4{xs:List Int}{x:Int}:mB x (ones xs)↔x∈xs:=by
 unfold mB ones;constructor
 ·rintro⟨b,hb,h1,h2⟩;obtain⟨i,hi,rfl⟩:=List.mem_map.mp hb;have h2:x<i+2 ^ (0:Int).toNat:=h2;have h1:i<=x:=h1;have:(2:Int) ^ (0:Int).toNat=1:=rfl;have:x=i:=by lia
  subst this;exact hi
 ·intro h;refine⟨(x,0),List.mem_map.mpr ⟨x,h,rfl⟩,Int.le_refl _,?_⟩;show x<x+2 ^ (0:Int).toNat
  have:(2:Int) ^ (0:Int).toNat=1:=rfl;lia
theorem zhY{bits:Int}(b0:0<=bits){xs:List Int}(bd:∀x∈xs,0<=x/\x<2 ^ bits.toNat):Bks bits (ones xs):=by
 intro b hb;obtain⟨i,hi,rfl⟩:=List.mem_map.mp hb;have:=bd i hi;refine⟨Int.le_refl _,b0,i,this.1,?_,?_⟩
 ·show i=i*2 ^ (0:Int).toNat
  rw[show(2:Int) ^ (0:Int).toNat=1 from rfl,Int.mul_one]
 ·show i<2 ^ (bits - 0).toNat
  rw[Int.sub_zero];exact this.2
theorem AllI.blks{bits:Int}{ns:List Int}{bs:BL}(b0:0<=bits)(w:∀x∈ns,0<=x/\x<2 ^ bits.toNat)(nn:ns.Nodup)(A:AllI bits ns (bits+1) 0 bs):Blks bits ns bs :=
 ⟨b0,w,nn,A.bk,A.nd,A.ins,fun b B h=>A.all b B h (.inl (by have:=B.2.1;lia))⟩
theorem AllI.le15{bits:Int}{ns:List Int}{g j:Int}{bs:BL}(b0:0<=bits)(b3:bits<=3)(A:AllI bits ns g j bs):bs.length<=15:=Qj (ys:=b15) A.nd fun b hb=>zi2 b0 b3 (A.bk b hb)
end L2
namespace Bd
open PySem L2
def top(i:Nat):Stmt:=PySem.Challenge.pw_blockdeal_k11_whole_none_are_fewer.main.body.getD i (.Pass ⟨0,0,0,0⟩)
set_option maxHeartbeats 4000000
local macro_rules | `(tactic| walk_at "S") => `(tactic| first | with_reducible refine ze9 ?_ | with_reducible refine Stp.go ?_ | with_reducible refine j_all (by with_unfolding_all rfl) ?_ | with_reducible refine j_any (by with_unfolding_all rfl) ?_ | with_reducible refine zii (by with_unfolding_all rfl) ?_ | with_reducible refine zij (by with_unfolding_all rfl) ?_ | with_reducible refine zeP (by with_unfolding_all rfl) ?_ | with_reducible refine zeO (by with_unfolding_all rfl) ?_)
set_option hygiene false in
local macro_rules | `(tactic| walk_at "K") => `(tactic| first | walk_at "S" | with_reducible refine zk_ (fun hc => ?_) (fun hc => ?_) | with_reducible refine znc (fun hc => ?_) (fun hc => ?_) | with_reducible refine And.intro ?_ ?_)
set_option hygiene false in
local macro_rules | `(tactic| wp_walk using $ts:term,*) => `(tactic| repeat' (first $[| with_reducible refine $ts:term]* | walk_at "K"))
local macro_rules | `(tactic| wp_walk) => `(tactic| repeat' walk_at "K")
structure Txt(mg:qM):Prop where
 isi:mg "isinstance" = none
 int:mg "int" = none
 boo:mg "bool" = none
 tup:mg "tuple" = none
 len:mg "len" = none
 min:mg "min" = none
 max:mg "max" = none
 str:mg "str" = none
 rep:mg "repr" = none
 all:mg "all" = none
 any:mg "any" = none
 ran:mg "range" = none
 sum:mg "sum" = none
 srt:mg "sorted" = none
 lst:mg "list" = none
 abs:mg "abs" = none
 zip:mg "zip" = none
 dct:mg "dict" = none
 rev:mg "reversed" = none
 enu:mg "enumerate" = none
section
variable{P:Program}{w:World}{K:qF}{mg:qM}{base:Heap}{Z:ZZ}
theorem zfb:FnScope ["block"] ["block"] (Jh (top 1)):=⟨rfl,rfl,rfl,by decide +kernel,rfl,by decide +kernel,by decide +kernel⟩
def zdC:GD:=fun ts n R=>∃i h:Int,ts=[.tuple [.int i,.int h]]/\0<=h/\h<=1000/\R (.int (2 ^ h.toNat)) n
theorem zg5{i h:Int}{n:Nat}{R:qN}(g0:0<=h)(g1:h<=1000)(h':R (.int (2 ^ h.toNat)) n):zdC [.tuple [.int i,.int h]] n R:=⟨_,_,rfl,g0,g1,h'⟩
def zdp(Z:ZZ):Prop:=FQ Z "size_of" (top 1) ["block"] 1 (spD Z.K 1 zdC)
theorem zfh(D:Dq Z.K Z.mg "size_of" (top 1) ["block"]) (T:Txt Z.mg):zdp Z:=by
 refine' okQ D zfb rfl fun f cdv A outer s H E hr=>⟨_,(Jo (JM (Qz (dl Jf) (dl (JR (dl (Ja 0)) (dl Jf)))))),?_⟩
 intro ts n R hl hh;obtain⟨i,h,rfl,g0,g1,hh⟩:=hh
 wp_walk
 ·exact cpow (by lia) (by lia)
 ·rw[Qt];exact hh
theorem zfO:FnScope ["block"] ["block"] (Jh (top 5)):=⟨rfl,rfl,rfl,by decide +kernel,rfl,by decide +kernel,by decide +kernel⟩
def zeT:GD:=fun ts n R=>∃i h:Int,ts=[.tuple [.int i,.int h]]/\0<=h/\h<=1000/\R (.int (i+2 ^ h.toNat)) n
theorem zdf{i h:Int}{n:Nat}{R:qN}(g0:0<=h)(g1:h<=1000)(h':R (.int (i+2 ^ h.toNat)) n):zeT [.tuple [.int i,.int h]] n R:=⟨_,_,rfl,g0,g1,h'⟩
def zc0(Z:ZZ):Prop:=FQ Z "end_of" (top 5) ["block"] 2 (spD Z.K 1 zeT)
theorem zf8(D:Dq Z.K Z.mg "end_of" (top 5) ["block"]) (h_size_of:zdp Z) (T:Txt Z.mg):zc0 Z:=by
 refine' okQ D zfO rfl fun f cdv A outer s H E hr=>⟨_,(Jo (JM (Qe (dl (JR (dl (Ja 0)) (dl Jf))) (dl (JI h_size_of hr (Jc (Ja 0) Ji Jg)))))),?_⟩
 intro ts n R hl hh;obtain⟨i,h,rfl,g0,g1,hh⟩:=hh
 wp_walk using zg5 ?_ ?_ ?_
 ·lia
 ·lia
 ·exact hh
theorem zaY:FnScope ["begin","high","room"] ["begin","high"] (Jh (top 6)):=⟨rfl,rfl,rfl,by decide +kernel,rfl,by decide +kernel,by decide +kernel⟩
theorem zft{hi:Int}(h:0<hi):JU 0 hi hi.toNat.log2:=⟨by simp,by have:=zgj h;lia,fun z=>by have:=zgg h;have:=z.2;lia⟩
theorem zgC{lo hi:Int}{t:Nat}(h:lo<hi)(h1:lo % 2 ^ t=0)(h2:¬lo % 2 ^ (t+1)=0):JU lo hi (min (hi - lo).toNat.log2 t):=by
 have a:=zgj (i:=hi - lo) (by lia)
 have b:=zgg (i:=hi - lo) (by lia)
 rcases Nat.le_total (hi - lo).toNat.log2 t with z|z
 ·rw[Nat.min_eq_left z];exact⟨QL z h1,a,fun y=>by have:=y.2;lia⟩
 ·rw[Nat.min_eq_right z];exact⟨h1,Int.le_trans (Qb z) a,fun y=>h2 y.1⟩
theorem zhz(t:Nat):((2:Int) ^ t).toNat.log2=t:=by
 have e:((2:Int) ^ t).toNat=2 ^ t:=by
  have:((2 ^ t:Nat):Int)=(2:Int) ^ t:=by rw[Int.natCast_pow];rfl
  rw[<- this];rfl
 rw[e,Nat.log2_two_pow]
def za9:GD:=fun ts n R=>∃lo hi:Int,ts=[.int lo,.int hi]/\0<=lo/\lo<hi/\∀g:Nat,JU lo hi g->R (.int g) n
theorem zbV{lo hi:Int}{n:Nat}{R:qN}(l0:0<=lo)(l1:lo<hi)(h:∀g:Nat,JU lo hi g->R (.int g) n):za9 [.int lo,.int hi] n R:=⟨lo,hi,rfl,l0,l1,h⟩
def za5(Z:ZZ):Prop:=FQ Z "greatest_height" (top 6) ["begin","high"] 1 (spD Z.K 2 za9)
theorem zbL(D:Dq Z.K Z.mg "greatest_height" (top 6) ["begin","high"]) (T:Txt Z.mg):za5 Z:=by
 refine' okQ D zaY rfl fun f cdv A outer s H E hr=>⟨_,(Js (JW (i:=2) zaY.nd rfl (Or.inl rfl) (zgS (dl (zdJ (dl (zgS (dl (Ja 1)) (dl (Ja 0)))))) (dl Jf))) (Js (QO (QB (zh_ hr) zln (dl (Ja 0)) (dl Jf) (JN _)) (Jo (JM (Ja 2))) Ue) (Jo (JM (JQ (zdO rfl) zil T.min zdT (Jz (dl (Ja 2)) (Jz (dl (zgS (dl (zdJ (dl (zlH (dl (Ja 0)) (dl (UB (Ja 0))))))) (dl Jf))) JH Uy) Jg)))))),?_⟩
 intro ts n R hl h;obtain⟨lo,hi,rfl,l0,l1,h⟩:=h;have room:=zcp (i:=hi - lo) (by lia)
 wp_walk
 ·rw[room];subst hc;have:=h _ (zft l1);rw[Int.sub_zero];exact this
 ·obtain⟨t,t1,t2⟩:=zmi (b:=lo) (by lia)
  have an:=zjz (b:=lo) (by lia) t1 t2
  have lb:=zcp (i:=(2:Int) ^ t) (zaf t);rw[zhz]at lb;rw[an,room,lb];have:=h _ (zgC l1 t1 t2);have e:(if (t:Int)<((hi - lo).toNat.log2:Int) then(t:Int) else((hi - lo).toNat.log2:Int))=((min (hi - lo).toNat.log2 t:Nat):Int):=by
   split <;> lia
  rw[e];exact this
theorem Uj:FnScope ["low","high","blocks","begin","block"] ["low","high"] (Jh (top 4)):=⟨rfl,rfl,rfl,by decide +kernel,rfl,by decide +kernel,by decide +kernel⟩
def Q9:GD:=fun ts n R=>∃lo hi:Int,ts=[.int lo,.int hi]/\0<=lo/\lo<=hi/\hi<=2 ^ 64/\∀bs,Jd lo hi bs->R (.tuple (pD bs)) n
theorem zlK{lo hi:Int}{n:Nat}{R:qN}(l0:0<=lo)(l1:lo<=hi)(l2:hi<=2 ^ 64)(h:∀bs,Jd lo hi bs->R (.tuple (pD bs)) n):Q9 [.int lo,.int hi] n R:=⟨lo,hi,rfl,l0,l1,l2,h⟩
def zh7(Z:ZZ):Prop:=FQ Z "span" (top 4) ["low","high"] 3 (spD Z.K 2 Q9)
theorem zi0(D:Dq Z.K Z.mg "span" (top 4) ["low","high"]) (h_end_of:zc0 Z) (h_greatest_height:za5 Z) (T:Txt Z.mg):zh7 Z:=by
 refine' okQ D Uj rfl fun f cdv A outer s H E hr=>⟨_,(Js (UC (i:=2) Uj.nd rfl (Or.inl rfl) (QA Ji)) (Js (JW (i:=3) Uj.nd rfl (Or.inl rfl) (Ja 0)) (Js (zhP PassesOwn.never (QB (zkr hr) zll (dl (Ja 3)) (dl (Ja 1)) (JN _)) (Js (JW (i:=4) Uj.nd rfl (Or.inl rfl) (Qa (Jc (Ja 3) (Jc (JI h_greatest_height hr (Jc (Ja 3) (Jc (Ja 1) Ji Jg) Jg)) Ji J3) Jg))) (Js (UT 2 (Ja 4)) (Jo (JW (i:=3) Uj.nd rfl (Or.inl rfl) (JI h_end_of hr (Jc (Ja 4) Ji Jg))))))) (UR 2 (Jo (JM (zjs zbm zdb T.tup zbD (Jz (dl (Ja 2)) JH Jg)))))))),?_⟩
 intro ts n R hl h;obtain⟨lo,hi,rfl,l0,l1,l2,h⟩:=h;obtain⟨all,A⟩:=zfI _ lo hi (Nat.le_refl _) l1;have al:=A.len l0 l2
 wp_walk
 refine zix (fun m ρ n'=>n'=n/\∃(bs rest:qB) (be:Int) (c4:Option Cell),ρ=[some (.val (.int lo)),some (.val (.int hi)),some (.own (pD bs)),some (.val (.int be)),c4]/\all=bs++rest/\Jd be hi rest/\lo<=be/\m=rest.length) (m:=all.length) ⟨rfl,[],all,lo,_,rfl,rfl,A,Int.le_refl _,rfl⟩ ?_
 rintro m ρ n' NX RT BK ⟨rfl,bs,rest,be,c4,rfl,eall,S,lb,rfl⟩ hN hR hB
 wp_walk
 ·cases rest with
  | nil=>have:be=hi:=S;lia
  | cons b r =>
   obtain⟨s1,s2,s3,s4,s5⟩:=S;refine zbV (by lia) hc fun g G=>?_
   have eg:b.2.toNat=g:=s4.uniq G;have eb:b=(be,(g:Int)):=Prod.ext s2 (by show b.2=(g:Int);lia)
   have gl:g<=64:=by
    rcases Nat.lt_or_ge 64 g with z|z
    ·have:=Qb (show 65<=g by lia)
     have:=G.2.1;have e:(2:Int) ^ 65=2*2 ^ 64:=by decide
     lia
    ·exact z
   wp_walk using zdf (by lia) (by lia) ?_
   ·rw[JG];have:=congrArg List.length eall;rw[List.length_append]at this;lia
   ·refine hN r.length _ _ (by simp) ⟨rfl,bs++[b],r,be+2 ^ (g:Int).toNat,some (.val (.tuple [.int be,.int (g:Int)])),by rw[eb,<- zf2],by rw[eall];simp,?_,?_,rfl⟩
    ·rw[eg]at s5;simpa using s5
    ·have:=zaf (g:Int).toNat;lia
 ·have e:be=hi:=by have:=S.le;lia
  cases rest with
  | cons b r=>have:=S.1;lia
  | nil =>
   refine hB _ _ ?_
   wp_walk
   rw[List.append_nil]at eall;rw[<- eall];exact h _ A
theorem zd4:FnScope ["runs"] ["runs"] (Jh (top 7)):=⟨rfl,rfl,rfl,by decide +kernel,rfl,by decide +kernel,by decide +kernel⟩
def zcU:GD:=fun ts n R=>∃rs:List (Int×Int),ts=[.list (pD rs)]/\(∀r∈rs,0<=r.1/\r.1<=r.2/\r.2<=2 ^ 64)/\rs.length<=100000/\∀ps,PatS rs ps->R (.tuple (pD ps)) n
theorem zfz{rs:qB}{n:Nat}{R:qN}(w:∀r∈rs,0<=r.1/\r.1<=r.2/\r.2<=2 ^ 64)(l:rs.length<=100000)(h:∀ps,PatS rs ps->R (.tuple (pD ps)) n):zcU [.list (pD rs)] n R:=⟨rs,rfl,w,l,h⟩
theorem zf1:∀{rs:qB},(∀r∈rs,r.1<=r.2)->∃ps,PatS rs ps
 | [],_=>⟨[],rfl⟩
 | r::rs,h=>by
  obtain⟨a,A⟩:=zfI _ r.1 r.2 (Nat.le_refl _) (h r (by simp))
  obtain⟨b,B⟩:=zf1 (rs:=rs) fun s hs=>h s (by simp[hs])
  exact⟨a++b,a,b,rfl,A,B⟩
theorem ze0{g:DTG}{d:DTE}{ρ1:En}{n:Nat}{Rl:List PyData->Nat->Prop}:∀(xs acc:qD),(∀x∈xs,∀K:PyData->Nat->Prop,K x n->g x ρ1 fun ρ2=>d ρ2 n K)->acc.length+xs.length<=16777216->Rl (acc++xs) n->Jw g dYes d ρ1 xs acc n Rl
 | [],acc,_,_,h=>by simpa[Jw] using h
 | x::xs,acc,hg,hl,h=>by
  have e:(fun ρ2=>dYes ρ2 n fun b n2=>if b=true then d ρ2 n2 fun t n3=>acc.length<16777216/\Jw g dYes d ρ1 xs (acc++[t]) n3 Rl else Jw g dYes d ρ1 xs acc n2 Rl)=fun ρ2=>d ρ2 n fun t n3=>acc.length<16777216/\Jw g dYes d ρ1 xs (acc++[t]) n3 Rl:=by
   funext ρ2
   exact propext ⟨fun z=>by simpa[dYes] using z,fun z=>by simpa[dYes] using z⟩
  show g x ρ1 fun ρ2=>dYes ρ2 n fun b n2=>if b=true then d ρ2 n2 fun t n3=>acc.length<16777216/\Jw g dYes d ρ1 xs (acc++[t]) n3 Rl else Jw g dYes d ρ1 xs acc n2 Rl
  rw[e];refine hg x (by simp) _ ⟨by simp at hl;lia,ze0 xs (acc++[x]) (fun y hy=>hg y (by simp[hy])) (by simp at hl ⊢;lia) (by simpa using h)⟩
def zcO(Z:ZZ):Prop:=FQ Z "patch_of" (top 7) ["runs"] 4 (spD Z.K 1 zcU)
theorem zd8(D:Dq Z.K Z.mg "patch_of" (top 7) ["runs"]) (h_span:zh7 Z) (T:Txt Z.mg):zcO Z:=by
 refine' okQ D zd4 rfl fun f cdv A outer s H E hr=>⟨_,(Jo (JM (zjs zbm zdb T.tup zbD (Jz (dl (J9 (zhR (own:=["low","high","block"]) (capt:=[]) rfl (CompScope.of rfl) (dil (zlD (Ja 0))) (fun _ _ _ _=>(Q8 rfl (JS (Jq (i:=0) (by show(["low","high","block"]:List Str).Nodup;decide +kernel) rfl (Or.inl rfl)) (JS (Jq (i:=1) (by show(["low","high","block"]:List Str).Nodup;decide +kernel) rfl (Or.inl rfl)) Uc)))) (by decide) (fun _ _ _ _=>Uf) (fun _ _ _ _=>(zis (JI h_span hr (Jc (Ja 0) (Jc (Ja 1) Ji Jg) Jg)))) (fun _ _ _ _=>(Jq (i:=2) (by show(["low","high","block"]:List Str).Nodup;decide +kernel) rfl (Or.inl rfl))) (by decide) (fun _ _ _ _=>Uf) (fun _ _ _ _=>(Ja 2))))) JH UP)))),?_⟩
 intro ts n R hl h;obtain⟨rs,rfl,w,l,h⟩:=h
 wp_walk
 have key:∀(rs:qB) (acc ps:qB),(∀r∈rs,0<=r.1/\r.1<=r.2/\r.2<=2 ^ 64)->acc.length+130*rs.length<=16777216->PatS rs ps->∀K:List PyData->Nat->Prop,K (pD (acc++ps)) n ->
   Qo (QR (Qi (JP 0) (Qi (JP 1) QQ))) dYes (dItT (dFn Q9 (J5 (dVar 0) (J5 (dVar 1) dNil)))) (JP 2) dYes (dVar 2) [none,none,none] (pD rs) (pD acc) n K:=by
  intro rs;induction rs with
  | nil =>
   intro acc ps _ _ P K hK;cases(show ps=[] from P)
   rw[List.append_nil]at hK;exact hK
  | cons r rs ih =>
   intro acc ps w la P K hK;obtain⟨a,b,rfl,Sa,Pb⟩:=P;have wr:=w r (by simp)
   have ll:=Sa.len wr.1 wr.2.2;show QR (Qi (JP 0) (Qi (JP 1) QQ)) (.tuple [.int r.1,.int r.2]) [none,none,none] fun ρ1=>dYes ρ1 n fun b n2=>if b=true then dItT (dFn Q9 (J5 (dVar 0) (J5 (dVar 1) dNil))) ρ1 n2 fun ts n3=>Jw (JP 2) dYes (dVar 2) ρ1 ts (pD acc) n3 fun acc' n4=>Qo (QR (Qi (JP 0) (Qi (JP 1) QQ))) dYes (dItT (dFn Q9 (J5 (dVar 0) (J5 (dVar 1) dNil)))) (JP 2) dYes (dVar 2) [none,none,none] (pD rs) acc' n4 K else _
   rw[List.length_cons]at la
   wp_walk using zlK wr.1 wr.2.1 wr.2.2 (fun bs B=>?_)
   rw[B.uniq Sa];refine ze0 _ _ (fun x hx K2 hK2=>?_) (by rw[JG,JG];lia) ?_
   ·wp_walk
    exact hK2
   ·rw[zkl];exact ih (acc++a) b (fun s hs=>w s (by simp[hs])) (by rw[List.length_append];lia) Pb K (by rw[List.append_assoc];exact hK)
 obtain⟨ps,P⟩:=zf1 (rs:=rs) fun r hr=>(w r hr).2.1
 refine key rs [] ps w (by simp;lia) P _ ?_
 wp_walk
 exact h ps P
theorem Uq:FnScope ["blocks","runs","block","low","high"] ["blocks"] (Jh (top 8)):=⟨rfl,rfl,rfl,by decide +kernel,rfl,by decide +kernel,by decide +kernel⟩
theorem zjb{bits:Int}{bs:qB}{t:PyData}{Rl:List PyData->Prop}(ht:t=.list (pD bs)\/t=.tuple (pD bs))(hb:bits<=64)(B:Bks bits bs)(h64:bs.length<100000)
  (h:∀cs:List (Int×Int),cs.Perm bs->cs.Pairwise (fun a b=>a.1<=b.1)->Rl (pD cs)):Q0 t Rl:=by
 have key:(pD bs).length<100000/\(∀x∈pD bs,IsPr x)/\∀ts':List PyData,ts'.Perm (pD bs)->ts'.Pairwise (fun a b=>rkD a<=rkD b)->Rl ts':=by
  refine⟨by rw[JG];exact h64,fun x hx=>?_,fun ts' pm pw=>?_⟩
  ·obtain⟨b,hb',rfl⟩:=List.mem_map.mp hx;have:=B b hb';exact⟨b.1,b.2,rfl,this.1,by have:=this.2.1;lia⟩
  ·have pm':ts'.Perm ((bs.map fun b=>(b,prD b)).map (·.2)):=by
    have:(bs.map fun b=>(b,prD b)).map (·.2)=pD bs:=by simp[pD]
    rw[this];exact pm
   obtain⟨zs,p1,p2⟩:=zc1 pm';have ez:∀z∈zs,z.2=prD z.1:=fun z hz=>by
    obtain⟨b,_,rfl⟩:=List.mem_map.mp (p1.mem_iff.mp hz)
    rfl
   have e:ts'=pD (zs.map (·.1)):=by
    rw[<- p2];unfold pD;rw[List.map_map];exact List.map_congr_left fun z hz=>ez z hz
   have pc:(zs.map (·.1)).Perm bs:=by
    have:=p1.map (·.1);rw[List.map_map]at this;have e2:bs.map ((fun x:(Int×Int)×PyData=>x.1)∘fun b=>(b,prD b))=bs:=by
     show bs.map id=bs
     exact List.map_id _
    rwa [e2]at this
   rw[e];have B':Bks bits (zs.map (·.1)):=fun b hb=>B b (pc.mem_iff.mp hb)
   rw[e]at pw;unfold pD at pw;rw[List.pairwise_map]at pw;refine h _ pc (List.Pairwise.imp_of_mem ?_ pw);intro a b ha hb h2;have h2:a.1*1000+a.2<=b.1*1000+b.2:=h2;have a0:=(B' a ha).1;have a1:=(B' a ha).2.1;have b0:=(B' b hb).1;have b1:=(B' b hb).2.1;lia
 rcases ht with rfl|rfl <;> exact key
def zdD:GD:=fun ts n R=>∃(bits:Int) (bs:qB) (t:PyData),ts=[t]/\(t=.list (pD bs)\/t=.tuple (pD bs))/\0<=bits/\bits<=64/\Bks bits bs/\bs.length<100000/\∀rs,NR rs->(∀x,mR x rs↔mB x bs)->rs.length<=bs.length->R (.list (pD rs)) n
theorem zg6{bits:Int}{bs:qB}{t:PyData}{n:Nat}{R:qN}(ht:t=.list (pD bs)\/t=.tuple (pD bs))(b0:0<=bits)(b1:bits<=64)(B:Bks bits bs)(l:bs.length<100000)(h:∀rs,NR rs->(∀x,mR x rs↔mB x bs)->rs.length<=bs.length->R (.list (pD rs)) n):zdD [t] n R:=⟨bits,bs,t,rfl,ht,b0,b1,B,l,h⟩
def zdq(Z:ZZ):Prop:=FQ Z "runs_of" (top 8) ["blocks"] 3 (spD Z.K 1 zdD)
theorem zfi(D:Dq Z.K Z.mg "runs_of" (top 8) ["blocks"]) (h_end_of:zc0 Z) (T:Txt Z.mg):zdq Z:=by
 refine' okQ D Uq rfl fun f cdv A outer s H E hr=>⟨_,(Js (UC (i:=1) Uq.nd rfl (Or.inl rfl) (QA Ji)) (Js (Qf PassesOwn.never rfl (zeg (J9 (zdF hr T.srt (dl (Ja 0)) Jg))) (Jq (i:=2) Uq.nd rfl (Or.inl rfl)) (Jo (QO (znp (zlB (zgJ (zgM 1)) (zjq (QB zf5 zgE (dl (JR (dl (Ja 2)) (dl Jf))) (dl (JR (dl (JR (zgM 1) (dl (UB Jf)))) (dl Jf))) (JN _))))) (Js (zir (JR (zgM 1) (dl (UB Jf))) (Q8 rfl (JS (Jq (i:=3) Uq.nd rfl (Or.inl rfl)) (JS (Jq (i:=4) Uq.nd rfl (Or.inl rfl)) Uc)))) (Jo (zlC 1 (UB Jf) (Qa (Jc (Ja 3) (Jc (JQ (zdP rfl) zim T.max zdU (Jz (dl (Ja 4)) (Jz (dl (JI h_end_of hr (Jc (Ja 2) Ji Jg))) JH J3) Jg)) Ji J3) Jg))))) (Jo (UT 1 (Qa (Jc (JR (dl (Ja 2)) (dl Jf)) (Jc (JI h_end_of hr (Jc (Ja 2) Ji Jg)) Ji J3) zh2))))))) (UR 1 (Jo (JM (Ja 1)))))),?_⟩
 intro ts n R hl h;obtain⟨bits,bs,t,rfl,ht,b0,b1,B,l,h⟩:=h
 wp_walk
 refine zjb ht b1 B l fun cs pm pw=>?_
 have Bc:Bks bits cs:=fun b hb=>B b (pm.mem_iff.mp hb)
 have lc:=pm.length_eq;refine zgG 1 2 3 4 (fun k a1 _ _ _ m=>m=n/\∃rs:List (Int×Int),a1=some (.own (pD rs))/\NR rs/\(∀x,mR x rs↔mB x (cs.take k))/\rs.length<=k/\∀r∈rs,∀b∈cs.drop k,r.1<=b.1) ⟨rfl,[],rfl,⟨(fun r hr=>nomatch hr),.nil⟩,(fun x=>⟨fun z=>absurd z UJ,fun z=>absurd z UI⟩),Nat.le_refl _,fun r hr=>nomatch hr⟩ ?_ ?_
 ·rintro k t' a1 a2 a3 a4 m K RT BK et ⟨rfl,rs,rfl,nr,me,lr,lo⟩ hK hRT hBK;obtain⟨i,g,eb,rfl⟩:=zkj et;have kl:=(List.getElem?_eq_some_iff.mp eb).1;have Bb:=Bc _ (List.mem_of_getElem? eb);have g0:0<=g:=Bb.1;have g1:g<=bits:=Bb.2.1;have pg:=zaf g.toNat;have tk:cs.take (k+1)=cs.take k++[(i,g)]:=by rw[List.take_succ,eb];rfl
  have dk:cs.drop k=(i,g)::cs.drop (k+1):=by
   rw[List.drop_eq_getElem_cons kl];congr 1;have:=List.getElem?_eq_getElem kl;rw[eb]at this;exact(Option.some.inj this).symm
  have after:∀b∈cs.drop (k+1),i<=b.1:=fun b hb=>by
   have:cs.Pairwise fun a b=>a.1<=b.1:=pw
   have:=(this.sublist (List.drop_sublist k cs));rw[dk]at this;exact(List.pairwise_cons.mp this).1 b hb
  have m1:∀x,mB x (cs.take (k+1))↔mB x (cs.take k)\/(i<=x/\x<i+2 ^ g.toNat):=fun x=>by
   rw[tk,zie,zge];constructor
   ·rintro(z|z|z)
    ·exact .inl z
    ·exact .inr z
    ·exact absurd z UI
   ·rintro(z|z)
    ·exact .inl z
    ·exact .inr (.inl z)
  have new:(∀r∈rs,r.2<i)->∀c2 c3 c4,K [some (.val t),some (.own (pD rs++[.tuple [.int i,.int (i+2 ^ g.toNat)]])),c2,c3,c4] m:=fun hlt c2 c3 c4 =>
   hK _ _ _ _ _ ⟨rfl,rs++[(i,i+2 ^ g.toNat)],by rw[<- zf2],⟨fun r hr=>by
    rcases List.mem_append.mp hr with z|z
    ·exact nr.1 r z
    ·cases List.mem_singleton.mp z;show i<i+2 ^ g.toNat;lia,by
    rw[List.pairwise_append];exact⟨nr.2,List.pairwise_singleton _ _,fun a ha b hb=>by cases List.mem_singleton.mp hb;exact hlt a ha⟩⟩,(fun x=>by
    rw[zgd,me,m1,UO];constructor
    ·rintro(z|z|z)
     ·exact .inl z
     ·exact .inr z
     ·exact absurd z UJ
    ·rintro(z|z)
     ·exact .inl z
     ·exact .inr (.inl z)),by simp;lia,fun r hr b hb=>by
    rcases List.mem_append.mp hr with z|z
    ·exact lo r z b (by rw[dk];simp[hb])
    ·cases List.mem_singleton.mp z;exact after b hb⟩
  rcases List.eq_nil_or_concat rs with rfl|⟨rs',r,rfl⟩
  ·wp_walk using zdf g0 (by lia) ?_
   ·show 0<16777216;decide
   ·exact new (fun r hr=>nomatch hr) _ _ _
   ·exact absurd hc (by simp[pD])
  ·rw[List.concat_eq_append]at *;have sn:pD (rs'++[r])=pD rs'++[.tuple [.int r.1,.int r.2]]:=by simp[pD]
   have lr':rs'.length+1<=k:=by simpa using lr
   have r12:=nr.1 r (by simp)
   have rlo:r.1<=i:=lo r (by simp) (i,g) (by rw[dk];simp)
   have pws:=List.pairwise_append.mp nr.2;rw[sn]at new ⊢
   wp_walk using zhH ?_,zdf g0 (by lia) ?_
   all_goals first
    | (exfalso;simp at hc;done)
    | (exfalso;rename_i y;simp at y;done)
    | (simp[JG];lia)
    | skip
   ·refine zj8 zeL ?_
    wp_walk
    rw[List.set_append_right _ _ (Nat.le_refl _),Nat.sub_self];have mx:(if i+2 ^ g.toNat > r.2 then i+2 ^ g.toNat else r.2)=max r.2 (i+2 ^ g.toNat):=by split <;> lia
    refine hK _ _ _ _ _ ⟨rfl,rs'++[(r.1,max r.2 (i+2 ^ g.toNat))],?_,⟨fun s hs=>?_,?_⟩,fun x=>?_,by simp;lia,fun s hs b hb=>?_⟩
    ·rw[mx];simp[pD]
    ·rcases List.mem_append.mp hs with z|z
     ·exact nr.1 s (by simp[z])
     ·cases List.mem_singleton.mp z;show r.1<max r.2 _;lia
    ·rw[List.pairwise_append];exact⟨pws.1,List.pairwise_singleton _ _,fun a ha b hb=>by cases List.mem_singleton.mp hb;exact pws.2.2 a ha r (by simp)⟩
    ·have mex:=me x;rw[zgd,UO]at mex;rw[zgd,UO,m1,<- mex];have nn:=UJ (x:=x);show _\/(r.1<=x/\x<max r.2 (i+2 ^ g.toNat))\/_↔_
     constructor
     ·rintro(z|z|z)
      ·exact .inl (.inl z)
      ·by_cases w:x<r.2
       ·exact .inl (.inr (.inl ⟨z.1,w⟩))
       ·exact .inr (by lia)
      ·exact absurd z nn
     ·rintro((z|z|z)|z)
      ·exact .inl z
      ·exact .inr (.inl (by lia))
      ·exact absurd z nn
      ·exact .inr (.inl (by lia))
    ·rcases List.mem_append.mp hs with z|z
     ·exact lo s (by simp[z]) b (by rw[dk];simp[hb])
     ·cases List.mem_singleton.mp z;exact lo r (by simp) b (by rw[dk];simp[hb])
   ·refine new (fun s hs=>?_) _ _ _
    rcases List.mem_append.mp hs with z|z
    ·have:=pws.2.2 s z r (by simp);have:=nr.1 r (by simp);lia
    ·cases List.mem_singleton.mp z;lia
 ·rintro a1 a2 a3 a4 m ⟨rfl,rs,rfl,nr,me,lr,lo⟩;rw[JG]at me lr;rw[List.take_length]at me
  wp_walk
  exact h rs nr (fun x=>by rw[me x,zi3 pm]) (by lia)
theorem zfN:FnScope ["blocks"] ["blocks"] (Jh (top 3)):=⟨rfl,rfl,rfl,by decide +kernel,rfl,by decide +kernel,by decide +kernel⟩
def zeS:GD:=fun ts n R=>∃(bits:Int) (bs:qB) (t:PyData),ts=[t]/\(t=.list (pD bs)\/t=.tuple (pD bs))/\0<=bits/\bits<=64/\Bks bits bs/\bs.length<100000/\∀ps,CanP (fun x=>mB x bs) ps->ps.length<=bs.length->R (.tuple (pD ps)) n
theorem zhX{bits:Int}{bs:qB}{t:PyData}{n:Nat}{R:qN}(ht:t=.list (pD bs)\/t=.tuple (pD bs))(b0:0<=bits)(b1:bits<=64)(B:Bks bits bs)(l:bs.length<100000)(h:∀ps,CanP (fun x=>mB x bs) ps->ps.length<=bs.length->R (.tuple (pD ps)) n):zeS [t] n R:=⟨bits,bs,t,rfl,ht,b0,b1,B,l,h⟩
def zey(Z:ZZ):Prop:=FQ Z "fewest" (top 3) ["blocks"] 5 (spD Z.K 1 zeS)
theorem zf7(D:Dq Z.K Z.mg "fewest" (top 3) ["blocks"]) (h_patch_of:zcO Z) (h_runs_of:zdq Z) (T:Txt Z.mg):zey Z:=by
 refine' okQ D zfN rfl fun f cdv A outer s H E hr=>⟨_,(Jo (JM (JI h_patch_of hr (Jc (JI h_runs_of hr (Jc (Ja 0) Ji Jg)) Ji J3)))),?_⟩
 intro ts n R hl h;obtain⟨bits,bs,t,rfl,ht,b0,b1,B,l,h⟩:=h
 wp_walk using zg6 ht b0 b1 B l (fun rs nr me lr=>?_)
 have w:=zmO b0 b1 nr me fun x hx=>zlL b0 B hx
 wp_walk using zfz w ?_ (fun ps P=>?_)
 ·lia
 ·have C:CanP (fun x=>mB x bs) ps:=⟨rs,nr,me,P⟩
  exact h ps C (C.le b0 B)
theorem scH:FnScope ["_law_script","_law_k","_law_cell"] ["_law_script","_law_k"] (Jh (top 10)):=⟨rfl,rfl,rfl,by decide +kernel,rfl,by decide +kernel,by decide +kernel⟩
theorem zdu{f:Addr}{fd:FuncData}(D:Def K mg "_law_hand" (top 10) ["_law_script","_law_k"] f fd) (T:Txt mg):FnOk P w K mg base CX0 1 f fd ["_law_script","_law_k"] (Ux K):=by
 refine D.F.ok scH (fun vs H Q E h=>?_) (fun cdv A outer s H vs Q E hr h=>?_)
 ·obtain⟨a,ns,k,rfl,_⟩:=h
  rfl
 ·obtain⟨a,ns,k,rfl,hS,hl,k0,k1,q⟩:=h;refine⟨_,JT (J7 (i:=2) scH.nd rfl (Or.inl rfl) Jm)
   (JT (ziN (zd5 zks (pv 1) (ziW zdQ T.len QK (pb_v 0 QD)) (JN _)) (Ug (J7 (i:=2) scH.nd rfl (Or.inl rfl) (Qm Qp (pv 0) (pv 1) (fun _ _=>rfl)))) zd6)
   (Ug (Uv (zfY (zh8 (Jp Qr (pv 2) (zkg zg4 T.int boot_int (zki (zf0 zmM (pv 2) (Jp zko Jm Jm) (JN _)) QD)))
    (zh8 (Jp Qg (Jp Qg (Jp QT (pv 2) Jm) (Jp Qr Jm (pv 1))) Jm) (pb_i QD))))))),?_⟩
  refine⟨_,rfl,_,rfl,a,_,rfl,.inl hS,_,_,rfl,rfl,_,rfl,?_⟩;have fin:∀c:Int,tRet (tLst (J6 (tOp (rI CMul fun i j=>V.int (i*j)) (tVar 2) (tCB (fun xs H Q=>(∃i,xs=[.int i]/\Q (.int i) H)\/∃k,xs=[.bl k]/\Q (.int (if k then 1 else 0)) H) (J6 (tOp (rI0 fun i j=>.bl (decide (j<=i))) (tVar 2) (tOp (rI CPow fun i j=>.int (i ^ j.toNat)) (tC (.int 10)) (tC (.int 18)))) tNil)))
    (J6 (tOp (rI0 fun i j=>.int (i+j)) (tOp (rI0 fun i j=>.int (i+j)) (tOp (rI (fun _ j=>0<j) fun i j=>.int (i % j)) (tVar 2) (tC (.int 2305843009213693951))) (tOp (rI CMul fun i j=>V.int (i*j)) (tC (.int 7919)) (tVar 1))) (tC (.int 3))) (J6 (tC (.int 0)) tNil))))
    { nx:=fun _ H'=>Q .non H',rt:=Q } [some (.ref a),some (.int k),some (.int c)] H:=by
   intro c;refine⟨_,rfl,_,rfl,_,_,rfl,rfl,⟨by decide,by decide,by decide⟩,_,_,rfl,rfl,.inr ⟨_,rfl,_,_,rfl,rfl,.inr ?_,?_⟩⟩
   ·split <;> decide
   ·refine⟨_,rfl,_,_,rfl,rfl,(by show(0:Int)<2305843009213693951;decide),_,rfl,_,_,rfl,rfl,.inl ⟨by decide,by decide⟩,_,_,rfl,rfl,_,_,rfl,rfl,(by show 3<=sizeLine;decide),fun l hn=>?_⟩
    refine q l _ hn ⟨_,_,_,JC,?_,?_,Int.le_refl _,Int.le_refl _⟩ (zhj hn)
    ·lia
    ·lia
  refine zk3 (fun c=>?_) (fun c=>?_)
  ·have hk:k.toNat<ns.length:=by rw[List.length_map]at c;lia
   refine⟨_,rfl,_,rfl,a,_,_,V.int (ns[k.toNat]),rfl,rfl,hS,?_,?_⟩
   ·exact zjy k0 (by rw[List.getElem?_map,List.getElem?_eq_getElem hk];rfl)
   ·exact fin _
  ·exact fin 0
def zcg(Z:ZZ):Prop:=FQ Z "_law_hand" (top 10) ["_law_script","_law_k"] 1 (Ux Z.K)
theorem zc4(D:Dq Z.K Z.mg "_law_hand" (top 10) ["_law_script","_law_k"]) (T:Txt Z.mg):zcg Z:=by
 obtain⟨f,fd,D⟩:=D;exact⟨f,fd,D,zdu D T⟩
theorem zdn{H:Hp}{hd:Addr}{o:HO}:zlP hd H (upd H hd o):=fun b u e n=>by rw[Je n];exact e
theorem scT:FnScope ["_law_hand_here","_law_many","_law_digit","_law_turn","_law_mixed","_law_other"] ["_law_hand_here","_law_many"] (Jh (top 11)):=⟨rfl,rfl,rfl,by decide +kernel,rfl,by decide +kernel,by decide +kernel⟩
theorem zhw{f:Addr}{fd:FuncData}(D:Def K mg "_law_take" (top 11) ["_law_hand_here","_law_many"] f fd) (T:Txt mg):FnOk P w K mg base CX0 1 f fd ["_law_hand_here","_law_many"] zh3:=by
 refine D.F.ok scT (fun vs H Q E h=>?_) (fun cdv A outer s H vs Q E hr h=>?_)
 ·obtain⟨hd,many,n,rfl,_⟩:=h
  rfl
 ·obtain⟨hd,many,n,rfl,⟨d,m,t,hh,m0,m1,t0,t1⟩,hn,y0,y1,q⟩:=h;refine⟨_,JT (ziN (zd5 zku (Qm Qp (pv 0) Jm (fun _ _=>rfl)) Jm (JN _))
    (JT (J7 (i:=2) scT.nd rfl (Or.inl rfl) (Jp QT (Qm Qp (pv 0) Jm (fun _ _=>rfl)) (pv 1)))
    (JT (UK (Jp zc2 (Qm Qp (pv 0) Jm (fun _ _=>rfl)) (pv 1)) (pg_sub (pv 0) Jm set_list))
    (Ug (Uv (pv 2))))) zd6)
   (JT (UK (Jp Qg (Qm Qp (pv 0) Jm (fun _ _=>rfl)) Jm) (pg_sub (pv 0) Jm set_list))
   (JT (J7 (i:=3) scT.nd rfl (Or.inl rfl) (Qm Qp (pv 0) Jm (fun _ _=>rfl)))
   (JT (J7 (i:=4) scT.nd rfl (Or.inl rfl) (Jp QT (Jp Qr (Qm Qp (pv 0) Jm (fun _ _=>rfl)) (Jp Qg (Jp Qg Jm (Jp Qr (Jp Qr Jm (pv 3)) (pv 3))) (Jp Qr Jm (pv 3)))) Jm))
   (JT (J7 (i:=5) scT.nd rfl (Or.inl rfl) (Jp Qg (Jp Qg (Jp QT (pv 4) Jm) (Jp Qr (pv 3) Jm)) Jm))
   (JT (J7 (i:=4) scT.nd rfl (Or.inl rfl) (Jp QT (Jp Qr (pv 4) (pv 5)) Jm))
   (Ug (Uv (Jp QT (Jp Qg (Jp zc2 (pv 4) Jm) (Jp zc2 (pv 4) Jm)) (pv 1))))))))),?_⟩
  refine⟨_,rfl,hd,_,_,_,rfl,rfl,.of hh,rfl,_,_,rfl,rfl,_,rfl,?_⟩;refine zk3 (fun c=>?_) (fun c=>?_)
  ·refine⟨_,rfl,hd,_,_,_,rfl,rfl,.of hh,rfl,_,rfl,_,_,rfl,rfl,y0,?_⟩;refine⟨_,rfl,hd,_,_,_,rfl,rfl,.of hh,rfl,_,rfl,_,_,rfl,rfl,⟨y0,y1⟩,?_⟩;refine⟨_,rfl,hd,_,_,0,rfl,rfl,hh,rfl,?_⟩;refine⟨_,rfl,?_⟩;exact q _ _ (Int.emod_nonneg _ (by lia)) (Int.emod_lt_of_pos _ y0) ⟨_,_,_,JC,m0,m1,t0,by lia⟩ zdn
  ·refine⟨_,rfl,hd,_,_,_,rfl,rfl,.of hh,rfl,_,_,rfl,rfl,?_⟩;refine⟨_,rfl,hd,_,_,2,rfl,rfl,hh,rfl,?_⟩;refine⟨_,rfl,hd,_,_,_,rfl,rfl,.of JC,rfl,?_⟩;refine⟨_,rfl,hd,_,_,_,rfl,rfl,.of JC,rfl,_,rfl,_,_,rfl,rfl,.inl ⟨by decide,by decide⟩,_,rfl,_,_,rfl,rfl,.inr ⟨by lia,by lia⟩,_,_,rfl,rfl,_,rfl,_,_,rfl,rfl,.inl ⟨by decide,by decide⟩,_,_,rfl,rfl,_,_,rfl,rfl,.inl ⟨by lia,by lia⟩,_,_,rfl,rfl,(by show(0:Int)<2305843009213693921;decide),?_⟩
   refine⟨_,rfl,_,_,rfl,rfl,(by show(0:Int)<1000003;decide),_,rfl,_,_,rfl,rfl,.inr ⟨by decide,by decide⟩,_,_,rfl,rfl,_,_,rfl,rfl,?_⟩
   refine⟨_,rfl,_,rfl,_,_,rfl,rfl,.inl ⟨by lia,by lia⟩,_,_,rfl,rfl,(by show(0:Int)<2305843009213693907;decide),?_⟩
   refine⟨_,rfl,_,_,rfl,rfl,⟨by decide,by decide⟩,_,rfl,_,_,rfl,rfl,⟨by decide,by decide⟩,_,_,rfl,rfl,_,rfl,_,_,rfl,rfl,y0,?_⟩
   exact q _ _ (Int.emod_nonneg _ (by lia)) (Int.emod_lt_of_pos _ y0) ⟨_,_,_,JC,m0,m1,by lia,by lia⟩ zdn
theorem zdt{f:Addr}{fd:FuncData}(D:Def K mg "_law_take" (top 11) ["_law_hand_here","_law_many"] f fd) (T:Txt mg):FnOk P w K mg base CX0 1 f fd ["_law_hand_here","_law_many"] (spD K 2 Ua) :=
 (zhw D T).imp zhh
def zcf(Z:ZZ):Prop:=FQ Z "_law_take" (top 11) ["_law_hand_here","_law_many"] 1 (spD Z.K 2 Ua)
theorem zc3(D:Dq Z.K Z.mg "_law_take" (top 11) ["_law_hand_here","_law_many"]) (T:Txt Z.mg):zcf Z:=by
 obtain⟨f,fd,D⟩:=D;exact⟨f,fd,D,zdt D T⟩
theorem Uo:FnScope ["_law_bits","_law_there","_law_found","_law_height","_law_size","_law_begin"] ["_law_bits","_law_there"] (Jh (top 12)):=⟨rfl,rfl,rfl,by decide +kernel,rfl,by decide +kernel,by decide +kernel⟩
def za_:GD:=fun ts n R=>∃(bits:Int) (ns:List Int),ts=[.int bits,.dict (Jx (kJ ns))]/\0<=bits/\bits<=3/\∀bs,AllI bits ns (bits+1) 0 bs->R (.list (pD bs)) n
theorem zbW{bits:Int}{ns:List Int}{n:Nat}{R:qN}(b0:0<=bits)(b1:bits<=3)(h:∀bs,AllI bits ns (bits+1) 0 bs->R (.list (pD bs)) n):za_ [.int bits,.dict (Jx (kJ ns))] n R:=⟨bits,ns,rfl,b0,b1,h⟩
def za7(Z:ZZ):Prop:=FQ Z "_law_all_blocks" (top 12) ["_law_bits","_law_there"] 1 (spD Z.K 2 za_)
theorem zbN(D:Dq Z.K Z.mg "_law_all_blocks" (top 12) ["_law_bits","_law_there"]) (T:Txt Z.mg):za7 Z:=by
 refine' okQ D Uo rfl fun f cdv A outer s H E hr=>⟨_,(Js (UC (i:=2) Uo.nd rfl (Or.inl rfl) (QA Ji)) (Js (Qf PassesOwn.never rfl (QW T.ran (Qe (dl (Ja 0)) (dl Jf))) (Jq (i:=3) Uo.nd rfl (Or.inl rfl)) (Js (JW (i:=4) Uo.nd rfl (Or.inl rfl) (Qz (dl Jf) (dl (Ja 3)))) (Jo (Qf PassesOwn.never rfl (zgO T.ran Jf (Qz (dl Jf) (dl (Ja 0))) (Ja 4)) (Jq (i:=5) Uo.nd rfl (Or.inl rfl)) (Jo (QO (zgJ (dl (JQ (zdS rfl) zin T.all zdV (Jz (dl (J9 (Ud (own:=["_law_address"]) (capt:=[1]) rfl (CompScope.of rfl) (dil (zdH T.ran (Ja 5) (Qe (dl (Ja 5)) (dl (Ja 4))))) (fun _ _ _ _=>(Jq (i:=0) (by show(["_law_address","_law_there"]:List Str).Nodup;decide +kernel) rfl (Or.inl rfl))) (by decide) (fun _ _ _ _=>Uf) (fun _ _ _ _=>(zgT zkt zlm (dl (Ja 0)) (dl (Ja 1)) rfl))))) JH UP)))) (Jo (UT 2 (Qa (Jc (Ja 5) (Jc (Ja 3) Ji Jg) Jg)))) Ue)))))) (UR 2 (Jo (JM (Ja 2)))))),?_⟩
 intro ts n R hl h;obtain⟨bits,ns,rfl,b0,b1,h⟩:=h
 wp_walk
 all_goals try lia
 have p8b:=pow8 (k:=bits.toNat) (by lia)
 refine zgG 2 3 4 5 (fun k a2 _ _ _ m=>m=n/\∃fs,a2=some (.own (pD fs))/\AllI bits ns k 0 fs/\fs.length<=256*k) ⟨rfl,[],rfl,AllI.start,Nat.le_refl _⟩ ?_ ?_
 ·rintro k t' a2 a3 a4 a5 m K RT BK et ⟨rfl,fs,rfl,I,lf⟩ hK hRT hBK;obtain⟨hk,rfl⟩:=QM et;rw[Int.zero_add];generalize hg:(k:Int)=g at *;have g0:0<=g:=by lia
  have g1:g<=bits:=by lia
  have pg:=Bd.zaf g.toNat;have p8:=pow8 (k:=g.toNat) (by lia)
  have pk:=pow8 (k:=(bits - g).toNat) (by lia)
  have pe:=Bd.zaf (bits - g).toNat;have ee:(2:Int) ^ bits.toNat=2 ^ ((bits - g).toNat+g.toNat):=by congr 1;lia
  wp_walk
  all_goals try exact cpow (by lia) (by lia)
  all_goals try(simp only[Qt];lia)
  all_goals try lia
  simp only[Qt];rw[ee,ziG];refine zlx 2 5 (fun j a2 _ m'=>m'=m/\∃fs,a2=some (.own (pD fs))/\AllI bits ns g j fs/\fs.length<=256*k+j) ⟨rfl,fs,rfl,I,by lia⟩ ?_ ?_
  ·rintro j t' a2 a5 m K' RT' BK' et ⟨rfl,fs,rfl,I,lf⟩ hK' hRT' hBK';obtain⟨hj,rfl⟩:=zfe et;rw[Int.zero_add];have j1:(j:Int)<2 ^ (bits - g).toNat:=by
    have:((2 ^ (bits - g).toNat:Nat):Int)=2 ^ (bits - g).toNat:=by rw[Int.natCast_pow];simp
    lia
   have Bb:IsBk bits ((j:Int)*2 ^ g.toNat) g:=⟨g0,g1,j,by lia,rfl,j1⟩
   have bd:=Bb.bounds b0;have add:=fun z=>I.add Bb z
   have skip:=fun z=>I.skip z
   generalize hi:(j:Int)*2 ^ g.toNat=i at *
   wp_walk
   all_goals try lia
   have e1:(i+2 ^ g.toNat - i).toNat=2 ^ g.toNat:=by
    have:((2 ^ g.toNat:Nat):Int)=2 ^ g.toNat:=by rw[Int.natCast_pow];simp
    lia
   rw[e1];have c1:((2 ^ g.toNat:Nat):Int)=2 ^ g.toNat:=by rw[Int.natCast_pow];simp
   refine zcy (cs:=List.range (2 ^ g.toNat)) (D:=fun k:Nat=>PyData.int (i+(k:Int))) (fun k=>.bool (decide (i+(k:Int)∈ns))) (by simp;lia) ?_ ?_
   ·intro q hq K2 X2 h1
    wp_walk using znd ?_
    rw[zlN];exact h1
   ·have full:((List.range (2 ^ g.toNat)).all fun k:Nat=>decide (i+(k:Int)∈ns))=true↔InS ns (i,g):=by
     rw[List.all_eq_true];constructor
     ·intro z x x1 x2;have x2:x<i+2 ^ g.toNat:=x2;have x1:i<=x:=x1;have:=of_decide_eq_true (z (x - i).toNat (List.mem_range.mpr (by lia)))
      have e:i+(((x - i).toNat:Nat):Int)=x:=by lia
      rw[e]at this;exact this
     ·intro z k hk;have hk:=List.mem_range.mp hk;exact decide_eq_true (z _ (by show i<=_;lia) (by show _<i+2 ^ g.toNat;lia))
    wp_walk using zik ?_
    ·rw[JG];lia
    ·refine hK' _ _ _ ⟨rfl,fs++[(i,g)],by rw[<- zf2],?_,by simp;lia⟩
     rw[Int.natCast_succ];exact add (full.mp hc)
    ·refine hK' _ _ _ ⟨rfl,fs,rfl,?_,by lia⟩
     rw[Int.natCast_succ];exact skip fun z=>by rw[full.mpr z]at hc;cases hc
  ·rintro a2 a5 m' ⟨rfl,fs,rfl,I,lf⟩;rw[zfd]at I lf;have c1:((2 ^ (bits - g).toNat:Nat):Int)=2 ^ (bits - g).toNat:=by rw[Int.natCast_pow];simp
   have c8:(2:Nat) ^ (bits - g).toNat<=256:=by lia
   refine hK _ _ _ _ _ ⟨rfl,fs,rfl,?_,by lia⟩
   have:=I.up g0 c1;rw[Int.natCast_succ,hg];exact this
 ·rintro a2 a3 a4 a5 m ⟨rfl,fs,rfl,I,lf⟩;rw[US]at I lf
  wp_walk
  have e:(((bits+1).toNat:Nat):Int)=bits+1:=by lia
  rw[e]at I;exact h fs I
theorem JZ:FnScope ["_law_blocks","_law_many","_law_addresses","_law_begun","_law_turn","_law_longer","_law_patch","_law_at","_law_size","_law_k","_law_begin","_law_height"] ["_law_blocks","_law_many","_law_addresses"] (Jh (top 13)):=⟨rfl,rfl,rfl,by decide +kernel,rfl,by decide +kernel,by decide +kernel⟩
def U0:GD:=fun ts n R=>∃(bits:Int) (B:BL) (many w:Int),ts=[.list (pD B),.int many,.int w]/\0<=bits/\bits<=64/\Bks bits B/\B.length<=15/\0<=many/\many<=15/\∀ess,Paired (PatR bits B) (selF B many.toNat w) ess->R (.list (ess.map fun es=>.tuple (pD es))) n
theorem zbe{bits:Int}{B:BL}{many w:Int}{n:Nat}{R:qN}(b0:0<=bits)(b1:bits<=64)(bk:Bks bits B)(l:B.length<=15)(m0:0<=many)(m1:many<=15)(h:∀ess,Paired (PatR bits B) (selF B many.toNat w) ess->R (.list (ess.map fun es=>.tuple (pD es))) n):U0 [.list (pD B),.int many,.int w] n R:=⟨bits,B,many,w,rfl,b0,b1,bk,l,m0,m1,h⟩
def za6(Z:ZZ):Prop:=FQ Z "_law_patches_of" (top 13) ["_law_blocks","_law_many","_law_addresses"] 1 (spD Z.K 3 U0)
theorem zbM(D:Dq Z.K Z.mg "_law_patches_of" (top 13) ["_law_blocks","_law_many","_law_addresses"]) (T:Txt Z.mg):za6 Z:=by
 refine' okQ D JZ rfl fun f cdv A outer s H E hr=>⟨_,(Js (JW (i:=3) JZ.nd rfl (Or.inl rfl) (J9 (QA (Jc (Qa (Jc (Qa Ji) (Jc Jf (Jc Jf Ji QJ) QJ) zep)) Ji zep)))) (Js (Qf PassesOwn.never rfl (QW T.ran (Ja 1)) (Jq (i:=4) JZ.nd rfl (Or.inl rfl)) (Js (UC (i:=5) JZ.nd rfl (Or.inl rfl) (QA Ji)) (Js (Qf PassesOwn.never rfl (zeg (Ja 3)) (Q8 rfl (JS (Jq (i:=6) JZ.nd rfl (Or.inl rfl)) (JS (Jq (i:=7) JZ.nd rfl (Or.inl rfl)) (JS (Jq (i:=8) JZ.nd rfl (Or.inl rfl)) Uc)))) (Jo (Qf PassesOwn.never rfl (zdH T.ran (Ja 7) (JQ UW UF T.len QK (Jz (dl (Ja 0)) JH Jg))) (Jq (i:=9) JZ.nd rfl (Or.inl rfl)) (Js (zir (JR (dl (Ja 0)) (dl (Ja 9))) (Q8 rfl (JS (Jq (i:=10) JZ.nd rfl (Or.inr rfl)) (JS (Jq (i:=11) JZ.nd rfl (Or.inr rfl)) Uc)))) (Jo (QO (zgJ (dl (JQ (zdS rfl) zin T.all zdV (Jz (dl (J9 (Ud (own:=["_law_one"]) (capt:=[10,11]) rfl (CompScope.of rfl) (dil (zis (Ja 6))) (fun _ _ _ _=>(Jq (i:=0) (by show(["_law_one","_law_begin","_law_height"]:List Str).Nodup;decide +kernel) rfl (Or.inl rfl))) (by decide) (fun _ _ _ _=>Uf) (fun _ _ _ _=>(zlF (zgT zf5 zgE (dl (Qe (dl (Ja 1)) (dl (Qz (dl Jf) (dl (Ja 2)))))) (dl (JR (dl (Ja 0)) (dl Jf))) (JN _)) (zlG (zgT zf5 zgE (dl (Qe (dl (JR (dl (Ja 0)) (dl Jf))) (dl (Qz (dl Jf) (dl (JR (dl (Ja 0)) (dl Jf))))))) (dl (Ja 1)) (JN _)))))))) JH UP)))) (Jo (UT 5 (Qa (Jc (Qe (dl (Ja 6)) (dl (Qa (Jc (JR (dl (Ja 0)) (dl (Ja 9))) Ji zh2)))) (Jc (Qe (dl (Ja 9)) (dl Jf)) (Jc (Qe (dl (Ja 8)) (dl (Qz (dl Jf) (dl (Ja 11))))) Ji Uy) Uy) Uy)))) Ue)))))) (UR 5 (Jo (JW (i:=3) JZ.nd rfl (Or.inl rfl) (Ja 5))))))) (Jo (JM (J9 (Ud (own:=["_law_patch","_law_at","_law_size"]) (capt:=[2]) rfl (CompScope.of rfl) (dil (zeg (Ja 3))) (fun _ _ _ _=>(Q8 rfl (JS (Jq (i:=0) (by show(["_law_patch","_law_at","_law_size","_law_addresses"]:List Str).Nodup;decide +kernel) rfl (Or.inl rfl)) (JS (Jq (i:=1) (by show(["_law_patch","_law_at","_law_size","_law_addresses"]:List Str).Nodup;decide +kernel) rfl (Or.inl rfl)) (JS (Jq (i:=2) (by show(["_law_patch","_law_at","_law_size","_law_addresses"]:List Str).Nodup;decide +kernel) rfl (Or.inl rfl)) Uc))))) (by decide) (fun _ _ _ _=>(zgI (QB (zh_ hr) zln (dl (Ja 2)) (dl (Ja 3)) (JN _)))) (fun _ _ _ _=>(zjs zbm zdb T.tup zbD (Jz (dl (J9 (zdF hr T.srt (dl (Ja 0)) Jg))) JH J3))))))))),?_⟩
 intro ts n R hl h;obtain⟨bits,B,many,w,rfl,b0,b1,bk,l,m0,m1,h⟩:=h
 wp_walk
 all_goals try lia
 refine zlu 3 4 5 6 7 8 9 10 11 (fun t a3 _ _ _ _ _ _ _ _ m=>m=n/\a3=some (.val (.list ((selT B t).map (rowD B))))) ⟨rfl,rfl⟩ ?_ ?_
 ·rintro t t' a3 a4 a5 a6 a7 a8 a9 a10 a11 m K RT BK et ⟨rfl,rfl⟩ hK hRT hBK;obtain⟨ht,rfl⟩:=QM et
  wp_walk
  refine zlv 5 6 7 8 9 10 11 (fun r a5 _ _ _ _ _ _ m'=>m'=m/\a5=some (.own ((soFar B t r).map (rowD B)))) ⟨rfl,rfl⟩ ?_ ?_
  ·rintro r t' a5 a6 a7 a8 a9 a10 a11 m K' RT' BK' et ⟨rfl,rfl⟩ hK' hRT' hBK';rw[List.getElem?_map]at et;obtain⟨is,his,rfl⟩:=Option.map_eq_some_iff.mp et;have S:=QI.mp (List.mem_of_getElem? his);have nx:=S.next;have er:rowD B is=.tuple [.tuple (pD (is.map (bat B))),.int (nextOf is),.int (szB (is.map (bat B)))]:=rfl;rw[er]
   wp_walk
   all_goals try(rw[JG];lia)
   all_goals try lia
   rw[JG];refine zgG 5 9 10 11 (fun j a5 _ _ _ m'=>m'=m/\a5=some (.own ((soFar B t r++kids B is (nextOf is+j)).map (rowD B)))) ⟨rfl,by rw[Nat.add_zero,zhE (Nat.le_refl _),List.append_nil];rfl⟩ ?_ ?_
   ·rintro j t' a5 a9 a10 a11 m K2 RT2 BK2 et ⟨rfl,rfl⟩ hK2 hRT2 hBK2;obtain⟨hj,rfl⟩:=QM et;have hk:nextOf is+j<B.length:=by lia
    have ek:((nextOf is:Nat):Int)+(j:Int)=((nextOf is+j:Nat):Int):=by lia
    rw[ek];generalize hkk:nextOf is+j=k at *;have gb:(pD B)[k]?=some (prD (bat B k)):=by
     rw[QX hk,pD,List.getElem?_map,List.getElem?_eq_getElem hk];rfl
    have Bk:=bk _ (UN hk);have ln:(soFar B t r++kids B is k).length<16777216:=by
     have l1:=zfJ l t (r+1);rw[zcJ his,List.length_append]at l1;have l2:=zja (B:=B) (is:=is) (m:=k) (p:=B.length) (by lia)
     rw[List.length_append];lia
    have ro:=zhm (B:=B) (is:=is) (k:=k);have yes:=zhD (B:=B) (is:=is) (m:=k) (by lia)
    have no:=zi_ (B:=B) (is:=is) (m:=k);generalize hb:bat B k=b at *;obtain⟨i,g⟩:=b;have g0:0<=g:=Bk.1;have g1:g<=bits:=Bk.2.1;have gb:(pD B)[k]?=some (.tuple [.int i,.int g]):=gb
    wp_walk using zif gb ?_
    refine zcy (cs:=is.map (bat B)) (D:=prD) (fun b=>.bool (dsj (i,g) b)) (by rw[List.length_map,S.len];lia) ?_ ?_
    ·rintro⟨i',g'⟩ hb' K3 X3 hK3;obtain⟨q,hq,eq⟩:=List.mem_map.mp hb';have Bq:=bk _ (UN (S.lt q hq));rw[eq]at Bq;have g0':0<=g':=Bq.1;have g1':g'<=bits:=Bq.2.1
     wp_walk
     ·exact cpow (by lia) (by lia)
     ·have hc:i+2 ^ g.toNat<=i':=by rw[Qt]at hc;exact hc
      have:dsj (i,g) (i',g')=true:=by simp[dsj,eB,hc]
      rw[this]at hK3;exact hK3
     ·exact cpow (by lia) (by lia)
     ·have hc:¬i+2 ^ g.toNat<=i':=by rw[Qt]at hc;exact hc
      have:dsj (i,g) (i',g')=decide (i'+2 ^ g'.toNat<=i):=by
       show(decide (i+2 ^ g.toNat<=i')||decide (i'+2 ^ g'.toNat<=i))=_
       rw[decide_eq_false hc,Bool.false_or]
      rw[this]at hK3;rw[Qt];exact hK3
    ·wp_walk using zik ?_,zif gb ?_
     ·rw[JG,List.length_map,S.len];show t+1<=_
      lia
     ·exact cpow (by lia) (by lia)
     ·rw[List.length_map];exact ln
     ·refine hK2 _ _ _ _ _ ⟨rfl,?_⟩;have e:nextOf is+(j+1)=k+1:=by lia
      rw[e,yes hc,<- List.append_assoc,List.map_append (l₂:=[is++[k]]),List.map_singleton,ro,Qt,Int.natCast_succ]
     ·refine hK2 _ _ _ _ _ ⟨rfl,?_⟩;have e:nextOf is+(j+1)=k+1:=by lia
      rw[e,no hc]
   ·rintro a5 a9 a10 a11 m' ⟨rfl,rfl⟩;rw[US];refine hK' _ _ _ _ _ _ _ _ ⟨rfl,?_⟩;have e:nextOf is+(((B.length:Nat):Int) - (nextOf is:Nat)).toNat=B.length:=by lia
    rw[zcJ his,e]
  ·rintro a5 a6 a7 a8 a9 a10 a11 m' ⟨rfl,rfl⟩;rw[List.length_map,zfK]
   wp_walk
   exact hK _ _ _ _ _ _ _ _ _ _ ⟨rfl,rfl⟩
 ·rintro a3 a4 a5 a6 a7 a8 a9 a10 a11 m ⟨rfl,rfl⟩;rw[US]
  wp_walk
  refine zdK (cs:=selT B many.toNat) (D:=rowD B) (P:=PatR bits B) (G:=fun es=>.tuple (pD es)) (fun is=>decide (szB (is.map (bat B))=w)) (by have:=zet l many.toNat;lia) ?_ ?_
  ·intro is his K2 X2 h1 h2;have S:=QI.mp his;have er:rowD B is=.tuple [.tuple (pD (is.map (bat B))),.int (nextOf is),.int (szB (is.map (bat B)))]:=rfl;rw[er]
   wp_walk
   ·refine zkR b1 (fun b hb=>?_) ?_ ?_ fun es P pm=>?_
    ·obtain⟨k,hk,rfl⟩:=List.mem_map.mp hb;exact bk _ (UN (S.lt k hk))
    ·refine List.pairwise_map.mpr (S.dis.imp fun {a b} d=>?_)
     unfold dsj at d;rw[Bool.or_eq_true,decide_eq_true_eq,decide_eq_true_eq]at d;exact d.symm
    ·rw[List.length_map,S.len];have:100000=100000:=rfl;lia
    ·wp_walk
     exact h1 (decide_eq_true hc) es ⟨P,pm⟩
   ·exact h2 (decide_eq_false hc)
  ·intro ess pr
   wp_walk
   exact h ess pr
theorem Qh:FnScope ["_law_script","_law_k","_law_hand_here","_law_turn","_law_bits","_law_there","_law_blocks","_law_found","_law_many"] ["_law_script"] (Jh (top 14)):=⟨rfl,rfl,rfl,by decide +kernel,rfl,by decide +kernel,by decide +kernel⟩
theorem zg7{bits:Int}{xs:List Int}{bs ps:BL}{m:Nat}{n:Nat}{R:qN}(X:Blks bits xs bs)(C:CanP (fun x=>x∈xs) ps)(b1:bits<=64)(l:bs.length<=15)(m1:m<=15)(h:m<ps.length)(k:R (.list []) n):U0 [.list (pD bs),.int (m:Int),.int ((kJ xs).length:Int)] n R :=
 zbe X.b0 b1 X.bk l (by lia) (by lia) fun ess pr=>by
  rw[zgt,show((m:Int)).toNat=m from rfl]at pr
  rw[X.resNone C h pr];exact k
theorem zhW{bits:Int}{xs:List Int}{bs ps:BL}{n:Nat}{R:qN}(X:Blks bits xs bs)(C:CanP (fun x=>x∈xs) ps)(b1:bits<=64)(l:bs.length<=15)(m1:ps.length<=15)(k:R (.list [.tuple (pD ps)]) n):U0 [.list (pD bs),.int ((pD ps).length:Int),.int ((kJ xs).length:Int)] n R:=by
 rw[JG];exact zbe X.b0 b1 X.bk l (by lia) (by lia) fun ess pr=>by
  rw[zgt,show((ps.length:Int)).toNat=ps.length from rfl]at pr
  rw[X.resOne C pr];exact k
theorem p13(r:Int)(r0:0<=r)(r1:r<3):0<(1:Int)*2 ^ (1+r).toNat/\(1:Int)*2 ^ (1+r).toNat<=8:=by
 have:r=0\/r=1\/r=2:=by lia
 rcases this with rfl|rfl|rfl <;> decide
theorem zkx{f:Addr}{fd:FuncData}(D:Def Z.K Z.mg "law" (top 14) ["_law_script"] f fd) (h__law_hand:zcg Z) (h__law_all_blocks:za7 Z) (h_fewest:zey Z) (h__law_take:zcf Z) (h__law_patches_of:za6 Z) (T:Txt Z.mg):FnOk Z.P Z.w Z.K Z.mg Z.base CX0 6 f fd ["_law_script"] (spD Z.K 1 zlq):=by
 refine D.okD Qh rfl fun cdv A outer s H E hr=>?_
 refine'⟨_,(Js (Qf PassesOwn.never rfl (QW T.ran (JQ (zdP rfl) zim T.max zdU (Jz (dl Jf) (Jz (dl (JQ (zdO rfl) zil T.min zdT (Jz (dl Jf) (Jz (dl (JQ UW UF T.len QK (Jz (dl (Ja 0)) JH Jg))) JH J3) QJ))) JH J3) QJ))) (Jq (i:=1) Qh.nd rfl (Or.inl rfl)) (zgK (i:=2) (j:=1) h__law_hand hr Qh.nd rfl (Or.inr rfl) (Jo (Qf PassesOwn.never rfl (QW T.ran Jf) (Jq (i:=3) Qh.nd rfl (Or.inl rfl)) (Js (JW (i:=4) Qh.nd rfl (Or.inl rfl) (Qe (dl Jf) (dl (JI h__law_take hr (Jc (Ja 2) (Jc Jf Ji QJ) Jg))))) (Js (JW (i:=5) Qh.nd rfl (Or.inl rfl) (zhT rfl T.dct (Ud (own:=["_law_address"]) (capt:=[2]) rfl (CompScope.of rfl) (dil (QW T.ran (Qz (dl Jf) (dl (Ja 4))))) (fun _ _ _ _=>(Jq (i:=0) (by show(["_law_address","_law_hand_here"]:List Str).Nodup;decide +kernel) rfl (Or.inl rfl))) (by decide) (fun _ _ _ _=>(zgI (QB zku gp_B (dl (JI h__law_take hr (Jc (Ja 1) (Jc Jf Ji QJ) Jg))) (dl Jf) (JN _)))) (fun _ _ _ _=>(Qa (Jc (Ja 0) (Jc Ut Ji ziB) Jg)))))) (Js (JW (i:=6) Qh.nd rfl (Or.inl rfl) (JI h__law_all_blocks hr (Jc (Ja 4) (Jc (Ja 5) Ji Jg) Jg))) (Js (JW (i:=7) Qh.nd rfl (Or.inl rfl) (JI h_fewest hr (Jc (J9 (Ud (own:=["_law_address"]) (capt:=[]) rfl (CompScope.of rfl) (dil (zjr (Ja 5))) (fun _ _ _ _=>(Jq (i:=0) (by show(["_law_address"]:List Str).Nodup;decide +kernel) rfl (Or.inl rfl))) (by decide) (fun _ _ _ _=>Uf) (fun _ _ _ _=>(Qa (Jc (Ja 0) (Jc Jf Ji QJ) Jg))))) Ji UP))) (Js (Qf PassesOwn.never rfl (QW T.ran (JQ UW UF T.len QK (Jz (dl (Ja 7)) JH Jg))) (Jq (i:=8) Qh.nd rfl (Or.inl rfl)) (Jo (QO (QB (zh9 hr) zlk (dl (JI h__law_patches_of hr (Jc (Ja 6) (Jc (Ja 8) (Jc (JQ zdR zgD T.len QK (Jz (dl (Ja 5)) JH Jg)) Ji J3) Jg) Jg))) (dl (J9 (QA Ji))) (JN _)) (Jo (JM Ut)) Ue))) (Jo (QO (QB (zh9 hr) zlk (dl (JI h__law_patches_of hr (Jc (Ja 6) (Jc (JQ UW UF T.len QK (Jz (dl (Ja 7)) JH Jg)) (Jc (JQ zdR zgD T.len QK (Jz (dl (Ja 5)) JH Jg)) Ji J3) J3) Jg))) (dl (J9 (QA (Jc (Ja 7) Ji Jg)))) (JN _)) (Jo (JM Ut)) Ue))))))))))) (Jo (JM Ut))),?_⟩
 intro ts n R hl hh;obtain⟨ns,rfl,hl63,hh⟩:=hh
 wp_walk
 ·split <;> (try split) <;> lia
 ·split <;> (try split) <;> lia
 refine QH (fun _ ρ m=>∃a1 a2 a3 a4 a5 a6 a7 a8,ρ=[some (.val (SCR ns)),a1,a2,a3,a4,a5,a6,a7,a8]/\m=n) ⟨_,_,_,_,_,_,_,_,rfl,rfl⟩ ?_ ?_
 ·rintro k t ρ m K et ⟨a1,a2,a3,a4,a5,a6,a7,a8,rfl,rfl⟩ hK;obtain⟨hk,rfl⟩:=QM et;have hk8:k<8:=by
   revert hk;split <;> (try split) <;> lia
  with_reducible refine Stp.go ?_
  refine zhJ hl63 (by lia) (by lia) fun NX RT BK CT hNX hRT hBK hCT=>?_
  wp_walk
  ·lia
  ·lia
  refine zlw 3 4 5 6 7 8 (fun t _ _ _ _ _ _ m'=>m'<=9*t) (Nat.le_refl _) ?_ ?_
  ·rintro t t' a3 a4 a5 a6 a7 a8 m' K' RT' BK' et hm hK' hRT' hBK';obtain⟨ht,rfl⟩:=QM et;have ht3:t<3:=ht
   wp_walk using ziv ?_ ?_ ?_ (fun r r0 r1=>?_)
   ·lia
   ·lia
   ·lia
   ·exact cpow (by lia) (by lia)
   ·have:=p13 r r0 r1;lia
   ·have:=p13 r r0 r1;lia
   have b0:0<=1+r:=by lia
   have b3:1+r<=3:=by lia
   generalize hb:1+r=bits at *;have p8:(2:Int) ^ bits.toNat<=8:=by
    have:bits=0\/bits=1\/bits=2\/bits=3:=by lia
    rcases this with rfl|rfl|rfl|rfl <;> decide
   have pp:=Bd.zaf bits.toNat;rw[Qt];refine zg2 (fun j acc m2=>m2<=m'+1+j/\∃xs:List Int,acc=(kJ xs).map prI/\xs.Pairwise (·<·)/\∀x∈xs,0<=x/\x<j) ⟨Nat.le_refl _,[],rfl,.nil,fun x hx=>nomatch hx⟩ ?_ ?_
   ·rintro j x acc m2 K2 ej ⟨hm2,xs,rfl,pw,bd⟩ hK2;obtain⟨hj,rfl⟩:=QM ej;rw[Int.zero_add];have nd:xs.Nodup:=pw.imp fun h e=>by lia
    have l8:=few8 b0 b3 nd fun x hx=>by have:=bd x hx;lia
    wp_walk using ziv ?_ ?_ ?_ (fun r2 q0 q1=>?_)
    ·lia
    ·lia
    ·lia
    ·rw[List.length_map,zgt];lia
    ·refine hK2 _ _ ⟨by lia,xs++[(j:Int)],by simp[kJ,prI],?_,?_⟩
     ·rw[List.pairwise_append];exact⟨pw,List.pairwise_singleton _ _,fun a ha b hb=>by cases List.mem_singleton.mp hb;exact(bd a ha).2⟩
     ·intro x hx;rcases List.mem_append.mp hx with hx|hx
      ·have:=bd x hx;lia
      ·cases List.mem_singleton.mp hx;lia
    ·exact hK2 _ _ ⟨by lia,xs,rfl,pw,fun x hx=>by have:=bd x hx;lia⟩
   ·rintro acc m2 ⟨hm2,xs,rfl,pw,bd⟩;rw[US]at hm2 bd;have nd:xs.Nodup:=pw.imp fun h e=>by lia
    have bd:∀x∈xs,0<=x/\x<2 ^ bits.toNat:=fun x hx=>by have:=bd x hx;lia
    have l8:=few8 b0 b3 nd bd;refine⟨kJ xs,rfl,?_⟩;rw[zmQ nd]
    wp_walk using zbW b0 b3 (fun bs A=>?_)
    refine⟨kJ xs,rfl,?_⟩;have ek:((kJ xs).map fun q=>PyData.int q.1)=xs.map PyData.int:=by simp[kJ,Function.comp_def]
    rw[ek];refine zcy (cs:=xs) (D:=PyData.int) (fun i=>.tuple [.int i,.int 0]) (by lia) ?_ ?_
    ·intro b hb K3 X3 hK3
     wp_walk
     exact hK3
    ·have eo:(xs.map fun i=>PyData.tuple [.int i,.int 0])=pD (ones xs):=by simp[pD,ones,prD,Function.comp_def]
     rw[eo];have Bo:=zhY b0 bd;have lo:(ones xs).length=xs.length:=by simp[ones]
     have X:=A.blks b0 bd nd;have l15:=A.le15 b0 b3
     wp_walk using zhX (.inl rfl) b0 (by lia) Bo ?_ (fun ps C lp=>?_)
     ·rw[lo];show _<100000;lia
     ·rw[JG];lia
     ·rw[JG];lia
     have C2:CanP (fun x=>x∈xs) ps:=C.congr fun x=>zi4
     rw[lo]at lp;refine zly 8 (fun _ _ m3=>m3=m2) rfl ?_ ?_
     ·rintro q t' a8 m3 K3 RT3 BK3 et rfl hK3 hRT3 hBK3;obtain⟨hq,rfl⟩:=QM et;rw[JG]at hq;have hq:q<ps.length:=hq;rw[Int.zero_add]
      wp_walk using zih ?_,zg7 X C2 (by lia) l15 (by lia) hq ?_,zkT ?_
      exact hK3 _ _ rfl
     ·rintro a8 m3 rfl
      wp_walk using zih ?_,zhW X C2 (by lia) l15 (by lia) ?_,zkS ?_
      refine hK' _ _ _ _ _ _ _ ?_;lia
  ·rintro a3 a4 a5 a6 a7 a8 m' hm';refine hNX _ _ (hK _ _ ⟨_,_,_,_,_,_,_,_,rfl,rfl⟩)
 ·rintro ρ m ⟨a1,a2,a3,a4,a5,a6,a7,a8,rfl,rfl⟩
  wp_walk
  exact hh _
end
section
open PySem.W PyProof.Rows
def pw:Program:=PySem.Challenge.pw_blockdeal_k11_whole_none_are_fewer
def zmX:Stmt->Bool
 | .FunctionDef ..=>true
 | .Assign [.Name x _] _ _=>!(x == Str.ofString "__name__")
 | _=>false
def qv:Program:={ pw with main:={ pw.main with body:=pw.main.body.filter zmX } }
theorem ziH:recsOf qv=(pw.main.body.filter UG).map recD:=by kernel_rfl
theorem zid{i:Nat}(h:UG (top i)=true):recD (top i)∈recsOf qv:=by
 rw[ziH];exact List.mem_map_of_mem (List.mem_filter.mpr ⟨getD_mem h,h⟩)
theorem dqG{i:Nat}{x:Str}{ps:List Str}{mean:ExcName->Option Value}{mg mb:qM}{h:Heap}(T:PyProof.Rows.Top qv (looseW qv []) mean mg mb h)(hb:BndA x (top i) ps)(h1:UG (top i)=true:=by kernel_rfl)(h2:defName (top i)=x:=by kernel_rfl):Dq (JJ h) mg x (top i) ps:=dq_g T (zid h1) h2 hb
def zls:List Str:=[Str.ofString "isinstance",Str.ofString "int",Str.ofString "bool",Str.ofString "tuple",Str.ofString "len",Str.ofString "min",Str.ofString "max",Str.ofString "str",Str.ofString "repr",Str.ofString "all",Str.ofString "any",Str.ofString "range",Str.ofString "sum",Str.ofString "sorted",Str.ofString "list",Str.ofString "abs",Str.ofString "zip",Str.ofString "dict",Str.ofString "reversed",Str.ofString "enumerate"]
def zlt(x:Str):Bool:=!startupNames.contains x&&!(looseW qv []).contains x&&!((recsOf qv).map (·.name)).contains x&&!((litsOf qv).map (·.1)).contains x&&!((clssOf qv (looseW qv [])).map (·.name)).contains x
theorem zjo:zls.all zlt=true:=by kernel_rfl
theorem zjp{mean:ExcName->Option Value}{mg mb:qM}{h:Heap}(T:PyProof.Rows.Top qv (looseW qv []) mean mg mb h){x:Str}(m:x∈zls):mg x=none:=by
 have e:=List.all_eq_true.mp zjo x m;unfold zlt at e;simp only[Bool.and_eq_true,Bool.not_eq_true',List.contains_eq_mem,decide_eq_false_iff_not]at e;obtain⟨⟨⟨⟨a,b⟩,c⟩,d⟩,f⟩:=e;exact T.free x a b c d f
theorem zjM{mean:ExcName->Option Value}{mg mb:qM}{h:Heap}(T:PyProof.Rows.Top qv (looseW qv []) mean mg mb h):Txt mg:=by
 constructor <;> exact zjp T (List.contains_iff_mem.mp (by kernel_rfl))
theorem ziD:PySem.Challenge.rw_blockdeal_k11_whole_none_are_fewer.wellSaid=true:=by kernel_rfl
theorem zi5:LeftO pw qv [] (fun s=>xlAt qv [] s&&recOk (RowW.records PySem.Challenge.rw_blockdeal_k11_whole_none_are_fewer.row.toRowW) s) (Hook.obs Hook.none) (Hook.val Hook.none) 20000:=fun w=>by kernel_rfl
theorem zlO{mean:ExcName->Option Value}{mg mb:qM}{h:Heap}{w:World}{fa:Addr}(T0:PyProof.Rows.Top qv (looseW qv []) mean mg mb h)(hfa:mg (defName (top 14))=some (.ref fa)) :
  ∃fd:FuncData,(∀(s:Shared) (v:Value),BindsTo s fd ⟨[v],[]⟩ [("_law_script",v)])/\∀base:Heap,(JJ h).In base->base.Ns mainGlobals mg->FnOk PySem.Challenge.rw_blockdeal_k11_whole_none_are_fewer.prog w (JJ h) mg base CX0 6 fa fd ["_law_script"] (ziC (JJ h)):=by
 have T:=zjM T0;obtain⟨f,fd,DL⟩:=dq_g (x:="law") (ps:=["_law_script"]) T0 (zid (i:=14) (by kernel_rfl)) (by kernel_rfl) fun _ _ _ _ _ _ us hl=>by obtain⟨_,rfl⟩:=len1 hl;rfl
 have e0:Value.ref f=Value.ref fa:=Option.some.inj (DL.m.symm.trans hfa);cases e0;refine⟨fd,fun s v=>?_,fun base _ _=>?_⟩
 ·obtain⟨oc,od,kV,doc,pm,an,cdv,ct,osl,rfl,_,_⟩:=DL.F.ex;exact .of_eq rfl
 let Z:ZZ:=⟨PySem.Challenge.rw_blockdeal_k11_whole_none_are_fewer.prog,w,JJ h,mg,base⟩
 have h_size_of:=zfh (Z:=Z) (dqG (i:=1) T0 (bnd1 fun _ _ _ _ _ _ _=>rfl))  T
 have h_end_of:=zf8 (Z:=Z) (dqG (i:=5) T0 (bnd1 fun _ _ _ _ _ _ _=>rfl)) h_size_of T
 have h_greatest_height:=zbL (Z:=Z) (dqG (i:=6) T0 (bnd2 fun _ _ _ _ _ _ _ _=>rfl))  T
 have h_span:=zi0 (Z:=Z) (dqG (i:=4) T0 (bnd2 fun _ _ _ _ _ _ _ _=>rfl)) h_end_of h_greatest_height T
 have h_patch_of:=zd8 (Z:=Z) (dqG (i:=7) T0 (bnd1 fun _ _ _ _ _ _ _=>rfl)) h_span T
 have h_runs_of:=zfi (Z:=Z) (dqG (i:=8) T0 (bnd1 fun _ _ _ _ _ _ _=>rfl)) h_end_of T
 have h_fewest:=zf7 (Z:=Z) (dqG (i:=3) T0 (bnd1 fun _ _ _ _ _ _ _=>rfl)) h_patch_of h_runs_of T
 have h__law_hand:=zc4 (Z:=Z) (dqG (i:=10) T0 (bnd2 fun _ _ _ _ _ _ _ _=>rfl))  T
 have h__law_take:=zc3 (Z:=Z) (dqG (i:=11) T0 (bnd2 fun _ _ _ _ _ _ _ _=>rfl))  T
 have h__law_all_blocks:=zbN (Z:=Z) (dqG (i:=12) T0 (bnd2 fun _ _ _ _ _ _ _ _=>rfl))  T
 have h__law_patches_of:=zbM (Z:=Z) (dqG (i:=13) T0 (bnd3 fun _ _ _ _ _ _ _ _ _=>rfl))  T
 exact(zkx (Z:=Z) DL h__law_hand h__law_all_blocks h_fewest h__law_take h__law_patches_of T).imp zi7
end
end Bd
open PySem PySem.W PyProof.Rows
set_option maxRecDepth 100000 in
set_option maxHeartbeats 0 in
theorem PySem.Challenge.cw_blockdeal_k11_whole_none_are_fewer_holds : PySem.Challenge.rw_blockdeal_k11_whole_none_are_fewer.Holds := by
 w_on
 refine holds_law Bd.ziD fun said=>?_
 refine holds_open (r:=PySem.Challenge.rw_blockdeal_k11_whole_none_are_fewer.row) (d:=Bd.recD (Bd.top 14)) (kwd:=[]) Bd.zi5 (Hook.of Hook.none) (Hook.keeps Hook.none) (fun s e=>xl_of s (Bool.and_eq_true_iff.mp e).1) XL.keeps (by kernel_rfl) (by kernel_rfl) (by kernel_rfl) (fun s e=>recFacts_of (Bool.and_eq_true_iff.mp e).2) (by kernel_rfl) said (by kernel_rfl) ⟨rfl,rfl,rfl,rfl,rfl,by decide +kernel⟩ ?hw ?hc
 case hw=>w_witness2
 case hc=>exact Bd.zmg (lw:=PySem.Challenge.rw_blockdeal_k11_whole_none_are_fewer) (k:=6) (by decide) rfl rfl fun w s₀ mg mb fa h G hmg=>Bd.zlO G.T hmg
