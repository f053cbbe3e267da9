import PyProof.Rows.All
import Wide.All
import OpenK.AllK
import Wide.FinOn
import Lean
import PyProof.EqAt
import PyProof.EqKinds
import PyProof.TupleCall
import PySem.Challenge.RW_blockdeal_k14_what_rules_decide
local macro_rules | `(tactic| walk_at "V") => `(tactic| first | exact Or.inl rfl | exact Or.inr (Or.inl rfl) | exact Or.inr (Or.inr rfl))
local macro_rules | `(tactic| walk_at "F") => `(tactic| first | exact .inl rfl | exact .inr rfl | assumption)
abbrev qF:=PySem.W.Frag
abbrev qB:=List (Int×Int)
abbrev qN:=PySem.PyData->Nat->Prop
abbrev qM:=PySem.Str->Option PySem.Value
abbrev qV:=PySem.Value->PySem.Shared->Prop
abbrev qD:=List PySem.PyData
abbrev qO:=List (PySem.Addr×PySem.Obj)
set_option Elab.async false
set_option linter.all false
set_option maxRecDepth 100000
set_option maxHeartbeats 4000000
namespace L2
open PySem PySem.Spec PyProof.Rows
abbrev Key:=Sum Int Str
def Qv:Key->Value->Bool
 | .inl k,v=>Value.isInt k v
 | .inr x,v=>Value.isStrOf x v
def keyH(w:World):Key->Int
 | .inl k=>hashInt k
 | .inr x=>hashStr w x
theorem J5:∀{k:Key}{v:Value},Qv k v=true->(∃i t,k=Sum.inl i/\v=Value.int i t)\/(∃x t,k=Sum.inr x/\v=Value.str x t)
 | .inl i,v,h=>by
  obtain⟨t,e⟩:=Value.isInt_shape (k:=i) (v:=v) h;exact .inl ⟨i,t,rfl,e⟩
 | .inr x,v,h=>by
  obtain⟨t,e⟩:=Value.isStrOf_shape (x:=x) (v:=v) h;exact .inr ⟨x,t,rfl,e⟩
theorem zb0(i:Int)(t:Tok):Qv (.inl i) (.int i t)=true:=by simp[Qv,Value.isInt]
theorem zfE(x:Str)(t:Tok):Qv (.inr x) (.str x t)=true:=by simp[Qv,Value.isStrOf]
theorem zka(a b:Int):decide ((Sum.inl a:Key)=Sum.inl b)=(a == b):=by
 by_cases e:a=b
 ·subst e;simp
 ·have h:¬(Sum.inl a:Key)=Sum.inl b:=fun q=>e (Sum.inl.inj q)
  rw[decide_eq_false h];exact(beq_eq_false_iff_ne.mpr e).symm
theorem zj8(a b:Str):decide ((Sum.inr a:Key)=Sum.inr b)=decide (a=b):=by
 by_cases e:a=b
 ·subst e;simp
 ·have h:¬(Sum.inr a:Key)=Sum.inr b:=fun q=>e (Sum.inr.inj q)
  rw[decide_eq_false h,decide_eq_false e]
theorem zj_(a:Int)(b:Str):decide ((Sum.inl a:Key)=Sum.inr b)=false:=decide_eq_false (fun q=>nomatch q)
theorem zj9(a:Str)(b:Int):decide ((Sum.inr a:Key)=Sum.inl b)=false:=decide_eq_false (fun q=>nomatch q)
def Jy(prog:Program)(w:World):PySem.KeyKind prog w Key where
 is:=Qv
 hash:=keyH w
 inj:=fun v a b ha hb=>by
  rcases J5 ha with⟨i,t,rfl,rfl⟩|⟨x,t,rfl,rfl⟩
  ·rcases J5 hb with⟨j,u,rfl,e⟩|⟨y,u,rfl,e⟩
   ·injection e with e1 _;rw[e1]
   ·exact nomatch e
  ·rcases J5 hb with⟨j,u,rfl,e⟩|⟨y,u,rfl,e⟩
   ·exact nomatch e
   ·injection e with e1 _;rw[e1]
 byValue:=fun k v h=>by
  rcases J5 h with⟨i,t,rfl,rfl⟩|⟨x,t,rfl,rfl⟩ <;> rfl
 pyHash:=fun hv h=>by
  rcases J5 hv with⟨i,t,rfl,rfl⟩|⟨x,t,rfl,rfl⟩
  ·exact wpAny_pyHash_int h
  ·exact wpAny_pyHash_str h
 eqBool:=fun hu hv h=>by
  rcases J5 hu with⟨i,t,rfl,rfl⟩|⟨x,t,rfl,rfl⟩
  ·rcases J5 hv with⟨j,u,rfl,rfl⟩|⟨y,u,rfl,rfl⟩
   ·rw[zka]at h;exact wpAny_eqBool_int h
   ·rw[zj_]at h;exact SeqAt.EqAt.int_str i t y u _ _ _ _ h
  ·rcases J5 hv with⟨j,u,rfl,rfl⟩|⟨y,u,rfl,rfl⟩
   ·rw[zj9]at h;exact SeqAt.EqAt.str_int x t j u _ _ _ _ h
   ·rw[zj8]at h;exact wpAny_eqBool_str h
 «strs»:=fun k x t v h=>by
  rcases J5 h with⟨i,u,rfl,e⟩|⟨y,u,rfl,e⟩
  ·exact nomatch e
  ·injection e with e1 _
   subst e1;cases v <;> rfl
theorem zdy(prog:Program)(w:World)(i:Int)(t:Tok):(Jy prog w).is (.inl i) (.int i t)=true:=zb0 i t
theorem zdx(prog:Program)(w:World)(x:Str)(t:Tok):(Jy prog w).is (.inr x) (.str x t)=true:=zfE x t
inductive V where
 | non|bl (b:Bool)|int (i:Int)|str (x:Str)|byt (b:Array UInt8)|flt (b:UInt64)|ref (a:Addr)|ty (n:String)
 deriving DecidableEq
def RelV:V->Value->Prop
 | .non,u=>u=Value.none
 | .bl b,u=>u=Value.bool b
 | .int i,u=>∃t,u=Value.int i t
 | .str x,u=>∃t,u=Value.str x t
 | .byt b,u=>∃t,u=Value.bytes b t
 | .flt b,u=>∃t,u=Value.float b t
 | .ref a,u=>u=Value.ref a
 | .ty n,u=>u=Value.type n
abbrev Vals:List V->List Value->Prop:=Paired RelV
theorem Vals.length{xs:List V}{us:List Value}(r:Vals xs us):xs.length=us.length:=Paired.length r
theorem Vals.get:∀{xs:List V}{us:List Value}{i:Nat}{x:V},Vals xs us->xs[i]?=some x->∃u,us[i]?=some u/\RelV x u
 | _,_,_,_,.nil,e=>by simp at e
 | _,_,0,_,.cons r _,e=>by simp at e;subst e;exact⟨_,rfl,r⟩
 | _,_,i+1,x,.cons _ t,e=>by
  obtain⟨u,h1,h2⟩:=Vals.get (i:=i) (x:=x) t (by simpa using e)
  exact⟨u,by simpa using h1,h2⟩
theorem Vals.set{x:V}{u:Value}(r:RelV x u):∀{xs:List V}{us:List Value} (i:Nat),Vals xs us->Vals (xs.set i x) (us.set i u)
 | _,_,_,.nil=>.nil
 | _,_,0,.cons _ t=>.cons r t
 | _,_,i+1,.cons q t=>.cons q (Vals.set r i t)
theorem Vals.append{xs ys:List V}{us ws:List Value}(h:Vals xs us)(s:Vals ys ws):Vals (xs++ys) (us++ws):=by
 induction h with
 | nil=>exact s
 | cons r _ ih=>exact .cons r ih
def RelO:Option V->Option Value->Prop
 | some v,some u=>RelV v u
 | none,none=>True
 | _,_=>False
def KV{κ:Type}:List (κ×V)->List (κ×Value)->Prop:=Paired fun(p:κ×V) (q:κ×Value)=>p.1=q.1/\RelV p.2 q.2
def kV:Key->V
 | .inl i=>.int i
 | .inr x=>.str x
inductive HO where
 | lst (xs:List V)
 | tup (xs:List V)
 | dK (kvs:List (Key×V))|dT (kvs:List (List Key×V))
 | set (S:Int->Bool) (n:Nat)
 | ins (C dx:Addr) (fs:List (Str×V))
 | own (x:Addr)
 | xd (fs:List (Str×V))
 | met (f x:Addr)
 | rng (lo hi:Int)
 | frz (o:Obj) (u:HO)
 | tbl (q:Str)
 | ext (φ:Heap->Prop)
abbrev Hp:=Addr->Option HO
def upd(H:Hp)(a:Addr)(o:HO):Hp:=fun b=>if b=a then some o else H b
theorem Jn{H:Hp}{a:Addr}{o:HO}:upd H a o a=some o:=by unfold upd;rw[if_pos rfl]
theorem Ja{H:Hp}{a b:Addr}{o:HO}(h:b≠a):upd H a o b=H b:=by unfold upd;rw[if_neg h]
theorem JD{H:Hp}{a b:Addr}{o:HO}(h:H a=some o)(h':H b=none):a≠b:=by
 intro e;subst e;rw[h]at h';cases h'
def IsTD(h:Heap)(a:Addr)(items:Array Value):Prop:=∃o,h.get? a=some o/\o.cls=.type "tuple" /\ (∃n,o.data=.seq items n)/\o.dict=none
theorem IsTD.tup{h:Heap}{a:Addr}{items:Array Value}(x:IsTD h a items):IsTup h a items:=by
 obtain⟨o,e,c,d,_⟩:=x;exact⟨o,e,c,d⟩
theorem IsTD.lt{h:Heap}{a:Addr}{items:Array Value}(x:IsTD h a items):a<h.objs.size:=x.tup.lt
theorem IsTD.new(h:Heap)(items:Array Value):IsTD (h.push { cls:=.type "tuple",data:=.seq items }) h.objs.size items:=⟨_,Heap.get?_push_size _ rfl,rfl,⟨_,rfl⟩,rfl⟩
def TabOk(H:Hp)(q:Str)(ps:Array Value):Prop:=TriplesOk ps.toList/\∀(pos:Pos) (cv:Value),codeAmong pos ps.toList=some cv->∃(c:Addr) (o:Obj) (u:HO) (vs:Array Value) (t:Tok),cv=.ref c/\H c=some (.frz o u)/\o.data=.fields vs/\vs[1]?=some (.str q t)
section
variable(P:Program)(w:World)
def Jm(H:Hp)(h:Heap)(a:Addr):HO->Prop
 | .lst xs=>xs.length<=sizeLine/\∃(its:List Value) (n:Nat),Vals xs its/\h.get? a=some { cls:=.type "list",data:=.seq its.toArray n }
 | .tup xs=>xs.length<=sizeLine/\∃its:List Value,Vals xs its/\IsTD h a its.toArray
 | .dK kvs=>kvs.length<=sizeLine/\(a == sysModules)=false/\∃vs,KV kvs vs/\h.DictOf (Jy P w) a vs
 | .dT kvs=>kvs.length<=sizeLine/\(a == sysModules)=false/\∃xs:List (List Key×Addr×Value),
   Paired (fun(p:List Key×V) (q:List Key×Addr×Value)=>p.1=q.1/\H q.2.1=some (.tup (p.1.map kV))/\RelV p.2 q.2.2) kvs xs /\
   ∃o es ep,h.get? a=some o/\o.ExactDict/\o.data=.dict es ep/\es.toList=xs.map (entryOfKey (tupleKind (Jy P w)))/\(xs.map (·.1)).Nodup
 | .set S n=>h.SetOf (intKind P w) a S n
 | .ins C dx fs=>H dx=some (.own a)/\fs.length<=1000/\dx≠a/\h.get? a=some (PySem.W.instObj C dx) /\
   ∃mA,h.Ns1 dx mA/\(∀f,RelO (fs.lookup f) (mA f))/\PySem.Within mA (fs.map (·.1))
 | .own _=>∃o,h.get? a=some o
 | .xd fs=>∃mA,h.Ns1 a mA/\∀f,RelO (fs.lookup f) (mA f)
 | .rng lo hi=>∃t u v,h.get? a=some { cls:=.type "range",data:=.fields #[.int lo t,.int hi u,.int 1 v] }
 | .frz o u=>h.get? a=some o/\Jm H h a u
 | .tbl q=>∃ps:Array Value,h.get? a=some { cls:=.none,data:=.fields ps }/\TabOk H q ps
 | .met f x=>h.get? a=some (PySem.W.methodObj (.ref f) (.ref x))
 | .ext φ=>φ h/\(∃o,h.get? a=some o)/\∀h1 h2:Heap,φ h1->(∀o,h1.get? a=some o->h2.get? a=some o)->φ h2
def HOk(H:Hp)(h:Heap):Prop:=∀a o,H a=some o->Jm P w H h a o
end
section
variable{P:Program}{w:World}{H H':Hp}{h h':Heap}{a:Addr}{o:HO}
theorem Jm.lt(x:Jm P w H h a o):a<h.objs.size:=by
 cases o with
 | lst xs=>obtain⟨_,_,_,_,e⟩:=x;exact Heap.lt_size e
 | tup xs=>obtain⟨_,_,_,p⟩:=x;exact p.lt
 | dK kvs=>obtain⟨_,_,_,_,o,_,_,e,_⟩:=x;exact Heap.lt_size e
 | dT kvs=>obtain⟨_,_,_,_,o,_,_,e,_⟩:=x;exact Heap.lt_size e
 | set S n=>obtain⟨o,_,_,_,e,_⟩:=x;exact Heap.lt_size e
 | ins C dx fs=>obtain⟨_,_,_,e,_⟩:=x;exact Heap.lt_size e
 | own y=>obtain⟨_,e⟩:=x;exact Heap.lt_size e
 | xd fs=>obtain⟨_,⟨_,_,_,e,_⟩,_⟩:=x;exact Heap.lt_size e
 | rng lo hi=>obtain⟨_,_,_,e⟩:=x;exact Heap.lt_size e
 | frz ob u=>obtain⟨e,_⟩:=x;exact Heap.lt_size e
 | tbl q=>obtain⟨_,e,_⟩:=x;exact Heap.lt_size e
 | met f y=>exact Heap.lt_size (show h.get? a=some _ from x)
 | ext φ=>obtain⟨_,⟨_,e⟩,_⟩:=x;exact Heap.lt_size e
theorem Paired.mapP{α β:Type}{F G:α->β->Prop}{l₁:List α}{l₂:List β}(h:Paired F l₁ l₂)(f:∀a b,F a b->G a b):Paired G l₁ l₂:=by
 induction h with
 | nil=>exact .nil
 | cons r _ ih=>exact .cons (f _ _ r) ih
theorem Jm.stay(x:Jm P w H h a o)(k:∀b u,(b=a\/H b=some (.own a))->h.get? b=some u->h'.get? b=some u)
  (ho:∀b,H b=some (.own a)->H' b=some (.own a)) (ht:∀b xs,H b=some (.tup xs)->H' b=some (.tup xs)) (hf:∀b ob u,H b=some (.frz ob u)->H' b=some (.frz ob u)):Jm P w H' h' a o:=by
 induction o with
 | lst xs=>obtain⟨z,its,n,r,e⟩:=x;exact⟨z,its,n,r,k _ _ (.inl rfl) e⟩
 | tup xs=>obtain⟨z,its,r,ob,e,c⟩:=x;exact⟨z,its,r,ob,k _ _ (.inl rfl) e,c⟩
 | dK kvs=>obtain⟨z,y,vs,r,ob,es,ep,e,c⟩:=x;exact⟨z,y,vs,r,ob,es,ep,k _ _ (.inl rfl) e,c⟩
 | dT kvs =>
  obtain⟨z,y,xs,r,ob,es,ep,e,c⟩:=x;exact⟨z,y,xs,Paired.mapP r fun p q z=>⟨z.1,ht _ _ z.2.1,z.2.2⟩,ob,es,ep,k _ _ (.inl rfl) e,c⟩
 | set S n=>obtain⟨ob,es,ep,t,e,c⟩:=x;exact⟨ob,es,ep,t,k _ _ (.inl rfl) e,c⟩
 | ins C dx fs =>
  obtain⟨d,z,ne,e,mA,⟨od,es,ep,e2,c⟩,r⟩:=x;exact⟨ho _ d,z,ne,k _ _ (.inl rfl) e,mA,⟨od,es,ep,k _ _ (.inr d) e2,c⟩,r⟩
 | own y=>obtain⟨ob,e⟩:=x;exact⟨ob,k _ _ (.inl rfl) e⟩
 | xd fs=>obtain⟨mA,⟨od,es,ep,e,c⟩,r⟩:=x;exact⟨mA,⟨od,es,ep,k _ _ (.inl rfl) e,c⟩,r⟩
 | rng lo hi=>obtain⟨t,u,v,e⟩:=x;exact⟨t,u,v,k _ _ (.inl rfl) e⟩
 | frz ob u ih=>obtain⟨e,q⟩:=x;exact⟨k _ _ (.inl rfl) e,ih q⟩
 | tbl q =>
  obtain⟨ps,e,z,r⟩:=x;refine⟨ps,k a _ (.inl rfl) e,z,fun pos cv m=>?_⟩
  obtain⟨c,o,u,vs,t,e1,e2,e3⟩:=r pos cv m;exact⟨c,o,u,vs,t,e1,hf _ _ _ e2,e3⟩
 | met f y =>
  have e:h.get? a=some (PySem.W.methodObj (.ref f) (.ref y)):=x;show h'.get? a=some (PySem.W.methodObj (.ref f) (.ref y))
  exact k a _ (.inl rfl) e
 | ext φ=>obtain⟨p,⟨o,e⟩,st⟩:=x;exact⟨st _ _ p fun o q=>k _ _ (.inl rfl) q,⟨o,k _ _ (.inl rfl) e⟩,st⟩
theorem HOk.lt(x:HOk P w H h)(e:H a=some o):a<h.objs.size:=(x a o e).lt
theorem HOk.fresh(x:HOk P w H h)(e:h.objs.size<=a):H a=none:=by
 cases q:H a with
 | none=>rfl
 | some u=>exact absurd (Nat.lt_of_lt_of_le (x.lt q) e) (Nat.lt_irrefl _)
theorem HOk.kept(x:HOk P w H h)(k:∀b u,h.get? b=some u->h'.get? b=some u):HOk P w H h':=fun a o e =>
 (x a o e).stay (fun b u _ q=>k b u q) (fun _ q=>q) (fun _ _ q=>q) fun _ _ _ q=>q
theorem HOk.laid(x:HOk P w H h)(k:∀b u,h.get? b=some u->h'.get? b=some u)(hp:h.objs.size<=a)(new:Jm P w (upd H a o) h' a o):HOk P w (upd H a o) h':=fun b u e=>by
 have hn:=x.fresh hp
 by_cases hb:b=a
 ·subst hb;rw[Jn]at e;cases e;exact new
 ·rw[Ja hb]at e;exact(x b u e).stay (fun c v _ q=>k c v q) (fun c q=>by rw[Ja (JD q hn)];exact q) (fun c xs q=>by rw[Ja (JD q hn)];exact q) fun c ob xs q=>by rw[Ja (JD q hn)];exact q
end
def Rd(H:Hp)(a:Addr)(u:HO):Prop:=H a=some u\/∃o,H a=some (.frz o u)
theorem Rd.ok{P:Program}{w:World}{H:Hp}{h:Heap}{a:Addr}{u:HO}(r:Rd H a u)(x:HOk P w H h):Jm P w H h a u:=by
 rcases r with r|⟨o,r⟩
 ·exact x a u r
 ·obtain⟨_,q⟩:=x a _ r;exact q
def Mut:Option HO->Prop
 | some (.lst _)=>True
 | some (.dK _)=>True
 | some (.dT _)=>True
 | some (.set _ _)=>True
 | some (.ins _ _ _)=>True
 | some (.ext _)=>True
 | _=>False
section
variable{P:Program}{w:World}{H:Hp}{h h':Heap}{x e:Addr}{o':HO}
theorem HOk.write(ok:HOk P w H h)(mu:Mut (H x))(he:e=x\/H e=some (.own x))(k:∀b u,b≠e->h.get? b=some u->h'.get? b=some u)(heo:∃u,h'.get? e=some u)
  (new:Jm P w (upd H x o') h' x o'):HOk P w (upd H x o') h':=fun b u q=>by
 have nown:∀c y,H c=some (.own y)->c≠x:=fun c y r z=>by subst z;rw[r]at mu;exact mu
 have ntup:∀c xs,H c=some (.tup xs)->c≠x:=fun c xs r z=>by subst z;rw[r]at mu;exact mu
 have nfrz:∀c ob xs,H c=some (.frz ob xs)->c≠x:=fun c ob xs r z=>by subst z;rw[r]at mu;exact mu
 by_cases hb:b=x
 ·subst hb;rw[Jn]at q;cases q;exact new
 ·rw[Ja hb]at q
  by_cases hbe:b=e
  ·have q':H b=some (.own x):=by
    rcases he with z|z
    ·exact absurd (hbe.trans z) hb
    ·rw[hbe];exact z
   rw[q]at q';cases q';obtain⟨v,hv⟩:=heo;exact⟨v,by rw[hbe];exact hv⟩
  ·refine(ok b u q).stay (fun c v hc r=>k c v ?_ r) (fun c r=>by rw[Ja (nown c b r)];exact r) (fun c xs r=>by rw[Ja (ntup c xs r)];exact r) fun c ob xs r=>by rw[Ja (nfrz c ob xs r)];exact r
   rcases hc with rfl|hc
   ·exact hbe
   ·rintro rfl;rcases he with z|z
    ·exact nown c b hc z
    ·rw[hc]at z;cases z;exact hb rfl
end
structure Un(fs ex:List Addr)(H H':Hp)(h h':Heap):Prop where
 keep:∀b o,h.get? b=some o->H b=none->b∉fs->b∉ex->h'.get? b=some o
 slot:∀b o,h.get? b=some o->H b=none->b∈fs->b∉ex->∃sl,h'.get? b=some { o with slots:=sl }
 free:∀b o,h.get? b=some o->H b=none->b∉ex->H' b=none
 there:∀b o,h.get? b=some o->b∉ex->∃o',h'.get? b=some o'
 tups:∀b xs,H b=some (.tup xs)->H' b=some (.tup xs)
 frzs:∀b o u,H b=some (.frz o u)->H' b=some (.frz o u)
 tbls:∀b q,H b=some (.tbl q)->H' b=some (.tbl q)
section
variable{fs fs' ex ex':List Addr}{H H1 H2:Hp}{h h1 h2 h':Heap}{a x e:Addr}{o:HO}
theorem Un.any(u:Un fs ex H H1 h h1){b:Addr}{ob:Obj}(q:h.get? b=some ob)(n:H b=none)(hx:b∉ex):∃sl,h1.get? b=some { ob with slots:=sl }:=by
 by_cases hb:b∈fs
 ·exact u.slot b ob q n hb hx
 ·exact⟨ob.slots,u.keep b ob q n hb hx⟩
theorem Un.kept(k:∀b u,h.get? b=some u->h'.get? b=some u):Un fs ex H H h h' :=
 ⟨fun b ob q _ _ _=>k b ob q,fun b ob q _ _ _=>⟨ob.slots,k b ob q⟩,fun _ _ _ n _=>n,fun b ob q _=>⟨ob,k b ob q⟩,fun _ _ q=>q,fun _ _ _ q=>q,fun _ _ q=>q⟩
theorem Un.refl:Un fs ex H H h h:=Un.kept fun _ _ q=>q
theorem Un.laid(k:∀b u,h.get? b=some u->h'.get? b=some u)(hp:h.objs.size<=a)(hn:H a=none):Un fs ex H (upd H a o) h h' where
 keep:=fun b u q _ _ _=>k b u q
 slot:=fun b u q _ _ _=>⟨u.slots,k b u q⟩
 free:=fun b u q n _=>by rw[Ja (Nat.ne_of_lt (Nat.lt_of_lt_of_le (Heap.lt_size q) hp))];exact n
 there:=fun b u q _=>⟨u,k b u q⟩
 tups:=fun b xs q=>by rw[Ja (JD q hn)];exact q
 frzs:=fun b u xs q=>by rw[Ja (JD q hn)];exact q
 tbls:=fun b ps q=>by rw[Ja (JD q hn)];exact q
theorem Un.write(mu:Mut (H x))(he:e=x\/H e=some (.own x))(k:∀b u,b≠e->h.get? b=some u->h'.get? b=some u)(heo:∃u,h'.get? e=some u):Un fs ex H (upd H x o) h h':=by
 have hx:∀b,H b=none->b≠x:=fun b n z=>by subst z;rw[n]at mu;exact mu
 have hb:∀b,H b=none->b≠e:=fun b n z=>by
  subst z;rcases he with r|r
  ·exact hx b n r
  ·rw[n]at r;cases r
 have hm:∀b u,H b=some u->¬Mut (some u)->b≠x:=fun b u q nm z=>by subst z;rw[q]at mu;exact nm mu
 refine⟨fun b u q n _ _=>k b u (hb b n) q,fun b u q n _ _=>⟨u.slots,k b u (hb b n) q⟩,fun b u q n _=>by rw[Ja (hx b n)];exact n,fun b u q _=>?_,
  fun b xs q=>by rw[Ja (hm b _ q fun z=>z)];exact q,fun b u xs q=>by rw[Ja (hm b _ q fun z=>z)];exact q,fun b ps q=>by rw[Ja (hm b _ q fun z=>z)];exact q⟩
 by_cases hbe:b=e
 ·subst hbe;exact heo
 ·exact⟨u,k b u hbe q⟩
end
def trk(h:Heap)(H:Hp):List Addr:=(List.range h.objs.size).filter fun a=>(H a).isSome
def hidT(h:Heap)(H:Hp):Heap:=PySem.W.hideAll h (trk h H)
theorem zfI(h:Heap)(H:Hp):(hidT h H).objs.size=h.objs.size:=PySem.W.hideAll_size _ _
theorem zgZ{h:Heap}{H:Hp}{b:Addr}{o:Obj}(e:h.get? b=some o)(n:H b=none):(hidT h H).get? b=some o :=
 PySem.W.hideAll_get _ e fun hm=>by
  have q:(H b).isSome=true:=(List.mem_filter.mp hm).2;rw[n]at q;simp at q
theorem zik{h:Heap}{H:Hp}{b:Addr}{o:Obj}(e:(hidT h H).get? b=some o):h.get? b=some o/\H b=none:=by
 have e':h.get? b=some o:=PySem.W.of_hideAll (trk h H) e;refine⟨e',?_⟩;cases q:H b with
 | none=>rfl
 | some x =>
  have hm:b∈trk h H:=List.mem_filter.mpr ⟨List.mem_range.mpr (Heap.lt_size e'),by simp[q]⟩
  have z:(hidT h H).get? b=none:=PySem.W.hideAll_none (trk h H) hm;rw[z]at e;cases e
structure Mod(K:qF)(mg:qM)(base:Heap):Prop where
 kin:K.In base
 glob:base.Ns mainGlobals mg
 blt:∃mb,base.Ns builtinsNs mb/\∀x:Str,x ≠ "__name__" -> mb x=bootBuiltins x
 nolimit:base.NoLimit
structure Cx where
 prog:Program
 w:World
 K:qF
 mg:Str->Option Value
 base:Heap
 A:Around
 N:List Str
 s₀:Shared
 H₀:Hp
 env:Env
 outer:List Env
 stack:List Env
 ex:List Addr
 fn:Str->Bool
 calm:Bool
 pn:List (Addr×Obj)
 xe:Value->Shared->Prop
def frs(l:List Env):List Addr:=l.filterMap (·.frame)
abbrev Cx.fs(X:Cx):List Addr:=frs X.outer
def Vis(sc:Scope)(x:Str):Prop:=sc.names.lookup x=some .local\/sc.names.lookup x=some .cell\/sc.names.lookup x=some .free
def Loc(sc:Scope)(x:Str):Prop:=sc.names.lookup x=some .local\/sc.names.lookup x=some .cell
def Look(env:Env)(h:Heap)(m:qM)(x:Str)(u:Value):Prop :=
 (env.kindOf x=some .local/\m x=some u)\/((env.kindOf x=some .cell\/env.kindOf x=some .free)/\∃c,env.cells.lookup x=some c/\h.IsCell c (some u))
structure Cx.Ok(X:Cx):Prop where
 mod:Mod X.K X.mg X.base
 kind:X.env.scope.kind=.function
 glob:X.env.globals=mainGlobals
 blt:X.env.builtins=builtinsNs
 above:X.s₀.heap.objs.size<=X.env.locals
 inj:∀x y c,X.env.cells.lookup x=some c->X.env.cells.lookup y=some c->x=y
 has:∀x,(X.env.kindOf x=some .cell\/X.env.kindOf x=some .free)->∃c,X.env.cells.lookup x=some c
 cab:∀x c,X.fn x=true->X.env.cells.lookup x=some c->X.s₀.heap.objs.size<=c
 hd:X.calm=true->X.A.handled=none
 frames:X.A.frames=some X.stack
 stk:X.stack=X.outer\/(X.stack=X.env::X.outer/\X.env.frame=some X.env.locals)
 exf:∀b∈X.ex,b≠X.env.locals/\∀x c,X.env.cells.lookup x=some c->c≠b
 bs:∀b o,X.base.get? b=some o->X.s₀.heap.get? b=some o/\X.H₀ b=none
 bsz:X.base.objs.size<=X.s₀.heap.objs.size
 noex:∀b o,X.base.get? b=some o->b∉X.ex
 exfs:∀b∈X.ex,b∉X.fs
 funs:X.s₀.heap.FunFrames X.base X.outer
 frf:∀b∈X.fs,X.H₀ b=none
structure Inv(X:Cx)(pins:qO)(σ:List (Option V))(H:Hp)(s:Shared):Prop where
 ok:X.Ok
 os:s.os=X.s₀.os
 bare:AllBare s.gens
 base:Un X.fs X.ex X.H₀ H X.s₀.heap s.heap
 loc:∃m,s.heap.Ns X.env.locals m/\∀(i:Nat) (x:Str) (v:V),X.N[i]?=some x->σ[i]?=some (some v)->Vis X.env.scope x->∃u,RelV v u/\Look X.env s.heap m x u
 cell:∀x c,X.env.cells.lookup x=some c->∃v,s.heap.IsCell c v
 free:H X.env.locals=none
 freeC:∀x c,X.env.cells.lookup x=some c->H c=none
 pin:∀p∈X.pn++pins,s.heap.get? p.1=some p.2/\H p.1=none/\p.1≠X.env.locals/\p.1∉X.fs/\∀v,p.2.data≠.cell v
 hok:HOk X.prog X.w H s.heap
 len:σ.length=X.N.length
section
variable{X:Cx}{pins:qO}{σ:List (Option V)}{H H':Hp}{s:Shared}{h':Heap}
theorem Cx.Ok.nofr(ok:X.Ok){b:Addr}{o:Obj}(e:X.base.get? b=some o):b∉X.fs:=fun hb=>by
 have:=(ok.funs.mem hb).1;rw[e]at this;cases this
theorem Inv.bs(I:Inv X pins σ H s):∀b o,X.base.get? b=some o->s.heap.get? b=some o/\H b=none:=fun b o e =>
 ⟨I.base.keep b o (I.ok.bs b o e).1 (I.ok.bs b o e).2 (I.ok.nofr e) (I.ok.noex b o e),I.base.free b o (I.ok.bs b o e).1 (I.ok.bs b o e).2 (I.ok.noex b o e)⟩
theorem Inv.bk(I:Inv X pins σ H s):∀b o,X.base.get? b=some o->s.heap.get? b=some o:=fun b o e=>(I.bs b o e).1
theorem Inv.mod(I:Inv X pins σ H s):Mod X.K X.mg X.base:=I.ok.mod
theorem Inv.kIn(I:Inv X pins σ H s):X.K.In s.heap:=I.ok.mod.kin.keeps I.bk
theorem Inv.lt(I:Inv X pins σ H s):X.env.locals<s.heap.objs.size:=let ⟨_,hn,_⟩:=I.loc;hn.lt
theorem Inv.sz(I:Inv X pins σ H s):X.s₀.heap.objs.size<=s.heap.objs.size:=Nat.le_trans I.ok.above (Nat.le_of_lt I.lt)
theorem Inv.nofs(I:Inv X pins σ H s){a:Addr}(h:s.heap.objs.size<=a):a∉X.fs:=fun hb=>by
 obtain⟨_,o,ho,_⟩:=I.ok.funs.mem hb;exact absurd (Nat.lt_of_lt_of_le (Heap.lt_size ho) (Nat.le_trans I.sz h)) (Nat.lt_irrefl _)
theorem Inv.cne(I:Inv X pins σ H s):∀x c,X.env.cells.lookup x=some c->c≠X.env.locals:=fun x c e z=>by
 obtain⟨v,o,ho,hd⟩:=I.cell x c e;obtain⟨m,⟨o',es,ep,ho',hd',_⟩,_⟩:=I.loc;rw[z,ho']at ho;cases ho;rw[hd']at hd;cases hd
theorem Inv.funs(I:Inv X pins σ H s):s.heap.FunFrames X.base X.outer:=by
 have all:∀(l:List Env),(∀b∈frs l,b∈X.fs)->X.s₀.heap.FunFrames X.base l->s.heap.FunFrames X.base l:=by
  intro l;induction l with
  | nil=>intro _ _;trivial
  | cons env r ih =>
   intro hs hl;obtain⟨hk,⟨L,o,hf,hn,ho,hd⟩,hr⟩:=hl;have hL:L∈X.fs:=hs L (by unfold frs;rw[List.filterMap_cons,hf];exact List.mem_cons_self)
   obtain⟨sl,e⟩:=I.base.slot L o ho (I.ok.frf L hL) hL fun z=>I.ok.exfs L z hL
   exact⟨hk,⟨L,_,hf,hn,e,hd⟩,ih (fun b hb=>hs b (by unfold frs;rw[List.filterMap_cons,hf];exact List.mem_cons_of_mem _ hb)) hr⟩
 exact all X.outer (fun _ hb=>hb) I.ok.funs
theorem Inv.stack(I:Inv X pins σ H s):s.heap.FunFrames X.base X.stack:=by
 rcases I.ok.stk with e|⟨e,hf⟩
 ·rw[e];exact I.funs
 ·rw[e];obtain⟨m,hn,_⟩:=I.loc;refine .cons (by rw[I.ok.kind];decide) hf hn ?_ I.funs
  exact Heap.get?_none_of_le (Nat.le_trans I.ok.bsz I.ok.above)
theorem Inv.stkSub(I:Inv X pins σ H s):∀b∈frs X.stack,b∈X.env.locals::X.fs:=fun b hb=>by
 rcases I.ok.stk with e|⟨e,hf⟩
 ·rw[e]at hb;exact List.mem_cons_of_mem _ hb
 ·rw[e]at hb;unfold frs at hb;rw[List.filterMap_cons,hf]at hb;exact hb
theorem Inv.stkFree(I:Inv X pins σ H s):∀b∈frs X.stack,H b=none:=fun b hb=>by
 rcases List.mem_cons.mp (I.stkSub b hb) with e|hb
 ·rw[e];exact I.free
 ·obtain⟨_,o,ho,_⟩:=I.ok.funs.mem hb;exact I.base.free b o ho (I.ok.frf b hb) fun z=>I.ok.exfs b z hb
theorem Inv.step{g':Array GenState}{t':Nat}{d':Drawn}{ch:List Addr}(I:Inv X pins σ H s)
  (hch:∀b∈ch,(b∈X.ex\/X.s₀.heap.objs.size<=b)/\b≠X.env.locals/\(∀x c,X.env.cells.lookup x=some c->c≠b)/\∀p∈X.pn++pins,p.1≠b)
  (keep:∀b o,b≠X.env.locals->b∉X.fs->b∉ch->s.heap.get? b=some o->H b=none->h'.get? b=some o)
  (slot:∀b o,b≠X.env.locals->b∈X.fs->b∉ch->s.heap.get? b=some o->H b=none->∃sl,h'.get? b=some { o with slots:=sl }) (free:∀b o,b∉ch->s.heap.get? b=some o->H b=none->H' b=none)
  (there:∀b o,b∉ch->s.heap.get? b=some o->∃o',h'.get? b=some o')
  (tups:∀b xs,H b=some (.tup xs)->H' b=some (.tup xs)) (frzs:∀b o u,H b=some (.frz o u)->H' b=some (.frz o u)) (tbls:∀b q,H b=some (.tbl q)->H' b=some (.tbl q))
  (ns:∀m,s.heap.Ns X.env.locals m->h'.Ns X.env.locals m) (hok:HOk X.prog X.w H' h') (hg:AllBare g') :
  Inv X pins σ H' { s with heap:=h',gens:=g',drawn:=d',toks:=t' }:=by
 have neL:∀b o,X.s₀.heap.get? b=some o->b≠X.env.locals:=fun b o e=>Nat.ne_of_lt (Nat.lt_of_lt_of_le (Heap.lt_size e) I.ok.above)
 have neC:∀b o,X.s₀.heap.get? b=some o->b∉X.ex->b∉ch:=fun b o e hx hb=>by
  rcases(hch b hb).1 with z|z
  ·exact hx z
  ·exact absurd (Nat.lt_of_lt_of_le (Heap.lt_size e) z) (Nat.lt_irrefl _)
 have cellK:∀x c,X.env.cells.lookup x=some c->∀v,s.heap.IsCell c v->h'.IsCell c v:=fun x c e v ⟨o,ho,hd⟩=>by
  have nch:c∉ch:=fun z=>(hch c z).2.2.1 x c e rfl
  by_cases hc:c∈X.fs
  ·obtain⟨sl,q⟩:=slot c o (I.cne x c e) hc nch ho (I.freeC x c e);exact⟨_,q,hd⟩
  ·exact⟨o,keep c o (I.cne x c e) hc nch ho (I.freeC x c e),hd⟩
 refine⟨I.ok,I.os,hg,⟨fun b o e n hb hx=>?_,fun b o e n hb hx=>?_,fun b o e n hx=>?_,fun b o e hx=>?_,fun b xs e=>tups b xs (I.base.tups b xs e),fun b o xs e=>frzs b o xs (I.base.frzs b o xs e),fun b ps e=>?_⟩,?_,fun x c e=>?_,?_,fun x c e=>?_,fun p hp=>?_,hok,I.len⟩
 ·exact keep b o (neL b o e) hb (neC b o e hx) (I.base.keep b o e n hb hx) (I.base.free b o e n hx)
 ·obtain⟨sl,e1⟩:=I.base.slot b o e n hb hx;obtain⟨sl',e2⟩:=slot b _ (neL b o e) hb (neC b o e hx) e1 (I.base.free b o e n hx);exact⟨sl',e2⟩
 ·obtain⟨o',e1⟩:=I.base.there b o e hx;exact free b o' (neC b o e hx) e1 (I.base.free b o e n hx)
 ·obtain⟨o',e1⟩:=I.base.there b o e hx;exact there b o' (neC b o e hx) e1
 ·exact tbls b ps (I.base.tbls b ps e)
 ·obtain⟨m,hn,hl⟩:=I.loc;refine⟨m,ns m hn,fun i x v e1 e2 e3=>?_⟩
  obtain⟨u,r,l⟩:=hl i x v e1 e2 e3;refine⟨u,r,?_⟩;rcases l with l|⟨k,c,e,z⟩
  ·exact .inl l
  ·exact .inr ⟨k,c,e,cellK x c e _ z⟩
 ·obtain⟨v,z⟩:=I.cell x c e;exact⟨v,cellK x c e v z⟩
 ·obtain⟨m,⟨o,_,_,ho,_⟩,_⟩:=I.loc;exact free _ o (fun z=>(hch _ z).2.1 rfl) ho I.free
 ·obtain⟨v,o,ho,hd⟩:=I.cell x c e;exact free c o (fun z=>(hch c z).2.2.1 x c e rfl) ho (I.freeC x c e)
 ·obtain⟨e,n,ne,nf,d⟩:=I.pin p hp;have nch:p.1∉ch:=fun z=>(hch p.1 z).2.2.2 p hp rfl
  exact⟨keep p.1 p.2 ne nf nch e n,free p.1 p.2 nch e n,ne,nf,d⟩
theorem Inv.un{t':Nat}(I:Inv X pins σ H s)(u:Un X.fs [] H H' s.heap h')(hok:HOk X.prog X.w H' h'):Inv X pins σ H' { s with heap:=h',toks:=t' }:=by
 obtain⟨m,⟨o,es,ep,ho,r⟩,_⟩:=id I.loc;obtain⟨sl,hL⟩:=u.any ho I.free (by simp)
 exact I.step (g':=s.gens) (d':=s.drawn) (ch:=[]) (fun _ z=>nomatch z) (fun b o _ hb _ e n=>u.keep b o e n hb (by simp)) (fun b o _ hb _ e n=>u.slot b o e n hb (by simp)) (fun b o _ e n=>u.free b o e n (by simp)) (fun b o _ e=>u.there b o e (by simp)) u.tups u.frzs u.tbls (fun m' hm=>by
  obtain⟨o',es',ep',ho',r'⟩:=hm;rw[ho]at ho';cases ho';exact⟨_,es',ep',hL,r'⟩) hok I.bare
theorem Inv.call{g':Array GenState}{t':Nat}{d':Drawn}{ch:List Addr}(I:Inv X pins σ H s)(u:Un (frs X.stack) ch H H' s.heap h')(hok:HOk X.prog X.w H' h')(hg:AllBare g')
  (hch:∀b∈ch,(b∈X.ex\/X.s₀.heap.objs.size<=b)/\b≠X.env.locals/\(∀x c,X.env.cells.lookup x=some c->c≠b)/\∀p∈X.pn++pins,p.1≠b) :
  Inv X pins σ H' { s with heap:=h',gens:=g',drawn:=d',toks:=t' }:=by
 obtain⟨m,⟨o,es,ep,ho,r⟩,_⟩:=id I.loc;obtain⟨sl,hL⟩:=u.any ho I.free fun z=>(hch _ z).2.1 rfl
 exact I.step (ch:=ch) hch (fun b o hL hb hc e n=>u.keep b o e n (fun z=>(List.mem_cons.mp (I.stkSub b z)).elim hL hb) hc) (fun b o _ _ hc e n=>u.any e n hc) (fun b o hc e n=>u.free b o e n hc) (fun b o hc e=>u.there b o e hc) u.tups u.frzs u.tbls (fun m' hm=>by
  obtain⟨o',es',ep',ho',r'⟩:=hm;rw[ho]at ho';cases ho';exact⟨_,es',ep',hL,r'⟩) hok hg
theorem Inv.turned{t':Nat}{it:Addr}(I:Inv X pins σ H s)(k:∀b o,b≠it->s.heap.get? b=some o->h'.get? b=some o)(hn:H it=none)(hL:it≠X.env.locals)
  (h1:it∈X.ex\/X.s₀.heap.objs.size<=it) (h2:∀x c,X.env.cells.lookup x=some c->c≠it) (h3:∀p∈X.pn++pins,p.1≠it):Inv X pins σ H { s with heap:=h',toks:=t' }:=by
 have nit:∀b u,H b=some u->b≠it:=fun b u e z=>by rw[z,hn]at e;cases e
 refine I.step (g':=s.gens) (d':=s.drawn) (ch:=[it]) (fun b hb=>?_) (fun b o _ _ hc e _=>k b o (fun z=>hc (by simp[z])) e) (fun b o _ _ hc e _=>⟨o.slots,k b o (fun z=>hc (by simp[z])) e⟩) (fun _ _ _ _ n=>n)
  (fun b o hc e=>⟨o,k b o (fun z=>hc (by simp[z])) e⟩) (fun _ _ e=>e) (fun _ _ _ e=>e) (fun _ _ e=>e) (fun m hm=>?_) (fun b u e=>?_) I.bare
 ·have e:b=it:=by simpa using hb
  subst e;exact⟨h1,hL,h2,h3⟩
 ·obtain⟨o,es,ep,ho,r⟩:=hm;exact⟨o,es,ep,k _ o (Ne.symm hL) ho,r⟩
 ·refine(I.hok b u e).stay (fun c v hc q=>k c v ?_ q) (fun _ q=>q) (fun _ _ q=>q) fun _ _ _ q=>q
  rcases hc with z|z
  ·rw[z];exact nit b u e
  ·exact nit c _ z
theorem Inv.tok(I:Inv X pins σ H s)(t:Nat):Inv X pins σ H { s with toks:=t }:=I.un (h':=s.heap) (t':=t) Un.refl I.hok
theorem Inv.kept{t':Nat}(I:Inv X pins σ H s)(k:∀b u,s.heap.get? b=some u->h'.get? b=some u):Inv X pins σ H { s with heap:=h',toks:=t' }:=I.un (Un.kept k) (I.hok.kept k)
theorem Inv.laid{a:Addr}{o:HO}{t':Nat}(I:Inv X pins σ H s)(k:∀b u,s.heap.get? b=some u->h'.get? b=some u)(hp:s.heap.objs.size<=a)(new:Jm X.prog X.w (upd H a o) h' a o) :
  Inv X pins σ (upd H a o) { s with heap:=h',toks:=t' }:=I.un (Un.laid k hp (I.hok.fresh hp)) (I.hok.laid k hp new)
theorem Inv.write{x e:Addr}{o:HO}{t':Nat}(I:Inv X pins σ H s)(mu:Mut (H x))(he:e=x\/H e=some (.own x))(k:∀b u,b≠e->s.heap.get? b=some u->h'.get? b=some u)(heo:∃u,h'.get? e=some u)
  (new:Jm X.prog X.w (upd H x o) h' x o):Inv X pins σ (upd H x o) { s with heap:=h',toks:=t' }:=I.un (Un.write mu he k heo) (I.hok.write mu he k heo new)
theorem Inv.weak{σ':List (Option V)}(I:Inv X pins σ H s)(hl:σ'.length=σ.length)(w:∀(i:Nat) v,σ'[i]?=some (some v)->σ[i]?=some (some v)):Inv X pins σ' H s :=
 ⟨I.ok,I.os,I.bare,I.base,let ⟨m,hn,hl'⟩:=I.loc;⟨m,hn,fun i x v e1 e2 e3=>hl' i x v e1 (w i v e2) e3⟩,I.cell,I.free,I.freeC,I.pin,I.hok,hl.trans I.len⟩
theorem Inv.pins_of{pins':qO}(I:Inv X pins σ H s)(h:∀p∈pins',s.heap.get? p.1=some p.2/\H p.1=none/\p.1≠X.env.locals/\p.1∉X.fs/\∀v,p.2.data≠.cell v):Inv X pins' σ H s :=
 ⟨I.ok,I.os,I.bare,I.base,I.loc,I.cell,I.free,I.freeC,fun p hp=>(List.mem_append.mp hp).elim (fun z=>I.pin p (List.mem_append_left _ z)) (h p),I.hok,I.len⟩
theorem zd6{N:List Str}(hN:N.Nodup){i j:Nat}{x:Str}(a:N[i]?=some x)(b:N[j]?=some x):i=j:=by
 obtain⟨h1,e1⟩:=List.getElem?_eq_some_iff.mp a;obtain⟨h2,e2⟩:=List.getElem?_eq_some_iff.mp b;exact(List.getElem_inj hN).mp (e1.trans e2.symm)
theorem zcR{M:Model}{A:Around}{E:qV}{i:Nat}{x:Str}{v:V}{u:Value}{Q:Unit->Shared->Prop}(I:Inv X pins σ H s)(hN:X.N.Nodup)(hi:X.N[i]?=some x)(hx:Loc X.env.scope x)(r:RelV v u)
  (h:∀s',Inv X pins (σ.set i (some v)) H s'->(∃a,Heap.SameBut a s.heap s'.heap/\(a=X.env.locals\/X.env.cells.lookup x=some a))->Q () s') (hf:X.fn x=true\/X.env.scope.names.lookup x=some .local:=by walk_at "F"):wpAny M A (storeName X.env x u) Q E s:=by
 obtain⟨m,hn,hl⟩:=id I.loc;have hcls:(X.env.scope.kind == .class||(X.env.scope.kind == .module&&X.env.locals != X.env.globals))=false:=by rw[I.ok.kind];rfl
 have hiσ:i<σ.length:=by rw[I.len];exact(List.getElem?_eq_some_iff.mp hi).1
 have cne:=I.cne;have tracked:∀{a:Addr} {h':Heap},(∃o,s.heap.get? a=some o/\H a=none)->Heap.SameBut a s.heap h'->HOk X.prog X.w H h':=fun {a h'} ha hs b ob e=>by
  obtain⟨_,_,hfree⟩:=ha;refine(I.hok b ob e).stay (fun c w' hc q=>(hs.2 c ?_).trans q) (fun _ q=>q) (fun _ _ q=>q) fun _ _ _ q=>q
  rintro rfl;rcases hc with rfl|hc
  ·rw[hfree]at e;cases e
  ·rw[hfree]at hc;cases hc
 rcases hx with hk|hk
 ·refine wpAny_storeName_local hk hn (fun h' hn' hs=>?_) hcls
  obtain⟨oL,_,_,hoL,_⟩:=id hn;refine h _ ⟨I.ok,I.os,I.bare,⟨fun b o e n hb hx=>?_,fun b o e n hb hx=>?_,I.base.free,fun b o e hx=>?_,I.base.tups,I.base.frzs,I.base.tbls⟩,⟨_,hn',fun j y v' e1 e2 e3=>?_⟩,fun y c e=>?_,I.free,I.freeC,fun p hp=>?_,tracked ⟨oL,hoL,I.free⟩ hs,by simpa using I.len⟩ ⟨_,hs,.inl rfl⟩
  ·exact(hs.2 b (Nat.ne_of_lt (Nat.lt_of_lt_of_le (Heap.lt_size e) I.ok.above))).trans (I.base.keep b o e n hb hx)
  ·obtain⟨sl,e1⟩:=I.base.slot b o e n hb hx;exact⟨sl,(hs.2 b (Nat.ne_of_lt (Nat.lt_of_lt_of_le (Heap.lt_size e) I.ok.above))).trans e1⟩
  ·obtain⟨o',e1⟩:=I.base.there b o e hx;exact⟨o',(hs.2 b (Nat.ne_of_lt (Nat.lt_of_lt_of_le (Heap.lt_size e) I.ok.above))).trans e1⟩
  ·by_cases hj:j=i
   ·subst hj;rw[hi]at e1;cases e1;rw[List.getElem?_set_self hiσ]at e2;cases e2;exact⟨u,r,.inl ⟨hk,by simp⟩⟩
   ·rw[List.getElem?_set_ne (Ne.symm hj)]at e2;obtain⟨u',r',q⟩:=hl j y v' e1 e2 e3;refine⟨u',r',?_⟩;rcases q with⟨k,e⟩|⟨k,c,e,z⟩
    ·refine .inl ⟨k,?_⟩;have:y≠x:=fun e=>hj (zd6 hN e1 (e▸hi))
     simp[this,e]
    ·exact .inr ⟨k,c,e,z.sameBut hs (cne y c e)⟩
  ·obtain⟨w',z⟩:=I.cell y c e;exact⟨w',z.sameBut hs (cne y c e)⟩
  ·obtain⟨e,n,ne,nf,d⟩:=I.pin p hp;exact⟨(hs.2 p.1 ne).trans e,n,ne,nf,d⟩
 ·have hfn:X.fn x=true:=by
   rcases hf with z|z
   ·exact z
   ·rw[z]at hk;cases hk
  obtain⟨c,hc⟩:=I.ok.has x (.inl hk);obtain⟨w',z⟩:=I.cell x c hc;refine wpAny_storeName_cell I.ok.kind hk hc z (fun h' hc' hs=>?_)
  obtain⟨oc,hoc,hocd⟩:=id z;refine h { s with heap:=h' } ⟨I.ok,I.os,I.bare,⟨fun b o e n hb hx=>?_,fun b o e n hb hx=>?_,I.base.free,fun b o e hx=>?_,I.base.tups,I.base.frzs,I.base.tbls⟩,⟨m,hn.sameBut hs (Ne.symm (cne x c hc)),fun j y v' e1 e2 e3=>?_⟩,fun y c' e=>?_,I.free,I.freeC,fun p hp=>?_,tracked ⟨oc,hoc,I.freeC x c hc⟩ hs,by simpa using I.len⟩ ⟨c,hs,.inr hc⟩
  ·exact(hs.2 b (Nat.ne_of_lt (Nat.lt_of_lt_of_le (Heap.lt_size e) (I.ok.cab x c hfn hc)))).trans (I.base.keep b o e n hb hx)
  ·obtain⟨sl,e1⟩:=I.base.slot b o e n hb hx;exact⟨sl,(hs.2 b (Nat.ne_of_lt (Nat.lt_of_lt_of_le (Heap.lt_size e) (I.ok.cab x c hfn hc)))).trans e1⟩
  ·obtain⟨o',e1⟩:=I.base.there b o e hx;exact⟨o',(hs.2 b (Nat.ne_of_lt (Nat.lt_of_lt_of_le (Heap.lt_size e) (I.ok.cab x c hfn hc)))).trans e1⟩
  ·by_cases hj:j=i
   ·subst hj;rw[hi]at e1;cases e1;rw[List.getElem?_set_self hiσ]at e2;cases e2;exact⟨u,r,.inr ⟨.inl hk,c,hc,hc'⟩⟩
   ·rw[List.getElem?_set_ne (Ne.symm hj)]at e2;obtain⟨u',r',q⟩:=hl j y v' e1 e2 e3;refine⟨u',r',?_⟩;rcases q with q|⟨k,c',e,z'⟩
    ·exact .inl q
    ·refine .inr ⟨k,c',e,z'.sameBut hs ?_⟩;rintro rfl;exact hj (zd6 hN e1 (I.ok.inj _ _ _ e hc▸hi))
  ·by_cases hcc:c'=c
   ·subst hcc;exact⟨_,hc'⟩
   ·obtain⟨w2,z2⟩:=I.cell y c' e;exact⟨w2,z2.sameBut hs hcc⟩
  ·obtain⟨e,n,ne,nf,d⟩:=I.pin p hp;refine⟨(hs.2 p.1 ?_).trans e,n,ne,nf,d⟩;intro q;rw[q,hoc]at e;have q':oc=p.2:=Option.some.inj e;exact d w' (by rw[<- q'];exact hocd)
theorem zdU{M:Model}{A:Around}{E:qV}{i:Nat}{x:Str}{v:V}{u:Value}{Q:Unit->Shared->Prop}(I:Inv X pins σ H s)(hN:X.N.Nodup)(hi:X.N[i]?=some x)(hx:Loc X.env.scope x)(r:RelV v u)
  (h:∀s',Inv X pins (σ.set i (some v)) H s'->Q () s') (hf:X.fn x=true\/X.env.scope.names.lookup x=some .local:=by walk_at "F"):wpAny M A (storeName X.env x u) Q E s :=
 zcR I hN hi hx r (fun s' I' _=>h s' I') hf
theorem Inv.call'{s':Shared}{ch:List Addr}(I:Inv X pins σ H s)(ho:s'.os=s.os)(u:Un (frs X.stack) ch H H' s.heap s'.heap)(hok:HOk X.prog X.w H' s'.heap)(hg:AllBare s'.gens)
  (hch:∀b∈ch,(b∈X.ex\/X.s₀.heap.objs.size<=b)/\b≠X.env.locals/\(∀x c,X.env.cells.lookup x=some c->c≠b)/\∀p∈X.pn++pins,p.1≠b):Inv X pins σ H' s':=by
 obtain⟨h',g',d',t',o'⟩:=s';have e:o'=s.os:=ho;subst e;exact I.call (g':=g') (t':=t') (d':=d') u hok hg hch
end
abbrev XK:=Value->Option Addr->Hp->Prop
abbrev St:=List (Option V)
abbrev VK:=V->Hp->Prop
abbrev TE:=St->Hp->VK->Prop
abbrev TT:=St->Hp->(Bool->Hp->Prop)->Prop
abbrev TA:=St->Hp->(List V->Hp->Prop)->Prop
structure Ends where
 nx:St->Hp->Prop
 rt:VK
 bk:St->Hp->Prop:=fun _ _=>False
 ct:St->Hp->Prop:=fun _ _=>False
abbrev TS:=Ends->St->Hp->Prop
def EP(X:Cx)(pins:qO)(σ:St)(Q:VK)(u:Value)(s':Shared):Prop:=∃v H',Inv X pins σ H' s'/\RelV v u/\Q v H'
def TP(X:Cx)(pins:qO)(σ:St)(Q:Bool->Hp->Prop)(b:Bool)(s':Shared):Prop:=∃H',Inv X pins σ H' s'/\Q b H'
def AP(X:Cx)(pins:qO)(σ:St)(Q:List V->Hp->Prop)(us:List Value)(s':Shared):Prop:=∃vs H',Inv X pins σ H' s'/\Vals vs us/\Q vs H'
def SP(X:Cx)(pins:qO)(D:Ends)(f:Flow)(s':Shared):Prop :=
 match f with
 | .next=>∃σ' H',Inv X pins σ' H' s'/\D.nx σ' H'
 | .brk=>∃σ' H',Inv X pins σ' H' s'/\D.bk σ' H'
 | .cont=>∃σ' H',Inv X pins σ' H' s'/\D.ct σ' H'
 | .ret u=>∃v σ' H',Inv X pins σ' H' s'/\RelV v u/\D.rt v H'
def PE(X:Cx)(e:Expr)(t:TE):Prop :=
 ∀(pins:qO) (s:Shared) (σ:St) (H:Hp) (Q:VK),Inv X pins σ H s->t σ H Q->wpAny (model X.prog X.w) X.A (eval e X.env) (EP X pins σ Q) X.xe s
def PT(X:Cx)(e:Expr)(t:TT):Prop :=
 ∀(pins:qO) (s:Shared) (σ:St) (H:Hp) (Q:Bool->Hp->Prop),Inv X pins σ H s->t σ H Q->wpAny (model X.prog X.w) X.A (isTrue e X.env (eval e X.env)) (TP X pins σ Q) X.xe s
def PW(X:Cx)(e:Expr)(t:TT):Prop :=
 ∀(whole:Sem Value) (pins:qO) (s:Shared) (σ:St) (H:Hp) (Q:Bool->Hp->Prop),Inv X pins σ H s->t σ H Q->wpAny (model X.prog X.w) X.A (isTrue e X.env whole) (TP X pins σ Q) X.xe s
theorem PW.pt{X:Cx}{e:Expr}{t:TT}(h:PW X e t):PT X e t:=h _
def PA(X:Cx)(es:List Expr)(t:TA):Prop :=
 ∀(pos:Pos) (pins:qO) (s:Shared) (σ:St) (H:Hp) (Q:List V->Hp->Prop),Inv X pins σ H s->t σ H Q->wpAny (model X.prog X.w) X.A (spliced (backTo pos (starEach es X.env))) (AP X pins σ Q) X.xe s
def PS(X:Cx)(st:Stmt)(t:TS):Prop :=
 ∀(pins:qO) (s:Shared) (σ:St) (H:Hp) (D:Ends),Inv X pins σ H s->t D σ H->wpAny (model X.prog X.w) X.A (exec st X.env) (SP X pins D) X.xe s
def PSs(X:Cx)(st:List Stmt)(t:TS):Prop :=
 ∀(pins:qO) (s:Shared) (σ:St) (H:Hp) (D:Ends),Inv X pins σ H s->t D σ H->wpAny (model X.prog X.w) X.A (execs st X.env) (SP X pins D) X.xe s
theorem thn{α:Type}{t:Sem α}{Q Q':α->Shared->Prop}{M:Model}{A:Around}{E:qV}{s:Shared}(h:wpAny M A t Q E s)(hQ:∀a s,Q a s->Q' a s):wpAny M A t Q' E s:=wpAny_mono h hQ fun _ _ x=>x
section
variable{X:Cx}
def tVar(i:Nat):TE:=fun σ H Q=>∃v,σ[i]?=some (some v)/\Q v H
def tC(v:V):TE:=fun _ H Q=>Q v H
theorem J1{i:Nat}{x:Str}{pos:Pos}(hN:X.N[i]?=some x)(hv:Vis X.env.scope x)(hd:(x == ("__debug__":Str))=false:=by decide) (hcd:(x == ("__classdict__":Str))=false:=by decide):PE X (.Name x pos) (tVar i):=by
 intro pins s σ H Q I h;obtain⟨v,e,h⟩:=h;obtain⟨m,hn,hl⟩:=I.loc;obtain⟨u,r,l⟩:=hl i x v hN e hv;have fin:EP X pins σ Q u s:=⟨v,H,I,r,h⟩;rcases l with⟨hk,hm⟩|⟨hk,c,hc,hcell⟩
 ·exact wpAny_Name (wpAny_loadName_local I.ok.kind hk hn hm fin) hd
 ·rcases hk with hk|hk
  ·exact wpAny_Name (wpAny_loadName_cell I.ok.kind hk hc hcell fin) hd
  ·exact wpAny_Name (wpAny_loadName_free I.ok.kind hk hc hcell fin hcd) hd
theorem Ji{i j pos}:PE X (.Constant (.int i) j pos) (tC (.int i)):=fun _ _ _ H _ I h=>wpAny_Constant_int ⟨.int i,H,I.tok _,⟨_,rfl⟩,h⟩
theorem zme{b j pos}:PE X (.Constant (.bool b) j pos) (tC (.bl b)):=fun _ _ _ H _ I h=>Constant_bool ⟨.bl b,H,I,rfl,h⟩
def Gl(X:Cx)(x:Str):Prop:=X.env.kindOf x=some .globalImplicit
theorem zfy{E:qV}{pins:qO}{s:Shared}{σ:St}{H:Hp}{x:Str}{u:Value}{pos:Pos}{Q:qV}(I:Inv X pins σ H s)(hg:Gl X x)(hm:X.mg x=some u)(h:Q u s)
  (hd:(x == ("__debug__":Str))=false:=by decide):wpAny (model X.prog X.w) X.A (eval (.Name x pos) X.env) Q E s :=
 Calls.Name_function_global I.ok.kind hg (Calls.loadGlobal_global (by rw[I.ok.glob];exact I.mod.glob.keeps I.bk) hm h) hd
theorem QQ{E:qV}{pins:qO}{s:Shared}{σ:St}{H:Hp}{x:Str}{u:Value}{pos:Pos}{Q:qV}(I:Inv X pins σ H s)(hg:Gl X x)(hm:X.mg x=none)(hv:bootBuiltins x=some u)(h:Q u s)
  (hn:x ≠ "__name__":=by decide) (hd:(x == ("__debug__":Str))=false:=by decide):wpAny (model X.prog X.w) X.A (eval (.Name x pos) X.env) Q E s:=by
 obtain⟨mb,h1,h2⟩:=I.mod.blt;exact Calls.Name_function_global I.ok.kind hg (Calls.loadGlobal_builtin (by rw[I.ok.glob];exact I.mod.glob.keeps I.bk) hm (by rw[I.ok.blt];exact h1.keeps I.bk) ((h2 x hn).trans hv) h) hd
theorem zid{x:Str}{v:V}{u:Value}{pos:Pos}(hg:Gl X x)(hm:X.mg x=none)(hv:bootBuiltins x=some u)(r:RelV v u)(hn:x ≠ "__name__":=by decide) (hd:(x == ("__debug__":Str))=false:=by decide):PE X (.Name x pos) (tC v) :=
 fun _ _ _ H _ I h=>QQ I hg hm hv ⟨v,H,I,r,h⟩ hn hd
variable{a b:Expr}{ta tb:TE}{pos:Pos}
variable{tA tB':TT}{rest:List Expr}
def tAnd(t u:TT):TT:=fun σ H Q=>t σ H fun c H1=>if c=true then u σ H1 Q else Q false H1
def tOr(t u:TT):TT:=fun σ H Q=>t σ H fun c H1=>if c=true then Q true H1 else u σ H1 Q
def tNot(t:TT):TT:=fun σ H Q=>t σ H fun c H1=>Q (!c) H1
theorem zhX(ha:PT X a tA):PW X (.BoolOp .And [a] pos) tA:=by
 intro wh pins s σ H Q I h;refine isTrue_and (thn (ha pins s σ H Q I h) fun c s1 e=>?_)
 cases c with
 | true=>exact isTrue_and_nil e
 | false=>exact e
theorem zjF(ha:PT X a tA):PW X (.BoolOp .Or [a] pos) tA:=by
 intro wh pins s σ H Q I h;refine isTrue_or (thn (ha pins s σ H Q I h) fun c s1 e=>?_)
 cases c with
 | false=>exact isTrue_or_nil e
 | true=>exact e
theorem zjG(ha:PT X a tA)(hb:PW X (.BoolOp .And (b::rest) pos) tB'):PW X (.BoolOp .And (a::b::rest) pos) (tAnd tA tB'):=by
 intro wh pins s σ H Q I h;refine isTrue_and (thn (ha pins s σ H _ I h) fun c s1 ⟨H1,I1,q1⟩=>?_)
 cases c with
 | true=>exact hb wh pins s1 σ H1 Q I1 q1
 | false=>exact⟨H1,I1,q1⟩
theorem zmb(ha:PT X a tA)(hb:PW X (.BoolOp .Or (b::rest) pos) tB'):PW X (.BoolOp .Or (a::b::rest) pos) (tOr tA tB'):=by
 intro wh pins s σ H Q I h;refine isTrue_or (thn (ha pins s σ H _ I h) fun c s1 ⟨H1,I1,q1⟩=>?_)
 cases c with
 | true=>exact⟨H1,I1,q1⟩
 | false=>exact hb wh pins s1 σ H1 Q I1 q1
theorem zjH(ha:PT X a tA):PT X (.UnaryOp .Not a pos) (tNot tA):=by
 intro pins s σ H Q I h;exact isTrue_not (ha pins s σ H (fun c H1=>Q (!c) H1) I h)
end
def SqL(K:qF)(H:Hp)(a:Addr)(xs:List V):Prop :=
 Rd H a (.lst xs) \/
  ∃(o:Obj) (its:Array Value) (n:Nat),K.lookup a=some o/\o.cls=.type "list" /\ o.dict=none/\o.data=.seq its n/\its.size<=sizeLine/\Vals xs its.toList
def SqT(K:qF)(H:Hp)(a:Addr)(xs:List V):Prop :=
 Rd H a (.tup xs) \/
  ∃(o:Obj) (its:Array Value) (n:Nat),K.lookup a=some o/\o.cls=.type "tuple" /\ o.data=.seq its n/\its.size<=sizeLine/\Vals xs its.toList
def absV:Value->Option V
 | .none=>some .non
 | .bool b=>some (.bl b)
 | .int i _=>some (.int i)
 | .str x _=>some (.str x)
 | .bytes b _=>some (.byt b)
 | .float b _=>some (.flt b)
 | .ref a=>some (.ref a)
 | .type n=>some (.ty n)
 | _=>none
theorem RelV.abs{x:V}{u:Value}(r:RelV x u):absV u=some x:=by
 cases x with
 | non=>cases r;rfl
 | bl _=>cases r;rfl
 | int _=>obtain⟨t,rfl⟩:=r;rfl
 | str _=>obtain⟨t,rfl⟩:=r;rfl
 | byt _=>obtain⟨t,rfl⟩:=r;rfl
 | flt _=>obtain⟨t,rfl⟩:=r;rfl
 | ref _=>cases r;rfl
 | ty _=>cases r;rfl
theorem RelV.inj{x y:V}{u:Value}(r:RelV x u)(q:RelV y u):x=y:=Option.some.inj (r.abs.symm.trans q.abs)
theorem Vals.inj{xs ys:List V}{us:List Value}(h:Vals xs us)(k:Vals ys us):xs=ys:=by
 induction h generalizing ys with
 | nil=>cases k;rfl
 | cons r t ih =>
  cases k with
  | cons r' t'=>rw[r.inj r',ih t']
section
variable{X:Cx}{pins:qO}{σ:St}{H:Hp}{s:Shared}{a:Addr}{xs ys:List V}
theorem SqL.of{K:qF}(h:H a=some (.lst xs)):SqL K H a xs:=.inl (.inl h)
theorem Inv.list(I:Inv X pins σ H s)(h:SqL X.K H a xs):∃its:List Value,Vals xs its/\PlainL s.heap a its.toArray/\xs.length<=sizeLine:=by
 rcases h with h|⟨o,its,n,hk,hc,hd,hs,hz,r⟩
 ·obtain⟨z,its,n,r,e⟩:=h.ok I.hok;exact⟨its,r,⟨_,n,e,rfl,rfl,rfl⟩,z⟩
 ·refine⟨its.toList,r,⟨o,n,I.kIn a o hk,hc,hd,by simpa using hs⟩,?_⟩
  have e:=r.length;simp only[Array.length_toList]at e;lia
theorem Inv.tuple(I:Inv X pins σ H s)(h:SqT X.K H a xs):∃its:List Value,Vals xs its/\IsTup s.heap a its.toArray/\xs.length<=sizeLine:=by
 rcases h with h|⟨o,its,n,hk,hc,hs,hz,r⟩
 ·obtain⟨z,its,r,p⟩:=h.ok I.hok;exact⟨its,r,p.tup,z⟩
 ·refine⟨its.toList,r,⟨o,I.kIn a o hk,hc,n,by simpa using hs⟩,?_⟩
  have e:=r.length;simp only[Array.length_toList]at e;lia
theorem Inv.list_inj(I:Inv X pins σ H s)(h:SqL X.K H a xs)(h':SqL X.K H a ys):xs=ys:=by
 obtain⟨its,r,⟨o,n,e,_,_,d⟩,_⟩:=I.list h;obtain⟨its',r',⟨o',n',e',_,_,d'⟩,_⟩:=I.list h';rw[e]at e';cases e';rw[d]at d'
 injection d' with d1 _
 have:its=its':=by simpa using congrArg Array.toList d1
 subst this;exact r.inj r'
theorem Inv.tuple_inj(I:Inv X pins σ H s)(h:SqT X.K H a xs)(h':SqT X.K H a ys):xs=ys:=by
 obtain⟨its,r,⟨o,e,_,n,d⟩,_⟩:=I.tuple h;obtain⟨its',r',⟨o',e',_,n',d'⟩,_⟩:=I.tuple h';rw[e]at e';cases e';rw[d]at d'
 injection d' with d1 _
 have:its=its':=by simpa using congrArg Array.toList d1
 subst this;exact r.inj r'
end
abbrev Cx.wish(X:Cx)(E:qV):Cx:={ X with xe:=E }
abbrev Cx.nox(X:Cx):Cx:=X.wish fun _ _=>False
theorem Cx.Ok.wish{X:Cx}(ok:X.Ok)(E:qV):(X.wish E).Ok :=
 ⟨ok.mod,ok.kind,ok.glob,ok.blt,ok.above,ok.inj,ok.has,ok.cab,ok.hd,ok.frames,ok.stk,ok.exf,ok.bs,ok.bsz,ok.noex,ok.exfs,ok.funs,ok.frf⟩
theorem Cx.Ok.unwish{X:Cx}{E:qV}(ok:(X.wish E).Ok):X.Ok :=
 ⟨ok.mod,ok.kind,ok.glob,ok.blt,ok.above,ok.inj,ok.has,ok.cab,ok.hd,ok.frames,ok.stk,ok.exf,ok.bs,ok.bsz,ok.noex,ok.exfs,ok.funs,ok.frf⟩
section
variable{X:Cx}{pins:qO}{σ:St}{H:Hp}{s:Shared}{E:qV}
theorem Inv.wish(I:Inv X pins σ H s)(E:qV):Inv (X.wish E) pins σ H s:=⟨I.ok.wish E,I.os,I.bare,I.base,I.loc,I.cell,I.free,I.freeC,I.pin,I.hok,I.len⟩
theorem Inv.unwish(I:Inv (X.wish E) pins σ H s):Inv X pins σ H s:=⟨I.ok.unwish,I.os,I.bare,I.base,I.loc,I.cell,I.free,I.freeC,I.pin,I.hok,I.len⟩
theorem SP.unwish{D:Ends}{f:Flow}{s':Shared}(h:SP (X.wish E) pins D f s'):SP X pins D f s':=by
 cases f with
 | next=>obtain⟨σ',H',I,q⟩:=h;exact⟨σ',H',I.unwish,q⟩
 | brk=>obtain⟨σ',H',I,q⟩:=h;exact⟨σ',H',I.unwish,q⟩
 | cont=>obtain⟨σ',H',I,q⟩:=h;exact⟨σ',H',I.unwish,q⟩
 | ret u=>obtain⟨v,σ',H',I,r,q⟩:=h;exact⟨v,σ',H',I.unwish,r,q⟩
theorem PSs.nox{st:List Stmt}{t:TS}(h:PSs X.nox st t):PSs X st t:=fun pins s σ H D I hw =>
 wpAny_mono (h pins s σ H D (I.wish _) hw) (fun _ _ q=>q.unwish) fun _ _ z=>False.elim z
end
section
variable{X:Cx}{st:Stmt}{rest:List Stmt}{t u:TS}{e:Expr}{te:TE}{pos:Pos}
def zlK:TS:=fun D σ H=>D.nx σ H
def tSeq(t u:TS):TS:=fun D σ H=>t { D with nx:=u D } σ H
theorem zdv:PSs X [] zlK:=fun _ _ σ H _ I h=>wpAny_execs_nil ⟨σ,H,I,h⟩
theorem JG(h1:PS X st t)(h2:PSs X rest u):PSs X (st::rest) (tSeq t u):=by
 intro pins s σ H D I h;refine wpAny_execs_cons (thn (h1 pins s σ H { D with nx:=u D } I h) fun f s1 q=>?_)
 cases f with
 | next =>
  obtain⟨σ',H',I',q⟩:=q;exact h2 pins s1 σ' H' D I' q
 | ret v=>exact q
 | brk=>exact q
 | cont=>exact q
theorem QW(h1:PS X st t):PSs X [st] t:=by
 intro pins s σ H D I h;refine wpAny_execs_cons (thn (h1 pins s σ H D I h) fun f s1 q=>?_)
 cases f with
 | next=>exact wpAny_execs_nil q
 | ret v=>exact q
 | brk=>exact q
 | cont=>exact q
theorem Inv.quiet{pins:qO}{σ:St}{H:Hp}{s:Shared}(I:Inv X pins σ H s):interactive X.env=false:=by simp[interactive,I.ok.kind]
def zlL(te:TE):TS:=fun D σ H=>te σ H fun _ H1=>D.nx σ H1
theorem zh3(he:PE X e te)(hs:swapsWith e none pos.line X.env=pure false:=by rfl):PS X (.Expr e pos) (zlL te):=by
 intro pins s σ H D I h;exact wpAny_Expr_any (thn (he pins s σ H _ I h) fun v s1 ⟨x,H1,I1,r1,q1⟩=>⟨σ,H1,I1,q1⟩) I.quiet hs
def tRet(te:TE):TS:=fun D σ H=>te σ H D.rt
theorem UB(he:PE X e te):PS X (.Return (some e) pos) (tRet te):=by
 intro pins s σ H D I h;exact wpAny_Return_some (thn (he pins s σ H _ I h) fun v s1 ⟨x,H1,I1,r1,q1⟩=>⟨x,σ,H1,I1,r1,q1⟩)
def tIfS(c:TT)(t u:TS):TS:=fun D σ H=>c σ H fun b H1=>if b=true then t D σ H1 else u D σ H1
theorem zh2{c:Expr}{a b:List Stmt}{tc:TT}(hc:PT X c tc)(ha:PSs X a t)(hb:PSs X b u):PS X (.If c a b pos) (tIfS tc t u):=by
 intro pins s σ H D I h;refine wpAny_If (thn (hc pins s σ H _ I h) fun d s1 ⟨H1,I1,q1⟩=>?_)
 cases d with
 | true=>exact ha pins s1 σ H1 D I1 q1
 | false=>exact hb pins s1 σ H1 D I1 q1
end
abbrev TG:=V->St->Hp->(St->Hp->Prop)->Prop
abbrev TGs:=List V->St->Hp->(St->Hp->Prop)->Prop
def PG(X:Cx)(target:Expr)(t:TG):Prop :=
 ∀(pins:qO) (s:Shared) (σ:St) (H:Hp) (v:V) (u:Value) (Q:St->Hp->Prop),Inv X pins σ H s->RelV v u->t v σ H Q ->
  wpAny (model X.prog X.w) X.A (assign target X.env u) (fun _ s'=>∃σ' H',Inv X pins σ' H' s'/\Q σ' H') X.xe s
def PGs(X:Cx)(ts:List Expr)(t:TGs):Prop :=
 ∀(pins:qO) (s:Shared) (σ:St) (H:Hp) (vs:List V) (us:List Value) (Q:St->Hp->Prop),Inv X pins σ H s->Vals vs us->t vs σ H Q ->
  wpAny (model X.prog X.w) X.A (assignInOrder ((assignEach ts X.env).map (·.2)) us) (fun _ s'=>∃σ' H',Inv X pins σ' H' s'/\Q σ' H') X.xe s
abbrev TSet:=V->V->V->Hp->(Hp->Prop)->Prop
def PSet(X:Cx)(t:TSet):Prop :=
 ∀(pins:qO) (s:Shared) (σ:St) (H:Hp) (o i v:V) (ov iv u:Value) (Q:Hp->Prop),Inv X pins σ H s->RelV o ov->RelV i iv->RelV v u->t o i v H Q ->
  wpAny (model X.prog X.w) X.A (setItem ov iv u) (fun _ s'=>∃H',Inv X pins σ H' s'/\Q H') X.xe s
section
variable{X:Cx}{pos:Pos}
def Ui(i:Nat):TG:=fun v σ H Q=>Q (σ.set i (some v)) H
theorem zh8{i:Nat}{x:Str}(hN:X.N.Nodup)(hi:X.N[i]?=some x)(hx:Loc X.env.scope x)(hf:X.fn x=true\/X.env.scope.names.lookup x=some .local:=by walk_at "F"):PG X (.Name x pos) (Ui i):=by
 intro pins s σ H v u Q I r h;exact wpAny_assign_Name (zdU I hN hi hx r (fun s' I'=>⟨_,H,I',h⟩) hf)
def gNil:TGs:=fun vs σ H Q=>vs=[]/\Q σ H
def zmO(t:TG)(u:TGs):TGs:=fun vs σ H Q=>∃v r,vs=v::r/\t v σ H fun σ' H'=>u r σ' H' Q
theorem zh7:PGs X [] gNil:=by
 intro pins s σ H vs us Q I r h;obtain⟨e,h⟩:=h;subst e;cases r;exact assignInOrder_nil ⟨σ,H,I,h⟩
theorem zgw{e:Expr}{es:List Expr}{t:TG}{u:TGs}(h1:PG X e t)(h2:PGs X es u)
  (hs:(assignEach (e::es) X.env).map (·.2)=assign e X.env::(assignEach es X.env).map (·.2):=by rfl):PGs X (e::es) (zmO t u):=by
 intro pins s σ H vs us Q I r h;obtain⟨v,vr,e1,h⟩:=h;subst e1;cases r with
 | cons r rr =>
  rw[hs];refine assignInOrder_cons (thn (h1 pins s σ H _ _ _ I r h) fun _ s1 ⟨σ1,H1,I1,q1⟩=>?_)
  exact h2 pins s1 σ1 H1 _ _ Q I1 rr q1
def gTup(K:qF)(n:Nat)(t:TGs):TG:=fun v σ H Q=>∃a xs,v=.ref a/\SqT K H a xs/\xs.length=n/\t xs σ H Q
theorem zjL{es:List Expr}{k:Nat}{t:TGs}{n:Nat}(hc:X.calm=true)(h:PGs X es t)
  (hn:(assignEach es X.env).length=n:=by rfl) (hst:(assignEach es X.env).findIdx? (·.1)=none:=by rfl):PG X (.Tuple es k pos) (gTup X.K n t):=by
 intro pins s σ H v u Q I r hw;obtain⟨a,xs,e1,hq,hl,hw⟩:=hw;subst e1;cases r;obtain⟨its,rv,ht,hz⟩:=I.tuple hq;refine assign_Tuple_tuple (I.ok.hd hc) ht (by simp[hn,<- hl,rv.length]) hst fun h' hx=>?_
 have I1:Inv X pins σ H { s with heap:=h' }:=I.kept (t':=s.toks) fun b o e=>hx b o (Nat.ne_of_lt (Heap.lt_size e)) e
 exact h pins _ σ H xs _ Q I1 (by simpa using rv) hw
def gSub(to ti:TE)(t:TSet):TG:=fun v σ H Q=>to σ H fun o H1=>ti σ H1 fun i H2=>t o i v H2 fun H3=>Q σ H3
theorem zhm{o i:Expr}{to ti:TE}{t:TSet}(ho:PE X o to)(hi:PE X i ti)(hs:PSet X t)
  (ha:∀v,assign (.Subscript o i pos) X.env v=(do
   let ov <- holding [v] (eval o X.env)
   let iv <- holding [v,ov] (eval i X.env)
   standAt pos
   holding [v,ov,iv] (setItem ov iv v)
   release [v,ov,iv] []):=by intro _;rfl):PG X (.Subscript o i pos) (gSub to ti t):=by
 intro pins s σ H v u Q I r h;rw[ha];refine wpAny_bind (wpAny_holding (thn (ho pins s σ H _ I h) fun ov s1 ⟨x,H1,I1,r1,q1⟩=>?_))
 refine wpAny_bind (wpAny_holding (thn (hi pins s1 σ H1 _ I1 q1) fun iv s2 ⟨y,H2,I2,r2,q2⟩=>?_))
 refine wpAny_bind (wpAny_standAt (wpAny_bind (wpAny_holding (thn (hs pins s2 σ H2 x y v ov iv u _ I2 r1 r2 r q2) fun _ s3 ⟨H3,I3,q3⟩=>?_))))
 exact wpAny_release ⟨σ,H3,I3,q3⟩
def tAsg(te:TE)(g:TG):TS:=fun D σ H=>te σ H fun x H1=>g x σ H1 D.nx
theorem zfg{tg e:Expr}{te:TE}{g:TG}(he:PE X e te)(hg:PG X tg g)(hs:swapsWithSole [tg] e pos.line X.env=pure false:=by rfl)(hw:swappedStores [tg] e X.env=pure none:=by rfl)
  (h1:(assignEach [tg] X.env).map (·.2)=[assign tg X.env]:=by rfl):PS X (.Assign [tg] e pos) (tAsg te g):=by
 intro pins s σ H D I h;refine wpAny_Assign_stores (thn (he pins s σ H _ I h) fun v s1 ⟨x,H1,I1,r1,q1⟩=>?_) hs hw
 rw[h1];exact thn (hg pins s1 σ H1 x v _ I1 r1 q1) fun _ s2 q=>q
theorem JN{i:Nat}{x:Str}{e:Expr}{te:TE}{pos':Pos}(hN:X.N.Nodup)(hi:X.N[i]?=some x)(hx:Loc X.env.scope x)(he:PE X e te)(hs:swapsWith e (some (.Name x pos')) pos.line X.env=pure false:=by rfl)(hf:X.fn x=true\/X.env.scope.names.lookup x=some .local:=by walk_at "F") :
  PS X (.Assign [.Name x pos'] e pos) (tAsg te (Ui i)):=by
 intro pins s σ H D I h;refine wpAny_Assign_Name (thn (he pins s σ H _ I h) fun v s1 ⟨y,H1,I1,r1,q1⟩=>?_) hs
 exact zdU I1 hN hi hx r1 (fun s2 I2=>⟨_,H1,I2,q1⟩) hf
end
structure It where
 go:Nat->Hp->Prop
 yld:Nat->Hp->V->Hp->Prop
 stop:Nat->Hp->Prop
def FpOk(X:Cx)(pins:qO)(H:Hp)(b:Addr):Prop :=
 H b=none/\b≠X.env.locals/\b∉X.fs/\(b∈X.ex\/X.s₀.heap.objs.size<=b)/\(∀x c,X.env.cells.lookup x=some c->c≠b)/\∀p∈X.pn++pins,p.1≠b
theorem Inv.fpOk{X:Cx}{pins:qO}{σ:St}{H H':Hp}{s:Shared}{b:Addr}(I:Inv X pins σ H s)(hb:s.heap.objs.size<=b)(hn:H' b=none):FpOk X pins H' b:=by
 refine⟨hn,Nat.ne_of_gt (Nat.lt_of_lt_of_le I.lt hb),I.nofs hb,.inr (Nat.le_trans I.sz hb),fun x c e z=>?_,fun p hp z=>?_⟩
 ·obtain⟨v,q⟩:=I.cell x c e;exact absurd (Nat.lt_of_lt_of_le q.lt (by rw[z];exact hb)) (Nat.lt_irrefl _)
 ·exact absurd (Nat.lt_of_lt_of_le (Heap.lt_size (I.pin p hp).1) (by rw[z];exact hb)) (Nat.lt_irrefl _)
structure Turn(P:Program)(w:World)(K:qF)(tg:Expr)(J:It)(fp:List Addr)(it:Addr)(tn:Nat->Heap->Prop):Prop where
 mem:it∈fp
 obj:∀i h,tn i h->∀b∈fp,∃o,h.get? b=some o/\∀v,o.data≠.cell v
 keep:∀i h h',tn i h->(∀b∈fp,∀o,h.get? b=some o->h'.get? b=some o)->tn i h'
 item:∀(X:Cx),X.prog=P->X.w=w->X.K=K->X.calm=true->∀(i:Nat) (pins:qO) (s:Shared) (σ:St) (H:Hp) (E:qV),Inv X pins σ H s->(∀b∈fp,FpOk X pins H b)->tn i s.heap->J.go i H ->
  wpAny (model P w) X.A (pyNext (.ref it)) (fun r s1=>∃u,r=some u /\
   wpAny (model P w) X.A (letOwnedTupleGo tg (.ref it) u) (fun _ s2=>∃x H',Inv X pins σ H' s2/\RelV x u/\J.yld i H x H'/\tn (i+1) s2.heap/\∀b∈fp,H' b=none) E s1) E s
 done:∀(X:Cx),X.prog=P->X.w=w->X.K=K->X.calm=true->∀(i:Nat) (pins:qO) (s:Shared) (σ:St) (H:Hp) (E:qV),Inv X pins σ H s->(∀b∈fp,FpOk X pins H b)->tn i s.heap->J.stop i H ->
  wpAny (model P w) X.A (pyNext (.ref it)) (fun r s1=>r=none/\Inv X pins σ H s1) E s
 self:∀(A:Around) (i:Nat) (s:Shared) (Q:qV) (E:qV),tn i s.heap->Q (.ref it) s->wpAny (model P w) A (pyIter (.ref it)) Q E s
abbrev TI:=St->Hp->(It->Hp->Prop)->Prop
def PIE(X:Cx)(pins:qO)(σ:St)(tg:Expr)(R:It->Hp->Prop)(itv:Value)(s2:Shared):Prop :=
 ∃(it:Addr) (fp:List Addr) (tn:Nat->Heap->Prop) (J:It) (H':Hp),itv=.ref it/\Inv X pins σ H' s2/\Turn X.prog X.w X.K tg J fp it tn/\tn 0 s2.heap/\(∀b∈fp,FpOk X pins H' b)/\R J H'
def PI(X:Cx)(tg iter:Expr)(wi:TI):Prop :=
 ∀(pins:qO) (s:Shared) (σ:St) (H:Hp) (R:It->Hp->Prop),Inv X pins σ H s->wi σ H R ->
  wpAny (model X.prog X.w) X.A (eval iter X.env) (fun v s1=>wpAny (model X.prog X.w) X.A (pyIter v) (PIE X pins σ tg R) X.xe s1) X.xe s
theorem ziI{M:Model}{A:Around}{E:qV}{s:Shared}{tg:Expr}{it:Addr}{u:Value}{o:Obj}{n:String}{vs:Array Value}{Q:Unit->Shared->Prop}(ho:s.heap.get? it=some o)(hc:o.cls=.type n)(hd:o.data=.fields vs)
  (hn:["enumerate","zip","dict_itemiterator","dict_reverseitemiterator","odict_iterator","itertools.zip_longest","itertools.pairwise"].contains n=false) (hQ:Q () s):wpAny M A (letOwnedTupleGo tg (.ref it) u) Q E s:=by
 unfold letOwnedTupleGo;cases tg <;> first
  | exact wpAny_pure hQ
  | (cases u <;> first
    | exact wpAny_pure hQ
    | (refine wpAny_bind (wpAny_load ho ?_)
       rw[hc,hd];show wpAny M A (if (["enumerate","zip","dict_itemiterator","dict_reverseitemiterator","odict_iterator","itertools.zip_longest","itertools.pairwise"].contains n&&vs[0]? == some (rawInt _))=true then _ else _) Q E s
       rw[if_neg (by intro h;rw[hn,Bool.false_and]at h;cases h)]
       exact wpAny_pure hQ))
def Itl(K:qF)(a:Addr):It :=
 ⟨fun i H=>∃xs x,SqL K H a xs/\xs[i]?=some x,fun i H x H'=>H'=H/\∀xs,SqL K H a xs->xs[i]?=some x,fun i H=>∃xs,SqL K H a xs/\xs.length<=i⟩
def Itt(K:qF)(a:Addr):It :=
 ⟨fun i H=>∃xs x,SqT K H a xs/\xs[i]?=some x,fun i H x H'=>H'=H/\∀xs,SqT K H a xs->xs[i]?=some x,fun i H=>∃xs,SqT K H a xs/\xs.length<=i⟩
def Itr(lo:Int)(n:Nat):It:=⟨fun i _=>i<n,fun i H x H'=>H'=H/\x=.int (lo+i),fun i _=>n<=i⟩
theorem ze1{P:Program}{w:World}{K:qF}{tg:Expr}(a it:Addr):Turn P w K tg (Itl K a) [it] it (fun i h=>h.IsListIter it a i) where
 mem:=by simp
 obj:=fun i h st b hb=>by
  have e:b=it:=by simpa using hb
  subst e;obtain⟨o,e,c,d⟩:=st;exact⟨o,e,fun v z=>by rw[d]at z;cases z⟩
 keep:=fun i h h' st k=>st.at fun o e=>k it (by simp) o e
 item:=by
  intro X hP hw hK hc i pins s σ H E I hf st hg;subst hP hw hK;obtain⟨xs,x,hq,hx⟩:=hg;obtain⟨its,rv,p,hz⟩:=I.list hq;obtain⟨u,hu,ru⟩:=rv.get hx;obtain⟨f0,f1,f2,f3,f4,f5⟩:=hf it (by simp)
  refine wpAny_pyNext_list_item st p.isList (x:=u) (by simpa using hu) fun h' st' sb=>?_
  have I1:Inv X pins σ H { s with heap:=h' }:=I.turned (t':=s.toks) (fun b o hb e=>(sb.2 b hb).trans e) f0 f1 f3 f4 f5
  obtain⟨o,e,c,d⟩:=id st';exact⟨u,rfl,ziI (s:={ s with heap:=h' }) e c d (by decide) ⟨x,H,I1,ru,⟨rfl,fun ys hy=>by rw[I.list_inj hy hq];exact hx⟩,st',fun b hb=>(hf b hb).1⟩⟩
 done:=by
  intro X hP hw hK hc i pins s σ H E I hf st hg;subst hP hw hK;obtain⟨xs,hq,hx⟩:=hg;obtain⟨its,rv,p,hz⟩:=I.list hq;obtain⟨f0,f1,f2,f3,f4,f5⟩:=hf it (by simp)
  have hl:=rv.length;exact wpAny_pyNext_list_end (I.ok.hd hc) st p.isList (by simp;lia) fun h' eb=>⟨rfl,I.turned (t':=s.toks) (fun b o hb e=>eb b o hb e) f0 f1 f3 f4 f5⟩
 self:=fun _ _ _ _ _ st h=>wpAny_pyIter_listiter st h
theorem zeo{P:Program}{w:World}{K:qF}{tg:Expr}(a it:Addr):Turn P w K tg (Itt K a) [it] it (fun i h=>h.IsTupleIter it a i) where
 mem:=by simp
 obj:=fun i h st b hb=>by
  have e:b=it:=by simpa using hb
  subst e;obtain⟨o,e,c,d⟩:=st;exact⟨o,e,fun v z=>by rw[d]at z;cases z⟩
 keep:=fun i h h' st k=>st.at fun o e=>k it (by simp) o e
 item:=by
  intro X hP hw hK hc i pins s σ H E I hf st hg;subst hP hw hK;obtain⟨xs,x,hq,hx⟩:=hg;obtain⟨its,rv,p,hz⟩:=I.tuple hq;obtain⟨u,hu,ru⟩:=rv.get hx;obtain⟨f0,f1,f2,f3,f4,f5⟩:=hf it (by simp)
  refine wpAny_pyNext_tuple_item st (show s.heap.IsTuple a its.toArray from p) (x:=u) (by simpa using hu) fun h' st' sb=>?_
  have I1:Inv X pins σ H { s with heap:=h' }:=I.turned (t':=s.toks) (fun b o hb e=>(sb.2 b hb).trans e) f0 f1 f3 f4 f5
  obtain⟨o,e,c,d⟩:=id st';exact⟨u,rfl,ziI (s:={ s with heap:=h' }) e c d (by decide) ⟨x,H,I1,ru,⟨rfl,fun ys hy=>by rw[I.tuple_inj hy hq];exact hx⟩,st',fun b hb=>(hf b hb).1⟩⟩
 done:=by
  intro X hP hw hK hc i pins s σ H E I hf st hg;subst hP hw hK;obtain⟨xs,hq,hx⟩:=hg;obtain⟨its,rv,p,hz⟩:=I.tuple hq;obtain⟨f0,f1,f2,f3,f4,f5⟩:=hf it (by simp)
  have hl:=rv.length;exact wpAny_pyNext_tuple_end (I.ok.hd hc) st (show s.heap.IsTuple a its.toArray from p) (by simp;lia) fun h' eb=>⟨rfl,I.turned (t':=s.toks) (fun b o hb e=>eb b o hb e) f0 f1 f3 f4 f5⟩
 self:=fun _ _ _ _ _ st h=>wpAny_pyIter_tupleiter st h
theorem zep{P:Program}{w:World}{K:qF}{tg:Expr}(it:Addr)(lo:Int)(n:Nat):Turn P w K tg (Itr lo n) [it] it (fun i h=>IsRangeIter h it (lo+(i:Nat)*1) ((n:Int) - (i:Nat)) 1) where
 mem:=by simp
 obj:=fun i h st b hb=>by
  have e:b=it:=by simpa using hb
  subst e;exact⟨_,st,fun v z=>by
   have z':Data.fields _=Data.cell v:=z;cases z'⟩
 keep:=fun i h h' st k=>k it (by simp) _ st
 item:=by
  intro X hP hw hK hc i pins s σ H E I hf st hg;subst hP hw hK;obtain⟨f0,f1,f2,f3,f4,f5⟩:=hf it (by simp)
  have W:=Walks.range (prog:=X.prog) (w:=X.w) (I.ok.hd hc) it lo 1 n;refine W.item i s _ _ hg st fun v h' tk hv st' kk=>?_
  obtain⟨t,rfl⟩:=hv;have I1:Inv X pins σ H { s with heap:=h',toks:=tk }:=I.turned (fun b o hb e=>kk b o (by simpa using hb) e) f0 f1 f3 f4 f5
  refine⟨_,rfl,ziI (s:={ s with heap:=h',toks:=tk }) (n:="range_iterator") st' rfl rfl (by decide) ⟨.int (lo+i),H,I1,⟨t,?_⟩,⟨rfl,rfl⟩,st',fun b hb=>(hf b hb).1⟩⟩
  rw[Int.mul_one]
 done:=by
  intro X hP hw hK hc i pins s σ H E I hf st hg;subst hP hw hK;obtain⟨f0,f1,f2,f3,f4,f5⟩:=hf it (by simp)
  exact wpAny_pyNext_range_end (I.ok.hd hc) st (by have:n<=i:=hg;lia) fun h' eb=>⟨rfl,I.turned (t':=s.toks) (fun b o hb e=>eb b o hb e) f0 f1 f3 f4 f5⟩
 self:=fun _ _ _ _ _ st h=>wpAny_pyIter_rangeiter st h
section
variable{X:Cx}{tg:Expr}
def zmL(K:qF)(tl:TE):TI:=fun σ H R=>tl σ H fun x H1=>∃a,x=.ref a/\(∃xs,SqL K H1 a xs)/\R (Itl K a) H1
def iTup(K:qF)(tl:TE):TI:=fun σ H R=>tl σ H fun x H1=>∃a,x=.ref a/\(∃xs,SqT K H1 a xs)/\R (Itt K a) H1
theorem zh6{l:Expr}{tl:TE}(hl:PE X l tl):PI X tg l (zmL X.K tl):=by
 intro pins s σ H R I h;refine thn (hl pins s σ H _ I h) fun v s1 ⟨x,H1,I1,r1,q1⟩=>?_
 obtain⟨a,e,⟨xs,hq⟩,q⟩:=q1;subst e;cases r1;obtain⟨its,rv,p,hz⟩:=I1.list hq;refine wpAny_pyIter_list p.isList ?_;refine⟨s1.heap.objs.size,[s1.heap.objs.size],_,_,H1,rfl,I1.kept (t':=s1.toks) fun b o e=>Heap.get?_push_of_some _ e,ze1 a _,⟨_,Heap.get?_push_size _ rfl,rfl,rfl⟩,fun b hb=>?_,q⟩
 have e:b=s1.heap.objs.size:=by simpa using hb
 subst e;exact I1.fpOk (Nat.le_refl _) (I1.hok.fresh (Nat.le_refl _))
theorem zjK{l:Expr}{tl:TE}(hl:PE X l tl):PI X tg l (iTup X.K tl):=by
 intro pins s σ H R I h;refine thn (hl pins s σ H _ I h) fun v s1 ⟨x,H1,I1,r1,q1⟩=>?_
 obtain⟨a,e,⟨xs,hq⟩,q⟩:=q1;subst e;cases r1;obtain⟨its,rv,p,hz⟩:=I1.tuple hq;refine wpAny_pyIter_tuple (show s1.heap.IsTuple a its.toArray from p) ?_
 refine⟨s1.heap.objs.size,[s1.heap.objs.size],_,_,H1,rfl,I1.kept (t':=s1.toks) fun b o e=>Heap.get?_push_of_some _ e,zeo a _,⟨_,Heap.get?_push_size _ rfl,rfl,rfl⟩,fun b hb=>?_,q⟩
 have e:b=s1.heap.objs.size:=by simpa using hb
 subst e;exact I1.fpOk (Nat.le_refl _) (I1.hok.fresh (Nat.le_refl _))
theorem zgr{pins:qO}{σ:St}{H:Hp}{s:Shared}{R:It->Hp->Prop}{E:qV}{lo hi:Int}{t u v:Tok}{tk:Nat}(I:Inv X pins σ H s)(h1:-(2 ^ 62)<=lo)(h2:lo<2 ^ 62)(h3:-(2 ^ 62)<=hi)(h4:hi<2 ^ 62)
  (q:R (Itr lo (hi - lo).toNat) H):wpAny (model X.prog X.w) X.A (pyIter (.ref s.heap.objs.size)) (PIE X pins σ tg R) E { s with heap:=s.heap.push { cls:=.type "range",data:=.fields #[.int lo t,.int hi u,.int 1 v] },toks:=tk }:=by
 refine wpAny_pyIter_range (IsRange.new ..) (small_one h1 h2 h3 h4) ?_;have I1:Inv X pins σ H { s with heap:=s.heap.push { cls:=.type "range",data:=.fields #[.int lo t,.int hi u,.int 1 v] },toks:=tk }:=I.kept fun b o e=>Heap.get?_push_of_some _ e
 refine⟨(s.heap.push { cls:=.type "range",data:=.fields #[.int lo t,.int hi u,.int 1 v] }).objs.size,[(s.heap.push { cls:=.type "range",data:=.fields #[.int lo t,.int hi u,.int 1 v] }).objs.size],_,_,H,rfl,
  I1.kept (t':=tk) fun b o e=>Heap.get?_push_of_some _ e,zep _ lo (hi - lo).toNat,?_,fun b hb=>?_,q⟩
 ·have e1:lo+((0:Nat):Int)*1=lo:=by simp
  have e2:(((hi - lo).toNat:Nat):Int) - ((0:Nat):Int)=Builtin.Range.rangeSize lo hi 1:=by rw[rangeSize_one];split <;> lia
  show IsRangeIter _ _ (lo+((0:Nat):Int)*1) ((((hi - lo).toNat:Nat):Int) - ((0:Nat):Int)) 1
  rw[e1,e2];exact Heap.get?_push_size _ rfl
 ·have e:b=(s.heap.push { cls:=.type "range",data:=.fields #[.int lo t,.int hi u,.int 1 v] }).objs.size:=by simpa using hb
  subst e;exact I1.fpOk (Nat.le_refl _) (I1.hok.fresh (Nat.le_refl _))
def zmK(ta:TA):TI:=fun σ H R=>ta σ H fun vs H1=>∃j:Int,vs=[.int j]/\-(2 ^ 62)<=j/\j<2 ^ 62/\R (Itr 0 j.toNat) H1
theorem zfi{a:Expr}{ta:TA}{p pos:Pos}(hg:Gl X "range") (hm:X.mg "range" = none) (ha:PA X [a] ta) (hs:starEach [a] X.env=[(false,eval a X.env)]:=by rfl):PI X tg (.Call (.Name "range" p) [a] [] pos) (zmK ta):=by
 intro pins s σ H R I h;refine Call_ (QQ I hg hm boot_range (PyProof.Rows.callWith_type1 (thn (ha pos pins s σ H _ I h) fun us s1 ⟨vs,H1,I1,r1,q1⟩=>?_) hs rfl))
 obtain⟨j,e,q1,q2,q⟩:=q1;subst e;cases r1 with
 | cons r rr =>
  cases rr;obtain⟨t,rfl⟩:=r;exact call_range_1 (zgr I1 (by lia) (by lia) q1 q2 (by simpa using q))
def tFor(wi:TI)(g:TG)(tb:TS):TS:=fun D σ H=>wi σ H fun J H1=>∃W:Nat->Nat->St->Hp->Prop,(∃m,W 0 m σ H1)/\∀i m σ H,W i m σ H ->
 (J.stop i H/\D.nx σ H)\/(J.go i H/\∃N:St->Hp->Prop,(∀σ' H',N σ' H'->∃m',m'<m/\W (i+1) m' σ' H')/\∀x H',J.yld i H x H'->g x σ H' fun σ2 H2=>tb { D with nx:=N,ct:=N,bk:=D.nx } σ2 H2)
def QP(fp:List Addr)(h:Heap):List (Addr×Obj):=fp.filterMap fun b=>(h.get? b).map fun o=>(b,o)
theorem UP{fp:List Addr}{h:Heap}{b:Addr}{o:Obj}(hb:b∈fp)(e:h.get? b=some o):(b,o)∈QP fp h:=List.mem_filterMap.mpr ⟨b,hb,by rw[e];rfl⟩
theorem zfr{fp:List Addr}{h:Heap}{p:Addr×Obj}(hp:p∈QP fp h):p.1∈fp/\h.get? p.1=some p.2:=by
 obtain⟨b,hb,e⟩:=List.mem_filterMap.mp hp;cases q:h.get? b with
 | none=>rw[q]at e;cases e
 | some o =>
  rw[q]at e;have e':(b,o)=p:=Option.some.inj e;subst e';exact⟨hb,q⟩
theorem Inv.pinned{pins:qO}{σ:St}{H:Hp}{s:Shared}{fp:List Addr}(I:Inv X pins σ H s)(hf:∀b∈fp,FpOk X pins H b)(ho:∀b∈fp,∃o,s.heap.get? b=some o/\∀v,o.data≠.cell v):Inv X (pins++QP fp s.heap) σ H s :=
 I.pins_of fun p hp=>(List.mem_append.mp hp).elim (fun z=>I.pin p (List.mem_append_right _ z)) fun z=>by
  obtain⟨hb,e⟩:=zfr z;obtain⟨f0,f1,f2,_⟩:=hf p.1 hb;obtain⟨o,e',d⟩:=ho p.1 hb;rw[e]at e';cases e';exact⟨e,f0,f1,f2,d⟩
theorem Inv.unpinned{pins pl:qO}{σ:St}{H:Hp}{s:Shared}(I:Inv X (pins++pl) σ H s):Inv X pins σ H s:=I.pins_of fun p hp=>I.pin p (List.mem_append_right _ (List.mem_append_left _ hp))
theorem zjI{iter:Expr}{body:List Stmt}{wi:TI}{g:TG}{tb:TS}{pos:Pos}(hp:PassesOwn (model X.prog X.w) X.A X.env X.xe)(hc:X.calm=true)(hi:PI X tg iter wi)(hg:PG X tg g)(hb:PSs X body tb)
  (hs:∀x,foldedSetIterable iter X.env x=pure x:=by intro _;rfl):PS X (.For tg iter body [] pos) (tFor wi g tb):=by
 intro pins s σ H D I h;refine wpAny_For (thn (hi pins s σ H _ I h) fun v s1 h1=>thn h1 fun itv s2 h2=>?_) hs
 obtain⟨it,fp,tn,J,H2,e,I2,T,st2,f2,W,⟨m0,w0⟩,turn⟩:=h2;subst e;have stat:∀{H':Hp},(∀b∈fp,H' b=none)->∀b∈fp,FpOk X pins H' b:=fun hn b hb=>⟨hn b hb,(f2 b hb).2⟩
 refine codeAny_forLoop_any (fun n s'=>∃i σ' H',Inv X pins σ' H' s'/\tn i s'.heap/\(∀b∈fp,H' b=none)/\W i n σ' H') ?_ m0 ⟨0,σ,H2,I2,st2,fun b hb=>(f2 b hb).1,w0⟩
 rintro n s3 ⟨i,σ3,H3,I3,st3,fr3,w3⟩;rcases turn i n σ3 H3 w3 with⟨stop,qn⟩|⟨go,N,hN,step⟩
 ·refine wpAny_passesOwn hp (thn (T.done X rfl rfl rfl hc i pins s3 σ3 H3 X.xe I3 (stat fr3) st3 stop) fun r s4 ⟨hr,I4⟩=>?_)
  subst hr;exact wpAny_execs_nil ⟨σ3,H3,I4,qn⟩
 ·refine wpAny_passesOwn hp (thn (T.item X rfl rfl rfl hc i pins s3 σ3 H3 X.xe I3 (stat fr3) st3 go) fun r s4 ⟨u,hr,h4⟩=>?_)
  subst hr;refine wpAny_passesOwn hp (thn h4 fun _ s5 ⟨x,H5,I5,r5,y5,st5,fr5⟩=>?_)
  have I5':=I5.pinned (stat fr5) (T.obj _ _ st5);refine wpAny_passesOwn hp (thn (hg _ s5 σ3 H5 x u _ I5' r5 (step x H5 y5)) fun _ s6 ⟨σ6,H6,I6,q6⟩=>?_)
  refine wpAny_passesOwn hp (thn (hb _ s6 σ6 H6 _ I6 q6) fun f s7 q7=>?_)
  have again:∀{σ7:St} {H7:Hp},Inv X (pins++QP fp s5.heap) σ7 H7 s7->N σ7 H7->∃m,m<n/\∃i σ' H',Inv X pins σ' H' s7/\tn i s7.heap/\(∀b∈fp,H' b=none)/\W i m σ' H':=fun {σ7 H7} I7 n7=>by
   obtain⟨m',hm,w7⟩:=hN σ7 H7 n7;refine⟨m',hm,i+1,σ7,H7,I7.unpinned,T.keep _ _ _ st5 fun b hb o e=>(I7.pin (b,o) (List.mem_append_right _ (List.mem_append_right _ (UP hb e)))).1,fun b hb=>?_,w7⟩
   obtain⟨o,e,d⟩:=T.obj _ _ st5 b hb;exact(I7.pin (b,o) (List.mem_append_right _ (List.mem_append_right _ (UP hb e)))).2.1
  cases f with
  | next=>obtain⟨σ7,H7,I7,n7⟩:=q7;exact again I7 n7
  | cont=>obtain⟨σ7,H7,I7,n7⟩:=q7;exact again I7 n7
  | brk=>obtain⟨σ7,H7,I7,q7⟩:=q7;exact⟨σ7,H7,I7.unpinned,q7⟩
  | ret v=>obtain⟨x7,σ7,H7,I7,r7,q7⟩:=q7;exact⟨x7,σ7,H7,I7.unpinned,r7,q7⟩
end
abbrev R2:=V->V->Hp->VK->Prop
def OpR(X:Cx)(f:Value->Value->Sem Value)(r:R2):Prop :=
 ∀(pins:qO) (s:Shared) (σ:St) (H:Hp) (x y:V) (v u:Value) (Q:VK),Inv X pins σ H s->RelV x v->RelV y u->r x y H Q ->
  wpAny (model X.prog X.w) X.A (f v u) (EP X pins σ Q) X.xe s
def Jw(X:Cx)(f:Value)(r:List V->Hp->VK->Prop):Prop :=
 ∀(pins:qO) (s:Shared) (σ:St) (H:Hp) (xs:List V) (us:List Value) (Q:VK),Inv X pins σ H s->Vals xs us->r xs H Q ->
  wpAny (model X.prog X.w) X.A (call f us) (EP X pins σ Q) X.xe s
def TruR(X:Cx)(r:V->Hp->(Bool->Hp->Prop)->Prop):Prop :=
 ∀(pins:qO) (s:Shared) (σ:St) (H:Hp) (x:V) (v:Value) (Q:Bool->Hp->Prop),Inv X pins σ H s->RelV x v->r x H Q ->
  wpAny (model X.prog X.w) X.A (truthy v) (TP X pins σ Q) X.xe s
def tOp(r:R2)(ta tb:TE):TE:=fun σ H Q=>ta σ H fun x H1=>tb σ H1 fun y H2=>r x y H2 Q
def rI(C:Int->Int->Prop)(g:Int->Int->V):R2:=fun x y H Q=>∃i j,x=.int i/\y=.int j/\C i j/\Q (g i j) H
def rI0(g:Int->Int->V):R2:=fun x y H Q=>∃i j,x=.int i/\y=.int j/\Q (g i j) H
section
variable{X:Cx}{a b c:Expr}{ta tb tc:TE}{pos:Pos}
theorem binT(ha:PE X a ta)(hb:PE X b tb){pins:qO}{s:Shared}{σ:St}{H:Hp}{R:V->V->Hp->Prop}(I:Inv X pins σ H s)
  (h:ta σ H fun x H1=>tb σ H1 fun y H2=>R x y H2) {Q:qV} {f:Value->Value->Sem Value}
  (hf:∀v u s2 x y H2,Inv X pins σ H2 s2->RelV x v->RelV y u->R x y H2->wpAny (model X.prog X.w) X.A (f v u) Q X.xe s2) :
  wpAny (model X.prog X.w) X.A (eval a X.env) (fun v s₁=>wpAny (model X.prog X.w) X.A (eval b X.env) (fun u s₂=>wpAny (model X.prog X.w) X.A (f v u) Q X.xe s₂) X.xe s₁) X.xe s:=by
 refine thn (ha pins s σ H _ I h) fun v s1 ⟨x,H1,I1,r1,q1⟩=>?_
 refine thn (hb pins s1 σ H1 _ I1 q1) fun u s2 ⟨y,H2,I2,r2,q2⟩=>?_
 exact hf v u s2 x y H2 I2 r1 r2 q2
theorem Jh{op:Operator}{r:R2}(ho:OpR X (binaryOp op) r)(ha:PE X a ta)(hb:PE X b tb):PE X (.BinOp a op b pos) (tOp r ta tb):=by
 intro pins s σ H Q I h;exact wpAny_BinOp (binT ha hb I h fun v u s2 x y H2 I2 rx ry q=>ho pins s2 σ H2 x y v u Q I2 rx ry q)
theorem opI{f:Value->Value->Sem Value}{C:Int->Int->Prop}{g:Int->Int->Int}
  (rule:∀(i j:Int) (t u:Tok) (s:Shared) (Q:qV) (E:qV),C i j->Q (.int (g i j) s.toks) { s with toks:=s.toks+1 }->wpAny (model X.prog X.w) X.A (f (.int i t) (.int j u)) Q E s) :
  OpR X f (rI C fun i j=>.int (g i j)):=by
 intro pins s σ H x y v u Q I rx ry h;obtain⟨i,j,rfl,rfl,hc,q⟩:=h;obtain⟨t,rfl⟩:=rx;obtain⟨t',rfl⟩:=ry;exact rule i j t t' s _ _ hc ⟨.int (g i j),H,I.tok _,⟨_,rfl⟩,q⟩
theorem opI0{f:Value->Value->Sem Value}{g:Int->Int->Int}
  (rule:∀(i j:Int) (t u:Tok) (s:Shared) (Q:qV) (E:qV),Q (.int (g i j) s.toks) { s with toks:=s.toks+1 }->wpAny (model X.prog X.w) X.A (f (.int i t) (.int j u)) Q E s) :
  OpR X f (rI0 fun i j=>.int (g i j)):=by
 intro pins s σ H x y v u Q I rx ry h;obtain⟨i,j,rfl,rfl,q⟩:=h;obtain⟨t,rfl⟩:=rx;obtain⟨t',rfl⟩:=ry;exact rule i j t t' s _ _ ⟨.int (g i j),H,I.tok _,⟨_,rfl⟩,q⟩
theorem opB0{f:Value->Value->Sem Value}{g:Int->Int->Bool}
  (rule:∀(i j:Int) (t u:Tok) (s:Shared) (Q:qV) (E:qV),Q (.bool (g i j)) s->wpAny (model X.prog X.w) X.A (f (.int i t) (.int j u)) Q E s) :
  OpR X f (rI0 fun i j=>.bl (g i j)):=by
 intro pins s σ H x y v u Q I rx ry h;obtain⟨i,j,rfl,rfl,q⟩:=h;obtain⟨t,rfl⟩:=rx;obtain⟨t',rfl⟩:=ry;exact rule i j t t' s _ _ ⟨.bl (g i j),H,I,rfl,q⟩
def CPow(i j:Int):Prop:=0<=j/\j<=1000000/\i.natAbs<2 ^ 64
def CMul(i j:Int):Prop:=(-(2 ^ 64)<i/\i<2 ^ 64)\/(-(2 ^ 64)<j/\j<2 ^ 64)
theorem CMul.ok{i j:Int}(h:CMul i j):IntMulOk i j:=by
 rcases h with⟨h1,h2⟩|⟨h1,h2⟩
 ·exact .of_left (intBits_le_64 h1 h2)
 ·exact .of_right (intBits_le_64 h1 h2)
theorem zen(k:Nat):(0:Int)<=2 ^ k:=by
 rw[two_pow_cast];exact Int.natCast_nonneg _
theorem JY:OpR X (binaryOp .Add) (rI0 fun i j=>.int (i+j)):=opI0 fun _ _ _ _ _ _ _ q=>add_int q
theorem zjT:OpR X (binaryOp .Sub) (rI0 fun i j=>.int (i - j)):=opI0 fun _ _ _ _ _ _ _ q=>sub_int q
theorem JZ:OpR X (binaryOp .Mult) (rI CMul fun i j=>.int (i*j)):=opI fun _ _ _ _ _ _ _ hc q=>mul_int q hc.ok
theorem Qm:OpR X (binaryOp .Mod) (rI (fun _ j=>0<j) fun i j=>.int (i % j)):=opI fun i j _ _ _ _ _ hc q=>by
 have h1:(0:Int)<j:=hc;exact mod_int' (by lia) (by rw[Int.fmod_eq_emod_of_nonneg i (by lia)];exact q)
theorem zjW:OpR X (binaryOp .Pow) (rI CPow fun i j=>.int (i ^ j.toNat)):=opI fun _ _ _ _ _ _ _ hc q=>pow_int_small hc.1 hc.2.1 hc.2.2 q
theorem zjV:OpR X (binaryOp .LShift) (rI CPow fun i j=>.int (i*2 ^ j.toNat)):=opI fun _ _ _ _ _ _ _ hc q=>lshift_int_small hc.1 hc.2.1 hc.2.2 q
theorem zjU:OpR X (binaryOp .RShift) (rI (fun _ j=>0<=j) fun i j=>.int (i / 2 ^ j.toNat)):=opI fun i j _ _ _ _ _ hc q =>
 rshift_int hc (by rw[Int.fdiv_eq_ediv_of_nonneg i (zen _)];exact q)
theorem zjS:OpR X (binaryOp .BitXor) (rI0 fun i j=>.int (Builtin.bitXor i j)):=opI0 fun _ _ _ _ _ _ _ q=>xor_int q
end
def scal:V->V->Bool
 | .non,.non=>true|.non,.int _=>true|.int _,.non=>true|.non,.bl _=>true|.bl _,.non=>true|.non,.str _=>true|.str _,.non=>true
 | .int _,.int _=>true|.bl _,.bl _=>true|.str _,.str _=>true|.byt _,.byt _=>true
 | .int _,.str _=>true|.str _,.int _=>true|.bl _,.str _=>true|.str _,.bl _=>true
 | _,_=>false
def rEq:R2:=fun x y H Q=>scal x y=true/\Q (.bl (decide (x=y))) H
def rNe:R2:=fun x y H Q=>scal x y=true/\Q (.bl (!decide (x=y))) H
theorem zfR{i j:Int}:decide (V.int i=V.int j)=(i == j):=by
 rw[Bool.eq_iff_iff];simp
theorem zhD{i j:Bool}:decide (V.bl i=V.bl j)=(i == j):=by
 rw[Bool.eq_iff_iff];simp
theorem zfQ{i j:Str}:decide (V.str i=V.str j)=(i == j):=by
 rw[Bool.eq_iff_iff];simp
theorem zfS{i j:Array UInt8}:decide (V.byt i=V.byt j)=(i.toList == j.toList):=by
 rw[Bool.eq_iff_iff];cases i;cases j;simp
section
variable{X:Cx}{a b c:Expr}{ta tb tc:TE}{pos:Pos}
theorem Je{pins:qO}{σ:St}{H:Hp}{s:Shared}{Q:VK}{k k':Bool}(I:Inv X pins σ H s)(q:Q (.bl k) H)(e:k=k'):EP X pins σ Q (.bool k') s:=by
 subst e;exact⟨.bl k,H,I,rfl,q⟩
theorem zmi:OpR X (compareOp .Eq) rEq:=by
 intro pins s σ H x y v u Q I rx ry h;obtain⟨hs,q⟩:=h;cases x with
 | non =>
  cases rx;cases y with
  | non=>cases ry;exact PySem.EqNone.eq_none_none (Je I q (by simp))
  | bl j=>cases ry;exact PySem.EqNone.eq_none_bool (Je I q (by simp))
  | int j=>obtain⟨t',rfl⟩:=ry;exact PySem.EqNone.eq_none_int (Je I q (by simp))
  | str j=>obtain⟨t',rfl⟩:=ry;exact PySem.EqNone.eq_none_str (Je I q (by simp))
  | _=>exact absurd (show false=true from hs) Bool.false_ne_true
 | bl i =>
  cases rx;cases y with
  | non=>cases ry;exact PySem.EqNone.eq_bool_none (Je I q (by simp))
  | bl j=>cases ry;exact eq_bool (Je I q zhD)
  | str j=>obtain⟨t',rfl⟩:=ry;exact PySem.EqMixed.eq_bool_str (Je I q (by simp))
  | _=>exact absurd (show false=true from hs) Bool.false_ne_true
 | int i =>
  obtain⟨t,rfl⟩:=rx;cases y with
  | non=>cases ry;exact PySem.EqNone.eq_int_none (Je I q (by simp))
  | int j=>obtain⟨t',rfl⟩:=ry;exact eq_int (Je I q zfR)
  | str j=>obtain⟨t',rfl⟩:=ry;exact PySem.EqMixed.eq_int_str (Je I q (by simp))
  | _=>exact absurd (show false=true from hs) Bool.false_ne_true
 | str i =>
  obtain⟨t,rfl⟩:=rx;cases y with
  | non=>cases ry;exact PySem.EqNone.eq_str_none (Je I q (by simp))
  | bl j=>cases ry;exact PySem.EqMixed.eq_str_bool (Je I q (by simp))
  | int j=>obtain⟨t',rfl⟩:=ry;exact PySem.EqMixed.eq_str_int (Je I q (by simp))
  | str j=>obtain⟨t',rfl⟩:=ry;exact eq_str (Je I q zfQ)
  | _=>exact absurd (show false=true from hs) Bool.false_ne_true
 | byt i =>
  obtain⟨t,rfl⟩:=rx;cases y with
  | byt j=>obtain⟨t',rfl⟩:=ry;exact PySem.W.eq_bytes (Je I q zfS)
  | _=>exact absurd (show false=true from hs) Bool.false_ne_true
 | _=>cases y <;> exact absurd (show false=true from hs) Bool.false_ne_true
theorem zmf:OpR X (compareOp .NotEq) rNe:=by
 intro pins s σ H x y v u Q I rx ry h;obtain⟨hs,q⟩:=h;cases x with
 | non =>
  cases rx;cases y with
  | non=>cases ry;exact PySem.EqNone.ne_none_none (Je I q (by simp))
  | bl j=>cases ry;exact PySem.EqNone.ne_none_bool (Je I q (by simp))
  | int j=>obtain⟨t',rfl⟩:=ry;exact PySem.EqNone.ne_none_int (Je I q (by simp))
  | str j=>obtain⟨t',rfl⟩:=ry;exact PySem.EqNone.ne_none_str (Je I q (by simp))
  | _=>exact absurd (show false=true from hs) Bool.false_ne_true
 | bl i =>
  cases rx;cases y with
  | non=>cases ry;exact PySem.EqNone.ne_bool_none (Je I q (by simp))
  | bl j=>cases ry;exact ne_bool (Je I q (congrArg not zhD))
  | str j=>obtain⟨t',rfl⟩:=ry;exact PySem.EqMixed.ne_bool_str (Je I q (by simp))
  | _=>exact absurd (show false=true from hs) Bool.false_ne_true
 | int i =>
  obtain⟨t,rfl⟩:=rx;cases y with
  | non=>cases ry;exact PySem.EqNone.ne_int_none (Je I q (by simp))
  | int j=>obtain⟨t',rfl⟩:=ry;exact ne_int (Je I q (congrArg not zfR))
  | str j=>obtain⟨t',rfl⟩:=ry;exact PySem.EqMixed.ne_int_str (Je I q (by simp))
  | _=>exact absurd (show false=true from hs) Bool.false_ne_true
 | str i =>
  obtain⟨t,rfl⟩:=rx;cases y with
  | non=>cases ry;exact PySem.EqNone.ne_str_none (Je I q (by simp))
  | bl j=>cases ry;exact PySem.EqMixed.ne_str_bool (Je I q (by simp))
  | int j=>obtain⟨t',rfl⟩:=ry;exact PySem.EqMixed.ne_str_int (Je I q (by simp))
  | str j=>obtain⟨t',rfl⟩:=ry;exact ne_str (Je I q (congrArg not zfQ))
  | _=>exact absurd (show false=true from hs) Bool.false_ne_true
 | byt i =>
  obtain⟨t,rfl⟩:=rx;cases y with
  | byt j=>obtain⟨t',rfl⟩:=ry;exact PySem.W.ne_bytes (Je I q (congrArg not zfS))
  | _=>exact absurd (show false=true from hs) Bool.false_ne_true
 | _=>cases y <;> exact absurd (show false=true from hs) Bool.false_ne_true
theorem zjZ:OpR X (compareOp .Lt) (rI0 fun i j=>.bl (decide (i<j))):=opB0 fun _ _ _ _ _ _ _ q=>lt_int q
theorem zmg:OpR X (compareOp .LtE) (rI0 fun i j=>.bl (decide (i<=j))):=opB0 fun _ _ _ _ _ _ _ q=>le_int q
theorem zif:OpR X (compareOp .Gt) (rI0 fun i j=>.bl (decide (j<i))):=opB0 fun _ _ _ _ _ _ _ q=>gt_int q
theorem zmh:OpR X (compareOp .GtE) (rI0 fun i j=>.bl (decide (j<=i))):=opB0 fun _ _ _ _ _ _ _ q=>ge_int q
theorem zfn:OpR X (compareOp .Lt) (fun x y H Q=>∃i j,x=.str i/\y=.str j/\Q (.bl (decide (i.cps.toList<j.cps.toList))) H):=by
 intro pins s σ H x y v u Q I rx ry h;obtain⟨i,j,rfl,rfl,q⟩:=h;obtain⟨t,rfl⟩:=rx;obtain⟨t',rfl⟩:=ry;exact lt_str (Je I q rfl)
theorem OpR.or{f:Value->Value->Sem Value}{r r':R2}(h:OpR X f r)(h':OpR X f r'):OpR X f (fun x y H Q=>r x y H Q\/r' x y H Q):=by
 intro pins s σ H x y v u Q I rx ry q;rcases q with q|q
 ·exact h pins s σ H x y v u Q I rx ry q
 ·exact h' pins s σ H x y v u Q I rx ry q
theorem JM(b:Expr){op:CmpOp}(h:op≠.In:=by decide)(h2:op≠.NotIn:=by decide):behindInMarks op b=false:=by
 have e1:(op == CmpOp.In)=false:=by cases op <;> first|rfl|exact absurd rfl h
 have e2:(op == CmpOp.NotIn)=false:=by cases op <;> first|rfl|exact absurd rfl h2
 cases b <;> simp[behindInMarks,e1,e2]
theorem zib{op:CmpOp}{r:R2}(ho:OpR X (compareOp op) r)(ha:PE X a ta)(hb:PE X b tb)(hm:behindInMarks op b=false):PE X (.Compare a [op] [b] pos) (tOp r ta tb):=by
 intro pins s σ H Q I h;exact wpAny_Compare1 (binT ha hb I h fun v u s2 x y H2 I2 rx ry q=>ho pins s2 σ H2 x y v u Q I2 rx ry q) hm
def zjo(t:TE):TT:=fun σ H Q=>t σ H fun x H'=>∃k,x=.bl k/\Q k H'
theorem zdu{op:CmpOp}{r:R2}(ho:OpR X (compareOp op) r)(ha:PE X a ta)(hb:PE X b tb)(hm:behindInMarks op b=false):PT X (.Compare a [op] [b] pos) (zjo (tOp r ta tb)):=by
 intro pins s σ H Q I h;refine wpAny_isTrue_Compare1 (thn (ha pins s σ H _ I h) fun v s1 ⟨x,H1,I1,r1,q1⟩=>thn (hb pins s1 σ H1 _ I1 q1) fun u s2 ⟨y,H2,I2,r2,q2⟩ =>
  thn (ho pins s2 σ H2 x y v u _ I2 r1 r2 q2) fun c s3 ⟨z,H3,I3,r3,k,e,q3⟩=>?_) hm
 subst e;cases r3;exact wpAny_truthy_bool ⟨H3,I3,q3⟩
def zjq(r r':R2)(ta tb tc:TE):TE:=fun σ H Q=>ta σ H fun x H1=>tb σ H1 fun y H2=>r x y H2 fun z H3=>∃k,z=.bl k /\
 (if k=true then tc σ H3 fun w' H4=>r' y w' H4 Q else Q (.bl false) H3)
theorem zgu{op op':CmpOp}{r r':R2}(ho:OpR X (compareOp op) r)(ho':OpR X (compareOp op') r')(ha:PE X a ta)(hb:PE X b tb)(hc:PE X c tc)
  (hm:lastMarks [op,op'] [b,c]=false:=by with_unfolding_all rfl):PT X (.Compare a [op,op'] [b,c] pos) (zjo (zjq r r' ta tb tc)):=by
 intro pins s σ H Q I h;refine isTrue_chain (thn (ha pins s σ H _ I h) fun v s1 ⟨x,H1,I1,r1,q1⟩=>test_link (thn (hb pins s1 σ H1 _ I1 q1) fun u s2 ⟨y,H2,I2,r2,q2⟩ =>
  thn (ho pins s2 σ H2 x y v u _ I2 r1 r2 q2) fun d s3 ⟨z,H3,I3,r3,k,e,q3⟩=>?_)) hm
 subst e;cases r3;refine wpAny_truthy_bool ?_;cases k with
 | false =>
  obtain⟨k',e',q'⟩:=q3;cases e';exact ite_ff ⟨H3,I3,q'⟩
 | true =>
  refine ite_tt (test_last (thn (hc pins s3 σ H3 _ I3 q3) fun w' s4 ⟨z',H4,I4,r4,q4⟩=>thn (ho' pins s4 σ H4 y z' u w' _ I4 r2 r4 q4) fun d' s5 ⟨z2,H5,I5,r5,k2,e2,q5⟩=>?_))
  subst e2;cases r5;exact wpAny_truthy_bool ⟨H5,I5,q5⟩
def TruV(K:qF)(x:V)(H:Hp)(k:Bool):Prop :=
 match x with
 | .non=>k=false
 | .bl b=>k=b
 | .int i=>k=(i != 0)
 | .str y=>y.length<=sizeLine/\k=((y.length:Int) != 0)
 | .byt y=>y.size<=sizeLine/\k=((y.size:Int) != 0)
 | .ref p=>(∃xs,SqL K H p xs/\k=!xs.isEmpty)\/(∃xs,SqT K H p xs/\k=!xs.isEmpty)\/∃kvs,H p=some (.dK kvs)/\k=!kvs.isEmpty
 | _=>False
theorem zeH{κ:Type}{kvs:List (κ×V)}{vs:List (κ×Value)}(r:KV kvs vs):(!vs.isEmpty)=!kvs.isEmpty:=by
 cases r <;> rfl
theorem zco{xs:List V}{its:List Value}(r:Vals xs its):(!its.toArray.isEmpty)=!xs.isEmpty:=by
 cases r <;> simp
theorem Ql:(sizeLine:Nat)<2 ^ 63:=by rw[sizeLine_eq];decide
theorem zjm:TruR X (fun x H Q=>∃k,TruV X.K x H k/\Q k H):=by
 intro pins s σ H x v Q I rx h;obtain⟨k,e,q⟩:=h;have hl:=Ql;have hs:sizeLine=16777216:=sizeLine_eq;cases x with
 | non =>
  cases rx;have e':k=false:=e;subst e';exact truthy_none ⟨H,I,q⟩
 | bl b =>
  cases rx;have e':k=b:=e;subst e';exact wpAny_truthy_bool ⟨H,I,q⟩
 | int i =>
  obtain⟨t,rfl⟩:=rx;have e':k=(i != 0):=e;subst e';exact PySem.P.truthy_int ⟨H,I,q⟩
 | str y =>
  obtain⟨t,rfl⟩:=rx;obtain⟨hy,e'⟩:y.length<=sizeLine/\k=((y.length:Int) != 0):=e;subst e';exact PySem.P.truthy_str (by lia) ⟨H,I.tok _,q⟩
 | byt y =>
  obtain⟨t,rfl⟩:=rx;obtain⟨hy,e'⟩:y.size<=sizeLine/\k=((y.size:Int) != 0):=e;subst e';exact PySem.W.truthy_bytes (by lia) ⟨H,I.tok _,q⟩
 | ref p =>
  cases rx;have e':(∃xs,SqL X.K H p xs/\k=!xs.isEmpty)\/(∃xs,SqT X.K H p xs/\k=!xs.isEmpty)\/∃kvs,H p=some (.dK kvs)/\k=!kvs.isEmpty:=e;rcases e' with⟨xs,hx,e'⟩|⟨xs,hx,e'⟩|⟨kvs,hx,e'⟩
  ·subst e';obtain⟨its,r,pl,hz⟩:=I.list hx;have hlen:=r.length;exact wpAny_truthy_list pl.isList (by simp only[List.size_toArray];lia) ⟨H,I.tok _,by rw[zco r];exact q⟩
  ·subst e';obtain⟨its,r,pl,hz⟩:=I.tuple hx;have hlen:=r.length;exact truthy_tuple pl (by simp only[List.size_toArray];lia) ⟨H,I.tok _,by rw[zco r];exact q⟩
  ·subst e';obtain⟨hz,hS,vs,r,m⟩:kvs.length<=sizeLine/\(p == sysModules)=false/\∃vs,KV kvs vs/\s.heap.DictOf (Jy X.prog X.w) p vs:=I.hok p _ hx;have hlen:kvs.length=vs.length:=Paired.length r;exact wpAny_truthy_dict hS m (by lia) ⟨H,I.tok _,by rw[zeH r];exact q⟩
 | _=>exact(show False from e).elim
theorem zgt(ha:PE X a ta)(he:∀whole,isTrue a X.env whole=(do let v <- whole;standAt a.pos;holding [v] (truthy v))) :
  PT X a (fun σ H Q=>ta σ H fun x H'=>∃k,TruV X.K x H' k/\Q k H'):=by
 intro pins s σ H Q I h;exact isTrue_plain (thn (ha pins s σ H _ I h) fun v s1 ⟨x,H1,I1,r1,q1⟩=>zjm pins s1 σ H1 x v Q I1 r1 q1) (he _)
theorem zex:OpR X (binaryOp .Add) (fun x y H Q=>∃i j,x=.str i/\y=.str j/\i.length+j.length<=sizeLine/\Q (.str (i++j)) H):=by
 intro pins s σ H x y v u Q I rx ry h;obtain⟨i,j,rfl,rfl,hz,q⟩:=h;obtain⟨t,rfl⟩:=rx;obtain⟨t',rfl⟩:=ry;exact add_str (fun t' tk=>⟨.str (i++j),H,I.tok _,⟨_,rfl⟩,q⟩) hz
theorem vals1{x:V}{us:List Value}(r:Vals [x] us):∃u,us=[u]/\RelV x u:=by
 cases r with
 | cons r1 r2=>cases r2;exact⟨_,rfl,r1⟩
theorem vals2{x y:V}{us:List Value}(r:Vals [x,y] us):∃u w',us=[u,w']/\RelV x u/\RelV y w':=by
 cases r with
 | cons r1 r2 =>
  cases r2 with
  | cons r3 r4=>cases r4;exact⟨_,_,rfl,r1,r3⟩
theorem zcc(hc:X.calm=true):Jw X (.builtin "max") (fun xs H Q=>∃i j,xs=[.int i,.int j]/\Q (.int (if j > i then j else i)) H):=by
 intro pins s σ H xs us Q I r h;obtain⟨i,j,rfl,q⟩:=h;obtain⟨u,w',rfl,⟨t,rfl⟩,⟨t',rfl⟩⟩:=vals2 r;refine max_two_ints (I.ok.hd hc) fun h' tk k=>⟨_,H,I.kept k,?_,q⟩
 by_cases hj:j > i
 ·rw[if_pos hj,if_pos hj];exact⟨_,rfl⟩
 ·rw[if_neg hj,if_neg hj];exact⟨_,rfl⟩
theorem zcb(hc:X.calm=true):Jw X (.builtin "min") (fun xs H Q=>∃i j,xs=[.int i,.int j]/\Q (.int (if j<i then j else i)) H):=by
 intro pins s σ H xs us Q I r h;obtain⟨i,j,rfl,q⟩:=h;obtain⟨u,w',rfl,⟨t,rfl⟩,⟨t',rfl⟩⟩:=vals2 r;refine min_two_ints (I.ok.hd hc) fun h' tk k=>⟨_,H,I.kept k,?_,q⟩
 by_cases hj:j<i
 ·rw[if_pos hj,if_pos hj];exact⟨_,rfl⟩
 ·rw[if_neg hj,if_neg hj];exact⟨_,rfl⟩
theorem zf6:Jw X (.type "int") (fun xs H Q=>(∃i,xs=[.int i]/\Q (.int i) H)\/∃k,xs=[.bl k]/\Q (.int (if k then 1 else 0)) H):=by
 intro pins s σ H xs us Q I r h;rcases h with⟨i,rfl,q⟩|⟨k,rfl,q⟩
 ·obtain⟨u,rfl,t,rfl⟩:=vals1 r;exact call_int_int ⟨.int i,H,I,⟨_,rfl⟩,q⟩
 ·obtain⟨u,rfl,r1⟩:=vals1 r;cases r1;exact call_int_bool ⟨.int (if k then 1 else 0),H,I.tok _,⟨_,rfl⟩,q⟩
def LenV(K:qF)(x:V)(H:Hp)(n:Nat):Prop :=
 match x with
 | .str y=>y.length<=sizeLine/\n=y.length
 | .byt y=>y.size<=sizeLine/\n=y.size
 | .ref p=>(∃xs,SqL K H p xs/\n=xs.length)\/∃xs,SqT K H p xs/\n=xs.length
 | _=>False
theorem zek:Jw X (.builtin "len") (fun xs H Q=>∃x n,xs=[x]/\LenV X.K x H n/\Q (.int n) H):=by
 intro pins s σ H xs us Q I r h;obtain⟨x,n,rfl,e,q⟩:=h;obtain⟨u,rfl,rx⟩:=vals1 r;have hl:=Ql;have hs:sizeLine=16777216:=sizeLine_eq;cases x with
 | str y =>
  obtain⟨t,rfl⟩:=rx;obtain⟨hy,e'⟩:y.length<=sizeLine/\n=y.length:=e;subst e';exact len_str (by lia) ⟨.int _,H,I.tok _,⟨_,rfl⟩,q⟩
 | byt y =>
  obtain⟨t,rfl⟩:=rx;obtain⟨hy,e'⟩:y.size<=sizeLine/\n=y.size:=e;subst e';exact PySem.W.len_bytes (by lia) ⟨.int _,H,I.tok _,⟨_,rfl⟩,q⟩
 | ref p =>
  cases rx;have e':(∃xs,SqL X.K H p xs/\n=xs.length)\/∃xs,SqT X.K H p xs/\n=xs.length:=e;rcases e' with⟨xs,hx,e'⟩|⟨xs,hx,e'⟩
  ·subst e';obtain⟨its,r',pl,hz⟩:=I.list hx;have hlen:=r'.length;exact Calls.call_len_list pl.isList (by simp only[List.size_toArray];lia) ⟨.int xs.length,H,I.tok _,⟨_,by simp only[List.size_toArray];rw[hlen]⟩,q⟩
  ·subst e';obtain⟨its,r',pl,hz⟩:=I.tuple hx;have hlen:=r'.length;exact len_tuple pl (by simp only[List.size_toArray];lia) ⟨.int xs.length,H,I.tok _,⟨_,by simp only[List.size_toArray];rw[hlen]⟩,q⟩
 | _=>exact(show False from e).elim
end
structure ObjM(h:Heap)(x dx C:Addr)(mA:qM):Prop where
 obj:h.get? x=some (PySem.W.instObj C dx)
 ns:h.Ns1 dx mA
 ne:dx≠x
theorem zfw{h:Heap}{dx:Addr}{mA:qM}(n:h.Ns1 dx mA):∃od,h.get? dx=some od/\∀name,PySem.W.lookIn name od=some (mA name):=by
 obtain⟨o,es,ep,ho,hd,hk,_,hm⟩:=n;refine⟨o,ho,fun name=>?_⟩
 have e:=hm name;unfold nsFind findBy at e;rw[<- Array.find?_toList]at e;unfold PySem.W.lookIn;rw[hd];dsimp only;split
 ·rename_i y q;rw[q]at e;exact congrArg some e
 ·rename_i q;rw[q]at e;have a:es.toList.any (·.refKey)=false:=by
   rw[List.any_eq_false];intro y hy;obtain⟨z,t,hkey⟩:=hk y (Array.mem_toList_iff.mp hy);simp[DictEntry.refKey,hkey]
  have a':¬es.toList.any (·.refKey)=true:=by rw[a];exact Bool.false_ne_true
  rw[if_neg a'];exact congrArg some e
theorem ObjM.look{h:Heap}{x dx C:Addr}{mA:qM}(I:ObjM h x dx C mA):∃od,PySem.W.InstAt h x (PySem.W.instObj C dx) C (some od)/\∀name,PySem.W.lookIn name od=some (mA name) :=
 let ⟨od,ho,hl⟩:=zfw I.ns
 ⟨od,⟨I.obj,rfl,rfl,ho⟩,hl⟩
section
variable{P:Program}{w:World}{H H':Hp}{h h':Heap}{a C dx:Addr}{fs fs':List (Str×V)}
theorem zix(hok:HOk P w H h)(e:H a=some (.ins C dx fs)):∃mA,ObjM h a dx C mA/\(∀f,RelO (fs.lookup f) (mA f))/\PySem.Within mA (fs.map (·.1))/\fs.length<=1000/\H dx=some (.own a):=by
 obtain⟨d,z,ne,ob,mA,n,r,q⟩:=(show Jm P w H h a (.ins C dx fs) from hok a _ e)
 exact⟨mA,⟨ob,n,ne⟩,r,q,z,d⟩
end
structure Cls(K:qF)(C:Addr):Prop where
 pg:PySem.W.plainGet K C Str.empty=true
 hd:PySem.W.hasDictIn K C=true
 po:PySem.W.plainOver K C=true
 sa:PySem.W.findIn K (.ref C) "__setattr__" = some (some (.builtin "object.__setattr__"))
theorem Cls.get{K:qF}{C:Addr}(c:Cls K C)(f:Str):PySem.W.plainGet K C f=true:=c.pg
section
variable{X:Cx}{pins:qO}{σ:St}{H:Hp}{s:Shared}{A:Around}{E:qV}{Q:qV}{c:Value}{b:Bool}
inductive TyOf (K:qF)(H:Hp):V->Value->Prop where
 | non:TyOf K H .non (.type "NoneType")
 | bl (x:Bool):TyOf K H (.bl x) (.type "bool")
 | int (i:Int):TyOf K H (.int i) (.type "int")
 | str (x:Str):TyOf K H (.str x) (.type "str")
 | flt (x:UInt64):TyOf K H (.flt x) (.type "float")
 | lst {a:Addr} {xs:List V} (e:H a=some (.lst xs)):TyOf K H (.ref a) (.type "list")
 | frz {a:Addr} {o:Obj} {xs:List V} (e:H a=some (.frz o (.lst xs))):TyOf K H (.ref a) (.type "list")
 | tup {a:Addr} {xs:List V} (e:H a=some (.tup xs)):TyOf K H (.ref a) (.type "tuple")
 | dK {a:Addr} {kvs:List (Key×V)} (e:H a=some (.dK kvs)):TyOf K H (.ref a) (.type "dict")
 | dT {a:Addr} {kvs:List (List Key×V)} (e:H a=some (.dT kvs)):TyOf K H (.ref a) (.type "dict")
 | ins {a C dx:Addr} {fs:List (Str×V)} (e:H a=some (.ins C dx fs)) (cl:Cls K C) (ha:PySem.W.findIn K (.ref C) "__class__" = some (some (.builtin "object.__class__")))
   (hn:PySem.W.specialIn K (.builtin "object.__class__") "__get__" = some (some (.builtin "getset_descriptor.__get__"))) (htk:PySem.W.takesIn K (.builtin "object.__class__")=some true)
   (hm:PySem.W.mroIn K C (.type "object")=some true):TyOf K H (.ref a) (.ref C)
theorem zfH{x:V}{u t:Value}(I:Inv X pins σ H s)(rx:RelV x u)(ty:TyOf X.K H x t)(e:PySem.W.kitOne X.K t c=some b)(h:∀tk,Q (.bool b) { s with toks:=tk }) :
  wpAny (model X.prog X.w) A (call (.builtin "isinstance") [u,c]) Q E s:=by
 cases ty with
 | non=>cases(show u=Value.none from rx);exact PySem.W.kia_one PySem.W.kitx_none I.kIn True.intro e (fun z=>nomatch z) h
 | bl y=>cases(show u=Value.bool y from rx);exact PySem.W.kia_one PySem.W.kitx_bool I.kIn True.intro e (fun z=>nomatch z) h
 | int i=>obtain⟨t,q⟩:=(show ∃t,u=Value.int i t from rx);cases q;exact PySem.W.kia_one PySem.W.kitx_int I.kIn True.intro e (fun z=>nomatch z) h
 | str y=>obtain⟨t,q⟩:=(show ∃t,u=Value.str y t from rx);cases q;exact PySem.W.kia_one PySem.W.kitx_str I.kIn True.intro e (fun z=>nomatch z) h
 | flt y=>obtain⟨t,q⟩:=(show ∃t,u=Value.float y t from rx);cases q;exact PySem.W.kia_one PySem.W.kitx_float I.kIn True.intro e (fun z=>nomatch z) h
 | @lst a xs ea =>
  cases(show u=Value.ref a from rx)
  obtain⟨_,_,n,_,h1⟩:=(show Jm X.prog X.w H s.heap a (.lst xs) from I.hok a _ ea)
  exact PySem.W.kia_one PySem.W.kitx_list I.kIn ⟨_,h1,rfl⟩ e (fun z=>nomatch z) h
 | @frz a ob xs ea =>
  cases(show u=Value.ref a from rx)
  obtain⟨_,_,_,n,_,h1⟩:=(show Jm X.prog X.w H s.heap a (.frz ob (.lst xs)) from I.hok a _ ea)
  exact PySem.W.kia_one PySem.W.kitx_list I.kIn ⟨_,h1,rfl⟩ e (fun z=>nomatch z) h
 | @tup a xs ea =>
  cases(show u=Value.ref a from rx)
  obtain⟨_,_,_,p⟩:=(show Jm X.prog X.w H s.heap a (.tup xs) from I.hok a _ ea)
  obtain⟨o,h1,h2,_⟩:=p;exact PySem.W.kia_one PySem.W.kitx_tuple I.kIn ⟨o,h1,h2⟩ e (fun z=>nomatch z) h
 | @dK a kvs ea =>
  cases(show u=Value.ref a from rx)
  obtain⟨_,_,vs,_,p⟩:=(show Jm X.prog X.w H s.heap a (.dK kvs) from I.hok a _ ea)
  obtain⟨o,es,ep,h1,h2,_⟩:=p;exact PySem.W.kia_one PySem.W.kitx_dict I.kIn ⟨o,h1,h2.1⟩ e (fun z=>nomatch z) h
 | @dT a kvs ea =>
  cases(show u=Value.ref a from rx)
  obtain⟨_,_,xs,_,o,es,ep,h1,h2,_⟩:=(show Jm X.prog X.w H s.heap a (.dT kvs) from I.hok a _ ea)
  exact PySem.W.kia_one PySem.W.kitx_dict I.kIn ⟨o,h1,h2.1⟩ e (fun z=>nomatch z) h
 | @ins a C dx fs ea cl ha hn htk hm =>
  cases(show u=Value.ref a from rx)
  obtain⟨mA,O,_⟩:=zix I.hok ea;obtain⟨od,J,_⟩:=O.look;exact PySem.W.kia_one (PySem.W.kitx_own (cl.get _) cl.hd ha hn htk hm) I.kIn J e (fun z=>nomatch z) h
end
structure Room(k:Nat)(A:Around):Prop where
 hd:A.handled=none
 dp:A.depth+3*k+5<recursionLimit
 un:A.units+16*k+200<cLine
 gd:A.guards=some []
theorem Room.mono{j k:Nat}{A:Around}(r:Room k A)(h:j<=k):Room j A:=⟨r.hd,by have:=r.dp;lia,by have:=r.un;lia,r.gd⟩
theorem Room.deeper{k:Nat}{A:Around}(r:Room (k+1) A)(env:Env):Room k (A.deeper env) :=
 ⟨r.hd,by have:=r.dp;show A.depth+1+3*k+5<_;lia,by have:=r.un;show A.units+3+16*k+200<_;lia,r.gd⟩
theorem Room.in1{k:Nat}{A:Around}(r:Room (k+1) A):Room k A.in1 :=
 ⟨r.hd,by have:=r.dp;show A.depth+3*k+5<_;lia,by have:=r.un;show A.units+1+16*k+200<_;lia,r.gd⟩
theorem Room.depth{k:Nat}{A:Around}(r:Room k A):A.depth<recursionLimit:=by have:=r.dp;lia
theorem Room.units0{k:Nat}{A:Around}(r:Room k A):A.units<cLine:=by have:=r.un;lia
def tNil:TA:=fun _ H Q=>Q [] H
def JK(ta:TE)(tr:TA):TA:=fun σ H Q=>ta σ H fun x H1=>tr σ H1 fun xs H2=>Q (x::xs) H2
section
variable{X:Cx}{e:Expr}{es:List Expr}{te:TE}{t:TA}{pos:Pos}
theorem zfm:PA X [] tNil:=fun _ _ _ _ H Q I h=>Calls.spliced_nil ⟨[],H,I,.nil,h⟩
theorem zdw(ha:PE X e te)(hr:PA X es t)(hs:starEach (e::es) X.env=(false,eval e X.env)::starEach es X.env:=by rfl):PA X (e::es) (JK te t):=by
 intro pos pins s σ H Q I h;rw[hs];show wpAny _ _ (spliced ((false,eval e X.env)::backTo pos (starEach es X.env))) _ _ s
 refine Calls.spliced_cons (thn (ha pins s σ H _ I h) fun u s1 ⟨x,H1,I1,r1,q1⟩=>?_)
 exact thn (hr pos pins s1 σ H1 _ I1 q1) fun us s2 ⟨xs,H2,I2,r2,q2⟩=>⟨x::xs,H2,I2,.cons r1 r2,q2⟩
def tTup(t:TA):TE:=fun σ H Q=>t σ H fun xs H1=>xs.length<=sizeLine/\∀p,H1 p=none->Q (.ref p) (upd H1 p (.tup xs))
def tLst(t:TA):TE:=fun σ H Q=>t σ H fun xs H1=>xs.length<=sizeLine/\∀p,H1 p=none->Q (.ref p) (upd H1 p (.lst xs))
theorem zjM{x1}(h:PA X es t):PE X (.Tuple es x1 pos) (tTup t):=by
 intro pins s σ H Q I hq;refine wpAny_Tuple_spliced (thn (h pos pins s σ H _ I hq) fun us s1 ⟨xs,H1,I1,r,z,q⟩=>⟨by rw[<- r.length];exact z,?_⟩)
 have hf:H1 s1.heap.objs.size=none:=I1.hok.fresh (Nat.le_refl _);refine⟨.ref s1.heap.objs.size,upd H1 s1.heap.objs.size (.tup xs),I1.laid (t':=s1.toks) (fun b u e=>Heap.get?_push_of_some _ e) (Nat.le_refl _) ?_,rfl,q _ hf⟩
 exact⟨z,us,r,⟨_,Heap.get?_push_size _ rfl,rfl,⟨_,rfl⟩,rfl⟩⟩
theorem zjN(h:PA X es t):PE X (.List es pos) (tLst t):=by
 intro pins s σ H Q I hq;refine wpAny_List_spliced (thn (h pos pins s σ H _ I hq) fun us s1 ⟨xs,H1,I1,r,z,q⟩=>⟨by rw[<- r.length];exact z,?_⟩)
 have hf:H1 s1.heap.objs.size=none:=I1.hok.fresh (Nat.le_refl _);refine⟨.ref s1.heap.objs.size,upd H1 s1.heap.objs.size (.lst xs),I1.laid (t':=s1.toks) (fun b u e=>Heap.get?_push_of_some _ e) (Nat.le_refl _) ?_,rfl,q _ hf⟩
 exact⟨z,us,0,r,Heap.get?_push_size _ rfl⟩
end
abbrev Sp:=List V->Hp->VK->XK->Prop
abbrev CXT:=List Env->Hp->Shared->XK->Value->Shared->Prop
structure Env0(P:Program)(w:World)(K:qF)(mg:qM)(base:Heap)(A:Around)(outer:List Env)(s:Shared)(H:Hp):Prop where
 frames:A.frames=some outer
 mod:Mod K mg base
 bs:∀b o,base.get? b=some o->s.heap.get? b=some o/\H b=none
 bsz:base.objs.size<=s.heap.objs.size
 funs:s.heap.FunFrames base outer
 frf:∀b∈frs outer,H b=none
 hok:HOk P w H s.heap
 bare:AllBare s.gens
def CE(outer:List Env)(P:Program)(w:World)(H:Hp)(s:Shared)(Q:VK)(u:Value)(s':Shared):Prop :=
 ∃v H',s'.os=s.os/\AllBare s'.gens/\Un (frs outer) [] H H' s.heap s'.heap/\HOk P w H' s'.heap/\RelV v u/\Q v H'
def CR(CX:CXT)(outer:List Env)(P:Program)(w:World)(H:Hp)(s:Shared)(Q:VK)(E:XK)(r:Result)(s':Shared):Prop :=
 match r with
 | .ok (.ret u)=>CE outer P w H s Q u s'
 | .ok _=>False
 | .error e=>CX outer H s E e s'
structure FnOk(P:Program)(w:World)(K:qF)(mg:qM)(base:Heap)(CX:CXT)(k:Nat)(f:Addr)(fd:FuncData)(ps:List Str)(sp:Sp):Prop where
 len:∀vs H Q E,sp vs H Q E->vs.length=ps.length
 run:∀(A:Around) (outer:List Env) (s:Shared) (H:Hp) (args:Args) (us:List Value) (vs:List V) (Q:VK) (E:XK),Room k A->Env0 P w K mg base A outer s H->BindsTo s fd args (ps.zip us)->Vals vs us->sp vs H Q E ->
  codeAny (model P w) A (.call (.ref f) args) (CR CX outer P w H s Q E) s
theorem FnOk.imp{P:Program}{w:World}{K:qF}{mg:qM}{base:Heap}{CX:CXT}{k:Nat}{f:Addr}{fd:FuncData}{ps:List Str}{sp sp':Sp}(F:FnOk P w K mg base CX k f fd ps sp)
  (h:∀vs H Q E,sp' vs H Q E->sp vs H Q E):FnOk P w K mg base CX k f fd ps sp' :=
 ⟨fun vs H Q E q=>F.len vs H Q E (h _ _ _ _ q),fun A outer s H args us vs Q E hr he hb hv hs=>F.run A outer s H args us vs Q E hr he hb hv (h _ _ _ _ hs)⟩
theorem Env0.in1{P:Program}{w:World}{K:qF}{mg:qM}{base:Heap}{A:Around}{outer:List Env}{s:Shared}{H:Hp}(e:Env0 P w K mg base A outer s H) :
  Env0 P w K mg base A.in1 outer s H:=⟨e.frames,e.mod,e.bs,e.bsz,e.funs,e.frf,e.hok,e.bare⟩
section
variable{X:Cx}{pins:qO}{σ:St}{H:Hp}{s s':Shared}
theorem Inv.env0(I:Inv X pins σ H s):Env0 X.prog X.w X.K X.mg X.base X.A X.stack s H :=
 ⟨I.ok.frames,I.ok.mod,I.bs,Nat.le_trans I.ok.bsz I.sz,I.stack,I.stkFree,I.hok,I.bare⟩
theorem Inv.after{Q:VK}{u:Value}(I:Inv X pins σ H s)(h:CE X.stack X.prog X.w H s Q u s'):EP X pins σ Q u s':=by
 obtain⟨v,H',os,bare,un,hok,r,q⟩:=h;obtain⟨hh,g,d,t,os'⟩:=s';obtain rfl:os'=s.os:=os;exact⟨v,H',I.call (h':=hh) (g':=g) (d':=d) (t':=t) (ch:=[]) un hok bare (fun b z=>absurd z (by simp)),r,q⟩
end
def zhM(sp:Sp)(dvs:List V)(E:XK)(t:TA):TE:=fun σ H Q=>t σ H fun vs H1=>sp (vs++dvs) H1 Q E
def Binds(K:qF)(fd:FuncData)(ps:List Str)(ds:List Value):Prop :=
 ∀(s:Shared) (us:List Value),K.In s.heap->(us++ds).length=ps.length->BindsTo s fd ⟨us,[]⟩ (ps.zip (us++ds))
theorem Binds.all{K:qF}{fd:FuncData}{ps:List Str}(h:∀us:List Value,us.length=ps.length->bindArgs fd ⟨us,[]⟩=pure (ps.zip us)):Binds K fd ps []:=fun s us _ hl=>by
 rw[List.append_nil]at hl ⊢;exact .of_eq (h us hl)
def Uk(CX:CXT)(X:Cx)(E:XK):Prop:=∀(pins:qO) (σ:St) (H:Hp) (s:Shared) (e:Value) (s':Shared),Inv X pins σ H s->CX X.stack H s E e s'->X.xe e s'
section
variable{X:Cx}{CX:CXT}{k:Nat}{f C:Addr}{fd:FuncData}{ps:List Str}{sp:Sp}{dvs:List V}{ds:List Value}{E:XK}{x m:Str}{p pos apos:Pos}{e o:Expr}{es:List Expr}{ta:TE}{t:TA}
theorem zhj{pins:qO}{σ:St}{H:Hp}{s:Shared}{Q:VK}{us:List Value}{vs:List V}(F:FnOk X.prog X.w X.K X.mg X.base CX k f fd ps sp)(hr:Room k X.A)(hb:Binds X.K fd ps ds)(hd:Vals dvs ds)(hx:Uk CX X E)
  (I:Inv X pins σ H s) (r:Vals vs us) (h:sp (vs++dvs) H Q E):wpAny (model X.prog X.w) X.A (call (.ref f) us) (EP X pins σ Q) X.xe s:=by
 have r2:Vals (vs++dvs) (us++ds):=r.append hd;have hl:(us++ds).length=ps.length:=by rw[<- r2.length];exact F.len _ _ _ _ h
 refine wpAny_call (codeAny_mono (F.run X.A X.stack s H ⟨us,[]⟩ (us++ds) (vs++dvs) Q E hr I.env0 (hb s us I.kIn hl) r2 h) fun r s' hq=>?_)
 cases r with
 | error e=>exact hx pins σ H s e s' I hq
 | ok fl =>
  cases fl with
  | ret u=>exact I.after hq
  | next=>exact False.elim hq
  | brk=>exact False.elim hq
  | cont=>exact False.elim hq
theorem zic(F:FnOk X.prog X.w X.K X.mg X.base CX k f fd ps sp)(hr:Room k X.A)(hg:Gl X x)(hm:X.mg x=some (.ref f))(hk:PySem.W.keepIn X.K (.ref f)=true)(hb:Binds X.K fd ps ds)(hd:Vals dvs ds)(hx:Uk CX X E)
  (ha:PA X (e::es) t) (hdb:(x == ("__debug__":Str))=false:=by decide) (he:starEach (e::es) X.env=(false,eval e X.env)::starEach es X.env:=by rfl) (hpl:(backTo pos (starEach es X.env)).any (·.1)=false:=by rfl) :
  PE X (.Call (.Name x p) (e::es) [] pos) (zhM sp dvs E t):=by
 intro pins s σ H Q I h;refine wpAny_Call_Name_kw (zfy I hg hm ?_ hdb);refine PySem.W.callWith_K (h₀:=X.base) I.ok.mod.kin hk (thn (ha pos pins s σ H _ I h) fun us s1 ⟨vs,H1,I1,r,q⟩=>⟨I1.kIn,?_⟩) he hpl
 exact zhj F hr hb hd hx I1 r q
end
structure JJ(N P:List Str)(sc:Scope):Prop where
 kind:sc.kind=.function
 co:sc.isCoroutine=false
 gen:sc.isGenerator=false
 nd:N.Nodup
 pre:N.take P.length=P
 par:∀x∈P,sc.names.lookup x=some .local\/sc.names.lookup x=some .cell
 nofree:∀y∈sc.names,y.2≠.free
theorem zdm{kindOf:Str->Option NameKind}{x:Str}:∀{binds:List (Str×Value)}{m:qM},(∀v,(x,v)∉binds)->bindL kindOf binds m x=m x
 | [],_,_=>rfl
 | (n,v)::r,m,h=>by
  unfold bindL;rw[zdm fun w hw=>h w (List.mem_cons_of_mem _ hw)]
  split
  ·have:x≠n:=by rintro rfl;exact h v List.mem_cons_self
   simp[this]
  ·rfl
theorem zdo{kindOf:Str->Option NameKind}{x:Str}:∀{binds:List (Str×Value)}{m:qM},(∀v,(x,v)∉binds)->bindC kindOf binds m x=m x
 | [],_,_=>rfl
 | (n,v)::r,m,h=>by
  unfold bindC;rw[zdo fun w hw=>h w (List.mem_cons_of_mem _ hw)]
  split
  ·rfl
  ·have:x≠n:=by rintro rfl;exact h v List.mem_cons_self
   simp[this]
theorem zdn{kindOf:Str->Option NameKind}{x:Str}{v:Value}:∀{P:List Str}{vs:List Value}{i:Nat}{m:qM},P.Nodup->P[i]?=some x->vs[i]?=some v->kindOf x=some .local ->
  bindL kindOf (P.zip vs) m x=some v
 | [],_,_,_,_,h,_,_=>by simp at h
 | _::_,[],_,_,_,_,h,_=>by simp at h
 | p::P,w::vs,0,m,nd,h1,h2,hk=>by
  simp at h1 h2;subst h1;subst h2;show bindL kindOf ((p,w)::P.zip vs) m p=_
  unfold bindL;rw[zdm fun v hv=>(List.nodup_cons.mp nd).1 (List.of_mem_zip hv).1,if_pos hk]
  simp
 | p::P,w::vs,i+1,m,nd,h1,h2,hk=>by
  show bindL kindOf ((p,w)::P.zip vs) m x=_
  unfold bindL;exact zdn (i:=i) (List.nodup_cons.mp nd).2 (by simpa using h1) (by simpa using h2) hk
theorem zdp{kindOf:Str->Option NameKind}{x:Str}{v:Value}:∀{P:List Str}{vs:List Value}{i:Nat}{m:qM},P.Nodup->P[i]?=some x->vs[i]?=some v->kindOf x≠some .local ->
  bindC kindOf (P.zip vs) m x=some v
 | [],_,_,_,_,h,_,_=>by simp at h
 | _::_,[],_,_,_,_,h,_=>by simp at h
 | p::P,w::vs,0,m,nd,h1,h2,hk=>by
  simp at h1 h2;subst h1;subst h2;show bindC kindOf ((p,w)::P.zip vs) m p=_
  unfold bindC;rw[zdo fun v hv=>(List.nodup_cons.mp nd).1 (List.of_mem_zip hv).1,if_neg hk]
  simp
 | p::P,w::vs,i+1,m,nd,h1,h2,hk=>by
  show bindC kindOf ((p,w)::P.zip vs) m x=_
  unfold bindC;exact zdp (i:=i) (List.nodup_cons.mp nd).2 (by simpa using h1) (by simpa using h2) hk
def start(N:List Str)(vs:List V):St:=vs.map some++List.replicate (N.length - vs.length) none
def cxOf(CX:CXT)(P:Program)(w:World)(K:qF)(mg:qM)(base:Heap)(N:List Str)(qual:Str)(scope:Scope)(f:Addr)(cd:Value)(A:Around)(outer:List Env)(s:Shared)(H:Hp)(E:XK):Cx where
 prog:=P
 w:=w
 K:=K
 mg:=mg
 base:=base
 A:=A.deeper (envOfC qual scope s.heap.objs.size f cd)
 N:=N
 s₀:=s
 H₀:=H
 env:=envOfC qual scope s.heap.objs.size f cd
 outer:=outer
 stack:=envOfC qual scope s.heap.objs.size f cd::outer
 ex:=[]
 calm:=true
 fn:=fun _=>true
 pn:=[]
 xe:=fun e s'=>wpAny (model P w) (A.deeper (envOfC qual scope s.heap.objs.size f cd)) (leaving (envOfC qual scope s.heap.objs.size f cd) e) (fun _ s''=>CX outer H s E e s'') (fun e' s''=>CX outer H s E e' s'') s'
theorem zej{sc:Scope}{n:Nat}{x:Str}(h:sc.names.lookup x=some .cell):∃c,(cellsFrom n sc.names []).lookup x=some c:=by
 have q:=PySem.W.cellsFrom_some sc.names n [] (.inl h);exact Option.isSome_iff_exists.mp q
theorem zda{CX:CXT}{P:Program}{w:World}{K:qF}{mg:qM}{base:Heap}{N ps:List Str}{qual:Str}{scope:Scope}{f:Addr}{cd:Value}{A:Around}{outer:List Env}{s s1:Shared}{H:Hp}{E:XK}{us:List Value}{vs:List V}
  (S:JJ N ps scope) (hd:A.handled=none) (e0:Env0 P w K mg base A outer s H) (hl:vs.length=ps.length) (r:Vals vs us)
  (x:InCallC s s.heap.objs.size (bindL (envOfC qual scope s.heap.objs.size f cd).kindOf (ps.zip us) fun _=>none) (cellsFrom (s.heap.objs.size+1) scope.names []) (bindC (envOfC qual scope s.heap.objs.size f cd).kindOf (ps.zip us) fun _=>none) s1) :
  Inv (cxOf CX P w K mg base N qual scope f cd A outer s H E) [] (start N vs) H s1:=by
 have hpl:ps.length<=N.length:=by have:=congrArg List.length S.pre;rw[List.length_take]at this;lia
 obtain⟨h1,tk,rfl,hk⟩:=x.done;have noA:∀b:Addr,b∉(cxOf CX P w K mg base N qual scope f cd A outer s H E).ex:=fun b z=>absurd (show b∈([]:List Addr) from z) (by simp)
 refine⟨⟨e0.mod,S.kind,rfl,rfl,Nat.le_refl _,fun y z c h1 h2=>?_,fun y hy=>?_,fun y c _ h=>?_,fun _=>hd,Around.frames_deeper e0.frames,.inr ⟨rfl,rfl⟩,fun b z=>absurd z (noA b),e0.bs,e0.bsz,fun b _ _=>noA b,fun b z=>absurd z (noA b),e0.funs,e0.frf⟩,
  rfl,e0.bare,Un.kept hk,⟨_,x.toInCall.ns,fun i y v h1 h2 h3=>?_⟩,fun y c h=>⟨_,x.cell y c h⟩,e0.hok.fresh (Nat.le_refl _),fun y c h=>?_,fun p hp=>absurd (show p∈([]:qO) from hp) (by simp),e0.hok.kept hk,?_⟩
 ·exact name_of_addr x.apart (PySem.mem_of_lookup h1) (PySem.mem_of_lookup h2)
 ·have hy:scope.names.lookup y=some .cell\/scope.names.lookup y=some .free:=hy;rcases hy with hy|hy
  ·exact zej hy
  ·exact absurd rfl (S.nofree _ (PySem.mem_of_lookup hy))
 ·exact Nat.le_of_lt (x.above y c (PySem.mem_of_lookup h))
 ·have hi:i<vs.length:=by
   unfold start at h2
   by_cases hi:i<vs.length
   ·exact hi
   ·rw[List.getElem?_append_right (by simpa using hi)]at h2
    rw[List.getElem?_replicate]at h2;split at h2 <;> cases h2
  have ha:vs[i]?=some v:=by
   unfold start at h2;rw[List.getElem?_append_left (by simpa using hi),List.getElem?_map]at h2
   cases e:vs[i]? with
   | none=>rw[e]at h2;cases h2
   | some a=>rw[e]at h2;cases h2;rfl
  obtain⟨u,hu,rv⟩:=r.get ha;have hp:ps[i]?=some y:=by
   rw[<- S.pre,List.getElem?_take_of_lt (by lia)];exact h1
  have ndP:ps.Nodup:=by rw[<- S.pre];exact S.nd.sublist (List.take_sublist _ _)
  refine⟨u,rv,?_⟩;rcases S.par y (List.mem_of_getElem? hp) with k|k
  ·exact .inl ⟨k,zdn ndP hp hu k⟩
  ·obtain⟨c,e⟩:=zej (n:=s.heap.objs.size+1) k;refine .inr ⟨.inl k,c,e,?_⟩;have q:=x.cell y c e;rw[zdp ndP hp hu (by show scope.names.lookup y≠_;rw[k];decide)]at q
   exact q
 ·exact e0.hok.fresh (Nat.le_of_lt (x.above y c (PySem.mem_of_lookup h)))
 ·unfold start;show _=N.length
  rw[List.length_append,List.length_map,List.length_replicate];lia
theorem zkT{CX:CXT}{P:Program}{w:World}{K:qF}{mg:qM}{base:Heap}{k:Nat}{f:Addr}{name qual:Str}{params:Arguments}{body:List Stmt}{scope:Scope}{dV kV doc pm cdv ct oc:Value}{an od:Option Addr}
  {osl:Array (Option Value)} {N ps:List Str} {sp:Sp} (lk:K.lookup f=some ⟨oc,od,.func (PySem.W.fnOf name qual params body scope dV kV doc pm an cdv ct),osl⟩) (hcd:PySem.W.codeIn K cdv qual=true) (S:JJ N ps scope)
  (len:∀vs H Q E,sp vs H Q E->vs.length=ps.length)
  (hbody:∀(A:Around) (outer:List Env) (s:Shared) (H:Hp) (vs:List V) (Q:VK) (E:XK),Room k (A.deeper (envOfC qual scope s.heap.objs.size f cdv))->sp vs H Q E ->
   ∃t,PSs (cxOf CX P w K mg base N qual scope f cdv A outer s H E) body t/\t { nx:=fun _ H'=>Q .non H',rt:=Q } (start N vs) H) :
  FnOk P w K mg base CX (k+1) f (PySem.W.fnOf name qual params body scope dV kV doc pm an cdv ct) ps sp:=by
 refine⟨len,fun A outer s H args us vs Q E hr e0 hb r hsp=>?_⟩
 have hl:=len _ _ _ _ hsp;have KX:K.In s.heap:=e0.mod.kin.keeps fun b o e=>(e0.bs b o e).1
 have lim:s.heap.NoLimit:=e0.mod.nolimit.keeps fun b o e=>(e0.bs b o e).1
 have hkind:∀y∈ps.zip us,scope.names.lookup y.1=some .local\/(scope.names.lookup y.1=some .cell/\((cellsFrom (s.heap.objs.size+1) scope.names []).lookup y.1).isSome=true):=fun⟨n,v⟩ hy=>by
  rcases S.par n (List.of_mem_zip hy).1 with q|q
  ·exact .inl q
  ·exact .inr ⟨q,PySem.W.cellsFrom_some _ _ _ (.inl q)⟩
 refine codeAny_call_function hr.depth (KX _ _ lk) rfl S.co S.gen rfl (PySem.W.codeRec_of KX hcd) (hb _ _ _ _ ?_);refine wpAny_newFunctionEnv_cells S.kind hkind fun env he s1 x=>?_
 subst he;refine⟨lim.keeps x.toInCall.keep,codeAny_func ?_⟩;obtain⟨t,ht,hq⟩:=hbody A outer s H vs Q E (hr.deeper _) hsp;have I:Inv (cxOf CX P w K mg base N qual scope f cdv A outer s H E) [] (start N vs) H s1:=zda S hr.hd e0 hl r x;refine wpAny_mono (ht [] s1 (start N vs) H _ I hq) (fun fl s' hs=>?_) fun e s' hs=>hs
 have fin:∀{σ':St} {H':Hp} {v:V} {u:Value},Inv (cxOf CX P w K mg base N qual scope f cdv A outer s H E) [] σ' H' s'->RelV v u->Q v H'->CE outer P w H s Q u s' :=
  fun {σ' H' v u} J rv q=>⟨v,H',J.os,J.bare,J.base,J.hok,rv,q⟩
 cases fl with
 | ret u =>
  obtain⟨v,σ',H',J,rv,q⟩:=hs;exact fin J rv q
 | next =>
  obtain⟨σ',H',J,q⟩:=hs;exact fin (v:=V.non) (u:=Value.none) J rfl q
 | brk =>
  obtain⟨_,_,_,q⟩:=hs;exact False.elim q
 | cont =>
  obtain⟨_,_,_,q⟩:=hs;exact False.elim q
section
variable{X:Cx}{x:Str}{p pos:Pos}{e:Expr}{es:List Expr}{t:TA}{id T:String}{r:List V->Hp->VK->Prop}
def tCB(r:List V->Hp->VK->Prop)(t:TA):TE:=fun σ H Q=>t σ H fun vs H1=>r vs H1 Q
theorem zgA(hc:Jw X (.builtin id) r)(hg:Gl X x)(hm:X.mg x=none)(hv:bootBuiltins x=some (.builtin id))(ha:PA X (e::es) t)(hn:x ≠ "__name__":=by decide) (hdb:(x == ("__debug__":Str))=false:=by decide)
  (he:starEach (e::es) X.env=(false,eval e X.env)::starEach es X.env:=by rfl) (hpl:(backTo pos (starEach es X.env)).any (·.1)=false:=by rfl):PE X (.Call (.Name x p) (e::es) [] pos) (tCB r t):=by
 intro pins s σ H Q I h;refine wpAny_Call_Name_kw (QQ I hg hm hv ?_ hn hdb);exact PyProof.Rows.callWith_builtin1 (thn (ha pos pins s σ H _ I h) fun us s1 ⟨vs,H1,I1,r1,q1⟩=>hc pins s1 σ H1 vs us Q I1 r1 q1) he hpl
theorem zfk(hc:Jw X (.type T) r)(hg:Gl X x)(hm:X.mg x=none)(hv:bootBuiltins x=some (.type T))(ha:PA X (e::es) t)(hn:x ≠ "__name__":=by decide) (hdb:(x == ("__debug__":Str))=false:=by decide)
  (he:starEach (e::es) X.env=(false,eval e X.env)::starEach es X.env:=by rfl) (hpl:(backTo pos (starEach es X.env)).any (·.1)=false:=by rfl):PE X (.Call (.Name x p) (e::es) [] pos) (tCB r t):=by
 intro pins s σ H Q I h;refine wpAny_Call_Name_kw (QQ I hg hm hv ?_ hn hdb);exact PyProof.Rows.callWith_type1 (thn (ha pos pins s σ H _ I h) fun us s1 ⟨vs,H1,I1,r1,q1⟩=>hc pins s1 σ H1 vs us Q I1 r1 q1) he hpl
end
end L2
namespace HT
open PySem PyProof.Rows
def lexLt:List Int->List Int->Bool
 | [],[]=>false
 | [],_::_=>true
 | _::_,[]=>false
 | x::xs,y::ys=>if x=y then lexLt xs ys else decide (x<y)
theorem zeE(x y:Int)(xs ys:List Int):lexLt (x::xs) (y::ys)=if x=y then lexLt xs ys else decide (x<y):=rfl
theorem zcH:lexLt [] []=false:=rfl
theorem zch(y:Int)(ys:List Int):lexLt [] (y::ys)=true:=rfl
theorem zci(x:Int)(xs:List Int):lexLt (x::xs) []=false:=rfl
theorem zg3(A:Around)(s:Shared)(a:Int)(t:Tok)(c:Int)(u:Tok):∃e,SeqAt.EqAt A s (.int a t) (.int c u) e/\(e=true↔a=c) :=
 ⟨(a == c),SeqAt.EqAt.int_int a t c u,by simp⟩
theorem zgn(A:Around)(s:Shared)(a:Int)(t:Tok)(c:Int)(u:Tok)(prog:Program)(w:World)(E:qV)(Q:qV)(h:Q (.bool (decide (a<c))) s) :
  wpAny (model prog w) A (richCompare .Lt (.int a t) (.int c u)) Q E s :=
 (PyProof.Rows.lt_int h:wpAny (model prog w) A (compareOp .Lt (.int a t) (.int c u)) Q E s)
section
open PySem.SeqAt
open PySem.AutoSeq1 (wpAny_loadPart')
open PySem.MeetsSeq PySem.MeetsSeq2 PySem.MeetsSeq3
theorem zcw(l b:Addr)(items items2:Array Value)(n n2:Nat)(dd dd2:Option Addr)(sl sl2:Array (Option Value))(ns ms:List Int)(hi:IntsAre items.toList ns)(hj:IntsAre items2.toList ms) :
  Meets (Builtin.«tuple.__lt__» ⟨[.ref l,.ref b],[]⟩)
   (fun _ R s=>s.heap.get? l=some { cls:=.type "tuple",dict:=dd,data:=.seq items n,slots:=sl }/\s.heap.get? b=some { cls:=.type "tuple",dict:=dd2,data:=.seq items2 n2,slots:=sl2 } /\
    R (.ok (.ret (.bool (lexLt ns ms)))) s) :=
 .of_wp fun prog w A R s h=>by
  obtain⟨hp,g,d,tk,os⟩:=s;obtain⟨hl,hb,h⟩:=h;have f2:=AutoSeq1.sub_tuple_tuple;have z1:items.size=ns.length:=by rw[<- hi.length];simp
  have z2:items2.size=ms.length:=by rw[<- hj.length];simp
  wp_walk using wpAny_loadPart' hl,wpAny_loadPart' hb,wpAny_forIn_list _ (fun rest b s'=>b.1=none/\s'=⟨hp,g,d,tk,os⟩/\∃(vs ws:List Value) (ns' ms':List Int),rest=vs.zip ws /\
   IntsAre vs ns'/\IntsAre ws ms'/\ns'.length+items2.size=ms'.length+items.size/\R (.ok (.ret (.bool (lexLt ns' ms')))) ⟨hp,g,d,tk,os⟩) _
  case turn =>
   rintro⟨y,x⟩ rest b s' ⟨hb',rfl,vs,ws,ns',ms',hz,hvi,hwi,hlen,hR⟩;cases hvi with
   | nil=>rw[List.zip_nil_left]at hz;cases hz
   | cons a t hvi' =>
    cases hwi with
    | nil=>rw[List.zip_nil_right]at hz;cases hz
    | cons c u hwi' =>
     rw[List.zip_cons_cons]at hz
     injection hz with hyx hrest
     injection hyx with hy hx
     subst hy hx;rw[zeE]at hR;simp only[List.length_cons]at hlen;obtain⟨e,he,hiff⟩:=zg3 A.in1 ⟨hp,g,d,tk,os⟩ a t c u;refine wpAny_bind (he prog w _ _ ?_);cases e with
     | true =>
      rw[if_pos (hiff.mp rfl)]at hR
      wp_walk
      exact⟨rfl,rfl,_,_,_,_,hrest,hvi',hwi',by lia,hR⟩
     | false =>
      rw[if_neg (fun q=>absurd (hiff.mpr q) Bool.false_ne_true)]at hR
      have hri:=zgn A.in1 ⟨hp,g,d,tk,os⟩ a t c u prog w
      wp_walk using hri
      exact⟨_,rfl,by simpa using hR⟩
  case fin =>
   rintro⟨b1,b2⟩ s' ⟨hb',rfl,vs,ws,ns',ms',hz,hvi,hwi,hlen,hR⟩;simp only at hb';subst hb';have hv:lexLt ns' ms'=decide (items.size<items2.size):=by
    cases hvi with
    | nil =>
     cases hwi with
     | nil =>
      simp only[List.length_nil]at hlen;rw[zcH];exact(decide_eq_false (by lia)).symm
     | cons c u hw =>
      simp only[List.length_nil,List.length_cons]at hlen;rw[zch];exact(decide_eq_true (by lia)).symm
    | cons a t hv =>
     cases hwi with
     | nil =>
      simp only[List.length_nil,List.length_cons]at hlen;rw[zci];exact(decide_eq_false (by lia)).symm
     | cons c u hw =>
      rw[List.zip_cons_cons]at hz;cases hz
   rw[hv]at hR
   wp_walk
   exact⟨_,rfl,by simpa[Builtin.Tuple.tupleCompareSizes] using hR⟩
  case h =>
   exact⟨rfl,rfl,items.toList,items2.toList,ns,ms,rfl,hi,hj,by lia,h⟩
end
section
variable{prog:Program}{w:World}{A:Around}{E:qV}{s:Shared}
theorem zbs{l b:Addr}{items items2:Array Value}{ns ms:List Int}{Q:qV}(hl:IsTup s.heap l items)(hb:IsTup s.heap b items2)(hi:IntsAre items.toList ns)(hj:IntsAre items2.toList ms)
  (hu:A.units<cLine) (h:Q (.bool (lexLt ns ms)) s):wpAny (model prog w) A (compareOp .Lt (.ref l) (.ref b)) Q E s:=by
 obtain⟨⟨cls,dd,data,sl⟩,ho,hc,n,hd⟩:=id hl;obtain⟨⟨cls2,dd2,data2,sl2⟩,ho2,hc2,n2,hd2⟩:=id hb;simp only at hc hd hc2 hd2;subst hc hd hc2 hd2;exact richCompare_meets_room (op:=.Lt) ⟨_,ho,rfl⟩ ⟨_,ho2,rfl⟩ PySem.F.slot_tuple_lt PySem.F.entry_tuple_lt (PySem.F.args_tuple_lt_2 _ _) (zcw l b items items2 n n2 dd dd2 sl sl2 ns ms hi hj)
  ⟨ho,ho2,show Value.bool (lexLt ns ms)≠Value.notImplemented/\Q (.bool (lexLt ns ms)) s from⟨(fun x=>nomatch x),h⟩⟩ hu
theorem zi0{t b:Addr}{vs ws:List Value}{Q:qV}(ht:IsTup s.heap t vs.toArray)(hb:IsTup s.heap b ws.toArray)(hv:vs≠[])
  (h1:ws=[]->Q (.ref t) s) (h2:ws≠[]->Q (.ref s.heap.objs.size) { s with heap:=s.heap.push { cls:=.type "tuple",data:=.seq (vs++ws).toArray } })
  (hsz:vs.length+ws.length<=sizeLine):wpAny (model prog w) A (binaryOp .Add (.ref t) (.ref b)) Q E s:=by
 obtain⟨⟨cls,dd,data,sl⟩,ho,hc,n,hd⟩:=id ht;obtain⟨⟨cls2,dd2,data2,sl2⟩,ho2,hc2,n2,hd2⟩:=id hb;simp only at hc hd hc2 hd2;subst hc hd hc2 hd2;have e:vs.toArray++ws.toArray=(vs++ws).toArray:=by simp
 by_cases hw:ws=[]
 ·exact concat_meets ⟨_,ho,rfl⟩ ⟨_,ho2,rfl⟩ noFill_tuple_add seq_tuple_add PySem.F.slot_tuple_add PySem.F.entry_tuple_add (PySem.F.args_tuple_add_2 _ _)
   (tuple_addW1 t b vs.toArray ws.toArray n n2 dd dd2 sl sl2 (by simpa using hv) (by simp[hw])) ⟨ho,ho2,h1 hw⟩
 ·refine concat_meets ⟨_,ho,rfl⟩ ⟨_,ho2,rfl⟩ noFill_tuple_add seq_tuple_add PySem.F.slot_tuple_add PySem.F.entry_tuple_add (PySem.F.args_tuple_add_2 _ _)
   (tuple_addW2 t b vs.toArray ws.toArray n n2 dd dd2 sl sl2 (by simpa using hv) (by simpa using hw) (by rw[List.size_toArray,List.size_toArray];exact hsz)) ⟨ho,ho2,?_⟩
  rw[e];exact h2 hw
end
end HT
namespace L2
open PySem PySem.Spec PyProof.Rows
abbrev TO:=St->Hp->(Option Int->Hp->Prop)->Prop
theorem intsAre_of{ns:List Int}:∀{us:List Value},Vals (ns.map V.int) us->IntsAre us ns:=by
 induction ns with
 | nil=>intro us r;rw[List.map_nil]at r;cases r;exact .nil
 | cons n ns ih =>
  intro us r;rw[List.map_cons]at r;cases r with
  | cons r1 r2 =>
   obtain⟨t,e⟩:=r1;subst e;exact .cons n t (ih r2)
section
variable{X:Cx}{e:Expr}{te:TE}{lo hi:Option Expr}{tl th:TO}{pos p2:Pos}
def rLtT(K:qF):R2:=fun x y H Q=>∃a b ns ms,x=.ref a/\y=.ref b/\SqT K H a (ns.map V.int)/\SqT K H b (ms.map V.int)/\Q (.bl (HT.lexLt ns ms)) H
theorem zjY(hu:X.A.units<cLine):OpR X (compareOp .Lt) (rLtT X.K):=by
 intro pins s σ H x y v u Q I rx ry h;obtain⟨a,b,ns,ms,rfl,rfl,ha,hb,q⟩:=h;cases rx;cases ry;obtain⟨its,r1,p1,_⟩:=I.tuple ha;obtain⟨its2,r2,p2,_⟩:=I.tuple hb;have i1:IntsAre its.toArray.toList ns:=intsAre_of r1;have i2:IntsAre its2.toArray.toList ms:=intsAre_of r2;exact HT.zbs p1 p2 i1 i2 hu ⟨.bl (HT.lexLt ns ms),H,I,rfl,q⟩
def zma(K:qF):R2:=fun x y H Q=>∃a b xs ys,x=.ref a/\y=.ref b/\SqT K H a xs/\SqT K H b ys/\xs≠[]/\xs.length+ys.length<=sizeLine /\
 (ys=[]->Q (.ref a) H)/\(ys≠[]->∀p,H p=none->Q (.ref p) (upd H p (.tup (xs++ys))))
theorem Vals.nil_iff{xs:List V}{us:List Value}(r:Vals xs us):us=[]↔xs=[]:=by
 cases r with
 | nil=>simp
 | cons _ _=>simp
theorem zig:OpR X (binaryOp .Add) (zma X.K):=by
 intro pins s σ H x y v u Q I rx ry h;obtain⟨a,b,xs,ys,rfl,rfl,ha,hb,hx,hz,q1,q2⟩:=h;cases rx;cases ry;obtain⟨its,r1,p1,_⟩:=I.tuple ha;obtain⟨its2,r2,p2,_⟩:=I.tuple hb;refine HT.zi0 p1 p2 (fun z=>hx (r1.nil_iff.mp z)) (fun z=>⟨.ref a,H,I,rfl,q1 (r2.nil_iff.mp z)⟩) (fun z=>?_) (by rw[<- r1.length,<- r2.length];exact hz)
 refine⟨.ref s.heap.objs.size,_,I.laid (t':=s.toks) (o:=.tup (xs++ys)) (fun b ob q=>Heap.get?_push_of_some _ q) (Nat.le_refl _) ?_,rfl,q2 (fun w=>z (r2.nil_iff.mpr w)) _ (I.hok.fresh (Nat.le_refl _))⟩
 exact⟨by rw[List.length_append];exact hz,_,r1.append r2,IsTD.new _ _⟩
end
def ixN(n:Nat)(i:Int):Option Nat:=if 0<=i then(if i<n then some i.toNat else none) else if -(n:Int)<=i then some (i+n).toNat else none
def atI{α:Type}(xs:List α)(i:Int):Option α:=(ixN xs.length i).bind fun j=>xs[j]?
theorem zfG{n:Nat}{i:Int}{j:Nat}(h:ixN n i=some j):seqIndex? i n=some j/\j<n/\-(n:Int)<=i/\i<n:=by
 unfold ixN at h
 by_cases h0:0<=i
 ·rw[if_pos h0]at h
  by_cases h1:i<n
  ·rw[if_pos h1]at h;have e:i.toNat=j:=Option.some.inj h;exact⟨by rw[seqIndex_of h0 h1,e],by lia,by lia,h1⟩
  ·rw[if_neg h1]at h;cases h
 ·rw[if_neg h0]at h
  by_cases h1:-(n:Int)<=i
  ·rw[if_pos h1]at h;have e:(i+n).toNat=j:=Option.some.inj h;exact⟨by rw[seqIndex_neg (by lia) h1,e],by lia,h1,by lia⟩
  ·rw[if_neg h1]at h;cases h
theorem zdN{α:Type}{xs:List α}{i:Int}{v:α}(h:atI xs i=some v):∃j,seqIndex? i xs.length=some j/\xs[j]?=some v/\j<xs.length/\-(xs.length:Int)<=i/\i<xs.length:=by
 unfold atI at h;cases e:ixN xs.length i with
 | none=>rw[e]at h;cases h
 | some j =>
  rw[e]at h;obtain⟨h1,h2,h3,h4⟩:=zfG e;exact⟨j,h1,h,h2,h3,h4⟩
theorem zi4{α:Type}{xs:List α}{j:Nat}{v:α}(h:xs[j]?=some v):atI xs (j:Int)=some v:=by
 have hj:j<xs.length:=(List.getElem?_eq_some_iff.mp h).1;have e:ixN xs.length (j:Int)=some j:=by
  unfold ixN;rw[if_pos (by lia),if_pos (by lia)];simp
 unfold atI;rw[e];exact h
def zgb(b:Expr):Prop:=∀o i,subscripted b false o i=operate [o,i] (getItem o i)
def IxR(X:Cx)(r:R2):Prop :=
 ∀(value slice:Expr) (pins:qO) (s:Shared) (σ:St) (H:Hp) (x y:V) (v u:Value) (Q:VK),Inv X pins σ H s->RelV x v->RelV y u->r x y H Q ->
  subscripted slice false v u=operate [v,u] (getItem v u)->wpAny (model X.prog X.w) X.A (subscriptTail value slice v u) (EP X pins σ Q) X.xe s
def MtR(X:Cx)(id:String)(r:V->List V->Hp->VK->Prop):Prop :=
 ∀(pins:qO) (s:Shared) (σ:St) (H:Hp) (x:V) (xs:List V) (v:Value) (us:List Value) (Q:VK),Inv X pins σ H s->RelV x v->Vals xs us->r x xs H Q ->
  wpAny (model X.prog X.w) X.A (call (.builtin id) (v::us)) (EP X pins σ Q) X.xe s
section
variable{X:Cx}{a b:Expr}{ta tb:TE}{pos:Pos}
theorem IxR.or{r r':R2}(h:IxR X r)(h':IxR X r'):IxR X (fun x y H Q=>r x y H Q\/r' x y H Q):=by
 intro value slice pins s σ H x y v u Q I rx ry q hs;rcases q with q|q
 ·exact h value slice pins s σ H x y v u Q I rx ry q hs
 ·exact h' value slice pins s σ H x y v u Q I rx ry q hs
theorem J9{r:R2}(hr:IxR X r)(ha:PE X a ta)(hb:PE X b tb)(hs:zgb b):PE X (.Subscript a b pos) (tOp r ta tb):=by
 intro pins s σ H Q I h;exact Subscript_ (binT ha hb I h fun v u s2 x y H2 I2 rx ry q=>hr a b pins s2 σ H2 x y v u Q I2 rx ry q (hs _ _))
def rIxL(K:qF):R2:=fun x y H Q=>∃p xs i v,x=.ref p/\y=.int i/\SqL K H p xs/\atI xs i=some v/\Q v H
def rIxT(K:qF):R2:=fun x y H Q=>∃p xs i v,x=.ref p/\y=.int i/\SqT K H p xs/\atI xs i=some v/\Q v H
def rIxS:R2:=fun x y H Q=>∃z i c,x=.str z/\y=.int i/\z.length<=sizeLine/\atI z.cps.toList i=some c/\Q (.str ⟨#[c]⟩) H
theorem Qf:IxR X (rIxL X.K):=by
 intro value slice pins s σ H x y v u Q I rx ry h hs;obtain⟨p,xs,i,z,rfl,rfl,hq,he,q⟩:=h;cases rx;obtain⟨t,rfl⟩:=ry;obtain⟨its,r,pl,hz⟩:=I.list hq;obtain⟨j,h1,h2,h3,h4,h5⟩:=zdN he;obtain⟨w,ew,rw'⟩:=r.get h2;have hl:=r.length;have hn:=Ql;have fin:EP X pins σ Q w s:=⟨z,H,I,rw',q⟩
 by_cases h0:0<=i
 ·have hj:i.toNat=j:=by
   rw[seqIndex_of h0 h5]at h1;exact Option.some.inj h1
  exact item_listR pl.isList h0 (by lia) (by rw[hj];simpa using ew) fin hs
 ·have hj:(i+(its.toArray.size:Int)).toNat=j:=by
   rw[seqIndex_neg (by lia) h4]at h1
   rw[List.size_toArray,<- hl];exact Option.some.inj h1
  exact subscriptTail_builtinR (x:=w) pl.isList.typeIs slot_list_getitem.lookup
   (wpAny_getItem_list_neg (Q:=fun r s'=>r=w/\EP X pins σ Q r s') pl.isList (by lia) (by rw[List.size_toArray] <;> lia) (by lia) (by rw[hj];simpa using ew) ⟨rfl,fin⟩) hs
theorem zkm:IxR X (rIxT X.K):=by
 intro value slice pins s σ H x y v u Q I rx ry h hs;obtain⟨p,xs,i,z,rfl,rfl,hq,he,q⟩:=h;cases rx;obtain⟨t,rfl⟩:=ry;obtain⟨its,r,pl,hz⟩:=I.tuple hq;obtain⟨j,h1,h2,h3,h4,h5⟩:=zdN he;obtain⟨w,ew,rw'⟩:=r.get h2;have hl:=r.length;have hn:=Ql;have fin:EP X pins σ Q w s:=⟨z,H,I,rw',q⟩;exact subscriptTail_builtinR (x:=w) pl.typeIs slot_tuple_getitem.lookup
  (getItem_tuple (j:=j) (Q:=fun r s'=>r=w/\EP X pins σ Q r s') pl (by lia) (by lia) (by rw[List.size_toArray,<- hl];exact h1) (by simpa using ew) ⟨rfl,fin⟩) hs
theorem zkn:IxR X rIxS:=by
 intro value slice pins s σ H x y v u Q I rx ry h hs;obtain⟨z,i,c,rfl,rfl,hz,he,q⟩:=h;obtain⟨t,rfl⟩:=rx;obtain⟨t',rfl⟩:=ry;obtain⟨j,h1,h2,h3,h4,h5⟩:=zdN he;have hl:z.cps.toList.length=z.length:=by simp[Str.length]
 rw[hl]at h1 h4 h5;have hn:=Ql;exact tail_any (typeIs_str s z t) slot_str_getitem.lookup (getItem_str (c:=c) (by
  have e1:decide (i < -(2 ^ 63:Int))=false:=decide_eq_false (by lia)
  have e2:decide (i>=2 ^ 63)=false:=decide_eq_false (by lia)
  rw[e1,e2,Bool.or_false]) (by rw[h1];simpa using h2) ⟨.str ⟨#[c]⟩,H,I.tok _,⟨_,rfl⟩,q⟩) hs
def rIx(K:qF):R2:=fun x y H Q=>rIxL K x y H Q\/rIxT K x y H Q\/rIxS x y H Q
theorem zko:IxR X (rIx X.K):=Qf.or (zkm.or zkn)
theorem zeD(its:List Value)(n j:Nat)(u:Value):Obj.mapSeq (·.setIfInBounds j u) { cls:=.type "list",data:=.seq its.toArray n }={ cls:=.type "list",data:=.seq (its.set j u).toArray n }:=by
 simp[Obj.mapSeq]
theorem Inv.lst{pins:qO}{σ:St}{H:Hp}{s:Shared}{p:Addr}{xs:List V}(I:Inv X pins σ H s)(h:H p=some (.lst xs)) :
  ∃(its:List Value) (n:Nat),Vals xs its/\s.heap.get? p=some { cls:=.type "list",data:=.seq its.toArray n }/\xs.length<=sizeLine:=by
 obtain⟨z,its,n,r,e⟩:=I.hok p _ h;exact⟨its,n,r,e,z⟩
theorem Inv.lstUpd{pins:qO}{σ:St}{H:Hp}{s:Shared}{p:Addr}{xs ys:List V}{its its':List Value}{n n':Nat}{f:Obj->Obj}(I:Inv X pins σ H s)(h:H p=some (.lst xs))
  (ho:s.heap.get? p=some { cls:=.type "list",data:=.seq its.toArray n }) (hf:f { cls:=.type "list",data:=.seq its.toArray n }={ cls:=.type "list",data:=.seq its'.toArray n' }) (r:Vals ys its') (hz:ys.length<=sizeLine) (t:Nat) :
  Inv X pins σ (upd H p (.lst ys)) { s with heap:=s.heap.update p f,toks:=t }:=by
 have e:(s.heap.update p f).get? p=some { cls:=.type "list",data:=.seq its'.toArray n' }:=by
  rw[Heap.get?_update_self f ho (by rw[hf] <;> rfl),hf]
 refine I.write (x:=p) (e:=p) (by rw[h];trivial) (.inl rfl) (fun b u hb q=>(Heap.get?_update_other _ _ (Ne.symm hb)).trans q) ⟨_,e⟩ ?_
 exact⟨hz,its',n',r,e⟩
def zl_:V->V->V->Hp->(Hp->Prop)->Prop:=fun o i v H Q=>∃p xs k j,o=.ref p/\i=.int k/\H p=some (.lst xs)/\ixN xs.length k=some j/\Q (upd H p (.lst (xs.set j v)))
theorem set_list:PSet X zl_:=by
 intro pins s σ H o i v ov iv u Q I ro ri rv h;obtain⟨p,xs,k,j,rfl,rfl,hp,hj,q⟩:=h;cases ro;obtain⟨t,rfl⟩:=ri;obtain⟨its,n,r,ho,hz⟩:=I.lst hp;obtain⟨h1,h2,h3,h4⟩:=zfG hj;have hl:=r.length;have hn:=Ql;have I':Inv X pins σ (upd H p (.lst (xs.set j v))) { s with heap:=s.heap.update p (Obj.mapSeq (·.setIfInBounds j u)) } :=
  I.lstUpd hp ho (zeD its n j u) (r.set rv j) (by rw[List.length_set];exact hz) s.toks
 by_cases h0:0<=k
 ·have hk:k.toNat=j:=by
   rw[seqIndex_of h0 h4]at h1;exact Option.some.inj h1
  exact PySem.W.ki_setAt ho h0 (by lia) (by rw[List.size_toArray,<- hl];exact h4) (by rw[hk];exact⟨_,I',q⟩)
 ·have hk:(k+(its.toArray.size:Int)).toNat=j:=by
   rw[seqIndex_neg (by lia) h3]at h1
   rw[List.size_toArray,<- hl];exact Option.some.inj h1
  exact PySem.W.ki_setBack ho (by lia) (by rw[List.size_toArray,<- hl];exact h3) (by lia) (by rw[hk];exact⟨_,I',q⟩)
theorem zdk:Jw X (.builtin "len") (fun xs H Q=>∃p ys,xs=[.ref p]/\(SqL X.K H p ys\/SqT X.K H p ys)/\Q (.int ys.length) H):=by
 intro pins s σ H xs us Q I r h;obtain⟨p,ys,rfl,hq,q⟩:=h;obtain⟨u,rfl,rx⟩:=vals1 r;cases rx;have hn:=Ql;rcases hq with hq|hq
 ·obtain⟨its,r',pl,hz⟩:=I.list hq;have hlen:=r'.length;exact Calls.call_len_list pl.isList (by simp only[List.size_toArray] <;> lia) ⟨.int ys.length,H,I.tok _,⟨s.toks+1,by rw[List.size_toArray,hlen]⟩,q⟩
 ·obtain⟨its,r',pl,hz⟩:=I.tuple hq;have hlen:=r'.length;exact len_tuple pl (by simp only[List.size_toArray] <;> lia) ⟨.int ys.length,H,I.tok _,⟨s.toks+1,by rw[List.size_toArray,hlen]⟩,q⟩
theorem zcN:Jw X (.type "tuple") (fun xs H Q=>∃p ys,xs=[.ref p]/\((SqL X.K H p ys/\∀l,H l=none->Q (.ref l) (upd H l (.tup ys)))\/(SqT X.K H p ys/\Q (.ref p) H))):=by
 intro pins s σ H xs us Q I r h;obtain⟨p,ys,rfl,h⟩:=h;obtain⟨u,rfl,rx⟩:=vals1 r;cases rx;rcases h with⟨hq,q⟩|⟨hq,q⟩
 ·obtain⟨its,r',pl,hz⟩:=I.list hq;have hlen:=r'.length;refine call_tuple_list pl.isList (fun h' kp=>?_) (by simp only[List.size_toArray] <;> lia)
  have I1:Inv X pins σ H { s with heap:=h' }:=I.kept (t':=s.toks) kp
  have I2:Inv X pins σ (upd H h'.objs.size (.tup ys)) { s with heap:=h'.push { cls:=.type "tuple",data:=.seq its.toArray } } :=
   I1.laid (t':=s.toks) (fun b o e=>Heap.get?_push_of_some _ e) (Nat.le_refl _) (show Jm X.prog X.w _ _ _ (.tup ys) from⟨hz,its,r',IsTD.new _ _⟩)
  exact⟨.ref h'.objs.size,_,I2,rfl,q _ (I1.hok.fresh (Nat.le_refl _))⟩
 ·obtain⟨its,r',pl,hz⟩:=I.tuple hq;exact call_tuple_same pl ⟨.ref p,H,I,rfl,q⟩
def tyV(K:qF)(T:String)(x:V)(H:Hp):Prop:=match x with
 | .str _=>T = "str"
 | .int _=>T = "int"
 | .ref p=>(T = "list" /\ ∃xs,SqL K H p xs)\/(T = "tuple" /\ ∃o,K.lookup p=some o/\o.cls=.type "tuple" /\ o.dict=none) \/
   (T = "dict" /\ ((∃kvs,H p=some (.dK kvs))\/∃kvs,H p=some (.dT kvs)))\/(T = "set" /\ ∃S n,H p=some (.set S n))
 | _=>False
theorem zjk{pins:qO}{σ:St}{H:Hp}{s:Shared}{T:String}{x:V}{v:Value}(I:Inv X pins σ H s)(r:RelV x v)(ty:tyV X.K T x H) :
  s.TypeIs v T/\∀a,v=.ref a->∃ob,s.heap.get? a=some ob/\ob.dict=none:=by
 cases x with
 | str z =>
  obtain⟨t,rfl⟩:=r;cases(show T = "str" from ty)
  exact⟨typeIs_str s z t,fun _ e=>nomatch e⟩
 | int i =>
  obtain⟨t,rfl⟩:=r;cases(show T = "int" from ty)
  exact⟨typeIs_int s i t,fun _ e=>nomatch e⟩
 | ref p =>
  cases r;rcases ty with⟨rfl,xs,hq⟩|⟨rfl,o,hk,hc,hd⟩|⟨rfl,hk⟩|⟨rfl,S,n,hk⟩
  ·obtain⟨its,_,pl,_⟩:=I.list hq;refine⟨pl.isList.typeIs,fun a e=>?_⟩
   cases e;obtain⟨o,n,e,c,hd,_⟩:=pl;exact⟨o,e,hd⟩
  ·refine⟨⟨o,I.kIn p o hk,hc⟩,fun a e=>?_⟩
   cases e;exact⟨o,I.kIn _ o hk,hd⟩
  ·have z:∃o,s.heap.get? p=some o/\o.ExactDict:=by
    rcases hk with⟨kvs,hk⟩|⟨kvs,hk⟩
    ·obtain⟨_,_,_,_,o,_,_,e,ex,_⟩:=I.hok p _ hk;exact⟨o,e,ex⟩
    ·obtain⟨_,_,_,_,o,_,_,e,ex,_⟩:=I.hok p _ hk;exact⟨o,e,ex⟩
   obtain⟨o,e,ex⟩:=z;refine⟨⟨o,e,ex.1⟩,fun a e2=>?_⟩
   cases e2;exact⟨o,e,ex.2.1⟩
  ·obtain⟨o,_,_,_,e,ex,_⟩:=I.hok p _ hk;refine⟨⟨o,e,ex.1⟩,fun a e2=>?_⟩
   cases e2;exact⟨o,e,ex.2.1⟩
 | _=>exact False.elim ty
def tBM(K:qF)(T:String)(r:V->List V->Hp->VK->Prop)(to:TE)(t:TA):TE:=fun σ H Q=>to σ H fun x H1=>tyV K T x H1/\t σ H1 fun xs H2=>r x xs H2 Q
variable{o e:Expr}{es:List Expr}{to:TE}{t:TA}{name:Str}{apos cpos:Pos}{T id:String}{r:V->List V->Hp->VK->Prop}
theorem zmd(pa:PlainAttrs T)(slot:Slot T name id)(hty:typeOf (.builtin id)=pure (.type "method_descriptor")) (hm:MtR X id r) (ho:PE X o to) (ha:PA X (e::es) t)
  (hbase:attributeBase o name X.env (eval o X.env)=eval o X.env:=by rfl)
  (hfew:((backTo cpos (starEach (e::es) X.env)).all (fun x=>!x.1)&&(backToKw cpos (keywordEach [] X.env)).all (fun x=>x.1.isSome)
   && decide ((e::es).length+([]:List Keyword).length+(if ([]:List Keyword).isEmpty then 0 else 1)<30))=true:=by rfl)
  (hline:(apos.endLine == cpos.line)=true:=by rfl) (hs:starEach (e::es) X.env=(false,eval e X.env)::starEach es X.env:=by rfl) (hplain:(backTo cpos (starEach es X.env)).any (·.1)=false:=by rfl) :
  PE X (.Call (.Attribute o name apos) (e::es) [] cpos) (tBM X.K T r to t):=by
 intro pins s σ H Q I h;refine wpAny_Call_method_late hbase hfew hline rfl (thn (ho pins s σ H _ I h) fun v s1 ⟨x,H1,I1,r1,ty,q1⟩=>?_)
 obtain⟨h1,h2⟩:=zjk I1 r1 ty;refine⟨T,id,pa,slot,hty,h1,h2,?_⟩;have hA:=ha cpos pins s1 σ H1 _ I1 q1;rw[hs]at hA ⊢;refine Calls.callWith_builtin (by show(false||(backTo cpos (starEach es X.env)).any (·.1))=false;rw[hplain] <;> rfl) (Calls.evalArgs_plain ?_)
 exact thn hA fun us s2 ⟨vs,H2,I2,r2,q2⟩=>hm pins s2 σ H2 x vs v us Q I2 r1 r2 q2
end
def MtM(X:Cx)(id:String)(r:V->List V->Hp->VK->Prop):Prop :=
 ∀(pins:qO) (s:Shared) (σ:St) (H:Hp) (x:V) (xs:List V) (v:Value) (us:List Value) (Q:VK),Inv X pins σ H s->RelV x v->Vals xs us->r x xs H Q ->
  wpAny (model X.prog X.w) X.A (call (.builtin id) (v::us)) (EP X pins σ Q) X.xe s
theorem Vals.one{x:V}{us:List Value}(h:Vals [x] us):∃u,us=[u]/\RelV x u:=by
 cases h with
 | cons r t=>cases t;exact⟨_,rfl,r⟩
section
variable{X:Cx}{pins:qO}{σ:St}{H:Hp}{s:Shared}{l b:Addr}{xs ys zs:List V}
theorem Inv.lset{its its':List Value}{n:Nat}{f:Array Value->Array Value}{t':Nat}(I:Inv X pins σ H s)(hH:H l=some (.lst xs))
  (e:s.heap.get? l=some { cls:=.type "list",data:=.seq its.toArray n }) (hf:f its.toArray=its'.toArray) (hv:Vals ys its') (hz:ys.length<=sizeLine) :
  Inv X pins σ (upd H l (.lst ys)) { s with heap:=s.heap.update l (Obj.mapSeq f),toks:=t' }:=by
 have q:=PySem.IsL.update e f;rw[hf]at q;refine I.write (x:=l) (e:=l) (by rw[hH];exact trivial) (.inl rfl) (fun b' u hb hu=>(Heap.get?_update_other s.heap (Obj.mapSeq f) (Ne.symm hb)).trans hu) ⟨_,q⟩ ?_
 exact⟨hz,its',_,hv,q⟩
theorem Inv.lnew{its:List Value}{t':Nat}(I:Inv X pins σ H s)(hv:Vals ys its)(hz:ys.length<=sizeLine) :
  Inv X pins σ (upd H s.heap.objs.size (.lst ys)) { s with heap:=s.heap.push { cls:=.type "list",data:=.seq its.toArray },toks:=t' } :=
 I.laid (fun _ _ q=>Heap.get?_push_of_some _ q) (Nat.le_refl _) ⟨hz,its,0,hv,Heap.get?_push_size _ rfl⟩
theorem Inv.fresh(I:Inv X pins σ H s):H s.heap.objs.size=none:=I.hok.fresh (Nat.le_refl _)
theorem Inv.lstM(I:Inv X pins σ H s)(hH:H l=some (.lst xs)):xs.length<=sizeLine/\∃(its:List Value) (n:Nat),Vals xs its/\xs.length=its.length/\s.heap.get? l=some { cls:=.type "list",data:=.seq its.toArray n }:=by
 obtain⟨z,its,n,r,e⟩:=I.hok l _ hH;exact⟨z,its,n,r,r.length,e⟩
end
section
variable{X:Cx}
def zhW:V->List V->Hp->VK->Prop:=fun x vs H Q=>∃l xs y,x=.ref l/\vs=[y]/\H l=some (.lst xs)/\xs.length<sizeLine/\Q .non (upd H l (.lst (xs++[y])))
theorem zc7:MtM X "list.append" zhW:=by
 intro pins s σ H x vs v us Q I rx rv h;obtain⟨l,xs,y,rfl,rfl,hH,hz,q⟩:=h;cases rx;obtain⟨u,rfl,ru⟩:=rv.one;obtain⟨z,its,n,r,hl,e⟩:=I.lstM hH;refine call_meets F.slot_list_append ⟨_,e,rfl⟩ F.entry_list_append (F.args_list_append_2 _ _) (PySem.list_append l its.toArray n u (by rw[List.size_toArray];lia)) ⟨e,?_⟩
 refine⟨.non,_,I.lset (its':=its++[u]) hH e (by simp) (r.append (.cons ru .nil)) ?_,rfl,q⟩
 rw[List.length_append,List.length_singleton];lia
def rCat:R2:=fun x y H Q=>∃l b xs zs,x=.ref l/\y=.ref b/\H l=some (.lst xs)/\H b=some (.lst zs)/\xs.length+zs.length<=sizeLine/\∀p,H p=none->Q (.ref p) (upd H p (.lst (xs++zs)))
theorem zj2:OpR X (binaryOp .Add) rCat:=by
 intro pins s σ H x y v u Q I rx ry h;obtain⟨l,b,xs,zs,rfl,rfl,hH,hB,hz,q⟩:=h;cases rx;cases ry;obtain⟨z,its,n,r,hl,e⟩:=I.lstM hH;obtain⟨z2,its2,n2,r2,hl2,e2⟩:=I.lstM hB;refine PySem.P.add_list e e2 ?_ (by rw[List.size_toArray,List.size_toArray];lia)
 have ea:its.toArray++its2.toArray=(its++its2).toArray:=by simp
 rw[ea];exact⟨.ref _,_,I.lnew (t':=s.toks) (r.append r2) (by rw[List.length_append];lia),rfl,q _ I.fresh⟩
end
end L2
namespace Att
open PySem PySem.W PySem.Calls PyProof.Rows
theorem zb2{P:Params}{h:Heap}:∀(ns:List Int) (vs:List Value),WellAll P h vs (ns.map WData.int)->IntsAre vs ns:=by
 intro ns;induction ns with
 | nil =>
  intro vs w;rw[List.map_nil]at w;cases w;exact .nil
 | cons n ns ih =>
  intro vs w;rw[List.map_cons]at w;cases w with
  | cons a b =>
   cases a;exact .cons _ _ (ih _ b)
theorem ze7{l:OpenLaw}{n:Nat}(hn:l.most=some n){P:Params}{h:Heap}{args:List WData}{vals:List Value}
  (hpre:l.row.toRowW.claim.pre args=true) (hwl:WellAll P h vals args) :
  ∃a vs ns,vals=[Value.ref a]/\args=[WData.list (ns.map WData.int)]/\h.get? a=some { cls:=.type "list",data:=.seq vs.toArray }/\IntsAre vs ns/\ns.length<=n:=by
 have hsh:WShape.hasAll [] args [.list .int]=true:=(pre_splitW hpre).1;have hc:l.pre.holds [] { args:=args }=true:=(pre_splitW hpre).2;obtain⟨d,r,rfl,h1,h2⟩:=hasAllW_cons hsh;obtain rfl:=hasAllW_nil h2;obtain⟨xs,rfl,h3⟩:=hasW_list h1;obtain⟨ns,rfl⟩:=items_int h3;have hlen:ns.length<=n:=by
  unfold OpenLaw.pre at hc;have h4:(WTm.not (.lt (.lit (.int (n:Int))) (.len (.arg 0)))).holds [] { args:=[.list (ns.map .int)] }=true:=by
   have h4:=(holds_andW hc).1;rw[hn]at h4;exact h4
  have h5:=condW_of h4 (w_not (w_lt w_lit (w_len_list (w_arg rfl))));rw[List.length_map]at h5;refine Nat.le_of_not_lt fun q=>?_
  have q':(n:Int)<((ns.length:Nat):Int):=by lia
  first
   | (rw[decide_eq_true q']at h5;exact absurd h5 (by decide))
   | (simp at h5;lia)
 cases hwl with
 | cons w1 w2 =>
  cases w2;cases w1 with
  | list ho hall=>exact⟨_,_,ns,rfl,rfl,ho,zb2 ns _ hall,hlen⟩
theorem zfh(l:OpenLaw)(args:List WData):l.row.toRowW.claim.post args (.bool true) args=true :=
 postW_of (r:=l.row.toRowW) (X:=(true == true))
  (show WShape.has [] (.bool true) .bool=true by first|rfl|decide|simp[WShape.has,WShape.arms,WShape.armsAll])
  (show(WTm.eq .res (.lit (.bool true))).value [] { args:=args,res:=some (.bool true),after:=args }=some (.bool (true == true)) from w_eq_bool (w_res rfl) w_lit) rfl
theorem attach_call{l:OpenLaw}{n:Nat}{q:Program}{loose:List Str}{XP:(Str->Option Value)->Heap->Prop}{YP:World->Heap->Prop}{d:DefRec}
  (hn:l.most=some n) (hdf:d.params.defaults=[])
  (call:∀(w:World) (s₀ s₁:Shared) (mg mb:qM) (fa:Addr) (o:Obj) (pm cd doc:Value) (a:Addr) (vs:List Value) (ns:List Int),
   Ground q loose [] XP w s₀ mg mb s₁.heap->YP w s₁.heap ->
   s₁.heap.get? fa=some o->o.data=.func (docDef d.name d.params d.body d.scope pm cd doc)->s₁.heap.CodeRec cd d.name->mg d.name=some (.ref fa) ->
   s₁.heap.get? a=some { cls:=.type "list",data:=.seq vs.toArray }->IntsAre vs ns->ns.length<=n->s₁.gens=#[] ->
   codeAny (model l.prog w) callerA (.call (.ref fa) ⟨[.ref a],[]⟩) (fun r s'=>r=.ok (.ret (.bool true))/\OldK s₁.heap s'.heap/\s'.os=s₁.os/\AllBare s'.gens) s₁) :
  WalkO q loose XP YP l.row.toRowW d [] (fun f vs=>PySem.call f vs):=by
 intro w s₀ s₁ mg mb G Y fa o pm cd doc dV kV ho hd hcd hD hmg hg args vals as hpre hlay hrd hwl hlo;obtain rfl:dV=.none:=Dflts.none hD hdf;obtain rfl:kV=.none:=Dflts.noKw hD;obtain⟨a,vs,ns,rfl,rfl,hobj,hints,hlen⟩:=ze7 hn hpre hwl;refine enter_call (codeAny_mono (call w s₀ s₁ mg mb fa o pm cd doc a vs ns G Y ho (fd_plain hd) hcd hmg hobj hints hlen hg) fun r s' hq=>?_)
 obtain⟨rfl,h2,h3,h4⟩:=hq;exact⟨.inl ⟨.bool true,.bool true,[],rfl,fun _=>rfl,.bool true,zfh l _,fun _=>⟨List.Pairwise.nil,fun _ hm=>(nomatch hm)⟩⟩,h2,h3,h4⟩
section
variable{prog:Program}{w:World}{A:Around}{E:qV}{s:Shared}{K:Frag}
def Uz(h:Heap):Heap:={ h with objs:=#[] }
theorem UQ(h:Heap)(b:Addr):(Uz h).get? b=none:=by
 cases e:(Uz h).get? b with
 | none=>rfl
 | some o=>exact absurd (Heap.lt_size e) (Nat.not_lt_zero _)
def ledger(h:Heap)(L d:Addr):List (Addr×Obj):=(List.range h.objs.size).filterMap fun a=>if a=L\/a=d then none else(h.get? a).map fun o=>(a,o)
theorem zeC{h:Heap}{L d a:Addr}{o:Obj}:(a,o)∈ledger h L d↔a≠L/\a≠d/\h.get? a=some o:=by
 unfold ledger;rw[List.mem_filterMap];constructor
 ·rintro⟨b,_,e⟩;split at e
  ·cases e
  ·rename_i hb;obtain⟨o',ho,e'⟩:=Option.map_eq_some_iff.mp e;cases e';exact⟨fun q=>hb (.inl q),fun q=>hb (.inr q),ho⟩
 ·rintro⟨n1,n2,ho⟩;refine⟨a,List.mem_range.mpr (Heap.lt_size ho),?_⟩;rw[if_neg (show ¬(a=L\/a=d) from fun q=>q.elim n1 n2),ho] <;> rfl
theorem zkR{h:Heap}{L:Addr}{m:qM}(n:h.Ns L m):Fr (Uz h) L h m :=
 ⟨n,fun b o e=>(by rw[UQ]at e;cases e),Nat.zero_le _⟩
end
end Att
namespace L2
open PySem PySem.Spec PyProof.Rows
theorem zcQ:∀{vs:List Value}{ns:List Int},IntsAre vs ns->Vals (ns.map V.int) vs
 | _,_,.nil=>.nil
 | _,_,.cons n t h=>.cons ⟨t,rfl⟩ (zcQ h)
def JP(s:Stmt):Arguments:=match s with
 | .FunctionDef _ a _ _ _ _ _ _ _ _=>a
 | _=>{ posonlyargs:=[],args:=[],vararg:=none,kwonlyargs:=[],kw_defaults:=[],kwarg:=none,defaults:=[] }
def Jx(s:Stmt):List Stmt:=match s with
 | .FunctionDef _ _ b _ _ _ _ _ _ _=>b
 | _=>[]
def Jj(s:Stmt):Scope:=match s with
 | .FunctionDef _ _ _ _ _ _ sc _ _ _=>sc
 | _=>{ kind:=.function,names:=[],isGenerator:=false,isCoroutine:=false }
abbrev CX0:CXT:=fun _ _ _ _ _ _=>False
abbrev E0:XK:=fun _ _ _=>False
theorem zjP{X:Cx}:Uk CX0 X E0:=fun _ _ _ _ _ _ _ h=>h.elim
structure Fun(K:qF)(x qual:Str)(st:Stmt)(f:Addr)(fd:FuncData):Prop where
 ex:∃(oc:Value) (od:Option Addr) (kV doc pm:Value) (an:Option Addr) (cdv ct:Value) (osl:Array (Option Value)),
  fd=PySem.W.fnOf x qual (JP st) (Jx st) (Jj st) .none kV doc pm an cdv ct/\K.lookup f=some ⟨oc,od,.func fd,osl⟩/\PySem.W.codeIn K cdv qual=true
 kp:PySem.W.keepIn K (.ref f)=true
section
variable{P:Program}{w:World}{K:qF}{mg:qM}{base:Heap}
theorem Fun.ok{x qual:Str}{st:Stmt}{f:Addr}{fd:FuncData}{N ps:List Str}{k:Nat}{sp:Sp}(F:Fun K x qual st f fd)(S:JJ N ps (Jj st))(len:∀vs H Q E,sp vs H Q E->vs.length=ps.length)
  (hbody:∀(cdv:Value) (A:Around) (outer:List Env) (s:Shared) (H:Hp) (vs:List V) (Q:VK) (E:XK),Room k (A.deeper (envOfC qual (Jj st) s.heap.objs.size f cdv))->sp vs H Q E ->
   ∃t,PSs (cxOf CX0 P w K mg base N qual (Jj st) f cdv A outer s H E).nox (Jx st) t/\t { nx:=fun _ H'=>Q .non H',rt:=Q } (start N vs) H):FnOk P w K mg base CX0 (k+1) f fd ps sp:=by
 obtain⟨oc,od,kV,doc,pm,an,cdv,ct,osl,rfl,lk,hcd⟩:=F.ex;refine zkT lk hcd S len fun A outer s H vs Q E hr hsp=>?_
 obtain⟨t,h,q⟩:=hbody cdv A outer s H vs Q E hr hsp;exact⟨t,h.nox,q⟩
theorem Fun.binds{x qual:Str}{st:Stmt}{f:Addr}{fd:FuncData}{ps:List Str}(F:Fun K x qual st f fd)
  (h:∀(kV doc pm:Value) (an:Option Addr) (cdv ct:Value) (us:List Value),us.length=ps.length->bindArgs (PySem.W.fnOf x qual (JP st) (Jx st) (Jj st) .none kV doc pm an cdv ct) ⟨us,[]⟩=pure (ps.zip us)):Binds K fd ps []:=by
 obtain⟨oc,od,kV,doc,pm,an,cdv,ct,osl,rfl,lk,hcd⟩:=F.ex;exact .all (h kV doc pm an cdv ct)
theorem zhw{x qual:Str}{st:Stmt}{f:Addr}{oc:Value}{od an:Option Addr}{osl:Array (Option Value)}{kV doc pm cdv ct:Value}(l:K.lookup f=some ⟨oc,od,.func (PySem.W.fnOf x qual (JP st) (Jx st) (Jj st) .none kV doc pm an cdv ct),osl⟩)
  (c:PySem.W.codeIn K cdv qual=true) (k:PySem.W.keepIn K (.ref f)=true):Fun K x qual st f (PySem.W.fnOf x qual (JP st) (Jx st) (Jj st) .none kV doc pm an cdv ct):=⟨⟨oc,od,kV,doc,pm,an,cdv,ct,osl,rfl,l,c⟩,k⟩
end
section
variable{X:Cx}
theorem pv(i:Nat){x:Str}{pos:Pos}(hN:X.N[i]?=some x:=by rfl)(hv:Vis X.env.scope x:=by walk_at "V")(hd:(x == ("__debug__":Str))=false:=by decide)
  (hcd:(x == ("__classdict__":Str))=false:=by decide):PE X (.Name x pos) (tVar i):=J1 hN hv hd hcd
end
theorem iteF{A B:Prop}(h:B):if false=true then A else B:=by
 rw[if_neg Bool.false_ne_true];exact h
theorem iteT{A B:Prop}(h:A):if true=true then A else B:=by
 rw[if_pos rfl];exact h
def Same(H H':Hp):Prop:=∀b o,H b=some o->H' b=some o
theorem Same.refl(H:Hp):Same H H:=fun _ _ h=>h
theorem Same.trans{H H1 H2:Hp}(a:Same H H1)(b:Same H1 H2):Same H H2:=fun c o h=>b c o (a c o h)
def closed(env:Env):List (Str×NameKind)->List (Str×Addr)->List (Str×Addr)
 | [],acc=>acc
 | (n,k)::r,acc=>closed env r (if (k == .free)=true then(n,(env.cells.lookup n).getD 0)::acc else acc)
theorem zca{env:Env}:∀(l:List (Str×NameKind)) (acc:List (Str×Addr)),(∀x∈l,x.2=.free->∃c,env.cells.lookup x.1=some c) ->
  (forIn l acc fun x __s=>if (x.snd == NameKind.free)=true then do
    let c <- cellOf env x.fst
    pure (ForInStep.yield ((x.fst,c)::__s))
   else pure (ForInStep.yield __s):Sem (List (Str×Addr)))=pure (closed env l acc)
 | [],acc,_=>rfl
 | (n,k)::r,acc,h=>by
  have ih:=fun a=>zca (env:=env) r a fun x hx=>h x (List.mem_cons_of_mem _ hx)
  rw[List.forIn_cons]
  by_cases e:(k == NameKind.free)=true
  ·obtain⟨c,hc⟩:=h (n,k) List.mem_cons_self (by simpa using e)
   have hc':List.lookup n env.cells=some c:=hc;have e2:cellOf env n=pure c:=by unfold cellOf;rw[hc']
   simp only[e,if_true,e2,pure_bind];rw[ih]
   conv=>rhs;unfold closed
   simp only[e,if_true,hc',Option.getD_some]
  ·have e0:(k == NameKind.free)=false:=by simpa using e
   simp only[e0,Bool.false_eq_true,if_false,pure_bind];rw[ih]
   conv=>rhs;unfold closed
   simp only[e0,Bool.false_eq_true,if_false]
theorem zaN{scope:Scope}{env:Env}(h:∀x∈scope.names,x.2=.free->∃c,env.cells.lookup x.1=some c):closureFor scope env=pure (closed env scope.names []):=by
 simp only[closureFor];rw[zca scope.names [] h]
 rfl
theorem UO{env:Env}:∀(l:List (Str×NameKind)) (acc:List (Str×Addr)),(∀x∈l,x.2=.free->∃c,env.cells.lookup x.1=some c) ->
  (∀x c,acc.lookup x=some c->env.cells.lookup x=some c)->∀x c,(closed env l acc).lookup x=some c->env.cells.lookup x=some c
 | [],acc,_,ha=>ha
 | (n,k)::r,acc,h,ha=>by
  unfold closed;refine UO r _ (fun x hx=>h x (List.mem_cons_of_mem _ hx)) fun x c=>?_
  by_cases e:(k == NameKind.free)=true
  ·obtain⟨d,hd⟩:=h (n,k) List.mem_cons_self (by simpa using e)
   have hd':List.lookup n env.cells=some d:=hd;simp only[e,if_true,hd',Option.getD_some];intro q;rw[List.lookup_cons]at q
   by_cases ex:(x == n)=true
   ·simp only[ex]at q;have ex':x=n:=by simpa using ex
    cases q;rw[ex'];exact hd'
   ·have ex2:(x == n)=false:=by simpa using ex
    simp only[ex2]at q;exact ha x c q
  ·have e0:(k == NameKind.free)=false:=by simpa using e
   simp only[e0,Bool.false_eq_true,if_false];exact ha x c
theorem zcq{env:Env}:∀(l:List (Str×NameKind)) (acc:List (Str×Addr)) (x:Str),(∃c,acc.lookup x=some c)->∃c,(closed env l acc).lookup x=some c
 | [],_,_,h=>h
 | (n,k)::r,acc,x,h=>by
  unfold closed;refine zcq r _ x ?_
  by_cases e:(k == NameKind.free)=true
  ·simp only[e,if_true];rw[List.lookup_cons];cases(x == n) with
   | true=>exact⟨_,rfl⟩
   | false=>exact h
  ·have e0:(k == NameKind.free)=false:=by simpa using e
   simp only[e0,Bool.false_eq_true,if_false];exact h
theorem zbt{env:Env}:∀(l:List (Str×NameKind)) (acc:List (Str×Addr)) (x:Str),(x,NameKind.free)∈l->∃c,(closed env l acc).lookup x=some c
 | [],_,_,h=>nomatch h
 | (n,k)::r,acc,x,h=>by
  unfold closed;rcases List.mem_cons.mp h with e|h
  ·cases e;refine zcq r _ _ ?_;have hh:(NameKind.free == NameKind.free)=true:=rfl;simp only[hh,if_true];rw[List.lookup_cons];simp
  ·exact zbt r _ x h
theorem lookup_mem{α:Type}{l:List (Str×α)}{x:Str}{v:α}(h:l.lookup x=some v):(x,v)∈l:=by
 induction l with
 | nil=>simp at h
 | cons p r ih =>
  obtain⟨n,w⟩:=p;rw[List.lookup_cons]at h
  by_cases e:(x == n)=true
  ·simp only[e]at h;cases h;have e':x=n:=by simpa using e
   rw[e'];exact List.mem_cons_self
  ·have e2:(x == n)=false:=by simpa using e
   simp only[e2]at h;exact List.mem_cons_of_mem _ (ih h)
def Qa(env:Env)(p:Str×NameKind):Str×NameKind:=if (p.2 == NameKind.free&&env.scope.kind == .function&&env.kindOf p.1 == some .cell)=true then(p.1,.cell) else p
theorem zfb(env:Env)(p:Str×NameKind):(Qa env p).1=p.1:=by
 unfold Qa
 by_cases c:(p.2 == NameKind.free&&env.scope.kind == .function&&env.kindOf p.1 == some .cell)=true
 ·rw[if_pos c]
 ·rw[if_neg c]
def kin(env:Env)(x:Str):Option NameKind->Option NameKind
 | some .free=>if (env.scope.kind == .function&&env.kindOf x == some .cell)=true then some .cell else some .free
 | o=>o
theorem zfa(env:Env)(x:Str)(k:NameKind):some (Qa env (x,k)).2=kin env x (some k):=by
 unfold Qa
 by_cases c:(k == NameKind.free&&env.scope.kind == .function&&env.kindOf x == some .cell)=true
 ·rw[if_pos c];rw[Bool.and_eq_true,Bool.and_eq_true]at c;have k':k=.free:=by simpa using c.1.1
  subst k';unfold kin;rw[if_pos (by rw[Bool.and_eq_true];exact⟨c.1.2,c.2⟩)]
 ·rw[if_neg c];cases k with
  | free =>
   have:¬(env.scope.kind == .function&&env.kindOf x == some .cell)=true:=fun z=>c (by
    have hh:(NameKind.free == NameKind.free)=true:=rfl;rw[hh,Bool.true_and];exact z)
   unfold kin;rw[if_neg this]
  | _=>rfl
theorem zcy(scope:Scope)(env:Env):(relabel scope env).names=scope.names.map (Qa env):=by
 show scope.names.map _=_
 refine List.map_congr_left fun p _=>?_
 obtain⟨n,k⟩:=p
 rfl
theorem zcl(env:Env):∀(l:List (Str×NameKind)) (x:Str),(l.map (Qa env)).lookup x=kin env x (l.lookup x)
 | [],_=>rfl
 | (n,k)::r,x=>by
  have ih:=zcl env r x;have e0:Qa env (n,k)=(n,(Qa env (n,k)).2):=Prod.ext (zfb env (n,k)) rfl;rw[List.map_cons,e0,List.lookup_cons,List.lookup_cons]
  by_cases e:(x == n)=true
  ·have e':x=n:=by simpa using e
   subst e';simp only[beq_self_eq_true];exact zfa env x k
  ·have e2:(x == n)=false:=by simpa using e
   simp only[e2];exact ih
theorem zbu(scope:Scope)(env:Env)(x:Str):(relabel scope env).names.lookup x=kin env x (scope.names.lookup x):=by
 rw[zcy];exact zcl env _ x
abbrev capN(X:Cx)(capt:List Nat):List Str:=capt.map fun i=>X.N.getD i Str.empty
abbrev capS(capt:List Nat)(σ:St):St:=capt.map fun i=>σ.getD i none
abbrev Jo(own:List Str):St:=own.map fun _=>none
abbrev Jc(X:Cx)(scope:Scope)(own:List Str)(capt:List Nat)(C:Addr)(s₀:Shared)(H₀:Hp)(fp:List Addr):Cx :=
 { X with N:=own++capN X capt,s₀:=s₀,H₀:=H₀,env:=compEnvC scope (closed X.env scope.names []) C X.env,outer:=X.stack,stack:=X.stack,ex:=fp,fn:=fun _=>false,pn:=[],xe:=fun _ _=>False }
structure Jz(scope:Scope)(own:List Str)(capt:List Nat)(X:Cx):Prop where
 kind:scope.kind=.function
 nocell:∀y∈scope.names,y.2≠.cell
 names:∀y∈scope.names,y.2=.local->scope.names.lookup y.1=some .local
 frees:∀y∈scope.names,y.2=.free->X.env.kindOf y.1=some .cell\/X.env.kindOf y.1=some .free
 caps:∀k∈capt,scope.names.lookup (X.N.getD k Str.empty)=some .free
theorem getD_some{α:Type}{l:List (Option α)}{k:Nat}{v:α}(h:l.getD k none=some v):l[k]?=some (some v):=by
 rw[List.getD_eq_getElem?_getD]at h;cases e:l[k]? with
 | none=>rw[e]at h;cases h
 | some o=>rw[e]at h;simp at h;rw[h]
section
variable{X:Cx}{scope:Scope}{own:List Str}{capt:List Nat}
theorem Jz.cells(S:Jz scope own capt X)(ok:X.Ok):∀x∈scope.names,x.2=.free->∃c,X.env.cells.lookup x.1=some c:=fun x hx hf=>ok.has x.1 (S.frees x hx hf)
theorem ziZ{pins:qO}{σ:St}{H₀:Hp}{s₀:Shared}{C:Addr}{fp:List Addr}(S:Jz scope own capt X)(I:Inv X pins σ H₀ s₀)(hf:∀b∈fp,FpOk X pins H₀ b)(hfp:∀b∈fp,b<s₀.heap.objs.size)(hC:s₀.heap.objs.size<=C) :
  (Jc X scope own capt C s₀ H₀ fp).Ok:=by
 have sub:=UO scope.names [] (S.cells I.ok) (fun x c h=>nomatch (show(none:Option Addr)=some c from h))
 refine⟨I.ok.mod,S.kind,I.ok.glob,I.ok.blt,hC,fun x y c h1 h2=>I.ok.inj x y c (sub x c h1) (sub y c h2),fun x hk=>?_,fun x c z=>absurd (show false=true from z) Bool.false_ne_true,I.ok.hd,I.ok.frames,.inl rfl,fun b hb=>?_,I.bs,Nat.le_trans I.ok.bsz I.sz,fun b o e hb=>?_,fun b hb z=>?_,I.stack,I.stkFree⟩
 ·have e:=zbu scope X.env x;have hk':(relabel scope X.env).names.lookup x=some .cell\/(relabel scope X.env).names.lookup x=some .free:=hk;rw[e]at hk';cases q:scope.names.lookup x with
  | none=>rw[q]at hk';rcases hk' with z|z <;> cases z
  | some k =>
   rw[q]at hk';cases k with
   | free=>exact zbt scope.names [] x (lookup_mem q)
   | cell=>exact absurd rfl (S.nocell _ (lookup_mem q))
   | _=>rcases hk' with z|z <;> cases z
 ·obtain⟨f0,f1,f2,f3,f4,f5⟩:=hf b hb;exact⟨Nat.ne_of_lt (Nat.lt_of_lt_of_le (hfp b hb) hC),fun x c e=>f4 x c (sub x c e)⟩
 ·obtain⟨f0,f1,f2,f3,f4,f5⟩:=hf b hb;rcases f3 with z|z
  ·exact I.ok.noex b o e z
  ·exact absurd (Nat.lt_of_lt_of_le (Heap.lt_size (I.ok.bs b o e).1) z) (Nat.lt_irrefl _)
 ·obtain⟨f0,f1,f2,f3,f4,f5⟩:=hf b hb;rcases List.mem_cons.mp (I.stkSub b z) with q|q
  ·exact f1 q
  ·exact f2 q
theorem zf1{ho':HO}{pins:qO}{σ:St}{H₀:Hp}{s₀:Shared}{fp:List Addr}{h':Heap}{D C:Addr}{tk:Nat}(S:Jz scope own capt X)(I:Inv X pins σ H₀ s₀)(hf:∀b∈fp,FpOk X pins H₀ b)(hfp:∀b∈fp,b<s₀.heap.objs.size)
  (hD:s₀.heap.objs.size<=D) (hC:s₀.heap.objs.size<=C) (hDC:D≠C) (old:∀b o,s₀.heap.get? b=some o->h'.get? b=some o) (hns:h'.Ns C (fun _=>none)) (ho:Jm X.prog X.w (upd H₀ D ho') h' D ho') :
  Inv (Jc X scope own capt C s₀ H₀ fp) [] (Jo own++capS capt σ) (upd H₀ D ho') { s₀ with heap:=h',toks:=tk }:=by
 have ok:=ziZ S I hf hfp hC;have sub:=UO scope.names [] (S.cells I.ok) (fun x c h=>nomatch (show(none:Option Addr)=some c from h))
 have hn:H₀ D=none:=I.hok.fresh hD;refine⟨ok,rfl,I.bare,Un.laid old hD hn,⟨_,hns,fun i x v e1 e2 e3=>?_⟩,fun x c e=>?_,?_,fun x c e=>?_,fun p hp=>absurd (show p∈([]:qO) from hp) (by simp),I.hok.laid (o:=ho') old hD ho,(by show(Jo own++capS capt σ).length=(own++capN X capt).length;simp[Jo,capS,capN])⟩
 ·have hlen:(Jo own).length=own.length:=List.length_map ..
  by_cases hi:i<own.length
  ·rw[List.getElem?_append_left (by rw[hlen];exact hi)]at e2
   unfold Jo at e2;rw[List.getElem?_map]at e2;cases q:own[i]? with
   | none=>rw[q]at e2;cases e2
   | some z=>rw[q]at e2;cases e2
  ·have hi':own.length<=i:=Nat.le_of_not_lt hi;have e1':(own++capN X capt)[i]?=some x:=e1;rw[List.getElem?_append_right hi']at e1';rw[List.getElem?_append_right (by rw[hlen];exact hi'),hlen]at e2
   unfold capN at e1';unfold capS at e2;rw[List.getElem?_map]at e1' e2;cases q:capt[i - own.length]? with
   | none=>rw[q]at e1';cases e1'
   | some k =>
    rw[q]at e1' e2;have ex:X.N.getD k Str.empty=x:=Option.some.inj e1';have ev:σ.getD k none=some v:=Option.some.inj e2;have hk:k∈capt:=List.mem_of_getElem? q;have hv:=getD_some ev;have hlt:k<X.N.length:=by
     rw[<- I.len];exact(List.getElem?_eq_some_iff.mp hv).1
    have hx:X.N[k]?=some x:=by
     rw[List.getD_eq_getElem?_getD,List.getElem?_eq_getElem hlt]at ex;rw[List.getElem?_eq_getElem hlt];exact congrArg some ex
    have hfree:=S.caps k hk;rw[ex]at hfree;have hkind:=S.frees _ (lookup_mem hfree) rfl;obtain⟨m,hm,hl⟩:=I.loc;have vis:Vis X.env.scope x:=by
     rcases hkind with z|z
     ·exact .inr (.inl z)
     ·exact .inr (.inr z)
    obtain⟨u,r,l⟩:=hl k x v hx hv vis;refine⟨u,r,.inr ⟨?_,?_⟩⟩
    ·have e:=zbu scope X.env x;rw[hfree]at e;show(relabel scope X.env).names.lookup x=some .cell\/(relabel scope X.env).names.lookup x=some .free
     rw[e];unfold kin
     by_cases c:(X.env.scope.kind == .function&&X.env.kindOf x == some .cell)=true
     ·rw[if_pos c];exact .inl rfl
     ·rw[if_neg c];exact .inr rfl
    ·rcases l with⟨z,_⟩|⟨_,c,hc,hcell⟩
     ·rcases hkind with y|y <;> (have y':X.env.kindOf x=_:=y;rw[z]at y';cases y')
     ·obtain⟨d,hd⟩:=zbt (env:=X.env) scope.names [] x (lookup_mem hfree);have:=sub x d hd;rw[hc]at this;cases this;obtain⟨o,ho,hod⟩:=hcell;exact⟨c,hd,o,old _ _ ho,hod⟩
 ·obtain⟨v,o,ho,hd⟩:=I.cell x c (sub x c e);exact⟨v,o,old _ _ ho,hd⟩
 ·show upd H₀ D ho' C=none
  rw[Ja (Ne.symm hDC)];exact I.hok.fresh hC
 ·obtain⟨v,o,ho,hd⟩:=I.cell x c (sub x c e);show upd H₀ D ho' c=none
  rw[Ja (Nat.ne_of_lt (Nat.lt_of_lt_of_le (Heap.lt_size ho) hD))];exact I.freeC x c (sub x c e)
theorem zhc{pins:qO}{σ:St}{H₀:Hp}{s₀:Shared}{fp:List Addr}{h':Heap}{D C:Addr}{tk:Nat}(S:Jz scope own capt X)(I:Inv X pins σ H₀ s₀)(hf:∀b∈fp,FpOk X pins H₀ b)(hfp:∀b∈fp,b<s₀.heap.objs.size)
  (hD:s₀.heap.objs.size<=D) (hC:s₀.heap.objs.size<=C) (hDC:D≠C) (old:∀b o,s₀.heap.get? b=some o->h'.get? b=some o) (hns:h'.Ns C (fun _=>none)) (hacc:h'.get? D=some { cls:=.type "list",data:=.seq ([]:List Value).toArray 0 }) :
  Inv (Jc X scope own capt C s₀ H₀ fp) [] (Jo own++capS capt σ) (upd H₀ D (.lst [])) { s₀ with heap:=h',toks:=tk }:=zf1 S I hf hfp hD hC hDC old hns ⟨Nat.zero_le _,[],0,.nil,hacc⟩
theorem zhb{pins pins':qO}{σ σ':St}{H₀ H':Hp}{s₀ s':Shared}{fp:List Addr}{h'':Heap}{C:Addr}(I:Inv X pins σ H₀ s₀)(hf:∀b∈fp,FpOk X pins H₀ b)(hC:s₀.heap.objs.size<=C)
  (J:Inv (Jc X scope own capt C s₀ H₀ fp) pins' σ' H' s') (sb:Heap.SameBut C s'.heap h''):Inv X pins σ H' { s' with heap:=h'' }:=by
 have hCn:H' C=none:=J.free;have neC:∀b o,s₀.heap.get? b=some o->b≠C:=fun b o e=>Nat.ne_of_lt (Nat.lt_of_lt_of_le (Heap.lt_size e) hC)
 have u:Un (frs X.stack) fp H₀ H' s₀.heap s'.heap:=J.base;have u2:Un (frs X.stack) fp H₀ H' s₀.heap h'':=by
  refine⟨fun b o q n h1 h2=>(sb.2 b (neC b o q)).trans (u.keep b o q n h1 h2),fun b o q n h1 h2=>?_,u.free,fun b o q h2=>?_,u.tups,u.frzs,u.tbls⟩
  ·obtain⟨sl,e⟩:=u.slot b o q n h1 h2;exact⟨sl,(sb.2 b (neC b o q)).trans e⟩
  ·obtain⟨o',e⟩:=u.there b o q h2;exact⟨o',(sb.2 b (neC b o q)).trans e⟩
 have hok:HOk X.prog X.w H' h'':=fun b ob e=>by
  refine(J.hok b ob e).stay (fun c v hc q=>(sb.2 c ?_).trans q) (fun _ q=>q) (fun _ _ q=>q) fun _ _ _ q=>q
  rintro rfl;rcases hc with z|z
  ·subst z;rw[hCn]at e;cases e
  ·rw[hCn]at z;cases z
 refine I.call' (s':={ s' with heap:=h'' }) J.os u2 hok J.bare fun b hb=>?_
 obtain⟨f0,f1,f2,f3,f4,f5⟩:=hf b hb;exact⟨f3,f1,f4,f5⟩
end
def PTs(Y:Cx)(ifs:List Expr)(t:TT):Prop :=
 ∀(pins:qO) (s:Shared) (σ:St) (H:Hp) (Q:Bool->Hp->Prop),Inv Y pins σ H s->t σ H Q ->
  wpAny (model Y.prog Y.w) Y.A (forIn ifs true fun c r=>if r=true then do let ok <- isTrue c Y.env (eval c Y.env);pure (ForInStep.yield ok) else pure (ForInStep.yield r)) (TP Y pins σ Q) Y.xe s
def tYes:TT:=fun _ H Q=>Q true H
theorem zh0{Y:Cx}:PTs Y [] tYes:=fun _ _ _ H _ I h=>wpAny_tests_nil ⟨H,I,h⟩
theorem zhZ{Y:Cx}{c:Expr}{t:TT}(h:PT Y c t):PTs Y [c] t:=fun pins s σ H Q I q=>wpAny_tests_one (h pins s σ H Q I q)
abbrev NoX:Value->Shared->Prop:=fun _ _=>False
theorem zeL{prog:Program}{w:World}{A:Around}{R:Result->Shared->Prop}{s:Shared}{elt target iter:Expr}{ifs:List Expr}{scope:Scope}{pos:Pos}{it acc:Value}{env:Env}(I:Nat->Shared->Prop)
  (turn:∀n s,I n s->wpAny (model prog w) A (pyNext it) (fun r s₁=>match r with
   | none=>R (.ok .next) s₁
   | some v=>wpAny (model prog w) A (letOwnedTupleGo target it v) (fun _ s₂=>wpAny (model prog w) A (assign target env v) (fun _ s₃ =>
     wpAny (model prog w) A (forIn ifs true fun c r=>if r=true then do let ok <- isTrue c env (eval c env);pure (ForInStep.yield ok) else pure (ForInStep.yield r)) (fun ok s₄ =>
      if ok=true then wpAny (model prog w) A (eval elt env) (fun x s₅=>wpAny (model prog w) A (call (.builtin "list.append") [acc,x]) (fun _ s₆=>∃m,m<n/\I m s₆) NoX s₅) NoX s₄
      else ∃m,m<n/\I m s₄) NoX s₃) NoX s₂) NoX s₁) NoX s) (n:Nat) (h:I n s) :
  codeAny (model prog w) A (.compLoop (.ListComp elt [⟨target,iter,ifs,0⟩] scope pos) 0 it acc env) R s:=by
 refine codeAny_loop rfl I (fun n s hI=>?_) n h
 show wpAny _ A ((compTurn (.ListComp elt [⟨target,iter,ifs,0⟩] scope pos) 0 it acc env).onRaise (fun x=>do noteFrame x env;theTreesLotGoes x)) _ _ s
 refine wpAny_noted (wpAny_mono (E:=NoX) ?_ (fun _ _ q=>q) fun _ _ z=>False.elim z)
 rw[compTurn_list];refine wpAny_bind (wpAny_standAt (wpAny_bind (thn (turn n s hI) fun r s₁ h₁=>?_)))
 cases r with
 | none=>exact wpAny_pure h₁
 | some v =>
  refine wpAny_bind (thn h₁ fun _ s₂ h₂=>wpAny_bind (thn h₂ fun _ s₃ h₃=>wpAny_bind (thn h₃ fun ok s₄ h₄=>?_)))
  cases ok with
  | false=>exact wpAny_pure ⟨rfl,h₄⟩
  | true =>
   refine wpAny_bind (wpAny_bind (thn h₄ fun x s₅ h₅=>wpAny_bind (thn h₅ fun _ s₆ h₆=>?_)))
   exact wpAny_pure (wpAny_pure ⟨rfl,h₆⟩)
def Wk:St->St->Prop
 | [],[]=>True
 | none::r,_::r'=>Wk r r'
 | some v::r,o::r'=>o=some v/\Wk r r'
 | _,_=>False
theorem Wk.weak:∀{σ σ':St},Wk σ σ'->σ.length=σ'.length/\∀(i:Nat) v,σ[i]?=some (some v)->σ'[i]?=some (some v)
 | [],[],_=>⟨rfl,fun _ _ h=>by simp at h⟩
 | none::r,o::r',h=>by
  obtain⟨a,b⟩:=Wk.weak (σ:=r) (σ':=r') h;refine⟨by simp[a],fun i v e=>?_⟩
  cases i with
  | zero=>simp at e
  | succ i=>simpa using b i v (by simpa using e)
 | some w::r,o::r',h=>by
  obtain⟨h0,h1⟩:o=some w/\Wk r r':=h;obtain⟨a,b⟩:=Wk.weak h1;refine⟨by simp[a],fun i v e=>?_⟩
  cases i with
  | zero=>rw[h0];simpa using e
  | succ i=>simpa using b i v (by simpa using e)
 | none::_,[],h=>False.elim h
 | some _::_,[],h=>False.elim h
 | [],_::_,h=>False.elim h
def zi9(own:List Str)(capt:List Nat)(g:TG)(tt:TT)(te:TE)(σ:St)(J:It)(H1:Hp)(D:Addr)(Q:VK):Prop:=∃W:Nat->Nat->Hp->Prop,(∃m,W 0 m (upd H1 D (.lst [])))/\∀i m H2,W i m H2 ->
 (J.stop i H2/\Q (.ref D) H2)\/(J.go i H2/\∃(N:V->Hp->Prop) (N':Hp->Prop),(∀v H6,N v H6->∃ys,H6 D=some (.lst ys)/\ys.length<sizeLine/\∃m',m'<m/\W (i+1) m' (upd H6 D (.lst (ys++[v]))))/\(∀H5,N' H5->∃m',m'<m/\W (i+1) m' H5) /\
  ∀x H3,J.yld i H2 x H3->g x (Jo own++capS capt σ) H3 fun σ4 H4=>Wk (Jo own++capS capt σ) σ4/\tt σ4 H4 fun b H5=>if b=true then te σ4 H5 N else N' H5)
def tComp(own:List Str)(capt:List Nat)(wi:TI)(g:TG)(tt:TT)(te:TE):TE:=fun σ H Q=>wi σ H fun J H1=>∀D,H1 D=none->zi9 own capt g tt te σ J H1 D Q
def CompI(Y:Cx)(pins:qO)(σ:St)(fp:List Addr)(tn:Nat->Heap->Prop)(W:Nat->Nat->Hp->Prop)(n:Nat)(s':Shared):Prop:=∃i H',Inv Y pins σ H' s'/\tn i s'.heap/\(∀b∈fp,H' b=none)/\W i n H'
theorem zgh{Y:Cx}{tg:Expr}{ifs:List Expr}{g:TG}{tt:TT}(hxe:Y.xe=NoX)(hc:Y.calm=true)(hg:PG Y tg g)(ht:PTs Y ifs tt){pins:qO}{σ:St}{it:Addr}{fp:List Addr}{tn:Nat->Heap->Prop}{J:It}(T:Turn Y.prog Y.w Y.K tg J fp it tn)
  (stat:∀{H':Hp},(∀b∈fp,H' b=none)->∀b∈fp,FpOk Y pins H' b) {W:Nat->Nat->Hp->Prop} {n i:Nat} {s4:Shared} {H4:Hp} {Dn AC:Shared->Prop} (I4:Inv Y pins σ H4 s4) (st4:tn i s4.heap) (fr4:∀b∈fp,H4 b=none)
  (h:(J.stop i H4/\∀s5,Inv Y pins σ H4 s5->Dn s5)\/(J.go i H4/\∃(NT:St->Hp->Prop) (NF:Hp->Prop),(∀{p6 σ7 H8 s8},Inv Y (pins++p6) σ7 H8 s8->NT σ7 H8->(∀{s9 H9 m'},Inv Y (pins++p6) σ7 H9 s9->m'<n->W (i+1) m' H9->∃m,m<n/\CompI Y pins σ fp tn W m s9)->AC s8) /\
   (∀H5,NF H5->∃m',m'<n/\W (i+1) m' H5)/\∀x H3,J.yld i H4 x H3->g x σ H3 fun σ4 H5=>Wk σ σ4/\tt σ4 H5 fun b H6=>if b=true then NT σ4 H6 else NF H6)) :
  wpAny (model Y.prog Y.w) Y.A (pyNext (.ref it)) (fun r s₁=>match r with
   | none=>Dn s₁
   | some v=>wpAny (model Y.prog Y.w) Y.A (letOwnedTupleGo tg (.ref it) v) (fun _ s₂=>wpAny (model Y.prog Y.w) Y.A (assign tg Y.env v) (fun _ s₃ =>
     wpAny (model Y.prog Y.w) Y.A (forIn ifs true fun c r=>if r=true then do let ok <- isTrue c Y.env (eval c Y.env);pure (ForInStep.yield ok) else pure (ForInStep.yield r)) (fun ok s₄ =>
      if ok=true then AC s₄ else ∃m,m<n/\CompI Y pins σ fp tn W m s₄) NoX s₃) NoX s₂) NoX s₁) NoX s4:=by
 rcases h with⟨stop,dn⟩|⟨go,NT,NF,hT,hF,step⟩
 ·refine thn (T.done Y rfl rfl rfl hc i pins s4 _ H4 NoX I4 (stat fr4) st4 stop) fun r s5 ⟨hr,I5⟩=>?_
  subst hr;exact dn s5 I5
 ·refine thn (T.item Y rfl rfl rfl hc i pins s4 _ H4 NoX I4 (stat fr4) st4 go) fun r s5 ⟨u,hr,h5⟩=>?_
  subst hr;refine thn h5 fun _ s6 ⟨x,H6,I6,r6,y6,st6,fr6⟩=>?_
  have I6':=I6.pinned (stat fr6) (T.obj _ _ st6);have a1:=hg _ s6 _ H6 x u _ I6' r6 (step x H6 y6);rw[hxe]at a1;refine thn a1 fun _ s7 ⟨σ7,H7,I7,wk,q7⟩=>?_
  obtain⟨wl,wv⟩:=wk.weak;have again:∀{s8:Shared} {H8:Hp} {m':Nat},Inv Y (pins++QP fp s6.heap) σ7 H8 s8->m'<n->W (i+1) m' H8->∃m,m<n/\CompI Y pins σ fp tn W m s8:=fun {s8 H8 m'} I8 hm w8=>by
   refine⟨m',hm,i+1,H8,(I8.unpinned).weak wl wv,T.keep _ _ _ st6 fun b hb o e=>(I8.pin (b,o) (List.mem_append_right _ (List.mem_append_right _ (UP hb e)))).1,fun b hb=>?_,w8⟩
   obtain⟨o,e,d⟩:=T.obj _ _ st6 b hb;exact(I8.pin (b,o) (List.mem_append_right _ (List.mem_append_right _ (UP hb e)))).2.1
  have a2:=ht _ s7 σ7 H7 _ I7 q7;rw[hxe]at a2;refine thn a2 fun ok s8 ⟨H8,I8,q8⟩=>?_
  cases ok with
  | false =>
   obtain⟨m',hm,w8⟩:=hF H8 (by simpa using q8)
   exact again I8 hm w8
  | true=>exact hT I8 (by simpa using q8) again
section
variable{X:Cx}{scope:Scope}{own:List Str}{capt:List Nat}{elt tg iter:Expr}{ifs:List Expr}{pos:Pos}{wi:TI}{g:TG}{tt:TT}{te:TE}
theorem zfY(S:Jz scope own capt X){pins:qO}{σ:St}{H2:Hp}{s2:Shared}{fp:List Addr}{C:Addr}(I2:Inv X pins σ H2 s2)(f2:∀b∈fp,FpOk X pins H2 b)(hfp:∀b∈fp,b<s2.heap.objs.size)(hCle:s2.heap.objs.size<=C){H':Hp}(hn:∀b∈fp,H' b=none):∀b∈fp,FpOk (Jc X scope own capt C s2 H2 fp) [] H' b:=fun b hb=>by
 obtain⟨g0,g1,g2,g3,g4,g5⟩:=f2 b hb;have sub:=UO scope.names [] (S.cells I2.ok) (fun x c h=>nomatch (show(none:Option Addr)=some c from h))
 refine⟨hn b hb,Nat.ne_of_lt (Nat.lt_of_lt_of_le (hfp b hb) hCle),fun z=>?_,.inl hb,fun x c e=>g4 x c (sub x c e),fun p hp=>absurd (show p∈([]:qO) from hp) (by simp)⟩
 rcases List.mem_cons.mp (I2.stkSub b z) with q|q
 ·exact g1 q
 ·exact g2 q
theorem zf0(S:Jz scope own capt X){pins:qO}{σ:St}{R:It->Hp->Prop}{itv:Value}{s2:Shared}{E:qV}{CA:Value->Env->Shared->Prop}(h2:PIE X pins σ tg R itv s2)
  (k:∀(it:Addr) (fp:List Addr) (tn:Nat->Heap->Prop) (J:It) (H2:Hp) (D C:Addr) (h₁:Heap),itv=.ref it->Turn X.prog X.w X.K tg J fp it tn->R J H2->H2 D=none->tn 0 h₁->(∀b∈fp,upd H2 D (.lst []) b=none) ->
   (∀tk,Inv (Jc X scope own capt C s2 H2 fp) [] (Jo own++capS capt σ) (upd H2 D (.lst [])) { s2 with heap:=h₁,toks:=tk })->(∀{H':Hp},(∀b∈fp,H' b=none)->∀b∈fp,FpOk (Jc X scope own capt C s2 H2 fp) [] H' b) ->
   (∀s5 H4,Inv (Jc X scope own capt C s2 H2 fp) [] (Jo own++capS capt σ) H4 s5->(∃m,s5.heap.Ns C m)/\(∀h'',Heap.SameBut C s5.heap h''->Inv X pins σ H4 { s5 with heap:=h'' })/\H4 C=none/\FpOk X pins H4 C) ->
   CA (.ref D) (compEnvC scope (closed X.env scope.names []) C X.env) { s2 with heap:=h₁ }) :
  wpAny (model X.prog X.w) X.A (newList []) (fun acc s₃=>wpAny (model X.prog X.w) X.A (newFunctionEnv scope X.env.globals (closed X.env scope.names []) [] X.env.qual none .none (some X.env)) (fun cenv s₄=>CA acc { cenv with scope:=relabel scope X.env } s₄) E s₃) E s2:=by
 obtain⟨it,fp,tn,J,H2,e,I2,T,st2,f2,rd⟩:=h2;have hfp:∀b∈fp,b<s2.heap.objs.size:=fun b hb=>by
  obtain⟨o,e,_⟩:=T.obj 0 _ st2 b hb;exact Heap.lt_size e
 refine wpAny_newObj_type (wpAny_newFunctionEnv S.nocell (by intro y hy;simp at hy) (fun h₁ hns₁ hsb₁=>?_) S.kind)
 dsimp only at hns₁ hsb₁ ⊢;generalize hH3:s2.heap.push { cls:=.type "list",dict:=none,data:=.seq ([]:List Value).toArray }=H3 at hns₁ hsb₁ ⊢;have hC:H3.objs.size=s2.heap.objs.size+1:=by rw[<- hH3,Heap.size_push]
 have hDC:s2.heap.objs.size≠H3.objs.size:=by rw[hC];exact Nat.ne_of_lt (Nat.lt_succ_self _)
 have hCle:s2.heap.objs.size<=H3.objs.size:=by rw[hC];exact Nat.le_succ _
 have neC:∀b o,s2.heap.get? b=some o->b≠H3.objs.size:=fun b o e=>Nat.ne_of_lt (Nat.lt_of_lt_of_le (Heap.lt_size e) hCle)
 have old:∀b o,s2.heap.get? b=some o->h₁.get? b=some o:=fun b o e=>hsb₁.extBut b o (neC b o e) (Heap.get?_push_of_some _ (hH3▸Heap.get?_push_of_some _ e))
 have hacc:h₁.get? s2.heap.objs.size=some { cls:=.type "list",data:=.seq ([]:List Value).toArray 0 }:=hsb₁.extBut _ _ hDC (Heap.get?_push_of_some _ (hH3▸Heap.get?_push_size _ rfl));refine k it fp tn J H2 s2.heap.objs.size H3.objs.size h₁ e T rd (I2.hok.fresh (Nat.le_refl _)) (T.keep _ _ _ st2 fun b hb o e=>old b o e) (fun b hb=>by rw[Ja (Nat.ne_of_lt (hfp b hb))];exact(f2 b hb).1)
  (fun tk=>zhc (tk:=tk) S I2 f2 hfp (Nat.le_refl _) hCle hDC old hns₁ hacc) (zfY S I2 f2 hfp hCle) (fun s5 H4 I5=>?_)
 obtain⟨m,hn,_⟩:=I5.loc;exact⟨⟨m,hn⟩,fun h'' sb=>zhb I2 f2 hCle I5 sb,I5.free,I2.fpOk hCle I5.free⟩
theorem zei(hc:X.calm=true)(S:Jz scope own capt X)
  (hg:∀C s₀ H₀ fp,PG (Jc X scope own capt C s₀ H₀ fp) tg g) (ht:∀C s₀ H₀ fp,PTs (Jc X scope own capt C s₀ H₀ fp) ifs tt) (he:∀C s₀ H₀ fp,PE (Jc X scope own capt C s₀ H₀ fp) elt te)
  {pins:qO} {σ:St} {Q:VK} {itv:Value} {s2:Shared} {E:qV} {RR:Value->Addr->Result->Shared->Prop}
  (h2:PIE X pins σ tg (fun J H1=>∀D,H1 D=none->zi9 own capt g tt te σ J H1 D Q) itv s2)
  (hR:∀D C s' H',(∃m,s'.heap.Ns C m)->(∀h'',Heap.SameBut C s'.heap h''->Inv X pins σ H' { s' with heap:=h'' })->H' C=none->FpOk X pins H' C->Q (.ref D) H'->RR (.ref D) C (.ok .next) s') :
  wpAny (model X.prog X.w) X.A (newList []) (fun acc s₃=>wpAny (model X.prog X.w) X.A (newFunctionEnv scope X.env.globals (closed X.env scope.names []) [] X.env.qual none .none (some X.env)) (fun cenv s₄ =>
   codeAny (model X.prog X.w) X.A (.compStart (.ListComp elt [⟨tg,iter,ifs,0⟩] scope pos) 0 itv acc { cenv with scope:=relabel scope X.env }) (RR acc cenv.locals) s₄) E s₃) E s2:=by
 refine zf0 (CA:=fun acc cenv s₄=>codeAny (model X.prog X.w) X.A (.compStart (.ListComp elt [⟨tg,iter,ifs,0⟩] scope pos) 0 itv acc cenv) (RR acc cenv.locals) s₄) S h2 fun it fp tn J H2 D C h₁ e T rd hnD st1 fr0 J0 stat out=>?_
 subst e;obtain⟨W,⟨m0,w0⟩,turn⟩:=rd _ hnD;have loop:∀tk:Tok,codeAny (model X.prog X.w) X.A (.compLoop (.ListComp elt [⟨tg,iter,ifs,0⟩] scope pos) 0 (.ref it) (.ref D) (compEnvC scope (closed X.env scope.names []) C X.env)) (RR (.ref D) C) { s2 with heap:=h₁,toks:=tk }:=fun tk=>by
  refine zeL (CompI (Jc X scope own capt C s2 H2 fp) [] (Jo own++capS capt σ) fp tn W) ?_ m0 ⟨0,_,J0 tk,st1,fr0,w0⟩;rintro n s4 ⟨i,H4,I4,st4,fr4,w4⟩;refine zgh (Y:=Jc X scope own capt C s2 H2 fp) rfl hc (hg _ _ _ _) (ht _ _ _ _) T stat I4 st4 fr4 ?_;rcases turn i n H4 w4 with⟨stop,qn⟩|⟨go,N,N',hN,hN',step⟩
  ·exact .inl ⟨stop,fun s5 I5=>let ⟨o1,o2,o3,o4⟩:=out s5 H4 I5;hR _ _ s5 H4 o1 o2 o3 o4 qn⟩
  ·refine .inr ⟨go,fun σ4 H5=>te σ4 H5 N,N',fun {p6 σ7 H8 s8} I8 q8 again=>?_,hN',step⟩
   refine thn (he _ _ _ _ _ s8 σ7 H8 N I8 q8) fun y s9 ⟨v,H9,I9,r9,q9⟩=>?_
   obtain⟨ys,hD,hl,m',hm,w9⟩:=hN v H9 q9;refine thn (zc7 (X:=Jc X scope own capt C s2 H2 fp) _ s9 σ7 H9 (.ref D) [v] _ [y] (fun _ H'=>H'=upd H9 D (.lst (ys++[v]))) I9 rfl (.cons r9 .nil) ⟨_,ys,v,rfl,rfl,hD,hl,rfl⟩) fun _ s10 ⟨_,H10,I10,_,q10⟩=>?_
   subst q10;exact again I10 hm w9
 exact codeAny_compStart_list (loop _) (T.self X.A 0 _ _ _ st1 (loop _))
theorem zgx(hc:X.calm=true)(S:Jz scope own capt X)(hi:PI X tg iter wi)
  (hg:∀C s₀ H₀ fp,PG (Jc X scope own capt C s₀ H₀ fp) tg g) (ht:∀C s₀ H₀ fp,PTs (Jc X scope own capt C s₀ H₀ fp) ifs tt) (he:∀C s₀ H₀ fp,PE (Jc X scope own capt C s₀ H₀ fp) elt te)
  (hs:∀x,foldedSetIterable iter X.env x=pure x:=by intro _;rfl):PE X (.ListComp elt [⟨tg,iter,ifs,0⟩] scope pos) (tComp own capt wi g tt te):=by
 intro pins s σ H Q I h;rw[eval_ListComp];refine wpAny_comprehension_free (use:=none) rfl hs (zaN (S.cells I.ok)) S.kind S.names (thn (hi pins s σ H _ I h) fun v s1 h1=>thn h1 fun itv s2 h2=>?_)
 refine zei (RR:=fun acc C=>compPost (model X.prog X.w) X.A X.xe none (EP X pins σ Q) acc C) hc S hg ht he h2 fun D C s' H' hn J _ _ q=>?_
 obtain⟨m,hn⟩:=hn;exact⟨m,hn,fun h'' sb=>⟨.ref D,H',J h'' sb,rfl,q⟩⟩
theorem zff(hc:X.calm=true)(S:Jz scope own capt X)(hi:PI X tg iter wi)
  (hg:∀C s₀ H₀ fp,PG (Jc X scope own capt C s₀ H₀ fp) tg g) (ht:∀C s₀ H₀ fp,PTs (Jc X scope own capt C s₀ H₀ fp) ifs tt) (he:∀C s₀ H₀ fp,PE (Jc X scope own capt C s₀ H₀ fp) elt te)
  {i:Nat} {x:Str} {pos' spos:Pos} (hN:X.N.Nodup) (hxi:X.N[i]?=some x) (hx:Loc X.env.scope x)
  (hs:∀x,foldedSetIterable iter X.env x=pure x:=by intro _;rfl) (hsw:swapsWith (.ListComp elt [⟨tg,iter,ifs,0⟩] scope pos) (some (.Name x pos')) spos.line X.env=pure true:=by rfl)
  (hf:X.fn x=true\/X.env.scope.names.lookup x=some .local:=by walk_at "F") :
  PS X (.Assign [.Name x pos'] (.ListComp elt [⟨tg,iter,ifs,0⟩] scope pos) spos) (tAsg (tComp own capt wi g tt te) (Ui i)):=by
 intro pins s σ H D I h;rw[exec_Assign_Name_used _ _ _ _ hsw];refine wpAny_bind (wpAny_standAt (wpAny_bind ?_));show wpAny _ X.A (do let _ <- comprehension (.ListComp elt [⟨tg,iter,ifs,0⟩] scope pos) scope X.env _ (newList []) false (eval iter X.env) (some (assign (.Name x pos') X.env))) _ _ s
 refine wpAny_bind (wpAny_mono (wpAny_comprehension_free (use:=some (assign (.Name x pos') X.env)) (Q:=fun _ s'=>SP X pins D .next s') rfl hs (zaN (S.cells I.ok)) S.kind S.names (thn (hi pins s σ H _ I h) fun v s1 h1=>thn h1 fun itv s2 h2=>?_)) (fun _ s' hq=>wpAny_pure (wpAny_pure hq)) fun _ _ e=>e)
 refine zei (RR:=fun acc C=>compPost (model X.prog X.w) X.A X.xe (some (assign (.Name x pos') X.env)) (fun _ s'=>SP X pins D .next s') acc C) hc S hg ht he h2 fun D' C s' H' hn J hCn fp q=>?_
 obtain⟨m,hn⟩:=hn;obtain⟨f0,f1,f2,f3,f4,f5⟩:=fp;have Is:Inv X pins σ H' s':=J s'.heap (Heap.SameBut.refl _ _);refine wpAny_assign_Name (zcR Is hN hxi hx (show RelV (.ref D') (.ref D') from rfl) (fun s'' I'' sb=>?_) hf)
 obtain⟨a,sb,ha⟩:=sb;have neA:C≠a:=by
  rcases ha with rfl|ha
  ·exact f1
  ·exact fun z=>f4 x a ha z.symm
 have hn':s''.heap.Ns C m:=hn.sameBut sb neA;exact⟨m,hn',fun h' sb'=>⟨_,H',I''.turned (t':=s''.toks) (fun b o hb e=>(sb'.2 b hb).trans e) f0 f1 f3 f4 f5,q⟩⟩
end
theorem zfZ{J:It}{n:Nat}{own:List Str}{capt:List Nat}{g:TG}{tt:TT}{te:TE}{σ:St}{H1:Hp}{D:Addr}{Q:VK}(Pv:Nat->List V->Hp->Prop)(h0:Pv 0 [] (upd H1 D (.lst [])))
  (turn:∀i ys H2,i<n->H2 D=some (.lst ys)->Pv i ys H2->J.go i H2/\∀x H3,J.yld i H2 x H3->g x (Jo own++capS capt σ) H3 fun σ4 H4=>Wk (Jo own++capS capt σ) σ4/\tt σ4 H4 fun b H5 =>
   if b=true then te σ4 H5 (fun v H6=>∃zs,H6 D=some (.lst zs)/\zs.length<sizeLine/\Pv (i+1) (zs++[v]) (upd H6 D (.lst (zs++[v])))) else ∃zs,H5 D=some (.lst zs)/\Pv (i+1) zs H5)
  (stop:∀ys H2,H2 D=some (.lst ys)->Pv n ys H2->J.stop n H2/\Q (.ref D) H2) :
  zi9 own capt g tt te σ J H1 D Q:=by
 refine⟨fun i m H=>m=n - i/\i<=n/\∃ys,H D=some (.lst ys)/\Pv i ys H,⟨n,rfl,Nat.zero_le _,[],Jn,h0⟩,?_⟩
 rintro i m H2 ⟨rfl,hi,ys,hD,p⟩
 by_cases hlt:i<n
 ·obtain⟨go,st⟩:=turn i ys H2 hlt hD p;refine .inr ⟨go,_,_,?_,?_,st⟩
  ·rintro v H6 ⟨zs,e,l,q⟩;exact⟨zs,e,l,n - (i+1),by omega,rfl,hlt,_,Jn,q⟩
  ·rintro H5 ⟨zs,e,q⟩;exact⟨n - (i+1),by omega,rfl,hlt,zs,e,q⟩
 ·have e:i=n:=by omega
  subst e;exact .inl (stop ys H2 hD p)
def zb_(scope outer:Scope)(N:List Str)(capt:List Nat):Bool :=
 scope.kind == .function&&scope.names.all (fun y=>!(y.2 == .cell))&&scope.names.all (fun y=>!(y.2 == .local)||scope.names.lookup y.1 == some .local) &&
 scope.names.all (fun y=>!(y.2 == .free)||(outer.names.lookup y.1 == some .cell||outer.names.lookup y.1 == some .free))&&capt.all (fun k=>scope.names.lookup (N.getD k Str.empty) == some .free)
theorem Jz.of{X:Cx}{scope:Scope}{own:List Str}{capt:List Nat}(h:zb_ scope X.env.scope X.N capt=true):Jz scope own capt X:=by
 unfold zb_ at h;simp only[Bool.and_eq_true]at h;obtain⟨⟨⟨⟨h1,h2⟩,h3⟩,h4⟩,h5⟩:=h;rw[List.all_eq_true]at h2 h3 h4 h5;refine⟨by simpa using h1,fun y hy=>?_,fun y hy hl=>?_,fun y hy hf=>?_,fun k hk=>?_⟩
 ·simpa using h2 y hy
 ·have:=h3 y hy;rw[hl]at this;simpa using this
 ·have:=h4 y hy;rw[hf]at this;show X.env.scope.names.lookup y.1=some .cell\/X.env.scope.names.lookup y.1=some .free
  simpa using this
 ·simpa using h5 k hk
section
variable{X:Cx}
def kitB(t T:String):Option Bool:=if (Value.type t == Value.type T)=true then some true else if PySem.W.kitMeta T=true then(fastBuiltinMro t).map (·.contains (.type T)) else none
theorem Qy(K:qF)(t T:String):PySem.W.kitOne K (.type t) (.type T)=kitB t T:=rfl
inductive Ty (H:Hp):V->String->Prop where
 | non:Ty H .non "NoneType"
 | bl (x:Bool):Ty H (.bl x) "bool"
 | int (i:Int):Ty H (.int i) "int"
 | str (x:Str):Ty H (.str x) "str"
 | lst {a:Addr} {xs:List V} (e:H a=some (.lst xs)):Ty H (.ref a) "list"
 | tup {a:Addr} {xs:List V} (e:H a=some (.tup xs)):Ty H (.ref a) "tuple"
 | dK {a:Addr} {kvs:List (Key×V)} (e:H a=some (.dK kvs)):Ty H (.ref a) "dict"
theorem Ty.of{K:qF}{H:Hp}{v:V}{t:String}(h:Ty H v t):TyOf K H v (.type t):=by
 cases h with
 | non=>exact .non
 | bl x=>exact .bl x
 | int i=>exact .int i
 | str x=>exact .str x
 | lst e=>exact .lst e
 | tup e=>exact .tup e
 | dK e=>exact .dK e
theorem zhe:bootBuiltins "isinstance" = some (.builtin "isinstance"):=by decide +kernel
theorem boot_int:bootBuiltins "int" = some (.type "int"):=by decide +kernel
theorem zeN:bootBuiltins "bool" = some (.type "bool"):=by decide +kernel
theorem zdL:bootBuiltins "tuple" = some (.type "tuple"):=by decide +kernel
theorem UG:bootBuiltins "min" = some (.builtin "min"):=by decide +kernel
theorem zce:bootBuiltins "max" = some (.builtin "max"):=by decide +kernel
theorem zcf:bootBuiltins "len" = some (.builtin "len"):=by decide +kernel
mutual
inductive Qj (H:Hp):V->PyData->Prop
 | non:Qj H .non .none
 | bl (b:Bool):Qj H (.bl b) (.bool b)
 | int (i:Int):Qj H (.int i) (.int i)
 | str (x:Str):Qj H (.str x) (.str x)
 | lst {a:Addr} {xs:List V} {ds:qD}:H a=some (.lst xs)->QS H xs ds->Qj H (.ref a) (.list ds)
 | tup {a:Addr} {xs:List V} {ds:qD}:H a=some (.tup xs)->QS H xs ds->Qj H (.ref a) (.tuple ds)
inductive QS (H:Hp):List V->List PyData->Prop
 | nil:QS H [] []
 | cons {v:V} {vs:List V} {d:PyData} {ds:qD}:Qj H v d->QS H vs ds->QS H (v::vs) (d::ds)
end
def QF(i j:Int):Prop:=0<j/\j<2 ^ 128
theorem UK:OpR X (binaryOp .FloorDiv) (rI QF fun i j=>.int (i / j)):=opI fun i j _ _ _ _ _ hc q=>by
 have h1:(0:Int)<j:=hc.1;have h2:j<2 ^ 128:=hc.2;refine floordiv_int (by omega) (by rw[Int.fdiv_eq_ediv_of_nonneg i (by omega)];exact q) (.inl (PyProof.noPylong_of_log2 ?_))
 have h3:j.natAbs<2 ^ 128:=by omega
 have h4:j.natAbs.log2<128:=(Nat.log2_lt (by omega)).mpr h3
 omega
end
def Pl(X:Cx)(es:List Expr):Prop:=∀pos,(backTo pos (starEach es X.env)).any (·.1)=false
def Hd(X:Cx):List Expr->Prop
 | []=>True
 | e::r=>starEach (e::r) X.env=(false,eval e X.env)::starEach r X.env/\Pl X r
structure PB(X:Cx)(es:List Expr)(t:TA):Prop where
 pa:PA X es t
 pl:Pl X es
 hd:Hd X es
section
variable{X:Cx}{es:List Expr}{t:TA}{te:TE}
theorem JV:PB X [] tNil:=⟨zfm,fun _=>rfl,trivial⟩
theorem JE(h:PE X e te)(hr:PB X es t)(hs:starEach (e::es) X.env=(false,eval e X.env)::starEach es X.env):PB X (e::es) (JK te t) :=
 ⟨zdw h hr.pa hs,fun pos=>by
  rw[hs];have:(backTo pos ((false,eval e X.env)::starEach es X.env)).any (·.1)=(false||(backTo pos (starEach es X.env)).any (·.1)):=rfl
  rw[this,hr.pl pos];rfl,hs,hr.pl⟩
theorem pb_i{j pos}(hr:PB X es t):PB X (.Constant (.int i) j pos::es) (JK (tC (.int i)) t):=JE Ji hr rfl
theorem pb_v(i:Nat){x:Str}{pos:Pos}(hr:PB X es t)(hN:X.N[i]?=some x:=by rfl)(hv:Vis X.env.scope x:=by walk_at "V")(hd:(x == ("__debug__":Str))=false:=by rfl)
  (hcd:(x == ("__classdict__":Str))=false:=by rfl):PB X (.Name x pos::es) (JK (tVar i) t):=JE (J1 hN hv hd hcd) hr rfl
theorem zie(h:PE X (.Name x pos) te)(hr:PB X es t):PB X (.Name x pos::es) (JK te t):=JE h hr rfl
theorem zhn{a b c d}(h:PE X (.BinOp a b c d) te)(hr:PB X es t):PB X (.BinOp a b c d::es) (JK te t):=JE h hr rfl
theorem zjO{a b c d}(h:PE X (.Compare a b c d) te)(hr:PB X es t):PB X (.Compare a b c d::es) (JK te t):=JE h hr rfl
variable{e:Expr}{x:Str}{p pos:Pos}
theorem zh_{x1}(h:PB X es t):PE X (.Tuple es x1 pos) (tTup t):=zjM h.pa
theorem zfj(h:PB X es t):PE X (.List es pos) (tLst t):=zjN h.pa
theorem Uf{id:String}{r:List V->Hp->VK->Prop}(hc:Jw X (.builtin id) r)(hm:X.mg x=none)(hv:bootBuiltins x=some (.builtin id))(h:PB X (e::es) t)(hg:Gl X x:=by rfl)(hn:x ≠ "__name__":=by decide) (hdb:(x == ("__debug__":Str))=false:=by rfl) :
  PE X (.Call (.Name x p) (e::es) [] pos) (tCB r t):=zgA hc hg hm hv h.pa hn hdb h.hd.1 (h.hd.2 pos)
theorem Ug(hc:Jw X (.type T) r)(hm:X.mg x=none)(hv:bootBuiltins x=some (.type T))(h:PB X (e::es) t)(hg:Gl X x:=by rfl)(hn:x ≠ "__name__":=by decide) (hdb:(x == ("__debug__":Str))=false:=by rfl) :
  PE X (.Call (.Name x p) (e::es) [] pos) (tCB r t):=zfk hc hg hm hv h.pa hn hdb h.hd.1 (h.hd.2 pos)
end
end L2
namespace Bd
open PySem L2
structure Def(K:qF)(mg:qM)(x:Str)(st:Stmt)(ps:List Str)(f:Addr)(fd:FuncData):Prop where
 F:Fun K x x st f fd
 b:Binds K fd ps []
 m:mg x=some (.ref f)
section
variable{X:Cx}{k:Nat}{f:Addr}{fd:FuncData}{ps:List Str}{sp:Sp}{x:Str}{p pos:Pos}{e:Expr}{es:List Expr}{t:TA}{st:Stmt}
theorem zia(D:Def X.K X.mg x st ps f fd)(G:FnOk X.prog X.w X.K X.mg X.base CX0 k f fd ps sp)(hr:Room k X.A)(h:PB X (e::es) t)(hg:Gl X x:=by rfl)
  (hdb:(x == ("__debug__":Str))=false:=by rfl):PE X (.Call (.Name x p) (e::es) [] pos) (zhM sp [] E0 t):=zic G hr hg D.m D.F.kp D.b .nil zjP h.pa hdb h.hd.1 (h.hd.2 pos)
theorem zmc(hm:X.mg x=none)(hv:bootBuiltins x=some (.type T))(hg:Gl X x:=by rfl)(hn:x ≠ "__name__":=by decide) (hd:(x == ("__debug__":Str))=false:=by rfl):PE X (.Name x p) (tC (.ty T)) :=
 zid hg hm hv rfl hn hd
end
theorem iteP{c A B:Prop}[Decidable c](hc:c)(h:A):if decide c=true then A else B:=by
 rw[decide_eq_true hc];exact iteT h
theorem iteN{c A B:Prop}[Decidable c](hc:¬c)(h:B):if decide c=true then A else B:=by
 rw[decide_eq_false hc];exact iteF h
theorem zkp{c A B:Prop}[Decidable c](h1:c->A)(h2:¬c->B):if decide c=true then A else B:=by
 by_cases h:c
 ·exact iteP h (h1 h)
 ·exact iteN h (h2 h)
theorem zdM{α:Type}{xs:List α}{k:Int}{v:α}(h0:0<=k)(h:xs[k.toNat]?=some v):atI xs k=some v:=by
 obtain⟨n,rfl⟩:=Int.eq_ofNat_of_zero_le h0;exact zi4 h
theorem QB(k:Nat):(0:Int)<2 ^ k:=by
 have:(0:Nat)<2 ^ k:=Nat.two_pow_pos k;have e:((2 ^ k:Nat):Int)=(2:Int) ^ k:=by simp
 omega
theorem zcX(h:k<=64):(2:Int) ^ k<2 ^ 128:=by
 have:(2:Nat) ^ k<2 ^ 128:=Nat.pow_lt_pow_right (by decide) (by omega)
 have e:((2 ^ k:Nat):Int)=(2:Int) ^ k:=by simp
 omega
theorem zgv(h:k<=64):(2:Int) ^ k<=2 ^ 64:=by
 have:(2:Nat) ^ k<=2 ^ 64:=Nat.pow_le_pow_right (by decide) (by omega)
 have e:((2 ^ k:Nat):Int)=(2:Int) ^ k:=by simp
 omega
theorem zgj(h:H p=none):Same H (upd H p o):=fun b u e=>by
 rw[Ja (JD e h)];exact e
end Bd
namespace L2
open PySem PySem.Spec PyProof.Rows
theorem zi5(k h:Nat):(k*2 ^ h) &&& (2 ^ h)=(k % 2)*2 ^ h:=by
 have e1:k*2 ^ h=k <<< h:=(Nat.shiftLeft_eq k h).symm;have e2:(2:Nat) ^ h=1 <<< h:=by rw[Nat.shiftLeft_eq,Nat.one_mul]
 have e3:(k &&& 1) <<< h=k <<< h &&& 1 <<< h:=Nat.shiftLeft_and_distrib;rw[e1]
 conv=>lhs;rw[e2]
 rw[<- e3,Nat.and_one_is_mod,Nat.shiftLeft_eq]
theorem zgf(h:Nat)(k0:0<=k):Builtin.bitXor (k*2 ^ h) (2 ^ h)=if k % 2=0 then k*2 ^ h+2 ^ h else k*2 ^ h - 2 ^ h:=by
 obtain⟨n,rfl⟩:=Int.eq_ofNat_of_zero_le k0;have e0:((2 ^ h:Nat):Int)=(2:Int) ^ h:=by simp
 have e1:((n:Int)*2 ^ h)=((n*2 ^ h:Nat):Int):=by rw[Int.natCast_mul,e0]
 rw[bitXor_and,e1,<- e0,bitAnd_pp (Int.natCast_nonneg _) (Int.natCast_nonneg _)];have e2:((n*2 ^ h:Nat):Int).toNat &&& ((2 ^ h:Nat):Int).toNat=(n % 2)*2 ^ h:=by
  rw[Int.toNat_natCast,Int.toNat_natCast];exact zi5 n h
 rw[e2];rcases Nat.mod_two_eq_zero_or_one n with z|z
 ·have:((n:Int)) % 2=0:=by lia
  rw[if_pos this,z];simp
 ·have:¬((n:Int)) % 2=0:=by lia
  rw[if_neg this,z,Nat.one_mul];lia
def HAND:PyData:=.dict [(.none,.none)]
def SCR(ns:List Int):PyData:=.dict [(.none,.list (ns.map .int))]
def Uj(H:Hp)(hd:Addr)(n:Int):Prop:=∃d m t:Int,H hd=some (.lst [.int d,.int m,.int t])/\0<=m/\m<2 ^ 62/\0<=t/\t<=n
def StT(K:qF)(a:Addr)(xs:List V):Prop :=
 ∃(o:Obj) (its:Array Value) (n:Nat),K.lookup a=some o/\o.cls=.type "tuple" /\ o.data=.seq its n/\its.size<=sizeLine/\Vals xs its.toList/\o.dict=none
theorem StT.sq{K:qF}{H:Hp}{a:Addr}{xs:List V}(h:StT K a xs):SqT K H a xs:=by
 obtain⟨o,its,n,h1,h2,h3,h4,h5,_⟩:=h;exact .inr ⟨o,its,n,h1,h2,h3,h4,h5⟩
def hsT(k:Int×Int):Int:=reduceHash (Builtin.Tuple.tupleHashOf [hashInt k.1,hashInt k.2])
def entZ(z:(Int×Int)×Addr×V)(e:DictEntry):Prop:=e.hash=hsT z.1/\e.key=.ref z.2.1/\RelV z.2.2 e.val
abbrev ZT:=List ((Int×Int)×Addr×V)
def ZDO(a:Addr)(zs:ZT)(ep:Nat):HO:=.ext fun h=>(a == sysModules)=false/\zs.length<=sizeLine/\(zs.map (·.1)).Nodup/\∃o es,h.get? a=some o/\o.ExactDict/\o.data=.dict es ep/\Paired entZ zs es.toList
abbrev KT2:=List ((Int×Int)×PyData)
def entI(z:Int×V)(e:DictEntry):Prop:=e.hash=hashInt z.1/\(∃t,e.key=.int z.1 t)/\RelV z.2 e.val
def KDO(a:Addr)(zs:List (Int×V))(ep:Nat):HO:=.ext fun h=>(a == sysModules)=false/\zs.length<=sizeLine/\(zs.map (·.1)).Nodup/\∃o es,h.get? a=some o/\o.ExactDict/\o.data=.dict es ep/\Paired entI zs es.toList
def blkT(k:Int×Int):PyData:=.tuple [.int k.1,.int k.2]
def ziU(ks:List (Int×PyData)):List (PyData×PyData):=ks.map fun q=>(.int q.1,q.2)
def Qu(ks:KT2):List (PyData×PyData):=ks.map fun q=>(blkT q.1,q.2)
def EXC(C:Addr):PyData:=.dict [(.none,.int (C:Int))]
def EXO(a C:Addr):HO:=.ext fun h=>∃o,h.get? a=some o/\o.cls=.ref C/\∃vs,o.data=.fields vs
mutual
inductive Rep (K:qF)(hd:Option Addr)(O:Addr->Prop)(H:Hp):V->PyData->Prop
 | non:Rep K hd O H .non .none
 | bl (b:Bool):Rep K hd O H (.bl b) (.bool b)
 | int (i:Int):Rep K hd O H (.int i) (.int i)
 | str (x:Str):Rep K hd O H (.str x) (.str x)
 | tup {a vs ds} (h:H a=some (.tup vs)) (o:¬O a) (r:Reps K hd O H vs ds):Rep K hd O H (.ref a) (.tuple ds)
 | tupS {a vs ds} (h:StT K a vs) (r:Reps K hd O H vs ds):Rep K hd O H (.ref a) (.tuple ds)
 | lst {a vs ds} (h:H a=some (.lst vs)) (o:¬O a) (r:Reps K hd O H vs ds):Rep K hd O H (.ref a) (.list ds)
 | dct {a ep} (h:H a=some (KDO a [] ep)) (o:¬O a):Rep K hd O H (.ref a) (.dict [])
 | dcK {a kvs ep ks ps} (h:H a=some (KDO a kvs ep)) (o:¬O a) (r:QH K hd O H kvs ks) (e:ps=ziU ks):Rep K hd O H (.ref a) (.dict ps)
 | dcT {a zs ep ks ps} (h:H a=some (ZDO a zs ep)) (o:¬O a) (r:Jg K hd O H zs ks) (e:ps=Qu ks):Rep K hd O H (.ref a) (.dict ps)
 | hand {a} (h:hd=some a):Rep K hd O H (.ref a) HAND
 | scr {a ns} (h:Rd H a (.lst (ns.map V.int))) (o:¬O a):Rep K hd O H (.ref a) (SCR ns)
 | scrS {a} {ns:List Int} (h:∀H':Hp,SqL K H' a (ns.map V.int)):Rep K hd O H (.ref a) (SCR ns)
 | exc {a C} (h:H a=some (EXO a C)) (o:¬O a):Rep K hd O H (.ref a) (EXC C)
inductive Reps (K:qF)(hd:Option Addr)(O:Addr->Prop)(H:Hp):List V->List PyData->Prop
 | nil:Reps K hd O H [] []
 | cons {v d vs ds} (h:Rep K hd O H v d) (r:Reps K hd O H vs ds):Reps K hd O H (v::vs) (d::ds)
inductive QH (K:qF)(hd:Option Addr)(O:Addr->Prop)(H:Hp):List (Int×V)->List (Int×PyData)->Prop
 | nil:QH K hd O H [] []
 | cons {k v d kvs ks} (h:Rep K hd O H v d) (r:QH K hd O H kvs ks):QH K hd O H ((k,v)::kvs) ((k,d)::ks)
inductive Jg (K:qF)(hd:Option Addr)(O:Addr->Prop)(H:Hp):ZT->KT2->Prop
 | nil:Jg K hd O H [] []
 | cons {k q v d zs ks} (h:Rep K hd O H (.ref q) (.tuple [.int k.1,.int k.2])) (h2:Rep K hd O H v d) (r:Jg K hd O H zs ks):Jg K hd O H ((k,q,v)::zs) ((k,d)::ks)
end
section
variable{K:qF}{hd:Option Addr}{O O':Addr->Prop}{H H':Hp}
theorem Rep.mono(ho:∀a o,H a=some o->O' a->O a)(hh:∀a o,¬O a->H a=some o->H' a=some o)(q:Rep K hd O H v d):Rep K hd O' H' v d :=
 Rep.rec (motive_1:=fun v d _=>Rep K hd O' H' v d) (motive_2:=fun v d _=>Reps K hd O' H' v d) (motive_3:=fun v d _=>QH K hd O' H' v d) (motive_4:=fun v d _=>Jg K hd O' H' v d)
  .non .bl .int .str (fun h o _ r=>.tup (hh _ _ o h) (fun z=>o (ho _ _ h z)) r) (fun h _ r=>.tupS h r) (fun h o _ r=>.lst (hh _ _ o h) (fun z=>o (ho _ _ h z)) r) (fun h o=>.dct (hh _ _ o h) (fun z=>o (ho _ _ h z))) (fun h o _ e r=>.dcK (hh _ _ o h) (fun z=>o (ho _ _ h z)) r e) (fun h o _ e r=>.dcT (hh _ _ o h) (fun z=>o (ho _ _ h z)) r e) .hand
  (fun h o=>h.elim (fun h=>.scr (.inl (hh _ _ o h)) fun z=>o (ho _ _ h z)) fun h=>h.elim fun u h=>.scr (.inr ⟨u,hh _ _ o h⟩) fun z=>o (ho _ _ h z)) .scrS (fun h o=>.exc (hh _ _ o h) (fun z=>o (ho _ _ h z)))
  .nil (fun _ _ h r=>.cons h r) .nil (fun _ _ h r=>.cons h r) .nil (fun _ _ _ h k r=>.cons h k r) q
theorem Reps.ind{P:List V->List PyData->Prop}(n:P [] [])(c:∀{v d vs ds},Rep K hd O H v d->Reps K hd O H vs ds->P vs ds->P (v::vs) (d::ds))(q:Reps K hd O H vs ds):P vs ds:=by
 refine Reps.rec (motive_1:=fun _ _ _=>True) (motive_2:=fun v d _=>P v d) (motive_3:=fun _ _ _=>True) (motive_4:=fun _ _ _=>True) ?_ ?_ ?_ ?_ ?_ ?_ ?_ ?_ ?_ ?_ ?_ ?_ ?_ ?_ n (fun h r _ i=>c h r i) ?_ ?_ ?_ ?_ q <;> intros <;> trivial
theorem Jg.ind{P:ZT->KT2->Prop}(n:P [] [])(c:∀{k q v d vs ds},Rep K hd O H (.ref q) (.tuple [.int k.1,.int k.2])->Rep K hd O H v d->Jg K hd O H vs ds->P vs ds->P ((k,q,v)::vs) ((k,d)::ds))(q:Jg K hd O H vs ds):P vs ds:=by
 refine Jg.rec (motive_1:=fun _ _ _=>True) (motive_4:=fun v d _=>P v d) (motive_2:=fun _ _ _=>True) (motive_3:=fun _ _ _=>True) ?_ ?_ ?_ ?_ ?_ ?_ ?_ ?_ ?_ ?_ ?_ ?_ ?_ ?_ ?_ ?_ ?_ ?_ n (fun h k r _ _ i=>c h k r i) q <;> intros <;> trivial
theorem Reps.mono(ho:∀a o,H a=some o->O' a->O a)(hh:∀a o,¬O a->H a=some o->H' a=some o)(q:Reps K hd O H vs ds):Reps K hd O' H' vs ds:=q.ind .nil fun h _ r=>.cons (h.mono ho hh) r
theorem Jg.mono(ho:∀a o,H a=some o->O' a->O a)(hh:∀a o,¬O a->H a=some o->H' a=some o)(q:Jg K hd O H vs ds):Jg K hd O' H' vs ds:=q.ind .nil fun h k _ r=>.cons (h.mono ho hh) (k.mono ho hh) r
theorem dict_noK(e:(PyData.none,v)::r=ziU ks):False:=by
 cases ks with
 | nil=>cases e
 | cons q ks=>cases e
theorem dict_noT(e:(PyData.none,v)::r=Qu ks):False:=by
 cases ks with
 | nil=>cases e
 | cons q ks=>cases e
theorem Reps.length(q:Reps K hd O H vs ds):vs.length=ds.length:=q.ind (P:=fun a b=>a.length=b.length) rfl fun _ _ e=>congrArg (·+1) e
theorem Reps.get{i:Nat}(q:Reps K hd O H vs ds):ds[i]?=some d->∃v,vs[i]?=some v/\Rep K hd O H v d :=
 q.ind (P:=fun vs ds=>∀(i:Nat),ds[i]?=some d->∃v,vs[i]?=some v/\Rep K hd O H v d) (fun _ e=>nomatch e) (fun {v _ _ _} h _ r i=>i.casesOn (fun e=>⟨v,rfl,Option.some.inj e▸h⟩) fun i e=>r i e) i
theorem Reps.append(q:Reps K hd O H vs ds)(s:Reps K hd O H ws es):Reps K hd O H (vs++ws) (ds++es):=q.ind (P:=fun a b=>Reps K hd O H (a++ws) (b++es)) s fun h _ r=>.cons h r
theorem Rep.tupI(h:Rep K hd O H v (.tuple ds)):∃a vs,v=.ref a/\SqT K H a vs/\Reps K hd O H vs ds:=by
 cases h with
 | tup h o r=>exact⟨_,_,rfl,.inl (.inl h),r⟩
 | tupS h r=>exact⟨_,_,rfl,h.sq,r⟩
theorem Rep.lstI(h:Rep K hd O H v (.list ds)):∃a vs,v=.ref a/\H a=some (.lst vs)/\¬O a/\Reps K hd O H vs ds:=by
 cases h with
 | lst h o r=>exact⟨_,_,rfl,h,o,r⟩
theorem Rep.intI(h:Rep K hd O H v (.int i)):v=.int i:=by cases h;rfl
theorem Rep.blI(h:Rep K hd O H v (.bool b)):v=.bl b:=by cases h;rfl
theorem Rep.strI(h:Rep K hd O H v (.str x)):v=.str x:=by cases h;rfl
theorem Rep.nonI(h:Rep K hd O H v .none):v=.non:=by cases h;rfl
theorem Rep.handI(h:Rep K hd O H v HAND):∃a,v=.ref a/\hd=some a:=by
 generalize e:HAND=d at h;cases h with
 | hand h=>exact⟨_,rfl,h⟩
 | dct _ _=>cases e
 | dcK _ _ _ e'=>cases e;exact(dict_noK e').elim
 | dcT _ _ _ e'=>cases e;exact(dict_noT e').elim
 | scr _ _=>simp[HAND,SCR]at e
 | scrS _=>simp[HAND,SCR]at e
 | exc _ _=>simp[HAND,EXC]at e
 | _=>cases e
theorem Rep.scrI(h:Rep K hd O H v (SCR ns)):∃a,v=.ref a/\SqL K H a (ns.map V.int):=by
 generalize e:SCR ns=d at h;cases h with
 | hand h=>simp[HAND,SCR]at e
 | dct _ _=>cases e
 | dcK _ _ _ e'=>cases e;exact(dict_noK e').elim
 | dcT _ _ _ e'=>cases e;exact(dict_noT e').elim
 | @scr a ms h o =>
  have:ns=ms:=by
   have e':(ns.map PyData.int)=ms.map PyData.int:=by simpa[SCR] using e
   have:=congrArg (List.map fun x=>match x with|PyData.int i=>i|_=>0) e'
   simpa[List.map_map,Function.comp_def] using this
  subst this;exact⟨_,rfl,.inl h⟩
 | @scrS a ms h =>
  have:ns=ms:=by
   have e':(ns.map PyData.int)=ms.map PyData.int:=by simpa[SCR] using e
   have:=congrArg (List.map fun x=>match x with|PyData.int i=>i|_=>0) e'
   simpa[List.map_map,Function.comp_def] using this
  subst this;exact⟨_,rfl,h H⟩
 | exc _ _=>simp[SCR,EXC]at e
 | _=>cases e
end
mutual
def Jt:PyData->Bool
 | .list _=>false
 | .tuple ts=>QR ts
 | .dict [(.none,.none)]=>true
 | .dict _=>false
 | _=>true
def QR:List PyData->Bool
 | []=>true
 | t::ts=>Jt t&&QR ts
end
section
variable{K:qF}{hd:Option Addr}{O O':Addr->Prop}{H:Hp}
theorem zin(e:Jt (.dict (ziU ks))=true):False:=by
 unfold Jt at e;split at e
 ·rename_i h;cases h
 ·rename_i h;cases h
 ·rename_i h;exact dict_noK (PyData.dict.inj h).symm
 ·cases e
 ·rename_i h;exact h _ rfl
theorem zim(e:Jt (.dict (Qu ks))=true):False:=by
 unfold Jt at e;split at e
 ·rename_i h;cases h
 ·rename_i h;cases h
 ·rename_i h;exact dict_noT (PyData.dict.inj h).symm
 ·cases e
 ·rename_i h;exact h _ rfl
def MutO(o:Option HO):Prop:=(∃xs,o=some (.lst xs))\/(∃ks,o=some (.dK ks))\/∃a zs ep,o=some (ZDO a zs ep)
theorem Rep.up(ho:∀a,O a->MutO (H a))(q:Rep K hd O' H v d):Jt d=true->Rep K hd O H v d:=by
 refine Rep.rec (motive_1:=fun v d _=>Jt d=true->Rep K hd O H v d) (motive_2:=fun v d _=>QR d=true->Reps K hd O H v d) (motive_3:=fun _ _ _=>True) (motive_4:=fun _ _ _=>True)
  (fun _=>.non) (fun b _=>.bl b) (fun b _=>.int b) (fun b _=>.str b) (fun h _ _ r e=>.tup h (fun z=>by rcases ho _ z with⟨xs,q⟩|⟨xs,q⟩|⟨xs,zs,ep,q⟩ <;> (rw[h]at q;cases q)) (r (by simpa[Jt] using e))) (fun h _ r e=>.tupS h (r (by simpa[Jt] using e)))
  (fun _ _ _ _ e=>by simp[Jt]at e) (fun _ _ e=>by simp[Jt]at e) (fun _ _ _ e' _ e=>by subst e';exact(zin e).elim) (fun _ _ _ e' _ e=>by subst e';exact(zim e).elim) (fun h _=>.hand h) (fun _ _ e=>by simp[SCR,Jt]at e) (fun _ e=>by simp[SCR,Jt]at e) (fun _ _ e=>by simp[EXC,Jt]at e)
  (fun _=>.nil) (fun _ _ h r e=>by rw[QR,Bool.and_eq_true]at e;exact .cons (h e.1) (r e.2)) trivial ?_ trivial ?_ q <;> intros <;> trivial
end
section
variable{X:Cx}{pins:qO}{σ:St}{H:Hp}{s:Shared}{hd:Option Addr}{O:Addr->Prop}
theorem Rep.reads(I:Inv X pins σ H s){u:Value}(q:Rep X.K hd O H v d):RelV v u->d.hasDict=false->∃as,Reads s.heap u d as:=by
 refine Rep.rec (motive_1:=fun v d _=>∀u,RelV v u->d.hasDict=false->∃as,Reads s.heap u d as) (motive_2:=fun v d _=>∀u,Vals v u->PyData.hasDictAll d=false->∃as,ReadsAll s.heap u d as) (motive_3:=fun _ _ _=>True) (motive_4:=fun _ _ _=>True)
  (fun _ r _=>by cases r;exact⟨_,.none⟩) (fun b _ r _=>by cases r;exact⟨_,.bool b⟩) (fun i _ r _=>by obtain⟨t,rfl⟩:=r;exact⟨_,.int i t⟩) (fun x _ r _=>by obtain⟨t,rfl⟩:=r;exact⟨_,.str x t⟩)
  (fun {_ vs _} h _ _ q _ r e=>?_) (fun {_ vs _} h _ q _ r e=>?_) (fun {_ vs _} h _ _ q _ r e=>?_) (fun _ _ _ _ e=>by simp[PyData.hasDict]at e) (fun _ _ _ _ _ _ _ e=>by simp[PyData.hasDict]at e) (fun _ _ _ _ _ _ _ e=>by simp[PyData.hasDict]at e)
  (fun _ _ _ e=>by simp[HAND,PyData.hasDict]at e) (fun _ _ _ _ e=>by simp[SCR,PyData.hasDict]at e) (fun _ _ _ e=>by simp[SCR,PyData.hasDict]at e) (fun _ _ _ _ e=>by simp[EXC,PyData.hasDict]at e)
  (fun _ r _=>by cases r;exact⟨_,.nil⟩) (fun _ _ h q _ r e=>?_) trivial (by intros;trivial) trivial (by intros;trivial) q u
 ·cases r;obtain⟨its,rv,p,_⟩:=I.tuple (xs:=vs) (.inl (.inl h));obtain⟨o,ho,hc,n,hdat⟩:=p;obtain⟨as,ra⟩:=q _ rv (by simpa[PyData.hasDict] using e)
  exact⟨_,.tuple ho hc hdat (by simpa using ra)⟩
 ·cases r;obtain⟨its,rv,p,_⟩:=I.tuple (xs:=vs) h.sq;obtain⟨o,ho,hc,n,hdat⟩:=p;obtain⟨as,ra⟩:=q _ rv (by simpa[PyData.hasDict] using e)
  exact⟨_,.tuple ho hc hdat (by simpa using ra)⟩
 ·cases r;obtain⟨its,rv,p,_⟩:=I.list (xs:=vs) (.inl (.inl h));obtain⟨o,n,ho,hc,_,hdat⟩:=p;obtain⟨as,ra⟩:=q _ rv (by simpa[PyData.hasDict] using e)
  exact⟨_,.list ho hc hdat (by simpa using ra)⟩
 ·cases r with
  | cons r1 r2 =>
   rw[PyData.hasDictAll,Bool.or_eq_false_iff]at e;obtain⟨as,ra⟩:=h _ r1 e.1;obtain⟨bs,rb⟩:=q _ r2 e.2;exact⟨_,.cons ra rb⟩
theorem Reps.reads(I:Inv X pins σ H s){us:List Value}(q:Reps X.K hd O H vs ds):Vals vs us->PyData.hasDictAll ds=false->∃as,ReadsAll s.heap us ds as :=
 q.ind (P:=fun vs ds=>∀us,Vals vs us->PyData.hasDictAll ds=false->∃as,ReadsAll s.heap us ds as) (fun _ r _=>by cases r;exact⟨_,.nil⟩) (fun h _ q _ r e=>by
  cases r with
  | cons r1 r2 =>
   rw[PyData.hasDictAll,Bool.or_eq_false_iff]at e;obtain⟨as,ra⟩:=h.reads I r1 e.1;obtain⟨bs,rb⟩:=q _ r2 e.2;exact⟨_,.cons ra rb⟩) us
end
inductive Cell where
 | val (d:PyData)
 | own (ds:qD)
 | dct (ks:List (Key×PyData))
 | rdo (ks:List (Key×PyData))
 | dtt (ks:KT2)
def Cell.mine:Cell->Bool
 | .val _=>false
 | .own _=>true
 | .dct _=>true
 | .rdo _=>false
 | .dtt _=>true
def Qi(K:qF)(hd:Option Addr)(O:Addr->Prop)(H:Hp)(kvs:List (Key×V))(ks:List (Key×PyData)):Prop:=Paired (fun(p:Key×V) (q:Key×PyData)=>p.1=q.1/\Rep K hd O H p.2 q.2) kvs ks
theorem Qi.mono{K:qF}{hd:Option Addr}{O O':Addr->Prop}{H H':Hp}(ho:∀a o,H a=some o->O' a->O a)(hh:∀a o,¬O a->H a=some o->H' a=some o){kvs:List (Key×V)}{ks:List (Key×PyData)}(r:Qi K hd O H kvs ks):Qi K hd O' H' kvs ks :=
 Paired.mapP r fun _ _ z=>⟨z.1,z.2.mono ho hh⟩
abbrev En:=List (Option Cell)
structure Ctx where
 hd:Option Addr
 ext:Addr->Prop
def OwnS(ρ:En)(σ:St)(a:Addr):Prop:=∃(i:Nat) (c:Cell),c.mine=true/\ρ[i]?=some (some c)/\σ[i]?=some (some (V.ref a))
def Own(C:Ctx)(ρ:En)(σ:St)(a:Addr):Prop:=C.ext a\/OwnS ρ σ a
def Hn(hd:Option Addr)(H:Hp)(n:Nat):Prop:=∀a,hd=some a->Uj H a n
structure Stt(K:qF)(C:Ctx)(ρ:En)(σ:St)(H:Hp)(n:Nat):Prop where
 len:ρ.length=σ.length
 val:∀(i:Nat) (d:PyData),ρ[i]?=some (some (Cell.val d))->∃v,σ[i]?=some (some v)/\Rep K C.hd (Own C ρ σ) H v d
 own:∀(i:Nat) (ds:qD),ρ[i]?=some (some (Cell.own ds))->∃a vs,σ[i]?=some (some (V.ref a))/\H a=some (.lst vs)/\Reps K C.hd (Own C ρ σ) H vs ds/\¬C.ext a
 dct:∀(i:Nat) (ks:List (Key×PyData)),ρ[i]?=some (some (Cell.dct ks))->∃a kvs,σ[i]?=some (some (V.ref a))/\H a=some (.dK kvs)/\Qi K C.hd (Own C ρ σ) H kvs ks/\¬C.ext a
 rdo:∀(i:Nat) (ks:List (Key×PyData)),ρ[i]?=some (some (Cell.rdo ks))->∃a kvs,σ[i]?=some (some (V.ref a))/\H a=some (.dK kvs)/\Qi K C.hd (Own C ρ σ) H kvs ks/\C.ext a/\C.hd≠some a
 dtt:∀(i:Nat) (ks:KT2),ρ[i]?=some (some (Cell.dtt ks))->∃a zs ep,σ[i]?=some (some (V.ref a))/\H a=some (ZDO a zs ep)/\Jg K C.hd (Own C ρ σ) H zs ks/\¬C.ext a
 dif:∀(i j:Nat) (c e:Cell) (a:Addr),c.mine=true->e.mine=true->ρ[i]?=some (some c)->ρ[j]?=some (some e)->σ[i]?=some (some (V.ref a))->σ[j]?=some (some (V.ref a))->i=j
 hnd:Hn C.hd H n
 ext:∀a,C.ext a->MutO (H a)
 hx:∀a,C.hd=some a->C.ext a
def ExtE(hd:Option Addr)(H H':Hp):Prop:=∀a o,H a=some o->hd≠some a->H' a=some o
theorem ExtE.refl:ExtE hd H H:=fun _ _ h _=>h
theorem ExtE.trans(a:ExtE hd H H1)(b:ExtE hd H1 H2):ExtE hd H H2:=fun c o h n=>b c o (a c o h n) n
theorem ExtE.new(h:H p=none):ExtE hd H (upd H p o):=fun b u e _=>by
 rw[Ja (JD e h)];exact e
section
variable{K:qF}{C:Ctx}{ρ:En}{σ:St}{H H':Hp}{n n':Nat}
theorem MutO.ne(h:MutO o):o≠none:=by
 rcases h with⟨_,rfl⟩|⟨_,rfl⟩|⟨_,_,_,rfl⟩ <;> exact fun z=>by cases z
theorem Stt.at(S:Stt K C ρ σ H n){i:Nat}{c:Cell}(m:c.mine=true)(h1:ρ[i]?=some (some c)):∃a:Addr,σ[i]?=some (some (V.ref a))/\MutO (H a)/\¬C.ext a:=by
 cases c with
 | val d=>cases m
 | own ds =>
  obtain⟨a,vs,e1,e2,_,e4⟩:=S.own i ds h1;exact⟨a,e1,.inl ⟨_,e2⟩,e4⟩
 | dct ks =>
  obtain⟨a,vs,e1,e2,_,e4⟩:=S.dct i ks h1;exact⟨a,e1,.inr (.inl ⟨_,e2⟩),e4⟩
 | rdo ks=>cases m
 | dtt ks =>
  obtain⟨a,vs,ep,e1,e2,_,e4⟩:=S.dtt i ks h1;exact⟨a,e1,.inr (.inr ⟨_,_,_,e2⟩),e4⟩
theorem Stt.lst(S:Stt K C ρ σ H n){a:Addr}(h:Own C ρ σ a):MutO (H a):=by
 rcases h with h|⟨i,c,m,h1,h2⟩
 ·exact S.ext a h
 ·obtain⟨b,e1,e2,_⟩:=S.at m h1;rw[h2]at e1;cases e1;exact e2
theorem Stt.dom(S:Stt K C ρ σ H n)(h:Own C ρ σ a):H a≠none:=(S.lst h).ne
theorem Stt.free(S:Stt K C ρ σ H n)(h:H a=none):¬Own C ρ σ a:=fun z=>S.dom z h
theorem ExtE.rep(e:ExtE C.hd H H')(hx:∀a,C.hd=some a->C.ext a){v d}(r:Rep K C.hd (Own C ρ σ) H v d):Rep K C.hd (Own C ρ σ) H' v d :=
 r.mono (fun _ _ _ z=>z) fun a o no h=>e a o h fun z=>no (.inl (hx a z))
theorem ExtE.reps(e:ExtE C.hd H H')(hx:∀a,C.hd=some a->C.ext a){v d}(r:Reps K C.hd (Own C ρ σ) H v d):Reps K C.hd (Own C ρ σ) H' v d :=
 r.mono (fun _ _ _ z=>z) fun a o no h=>e a o h fun z=>no (.inl (hx a z))
theorem Stt.on(S:Stt K C ρ σ H n)(e:ExtE C.hd H H')(h:Hn C.hd H' n'):Stt K C ρ σ H' n' where
 len:=S.len
 val:=fun i d hi=>by
  obtain⟨v,h1,h2⟩:=S.val i d hi;exact⟨v,h1,e.rep S.hx h2⟩
 own:=fun i ds hi=>by
  obtain⟨a,vs,h1,h2,h3,h4⟩:=S.own i ds hi;exact⟨a,vs,h1,e a _ h2 fun z=>h4 (S.hx a z),e.reps S.hx h3,h4⟩
 dct:=fun i ks hi=>by
  obtain⟨a,vs,h1,h2,h3,h4⟩:=S.dct i ks hi;exact⟨a,vs,h1,e a _ h2 fun z=>h4 (S.hx a z),Paired.mapP h3 fun _ _ z=>⟨z.1,e.rep S.hx z.2⟩,h4⟩
 rdo:=fun i ks hi=>by
  obtain⟨a,vs,h1,h2,h3,h4,h5⟩:=S.rdo i ks hi;exact⟨a,vs,h1,e a _ h2 h5,Paired.mapP h3 fun _ _ z=>⟨z.1,e.rep S.hx z.2⟩,h4,h5⟩
 dtt:=fun i ks hi=>by
  obtain⟨a,vs,ep,h1,h2,h3,h4⟩:=S.dtt i ks hi;exact⟨a,vs,ep,h1,e a _ h2 fun z=>h4 (S.hx a z),h3.mono (fun _ _ _ z=>z) (fun a o no h=>e a o h fun z=>no (.inl (S.hx a z))),h4⟩
 dif:=S.dif
 hnd:=h
 ext:=fun a ha=>by
  by_cases z:C.hd=some a
  ·obtain⟨d,m,t,q,_⟩:=h a z;exact .inl ⟨_,q⟩
  ·rcases S.ext a ha with⟨xs,q⟩|⟨xs,q⟩|⟨b,xs,ep,q⟩
   ·exact .inl ⟨xs,e a _ q z⟩
   ·exact .inr (.inl ⟨xs,e a _ q z⟩)
   ·exact .inr (.inr ⟨b,xs,ep,e a _ q z⟩)
 hx:=S.hx
end
abbrev DTE:=En->Nat->(PyData->Nat->Prop)->Prop
abbrev DTT:=En->Nat->(Bool->Nat->Prop)->Prop
abbrev DTA:=En->Nat->(List PyData->Nat->Prop)->Prop
def DE(X:Cx)(e:Expr)(d:DTE):Prop:=∃te,PE X e te/\∀(C:Ctx) (ρ:En) (σ:St) (H:Hp) (n:Nat) (Q:VK) (R:qN),Stt X.K C ρ σ H n->d ρ n R ->
 (∀t n' v H',R t n'->ExtE C.hd H H'->Hn C.hd H' n'->Rep X.K C.hd (Own C ρ σ) H' v t->Q v H')->te σ H Q
def RepT(K:qF)(hd:Option Addr)(O:Addr->Prop)(H:Hp)(v:V)(t:PyData):Prop :=
 Rep K hd O H v t\/(∃a vs ds,v=.ref a/\t=.list ds/\H a=some (.lst vs)/\Reps K hd O H vs ds/\hd≠some a)\/∃a zs ep ks,v=.ref a/\t=.dict (Qu ks)/\H a=some (ZDO a zs ep)/\Jg K hd O H zs ks/\hd≠some a
def DL(X:Cx)(e:Expr)(d:DTE):Prop:=∃te,PE X e te/\∀(C:Ctx) (ρ:En) (σ:St) (H:Hp) (n:Nat) (Q:VK) (R:qN),Stt X.K C ρ σ H n->d ρ n R ->
 (∀t n' v H',R t n'->ExtE C.hd H H'->Hn C.hd H' n'->RepT X.K C.hd (Own C ρ σ) H' v t->Q v H')->te σ H Q
def DN(X:Cx)(e:Expr)(d:DTA):Prop:=∃te,PE X e te/\∀(C:Ctx) (ρ:En) (σ:St) (H:Hp) (n:Nat) (Q:VK) (R:List PyData->Nat->Prop),Stt X.K C ρ σ H n->d ρ n R ->
 (∀ts n' p vs H',R ts n'->ExtE C.hd H H'->Hn C.hd H' n'->H p=none->H' p=some (.lst vs)->Reps X.K C.hd (fun a=>Own C ρ σ a\/a=p) H' vs ts->Q (.ref p) H')->te σ H Q
def DT(X:Cx)(e:Expr)(d:DTT):Prop:=∃te,PT X e te/\∀(C:Ctx) (ρ:En) (σ:St) (H:Hp) (n:Nat) (Q:Bool->Hp->Prop) (R:Bool->Nat->Prop),Stt X.K C ρ σ H n->d ρ n R ->
 (∀b n' H',R b n'->ExtE C.hd H H'->Hn C.hd H' n'->Q b H')->te σ H Q
def DW(X:Cx)(e:Expr)(d:DTT):Prop:=∃te,PW X e te/\∀(C:Ctx) (ρ:En) (σ:St) (H:Hp) (n:Nat) (Q:Bool->Hp->Prop) (R:Bool->Nat->Prop),Stt X.K C ρ σ H n->d ρ n R ->
 (∀b n' H',R b n'->ExtE C.hd H H'->Hn C.hd H' n'->Q b H')->te σ H Q
def DB(X:Cx)(es:List Expr)(d:DTA):Prop:=∃ta,PB X es ta/\∀(C:Ctx) (ρ:En) (σ:St) (H:Hp) (n:Nat) (Q:List V->Hp->Prop) (R:List PyData->Nat->Prop),Stt X.K C ρ σ H n->d ρ n R ->
 (∀ts n' vs H',R ts n'->ExtE C.hd H H'->Hn C.hd H' n'->Reps X.K C.hd (Own C ρ σ) H' vs ts->ts.length=es.length->Q vs H')->ta σ H Q
section
variable{X:Cx}{e a b c:Expr}{es:List Expr}{d da db dc:DTE}{pos:Pos}
theorem dl(h:DE X e d):DL X e d:=by
 obtain⟨te,p,h⟩:=h;exact⟨te,p,fun C ρ σ H n Q R S hd hq=>h C ρ σ H n Q R S hd fun t n' v H' r e h1 h2=>hq t n' v H' r e h1 (.inl h2)⟩
def dNew(d:DTA):DTE:=fun ρ n R=>d ρ n fun ts n'=>R (.list ts) n'
theorem JH{d:DTA}(h:DN X e d):DE X e (dNew d):=by
 obtain⟨te,p,h⟩:=h;refine⟨te,p,fun C ρ σ H n Q R S hd hq=>h C ρ σ H n Q _ S hd fun ts n' p vs H' r e h1 h2 h3 h4=>hq _ n' _ H' r e h1 (.lst h3 (S.free h2) (h4.mono (fun _ _ _ z=>.inl z) fun _ _ _ z=>z))⟩
def dVar(i:Nat):DTE:=fun ρ n R=>match ρ[i]? with|some (some (Cell.val d))=>R d n|_=>False
def dOwn(i:Nat):DTE:=fun ρ n R=>match ρ[i]? with|some (some (Cell.own d))=>R (.list d) n|_=>False
def dC(t:PyData):DTE:=fun _ n R=>R t n
theorem JX(i:Nat)(hN:X.N[i]?=some x:=by rfl)(hv:Vis X.env.scope x:=by walk_at "V")(hd:(x == ("__debug__":Str))=false:=by rfl)
  (hcd:(x == ("__classdict__":Str))=false:=by rfl):DE X (.Name x pos) (dVar i):=by
 refine⟨_,J1 hN hv hd hcd,fun C ρ σ H n Q R S h hq=>?_⟩
 unfold dVar at h;split at h
 ·rename_i d e;obtain⟨v,h1,h2⟩:=S.val i d e;exact⟨v,h1,hq d n v H h ExtE.refl S.hnd h2⟩
 ·exact h.elim
theorem zhB(i:Nat)(hN:X.N[i]?=some x:=by rfl)(hv:Vis X.env.scope x:=by walk_at "V")(hd:(x == ("__debug__":Str))=false:=by rfl)
  (hcd:(x == ("__classdict__":Str))=false:=by rfl):DL X (.Name x pos) (dOwn i):=by
 refine⟨_,J1 hN hv hd hcd,fun C ρ σ H n Q R S h hq=>?_⟩
 unfold dOwn at h;split at h
 ·rename_i ds e;obtain⟨p,vs,h1,h2,h3,h4⟩:=S.own i ds e;exact⟨.ref p,h1,hq _ n _ H h ExtE.refl S.hnd (.inr (.inl ⟨p,vs,ds,rfl,rfl,h2,h3,fun z=>h4 (S.hx p z)⟩))⟩
 ·exact h.elim
theorem Jd{i j pos}:DE X (.Constant (.int i) j pos) (dC (.int i)):=⟨_,Ji,fun _ _ _ H n _ _ S h hq=>hq _ n _ H h ExtE.refl S.hnd (.int i)⟩
theorem zk9{b j pos}:DE X (.Constant (.bool b) j pos) (dC (.bool b)):=⟨_,zme,fun _ _ _ H n _ _ S h hq=>hq _ n _ H h ExtE.refl S.hnd (.bl b)⟩
end
section
variable{K:qF}{hd:Option Addr}{O:Addr->Prop}{H H':Hp}{v:V}{t:PyData}{n:Nat}
theorem Same.ext(h:Same H H'):ExtE hd H H':=fun a o e _=>h a o e
theorem Hn.same(h:Hn hd H n)(s:Same H H'):Hn hd H' n:=fun a e=>by
 obtain⟨d,m,t,q,r⟩:=h a e;exact⟨d,m,t,s _ _ q,r⟩
theorem Rep.same(s:Same H H')(r:Rep K hd O H v t):Rep K hd O H' v t:=r.mono (fun _ _ _ z=>z) fun a o _ h=>s a o h
theorem Reps.same{vs ts}(s:Same H H')(r:Reps K hd O H vs ts):Reps K hd O H' vs ts:=r.mono (fun _ _ _ z=>z) fun a o _ h=>s a o h
theorem ExtE.repT(e:ExtE C.hd H H')(hx:∀a,C.hd=some a->C.ext a)(r:RepT K C.hd (Own C ρ σ) H v t):RepT K C.hd (Own C ρ σ) H' v t:=by
 rcases r with r|⟨a,vs,ds,h1,h2,h3,h4,h5⟩|⟨a,zs,ep,ks,h1,h2,h3,h4,h5⟩
 ·exact .inl (e.rep hx r)
 ·exact .inr (.inl ⟨a,vs,ds,h1,h2,e _ _ h3 h5,e.reps hx h4,h5⟩)
 ·exact .inr (.inr ⟨a,zs,ep,ks,h1,h2,e _ _ h3 h5,h4.mono (fun _ _ _ z=>z) (fun a o no h=>e a o h fun z=>no (.inl (hx a z))),h5⟩)
theorem RepT.lstI{ds}(h:RepT K hd O H v (.list ds)):∃a vs,v=.ref a/\H a=some (.lst vs)/\Reps K hd O H vs ds:=by
 rcases h with h|⟨a,vs,es,h1,h2,h3,h4,_⟩|⟨a,vs,ep,es,h1,h2,h3,h4,_⟩
 ·obtain⟨a,vs,h1,h2,_,h3⟩:=h.lstI;exact⟨a,vs,h1,h2,h3⟩
 ·cases h2;exact⟨a,vs,h1,h3,h4⟩
 ·cases h2
theorem RepT.tupI{ds}(h:RepT K hd O H v (.tuple ds)):∃a vs,v=.ref a/\SqT K H a vs/\Reps K hd O H vs ds:=by
 rcases h with h|⟨a,vs,es,h1,h2,h3,h4,_⟩|⟨a,vs,ep,es,h1,h2,h3,h4,_⟩
 ·exact h.tupI
 ·cases h2
 ·cases h2
theorem RepT.rep(h:RepT K hd O H v t)(nl:∀ds,t≠.list ds)(nd:∀ks,t≠.dict (Qu ks):=by intro ks z;first|cases z|exact dict_noT (PyData.dict.inj z)):Rep K hd O H v t:=by
 rcases h with h|⟨a,vs,es,h1,h2,h3,h4,_⟩|⟨a,vs,ep,es,h1,h2,h3,h4,_⟩
 ·exact h
 ·exact absurd h2 (nl es)
 ·exact absurd h2 (nd es)
theorem RepT.intI{i}(h:RepT K hd O H v (.int i)):v=.int i:=(h.rep (by intro _ z;cases z)).intI
theorem RepT.blI{i}(h:RepT K hd O H v (.bool i)):v=.bl i:=(h.rep (by intro _ z;cases z)).blI
theorem RepT.strI{i}(h:RepT K hd O H v (.str i)):v=.str i:=(h.rep (by intro _ z;cases z)).strI
theorem RepT.nonI(h:RepT K hd O H v .none):v=.non:=(h.rep (by intro _ z;cases z)).nonI
theorem Rep.newT{vs ts}(no:¬O p)(h:H p=none)(r:Reps K hd O H vs ts):Rep K hd O (upd H p (.tup vs)) (.ref p) (.tuple ts) :=
 .tup Jn no (r.same (fun b u e=>by rw[Ja (JD e h)];exact e))
end
theorem JC(h:H p=none):Same H (upd H p o):=fun b u e=>by
 rw[Ja (JD e h)];exact e
abbrev G2:=PyData->PyData->(PyData->Prop)->Prop
def dOp(g:G2)(da db:DTE):DTE:=fun ρ n R=>da ρ n fun x n1=>db ρ n1 fun y n2=>g x y fun z=>R z n2
def Gp2(X:Cx)(r:R2)(g:G2):Prop:=∀(hd:Option Addr) (O:Addr->Prop) (H:Hp) (x y:V) (t u:PyData) (Q:VK) (R:PyData->Prop),(∀p,O p->H p≠none)->RepT X.K hd O H x t->RepT X.K hd O H y u->g t u R ->
 (∀z v H',R z->Same H H'->Rep X.K hd O H' v z->Q v H')->r x y H Q
section
variable{X:Cx}{a b c:Expr}{da db dc:DTE}{pos:Pos}{r r':R2}{g g':G2}
theorem two{C:Ctx}{ρ:En}{σ:St}{H:Hp}{n:Nat}{ta tb:TE}(ha:∀(C:Ctx) (ρ:En) (σ:St) (H:Hp) (n:Nat) (Q:VK) (R:qN),Stt X.K C ρ σ H n->da ρ n R ->
  (∀t n' v H',R t n'->ExtE C.hd H H'->Hn C.hd H' n'->RepT X.K C.hd (Own C ρ σ) H' v t->Q v H')->ta σ H Q)
  (hb:∀(C:Ctx) (ρ:En) (σ:St) (H:Hp) (n:Nat) (Q:VK) (R:qN),Stt X.K C ρ σ H n->db ρ n R ->
  (∀t n' v H',R t n'->ExtE C.hd H H'->Hn C.hd H' n'->RepT X.K C.hd (Own C ρ σ) H' v t->Q v H')->tb σ H Q)
  {Q2:V->V->Hp->Prop} {R2:PyData->PyData->Nat->Prop} (S:Stt X.K C ρ σ H n) (h:da ρ n fun x n1=>db ρ n1 fun y n2=>R2 x y n2)
  (hq:∀x y n2 v w H2,R2 x y n2->ExtE C.hd H H2->Stt X.K C ρ σ H2 n2->RepT X.K C.hd (Own C ρ σ) H2 v x->RepT X.K C.hd (Own C ρ σ) H2 w y->Q2 v w H2) :
  ta σ H fun v H1=>tb σ H1 fun w H2=>Q2 v w H2:=by
 refine ha C ρ σ H n _ _ S h fun t n1 v H1 r1 e1 h1 q1=>?_
 have S1:=S.on e1 h1;refine hb C ρ σ H1 n1 _ _ S1 r1 fun u n2 w H2 r2 e2 h2 q2=>?_
 exact hq t u n2 v w H2 r2 (e1.trans e2) (S1.on e2 h2) (e2.repT S.hx q1) q2
theorem J7{op:Operator}(ho:OpR X (binaryOp op) r)(hg:Gp2 X r g)(ha:DL X a da)(hb:DL X b db):DE X (.BinOp a op b pos) (dOp g da db):=by
 obtain⟨ta,pa,ha⟩:=ha;obtain⟨tb,pb,hb⟩:=hb;refine⟨_,Jh ho pa pb,fun C ρ σ H n Q R S h hq=>?_⟩
 refine two ha hb S h fun x y n2 v w H2 r2 e S2 q1 q2=>?_
 exact hg C.hd (Own C ρ σ) H2 v w x y Q _ (fun p=>S2.dom) q1 q2 r2 fun z u H' rz sm rp=>hq z n2 u H' rz (e.trans sm.ext) (S2.hnd.same sm) rp
def Qt(d:DTE):DTT:=fun ρ n R=>d ρ n fun t n'=>match t with|.bool k=>R k n'|_=>False
theorem Qd{op:CmpOp}(ho:OpR X (compareOp op) r)(hg:Gp2 X r g)(ha:DL X a da)(hb:DL X b db)(hm:behindInMarks op b=false):DT X (.Compare a [op] [b] pos) (Qt (dOp g da db)):=by
 obtain⟨ta,pa,ha⟩:=ha;obtain⟨tb,pb,hb⟩:=hb;refine⟨_,zdu ho pa pb hm,fun C ρ σ H n Q R S h hq=>?_⟩
 refine two ha hb S h fun x y n2 v w H2 r2 e S2 q1 q2=>?_
 refine hg C.hd (Own C ρ σ) H2 v w x y _ _ (fun p=>S2.dom) q1 q2 r2 fun z u H' rz sm rp=>?_
 cases z with
 | bool k =>
  cases rp;exact⟨k,rfl,hq k n2 H' rz (e.trans sm.ext) (S2.hnd.same sm)⟩
 | _=>exact rz.elim
def QN(g g':G2)(da db dc:DTE):DTE:=fun ρ n R=>da ρ n fun x n1=>db ρ n1 fun y n2=>g x y fun z=>match z with
 | .bool true=>dc ρ n2 fun w n3=>g' y w fun z=>R z n3
 | .bool false=>R (.bool false) n2
 | _=>False
def gI(C:Int->Int->Prop)(f:Int->Int->Int):G2
 | .int i,.int j,R=>C i j/\R (.int (f i j))
 | _,_,_=>False
def gB(f:Int->Int->Bool):G2
 | .int i,.int j,R=>R (.bool (f i j))
 | _,_,_=>False
theorem gp_I:Gp2 X (rI C fun i j=>.int (f i j)) (gI C f):=by
 intro hd O H x y t u Q R dom rx ry h hq;unfold gI at h;split at h
 ·rename_i i j;exact⟨i,j,rx.intI,ry.intI,h.1,hq _ _ H h.2 (Same.refl H) (.int _)⟩
 ·exact h.elim
def gI0(f:Int->Int->Int):G2
 | .int i,.int j,R=>R (.int (f i j))
 | _,_,_=>False
theorem zkM:Gp2 X (rI0 fun i j=>.int (f i j)) (gI0 f):=by
 intro hd O H x y t u Q R dom rx ry h hq;unfold gI0 at h;split at h
 ·rename_i i j;exact⟨i,j,rx.intI,ry.intI,hq _ _ H h (Same.refl H) (.int _)⟩
 ·exact h.elim
theorem gp_B:Gp2 X (rI0 fun i j=>.bl (f i j)) (gB f):=by
 intro hd O H x y t u Q R dom rx ry h hq;unfold gB at h;split at h
 ·rename_i i j;exact⟨i,j,rx.intI,ry.intI,hq _ _ H h (Same.refl H) (.bl _)⟩
 ·exact h.elim
end
section
variable{X:Cx}{a b c:Expr}{da db dc:DTE}{pos:Pos}
def oSub:=gI0 fun i j=>i - j
def oMod:=gI (fun _ j=>0<j) fun i j=>i % j
def Qw:=gI QF fun i j=>i / j
def oShl:=gI CPow fun i j=>i*2 ^ j.toNat
def oShr:=gI (fun _ j=>0<=j) fun i j=>i / 2 ^ j.toNat
def oXor:=gI0 Builtin.bitXor
theorem Qb(ha:DL X a da)(hb:DL X b db):DE X (.BinOp a .Sub b pos) (dOp oSub da db):=J7 zjT zkM ha hb
theorem zk5(ha:DL X a da)(hb:DL X b db):DE X (.BinOp a .Mod b pos) (dOp oMod da db):=J7 Qm gp_I ha hb
theorem ziX(ha:DL X a da)(hb:DL X b db):DE X (.BinOp a .FloorDiv b pos) (dOp Qw da db):=J7 UK gp_I ha hb
theorem JS(ha:DL X a da)(hb:DL X b db):DE X (.BinOp a .LShift b pos) (dOp oShl da db):=J7 zjV gp_I ha hb
theorem zhE(ha:DL X a da)(hb:DL X b db):DE X (.BinOp a .RShift b pos) (dOp oShr da db):=J7 zjU gp_I ha hb
theorem zk4(ha:DL X a da)(hb:DL X b db):DE X (.BinOp a .BitXor b pos) (dOp oXor da db):=J7 zjS zkM ha hb
end
section
variable{X:Cx}{pins:qO}{σ:St}{H:Hp}{s:Shared}{hd:Option Addr}{O:Addr->Prop}
theorem RepT.reads(I:Inv X pins σ H s)(h:RepT X.K hd O H v d)(r:RelV v u)(e:d.hasDict=false):∃as,Reads s.heap u d as:=by
 rcases h with h|⟨a,vs,ds,rfl,rfl,h3,h4,_⟩|⟨a,zs,ep,ks,rfl,rfl,h3,h4,_⟩
 rotate_left 2
 ·simp[PyData.hasDict]at e
 ·exact h.reads I r e
 ·cases r;obtain⟨its,rv,p,_⟩:=I.list (xs:=vs) (.inl (.inl h3));obtain⟨o,n,ho,hc,_,hdat⟩:=p;obtain⟨as,ra⟩:=Reps.reads I h4 rv (by simpa[PyData.hasDict] using e)
  exact⟨_,.list ho hc hdat (by simpa using ra)⟩
end
def Okd(t:PyData):Prop:=t.canLay0=true/\t.depth<=60
section
variable{X:Cx}{a b c:Expr}{da db dc:DTE}{pos:Pos}{k:Nat}
def rEqD(K:qF)(neg:Bool):R2:=fun x y H Q=>∃hd O t u,RepT K hd O H x t/\RepT K hd O H y u/\Okd t/\Okd u/\Q (.bl (if neg then !t.eqv u else t.eqv u)) H
theorem zj0(hr:Room k X.A):OpR X (compareOp .Eq) (rEqD X.K false):=by
 intro pins s σ H x y v u Q I rx ry h;obtain⟨hd,O,t,w,h1,h2,h3,h4,q⟩:=h;obtain⟨as,ra⟩:=h1.reads I rx (PyData.hasDict_of_canLay _ h3.1);obtain⟨bs,rb⟩:=h2.reads I ry (PyData.hasDict_of_canLay _ h4.1);refine SeqAt.compareEq_reads ra rb h3.1 h4.1 ?_ ⟨.bl _,H,I,rfl,q⟩;have:=hr.un;have:=h3.2;omega
theorem zjX(hr:Room k X.A):OpR X (compareOp .NotEq) (rEqD X.K true):=by
 intro pins s σ H x y v u Q I rx ry h;obtain⟨hd,O,t,w,h1,h2,h3,h4,q⟩:=h;obtain⟨as,ra⟩:=h1.reads I rx (PyData.hasDict_of_canLay _ h3.1);obtain⟨bs,rb⟩:=h2.reads I ry (PyData.hasDict_of_canLay _ h4.1);refine SeqAt.compareNe_reads ra rb h3.1 h4.1 ?_ ⟨.bl _,H,I,rfl,q⟩;have:=hr.un;have:=h3.2;omega
def oEq:G2
 | .int i,.int j,R=>R (.bool (decide (i=j)))
 | .str i,.str j,R=>R (.bool (decide (i=j)))
 | .bool i,.bool j,R=>R (.bool (decide (i=j)))
 | t,u,R=>Okd t/\Okd u/\R (.bool (t.eqv u))
def oNe:G2
 | .int i,.int j,R=>R (.bool (!decide (i=j)))
 | .str i,.str j,R=>R (.bool (!decide (i=j)))
 | .bool i,.bool j,R=>R (.bool (!decide (i=j)))
 | t,u,R=>Okd t/\Okd u/\R (.bool (!t.eqv u))
def rEqA(K:qF):R2:=fun x y H Q=>rEq x y H Q\/rEqD K false x y H Q
def rNeA(K:qF):R2:=fun x y H Q=>rNe x y H Q\/rEqD K true x y H Q
theorem zj1(hr:Room k X.A):OpR X (compareOp .Eq) (rEqA X.K):=OpR.or zmi (zj0 hr)
theorem zho(hr:Room k X.A):OpR X (compareOp .NotEq) (rNeA X.K):=OpR.or zmf (zjX hr)
theorem zmN:Gp2 X (rEqA X.K) oEq:=by
 intro hd O H x y t u Q R dom rx ry h hq;unfold oEq at h;split at h
 ·rename_i i j;rw[rx.intI,ry.intI];refine .inl ⟨rfl,?_⟩;have e:decide (V.int i=V.int j)=decide (i=j):=decide_eq_decide.mpr ⟨fun z=>by cases z;rfl,fun z=>by rw[z]⟩
  rw[e];exact hq _ _ H h (Same.refl H) (.bl _)
 ·rename_i i j;rw[rx.strI,ry.strI];refine .inl ⟨rfl,?_⟩;have e:decide (V.str i=V.str j)=decide (i=j):=decide_eq_decide.mpr ⟨fun z=>by cases z;rfl,fun z=>by rw[z]⟩
  rw[e];exact hq _ _ H h (Same.refl H) (.bl _)
 ·rename_i i j;rw[rx.blI,ry.blI];refine .inl ⟨rfl,?_⟩;have e:decide (V.bl i=V.bl j)=decide (i=j):=decide_eq_decide.mpr ⟨fun z=>by cases z;rfl,fun z=>by rw[z]⟩
  rw[e];exact hq _ _ H h (Same.refl H) (.bl _)
 ·exact .inr ⟨hd,O,_,_,rx,ry,h.1,h.2.1,hq _ _ H h.2.2 (Same.refl H) (.bl _)⟩
theorem zkK:Gp2 X (rNeA X.K) oNe:=by
 intro hd O H x y t u Q R dom rx ry h hq;unfold oNe at h;split at h
 ·rename_i i j;rw[rx.intI,ry.intI];refine .inl ⟨rfl,?_⟩;have e:decide (V.int i=V.int j)=decide (i=j):=decide_eq_decide.mpr ⟨fun z=>by cases z;rfl,fun z=>by rw[z]⟩
  rw[e];exact hq _ _ H h (Same.refl H) (.bl _)
 ·rename_i i j;rw[rx.strI,ry.strI];refine .inl ⟨rfl,?_⟩;have e:decide (V.str i=V.str j)=decide (i=j):=decide_eq_decide.mpr ⟨fun z=>by cases z;rfl,fun z=>by rw[z]⟩
  rw[e];exact hq _ _ H h (Same.refl H) (.bl _)
 ·rename_i i j;rw[rx.blI,ry.blI];refine .inl ⟨rfl,?_⟩;have e:decide (V.bl i=V.bl j)=decide (i=j):=decide_eq_decide.mpr ⟨fun z=>by cases z;rfl,fun z=>by rw[z]⟩
  rw[e];exact hq _ _ H h (Same.refl H) (.bl _)
 ·exact .inr ⟨hd,O,_,_,rx,ry,h.1,h.2.1,hq _ _ H h.2.2 (Same.refl H) (.bl _)⟩
def oLtA:G2
 | .int i,.int j,R=>R (.bool (decide (i<j)))
 | .str i,.str j,R=>R (.bool (decide (i.cps.toList<j.cps.toList)))
 | .tuple xs,.tuple ys,R=>∃ns ms,xs=ns.map PyData.int/\ys=ms.map PyData.int/\R (.bool (HT.lexLt ns ms))
 | _,_,_=>False
def rLtA(K:qF):R2:=fun x y H Q=>(rI0 fun i j=>.bl (decide (i<j))) x y H Q\/(∃i j,x=.str i/\y=.str j/\Q (.bl (decide (i.cps.toList<j.cps.toList))) H)\/rLtT K x y H Q
theorem zfo(hr:Room k X.A):OpR X (compareOp .Lt) (rLtA X.K):=OpR.or zjZ (OpR.or zfn (zjY hr.units0))
theorem zbO{K:qF}{hd:Option Addr}{O:Addr->Prop}{H:Hp}:∀{ns:List Int}{vs:List V},Reps K hd O H vs (ns.map PyData.int)->vs=ns.map V.int
 | [],_,h=>by cases h;rfl
 | n::ns,_,h=>by
  cases h with
  | cons h r=>rw[h.intI,zbO r];rfl
theorem zfL:Gp2 X (rLtA X.K) oLtA:=by
 intro hd O H x y t u Q R dom rx ry h hq;unfold oLtA at h;split at h
 ·exact .inl ⟨_,_,rx.intI,ry.intI,hq _ _ H h (Same.refl H) (.bl _)⟩
 ·exact .inr (.inl ⟨_,_,rx.strI,ry.strI,hq _ _ H h (Same.refl H) (.bl _)⟩)
 ·obtain⟨ns,ms,rfl,rfl,h⟩:=h;obtain⟨p,vs,e1,s1,r1⟩:=rx.tupI;obtain⟨q,ws,e2,s2,r2⟩:=ry.tupI;rw[zbO r1]at s1;rw[zbO r2]at s2;exact .inr (.inr ⟨p,q,ns,ms,e1,e2,s1,s2,hq _ _ H h (Same.refl H) (.bl _)⟩)
 ·exact h.elim
def oLeA:G2
 | .int i,.int j,R=>R (.bool (decide (i<=j)))
 | .str i,.str j,R=>R (.bool (!decide (j.cps.toList<i.cps.toList)))
 | _,_,_=>False
def rLeA:R2:=fun x y H Q=>(rI0 fun i j=>.bl (decide (i<=j))) x y H Q\/(∃i j,x=.str i/\y=.str j/\Q (.bl (!decide (j.cps.toList<i.cps.toList))) H)
theorem zfp:OpR X (compareOp .LtE) (fun x y H Q=>∃i j,x=.str i/\y=.str j/\Q (.bl (!decide (j.cps.toList<i.cps.toList))) H):=by
 intro pins s σ H x y v u Q I rx ry h;obtain⟨i,j,rfl,rfl,q⟩:=h;obtain⟨t,rfl⟩:=rx;obtain⟨t',rfl⟩:=ry;exact PySem.P.le_str ⟨.bl _,H,I,rfl,q⟩
theorem zhp:OpR X (compareOp .LtE) rLeA:=OpR.or zmg zfp
theorem zhv:Gp2 X rLeA oLeA:=by
 intro hd O H x y t u Q R dom rx ry h hq;unfold oLeA at h;split at h
 ·exact .inl ⟨_,_,rx.intI,ry.intI,hq _ _ H h (Same.refl H) (.bl _)⟩
 ·exact .inr ⟨_,_,rx.strI,ry.strI,hq _ _ H h (Same.refl H) (.bl _)⟩
 ·exact h.elim
variable{r r':R2}{g g':G2}
end
section
variable{X:Cx}{a b c e:Expr}{es rest:List Expr}{d da db dc:DTE}{t u:DTT}{pos p:Pos}{k:Nat}
def truD:PyData->(Bool->Prop)->Prop
 | .none,R=>R false
 | .bool b,R=>R b
 | .int i,R=>R (decide (i≠0))
 | .str x,R=>x.length<=16777216/\R (decide (x.length≠0))
 | .list ts,R=>R (!ts.isEmpty)
 | .tuple ts,R=>R (!ts.isEmpty)
 | _,_=>False
def dTru(d:DTE):DTT:=fun ρ n R=>d ρ n fun t n'=>truD t fun b=>R b n'
theorem zjn{K:qF}{hd:Option Addr}{O:Addr->Prop}{H:Hp}{v:V}{t:PyData}{Q:Bool->Hp->Prop}{R:Bool->Prop}(r:RepT K hd O H v t)(h:truD t R)(hq:∀b,R b->Q b H):∃k,TruV K v H k/\Q k H:=by
 cases t with
 | none=>exact⟨false,by rw[r.nonI];rfl,hq _ h⟩
 | bool b=>exact⟨b,by rw[r.blI];rfl,hq _ h⟩
 | int i=>exact⟨decide (i≠0),by rw[r.intI];show _=(i != 0);by_cases z:i=0 <;> simp[z],hq _ h⟩
 | str x =>
  refine⟨decide (x.length≠0),by rw[r.strI];exact⟨h.1,by by_cases z:x.length=0 <;> simp[z]⟩,hq _ h.2⟩
 | list ts =>
  obtain⟨p,vs,e,h1,h2⟩:=r.lstI;subst e;refine⟨!ts.isEmpty,.inl ⟨vs,.of h1,?_⟩,hq _ h⟩;cases h2 <;> rfl
 | tuple ts =>
  obtain⟨p,vs,e,h1,h2⟩:=r.tupI;subst e;refine⟨!ts.isEmpty,.inr (.inl ⟨vs,h1,?_⟩),hq _ h⟩;cases h2 <;> rfl
 | dict _=>exact h.elim
theorem zfN(ha:DL X a da)(he:∀whole,isTrue a X.env whole=(do let v <- whole;standAt a.pos;holding [v] (truthy v)):=by intro _;rfl):DT X a (dTru da):=by
 obtain⟨ta,pa,ha⟩:=ha;refine⟨_,zgt pa he,fun C ρ σ H n Q R S h hq=>?_⟩
 refine ha C ρ σ H n _ _ S h fun t n' v H' r e1 h1 q=>?_
 exact zjn q r fun b rb=>hq b n' H' rb e1 h1
def dAnd(t u:DTT):DTT:=fun ρ n R=>t ρ n fun b n1=>if b=true then u ρ n1 R else R false n1
def dOr(t u:DTT):DTT:=fun ρ n R=>t ρ n fun b n1=>if b=true then R true n1 else u ρ n1 R
def dNot(t:DTT):DTT:=fun ρ n R=>t ρ n fun b n1=>R (!b) n1
theorem zkZ(h:DW X a t):DT X a t:=by
 obtain⟨ta,pa,h⟩:=h;exact⟨_,pa.pt,h⟩
theorem ziN(h:DT X a t):DW X (.BoolOp .And [a] pos) t:=by
 obtain⟨ta,pa,h⟩:=h;exact⟨_,zhX pa,h⟩
theorem zkW(h:DT X a t):DW X (.BoolOp .Or [a] pos) t:=by
 obtain⟨ta,pa,h⟩:=h;exact⟨_,zjF pa,h⟩
theorem zkY(h:DT X a t)(h':DW X (.BoolOp .And (b::rest) pos) u):DW X (.BoolOp .And (a::b::rest) pos) (dAnd t u):=by
 obtain⟨ta,pa,h⟩:=h;obtain⟨tb,pb,h'⟩:=h';refine⟨_,zjG pa pb,fun C ρ σ H n Q R S hd hq=>?_⟩
 refine h C ρ σ H n _ _ S hd fun b n1 H1 r e1 h1=>?_
 cases b with
 | true=>exact iteT (h' C ρ σ H1 n1 Q R (S.on e1 h1) (by simpa using r) fun b n2 H2 r e2 h2=>hq b n2 H2 r (e1.trans e2) h2)
 | false=>exact iteF (hq _ n1 H1 (by simpa using r) e1 h1)
theorem zkX(h:DT X a t)(h':DW X (.BoolOp .Or (b::rest) pos) u):DW X (.BoolOp .Or (a::b::rest) pos) (dOr t u):=by
 obtain⟨ta,pa,h⟩:=h;obtain⟨tb,pb,h'⟩:=h';refine⟨_,zmb pa pb,fun C ρ σ H n Q R S hd hq=>?_⟩
 refine h C ρ σ H n _ _ S hd fun b n1 H1 r e1 h1=>?_
 cases b with
 | false=>exact iteF (h' C ρ σ H1 n1 Q R (S.on e1 h1) (by simpa using r) fun b n2 H2 r e2 h2=>hq b n2 H2 r (e1.trans e2) h2)
 | true=>exact iteT (hq _ n1 H1 (by simpa using r) e1 h1)
theorem zhy(h:DT X a t):DT X (.UnaryOp .Not a pos) (dNot t):=by
 obtain⟨ta,pa,h⟩:=h;refine⟨_,zjH pa,fun C ρ σ H n Q R S hd hq=>?_⟩
 exact h C ρ σ H n _ _ S hd fun b n1 H1 r e1 h1=>hq _ n1 H1 r e1 h1
def bolD:PyData->(Bool->Prop)->Prop
 | .bool b,R=>R b
 | _,_=>False
def dNil:DTA:=fun _ n R=>R [] n
def Qk(d:DTE)(ds:DTA):DTA:=fun ρ n R=>d ρ n fun t n1=>ds ρ n1 fun ts n2=>R (t::ts) n2
theorem Jb:DB X [] dNil:=⟨_,JV,fun C ρ σ H n Q R S h hq=>hq [] n [] H h ExtE.refl S.hnd .nil rfl⟩
theorem zfV(h:DE X e d)(hr:DB X es ds)(hs:starEach (e::es) X.env=(false,eval e X.env)::starEach es X.env):DB X (e::es) (Qk d ds):=by
 obtain⟨ta,pa,h⟩:=h;obtain⟨tb,pb,hr⟩:=hr;refine⟨_,JE pa pb hs,fun C ρ σ H n Q R S hd hq=>?_⟩
 refine h C ρ σ H n _ _ S hd fun t n1 v H1 r e1 h1 q1=>?_
 refine hr C ρ σ H1 n1 _ _ (S.on e1 h1) r fun ts n2 vs H2 r2 e2 h2 q2 l2=>?_
 exact hq _ n2 _ H2 r2 (e1.trans e2) h2 (.cons (e2.rep S.hx q1) q2) (by simp[l2])
def QG(K:qF)(hd:Option Addr)(O:Addr->Prop)(H:Hp):List V->List PyData->Prop:=Paired (RepT K hd O H)
def DBL(X:Cx)(es:List Expr)(d:DTA):Prop:=∃ta,PB X es ta/\∀(C:Ctx) (ρ:En) (σ:St) (H:Hp) (n:Nat) (Q:List V->Hp->Prop) (R:List PyData->Nat->Prop),Stt X.K C ρ σ H n->d ρ n R ->
 (∀ts n' vs H',R ts n'->ExtE C.hd H H'->Hn C.hd H' n'->QG X.K C.hd (Own C ρ σ) H' vs ts->ts.length=es.length->Q vs H')->ta σ H Q
theorem JO:DBL X [] dNil:=⟨_,JV,fun C ρ σ H n Q R S h hq=>hq [] n [] H h ExtE.refl S.hnd .nil rfl⟩
theorem Ju(h:DL X e d)(hr:DBL X es ds)(hs:starEach (e::es) X.env=(false,eval e X.env)::starEach es X.env):DBL X (e::es) (Qk d ds):=by
 obtain⟨ta,pa,h⟩:=h;obtain⟨tb,pb,hr⟩:=hr;refine⟨_,JE pa pb hs,fun C ρ σ H n Q R S hd hq=>?_⟩
 refine h C ρ σ H n _ _ S hd fun t n1 v H1 r e1 h1 q1=>?_
 refine hr C ρ σ H1 n1 _ _ (S.on e1 h1) r fun ts n2 vs H2 r2 e2 h2 q2 l2=>?_
 exact hq _ n2 _ H2 r2 (e1.trans e2) h2 (.cons (e2.repT S.hx q1) q2) (by simp[l2])
def dTup(ds:DTA):DTE:=fun ρ n R=>ds ρ n fun ts n1=>R (.tuple ts) n1
theorem Qo(h:DB X es ds)(hl:es.length<=sizeLine:=by decide):DE X (.Tuple es x1 pos) (dTup ds):=by
 obtain⟨ta,pa,h⟩:=h;refine⟨_,zh_ pa,fun C ρ σ H n Q R S hd hq=>?_⟩
 refine h C ρ σ H n _ _ S hd fun ts n1 vs H1 r e1 h1 q1 l1=>⟨by rw[q1.length,l1];exact hl,fun p hp=>?_⟩
 have S1:=S.on e1 h1;exact hq _ n1 _ _ r (e1.trans (ExtE.new hp)) (h1.same (JC hp)) (.newT (S1.free hp) hp q1)
theorem Qc(h:DB X es ds)(hl:es.length<=sizeLine:=by decide):DN X (.List es pos) ds:=by
 obtain⟨ta,pa,h⟩:=h;refine⟨_,zfj pa,fun C ρ σ H n Q R S hd hq=>?_⟩
 refine h C ρ σ H n _ _ S hd fun ts n1 vs H1 r e1 h1 q1 l1=>⟨by rw[q1.length,l1];exact hl,fun p hp=>?_⟩
 have S1:=S.on e1 h1;have hp0:H p=none:=by
  cases z:H p with
  | none=>rfl
  | some o =>
   by_cases y:C.hd=some p
   ·obtain⟨d,m,t,q,_⟩:=h1 p y;rw[hp]at q;cases q
   ·rw[e1 p o z y]at hp;cases hp
 refine hq ts n1 p vs _ r (e1.trans (ExtE.new hp)) (h1.same (JC hp)) hp0 Jn ?_;refine q1.mono (fun b o hb z=>z.elim id fun z=>?_) fun b o _ hb=>JC hp b o hb
 subst z;rw[hp]at hb;cases hb
end
section
variable{X:Cx}{a b c e:Expr}{es rest:List Expr}{d da db dc:DTE}{ds:DTA}{pos p:Pos}{k:Nat}{x:Str}
abbrev GC:=List PyData->(PyData->Prop)->Prop
def QM(g:GC)(ds:DTA):DTE:=fun ρ n R=>ds ρ n fun ts n1=>g ts fun z=>R z n1
def GpC(X:Cx)(r:List V->Hp->VK->Prop)(g:GC):Prop:=∀(hd:Option Addr) (O:Addr->Prop) (H:Hp) (xs:List V) (ts:qD) (Q:VK) (R:PyData->Prop),(∀p,O p->H p≠none)->QG X.K hd O H xs ts->g ts R ->
 (∀z v H',R z->Same H H'->Rep X.K hd O H' v z->Q v H')->r xs H Q
theorem JW{id:String}{r:List V->Hp->VK->Prop}{g:GC}(hc:Jw X (.builtin id) r)(hgp:GpC X r g)(hm:X.mg x=none)(hv:bootBuiltins x=some (.builtin id))(h:DBL X (e::es) ds)(hg:Gl X x:=by rfl)(hn:x ≠ "__name__":=by decide) (hdb:(x == ("__debug__":Str))=false:=by rfl) :
  DE X (.Call (.Name x p) (e::es) [] pos) (QM g ds):=by
 obtain⟨ta,pa,h⟩:=h;refine⟨_,Uf hc hm hv pa hg hn hdb,fun C ρ σ H n Q R S hd hq=>?_⟩
 refine h C ρ σ H n _ _ S hd fun ts n1 vs H1 r1 e1 h1 q1 _=>?_
 have S1:=S.on e1 h1;exact hgp C.hd (Own C ρ σ) H1 vs ts Q _ (fun p=>S1.dom) q1 r1 fun z u H' rz sm rp=>hq z n1 u H' rz (e1.trans sm.ext) (h1.same sm) rp
theorem zmR(hc:Jw X (.type T) r)(hgp:GpC X r g)(hm:X.mg x=none)(hv:bootBuiltins x=some (.type T))(h:DBL X (e::es) ds)(hg:Gl X x:=by rfl)(hn:x ≠ "__name__":=by decide) (hdb:(x == ("__debug__":Str))=false:=by rfl) :
  DE X (.Call (.Name x p) (e::es) [] pos) (QM g ds):=by
 obtain⟨ta,pa,h⟩:=h;refine⟨_,Ug hc hm hv pa hg hn hdb,fun C ρ σ H n Q R S hd hq=>?_⟩
 refine h C ρ σ H n _ _ S hd fun ts n1 vs H1 r1 e1 h1 q1 _=>?_
 have S1:=S.on e1 h1;exact hgp C.hd (Own C ρ σ) H1 vs ts Q _ (fun p=>S1.dom) q1 r1 fun z u H' rz sm rp=>hq z n1 u H' rz (e1.trans sm.ext) (h1.same sm) rp
theorem Qn{K:qF}{hd:Option Addr}{O:Addr->Prop}{H:Hp}{xs:List V}{t:PyData}(h:QG K hd O H xs [t]):∃v,xs=[v]/\RepT K hd O H v t:=by
 cases h with
 | cons h r=>cases r;exact⟨_,rfl,h⟩
theorem zhl{K:qF}{hd:Option Addr}{O:Addr->Prop}{H:Hp}{xs:List V}{t u:PyData}(h:QG K hd O H xs [t,u]):∃v w,xs=[v,w]/\RepT K hd O H v t/\RepT K hd O H w u:=by
 cases h with
 | cons h r=>cases r with|cons h2 r=>cases r;exact⟨_,_,rfl,h,h2⟩
def bLen:GC:=fun l R=>(∃ts,l=[.list ts]/\R (.int ts.length))\/(∃ts,l=[.tuple ts]/\R (.int ts.length))\/(∃x:Str,l=[.str x]/\x.length<=16777216/\R (.int x.length))\/∃ts,l=[.dict [(.none,.list ts)]]/\R (.int ts.length)
def rLen(K:qF):List V->Hp->VK->Prop:=fun xs H Q=>∃x n,xs=[x]/\LenV K x H n/\Q (.int n) H
theorem zhu:GpC X (rLen X.K) bLen:=by
 intro hd O H xs ts Q R dom rs h hq;rcases h with⟨ts,rfl,h⟩|⟨ts,rfl,h⟩|⟨x,rfl,h⟩|⟨ts,rfl,h⟩
 ·obtain⟨v,rfl,r⟩:=Qn rs;obtain⟨p,vs,rfl,h1,h2⟩:=r.lstI;exact⟨_,_,rfl,.inl ⟨vs,.of h1,rfl⟩,by rw[h2.length];exact hq _ _ H h (Same.refl H) (.int _)⟩
 ·obtain⟨v,rfl,r⟩:=Qn rs;obtain⟨p,vs,rfl,h1,h2⟩:=r.tupI;exact⟨_,_,rfl,.inr ⟨vs,h1,rfl⟩,by rw[h2.length];exact hq _ _ H h (Same.refl H) (.int _)⟩
 ·obtain⟨v,rfl,r⟩:=Qn rs;rw[r.strI];exact⟨_,_,rfl,⟨h.1,rfl⟩,hq _ _ H h.2 (Same.refl H) (.int _)⟩
 ·obtain⟨v,rfl,r⟩:=Qn rs;have r:=r.rep (by intro _ z;cases z)
  generalize e:(PyData.dict [(PyData.none,PyData.list ts)])=t at r;cases r with
  | scr h1 o =>
   simp only[SCR,PyData.dict.injEq,List.cons.injEq,Prod.mk.injEq,PyData.list.injEq,true_and,and_true]at e;subst e;exact⟨_,_,rfl,.inl ⟨_,.inl h1,rfl⟩,by simpa using hq _ _ H h (Same.refl H) (.int _)⟩
  | scrS h1 =>
   simp only[SCR,PyData.dict.injEq,List.cons.injEq,Prod.mk.injEq,PyData.list.injEq,true_and,and_true]at e;subst e;exact⟨_,_,rfl,.inl ⟨_,h1 H,rfl⟩,by simpa using hq _ _ H h (Same.refl H) (.int _)⟩
  | hand _=>simp[HAND]at e
  | exc _ _=>simp[EXC]at e
  | dct _ _=>cases e
  | dcK _ _ _ e'=>cases e;exact(dict_noK e').elim
  | dcT _ _ _ e'=>cases e;exact(dict_noT e').elim
  | _=>cases e
def bMin:GC
 | [.int i,.int j],R=>R (.int (if j<i then j else i))
 | _,_=>False
def bMax:GC
 | [.int i,.int j],R=>R (.int (if j > i then j else i))
 | _,_=>False
theorem zfJ:GpC X (fun xs H Q=>∃i j,xs=[.int i,.int j]/\Q (.int (if j<i then j else i)) H) bMin:=by
 intro hd O H xs ts Q R dom rs h hq;unfold bMin at h;split at h
 ·obtain⟨v,w,rfl,r1,r2⟩:=zhl rs;rw[r1.intI,r2.intI];exact⟨_,_,rfl,hq _ _ H h (Same.refl H) (.int _)⟩
 ·exact h.elim
theorem zfK:GpC X (fun xs H Q=>∃i j,xs=[.int i,.int j]/\Q (.int (if j > i then j else i)) H) bMax:=by
 intro hd O H xs ts Q R dom rs h hq;unfold bMax at h;split at h
 ·obtain⟨v,w,rfl,r1,r2⟩:=zhl rs;rw[r1.intI,r2.intI];exact⟨_,_,rfl,hq _ _ H h (Same.refl H) (.int _)⟩
 ·exact h.elim
def QK:GC
 | [.list ts],R=>R (.tuple ts)
 | [.tuple ts],R=>R (.tuple ts)
 | _,_=>False
theorem zg0:GpC X (fun xs H Q=>∃p ys,xs=[.ref p]/\((SqL X.K H p ys/\∀l,H l=none->Q (.ref l) (upd H l (.tup ys)))\/(SqT X.K H p ys/\Q (.ref p) H))) QK:=by
 intro hd O H xs ts Q R dom rs h hq;unfold QK at h;split at h
 ·obtain⟨v,rfl,r1⟩:=Qn rs;obtain⟨p,vs,rfl,h1,h2⟩:=r1.lstI;refine⟨p,vs,rfl,.inl ⟨.of h1,fun l hl=>?_⟩⟩
  exact hq _ _ _ h (JC hl) (.newT (fun z=>dom l z hl) hl h2)
 ·obtain⟨v,rfl,r1⟩:=Qn rs;obtain⟨p,vs,rfl,h1,h2⟩:=r1.tupI;exact⟨p,vs,rfl,.inr ⟨h1,hq _ _ H h (Same.refl H) (r1.rep (by intro _ z;cases z))⟩⟩
 ·exact h.elim
def Qz:PyData->(List PyData->Prop)->Prop
 | .list ts,R=>R ts
 | .tuple ts,R=>R ts
 | _,_=>False
def tyN:PyData->Option String
 | .none=>some "NoneType"
 | .bool _=>some "bool"
 | .int _=>some "int"
 | .str _=>some "str"
 | .list _=>some "list"
 | .tuple _=>some "tuple"
 | .dict []=>some "dict"
 | .dict _=>none
def rIsi(K:qF):List V->Hp->VK->Prop:=fun xs H Q=>∃x hd O t T y b,xs=[x,.ty T]/\RepT K hd O H x t/\tyN t=some y/\kitB y T=some b/\Q (.bl b) H
theorem zf5:Jw X (.builtin "isinstance") (rIsi X.K):=by
 intro pins s σ H xs us Q I r h;obtain⟨x,hd,O,t,T,y,b,rfl,rp,ty,e,q⟩:=h;cases r with
 | cons r1 r2 =>
  cases r2 with
  | cons r3 r4 =>
   cases r4;cases(show _=Value.type T from r3)
   have fin:∀y',tyN t=some y'->y'=y:=fun y' h=>Option.some.inj (h.symm.trans ty)
   have go:Ty H x y->wpAny (model X.prog X.w) X.A (call (.builtin "isinstance") [_,Value.type T]) (EP X pins σ Q) X.xe s:=fun ty=>zfH I r1 ty.of ((Qy X.K y T).trans e) fun tk=>⟨.bl b,H,I.tok tk,rfl,q⟩
   rcases rp with rp|⟨a,vs,ds,rfl,rfl,h3,h4,_⟩|⟨a,zs,ep,ks,rfl,rfl,h3,h4,_⟩
   ·cases rp with
    | non=>cases ty;exact go .non
    | bl b=>cases ty;exact go (.bl b)
    | int i=>cases ty;exact go (.int i)
    | str i=>cases ty;exact go (.str i)
    | tup h o r=>cases ty;exact go (.tup h)
    | lst h o r=>cases ty;exact go (.lst h)
    | @dct a ep h o =>
      cases ty;cases(show _=Value.ref a from r1)
      obtain⟨⟨_,_,_,ob,es,g1,g2,_⟩,_⟩:=I.hok a _ h;exact PySem.W.kia_one PySem.W.kitx_dict I.kIn ⟨ob,g1,g2.1⟩ ((Qy X.K "dict" T).trans e) (fun z=>nomatch z) fun tk=>⟨.bl b,H,I.tok tk,rfl,q⟩
    | @dcK a kvs ep ks ps h o r e' =>
     cases ps with
     | nil =>
      cases ty;cases(show _=Value.ref a from r1)
      obtain⟨⟨_,_,_,ob,es,g1,g2,_⟩,_⟩:=I.hok a _ h;exact PySem.W.kia_one PySem.W.kitx_dict I.kIn ⟨ob,g1,g2.1⟩ ((Qy X.K "dict" T).trans e) (fun z=>nomatch z) fun tk=>⟨.bl b,H,I.tok tk,rfl,q⟩
     | cons _ _=>simp[tyN]at ty
    | @dcT a zs ep ks ps h o r e' =>
     cases ps with
     | nil =>
      cases ty;cases(show _=Value.ref a from r1)
      obtain⟨⟨_,_,_,ob,es,g1,g2,_⟩,_⟩:=I.hok a _ h;exact PySem.W.kia_one PySem.W.kitx_dict I.kIn ⟨ob,g1,g2.1⟩ ((Qy X.K "dict" T).trans e) (fun z=>nomatch z) fun tk=>⟨.bl b,H,I.tok tk,rfl,q⟩
     | cons _ _=>simp[tyN]at ty
    | hand h=>simp[HAND,tyN]at ty
    | scr h o=>simp[SCR,tyN]at ty
    | scrS h=>simp[SCR,tyN]at ty
    | exc h o=>simp[EXC,tyN]at ty
    | @tupS a vs ds h r =>
     cases ty;cases(show _=Value.ref a from r1)
     obtain⟨o,its,n,hk,hc,_⟩:=h;exact PySem.W.kia_one PySem.W.kitx_tuple I.kIn ⟨o,I.kIn a o hk,hc⟩ ((Qy X.K "tuple" T).trans e) (fun z=>nomatch z) fun tk=>⟨.bl b,H,I.tok tk,rfl,q⟩
   ·cases ty;exact go (.lst h3)
   ·cases ks with
    | nil =>
     cases ty;cases(show _=Value.ref a from r1)
     obtain⟨⟨_,_,_,ob,es,g1,g2,_⟩,_⟩:=I.hok a _ h3;exact PySem.W.kia_one PySem.W.kitx_dict I.kIn ⟨ob,g1,g2.1⟩ ((Qy X.K "dict" T).trans e) (fun z=>nomatch z) fun tk=>⟨.bl b,H,I.tok tk,rfl,q⟩
    | cons _ _=>simp[tyN,Qu]at ty
end
section
variable{X:Cx}{a b c e:Expr}{es rest:List Expr}{d da db dc:DTE}{ds:DTA}{pos p:Pos}{k:Nat}{x:Str}
theorem Reps.atI{K:qF}{hd:Option Addr}{O:Addr->Prop}{H:Hp}{vs ts}{i:Int}{t}(r:Reps K hd O H vs ts)(h:L2.atI ts i=some t):∃v,L2.atI vs i=some v/\Rep K hd O H v t:=by
 unfold L2.atI at h ⊢;rw[r.length];cases e:ixN ts.length i with
 | none=>rw[e]at h;cases h
 | some j =>
  rw[e]at h;have h:ts[j]?=some t:=h;exact r.get h
def oIx:G2
 | .list ts,.int i,R=>match atI ts i with|some t=>R t|none=>False
 | .tuple ts,.int i,R=>match atI ts i with|some t=>R t|none=>False
 | .str x,.int i,R=>x.length<=16777216/\match atI x.cps.toList i with|some c=>R (.str ⟨#[c]⟩)|none=>False
 | _,_,_=>False
theorem zmM:Gp2 X (rIx X.K) oIx:=by
 intro hd O H x y t u Q R dom rx ry h hq;unfold oIx at h;split at h
 ·rename_i ts i;obtain⟨p,vs,rfl,h1,h2⟩:=rx.lstI;split at h
  ·rename_i t et;obtain⟨v,ev,rv⟩:=h2.atI et;exact .inl ⟨p,vs,i,v,rfl,ry.intI,.of h1,ev,hq _ _ H h (Same.refl H) rv⟩
  ·exact h.elim
 ·rename_i ts i;obtain⟨p,vs,rfl,h1,h2⟩:=rx.tupI;split at h
  ·rename_i t et;obtain⟨v,ev,rv⟩:=h2.atI et;exact .inr (.inl ⟨p,vs,i,v,rfl,ry.intI,h1,ev,hq _ _ H h (Same.refl H) rv⟩)
  ·exact h.elim
 ·rename_i z i;obtain⟨h0,h⟩:=h;split at h
  ·rename_i c ec;exact .inr (.inr ⟨z,i,c,rx.strI,ry.intI,h0,ec,hq _ _ H h (Same.refl H) (.str _)⟩)
  ·exact h.elim
 ·exact h.elim
theorem JL(ha:DL X a da)(hb:DL X b db)(hs:zgb b:=by intro _ _;rfl):DE X (.Subscript a b pos) (dOp oIx da db):=by
 obtain⟨ta,pa,ha⟩:=ha;obtain⟨tb,pb,hb⟩:=hb;refine⟨_,J9 zko pa pb hs,fun C ρ σ H n Q R S h hq=>?_⟩
 refine two ha hb S h fun x y n2 v w H2 r2 e S2 q1 q2=>?_
 exact zmM C.hd (Own C ρ σ) H2 v w x y Q _ (fun p=>S2.dom) q1 q2 r2 fun z u H' rz sm rp=>hq z n2 u H' rz (e.trans sm.ext) (S2.hnd.same sm) rp
def zjD(K:qF):R2:=fun x y H Q=>∃a b xs ys,x=.ref a/\y=.ref b/\SqT K H a xs/\SqT K H b ys/\xs.length+ys.length<=sizeLine /\
 (xs=[]->Q (.ref b) H)/\(ys=[]->Q (.ref a) H)/\∀p,H p=none->Q (.ref p) (upd H p (.tup (xs++ys)))
theorem zih:OpR X (binaryOp .Add) (zjD X.K):=by
 intro pins s σ H x y v u Q I rx ry h;obtain⟨a,b,xs,ys,rfl,rfl,ha,hb,hz,q0,q1,q2⟩:=h
 by_cases hx:xs=[]
 ·cases rx;cases ry;obtain⟨its,r1,p1,_⟩:=I.tuple ha;obtain⟨its2,r2,p2,_⟩:=I.tuple hb;have hv:its=[]:=r1.nil_iff.mpr hx;obtain⟨⟨cls,dd,data,sl⟩,ho,hc,n,hd⟩:=id p1;obtain⟨⟨cls2,dd2,data2,sl2⟩,ho2,hc2,n2,hd2⟩:=id p2;simp only at hc hd hc2 hd2;subst hc hd hc2 hd2;exact concat_meets ⟨_,ho,rfl⟩ ⟨_,ho2,rfl⟩ noFill_tuple_add seq_tuple_add PySem.F.slot_tuple_add PySem.F.entry_tuple_add (PySem.F.args_tuple_add_2 _ _)
   (tuple_addW0 a b its.toArray its2.toArray n n2 dd dd2 sl sl2 (by simp[hv])) ⟨ho,ho2,⟨.ref b,H,I,rfl,q0 hx⟩⟩
 ·exact zig pins s σ H _ _ v u Q I rx ry ⟨a,b,xs,ys,rfl,rfl,ha,hb,hx,hz,q1,fun _=>q2⟩
def oAdd:G2
 | .int i,.int j,R=>R (.int (i+j))
 | .str i,.str j,R=>i.length+j.length<=16777216/\R (.str (i++j))
 | .tuple xs,.tuple ys,R=>xs.length+ys.length<=16777216/\R (.tuple (xs++ys))
 | _,_,_=>False
def zjE(K:qF):R2:=fun x y H Q=>(rI0 fun i j=>.int (i+j)) x y H Q\/(∃i j,x=.str i/\y=.str j/\i.length+j.length<=sizeLine/\Q (.str (i++j)) H)\/zjD K x y H Q
theorem zii:OpR X (binaryOp .Add) (zjE X.K):=OpR.or JY (OpR.or zex zih)
theorem zkL:Gp2 X (zjE X.K) oAdd:=by
 intro hd O H x y t u Q R dom rx ry h hq;unfold oAdd at h;split at h
 ·exact .inl ⟨_,_,rx.intI,ry.intI,hq _ _ H h (Same.refl H) (.int _)⟩
 ·exact .inr (.inl ⟨_,_,rx.strI,ry.strI,h.1,hq _ _ H h.2 (Same.refl H) (.str _)⟩)
 ·rename_i xs ys;obtain⟨p,vs,rfl,h1,h2⟩:=rx.tupI;obtain⟨q,ws,rfl,h3,h4⟩:=ry.tupI;refine .inr (.inr ⟨p,q,vs,ws,rfl,rfl,h1,h3,by rw[h2.length,h4.length];exact h.1,fun e=>?_,fun e=>?_,fun l hl=>?_⟩)
  ·subst e;cases h2;exact hq _ _ H h.2 (Same.refl H) (ry.rep (by intro _ z;cases z))
  ·subst e;cases h4;exact hq _ _ H h.2 (Same.refl H) (by rw[List.append_nil];exact rx.rep (by intro _ z;cases z))
  ·exact hq _ _ _ h.2 (JC hl) (.newT (fun z=>dom l z hl) hl (h2.append h4))
 ·exact h.elim
theorem Qe(ha:DL X a da)(hb:DL X b db):DE X (.BinOp a .Add b pos) (dOp oAdd da db):=J7 zii zkL ha hb
def dCat(da db:DTE):DTA:=fun ρ n R=>da ρ n fun x n1=>db ρ n1 fun y n2=>match x,y with|.list xs,.list ys=>xs.length+ys.length<=16777216/\R (xs++ys) n2|_,_=>False
theorem UF{C:Ctx}{H H1:Hp}{n1:Nat}{p:Addr}(e1:ExtE C.hd H H1)(h1:Hn C.hd H1 n1)(hp:H1 p=none):H p=none:=by
 cases z:H p with
 | none=>rfl
 | some o =>
  by_cases y:C.hd=some p
  ·obtain⟨d,m,t,q,_⟩:=h1 p y;rw[hp]at q;cases q
  ·rw[e1 p o z y]at hp;cases hp
theorem zdX{K:qF}{hd:Option Addr}{O:Addr->Prop}{H:Hp}{p:Addr}{o:HO}{vs ts}(hp:H p=none)(r:Reps K hd O H vs ts):Reps K hd (fun a=>O a\/a=p) (upd H p o) vs ts:=by
 refine r.mono (fun b o hb z=>z.elim id fun z=>?_) fun b o _ hb=>JC hp b o hb
 subst z;rw[hp]at hb;cases hb
theorem zhA(ha:DL X a da)(hb:DL X b db):DN X (.BinOp a .Add b pos) (dCat da db):=by
 obtain⟨ta,pa,ha⟩:=ha;obtain⟨tb,pb,hb⟩:=hb;refine⟨_,Jh zj2 pa pb,fun C ρ σ H n Q R S h hq=>?_⟩
 refine two ha hb S h fun x y n2 v w H2 r2 e S2 q1 q2=>?_
 split at r2
 ·obtain⟨p,vs,rfl,h1,h2⟩:=q1.lstI;obtain⟨q,ws,rfl,h3,h4⟩:=q2.lstI;refine⟨p,q,vs,ws,rfl,rfl,h1,h3,by rw[h2.length,h4.length];exact r2.1,fun l hl=>?_⟩
  exact hq _ n2 l _ _ r2.2 (e.trans (ExtE.new hl)) (S2.hnd.same (JC hl)) (UF e S2.hnd hl) Jn (zdX hl (h2.append h4))
 ·exact r2.elim
def oMul:=gI CMul fun i j=>i*j
theorem zfT(ha:DL X a da)(hb:DL X b db):DE X (.BinOp a .Mult b pos) (dOp oMul da db):=J7 JZ gp_I ha hb
abbrev GD:=List PyData->Nat->(PyData->Nat->Prop)->Prop
def spD(K:qF)(m:Nat)(g:GD):Sp:=fun vs H Q _=>∃(hd:Option Addr) (O:Addr->Prop) (ts:qD) (n:Nat) (R:qN),Reps K hd O H vs ts/\Hn hd H n/\(∀a,O a->MutO (H a))/\(∀a,hd=some a->O a)/\ts.length=m/\g ts n R /\
 ∀t n' v H',R t n'->ExtE hd H H'->Hn hd H' n'->Rep K hd O H' v t->Q v H'
def dFn(g:GD)(ds:DTA):DTE:=fun ρ n R=>ds ρ n fun ts n1=>g ts n1 R
theorem zmQ{st:Stmt}{ps:List Str}{f:Addr}{fd:FuncData}{g:GD}{m:Nat}(D:Bd.Def X.K X.mg x st ps f fd)(G:FnOk X.prog X.w X.K X.mg X.base CX0 k f fd ps (spD X.K m g))(hr:Room k X.A)(h:DB X (e::es) ds)(hm:(e::es).length=m:=by rfl)(hg:Gl X x:=by rfl)
  (hdb:(x == ("__debug__":Str))=false:=by rfl):DE X (.Call (.Name x p) (e::es) [] pos) (dFn g ds):=by
 obtain⟨ta,pa,h⟩:=h;refine⟨_,Bd.zia D G hr pa hg hdb,fun C ρ σ H n Q R S hd hq=>?_⟩
 refine h C ρ σ H n _ _ S hd fun ts n1 vs H1 r1 e1 h1 q1 l1=>?_
 have S1:=S.on e1 h1;rw[List.append_nil];exact⟨C.hd,Own C ρ σ,ts,n1,R,q1,h1,fun a=>S1.lst,fun a z=>.inl (S.hx a z),l1.trans hm,r1,fun t n' v H' rt e2 h2 q2=>hq t n' v H' rt (e1.trans e2) h2 q2⟩
def dFnL(g:GD)(ds:DTA):DTE:=fun ρ n R=>ds ρ n fun ts n1=>g ts n1 fun t n2=>Jt t=true/\R t n2
theorem zk8{st:Stmt}{ps:List Str}{f:Addr}{fd:FuncData}{g:GD}{m:Nat}(D:Bd.Def X.K X.mg x st ps f fd)(G:FnOk X.prog X.w X.K X.mg X.base CX0 k f fd ps (spD X.K m g))(hr:Room k X.A)(h:DBL X (e::es) ds)(hm:(e::es).length=m:=by rfl)(hg:Gl X x:=by rfl)
  (hdb:(x == ("__debug__":Str))=false:=by rfl):DE X (.Call (.Name x p) (e::es) [] pos) (dFnL g ds):=by
 obtain⟨ta,pa,h⟩:=h;refine⟨_,Bd.zia D G hr pa hg hdb,fun C ρ σ H n Q R S hd hq=>?_⟩
 refine h C ρ σ H n _ _ S hd fun ts n1 vs H1 r1 e1 h1 q1 l1=>?_
 have S1:=S.on e1 h1;rw[List.append_nil];have lend:∀{vs ts},QG X.K C.hd (Own C ρ σ) H1 vs ts->Reps X.K C.hd (fun a=>C.hd=some a) H1 vs ts:=by
  intro vs ts q;induction q with
  | nil=>exact .nil
  | cons r _ ih =>
   refine .cons ?_ ih;rcases r with r|⟨a,ws,us,rfl,rfl,h3,h4,h5⟩|⟨a,zs,ep,ks,rfl,rfl,h3,h4,h5⟩
   ·exact r.mono (fun a o _ z=>.inl (S.hx a z)) fun _ _ _ z=>z
   ·exact .lst h3 h5 (h4.mono (fun a o _ z=>.inl (S.hx a z)) fun _ _ _ z=>z)
   ·exact .dcT h3 h5 (h4.mono (fun a o _ z=>.inl (S.hx a z)) fun _ _ _ z=>z) rfl
 refine⟨C.hd,fun a=>C.hd=some a,ts,n1,_,lend q1,h1,fun a z=>?_,fun a z=>z,l1.trans hm,r1,fun t n' v H' rt e2 h2 q2=>?_⟩
 ·obtain⟨d,m,t,q,_⟩:=h1 a z;exact .inl ⟨_,q⟩
 ·exact hq t n' v H' rt.2 (e1.trans e2) h2 (q2.up (fun a z=>(S1.on e2 h2).lst z) rt.1)
end
section
variable{X:Cx}{pins:qO}{σ:St}{H H':Hp}{s s':Shared}{C e:Addr}
def Fly1(P:Program)(w:World)(l:List Env)(H H':Hp)(h:Heap)(C e:Addr)(h':Heap):Prop :=
 ∃B a0,Heap.FlyingW B l e (.ref C) a0 h'/\H' e=none/\h.get? e=none/\∀h'',B.StaysIn h''->h'.UpToSlots h''->Un (frs l) [] H H' h h''/\HOk P w H' h''
inductive FlyX (X:Cx)(C:Addr)(H':Hp)(e:Addr)(s':Shared):Prop
 | made {pins':qO} {σ':St} {s h1} (I:Inv X pins' σ' H' s) (m:Heap.MadeExcOf s.heap h1 e (.ref C) []) (hs:s'={ s with heap:=h1 })
 | on {pins':qO} {σ':St} {H1:Hp} {s} (I:Inv X pins' σ' H1 s) (os:s'.os=s.os) (bare:AllBare s'.gens) (f:Fly1 X.prog X.w X.stack H1 H' s.heap C e s'.heap)
def XW(X:Cx)(C:Addr)(H':Hp):Prop:=∀e s',FlyX X C H' e s'->X.xe (.ref e) s'
end
def Keep(C:Ctx)(ρ:En)(σ:St)(H:Hp)(ρ':En)(σ':St)(H':Hp):Prop:=∀a o,H a=some o->C.hd≠some a->¬OwnS ρ σ a->H' a=some o/\¬OwnS ρ' σ' a
structure JB where
 nx:En->Nat->Prop
 rt:PyData->Nat->Prop
 bk:En->Nat->Prop:=fun _ _=>False
 ct:En->Nat->Prop:=fun _ _=>False
 xr:Str->Nat->Prop:=fun _ _=>False
abbrev DTS:=JB->En->Nat->Prop
def XN(X:Cx)(c:Str)(H':Hp):Prop:=∀C,X.mg c=some (.ref C)->XW X C H'
structure Good(X:Cx)(C:Ctx)(ρ:En)(σ:St)(H:Hp)(D:Ends)(D':JB):Prop where
 nx:∀ρ' σ' H' n',D'.nx ρ' n'->Stt X.K C ρ' σ' H' n'->Keep C ρ σ H ρ' σ' H'->D.nx σ' H'
 rt:∀t n' v H',D'.rt t n'->Hn C.hd H' n'->(∀a o,H a=some o->C.hd≠some a->¬OwnS ρ σ a->H' a=some o)->Rep X.K C.hd C.ext H' v t->D.rt v H'
 bk:∀ρ' σ' H' n',D'.bk ρ' n'->Stt X.K C ρ' σ' H' n'->Keep C ρ σ H ρ' σ' H'->D.bk σ' H'
 ct:∀ρ' σ' H' n',D'.ct ρ' n'->Stt X.K C ρ' σ' H' n'->Keep C ρ σ H ρ' σ' H'->D.ct σ' H'
 xr:∀c n' H',D'.xr c n'->Hn C.hd H' n'->(∀a o,H a=some o->C.hd≠some a->¬OwnS ρ σ a->H' a=some o)->XN X c H'
def DS(X:Cx)(st:Stmt)(d:DTS):Prop:=∃ts,PS X st ts/\∀(C:Ctx) (ρ:En) (σ:St) (H:Hp) (n:Nat) (D:Ends) (D':JB),Stt X.K C ρ σ H n->d D' ρ n->Good X C ρ σ H D D'->ts D σ H
def DSs(X:Cx)(st:List Stmt)(d:DTS):Prop:=∃ts,PSs X st ts/\∀(C:Ctx) (ρ:En) (σ:St) (H:Hp) (n:Nat) (D:Ends) (D':JB),Stt X.K C ρ σ H n->d D' ρ n->Good X C ρ σ H D D'->ts D σ H
section
variable{K:qF}{C:Ctx}{ρ ρ1 ρ2:En}{σ σ1 σ2:St}{H H1 H2:Hp}{n n1:Nat}{D:Ends}{D':JB}
theorem Keep.refl:Keep C ρ σ H ρ σ H:=fun _ _ h _ no=>⟨h,no⟩
theorem Keep.trans(k1:Keep C ρ σ H ρ1 σ1 H1)(k2:Keep C ρ1 σ1 H1 ρ2 σ2 H2):Keep C ρ σ H ρ2 σ2 H2:=fun a o h nh no=>by
 obtain⟨h1,no1⟩:=k1 a o h nh no;exact k2 a o h1 nh no1
theorem ExtE.keep(e:ExtE C.hd H H1):Keep C ρ σ H ρ σ H1:=fun a o h nh no=>⟨e a o h nh,no⟩
theorem Good.on{X:Cx}(g:Good X C ρ σ H D D')(k:Keep C ρ σ H ρ1 σ1 H1):Good X C ρ1 σ1 H1 D D' where
 nx:=fun ρ' σ' H' n' h S k'=>g.nx ρ' σ' H' n' h S (k.trans k')
 rt:=fun t n' v H' h hn k' r=>g.rt t n' v H' h hn (fun a o ha nh no=>by
  obtain⟨h1,no1⟩:=k a o ha nh no;exact k' a o h1 nh no1) r
 bk:=fun ρ' σ' H' n' h S k'=>g.bk ρ' σ' H' n' h S (k.trans k')
 ct:=fun ρ' σ' H' n' h S k'=>g.ct ρ' σ' H' n' h S (k.trans k')
 xr:=fun c n' H' h hn k'=>g.xr c n' H' h hn fun a o ha nh no=>by
  obtain⟨h1,no1⟩:=k a o ha nh no;exact k' a o h1 nh no1
theorem Keep.reps(k:Keep C ρ σ H ρ1 σ1 H1)(hx:∀a,C.hd=some a->C.ext a){v t}(r:Reps K C.hd (Own C ρ σ) H v t):Reps K C.hd (Own C ρ1 σ1) H1 v t :=
 Reps.mono (O:=Own C ρ σ) (fun a o h z=>by
  by_cases q:Own C ρ σ a
  ·exact q
  ·rcases z with z|z
   ·exact .inl z
   ·exact absurd z (k a o h (fun y=>q (.inl (hx a y))) fun y=>q (.inr y)).2) (fun a o no h=>(k a o h (fun y=>no (.inl (hx a y))) fun y=>no (.inr y)).1) r
theorem Jf{α:Type}{l:List (Option α)}{i j:Nat}{v w:α}(h:(l.set i (some v))[j]?=some (some w)):(i=j/\v=w)\/(i≠j/\l[j]?=some (some w)):=by
 by_cases e:i=j
 ·subst e;rw[List.getElem?_set]at h;simp only[↓reduceIte]at h;split at h
  ·simp at h;exact .inl ⟨rfl,h⟩
  ·cases h
 ·rw[List.getElem?_set_ne e]at h;exact .inr ⟨e,h⟩
theorem QA{α:Type}{l:List (Option α)}{i j:Nat}{v w:α}(e:i≠j)(h:l[j]?=some (some w)):(l.set i (some v))[j]?=some (some w):=by
 rw[List.getElem?_set_ne e];exact h
theorem zhi{α:Type}{l:List (Option α)}{i j:Nat}{v:α}{w:Option α}(h:(l.set i (some v))[j]?=some w)(e:i=j):i<l.length:=by
 subst e;rw[List.getElem?_set]at h;simp only[↓reduceIte]at h;split at h
 ·assumption
 ·cases h
theorem ze6{α:Type}{l:List (Option α)}{i:Nat}{v:α}(h:i<l.length):(l.set i (some v))[i]?=some (some v):=by
 rw[List.getElem?_set];simp[h]
theorem UL{i:Nat}{t:PyData}{v:V}{a:Addr}(h:OwnS (ρ.set i (some (.val t))) (σ.set i (some v)) a):OwnS ρ σ a:=by
 obtain⟨j,c,m,h1,h2⟩:=h;rcases Jf h1 with⟨_,z⟩|⟨e,h1⟩
 ·subst z;cases m
 ·rcases Jf h2 with⟨z,_⟩|⟨_,h2⟩
  ·exact absurd z e
  ·exact⟨j,c,m,h1,h2⟩
def JQ(K:qF)(hd:Option Addr)(O:Addr->Prop)(H:Hp)(a:Addr):Cell->Prop
 | .val _=>False
 | .rdo _=>False
 | .own ts=>∃vs,H a=some (.lst vs)/\Reps K hd O H vs ts
 | .dct ks=>∃kvs,H a=some (.dK kvs)/\Qi K hd O H kvs ks
 | .dtt ks=>∃zs ep,H a=some (ZDO a zs ep)/\Jg K hd O H zs ks
theorem JQ.mono(x:JQ K hd O H a c)(ho:∀a o,H a=some o->O' a->O a)(hh:∀a o,¬O a->H a=some o->H' a=some o)(ha:∀o,H a=some o->H' a=some o):JQ K hd O' H' a c:=by
 cases c with
 | val _=>exact x.elim
 | rdo _=>exact x.elim
 | own ts=>obtain⟨vs,h1,h2⟩:=x;exact⟨vs,ha _ h1,h2.mono ho hh⟩
 | dct ks=>obtain⟨vs,h1,h2⟩:=x;exact⟨vs,ha _ h1,h2.mono ho hh⟩
 | dtt ks=>obtain⟨vs,ep,h1,h2⟩:=x;exact⟨vs,ep,ha _ h1,h2.mono ho hh⟩
theorem JQ.some(x:JQ K hd O H a c):∃o,H a=some o:=by
 cases c with
 | val _=>exact x.elim
 | rdo _=>exact x.elim
 | own ts=>obtain⟨vs,h1,h2⟩:=x;exact⟨_,h1⟩
 | dct ks=>obtain⟨vs,h1,h2⟩:=x;exact⟨_,h1⟩
 | dtt ks=>obtain⟨vs,ep,h1,h2⟩:=x;exact⟨_,h1⟩
theorem JQ.mine(x:JQ K hd O H a c):c.mine=true:=by
 cases c with
 | val _=>exact x.elim
 | rdo _=>exact x.elim
 | own ts=>rfl
 | dct ks=>rfl
 | dtt ks=>rfl
theorem Stt.cell(S:Stt K C ρ σ H n){i:Nat}{c:Cell}(m:c.mine=true)(h:ρ[i]?=some (some c)):∃a:Addr,σ[i]?=some (some (V.ref a))/\JQ K C.hd (Own C ρ σ) H a c/\¬C.ext a:=by
 cases c with
 | val _=>cases m
 | rdo _=>cases m
 | own ts=>obtain⟨a,vs,h1,h2,h3,h4⟩:=S.own i ts h;exact⟨a,h1,⟨vs,h2,h3⟩,h4⟩
 | dct ks=>obtain⟨a,vs,h1,h2,h3,h4⟩:=S.dct i ks h;exact⟨a,h1,⟨vs,h2,h3⟩,h4⟩
 | dtt ks=>obtain⟨a,vs,ep,h1,h2,h3,h4⟩:=S.dtt i ks h;exact⟨a,h1,⟨vs,ep,h2,h3⟩,h4⟩
def zi7(K:qF)(C:Ctx)(ρ:En)(σ:St)(H:Hp):Prop:=∀(i:Nat) (ks:List (Key×PyData)),ρ[i]?=some (some (Cell.rdo ks))->∃a kvs,σ[i]?=some (some (V.ref a))/\H a=some (.dK kvs)/\Qi K C.hd (Own C ρ σ) H kvs ks/\C.ext a/\C.hd≠some a
theorem Stt.mk'(len:ρ.length=σ.length)(val:∀(i:Nat) (d:PyData),ρ[i]?=some (some (Cell.val d))->∃v,σ[i]?=some (some v)/\Rep K C.hd (Own C ρ σ) H v d)
  (cell:∀(i:Nat) (c:Cell),c.mine=true->ρ[i]?=some (some c)->∃a:Addr,σ[i]?=some (some (V.ref a))/\JQ K C.hd (Own C ρ σ) H a c/\¬C.ext a)
  (rdo:zi7 K C ρ σ H) (dif:∀(i j:Nat) (c e:Cell) (a:Addr),c.mine=true->e.mine=true->ρ[i]?=some (some c)->ρ[j]?=some (some e)->σ[i]?=some (some (V.ref a))->σ[j]?=some (some (V.ref a))->i=j)
  (hnd:Hn C.hd H n) (ext:∀a,C.ext a->MutO (H a)) (hx:∀a,C.hd=some a->C.ext a):Stt K C ρ σ H n where
 len:=len
 val:=val
 own:=fun i ts h=>by obtain⟨a,h1,⟨vs,h2,h3⟩,h4⟩:=cell i _ rfl h;exact⟨a,vs,h1,h2,h3,h4⟩
 dct:=fun i ts h=>by obtain⟨a,h1,⟨vs,h2,h3⟩,h4⟩:=cell i _ rfl h;exact⟨a,vs,h1,h2,h3,h4⟩
 rdo:=rdo
 dtt:=fun i ts h=>by obtain⟨a,h1,⟨vs,ep,h2,h3⟩,h4⟩:=cell i _ rfl h;exact⟨a,vs,ep,h1,h2,h3,h4⟩
 dif:=dif
 hnd:=hnd
 ext:=ext
 hx:=hx
theorem Stt.put(S:Stt K C ρ σ H n){i:Nat}{t:PyData}{v:V}(r:Rep K C.hd (Own C ρ σ) H v t):Stt K C (ρ.set i (some (.val t))) (σ.set i (some v)) H n:=by
 have sub:∀a o,H a=some o->Own C (ρ.set i (some (.val t))) (σ.set i (some v)) a->Own C ρ σ a:=fun a o _ z=>z.elim .inl fun z=>.inr (UL z)
 have mono:∀{w u},Rep K C.hd (Own C ρ σ) H w u->Rep K C.hd (Own C (ρ.set i (some (.val t))) (σ.set i (some v))) H w u:=fun q=>q.mono sub fun _ _ _ z=>z
 refine .mk' (by simp[S.len]) (fun j d h=>?_) (fun j c m h=>?_) (fun j ks h=>?_) (fun j k c e a m1 m2 h1 h2 h3 h4=>?_) S.hnd S.ext S.hx
 rotate_left 2
 ·rcases Jf h with⟨_,z⟩|⟨e,h'⟩
  ·cases z
  ·obtain⟨a,kvs,q1,q2,q3,q4⟩:=S.rdo j ks h';exact⟨a,kvs,QA e q1,q2,q3.mono sub fun _ _ _ z=>z,q4⟩
 rotate_left 1
 ·rcases Jf h with⟨e,z⟩|⟨e,h'⟩
  ·cases z;have:=zhi h e;subst e;exact⟨v,ze6 (by rw[<- S.len];exact this),mono r⟩
  ·obtain⟨w,h1,h2⟩:=S.val j d h';exact⟨w,QA e h1,mono h2⟩
 ·rcases Jf h with⟨e,z⟩|⟨e,h'⟩
  ·subst z;cases m
  ·obtain⟨a,h1,h2,h3⟩:=S.cell m h';exact⟨a,QA e h1,h2.mono sub (fun _ _ _ z=>z) fun _ z=>z,h3⟩
 ·rcases Jf h1 with⟨e,z⟩|⟨e,h1'⟩
  ·subst z;cases m1
  ·rcases Jf h2 with⟨e2,z⟩|⟨e2,h2'⟩
   ·subst z;cases m2
   ·rcases Jf h3 with⟨z,_⟩|⟨_,h3'⟩
    ·exact absurd z e
    ·rcases Jf h4 with⟨z,_⟩|⟨_,h4'⟩
     ·exact absurd z e2
     ·exact S.dif j k c _ a m1 m2 h1' h2' h3' h4'
theorem zcI:Keep C ρ σ H (ρ.set i (some (.val t))) (σ.set i (some v)) H:=fun a o h _ no=>⟨h,fun z=>no (UL z)⟩
theorem zd4{i:Nat}{c:Cell}{p a:Addr}(h:OwnS (ρ.set i (some c)) (σ.set i (some (.ref p))) a):OwnS ρ σ a\/a=p:=by
 obtain⟨j,ds,m,h1,h2⟩:=h;rcases Jf h2 with⟨e,z⟩|⟨e,h2⟩
 ·cases z;exact .inr rfl
 ·rcases Jf h1 with⟨z,_⟩|⟨_,h1⟩
  ·exact absurd z e
  ·exact .inl ⟨j,ds,m,h1,h2⟩
theorem Stt.putNew(S:Stt K C ρ σ H n){i:Nat}{c:Cell}{p:Addr}{H':Hp}(e:ExtE C.hd H H')(h:Hn C.hd H' n1)(hp:H p=none)(r:JQ K C.hd (fun a=>Own C ρ σ a\/a=p) H' p c) :
  Stt K C (ρ.set i (some c)) (σ.set i (some (.ref p))) H' n1:=by
 have S':=S.on e h;have mc:=r.mine;have sub:∀a,Own C (ρ.set i (some c)) (σ.set i (some (.ref p))) a->Own C ρ σ a\/a=p:=fun a z=>z.elim (fun z=>.inl (.inl z)) fun z=>(zd4 z).elim (fun z=>.inl (.inr z)) .inr
 have npx:¬C.ext p:=fun z=>S.dom (.inl z) hp
 have sb:∀a o,H a=some o->Own C (ρ.set i (some c)) (σ.set i (some (.ref p))) a->Own C ρ σ a:=fun a o ho z=>(sub a z).elim id fun z=>by subst z;rw[hp]at ho;cases ho
 have kp:∀a o,¬Own C ρ σ a->H a=some o->H' a=some o:=fun a o no ho=>e a o ho fun z=>no (.inl (S.hx a z))
 have notp:∀(j:Nat) (d:Cell),d.mine=true->ρ[j]?=some (some d)->σ[j]?≠some (some (V.ref p)):=fun j d m h1 h2=>by
  obtain⟨a,e1,e2,_⟩:=S.cell m h1;rw[h2]at e1;cases e1;obtain⟨o,e2⟩:=e2.some;rw[hp]at e2;cases e2
 refine .mk' (by simp[S.len]) (fun j d hj=>?_) (fun j d m hj=>?_) (fun j ks hj=>?_) (fun j k c1 c2 a m1 m2 h1 h2 h3 h4=>?_) h S'.ext S.hx
 rotate_left 2
 ·rcases Jf hj with⟨_,z⟩|⟨e',h'⟩
  ·subst z;cases mc
  ·obtain⟨a,kvs,q1,q2,q3,q4,q5⟩:=S.rdo j ks h';exact⟨a,kvs,QA e' q1,e a _ q2 q5,q3.mono sb kp,q4,q5⟩
 rotate_left 1
 ·rcases Jf hj with⟨_,z⟩|⟨e',h'⟩
  ·subst z;cases mc
  ·obtain⟨w,h1,h2⟩:=S.val j d h';exact⟨w,QA e' h1,h2.mono sb kp⟩
 ·rcases Jf hj with⟨e',z⟩|⟨e',h'⟩
  ·subst z;have:=zhi hj e';subst e';exact⟨p,ze6 (by rw[<- S.len];exact this),r.mono (fun a o _ z=>sub a z) (fun _ _ _ z=>z) fun _ z=>z,npx⟩
  ·obtain⟨a,h1,h2,h4⟩:=S.cell m h';exact⟨a,QA e' h1,h2.mono sb kp (fun o ho=>e a o ho fun z=>h4 (S.hx a z)),h4⟩
 ·rcases Jf h3 with⟨e3,z3⟩|⟨e3,h3'⟩
  ·cases z3;rcases Jf h4 with⟨e4,_⟩|⟨e4,h4'⟩
   ·rw[<- e3,<- e4]
   ·rcases Jf h2 with⟨z,_⟩|⟨_,h2'⟩
    ·exact absurd z e4
    ·exact absurd h4' (notp k _ m2 h2')
  ·rcases Jf h1 with⟨z,_⟩|⟨_,h1'⟩
   ·exact absurd z e3
   ·rcases Jf h4 with⟨e4,z4⟩|⟨e4,h4'⟩
    ·cases z4;exact absurd h3' (notp j _ m1 h1')
    ·rcases Jf h2 with⟨z,_⟩|⟨_,h2'⟩
     ·exact absurd z e4
     ·exact S.dif j k _ _ a m1 m2 h1' h2' h3' h4'
theorem Stt.putOwn(S:Stt K C ρ σ H n)(e:ExtE C.hd H H')(h:Hn C.hd H' n1)(hp:H p=none)(hp':H' p=some (.lst vs))(r:Reps K C.hd (fun a=>Own C ρ σ a\/a=p) H' vs ts) :
  Stt K C (ρ.set i (some (.own ts))) (σ.set i (some (.ref p))) H' n1:=S.putNew e h hp ⟨vs,hp',r⟩
theorem zb1(e:ExtE C.hd H H')(hp:H p=none):Keep C ρ σ H (ρ.set i (some c)) (σ.set i (some (.ref p))) H':=fun a o h nh no =>
 ⟨e a o h nh,fun z=>(zd4 z).elim no fun z=>by subst z;rw[hp]at h;cases h⟩
theorem zdB(e:ExtE C.hd H H')(hp:H p=none):Keep C ρ σ H (ρ.set i (some (.own ts))) (σ.set i (some (.ref p))) H':=zb1 e hp
theorem Stt.chgC(S:Stt K C ρ σ H n){i:Nat}{c c':Cell}{p:Addr}{o':HO}(m:c.mine=true)(m':c'.mine=true)(h1:ρ[i]?=some (some c))(h2:σ[i]?=some (some (.ref p)))
  (r:∀(O':Addr->Prop) (H':Hp),(∀a o,H a=some o->O' a->Own C ρ σ a)->(∀a o,¬Own C ρ σ a->H a=some o->H' a=some o)->H' p=some o'->JQ K C.hd O' H' p c') :
  Stt K C (ρ.set i (some c')) σ (upd H p o') n/\Keep C ρ σ H (ρ.set i (some c')) σ (upd H p o'):=by
 have op:OwnS ρ σ p:=⟨i,c,m,h1,h2⟩;obtain⟨p',e1,hp,npx⟩:=S.cell m h1;rw[h2]at e1;cases e1;have own1:∀a,OwnS (ρ.set i (some c')) σ a->OwnS ρ σ a:=fun a ⟨j,d,md,q1,q2⟩=>by
  rcases Jf q1 with⟨e,_⟩|⟨e,q1⟩
  ·subst e;rw[h2]at q2;cases q2;exact op
  ·exact⟨j,d,md,q1,q2⟩
 have sub:∀a o,H a=some o->Own C (ρ.set i (some c')) σ a->Own C ρ σ a:=fun a o _ z=>z.elim .inl fun z=>.inr (own1 a z)
 have kp:∀a o,¬Own C ρ σ a->H a=some o->upd H p o' a=some o:=fun a o no ho=>by rw[Ja (show a≠p from fun z=>no (by rw[z];exact .inr op))];exact ho
 have rd:zi7 K C (ρ.set i (some c')) σ (upd H p o'):=fun j ks hj=>by
  rcases Jf hj with⟨_,z⟩|⟨e',h'⟩
  ·subst z;cases m'
  ·obtain⟨a,kvs,q1,q2,q3,q4,q5⟩:=S.rdo j ks h';exact⟨a,kvs,q1,by rw[Ja (show a≠p from fun z=>npx (by rw[<- z];exact q4))];exact q2,q3.mono sub kp,q4,q5⟩
 refine⟨.mk' (by simp[S.len]) (fun j d hj=>?_) (fun j d md hj=>?_) rd (fun j k c1 c2 a m1 m2 q1 q2 q3 q4=>?_) (fun a ha=>?_) (fun a ha=>?_) S.hx,fun a o h nh no=>⟨by rw[Ja (show a≠p from fun z=>no (by rw[z];exact op))];exact h,fun z=>no (own1 a z)⟩⟩
 ·rcases Jf hj with⟨_,z⟩|⟨e',h'⟩
  ·subst z;cases m'
  ·obtain⟨w,q1,q2⟩:=S.val j d h';exact⟨w,q1,q2.mono sub kp⟩
 ·rcases Jf hj with⟨e',z⟩|⟨e',h'⟩
  ·subst z;subst e';exact⟨p,h2,r _ _ sub kp Jn,npx⟩
  ·obtain⟨a,q1,q2,q4⟩:=S.cell md h';have:a≠p:=fun z=>by subst z;exact e' (S.dif i j c d a m md h1 h' h2 q1)
   exact⟨a,q1,q2.mono sub kp (fun o ho=>by rw[Ja this];exact ho),q4⟩
 ·have get:∀(j:Nat) (d:Cell),d.mine=true->(ρ.set i (some c'))[j]?=some (some d)->∃d':Cell,d'.mine=true/\ρ[j]?=some (some d'):=fun j d md q=>by
   rcases Jf q with⟨e,_⟩|⟨_,q⟩
   ·subst e;exact⟨_,m,h1⟩
   ·exact⟨_,md,q⟩
  obtain⟨d1,md1,g1⟩:=get j c1 m1 q1;obtain⟨d2,md2,g2⟩:=get k c2 m2 q2;exact S.dif j k d1 d2 a md1 md2 g1 g2 q3 q4
 ·obtain⟨d,m,t,q,rest⟩:=S.hnd a ha;exact⟨d,m,t,by rw[Ja (show a≠p from fun z=>npx (by rw[<- z];exact S.hx a ha))];exact q,rest⟩
 ·by_cases z:a=p
  ·subst z;exact absurd ha npx
  ·rw[Ja z];exact S.ext a ha
theorem Stt.chg(S:Stt K C ρ σ H n)(h1:ρ[i]?=some (some (.own ts)))(h2:σ[i]?=some (some (.ref p)))(r:Reps K C.hd (Own C ρ σ) H ws us) :
  Stt K C (ρ.set i (some (.own us))) σ (upd H p (.lst ws)) n/\Keep C ρ σ H (ρ.set i (some (.own us))) σ (upd H p (.lst ws)):=S.chgC rfl rfl h1 h2 fun _ _ a b hp=>⟨ws,hp,r.mono a b⟩
theorem Stt.freeze(S:Stt K C ρ σ H n){i:Nat}{ts:qD}(h1:ρ[i]?=some (some (.own ts))):Stt K C (ρ.set i (some (.val (.list ts)))) σ H n/\Keep C ρ σ H (ρ.set i (some (.val (.list ts)))) σ H:=by
 obtain⟨p,vs,h2,hp,hr,npx⟩:=S.own i ts h1;have own1:∀a,OwnS (ρ.set i (some (.val (.list ts)))) σ a->OwnS ρ σ a/\a≠p:=fun a ⟨j,ds,m,q1,q2⟩=>by
  rcases Jf q1 with⟨_,z⟩|⟨e,q1⟩
  ·subst z;cases m
  ·exact⟨⟨j,ds,m,q1,q2⟩,fun z=>by subst z;exact e (S.dif i j (.own ts) ds a rfl m h1 q1 h2 q2)⟩
 have sub:∀a o,H a=some o->Own C (ρ.set i (some (.val (.list ts)))) σ a->Own C ρ σ a:=fun a o _ z=>z.elim .inl fun z=>.inr (own1 a z).1
 have rd:zi7 K C (ρ.set i (some (.val (.list ts)))) σ H:=fun j ks hj=>by
  rcases Jf hj with⟨_,z⟩|⟨e',h'⟩
  ·cases z
  ·obtain⟨a,kvs,q1,q2,q3,q4⟩:=S.rdo j ks h';exact⟨a,kvs,q1,q2,q3.mono sub fun _ _ _ z=>z,q4⟩
 refine⟨.mk' (by simp[S.len]) (fun j d hj=>?_) (fun j d m hj=>?_) rd (fun j k c1 c2 a m1 m2 q1 q2 q3 q4=>?_) S.hnd S.ext S.hx,fun a o h _ no=>⟨h,fun z=>no (own1 a z).1⟩⟩
 ·rcases Jf hj with⟨e',z⟩|⟨e',h'⟩
  ·cases z;subst e';exact⟨.ref p,h2,.lst hp (fun z=>z.elim npx fun z=>(own1 p z).2 rfl) (hr.mono sub fun _ _ _ z=>z)⟩
  ·obtain⟨w,q1,q2⟩:=S.val j d h';exact⟨w,q1,q2.mono sub fun _ _ _ z=>z⟩
 ·rcases Jf hj with⟨_,z⟩|⟨e',h'⟩
  ·subst z;cases m
  ·obtain⟨a,q1,q3,q4⟩:=S.cell m h';exact⟨a,q1,q3.mono sub (fun _ _ _ z=>z) fun _ z=>z,q4⟩
 ·rcases Jf q1 with⟨_,z⟩|⟨_,g1⟩
  ·subst z;cases m1
  ·rcases Jf q2 with⟨_,z⟩|⟨_,g2⟩
   ·subst z;cases m2
   ·exact S.dif j k _ _ a m1 m2 g1 g2 q3 q4
end
section
variable{X:Cx}{a b c e:Expr}{es rest:List Expr}{d da db dc:DTE}{ds:DTA}{dt:DTT}{t u:DTS}{st:Stmt}{sts sa sb:List Stmt}{pos p:Pos}{k:Nat}{x:Str}
def zhR:DTS:=fun D ρ n=>D.nx ρ n
def sSeq(t u:DTS):DTS:=fun D ρ n=>t { D with nx:=u D } ρ n
theorem Qh:DSs X [] zhR:=⟨_,zdv,fun C ρ σ H n D D' S h g=>g.nx ρ σ H n h S Keep.refl⟩
theorem Jl(h1:DS X st t)(h2:DSs X sts u):DSs X (st::sts) (sSeq t u):=by
 obtain⟨ta,pa,h1⟩:=h1;obtain⟨tb,pb,h2⟩:=h2;refine⟨_,JG pa pb,fun C ρ σ H n D D' S h g=>?_⟩
 exact h1 C ρ σ H n _ _ S h ⟨fun ρ' σ' H' n' hn S' k=>h2 C ρ' σ' H' n' D D' S' hn (g.on k),g.rt,g.bk,g.ct,g.xr⟩
theorem Jk(h1:DS X st t):DSs X [st] t:=by
 obtain⟨ta,pa,h1⟩:=h1;exact⟨_,QW pa,h1⟩
def QZ(i:Nat)(t:DTS):DTS:=fun D ρ n=>match ρ[i]? with|some (some (.own ts))=>t D (ρ.set i (some (.val (.list ts)))) n|_=>False
theorem zcp(i:Nat)(h1:DSs X sts t):DSs X sts (QZ i t):=by
 obtain⟨ta,pa,h1⟩:=h1;refine⟨_,pa,fun C ρ σ H n D D' S h g=>?_⟩
 unfold QZ at h;split at h
 ·rename_i ts et;obtain⟨S',kp⟩:=S.freeze et;exact h1 C _ σ H n D D' S' h (g.on kp)
 ·exact h.elim
def sRet(d:DTE):DTS:=fun D ρ n=>d ρ n fun t n'=>D.rt t n'
theorem JA(h:DE X e d):DS X (.Return (some e) pos) (sRet d):=by
 obtain⟨ta,pa,h⟩:=h;refine⟨_,UB pa,fun C ρ σ H n D D' S hd g=>?_⟩
 refine h C ρ σ H n _ _ S hd fun t n' v H' r e1 h1 q=>?_
 exact g.rt t n' v H' r h1 (fun a o ha nh _=>e1 a o ha nh) (q.mono (fun _ _ _ z=>.inl z) fun _ _ _ z=>z)
def sIf(c:DTT)(t u:DTS):DTS:=fun D ρ n=>c ρ n fun b n1=>if b=true then t D ρ n1 else u D ρ n1
theorem J8(hc:DT X c dt)(h1:DSs X sa t)(h2:DSs X sb u):DS X (.If c sa sb pos) (sIf dt t u):=by
 obtain⟨tc,pc,hc⟩:=hc;obtain⟨ta,pa,h1⟩:=h1;obtain⟨tb,pb,h2⟩:=h2;refine⟨_,zh2 pc pa pb,fun C ρ σ H n D D' S hd g=>?_⟩
 refine hc C ρ σ H n _ _ S hd fun b n1 H1 r e1 hn=>?_
 cases b with
 | true=>exact iteT (h1 C ρ σ H1 n1 D D' (S.on e1 hn) (by simpa using r) (g.on e1.keep))
 | false=>exact iteF (h2 C ρ σ H1 n1 D D' (S.on e1 hn) (by simpa using r) (g.on e1.keep))
def sSet(i:Nat)(d:DTE):DTS:=fun D ρ n=>d ρ n fun t n'=>D.nx (ρ.set i (some (.val t))) n'
theorem zk0(hN:X.N.Nodup)(hi:X.N[i]?=some x)(hx:Loc X.env.scope x)(h:DE X e d)(hs:swapsWith e (some (.Name x pos')) pos.line X.env=pure false:=by rfl)(hf:X.fn x=true\/X.env.scope.names.lookup x=some .local:=by walk_at "F") :
  DS X (.Assign [.Name x pos'] e pos) (sSet i d):=by
 obtain⟨ta,pa,h⟩:=h;refine⟨_,JN hN hi hx pa hs hf,fun C ρ σ H n D D' S hd g=>?_⟩
 refine h C ρ σ H n _ _ S hd fun t n' v H' r e1 h1 q=>?_
 exact g.nx _ _ H' n' r ((S.on e1 h1).put q) (e1.keep.trans zcI)
def sOwn(i:Nat)(d:DTA):DTS:=fun D ρ n=>d ρ n fun ts n'=>D.nx (ρ.set i (some (.own ts))) n'
theorem zhz(hN:X.N.Nodup)(hi:X.N[i]?=some x)(hx:Loc X.env.scope x)(h:DN X e ds)(hs:swapsWith e (some (.Name x pos')) pos.line X.env=pure false:=by rfl)(hf:X.fn x=true\/X.env.scope.names.lookup x=some .local:=by walk_at "F") :
  DS X (.Assign [.Name x pos'] e pos) (sOwn i ds):=by
 obtain⟨ta,pa,h⟩:=h;refine⟨_,JN hN hi hx pa hs hf,fun C ρ σ H n D D' S hd g=>?_⟩
 refine h C ρ σ H n _ _ S hd fun ts n' p vs H' r e1 h1 hp hp' q=>?_
 exact g.nx _ _ H' n' r (S.putOwn e1 h1 hp hp' q) (zdB e1 hp)
abbrev DTG:=PyData->En->(En->Prop)->Prop
abbrev DTGs:=List PyData->En->(En->Prop)->Prop
def DG(X:Cx)(tg:Expr)(is:List Nat)(d:DTG):Prop:=(∀t ρ R,d t ρ R->∃ρ',R ρ')/\∃g,PG X tg g/\∀(C:Ctx) (ρ:En) (σ:St) (H:Hp) (n:Nat) (v:V) (t:PyData) (Q:St->Hp->Prop) (R:En->Prop),Stt X.K C ρ σ H n->Rep X.K C.hd (Own C ρ σ) H v t->d t ρ R ->
 (∀ρ' σ',R ρ'->Stt X.K C ρ' σ' H n->Keep C ρ σ H ρ' σ' H->(∀j,j∉is->σ'[j]?=σ[j]?)->σ'.length=σ.length->Q σ' H)->g v σ H Q
def DGs(X:Cx)(tgs:List Expr)(is:List Nat)(d:DTGs):Prop:=(∀ts ρ R,d ts ρ R->ts.length=tgs.length)/\(∀t ρ R,d t ρ R->∃ρ',R ρ')/\∃g,PGs X tgs g/\∀(C:Ctx) (ρ:En) (σ:St) (H:Hp) (n:Nat) (vs:List V) (ts:qD) (Q:St->Hp->Prop) (R:En->Prop),Stt X.K C ρ σ H n->Reps X.K C.hd (Own C ρ σ) H vs ts->d ts ρ R ->
 (∀ρ' σ',R ρ'->Stt X.K C ρ' σ' H n->Keep C ρ σ H ρ' σ' H->(∀j,j∉is->σ'[j]?=σ[j]?)->σ'.length=σ.length->Q σ' H)->g vs σ H Q
def Uu(i:Nat):DTG:=fun t ρ R=>R (ρ.set i (some (.val t)))
def zhL:DTGs:=fun ts ρ R=>match ts with|[]=>R ρ|_=>False
def ze2(d:DTG)(ds:DTGs):DTGs:=fun ts ρ R=>match ts with|t::ts=>d t ρ fun ρ'=>ds ts ρ' R|[]=>False
def zhK(ds:DTGs):DTG:=fun t ρ R=>match t with|.tuple ts=>ds ts ρ R|_=>False
theorem ziV(hN:X.N.Nodup)(hi:X.N[i]?=some x)(hx:Loc X.env.scope x)(hf:X.fn x=true\/X.env.scope.names.lookup x=some .local:=by walk_at "F"):DG X (.Name x pos) [i] (Uu i):=by
 refine⟨fun t ρ R h=>⟨_,h⟩,_,zh8 hN hi hx hf,fun C ρ σ H n v t Q R S r hd hq=>?_⟩
 exact hq _ _ hd (S.put r) zcI (fun j hj=>by rw[List.getElem?_set_ne (fun z=>hj (by simp[z]))]) (by simp)
theorem Q0:DGs X [] [] zhL:=by
 refine⟨fun ts ρ R h=>?_,fun ts ρ R h=>?_,_,zh7,fun C ρ σ H n vs ts Q R S r hd hq=>?_⟩
 ·cases ts with
  | nil=>rfl
  | cons _ _=>exact h.elim
 ·cases ts with
  | nil=>exact⟨_,h⟩
  | cons _ _=>exact h.elim
 ·cases r with
  | nil=>exact⟨rfl,hq _ _ hd S Keep.refl (fun _ _=>rfl) rfl⟩
  | cons _ _=>exact hd.elim
theorem JU(h1:DG X e is g)(h2:DGs X es js gs)(hs:(assignEach (e::es) X.env).map (·.2)=assign e X.env::(assignEach es X.env).map (·.2):=by rfl):DGs X (e::es) (is++js) (ze2 g gs):=by
 obtain⟨w1,ga,pa,h1⟩:=h1;obtain⟨l2,w2,gb,pb,h2⟩:=h2;refine⟨fun ts ρ R h=>?_,fun ts ρ R h=>?_,_,zgw pa pb hs,fun C ρ σ H n vs ts Q R S r hd hq=>?_⟩
 ·cases ts with
  | nil=>exact h.elim
  | cons t ts =>
   obtain⟨ρ',h'⟩:=w1 t ρ _ h;simp[l2 ts ρ' R h']
 ·cases ts with
  | nil=>exact h.elim
  | cons t ts =>
   obtain⟨ρ',h'⟩:=w1 t ρ _ h;exact w2 ts ρ' R h'
 ·cases r with
  | nil=>exact hd.elim
  | cons r rs =>
   refine⟨_,_,rfl,h1 C ρ σ H n _ _ _ _ S r hd fun ρ' σ' hr S' kp hj hl=>?_⟩
   refine h2 C ρ' σ' H n _ _ _ _ S' (kp.reps S.hx rs) hr fun ρ2 σ2 hr2 S2 kp2 hj2 hl2=>?_
   exact hq ρ2 σ2 hr2 S2 (kp.trans kp2) (fun j hj'=>by rw[hj2 j (fun z=>hj' (by simp[z])),hj j (fun z=>hj' (by simp[z]))]) (hl2.trans hl)
theorem QO(hc:X.calm=true)(h:DGs X es is gs)(hn:(assignEach es X.env).length=es.length:=by rfl)(hst:(assignEach es X.env).findIdx? (·.1)=none:=by rfl):DG X (.Tuple es k pos) is (zhK gs):=by
 obtain⟨l,w,g,pg,h⟩:=h;refine⟨fun t ρ R h=>?_,_,zjL hc pg hn hst,fun C ρ σ H n v t Q R S r hd hq=>?_⟩
 ·cases t with
  | tuple ts=>exact w ts ρ R h
  | _=>exact h.elim
 ·cases t with
  | tuple ts =>
   obtain⟨p,vs,rfl,h1,h2⟩:=r.tupI;exact⟨p,vs,rfl,h1,by rw[h2.length];exact l ts ρ R hd,h C ρ σ H n vs ts Q R S h2 hd hq⟩
  | _=>exact hd.elim
def sAsg(d:DTE)(g:DTG):DTS:=fun D ρ n=>d ρ n fun t n'=>g t ρ fun ρ'=>D.nx ρ' n'
theorem zk1(h:DE X e d)(hg:DG X tg is g)(hs:swapsWithSole [tg] e pos.line X.env=pure false:=by rfl)(hw:swappedStores [tg] e X.env=pure none:=by rfl)
  (h1:(assignEach [tg] X.env).map (·.2)=[assign tg X.env]:=by rfl):DS X (.Assign [tg] e pos) (sAsg d g):=by
 obtain⟨ta,pa,h⟩:=h;obtain⟨w,gb,pb,hg⟩:=hg;refine⟨_,zfg pa pb hs hw h1,fun C ρ σ H n D D' S hd gd=>?_⟩
 refine h C ρ σ H n _ _ S hd fun t n' v H' r e1 hn q=>?_
 exact hg C ρ σ H' n' v t _ _ (S.on e1 hn) q r fun ρ' σ' hr S' kp _ _=>gd.nx ρ' σ' H' n' hr S' (e1.keep.trans kp)
def QY(i:Nat)(d:DTE):DTS:=fun D ρ n=>match ρ[i]? with
 | some (some (.own ts))=>d ρ n fun t n'=>ts.length<16777216/\D.nx (ρ.set i (some (.own (ts++[t])))) n'
 | _=>False
theorem Q4(i:Nat){p1 p2 p3:Pos}(h:DE X e d)(hN:X.N[i]?=some x:=by rfl)(hv:Vis X.env.scope x:=by walk_at "V")(hd:(x == ("__debug__":Str))=false:=by rfl)
  (hcd:(x == ("__classdict__":Str))=false:=by rfl) (hs:swapsWith (.Call (.Attribute (.Name x p1) "append" p2) [e] [] p3) none pos.line X.env=pure false:=by rfl)
  (hbase:attributeBase (.Name x p1) "append" X.env (eval (.Name x p1) X.env)=eval (.Name x p1) X.env:=by rfl)
  (hfew:((backTo p3 (starEach [e] X.env)).all (fun x=>!x.1)&&(backToKw p3 (keywordEach [] X.env)).all (fun x=>x.1.isSome)
   && decide ([e].length+([]:List Keyword).length+(if ([]:List Keyword).isEmpty then 0 else 1)<30))=true:=by rfl)
  (hline:(p2.endLine == p3.line)=true:=by rfl) (hst:starEach [e] X.env=[(false,eval e X.env)]:=by rfl):DS X (.Expr (.Call (.Attribute (.Name x p1) "append" p2) [e] [] p3) pos) (QY i d):=by
 obtain⟨ta,pa,h⟩:=h;refine⟨_,zh3 (zmd PySem.F.plainAttrs_list PySem.F.slot_list_append PySem.F.type_list_append zc7 (J1 hN hv hd hcd) (zdw pa zfm hst) hbase hfew hline hst rfl) hs,fun C ρ σ H n D D' S hd g=>?_⟩
 unfold QY at hd;split at hd
 ·rename_i ts et;obtain⟨p,vs,h1,h2,h3,h4⟩:=S.own i ts et;refine⟨.ref p,h1,.inl ⟨rfl,_,SqL.of h2⟩,?_⟩;refine h C ρ σ H n _ _ S hd fun t n' v H' r e1 hn q=>?_
  have S1:=S.on e1 hn;obtain⟨p',vs',h1',h2',h3',h4'⟩:=S1.own i ts et;rw[h1]at h1';cases h1';refine⟨p,vs',v,rfl,rfl,h2',by rw[h3'.length];exact r.1,?_⟩
  obtain⟨S2,k2⟩:=S1.chg et h1 (h3'.append (.cons q .nil));exact g.nx _ _ _ n' r.2 S2 (e1.keep.trans k2)
 ·exact hd.elim
end
def ItOk(K:qF)(hd:Option Addr)(P O:Addr->Prop)(H:Hp)(J:It)(ts:qD):Prop:=∀(O2:Addr->Prop) (H2:Hp),(∀a o,H a=some o->P a->H2 a=some o)->(∀a o,H a=some o->¬O a->¬O2 a)->(∀a,O2 a->H2 a≠none) ->
 (∀i t,ts[i]?=some t->J.go i H2/\∀x H3,J.yld i H2 x H3->Same H2 H3/\Rep K hd O2 H3 x t)/\J.stop ts.length H2
def DI(X:Cx)(tg iter:Expr)(d:DTA):Prop:=∃wi,PI X tg iter wi/\∀(C:Ctx) (ρ:En) (σ:St) (H:Hp) (n:Nat) (Q:It->Hp->Prop) (R:List PyData->Nat->Prop),Stt X.K C ρ σ H n->d ρ n R ->
 (∀ts n' J H',R ts n'->ExtE C.hd H H'->Hn C.hd H' n'->ItOk X.K C.hd (fun a=>¬Own C ρ σ a) (Own C ρ σ) H' J ts->Q J H')->wi σ H Q
def DIL(X:Cx)(tg iter:Expr)(d:DTA):Prop:=∃wi,PI X tg iter wi/\∀(C:Ctx) (ρ:En) (σ:St) (H:Hp) (n:Nat) (Q:It->Hp->Prop) (R:List PyData->Nat->Prop),Stt X.K C ρ σ H n->d ρ n R ->
 (∀ts n' J H',R ts n'->ExtE C.hd H H'->Hn C.hd H' n'->ItOk X.K C.hd (fun a=>C.hd≠some a) (Own C ρ σ) H' J ts->Q J H')->wi σ H Q
section
variable{X:Cx}{a b c e tg iter:Expr}{es rest:List Expr}{d da db dc:DTE}{ds di:DTA}{dt:DTT}{t u:DTS}{st:Stmt}{sts sa sb:List Stmt}{pos p:Pos}{k:Nat}{x:Str}
theorem dil(h:DI X tg iter di):DIL X tg iter di:=by
 obtain⟨wi,pi,h⟩:=h;refine⟨wi,pi,fun C ρ σ H n Q R S hd hq=>h C ρ σ H n Q R S hd fun ts n' J H' r e1 hn it=>hq ts n' J H' r e1 hn ?_⟩
 exact fun O2 H2 h1 h2 h3=>it O2 H2 (fun a o ha no=>h1 a o ha fun z=>no (.inl (S.hx a z))) h2 h3
theorem Reps.getP{K:qF}{hd:Option Addr}{O:Addr->Prop}{H:Hp}{vs ts}{i:Nat}{t}{x:V}(r:Reps K hd O H vs ts)(h:ts[i]?=some t)(hx:vs[i]?=some x):Rep K hd O H x t:=by
 obtain⟨v,h1,h2⟩:=r.get h;rw[hx]at h1;cases h1;exact h2
theorem ziw{K:qF}{hd:Option Addr}{P O:Addr->Prop}{H:Hp}{q:Addr}{vs ts}(hq:H q=some (.lst vs))(hP:P q)(hO:∀a,¬O a->P a)(r:Reps K hd O H vs ts):ItOk K hd P O H (Itl K q) ts:=by
 intro O2 H2 h1 h2 _;have hq2:=h1 q _ hq hP;have r2:Reps K hd O2 H2 vs ts:=r.mono (fun a o ha z=>Classical.byContradiction fun no=>h2 a o ha no z) fun a o no ha=>h1 a o ha (hO a no)
 refine⟨fun i t et=>?_,⟨vs,.of hq2,by rw[r.length];exact Nat.le_refl _⟩⟩
 obtain⟨v,ev,rv⟩:=r2.get et;refine⟨⟨vs,v,.of hq2,ev⟩,fun x H3 hy=>?_⟩
 obtain⟨rfl,hy⟩:=hy;exact⟨Same.refl _,r2.getP et (hy vs (.of hq2))⟩
theorem zkq{K:qF}{hd:Option Addr}{P O:Addr->Prop}{H:Hp}{v:V}{ts}(hO:∀a,¬O a->P a)(r:Rep K hd O H v (.tuple ts)):∃q vs,v=.ref q/\SqT K H q vs/\ItOk K hd P O H (Itt K q) ts:=by
 have key:∀q vs,Reps K hd O H vs ts->(∀(O2:Addr->Prop) (H2:Hp),(∀a o,H a=some o->P a->H2 a=some o)->(∀a o,H a=some o->¬O a->¬O2 a)->SqT K H2 q vs)->ItOk K hd P O H (Itt K q) ts:=by
  intro q vs r hs O2 H2 h1 h2 _;have hq2:=hs O2 H2 h1 h2;have r2:Reps K hd O2 H2 vs ts:=r.mono (fun a o ha z=>Classical.byContradiction fun no=>h2 a o ha no z) fun a o no ha=>h1 a o ha (hO a no)
  refine⟨fun i t et=>?_,⟨vs,hq2,by rw[r.length];exact Nat.le_refl _⟩⟩
  obtain⟨v,ev,rv⟩:=r2.get et;refine⟨⟨vs,v,hq2,ev⟩,fun x H3 hy=>?_⟩
  obtain⟨rfl,hy⟩:=hy;exact⟨Same.refl _,r2.getP et (hy vs hq2)⟩
 cases r with
 | @tup q vs ds h o r=>exact⟨q,vs,rfl,.inl (.inl h),key q vs r fun O2 H2 h1 _=>.inl (.inl (h1 q _ h (hO q o)))⟩
 | @tupS q vs ds h r=>exact⟨q,vs,rfl,h.sq,key q vs r fun O2 H2 _ _=>h.sq⟩
def dItL(d:DTE):DTA:=fun ρ n R=>d ρ n fun t n'=>match t with|.list ts=>R ts n'|_=>False
def dItT(d:DTE):DTA:=fun ρ n R=>d ρ n fun t n'=>match t with|.tuple ts=>R ts n'|_=>False
theorem zdE(h:DE X iter d):DI X tg iter (dItL d):=by
 obtain⟨ta,pa,h⟩:=h;refine⟨_,zh6 pa,fun C ρ σ H n Q R S hd hq=>?_⟩
 refine h C ρ σ H n _ _ S hd fun t n' v H' r e1 hn q=>?_
 cases t with
 | list ts =>
  obtain⟨p,vs,rfl,h1,no,h2⟩:=q.lstI;exact⟨p,rfl,⟨vs,.of h1⟩,hq ts n' _ H' r e1 hn (ziw h1 no (fun _ z=>z) h2)⟩
 | _=>exact r.elim
theorem zhC(h:DE X iter d):DI X tg iter (dItT d):=by
 obtain⟨ta,pa,h⟩:=h;refine⟨_,zjK pa,fun C ρ σ H n Q R S hd hq=>?_⟩
 refine h C ρ σ H n _ _ S hd fun t n' v H' r e1 hn q=>?_
 cases t with
 | tuple ts =>
  obtain⟨p,vs,rfl,h1,it⟩:=zkq (P:=fun a=>¬Own C ρ σ a) (fun _ z=>z) q
  exact⟨p,rfl,⟨vs,h1⟩,hq ts n' _ H' r e1 hn it⟩
 | _=>exact r.elim
def JI(lo:Int)(n:Nat):List PyData:=(List.range n).map fun(i:Nat)=>PyData.int (lo+(i:Int))
theorem zgU{K:qF}{hd:Option Addr}{P O:Addr->Prop}{H:Hp}{lo:Int}{m:Nat}:ItOk K hd P O H (Itr lo m) (JI lo m):=by
 intro O2 H2 _ _ _;refine⟨fun i t et=>?_,by show m<=(JI lo m).length;simp[JI]⟩
 unfold JI at et;rw[List.getElem?_map]at et
 by_cases hi:i<m
 ·rw[List.getElem?_range hi]at et;cases et;refine⟨hi,fun x H3 hy=>?_⟩
  obtain⟨rfl,rfl⟩:=hy;exact⟨Same.refl _,.int _⟩
 ·rw[List.getElem?_eq_none (by simp;omega)]at et
  cases et
def QI(d:DTE):DTA:=fun ρ n R=>d ρ n fun t n'=>match t with|.int j=>(-(2 ^ 62)<=j/\j<2 ^ 62)/\R (JI 0 j.toNat) n'|_=>False
theorem UH(hm:X.mg "range" = none) (h:DE X a d) (hg:Gl X "range":=by rfl) (hs:starEach [a] X.env=[(false,eval a X.env)]:=by rfl):DI X tg (.Call (.Name "range" p) [a] [] pos) (QI d):=by
 obtain⟨ta,pa,h⟩:=h;refine⟨_,zfi hg hm (zdw pa zfm hs) hs,fun C ρ σ H n Q R S hd hq=>?_⟩
 refine h C ρ σ H n _ _ S hd fun t n' v H' r e1 hn q=>?_
 cases t with
 | int j =>
  rw[q.intI];exact⟨j,rfl,r.1.1,r.1.2,hq _ n' _ H' r.2 e1 hn zgU⟩
 | _=>exact r.elim
def forP(g:DTG)(tb:DTS)(D:JB):List PyData->En->Nat->Prop
 | [],ρ,n=>D.nx ρ n
 | t::ts,ρ,n=>g t ρ fun ρ'=>tb { D with nx:=forP g tb D ts,ct:=forP g tb D ts,bk:=D.nx } ρ' n
def sFor(di:DTA)(g:DTG)(tb:DTS):DTS:=fun D ρ n=>di ρ n fun ts n1=>forP g tb D ts ρ n1
theorem Qp(hp:PassesOwn (model X.prog X.w) X.A X.env X.xe)(hc:X.calm=true)(hi:DI X tg iter di)(hg:DG X tg is g)(hb:DSs X sa t)
  (hs:∀x,foldedSetIterable iter X.env x=pure x:=by intro _;rfl):DS X (.For tg iter sa [] pos) (sFor di g t):=by
 obtain⟨wi,pi,hi⟩:=hi;obtain⟨_,gg,pg,hg⟩:=hg;obtain⟨tb,pb,hb⟩:=hb;refine⟨_,zjI hp hc pi pg pb hs,fun C ρ σ H n D D' S hd gd=>?_⟩
 refine hi C ρ σ H n _ _ S hd fun ts n1 J H1 r e1 hn it=>?_
 have S1:=S.on e1 hn;refine⟨fun i m σ2 H2=>m=ts.length - i/\i<=ts.length/\∃ρ2 n2,forP g t D' (ts.drop i) ρ2 n2/\Stt X.K C ρ2 σ2 H2 n2/\Keep C ρ σ H1 ρ2 σ2 H2,⟨ts.length,by simp,Nat.zero_le _,ρ,n1,by simpa using r,S1,Keep.refl⟩,?_⟩
 rintro i m σ2 H2 ⟨rfl,hi',ρ2,n2,f2,S2,k2⟩;have itq:=it (Own C ρ2 σ2) H2 (fun a o ha no=>(k2 a o ha (fun z=>no (.inl (S.hx a z))) fun z=>no (.inr z)).1) (fun a o ha no z=>z.elim (fun z=>no (.inl z)) fun z=>(k2 a o ha (fun y=>no (.inl (S.hx a y))) fun y=>no (.inr y)).2 z) (fun a=>S2.dom)
 by_cases hlt:i<ts.length
 ·have et:ts[i]?=some ts[i]:=List.getElem?_eq_getElem hlt;obtain⟨go,yl⟩:=itq.1 i _ et;rw[List.drop_eq_getElem_cons hlt]at f2;refine .inr ⟨go,fun σ' H'=>∃ρ' n',forP g t D' (ts.drop (i+1)) ρ' n'/\Stt X.K C ρ' σ' H' n'/\Keep C ρ σ H1 ρ' σ' H',fun σ' H' z=>⟨ts.length - (i+1),by omega,rfl,hlt,z⟩,fun x H3 hy=>?_⟩
  obtain⟨sm,rx⟩:=yl x H3 hy;have S3:=S2.on sm.ext (S2.hnd.same sm);have k3:Keep C ρ σ H1 ρ2 σ2 H3:=k2.trans (Same.ext sm:ExtE C.hd H2 H3).keep;refine hg C ρ2 σ2 H3 n2 x _ _ _ S3 rx f2 fun ρ4 σ4 r4 S4 k4 _ _=>?_
  have k5:=k3.trans k4;refine hb C ρ4 σ4 H3 n2 _ { D' with nx:=forP g t D' (ts.drop (i+1)),ct:=forP g t D' (ts.drop (i+1)),bk:=D'.nx } S4 r4 ⟨fun ρ' σ' H' n' h' S' k'=>⟨ρ',n',h',S',k5.trans k'⟩,fun t n' v H' h hn' k' rp=>gd.rt t n' v H' h hn' (fun a o ha nh no=>?_) rp,fun ρ' σ' H' n' h' S' k'=>gd.nx ρ' σ' H' n' h' S' (e1.keep.trans (k5.trans k')),fun ρ' σ' H' n' h' S' k'=>⟨ρ',n',h',S',k5.trans k'⟩,fun c n' H' h hn' k'=>gd.xr c n' H' h hn' fun a o ha nh no=>k' a o ((e1.keep.trans k5) a o ha nh no).1 nh ((e1.keep.trans k5) a o ha nh no).2⟩
  obtain⟨q1,q2⟩:=(e1.keep.trans k5) a o ha nh no;exact k' a o q1 nh q2
 ·have e:i=ts.length:=by omega
  subst e;rw[List.drop_length]at f2;exact .inl ⟨itq.2,gd.nx ρ2 σ2 H2 n2 f2 S2 (e1.keep.trans k2)⟩
def Jv(N:List Str)(ts:qD):En:=ts.map (fun t=>some (.val t))++List.replicate (N.length - ts.length) none
theorem zbK{K:qF}{hd:Option Addr}{O:Addr->Prop}{H:Hp}{n:Nat}{N:List Str}{vs:List V}{ts:qD}(r:Reps K hd O H vs ts)(hn:Hn hd H n)(dom:∀a,O a->MutO (H a))(hx:∀a,hd=some a->O a) :
  Stt K ⟨hd,O⟩ (Jv N ts) (start N vs) H n/\∀a,¬OwnS (Jv N ts) (start N vs) a:=by
 have get:∀(i:Nat) c,(Jv N ts)[i]?=some (some c)->∃t,c=.val t/\ts[i]?=some t:=fun i c h=>by
  unfold Jv at h
  by_cases hi:i<ts.length
  ·rw[List.getElem?_append_left (by simpa using hi),List.getElem?_map]at h
   cases e:ts[i]? with
   | none=>rw[e]at h;cases h
   | some t=>rw[e]at h;cases h;exact⟨t,rfl,rfl⟩
  ·rw[List.getElem?_append_right (by simpa using hi),List.getElem?_replicate]at h
   split at h <;> cases h
 have no:∀a,¬OwnS (Jv N ts) (start N vs) a:=fun a ⟨i,ds,m,h1,_⟩=>by
  obtain⟨t,e,_⟩:=get i _ h1;subst e;cases m
 refine⟨.mk' (by unfold Jv start;simp[r.length]) (fun i d h=>?_) (fun i ds m h=>?_) (fun i ks h=>by obtain⟨t,e,_⟩:=get i _ h;cases e) (fun i j ds es a m _ h=>?_) hn dom hx,no⟩
 ·obtain⟨t,e,et⟩:=get i _ h;cases e;obtain⟨v,ev,rv⟩:=r.get et;refine⟨v,?_,rv.mono (fun a o _ z=>z.elim id fun z=>absurd z (no a)) fun _ _ _ z=>z⟩
  unfold start;have hi:i<vs.length:=by
   rcases Nat.lt_or_ge i vs.length with z|z
   ·exact z
   ·rw[List.getElem?_eq_none z]at ev;cases ev
  rw[List.getElem?_append_left (by simpa using hi),List.getElem?_map,ev];rfl
 ·obtain⟨t,e,_⟩:=get i _ h;subst e;cases m
 ·obtain⟨t,e,_⟩:=get i _ h;subst e;cases m
end
end L2
namespace Bd
open PySem L2 PyProof.Rows
theorem Def.okD{P:Program}{w:World}{K:qF}{mg:qM}{base:Heap}{x:Str}{st:Stmt}{ps N:List Str}{f:Addr}{fd:FuncData}{k m:Nat}{g:GD}(D:Def K mg x st ps f fd)(S:JJ N ps (Jj st))(hm:m=ps.length)
  (hb:∀(cdv:Value) (A:Around) (outer:List Env) (s:Shared) (H:Hp) (E:XK),Room k (A.deeper (envOfC x (Jj st) s.heap.objs.size f cdv))->∃d,DSs (cxOf CX0 P w K mg base N x (Jj st) f cdv A outer s H E).nox (Jx st) d /\
   ∀ts n R,ts.length=m->g ts n R->d { nx:=fun _ n'=>R .none n',rt:=R } (Jv N ts) n):FnOk P w K mg base CX0 (k+1) f fd ps (spD K m g):=by
 refine D.F.ok S (fun vs H Q E h=>?_) (fun cdv A outer s H vs Q E hr h=>?_)
 ·obtain⟨hd,O,ts,n,R,r,_,_,_,hl,_⟩:=h;rw[r.length,hl,hm]
 ·obtain⟨hd,O,ts,n,R,r,hn,dom,hx,hl,hg,hq⟩:=h;obtain⟨d,⟨t,pt,ht⟩,hd'⟩:=hb cdv A outer s H E hr;obtain⟨S0,no⟩:=zbK (N:=N) r hn dom hx;refine⟨t,pt,ht ⟨hd,O⟩ _ _ H n _ _ S0 (hd' ts n R hl hg) ⟨fun ρ' σ' H' n' h S' k'=>?_,fun t n' v H' h hn' k' rp=>?_,fun _ _ _ _ h=>h.elim,fun _ _ _ _ h=>h.elim,fun _ _ _ h=>h.elim⟩⟩
  ·exact hq .none n' .non H' h (fun a o ha nh=>(k' a o ha nh (no a)).1) S'.hnd .non
  ·exact hq t n' v H' h (fun a o ha nh=>k' a o ha nh (no a)) hn' rp
end Bd
namespace L2
open PySem PySem.Spec PyProof.Rows
def DTs(Y:Cx)(ifs:List Expr)(d:DTT):Prop:=∃te,PTs Y ifs te/\∀(C:Ctx) (ρ:En) (σ:St) (H:Hp) (n:Nat) (Q:Bool->Hp->Prop) (R:Bool->Nat->Prop),Stt Y.K C ρ σ H n->d ρ n R ->
 (∀b n' H',R b n'->ExtE C.hd H H'->Hn C.hd H' n'->Q b H')->te σ H Q
def dYes:DTT:=fun _ n R=>R true n
section
variable{Y:Cx}{c:Expr}{d:DTT}
theorem ziP:DTs Y [] dYes:=⟨_,zh0,fun C ρ σ H n Q R S h hq=>hq true n H h ExtE.refl S.hnd⟩
theorem ziO(h:DT Y c d):DTs Y [c] d:=by
 obtain⟨te,p,h⟩:=h;exact⟨_,zhZ p,h⟩
end
theorem DE.uni{ι:Type}{Xf:ι->Cx}{K:qF}(hK:∀i,(Xf i).K=K){e:Expr}{d:DTE}(h:∀i,DE (Xf i) e d):∃te:TE,(∀i,PE (Xf i) e te)/\∀(C:Ctx) (ρ:En) (σ:St) (H:Hp) (n:Nat) (Q:VK) (R:qN),Stt K C ρ σ H n->d ρ n R ->
  (∀t n' v H',R t n'->ExtE C.hd H H'->Hn C.hd H' n'->Rep K C.hd (Own C ρ σ) H' v t->Q v H')->te σ H Q:=by
 refine⟨fun σ H Q=>∀i,(Classical.choose (h i)) σ H Q,fun i pins s σ H Q I hw=>(Classical.choose_spec (h i)).1 pins s σ H Q I (hw i),fun C ρ σ H n Q R S hd hq i=>?_⟩
 have:=(Classical.choose_spec (h i)).2 C ρ σ H n Q R;exact this (by rw[hK i];exact S) hd fun t n' v H' r e h q=>hq t n' v H' r e h (by rw[<- hK i];exact q)
theorem DTs.uni{ι:Type}{Xf:ι->Cx}{K:qF}(hK:∀i,(Xf i).K=K){e:List Expr}{d:DTT}(h:∀i,DTs (Xf i) e d):∃te:TT,(∀i,PTs (Xf i) e te)/\∀(C:Ctx) (ρ:En) (σ:St) (H:Hp) (n:Nat) (Q:Bool->Hp->Prop) (R:Bool->Nat->Prop),Stt K C ρ σ H n->d ρ n R ->
  (∀b n' H',R b n'->ExtE C.hd H H'->Hn C.hd H' n'->Q b H')->te σ H Q:=by
 refine⟨fun σ H Q=>∀i,(Classical.choose (h i)) σ H Q,fun i pins s σ H Q I hw=>(Classical.choose_spec (h i)).1 pins s σ H Q I (hw i),fun C ρ σ H n Q R S hd hq i=>?_⟩
 have:=(Classical.choose_spec (h i)).2 C ρ σ H n Q R;exact this (by rw[hK i];exact S) hd hq
theorem DG.uni{ι:Type}[Nonempty ι]{Xf:ι->Cx}{K:qF}(hK:∀i,(Xf i).K=K){e:Expr}{is:List Nat}{d:DTG}(h:∀i,DG (Xf i) e is d):∃te:TG,(∀i,PG (Xf i) e te)/\∀(C:Ctx) (ρ:En) (σ:St) (H:Hp) (n:Nat) (v:V) (t:PyData) (Q:St->Hp->Prop) (R:En->Prop),Stt K C ρ σ H n->Rep K C.hd (Own C ρ σ) H v t->d t ρ R ->
  (∀ρ' σ',R ρ'->Stt K C ρ' σ' H n->Keep C ρ σ H ρ' σ' H->(∀j,j∉is->σ'[j]?=σ[j]?)->σ'.length=σ.length->Q σ' H)->te v σ H Q:=by
 refine⟨fun v σ H Q=>∀i,(Classical.choose (h i).2) v σ H Q,fun i pins s σ H v u Q I r hw=>(Classical.choose_spec (h i).2).1 pins s σ H v u Q I r (hw i),fun C ρ σ H n v t Q R S r hd hq i=>?_⟩
 have:=(Classical.choose_spec (h i).2).2 C ρ σ H n v t Q R;exact this (by rw[hK i];exact S) (by rw[hK i];exact r) hd fun ρ' σ' hr S'=>hq ρ' σ' hr (by rw[<- hK i];exact S')
theorem Wk.of:∀{σ σ':St},σ.length=σ'.length->(∀(i:Nat) v,σ[i]?=some (some v)->σ'[i]?=some (some v))->Wk σ σ'
 | [],[],_,_=>trivial
 | [],_::_,h,_=>by simp at h
 | _::_,[],h,_=>by simp at h
 | none::r,o::r',h,k=>Wk.of (σ:=r) (σ':=r') (by simpa using h) fun i v e=>by simpa using k (i+1) v (by simpa using e)
 | some w::r,o::r',h,k=>⟨by simpa using k 0 w rfl,Wk.of (by simpa using h) fun i v e=>by simpa using k (i+1) v (by simpa using e)⟩
def capV:Option Cell->Option Cell
 | some (.val d)=>some (.val d)
 | some (.dct ks)=>some (.rdo ks)
 | some (.rdo ks)=>some (.rdo ks)
 | _=>none
def Jp(m:Nat)(capt:List Nat)(ρ:En):En:=List.replicate m none++capt.map fun i=>capV (ρ.getD i none)
def JR(g:DTG)(tt:DTT)(te:DTE)(ρ0:En):List PyData->List PyData->Nat->(List PyData->Nat->Prop)->Prop
 | [],acc,n,R=>R acc n
 | x::xs,acc,n,R=>g x ρ0 fun ρ1=>tt ρ1 n fun b n2=>if b=true then te ρ1 n2 fun t n3=>acc.length<16777216/\JR g tt te ρ0 xs (acc++[t]) n3 R else JR g tt te ρ0 xs acc n2 R
def dComp(m:Nat)(capt:List Nat)(di:DTA)(g:DTG)(tt:DTT)(te:DTE):DTA:=fun ρ n R=>di ρ n fun ts n1=>JR g tt te (Jp m capt ρ) ts [] n1 R
theorem zji{own:List Str}{capt is:List Nat}{σ σ4:St}(hin:∀i∈is,i<own.length)(hj:∀j,j∉is->σ4[j]?=(Jo own++capS capt σ)[j]?){j:Nat}{v:V}(ej:(Jo own++capS capt σ)[j]?=some (some v)):σ4[j]?=some (some v):=by
 by_cases hjo:j<own.length
 ·rw[List.getElem?_append_left (by simpa using hjo),List.getElem?_map]at ej
  cases z:own[j]? with
  | none=>rw[z]at ej;cases ej
  | some q=>rw[z]at ej;cases ej
 ·rw[hj j (fun z=>hjo (hin j z))];exact ej
theorem ExtE.updR{hd:Option Addr}{H1 H6:Hp}{D:Addr}{o:HO}(hD:H1 D=none)(e:ExtE hd H1 H6):ExtE hd H1 (upd H6 D o):=fun a u ha nh=>by
 rw[Ja (JD ha hD)];exact e a u ha nh
theorem Hn.updR{hd:Option Addr}{H6:Hp}{D:Addr}{o:HO}{n:Nat}(nhd:hd≠some D)(h:Hn hd H6 n):Hn hd (upd H6 D o) n:=fun a ha=>by
 obtain⟨d,m,t,q,rest⟩:=h a ha;exact⟨d,m,t,by rw[Ja (show a≠D from fun z=>nhd (by rw[<- z];exact ha))];exact q,rest⟩
section
variable{X:Cx}{scope:Scope}{own:List Str}{capt:List Nat}{elt tg iter:Expr}{ifs:List Expr}{pos:Pos}{di:DTA}{is:List Nat}{g:DTG}{tt:DTT}{te:DTE}
theorem zcK{ρ:En}{i:Nat}{c:Cell}(h:capV (ρ.getD i none)=some c):(∃d,c=.val d/\ρ[i]?=some (some (.val d)))\/∃ks,c=.rdo ks/\(ρ[i]?=some (some (.dct ks))\/ρ[i]?=some (some (.rdo ks))):=by
 rw[List.getD_eq_getElem?_getD]at h;cases e:ρ[i]? with
 | none=>rw[e]at h;cases h
 | some o =>
  rw[e]at h;cases o with
  | none=>cases h
  | some c' =>
   cases c' with
   | val d'=>simp[capV]at h;exact .inl ⟨d',h.symm,rfl⟩
   | own _=>simp[capV]at h
   | dct ks=>simp[capV]at h;exact .inr ⟨ks,h.symm,.inl rfl⟩
   | dtt ks=>simp[capV]at h
   | rdo ks=>simp[capV]at h;exact .inr ⟨ks,h.symm,.inr rfl⟩
theorem zfX{K:qF}{C:Ctx}{ρ:En}{σ:St}{H H2:Hp}{n n2:Nat}{D:Addr}(S:Stt K C ρ σ H n)(e:ExtE C.hd H H2)(hn:Hn C.hd H2 n2)(hD:H D=none)(hy:MutO (H2 D)) :
  Stt K ⟨C.hd,fun a=>Own C ρ σ a\/a=D⟩ (Jp own.length capt ρ) (Jo own++capS capt σ) H2 n2/\∀a,¬OwnS (Jp own.length capt ρ) (Jo own++capS capt σ) a:=by
 have get:∀(i:Nat) c,(Jp own.length capt ρ)[i]?=some (some c)->∃j,capV (ρ.getD j none)=some c/\own.length<=i/\capt[i - own.length]?=some j:=fun i c h=>by
  unfold Jp at h
  by_cases hi:i<own.length
  ·rw[List.getElem?_append_left (by simpa using hi),List.getElem?_replicate]at h
   split at h <;> cases h
  ·rw[List.getElem?_append_right (by simpa using hi),List.length_replicate,List.getElem?_map]at h
   cases ej:capt[i - own.length]? with
   | none=>rw[ej]at h;cases h
   | some j =>
    rw[ej]at h;exact⟨j,by simpa using h,by omega,rfl⟩
 have slot:∀(i j:Nat) (v:V),own.length<=i->capt[i - own.length]?=some j->σ[j]?=some (some v)->(Jo own++capS capt σ)[i]?=some (some v):=fun i j v hi e3 h1=>by
  rw[List.getElem?_append_right (by simpa using hi)]
  simp only[List.length_map,List.getElem?_map,e3,Option.map_some];rw[List.getD_eq_getElem?_getD,h1];rfl
 have nm:∀(i:Nat) (c:Cell),c.mine=true->(Jp own.length capt ρ)[i]?=some (some c)->False:=fun i c m h=>by
  obtain⟨j,e1,_⟩:=get i c h;rcases zcK e1 with⟨d,rfl,_⟩|⟨ks,rfl,_⟩ <;> cases m
 have no:∀a,¬OwnS (Jp own.length capt ρ) (Jo own++capS capt σ) a:=fun a ⟨i,c,m,h1,_⟩=>nm i c m h1
 have S2:=S.on e hn;have sub:∀a o,H a=some o->Own ⟨C.hd,fun a=>Own C ρ σ a\/a=D⟩ (Jp own.length capt ρ) (Jo own++capS capt σ) a->Own C ρ σ a:=fun a o ha z=>by
  rcases z with z|z
  ·rcases z with z|z
   ·exact z
   ·subst z;rw[hD]at ha;cases ha
  ·exact absurd z (no a)
 have kp:∀a o,¬Own C ρ σ a->H a=some o->H2 a=some o:=fun a o nO ha=>e a o ha fun z=>nO (.inl (S.hx a z))
 refine⟨.mk' (by unfold Jp;simp) (fun i d h=>?_) (fun i ds m h=>(nm i _ m h).elim) (fun i ks h=>?_) (fun i j ds es a m _ h=>(nm i _ m h).elim) hn (fun a ha=>?_) (fun a ha=>.inl (.inl (S.hx a ha))),no⟩
 ·obtain⟨j,e1,hi,e3⟩:=get i _ h;rcases zcK e1 with⟨d',z,e2⟩|⟨ks,z,_⟩
  ·cases z;obtain⟨v,h1,h2⟩:=S.val j d e2;exact⟨v,slot i j v hi e3 h1,h2.mono sub kp⟩
  ·cases z
 ·obtain⟨j,e1,hi,e3⟩:=get i _ h;rcases zcK e1 with⟨d',z,e2⟩|⟨ks',z,e2⟩
  ·cases z
  ·cases z;rcases e2 with e2|e2
   ·obtain⟨a,kvs,h1,h2,h3,h4⟩:=S.dct j ks e2;have nh:C.hd≠some a:=fun z=>h4 (S.hx a z)
    exact⟨a,kvs,slot i j _ hi e3 h1,e a _ h2 nh,h3.mono sub kp,.inl (.inr ⟨j,.dct ks,rfl,e2,h1⟩),nh⟩
   ·obtain⟨a,kvs,h1,h2,h3,h4,nh⟩:=S.rdo j ks e2;exact⟨a,kvs,slot i j _ hi e3 h1,e a _ h2 nh,h3.mono sub kp,.inl (.inl h4),nh⟩
 ·rcases ha with ha|rfl
  ·exact S2.lst ha
  ·exact hy
theorem zha{K:qF}{C:Ctx}{ρ:En}{σ:St}{H H2:Hp}{n n2:Nat}{D:Addr}{ys:List V}(S:Stt K C ρ σ H n)(e:ExtE C.hd H H2)(hn:Hn C.hd H2 n2)(hD:H D=none)(hy:H2 D=some (.lst ys)) :
  Stt K ⟨C.hd,fun a=>Own C ρ σ a\/a=D⟩ (Jp own.length capt ρ) (Jo own++capS capt σ) H2 n2/\∀a,¬OwnS (Jp own.length capt ρ) (Jo own++capS capt σ) a:=zfX S e hn hD (.inl ⟨_,hy⟩)
def zld(K:qF)(te:TE)(d:DTA):Prop:=∀(C:Ctx) (ρ:En) (σ:St) (H:Hp) (n:Nat) (Q:VK) (R:List PyData->Nat->Prop),Stt K C ρ σ H n->d ρ n R ->
 (∀ts n' p vs H',R ts n'->ExtE C.hd H H'->Hn C.hd H' n'->H p=none->H' p=some (.lst vs)->Reps K C.hd (fun a=>Own C ρ σ a\/a=p) H' vs ts->Q (.ref p) H')->te σ H Q
theorem zdi(hi:DIL X tg iter di)
  (hg:∀C s₀ H₀ fp,DG (Jc X scope own capt C s₀ H₀ fp) tg is g) (hin:∀i∈is,i<own.length) (ht:∀C s₀ H₀ fp,DTs (Jc X scope own capt C s₀ H₀ fp) ifs tt) (he:∀C s₀ H₀ fp,DE (Jc X scope own capt C s₀ H₀ fp) elt te) :
  ∃(wi:TI) (gg:TG) (gt:TT) (ge:TE),PI X tg iter wi/\(∀C s₀ H₀ fp,PG (Jc X scope own capt C s₀ H₀ fp) tg gg)/\(∀C s₀ H₀ fp,PTs (Jc X scope own capt C s₀ H₀ fp) ifs gt)/\(∀C s₀ H₀ fp,PE (Jc X scope own capt C s₀ H₀ fp) elt ge)/\zld X.K (tComp own capt wi gg gt ge) (dComp own.length capt di g tt te):=by
 obtain⟨wi,pi,hi⟩:=hi
 let Xf:(Addr×Shared×Hp×List Addr)->Cx:=fun q=>Jc X scope own capt q.1 q.2.1 q.2.2.1 q.2.2.2
 have hK:∀q,(Xf q).K=X.K:=fun _=>rfl
 have hne:Nonempty (Addr×Shared×Hp×List Addr):=⟨(0,X.s₀,X.H₀,[])⟩;obtain⟨gg,pg,hgg⟩:=DG.uni (Xf:=Xf) hK fun q=>hg q.1 q.2.1 q.2.2.1 q.2.2.2
 obtain⟨gt,pt,hgt⟩:=DTs.uni (Xf:=Xf) hK fun q=>ht q.1 q.2.1 q.2.2.1 q.2.2.2
 obtain⟨ge,pe,hge⟩:=DE.uni (Xf:=Xf) hK fun q=>he q.1 q.2.1 q.2.2.1 q.2.2.2
 refine⟨wi,gg,gt,ge,pi,(fun C s₀ H₀ fp=>pg (C,s₀,H₀,fp)),(fun C s₀ H₀ fp=>pt (C,s₀,H₀,fp)),(fun C s₀ H₀ fp=>pe (C,s₀,H₀,fp)),fun C ρ σ H n Q R St hd hq=>?_⟩
 refine hi C ρ σ H n _ _ St hd fun ts n1 J H1 r e1 hn it=>fun D hD1=>?_
 have St1:=St.on e1 hn;have hD:H D=none:=UF e1 hn hD1;have nhd:C.hd≠some D:=fun z=>St.dom (.inl (St.hx D z)) hD
 refine zfZ (n:=ts.length) (fun i ys H2=>∃acc n2,JR g tt te (Jp own.length capt ρ) (ts.drop i) acc n2 R/\Reps X.K C.hd (fun a=>Own C ρ σ a\/a=D) H2 ys acc/\ExtE C.hd H1 H2/\Hn C.hd H2 n2)
  ⟨[],n1,by simpa using r,.nil,ExtE.new hD1,hn.same (JC hD1)⟩ ?_ ?_
 ·rintro i ys H2 hlt hy ⟨acc,n2,c2,r2,e2,hn2⟩;have et:ts[i]?=some ts[i]:=List.getElem?_eq_getElem hlt;rw[List.drop_eq_getElem_cons hlt]at c2;have itq:=it (fun a=>Own C ρ σ a\/a=D) H2 (fun a o ha nh=>e2 a o ha nh) (fun a o ha no z=>z.elim no fun z=>by subst z;rw[hD1]at ha;cases ha) (fun a z=>z.elim (fun z=>(St1.on e2 hn2).dom z) fun z=>by subst z;rw[hy];exact fun z=>by cases z)
  obtain⟨go,yl⟩:=itq.1 i _ et;refine⟨go,fun x H3 hyd=>?_⟩
  obtain⟨sm,rx⟩:=yl x H3 hyd;have hn3:=hn2.same sm;have e3:ExtE C.hd H1 H3:=e2.trans sm.ext;obtain⟨I3,no3⟩:=zha (own:=own) (capt:=capt) (D:=D) (ys:=ys) St (e1.trans e3) hn3 hD (sm _ _ hy);have rx':Rep X.K C.hd (Own ⟨C.hd,fun a=>Own C ρ σ a\/a=D⟩ (Jp own.length capt ρ) (Jo own++capS capt σ)) H3 x ts[i]:=rx.mono (fun a o _ z=>z.elim id fun z=>absurd z (no3 a)) fun _ _ _ z=>z
  refine hgg ⟨C.hd,fun a=>Own C ρ σ a\/a=D⟩ (Jp own.length capt ρ) (Jo own++capS capt σ) H3 n2 x ts[i] _ _ I3 rx' c2 fun ρ4 σ4 r4 S4 k4 hj hl=>⟨Wk.of hl.symm fun j v ej=>zji hin hj ej,?_⟩
  ·refine hgt _ ρ4 σ4 H3 n2 _ _ S4 r4 fun b n5 H5 r5 e5 hn5=>?_
   have S5:=S4.on e5 hn5;have hy5:H5 D=some (.lst ys):=e5 D _ (sm _ _ hy) nhd;have r25:∀{H6},ExtE C.hd H2 H6->Reps X.K C.hd (fun a=>Own C ρ σ a\/a=D) H6 ys acc:=fun e=>r2.mono (fun _ _ _ z=>z) fun a o no ha=>e a o ha fun z=>no (.inl (.inl (St.hx a z)))
   cases b with
   | false =>
    refine iteF ⟨ys,hy5,acc,n5,by simpa using r5,r25 ((Same.ext sm).trans e5),e3.trans e5,hn5⟩
   | true =>
    refine iteT (hge _ ρ4 σ4 H5 n5 _ _ S5 (by simpa using r5) fun t n6 v H6 r6 e6 hn6 q6=>?_)
    have hy6:H6 D=some (.lst ys):=e6 D _ hy5 nhd;have rl:=(r25 ((Same.ext sm).trans (e5.trans e6))).length;refine⟨ys,hy6,by rw[rl];exact r6.1,acc++[t],n6,r6.2,?_,?_,?_⟩
    ·have q6':Rep X.K C.hd (fun a=>Own C ρ σ a\/a=D) H6 v t:=q6.mono (fun _ _ _ z=>.inl z) fun _ _ _ z=>z
     have all:=(r25 ((Same.ext sm).trans (e5.trans e6))).append (Reps.cons q6' .nil);exact all.mono (fun _ _ _ z=>z) fun a o no ha=>by rw[Ja (show a≠D from fun z=>no (.inr z))];exact ha
    ·exact ExtE.updR hD1 (e3.trans (e5.trans e6))
    ·exact Hn.updR nhd hn6
 ·rintro ys H2 hy ⟨acc,n2,c2,r2,e2,hn2⟩;rw[List.drop_length]at c2;have itq:=it (fun a=>Own C ρ σ a\/a=D) H2 (fun a o ha nh=>e2 a o ha nh) (fun a o ha no z=>z.elim no fun z=>by subst z;rw[hD1]at ha;cases ha) (fun a z=>z.elim (fun z=>(St1.on e2 hn2).dom z) fun z=>by subst z;rw[hy];exact fun z=>by cases z)
  exact⟨itq.2,hq acc n2 D ys H2 c2 (e1.trans e2) hn2 hD hy r2⟩
theorem ziT(hc:X.calm=true)(S:Jz scope own capt X)(hi:DIL X tg iter di)
  (hg:∀C s₀ H₀ fp,DG (Jc X scope own capt C s₀ H₀ fp) tg is g) (hin:∀i∈is,i<own.length) (ht:∀C s₀ H₀ fp,DTs (Jc X scope own capt C s₀ H₀ fp) ifs tt) (he:∀C s₀ H₀ fp,DE (Jc X scope own capt C s₀ H₀ fp) elt te)
  (hs:∀x,foldedSetIterable iter X.env x=pure x:=by intro _;rfl):DN X (.ListComp elt [⟨tg,iter,ifs,0⟩] scope pos) (dComp own.length capt di g tt te):=by
 obtain⟨wi,gg,gt,ge,a,b,c,d,sp⟩:=zdi hi hg hin ht he;exact⟨_,zgx hc S a b c d hs,sp⟩
def DNA(X:Cx)(x:Str)(pos':Pos)(e:Expr)(pos:Pos)(i:Nat)(d:DTA):Prop:=∃te,PS X (.Assign [.Name x pos'] e pos) (tAsg te (Ui i))/\zld X.K te d
theorem zg8{x:Str}{pos' spos:Pos}{i:Nat}(hN:X.N.Nodup)(hxi:X.N[i]?=some x)(hx:Loc X.env.scope x)(hc:X.calm=true)(S:Jz scope own capt X)(hi:DIL X tg iter di)
  (hg:∀C s₀ H₀ fp,DG (Jc X scope own capt C s₀ H₀ fp) tg is g) (hin:∀i∈is,i<own.length) (ht:∀C s₀ H₀ fp,DTs (Jc X scope own capt C s₀ H₀ fp) ifs tt) (he:∀C s₀ H₀ fp,DE (Jc X scope own capt C s₀ H₀ fp) elt te)
  (hs:∀x,foldedSetIterable iter X.env x=pure x:=by intro _;rfl) (hsw:swapsWith (.ListComp elt [⟨tg,iter,ifs,0⟩] scope pos) (some (.Name x pos')) spos.line X.env=pure true:=by rfl)
  (hf:X.fn x=true\/X.env.scope.names.lookup x=some .local:=by walk_at "F") :
  DNA X x pos' (.ListComp elt [⟨tg,iter,ifs,0⟩] scope pos) spos i (dComp own.length capt di g tt te):=by
 obtain⟨wi,gg,gt,ge,a,b,c,d,sp⟩:=zdi hi hg hin ht he;exact⟨_,zff hc S a b c d hN hxi hx hs hsw hf,sp⟩
theorem ziS{x:Str}{pos' spos:Pos}{e:Expr}{i:Nat}{d:DTA}(h:DNA X x pos' e spos i d):DS X (.Assign [.Name x pos'] e spos) (sSet i (dNew d)):=by
 obtain⟨ta,pa,h⟩:=h;refine⟨_,pa,fun C ρ σ H n D D' S hd g=>?_⟩
 refine h C ρ σ H n _ _ S hd fun ts n' p vs H' r e1 h1 h2 h3 h4=>?_
 exact g.nx _ _ H' n' r ((S.on e1 h1).put (.lst h3 (S.free h2|> fun z=>z) (h4.mono (fun _ _ _ z=>.inl z) fun _ _ _ z=>z))) (e1.keep.trans zcI)
end
def Us(K:qF):Sp:=fun vs H Q _=>∃(a:Addr) (ns:List Int) (k:Int),vs=[.ref a,.int k]/\SqL K H a (ns.map V.int)/\ns.length<=63/\0<=k/\k<=100 /\
 ∀hd H',H hd=none->Uj H' hd 0->Same H H'->Q (.ref hd) H'
def zlc(hd:Addr)(H H':Hp):Prop:=∀b o,H b=some o->b≠hd->H' b=some o
def zhh:Sp:=fun vs H Q _=>∃(hd:Addr) (many n:Int),vs=[.ref hd,.int many]/\Uj H hd n/\n<=1000000000000/\0<many/\many<2 ^ 128 /\
 ∀(r:Int) H',0<=r->r<many->Uj H' hd (n+1)->zlc hd H H'->Q (.int r) H'
def Qq:GD:=fun ts n R=>match ts with
 | [h,.int many]=>h=HAND/\0<many/\many<2 ^ 128/\n<=1000000000000/\∀r:Int,0<=r->r<many->R (.int r) (n+1)
 | _=>False
theorem zgi{K:qF}(vs:List V)(H:Hp)(Q:VK)(E:XK)(h:spD K 2 Qq vs H Q E):zhh vs H Q E:=by
 obtain⟨hd,O,ts,n,R,r,hn,dom,hx,hl,g,hq⟩:=h;unfold Qq at g;split at g
 ·rename_i hh many;obtain⟨rfl,m0,m1,hn',g⟩:=g;cases r with
  | cons r1 r =>
   cases r with
   | cons r2 r =>
    cases r;obtain⟨a,rfl,ea⟩:=r1.handI;rw[r2.intI];refine⟨a,many,n,rfl,hn a ea,by omega,m0,m1,fun q H' q0 q1 hh sx=>?_⟩
    refine hq _ (n+1) _ H' (g q q0 q1) (fun b o hb nb=>sx b o hb fun z=>nb (by rw[ea,z])) (fun b eb=>?_) (.int _)
    rw[ea]at eb;cases eb;exact hh
 ·exact g.elim
def zjs:Option (Option Cell)->(List PyData->Prop)->Prop
 | some (some (.val (.dict [(.none,.list ts)]))),R=>R ts
 | _,_=>False
def Jq(ρ:En):En:=match (ρ[(0:Nat)]?:Option (Option Cell)) with
 | some (some (.val (.dict [(.none,.list ts)])))=>some (.val (.dict [(.none,.list ts)]))::List.replicate (ρ.length - 1) none
 | _=>List.replicate ρ.length none
def intOf:Option (Option Cell)->(Int->Prop)->Prop
 | some (some (.val (.int k))),R=>R k
 | _,_=>False
def Qs(i j:Nat)(u:DTS):DTS:=fun D ρ n=>zjs ρ[0]? fun ts=>intOf ρ[j]? fun k=>(∃ns:List Int,ts=ns.map PyData.int/\ns.length<=63)/\0<=k/\k<=100 /\
 u { nx:=fun ρ' _=>D.nx (Jq ρ') n,rt:=fun t _=>∃b,t=.bool b/\D.rt t n,bk:=fun ρ' _=>D.bk (Jq ρ') n,ct:=fun ρ' _=>D.ct (Jq ρ') n } (((Jq ρ).set j (some (.val (.int k)))).set i (some (.val HAND))) 0
theorem Qr(h:(Jq ρ)[i]?=some (some c)):i=0/\ρ[0]?=some (some c)/\∃ts,c=.val (.dict [(.none,.list ts)]):=by
 unfold Jq at h;split at h
 ·rename_i ts e;cases i with
  | zero=>simp at h;subst h;exact⟨rfl,e,ts,rfl⟩
  | succ i =>
   rw[List.getElem?_cons_succ,List.getElem?_replicate]at h;split at h <;> cases h
 ·rw[List.getElem?_replicate]at h;split at h <;> cases h
theorem zg7:(Jq ρ).length=ρ.length:=by
 unfold Jq;split
 ·rename_i ts e;cases ρ with
  | nil=>simp at e
  | cons a r=>simp
 ·simp
theorem zcL:¬OwnS (Jq ρ) σ a:=fun⟨i,ds,m,h,_⟩=>by
 obtain⟨_,_,ts,e⟩:=Qr h;subst e;cases m
theorem Rep.scrHd{K:qF}{hd hd':Option Addr}{O O':Addr->Prop}{H H':Hp}{v:V}{ts:qD}(h:Rep K hd O H v (.dict [(.none,.list ts)]))(ho:∀a o,H a=some o->¬O a->H' a=some o/\¬O' a):Rep K hd' O' H' v (.dict [(.none,.list ts)])/\∃ns:List Int,ts=ns.map PyData.int:=by
 generalize e:(PyData.dict [(PyData.none,PyData.list ts)])=t at h;cases h with
 | @scr a ns h1 o =>
  have e':ts=ns.map PyData.int:=by simpa[SCR] using e
  subst e';refine⟨?_,ns,rfl⟩;rcases h1 with h1|⟨u,h1⟩
  ·exact .scr (.inl (ho a _ h1 o).1) (ho a _ h1 o).2
  ·exact .scr (.inr ⟨u,(ho a _ h1 o).1⟩) (ho a _ h1 o).2
 | @scrS a ns h1 =>
  have e':ts=ns.map PyData.int:=by simpa[SCR] using e
  subst e';exact⟨.scrS h1,ns,rfl⟩
 | hand _=>simp[HAND]at e
 | dct _ _=>cases e
 | dcK _ _ _ e'=>cases e;exact(dict_noK e').elim
 | dcT _ _ _ e'=>cases e;exact(dict_noT e').elim
 | _=>cases e
theorem Stt.drop{K:qF}{C C':Ctx}{ρ:En}{σ:St}{H H':Hp}{n n':Nat}(S:Stt K C' ρ σ H n)(hn:Hn C.hd H' n')(hl:∀a,C.ext a->MutO (H' a))(hx:∀a,C.hd=some a->C.ext a)
  (ho:∀a o,H a=some o->¬Own C' ρ σ a->H' a=some o/\¬C.ext a):Stt K C (Jq ρ) σ H' n' where
 len:=by rw[zg7];exact S.len
 val:=fun i d h=>by
  obtain⟨rfl,e0,ts,et⟩:=Qr h;cases et;obtain⟨v,h1,h2⟩:=S.val 0 _ e0;exact⟨v,h1,(h2.scrHd fun a o ha no=>⟨(ho a o ha no).1,fun z=>z.elim (ho a o ha no).2 zcL⟩).1⟩
 own:=fun i ds h=>by
  obtain⟨_,_,ts,e⟩:=Qr h;cases e
 dct:=fun i ds h=>by
  obtain⟨_,_,ts,e⟩:=Qr h;cases e
 rdo:=fun i ds h=>by
  obtain⟨_,_,ts,e⟩:=Qr h;cases e
 dtt:=fun i ds h=>by
  obtain⟨_,_,ts,e⟩:=Qr h;cases e
 dif:=fun i j ds es a m _ h=>by
  obtain⟨_,_,ts,e⟩:=Qr h;subst e;cases m
 hnd:=hn
 ext:=hl
 hx:=hx
section
variable{X:Cx}{st:Stmt}{sts:List Stmt}{ps:List Str}{f:Addr}{fd:FuncData}{u:DTS}{x s kx hx:Str}{pos pos' p p1 p2 p3:Pos}{k:Nat}
theorem zg6{i j:Nat}(D:Bd.Def X.K X.mg hx st ps f fd)(G:FnOk X.prog X.w X.K X.mg X.base CX0 k f fd ps (Us X.K))(hr:Room k X.A)(hN:X.N.Nodup)(hi:X.N[i]?=some x)(hlx:Loc X.env.scope x)(hu:DSs X sts u)(hij:i≠0:=by decide)(hj0:j≠0:=by decide)(hji:j≠i:=by decide)
  (h0:X.N[0]?=some s:=by rfl) (hj:X.N[j]?=some kx:=by rfl) (hv0:Vis X.env.scope s:=by walk_at "V") (hvj:Vis X.env.scope kx:=by walk_at "V")
  (hd0:(s == ("__debug__":Str))=false:=by rfl) (hcd0:(s == ("__classdict__":Str))=false:=by rfl) (hdj:(kx == ("__debug__":Str))=false:=by rfl) (hcdj:(kx == ("__classdict__":Str))=false:=by rfl) (hg:Gl X hx:=by rfl) (hdb:(hx == ("__debug__":Str))=false:=by rfl)
  (hs:swapsWith (.Call (.Name hx p) [.Name s p1,.Name kx p2] [] p3) (some (.Name x pos')) pos.line X.env=pure false:=by rfl) (hf:X.fn x=true\/X.env.scope.names.lookup x=some .local:=by walk_at "F") :
  DSs X (.Assign [.Name x pos'] (.Call (.Name hx p) [.Name s p1,.Name kx p2] [] p3) pos::sts) (Qs i j u):=by
 obtain⟨tu,pu,hu⟩:=hu;refine⟨_,JG (JN hN hi hlx (Bd.zia D G hr (JE (J1 h0 hv0 hd0 hcd0) (JE (J1 hj hvj hdj hcdj) JV rfl) rfl) hg hdb) hs hf) pu,fun C ρ σ H n Dn D' S hd g=>?_⟩
 unfold Qs zjs at hd;split at hd
 ·rename_i ts e0;unfold intOf at hd;split at hd
  ·rename_i kk ej;obtain⟨⟨ns,rfl,hl⟩,k0,k1,hd⟩:=hd;obtain⟨v0,s0,r0⟩:=S.val 0 _ e0;obtain⟨vj,sj,rj⟩:=S.val j _ ej;obtain⟨a0,rfl,sq0⟩:=r0.scrI;rw[rj.intI]at sj;refine⟨_,s0,_,sj,?_⟩;refine⟨a0,ns,kk,rfl,sq0,hl,k0,k1,fun h H1 hh hok sm=>?_⟩
   have S1:=S.on (Same.ext sm:ExtE C.hd H H1) (S.hnd.same sm);have nx:¬Own C ρ σ h:=fun z=>S.dom z hh
   have Sd:Stt X.K ⟨some h,fun a=>C.ext a\/a=h⟩ (Jq ρ) σ H1 0:=S.drop (fun a ea=>by cases ea;exact hok) (fun a z=>z.elim (fun z=>S1.ext a z) fun z=>by subst z;obtain⟨_,_,_,q,_⟩:=hok;exact .inl ⟨_,q⟩) (fun a ea=>.inr (by cases ea;rfl))
    (fun a o ha no=>⟨sm a o ha,fun z=>z.elim (fun z=>no (.inl z)) fun z=>by subst z;rw[hh]at ha;cases ha⟩)
   have Sd2:=(Sd.put (i:=j) (t:=.int kk) (v:=.int kk) (.int kk)).put (i:=i) (t:=HAND) (v:=.ref h) (.hand rfl);have own2:∀a,¬OwnS (((Jq ρ).set j (some (.val (.int kk)))).set i (some (.val HAND))) ((σ.set j (some (.int kk))).set i (some (.ref h))) a:=fun a z=>zcL (UL (UL z))
   have es:(σ.set j (some (V.int kk)))=σ:=by
    apply List.ext_getElem?
    intro q
    by_cases z:j=q
    ·subst z;have:j<σ.length:=by
      rcases Nat.lt_or_ge j σ.length with w|w
      ·exact w
      ·rw[List.getElem?_eq_none w]at sj;cases sj
     rw[ze6 this,sj]
    ·rw[List.getElem?_set_ne z]
   rw[es]at Sd2 own2;refine hu _ _ _ H1 0 _ _ Sd2 hd ?_;have back:∀{ρ' σ' H' n'},Stt X.K ⟨some h,fun a=>C.ext a\/a=h⟩ ρ' σ' H' n'->(∀a o,H1 a=some o->some h≠some a->H' a=some o)->Stt X.K C (Jq ρ') σ' H' n:=fun {ρ' σ' H' n'} S' kp =>
    S'.drop (fun a ea=>by
      obtain⟨d,m,t,q,rest⟩:=S.hnd a ea;exact⟨d,m,t,kp a _ (sm _ _ q) (fun z=>by cases z;rw[hh]at q;cases q),rest⟩)
     (fun a z=>by
      rcases S.ext a z with⟨xs,q⟩|⟨xs,q⟩|⟨b,xs,ep,q⟩
      ·exact .inl ⟨xs,kp a _ (sm _ _ q) (fun z=>by cases z;rw[hh]at q;cases q)⟩
      ·exact .inr (.inl ⟨xs,kp a _ (sm _ _ q) (fun z=>by cases z;rw[hh]at q;cases q)⟩)
      ·exact .inr (.inr ⟨b,xs,ep,kp a _ (sm _ _ q) (fun z=>by cases z;rw[hh]at q;cases q)⟩)) S.hx (fun a o ha no=>⟨ha,fun z=>no (.inl (.inl z))⟩)
   have kp1:∀{ρ' σ' H'},Keep ⟨some h,fun a=>C.ext a\/a=h⟩ (((Jq ρ).set j (some (.val (.int kk)))).set i (some (.val HAND))) (σ.set i (some (.ref h))) H1 ρ' σ' H'->∀a o,H1 a=some o->some h≠some a->H' a=some o:=fun k a o ha na=>(k a o ha na (own2 a)).1
   have kp2:∀{ρ' σ' H'},Keep ⟨some h,fun a=>C.ext a\/a=h⟩ (((Jq ρ).set j (some (.val (.int kk)))).set i (some (.val HAND))) (σ.set i (some (.ref h))) H1 ρ' σ' H'->Keep C ρ σ H (Jq ρ') σ' H':=fun k a o ha _ _=>⟨kp1 k a o (sm a o ha) (fun z=>by cases z;rw[hh]at ha;cases ha),zcL⟩
   refine⟨fun ρ' σ' H' n' h' S' k'=>g.nx _ _ H' n h' (back S' (kp1 k')) (kp2 k'),fun t n' v H' h' hn' k' rp=>?_,fun ρ' σ' H' n' h' S' k'=>g.bk _ _ H' n h' (back S' (kp1 k')) (kp2 k'),fun ρ' σ' H' n' h' S' k'=>g.ct _ _ H' n h' (back S' (kp1 k')) (kp2 k'),fun _ _ _ h=>h.elim⟩
   obtain⟨b,rfl,h'⟩:=h';rw[rp.blI];have kq:∀a o,H a=some o->H' a=some o:=fun a o ha=>k' a o (sm a o ha) (fun z=>by cases z;rw[hh]at ha;cases ha) (own2 a)
   refine g.rt _ n _ H' h' (fun a ea=>?_) (fun a o ha _ _=>kq a o ha) (.bl b)
   obtain⟨d,m,t,q,rest⟩:=S.hnd a ea;exact⟨d,m,t,kq a _ q,rest⟩
  ·exact hd.elim
 ·exact hd.elim
end
def zhN(K:qF):Sp:=fun vs H Q _=>∃(a:Addr) (ns:List Int),vs=[.ref a]/\SqL K H a (ns.map V.int)/\ns.length<=63/\∀H',Q (.bl true) H'
def zkN:GD:=fun ts n R=>∃ns:List Int,ts=[SCR ns]/\ns.length<=63/\∀n',R (.bool true) n'
theorem zis{K:qF}(vs:List V)(H:Hp)(Q:VK)(E:XK)(h:zhN K vs H Q E):spD K 1 zkN vs H Q E:=by
 obtain⟨a,ns,rfl,sq,hl,q⟩:=h;refine⟨none,fun _=>False,[SCR ns],0,fun t _=>t=.bool true,.cons ?_ .nil,(fun a e=>by cases e),(fun a z=>z.elim),(fun a e=>by cases e),rfl,⟨ns,rfl,hl,fun _=>rfl⟩,fun t n' v H' ht _ _ rp=>?_⟩
 ·rcases sq with sq|sq
  ·exact .scr sq (fun z=>z)
  ·exact .scrS fun _=>.inr sq
 ·subst ht;rw[rp.blI];exact q H'
section
variable{env:Env}{es:List Expr}{a b:Expr}{l1 l2:List Expr}{p:Pos}{x:Str}
theorem JT:starEach (.Name x p::es) env=(false,eval (.Name x p) env)::starEach es env:=rfl
theorem Ut{j}:starEach (.Constant (.int i) j p::es) env=(false,eval (.Constant (.int i) j p) env)::starEach es env:=rfl
theorem UC{c d}:starEach (.Call a l1 c d::es) env=(false,eval (.Call a l1 c d) env)::starEach es env:=rfl
theorem ze4{o}:starEach (.BinOp a o b p::es) env=(false,eval (.BinOp a o b p) env)::starEach es env:=rfl
end
section
variable{X:Cx}{a b c e:Expr}{da db dc:DTE}{pos p:Pos}{r r':R2}{g g':G2}
theorem zg5(ho:OpR X (compareOp op) r)(hg:Gp2 X r g)(ho':OpR X (compareOp op') r')(hg':Gp2 X r' g')(ha:DL X a da)(hb:DL X b db)(hc:DL X c dc)
  (hm:lastMarks [op,op'] [b,c]=false:=by with_unfolding_all rfl):DT X (.Compare a [op,op'] [b,c] pos) (Qt (QN g g' da db dc)):=by
 obtain⟨ta,pa,ha⟩:=ha;obtain⟨tb,pb,hb⟩:=hb;obtain⟨tc,pc,hc⟩:=hc;refine⟨_,zgu ho ho' pa pb pc hm,fun C ρ σ H n Q R S h hq=>?_⟩
 refine two ha hb S h fun x y n2 v w H2 r2 e S2 q1 q2=>?_
 refine hg C.hd (Own C ρ σ) H2 v w x y _ _ (fun p=>S2.dom) q1 q2 r2 fun z u H' rz sm rp=>?_
 have S3:=S2.on sm.ext (S2.hnd.same sm);cases z with
 | bool k =>
  cases rp;refine⟨k,rfl,?_⟩;cases k with
  | false=>exact iteF ⟨false,rfl,hq _ n2 H' rz (e.trans sm.ext) S3.hnd⟩
  | true =>
   refine iteT (hc C ρ σ H' n2 _ _ S3 rz fun z2 n3 w2 H4 r4 e4 h4 q4=>?_)
   have S4:=S3.on e4 h4;have q2':=e4.repT S.hx ((Same.ext sm:ExtE C.hd H2 H').repT S.hx q2);refine hg' C.hd (Own C ρ σ) H4 w w2 y z2 _ _ (fun p=>S4.dom) q2' q4 r4 fun z u H' rz sm' rp=>?_
   cases z with
   | bool k=>cases rp;exact⟨k,rfl,hq _ n3 H' rz (((e.trans sm.ext).trans e4).trans sm'.ext) (S4.hnd.same sm')⟩
   | _=>exact rz.elim
 | _=>exact rz.elim
end
section
variable{C:Int->Int->Prop}{f:Int->Int->Int}{fb:Int->Int->Bool}{i j k:Int}{R:PyData->Prop}{Rb:Bool->Prop}{xs ys:qD}{s t:Str}{a b:Bool}{u v:PyData}
theorem l_gI:gI C f (.int i) (.int j) R=(C i j/\R (.int (f i j))):=propext Iff.rfl
theorem ziu:gI0 f (.int i) (.int j) R=R (.int (f i j)):=propext Iff.rfl
theorem Um:oAdd (.int i) (.int j) R=R (.int (i+j)):=propext Iff.rfl
theorem Q8:oEq (.int i) (.int j) R=R (.bool (decide (i=j))):=propext Iff.rfl
theorem Ud:oNe (.int i) (.int j) R=R (.bool (!decide (i=j))):=propext Iff.rfl
theorem Ue:oNe (.list xs) (.list ys) R=(Okd (.list xs)/\Okd (.list ys)/\R (.bool (!PyData.eqv (.list xs) (.list ys)))):=propext Iff.rfl
theorem Ua:oLtA (.int i) (.int j) R=R (.bool (decide (i<j))):=propext Iff.rfl
theorem Q9:oLeA (.int i) (.int j) R=R (.bool (decide (i<=j))):=propext Iff.rfl
theorem zmk(h:atI xs i=some x):oIx (.list xs) (.int i) R=R x:=by show(match atI xs i with|some t=>R t|none=>False)=_;rw[h]
theorem zit(h:atI xs i=some x):oIx (.tuple xs) (.int i) R=R x:=by show(match atI xs i with|some t=>R t|none=>False)=_;rw[h]
theorem Uo:oIx (.tuple (u::xs)) (.int 0) R=R u:=zit (by unfold atI ixN;simp)
theorem Uq:oIx (.tuple (u::v::xs)) (.int 1) R=R v:=zit (by unfold atI ixN;simp;rw[if_pos (by omega)];rfl)
theorem Ur:truD (.bool a) Rb=Rb a:=propext Iff.rfl
theorem Uy:truD (.list xs) Rb=Rb (!xs.isEmpty):=propext Iff.rfl
theorem Q7:bolD (.bool a) Rb=Rb a:=propext Iff.rfl
theorem Uc:bMin [.int i,.int j] R=R (.int (if j<i then j else i)):=propext Iff.rfl
theorem Ub:bMax [.int i,.int j] R=R (.int (if j > i then j else i)):=propext Iff.rfl
theorem UJ:QK [.list xs] R=R (.tuple xs):=propext Iff.rfl
theorem UI:Qz (.tuple xs) Rl=Rl xs:=propext Iff.rfl
theorem zkb(y:String)(h:y∈["NoneType","bool","int","str","list","tuple","dict"]):kitB y "int" = some (decide (y = "int")||decide (y = "bool")):=by
 simp only[List.mem_cons,List.not_mem_nil,or_false]at h;rcases h with rfl|rfl|rfl|rfl|rfl|rfl|rfl <;> decide +kernel
theorem ziv(y:String)(h:y∈["NoneType","bool","int","str","list","tuple","dict"]):kitB y "bool" = some (decide (y = "bool")):=by
 simp only[List.mem_cons,List.not_mem_nil,or_false]at h;rcases h with rfl|rfl|rfl|rfl|rfl|rfl|rfl <;> decide +kernel
def Pln(t:PyData):Prop:=tyN t≠none
def isInt:PyData->Bool|.int _=>true|.bool _=>true|_=>false
def isBool:PyData->Bool|.bool _=>true|_=>false
variable{d:DTE}{ρ:En}{n:Nat}{Rn:qN}
theorem ze0(h:tyN u=some y):y∈["NoneType","bool","int","str","list","tuple","dict"]:=by
 unfold tyN at h;split at h <;> cases h <;> simp
def isiD(f:PyData->Bool)(d:DTE):DTE:=fun ρ n R=>d ρ n fun t n1=>Pln t/\R (.bool (f t)) n1
end
section
variable{X:Cx}{e:Expr}{d:DTE}{p p2 pos:Pos}
theorem zfU(hk:∀t y,tyN t=some y->kitB y T=some (f t))(hm:X.mg "isinstance" = none) (hmT:X.mg y=none) (hT:bootBuiltins y=some (.type T)) (h:DL X e d) (hs:starEach (e::[.Name y p2]) X.env=(false,eval e X.env)::starEach [.Name y p2] X.env) (hg:Gl X "isinstance":=by rfl) (hgT:Gl X y:=by rfl) (hn:y ≠ "__name__":=by decide) (hd:(y == ("__debug__":Str))=false:=by rfl) :
  DE X (.Call (.Name "isinstance" p) [e,.Name y p2] [] pos) (isiD f d):=by
 obtain⟨ta,pa,h⟩:=h;refine⟨_,Uf zf5 hm zhe (JE pa (zie (Bd.zmc hmT hT hgT hn hd) JV) hs) hg,fun C ρ σ H n Q R S hd hq=>?_⟩
 refine h C ρ σ H n _ _ S hd fun t n1 v H1 r1 e1 h1 q1=>?_
 cases et:tyN t with
 | none=>exact absurd et r1.1
 | some z=>exact⟨v,C.hd,Own C ρ σ,t,T,z,f t,rfl,q1,et,hk t z et,hq _ n1 _ H1 r1.2 e1 h1 (.bl _)⟩
theorem zkJ:∀t y,tyN t=some y->kitB y "int" = some (isInt t):=fun t y e=>by
 rw[zkb y (ze0 e)];unfold tyN at e;split at e <;> cases e <;> rfl
theorem ziG:∀t y,tyN t=some y->kitB y "bool" = some (isBool t):=fun t y e=>by
 rw[ziv y (ze0 e)];unfold tyN at e;split at e <;> cases e <;> rfl
theorem QV:Pln (.int i):=by simp[Pln,tyN]
end
abbrev blk(i h:Int):PyData:=.tuple [.int i,.int h]
def IsBk(bits i h:Int):Prop:=0<=h/\h<=bits/\∃k:Int,0<=k/\i=k*2 ^ h.toNat/\k<2 ^ (bits - h).toNat
theorem zcz(k:Nat):(0:Int)<2 ^ k:=Bd.QB k
theorem zd2:(2:Int) ^ (a+b)=2 ^ a*2 ^ b:=Int.pow_add 2 a b
theorem IsBk.bounds(b0:0<=bits)(H:IsBk bits i h):0<=i/\i+2 ^ h.toNat<=2 ^ bits.toNat:=by
 obtain⟨h0,h1,k,k0,rfl,k1⟩:=H;have p:=zcz h.toNat;refine⟨Int.mul_nonneg k0 (Int.le_of_lt p),?_⟩;have e:bits.toNat=(bits - h).toNat+h.toNat:=by lia
 rw[e,zd2];have:(k+1)*2 ^ h.toNat<=2 ^ (bits - h).toNat*2 ^ h.toNat:=Int.mul_le_mul_of_nonneg_right (by lia) (Int.le_of_lt p)
 rw[Int.add_mul,Int.one_mul]at this;exact this
theorem cpow(h0:0<=j)(h1:j<=1000000):CPow 1 j:=⟨h0,h1,by decide⟩
section
variable{t u tb:DTS}{D:JB}{ρ ρ0:En}{n i j m:Nat}{d da db dc d1 d2:DTE}{ds di:DTA}{c c' tt:DTT}{g:G2}{g':G2}{gc:GC}{gd:GD}{tg:DTG}{tgs:DTGs}{R:qN}{Rb:Bool->Nat->Prop}{Rl:List PyData->Nat->Prop}{Re:En->Prop}{x y:PyData}{xs ys acc:qD}{f:Int->Int->Int}{fb:PyData->Bool}{k:Bool}{capt:List Nat}{h:Option Cell}
theorem zeU:(sSeq t u D ρ n)=(t { D with nx:=u D } ρ n):=propext Iff.rfl
theorem zeV:(sRet d D ρ n)=(d ρ n fun t n'=>D.rt t n'):=propext Iff.rfl
theorem zeT:(sSet i d D ρ n)=(d ρ n fun t n'=>D.nx (ρ.set i (some (.val t))) n'):=propext Iff.rfl
theorem u_dC:(dC x ρ n R)=(R x n):=propext Iff.rfl
theorem zhI:(dOp g da db ρ n R)=(da ρ n fun x n1=>db ρ n1 fun y n2=>g x y fun z=>R z n2):=propext Iff.rfl
theorem zeZ:(dNew ds ρ n R)=(ds ρ n fun ts n'=>R (.list ts) n'):=propext Iff.rfl
theorem zeX:(dTup ds ρ n R)=(ds ρ n fun ts n1=>R (.tuple ts) n1):=propext Iff.rfl
theorem zeY:(dNil ρ n Rl)=(Rl [] n):=propext Iff.rfl
theorem zds:(Qk d ds ρ n Rl)=(d ρ n fun t n1=>ds ρ n1 fun ts n2=>Rl (t::ts) n2):=propext Iff.rfl
theorem zhJ:(dFn gd ds ρ n R)=(ds ρ n fun ts n1=>gd ts n1 R):=propext Iff.rfl
theorem zcv:(QM gc ds ρ n R)=(ds ρ n fun ts n1=>gc ts fun z=>R z n1):=propext Iff.rfl
def cVal:Option Cell->(PyData->Prop)->Prop
 | some (.val d),R=>R d
 | _,_=>False
theorem zfA:cVal (some (.val x)) Q=Q x:=propext Iff.rfl
theorem zeW:dVar i ρ n R=cVal (ρ.getD i none) fun d=>R d n:=by
 unfold dVar;rw[List.getD_eq_getElem?_getD];cases e:ρ[i]? with
 | none=>exact propext Iff.rfl
 | some o=>cases o with
  | none=>exact propext Iff.rfl
  | some c=>cases c <;> exact propext Iff.rfl
theorem UE:Qt d ρ n Rb=(d ρ n fun t n'=>bolD t fun b=>Rb b n'):=by
 unfold Qt;congr 1
 funext t n'
 cases t <;> exact propext Iff.rfl
def lCat:PyData->PyData->(List PyData->Prop)->Prop
 | .list xs,.list ys,R=>xs.length+ys.length<=16777216/\R (xs++ys)
 | _,_,_=>False
theorem Uv:dCat da db ρ n Rl=(da ρ n fun x n1=>db ρ n1 fun y n2=>lCat x y fun zs=>Rl zs n2):=by
 unfold dCat;congr 1
 funext x n1
 congr 1
 funext y n2
 cases x <;> cases y <;> exact propext Iff.rfl
def lLst:PyData->(List PyData->Prop)->Prop
 | .list xs,R=>R xs
 | _,_=>False
def lTup:PyData->(List PyData->Prop)->Prop
 | .tuple xs,R=>R xs
 | _,_=>False
theorem Uw:dItL d ρ n Rl=(d ρ n fun t n'=>lLst t fun ts=>Rl ts n'):=by
 unfold dItL;congr 1
 funext t n'
 cases t <;> exact propext Iff.rfl
theorem Ux:dItT d ρ n Rl=(d ρ n fun t n'=>lTup t fun ts=>Rl ts n'):=by
 unfold dItT;congr 1
 funext t n'
 cases t <;> exact propext Iff.rfl
def lInt:PyData->(Int->Prop)->Prop
 | .int i,R=>R i
 | _,_=>False
theorem UD:QI d ρ n Rl=(d ρ n fun t n'=>lInt t fun j=>(-(2 ^ 62)<=j/\j<2 ^ 62)/\Rl (JI 0 j.toNat) n'):=by
 unfold QI;congr 1
 funext t n'
 cases t <;> exact propext Iff.rfl
theorem UM:QN g g' da db dc ρ n R=(da ρ n fun x n1=>db ρ n1 fun y n2=>g x y fun z=>bolD z fun b=>if b=true then dc ρ n2 fun w n3=>g' y w fun z=>R z n3 else R (.bool false) n2):=by
 unfold QN;congr 1
 funext x n1
 congr 1
 funext y n2
 congr 1
 funext z
 cases z with
 | bool b=>cases b <;> simp[bolD]
 | _=>exact propext Iff.rfl
end
section
variable{t u tb:DTS}{D:JB}{ρ ρ0:En}{n i j m:Nat}{d da db dc d1 d2:DTE}{ds di:DTA}{c c' tt:DTT}{g:G2}{g':G2}{gc:GC}{gd:GD}{tg:DTG}{tgs:DTGs}{R:qN}{Rb:Bool->Nat->Prop}{Rl:List PyData->Nat->Prop}{Re:En->Prop}{x y:PyData}{xs ys acc:qD}{f:Int->Int->Int}{fb:PyData->Bool}{k:Bool}{capt:List Nat}
theorem zkr(h:t { D with nx:=u D } ρ n):sSeq t u D ρ n:=h
theorem ziA(h:D.nx ρ n):zhR D ρ n:=h
theorem zks(h:d ρ n fun t n'=>D.rt t n'):sRet d D ρ n:=h
theorem zmF(h:c ρ n fun b n1=>if b=true then t D ρ n1 else u D ρ n1):sIf c t u D ρ n:=h
theorem zku(h:d ρ n fun t n'=>tg t ρ fun ρ'=>D.nx ρ' n'):sAsg d tg D ρ n:=h
theorem zkt(h:di ρ n fun ts n1=>forP tg tb D ts ρ n1):sFor di tg tb D ρ n:=h
theorem i_dC(h:R x n):dC x ρ n R:=h
theorem zmI(h:da ρ n fun x n1=>db ρ n1 fun y n2=>g x y fun z=>R z n2):dOp g da db ρ n R:=h
theorem zkD(h:ds ρ n fun ts n'=>R (.list ts) n'):dNew ds ρ n R:=h
theorem zkz(h:ds ρ n fun ts n1=>R (.tuple ts) n1):dTup ds ρ n R:=h
theorem zkC(h:Rl [] n):dNil ρ n Rl:=h
theorem ziE(h:d ρ n fun t n1=>ds ρ n1 fun ts n2=>Rl (t::ts) n2):Qk d ds ρ n Rl:=h
theorem zmJ(h:ds ρ n fun ts n1=>gd ts n1 R):dFn gd ds ρ n R:=h
theorem zkG(h:ds ρ n fun ts n1=>gd ts n1 fun t n2=>Jt t=true/\R t n2):dFnL gd ds ρ n R:=h
theorem zgY(h:ds ρ n fun ts n1=>gc ts fun z=>R z n1):QM gc ds ρ n R:=h
theorem zkI(h:c ρ n fun b n1=>if b=true then c' ρ n1 Rb else Rb false n1):dAnd c c' ρ n Rb:=h
theorem zmH(h:c ρ n fun b n1=>if b=true then Rb true n1 else c' ρ n1 Rb):dOr c c' ρ n Rb:=h
theorem zkB(h:c ρ n fun b n1=>Rb (!b) n1):dNot c ρ n Rb:=h
theorem zkA(h:d ρ n fun t n'=>truD t fun b=>Rb b n'):dTru d ρ n Rb:=h
theorem ziF(h:di ρ n fun ts n1=>JR tg tt d (Jp m capt ρ) ts [] n1 Rl):dComp m capt di tg tt d ρ n Rl:=h
theorem zky(h:Rb true n):dYes ρ n Rb:=h
theorem ziy(h:tgs xs ρ Re):zhK tgs (.tuple xs) ρ Re:=h
theorem ziz(h:Re ρ):zhL [] ρ Re:=h
theorem zgV(h:tg x ρ fun ρ'=>tgs xs ρ' Re):ze2 tg tgs (x::xs) ρ Re:=h
theorem ziC(h:d ρ n fun t n'=>bolD t fun b=>Rb b n'):Qt d ρ n Rb:=UE.symm▸h
theorem zkH(h:da ρ n fun x n1=>db ρ n1 fun y n2=>lCat x y fun zs=>Rl zs n2):dCat da db ρ n Rl:=Uv.symm▸h
theorem zkF(h:d ρ n fun t n'=>lLst t fun ts=>Rl ts n'):dItL d ρ n Rl:=Uw.symm▸h
theorem zkE(h:d ρ n fun t n'=>lTup t fun ts=>Rl ts n'):dItT d ρ n Rl:=Ux.symm▸h
theorem ziD(h:d ρ n fun t n'=>lInt t fun j=>(-(2 ^ 62)<=j/\j<2 ^ 62)/\Rl (JI 0 j.toNat) n'):QI d ρ n Rl:=UD.symm▸h
theorem zgX(h:da ρ n fun x n1=>db ρ n1 fun y n2=>g x y fun z=>bolD z fun b=>if b=true then dc ρ n2 fun w n3=>g' y w fun z=>R z n3 else R (.bool false) n2):QN g g' da db dc ρ n R:=UM.symm▸h
def lIsi(fb:PyData->Bool)(t:PyData)(R:PyData->Prop):Prop:=Pln t/\R (.bool (fb t))
theorem zkx(h:d ρ n fun t n1=>lIsi fb t fun z=>R z n1):isiD fb d ρ n R:=h
theorem zhs(e:ρ[i]?=some (some (.val x)))(h:R x n):dVar i ρ n R:=by unfold dVar;rw[e];exact h
theorem zht(e:ρ[i]?=some (some (.own xs)))(h:R (.list xs) n):dOwn i ρ n R:=by unfold dOwn;rw[e];exact h
theorem zef(e:ρ[i]?=some (some (.own xs)))(h:d ρ n fun t n'=>xs.length<16777216/\D.nx (ρ.set i (some (.own (xs++[t])))) n'):QY i d D ρ n:=by unfold QY;rw[e];exact h
theorem zee(e:ρ[i]?=some (some (.own xs)))(h:t D (ρ.set i (some (.val (.list xs)))) n):QZ i t D ρ n:=by unfold QZ;rw[e];exact h
theorem zmG{A B:Prop}(h1:b=true->A)(h2:b=false->B):if b=true then A else B:=by cases b with|true=>exact iteT (h1 rfl)|false=>exact iteF (h2 rfl)
theorem zkw{p:Prop}[Decidable p]{A B:Prop}(h1:p->A)(h2:¬p->B):if decide p=true then A else B:=by
 by_cases h:p
 ·rw[decide_eq_true h];exact iteT (h1 h)
 ·rw[decide_eq_false h];exact iteF (h2 h)
theorem zkv{A B:Prop}(h:if b=true then B else A):if (!b)=true then A else B:=by
 cases b with|true=>exact iteF h|false=>exact iteT h
end
section
variable{C:Int->Int->Prop}{f:Int->Int->Int}{fb:Int->Int->Bool}{i j k:Int}{R:PyData->Prop}{Rb:Bool->Prop}{xs ys:qD}{s t:Str}{a b:Bool}{u v x y:PyData}{Rn:qN}{n:Nat}
theorem zkl(h:R (.int (i+j))):oAdd (.int i) (.int j) R:=Um.symm▸h
theorem zmC(h:R (.bool (decide (i=j)))):oEq (.int i) (.int j) R:=Q8.symm▸h
theorem zmt(h:R (.bool (!decide (i=j)))):oNe (.int i) (.int j) R:=Ud.symm▸h
theorem zms(h:(Okd (.list xs)/\Okd (.list ys)/\R (.bool (!PyData.eqv (.list xs) (.list ys))))):oNe (.list xs) (.list ys) R:=Ue.symm▸h
theorem zmy(h:R (.bool (decide (i<j)))):oLtA (.int i) (.int j) R:=Ua.symm▸h
theorem zmA(h:R (.bool (decide (i<=j)))):oLeA (.int i) (.int j) R:=Q9.symm▸h
theorem zkj(h:R u):oIx (.tuple (u::xs)) (.int 0) R:=Uo.symm▸h
theorem zki(h:R v):oIx (.tuple (u::v::xs)) (.int 1) R:=Uq.symm▸h
theorem zke(h:Rb a):truD (.bool a) Rb:=Ur.symm▸h
theorem zkd(h:Rb (!xs.isEmpty)):truD (.list xs) Rb:=Uy.symm▸h
theorem zmE(h:Rb a):bolD (.bool a) Rb:=Q7.symm▸h
theorem zkh(h:R (.int xs.length)):bLen [.list xs] R:=.inl ⟨xs,rfl,h⟩
theorem zkg(h:R (.int xs.length)):bLen [.tuple xs] R:=.inr (.inl ⟨xs,rfl,h⟩)
theorem zgS(h:R (.int ns.length)):bLen [SCR ns] R:=.inr (.inr (.inr ⟨_,rfl,by rw[List.length_map];exact h⟩))
theorem zmw(h:R (.int (if j<i then j else i))):bMin [.int i,.int j] R:=Uc.symm▸h
theorem zmx(h:R (.int (if j > i then j else i))):bMax [.int i,.int j] R:=Ub.symm▸h
theorem zgR(h:R (.tuple xs)):QK [.list xs] R:=UJ.symm▸h
theorem zgT(h:Rl xs):Qz (.tuple xs) Rl:=UI.symm▸h
theorem zmD(h:(xs.length+ys.length<=16777216/\Q (xs++ys))):lCat (.list xs) (.list ys) Q:=h
theorem zmz(h:Q xs):lLst (.list xs) Q:=h
theorem zmo(h:Q xs):lTup (.tuple xs) Q:=h
theorem zmB(h:Q i):lInt (.int i) Q:=h
theorem zmu(c:CMul i j)(h:R (.int (i*j))):oMul (.int i) (.int j) R:=⟨c,h⟩
theorem zmv(c:0<j)(h:R (.int (i % j))):oMod (.int i) (.int j) R:=⟨c,h⟩
theorem zkk(c:QF i j)(h:R (.int (i / j))):Qw (.int i) (.int j) R:=⟨c,h⟩
theorem zmr(c:CPow i j)(h:R (.int (i*2 ^ j.toNat))):oShl (.int i) (.int j) R:=⟨c,h⟩
theorem zmq(c:0<=j)(h:R (.int (i / 2 ^ j.toNat))):oShr (.int i) (.int j) R:=⟨c,h⟩
theorem zmp(h:R (.int (i - j))):oSub (.int i) (.int j) R:=h
theorem zmn(h:R (.int (Builtin.bitXor i j))):oXor (.int i) (.int j) R:=h
theorem j_gB(h:R (.bool (fb i j))):gB fb (.int i) (.int j) R:=h
theorem zdC(h:R (.bool true)):lIsi isInt (.int i) R:=⟨QV,h⟩
theorem zc9(h:R (.bool false)):lIsi isBool (.int i) R:=⟨QV,h⟩
end
theorem zh4{h:Int}(h0:0<h):(2:Int) ^ h.toNat=2*2 ^ (h - 1).toNat:=by
 have e:h.toNat=(h - 1).toNat+1:=by lia
 rw[e,Int.pow_succ,Int.mul_comm]
theorem zjJ{h:Int}(h0:0<=h):(2:Int) ^ (h+1).toNat=2*2 ^ h.toNat:=by
 have:=zh4 (h:=h+1) (by lia)
 rw[this];simp
theorem IsBk.low{bits i h:Int}(B:IsBk bits i h)(hh:0<h):IsBk bits i (h - 1):=by
 obtain⟨h0,h1,k,k0,rfl,k1⟩:=B;refine⟨by lia,by lia,2*k,by lia,?_,?_⟩
 ·rw[zh4 hh,<- Int.mul_assoc,Int.mul_comm k 2]
 ·have e:(bits - (h - 1)).toNat=(bits - h).toNat+1:=by lia
  rw[e,Int.pow_succ];lia
theorem IsBk.up{bits i h:Int}(B:IsBk bits i h)(hh:0<h):IsBk bits (i+2 ^ h.toNat / 2) (h - 1):=by
 obtain⟨h0,h1,k,k0,rfl,k1⟩:=B;refine⟨by lia,by lia,2*k+1,by lia,?_,?_⟩
 ·rw[zh4 hh];have:2*(2:Int) ^ (h - 1).toNat / 2=2 ^ (h - 1).toNat:=by lia
  rw[this,Int.add_mul,Int.one_mul,<- Int.mul_assoc,Int.mul_comm k 2]
 ·have e:(bits - (h - 1)).toNat=(bits - h).toNat+1:=by lia
  rw[e,Int.pow_succ];lia
theorem zgE(P:Int)(hP:0<P):k*P % (2*P)=(k % 2)*P:=by
 rw[Int.mul_comm 2 P,Int.mul_comm k P,Int.mul_emod_mul_of_pos _ _ hP,Int.mul_comm]
theorem IsBk.abt{bits i h:Int}(B:IsBk bits i h)(hh:h<bits):IsBk bits (i - i % (2*2 ^ h.toNat)) (h+1):=by
 obtain⟨h0,h1,k,k0,rfl,k1⟩:=B;refine⟨by lia,by lia,k / 2,by lia,?_,?_⟩
 ·rw[zgE _ (zcz _),zjJ h0,<- Int.sub_mul];have:k - k % 2=k / 2*2:=by lia
  rw[this,Int.mul_assoc]
 ·have e:(bits - h).toNat=(bits - (h+1)).toNat+1:=by lia
  rw[e,Int.pow_succ]at k1;lia
theorem IsBk.oth(B:IsBk bits i h)(hh:h<bits):IsBk bits (Builtin.bitXor i (2 ^ h.toNat)) h:=by
 obtain⟨h0,h1,k,k0,rfl,k1⟩:=B;rw[zgf _ k0];have e:(bits - h).toNat=(bits - (h+1)).toNat+1:=by lia
 split
 ·refine⟨h0,h1,k+1,by lia,by rw[Int.add_mul,Int.one_mul],?_⟩
  rw[e,Int.pow_succ]at k1 ⊢;lia
 ·refine⟨h0,h1,k - 1,by lia,by rw[Int.sub_mul,Int.one_mul],by lia⟩
theorem IsBk.nxt(B:IsBk bits i h)(hh:i+2*2 ^ h.toNat<=2 ^ bits.toNat):IsBk bits (i+2 ^ h.toNat) h:=by
 obtain⟨h0,h1,k,k0,rfl,k1⟩:=B;refine⟨h0,h1,k+1,by lia,by rw[Int.add_mul,Int.one_mul],?_⟩
 have e:bits.toNat=(bits - h).toNat+h.toNat:=by lia
 rw[e,zd2]at hh;have p:=zcz h.toNat;have:(k+2)*2 ^ h.toNat<=2 ^ (bits - h).toNat*2 ^ h.toNat:=by rw[Int.add_mul];exact hh
 have:=Int.le_of_mul_le_mul_right this p;lia
theorem zmS:CMul 2 j:=.inl ⟨by decide,by decide⟩
theorem zmT:QF j 2:=⟨by decide,by decide⟩
theorem zcB(h:Nat):(1:Int)*2 ^ h=2 ^ h:=Int.one_mul _
theorem zfM(Inv:Nat->En->Nat->Prop):∀(ts:qD) (i:Nat) {ρ:En}{n:Nat},Inv i ρ n ->
  (∀(k:Nat) (t:PyData) (ρ:En) (n:Nat) (K:En->Nat->Prop),ts[k]?=some t->Inv (i+k) ρ n->(∀ρ' n',Inv (i+k+1) ρ' n'->K ρ' n')->g t ρ fun ρ'=>tb { D with nx:=K,ct:=K,bk:=D.nx } ρ' n) ->
  (∀ρ n,Inv (i+ts.length) ρ n->D.nx ρ n)->forP g tb D ts ρ n
 | [],i,ρ,n,h0,_,fin=>fin ρ n (by simpa using h0)
 | t::ts,i,ρ,n,h0,turn,fin=>by
  refine turn 0 t ρ n _ rfl (by simpa using h0) fun ρ' n' h'=>?_
  refine zfM Inv ts (i+1) (by simpa using h') (fun k u ρ n K e hI hK=>?_) (fun ρ n h=>fin ρ n ?_)
  ·refine turn (k+1) u ρ n K (by simpa using e) ?_ fun ρ' n' h'=>hK ρ' n' ?_
   ·have:i+(k+1)=i+1+k:=by lia
    rw[this];exact hI
   ·have:i+1+k+1=i+(k+1)+1:=by lia
    rw[this];exact h'
  ·have:i+(t::ts).length=i+1+ts.length:=by simp;lia
   rw[this]at *;exact h
theorem QE(Inv:Nat->En->Nat->Prop)(h0:Inv 0 ρ n)
  (turn:∀(k:Nat) (t:PyData) (ρ:En) (n:Nat) (K:En->Nat->Prop),ts[k]?=some t->Inv k ρ n->(∀ρ' n',Inv (k+1) ρ' n'->K ρ' n')->g t ρ fun ρ'=>tb { D with nx:=K,ct:=K,bk:=D.nx } ρ' n)
  (fin:∀ρ n,Inv ts.length ρ n->D.nx ρ n):forP g tb D ts ρ n:=by
 refine zfM Inv ts 0 h0 (fun k t ρ n K e hI hK=>turn k t ρ n K e (by simpa using hI) fun ρ' n' h'=>hK ρ' n' (by simpa using h')) fun ρ n h=>fin ρ n (by simpa using h)
theorem zbq{lo:Int}{m i:Nat}{t:PyData}(h:(JI lo m)[i]?=some t):i<m/\t=.int (lo+(i:Int)):=by
 unfold JI at h;rw[List.getElem?_map]at h
 by_cases hi:i<m
 ·rw[List.getElem?_range hi]at h;cases h;exact⟨hi,rfl⟩
 ·rw[List.getElem?_eq_none (by simp;lia)]at h
  cases h
theorem ziB(e0:ρ[0]?=some (some (.val (SCR ns))))(ej:ρ[j]?=some (some (.val (.int k))))(hl:ns.length<=63)(k0:0<=k)(k1:k<=100)(ed:Jq ρ=ρd)
  (h:u { nx:=fun ρ' _=>D.nx (Jq ρ') n,rt:=fun t _=>∃b,t=.bool b/\D.rt t n,bk:=fun ρ' _=>D.bk (Jq ρ') n,ct:=fun ρ' _=>D.ct (Jq ρ') n } ((ρd.set j (some (.val (.int k)))).set i (some (.val HAND))) 0):Qs i j u D ρ n:=by
 subst ed;unfold Qs;rw[e0,ej];exact⟨⟨ns,rfl,hl⟩,k0,k1,h⟩
def rkAt(rk:Value->Int)(xs:Array Keyed)(i:Nat):Int:=((xs[i]?).map fun p=>rk p.1).getD 0
theorem QX(h:xs[i]?=ys[j]?):rkAt rk xs i=rkAt rk ys j:=by unfold rkAt;rw[h]
theorem zhk(hu:u<xs.size)(hd:d<=u)(k:Nat) :
  (k=u - d->rkAt rk (bubble xs u d) k=rkAt rk xs u)/\(u - d<k->k<=u->rkAt rk (bubble xs u d) k=rkAt rk xs (k - 1))/\(k<u - d\/u<k->rkAt rk (bubble xs u d) k=rkAt rk xs k):=by
 have e:=getElem?_bubble hu d hd k;refine⟨fun h=>?_,fun h1 h2=>?_,fun h=>?_⟩
 ·rw[if_pos h]at e;exact QX e
 ·rw[if_neg (by lia),if_pos ⟨h1,h2⟩]at e;exact QX e
 ·rw[if_neg (by lia),if_neg (by lia)]at e;exact QX e
theorem ze8(hj:j<=xs.size)(k:Nat) :
  (i<=k->k<j->rkAt rk (mirror xs i j ((j - i) / 2)) k=rkAt rk xs (i+j - 1 - k))/\(k<i\/j<=k->rkAt rk (mirror xs i j ((j - i) / 2)) k=rkAt rk xs k):=by
 have e:=getElem?_mirror_all (i:=i) hj k;refine⟨fun h1 h2=>?_,fun h=>?_⟩
 ·rw[if_pos ⟨h1,h2⟩]at e;exact QX e
 ·rw[if_neg (by lia)]at e;exact QX e
structure Sb(kd:SortKind)(a0:Array Keyed)(z:SortSt):Prop where
 pm:(arrOf z).Perm a0
 kn:kindOf z=kd
 fl:failedOf z=none
 pe:pendingOf z=#[]
def Up(rk:Value->Int)(xs:Array Keyed)(m:Nat):Prop:=∀i j,i<j->j<m->rkAt rk xs i<=rkAt rk xs j
def Dn(rk:Value->Int)(xs:Array Keyed)(m:Nat):Prop:=∀i j,i<j->j<m->rkAt rk xs j<=rkAt rk xs i
section
variable{prog:Program}{w:World}{A:Around}{E:qV}{s:Shared}{kd:SortKind}{rk:Value->Int}{a0:Array Keyed}
def Cmp(prog:Program)(w:World)(A:Around)(s:Shared)(kd:SortKind)(rk:Value->Int)(a0:Array Keyed):Prop :=
 ∀(p q:Keyed) (E:qV) (Q:Bool->Shared->Prop),p∈a0.toList->q∈a0.toList->Q (decide (rk p.1<rk q.1)) s->wpAny (model prog w) A (keyLt' kd p.1 q.1) Q E s
theorem Sb.sz(b:Sb kd a0 z):(arrOf z).size=a0.size:=b.pm.size_eq
theorem Sb.arr(b:Sb kd a0 z)(h:xs.Perm (arrOf z)):Sb kd a0 (setArr z xs):=⟨h.trans b.pm,b.kn,b.fl,b.pe⟩
theorem ask(c:Cmp prog w A s kd rk a0)(b:Sb kd a0 z)(hi:i<a0.size)(hj:j<a0.size)
  (h:Q (some (decide (rkAt rk (arrOf z) i<rkAt rk (arrOf z) j))) z):wpS (model prog w) A E s (ltAt' i j) Q z:=by
 have mem:∀k,k<a0.size->∃p,(arrOf z)[k]?=some p/\p∈a0.toList:=fun k hk=>by
  have hk':k<(arrOf z).size:=by rw[b.sz];exact hk
  exact⟨(arrOf z)[k],Array.getElem?_eq_getElem hk',(Array.perm_iff_toList_perm.mp b.pm).mem_iff.mp (by simp)⟩
 obtain⟨p,ep,mp⟩:=mem i hi;obtain⟨q,eq,mq⟩:=mem j hj;have r1:rkAt rk (arrOf z) i=rk p.1:=by unfold rkAt;rw[ep];rfl
 have r2:rkAt rk (arrOf z) j=rk q.1:=by unfold rkAt;rw[eq];rfl
 rw[r1,r2]at h;rw[ltAt'_eq];refine wpS_bind (wpS_get ?_);show wpS (model prog w) A E s (elem' (arrOf z) i >>= fun x=>elem' (arrOf z) j >>= fun y=>lt' x y) Q z
 simp only[elem'_eq,ep,eq,pure_bind];rw[lt'_eq];refine wpS_bind (wpS_get (wpS_bind (wpS_lift (wpAny_attempt ?_))));rw[b.kn];exact c p q _ _ mp mq ⟨rfl,wpS_pure h⟩
theorem zla(c:Cmp prog w A s kd rk a0)(hn:n<=a0.size)(hok:ok<=n)(b:Sb kd a0 z)(up:Up rk (arrOf z) ok)
  (h:∀y,Sb kd a0 y->Up rk (arrOf y) n->Q true y):wpS (model prog w) A E s (binarySort' 0 n ok) Q z:=by
 rw[binarySort'_eq];simp only[Nat.zero_add];refine wpS_bind (wpS_mono (wpS_forRange (Q:=fun c y=>c=(none,())/\Sb kd a0 y/\Up rk (arrOf y) n) (I:=fun k c y=>c=(none,())/\Sb kd a0 y/\Up rk (arrOf y) (min k n)) ?turn ?last ⟨rfl,b,fun i j h1 h2=>up i j h1 (by lia)⟩) ?post)
 case post =>
  rintro _ y ⟨rfl,by',u⟩
  exact wpS_pure (h y by' u)
 case last =>
  rintro _ y ⟨rfl,by',u⟩
  exact⟨rfl,by',by rwa [show min (max (max ok 1) n) n=n by lia]at u⟩
 case turn =>
  rintro k _ y k1 k2 ⟨rfl,by',u⟩
  rw[show min k n=k by lia]at u
  refine wpS_bind (wpS_mono (wpS_forRange (Q:=fun c y'=>y'=y/\∃l r,c=(none,l,r)/\l<=k/\(∀i,i<l->rkAt rk (arrOf y) i<=rkAt rk (arrOf y) k)/\∀i,l<=i->i<k->rkAt rk (arrOf y) k<rkAt rk (arrOf y) i)
   (I:=fun x c y'=>y'=y/\∃l r,c=(none,l,r)/\l<=r/\r<=k/\r - l+x<=k/\(∀i,i<l->rkAt rk (arrOf y) i<=rkAt rk (arrOf y) k)/\∀i,r<=i->i<k->rkAt rk (arrOf y) k<rkAt rk (arrOf y) i) ?t2 ?l2 ⟨rfl,0,k,rfl,by lia,by lia,by lia,fun i hi=>by lia,fun i i1 i2=>by lia⟩) ?p2)
  case l2 =>
   rintro _ v ⟨e,l,r,rfl,q1,q2,q3,q4,q5⟩;subst e;exact⟨rfl,l,r,rfl,by lia,q4,fun i i1 i2=>q5 i (by lia) i2⟩
  case t2 =>
   rintro x _ v _ _ ⟨e,l,r,rfl,q1,q2,q3,q4,q5⟩;subst e
   by_cases ge:r<=l
   ·simp only[ge_iff_le,ge,if_true];exact wpS_pure ⟨rfl,l,r,rfl,by lia,q4,fun i i1 i2=>q5 i (by lia) i2⟩
   ·simp only[ge_iff_le,ge,if_false];refine wpS_bind (ask c by' (by lia) (by lia) ?_)
    by_cases le:rkAt rk (arrOf v) k<rkAt rk (arrOf v) ((l+r) / 2)
    ·simp only[le,decide_true,if_true];refine wpS_pure ⟨rfl,l,(l+r) / 2,rfl,by lia,by lia,by lia,q4,fun i i1 i2=>?_⟩
     rcases Nat.lt_or_ge ((l+r) / 2) i with g|g
     ·have:=u _ _ g i2;lia
     ·have:i=(l+r) / 2:=by lia
      rw[this];exact le
    ·simp only[le,decide_false,Bool.false_eq_true,if_false];refine wpS_pure ⟨rfl,(l+r) / 2+1,r,rfl,by lia,by lia,by lia,fun i i1=>?_,q5⟩
     rcases Nat.lt_or_ge i ((l+r) / 2) with g|g
     ·have:=u _ _ g (by lia);lia
     ·have:i=(l+r) / 2:=by lia
      rw[this];lia
  case p2 =>
   rintro _ v ⟨e,l,r,rfl,q2,q4,q5⟩;subst e;show wpS (model prog w) A E s (moveDown' k l >>= fun _=>pure (ForInStep.yield (none,()))) _ v
   rw[moveDown'_eq];have hk:k<(arrOf v).size:=by rw[by'.sz];lia
   refine wpS_bind (wpS_modify (wpS_pure ⟨rfl,by'.arr (bubble_perm _ _ _),fun i j h1 h2=>?_⟩))
   show rkAt rk (bubble (arrOf v) k (k - l)) i<=rkAt rk (bubble (arrOf v) k (k - l)) j
   have hj:j<=k:=by lia
   obtain⟨a1,a2,a3⟩:=zhk (rk:=rk) hk (show k - l<=k by lia) i
   obtain⟨b1,b2,b3⟩:=zhk (rk:=rk) hk (show k - l<=k by lia) j
   have el:k - (k - l)=l:=by lia
   rw[el]at a1 a2 a3 b1 b2 b3;rcases Nat.lt_trichotomy j l with jl|jl|jl
   ·rw[a3 (by lia),b3 (by lia)];exact u i j h1 (by lia)
   ·rw[a3 (by lia),b1 jl];exact q4 i (by lia)
   ·rw[b2 jl hj];rcases Nat.lt_trichotomy i l with il|il|il
    ·rw[a3 (by lia)]
     rcases Nat.lt_or_ge i (j - 1) with g|g
     ·exact u i (j - 1) g (by lia)
     ·exact absurd g (by lia)
    ·rw[a1 il];exact Int.le_of_lt (q5 (j - 1) (by lia) (by lia))
    ·rw[a2 il (by lia)]
     rcases Nat.lt_or_ge (i - 1) (j - 1) with g|g
     ·exact u _ _ g (by lia)
     ·exact absurd g (by lia)
end
section
variable{prog:Program}{w:World}{A:Around}{E:qV}{s:Shared}{kd:SortKind}{rk:Value->Int}{a0:Array Keyed}
theorem zhH(c:Cmp prog w A s kd rk a0)(hm:m<=a0.size)(a1:1<=a)(am:a<=m)(b:Sb kd a0 z)(up:Up rk (arrOf z) a)
  (h:∀n,a<=n->n<=m->Up rk (arrOf z) n->(n<m->rkAt rk (arrOf z) n<rkAt rk (arrOf z) (n - 1))->Q (none,n) z):wpS (model prog w) A E s (ascLoop a m) Q z:=by
 unfold ascLoop;refine wpS_forRange (I:=fun x c y=>y=z/\c=(none,x)/\Up rk (arrOf z) x) (fun x _ y x1 x2 I=>?_) (fun _ y I=>?_) ⟨rfl,rfl,up⟩
 ·obtain⟨e,rfl,u⟩:=I;subst e;refine wpS_bind (ask c b (by omega) (by omega) ?_)
  by_cases g:rkAt rk (arrOf y) x<rkAt rk (arrOf y) (x - 1)
  ·simp only[g,decide_true,if_true];exact wpS_pure (h x x1 (by omega) u fun _=>g)
  ·simp only[g,decide_false,Bool.false_eq_true,if_false];refine wpS_pure ⟨rfl,rfl,fun i j h1 h2=>?_⟩
   rcases Nat.lt_or_ge j x with jx|jx
   ·exact u i j h1 jx
   ·have ej:j=x:=by omega
    subst ej;rcases Nat.lt_or_ge i (j - 1) with ij|ij
    ·have:=u i (j - 1) ij (by omega);omega
    ·have:i=j - 1:=by omega
     rw[this];omega
 ·obtain⟨e,rfl,u⟩:=I;subst e;rw[show max a m=m by omega]at u ⊢
  exact h m am (Nat.le_refl _) u fun g=>absurd g (by omega)
theorem ze3(c:Cmp prog w A s kd rk a0)(hm:m<=a0.size)(n1:1<=n)(nm:n<=m)(b:Sb kd a0 z)(dn:Dn rk (arrOf z) n)
  (h:∀k y,Sb kd a0 y->1<=k->k<=m->Up rk (arrOf y) k->Q (some k) y):wpS (model prog w) A E s (tail3 n m) Q z:=by
 unfold tail3;have hz:n<=(arrOf z).size:=by rw[b.sz];omega
 refine wpS_bind (wpS_reverse (wpS_bind ?_));have b2:=b.arr (mirror_perm (arrOf z) 0 n ((n - 0) / 2));refine zhH c hm n1 nm b2 (fun i j h1 h2=>?_) fun k k1 k2 u _=>wpS_pure (h k _ b2 (by omega) k2 u)
 show rkAt rk (mirror (arrOf z) 0 n ((n - 0) / 2)) i<=rkAt rk (mirror (arrOf z) 0 n ((n - 0) / 2)) j
 rw[(ze8 (rk:=rk) hz i).1 (by omega) (by omega),(ze8 (rk:=rk) hz j).1 (by omega) h2]
 exact dn _ _ (by omega) (by omega)
theorem QT(hj:j<=xs.size)(al:∀k,i<=k->k<j->rkAt rk xs k=rkAt rk xs (j - 1))(k:Nat):rkAt rk (mirror xs i j ((j - i) / 2)) k=rkAt rk xs k:=by
 obtain⟨p,q⟩:=ze8 (rk:=rk) (i:=i) hj k
 by_cases g:i<=k/\k<j
 ·rw[p g.1 g.2,al _ (by omega) (by omega),al k g.1 g.2]
 ·exact q (by omega)
theorem ziW(c:Cmp prog w A s kd rk a0)(hm:m<=a0.size)(n1:1<=n)(nm:n<=m)(b:Sb kd a0 z)(dn:Dn rk (arrOf z) n)
  (h:∀k e y,Sb kd a0 y->n<=k->k<=m->Dn rk (arrOf y) k->e<k->(∀i,k - (e+1)<=i->i<k->rkAt rk (arrOf y) i=rkAt rk (arrOf y) (k - 1))->Q (none,k,e) y) :
  wpS (model prog w) A E s (descLoop n m) Q z:=by
 unfold descLoop;refine wpS_forRange (I:=fun x c y=>∃e,c=(none,x,e)/\Sb kd a0 y/\Dn rk (arrOf y) x/\e<x/\∀i,x - (e+1)<=i->i<x->rkAt rk (arrOf y) i=rkAt rk (arrOf y) (x - 1)) (fun x _ y x1 x2 I=>?_) (fun _ y I=>?_)
  ⟨0,rfl,b,dn,by omega,fun i i1 i2=>by rw[show i=n - 1 by omega]⟩
 ·obtain⟨e,rfl,by',d,ex,al⟩:=I
  have xz:x<=(arrOf y).size:=by rw[by'.sz];omega
  refine wpS_bind (ask c by' (show x<a0.size by omega) (show x - 1<a0.size by omega) ?_)
  by_cases g:rkAt rk (arrOf y) x<rkAt rk (arrOf y) (x - 1)
  ·simp only[g,decide_true,if_true];have d2:∀xs:Array Keyed,(∀k,rkAt rk xs k=rkAt rk (arrOf y) k)->Dn rk xs (x+1):=fun xs hx i j h1 h2=>by
    rw[hx,hx];rcases Nat.lt_or_ge j x with jx|jx
    ·exact d i j h1 jx
    ·have ej:j=x:=by omega
     subst ej;rcases Nat.lt_or_ge i (j - 1) with ij|ij
     ·have:=d i (j - 1) ij (by omega);omega
     ·have:i=j - 1:=by omega
      rw[this];omega
   have one:∀xs:Array Keyed,∀i,x+1 - (0+1)<=i->i<x+1->rkAt rk xs i=rkAt rk xs (x+1 - 1):=fun xs i i1 i2=>by rw[show i=x+1 - 1 by omega]
   by_cases e0:e > 0
   ·simp only[e0,if_true];exact wpS_bind (wpS_reverse (wpS_pure ⟨0,rfl,by'.arr (mirror_perm _ _ _ _),d2 _ (QT xz al),by omega,one _⟩))
   ·simp only[e0,if_false];exact wpS_pure ⟨0,rfl,by',d2 _ (fun _=>rfl),by omega,one _⟩
  ·simp only[g,decide_false,Bool.false_eq_true,if_false];refine wpS_bind (ask c by' (show x - 1<a0.size by omega) (show x<a0.size by omega) ?_)
   by_cases g2:rkAt rk (arrOf y) (x - 1)<rkAt rk (arrOf y) x
   ·simp only[g2,decide_true,if_true];exact wpS_pure (h x e y by' x1 (by omega) d ex al)
   ·simp only[g2,decide_false,Bool.false_eq_true,if_false];have eqx:rkAt rk (arrOf y) x=rkAt rk (arrOf y) (x - 1):=by omega
    refine wpS_pure ⟨e+1,rfl,by',fun i j h1 h2=>?_,by omega,fun i i1 i2=>?_⟩
    ·rcases Nat.lt_or_ge j x with jx|jx
     ·exact d i j h1 jx
     ·have ej:j=x:=by omega
      subst ej;rcases Nat.lt_or_ge i (j - 1) with ij|ij
      ·have:=d i (j - 1) ij (by omega);omega
      ·have:i=j - 1:=by omega
       rw[this];omega
    ·rw[show x+1 - 1=x by omega]
     rcases Nat.lt_or_ge i x with ix|ix
     ·rw[al i (by omega) ix,eqx]
     ·rw[show i=x by omega]
 ·obtain⟨e,rfl,by',d,ex,al⟩:=I
  rw[show max n m=m by omega]at *
  exact h m e y by' nm (Nat.le_refl _) d ex al
theorem zfl(c:Cmp prog w A s kd rk a0)(hm:m<=a0.size)(nm:n+1<=m)(b:Sb kd a0 z)(dn:Dn rk (arrOf z) (n+1))
  (h:∀k y,Sb kd a0 y->1<=k->k<=m->Up rk (arrOf y) k->Q (some k) y):wpS (model prog w) A E s (descPart n m) Q z:=by
 unfold descPart;refine wpS_bind (wpS_lift (wpAny_rule ⟨rfl,wpS_bind ?_⟩));refine ziW c hm (by omega) nm b dn fun k e y by' k1 k2 d ek al=>?_
 have kz:k<=(arrOf y).size:=by rw[by'.sz];omega
 by_cases e0:e > 0
 ·simp only[e0,if_true];refine wpS_bind (wpS_reverse (ze3 c hm (by omega) k2 (by'.arr (mirror_perm _ _ _ _)) (fun i j h1 h2=>?_) h))
  show rkAt rk (mirror (arrOf y) (k - (e+1)) k ((k - (k - (e+1))) / 2)) j<=rkAt rk (mirror (arrOf y) (k - (e+1)) k ((k - (k - (e+1))) / 2)) i
  rw[QT kz al,QT kz al];exact d i j h1 h2
 ·simp only[e0,if_false];exact ze3 c hm (by omega) k2 by' d h
theorem zjB(c:Cmp prog w A s kd rk a0)(hm:m<=a0.size)(m1:1<=m)(b:Sb kd a0 z)
  (h:∀k y,Sb kd a0 y->1<=k->k<=m->Up rk (arrOf y) k->Q (some k) y):wpS (model prog w) A E s (countRun' 0 m) Q z:=by
 rw[countRun0_eq];refine wpS_bind (zhH c hm (Nat.le_refl 1) m1 b (fun i j h1 h2=>absurd h1 (by omega)) fun n n1 n2 u lt=>?_)
 by_cases en:n=m
 ·simp only[en,beq_self_eq_true,if_true];exact wpS_pure (h m z b m1 (Nat.le_refl _) (en▸u))
 ·have en':(n == m)=false:=by simpa using en
  simp only[en',Bool.false_eq_true,if_false];have l:=lt (by omega)
  by_cases g:n > 1
  ·simp only[g,if_true];refine wpS_bind (ask c b (by omega) (by omega) ?_)
   by_cases rose:rkAt rk (arrOf z) 0<rkAt rk (arrOf z) (n - 1)
   ·simp only[rose,decide_true,if_true];exact wpS_pure (h n z b n1 n2 u)
   ·simp only[rose,decide_false,Bool.false_eq_true,if_false];have zn:n<=(arrOf z).size:=by rw[b.sz];omega
    have al:∀k,0<=k->k<n->rkAt rk (arrOf z) k=rkAt rk (arrOf z) (n - 1):=fun k _ kn=>by
     have p:rkAt rk (arrOf z) 0<=rkAt rk (arrOf z) k:=by
      rcases Nat.eq_zero_or_pos k with k0|k0
      ·rw[k0];exact Int.le_refl _
      ·exact u 0 k k0 kn
     have q:rkAt rk (arrOf z) k<=rkAt rk (arrOf z) (n - 1):=by
      rcases Nat.lt_or_ge k (n - 1) with kk|kk
      ·exact u k (n - 1) kk (by omega)
      ·rw[show k=n - 1 by omega];exact Int.le_refl _
     omega
    refine wpS_bind (wpS_reverse (zfl c hm (by omega) (b.arr (mirror_perm _ _ _ _)) (fun i j h1 h2=>?_) h))
    show rkAt rk (mirror (arrOf z) 0 n ((n - 0) / 2)) j<=rkAt rk (mirror (arrOf z) 0 n ((n - 0) / 2)) i
    rw[QT zn al,QT zn al];have ai:=al i (by omega) (by omega)
    rcases Nat.lt_or_ge j n with jn|jn
    ·have:=al j (by omega) jn;omega
    ·rw[show j=n by omega];omega
  ·simp only[g,if_false];have e1:n=1:=by omega
   subst e1;refine zfl c hm (by omega) b (fun i j h1 h2=>?_) h
   rw[show i=0 by omega,show j=1 by omega]
   exact Int.le_of_lt l
theorem zhS(c:Cmp prog w A s kd rk a0)(b:Sb kd a0 z)(s2:2<=a0.size)(s64:a0.size<64)
  (h:∀y,(arrOf y).Perm a0->failedOf y=none->Up rk (arrOf y) a0.size->Q () y):wpS (model prog w) A E s sortRuns' Q z:=by
 rw[sortRuns'_eq];refine wpS_bind (wpS_get ?_);have mr:minRun' a0.size a0.size 0=a0.size:=by
  obtain⟨q,hq⟩:∃q,a0.size=q+1:=⟨a0.size - 1,by omega⟩
  conv=>lhs;rw[hq]
  rw[minRun'_succ,if_pos (by omega)];omega
 simp only[b.sz,mr];refine wpS_bind (wpS_mono (wpS_forRange (Q:=fun c y=>c=(none,a0.size)/\(arrOf y).Perm a0/\failedOf y=none/\pendingOf y=#[(0,a0.size,0)]/\Up rk (arrOf y) a0.size)
  (I:=fun x c y=>(x=0/\c=(none,0)/\Sb kd a0 y)\/(0<x/\c=(none,a0.size)/\(arrOf y).Perm a0/\failedOf y=none/\pendingOf y=#[(0,a0.size,0)]/\Up rk (arrOf y) a0.size)) ?turn ?last (.inl ⟨rfl,rfl,b⟩)) ?post)
 case last =>
  rintro _ y (⟨x0,_⟩|⟨_,q⟩)
  ·omega
  ·exact q
 case turn =>
  rintro x _ y _ _ (⟨rfl,rfl,by'⟩|⟨x1,rfl,q⟩)
  ·simp only[ge_iff_le,show ¬a0.size<=0 by omega,if_false,Nat.sub_zero,Nat.min_self,Nat.zero_add]
   have fin:∀y2,Sb kd a0 y2->Up rk (arrOf y2) a0.size->(arrOf (setPending y2 ((pendingOf y2).push (0,a0.size,0)))).Perm a0/\failedOf (setPending y2 ((pendingOf y2).push (0,a0.size,0)))=none/\pendingOf (setPending y2 ((pendingOf y2).push (0,a0.size,0)))=#[(0,a0.size,0)]/\Up rk (arrOf (setPending y2 ((pendingOf y2).push (0,a0.size,0)))) a0.size :=
    fun y2 b2 u2=>⟨b2.pm,b2.fl,by show(pendingOf y2).push (0,a0.size,0)=_;rw[b2.pe];rfl,u2⟩
   refine wpS_bind (zjB c (Nat.le_refl _) (by omega) by' fun k y1 b1 k1 k2 u1=>?_)
   by_cases g:k<a0.size
   ·simp only[g,if_true];refine wpS_bind (wpS_lift (wpAny_rule ⟨rfl,wpS_bind ?_⟩));refine zla c (Nat.le_refl _) k2 b1 u1 fun y2 b2 u2=>?_
    simp only[Bool.not_true,Bool.false_eq_true,if_false];refine wpS_bind (wpS_get ?_);have pb:(pendingOf y2).back?=none:=by rw[b2.pe];rfl
    simp only[pb];exact wpS_bind (wpS_modify (wpS_pure (.inr ⟨by omega,rfl,fin y2 b2 u2⟩)))
   ·simp only[g,if_false];have ek:k=a0.size:=by omega
    subst ek;refine wpS_bind (wpS_get ?_);have pb:(pendingOf y1).back?=none:=by rw[b1.pe];rfl
    simp only[pb];exact wpS_bind (wpS_modify (wpS_pure (.inr ⟨by omega,rfl,fin y1 b1 u1⟩)))
  ·simp only[ge_iff_le,Nat.le_refl,if_true];exact wpS_pure ⟨rfl,q⟩
 case post =>
  rintro _ y ⟨rfl,q1,q2,q3,q4⟩;refine wpS_bind (wpS_mono (wpS_forRange (Q:=fun c v=>v=y/\c=(none,())) (I:=fun _ c v=>v=y/\c=(none,())) (fun x _ v _ _ I=>?_) (fun _ _ I=>I) ⟨rfl,rfl⟩) fun _ v I=>?_)
  ·obtain⟨e,rfl⟩:=I;subst e;refine wpS_bind (wpS_get ?_);simp only[q3,List.size_toArray,List.length_cons,List.length_nil,Nat.le_refl,if_true];exact wpS_pure ⟨rfl,rfl⟩
  ·obtain⟨e,rfl⟩:=I;subst e;exact wpS_pure (h v q1 q2 q4)
end
theorem zgl{prog:Program}{w:World}{A:Around}{E:qV}{s:Shared}{kd:SortKind}{rk:Value->Int}{a0:Array Keyed}{z:SortSt}{Q:Unit->SortSt->Prop}(c:Cmp prog w A s kd rk a0)(b:Sb kd a0 z)(s2:2<=a0.size)(s64:a0.size<64)
  (h:∀y,(arrOf y).Perm a0->failedOf y=none->Up rk (arrOf y) a0.size->Q () y):wpS (model prog w) A E s sortRuns' Q z:=zhS c b s2 s64 h
def midH(h:Heap)(a:Addr)(vs:List Value):Heap:=((h.update a (Obj.mapSeq fun _=>#[])).push (seqObj "tuple" vs.toArray 0)).push (seqObj "list" #[] 0)
section
variable{prog:Program}{w:World}{A:Around}{E:qV}{s:Shared}{rk:Value->Int}
def Kinds(prog:Program)(w:World)(A:Around)(s:Shared)(rk:Value->Int)(vs:List Value):Prop:=2<=vs.length->∃kd,(∀(E:qV) (Q:SortKind->Shared->Prop),Q kd s->wpAny (model prog w) A (keyKind' vs.toArray) Q E s)/\Cmp prog w A s kd rk (pairsOf vs)
theorem zgG{a:Addr}{vs:List Value}{n:Nat}{P:Fin->Shared->Prop}(ho:s.heap.get? a=some (seqObj "list" vs.toArray n)) (h64:vs.length<64) (hk:Kinds prog w A { s with heap:=midH s.heap a vs } rk vs)
  (h:∀y:SortSt,(arrOf y).Perm (pairsOf vs)->Up rk (arrOf y) vs.length->P (.done (.ret .none)) { s with heap:=sortedHeap s.heap a vs ((arrOf y).map (·.2)) }) :
  wpAny (model prog w) A (Builtin.«list.sort» ⟨[.ref a],[]⟩) P E s:=by
 rw[list_sort_plain];have la:a<s.heap.objs.size:=Heap.lt_size ho;refine wpAny_bind (listItems_at ho rfl (wpAny_bind (listUpdate_at ho rfl ?_)));obtain⟨e1,o1⟩:∃e1,(s.heap.update a (Obj.mapSeq fun _=>#[])).get? a=some (seqObj "list" #[] e1):=⟨_,get?_update_seq ho (fun _=>#[])⟩
 refine wpAny_bind (seqEpoch_at o1 rfl (wpAny_bind (wpAny_newTuple (wpAny_bind (wpAny_newList (wpAny_holding ?_))))));have o2:(midH s.heap a vs).get? a=some (seqObj "list" #[] e1):=by
  unfold midH;rw[Heap.get?_push_ne _ _ _ (by rw[size_push',Heap.size_update];exact Nat.ne_of_lt (Nat.lt_of_lt_of_le la (Nat.le_succ _))),Heap.get?_push_ne _ _ _ (by rw[Heap.size_update];exact Nat.ne_of_lt la)]
  exact o1
 show wpAny (model prog w) A _ P E { s with heap:=midH s.heap a vs }
 have z:vs.toArray.size=vs.length:=by simp
 have tail:∀(y:SortSt),(arrOf y).Perm (pairsOf vs)->failedOf y=none->Up rk (arrOf y) vs.length->wpAny (model prog w) A (do
   let touched:=(<- seqEpoch a) != e1
   Builtin.List.listUpdate (.ref a) fun _=>(arrOf y).map (·.2)
   if let some e:=failedOf y then rule "list.sort.comparison-raised";throw e
   if touched then rule "list.sort.modified";raiseError "ValueError" "list modified during sort"
   ret .none) P E { s with heap:=midH s.heap a vs }:=fun y pm fl up=>by
  refine wpAny_bind (seqEpoch_at o2 rfl (wpAny_bind (listUpdate_at o2 rfl ?_ (hsz2:=?_))))
  ·rw[fl];simp only[bne_self_eq_false,Bool.false_eq_true,if_false];exact wpAny_pure (h y pm up)
  ·rw[Array.size_map,pm.size_eq,pairsOf_size];show vs.length<=sizeLine+1
   have:64<=sizeLine:=by decide
   omega
 by_cases two:vs.length<2
 ·simp only[z,two,if_true];refine wpAny_bind (wpAny_pure ?_);rw[StateT.run_pure];refine wpAny_bind (wpAny_pure ?_);exact tail (SortSt.mk' general' (vs.toArray.zip vs.toArray) #[] 7 none) (Array.Perm.refl _) rfl fun i j h1 h2=>absurd h2 (by omega)
 ·simp only[z,two,if_false];obtain⟨kd,k1,k2⟩:=hk (by omega)
  refine wpAny_bind (k1 _ _ ?_);refine wpAny_bind (wpAny_mono (zgl (Q:=fun _ y=>(arrOf y).Perm (pairsOf vs)/\failedOf y=none/\Up rk (arrOf y) vs.length) (z:=SortSt.mk' kd (vs.toArray.zip vs.toArray) #[] 7 none) k2 ⟨Array.Perm.refl _,rfl,rfl,rfl⟩ (by rw[pairsOf_size];omega) (by rw[pairsOf_size];exact h64)
   fun y p1 p2 p3=>⟨p1,p2,by rwa [pairsOf_size]at p3⟩) ?_ fun _ _ e=>e)
  rintro⟨⟨⟩,y⟩ s' ⟨rfl,p1,p2,p3⟩;exact tail y p1 p2 p3
theorem zdH{l:Addr}{vs:List Value}{o:Obj}{T:String}{n:Nat}{Q:List Value->Shared->Prop}(ho:s.heap.get? l=some o)(hc:o.cls=.type T)(hT:T = "list" \/ T = "tuple") (hd:o.data=.seq vs.toArray n) (hz:vs.length<=sizeLine)
  (h:Q vs { s with heap:=(s.heap.push (seqObj "list" #[] 0)).update s.heap.objs.size (Obj.mapSeq (·++vs.toArray)) }):wpAny (model prog w) A (collect (.ref l)) Q E s:=by
 unfold collect;refine wpAny_bind (wpAny_runValue (codeAny_builtin entry_proto_collect' ?_));show wpAny (model prog w) _ (newList [] >>= fun x=>again (.builtin "list.__iadd__" ⟨[x,.ref l],[]⟩)) _ _ s
 refine wpAny_bind (wpAny_newList (wpAny_pure ⟨Code.quiet_builtin _ (by decide +kernel),codeAny_builtin entry_list_iadd' ?_⟩))
 show wpAny (model prog w) _ (Builtin.List.listExtendWith (.ref s.heap.objs.size) (.ref l) (.ref s.heap.objs.size)) _ _ { s with heap:=s.heap.push (seqObj "list" #[] 0) }
 unfold Builtin.List.listExtendWith;have o1:(s.heap.push (seqObj "list" #[] 0)).get? l=some o:=Heap.get?_push_of_some _ ho;refine wpAny_bind (wpAny_typeOf (T:=T) ⟨o,o1,hc⟩ ?_);have cond:∀b:Bool,(b||Value.type T == Value.type "list" ||Value.type T == Value.type "tuple")=true:=by
  intro b;have c1:(Value.type "list" == Value.type "list")=true:=rfl;have c2:(Value.type "tuple" == Value.type "tuple")=true:=rfl;rcases hT with rfl|rfl
  ·rw[c1];simp
  ·rw[c2];simp
 rw[if_pos (cond _)];refine wpAny_bind (listItems_at o1 hd (wpAny_bind (listItems_at (xs:=#[]) (n:=0) (Heap.get?_push_size _ rfl) rfl ?_)));rw[if_neg (by simp)]
 refine wpAny_bind (listUpdate_at (xs:=#[]) (n:=0) (Heap.get?_push_size _ rfl) rfl (wpAny_pure ?_) (Nat.zero_le _) (by simp only[Array.size_append,List.size_toArray,List.length_nil];omega))
 refine wpAny_bind (m:=load s.heap.objs.size) (wpAny_load (get?_update_seq (Heap.get?_push_size _ rfl) _) ?_);show wpAny (model prog w) A (pure ((#[]:Array Value)++vs.toArray).toList) Q E _
 have e:((#[]:Array Value)++vs.toArray).toList=vs:=by simp
 rw[e];exact wpAny_pure h
def preH(h:Heap)(vs:List Value):Heap:=((h.push (seqObj "list" #[] 0)).update h.objs.size (Obj.mapSeq (·++vs.toArray))).push (seqObj "list" vs.toArray 0)
end
section
variable{prog:Program}{w:World}{A:Around}{E:qV}{s:Shared}
theorem zfD(b:Bool)(x y:Value):keyLt' (tuples' b) x y=(do
  let xs <- Builtin.List.listItems x
  let ys <- Builtin.List.listItems y
  for ((p,q),i) in (xs.toList.zip ys.toList).zipIdx do
   if !(<- eqBool p q) then return <- oneLt' (b&&i == 0) p q
  return decide (xs.size<ys.size)):=rfl
def LtAt(prog:Program)(w:World)(A:Around)(s:Shared)(one:Bool)(p q:Value)(l:Bool):Prop:=∀(E:qV) (Q:Bool->Shared->Prop),Q l s->wpAny (model prog w) A (oneLt' one p q) Q E s
theorem zfC{b:Bool}{x y:Addr}{ox oy:Obj}{p0 p1 q0 q1:Value}{n m:Nat}{c0 c1 l0 l1:Bool}{Q:Bool->Shared->Prop}(hx:s.heap.get? x=some ox)(dx:ox.data=.seq #[p0,p1] n)(hy:s.heap.get? y=some oy)(dy:oy.data=.seq #[q0,q1] m)
  (e0:SeqAt.EqAt A s p0 q0 c0) (e1:SeqAt.EqAt A s p1 q1 c1) (t0:c0=false->LtAt prog w A s b p0 q0 l0) (t1:c1=false->LtAt prog w A s false p1 q1 l1) (h:Q (if c0=true then(if c1=true then false else l1) else l0) s) :
  wpAny (model prog w) A (keyLt' (tuples' b) (.ref x) (.ref y)) Q E s:=by
 rw[zfD];refine wpAny_bind (listItems_at hx dx (wpAny_bind (listItems_at hy dy ?_)));have ez:((#[p0,p1]:Array Value).toList.zip (#[q0,q1]:Array Value).toList).zipIdx=[((p0,q0),0),((p1,q1),1)]:=rfl;simp only[ez,List.forIn_cons,List.forIn_nil];refine wpAny_bind (wpAny_bind ?_);refine wpAny_bind (e0 prog w E _ ?_);cases c0 with
 | false =>
  simp only[Bool.not_false,if_true];have z0:(b&&(0:Nat) == 0)=b:=by simp
  rw[z0];refine wpAny_bind (t0 rfl E _ ?_);exact wpAny_pure (wpAny_pure (wpAny_pure (by simpa using h)))
 | true =>
  simp only[Bool.not_true,Bool.false_eq_true,if_false];refine wpAny_pure (wpAny_bind (wpAny_bind (e1 prog w E _ ?_)));cases c1 with
  | false =>
   simp only[Bool.not_false,if_true];have z1:(b&&(1:Nat) == 0)=false:=by simp
   rw[z1];refine wpAny_bind (t1 rfl E _ ?_);exact wpAny_pure (wpAny_pure (wpAny_pure (by simpa using h)))
  | true =>
   simp only[Bool.not_true,Bool.false_eq_true,if_false];exact wpAny_pure (wpAny_pure (wpAny_pure (by simpa using h)))
theorem zgF(a b:Int)(t u:Tok):LtAt prog w A s false (.int a t) (.int b u) (decide (a<b)):=fun E Q q=>by
 rw[oneLt'_eq];simp only[Bool.false_eq_true,if_false];refine wpAny_bind (show wpAny (model prog w) A (compareOp .Lt (.int a t) (.int b u)) _ E s from lt_int ?_)
 exact wpAny_truthy_bool q
def PrIn(h:Heap)(u:Value)(b k:Int):Prop:=∃(a:Addr) (o:Obj) (t t':Tok) (n:Nat),u=.ref a/\h.get? a=some o/\o.cls=.type "tuple" /\ o.data=.seq #[.int b t,.int k t'] n
def two?:List Value->Int
 | [.int b _,.int k _]=>b*1000+k
 | _=>0
def rkC(h:Heap)(u:Value):Int:=match u with
 | .ref a=>match h.get? a with
  | some o=>match o.data with
   | .seq xs _=>two? xs.toList
   | _=>0
  | none=>0
 | _=>0
theorem PrIn.rk{h:Heap}{u:Value}{b k:Int}(p:PrIn h u b k):rkC h u=b*1000+k:=by
 obtain⟨a,o,t,t',n,rfl,e1,_,e2⟩:=p;simp only[rkC,e1,e2,two?]
theorem PrIn.kept{h h':Heap}{u:Value}{b k:Int}(p:PrIn h u b k)(kp:∀b o,h.get? b=some o->h'.get? b=some o):PrIn h' u b k:=by
 obtain⟨a,o,t,t',n,e0,e1,e2,e3⟩:=p;exact⟨a,o,t,t',n,e0,kp _ _ e1,e2,e3⟩
theorem zcG{α β:Type}{f:α->Sem β}{P:α->β->Prop}{M:Model}:∀(l:List α) {Q:List β->Shared->Prop},(∀v∈l,∀(Q':β->Shared->Prop),(∀r,P v r->Q' r s)->wpAny M A (f v) Q' E s)->(∀rs,Paired P l rs->Q rs s)->wpAny M A (l.mapM f) Q E s
 | [],_,_,h=>by rw[List.mapM_nil];exact wpAny_pure (h _ .nil)
 | x::l,Q,hf,h=>by
  rw[List.mapM_cons];exact wpAny_bind (hf x (.head _) _ fun r hr=>wpAny_bind (zcG l (fun v hv=>hf v (.tail _ hv)) fun rs hrs=>wpAny_pure (h _ (.cons hr hrs))))
theorem zg2(v:Value):firstOfTuple' v=(do
  if (<- typeOf v) != .type "tuple" then return none
  return (<- Builtin.List.listItems v)[0]?):=rfl
end
theorem zcA{α β:Type}{l:List (α×β)}{m:List β}(h:m.Perm (l.map (·.2))):∃l':List (α×β),l'.Perm l/\l'.map (·.2)=m:=by
 induction m generalizing l with
 | nil =>
  have:l.map (·.2)=[]:=h.symm.eq_nil;cases l with
  | nil=>exact⟨[],.refl _,rfl⟩
  | cons a b=>simp at this
 | cons x m ih =>
  have hx:x∈l.map (·.2):=h.mem_iff.mp (.head _);obtain⟨z,hz,rfl⟩:=List.mem_map.mp hx;obtain⟨l1,l2,rfl⟩:=List.append_of_mem hz;have h2:(z.2::m).Perm (z.2::(l1++l2).map (·.2)):=by
   refine h.trans ?_;simp only[List.map_append,List.map_cons];exact List.perm_middle
  obtain⟨l',p,e⟩:=ih (List.perm_cons _|>.mp h2)
  exact⟨z::l',(p.cons z).trans List.perm_middle.symm,by simp[e]⟩
abbrev prD(b:Int×Int):PyData:=.tuple [.int b.1,.int b.2]
def pD(bs:qB):List PyData:=bs.map prD
theorem UA{bs:qB}:(pD bs).length=bs.length:=by simp[pD]
theorem zjQ{i h:Int}{bs:qB}:pD bs++[.tuple [.int i,.int h]]=pD (bs++[(i,h)]):=by simp[pD]
theorem zjR{bs:qB}{k:Nat}{t:PyData}(h:(pD bs)[k]?=some t):∃i g:Int,bs[k]?=some (i,g)/\t=.tuple [.int i,.int g]:=by
 unfold pD at h;rw[List.getElem?_map]at h;cases e:bs[k]? with
 | none=>rw[e]at h;cases h
 | some b=>rw[e]at h;cases h;exact⟨b.1,b.2,rfl,rfl⟩
def Bks(bits:Int)(bs:qB):Prop:=∀b∈bs,IsBk bits b.1 b.2
theorem zj3{bs:qB}:Okd (.list (pD bs)):=by
 have:∀bs:List (Int×Int),PyData.canLayAll0 (pD bs)=true/\PyData.depthAll (pD bs)<=1:=by
  intro bs;induction bs with
  | nil=>exact⟨by simp[pD,PyData.canLayAll0],by simp[pD,PyData.depthAll]⟩
  | cons b l ih =>
   refine⟨?_,?_⟩
   ·have:=ih.1;simp only[pD,List.map_cons,PyData.canLayAll0,PyData.canLay0,Bool.and_true,Bool.true_and]at this ⊢;exact this
   ·have:=ih.2;simp only[pD,List.map_cons,PyData.depthAll,PyData.depth]at this ⊢;lia
 exact⟨by simp only[PyData.canLay0];exact(this bs).1,by simp only[PyData.depth];have:=(this bs).2;lia⟩
theorem zij:Okd (.list []):=⟨by simp[PyData.canLay0,PyData.canLayAll0],by simp[PyData.depth,PyData.depthAll]⟩
theorem zk_{tg:DTG}{tt:DTT}{d:DTE}{ρ0:En}{Rl:List PyData->Nat->Prop}(Inv:Nat->List PyData->Nat->Prop):∀(xs:qD) (i:Nat) {acc:qD}{n:Nat},Inv i acc n ->
  (∀(k:Nat) (x:PyData) (acc:qD) (n:Nat) (K:List PyData->Nat->Prop),xs[k]?=some x->Inv (i+k) acc n->(∀acc' n',Inv (i+k+1) acc' n'->K acc' n') ->
   tg x ρ0 fun ρ1=>tt ρ1 n fun b n2=>if b=true then d ρ1 n2 fun t n3=>acc.length<16777216/\K (acc++[t]) n3 else K acc n2) ->
  (∀acc n,Inv (i+xs.length) acc n->Rl acc n)->JR tg tt d ρ0 xs acc n Rl
 | [],i,acc,n,h0,_,fin=>fin acc n (by simpa using h0)
 | x::xs,i,acc,n,h0,turn,fin=>by
  refine turn 0 x acc n (fun acc n=>JR tg tt d ρ0 xs acc n Rl) rfl (by simpa using h0) fun acc' n' h'=>?_
  refine zk_ Inv xs (i+1) (by simpa using h') (fun k u acc n K e hI hK=>?_) (fun acc n h=>fin acc n ?_)
  ·refine turn (k+1) u acc n K (by simpa using e) ?_ fun acc' n' h'=>hK acc' n' ?_
   ·have:i+(k+1)=i+1+k:=by lia
    rw[this];exact hI
   ·have:i+1+k+1=i+(k+1)+1:=by lia
    rw[this];exact h'
  ·have:i+(x::xs).length=i+1+xs.length:=by simp;lia
   rw[this]at *;exact h
theorem zhG{tg:DTG}{tt:DTT}{d:DTE}{ρ0:En}{Rl:List PyData->Nat->Prop}{xs:qD}{n:Nat}(Inv:Nat->List PyData->Nat->Prop)(h0:Inv 0 [] n)
  (turn:∀(k:Nat) (x:PyData) (acc:qD) (n:Nat) (K:List PyData->Nat->Prop),xs[k]?=some x->Inv k acc n->(∀acc' n',Inv (k+1) acc' n'->K acc' n') ->
   tg x ρ0 fun ρ1=>tt ρ1 n fun b n2=>if b=true then d ρ1 n2 fun t n3=>acc.length<16777216/\K (acc++[t]) n3 else K acc n2)
  (fin:∀acc n,Inv xs.length acc n->Rl acc n):JR tg tt d ρ0 xs [] n Rl :=
 zk_ Inv xs 0 h0 (fun k x acc n K e hI hK=>turn k x acc n K e (by simpa using hI) fun a m h=>hK a m (by simpa using h)) fun acc n h=>fin acc n (by simpa using h)
theorem ziL{bs:qB}:PyData.eqv (.list (pD bs)) (.list [])=bs.isEmpty:=by
 cases bs with
 | nil=>simp[pD,PyData.eqv,PyData.eqvAll]
 | cons b l=>simp[pD,PyData.eqv,PyData.eqvAll]
theorem Qx{many:Int}{n:Nat}{R:qN}(h0:0<many)(h1:many<2 ^ 128)(hn:n<=1000000000000)(h:∀r:Int,0<=r->r<many->R (.int r) (n+1)):Qq [HAND,.int many] n R:=⟨rfl,h0,h1,hn,h⟩
theorem zeB{i h:Int}:Jt (.tuple [.int i,.int h])=true:=by simp[Jt,QR]
theorem Bks.app{bits i h:Int}{bs:qB}(B:Bks bits bs)(C:IsBk bits i h):Bks bits (bs++[(i,h)]):=fun b hb=>by
 rcases List.mem_append.mp hb with z|z
 ·exact B b z
 ·cases List.mem_singleton.mp z;exact C
abbrev DTO:=En->Nat->(Option Int->Nat->Prop)->Prop
class Stp (P:Prop)(Q:outParam Prop):Prop where
 go:Q->P
section
variable{t u tb:DTS}{D:JB}{ρ ρ0:En}{n i j m:Nat}{d da db dc d1 d2:DTE}{ds di:DTA}{c c' tt:DTT}{g:G2}{g':G2}{gc:GC}{gd:GD}{tg:DTG}{tgs:DTGs}{R:qN}{Rb:Bool->Nat->Prop}{Rl:List PyData->Nat->Prop}{Re:En->Prop}{x y:PyData}{xs ys acc:qD}{f:Int->Int->Int}{fb:PyData->Bool}{k:Bool}{capt:List Nat}
instance zlo :Stp (sSeq t u D ρ n) ((t { D with nx:=u D } ρ n)):=⟨fun h=>zkr h⟩
instance zjw :Stp (zhR D ρ n) ((D.nx ρ n)):=⟨fun h=>ziA h⟩
instance zlp :Stp (sRet d D ρ n) ((d ρ n fun t n'=>D.rt t n')):=⟨fun h=>zks h⟩
instance zl5 :Stp (sIf c t u D ρ n) ((c ρ n fun b n1=>if b=true then t D ρ n1 else u D ρ n1)):=⟨fun h=>zmF h⟩
instance zlr :Stp (sAsg d tg D ρ n) ((d ρ n fun t n'=>tg t ρ fun ρ'=>D.nx ρ' n')):=⟨fun h=>zku h⟩
instance zlq :Stp (sFor di tg tb D ρ n) ((di ρ n fun ts n1=>forP tg tb D ts ρ n1)):=⟨fun h=>zkt h⟩
instance zm2 :Stp (dC x ρ n R) ((R x n)):=⟨fun h=>i_dC h⟩
instance zl7 :Stp (dOp g da db ρ n R) ((da ρ n fun x n1=>db ρ n1 fun y n2=>g x y fun z=>R z n2)):=⟨fun h=>zmI h⟩
instance zlz :Stp (dNew ds ρ n R) ((ds ρ n fun ts n'=>R (.list ts) n')):=⟨fun h=>zkD h⟩
instance zlv :Stp (dTup ds ρ n R) ((ds ρ n fun ts n1=>R (.tuple ts) n1)):=⟨fun h=>zkz h⟩
instance zly :Stp (dNil ρ n Rl) ((Rl [] n)):=⟨fun h=>zkC h⟩
instance zjz :Stp (Qk d ds ρ n Rl) ((d ρ n fun t n1=>ds ρ n1 fun ts n2=>Rl (t::ts) n2)):=⟨fun h=>ziE h⟩
instance zl8 :Stp (dFn gd ds ρ n R) ((ds ρ n fun ts n1=>gd ts n1 R)):=⟨fun h=>zmJ h⟩
instance zlC :Stp (dFnL gd ds ρ n R) ((ds ρ n fun ts n1=>gd ts n1 fun t n2=>Jt t=true/\R t n2)):=⟨fun h=>zkG h⟩
instance zje :Stp (QM gc ds ρ n R) ((ds ρ n fun ts n1=>gc ts fun z=>R z n1)):=⟨fun h=>zgY h⟩
instance zlt :Stp (isiD fb d ρ n R) ((d ρ n fun t n1=>lIsi fb t fun z=>R z n1)):=⟨fun h=>zkx h⟩
instance zlE :Stp (dAnd c c' ρ n Rb) ((c ρ n fun b n1=>if b=true then c' ρ n1 Rb else Rb false n1)):=⟨fun h=>zkI h⟩
instance zl6 :Stp (dOr c c' ρ n Rb) ((c ρ n fun b n1=>if b=true then Rb true n1 else c' ρ n1 Rb)):=⟨fun h=>zmH h⟩
instance zlx :Stp (dNot c ρ n Rb) ((c ρ n fun b n1=>Rb (!b) n1)):=⟨fun h=>zkB h⟩
instance zlw :Stp (dTru d ρ n Rb) ((d ρ n fun t n'=>truD t fun b=>Rb b n')):=⟨fun h=>zkA h⟩
instance zlu :Stp (dYes ρ n Rb) ((Rb true n)):=⟨fun h=>zky h⟩
instance zju :Stp (zhK tgs (.tuple xs) ρ Re) ((tgs xs ρ Re)):=⟨fun h=>ziy h⟩
instance zjv :Stp (zhL [] ρ Re) ((Re ρ)):=⟨fun h=>ziz h⟩
instance zjc :Stp (ze2 tg tgs (x::xs) ρ Re) ((tg x ρ fun ρ'=>tgs xs ρ' Re)):=⟨fun h=>zgV h⟩
instance zjx :Stp (Qt d ρ n Rb) ((d ρ n fun t n'=>bolD t fun b=>Rb b n')):=⟨fun h=>ziC h⟩
instance zlD :Stp (dCat da db ρ n Rl) ((da ρ n fun x n1=>db ρ n1 fun y n2=>lCat x y fun zs=>Rl zs n2)):=⟨fun h=>zkH h⟩
instance zlB :Stp (dItL d ρ n Rl) ((d ρ n fun t n'=>lLst t fun ts=>Rl ts n')):=⟨fun h=>zkF h⟩
instance zlA :Stp (dItT d ρ n Rl) ((d ρ n fun t n'=>lTup t fun ts=>Rl ts n')):=⟨fun h=>zkE h⟩
instance zjy :Stp (QI d ρ n Rl) ((d ρ n fun t n'=>lInt t fun j=>(-(2 ^ 62)<=j/\j<2 ^ 62)/\Rl (JI 0 j.toNat) n')):=⟨fun h=>ziD h⟩
instance zjd :Stp (QN g g' da db dc ρ n R) ((da ρ n fun x n1=>db ρ n1 fun y n2=>g x y fun z=>bolD z fun b=>if b=true then dc ρ n2 fun w n3=>g' y w fun z=>R z n3 else R (.bool false) n2)):=⟨fun h=>zgX h⟩
instance zls {b:Bool}{A B:Prop}:Stp (if (!b)=true then A else B) ((if b=true then B else A)):=⟨fun h=>zkv h⟩
end
section
variable{C:Int->Int->Prop}{f:Int->Int->Int}{fb:Int->Int->Bool}{i j k:Int}{R:PyData->Prop}{Rb:Bool->Prop}{xs ys:qD}{s t:Str}{a b:Bool}{u v x y:PyData}{Rn:qN}{n:Nat}
instance zln :Stp (oAdd (.int i) (.int j) R) ((R (.int (i+j)))):=⟨fun h=>zkl h⟩
instance zl2 :Stp (oEq (.int i) (.int j) R) ((R (.bool (decide (i=j))))):=⟨fun h=>zmC h⟩
instance zlT :Stp (oNe (.int i) (.int j) R) ((R (.bool (!decide (i=j))))):=⟨fun h=>zmt h⟩
instance zlS :Stp (oNe (.list xs) (.list ys) R) (((Okd (.list xs)/\Okd (.list ys)/\R (.bool (!PyData.eqv (.list xs) (.list ys)))))):=⟨fun h=>zms h⟩
instance zlY :Stp (oLtA (.int i) (.int j) R) ((R (.bool (decide (i<j))))):=⟨fun h=>zmy h⟩
instance zl0 :Stp (oLeA (.int i) (.int j) R) ((R (.bool (decide (i<=j))))):=⟨fun h=>zmA h⟩
instance zll :Stp (oIx (.tuple (u::xs)) (.int 0) R) ((R u)):=⟨fun h=>zkj h⟩
instance zlk :Stp (oIx (.tuple (u::v::xs)) (.int 1) R) ((R v)):=⟨fun h=>zki h⟩
instance zlh :Stp (truD (.bool a) Rb) ((Rb a)):=⟨fun h=>zke h⟩
instance zlg :Stp (truD (.list xs) Rb) ((Rb (!xs.isEmpty))):=⟨fun h=>zkd h⟩
instance zl4 :Stp (bolD (.bool a) Rb) ((Rb a)):=⟨fun h=>zmE h⟩
instance zlj :Stp (bLen [.list xs] R) ((R (.int xs.length))):=⟨fun h=>zkh h⟩
instance zli :Stp (bLen [.tuple xs] R) ((R (.int xs.length))):=⟨fun h=>zkg h⟩
instance zja {ns:List Int}:Stp (bLen [SCR ns] R) ((R (.int ns.length))):=⟨fun h=>zgS h⟩
instance zlW :Stp (bMin [.int i,.int j] R) ((R (.int (if j<i then j else i)))):=⟨fun h=>zmw h⟩
instance zlX :Stp (bMax [.int i,.int j] R) ((R (.int (if j > i then j else i)))):=⟨fun h=>zmx h⟩
instance zi_ :Stp (QK [.list xs] R) ((R (.tuple xs))):=⟨fun h=>zgR h⟩
instance zjb {Rl:List PyData->Prop}:Stp (Qz (.tuple xs) Rl) ((Rl xs)):=⟨fun h=>zgT h⟩
instance zl3 {Q:List PyData->Prop}:Stp (lCat (.list xs) (.list ys) Q) (((xs.length+ys.length<=16777216/\Q (xs++ys)))):=⟨fun h=>zmD h⟩
instance zlZ {Q:List PyData->Prop}:Stp (lLst (.list xs) Q) ((Q xs)):=⟨fun h=>zmz h⟩
instance zlO {Q:List PyData->Prop}:Stp (lTup (.tuple xs) Q) ((Q xs)):=⟨fun h=>zmo h⟩
instance zl1 {i:Int}{Q:Int->Prop}:Stp (lInt (.int i) Q) ((Q i)):=⟨fun h=>zmB h⟩
instance zlU :Stp (oMul (.int i) (.int j) R) ((CMul i j)/\(R (.int (i*j)))):=⟨fun h=>zmu h.1 h.2⟩
instance zlV :Stp (oMod (.int i) (.int j) R) ((0<j)/\(R (.int (i % j)))):=⟨fun h=>zmv h.1 h.2⟩
instance zlm :Stp (Qw (.int i) (.int j) R) ((QF i j)/\(R (.int (i / j)))):=⟨fun h=>zkk h.1 h.2⟩
instance zlR :Stp (oShl (.int i) (.int j) R) ((CPow i j)/\(R (.int (i*2 ^ j.toNat)))):=⟨fun h=>zmr h.1 h.2⟩
instance zlQ :Stp (oShr (.int i) (.int j) R) ((0<=j)/\(R (.int (i / 2 ^ j.toNat)))):=⟨fun h=>zmq h.1 h.2⟩
instance zlP :Stp (oSub (.int i) (.int j) R) ((R (.int (i - j)))):=⟨fun h=>zmp h⟩
instance zlN :Stp (oXor (.int i) (.int j) R) ((R (.int (Builtin.bitXor i j)))):=⟨fun h=>zmn h⟩
instance zmZ :Stp (gB fb (.int i) (.int j) R) ((R (.bool (fb i j)))):=⟨fun h=>j_gB h⟩
instance zgk :Stp (lIsi isInt (.int i) R) ((R (.bool true))):=⟨fun h=>zdC h⟩
instance zgd :Stp (lIsi isBool (.int i) R) ((R (.bool false))):=⟨fun h=>zc9 h⟩
end
section
variable{R:PyData->Prop}{b:Bool}{A B:Prop}
instance zm0:Stp (if true=true then A else B) A:=⟨fun h=>iteT h⟩
instance zm1:Stp (if false=true then A else B) B:=⟨fun h=>iteF h⟩
end
class GetN (ρ:En)(i:Nat)(c:outParam (Option Cell)):Prop where
 e:ρ[i]?=some c
class SetN (ρ:En)(i:Nat)(c:Option Cell)(ρ':outParam En):Prop where
 e:ρ.set i c=ρ'
instance{a0:Option Cell}{as:En}:GetN (a0::as) 0 a0:=⟨rfl⟩
instance{a0 c:Option Cell}{as:En}:SetN (a0::as) 0 c (c::as):=⟨rfl⟩
instance{a0 a1:Option Cell}{as:En}:GetN (a0::a1::as) 1 a1:=⟨rfl⟩
instance{a0 a1 c:Option Cell}{as:En}:SetN (a0::a1::as) 1 c (a0::c::as):=⟨rfl⟩
instance{a0 a1 a2:Option Cell}{as:En}:GetN (a0::a1::a2::as) 2 a2:=⟨rfl⟩
instance{a0 a1 a2 c:Option Cell}{as:En}:SetN (a0::a1::a2::as) 2 c (a0::a1::c::as):=⟨rfl⟩
instance{a0 a1 a2 a3:Option Cell}{as:En}:GetN (a0::a1::a2::a3::as) 3 a3:=⟨rfl⟩
instance{a0 a1 a2 a3 c:Option Cell}{as:En}:SetN (a0::a1::a2::a3::as) 3 c (a0::a1::a2::c::as):=⟨rfl⟩
instance{a0 a1 a2 a3 c:Option Cell}{as:En}{i:Nat}[h:GetN as i c]:GetN (a0::a1::a2::a3::as) (i+4) c:=⟨h.e⟩
instance{a0 a1 a2 a3 c:Option Cell}{as bs:En}{i:Nat}[h:SetN as i c bs]:SetN (a0::a1::a2::a3::as) (i+4) c (a0::a1::a2::a3::bs):=⟨by rw[<- h.e];rfl⟩
class NormE (ρ:En)(ρ':outParam En):Prop where
 e:ρ=ρ'
instance{a:Option Cell}{as:En}:NormE (a::as) (a::as):=⟨rfl⟩
instance{ρ ρ1 ρ2:En}{i:Nat}{c:Option Cell}[h:NormE ρ ρ1][k:SetN ρ1 i c ρ2]:NormE (ρ.set i c) ρ2:=⟨by rw[h.e];exact k.e⟩
class NoneN (as:En)(nn:outParam En):Prop where
 e:List.replicate as.length none=nn
instance:NoneN [] []:=⟨rfl⟩
instance{a:Option Cell}{as nn:En}[h:NoneN as nn]:NoneN (a::as) (none::nn):=⟨by rw[List.length_cons,List.replicate_succ,h.e]⟩
class StartN (N:List Str)(ts:qD)(ρ:outParam En):Prop where
 e:Jv N ts=ρ
instance:StartN [] [] []:=⟨rfl⟩
instance{x:Str}{N:List Str}{ρ:En}[h:StartN N [] ρ]:StartN (x::N) [] (none::ρ):=⟨by
 have:=h.e;simp only[Jv,List.map_nil,List.nil_append,List.length_nil,Nat.sub_zero]at this ⊢;rw[List.length_cons,List.replicate_succ,this]⟩
instance{x:Str}{N:List Str}{t:PyData}{ts:qD}{ρ:En}[h:StartN N ts ρ]:StartN (x::N) (t::ts) (some (.val t)::ρ):=⟨by
 have:=h.e;simp only[Jv]at this ⊢;rw[List.map_cons,List.length_cons,List.length_cons,List.cons_append,Nat.add_sub_add_right,this]⟩
theorem zeq{d:DTS}{D:JB}{n:Nat}{N:List Str}{ts:qD}{ρ:En}[e:StartN N ts ρ](h:d D ρ n):d D (Jv N ts) n:=e.e.symm▸h
class CapN (is:List Nat)(ρ:En)(out:outParam En):Prop where
 e:(is.map fun i=>capV (ρ.getD i none))=out
class CapC (c:Option Cell)(c':outParam (Option Cell)):Prop where
 e:capV c=c'
instance{d:PyData}:CapC (some (.val d)) (some (.val d)):=⟨rfl⟩
instance{d:qD}:CapC (some (.own d)) none:=⟨rfl⟩
instance:CapC none none:=⟨rfl⟩
instance{ρ:En}:CapN [] ρ []:=⟨rfl⟩
instance{i:Nat}{is:List Nat}{ρ out:En}{c c':Option Cell}[g:GetN ρ i c][k:CapC c c'][h:CapN is ρ out]:CapN (i::is) ρ (c'::out):=⟨by
 have ge:=g.e;rw[List.map_cons,h.e,List.getD_eq_getElem?_getD,ge,Option.getD_some,k.e]⟩
class CompN (m:Nat)(capt:List Nat)(ρ:En)(ρ':outParam En):Prop where
 e:Jp m capt ρ=ρ'
instance{x:Str}{capt:List Nat}{ρ out:En}[h:CapN capt ρ out]:CompN (List.length [x]) capt ρ (none::out):=⟨by unfold Jp;rw[h.e];rfl⟩
instance{x y:Str}{capt:List Nat}{ρ out:En}[h:CapN capt ρ out]:CompN (List.length [x,y]) capt ρ (none::none::out):=⟨by unfold Jp;rw[h.e];rfl⟩
instance{x y z:Str}{capt:List Nat}{ρ out:En}[h:CapN capt ρ out]:CompN (List.length [x,y,z]) capt ρ (none::none::none::out):=⟨by unfold Jp;rw[h.e];rfl⟩
instance{x y z u:Str}{capt:List Nat}{ρ out:En}[h:CapN capt ρ out]:CompN (List.length [x,y,z,u]) capt ρ (none::none::none::none::out):=⟨by unfold Jp;rw[h.e];rfl⟩
def SetK(i:Nat)(c:Option Cell)(K:En->Nat->Prop)(ρ:En)(n:Nat):Prop:=K (ρ.set i c) n
section
variable{t u:DTS}{D:JB}{ρ ρ0 ρ':En}{n i j m:Nat}{d dj:DTE}{ds di:DTA}{tt:DTT}{tg:DTG}{R:qN}{Rl:List PyData->Nat->Prop}{Re:En->Prop}{x:PyData}{xs:qD}{f:Int->Int->Int}{capt:List Nat}{c:Option Cell}{K:En->Nat->Prop}{q:Int}
instance zm6 [h:SetN ρ i c ρ']:Stp (SetK i c K ρ n) (K ρ' n):=⟨fun k=>by unfold SetK;rw[h.e];exact k⟩
instance zmX:Stp (sSet i d D ρ n) (d ρ n fun t n'=>SetK i (some (.val t)) D.nx ρ n'):=⟨fun h=>h⟩
instance zmY:Stp (sOwn i ds D ρ n) (ds ρ n fun t n'=>SetK i (some (.own t)) D.nx ρ n'):=⟨fun h=>h⟩
instance zle [h:SetN ρ i (some (.val x)) ρ']:Stp (Uu i x ρ Re) (Re ρ'):=⟨fun k=>by unfold Uu;rw[h.e];exact k⟩
instance zm3 [h:GetN ρ i (some (.val x))]:Stp (dVar i ρ n R) (R x n):=⟨fun k=>zhs h.e k⟩
instance zm4 [h:GetN ρ i (some (.own xs))]:Stp (dOwn i ρ n R) (R (.list xs) n):=⟨fun k=>zht h.e k⟩
instance zlG [h:GetN ρ i (some (.own xs))]:Stp (QY i d D ρ n) (d ρ n fun t n'=>xs.length<16777216/\SetK i (some (.own (xs++[t]))) D.nx ρ n'):=⟨fun k=>zef h.e k⟩
instance zlF [h:GetN ρ i (some (.own xs))][h':SetN ρ i (some (.val (.list xs))) ρ']:Stp (QZ i t D ρ n) (t D ρ' n):=⟨fun k=>zee h.e (by rw[h'.e];exact k)⟩
instance zm5 [h:CompN m capt ρ ρ0]:Stp (dComp m capt di tg tt d ρ n Rl) (di ρ n fun ts n1=>JR tg tt d ρ0 ts [] n1 Rl):=⟨fun k=>ziF (by rw[h.e];exact k)⟩
end
theorem QU{ρ:En}{i:Nat}:ρ.set i (ρ.getD i none)=ρ:=by
 apply List.ext_getElem?
 intro j
 by_cases h:i=j
 ·subst h
  by_cases hl:i<ρ.length
  ·rw[List.getElem?_set_self hl,List.getD_eq_getElem?_getD,List.getElem?_eq_getElem hl];rfl
  ·rw[List.getElem?_eq_none (by simp;omega),List.getElem?_eq_none (by omega)]
 ·rw[List.getElem?_set_ne h]
section
variable{g:DTG}{tb:DTS}{D:JB}{ts:qD}{ρ:En}{n:Nat}
theorem zhx(i0 i1:Nat)(Inv:Nat->Option Cell->Option Cell->Nat->Prop){ρf:Option Cell->Option Cell->En}[N:∀a0 a1,NormE ((ρ.set i0 a0).set i1 a1) (ρf a0 a1)](h0:Inv 0 (ρ.getD i0 none) (ρ.getD i1 none) n)
  (turn:∀(k:Nat) (t:PyData) (a0 a1:Option Cell) (m:Nat) (K:En->Nat->Prop) (RT:qN) (BK:En->Nat->Prop),ts[k]?=some t->Inv k a0 a1 m->(∀b0 b1 m',Inv (k+1) b0 b1 m'->K (ρf b0 b1) m')->(∀t m,D.rt t m->RT t m)->(∀ρ m,D.nx ρ m->BK ρ m)->g t (ρf a0 a1) fun ρ'=>tb { nx:=K,rt:=RT,bk:=BK,ct:=K,xr:=D.xr } ρ' m)
  (fin:∀a0 a1 m,Inv ts.length a0 a1 m->D.nx (ρf a0 a1) m):forP g tb D ts ρ n:=by
 refine QE (fun k ρ' m=>∃a0 a1,ρ'=((ρ.set i0 a0).set i1 a1)/\Inv k a0 a1 m) ⟨_,_,?_,h0⟩ ?_ ?_
 ·rw[QU,QU]
 ·rintro k t ρ' m K e ⟨a0,a1,rfl,hI⟩ hK;rw[(N a0 a1).e];exact turn k t a0 a1 m K D.rt D.nx e hI (fun b0 b1 m' h=>(N b0 b1).e▸hK _ _ ⟨b0,b1,rfl,h⟩) (fun _ _ h=>h) (fun _ _ h=>h)
 ·rintro ρ' m ⟨a0,a1,rfl,hI⟩;rw[(N a0 a1).e];exact fin a0 a1 m hI
theorem zkS(i0 i1 i2:Nat)(Inv:Nat->Option Cell->Option Cell->Option Cell->Nat->Prop){ρf:Option Cell->Option Cell->Option Cell->En}[N:∀a0 a1 a2,NormE (((ρ.set i0 a0).set i1 a1).set i2 a2) (ρf a0 a1 a2)](h0:Inv 0 (ρ.getD i0 none) (ρ.getD i1 none) (ρ.getD i2 none) n)
  (turn:∀(k:Nat) (t:PyData) (a0 a1 a2:Option Cell) (m:Nat) (K:En->Nat->Prop) (RT:qN) (BK:En->Nat->Prop),ts[k]?=some t->Inv k a0 a1 a2 m->(∀b0 b1 b2 m',Inv (k+1) b0 b1 b2 m'->K (ρf b0 b1 b2) m')->(∀t m,D.rt t m->RT t m)->(∀ρ m,D.nx ρ m->BK ρ m)->g t (ρf a0 a1 a2) fun ρ'=>tb { nx:=K,rt:=RT,bk:=BK,ct:=K,xr:=D.xr } ρ' m)
  (fin:∀a0 a1 a2 m,Inv ts.length a0 a1 a2 m->D.nx (ρf a0 a1 a2) m):forP g tb D ts ρ n:=by
 refine QE (fun k ρ' m=>∃a0 a1 a2,ρ'=(((ρ.set i0 a0).set i1 a1).set i2 a2)/\Inv k a0 a1 a2 m) ⟨_,_,_,?_,h0⟩ ?_ ?_
 ·rw[QU,QU,QU]
 ·rintro k t ρ' m K e ⟨a0,a1,a2,rfl,hI⟩ hK;rw[(N a0 a1 a2).e];exact turn k t a0 a1 a2 m K D.rt D.nx e hI (fun b0 b1 b2 m' h=>(N b0 b1 b2).e▸hK _ _ ⟨b0,b1,b2,rfl,h⟩) (fun _ _ h=>h) (fun _ _ h=>h)
 ·rintro ρ' m ⟨a0,a1,a2,rfl,hI⟩;rw[(N a0 a1 a2).e];exact fin a0 a1 a2 m hI
theorem zgW{i j:Nat}{u:DTS}{D:JB}{as nn ρ1 ρ2:En}{n:Nat}{ns:List Int}{k:Int}[ej:GetN (some (.val (SCR ns))::as) j (some (.val (.int k)))][e1:NoneN as nn][e2:SetN (some (.val (SCR ns))::nn) j (some (.val (.int k))) ρ1][e3:SetN ρ1 i (some (.val HAND)) ρ2](hl:ns.length<=63)(k0:0<=k)(k1:k<=100)
  (h:∀(NX:En->Nat->Prop) (RT:qN) (BK CT:En->Nat->Prop),(∀ρ' m,D.nx (Jq ρ') n->NX ρ' m)->(∀b m,D.rt (.bool b) n->RT (.bool b) m)->(∀ρ' m,D.bk (Jq ρ') n->BK ρ' m)->(∀ρ' m,D.ct (Jq ρ') n->CT ρ' m) ->
   u { nx:=NX,rt:=RT,bk:=BK,ct:=CT } ρ2 0):Qs i j u D (some (.val (SCR ns))::as) n:=by
 refine ziB (ρd:=some (.val (SCR ns))::nn) rfl ej.e hl k0 k1 ?_ ?_
 ·show some (Cell.val (SCR ns))::List.replicate (List.length (some (Cell.val (SCR ns))::as) - 1) none=_
  rw[List.length_cons,Nat.add_sub_cancel,e1.e]
 ·rw[e2.e,e3.e];exact h _ _ _ _ (fun _ _ h=>h) (fun b _ h=>⟨b,rfl,h⟩) (fun _ _ h=>h) (fun _ _ h=>h)
end
mutual
def plnD:PyData->Bool
 | .dict []=>true
 | .dict _=>false
 | .tuple ts=>decide (ts.length<=1000000)&&zh5 ts
 | .list ts=>decide (ts.length<=1000000)&&zh5 ts
 | .str x=>decide (x.length<=1000000)
 | _=>true
def zh5:List PyData->Bool
 | []=>true
 | t::ts=>plnD t&&zh5 ts
end
theorem zdG{α:Type}{cs:List α}{D:α->PyData}{tg:DTG}{tt:DTT}{d:DTE}{ρ0:En}{n:Nat}{Rl:List PyData->Nat->Prop}(p:α->Bool)(F:α->PyData)(hl:cs.length<=16777216)
  (step:∀b∈cs,∀(K:qN) (X:Nat->Prop),(p b=true->K (F b) n)->(p b=false->X n)->tg (D b) ρ0 fun ρ1=>tt ρ1 n fun c n2=>if c=true then d ρ1 n2 K else X n2) (fin:Rl ((cs.filter p).map F) n):JR tg tt d ρ0 (cs.map D) [] n Rl:=by
 refine zhG (fun j acc m=>m=n/\acc=((cs.take j).filter p).map F) ⟨rfl,rfl⟩ ?_ ?_
 ·rintro j x acc m K ej ⟨rfl,rfl⟩ hK;rw[List.getElem?_map]at ej;cases eb:cs[j]? with
  | none=>rw[eb]at ej;cases ej
  | some b =>
   rw[eb]at ej;cases ej;obtain⟨hj,e2⟩:=List.getElem?_eq_some_iff.mp eb;have tk:cs.take (j+1)=cs.take j++[b]:=by rw[List.take_succ,eb];rfl
   refine step b (List.mem_of_getElem? eb) _ _ (fun hp=>⟨?_,hK _ _ ⟨rfl,?_⟩⟩) (fun hp=>hK _ _ ⟨rfl,?_⟩)
   ·have:=List.length_filter_le p (cs.take j);simp at this ⊢;lia
   ·rw[tk,List.filter_append,List.map_append];simp[hp]
   ·rw[tk,List.filter_append,List.map_append];simp[hp]
 ·rintro acc m ⟨rfl,rfl⟩;rw[List.length_map,List.take_length];exact fin
abbrev Run:=Int×Int
end L2
namespace L2
open PySem Bd
variable{as bs cs:List Run}{a b:Nat}
end L2
namespace L2
open PySem PySem.Spec PyProof.Rows
theorem zmm{P:Program}{w:World}{k:Key}{u:Value}(r:RelV (kV k) u):(Jy P w).is k u=true:=by
 cases k with
 | inl i=>obtain⟨t,e⟩:=(show ∃t,u=Value.int i t from r);subst e;exact zdy P w i t
 | inr x=>obtain⟨t,e⟩:=(show ∃t,u=Value.str x t from r);subst e;exact zdx P w x t
theorem zc_{P:Program}{w:World}:∀{ks:List Key}{us:List Value},Vals (ks.map kV) us->ItemsAre (Jy P w) ks us
 | [],_,r=>by rw[List.map_nil]at r;cases r;exact .nil
 | k::ks,_,r=>by
  rw[List.map_cons]at r;cases r with
  | cons h t=>exact .cons (zmm h) (zc_ t)
abbrev KT(H:Hp):List (List Key×V)->List (List Key×Addr×Value)->Prop:=Paired fun p q=>p.1=q.1/\H q.2.1=some (.tup (p.1.map kV))/\RelV p.2 q.2.2
section
variable{X:Cx}{pins:qO}{σ:St}{H:Hp}{s:Shared}{a:Addr}{y v:V}{u r:Value}{o:Option V}{A:Around}{E:qV}
theorem Inv.big(I:Inv X pins σ H s):sysModules<s.heap.objs.size:=by
 have h:mainGlobals<s.heap.objs.size:=(I.mod.glob.keeps I.bk).lt;exact Nat.lt_trans (by decide) h
theorem ziY{h':Heap}{t':Nat}{ob:HO}(I:Inv X pins σ H s)(mu:Mut (H a))(hs:Heap.SameBut a s.heap h')(he:∃q,h'.get? a=some q)(new:Jm X.prog X.w (upd H a ob) h' a ob) :
  Inv X pins σ (upd H a ob) { s with heap:=h',toks:=t' } :=
 I.write (x:=a) (e:=a) mu (.inl rfl) (fun b q hb z=>(hs.2 b hb).trans z) he new
end
end L2
namespace L2
open PySem PySem.Spec PyProof PyProof.Rows
abbrev KD:=List (Key×PyData)
section
variable{D:JB}{ρ ρ':En}{n i j:Nat}{d dk dv:DTE}{R:qN}{ks:KD}
instance{ks:KD}:CapC (some (.dct ks)) (some (.rdo ks)):=⟨rfl⟩
instance{ks:KD}:CapC (some (.rdo ks)) (some (.rdo ks)):=⟨rfl⟩
end
theorem zbX{α β:Type}{P:α->β->Prop}:∀{l:List α}{m:List β},l.length=m.length->(∀(j:Nat) a b,l[j]?=some a->m[j]?=some b->P a b)->Paired P l m
 | [],[],_,_=>.nil
 | a::l,b::m,h,k=>.cons (k 0 a b rfl rfl) (zbX (by simpa using h) fun j a b h1 h2=>k (j+1) a b h1 h2)
 | [],_::_,h,_=>by simp at h
 | _::_,[],h,_=>by simp at h
theorem zjC{k:Nat}{A:Around}(r:Room k A):A.units+1<cLine:=by have:=r.un;lia
section
variable{X:Cx}{x:Str}{pos p p1:Pos}
theorem ze_{K:qF}{hd:Option Addr}{O:Addr->Prop}{H:Hp}:∀js:List Int,Reps K hd O H (js.map V.int) (js.map PyData.int)
 | []=>.nil
 | j::js=>.cons (.int _) (ze_ js)
end
theorem zcU{a b c:Int}:0<=Builtin.Range.rangeSize a b c:=by
 unfold Builtin.Range.rangeSize;split
 ·split
  ·have:=Int.ediv_nonneg (a:=b - a - 1) (b:=c) (by lia) (by lia);lia
  ·lia
 ·split
  ·have:=Int.ediv_nonneg (a:=a - b - 1) (b:=-c) (by lia) (by lia);lia
  ·lia
theorem zet{a b c:Int}(h1:-(2 ^ 60)<=a)(h2:a<2 ^ 60)(h3:-(2 ^ 60)<=b)(h4:b<2 ^ 60)(h5:-(2 ^ 29)<=c)(h6:c<2 ^ 29)(h0:c≠0):Builtin.Range.small a b c=true:=by
 have hs:Builtin.Range.rangeSize a b c<2 ^ 62:=by
  unfold Builtin.Range.rangeSize;split
  ·split
   ·have:=Int.ediv_le_self (a:=b - a - 1) c (by lia)
    lia
   ·lia
  ·split
   ·have:=Int.ediv_le_self (a:=a - b - 1) (-c) (by lia)
    lia
   ·lia
 have hn:=zcU (a:=a) (b:=b) (c:=c);unfold Builtin.Range.small;simp only[Builtin.Range.rangeFitsLong,Bool.and_eq_true,Bool.or_eq_true,decide_eq_true_eq,beq_iff_eq];split <;> simp only[Bool.and_eq_true,decide_eq_true_eq] <;> lia
section
variable{X:Cx}
theorem zhq{pins:qO}{σ:St}{H:Hp}{s:Shared}{b:Addr}{k:List Key}(I:Inv X pins σ H s)(h:SqT X.K H b (k.map kV)):IsTupleKey (Jy X.prog X.w) s.heap k b:=by
 obtain⟨its,r,⟨o,e,c,n,d⟩,_⟩:=I.tuple h;exact⟨o,its.toArray,n,e,c,d,by simpa using zc_ r⟩
theorem zew{α β:Type}{F:α->β->Prop}{l₁:List α}{l₂:List β}(r:Paired F l₁ l₂){a:α}(h:a∈l₁):∃b∈l₂,F a b:=by
 induction r with
 | nil=>cases h
 | cons f t ih =>
  rcases List.mem_cons.mp h with rfl|h
  ·exact⟨_,List.mem_cons_self,f⟩
  ·obtain⟨b,hb,g⟩:=ih h;exact⟨b,List.mem_cons_of_mem _ hb,g⟩
theorem UN{α β:Type}{F:α->β->Prop}{l₁:List α}{l₂:List β}(r:Paired F l₁ l₂){b:β}(h:b∈l₂):∃a∈l₁,F a b:=by
 induction r with
 | nil=>cases h
 | cons f t ih =>
  rcases List.mem_cons.mp h with rfl|h
  ·exact⟨_,List.mem_cons_self,f⟩
  ·obtain⟨b,hb,g⟩:=ih h;exact⟨b,List.mem_cons_of_mem _ hb,g⟩
end
end L2
namespace Bd
open PySem L2
def Dq(K:qF)(mg:qM)(x:Str)(st:Stmt)(ps:List Str):Prop:=∃f fd,Def K mg x st ps f fd
def Fq(P:Program)(w:World)(K:qF)(mg:qM)(base:Heap)(x:Str)(st:Stmt)(ps:List Str)(k:Nat)(sp:Sp):Prop:=∃f fd,Def K mg x st ps f fd/\FnOk P w K mg base CX0 k f fd ps sp
end Bd
namespace L2
open PySem PySem.Spec PyProof.Rows
section
variable{X:Cx}{x:Str}{st:Stmt}{ps:List Str}{k n m:Nat}{g:GD}{e:Expr}{es:List Expr}{ds:DTA}{p pos:Pos}
theorem Jr(F:Bd.Fq X.prog X.w X.K X.mg X.base x st ps k (spD X.K m g))(hr:Room n X.A)(h:DB X (e::es) ds)(hk:k<=n:=by decide)(hm:(e::es).length=m:=by rfl)(hg:Gl X x:=by rfl)
  (hdb:(x == ("__debug__":Str))=false:=by rfl):DE X (.Call (.Name x p) (e::es) [] pos) (dFn g ds):=by
 obtain⟨f,fd,D,G⟩:=F;exact zmQ D G (hr.mono hk) h hm hg hdb
theorem zk7(F:Bd.Fq X.prog X.w X.K X.mg X.base x st ps k (spD X.K m g))(hr:Room n X.A)(h:DBL X (e::es) ds)(hk:k<=n:=by decide)(hm:(e::es).length=m:=by rfl)(hg:Gl X x:=by rfl)
  (hdb:(x == ("__debug__":Str))=false:=by rfl):DE X (.Call (.Name x p) (e::es) [] pos) (dFnL g ds):=by
 obtain⟨f,fd,D,G⟩:=F;exact zk8 D G (hr.mono hk) h hm hg hdb
end
section
variable{X:Cx}{hx s kx x:Str}{st:Stmt}{ps:List Str}{k n:Nat}{p p1 p2 p3 pos pos':Pos}{sts:List Stmt}{u:DTS}
theorem zfO{i j:Nat}(F:Bd.Fq X.prog X.w X.K X.mg X.base hx st ps k (Us X.K))(hr:Room n X.A)(hN:X.N.Nodup)(hi:X.N[i]?=some x)(hlx:Loc X.env.scope x)(hu:DSs X sts u)(hk:k<=n:=by decide)(hij:i≠0:=by decide)(hj0:j≠0:=by decide)(hji:j≠i:=by decide)
  (h0:X.N[0]?=some s:=by rfl) (hj:X.N[j]?=some kx:=by rfl) (hv0:Vis X.env.scope s:=by walk_at "V") (hvj:Vis X.env.scope kx:=by walk_at "V")
  (hd0:(s == ("__debug__":Str))=false:=by rfl) (hcd0:(s == ("__classdict__":Str))=false:=by rfl) (hdj:(kx == ("__debug__":Str))=false:=by rfl) (hcdj:(kx == ("__classdict__":Str))=false:=by rfl) (hg:Gl X hx:=by rfl) (hdb:(hx == ("__debug__":Str))=false:=by rfl)
  (hs:swapsWith (.Call (.Name hx p) [.Name s p1,.Name kx p2] [] p3) (some (.Name x pos')) pos.line X.env=pure false:=by rfl) (hf:X.fn x=true\/X.env.scope.names.lookup x=some .local:=by walk_at "F") :
  DSs X (.Assign [.Name x pos'] (.Call (.Name hx p) [.Name s p1,.Name kx p2] [] p3) pos::sts) (Qs i j u):=by
 obtain⟨f,fd,D,G⟩:=F;exact zg6 D G (hr.mono hk) hN hi hlx hu hij hj0 hji h0 hj hv0 hvj hd0 hcd0 hdj hcdj hg hdb hs hf
end
end L2
namespace Bd
open PySem L2
section
variable{K:qF}{h:Heap}{mg:qM}{x:Str}{st:Stmt}{ps:List Str}
abbrev BndA(x:Str)(st:Stmt)(ps:List Str):Prop:=∀(kV doc pm:Value) (an:Option Addr) (cdv ct:Value) (us:List Value),us.length=ps.length->bindArgs (PySem.W.fnOf x x (JP st) (Jx st) (Jj st) .none kV doc pm an cdv ct) ⟨us,[]⟩=pure (ps.zip us)
theorem lenS{us:List Value}{n:Nat}(h:us.length=n+1):∃a t,us=a::t/\t.length=n:=by
 cases us with
 | nil=>cases h
 | cons a t=>exact⟨a,t,rfl,Nat.succ.inj h⟩
theorem len1{us:List Value}(h:us.length=1):∃a,us=[a]:=by
 obtain⟨a,t,rfl,e⟩:=lenS h;exact⟨a,by rw[List.eq_nil_of_length_eq_zero e]⟩
theorem len2{us:List Value}(h:us.length=2):∃a b,us=[a,b]:=by
 obtain⟨a,t,rfl,e⟩:=lenS h;obtain⟨b,rfl⟩:=len1 e;exact⟨a,b,rfl⟩
theorem len3{us:List Value}(h:us.length=3):∃a b c,us=[a,b,c]:=by
 obtain⟨a,t,rfl,e⟩:=lenS h;obtain⟨b,c,rfl⟩:=len2 e;exact⟨a,b,c,rfl⟩
end
end Bd
namespace L2
open PySem PySem.Spec PyProof PyProof.Rows
section
variable{X:Cx}
theorem Paired.flip{l:List Value}{m:List Nat}{f:Nat->V}(r:Paired (fun(v:Value) (i:Nat)=>RelV (f i) v) l m):Vals (m.map f) l:=by
 induction r with
 | nil=>exact .nil
 | cons a b ih=>exact .cons a ih
theorem zeM(hc:X.calm=true):Jw X (.type "list") (fun xs H Q=>∃(p:Addr) (lo hi:Int),xs=[.ref p]/\H p=some (.rng lo hi)/\(-(2 ^ 60)<=lo/\lo<2 ^ 60/\-(2 ^ 60)<=hi/\hi<2 ^ 60/\hi - lo<=2 ^ 24) /\
  ∀l,H l=none->Q (.ref l) (upd H l (.lst (((List.range (hi - lo).toNat).map fun(i:Nat)=>lo+(i:Int)).map V.int)))):=by
 intro pins s σ H xs us Q I r h;obtain⟨p,lo,hi,rfl,hp,⟨b1,b2,b3,b4,b5⟩,q⟩:=h;obtain⟨u,rfl,ru⟩:=r.one;cases(show u=Value.ref p from ru)
 obtain⟨t,u,v,ho⟩:=(show Jm X.prog X.w H s.heap p (.rng lo hi) from I.hok p _ hp)
 have sz:Builtin.Range.rangeSize lo hi 1=((hi - lo).toNat:Nat):=by
  rw[rangeSize_one];split <;> lia
 refine call_list_range (I.ok.hd hc) ho (zet b1 b2 b3 b4 (by decide) (by decide) (by decide)) sz (by lia) fun h' tk acc c kp hS hacc=>?_
 refine⟨.ref s.heap.objs.size,_,I.laid (a:=s.heap.objs.size) (o:=.lst _) (t':=tk) kp (Nat.le_refl _) ⟨?_,acc.toList,c,?_,by rw[Array.toArray_toList];exact hS⟩,rfl,q _ (I.hok.fresh (Nat.le_refl _))⟩
 ·simp;rw[sizeLine_eq];lia
 ·obtain⟨ha,hb⟩:=hacc;rw[List.map_map];refine Paired.flip (zbX (P:=fun(v:Value) (i:Nat)=>RelV (V.int (lo+(i:Int))) v) (m:=List.range (hi - lo).toNat) (by rw[Array.length_toList,ha,List.length_range]) fun j v i hv hi=>?_)
  rw[Array.getElem?_toList]at hv;obtain⟨t,rfl⟩:=hb j v hv;rw[List.getElem?_range (by have:=(Array.getElem?_eq_some_iff.mp hv).1;lia)]at hi
  cases hi;exact⟨t,by rw[Int.mul_one]⟩
end
def JF(h:Heap)(d:Addr)(es:Array DictEntry)(ep:Nat):Prop:=∃o,h.get? d=some o/\o.ExactDict/\o.data=.dict es ep
theorem JF.keep(r:JF h d es ep)(k:∀o,h.get? d=some o->h'.get? d=some o):JF h' d es ep:=by
 obtain⟨o,e,x⟩:=r;exact⟨o,k o e,x⟩
theorem JF.lt(r:JF h d es ep):d<h.objs.size:=by
 obtain⟨o,e,x⟩:=r;exact Heap.lt_size e
def itO(f0:Value)(f:Bool)(d:Addr)(i n ep:Nat)(f6 f7:Value):Obj:=⟨.type "dict_itemiterator",none,.fields #[f0,.bool f,.ref d,.int i 0,.int n 0,.int ep 0,f6,f7],#[]⟩
def J6(h:Heap)(it d:Addr)(i n ep:Nat):Prop:=∃f0 f f6 f7,h.get? it=some (itO f0 f d i n ep f6 f7)/\(f0=.none\/∃a:Nat,f0=rawInt a)
theorem J6.keep(r:J6 h it d i n ep)(k:∀o,h.get? it=some o->h'.get? it=some o):J6 h' it d i n ep:=by
 obtain⟨f0,f,f6,f7,e,x⟩:=r;exact⟨f0,f,f6,f7,k _ e,x⟩
section
variable{prog:Program}{w:World}{A:Around}{E:qV}{s:Shared}
theorem zi6(h:∀x,Q x s):wpAny (model prog w) A (loadIfAlive a) Q E s:=fun _ _ _=>h _
theorem zkO(h0:f0=.none\/∃a:Nat,f0=rawInt a)(e2:s.heap.get? it=some (itO f0 f d i n ep f6 f7))(ht:Q true s)
  (hf:∀h3,h3.get? it=some (itO f0 true d i n ep f6 f7)->Heap.SameBut it s.heap h3->Q false { s with heap:=h3 }):wpAny (model prog w) A (Builtin.Dict_items.ownedTupleIsFree (.ref it)) Q E s:=by
 unfold Builtin.Dict_items.ownedTupleIsFree;refine wpAny_bind (wpAny_field e2 rfl (x:=f0) rfl ?_);rcases h0 with rfl|⟨a,rfl⟩
 ·exact wpAny_pure ht
 ·refine wpAny_bind (zi6 fun x=>?_)
  cases x with
  | none=>exact wpAny_pure ht
  | some o =>
   rw[if_neg (show ¬((some o).isNone=true) from Bool.false_ne_true)]
   refine wpAny_bind (wpAny_field e2 rfl (x:=.bool f) rfl ?_);cases f with
   | true =>
    rw[if_neg (show ¬((Value.bool true != .bool true)=true) by decide)]
    exact wpAny_pure (hf s.heap e2 (Heap.SameBut.refl _ _))
   | false =>
    rw[if_pos (show(Value.bool false != .bool true)=true by decide)]
    exact wpAny_bind (wpAny_setField_rec e2 (by simp) fun h3 e3 s3=>wpAny_pure (hf h3 e3 s3))
theorem zgp(hi:J6 s.heap it d i es.size ep)(hm:JF s.heap d es ep)(hx:es[i]?=some e)
  (hQ:∀h',J6 h' it d (i+1) es.size ep->h'.get? s.heap.objs.size=some ⟨.type "tuple",none,.seq #[e.key,e.val] 0,#[]⟩->h'.objs.size=s.heap.objs.size+1->(∀b o,b≠it->s.heap.get? b=some o->h'.get? b=some o)->Q (some (.ref s.heap.objs.size)) { s with heap:=h' }) :
  wpAny (model prog w) A (pyNext (.ref it)) Q E s:=by
 obtain⟨hp,g,dr,tk,os⟩:=s;obtain⟨f0,f,f6,f7,hit,h0⟩:=hi;obtain⟨od,god,xod,dod⟩:=hm;have ty:Shared.TypeIs ⟨hp,g,dr,tk,os⟩ (.ref it) "dict_itemiterator":=⟨_,hit,rfl⟩;have il:it<hp.objs.size:=Heap.lt_size hit;have lt:i<es.size:=(Array.getElem?_eq_some_iff.mp hx).1;unfold pyNext;refine wpAny_bind (wpAny_attempt ?_);refine wpAny_callSpecial?_slot (name:=Str.ofString "__next__") ty PySem.F.slot_dict_itemiterator_next ?_
 refine wpAny_call_entry PySem.F.slot_dict_itemiterator_next ty PySem.F.entry_dict_itemiterator_next ?_ (PySem.F.args_dict_itemiterator_next_1 _);refine wpAny_bind (wpAny_pure (wpAny_bind (wpAny_bind ?_)));refine wpAny_bind (wpAny_typeNameOfWhole_itemiter ty (wpAny_pure (wpAny_bind (wpAny_fieldsOf hit rfl ?_))));have ow:Builtin.Dict_items.ownsTuple "dict_itemiterator" = true:=by decide
 simp only[ow,if_true];show wpAny _ _ (if (Value.ref d == Value.none)=true then _ else _) _ _ _
 have nd:¬((Value.ref d == Value.none)=true):=Bool.false_ne_true;rw[if_neg nd];refine wpAny_bind (wpAny_pure (wpAny_bind (wpAny_dictEntries god dod ?_)));rw[if_neg (by simp)]
 refine wpAny_bind (wpAny_pure (wpAny_bind (wpAny_dictEpoch god dod ?_)));rw[if_neg (by simp)]
 refine wpAny_pure ?_;simp only[show ¬((i:Int)<0) from by lia,if_false,Int.toNat_natCast,hx]
 refine wpAny_bind (wpAny_bind (wpAny_typeNameOfWhole_itemiter ty (wpAny_pure (wpAny_bind (wpAny_isOneOf_itemiter ty ?_)))));show wpAny _ _ (setField (.ref it) 3 (rawInt ((i:Int)+1)) >>= _) _ _ ⟨hp,g,dr,tk,os⟩
 refine wpAny_bind (wpAny_setField_rec hit (by simp) fun h1 e1 s1=>?_)
 have s1':Heap.SameBut it hp h1:=s1;have e1':h1.get? it=some (itO f0 f d (i+1) es.size ep f6 f7):=by
  have:((i+1:Nat):Int)=(i:Int)+1:=by lia
  unfold itO;rw[this];simpa[rawInt] using e1
 have ty1:Shared.TypeIs ⟨h1,g,dr,tk,os⟩ (.ref it) "dict_itemiterator":=⟨_,e1',rfl⟩;refine wpAny_bind (wpAny_holding (wpAny_bind (wpAny_isOneOf_itemiter ty1 (wpAny_bind (wpAny_isOneOf_itemiter ty1 ?_)))));show wpAny _ _ (Builtin.Dict_items.pairFromOwner (.ref it) 6 e.key e.val) _ _ ⟨h1,g,dr,tk,os⟩
 unfold Builtin.Dict_items.pairFromOwner;refine wpAny_bind (wpAny_newTuple ?_);have z1:h1.objs.size=hp.objs.size:=s1'.1;obtain⟨h2,eh2⟩:∃h2,h2=h1.push ⟨.type "tuple",none,.seq #[e.key,e.val] 0,#[]⟩:=⟨_,rfl⟩;have e2:h2.get? it=some (itO f0 f d (i+1) es.size ep f6 f7):=by rw[eh2];exact Heap.get?_push_of_some _ e1'
 have t2:h2.get? hp.objs.size=some ⟨.type "tuple",none,.seq #[e.key,e.val] 0,#[]⟩:=by rw[eh2,<- z1];exact Heap.get?_push_size _ rfl
 have z2:h2.objs.size=hp.objs.size+1:=by rw[eh2,Heap.size_push,z1]
 have k2:∀b o,b≠it->hp.get? b=some o->h2.get? b=some o:=fun b o nb eb=>by rw[eh2];exact Heap.get?_push_of_some _ (s1'.extBut b o nb eb)
 rw[z1];show wpAny _ _ (Builtin.Dict_items.ownedTupleIsFree (.ref it) >>= _) _ _ ⟨h1.push ⟨.type "tuple",none,.seq #[e.key,e.val] 0,#[]⟩,g,dr,tk,os⟩
 rw[<- eh2];clear eh2 e1 e1' s1 s1' ty1 z1;clear h1;have kept:∀h3:Heap,h3.objs.size=h2.objs.size->(∀b o,b≠it->h2.get? b=some o->h3.get? b=some o)->J6 h3 it d (i+1) es.size ep->Q (some (.ref hp.objs.size)) ⟨h3,g,dr,tk,os⟩:=fun h3 z3 k3 r3 =>
  hQ h3 r3 (k3 _ _ (Nat.ne_of_gt il) t2) (z3.trans z2) fun b o nb eb=>k3 b o nb (k2 b o nb eb)
 have last:∀(h3:Heap) (f':Bool),h3.objs.size=h2.objs.size->(∀b o,b≠it->h2.get? b=some o->h3.get? b=some o)->h3.get? it=some (itO f0 f' d (i+1) es.size ep f6 f7)->Q (some (.ref hp.objs.size)) ⟨h3,g,dr,tk,os⟩:=fun h3 f' z3 k3 r3 =>
  kept h3 z3 k3 ⟨f0,f',f6,f7,r3,h0⟩
 refine wpAny_bind (zkO h0 e2 ?_ fun h3 e3 s3=>?_)
 ·simp only[if_true];refine wpAny_bind (wpAny_field e2 rfl (x:=f6) rfl (wpAny_bind (wpAny_field e2 rfl (x:=f7) rfl ?_)));refine wpAny_bind (wpAny_setField_rec e2 (by simp) fun h3 e3 s3=>wpAny_bind (wpAny_setField_rec e3 (by simp) fun h4 e4 s4=>?_))
  refine wpAny_bind (wpAny_setField_rec e4 (by simp) fun h5 e5 s5=>wpAny_bind (wpAny_setField_rec e5 (by simp) fun h6 e6 s6=>?_))
  refine wpAny_bind (wpAny_letGo (wpAny_pure (wpAny_pure ⟨_,rfl,wpAny_pure (kept h6 ?_ ?_ ?_)⟩)))
  ·have a3:h3.objs.size=h2.objs.size:=s3.1;have a4:h4.objs.size=h3.objs.size:=s4.1;have a5:h5.objs.size=h4.objs.size:=s5.1;have a6:h6.objs.size=h5.objs.size:=s6.1;lia
  ·exact fun b o nb eb=>s6.extBut b o nb (s5.extBut b o nb (s4.extBut b o nb (s3.extBut b o nb eb)))
  ·exact⟨_,false,_,_,e6,.inr ⟨_,rfl⟩⟩
 ·exact wpAny_pure (wpAny_pure ⟨_,rfl,wpAny_pure (last h3 _ s3.1 (fun b o nb eb=>s3.extBut b o nb eb) e3)⟩)
end
section
variable{prog:Program}{w:World}{A:Around}{E:qV}{s:Shared}
theorem zhU(hA:A.handled=none)(hi:J6 s.heap it d i es.size ep)(hm:JF s.heap d es ep)(hx:es[i]?=none)
  (hQ:∀h',(∀b o,b≠it->s.heap.get? b=some o->h'.get? b=some o)->Q none { s with heap:=h' }):wpAny (model prog w) A (pyNext (.ref it)) Q E s:=by
 obtain⟨f0,f,f6,f7,hit,h0⟩:=hi;obtain⟨od,god,xod,dod⟩:=hm;have ty:s.TypeIs (.ref it) "dict_itemiterator":=⟨_,hit,rfl⟩;unfold pyNext;refine wpAny_bind (wpAny_attempt ?_);refine wpAny_callSpecial?_slot (name:=Str.ofString "__next__") ty PySem.F.slot_dict_itemiterator_next ?_;refine wpAny_call_entry PySem.F.slot_dict_itemiterator_next ty PySem.F.entry_dict_itemiterator_next ?_ (PySem.F.args_dict_itemiterator_next_1 _)
 refine wpAny_bind (wpAny_pure (wpAny_bind (wpAny_bind ?_)));refine wpAny_bind (wpAny_typeNameOfWhole_itemiter ty (wpAny_pure (wpAny_bind (wpAny_fieldsOf hit rfl ?_))));have ow:Builtin.Dict_items.ownsTuple "dict_itemiterator" = true:=by decide
 simp only[ow,if_true];show wpAny _ _ (if (Value.ref d == Value.none)=true then _ else _) _ _ _
 have nd:¬((Value.ref d == Value.none)=true):=Bool.false_ne_true;rw[if_neg nd];refine wpAny_bind (wpAny_pure (wpAny_bind (wpAny_dictEntries god dod ?_)));rw[if_neg (by simp)]
 refine wpAny_bind (wpAny_pure (wpAny_bind (wpAny_dictEpoch god dod ?_)));rw[if_neg (by simp)]
 refine wpAny_pure ?_;simp only[show ¬((i:Int)<0) from by lia,if_false,Int.toNat_natCast,hx]
 refine wpAny_bind (wpAny_bind (wpAny_typeNameOfWhole_itemiter ty (wpAny_pure ?_)));show wpAny _ _ (setField (.ref it) 2 .none >>= _) _ _ s
 refine wpAny_bind (wpAny_setField hit rfl (by simp) ?_)
 show wpAny _ _ (newExc (.type "StopIteration") [] >>= _) _ _ _
 refine wpAny_bind ?_;simp only[newExc,newTuple];refine wpAny_bind (wpAny_newObj_type ?_ (by size_fits))
 refine wpAny_bind (m:=firstArgMember _ _) (wpAny_of_eq (a:=Value.none) (by first|rfl|(simp only[firstArgMember];rfl)) ?_)
 refine wpAny_newObj_type ?_ (by size_fits)
 simp only[raiseNew];refine wpAny_bind (wpAny_handled ?_);have hA1:A.in1.handled=none:=hA;rw[hA1];refine wpAny_bind (wpAny_pure (wpAny_throw ?_));refine wpAny_bind (wpAny_isInstance (T:="StopIteration") (b:=true) ⟨_,Heap.get?_push_size _ rfl,rfl⟩ isSubtype_stop (wpAny_pure (hQ _ ?_)));exact(((Heap.SameBut.update ..).extBut.push _).push _)
theorem zgo(hv:s.heap.IsItemsView v d)(hm:JF s.heap d es ep)(hQ:Q (.ref s.heap.objs.size) { s with heap:=s.heap.push (itO .none false d 0 es.size ep .none .none) }) :
  wpAny (model prog w) A (pyIter (.ref v)) Q E s:=by
 obtain⟨ov,gv,cv,dv⟩:=id hv;obtain⟨od,god,xod,dod⟩:=hm;refine wpAny_pyIter_slot hv.typeIs PySem.F.slot_dict_items_iter ?_;refine wpAny_call_entry PySem.F.slot_dict_items_iter hv.typeIs PySem.F.entry_dict_items_iter ?_ (PySem.F.args_dict_items_iter_1 _);unfold Builtin.«dict_items.__iter__»;refine wpAny_bind (wpAny_pure (wpAny_bind ?_));unfold Builtin.Dict_items.dictOf;refine wpAny_bind (wpAny_field gv dv (x:=.ref d) rfl (wpAny_pure (wpAny_bind ?_)))
 unfold Builtin.Dict_items.newIterator;refine wpAny_bind (wpAny_dictEntries god dod (wpAny_bind (wpAny_dictEpoch god dod ?_)));have ow:Builtin.Dict_items.ownsTuple "dict_itemiterator" = true:=by decide
 simp only[ow,if_true];refine wpAny_newObj_type (wpAny_pure ⟨_,rfl,"dict_itemiterator",_,⟨_,Heap.get?_push_size _ rfl,rfl⟩,PySem.F.slot_dict_itemiterator_next.lookup,?_⟩) ?_
 ·simpa[rawInt,Builtin.Dict_items.ownedTupleFields,itO] using hQ
 ·simp[sizeOk,Builtin.Dict_items.ownedTupleFields,sizeLine_eq]
theorem zfc(hs:(d == sysModules)=false)(hm:JF s.heap d es ep)(h:P (.done (.ret (.ref s.heap.objs.size))) { s with heap:=s.heap.push ⟨.type "dict_items",none,.fields #[.ref d],#[]⟩ }) :
  wpAny (model prog w) A (Builtin.«dict.items» ⟨[.ref d],[]⟩) P E s:=by
 obtain⟨od,god,xod,dod⟩:=hm;have ty:s.TypeIs (.ref d) "dict":=⟨od,god,xod.1⟩;unfold Builtin.«dict.items»;refine wpAny_bind ?_;unfold Builtin.Dict.noArgs;refine wpAny_bind (wpAny_notOrdered_dict ty ?_);show wpAny _ _ (pure d) _ _ s
 refine wpAny_pure ?_;show wpAny _ _ (Builtin.Dict.showsAll d >>= _) _ _ s
 unfold Builtin.Dict.showsAll;rw[hs,if_neg (by decide)]
 exact wpAny_bind (wpAny_pure (wpAny_bind (wpAny_newObj_type (wpAny_pure h))))
structure RawG(es:Array DictEntry)(lo:Addr)(h:Heap)(as:List Addr):Prop where
 above:∀a∈as,lo<a
 pairs:∀(j:Nat) (a:Addr),as[j]?=some a->∃e,es[j]?=some e/\h.get? a=some ⟨.type "tuple",none,.seq #[e.key,e.val] 0,#[]⟩
theorem zdZ{S I d:Addr}{es:Array DictEntry}{ep:Nat}{R:Result->Shared->Prop}(hA:A.handled=none)(hSI:S<I)(nS:d≠S)(nI:d≠I)(hn:es.size<=sizeLine)(res:Value){h1:Heap}
  (hR:∀h' tk acc c as,(∀b o,b≠S->b≠I->h1.get? b=some o->h'.get? b=some o)->h'.get? S=some ⟨.type "list",none,.seq acc c,#[]⟩->as.length=es.size->RawG es I h' as->acc.toList=as.map Value.ref->R (.ok (.ret res)) { s with heap:=h',toks:=tk }) :
  ∀(k i:Nat) (h:Heap) (tk c:Nat) (acc:Array Value) (as:List Addr),es.size - i=k->i<=es.size->J6 h I d i es.size ep->JF h d es ep->(∀b o,b≠S->b≠I->h1.get? b=some o->h.get? b=some o) ->
   h.get? S=some ⟨.type "list",none,.seq acc c,#[]⟩->acc.toList=as.map Value.ref->as.length=i->RawG es I h as->I<h.objs.size ->
   codeAny (model prog w) A (.builtin "list.extend.loop" ⟨[.ref S,.ref I,res],[]⟩) R { s with heap:=h,toks:=tk }
 | 0,i,h,tk,c,acc,as,hk,hi,it,D,kp,hS,ea,al,G,Is=>by
  refine codeAny_builtin PySem.F.entry_extend_loop ?_;rw[Around.under_plainId PySem.F.plain_extend_loop _];show wpAny _ A.in1 (pyNext (.ref I) >>= _) _ _ _
  refine wpAny_bind (zhU (s:={ s with heap:=h,toks:=tk }) (A:=A.in1) hA it D (Array.getElem?_eq_none (by lia)) fun h' x=>wpAny_pure ?_)
  refine hR h' tk acc c as (fun b o n1 n2 e=>x b o n2 (kp b o n1 n2 e)) (x S _ (Nat.ne_of_lt hSI) hS) (by lia) ⟨G.above,fun j a hj=>?_⟩ ea
  obtain⟨e,e1,e2⟩:=G.pairs j a hj;exact⟨e,e1,x a _ (Nat.ne_of_gt (G.above a (List.mem_of_getElem? hj))) e2⟩
 | k+1,i,h,tk,c,acc,as,hk,hi,it,D,kp,hS,ea,al,G,Is=>by
  have lt:i<es.size:=by lia
  have sa:acc.size=i:=by rw[<- Array.length_toList,ea,List.length_map,al]
  have ne:=Nat.ne_of_lt hSI;refine codeAny_builtin PySem.F.entry_extend_loop ?_;rw[Around.under_plainId PySem.F.plain_extend_loop _];show wpAny _ A.in1 (pyNext (.ref I) >>= _) _ _ _
  refine wpAny_bind (zgp (s:={ s with heap:=h,toks:=tk }) it D (Array.getElem?_eq_getElem lt) fun h' it' t' z' k'=>?_)
  dsimp only at t' z' k' ⊢;have S':=k' S _ ne hS;have lS:S<h.objs.size:=Heap.lt_size hS;obtain⟨u,eu⟩:∃u,u=h'.update S (Obj.mapSeq (·.push (Value.ref h.objs.size))):=⟨_,rfl⟩;have up:∀b o,b≠S->h'.get? b=some o->u.get? b=some o:=fun b o nb e=>by rw[eu];exact(Heap.get?_update_other _ _ (Ne.symm nb)).trans e
  obtain⟨c',Su⟩:∃c',u.get? S=some ⟨.type "list",none,.seq (acc.push (Value.ref h.objs.size)) c',#[]⟩:=⟨_,by rw[eu];exact Heap.get?_update_self (Obj.mapSeq (·.push (Value.ref h.objs.size))) S' rfl⟩
  show wpAny _ A.in1 (updateSeq S (·.push (Value.ref h.objs.size)) >>= _) _ _ _
  refine wpAny_bind (wpAny_updateSeq S' rfl (wpAny_pure ⟨plainId_quiet PySem.F.plain_extend_loop _,?_⟩) (by lia) (by rw[Array.size_push];lia))
  rw[<- eu];have tu:=up _ _ (Nat.ne_of_gt lS) t';refine zdZ hA hSI nS nI hn res hR k (i+1) u tk c' (acc.push (Value.ref h.objs.size)) (as++[h.objs.size]) (by lia) lt (it'.keep fun o e=>up I o (Ne.symm ne) e) (D.keep fun o e=>up d o nS (k' d o nI e)) (fun b o n1 n2 e=>up b o n1 (k' b o n2 (kp b o n1 n2 e))) Su ?_ (by simp[al]) ⟨?_,?_⟩ (Nat.lt_trans Is (Heap.lt_size tu))
  ·rw[Array.toList_push,ea,List.map_append];rfl
  ·intro a ha;rcases List.mem_append.mp ha with ha|ha
   ·exact G.above a ha
   ·cases List.mem_singleton.mp ha;exact Is
  ·intro j b hj;rcases Nat.lt_or_ge j as.length with z|z
   ·rw[List.getElem?_append_left z]at hj;obtain⟨e,e1,e2⟩:=G.pairs j b hj;have ab:=G.above b (List.mem_of_getElem? hj);exact⟨e,e1,up b _ (Nat.ne_of_gt (Nat.lt_trans hSI ab)) (k' b _ (Nat.ne_of_gt ab) e2)⟩
   ·rw[List.getElem?_append_right z]at hj;have:j - as.length=0:=by
     rcases Nat.eq_zero_or_pos (j - as.length) with y|y
     ·exact y
     ·rw[List.getElem?_eq_none (by simp;lia)]at hj;cases hj
    rw[this]at hj;cases hj;have:j=i:=by lia
    subst this;exact⟨_,Array.getElem?_eq_getElem lt,tu⟩
end
section
variable{prog:Program}{w:World}{A:Around}{E:qV}{s:Shared}
theorem zgq(hA:A.handled=none)(hv:s.heap.IsItemsView v d)(hm:JF s.heap d es ep)(hn:es.size<=sizeLine)(nv:S≠v)(nd:d≠S)(hS:s.heap.get? S=some ⟨.type "list",none,.seq #[] 0,#[]⟩)
  (h:∀h' tk acc c as,(∀b o,b≠S->s.heap.get? b=some o->h'.get? b=some o)->h'.get? S=some ⟨.type "list",none,.seq acc c,#[]⟩->as.length=es.size->RawG es s.heap.objs.size h' as->acc.toList=as.map Value.ref->R (.ok (.ret (.ref S))) { s with heap:=h',toks:=tk }) :
  codeAny (model prog w) A (.builtin "list.__iadd__" ⟨[.ref S,.ref v],[]⟩) R s:=by
 have lS:S<s.heap.objs.size:=Heap.lt_size hS;have ld:=hm.lt;obtain⟨ov,gv,cv,dv⟩:=id hv;refine codeAny_builtin entry_list_iadd' ?_;show wpAny (model prog w) _ (Builtin.List.listExtendWith (.ref S) (.ref v) (.ref S)) _ _ s
 rw[Around.under_plainId PySem.F.plain_list_iadd _];obtain⟨u,eu⟩:∃u,u=s.heap.push (itO .none false d 0 es.size ep .none .none):=⟨_,rfl⟩;have ui:u.get? s.heap.objs.size=some (itO .none false d 0 es.size ep .none .none):=by rw[eu];exact Heap.get?_push_size _ rfl
 have uk:∀b o,s.heap.get? b=some o->u.get? b=some o:=fun b o e=>by rw[eu];exact Heap.get?_push_of_some _ e
 have loop:∀(h:Heap) (c tk:Nat),(∀b o,b≠S->u.get? b=some o->h.get? b=some o)->h.get? S=some ⟨.type "list",none,.seq #[] c,#[]⟩->codeAny (model prog w) A (.builtin "list.extend.loop" ⟨[.ref S,.ref s.heap.objs.size,.ref S],[]⟩) R { s with heap:=h,toks:=tk }:=fun h1 c tk hk hS1=>by
  have I1:=hk _ _ (Nat.ne_of_gt lS) ui;exact zdZ (es:=es) (ep:=ep) (s:=s) (h1:=s.heap) hA lS nd (Nat.ne_of_lt ld) hn (.ref S) (fun h' tk' acc c as k' S' l' G' a'=>h h' tk' acc c as (fun b o nb e=>k' b o nb (Nat.ne_of_lt (Heap.lt_size e)) e) S' l' G' a') es.size 0 h1 tk c #[] [] (Nat.sub_zero _) (Nat.zero_le _)
   ⟨_,_,_,_,I1,.inl rfl⟩ (hm.keep fun o e=>hk d o nd (uk d o e)) (fun b o n1 _ e=>hk b o n1 (uk b o e)) hS1 rfl rfl ⟨(fun _ ha=>nomatch ha),(fun j a hj=>by simp at hj)⟩ (Heap.lt_size I1)
 unfold Builtin.List.listExtendWith;refine wpAny_bind (wpAny_typeOf (T:="dict_items") hv.typeIs ?_);have c1:Builtin.List.listSameRef (.ref S) (.ref v)=false:=by simp[Builtin.List.listSameRef,nv]
 have c2:(Value.type "dict_items" == Value.type "list" ||Value.type "dict_items" == Value.type "tuple")=false:=by decide
 rw[c1,Bool.false_or,c2,if_neg (by decide)]
 refine wpAny_bind (zgo hv hm ?_);rw[<- eu];have Su:=uk S _ hS;refine wpAny_bind (wpAny_holding (PySem.W.kdx_hint ⟨ov,uk v ov gv,cv⟩ ?_));refine wpAny_ite_split (fun _=>wpAny_bind (wpAny_rule (wpAny_bind ?_))) (fun _=>wpAny_pure ⟨plainId_quiet PySem.F.plain_extend_loop _,loop u 0 _ (fun b o _ e=>e) Su⟩)
 show wpAny _ _ (updateSeq S (·.push .none) >>= fun _=>updateSeq S (·.pop)) _ _ _
 refine wpAny_bind (wpAny_updateSeq Su rfl ?_);have S2:=Heap.get?_update_self (Obj.mapSeq (·.push Value.none)) Su rfl;refine wpAny_updateSeq (hz:=by seq_fits) S2 rfl ?_
 have S3:=Heap.get?_update_self (Obj.mapSeq (·.pop)) S2 rfl;refine wpAny_pure ⟨plainId_quiet PySem.F.plain_extend_loop _,loop _ _ _ (fun b o nb e=>?_) S3⟩
 rw[Heap.get?_update_other _ _ (Ne.symm nb),Heap.get?_update_other _ _ (Ne.symm nb)];exact e
theorem zdt(hA:A.handled=none)(hv:s.heap.IsItemsView v d)(hm:JF s.heap d es ep)(hn:es.size<=sizeLine)
  (h:∀h' tk (as:List Addr),(∀b o,s.heap.get? b=some o->h'.get? b=some o)->s.heap.objs.size<=h'.objs.size->as.length=es.size->RawG es s.heap.objs.size h' as->Q (as.map Value.ref) { s with heap:=h',toks:=tk }):wpAny (model prog w) A (collect (.ref v)) Q E s:=by
 unfold collect;refine wpAny_bind (wpAny_runValue (codeAny_builtin entry_proto_collect' ?_));show wpAny (model prog w) _ (newList [] >>= fun x=>again (.builtin "list.__iadd__" ⟨[x,.ref v],[]⟩)) _ _ s
 have ld:=hm.lt;obtain⟨ov,gv,cv,dv⟩:=id hv;have lv:=Heap.lt_size gv;refine wpAny_bind (wpAny_newList (wpAny_pure ⟨Code.quiet_builtin _ (by decide +kernel),?_⟩))
 refine zgq (es:=es) (ep:=ep) (d:=d) hA ⟨ov,Heap.get?_push_of_some _ gv,cv,dv⟩ (hm.keep fun o e=>Heap.get?_push_of_some _ e) hn (Nat.ne_of_gt lv) (Nat.ne_of_lt ld) (Heap.get?_push_size _ rfl) fun h' tk acc c as kp hS l G ea=>?_
 refine wpAny_bind (m:=load s.heap.objs.size) (wpAny_load hS ?_);show wpAny (model prog w) A (pure acc.toList) Q E _
 rw[ea];refine wpAny_pure (h h' tk as (fun b o e=>kp b o (Nat.ne_of_lt (Heap.lt_size e)) (Heap.get?_push_of_some _ e)) (Nat.le_of_lt (Heap.lt_size hS)) l ⟨fun a ha=>?_,G.pairs⟩)
 have:=G.above a ha;dsimp only at this;rw[Heap.size_push]at this;exact Nat.lt_of_succ_lt this
end
section
variable{prog:Program}{w:World}{A:Around}{E:qV}{s:Shared}
def RlIn(h:Heap)(u:Value)(r:(Int×Int)×Int):Prop:=∃(a p:Addr) (o:Obj) (t:Tok) (n:Nat),u=.ref a/\h.get? a=some o/\o.cls=.type "tuple" /\ o.data=.seq #[.ref p,.int r.2 t] n/\PrIn h (.ref p) r.1.1 r.1.2
def rkL:List Value->Heap->Int
 | [p,.int s _],h=>rkC h p*2+s
 | _,_=>0
def rkR(h:Heap)(u:Value):Int:=match u with
 | .ref a=>match h.get? a with
  | some o=>match o.data with
   | .seq xs _=>rkL xs.toList h
   | _=>0
  | none=>0
 | _=>0
def rkn(r:(Int×Int)×Int):Int:=(r.1.1*1000+r.1.2)*2+r.2
theorem RlIn.rk{h:Heap}{u:Value}{r:(Int×Int)×Int}(p:RlIn h u r):rkR h u=rkn r:=by
 obtain⟨a,q,o,t,n,rfl,e1,_,e2,e3⟩:=p;simp only[rkR,e1,e2,rkL,e3.rk,rkn]
theorem RlIn.kept{h h':Heap}{u:Value}{r:(Int×Int)×Int}(p:RlIn h u r)(kp:∀b o,h.get? b=some o->h'.get? b=some o):RlIn h' u r:=by
 obtain⟨a,q,o,t,n,e0,e1,e2,e3,e4⟩:=p;exact⟨a,q,o,t,n,e0,kp _ _ e1,e2,e3,e4.kept kp⟩
theorem PrIn.tk{h:Heap}{p:Addr}{b k:Int}(x:PrIn h (.ref p) b k):IsTupleKey (Jy prog w) h [.inl b,.inl k] p:=by
 obtain⟨a,o,t,t',n,e0,e1,e2,e3⟩:=x;cases e0;exact⟨o,_,n,e1,e2,e3,.cons (zb0 b t) (.cons (zb0 k t') .nil)⟩
theorem ziM{p q:Addr}{b k b' k':Int}(hu:A.units<cLine)(x:PrIn s.heap (.ref p) b k)(y:PrIn s.heap (.ref q) b' k'):SeqAt.EqAt A s (.ref p) (.ref q) (decide (b=b'/\k=k')):=fun prog w E Q h=>by
 refine wpAny_eqBool_tuple (knd:=Jy prog w) hu x.tk y.tk ?_;have:decide (([Sum.inl b,Sum.inl k]:List Key)=[Sum.inl b',Sum.inl k'])=decide (b=b'/\k=k'):=by
  rw[decide_eq_decide];constructor
  ·intro z;cases z;exact⟨rfl,rfl⟩
  ·rintro⟨rfl,rfl⟩;rfl
 rw[this];exact h
theorem zio{p q:Addr}{b k b' k':Int}(hu:A.units<cLine)(x:PrIn s.heap (.ref p) b k)(y:PrIn s.heap (.ref q) b' k'):LtAt prog w A s false (.ref p) (.ref q) (HT.lexLt [b,k] [b',k']):=fun E Q h=>by
 obtain⟨a,o,t,t',n,e0,e1,e2,e3⟩:=x;obtain⟨a',o',u,u',n',f0,f1,f2,f3⟩:=y;cases e0;cases f0;rw[oneLt'_eq];simp only[Bool.false_eq_true,if_false];refine wpAny_bind (show wpAny (model prog w) A (compareOp .Lt (.ref p) (.ref q)) _ E s from HT.zbs ⟨o,e1,e2,n,e3⟩ ⟨o',f1,f2,n',f3⟩ (.cons _ _ (.cons _ _ .nil)) (.cons _ _ (.cons _ _ .nil)) hu ?_)
 exact wpAny_truthy_bool h
theorem zeF{vs:List Value}{Q:SortKind->Shared->Prop}(h1:1<=vs.length)(hp:∀v∈vs,∃r,RlIn s.heap v r)(h:Q (tuples' false) s):wpAny (model prog w) A (keyKind' vs.toArray) Q E s:=by
 rw[keyKind'_eq,List.mapM_toArray,map_eq_pure_bind];refine wpAny_bind (wpAny_bind (zcG (P:=fun _ r=>∃(p:Addr) (o:Obj),r=some (.ref p)/\s.heap.get? p=some o/\o.cls=.type "tuple") vs (fun v hv Q' hq=>?_) fun rs hrs=>wpAny_pure ?_))
 ·obtain⟨r,a,p,o,t,n,rfl,e1,e2,e3,a',o',t1,t2,n',e4,e5,e6,e7⟩:=hp v hv;cases e4;rw[zg2];refine wpAny_bind (wpAny_typeOf (T:="tuple") ⟨o,e1,e2⟩ ?_);rw[if_neg (by decide)]
  exact wpAny_bind (listItems_at e1 e3 (wpAny_pure (hq _ ⟨p,o',rfl,e5,e6⟩)))
 ·have al:∀r∈rs,∃(p:Addr) (o:Obj),r=some (.ref p)/\s.heap.get? p=some o/\o.cls=.type "tuple":=fun r hr=>by
   obtain⟨_,_,h⟩:=UN hrs hr;exact h
  have ln:rs.length=vs.length:=(Paired.length hrs).symm;have hall:(rs.toArray.all fun x=>x.isSome)=true:=by
   rw[List.all_toArray,List.all_eq_true];intro x hx;obtain⟨p,o,rfl,_⟩:=al x hx
   rfl
  rw[if_pos hall];refine wpAny_bind (wpAny_rule ?_);rw[oneTypeOnly'_eq];have hfm:rs.toArray.filterMap id=(rs.filterMap id).toArray:=by simp
  rw[hfm,List.mapM_toArray,map_eq_pure_bind];refine wpAny_bind (wpAny_bind (wpAny_bind (zcG (P:=fun _ r=>r=Value.type "tuple") _ (fun v hv Q' hq=>?_) fun ts hts=>wpAny_pure ?_)))
  ·obtain⟨x,hx,e⟩:=List.mem_filterMap.mp hv;obtain⟨p,o,rfl,g,c⟩:=al x hx;cases e;exact wpAny_typeOf (T:="tuple") ⟨o,g,c⟩ (hq _ rfl)
  ·have al2:∀r∈ts,r=Value.type "tuple":=fun r hr=>by
    obtain⟨_,_,h⟩:=UN hts hr;exact h
   cases ts with
   | nil=>exact wpAny_pure (wpAny_pure h)
   | cons r1 rr =>
    have e1:r1=Value.type "tuple":=al2 r1 (.head _);subst e1;have hall2:(((Value.type "tuple")::rr).toArray.all fun x=>x == Value.type "tuple")=true:=by
     rw[List.all_toArray,List.all_eq_true];intro x hx;rw[al2 x hx];rfl
    have h0:((Value.type "tuple")::rr).toArray[0]?=some (Value.type "tuple"):=by simp
    rw[h0];simp only[hall2,if_true];refine wpAny_pure (wpAny_pure ?_);exact h
theorem ziq{a b c d:Int}:HT.lexLt [a,b] [c,d]=decide (a<c\/(a=c/\b<d)):=by
 have e:HT.lexLt [a,b] [c,d]=if a=c then(if b=d then false else decide (b<d)) else decide (a<c):=rfl
 rw[e];split
 ·rename_i h;subst h;split
  ·symm;rw[decide_eq_false_iff_not];lia
  ·rw[decide_eq_decide];lia
 ·rw[decide_eq_decide];lia
theorem zdA{vs:List Value}{h0:Heap}(hu:A.units<cLine)(hp:∀v∈vs,∃r,RlIn s.heap v r/\rkR h0 v=rkn r/\0<=r.1.2/\r.1.2<1000/\0<=r.2/\r.2<=1):Kinds prog w A s (rkR h0) vs:=fun h2=>by
 refine⟨tuples' false,fun E Q q=>zeF (by lia) (fun v hv=>?_) q,fun p q E Q mp mq h=>?_⟩
 ·obtain⟨r,h,_⟩:=hp v hv;exact⟨r,h⟩
 ·have mem:∀z∈(pairsOf vs).toList,z.1∈vs:=fun z hz=>by
   have:z∈vs.zip vs:=by simpa[pairsOf] using hz
   exact(List.of_mem_zip this).1
  obtain⟨⟨⟨b,k⟩,g⟩,⟨a,x,o,t,n,e0,e1,e2,e3,e4⟩,r1,k0,k1,g0,g1⟩:=hp _ (mem p mp);obtain⟨⟨⟨b',k'⟩,g'⟩,⟨a',x',o',t',n',f0,f1,f2,f3,f4⟩,r2,k0',k1',g0',g1'⟩:=hp _ (mem q mq);rw[r1,r2]at h;rw[e0,f0];refine zfC e1 e3 f1 f3 (ziM hu e4 f4) (SeqAt.EqAt.int_int g t g' t') (fun _=>zio hu e4 f4) (fun _=>zgF g g' t t') ?_
  have lx:HT.lexLt [b,k] [b',k']=decide (b<b'\/(b=b'/\k<k')):=ziq;have n1:rkn ((b,k),g)=(b*1000+k)*2+g:=rfl;have n2:rkn ((b',k'),g')=(b'*1000+k')*2+g':=rfl;have:(if decide (b=b'/\k=k')=true then(if (g == g')=true then false else decide (g<g')) else HT.lexLt [b,k] [b',k'])=decide (rkn ((b,k),g)<rkn ((b',k'),g')):=by
   rw[lx];simp only[beq_iff_eq,decide_eq_true_eq];dsimp only at k0 k1 k0' k1' g0 g1 g0' g1';split
   ·split
    ·symm;rw[decide_eq_false_iff_not];lia
    ·rw[decide_eq_decide];lia
   ·rw[decide_eq_decide];lia
  rw[this];exact h
end
theorem zgm{α:Type}{P:α->Value->Prop}{rk:Value->Int}{f:α->Int}{vs:List Value}{as:List α}{y:SortSt}(hv:Paired P as vs)(hr:∀a v,P a v->rk v=f a)(pm:(arrOf y).Perm (pairsOf vs))(up:Up rk (arrOf y) vs.length) :
  ∃bs:List α,bs.Perm as/\bs.Pairwise (fun a b=>f a<=f b)/\Paired P bs ((arrOf y).map (·.2)).toList:=by
 have pml:(arrOf y).toList.Perm (vs.zip vs):=by
  have:=Array.perm_iff_toList_perm.mp pm;simpa[pairsOf] using this
 have hl:as.length=vs.length:=Paired.length hv;have each:∀x∈as.zip vs,P x.1 x.2:=by
  clear pm up pml hl;induction hv with
  | nil=>intro x hx;simp at hx
  | cons h t ih =>
   intro x hx;rcases List.mem_cons.mp (by simpa using hx) with rfl|hx
   ·exact h
   ·exact ih x hx
 have pm1:((arrOf y).toList.map (·.2)).Perm ((as.zip vs).map (·.2)):=by
  refine(pml.map _).trans ?_;rw[List.map_snd_zip (Nat.le_refl _),List.map_snd_zip (by lia)]
 obtain⟨ws,p1,p2⟩:=zcA pm1;have eachw:∀x∈ws,P x.1 x.2:=fun x hx=>each x (p1.mem_iff.mp hx)
 have fst_snd:∀z∈(arrOf y).toList,z.1=z.2:=fun z hz=>by
  have:z∈vs.zip vs:=pml.mem_iff.mp hz;obtain⟨i,hi,rfl⟩:=List.getElem_of_mem this;simp
 have szy:(arrOf y).size=vs.length:=by
  have:=pml.length_eq;simpa using this
 refine⟨ws.map (·.1),?_,?_,?_⟩
 ·have:=p1.map (·.1)
  rwa [List.map_fst_zip (by lia)]at this
 ·rw[List.pairwise_map,List.pairwise_iff_getElem];intro i j hi hj hij;have lw:ws.length=vs.length:=by
   have:=congrArg List.length p2;simpa[szy] using this
  have gw:∀k (hk:k<ws.length),rkAt rk (arrOf y) k=f ws[k].1:=fun k hk=>by
   have hk':k<(arrOf y).size:=by lia
   have e1:(arrOf y).toList[k]'(by simpa using hk')=(arrOf y)[k]:=by simp
   have e2:ws[k].2=(arrOf y)[k].2:=by
    have:(ws.map (·.2))[k]'(by simpa using hk)=((arrOf y).toList.map (·.2))[k]'(by simpa using hk'):=by simp only[p2]
    simpa using this
   have e3:(arrOf y)[k].1=(arrOf y)[k].2:=fst_snd _ (by rw[<- e1];exact List.getElem_mem _)
   unfold rkAt;rw[Array.getElem?_eq_getElem hk'];simp only[Option.map_some,Option.getD_some];rw[e3,<- e2];exact hr _ _ (eachw _ (List.getElem_mem _))
  have:=up i j hij (by lia)
  rwa [gw i hi,gw j hj]at this
 ·rw[Array.toList_map,<- p2];clear p1 p2 pm1 pm up;induction ws with
  | nil=>exact .nil
  | cons a l ih=>exact .cons (eachw a (.head _)) (ih fun x hx=>eachw x (.tail _ hx))
def QJ:Value->V
 | .none=>.non
 | .bool b=>.bl b
 | .int i _=>.int i
 | .str x _=>.str x
 | .bytes b _=>.byt b
 | .float b _=>.flt b
 | .ref a=>.ref a
 | .type n=>.ty n
 | _=>.non
theorem zdY{v:V}{u:Value}(h:RelV v u):QJ u=v:=by
 cases v with
 | non=>cases(show u=_ from h);rfl
 | bl b=>cases(show u=_ from h);rfl
 | int i=>obtain⟨t,rfl⟩:=(show ∃t,u=_ from h);rfl
 | str i=>obtain⟨t,rfl⟩:=(show ∃t,u=_ from h);rfl
 | byt i=>obtain⟨t,rfl⟩:=(show ∃t,u=_ from h);rfl
 | flt i=>obtain⟨t,rfl⟩:=(show ∃t,u=_ from h);rfl
 | ref a=>cases(show u=_ from h);rfl
 | ty n=>cases(show u=_ from h);rfl
section
variable{X:Cx}{pins:qO}{σ:St}{H:Hp}{s:Shared}
def layT(h':Heap)(n:Nat)(as:List Addr)(H:Hp):Hp:=fun b=>if n<=b/\b∈as then(match h'.get? b with|some o=>(match o.data with|.seq its _=>some (.tup (its.toList.map QJ))|_=>none)|none=>none) else H b
theorem zd8{h':Heap}{n:Nat}{as:List Addr}{H:Hp}{b:Addr}(h:b<n):layT h' n as H b=H b:=by
 unfold layT;rw[if_neg (fun z=>absurd z.1 (Nat.not_le.mpr h))]
theorem Inv.lays{h':Heap}{t':Nat}{as:List Addr}{l:Addr}{vs:List V}(I:Inv X pins σ H s)(k:∀b u,s.heap.get? b=some u->h'.get? b=some u)
  (new:∀a∈as,s.heap.objs.size<=a->∃(xs:List V) (its:List Value) (n:Nat),h'.get? a=some ⟨.type "tuple",none,.seq its.toArray n,#[]⟩/\Vals xs its/\xs.length<=sizeLine) (hl:s.heap.objs.size<=l)
  (nl:vs.length<=sizeLine/\∃(its:List Value) (n:Nat),Vals vs its/\h'.get? l=some (seqObj "list" its.toArray n)) :
  Inv X pins σ (upd (layT h' s.heap.objs.size as H) l (.lst vs)) { s with heap:=h',toks:=t' }:=by
 have old:∀b,b<s.heap.objs.size->upd (layT h' s.heap.objs.size as H) l (.lst vs) b=H b:=fun b hb=>by rw[Ja (Nat.ne_of_lt (Nat.lt_of_lt_of_le hb hl))];exact zd8 hb
 have keep:∀b o,H b=some o->upd (layT h' s.heap.objs.size as H) l (.lst vs) b=some o:=fun b o e=>by rw[old b ((I.hok b o e).lt)];exact e
 refine I.un ⟨fun b u q _ _ _=>k b u q,fun b u q _ _ _=>⟨u.slots,k b u q⟩,fun b u q n _=>by rw[old b (Heap.lt_size q)];exact n,fun b u q _=>⟨u,k b u q⟩,fun b xs q=>keep b _ q,fun b o u q=>keep b _ q,fun b ps q=>keep b _ q⟩ ?_
 intro b o e
 by_cases y:b=l
 ·subst y;rw[Jn]at e;cases e;obtain⟨z,its,n,r,g⟩:=nl;exact⟨z,its,n,r,g⟩
 rw[Ja y]at e
 by_cases z:s.heap.objs.size<=b/\b∈as
 ·obtain⟨xs,its,n,g,r,l⟩:=new b z.2 z.1;have:layT h' s.heap.objs.size as H b=some (.tup (its.map QJ)):=by
   unfold layT;rw[if_pos z,g]
  rw[this]at e;cases e;have em:its.map QJ=xs:=by
   clear g l this;induction r with
   | nil=>rfl
   | cons h t ih=>rw[List.map_cons,ih,zdY h]
  rw[em];exact⟨l,its,r,_,g,rfl,⟨n,rfl⟩,rfl⟩
 ·have e':H b=some o:=by
   have:layT h' s.heap.objs.size as H b=H b:=by unfold layT;rw[if_neg z]
   rw[<- this];exact e
  exact(I.hok b o e').stay (fun c u _ q=>k c u q) (fun c q=>keep c _ q) (fun c xs q=>keep c _ q) fun c ob xs q=>keep c _ q
end
section
variable{prog:Program}{w:World}{A:Around}{E:qV}{s:Shared}{rk:Value->Int}
theorem zdz{h:Heap}{vs:List Value}{b:Addr}{o:Obj}(hb:h.get? b=some o):(midH (h.push (seqObj "list" vs.toArray 0)) h.objs.size vs).get? b=some o:=by
 have hlt:b<h.objs.size:=Heap.lt_size hb;unfold midH;rw[Heap.get?_push_ne _ _ _ (by rw[size_push',Heap.size_update,size_push'];lia),Heap.get?_push_ne _ _ _ (by rw[Heap.size_update,size_push'];lia),Heap.get?_update_ne _ _ _ _ (Nat.ne_of_lt hlt),Heap.get?_push_ne _ _ _ (Nat.ne_of_lt hlt)]
 exact hb
theorem ze5{vs:List Value}{P:qV}(h64:vs.length<64)(hk:Kinds prog w A { s with heap:=midH (s.heap.push (seqObj "list" vs.toArray 0)) s.heap.objs.size vs } rk vs)
  (h:∀h' (y:SortSt) (e:Nat),(∀b o,s.heap.get? b=some o->h'.get? b=some o)->(arrOf y).Perm (pairsOf vs)->Up rk (arrOf y) vs.length->h'.get? s.heap.objs.size=some (seqObj "list" ((arrOf y).map (·.2)) e)->P .none { s with heap:=h' }) :
  wpAny (model prog w) A (Builtin.«list.sort» ⟨[.ref s.heap.objs.size],[]⟩) (fun f s'=>∃v,f=.done (.ret v)/\P v s') E { s with heap:=s.heap.push (seqObj "list" vs.toArray 0) }:=by
 have o3:(s.heap.push (seqObj "list" vs.toArray 0)).get? s.heap.objs.size=some (seqObj "list" vs.toArray 0):=Heap.get?_push_size _ rfl;refine zgG (s:={ s with heap:=s.heap.push (seqObj "list" vs.toArray 0) }) o3 h64 hk fun y p1 p2=>⟨_,rfl,?_⟩
 obtain⟨e,he⟩:=sortedHeap_at (out:=(arrOf y).map (·.2)) o3;refine h _ y e (fun b o hb=>?_) p1 p2 he
 have lt:=Heap.lt_size hb;rw[sortedHeap_old (Nat.ne_of_lt lt) (by rw[size_push'];exact Nat.lt_succ_of_lt lt),Heap.get?_push_ne _ _ _ (Nat.ne_of_lt lt)]
 exact hb
end
section
variable{prog:Program}{w:World}{A:Around}{E:qV}{s:Shared}{rk:Heap->Value->Int}
theorem zes{x:Value}{C:Heap->Nat->List Value->Prop}{Q:qV}(hcol:∀(A':Around) (E':qV) (Q':List Value->Shared->Prop),A'.handled=A.handled->(∀h' tk vs,C h' tk vs->Q' vs { s with heap:=h',toks:=tk })->wpAny (model prog w) A' (collect x) Q' E' s)
  (h64:∀h' tk vs,C h' tk vs->vs.length<64)
  (hk:∀h' tk vs (A':Around),C h' tk vs->A'.units<=A.units+16->Kinds prog w A' { s with heap:=midH (h'.push (seqObj "list" vs.toArray 0)) h'.objs.size vs,toks:=tk } (rk h') vs)
  (h:∀h' tk vs h2 (y:SortSt) (e:Nat),C h' tk vs->(∀b o,h'.get? b=some o->h2.get? b=some o)->(arrOf y).Perm (pairsOf vs)->Up (rk h') (arrOf y) vs.length->h2.get? h'.objs.size=some (seqObj "list" ((arrOf y).map (·.2)) e)->Q (.ref h'.objs.size) { s with heap:=h2,toks:=tk }) :
  wpAny (model prog w) A (call (.builtin "sorted") [x]) Q E s:=by
 have hs:64<=sizeLine:=by decide
 refine Calls.call_function_entry kind_sorted plain_sorted entry_sorted (args_sorted1 _) ?_;unfold Builtin.«sorted»;refine wpAny_bind (m:=checkCount "sorted" 1 1 _) (wpAny_pure (wpAny_bind (hcol _ _ _ rfl fun h' tk vs c=>?_)))
 have l64:=h64 h' tk vs c;refine wpAny_bind (wpAny_newList (hsz:=by show vs.toArray.size<=_;rw[List.size_toArray];lia) ?_)
 have o3:(h'.push (seqObj "list" vs.toArray 0)).get? h'.objs.size=some (seqObj "list" vs.toArray 0):=Heap.get?_push_size _ rfl;refine wpAny_bind (wpAny_holding (wpAny_call_entry slot_list_sort ⟨_,o3,rfl⟩ entry_list_sort ?_ (args_list_sort _)));refine ze5 (s:={ s with heap:=h',toks:=tk }) l64 (hk h' tk vs _ c (by show A.units+1+1<=_;lia)) fun h2 y e kp p1 p2 he=>?_
 exact wpAny_pure ⟨_,rfl,h h' tk vs h2 y e c kp p1 p2 he⟩
end
def VWO(v a:Addr):HO:=.ext fun h=>h.get? v=some ⟨.type "dict_items",none,.fields #[.ref a],#[]⟩
def zR(z:(Int×Int)×Addr×V):(Int×Int)×Int:=(z.1,match z.2.2 with|.int s=>s|_=>0)
def ZRl(K:qF)(H:Hp)(z:(Int×Int)×Addr×V):Prop:=SqT K H z.2.1 [.int z.1.1,.int z.1.2]/\0<=z.1.2/\z.1.2<1000/\∃s,z.2.2=.int s/\0<=s/\s<=1
section
variable{X:Cx}
theorem zjr{pins:qO}{σ:St}{H:Hp}{s:Shared}{q:Addr}{b k:Int}(I:Inv X pins σ H s)(h:SqT X.K H q [.int b,.int k]):PrIn s.heap (.ref q) b k:=by
 obtain⟨is,rs,⟨o,f1,f2,n,f3⟩,_⟩:=I.tuple h;cases rs with
 | cons a1 a2 =>
  cases a2 with
  | cons a3 a4 =>
   cases a4;obtain⟨t,rfl⟩:=a1;obtain⟨t',rfl⟩:=a3;exact⟨q,o,t,t',n,rfl,f1,f2,f3⟩
theorem zdj(hc:X.calm=true)(hu:X.A.units+64<cLine):Jw X (.builtin "sorted") (fun xs H Q=>∃(v a:Addr) (zs:ZT) (ep:Nat),xs=[.ref v]/\H v=some (VWO v a)/\H a=some (ZDO a zs ep)/\zs.length<64/\(∀z∈zs,ZRl X.K H z) /\
  ∀(ws:List (((Int×Int)×Addr×V)×Addr)) (l:Addr) (H':Hp),(ws.map (·.1)).Perm zs->ws.Pairwise (fun a b=>rkn (zR a.1)<=rkn (zR b.1))->Same H H'->H l=none->(∀x∈ws,H x.2=none/\H' x.2=some (.tup [.ref x.1.2.1,x.1.2.2]))->H' l=some (.lst (ws.map fun x=>.ref x.2))->Q (.ref l) H'):=by
 intro pins s σ H xs us Q I r h;obtain⟨v,a,zs,ep,rfl,hv,ha,hz,hr,q⟩:=h;obtain⟨u,rfl,ru⟩:=r.one;cases(show u=Value.ref v from ru)
 obtain⟨gv,_⟩:=I.hok v _ hv;obtain⟨⟨hs,lz,nd,o,es,g1,g2,g3,pr⟩,_⟩:=I.hok a _ ha;have el:es.size=zs.length:=by have:=Paired.length pr;simpa using this.symm
 have cell:∀(h':Heap) (as:List Addr) (d:Nat),(∀b o,s.heap.get? b=some o->h'.get? b=some o)->as.length=es.size->RawG es d h' as->Paired (fun(x:((Int×Int)×Addr×V)×Addr) (u:Value)=>u=.ref x.2/\ZRl X.K H x.1/\d<x.2/\RlIn h' u (zR x.1)/\∃w,h'.get? x.2=some ⟨.type "tuple",none,.seq #[.ref x.1.2.1,w] 0,#[]⟩/\RelV x.1.2.2 w) (zs.zip as) (as.map Value.ref):=fun h' as d kp l G=>by
  refine zbX (by simp;lia) fun j x u hx hu=>?_
  obtain⟨x1,x2⟩:=List.getElem?_zip_eq_some.mp hx;rw[List.getElem?_map,x2]at hu;cases hu;obtain⟨e,e1,e2⟩:=G.pairs j _ x2;have jl:j<zs.length:=(List.getElem?_eq_some_iff.mp x1).1;have ez:entZ x.1 e:=by
   have key:∀{l:ZT} {m:List DictEntry},Paired entZ l m->∀(j:Nat) z e,l[j]?=some z->m[j]?=some e->entZ z e:=by
    intro l m p;induction p with
    | nil=>intro j z e h;simp at h
    | cons h t ih =>
     intro j z e h1 h2;cases j with
     | zero=>cases h1;cases h2;exact h
     | succ j=>exact ih j z e (by simpa using h1) (by simpa using h2)
   exact key pr j _ _ x1 (by simpa using e1)
  have zr:=hr x.1 (List.mem_of_getElem? x1);obtain⟨sq,k0,k1,sg,es',s0,s1⟩:=id zr;obtain⟨_,ek,ev⟩:=ez;rw[ek]at e2;refine⟨rfl,zr,G.above _ (List.mem_of_getElem? x2),?_,e.val,e2,ev⟩;rw[es']at ev;obtain⟨t,et⟩:=ev;rw[et]at e2;refine⟨x.2,x.1.2.1,_,t,0,rfl,e2,rfl,?_,(zjr I sq).kept kp⟩;unfold zR;rw[es']
 refine zes (A:=X.A) (x:=.ref v) (rk:=rkR) (C:=fun h' tk vs=>∃as,vs=as.map Value.ref/\(∀b o,s.heap.get? b=some o->h'.get? b=some o)/\s.heap.objs.size<=h'.objs.size/\as.length=es.size/\RawG es s.heap.objs.size h' as) ?_ ?_ ?_ ?_
 ·intro A' E' Q' hA hq;exact zdt (es:=es) (ep:=ep) (hA.trans (I.ok.hd hc)) ⟨_,gv,rfl,rfl⟩ ⟨o,g1,g2,g3⟩ (by rw[el];exact lz) fun h' tk as kp sz l G=>hq h' tk _ ⟨as,rfl,kp,sz,l,G⟩
 ·rintro h' tk vs ⟨as,rfl,kp,sz,l,G⟩;rw[List.length_map,l,el];exact hz
 ·rintro h' tk vs A' ⟨as,rfl,kp,sz,l,G⟩ hA';refine zdA (by lia) fun u hu=>?_
  obtain⟨x,_,_,⟨_,k0,k1,sg,es',s0,s1⟩,_,rl,_⟩:=UN (cell h' as _ kp l G) hu;refine⟨zR x.1,rl.kept fun b o e=>zdz e,rl.rk,k0,k1,?_⟩
  unfold zR;rw[es'];exact⟨s0,s1⟩
 ·rintro h' tk vs h2 y e ⟨as,rfl,kp,sz,l,G⟩ kp2 pm up he;obtain⟨ws,p1,p2,p3⟩:=zgm (f:=fun x=>rkn (zR x.1)) (cell h' as _ kp l G) (fun x u hx=>hx.2.2.2.1.rk) pm up
  have lw:(ws.map (·.1)).Perm zs:=by
   have:=p1.map (·.1)
   rwa [List.map_fst_zip (by lia)]at this
  have each:∀x∈ws,ZRl X.K H x.1/\s.heap.objs.size<x.2/\∃w,h'.get? x.2=some ⟨.type "tuple",none,.seq #[.ref x.1.2.1,w] 0,#[]⟩/\RelV x.1.2.2 w:=fun x hx=>by
   obtain⟨u,_,_,h1,h2,_,h3⟩:=zew p3 hx;exact⟨h1,h2,h3⟩
  have ev:((arrOf y).map (·.2)).toList=ws.map fun x=>Value.ref x.2:=by
   have:∀{l:List (((Int×Int)×Addr×V)×Addr)} {m:List Value},Paired (fun(x:((Int×Int)×Addr×V)×Addr) (u:Value)=>u=.ref x.2/\ZRl X.K H x.1/\s.heap.objs.size<x.2/\RlIn h' u (zR x.1)/\∃w,h'.get? x.2=some ⟨.type "tuple",none,.seq #[.ref x.1.2.1,w] 0,#[]⟩/\RelV x.1.2.2 w) l m->m=l.map fun x=>Value.ref x.2:=by
    intro l m p;induction p with
    | nil=>rfl
    | cons h t ih=>rw[List.map_cons,<- ih,h.1]
   exact this p3
  have lh:∀x∈ws,x.2<h'.objs.size:=fun x hx=>by
   obtain⟨_,_,w,g,_⟩:=each x hx;exact Heap.lt_size g
  have two:∀a b:V,[a,b].length<=sizeLine:=fun _ _=>by show 2<=sizeLine;decide
  have I1:=I.lays (t':=tk) (h':=h2) (as:=ws.map (·.2)) (l:=h'.objs.size) (vs:=ws.map fun x=>V.ref x.2) (fun b o hb=>kp2 b o (kp b o hb)) (fun b hb _=>by
   obtain⟨x,hx,rfl⟩:=List.mem_map.mp hb;obtain⟨_,_,w,g,rw'⟩:=each x hx;exact⟨[.ref x.1.2.1,x.1.2.2],[.ref x.1.2.1,w],0,kp2 _ _ g,.cons rfl (.cons rw' .nil),two _ _⟩) sz ⟨by
    have a1:=lw.length_eq;have a2:64<=sizeLine:=by decide
    rw[List.length_map]at a1 ⊢;lia,ws.map (fun x=>Value.ref x.2),e,by
     clear ev he p3 p2 p1 lw each lh;induction ws with
     | nil=>exact .nil
     | cons x ws ih=>exact .cons rfl ih,by rw[he,<- ev]⟩
  refine⟨.ref h'.objs.size,_,I1,rfl,q ws _ _ lw p2 (fun b o hb=>?_) (I.hok.fresh sz) (fun x hx=>⟨I.hok.fresh (Nat.le_of_lt (each x hx).2.1),?_⟩) Jn⟩
  ·have lt:=(I.hok b o hb).lt;rw[Ja (Nat.ne_of_lt (Nat.lt_of_lt_of_le lt sz)),zd8 lt];exact hb
  ·obtain⟨_,h1,w,g,rw'⟩:=each x hx;rw[Ja (Nat.ne_of_lt (lh x hx))];unfold layT;rw[if_pos ⟨Nat.le_of_lt h1,List.mem_map_of_mem hx⟩,kp2 _ _ g];show some (HO.tup [.ref x.1.2.1,QJ w])=_
   rw[zdY rw']
end
def zput(zs:ZT)(k:Int×Int)(b:Addr)(v:V):ZT:=if (zs.any fun z=>decide (z.1=k))=true then zs.map (fun z=>if z.1=k then(z.1,z.2.1,v) else z) else zs++[(k,b,v)]
def putT(ks:KT2)(k:Int×Int)(t:PyData):KT2:=if (ks.any fun z=>decide (z.1=k))=true then ks.map (fun z=>if z.1=k then(z.1,t) else z) else ks++[(k,t)]
def kL(k:Int×Int):List Key:=[.inl k.1,.inl k.2]
theorem zfF{k k':Int×Int}:kL k=kL k'↔k=k':=by
 constructor
 ·intro h;unfold kL at h
  injection h with h1 h2
  injection h2 with h2 _
  injection h1 with h1
  injection h2 with h2
  exact Prod.ext h1 h2
 ·rintro rfl;rfl
def ZX(z:(Int×Int)×Addr×V)(x:List Key×Addr×Value):Prop:=x.1=kL z.1/\x.2.1=z.2.1/\RelV z.2.2 x.2.2
theorem zjg{zs:ZT}{xs:List (List Key×Addr×Value)}(r:Paired ZX zs xs)(k:Int×Int):(atKey xs (kL k)).isSome=zs.any fun z=>decide (z.1=k):=by
 induction r with
 | nil=>rfl
 | @cons z x zs xs h t ih =>
  by_cases e:z.1=k
  ·have:x.1=kL k:=by rw[h.1,e]
   simp[atKey,List.find?_cons,this,e]
  ·have:¬x.1=kL k:=fun z'=>e (zfF.mp (h.1.symm.trans z'))
   have e2:atKey (x::xs) (kL k)=atKey xs (kL k):=by simp[atKey,List.find?_cons,this]
   rw[e2,ih,List.any_cons,decide_eq_false e,Bool.false_or]
theorem zjf{zs:ZT}{xs:List (List Key×Addr×Value)}(r:Paired ZX zs xs)(k:Int×Int){b:Addr}{v:V}{u:Value}(rv:RelV v u):Paired ZX (zput zs k b v) (storedH xs (kL k) b u):=by
 unfold zput storedH;rw[zjg r k]
 by_cases e:(zs.any fun z=>decide (z.1=k))=true
 ·rw[if_pos e,if_pos e];clear e;induction r with
  | nil=>exact .nil
  | @cons z x zs xs h t ih =>
   refine .cons ?_ ih;unfold putAt;dsimp only
   by_cases e:z.1=k
   ·rw[if_pos e,if_pos (by rw[h.1,e])]
    exact⟨h.1,h.2.1,rv⟩
   ·rw[if_neg e,if_neg (fun z'=>e (zfF.mp (h.1.symm.trans z')))]
    exact h
 ·rw[if_neg e,if_neg e];exact Paired.snoc r ⟨rfl,rfl,rv⟩
theorem zeQ{zs:ZT}{xs:List (List Key×Addr×Value)}(r:Paired ZX zs xs):xs.map (·.1)=(zs.map (·.1)).map kL:=by
 induction r with
 | nil=>rfl
 | cons h t ih=>rw[List.map_cons,List.map_cons,List.map_cons,ih,h.1]
theorem zd5{l:qB}:(l.map kL).Nodup↔l.Nodup:=by
 induction l with
 | nil=>simp
 | cons a l ih =>
  rw[List.map_cons,List.nodup_cons,List.nodup_cons,ih];have:kL a∈l.map kL↔a∈l:=by
   constructor
   ·intro h;obtain⟨b,hb,e⟩:=List.mem_map.mp h
    rwa [<- zfF.mp e]
   ·exact List.mem_map_of_mem
  rw[this]
theorem zge(zs:ZT)(k:Int×Int)(b:Addr)(v:V):(zput zs k b v).length<=zs.length+1:=by
 unfold zput;split
 ·rw[List.length_map];exact Nat.le_succ _
 ·simp
section
variable{P:Program}{w:World}
theorem zmP{z:(Int×Int)×Addr×V}{x:List Key×Addr×Value}(h:ZX z x):entZ z (entryOfKey (tupleKind (Jy P w)) x):=by
 obtain⟨h1,h2,h3⟩:=h;refine⟨?_,?_,h3⟩
 ·show tupleKeyHash (Jy P w) x.1=_
  rw[h1];rfl
 ·show Value.ref x.2.1=_
  rw[h2]
theorem zgg{zs:ZT}{es:List DictEntry}(r:Paired entZ zs es):∃xs:List (List Key×Addr×Value),Paired ZX zs xs/\es=xs.map (entryOfKey (tupleKind (Jy P w))):=by
 induction r with
 | nil=>exact⟨[],.nil,rfl⟩
 | @cons z e zs es h t ih =>
  obtain⟨xs,x1,x2⟩:=ih;obtain⟨h1,h2,h3⟩:=h;refine⟨(kL z.1,z.2.1,e.val)::xs,.cons ⟨rfl,rfl,h3⟩ x1,?_⟩;rw[List.map_cons,<- x2];congr 1;cases e;dsimp only at h1 h2;rw[h1,h2]
  rfl
theorem zkV{zs:ZT}{xs:List (List Key×Addr×Value)}(r:Paired ZX zs xs):Paired entZ zs (xs.map (entryOfKey (tupleKind (Jy P w)))):=by
 induction r with
 | nil=>exact .nil
 | cons h t ih=>exact .cons (zmP h) ih
end
section
variable{X:Cx}{pins:qO}{σ:St}{H:Hp}{s:Shared}{a:Addr}{zs:ZT}{ep:Nat}{A:Around}{E:qV}
theorem zjh(I:Inv X pins σ H s)(h:H a=some (ZDO a zs ep))(hk:∀z∈zs,SqT X.K H z.2.1 [.int z.1.1,.int z.1.2]):(a == sysModules)=false/\zs.length<=sizeLine/\∃xs,Paired ZX zs xs/\s.heap.DictOfH (tupleKind (Jy X.prog X.w)) a xs:=by
 obtain⟨⟨hs,lz,nd,o,es,g1,g2,g3,pr⟩,_⟩:=I.hok a _ h;obtain⟨xs,x1,x2⟩:=zgg (P:=X.prog) (w:=X.w) pr;refine⟨hs,lz,xs,x1,o,es,ep,g1,g2,g3,x2,fun x hx=>?_,?_⟩
 ·obtain⟨z,hz,e1,e2,_⟩:=UN x1 hx;have:=zhq (k:=kL z.1) I (hk z hz);rw[e1,e2];exact this
 ·rw[zeQ x1];exact zd5.mpr nd
theorem zhg{H':Hp}{h':Heap}{xs:List (List Key×Addr×Value)}(hs:(a == sysModules)=false)(lz:zs.length<=sizeLine)(r:Paired ZX zs xs)(dd:h'.DictOfH (tupleKind (Jy X.prog X.w)) a xs):∃ep,Jm X.prog X.w H' h' a (ZDO a zs ep):=by
 obtain⟨o,es,ep,g1,g2,g3,g4,_,g5⟩:=dd;refine⟨ep,⟨hs,lz,?_,o,es,g1,g2,g3,?_⟩,⟨o,g1⟩,?_⟩
 ·rw[zeQ r]at g5;exact zd5.mp g5
 ·rw[g4];exact zkV r
 ·rintro h1 h2 ⟨x1,x2,x3,o,es,y1,y2⟩ k;exact⟨x1,x2,x3,o,es,k o y1,y2⟩
theorem zeR{k:Int×Int}{b:Addr}{v:V}{r:Value}{Q:Unit->Shared->Prop}(hu:A.units+1<cLine)(I:Inv X pins σ H s)(h:H a=some (ZDO a zs ep))(hk:∀z∈zs,SqT X.K H z.2.1 [.int z.1.1,.int z.1.2])(hb:SqT X.K H b [.int k.1,.int k.2])(hl:zs.length<sizeLine)(rv:RelV v r)
  (hq:∀s' ep',Inv X pins σ (upd H a (ZDO a (zput zs k b v) ep')) s'->Q () s'):wpAny (model X.prog X.w) A (setItem (.ref a) (.ref b) r) Q E s:=by
 obtain⟨hs,lz,xs,x1,dd⟩:=zjh I h hk;have lx:xs.length<=sizeLine:=by rw[<- Paired.length x1];exact lz
 refine wpAny_setItem_heap (hsz:=lx) (tupleKind_room_in1 hu) (zhq (k:=kL k) I hb) dd fun h' dd' hs'=>?_
 have he:∃q,h'.get? a=some q:=let ⟨q,_,_,e,_⟩:=dd';⟨q,e⟩
 have lz':(zput zs k b v).length<=sizeLine:=by have:=zge zs k b v;lia
 have ok:∀H':Hp,∃ep',Jm X.prog X.w H' h' a (ZDO a (zput zs k b v) ep'):=fun H'=>zhg hs lz' (zjf x1 k rv) dd'
 obtain⟨ep',ok1⟩:=ok H;exact hq _ ep' (ziY I (by rw[h];exact True.intro) hs' he ok1)
end
section
variable{K:qF}{hd:Option Addr}{O:Addr->Prop}{H:Hp}{zs:ZT}{ks:KT2}
theorem Jg.sq(r:Jg K hd O H zs ks):∀z∈zs,SqT K H z.2.1 [.int z.1.1,.int z.1.2]:=by
 intro z hz;induction zs generalizing ks with
 | nil=>cases hz
 | cons y zs ih =>
  cases r with
  | cons h1 h2 r =>
   rcases List.mem_cons.mp hz with rfl|hz
   ·obtain⟨a,vs,e,sq,rp⟩:=h1.tupI;cases e;cases rp with
    | cons x1 x2 =>
     cases x2 with
     | cons x3 x4 =>
      cases x4;rw[x1.intI,x3.intI]at sq;exact sq
   ·exact ih r hz
theorem Jg.length(r:Jg K hd O H zs ks):zs.length=ks.length:=by
 induction zs generalizing ks with
 | nil=>cases r;rfl
 | cons y zs ih =>
  cases r with
  | cons h1 h2 r=>rw[List.length_cons,List.length_cons,ih r]
theorem Jg.keys(r:Jg K hd O H zs ks):zs.map (·.1)=ks.map (·.1):=by
 induction zs generalizing ks with
 | nil=>cases r;rfl
 | cons y zs ih =>
  cases r with
  | cons h1 h2 r=>rw[List.map_cons,List.map_cons,ih r]
theorem Jg.snoc{k:Int×Int}{q:Addr}{v:V}{d:PyData}(h:Rep K hd O H (.ref q) (.tuple [.int k.1,.int k.2]))(h2:Rep K hd O H v d){zs:ZT}{ks:KT2}(r:Jg K hd O H zs ks):Jg K hd O H (zs++[(k,q,v)]) (ks++[(k,d)]) :=
 r.ind (P:=fun zs ks=>Jg K hd O H (zs++[(k,q,v)]) (ks++[(k,d)])) (.cons h h2 .nil) fun a b _ r=>.cons a b r
theorem Jg.put(r:Jg K hd O H zs ks)(k:Int×Int){b:Addr}{v:V}{t:PyData}(rb:Rep K hd O H (.ref b) (.tuple [.int k.1,.int k.2]))(rv:Rep K hd O H v t):Jg K hd O H (zput zs k b v) (putT ks k t):=by
 have ea:(zs.any fun z=>decide (z.1=k))=ks.any fun z=>decide (z.1=k):=by
  have e1:(zs.any fun z=>decide (z.1=k))=(zs.map (·.1)).any fun z=>decide (z=k):=by rw[List.any_map];rfl
  have e2:(ks.any fun z=>decide (z.1=k))=(ks.map (·.1)).any fun z=>decide (z=k):=by rw[List.any_map];rfl
  rw[e1,e2,r.keys]
 unfold zput putT;rw[ea];split
 ·clear ea;rename_i e;clear e;induction zs generalizing ks with
  | nil=>cases r;exact .nil
  | cons y zs ih =>
   cases r with
   | @cons k' q v' d zs ks h1 h2 r =>
    rw[List.map_cons,List.map_cons];dsimp only
    by_cases e:k'=k
    ·rw[if_pos e,if_pos e];exact .cons h1 rv (ih r)
    ·rw[if_neg e,if_neg e];exact .cons h1 h2 (ih r)
 ·exact Jg.snoc rb rv r
theorem Rep.bkI{v:V}{a b:Int}(h:Rep K hd O H v (.tuple [.int a,.int b])):∃q,v=.ref q/\SqT K H q [.int a,.int b]:=by
 obtain⟨q,vs,rfl,sq,rp⟩:=h.tupI;cases rp with
 | cons x1 x2 =>
  cases x2 with
  | cons x3 x4 =>
   cases x4;rw[x1.intI,x3.intI]at sq;exact⟨q,rfl,sq⟩
end
section
variable{X:Cx}{e e1 e2:Expr}{x:Str}{pos:Pos}{d d1 d2:DTE}
def zlJ:TE:=fun _ H Q=>∀p,H p=none->∀ep,Q (.ref p) (upd H p (ZDO p [] ep))
theorem zh9:PE X (.Dict [] [] pos) zlJ:=fun pins s σ H Q I h=>by
 have hb:(s.heap.objs.size == sysModules)=false:=beq_eq_false_iff_ne.mpr (Ne.symm (Nat.ne_of_lt I.big));obtain⟨ep,ok⟩:=zhg (X:=X) (H':=H) (zs:=[]) hb (Nat.zero_le _) .nil (Heap.DictOfH.new s.heap);exact wpAny_Dict_empty ⟨.ref s.heap.objs.size,_,I.laid (a:=s.heap.objs.size) (o:=ZDO s.heap.objs.size [] ep) (t':=s.toks) (fun _ _ q=>Heap.get?_push_of_some _ q) (Nat.le_refl _) ok,rfl,h _ (I.hok.fresh (Nat.le_refl _)) ep⟩
def zjA(i:Nat):DTS:=fun D ρ n=>D.nx (ρ.set i (some (.dtt []))) n
theorem ziR{i:Nat}{pos' dp:Pos}(hN:X.N.Nodup)(hi:X.N[i]?=some x)(hx:Loc X.env.scope x)(hs:swapsWith (.Dict [] [] dp) (some (.Name x pos')) pos.line X.env=pure false:=by rfl)(hf:X.fn x=true\/X.env.scope.names.lookup x=some .local:=by walk_at "F") :
  DS X (.Assign [.Name x pos'] (.Dict [] [] dp) pos) (zjA i):=by
 refine⟨_,JN hN hi hx zh9 hs hf,fun C ρ σ H n D D' S hd g=>?_⟩
 intro p hp ep;have e1:ExtE C.hd H (upd H p (ZDO p [] ep)):=ExtE.new hp;have hn:Hn C.hd (upd H p (ZDO p [] ep)) n:=S.hnd.same (JC hp);exact g.nx _ _ _ n hd (S.putNew e1 hn hp ⟨[],ep,Jn,.nil⟩) (zb1 e1 hp)
def zl9(K:qF)(td ty tv:TE):TS:=fun D σ H=>tv σ H fun v H1=>td σ H1 fun x H2=>ty σ H2 fun y H3=>∃a zs ep k b,x=.ref a/\y=.ref b/\H3 a=some (ZDO a zs ep)/\(∀z∈zs,SqT K H3 z.2.1 [.int z.1.1,.int z.1.2])/\SqT K H3 b [.int k.1,.int k.2]/\zs.length<sizeLine/\∀ep',D.nx σ (upd H3 a (ZDO a (zput zs k b v) ep'))
theorem zh1{o i value:Expr}{td ty tv:TE}{pos':Pos}(hu:X.A.units+1<cLine)(ho:PE X o td)(hi:PE X i ty)(hv:PE X value tv)(hs:swapsWith value (some (.Subscript o i pos')) pos.line X.env=pure false) :
  PS X (.Assign [.Subscript o i pos'] value pos) (zl9 X.K td ty tv):=by
 intro pins s σ H D I h;refine wpAny_Assign_Subscript (thn (hv pins s σ H _ I h) fun r s1 ⟨v,H1,I1,rv,q1⟩=>thn (ho pins s1 σ H1 _ I1 q1) fun u s2 ⟨x,H2,I2,rx,q2⟩=>thn (hi pins s2 σ H2 _ I2 q2) fun iv s3 ⟨y,H3,I3,ry,a,zs,ep,k,b,ex,ey,g,hk,hb,hl,q3⟩=>?_) hs
 subst ex ey;cases(show u=Value.ref a from rx)
 cases(show iv=Value.ref b from ry)
 exact zeR hu I3 g hk hb hl rv fun s4 ep' I4=>⟨σ,_,I4,q3 ep'⟩
def lBlk(y:PyData)(R:Int×Int->Prop):Prop:=∃k:Int×Int,y=.tuple [.int k.1,.int k.2]/\R k
def zhQ(i:Nat)(dk dv:DTE):DTS:=fun D ρ n=>dv ρ n fun t n1=>match ρ[i]? with
 | some (some (.dtt ks))=>dk ρ n1 fun y n2=>lBlk y fun k=>ks.length<16777216/\D.nx (ρ.set i (some (.dtt (putT ks k t)))) n2
 | _=>False
theorem ziQ(i:Nat){p1 pos':Pos}(hr:X.A.units+1<cLine)(h1:DE X e1 d1)(h2:DE X e2 d2)(hN:X.N[i]?=some x:=by rfl)(hv:Vis X.env.scope x:=by walk_at "V")(hd:(x == ("__debug__":Str))=false:=by rfl)
  (hcd:(x == ("__classdict__":Str))=false:=by rfl) (hs:swapsWith e2 (some (.Subscript (.Name x p1) e1 pos')) pos.line X.env=pure false:=by rfl) :
  DS X (.Assign [.Subscript (.Name x p1) e1 pos'] e2 pos) (zhQ i d1 d2):=by
 obtain⟨t1,pa1,h1⟩:=h1;obtain⟨t2,pa2,h2⟩:=h2;refine⟨_,zh1 hr (J1 hN hv hd hcd) pa1 pa2 hs,fun C ρ σ H n D D' S hd g=>?_⟩
 refine h2 C ρ σ H n _ _ S hd fun t n1 v H1 r e1 hn1 q=>?_
 have S1:=S.on e1 hn1;split at r
 ·rename_i ks et;obtain⟨p,zs,ep,s1,s2,s3,s4⟩:=S1.dtt i ks et;refine⟨.ref p,s1,?_⟩;refine h1 C ρ σ H1 n1 _ _ S1 r fun y n2 w H2 r2 e2 hn2 q2=>?_
  have S2:=S1.on e2 hn2;obtain⟨p',zs',ep',u1,u2,u3,u4⟩:=S2.dtt i ks et;rw[s1]at u1;cases u1;obtain⟨k,rfl,hl,r2⟩:=r2;obtain⟨b,rfl,sb⟩:=q2.bkI;have q':=e2.rep S.hx q;refine⟨p,zs',ep',k,b,rfl,rfl,u2,u3.sq,sb,by rw[u3.length];exact hl,fun e3=>?_⟩
  obtain⟨S3,k3⟩:=S2.chgC (c':=.dtt (putT ks k t)) rfl rfl et s1 fun O' H' a b hp=>⟨_,_,hp,(u3.put k q2 q').mono a b⟩
  exact g.nx _ _ _ n2 r2 S3 ((e1.keep.trans e2.keep).trans k3)
 ·exact r.elim
end
section
variable{D:JB}{ρ ρ':En}{n i j:Nat}{d dk dv:DTE}{R:qN}{ks:KT2}
instance zmW:Stp (zjA i D ρ n) (SetK i (some (.dtt [])) D.nx ρ n):=⟨fun h=>h⟩
instance zmV [h:GetN ρ i (some (.dtt ks))]:Stp (zhQ i dk dv D ρ n) (dv ρ n fun t n1=>dk ρ n1 fun y n2=>lBlk y fun k=>ks.length<16777216/\SetK i (some (.dtt (putT ks k t))) D.nx ρ n2):=⟨fun k=>by
 unfold zhQ;rw[h.e];exact k⟩
instance zm7 {a b:Int}{Q:Int×Int->Prop}:Stp (lBlk (.tuple [.int a,.int b]) Q) (Q (a,b)):=⟨fun h=>⟨(a,b),rfl,h⟩⟩
end
def rD(rs:List ((Int×Int)×Int)):List PyData:=rs.map fun r=>.tuple [.tuple [.int r.1.1,.int r.1.2],.int r.2]
theorem zfd{rs:List ((Int×Int)×Int)}:(rD rs).length=rs.length:=by simp[rD]
def RlOk(r:(Int×Int)×Int):Prop:=0<=r.1.2/\r.1.2<1000/\0<=r.2/\r.2<=1
section
variable{X:Cx}{e:Expr}{x:Str}{d:DTE}{pos p p1 p2 p3:Pos}{k:Nat}
def zjp(i:Nat):TE:=fun σ H Q=>∃a zs ep,σ[i]?=some (some (.ref a))/\H a=some (ZDO a zs ep)/\∀v,H v=none->Q (.ref v) (upd H v (VWO v a))
theorem zjj{H':Hp}{h:Heap}{v a:Addr}(g:h.get? v=some ⟨.type "dict_items",none,.fields #[.ref a],#[]⟩):Jm X.prog X.w H' h v (VWO v a):=⟨g,⟨_,g⟩,fun h1 h2 g1 k=>k _ g1⟩
theorem zgy{i:Nat}(hN:X.N[i]?=some x)(hv:Vis X.env.scope x)(hd:(x == ("__debug__":Str))=false:=by rfl) (hcd:(x == ("__classdict__":Str))=false:=by rfl)
  (hbase:attributeBase (.Name x p1) "items" X.env (eval (.Name x p1) X.env)=eval (.Name x p1) X.env:=by rfl) (hline:(p2.endLine == p3.line)=true:=by rfl):PE X (.Call (.Attribute (.Name x p1) "items" p2) [] [] p3) (zjp i):=by
 intro pins s σ H Q I h;obtain⟨a,zs,ep,e1,e2,q⟩:=h;refine wpAny_Call_method0_late hbase hline (thn (J1 hN hv hd hcd pins s σ H (fun v H'=>v=.ref a/\H'=H) I ⟨.ref a,e1,rfl,rfl⟩) fun u s1 ⟨v,H1,I1,r1,ev,eH⟩=>?_)
 subst ev eH;cases(show u=Value.ref a from r1)
 obtain⟨⟨hs,lz,nd,o,es,g1,g2,g3,pr⟩,_⟩:=I1.hok a _ e2;have ty:s1.TypeIs (.ref a) "dict":=⟨o,g1,g2.1⟩;refine⟨"dict","dict.items",PySem.F.plainAttrs_dict,PySem.F.slot_dict_items,PySem.F.type_dict_items,ty,fun b eb=>?_,Calls.callWith_builtin rfl (PySem.evalArgs_none ?_)⟩
 ·cases eb;exact⟨o,g1,g2.2.1⟩
 refine wpAny_call_entry PySem.F.slot_dict_items ty PySem.F.entry_dict_items ?_ (PySem.F.args_dict_items_1 _);refine zfc (es:=es) (ep:=ep) hs ⟨o,g1,g2,g3⟩ ⟨_,rfl,?_⟩;have hf:=I1.hok.fresh (Nat.le_refl _);exact⟨.ref s1.heap.objs.size,_,I1.laid (a:=s1.heap.objs.size) (o:=VWO s1.heap.objs.size a) (t':=s1.toks) (fun _ _ q=>Heap.get?_push_of_some _ q) (Nat.le_refl _) (zjj (Heap.get?_push_size _ rfl)),rfl,q _ hf⟩
def Q6(i:Nat):DTA:=fun ρ n R=>match ρ[i]? with
 | some (some (.dtt ks))=>∃rs:List ((Int×Int)×Int),ks=rs.map (fun r=>(r.1,.int r.2))/\rs.length<64/\(∀r∈rs,RlOk r)/\∀rs':List ((Int×Int)×Int),rs'.Perm rs->rs'.Pairwise (fun a b=>rkn a<=rkn b)->R (rD rs') n
 | _=>False
theorem zbP{K:qF}{hd:Option Addr}{O:Addr->Prop}{H:Hp}:∀{zs:ZT}{rs:List ((Int×Int)×Int)},Jg K hd O H zs (rs.map fun r=>(r.1,.int r.2))->zs.map zR=rs/\∀z∈zs,z.2.2=.int (zR z).2/\Rep K hd O H (.ref z.2.1) (.tuple [.int z.1.1,.int z.1.2])
 | _,[],r=>by cases r;exact⟨rfl,(fun z hz=>nomatch hz)⟩
 | _,⟨k,s⟩::rs,r=>by
  cases r with
  | cons h1 h2 r =>
   obtain⟨i1,i2⟩:=zbP r;have ev:=h2.intI;subst ev;refine⟨by rw[List.map_cons,i1];rfl,fun z hz=>?_⟩
   rcases List.mem_cons.mp hz with rfl|hz
   ·exact⟨rfl,h1⟩
   ·exact i2 z hz
theorem zfP(i:Nat)(hc:X.calm=true)(hr:Room k X.A)(hm:X.mg "sorted" = none) (hN:X.N[i]?=some x:=by rfl) (hv:Vis X.env.scope x:=by walk_at "V") (hd:(x == ("__debug__":Str))=false:=by rfl)
  (hcd:(x == ("__classdict__":Str))=false:=by rfl) (hs:starEach [.Call (.Attribute (.Name x p1) "items" p2) [] [] p3] X.env=[(false,eval (.Call (.Attribute (.Name x p1) "items" p2) [] [] p3) X.env)]:=by rfl) (hg:Gl X "sorted":=by rfl)
  (hbase:attributeBase (.Name x p1) "items" X.env (eval (.Name x p1) X.env)=eval (.Name x p1) X.env:=by rfl) (hline:(p2.endLine == p3.line)=true:=by rfl) :
  DN X (.Call (.Name "sorted" p) [.Call (.Attribute (.Name x p1) "items" p2) [] [] p3] [] pos) (Q6 i):=by
 refine⟨_,Uf (zdj hc (by have:=hr.un;lia)) hm boot_sorted (JE (zgy hN hv hd hcd hbase hline) JV hs) hg,fun C ρ σ H n Q R S hd hq=>?_⟩
 unfold Q6 at hd;split at hd
 ·rename_i ks et;obtain⟨rs,rfl,lr,rok,hR⟩:=hd;obtain⟨a,zs,ep,s1,s2,s3,s4⟩:=S.dtt i _ et;obtain⟨zr,zv⟩:=zbP s3;have lz:zs.length=rs.length:=by rw[<- zr];simp
  refine⟨a,zs,ep,s1,s2,fun v hv=>?_⟩
  have na:a≠v:=fun z=>by subst z;rw[s2]at hv;cases hv
  have sm:Same H (upd H v (VWO v a)):=JC hv;refine⟨v,a,zs,ep,rfl,Jn,by rw[Ja na];exact s2,by rw[lz];exact lr,fun z hz=>?_,fun ws l H' pm pw sH nl tw hl=>?_⟩
  ·obtain⟨z1,z2⟩:=zv z hz;have ok:=rok (zR z) (by rw[<- zr];exact List.mem_map_of_mem hz)
   obtain⟨q,eq,sq⟩:=(z2.same sm).bkI;cases eq;exact⟨sq,ok.1,ok.2.1,_,z1,ok.2.2⟩
  ·have sH':Same H H':=sm.trans sH;have pr:(ws.map fun w=>zR w.1).Perm rs:=by
    have:=pm.map zR;rw[List.map_map,zr]at this;exact this
   have hl0:H l=none:=by
    cases z:H l with
    | none=>rfl
    | some o=>rw[sm l o z]at nl;cases nl
   refine hq (rD (ws.map fun w=>zR w.1)) n l _ H' (hR _ pr (by rw[List.pairwise_map];exact pw)) sH'.ext (S.hnd.same sH') hl0 hl ?_
   have key:∀ws':List (((Int×Int)×Addr×V)×Addr),(∀w∈ws',w∈ws)->Reps X.K C.hd (fun b=>Own C ρ σ b\/b=l) H' (ws'.map fun w=>V.ref w.2) (rD (ws'.map fun w=>zR w.1)):=by
    intro ws';induction ws' with
    | nil=>intro _;exact .nil
    | cons w ws' ih =>
     intro hw;have mw:=hw w (.head _);have mz:w.1∈zs:=pm.mem_iff.mp (List.mem_map_of_mem mw);obtain⟨z1,z2⟩:=zv w.1 mz;obtain⟨t1,t2⟩:=tw w mw;have h0:H w.2=none:=by
      cases z:H w.2 with
      | none=>rfl
      | some o=>rw[sm _ o z]at t1;cases t1
     refine .cons (.tup t2 (fun z=>?_) (.cons ?_ (.cons ?_ .nil))) (ih fun y hy=>hw y (.tail _ hy))
     ·rcases z with z|z
      ·exact S.free h0 z
      ·rw[z,hl]at t2;cases t2
     ·exact z2.mono (fun b o hb z=>z.elim id fun z=>by subst z;rw[hl0]at hb;cases hb) fun b o _ hb=>sH' b o hb
     ·rw[z1];exact .int _
   exact key ws fun _ h=>h
 ·exact hd.elim
instance zlf {i:Nat}{ρ:En}{n:Nat}{R:List PyData->Nat->Prop}{ks:KT2}[h:GetN ρ i (some (.dtt ks))]:Stp (Q6 i ρ n R) (∃rs:List ((Int×Int)×Int),ks=rs.map (fun r=>(r.1,.int r.2))/\rs.length<64/\(∀r∈rs,RlOk r)/\∀rs':List ((Int×Int)×Int),rs'.Perm rs->rs'.Pairwise (fun a b=>rkn a<=rkn b)->R (rD rs') n):=⟨fun k=>by
 unfold Q6;rw[h.e];exact k⟩
end
end L2
namespace L2
open PySem
abbrev RL:=List ((Int×Int)×Int)
def kR(rs:RL):KT2:=rs.map fun r=>(r.1,.int r.2)
def putR(rs:RL)(k:Int×Int)(s:Int):RL:=if (rs.any fun z=>decide (z.1=k))=true then rs.map (fun z=>if z.1=k then(z.1,s) else z) else rs++[(k,s)]
theorem zhY{rs:RL}{k:Int×Int}{s:Int}:putT (kR rs) k (.int s)=kR (putR rs k s):=by
 have ea:((kR rs).any fun z=>decide (z.1=k))=rs.any fun z=>decide (z.1=k):=by unfold kR;rw[List.any_map];rfl
 unfold putT putR;rw[ea];split
 ·unfold kR;rw[List.map_map,List.map_map];refine List.map_congr_left fun z _=>?_
  dsimp only[Function.comp];split <;> rfl
 ·unfold kR;rw[List.map_append];rfl
theorem zkc{rs:RL}:(kR rs).length=rs.length:=by simp[kR]
def Rls0(bits:Int)(rs:RL):Prop:=(∀r∈rs,IsBk bits r.1.1 r.1.2/\0<=r.2/\r.2<=1)/\(rs.map (·.1)).Nodup
theorem zfe{rs:RL}{k:Int×Int}{s:Int}:(putR rs k s).map (·.1)=if (rs.any fun z=>decide (z.1=k))=true then rs.map (·.1) else rs.map (·.1)++[k]:=by
 unfold putR;split
 ·rw[List.map_map];refine List.map_congr_left fun z _=>?_
  dsimp only[Function.comp];split <;> rfl
 ·rw[List.map_append];rfl
theorem zgs{rs:RL}{k:Int×Int}{s:Int}:(putR rs k s).length<=rs.length+1:=by
 unfold putR;split
 ·rw[List.length_map];exact Nat.le_succ _
 ·simp
theorem Rls0.put{bits:Int}{rs:RL}(h:Rls0 bits rs){k:Int×Int}{s:Int}(hk:IsBk bits k.1 k.2)(s0:0<=s)(s1:s<=1):Rls0 bits (putR rs k s):=by
 refine⟨fun r hr=>?_,?_⟩
 ·unfold putR at hr;split at hr
  ·obtain⟨z,hz,rfl⟩:=List.mem_map.mp hr;have:=h.1 z hz;split
   ·exact⟨this.1,s0,s1⟩
   ·exact this
  ·rcases List.mem_append.mp hr with hr|hr
   ·exact h.1 r hr
   ·cases List.mem_singleton.mp hr;exact⟨hk,s0,s1⟩
 ·rw[zfe];split
  ·exact h.2
  ·rename_i hn;rw[List.nodup_append];refine⟨h.2,by simp,fun a ha b hb=>?_⟩
   cases List.mem_singleton.mp hb;rintro rfl;obtain⟨z,hz,rfl⟩:=List.mem_map.mp ha;exact hn (List.any_eq_true.mpr ⟨z,hz,by simp⟩)
def bkLt(a b:Int×Int):Prop:=a.1<b.1\/(a.1=b.1/\a.2<b.2)
def Rls(bits:Int)(rs:RL):Prop:=(∀r∈rs,IsBk bits r.1.1 r.1.2/\0<=r.2/\r.2<=1)/\rs.Pairwise fun a b=>bkLt a.1 b.1
theorem Rls0.ok{bits:Int}{rs:RL}(b1:bits<=64)(h:Rls0 bits rs):∀r∈rs,RlOk r:=fun r hr=>by
 have:=h.1 r hr;have h1:=this.1.1;have h2:=this.1.2.1;exact⟨h1,by lia,this.2⟩
theorem Rls0.sort{bits:Int}{rs rs':RL}(b1:bits<=64)(h:Rls0 bits rs)(pm:rs'.Perm rs)(pw:rs'.Pairwise fun a b=>rkn a<=rkn b):Rls bits rs':=by
 refine⟨fun r hr=>h.1 r (pm.mem_iff.mp hr),?_⟩
 have nd:(rs'.map (·.1)).Nodup:=(pm.map _).nodup_iff.mpr h.2;rw[List.nodup_iff_pairwise_ne,List.pairwise_map]at nd;have al:∀r∈rs',RlOk r:=fun r hr=>h.ok b1 r (pm.mem_iff.mp hr)
 refine(pw.and nd).imp_of_mem fun {a b} ha hb ⟨h1,h2⟩=>?_
 have oa:=al a ha;have ob:=al b hb;unfold rkn at h1;unfold RlOk at oa ob;obtain⟨a1,a2,a3,a4⟩:=oa;obtain⟨b1',b2,b3,b4⟩:=ob;unfold bkLt;have ne:¬(a.1.1=b.1.1/\a.1.2=b.1.2):=fun z=>h2 (Prod.ext z.1 z.2)
 by_cases e:a.1.1=b.1.1
 ·right
  refine⟨e,?_⟩;have:a.1.2≠b.1.2:=fun z=>ne ⟨e,z⟩
  lia
 ·left
  lia
end L2
namespace Bd
open PySem PySem.W PySem.Calls L2 PyProof.Rows
structure ZZ where
 P:Program
 w:World
 K:qF
 mg:Str->Option Value
 base:Heap
def FQ(Z:ZZ)(x:Str)(st:Stmt)(ps:List Str)(k:Nat)(sp:Sp):Prop:=Fq Z.P Z.w Z.K Z.mg Z.base x st ps k sp
theorem okQ{Z:ZZ}{x:Str}{st:Stmt}{ps N:List Str}{k m:Nat}{g:GD}(D:Dq Z.K Z.mg x st ps)(S:JJ N ps (Jj st))(hm:m=ps.length)
  (hb:∀(f:Addr) (cdv:Value) (A:Around) (outer:List Env) (s:Shared) (H:Hp) (E:XK),Room k (A.deeper (envOfC x (Jj st) s.heap.objs.size f cdv))->∃d,DSs (cxOf CX0 Z.P Z.w Z.K Z.mg Z.base N x (Jj st) f cdv A outer s H E).nox (Jx st) d /\
   ∀ts n R,ts.length=m->g ts n R->d { nx:=fun _ n'=>R .none n',rt:=R } (Jv N ts) n):FQ Z x st ps (k+1) (spD Z.K m g):=by
 obtain⟨f,fd,D⟩:=D;exact⟨f,fd,D,D.okD S hm fun cdv A outer s H E hr=>hb f cdv A outer s H E hr⟩
theorem bnd1{x:Str}{st:Stmt}{a:Str}(h:∀(kV doc pm:Value) (an:Option Addr) (cdv ct u:Value),bindArgs (PySem.W.fnOf x x (JP st) (Jx st) (Jj st) .none kV doc pm an cdv ct) ⟨[u],[]⟩=pure [(a,u)]):BndA x st [a]:=fun _ _ _ _ _ _ us hl=>by obtain⟨_,rfl⟩:=len1 hl;exact h ..
theorem bnd2{x:Str}{st:Stmt}{a b:Str}(h:∀(kV doc pm:Value) (an:Option Addr) (cdv ct u v:Value),bindArgs (PySem.W.fnOf x x (JP st) (Jx st) (Jj st) .none kV doc pm an cdv ct) ⟨[u,v],[]⟩=pure [(a,u),(b,v)]):BndA x st [a,b]:=fun _ _ _ _ _ _ us hl=>by obtain⟨_,_,rfl⟩:=len2 hl;exact h ..
theorem bnd3{x:Str}{st:Stmt}{a b c:Str}(h:∀(kV doc pm:Value) (an:Option Addr) (cdv ct u v y:Value),bindArgs (PySem.W.fnOf x x (JP st) (Jx st) (Jj st) .none kV doc pm an cdv ct) ⟨[u,v,y],[]⟩=pure [(a,u),(b,v),(c,y)]):BndA x st [a,b,c]:=fun _ _ _ _ _ _ us hl=>by obtain⟨_,_,_,rfl⟩:=len3 hl;exact h ..
def Js(h:Heap):qF:=(List.range h.objs.size).filterMap fun a=>(h.get? a).map fun o=>(a,o)
theorem zfv{h:Heap}:∀{as:List Addr}{a:Addr},a∈as->(as.filterMap fun a=>(h.get? a).map fun o=>(a,o)).lookup a=h.get? a\/h.get? a=none
 | [],_,m=>nomatch m
 | b::as,a,m=>by
  by_cases e:a=b
  ·subst e;cases g:h.get? a with
   | none=>exact .inr rfl
   | some o=>exact .inl (by rw[List.filterMap_cons];simp[g,List.lookup_cons])
  ·have m':a∈as:=(List.mem_cons.mp m).resolve_left e;rcases zfv (h:=h) m' with z|z
   ·refine .inl ?_;rw[List.filterMap_cons];cases g:h.get? b with
    | none=>exact z
    | some o =>
     have:(a == b)=false:=by simpa using e
     simp only[Option.map_some];rw[List.lookup_cons,this];exact z
   ·exact .inr z
theorem Q1{h:Heap}{a:Addr}{o:Obj}(e:h.get? a=some o):(Js h).lookup a=some o:=by
 have m:a∈List.range h.objs.size:=List.mem_range.mpr (Heap.lt_size e);rcases zfv (h:=h) m with z|z
 ·exact z.trans e
 ·rw[e]at z;cases z
theorem zcP{h:Heap}:(Js h).In h:=fun a o e=>by
 have key:∀(as:List Addr),(as.filterMap fun a=>(h.get? a).map fun o=>(a,o)).lookup a=some o->h.get? a=some o:=by
  intro as;induction as with
  | nil=>intro z;cases z
  | cons b as ih =>
   intro z;rw[List.filterMap_cons]at z;cases g:h.get? b with
   | none=>rw[g]at z;exact ih z
   | some ob =>
    rw[g]at z;simp only[Option.map_some,List.lookup_cons]at z;cases q:a == b with
    | true=>rw[q]at z;cases z;rw[eq_of_beq q];exact g
    | false=>rw[q]at z;exact ih z
 exact key _ e
def Ul:Stmt->Bool
 | .FunctionDef ..=>true
 | _=>false
def defName:Stmt->Str
 | .FunctionDef n _ _ _ _ _ _ _ _ _=>n
 | _=>Str.ofString ""
def zk3:Stmt->Pos
 | .FunctionDef _ _ _ _ _ _ _ _ _ p=>p
 | _=>⟨0,0,0,0⟩
def recD(st:Stmt):DefRec:=⟨defName st,JP st,Jx st,Jj st,zk3 st⟩
theorem getD_mem{l:List Stmt}{i:Nat}(h:Ul (l.getD i (.Pass ⟨0,0,0,0⟩))=true):l.getD i (.Pass ⟨0,0,0,0⟩)∈l:=by
 rw[List.getD_eq_getElem?_getD]at h ⊢;cases e:l[i]? with
 | none=>rw[e]at h;cases h
 | some s=>exact List.mem_of_getElem? e
section
variable{q:Program}{loose:List Str}{mean:ExcName->Option Value}{mg mb:qM}{h:Heap}{x:Str}{st:Stmt}{ps:List Str}
theorem zf2{cd:Value}{n:Str}(c:h.CodeRec cd n):PySem.W.codeIn (Js h) cd n=true:=by
 obtain⟨a,o,vs,t,rfl,g,d,e⟩:=c;unfold PySem.W.codeIn;dsimp only;rw[Q1 g];obtain⟨oc,od,dd,sl⟩:=o;cases(show dd=_ from d)
 have l2:vs.toList[1]?=some (.str n t):=by simpa using e
 dsimp only
 match hv:vs.toList,l2 with
 | [],l2=>simp at l2
 | [_],l2=>simp at l2
 | a::b::r,l2 =>
  have:b=.str n t:=by simpa using l2
  subst this;simp
end
end Bd
namespace L2
open PySem PySem.Spec PyProof PyProof.Rows
abbrev BL:=List (Int×Int)
abbrev PR:=List ((Int×Int)×(Int×Int))
abbrev upH(b:Int×Int):Int×Int:=(Builtin.bitXor b.1 (2 ^ (b.2 - 1).toNat),b.2 - 1)
abbrev loH(b:Int×Int):Int×Int:=(b.1,b.2 - 1)
abbrev NP:=(Int×Int)×Str
section
variable{prog:Program}{w:World}{A:Around}{R:Result->Shared->Prop}{I:Addr}{fp wr:List Addr}{n:Nat}{P:Nat->Value->Prop}{St:Nat->Heap->Prop}
def CmpH(prog:Program)(w:World)(A:Around)(Gd:Heap->Prop)(P:Nat->Value->Prop)(bt:Nat->Nat->Bool):Prop :=
 ∀i j vi vj (s:Shared) (Q:qV) (E:qV),Gd s.heap->P i vi->P j vj->Q (.bool (bt i j)) s->wpAny (model prog w) A (richCompare .Lt vi vj) Q E s
theorem zft{Gd:Heap->Prop}{bt:Nat->Nat->Bool}{S:Addr}(W:Walks prog w A.in1 I fp wr n P St)(hcmp:CmpH prog w A.in1 Gd P bt)(hSf:S∉fp)
  (hG:∀h h',Gd h->(∀b o,b∉wr->b≠S->h.get? b=some o->h'.get? b=some o)->Gd h') :
  ∀(k j:Nat) (s:Shared) (vb:Value) (c:Nat),n - (j+1)=k->j+1<=n->St (j+1) s.heap->Gd s.heap->P (argBest bt j) vb ->
  s.heap.get? S=some { cls:=.type "list",dict:=none,data:=.seq #[vb,vb] c,slots:=#[] } ->
  (∀v h' tk,P (argBest bt (n - 1)) v->(∀b o,b∉wr->b≠S->s.heap.get? b=some o->h'.get? b=some o)->R (.ok (.ret v)) { s with heap:=h',toks:=tk }) ->
  codeAny (model prog w) A (.builtin "min.loop" ⟨[.ref I,.none,.ref S],[]⟩) R s:=by
 have hSw:S∉wr:=fun h=>hSf (W.sub _ h)
 have hname:(toString "min" ++ toString ".loop":String) = "min.loop":=by decide
 intro k;induction k with
 | zero =>
  intro j s vb c hk hj hst gd hPb hS hR;have hin:j+1=n:=by omega
  refine codeAny_builtin F.entry_min_loop ?_;rw[Around.under_plainId F.plain_min_loop _];show wpAny _ A.in1 (seqItems? (.ref S) >>= _) _ _ s
  refine wpAny_bind (wpAny_seqItems hS rfl ?_);show wpAny _ A.in1 (tryCatch (pyNext (.ref I)) _ >>= _) _ _ s
  refine wpAny_bind (wpAny_tryCatch (W.done s _ _ (hin▸hst) fun h' tk hk'=>?_))
  show wpAny _ A.in1 (updateSeq S (fun _=>#[]) >>= _) _ _ _
  refine wpAny_bind (wpAny_updateSeq (hk' S _ hSw hS) rfl (wpAny_bind (wpAny_letGo (wpAny_pure ?_))));exact hR vb _ tk (by rw[<- hin];exact hPb) fun b o hbw hbS e=>(Heap.get?_update_other _ _ (Ne.symm hbS)).trans (hk' b o hbw e)
 | succ k ih =>
  intro j s vb c hk hj hst gd hPb hS hR;have hlt:j+1<n:=by omega
  refine codeAny_builtin F.entry_min_loop ?_;rw[Around.under_plainId F.plain_min_loop _];show wpAny _ A.in1 (seqItems? (.ref S) >>= _) _ _ s
  refine wpAny_bind (wpAny_seqItems hS rfl ?_);show wpAny _ A.in1 (tryCatch (pyNext (.ref I)) _ >>= _) _ _ s
  refine wpAny_bind (wpAny_tryCatch (W.item (j+1) s _ _ hlt hst fun v h' tk hP hst' hk'=>?_))
  have hS':=hk' S _ hSw hS;have gd':Gd h':=hG _ _ gd fun b o hb _ e=>hk' b o hb e
  show wpAny _ A.in1 (tryCatch (holding [v,v] (richCompare .Lt v vb >>= _)) _ >>= _) _ _ _
  refine wpAny_bind (wpAny_tryCatch (wpAny_holding (wpAny_bind (hcmp (j+1) (argBest bt j) v vb _ _ _ gd' hP hPb ?_))));refine wpAny_bind (wpAny_holding (wpAny_truthy_bool ?_));refine wpAny_bind (wpAny_letGo (wpAny_pure ?_));cases hb:bt (j+1) (argBest bt j) with
  | true =>
   simp only[if_true];refine wpAny_bind (wpAny_updateSeq hS' rfl (wpAny_bind (wpAny_letGo ?_)));rw[hname];refine wpAny_pure ⟨plainId_quiet F.plain_min_loop _,ih (j+1) _ v _ (by omega) hlt (W.frame _ _ _ hst' fun b hbf o e=>?_) (hG _ _ gd' fun b o _ hb e=>(Heap.get?_update_other _ _ (Ne.symm hb)).trans e) (by simp only[argBest,hb,if_true];exact hP) (Heap.get?_update_self _ hS' rfl)
    fun v' h'' tk'' hP' hk''=>?_⟩
   ·exact(Heap.get?_update_other _ _ (fun h:S=b=>hSf (by rw[h];exact hbf))).trans e
   ·exact hR v' h'' tk'' hP' fun b o hbw hbS e=>hk'' b o hbw hbS ((Heap.get?_update_other _ _ (Ne.symm hbS)).trans (hk' b o hbw e))
  | false =>
   simp only[Bool.false_eq_true,if_false];refine wpAny_bind (wpAny_letGo ?_);rw[hname];refine wpAny_pure ⟨plainId_quiet F.plain_min_loop _,ih (j+1) _ vb c (by omega) hlt hst' gd' (by simp only[argBest,hb,Bool.false_eq_true,if_false];exact hPb) hS' fun v' h'' tk'' hP' hk''=>?_⟩
   exact hR v' h'' tk'' hP' fun b o hbw hbS e=>hk'' b o hbw hbS (hk' b o hbw e)
theorem zfs{E:qV}{s:Shared}{x:Value}{Q:qV}
  (h:wpAny (model prog w) A.in1 (pyIter x) (fun it s₂=>∃(I:Addr) (fp wr:List Addr) (n:Nat) (P:Nat->Value->Prop) (St:Nat->Heap->Prop) (bt:Nat->Nat->Bool) (Gd:Heap->Prop),it=.ref I/\Walks prog w A.in1 I fp wr n P St/\St 0 s₂.heap/\(∀b∈fp,b<s₂.heap.objs.size)/\0<n/\CmpH prog w A.in1 Gd P bt/\Gd s₂.heap /\
   (∀h h',Gd h->(∀b o,b∉wr->b≠s₂.heap.objs.size->h.get? b=some o->h'.get? b=some o)->Gd h') /\
   ∀v h' tk,P (argBest bt (n - 1)) v->(∀b o,b∉wr->s₂.heap.get? b=some o->h'.get? b=some o)->Q v { s₂ with heap:=h',toks:=tk }) E s) :
  wpAny (model prog w) A (call (.builtin "min") [x]) Q E s:=by
 have hname:(toString "min" ++ toString ".loop":String) = "min.loop":=by decide
 refine call_function_tree F.kind_min F.plain_min F.entry_min (F.args_min1 _) ?_;show wpAny _ A.in1 (Builtin.Builtins.bindParams "min" ["key","default"] 0 ⟨[],[]⟩ >>= _) _ _ s
 refine wpAny_bind (wpAny_of_eq (show Builtin.Builtins.bindParams "min" ["key","default"] 0 ⟨[],[]⟩=pure [none,none] from rfl) (wpAny_bind (wpAny_pure ?_)))
 refine wpAny_bind (wpAny_mono h (fun it s₂ h₂=>?_) fun _ _ e=>e)
 obtain⟨I,fp,wr,n,P,St,bt,Gd,rfl,W,hst,hfp,hn,hcmp,gd,hG,hQ⟩:=h₂;refine wpAny_bind (wpAny_newObj_type ?_);have hSf:s₂.heap.objs.size∉fp:=fun hm=>Nat.lt_irrefl _ (hfp _ hm)
 have hSw:s₂.heap.objs.size∉wr:=fun h=>hSf (W.sub _ h)
 rw[hname];refine wpAny_pure ⟨plainId_quiet F.plain_min_loop _,?_⟩;refine codeAny_builtin F.entry_min_loop ?_;rw[Around.under_plainId F.plain_min_loop _];show wpAny _ A.in1 (seqItems? (.ref s₂.heap.objs.size) >>= _) _ _ _
 refine wpAny_bind (wpAny_seqItems (Heap.get?_push_size _ rfl) rfl ?_);show wpAny _ A.in1 (tryCatch (pyNext (.ref I)) _ >>= _) _ _ _
 refine wpAny_bind (wpAny_tryCatch (W.item 0 _ _ _ hn (W.frame _ _ _ hst fun b _ o e=>Heap.get?_push_of_some _ e) fun v h' tk hP hst' hk'=>?_))
 have hS':=hk' s₂.heap.objs.size _ hSw (Heap.get?_push_size _ rfl);show wpAny _ A.in1 (updateSeq s₂.heap.objs.size (fun _=>#[v,v]) >>= _) _ _ _
 refine wpAny_bind (wpAny_updateSeq hS' rfl ?_);rw[hname];have g1:Gd h':=hG _ _ (hG _ _ gd fun b o _ _ e=>Heap.get?_push_of_some _ e) fun b o hb _ e=>hk' b o hb e
 refine wpAny_pure ⟨plainId_quiet F.plain_min_loop _,zft (Gd:=Gd) (bt:=bt) W hcmp hSf hG _ 0 _ v _ rfl hn (W.frame _ _ _ hst' fun b hbf o e=>?_) (hG _ _ g1 fun b o _ hb e=>(Heap.get?_update_other _ _ (Ne.symm hb)).trans e) hP (Heap.get?_update_self _ hS' rfl) fun v' h'' tk'' hP' hk''=>?_⟩
 ·exact(Heap.get?_update_other _ _ (fun h:s₂.heap.objs.size=b=>hSf (by rw[h];exact hbf))).trans e
 ·exact hQ v' h'' tk'' hP' fun b o hbw e=>hk'' b o hbw (Nat.ne_of_lt (Heap.lt_size e)) ((Heap.get?_update_other _ _ (Nat.ne_of_gt (Heap.lt_size e))).trans (hk' b o hbw (Heap.get?_push_of_some _ e)))
end
def pLt(a b:Int×Int):Bool:=HT.lexLt [a.1,a.2] [b.1,b.2]
theorem pLt_iff{a b:Int×Int}:pLt a b=true↔(a.1<b.1\/(a.1=b.1/\a.2<b.2)):=by
 have e:pLt a b=if a.1=b.1 then(if a.2=b.2 then false else decide (a.2<b.2)) else decide (a.1<b.1):=rfl
 rw[e]
 by_cases h1:a.1=b.1
 ·rw[if_pos h1]
  by_cases h2:a.2=b.2
  ·rw[if_pos h2];simp;omega
  ·rw[if_neg h2];simp;omega
 ·rw[if_neg h1];simp;omega
theorem zcs{f:Nat->Int×Int}:∀k j,j<=k->pLt (f j) (f (argBest (fun i j=>pLt (f i) (f j)) k))=false
 | 0,j,hj=>by
  cases Nat.le_zero.mp hj;simp only[argBest];rw[Bool.eq_false_iff];intro z;rw[pLt_iff]at z;omega
 | k+1,j,hj=>by
  have ih:=zcs (f:=f) k;simp only[argBest];rw[Bool.eq_false_iff];intro z;split at z
  ·rename_i hb;rcases Nat.lt_or_eq_of_le hj with h|rfl
   ·have:=ih j (by omega)
    rw[Bool.eq_false_iff]at this;apply this;rw[pLt_iff]at z hb ⊢;omega
   ·rw[pLt_iff]at z;omega
  ·rename_i hb;rcases Nat.lt_or_eq_of_le hj with h|rfl
   ·have:=ih j (by omega)
    rw[Bool.eq_false_iff]at this;exact this z
   ·exact hb z
section
variable{X:Cx}{k:Nat}
theorem zf4(hr:Room k X.A)(hc:X.calm=true):Jw X (.builtin "min") (fun xs H Q=>∃(a:Addr) (zs:List (V×(Int×Int))),xs=[.ref a]/\SqL X.K H a (zs.map (·.1))/\zs≠[]/\(∀z∈zs,∃q,z.1=.ref q/\SqT X.K H q [.int z.2.1,.int z.2.2]) /\
  ∀z∈zs,(∀y∈zs,pLt y.2 z.2=false)->Q z.1 H):=by
 intro pins s σ H xs us Q I r h;obtain⟨a,zs,rfl,hq,ne,hp,q⟩:=h;cases r with
 | cons r1 r2 =>
  cases r2;cases(show _=Value.ref a from r1)
  obtain⟨its,rv,p,hz⟩:=I.list hq;have cell:Paired (fun(z:V×(Int×Int)) (u:Value)=>RelV z.1 u/\PrIn s.heap u z.2.1 z.2.2) zs its:=by
   have go:∀(zs:List (V×(Int×Int))) (its:List Value),(∀z∈zs,∃q,z.1=.ref q/\SqT X.K H q [.int z.2.1,.int z.2.2])->Vals (zs.map (·.1)) its->Paired (fun(z:V×(Int×Int)) (u:Value)=>RelV z.1 u/\PrIn s.heap u z.2.1 z.2.2) zs its:=by
    intro zs;induction zs with
    | nil=>intro its _ r;cases r;exact .nil
    | cons z zs ih =>
     intro its hz r;cases r with
     | cons r1 r2 =>
      obtain⟨q,e1,e2⟩:=hz z (.head _);refine .cons ⟨r1,?_⟩ (ih _ (fun y hy=>hz y (.tail _ hy)) r2)
      dsimp only at r1;rw[e1]at r1;cases(show _=Value.ref q from r1)
      exact zjr I e2
   exact go zs its hp rv
  have hlen:=cell.length;have at_:∀(i:Nat) (v:Value),its[i]?=some v->∃z,zs[i]?=some z/\RelV z.1 v/\PrIn s.heap v z.2.1 z.2.2:=by
   have go:∀{zs:List (V×(Int×Int))} {its:List Value},Paired (fun(z:V×(Int×Int)) (u:Value)=>RelV z.1 u/\PrIn s.heap u z.2.1 z.2.2) zs its->∀(i:Nat) (v:Value),its[i]?=some v->∃z,zs[i]?=some z/\RelV z.1 v/\PrIn s.heap v z.2.1 z.2.2:=by
    intro zs its h;induction h with
    | nil=>intro i v e;simp at e
    | cons h1 _ ih =>
     intro i v e;cases i with
     | zero=>cases e;exact⟨_,rfl,h1⟩
     | succ i=>exact ih i v e
   exact go cell
  have hl:s.heap.IsList a its.toArray:=p.isList;have hlt:a<s.heap.objs.size:=by obtain⟨_,e,_⟩:=hl;exact Heap.lt_size e
  have hu:X.A.in1.units<cLine:=by have:=hr.un;show X.A.units+1<_;lia
  refine zfs (wpAny_pyIter_list hl ?_);refine⟨s.heap.objs.size,[s.heap.objs.size,a],[s.heap.objs.size],its.toArray.size,_,_,fun i j=>pLt ((zs[i]?.map (·.2)).getD (0,0)) ((zs[j]?.map (·.2)).getD (0,0)),fun h=>∀b o,s.heap.get? b=some o->h.get? b=some o,rfl,Walks.list (A:=X.A.in1) (I.ok.hd hc) _ a (Nat.ne_of_lt hlt) its.toArray,
   ⟨⟨_,Heap.get?_push_size _ rfl,rfl,rfl⟩,hl.push _⟩,?_,?_,?_,fun b o e=>Heap.get?_push_of_some _ e,?_,fun v h' tk hP hk=>?_⟩
  ·intro b hb;simp only[List.mem_cons,List.not_mem_nil,or_false]at hb;rw[Heap.size_push];rcases hb with rfl|rfl <;> lia
  ·rw[List.size_toArray,<- hlen];exact List.length_pos_iff.mpr ne
  ·intro i j vi vj s' Q' E' gd hi hj hQ;obtain⟨z,ez,_,pz⟩:=at_ i vi (by simpa using hi)
   obtain⟨y,ey,_,py⟩:=at_ j vj (by simpa using hj)
   obtain⟨a1,o,t,t',n,e0,e1,e2,e3⟩:=pz;obtain⟨a2,o',u,u',n',f0,f1,f2,f3⟩:=py;subst e0 f0;simp only[ez,ey,Option.map_some,Option.getD_some]at hQ;exact(show wpAny (model X.prog X.w) X.A.in1 (compareOp .Lt (.ref a1) (.ref a2)) _ E' s' from HT.zbs ⟨o,gd _ _ e1,e2,n,e3⟩ ⟨o',gd _ _ f1,f2,n',f3⟩ (.cons _ _ (.cons _ _ .nil)) (.cons _ _ (.cons _ _ .nil)) hu hQ)
  ·intro h h' gd kp b o e;have:=Heap.lt_size e;refine kp b o (fun z=>?_) (fun z=>?_) (gd b o e)
   ·simp only[List.mem_cons,List.not_mem_nil,or_false]at z;lia
   ·rw[Heap.size_push]at z;lia
  ·obtain⟨z,ez,rz,_⟩:=at_ _ v (by simpa using hP)
   refine⟨z.1,H,I.kept (LSm.kept_iter hk),rz,q z (List.mem_of_getElem? ez) fun y hy=>?_⟩
   obtain⟨j,hj⟩:=List.mem_iff_getElem?.mp hy;have jl:=(List.getElem?_eq_some_iff.mp hj).1;have:=zcs (f:=fun i=>(zs[i]?.map (·.2)).getD (0,0)) (its.toArray.size - 1) j (by rw[List.size_toArray,<- hlen];lia)
   simp only[List.size_toArray]at this ez;simp only[hj,ez,Option.map_some,Option.getD_some]at this;exact this
def zi3:GC
 | [.list ts],R=>∃bs:List (Int×Int),ts=pD bs/\bs≠[]/\∀b∈bs,(∀c∈bs,pLt c b=false)->R (.tuple [.int b.1,.int b.2])
 | _,_=>False
theorem ze9{K:qF}{hd:Option Addr}{O:Addr->Prop}{H:Hp}:∀{vs:List V}{bs:qB},Reps K hd O H vs (pD bs)->∀z∈vs.zip bs,(∃q,z.1=.ref q/\SqT K H q [.int z.2.1,.int z.2.2])/\Rep K hd O H z.1 (.tuple [.int z.2.1,.int z.2.2])
 | _,[],r=>by cases r;intro z hz;simp at hz
 | _,a::bs,r=>by
  cases r with
  | cons h r =>
   intro z hz;rcases List.mem_cons.mp (by simpa using hz) with rfl|hz
   ·exact⟨h.bkI,h⟩
   ·exact ze9 r z hz
theorem ziH:GpC X (fun xs H Q=>∃(a:Addr) (zs:List (V×(Int×Int))),xs=[.ref a]/\SqL X.K H a (zs.map (·.1))/\zs≠[]/\(∀z∈zs,∃q,z.1=.ref q/\SqT X.K H q [.int z.2.1,.int z.2.2]) /\
  ∀z∈zs,(∀y∈zs,pLt y.2 z.2=false)->Q z.1 H) zi3:=by
 intro hd O H xs ts Q R dom rs h hq;unfold zi3 at h;split at h
 ·obtain⟨bs,rfl,ne,h⟩:=h;obtain⟨v,rfl,r1⟩:=Qn rs;obtain⟨p,vs,rfl,h1,h2⟩:=r1.lstI;have ln:vs.length=bs.length:=by have:=h2.length;simpa[pD] using this
  have rel:=ze9 h2;refine⟨p,vs.zip bs,rfl,?_,fun z=>?_,fun z hz=>(rel z hz).1,fun z hz hm=>hq _ _ H (h z.2 (List.of_mem_zip hz).2 fun c hc=>?_) (Same.refl H) (rel z hz).2⟩
  ·rw[List.map_fst_zip (by lia)];exact .of h1
  ·have:(vs.zip bs).length=0:=by rw[z];rfl
   rw[List.length_zip,ln,Nat.min_self]at this;exact ne (List.length_eq_zero_iff.mp this)
  ·obtain⟨j,hj⟩:=List.mem_iff_getElem?.mp hc;have jl:=(List.getElem?_eq_some_iff.mp hj).1;have:(vs[j]'(by lia),c)∈vs.zip bs:=List.mem_iff_getElem?.mpr ⟨j,by rw[List.getElem?_zip_eq_some];exact⟨List.getElem?_eq_getElem _,hj⟩⟩
   exact hm _ this
 ·exact h.elim
theorem zkf{bs:qB}{R:PyData->Prop}(ne:bs≠[])(h:∀b∈bs,(∀c∈bs,pLt c b=false)->R (.tuple [.int b.1,.int b.2])):zi3 [.list (pD bs)] R:=⟨bs,rfl,ne,h⟩
end
end L2
namespace L2
open PySem PySem.Spec PyProof.Rows
def ndup:List Str->Bool
 | []=>true
 | x::l=>!l.any (fun y=>decide (x=y))&&ndup l
theorem ndB{l:List Str}(h:ndup l=true):l.Nodup:=by
 induction l with
 | nil=>exact .nil
 | cons x l ih =>
  simp only[ndup,Bool.and_eq_true,Bool.not_eq_true',List.any_eq_false,decide_eq_true_eq]at h;exact List.nodup_cons.mpr ⟨fun m=>h.1 x m rfl,ih h.2⟩
def fnB(N P:List Str)(sc:Scope):Bool:=(match sc.kind with|.function=>true|_=>false)&&!sc.isCoroutine&&!sc.isGenerator&&ndup N&&decide (N.take P.length=P)&&P.all (fun x=>decide (sc.names.lookup x=some .local\/sc.names.lookup x=some .cell))&&sc.names.all fun y=>decide (y.2≠.free)
theorem fnS{N P:List Str}{sc:Scope}(h:fnB N P sc=true):JJ N P sc:=by
 simp only[fnB,Bool.and_eq_true,Bool.not_eq_true',decide_eq_true_eq,List.all_eq_true]at h;obtain⟨⟨⟨⟨⟨⟨a,b⟩,c⟩,d⟩,e⟩,f⟩,g⟩:=h;exact⟨(by cases q:sc.kind <;> rw[q]at a <;> first|rfl|(exact nomatch a)),b,c,ndB d,e,f,g⟩
section
variable{X:Cx}{x:Str}{e:Expr}{es:List Expr}{d:DTE}{ds:DTA}{pos pos':Pos}
theorem dlv(i:Nat)(hN:X.N[i]?=some x:=by rfl)(hv:Vis X.env.scope x:=by walk_at "V")(hd:(x == ("__debug__":Str))=false:=by rfl)
  (hcd:(x == ("__classdict__":Str))=false:=by rfl):DL X (.Name x pos) (dVar i):=dl (JX i hN hv hd hcd)
theorem dli{i j}:DL X (.Constant (.int i) j pos) (dC (.int i)):=dl Jd
theorem dbc(h:DE X e d)(hr:DB X es ds)(hs:starEach (e::es) X.env=(false,eval e X.env)::starEach es X.env:=by rfl):DB X (e::es) (Qk d ds):=zfV h hr hs
theorem dbv(i:Nat)(hr:DB X es ds)(hN:X.N[i]?=some x:=by rfl)(hv:Vis X.env.scope x:=by walk_at "V")(hd:(x == ("__debug__":Str))=false:=by rfl)
  (hcd:(x == ("__classdict__":Str))=false:=by rfl):DB X (.Name x pos::es) (Qk (dVar i) ds):=zfV (JX i hN hv hd hcd) hr rfl
theorem dsv(i:Nat)(hN:X.N.Nodup)(h:DE X e d)(hi:X.N[i]?=some x:=by rfl)(hx:Loc X.env.scope x:=by first|exact Or.inl rfl|exact Or.inr rfl)(hs:swapsWith e (some (.Name x pos')) pos.line X.env=pure false:=by rfl)
  (hf:X.fn x=true\/X.env.scope.names.lookup x=some .local:=by walk_at "F"):DS X (.Assign [.Name x pos'] e pos) (sSet i d):=zk0 hN hi hx h hs hf
theorem dgv(i:Nat)(hN:X.N.Nodup)(hi:X.N[i]?=some x:=by rfl)(hx:Loc X.env.scope x:=by first|exact Or.inl rfl|exact Or.inr rfl)(hf:X.fn x=true\/X.env.scope.names.lookup x=some .local:=by walk_at "F"):DG X (.Name x pos) [i] (Uu i):=ziV hN hi hx hf
end
section
variable{X:Cx}{scope:Scope}{iter elt:Expr}{ifs:List Expr}{tg:Expr}{pos:Pos}{is:List Nat}{di:DTA}{g:DTG}{tt:DTT}{te:DTE}
theorem dnc(own:List Str)(capt:List Nat)(hi:DIL X tg iter di)(hg:∀C s₀ H₀ fp,DG (Jc X scope own capt C s₀ H₀ fp) tg is g)(he:∀C s₀ H₀ fp,DE (Jc X scope own capt C s₀ H₀ fp) elt te)
  (hc:X.calm=true:=by rfl) (h:zb_ scope X.env.scope X.N capt=true:=by rfl) (hin:∀i∈is,i<own.length:=by decide) (hs:∀x,foldedSetIterable iter X.env x=pure x:=by intro _;rfl):DN X (.ListComp elt [⟨tg,iter,[],0⟩] scope pos) (dComp own.length capt di g dYes te) :=
 ziT hc (Jz.of h) hi hg hin (fun _ _ _ _=>ziP) he hs
end
end L2
namespace Bd
open PySem PySem.W PySem.Calls L2 PyProof.Rows
abbrev PLs:=List (Str×List (Str×List Str))
abbrev FLs:=List (Str×List Str)
end Bd
namespace Bd
open PySem PySem.W PySem.Calls L2 PyProof.Rows
def Qg(tb:String->Option Builtin)(p:Program)(w:World)(n₀:Nat)(ann:Option Value):Nat->SharedT->Thread->Option SharedT
 | 0,_,_=>none
 | n+1,s,t=>match through t with
  | true=>some s
  | false=>match stepOk n₀ ann t with
   | false=>none
   | true=>match stepT (denote tb) p w s t with
    | some (s',t')=>Qg tb p w n₀ ann n s' t'
    | none=>none
theorem zcj{tb:String->Option Builtin}{p:Program}{w:World}{n₀:Nat}{ann:Option Value}:∀{n:Nat}{s s':SharedT}{t:Thread},Qg tb p w n₀ ann n s t=some s'->topRun tb p w n₀ ann n s.abs t=some s'.abs
 | 0,_,_,_,h=>by cases h
 | n+1,s,s',t,h=>by
  unfold Qg at h;unfold topRun;cases he:through t with
  | true=>rw[he]at h;cases h;rfl
  | false =>
   rw[he]at h;cases hk:stepOk n₀ ann t with
   | false=>rw[hk]at h;cases h
   | true =>
    rw[hk]at h;cases hs:stepT (denote tb) p w s t with
    | none=>rw[hs]at h;cases h
    | some r=>obtain⟨s₂,t₂⟩:=r;rw[hs]at h;dsimp only at h ⊢;rw[stepT_spec hs];exact zcj h
def zhr:List Obj->Nat->BT->BT
 | [],_,t=>t
 | o::r,i,t=>zhr r (i+1) (t.ins i o)
noncomputable def zi2 (P:Params):BT:=zhr (boot_heap P).objs.toList 0 .nil
noncomputable def zeO (w:World) (os:OsState):SharedT:=⟨zi2 w.params,11,(boot_heap w.params).life,#[],boot_drawn,boot_toks,os⟩
theorem boot_abs(P:Params):absHeap (zi2 P) 11 (boot_heap P).life=boot_heap P:=by kernel_rfl
theorem zf9(P:Params):(boot_heap P).objs.size=11:=by kernel_rfl
theorem zi1(P:Params):(boot_heap P).isNs mainGlobals=true:=by kernel_rfl
def Uh(p:Program)(h₀:Heap)(s₁:Shared):Bool:=staticsOk (importedModules p.main.body) h₀ s₁.heap&&namesBound p s₁.heap&&gensDone s₁&&laidKept h₀ s₁.heap
theorem zfx{p q:Program}{loose:List Str}{Xt:Shared->Bool}{α:Type}{Yf:Shared->α}{Ya:World->α}{N:Nat}(e:opening p=plainProg p.main.scope.names)(hN:Nat.ble 600 N=true)(fm:∀s,fenceModules? p s=some s)
  (run:∀(w:World) (os:OsState),(Qg treeTable p w 11 ((boot_heap w.params).nsMap mainGlobals "__annotations__") N (zeO w os) (topStub p)).map (fun s=>(Uh p (boot_heap w.params) s.abs,openSeen q loose (importedModules p.main.body) Xt true s.abs,Yf s.abs))=some (true,openGood q loose,Ya w)) :
  LeftO p q loose Xt Yf Ya N true:=fun w=>by
 obtain⟨⟨h,gs,d,k,os⟩,e1,e2⟩:=Option.map_eq_some_iff.mp (boot_open e hN fm w);obtain⟨rfl,rfl,rfl,rfl⟩:h=boot_heap w.params/\gs=#[]/\d=boot_drawn/\k=boot_toks:=by simpa using e2
 obtain⟨sT,r,l⟩:=Option.map_eq_some_iff.mp (run w os);have ea:(zeO w os).abs=⟨boot_heap w.params,#[],boot_drawn,boot_toks,os⟩:=by
  show(⟨absHeap (zi2 w.params) 11 (boot_heap w.params).life,#[],boot_drawn,boot_toks,os⟩:Shared)=_
  rw[boot_abs]
 have r:=zcj r;rw[ea]at r;obtain⟨l1,l2⟩:=Prod.mk.inj l;obtain⟨l2,l3⟩:=Prod.mk.inj l2;have t:topFrom treeTable p w N ⟨boot_heap w.params,#[],boot_drawn,boot_toks,os⟩=some sT.abs:=by
  unfold topFrom;dsimp only;rw[zi1,zf9,r];show(match Uh p (boot_heap w.params) sT.abs with|true=>_|false=>_)=_
  rw[l1]
 unfold openEnds;rw[e1];show(topFrom treeTable p w N _).map _=_
 rw[t];exact congrArg some (Prod.ext l2 l3)
theorem map3{α β γ δ ε:Type}{o:Option α}{f:α->β×γ}{g:α->δ×ε}{a:β}{y:γ}{b:δ×ε}(h:o.map f=some (a,y))(h1:o.map (fun s=>(g s).1)=some b.1)(h2:o.map (fun s=>(g s).2)=some b.2):o.map (fun s=>((f s).1,g s,(f s).2))=some (a,b,y):=by
 cases o with
 | none=>cases h
 | some x =>
  have e:=Option.some.inj h;have e1:(g x).1=b.1:=Option.some.inj h1;have e2:(g x).2=b.2:=Option.some.inj h2;show some ((f x).1,g x,(f x).2)=_
  rw[e,show g x=b from Prod.ext e1 e2]
end Bd
namespace L2
open PySem PySem.Spec PyProof.Rows
abbrev GX:=List PyData->Nat->(PyData->Nat->Prop)->(Str->Nat->Prop)->Prop
end L2
namespace L2
open PySem PySem.Spec PySem.W PyProof.Rows
theorem zeP{pos pos':Pos}{c cv:Value}(l:List Value)(h:TriplesOk l)(e:codeAmong pos' (l++[rawInt pos.line,rawInt pos.col,c])=some cv):codeAmong pos' l=some cv\/cv=c:=by
 fun_induction TriplesOk l with
 | case1 =>
  simp only[List.nil_append,codeAmong,rawInt]at e;split at e
  ·exact .inr (Option.some.inj e).symm
  ·cases e
 | case2 a t b u x rest ih =>
  simp only[List.cons_append,codeAmong]at e ⊢;split at e
  ·rename_i hc;rw[if_pos hc];exact .inl e
  ·rename_i hc;rw[if_neg hc];exact ih h e
 | case3 l h1 h2=>exact h.elim
structure zi8(mg:qM)(base:Heap)(c P:Addr):Prop where
 code:CodeHd base c P
 bm:∃bm ob,mg "__builtins__" = some (.ref bm)/\bm≠builtinsNs/\base.get? bm=some ob/\ob.cls=.type "module" /\ ob.dict=some builtinsNs/\ob.data=.plain
def Q5(H:Hp)(cv:Value)(q:Str):Prop:=∃(c:Addr) (o:Obj) (u:HO) (vs:Array Value) (t:Tok),cv=.ref c/\H c=some (.frz o u)/\o.data=.fields vs/\vs[1]?=some (.str q t)
theorem Q5.rec{P:Program}{w:World}{H:Hp}{h:Heap}{cv:Value}{q:Str}(x:Q5 H cv q)(ok:HOk P w H h):h.CodeRec cv q:=by
 obtain⟨c,o,u,vs,t,e,hc,hd,hv⟩:=x;exact⟨c,o,vs,t,e,(ok c _ hc).1,hd,hv⟩
abbrev lamO(q:Str)(params:Arguments)(body:Expr)(scope:Scope)(pm cv ctv:Value):Obj:={ cls:=.type "function",data:=.func (kla_fn "<lambda>" q params body scope [] pm cv ctv) }
theorem zkU{X:Cx}{pins:qO}{σ:St}{H:Hp}{s:Shared}{M:Model}{A:Around}{E:qV}{c P:Addr}{q:Str}{params:Arguments}{body:Expr}{scope:Scope}{pos:Pos}{Q:qV}(I:Inv X pins σ H s)
  (L:zi8 X.mg X.base c P) (hP:X.H₀ P=some (.tbl q)) (hcode:X.env.code=.ref c) (hcl:closureFor scope X.env=pure []) (hdef:defaultsOf params X.env=([],[])) (hq:X.env.qual ++ "<lambda>" = q)
  (h:∀f cv ctv pm H' s',Inv X pins σ H' s'->(∀b o,H b=some o->H' b=some o)->s.heap.objs.size<=f->s'.heap.get? f=some (lamO q params body scope pm cv ctv)->H' f=none->Q5 H' cv q->Q (.ref f) s') :
  wpAny M A (eval (.Lambda params body scope pos) X.env) Q E s:=by
 have hH:H P=some (.tbl q):=I.base.tbls P q hP;obtain⟨ps,hps,ht,hgood⟩:=I.hok P _ hH;have hbk:=I.bk;have hgs:s.heap.Ns mainGlobals X.mg:=I.ok.mod.glob.keeps hbk;obtain⟨bm,ob,b1,b2,b3,b4,b5,b6⟩:=L.bm;have nP:∀b o,X.base.get? b=some o->b≠P:=fun b o e z=>by
  have:=(I.bs b o e).2;rw[z,hH]at this;cases this
 have hgP:mainGlobals≠P:=by
  obtain⟨o,es,ep,e,_⟩:=I.ok.mod.glob;exact nP _ _ e
 have hbG:bm≠mainGlobals:=fun z=>by
  obtain⟨o,es,ep,e,hd,_⟩:=I.ok.mod.glob;rw[z,e]at b3;cases b3;rw[hd]at b6;cases b6
 have hb:s.heap.BuiltinsAt X.mg P:=⟨bm,ob,b1,b2,hbG,nP _ _ b3,hbk _ _ b3,b4,b5,b6⟩;refine kla_eval hdef ?_;rw[hq];cases hf:codeAmong pos ps.toList with
 | some cv =>
  obtain⟨c',o,u,vs,t,rfl,hc',hd',hv'⟩:=hgood pos cv hf;refine kla_makeFunctionHit hcl I.ok.glob hgs hcode (L.code.keeps hbk) hps ht hf hb fun ctv h' tk hk hsz=>?_
  have hk2:∀b o,s.heap.get? b=some o->(h'.push (lamO q params body scope ((X.mg "__name__").getD .none) (.ref c') ctv)).get? b=some o:=fun b o e=>Heap.get?_push_of_some _ (hk b o e)
  have J:=I.un (h':=h'.push (lamO q params body scope ((X.mg "__name__").getD .none) (.ref c') ctv)) (t':=tk) (Un.kept hk2) (I.hok.kept hk2);refine h h'.objs.size (.ref c') ctv _ H _ J (fun _ _ e=>e) hsz (Heap.get?_push_size _ rfl) (I.hok.fresh hsz) ?_
  exact⟨c',o,u,vs,t,rfl,hc',hd',hv'⟩
 | none =>
  refine kla_makeFunction hcl I.ok.glob hgs hcode (L.code.keeps hbk) hps ht hf hgP hb fun c' ctv h' tk hx hge hlt hrec htb=>?_
  obtain⟨c2,oc,vs,t,e2,hoc,hd,hv⟩:=hrec;cases e2;have hcn:H c'=none:=I.hok.fresh hge;have hk2:∀b o,b≠P->s.heap.get? b=some o->(h'.push (kla_obj "<lambda>" q params body scope [] ((X.mg "__name__").getD .none) c' ctv)).get? b=some o:=fun b o n e=>Heap.get?_push_of_some _ (hx b o n e)
  have hne:∀b,H b=none->b≠P:=fun b n z=>by rw[z,hH]at n;cases n
  have up:∀b o,H b=some o->upd H c' (.frz oc (.own c')) b=some o:=fun b o e=>by rw[Ja (JD e hcn)];exact e
  have J:Inv X pins σ (upd H c' (.frz oc (.own c'))) { s with heap:=h'.push (kla_obj "<lambda>" q params body scope [] ((X.mg "__name__").getD .none) c' ctv),toks:=tk }:=by
   refine I.un ⟨fun b o e n _ _=>hk2 b o (hne b n) e,fun b o e n _ _=>⟨o.slots,hk2 b o (hne b n) e⟩,fun b o e n _=>?_,fun b o e _=>?_,fun b xs e=>up b _ e,fun b o xs e=>up b _ e,fun b x e=>up b _ e⟩ ?_
   ·rw[Ja (Nat.ne_of_lt (Nat.lt_of_lt_of_le (Heap.lt_size e) hge))];exact n
   ·by_cases hb:b=P
    ·subst hb;exact⟨_,Heap.get?_push_of_some _ htb⟩
    ·exact⟨o,hk2 b o hb e⟩
   ·intro b o e
    by_cases hbc:b=c'
    ·subst hbc;rw[Jn]at e;cases e;exact⟨Heap.get?_push_of_some _ hoc,_,Heap.get?_push_of_some _ hoc⟩
    ·rw[Ja hbc]at e
     by_cases hbP:b=P
     ·subst hbP;rw[hH]at e;cases e;refine⟨_,Heap.get?_push_of_some _ htb,?_,fun pos' cv ec=>?_⟩
      ·rw[Array.toList_append];exact TriplesOk_snoc _ _ _ _ ht
      ·rw[Array.toList_append]at ec;rcases zeP _ ht ec with z|rfl
       ·obtain⟨c3,o3,u3,vs3,t3,z1,z2,z3⟩:=hgood pos' cv z;exact⟨c3,o3,u3,vs3,t3,z1,up _ _ z2,z3⟩
       ·exact⟨c',oc,.own c',vs,t,rfl,Jn,hd,hv⟩
     ·refine(I.hok b o e).stay (fun d v hd' e'=>hk2 d v ?_ e') (fun d e'=>up d _ e') (fun d xs e'=>up d _ e') fun d ob xs e'=>up d _ e'
      rcases hd' with rfl|hd'
      ·exact hbP
      ·rintro rfl;rw[hH]at hd';cases hd'
  refine h h'.objs.size (.ref c') ctv _ _ _ J up (Nat.le_trans hge (Nat.le_of_lt hlt)) (Heap.get?_push_size _ rfl) ?_ ⟨c',oc,.own c',vs,t,rfl,Jn,hd,hv⟩;rw[Ja (Nat.ne_of_gt hlt)];exact I.hok.fresh (Nat.le_trans hge (Nat.le_of_lt hlt))
end L2
namespace L2
open PySem PySem.Spec PySem.W PySem.Calls PyProof.Rows
theorem zgH{P:Program}{w:World}{K:qF}{mg:qM}{base:Heap}{A:Around}{outer:List Env}{s:Shared}{H:Hp}{f:Addr}{q x:Str}{params:Arguments}{body:Expr}{scope:Scope}{pm cv ctv u:Value}{v:V}{k:Nat}{te:TE}{Q:VK}
  (S:JJ [x] [x] scope) (hr:Room (k+1) A) (e0:Env0 P w K mg base A outer s H) (ho:s.heap.get? f=some (lamO q params body scope pm cv ctv)) (hcd:s.heap.CodeRec cv q)
  (hb:bindArgs (kla_fn "<lambda>" q params body scope [] pm cv ctv) ⟨[u],[]⟩=pure [(x,u)]) (r:RelV v u)
  (hbody:PE (cxOf CX0 P w K mg base [x] q scope f cv A outer s H E0).nox body te) (ht:te (start [x] [v]) H Q) :
  codeAny (model P w) A (.call (.ref f) ⟨[u],[]⟩) (CR CX0 outer P w H s Q E0) s:=by
 have lim:s.heap.NoLimit:=e0.mod.nolimit.keeps fun b o e=>(e0.bs b o e).1
 have hkind:∀y∈[x].zip [u],scope.names.lookup y.1=some .local\/(scope.names.lookup y.1=some .cell/\((cellsFrom (s.heap.objs.size+1) scope.names []).lookup y.1).isSome=true):=fun⟨n,v⟩ hy=>by
  rcases S.par n (List.of_mem_zip hy).1 with q|q
  ·exact .inl q
  ·exact .inr ⟨q,PySem.W.cellsFrom_some _ _ _ (.inl q)⟩
 refine kla_callFunE hr.depth ho rfl S.co S.gen rfl hcd ?_;rw[hb];refine wpAny_pure (wpAny_newFunctionEnv_cells (binds:=[x].zip [u]) S.kind hkind fun env he s1 y=>?_)
 subst he;refine⟨lim.keeps y.toInCall.keep,kla_codeExpr ?_⟩;have I:Inv (cxOf CX0 P w K mg base [x] q scope f cv A outer s H E0) [] (start [x] [v]) H s1:=zda S hr.hd e0 rfl (.cons r .nil) y;refine wpAny_mono (hbody [] s1 (start [x] [v]) H Q (I.wish _) ht) (fun u' s' hs=>?_) fun e s' hs=>hs.elim
 obtain⟨v',H',J,rv,hq⟩:=hs;have J:=J.unwish;exact⟨v',H',J.os,J.bare,J.base,J.hok,rv,hq⟩
end L2
namespace L2
open PySem PySem.Spec PySem.W PySem.Calls PyProof.Rows Att
theorem zil{h:Heap}{a:Addr}{m m':qM}(x:h.Ns a m)(y:h.Ns a m'):m=m':=by
 obtain⟨o,es,ep,e,d,_,r⟩:=x;obtain⟨o',es',ep',e',d',_,r'⟩:=y;rw[e]at e';cases e';rw[d]at d';cases d'
 funext n
 rw[<- r n,r' n]
section
variable{X:Cx}{pins:qO}{σ:St}{H:Hp}{s:Shared}{A:Around}{E:qV}{f a kS:Addr}{fo:Obj}{e1:Nat}{vs:List Value}{kz:List Int}{G:Hp->Prop}
theorem zdI{kA:Array Value}{e:Nat}(I:Inv X pins σ H s)(h:s.heap.get? kS=some (seqObj "list" kA e)):∀x c,X.env.cells.lookup x=some c->c≠kS:=fun x c hc z=>by
 obtain⟨v,o,ho,hd⟩:=I.cell x c hc;rw[z,h]at ho;cases ho;cases hd
theorem zgQ{P:PySem.Fin->Shared->Prop}(I:Inv X ((kS,seqObj "list" #[] 0)::(a,seqObj "list" #[] e1)::(f,fo)::pins) σ H s) (g:G H)
  (hk:∀p∈X.pn++((a,seqObj "list" #[] e1)::(f,fo)::pins),p.1≠kS) (hka:∀p∈X.pn++pins,p.1≠a) (h0k:X.s₀.heap.objs.size<=kS) (h0a:X.s₀.heap.objs.size<=a) (hlen:kz.length=vs.length) (h64:vs.length<64)
  (turn:∀(i:Nat) (u:Value) (k:Int),vs[i]?=some u->kz[i]?=some k->∀(pins':qO) (H':Hp) (s':Shared),(f,fo)∈pins'->Inv X pins' σ H' s'->G H' ->
   wpAny (model X.prog X.w) A (call (.ref f) [u]) (fun u' s''=>∃t H'',u'=.int k t/\Inv X pins' σ H'' s''/\G H'') (fun _ _=>False) s')
  (h:∀H' s' out,G H'->H' a=none->KskOut false kz vs out->(∀ys,Vals ys out->ys.length<=sizeLine->Inv X pins σ (upd H' a (.lst ys)) s')->P (.done (.ret .none)) s') :
  wpAny (model X.prog X.w) A (ksk_rest a (.ref f) false vs.toArray e1 (.ref kS)) P E s:=by
 have hak:a≠kS:=hk (a,seqObj "list" #[] e1) (List.mem_append_right _ (.head _));unfold ksk_rest;refine wpAny_bind (wpAny_rule ?_);rw[List.forIn_toArray];refine wpAny_bind (ksk_fold (fun i s'=>∃H' kA e,Inv X ((kS,seqObj "list" kA e)::(a,seqObj "list" #[] e1)::(f,fo)::pins) σ H' s'/\G H'/\IntsAre kA.toList (kz.take i)) vs 0 s
  ⟨H,#[],0,I,g,by simpa using IntsAre.nil⟩ ?step ?done)
 case step =>
  rintro j x s' hx ⟨H',kA,e,J,g',hki⟩;simp only[Nat.zero_add]at hki ⊢;have hj:j<vs.length:=(List.getElem?_eq_some_iff.mp hx).1;obtain⟨k,hkj⟩:∃k,kz[j]?=some k:=⟨_,List.getElem?_eq_getElem (by omega)⟩
  have hz:kA.size<=vs.length:=by
   have h1:=hki.length;rw[Array.length_toList,List.length_take]at h1;omega
  refine wpAny_bind (wpAny_attempt (wpAny_mono (turn j x k hx hkj _ H' s' (.tail _ (.tail _ (.head _))) J g') (fun v s'' he=>?_) fun _ _ hF=>hF.elim))
  obtain⟨t,H'',rfl,J2,g2⟩:=he;dsimp only;have nk:=J2.pin (kS,seqObj "list" kA e) (List.mem_append_right _ (.head _));have s1:=Heap.SameBut.update s''.heap kS (Obj.mapSeq (·.push (.int k t)));obtain⟨c2,hc2⟩:∃c2,(s''.heap.update kS (Obj.mapSeq (·.push (.int k t)))).get? kS=some (seqObj "list" (kA.push (.int k t)) c2):=⟨_,get?_update_seq nk.1 (·.push (.int k t))⟩;have ek:kz.take (j+1)=kz.take j++[k]:=by rw[List.take_add_one,hkj];simp
  have ea:(kA.push (Value.int k t)).toList=kA.toList++[Value.int k t]:=by simp
  refine wpAny_bind (listUpdate_at nk.1 rfl ?_ (by rw[sizeLine_eq];omega) (Nat.le_trans (Nat.le_of_eq (Array.size_push ..)) (by rw[sizeLine_eq];omega)))
  have J3:Inv X ((a,seqObj "list" #[] e1)::(f,fo)::pins) σ H'' s'':=J2.pins_of fun p hp=>J2.pin p (List.mem_append_right _ (.tail _ hp))
  have J4:Inv X ((a,seqObj "list" #[] e1)::(f,fo)::pins) σ H'' { s'' with heap:=s''.heap.update kS (Obj.mapSeq (·.push (.int k t))),toks:=s''.toks } :=
   J3.turned (fun b o hb e=>(s1.2 b hb).trans e) nk.2.1 nk.2.2.1 (.inr h0k) (zdI J2 nk.1) hk
  refine wpAny_pure ⟨rfl,H'',kA.push (.int k t),c2,J4.pins_of fun p hp=>?_,g2,by rw[ea,ek];exact ksk_snoc hki⟩
  rcases List.mem_cons.mp hp with rfl|hp
  ·exact⟨hc2,nk.2.1,nk.2.2.1,nk.2.2.2.1,fun v z=>by cases z⟩
  ·exact J4.pin p (List.mem_append_right _ hp)
 case done =>
  rintro s' ⟨H',kA,e,J,g',hki⟩;have hk':IntsAre kA.toList kz:=by
   have e3:kz.take (0+vs.length)=kz:=List.take_of_length_le (by omega)
   rw[e3]at hki;exact hki
  have nk:=J.pin (kS,seqObj "list" kA e) (List.mem_append_right _ (.head _));have na:=J.pin (a,seqObj "list" #[] e1) (List.mem_append_right _ (.tail _ (.head _)));refine wpAny_bind (listItems_at nk.1 rfl ?_);obtain⟨m,hm,_⟩:=id J.loc;have mem:∀b o,(b,o)∈(ledger s'.heap X.env.locals kS).filter (fun p=>decide (p.1≠a))↔(b≠X.env.locals/\b≠kS/\s'.heap.get? b=some o)/\b≠a:=fun b o=>by
   rw[List.mem_filter,zeC,decide_eq_true_eq]
  refine ksk_end_ (h₀:=Uz s'.heap) (L:=X.env.locals) (m:=m) (news:=(ledger s'.heap X.env.locals kS).filter fun p=>decide (p.1≠a)) (e:=e) (zkR hm) (fun p hp=>?_) hak.symm (fun⟨b,o⟩ hp=>((mem b o).mp hp).1.2.1) (fun⟨b,o⟩ hp=>((mem b o).mp hp).2) hk' hlen h64 fun h' tk out c F N ko=>?_
  ·rcases List.mem_append.mp hp with hp|hp
   ·obtain⟨b,o⟩:=p;obtain⟨⟨n1,n2,e⟩,n3⟩:=(mem b o).mp hp;exact⟨e,n1,UQ _ _⟩
   ·rcases List.mem_cons.mp hp with rfl|hp
    ·exact⟨nk.1,nk.2.2.1,UQ _ _⟩
    ·cases List.mem_singleton.mp hp;exact⟨na.1,na.2.2.1,UQ _ _⟩
  ·have kp:∀b o,b≠X.env.locals->b≠kS->b≠a->s'.heap.get? b=some o->h'.get? b=some o:=fun b o n1 n2 n3 e=>(N (b,o) (.tail _ ((mem b o).mpr ⟨⟨n1,n2,e⟩,n3⟩))).1
   have hq:h'.get? a=some (seqObj "list" out c):=(N _ (.head _)).1;refine h H' _ out.toList g' na.2.1 ko fun ys r hz=>?_
   have J0:Inv X pins σ H' s':=J.pins_of fun p hp=>J.pin p (List.mem_append_right _ (.tail _ (.tail _ (.tail _ hp))))
   have nch:∀{b:Addr},b∉[kS,a]->b≠kS/\b≠a:=fun {b} z=>⟨fun y=>z (by simp[y]),fun y=>z (by simp[y])⟩
   have up:∀b o,H' b=some o->upd H' a (.lst ys) b=some o:=fun b o e=>by rw[Ja (JD e na.2.1)];exact e
   refine J0.step (g':=s'.gens) (d':=s'.drawn) (ch:=[kS,a]) (fun b hb=>?_) (fun b o n1 _ hc e _=>kp b o n1 (nch hc).1 (nch hc).2 e) (fun b o n1 _ hc e _=>⟨o.slots,kp b o n1 (nch hc).1 (nch hc).2 e⟩) (fun b o hc _ n=>by rw[Ja (nch hc).2];exact n)
    (fun b o hc e=>?_) (fun b xs e=>up b _ e) (fun b o xs e=>up b _ e) (fun b x e=>up b _ e) (fun m' hm'=>by rw[zil hm' hm];exact F.ns) (fun b u e=>?_) J0.bare
   ·rcases List.mem_cons.mp hb with rfl|hb
    ·exact⟨.inr h0k,nk.2.2.1,zdI J nk.1,fun p hp=>hk p ((List.mem_append.mp hp).elim (fun z=>List.mem_append_left _ z) fun z=>List.mem_append_right _ (.tail _ (.tail _ z)))⟩
    ·cases List.mem_singleton.mp hb;exact⟨.inr h0a,na.2.2.1,zdI J na.1,hka⟩
   ·by_cases n1:b=X.env.locals
    ·subst n1;obtain⟨o',_,_,z,_⟩:=F.ns;exact⟨o',z⟩
    ·exact⟨o,kp b o n1 (nch hc).1 (nch hc).2 e⟩
   ·by_cases hb:b=a
    ·subst hb;rw[Jn]at e;cases e;exact⟨hz,out.toList,c,r,by rw[Array.toArray_toList];exact hq⟩
    ·rw[Ja hb]at e;have ne:∀d v,H' d=some v->d≠X.env.locals/\d≠kS/\d≠a:=fun d v z=>⟨fun y=>(by rw[y,J.free]at z;cases z),fun y=>(by rw[y,nk.2.1]at z;cases z),fun y=>(by rw[y,na.2.1]at z;cases z)⟩
     refine(J.hok b u e).stay (fun d v hd z=>?_) (fun d z=>up d _ z) (fun d xs z=>up d _ z) fun d o xs z=>up d _ z
     have:=hd.elim (fun y=>ne d u (y▸e)) fun y=>ne d _ y
     exact kp d v this.1 this.2.1 this.2.2 z
theorem zer{Q:qV}{l:Addr}{o:Obj}{T:String}{n:Nat}(I:Inv X ((f,fo)::pins) σ H s)(g:G H)(ho:s.heap.get? l=some o)(hc:o.cls=.type T)(hT:T = "list" \/ T = "tuple") (hd:o.data=.seq vs.toArray n) (hlen:kz.length=vs.length) (h64:vs.length<64)
  (turn:∀(i:Nat) (u:Value) (k:Int),vs[i]?=some u->kz[i]?=some k->∀(pins':qO) (H':Hp) (s':Shared),(f,fo)∈pins'->Inv X pins' σ H' s'->G H' ->
   wpAny (model X.prog X.w) A.in1.in1 (call (.ref f) [u]) (fun u' s''=>∃t H'',u'=.int k t/\Inv X pins' σ H'' s''/\G H'') (fun _ _=>False) s')
  (h:∀H' s' out a,G H'->H a=none->H' a=none->KskOut false kz vs out->(∀ys,Vals ys out->ys.length<=sizeLine->Inv X pins σ (upd H' a (.lst ys)) s')->Q (.ref a) s') :
  wpAny (model X.prog X.w) A (call (.builtin "sorted") [.ref l] [(Str.ofString "key",.ref f)]) Q E s:=by
 refine call_function_entry_kw kind_sorted plain_sorted entry_sorted (ksk_s1 _ _) ?_;unfold Builtin.«sorted»;refine wpAny_bind (m:=checkCount "sorted" 1 1 _) (wpAny_pure ?_);refine wpAny_bind (zdH ho hc hT hd (by rw[sizeLine_eq];omega) (wpAny_bind (wpAny_newList ?_ (by rw[sizeLine_eq];omega))))
 have z:((s.heap.push (seqObj "list" #[] 0)).update s.heap.objs.size (Obj.mapSeq (·++vs.toArray))).objs.size=s.heap.objs.size+1:=by rw[Heap.size_update,size_push']
 have o3:(preH s.heap vs).get? (s.heap.objs.size+1)=some (seqObj "list" vs.toArray 0):=by
  unfold preH;rw[<- z];exact Heap.get?_push_size _ rfl
 have keep:∀b o,s.heap.get? b=some o->(preH s.heap vs).get? b=some o:=fun b o q=>by
  have hlt:b<s.heap.objs.size:=Heap.lt_size q;unfold preH;rw[Heap.get?_push_ne _ _ _ (by rw[z];exact Nat.ne_of_lt (Nat.lt_succ_of_lt hlt)),Heap.get?_update_ne _ _ _ _ (Nat.ne_of_lt hlt),Heap.get?_push_ne _ _ _ (Nat.ne_of_lt hlt)]
  exact q
 have zp:(preH s.heap vs).objs.size=s.heap.objs.size+2:=by unfold preH;rw[size_push',z]
 show wpAny (model X.prog X.w) _ _ _ _ { s with heap:=preH s.heap vs }
 rw[z];generalize preH s.heap vs=h1 at o3 keep zp ⊢;generalize ha:s.heap.objs.size+1=a at o3 ⊢;refine wpAny_bind (wpAny_holding (wpAny_call_entry_kw slot_list_sort ⟨_,o3,rfl⟩ entry_list_sort ?body (ksk_l1 _ _)));show wpAny (model X.prog X.w) A.in1.in1 (Builtin.«list.sort» ⟨[.ref a],[(Str.ofString "key",.ref f)]⟩) _ _ _
 rw[ksk_t1];unfold ksk_tree;obtain⟨e1,ho1⟩:∃e1,(h1.update a (Obj.mapSeq fun _=>(#[]:Array Value))).get? a=some (seqObj "list" #[] e1):=⟨_,get?_update_seq o3 fun _=>#[]⟩
 refine wpAny_bind (listItems_at o3 rfl ?_);refine wpAny_bind (listUpdate_at o3 rfl ?_ (by rw[List.size_toArray,sizeLine_eq];omega) (Nat.zero_le _))
 refine wpAny_bind (seqEpoch_at ho1 rfl ?_);refine wpAny_bind (wpAny_newTuple ?_ (by show vs.length<=_;rw[sizeLine_eq];omega))
 refine wpAny_bind (wpAny_newList ?_ (Nat.zero_le _));refine wpAny_holding ?_;have s1:=Heap.SameBut.update h1 a (Obj.mapSeq fun _=>(#[]:Array Value))
 have keep2:∀b o,s.heap.get? b=some o->(((h1.update a (Obj.mapSeq fun _=>(#[]:Array Value))).push (seqObj "tuple" vs.toArray 0)).push (seqObj "list" #[] 0)).get? b=some o:=fun b o q =>
  Heap.get?_push_of_some _ (Heap.get?_push_of_some _ ((s1.2 b (Nat.ne_of_lt (Nat.lt_of_lt_of_le (Heap.lt_size q) (ha▸Nat.le_succ _)))).trans (keep b o q)))
 have hkS:((h1.update a (Obj.mapSeq fun _=>(#[]:Array Value))).push (seqObj "tuple" vs.toArray 0)).objs.size=s.heap.objs.size+3:=by rw[size_push',Heap.size_update,zp]
 have hkN:(((h1.update a (Obj.mapSeq fun _=>(#[]:Array Value))).push (seqObj "tuple" vs.toArray 0)).push (seqObj "list" #[] 0)).get? (s.heap.objs.size+3)=some (seqObj "list" #[] 0):=by rw[<- hkS];exact Heap.get?_push_size _ rfl
 have haN:(((h1.update a (Obj.mapSeq fun _=>(#[]:Array Value))).push (seqObj "tuple" vs.toArray 0)).push (seqObj "list" #[] 0)).get? a=some (seqObj "list" #[] e1):=Heap.get?_push_of_some _ (Heap.get?_push_of_some _ ho1)
 show wpAny (model X.prog X.w) _ (ksk_rest a (.ref f) false vs.toArray e1 (.ref ((h1.update a (Obj.mapSeq fun _=>(#[]:Array Value))).push (seqObj "tuple" vs.toArray 0)).objs.size)) _ _ { s with heap:=((h1.update a (Obj.mapSeq fun _=>(#[]:Array Value))).push (seqObj "tuple" vs.toArray 0)).push (seqObj "list" #[] 0) }
 rw[hkS];have low:∀p∈X.pn++((f,fo)::pins),p.1<s.heap.objs.size:=fun p hp=>Heap.lt_size (I.pin p hp).1
 have J:=I.kept (t':=s.toks) keep2;have la:s.heap.objs.size<=a:=ha▸Nat.le_succ _;have lk:s.heap.objs.size<=s.heap.objs.size+3:=Nat.le_add_right _ _;have na:H a=none:=I.hok.fresh la;refine zgQ (G:=G) (kS:=s.heap.objs.size+3) (J.pins_of fun p hp=>?_) g (fun p hp=>?_) (fun p hp=>?_) (Nat.le_trans I.sz lk) (Nat.le_trans I.sz la) hlen h64 turn fun H' s' out g' hn' ko hi=>⟨_,rfl,wpAny_pure ⟨_,rfl,h H' s' out a g' na hn' ko hi⟩⟩
 ·rcases List.mem_cons.mp hp with rfl|hp
  ·exact⟨hkN,I.hok.fresh lk,Nat.ne_of_gt (Nat.lt_of_lt_of_le I.lt lk),I.nofs lk,fun v z=>by cases z⟩
  ·rcases List.mem_cons.mp hp with rfl|hp
   ·exact⟨haN,na,Nat.ne_of_gt (Nat.lt_of_lt_of_le I.lt la),I.nofs la,fun v z=>by cases z⟩
   ·exact J.pin p (List.mem_append_right _ hp)
 ·rcases List.mem_append.mp hp with hp|hp
  ·exact Nat.ne_of_lt (Nat.lt_of_lt_of_le (low p (List.mem_append_left _ hp)) lk)
  ·rcases List.mem_cons.mp hp with rfl|hp
   ·exact Nat.ne_of_lt (show a<_ by rw[<- ha];exact Nat.add_lt_add_left (by decide) _)
   ·exact Nat.ne_of_lt (Nat.lt_of_lt_of_le (low p (List.mem_append_right _ hp)) lk)
 ·exact Nat.ne_of_lt (Nat.lt_of_lt_of_le (low p (List.mem_append.mp hp|>.elim (fun z=>List.mem_append_left _ z) fun z=>List.mem_append_right _ (.tail _ z))) la)
end
end L2
namespace L2
open PySem PySem.Spec PySem.W PySem.Calls PyProof.Rows
def zeh(d dk:DTE):DTA:=fun ρ n R=>d ρ n fun t n1=>Qz t fun ts=>ts.length<64/\∃key:PyData->Int,(∀t∈ts,∀R':PyData->Nat->Prop,R' (.int (key t)) n1->dk [some (.val t)] n1 R') /\
 ∀ts':List PyData,ts'.Perm ts->ts'.Pairwise (fun a b=>key a<=key b)->R ts' n1
theorem zfB{xs:List V}{ts:qD}{vs out:List Value}{key:PyData->Int}(r:Vals xs vs)(ln:xs.length=ts.length)(ko:KskOut false (ts.map key) vs out) :
  ∃zs:List (V×PyData),zs.Perm (xs.zip ts)/\Vals (zs.map (·.1)) out/\zs.Pairwise (fun a b=>key a.2<=key b.2):=by
 obtain⟨ps,pm,rfl,pw⟩:=ko;have lv:=r.length;have pm1:ps.Perm (((xs.zip ts).zip ((ts.map key).zip vs)).map (·.2)):=by
  rw[List.map_snd_zip (by simp;omega)];exact pm
 obtain⟨ws,p1,p2⟩:=zcA pm1;have each:∀w∈(xs.zip ts).zip ((ts.map key).zip vs),RelV w.1.1 w.2.2/\w.2.1=key w.1.2:=fun w hw=>by
  obtain⟨i,hi,rfl⟩:=List.getElem_of_mem hw;have hx:i<xs.length:=by simp at hi;omega
  obtain⟨u,hu,ru⟩:=r.get (List.getElem?_eq_getElem hx);have hv:i<vs.length:=by omega
  rw[List.getElem?_eq_getElem hv]at hu;cases hu;simpa using ru
 have eachw:=fun w hw=>each w (p1.mem_iff.mp hw)
 refine⟨ws.map (·.1),?_,?_,?_⟩
 ·have:=p1.map (·.1)
  rwa [List.map_fst_zip (by simp;omega)]at this
 ·rw[<- p2];have:∀ws:List ((V×PyData)×(Int×Value)),(∀x∈ws,RelV x.1.1 x.2.2)->Vals ((ws.map (·.1)).map (·.1)) ((ws.map (·.2)).map Prod.snd):=by
   intro ws;induction ws with
   | nil=>intro _;exact .nil
   | cons a l ih=>intro h;exact .cons (h a (.head _)) (ih fun x hx=>h x (.tail _ hx))
  exact this ws fun x hx=>(eachw x hx).1
 ·rw[<- p2,List.pairwise_map]at pw;rw[List.pairwise_map];refine pw.imp_of_mem fun {a b} ha hb h=>?_
  rw[<- (eachw a ha).2,<- (eachw b hb).2];exact h
section
variable{X:Cx}{e:Expr}{d dk:DTE}{pos p kp lp:Pos}{k':Nat}{q x:Str}{params:Arguments}{body:Expr}{scope:Scope}{c P:Addr}
theorem zeI(hr:Room (k'+3) X.A)(hm:X.mg "sorted" = none) (h:DL X e d) (hs:starEach [e] X.env=[(false,eval e X.env)]) (L:zi8 X.mg X.base c P) (hP:X.H₀ P=some (.tbl q)) (hcode:X.env.code=.ref c) (hq:X.env.qual ++ "<lambda>" = q)
  (S:JJ [x] [x] scope) (hcl:closureFor scope X.env=pure []) (hdef:defaultsOf params X.env=([],[])) (hb:∀pm cv ctv u,bindArgs (kla_fn "<lambda>" q params body scope [] pm cv ctv) ⟨[u],[]⟩=pure [(x,u)])
  (hk:∀(f:Addr) (cv:Value) (A:Around) (s:Shared) (H:Hp),DE (cxOf CX0 X.prog X.w X.K X.mg X.base [x] q scope f cv A X.stack s H E0).nox body dk)
  (hg:Gl X "sorted":=by rfl) :
  DN X (.Call (.Name "sorted" p) [e] [⟨some "key",.Lambda params body scope lp,kp⟩] pos) (zeh d dk):=by
 obtain⟨ta,pa,h⟩:=h;refine⟨fun σ H Q=>∀pins s,Inv X pins σ H s->wpAny (model X.prog X.w) X.A (eval (.Call (.Name "sorted" p) [e] [⟨some "key",.Lambda params body scope lp,kp⟩] pos) X.env) (EP X pins σ Q) X.xe s,fun pins s σ H Q I h=>h pins s I,fun C ρ σ H n Q R S0 hd hQ pins s I=>?_⟩
 refine wpAny_Call_Name_kw (QQ I hg hm boot_sorted ?_);have hsb:backTo pos (starEach [e] X.env)=[(false,eval e X.env)]:=by rw[hs];rfl
 refine callWith_kw ?_ (by rw[hsb];rfl) (by rw[hsb];rfl)
 rw[hsb];refine Calls.spliced_cons (thn (pa pins s σ H (fun v H1=>∃t n1,(Qz t fun ts=>ts.length<64/\∃key:PyData->Int,(∀t∈ts,∀R':PyData->Nat->Prop,R' (.int (key t)) n1->dk [some (.val t)] n1 R') /\
  ∀ts':List PyData,ts'.Perm ts->ts'.Pairwise (fun a b=>key a<=key b)->R ts' n1)/\ExtE C.hd H H1/\Hn C.hd H1 n1/\RepT X.K C.hd (Own C ρ σ) H1 v t) I (h C ρ σ H n _ _ S0 hd fun t n1 v H1 r1 e1 h1 q1=>⟨t,n1,r1,e1,h1,q1⟩)) fun u s1 hu=>Calls.spliced_nil ?_)
 obtain⟨v,H1,I1,rv,t,n1,r1,e1,h1,q1⟩:=hu;have S1:=S0.on e1 h1;show wpAny (model X.prog X.w) X.A (evalAll [do let v <- eval (.Lambda params body scope lp) X.env;standAt pos;pure v]) _ _ s1
 refine wpAny_evalAll_cons (wpAny_bind (zkU I1 L hP hcode hcl hdef hq fun f cv ctv pm H2 s2 I2 up hf0 hfo hfn hcr=>wpAny_bind (wpAny_standAt (wpAny_pure ?_))))
 refine wpAny_evalAll_nil ?_;show wpAny (model X.prog X.w) X.A (call (.builtin "sorted") [u] [(Str.ofString "key",.ref f)]) _ _ s2
 have e2:ExtE C.hd H1 H2:=fun a o ha _=>up a o ha
 have h2:Hn C.hd H2 n1:=h1.same up;have I2f:Inv X ((f,lamO q params body scope pm cv ctv)::pins) σ H2 s2:=I2.pins_of fun p hp=>by
  rcases List.mem_cons.mp hp with rfl|hp
  ·exact⟨hfo,hfn,Nat.ne_of_gt (Nat.lt_of_lt_of_le I1.lt hf0),I1.nofs hf0,fun v z=>by cases z⟩
  ·exact I2.pin p (List.mem_append_right _ hp)
 have go:∀(l:Addr) (xs:List V) (ts:qD) (its:List Value) (o:Obj) (T:String) (m:Nat),Reps X.K C.hd (Own C ρ σ) H1 xs ts->Vals xs its->s2.heap.get? l=some o->o.cls=.type T->(T = "list" \/ T = "tuple")->o.data=.seq its.toArray m ->
   (ts.length<64/\∃key:PyData->Int,(∀t∈ts,∀R':PyData->Nat->Prop,R' (.int (key t)) n1->dk [some (.val t)] n1 R')/\∀ts':List PyData,ts'.Perm ts->ts'.Pairwise (fun a b=>key a<=key b)->R ts' n1) ->
   wpAny (model X.prog X.w) X.A (call (.builtin "sorted") [.ref l] [(Str.ofString "key",.ref f)]) (EP X pins σ Q) X.xe s2:=fun l xs ts its o T m rp rx ho hc hT hd' hh=>by
  obtain⟨l64,key,hkey,hR⟩:=hh;have ln:=rp.length;have lx:=rx.length;refine zer (G:=fun H'=>ExtE C.hd H2 H'/\Hn C.hd H' n1) (kz:=ts.map key) I2f ⟨.refl,h2⟩ ho hc hT hd' (by rw[List.length_map];omega) (by omega) (fun i u k hu hki pins' H' s' hm J g=>?_) fun H' s' out a g na na' ko hinv=>?_
  ·have hi:i<ts.length:=by
    have:=(List.getElem?_eq_some_iff.mp hki).1;simpa using this
   have ek:k=key ts[i]:=by
    rw[List.getElem?_map,List.getElem?_eq_getElem hi]at hki;exact(Option.some.inj hki).symm
   obtain⟨v,hv,rv⟩:=rp.get (List.getElem?_eq_getElem hi);obtain⟨u',hu',ru⟩:=rx.get hv;rw[hu]at hu';cases hu';have S':=(S1.on e2 h2).on g.1 g.2;have rv':=g.1.rep S'.hx (e2.rep S'.hx rv);obtain⟨te,pe,hte⟩:=hk f cv X.A.in1.in1 s' H';have hcr':Q5 H' cv q:=by
    obtain⟨c',o',u',vs',t',z1,z2,z3⟩:=hcr;refine⟨c',o',u',vs',t',z1,g.1 c' _ z2 fun z=>?_,z3⟩
    obtain⟨_,_,_,y,_⟩:=h2 c' z;rw[z2]at y;cases y
   obtain⟨S0',no⟩:=zbK (N:=[x]) (.cons rv' .nil) g.2 (fun a=>S'.lst) fun a z=>.inl (S'.hx a z)
   refine wpAny_call (codeAny_mono (zgH (k:=k') S (hr.in1).in1 J.env0.in1.in1 (J.pin _ (List.mem_append_right _ hm)).1 (hcr'.rec J.hok) (hb _ _ _ _) ru pe (hte ⟨C.hd,Own C ρ σ⟩ _ _ H' n1 (fun v H''=>v=.int k/\ExtE C.hd H2 H''/\Hn C.hd H'' n1) (fun t n'=>t=.int k/\n'=n1) S0' (hkey _ (List.getElem_mem hi) _ ⟨by rw[ek],rfl⟩)
    fun t n' v H'' hr e h q=>?_)) fun r s' hq=>?_)
   ·obtain⟨rfl,rfl⟩:=hr;exact⟨q.intI,g.1.trans e,h⟩
   ·cases r with
    | error e=>exact hq.elim
    | ok fl =>
     cases fl with
     | ret u =>
      obtain⟨v',H'',J',rv,rfl,g'⟩:=J.after hq;obtain⟨t,rfl⟩:=rv;exact⟨t,H'',rfl,J',g'⟩
     | next=>exact False.elim hq
     | brk=>exact False.elim hq
     | cont=>exact False.elim hq
  ·obtain⟨zs,zp,zv,zw⟩:=zfB rx ln ko;have S':=(S1.on e2 h2).on g.1 g.2;have rel:∀z∈zs,Rep X.K C.hd (Own C ρ σ) H' z.1 z.2:=fun z hz=>by
    obtain⟨i,hi,rfl⟩:=List.getElem_of_mem (zp.mem_iff.mp hz);have hi2:i<ts.length:=by simp at hi;omega
    obtain⟨v,h1,h2⟩:=rp.get (List.getElem?_eq_getElem hi2);have hi1:i<xs.length:=by omega
    rw[List.getElem?_eq_getElem hi1]at h1;cases h1;have:=g.1.rep S'.hx (e2.rep S'.hx h2);simpa using this
   have rp':Reps X.K C.hd (Own C ρ σ) H' (zs.map (·.1)) (zs.map (·.2)):=by
    have:∀zs:List (V×PyData),(∀z∈zs,Rep X.K C.hd (Own C ρ σ) H' z.1 z.2)->Reps X.K C.hd (Own C ρ σ) H' (zs.map (·.1)) (zs.map (·.2)):=by
     intro zs;induction zs with
     | nil=>intro _;exact .nil
     | cons a l ih=>intro h;exact .cons (h a (.head _)) (ih fun x hx=>h x (.tail _ hx))
    exact this zs rel
   have lz:zs.length<=sizeLine:=by
    have:=zp.length_eq;simp at this;rw[sizeLine_eq];omega
   have ee:ExtE C.hd H H':=e1.trans (e2.trans g.1);refine⟨.ref a,_,hinv _ zv (by rw[List.length_map];exact lz),rfl,hQ (zs.map (·.2)) n1 a _ _ (hR _ ?_ ?_) (ee.trans (ExtE.new na')) (g.2.same (JC na')) (UF ee g.2 na') Jn (zdX na' rp')⟩
   ·have:=zp.map (·.2)
    rwa [List.map_snd_zip (by omega)]at this
   ·rw[List.pairwise_map];exact zw
 have q2:=q1;cases t with
 | list ts =>
  obtain⟨l,xs,rfl,h1',hrp⟩:=q1.lstI;cases rv;obtain⟨its,r',pl,hz⟩:=I2.list (.of (up _ _ h1'));obtain⟨o,ho,hc,m,hd'⟩:=pl.isList;exact go l xs ts its o "list" m hrp r' ho hc (.inl rfl) hd' r1
 | tuple ts =>
  obtain⟨l,xs,rfl,h1',hrp⟩:=q1.tupI;cases rv;obtain⟨its,r',pl,hz⟩:=I2.tuple (h1'.imp (fun r=>r.imp (up _ _) fun⟨o,z⟩=>⟨o,up _ _ z⟩) id)
  obtain⟨o,ho,hc,m,hd'⟩:=pl;exact go l xs ts its o "tuple" m hrp r' ho hc (.inr rfl) hd' r1
 | _=>exact r1.elim
end
end L2
namespace L2
open PySem PySem.Spec PySem.W PySem.Calls PyProof.Rows Att
def spT(P:Addr)(q:Str)(sp:Sp):Sp:=fun vs H Q E=>H P=some (.tbl q)/\sp vs H Q E
section
variable{X:Cx}{CX:CXT}{k:Nat}{f P:Addr}{fd:FuncData}{ps:List Str}{sp:Sp}{dvs:List V}{ds:List Value}{E:XK}{x q:Str}{p pos:Pos}{e:Expr}{es:List Expr}{t:TA}
theorem zgz(F:FnOk X.prog X.w X.K X.mg X.base CX k f fd ps (spT P q sp))(hP:X.H₀ P=some (.tbl q))(hr:Room k X.A)(hg:Gl X x)(hm:X.mg x=some (.ref f))(hk:PySem.W.keepIn X.K (.ref f)=true)(hb:Binds X.K fd ps ds)(hd:Vals dvs ds)(hx:Uk CX X E)
  (ha:PA X (e::es) t) (hdb:(x == ("__debug__":Str))=false:=by decide) (he:starEach (e::es) X.env=(false,eval e X.env)::starEach es X.env:=by rfl) (hpl:(backTo pos (starEach es X.env)).any (·.1)=false:=by rfl) :
  PE X (.Call (.Name x p) (e::es) [] pos) (zhM sp dvs E t):=by
 intro pins s σ H Q I h;refine wpAny_Call_Name_kw (zfy I hg hm ?_ hdb);refine PySem.W.callWith_K (h₀:=X.base) I.ok.mod.kin hk (thn (ha pos pins s σ H _ I h) fun us s1 hh=>?_) he hpl
 obtain⟨vs,H1,I1,r,z⟩:=hh;exact⟨I1.kIn,zhj F hr hb hd hx I1 r ⟨I1.base.tbls P q hP,z⟩⟩
end
end L2
namespace Bd
open PySem PySem.Spec PySem.W PySem.Calls PyProof.Rows L2
def FQT(Z:ZZ)(P:Addr)(q x:Str)(st:Stmt)(ps:List Str)(k m:Nat)(g:GD):Prop:=∃f fd,Def Z.K Z.mg x st ps f fd/\FnOk Z.P Z.w Z.K Z.mg Z.base CX0 k f fd ps (spT P q (spD Z.K m g))
def LamZ(Z:ZZ)(x:Str)(c P:Addr):Prop:=(∀st ps f fd,Def Z.K Z.mg x st ps f fd->fd.code=.ref c)/\zi8 Z.mg Z.base c P
theorem Def.okT{P:Program}{w:World}{K:qF}{mg:qM}{base:Heap}{x q:Str}{st:Stmt}{ps N:List Str}{f Pt:Addr}{fd:FuncData}{k m:Nat}{g:GD}(D:Def K mg x st ps f fd)(S:JJ N ps (Jj st))(hm:m=ps.length)
  (hb:∀(cdv:Value) (A:Around) (outer:List Env) (s:Shared) (H:Hp) (E:XK),fd.code=cdv->Room k (A.deeper (envOfC x (Jj st) s.heap.objs.size f cdv))->H Pt=some (.tbl q)->∃d,DSs (cxOf CX0 P w K mg base N x (Jj st) f cdv A outer s H E).nox (Jx st) d /\
   ∀ts n R,ts.length=m->g ts n R->d { nx:=fun _ n'=>R .none n',rt:=R } (Jv N ts) n):FnOk P w K mg base CX0 (k+1) f fd ps (spT Pt q (spD K m g)):=by
 obtain⟨oc,od,kV,doc,pm,an,cdv,ct,osl,rfl,lk,hcd⟩:=D.F.ex;refine zkT lk hcd S (fun vs H Q E h=>?_) fun A outer s H vs Q E hr h=>?_
 ·obtain⟨_,hd,O,ts,n,R,r,_,_,_,hl,_⟩:=h;rw[r.length,hl,hm]
 ·obtain⟨hP,hd,O,ts,n,R,r,hn,dom,hx,hl,hg,hq⟩:=h;obtain⟨d,⟨t,pt,ht⟩,hd'⟩:=hb cdv A outer s H E rfl hr hP;obtain⟨S0,no⟩:=zbK (N:=N) r hn dom hx;refine⟨t,pt.nox,ht ⟨hd,O⟩ _ _ H n _ _ S0 (hd' ts n R hl hg) ⟨fun ρ' σ' H' n' h S' k'=>?_,fun t n' v H' h hn' k' rp=>?_,fun _ _ _ _ h=>h.elim,fun _ _ _ _ h=>h.elim,fun _ _ _ h=>h.elim⟩⟩
  ·exact hq .none n' .non H' h (fun a o ha nh=>(k' a o ha nh (no a)).1) S'.hnd .non
  ·exact hq t n' v H' h (fun a o ha nh=>k' a o ha nh (no a)) hn' rp
theorem okQT{Z:ZZ}{c P:Addr}{x q:Str}{st:Stmt}{ps N:List Str}{k m:Nat}{g:GD}(LZ:LamZ Z x c P)(D:Dq Z.K Z.mg x st ps)(S:JJ N ps (Jj st))(hm:m=ps.length)
  (hb:∀(f:Addr) (A:Around) (outer:List Env) (s:Shared) (H:Hp) (E:XK),Room k (A.deeper (envOfC x (Jj st) s.heap.objs.size f (.ref c)))->H P=some (.tbl q)->∃d,DSs (cxOf CX0 Z.P Z.w Z.K Z.mg Z.base N x (Jj st) f (.ref c) A outer s H E).nox (Jx st) d /\
   ∀ts n R,ts.length=m->g ts n R->d { nx:=fun _ n'=>R .none n',rt:=R } (Jv N ts) n):FQT Z P q x st ps (k+1) m g:=by
 obtain⟨f,fd,D⟩:=D;refine⟨f,fd,D,D.okT S hm fun cdv A outer s H E hc hr hP=>?_⟩
 obtain rfl:cdv=.ref c:=hc.symm.trans (LZ.1 _ _ _ _ D);exact hb f A outer s H E hr hP
section
variable{X:Cx}{x q:Str}{st:Stmt}{ps:List Str}{k n m:Nat}{g:GD}{p pos:Pos}{e:Expr}{es:List Expr}{ds:DTA}{P:Addr}
theorem zk6(F:FQT ⟨X.prog,X.w,X.K,X.mg,X.base⟩ P q x st ps k m g)(hP:X.H₀ P=some (.tbl q))(hr:Room n X.A)(h:DB X (e::es) ds)(hk:k<=n:=by decide)(hm:(e::es).length=m:=by rfl)(hg:Gl X x:=by rfl)
  (hdb:(x == ("__debug__":Str))=false:=by rfl):DE X (.Call (.Name x p) (e::es) [] pos) (dFn g ds):=by
 obtain⟨f,fd,D,G⟩:=F;obtain⟨ta,pa,h⟩:=h;refine⟨_,zgz G hP (hr.mono hk) hg D.m D.F.kp D.b .nil zjP pa.pa hdb pa.hd.1 (pa.hd.2 pos),fun C ρ σ H n Q R S hd hq=>?_⟩
 refine h C ρ σ H n _ _ S hd fun ts n1 vs H1 r1 e1 h1 q1 l1=>?_
 have S1:=S.on e1 h1;rw[List.append_nil];exact⟨C.hd,Own C ρ σ,ts,n1,R,q1,h1,fun a=>S1.lst,fun a z=>.inl (S.hx a z),l1.trans hm,r1,fun t n' v H' rt e2 h2 q2=>hq t n' v H' rt (e1.trans e2) h2 q2⟩
end
end Bd
namespace L2
open PySem PySem.Spec PySem.W PySem.Calls PyProof.Rows Att
theorem zfz{P:Program}{w:World}{K:qF}{mg mb:qM}{CX:CXT}{k:Nat}{fa a Pt:Addr}{fd:FuncData}{x q:Str}{sp:Sp}{s₁:Shared}{vs:List Value}{ns:List Int}
  (KX:K.In s₁.heap) (hT:s₁.heap.get? Pt=some (tabObj #[])) (hct:isCodeTable s₁.heap Pt) (hKP:K.lookup Pt=none) (hns:s₁.heap.Ns mainGlobals mg) (hb:s₁.heap.Ns builtinsNs mb) (hbb:∀x:Str,x ≠ "__name__" -> mb x=bootBuiltins x) (hlim:s₁.heap.NoLimit) (hg:s₁.gens=#[])
  (ha:s₁.heap.get? a=some { cls:=.type "list",data:=.seq vs.toArray }) (hi:IntsAre vs ns) (hl:ns.length<=sizeLine) (hr:Room k callerA)
  (F:∀base:Heap,K.In base->base.Ns mainGlobals mg->FnOk P w K mg base CX k fa fd [x] (spT Pt q sp)) (hbind:∀(s:Shared) (u:Value),BindsTo s fd ⟨[u],[]⟩ [(x,u)])
  (hsp:∀H:Hp,SqL K H a (ns.map V.int)->sp [.ref a] H (fun v _=>v=.bl true) fun _ _ _=>False)
  (hCX:∀H e s',CX [] H s₁ (fun _ _ _=>False) e s'->False) :
  codeAny (model P w) callerA (.call (.ref fa) ⟨[.ref a],[]⟩) (fun r s'=>r=.ok (.ret (.bool true))/\OldK s₁.heap s'.heap/\s'.os=s₁.os/\AllBare s'.gens) s₁:=by
 have rv:=zcQ hi;have lenV:=hi.length;have naP:a≠Pt:=fun z=>by rw[z,hT]at ha;cases ha
 have core:∀H:Hp,H Pt=some (.tbl q)->(∀b u,H b=some u->b≠Pt->b=a/\u=.frz { cls:=.type "list",data:=.seq vs.toArray } (.lst (ns.map V.int)))->SqL K H a (ns.map V.int)->(H a≠none->K.lookup a=none) ->
   codeAny (model P w) callerA (.call (.ref fa) ⟨[.ref a],[]⟩) (fun r s'=>r=.ok (.ret (.bool true))/\OldK s₁.heap s'.heap/\s'.os=s₁.os/\AllBare s'.gens) s₁:=by
  intro H hP hA hS hK;have hok:HOk P w H s₁.heap:=fun b u e=>by
   by_cases hb:b=Pt
   ·subst hb;rw[hP]at e;cases e;exact⟨#[],hT,trivial,fun pos cv z=>by cases z⟩
   ·obtain⟨rfl,rfl⟩:=hA b u e hb;exact⟨ha,by rw[List.length_map];exact hl,vs,_,rv,ha⟩
  have base_of:∀{b:Addr} {o:Obj},s₁.heap.get? b=some o->H b=none->(hidT s₁.heap H).get? b=some o:=fun e n=>zgZ e n
  have noA:∀{b:Addr} {o:Obj} {es:Array DictEntry} {ep:Nat},s₁.heap.get? b=some o->o.data=.dict es ep->H b=none:=fun {b o es ep} e d=>by
   cases z:H b with
   | none=>rfl
   | some u =>
    by_cases hb:b=Pt
    ·subst hb;rw[hT]at e;cases e;cases d
    ·obtain⟨rfl,_⟩:=hA b u z hb;rw[ha]at e;cases e;cases d
  have nsK:∀{b:Addr} {m:qM},s₁.heap.Ns b m->(hidT s₁.heap H).Ns b m:=fun {b m} ⟨o,es,ep,e,d,r⟩=>⟨o,es,ep,base_of e (noA e d),d,r⟩
  have hKb:K.In (hidT s₁.heap H):=fun b o e=>base_of (KX b o e) (by
   cases z:H b with
   | none=>rfl
   | some u =>
    by_cases hb:b=Pt
    ·subst hb;rw[hKP]at e;cases e
    ·obtain⟨rfl,_⟩:=hA b u z hb;rw[hK (by rw[z];simp)]at e;cases e)
  have hM:Mod K mg (hidT s₁.heap H):=⟨hKb,nsK hns,⟨mb,nsK hb,hbb⟩,let ⟨mc,h1,h2⟩:=hlim;⟨mc,nsK h1,h2⟩⟩
  have e0:Env0 P w K mg (hidT s₁.heap H) callerA [] s₁ H:=⟨rfl,hM,fun b o e=>zik e,Nat.le_of_eq (zfI _ _),trivial,fun b hb=>absurd (show b∈([]:List Addr) from hb) (by simp),hok,.of_eq hg⟩
  refine codeAny_mono ((F _ hKb (nsK hns)).run callerA [] s₁ H ⟨[.ref a],[]⟩ [.ref a] [.ref a] _ _ hr e0 (hbind s₁ (.ref a)) (.cons rfl .nil) ⟨hP,hsp H hS⟩) fun r s' h=>?_
  cases r with
  | error e=>exact(hCX H e s' h).elim
  | ok fl =>
   cases fl with
   | next=>exact False.elim h
   | brk=>exact False.elim h
   | cont=>exact False.elim h
   | ret u =>
    obtain⟨v,H',os,bare,un,hok',r',z⟩:=h;have z':v=.bl true:=z;subst z';obtain rfl:u=Value.bool true:=r';have kp:∀b o,b≠Pt->s₁.heap.get? b=some o->s'.heap.get? b=some o:=fun b o hb e=>by
     cases z:H b with
     | none=>exact un.keep b o e z (by intro z;exact absurd (show b∈([]:List Addr) from z) (by simp)) (by simp)
     | some u =>
      obtain⟨rfl,rfl⟩:=hA b u z hb;have z2:=un.frzs _ _ _ z;obtain⟨e1,_⟩:=hok _ _ z;obtain⟨e2,_⟩:=hok' _ _ z2;rw[e]at e1;cases e1;exact e2
    obtain⟨ps,hps,_⟩:=hok' Pt _ (un.tbls Pt q hP);refine⟨rfl,⟨fun b o e=>?_,fun b o e=>?_⟩,os,bare⟩
    ·by_cases hb:b=Pt
     ·subst hb;rw[hT]at e;cases e;exact .inr (.inl ⟨hct,rfl,#[],ps,rfl,by rw[Array.empty_append];exact hps⟩)
     ·exact .inl (kp b o hb e)
    ·by_cases hb:b=Pt
     ·subst hb;exact⟨_,hps⟩
     ·exact⟨o,kp b o hb e⟩
 cases hk:K.lookup a with
 | some o =>
  have e:=KX a o hk;rw[ha]at e;cases e;refine core (fun b=>if b=Pt then some (.tbl q) else none) (if_pos rfl) (fun b u e hb=>?_) (.inr ⟨_,vs.toArray,_,hk,rfl,rfl,rfl,by rw[List.size_toArray,lenV];exact hl,by simpa using rv⟩) fun z=>absurd (if_neg naP) z
  have z':=(if_neg hb).symm.trans e;cases z'
 | none =>
  refine core (fun b=>if b=Pt then some (.tbl q) else if b=a then some (.frz { cls:=.type "list",data:=.seq vs.toArray } (.lst (ns.map V.int))) else none) (if_pos rfl) (fun b u e hb=>?_) (.inl (.inr ⟨{ cls:=.type "list",data:=.seq vs.toArray },(if_neg naP).trans (if_pos rfl)⟩)) fun _=>hk
  have z':=(if_neg hb).symm.trans e
  by_cases hba:b=a
  ·subst hba;have z2:=(if_pos rfl).symm.trans z';exact⟨rfl,(Option.some.inj z2).symm⟩
  ·have z2:=(if_neg hba).symm.trans z';cases z2
end L2
namespace Bd
open PySem PySem.W PySem.Calls L2 PyProof.Rows
section
variable{q:Program}{loose:List Str}{mean:ExcName->Option Value}{mg mb:qM}{h:Heap}{x:Str}{st:Stmt}{ps:List Str}{c P:Addr}
abbrev gho(h:Heap)(c P:Addr):Heap:=ghostOf h [(c,P)]
theorem zk2(hT:TabsAt [(c,P)] h)(T:Top q loose mean mg mb h)(hd:recD st∈recsOf q)(hn:defName st=x)(hb:BndA x st ps):Dq (Js (gho h c P)) mg x st ps:=by
 obtain⟨a,o,pm,cd,doc,h1,h2,h3,h4⟩:=T.fn _ hd;have h1:mg (defName st)=some (.ref a):=h1;have h4:h.CodeRec cd (defName st):=h4;rw[hn]at h1 h4;have h4:(gho h c P).CodeRec cd x:=by
  obtain⟨c',o',vs,t,e1,e2,e3,e4⟩:=h4;exact⟨c',o',vs,t,e1,ghost_get hT e2 (fun z=>by rw[z]at e3;cases e3;cases e4),e3,e4⟩
 have h2:(gho h c P).get? a=some o:=ghost_get hT h2 fun z=>by rw[z]at h3;cases h3
 obtain⟨oc,od,dd,sl⟩:=o;have h3:dd=.func (docDef (defName st) (JP st) (Jx st) (Jj st) pm cd doc):=h3;rw[hn]at h3;have l:(Js (gho h c P)).lookup a=some ⟨oc,od,.func (PySem.W.fnOf x x (JP st) (Jx st) (Jj st) .none .none doc pm none cd .none),sl⟩:=by
  rw[Q1 h2,h3];rfl
 have kp:PySem.W.keepIn (Js (gho h c P)) (.ref a)=true:=by
  unfold PySem.W.keepIn;dsimp only;rw[l]
 exact⟨a,_,zhw l (zf2 h4) kp,(zhw l (zf2 h4) kp).binds hb,h1⟩
theorem zlI(T:Top q loose mean mg mb h)(hd:recD st∈recsOf q)(hn:defName st=x):∃c P,TabsAt [(c,P)] h/\isCodeTable h P/\∀base w Pr,(Js (gho h c P)).In base->LamZ ⟨Pr,w,Js (gho h c P),mg,base⟩ x c P:=by
 obtain⟨a,o,fd,c,P,h1,h2,h3,h4,h5,h6⟩:=T.tab _ hd;have h1:mg (defName st)=some (.ref a):=h1;rw[hn]at h1;have hT:TabsAt [(c,P)] h:=fun z hz=>by
  cases List.mem_singleton.mp hz;exact⟨CodeHd.of h5 h6,h6.2⟩
 refine⟨c,P,hT,h6.isCodeTable,fun base w Pr hB=>⟨fun st' ps' f fd' D=>?_,?_,?_⟩⟩
 ·have e:Value.ref f=Value.ref a:=Option.some.inj (D.m.symm.trans h1);cases e;obtain⟨oc,od,kV,doc,pm,an,cdv,ct,osl,rfl,lk,hcd⟩:=D.F.ex;have g2:(gho h c P).get? a=some o:=ghost_get hT h2 fun z=>by rw[z]at h3;cases h3
  have lk':=(Q1 g2).symm.trans lk;cases lk';have h3:Data.func _=Data.func fd:=h3;cases h3;exact h4
 ·exact((ghost_code hT).1).keeps fun b o e=>hB b o (Q1 e)
 ·obtain⟨bm,ob,a1,a2,a3,a4,r⟩:=(ghost_top hT T).bmain;exact⟨bm,ob,a1,a2,hB _ _ (Q1 a3),a4,r⟩
theorem zlH{lw:PySem.W.OpenLaw}{q:Program}{loose:List Str}{XP:(Str->Option Value)->Heap->Prop}{YP:World->Heap->Prop}{d:DefRec}{k:Nat}(hk:k<=60)(hn:lw.most=some 63)(hdf:d.params.defaults=[])
  (F:∀(w:World) (s₀:Shared) (mg mb:qM) (fa:Addr) (h:Heap),Ground q loose [] XP w s₀ mg mb h->mg d.name=some (.ref fa) ->
   ∃(c P:Addr) (qn:Str) (fd:FuncData),TabsAt [(c,P)] h/\isCodeTable h P/\(∀(s:Shared) (u:Value),BindsTo s fd ⟨[u],[]⟩ [("_law_script",u)])/\∀base:Heap,(Js (gho h c P)).In base->base.Ns mainGlobals mg->FnOk lw.prog w (Js (gho h c P)) mg base CX0 k fa fd ["_law_script"] (spT P qn (zhN (Js (gho h c P))))) :
  PySem.W.WalkO q loose XP YP lw.row.toRowW d [] (fun f vs=>PySem.call f vs):=by
 refine Att.attach_call hn hdf fun w s₀ s₁ mg mb fa o pm cd doc a vs ns G Y ho hd hcd hmg hobj hints hlen hg=>?_
 obtain⟨c,P,qn,fd,hT,hct,hb,hF⟩:=F w s₀ mg mb fa _ G hmg;have KX:(Js (gho s₁.heap c P)).In s₁.heap:=fun b o e=>of_hideAll _ (zcP b o e)
 have hKP:(Js (gho s₁.heap c P)).lookup P=none:=by
  cases e:(Js (gho s₁.heap c P)).lookup P with
  | none=>rfl
  | some o =>
   have e1:=zcP _ _ e;have e2:(gho s₁.heap c P).get? P=none:=hideAll_none _ (.head _);rw[e2]at e1;cases e1
 exact zfz KX (hT _ (.head _)).2 hct hKP G.T.g G.T.b G.T.builtins G.T.nolimit hg hobj hints (Nat.le_trans hlen (by decide)) ((show Room 60 callerA from⟨rfl,by decide,by decide,rfl⟩).mono hk) hF hb (fun H hS=>⟨a,ns,rfl,hS,hlen,fun _=>rfl⟩) fun H e s' z=>z
end
end Bd
namespace L2
open PySem PySem.Spec PyProof.Rows
theorem zf3{X:Cx}:Jw X (.type "range") (fun xs H Q=>∃j:Int,xs=[.int j]/\∀p,H p=none->Q (.ref p) (upd H p (.rng 0 j))):=by
 intro pins s σ H xs us Q I r h;obtain⟨j,rfl,q⟩:=h;cases r with
 | cons b r =>
  cases r;obtain⟨u,rfl⟩:=b;refine call_range_1 ⟨.ref s.heap.objs.size,_,I.laid (a:=s.heap.objs.size) (o:=.rng 0 j) (t':=s.toks+2) (fun b o e=>Heap.get?_push_of_some _ e) (Nat.le_refl _) ⟨_,_,_,Heap.get?_push_size _ rfl⟩,rfl,q _ (I.hok.fresh (Nat.le_refl _))⟩
section
variable{X:Cx}{b:Expr}{db:DTE}{p p0 p1 pos:Pos}
def zhF(db:DTE):DTA:=fun ρ n R=>db ρ n fun y n2=>lInt y fun j=>(0<=j/\j<=2 ^ 24)/\R (((List.range j.toNat).map fun(k:Nat)=>(k:Int)).map PyData.int) n2
theorem zg9(hc:X.calm=true)(hl:X.mg "list" = none) (hr:X.mg "range" = none) (h':DE X b db) (s2:starEach [b] X.env=[(false,eval b X.env)]:=by rfl)
  (s3:starEach [.Call (.Name "range" p0) [b] [] p1] X.env=[(false,eval (.Call (.Name "range" p0) [b] [] p1) X.env)]:=by rfl) (g1:Gl X "list":=by rfl) (g2:Gl X "range":=by rfl):DN X (.Call (.Name "list" p) [.Call (.Name "range" p0) [b] [] p1] [] pos) (zhF db):=by
 obtain⟨tb,pb,h'⟩:=h';refine⟨_,Ug (zeM hc) hl (by decide +kernel) (JE (Ug zf3 hr (by decide +kernel) (JE pb JV s2) g2) JV s3) g1,fun C ρ σ H n Q R S hd hq=>?_⟩
 refine h' C ρ σ H n _ _ S hd fun y n2 w H2 r2 e2 h2 q2=>?_
 cases y with
 | int j =>
  obtain⟨bd,r2⟩:=r2;have ew:=q2.intI;subst ew;refine⟨j,rfl,fun q hq'=>⟨q,0,j,rfl,Jn,by omega,fun l hl'=>?_⟩⟩
  have e3:=e2.trans (ExtE.new (o:=.rng 0 j) hq');have h3:=h2.same (JC (o:=.rng 0 j) hq');have ej:((List.range (j - 0).toNat).map fun(k:Nat)=>(0:Int)+(k:Int))=(List.range j.toNat).map fun(k:Nat)=>(k:Int):=by
   rw[Int.sub_zero];exact List.map_congr_left fun k _=>Int.zero_add _
  rw[ej];exact hq _ n2 l _ _ r2 (e3.trans (ExtE.new hl')) (h3.same (JC hl')) (UF e3 h3 hl') Jn (ze_ _)
 | _=>exact r2.elim
end
section
variable{ρ:En}{n:Nat}{Rl:List PyData->Nat->Prop}{d dk db:DTE}
instance zlM:Stp (zhF db ρ n Rl) (db ρ n fun y n2=>lInt y fun j=>(0<=j/\j<=2 ^ 24)/\Rl (((List.range j.toNat).map fun(k:Nat)=>(k:Int)).map PyData.int) n2):=⟨fun h=>h⟩
instance zjt:Stp (zeh d dk ρ n Rl) (d ρ n fun t n1=>Qz t fun ts=>ts.length<64/\∃key:PyData->Int,(∀t∈ts,∀R':PyData->Nat->Prop,R' (.int (key t)) n1->dk [some (.val t)] n1 R') /\
 ∀ts':List PyData,ts'.Perm ts->ts'.Pairwise (fun a b=>key a<=key b)->Rl ts' n1):=⟨fun h=>h⟩
end
end L2
namespace Bd
open PySem L2
def top(i:Nat):Stmt:=PySem.Challenge.pw_blockdeal_k14_what_rules_decide.main.body.getD i (.Pass ⟨0,0,0,0⟩)
set_option maxHeartbeats 4000000
local macro_rules | `(tactic| walk_at "S") => `(tactic| first | with_reducible refine zeq ?_ | with_reducible refine Stp.go ?_ | with_reducible refine j_all (by with_unfolding_all rfl) ?_ | with_reducible refine j_any (by with_unfolding_all rfl) ?_ | with_reducible refine zhs (by with_unfolding_all rfl) ?_ | with_reducible refine zht (by with_unfolding_all rfl) ?_ | with_reducible refine zef (by with_unfolding_all rfl) ?_ | with_reducible refine zee (by with_unfolding_all rfl) ?_)
set_option hygiene false in
local macro_rules | `(tactic| walk_at "K") => `(tactic| first | walk_at "S" | with_reducible refine zkw (fun hc => ?_) (fun hc => ?_) | with_reducible refine zmG (fun hc => ?_) (fun hc => ?_) | with_reducible refine And.intro ?_ ?_)
set_option hygiene false in
local macro_rules | `(tactic| wp_walk using $ts:term,*) => `(tactic| repeat' (first $[| with_reducible refine $ts:term]* | walk_at "K"))
local macro_rules | `(tactic| wp_walk) => `(tactic| repeat' walk_at "K")
structure Txt(mg:qM):Prop where
 isi:mg "isinstance" = none
 int:mg "int" = none
 boo:mg "bool" = none
 tup:mg "tuple" = none
 len:mg "len" = none
 min:mg "min" = none
 max:mg "max" = none
 str:mg "str" = none
 rep:mg "repr" = none
 all:mg "all" = none
 any:mg "any" = none
 ran:mg "range" = none
 sum:mg "sum" = none
 srt:mg "sorted" = none
 lst:mg "list" = none
 abs:mg "abs" = none
 zip:mg "zip" = none
 dct:mg "dict" = none
 rev:mg "reversed" = none
 enu:mg "enumerate" = none
section
variable{P:Program}{w:World}{K:qF}{mg:qM}{base:Heap}{Z:ZZ}
def zdb:GD:=fun ts n R=>∃i h:Int,ts=[.tuple [.int i,.int h]]/\0<=h/\h<=1000/\R (.int (2 ^ h.toNat)) n
theorem zf7{i h:Int}{n:Nat}{R:qN}(g0:0<=h)(g1:h<=1000)(h':R (.int (2 ^ h.toNat)) n):zdb [.tuple [.int i,.int h]] n R:=⟨_,_,rfl,g0,g1,h'⟩
def zcV(Z:ZZ):Prop:=FQ Z "size_of" (top 1) ["block"] 1 (spD Z.K 1 zdb)
theorem zey(D:Dq Z.K Z.mg "size_of" (top 1) ["block"]) (T:Txt Z.mg):zcV Z:=by
 refine' okQ D (fnS (N:=["block"]) (by decide +kernel)) rfl fun f cdv A outer s H E hr=>⟨_,(Jk (JA (JS dli (dl (JL (dlv 0) dli))))),?_⟩
 intro ts n R hl hh;obtain⟨i,h,rfl,g0,g1,hh⟩:=hh
 wp_walk
 ·exact cpow (by lia) (by lia)
 ·rw[zcB];exact hh
def zeg:GD:=fun ts n R=>∃i h:Int,ts=[.tuple [.int i,.int h]]/\0<=h/\h<=1000/\R (.int (i+2 ^ h.toNat)) n
theorem zhd{i h:Int}{n:Nat}{R:qN}(g0:0<=h)(g1:h<=1000)(h':R (.int (i+2 ^ h.toNat)) n):zeg [.tuple [.int i,.int h]] n R:=⟨_,_,rfl,g0,g1,h'⟩
def zd0(Z:ZZ):Prop:=FQ Z "end_of" (top 3) ["block"] 2 (spD Z.K 1 zeg)
theorem zfq(D:Dq Z.K Z.mg "end_of" (top 3) ["block"]) (h_size_of:zcV Z) (T:Txt Z.mg):zd0 Z:=by
 refine' okQ D (fnS (N:=["block"]) (by decide +kernel)) rfl fun f cdv A outer s H E hr=>⟨_,(Jk (JA (Qe (dl (JL (dlv 0) dli)) (dl (Jr h_size_of hr (dbv 0 Jb)))))),?_⟩
 intro ts n R hl hh;obtain⟨i,h,rfl,g0,g1,hh⟩:=hh
 wp_walk using zf7 ?_ ?_ ?_
 ·lia
 ·lia
 ·exact hh
def inB(b:Int×Int)(a:Int):Prop:=b.1<=a/\a<b.1+2 ^ b.2.toNat
def SgOf(rs:RL)(a s:Int):Prop:=(s=0/\∀r∈rs,¬inB r.1 a)\/∃r∈rs,inB r.1 a/\r.2=s/\∀r'∈rs,inB r'.1 a->r.1.2<=r'.1.2
def zdc:GD:=fun ts n R=>∃(bits:Int) (rs:RL) (a:Int),ts=[.tuple (rD rs),.int a]/\0<=bits/\bits<=64/\Rls bits rs/\rs.length<=1000/\∀s,SgOf rs a s->R (.int s) n
theorem zf8{bits:Int}{rs:RL}{a:Int}{n:Nat}{R:qN}(b0:0<=bits)(b1:bits<=64)(A:Rls bits rs)(l:rs.length<=1000)(h:∀s,SgOf rs a s->R (.int s) n):zdc [.tuple (rD rs),.int a] n R:=⟨bits,rs,a,rfl,b0,b1,A,l,h⟩
def zcW(Z:ZZ):Prop:=FQ Z "decided" (top 5) ["rules","address"] 3 (spD Z.K 2 zdc)
theorem zez(D:Dq Z.K Z.mg "decided" (top 5) ["rules","address"]) (h_end_of:zd0 Z) (T:Txt Z.mg):zcW Z:=by
 refine' okQ D (fnS (N:=["rules","address","deciding"]) (by decide +kernel)) rfl fun f cdv A outer s H E hr=>⟨_,(Jl (ziS (zg8 (i:=2) (ndB rfl) rfl (Or.inl rfl) (own:=["block","sign"]) (capt:=[1]) rfl (Jz.of rfl) (dil (zhC (JX 0))) (fun _ _ _ _=>(QO rfl (JU (dgv 0 (ndB rfl)) (JU (dgv 1 (ndB rfl)) Q0)))) (by decide) (fun _ _ _ _=>(ziO (zg5 zhp zhv (zfo hr) zfL (dl (JL (dlv 0) dli)) (dlv 2) (dl (Jr h_end_of hr (dbv 0 Jb)))))) (fun _ _ _ _=>(Qo (dbc (JL (dlv 0) dli) (dbv 1 Jb)))))) (Jl (J8 (zhy (zfN (dlv 2))) (Jk (JA Jd)) Qh) (Jk (JA (JL (dl (JW (zf4 hr rfl) ziH T.min UG (Ju (dlv 2) JO JT))) dli))))),?_⟩
 intro ts n R hl h;obtain⟨bits,rs,a,rfl,b0,b1,A,l,h⟩:=h
 wp_walk
 refine zdG (cs:=rs) (D:=fun r=>.tuple [.tuple [.int r.1.1,.int r.1.2],.int r.2]) (fun r=>decide (r.1.1<=a/\a<r.1.1+2 ^ r.1.2.toNat)) (fun r=>prD (r.1.2,r.2)) (by lia) ?_ ?_
 ·intro r hr K X hK hX;have ok:=(A.1 r hr).1;have k0:=ok.1;have k1:=ok.2.1
  wp_walk using zhd (by lia) (by lia) ?_
  all_goals first
   | exact hK (decide_eq_true (by generalize (2:Int) ^ r.1.2.toNat=X at *;lia))
   | exact hX (decide_eq_false (by generalize (2:Int) ^ r.1.2.toNat=X at *;lia))
 ·have mf:∀r,r∈(rs.filter fun r=>decide (r.1.1<=a/\a<r.1.1+2 ^ r.1.2.toNat))↔r∈rs/\inB r.1 a:=fun r=>by rw[List.mem_filter,decide_eq_true_eq];rfl
  have e:(List.map (fun r:(Int×Int)×Int=>prD (r.1.2,r.2)) (rs.filter fun r=>decide (r.1.1<=a/\a<r.1.1+2 ^ r.1.2.toNat)))=pD ((rs.filter fun r=>decide (r.1.1<=a/\a<r.1.1+2 ^ r.1.2.toNat)).map fun r=>(r.1.2,r.2)):=by
   unfold pD;rw[List.map_map];rfl
  wp_walk
  ·refine h 0 (.inl ⟨rfl,fun r hr z=>?_⟩)
   rw[List.isEmpty_iff,List.map_eq_nil_iff]at hc;have:=(mf r).mpr ⟨hr,z⟩;rw[hc]at this;cases this
  ·rw[e];refine zkf (fun z=>?_) fun b hb hm=>?_
   ·rw[List.map_eq_nil_iff]at z;rw[z]at hc;cases hc
   ·obtain⟨r,hr,rfl⟩:=List.mem_map.mp hb;obtain⟨q1,q2⟩:=(mf r).mp hr
    wp_walk
    refine h r.2 (.inr ⟨r,q1,q2,rfl,fun r' hr' z=>?_⟩)
    have:=hm (r'.1.2,r'.2) (List.mem_map.mpr ⟨r',(mf r').mpr ⟨hr',z⟩,rfl⟩);rw[Bool.eq_false_iff,Ne,pLt_iff]at this;dsimp only at this;lia
theorem scH:JJ ["_law_script","_law_k","_law_cell"] ["_law_script","_law_k"] (Jj (top 7)):=⟨rfl,rfl,rfl,by decide +kernel,rfl,by decide +kernel,by decide +kernel⟩
theorem zc4{f:Addr}{fd:FuncData}(D:Def K mg "_law_hand" (top 7) ["_law_script","_law_k"] f fd) (T:Txt mg):FnOk P w K mg base CX0 1 f fd ["_law_script","_law_k"] (Us K):=by
 refine D.F.ok scH (fun vs H Q E h=>?_) (fun cdv A outer s H vs Q E hr h=>?_)
 ·obtain⟨a,ns,k,rfl,_⟩:=h
  rfl
 ·obtain⟨a,ns,k,rfl,hS,hl,k0,k1,q⟩:=h;refine⟨_,JG (JN (i:=2) scH.nd rfl (Or.inl rfl) Ji)
   (JG (zh2 (zdu zjZ (pv 1) (Uf zdk T.len zcf (pb_v 0 JV)) (JM _)) (QW (JN (i:=2) scH.nd rfl (Or.inl rfl) (J9 Qf (pv 0) (pv 1) (fun _ _=>rfl)))) zdv)
   (QW (UB (zfj (zhn (Jh JZ (pv 2) (Ug zf6 T.int boot_int (zjO (zib zmh (pv 2) (Jh zjW Ji Ji) (JM _)) JV)))
    (zhn (Jh JY (Jh JY (Jh Qm (pv 2) Ji) (Jh JZ Ji (pv 1))) Ji) (pb_i JV))))))),?_⟩
  refine⟨_,rfl,_,rfl,a,_,rfl,.inl hS,_,_,rfl,rfl,_,rfl,?_⟩;have fin:∀c:Int,tRet (tLst (JK (tOp (rI CMul fun i j=>V.int (i*j)) (tVar 2) (tCB (fun xs H Q=>(∃i,xs=[.int i]/\Q (.int i) H)\/∃k,xs=[.bl k]/\Q (.int (if k then 1 else 0)) H) (JK (tOp (rI0 fun i j=>.bl (decide (j<=i))) (tVar 2) (tOp (rI CPow fun i j=>.int (i ^ j.toNat)) (tC (.int 10)) (tC (.int 18)))) tNil)))
    (JK (tOp (rI0 fun i j=>.int (i+j)) (tOp (rI0 fun i j=>.int (i+j)) (tOp (rI (fun _ j=>0<j) fun i j=>.int (i % j)) (tVar 2) (tC (.int 2305843009213693951))) (tOp (rI CMul fun i j=>V.int (i*j)) (tC (.int 7919)) (tVar 1))) (tC (.int 3))) (JK (tC (.int 0)) tNil))))
    { nx:=fun _ H'=>Q .non H',rt:=Q } [some (.ref a),some (.int k),some (.int c)] H:=by
   intro c;refine⟨_,rfl,_,rfl,_,_,rfl,rfl,⟨by decide,by decide,by decide⟩,_,_,rfl,rfl,.inr ⟨_,rfl,_,_,rfl,rfl,.inr ?_,?_⟩⟩
   ·split <;> decide
   ·refine⟨_,rfl,_,_,rfl,rfl,(by show(0:Int)<2305843009213693951;decide),_,rfl,_,_,rfl,rfl,.inl ⟨by decide,by decide⟩,_,_,rfl,rfl,_,_,rfl,rfl,(by show 3<=sizeLine;decide),fun l hn=>?_⟩
    refine q l _ hn ⟨_,_,_,Jn,?_,?_,Int.le_refl _,Int.le_refl _⟩ (zgj hn)
    ·lia
    ·lia
  refine zkp (fun c=>?_) (fun c=>?_)
  ·have hk:k.toNat<ns.length:=by rw[List.length_map]at c;lia
   refine⟨_,rfl,_,rfl,a,_,_,V.int (ns[k.toNat]),rfl,rfl,hS,?_,?_⟩
   ·exact zdM k0 (by rw[List.getElem?_map,List.getElem?_eq_getElem hk];rfl)
   ·exact fin _
  ·exact fin 0
def zbT(Z:ZZ):Prop:=FQ Z "_law_hand" (top 7) ["_law_script","_law_k"] 1 (Us Z.K)
theorem zcD(D:Dq Z.K Z.mg "_law_hand" (top 7) ["_law_script","_law_k"]) (T:Txt Z.mg):zbT Z:=by
 obtain⟨f,fd,D⟩:=D;exact⟨f,fd,D,zc4 D T⟩
theorem zcS{H:Hp}{hd:Addr}{o:HO}:zlc hd H (upd H hd o):=fun b u e n=>by rw[Ja n];exact e
theorem scT:JJ ["_law_hand_here","_law_many","_law_digit","_law_turn","_law_mixed","_law_odd"] ["_law_hand_here","_law_many"] (Jj (top 8)):=⟨rfl,rfl,rfl,by decide +kernel,rfl,by decide +kernel,by decide +kernel⟩
theorem zgD{f:Addr}{fd:FuncData}(D:Def K mg "_law_take" (top 8) ["_law_hand_here","_law_many"] f fd) (T:Txt mg):FnOk P w K mg base CX0 1 f fd ["_law_hand_here","_law_many"] zhh:=by
 refine D.F.ok scT (fun vs H Q E h=>?_) (fun cdv A outer s H vs Q E hr h=>?_)
 ·obtain⟨hd,many,n,rfl,_⟩:=h
  rfl
 ·obtain⟨hd,many,n,rfl,⟨d,m,t,hh,m0,m1,t0,t1⟩,hn,y0,y1,q⟩:=h;refine⟨_,JG (zh2 (zdu zif (J9 Qf (pv 0) Ji (fun _ _=>rfl)) Ji (JM _))
    (JG (JN (i:=2) scT.nd rfl (Or.inl rfl) (Jh Qm (J9 Qf (pv 0) Ji (fun _ _=>rfl)) (pv 1)))
    (JG (zfg (Jh UK (J9 Qf (pv 0) Ji (fun _ _=>rfl)) (pv 1)) (zhm (pv 0) Ji set_list))
    (QW (UB (pv 2))))) zdv)
   (JG (zfg (Jh JY (J9 Qf (pv 0) Ji (fun _ _=>rfl)) Ji) (zhm (pv 0) Ji set_list))
   (JG (JN (i:=3) scT.nd rfl (Or.inl rfl) (J9 Qf (pv 0) Ji (fun _ _=>rfl)))
   (JG (JN (i:=4) scT.nd rfl (Or.inl rfl) (Jh Qm (Jh JZ (J9 Qf (pv 0) Ji (fun _ _=>rfl)) (Jh JY (Jh JY Ji (Jh JZ (Jh JZ Ji (pv 3)) (pv 3))) (Jh JZ Ji (pv 3)))) Ji))
   (JG (JN (i:=5) scT.nd rfl (Or.inl rfl) (Jh JY (Jh JY (Jh Qm (pv 4) Ji) (Jh JZ (pv 3) Ji)) Ji))
   (JG (JN (i:=4) scT.nd rfl (Or.inl rfl) (Jh Qm (Jh JZ (pv 4) (pv 5)) Ji))
   (QW (UB (Jh Qm (Jh JY (Jh UK (pv 4) Ji) (Jh UK (pv 4) Ji)) (pv 1))))))))),?_⟩
  refine⟨_,rfl,hd,_,_,_,rfl,rfl,.of hh,rfl,_,_,rfl,rfl,_,rfl,?_⟩;refine zkp (fun c=>?_) (fun c=>?_)
  ·refine⟨_,rfl,hd,_,_,_,rfl,rfl,.of hh,rfl,_,rfl,_,_,rfl,rfl,y0,?_⟩;refine⟨_,rfl,hd,_,_,_,rfl,rfl,.of hh,rfl,_,rfl,_,_,rfl,rfl,⟨y0,y1⟩,?_⟩;refine⟨_,rfl,hd,_,_,0,rfl,rfl,hh,rfl,?_⟩;refine⟨_,rfl,?_⟩;exact q _ _ (Int.emod_nonneg _ (by lia)) (Int.emod_lt_of_pos _ y0) ⟨_,_,_,Jn,m0,m1,t0,by lia⟩ zcS
  ·refine⟨_,rfl,hd,_,_,_,rfl,rfl,.of hh,rfl,_,_,rfl,rfl,?_⟩;refine⟨_,rfl,hd,_,_,2,rfl,rfl,hh,rfl,?_⟩;refine⟨_,rfl,hd,_,_,_,rfl,rfl,.of Jn,rfl,?_⟩;refine⟨_,rfl,hd,_,_,_,rfl,rfl,.of Jn,rfl,_,rfl,_,_,rfl,rfl,.inl ⟨by decide,by decide⟩,_,rfl,_,_,rfl,rfl,.inr ⟨by lia,by lia⟩,_,_,rfl,rfl,_,rfl,_,_,rfl,rfl,.inl ⟨by decide,by decide⟩,_,_,rfl,rfl,_,_,rfl,rfl,.inl ⟨by lia,by lia⟩,_,_,rfl,rfl,(by show(0:Int)<2305843009213693921;decide),?_⟩
   refine⟨_,rfl,_,_,rfl,rfl,(by show(0:Int)<1000003;decide),_,rfl,_,_,rfl,rfl,.inr ⟨by decide,by decide⟩,_,_,rfl,rfl,_,_,rfl,rfl,?_⟩
   refine⟨_,rfl,_,rfl,_,_,rfl,rfl,.inl ⟨by lia,by lia⟩,_,_,rfl,rfl,(by show(0:Int)<2305843009213693907;decide),?_⟩
   refine⟨_,rfl,_,_,rfl,rfl,⟨by decide,by decide⟩,_,rfl,_,_,rfl,rfl,⟨by decide,by decide⟩,_,_,rfl,rfl,_,rfl,_,_,rfl,rfl,y0,?_⟩
   exact q _ _ (Int.emod_nonneg _ (by lia)) (Int.emod_lt_of_pos _ y0) ⟨_,_,_,Jn,m0,m1,by lia,by lia⟩ zcS
theorem zc0{f:Addr}{fd:FuncData}(D:Def K mg "_law_take" (top 8) ["_law_hand_here","_law_many"] f fd) (T:Txt mg):FnOk P w K mg base CX0 1 f fd ["_law_hand_here","_law_many"] (spD K 2 Qq) :=
 (zgD D T).imp zgi
def QD(Z:ZZ):Prop:=FQ Z "_law_take" (top 8) ["_law_hand_here","_law_many"] 1 (spD Z.K 2 Qq)
theorem zcC(D:Dq Z.K Z.mg "_law_take" (top 8) ["_law_hand_here","_law_many"]) (T:Txt Z.mg):QD Z:=by
 obtain⟨f,fd,D⟩:=D;exact⟨f,fd,D,zc0 D T⟩
def Q3:GD:=fun ts n R=>match ts with
 | [h,.list xs]=>h=HAND/\xs≠[]/\xs.length<=1000000/\n<=1000000000000/\∀x∈xs,R x (n+1)
 | [h,.tuple xs]=>h=HAND/\xs≠[]/\xs.length<=1000000/\n<=1000000000000/\∀x∈xs,R x (n+1)
 | _=>False
theorem zbd{xs:qD}{n:Nat}{R:qN}(h0:xs≠[])(h1:xs.length<=1000000)(hn:n<=1000000000000)(h:∀x∈xs,R x (n+1)):Q3 [HAND,.list xs] n R:=⟨rfl,h0,h1,hn,h⟩
def QC(Z:ZZ):Prop:=FQ Z "_law_pick" (top 9) ["_law_hand_here","_law_some"] 2 (spD Z.K 2 Q3)
theorem zc2(D:Dq Z.K Z.mg "_law_pick" (top 9) ["_law_hand_here","_law_some"]) (h__law_take:QD Z) (T:Txt Z.mg):QC Z:=by
 refine' okQ D (fnS (N:=["_law_hand_here","_law_some"]) (by decide +kernel)) rfl fun f cdv A outer s H E hr=>⟨_,(Jk (JA (JL (dlv 1) (dl (Jr h__law_take hr (dbv 0 (dbc (JW zek zhu T.len zcf (Ju (dlv 1) JO JT)) Jb))))))),?_⟩
 intro ts n R hl h;unfold Q3 at h;split at h
 ·rename_i hd xs;obtain⟨rfl,h0,h1,h2,h⟩:=h;have hp:0<xs.length:=List.length_pos_iff.mpr h0
  wp_walk using Qx (by lia) (by lia) h2 (fun r r0 r1=>?_)
  have hr':r.toNat<xs.length:=by lia
  rw[zmk (zdM r0 (List.getElem?_eq_getElem hr'))];exact h _ (List.getElem_mem hr')
 ·rename_i hd xs;obtain⟨rfl,h0,h1,h2,h⟩:=h;have hp:0<xs.length:=List.length_pos_iff.mpr h0
  wp_walk using Qx (by lia) (by lia) h2 (fun r r0 r1=>?_)
  have hr':r.toNat<xs.length:=by lia
  rw[zit (zdM r0 (List.getElem?_eq_getElem hr'))];exact h _ (List.getElem_mem hr')
 ·exact h.elim
def zbc:GD:=fun ts n R=>match ts with
 | [h]=>h=HAND/\n<=1000000000000/\∀b:Int,1<=b->b<=64->R (.int b) (n+1)
 | _=>False
theorem zdK{n:Nat}{R:qN}(hn:n<=1000000000000)(h:∀b:Int,1<=b->b<=64->R (.int b) (n+1)):zbc [HAND] n R:=⟨rfl,hn,h⟩
def zbU(Z:ZZ):Prop:=FQ Z "_law_bits" (top 10) ["_law_hand_here"] 3 (spD Z.K 1 zbc)
theorem zc5(D:Dq Z.K Z.mg "_law_bits" (top 10) ["_law_hand_here"]) (h__law_pick:QC Z) (T:Txt Z.mg):zbU Z:=by
 refine' okQ D (fnS (N:=["_law_hand_here"]) (by decide +kernel)) rfl fun f cdv A outer s H E hr=>⟨_,(Jk (JA (Jr h__law_pick hr (dbv 0 (dbc (JH (Qc (dbc Jd (dbc Jd (dbc Jd (dbc Jd (dbc Jd (dbc Jd (dbc Jd (dbc Jd (dbc Jd (dbc Jd Jb)))))))))))) Jb))))),?_⟩
 intro ts n R hl h;unfold zbc at h;split at h
 ·obtain⟨rfl,h1,h⟩:=h;simp only[zeU,zeV,zeT,u_dC,zhI,zeZ,zeX,zeY,zds,zhJ,zcv,zeW,zfA,UE,Uv,Uw,Ux,UD,UM,oSub,oMul,oMod,Qw,oShl,oShr,oXor,isInt,isBool,l_gI,ziu,Um,Q8,Ud,Ue,Ua,Q9,Uo,Uq,Ur,Uy,Q7,Uc,Ub,UJ,UI,QV,Jv,Jp,capV,List.map_cons,List.map_nil,List.length_cons,List.length_nil,List.replicate_succ,List.replicate_zero,List.cons_append,List.nil_append,List.append_nil,List.getElem?_cons_succ,List.getElem?_cons_zero,List.set_cons_succ,List.set_cons_zero,List.getD_cons_succ,List.getD_cons_zero,Nat.zero_add,Nat.reduceAdd,Nat.reduceSub,Nat.sub_self,true_and,and_true,Bool.false_eq_true,if_true,if_false,ite_true,ite_false,Bool.not_true,Bool.not_false,Int.natCast_zero,Q3]
  refine⟨by simp,by decide,h1,fun x hx=>?_⟩
  simp only[List.mem_cons,List.not_mem_nil,or_false]at hx;rcases hx with rfl|rfl|rfl|rfl|rfl|rfl|rfl|rfl|rfl|rfl <;> exact h _ (by decide) (by decide)
 ·exact h.elim
def za0:GD:=fun ts n R=>match ts with
 | [h,.int bits]=>h=HAND/\1<=bits/\bits<=64/\n<=1000000000000 - 10/\∀i h:Int,IsBk bits i h->R (.tuple [.int i,.int h]) (n+3)
 | _=>False
theorem zbB{bits:Int}{n:Nat}{R:qN}(b0:1<=bits)(b1:bits<=64)(hn:n<=1000000000000 - 10)(h:∀i h:Int,IsBk bits i h->R (.tuple [.int i,.int h]) (n+3)):za0 [HAND,.int bits] n R:=⟨rfl,b0,b1,hn,h⟩
def zaW(Z:ZZ):Prop:=FQ Z "_law_block" (top 11) ["_law_hand_here","_law_bits_here"] 3 (spD Z.K 2 za0)
theorem zcF(D:Dq Z.K Z.mg "_law_block" (top 11) ["_law_hand_here","_law_bits_here"]) (h__law_pick:QC Z) (h__law_take:QD Z) (T:Txt Z.mg):zaW Z:=by
 refine' okQ D (fnS (N:=["_law_hand_here","_law_bits_here","_law_height"]) (by decide +kernel)) rfl fun f cdv A outer s H E hr=>⟨_,(Jl (dsv 2 (ndB rfl) (JW (zcb rfl) zfJ T.min UG (Ju (dlv 1) (Ju (dl (Jr h__law_pick hr (dbv 0 (dbc (JH (Qc (dbc Jd (dbc Jd (dbc Jd (dbc Jd (dbc Jd (dbc Jd (dbc (Jr h__law_take hr (dbv 0 (dbc (Qe (dlv 1) dli) Jb))) (dbv 1 Jb)))))))))) Jb)))) JO UC) JT))) (Jk (JA (Qo (dbc (zfT (dl (Jr h__law_take hr (dbv 0 (dbc (JS dli (dl (Qb (dlv 1) (dlv 2)))) Jb)))) (dl (JS dli (dlv 2)))) (dbv 2 Jb)))))),?_⟩
 intro ts n R hl h;unfold za0 at h;split at h
 ·rename_i hd bits;obtain⟨rfl,b0,b1,hn,h⟩:=h;simp only[zeU,zeV,zeT,u_dC,zhI,zeZ,zeX,zeY,zds,zhJ,zcv,zeW,zfA,UE,Uv,Uw,Ux,UD,UM,oSub,oMul,oMod,Qw,oShl,oShr,oXor,isInt,isBool,l_gI,ziu,Um,Q8,Ud,Ue,Ua,Q9,Uo,Uq,Ur,Uy,Q7,Uc,Ub,UJ,UI,QV,Jv,Jp,capV,List.map_cons,List.map_nil,List.length_cons,List.length_nil,List.replicate_succ,List.replicate_zero,List.cons_append,List.nil_append,List.append_nil,List.getElem?_cons_succ,List.getElem?_cons_zero,List.set_cons_succ,List.set_cons_zero,List.getD_cons_succ,List.getD_cons_zero,Nat.zero_add,Nat.reduceAdd,Nat.reduceSub,Nat.sub_self,true_and,and_true,Bool.false_eq_true,if_true,if_false,ite_true,ite_false,Bool.not_true,Bool.not_false,Int.natCast_zero,Q3,Qq]
  refine⟨by lia,by lia,by lia,fun r r0 r1=>⟨by simp,by decide,by lia,fun x hx=>?_⟩⟩
  have hv:∃b:Int,x=.int b/\0<=b:=by
   simp only[List.mem_cons,List.not_mem_nil,or_false]at hx;rcases hx with h|h|h|h|h|h|h|h <;> first|exact⟨_,h,by decide⟩|exact⟨_,h,by lia⟩
  obtain⟨b,rfl,bb⟩:=hv;simp only[zeU,zeV,zeT,u_dC,zhI,zeZ,zeX,zeY,zds,zhJ,zcv,zeW,zfA,UE,Uv,Uw,Ux,UD,UM,oSub,oMul,oMod,Qw,oShl,oShr,oXor,isInt,isBool,l_gI,ziu,Um,Q8,Ud,Ue,Ua,Q9,Uo,Uq,Ur,Uy,Q7,Uc,Ub,UJ,UI,QV,Jv,Jp,capV,List.map_cons,List.map_nil,List.length_cons,List.length_nil,List.replicate_succ,List.replicate_zero,List.cons_append,List.nil_append,List.append_nil,List.getElem?_cons_succ,List.getElem?_cons_zero,List.set_cons_succ,List.set_cons_zero,List.getD_cons_succ,List.getD_cons_zero,Nat.zero_add,Nat.reduceAdd,Nat.reduceSub,Nat.sub_self,true_and,and_true,Bool.false_eq_true,if_true,if_false,ite_true,ite_false,Bool.not_true,Bool.not_false,Int.natCast_zero,Qq]
  have key:∀m:Int,0<=m->m<=bits->(CPow 1 (bits - m)/\(0:Int)<1*2 ^ (bits - m).toNat/\1*2 ^ (bits - m).toNat<(2:Int) ^ 128/\n+1+1<=1000000000000/\∀r:Int,0<=r->r<1*2 ^ (bits - m).toNat->CPow 1 m/\CMul r (1*2 ^ m.toNat)/\R (.tuple [.int (r*(1*2 ^ m.toNat)),.int m]) (n+1+1+1)):=by
   intro m m0 m1;have e1:(1:Int)*2 ^ (bits - m).toNat=2 ^ (bits - m).toNat:=Int.one_mul _;have e2:(1:Int)*2 ^ m.toNat=2 ^ m.toNat:=Int.one_mul _;rw[e1,e2];refine⟨cpow (by lia) (by lia),QB _,zcX (by lia),by lia,fun k k0 k1=>⟨cpow m0 (by lia),.inl ⟨by lia,?_⟩,?_⟩⟩
   ·have:=zgv (k:=(bits - m).toNat) (by lia);lia
   ·exact h _ m ⟨m0,m1,k,k0,rfl,k1⟩
  exact key (if b<bits then b else bits) (by split <;> lia) (by split <;> lia)
 ·exact h.elim
def zb5:GD:=fun ts n R=>∃bits i h:Int,ts=[HAND,.int bits,.tuple [.int i,.int h]]/\1<=bits/\bits<=64/\n<=1000000000000 - 100/\IsBk bits i h/\∀j g:Int,IsBk bits j g->R (.tuple [.int j,.int g]) (n+7)
theorem zcd{bits i h:Int}{n:Nat}{R:qN}(b0:1<=bits)(b1:bits<=64)(hn:n<=1000000000000 - 100)(B:IsBk bits i h)(h':∀j g:Int,IsBk bits j g->R (.tuple [.int j,.int g]) (n+7)):zb5 [HAND,.int bits,.tuple [.int i,.int h]] n R:=⟨_,_,_,rfl,b0,b1,hn,B,h'⟩
def zbS(Z:ZZ):Prop:=FQ Z "_law_near" (top 12) ["_law_hand_here","_law_bits_here","_law_block_here"] 4 (spD Z.K 3 zb5)
theorem zc3(D:Dq Z.K Z.mg "_law_near" (top 12) ["_law_hand_here","_law_bits_here","_law_block_here"]) (h__law_pick:QC Z) (h__law_block:zaW Z) (T:Txt Z.mg):zbS Z:=by
 refine' okQ D (fnS (N:=["_law_hand_here","_law_bits_here","_law_block_here","_law_begin","_law_height","_law_size","_law_some"]) (by decide +kernel)) rfl fun f cdv A outer s H E hr=>⟨_,(Jl (zk1 (JX 2) (QO rfl (JU (dgv 3 (ndB rfl)) (JU (dgv 4 (ndB rfl)) Q0)))) (Jl (dsv 5 (ndB rfl) (JS dli (dlv 4))) (Jl (zhz (i:=6) (ndB rfl) rfl (Or.inl rfl) (Qc (dbv 2 (dbc (Qo (dbv 3 (dbc (JW (zcc rfl) zfK T.max zce (Ju dli (Ju (dl (Qb (dlv 4) dli)) JO ze4) Ut)) Jb))) (dbc (Jr h__law_block hr (dbv 0 (dbv 1 Jb))) (dbc (Jr h__law_block hr (dbv 0 (dbv 1 Jb))) Jb)))))) (Jl (J8 (Qd zif gp_B (dlv 4) dli (JM _)) (Jk (Q4 6 (Qo (dbc (Qe (dlv 3) (dl (ziX (dlv 5) dli))) (dbc (Qb (dlv 4) dli) Jb))))) Qh) (Jl (J8 (Qd (zfo hr) zfL (dlv 4) (dlv 1) (JM _)) (Jl (Q4 6 (Qo (dbc (Qb (dlv 3) (dl (zk5 (dlv 3) (dl (zfT dli (dlv 5)))))) (dbc (Qe (dlv 4) dli) Jb)))) (Jk (Q4 6 (Qo (dbc (zk4 (dlv 3) (dlv 5)) (dbv 4 Jb)))))) Qh) (Jl (J8 (Qd zhp zhv (dl (Qe (dlv 3) (dl (zfT dli (dlv 5))))) (dl (JS dli (dlv 1))) (JM _)) (Jk (Q4 6 (Qo (dbc (Qe (dlv 3) (dlv 5)) (dbv 4 Jb))))) Qh) (zcp 6 (Jk (JA (Jr h__law_pick hr (dbv 0 (dbv 6 Jb)))))))))))),?_⟩
 intro ts n R hl hh;obtain⟨bits,i,h,rfl,b0,b1,hn,B,hh⟩:=hh;have h0:=B.1;have h1:=B.2.1;have bx:∀j g:Int,IsBk bits j g->∀m,m=n+7->R (.tuple [.int j,.int g]) m:=fun j g b m e=>e▸hh j g b
 have Bl:IsBk bits i (if h - 1 > 0 then h - 1 else 0):=by
  split
  ·exact B.low (by lia)
  ·by_cases z:h=0
   ·subst z;exact B
   ·have:h=1:=by lia
    subst this;exact B.low (by decide)
 wp_walk using zbB ?_ ?_ ?_ (fun _ _ _=>?_),zbd ?_ ?_ ?_ ?_
 all_goals first
  | lia
  | exact cpow (by lia) (by lia)
  | exact zmS
  | exact zmT
  | (rw[zcB];exact Int.mul_pos (by decide) (QB _))
  | (intro z;simp at z;done)
  | (simp only[List.cons_append,List.nil_append,List.length_cons,List.length_nil];decide)
  | skip
 all_goals
  simp only[List.cons_append,List.nil_append,List.forall_mem_cons,zcB]at *
  repeat' (with_reducible refine And.intro ?_ ?_)
 all_goals first
  | exact bx _ _ B _ rfl
  | exact bx _ _ Bl _ rfl
  | exact bx _ _ (by assumption) _ rfl
  | exact bx _ _ (B.up (by lia)) _ rfl
  | exact bx _ _ (B.abt (by lia)) _ rfl
  | exact bx _ _ (B.oth (by lia)) _ rfl
  | exact bx _ _ (B.nxt (by assumption)) _ rfl
  | (intro x hx;simp at hx)
def zbl:GD:=fun ts n R=>∃bits most:Int,ts=[HAND,.int bits,.int most]/\1<=bits/\bits<=64/\0<=most/\most<=1000/\n<=1000000000000 - 100000/\∀(bs:qB) (m:Nat),Bks bits bs->bs.length<=most.toNat->m<=n+1+12*most.toNat->R (.list (pD bs)) m
theorem zcO{bits most:Int}{n:Nat}{R:qN}(b0:1<=bits)(b1:bits<=64)(m0:0<=most)(m1:most<=1000)(hn:n<=1000000000000 - 100000)(h:∀(bs:qB) (m:Nat),Bks bits bs->bs.length<=most.toNat->m<=n+1+12*most.toNat->R (.list (pD bs)) m):zbl [HAND,.int bits,.int most] n R:=⟨bits,most,rfl,b0,b1,m0,m1,hn,h⟩
def zbg(Z:ZZ):Prop:=FQ Z "_law_blocks" (top 13) ["_law_hand_here","_law_bits_here","_law_most"] 5 (spD Z.K 3 zbl)
theorem zcg(D:Dq Z.K Z.mg "_law_blocks" (top 13) ["_law_hand_here","_law_bits_here","_law_most"]) (h__law_take:QD Z) (h__law_block:zaW Z) (h__law_near:zbS Z) (h__law_pick:QC Z) (T:Txt Z.mg):zbg Z:=by
 refine' okQ D (fnS (N:=["_law_hand_here","_law_bits_here","_law_most","_law_found","_law_k","_law_block_here"]) (by decide +kernel)) rfl fun f cdv A outer s H E hr=>⟨_,(Jl (zhz (i:=3) (ndB rfl) rfl (Or.inl rfl) (Qc Jb)) (Jl (Qp PassesOwn.never rfl (UH T.ran (Jr h__law_take hr (dbv 0 (dbc (Qe (dlv 2) dli) Jb)))) (dgv 4 (ndB rfl)) (Jl (dsv 5 (ndB rfl) (Jr h__law_block hr (dbv 0 (dbv 1 Jb)))) (Jl (J8 (zkZ (zkY (Qd (zho hr) zkK (zhB 3) (dl (JH (Qc Jb))) (JM _)) (ziN (Qd zif gp_B (dl (Jr h__law_take hr (dbv 0 (dbc Jd Jb)))) dli (JM _))))) (Jk (dsv 5 (ndB rfl) (Jr h__law_near hr (dbv 0 (dbv 1 (dbc (zk7 h__law_pick hr (Ju (dlv 0) (Ju (zhB 3) JO JT) JT)) Jb)))))) Qh) (Jk (Q4 3 (JX 5)))))) (zcp 3 (Jk (JA (JX 3)))))),?_⟩
 intro ts n R hl hh;obtain⟨bits,most,rfl,b0,b1,m0,m1,hn,hh⟩:=hh
 wp_walk using Qx ?_ ?_ ?_ (fun r r0 r1=>?_)
 ·lia
 ·lia
 ·lia
 ·lia
 ·lia
 refine QE (fun k ρ m=>∃bs:List (Int×Int),∃c4 c5,ρ=[some (.val HAND),some (.val (.int bits)),some (.val (.int most)),some (.own (pD bs)),c4,c5]/\Bks bits bs/\bs.length=k/\m<=n+1+12*k) ⟨[],_,_,rfl,(fun b hb=>nomatch hb),rfl,by lia⟩ ?_ ?_
 ·rintro k t ρ m K et ⟨bs,c4,c5,rfl,B,hk,hm⟩ hK;obtain⟨hk2,rfl⟩:=zbq et;have hk3:k<1000:=by lia
  have fin:∀(i h:Int) (x4 x5:Option Cell) (m':Nat),IsBk bits i h->m'<=m+12->K [some (.val HAND),some (.val (.int bits)),some (.val (.int most)),some (.own (pD bs++[.tuple [.int i,.int h]])),x4,x5] m':=fun i h x4 x5 m' C hm' =>
   hK _ _ ⟨bs++[(i,h)],_,_,by rw[<- zjQ],B.app C,by simp[hk],by lia⟩
  wp_walk using zbB ?_ ?_ ?_ (fun i h C=>?_),Qx ?_ ?_ ?_ (fun q q0 q1=>?_),zbd ?_ ?_ ?_ ?_,zcd ?_ ?_ ?_ ?_ (fun j g C'=>?_)
  all_goals first
   | lia
   | exact zj3
   | exact zij
   | (rw[UA];lia)
   | decide
   | (intro z
      have y:PyData.eqv (.list (pD bs)) (.list [])=false:=by assumption
      rw[ziL]at y;have y2:bs=[]:=by
       have:=congrArg List.length z;rw[UA]at this;exact List.length_eq_zero_iff.mp this
      rw[y2]at y;cases y)
   | exact fin _ _ _ _ _ (by assumption) (by lia)
   | skip
  all_goals
   intro x hx;obtain⟨b,hb,rfl⟩:=List.mem_map.mp hx;refine⟨zeB,?_⟩;have C0:=B b hb
   wp_walk using zcd ?_ ?_ ?_ ?_ (fun j g C'=>?_)
   all_goals first
    | lia
    | exact C0
    | (rw[UA];lia)
    | exact fin _ _ _ _ _ (by assumption) (by lia)
 ·rintro ρ m ⟨bs,c4,c5,rfl,B,hk,hm⟩;have el:bs.length<=most.toNat:=by
   rw[hk];unfold JI;simp;lia
  wp_walk
  exact hh bs m B el (by lia)
def zbw:GD:=fun ts n R=>∃bits most:Int,ts=[HAND,.int bits,.int most]/\1<=bits/\bits<=64/\0<=most/\most<64/\n<=1000000000000 - 100000/\∀(rs:RL) (m:Nat),Rls bits rs->rs.length<=most.toNat->m<=n+1+13*most.toNat->R (.tuple (rD rs)) m
theorem zdl{bits most:Int}{n:Nat}{R:qN}(b0:1<=bits)(b1:bits<=64)(m0:0<=most)(m1:most<64)(hn:n<=1000000000000 - 100000)(h:∀(rs:RL) (m:Nat),Rls bits rs->rs.length<=most.toNat->m<=n+1+13*most.toNat->R (.tuple (rD rs)) m):zbw [HAND,.int bits,.int most] n R:=⟨bits,most,rfl,b0,b1,m0,m1,hn,h⟩
def zbv(Z:ZZ):Prop:=FQ Z "_law_rules" (top 14) ["_law_hand_here","_law_bits_here","_law_most"] 6 (spD Z.K 3 zbw)
theorem zcE(D:Dq Z.K Z.mg "_law_rules" (top 14) ["_law_hand_here","_law_bits_here","_law_most"]) (h__law_blocks:zbg Z) (h__law_take:QD Z) (T:Txt Z.mg):zbv Z:=by
 refine' okQ D (fnS (N:=["_law_hand_here","_law_bits_here","_law_most","_law_found","_law_block_here"]) (by decide +kernel)) rfl fun f cdv A outer s H E hr=>⟨_,(Jl (ziR (i:=3) (ndB rfl) rfl (Or.inl rfl)) (Jl (Qp PassesOwn.never rfl (zdE (Jr h__law_blocks hr (dbv 0 (dbv 1 (dbv 2 Jb))))) (dgv 4 (ndB rfl)) (Jk (ziQ 3 (zjC hr) (JX 4) (Jr h__law_take hr (dbv 0 (dbc Jd Jb)))))) (Jk (JA (zmR zcN zg0 T.tup zdL (Ju (dl (JH (zfP 3 rfl hr T.srt))) JO UC)))))),?_⟩
 intro ts n R hl hh;obtain⟨bits,most,rfl,b0,b1,m0,m1,hn,hh⟩:=hh
 wp_walk using zcO ?_ ?_ ?_ ?_ ?_ (fun bs m B hlen hm=>?_)
 ·lia
 ·lia
 ·lia
 ·lia
 ·lia
 refine QE (fun k ρ m'=>m'<=m+k/\∃rs:RL,∃c4,ρ=[some (.val HAND),some (.val (.int bits)),some (.val (.int most)),some (.dtt (kR rs)),c4]/\Rls0 bits rs/\rs.length<=k) ⟨Nat.le_refl _,[],_,rfl,⟨(fun b hb=>nomatch hb),by simp⟩,Nat.le_refl _⟩ ?_ ?_
 ·rintro k t ρ m' K et ⟨hm',rs,c4,rfl,A,hk⟩ hK;obtain⟨i,h,eb,rfl⟩:=zjR et;have hb:=B _ (List.mem_of_getElem? eb);have hk3:k<64:=by
   have:=(List.getElem?_eq_some_iff.mp eb).1;lia
  wp_walk using Qx ?_ ?_ ?_ (fun r r0 r1=>?_)
  ·lia
  ·lia
  ·lia
  ·rw[zkc];lia
  ·rw[zhY];exact hK _ _ ⟨by lia,_,_,rfl,A.put hb r0 (by lia),by have:=zgs (rs:=rs) (k:=(i,h)) (s:=r);lia⟩
 ·rintro ρ m' ⟨hm',rs,c4,rfl,A,hk⟩;rw[UA]at hk hm'
  wp_walk
  refine⟨rs,rfl,by lia,A.ok b1,fun rs' pm pw=>?_⟩
  wp_walk
  exact hh rs' m' (A.sort b1 pm pw) (by rw[pm.length_eq];lia) (by lia)
def zb4:GD:=fun ts n R=>∃(bits:Int) (rs:RL) (a:Int),ts=[.tuple (rD rs),.int a]/\0<=bits/\bits<=64/\0<=a/\Rls bits rs/\rs.length<64/\∀s,SgOf rs a s->R (.int s) n
theorem zdJ{bits:Int}{rs:RL}{a:Int}{n:Nat}{R:qN}(b0:0<=bits)(b1:bits<=64)(a0:0<=a)(A:Rls bits rs)(l:rs.length<64)(h:∀s,SgOf rs a s->R (.int s) n):zb4 [.tuple (rD rs),.int a] n R:=⟨bits,rs,a,rfl,b0,b1,a0,A,l,h⟩
def hgtD:PyData->Int
 | .tuple [.tuple [_,.int h],_]=>h
 | _=>0
theorem zhV{rs:RL}{ts:qD}(pm:ts.Perm (rD rs)):∃qs:RL,qs.Perm rs/\ts=rD qs:=by
 have e:rD rs=(rs.map fun r=>(r,PyData.tuple [.tuple [.int r.1.1,.int r.1.2],.int r.2])).map (·.2):=by unfold rD;rw[List.map_map];rfl
 rw[e]at pm;obtain⟨ws,p1,p2⟩:=zcA pm;refine⟨ws.map (·.1),?_,?_⟩
 ·have:=p1.map (·.1);rw[List.map_map]at this;simpa[Function.comp_def] using this
 ·rw[<- p2];unfold rD;rw[List.map_map];refine List.map_congr_left fun w hw=>?_
  obtain⟨r,_,rfl⟩:=List.mem_map.mp (p1.mem_iff.mp hw)
  rfl
theorem zdD{bits b g a:Int}(ok:IsBk bits b g):(a / 2 ^ g.toNat=b / 2 ^ g.toNat)↔inB (b,g) a:=by
 obtain⟨g0,g1,k,k0,rfl,_⟩:=ok;have p:=QB g.toNat;rw[Int.mul_ediv_cancel _ (by lia)]
 have e:=Int.emod_add_mul_ediv a (2 ^ g.toNat);have e1:=Int.emod_nonneg a (show(2:Int) ^ g.toNat≠0 by lia)
 have e2:=Int.emod_lt_of_pos a p;show _↔k*2 ^ g.toNat<=a/\a<k*2 ^ g.toNat+2 ^ g.toNat
 constructor
 ·intro h;rw[h,Int.mul_comm]at e;lia
 ·rintro⟨h1,h2⟩;have l1:k<=a / 2 ^ g.toNat:=(Int.le_ediv_iff_mul_le p).mpr h1;have l2:a / 2 ^ g.toNat<k+1:=(Int.ediv_lt_iff_lt_mul p).mpr (by rw[Int.add_mul,Int.one_mul];exact h2)
  lia
def QL:Str:=Str.ofString "_law_sign.<locals>.<lambda>"
theorem zmU:(Str.ofString "_law_sign" ++ Str.ofString ".<locals>.")++Str.ofString "<lambda>" = QL:=by decide +kernel
def zbR(Z:ZZ)(PL:Addr):Prop:=FQT Z PL QL "_law_sign" (top 15) ["_law_rules_here","_law_address"] 4 2 zb4
theorem zc1  {cL PL:Addr}(LZ:LamZ Z "_law_sign" cL PL) (D:Dq Z.K Z.mg "_law_sign" (top 15) ["_law_rules_here","_law_address"]) (T:Txt Z.mg):zbR Z PL:=by
 refine' okQT LZ D (fnS (N:=["_law_rules_here","_law_address","_law_block_here","_law_sign_here"]) (by decide +kernel)) rfl fun f A outer s H E hr hP=>⟨_,(Jl (Qp PassesOwn.never rfl (zdE (JH (zeI (x:="_law_rule") hr T.srt (dlv 0) JT LZ.2 hP rfl zmU (fnS (by decide +kernel)) rfl rfl (fun _ _ _ _=>rfl) (fun _ _ _ _ _=>(JL (dl (JL (dlv 0) dli)) dli))))) (QO rfl (JU (dgv 2 (ndB rfl)) (JU (dgv 3 (ndB rfl)) Q0))) (Jk (J8 (Qd (zj1 hr) zmN (dl (zhE (dlv 1) (dl (JL (dlv 2) dli)))) (dl (zhE (dl (JL (dlv 2) dli)) (dl (JL (dlv 2) dli)))) (JM _)) (Jk (JA (JX 3))) Qh))) (Jk (JA Jd))),?_⟩
 intro ts n R hl h;obtain⟨bits,rs,a,rfl,b0,b1,a0,A,l,h⟩:=h
 wp_walk
 ·rw[zfd];exact l
 refine⟨hgtD,fun t ht R' hR=>?_,fun ts' pm pw=>?_⟩
 ·obtain⟨r,hr,rfl⟩:=List.mem_map.mp ht
  wp_walk
  exact hR
 obtain⟨qs,pq,rfl⟩:=zhV pm
 wp_walk
 refine zhx 2 3 (fun k _ _ m=>m=n/\∀(i:Nat) r,i<k->qs[i]?=some r->¬inB r.1 a) ⟨rfl,fun i r z=>by lia⟩ ?_ ?_
 ·rintro k t _ _ m K RT BK ek ⟨rfl,hi⟩ hK hRT hBK;obtain⟨r,er,rfl⟩:∃r,qs[k]?=some r/\t=.tuple [.tuple [.int r.1.1,.int r.1.2],.int r.2]:=by
   unfold rD at ek;rw[List.getElem?_map]at ek;cases z:qs[k]? with
   | none=>rw[z]at ek;cases ek
   | some r=>rw[z]at ek;exact⟨r,rfl,(Option.some.inj ek).symm⟩
  have mr:r∈rs:=pq.mem_iff.mp (List.mem_of_getElem? er);have ok:=(A.1 r mr).1;have k0:=ok.1;have k1:=ok.2.1
  wp_walk
  all_goals try exact k0
  ·rw[zdD ok]at hc;refine hRT _ _ (h r.2 (.inr ⟨r,mr,hc,rfl,fun r' hr' z=>?_⟩))
   obtain⟨j,ej⟩:=List.getElem?_of_mem (pq.mem_iff.mpr hr');rcases Nat.lt_trichotomy k j with kj|rfl|kj
   ·have hj:=(List.getElem?_eq_some_iff.mp ej);have hk:=(List.getElem?_eq_some_iff.mp er);unfold rD at pw;rw[List.pairwise_map]at pw;have:=List.pairwise_iff_getElem.mp pw k j hk.1 hj.1 kj;rw[hk.2,hj.2]at this;exact this
   ·rw[er]at ej;cases ej;exact Int.le_refl _
   ·exact absurd z (hi j r' kj ej)
  ·rw[zdD ok]at hc;refine hK _ _ _ ⟨rfl,fun i r' hik e=>?_⟩
   rcases Nat.lt_succ_iff_lt_or_eq.mp hik with z|rfl
   ·exact hi i r' z e
   ·rw[er]at e;cases e;exact hc
 ·rintro _ _ m ⟨rfl,hi⟩
  wp_walk
  refine h 0 (.inl ⟨rfl,fun r hr=>?_⟩)
  obtain⟨j,ej⟩:=List.getElem?_of_mem (pq.mem_iff.mpr hr);have hj:=(List.getElem?_eq_some_iff.mp ej).1;exact hi j r (by rw[zfd];exact hj) ej
def zaT:GD:=fun ts n R=>∃(bits:Int) (rs:RL),ts=[HAND,.int bits,.tuple (rD rs)]/\1<=bits/\bits<=64/\Rls bits rs/\rs.length<64/\n<=1000000000/\∀(as:List Int) (m:Nat),(∀a∈as,0<=a)->as.length<=1000->m<=n+20->R (.list (as.map .int)) m
theorem zbC{bits:Int}{rs:RL}{n:Nat}{R:qN}(b0:1<=bits)(b1:bits<=64)(A:Rls bits rs)(l:rs.length<64)(hn:n<=1000000000)(h:∀(as:List Int) (m:Nat),(∀a∈as,0<=a)->as.length<=1000->m<=n+20->R (.list (as.map .int)) m):zaT [HAND,.int bits,.tuple (rD rs)] n R:=⟨bits,rs,rfl,b0,b1,A,l,hn,h⟩
def zaS(Z:ZZ):Prop:=FQ Z "_law_addresses" (top 16) ["_law_hand_here","_law_bits_here","_law_rules_here"] 2 (spD Z.K 3 zaT)
theorem zbr(D:Dq Z.K Z.mg "_law_addresses" (top 16) ["_law_hand_here","_law_bits_here","_law_rules_here"]) (h__law_take:QD Z) (T:Txt Z.mg):zaS Z:=by
 refine' okQ D (fnS (N:=["_law_hand_here","_law_bits_here","_law_rules_here","_law_some","_law_begin","_law_height","_law_sign_here","_law_end"]) (by decide +kernel)) rfl fun f cdv A outer s H E hr=>⟨_,(Jl (J8 (Qd (zfo hr) zfL (dlv 1) dli (JM _)) (Jk (JA (JH (zg9 rfl T.lst T.ran (JS dli (dlv 1)))))) Qh) (Jl (dsv 3 (ndB rfl) (JH (Qc (dbc Jd (dbc (Qb (dl (JS dli (dlv 1))) dli) Jb))))) (Jl (Qp PassesOwn.never rfl (zhC (JX 2)) (QO rfl (JU (QO rfl (JU (dgv 4 (ndB rfl)) (JU (dgv 5 (ndB rfl)) Q0))) (JU (dgv 6 (ndB rfl)) Q0))) (Jl (dsv 7 (ndB rfl) (Qe (dlv 4) (dl (JS dli (dlv 5))))) (Jk (dsv 3 (ndB rfl) (JH (zhA (dlv 3) (dl (JH (Qc (dbv 4 (dbc (Qb (dlv 7) dli) (dbc (JW (zcc rfl) zfK T.max zce (Ju dli (Ju (dl (Qb (dlv 4) dli)) JO ze4) Ut)) (dbc (JW (zcb rfl) zfJ T.min UG (Ju (dlv 7) (Ju (dl (Qb (dl (JS dli (dlv 1))) dli)) JO ze4) JT)) Jb))))))))))))) (Jk (JA (JH (zhA (dlv 3) (dl (JH (dnc ["_law_turn"] [0,1] (dil (UH T.ran Jd)) (fun _ _ _ _=>(dgv 0 (ndB rfl))) (fun _ _ _ _=>(Jr h__law_take hr (dbv 1 (dbc (JS dli (dlv 2)) Jb)))))))))))))),?_⟩
 intro ts n R hl h;obtain⟨bits,rs,rfl,b0,b1,A,l,hn,h⟩:=h;have tp:=QB bits.toNat;have sm:bits<6->(2:Int) ^ bits.toNat<=32:=fun z=>by
  obtain⟨j,hj⟩:∃j:Nat,bits.toNat=j:=⟨_,rfl⟩;rw[hj];have:j<6:=by lia
  clear hj
  match j,this with
  | 0,_|1,_|2,_|3,_|4,_|5,_=>decide
 wp_walk
 ·exact cpow (by lia) (by lia)
 ·lia
 ·have:=sm (by lia);lia
 ·refine h _ n (fun a ha=>?_) ?_ (by lia)
  ·obtain⟨k,_,rfl⟩:=List.mem_map.mp ha;lia
  ·rw[List.length_map,List.length_range];have:=sm (by lia);lia
 ·exact cpow (by lia) (by lia)
 refine QE (fun k ρ m=>m=n/\∃(as:List Int) (c4 c5 c6 c7:Option Cell),ρ=[some (.val HAND),some (.val (.int bits)),some (.val (.tuple (rD rs))),some (.val (.list (as.map .int))),c4,c5,c6,c7]/\(∀a∈as,0<=a)/\as.length<=2+4*k) ⟨rfl,[0,1*2 ^ bits.toNat - 1],_,_,_,_,rfl,?_,by simp⟩ ?_ ?_
 ·intro a ha;simp only[List.mem_cons,List.not_mem_nil,or_false]at ha;rcases ha with rfl|rfl <;> lia
 ·rintro k t ρ m K ek ⟨rfl,as,c4,c5,c6,c7,rfl,ha,hla⟩ hK;obtain⟨r,er,rfl⟩:∃r,rs[k]?=some r/\t=.tuple [.tuple [.int r.1.1,.int r.1.2],.int r.2]:=by
   unfold rD at ek;rw[List.getElem?_map]at ek;cases z:rs[k]? with
   | none=>rw[z]at ek;cases ek
   | some r=>rw[z]at ek;exact⟨r,rfl,(Option.some.inj ek).symm⟩
  have mr:r∈rs:=List.mem_of_getElem? er;have hk:=(List.getElem?_eq_some_iff.mp er).1;have ok:=(A.1 r mr).1;have bb:=ok.bounds (by lia)
  have k0:=ok.1;have k1:=ok.2.1;have tr:=QB r.1.2.toNat
  wp_walk
  ·exact cpow k0 (by lia)
  ·exact cpow (by lia) (by lia)
  ·simp only[List.length_map,List.length_cons,List.length_nil];lia
  ·refine hK _ _ ⟨rfl,as++[r.1.1,r.1.1+1*2 ^ r.1.2.toNat - 1,if r.1.1 - 1 > 0 then r.1.1 - 1 else 0,if 1*2 ^ bits.toNat - 1<r.1.1+1*2 ^ r.1.2.toNat then 1*2 ^ bits.toNat - 1 else r.1.1+1*2 ^ r.1.2.toNat],_,_,_,_,by rw[List.map_append];rfl,?_,?_⟩
   ·intro a hm;rcases List.mem_append.mp hm with hm|hm
    ·exact ha a hm
    ·simp only[List.mem_cons,List.not_mem_nil,or_false]at hm;generalize (2:Int) ^ r.1.2.toNat=X at *;generalize (2:Int) ^ bits.toNat=Y at *;rcases hm with rfl|rfl|rfl|rfl
     ·lia
     ·lia
     ·split <;> lia
     ·split <;> lia
   ·simp only[List.length_append,List.length_cons,List.length_nil];lia
 ·rintro ρ m ⟨rfl,as,c4,c5,c6,c7,rfl,ha,hla⟩;rw[zfd]at hla
  wp_walk
  all_goals try(decide;done)
  refine zhG (fun j acc m'=>m'<=m+j/\∃bs:List Int,acc=bs.map .int/\bs.length<=j/\∀b∈bs,0<=b) ⟨Nat.le_add_right _ _,[],rfl,Nat.le_refl _,fun b hb=>nomatch hb⟩ ?_ ?_
  ·rintro k x acc m' K ek ⟨hm',bs,rfl,hlb,hb⟩ hK;obtain⟨hk,rfl⟩:=zbq ek;have hk:k<10:=hk
   wp_walk using Qx ?_ ?_ ?_ (fun r r0 r1=>?_)
   ·exact cpow (by lia) (by lia)
   ·lia
   ·have:=zcX (k:=bits.toNat) (by lia)
    lia
   ·lia
   ·rw[List.length_map];lia
   ·refine hK _ _ ⟨by lia,bs++[r],by rw[List.map_append];rfl,by simp only[List.length_append,List.length_cons,List.length_nil];lia,fun b hm=>?_⟩
    rcases List.mem_append.mp hm with hm|hm
    ·exact hb b hm
    ·cases List.mem_singleton.mp hm;exact r0
  ·rintro acc m' ⟨hm',bs,rfl,hlb,hb⟩;have e10:(JI 0 (Int.toNat 10)).length=10:=by decide
   rw[e10]at hm' hlb
   wp_walk
   ·rw[List.length_map,List.length_map];lia
   ·rw[<- List.map_append];refine h _ m' (fun a hm=>(List.mem_append.mp hm).elim (ha a) (hb a)) ?_ (by lia)
    rw[List.length_append];lia
theorem zhO{bits:Int}{rs:RL}{a s s':Int}(A:Rls bits rs)(h:SgOf rs a s)(h':SgOf rs a s'):s=s':=by
 rcases h with⟨rfl,h⟩|⟨r,hr,hi,rfl,hm⟩
 ·rcases h' with⟨rfl,_⟩|⟨r',hr',hi',_⟩
  ·rfl
  ·exact absurd hi' (h r' hr')
 ·rcases h' with⟨_,h'⟩|⟨r',hr',hi',rfl,hm'⟩
  ·exact absurd hi (h' r hr)
  ·have e2:r.1.2=r'.1.2:=Int.le_antisymm (hm r' hr' hi') (hm' r hr hi);have key:∀q∈rs,inB q.1 a->q.1.1=a / 2 ^ q.1.2.toNat*2 ^ q.1.2.toNat:=fun q hq hi=>by
    have ok:=(A.1 q hq).1;rw[(zdD ok).mpr hi];obtain⟨_,_,k,_,e,_⟩:=ok;have:=QB q.1.2.toNat;rw[e,Int.mul_ediv_cancel _ (by lia)]
   have e1:r.1.1=r'.1.1:=by rw[key r hr hi,key r' hr' hi',e2]
   have e:r.1=r'.1:=Prod.ext e1 e2;obtain⟨i,hii,rfl⟩:=List.getElem_of_mem hr;obtain⟨j,hj,rfl⟩:=List.getElem_of_mem hr';have ir:∀b:Int×Int,¬bkLt b b:=fun b z=>by unfold bkLt at z;lia
   rcases Nat.lt_trichotomy i j with z|rfl|z
   ·have:=List.pairwise_iff_getElem.mp A.2 i j hii hj z;rw[e]at this;exact absurd this (ir _)
   ·rfl
   ·have:=List.pairwise_iff_getElem.mp A.2 j i hj hii z;rw[e]at this;exact absurd this (ir _)
theorem zj4{f:Addr}{fd:FuncData}{PL:Addr}(D:Def Z.K Z.mg "law" (top 17) ["_law_script"] f fd) (h__law_hand:zbT Z) (h__law_bits:zbU Z) (h__law_rules:zbv Z) (h__law_addresses:zaS Z) (h__law_pick:QC Z) (h_decided:zcW Z) (h__law_sign:zbR Z PL) (T:Txt Z.mg):FnOk Z.P Z.w Z.K Z.mg Z.base CX0 7 f fd ["_law_script"] (spT PL QL (spD Z.K 1 zkN)):=by
 refine D.okT (fnS (N:=["_law_script","_law_k","_law_hand_here","_law_bits_here","_law_rules_here","_law_address","_law_turn","_law_found"]) (by decide +kernel)) rfl fun cdv A outer s H E _ hr hP=>?_
 refine'⟨_,(Jl (Qp PassesOwn.never rfl (UH T.ran (JW (zcc rfl) zfK T.max zce (Ju dli (Ju (dl (JW (zcb rfl) zfJ T.min UG (Ju (dl (JW zek zhu T.len zcf (Ju (dlv 0) JO JT))) (Ju dli JO Ut) UC))) JO UC) Ut))) (dgv 1 (ndB rfl)) (zfO (i:=2) (j:=1) h__law_hand hr (ndB rfl) rfl (Or.inl rfl) (Jl (dsv 3 (ndB rfl) (Jr h__law_bits hr (dbv 2 Jb))) (Jl (dsv 4 (ndB rfl) (Jr h__law_rules hr (dbv 2 (dbv 3 (dbc (Jr h__law_pick hr (dbv 2 (dbc (JH (Qc (dbc Jd (dbc Jd (dbc Jd (dbc Jd (dbc Jd (dbc Jd (dbc Jd (dbc Jd Jb)))))))))) Jb))) Jb))))) (Jk (Qp PassesOwn.never rfl (zdE (Jr h__law_addresses hr (dbv 2 (dbv 3 (dbv 4 Jb))))) (dgv 5 (ndB rfl)) (Jk (Qp PassesOwn.never rfl (UH T.ran Jd) (dgv 6 (ndB rfl)) (Jl (dsv 7 (ndB rfl) (Jr h_decided hr (dbv 4 (dbv 5 Jb)))) (Jk (J8 (zkZ (zkX (zhy (zfN (dl (zfU zkJ T.isi T.int boot_int (dlv 7) JT)))) (zkX (zfN (dl (zfU ziG T.isi T.boo zeN (dlv 7) JT))) (zkW (Qd (zho hr) zkK (dlv 7) (dl (zk6 h__law_sign hP hr (dbv 4 (dbv 5 Jb)))) (JM _)))))) (Jk (JA zk9)) Qh))))))))))) (Jk (JA zk9))),?_⟩
 intro ts n R hl hh;obtain⟨ns,rfl,hl63,hh⟩:=hh
 wp_walk
 ·split <;> (try split) <;> lia
 ·split <;> (try split) <;> lia
 refine QE (fun _ ρ m=>ρ=[some (.val (SCR ns)),none,none,none,none,none,none,none]/\m=n) ⟨rfl,rfl⟩ ?_ ?_
 ·rintro k t ρ m K et ⟨rfl,rfl⟩ hK;obtain⟨hk,rfl⟩:=zbq et;have hk8:k<8:=by
   revert hk;split <;> (try split) <;> lia
  clear hk et;have kn:(0:Int)+(k:Int)<=100:=by lia
  have k0:0<=(0:Int)+(k:Int):=by lia
  generalize (0:Int)+(k:Int)=kk at *
  wp_walk
  refine zgW hl63 (by lia) (by lia) fun NX RT BK CT hNX hRT hBK hCT=>?_
  wp_walk using zdK ?_ (fun bits b0 b1=>?_),zbd (by decide) (by decide) ?_ (fun x hx=>?_)
  ·lia
  ·lia
  obtain⟨most,rfl,m0,m1⟩:∃most:Int,x=.int most/\0<=most/\most<=40:=by
   simp only[List.mem_cons,List.not_mem_nil,or_false]at hx;rcases hx with rfl|rfl|rfl|rfl|rfl|rfl|rfl|rfl <;> exact⟨_,rfl,by decide,by decide⟩
  wp_walk using zdl ?_ ?_ ?_ ?_ ?_ (fun rs m A hlr hm=>?_),zbC ?_ ?_ ?_ ?_ ?_ (fun as m2 ha hla hm2=>?_)
  all_goals first|lia|exact A|skip
  refine zkS 5 6 7 (fun _ _ _ _ m'=>m'=m2) rfl ?_ ?_
  ·rintro i t _ _ _ m' K2 RT2 BK2 ei rfl hK2 hRT2 hBK2;rw[List.getElem?_map]at ei;cases ea:as[i]? with
   | none=>rw[ea]at ei;cases ei
   | some a =>
   rw[ea]at ei;cases ei;have a0:=ha a (List.mem_of_getElem? ea)
   wp_walk
   all_goals try(decide;done)
   refine zhx 6 7 (fun _ _ _ m''=>m''=m') rfl ?_ ?_
   ·rintro j t _ _ m'' K3 RT3 BK3 ej rfl hK3 hRT3 hBK3
    wp_walk using zf8 (bits:=bits) ?_ ?_ A ?_ (fun s hs=>?_),zdJ (bits:=bits) ?_ ?_ a0 A ?_ (fun s' hs'=>?_)
    all_goals first
     | lia
     | exact absurd (zhO A hs hs') hc
     | exact hK3 _ _ _ rfl
   ·rintro _ _ m'' rfl;exact hK2 _ _ _ _ rfl
  ·rintro _ _ _ m' rfl;exact hNX _ _ (hK _ _ ⟨rfl,rfl⟩)
 ·rintro ρ m ⟨rfl,rfl⟩
  wp_walk
  exact hh _
end
section
open PySem.W PyProof.Rows
def pw:Program:=PySem.Challenge.pw_blockdeal_k14_what_rules_decide
def zml:Stmt->Bool
 | .FunctionDef ..=>true
 | .ClassDef ..=>true
 | .Assign [.Name x _] _ _=>!(x == Str.ofString "__name__")
 | _=>false
def qv:Program:={ pw with main:={ pw.main with body:=pw.main.body.filter zml } }
theorem zhT:recsOf qv=(pw.main.body.filter Ul).map recD:=by kernel_rfl
theorem zfu{i:Nat}(h:Ul (top i)=true):recD (top i)∈recsOf qv:=by
 rw[zhT];exact List.mem_map_of_mem (List.mem_filter.mpr ⟨getD_mem h,h⟩)
theorem dqG{i:Nat}{x:Str}{ps:List Str}{mean:ExcName->Option Value}{mg mb:qM}{h:Heap}{c P:Addr}(hT:TabsAt [(c,P)] h)(T:PyProof.Rows.Top qv (looseW qv []) mean mg mb h)(hb:BndA x (top i) ps)(h1:Ul (top i)=true:=by kernel_rfl)(h2:defName (top i)=x:=by kernel_rfl):Dq (Js (gho h c P)) mg x (top i) ps:=zk2 hT T (zfu h1) h2 hb
def zkP:List Str:=[Str.ofString "isinstance",Str.ofString "int",Str.ofString "bool",Str.ofString "tuple",Str.ofString "len",Str.ofString "min",Str.ofString "max",Str.ofString "str",Str.ofString "repr",Str.ofString "all",Str.ofString "any",Str.ofString "range",Str.ofString "sum",Str.ofString "sorted",Str.ofString "list",Str.ofString "abs",Str.ofString "zip",Str.ofString "dict",Str.ofString "reversed",Str.ofString "enumerate"]
def zkQ(x:Str):Bool:=!startupNames.contains x&&!(looseW qv []).contains x&&!((recsOf qv).map (·.name)).contains x&&!((litsOf qv).map (·.1)).contains x&&!((clssOf qv (looseW qv [])).map (·.name)).contains x
theorem ziJ:zkP.all zkQ=true:=by kernel_rfl
theorem ziK{mean:ExcName->Option Value}{mg mb:qM}{h:Heap}(T:PyProof.Rows.Top qv (looseW qv []) mean mg mb h){x:Str}(m:x∈zkP):mg x=none:=by
 have e:=List.all_eq_true.mp ziJ x m;unfold zkQ at e;simp only[Bool.and_eq_true,Bool.not_eq_true',List.contains_eq_mem,decide_eq_false_iff_not]at e;obtain⟨⟨⟨⟨a,b⟩,c⟩,d⟩,f⟩:=e;exact T.free x a b c d f
theorem zjl{mean:ExcName->Option Value}{mg mb:qM}{h:Heap}(T:PyProof.Rows.Top qv (looseW qv []) mean mg mb h):Txt mg:=by
 constructor <;> exact ziK T (List.contains_iff_mem.mp (by kernel_rfl))
theorem zhP:PySem.Challenge.rw_blockdeal_k14_what_rules_decide.wellSaid=true:=by kernel_rfl
theorem zj7(w:World)(os:OsState):(Qg treeTable pw w 11 ((boot_heap (w).params).nsMap mainGlobals "__annotations__") 20000 (zeO w os) (topStub pw)).map (fun s=>(Uh pw (boot_heap (w).params) s.abs,(Hook.obs Hook.none) s.abs))=some (true,(Hook.val Hook.none) w):=by kernel_rfl
theorem zj6(w:World)(os:OsState):(Qg treeTable pw w 11 ((boot_heap (w).params).nsMap mainGlobals "__annotations__") 20000 (zeO w os) (topStub pw)).map (fun s=>(openSeen qv [] (importedModules pw.main.body) (fun s=>xlAt qv [] s&&recOk (RowW.records PySem.Challenge.rw_blockdeal_k14_what_rules_decide.row.toRowW) s) true s.abs).1)=some (openGood qv []).1:=by kernel_rfl
theorem zj5(w:World)(os:OsState):(Qg treeTable pw w 11 ((boot_heap (w).params).nsMap mainGlobals "__annotations__") 20000 (zeO w os) (topStub pw)).map (fun s=>(openSeen qv [] (importedModules pw.main.body) (fun s=>xlAt qv [] s&&recOk (RowW.records PySem.Challenge.rw_blockdeal_k14_what_rules_decide.row.toRowW) s) true s.abs).2)=some (openGood qv []).2:=by kernel_rfl
theorem zmj(w:World)(os:OsState):(Qg treeTable pw w 11 ((boot_heap (w).params).nsMap mainGlobals "__annotations__") 20000 (zeO w os) (topStub pw)).map (fun s=>(Uh pw (boot_heap (w).params) s.abs,openSeen qv [] (importedModules pw.main.body) (fun s=>xlAt qv [] s&&recOk (RowW.records PySem.Challenge.rw_blockdeal_k14_what_rules_decide.row.toRowW) s) true s.abs,(Hook.obs Hook.none) s.abs))=some (true,openGood qv [],(Hook.val Hook.none) w):=map3 (zj7 w os) (zj6 w os) (zj5 w os)
theorem zir:LeftO pw qv [] (fun s=>xlAt qv [] s&&recOk (RowW.records PySem.Challenge.rw_blockdeal_k14_what_rules_decide.row.toRowW) s) (Hook.obs Hook.none) (Hook.val Hook.none) 20000:=zfx (by kernel_rfl) (by decide) (fun _=>rfl) (zmj)
theorem zlb{mean:ExcName->Option Value}{mg mb:qM}{h:Heap}{w:World}{fa:Addr}(T0:PyProof.Rows.Top qv (looseW qv []) mean mg mb h)(hfa:mg (defName (top 17))=some (.ref fa)) :
  ∃(c P:Addr) (qn:Str) (fd:FuncData),TabsAt [(c,P)] h/\isCodeTable h P/\(∀(s:Shared) (v:Value),BindsTo s fd ⟨[v],[]⟩ [("_law_script",v)])/\∀base:Heap,(Js (gho h c P)).In base->base.Ns mainGlobals mg->FnOk PySem.Challenge.rw_blockdeal_k14_what_rules_decide.prog w (Js (gho h c P)) mg base CX0 7 fa fd ["_law_script"] (spT P qn (zhN (Js (gho h c P)))):=by
 have T:=zjl T0;obtain⟨c,P,hT,hct,hL⟩:=zlI (x:="_law_sign") T0 (zfu (i:=15) (by kernel_rfl)) (by kernel_rfl)
 obtain⟨f,fd,DL⟩:=zk2 (x:="law") (ps:=["_law_script"]) hT T0 (zfu (i:=17) (by kernel_rfl)) (by kernel_rfl) fun _ _ _ _ _ _ us hl=>by obtain⟨_,rfl⟩:=len1 hl;rfl
 have e0:Value.ref f=Value.ref fa:=Option.some.inj (DL.m.symm.trans hfa);cases e0;refine⟨c,P,QL,fd,hT,hct,fun s v=>?_,fun base hB _=>?_⟩
 ·obtain⟨oc,od,kV,doc,pm,an,cdv,ct,osl,rfl,_,_⟩:=DL.F.ex;exact .of_eq rfl
 let Z:ZZ:=⟨PySem.Challenge.rw_blockdeal_k14_what_rules_decide.prog,w,Js (gho h c P),mg,base⟩
 have LZ:=hL base w PySem.Challenge.rw_blockdeal_k14_what_rules_decide.prog hB;have h_size_of:=zey (Z:=Z) (dqG (i:=1) hT T0 (bnd1 fun _ _ _ _ _ _ _=>rfl))  T
 have h_end_of:=zfq (Z:=Z) (dqG (i:=3) hT T0 (bnd1 fun _ _ _ _ _ _ _=>rfl)) h_size_of T
 have h_decided:=zez (Z:=Z) (dqG (i:=5) hT T0 (bnd2 fun _ _ _ _ _ _ _ _=>rfl)) h_end_of T
 have h__law_hand:=zcD (Z:=Z) (dqG (i:=7) hT T0 (bnd2 fun _ _ _ _ _ _ _ _=>rfl))  T
 have h__law_take:=zcC (Z:=Z) (dqG (i:=8) hT T0 (bnd2 fun _ _ _ _ _ _ _ _=>rfl))  T
 have h__law_pick:=zc2 (Z:=Z) (dqG (i:=9) hT T0 (bnd2 fun _ _ _ _ _ _ _ _=>rfl)) h__law_take T
 have h__law_bits:=zc5 (Z:=Z) (dqG (i:=10) hT T0 (bnd1 fun _ _ _ _ _ _ _=>rfl)) h__law_pick T
 have h__law_block:=zcF (Z:=Z) (dqG (i:=11) hT T0 (bnd2 fun _ _ _ _ _ _ _ _=>rfl)) h__law_pick h__law_take T
 have h__law_near:=zc3 (Z:=Z) (dqG (i:=12) hT T0 (bnd3 fun _ _ _ _ _ _ _ _ _=>rfl)) h__law_pick h__law_block T
 have h__law_blocks:=zcg (Z:=Z) (dqG (i:=13) hT T0 (bnd3 fun _ _ _ _ _ _ _ _ _=>rfl)) h__law_take h__law_block h__law_near h__law_pick T
 have h__law_rules:=zcE (Z:=Z) (dqG (i:=14) hT T0 (bnd3 fun _ _ _ _ _ _ _ _ _=>rfl)) h__law_blocks h__law_take T
 have h__law_sign:=zc1 (Z:=Z) LZ (dqG (i:=15) hT T0 (bnd2 fun _ _ _ _ _ _ _ _=>rfl))  T
 have h__law_addresses:=zbr (Z:=Z) (dqG (i:=16) hT T0 (bnd3 fun _ _ _ _ _ _ _ _ _=>rfl)) h__law_take T
 exact(zj4 (Z:=Z) DL h__law_hand h__law_bits h__law_rules h__law_addresses h__law_pick h_decided h__law_sign T).imp fun vs H Q E z=>⟨z.1,zis vs H Q E z.2⟩
end
end Bd
open PySem PySem.W PyProof.Rows
set_option maxRecDepth 100000 in
set_option maxHeartbeats 0 in
theorem PySem.Challenge.cw_blockdeal_k14_what_rules_decide_holds : PySem.Challenge.rw_blockdeal_k14_what_rules_decide.Holds := by
 w_on
 refine holds_law Bd.zhP fun said=>?_
 refine holds_open (r:=PySem.Challenge.rw_blockdeal_k14_what_rules_decide.row) (d:=Bd.recD (Bd.top 17)) (kwd:=[]) Bd.zir (Hook.of Hook.none) (Hook.keeps Hook.none) (fun s e=>xl_of s (Bool.and_eq_true_iff.mp e).1) XL.keeps (by kernel_rfl) (by kernel_rfl) (by kernel_rfl) (fun s e=>recFacts_of (Bool.and_eq_true_iff.mp e).2) (by kernel_rfl) said (by kernel_rfl) ⟨rfl,rfl,rfl,rfl,rfl,by decide +kernel⟩ ?hw ?hc
 case hw=>w_witness2
 case hc=>exact Bd.zlH (lw:=PySem.Challenge.rw_blockdeal_k14_what_rules_decide) (k:=7) (by decide) rfl rfl fun w s₀ mg mb fa h G hmg=>Bd.zlb G.T hmg
