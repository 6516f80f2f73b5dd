import PyProof.Rows.All
import Wide.All
import OpenK.AllK
import Wide.FinOn
import Lean
import PyProof.EqAt
import PyProof.EqKinds
import PyProof.TupleCall
import PyProof.SumAny
import PySem.Challenge.RW_onceways_k84_texts_of_no_web
set_option Elab.async false
set_option linter.all false
set_option maxRecDepth 100000
set_option maxHeartbeats 4000000
namespace L2
open PySem PySem.Spec PyProof.Rows
abbrev Key:=Sum Int Str
def ZhH:Key->Value->Bool
 | .inl k,v=>Value.isInt k v
 | .inr x,v=>Value.isStrOf x v
def ZkD (w:World):Key->Int
 | .inl k=>hashInt k
 | .inr x=>hashStr w x
theorem ZaF:∀ {k:Key} {v:Value},ZhH k v=true->(∃ i t,k=Sum.inl i/\v=Value.int i t)\/(∃ x t,k=Sum.inr x/\v=Value.str x t)
 | .inl i,v,h=>by
  obtain ⟨t,e⟩:=Value.isInt_shape (k:=i) (v:=v) h
  exact .inl ⟨i,t,rfl,e⟩
 | .inr x,v,h=>by
  obtain ⟨t,e⟩:=Value.isStrOf_shape (x:=x) (v:=v) h
  exact .inr ⟨x,t,rfl,e⟩
theorem ZhI (a b:Int):decide ((Sum.inl a:Key)=Sum.inl b)=(a == b):=by
 by_cases e:a=b
 ·subst e;simp
 ·have h:¬ (Sum.inl a:Key)=Sum.inl b:=λq=>e (Sum.inl.inj q)
  rw [decide_eq_false h]
  exact (beq_eq_false_iff_ne.mpr e).symm
theorem ZhJ (a b:Str):decide ((Sum.inr a:Key)=Sum.inr b)=decide (a=b):=by
 by_cases e:a=b
 ·subst e;simp
 ·have h:¬ (Sum.inr a:Key)=Sum.inr b:=λq=>e (Sum.inr.inj q)
  rw [decide_eq_false h,decide_eq_false e]
theorem ZhK (a:Int) (b:Str):decide ((Sum.inl a:Key)=Sum.inr b)=false:=decide_eq_false (λq=>nomatch q)
theorem ZhL (a:Str) (b:Int):decide ((Sum.inr a:Key)=Sum.inl b)=false:=decide_eq_false (λq=>nomatch q)
def ZeC (prog:Program) (w:World):PySem.KeyKind prog w Key where
 is:=ZhH
 hash:=ZkD w
 inj:=λv a b ha hb=>by
  rcases ZaF ha with ⟨i,t,rfl,rfl⟩ | ⟨x,t,rfl,rfl⟩
  ·rcases ZaF hb with ⟨j,u,rfl,e⟩ | ⟨y,u,rfl,e⟩
   ·injection e with e1 _;rw [e1]
   ·exact nomatch e
  ·rcases ZaF hb with ⟨j,u,rfl,e⟩ | ⟨y,u,rfl,e⟩
   ·exact nomatch e
   ·injection e with e1 _;rw [e1]
 byValue:=λk v h=>by
  rcases ZaF h with ⟨i,t,rfl,rfl⟩ | ⟨x,t,rfl,rfl⟩ <;> rfl
 pyHash:=λhv h=>by
  rcases ZaF hv with ⟨i,t,rfl,rfl⟩ | ⟨x,t,rfl,rfl⟩
  ·exact wpAny_pyHash_int h
  ·exact wpAny_pyHash_str h
 eqBool:=λhu hv h=>by
  rcases ZaF hu with ⟨i,t,rfl,rfl⟩ | ⟨x,t,rfl,rfl⟩
  ·rcases ZaF hv with ⟨j,u,rfl,rfl⟩ | ⟨y,u,rfl,rfl⟩
   ·rw [ZhI] at h;exact wpAny_eqBool_int h
   ·rw [ZhK] at h;exact SeqAt.EqAt.int_str i t y u _ _ _ _ h
  ·rcases ZaF hv with ⟨j,u,rfl,rfl⟩ | ⟨y,u,rfl,rfl⟩
   ·rw [ZhL] at h;exact SeqAt.EqAt.str_int x t j u _ _ _ _ h
   ·rw [ZhJ] at h;exact wpAny_eqBool_str h
 «strs»:=λk x t v h=>by
  rcases ZaF h with ⟨i,u,rfl,e⟩ | ⟨y,u,rfl,e⟩
  ·exact nomatch e
  ·injection e with e1 _
   subst e1
   cases v <;> rfl
end L2
namespace L2
open PySem PySem.Spec PyProof.Rows
inductive V where
 | non | bl (b:Bool) | int (i:Int) | str (x:Str) | byt (b:Array UInt8) | flt (b:UInt64) | ref (a:Addr) | ty (n:String)
 deriving DecidableEq
def RelV:V->Value->Prop
 | .non,u=>u=Value.none
 | .bl b,u=>u=Value.bool b
 | .int i,u=>∃ t,u=Value.int i t
 | .str x,u=>∃ t,u=Value.str x t
 | .byt b,u=>∃ t,u=Value.bytes b t
 | .flt b,u=>∃ t,u=Value.float b t
 | .ref a,u=>u=Value.ref a
 | .ty n,u=>u=Value.type n
abbrev Vals:List V->List Value->Prop:=Paired RelV
theorem Vals.length {xs:List V} {us:List Value} (r:Vals xs us):xs.length=us.length:=Paired.length r
theorem Vals.get:∀ {xs:List V} {us:List Value} {i:Nat} {x:V},Vals xs us->xs[i]?=some x->∃ u,us[i]?=some u/\RelV x u
 | _,_,_,_,.nil,e=>by simp at e
 | _,_,0,_,.cons r _,e=>by simp at e;subst e;exact ⟨_,rfl,r⟩
 | _,_,i+1,x,.cons _ t,e=>by
  obtain ⟨u,h1,h2⟩:=Vals.get (i:=i) (x:=x) t (by simpa using e)
  exact ⟨u,by simpa using h1,h2⟩
theorem Vals.append:∀ {xs ys:List V} {us ws:List Value},Vals xs us->Vals ys ws->Vals (xs++ys) (us++ws)
 | _,_,_,_,.nil,s=>s
 | _,_,_,_,.cons r t,s=>.cons r (Vals.append t s)
theorem Vals.take:∀ {xs:List V} {us:List Value} (n:Nat),Vals xs us->Vals (xs.take n) (us.take n)
 | _,_,0,_=>.nil
 | _,_,_+1,.nil=>.nil
 | _,_,n+1,.cons r t=>.cons r (Vals.take n t)
theorem Vals.drop:∀ {xs:List V} {us:List Value} (n:Nat),Vals xs us->Vals (xs.drop n) (us.drop n)
 | _,_,0,r=>r
 | _,_,_+1,.nil=>.nil
 | _,_,n+1,.cons _ t=>Vals.drop n t
def Zje:Option V->Option Value->Prop
 | some v,some u=>RelV v u
 | none,none=>True
 | _,_=>False
def KV {κ:Type}:List (κ×V)->List (κ×Value)->Prop:=Paired λ(p:κ×V) (q:κ×Value)=>p.1=q.1/\RelV p.2 q.2
def kV:Key->V
 | .inl i=>.int i
 | .inr x=>.str x
inductive HO where
  | lst (xs:List V)
  | tup (xs:List V)
  | dK (kvs:List (Key×V)) | dT (kvs:List (List Key×V))
  | set (S:Int->Bool) (n:Nat)
  | ins (C dx:Addr) (fs:List (Str×V))
  | own (x:Addr)
  | xd (fs:List (Str×V))
  | met (f x:Addr)
  | rng (lo hi:Int)
  | frz (o:Obj) (u:HO)
  | tbl (ps:Array Value)
  | ext (φ:Heap->Prop)
abbrev Hp:=Addr->Option HO
def upd (H:Hp) (a:Addr) (o:HO):Hp:=λb=>if b=a then some o else H b
theorem Zad {H:Hp} {a:Addr} {o:HO}:upd H a o a=some o:=by unfold upd;rw [if_pos rfl]
theorem Zas {H:Hp} {a b:Addr} {o:HO} (h:b≠a):upd H a o b=H b:=by unfold upd;rw [if_neg h]
theorem Zjf {H:Hp} {a b:Addr} {o u:HO} (h:H a=some o) (h':H b=some u) (d:o≠u):a≠b:=by
 intro e;subst e;rw [h] at h';exact d (Option.some.inj h')
theorem Zak {H:Hp} {a b:Addr} {o:HO} (h:H a=some o) (h':H b=none):a≠b:=by
 intro e;subst e;rw [h] at h';cases h'
section
variable (P:Program) (w:World)
def ObjOk (H:Hp) (h:Heap) (a:Addr):HO->Prop
 | .lst xs=>xs.length<=sizeLine/\∃ (its:List Value) (n:Nat),Vals xs its/\h.get? a=some { cls:=.type "list", data:=.seq its.toArray n }
 | .tup xs=>xs.length<=sizeLine/\∃ its:List Value,Vals xs its/\IsTup h a its.toArray
 | .dK kvs=>kvs.length<=sizeLine/\(a == sysModules)=false/\∃ vs,KV kvs vs/\h.DictOf (ZeC P w) a vs
 | .dT kvs=>kvs.length<=sizeLine/\(a == sysModules)=false/\∃ xs:List (List Key×Addr×Value),
   Paired (λ(p:List Key×V) (q:List Key×Addr×Value)=>p.1=q.1/\H q.2.1=some (.tup (p.1.map kV))/\RelV p.2 q.2.2) kvs xs /\
   ∃ o es ep,h.get? a=some o/\o.ExactDict/\o.data=.dict es ep/\es.toList=xs.map (entryOfKey (tupleKind (ZeC P w)))/\(xs.map (·.1)).Nodup
 | .set S n=>h.SetOf (intKind P w) a S n
 | .ins C dx fs=>H dx=some (.own a)/\fs.length<=1000/\dx≠a/\h.get? a=some (PySem.W.instObj C dx) /\
   ∃ mA,h.Ns1 dx mA/\(∀ f,Zje (fs.lookup f) (mA f))/\PySem.Within mA (fs.map (·.1))
 | .own _=>∃ o,h.get? a=some o
 | .xd fs=>∃ mA,h.Ns1 a mA/\∀ f,Zje (fs.lookup f) (mA f)
 | .rng lo hi=>∃ t u v,h.get? a=some { cls:=.type "range", data:=.fields #[.int lo t,.int hi u,.int 1 v] }
 | .frz o u=>h.get? a=some o/\ObjOk H h a u
 | .tbl ps=>h.get? a=some { cls:=.none,data:=.fields ps }
 | .met f x=>h.get? a=some (PySem.W.methodObj (.ref f) (.ref x))
 | .ext φ=>φ h/\(∃ o,h.get? a=some o)/\∀ h1 h2:Heap,φ h1->(∀ o,h1.get? a=some o->h2.get? a=some o)->φ h2
def HOk (H:Hp) (h:Heap):Prop:=∀ a o,H a=some o->ObjOk P w H h a o
end
section
variable {P:Program} {w:World} {H H':Hp} {h h':Heap} {a:Addr} {o:HO}
theorem ObjOk.lt (x:ObjOk P w H h a o):a<h.objs.size:=by
 cases o with
 | lst xs=>obtain ⟨_,_,_,_,e⟩:=x;exact Heap.lt_size e
 | tup xs=>obtain ⟨_,_,_,p⟩:=x;exact p.lt
 | dK kvs=>obtain ⟨_,_,_,_,o,_,_,e,_⟩:=x;exact Heap.lt_size e
 | dT kvs=>obtain ⟨_,_,_,_,o,_,_,e,_⟩:=x;exact Heap.lt_size e
 | set S n=>obtain ⟨o,_,_,_,e,_⟩:=x;exact Heap.lt_size e
 | ins C dx fs=>obtain ⟨_,_,_,e,_⟩:=x;exact Heap.lt_size e
 | own y=>obtain ⟨_,e⟩:=x;exact Heap.lt_size e
 | xd fs=>obtain ⟨_,⟨_,_,_,e,_⟩,_⟩:=x;exact Heap.lt_size e
 | rng lo hi=>obtain ⟨_,_,_,e⟩:=x;exact Heap.lt_size e
 | frz ob u=>obtain ⟨e,_⟩:=x;exact Heap.lt_size e
 | tbl ps=>exact Heap.lt_size (show h.get? a=some _ from x)
 | met f y=>exact Heap.lt_size (show h.get? a=some _ from x)
 | ext φ=>obtain ⟨_,⟨_,e⟩,_⟩:=x;exact Heap.lt_size e
theorem Paired.mapP {α β:Type} {F G:α->β->Prop}:∀ {l₁:List α} {l₂:List β},Paired F l₁ l₂->(∀ a b,F a b->G a b)->Paired G l₁ l₂
 | _,_,.nil,_=>.nil
 | _,_,.cons r t,f=>.cons (f _ _ r) (Paired.mapP t f)
theorem ObjOk.stay (x:ObjOk P w H h a o) (k:∀ b u,(b=a\/H b=some (.own a))->h.get? b=some u->h'.get? b=some u)
  (ho:∀ b,H b=some (.own a)->H' b=some (.own a)) (ht:∀ b xs,H b=some (.tup xs)->H' b=some (.tup xs)):ObjOk P w H' h' a o:=by
 induction o with
 | lst xs=>obtain ⟨z,its,n,r,e⟩:=x;exact ⟨z,its,n,r,k _ _ (.inl rfl) e⟩
 | tup xs=>obtain ⟨z,its,r,ob,e,c⟩:=x;exact ⟨z,its,r,ob,k _ _ (.inl rfl) e,c⟩
 | dK kvs=>obtain ⟨z,y,vs,r,ob,es,ep,e,c⟩:=x;exact ⟨z,y,vs,r,ob,es,ep,k _ _ (.inl rfl) e,c⟩
 | dT kvs=>
  obtain ⟨z,y,xs,r,ob,es,ep,e,c⟩:=x
  exact ⟨z,y,xs,Paired.mapP r λp q z=>⟨z.1,ht _ _ z.2.1,z.2.2⟩,ob,es,ep,k _ _ (.inl rfl) e,c⟩
 | set S n=>obtain ⟨ob,es,ep,t,e,c⟩:=x;exact ⟨ob,es,ep,t,k _ _ (.inl rfl) e,c⟩
 | ins C dx fs=>
  obtain ⟨d,z,ne,e,mA,⟨od,es,ep,e2,c⟩,r⟩:=x
  exact ⟨ho _ d,z,ne,k _ _ (.inl rfl) e,mA,⟨od,es,ep,k _ _ (.inr d) e2,c⟩,r⟩
 | own y=>obtain ⟨ob,e⟩:=x;exact ⟨ob,k _ _ (.inl rfl) e⟩
 | xd fs=>obtain ⟨mA,⟨od,es,ep,e,c⟩,r⟩:=x;exact ⟨mA,⟨od,es,ep,k _ _ (.inl rfl) e,c⟩,r⟩
 | rng lo hi=>obtain ⟨t,u,v,e⟩:=x;exact ⟨t,u,v,k _ _ (.inl rfl) e⟩
 | frz ob u ih=>obtain ⟨e,q⟩:=x;exact ⟨k _ _ (.inl rfl) e,ih q⟩
 | tbl ps=>
  have e:h.get? a=some { cls:=.none,data:=.fields ps }:=x
  show h'.get? a=some { cls:=.none,data:=.fields ps }
  exact k a _ (.inl rfl) e
 | met f y=>
  have e:h.get? a=some (PySem.W.methodObj (.ref f) (.ref y)):=x
  show h'.get? a=some (PySem.W.methodObj (.ref f) (.ref y))
  exact k a _ (.inl rfl) e
 | ext φ=>obtain ⟨p,⟨o,e⟩,st⟩:=x;exact ⟨st _ _ p λo q=>k _ _ (.inl rfl) q,⟨o,k _ _ (.inl rfl) e⟩,st⟩
theorem HOk.lt (x:HOk P w H h) (e:H a=some o):a<h.objs.size:=(x a o e).lt
theorem HOk.fresh (x:HOk P w H h) (e:h.objs.size<=a):H a=none:=by
 cases q:H a with
 | none=>rfl
 | some u=>exact absurd (Nat.lt_of_lt_of_le (x.lt q) e) (Nat.lt_irrefl _)
theorem HOk.kept (x:HOk P w H h) (k:∀ b u,h.get? b=some u->h'.get? b=some u):HOk P w H h':=λa o e=>
 (x a o e).stay (λb u _ q=>k b u q) (λ_ q=>q) λ_ _ q=>q
theorem HOk.laid (x:HOk P w H h) (k:∀ b u,h.get? b=some u->h'.get? b=some u) (hp:h.objs.size<=a) (new:ObjOk P w (upd H a o) h' a o):HOk P w (upd H a o) h':=λb u e=>by
 have hn:=x.fresh hp
 by_cases hb:b=a
 ·subst hb;rw [Zad] at e;cases e;exact new
 ·rw [Zas hb] at e
  exact (x b u e).stay (λc v _ q=>k c v q) (λc q=>by rw [Zas (Zak q hn)];exact q) λc xs q=>by rw [Zas (Zak q hn)];exact q
end
def Rd (H:Hp) (a:Addr) (u:HO):Prop:=H a=some u\/∃ o,H a=some (.frz o u)
theorem Rd.ok {P:Program} {w:World} {H:Hp} {h:Heap} {a:Addr} {u:HO} (r:Rd H a u) (x:HOk P w H h):ObjOk P w H h a u:=by
 rcases r with r | ⟨o,r⟩
 ·exact x a u r
 ·obtain ⟨_,q⟩:=x a _ r
  exact q
def Mut:Option HO->Prop
 | some (.lst _)=>True
 | some (.dK _)=>True
 | some (.dT _)=>True
 | some (.set _ _)=>True
 | some (.ins _ _ _)=>True
 | some (.ext _)=>True
 | _=>False
section
variable {P:Program} {w:World} {H:Hp} {h h':Heap} {x e:Addr} {o':HO}
theorem HOk.write (ok:HOk P w H h) (mu:Mut (H x)) (he:e=x\/H e=some (.own x)) (k:∀ b u,b≠e->h.get? b=some u->h'.get? b=some u) (heo:∃ u,h'.get? e=some u)
  (new:ObjOk P w (upd H x o') h' x o'):HOk P w (upd H x o') h':=λb u q=>by
 have nown:∀ c y,H c=some (.own y)->c≠x:=λc y r z=>by subst z;rw [r] at mu;exact mu
 have ntup:∀ c xs,H c=some (.tup xs)->c≠x:=λc xs r z=>by subst z;rw [r] at mu;exact mu
 by_cases hb:b=x
 ·subst hb;rw [Zad] at q;cases q;exact new
 ·rw [Zas hb] at q
  by_cases hbe:b=e
  ·have q':H b=some (.own x):=by
    rcases he with z | z
    ·exact absurd (hbe.trans z) hb
    ·rw [hbe];exact z
   rw [q] at q';cases q'
   obtain ⟨v,hv⟩:=heo
   exact ⟨v,by rw [hbe];exact hv⟩
  ·refine (ok b u q).stay (λc v hc r=>k c v ?_ r) (λc r=>by rw [Zas (nown c b r)];exact r) λc xs r=>by rw [Zas (ntup c xs r)];exact r
   rcases hc with rfl | hc
   ·exact hbe
   ·rintro rfl
    rcases he with z | z
    ·exact nown c b hc z
    ·rw [hc] at z;cases z;exact hb rfl
end
structure Un (fs ex:List Addr) (H H':Hp) (h h':Heap):Prop where
 keep:∀ b o,h.get? b=some o->H b=none->b ∉ fs->b ∉ ex->h'.get? b=some o
 slot:∀ b o,h.get? b=some o->H b=none->b∈fs->b ∉ ex->∃ sl,h'.get? b=some { o with slots:=sl }
 free:∀ b o,h.get? b=some o->H b=none->b ∉ ex->H' b=none
 there:∀ b o,h.get? b=some o->b ∉ ex->∃ o',h'.get? b=some o'
 tups:∀ b xs,H b=some (.tup xs)->H' b=some (.tup xs)
 frzs:∀ b o u,H b=some (.frz o u)->H' b=some (.frz o u)
 tbls:∀ b ps,H b=some (.tbl ps)->∃ more,H' b=some (.tbl (ps++more))
section
variable {fs fs' ex ex':List Addr} {H H1 H2:Hp} {h h1 h2 h':Heap} {a x e:Addr} {o:HO}
theorem Un.any (u:Un fs ex H H1 h h1) {b:Addr} {ob:Obj} (q:h.get? b=some ob) (n:H b=none) (hx:b ∉ ex):∃ sl,h1.get? b=some { ob with slots:=sl }:=by
 by_cases hb:b∈fs
 ·exact u.slot b ob q n hb hx
 ·exact ⟨ob.slots,u.keep b ob q n hb hx⟩
theorem Un.kept (k:∀ b u,h.get? b=some u->h'.get? b=some u):Un fs ex H H h h':=
 ⟨λb ob q _ _ _=>k b ob q,λb ob q _ _ _=>⟨ob.slots,k b ob q⟩,λ_ _ _ n _=>n,λb ob q _=>⟨ob,k b ob q⟩,λ_ _ q=>q,λ_ _ _ q=>q,λ_ ps q=>⟨#[],by rw [q];simp⟩⟩
theorem Un.refl:Un fs ex H H h h:=Un.kept λ_ _ q=>q
theorem Un.laid (k:∀ b u,h.get? b=some u->h'.get? b=some u) (hp:h.objs.size<=a) (hn:H a=none):Un fs ex H (upd H a o) h h' where
 keep:=λb u q _ _ _=>k b u q
 slot:=λb u q _ _ _=>⟨u.slots,k b u q⟩
 free:=λb u q n _=>by rw [Zas (Nat.ne_of_lt (Nat.lt_of_lt_of_le (Heap.lt_size q) hp))];exact n
 there:=λb u q _=>⟨u,k b u q⟩
 tups:=λb xs q=>by rw [Zas (Zak q hn)];exact q
 frzs:=λb u xs q=>by rw [Zas (Zak q hn)];exact q
 tbls:=λb ps q=>⟨#[],by rw [Zas (Zak q hn),q];simp⟩
theorem Un.write (mu:Mut (H x)) (he:e=x\/H e=some (.own x)) (k:∀ b u,b≠e->h.get? b=some u->h'.get? b=some u) (heo:∃ u,h'.get? e=some u):Un fs ex H (upd H x o) h h':=by
 have hx:∀ b,H b=none->b≠x:=λb n z=>by subst z;rw [n] at mu;exact mu
 have hb:∀ b,H b=none->b≠e:=λb n z=>by
  subst z
  rcases he with r | r
  ·exact hx b n r
  ·rw [n] at r;cases r
 have hm:∀ b u,H b=some u->¬ Mut (some u)->b≠x:=λb u q nm z=>by subst z;rw [q] at mu;exact nm mu
 refine ⟨λb u q n _ _=>k b u (hb b n) q,λb u q n _ _=>⟨u.slots,k b u (hb b n) q⟩,λb u q n _=>by rw [Zas (hx b n)];exact n,λb u q _=>?_,
  λb xs q=>by rw [Zas (hm b _ q λz=>z)];exact q,λb u xs q=>by rw [Zas (hm b _ q λz=>z)];exact q,λb ps q=>⟨#[],by rw [Zas (hm b _ q λz=>z),q];simp⟩⟩
 by_cases hbe:b=e
 ·subst hbe;exact heo
 ·exact ⟨u,k b u hbe q⟩
end
def trk (h:Heap) (H:Hp):List Addr:=(List.range h.objs.size).filter λa=>(H a).isSome
def ZfK (h:Heap) (H:Hp):Heap:=PySem.W.hideAll h (trk h H)
theorem ZeD (h:Heap) (H:Hp):(ZfK h H).objs.size=h.objs.size:=PySem.W.hideAll_size _ _
theorem ZfL {h:Heap} {H:Hp} {b:Addr} {o:Obj} (e:h.get? b=some o) (n:H b=none):(ZfK h H).get? b=some o:=
 PySem.W.hideAll_get _ e λhm=>by
  have q:(H b).isSome=true:=(List.mem_filter.mp hm).2
  rw [n] at q;simp at q
theorem ZgH {h:Heap} {H:Hp} {b:Addr} {o:Obj} (e:(ZfK h H).get? b=some o):h.get? b=some o/\H b=none:=by
 have e':h.get? b=some o:=PySem.W.of_hideAll (trk h H) e
 refine ⟨e',?_⟩
 cases q:H b with
 | none=>rfl
 | some x=>
  have hm:b∈trk h H:=List.mem_filter.mpr ⟨List.mem_range.mpr (Heap.lt_size e'),by simp [q]⟩
  have z:(ZfK h H).get? b=none:=PySem.W.hideAll_none (trk h H) hm
  rw [z] at e;cases e
def ZgI (g h:Heap) (L:Addr):List (Addr×Obj):=(List.range h.objs.size).filterMap λa=>if a=L\/(g.get? a).isSome=true then none else (h.get? a).map λo=>(a,o)
def rest (g h:Heap) (L d:Addr):List (Addr×Obj):=(ZgI g h L).filter λp=>decide (p.1≠d)
end L2
namespace L2
open PySem PySem.Spec PyProof.Rows
structure Mod (K:PySem.W.Frag) (mg:Str->Option Value) (base:Heap):Prop where
 kin:K.In base
 glob:base.Ns mainGlobals mg
 blt:∃ mb,base.Ns builtinsNs mb/\∀ x:Str,x ≠ "__name__" -> mb x=bootBuiltins x
 nolimit:base.NoLimit
structure Cx where
 prog:Program
 w:World
 K:PySem.W.Frag
 mg:Str->Option Value
 base:Heap
 A:Around
 N:List Str
 s₀:Shared
 H₀:Hp
 env:Env
 outer:List Env
 stack:List Env
 ex:List Addr
 fn:Str->Bool
 calm:Bool
 pn:List (Addr×Obj)
 xe:Value->Shared->Prop
def frs (l:List Env):List Addr:=l.filterMap (·.frame)
abbrev Cx.fs (X:Cx):List Addr:=frs X.outer
def Vis (sc:Scope) (x:Str):Prop:=sc.names.lookup x=some .local\/sc.names.lookup x=some .cell\/sc.names.lookup x=some .free
def Loc (sc:Scope) (x:Str):Prop:=sc.names.lookup x=some .local\/sc.names.lookup x=some .cell
def ZkE (env:Env) (h:Heap) (m:Str->Option Value) (x:Str) (u:Value):Prop:=
 (env.kindOf x=some .local/\m x=some u)\/((env.kindOf x=some .cell\/env.kindOf x=some .free)/\∃ c,env.cells.lookup x=some c/\h.IsCell c (some u))
structure Cx.Ok (X:Cx):Prop where
 mod:Mod X.K X.mg X.base
 kind:X.env.scope.kind=.function
 glob:X.env.globals=mainGlobals
 blt:X.env.builtins=builtinsNs
 above:X.s₀.heap.objs.size<=X.env.locals
 inj:∀ x y c,X.env.cells.lookup x=some c->X.env.cells.lookup y=some c->x=y
 has:∀ x,(X.env.kindOf x=some .cell\/X.env.kindOf x=some .free)->∃ c,X.env.cells.lookup x=some c
 cab:∀ x c,X.fn x=true->X.env.cells.lookup x=some c->X.s₀.heap.objs.size<=c
 hd:X.calm=true->X.A.handled=none
 frames:X.A.frames=some X.stack
 stk:X.stack=X.outer\/(X.stack=X.env::X.outer/\X.env.frame=some X.env.locals)
 exf:∀ b∈X.ex,b≠X.env.locals/\∀ x c,X.env.cells.lookup x=some c->c≠b
 bs:∀ b o,X.base.get? b=some o->X.s₀.heap.get? b=some o/\X.H₀ b=none
 bsz:X.base.objs.size<=X.s₀.heap.objs.size
 noex:∀ b o,X.base.get? b=some o->b ∉ X.ex
 exfs:∀ b∈X.ex,b ∉ X.fs
 funs:X.s₀.heap.FunFrames X.base X.outer
 frf:∀ b∈X.fs,X.H₀ b=none
structure Inv (X:Cx) (pins:List (Addr×Obj)) (σ:List (Option V)) (H:Hp) (s:Shared):Prop where
 ok:X.Ok
 os:s.os=X.s₀.os
 bare:AllBare s.gens
 base:Un X.fs X.ex X.H₀ H X.s₀.heap s.heap
 loc:∃ m,s.heap.Ns X.env.locals m/\∀ (i:Nat) (x:Str) (v:V),X.N[i]?=some x->σ[i]?=some (some v)->Vis X.env.scope x->∃ u,RelV v u/\ZkE X.env s.heap m x u
 cell:∀ x c,X.env.cells.lookup x=some c->∃ v,s.heap.IsCell c v
 free:H X.env.locals=none
 freeC:∀ x c,X.env.cells.lookup x=some c->H c=none
 pin:∀ p∈X.pn++pins,s.heap.get? p.1=some p.2/\H p.1=none/\p.1≠X.env.locals/\p.1 ∉ X.fs/\∀ v,p.2.data≠.cell v
 hok:HOk X.prog X.w H s.heap
 len:σ.length=X.N.length
section
variable {X:Cx} {pins:List (Addr×Obj)} {σ:List (Option V)} {H H':Hp} {s:Shared} {h':Heap}
theorem Cx.Ok.nofr (ok:X.Ok) {b:Addr} {o:Obj} (e:X.base.get? b=some o):b ∉ X.fs:=λhb=>by
 have:=(ok.funs.mem hb).1
 rw [e] at this;cases this
theorem Inv.bs (I:Inv X pins σ H s):∀ b o,X.base.get? b=some o->s.heap.get? b=some o/\H b=none:=λb o e=>
 ⟨I.base.keep b o (I.ok.bs b o e).1 (I.ok.bs b o e).2 (I.ok.nofr e) (I.ok.noex b o e),I.base.free b o (I.ok.bs b o e).1 (I.ok.bs b o e).2 (I.ok.noex b o e)⟩
theorem Inv.bk (I:Inv X pins σ H s):∀ b o,X.base.get? b=some o->s.heap.get? b=some o:=λb o e=>(I.bs b o e).1
theorem Inv.mod (I:Inv X pins σ H s):Mod X.K X.mg X.base:=I.ok.mod
theorem Inv.kIn (I:Inv X pins σ H s):X.K.In s.heap:=I.ok.mod.kin.keeps I.bk
theorem Inv.lt (I:Inv X pins σ H s):X.env.locals<s.heap.objs.size:=let ⟨_,hn,_⟩:=I.loc;hn.lt
theorem Inv.sz (I:Inv X pins σ H s):X.s₀.heap.objs.size<=s.heap.objs.size:=Nat.le_trans I.ok.above (Nat.le_of_lt I.lt)
theorem Inv.nofs (I:Inv X pins σ H s) {a:Addr} (h:s.heap.objs.size<=a):a ∉ X.fs:=λhb=>by
 obtain ⟨_,o,ho,_⟩:=I.ok.funs.mem hb
 exact absurd (Nat.lt_of_lt_of_le (Heap.lt_size ho) (Nat.le_trans I.sz h)) (Nat.lt_irrefl _)
theorem Inv.cne (I:Inv X pins σ H s):∀ x c,X.env.cells.lookup x=some c->c≠X.env.locals:=λx c e z=>by
 obtain ⟨v,o,ho,hd⟩:=I.cell x c e
 obtain ⟨m,⟨o',es,ep,ho',hd',_⟩,_⟩:=I.loc
 rw [z,ho'] at ho;cases ho;rw [hd'] at hd;cases hd
theorem Inv.funs (I:Inv X pins σ H s):s.heap.FunFrames X.base X.outer:=by
 have all:∀ (l:List Env),(∀ b∈frs l,b∈X.fs)->X.s₀.heap.FunFrames X.base l->s.heap.FunFrames X.base l:=by
  intro l
  induction l with
  | nil=>intro _ _;trivial
  | cons env r ih=>
   intro hs hl
   obtain ⟨hk,⟨L,o,hf,hn,ho,hd⟩,hr⟩:=hl
   have hL:L∈X.fs:=hs L (by unfold frs;rw [List.filterMap_cons,hf];exact List.mem_cons_self)
   obtain ⟨sl,e⟩:=I.base.slot L o ho (I.ok.frf L hL) hL λz=>I.ok.exfs L z hL
   exact ⟨hk,⟨L,_,hf,hn,e,hd⟩,ih (λb hb=>hs b (by unfold frs;rw [List.filterMap_cons,hf];exact List.mem_cons_of_mem _ hb)) hr⟩
 exact all X.outer (λ_ hb=>hb) I.ok.funs
theorem Inv.stack (I:Inv X pins σ H s):s.heap.FunFrames X.base X.stack:=by
 rcases I.ok.stk with e | ⟨e,hf⟩
 ·rw [e];exact I.funs
 ·rw [e]
  obtain ⟨m,hn,_⟩:=I.loc
  refine .cons (by rw [I.ok.kind];decide) hf hn ?_ I.funs
  exact Heap.get?_none_of_le (Nat.le_trans I.ok.bsz I.ok.above)
theorem Inv.stkSub (I:Inv X pins σ H s):∀ b∈frs X.stack,b∈X.env.locals::X.fs:=λb hb=>by
 rcases I.ok.stk with e | ⟨e,hf⟩
 ·rw [e] at hb;exact List.mem_cons_of_mem _ hb
 ·rw [e] at hb
  unfold frs at hb
  rw [List.filterMap_cons,hf] at hb
  exact hb
theorem Inv.stkFree (I:Inv X pins σ H s):∀ b∈frs X.stack,H b=none:=λb hb=>by
 rcases List.mem_cons.mp (I.stkSub b hb) with e | hb
 ·rw [e];exact I.free
 ·obtain ⟨_,o,ho,_⟩:=I.ok.funs.mem hb
  exact I.base.free b o ho (I.ok.frf b hb) λz=>I.ok.exfs b z hb
theorem Inv.step {g':Array GenState} {t':Nat} {d':Drawn} {ch:List Addr} (I:Inv X pins σ H s)
  (hch:∀ b∈ch,(b∈X.ex\/X.s₀.heap.objs.size<=b)/\b≠X.env.locals/\(∀ x c,X.env.cells.lookup x=some c->c≠b)/\∀ p∈X.pn++pins,p.1≠b)
  (keep:∀ b o,b≠X.env.locals->b ∉ X.fs->b ∉ ch->s.heap.get? b=some o->H b=none->h'.get? b=some o)
  (slot:∀ b o,b≠X.env.locals->b∈X.fs->b ∉ ch->s.heap.get? b=some o->H b=none->∃ sl,h'.get? b=some { o with slots:=sl }) (free:∀ b o,b ∉ ch->s.heap.get? b=some o->H b=none->H' b=none)
  (there:∀ b o,b ∉ ch->s.heap.get? b=some o->∃ o',h'.get? b=some o')
  (tups:∀ b xs,H b=some (.tup xs)->H' b=some (.tup xs)) (frzs:∀ b o u,H b=some (.frz o u)->H' b=some (.frz o u)) (tbls:∀ b ps,H b=some (.tbl ps)->∃ more,H' b=some (.tbl (ps++more)))
  (ns:∀ m,s.heap.Ns X.env.locals m->h'.Ns X.env.locals m) (hok:HOk X.prog X.w H' h') (hg:AllBare g') :
  Inv X pins σ H' { s with heap:=h',gens:=g',drawn:=d',toks:=t' }:=by
 have neL:∀ b o,X.s₀.heap.get? b=some o->b≠X.env.locals:=λb o e=>Nat.ne_of_lt (Nat.lt_of_lt_of_le (Heap.lt_size e) I.ok.above)
 have neC:∀ b o,X.s₀.heap.get? b=some o->b ∉ X.ex->b ∉ ch:=λb o e hx hb=>by
  rcases (hch b hb).1 with z | z
  ·exact hx z
  ·exact absurd (Nat.lt_of_lt_of_le (Heap.lt_size e) z) (Nat.lt_irrefl _)
 have cellK:∀ x c,X.env.cells.lookup x=some c->∀ v,s.heap.IsCell c v->h'.IsCell c v:=λx c e v ⟨o,ho,hd⟩=>by
  have nch:c ∉ ch:=λz=>(hch c z).2.2.1 x c e rfl
  by_cases hc:c∈X.fs
  ·obtain ⟨sl,q⟩:=slot c o (I.cne x c e) hc nch ho (I.freeC x c e)
   exact ⟨_,q,hd⟩
  ·exact ⟨o,keep c o (I.cne x c e) hc nch ho (I.freeC x c e),hd⟩
 refine ⟨I.ok,I.os,hg,⟨λb o e n hb hx=>?_,λb o e n hb hx=>?_,λb o e n hx=>?_,λb o e hx=>?_,λb xs e=>tups b xs (I.base.tups b xs e),λb o xs e=>frzs b o xs (I.base.frzs b o xs e),λb ps e=>?_⟩,?_,λx c e=>?_,?_,λx c e=>?_,λp hp=>?_,hok,I.len⟩
 ·exact keep b o (neL b o e) hb (neC b o e hx) (I.base.keep b o e n hb hx) (I.base.free b o e n hx)
 ·obtain ⟨sl,e1⟩:=I.base.slot b o e n hb hx
  obtain ⟨sl',e2⟩:=slot b _ (neL b o e) hb (neC b o e hx) e1 (I.base.free b o e n hx)
  exact ⟨sl',e2⟩
 ·obtain ⟨o',e1⟩:=I.base.there b o e hx
  exact free b o' (neC b o e hx) e1 (I.base.free b o e n hx)
 ·obtain ⟨o',e1⟩:=I.base.there b o e hx
  exact there b o' (neC b o e hx) e1
 ·obtain ⟨m1,e1⟩:=I.base.tbls b ps e
  obtain ⟨m2,e2⟩:=tbls b _ e1
  exact ⟨m1++m2,by rw [e2,Array.append_assoc]⟩
 ·obtain ⟨m,hn,hl⟩:=I.loc
  refine ⟨m,ns m hn,λi x v e1 e2 e3=>?_⟩
  obtain ⟨u,r,l⟩:=hl i x v e1 e2 e3
  refine ⟨u,r,?_⟩
  rcases l with l | ⟨k,c,e,z⟩
  ·exact .inl l
  ·exact .inr ⟨k,c,e,cellK x c e _ z⟩
 ·obtain ⟨v,z⟩:=I.cell x c e
  exact ⟨v,cellK x c e v z⟩
 ·obtain ⟨m,⟨o,_,_,ho,_⟩,_⟩:=I.loc
  exact free _ o (λz=>(hch _ z).2.1 rfl) ho I.free
 ·obtain ⟨v,o,ho,hd⟩:=I.cell x c e
  exact free c o (λz=>(hch c z).2.2.1 x c e rfl) ho (I.freeC x c e)
 ·obtain ⟨e,n,ne,nf,d⟩:=I.pin p hp
  have nch:p.1 ∉ ch:=λz=>(hch p.1 z).2.2.2 p hp rfl
  exact ⟨keep p.1 p.2 ne nf nch e n,free p.1 p.2 nch e n,ne,nf,d⟩
theorem Inv.un {t':Nat} (I:Inv X pins σ H s) (u:Un X.fs [] H H' s.heap h') (hok:HOk X.prog X.w H' h'):Inv X pins σ H' { s with heap:=h',toks:=t' }:=by
 obtain ⟨m,⟨o,es,ep,ho,r⟩,_⟩:=id I.loc
 obtain ⟨sl,hL⟩:=u.any ho I.free (by simp)
 exact I.step (g':=s.gens) (d':=s.drawn) (ch:=[]) (λ_ z=>nomatch z) (λb o _ hb _ e n=>u.keep b o e n hb (by simp)) (λb o _ hb _ e n=>u.slot b o e n hb (by simp)) (λb o _ e n=>u.free b o e n (by simp)) (λb o _ e=>u.there b o e (by simp)) u.tups u.frzs u.tbls (λm' hm=>by
  obtain ⟨o',es',ep',ho',r'⟩:=hm
  rw [ho] at ho';cases ho'
  exact ⟨_,es',ep',hL,r'⟩) hok I.bare
theorem Inv.call {g':Array GenState} {t':Nat} {d':Drawn} {ch:List Addr} (I:Inv X pins σ H s) (u:Un (frs X.stack) ch H H' s.heap h') (hok:HOk X.prog X.w H' h') (hg:AllBare g')
  (hch:∀ b∈ch,(b∈X.ex\/X.s₀.heap.objs.size<=b)/\b≠X.env.locals/\(∀ x c,X.env.cells.lookup x=some c->c≠b)/\∀ p∈X.pn++pins,p.1≠b) :
  Inv X pins σ H' { s with heap:=h',gens:=g',drawn:=d',toks:=t' }:=by
 obtain ⟨m,⟨o,es,ep,ho,r⟩,_⟩:=id I.loc
 obtain ⟨sl,hL⟩:=u.any ho I.free λz=>(hch _ z).2.1 rfl
 exact I.step (ch:=ch) hch (λb o hL hb hc e n=>u.keep b o e n (λz=>(List.mem_cons.mp (I.stkSub b z)).elim hL hb) hc) (λb o _ _ hc e n=>u.any e n hc) (λb o hc e n=>u.free b o e n hc) (λb o hc e=>u.there b o e hc) u.tups u.frzs u.tbls (λm' hm=>by
  obtain ⟨o',es',ep',ho',r'⟩:=hm
  rw [ho] at ho';cases ho'
  exact ⟨_,es',ep',hL,r'⟩) hok hg
theorem Inv.turned {t':Nat} {it:Addr} (I:Inv X pins σ H s) (k:∀ b o,b≠it->s.heap.get? b=some o->h'.get? b=some o) (hn:H it=none) (hL:it≠X.env.locals)
  (h1:it∈X.ex\/X.s₀.heap.objs.size<=it) (h2:∀ x c,X.env.cells.lookup x=some c->c≠it) (h3:∀ p∈X.pn++pins,p.1≠it):Inv X pins σ H { s with heap:=h',toks:=t' }:=by
 have nit:∀ b u,H b=some u->b≠it:=λb u e z=>by rw [z,hn] at e;cases e
 refine I.step (g':=s.gens) (d':=s.drawn) (ch:=[it]) (λb hb=>?_) (λb o _ _ hc e _=>k b o (λz=>hc (by simp [z])) e) (λb o _ _ hc e _=>⟨o.slots,k b o (λz=>hc (by simp [z])) e⟩) (λ_ _ _ _ n=>n)
  (λb o hc e=>⟨o,k b o (λz=>hc (by simp [z])) e⟩) (λ_ _ e=>e) (λ_ _ _ e=>e) (λb ps e=>⟨#[],by rw [e];simp⟩) (λm hm=>?_) (λb u e=>?_) I.bare
 ·have e:b=it:=by simpa using hb
  subst e
  exact ⟨h1,hL,h2,h3⟩
 ·obtain ⟨o,es,ep,ho,r⟩:=hm
  exact ⟨o,es,ep,k _ o (Ne.symm hL) ho,r⟩
 ·refine (I.hok b u e).stay (λc v hc q=>k c v ?_ q) (λ_ q=>q) λ_ _ q=>q
  rcases hc with z | z
  ·rw [z];exact nit b u e
  ·exact nit c _ z
theorem Inv.tok (I:Inv X pins σ H s) (t:Nat):Inv X pins σ H { s with toks:=t }:=I.un (h':=s.heap) (t':=t) Un.refl I.hok
theorem Inv.kept {t':Nat} (I:Inv X pins σ H s) (k:∀ b u,s.heap.get? b=some u->h'.get? b=some u):Inv X pins σ H { s with heap:=h',toks:=t' }:=I.un (Un.kept k) (I.hok.kept k)
theorem Inv.laid {a:Addr} {o:HO} {t':Nat} (I:Inv X pins σ H s) (k:∀ b u,s.heap.get? b=some u->h'.get? b=some u) (hp:s.heap.objs.size<=a) (new:ObjOk X.prog X.w (upd H a o) h' a o) :
  Inv X pins σ (upd H a o) { s with heap:=h',toks:=t' }:=I.un (Un.laid k hp (I.hok.fresh hp)) (I.hok.laid k hp new)
theorem Inv.write {x e:Addr} {o:HO} {t':Nat} (I:Inv X pins σ H s) (mu:Mut (H x)) (he:e=x\/H e=some (.own x)) (k:∀ b u,b≠e->s.heap.get? b=some u->h'.get? b=some u) (heo:∃ u,h'.get? e=some u)
  (new:ObjOk X.prog X.w (upd H x o) h' x o):Inv X pins σ (upd H x o) { s with heap:=h',toks:=t' }:=I.un (Un.write mu he k heo) (I.hok.write mu he k heo new)
theorem Inv.weak {σ':List (Option V)} (I:Inv X pins σ H s) (hl:σ'.length=σ.length) (w:∀ (i:Nat) v,σ'[i]?=some (some v)->σ[i]?=some (some v)):Inv X pins σ' H s:=
 ⟨I.ok,I.os,I.bare,I.base,let ⟨m,hn,hl'⟩:=I.loc;⟨m,hn,λi x v e1 e2 e3=>hl' i x v e1 (w i v e2) e3⟩,I.cell,I.free,I.freeC,I.pin,I.hok,hl.trans I.len⟩
theorem Inv.pins_of {pins':List (Addr×Obj)} (I:Inv X pins σ H s) (h:∀ p∈pins',s.heap.get? p.1=some p.2/\H p.1=none/\p.1≠X.env.locals/\p.1 ∉ X.fs/\∀ v,p.2.data≠.cell v):Inv X pins' σ H s:=
 ⟨I.ok,I.os,I.bare,I.base,I.loc,I.cell,I.free,I.freeC,λp hp=>(List.mem_append.mp hp).elim (λz=>I.pin p (List.mem_append_left _ z)) (h p),I.hok,I.len⟩
theorem ZcS {N:List Str} (hN:N.Nodup) {i j:Nat} {x:Str} (a:N[i]?=some x) (b:N[j]?=some x):i=j:=by
 obtain ⟨h1,e1⟩:=List.getElem?_eq_some_iff.mp a
 obtain ⟨h2,e2⟩:=List.getElem?_eq_some_iff.mp b
 exact (List.getElem_inj hN).mp (e1.trans e2.symm)
theorem ZeE {M:Model} {A:Around} {E:Value->Shared->Prop} {i:Nat} {x:Str} {v:V} {u:Value} {Q:Unit->Shared->Prop} (I:Inv X pins σ H s) (hN:X.N.Nodup) (hi:X.N[i]?=some x) (hx:Loc X.env.scope x) (r:RelV v u)
  (h:∀ s',Inv X pins (σ.set i (some v)) H s'->(∃ a,Heap.SameBut a s.heap s'.heap/\(a=X.env.locals\/X.env.cells.lookup x=some a))->Q () s') (hf:X.fn x=true\/X.env.scope.names.lookup x=some .local:=by first | exact .inl rfl | exact .inr rfl | assumption):wpAny M A (storeName X.env x u) Q E s:=by
 obtain ⟨m,hn,hl⟩:=id I.loc
 have hcls:(X.env.scope.kind == .class || (X.env.scope.kind == .module && X.env.locals != X.env.globals))=false:=by rw [I.ok.kind];rfl
 have hiσ:i<σ.length:=by rw [I.len];exact (List.getElem?_eq_some_iff.mp hi).1
 have cne:=I.cne
 have tracked:∀ {a:Addr} {h':Heap},(∃ o,s.heap.get? a=some o/\H a=none)->Heap.SameBut a s.heap h'->HOk X.prog X.w H h':=λ{a h'} ha hs b ob e=>by
  obtain ⟨_,_,hfree⟩:=ha
  refine (I.hok b ob e).stay (λc w' hc q=>(hs.2 c ?_).trans q) (λ_ q=>q) λ_ _ q=>q
  rintro rfl
  rcases hc with rfl | hc
  ·rw [hfree] at e;cases e
  ·rw [hfree] at hc;cases hc
 rcases hx with hk | hk
 ·refine wpAny_storeName_local hk hn (λh' hn' hs=>?_) hcls
  obtain ⟨oL,_,_,hoL,_⟩:=id hn
  refine h _ ⟨I.ok,I.os,I.bare,⟨λb o e n hb hx=>?_,λb o e n hb hx=>?_,I.base.free,λb o e hx=>?_,I.base.tups,I.base.frzs,I.base.tbls⟩,⟨_,hn',λj y v' e1 e2 e3=>?_⟩,λy c e=>?_,I.free,I.freeC,λp hp=>?_,tracked ⟨oL,hoL,I.free⟩ hs,by simpa using I.len⟩ ⟨_,hs,.inl rfl⟩
  ·exact (hs.2 b (Nat.ne_of_lt (Nat.lt_of_lt_of_le (Heap.lt_size e) I.ok.above))).trans (I.base.keep b o e n hb hx)
  ·obtain ⟨sl,e1⟩:=I.base.slot b o e n hb hx
   exact ⟨sl,(hs.2 b (Nat.ne_of_lt (Nat.lt_of_lt_of_le (Heap.lt_size e) I.ok.above))).trans e1⟩
  ·obtain ⟨o',e1⟩:=I.base.there b o e hx
   exact ⟨o',(hs.2 b (Nat.ne_of_lt (Nat.lt_of_lt_of_le (Heap.lt_size e) I.ok.above))).trans e1⟩
  ·by_cases hj:j=i
   ·subst hj
    rw [hi] at e1;cases e1
    rw [List.getElem?_set_self hiσ] at e2
    cases e2
    exact ⟨u,r,.inl ⟨hk,by simp⟩⟩
   ·rw [List.getElem?_set_ne (Ne.symm hj)] at e2
    obtain ⟨u',r',q⟩:=hl j y v' e1 e2 e3
    refine ⟨u',r',?_⟩
    rcases q with ⟨k,e⟩ | ⟨k,c,e,z⟩
    ·refine .inl ⟨k,?_⟩
     have:y≠x:=λe=>hj (ZcS hN e1 (e▸hi))
     simp [this,e]
    ·exact .inr ⟨k,c,e,z.sameBut hs (cne y c e)⟩
  ·obtain ⟨w',z⟩:=I.cell y c e
   exact ⟨w',z.sameBut hs (cne y c e)⟩
  ·obtain ⟨e,n,ne,nf,d⟩:=I.pin p hp
   exact ⟨(hs.2 p.1 ne).trans e,n,ne,nf,d⟩
 ·have hfn:X.fn x=true:=by
   rcases hf with z | z
   ·exact z
   ·rw [z] at hk;cases hk
  obtain ⟨c,hc⟩:=I.ok.has x (.inl hk)
  obtain ⟨w',z⟩:=I.cell x c hc
  refine wpAny_storeName_cell I.ok.kind hk hc z (λh' hc' hs=>?_)
  obtain ⟨oc,hoc,hocd⟩:=id z
  refine h { s with heap:=h' } ⟨I.ok,I.os,I.bare,⟨λb o e n hb hx=>?_,λb o e n hb hx=>?_,I.base.free,λb o e hx=>?_,I.base.tups,I.base.frzs,I.base.tbls⟩,⟨m,hn.sameBut hs (Ne.symm (cne x c hc)),λj y v' e1 e2 e3=>?_⟩,λy c' e=>?_,I.free,I.freeC,λp hp=>?_,tracked ⟨oc,hoc,I.freeC x c hc⟩ hs,by simpa using I.len⟩ ⟨c,hs,.inr hc⟩
  ·exact (hs.2 b (Nat.ne_of_lt (Nat.lt_of_lt_of_le (Heap.lt_size e) (I.ok.cab x c hfn hc)))).trans (I.base.keep b o e n hb hx)
  ·obtain ⟨sl,e1⟩:=I.base.slot b o e n hb hx
   exact ⟨sl,(hs.2 b (Nat.ne_of_lt (Nat.lt_of_lt_of_le (Heap.lt_size e) (I.ok.cab x c hfn hc)))).trans e1⟩
  ·obtain ⟨o',e1⟩:=I.base.there b o e hx
   exact ⟨o',(hs.2 b (Nat.ne_of_lt (Nat.lt_of_lt_of_le (Heap.lt_size e) (I.ok.cab x c hfn hc)))).trans e1⟩
  ·by_cases hj:j=i
   ·subst hj
    rw [hi] at e1;cases e1
    rw [List.getElem?_set_self hiσ] at e2
    cases e2
    exact ⟨u,r,.inr ⟨.inl hk,c,hc,hc'⟩⟩
   ·rw [List.getElem?_set_ne (Ne.symm hj)] at e2
    obtain ⟨u',r',q⟩:=hl j y v' e1 e2 e3
    refine ⟨u',r',?_⟩
    rcases q with q | ⟨k,c',e,z'⟩
    ·exact .inl q
    ·refine .inr ⟨k,c',e,z'.sameBut hs ?_⟩
     rintro rfl
     exact hj (ZcS hN e1 (I.ok.inj _ _ _ e hc▸hi))
  ·by_cases hcc:c'=c
   ·subst hcc;exact ⟨_,hc'⟩
   ·obtain ⟨w2,z2⟩:=I.cell y c' e
    exact ⟨w2,z2.sameBut hs hcc⟩
  ·obtain ⟨e,n,ne,nf,d⟩:=I.pin p hp
   refine ⟨(hs.2 p.1 ?_).trans e,n,ne,nf,d⟩
   intro q
   rw [q,hoc] at e
   have q':oc=p.2:=Option.some.inj e
   exact d w' (by rw [<-q'];exact hocd)
theorem Zca {M:Model} {A:Around} {E:Value->Shared->Prop} {i:Nat} {x:Str} {v:V} {u:Value} {Q:Unit->Shared->Prop} (I:Inv X pins σ H s) (hN:X.N.Nodup) (hi:X.N[i]?=some x) (hx:Loc X.env.scope x) (r:RelV v u)
  (h:∀ s',Inv X pins (σ.set i (some v)) H s'->Q () s') (hf:X.fn x=true\/X.env.scope.names.lookup x=some .local:=by first | exact .inl rfl | exact .inr rfl | assumption):wpAny M A (storeName X.env x u) Q E s:=
 ZeE I hN hi hx r (λs' I' _=>h s' I') hf
theorem Inv.call' {s':Shared} {ch:List Addr} (I:Inv X pins σ H s) (ho:s'.os=s.os) (u:Un (frs X.stack) ch H H' s.heap s'.heap) (hok:HOk X.prog X.w H' s'.heap) (hg:AllBare s'.gens)
  (hch:∀ b∈ch,(b∈X.ex\/X.s₀.heap.objs.size<=b)/\b≠X.env.locals/\(∀ x c,X.env.cells.lookup x=some c->c≠b)/\∀ p∈X.pn++pins,p.1≠b):Inv X pins σ H' s':=by
 obtain ⟨h',g',d',t',o'⟩:=s'
 have e:o'=s.os:=ho
 subst e
 exact I.call (g':=g') (t':=t') (d':=d') u hok hg hch
end
abbrev XK:=Value->Option Addr->Hp->Prop
abbrev St:=List (Option V)
abbrev VK:=V->Hp->Prop
abbrev TE:=St->Hp->VK->Prop
abbrev TT:=St->Hp->(Bool->Hp->Prop)->Prop
abbrev TA:=St->Hp->(List V->Hp->Prop)->Prop
structure Zdm where
 nx:St->Hp->Prop
 rt:VK
 bk:St->Hp->Prop:=λ_ _=>False
 ct:St->Hp->Prop:=λ_ _=>False
abbrev TS:=Zdm->St->Hp->Prop
def EP (X:Cx) (pins:List (Addr×Obj)) (σ:St) (Q:VK) (u:Value) (s':Shared):Prop:=∃ v H',Inv X pins σ H' s'/\RelV v u/\Q v H'
def TP (X:Cx) (pins:List (Addr×Obj)) (σ:St) (Q:Bool->Hp->Prop) (b:Bool) (s':Shared):Prop:=∃ H',Inv X pins σ H' s'/\Q b H'
def AP (X:Cx) (pins:List (Addr×Obj)) (σ:St) (Q:List V->Hp->Prop) (us:List Value) (s':Shared):Prop:=∃ vs H',Inv X pins σ H' s'/\Vals vs us/\Q vs H'
def SP (X:Cx) (pins:List (Addr×Obj)) (D:Zdm) (f:Flow) (s':Shared):Prop:=
 match f with
 | .next=>∃ σ' H',Inv X pins σ' H' s'/\D.nx σ' H'
 | .brk=>∃ σ' H',Inv X pins σ' H' s'/\D.bk σ' H'
 | .cont=>∃ σ' H',Inv X pins σ' H' s'/\D.ct σ' H'
 | .ret u=>∃ v σ' H',Inv X pins σ' H' s'/\RelV v u/\D.rt v H'
def PE (X:Cx) (e:Expr) (t:TE):Prop:=
 ∀ (pins:List (Addr×Obj)) (s:Shared) (σ:St) (H:Hp) (Q:VK),Inv X pins σ H s->t σ H Q->wpAny (model X.prog X.w) X.A (eval e X.env) (EP X pins σ Q) X.xe s
def PT (X:Cx) (e:Expr) (t:TT):Prop:=
 ∀ (pins:List (Addr×Obj)) (s:Shared) (σ:St) (H:Hp) (Q:Bool->Hp->Prop),Inv X pins σ H s->t σ H Q->wpAny (model X.prog X.w) X.A (isTrue e X.env (eval e X.env)) (TP X pins σ Q) X.xe s
def PW (X:Cx) (e:Expr) (t:TT):Prop:=
 ∀ (whole:Sem Value) (pins:List (Addr×Obj)) (s:Shared) (σ:St) (H:Hp) (Q:Bool->Hp->Prop),Inv X pins σ H s->t σ H Q->wpAny (model X.prog X.w) X.A (isTrue e X.env whole) (TP X pins σ Q) X.xe s
theorem PW.pt {X:Cx} {e:Expr} {t:TT} (h:PW X e t):PT X e t:=h _
def PA (X:Cx) (es:List Expr) (t:TA):Prop:=
 ∀ (pos:Pos) (pins:List (Addr×Obj)) (s:Shared) (σ:St) (H:Hp) (Q:List V->Hp->Prop),Inv X pins σ H s->t σ H Q->wpAny (model X.prog X.w) X.A (spliced (backTo pos (starEach es X.env))) (AP X pins σ Q) X.xe s
def PS (X:Cx) (st:Stmt) (t:TS):Prop:=
 ∀ (pins:List (Addr×Obj)) (s:Shared) (σ:St) (H:Hp) (D:Zdm),Inv X pins σ H s->t D σ H->wpAny (model X.prog X.w) X.A (exec st X.env) (SP X pins D) X.xe s
def PSs (X:Cx) (st:List Stmt) (t:TS):Prop:=
 ∀ (pins:List (Addr×Obj)) (s:Shared) (σ:St) (H:Hp) (D:Zdm),Inv X pins σ H s->t D σ H->wpAny (model X.prog X.w) X.A (execs st X.env) (SP X pins D) X.xe s
theorem thn {α:Type} {t:Sem α} {Q Q':α->Shared->Prop} {M:Model} {A:Around} {E:Value->Shared->Prop} {s:Shared} (h:wpAny M A t Q E s) (hQ:∀ a s,Q a s->Q' a s):wpAny M A t Q' E s:=wpAny_mono h hQ λ_ _ x=>x
end L2
namespace L2
open PySem PySem.Spec PyProof.Rows
section
variable {X:Cx}
theorem bin {a b:Expr} {ta tb:TE} (ha:PE X a ta) (hb:PE X b tb) {pins:List (Addr×Obj)} {s:Shared} {σ:St} {H:Hp} {R:V->V->Hp->Prop} (I:Inv X pins σ H s) (h:ta σ H λx H1=>tb σ H1 λy H2=>R x y H2)
  {α:Type} {Q:α->Shared->Prop} {f:Value->Value->Sem α}
  (hf:∀ v u s2 x y H2,Inv X pins σ H2 s2->RelV x v->RelV y u->R x y H2->wpAny (model X.prog X.w) X.A (f v u) Q X.xe s2) :
  wpAny (model X.prog X.w) X.A (eval a X.env) (λv s₁=>wpAny (model X.prog X.w) X.A (eval b X.env) (λu s₂=>wpAny (model X.prog X.w) X.A (f v u) Q X.xe s₂) X.xe s₁) X.xe s:=by
 refine thn (ha pins s σ H _ I h) λv s1 ⟨x,H1,I1,r1,q1⟩=>?_
 refine thn (hb pins s1 σ H1 _ I1 q1) λu s2 ⟨y,H2,I2,r2,q2⟩=>?_
 exact hf v u s2 x y H2 I2 r1 r2 q2
def ZjZ (i:Nat):TE:=λσ H Q=>∃ v,σ[i]?=some (some v)/\Q v H
def tC (v:V):TE:=λ_ H Q=>Q v H
theorem ZhM {i:Nat} {x:Str} {pos:Pos} (hN:X.N[i]?=some x) (hv:Vis X.env.scope x) (hd:(x == ("__debug__" : Str))=false:=by decide) (hcd:(x == ("__classdict__" : Str))=false:=by decide):PE X (.Name x pos) (ZjZ i):=by
 intro pins s σ H Q I h
 obtain ⟨v,e,h⟩:=h
 obtain ⟨m,hn,hl⟩:=I.loc
 obtain ⟨u,r,l⟩:=hl i x v hN e hv
 have fin:EP X pins σ Q u s:=⟨v,H,I,r,h⟩
 rcases l with ⟨hk,hm⟩ | ⟨hk,c,hc,hcell⟩
 ·exact wpAny_Name (wpAny_loadName_local I.ok.kind hk hn hm fin) hd
 ·rcases hk with hk | hk
  ·exact wpAny_Name (wpAny_loadName_cell I.ok.kind hk hc hcell fin) hd
  ·exact wpAny_Name (wpAny_loadName_free I.ok.kind hk hc hcell fin hcd) hd
theorem Zab {i j pos}:PE X (.Constant (.int i) j pos) (tC (.int i)):=λ_ _ _ H _ I h=>wpAny_Constant_int ⟨.int i,H,I.tok _,⟨_,rfl⟩,h⟩
theorem Zdn {b j pos}:PE X (.Constant (.bool b) j pos) (tC (.bl b)):=λ_ _ _ H _ I h=>Constant_bool ⟨.bl b,H,I,rfl,h⟩
theorem Zb5 {j pos}:PE X (.Constant .none j pos) (tC .non):=λ_ _ _ H _ I h=>Constant_none ⟨.non,H,I,rfl,h⟩
theorem Zal {x j pos}:PE X (.Constant (.str x) j pos) (tC (.str x)):=λ_ _ _ H _ I h=>Calls.Constant_str ⟨.str x,H,I.tok _,⟨_,rfl⟩,h⟩
def Gl (X:Cx) (x:Str):Prop:=X.env.kindOf x=some .globalImplicit
theorem Zbu {E:Value->Shared->Prop} {pins:List (Addr×Obj)} {s:Shared} {σ:St} {H:Hp} {x:Str} {u:Value} {pos:Pos} {Q:Value->Shared->Prop} (I:Inv X pins σ H s) (hg:Gl X x) (hm:X.mg x=some u) (h:Q u s)
  (hd:(x == ("__debug__" : Str))=false:=by decide):wpAny (model X.prog X.w) X.A (eval (.Name x pos) X.env) Q E s:=
 Calls.Name_function_global I.ok.kind hg (Calls.loadGlobal_global (by rw [I.ok.glob];exact I.mod.glob.keeps I.bk) hm h) hd
theorem Zd3 {E:Value->Shared->Prop} {pins:List (Addr×Obj)} {s:Shared} {σ:St} {H:Hp} {x:Str} {u:Value} {pos:Pos} {Q:Value->Shared->Prop} (I:Inv X pins σ H s) (hg:Gl X x) (hm:X.mg x=none) (hv:bootBuiltins x=some u) (h:Q u s)
  (hn:x ≠ "__name__" := by decide) (hd:(x == ("__debug__" : Str))=false:=by decide):wpAny (model X.prog X.w) X.A (eval (.Name x pos) X.env) Q E s:=by
 obtain ⟨mb,h1,h2⟩:=I.mod.blt
 exact Calls.Name_function_global I.ok.kind hg (Calls.loadGlobal_builtin (by rw [I.ok.glob];exact I.mod.glob.keeps I.bk) hm (by rw [I.ok.blt];exact h1.keeps I.bk) ((h2 x hn).trans hv) h) hd
theorem Zci {x:Str} {v:V} {u:Value} {pos:Pos} (hg:Gl X x) (hm:X.mg x=some u) (r:RelV v u) (hd:(x == ("__debug__" : Str))=false:=by decide):PE X (.Name x pos) (tC v):=
 λ_ _ _ H _ I h=>Zbu I hg hm ⟨v,H,I,r,h⟩ hd
theorem ZgJ {x:Str} {v:V} {u:Value} {pos:Pos} (hg:Gl X x) (hm:X.mg x=none) (hv:bootBuiltins x=some u) (r:RelV v u) (hn:x ≠ "__name__" := by decide) (hd:(x == ("__debug__" : Str))=false:=by decide):PE X (.Name x pos) (tC v):=
 λ_ _ _ H _ I h=>Zd3 I hg hm hv ⟨v,H,I,r,h⟩ hn hd
def t2I (ta tb:TE) (k:Int->Int->Hp->Prop):St->Hp->Prop:=λσ H=>ta σ H λx H1=>tb σ H1 λy H2=>∃ i j,x=.int i/\y=.int j/\k i j H2
def ZlA (ta tb:TE):TE:=λσ H Q=>t2I ta tb (λi j H2=>Q (.int (i+j)) H2) σ H
def ZlB (ta tb:TE):TE:=λσ H Q=>t2I ta tb (λi j H2=>Q (.int (i-j)) H2) σ H
def ZlC (ta tb:TE):TE:=λσ H Q=>t2I ta tb (λi j H2=>(-(2 ^ 64)<i/\i<2 ^ 64)/\Q (.int (i * j)) H2) σ H
variable {a b:Expr} {ta tb:TE} {pos:Pos}
def PC (X:Cx) (op:CmpOp) (a b:Expr) (t:TE):Prop:=
 ∀ (pins:List (Addr×Obj)) (s:Shared) (σ:St) (H:Hp) (Q:VK),Inv X pins σ H s->t σ H Q ->
  wpAny (model X.prog X.w) X.A (eval a X.env) (λv s₁=>wpAny (model X.prog X.w) X.A (eval b X.env) (λu s₂=>wpAny (model X.prog X.w) X.A (compareOp op v u) (EP X pins σ Q) X.xe s₂) X.xe s₁) X.xe s
def ZhC (p:Int->Int->Bool) (ta tb:TE):TE:=λσ H Q=>t2I ta tb (λi j H2=>Q (.bl (p i j)) H2) σ H
abbrev tLt:TE->TE->TE:=ZhC λi j=>decide (i<j)
abbrev tLe:TE->TE->TE:=ZhC λi j=>decide (i<=j)
abbrev tGt:TE->TE->TE:=ZhC λi j=>decide (j<i)
abbrev tGe:TE->TE->TE:=ZhC λi j=>decide (j<=i)
abbrev ZlD:TE->TE->TE:=ZhC λi j=>decide (i=j)
abbrev ZlE:TE->TE->TE:=ZhC λi j=>!decide (i=j)
def ZlF (ta:TE):TE:=λσ H Q=>ta σ H λx H1=>Q (.bl (decide (x=.non))) H1
def ZkF (ta:TE):TE:=λσ H Q=>ta σ H λx H1=>Q (.bl (!decide (x=.non))) H1
def tB (t:TE):TT:=λσ H Q=>t σ H λx H1=>∃ c,x=.bl c/\Q c H1
theorem Zbr {e:Expr} {t:TE} (h:PE X e t) (he:∀ whole,isTrue e X.env whole=(do let v <- whole;standAt e.pos;holding [v] (truthy v)):=by intro _;rfl):PT X e (tB t):=by
 intro pins s σ H Q I hw
 refine isTrue_plain (thn (h pins s σ H _ I hw) λv s1 ⟨x,H1,I1,r1,q1⟩=>?_) (he _)
 obtain ⟨d,rfl,q⟩:=q1
 cases r1
 exact wpAny_truthy_bool ⟨H1,I1,q⟩
variable {tA tB':TT} {rest:List Expr}
def ZkG (t u:TT):TT:=λσ H Q=>t σ H λc H1=>if c=true then u σ H1 Q else Q false H1
def tOr (t u:TT):TT:=λσ H Q=>t σ H λc H1=>if c=true then Q true H1 else u σ H1 Q
def ZkH (t:TT):TT:=λσ H Q=>t σ H λc H1=>Q (!c) H1
theorem ZbH (ha:PT X a tA):PW X (.BoolOp .And [a] pos) tA:=by
 intro wh pins s σ H Q I h
 refine isTrue_and (thn (ha pins s σ H Q I h) λc s1 e=>?_)
 cases c with
 | true=>exact isTrue_and_nil e
 | false=>exact e
theorem Zbv (ha:PT X a tA):PW X (.BoolOp .Or [a] pos) tA:=by
 intro wh pins s σ H Q I h
 refine isTrue_or (thn (ha pins s σ H Q I h) λc s1 e=>?_)
 cases c with
 | false=>exact isTrue_or_nil e
 | true=>exact e
theorem Zcj (ha:PT X a tA) (hb:PW X (.BoolOp .And (b::rest) pos) tB'):PW X (.BoolOp .And (a::b::rest) pos) (ZkG tA tB'):=by
 intro wh pins s σ H Q I h
 refine isTrue_and (thn (ha pins s σ H _ I h) λc s1 ⟨H1,I1,q1⟩=>?_)
 cases c with
 | true=>exact hb wh pins s1 σ H1 Q I1 q1
 | false=>exact ⟨H1,I1,q1⟩
theorem ZbG (ha:PT X a tA) (hb:PW X (.BoolOp .Or (b::rest) pos) tB'):PW X (.BoolOp .Or (a::b::rest) pos) (tOr tA tB'):=by
 intro wh pins s σ H Q I h
 refine isTrue_or (thn (ha pins s σ H _ I h) λc s1 ⟨H1,I1,q1⟩=>?_)
 cases c with
 | true=>exact ⟨H1,I1,q1⟩
 | false=>exact hb wh pins s1 σ H1 Q I1 q1
theorem ZbI (ha:PT X a tA):PT X (.UnaryOp .Not a pos) (ZkH tA):=by
 intro pins s σ H Q I h
 exact isTrue_not (ha pins s σ H (λc H1=>Q (!c) H1) I h)
def Zjg (ta tb:TE):TE:=λσ H Q=>ta σ H λx H1=>∃ c,x=.bl c/\if c=true then tb σ H1 Q else Q (.bl false) H1
def ZkI (ta tb:TE):TE:=λσ H Q=>ta σ H λx H1=>∃ c,x=.bl c/\if c=true then Q (.bl true) H1 else tb σ H1 Q
def Zjh (ta:TE):TE:=λσ H Q=>ta σ H λx H1=>∃ c,x=.bl c/\Q (.bl (!c)) H1
theorem ZeF {op} {t:TE} (h:PE X a t):PE X (.BoolOp op [a] pos) t:=λpins s σ H Q I hw=>BoolOp_one (h pins s σ H Q I hw)
theorem ZeG (ha:PE X a ta) (hb:PE X (.BoolOp .And (b::rest) pos) tb):PE X (.BoolOp .And (a::b::rest) pos) (Zjg ta tb):=by
 intro pins s σ H Q I h
 refine BoolOp_and (thn (ha pins s σ H _ I h) λv s1 ⟨x,H1,I1,r1,q1⟩=>?_)
 obtain ⟨c,rfl,q1⟩:=q1
 cases r1
 refine wpAny_truthy_bool ?_
 cases c with
 | true=>exact hb pins s1 σ H1 Q I1 q1
 | false=>exact ⟨.bl false,H1,I1,rfl,q1⟩
theorem Zji (ha:PE X a ta) (hb:PE X (.BoolOp .Or (b::rest) pos) tb):PE X (.BoolOp .Or (a::b::rest) pos) (ZkI ta tb):=by
 intro pins s σ H Q I h
 refine BoolOp_or (thn (ha pins s σ H _ I h) λv s1 ⟨x,H1,I1,r1,q1⟩=>?_)
 obtain ⟨c,rfl,q1⟩:=q1
 cases r1
 refine wpAny_truthy_bool ?_
 cases c with
 | false=>exact hb pins s1 σ H1 Q I1 q1
 | true=>exact ⟨.bl true,H1,I1,rfl,q1⟩
theorem Zgn (ha:PE X a ta):PE X (.UnaryOp .Not a pos) (Zjh ta):=by
 intro pins s σ H Q I h
 refine UnaryOp_ (thn (ha pins s σ H _ I h) λv s1 ⟨x,H1,I1,r1,q1⟩=>?_)
 obtain ⟨c,rfl,q1⟩:=q1
 cases r1
 exact not_of (wpAny_truthy_bool ⟨.bl (!c),H1,I1,rfl,q1⟩)
def tIf (t:TT) (ta tb:TE):TE:=λσ H Q=>t σ H λc H1=>if c=true then ta σ H1 Q else tb σ H1 Q
theorem ZfM {c:Expr} (hc:PT X c tA) (ha:PE X a ta) (hb:PE X b tb):PE X (.IfExp c a b pos) (tIf tA ta tb):=by
 intro pins s σ H Q I h
 refine wpAny_IfExp (thn (hc pins s σ H _ I h) λd s1 ⟨H1,I1,q1⟩=>?_)
 cases d with
 | true=>exact ha pins s1 σ H1 Q I1 q1
 | false=>exact hb pins s1 σ H1 Q I1 q1
end
end L2
namespace L2
open PySem PySem.Spec PyProof.Rows
def SqL (K:PySem.W.Frag) (H:Hp) (a:Addr) (xs:List V):Prop:=
 Rd H a (.lst xs) \/
  ∃ (o:Obj) (its:Array Value) (n:Nat),K.lookup a=some o/\o.cls=.type "list" /\ o.dict=none/\o.data=.seq its n/\its.size<=sizeLine/\Vals xs its.toList
def SqT (K:PySem.W.Frag) (H:Hp) (a:Addr) (xs:List V):Prop:=
 Rd H a (.tup xs) \/
  ∃ (o:Obj) (its:Array Value) (n:Nat),K.lookup a=some o/\o.cls=.type "tuple" /\ o.data=.seq its n/\its.size<=sizeLine/\Vals xs its.toList
def ZkJ:Value->Option V
 | .none=>some .non
 | .bool b=>some (.bl b)
 | .int i _=>some (.int i)
 | .str x _=>some (.str x)
 | .bytes b _=>some (.byt b)
 | .float b _=>some (.flt b)
 | .ref a=>some (.ref a)
 | .type n=>some (.ty n)
 | _=>none
theorem RelV.abs {x:V} {u:Value} (r:RelV x u):ZkJ u=some x:=by
 cases x with
 | non=>cases r;rfl
 | bl _=>cases r;rfl
 | int _=>obtain ⟨t,rfl⟩:=r;rfl
 | str _=>obtain ⟨t,rfl⟩:=r;rfl
 | byt _=>obtain ⟨t,rfl⟩:=r;rfl
 | flt _=>obtain ⟨t,rfl⟩:=r;rfl
 | ref _=>cases r;rfl
 | ty _=>cases r;rfl
theorem RelV.inj {x y:V} {u:Value} (r:RelV x u) (q:RelV y u):x=y:=Option.some.inj (r.abs.symm.trans q.abs)
theorem Vals.inj:∀ {xs ys:List V} {us:List Value},Vals xs us->Vals ys us->xs=ys
 | _,_,_,.nil,.nil=>rfl
 | _,_,_,.cons r t,.cons r' t'=>by rw [r.inj r',Vals.inj t t']
section
variable {X:Cx} {pins:List (Addr×Obj)} {σ:St} {H:Hp} {s:Shared} {a:Addr} {xs ys:List V}
theorem SqL.of {K:PySem.W.Frag} (h:H a=some (.lst xs)):SqL K H a xs:=.inl (.inl h)
theorem SqT.of {K:PySem.W.Frag} (h:H a=some (.tup xs)):SqT K H a xs:=.inl (.inl h)
theorem Inv.list (I:Inv X pins σ H s) (h:SqL X.K H a xs):∃ its:List Value,Vals xs its/\PlainL s.heap a its.toArray/\xs.length<=sizeLine:=by
 rcases h with h | ⟨o,its,n,hk,hc,hd,hs,hz,r⟩
 ·obtain ⟨z,its,n,r,e⟩:=h.ok I.hok
  exact ⟨its,r,⟨_,n,e,rfl,rfl,rfl⟩,z⟩
 ·refine ⟨its.toList,r,⟨o,n,I.kIn a o hk,hc,hd,by simpa using hs⟩,?_⟩
  have e:=r.length
  simp only [Array.length_toList] at e
  omega
theorem Inv.tuple (I:Inv X pins σ H s) (h:SqT X.K H a xs):∃ its:List Value,Vals xs its/\IsTup s.heap a its.toArray/\xs.length<=sizeLine:=by
 rcases h with h | ⟨o,its,n,hk,hc,hs,hz,r⟩
 ·obtain ⟨z,its,r,p⟩:=h.ok I.hok
  exact ⟨its,r,p,z⟩
 ·refine ⟨its.toList,r,⟨o,I.kIn a o hk,hc,n,by simpa using hs⟩,?_⟩
  have e:=r.length
  simp only [Array.length_toList] at e
  omega
theorem Inv.list_inj (I:Inv X pins σ H s) (h:SqL X.K H a xs) (h':SqL X.K H a ys):xs=ys:=by
 obtain ⟨its,r,⟨o,n,e,_,_,d⟩,_⟩:=I.list h
 obtain ⟨its',r',⟨o',n',e',_,_,d'⟩,_⟩:=I.list h'
 rw [e] at e';cases e'
 rw [d] at d'
 injection d' with d1 _
 have:its=its':=by simpa using congrArg Array.toList d1
 subst this
 exact r.inj r'
end
abbrev Cx.wish (X:Cx) (E:Value->Shared->Prop):Cx:={ X with xe:=E }
abbrev Cx.nox (X:Cx):Cx:=X.wish λ_ _=>False
theorem Cx.Ok.wish {X:Cx} (ok:X.Ok) (E:Value->Shared->Prop):(X.wish E).Ok:=
 ⟨ok.mod,ok.kind,ok.glob,ok.blt,ok.above,ok.inj,ok.has,ok.cab,ok.hd,ok.frames,ok.stk,ok.exf,ok.bs,ok.bsz,ok.noex,ok.exfs,ok.funs,ok.frf⟩
theorem Cx.Ok.unwish {X:Cx} {E:Value->Shared->Prop} (ok:(X.wish E).Ok):X.Ok:=
 ⟨ok.mod,ok.kind,ok.glob,ok.blt,ok.above,ok.inj,ok.has,ok.cab,ok.hd,ok.frames,ok.stk,ok.exf,ok.bs,ok.bsz,ok.noex,ok.exfs,ok.funs,ok.frf⟩
section
variable {X:Cx} {pins:List (Addr×Obj)} {σ:St} {H:Hp} {s:Shared} {E:Value->Shared->Prop}
theorem Inv.wish (I:Inv X pins σ H s) (E:Value->Shared->Prop):Inv (X.wish E) pins σ H s:=⟨I.ok.wish E,I.os,I.bare,I.base,I.loc,I.cell,I.free,I.freeC,I.pin,I.hok,I.len⟩
theorem Inv.unwish (I:Inv (X.wish E) pins σ H s):Inv X pins σ H s:=⟨I.ok.unwish,I.os,I.bare,I.base,I.loc,I.cell,I.free,I.freeC,I.pin,I.hok,I.len⟩
theorem SP.unwish {D:Zdm} {f:Flow} {s':Shared} (h:SP (X.wish E) pins D f s'):SP X pins D f s':=by
 cases f with
 | next=>obtain ⟨σ',H',I,q⟩:=h;exact ⟨σ',H',I.unwish,q⟩
 | brk=>obtain ⟨σ',H',I,q⟩:=h;exact ⟨σ',H',I.unwish,q⟩
 | cont=>obtain ⟨σ',H',I,q⟩:=h;exact ⟨σ',H',I.unwish,q⟩
 | ret u=>obtain ⟨v,σ',H',I,r,q⟩:=h;exact ⟨v,σ',H',I.unwish,r,q⟩
theorem PSs.nox {st:List Stmt} {t:TS} (h:PSs X.nox st t):PSs X st t:=λpins s σ H D I hw=>
 wpAny_mono (h pins s σ H D (I.wish _) hw) (λ_ _ q=>q.unwish) λ_ _ z=>False.elim z
end
section
variable {X:Cx} {st:Stmt} {rest:List Stmt} {t u:TS} {e:Expr} {te:TE} {pos:Pos}
def ZcT:TS:=λD σ H=>D.nx σ H
def Zjj (t u:TS):TS:=λD σ H=>t { D with nx:=u D } σ H
theorem Zat:PSs X [] ZcT:=λ_ _ σ H _ I h=>wpAny_execs_nil ⟨σ,H,I,h⟩
theorem Zae (h1:PS X st t) (h2:PSs X rest u):PSs X (st::rest) (Zjj t u):=by
 intro pins s σ H D I h
 refine wpAny_execs_cons (thn (h1 pins s σ H { D with nx:=u D } I h) λf s1 q=>?_)
 cases f with
 | next=>
  obtain ⟨σ',H',I',q⟩:=q
  exact h2 pins s1 σ' H' D I' q
 | ret v=>exact q
 | brk=>exact q
 | cont=>exact q
theorem Zag (h1:PS X st t):PSs X [st] t:=by
 intro pins s σ H D I h
 refine wpAny_execs_cons (thn (h1 pins s σ H D I h) λf s1 q=>?_)
 cases f with
 | next=>exact wpAny_execs_nil q
 | ret v=>exact q
 | brk=>exact q
 | cont=>exact q
def Zj0:TS:=λD σ H=>D.bk σ H
def ZkK:TS:=λD σ H=>D.ct σ H
theorem Inv.quiet {pins:List (Addr×Obj)} {σ:St} {H:Hp} {s:Shared} (I:Inv X pins σ H s):interactive X.env=false:=by simp [interactive,I.ok.kind]
def Zjk (te:TE):TS:=λD σ H=>te σ H λ_ H1=>D.nx σ H1
theorem ZcU (he:PE X e te) (hs:swapsWith e none pos.line X.env=pure false:=by rfl):PS X (.Expr e pos) (Zjk te):=by
 intro pins s σ H D I h
 exact wpAny_Expr_any (thn (he pins s σ H _ I h) λv s1 ⟨x,H1,I1,r1,q1⟩=>⟨σ,H1,I1,q1⟩) I.quiet hs
def ZkL (te:TE):TS:=λD σ H=>te σ H D.rt
theorem Zau (he:PE X e te):PS X (.Return (some e) pos) (ZkL te):=by
 intro pins s σ H D I h
 exact wpAny_Return_some (thn (he pins s σ H _ I h) λv s1 ⟨x,H1,I1,r1,q1⟩=>⟨x,σ,H1,I1,r1,q1⟩)
def ZkM:TS:=λD _ H=>D.rt .non H
def ZkN (c:TT) (t u:TS):TS:=λD σ H=>c σ H λb H1=>if b=true then t D σ H1 else u D σ H1
theorem ZaO {c:Expr} {a b:List Stmt} {tc:TT} (hc:PT X c tc) (ha:PSs X a t) (hb:PSs X b u):PS X (.If c a b pos) (ZkN tc t u):=by
 intro pins s σ H D I h
 refine wpAny_If (thn (hc pins s σ H _ I h) λd s1 ⟨H1,I1,q1⟩=>?_)
 cases d with
 | true=>exact ha pins s1 σ H1 D I1 q1
 | false=>exact hb pins s1 σ H1 D I1 q1
def Zj1:TS:=λ_ _ _=>False
end
abbrev TG:=V->St->Hp->(St->Hp->Prop)->Prop
abbrev TGs:=List V->St->Hp->(St->Hp->Prop)->Prop
def PG (X:Cx) (target:Expr) (t:TG):Prop:=
 ∀ (pins:List (Addr×Obj)) (s:Shared) (σ:St) (H:Hp) (v:V) (u:Value) (Q:St->Hp->Prop),Inv X pins σ H s->RelV v u->t v σ H Q ->
  wpAny (model X.prog X.w) X.A (assign target X.env u) (λ_ s'=>∃ σ' H',Inv X pins σ' H' s'/\Q σ' H') X.xe s
def PGs (X:Cx) (ts:List Expr) (t:TGs):Prop:=
 ∀ (pins:List (Addr×Obj)) (s:Shared) (σ:St) (H:Hp) (vs:List V) (us:List Value) (Q:St->Hp->Prop),Inv X pins σ H s->Vals vs us->t vs σ H Q ->
  wpAny (model X.prog X.w) X.A (assignInOrder ((assignEach ts X.env).map (·.2)) us) (λ_ s'=>∃ σ' H',Inv X pins σ' H' s'/\Q σ' H') X.xe s
abbrev Zjl:=V->V->V->Hp->(Hp->Prop)->Prop
def ZlG (X:Cx) (t:Zjl):Prop:=
 ∀ (pins:List (Addr×Obj)) (s:Shared) (σ:St) (H:Hp) (o i v:V) (ov iv u:Value) (Q:Hp->Prop),Inv X pins σ H s->RelV o ov->RelV i iv->RelV v u->t o i v H Q ->
  wpAny (model X.prog X.w) X.A (setItem ov iv u) (λ_ s'=>∃ H',Inv X pins σ H' s'/\Q H') X.xe s
abbrev TIp:=V->V->Hp->VK->Prop
def PIp (X:Cx) (op:Operator) (t:TIp):Prop:=
 ∀ (pins:List (Addr×Obj)) (s:Shared) (σ:St) (H:Hp) (x y:V) (v u:Value) (Q:VK),Inv X pins σ H s->RelV x v->RelV y u->t x y H Q ->
  wpAny (model X.prog X.w) X.A (inplaceOp op v u) (EP X pins σ Q) X.xe s
section
variable {X:Cx} {pos:Pos}
def ZbU (i:Nat):TG:=λv σ H Q=>Q (σ.set i (some v)) H
theorem ZaG {i:Nat} {x:Str} (hN:X.N.Nodup) (hi:X.N[i]?=some x) (hx:Loc X.env.scope x) (hf:X.fn x=true\/X.env.scope.names.lookup x=some .local:=by first | exact .inl rfl | exact .inr rfl | assumption):PG X (.Name x pos) (ZbU i):=by
 intro pins s σ H v u Q I r h
 exact wpAny_assign_Name (Zca I hN hi hx r (λs' I'=>⟨_,H,I',h⟩) hf)
def Zj2:TGs:=λvs σ H Q=>vs=[]/\Q σ H
def ZhN (t:TG) (u:TGs):TGs:=λvs σ H Q=>∃ v r,vs=v::r/\t v σ H λσ' H'=>u r σ' H' Q
theorem ZcV:PGs X [] Zj2:=by
 intro pins s σ H vs us Q I r h
 obtain ⟨e,h⟩:=h
 subst e
 cases r
 exact assignInOrder_nil ⟨σ,H,I,h⟩
theorem ZaZ {e:Expr} {es:List Expr} {t:TG} {u:TGs} (h1:PG X e t) (h2:PGs X es u)
  (hs:(assignEach (e::es) X.env).map (·.2)=assign e X.env::(assignEach es X.env).map (·.2):=by rfl):PGs X (e::es) (ZhN t u):=by
 intro pins s σ H vs us Q I r h
 obtain ⟨v,vr,e1,h⟩:=h
 subst e1
 cases r with
 | cons r rr=>
  rw [hs]
  refine assignInOrder_cons (thn (h1 pins s σ H _ _ _ I r h) λ_ s1 ⟨σ1,H1,I1,q1⟩=>?_)
  exact h2 pins s1 σ1 H1 _ _ Q I1 rr q1
def Zj3 (K:PySem.W.Frag) (n:Nat) (t:TGs):TG:=λv σ H Q=>∃ a xs,v=.ref a/\SqT K H a xs/\xs.length=n/\t xs σ H Q
theorem ZhO {es:List Expr} {k:Nat} {t:TGs} {n:Nat} (hc:X.calm=true) (h:PGs X es t)
  (hn:(assignEach es X.env).length=n:=by rfl) (hst:(assignEach es X.env).findIdx? (·.1)=none:=by rfl):PG X (.Tuple es k pos) (Zj3 X.K n t):=by
 intro pins s σ H v u Q I r hw
 obtain ⟨a,xs,e1,hq,hl,hw⟩:=hw
 subst e1
 cases r
 obtain ⟨its,rv,ht,hz⟩:=I.tuple hq
 refine assign_Tuple_tuple (I.ok.hd hc) ht (by simp [hn,<-hl,rv.length]) hst λh' hx=>?_
 have I1:Inv X pins σ H { s with heap:=h' }:=I.kept (t':=s.toks) λb o e=>hx b o (Nat.ne_of_lt (Heap.lt_size e)) e
 exact h pins _ σ H xs _ Q I1 (by simpa using rv) hw
def ZlH (to ti:TE) (t:Zjl):TG:=λv σ H Q=>to σ H λo H1=>ti σ H1 λi H2=>t o i v H2 λH3=>Q σ H3
def Zj4 (te:TE) (g:TG):TS:=λD σ H=>te σ H λx H1=>g x σ H1 D.nx
theorem Zgo {tg e:Expr} {te:TE} {g:TG} (he:PE X e te) (hg:PG X tg g) (hs:swapsWithSole [tg] e pos.line X.env=pure false:=by rfl) (hw:swappedStores [tg] e X.env=pure none:=by rfl)
  (h1:(assignEach [tg] X.env).map (·.2)=[assign tg X.env]:=by rfl):PS X (.Assign [tg] e pos) (Zj4 te g):=by
 intro pins s σ H D I h
 refine wpAny_Assign_stores (thn (he pins s σ H _ I h) λv s1 ⟨x,H1,I1,r1,q1⟩=>?_) hs hw
 rw [h1]
 exact thn (hg pins s1 σ H1 x v _ I1 r1 q1) λ_ s2 q=>q
theorem Zam {i:Nat} {x:Str} {e:Expr} {te:TE} {pos':Pos} (hN:X.N.Nodup) (hi:X.N[i]?=some x) (hx:Loc X.env.scope x) (he:PE X e te) (hs:swapsWith e (some (.Name x pos')) pos.line X.env=pure false:=by rfl) (hf:X.fn x=true\/X.env.scope.names.lookup x=some .local:=by first | exact .inl rfl | exact .inr rfl | assumption) :
  PS X (.Assign [.Name x pos'] e pos) (Zj4 te (ZbU i)):=by
 intro pins s σ H D I h
 refine wpAny_Assign_Name (thn (he pins s σ H _ I h) λv s1 ⟨y,H1,I1,r1,q1⟩=>?_) hs
 exact Zca I1 hN hi hx r1 (λs2 I2=>⟨_,H1,I2,q1⟩) hf
def ZlI (i j:Nat) (ta:TA):TS:=λD σ H=>ta σ H λvs H1=>∃ v w,vs=[v,w]/\D.nx ((σ.set i (some v)).set j (some w)) H1
def ZlJ (i:Nat) (te:TE) (ti:TIp):TS:=λD σ H=>∃ x,σ[i]?=some (some x)/\te σ H λy H1=>ti x y H1 λz H2=>D.nx (σ.set i (some z)) H2
def ZkO (to ti te:TE) (tget:V->V->Hp->VK->Prop) (tip:TIp) (tset:Zjl):TS:=λD σ H=>to σ H λo H1=>ti σ H1 λi H2=>tget o i H2 λx H3=>te σ H3 λy H4=>tip x y H4 λz H5=>tset o i z H5 λH6=>D.nx σ H6
def ZlK (X:Cx) (t:V->V->Hp->VK->Prop):Prop:=
 ∀ (pins:List (Addr×Obj)) (s:Shared) (σ:St) (H:Hp) (o i:V) (ov iv:Value) (Q:VK),Inv X pins σ H s->RelV o ov->RelV i iv->t o i H Q ->
  wpAny (model X.prog X.w) X.A (getItem ov iv) (EP X pins σ Q) X.xe s
def ipI (f:Int->Int->Int):TIp:=λx y H Q=>∃ i j,x=.int i/\y=.int j/\Q (.int (f i j)) H
end
section
variable {X:Cx} {pos:Pos}
def Zj5 (c:TT) (tb:TS):TS:=λD σ H=>∃ W:Nat->St->Hp->Prop,(∃ m,W m σ H)/\∀ m σ H,W m σ H ->
 c σ H λb H1=>if b=true then ∃ N:St->Hp->Prop,(∀ σ' H',N σ' H'->∃ m',m'<m/\W m' σ' H')/\tb { D with nx:=N,ct:=N,bk:=D.nx } σ H1 else D.nx σ H1
end
structure It where
 go:Nat->Hp->Prop
 yld:Nat->Hp->V->Hp->Prop
 stop:Nat->Hp->Prop
def Zen (X:Cx) (pins:List (Addr×Obj)) (H:Hp) (b:Addr):Prop:=
 H b=none/\b≠X.env.locals/\b ∉ X.fs/\(b∈X.ex\/X.s₀.heap.objs.size<=b)/\(∀ x c,X.env.cells.lookup x=some c->c≠b)/\∀ p∈X.pn++pins,p.1≠b
theorem Inv.fpOk {X:Cx} {pins:List (Addr×Obj)} {σ:St} {H H':Hp} {s:Shared} {b:Addr} (I:Inv X pins σ H s) (hb:s.heap.objs.size<=b) (hn:H' b=none):Zen X pins H' b:=by
 refine ⟨hn,Nat.ne_of_gt (Nat.lt_of_lt_of_le I.lt hb),I.nofs hb,.inr (Nat.le_trans I.sz hb),λx c e z=>?_,λp hp z=>?_⟩
 ·obtain ⟨v,q⟩:=I.cell x c e
  exact absurd (Nat.lt_of_lt_of_le q.lt (by rw [z];exact hb)) (Nat.lt_irrefl _)
 ·exact absurd (Nat.lt_of_lt_of_le (Heap.lt_size (I.pin p hp).1) (by rw [z];exact hb)) (Nat.lt_irrefl _)
structure ZhD (P:Program) (w:World) (K:PySem.W.Frag) (tg:Expr) (J:It) (fp:List Addr) (it:Addr) (tn:Nat->Heap->Prop):Prop where
 mem:it∈fp
 obj:∀ i h,tn i h->∀ b∈fp,∃ o,h.get? b=some o/\∀ v,o.data≠.cell v
 keep:∀ i h h',tn i h->(∀ b∈fp,∀ o,h.get? b=some o->h'.get? b=some o)->tn i h'
 item:∀ (X:Cx),X.prog=P->X.w=w->X.K=K->X.calm=true->∀ (i:Nat) (pins:List (Addr×Obj)) (s:Shared) (σ:St) (H:Hp) (E:Value->Shared->Prop),Inv X pins σ H s->(∀ b∈fp,Zen X pins H b)->tn i s.heap->J.go i H ->
  wpAny (model P w) X.A (pyNext (.ref it)) (λr s1=>∃ u,r=some u /\
   wpAny (model P w) X.A (letOwnedTupleGo tg (.ref it) u) (λ_ s2=>∃ x H',Inv X pins σ H' s2/\RelV x u/\J.yld i H x H'/\tn (i+1) s2.heap/\∀ b∈fp,H' b=none) E s1) E s
 done:∀ (X:Cx),X.prog=P->X.w=w->X.K=K->X.calm=true->∀ (i:Nat) (pins:List (Addr×Obj)) (s:Shared) (σ:St) (H:Hp) (E:Value->Shared->Prop),Inv X pins σ H s->(∀ b∈fp,Zen X pins H b)->tn i s.heap->J.stop i H ->
  wpAny (model P w) X.A (pyNext (.ref it)) (λr s1=>r=none/\Inv X pins σ H s1) E s
 self:∀ (A:Around) (i:Nat) (s:Shared) (Q:Value->Shared->Prop) (E:Value->Shared->Prop),tn i s.heap->Q (.ref it) s->wpAny (model P w) A (pyIter (.ref it)) Q E s
abbrev TI:=St->Hp->(It->Hp->Prop)->Prop
def PIE (X:Cx) (pins:List (Addr×Obj)) (σ:St) (tg:Expr) (R:It->Hp->Prop) (itv:Value) (s2:Shared):Prop:=
 ∃ (it:Addr) (fp:List Addr) (tn:Nat->Heap->Prop) (J:It) (H':Hp),itv=.ref it/\Inv X pins σ H' s2/\ZhD X.prog X.w X.K tg J fp it tn/\tn 0 s2.heap/\(∀ b∈fp,Zen X pins H' b)/\R J H'
def PI (X:Cx) (tg iter:Expr) (wi:TI):Prop:=
 ∀ (pins:List (Addr×Obj)) (s:Shared) (σ:St) (H:Hp) (R:It->Hp->Prop),Inv X pins σ H s->wi σ H R ->
  wpAny (model X.prog X.w) X.A (eval iter X.env) (λv s1=>wpAny (model X.prog X.w) X.A (pyIter v) (PIE X pins σ tg R) X.xe s1) X.xe s
theorem ZgK {M:Model} {A:Around} {E:Value->Shared->Prop} {s:Shared} {tg:Expr} {it:Addr} {u:Value} {o:Obj} {n:String} {vs:Array Value} {Q:Unit->Shared->Prop} (ho:s.heap.get? it=some o) (hc:o.cls=.type n) (hd:o.data=.fields vs)
  (hn:["enumerate", "zip", "dict_itemiterator", "dict_reverseitemiterator", "odict_iterator", "itertools.zip_longest", "itertools.pairwise"].contains n=false) (hQ:Q () s):wpAny M A (letOwnedTupleGo tg (.ref it) u) Q E s:=by
 unfold letOwnedTupleGo
 cases tg <;> first
  | exact wpAny_pure hQ
  | (cases u <;> first
    | exact wpAny_pure hQ
    | (refine wpAny_bind (wpAny_load ho ?_)
       rw [hc,hd]
       show wpAny M A (if (["enumerate", "zip", "dict_itemiterator", "dict_reverseitemiterator", "odict_iterator", "itertools.zip_longest", "itertools.pairwise"].contains n && vs[0]? == some (rawInt _))=true then _ else _) Q E s
       rw [if_neg (by intro h;rw [hn,Bool.false_and] at h;cases h)]
       exact wpAny_pure hQ))
def Itl (K:PySem.W.Frag) (a:Addr):It:=
 ⟨λi H=>∃ xs x,SqL K H a xs/\xs[i]?=some x,λi H x H'=>H'=H/\∀ xs,SqL K H a xs->xs[i]?=some x,λi H=>∃ xs,SqL K H a xs/\xs.length<=i⟩
def Itt (K:PySem.W.Frag) (a:Addr):It:=
 ⟨λi H=>∃ xs x,SqT K H a xs/\xs[i]?=some x,λi H x H'=>H'=H/\∀ xs,SqT K H a xs->xs[i]?=some x,λi H=>∃ xs,SqT K H a xs/\xs.length<=i⟩
def Itr (lo:Int) (n:Nat):It:=⟨λi _=>i<n,λi H x H'=>H'=H/\x=.int (lo+i),λi _=>n<=i⟩
theorem ZeH {P:Program} {w:World} {K:PySem.W.Frag} {tg:Expr} (a it:Addr):ZhD P w K tg (Itl K a) [it] it (λi h=>h.IsListIter it a i) where
 mem:=by simp
 obj:=λi h st b hb=>by
  have e:b=it:=by simpa using hb
  subst e
  obtain ⟨o,e,c,d⟩:=st
  exact ⟨o,e,λv z=>by rw [d] at z;cases z⟩
 keep:=λi h h' st k=>st.at λo e=>k it (by simp) o e
 item:=by
  intro X hP hw hK hc i pins s σ H E I hf st hg
  subst hP hw hK
  obtain ⟨xs,x,hq,hx⟩:=hg
  obtain ⟨its,rv,p,hz⟩:=I.list hq
  obtain ⟨u,hu,ru⟩:=rv.get hx
  obtain ⟨f0,f1,f2,f3,f4,f5⟩:=hf it (by simp)
  refine wpAny_pyNext_list_item st p.isList (x:=u) (by simpa using hu) λh' st' sb=>?_
  have I1:Inv X pins σ H { s with heap:=h' }:=I.turned (t':=s.toks) (λb o hb e=>(sb.2 b hb).trans e) f0 f1 f3 f4 f5
  obtain ⟨o,e,c,d⟩:=id st'
  exact ⟨u,rfl,ZgK (s:={ s with heap:=h' }) e c d (by decide) ⟨x,H,I1,ru,⟨rfl,λys hy=>by rw [I.list_inj hy hq];exact hx⟩,st',λb hb=>(hf b hb).1⟩⟩
 done:=by
  intro X hP hw hK hc i pins s σ H E I hf st hg
  subst hP hw hK
  obtain ⟨xs,hq,hx⟩:=hg
  obtain ⟨its,rv,p,hz⟩:=I.list hq
  obtain ⟨f0,f1,f2,f3,f4,f5⟩:=hf it (by simp)
  have hl:=rv.length
  exact wpAny_pyNext_list_end (I.ok.hd hc) st p.isList (by simp;omega) λh' eb=>⟨rfl,I.turned (t':=s.toks) (λb o hb e=>eb b o hb e) f0 f1 f3 f4 f5⟩
 self:=λ_ _ _ _ _ st h=>wpAny_pyIter_listiter st h
theorem Zeo {P:Program} {w:World} {K:PySem.W.Frag} {tg:Expr} (it:Addr) (lo:Int) (n:Nat):ZhD P w K tg (Itr lo n) [it] it (λi h=>IsRangeIter h it (lo+(i:Nat) * 1) ((n:Int)-(i:Nat)) 1) where
 mem:=by simp
 obj:=λi h st b hb=>by
  have e:b=it:=by simpa using hb
  subst e
  exact ⟨_,st,λv z=>by
   have z':Data.fields _=Data.cell v:=z
   cases z'⟩
 keep:=λi h h' st k=>k it (by simp) _ st
 item:=by
  intro X hP hw hK hc i pins s σ H E I hf st hg
  subst hP hw hK
  obtain ⟨f0,f1,f2,f3,f4,f5⟩:=hf it (by simp)
  have W:=Walks.range (prog:=X.prog) (w:=X.w) (I.ok.hd hc) it lo 1 n
  refine W.item i s _ _ hg st λv h' tk hv st' kk=>?_
  obtain ⟨t,rfl⟩:=hv
  have I1:Inv X pins σ H { s with heap:=h',toks:=tk }:=I.turned (λb o hb e=>kk b o (by simpa using hb) e) f0 f1 f3 f4 f5
  refine ⟨_,rfl,ZgK (s:={ s with heap:=h',toks:=tk }) (n := "range_iterator") st' rfl rfl (by decide) ⟨.int (lo+i),H,I1,⟨t,?_⟩,⟨rfl,rfl⟩,st',λb hb=>(hf b hb).1⟩⟩
  rw [Int.mul_one]
 done:=by
  intro X hP hw hK hc i pins s σ H E I hf st hg
  subst hP hw hK
  obtain ⟨f0,f1,f2,f3,f4,f5⟩:=hf it (by simp)
  exact wpAny_pyNext_range_end (I.ok.hd hc) st (by have:n<=i:=hg;omega) λh' eb=>⟨rfl,I.turned (t':=s.toks) (λb o hb e=>eb b o hb e) f0 f1 f3 f4 f5⟩
 self:=λ_ _ _ _ _ st h=>wpAny_pyIter_rangeiter st h
end L2
namespace L2
open PySem PySem.Spec PyProof.Rows
section
variable {X:Cx} {tg:Expr}
def ZhP (K:PySem.W.Frag) (tl:TE):TI:=λσ H R=>tl σ H λx H1=>∃ a,x=.ref a/\(∃ xs,SqL K H1 a xs)/\R (Itl K a) H1
def ZlL (K:PySem.W.Frag) (tl:TE):TI:=λσ H R=>tl σ H λx H1=>∃ a,x=.ref a/\(∃ xs,SqT K H1 a xs)/\R (Itt K a) H1
theorem ZgL {l:Expr} {tl:TE} (hl:PE X l tl):PI X tg l (ZhP X.K tl):=by
 intro pins s σ H R I h
 refine thn (hl pins s σ H _ I h) λv s1 ⟨x,H1,I1,r1,q1⟩=>?_
 obtain ⟨a,e,⟨xs,hq⟩,q⟩:=q1
 subst e
 cases r1
 obtain ⟨its,rv,p,hz⟩:=I1.list hq
 refine wpAny_pyIter_list p.isList ?_
 refine ⟨s1.heap.objs.size,[s1.heap.objs.size],_,_,H1,rfl,I1.kept (t':=s1.toks) λb o e=>Heap.get?_push_of_some _ e,ZeH a _,⟨_,Heap.get?_push_size _ rfl,rfl,rfl⟩,λb hb=>?_,q⟩
 have e:b=s1.heap.objs.size:=by simpa using hb
 subst e
 exact I1.fpOk (Nat.le_refl _) (I1.hok.fresh (Nat.le_refl _))
theorem ZfN {pins:List (Addr×Obj)} {σ:St} {H:Hp} {s:Shared} {R:It->Hp->Prop} {E:Value->Shared->Prop} {lo hi:Int} {t u v:Tok} {tk:Nat} (I:Inv X pins σ H s) (h1:-(2 ^ 62)<=lo) (h2:lo<2 ^ 62) (h3:-(2 ^ 62)<=hi) (h4:hi<2 ^ 62)
  (q:R (Itr lo (hi-lo).toNat) H):wpAny (model X.prog X.w) X.A (pyIter (.ref s.heap.objs.size)) (PIE X pins σ tg R) E { s with heap:=s.heap.push { cls:=.type "range", data:=.fields #[.int lo t,.int hi u,.int 1 v] },toks:=tk }:=by
 refine wpAny_pyIter_range (IsRange.new ..) (small_one h1 h2 h3 h4) ?_
 have I1:Inv X pins σ H { s with heap:=s.heap.push { cls:=.type "range", data:=.fields #[.int lo t,.int hi u,.int 1 v] },toks:=tk }:=I.kept λb o e=>Heap.get?_push_of_some _ e
 refine ⟨(s.heap.push { cls:=.type "range", data:=.fields #[.int lo t,.int hi u,.int 1 v] }).objs.size,[(s.heap.push { cls:=.type "range", data:=.fields #[.int lo t,.int hi u,.int 1 v] }).objs.size],_,_,H,rfl,
  I1.kept (t':=tk) λb o e=>Heap.get?_push_of_some _ e,Zeo _ lo (hi-lo).toNat,?_,λb hb=>?_,q⟩
 ·have e1:lo+((0:Nat):Int) * 1=lo:=by simp
  have e2:(((hi-lo).toNat:Nat):Int)-((0:Nat):Int)=Builtin.Range.rangeSize lo hi 1:=by rw [rangeSize_one];split <;> omega
  show IsRangeIter _ _ (lo+((0:Nat):Int) * 1) ((((hi-lo).toNat:Nat):Int)-((0:Nat):Int)) 1
  rw [e1,e2]
  exact Heap.get?_push_size _ rfl
 ·have e:b=(s.heap.push { cls:=.type "range", data:=.fields #[.int lo t,.int hi u,.int 1 v] }).objs.size:=by simpa using hb
  subst e
  exact I1.fpOk (Nat.le_refl _) (I1.hok.fresh (Nat.le_refl _))
def Zjm (ta:TA):TI:=λσ H R=>ta σ H λvs H1=>∃ j:Int,vs=[.int j]/\-(2 ^ 62)<=j/\j<2 ^ 62/\R (Itr 0 j.toNat) H1
def ZkP (ta:TA):TI:=λσ H R=>ta σ H λvs H1=>∃ i j:Int,vs=[.int i,.int j]/\(-(2 ^ 62)<=i/\i<2 ^ 62/\-(2 ^ 62)<=j/\j<2 ^ 62)/\R (Itr i (j-i).toNat) H1
theorem Zbd {a:Expr} {ta:TA} {p pos:Pos} (hg:Gl X "range") (hm:X.mg "range" = none) (ha:PA X [a] ta) (hs:starEach [a] X.env=[(false,eval a X.env)]:=by rfl):PI X tg (.Call (.Name "range" p) [a] [] pos) (Zjm ta):=by
 intro pins s σ H R I h
 refine Call_ (Zd3 I hg hm boot_range (PyProof.Rows.callWith_type1 (thn (ha pos pins s σ H _ I h) λus s1 ⟨vs,H1,I1,r1,q1⟩=>?_) hs rfl))
 obtain ⟨j,e,q1,q2,q⟩:=q1
 subst e
 cases r1 with
 | cons r rr=>
  cases rr
  obtain ⟨t,rfl⟩:=r
  exact call_range_1 (ZfN I1 (by omega) (by omega) q1 q2 (by simpa using q))
def ZkQ (wi:TI) (g:TG) (tb:TS):TS:=λD σ H=>wi σ H λJ H1=>∃ W:Nat->Nat->St->Hp->Prop,(∃ m,W 0 m σ H1)/\∀ i m σ H,W i m σ H ->
 (J.stop i H/\D.nx σ H)\/(J.go i H/\∃ N:St->Hp->Prop,(∀ σ' H',N σ' H'->∃ m',m'<m/\W (i+1) m' σ' H')/\∀ x H',J.yld i H x H'->g x σ H' λσ2 H2=>tb { D with nx:=N,ct:=N,bk:=D.nx } σ2 H2)
def ZcF (fp:List Addr) (h:Heap):List (Addr×Obj):=fp.filterMap λb=>(h.get? b).map λo=>(b,o)
theorem Za3 {fp:List Addr} {h:Heap} {b:Addr} {o:Obj} (hb:b∈fp) (e:h.get? b=some o):(b,o)∈ZcF fp h:=List.mem_filterMap.mpr ⟨b,hb,by rw [e];rfl⟩
theorem ZeI {fp:List Addr} {h:Heap} {p:Addr×Obj} (hp:p∈ZcF fp h):p.1∈fp/\h.get? p.1=some p.2:=by
 obtain ⟨b,hb,e⟩:=List.mem_filterMap.mp hp
 cases q:h.get? b with
 | none=>rw [q] at e;cases e
 | some o=>
  rw [q] at e
  have e':(b,o)=p:=Option.some.inj e
  subst e'
  exact ⟨hb,q⟩
theorem Inv.pinned {pins:List (Addr×Obj)} {σ:St} {H:Hp} {s:Shared} {fp:List Addr} (I:Inv X pins σ H s) (hf:∀ b∈fp,Zen X pins H b) (ho:∀ b∈fp,∃ o,s.heap.get? b=some o/\∀ v,o.data≠.cell v):Inv X (pins++ZcF fp s.heap) σ H s:=
 I.pins_of λp hp=>(List.mem_append.mp hp).elim (λz=>I.pin p (List.mem_append_right _ z)) λz=>by
  obtain ⟨hb,e⟩:=ZeI z
  obtain ⟨f0,f1,f2,_⟩:=hf p.1 hb
  obtain ⟨o,e',d⟩:=ho p.1 hb
  rw [e] at e';cases e'
  exact ⟨e,f0,f1,f2,d⟩
theorem Inv.unpinned {pins pl:List (Addr×Obj)} {σ:St} {H:Hp} {s:Shared} (I:Inv X (pins++pl) σ H s):Inv X pins σ H s:=I.pins_of λp hp=>I.pin p (List.mem_append_right _ (List.mem_append_left _ hp))
theorem Zck {iter:Expr} {body:List Stmt} {wi:TI} {g:TG} {tb:TS} {pos:Pos} (hp:PassesOwn (model X.prog X.w) X.A X.env X.xe) (hc:X.calm=true) (hi:PI X tg iter wi) (hg:PG X tg g) (hb:PSs X body tb)
  (hs:∀ x,foldedSetIterable iter X.env x=pure x:=by intro _;rfl):PS X (.For tg iter body [] pos) (ZkQ wi g tb):=by
 intro pins s σ H D I h
 refine wpAny_For (thn (hi pins s σ H _ I h) λv s1 h1=>thn h1 λitv s2 h2=>?_) hs
 obtain ⟨it,fp,tn,J,H2,e,I2,T,st2,f2,W,⟨m0,w0⟩,turn⟩:=h2
 subst e
 have stat:∀ {H':Hp},(∀ b∈fp,H' b=none)->∀ b∈fp,Zen X pins H' b:=λhn b hb=>⟨hn b hb,(f2 b hb).2⟩
 refine codeAny_forLoop_any (λn s'=>∃ i σ' H',Inv X pins σ' H' s'/\tn i s'.heap/\(∀ b∈fp,H' b=none)/\W i n σ' H') ?_ m0 ⟨0,σ,H2,I2,st2,λb hb=>(f2 b hb).1,w0⟩
 rintro n s3 ⟨i,σ3,H3,I3,st3,fr3,w3⟩
 rcases turn i n σ3 H3 w3 with ⟨stop,qn⟩ | ⟨go,N,hN,step⟩
 ·refine wpAny_passesOwn hp (thn (T.done X rfl rfl rfl hc i pins s3 σ3 H3 X.xe I3 (stat fr3) st3 stop) λr s4 ⟨hr,I4⟩=>?_)
  subst hr
  exact wpAny_execs_nil ⟨σ3,H3,I4,qn⟩
 ·refine wpAny_passesOwn hp (thn (T.item X rfl rfl rfl hc i pins s3 σ3 H3 X.xe I3 (stat fr3) st3 go) λr s4 ⟨u,hr,h4⟩=>?_)
  subst hr
  refine wpAny_passesOwn hp (thn h4 λ_ s5 ⟨x,H5,I5,r5,y5,st5,fr5⟩=>?_)
  have I5':=I5.pinned (stat fr5) (T.obj _ _ st5)
  refine wpAny_passesOwn hp (thn (hg _ s5 σ3 H5 x u _ I5' r5 (step x H5 y5)) λ_ s6 ⟨σ6,H6,I6,q6⟩=>?_)
  refine wpAny_passesOwn hp (thn (hb _ s6 σ6 H6 _ I6 q6) λf s7 q7=>?_)
  have again:∀ {σ7:St} {H7:Hp},Inv X (pins++ZcF fp s5.heap) σ7 H7 s7->N σ7 H7->∃ m,m<n/\∃ i σ' H',Inv X pins σ' H' s7/\tn i s7.heap/\(∀ b∈fp,H' b=none)/\W i m σ' H':=λ{σ7 H7} I7 n7=>by
   obtain ⟨m',hm,w7⟩:=hN σ7 H7 n7
   refine ⟨m',hm,i+1,σ7,H7,I7.unpinned,T.keep _ _ _ st5 λb hb o e=>(I7.pin (b,o) (List.mem_append_right _ (List.mem_append_right _ (Za3 hb e)))).1,λb hb=>?_,w7⟩
   obtain ⟨o,e,d⟩:=T.obj _ _ st5 b hb
   exact (I7.pin (b,o) (List.mem_append_right _ (List.mem_append_right _ (Za3 hb e)))).2.1
  cases f with
  | next=>obtain ⟨σ7,H7,I7,n7⟩:=q7;exact again I7 n7
  | cont=>obtain ⟨σ7,H7,I7,n7⟩:=q7;exact again I7 n7
  | brk=>obtain ⟨σ7,H7,I7,q7⟩:=q7;exact ⟨σ7,H7,I7.unpinned,q7⟩
  | ret v=>obtain ⟨x7,σ7,H7,I7,r7,q7⟩:=q7;exact ⟨x7,σ7,H7,I7.unpinned,r7,q7⟩
end
theorem Zd4 {K:PySem.W.Frag} {a:Addr} {xs:List V} {g:TG} {tb:TS} {D:Zdm} {σ:St} {H:Hp} (Pv:Nat->St->Hp->Prop) (h0:Pv 0 σ H) (hl:∀ i σ H,i<=xs.length->Pv i σ H->SqL K H a xs)
  (hs:∀ i x σ H,xs[i]?=some x->Pv i σ H->g x σ H λσ2 H2=>tb { D with nx:=Pv (i+1),ct:=Pv (i+1),bk:=D.nx } σ2 H2) (hd:∀ σ H,Pv xs.length σ H->D.nx σ H) :
  ∃ W:Nat->Nat->St->Hp->Prop,(∃ m,W 0 m σ H)/\∀ i m σ H,W i m σ H ->
   ((Itl K a).stop i H/\D.nx σ H)\/((Itl K a).go i H/\∃ N:St->Hp->Prop,(∀ σ' H',N σ' H'->∃ m',m'<m/\W (i+1) m' σ' H')/\∀ x H',(Itl K a).yld i H x H'->g x σ H' λσ2 H2=>tb { D with nx:=N,ct:=N,bk:=D.nx } σ2 H2):=by
 refine ⟨λi m σ H=>m=xs.length-i/\i<=xs.length/\Pv i σ H,⟨xs.length,by simp,Nat.zero_le _,h0⟩,?_⟩
 rintro i m σ H ⟨rfl,hi,p⟩
 have q:=hl i σ H hi p
 by_cases hlt:i<xs.length
 ·refine .inr ⟨⟨xs,xs[i],q,by simp [hlt]⟩,Pv (i+1),λσ' H' p'=>⟨xs.length-(i+1),by omega,rfl,hlt,p'⟩,λx H' y=>?_⟩
  obtain ⟨e,y⟩:=y
  subst e
  exact hs i x σ _ (y xs q) p
 ·have e:i=xs.length:=by omega
  subst e
  exact .inl ⟨⟨xs,q,Nat.le_refl _⟩,hd σ H p⟩
theorem ZbJ {lo:Int} {n:Nat} {g:TG} {tb:TS} {D:Zdm} {σ:St} {H:Hp} (Pv:Nat->St->Hp->Prop) (h0:Pv 0 σ H)
  (hs:∀ i σ H,i<n->Pv i σ H->g (.int (lo+i)) σ H λσ2 H2=>tb { D with nx:=Pv (i+1),ct:=Pv (i+1),bk:=D.nx } σ2 H2) (hd:∀ σ H,Pv n σ H->D.nx σ H) :
  ∃ W:Nat->Nat->St->Hp->Prop,(∃ m,W 0 m σ H)/\∀ i m σ H,W i m σ H ->
   ((Itr lo n).stop i H/\D.nx σ H)\/((Itr lo n).go i H/\∃ N:St->Hp->Prop,(∀ σ' H',N σ' H'->∃ m',m'<m/\W (i+1) m' σ' H')/\∀ x H',(Itr lo n).yld i H x H'->g x σ H' λσ2 H2=>tb { D with nx:=N,ct:=N,bk:=D.nx } σ2 H2):=by
 refine ⟨λi m σ H=>m=n-i/\i<=n/\Pv i σ H,⟨n,by simp,Nat.zero_le _,h0⟩,?_⟩
 rintro i m σ H ⟨rfl,hi,p⟩
 by_cases hlt:i<n
 ·refine .inr ⟨hlt,Pv (i+1),λσ' H' p'=>⟨n-(i+1),by omega,rfl,hlt,p'⟩,λx H' y=>?_⟩
  obtain ⟨e,y⟩:=y
  subst e y
  exact hs i σ _ hlt p
 ·have e:i=n:=by omega
  subst e
  exact .inl ⟨Nat.le_refl _,hd σ H p⟩
end L2
namespace L2
open PySem PySem.Spec PyProof.Rows
abbrev R2:=V->V->Hp->VK->Prop
def OpR (X:Cx) (f:Value->Value->Sem Value) (r:R2):Prop:=
 ∀ (pins:List (Addr×Obj)) (s:Shared) (σ:St) (H:Hp) (x y:V) (v u:Value) (Q:VK),Inv X pins σ H s->RelV x v->RelV y u->r x y H Q ->
  wpAny (model X.prog X.w) X.A (f v u) (EP X pins σ Q) X.xe s
def UnR (X:Cx) (f:Value->Sem Value) (r:V->Hp->VK->Prop):Prop:=
 ∀ (pins:List (Addr×Obj)) (s:Shared) (σ:St) (H:Hp) (x:V) (v:Value) (Q:VK),Inv X pins σ H s->RelV x v->r x H Q ->
  wpAny (model X.prog X.w) X.A (f v) (EP X pins σ Q) X.xe s
def Zbw (X:Cx) (f:Value) (r:List V->Hp->VK->Prop):Prop:=
 ∀ (pins:List (Addr×Obj)) (s:Shared) (σ:St) (H:Hp) (xs:List V) (us:List Value) (Q:VK),Inv X pins σ H s->Vals xs us->r xs H Q ->
  wpAny (model X.prog X.w) X.A (call f us) (EP X pins σ Q) X.xe s
def ZlM (X:Cx) (r:V->Hp->(Bool->Hp->Prop)->Prop):Prop:=
 ∀ (pins:List (Addr×Obj)) (s:Shared) (σ:St) (H:Hp) (x:V) (v:Value) (Q:Bool->Hp->Prop),Inv X pins σ H s->RelV x v->r x H Q ->
  wpAny (model X.prog X.w) X.A (truthy v) (TP X pins σ Q) X.xe s
def tOp (r:R2) (ta tb:TE):TE:=λσ H Q=>ta σ H λx H1=>tb σ H1 λy H2=>r x y H2 Q
def tUn (r:V->Hp->VK->Prop) (ta:TE):TE:=λσ H Q=>ta σ H λx H1=>r x H1 Q
def rI (C:Int->Int->Prop) (g:Int->Int->V):R2:=λx y H Q=>∃ i j,x=.int i/\y=.int j/\C i j/\Q (g i j) H
def rI0 (g:Int->Int->V):R2:=λx y H Q=>∃ i j,x=.int i/\y=.int j/\Q (g i j) H
def rU (g:Int->V):V->Hp->VK->Prop:=λx H Q=>∃ i,x=.int i/\Q (g i) H
section
variable {X:Cx} {a b c:Expr} {ta tb tc:TE} {pos:Pos}
theorem Zjn (ha:PE X a ta) (hb:PE X b tb) {pins:List (Addr×Obj)} {s:Shared} {σ:St} {H:Hp} {R:V->V->Hp->Prop} (I:Inv X pins σ H s)
  (h:ta σ H λx H1=>tb σ H1 λy H2=>R x y H2) {Q:Value->Shared->Prop} {f:Value->Value->Sem Value}
  (hf:∀ v u s2 x y H2,Inv X pins σ H2 s2->RelV x v->RelV y u->R x y H2->wpAny (model X.prog X.w) X.A (f v u) Q X.xe s2) :
  wpAny (model X.prog X.w) X.A (eval a X.env) (λv s₁=>wpAny (model X.prog X.w) X.A (eval b X.env) (λu s₂=>wpAny (model X.prog X.w) X.A (f v u) Q X.xe s₂) X.xe s₁) X.xe s:=by
 refine thn (ha pins s σ H _ I h) λv s1 ⟨x,H1,I1,r1,q1⟩=>?_
 refine thn (hb pins s1 σ H1 _ I1 q1) λu s2 ⟨y,H2,I2,r2,q2⟩=>?_
 exact hf v u s2 x y H2 I2 r1 r2 q2
theorem Zaq {op:Operator} {r:R2} (ho:OpR X (binaryOp op) r) (ha:PE X a ta) (hb:PE X b tb):PE X (.BinOp a op b pos) (tOp r ta tb):=by
 intro pins s σ H Q I h
 exact wpAny_BinOp (Zjn ha hb I h λv u s2 x y H2 I2 rx ry q=>ho pins s2 σ H2 x y v u Q I2 rx ry q)
theorem ZhQ {op:UnaryOp} {r:V->Hp->VK->Prop} (ho:UnR X (unaryOp op) r) (ha:PE X a ta):PE X (.UnaryOp op a pos) (tUn r ta):=by
 intro pins s σ H Q I h
 exact UnaryOp_ (thn (ha pins s σ H _ I h) λv s1 ⟨x,H1,I1,r1,q1⟩=>ho pins s1 σ H1 x v Q I1 r1 q1)
theorem opI {f:Value->Value->Sem Value} {C:Int->Int->Prop} {g:Int->Int->Int}
  (rule:∀ (i j:Int) (t u:Tok) (s:Shared) (Q:Value->Shared->Prop) (E:Value->Shared->Prop),C i j->Q (.int (g i j) s.toks) { s with toks:=s.toks+1 }->wpAny (model X.prog X.w) X.A (f (.int i t) (.int j u)) Q E s) :
  OpR X f (rI C λi j=>.int (g i j)):=by
 intro pins s σ H x y v u Q I rx ry h
 obtain ⟨i,j,rfl,rfl,hc,q⟩:=h
 obtain ⟨t,rfl⟩:=rx
 obtain ⟨t',rfl⟩:=ry
 exact rule i j t t' s _ _ hc ⟨.int (g i j),H,I.tok _,⟨_,rfl⟩,q⟩
theorem Zj6 {f:Value->Value->Sem Value} {g:Int->Int->Int}
  (rule:∀ (i j:Int) (t u:Tok) (s:Shared) (Q:Value->Shared->Prop) (E:Value->Shared->Prop),Q (.int (g i j) s.toks) { s with toks:=s.toks+1 }->wpAny (model X.prog X.w) X.A (f (.int i t) (.int j u)) Q E s) :
  OpR X f (rI0 λi j=>.int (g i j)):=by
 intro pins s σ H x y v u Q I rx ry h
 obtain ⟨i,j,rfl,rfl,q⟩:=h
 obtain ⟨t,rfl⟩:=rx
 obtain ⟨t',rfl⟩:=ry
 exact rule i j t t' s _ _ ⟨.int (g i j),H,I.tok _,⟨_,rfl⟩,q⟩
theorem ZiY {f:Value->Value->Sem Value} {g:Int->Int->Bool}
  (rule:∀ (i j:Int) (t u:Tok) (s:Shared) (Q:Value->Shared->Prop) (E:Value->Shared->Prop),Q (.bool (g i j)) s->wpAny (model X.prog X.w) X.A (f (.int i t) (.int j u)) Q E s) :
  OpR X f (rI0 λi j=>.bl (g i j)):=by
 intro pins s σ H x y v u Q I rx ry h
 obtain ⟨i,j,rfl,rfl,q⟩:=h
 obtain ⟨t,rfl⟩:=rx
 obtain ⟨t',rfl⟩:=ry
 exact rule i j t t' s _ _ ⟨.bl (g i j),H,I,rfl,q⟩
def ZlN (i j:Int):Prop:=0<j/\j<1073741824
def ZkR (i j:Int):Prop:=j≠0/\j.natAbs<1073741824
def ZkS (i j:Int):Prop:=0<=j/\j<=1000000/\i.natAbs<2 ^ 64
def CMul (i j:Int):Prop:=(-(2 ^ 64)<i/\i<2 ^ 64)\/(-(2 ^ 64)<j/\j<2 ^ 64)
theorem CMul.ok {i j:Int} (h:CMul i j):IntMulOk i j:=by
 rcases h with ⟨h1,h2⟩ | ⟨h1,h2⟩
 ·exact .of_left (intBits_le_64 h1 h2)
 ·exact .of_right (intBits_le_64 h1 h2)
theorem Zbe:OpR X (binaryOp .Add) (rI0 λi j=>.int (i+j)):=Zj6 λ_ _ _ _ _ _ _ q=>add_int q
theorem ZhR:OpR X (binaryOp .Sub) (rI0 λi j=>.int (i-j)):=Zj6 λ_ _ _ _ _ _ _ q=>sub_int q
theorem Zcl:OpR X (binaryOp .Mult) (rI CMul λi j=>.int (i * j)):=opI λ_ _ _ _ _ _ _ hc q=>mul_int q hc.ok
theorem Zaw:OpR X (binaryOp .Mod) (rI (λ_ j=>0<j) λi j=>.int (i % j)):=opI λi j _ _ _ _ _ hc q=>by
 have h1:(0:Int)<j:=hc
 exact mod_int' (by omega) (by rw [Int.fmod_eq_emod_of_nonneg i (by omega)];exact q)
theorem ZhS:OpR X (binaryOp .Pow) (rI ZkS λi j=>.int (i ^ j.toNat)):=opI λ_ _ _ _ _ _ _ hc q=>pow_int_small hc.1 hc.2.1 hc.2.2 q
end
def Zj7:V->V->Bool
 | .non,.non=>true | .non,.int _=>true | .int _,.non=>true | .non,.bl _=>true | .bl _,.non=>true | .non,.str _=>true | .str _,.non=>true
 | .int _,.int _=>true | .bl _,.bl _=>true | .str _,.str _=>true | .byt _,.byt _=>true
 | .int _,.str _=>true | .str _,.int _=>true | .bl _,.str _=>true | .str _,.bl _=>true
 | _,_=>false
def rEq:R2:=λx y H Q=>Zj7 x y=true/\Q (.bl (decide (x=y))) H
def rNe:R2:=λx y H Q=>Zj7 x y=true/\Q (.bl (!decide (x=y))) H
theorem ZeJ {i j:Int}:decide (V.int i=V.int j)=(i == j):=by
 rw [Bool.eq_iff_iff]
 simp
theorem Zgp {i j:Bool}:decide (V.bl i=V.bl j)=(i == j):=by
 rw [Bool.eq_iff_iff]
 simp
theorem ZeK {i j:Str}:decide (V.str i=V.str j)=(i == j):=by
 rw [Bool.eq_iff_iff]
 simp
theorem ZeL {i j:Array UInt8}:decide (V.byt i=V.byt j)=(i.toList == j.toList):=by
 rw [Bool.eq_iff_iff]
 cases i
 cases j
 simp
section
variable {X:Cx} {a b c:Expr} {ta tb tc:TE} {pos:Pos}
theorem ZaA {pins:List (Addr×Obj)} {σ:St} {H:Hp} {s:Shared} {Q:VK} {k k':Bool} (I:Inv X pins σ H s) (q:Q (.bl k) H) (e:k=k'):EP X pins σ Q (.bool k') s:=by
 subst e
 exact ⟨.bl k,H,I,rfl,q⟩
theorem ZbV:OpR X (compareOp .Eq) rEq:=by
 intro pins s σ H x y v u Q I rx ry h
 obtain ⟨hs,q⟩:=h
 cases x with
 | non=>
  cases rx
  cases y with
  | non=>cases ry;exact PySem.EqNone.eq_none_none (ZaA I q (by simp))
  | bl j=>cases ry;exact PySem.EqNone.eq_none_bool (ZaA I q (by simp))
  | int j=>obtain ⟨t',rfl⟩:=ry;exact PySem.EqNone.eq_none_int (ZaA I q (by simp))
  | str j=>obtain ⟨t',rfl⟩:=ry;exact PySem.EqNone.eq_none_str (ZaA I q (by simp))
  | _=>exact absurd (show false=true from hs) Bool.false_ne_true
 | bl i=>
  cases rx
  cases y with
  | non=>cases ry;exact PySem.EqNone.eq_bool_none (ZaA I q (by simp))
  | bl j=>cases ry;exact eq_bool (ZaA I q Zgp)
  | str j=>obtain ⟨t',rfl⟩:=ry;exact PySem.EqMixed.eq_bool_str (ZaA I q (by simp))
  | _=>exact absurd (show false=true from hs) Bool.false_ne_true
 | int i=>
  obtain ⟨t,rfl⟩:=rx
  cases y with
  | non=>cases ry;exact PySem.EqNone.eq_int_none (ZaA I q (by simp))
  | int j=>obtain ⟨t',rfl⟩:=ry;exact eq_int (ZaA I q ZeJ)
  | str j=>obtain ⟨t',rfl⟩:=ry;exact PySem.EqMixed.eq_int_str (ZaA I q (by simp))
  | _=>exact absurd (show false=true from hs) Bool.false_ne_true
 | str i=>
  obtain ⟨t,rfl⟩:=rx
  cases y with
  | non=>cases ry;exact PySem.EqNone.eq_str_none (ZaA I q (by simp))
  | bl j=>cases ry;exact PySem.EqMixed.eq_str_bool (ZaA I q (by simp))
  | int j=>obtain ⟨t',rfl⟩:=ry;exact PySem.EqMixed.eq_str_int (ZaA I q (by simp))
  | str j=>obtain ⟨t',rfl⟩:=ry;exact eq_str (ZaA I q ZeK)
  | _=>exact absurd (show false=true from hs) Bool.false_ne_true
 | byt i=>
  obtain ⟨t,rfl⟩:=rx
  cases y with
  | byt j=>obtain ⟨t',rfl⟩:=ry;exact PySem.W.eq_bytes (ZaA I q ZeL)
  | _=>exact absurd (show false=true from hs) Bool.false_ne_true
 | _=>cases y <;> exact absurd (show false=true from hs) Bool.false_ne_true
theorem ZeM:OpR X (compareOp .NotEq) rNe:=by
 intro pins s σ H x y v u Q I rx ry h
 obtain ⟨hs,q⟩:=h
 cases x with
 | non=>
  cases rx
  cases y with
  | non=>cases ry;exact PySem.EqNone.ne_none_none (ZaA I q (by simp))
  | bl j=>cases ry;exact PySem.EqNone.ne_none_bool (ZaA I q (by simp))
  | int j=>obtain ⟨t',rfl⟩:=ry;exact PySem.EqNone.ne_none_int (ZaA I q (by simp))
  | str j=>obtain ⟨t',rfl⟩:=ry;exact PySem.EqNone.ne_none_str (ZaA I q (by simp))
  | _=>exact absurd (show false=true from hs) Bool.false_ne_true
 | bl i=>
  cases rx
  cases y with
  | non=>cases ry;exact PySem.EqNone.ne_bool_none (ZaA I q (by simp))
  | bl j=>cases ry;exact ne_bool (ZaA I q (congrArg not Zgp))
  | str j=>obtain ⟨t',rfl⟩:=ry;exact PySem.EqMixed.ne_bool_str (ZaA I q (by simp))
  | _=>exact absurd (show false=true from hs) Bool.false_ne_true
 | int i=>
  obtain ⟨t,rfl⟩:=rx
  cases y with
  | non=>cases ry;exact PySem.EqNone.ne_int_none (ZaA I q (by simp))
  | int j=>obtain ⟨t',rfl⟩:=ry;exact ne_int (ZaA I q (congrArg not ZeJ))
  | str j=>obtain ⟨t',rfl⟩:=ry;exact PySem.EqMixed.ne_int_str (ZaA I q (by simp))
  | _=>exact absurd (show false=true from hs) Bool.false_ne_true
 | str i=>
  obtain ⟨t,rfl⟩:=rx
  cases y with
  | non=>cases ry;exact PySem.EqNone.ne_str_none (ZaA I q (by simp))
  | bl j=>cases ry;exact PySem.EqMixed.ne_str_bool (ZaA I q (by simp))
  | int j=>obtain ⟨t',rfl⟩:=ry;exact PySem.EqMixed.ne_str_int (ZaA I q (by simp))
  | str j=>obtain ⟨t',rfl⟩:=ry;exact ne_str (ZaA I q (congrArg not ZeK))
  | _=>exact absurd (show false=true from hs) Bool.false_ne_true
 | byt i=>
  obtain ⟨t,rfl⟩:=rx
  cases y with
  | byt j=>obtain ⟨t',rfl⟩:=ry;exact PySem.W.ne_bytes (ZaA I q (congrArg not ZeL))
  | _=>exact absurd (show false=true from hs) Bool.false_ne_true
 | _=>cases y <;> exact absurd (show false=true from hs) Bool.false_ne_true
theorem Zdo:OpR X (compareOp .Lt) (rI0 λi j=>.bl (decide (i<j))):=ZiY λ_ _ _ _ _ _ _ q=>lt_int q
theorem ZhT:OpR X (compareOp .LtE) (rI0 λi j=>.bl (decide (i<=j))):=ZiY λ_ _ _ _ _ _ _ q=>le_int q
theorem Zdp:OpR X (compareOp .Gt) (rI0 λi j=>.bl (decide (j<i))):=ZiY λ_ _ _ _ _ _ _ q=>gt_int q
theorem ZgM:OpR X (compareOp .GtE) (rI0 λi j=>.bl (decide (j<=i))):=ZiY λ_ _ _ _ _ _ _ q=>ge_int q
theorem ZhU:OpR X (compareOp .Is) (λx y H Q=>y=.non/\Q (.bl (decide (x=.non))) H):=by
 intro pins s σ H x y v u Q I rx ry h
 obtain ⟨rfl,q⟩:=h
 cases ry
 refine is_none_gen (ZaA I q ?_)
 cases x <;> first
  | (cases rx;rfl)
  | (obtain ⟨t,rfl⟩:=rx;rfl)
theorem ZgN:OpR X (compareOp .IsNot) (λx y H Q=>y=.non/\Q (.bl (!decide (x=.non))) H):=by
 intro pins s σ H x y v u Q I rx ry h
 obtain ⟨rfl,q⟩:=h
 cases ry
 refine isnot_none_gen (ZaA I q ?_)
 cases x <;> first
  | (cases rx;rfl)
  | (obtain ⟨t,rfl⟩:=rx;rfl)
def ZkT:HO->Bool
 | .lst _=>true
 | .ins _ _ _=>true
 | _=>false
theorem Zan (b:Expr) {op:CmpOp} (h:op≠.In:=by decide) (h2:op≠.NotIn:=by decide):behindInMarks op b=false:=by
 have e1:(op == CmpOp.In)=false:=by cases op <;> first | rfl | exact absurd rfl h
 have e2:(op == CmpOp.NotIn)=false:=by cases op <;> first | rfl | exact absurd rfl h2
 cases b <;> simp [behindInMarks,e1,e2]
theorem Zcm {op:CmpOp} {r:R2} (ho:OpR X (compareOp op) r) (ha:PE X a ta) (hb:PE X b tb) (hm:behindInMarks op b=false):PE X (.Compare a [op] [b] pos) (tOp r ta tb):=by
 intro pins s σ H Q I h
 exact wpAny_Compare1 (Zjn ha hb I h λv u s2 x y H2 I2 rx ry q=>ho pins s2 σ H2 x y v u Q I2 rx ry q) hm
def ZhV (t:TE):TT:=λσ H Q=>t σ H λx H'=>∃ k,x=.bl k/\Q k H'
theorem Zai {op:CmpOp} {r:R2} (ho:OpR X (compareOp op) r) (ha:PE X a ta) (hb:PE X b tb) (hm:behindInMarks op b=false):PT X (.Compare a [op] [b] pos) (ZhV (tOp r ta tb)):=by
 intro pins s σ H Q I h
 refine wpAny_isTrue_Compare1 (thn (ha pins s σ H _ I h) λv s1 ⟨x,H1,I1,r1,q1⟩=>thn (hb pins s1 σ H1 _ I1 q1) λu s2 ⟨y,H2,I2,r2,q2⟩=>
  thn (ho pins s2 σ H2 x y v u _ I2 r1 r2 q2) λc s3 ⟨z,H3,I3,r3,k,e,q3⟩=>?_) hm
 subst e
 cases r3
 exact wpAny_truthy_bool ⟨H3,I3,q3⟩
def ZhW (r r':R2) (ta tb tc:TE):TE:=λσ H Q=>ta σ H λx H1=>tb σ H1 λy H2=>r x y H2 λz H3=>∃ k,z=.bl k /\
 (if k=true then tc σ H3 λw' H4=>r' y w' H4 Q else Q (.bl false) H3)
theorem ZfO {op op':CmpOp} {r r':R2} (ho:OpR X (compareOp op) r) (ho':OpR X (compareOp op') r') (ha:PE X a ta) (hb:PE X b tb) (hc:PE X c tc)
  (hm:lastMarks [op,op'] [b,c]=false:=by with_unfolding_all rfl):PT X (.Compare a [op,op'] [b,c] pos) (ZhV (ZhW r r' ta tb tc)):=by
 intro pins s σ H Q I h
 refine isTrue_chain (thn (ha pins s σ H _ I h) λv s1 ⟨x,H1,I1,r1,q1⟩=>test_link (thn (hb pins s1 σ H1 _ I1 q1) λu s2 ⟨y,H2,I2,r2,q2⟩=>
  thn (ho pins s2 σ H2 x y v u _ I2 r1 r2 q2) λd s3 ⟨z,H3,I3,r3,k,e,q3⟩=>?_)) hm
 subst e
 cases r3
 refine wpAny_truthy_bool ?_
 cases k with
 | false=>
  obtain ⟨k',e',q'⟩:=q3
  cases e'
  exact ite_ff ⟨H3,I3,q'⟩
 | true=>
  refine ite_tt (test_last (thn (hc pins s3 σ H3 _ I3 q3) λw' s4 ⟨z',H4,I4,r4,q4⟩=>thn (ho' pins s4 σ H4 y z' u w' _ I4 r2 r4 q4) λd' s5 ⟨z2,H5,I5,r5,k2,e2,q5⟩=>?_))
  subst e2
  cases r5
  exact wpAny_truthy_bool ⟨H5,I5,q5⟩
def ZlO (K:PySem.W.Frag) (x:V) (H:Hp) (k:Bool):Prop:=
 match x with
 | .non=>k=false
 | .bl b=>k=b
 | .int i=>k=(i != 0)
 | .str y=>y.length<=sizeLine/\k=((y.length:Int) != 0)
 | .byt y=>y.size<=sizeLine/\k=((y.size:Int) != 0)
 | .ref p=>(∃ xs,SqL K H p xs/\k=!xs.isEmpty)\/(∃ xs,SqT K H p xs/\k=!xs.isEmpty)\/∃ kvs,H p=some (.dK kvs)/\k=!kvs.isEmpty
 | _=>False
theorem Zd5:(sizeLine:Nat)<2 ^ 63:=by rw [sizeLine_eq];decide
def ZiZ (b:Expr):Prop:=∀ o i,subscripted b false o i=operate [o,i] (getItem o i)
theorem ZfP {x:V} {us:List Value} (r:Vals [x] us):∃ u,us=[u]/\RelV x u:=by
 cases r with
 | cons r1 r2=>cases r2;exact ⟨_,rfl,r1⟩
theorem ZhX {x y:V} {us:List Value} (r:Vals [x,y] us):∃ u w',us=[u,w']/\RelV x u/\RelV y w':=by
 cases r with
 | cons r1 r2=>
  cases r2 with
  | cons r3 r4=>cases r4;exact ⟨_,_,rfl,r1,r3⟩
theorem Zcn (hc:X.calm=true):Zbw X (.builtin "max") (λxs H Q=>∃ i j,xs=[.int i,.int j]/\Q (.int (if j > i then j else i)) H):=by
 intro pins s σ H xs us Q I r h
 obtain ⟨i,j,rfl,q⟩:=h
 obtain ⟨u,w',rfl,⟨t,rfl⟩,⟨t',rfl⟩⟩:=ZhX r
 refine max_two_ints (I.ok.hd hc) λh' tk k=>⟨_,H,I.kept k,?_,q⟩
 by_cases hj:j > i
 ·rw [if_pos hj,if_pos hj];exact ⟨_,rfl⟩
 ·rw [if_neg hj,if_neg hj];exact ⟨_,rfl⟩
theorem Zco (hc:X.calm=true):Zbw X (.builtin "min") (λxs H Q=>∃ i j,xs=[.int i,.int j]/\Q (.int (if j<i then j else i)) H):=by
 intro pins s σ H xs us Q I r h
 obtain ⟨i,j,rfl,q⟩:=h
 obtain ⟨u,w',rfl,⟨t,rfl⟩,⟨t',rfl⟩⟩:=ZhX r
 refine min_two_ints (I.ok.hd hc) λh' tk k=>⟨_,H,I.kept k,?_,q⟩
 by_cases hj:j<i
 ·rw [if_pos hj,if_pos hj];exact ⟨_,rfl⟩
 ·rw [if_neg hj,if_neg hj];exact ⟨_,rfl⟩
theorem ZeN:Zbw X (.type "int") (λxs H Q=>(∃ i,xs=[.int i]/\Q (.int i) H)\/∃ k,xs=[.bl k]/\Q (.int (if k then 1 else 0)) H):=by
 intro pins s σ H xs us Q I r h
 rcases h with ⟨i,rfl,q⟩ | ⟨k,rfl,q⟩
 ·obtain ⟨u,rfl,t,rfl⟩:=ZfP r
  exact call_int_int ⟨.int i,H,I,⟨_,rfl⟩,q⟩
 ·obtain ⟨u,rfl,r1⟩:=ZfP r
  cases r1
  exact call_int_bool ⟨.int (if k then 1 else 0),H,I.tok _,⟨_,rfl⟩,q⟩
def ZlP (K:PySem.W.Frag) (x:V) (H:Hp) (n:Nat):Prop:=
 match x with
 | .str y=>y.length<=sizeLine/\n=y.length
 | .byt y=>y.size<=sizeLine/\n=y.size
 | .ref p=>(∃ xs,SqL K H p xs/\n=xs.length)\/∃ xs,SqT K H p xs/\n=xs.length
 | _=>False
end
end L2
namespace L2
open PySem PySem.Spec PyProof.Rows
structure ObjM (h:Heap) (x dx C:Addr) (mA:Str->Option Value):Prop where
 obj:h.get? x=some (PySem.W.instObj C dx)
 ns:h.Ns1 dx mA
 ne:dx≠x
theorem ZeO {h:Heap} {dx:Addr} {mA:Str->Option Value} (n:h.Ns1 dx mA):∃ od,h.get? dx=some od/\∀ name,PySem.W.lookIn name od=some (mA name):=by
 obtain ⟨o,es,ep,ho,hd,hk,_,hm⟩:=n
 refine ⟨o,ho,λname=>?_⟩
 have e:=hm name
 unfold nsFind findBy at e
 rw [<-Array.find?_toList] at e
 unfold PySem.W.lookIn
 rw [hd]
 dsimp only
 split
 ·rename_i y q
  rw [q] at e
  exact congrArg some e
 ·rename_i q
  rw [q] at e
  have a:es.toList.any (·.refKey)=false:=by
   rw [List.any_eq_false]
   intro y hy
   obtain ⟨z,t,hkey⟩:=hk y (Array.mem_toList_iff.mp hy)
   simp [DictEntry.refKey,hkey]
  have a':¬ es.toList.any (·.refKey)=true:=by rw [a];exact Bool.false_ne_true
  rw [if_neg a']
  exact congrArg some e
theorem ObjM.look {h:Heap} {x dx C:Addr} {mA:Str->Option Value} (I:ObjM h x dx C mA):∃ od,PySem.W.InstAt h x (PySem.W.instObj C dx) C (some od)/\∀ name,PySem.W.lookIn name od=some (mA name):=
 let ⟨od,ho,hl⟩:=ZeO I.ns
 ⟨od,⟨I.obj,rfl,rfl,ho⟩,hl⟩
section
variable {prog:Program} {w:World} {A:Around} {E:Value->Shared->Prop} {s:Shared} {K:PySem.W.Frag} {x dx C f:Addr} {mA:Str->Option Value} {name:Str} {v:Value}
end
def Zjo (f:Str) (v:V):List (Str×V)->List (Str×V)
 | []=>[(f,v)]
 | (g,x)::r=>if g=f then (g,v)::r else (g,x)::Zjo f v r
section
variable {P:Program} {w:World} {H H':Hp} {h h':Heap} {a C dx:Addr} {fs fs':List (Str×V)}
theorem ZgO (hok:HOk P w H h) (e:H a=some (.ins C dx fs)):∃ mA,ObjM h a dx C mA/\(∀ f,Zje (fs.lookup f) (mA f))/\PySem.Within mA (fs.map (·.1))/\fs.length<=1000/\H dx=some (.own a):=by
 obtain ⟨d,z,ne,ob,mA,n,r,q⟩:=(show ObjOk P w H h a (.ins C dx fs) from hok a _ e)
 exact ⟨mA,⟨ob,n,ne⟩,r,q,z,d⟩
end
structure Cls (K:PySem.W.Frag) (C:Addr):Prop where
 pg:PySem.W.plainGet K C Str.empty=true
 hd:PySem.W.hasDictIn K C=true
 po:PySem.W.plainOver K C=true
 sa:PySem.W.findIn K (.ref C) "__setattr__" = some (some (.builtin "object.__setattr__"))
theorem Cls.get {K:PySem.W.Frag} {C:Addr} (c:Cls K C) (f:Str):PySem.W.plainGet K C f=true:=c.pg
def ZeP (K:PySem.W.Frag) (C:Addr) (f:Str):Prop:=PySem.W.findIn K (.ref C) f=some none
structure Con (K:PySem.W.Frag) (C:Addr) (f:Str) (v:V) (u:Value):Prop where
 at_:PySem.W.findIn K (.ref C) f=some (some u)
 rel:RelV v u
 get:PySem.W.specialIn K u "__get__" = some none
 cp:PySem.W.copiedNames.contains f=false
structure ZlQ (K:PySem.W.Frag) (C:Addr) (m:Str) (f:Addr):Prop where
 at_:PySem.W.findIn K (.ref C) m=some (some (.ref f))
 fn:PySem.W.isFn K (.ref f)=true
 kp:PySem.W.keepIn K (.ref f)=true
section
variable {X:Cx} {pins:List (Addr×Obj)} {σ:St} {H:Hp} {s:Shared} {a C dx:Addr} {fs:List (Str×V)} {f:Str} {v:V} {A:Around} {E:Value->Shared->Prop}
end
def ZlR (K:PySem.W.Frag) (ta:TE) (f:Str):TE:=λσ H Q=>ta σ H λx H1=>∃ a C dx fs v,x=.ref a/\H1 a=some (.ins C dx fs)/\Cls K C/\ZeP K C f/\fs.lookup f=some v/\Q v H1
def ZlS (K:PySem.W.Frag) (ta:TE) (f:Str):TE:=λσ H Q=>ta σ H λx H1=>∃ a C dx fs v u,x=.ref a/\H1 a=some (.ins C dx fs)/\Cls K C/\Con K C f v u/\fs.lookup f=none/\Q v H1
def ZlT (K:PySem.W.Frag) (ta tv:TE) (f:Str):TS:=λD σ H=>tv σ H λy H1=>ta σ H1 λx H2=>∃ a C dx fs,x=.ref a/\H2 a=some (.ins C dx fs)/\Cls K C/\ZeP K C f/\fs.length<1000 /\
 D.nx σ (upd H2 a (.ins C dx (Zjo f y fs)))
def ZlU (X:Cx) (op:Operator) (rd:V->V->Hp->VK->Prop):Prop:=
 ∀ (pins:List (Addr×Obj)) (s:Shared) (σ:St) (H:Hp) (x y:V) (u v:Value) (Q:VK),Inv X pins σ H s->RelV x u->RelV y v->rd x y H Q->wpAny (model X.prog X.w) X.A (inplaceOp op u v) (EP X pins σ Q) X.xe s
def Zjp (K:PySem.W.Frag) (ta tv:TE) (rd:V->V->Hp->VK->Prop) (f:Str):TS:=λD σ H=>ta σ H λx H1=>∃ a C dx fs v,x=.ref a/\H1 a=some (.ins C dx fs)/\Cls K C/\ZeP K C f/\fs.lookup f=some v /\
 tv σ H1 λy H2=>rd v y H2 λz H3=>∃ dx' fs',H3 a=some (.ins C dx' fs')/\fs'.length<1000/\D.nx σ (upd H3 a (.ins C dx' (Zjo f z fs')))
section
variable {X:Cx} {o e value:Expr} {f:Str} {pos pos' tpos:Pos} {ta tv:TE}
def ZlV:V->V->Hp->VK->Prop:=λx y H Q=>∃ i j,x=.int i/\y=.int j/\Q (.int (i+j)) H
def ZlW:V->V->Hp->VK->Prop:=λx y H Q=>∃ i j,x=.int i/\y=.int j/\Q (.int (i-j)) H
end
section
variable {X:Cx} {pins:List (Addr×Obj)} {σ:St} {H:Hp} {s:Shared} {A:Around} {E:Value->Shared->Prop} {Q:Value->Shared->Prop} {c:Value} {b:Bool}
inductive ZdT (K:PySem.W.Frag) (H:Hp):V->Value->Prop where
 | non:ZdT K H .non (.type "NoneType")
 | bl (x:Bool):ZdT K H (.bl x) (.type "bool")
 | int (i:Int):ZdT K H (.int i) (.type "int")
 | str (x:Str):ZdT K H (.str x) (.type "str")
 | flt (x:UInt64):ZdT K H (.flt x) (.type "float")
 | lst {a:Addr} {xs:List V} (e:H a=some (.lst xs)):ZdT K H (.ref a) (.type "list")
 | frz {a:Addr} {o:Obj} {xs:List V} (e:H a=some (.frz o (.lst xs))):ZdT K H (.ref a) (.type "list")
 | tup {a:Addr} {xs:List V} (e:H a=some (.tup xs)):ZdT K H (.ref a) (.type "tuple")
 | dK {a:Addr} {kvs:List (Key×V)} (e:H a=some (.dK kvs)):ZdT K H (.ref a) (.type "dict")
 | dT {a:Addr} {kvs:List (List Key×V)} (e:H a=some (.dT kvs)):ZdT K H (.ref a) (.type "dict")
 | ins {a C dx:Addr} {fs:List (Str×V)} (e:H a=some (.ins C dx fs)) (cl:Cls K C) (ha:PySem.W.findIn K (.ref C) "__class__" = some (some (.builtin "object.__class__")))
   (hn:PySem.W.specialIn K (.builtin "object.__class__") "__get__" = some (some (.builtin "getset_descriptor.__get__"))) (htk:PySem.W.takesIn K (.builtin "object.__class__")=some true)
   (hm:PySem.W.mroIn K C (.type "object")=some true):ZdT K H (.ref a) (.ref C)
theorem ZeQ {x:V} {u t:Value} (I:Inv X pins σ H s) (rx:RelV x u) (ty:ZdT X.K H x t) (e:PySem.W.kitOne X.K t c=some b) (h:∀ tk,Q (.bool b) { s with toks:=tk }) :
  wpAny (model X.prog X.w) A (call (.builtin "isinstance") [u,c]) Q E s:=by
 cases ty with
 | non=>cases (show u=Value.none from rx);exact PySem.W.kia_one PySem.W.kitx_none I.kIn True.intro e (λz=>nomatch z) h
 | bl y=>cases (show u=Value.bool y from rx);exact PySem.W.kia_one PySem.W.kitx_bool I.kIn True.intro e (λz=>nomatch z) h
 | int i=>obtain ⟨t,q⟩:=(show ∃ t,u=Value.int i t from rx);cases q;exact PySem.W.kia_one PySem.W.kitx_int I.kIn True.intro e (λz=>nomatch z) h
 | str y=>obtain ⟨t,q⟩:=(show ∃ t,u=Value.str y t from rx);cases q;exact PySem.W.kia_one PySem.W.kitx_str I.kIn True.intro e (λz=>nomatch z) h
 | flt y=>obtain ⟨t,q⟩:=(show ∃ t,u=Value.float y t from rx);cases q;exact PySem.W.kia_one PySem.W.kitx_float I.kIn True.intro e (λz=>nomatch z) h
 | @lst a xs ea=>
  cases (show u=Value.ref a from rx)
  obtain ⟨_,_,n,_,h1⟩:=(show ObjOk X.prog X.w H s.heap a (.lst xs) from I.hok a _ ea)
  exact PySem.W.kia_one PySem.W.kitx_list I.kIn ⟨_,h1,rfl⟩ e (λz=>nomatch z) h
 | @frz a ob xs ea=>
  cases (show u=Value.ref a from rx)
  obtain ⟨_,_,_,n,_,h1⟩:=(show ObjOk X.prog X.w H s.heap a (.frz ob (.lst xs)) from I.hok a _ ea)
  exact PySem.W.kia_one PySem.W.kitx_list I.kIn ⟨_,h1,rfl⟩ e (λz=>nomatch z) h
 | @tup a xs ea=>
  cases (show u=Value.ref a from rx)
  obtain ⟨_,_,_,p⟩:=(show ObjOk X.prog X.w H s.heap a (.tup xs) from I.hok a _ ea)
  obtain ⟨o,h1,h2,_⟩:=p
  exact PySem.W.kia_one PySem.W.kitx_tuple I.kIn ⟨o,h1,h2⟩ e (λz=>nomatch z) h
 | @dK a kvs ea=>
  cases (show u=Value.ref a from rx)
  obtain ⟨_,_,vs,_,p⟩:=(show ObjOk X.prog X.w H s.heap a (.dK kvs) from I.hok a _ ea)
  obtain ⟨o,es,ep,h1,h2,_⟩:=p
  exact PySem.W.kia_one PySem.W.kitx_dict I.kIn ⟨o,h1,h2.1⟩ e (λz=>nomatch z) h
 | @dT a kvs ea=>
  cases (show u=Value.ref a from rx)
  obtain ⟨_,_,xs,_,o,es,ep,h1,h2,_⟩:=(show ObjOk X.prog X.w H s.heap a (.dT kvs) from I.hok a _ ea)
  exact PySem.W.kia_one PySem.W.kitx_dict I.kIn ⟨o,h1,h2.1⟩ e (λz=>nomatch z) h
 | @ins a C dx fs ea cl ha hn htk hm=>
  cases (show u=Value.ref a from rx)
  obtain ⟨mA,O,_⟩:=ZgO I.hok ea
  obtain ⟨od,J,_⟩:=O.look
  exact PySem.W.kia_one (PySem.W.kitx_own (cl.get _) cl.hd ha hn htk hm) I.kIn J e (λz=>nomatch z) h
end
end L2
namespace L2
open PySem PySem.Spec PyProof.Rows
structure Room (k:Nat) (A:Around):Prop where
 hd:A.handled=none
 dp:A.depth+3 * k+5<recursionLimit
 un:A.units+16 * k+200<cLine
theorem Room.mono {j k:Nat} {A:Around} (r:Room k A) (h:j<=k):Room j A:=⟨r.hd,by have:=r.dp;omega,by have:=r.un;omega⟩
theorem Room.deeper {k:Nat} {A:Around} (r:Room (k+1) A) (env:Env):Room k (A.deeper env):=
 ⟨r.hd,by have:=r.dp;show A.depth+1+3 * k+5<_;omega,by have:=r.un;show A.units+3+16 * k+200<_;omega⟩
theorem Room.depth {k:Nat} {A:Around} (r:Room k A):A.depth<recursionLimit:=by have:=r.dp;omega
theorem Room.units {k:Nat} {A:Around} (r:Room k A):A.units+64<cLine:=by have:=r.un;omega
def Zi0:TA:=λ_ H Q=>Q [] H
def ZgP (ta:TE) (tr:TA):TA:=λσ H Q=>ta σ H λx H1=>tr σ H1 λxs H2=>Q (x::xs) H2
section
variable {X:Cx} {e:Expr} {es:List Expr} {te:TE} {t:TA} {pos:Pos}
theorem Zac:PA X [] Zi0:=λ_ _ _ _ H Q I h=>Calls.spliced_nil ⟨[],H,I,.nil,h⟩
theorem Zaa (ha:PE X e te) (hr:PA X es t) (hs:starEach (e::es) X.env=(false,eval e X.env)::starEach es X.env:=by rfl):PA X (e::es) (ZgP te t):=by
 intro pos pins s σ H Q I h
 rw [hs]
 show wpAny _ _ (spliced ((false,eval e X.env)::backTo pos (starEach es X.env))) _ _ s
 refine Calls.spliced_cons (thn (ha pins s σ H _ I h) λu s1 ⟨x,H1,I1,r1,q1⟩=>?_)
 exact thn (hr pos pins s1 σ H1 _ I1 q1) λus s2 ⟨xs,H2,I2,r2,q2⟩=>⟨x::xs,H2,I2,.cons r1 r2,q2⟩
def ZkU (t:TA):TE:=λσ H Q=>t σ H λxs H1=>xs.length<=sizeLine/\∀ p,H1 p=none->Q (.ref p) (upd H1 p (.tup xs))
def ZkV (t:TA):TE:=λσ H Q=>t σ H λxs H1=>xs.length<=sizeLine/\∀ p,H1 p=none->Q (.ref p) (upd H1 p (.lst xs))
theorem ZaW {x1} (h:PA X es t):PE X (.Tuple es x1 pos) (ZkU t):=by
 intro pins s σ H Q I hq
 refine wpAny_Tuple_spliced (thn (h pos pins s σ H _ I hq) λus s1 ⟨xs,H1,I1,r,z,q⟩=>⟨by rw [<-r.length];exact z,?_⟩)
 have hf:H1 s1.heap.objs.size=none:=I1.hok.fresh (Nat.le_refl _)
 refine ⟨.ref s1.heap.objs.size,upd H1 s1.heap.objs.size (.tup xs),I1.laid (t':=s1.toks) (λb u e=>Heap.get?_push_of_some _ e) (Nat.le_refl _) ?_,rfl,q _ hf⟩
 exact ⟨z,us,r,⟨_,Heap.get?_push_size _ rfl,rfl,_,rfl⟩⟩
theorem ZaS (h:PA X es t):PE X (.List es pos) (ZkV t):=by
 intro pins s σ H Q I hq
 refine wpAny_List_spliced (thn (h pos pins s σ H _ I hq) λus s1 ⟨xs,H1,I1,r,z,q⟩=>⟨by rw [<-r.length];exact z,?_⟩)
 have hf:H1 s1.heap.objs.size=none:=I1.hok.fresh (Nat.le_refl _)
 refine ⟨.ref s1.heap.objs.size,upd H1 s1.heap.objs.size (.lst xs),I1.laid (t':=s1.toks) (λb u e=>Heap.get?_push_of_some _ e) (Nat.le_refl _) ?_,rfl,q _ hf⟩
 exact ⟨z,us,0,r,Heap.get?_push_size _ rfl⟩
end
abbrev Sp:=List V->Hp->VK->XK->Prop
abbrev CXT:=List Env->Hp->Shared->XK->Value->Shared->Prop
structure Zi1 (P:Program) (w:World) (K:PySem.W.Frag) (mg:Str->Option Value) (base:Heap) (A:Around) (outer:List Env) (s:Shared) (H:Hp):Prop where
 frames:A.frames=some outer
 mod:Mod K mg base
 bs:∀ b o,base.get? b=some o->s.heap.get? b=some o/\H b=none
 bsz:base.objs.size<=s.heap.objs.size
 funs:s.heap.FunFrames base outer
 frf:∀ b∈frs outer,H b=none
 hok:HOk P w H s.heap
 bare:AllBare s.gens
def CE (outer:List Env) (P:Program) (w:World) (H:Hp) (s:Shared) (Q:VK) (u:Value) (s':Shared):Prop:=
 ∃ v H',s'.os=s.os/\AllBare s'.gens/\Un (frs outer) [] H H' s.heap s'.heap/\HOk P w H' s'.heap/\RelV v u/\Q v H'
def CR (CX:CXT) (outer:List Env) (P:Program) (w:World) (H:Hp) (s:Shared) (Q:VK) (E:XK) (r:Result) (s':Shared):Prop:=
 match r with
 | .ok (.ret u)=>CE outer P w H s Q u s'
 | .ok _=>False
 | .error e=>CX outer H s E e s'
structure ZaY (P:Program) (w:World) (K:PySem.W.Frag) (mg:Str->Option Value) (base:Heap) (CX:CXT) (k:Nat) (f:Addr) (fd:FuncData) (ps:List Str) (sp:Sp):Prop where
 len:∀ vs H Q E,sp vs H Q E->vs.length=ps.length
 run:∀ (A:Around) (outer:List Env) (s:Shared) (H:Hp) (args:Args) (us:List Value) (vs:List V) (Q:VK) (E:XK),Room k A->Zi1 P w K mg base A outer s H->BindsTo s fd args (ps.zip us)->Vals vs us->sp vs H Q E ->
  codeAny (model P w) A (.call (.ref f) args) (CR CX outer P w H s Q E) s
section
variable {X:Cx} {pins:List (Addr×Obj)} {σ:St} {H:Hp} {s s':Shared}
theorem Inv.env0 (I:Inv X pins σ H s):Zi1 X.prog X.w X.K X.mg X.base X.A X.stack s H:=
 ⟨I.ok.frames,I.ok.mod,I.bs,Nat.le_trans I.ok.bsz I.sz,I.stack,I.stkFree,I.hok,I.bare⟩
theorem Inv.after {Q:VK} {u:Value} (I:Inv X pins σ H s) (h:CE X.stack X.prog X.w H s Q u s'):EP X pins σ Q u s':=by
 obtain ⟨v,H',os,bare,un,hok,r,q⟩:=h
 obtain ⟨hh,g,d,t,os'⟩:=s'
 obtain rfl:os'=s.os:=os
 exact ⟨v,H',I.call (h':=hh) (g':=g) (d':=d) (t':=t) (ch:=[]) un hok bare (λb z=>absurd z (by simp)),r,q⟩
end
def Zjq (sp:Sp) (dvs:List V) (E:XK) (t:TA):TE:=λσ H Q=>t σ H λvs H1=>sp (vs++dvs) H1 Q E
def ZkW (C:Addr) (m:Str) (sp:Sp) (dvs:List V) (E:XK) (ta:TE) (t:TA):TE:=λσ H Q=>ta σ H λx H1=>∃ a dx fs,x=.ref a/\H1 a=some (.ins C dx fs)/\fs.lookup m=none /\
 t σ H1 λvs H2=>sp (x::(vs++dvs)) H2 Q E
def ZkX (C:Addr) (sp:Sp) (dvs:List V) (E:XK) (t:TA):TE:=λσ H Q=>t σ H λvs H1=>∀ x dx,H1 x=none->H1 dx=none->dx≠x ->
 sp (.ref x::(vs++dvs)) (upd (upd H1 dx (.own x)) x (.ins C dx [])) (λv H2=>v=.non/\Q (.ref x) H2) E
def Binds (K:PySem.W.Frag) (fd:FuncData) (ps:List Str) (ds:List Value):Prop:=
 ∀ (s:Shared) (us:List Value),K.In s.heap->(us++ds).length=ps.length->BindsTo s fd ⟨us,[]⟩ (ps.zip (us++ds))
theorem Binds.all {K:PySem.W.Frag} {fd:FuncData} {ps:List Str} (h:∀ us:List Value,us.length=ps.length->bindArgs fd ⟨us,[]⟩=pure (ps.zip us)):Binds K fd ps []:=λs us _ hl=>by
 rw [List.append_nil] at hl ⊢
 exact .of_eq (h us hl)
def Zcp (CX:CXT) (X:Cx) (E:XK):Prop:=∀ (pins:List (Addr×Obj)) (σ:St) (H:Hp) (s:Shared) (e:Value) (s':Shared),Inv X pins σ H s->CX X.stack H s E e s'->X.xe e s'
section
variable {X:Cx} {CX:CXT} {k:Nat} {f C:Addr} {fd:FuncData} {ps:List Str} {sp:Sp} {dvs:List V} {ds:List Value} {E:XK} {x m:Str} {p pos apos:Pos} {e o:Expr} {es:List Expr} {ta:TE} {t:TA}
theorem ZhY {pins:List (Addr×Obj)} {σ:St} {H:Hp} {s:Shared} {Q:VK} {us:List Value} {vs:List V} (F:ZaY X.prog X.w X.K X.mg X.base CX k f fd ps sp) (hr:Room k X.A) (hb:Binds X.K fd ps ds) (hd:Vals dvs ds) (hx:Zcp CX X E)
  (I:Inv X pins σ H s) (r:Vals vs us) (h:sp (vs++dvs) H Q E):wpAny (model X.prog X.w) X.A (call (.ref f) us) (EP X pins σ Q) X.xe s:=by
 have r2:Vals (vs++dvs) (us++ds):=r.append hd
 have hl:(us++ds).length=ps.length:=by rw [<-r2.length];exact F.len _ _ _ _ h
 refine wpAny_call (codeAny_mono (F.run X.A X.stack s H ⟨us,[]⟩ (us++ds) (vs++dvs) Q E hr I.env0 (hb s us I.kIn hl) r2 h) λr s' hq=>?_)
 cases r with
 | error e=>exact hx pins σ H s e s' I hq
 | ok fl=>
  cases fl with
  | ret u=>exact I.after hq
  | next=>exact False.elim hq
  | brk=>exact False.elim hq
  | cont=>exact False.elim hq
theorem Zay (F:ZaY X.prog X.w X.K X.mg X.base CX k f fd ps sp) (hr:Room k X.A) (hg:Gl X x) (hm:X.mg x=some (.ref f)) (hk:PySem.W.keepIn X.K (.ref f)=true) (hb:Binds X.K fd ps ds) (hd:Vals dvs ds) (hx:Zcp CX X E)
  (ha:PA X (e::es) t) (hdb:(x == ("__debug__" : Str))=false:=by decide) (he:starEach (e::es) X.env=(false,eval e X.env)::starEach es X.env:=by rfl) (hpl:(backTo pos (starEach es X.env)).any (·.1)=false:=by rfl) :
  PE X (.Call (.Name x p) (e::es) [] pos) (Zjq sp dvs E t):=by
 intro pins s σ H Q I h
 refine wpAny_Call_Name_kw (Zbu I hg hm ?_ hdb)
 refine PySem.W.callWith_K (h₀:=X.base) I.ok.mod.kin hk (thn (ha pos pins s σ H _ I h) λus s1 ⟨vs,H1,I1,r,q⟩=>⟨I1.kIn,?_⟩) he hpl
 exact ZhY F hr hb hd hx I1 r q
structure Mk (K:PySem.W.Frag) (C f:Addr):Prop where
 makes:PySem.W.makesIn K C=true
 init:PySem.W.findIn K (.ref C) "__init__" = some (some (.ref f))
 fn:PySem.W.isFn K (.ref f)=true
 kp:PySem.W.keepIn K (.ref C)=true
end
def PK (X:Cx) (kws:List Keyword) (t:TA):Prop:=
 ∀ (pos:Pos) (pins:List (Addr×Obj)) (s:Shared) (σ:St) (H:Hp) (Q:List V->Hp->Prop),Inv X pins σ H s->t σ H Q->wpAny (model X.prog X.w) X.A (evalAll ((backToKw pos (keywordEach kws X.env)).map (·.2))) (AP X pins σ Q) X.xe s
section
variable {X:Cx} {CX:CXT} {k:Nat} {f C:Addr} {fd:FuncData} {ps ks:List Str} {sp:Sp} {E:XK} {x m:Str} {p pos apos kpos:Pos} {e o:Expr} {es:List Expr} {kws:List Keyword} {te ta:TE} {t tk:TA} {nm:Option Str}
structure Zj8 (K:PySem.W.Frag) (fd:FuncData) (ps ks:List Str) (g:List Value->List Value->List Value) (gV:List V->List V->List V):Prop where
 to:∀ (s:Shared) (us ws:List Value),K.In s.heap->(g us ws).length=ps.length->BindsTo s fd ⟨us,ks.zip ws⟩ (ps.zip (g us ws))
 rel:∀ {vs:List V} {us:List Value} {zs:List V} {ws:List Value},Vals vs us->Vals zs ws->Vals (gV vs zs) (g us ws)
def Zj9 (sp:Sp) (gV:List V->List V->List V) (E:XK) (t tk:TA):TE:=λσ H Q=>t σ H λvs H1=>tk σ H1 λzs H2=>sp (gV vs zs) H2 Q E
variable {g:List Value->List Value->List Value} {gV:List V->List V->List V}
end
structure ZaC (N P:List Str) (sc:Scope):Prop where
 kind:sc.kind=.function
 co:sc.isCoroutine=false
 gen:sc.isGenerator=false
 nd:N.Nodup
 pre:N.take P.length=P
 par:∀ x∈P,sc.names.lookup x=some .local\/sc.names.lookup x=some .cell
 nofree:∀ y∈sc.names,y.2≠.free
theorem Zdq {kindOf:Str->Option NameKind} {x:Str}:∀ {binds:List (Str×Value)} {m:Str->Option Value},(∀ v,(x,v) ∉ binds)->bindL kindOf binds m x=m x
 | [],_,_=>rfl
 | (n,v)::r,m,h=>by
  unfold bindL
  rw [Zdq λw hw=>h w (List.mem_cons_of_mem _ hw)]
  split
  ·have:x≠n:=by rintro rfl;exact h v List.mem_cons_self
   simp [this]
  ·rfl
theorem Zdr {kindOf:Str->Option NameKind} {x:Str}:∀ {binds:List (Str×Value)} {m:Str->Option Value},(∀ v,(x,v) ∉ binds)->bindC kindOf binds m x=m x
 | [],_,_=>rfl
 | (n,v)::r,m,h=>by
  unfold bindC
  rw [Zdr λw hw=>h w (List.mem_cons_of_mem _ hw)]
  split
  ·rfl
  ·have:x≠n:=by rintro rfl;exact h v List.mem_cons_self
   simp [this]
theorem Zds {kindOf:Str->Option NameKind} {x:Str} {v:Value}:∀ {P:List Str} {vs:List Value} {i:Nat} {m:Str->Option Value},P.Nodup->P[i]?=some x->vs[i]?=some v->kindOf x=some .local ->
  bindL kindOf (P.zip vs) m x=some v
 | [],_,_,_,_,h,_,_=>by simp at h
 | _::_,[],_,_,_,_,h,_=>by simp at h
 | p::P,w::vs,0,m,nd,h1,h2,hk=>by
  simp at h1 h2;subst h1;subst h2
  show bindL kindOf ((p,w)::P.zip vs) m p=_
  unfold bindL
  rw [Zdq λv hv=>(List.nodup_cons.mp nd).1 (List.of_mem_zip hv).1,if_pos hk]
  simp
 | p::P,w::vs,i+1,m,nd,h1,h2,hk=>by
  show bindL kindOf ((p,w)::P.zip vs) m x=_
  unfold bindL
  exact Zds (i:=i) (List.nodup_cons.mp nd).2 (by simpa using h1) (by simpa using h2) hk
theorem Zdt {kindOf:Str->Option NameKind} {x:Str} {v:Value}:∀ {P:List Str} {vs:List Value} {i:Nat} {m:Str->Option Value},P.Nodup->P[i]?=some x->vs[i]?=some v->kindOf x≠some .local ->
  bindC kindOf (P.zip vs) m x=some v
 | [],_,_,_,_,h,_,_=>by simp at h
 | _::_,[],_,_,_,_,h,_=>by simp at h
 | p::P,w::vs,0,m,nd,h1,h2,hk=>by
  simp at h1 h2;subst h1;subst h2
  show bindC kindOf ((p,w)::P.zip vs) m p=_
  unfold bindC
  rw [Zdr λv hv=>(List.nodup_cons.mp nd).1 (List.of_mem_zip hv).1,if_neg hk]
  simp
 | p::P,w::vs,i+1,m,nd,h1,h2,hk=>by
  show bindC kindOf ((p,w)::P.zip vs) m x=_
  unfold bindC
  exact Zdt (i:=i) (List.nodup_cons.mp nd).2 (by simpa using h1) (by simpa using h2) hk
def ZcD (N:List Str) (vs:List V):St:=vs.map some++List.replicate (N.length-vs.length) none
def ZeA (CX:CXT) (P:Program) (w:World) (K:PySem.W.Frag) (mg:Str->Option Value) (base:Heap) (N:List Str) (qual:Str) (scope:Scope) (f:Addr) (cd:Value) (A:Around) (outer:List Env) (s:Shared) (H:Hp) (E:XK):Cx where
 prog:=P
 w:=w
 K:=K
 mg:=mg
 base:=base
 A:=A.deeper (envOfC qual scope s.heap.objs.size f cd)
 N:=N
 s₀:=s
 H₀:=H
 env:=envOfC qual scope s.heap.objs.size f cd
 outer:=outer
 stack:=envOfC qual scope s.heap.objs.size f cd::outer
 ex:=[]
 calm:=true
 fn:=λ_=>true
 pn:=[]
 xe:=λe s'=>wpAny (model P w) (A.deeper (envOfC qual scope s.heap.objs.size f cd)) (leaving (envOfC qual scope s.heap.objs.size f cd) e) (λ_ s''=>CX outer H s E e s'') (λe' s''=>CX outer H s E e' s'') s'
theorem Zd6 {sc:Scope} {n:Nat} {x:Str} (h:sc.names.lookup x=some .cell):∃ c,(cellsFrom n sc.names []).lookup x=some c:=by
 have q:=PySem.W.cellsFrom_some sc.names n [] (.inl h)
 exact Option.isSome_iff_exists.mp q
theorem ZeR {CX:CXT} {P:Program} {w:World} {K:PySem.W.Frag} {mg:Str->Option Value} {base:Heap} {N ps:List Str} {qual:Str} {scope:Scope} {f:Addr} {cd:Value} {A:Around} {outer:List Env} {s s1:Shared} {H:Hp} {E:XK} {us:List Value} {vs:List V}
  (S:ZaC N ps scope) (hd:A.handled=none) (e0:Zi1 P w K mg base A outer s H) (hl:vs.length=ps.length) (r:Vals vs us)
  (x:InCallC s s.heap.objs.size (bindL (envOfC qual scope s.heap.objs.size f cd).kindOf (ps.zip us) λ_=>none) (cellsFrom (s.heap.objs.size+1) scope.names []) (bindC (envOfC qual scope s.heap.objs.size f cd).kindOf (ps.zip us) λ_=>none) s1) :
  Inv (ZeA CX P w K mg base N qual scope f cd A outer s H E) [] (ZcD N vs) H s1:=by
 have hpl:ps.length<=N.length:=by have:=congrArg List.length S.pre;rw [List.length_take] at this;omega
 obtain ⟨h1,tk,rfl,hk⟩:=x.done
 have noA:∀ b:Addr,b ∉ (ZeA CX P w K mg base N qual scope f cd A outer s H E).ex:=λb z=>absurd (show b∈([]:List Addr) from z) (by simp)
 refine ⟨⟨e0.mod,S.kind,rfl,rfl,Nat.le_refl _,λy z c h1 h2=>?_,λy hy=>?_,λy c _ h=>?_,λ_=>hd,Around.frames_deeper e0.frames,.inr ⟨rfl,rfl⟩,λb z=>absurd z (noA b),e0.bs,e0.bsz,λb _ _=>noA b,λb z=>absurd z (noA b),e0.funs,e0.frf⟩,
  rfl,e0.bare,Un.kept hk,⟨_,x.toInCall.ns,λi y v h1 h2 h3=>?_⟩,λy c h=>⟨_,x.cell y c h⟩,e0.hok.fresh (Nat.le_refl _),λy c h=>?_,λp hp=>absurd (show p∈([]:List (Addr×Obj)) from hp) (by simp),e0.hok.kept hk,?_⟩
 ·exact name_of_addr x.apart (PySem.mem_of_lookup h1) (PySem.mem_of_lookup h2)
 ·have hy:scope.names.lookup y=some .cell\/scope.names.lookup y=some .free:=hy
  rcases hy with hy | hy
  ·exact Zd6 hy
  ·exact absurd rfl (S.nofree _ (PySem.mem_of_lookup hy))
 ·exact Nat.le_of_lt (x.above y c (PySem.mem_of_lookup h))
 ·have hi:i<vs.length:=by
   unfold ZcD at h2
   by_cases hi:i<vs.length
   ·exact hi
   ·rw [List.getElem?_append_right (by simpa using hi)] at h2
    rw [List.getElem?_replicate] at h2
    split at h2 <;> cases h2
  have ha:vs[i]?=some v:=by
   unfold ZcD at h2
   rw [List.getElem?_append_left (by simpa using hi),List.getElem?_map] at h2
   cases e:vs[i]? with
   | none=>rw [e] at h2;cases h2
   | some a=>rw [e] at h2;cases h2;rfl
  obtain ⟨u,hu,rv⟩:=r.get ha
  have hp:ps[i]?=some y:=by
   rw [<-S.pre,List.getElem?_take_of_lt (by omega)];exact h1
  have ndP:ps.Nodup:=by rw [<-S.pre];exact S.nd.sublist (List.take_sublist _ _)
  refine ⟨u,rv,?_⟩
  rcases S.par y (List.mem_of_getElem? hp) with k | k
  ·exact .inl ⟨k,Zds ndP hp hu k⟩
  ·obtain ⟨c,e⟩:=Zd6 (n:=s.heap.objs.size+1) k
   refine .inr ⟨.inl k,c,e,?_⟩
   have q:=x.cell y c e
   rw [Zdt ndP hp hu (by show scope.names.lookup y≠_;rw [k];decide)] at q
   exact q
 ·exact e0.hok.fresh (Nat.le_of_lt (x.above y c (PySem.mem_of_lookup h)))
 ·unfold ZcD
  show _=N.length
  rw [List.length_append,List.length_map,List.length_replicate]
  omega
theorem ZgQ {CX:CXT} {P:Program} {w:World} {K:PySem.W.Frag} {mg:Str->Option Value} {base:Heap} {k:Nat} {f:Addr} {name qual:Str} {params:Arguments} {body:List Stmt} {scope:Scope} {dV kV doc pm cdv ct oc:Value} {an od:Option Addr}
  {osl:Array (Option Value)} {N ps:List Str} {sp:Sp} (lk:K.lookup f=some ⟨oc,od,.func (PySem.W.fnOf name qual params body scope dV kV doc pm an cdv ct),osl⟩) (hcd:PySem.W.codeIn K cdv qual=true) (S:ZaC N ps scope)
  (len:∀ vs H Q E,sp vs H Q E->vs.length=ps.length)
  (hbody:∀ (A:Around) (outer:List Env) (s:Shared) (H:Hp) (vs:List V) (Q:VK) (E:XK),Room k (A.deeper (envOfC qual scope s.heap.objs.size f cdv))->sp vs H Q E ->
   ∃ t,PSs (ZeA CX P w K mg base N qual scope f cdv A outer s H E) body t/\t { nx:=λ_ H'=>Q .non H',rt:=Q } (ZcD N vs) H) :
  ZaY P w K mg base CX (k+1) f (PySem.W.fnOf name qual params body scope dV kV doc pm an cdv ct) ps sp:=by
 refine ⟨len,λA outer s H args us vs Q E hr e0 hb r hsp=>?_⟩
 have hl:=len _ _ _ _ hsp
 have KX:K.In s.heap:=e0.mod.kin.keeps λb o e=>(e0.bs b o e).1
 have lim:s.heap.NoLimit:=e0.mod.nolimit.keeps λb o e=>(e0.bs b o e).1
 have hkind:∀ y∈ps.zip us,scope.names.lookup y.1=some .local\/(scope.names.lookup y.1=some .cell/\((cellsFrom (s.heap.objs.size+1) scope.names []).lookup y.1).isSome=true):=λ⟨n,v⟩ hy=>by
  rcases S.par n (List.of_mem_zip hy).1 with q | q
  ·exact .inl q
  ·exact .inr ⟨q,PySem.W.cellsFrom_some _ _ _ (.inl q)⟩
 refine codeAny_call_function hr.depth (KX _ _ lk) rfl S.co S.gen rfl (PySem.W.codeRec_of KX hcd) (hb _ _ _ _ ?_)
 refine wpAny_newFunctionEnv_cells S.kind hkind λenv he s1 x=>?_
 subst he
 refine ⟨lim.keeps x.toInCall.keep,codeAny_func ?_⟩
 obtain ⟨t,ht,hq⟩:=hbody A outer s H vs Q E (hr.deeper _) hsp
 have I:Inv (ZeA CX P w K mg base N qual scope f cdv A outer s H E) [] (ZcD N vs) H s1:=ZeR S hr.hd e0 hl r x
 refine wpAny_mono (ht [] s1 (ZcD N vs) H _ I hq) (λfl s' hs=>?_) λe s' hs=>hs
 have fin:∀ {σ':St} {H':Hp} {v:V} {u:Value},Inv (ZeA CX P w K mg base N qual scope f cdv A outer s H E) [] σ' H' s'->RelV v u->Q v H'->CE outer P w H s Q u s':=
  λ{σ' H' v u} J rv q=>⟨v,H',J.os,J.bare,J.base,J.hok,rv,q⟩
 cases fl with
 | ret u=>
  obtain ⟨v,σ',H',J,rv,q⟩:=hs
  exact fin J rv q
 | next=>
  obtain ⟨σ',H',J,q⟩:=hs
  exact fin (v:=V.non) (u:=Value.none) J rfl q
 | brk=>
  obtain ⟨_,_,_,q⟩:=hs
  exact False.elim q
 | cont=>
  obtain ⟨_,_,_,q⟩:=hs
  exact False.elim q
end L2
namespace L2
open PySem PySem.Spec PyProof.Rows
section
variable {X:Cx} {x:Str} {p pos:Pos} {e:Expr} {es:List Expr} {t:TA} {id T:String} {r:List V->Hp->VK->Prop}
def tCB (r:List V->Hp->VK->Prop) (t:TA):TE:=λσ H Q=>t σ H λvs H1=>r vs H1 Q
theorem Zah (hc:Zbw X (.builtin id) r) (hg:Gl X x) (hm:X.mg x=none) (hv:bootBuiltins x=some (.builtin id)) (ha:PA X (e::es) t) (hn:x ≠ "__name__" := by decide) (hdb:(x == ("__debug__" : Str))=false:=by decide)
  (he:starEach (e::es) X.env=(false,eval e X.env)::starEach es X.env:=by rfl) (hpl:(backTo pos (starEach es X.env)).any (·.1)=false:=by rfl):PE X (.Call (.Name x p) (e::es) [] pos) (tCB r t):=by
 intro pins s σ H Q I h
 refine wpAny_Call_Name_kw (Zd3 I hg hm hv ?_ hn hdb)
 exact PyProof.Rows.callWith_builtin1 (thn (ha pos pins s σ H _ I h) λus s1 ⟨vs,H1,I1,r1,q1⟩=>hc pins s1 σ H1 vs us Q I1 r1 q1) he hpl
theorem ZaI (hc:Zbw X (.type T) r) (hg:Gl X x) (hm:X.mg x=none) (hv:bootBuiltins x=some (.type T)) (ha:PA X (e::es) t) (hn:x ≠ "__name__" := by decide) (hdb:(x == ("__debug__" : Str))=false:=by decide)
  (he:starEach (e::es) X.env=(false,eval e X.env)::starEach es X.env:=by rfl) (hpl:(backTo pos (starEach es X.env)).any (·.1)=false:=by rfl):PE X (.Call (.Name x p) (e::es) [] pos) (tCB r t):=by
 intro pins s σ H Q I h
 refine wpAny_Call_Name_kw (Zd3 I hg hm hv ?_ hn hdb)
 exact PyProof.Rows.callWith_type1 (thn (ha pos pins s σ H _ I h) λus s1 ⟨vs,H1,I1,r1,q1⟩=>hc pins s1 σ H1 vs us Q I1 r1 q1) he hpl
end
end L2
namespace HT
open PySem PyProof.Rows
def lexLt:List Int->List Int->Bool
 | [],[]=>false
 | [],_::_=>true
 | _::_,[]=>false
 | x::xs,y::ys=>if x=y then lexLt xs ys else decide (x<y)
section
open PySem.SeqAt
open PySem.AutoSeq1 (wpAny_loadPart')
open PySem.MeetsSeq PySem.MeetsSeq2 PySem.MeetsSeq3
end
section
variable {prog:Program} {w:World} {A:Around} {E:Value->Shared->Prop} {s:Shared}
def sIx (n d:Nat):Option Int->Nat
 | none=>d
 | some v=>if v<0 then (v+(n:Int)).toNat else min v.toNat n
theorem sIx_none (n d:Nat):sIx n d none=d:=rfl
theorem sIx_nat (n d k:Nat):sIx n d (some (k:Int))=min k n:=by
 show (if (k:Int)<0 then ((k:Int)+(n:Int)).toNat else min (k:Int).toNat n)=min k n
 rw [if_neg (by omega),Int.toNat_natCast]
end
end HT
namespace L2
open PySem PySem.Spec PyProof.Rows
abbrev TO:=St->Hp->(Option Int->Hp->Prop)->Prop
def PO (X:Cx) (e:Option Expr) (t:TO):Prop:=
 ∀ (pins:List (Addr×Obj)) (s:Shared) (σ:St) (H:Hp) (Q:Option Int->Hp->Prop),Inv X pins σ H s->t σ H Q ->
  wpAny (model X.prog X.w) X.A (evalPart e X.env) (λu s'=>∃ o H',Inv X pins σ H' s'/\IsPart u o/\Q o H') X.xe s
def ZgR:TO:=λ_ H Q=>Q none H
def Zjr (t:TE):TO:=λσ H Q=>t σ H λx H1=>∃ i,x=.int i/\Q (some i) H1
section
variable {X:Cx} {e:Expr} {te:TE} {lo hi:Option Expr} {tl th:TO} {pos p2:Pos}
theorem ZaP:PO X none ZgR:=by
 intro pins s σ H Q I h
 rw [evalPart_none]
 exact wpAny_pure ⟨none,H,I,.none,h⟩
theorem ZaQ (h:PE X e te):PO X (some e) (Zjr te):=by
 intro pins s σ H Q I hw
 rw [evalPart_some]
 refine thn (h pins s σ H _ I hw) λu s1 ⟨x,H1,I1,r1,q1⟩=>?_
 obtain ⟨i,rfl,q⟩:=q1
 obtain ⟨t,rfl⟩:=r1
 exact ⟨some i,H1,I1,.int i t,q⟩
def SlR (X:Cx) (r:V->Option Int->Option Int->Hp->VK->Prop):Prop:=
 ∀ (pins:List (Addr×Obj)) (s:Shared) (σ:St) (H:Hp) (x:V) (v vl vu:Value) (lo hi:Option Int) (sl:Addr) (Q:VK),Inv X pins σ H s->RelV x v->s.heap.IsSliceOf sl vl vu .none->IsPart vl lo->IsPart vu hi->r x lo hi H Q ->
  ∃ T id,typeLookup (.type T) "__getitem__" = pure (some (.builtin id))/\s.TypeIs v T/\wpAny (model X.prog X.w) X.A (getItem v (.ref sl)) (EP X pins σ Q) X.xe s
def tSl (r:V->Option Int->Option Int->Hp->VK->Prop) (te:TE) (tl th:TO):TE:=λσ H Q=>te σ H λx H1=>tl σ H1 λl H2=>th σ H2 λu H3=>r x l u H3 Q
theorem ZaJ {r:V->Option Int->Option Int->Hp->VK->Prop} (hr:SlR X r) (he:PE X e te) (hl:PO X lo tl) (hu:PO X hi th):PE X (.Subscript e (.Slice lo hi none p2) pos) (tSl r te tl th):=by
 intro pins s σ H Q I h
 refine Subscript_ (thn (he pins s σ H _ I h) λv s1 ⟨x,H1,I1,r1,q1⟩=>?_)
 refine wpAny_Slice (thn (hl pins s1 σ H1 _ I1 q1) λvl s2 ⟨l,H2,I2,pl,q2⟩=>thn (hu pins s2 σ H2 _ I2 q2) λvu s3 ⟨u,H3,I3,pu,q3⟩=>?_)
 rw [evalPart_none]
 refine wpAny_pure ?_
 have I4:Inv X pins σ H3 { s3 with heap:=s3.heap.push { cls:=.type "slice", data:=.fields #[vl,vu,.none] } }:=I3.kept (t':=s3.toks) λb ob q=>Heap.get?_push_of_some _ q
 obtain ⟨T,id,hT,ht,hg⟩:=hr pins { s3 with heap:=s3.heap.push { cls:=.type "slice", data:=.fields #[vl,vu,.none] } } σ H3 x v vl vu l u s3.heap.objs.size Q I4 r1 (Heap.IsSliceOf.new ..) pl pu q3
 show wpAny (model X.prog X.w) X.A (subscriptTail e (.Slice lo hi none p2) v (.ref s3.heap.objs.size)) (EP X pins σ Q) X.xe { s3 with heap:=s3.heap.push { cls:=.type "slice", data:=.fields #[vl,vu,.none] } }
 exact tail_any (ops:=[.ref s3.heap.objs.size,v]) ht hT hg (by with_unfolding_all rfl)
def Zdu (xs:List V) (lo hi:Option Int):List V:=(xs.drop (HT.sIx xs.length 0 lo)).take (HT.sIx xs.length xs.length hi-HT.sIx xs.length 0 lo)
theorem ZdU (xs:List V) (lo hi:Option Int):(Zdu xs lo hi).length<=xs.length:=by
 unfold Zdu
 rw [List.length_take,List.length_drop]
 omega
def ZlX (K:PySem.W.Frag):V->Option Int->Option Int->Hp->VK->Prop:=λx lo hi H Q=>∃ a xs,x=.ref a/\SqT K H a xs /\
 ¬ (HT.sIx xs.length 0 lo=0/\HT.sIx xs.length xs.length hi=xs.length)/\∀ p,H p=none->Q (.ref p) (upd H p (.tup (Zdu xs lo hi)))
def ZlY (K:PySem.W.Frag):R2:=λx y H Q=>∃ a b ns ms,x=.ref a/\y=.ref b/\SqT K H a (ns.map V.int)/\SqT K H b (ms.map V.int)/\Q (.bl (HT.lexLt ns ms)) H
def ZkY (K:PySem.W.Frag):R2:=λx y H Q=>∃ a b xs ys,x=.ref a/\y=.ref b/\SqT K H a xs/\SqT K H b ys/\xs≠[]/\xs.length+ys.length<=sizeLine /\
 (ys=[]->Q (.ref a) H)/\(ys≠[]->∀ p,H p=none->Q (.ref p) (upd H p (.tup (xs++ys))))
end
end L2
namespace L2
open PySem PySem.Spec PyProof.Rows
def ixN (n:Nat) (i:Int):Option Nat:=if 0<=i then (if i<n then some i.toNat else none) else if -(n:Int)<=i then some (i+n).toNat else none
def atI {α:Type} (xs:List α) (i:Int):Option α:=(ixN xs.length i).bind λj=>xs[j]?
theorem ZgS {n:Nat} {i:Int} {j:Nat} (h:ixN n i=some j):seqIndex? i n=some j/\j<n/\-(n:Int)<=i/\i<n:=by
 unfold ixN at h
 by_cases h0:0<=i
 ·rw [if_pos h0] at h
  by_cases h1:i<n
  ·rw [if_pos h1] at h
   have e:i.toNat=j:=Option.some.inj h
   exact ⟨by rw [seqIndex_of h0 h1,e],by omega,by omega,h1⟩
  ·rw [if_neg h1] at h;cases h
 ·rw [if_neg h0] at h
  by_cases h1:-(n:Int)<=i
  ·rw [if_pos h1] at h
   have e:(i+n).toNat=j:=Option.some.inj h
   exact ⟨by rw [seqIndex_neg (by omega) h1,e],by omega,h1,by omega⟩
  ·rw [if_neg h1] at h;cases h
theorem ZdV {α:Type} {xs:List α} {i:Int} {v:α} (h:atI xs i=some v):∃ j,seqIndex? i xs.length=some j/\xs[j]?=some v/\j<xs.length/\-(xs.length:Int)<=i/\i<xs.length:=by
 unfold atI at h
 cases e:ixN xs.length i with
 | none=>rw [e] at h;cases h
 | some j=>
  rw [e] at h
  obtain ⟨h1,h2,h3,h4⟩:=ZgS e
  exact ⟨j,h1,h,h2,h3,h4⟩
theorem Zaj {α:Type} {xs:List α} {j:Nat} {v:α} (h:xs[j]?=some v):atI xs (j:Int)=some v:=by
 have hj:j<xs.length:=(List.getElem?_eq_some_iff.mp h).1
 have e:ixN xs.length (j:Int)=some j:=by
  unfold ixN
  rw [if_pos (by omega),if_pos (by omega)];simp
 unfold atI;rw [e];exact h
def ZgT (b:Expr):Prop:=∀ o i,subscripted b false o i=operate [o,i] (getItem o i)
def IxR (X:Cx) (r:R2):Prop:=
 ∀ (value slice:Expr) (pins:List (Addr×Obj)) (s:Shared) (σ:St) (H:Hp) (x y:V) (v u:Value) (Q:VK),Inv X pins σ H s->RelV x v->RelV y u->r x y H Q ->
  subscripted slice false v u=operate [v,u] (getItem v u)->wpAny (model X.prog X.w) X.A (subscriptTail value slice v u) (EP X pins σ Q) X.xe s
def MtR (X:Cx) (id:String) (r:V->List V->Hp->VK->Prop):Prop:=
 ∀ (pins:List (Addr×Obj)) (s:Shared) (σ:St) (H:Hp) (x:V) (xs:List V) (v:Value) (us:List Value) (Q:VK),Inv X pins σ H s->RelV x v->Vals xs us->r x xs H Q ->
  wpAny (model X.prog X.w) X.A (call (.builtin id) (v::us)) (EP X pins σ Q) X.xe s
section
variable {X:Cx} {a b:Expr} {ta tb:TE} {pos:Pos}
theorem Zao {r:R2} (hr:IxR X r) (ha:PE X a ta) (hb:PE X b tb) (hs:ZgT b):PE X (.Subscript a b pos) (tOp r ta tb):=by
 intro pins s σ H Q I h
 exact Subscript_ (Zjn ha hb I h λv u s2 x y H2 I2 rx ry q=>hr a b pins s2 σ H2 x y v u Q I2 rx ry q (hs _ _))
def Zi2 (K:PySem.W.Frag):R2:=λx y H Q=>∃ p xs i v,x=.ref p/\y=.int i/\SqL K H p xs/\atI xs i=some v/\Q v H
def Zi3 (K:PySem.W.Frag):R2:=λx y H Q=>∃ p xs i v,x=.ref p/\y=.int i/\SqT K H p xs/\atI xs i=some v/\Q v H
def Zka:R2:=λx y H Q=>∃ z i c,x=.str z/\y=.int i/\z.length<=sizeLine/\atI z.cps.toList i=some c/\Q (.str ⟨#[c]⟩) H
theorem ZeS:IxR X (Zi2 X.K):=by
 intro value slice pins s σ H x y v u Q I rx ry h hs
 obtain ⟨p,xs,i,z,rfl,rfl,hq,he,q⟩:=h
 cases rx
 obtain ⟨t,rfl⟩:=ry
 obtain ⟨its,r,pl,hz⟩:=I.list hq
 obtain ⟨j,h1,h2,h3,h4,h5⟩:=ZdV he
 obtain ⟨w,ew,rw'⟩:=r.get h2
 have hl:=r.length
 have hn:=Zd5
 have fin:EP X pins σ Q w s:=⟨z,H,I,rw',q⟩
 by_cases h0:0<=i
 ·have hj:i.toNat=j:=by
   rw [seqIndex_of h0 h5] at h1
   exact Option.some.inj h1
  exact item_listR pl.isList h0 (by omega) (by rw [hj];simpa using ew) fin hs
 ·have hj:(i+(its.toArray.size:Int)).toNat=j:=by
   rw [seqIndex_neg (by omega) h4] at h1
   rw [List.size_toArray,<-hl]
   exact Option.some.inj h1
  exact subscriptTail_builtinR (x:=w) pl.isList.typeIs slot_list_getitem.lookup
   (wpAny_getItem_list_neg (Q:=λr s'=>r=w/\EP X pins σ Q r s') pl.isList (by omega) (by rw [List.size_toArray] <;> omega) (by omega) (by rw [hj];simpa using ew) ⟨rfl,fin⟩) hs
theorem Zgq:IxR X (Zi3 X.K):=by
 intro value slice pins s σ H x y v u Q I rx ry h hs
 obtain ⟨p,xs,i,z,rfl,rfl,hq,he,q⟩:=h
 cases rx
 obtain ⟨t,rfl⟩:=ry
 obtain ⟨its,r,pl,hz⟩:=I.tuple hq
 obtain ⟨j,h1,h2,h3,h4,h5⟩:=ZdV he
 obtain ⟨w,ew,rw'⟩:=r.get h2
 have hl:=r.length
 have hn:=Zd5
 have fin:EP X pins σ Q w s:=⟨z,H,I,rw',q⟩
 exact subscriptTail_builtinR (x:=w) pl.typeIs slot_tuple_getitem.lookup
  (getItem_tuple (j:=j) (Q:=λr s'=>r=w/\EP X pins σ Q r s') pl (by omega) (by omega) (by rw [List.size_toArray,<-hl];exact h1) (by simpa using ew) ⟨rfl,fin⟩) hs
theorem ZeT:IxR X Zka:=by
 intro value slice pins s σ H x y v u Q I rx ry h hs
 obtain ⟨z,i,c,rfl,rfl,hz,he,q⟩:=h
 obtain ⟨t,rfl⟩:=rx
 obtain ⟨t',rfl⟩:=ry
 obtain ⟨j,h1,h2,h3,h4,h5⟩:=ZdV he
 have hl:z.cps.toList.length=z.length:=by simp [Str.length]
 rw [hl] at h1 h4 h5
 have hn:=Zd5
 exact tail_any (typeIs_str s z t) slot_str_getitem.lookup (getItem_str (c:=c) (by
  have e1:decide (i < -(2 ^ 63:Int))=false:=decide_eq_false (by omega)
  have e2:decide (i>=2 ^ 63)=false:=decide_eq_false (by omega)
  rw [e1,e2,Bool.or_false]) (by rw [h1];simpa using h2) ⟨.str ⟨#[c]⟩,H,I.tok _,⟨_,rfl⟩,q⟩) hs
def rIx (K:PySem.W.Frag):R2:=λx y H Q=>Zi2 K x y H Q\/Zi3 K x y H Q\/Zka x y H Q
def ZkZ:V->V->V->Hp->(Hp->Prop)->Prop:=λo i v H Q=>∃ p xs k j,o=.ref p/\i=.int k/\H p=some (.lst xs)/\ixN xs.length k=some j/\Q (upd H p (.lst (xs.set j v)))
theorem Zdv (lo hi:Option Int) (n:Nat):(sliceBounds lo hi none n).1=((HT.sIx n 0 lo:Nat):Int)/\(sliceBounds lo hi none n).2.1=((HT.sIx n n hi:Nat):Int)/\(sliceBounds lo hi none n).2.2=1:=by
 refine ⟨?_,?_,rfl⟩
 ·cases lo with
  | none=>simp [sliceBounds,HT.sIx]
  | some i=>
   simp only [sliceBounds,HT.sIx,Option.getD_none,show (1:Int) > 0 by decide,if_true]
   by_cases h:i<0
   ·simp only [h,if_true] <;> omega
   ·simp only [h,if_false] <;> omega
 ·cases hi with
  | none=>simp [sliceBounds,HT.sIx]
  | some i=>
   simp only [sliceBounds,HT.sIx,Option.getD_none,show (1:Int) > 0 by decide,if_true]
   by_cases h:i<0
   ·simp only [h,if_true] <;> omega
   ·simp only [h,if_false] <;> omega
theorem ZcW (its:List Value) (lo hi:Option Int):slicePick its.toArray lo hi none=((its.drop (HT.sIx its.length 0 lo)).take (HT.sIx its.length its.length hi-HT.sIx its.length 0 lo)).toArray:=by
 obtain ⟨h1,h2,h3⟩:=Zdv lo hi its.toArray.size
 unfold slicePick
 rw [h1,h2,h3]
 simp only [sliceRange_one,pick_run,List.size_toArray] <;> rfl
def Zkb (K:PySem.W.Frag):V->Option Int->Option Int->Hp->VK->Prop:=λx lo hi H Q=>∃ a xs,x=.ref a/\SqL K H a xs/\∀ p,H p=none->Q (.ref p) (upd H p (.lst (Zdu xs lo hi)))
theorem ZgU:SlR X (Zkb X.K):=by
 intro pins s σ H x v vl vu lo hi sl Q I rx hs pl pu h
 obtain ⟨a,xs,rfl,hx,q⟩:=h
 cases rx
 obtain ⟨its,r,ht,hz⟩:=I.list hx
 have hlen:=r.length
 refine ⟨"list", _,slot_list_getitem.lookup,ht.isList.typeIs,?_⟩
 refine wpAny_getItem_list_slice ht.isList hs pl pu .none (by simp) ?_ (by rw [List.size_toArray] <;> omega)
 rw [ZcW,<-hlen]
 refine ⟨.ref s.heap.objs.size,_,I.laid (t':=s.toks) (o:=.lst (Zdu xs lo hi)) (λb ob q=>Heap.get?_push_of_some _ q) (Nat.le_refl _) ?_,rfl,q _ (I.hok.fresh (Nat.le_refl _))⟩
 exact ⟨Nat.le_trans (ZdU xs lo hi) hz,_,0,(r.drop (HT.sIx xs.length 0 lo)).take (HT.sIx xs.length xs.length hi-HT.sIx xs.length 0 lo),Heap.get?_push_size _ rfl⟩
def ZhZ:V->Bool
 | .non=>true
 | .bl _=>true
 | .int _=>true
 | .str _=>true
 | _=>false
def eqV:V->V->Bool
 | .non,.non=>true
 | .bl a,.bl b=>a == b
 | .bl a,.int b=>(if a then 1 else 0) == b
 | .int a,.bl b=>a == (if b then 1 else 0)
 | .int a,.int b=>a == b
 | .str a,.str b=>a == b
 | _,_=>false
def eqU (x:V) (u:Value):Bool:=match u with
 | .none=>eqV .non x
 | .bool b=>eqV (.bl b) x
 | .int i _=>eqV (.int i) x
 | .str z _=>eqV (.str z) x
 | _=>false
def inV (x:V) (xs:List V):Bool:=xs.any λy=>eqV y x
def rIn (K:PySem.W.Frag) (neg:Bool):R2:=λx y H Q=>∃ p xs,y=.ref p/\(SqL K H p xs\/SqT K H p xs)/\ZhZ x=true/\xs.all ZhZ=true/\Q (.bl (if neg then !inV x xs else inV x xs)) H
theorem Zdw:Zbw X (.builtin "len") (λxs H Q=>∃ p ys,xs=[.ref p]/\(SqL X.K H p ys\/SqT X.K H p ys)/\Q (.int ys.length) H):=by
 intro pins s σ H xs us Q I r h
 obtain ⟨p,ys,rfl,hq,q⟩:=h
 obtain ⟨u,rfl,rx⟩:=ZfP r
 cases rx
 have hn:=Zd5
 rcases hq with hq | hq
 ·obtain ⟨its,r',pl,hz⟩:=I.list hq
  have hlen:=r'.length
  exact Calls.call_len_list pl.isList (by simp only [List.size_toArray] <;> omega) ⟨.int ys.length,H,I.tok _,⟨s.toks+1,by rw [List.size_toArray,hlen]⟩,q⟩
 ·obtain ⟨its,r',pl,hz⟩:=I.tuple hq
  have hlen:=r'.length
  exact len_tuple pl (by simp only [List.size_toArray] <;> omega) ⟨.int ys.length,H,I.tok _,⟨s.toks+1,by rw [List.size_toArray,hlen]⟩,q⟩
theorem Zdx:Zbw X (.type "list") (λxs H Q=>∃ p ys,xs=[.ref p]/\(SqL X.K H p ys\/SqT X.K H p ys)/\∀ l,H l=none->Q (.ref l) (upd H l (.lst ys))):=by
 intro pins s σ H xs us Q I r h
 obtain ⟨p,ys,rfl,hq,q⟩:=h
 obtain ⟨u,rfl,rx⟩:=ZfP r
 cases rx
 have fin:∀ (its:List Value),Vals ys its->ys.length<=sizeLine->∀ (h':Heap) (c':Nat),(∀ b o',s.heap.get? b=some o'->h'.get? b=some o') ->
   h'.get? s.heap.objs.size=some { cls:=.type "list", dict:=none,data:=.seq its.toArray c',slots:=#[] }->EP X pins σ Q (.ref s.heap.objs.size) { s with heap:=h' }:=λits r' hz h' c' kp e=>
  ⟨.ref s.heap.objs.size,_,I.laid (t':=s.toks) kp (Nat.le_refl _) (show ObjOk X.prog X.w _ h' _ (.lst ys) from ⟨hz,its,c',r',e⟩),rfl,q _ (I.hok.fresh (Nat.le_refl _))⟩
 rcases hq with hq | hq
 ·obtain ⟨its,r',pl,hz⟩:=I.list hq
  have hlen:=r'.length
  obtain ⟨o,ho,hc,n,hd⟩:=pl.isList
  exact call_list_seq p (.inl rfl) ho hc hd (λh' c' kp e=>fin its r' hz h' c' kp e) (by simp only [List.size_toArray] <;> omega)
 ·obtain ⟨its,r',pl,hz⟩:=I.tuple hq
  have hlen:=r'.length
  obtain ⟨o,ho,hc,n,hd⟩:=pl
  exact call_list_seq p (.inr rfl) ho hc hd (λh' c' kp e=>fin its r' hz h' c' kp e) (by simp only [List.size_toArray] <;> omega)
def tyV (K:PySem.W.Frag) (T:String) (x:V) (H:Hp):Prop:=match x with
 | .str _=>T = "str"
 | .int _=>T = "int"
 | .ref p=>(T = "list" /\ ∃ xs,SqL K H p xs)\/(T = "tuple" /\ ∃ o,K.lookup p=some o/\o.cls=.type "tuple" /\ o.dict=none) \/
   (T = "dict" /\ ((∃ kvs,H p=some (.dK kvs))\/∃ kvs,H p=some (.dT kvs)))\/(T = "set" /\ ∃ S n,H p=some (.set S n))
 | _=>False
theorem Zh0 {pins:List (Addr×Obj)} {σ:St} {H:Hp} {s:Shared} {T:String} {x:V} {v:Value} (I:Inv X pins σ H s) (r:RelV x v) (ty:tyV X.K T x H) :
  s.TypeIs v T/\∀ a,v=.ref a->∃ ob,s.heap.get? a=some ob/\ob.dict=none:=by
 cases x with
 | str z=>
  obtain ⟨t,rfl⟩:=r
  cases (show T = "str" from ty)
  exact ⟨typeIs_str s z t,λ_ e=>nomatch e⟩
 | int i=>
  obtain ⟨t,rfl⟩:=r
  cases (show T = "int" from ty)
  exact ⟨typeIs_int s i t,λ_ e=>nomatch e⟩
 | ref p=>
  cases r
  rcases ty with ⟨rfl,xs,hq⟩ | ⟨rfl,o,hk,hc,hd⟩ | ⟨rfl,hk⟩ | ⟨rfl,S,n,hk⟩
  ·obtain ⟨its,_,pl,_⟩:=I.list hq
   refine ⟨pl.isList.typeIs,λa e=>?_⟩
   cases e
   obtain ⟨o,n,e,c,hd,_⟩:=pl
   exact ⟨o,e,hd⟩
  ·refine ⟨⟨o,I.kIn p o hk,hc⟩,λa e=>?_⟩
   cases e
   exact ⟨o,I.kIn _ o hk,hd⟩
  ·have z:∃ o,s.heap.get? p=some o/\o.ExactDict:=by
    rcases hk with ⟨kvs,hk⟩ | ⟨kvs,hk⟩
    ·obtain ⟨_,_,_,_,o,_,_,e,ex,_⟩:=I.hok p _ hk
     exact ⟨o,e,ex⟩
    ·obtain ⟨_,_,_,_,o,_,_,e,ex,_⟩:=I.hok p _ hk
     exact ⟨o,e,ex⟩
   obtain ⟨o,e,ex⟩:=z
   refine ⟨⟨o,e,ex.1⟩,λa e2=>?_⟩
   cases e2
   exact ⟨o,e,ex.2.1⟩
  ·obtain ⟨o,_,_,_,e,ex,_⟩:=I.hok p _ hk
   refine ⟨⟨o,e,ex.1⟩,λa e2=>?_⟩
   cases e2
   exact ⟨o,e,ex.2.1⟩
 | _=>exact False.elim ty
def ZlZ (K:PySem.W.Frag) (T:String) (r:V->List V->Hp->VK->Prop) (to:TE):TE:=λσ H Q=>to σ H λx H1=>tyV K T x H1/\r x [] H1 Q
def tBM (K:PySem.W.Frag) (T:String) (r:V->List V->Hp->VK->Prop) (to:TE) (t:TA):TE:=λσ H Q=>to σ H λx H1=>tyV K T x H1/\t σ H1 λxs H2=>r x xs H2 Q
variable {o e:Expr} {es:List Expr} {to:TE} {t:TA} {name:Str} {apos cpos:Pos} {T id:String} {r:V->List V->Hp->VK->Prop}
theorem ZcX (pa:PlainAttrs T) (slot:Slot T name id) (hty:typeOf (.builtin id)=pure (.type "method_descriptor")) (hm:MtR X id r) (ho:PE X o to) (ha:PA X (e::es) t)
  (hbase:attributeBase o name X.env (eval o X.env)=eval o X.env:=by rfl)
  (hfew:((backTo cpos (starEach (e::es) X.env)).all (λx=>!x.1) && (backToKw cpos (keywordEach [] X.env)).all (λx=>x.1.isSome)
   && decide ((e::es).length+([]:List Keyword).length+(if ([]:List Keyword).isEmpty then 0 else 1)<30))=true:=by rfl)
  (hline:(apos.endLine == cpos.line)=true:=by rfl) (hs:starEach (e::es) X.env=(false,eval e X.env)::starEach es X.env:=by rfl) (hplain:(backTo cpos (starEach es X.env)).any (·.1)=false:=by rfl) :
  PE X (.Call (.Attribute o name apos) (e::es) [] cpos) (tBM X.K T r to t):=by
 intro pins s σ H Q I h
 refine wpAny_Call_method_late hbase hfew hline rfl (thn (ho pins s σ H _ I h) λv s1 ⟨x,H1,I1,r1,ty,q1⟩=>?_)
 obtain ⟨h1,h2⟩:=Zh0 I1 r1 ty
 refine ⟨T,id,pa,slot,hty,h1,h2,?_⟩
 have hA:=ha cpos pins s1 σ H1 _ I1 q1
 rw [hs] at hA ⊢
 refine Calls.callWith_builtin (by show (false || (backTo cpos (starEach es X.env)).any (·.1))=false;rw [hplain] <;> rfl) (Calls.evalArgs_plain ?_)
 exact thn hA λus s2 ⟨vs,H2,I2,r2,q2⟩=>hm pins s2 σ H2 x vs v us Q I2 r1 r2 q2
/- xs.append(e),list.index on a module's tuple .. are MtR facts of 06m -/
end
end L2
namespace L2
open PySem PySem.Spec PyProof.Rows
def MtM (X:Cx) (id:String) (r:V->List V->Hp->VK->Prop):Prop:=
 ∀ (pins:List (Addr×Obj)) (s:Shared) (σ:St) (H:Hp) (x:V) (xs:List V) (v:Value) (us:List Value) (Q:VK),Inv X pins σ H s->RelV x v->Vals xs us->r x xs H Q ->
  wpAny (model X.prog X.w) X.A (call (.builtin id) (v::us)) (EP X pins σ Q) X.xe s
theorem Vals.one:∀ {x:V} {us:List Value},Vals [x] us->∃ u,us=[u]/\RelV x u
 | _,_,.cons r .nil=>⟨_,rfl,r⟩
theorem Vals.two:∀ {x y:V} {us:List Value},Vals [x,y] us->∃ u v,us=[u,v]/\RelV x u/\RelV y v
 | _,_,_,.cons r (.cons q .nil)=>⟨_,_,rfl,r,q⟩
section
variable {X:Cx} {pins:List (Addr×Obj)} {σ:St} {H:Hp} {s:Shared} {l b:Addr} {xs ys zs:List V}
theorem Inv.lset {its its':List Value} {n:Nat} {f:Array Value->Array Value} {t':Nat} (I:Inv X pins σ H s) (hH:H l=some (.lst xs))
  (e:s.heap.get? l=some { cls:=.type "list", data:=.seq its.toArray n }) (hf:f its.toArray=its'.toArray) (hv:Vals ys its') (hz:ys.length<=sizeLine) :
  Inv X pins σ (upd H l (.lst ys)) { s with heap:=s.heap.update l (Obj.mapSeq f),toks:=t' }:=by
 have q:=PySem.IsL.update e f
 rw [hf] at q
 refine I.write (x:=l) (e:=l) (by rw [hH];exact trivial) (.inl rfl) (λb' u hb hu=>(Heap.get?_update_other s.heap (Obj.mapSeq f) (Ne.symm hb)).trans hu) ⟨_,q⟩ ?_
 exact ⟨hz,its',_,hv,q⟩
theorem Inv.lnew {its:List Value} {t':Nat} (I:Inv X pins σ H s) (hv:Vals ys its) (hz:ys.length<=sizeLine) :
  Inv X pins σ (upd H s.heap.objs.size (.lst ys)) { s with heap:=s.heap.push { cls:=.type "list", data:=.seq its.toArray },toks:=t' }:=
 I.laid (λ_ _ q=>Heap.get?_push_of_some _ q) (Nat.le_refl _) ⟨hz,its,0,hv,Heap.get?_push_size _ rfl⟩
theorem Inv.fresh (I:Inv X pins σ H s):H s.heap.objs.size=none:=I.hok.fresh (Nat.le_refl _)
theorem Inv.lstM (I:Inv X pins σ H s) (hH:H l=some (.lst xs)):xs.length<=sizeLine/\∃ (its:List Value) (n:Nat),Vals xs its/\xs.length=its.length/\s.heap.get? l=some { cls:=.type "list", data:=.seq its.toArray n }:=by
 obtain ⟨z,its,n,r,e⟩:=I.hok l _ hH
 exact ⟨z,its,n,r,r.length,e⟩
end
section
variable {X:Cx}
def ZgV:V->List V->Hp->VK->Prop:=λx vs H Q=>∃ l xs y,x=.ref l/\vs=[y]/\H l=some (.lst xs)/\xs.length<sizeLine/\Q .non (upd H l (.lst (xs++[y])))
theorem Zbf:MtM X "list.append" ZgV:=by
 intro pins s σ H x vs v us Q I rx rv h
 obtain ⟨l,xs,y,rfl,rfl,hH,hz,q⟩:=h
 cases rx
 obtain ⟨u,rfl,ru⟩:=rv.one
 obtain ⟨z,its,n,r,hl,e⟩:=I.lstM hH
 refine call_meets F.slot_list_append ⟨_,e,rfl⟩ F.entry_list_append (F.args_list_append_2 _ _) (PySem.list_append l its.toArray n u (by rw [List.size_toArray];omega)) ⟨e,?_⟩
 refine ⟨.non,_,I.lset (its':=its++[u]) hH e (by simp) (r.append (.cons ru .nil)) ?_,rfl,q⟩
 rw [List.length_append,List.length_singleton]
 omega
def Zjs:V->List V->Hp->VK->Prop:=λx vs H Q=>∃ l b xs zs,x=.ref l/\vs=[.ref b]/\H l=some (.lst xs)/\H b=some (.lst zs)/\xs.length+zs.length<=sizeLine/\Q .non (upd H l (.lst (xs++zs)))
def Zl0:V->List V->Hp->VK->Prop:=λx vs H Q=>∃ l xs y,x=.ref l/\vs=[]/\H l=some (.lst xs)/\xs[xs.length-1]?=some y/\Q y (upd H l (.lst xs.dropLast))
def Zkc:V->List V->Hp->VK->Prop:=λx vs H Q=>∃ l xs i k y,x=.ref l/\vs=[.int i]/\H l=some (.lst xs)/\-(2 ^ 63)<=i/\i<2 ^ 63/\seqIndex? i xs.length=some k/\xs[k]?=some y/\Q y (upd H l (.lst (xs.eraseIdx k)))
def Zi4:V->List V->Hp->VK->Prop:=λx vs H Q=>∃ l xs,x=.ref l/\vs=[]/\H l=some (.lst xs)/\Q .non (upd H l (.lst xs.reverse))
def Zkd:V->List V->Hp->VK->Prop:=λx vs H Q=>∃ l xs,x=.ref l/\vs=[]/\H l=some (.lst xs)/\Q .non (upd H l (.lst []))
def Zk0:R2:=λx y H Q=>∃ l b xs zs,x=.ref l/\y=.ref b/\H l=some (.lst xs)/\H b=some (.lst zs)/\xs.length+zs.length<=sizeLine/\∀ p,H p=none->Q (.ref p) (upd H p (.lst (xs++zs)))
theorem ZeU:OpR X (binaryOp .Add) Zk0:=by
 intro pins s σ H x y v u Q I rx ry h
 obtain ⟨l,b,xs,zs,rfl,rfl,hH,hB,hz,q⟩:=h
 cases rx
 cases ry
 obtain ⟨z,its,n,r,hl,e⟩:=I.lstM hH
 obtain ⟨z2,its2,n2,r2,hl2,e2⟩:=I.lstM hB
 refine PySem.P.add_list e e2 ?_ (by rw [List.size_toArray,List.size_toArray];omega)
 have ea:its.toArray++its2.toArray=(its++its2).toArray:=by simp
 rw [ea]
 exact ⟨.ref _,_,I.lnew (t':=s.toks) (r.append r2) (by rw [List.length_append];omega),rfl,q _ I.fresh⟩
def Zl1:R2:=λx y H Q=>∃ l k xs,x=.ref l/\y=.int k/\H l=some (.lst xs)/\-(2 ^ 63)<=k/\k<2 ^ 63/\xs.length * k.toNat<=sizeLine /\
 ∀ p,H p=none->Q (.ref p) (upd H p (.lst (List.replicate k.toNat xs).flatten))
end
section
variable {prog:Program} {w:World} {A:Around} {E:Value->Shared->Prop} {s:Shared}
end
section
variable {X:Cx}
end
end L2
namespace Att
open PySem PySem.W PySem.Calls PyProof.Rows
theorem Zcq {P:Params} {h:Heap}:∀ (ns:List Int) (vs:List Value),WellAll P h vs (ns.map WData.int)->IntsAre vs ns:=by
 intro ns
 induction ns with
 | nil=>
  intro vs w
  rw [List.map_nil] at w
  cases w
  exact .nil
 | cons n ns ih=>
  intro vs w
  rw [List.map_cons] at w
  cases w with
  | cons a b=>
   cases a
   exact .cons _ _ (ih _ b)
theorem ZeV {l:OpenLaw} {n:Nat} (hn:l.most=some n) {P:Params} {h:Heap} {args:List WData} {vals:List Value}
  (hpre:l.row.toRowW.claim.pre args=true) (hwl:WellAll P h vals args) :
  ∃ a vs ns,vals=[Value.ref a]/\args=[WData.list (ns.map WData.int)]/\h.get? a=some { cls:=.type "list", data:=.seq vs.toArray }/\IntsAre vs ns/\ns.length<=n:=by
 have hsh:WShape.hasAll [] args [.list .int]=true:=(pre_splitW hpre).1
 have hc:l.pre.holds [] { args:=args }=true:=(pre_splitW hpre).2
 obtain ⟨d,r,rfl,h1,h2⟩:=hasAllW_cons hsh
 obtain rfl:=hasAllW_nil h2
 obtain ⟨xs,rfl,h3⟩:=hasW_list h1
 obtain ⟨ns,rfl⟩:=items_int h3
 have hlen:ns.length<=n:=by
  unfold OpenLaw.pre at hc
  have h4:(WTm.not (.lt (.lit (.int (n:Int))) (.len (.arg 0)))).holds [] { args:=[.list (ns.map .int)] }=true:=by
   have h4:=(holds_andW hc).1
   rw [hn] at h4
   exact h4
  have h5:=condW_of h4 (w_not (w_lt w_lit (w_len_list (w_arg rfl))))
  rw [List.length_map] at h5
  refine Nat.le_of_not_lt λq=>?_
  have q':(n:Int)<((ns.length:Nat):Int):=by omega
  first
   | (rw [decide_eq_true q'] at h5;exact absurd h5 (by decide))
   | (simp at h5;omega)
 cases hwl with
 | cons w1 w2=>
  cases w2
  cases w1 with
  | list ho hall=>exact ⟨_,_,ns,rfl,rfl,ho,Zcq ns _ hall,hlen⟩
theorem ZeW (l:OpenLaw) (args:List WData):l.row.toRowW.claim.post args (.bool true) args=true:=
 postW_of (r:=l.row.toRowW) (X:=(true == true))
  (show WShape.has [] (.bool true) .bool=true by first | rfl | decide | simp [WShape.has,WShape.arms,WShape.armsAll])
  (show (WTm.eq .res (.lit (.bool true))).value [] { args:=args,res:=some (.bool true),after:=args }=some (.bool (true == true)) from w_eq_bool (w_res rfl) w_lit) rfl
theorem attach_call {l:OpenLaw} {n:Nat} {q:Program} {loose:List Str} {XP:(Str->Option Value)->Heap->Prop} {YP:World->Heap->Prop} {d:DefRec}
  (hn:l.most=some n) (hdf:d.params.defaults=[])
  (call:∀ (w:World) (s₀ s₁:Shared) (mg mb:Str->Option Value) (fa:Addr) (o:Obj) (pm cd doc:Value) (a:Addr) (vs:List Value) (ns:List Int),
   Ground q loose [] XP w s₀ mg mb s₁.heap->YP w s₁.heap ->
   s₁.heap.get? fa=some o->o.data=.func (docDef d.name d.params d.body d.scope pm cd doc)->s₁.heap.CodeRec cd d.name->mg d.name=some (.ref fa) ->
   s₁.heap.get? a=some { cls:=.type "list", data:=.seq vs.toArray }->IntsAre vs ns->ns.length<=n->s₁.gens=#[] ->
   codeAny (model l.prog w) callerA (.call (.ref fa) ⟨[.ref a],[]⟩) (λr s'=>r=.ok (.ret (.bool true))/\OldK s₁.heap s'.heap/\s'.os=s₁.os/\AllBare s'.gens) s₁) :
  WalkO q loose XP YP l.row.toRowW d [] (λf vs=>PySem.call f vs):=by
 intro w s₀ s₁ mg mb G Y fa o pm cd doc dV kV ho hd hcd hD hmg hg args vals as hpre hlay hrd hwl hlo
 obtain rfl:dV=.none:=Dflts.none hD hdf
 obtain rfl:kV=.none:=Dflts.noKw hD
 obtain ⟨a,vs,ns,rfl,rfl,hobj,hints,hlen⟩:=ZeV hn hpre hwl
 refine enter_call (codeAny_mono (call w s₀ s₁ mg mb fa o pm cd doc a vs ns G Y ho (fd_plain hd) hcd hmg hobj hints hlen hg) λr s' hq=>?_)
 obtain ⟨rfl,h2,h3,h4⟩:=hq
 exact ⟨.inl ⟨.bool true,.bool true,[],rfl,λ_=>rfl,.bool true,ZeW l _,λ_=>⟨List.Pairwise.nil,λ_ hm=>(nomatch hm)⟩⟩,h2,h3,h4⟩
section
variable {prog:Program} {w:World} {A:Around} {E:Value->Shared->Prop} {s:Shared} {K:Frag}
def Zke (h:Heap):Heap:={ h with objs:=#[] }
def Zkf (h:Heap) (L d:Addr):List (Addr×Obj):=(List.range h.objs.size).filterMap λa=>if a=L\/a=d then none else (h.get? a).map λo=>(a,o)
end
end Att
namespace L2
open PySem PySem.Spec PyProof.Rows
theorem Zdy:∀ {vs:List Value} {ns:List Int},IntsAre vs ns->Vals (ns.map V.int) vs
 | _,_,.nil=>.nil
 | _,_,.cons n t h=>.cons ⟨t,rfl⟩ (Zdy h)
def Zjt (H:Hp):Prop:=∀ b,H b=none\/∃ o xs,H b=some (.frz o (.lst xs))
theorem ZfQ {P:Program} {w:World} {K:PySem.W.Frag} {mg mb:Str->Option Value} {CX:CXT} {k:Nat} {fa a:Addr} {fd:FuncData} {x:Str} {sp:Sp} {s₁:Shared} {vs:List Value} {ns:List Int}
  (KX:K.In s₁.heap) (hns:s₁.heap.Ns mainGlobals mg) (hb:s₁.heap.Ns builtinsNs mb) (hbb:∀ x:Str,x ≠ "__name__" -> mb x=bootBuiltins x) (hlim:s₁.heap.NoLimit) (hg:s₁.gens=#[])
  (ha:s₁.heap.get? a=some { cls:=.type "list", data:=.seq vs.toArray }) (hi:IntsAre vs ns) (hl:ns.length<=sizeLine) (hr:Room k callerA)
  (F:∀ base:Heap,K.In base->base.Ns mainGlobals mg->ZaY P w K mg base CX k fa fd [x] sp) (hbind:∀ (s:Shared) (u:Value),BindsTo s fd ⟨[u],[]⟩ [(x,u)])
  (hsp:∀ H:Hp,Zjt H->SqL K H a (ns.map V.int)->sp [.ref a] H (λv _=>v=.bl true) λ_ _ _=>False)
  (hCX:∀ H e s',CX [] H s₁ (λ_ _ _=>False) e s'->False) :
  codeAny (model P w) callerA (.call (.ref fa) ⟨[.ref a],[]⟩) (λr s'=>r=.ok (.ret (.bool true))/\OldK s₁.heap s'.heap/\s'.os=s₁.os/\AllBare s'.gens) s₁:=by
 have rv:=Zdy hi
 have lenV:=hi.length
 have core:∀ H:Hp,Zjt H->SqL K H a (ns.map V.int)->HOk P w H s₁.heap->(∀ b,H b≠none->b=a)->(H a≠none->K.lookup a=none) ->
   codeAny (model P w) callerA (.call (.ref fa) ⟨[.ref a],[]⟩) (λr s'=>r=.ok (.ret (.bool true))/\OldK s₁.heap s'.heap/\s'.os=s₁.os/\AllBare s'.gens) s₁:=by
  intro H hO hS hok hA hK
  have base_of:∀ {b:Addr} {o:Obj},s₁.heap.get? b=some o->H b=none->(ZfK s₁.heap H).get? b=some o:=λe n=>ZfL e n
  have noA:∀ {b:Addr} {o:Obj} {es:Array DictEntry} {ep:Nat},s₁.heap.get? b=some o->o.data=.dict es ep->H b=none:=λ{b o es ep} e d=>by
   cases q:H b with
   | none=>rfl
   | some u=>
    have e':b=a:=hA b (by rw [q];simp)
    subst e'
    rw [ha] at e;cases e
    have d':Data.seq vs.toArray _=Data.dict es ep:=d
    cases d'
  have nsK:∀ {b:Addr} {m:Str->Option Value},s₁.heap.Ns b m->(ZfK s₁.heap H).Ns b m:=λ{b m} ⟨o,es,ep,e,d,r⟩=>⟨o,es,ep,base_of e (noA e d),d,r⟩
  have hKb:K.In (ZfK s₁.heap H):=λb o e=>base_of (KX b o e) (by
   cases q:H b with
   | none=>rfl
   | some u=>
    have e':b=a:=hA b (by rw [q];simp)
    subst e'
    rw [hK (by rw [q];simp)] at e;cases e)
  have hM:Mod K mg (ZfK s₁.heap H):=⟨hKb,nsK hns,⟨mb,nsK hb,hbb⟩,let ⟨mc,h1,h2⟩:=hlim;⟨mc,nsK h1,h2⟩⟩
  have e0:Zi1 P w K mg (ZfK s₁.heap H) callerA [] s₁ H:=⟨rfl,hM,λb o e=>ZgH e,Nat.le_of_eq (ZeD _ _),trivial,λb hb=>absurd (show b∈([]:List Addr) from hb) (by simp),hok,.of_eq hg⟩
  refine codeAny_mono ((F _ hKb (nsK hns)).run callerA [] s₁ H ⟨[.ref a],[]⟩ [.ref a] [.ref a] _ _ hr e0 (hbind s₁ (.ref a)) (.cons rfl .nil) (hsp H hO hS)) λr s' h=>?_
  cases r with
  | error e=>exact (hCX H e s' h).elim
  | ok fl=>
   cases fl with
   | next=>exact False.elim h
   | brk=>exact False.elim h
   | cont=>exact False.elim h
   | ret u=>
    obtain ⟨v,H',os,bare,un,hok',r',q⟩:=h
    have q':v=.bl true:=q
    subst q'
    obtain rfl:u=Value.bool true:=r'
    refine ⟨rfl,OldK.of_keep λb o e=>?_,os,bare⟩
    cases q:H b with
    | none=>exact un.keep b o e q (by intro z;exact absurd (show b∈([]:List Addr) from z) (by simp)) (by simp)
    | some u=>
     rcases hO b with z | ⟨ob,xs,z⟩
     ·rw [q] at z;cases z
     ·have z2:=un.frzs b ob _ z
      obtain ⟨e1,_⟩:=hok b _ z
      obtain ⟨e2,_⟩:=hok' b _ z2
      rw [e] at e1;cases e1
      exact e2
 cases hk:K.lookup a with
 | some o=>
  have e:=KX a o hk
  rw [ha] at e
  cases e
  refine core (λ_=>none) (λ_=>.inl rfl) (.inr ⟨_,vs.toArray,_,hk,rfl,rfl,rfl,by rw [List.size_toArray,lenV];exact hl,by simpa using rv⟩) (λb u z=>by have z':(none:Option HO)=some u:=z;cases z') (λb z=>absurd rfl z) λz=>absurd rfl z
 | none=>
  refine core (λb=>if b=a then some (.frz { cls:=.type "list", data:=.seq vs.toArray } (.lst (ns.map V.int))) else none) (λb=>?_) (.inl (.inr ⟨{ cls:=.type "list", data:=.seq vs.toArray },if_pos rfl⟩)) (λb u z=>?_) (λb z=>?_) λ_=>hk
  ·by_cases hb:b=a
   ·exact .inr ⟨_,_,if_pos hb⟩
   ·exact .inl (if_neg hb)
  ·by_cases hb:b=a
   ·have z':=(if_pos hb).symm.trans z
    cases z'
    subst hb
    exact ⟨ha,by rw [List.length_map];exact hl,vs,_,rv,ha⟩
   ·have z':=(if_neg hb).symm.trans z
    cases z'
  ·by_cases hb:b=a
   ·exact hb
   ·exact absurd (if_neg hb) z
end L2
namespace L2
open PySem PySem.Spec PyProof.Rows
abbrev KOf {K:PySem.W.Frag} {h:Heap} (_:K.In h):PySem.W.Frag:=K
theorem walk_of {l:PySem.W.OpenLaw} {n k:Nat} {q:Program} {loose:List Str} {XP:(Str->Option Value)->Heap->Prop} {YP:World->Heap->Prop} {d:DefRec} {K:Params->PySem.W.Frag} {CX:World->CXT} {sp:World->Sp} {x:Str}
  (hn:l.most=some n) (hn2:n<=sizeLine) (hdf:d.params.defaults=[]) (hr:Room k callerA)
  (hY:∀ (w:World) (h:Heap),YP w h->(K w.params).In h)
  (F:∀ (w:World) (mg:Str->Option Value) (fa:Addr) (h:Heap),(K w.params).In h->h.Ns mainGlobals mg->mg d.name=some (.ref fa) ->
   ∃ fd:FuncData,(∀ (s:Shared) (u:Value),BindsTo s fd ⟨[u],[]⟩ [(x,u)]) /\
    ∀ base:Heap,(K w.params).In base->base.Ns mainGlobals mg->ZaY l.prog w (K w.params) mg base (CX w) k fa fd [x] (sp w))
  (hsp:∀ (w:World) (H:Hp) (a:Addr) (ns:List Int),ns.length<=n->Zjt H->SqL (K w.params) H a (ns.map V.int)->sp w [.ref a] H (λv _=>v=.bl true) λ_ _ _=>False)
  (hCX:∀ (w:World) (H:Hp) (s:Shared) (e:Value) (s':Shared),CX w [] H s (λ_ _ _=>False) e s'->False) :
  PySem.W.WalkO q loose XP YP l.row.toRowW d [] (λf vs=>PySem.call f vs):=by
 refine Att.attach_call hn hdf λw s₀ s₁ mg mb fa o pm cd doc a vs ns G Y ho hd hcd hmg hobj hints hlen hg=>?_
 have KX:=hY w _ Y
 obtain ⟨fd,hb,hF⟩:=F w mg fa _ KX G.T.g hmg
 exact ZfQ KX G.T.g G.T.b G.T.builtins G.T.nolimit hg hobj hints (Nat.le_trans hlen hn2) hr hF hb (λH hO hS=>hsp w H a ns hlen hO hS) λH e s'=>hCX w H s₁ e s'
end L2
/- THE LAST THEOREM (shape;LID,My.* are yours):
  My.Adr: a structure of the addresses that your layer names (classes,functions);My.Txt K t: a structure (Prop) of the equations over K;
  My.txt_mk:{K} {implicit addresses ..} (e1:nsIn K mainGlobals "law" = some (some (.ref f))) (e2:K.lookup f=some ⟨oc,od,.func (fnOf "law" "law" params body scope dV kV doc pm an cdv ct),sl⟩) (e3:codeIn K cdv "law" = true) ..:∃ t,My.Txt K t
set_option maxRecDepth 100000 in
set_option maxHeartbeats 0 in
theorem PySem.Challenge.cw_LID_holds:PySem.Challenge.rw_LID.Holds:=by
 w_on;o_law;k_head;(case hw=>w_witness2)
 k_fill
 refine L2.walk_of (l:=PySem.Challenge.rw_LID) (n:=63) (k:=40) (x := "script") (CX:=λw=>..) (sp:=λ_=>My.sp_law) rfl (by decide) rfl ⟨rfl,by decide,by decide⟩ (λw h Y=>PySem.W.kIn_of Y) ?F ?S ?C
 case F=>
  intro w mg fa h KX G hmg
  have T:∃ t,My.Txt (L2.KOf KX) t:=by
   dsimp only [L2.KOf]                          -- K must stand as «<heap const> w.params» for k_is
   refine' My.txt_mk ?e1 ?e2 ?e3 ..
   (case e1=>PySem.W.k_is)                    -- in the order: a name->its address->its object->its parts
   (case e2=>PySem.W.k_is)
   ..
  obtain ⟨t,T⟩:=T
  have e0:=hmg.symm.trans (PySem.W.mg_of KX G T.law)
  cases e0                                       -- fa is the law's own address
  exact ⟨_,λs u=>.of_eq rfl,λbase kb nb=>My.law_fn T kb nb⟩     -- if «.of_eq rfl» comes too early: refine' ⟨_,?b,λbase kb nb=>My.law_fn T kb nb⟩;exact λs u=>.of_eq rfl
 case S=>exact λw H a ns hl hO hS=>..
 case C=>exact ..
(the tactic k_is has no namespace: write k_is) -/
namespace L2
open PySem PySem.Spec PyProof.Rows
def Zju (s:Stmt) (j:Nat):Stmt:=match s with
 | .ClassDef _ _ _ body _ _ _ _ _ _ _=>body.getD j (.Pass ⟨0,0,0,0⟩)
 | _=>.Pass ⟨0,0,0,0⟩
def Zaz (s:Stmt):Arguments:=match s with
 | .FunctionDef _ a _ _ _ _ _ _ _ _=>a
 | _=>{ posonlyargs:=[],args:=[],vararg:=none,kwonlyargs:=[],kw_defaults:=[],kwarg:=none,defaults:=[] }
def Zav (s:Stmt):List Stmt:=match s with
 | .FunctionDef _ _ b _ _ _ _ _ _ _=>b
 | _=>[]
def Zaf (s:Stmt):Scope:=match s with
 | .FunctionDef _ _ _ _ _ _ sc _ _ _=>sc
 | _=>{ kind:=.function,names:=[],isGenerator:=false,isCoroutine:=false }
abbrev CX0:CXT:=λ_ _ _ _ _ _=>False
abbrev E0:XK:=λ_ _ _=>False
theorem Zba {X:Cx}:Zcp CX0 X E0:=λ_ _ _ _ _ _ _ h=>h.elim
structure Fun (K:PySem.W.Frag) (x qual:Str) (st:Stmt) (f:Addr) (fd:FuncData):Prop where
 ex:∃ (oc:Value) (od:Option Addr) (kV doc pm:Value) (an:Option Addr) (cdv ct:Value) (osl:Array (Option Value)),
  fd=PySem.W.fnOf x qual (Zaz st) (Zav st) (Zaf st) .none kV doc pm an cdv ct/\K.lookup f=some ⟨oc,od,.func fd,osl⟩/\PySem.W.codeIn K cdv qual=true
 kp:PySem.W.keepIn K (.ref f)=true
section
variable {P:Program} {w:World} {K:PySem.W.Frag} {mg:Str->Option Value} {base:Heap}
theorem Fun.ok {x qual:Str} {st:Stmt} {f:Addr} {fd:FuncData} {N ps:List Str} {k:Nat} {sp:Sp} (F:Fun K x qual st f fd) (S:ZaC N ps (Zaf st)) (len:∀ vs H Q E,sp vs H Q E->vs.length=ps.length)
  (hbody:∀ (cdv:Value) (A:Around) (outer:List Env) (s:Shared) (H:Hp) (vs:List V) (Q:VK) (E:XK),Room k (A.deeper (envOfC qual (Zaf st) s.heap.objs.size f cdv))->sp vs H Q E ->
   ∃ t,PSs (ZeA CX0 P w K mg base N qual (Zaf st) f cdv A outer s H E).nox (Zav st) t/\t { nx:=λ_ H'=>Q .non H',rt:=Q } (ZcD N vs) H):ZaY P w K mg base CX0 (k+1) f fd ps sp:=by
 obtain ⟨oc,od,kV,doc,pm,an,cdv,ct,osl,rfl,lk,hcd⟩:=F.ex
 refine ZgQ lk hcd S len λA outer s H vs Q E hr hsp=>?_
 obtain ⟨t,h,q⟩:=hbody cdv A outer s H vs Q E hr hsp
 exact ⟨t,h.nox,q⟩
theorem Fun.binds {x qual:Str} {st:Stmt} {f:Addr} {fd:FuncData} {ps:List Str} (F:Fun K x qual st f fd)
  (h:∀ (kV doc pm:Value) (an:Option Addr) (cdv ct:Value) (us:List Value),us.length=ps.length->bindArgs (PySem.W.fnOf x qual (Zaz st) (Zav st) (Zaf st) .none kV doc pm an cdv ct) ⟨us,[]⟩=pure (ps.zip us)):Binds K fd ps []:=by
 obtain ⟨oc,od,kV,doc,pm,an,cdv,ct,osl,rfl,lk,hcd⟩:=F.ex
 exact .all (h kV doc pm an cdv ct)
theorem ZaT {x qual:Str} {st:Stmt} {f:Addr} {oc:Value} {od an:Option Addr} {osl:Array (Option Value)} {kV doc pm cdv ct:Value} (l:K.lookup f=some ⟨oc,od,.func (PySem.W.fnOf x qual (Zaz st) (Zav st) (Zaf st) .none kV doc pm an cdv ct),osl⟩)
  (c:PySem.W.codeIn K cdv qual=true) (k:PySem.W.keepIn K (.ref f)=true):Fun K x qual st f (PySem.W.fnOf x qual (Zaz st) (Zav st) (Zaf st) .none kV doc pm an cdv ct):=⟨⟨oc,od,kV,doc,pm,an,cdv,ct,osl,rfl,l,c⟩,k⟩
end
section
variable {X:Cx}
theorem pv (i:Nat) {x:Str} {pos:Pos} (hN:X.N[i]?=some x:=by rfl) (hv:Vis X.env.scope x:=by first | exact Or.inl rfl | exact Or.inr (Or.inl rfl) | exact Or.inr (Or.inr rfl)) (hd:(x == ("__debug__" : Str))=false:=by decide)
  (hcd:(x == ("__classdict__" : Str))=false:=by decide):PE X (.Name x pos) (ZjZ i):=ZhM hN hv hd hcd
end
theorem Za5 {A B:Prop} (h:B):if false=true then A else B:=by
 rw [if_neg Bool.false_ne_true]
 exact h
theorem Za6 {A B:Prop} (h:A):if true=true then A else B:=by
 rw [if_pos rfl]
 exact h
theorem Zcr {c A B:Prop} [Decidable c] (h1:c->A) (h2:¬ c->B):if c then A else B:=by
 by_cases h:c
 ·rw [if_pos h]
  exact h1 h
 ·rw [if_neg h]
  exact h2 h
def Same (H H':Hp):Prop:=∀ b o,H b=some o->H' b=some o
theorem Same.refl (H:Hp):Same H H:=λ_ _ h=>h
theorem Same.trans {H H1 H2:Hp} (a:Same H H1) (b:Same H1 H2):Same H H2:=λc o h=>b c o (a c o h)
theorem Same.free {H H':Hp} (e:Same H H') {l:Addr} (h:H' l=Option.none):H l=Option.none:=by
 cases q:H l with
 | none=>rfl
 | some o=>
  rw [e l o q] at h
  cases h
theorem Same.seq {K:PySem.W.Frag} {H H':Hp} {a:Addr} {xs:List V} (e:Same H H') (h:SqL K H a xs):SqL K H' a xs:=by
 rcases h with (h | ⟨o,h⟩) | h
 ·exact .inl (.inl (e _ _ h))
 ·exact .inl (.inr ⟨o,e _ _ h⟩)
 ·exact .inr h
end L2
namespace L2
open PySem PySem.Spec PyProof.Rows
section
variable {prog:Program} {w:World} {A:Around} {R:Result->Shared->Prop} {s:Shared}
theorem Zdz {elt target iter:Expr} {ifs:List Expr} {scope:Scope} {pos:Pos} {it acc:Value} {env:Env} (I:Nat->Shared->Prop)
  (turn:∀ n s,I n s->wpAny (model prog w) A (pyNext it) (λr s1=>match r with
   | none=>R (.ok .next) s1
   | some v=>wpAny (model prog w) A (letOwnedTupleGo target it v) (λ_ s1'=>wpAny (model prog w) A (assign target env v) (λ_ s2=>
     wpAny (model prog w) A (forIn ifs true λc r=>if r=true then do let ok <- isTrue c env (eval c env);pure (ForInStep.yield ok) else pure (ForInStep.yield r)) (λok s3=>
      if ok=true then wpAny (model prog w) A (eval elt env) (λx s4=>
       wpAny (model prog w) A (call (.builtin "list.append") [acc,x]) (λ_ s5=>∃ m,m<n/\I m s5) (λ_ _=>False) s4) (λ_ _=>False) s3
      else ∃ m,m<n/\I m s3) (λ_ _=>False) s2) (λ_ _=>False) s1') (λ_ _=>False) s1) (λ_ _=>False) s)
  (n:Nat) (h:I n s) :
  codeAny (model prog w) A (.compLoop (.ListComp elt [⟨target,iter,ifs,0⟩] scope pos) 0 it acc env) R s:=by
 have ff:∀ {E:Value->Shared->Prop},∀ (x:Value) (s:Shared),(λ(_:Value) (_:Shared)=>False) x s->E x s:=λ_ _ z=>False.elim z
 refine codeAny_loop rfl I (λn s hI=>?_) n h
 show wpAny _ A ((compTurn (.ListComp elt [⟨target,iter,ifs,0⟩] scope pos) 0 it acc env).onRaise (λx=>do noteFrame x env;theTreesLotGoes x)) _ _ s
 refine wpAny_noted ?_
 rw [compTurn_list]
 refine wpAny_bind (wpAny_standAt (wpAny_bind (wpAny_mono (turn n s hI) (λr s1 h1=>?_) ff)))
 cases r with
 | none=>exact wpAny_pure h1
 | some v=>
  refine wpAny_bind (wpAny_mono h1 (λ_ s1' h1'=>?_) ff)
  refine wpAny_bind (wpAny_mono h1' (λ_ s2 h2=>wpAny_bind (wpAny_mono h2 (λok s3 h3=>?_) ff)) ff)
  cases ok with
  | false=>exact wpAny_pure ⟨rfl,h3⟩
  | true=>
   exact wpAny_bind (wpAny_bind (wpAny_mono h3 (λx s4 h4=>wpAny_bind (wpAny_mono h4 (λ_ s5 h5=>wpAny_pure (wpAny_pure ⟨rfl,h5⟩)) ff)) ff))
end
def Cx.comp (X:Cx) (scope:Scope) (cl:List (Str×Addr)) (N:List Str) (C:Addr) (s:Shared) (H:Hp) (fp:List Addr):Cx:=
 { X with N:=N,s₀:=s,H₀:=H,env:=compEnvC scope cl C X.env,outer:=X.stack,ex:=fp,fn:=λ_=>false,pn:=[],xe:=λ_ _=>False }
def ZhE (X:Cx) (ifs:List Expr) (t:TT):Prop:=
 ∀ (pins:List (Addr×Obj)) (s:Shared) (σ:St) (H:Hp) (Q:Bool->Hp->Prop),Inv X pins σ H s->t σ H Q ->
  wpAny (model X.prog X.w) X.A (forIn ifs true λc r=>if r=true then do let ok <- isTrue c X.env (eval c X.env);pure (ForInStep.yield ok) else pure (ForInStep.yield r)) (TP X pins σ Q) X.xe s
def Zh1:TT:=λ_ H Q=>Q true H
theorem Zcb {X:Cx}:ZhE X [] Zh1:=λ_ _ _ H _ I h=>wpAny_tests_nil ⟨H,I,h⟩
theorem ZfR {X:Cx} {c:Expr} {t:TT} (h:PT X c t):ZhE X [c] t:=λpins s σ H Q I hw=>wpAny_tests_one (h pins s σ H Q I hw)
structure Za7 (X:Cx) (scope:Scope) (cl:List (Str×Addr)) (own:List Str) (fr:List (Str×Nat)):Prop where
 clos:closureFor scope X.env=pure cl
 nocell:∀ y∈scope.names,y.2≠.cell
 kind:scope.kind=.function
 names:∀ y∈scope.names,y.2=.local->scope.names.lookup y.1=some .local
 cls:∀ y c,cl.lookup y=some c->X.env.cells.lookup y=some c
 has:∀ y,((relabel scope X.env).names.lookup y=some .cell\/(relabel scope X.env).names.lookup y=some .free)->∃ c,cl.lookup y=some c
 free:∀ p∈fr,X.N[p.2]?=some p.1/\(X.env.kindOf p.1=some .cell\/X.env.kindOf p.1=some .free)/\((relabel scope X.env).names.lookup p.1=some .cell\/(relabel scope X.env).names.lookup p.1=some .free)
def ZaX (own:List Str) (fr:List (Str×Nat)) (σ:St):St:=own.map (λ_=>none)++fr.map λp=>(σ[p.2]?).join
def Zcs:St->St->Prop
 | [],[]=>True
 | none::r,_::r'=>Zcs r r'
 | some v::r,some v'::r'=>v=v'/\Zcs r r'
 | _,_=>False
theorem Za4:∀ {a b:St},Zcs a b->∀ (i:Nat) (v:V),a[i]?=some (some v)->b[i]?=some (some v)
 | [],[],_,i,v,h=>by simp at h
 | [],_::_,z,_,_,_=>z.elim
 | none::r,[],z,_,_,_=>z.elim
 | some _::r,[],z,_,_,_=>z.elim
 | some _::r,none::_,z,_,_,_=>z.elim
 | none::r,_::r',z,0,v,h=>by simp at h
 | none::r,_::r',z,i+1,v,h=>by
  have:=Za4 (a:=r) (b:=r') z i v (by simpa using h)
  simpa using this
 | some x::r,some x'::r',z,0,v,h=>by
  obtain ⟨e,_⟩:=z
  subst e
  simpa using h
 | some x::r,some x'::r',z,i+1,v,h=>by
  have:=Za4 (a:=r) (b:=r') z.2 i v (by simpa using h)
  simpa using this
def Zbg (J:It) (D:Addr) (g:TG) (tc:TT) (te:TE) (σ0:St) (W:Nat->Nat->List V->Hp->Prop) (R:Hp->Prop):Prop:=
 ∀ i m ys H2,W i m ys H2->(J.stop i H2/\R H2)\/(J.go i H2/\∃ N:List V->Hp->Prop,(∀ ys' H',N ys' H'->∃ m',m'<m/\W (i+1) m' ys' H')/\∀ x H3,J.yld i H2 x H3->g x σ0 H3 λσ4 H4=>Zcs σ0 σ4/\tc σ4 H4 λb H5=>
  if b=true then te σ4 H5 λy H6=>H6 D=some (.lst ys)/\ys.length<sizeLine/\N (ys++[y]) (upd H6 D (.lst (ys++[y])))
  else N ys H5)
def Zh2 (wi:TI) (g:TG) (tc:TT) (te:TE) (own:List Str) (fr:List (Str×Nat)):TE:=λσ H Q=>wi σ H λJ H1=>∀ D,H1 D=none ->
 ∃ W:Nat->Nat->List V->Hp->Prop,(∃ m,W 0 m [] (upd H1 D (.lst [])))/\Zbg J D g tc te (ZaX own fr σ) W λH2=>Q (.ref D) H2
section
variable {X:Cx} {target iter elt:Expr} {ifs:List Expr} {scope:Scope} {cl:List (Str×Addr)} {own:List Str} {fr:List (Str×Nat)} {pos:Pos} {wi:TI} {g:TG} {tc:TT} {te:TE}
theorem Inv.sub_pins {pins pins':List (Addr×Obj)} {σ:St} {H:Hp} {s:Shared} (I:Inv X pins σ H s) (h:∀ p∈pins',p∈pins):Inv X pins' σ H s:=I.pins_of λp hp=>I.pin p (List.mem_append_right _ (h p hp))
theorem ZeX {pins:List (Addr×Obj)} {σ:St} {H:Hp} {s:Shared} {C:Addr} {fp:List Addr} (S:Za7 X scope cl own fr) (I:Inv X pins σ H s) (hf:∀ b∈fp,Zen X pins H b) (hC:s.heap.objs.size<=C) (hfl:∀ b∈fp,b<s.heap.objs.size) :
  (X.comp scope cl (own++fr.map (·.1)) C s H fp).Ok:=by
 refine ⟨I.ok.mod,?_,I.ok.glob,I.ok.blt,hC,λx y c h1 h2=>I.ok.inj x y c (S.cls x c h1) (S.cls y c h2),S.has,λx c z=>absurd z (by simp [Cx.comp]),I.ok.hd,I.ok.frames,.inl rfl,
  λb hb=>⟨Nat.ne_of_lt (Nat.lt_of_lt_of_le (hfl b hb) hC),λx c h=>(hf b hb).2.2.2.2.1 x c (S.cls x c h)⟩,I.bs,Nat.le_trans I.ok.bsz I.sz,λb o e hb=>?_,λb hb z=>?_,I.stack,I.stkFree⟩
 ·show (relabel scope X.env).kind=.function
  exact S.kind
 ·rcases (hf b hb).2.2.2.1 with z | z
  ·exact I.ok.noex b o e z
  ·exact absurd (Nat.lt_of_lt_of_le (Heap.lt_size e) (Nat.le_trans I.ok.bsz z)) (Nat.lt_irrefl _)
 ·rcases List.mem_cons.mp (I.stkSub b z) with q | q
  ·exact (hf b hb).2.1 q
  ·exact (hf b hb).2.2.1 q
theorem ZbC (own:List Str) (fr:List (Str×Nat)) (σ:St):(ZaX own fr σ).length=(own++fr.map (·.1)).length:=by
 unfold ZaX
 simp
theorem Zep {pins:List (Addr×Obj)} {σ:St} {H:Hp} {s:Shared} {it:Addr} {fp:List Addr} {tn:Nat->Heap->Prop} {J:It} {E:Value->Shared->Prop} {RR:Value->Addr->Result->Shared->Prop} {Rf:Addr->Hp->Prop}
  (hc:X.calm=true) (S:Za7 X scope cl own fr) (I:Inv X pins σ H s) (T:ZhD X.prog X.w X.K target J fp it tn) (st:tn 0 s.heap) (hf:∀ b∈fp,Zen X pins H b)
  (hg:∀ C s H fp,PG (X.comp scope cl (own++fr.map (·.1)) C s H fp) target g) (ht:∀ C s H fp,ZhE (X.comp scope cl (own++fr.map (·.1)) C s H fp) ifs tc) (he:∀ C s H fp,PE (X.comp scope cl (own++fr.map (·.1)) C s H fp) elt te)
  (hw:∀ D,H D=none->∃ W:Nat->Nat->List V->Hp->Prop,(∃ m,W 0 m [] (upd H D (.lst [])))/\Zbg J D g tc te (ZaX own fr σ) W (Rf D))
  (hRR:∀ D C s' H',s.heap.objs.size<=C->C≠D->(∃ m,s'.heap.Ns C m)->H' C=none->Un (frs X.stack) fp H H' s.heap s'.heap->HOk X.prog X.w H' s'.heap->AllBare s'.gens->s'.os=s.os->Rf D H'->RR (.ref D) C (.ok .next) s') :
  wpAny (model X.prog X.w) X.A (newList []) (λacc s3=>wpAny (model X.prog X.w) X.A (newFunctionEnv scope X.env.globals cl [] X.env.qual none .none (some X.env)) (λcenv s4=>
   codeAny (model X.prog X.w) X.A (.compStart (.ListComp elt [⟨target,iter,ifs,0⟩] scope pos) 0 (.ref it) acc { cenv with scope:=relabel scope X.env }) (RR acc cenv.locals) s4) E s3) E s:=by
 have hfl:∀ b∈fp,b<s.heap.objs.size:=λb hb=>by
  obtain ⟨o,e,_⟩:=T.obj 0 s.heap st b hb
  exact Heap.lt_size e
 have hD:H s.heap.objs.size=none:=I.fresh
 obtain ⟨W,⟨m0,w0⟩,turns⟩:=hw s.heap.objs.size hD
 have I1:Inv X pins σ (upd H s.heap.objs.size (.lst [])) { s with heap:=s.heap.push { cls:=.type "list", data:=.seq ([]:List Value).toArray },toks:=s.toks }:=I.lnew .nil (Nat.zero_le _)
 refine wpAny_newObj_type (wpAny_newFunctionEnv S.nocell (by intro y hy;simp at hy) (λh1 hns1 hsb1=>?_) S.kind)
 dsimp only at hns1 hsb1 ⊢
 generalize hH2:s.heap.push { cls:=.type "list", dict:=none,data:=.seq ([]:List Value).toArray }=H2 at hns1 hsb1 ⊢ I1
 have hCs:H2.objs.size=s.heap.objs.size+1:=by rw [<-hH2,Heap.size_push]
 have hCle:s.heap.objs.size<=H2.objs.size:=by omega
 have hDC:s.heap.objs.size≠H2.objs.size:=by omega
 have up1:∀ b o,H2.get? b=some o->h1.get? b=some o:=λb o e=>hsb1.extBut b o (Nat.ne_of_lt (Heap.lt_size e)) (Heap.get?_push_of_some _ e)
 have up:∀ b o,s.heap.get? b=some o->h1.get? b=some o:=λb o e=>up1 b o (hH2▸Heap.get?_push_of_some _ e)
 have okY:=ZeX (C:=H2.objs.size) S I hf hCle hfl
 have I0:∀ tk,Inv (X.comp scope cl (own++fr.map (·.1)) H2.objs.size s H fp) [] (ZaX own fr σ) (upd H s.heap.objs.size (.lst [])) { s with heap:=h1,toks:=tk }:=by
  intro tk
  have hok1:HOk X.prog X.w (upd H s.heap.objs.size (.lst [])) h1:=I1.hok.kept up1
  refine ⟨okY,rfl,I.bare,⟨λb o e n _ _=>up b o e,λb o e n _ _=>⟨o.slots,up b o e⟩,λb o e n _=>?_,λb o e _=>⟨o,up b o e⟩,λb xs q=>?_,λb o u q=>?_,λb ps q=>⟨#[],?_⟩⟩,
   ⟨_,hns1,λi x v e1 e2 e3=>?_⟩,λx c e=>?_,?_,λx c e=>?_,λp hp=>?_,hok1,ZbC own fr σ⟩
  ·have e':s.heap.get? b=some o:=e
   show upd H s.heap.objs.size (.lst []) b=none
   rw [Zas (Nat.ne_of_lt (Heap.lt_size e'))];exact n
  ·rw [Zas (Zak q hD)];exact q
  ·rw [Zas (Zak q hD)];exact q
  ·have q':H b=some (.tbl ps):=q
   rw [Zas (Zak q' hD),q'];simp
  ·-- the free names
   have e2':(ZaX own fr σ)[i]?=some (some v):=e2
   have e1':(own++fr.map (·.1))[i]?=some x:=e1
   unfold ZaX at e2'
   by_cases hi:i<own.length
   ·rw [List.getElem?_append_left (by simpa using hi),List.getElem?_map] at e2'
    cases q:own[i]? with
    | none=>rw [q] at e2';cases e2'
    | some y=>rw [q] at e2';cases e2'
   ·rw [List.getElem?_append_right (by simpa using hi),List.length_map,List.getElem?_map] at e2'
    rw [List.getElem?_append_right (by omega),List.getElem?_map] at e1'
    cases q:fr[i-own.length]? with
    | none=>rw [q] at e2';cases e2'
    | some p=>
     rw [q] at e1' e2'
     have ex:p.1=x:=Option.some.inj e1'
     have ev:(σ[p.2]?).join=some v:=Option.some.inj e2'
     have ev':σ[p.2]?=some (some v):=by
      cases z:σ[p.2]? with
      | none=>rw [z] at ev;cases ev
      | some o=>rw [z] at ev;cases o with
       | none=>cases ev
       | some v'=>have:v'=v:=Option.some.inj ev;rw [this]
     obtain ⟨f1,f2,f3⟩:=S.free p (List.mem_of_getElem? q)
     subst ex
     obtain ⟨m,hn,hl⟩:=I.loc
     have vis:Vis X.env.scope p.1:=by
      rcases f2 with f2 | f2
      ·exact .inr (.inl f2)
      ·exact .inr (.inr f2)
     obtain ⟨u,ru,lk⟩:=hl p.2 p.1 v f1 ev' vis
     refine ⟨u,ru,?_⟩
     rcases lk with ⟨k,_⟩ | ⟨k,c,e,z⟩
     ·rcases f2 with f2 | f2 <;> (rw [f2] at k;cases k)
     ·obtain ⟨c',hc'⟩:=S.has p.1 f3
      have e':=S.cls _ _ hc'
      rw [e] at e';cases e'
      obtain ⟨oc,ho,hd⟩:=z
      exact .inr ⟨f3,c,hc',⟨oc,up _ _ ho,hd⟩⟩
  ·obtain ⟨v,oc,ho,hd⟩:=I.cell x c (S.cls x c e)
   exact ⟨v,oc,up _ _ ho,hd⟩
  ·show upd H s.heap.objs.size (.lst []) H2.objs.size=none
   rw [Zas (Ne.symm hDC)]
   exact I.hok.fresh hCle
  ·obtain ⟨v,z⟩:=I.cell x c (S.cls x c e)
   show upd H s.heap.objs.size (.lst []) c=none
   rw [Zas (Nat.ne_of_lt z.lt)]
   exact I.freeC x c (S.cls x c e)
  ·exact absurd (show p∈([]:List (Addr×Obj)) from hp) (by simp)
 have fpf:∀ b∈fp,upd H s.heap.objs.size (.lst []) b=none:=λb hb=>by rw [Zas (Nat.ne_of_lt (hfl b hb))];exact (hf b hb).1
 have st1:tn 0 h1:=T.keep 0 _ _ st λb hb o e=>up b o e
 have stat:∀ {H':Hp},(∀ b∈fp,H' b=none)->∀ b∈fp,Zen (X.comp scope cl (own++fr.map (·.1)) H2.objs.size s H fp) [] H' b:=λhn b hb=>
  ⟨hn b hb,(okY.exf b hb).1,okY.exfs b hb,.inl hb,(okY.exf b hb).2,λp hp=>absurd (show p∈([]:List (Addr×Obj)) from hp) (by simp)⟩
 have loop:∀ s3:Shared,(∃ tk,s3={ s with heap:=h1,toks:=tk }) ->
   codeAny (model X.prog X.w) X.A (.compLoop (.ListComp elt [⟨target,iter,ifs,0⟩] scope pos) 0 (.ref it) (.ref s.heap.objs.size) (compEnvC scope cl H2.objs.size X.env)) (RR (.ref s.heap.objs.size) H2.objs.size) s3:=by
  rintro s3 ⟨tk,rfl⟩
  refine Zdz (λn s'=>∃ i ys H',Inv (X.comp scope cl (own++fr.map (·.1)) H2.objs.size s H fp) [] (ZaX own fr σ) H' s'/\tn i s'.heap/\(∀ b∈fp,H' b=none)/\W i n ys H') ?_ m0 ⟨0,[],_,I0 tk,st1,fpf,w0⟩
  rintro n s4 ⟨i,ys,H4,I4,st4,fr4,w4⟩
  rcases turns i n ys H4 w4 with ⟨stop,q⟩ | ⟨go,N,hN,step⟩
  ·refine thn (T.done (X.comp scope cl (own++fr.map (·.1)) H2.objs.size s H fp) rfl rfl rfl hc i [] s4 _ H4 _ I4 (stat fr4) st4 stop) λr s5 ⟨hr,I5⟩=>?_
   subst hr
   exact hRR _ _ s5 H4 hCle (Ne.symm hDC) ⟨_,I5.loc.choose_spec.1⟩ I5.free I5.base I5.hok I5.bare I5.os q
  ·refine thn (T.item (X.comp scope cl (own++fr.map (·.1)) H2.objs.size s H fp) rfl rfl rfl hc i [] s4 _ H4 _ I4 (stat fr4) st4 go) λr s5 ⟨u,hr,h5⟩=>?_
   subst hr
   refine thn h5 λ_ s6 ⟨x,H6,I6,r6,y6,st6,fr6⟩=>?_
   have I6':=I6.pinned (stat fr6) (T.obj _ _ st6)
   refine thn (hg H2.objs.size s H fp _ s6 _ H6 x u _ I6' r6 (step x H6 y6)) λ_ s7 ⟨σ7,H7,I7,k7,q7⟩=>?_
   refine thn (ht H2.objs.size s H fp _ s7 σ7 H7 _ I7 q7) λok s8 ⟨H8,I8,q8⟩=>?_
   have again:∀ {s9:Shared} {σ9:St} {H9:Hp} {zs:List V},Inv (X.comp scope cl (own++fr.map (·.1)) H2.objs.size s H fp) ([]++ZcF fp s6.heap) σ9 H9 s9->(∀ (i:Nat) v,(ZaX own fr σ)[i]?=some (some v)->σ9[i]?=some (some v))->(∃ m',m'<n/\W (i+1) m' zs H9) ->
     ∃ m,m<n/\∃ i ys H',Inv (X.comp scope cl (own++fr.map (·.1)) H2.objs.size s H fp) [] (ZaX own fr σ) H' s9/\tn i s9.heap/\(∀ b∈fp,H' b=none)/\W i m ys H':=by
    intro s9 σ9 H9 zs I9 hσ ⟨m',hm,w9⟩
    refine ⟨m',hm,i+1,zs,H9,(I9.sub_pins (λp hp=>absurd (show p∈([]:List (Addr×Obj)) from hp) (by simp))).weak ?_ hσ,T.keep _ _ _ st6 λb hb o e=>(I9.pin (b,o) (List.mem_append_right _ (List.mem_append_right _ (Za3 hb e)))).1,λb hb=>?_,w9⟩
    ·rw [I9.len];exact ZbC own fr σ
    ·obtain ⟨o,e,d⟩:=T.obj _ _ st6 b hb
     exact (I9.pin (b,o) (List.mem_append_right _ (List.mem_append_right _ (Za3 hb e)))).2.1
   cases ok with
   | false=>exact (if_neg Bool.false_ne_true).mpr (again I8 (Za4 k7) (hN _ _ ((if_neg Bool.false_ne_true).mp q8)))
   | true=>
    refine (if_pos rfl).mpr ?_
    have q8':=(if_pos rfl).mp q8
    refine thn (he H2.objs.size s H fp _ s8 σ7 H8 _ I8 q8') λy s9 ⟨yv,H9,I9,r9,hD9,hz,q9⟩=>?_
    refine thn (Zbf _ s9 σ7 H9 (.ref s.heap.objs.size) [yv] (.ref s.heap.objs.size) [y] (λ_ H'=>H'=upd H9 s.heap.objs.size (.lst (ys++[yv]))) I9 rfl (.cons r9 .nil) ⟨_,ys,yv,rfl,rfl,hD9,hz,rfl⟩) λ_ s10 ⟨_,H10,I10,_,e10⟩=>?_
    subst e10
    exact again I10 (Za4 k7) (hN _ _ q9)
 exact codeAny_compStart_list (loop _ ⟨_,rfl⟩) (T.self _ 0 _ _ _ st1 (loop _ ⟨_,rfl⟩))
theorem ZbW {pins:List (Addr×Obj)} {σ:St} {H H':Hp} {s s':Shared} {fp:List Addr} (I:Inv X pins σ H s) (hf:∀ b∈fp,Zen X pins H b) (un:Un (frs X.stack) fp H H' s.heap s'.heap)
  (hok:HOk X.prog X.w H' s'.heap) (bare:AllBare s'.gens) (os:s'.os=s.os):Inv X pins σ H' s':=
 I.call' os un hok bare λb hb=>⟨(hf b hb).2.2.2.1,(hf b hb).2.1,(hf b hb).2.2.2.2.1,(hf b hb).2.2.2.2.2⟩
theorem Zd7 {pins:List (Addr×Obj)} {σ σ':St} {H H':Hp} {s s':Shared} {C:Addr} {h':Heap} (I:Inv X pins σ H s) (hC:s.heap.objs.size<=C) (hn:H' C=none) (I':Inv X pins σ' H' s') (sb:Heap.SameBut C s'.heap h') :
  Inv X pins σ' H' { s' with heap:=h' }:=by
 obtain ⟨f0,f1,f2,f3,f4,f5⟩:=I.fpOk hC hn
 exact I'.turned (t':=s'.toks) (λb o hb e=>(sb.2 b hb).trans e) f0 f1 f3 f4 f5
theorem ZcY (hc:X.calm=true) (S:Za7 X scope cl own fr) (hi:PI X target iter wi)
  (hg:∀ C s H fp,PG (X.comp scope cl (own++fr.map (·.1)) C s H fp) target g) (ht:∀ C s H fp,ZhE (X.comp scope cl (own++fr.map (·.1)) C s H fp) ifs tc) (he:∀ C s H fp,PE (X.comp scope cl (own++fr.map (·.1)) C s H fp) elt te)
  (hs:∀ x,foldedSetIterable iter X.env x=pure x:=by intro _;rfl):PE X (.ListComp elt [⟨target,iter,ifs,0⟩] scope pos) (Zh2 wi g tc te own fr):=by
 intro pins s σ H Q I h
 rw [eval_ListComp]
 refine wpAny_comprehension_free (use:=none) rfl hs S.clos S.kind S.names (thn (hi pins s σ H _ I h) λv s1 h1=>thn h1 λitv s2 h2=>?_)
 obtain ⟨it,fp,tn,J,H2,e,I2,T,st2,f2,hw⟩:=h2
 subst e
 refine Zep (RR:=λacc C=>compPost (model X.prog X.w) X.A X.xe none (EP X pins σ Q) acc C) hc S I2 T st2 f2 hg ht he hw ?_
 rintro D C s' H' hC hDC ⟨m,hn⟩ hCf un hok bare os q
 refine ⟨m,hn,λh' hs'=>⟨.ref D,H',?_,rfl,q⟩⟩
 exact Zd7 (C:=C) (σ:=σ) I2 hC hCf (ZbW I2 f2 un hok bare os) hs'
end
theorem ZdA {K:PySem.W.Frag} {a D:Addr} {xs:List V} {g:TG} {tc:TT} {te:TE} {σ0:St} {R:Hp->Prop} {H1:Hp} (Pv:Nat->List V->Hp->Prop) (h0:Pv 0 [] (upd H1 D (.lst []))) (hl:∀ i ys H,i<=xs.length->Pv i ys H->SqL K H a xs)
  (hs:∀ i x ys H,xs[i]?=some x->Pv i ys H->g x σ0 H λσ4 H4=>Zcs σ0 σ4/\tc σ4 H4 λb H5=>if b=true then te σ4 H5 λy H6=>H6 D=some (.lst ys)/\ys.length<sizeLine/\Pv (i+1) (ys++[y]) (upd H6 D (.lst (ys++[y]))) else Pv (i+1) ys H5)
  (hd:∀ ys H,Pv xs.length ys H->R H):∃ W:Nat->Nat->List V->Hp->Prop,(∃ m,W 0 m [] (upd H1 D (.lst [])))/\Zbg (Itl K a) D g tc te σ0 W R:=by
 refine ⟨λi m ys H=>m=xs.length-i/\i<=xs.length/\Pv i ys H,⟨_,rfl,Nat.zero_le _,h0⟩,?_⟩
 rintro i m ys H ⟨rfl,hi,p⟩
 have q:=hl i ys H hi p
 by_cases hlt:i<xs.length
 ·refine .inr ⟨⟨xs,xs[i],q,by simp [hlt]⟩,Pv (i+1),λys' H' p'=>⟨xs.length-(i+1),by omega,rfl,hlt,p'⟩,λx H' y=>?_⟩
  obtain ⟨e,y⟩:=y
  subst e
  exact hs i x ys _ (y xs q) p
 ·have e:i=xs.length:=by omega
  subst e
  exact .inl ⟨⟨xs,q,Nat.le_refl _⟩,hd ys H p⟩
theorem ZbX {lo:Int} {n:Nat} {D:Addr} {g:TG} {tc:TT} {te:TE} {σ0:St} {R:Hp->Prop} {H1:Hp} (Pv:Nat->List V->Hp->Prop) (h0:Pv 0 [] (upd H1 D (.lst [])))
  (hs:∀ i ys H,i<n->Pv i ys H->g (.int (lo+i)) σ0 H λσ4 H4=>Zcs σ0 σ4/\tc σ4 H4 λb H5=>if b=true then te σ4 H5 λy H6=>H6 D=some (.lst ys)/\ys.length<sizeLine/\Pv (i+1) (ys++[y]) (upd H6 D (.lst (ys++[y]))) else Pv (i+1) ys H5)
  (hd:∀ ys H,Pv n ys H->R H):∃ W:Nat->Nat->List V->Hp->Prop,(∃ m,W 0 m [] (upd H1 D (.lst [])))/\Zbg (Itr lo n) D g tc te σ0 W R:=by
 refine ⟨λi m ys H=>m=n-i/\i<=n/\Pv i ys H,⟨_,rfl,Nat.zero_le _,h0⟩,?_⟩
 rintro i m ys H ⟨rfl,hi,p⟩
 by_cases hlt:i<n
 ·refine .inr ⟨hlt,Pv (i+1),λys' H' p'=>⟨n-(i+1),by omega,rfl,hlt,p'⟩,λx H' y=>?_⟩
  obtain ⟨e,y⟩:=y
  subst e y
  exact hs i ys _ hlt p
 ·have e:i=n:=by omega
  subst e
  exact .inl ⟨Nat.le_refl _,hd ys H p⟩
theorem Zbx {X:Cx} {scope:Scope} {own:List Str} (hf:∀ y∈scope.names,y.2≠.free) (hc:∀ y∈scope.names,y.2≠.cell) (hk:scope.kind=.function) (hn:∀ y∈scope.names,y.2=.local->scope.names.lookup y.1=some .local):Za7 X scope [] own []:=by
 have rel:(relabel scope X.env).names=scope.names:=by
  unfold relabel
  dsimp only
  refine (List.map_congr_left λp hp=>?_).trans (List.map_id _)
  obtain ⟨n,k⟩:=p
  have:(k == NameKind.free)=false:=by
   have:=hf _ hp
   cases k <;> first | rfl | exact absurd rfl this
  simp [this]
 refine ⟨closureFor_none hf,hc,hk,hn,λy c h=>by simp at h,λy h=>?_,λp hp=>by simp at hp⟩
 rw [rel] at h
 rcases h with h | h
 ·exact absurd rfl (hc _ (PySem.mem_of_lookup h))
 ·exact absurd rfl (hf _ (PySem.mem_of_lookup h))
end L2
namespace L2
open PySem PySem.Spec PyProof.Rows
def ZdB (a C:Addr) (h:Heap):Prop:=∃ ob vs,h.get? a=some ob/\ob.cls=.ref C/\ob.data=.fields vs
def Zeq (a C:Addr):HO:=.ext (ZdB a C)
theorem ZgW {P:Program} {w:World} {H:Hp} {h:Heap} {a C:Addr} (x:ZdB a C h):ObjOk P w H h a (Zeq a C):=by
 refine ⟨x,?_,λh1 h2 p k=>?_⟩
 ·obtain ⟨ob,_,e,_⟩:=x
  exact ⟨ob,e⟩
 ·obtain ⟨ob,vs,e,c,d⟩:=p
  exact ⟨ob,vs,k ob e,c,d⟩
theorem ObjOk.there {P:Program} {w:World} {H:Hp} {h:Heap} {a:Addr} {u:HO} (ok:ObjOk P w H h a u):∃ v,h.get? a=some v:=by
 cases u with
 | lst xs=>obtain ⟨_,_,_,_,e⟩:=ok;exact ⟨_,e⟩
 | tup xs=>obtain ⟨_,_,_,o,e,_⟩:=ok;exact ⟨_,e⟩
 | dK kvs=>obtain ⟨_,_,_,_,o,_,_,e,_⟩:=ok;exact ⟨_,e⟩
 | dT kvs=>obtain ⟨_,_,_,_,o,_,_,e,_⟩:=ok;exact ⟨_,e⟩
 | set S n=>obtain ⟨o,_,_,_,e,_⟩:=ok;exact ⟨_,e⟩
 | ins C dx fs=>obtain ⟨_,_,_,e,_⟩:=ok;exact ⟨_,e⟩
 | own y=>obtain ⟨_,e⟩:=ok;exact ⟨_,e⟩
 | xd fs=>obtain ⟨_,⟨_,_,_,e,_⟩,_⟩:=ok;exact ⟨_,e⟩
 | rng lo hi=>obtain ⟨_,_,_,e⟩:=ok;exact ⟨_,e⟩
 | frz ob u=>obtain ⟨e,_⟩:=ok;exact ⟨_,e⟩
 | tbl ps=>exact ⟨_,show h.get? a=some _ from ok⟩
 | met f y=>exact ⟨_,show h.get? a=some _ from ok⟩
 | ext φ=>obtain ⟨_,⟨_,e⟩,_⟩:=ok;exact ⟨_,e⟩
def Zjv (P:Program) (w:World) (outer:List Env) (H H':Hp) (s:Shared) (a C:Addr) (s':Shared):Prop:=
 ∃ (t:Addr) (B:Heap),s'.os=s.os/\AllBare s'.gens/\Un (frs outer) [] H H' s.heap s'.heap/\HOk P w H' s'.heap/\Heap.FlyingW B outer a (.ref C) (.ref t) s'.heap /\
  (∀ b o,s'.heap.get? b=some o->H' b≠none->B.get? b=some o)/\(∀ b o0 o,s.heap.get? b=some o0->s'.heap.get? b=some o->b ∉ frs outer->B.get? b=some o)
def CXr (P:Program) (w:World):CXT:=λouter H s E e s'=>∃ (a C:Addr) (H':Hp),e=.ref a/\Zjv P w outer H H' s a C s'/\E (.ref C) none H'
section
variable {X:Cx} {pins:List (Addr×Obj)} {σ:St} {H:Hp} {s:Shared}
def ZcZ (X:Cx) (E:XK):Prop:=∀ (pins:List (Addr×Obj)) (σ:St) (H:Hp) (s:Shared) (h':Heap) (a C:Addr) (vs:List Value),Inv X pins σ H s->Heap.MadeExcOf s.heap h' a (.ref C) vs->E (.ref C) none H->X.xe (.ref a) { s with heap:=h' }
theorem Zby {P:Program} {w:World} {K:PySem.W.Frag} {mg:Str->Option Value} {base:Heap} {N:List Str} {qual:Str} {scope:Scope} {f:Addr} {cd:Value} {A:Around} {outer:List Env} {s:Shared} {H:Hp} {E:XK} :
  ZcZ (ZeA (CXr P w) P w K mg base N qual scope f cd A outer s H E) E:=by
 intro pins σ H1 s1 h' a C vs I hx hE
 have hfr:=I.ok.frames
 have hst:s1.heap.FunFrames base (envOfC qual scope s.heap.objs.size f cd::outer):=I.stack
 have hin:∀ env∈(envOfC qual scope s.heap.objs.size f cd::outer),∀ b,env.frame=some b->b∈frs (envOfC qual scope s.heap.objs.size f cd::outer):=λenv he b hb=>List.mem_filterMap.mpr ⟨env,he,hb⟩
 have inB:∀ b o,s1.heap.get? b=some o->b ∉ frs (envOfC qual scope s.heap.objs.size f cd::outer)->(PySem.W.hideAll s1.heap (frs (envOfC qual scope s.heap.objs.size f cd::outer))).get? b=some o:=λb o e n=>PySem.W.hideAll_get _ e n
 refine wpAny_leaves_madeW (base:=PySem.W.hideAll s1.heap (frs (envOfC qual scope s.heap.objs.size f cd::outer))) hfr rfl (λb o q=>PySem.W.of_hideAll _ q) (PySem.W.funFrames_hide hst hin) hx λh2 t fl tu tn sm=>?_
 refine ⟨a,C,H1,rfl,⟨t,_,I.os,I.bare,⟨λb o e n hb _=>?_,λb o e n hb _=>?_,λb o e n _=>?_,λb o e _=>?_,I.base.tups,I.base.frzs,I.base.tbls⟩,λb u e=>?_,fl,λb o e n=>?_,λb o0 o e0 e nb=>?_⟩,hE⟩
 ·have e1:s1.heap.get? b=some o:=I.base.keep b o e n hb (by intro z;exact absurd (show b∈([]:List Addr) from z) (by simp))
  refine fl.1 b o (inB b o e1 λz=>?_)
  rcases List.mem_cons.mp (I.stkSub b z) with q | q
  ·exact absurd (Nat.lt_of_lt_of_le (Heap.lt_size e) I.ok.above) (by rw [q];exact Nat.lt_irrefl _)
  ·exact hb q
 ·obtain ⟨sl,e1⟩:=I.base.slot b o e n hb (by intro z;exact absurd (show b∈([]:List Addr) from z) (by simp))
  have nf:∀ vs,o.data≠.fields vs:=by
   obtain ⟨_,o',ho',hnf⟩:=I.funs.mem (show b∈(outer.filterMap (·.frame)) from hb)
   rw [e1] at ho';cases ho'
   exact hnf
  obtain ⟨sl',e2⟩:=sm b { o with slots:=sl } (hx.keeps b _ e1) nf
  exact ⟨sl',e2⟩
 ·exact I.base.free b o e n (by intro z;exact absurd (show b∈([]:List Addr) from z) (by simp))
 ·obtain ⟨o1,e1⟩:=I.base.there b o e (by intro z;exact absurd (show b∈([]:List Addr) from z) (by simp))
  by_cases hb:b∈frs (envOfC qual scope s.heap.objs.size f cd::outer)
  ·obtain ⟨_,o',ho',hnf⟩:=hst.mem hb
   rw [e1] at ho';cases ho'
   obtain ⟨sl',e2⟩:=sm b o1 (hx.keeps b _ e1) hnf
   exact ⟨_,e2⟩
  ·exact ⟨o1,fl.1 b o1 (inB b o1 e1 hb)⟩
 ·have trk:∀ c v,s1.heap.get? c=some v->H1 c≠none->h2.get? c=some v:=λc v q hc=>fl.1 c v (inB c v q λz=>hc (I.stkFree c z))
  refine (I.hok b u e).stay (λc v hc q=>trk c v q ?_) (λ_ q=>q) λ_ _ q=>q
  rcases hc with z | z
  ·rw [z,e];simp
  ·rw [z];simp
 ·cases q':H1 b with
  | none=>exact absurd q' n
  | some u=>
   obtain ⟨v,q⟩:=(I.hok b u q').there
   have nb:b ∉ frs (envOfC qual scope s.heap.objs.size f cd::outer):=λz=>n (I.stkFree b z)
   have e2:=fl.1 b v (inB b v q nb)
   rw [e] at e2;cases e2
   exact inB b _ q nb
 ·obtain ⟨o1,e1⟩:=I.base.there b o0 e0 (by intro z;exact absurd (show b∈([]:List Addr) from z) (by simp))
  have nb':b ∉ frs (envOfC qual scope s.heap.objs.size f cd::outer):=λz=>by
   rcases List.mem_cons.mp (I.stkSub b z) with q | q
   ·exact absurd (Nat.lt_of_lt_of_le (Heap.lt_size e0) I.ok.above) (by rw [q];exact Nat.lt_irrefl _)
   ·exact nb q
  have e2:=fl.1 b o1 (inB b o1 e1 nb')
  have e':h2.get? b=some o:=e
  rw [e'] at e2;cases e2
  exact inB b _ e1 nb'
theorem Zcc {P:Program} {w:World} {outer:List Env} {H H':Hp} {s s':Shared} {a C t:Addr} {B h2:Heap} (un:Un (frs outer) [] H H' s.heap s'.heap) (hok:HOk P w H' s'.heap) (fr:s'.heap.FunFrames B outer)
  (trk:∀ b o,s'.heap.get? b=some o->H' b≠none->B.get? b=some o) (old:∀ b o0 o,s.heap.get? b=some o0->s'.heap.get? b=some o->b ∉ frs outer->B.get? b=some o) (st:B.StaysIn h2) (sm:s'.heap.UpToSlots h2) :
  Un (frs outer) [] H H' s.heap h2/\HOk P w H' h2:=by
 refine ⟨⟨λb o e n hb hx=>st b o (old b o o e (un.keep b o e n hb hx) hb),λb o e n hb hx=>?_,un.free,λb o e hx=>?_,un.tups,un.frzs,un.tbls⟩,λb u e=>?_⟩
 ·obtain ⟨sl,e1⟩:=un.slot b o e n hb hx
  obtain ⟨_,o',ho',hnf⟩:=fr.mem hb
  rw [e1] at ho';cases ho'
  obtain ⟨sl',e2⟩:=sm b _ e1 hnf
  exact ⟨sl',e2⟩
 ·obtain ⟨o1,e1⟩:=un.there b o e hx
  by_cases hb:b∈frs outer
  ·obtain ⟨_,o',ho',hnf⟩:=fr.mem hb
   rw [e1] at ho';cases ho'
   obtain ⟨sl',e2⟩:=sm b _ e1 hnf
   exact ⟨_,e2⟩
  ·exact ⟨o1,st b o1 (old b o o1 e e1 hb)⟩
 ·refine (hok b u e).stay (λc v hc q=>st c v (trk c v q ?_)) (λ_ q=>q) λ_ _ q=>q
  rcases hc with z | z
  ·rw [z,e];simp
  ·rw [z];simp
theorem Inv.track {a:Addr} {u:HO} (I:Inv X pins σ H s) (hn:H a=none) (f1:a≠X.env.locals) (f4:∀ x c,X.env.cells.lookup x=some c->c≠a) (f5:∀ p∈X.pn++pins,p.1≠a) (hs:X.s₀.heap.get? a=none)
  (ok:∀ H',ObjOk X.prog X.w H' s.heap a u):Inv X pins σ (upd H a u) s:=by
 refine ⟨I.ok,I.os,I.bare,⟨I.base.keep,I.base.slot,λb o e n z=>?_,I.base.there,λb xs e=>?_,λb o x e=>?_,λb ps e=>?_⟩,I.loc,I.cell,?_,λx c e=>?_,λp hp=>?_,λb v e=>?_,I.len⟩
 ·rw [Zas (show b≠a from λq=>by rw [q,hs] at e;cases e)]
  exact I.base.free b o e n z
 ·have:=I.base.tups b xs e
  rw [Zas (Zak this hn)];exact this
 ·have:=I.base.frzs b o x e
  rw [Zas (Zak this hn)];exact this
 ·obtain ⟨more,this⟩:=I.base.tbls b ps e
  exact ⟨more,by rw [Zas (Zak this hn)];exact this⟩
 ·rw [Zas (Ne.symm f1)];exact I.free
 ·rw [Zas (f4 x c e)];exact I.freeC x c e
 ·obtain ⟨e,n,r⟩:=I.pin p hp
  exact ⟨e,by rw [Zas (f5 p hp)];exact n,r⟩
 ·by_cases hb:b=a
  ·subst hb
   rw [Zad] at e;cases e
   exact ok _
  ·rw [Zas hb] at e
   exact (I.hok b v e).stay (λ_ _ _ q=>q) (λc q=>by rw [Zas (Zak q hn)];exact q) λc xs q=>by rw [Zas (Zak q hn)];exact q
end
end L2
namespace L2
open PySem PySem.Spec PyProof.Rows
abbrev Zkg:List Value:=[.type "ValueError", .type "Exception", .type "BaseException", .type "object"]
abbrev ExcC (K:PySem.W.Frag) (C:Addr):Prop:=PySem.W.excIn K C Zkg "ValueError.__new__" = true
theorem Zc0 {K:PySem.W.Frag} {h:Heap} {C:Addr} (KX:K.In h) (ex:ExcC K C):∃ mro' ns' mN',(∃ nm' qn' bs' hd' sn' sub' ab' col' dd' j0 j1 j2 j3 j5,
  h.get? C=some (excClassObj nm' qn' C ns' bs' mro' hd' sn' sub' ab' col' dd' j0 j1 j2 j3 j5 "ValueError.__new__"))/\h.Ns ns' mN'/\mN' "__init__" = none/\OwnTail h Zkg mro':=by
 have ex':=ex
 unfold ExcC PySem.W.excIn at ex'
 split at ex'
 ·rename_i dd' cd' sl' lk
  have lk':=KX _ _ lk
  split at ex'
  ·rename_i C' rest' j0 j1 j2 j3 n' j5 hm hs
   rw [Bool.and_eq_true,Bool.and_eq_true,Bool.and_eq_true,Bool.and_eq_true,Bool.and_eq_true,beq_iff_eq,beq_iff_eq,beq_iff_eq] at ex'
   obtain ⟨⟨⟨⟨⟨z1,z2⟩,z3⟩,z4⟩,z5⟩,z6⟩:=ex'
   have z3':cd'.hasDel=false:=by simpa using z3
   subst z1 z2
   cases cd' with
   | mk a1 a2 a3 a4 a5 a6 a7 a8 a9 a10 a11=>
    have hm':a3=.ref C'::rest':=hm
    have h11:a11=false:=z3'
    subst hm' h11
    have es:sl'=#[j0,j1,j2,j3,some (.builtin "ValueError.__new__"),j5]:=by
     cases sl' with
     | mk l=>exact congrArg Array.mk hs
    subst es
    exact ⟨rest',a4,_,⟨_,_,_,_,_,_,_,_,_,_,_,_,_,_,lk'⟩,.of_isNs (PySem.W.isNs_of_in KX z5),PySem.W.nsMap_none_of_in KX z5 z6,PySem.W.tail_of_in KX z4⟩
  ·cases ex'
 ·cases ex'
section
variable {X:Cx}
def Zh3 (C:Addr) (E:XK) (t:TA):TS:=λ_ σ H=>t σ H λvs H1=>vs.length<=sizeLine/\E (.ref C) none H1
theorem ZbK {C:Addr} {E:XK} {x:Str} {np cpos pos:Pos} {e:Expr} {es:List Expr} {t:TA} (hc:X.calm=true) (hR:ZcZ X E) (hg:Gl X x) (hm:X.mg x=some (.ref C)) (ex:ExcC X.K C) (ha:PA X (e::es) t)
  (hdb:(x == ("__debug__" : Str))=false:=by decide) (he:starEach (e::es) X.env=(false,eval e X.env)::starEach es X.env:=by rfl) (hpl:(backTo cpos (starEach es X.env)).any (·.1)=false:=by rfl) :
  PS X (.Raise (some (.Call (.Name x np) (e::es) [] cpos)) none pos) (Zh3 C E t):=by
 intro pins s σ H D I h
 obtain ⟨mro',ns',mN',⟨nm',qn',bs',hd',sn',sub',ab',col',dd',j0,j1,j2,j3,j5,hC⟩,hN,hni,T⟩:=Zc0 I.mod.kin ex
 refine wpAny_Raise_call_subT (C:=C) (nm:=nm') (q:=qn') (N:=ns') (bs:=bs') (bm:=mro') (hdct:=hd') (sn:=sn') (sub:=sub') (ab:=ab') (col:=col') (dd:=dd') (k0:=j0) (k1:=j1) (k2:=j2) (k3:=j3) (k5:=j5)
  PySem.F.excBase_ValueError (mN:=mN') (T.hasType PySem.F.excBase_ValueError.hasBase) (I.ok.hd hc) (by rw [he];show (false || (backTo cpos (starEach es X.env)).any (·.1))=false;rw [hpl];rfl) hni (Zbu I hg hm ⟨rfl,?_⟩ hdb)
 have hA:=ha cpos pins s σ H _ I h
 rw [he] at hA ⊢
 refine Calls.evalArgs_plain (thn hA λus s2 ⟨vs,H2,I2,r2,hl,q2⟩=>?_)
 exact ⟨rfl,by rw [<-r2.length];exact hl,I2.bk _ _ hC,hN.keeps I2.bk,T.keeps I2.bk,λh' a hm=>hR pins σ H2 s2 h' a C us I2 hm q2⟩
def Cx.inExc (X:Cx) (a:Addr):Cx:={ X with A:=X.A.mark (some (.ref a)),calm:=false,xe:=λ_ _=>False }
theorem Cx.Ok.inExc {X:Cx} (ok:X.Ok) (a:Addr):(X.inExc a).Ok:=
 ⟨ok.mod,ok.kind,ok.glob,ok.blt,ok.above,ok.inj,ok.has,ok.cab,(λz=>nomatch z),ok.frames,ok.stk,ok.exf,ok.bs,ok.bsz,ok.noex,ok.exfs,ok.funs,ok.frf⟩
variable {pins:List (Addr×Obj)} {σ:St} {H:Hp} {s:Shared}
theorem Inv.inExc (I:Inv X pins σ H s) (a:Addr):Inv (X.inExc a) pins σ H s:=⟨I.ok.inExc a,I.os,I.bare,I.base,I.loc,I.cell,I.free,I.freeC,I.pin,I.hok,I.len⟩
theorem Inv.outExc {a:Addr} (ok:X.Ok) (I:Inv (X.inExc a) pins σ H s):Inv X pins σ H s:=⟨ok,I.os,I.bare,I.base,I.loc,I.cell,I.free,I.freeC,I.pin,I.hok,I.len⟩
theorem Zcd {M:Model} {A:Around} {E:Value->Shared->Prop} {i:Nat} {n:Str} {pos:Pos} {Q:Unit->Shared->Prop} (I:Inv X pins σ H s) (hN:X.N.Nodup) (hi:X.N[i]?=some n) (hl:X.env.scope.names.lookup n=some .local)
  (h:∀ s',Inv X pins (σ.set i none) H s'->Q () s'):wpAny M A (do bindName X.env n .none;unbindBehindTheSuite X.env n pos) Q E s:=by
 obtain ⟨m,hn,hlk⟩:=id I.loc
 refine wpAny_nameGoes_keeps hl hn (by rw [I.ok.kind];rfl) λh' v hn' sb=>h _ ?_
 have old:∀ b o,X.s₀.heap.get? b=some o->b≠X.env.locals:=λb o e=>Nat.ne_of_lt (Nat.lt_of_lt_of_le (Heap.lt_size e) I.ok.above)
 have hLn:∀ b u,H b=some u->b≠X.env.locals:=λb u e z=>by rw [z,I.free] at e;cases e
 refine ⟨I.ok,I.os,I.bare,⟨λb o e z hb hx=>(sb.2 b (old b o e)).trans (I.base.keep b o e z hb hx),λb o e z hb hx=>?_,I.base.free,λb o e hx=>?_,I.base.tups,I.base.frzs,I.base.tbls⟩,
  ⟨_,hn',λj y v' e1 e2 e3=>?_⟩,λy c e=>?_,I.free,I.freeC,λp hp=>?_,λb u e=>?_,by simpa using I.len⟩
 ·obtain ⟨sl,q⟩:=I.base.slot b o e z hb hx
  exact ⟨sl,(sb.2 b (old b o e)).trans q⟩
 ·obtain ⟨o',q⟩:=I.base.there b o e hx
  exact ⟨o',(sb.2 b (old b o e)).trans q⟩
 ·by_cases hj:j=i
  ·subst hj
   have hiσ:j<σ.length:=by rw [I.len];exact (List.getElem?_eq_some_iff.mp hi).1
   rw [List.getElem?_set_self hiσ] at e2
   cases e2
  ·rw [List.getElem?_set_ne (Ne.symm hj)] at e2
   obtain ⟨u,ru,lk⟩:=hlk j y v' e1 e2 e3
   refine ⟨u,ru,?_⟩
   have hyn:y≠n:=λz=>hj (ZcS hN e1 (z▸hi))
   rcases lk with ⟨k,e⟩ | ⟨k,c,e,z⟩
   ·exact .inl ⟨k,by simp [hyn,e]⟩
   ·exact .inr ⟨k,c,e,z.sameBut sb (I.cne y c e)⟩
 ·obtain ⟨v',z⟩:=I.cell y c e
  exact ⟨v',z.sameBut sb (I.cne y c e)⟩
 ·obtain ⟨e,z,ne,nf,d⟩:=I.pin p hp
  exact ⟨(sb.2 p.1 ne).trans e,z,ne,nf,d⟩
 ·refine (I.hok b u e).stay (λc v' hc q=>(sb.2 c ?_).trans q) (λ_ q=>q) λ_ _ q=>q
  rcases hc with z | z
  ·rw [z];exact hLn b u e
  ·exact hLn c _ z
end
end L2
namespace L2
open PySem PySem.Spec PyProof.Rows
theorem Zc1 {M:Model} {h:Heap} {a C:Addr} (hx:ZdB a C h):PySem.W.Looks M h (typeOf (.ref a)) (.ref C):=by
 obtain ⟨ob,vs,e,c,d⟩:=hx
 exact c▸(PySem.W.Looks.ld e).andThen .now
theorem Zct {K:PySem.W.Frag} {M:Model} {A:Around} {E:Value->Shared->Prop} {Q:Bool->Shared->Prop} {s:Shared} {a C W:Addr} {b:Bool} (KX:K.In s.heap) (hx:ZdB a C s.heap)
  (hk:PySem.W.kitCls K (.ref C) (.ref W)=some b) (hb:PySem.W.subIn K (.ref W) (.type "BaseException")=some true) (h:Q b s):wpAny M A (excMatches (.ref a) (.ref W)) Q E s:=by
 obtain ⟨hty,his,hsub⟩:=PySem.W.kit_cls (M:=M) KX hk
 have hB:=PySem.W.looks_subIn (M:=M) KX hb
 have LT:=Zc1 (M:=M) hx
 obtain ⟨h0,g,dd,tk,os⟩:=s
 have f:=tc_notTuple
 unfold excMatches isInstance isExcClass
 refine wpAny_bind (wpAny_bind (hty.at (wpAny_of_eq f ?_)))
 simp only [Bool.false_eq_true,if_false]
 refine wpAny_bind (wpAny_pure ?_)
 simp only [List.forIn_cons,List.forIn_nil]
 refine wpAny_bind (wpAny_bind (wpAny_bind (wpAny_bind (his.at ?_))))
 simp only [if_true]
 refine hB.at ?_
 simp only [Bool.not_true,Bool.false_eq_true,if_false]
 refine wpAny_pure (wpAny_pure ?_)
 refine wpAny_bind (LT.at ?_)
 refine wpAny_bind (wpAny_bind (wpAny_bind (hsub.at ?_)))
 cases b with
 | true=>simp only [if_true];first | exact wpAny_pure (wpAny_pure (wpAny_pure h)) | exact wpAny_pure (wpAny_pure h) | exact wpAny_pure h
 | false=>simp only [Bool.false_eq_true,if_false];first | exact wpAny_pure (wpAny_pure (wpAny_pure h)) | exact wpAny_pure (wpAny_pure h) | exact wpAny_pure h
section
variable {X:Cx} {k:Nat} {f:Addr} {fd:FuncData} {ps:List Str} {sp:Sp} {dvs:List V} {ds:List Value} {fx:Str} {fp cpos bpos np hpos pos:Pos} {e:Expr} {es:List Expr} {t:TA}
def ZeY (K:PySem.W.Frag) (W:Addr) (i:Nat) (ts:TS) (D:Zdm) (σ:St):XK:=λcls _ H2=>∃ C,cls=.ref C/\PySem.W.kitCls K (.ref C) (.ref W)=some true /\
 ∀ a,H2 a=none->ts { nx:=λσ' H'=>D.nx (σ'.set i none) H',rt:=D.rt,bk:=λσ' H'=>D.bk (σ'.set i none) H',ct:=λσ' H'=>D.ct (σ'.set i none) H' } (σ.set i (some (.ref a))) (upd H2 a (Zeq a C))
theorem handled {pins:List (Addr×Obj)} {σ:St} {H:Hp} {s s':Shared} {D:Zdm} {W:Addr} {wx n:Str} {i:Nat} {b0:Stmt} {suite:List Stmt} {rest:List ExceptHandler} {ts:TS} {ev:Value}
  (hc:X.calm=true) (hst:X.stack=X.env::X.outer) (hfr:X.env.frame=some X.env.locals) (hex:X.ex=[]) (hN:X.N.Nodup) (hi:X.N[i]?=some n) (hl:X.env.scope.names.lookup n=some .local)
  (hgW:Gl X wx) (hmW:X.mg wx=some (.ref W)) (hbE:PySem.W.subIn X.K (.ref W) (.type "BaseException")=some true) (hsu:∀ a,PSs (X.inExc a) (b0::suite) ts) (I:Inv X pins σ H s)
  (h:CXr X.prog X.w X.stack H s (ZeY X.K W i ts D σ) ev s') (hdb:(wx == ("__debug__" : Str))=false:=by decide) :
  wpAny (model X.prog X.w) X.A (noteFrame ev X.env) (λ_ s2=>wpAny (model X.prog X.w) X.A (setFlight ev none) (λ_ s3=>
   wpAny (model X.prog X.w) X.A (handleBy ev X.env (.ExceptHandler (some (.Name wx np)) (some n) (b0::suite) hpos::rest)) (SP X pins D) X.xe s3) X.xe s2) X.xe s':=by
 obtain ⟨a,C,H',rfl,⟨t,B,os,bare,un,hok,fl,trk,old⟩,C',eC,hk,q⟩:=h
 cases eC
 have ff:∀ {E:Value->Shared->Prop},∀ (x:Value) (s:Shared),(λ(_:Value) (_:Shared)=>False) x s->E x s:=λ_ _ z=>False.elim z
 have flX:=fl
 rw [hst] at flX
 have afr:=I.ok.frames
 rw [hst] at afr
 have new:s.heap.get? a=none:=by
  cases z:s.heap.get? a with
  | none=>rfl
  | some o0=>
   exfalso
   obtain ⟨ob,vs,e1,c1,d1,_⟩:=fl.first
   by_cases hb:a∈frs X.stack
   ·obtain ⟨_,o',ho',hnf⟩:=fl.2.2.1.mem hb
    rw [e1] at ho';cases ho'
    exact hnf vs d1
   ·have:=old a o0 ob z e1 hb
    rw [fl.2.1] at this;cases this
 have hna:H' a=none:=by
  cases z:H' a with
  | none=>rfl
  | some u=>
   exfalso
   obtain ⟨ob,vs,e1,_⟩:=fl.first
   have:=trk a ob e1 (by rw [z];simp)
   rw [fl.2.1] at this;cases this
 have na1:a≠X.env.locals:=λz=>by
  obtain ⟨m,⟨o,_,_,ho,_⟩,_⟩:=I.loc
  rw [<-z,new] at ho;cases ho
 have na2:∀ x c,X.env.cells.lookup x=some c->c≠a:=λx c e z=>by
  obtain ⟨v,o,ho,_⟩:=I.cell x c e
  rw [z,new] at ho;cases ho
 have na3:∀ p∈X.pn++pins,p.1≠a:=λp hp z=>by
  have:=(I.pin p hp).1
  rw [z,new] at this;cases this
 have na4:X.s₀.heap.get? a=none:=by
  cases z:X.s₀.heap.get? a with
  | none=>rfl
  | some o=>
   obtain ⟨o',e'⟩:=I.base.there a o z (by rw [hex];simp)
   rw [new] at e';cases e'
 have at_:∀ {h2:Heap} {tk:Nat},B.StaysIn h2->s'.heap.UpToSlots h2->Inv X pins σ H' { s' with heap:=h2,toks:=tk }:=λ{h2 tk} st sm=>by
  obtain ⟨u2,k2⟩:=Zcc (t:=t) (a:=a) (C:=C) un hok fl.2.2.1 trk old st sm
  exact I.call' (ch:=[]) os u2 k2 bare (λb z=>absurd z (by simp))
 refine wpAny_looks_onW afr hfr flX λh4 held4 sm4=>?_
 refine wpAny_landsW held4 λh5 fl5 sm5=>?_
 have I5:Inv X pins σ H' { s' with heap:=h5 }:=at_ (tk:=s'.toks) fl5.1 (sm4.trans sm5)
 refine wpAny_handleBy_cons (codeAny_handlers_test ?_) (by intro q;cases q)
 refine Zbu (X:=X.inExc a) (I5.inExc a) hgW hmW ?_ hdb
 obtain ⟨ob,vs,e1,c1,d1,_⟩:=fl5.first
 refine Zct (b:=true) I5.kIn ⟨ob,vs,e1,c1,d1⟩ hk hbE ?_
 refine codeAny_handlers_suite_as ?_
 refine lands_againW fl5 λh6 fl6 sm6=>?_
 have I6:Inv X pins σ H' { s' with heap:=h6 }:=at_ (tk:=s'.toks) fl6.1 ((sm4.trans sm5).trans sm6)
 obtain ⟨ob6,vs6,e6,c6,d6,_⟩:=fl6.first
 have I7:=I6.track (u:=Zeq a C) hna na1 na2 na3 na4 λH2=>ZgW ⟨ob6,vs6,e6,c6,d6⟩
 refine Zca (X:=X.inExc a) (I7.inExc a) hN hi (.inl hl) (v:=.ref a) rfl (λs8 I8=>?_) (.inr hl)
 refine wpAny_mono (hsu a pins s8 _ _ _ I8 (q a hna)) (λfl s9 q9=>?_) ff
 show wpAny _ _ (do bindName X.env n .none;unbindBehindTheSuite X.env n hpos) _ _ s9
 cases fl with
 | next=>
  obtain ⟨σ9,H9,I9,q9⟩:=q9
  exact Zcd (I9.outExc I.ok) hN hi hl λs10 I10=>⟨_,_,I10,q9⟩
 | brk=>
  obtain ⟨σ9,H9,I9,q9⟩:=q9
  exact Zcd (I9.outExc I.ok) hN hi hl λs10 I10=>⟨_,_,I10,q9⟩
 | cont=>
  obtain ⟨σ9,H9,I9,q9⟩:=q9
  exact Zcd (I9.outExc I.ok) hN hi hl λs10 I10=>⟨_,_,I10,q9⟩
 | ret u=>
  obtain ⟨v,σ9,H9,I9,r9,q9⟩:=q9
  exact Zcd (I9.outExc I.ok) hN hi hl λs10 I10=>⟨v,_,_,I10,r9,q9⟩
theorem Zd8 {pins:List (Addr×Obj)} {σ:St} {H:Hp} {s:Shared} {Q:VK} {E:XK} {QQ:Value->Shared->Prop} {EE:Value->Shared->Prop} (F:ZaY X.prog X.w X.K X.mg X.base (CXr X.prog X.w) k f fd ps sp) (hr:Room k X.A) (hg:Gl X fx) (hm:X.mg fx=some (.ref f)) (hk:PySem.W.keepIn X.K (.ref f)=true)
  (hb:Binds X.K fd ps ds) (hd:Vals dvs ds) (ha:PA X.nox (e::es) t) (I:Inv X pins σ H s) (h:t σ H λvs H1=>sp (vs++dvs) H1 Q E)
  (hQ:∀ u s',EP X pins σ Q u s'->QQ u s') (hE:∀ ev H1 s1 s',Inv X pins σ H1 s1->CXr X.prog X.w X.stack H1 s1 E ev s'->EE ev s')
  (hdb:(fx == ("__debug__" : Str))=false:=by decide) (he:starEach (e::es) X.env=(false,eval e X.env)::starEach es X.env:=by rfl) (hpl:(backTo cpos (starEach es X.env)).any (·.1)=false:=by rfl) :
  wpAny (model X.prog X.w) X.A (eval (.Call (.Name fx fp) (e::es) [] cpos) X.env) QQ EE s:=by
 refine wpAny_Call_Name_kw (Zbu I hg hm ?_ hdb)
 refine PySem.W.callWith_K (h₀:=X.base) I.ok.mod.kin hk (wpAny_mono (ha cpos pins s σ H _ (I.wish _) h) (λus s1 ⟨vs,H1,I1,r,q⟩=>⟨I1.unwish.kIn,?_⟩) (λ_ _ z=>False.elim z)) he hpl
 have I1:=I1.unwish
 have r2:Vals (vs++dvs) (us++ds):=r.append hd
 have hl:(us++ds).length=ps.length:=by rw [<-r2.length];exact F.len _ _ _ _ q
 refine wpAny_call (codeAny_mono (F.run X.A X.stack s1 H1 ⟨us,[]⟩ (us++ds) (vs++dvs) Q E hr I1.env0 (hb s1 us I1.kIn hl) r2 q) λr s' hq=>?_)
 cases r with
 | error ev=>exact hE ev H1 s1 s' I1 hq
 | ok fl=>
  cases fl with
  | ret u=>exact hQ u s' (I1.after hq)
  | next=>exact False.elim hq
  | brk=>exact False.elim hq
  | cont=>exact False.elim hq
def Zk1 (K:PySem.W.Frag) (W:Addr) (i:Nat) (sp:Sp) (dvs:List V) (t:TA) (ts:TS):TS:=λD σ H=>t σ H λvs H1=>sp (vs++dvs) H1 (λ_ H2=>D.nx σ H2) (ZeY K W i ts D σ)
theorem Zh4 {W:Addr} {wx n:Str} {i:Nat} {b0:Stmt} {suite:List Stmt} {ts:TS} (F:ZaY X.prog X.w X.K X.mg X.base (CXr X.prog X.w) k f fd ps sp) (hr:Room k X.A) (hg:Gl X fx) (hm:X.mg fx=some (.ref f)) (hk:PySem.W.keepIn X.K (.ref f)=true)
  (hb:Binds X.K fd ps ds) (hd:Vals dvs ds) (ha:PA X.nox (e::es) t) (hc:X.calm=true) (hst:X.stack=X.env::X.outer) (hfr:X.env.frame=some X.env.locals) (hex:X.ex=[]) (hN:X.N.Nodup) (hi:X.N[i]?=some n) (hl:X.env.scope.names.lookup n=some .local)
  (hgW:Gl X wx) (hmW:X.mg wx=some (.ref W)) (hbE:PySem.W.subIn X.K (.ref W) (.type "BaseException")=some true) (hsu:∀ a,PSs (X.inExc a) (b0::suite) ts)
  (hdb:(fx == ("__debug__" : Str))=false:=by decide) (hdb2:(wx == ("__debug__" : Str))=false:=by decide) (he:starEach (e::es) X.env=(false,eval e X.env)::starEach es X.env:=by rfl) (hpl:(backTo cpos (starEach es X.env)).any (·.1)=false:=by rfl)
  (hs:swapsWith (.Call (.Name fx fp) (e::es) [] cpos) none bpos.line X.env=pure false:=by rfl) :
  PS X (.Try [.Expr (.Call (.Name fx fp) (e::es) [] cpos) bpos] [.ExceptHandler (some (.Name wx np)) (some n) (b0::suite) hpos] [] [] pos) (Zk1 X.K W i sp dvs t ts):=by
 intro pins s σ H D I h
 refine wpAny_Try_except (wpAny_execs_cons (wpAny_Expr_any (Zd8 F hr hg hm hk hb hd ha I h (λu s' hq=>?_) (λev H1 s1 s' I1 hq=>?_) hdb he hpl) I.quiet hs))
 ·obtain ⟨v,H2,I2,_,q⟩:=hq
  exact wpAny_execs_nil (wpAny_execs_nil ⟨σ,H2,I2,q⟩)
 ·exact handled hc hst hfr hex hN hi hl hgW hmW hbE hsu I1 hq hdb2
end
end L2
namespace L2
open PySem PySem.Spec PyProof.Rows
theorem ZeZ {K:PySem.W.Frag} {prog:Program} {w:World} {A:Around} {E:Value->Shared->Prop} {Q:Option Value->Shared->Prop} {s:Shared} {a C:Addr} (KX:K.In s.heap) (hx:ZdB a C s.heap)
  (hga:PySem.W.findIn K (.ref C) "__getattribute__" = some (some (.builtin "BaseException.__getattribute__"))) (hnga:PySem.W.findIn K (.ref C) "__getattr__" = some none)
  (hcl:PySem.W.findIn K (.ref C) "__class__" = some (some (.builtin "object.__class__"))) (hm:PySem.W.mroIn K C (.type "object")=some true) (hB:PySem.W.subIn K (.ref C) (.type "BaseException")=some true)
  (h:Q (some (.ref C)) { s with toks:=s.toks+1 }):wpAny (model prog w) A (getAttr? (.ref a) "__class__") Q E s:=by
 have L0:=Zc1 (M:=model prog w) hx
 have L1:=PySem.W.looks_findIn (M:=model prog w) KX hga
 have L2:=PySem.W.looks_findIn (M:=model prog w) KX hnga
 have L3:=PySem.W.looks_findIn (M:=model prog w) KX hcl
 have L4:=PySem.W.looks_subIn (M:=model prog w) KX hB
 obtain ⟨h0,g,d,t,os⟩:=s
 have f3:=PySem.F.attr_ValueError.ga.bind (.ref a)
 unfold getAttr? getAttrBy? getAttrBy
 refine wpAny_bind (wpAny_mkText (wpAny_bind (wpAny_attempt (wpAny_holding (wpAny_bind (L0.at (wpAny_bind (L1.at ?_))))))))
 dsimp only
 have hx2:(onTheHeap (Value.ref C) && Value.builtin "BaseException.__getattribute__" == Value.builtin "object.__getattribute__")=false:=by
  have z:(Value.builtin "BaseException.__getattribute__" == Value.builtin "object.__getattribute__")=false:=by decide +kernel
  rw [z,Bool.and_false]
 rw [hx2]
 simp only [Bool.false_eq_true,if_false]
 unfold getAttrByItsOwn
 repeat (any_goals (first | assumption | with_reducible refine L0.at ?_ | with_reducible refine L2.at ?_ | wp_step))
 have hsp:splitId "BaseException.__getattribute__" = some ("BaseException", "__getattribute__"):=by decide +kernel
 have hkd:builtinKind "BaseException.__getattribute__" = some .slot:=by decide +kernel
 have har:=PySem.F.args_bexc_ga (.ref a) (.str (Str.ofString "__class__") t)
 refine codeAny_call_builtin PySem.F.attr_ValueError.ga.plain PySem.F.entry_bexc_ga ?_
 show wpAny _ _ (checkBuiltinCall "BaseException.__getattribute__" ⟨[.ref a,.str (Str.ofString "__class__") t],[]⟩) _ _ _
 simp only [checkBuiltinCall,hkd,hsp]
 refine wpAny_bind ?_
 unfold isInstance
 have f5:=PySem.F.typeOf_object_class
 have f6:=PySem.F.slot_gs_get.lookup
 have f7:=PySem.F.slot_gs_set.lookup
 have hT5:(⟨h0,g,d,t+1,os⟩:Shared).TypeIs (.builtin "object.__class__") "getset_descriptor" := PySem.F.typeOf_object_class
 refine wpAny_bind (L0.at (L4.at ?_))
 repeat (any_goals (first | assumption | with_reducible refine L0.at ?_ | with_reducible refine L3.at ?_ | wp_step))
 have Lo:PySem.W.Looks (model prog w) h0 (isSubtype (.ref C) (.type (".".intercalate ("object.__class__".cutAt '.').dropLast))) true:=by
  rw [PySem.F.owner_object_class]
  exact PySem.W.looks_mroIn KX hm
 have hT6:(⟨h0,g,d,t+1,os⟩:Shared).TypeIs (.builtin "object.__class__") "getset_descriptor" := PySem.F.typeOf_object_class
 refine codeAny_call_builtin PySem.F.slot_gs_get.plain PySem.F.entry_gs_get (PySem.F.slot_gs_get.check _ _ _ _ _ _ _ _ hT6 (PySem.F.args_gs_get _ _ _) ?_)
 repeat (any_goals (first | assumption | with_reducible refine L0.at ?_ | with_reducible refine Lo.at ?_ | wp_step))
 refine ⟨Code.quiet_builtin _ (by decide +kernel),codeAny_builtin PySem.F.entry_object_class ?_⟩
 repeat (any_goals (first | assumption | with_reducible refine L0.at ?_ | wp_step))
end L2
namespace L2
open PySem PySem.Spec PyProof.Rows
structure Zi5 (K:PySem.W.Frag) (C:Addr):Prop where
 ex:ExcC K C
 ga:PySem.W.findIn K (.ref C) "__getattribute__" = some (some (.builtin "BaseException.__getattribute__"))
 nga:PySem.W.findIn K (.ref C) "__getattr__" = some none
 cl:PySem.W.findIn K (.ref C) "__class__" = some (some (.builtin "object.__class__"))
 ob:PySem.W.mroIn K C (.type "object")=some true
 be:PySem.W.subIn K (.ref C) (.type "BaseException")=some true
theorem Zd9 {K:PySem.W.Frag} {a C:Addr} (k:Zi5 K C):PySem.W.KitX K (.ref a) (.ref C) (ZdB a C) where
 ty:=λ_ _ _ p=>Zc1 p
 it:=λM h KX _=>by
  obtain ⟨_,_,_,⟨_,_,_,_,_,_,_,_,_,_,_,_,_,_,hC⟩,_⟩:=Zc0 KX k.ex
  intro A Q E s kk q
  unfold isType loadHead
  exact wpAny_bind (wpAny_loadPart (kk _ _ hC) (wpAny_pure q))
 ne:=λh tp dd its n sl KX htp=>by
  obtain ⟨_,_,_,⟨_,_,_,_,_,_,_,_,_,_,_,_,_,_,hC⟩,_⟩:=Zc0 KX k.ex
  refine Bool.eq_false_iff.mpr λq=>?_
  have e:C=tp:=Value.ref.inj (beq_iff_eq.mp q)
  rw [<-e,hC] at htp
  have z:=congrArg Obj.data (Option.some.inj htp)
  unfold excClassObj at z
  cases z
 ca:=λKX p q=>ZeZ KX p k.ga k.nga k.cl k.ob k.be q
def ZdC:V->Value
 | .ty n=>.type n
 | .ref a=>.ref a
 | _=>.none
def Ze0:V->Bool
 | .ty _=>true
 | .ref _=>true
 | _=>false
theorem RelV.cls {c:V} {u:Value} (r:RelV c u) (h:Ze0 c=true):u=ZdC c:=by
 cases c with
 | ty n=>exact r
 | ref a=>exact r
 | _=>cases h
theorem Vals.cls:∀ {cs:List V} {us:List Value},Vals cs us->cs.all Ze0=true->us=cs.map ZdC
 | _,_,.nil,_=>rfl
 | _,_,.cons r t,h=>by
  rw [List.all_cons,Bool.and_eq_true] at h
  rw [List.map_cons,r.cls h.1,Vals.cls t h.2]
def Zkh (K:PySem.W.Frag):List V->Hp->VK->Prop:=λxs H Q=>∃ x c b,xs=[x,c]/\Q (.bl b) H /\
 ((∃ t,ZdT K H x t/\Ze0 c=true/\PySem.W.kitOne K t (ZdC c)=some b) \/
  (∃ a C,x=.ref a/\H a=some (Zeq a C)/\Zi5 K C/\Ze0 c=true/\PySem.W.kitOne K (.ref C) (ZdC c)=some b) \/
  (∃ a C tp cs,x=.ref a/\H a=some (Zeq a C)/\Zi5 K C/\c=.ref tp/\H tp=some (.tup cs)/\cs.all Ze0=true/\PySem.W.kitAny K (.ref C) (cs.map ZdC)=some b))
theorem ZfS {X:Cx}:Zbw X (.builtin "isinstance") (Zkh X.K):=by
 intro pins s σ H xs us Q I rv h
 obtain ⟨x,c,b,rfl,q,h⟩:=h
 obtain ⟨u,cv,rfl,ru,rc⟩:=rv.two
 have fin:∀ tk,EP X pins σ Q (.bool b) { s with toks:=tk }:=λtk=>⟨.bl b,H,I.tok tk,rfl,q⟩
 rcases h with ⟨t,ty,hc,e⟩ | ⟨a,C,rfl,ha,k,hc,e⟩ | ⟨a,C,tp,cs,rfl,ha,k,rfl,ht,hc,e⟩
 ·rw [rc.cls hc]
  exact ZeQ I ru ty e fin
 ·rw [rc.cls hc]
  cases (show u=Value.ref a from ru)
  obtain ⟨p,_⟩:=I.hok a _ ha
  exact PySem.W.kia_one (Zd9 k) I.kIn p e (λz=>nomatch z) fin
 ·cases (show u=Value.ref a from ru)
  cases (show cv=Value.ref tp from rc)
  obtain ⟨p,_⟩:=I.hok a _ ha
  obtain ⟨_,its,r,o,eo,co,n,dn⟩:=I.hok tp _ ht
  obtain ⟨ocl,odi,oda,osl⟩:=o
  cases (show ocl=.type "tuple" from co)
  cases (show oda=.seq its.toArray n from dn)
  exact PySem.W.kia_tup (its:=its) (Zd9 k) I.kIn p eo (by rw [r.cls hc];exact e) (λz=>nomatch z) fin
mutual
inductive DatV (K:PySem.W.Frag) (H:Hp):V->PyData->Prop
 | non:DatV K H .non .none
 | bl (b:Bool):DatV K H (.bl b) (.bool b)
 | int (i:Int):DatV K H (.int i) (.int i)
 | str (x:Str):DatV K H (.str x) (.str x)
 | lst {a:Addr} {xs:List V} {ds:List PyData}:SqL K H a xs->DatVs K H xs ds->DatV K H (.ref a) (.list ds)
 | tup {a:Addr} {xs:List V} {ds:List PyData}:SqT K H a xs->DatVs K H xs ds->DatV K H (.ref a) (.tuple ds)
inductive DatVs (K:PySem.W.Frag) (H:Hp):List V->List PyData->Prop
 | nil:DatVs K H [] []
 | cons {x:V} {d:PyData} {xs:List V} {ds:List PyData}:DatV K H x d->DatVs K H xs ds->DatVs K H (x::xs) (d::ds)
end
section
variable {X:Cx} {pins:List (Addr×Obj)} {σ:St} {H:Hp} {s:Shared}
mutual
theorem DatV.reads (I:Inv X pins σ H s):∀ {x:V} {d:PyData} {u:Value},DatV X.K H x d->RelV x u->∃ as,Reads s.heap u d as
 | _,_,_,.non,r=>by cases r;exact ⟨_,.none⟩
 | _,_,_,.bl b,r=>by cases r;exact ⟨_,.bool b⟩
 | _,_,_,.int i,r=>by obtain ⟨t,rfl⟩:=r;exact ⟨_,.int i t⟩
 | _,_,_,.str x,r=>by obtain ⟨t,rfl⟩:=r;exact ⟨_,.str x t⟩
 | _,_,_,.lst hq hs,r=>by
  cases r
  obtain ⟨its,rv,⟨o,n,e,c,dd,dt⟩,_⟩:=I.list hq
  obtain ⟨as,ra⟩:=DatVs.reads I hs rv
  exact ⟨_,.list e c dt (by simpa using ra)⟩
 | _,_,_,.tup hq hs,r=>by
  cases r
  obtain ⟨its,rv,⟨o,e,c,n,dt⟩,_⟩:=I.tuple hq
  obtain ⟨as,ra⟩:=DatVs.reads I hs rv
  exact ⟨_,.tuple e c dt (by simpa using ra)⟩
theorem DatVs.reads (I:Inv X pins σ H s):∀ {xs:List V} {ds:List PyData} {us:List Value},DatVs X.K H xs ds->Vals xs us->∃ as,ReadsAll s.heap us ds as
 | _,_,_,.nil,.nil=>⟨_,.nil⟩
 | _,_,_,.cons h hs,.cons r rs=>by
  obtain ⟨as,ra⟩:=DatV.reads I h r
  obtain ⟨bs,rb⟩:=DatVs.reads I hs rs
  exact ⟨_,.cons ra rb⟩
end
end
def Zi6 (K:PySem.W.Frag) (neg:Bool):R2:=λx y H Q=>∃ d1 d2,DatV K H x d1/\DatV K H y d2/\SeqAt.shaped d1=true/\SeqAt.shaped d2=true/\Q (.bl (neg != PyData.eqv d1 d2)) H
theorem Zh5 {X:Cx} (hu:X.A.units+64<cLine):OpR X (compareOp .Eq) (Zi6 X.K false):=by
 intro pins s σ H x y v u Q I rx ry h
 obtain ⟨d1,d2,h1,h2,s1,s2,q⟩:=h
 obtain ⟨as,r1⟩:=h1.reads I rx
 obtain ⟨bs,r2⟩:=h2.reads I ry
 exact eq_dataH r1 r2 s1 s2 hu ⟨.bl _,H,I,by cases PyData.eqv d1 d2 <;> rfl,q⟩
theorem Zh6 {X:Cx} (hu:X.A.units+64<cLine):OpR X (compareOp .NotEq) (Zi6 X.K true):=by
 intro pins s σ H x y v u Q I rx ry h
 obtain ⟨d1,d2,h1,h2,s1,s2,q⟩:=h
 obtain ⟨as,r1⟩:=h1.reads I rx
 obtain ⟨bs,r2⟩:=h2.reads I ry
 exact ne_dataH r1 r2 s1 s2 hu ⟨.bl _,H,I,by cases PyData.eqv d1 d2 <;> rfl,q⟩
def Lt2 (p:Nat) (a:Int):Prop:=a.natAbs<2 ^ p
def Zk2 (i j:Int):Prop:=∃ p q,Lt2 p i/\Lt2 q j/\p<=100000/\q<=100000
def Zjw (i j:Int):Prop:=0<j/\Lt2 9000 j
theorem Zc2 {X:Cx}:OpR X (binaryOp .FloorDiv) (rI Zjw λi j=>.int (i / j)):=opI λi j _ _ _ _ _ hc q=>by
 have h1:(0:Int)<j:=hc.1
 have h2:j.natAbs<2 ^ 9000:=hc.2
 refine floordiv_int (by omega) (by rw [Int.fdiv_eq_ediv_of_nonneg i (by omega)];exact q) (.inl (PyProof.noPylong_of_log2 ?_))
 exact (Nat.log2_lt (by omega)).mpr h2
theorem Same.new {H:Hp} {p:Addr} {o:HO} (h:H p=none):Same H (upd H p o):=λb u e=>by rw [Zas (Zak e h)];exact e
theorem Same.put {H H1:Hp} {p:Addr} {o:HO} (s:Same H H1) (h:H p=none):Same H (upd H1 p o):=λb u e=>by rw [Zas (Zak e h)];exact s b u e
theorem Ze1 {H:Hp} {p b:Addr} {o u:HO} (h:H b=some u) (n:b≠p):upd H p o b=some u:=by rw [Zas n];exact h
inductive Prs (H:Hp):List V->List (Int×Int)->Prop
 | nil:Prs H [] []
 | cons {p:Addr} {a b:Int} {xs:List V} {rs:List (Int×Int)}:H p=some (.tup [.int a,.int b])->Prs H xs rs->Prs H (.ref p::xs) ((a,b)::rs)
theorem Prs.len {H:Hp} {xs:List V} {rs:List (Int×Int)} (h:Prs H xs rs):xs.length=rs.length:=by
 induction h with
 | nil=>rfl
 | cons _ _ ih=>rw [List.length_cons,List.length_cons,ih]
theorem Prs.snoc {H:Hp} {xs:List V} {rs:List (Int×Int)} (h:Prs H xs rs) {p:Addr} {a b:Int} (e:H p=some (.tup [.int a,.int b])):Prs H (xs++[.ref p]) (rs++[(a,b)]):=by
 induction h with
 | nil=>exact .cons e .nil
 | cons e1 _ ih=>exact .cons e1 ih
theorem Prs.keep {H H':Hp} {xs:List V} {rs:List (Int×Int)} (h:Prs H xs rs) (k:∀ p ys,H p=some (.tup ys)->H' p=some (.tup ys)):Prs H' xs rs:=by
 induction h with
 | nil=>exact .nil
 | cons e1 _ ih=>exact .cons (k _ _ e1) ih
theorem Prs.same {H H':Hp} {xs:List V} {rs:List (Int×Int)} (h:Prs H xs rs) (k:Same H H'):Prs H' xs rs:=h.keep λp ys e=>k p _ e
theorem Zce {H:Hp} {l:Addr} {zs:List V} {o:HO} (h:H l=some (.lst zs)):∀ p ys,H p=some (.tup ys)->upd H l o p=some (.tup ys):=λp ys e=>Ze1 e (Zjf e h (λz=>by cases z))
def prD (r:Int×Int):PyData:=.tuple [.int r.1,.int r.2]
theorem Prs.dats {K:PySem.W.Frag} {H:Hp} {xs:List V} {rs:List (Int×Int)} (h:Prs H xs rs):DatVs K H xs (rs.map prD):=by
 induction h with
 | nil=>exact .nil
 | cons e _ ih=>exact .cons (.tup (SqT.of e) (.cons (.int _) (.cons (.int _) .nil))) ih
theorem ZgX (r q:Int×Int):PyData.eqv (prD r) (prD q)=decide (r=q):=by
 obtain ⟨a,b⟩:=r
 obtain ⟨c,d⟩:=q
 simp only [prD,PyData.eqv,PyData.eqvAll,Prod.mk.injEq]
 by_cases h1:a=c <;> by_cases h2:b=d <;> simp [h1,h2]
theorem Ze2:∀ rs:List (Int×Int),PyData.canLayAll0 (rs.map prD)=true
 | []=>by simp [PyData.canLayAll0]
 | r::rs=>by
  rw [List.map_cons]
  simp [PyData.canLayAll0,prD,PyData.canLay0,Ze2 rs]
theorem ZdD:∀ rs:List (Int×Int),PyData.depthAll (rs.map prD)<=2
 | []=>by simp [PyData.depthAll]
 | r::rs=>by
  have ih:=ZdD rs
  rw [List.map_cons]
  simp only [PyData.depthAll,prD,PyData.depth]
  omega
theorem ZcG (rs:List (Int×Int)):SeqAt.shaped (.list (rs.map prD))=true:=by
 unfold SeqAt.shaped
 rw [Bool.and_eq_true]
 refine ⟨by simp only [PyData.canLay0];exact Ze2 rs,decide_eq_true ?_⟩
 have:=ZdD rs
 simp only [PyData.depth]
 omega
end L2
namespace L2
open PySem PySem.Spec PyProof.Rows
section
variable {P:Program} {w:World} {K:PySem.W.Frag} {mg:Str->Option Value} {base:Heap}
theorem Fun.okR {x qual:Str} {st:Stmt} {f:Addr} {fd:FuncData} {N ps:List Str} {k:Nat} {sp:Sp} (F:Fun K x qual st f fd) (S:ZaC N ps (Zaf st)) (len:∀ vs H Q E,sp vs H Q E->vs.length=ps.length)
  (hbody:∀ (cdv:Value) (A:Around) (outer:List Env) (s:Shared) (H:Hp) (vs:List V) (Q:VK) (E:XK),Room k (A.deeper (envOfC qual (Zaf st) s.heap.objs.size f cdv))->sp vs H Q E ->
   ∃ t,PSs (ZeA (CXr P w) P w K mg base N qual (Zaf st) f cdv A outer s H E) (Zav st) t/\t { nx:=λ_ H'=>Q .non H',rt:=Q } (ZcD N vs) H):ZaY P w K mg base (CXr P w) (k+1) f fd ps sp:=by
 obtain ⟨oc,od,kV,doc,pm,an,cdv,ct,osl,rfl,lk,hcd⟩:=F.ex
 refine ZgQ lk hcd S len λA outer s H vs Q E hr hsp=>?_
 obtain ⟨t,h,q⟩:=hbody cdv A outer s H vs Q E hr hsp
 exact ⟨t,h,q⟩
end
section
variable {X:Cx}
theorem Zh7 {x:Str} {a:Addr} {pos:Pos} (hm:X.mg x=some (.ref a)) (hg:Gl X x:=by rfl) (hd:(x == ("__debug__" : Str))=false:=by decide):PE X (.Name x pos) (tC (.ref a)):=Zci hg hm rfl hd
theorem Zbs {x:Str} {T:String} {pos:Pos} (hm:X.mg x=none) (hv:bootBuiltins x=some (.type T)) (hg:Gl X x:=by rfl) (hn:x ≠ "__name__" := by decide) (hd:(x == ("__debug__" : Str))=false:=by decide):PE X (.Name x pos) (tC (.ty T)):=ZgJ hg hm hv rfl hn hd
end
theorem ZaK:bootBuiltins "isinstance" = some (.builtin "isinstance"):=by first | rfl | decide +kernel
theorem ZgY:bootBuiltins "ValueError" = some (.type "ValueError"):=by first | rfl | decide +kernel
theorem ZbY:bootBuiltins "tuple" = some (.type "tuple"):=by first | rfl | decide +kernel
theorem ZbL:bootBuiltins "list" = some (.type "list"):=by first | rfl | decide +kernel
theorem Ze3:bootBuiltins "bool" = some (.type "bool"):=by first | rfl | decide +kernel
theorem boot_int:bootBuiltins "int" = some (.type "int"):=by first | rfl | decide +kernel
theorem Za0 {K:PySem.W.Frag} {t:Value}:PySem.W.kitOne K t t=some true:=by
 unfold PySem.W.kitOne
 rw [if_pos (beq_self_eq_true t)]
section
variable {X:Cx} (K:PySem.W.Frag)
theorem Zer (h:X.K=K:=by rfl):Zbw X (.builtin "isinstance") (Zkh K):=h▸ZfS
theorem Za8 (h:X.K=K:=by rfl):IxR X (Zi2 K):=h▸ZeS
theorem Zes (h:X.K=K:=by rfl):IxR X (Zi3 K):=h▸Zgq
theorem Ze4 (h:X.K=K:=by rfl):Zbw X (.builtin "len") (λxs H Q=>∃ p ys,xs=[.ref p]/\(SqL K H p ys\/SqT K H p ys)/\Q (.int ys.length) H):=h▸Zdw
theorem ZgZ (h:X.K=K:=by rfl):Zbw X (.type "list") (λxs H Q=>∃ p ys,xs=[.ref p]/\(SqL K H p ys\/SqT K H p ys)/\∀ l,H l=none->Q (.ref l) (upd H l (.lst ys))):=h▸Zdx
theorem Zi7 (hu:X.A.units+64<cLine) (h:X.K=K:=by rfl):OpR X (compareOp .Eq) (Zi6 K false):=h▸Zh5 hu
theorem Zjx (hu:X.A.units+64<cLine) (h:X.K=K:=by rfl):OpR X (compareOp .NotEq) (Zi6 K true):=h▸Zh6 hu
theorem kSl (h:X.K=K:=by rfl):SlR X (Zkb K):=h▸ZgU
theorem Zi8 {es:List Expr} {k:Nat} {t:TGs} {n:Nat} {pos:Pos} (hc:X.calm=true) (h:PGs X es t) (hK:X.K=K:=by rfl)
  (hn:(assignEach es X.env).length=n:=by rfl) (hst:(assignEach es X.env).findIdx? (·.1)=none:=by rfl):PG X (.Tuple es k pos) (Zj3 K n t):=hK▸ZhO hc h hn hst
theorem ZfT {tg l:Expr} {tl:TE} (hl:PE X l tl) (h:X.K=K:=by rfl):PI X tg l (ZhP K tl):=h▸ZgL hl
end
end L2
namespace L2
open PySem
def Zjy (r c:Nat) (p:Nat):List (Int×Int):=
 (if ((p:Int)+1) % (c:Int)=0 then [] else [((p:Int),(p:Int)+1)])++(if (p:Int)+(c:Int)<(r:Int) * (c:Int) then [((p:Int),(p:Int)+(c:Int))] else [])
def Zki (r c i:Nat):List (Int×Int):=(List.range i).flatMap (Zjy r c)
def Zjz (r c i j:Nat):List (Int×Int):=
 (if (j:Int)<(c:Int)-1 then [((i:Int) * (c:Int)+(j:Int),(i:Int) * (c:Int)+(j:Int)+1)] else []) ++
 (if (i:Int)<(r:Int)-1 then [((i:Int) * (c:Int)+(j:Int),((i:Int)+1) * (c:Int)+(j:Int))] else [])
def Zk3 (r c i j:Nat):List (Int×Int):=(List.range j).flatMap (Zjz r c i)
def Zkj (r c i:Nat):List (Int×Int):=(List.range i).flatMap λk=>Zk3 r c k c
end L2
namespace L2
open PySem PySem.Spec PyProof.Rows
def AllP {α:Type} (P:α->Prop):List α->Prop
 | []=>True
 | x::r=>P x/\AllP P r
theorem AllP.mem {α:Type} {P:α->Prop}:∀ {l:List α},AllP P l->∀ x∈l,P x
 | _::_,h,_,.head _=>h.1
 | _::_,h,x,.tail _ m=>AllP.mem h.2 x m
theorem Zbb {X:Cx} {scope:Scope} {cl:List (Str×Addr)} {own:List Str} {fr:List (Str×Nat)} (L:List (Str×NameKind)) (hcl:closureFor scope X.env=pure cl) (hL:(relabel scope X.env).names=L)
  (hc:∀ y∈scope.names,y.2≠.cell) (hk:scope.kind=.function) (hn:∀ y∈scope.names,y.2=.local->scope.names.lookup y.1=some .local)
  (hcs:AllP (λp=>X.env.cells.lookup p.1=some p.2) cl) (hall:AllP (λp=>(p.2=.cell\/p.2=.free)->∃ c,cl.lookup p.1=some c) L)
  (hfr:AllP (λp=>X.N[p.2]?=some p.1/\(X.env.kindOf p.1=some .cell\/X.env.kindOf p.1=some .free)/\(L.lookup p.1=some .cell\/L.lookup p.1=some .free)) fr):Za7 X scope cl own fr:=
 ⟨hcl,hc,hk,hn,λy c h=>hcs.mem (y,c) (PySem.mem_of_lookup h),λy h=>by
  rw [hL] at h
  rcases h with h | h
  ·exact hall.mem _ (PySem.mem_of_lookup h) (.inl rfl)
  ·exact hall.mem _ (PySem.mem_of_lookup h) (.inr rfl),λp hp=>by
  rw [hL]
  exact hfr.mem p hp⟩
theorem ZdE {k:NameKind} {P:Prop} (h:k=.cell\/k=.free) (h1:(k == .cell)=false:=by rfl) (h2:(k == .free)=false:=by rfl):P:=by
 rcases h with z | z
 ·subst z;exact absurd h1 (by decide)
 ·subst z;exact absurd h2 (by decide)
theorem Zc3:bootBuiltins "min" = some (.builtin "min"):=by first | rfl | decide +kernel
def Ze5 (n:Int) (rs:List (Int×Int)):Prop:=1<=n/\n<=16/\rs.length<=30/\(∀ p∈rs,0<=p.1/\p.1<p.2/\p.2<n)/\rs.Nodup
instance (n:Int) (rs:List (Int×Int)):Decidable (Ze5 n rs):=by unfold Ze5;infer_instance
structure Dk (H0 H:Hp) (d:Addr):Prop where
 keep:∀ b o,b≠d->H0 b=some o->H b=some o
 at_:∃ n:Int,H d=some (.lst [.int n])
section
variable {H0 H H':Hp} {d p:Addr} {o:HO}
end
theorem Prs.get {H:Hp}:∀ {xs:List V} {rs:List (Int×Int)},Prs H xs rs->∀ {i:Nat} {x:V},xs[i]?=some x->∃ t r,x=.ref t/\H t=some (.tup [.int r.1,.int r.2])/\rs[i]?=some r
 | _,_,.nil,_,_,h=>by simp at h
 | _,_,.cons (a:=a) (b:=b) e _,0,_,h=>by
  simp at h
  subst h
  exact ⟨_,(a,b),rfl,e,rfl⟩
 | _,_,.cons _ r,i+1,x,h=>by
  obtain ⟨t,q,h1,h2,h3⟩:=Prs.get r (i:=i) (x:=x) (by simpa using h)
  exact ⟨t,q,h1,h2,by simpa using h3⟩
theorem Prs.app {H:Hp} {xs ys:List V} {rs qs:List (Int×Int)} (h:Prs H xs rs) (k:Prs H ys qs):Prs H (xs++ys) (rs++qs):=by
 induction h with
 | nil=>exact k
 | cons e _ ih=>exact .cons e ih
theorem ZaD {t u:TS} {D:Zdm} {σ:St} {H:Hp} (Pm:St->Hp->Prop) (h2:∀ σ' H',Pm σ' H'->u D σ' H') (h1:(∀ σ' H',Pm σ' H'->u D σ' H')->t { D with nx:=u D } σ H):Zjj t u D σ H:=h1 h2
end L2
namespace L2
open PySem PySem.Spec PyProof.Rows
section
variable {X:Cx} (K:PySem.W.Frag)
def ZjA:List V->Hp->VK->Prop:=λxs H Q=>∃ (p:Addr) (ns:List Int),xs=[.ref p]/\SqL K H p (ns.map V.int)/\ns.length<64/\∀ (l:Addr) (ns':List Int),H l=none->ns'.Perm ns->ns'.Pairwise (· <= ·)->Q (.ref l) (upd H l (.lst (ns'.map V.int)))
end
section
variable {X:Cx}
end
section
variable {X:Cx}
theorem Ze6:UnR X (unaryOp .USub) (rU λi=>.int (-i)):=by
 intro pins s σ H x v Q I rx h
 obtain ⟨i,rfl,q⟩:=h
 obtain ⟨t,rfl⟩:=rx
 exact neg_int ⟨.int (-i),H,I.tok _,⟨_,rfl⟩,q⟩
end
theorem Zgr {xs:List V} {k:Nat}:Zdu xs none (some (k:Int))=xs.take k:=by
 unfold Zdu
 rw [HT.sIx_none,HT.sIx_nat,List.drop_zero,Nat.sub_zero]
 by_cases h:k<=xs.length
 ·rw [Nat.min_eq_left h]
 ·rw [Nat.min_eq_right (by omega),List.take_length,List.take_of_length_le (by omega)]
theorem ZbM {xs:List V} {k:Nat}:Zdu xs (some (k:Int)) none=xs.drop k:=by
 unfold Zdu
 rw [HT.sIx_none,HT.sIx_nat]
 by_cases h:k<=xs.length
 ·rw [Nat.min_eq_left h,List.take_of_length_le (by rw [List.length_drop];exact Nat.le_refl _)]
 ·rw [Nat.min_eq_right (by omega),List.drop_length,List.drop_of_length_le (by omega),List.take_nil]
theorem Zea:∀ ns:List Int,PyData.canLayAll0 (ns.map PyData.int)=true
 | []=>by simp [PyData.canLayAll0]
 | n::ns=>by
  rw [List.map_cons]
  simp [PyData.canLayAll0,PyData.canLay0,Zea ns]
theorem ZcH:∀ ns:List Int,PyData.depthAll (ns.map PyData.int)<=1
 | []=>by simp [PyData.depthAll]
 | n::ns=>by
  have ih:=ZcH ns
  rw [List.map_cons]
  simp only [PyData.depthAll,PyData.depth]
  omega
theorem Zbk (ns:List Int):SeqAt.shaped (.list (ns.map PyData.int))=true:=by
 unfold SeqAt.shaped
 rw [Bool.and_eq_true]
 have:=ZcH ns
 refine ⟨by simp only [PyData.canLay0];exact Zea ns,decide_eq_true ?_⟩
 simp only [PyData.depth]
 omega
end L2
namespace L2
open PySem PySem.Spec PyProof.Rows
section
variable {X:Cx}
def ZjB (K:PySem.W.Frag) (neg:Bool):R2:=λx y H Q=>∃ p xs d ds,y=.ref p/\(SqL K H p xs\/SqT K H p xs)/\DatV K H x d/\DatVs K H xs ds/\SeqAt.shaped d=true/\(∀ e∈ds,SeqAt.shaped e=true)/\Q (.bl (neg != ds.any λe=>PyData.eqv e d)) H
open Classical in
noncomputable def ZbZ (h:Heap) (u:Value):PyData:=if q:∃ d as,Reads h u d as/\SeqAt.shaped d=true then choose q else .none
theorem ZfU {h:Heap} {u:Value} {d:PyData} {as:List Addr} (r:Reads h u d as) (hs:SeqAt.shaped d=true):ZbZ h u=d:=by
 have q:∃ d as,Reads h u d as/\SeqAt.shaped d=true:=⟨d,as,r,hs⟩
 unfold ZbZ
 rw [dif_pos q]
 obtain ⟨as',r',s'⟩:=Classical.choose_spec q
 exact SeqAt.Reads.unique _ _ _ _ _ (SeqAt.canLay_of_shaped s') r' r
theorem Zgs {h:Heap}:∀ {us:List Value} {ds:List PyData} {as:List Addr},ReadsAll h us ds as->(∀ e∈ds,SeqAt.shaped e=true)->(∀ u∈us,∃ as',Reads h u (ZbZ h u) as'/\SeqAt.shaped (ZbZ h u)=true)/\us.map (ZbZ h)=ds
 | _,_,_,.nil,_=>⟨λu hu=>by simp at hu,rfl⟩
 | _,_,_,.cons r rs,hs=>by
  obtain ⟨i1,i2⟩:=Zgs rs λe he=>hs e (List.mem_cons_of_mem _ he)
  have h0:=hs _ (List.mem_cons_self ..)
  have e0:=ZfU r h0
  refine ⟨λu hu=>?_,by rw [List.map_cons,e0,i2]⟩
  rcases List.mem_cons.mp hu with rfl | hu
  ·rw [e0];exact ⟨_,r,h0⟩
  ·exact i1 u hu
theorem ZfV {h:Heap} {us:List Value} {ds:List PyData} {d:PyData} (e:us.map (ZbZ h)=ds):us.any (λu=>PyData.eqv (ZbZ h u) d)=ds.any λe=>PyData.eqv e d:=by
 rw [<-e,List.any_map]
 rfl
theorem Zgt {neg:Bool} {c:CmpOp} (hc:(neg=false/\c=.In)\/(neg=true/\c=.NotIn)) (hu:X.A.units+65<cLine):OpR X (compareOp c) (ZjB X.K neg):=by
 intro pins s σ H x y v u Q I rx ry h
 obtain ⟨p,xs,d,ds,rfl,hq,hd,hds,sd,sds,q⟩:=h
 cases ry
 obtain ⟨as,ra⟩:=hd.reads I rx
 have hu1:X.A.in1.units+64<cLine:=by rw [Around.in1_units];omega
 have key:∀ its:List Value,Vals xs its->(∀ w∈its,SeqAt.EqAt X.A.in1 s w v (PyData.eqv (ZbZ s.heap w) d))/\its.toArray.any (λw=>PyData.eqv (ZbZ s.heap w) d)=ds.any λe=>PyData.eqv e d:=λits r=>by
  obtain ⟨bs,rb⟩:=hds.reads I r
  obtain ⟨k1,k2⟩:=Zgs rb sds
  refine ⟨λw hw=>?_,?_⟩
  ·obtain ⟨as',r',s'⟩:=k1 w hw
   exact PySem.W.keq_at r' ra s' sd hu1
  ·rw [List.any_toArray]
   exact ZfV k2
 rcases hq with hq | hq
 ·obtain ⟨its,r,pl,hz⟩:=I.list hq
  obtain ⟨k1,k2⟩:=key its r
  rcases hc with ⟨rfl,rfl⟩ | ⟨rfl,rfl⟩
  ·refine SeqAt.in_listAt (λw=>PyData.eqv (ZbZ s.heap w) d) pl.isList (λw hw=>k1 w (by simpa using hw)) ⟨.bl _,H,I,rfl,?_⟩
   rw [k2];simpa using q
  ·refine SeqAt.notIn_listAt (λw=>PyData.eqv (ZbZ s.heap w) d) pl.isList (λw hw=>k1 w (by simpa using hw)) ⟨.bl _,H,I,rfl,?_⟩
   rw [k2];simpa using q
 ·obtain ⟨its,r,pl,hz⟩:=I.tuple hq
  obtain ⟨k1,k2⟩:=key its r
  rcases hc with ⟨rfl,rfl⟩ | ⟨rfl,rfl⟩
  ·refine SeqAt.in_tupleAt (λw=>PyData.eqv (ZbZ s.heap w) d) pl (λw hw=>k1 w (by simpa using hw)) ⟨.bl _,H,I,rfl,?_⟩
   rw [k2];simpa using q
  ·refine SeqAt.notIn_tupleAt (λw=>PyData.eqv (ZbZ s.heap w) d) pl (λw hw=>k1 w (by simpa using hw)) ⟨.bl _,H,I,rfl,?_⟩
   rw [k2];simpa using q
theorem Zk4 (K:PySem.W.Frag) (hu:X.A.units+65<cLine) (h:X.K=K:=by rfl):OpR X (compareOp .In) (ZjB K false):=h▸Zgt (.inl ⟨rfl,rfl⟩) hu
theorem Zg0 (K:PySem.W.Frag) (hu:X.A.units+65<cLine) (h:X.K=K:=by rfl):OpR X (compareOp .NotIn) (ZjB K true):=h▸Zgt (.inr ⟨rfl,rfl⟩) hu
theorem Ze7 (rs:List (Int×Int)) (q:Int×Int):(rs.map prD).any (λe=>PyData.eqv e (prD q))=decide (q∈rs):=by
 induction rs with
 | nil=>rfl
 | cons r rs ih=>
  rw [List.map_cons,List.any_cons,ih,ZgX]
  by_cases h1:r=q
  ·subst h1;simp
  ·have h2:¬ q=r:=λz=>h1 z.symm
   simp [h1,h2]
theorem Zb0 (r:Int×Int):SeqAt.shaped (prD r)=true:=by
 unfold SeqAt.shaped prD
 simp [PyData.canLay0,PyData.canLayAll0,PyData.depth,PyData.depthAll]
theorem Zeb (rs:List (Int×Int)):∀ e∈rs.map prD,SeqAt.shaped e=true:=λe he=>by
 obtain ⟨r,_,rfl⟩:=List.mem_map.mp he
 exact Zb0 r
def Zi9:V->List V->Hp->VK->Prop:=λx vs H Q=>∃ l xs y,x=.ref l/\vs=[.int 0,y]/\H l=some (.lst xs)/\xs.length<sizeLine/\Q .non (upd H l (.lst (y::xs)))
end
end L2
namespace L2
open PySem PySem.Spec PyProof.Rows
section
variable {X:Cx}
def ZjC:V->List V->Hp->VK->Prop:=λx vs H Q=>∃ l xs i y,x=.ref l/\vs=[.int i,y]/\H l=some (.lst xs)/\0<=i/\i<=xs.length/\xs.length<sizeLine/\Q .non (upd H l (.lst (xs.take i.toNat++y::xs.drop i.toNat)))
def Ite (K:PySem.W.Frag) (a:Addr):It:=
 ⟨λi H=>∃ xs x,SqL K H a xs/\xs[i]?=some x,λi H x H'=>∃ T y,x=.ref T/\H T=none/\H'=upd H T (.tup [.int (i:Nat),y])/\∀ xs,SqL K H a xs->xs[i]?=some y,λi H=>∃ xs,SqL K H a xs/\xs.length<=i⟩
def Zk5 (K:PySem.W.Frag) (ta:TA):TI:=λσ H R=>ta σ H λvs H1=>∃ a xs,vs=[.ref a]/\SqL K H1 a xs/\R (Ite K a) H1
end
abbrev TB:=Zdm->(St->XK)->St->Hp->Prop
def PB (X:Cx) (body:List Stmt) (tb:TB):Prop:=∀ (pins:List (Addr×Obj)) (s:Shared) (σ:St) (H:Hp) (D:Zdm) (Eσ:St->XK) (QQ:Flow->Shared->Prop) (EE:Value->Shared->Prop),Inv X pins σ H s->tb D Eσ σ H ->
 (∀ fl s',SP X pins D fl s'->QQ fl s')->(∀ σ1 ev H1 s1 s',Inv X pins σ1 H1 s1->CXr X.prog X.w X.stack H1 s1 (Eσ σ1) ev s'->EE ev s')->wpAny (model X.prog X.w) X.A (execs body X.env) QQ EE s
section
variable {X:Cx} {k:Nat} {f:Addr} {fd:FuncData} {ps:List Str} {sp:Sp} {dvs:List V} {ds:List Value} {fx:Str} {fp cpos bpos np hpos pos:Pos} {e:Expr} {es:List Expr} {t:TA}
theorem Zg1 {body:List Stmt} {tb:TB} {W:Addr} {wx n:Str} {i:Nat} {b0:Stmt} {suite:List Stmt} {ts:TS} (hB:PB X body tb) (hc:X.calm=true) (hst:X.stack=X.env::X.outer) (hfr:X.env.frame=some X.env.locals) (hex:X.ex=[]) (hN:X.N.Nodup) (hi:X.N[i]?=some n)
  (hl:X.env.scope.names.lookup n=some .local) (hgW:Gl X wx) (hmW:X.mg wx=some (.ref W)) (hbE:PySem.W.subIn X.K (.ref W) (.type "BaseException")=some true) (hsu:∀ a,PSs (X.inExc a) (b0::suite) ts) (hdb2:(wx == ("__debug__" : Str))=false:=by decide) :
  PS X (.Try body [.ExceptHandler (some (.Name wx np)) (some n) (b0::suite) hpos] [] [] pos) (λD σ H=>tb D (λσ1=>ZeY X.K W i ts D σ1) σ H):=by
 intro pins s σ H D I h
 refine wpAny_Try_except (hB pins s σ H D _ _ _ I h (λfl s' hq=>?_) (λσ1 ev H1 s1 s' I1 hq=>handled hc hst hfr hex hN hi hl hgW hmW hbE hsu I1 hq hdb2))
 cases fl with
 | next=>exact wpAny_execs_nil hq
 | brk=>exact hq
 | cont=>exact hq
 | ret u=>exact hq
end
end L2
namespace L2
open PySem PySem.Spec PyProof.Rows
section
variable {X:Cx} {a b c d:Expr} {ta tb tc td:TE} {pos:Pos}
def Zg2 (r1 r2 r3:R2) (ta tb tc td:TE):TE:=λσ H Q=>ta σ H λx H1=>tb σ H1 λy H2=>r1 x y H2 λz H3=>∃ k,z=.bl k /\
 (if k=true then tc σ H3 λw' H4=>r2 y w' H4 λz' H5=>∃ k',z'=.bl k'/\(if k'=true then td σ H5 λu' H6=>r3 w' u' H6 Q else Q (.bl false) H5) else Q (.bl false) H3)
theorem Ze8 {o1 o2 o3:CmpOp} {r1 r2 r3:R2} (h1:OpR X (compareOp o1) r1) (h2:OpR X (compareOp o2) r2) (h3:OpR X (compareOp o3) r3) (ha:PE X a ta) (hb:PE X b tb) (hc:PE X c tc) (hd:PE X d td)
  (hm:lastMarks [o1,o2,o3] [b,c,d]=false:=by with_unfolding_all rfl):PE X (.Compare a [o1,o2,o3] [b,c,d] pos) (Zg2 r1 r2 r3 ta tb tc td):=by
 intro pins s σ H Q I h
 refine Compare_chain (thn (ha pins s σ H _ I h) λv s1 ⟨x,H1,I1,q1r,q1⟩=>chain_link (thn (hb pins s1 σ H1 _ I1 q1) λu s2 ⟨y,H2,I2,q2r,q2⟩=>
  thn (h1 pins s2 σ H2 x y v u _ I2 q1r q2r q2) λd' s3 ⟨z,H3,I3,r3',k,e,q3⟩=>?_)) hm
 subst e
 cases r3'
 refine wpAny_truthy_bool ?_
 cases k with
 | false=>exact ite_ff ⟨.bl false,H3,I3,rfl,q3⟩
 | true=>
  refine ite_tt (chain_link (thn (hc pins s3 σ H3 _ I3 q3) λw' s4 ⟨z',H4,I4,r4,q4⟩=>thn (h2 pins s4 σ H4 y z' u w' _ I4 q2r r4 q4) λd2 s5 ⟨z2,H5,I5,r5,k2,e2,q5⟩=>?_))
  subst e2
  cases r5
  refine wpAny_truthy_bool ?_
  cases k2 with
  | false=>exact ite_ff ⟨.bl false,H5,I5,rfl,q5⟩
  | true=>exact ite_tt (chain_last (thn (hd pins s5 σ H5 _ I5 q5) λw2 s6 ⟨z3,H6,I6,r6,q6⟩=>h3 pins s6 σ H6 z' z3 w' w2 Q I6 r4 r6 q6))
theorem Zec:bootBuiltins "all" = some (.builtin "all"):=by first | rfl | decide +kernel
theorem ZfW:bootBuiltins "set" = some (.type "set"):=by first | rfl | decide +kernel
theorem ZdF:∀ {bs:List Bool} {us:List Value},Vals (bs.map V.bl) us->us=bs.map Value.bool
 | [],_,.nil=>rfl
 | b::bs,_,.cons r t=>by rw [List.map_cons,<-ZdF t];cases r;rfl
theorem Ze9 (bs:List Bool):(List.range bs.length).all (λi=>bs.getD i false)=bs.all id:=by
 induction bs with
 | nil=>rfl
 | cons b bs ih=>
  rw [List.length_cons,List.range_succ_eq_map,List.all_cons,List.all_map,List.all_cons]
  show (b && _)=(b && _)
  congr 1
theorem Zkk (K:PySem.W.Frag) (hc:X.calm=true) (h:X.K=K:=by rfl):Zbw X (.builtin "all") (λxs H Q=>∃ (p:Addr) (bs:List Bool),xs=[.ref p]/\SqL K H p (bs.map V.bl)/\Q (.bl (bs.all id)) H):=by
 subst h
 intro pins s σ H xs us Q I rv h
 obtain ⟨p,bs,rfl,hq,q⟩:=h
 obtain ⟨u,rfl,ru⟩:=rv.one
 cases ru
 obtain ⟨its,r,pl,hz⟩:=I.list hq
 have e:=ZdF r
 have hh:X.A.in1.handled=none:=I.ok.hd hc
 obtain ⟨o,eo,_⟩:=id pl.isList
 have hlt:p<s.heap.objs.size:=Heap.lt_size eo
 refine call_all_walk (wpAny_pyIter_list pl.isList ?_)
 refine ⟨s.heap.objs.size,_,_,_,_,_,λi=>bs.getD i false,rfl,Walks.list hh s.heap.objs.size p (Nat.ne_of_lt hlt) its.toArray,⟨⟨_,Heap.get?_push_size _ rfl,rfl,rfl⟩,pl.isList.at λo e=>Heap.get?_push_of_some _ e⟩,?_,λh' tk hk=>?_⟩
 ·intro i v s' Q' E' hv hq'
  have hv':its[i]?=some v:=by simpa using hv
  rw [e,List.getElem?_map] at hv'
  cases z:bs[i]? with
  | none=>rw [z] at hv';cases hv'
  | some b=>
   rw [z] at hv'
   cases hv'
   have eb:bs.getD i false=b:=by rw [List.getD_eq_getElem?_getD,z];rfl
   exact wpAny_truthy_bool (by rw [<-eb];exact hq')
 ·have hl:its.toArray.size=bs.length:=by rw [List.size_toArray,e,List.length_map]
  have I1:Inv X pins σ H { s with heap:=s.heap.push { cls:=.type "list_iterator", data:=.fields #[.ref p,.int 0 0] } }:=I.kept (t':=s.toks) λb o e=>Heap.get?_push_of_some _ e
  refine ⟨.bl _,H,I.kept λb o e'=>hk b o ?_ (Heap.get?_push_of_some _ e'),?_,q⟩
  ·intro z
   have:b=s.heap.objs.size:=by simpa using z
   exact absurd (Heap.lt_size e') (by rw [this];exact Nat.lt_irrefl _)
  ·show Value.bool _=Value.bool _
   rw [hl,Ze9]
end
end L2
namespace L2
open PySem PySem.Spec PyProof.Rows
section
variable {κ:Type} [DecidableEq κ]
def ZfX (kvs:List (κ×V)) (k:κ):Option V:=(kvs.find? λkv=>decide (kv.1=k)).map (·.2)
def ZjD (kvs:List (κ×V)) (k:κ) (v:V):List (κ×V):=
 if (kvs.any λkv=>decide (kv.1=k))=true then kvs.map (λkv=>if kv.1=k then (kv.1,v) else kv) else kvs++[(k,v)]
def Zg3 (kvs:List (κ×V)) (k:κ):List (κ×V):=kvs.filter λkv=>decide (kv.1≠k)
end
abbrev KT (H:Hp):List (List Key×V)->List (List Key×Addr×Value)->Prop:=Paired λp q=>p.1=q.1/\H q.2.1=some (.tup (p.1.map kV))/\RelV p.2 q.2.2
section
variable {P:Program} {w:World} {H:Hp} {h:Heap} {a:Addr}
end
def ZhF (H:Hp) (a:Addr) (y:V) (r:Option V):Prop:=
 (∃ kvs k,Rd H a (.dK kvs)/\y=kV k/\r=ZfX kvs k)\/∃ kvs k b,Rd H a (.dT kvs)/\y=.ref b/\H b=some (.tup (k.map kV))/\r=ZfX kvs k
def Zkl (H:Hp) (a:Addr) (y v:V) (H':Hp):Prop:=
 (∃ kvs k,H a=some (.dK kvs)/\y=kV k/\kvs.length<sizeLine/\H'=upd H a (.dK (ZjD kvs k v))) \/
 ∃ kvs k b,H a=some (.dT kvs)/\y=.ref b/\H b=some (.tup (k.map kV))/\kvs.length<sizeLine/\H'=upd H a (.dT (ZjD kvs k v))
section
variable {X:Cx} {pins:List (Addr×Obj)} {σ:St} {H:Hp} {s:Shared} {a:Addr} {y v:V} {u r:Value} {o:Option V} {A:Around} {E:Value->Shared->Prop}
theorem Inv.big (I:Inv X pins σ H s):sysModules<s.heap.objs.size:=by
 have h:mainGlobals<s.heap.objs.size:=(I.mod.glob.keeps I.bk).lt
 exact Nat.lt_trans (by decide) h
end
section
variable {X:Cx} {pins:List (Addr×Obj)} {σ:St} {H:Hp} {s:Shared} {a:Addr} {kvs:List (Key×V)} {k:Key} {u:Value} {A:Around} {E:Value->Shared->Prop}
end
def Zl2 (i:Expr):Prop:=∀ ov iv,subscripted i false ov iv=operate [ov,iv] (getItem ov iv)
def Zk6 (td ty:TE):TE:=λσ H Q=>td σ H λx H1=>ty σ H1 λy H2=>∃ a v,x=.ref a/\ZhF H2 a y (some v)/\Q v H2
def Zl3 (ty td:TE):TE:=λσ H Q=>ty σ H λy H1=>td σ H1 λx H2=>∃ a o,x=.ref a/\ZhF H2 a y o/\Q (.bl o.isSome) H2
def ZjE (ty td:TE):TE:=λσ H Q=>ty σ H λy H1=>td σ H1 λx H2=>∃ a o,x=.ref a/\ZhF H2 a y o/\Q (.bl (!o.isSome)) H2
def Zk7 (td ty tv:TE):TS:=λD σ H=>tv σ H λv H1=>td σ H1 λx H2=>ty σ H2 λy H3=>∃ a H4,x=.ref a/\Zkl H3 a y v H4/\D.nx σ H4
def Zk8 (td ty tv:TE) (rd:V->V->Hp->VK->Prop):TS:=λD σ H=>td σ H λx H1=>ty σ H1 λy H2=>∃ a v,x=.ref a/\ZhF H2 a y (some v) /\
 tv σ H2 λy2 H3=>rd v y2 H3 λz H4=>∃ H5,Zkl H4 a y z H5/\D.nx σ H5
def Zk9 (td ty:TE):TS:=λD σ H=>td σ H λx H1=>ty σ H1 λy H2=>∃ a kvs k,x=.ref a/\H2 a=some (.dK kvs)/\y=kV k/\(ZfX kvs k).isSome=true/\D.nx σ (upd H2 a (.dK (Zg3 kvs k)))
section
variable {X:Cx} {o i e value:Expr} {pos pos' tpos:Pos} {td ty tv:TE}
end
theorem ZfY {P:Program} {w:World} {H:Hp} (h:Heap) (hb:sysModules<h.objs.size):ObjOk P w H (h.push { cls:=.type "dict", data:=.dict #[] }) h.objs.size (.dK []):=
 ⟨Nat.zero_le _,beq_eq_false_iff_ne.mpr (Ne.symm (Nat.ne_of_lt hb)),[],.nil,Heap.DictOf.new h⟩
def Zh8:TE:=λ_ H Q=>∀ p,H p=none->Q (.ref p) (upd H p (.dK []))
def Zkm:TE:=λ_ H Q=>∀ p,H p=none->Q (.ref p) (upd H p (.dT []))
section
variable {X:Cx} {pos:Pos}
theorem ZfZ:PE X (.Dict [] [] pos) Zh8:=λpins s σ H Q I h=>
 wpAny_Dict_empty ⟨.ref s.heap.objs.size,_,I.laid (a:=s.heap.objs.size) (o:=.dK []) (t':=s.toks) (λ_ _ q=>Heap.get?_push_of_some _ q) (Nat.le_refl _) (ZfY s.heap I.big),rfl,h _ (I.hok.fresh (Nat.le_refl _))⟩
end
def Zfa:List (TE×TE)->St->Hp->(List (V×V)->Hp->Prop)->Prop
 | [],_,H,Q=>Q [] H
 | (tk,tv)::r,σ,H,Q=>tk σ H λx H1=>tv σ H1 λy H2=>Zfa r σ H2 λps H3=>Q ((x,y)::ps) H3
abbrev VV:List (V×V)->List (Value×Value)->Prop:=Paired λp q=>RelV p.1 q.1/\RelV p.2 q.2
def PPs (X:Cx) (pos:Pos) (keys:List (Option Expr)) (values:List Expr) (trs:List (TE×TE)):Prop:=
 ∀ (pins:List (Addr×Obj)) (s:Shared) (σ:St) (H:Hp) (Q:List (V×V)->Hp->Prop),Inv X pins σ H s->Zfa trs σ H Q ->
  wpAny (model X.prog X.w) X.A (evalPairs (pairTrees keys values X.env pos)) (λvs s'=>∃ ps H',Inv X pins σ H' s'/\VV ps vs/\Q ps H') X.xe s
def Zh9 (kvs more:List (Key×V)):List (Key×V):=more.foldl (λacc kv=>ZjD acc kv.1 kv.2) kvs
def Zla (trs:List (TE×TE)):TE:=λσ H Q=>∀ p,H p=none->Zfa trs σ (upd H p (.dK [])) λps H2=>H2 p=some (.dK [])/\∃ kvs:List (Key×V),ps=kvs.map (λkv=>(kV kv.1,kv.2))/\kvs.length<=15/\Q (.ref p) (upd H2 p (.dK (Zh9 [] kvs)))
structure M1 (X:Cx) (o:Expr) (m:Str) (apos:Pos) (e:Expr) (cpos:Pos):Prop where
 base:attributeBase o m X.env (eval o X.env)=eval o X.env
 few:((backTo cpos (starEach [e] X.env)).all (λx=>!x.1) && (backToKw cpos (keywordEach [] X.env)).all (λx=>x.1.isSome)
  && decide (([e]:List Expr).length+([]:List Keyword).length+(if ([]:List Keyword).isEmpty then 0 else 1)<30))=true
 line:(apos.endLine == cpos.line)=true
 trees:backTo cpos (starEach [e] X.env)=[(false,eval e X.env)]
structure M2 (X:Cx) (o:Expr) (m:Str) (apos:Pos) (e f:Expr) (cpos:Pos):Prop where
 base:attributeBase o m X.env (eval o X.env)=eval o X.env
 few:((backTo cpos (starEach [e,f] X.env)).all (λx=>!x.1) && (backToKw cpos (keywordEach [] X.env)).all (λx=>x.1.isSome)
  && decide (([e,f]:List Expr).length+([]:List Keyword).length+(if ([]:List Keyword).isEmpty then 0 else 1)<30))=true
 line:(apos.endLine == cpos.line)=true
 trees:backTo cpos (starEach [e,f] X.env)=[(false,eval e X.env),(false,eval f X.env)]
def IsD (H:Hp) (a:Addr):Prop:=(∃ kvs,Rd H a (.dK kvs))\/∃ kvs,Rd H a (.dT kvs)
section
variable {X:Cx} {pins:List (Addr×Obj)} {σ:St} {H:Hp} {s:Shared} {a:Addr} {y d:V} {u r:Value} {o:Option V} {A:Around} {E:Value->Shared->Prop}
end
def Zkn (td ty:TE):TE:=λσ H Q=>td σ H λx H1=>∃ a,x=.ref a/\IsD H1 a/\ty σ H1 λy H2=>∃ o,ZhF H2 a y o/\Q (o.getD .non) H2
def Zko (td ty tx:TE):TE:=λσ H Q=>td σ H λx H1=>∃ a,x=.ref a/\IsD H1 a/\ty σ H1 λy H2=>tx σ H2 λz H3=>∃ o,ZhF H3 a y o/\Q (o.getD z) H3
def Zkp (td ty:TE):TE:=λσ H Q=>td σ H λx H1=>∃ a,x=.ref a/\IsD H1 a/\ty σ H1 λy H2=>∃ kvs k v,H2 a=some (.dK kvs)/\y=kV k/\ZfX kvs k=some v/\Q v (upd H2 a (.dK (Zg3 kvs k)))
def Zkq (td ty tx:TE):TE:=λσ H Q=>td σ H λx H1=>∃ a,x=.ref a/\IsD H1 a/\ty σ H1 λy H2=>tx σ H2 λz H3=>∃ kvs k,H3 a=some (.dK kvs)/\y=kV k /\
 (∀ v,ZfX kvs k=some v->Q v (upd H3 a (.dK (Zg3 kvs k))))/\(ZfX kvs k=none->Q z H3)
section
variable {X:Cx} {o e f:Expr} {apos cpos:Pos} {td ty tx:TE}
end
section
variable {X:Cx} {pins:List (Addr×Obj)} {σ:St} {H:Hp} {s:Shared} {a:Addr} {kvs:List (Key×V)} {A:Around} {E:Value->Shared->Prop}
end
section
variable {X:Cx} {pins:List (Addr×Obj)} {σ:St} {H:Hp} {s:Shared} {a:Addr} {y:V} {u:Value} {A:Around} {E:Value->Shared->Prop}
end
end L2
namespace L2
open PySem PySem.Spec PyProof.Rows
section
variable {X:Cx}
def Zkr:V->List V->Hp->VK->Prop:=λx vs H Q=>∃ (l:Addr) (ns:List Int) (i:Int),x=.ref l/\vs=[.int i]/\H l=some (.lst (ns.map V.int))/\i∈ns/\Q (.int ((ns.idxOf i:Nat):Int)) H
end
end L2
namespace L2
open PySem PySem.Spec PyProof.Rows
structure Lane where
 it:Addr
 l:Addr
 xs:Array Value
def Lane.On (r:Lane) (k:Nat) (h:Heap):Prop:=h.IsListIter r.it r.l k/\h.IsList r.l r.xs
structure Zlb (rs:List Lane):Prop where
 nd:(rs.map Lane.it).Nodup
 ls:∀ r∈rs,∀ q∈rs,q.l≠r.it
abbrev ZjF (h:Heap) (z TI TO:Addr) (f0:Value) (f1:Bool):Prop:=
 h.get? z=some { cls:=.type "zip", dict:=none,data:=.fields #[f0,.bool f1,.bool false,.ref TI,.ref TO],slots:=#[] }
section
variable {prog:Program} {w:World} {A:Around} {E:Value->Shared->Prop} {s:Shared}
def Zlc (S z TI TO:Addr) (a b:Lane) (i:Nat) (h:Heap):Prop:=
 ((IsZip h z TI TO .none/\∃ x y,IsPair h TO x y)\/∃ (T:Addr) (f1:Bool) (o:Obj),ZjF h z TI TO (rawInt T) f1/\h.get? T=some o/\T≠z/\T≠a.it/\T≠b.it/\T≠S)/\IsPair h TI (.ref a.it) (.ref b.it)/\a.On i h/\b.On i h/\S<h.objs.size
abbrev Zap (z TI TO:Addr) (a b:Lane):Prop:=ZipApart z TI TO a.it b.it a.l b.l
end
end L2
namespace L2
open PySem PySem.Spec PyProof.Rows
def ZL (P:Program) (w:World) (H0:Hp) (h0:Heap) (z TO i1 i2 S:Addr) (ns ms:List Int) (i:Nat) (h:Heap) (acc:Array Value):Prop:=
 ∃ (Hj:Hp) (vs:List V),Same H0 Hj/\(∀ b o,Hj b=some o->H0 b=none->h0.objs.size<=b)/\(Hj z=none/\Hj TO=none/\Hj i1=none/\Hj i2=none/\Hj S=none)/\HOk P w Hj h/\Vals vs acc.toList/\Prs Hj vs ((ns.zip ms).take i) /\
  (∀ b o,h0.get? b=some o->h.get? b=some o)/\h0.objs.size<=h.objs.size
section
variable {P:Program} {w:World} {H0:Hp} {h0:Heap} {z TO i1 i2 S:Addr} {ns ms:List Int} {i:Nat} {h h':Heap} {acc:Array Value}
end
abbrev Zld (h:Heap) (S:Addr) (acc:Array Value) (c:Nat):Prop:=h.get? S=some { cls:=.type "list", dict:=none,data:=.seq acc c,slots:=#[] }
structure Fed (prog:Program) (w:World) (A:Around) (I S:Addr) (n:Nat) (St:Nat->Heap->Array Value->Prop) (Fi:Heap->Array Value->Prop):Prop where
 give:∀ i (s:Shared) acc (Q:Option Value->Shared->Prop) E,i<n->St i s.heap acc ->
  (∀ v h',(∀ o,s.heap.get? S=some o->h'.get? S=some o)->St (i+1) h' (acc.push v)->Q (some v) { s with heap:=h' })->wpAny (model prog w) A (pyNext (.ref I)) Q E s
 stop:∀ (s:Shared) acc (o:Obj) (Q:Option Value->Shared->Prop) E,s.heap.get? S=some o->St n s.heap acc->(∀ h',(∀ o,s.heap.get? S=some o->h'.get? S=some o)->Fi h' acc->Q none { s with heap:=h' })->wpAny (model prog w) A (pyNext (.ref I)) Q E s
 aside:∀ i h f acc,St i h acc->St i (h.update S f) acc
section
variable {prog:Program} {w:World} {A:Around} {I S:Addr} {n:Nat} {St:Nat->Heap->Array Value->Prop} {Fi:Heap->Array Value->Prop}
end
section
variable {prog:Program} {w:World} {A:Around} {E:Value->Shared->Prop} {s:Shared}
namespace ZF
end ZF
end
section
variable {X:Cx}
def Zja (K:PySem.W.Frag) (ta:TA):TE:=λσ H Q=>ta σ H λvs H1=>∃ (l1 l2:Addr) (ns ms:List Int),vs=[.ref l1,.ref l2]/\SqL K H1 l1 (ns.map V.int)/\SqL K H1 l2 (ms.map V.int)/\ns.length<=1000 /\
 ∀ (S:Addr) (ws:List V) (H':Hp),Same H1 H'->H1 S=none->H' S=some (.lst ws)->Prs H' ws (ns.zip ms)->Q (.ref S) H'
end
end L2
namespace L2
open PySem PySem.Spec PyProof.Rows
section
variable {X:Cx}
end
def Zle (lo:Int) (n:Nat):It:=⟨λi _=>i<n,λi H x H'=>H'=H/\x=.int (lo-i),λi _=>n<=i⟩
section
variable {X:Cx} {tg:Expr}
def Zlf (ta:TA):TI:=λσ H R=>ta σ H λvs H1=>∃ i j:Int,vs=[.int i,.int j,.int (-1)]/\(-1000<=i/\i<1000/\-1000<=j/\j<1000)/\R (Zle i (i-j).toNat) H1
end
section
variable {X:Cx}
def Zlg (hi:Option Int) (xs:List V):List V:=match hi with
 | none=>xs.reverse
 | some _=>(xs.drop 1).reverse
def Zl4 (K:PySem.W.Frag) (te:TE) (th:TO):TE:=λσ H Q=>te σ H λx H1=>th σ H1 λu H2=>∃ a xs,x=.ref a/\SqL K H2 a xs/\(u=none\/u=some 0)/\∀ p,H2 p=none->Q (.ref p) (upd H2 p (.lst (Zlg u xs)))
end
end L2
namespace L2
open PySem PySem.Spec PyProof.Rows
structure Zl5 (K:PySem.W.Frag) (x qual:Str) (st:Stmt) (dV:Value) (f:Addr) (fd:FuncData):Prop where
 ex:∃ (oc:Value) (od:Option Addr) (kV doc pm:Value) (an:Option Addr) (cdv ct:Value) (osl:Array (Option Value)),
  fd=PySem.W.fnOf x qual (Zaz st) (Zav st) (Zaf st) dV kV doc pm an cdv ct/\K.lookup f=some ⟨oc,od,.func fd,osl⟩/\PySem.W.codeIn K cdv qual=true
 kp:PySem.W.keepIn K (.ref f)=true
section
variable {P:Program} {w:World} {K:PySem.W.Frag} {mg:Str->Option Value} {base:Heap}
end
end L2
namespace L2
open PySem PySem.Spec PyProof.Rows
end L2
namespace L2
open PySem
def itf (M:Nat):Nat->Nat->Nat
 | 0,x=>x
 | k+1,x=>itf M k ((x * 5+1) % M)
theorem Zc4 (M:Nat):∀ (a b x:Nat),itf M (a+b) x=itf M b (itf M a x)
 | 0,b,x=>by rw [Nat.zero_add];rfl
 | a+1,b,x=>by rw [Nat.add_right_comm];exact Zc4 M a b _
def orb (M:Nat):Nat->Nat->List Nat
 | 0,_=>[]
 | n+1,x=>x::orb M n ((x * 5+1) % M)
def Zjb (M:Nat):Nat->Nat->Nat->Nat
 | 0,_,m=>m
 | n+1,x,m=>Zjb M n ((x * 5+1) % M) (m ||| 2 ^ x)
theorem Zed {M j:Nat}:∀ {n x m:Nat},(Zjb M n x m).testBit j=true->m.testBit j=true\/∃ k,k<n/\itf M k x=j
 | 0,x,m,h=>.inl h
 | n+1,x,m,h=>by
  rcases Zed (n:=n) h with z | ⟨k,h1,h2⟩
  ·rw [Nat.testBit_or,Bool.or_eq_true] at z
   rcases z with z | z
   ·exact .inl z
   ·rw [Nat.testBit_two_pow,decide_eq_true_eq] at z
    exact .inr ⟨0,by omega,z⟩
  ·exact .inr ⟨k+1,by omega,h2⟩
def Zee (M:Nat):Bool:=Zjb M M 0 0 == 2 ^ M-1 && itf M M 0 == 0
theorem Zlh:Zee 8=true:=by decide +kernel
theorem Zia:Zee 32=true:=by decide +kernel
theorem Zgu:Zee 128=true:=by decide +kernel
theorem Zgv:Zee 512=true:=by decide +kernel
theorem Zfb:Zee 2048=true:=by decide +kernel
theorem Zg4 {M i j:Nat} (h:Zee M=true) (hi:i<M) (hj:j<M):∃ k,k<M/\itf M k i=j:=by
 unfold Zee at h
 rw [Bool.and_eq_true,beq_iff_eq,beq_iff_eq] at h
 obtain ⟨h1,h2⟩:=h
 have all:∀ j,j<M->∃ k,k<M/\itf M k 0=j:=λj hj=>by
  have z:(Zjb M M 0 0).testBit j=true:=by rw [h1,Nat.testBit_two_pow_sub_one];exact decide_eq_true hj
  rcases Zed z with z | z
  ·simp at z
  ·exact z
 obtain ⟨a,ha,ea⟩:=all i hi
 obtain ⟨b,hb,eb⟩:=all j hj
 by_cases hab:a<=b
 ·refine ⟨b-a,by omega,?_⟩
  rw [<-ea,<-Zc4,Nat.add_sub_cancel' hab]
  exact eb
 ·refine ⟨b+M-a,by omega,?_⟩
  rw [<-ea,<-Zc4,show a+(b+M-a)=M+b by omega,Zc4,h2]
  exact eb
def adv (mask:Nat) (p:SetTable.Probe):SetTable.Probe:=
 if p.more > 0 then { p with j:=p.j+1,more:=p.more-1 }
 else { p with j:=(SetTable.leap mask p.i p.perturb).1,more:=SetTable.runEnd mask (SetTable.leap mask p.i p.perturb).1-(SetTable.leap mask p.i p.perturb).1,i:=(SetTable.leap mask p.i p.perturb).1,perturb:=(SetTable.leap mask p.i p.perturb).2 }
theorem Zgw (t:SetTable) (p:SetTable.Probe):t.advance p=adv t.mask p:=rfl
def ZaH (mask:Nat):Nat->SetTable.Probe->SetTable.Probe
 | 0,p=>p
 | n+1,p=>ZaH mask n (adv mask p)
theorem ZaL (mask:Nat):∀ (a b:Nat) (p:SetTable.Probe),ZaH mask (a+b) p=ZaH mask b (ZaH mask a p)
 | 0,b,p=>by rw [Nat.zero_add];rfl
 | a+1,b,p=>by rw [Nat.add_right_comm];exact ZaL mask a b _
theorem ZdG (mask n:Nat) (p:SetTable.Probe):ZaH mask (n+1) p=adv mask (ZaH mask n p):=ZaL mask n 1 p
theorem ZdH (mask:Nat) (p:SetTable.Probe):(adv mask p).dummy=p.dummy:=by
 unfold adv;split <;> rfl
theorem ZcI (mask:Nat):∀ (n:Nat) (p:SetTable.Probe),(ZaH mask n p).dummy=p.dummy
 | 0,_=>rfl
 | n+1,p=>(ZcI mask n (adv mask p)).trans (ZdH mask p)
def rs (mask i pt:Nat):SetTable.Probe:={ j:=i,more:=SetTable.runEnd mask i-i,i:=i,perturb:=pt,dummy:=none }
def st0 (mask:Nat) (h:Int):SetTable.Probe:=rs mask (SetTable.bits h % (mask+1)) (SetTable.bits h)
theorem Zib (t:SetTable) (h:Int):t.probeStart h=st0 t.mask h:=rfl
theorem Zcu {mask i:Nat} (h:i<=mask):SetTable.runEnd mask i<=mask:=by
 unfold SetTable.runEnd;split <;> omega
theorem Zet (mask i:Nat):SetTable.runEnd mask i-i<=9:=by
 unfold SetTable.runEnd;split <;> omega
theorem Zcv (mask i:Nat):i<=SetTable.runEnd mask i:=by
 unfold SetTable.runEnd;split <;> omega
theorem ZbD (mask i pt:Nat):∀ k,k<=SetTable.runEnd mask i-i->ZaH mask k (rs mask i pt)={ j:=i+k,more:=SetTable.runEnd mask i-i-k,i:=i,perturb:=pt,dummy:=none }
 | 0,_=>rfl
 | k+1,h=>by
  rw [ZdG,ZbD mask i pt k (by omega)]
  unfold adv
  rw [if_pos (by show SetTable.runEnd mask i-i-k > 0;omega)]
  show SetTable.Probe.mk _ _ _ _ _=_
  congr 1
theorem ZbN (mask i pt:Nat):ZaH mask (SetTable.runEnd mask i-i+1) (rs mask i pt)=rs mask (SetTable.leap mask i pt).1 (SetTable.leap mask i pt).2:=by
 rw [ZdG,ZbD mask i pt _ (Nat.le_refl _)]
 unfold adv
 rw [if_neg (by show ¬ (SetTable.runEnd mask i-i-(SetTable.runEnd mask i-i) > 0);omega)]
 rfl
theorem ZcJ (x mask:Nat):x % (mask+1)<=mask:=Nat.le_of_lt_succ (Nat.mod_lt _ (Nat.succ_pos _))
def lps (mask:Nat):Nat->Nat×Nat->Nat×Nat
 | 0,x=>x
 | m+1,x=>lps mask m (SetTable.leap mask x.1 x.2)
theorem Zfc (mask:Nat):∀ (a b:Nat) (x:Nat×Nat),lps mask (a+b) x=lps mask b (lps mask a x)
 | 0,b,x=>by rw [Nat.zero_add];rfl
 | a+1,b,x=>by rw [Nat.add_right_comm];exact Zfc mask a b _
theorem Zef (mask:Nat):∀ (m:Nat) (x:Nat×Nat),∃ n,n<=10 * m/\ZaH mask n (rs mask x.1 x.2)=rs mask (lps mask m x).1 (lps mask m x).2
 | 0,x=>⟨0,Nat.le_refl _,rfl⟩
 | m+1,x=>by
  obtain ⟨n,h1,h2⟩:=Zef mask m (SetTable.leap mask x.1 x.2)
  refine ⟨SetTable.runEnd mask x.1-x.1+1+n,?_,?_⟩
  ·have:=Zet mask x.1
   omega
  ·rw [ZaL,ZbN]
   exact h2
theorem Zeg (mask:Nat):∀ (m i:Nat),lps mask m (i,0)=(itf (mask+1) m i,0)
 | 0,i=>rfl
 | m+1,i=>by
  show lps mask m (SetTable.leap mask i 0)=_
  have e:SetTable.leap mask i 0=((i * 5+1) % (mask+1),0):=by unfold SetTable.leap;simp
  rw [e]
  exact Zeg mask m _
theorem Zeh (mask:Nat):∀ (m i b:Nat),(lps mask m (i,b)).2=b / 32 ^ m
 | 0,i,b=>by simp [lps]
 | m+1,i,b=>by
  show (lps mask m (SetTable.leap mask i b)).2=_
  have e:SetTable.leap mask i b=((SetTable.leap mask i b).1,b / 32):=rfl
  rw [e,Zeh mask m _ _,Nat.div_div_eq_div_mul,Nat.pow_succ,Nat.mul_comm]
theorem Zgx (mask:Nat):∀ (m i b:Nat),i<=mask->(lps mask m (i,b)).1<=mask
 | 0,i,b,h=>h
 | m+1,i,b,h=>Zgx mask m _ _ (ZcJ _ _)
theorem Zg5 (h:Int):SetTable.bits h<2 ^ 64:=by
 unfold SetTable.bits
 have h1:=Int.emod_nonneg h (show (2 ^ 64:Int)≠0 by decide)
 have h2:=Int.emod_lt_of_pos h (show (0:Int)<2 ^ 64 by decide)
 omega
theorem ZdI {mask j:Nat} (hc:Zee (mask+1)=true) (h:Int) (hj:j<=mask):∃ m,m<mask+14/\(lps mask m (SetTable.bits h % (mask+1),SetTable.bits h)).1=j:=by
 have hb:=Zg5 h
 generalize SetTable.bits h=b at hb ⊢
 have h13:(lps mask 13 (b % (mask+1),b)).2=0:=by
  rw [Zeh]
  exact Nat.div_eq_of_lt (Nat.lt_trans hb (by decide))
 have hi:(lps mask 13 (b % (mask+1),b)).1<=mask:=Zgx mask 13 _ _ (ZcJ _ _)
 obtain ⟨k,hk,ek⟩:=Zg4 hc (Nat.lt_succ_of_le hi) (Nat.lt_succ_of_le hj)
 refine ⟨13+k,by omega,?_⟩
 rw [Zfc]
 have e:lps mask 13 (b % (mask+1),b)=((lps mask 13 (b % (mask+1),b)).1,0):=by rw [<-h13]
 rw [e,Zeg]
 exact ek
theorem Zfd {mask j:Nat} (hc:Zee (mask+1)=true) (h:Int) (hj:j<=mask):∃ n,n+10<10 * SetTable.turns mask/\(ZaH mask n (st0 mask h)).j=j:=by
 obtain ⟨m,hm,em⟩:=ZdI hc h hj
 obtain ⟨n,hn,en⟩:=Zef mask m (SetTable.bits h % (mask+1),SetTable.bits h)
 refine ⟨n,by unfold SetTable.turns;omega,?_⟩
 show (ZaH mask n (rs mask _ _)).j=j
 rw [en]
 exact em
theorem Zic {mask:Nat} {p:SetTable.Probe} (h:p.j+p.more<=mask):(adv mask p).j+(adv mask p).more<=mask:=by
 unfold adv
 split
 ·show p.j+1+(p.more-1)<=mask
  omega
 ·have h1:(SetTable.leap mask p.i p.perturb).1<=mask:=ZcJ _ _
  have h2:=Zcu h1
  have h3:=Zcv mask (SetTable.leap mask p.i p.perturb).1
  show (SetTable.leap mask p.i p.perturb).1+(SetTable.runEnd mask (SetTable.leap mask p.i p.perturb).1-(SetTable.leap mask p.i p.perturb).1)<=mask
  omega
theorem Zfe {mask:Nat}:∀ {n:Nat} {p:SetTable.Probe},p.j+p.more<=mask->(ZaH mask n p).j+(ZaH mask n p).more<=mask
 | 0,_,h=>h
 | n+1,p,h=>Zfe (n:=n) (Zic h)
theorem Zid (mask:Nat) (h:Int):(st0 mask h).j+(st0 mask h).more<=mask:=by
 have h1:SetTable.bits h % (mask+1)<=mask:=ZcJ _ _
 have h2:=Zcu h1
 have h3:=Zcv mask (SetTable.bits h % (mask+1))
 show SetTable.bits h % (mask+1)+(SetTable.runEnd mask (SetTable.bits h % (mask+1))-SetTable.bits h % (mask+1))<=mask
 omega
theorem Zff (mask n:Nat) (h:Int):(ZaH mask n (st0 mask h)).j<=mask:=by
 have:=Zfe (n:=n) (Zid mask h)
 omega
def Rise (xs:Array Nat):Prop:=xs.toList.Pairwise (· < ·)
theorem Rise.lt {xs:Array Nat} (h:Rise xs) {q r a b:Nat} (hqr:q<r) (ha:xs[q]?=some a) (hb:xs[r]?=some b):a<b:=by
 rw [<-Array.getElem?_toList] at ha hb
 obtain ⟨h1,e1⟩:=List.getElem?_eq_some_iff.mp ha
 obtain ⟨h2,e2⟩:=List.getElem?_eq_some_iff.mp hb
 have:=List.pairwise_iff_getElem.mp h q r h1 h2 hqr
 rw [e1,e2] at this
 exact this
theorem Zc5 {xs:Array Nat} {j:Nat} (hr:Rise xs):∀ (fuel lo hi:Nat),hi-lo<=fuel->lo<=hi->hi<=xs.size ->
  (∀ q a,q<lo->xs[q]?=some a->a<j)->(∀ q a,hi<=q->xs[q]?=some a->j<=a) ->
  SetTable.below.go xs j fuel lo hi<=xs.size/\(∀ q a,q<SetTable.below.go xs j fuel lo hi->xs[q]?=some a->a<j)/\(∀ q a,SetTable.below.go xs j fuel lo hi<=q->xs[q]?=some a->j<=a)
 | 0,lo,hi,h0,h1,h2,hl,hh=>by
  have e:hi=lo:=by omega
  subst e
  exact ⟨h2,hl,hh⟩
 | fuel+1,lo,hi,h0,h1,h2,hl,hh=>by
  unfold SetTable.below.go
  by_cases hlt:lo<hi
  ·rw [if_pos hlt]
   have hm:(lo+hi) / 2<xs.size:=by omega
   have em:xs[(lo+hi) / 2]?=some xs[(lo+hi) / 2]:=Array.getElem?_eq_getElem hm
   have ed:xs.getD ((lo+hi) / 2) j=xs[(lo+hi) / 2]:=by
    rw [Array.getD_eq_getD_getElem?,em];rfl
   dsimp only
   rw [ed]
   by_cases hc:xs[(lo+hi) / 2]<j
   ·rw [if_pos hc]
    refine Zc5 hr fuel _ _ (by omega) (by omega) h2 (λq a hq ha=>?_) hh
    by_cases hq':q=(lo+hi) / 2
    ·rw [hq',em] at ha;cases ha;exact hc
    ·exact Nat.lt_trans (hr.lt (by omega) ha em) hc
   ·rw [if_neg hc]
    refine Zc5 hr fuel _ _ (by omega) (by omega) (by omega) hl (λq a hq ha=>?_)
    by_cases hq':q=(lo+hi) / 2
    ·rw [hq',em] at ha;cases ha;omega
    ·have:=hr.lt (show (lo+hi) / 2<q by omega) em ha
     omega
  ·rw [if_neg hlt]
   have e:hi=lo:=by omega
   subst e
   exact ⟨h2,hl,hh⟩
theorem ZcK {xs:Array Nat} {j:Nat} (hr:Rise xs):SetTable.below xs j<=xs.size/\(∀ q a,q<SetTable.below xs j->xs[q]?=some a->a<j)/\(∀ q a,SetTable.below xs j<=q->xs[q]?=some a->j<=a):=by
 unfold SetTable.below
 refine Zc5 hr xs.size 0 xs.size (by omega) (by omega) (Nat.le_refl _) (λq a hq=>absurd hq (Nat.not_lt_zero _)) λq a hq ha=>?_
 rw [Array.getElem?_eq_none hq] at ha;cases ha
theorem Zcf {xs:Array Nat} {i j:Nat} (hr:Rise xs) (h:xs[i]?=some j):SetTable.below xs j=i:=by
 obtain ⟨h1,h2,h3⟩:=ZcK (j:=j) hr
 rcases Nat.lt_trichotomy (SetTable.below xs j) i with z | z | z
 ·have hs:SetTable.below xs j<xs.size:=by
   have:=(Array.getElem?_eq_some_iff.mp h).1
   omega
  have:=hr.lt z (Array.getElem?_eq_getElem hs) h
  have:=h3 _ _ (Nat.le_refl _) (Array.getElem?_eq_getElem hs)
  omega
 ·exact z
 ·have:=h2 i j z h
  omega
theorem Zeu (t:SetTable) (hr:Rise t.place) (hd:t.dummies=#[]) (j:Nat):(t.slot j=.empty/\j ∉ t.place.toList)\/∃ i,t.slot j=.live i/\t.place[i]?=some j:=by
 unfold SetTable.slot
 dsimp only
 by_cases h:t.place[SetTable.below t.place j]?=some j
 ·refine .inr ⟨SetTable.below t.place j,?_,h⟩
  rw [if_pos (by rw [h];exact beq_self_eq_true _)]
 ·refine .inl ⟨?_,λhm=>?_⟩
  ·rw [if_neg (by rw [beq_iff_eq];exact h),hd]
   have e:SetTable.has #[] j=false:=by unfold SetTable.has;simp
   rw [e]
   rfl
  ·obtain ⟨i,hi,e⟩:=List.getElem_of_mem hm
   have e':t.place[i]?=some j:=by
    rw [<-Array.getElem?_toList,List.getElem?_eq_getElem hi,e]
   rw [Zcf hr e'] at h
   exact h e'
theorem Zfg (t:SetTable) (hr:Rise t.place) {i j:Nat} (h:t.place[i]?=some j):t.slot j=.live i:=by
 unfold SetTable.slot
 dsimp only
 rw [Zcf hr h,if_pos (by rw [h];exact beq_self_eq_true _)]
theorem Zbh {xs:Array Nat} {i j:Nat} (h:xs[i]?=some j):j∈xs.toList:=by
 rw [<-Array.getElem?_toList] at h
 exact List.mem_of_getElem? h
section
variable {t:SetTable} {ha:Nat->Int} {h:Int}
theorem Zfh (hr:Rise t.place) (hd:t.dummies=#[]):∀ (F:Nat) (p:SetTable.Probe),(∃ n,n<F/\(ZaH t.mask n p).j ∉ t.place.toList) ->
  (∃ n,SetTable.probe.go t ha h F p=some (.empty (ZaH t.mask n p).j p.dummy)/\(ZaH t.mask n p).j ∉ t.place.toList/\∀ q,q<n->∃ i,t.place[i]?=some (ZaH t.mask q p).j/\ha i≠h) \/
  (∃ n i,SetTable.probe.go t ha h F p=some (.candidate (ZaH t.mask n p).j i (ZaH t.mask (n+1) p))/\t.place[i]?=some (ZaH t.mask n p).j/\ha i=h/\∀ q,q<n->∃ i,t.place[i]?=some (ZaH t.mask q p).j/\ha i≠h)
 | 0,p,⟨n,hn,_⟩=>absurd hn (Nat.not_lt_zero _)
 | F+1,p,⟨n,hn,hf⟩=>by
  rcases Zeu t hr hd p.j with ⟨e,hm⟩ | ⟨i,e,hi⟩
  ·refine .inl ⟨0,?_,hm,λq hq=>absurd hq (Nat.not_lt_zero _)⟩
   unfold SetTable.probe.go
   rw [e]
   rfl
  ·by_cases hh:ha i=h
   ·refine .inr ⟨0,i,?_,hi,hh,λq hq=>absurd hq (Nat.not_lt_zero _)⟩
    unfold SetTable.probe.go
    rw [e]
    dsimp only
    rw [if_pos (by rw [hh];exact beq_self_eq_true _),Zgw]
    rfl
   ·have hs:SetTable.probe.go t ha h (F+1) p=SetTable.probe.go t ha h F (adv t.mask p):=by
     rw [SetTable.probe.go,e]
     dsimp only
     rw [if_neg (by rw [beq_iff_eq];exact hh),Zgw]
    cases n with
    | zero=>exact absurd (Zbh hi) hf
    | succ n=>
     rw [hs]
     rcases Zfh hr hd F (adv t.mask p) ⟨n,by omega,hf⟩ with ⟨m,g1,g2,g3⟩ | ⟨m,i',g1,g2,g3,g4⟩
     ·refine .inl ⟨m+1,?_,g2,λq hq=>?_⟩
      ·rw [g1,ZdH];rfl
      ·cases q with
       | zero=>exact ⟨i,hi,hh⟩
       | succ q=>exact g3 q (by omega)
     ·refine .inr ⟨m+1,i',g1,g2,g3,λq hq=>?_⟩
      cases q with
      | zero=>exact ⟨i,hi,hh⟩
      | succ q=>exact g4 q (by omega)
theorem ZcL {mask:Nat} {l:List Nat} (h:l.length<=mask):∃ j,j<=mask/\j ∉ l:=by
 apply Classical.byContradiction
 intro hn
 have hs:List.range (mask+1) ⊆ l:=λj hj=>Classical.byContradiction λhm=>hn ⟨j,by have:=List.mem_range.mp hj;omega,hm⟩
 have:=List.Nodup.length_le_of_subset List.nodup_range hs
 rw [List.length_range] at this
 omega
end
end L2
namespace L2
open PySem
theorem isN {ow:Array (Option Nat)} {x:Nat} (hx:x<ow.size):(ow.getD x (some 0)).isNone=true↔ow[x]?=some none:=by
 rw [Array.getD_eq_getD_getElem?,Array.getElem?_eq_getElem hx]
 show ow[x].isNone=true↔some ow[x]=some none
 cases ow[x] <;> simp
theorem ZdJ {mask:Nat} {ow:Array (Option Nat)} (hz:ow.size=mask+1):∀ (F i pt:Nat),i<=mask ->
  (∃ m,m<F/\ow[(lps mask m (i,pt)).1]?=some none) ->
  ∃ n,SetTable.layClean.free mask ow F i pt=some (ZaH mask n (rs mask i pt)).j/\ow[(ZaH mask n (rs mask i pt)).j]?=some none/\∀ q,q<n->ow[(ZaH mask q (rs mask i pt)).j]?≠some none
 | 0,i,pt,_,⟨m,hm,_⟩=>absurd hm (Nat.not_lt_zero _)
 | F+1,i,pt,hi,⟨m,hm,em⟩=>by
  have hre:=Zcu hi
  have hrg:=Zcv mask i
  unfold SetTable.layClean.free
  cases hf:List.find? (λk=>(ow.getD (i+k) (some 0)).isNone) (List.range (SetTable.runEnd mask i+1-i)) with
  | some k=>
   obtain ⟨p1,p2,p3⟩:=List.find?_range_eq_some.mp hf
   have hk:=List.mem_range.mp p2
   refine ⟨k,?_,?_,λq hq=>?_⟩
   ·rw [ZbD mask i pt k (by omega)]
   ·rw [ZbD mask i pt k (by omega)]
    show ow[i+k]?=some none
    exact (isN (by omega)).mp p1
   ·rw [ZbD mask i pt q (by omega)]
    show ow[i+q]?≠some none
    intro z
    have h1:=p3 q hq
    rw [(isN (by omega)).mpr z] at h1
    cases h1
  | none=>
   have hall:=List.find?_eq_none.mp hf
   have hno:∀ q,q<=SetTable.runEnd mask i-i->ow[i+q]?≠some none:=λq hq z=>hall q (List.mem_range.mpr (by omega)) ((isN (by omega)).mpr z)
   cases m with
   | zero=>exact absurd em (hno 0 (Nat.zero_le _))
   | succ m=>
    obtain ⟨n,g1,g2,g3⟩:=ZdJ hz F (SetTable.leap mask i pt).1 (SetTable.leap mask i pt).2 (ZcJ _ _) ⟨m,by omega,em⟩
    refine ⟨SetTable.runEnd mask i-i+1+n,?_,?_,λq hq=>?_⟩
    ·rw [ZaL,ZbN]
     exact g1
    ·rw [ZaL,ZbN]
     exact g2
    ·by_cases hq':q<=SetTable.runEnd mask i-i
     ·rw [ZbD mask i pt q hq']
      exact hno q hq'
     ·have e:q=SetTable.runEnd mask i-i+1+(q-(SetTable.runEnd mask i-i+1)):=by omega
      rw [e,ZaL,ZbN]
      exact g3 _ (by omega)
def Zei (mask:Nat) (acc:Option (Array (Option Nat)×Nat)) (h:Int):Option (Array (Option Nat)×Nat):=
 acc.bind λx=>(SetTable.layClean.free mask x.1 (SetTable.turns mask) (SetTable.bits h % (mask+1)) (SetTable.bits h)).bind λj=>some (x.1.setIfInBounds j (some x.2),x.2+1)
theorem Zc6 (mask:Nat) (hashes:Array Int):SetTable.layClean mask hashes=(hashes.toList.foldl (Zei mask) (some (Array.replicate (mask+1) none,0))).map (·.1):=by
 unfold SetTable.layClean
 rw [Array.foldl_toList]
 rfl
structure Lc (mask:Nat) (ow:Array (Option Nat)) (js:List Nat) (hs:List Int):Prop where
 sz:ow.size=mask+1
 len:js.length=hs.length
 at_:∀ (q j:Nat),js[q]?=some j↔ow[j]?=some (some q)
 rch:∀ (q:Nat) (h:Int) (j:Nat),hs[q]?=some h->js[q]?=some j->∃ n,(ZaH mask n (st0 mask h)).j=j/\∀ r,r<n->ow[(ZaH mask r (st0 mask h)).j]?≠some none
theorem Lc.nil (mask:Nat):Lc mask (Array.replicate (mask+1) none) [] []:=
 ⟨Array.size_replicate,rfl,λq j=>⟨λz=>by simp at z,λz=>by
  rw [Array.getElem?_replicate] at z
  split at z <;> simp at z⟩,λq h j z=>by simp at z⟩
theorem Lc.step {mask:Nat} {ow:Array (Option Nat)} {js:List Nat} {hs:List Int} (L:Lc mask ow js hs) (hc:Zee (mask+1)=true) (hl:hs.length<=mask) (h:Int) :
  ∃ j,Zei mask (some (ow,hs.length)) h=some (ow.setIfInBounds j (some hs.length),hs.length+1)/\Lc mask (ow.setIfInBounds j (some hs.length)) (js++[j]) (hs++[h]):=by
 have hjl:=L.len
 obtain ⟨j0,hj0,hn0⟩:=ZcL (mask:=mask) (l:=js) (by omega)
 have e0:ow[j0]?=some none:=by
  have hs0:j0<ow.size:=by rw [L.sz];omega
  rw [Array.getElem?_eq_getElem hs0]
  cases q:ow[j0] with
  | none=>rfl
  | some k=>
   exact absurd (List.mem_of_getElem? ((L.at_ k j0).mpr (by rw [Array.getElem?_eq_getElem hs0,q]))) hn0
 obtain ⟨m,hm,em⟩:=ZdI hc h hj0
 obtain ⟨n,g1,g2,g3⟩:=ZdJ L.sz (SetTable.turns mask) (SetTable.bits h % (mask+1)) (SetTable.bits h) (ZcJ _ _) ⟨m,by unfold SetTable.turns;omega,by rw [em];exact e0⟩
 have est:rs mask (SetTable.bits h % (mask+1)) (SetTable.bits h)=st0 mask h:=rfl
 rw [est] at g1 g2 g3
 have hjlt:(ZaH mask n (st0 mask h)).j<ow.size:=by rw [L.sz];have:=Zff mask n h;omega
 refine ⟨(ZaH mask n (st0 mask h)).j,?_,?_⟩
 ·unfold Zei
  rw [Option.bind_some,g1]
  rfl
 ·generalize hj:(ZaH mask n (st0 mask h)).j=j at g2 hjlt ⊢
  have hget:∀ x,(ow.setIfInBounds j (some hs.length))[x]?=if j=x then some (some hs.length) else ow[x]?:=λx=>by
   rw [Array.getElem?_setIfInBounds,if_pos hjlt]
  have hjs:j ∉ js:=λhm=>by
   obtain ⟨q,hq,e⟩:=List.getElem_of_mem hm
   have:=(L.at_ q j).mp (by rw [List.getElem?_eq_getElem hq,e])
   rw [g2] at this;cases this
  have occ:∀ x,ow[x]?≠some none->(ow.setIfInBounds j (some hs.length))[x]?≠some none:=λx hx=>by
   rw [hget]
   split
   ·simp
   ·exact hx
  refine ⟨by rw [Array.size_setIfInBounds];exact L.sz,by simp [hjl],λq x=>?_,λq g x e1 e2=>?_⟩
  ·rw [hget]
   by_cases hq:q<js.length
   ·rw [List.getElem?_append_left hq]
    by_cases hx:j=x
    ·rw [if_pos hx]
     constructor
     ·intro z
      exact absurd (hx▸List.mem_of_getElem? z) hjs
     ·intro z
      have:hs.length=q:=by simpa using z
      omega
    ·rw [if_neg hx]
     exact L.at_ q x
   ·rw [List.getElem?_append_right (by omega)]
    by_cases hx:j=x
    ·rw [if_pos hx]
     by_cases hq':q=js.length
     ·subst hq'
      simp [hx,hjl]
     ·constructor
      ·intro z
       have:([j]:List Nat)[q-js.length]?=none:=List.getElem?_eq_none (by simp;omega)
       rw [this] at z;cases z
      ·intro z
       have:hs.length=q:=by simpa using z
       omega
    ·rw [if_neg hx]
     constructor
     ·intro z
      have:=List.mem_of_getElem? z
      simp at this
      exact absurd this.symm hx
     ·intro z
      have:=(L.at_ q x).mpr z
      rw [List.getElem?_eq_none (by omega)] at this
      cases this
  ·by_cases hq:q<hs.length
   ·rw [List.getElem?_append_left hq] at e1
    rw [List.getElem?_append_left (by omega)] at e2
    obtain ⟨n',r1,r2⟩:=L.rch q g x e1 e2
    exact ⟨n',r1,λr hr=>occ _ (r2 r hr)⟩
   ·rw [List.getElem?_append_right (by omega)] at e1 e2
    have h1:=List.mem_of_getElem? e1
    have h2:=List.mem_of_getElem? e2
    simp at h1 h2
    subst h1 h2
    exact ⟨n,hj,λr hr=>occ _ (g3 r hr)⟩
theorem Zfi {mask:Nat} (hc:Zee (mask+1)=true):∀ (rest:List Int) (ow:Array (Option Nat)) (js:List Nat) (hs:List Int),Lc mask ow js hs->hs.length+rest.length<=mask ->
  ∃ ow' js',rest.foldl (Zei mask) (some (ow,hs.length))=some (ow',(hs++rest).length)/\Lc mask ow' js' (hs++rest)
 | [],ow,js,hs,L,_=>⟨ow,js,by simp,by simpa using L⟩
 | h::rest,ow,js,hs,L,hl=>by
  rw [List.length_cons] at hl
  obtain ⟨j,e,L'⟩:=L.step hc (by omega) h
  obtain ⟨ow',js',e',L''⟩:=Zfi hc rest _ _ (hs++[h]) L' (by simp;omega)
  refine ⟨ow',js',?_,by simpa using L''⟩
  rw [List.foldl_cons,e]
  have hlen:(hs++[h]).length=hs.length+1:=by simp
  rw [hlen] at e'
  rw [e']
  simp
theorem Zb6 {α β:Type} (f:α->Option β):∀ (l:List α),(∀ x∈l,(f x).isSome=true)->∀ r:Nat,(l.filterMap f)[r]?=(l[r]?).bind f
 | [],_,r=>by simp
 | x::l,h,r=>by
  obtain ⟨y,hy⟩:=Option.isSome_iff_exists.mp (h x (List.mem_cons_self))
  rw [List.filterMap_cons_some hy]
  cases r with
  | zero=>simp [hy]
  | succ r=>
   rw [List.getElem?_cons_succ,List.getElem?_cons_succ]
   exact Zb6 f l (λz hz=>h z (List.mem_cons_of_mem _ hz)) r
structure Zli (t:SetTable) (od:Array Nat) (mask finger moves:Nat) (led plain:Bool) (hashes:Array Int):Prop where
 tm:t.mask=mask
 tl:t.led=led
 tp:t.plain=plain
 td:t.dummies=#[]
 rise:Rise t.place
 le:∀ j∈t.place.toList,j<=mask
 perm:od.toList.Perm (List.range hashes.size)
 sz:t.place.size=hashes.size
 rch:∀ (r q j:Nat) (h:Int),od[r]?=some q->t.place[r]?=some j->hashes[q]?=some h->∃ n,(ZaH mask n (st0 mask h)).j=j/\∀ r',r'<n->(ZaH mask r' (st0 mask h)).j∈t.place.toList
theorem Zfj {mask:Nat} (hc:Zee (mask+1)=true) (finger moves:Nat) (led plain:Bool) (hashes:Array Int) (hz:hashes.size<=mask) :
  ∃ t od,SetTable.laid mask finger moves led plain hashes=some (t,od)/\Zli t od mask finger moves led plain hashes:=by
 obtain ⟨ow,js,e,L⟩:=Zfi hc hashes.toList _ [] [] (Lc.nil mask) (by simpa using hz)
 simp only [List.nil_append,List.length_nil] at e L
 have hn:js.length=hashes.size:=by rw [L.len,Array.length_toList]
 have e':SetTable.layClean mask hashes=some ow:=by rw [Zc6,e];rfl
 generalize hlive:(List.range (mask+1)).filterMap (λj=>(ow.getD j none).map (j,·))=live
 have mem:∀ j q,(j,q)∈live↔j<=mask/\ow[j]?=some (some q):=by
  intro j q
  rw [<-hlive,List.mem_filterMap]
  constructor
  ·rintro ⟨a,ha,hb⟩
   have ha':=List.mem_range.mp ha
   have hs':a<ow.size:=by rw [L.sz];omega
   rw [Array.getD_eq_getD_getElem?,Array.getElem?_eq_getElem hs'] at hb
   cases hq:ow[a] with
   | none=>rw [hq] at hb;cases hb
   | some k=>
    rw [hq] at hb
    have hb':(a,k)=(j,q):=Option.some.inj hb
    cases hb'
    exact ⟨by omega,by rw [Array.getElem?_eq_getElem hs',hq]⟩
  ·rintro ⟨h1,h2⟩
   refine ⟨j,List.mem_range.mpr (by omega),?_⟩
   rw [Array.getD_eq_getD_getElem?,h2]
   rfl
 have pw1:(live.map (·.1)).Pairwise (· < ·):=by
  rw [List.pairwise_map,<-hlive]
  refine List.Pairwise.filterMap (R:=(· < ·)) _ (λa a' haa b hb b' hb'=>?_) List.pairwise_lt_range
  obtain ⟨x,_,rfl⟩:=Option.map_eq_some_iff.mp hb
  obtain ⟨x',_,rfl⟩:=Option.map_eq_some_iff.mp hb'
  exact haa
 have pw2:(live.map (·.2)).Nodup:=by
  unfold List.Nodup
  rw [List.pairwise_map]
  have:=List.Pairwise.and_mem.mp (List.pairwise_map.mp pw1)
  refine this.imp λ{a b} hab z=>?_
  obtain ⟨ha,hb,hlt⟩:=hab
  have h1:=(L.at_ a.2 a.1).mpr ((mem a.1 a.2).mp ha).2
  have h2:=(L.at_ b.2 b.1).mpr ((mem b.1 b.2).mp hb).2
  rw [z,h2] at h1
  have:=Option.some.inj h1
  omega
 have hperm:(live.map (·.2)).Perm (List.range hashes.size):=by
  refine (List.perm_ext_iff_of_nodup pw2 List.nodup_range).mpr λq=>?_
  rw [List.mem_range,List.mem_map]
  constructor
  ·rintro ⟨⟨j,q'⟩,hm,rfl⟩
   have h1:=(L.at_ q' j).mpr ((mem j q').mp hm).2
   have:=(List.getElem?_eq_some_iff.mp h1).1
   show q'<_
   omega
  ·intro hq
   have hq':q<js.length:=by omega
   have h1:=(L.at_ q js[q]).mp (List.getElem?_eq_getElem hq')
   have h2:=(Array.getElem?_eq_some_iff.mp h1).1
   rw [L.sz] at h2
   exact ⟨(js[q],q),(mem _ _).mpr ⟨by omega,h1⟩,rfl⟩
 refine ⟨_,_,by unfold SetTable.laid;rw [e'];rfl,rfl,rfl,rfl,rfl,?_,?_,?_,?_,?_⟩
 ·unfold Rise
  dsimp only
  rw [hlive]
  exact pw1
 ·dsimp only
  rw [hlive]
  intro j hj
  obtain ⟨⟨a,q⟩,hm,rfl⟩:=List.mem_map.mp (show j∈live.map (·.1) from hj)
  exact ((mem a q).mp hm).1
 ·dsimp only
  rw [hlive]
  exact hperm
 ·dsimp only
  rw [hlive,List.size_toArray,List.length_map]
  have:=hperm.length_eq
  rw [List.length_map,List.length_range] at this
  exact this
 ·dsimp only
  rw [hlive]
  intro r q j h e1 e2 e3
  rw [List.getElem?_toArray,List.getElem?_map] at e1 e2
  cases hl:live[r]? with
  | none=>rw [hl] at e1;cases e1
  | some x=>
   rw [hl] at e1 e2
   have e1':x.2=q:=Option.some.inj e1
   have e2':x.1=j:=Option.some.inj e2
   subst e1' e2'
   have h1:=(L.at_ x.2 x.1).mpr ((mem x.1 x.2).mp (List.mem_of_getElem? hl)).2
   obtain ⟨n,r1,r2⟩:=L.rch x.2 h x.1 (by rw [Array.getElem?_toList];exact e3) h1
   refine ⟨n,r1,λr' hr'=>?_⟩
   have h2:=r2 r' hr'
   have hle:=Zff mask r' h
   have hs':(ZaH mask r' (st0 mask h)).j<ow.size:=by rw [L.sz];omega
   rw [Array.getElem?_eq_getElem hs'] at h2
   cases hq:ow[(ZaH mask r' (st0 mask h)).j] with
   | none=>rw [hq] at h2;exact absurd rfl h2
   | some k=>
    show _∈live.map (·.1)
    exact List.mem_map.mpr ⟨(_,k),(mem _ _).mpr ⟨hle,by rw [Array.getElem?_eq_getElem hs',hq]⟩,rfl⟩
end L2
namespace L2
open PySem
def ins {α:Type} (l:List α) (p:Nat) (x:α):List α:=l.take p++x::l.drop p
theorem Zej {α:Type} {l:List α} {p:Nat} {x:α} (hp:p<=l.length) (i:Nat):(ins l p x)[i]?=if i<p then l[i]? else if i=p then some x else l[i-1]?:=by
 unfold ins
 have hl:(l.take p).length=p:=by rw [List.length_take];omega
 by_cases h:i<p
 ·rw [if_pos h,List.getElem?_append_left (by omega),List.getElem?_take,if_pos h]
 ·rw [if_neg h,List.getElem?_append_right (by omega),hl]
  by_cases h':i=p
  ·subst h';simp
  ·rw [if_neg h']
   have e:i-p=(i-p-1)+1:=by omega
   rw [e,List.getElem?_cons_succ,List.getElem?_drop]
   congr 1
   omega
theorem Zc7 {α:Type} {l:List α} {p:Nat} {x:α} (hp:p<=l.length):(ins l p x).length=l.length+1:=by
 unfold ins
 simp
 omega
theorem Zg6 {α β:Type} (f:α->β) (l:List α) (p:Nat) (x:α):(ins l p x).map f=ins (l.map f) p (f x):=by
 unfold ins
 simp
theorem ins_mem {α:Type} {l:List α} {p:Nat} {x y:α}:y∈ins l p x↔y=x\/y∈l:=by
 unfold ins
 rw [List.mem_append,List.mem_cons]
 constructor
 ·rintro (h | h | h)
  ·exact .inr (List.mem_of_mem_take h)
  ·exact .inl h
  ·exact .inr (List.mem_of_mem_drop h)
 ·rintro (h | h)
  ·exact .inr (.inl h)
  ·rw [<-List.take_append_drop p l,List.mem_append] at h
   rcases h with h | h
   ·exact .inl h
   ·exact .inr (.inr h)
structure TOk (t:SetTable) (hs:List Int):Prop where
 mask:t.mask=7\/t.mask=31\/t.mask=127\/t.mask=511\/t.mask=2047
 dum:t.dummies=#[]
 len:t.place.size=hs.length
 rise:Rise t.place
 le:∀ j∈t.place.toList,j<=t.mask
 rch:∀ (i:Nat) (h:Int) (j:Nat),hs[i]?=some h->t.place[i]?=some j->∃ n,(ZaH t.mask n (st0 t.mask h)).j=j/\∀ q,q<n->(ZaH t.mask q (st0 t.mask h)).j∈t.place.toList
theorem TOk.cov {t:SetTable} {hs:List Int} (T:TOk t hs):Zee (t.mask+1)=true:=by
 rcases T.mask with e | e | e | e | e <;> rw [e]
 ·exact Zlh
 ·exact Zia
 ·exact Zgu
 ·exact Zgv
 ·exact Zfb
theorem TOk.fill {t:SetTable} {hs:List Int} (T:TOk t hs):t.fill=hs.length:=by
 unfold SetTable.fill
 rw [T.dum,T.len]
 rfl
theorem TOk.fits {t:SetTable} {hs:List Int} (T:TOk t hs) (h:hs.length<=t.mask):t.fits hs.length=true:=by
 unfold SetTable.fits
 rw [Bool.and_eq_true,beq_iff_eq,decide_eq_true_eq,T.fill]
 exact ⟨T.len,h⟩
theorem TOk.odd {t:SetTable} {hs:List Int} (T:TOk t hs):t.gaveWay=false:=by
 unfold SetTable.gaveWay
 rcases T.mask with e | e | e | e | e <;> rw [e] <;> rfl
theorem TOk.fresh (f m:Nat) (led:Bool):TOk (SetTable.fresh f m led) []:=
 ⟨.inl rfl,rfl,rfl,List.Pairwise.nil,λj hj=>by simp [SetTable.fresh] at hj,λi h j e=>by simp at e⟩
theorem TOk.empty {t:SetTable} {hs:List Int} (T:TOk t hs) (hl:hs.length<=t.mask) (h:Int):∃ n,n+10<10 * SetTable.turns t.mask/\(ZaH t.mask n (st0 t.mask h)).j ∉ t.place.toList:=by
 obtain ⟨j,h1,h2⟩:=ZcL (mask:=t.mask) (l:=t.place.toList) (by rw [Array.length_toList,T.len];exact hl)
 obtain ⟨n,h3,h4⟩:=Zfd T.cov h h1
 exact ⟨n,h3,by rw [h4];exact h2⟩
theorem ZjG {t:SetTable} {j:Nat}:(t.put j).2=SetTable.below t.place j:=rfl
theorem Zbz {t:SetTable} {j:Nat}:(t.put j).1.place.toList=ins t.place.toList (SetTable.below t.place j) j:=by
 show (SetTable.insertAt t.place (SetTable.below t.place j) j).toList=_
 rw [SetTable.toList_insertAt]
 rfl
theorem TOk.put {t:SetTable} {hs:List Int} (T:TOk t hs) {h:Int} {n:Nat} (hn:(ZaH t.mask n (st0 t.mask h)).j ∉ t.place.toList) (hr:∀ q,q<n->(ZaH t.mask q (st0 t.mask h)).j∈t.place.toList) :
  SetTable.below t.place (ZaH t.mask n (st0 t.mask h)).j<=hs.length/\TOk (t.put (ZaH t.mask n (st0 t.mask h)).j).1 (ins hs (SetTable.below t.place (ZaH t.mask n (st0 t.mask h)).j) h):=by
 have hle:=Zff t.mask n h
 generalize hj:(ZaH t.mask n (st0 t.mask h)).j=j at hn hle ⊢
 obtain ⟨b1,b2,b3⟩:=ZcK (j:=j) T.rise
 have hb:SetTable.below t.place j<=hs.length:=by rw [<-T.len];exact b1
 have hb':SetTable.below t.place j<=t.place.toList.length:=by rw [Array.length_toList];exact b1
 have pm:∀ x,x∈t.place.toList->x∈(t.put j).1.place.toList:=λx hx=>by rw [Zbz];exact ins_mem.mpr (.inr hx)
 refine ⟨hb,T.mask,?_,?_,?_,λx hx=>?_,λi g x e1 e2=>?_⟩
 ·show (if SetTable.has t.dummies j=true then SetTable.eraseAt t.dummies (SetTable.below t.dummies j) else t.dummies)=#[]
  rw [T.dum]
  have e:SetTable.has #[] j=false:=by unfold SetTable.has;simp
  rw [e]
  rfl
 ·rw [Zc7 hb,<-Array.length_toList,Zbz,Zc7 hb',Array.length_toList,T.len]
 ·unfold Rise
  rw [Zbz]
  unfold ins
  rw [List.pairwise_append]
  refine ⟨List.Pairwise.sublist (List.take_sublist _ _) T.rise,?_,λa ha b hb2=>?_⟩
  ·refine List.pairwise_cons.mpr ⟨λb hb2=>?_,List.Pairwise.sublist (List.drop_sublist _ _) T.rise⟩
   obtain ⟨k,hk,e⟩:=List.getElem_of_mem hb2
   rw [List.getElem_drop] at e
   rw [List.length_drop] at hk
   have e':t.place[SetTable.below t.place j+k]?=some b:=by
    rw [<-Array.getElem?_toList,List.getElem?_eq_getElem (by omega),e]
   have h1:=b3 _ _ (Nat.le_add_right _ _) e'
   have h2:j≠b:=λz=>hn (z▸Zbh e')
   omega
  ·have hlt:a<j:=by
    obtain ⟨k,hk,e⟩:=List.getElem_of_mem ha
    rw [List.getElem_take] at e
    rw [List.length_take] at hk
    have e':t.place[k]?=some a:=by rw [<-Array.getElem?_toList,List.getElem?_eq_getElem (by omega),e]
    exact b2 k a (by omega) e'
   rcases List.mem_cons.mp hb2 with rfl | hb2
   ·exact hlt
   ·obtain ⟨k,hk,e⟩:=List.getElem_of_mem hb2
    rw [List.getElem_drop] at e
    rw [List.length_drop] at hk
    have e':t.place[SetTable.below t.place j+k]?=some b:=by
     rw [<-Array.getElem?_toList,List.getElem?_eq_getElem (by omega),e]
    have h1:=b3 _ _ (Nat.le_add_right _ _) e'
    omega
 ·rw [Zbz] at hx
  rcases ins_mem.mp hx with rfl | hx
  ·exact hle
  ·exact T.le x hx
 ·rw [<-Array.getElem?_toList,Zbz,Zej hb'] at e2
  rw [Zej hb] at e1
  by_cases c1:i<SetTable.below t.place j
  ·rw [if_pos c1] at e1 e2
   obtain ⟨m,r1,r2⟩:=T.rch i g x e1 (by rw [<-Array.getElem?_toList];exact e2)
   exact ⟨m,r1,λq hq=>pm _ (r2 q hq)⟩
  ·rw [if_neg c1] at e1 e2
   by_cases c2:i=SetTable.below t.place j
   ·rw [if_pos c2] at e1 e2
    cases e1
    cases e2
    exact ⟨n,hj,λq hq=>pm _ (hr q hq)⟩
   ·rw [if_neg c2] at e1 e2
    obtain ⟨m,r1,r2⟩:=T.rch (i-1) g x e1 (by rw [<-Array.getElem?_toList];exact e2)
    exact ⟨m,r1,λq hq=>pm _ (r2 q hq)⟩
abbrev Zf0 (es:Array (Int×Value)):List Int:=es.toList.map (·.1)
structure SOk (t:SetTable) (es:Array (Int×Value)):Prop where
 T:TOk t (Zf0 es)
 room:es.size * 5<t.mask * 3
theorem Za1 (es:Array (Int×Value)):(Zf0 es).length=es.size:=by rw [List.length_map,Array.length_toList]
theorem SOk.le {t:SetTable} {es:Array (Int×Value)} (S:SOk t es):(Zf0 es).length<=t.mask:=by
 have:=S.room
 rw [Za1]
 omega
theorem SOk.fits {t:SetTable} {es:Array (Int×Value)} (S:SOk t es):t.fits es.size=true:=by
 have:=S.T.fits S.le
 rw [Za1] at this
 exact this
theorem SOk.fresh (f m:Nat) (led:Bool):SOk (SetTable.fresh f m led) #[]:=⟨TOk.fresh f m led,by show 0 * 5<7 * 3;decide⟩
theorem ZdW (es:Array (Int×Value)) (p:Nat) (h:Int) (x:Value):Zf0 (SetTable.insertAt es p (h,x))=ins (Zf0 es) p h:=by
 unfold Zf0
 rw [SetTable.toList_insertAt]
 exact Zg6 (·.1) es.toList p (h,x)
theorem Zc8 (es:Array (Int×Value)) (p:Nat) (x:Int×Value):(SetTable.insertAt es p x).size=es.size+1:=by
 rw [<-Array.length_toList,(SetTable.insertAt_perm es p x).length_eq,Array.length_toList,Array.size_push]
theorem SOk.put {t:SetTable} {es:Array (Int×Value)} (S:SOk t es) {h:Int} {n:Nat} (x:Value) (hn:(ZaH t.mask n (st0 t.mask h)).j ∉ t.place.toList) (hr:∀ q,q<n->(ZaH t.mask q (st0 t.mask h)).j∈t.place.toList) :
  TOk (t.put (ZaH t.mask n (st0 t.mask h)).j).1 (Zf0 (SetTable.insertAt es (t.put (ZaH t.mask n (st0 t.mask h)).j).2 (h,x)))/\(t.put (ZaH t.mask n (st0 t.mask h)).j).1.fits (es.size+1)=true:=by
 obtain ⟨h1,h2⟩:=S.T.put hn hr
 rw [ZjG,ZdW]
 refine ⟨h2,?_⟩
 have h3:=h2.fits (by rw [Zc7 h1,Za1];show es.size+1<=t.mask;have:=S.room;rcases S.T.mask with e | e | e | e | e <;> omega)
 rw [Zc7 h1,Za1] at h3
 exact h3
theorem ZdK {es:Array (Int×Value)} {od:Array Nat} (h:od.toList.Perm (List.range es.size)) (r:Nat):(od.filterMap (es[·]?))[r]?=(od[r]?).bind (es[·]?):=by
 rw [<-Array.getElem?_toList,Array.toList_filterMap,Zb6 _ _ (λx hx=>?_),Array.getElem?_toList]
 have:=List.mem_range.mp (h.mem_iff.mp hx)
 rw [Array.getElem?_eq_getElem this]
 rfl
theorem Zbc {es:Array (Int×Value)} {od:Array Nat} (h:od.toList.Perm (List.range es.size)):(od.filterMap (es[·]?)).toList.Perm es.toList:=by
 rw [Array.toList_filterMap]
 exact (h.filterMap _).trans (by rw [PySem.filterMap_getElem?_range])
theorem Zf1 {t:SetTable} {es:Array (Int×Value)} (T:TOk t (Zf0 es)) (hn:es.size=5/\t.mask=7\/es.size=19/\t.mask=31\/es.size=77/\t.mask=127\/es.size=307/\t.mask=511) :
  ∃ t2 od,t.relaid (es.map (·.1)) (SetTable.grown es.size)=some (t2,od)/\od.toList.Perm (List.range es.size)/\SOk t2 (od.filterMap (es[·]?))/\t2.led=t.led/\t2.plain=t.plain/\SetTable.sizeAbove (SetTable.grown es.size)<=2048:=by
 have hsz:(es.map (·.1)).size=es.size:=Array.size_map
 have hm:∃ m,SetTable.sizeAbove (SetTable.grown es.size)-1=m/\(m=31\/m=127\/m=511\/m=2047)/\es.size * 5<m * 3/\SetTable.sizeAbove (SetTable.grown es.size)<=2048:=by
  rcases hn with ⟨e,_⟩ | ⟨e,_⟩ | ⟨e,_⟩ | ⟨e,_⟩ <;> rw [e]
  ·exact ⟨31,by decide,.inl rfl,by decide,by decide⟩
  ·exact ⟨127,by decide,.inr (.inl rfl),by decide,by decide⟩
  ·exact ⟨511,by decide,.inr (.inr (.inl rfl)),by decide,by decide⟩
  ·exact ⟨2047,by decide,.inr (.inr (.inr rfl)),by decide,by decide⟩
 obtain ⟨m,e,hmm,hroom,h128⟩:=hm
 have hc:Zee (m+1)=true:=by
  rcases hmm with rfl | rfl | rfl | rfl
  ·exact Zia
  ·exact Zgu
  ·exact Zgv
  ·exact Zfb
 obtain ⟨t2,od,e2,L⟩:=Zfj hc t.finger (t.movedTo m) t.led t.plain (es.map (·.1)) (by rw [hsz];omega)
 have hp:=L.perm
 rw [hsz] at hp
 refine ⟨t2,od,by unfold SetTable.relaid;rw [e];exact e2,hp,⟨⟨by rw [L.tm];exact .inr hmm,L.td,?_,L.rise,by rw [L.tm];exact L.le,λi h j e1 e3=>?_⟩,?_⟩,L.tl,L.tp,h128⟩
 ·rw [L.sz,hsz,Za1]
  have:=(Zbc hp).length_eq
  rw [Array.length_toList,Array.length_toList] at this
  exact this.symm
 ·rw [L.tm]
  have e1':((od[i]?).bind (es[·]?)).map (·.1)=some h:=by
   rw [<-ZdK hp,<-Array.getElem?_toList,<-List.getElem?_map]
   exact e1
  cases hq:od[i]? with
  | none=>rw [hq] at e1';cases e1'
  | some q=>
   rw [hq] at e1'
   exact L.rch i q j h hq e3 (by rw [Array.getElem?_map];exact e1')
 ·rw [L.tm]
  have:=(Zbc hp).length_eq
  rw [Array.length_toList,Array.length_toList] at this
  rw [this]
  exact hroom
theorem Zfk {t:SetTable} {es:Array (Int×Value)} (S:SOk t es) (h76:es.size+1<=1228) {t1:SetTable} {hs1:List Int} (T1:TOk t1 hs1) (hl:hs1.length=es.size+1) (hm:t1.mask=t.mask) :
  (t1.tooFull=true/\(es.size+1=5/\t1.mask=7\/es.size+1=19/\t1.mask=31\/es.size+1=77/\t1.mask=127\/es.size+1=307/\t1.mask=511))\/(t1.tooFull=false/\(es.size+1) * 5<t1.mask * 3):=by
 have hr:=S.room
 have e:t1.tooFull=decide ((es.size+1) * 5>=t1.mask * 3):=by
  unfold SetTable.tooFull
  rw [T1.fill,hl]
 rw [e]
 by_cases h:(es.size+1) * 5>=t1.mask * 3
 ·refine .inl ⟨decide_eq_true h,?_⟩
  rcases T1.mask with q | q | q | q | q
  ·left;omega
  ·right;left;omega
  ·right;right;left;omega
  ·right;right;right;omega
  ·omega
 ·exact .inr ⟨decide_eq_false h,by omega⟩
end L2
namespace L2
open PySem PySem.Spec PyProof.Rows
end L2
namespace L2
open PySem PySem.Spec PyProof.Rows
def Zcw (w:World):Bool:=w.params.followText "set-order"
section
variable {P:Program} {w:World} {A:Around} {E:Value->Shared->Prop} {s:Shared}
def Zlj (P:Program) (w:World) (e:Int×Value) (n:Int):Prop:=e.1=(intKind P w).hash n/\∃ tk,e.2=Value.int n tk
def Zlk (P:Program) (w:World) (o:Obj) (σ:List Int):Prop:=∃ es ep t,o.ExactSet/\o.data=.set es ep t/\Paired (Zlj P w) es.toList σ/\σ.Nodup/\SOk t es/\t.plain=true/\t.led=!Zcw w
theorem ZdL {h:Heap} {a:Addr} {o:Obj} {es:Array (Int×Value)} {ep:Nat} {t:SetTable} (ho:h.get? a=some o) (hd:o.data=.set es ep t) (es':Array (Int×Value)) (t':SetTable) :
  (h.update a (Obj.putSet es' t')).get? a=some { o with data:=.set es' (ep+1) t' }:=by
 have:=Heap.get?_update_self (Obj.putSet es' t') ho (by rw [putSet_of es' t' hd];rfl)
 rw [putSet_of es' t' hd] at this
 exact this
end
end L2
namespace L2
open PySem PySem.Spec PyProof.Rows
def ZaM (w:World):Obj:={ cls:=.type "set", dict:=none,data:=.set #[] 0 (.fresh 0 0 (!Zcw w)) }
section
variable {P:Program} {w:World} {A:Around} {E:Value->Shared->Prop} {s:Shared}
theorem Zf2 (a:Value) {Q1:Value->Shared->Prop} (h:Q1 (.ref s.heap.objs.size) { s with heap:=s.heap.push (ZaM w) }) :
  codeAny (model P w) A (.call (.builtin "set.__new__") ⟨[.type "set", a],[]⟩) (wants Q1 E) s:=by
 apply codeAny_of_tree
 show wpAny _ A.in1 (checkBuiltinCall "set.__new__" ⟨[.type "set", a],[]⟩ >>= λ_=>again (.builtin "set.__new__" ⟨[.type "set", a],[]⟩)) _ _ s
 apply wpAny_bind
 apply wpAny_of_eq (F.newCall_set_1 a)
 refine wpAny_pure ⟨plainId_quiet F.plain_set_new _,?_⟩
 apply codeAny_builtin F.entry_set_new
 rw [Around.under_plainId F.plain_set_new _]
 unfold Builtin.«set.__new__» Builtin.Frozenset.newClass
 have hsb:=sub_set_self
 obtain ⟨hp,g,d,tk,os⟩:=s
 dsimp only
 wp_walk
 apply wpAny_askSetting
 apply wpAny_pure
 dsimp only
 simp only [newObj]
 apply wpAny_bind
 apply wpAny_alloc
 apply wpAny_pure
 apply wpAny_pure
 exact h
theorem Zf3 {I:Addr} {fp wr:List Addr} {G:Array GenState->Array GenState->Prop} {n:Nat} {Pv:Nat->Value->Prop} {St:Nat->Shared->Prop} {R:Result->Shared->Prop}
  (W:WalksS P w A.in1 I fp wr G n Pv St) (S:Addr) (hSf:S ∉ fp) (J:Nat->Obj->Prop) (Kp:Heap->Prop) (hK:∀ h h':Heap,Kp h->(∀ b o,b ∉ S::wr->h.get? b=some o->h'.get? b=some o)->Kp h')
  (hadd:∀ (i:Nat) (v:Value) (s1:Shared) (o:Obj) (Q:Bool->Shared->Prop) (E1:Value->Shared->Prop),i<n->Pv i v->Kp s1.heap->s1.heap.get? S=some o->J i o ->
   (∀ (b:Bool) (h':Heap) (tk:Nat) (o':Obj),s1.toks<=tk->Heap.SameBut S s1.heap h'->h'.get? S=some o'->J (i+1) o'->Q b { s1 with heap:=h',toks:=tk })->wpAny (model P w) A.in1 (setAdd S v) Q E1 s1) :
  ∀ (k i:Nat) (s:Shared) (o:Obj),n-i=k->i<=n->St i s->Kp s.heap->s.heap.get? S=some o->J i o ->
   (∀ (s':Shared) (o':Obj),Moved (S::wr) G s s'->s'.heap.get? S=some o'->J n o'->R (.ok (.ret .none)) s') ->
   codeAny (model P w) A (.builtin "set.update.loop" ⟨[.ref S,.ref I],[]⟩) R s:=by
 have hSw:S ∉ wr:=λz=>hSf (W.sub _ z)
 have up:∀ b∈wr,b∈S::wr:=λb z=>List.mem_cons_of_mem _ z
 intro k
 induction k with
 | zero=>
  intro i s o hk hi st kp ho hj hR
  have e:i=n:=by omega
  subst e
  apply codeAny_builtin PyProof.Rows.F.entry_set_update_loop
  rw [Around.under_plainId PyProof.Rows.F.plain_set_update_loop _]
  apply wpAny_bind
  refine W.done s _ _ st λs1 hm=>?_
  apply wpAny_pure
  exact hR s1 o (hm.mono up) (hm.heap S _ hSw ho) hj
 | succ k ih=>
  intro i s o hk hi st kp ho hj hR
  have hlt:i<n:=by omega
  apply codeAny_builtin PyProof.Rows.F.entry_set_update_loop
  rw [Around.under_plainId PyProof.Rows.F.plain_set_update_loop _]
  apply wpAny_bind
  refine W.item i s _ _ hlt st λv s1 hv st1 hm=>?_
  have ho1:=hm.heap S _ hSw ho
  have kp1:Kp s1.heap:=hK _ _ kp λb o' hb e=>hm.heap b o' (λz=>hb (up _ z)) e
  apply wpAny_bind
  apply wpAny_holding
  refine hadd i v s1 o _ _ hlt hv kp1 ho1 hj λb h' tk o' htk sb ho' hj'=>?_
  refine wpAny_pure ⟨plainId_quiet PyProof.Rows.F.plain_set_update_loop _,ih (i+1) _ o' (by omega) hlt (W.frame _ s1 _ _ st1 htk λb hb o2 e=>?_) (hK _ _ kp1 λb o2 hb e=>?_) ho' hj' λs2 o2 hm2 ho2 hj2=>?_⟩
  ·rw [sb.2 b (λz:b=S=>hSf (z▸hb))];exact e
  ·show h'.get? b=some o2
   rw [sb.2 b (λz:b=S=>hb (by rw [z];exact List.mem_cons_self))];exact e
  ·refine hR s2 o2 (Moved.trans W.gtrans ((hm.mono up).then_heap htk λb o3 hb e=>?_) hm2) ho2 hj2
   rw [sb.2 b (λz:b=S=>hb (by rw [z];exact List.mem_cons_self))];exact e
theorem Zfl {l:Addr} {items:Array Value} {Q:Value->Shared->Prop} (hh:A.handled=none) (hl:s.heap.IsList l items) (J:Nat->Obj->Prop) (Kp:Heap->Prop)
  (h0:J 0 (ZaM w)) (hK0:∀ h':Heap,(∀ b o,b<s.heap.objs.size->s.heap.get? b=some o->h'.get? b=some o)->Kp h')
  (hadd:∀ (i:Nat) (v:Value) (s1:Shared) (o:Obj) (Q:Bool->Shared->Prop) (E1:Value->Shared->Prop),i<items.size->items[i]?=some v->Kp s1.heap->s1.heap.get? s.heap.objs.size=some o->J i o ->
   (∀ (b:Bool) (h':Heap) (tk:Nat) (o':Obj),s1.toks<=tk->Heap.SameBut s.heap.objs.size s1.heap h'->h'.get? s.heap.objs.size=some o'->J (i+1) o'->Q b { s1 with heap:=h',toks:=tk })->wpAny (model P w) A.in1.in1.in1 (setAdd s.heap.objs.size v) Q E1 s1)
  (h:∀ (h':Heap) (tk:Nat) (o':Obj),h'.get? s.heap.objs.size=some o'->J items.size o'->(∀ b o,b<s.heap.objs.size->s.heap.get? b=some o->h'.get? b=some o)->Q (.ref s.heap.objs.size) { s with heap:=h',toks:=tk }) :
  wpAny (model P w) A (call (.type "set") [.ref l]) Q E s:=by
 obtain ⟨c,tl,hmro⟩:=F.called_set.mro
 have hmade:=F.called_set.made
 have hsub:=F.called_set.sub
 apply wpAny_call
 apply codeAny_of_tree
 show wpAny _ _ (callAny (.type "set") _) _ _ _
 refine wpAny_pure ⟨Code.quiet_builtin _ (by decide +kernel),?_⟩
 apply codeAny_builtin F.entry_type_call
 rw [Around.under_plain (weight_type_call_type "set" [.ref l] []) rfl]
 have h1:=F.called_set.notType
 have h2:=F.called_set.canCreate
 have hct:=F.typeCall_set_1 (.ref l)
 repeat (any_goals (first | assumption | wp_step))
 refine codeAny_mono (Zf2 (.ref l) (E:=E) (Q1:=λobj s1=>obj=.ref s.heap.objs.size/\s1={ s with heap:=s.heap.push (ZaM w) }) ⟨rfl,rfl⟩) λr s1 hr=>?_
 cases r with
 | error e=>exact hr
 | ok fl=>
  cases fl with
  | ret obj=>
   obtain ⟨rfl,rfl⟩:=hr
   have hS:(s.heap.push (ZaM w)).get? s.heap.objs.size=some (ZaM w):=Heap.get?_push_size _ rfl
   have hT:Shared.TypeIs { s with heap:=s.heap.push (ZaM w) } (.ref s.heap.objs.size) "set" := ⟨_,hS,rfl⟩
   have hli:=F.called_set.init.lookup
   have hbi:=F.called_set.init.bind (.ref s.heap.objs.size)
   repeat (any_goals (first | assumption | wp_step))
   refine codeAny_mono (codeAny_call_builtin (R:=wants (λr s2=>r=.none/\∃ (h':Heap) (tk:Nat) (o':Obj),s2={ s with heap:=h',toks:=tk }/\h'.get? s.heap.objs.size=some o'/\J items.size o' /\
     (∀ b o,b<s.heap.objs.size->s.heap.get? b=some o->h'.get? b=some o)) E) F.called_set.init.plain F.entry_set_init (check_set_init_1 hT ?_)) λr2 s2 hr2=>?_
   ·obtain ⟨ol,hol,hcl,nl,hdl⟩:=hl
    obtain ⟨ocls,odict,odata,oslots⟩:=ol
    simp only at hcl hdl
    subst hcl;subst hdl
    have hol':(s.heap.push (ZaM w)).get? l=some { cls:=.type "list", dict:=odict,data:=.seq items nl,slots:=oslots }:=Heap.get?_push_of_some _ hol
    have hsls:=F.sub_list_set
    have hslf:=F.sub_list_frozenset
    have hne:(Value.type "list" == Value.type "dict")=false:=by decide
    have hl1:(s.heap.push (ZaM w)).IsList l items:=⟨_,hol',rfl,nl,rfl⟩
    have hS':(s.heap.push (ZaM w)).get? s.heap.objs.size=some { cls:=.type "set", dict:=none,data:=.set #[] 0 (.fresh 0 0 (!Zcw w)) }:=hS
    unfold Builtin.«set.__init__» noKeywords Builtin.Frozenset.updateFrom
    generalize hPI:pyIter=PI
    wp_walk
    subst hPI
    apply wpAny_pyIter_list hl1
    apply wpAny_bind
    apply wpAny_runValue
    have hlS:l<s.heap.objs.size:=Heap.lt_size hol
    have hh3:A.in1.in1.in1.handled=none:=by simp [hh]
    have hz:(s.heap.push (ZaM w)).objs.size=s.heap.objs.size+1:=Heap.size_push ..
    have hneI:l≠(s.heap.push (ZaM w)).objs.size:=by rw [hz];exact Nat.ne_of_lt (Nat.lt_succ_of_lt hlS)
    have hSf:s.heap.objs.size ∉ [(s.heap.push (ZaM w)).objs.size,l]:=by
     rw [hz]
     intro z
     rcases List.mem_cons.mp z with z | z
     ·exact Nat.ne_of_lt (Nat.lt_succ_self _) z
     ·exact Nat.ne_of_gt hlS (List.mem_singleton.mp z)
    have kold:∀ b o,b<s.heap.objs.size->s.heap.get? b=some o->((s.heap.push (ZaM w)).push { cls:=.type "list_iterator", data:=.fields #[.ref l,.int 0 0] }).get? b=some o:=
     λb o _ e=>Heap.get?_push_of_some _ (Heap.get?_push_of_some _ e)
    refine Zf3 ((Walks.list hh3 _ l hneI items).toS) s.heap.objs.size hSf J (λh'=>∀ b o,b<s.heap.objs.size->s.heap.get? b=some o->h'.get? b=some o) ?_ ?_ (items.size-0) 0 _ (ZaM w) (by omega) (Nat.zero_le _)
     ⟨⟨_,Heap.get?_push_size _ rfl,rfl,rfl⟩,(hl1.push _)⟩ kold (Heap.get?_push_of_some _ hS) h0 ?_
    ·intro ha hb hab hst b o hlt e
     refine hst b o ?_ (hab b o hlt e)
     intro z
     rcases List.mem_cons.mp z with z | z
     ·exact Nat.ne_of_lt hlt z
     ·exact Nat.ne_of_lt (Nat.lt_succ_of_lt hlt) ((List.mem_singleton.mp z).trans hz)
    ·intro i v s1 o Q1 E1 hi hv kp ho hj hq
     exact hadd i v s1 o Q1 E1 hi hv (hK0 _ kp) ho hj hq
    ·intro s' o' hm ho' hj'
     obtain ⟨h',g',d',tk',os'⟩:=s'
     have eg:g'=s.gens:=hm.gens
     have ed:d'=s.drawn:=hm.drawn
     have eo:os'=s.os:=hm.os
     subst eg;subst ed;subst eo
     apply wpAny_pure
     refine wpAny_pure ⟨rfl,h',tk',o',rfl,ho',hj',λb o hb e=>?_⟩
     refine hm.heap b o ?_ (Heap.get?_push_of_some _ (Heap.get?_push_of_some _ e))
     intro z
     rcases List.mem_cons.mp z with z | z
     ·exact Nat.ne_of_lt hb z
     ·exact Nat.ne_of_lt (Nat.lt_succ_of_lt hb) ((List.mem_singleton.mp z).trans hz)
   ·cases r2 with
    | error e=>exact hr2
    | ok fl2=>
     cases fl2 with
     | ret r=>
      obtain ⟨rfl,h',tk,o',rfl,ho',hj',hk'⟩:=hr2
      repeat (any_goals (first | assumption | wp_step))
      exact h _ _ _ ho' hj' hk'
     | _=>exact hr2.elim
  | _=>exact hr.elim
end
end L2
namespace L2
open PySem PySem.Spec PyProof.Rows
def Zie (t:SetTable):Nat->Nat
 | 0=>0
 | i+1=>t.place.getD i 0+1
section
variable {P:Program} {w:World} {A:Around} {E:Value->Shared->Prop} {s:Shared}
def SAt (w:World) (h:Heap) (a:Addr) (es:Array (Int×Value)) (ep:Nat) (t:SetTable):Prop:=
 (∃ o,h.get? a=some o/\o.ExactSet/\o.data=.set es ep t)/\SOk t es/\t.plain=true/\t.led=!Zcw w
def Zks (w:World) (a:Addr) (es:Array (Int×Value)) (ep:Nat):List (Int×Value):=if Zcw w then (pickOrder (w.params.setOrder a ep) es).toList else es.toList
def ZjH (w:World) (t:SetTable) (i:Nat):Nat:=if Zcw w then 0 else Zie t i
def Zif (w:World) (h:Heap) (it a:Addr) (t:SetTable) (i n ep:Nat):Prop:=
 ∃ o,h.get? it=some o/\o.cls=.type "set_iterator" /\ o.data=.fields #[.int (ZjH w t i) 0,.int i 0,.ref a,.int n 0,.int ep 0]
end
end L2
namespace L2
open PySem PySem.Spec PyProof.Rows
section
variable {P:Program} {w:World} {A:Around} {E:Value->Shared->Prop} {s:Shared}
end
def Zl6 (P:Program) (w:World) (a:Addr) (ms:List Int):HO:=.ext λh=>∃ o σ,h.get? a=some o/\Zlk P w o σ/\σ.Perm ms
theorem Zc9 {α:Type} {l:List α} {i:Nat} {x y:α} (h:l[i]?=some x):y∈l.take (i+1)↔y∈l.take i\/y=x:=by
 rw [List.take_succ,h]
 simp
section
variable {X:Cx} (K:PySem.W.Frag)
end
end L2
namespace L2
open PySem PySem.Spec PyProof.Rows
section
variable {P:Program} {w:World} {A:Around} {E:Value->Shared->Prop} {s:Shared}
end
section
variable {X:Cx}
end
end L2
namespace L2
open PySem PySem.Spec PyProof.Rows
section
variable {X:Cx} (P:Program) (w:World) (K:PySem.W.Frag)
end
end L2
namespace L2
open PySem PySem.Spec PyProof.Rows
section
variable {X:Cx}
def Zkt:V->List V->Hp->VK->Prop:=λx vs H Q=>∃ (l:Addr) (ns:List Int) (i:Int),x=.ref l/\vs=[.int i]/\H l=some (.lst (ns.map V.int))/\Q (.int ((ns.count i:Nat):Int)) H
end
end L2
namespace L2
open PySem PySem.Spec PyProof.Rows
section
variable {P:Program} {w:World} {A:Around} {E:Value->Shared->Prop} {s:Shared}
abbrev ZaE (P:Program) (w:World) (r:Int×Int):Int:=tupleKeyHash (intKind P w) [r.1,r.2]
def IsPr (P:Program) (w:World) (h:Heap) (r:Int×Int) (a:Addr):Prop:=IsTupleKey (intKind P w) h [r.1,r.2] a
def ZeB (P:Program) (w:World) (h:Heap) (e:Int×Value) (r:Int×Int):Prop:=e.1=ZaE P w r/\∃ a,e.2=.ref a/\IsPr P w h r a
theorem IsPr.keep {h h':Heap} {r:Int×Int} {a:Addr} (x:IsPr P w h r a) (k:∀ o,h.get? a=some o->h'.get? a=some o):IsPr P w h' r a:=by
 obtain ⟨o,its,n,h1,h2⟩:=x
 exact ⟨o,its,n,k _ h1,h2⟩
theorem ZbA:∀ {h:Heap} {l:List (Int×Value)} {ps:List (Int×Int)},Paired (ZeB P w h) l ps->∀ {i:Nat} {e:Int×Value},l[i]?=some e->∃ r,ps[i]?=some r/\ZeB P w h e r
 | _,_,_,.nil,i,e,z=>by simp at z
 | _,_,_,.cons h0 t,0,e,z=>by simp at z;subst z;exact ⟨_,rfl,h0⟩
 | _,_,_,.cons h0 t,i+1,e,z=>by
  obtain ⟨r,h1,h2⟩:=ZbA t (i:=i) (e:=e) (by simpa using z)
  exact ⟨r,by simpa using h1,h2⟩
theorem ZcM {h:Heap} {l l':List (Int×Value)} (p:l'.Perm l):∀ {σ:List (Int×Int)},Paired (ZeB P w h) l σ->∃ σ',Paired (ZeB P w h) l' σ'/\σ'.Perm σ:=by
 induction p with
 | nil=>intro σ h;cases h;exact ⟨[],.nil,.refl _⟩
 | cons x _ ih=>
  intro σ h
  cases h with
  | cons h t=>
   obtain ⟨σ',h1,h2⟩:=ih t
   exact ⟨_,.cons h h1,h2.cons _⟩
 | swap x y l=>
  intro σ h
  cases h with
  | cons h t=>
   cases t with
   | cons h' t=>exact ⟨_,.cons h' (.cons h t),.swap _ _ _⟩
 | trans _ _ ih1 ih2=>
  intro σ h
  obtain ⟨σ1,h1,p1⟩:=ih2 h
  obtain ⟨σ2,h2,p2⟩:=ih1 h1
  exact ⟨σ2,h2,p2.trans p1⟩
theorem ZdM:∀ {h:Heap} {l k:List (Int×Value)} {σ τ:List (Int×Int)},Paired (ZeB P w h) l σ->Paired (ZeB P w h) k τ->Paired (ZeB P w h) (l++k) (σ++τ)
 | _,_,_,_,_,.nil,h=>h
 | _,_,_,_,_,.cons h t,k=>.cons h (ZdM t k)
theorem ZdN {ks:List Int} {vs:List Value} (h:ItemsAre (intKind P w) ks vs):∀ v∈vs,∃ i t,v=Value.int i t:=by
 induction h with
 | nil=>intro v hv;simp at hv
 | @cons k v' ks vs h1 _ ih=>
  intro v hv
  rcases List.mem_cons.mp hv with rfl | hv
  ·cases v with
   | int i t=>exact ⟨i,t,rfl⟩
   | _=>cases h1
  ·exact ih v hv
theorem ZcN {a:Addr} {r:Int×Int} {Q:Bool->Shared->Prop} (hx:IsPr P w s.heap r a) (h:Q false s):wpAny (model P w) A (ofAClassStatement 8 (.ref a)) Q E s:=by
 have hT:=IsTupleKey.typeIs hx
 obtain ⟨o,its,n,ho,hc,hd,hi⟩:=hx
 unfold ofAClassStatement
 apply wpAny_bind
 apply wpAny_typeOf hT
 apply wpAny_bind
 apply wpAny_pure
 apply wpAny_bind
 apply wpAny_seqItems ho hd
 dsimp only
 apply wpAny_bind
 rw [<-Array.forIn_toList]
 refine wpAny_forIn_list _ (λrest c s'=>c.1=none/\s'=s/\∀ v∈rest,∃ i t,v=Value.int i t) _ ?_ ?_ _ _ ⟨rfl,rfl,ZdN hi⟩
 ·rintro v rest c s' ⟨hr,rfl,hall⟩
  obtain ⟨i,t,rfl⟩:=hall v List.mem_cons_self
  apply wpAny_bind
  apply wpAny_pure
  rw [if_neg Bool.false_ne_true]
  exact wpAny_pure ⟨rfl,rfl,λu hu=>hall u (List.mem_cons_of_mem _ hu)⟩
 ·rintro ⟨c1,c2⟩ s' ⟨hr,rfl,_⟩
  simp only at hr
  subst hr
  exact wpAny_pure h
theorem Zfm {b:Addr} {r:Int×Int} {l:List Value} {Q:Bool->Shared->Prop} (hx:IsPr P w s.heap r b) (hl:∀ v∈l,∃ a r',v=Value.ref a/\IsPr P w s.heap r' a) (h:Q false s):wpAny (model P w) A (searchCouldBeSeen (.ref b) l) Q E s:=by
 unfold searchCouldBeSeen
 apply wpAny_bind
 refine wpAny_forIn_list _ (λrest c s'=>c.1=none/\s'=s/\∀ v∈rest,∃ a r',v=Value.ref a/\IsPr P w s.heap r' a) _ ?_ ?_ _ _ ⟨rfl,rfl,hl⟩
 ·rintro v rest c s' ⟨hr,rfl,hall⟩
  obtain ⟨a,r',rfl,hy⟩:=hall v List.mem_cons_self
  have nxt:∀ u∈rest,∃ a r',u=Value.ref a/\IsPr P w s'.heap r' a:=λu hu=>hall u (List.mem_cons_of_mem _ hu)
  dsimp only
  by_cases hv:((b == a) || (carriedByValue (.ref b) && carriedByValue (.ref a)))=true
  ·rw [if_pos hv]
   exact wpAny_pure ⟨rfl,rfl,nxt⟩
  ·rw [if_neg hv]
   apply wpAny_bind
   refine wpAny_eqIsQuiet_tuple hx ?_
   rw [if_neg (by decide)]
   apply wpAny_bind
   refine wpAny_eqIsQuiet_tuple hy ?_
   rw [if_neg (by decide)]
   apply wpAny_bind
   refine ZcN hx ?_
   rw [if_neg Bool.false_ne_true]
   apply wpAny_bind
   refine ZcN hy ?_
   rw [if_neg Bool.false_ne_true]
   exact wpAny_pure ⟨rfl,rfl,nxt⟩
 ·rintro ⟨c1,c2⟩ s' ⟨hr,rfl,_⟩
  simp only at hr
  subst hr
  exact wpAny_pure h
def hAt (es:Array (Int×Value)) (i:Nat):Int:=(es[i]?.map (·.1)).getD 0
section
variable {a b:Addr} {o:Obj} {es:Array (Int×Value)} {ep:Nat} {t:SetTable} {ps:List (Int×Int)} {r:Int×Int} {Q:SetFound->Shared->Prop}
theorem ZbO (hu:A.units<cLine) (ho:s.heap.get? a=some o) (hd:o.data=.set es ep t) (S:SOk t es) (hE:Paired (ZeB P w s.heap) es.toList ps) (hx:IsPr P w s.heap r b)
  (hyes:r∈ps->Q (.there none) s)
  (hno:r ∉ ps->∀ n,(ZaH t.mask n (st0 t.mask (ZaE P w r))).j ∉ t.place.toList->(∀ q,q<n->(ZaH t.mask q (st0 t.mask (ZaE P w r))).j∈t.place.toList)->Q (.free (ZaH t.mask n (st0 t.mask (ZaE P w r))).j false) s)
  (N:Nat) (hN:N+10<10 * SetTable.turns t.mask) (hNe:(ZaH t.mask N (st0 t.mask (ZaE P w r))).j ∉ t.place.toList) :
  ∀ (fuel q:Nat) (stand:Option SetTable.Probe),stand.getD (st0 t.mask (ZaE P w r))=ZaH t.mask q (st0 t.mask (ZaE P w r))->q<=N->N-q<fuel ->
   (∀ m,m<q->∃ i:Nat,t.place[i]?=some (ZaH t.mask m (st0 t.mask (ZaE P w r))).j/\∀ r',ps[i]?=some r'->r'≠r) ->
   wpAny (model P w) A (setSearchFrom a (.ref b) (ZaE P w r) true fuel stand) Q E s
 | 0,q,stand,_,_,hf,_=>absurd hf (Nat.not_lt_zero _)
 | fuel+1,q,stand,hst,hq,hf,hold=>by
  have hlen:t.place.size=es.size:=by rw [S.T.len,Za1]
  have hpl:=Paired.length hE
  rw [Array.length_toList] at hpl
  unfold setSearchFrom
  apply wpAny_bind
  refine wpAny_setState_of ho hd S.fits ?_
  dsimp only
  rw [S.T.odd,if_neg Bool.false_ne_true,Zib,hst]
  have hbase:(ZaH t.mask q (st0 t.mask (ZaE P w r))).dummy=none:=by rw [ZcI];rfl
  have sp:=Zfh (t:=t) (ha:=hAt es) (h:=ZaE P w r) S.T.rise S.T.dum (10 * SetTable.turns t.mask) (ZaH t.mask q (st0 t.mask (ZaE P w r))) ⟨N-q,by omega,by rw [<-ZaL,show q+(N-q)=N by omega];exact hNe⟩
  have live_of:∀ m,(∃ i:Nat,t.place[i]?=some (ZaH t.mask m (ZaH t.mask q (st0 t.mask (ZaE P w r)))).j/\hAt es i≠ZaE P w r)->∃ i:Nat,t.place[i]?=some (ZaH t.mask (q+m) (st0 t.mask (ZaE P w r))).j/\∀ r',ps[i]?=some r'->r'≠r:=by
   rintro m ⟨i,h1,h2⟩
   refine ⟨i,by rw [ZaL];exact h1,λr' hr' e=>?_⟩
   subst e
   apply h2
   have hi:i<es.size:=by
    have:=(List.getElem?_eq_some_iff.mp hr').1
    omega
   obtain ⟨r2,e1,e2⟩:=ZbA hE (i:=i) (e:=es[i]) (by rw [Array.getElem?_toList,Array.getElem?_eq_getElem hi])
   rw [hr'] at e1
   cases e1
   unfold hAt
   rw [Array.getElem?_eq_getElem hi]
   exact e2.1
  have upto:∀ n,(∀ m,m<n->∃ i:Nat,t.place[i]?=some (ZaH t.mask m (ZaH t.mask q (st0 t.mask (ZaE P w r)))).j/\hAt es i≠ZaE P w r)->∀ m,m<q+n->∃ i:Nat,t.place[i]?=some (ZaH t.mask m (st0 t.mask (ZaE P w r))).j/\∀ r',ps[i]?=some r'->r'≠r:=by
   intro n h m hm
   rcases Nat.lt_or_ge m q with z | z
   ·exact hold m z
   ·have:=live_of (m-q) (h (m-q) (by omega))
    rw [show q+(m-q)=m by omega] at this
    exact this
  rcases sp with ⟨n,g1,g2,g3⟩ | ⟨n,i,g1,g2,g3,g4⟩
  ·have em:t.probe (hAt es) (ZaE P w r) (ZaH t.mask q (st0 t.mask (ZaE P w r)))=some (.empty (ZaH t.mask (q+n) (st0 t.mask (ZaE P w r))).j none):=by
    unfold SetTable.probe
    rw [g1,hbase,ZaL]
   generalize hm:t.probe _ (ZaE P w r) (ZaH t.mask q (st0 t.mask (ZaE P w r)))=mm
   have hmm:mm=some (.empty (ZaH t.mask (q+n) (st0 t.mask (ZaE P w r))).j none):=by rw [<-hm];exact em
   subst hmm
   dsimp only
   have all:=upto n g3
   rw [<-ZaL] at g2
   refine wpAny_pure (hno (λhin=>?_) (q+n) g2 λm hm'=>by obtain ⟨i,hi,_⟩:=all m hm';exact Zbh hi)
   obtain ⟨i,hi,e⟩:=List.getElem_of_mem hin
   have hi':i<es.size:=by omega
   have hpi:ps[i]?=some r:=by rw [List.getElem?_eq_getElem hi,e]
   obtain ⟨r2,e1,e2⟩:=ZbA hE (i:=i) (e:=es[i]) (by rw [Array.getElem?_toList,Array.getElem?_eq_getElem hi'])
   rw [hpi] at e1
   cases e1
   have hpj:t.place[i]?=some (t.place[i]'(by omega)):=Array.getElem?_eq_getElem (by omega)
   obtain ⟨m,r1,r3⟩:=S.T.rch i (ZaE P w r) _ (by rw [List.getElem?_map,Array.getElem?_toList,Array.getElem?_eq_getElem hi'];exact congrArg some e2.1) hpj
   rcases Nat.lt_trichotomy m (q+n) with z | z | z
   ·obtain ⟨i2,h1,h2⟩:=all m z
    rw [r1] at h1
    have:i2=i:=by
     have b1:=Zcf S.T.rise h1
     have b2:=Zcf S.T.rise hpj
     omega
    subst this
    exact h2 r hpi rfl
   ·subst z
    rw [r1] at g2
    exact g2 (Zbh hpj)
   ·exact g2 (r3 (q+n) z)
  ·have em:t.probe (hAt es) (ZaE P w r) (ZaH t.mask q (st0 t.mask (ZaE P w r)))=some (.candidate (ZaH t.mask (q+n) (st0 t.mask (ZaE P w r))).j i (ZaH t.mask (q+n+1) (st0 t.mask (ZaE P w r)))):=by
    unfold SetTable.probe
    rw [g1,<-ZaL,<-ZaL,Nat.add_assoc]
   generalize hm:t.probe _ (ZaE P w r) (ZaH t.mask q (st0 t.mask (ZaE P w r)))=mm
   have hmm:mm=some (.candidate (ZaH t.mask (q+n) (st0 t.mask (ZaE P w r))).j i (ZaH t.mask (q+n+1) (st0 t.mask (ZaE P w r)))):=by rw [<-hm];exact em
   subst hmm
   dsimp only
   rw [<-ZaL] at g2
   have hi':i<es.size:=by
    have:=(Array.getElem?_eq_some_iff.mp g2).1
    omega
   obtain ⟨r2,e1,e2,c,e3,e4⟩:=ZbA hE (i:=i) (e:=es[i]) (by rw [Array.getElem?_toList,Array.getElem?_eq_getElem hi'])
   have hnN:q+n<N:=by
    rcases Nat.lt_trichotomy (q+n) N with z | z | z
    ·exact z
    ·subst z;exact absurd (Zbh g2) hNe
    ·obtain ⟨i2,h1,_⟩:=upto n g4 N z
     exact absurd (Zbh h1) hNe
   have hsame:t.sameMemory t.moves t.mask=some true:=by unfold SetTable.sameMemory;simp
   have hslot:t.slot (ZaH t.mask (q+n) (st0 t.mask (ZaE P w r))).j=.live i:=Zfg t S.T.rise g2
   have hget:es[i]?=some (es[i].1,es[i].2):=Array.getElem?_eq_getElem hi'
   rw [hget]
   rw [e3]
   rw [e3] at hget
   have lst:∀ v∈List.map (λx:Int×Value=>x.2) (Array.filter (λx:Int×Value=>x.1 == ZaE P w r) es).toList,∃ a r',v=Value.ref a/\IsPr P w s.heap r' a:=by
    intro v hv
    obtain ⟨e,he,rfl⟩:=List.mem_map.mp hv
    rw [Array.toList_filter] at he
    obtain ⟨j,hj,ej⟩:=List.getElem_of_mem (List.mem_filter.mp he).1
    obtain ⟨r3,_,_,c3,e5,e6⟩:=ZbA hE (i:=j) (e:=e) (by rw [List.getElem?_eq_getElem hj,ej])
    exact ⟨c3,r3,e5,e6⟩
   have hcase:∀ {Z:Sem SetFound},wpAny (model P w) A Z Q E s->wpAny (model P w) A (if (!t.led)=true then do
      let u <- searchCouldBeSeen (Value.ref b) (List.map (λx:Int×Value=>x.2) (Array.filter (λx:Int×Value=>x.1 == ZaE P w r) es).toList)
      if u=true then do
       unsupported "set:the-search-would-show-the-table"
       Z
      else Z
     else Z) Q E s:=by
    intro Z hZ
    cases hl:t.led with
    | true=>
     rw [if_neg (show ¬ ((!true)=true) by decide)]
     exact hZ
    | false=>
     rw [if_pos (show (!false)=true by decide)]
     apply wpAny_bind
     refine Zfm hx lst ?_
     rw [if_neg Bool.false_ne_true]
     exact hZ
   refine hcase ?_
   apply wpAny_bind
   apply wpAny_holding
   refine wpAny_eqBool_tuple hu e4 hx ?_
   apply wpAny_bind
   refine wpAny_setState_of ho hd S.fits ?_
   dsimp only
   by_cases heq:r2=r
   ·subst heq
    rw [decide_eq_true rfl,if_pos (show (true && true)=true from rfl)]
    exact wpAny_pure (hyes (List.mem_of_getElem? e1))
   ·have hdec:decide ([r2.1,r2.2]=[r.1,r.2])=false:=decide_eq_false λz=>heq (by
     injection z with z1 z2
     injection z2 with z2 _
     exact Prod.ext z1 z2)
    rw [hdec,if_neg (show ¬ ((true && false)=true) from Bool.false_ne_true),hsame]
    dsimp only
    rw [if_pos rfl,hslot]
    dsimp only
    rw [hget]
    dsimp only
    apply wpAny_bind
    have hrr:(c == c)=true:=by simp
    show wpAny _ _ (if (c == c)=true then pure true else _) _ _ s
    rw [if_pos hrr]
    apply wpAny_pure
    apply wpAny_bind
    apply wpAny_pure
    rw [if_pos rfl]
    dsimp only
    rw [if_neg Bool.false_ne_true]
    refine ZbO hu ho hd S hE hx hyes hno N hN hNe fuel (q+n+1) _ rfl (by omega) (by omega) λm hm'=>?_
    rcases Nat.lt_or_ge m (q+n) with z | z
    ·exact upto n g4 m z
    ·have:m=q+n:=by omega
     subst this
     exact ⟨i,g2,λr' hr'=>by rw [e1] at hr';cases hr';exact heq⟩
end
end
end L2
namespace L2
open PySem PySem.Spec PyProof.Rows
section
variable {P:Program} {w:World} {A:Around} {E:Value->Shared->Prop} {s:Shared}
theorem Zev {a:Addr} {r:Int×Int} {Q:Bool->Shared->Prop} (hx:IsPr P w s.heap r a) (h:Q true s):wpAny (model P w) A (hashByValue 8 (.ref a)) Q E s:=by
 have hT:=IsTupleKey.typeIs hx
 obtain ⟨o,its,n,ho,hc,hd,hi⟩:=hx
 unfold hashByValue
 apply wpAny_bind
 refine wpAny_specialOf hT F.slot_tuple_hash.lookup ?_
 dsimp only
 apply wpAny_bind
 apply wpAny_seqItems ho hd
 apply wpAny_bind
 show wpAny _ _ (forIn its _ _) _ _ s
 rw [<-Array.forIn_toList]
 refine wpAny_forIn_list _ (λrest c s'=>c.1=none/\s'=s/\∀ v∈rest,∃ i t,v=Value.int i t) _ ?_ ?_ _ _ ⟨rfl,rfl,ZdN hi⟩
 ·rintro v rest c s' ⟨hr,rfl,hall⟩
  obtain ⟨i,t,rfl⟩:=hall v List.mem_cons_self
  apply wpAny_bind
  rw [hashByValue_scannable 7 (x:=.int i t) rfl]
  apply wpAny_pure
  rw [if_neg (show ¬ ((!plainKind (Value.int i t))=true) from Bool.false_ne_true)]
  exact wpAny_pure ⟨rfl,rfl,λu hu=>hall u (List.mem_cons_of_mem _ hu)⟩
 ·rintro ⟨c1,c2⟩ s' ⟨hr,rfl,_⟩
  simp only at hr
  subst hr
  exact wpAny_pure h
def Zfn (P:Program) (w:World) (h0:Heap) (o:Obj) (ps:List (Int×Int)):Prop:=∃ es ep t,o.ExactSet/\o.data=.set es ep t/\Paired (ZeB P w h0) es.toList ps/\ps.Nodup/\SOk t es
theorem ZcO {h h':Heap}:∀ {l:List (Int×Value)} {ps:List (Int×Int)},Paired (ZeB P w h) l ps->(∀ b o,h.get? b=some o->h'.get? b=some o)->Paired (ZeB P w h') l ps
 | _,_,.nil,_=>.nil
 | _,_,.cons ⟨h1,a,h2,h3⟩ t,k=>.cons ⟨h1,a,h2,h3.keep λo e=>k a o e⟩ (ZcO t k)
theorem Zg7 {a b:Addr} {o:Obj} {h0:Heap} {ps:List (Int×Int)} {r:Int×Int} {Q:Bool->Shared->Prop} (hu:A.units<cLine) (h00:∀ c o',h0.get? c=some o'->s.heap.get? c=some o') (ho:s.heap.get? a=some o) (hS:Zfn P w h0 o ps) (hx:IsPr P w h0 r b) (h76:ps.length+1<=1228)
  (h:∀ (c:Bool) (h':Heap) (o':Obj) (ps':List (Int×Int)),Heap.SameBut a s.heap h'->h'.get? a=some o'->Zfn P w h0 o' ps'->ps'.Perm (if r∈ps then ps else ps++[r])->Q c { s with heap:=h' }) :
  wpAny (model P w) A (setAddHashed a (.ref b) (ZaE P w r)) Q E s:=by
 obtain ⟨es,ep,t,hex,hd,hE,hnd,S⟩:=id hS
 have hlen:=Paired.length hE
 rw [Array.length_toList] at hlen
 have hE':=ZcO hE h00
 have hx':IsPr P w s.heap r b:=hx.keep λo' e=>h00 b o' e
 obtain ⟨N,hN,hNe⟩:=S.T.empty S.le (ZaE P w r)
 have hturn:10 * SetTable.turns t.mask<=20700:=by
  unfold SetTable.turns
  rcases S.T.mask with e | e | e | e | e <;> omega
 unfold setAddHashed setAddHashedIn
 apply wpAny_holding
 apply wpAny_bind
 refine wpAny_setState_of ho hd S.fits ?_
 dsimp only
 have hbs:byScan (.ref b) es=false:=rfl
 rw [hbs,if_neg Bool.false_ne_true]
 apply wpAny_bind
 unfold setSearch
 refine ZbO hu ho hd S hE' hx' ?_ ?_ N hN hNe 100000 0 none rfl (Nat.zero_le _) (by omega) (λm hm=>absurd hm (Nat.not_lt_zero _))
 ·intro hin
  dsimp only
  refine wpAny_pure ?_
  exact h false s.heap o ps (Heap.SameBut.refl a s.heap) ho hS (by rw [if_pos hin])
 ·intro hnot n hn hall
  dsimp only
  apply wpAny_bind
  refine wpAny_setState_of ho hd S.fits ?_
  dsimp only
  obtain ⟨T1,hf1⟩:=S.put (.ref b) hn hall
  have hz1:(SetTable.insertAt es (t.put (ZaH t.mask n (st0 t.mask (ZaE P w r))).j).2 (ZaE P w r,Value.ref b)).size=es.size+1:=Zc8 _ _ _
  have hperm:=SetTable.insertAt_perm es (t.put (ZaH t.mask n (st0 t.mask (ZaE P w r))).j).2 (ZaE P w r,Value.ref b)
  rw [Array.toList_push] at hperm
  have hm1:(t.put (ZaH t.mask n (st0 t.mask (ZaE P w r))).j).1.mask=t.mask:=rfl
  generalize htp:t.put (ZaH t.mask n (st0 t.mask (ZaE P w r))).j=tp at T1 hf1 hz1 hperm hm1 ⊢
  obtain ⟨t1,p1⟩:=tp
  dsimp only at T1 hf1 hz1 hperm hm1 ⊢
  have hE1:Paired (ZeB P w h0) (es.toList++[(ZaE P w r,Value.ref b)]) (ps++[r]):=ZdM hE (.cons ⟨rfl,b,rfl,hx⟩ .nil)
  obtain ⟨ps1,hE2,hp2⟩:=ZcM hperm hE1
  have hnd1:(ps++[r]).Nodup:=List.nodup_append.mpr ⟨hnd,by simp,λc hc d hd'=>by
   rw [List.mem_singleton] at hd'
   subst hd'
   intro z
   exact hnot (z▸hc)⟩
  generalize hes1:SetTable.insertAt es p1 (ZaE P w r,Value.ref b)=es1 at T1 hz1 hperm hE2 ⊢
  have hz:es1.size<=sizeLine:=by rw [sizeLine_eq];omega
  have store:∀ (bv:Bool),wpAny (model P w) A (do
    storeSet a es1 (if bv=true then t1 else { t1 with plain:=false })
    if (!false && (if bv=true then t1 else { t1 with plain:=false }).tooFull)=true then do
     setRelay a (SetTable.grown (es.size+1))
     pure true
    else pure true) Q E s:=by
   intro bv
   obtain ⟨t1',et1,T1',hm1'⟩:∃ t1':SetTable,(if bv=true then t1 else { t1 with plain:=false })=t1'/\TOk t1' (Zf0 es1)/\t1'.mask=t.mask:=by
    cases bv with
    | true=>exact ⟨t1,rfl,T1,hm1⟩
    | false=>exact ⟨{ t1 with plain:=false },rfl,⟨T1.mask,T1.dum,T1.len,T1.rise,T1.le,T1.rch⟩,hm1⟩
   rw [et1]
   apply wpAny_bind
   refine wpAny_storeSet_of ho hd ?_ hz
   have ho1:=ZdL ho hd es1 t1'
   have sb1:=Heap.SameBut.update s.heap a (Obj.putSet es1 t1')
   rcases Zfk S (by omega) T1' (by rw [Za1];exact hz1) hm1' with ⟨hfull,hwhen⟩ | ⟨hfull,hroom⟩
   ·rw [hfull,if_pos (show (!false && true)=true from rfl)]
    rw [<-hz1] at hwhen ⊢
    obtain ⟨t2,od,eR,hp,S2,hl2,hpl2,h128⟩:=Zf1 T1' hwhen
    have hfit1:t1'.fits es1.size=true:=by
     have:=T1'.fits (by rw [Za1];rcases hwhen with ⟨q1,q2⟩ | ⟨q1,q2⟩ | ⟨q1,q2⟩ | ⟨q1,q2⟩ <;> omega)
     rw [Za1] at this
     exact this
    apply wpAny_bind
    unfold setRelay
    apply wpAny_bind
    refine wpAny_setState_of ho1 rfl hfit1 ?_
    dsimp only
    rw [if_neg (by rw [sizeLine_eq];omega)]
    apply wpAny_bind
    rw [eR]
    have hp3:=Zbc hp
    have hz2:(od.filterMap (es1[·]?)).size=es1.size:=by
     have:=hp3.length_eq
     rw [Array.length_toList,Array.length_toList] at this
     exact this
    obtain ⟨ps2,hE3,hp4⟩:=ZcM hp3 hE2
    show wpAny _ _ (if ((od.filterMap (es1[·]?)).size != es1.size)=true then _ else _) _ _ _
    rw [if_neg (by rw [hz2];simp)]
    apply wpAny_pure
    dsimp only
    refine wpAny_storeSet_of ho1 rfl ?_ (by rw [hz2];exact hz)
    apply wpAny_pure
    refine h true _ _ ps2 (sb1.trans (Heap.SameBut.update _ a _)) (ZdL ho1 rfl _ t2) ⟨_,_,t2,hex,rfl,hE3,(hp4.trans hp2).nodup_iff.mpr hnd1,S2⟩ ?_
    rw [if_neg hnot]
    exact hp4.trans hp2
   ·rw [hfull,if_neg (show ¬ ((!false && false)=true) from Bool.false_ne_true)]
    apply wpAny_pure
    refine h true _ _ ps1 sb1 ho1 ⟨es1,_,t1',hex,rfl,hE2,hp2.nodup_iff.mpr hnd1,⟨T1',by rw [hz1];exact hroom⟩⟩ ?_
    rw [if_neg hnot]
    exact hp2
  cases hpl:t1.plain with
  | true=>
   rw [if_pos rfl]
   apply wpAny_bind
   refine Zev hx' ?_
   exact store true
  | false=>
   rw [if_neg Bool.false_ne_true]
   apply wpAny_bind
   apply wpAny_pure
   exact store true
end
def ZhG (a:Addr) (m:Nat):HO:=.ext λh=>∃ o es ep t,h.get? a=some o/\o.ExactSet/\o.data=.set es ep t/\t.fits es.size=true/\es.size=m/\m<=1228
theorem Zg8 {P:Program} {w:World} {H:Hp} {h0 h:Heap} {a:Addr} {ps:List (Int×Int)} {o:Obj} (ho:h.get? a=some o) (hs:Zfn P w h0 o ps):ObjOk P w H h a (ZhG a ps.length):=by
 obtain ⟨es,ep,t,h1,h2,h3,h4,h5⟩:=hs
 have hlen:=Paired.length h3
 rw [Array.length_toList] at hlen
 have hsm:es.size<=1228:=by
  have:=h5.room
  rcases h5.T.mask with z | z | z | z | z <;> omega
 exact ⟨⟨o,es,ep,t,ho,h1,h2,h5.fits,hlen,by omega⟩,⟨o,ho⟩,λh1 h2 ⟨o',es',ep',t',e,r⟩ k=>⟨o',es',ep',t',k _ e,r⟩⟩
theorem Zfo (P:Program) (w:World) (h0:Heap):Zfn P w h0 (ZaM w) []:=⟨#[],0,_,⟨rfl,rfl,rfl⟩,rfl,.nil,List.nodup_nil,SOk.fresh 0 0 _⟩
section
variable {X:Cx} (K:PySem.W.Frag)
theorem Zg9 {P:Program} {w:World} {H:Hp} {h:Heap} (I:HOk P w H h) {t:Addr} {r:Int×Int} (e:H t=some (.tup [.int r.1,.int r.2])):IsPr P w h r t:=by
 obtain ⟨_,its,rv,o,ho,hc,n,hd⟩:=I t _ e
 refine ⟨o,its.toArray,n,ho,hc,hd,?_⟩
 cases rv with
 | cons h1 rv=>
  cases rv with
  | cons h2 rv=>
   cases rv
   obtain ⟨t1,rfl⟩:=h1
   obtain ⟨t2,rfl⟩:=h2
   exact .cons (intKind_is _ _ _ _) (.cons (intKind_is _ _ _ _) .nil)
theorem ZjI (hc:X.calm=true) (hu:X.A.units+64<cLine) (h:X.K=K:=by rfl):Zbw X (.type "set") (λxs H Q=>∃ (p:Addr) (ys:List V) (rs:List (Int×Int)),xs=[.ref p]/\SqL K H p ys/\Prs H ys rs/\rs.length<=1228 /\
  ∀ (l:Addr) (m:Nat),H l=none->m<=rs.length->(m=rs.length↔rs.Nodup)->Q (.ref l) (upd H l (ZhG l m))):=by
 subst h
 intro pins s σ H xs us Q I rv h
 obtain ⟨p,ys,rs,rfl,hq,pr,hn,q⟩:=h
 obtain ⟨u,rfl,ru⟩:=rv.one
 cases ru
 obtain ⟨its,r,pl,hz⟩:=I.list hq
 have hl:=r.length
 have hyl:=pr.len
 have es:its.toArray.size=rs.length:=by rw [List.size_toArray];omega
 refine Zfl (I.ok.hd hc) pl.isList (λi o=>∃ ps,Zfn X.prog X.w s.heap o ps/\ps.length<=i/\(∀ k,k∈ps↔k∈rs.take i)/\(ps.length=i↔(rs.take i).Nodup)) (λh'=>∀ b o,b<s.heap.objs.size->s.heap.get? b=some o->h'.get? b=some o) ⟨[],Zfo _ _ _,Nat.le_refl _,λk=>by simp,by simp⟩ (λ_ k=>k) ?_ ?_
 ·intro i v s1 o Q1 E1 hi hv kp ho ⟨ps,hps,hle,hm,hlen⟩ hq1
  have hi':i<ys.length:=by omega
  have hir:i<rs.length:=by omega
  have hv':its[i]?=some v:=by rw [List.getElem?_toArray] at hv;exact hv
  obtain ⟨t,rr,et,ett,er⟩:=pr.get (i:=i) (x:=ys[i]) (List.getElem?_eq_getElem hi')
  obtain ⟨u,eu,ru⟩:=r.get (i:=i) (x:=ys[i]) (List.getElem?_eq_getElem hi')
  rw [hv'] at eu
  cases eu
  rw [et] at ru
  cases ru
  have hx:IsPr X.prog X.w s.heap rr t:=Zg9 I.hok ett
  have k00:∀ c o',s.heap.get? c=some o'->s1.heap.get? c=some o':=λc o' e=>kp c o' (Heap.lt_size e) e
  have hu3:X.A.in1.in1.in1.units<cLine:=by simp only [Around.in1_units];omega
  unfold setAdd
  apply wpAny_holding
  apply wpAny_bind
  refine wpAny_pyHash_tuple hu3 (hx.keep λo' e=>k00 t o' e) ?_
  refine Zg7 (s:={ s1 with toks:=s1.toks+(([rr.1,rr.2]:List Int).length+1) }) hu3 k00 ho hps hx (by omega) λb h' o' ps' sb ho' hps' hp=>?_
  refine hq1 b h' _ o' (Nat.le_add_right _ _) sb ho' ⟨ps',hps',?_,λk=>?_,?_⟩
  ·rw [hp.length_eq]
   split
   ·omega
   ·rw [List.length_append,List.length_singleton];omega
  ·rw [hp.mem_iff,Zc9 er]
   split
   ·rename_i hin
    rw [hm k]
    constructor
    ·exact .inl
    ·rintro (z | rfl)
     ·exact z
     ·exact (hm _).mp hin
   ·rw [List.mem_append,hm k,List.mem_singleton]
  ·have htk:rs.take (i+1)=rs.take i++[rr]:=by rw [List.take_add_one,er];rfl
   have hnd:(rs.take (i+1)).Nodup↔(rs.take i).Nodup/\rr ∉ rs.take i:=by
    rw [htk,List.nodup_append]
    constructor
    ·rintro ⟨h1,_,h3⟩
     exact ⟨h1,λz=>h3 rr z rr (List.mem_singleton.mpr rfl) rfl⟩
    ·rintro ⟨h1,h2⟩
     exact ⟨h1,by simp,λa ha b hb e=>by rw [List.mem_singleton] at hb;subst hb;exact h2 (e▸ha)⟩
   rw [hp.length_eq,hnd,<-hlen,<-hm rr]
   split
   ·rename_i hin
    constructor
    ·intro z;omega
    ·rintro ⟨_,z⟩;exact absurd hin z
   ·rename_i hin
    rw [List.length_append,List.length_singleton]
    constructor
    ·intro z;exact ⟨by omega,hin⟩
    ·rintro ⟨z,_⟩;omega
 ·intro h' tk o' ho' ⟨ps,hps,hle,hm,hlen⟩ hk
  rw [es] at hle hlen
  rw [List.take_length] at hlen
  exact ⟨.ref _,_,I.laid (o:=ZhG s.heap.objs.size ps.length) (λb o e=>hk b o (Heap.lt_size e) e) (Nat.le_refl _) (Zg8 ho' hps),rfl,q _ ps.length I.fresh hle hlen⟩
theorem ZjJ:Zbw X (.builtin "len") (λxs H Q=>∃ p m,xs=[.ref p]/\H p=some (ZhG p m)/\Q (.int (m:Nat)) H):=by
 intro pins s σ H xs us Q I rv h
 obtain ⟨p,m,rfl,hp,q⟩:=h
 obtain ⟨u,rfl,ru⟩:=rv.one
 cases ru
 obtain ⟨⟨o,es,ep,t,ho,h1,h2,h3,h4,h5⟩,_⟩:=I.hok p _ hp
 refine call_len_set ho h1 h2 h3 (by omega) ?_
 exact ⟨.int (m:Nat),H,I.tok _,⟨s.toks+1,by rw [h4]⟩,q⟩
end
end L2
namespace L2
open PySem PySem.Spec PyProof.Rows
abbrev Tri:=Int×Int×Int
inductive Trs (H:Hp):List V->List Tri->Prop
 | nil:Trs H [] []
 | cons {p:Addr} {a b c:Int} {xs:List V} {rs:List Tri}:H p=some (.tup [.int a,.int b,.int c])->Trs H xs rs->Trs H (.ref p::xs) ((a,b,c)::rs)
def trD (r:Tri):PyData:=.tuple [.int r.1,.int r.2.1,.int r.2.2]
section
variable {X:Cx} (K:PySem.W.Frag)
end
end L2
namespace L2
open PySem PySem.Spec PyProof.Rows
def Nd (ts:List Tri) (c:Int) (r:Tri):Prop:=2<=c/\ts[(c-2).toNat]?=some r
def At (ts:List Tri) (c lo:Int):Prop:=c=0\/c=1\/∃ r,Nd ts c r/\lo<r.1
def Zll (ts:List Tri):Prop:=∀ (i:Nat) (r:Tri),ts[i]?=some r->(0<=r.1/\r.1<30)/\At ts r.2.1 r.1/\At ts r.2.2 r.1
inductive Has (ts:List Tri):Int->List Int->Prop
 | one:Has ts 1 []
 | low {c:Int} {r:Tri} {rs:List Int}:Nd ts c r->Has ts r.2.1 rs->Has ts c rs
 | high {c:Int} {r:Tri} {rs:List Int}:Nd ts c r->Has ts r.2.2 rs->Has ts c (r.1::rs)
def Zig (fs:List Int) (n:Int):Option Int:=if n=0 then some 0 else if n=1 then some 1 else (fs.idxOf? n).map λ(i:Nat)=>(i:Int)+2
end L2
namespace L2
open PySem PySem.Spec PyProof.Rows
structure Fnd (ks:List Tri) (root:Int) (fs:List Int) (kvs:List (Key×V)) (k:Nat):Prop where
 num:∀ n:Int,ZfX kvs (.inl n)=(Zig fs n).map V.int
 nd:fs.Nodup
 nod:∀ x∈fs,∃ r,Nd ks x r
 kle:k<=fs.length
 cl:∀ (i:Nat),i<k->∀ (x:Int) (r:Tri),fs[i]?=some x->Nd ks x r->(Zig fs r.2.1).isSome/\(Zig fs r.2.2).isSome
 kl:kvs.length<=fs.length+2
def Zl7 (ks:List Tri) (fs:List Int) (us:List Tri) (i:Nat):Prop:=∀ (j:Nat) (x:Int),j<i->fs[j]?=some x->∃ (r:Tri) (a b:Int),Nd ks x r/\Zig fs r.2.1=some a/\Zig fs r.2.2=some b/\us[j]?=some (r.1,a,b)
def Bk (ts:List Tri):Prop:=∀ (i:Nat) (r:Tri),ts[i]?=some r->r.2.1<(i:Int)+2/\r.2.2<(i:Int)+2
structure Zlm (ts ks:List Tri) (sm:List Int) (i:Nat):Prop where
 len:sm.length=i+2
 at_:∀ c lo:Int,c<(i:Int)+2->At ts c lo->At ks (sm.getD c.toNat 0) lo
def Zln (r:Tri):List Key:=[.inl r.1,.inl r.2.1,.inl r.2.2]
def Zku (kvs:List (List Key×V)) (ks:List Tri):Prop:=∀ r:Tri,∀ v:V,ZfX kvs (Zln r)=some v->∃ c:Int,v=.int c/\Nd ks c r
end L2
namespace L2
open PySem PySem.Spec PyProof.Rows
section
variable {P:Program} {w:World} {A:Around} {E:Value->Shared->Prop} {s:Shared} {Ad:Addr->List Int->Prop}
abbrev ZjK (P:Program) (w:World) (r:List Int):Int:=tupleKeyHash (intKind P w) r
def Zlo (P:Program) (w:World) (h:Heap) (r:List Int) (a:Addr):Prop:=IsTupleKey (intKind P w) h r a
def Zlp (P:Program) (w:World) (Ad:Addr->List Int->Prop) (h:Heap) (e:Int×Value) (r:List Int):Prop:=e.1=ZjK P w r/\∃ a,e.2=.ref a/\Zlo P w h r a/\Ad a r
section
variable {a b:Addr} {o:Obj} {es:Array (Int×Value)} {ep:Nat} {t:SetTable} {ps:List (List Int)} {r:List Int} {Q:SetFound->Shared->Prop}
end
end
end L2
namespace L2
open PySem PySem.Spec PyProof.Rows
section
variable {P:Program} {w:World} {A:Around} {E:Value->Shared->Prop} {s:Shared} {Ad:Addr->List Int->Prop}
def Zlq (P:Program) (w:World) (Ad:Addr->List Int->Prop) (h0:Heap) (o:Obj) (ps:List (List Int)):Prop:=∃ es ep t,o.ExactSet/\o.data=.set es ep t/\Paired (Zlp P w Ad h0) es.toList ps/\ps.Nodup/\SOk t es/\t.plain=true/\t.led=!Zcw w
end
section
variable {X:Cx} (K:PySem.W.Frag)
inductive Tus (H:Hp):List V->List (List Int)->Prop
 | nil:Tus H [] []
 | cons {p:Addr} {r:List Int} {xs:List V} {rs:List (List Int)}:H p=some (.tup (r.map V.int))->Tus H xs rs->Tus H (.ref p::xs) (r::rs)
end
end L2
namespace L2
open PySem PySem.Spec PyProof.Rows
def tl3 (r:Tri):List Int:=[r.1,r.2.1,r.2.2]
section
variable {X:Cx} (K:PySem.W.Frag)
end
end L2
namespace L2
open PySem PySem.Spec PyProof.Rows
def chT (ks:List Tri) (x:Int):List Int:=match ks[(x-2).toNat]? with | some r=>[r.2.1,r.2.2] | none=>[]
def ZjL (ks:List Tri) (root:Int) (f:List Int):List Int:=root::f.flatMap (chT ks)
def New (f:List Int) (x:Int):Prop:=x≠0/\x≠1/\x ∉ f
def Ext (ks:List Tri) (root:Int) (f:List Int) (x:Int):Prop:=∃ p q,ZjL ks root f=p++x::q/\New f x/\∀ y∈p,¬ New f y
inductive Rch (ks:List Tri) (root:Int):List Int->Prop
 | nil:Rch ks root []
 | snoc {f:List Int} {x:Int}:Rch ks root f->Ext ks root f x->Rch ks root (f++[x])
def Fin (ks:List Tri) (root:Int) (f:List Int):Prop:=∀ y∈ZjL ks root f,¬ New f y
def Zl8 (n:Nat):List Int:=(List.range n).map λ(i:Nat)=>(i:Int)+2
end L2
namespace L2
open PySem PySem.Spec PyProof.Rows
section
variable {X:Cx}
def Zjc:V->List V->Hp->VK->Prop:=λx vs H Q=>∃ l b xs zs,x=.ref l/\vs=[.ref b]/\H l=some (.lst xs)/\H b=some (.tup zs)/\xs.length+zs.length<=sizeLine/\Q .non (upd H l (.lst (xs++zs)))
end
end L2
namespace L2
open PySem PySem.Spec PyProof.Rows
section
variable {X:Cx}
end
structure Wk (ks:List Tri) (root:Int) (fs:List Int) (kvs:List (Key×V)) (pr ah:List Int):Prop where
 e:ZjL ks root fs=pr++ah
 old:∀ y∈pr,¬ New fs y
 seen:∀ n:Int,ZfX kvs (.inl n)=none↔New fs n
 nd:fs.Nodup
 nod:∀ x∈fs,∃ r,Nd ks x r
 rch:Rch ks root fs
 kl:kvs.length<=fs.length+2
 ok:∀ y∈ah,At ks y (-1)
structure Zkv (ts:List Tri) (many:Int) (r:Tri):Prop where
 road:0<=r.1/\r.1<many
 low:0<=r.2.1/\r.2.1<(ts.length:Int)+2
 high:0<r.2.2/\r.2.2<(ts.length:Int)+2
 lo:∀ q,Nd ts r.2.1 q->r.1<q.1
 hi:∀ q,Nd ts r.2.2 q->r.1<q.1
end L2
namespace L2
open PySem PySem.Spec PyProof.Rows
end L2
namespace L2
open PySem PySem.Spec PyProof.Rows
mutual
inductive Th (H:Hp):V->PyData->Prop
 | non:Th H .non .none
 | bl (b:Bool):Th H (.bl b) (.bool b)
 | int (i:Int):Th H (.int i) (.int i)
 | str (x:Str):Th H (.str x) (.str x)
 | lst {a:Addr} {xs:List V} {ds:List PyData}:H a=some (.lst xs)->xs.length<=1000->Ths H xs ds->Th H (.ref a) (.list ds)
 | tup {a:Addr} {xs:List V} {ds:List PyData}:H a=some (.tup xs)->xs.length<=1000->Ths H xs ds->Th H (.ref a) (.tuple ds)
inductive Ths (H:Hp):List V->List PyData->Prop
 | nil:Ths H [] []
 | cons {x:V} {d:PyData} {xs:List V} {ds:List PyData}:Th H x d->Ths H xs ds->Ths H (x::xs) (d::ds)
end
mutual
theorem Th.same {H H':Hp} (s:Same H H'):∀ {v:V} {d:PyData},Th H v d->Th H' v d
 | _,_,.non=>.non
 | _,_,.bl b=>.bl b
 | _,_,.int i=>.int i
 | _,_,.str x=>.str x
 | _,_,.lst e z h=>.lst (s _ _ e) z (Ths.same s h)
 | _,_,.tup e z h=>.tup (s _ _ e) z (Ths.same s h)
theorem Ths.same {H H':Hp} (s:Same H H'):∀ {vs:List V} {ds:List PyData},Ths H vs ds->Ths H' vs ds
 | _,_,.nil=>.nil
 | _,_,.cons h t=>.cons (Th.same s h) (Ths.same s t)
end
theorem Ths.len {H:Hp}:∀ {vs:List V} {ds:List PyData},Ths H vs ds->vs.length=ds.length
 | _,_,.nil=>rfl
 | _,_,.cons _ t=>by rw [List.length_cons,List.length_cons,Ths.len t]
theorem Ths.get {H:Hp}:∀ {vs:List V} {ds:List PyData},Ths H vs ds->∀ {i:Nat} {x:V},vs[i]?=some x->∃ d,ds[i]?=some d/\Th H x d
 | _,_,.nil,_,_,h=>by simp at h
 | _,_,.cons h _,0,_,e=>by
  simp at e
  subst e
  exact ⟨_,rfl,h⟩
 | _,_,.cons _ t,i+1,_,e=>by
  rw [List.getElem?_cons_succ] at e ⊢
  exact Ths.get t e
def Zl9 (d:PyData):TE:=λ_ H Q=>∀ v H',Same H H'->Th H' v d->Q v H'
def Zlr (ds:List PyData):TA:=λ_ H Q=>∀ vs H',Same H H'->Ths H' vs ds->Q vs H'
section
variable {X:Cx} {e:Expr} {es:List Expr} {d:PyData} {ds:List PyData} {pos:Pos}
end
section
variable {X:Cx} {a:Expr} {ta:TE} {pos:Pos}
end
def Zih:List Str:=["and", "or", "but"]
def ZjM:List Str:=["closed", "shy", "all"]
def ZjN:List Str:=["open", "long"]
def ZjO:List Str:=["with", "off", "over", "past"]
def Zha:PyData->Bool
 | .int i=>decide (0<=i) && decide (i<=9999)
 | _=>false
def Zii (w:Str) (rest:List PyData):Bool:=
 if w∈ZjM then rest.isEmpty
 else if w∈ZjN then (match rest with | [a,b]=>Zha a && Zha b | _=>false)
 else if w∈ZjO then (match rest with | [.tuple ds]=>ds.all Zha | _=>false)
 else false
def Zij:Nat->PyData->Bool
 | 0,_=>false
 | n+1,.tuple (.str w::rest)=>if w∈Zih/\rest.length=2 then rest.all (Zij n) else Zii w rest
 | _+1,_=>false
inductive Ws:PyData->Nat->Prop
 | leaf {w:Str} {rest:List PyData}:Zii w rest=true->Ws (.tuple (.str w::rest)) 1
 | join {w:Str} {a b:PyData} {m n:Nat}:w∈Zih->Ws a m->Ws b n->Ws (.tuple [.str w,a,b]) (max m n+1)
def Non (d:PyData):Prop:=∀ n,Zij n d=false
end L2
namespace L2
open PySem PySem.Spec PyProof.Rows
variable {X:Cx}
abbrev num (i:Int):Str:=Str.ofString (toString i)
theorem Zjd:Zbw X (.type "str") (λxs H Q=>∃ i:Int,xs=[.int i]/\(0<=i/\i<10 ^ 10)/\Q (.str (num i)) H):=by
 intro pins s σ H xs us Q I rv h
 obtain ⟨i,rfl,⟨h0,h1⟩,q⟩:=h
 obtain ⟨u,rfl,ru⟩:=rv.one
 obtain ⟨t,rfl⟩:=ru
 refine P.str_of_int (shown (N:=10 ^ 10) (by omega) h1 (by decide +kernel)) ?_
 exact ⟨.str _,H,I.tok _,⟨_,rfl⟩,q⟩
theorem Zfp:Zbw X (.builtin "len") (λxs H Q=>∃ x:Str,xs=[.str x]/\x.length<=16777216/\Q (.int x.length) H):=by
 intro pins s σ H xs us Q I rv h
 obtain ⟨x,rfl,hl,q⟩:=h
 obtain ⟨u,rfl,ru⟩:=rv.one
 obtain ⟨t,rfl⟩:=ru
 refine P.len_str (by omega) ?_
 exact ⟨.int _,H,I.tok _,⟨_,rfl⟩,q⟩
theorem Zfq:Zbw X (.type "int") (λxs H Q=>∃ (x:Str) (n:Int),xs=[.str x]/\PySem.intText? x=some n/\x.length<=640/\Q (.int n) H):=by
 intro pins s σ H xs us Q I rv h
 obtain ⟨x,n,rfl,hn,hl,q⟩:=h
 obtain ⟨u,rfl,ru⟩:=rv.one
 obtain ⟨t,rfl⟩:=ru
 refine PySem.W.KIN.call_text hn hl ?_
 exact ⟨.int _,H,I.tok _,⟨_,rfl⟩,q⟩
def ZjP (ta tb:TE):TE:=λσ H Q=>ta σ H λx H1=>tb σ H1 λy H2=>∃ a b,x=.str a/\y=.str b/\a.length+b.length<=16777216/\Q (.str (a++b)) H2
theorem ZaR {a b:Expr} {ta tb:TE} {pos:Pos} (ha:PE X a ta) (hb:PE X b tb):PE X (.BinOp a .Add b pos) (ZjP ta tb):=by
 intro pins s σ H Q I h
 refine wpAny_BinOp (bin ha hb I h λv u s2 x y H2 I2 rx ry q=>?_)
 obtain ⟨i,j,rfl,rfl,hl,q⟩:=q
 obtain ⟨t,rfl⟩:=rx
 obtain ⟨t',rfl⟩:=ry
 exact SBL.add (hsz:=hl) λt' k _=>⟨.str _,H2,I2.tok _,⟨_,rfl⟩,q⟩
theorem Zfr:MtR X "str.startswith" (λx xs H Q=>∃ a b,x=.str a/\xs=[.str b]/\Q (.bl (Txt.startswith a b)) H):=by
 intro pins s σ H x xs v us Q I rx rv h
 obtain ⟨a,b,rfl,rfl,q⟩:=h
 obtain ⟨u,rfl,ru⟩:=rv.one
 obtain ⟨t,rfl⟩:=ru
 obtain ⟨t',rfl⟩:=rx
 exact SC.startswith ⟨.bl _,H,I,rfl,q⟩
theorem Zfs:∀ (tk:Nat) (ys:List Str),Vals (ys.map V.str) (strsFrom tk ys)
 | _,[]=>.nil
 | tk,y::ys=>.cons ⟨_,rfl⟩ (Zfs (tk+1) ys)
theorem Zda:MtR X "str.split" (λx xs H Q=>∃ a b,x=.str a/\xs=[.str b]/\(b.length == 0)=false/\a.length<=sizeLine/\(Builtin.Str.partsBetween a (Builtin.Str.occurrences a b 0 a.length (a.length+1)) b.length).length<=sizeLine /\
  ∀ l,H l=none->Q (.ref l) (upd H l (.lst ((Txt.split a b).map V.str)))):=by
 intro pins s σ H x xs v us Q I rx rv h
 obtain ⟨a,b,rfl,rfl,hy,hsz,hsz2,q⟩:=h
 obtain ⟨u,rfl,ru⟩:=rv.one
 obtain ⟨t,rfl⟩:=ru
 obtain ⟨t',rfl⟩:=rx
 have hf:H s.heap.objs.size=none:=I.hok.fresh (Nat.le_refl _)
 have one:∀ k,Txt.split a b=[a]->EP X pins σ Q (.ref s.heap.objs.size) { s with toks:=k,heap:=s.heap.push { cls:=.type "list", data:=.seq [Value.str a t'].toArray } }:=λk e=>
  ⟨.ref s.heap.objs.size,upd H s.heap.objs.size (.lst ((Txt.split a b).map V.str)),I.laid (t':=k) (λb u e=>Heap.get?_push_of_some _ e) (Nat.le_refl _) (by
   rw [e];exact ⟨by show 1<=sizeLine;decide +kernel,_,0,.cons ⟨_,rfl⟩ .nil,Heap.get?_push_size _ rfl⟩),rfl,q _ hf⟩
 cases h1:(decide (a.length<b.length) || decide (Builtin.Str.strKind a<Builtin.Str.strKind b))
 ·cases h2:(Builtin.Str.occurrences a b 0 a.length (a.length+1)).isEmpty
  ·refine call_meets F.slot_str_split (typeIs_str _ _ _) F.entry_str_split (F.args_str_split_2 _ _) (meets_str_split_sep a b t' t h1 hy h2 hsz hsz2) ?_
   have e:Txt.split a b=Builtin.Str.partsBetween a (Builtin.Str.occurrences a b 0 a.length (a.length+1)) b.length:=(if_neg (ne_true_of_eq_false h1)).trans (if_neg (ne_true_of_eq_false h2))
   refine ⟨.ref s.heap.objs.size,upd H s.heap.objs.size (.lst ((Txt.split a b).map V.str)),I.laid (λb u e=>Heap.get?_push_of_some _ e) (Nat.le_refl _) ?_,rfl,q _ hf⟩
   rw [e]
   exact ⟨by rw [List.length_map];exact hsz2,_,0,Zfs _ _,Heap.get?_push_size _ rfl⟩
  ·exact call_meets F.slot_str_split (typeIs_str _ _ _) F.entry_str_split (F.args_str_split_2 _ _) (meets_str_split_not_found a b t' t h1 hy h2) (one _ ((if_neg (ne_true_of_eq_false h1)).trans (if_pos h2)))
 ·exact call_meets F.slot_str_split (typeIs_str _ _ _) F.entry_str_split (F.args_str_split_2 _ _) (meets_str_split_cannot_occur a b t' t h1) (one _ (if_pos h1))
theorem Zhb:MtR X "str.partition" (λx xs H Q=>∃ a b,x=.str a/\xs=[.str b]/\(b.length == 0)=false/\a.length<=sizeLine /\
  ∀ l,H l=none->Q (.ref l) (upd H l (.tup [.str (Txt.partition a b).1,.str (Txt.partition a b).2.1,.str (Txt.partition a b).2.2]))):=by
 intro pins s σ H x xs v us Q I rx rv h
 obtain ⟨a,b,rfl,rfl,hy,hsz,q⟩:=h
 obtain ⟨u,rfl,ru⟩:=rv.one
 obtain ⟨t,rfl⟩:=ru
 obtain ⟨t',rfl⟩:=rx
 have hf:H s.heap.objs.size=none:=I.hok.fresh (Nat.le_refl _)
 refine call_meets F.slot_str_partition (typeIs_str _ _ _) F.entry_str_partition (F.args_str_partition_2 _ _) (meets_str_partition a b t' t hy hsz) ?_
 unfold Txt.partition at q
 revert q
 cases Builtin.Str.occurrences a b 0 a.length 1 with
 | nil=>
  intro q
  exact ⟨.ref s.heap.objs.size,upd H s.heap.objs.size (.tup [.str a,.str Str.empty,.str Str.empty]),I.laid (λb u e=>Heap.get?_push_of_some _ e) (Nat.le_refl _) ⟨by show 3<=sizeLine;decide +kernel,_,.cons ⟨_,rfl⟩ (.cons ⟨_,rfl⟩ (.cons ⟨_,rfl⟩ .nil)),⟨_,Heap.get?_push_size _ rfl,rfl,_,rfl⟩⟩,rfl,q _ hf⟩
 | cons i r=>
  intro q
  exact ⟨.ref s.heap.objs.size,upd H s.heap.objs.size (.tup [.str (Builtin.Str.strSub a 0 i),.str b,.str (Builtin.Str.strSub a (i+b.length) a.length)]),I.laid (λb u e=>Heap.get?_push_of_some _ e) (Nat.le_refl _) ⟨by show 3<=sizeLine;decide +kernel,_,.cons ⟨_,rfl⟩ (.cons ⟨_,rfl⟩ (.cons ⟨_,rfl⟩ .nil)),⟨_,Heap.get?_push_size _ rfl,rfl,_,rfl⟩⟩,rfl,q _ hf⟩
def Zma (te:TE):TE:=λσ H Q=>te σ H λv H1=>∃ i:Int,v=.int i/\(0<=i/\i<10 ^ 10)/\Q (.str (num i)) H1
def PJ (X:Cx) (es:List Expr) (t:Str->TE):Prop:=∀ (pins:List (Addr×Obj)) (s:Shared) (σ:St) (H:Hp) (Q:VK) (out:Str),Inv X pins σ H s->t out σ H Q ->
 wpAny (model X.prog X.w) X.A (joinParts out (evalEach es X.env)) (EP X pins σ Q) X.xe s
end L2
namespace L2
open PySem PySem.Spec PyProof.Rows
def Zar (c:Nat):Nat->List Nat->List Nat
 | _,[]=>[]
 | k,x::xs=>if x=c then k::Zar c (k+1) xs else Zar c (k+1) xs
theorem Zb7 (c:Nat):∀ (k:Nat) (l:List Nat),(Zar c k l).length<=l.length
 | _,[]=>Nat.le_refl _
 | k,x::xs=>by
  have:=Zb7 c (k+1) xs
  unfold Zar
  split <;> simp only [List.length_cons] <;> omega
theorem Zek (x:Str) (c limit:Nat):∀ (m k:Nat) (st:Array Nat×Nat),k+m=x.length+1->st.2<=k ->
  (forIn (List.range' k m) st (StrLaws.occBody x ⟨#[c]⟩ x.length limit)).run.fst.toList=st.1.toList++(Zar c k (x.cps.toList.drop k)).take (limit-st.1.size)
 | 0,k,st,e,_=>by
  have:x.cps.toList.drop k=[]:=List.drop_eq_nil_of_le (by show x.cps.toList.length<=k;have:x.cps.toList.length=x.length:=Array.length_toList;omega)
  rw [this]
  show st.1.toList=st.1.toList++_
  simp [Zar]
 | m+1,k,st,e,hf=>by
  have hL:x.cps.toList.length=x.length:=Array.length_toList
  rw [List.range'_succ,List.forIn_cons]
  unfold StrLaws.occBody
  by_cases hc:x.cps.toList[k]?=some c
  ·obtain ⟨hk,hv⟩:=List.getElem?_eq_some_iff.mp hc
   have hd:x.cps.toList.drop k=c::x.cps.toList.drop (k+1):=by rw [List.drop_eq_getElem_cons hk,hv]
   have hs:=(StrLaws.subAt_one x c k).mpr hc
   rw [hd]
   unfold Zar
   rw [if_pos rfl]
   by_cases hl:st.1.size<limit
   ·rw [if_pos ⟨⟨⟨hl,hf⟩,hs.1⟩,hs.2⟩]
    refine (Zek x c limit m (k+1) (st.1.push k,k+1) (by omega) (Nat.le_refl _)).trans ?_
    obtain ⟨d,hd⟩:∃ d,limit-st.1.size=d+1:=⟨limit-st.1.size-1,by omega⟩
    have hd2:limit-(st.1.push k).size=d:=by rw [Array.size_push];omega
    simp only [hd,hd2,Array.toList_push,List.take_succ_cons,List.append_assoc,List.singleton_append]
   ·rw [if_neg λh=>hl h.1.1.1]
    refine (Zek x c limit m (k+1) (st.1,st.2) (by omega) (Nat.le_succ_of_le hf)).trans ?_
    have hd2:limit-st.1.size=0:=by omega
    simp only [hd2,List.take_zero]
  ·rw [if_neg λh=>hc ((StrLaws.subAt_one x c k).mp ⟨h.1.2,h.2⟩)]
   refine (Zek x c limit m (k+1) (st.1,st.2) (by omega) (Nat.le_succ_of_le hf)).trans ?_
   by_cases hk:k<x.cps.toList.length
   ·rw [List.drop_eq_getElem_cons hk]
    have hn:x.cps.toList[k]≠c:=λe=>hc (by rw [List.getElem?_eq_getElem hk,e])
    rw [Zar,if_neg hn]
   ·rw [List.drop_eq_nil_of_le (by omega),List.drop_eq_nil_of_le (by omega)]
    rfl
theorem Zb1 (x:Str) (c limit:Nat):Builtin.Str.occurrences x ⟨#[c]⟩ 0 x.length limit=(Zar c 0 x.cps.toList).take limit:=by
 rw [StrLaws.occ_eq]
 refine (Zek x c limit (x.length+1-0) 0 (#[],0) (by omega) (Nat.le_refl _)).trans ?_
 simp
def Zbi (c:Nat):List Nat->List Nat->List (List Nat)
 | B,[]=>[B]
 | B,x::xs=>if x=c then B::Zbi c [] xs else Zbi c (B++[x]) xs
theorem Zdb (c:Nat):∀ (R A B:List Nat),((A.length::(Zar c (A.length+B.length) R).map (·+1)).zip (Zar c (A.length+B.length) R++[(A++B++R).length])).map (λp=>((A++B++R).take p.2).drop p.1)=Zbi c B R
 | [],A,B=>by
  simp [Zar,Zbi]
  rw [List.take_of_length_le (by simp)];simp
 | x::xs,A,B=>by
  unfold Zar Zbi
  by_cases h:x=c
  ·subst h
   rw [if_pos rfl,if_pos rfl]
   have ih:=Zdb x xs (A++B++[x]) []
   have e:A++B++[x]++[]++xs=A++B++x::xs:=by simp
   have e2:(A++B++[x]).length=A.length+B.length+1:=by simp [Nat.add_assoc]
   rw [e,e2] at ih
   simp only [List.length_nil,Nat.add_zero] at ih
   rw [List.map_cons,List.cons_append,List.zip_cons_cons,List.map_cons,ih]
   congr 1
   have:(A++B++x::xs).take (A.length+B.length)=A++B:=by
    rw [List.take_append_of_le_length (by simp),List.take_of_length_le (by simp)]
   show ((A++B++x::xs).take (A.length+B.length)).drop A.length=B
   rw [this];simp
  ·rw [if_neg h,if_neg h]
   have ih:=Zdb c xs A (B++[x])
   have e:A++(B++[x])++xs=A++B++x::xs:=by simp
   have e2:(B++[x]).length=B.length+1:=by simp
   rw [e,e2] at ih
   exact ih
def mkS (l:List Nat):Str:=⟨l.toArray⟩
theorem ZbP (x:Str) (i j:Nat):Builtin.Str.strSub x i j=mkS ((x.cps.toList.take j).drop i):=by
 unfold Builtin.Str.strSub mkS
 congr 1
 apply Array.ext'
 rw [Array.toList_extract]
 simp [List.extract_eq_take_drop,List.drop_take]
theorem ZdO (x:Str) (c:Nat):Builtin.Str.partsBetween x (Zar c 0 x.cps.toList) 1=(Zbi c [] x.cps.toList).map mkS:=by
 have h:=Zdb c x.cps.toList [] []
 simp only [List.length_nil,Nat.add_zero,List.nil_append] at h
 unfold Builtin.Str.partsBetween
 have hL:x.cps.toList.length=x.length:=Array.length_toList
 rw [<-h,List.map_map,hL]
 refine List.map_congr_left λp _=>?_
 exact ZbP x p.1 p.2
theorem Zb2 {c:Nat}:∀ {w:List Nat} {B R:List Nat},c ∉ w->Zbi c B (w++R)=Zbi c (B++w) R
 | [],B,R,_=>by simp
 | y::w,B,R,h=>by
  have hy:y≠c:=λe=>h (e▸List.mem_cons_self ..)
  rw [List.cons_append,Zbi,if_neg hy,Zb2 (w:=w) (λe=>h (List.mem_cons_of_mem _ e))]
  simp
theorem Zb8 {c:Nat}:∀ {ws:List (List Nat)} {w:List Nat},(∀ v∈w::ws,c ∉ v)->Zbi c [] (w++ws.flatMap (λv=>c::v))=w::ws
 | [],w,h=>by
  rw [List.flatMap_nil,Zb2 (h w (List.mem_cons_self ..))]
  simp [Zbi]
 | v::ws,w,h=>by
  rw [List.flatMap_cons,Zb2 (h w (List.mem_cons_self ..)),List.cons_append,Zbi,if_pos rfl,Zb8 (λu hu=>h u (List.mem_cons_of_mem _ hu))]
  simp
theorem Zcx {x:Str} {c:Nat} (hc:c<256) {w:List Nat} {ws:List (List Nat)} (hx:x.cps.toList=w++ws.flatMap (λv=>c::v)) (h:∀ v∈w::ws,c ∉ v):Txt.split x ⟨#[c]⟩=(w::ws).map mkS:=by
 have key:(Zbi c [] x.cps.toList).map mkS=(w::ws).map mkS:=by rw [hx,Zb8 h]
 have self:mkS x.cps.toList=x:=rfl
 have none:Zar c 0 x.cps.toList=[]->[x]=(w::ws).map mkS:=by
  intro e
  rw [<-key,<-ZdO,e]
  simp [Builtin.Str.partsBetween,ZbP]
  rw [List.take_of_length_le (by rw [Array.length_toList];exact Nat.le_refl _)];exact self.symm
 unfold Txt.split
 split
 ·rename_i h1
  rw [Bool.or_eq_true,decide_eq_true_eq,decide_eq_true_eq] at h1
  refine none ?_
  rcases h1 with h1 | h1
  ·have:x.cps.toList=[]:=by
    apply List.eq_nil_of_length_eq_zero
    rw [Array.length_toList]
    have:x.length<1:=h1
    have e:x.length=x.cps.size:=rfl
    omega
   rw [this];rfl
  ·exfalso
   have k1:Builtin.Str.strKind ⟨#[c]⟩=1:=by unfold Builtin.Str.strKind;rw [if_pos (by simp;omega)]
   have k2:1<=Builtin.Str.strKind x:=by unfold Builtin.Str.strKind;split;omega;split <;> omega
   omega
 ·have hlim:Builtin.Str.occurrences x ⟨#[c]⟩ 0 x.length (x.length+1)=Zar c 0 x.cps.toList:=by
   rw [Zb1,List.take_of_length_le]
   have:=Zb7 c 0 x.cps.toList
   rw [Array.length_toList] at this
   exact Nat.le_succ_of_le this
  rw [hlim]
  split
  ·rename_i h2
   exact none (List.isEmpty_iff.mp h2)
  ·exact (ZdO x c).trans key
theorem Zdc {c:Nat}:∀ {u:List Nat} {k:Nat} {v:List Nat},c ∉ u->Zar c k (u++c::v)=(k+u.length)::Zar c (k+u.length+1) v
 | [],k,v,_=>by simp [Zar]
 | y::u,k,v,h=>by
  have hy:y≠c:=λe=>h (e▸List.mem_cons_self ..)
  rw [List.cons_append,Zar,if_neg hy,Zdc (λe=>h (List.mem_cons_of_mem _ e))]
  simp only [List.length_cons]
  rw [show k+1+u.length=k+(u.length+1) by omega]
theorem Zcg {x:Str} {c:Nat} {u v:List Nat} (hx:x.cps.toList=u++c::v) (h:c ∉ u):Txt.partition x ⟨#[c]⟩=(mkS u,⟨#[c]⟩,mkS v):=by
 unfold Txt.partition
 rw [Zb1,hx,Zdc h]
 simp only [List.take_succ_cons,List.take_zero,Nat.zero_add]
 have hL:x.length=u.length+(v.length+1):=by
  have e:x.cps.toList.length=x.length:=Array.length_toList
  rw [<-e,hx];simp
 rw [ZbP,ZbP,hx,hL]
 have e1:(u++c::v).take u.length=u:=by rw [List.take_append_of_le_length (Nat.le_refl _),List.take_of_length_le (Nat.le_refl _)]
 have e2:((u++c::v).take (u.length+(v.length+1))).drop (u.length+(⟨#[c]⟩:Str).length)=v:=by
  rw [List.take_of_length_le (by simp)]
  show (u++c::v).drop (u.length+1)=v
  rw [List.drop_append];simp
 rw [e1,e2,List.drop_zero]
end L2
namespace L2
open PySem PySem.Spec PyProof.Rows
def Its (x:Str):It:=⟨λi _=>i<x.cps.size,λi H v H'=>H'=H/\∃ c,x.cps[i]?=some c/\v=.str ⟨#[c]⟩,λi _=>x.cps.size<=i⟩
theorem Zf4 {P:Program} {w:World} {K:PySem.W.Frag} {tg:Expr} (it:Addr) (x:Str) (t:Tok):ZhD P w K tg (Its x) [it] it (λi h=>h.IsStrIter it "str_ascii_iterator" x t i) where
 mem:=by simp
 obj:=λi h st b hb=>by
  have e:b=it:=by simpa using hb
  subst e
  obtain ⟨o,e,c,d⟩:=st
  exact ⟨o,e,λv z=>by rw [d] at z;cases z⟩
 keep:=λi h h' st k=>by
  obtain ⟨o,e,r⟩:=st
  exact ⟨o,k it (by simp) o e,r⟩
 item:=by
  intro X hP hw hK hc i pins s σ H E I hf st hg
  subst hP hw hK
  have hg:i<x.cps.size:=hg
  obtain ⟨f0,f1,f2,f3,f4,f5⟩:=hf it (by simp)
  refine wpAny_pyNext_ascii_item st (c:=x.cps[i]) (by simp [hg]) λh' st' sb=>?_
  have I1:Inv X pins σ H { s with heap:=h',toks:=s.toks+1 }:=I.turned (λb o hb e=>(sb.2 b hb).trans e) f0 f1 f3 f4 f5
  obtain ⟨o,e,c,d⟩:=id st'
  exact ⟨_,rfl,ZgK (s:={ s with heap:=h',toks:=s.toks+1 }) e c d (by decide) ⟨.str ⟨#[x.cps[i]]⟩,H,I1,⟨_,rfl⟩,⟨rfl,x.cps[i],by simp [hg],rfl⟩,st',λb hb=>(hf b hb).1⟩⟩
 done:=by
  intro X hP hw hK hc i pins s σ H E I hf st hg
  subst hP hw hK
  obtain ⟨f0,f1,f2,f3,f4,f5⟩:=hf it (by simp)
  have hg:x.cps.size<=i:=hg
  exact wpAny_pyNext_ascii_end (I.ok.hd hc) st (by simp;omega) λh' eb=>⟨rfl,I.turned (t':=s.toks) (λb o hb e=>eb b o hb e) f0 f1 f3 f4 f5⟩
 self:=λ_ _ _ _ _ st h=>wpAny_pyIter_striter_ascii st h
section
variable {X:Cx} {tg:Expr}
def Zls (tl:TE):TI:=λσ H R=>tl σ H λv H1=>∃ x:Str,v=.str x/\x.cps.all (·<128)=true/\R (Its x) H1
theorem Zgy {l:Expr} {tl:TE} (hl:PE X l tl):PI X tg l (Zls tl):=by
 intro pins s σ H R I h
 refine thn (hl pins s σ H _ I h) λv s1 ⟨x,H1,I1,r1,q1⟩=>?_
 obtain ⟨y,e,ha,q⟩:=q1
 subst e
 obtain ⟨t,rfl⟩:=r1
 refine wpAny_pyIter_ascii ha ?_
 refine ⟨s1.heap.objs.size,[s1.heap.objs.size],_,_,H1,rfl,I1.kept (t':=s1.toks) λb o e=>Heap.get?_push_of_some _ e,Zf4 _ y t,⟨_,Heap.get?_push_size _ rfl,rfl,rfl⟩,λb hb=>?_,q⟩
 have e:b=s1.heap.objs.size:=by simpa using hb
 subst e
 exact I1.fpOk (Nat.le_refl _) (I1.hok.fresh (Nat.le_refl _))
theorem Zf5 {x:Str} {D:Addr} {g:TG} {tc:TT} {te:TE} {σ0:St} {R:Hp->Prop} {H1:Hp} (Pv:Nat->List V->Hp->Prop) (h0:Pv 0 [] (upd H1 D (.lst [])))
  (hs:∀ i c ys H,x.cps[i]?=some c->Pv i ys H->g (.str ⟨#[c]⟩) σ0 H λσ4 H4=>Zcs σ0 σ4/\tc σ4 H4 λb H5=>if b=true then te σ4 H5 λy H6=>H6 D=some (.lst ys)/\ys.length<sizeLine/\Pv (i+1) (ys++[y]) (upd H6 D (.lst (ys++[y]))) else Pv (i+1) ys H5)
  (hd:∀ ys H,Pv x.cps.size ys H->R H):∃ W:Nat->Nat->List V->Hp->Prop,(∃ m,W 0 m [] (upd H1 D (.lst [])))/\Zbg (Its x) D g tc te σ0 W R:=by
 refine ⟨λi m ys H=>m=x.cps.size-i/\i<=x.cps.size/\Pv i ys H,⟨_,rfl,Nat.zero_le _,h0⟩,?_⟩
 rintro i m ys H ⟨rfl,hi,p⟩
 by_cases hlt:i<x.cps.size
 ·refine .inr ⟨hlt,Pv (i+1),λys' H' p'=>⟨x.cps.size-(i+1),by omega,rfl,hlt,p'⟩,λv H' y=>?_⟩
  obtain ⟨e,c,hc,rfl⟩:=y
  subst e
  exact hs i c ys _ hc p
 ·have e:i=x.cps.size:=by omega
  subst e
  exact .inl ⟨Nat.le_refl _,hd ys H p⟩
theorem Zlt:OpR X (compareOp .In) (λx y H Q=>∃ (c:Nat) (b:Str),x=.str ⟨#[c]⟩/\y=.str b/\Q (.bl (decide (c∈b.cps.toList))) H):=by
 intro pins s σ H x y v u Q I rx ry h
 obtain ⟨c,b,rfl,rfl,q⟩:=h
 obtain ⟨t,rfl⟩:=rx
 obtain ⟨t',rfl⟩:=ry
 refine P.in_str ?_
 rw [StrLaws.found_one]
 exact ⟨.bl _,H,I,rfl,q⟩
end
end L2
namespace L2
open PySem PySem.Spec PyProof.Rows
end L2
namespace L2
open PySem PySem.Spec PyProof.Rows
variable {X:Cx}
theorem Zbl (z:Str) (lo hi:Option Int):(StrLaws.sliceText z lo hi).length<=z.length/\∀ c∈(StrLaws.sliceText z lo hi).cps.toList,c∈z.cps.toList:=by
 refine ⟨PyProof.Txt.length_slice_le z lo hi,?_⟩
 unfold StrLaws.sliceText
 split
 ·exact λc h=>h
 ·intro c h
  have h:c∈List.filterMap (λi=>z.cps[i]?) (Builtin.Str.strSliceIndices lo hi 1 z.length):=h
  obtain ⟨i,_,e⟩:=List.mem_filterMap.mp h
  obtain ⟨h1,h2⟩:=Array.getElem?_eq_some_iff.mp e
  rw [<-h2]
  simp
theorem Zhc:SlR X (λx lo hi H Q=>∃ z:Str,x=.str z/\z.length<=sizeLine/\Q (.str (StrLaws.sliceText z lo hi)) H):=by
 intro pins s σ H x v vl vu lo hi sl Q I rx hs pl pu h
 obtain ⟨z,rfl,hz,q⟩:=h
 obtain ⟨t,rfl⟩:=rx
 refine ⟨"str", _,PyProof.Rows.slot_str_getitem.lookup,typeIs_str _ _ _,?_⟩
 have key:∀ (l u:Option (Int×Tok)),vl=partValue l->vu=partValue u->lo=l.map (·.1)->hi=u.map (·.1)->wpAny (model X.prog X.w) X.A (getItem (.str z t) (.ref sl)) (EP X pins σ Q) X.xe s:=by
  intro l u e1 e2 e3 e4
  subst e1 e2 e3 e4
  refine wpAny_getItem_str_slice (l:=l) (u:=u) (st:=none) hs rfl ?_
  have fin:∀ (y:Str) (t':Tok) (k:Nat),y=StrLaws.sliceText z (l.map (·.1)) (u.map (·.1))->EP X pins σ Q (.str y t') { s with toks:=k }:=λy t' k e=>⟨.str y,H,I.tok _,⟨_,rfl⟩,e▸q⟩
  unfold sliceMade
  split
  ·rename_i hc
   rw [Made.post.eq_1]
   exact fin z t s.toks (if_pos hc).symm
  ·rename_i hc
   have e:(⟨(List.filterMap (λi=>z.cps[i]?) (slicePicked z l u none)).toArray⟩:Str)=StrLaws.sliceText z (l.map (·.1)) (u.map (·.1)):=(if_neg hc).symm
   rw [Made.post.eq_3]
   exact ⟨by rw [e];exact Nat.le_trans (Zbl z _ _).1 hz,fin _ _ _ e⟩
 cases pl <;> cases pu
 ·exact key none none rfl rfl rfl rfl
 ·exact key none (some (_,_)) rfl rfl rfl rfl
 ·exact key (some (_,_)) none rfl rfl rfl rfl
 ·exact key (some (_,_)) (some (_,_)) rfl rfl rfl rfl
theorem Zft (x y z:Str) (t u v t1: Tok) (hu:u≠0) (hv:v≠0) (huv:u≠v) (hyz:y≠z) (hy:0<y.length) (hl:x.length+z.length<=sizeLine)
  (hc:(Builtin.Str.occurrences x y 0 x.length 1).length<=1):Gives (Builtin.«str.replace» { pos:=[Value.str x t,Value.str y u,Value.str z v,Value.int 1 t1] })
  (if (Builtin.Str.occurrences x y 0 x.length 1).isEmpty=true then Made.val (.str x t) else Made.str (Builtin.Str.glued z (Builtin.Str.partsBetween x (Builtin.Str.occurrences x y 0 x.length 1) y.length))):=by
 intro prog w A R s h
 unfold Builtin.«str.replace»
 unfold Builtin.Str.strSelf Builtin.Str.bindOptional
 have hn:¬ (y.length=0/\z.length=0):=by omega
 simp [Builtin.Str.textOf,Builtin.Str.strArg,asStr?,Builtin.Str.countLimit,Builtin.Str.asSsize,asIndex,asInt?,isSame,isSame.created,hu,hv,huv,hyz,Builtin.Str.strUnchanged,Builtin.Str.isExactStr]
 by_cases e:Builtin.Str.occurrences x y 0 x.length 1=[]
 ·rw [if_pos (.inl e)]
  rw [if_pos (by rw [e];rfl)] at h
  exact wpAny_bind (wpAny_rule (wpAny_pure h))
 ·rw [if_neg (by rintro (h | h);exact e h;exact hn h)]
  rw [if_neg (by rw [List.isEmpty_iff];exact e),Made.post.eq_3] at h
  rw [if_neg (by
   unfold Builtin.Str.tooLong
   rw [decide_eq_true_eq]
   have:(Builtin.Str.occurrences x y 0 x.length 1).length * z.length<=1 * z.length:=Nat.mul_le_mul_right _ hc
   omega)]
  unfold retStr
  exact wpAny_bind (wpAny_mkStr (wpAny_pure h.2) h.1)
theorem Zf6 (x z:Str) (c:Nat):((Builtin.Str.occurrences x ⟨#[c]⟩ 0 x.length 1).isEmpty=false)->∃ u v:List Nat,x.cps.toList=u++c::v/\Builtin.Str.glued z (Builtin.Str.partsBetween x (Builtin.Str.occurrences x ⟨#[c]⟩ 0 x.length 1) 1)=mkS (u++z.cps.toList++v):=by
 rw [Zb1]
 intro h
 have hm:c∈x.cps.toList:=by
  refine Classical.byContradiction λhn=>?_
  have:∀ (l:List Nat) (k:Nat),c ∉ l->Zar c k l=[]:=by
   intro l
   induction l with
   | nil=>intro k _;rfl
   | cons y l ih=>
    intro k hy
    rw [Zar,if_neg (λe:y=c=>hy (by rw [e];exact List.mem_cons_self ..)),ih _ (λe=>hy (List.mem_cons_of_mem _ e))]
  rw [this _ _ hn] at h
  cases h
 obtain ⟨u,v,hx,hu⟩:=List.append_of_mem hm |>.elim λs ⟨t,e⟩=>(show ∃ u v,x.cps.toList=u++c::v/\c ∉ u from by
  have:∀ (l:List Nat),c∈l->∃ u v,l=u++c::v/\c ∉ u:=by
   intro l
   induction l with
   | nil=>intro h;cases h
   | cons y l ih=>
    intro h
    by_cases e:y=c
    ·exact ⟨[],l,by rw [e];rfl,by simp⟩
    ·obtain ⟨u,v,e1,e2⟩:=ih ((List.mem_cons.mp h).resolve_left (λz=>e z.symm))
     exact ⟨y::u,v,by rw [e1];rfl,λz=>(List.mem_cons.mp z).elim (λz=>e z.symm) e2⟩
  exact this _ hm)
 refine ⟨u,v,hx,?_⟩
 rw [hx,Zdc hu]
 simp only [List.take_succ_cons,List.take_zero,Nat.zero_add]
 have hL:x.length=u.length+(v.length+1):=by
  have e:x.cps.toList.length=x.length:=Array.length_toList
  rw [<-e,hx];simp
 unfold Builtin.Str.partsBetween
 simp only [List.map_cons,List.map_nil,List.cons_append,List.nil_append,List.zip_cons_cons,List.zip_nil_right,ZbP,hx,hL]
 have e1:((u++c::v).take u.length).drop 0=u:=by rw [List.drop_zero,List.take_append_of_le_length (Nat.le_refl _),List.take_of_length_le (Nat.le_refl _)]
 have e2:((u++c::v).take (u.length+(v.length+1))).drop (u.length+1)=v:=by
  rw [List.take_of_length_le (by simp)]
  rw [List.drop_append];simp
 rw [e1,e2]
 unfold Builtin.Str.glued
 simp [mkS]
def PEq (X:Cx) (e:Expr) (te:TE):Prop:=∀ (pins:List (Addr×Obj)) (s:Shared) (σ:St) (H:Hp) (Q:VK),Inv X pins σ H s->0<s.toks->te σ H Q->wpAny (model X.prog X.w) X.A (eval e X.env) (EP X pins σ Q) X.xe s
def PEp (X:Cx) (e:Expr) (te:TE):Prop:=∀ (pins:List (Addr×Obj)) (s:Shared) (σ:St) (H:Hp) (Q:VK),Inv X pins σ H s->te σ H Q->wpAny (model X.prog X.w) X.A (eval e X.env) (λv s'=>0<s'.toks/\EP X pins σ Q v s') X.xe s
theorem ZjQ {e e':Expr} {es:List Expr} {te te':TE} {t:TA} (ha:PEp X e te) (hb:PEq X e' te') (hr:PA X es t) (hs:starEach (e::e'::es) X.env=(false,eval e X.env)::(false,eval e' X.env)::starEach es X.env:=by rfl):PA X (e::e'::es) (ZgP te (ZgP te' t)):=by
 intro pos pins s σ H Q I h
 rw [hs]
 show wpAny _ _ (spliced ((false,eval e X.env)::(false,eval e' X.env)::backTo pos (starEach es X.env))) _ _ s
 refine Calls.spliced_cons (thn (ha pins s σ H _ I h) λu s1 ⟨t1,x,H1,I1,r1,q1⟩=>?_)
 refine Calls.spliced_cons (thn (hb pins s1 σ H1 _ I1 t1 q1) λu s1 ⟨x',H1,I1,r1',q1⟩=>?_)
 exact thn (hr pos pins s1 σ H1 _ I1 q1) λus s2 ⟨xs,H2,I2,r2,q2⟩=>⟨x::x'::xs,H2,I2,.cons r1 (.cons r1' r2),q2⟩
theorem Zgz {i:Nat} {x:Str} {pos:Pos} {pins:List (Addr×Obj)} {s:Shared} {σ:St} {H:Hp} {v:V} {R:Value->Shared->Prop} (I:Inv X pins σ H s) (e:σ[i]?=some (some v)) (hN:X.N[i]?=some x) (hv:Vis X.env.scope x) (hd:(x == ("__debug__" : Str))=false) (hcd:(x == ("__classdict__" : Str))=false)
  (fin:∀ u,RelV v u->R u s):wpAny (model X.prog X.w) X.A (eval (.Name x pos) X.env) R X.xe s:=by
 obtain ⟨m,hn,hl⟩:=I.loc
 obtain ⟨u,r,l⟩:=hl i x v hN e hv
 rcases l with ⟨hk,hm⟩ | ⟨hk,c,hc,hcell⟩
 ·exact wpAny_Name (wpAny_loadName_local I.ok.kind hk hn hm (fin u r)) hd
 ·rcases hk with hk | hk
  ·exact wpAny_Name (wpAny_loadName_cell I.ok.kind hk hc hcell (fin u r)) hd
  ·exact wpAny_Name (wpAny_loadName_free I.ok.kind hk hc hcell (fin u r) hcd) hd
theorem Zik (i:Nat) {x c:Str} {j:Nat} {p0 p1 pos:Pos} (hN:X.N[i]?=some x:=by rfl) (hv:Vis X.env.scope x:=by first | exact Or.inl rfl | exact Or.inr (Or.inl rfl) | exact Or.inr (Or.inr rfl)) (hd:(x == ("__debug__" : Str))=false:=by decide) (hcd:(x == ("__classdict__" : Str))=false:=by decide) :
  PEp X (.BinOp (.Constant (.str c) j p0) .Add (.Name x p1) pos) (λσ H Q=>∃ a:Str,σ[i]?=some (some (.str a))/\c.length+a.length<=sizeLine/\Q (.str (c++a)) H):=by
 intro pins s σ H Q I h
 obtain ⟨a,e,hl,q⟩:=h
 refine wpAny_BinOp (Calls.Constant_str ?_)
 refine Zgz (s:={ s with toks:=s.toks+1 }) (I.tok _) e hN hv hd hcd λu r=>?_
 obtain ⟨t,rfl⟩:=r
 have e0:∀ y:Str,(y.length == 0)=true->y.cps=#[]:=λy h=>Array.size_eq_zero_iff.mp (eq_of_beq h)
 refine P.add_str ?_
 split
 ·rename_i h1
  rw [Made.post.eq_1]
  refine ⟨Nat.succ_pos _,.str a,H,I.tok _,⟨_,rfl⟩,?_⟩
  have:c++a=a:=by
   cases c;cases a
   show Str.mk _=_
   have:=e0 _ h1
   simp at this
   subst this
   simp
  rw [<-this];exact q
 ·split
  ·rename_i h1
   rw [Made.post.eq_1]
   refine ⟨Nat.succ_pos _,.str c,H,I.tok _,⟨_,rfl⟩,?_⟩
   have:c++a=c:=by
    cases c;cases a
    show Str.mk _=_
    have:=e0 _ h1
    simp at this
    subst this
    simp
   rw [<-this];exact q
  ·rw [Made.post.eq_3]
   have hz:(c++a).length<=sizeLine:=by
    show (c++a).cps.size<=_
    rw [PySem.Str.cps_append,Array.size_append]
    exact hl
   exact ⟨hz,Nat.succ_pos _,.str _,H,I.tok _,⟨_,rfl⟩,q⟩
theorem Zil (i:Nat) {x:Str} {j1 j2 j3:Nat} {p0 apos p1 p2 p3 cpos:Pos} (hN:X.N[i]?=some x:=by rfl) (hv:Vis X.env.scope x:=by first | exact Or.inl rfl | exact Or.inr (Or.inl rfl) | exact Or.inr (Or.inr rfl)) (hd:(x == ("__debug__" : Str))=false:=by decide) (hcd:(x == ("__classdict__" : Str))=false:=by decide)
  (hbase:attributeBase (.Name x p0) "replace" X.env (eval (.Name x p0) X.env)=eval (.Name x p0) X.env:=by rfl)
  (hline:(apos.endLine == cpos.line)=true:=by rfl) :
  PEq X (.Call (.Attribute (.Name x p0) "replace" apos) [.Constant (.str " ") j1 p1,.Constant (.str "  ") j2 p2,.Constant (.int 1) j3 p3] [] cpos)
   (λσ H Q=>∃ a:Str,σ[i]?=some (some (.str a))/\a.length<=100000/\∀ y:Str,y.length<=a.length+1->(∀ c∈y.cps.toList,c∈a.cps.toList\/c=32)->Q (.str y) H):=by
 intro pins s σ H Q I h0 h
 obtain ⟨a,e,hl,q⟩:=h
 have h16:(16777216:Nat)=sizeLine:=sizeLine_eq.symm
 refine wpAny_Call_method_late hbase rfl hline rfl (Zgz I e hN hv hd hcd λu r=>?_)
 obtain ⟨t,rfl⟩:=r
 refine ⟨"str", "str.replace", PySem.F.plainAttrs_str,PySem.F.slot_str_replace,PySem.F.type_str_replace,typeIs_str _ _ _,(λ_ z=>by cases z),?_⟩
 refine Calls.callWith_builtin rfl (Calls.evalArgs_plain ?_)
 refine Calls.spliced_cons (Calls.Constant_str (k:=j1) (pos:=p1) ?_)
 refine Calls.spliced_cons (Calls.Constant_str (k:=j2) (pos:=p2) ?_)
 refine Calls.spliced_cons (wpAny_Constant_int (k:=j3) (pos:=p3) ?_)
 refine Calls.spliced_nil ?_
 have hc:(Builtin.Str.occurrences a " " 0 a.length 1).length<=1:=by
  show (Builtin.Str.occurrences a ⟨#[32]⟩ 0 a.length 1).length<=1
  rw [Zb1,List.length_take]
  omega
 refine call_gives PySem.F.slot_str_replace (typeIs_str _ _ _) PySem.F.entry_str_replace (PySem.F.args_str_replace_4 _ _ _ _) (Zft a " " "  " t s.toks (s.toks+1) _ (show s.toks≠0 from Nat.pos_iff_ne_zero.mp h0) (Nat.succ_ne_zero s.toks) (Nat.ne_of_lt (Nat.lt_succ_self s.toks)) (by decide) (by decide) (by show a.length+2<=sizeLine;omega) hc) ?_
 have toL:∀ y:Str,y.cps.toList.length=y.length:=λy=>Array.length_toList
 split
 ·rw [Made.post.eq_1]
  exact ⟨.str a,H,I.tok _,⟨_,rfl⟩,q a (Nat.le_succ _) λc hc=>.inl hc⟩
 ·rename_i hm
  obtain ⟨u,v,e1,e2⟩:=Zf6 a "  " 32 (Bool.eq_false_iff.mpr hm)
  have e2:Builtin.Str.glued "  " (Builtin.Str.partsBetween a (Builtin.Str.occurrences a " " 0 a.length 1) (" " : Str).length)=mkS (u++[32,32]++v):=e2
  rw [e2,Made.post.eq_3]
  have hlen:(mkS (u++[32,32]++v)).length=a.length+1:=by
   rw [<-toL,<-toL a,e1]
   show (u++[32,32]++v).length=_
   simp
   omega
  refine ⟨by omega,.str _,H,I.tok _,⟨_,rfl⟩,q _ (by omega) λc hc=>?_⟩
  have hc:c∈u++[32,32]++v:=hc
  rw [e1]
  simp at hc ⊢
  rcases hc with hc | hc | hc
  ·exact .inl (.inl hc)
  ·exact .inr hc
  ·exact .inl (.inr (.inr hc))
end L2
namespace L2
open PySem PySem.Spec PyProof.Rows
open AutoSeq1 (wpAny_loadPart') in
open AutoSeq1 (wpAny_loadPart') in
section
variable {X:Cx}
def Zlu (K:PySem.W.Frag):V->List V->Hp->VK->Prop:=λx vs H Q=>∃ l xs y d ds j,x=.ref l/\vs=[y]/\H l=some (.lst xs)/\DatV K H y d/\DatVs K H xs ds/\SeqAt.shaped d=true/\(∀ e∈ds,SeqAt.shaped e=true) /\
 j<xs.length/\(∀ e,ds[j]?=some e->PyData.eqv e d=true)/\(∀ m,m<j->∀ e,ds[m]?=some e->PyData.eqv e d=false)/\Q .non (upd H l (.lst (xs.eraseIdx j)))
end
end L2
namespace L2
open PySem PySem.Spec PyProof.Rows
def ltP (x y:Int×Int):Bool:=decide (x.1<y.1) || (decide (x.1=y.1) && decide (x.2<y.2))
section
variable {prog:Program} {w:World} {A:Around} {E:Value->Shared->Prop} {s:Shared}
end
def Zlv (prog:Program) (w:World) (A:Around) (op:CmpOp) (J:Heap->Prop) (P:Nat->Value->Prop) (bt:Nat->Nat->Bool):Prop:=
 ∀ (s:Shared) (i j:Nat) (vi vj:Value) (Q E:Value->Shared->Prop),J s.heap->P i vi->P j vj->Q (.bool (bt i j)) s->wpAny (model prog w) A (richCompare op vi vj) Q E s
section
variable {prog:Program} {w:World} {A:Around} {R:Result->Shared->Prop} {I:Addr} {fp wr:List Addr} {n:Nat} {P:Nat->Value->Prop} {St:Nat->Heap->Prop} {J:Heap->Prop} {kw:List (Str×Value)}
end
section
variable {X:Cx}
def Zim (xs:List V) (rs:List (Int×Int)) (t:Addr) (r:Int×Int):Prop:=(∃ i:Nat,xs[i]?=some (.ref t)/\rs[i]?=some r)/\∀ r'∈rs,ltP r' r=false
def Zlw (K:PySem.W.Frag):List V->Hp->VK->Prop:=λvs H Q=>∃ (p:Addr) (xs:List V) (rs:List (Int×Int)),vs=[.ref p]/\SqL K H p xs/\Prs H xs rs/\rs≠[]/\∀ t r,Zim xs rs t r->Q (.ref t) H
def Zkw (X:Cx) (f:Value) (ks:List Str) (r:List V->List V->Hp->VK->Prop):Prop:=∀ (pins:List (Addr×Obj)) (s:Shared) (σ:St) (H:Hp) (xs:List V) (us:List Value) (zs:List V) (ws:List Value) (Q:VK),Inv X pins σ H s->Vals xs us->Vals zs ws->r xs zs H Q->wpAny (model X.prog X.w) X.A (call f us (ks.zip ws)) (EP X pins σ Q) X.xe s
def Zmb (r:List V->List V->Hp->VK->Prop) (t tk:TA):TE:=λσ H Q=>t σ H λvs H1=>tk σ H1 λzs H2=>r vs zs H2 Q
end
section
variable {X:Cx} {k:Nat} {f:Addr} {fd:FuncData} {ps:List Str} {sp:Sp} {dvs:List V} {ds:List Value} {fx:Str} {fp cpos bpos np:Pos} {e:Expr} {es:List Expr} {t:TA}
theorem Zin {j:Nat} {y:Str} (F:ZaY X.prog X.w X.K X.mg X.base (CXr X.prog X.w) k f fd ps sp) (hr:Room k X.A) (hg:Gl X fx) (hm:X.mg fx=some (.ref f)) (hk:PySem.W.keepIn X.K (.ref f)=true) (hb:Binds X.K fd ps ds) (hd:Vals dvs ds) (ha:PA X.nox (e::es) t) (hN:X.N.Nodup) (hj:X.N[j]?=some y) (hx:Loc X.env.scope y)
  (hdb:(fx == ("__debug__" : Str))=false:=by decide) (he:starEach (e::es) X.env=(false,eval e X.env)::starEach es X.env:=by rfl) (hpl:(backTo cpos (starEach es X.env)).any (·.1)=false:=by rfl)
  (hs:swapsWith (.Call (.Name fx fp) (e::es) [] cpos) (some (.Name y np)) bpos.line X.env=pure false:=by rfl) (hf:X.fn y=true\/X.env.scope.names.lookup y=some .local:=by first | exact .inl rfl | exact .inr rfl | assumption) :
  PB X [.Assign [.Name y np] (.Call (.Name fx fp) (e::es) [] cpos) bpos] (λD Eσ σ H=>t σ H λvs H1=>sp (vs++dvs) H1 (λv H2=>D.nx (σ.set j (some v)) H2) (Eσ σ)):=by
 intro pins s σ H D Eσ QQ EE I h hQ hE
 refine wpAny_execs_cons (wpAny_Assign_Name (Zd8 F hr hg hm hk hb hd ha I h (λu s' hq=>?_) (λev H1 s1 s' I1 hq=>hE σ ev H1 s1 s' I1 hq) hdb he hpl) hs)
 obtain ⟨v,H2,I2,rv,q⟩:=hq
 exact Zca I2 hN hj hx rv (λs2 I3=>wpAny_execs_nil (hQ .next s2 ⟨_,H2,I3,q⟩)) hf
end
end L2
namespace L2
open PySem PySem.Spec PyProof.Rows
section
variable {prog:Program} {w:World} {A:Around} {R:Result->Shared->Prop} {s:Shared}
theorem Zdd {elt target iter:Expr} {ifs:List Expr} {scope:Scope} {pos:Pos} {it acc:Value} {env:Env} (I:Nat->Shared->Prop)
  (turn:∀ n s,I n s->wpAny (model prog w) A (pyNext it) (λr s1=>match r with
   | none=>R (.ok .next) s1
   | some v=>wpAny (model prog w) A (letOwnedTupleGo target it v) (λ_ s1'=>wpAny (model prog w) A (assign target env v) (λ_ s2=>
     wpAny (model prog w) A (forIn ifs true λc r=>if r=true then do let ok <- isTrue c env (eval c env);pure (ForInStep.yield ok) else pure (ForInStep.yield r)) (λok s3=>
      if ok=true then wpAny (model prog w) A (eval elt env) (λx s4=>
       wpAny (model prog w) A (call (.builtin "list.append") [acc,x]) (λ_ s5=>∃ m,m<n/\I m s5) (λ_ _=>False) s4) (notedBy (model prog w) A env λx s'=>R (.error x) s') s3
      else ∃ m,m<n/\I m s3) (λ_ _=>False) s2) (λ_ _=>False) s1') (λ_ _=>False) s1) (λ_ _=>False) s)
  (n:Nat) (h:I n s) :
  codeAny (model prog w) A (.compLoop (.ListComp elt [⟨target,iter,ifs,0⟩] scope pos) 0 it acc env) R s:=by
 have ff:∀ {E:Value->Shared->Prop},∀ (x:Value) (s:Shared),(λ(_:Value) (_:Shared)=>False) x s->E x s:=λ_ _ z=>False.elim z
 refine codeAny_loop rfl I (λn s hI=>?_) n h
 show wpAny _ A ((compTurn (.ListComp elt [⟨target,iter,ifs,0⟩] scope pos) 0 it acc env).onRaise (λx=>do noteFrame x env;theTreesLotGoes x)) _ _ s
 refine wpAny_noted ?_
 rw [compTurn_list]
 refine wpAny_bind (wpAny_standAt (wpAny_bind (wpAny_mono (turn n s hI) (λr s1 h1=>?_) ff)))
 cases r with
 | none=>exact wpAny_pure h1
 | some v=>
  refine wpAny_bind (wpAny_mono h1 (λ_ s1' h1'=>?_) ff)
  refine wpAny_bind (wpAny_mono h1' (λ_ s2 h2=>wpAny_bind (wpAny_mono h2 (λok s3 h3=>?_) ff)) ff)
  cases ok with
  | false=>exact wpAny_pure ⟨rfl,h3⟩
  | true=>
   exact wpAny_bind (wpAny_bind (wpAny_mono h3 (λx s4 h4=>wpAny_bind (wpAny_mono h4 (λ_ s5 h5=>wpAny_pure (wpAny_pure ⟨rfl,h5⟩)) ff)) λ_ _ z=>z))
end
def Cx.compR (X:Cx) (scope:Scope) (cl:List (Str×Addr)) (N:List Str) (C:Addr) (s:Shared) (H:Hp) (fp:List Addr) (YE:Value->Shared->Prop):Cx:={ X.comp scope cl N C s H fp with xe:=YE }
section
variable {X:Cx} {target iter elt:Expr} {ifs:List Expr} {scope:Scope} {cl:List (Str×Addr)} {own:List Str} {fr:List (Str×Nat)} {pos:Pos} {wi:TI} {g:TG} {tc:TT} {te:TE}
theorem Inv.toR {scope:Scope} {cl:List (Str×Addr)} {N:List Str} {C:Addr} {s0:Shared} {H0:Hp} {fp:List Addr} {YE:Value->Shared->Prop} {pins:List (Addr×Obj)} {σ:St} {H:Hp} {s:Shared} (I:Inv (X.comp scope cl N C s0 H0 fp) pins σ H s):Inv (X.compR scope cl N C s0 H0 fp YE) pins σ H s:=
 ⟨⟨I.ok.mod,I.ok.kind,I.ok.glob,I.ok.blt,I.ok.above,I.ok.inj,I.ok.has,I.ok.cab,I.ok.hd,I.ok.frames,I.ok.stk,I.ok.exf,I.ok.bs,I.ok.bsz,I.ok.noex,I.ok.exfs,I.ok.funs,I.ok.frf⟩,I.os,I.bare,I.base,I.loc,I.cell,I.free,I.freeC,I.pin,I.hok,I.len⟩
theorem Inv.ofR {scope:Scope} {cl:List (Str×Addr)} {N:List Str} {C:Addr} {s0:Shared} {H0:Hp} {fp:List Addr} {YE:Value->Shared->Prop} {pins:List (Addr×Obj)} {σ:St} {H:Hp} {s:Shared} (I:Inv (X.compR scope cl N C s0 H0 fp YE) pins σ H s):Inv (X.comp scope cl N C s0 H0 fp) pins σ H s:=
 ⟨⟨I.ok.mod,I.ok.kind,I.ok.glob,I.ok.blt,I.ok.above,I.ok.inj,I.ok.has,I.ok.cab,I.ok.hd,I.ok.frames,I.ok.stk,I.ok.exf,I.ok.bs,I.ok.bsz,I.ok.noex,I.ok.exfs,I.ok.funs,I.ok.frf⟩,I.os,I.bare,I.base,I.loc,I.cell,I.free,I.freeC,I.pin,I.hok,I.len⟩
theorem ZdX {pins:List (Addr×Obj)} {σ:St} {H:Hp} {s:Shared} {it:Addr} {fp:List Addr} {tn:Nat->Heap->Prop} {J:It} {E:Value->Shared->Prop} {RR:Value->Addr->Result->Shared->Prop} {Rf:Addr->Hp->Prop} {EK:XK}
  (hc:X.calm=true) (S:Za7 X scope cl own fr) (I:Inv X pins σ H s) (T:ZhD X.prog X.w X.K target J fp it tn) (st:tn 0 s.heap) (hf:∀ b∈fp,Zen X pins H b)
  (hg:∀ C s H fp,PG (X.comp scope cl (own++fr.map (·.1)) C s H fp) target g) (ht:∀ C s H fp,ZhE (X.comp scope cl (own++fr.map (·.1)) C s H fp) ifs tc) (he:∀ C s H fp YE,Zcp (CXr X.prog X.w) (X.compR scope cl (own++fr.map (·.1)) C s H fp YE) EK->PE (X.compR scope cl (own++fr.map (·.1)) C s H fp YE) elt te) (hst:X.stack=X.env::X.outer) (hfr:X.env.frame=some X.env.locals)
  (hw:∀ D,H D=none->∃ W:Nat->Nat->List V->Hp->Prop,(∃ m,W 0 m [] (upd H D (.lst [])))/\Zbg J D g tc te (ZaX own fr σ) W (Rf D))
  (hRR:∀ D C s' H',s.heap.objs.size<=C->C≠D->(∃ m,s'.heap.Ns C m)->H' C=none->Un (frs X.stack) fp H H' s.heap s'.heap->HOk X.prog X.w H' s'.heap->AllBare s'.gens->s'.os=s.os->Rf D H'->RR (.ref D) C (.ok .next) s')
  (hRE:∀ D C s' H' a Cc t B,s.heap.objs.size<=C->C≠D->(∃ m,s'.heap.Ns C m)->H' C=none->Un (frs X.stack) fp H H' s.heap s'.heap->HOk X.prog X.w H' s'.heap->AllBare s'.gens->s'.os=s.os->Heap.HeldW B (X.env::X.outer) a (.ref Cc) (.ref t) X.env.locals s'.heap ->
   (∀ b o,s'.heap.get? b=some o->H' b≠none->B.get? b=some o)->(∀ b o0 o,b ∉ fp->s.heap.get? b=some o0->s'.heap.get? b=some o->b ∉ frs X.stack->B.get? b=some o)->EK (.ref Cc) none H'->RR (.ref D) C (.error (.ref a)) s') :
  wpAny (model X.prog X.w) X.A (newList []) (λacc s3=>wpAny (model X.prog X.w) X.A (newFunctionEnv scope X.env.globals cl [] X.env.qual none .none (some X.env)) (λcenv s4=>
   codeAny (model X.prog X.w) X.A (.compStart (.ListComp elt [⟨target,iter,ifs,0⟩] scope pos) 0 (.ref it) acc { cenv with scope:=relabel scope X.env }) (RR acc cenv.locals) s4) E s3) E s:=by
 have hfl:∀ b∈fp,b<s.heap.objs.size:=λb hb=>by
  obtain ⟨o,e,_⟩:=T.obj 0 s.heap st b hb
  exact Heap.lt_size e
 have hD:H s.heap.objs.size=none:=I.fresh
 obtain ⟨W,⟨m0,w0⟩,turns⟩:=hw s.heap.objs.size hD
 have I1:Inv X pins σ (upd H s.heap.objs.size (.lst [])) { s with heap:=s.heap.push { cls:=.type "list", data:=.seq ([]:List Value).toArray },toks:=s.toks }:=I.lnew .nil (Nat.zero_le _)
 refine wpAny_newObj_type (wpAny_newFunctionEnv S.nocell (by intro y hy;simp at hy) (λh1 hns1 hsb1=>?_) S.kind)
 dsimp only at hns1 hsb1 ⊢
 generalize hH2:s.heap.push { cls:=.type "list", dict:=none,data:=.seq ([]:List Value).toArray }=H2 at hns1 hsb1 ⊢ I1
 have hCs:H2.objs.size=s.heap.objs.size+1:=by rw [<-hH2,Heap.size_push]
 have hCle:s.heap.objs.size<=H2.objs.size:=by omega
 have hDC:s.heap.objs.size≠H2.objs.size:=by omega
 have up1:∀ b o,H2.get? b=some o->h1.get? b=some o:=λb o e=>hsb1.extBut b o (Nat.ne_of_lt (Heap.lt_size e)) (Heap.get?_push_of_some _ e)
 have up:∀ b o,s.heap.get? b=some o->h1.get? b=some o:=λb o e=>up1 b o (hH2▸Heap.get?_push_of_some _ e)
 have okY:=ZeX (C:=H2.objs.size) S I hf hCle hfl
 have I0:∀ tk,Inv (X.comp scope cl (own++fr.map (·.1)) H2.objs.size s H fp) [] (ZaX own fr σ) (upd H s.heap.objs.size (.lst [])) { s with heap:=h1,toks:=tk }:=by
  intro tk
  have hok1:HOk X.prog X.w (upd H s.heap.objs.size (.lst [])) h1:=I1.hok.kept up1
  refine ⟨okY,rfl,I.bare,⟨λb o e n _ _=>up b o e,λb o e n _ _=>⟨o.slots,up b o e⟩,λb o e n _=>?_,λb o e _=>⟨o,up b o e⟩,λb xs q=>?_,λb o u q=>?_,λb ps q=>⟨#[],?_⟩⟩,
   ⟨_,hns1,λi x v e1 e2 e3=>?_⟩,λx c e=>?_,?_,λx c e=>?_,λp hp=>?_,hok1,ZbC own fr σ⟩
  ·have e':s.heap.get? b=some o:=e
   show upd H s.heap.objs.size (.lst []) b=none
   rw [Zas (Nat.ne_of_lt (Heap.lt_size e'))];exact n
  ·rw [Zas (Zak q hD)];exact q
  ·rw [Zas (Zak q hD)];exact q
  ·have q':H b=some (.tbl ps):=q
   rw [Zas (Zak q' hD),q'];simp
  ·-- the free names
   have e2':(ZaX own fr σ)[i]?=some (some v):=e2
   have e1':(own++fr.map (·.1))[i]?=some x:=e1
   unfold ZaX at e2'
   by_cases hi:i<own.length
   ·rw [List.getElem?_append_left (by simpa using hi),List.getElem?_map] at e2'
    cases q:own[i]? with
    | none=>rw [q] at e2';cases e2'
    | some y=>rw [q] at e2';cases e2'
   ·rw [List.getElem?_append_right (by simpa using hi),List.length_map,List.getElem?_map] at e2'
    rw [List.getElem?_append_right (by omega),List.getElem?_map] at e1'
    cases q:fr[i-own.length]? with
    | none=>rw [q] at e2';cases e2'
    | some p=>
     rw [q] at e1' e2'
     have ex:p.1=x:=Option.some.inj e1'
     have ev:(σ[p.2]?).join=some v:=Option.some.inj e2'
     have ev':σ[p.2]?=some (some v):=by
      cases z:σ[p.2]? with
      | none=>rw [z] at ev;cases ev
      | some o=>rw [z] at ev;cases o with
       | none=>cases ev
       | some v'=>have:v'=v:=Option.some.inj ev;rw [this]
     obtain ⟨f1,f2,f3⟩:=S.free p (List.mem_of_getElem? q)
     subst ex
     obtain ⟨m,hn,hl⟩:=I.loc
     have vis:Vis X.env.scope p.1:=by
      rcases f2 with f2 | f2
      ·exact .inr (.inl f2)
      ·exact .inr (.inr f2)
     obtain ⟨u,ru,lk⟩:=hl p.2 p.1 v f1 ev' vis
     refine ⟨u,ru,?_⟩
     rcases lk with ⟨k,_⟩ | ⟨k,c,e,z⟩
     ·rcases f2 with f2 | f2 <;> (rw [f2] at k;cases k)
     ·obtain ⟨c',hc'⟩:=S.has p.1 f3
      have e':=S.cls _ _ hc'
      rw [e] at e';cases e'
      obtain ⟨oc,ho,hd⟩:=z
      exact .inr ⟨f3,c,hc',⟨oc,up _ _ ho,hd⟩⟩
  ·obtain ⟨v,oc,ho,hd⟩:=I.cell x c (S.cls x c e)
   exact ⟨v,oc,up _ _ ho,hd⟩
  ·show upd H s.heap.objs.size (.lst []) H2.objs.size=none
   rw [Zas (Ne.symm hDC)]
   exact I.hok.fresh hCle
  ·obtain ⟨v,z⟩:=I.cell x c (S.cls x c e)
   show upd H s.heap.objs.size (.lst []) c=none
   rw [Zas (Nat.ne_of_lt z.lt)]
   exact I.freeC x c (S.cls x c e)
  ·exact absurd (show p∈([]:List (Addr×Obj)) from hp) (by simp)
 have fpf:∀ b∈fp,upd H s.heap.objs.size (.lst []) b=none:=λb hb=>by rw [Zas (Nat.ne_of_lt (hfl b hb))];exact (hf b hb).1
 have st1:tn 0 h1:=T.keep 0 _ _ st λb hb o e=>up b o e
 have stat:∀ {H':Hp},(∀ b∈fp,H' b=none)->∀ b∈fp,Zen (X.comp scope cl (own++fr.map (·.1)) H2.objs.size s H fp) [] H' b:=λhn b hb=>
  ⟨hn b hb,(okY.exf b hb).1,okY.exfs b hb,.inl hb,(okY.exf b hb).2,λp hp=>absurd (show p∈([]:List (Addr×Obj)) from hp) (by simp)⟩
 have pass:Zcp (CXr X.prog X.w) (X.compR scope cl (own++fr.map (·.1)) H2.objs.size s H fp (notedBy (model X.prog X.w) X.A (compEnvC scope cl H2.objs.size X.env) λx s'=>RR (.ref s.heap.objs.size) H2.objs.size (.error x) s')) EK:=by
  rintro pins7 σ7 H7 s7 ev s' I7 ⟨a,Cc,H',rfl,⟨t,B,os,bare,un,hok,fl,trk,old⟩,q⟩
  have I7:=I7.ofR
  have fl:Heap.FlyingW B X.stack a (.ref Cc) (.ref t) s'.heap:=fl
  have flX:=fl
  rw [hst] at flX
  have afr:=I.ok.frames
  rw [hst] at afr
  show wpAny (model X.prog X.w) X.A (noteFrame (.ref a) X.env) _ _ s'
  refine wpAny_looks_onW afr hfr flX λh4 held4 sm4=>?_
  obtain ⟨u2,k2⟩:=Zcc (t:=t) (a:=a) (C:=Cc) un hok fl.2.2.1 trk old held4.1 sm4
  have I4:Inv (X.comp scope cl (own++fr.map (·.1)) H2.objs.size s H fp) pins7 σ7 H' { s' with heap:=h4 }:=I7.call' (ch:=[]) os u2 k2 bare (λb z=>absurd z (by simp))
  refine hRE _ _ _ H' a Cc t B hCle (Ne.symm hDC) ⟨_,I4.loc.choose_spec.1⟩ I4.free I4.base I4.hok I4.bare I4.os held4 ?_ ?_ q
  ·intro b o e n
   cases z:H' b with
   | none=>exact absurd z n
   | some u=>
    obtain ⟨v,hv⟩:=(hok b u z).there
    have hB:=trk b v hv n
    have e':=held4.1 b v hB
    have e:h4.get? b=some o:=e
    rw [e] at e'
    cases e'
    exact hB
  ·intro b o0 o hb e0 e n
   obtain ⟨o1,e1⟩:=I7.base.there b o0 e0 hb
   obtain ⟨o2,e2⟩:=un.there b o1 e1 (by simp)
   have hB:=old b o1 o2 e1 e2 n
   have e':=held4.1 b o2 hB
   have e:h4.get? b=some o:=e
   rw [e] at e'
   cases e'
   exact hB
 have loop:∀ s3:Shared,(∃ tk,s3={ s with heap:=h1,toks:=tk }) ->
   codeAny (model X.prog X.w) X.A (.compLoop (.ListComp elt [⟨target,iter,ifs,0⟩] scope pos) 0 (.ref it) (.ref s.heap.objs.size) (compEnvC scope cl H2.objs.size X.env)) (RR (.ref s.heap.objs.size) H2.objs.size) s3:=by
  rintro s3 ⟨tk,rfl⟩
  refine Zdd (λn s'=>∃ i ys H',Inv (X.comp scope cl (own++fr.map (·.1)) H2.objs.size s H fp) [] (ZaX own fr σ) H' s'/\tn i s'.heap/\(∀ b∈fp,H' b=none)/\W i n ys H') ?_ m0 ⟨0,[],_,I0 tk,st1,fpf,w0⟩
  rintro n s4 ⟨i,ys,H4,I4,st4,fr4,w4⟩
  rcases turns i n ys H4 w4 with ⟨stop,q⟩ | ⟨go,N,hN,step⟩
  ·refine thn (T.done (X.comp scope cl (own++fr.map (·.1)) H2.objs.size s H fp) rfl rfl rfl hc i [] s4 _ H4 _ I4 (stat fr4) st4 stop) λr s5 ⟨hr,I5⟩=>?_
   subst hr
   exact hRR _ _ s5 H4 hCle (Ne.symm hDC) ⟨_,I5.loc.choose_spec.1⟩ I5.free I5.base I5.hok I5.bare I5.os q
  ·refine thn (T.item (X.comp scope cl (own++fr.map (·.1)) H2.objs.size s H fp) rfl rfl rfl hc i [] s4 _ H4 _ I4 (stat fr4) st4 go) λr s5 ⟨u,hr,h5⟩=>?_
   subst hr
   refine thn h5 λ_ s6 ⟨x,H6,I6,r6,y6,st6,fr6⟩=>?_
   have I6':=I6.pinned (stat fr6) (T.obj _ _ st6)
   refine thn (hg H2.objs.size s H fp _ s6 _ H6 x u _ I6' r6 (step x H6 y6)) λ_ s7 ⟨σ7,H7,I7,k7,q7⟩=>?_
   refine thn (ht H2.objs.size s H fp _ s7 σ7 H7 _ I7 q7) λok s8 ⟨H8,I8,q8⟩=>?_
   have again:∀ {s9:Shared} {σ9:St} {H9:Hp} {zs:List V},Inv (X.comp scope cl (own++fr.map (·.1)) H2.objs.size s H fp) ([]++ZcF fp s6.heap) σ9 H9 s9->(∀ (i:Nat) v,(ZaX own fr σ)[i]?=some (some v)->σ9[i]?=some (some v))->(∃ m',m'<n/\W (i+1) m' zs H9) ->
     ∃ m,m<n/\∃ i ys H',Inv (X.comp scope cl (own++fr.map (·.1)) H2.objs.size s H fp) [] (ZaX own fr σ) H' s9/\tn i s9.heap/\(∀ b∈fp,H' b=none)/\W i m ys H':=by
    intro s9 σ9 H9 zs I9 hσ ⟨m',hm,w9⟩
    refine ⟨m',hm,i+1,zs,H9,(I9.sub_pins (λp hp=>absurd (show p∈([]:List (Addr×Obj)) from hp) (by simp))).weak ?_ hσ,T.keep _ _ _ st6 λb hb o e=>(I9.pin (b,o) (List.mem_append_right _ (List.mem_append_right _ (Za3 hb e)))).1,λb hb=>?_,w9⟩
    ·rw [I9.len];exact ZbC own fr σ
    ·obtain ⟨o,e,d⟩:=T.obj _ _ st6 b hb
     exact (I9.pin (b,o) (List.mem_append_right _ (List.mem_append_right _ (Za3 hb e)))).2.1
   cases ok with
   | false=>exact (if_neg Bool.false_ne_true).mpr (again I8 (Za4 k7) (hN _ _ ((if_neg Bool.false_ne_true).mp q8)))
   | true=>
    refine (if_pos rfl).mpr ?_
    have q8':=(if_pos rfl).mp q8
    refine thn (he H2.objs.size s H fp _ pass _ s8 σ7 H8 _ I8.toR q8') λy s9 ⟨yv,H9,I9,r9,hD9,hz,q9⟩=>?_
    have I9:=I9.ofR
    refine thn (Zbf _ s9 σ7 H9 (.ref s.heap.objs.size) [yv] (.ref s.heap.objs.size) [y] (λ_ H'=>H'=upd H9 s.heap.objs.size (.lst (ys++[yv]))) I9 rfl (.cons r9 .nil) ⟨_,ys,yv,rfl,rfl,hD9,hz,rfl⟩) λ_ s10 ⟨_,H10,I10,_,e10⟩=>?_
    subst e10
    exact again I10 (Za4 k7) (hN _ _ q9)
 exact codeAny_compStart_list (loop _ ⟨_,rfl⟩) (T.self _ 0 _ _ _ st1 (loop _ ⟨_,rfl⟩))
end
end L2
namespace L2
open PySem PySem.Spec PyProof.Rows
section
variable {M:Model} {A:Around} {E:Value->Shared->Prop} {s:Shared}
def ZbQ (B:Heap) (l:List Env) (e:Addr) (cls a0:Value) (h:Heap):Prop:=B.StaysIn h/\B.get? e=none/\h.FunFrames B l/\∃ fl,h.TracedAtW B e cls a0 fl
theorem Zb3 {B:Heap} {env:Env} {outer:List Env} {L e:Addr} {cls a0:Value} {Q:Unit->Shared->Prop} (hfr:A.frames=some (env::outer)) (hf:env.frame=some L) (h:ZbQ B (env::outer) e cls a0 s.heap)
  (hQ:∀ h',Heap.HeldW B (env::outer) e cls a0 L h'->s.heap.UpToSlots h'->Q () { s with heap:=h' }):wpAny M A (noteFrame (.ref e) env) Q E s:=by
 obtain ⟨f1,f2,f3,fl,tr⟩:=h
 by_cases hfl:fl=rawInt L
 ·subst hfl
  exact wpAny_noteFrame_againW hf tr (hQ s.heap ⟨f1,f2,f3,tr⟩ (Heap.UpToSlots.refl _))
 ·obtain ⟨oe,vs,T,oT,ts,he,⟨hcl,h0⟩,hd,h1,hnT,hTe,hT,hdT,h3⟩:=tr
  have ne:(fl == rawInt L)=false:=by simpa using hfl
  have l3:=(Array.getElem?_eq_some_iff.mp h3).1
  unfold noteFrame
  simp only [hf]
  have hTn:(Value.ref T != Value.none)=true:=by simp
  have B1:Heap.SameBut T s.heap (s.heap.update T (Obj.mapFields λx=>x.setIfInBounds 3 Value.none)):=Heap.SameBut.update ..
  have rec_:∀ b o,s.heap.get? b=some o->(∀ vs,o.data≠.fields vs)->b≠T:=λb o hb n z=>by
   subst z
   rw [hT] at hb
   cases hb
   exact n ts hdT
  have up:∀ b o,s.heap.get? b=some o->b≠T->(s.heap.update T (Obj.mapFields λx=>x.setIfInBounds 3 Value.none)).get? b=some o:=λb o hb n=>(B1.2 b n).trans hb
  refine wpAny_bind (wpAny_field he hd h1 ?_)
  rw [hTn]
  refine (if_pos rfl).symm▸wpAny_bind (wpAny_field hT hdT h3 ?_)
  rw [ne]
  refine wpAny_bind (wpAny_setField hT hdT l3 ?_)
  cases hcl
  refine wpAny_entryW hfr (f3.of_keeps λb o hb n=>⟨o,up b o hb (rec_ b o hb n),rfl⟩) hf (up _ _ he hTe.symm) (λb o hb=>up b o (f1 b o hb) λz=>by rw [z,hnT] at hb;cases hb) f2 hd (Array.getElem?_eq_some_iff.mp h1).1 h0 λh' ⟨x1,x2,x3,x4⟩=>hQ h' ⟨x1,f2,x2,x3⟩ λb o hb n=>x4 b o (up b o hb (rec_ b o hb n)) n
theorem HeldW.aloft {B h:Heap} {l:List Env} {e L:Addr} {cls a0:Value} (x:Heap.HeldW B l e cls a0 L h):ZbQ B l e cls a0 h:=⟨x.1,x.2.1,x.2.2.1,_,x.2.2.2⟩
theorem FlyingW.aloft {B h:Heap} {l:List Env} {e:Addr} {cls a0:Value} (x:Heap.FlyingW B l e cls a0 h):ZbQ B l e cls a0 h:=⟨x.1,x.2.1,x.2.2.1,_,x.2.2.2⟩
theorem Zcy {B:Heap} {l:List Env} {e:Addr} {cls a0:Value} {fr:Option Addr} {Q:Unit->Shared->Prop} (h:ZbQ B l e cls a0 s.heap) (hQ:∀ h',ZbQ B l e cls a0 h'->s.heap.UpToSlots h'->Q () { s with heap:=h' }):wpAny M A (setFlight (.ref e) fr) Q E s:=by
 obtain ⟨f1,f2,f3,fl,oe,vs,T,oT,ts,he,hcl,hd,h1,hnT,hTe,hT,hdT,h3⟩:=h
 have l3:=(Array.getElem?_eq_some_iff.mp h3).1
 have hTn:(Value.ref T != Value.none)=true:=by simp
 unfold setFlight
 refine wpAny_bind (wpAny_field he hd h1 ?_)
 rw [hTn]
 refine (if_pos rfl).symm▸wpAny_setField hT hdT l3 ?_
 generalize hv:(fr.elim Value.none λf=>rawInt f)=v
 have B1:Heap.SameBut T s.heap (s.heap.update T (Obj.mapFields λx=>x.setIfInBounds 3 v)):=Heap.SameBut.update ..
 have rec_:∀ b o,s.heap.get? b=some o->(∀ vs,o.data≠.fields vs)->b≠T:=λb o hb n z=>by
  subst z
  rw [hT] at hb
  cases hb
  exact n ts hdT
 have up:∀ b o,s.heap.get? b=some o->b≠T->(s.heap.update T (Obj.mapFields λx=>x.setIfInBounds 3 v)).get? b=some o:=λb o hb n=>(B1.2 b n).trans hb
 refine hQ _ ⟨λb o hb=>up b o (f1 b o hb) (λz=>by rw [z,hnT] at hb;cases hb),f2,f3.of_keeps λb o hb n=>⟨o,up b o hb (rec_ b o hb n),rfl⟩,v,oe,vs,T,_,_,up _ _ he hTe.symm,hcl,hd,h1,hnT,hTe,Heap.get?_update_self _ hT (Obj.isFreed_of_fields (Obj.data_mapFields hdT _)),Obj.data_mapFields hdT _,by simp [l3]⟩ λb o hb n=>⟨o.slots,up b o hb (rec_ b o hb n)⟩
theorem ZcP {α:Type} {B:Heap} {l:List Env} {e:Addr} {cls a0:Value} {what:String} {env:Env} {Q:α->Shared->Prop} (h:ZbQ B l e cls a0 s.heap) (hE:∀ h',ZbQ B l e cls a0 h'->s.heap.UpToSlots h'->E (.ref e) { s with heap:=h' }):wpAny M A (PySem.passOn what (.ref e) env:Sem α) Q E s:=by
 obtain ⟨f1,f2,f3,fl,oe,vs,T,r⟩:=id h
 have hTn:(Value.ref T == Value.none)=false:=by simp
 unfold PySem.passOn
 refine wpAny_bind (wpAny_field r.choose_spec.choose_spec.1 r.choose_spec.choose_spec.2.2.1 r.choose_spec.choose_spec.2.2.2.1 ?_)
 rw [hTn]
 exact wpAny_bind (Zcy h λh' a b=>wpAny_throw (hE h' a b))
end
end L2
namespace L2
open PySem PySem.Spec PyProof.Rows
section
variable {X:Cx} {target iter elt:Expr} {ifs:List Expr} {scope:Scope} {cl:List (Str×Addr)} {own:List Str} {fr:List (Str×Nat)} {pos:Pos} {wi:TI} {g:TG} {tc:TT} {te:TE}
def Za2 (X:Cx) (E:XK):Prop:=∀ (pins:List (Addr×Obj)) (σ:St) (H':Hp) (s':Shared) (a Cc t:Addr) (B:Heap),ZbQ B (X.env::X.outer) a (.ref Cc) (.ref t) s'.heap ->
 (∀ h2 tk,B.StaysIn h2->s'.heap.UpToSlots h2->Inv X pins σ H' { s' with heap:=h2,toks:=tk })->(∀ b o,s'.heap.get? b=some o->H' b≠none->B.get? b=some o)->(∀ b o0 o,b ∉ X.ex->X.s₀.heap.get? b=some o0->s'.heap.get? b=some o->b ∉ frs (X.env::X.outer)->B.get? b=some o)->E (.ref Cc) none H'->X.xe (.ref a) s'
theorem Zf7 {pins:List (Addr×Obj)} {σ:St} {H H':Hp} {s s':Shared} {fp:List Addr} {B:Heap} {C:Addr} (I:Inv X pins σ H s) (hf:∀ b∈fp,Zen X pins H b) (hC:s.heap.objs.size<=C) (hCf:H' C=none) (un:Un (frs X.stack) fp H H' s.heap s'.heap) (hok:HOk X.prog X.w H' s'.heap) (bare:AllBare s'.gens) (os:s'.os=s.os)
  (trk:∀ b o,s'.heap.get? b=some o->H' b≠none->B.get? b=some o) (old:∀ b o0 o,b ∉ fp->s.heap.get? b=some o0->s'.heap.get? b=some o->b ∉ frs X.stack->B.get? b=some o) (ff:s'.heap.FunFrames B X.stack) {h2:Heap} {tk:Nat} (st:(PySem.W.hideAll B [C]).StaysIn h2) (sm:∀ b o,b≠C->s'.heap.get? b=some o->(∀ vs,o.data≠.fields vs)->∃ sl,h2.get? b=some { o with slots:=sl }):Inv X pins σ H' { s' with heap:=h2,toks:=tk }:=by
 have ne:∀ b o,s.heap.get? b=some o->b≠C:=λb o e=>Nat.ne_of_lt (Nat.lt_of_lt_of_le (Heap.lt_size e) hC)
 have toB:∀ b o,b≠C->B.get? b=some o->h2.get? b=some o:=λb o n e=>st b o (PySem.W.hideAll_get _ e (by simpa using n))
 refine ZbW (s':={ s' with heap:=h2,toks:=tk }) I hf ⟨λb o e n hb hx=>toB b o (ne b o e) (old b o o hx e (un.keep b o e n hb hx) hb),λb o e n hb hx=>?_,un.free,λb o e hx=>?_,un.tups,un.frzs,un.tbls⟩ (λb u e=>?_) bare os
 ·obtain ⟨sl,e1⟩:=un.slot b o e n hb hx
  obtain ⟨_,o',ho',hnf⟩:=ff.mem hb
  rw [e1] at ho';cases ho'
  obtain ⟨sl',e2⟩:=sm b _ (ne b o e) e1 hnf
  exact ⟨sl',e2⟩
 ·obtain ⟨o1,e1⟩:=un.there b o e hx
  by_cases hb:b∈frs X.stack
  ·obtain ⟨_,o',ho',hnf⟩:=ff.mem hb
   rw [e1] at ho';cases ho'
   obtain ⟨sl',e2⟩:=sm b _ (ne b o e) e1 hnf
   exact ⟨_,e2⟩
  ·exact ⟨o1,toB b o1 (ne b o e) (old b o o1 hx e e1 hb)⟩
 ·refine (hok b u e).stay (λc v hc q=>toB c v ?_ (trk c v q ?_)) (λ_ q=>q) λ_ _ q=>q
  ·rintro rfl
   rcases hc with z | z
   ·rw [<-z,hCf] at e;cases e
   ·rw [hCf] at z;cases z
  ·rcases hc with z | z
   ·rw [z,e];simp
   ·rw [z];simp
theorem Zf8 {EK:XK} (hc:X.calm=true) (S:Za7 X scope cl own fr) (hst:X.stack=X.env::X.outer) (hfr:X.env.frame=some X.env.locals) (hR:Za2 X EK) (hi:PI X target iter wi)
  (hg:∀ C s H fp,PG (X.comp scope cl (own++fr.map (·.1)) C s H fp) target g) (ht:∀ C s H fp,ZhE (X.comp scope cl (own++fr.map (·.1)) C s H fp) ifs tc) (he:∀ C s H fp YE,Zcp (CXr X.prog X.w) (X.compR scope cl (own++fr.map (·.1)) C s H fp YE) EK->PE (X.compR scope cl (own++fr.map (·.1)) C s H fp YE) elt te)
  (hs:∀ x,foldedSetIterable iter X.env x=pure x:=by intro _;rfl):PE X (.ListComp elt [⟨target,iter,ifs,0⟩] scope pos) (Zh2 wi g tc te own fr):=by
 intro pins s σ H Q I h
 rw [eval_ListComp]
 refine wpAny_comprehension_free (use:=none) rfl hs S.clos S.kind S.names (thn (hi pins s σ H _ I h) λv s1 h1=>thn h1 λitv s2 h2=>?_)
 obtain ⟨it,fp,tn,J,H2,e,I2,T,st2,f2,hw⟩:=h2
 subst e
 refine ZdX (RR:=λacc C=>compPost (model X.prog X.w) X.A X.xe none (EP X pins σ Q) acc C) hc S I2 T st2 f2 hg ht he hst hfr hw ?_ ?_
 ·rintro D C s' H' hC hDC ⟨m,hn⟩ hCf un hok bare os q
  refine ⟨m,hn,λh' hs'=>⟨.ref D,H',?_,rfl,q⟩⟩
  exact Zd7 (C:=C) (σ:=σ) I2 hC hCf (ZbW I2 f2 un hok bare os) hs'
 ·rintro D C s' H' a Cc t B hC hDC ⟨m,hn⟩ hCf un hok bare os held trk old q
  refine ⟨m,hn,λh' hs' cenv _=>?_⟩
  obtain ⟨b1,b2,b3,oe,vs,T',oT,ts,he',hcl,hd,h1,hnT,hTe,hT,hdT,h3⟩:=id held
  obtain ⟨oC,es,ep,hoC,hdC,_⟩:=id hn
  have aC:a≠C:=λz=>by rw [z,hoC] at he';cases he';rw [hdC] at hd;cases hd
  have tC:T'≠C:=λz=>by rw [z,hoC] at hT;cases hT;rw [hdC] at hdT;cases hdT
  have kp:∀ b o,b≠C->s'.heap.get? b=some o->h'.get? b=some o:=λb o n e=>(hs'.2 b n).trans e
  have hid:∀ b o,(PySem.W.hideAll B [C]).get? b=some o->B.get? b=some o/\b≠C:=λb o e=>⟨PySem.W.of_hideAll _ e,λz=>by rw [z,PySem.W.hideAll_none _ (by simp)] at e;cases e⟩
  have hidN:∀ b,B.get? b=none->(PySem.W.hideAll B [C]).get? b=none:=λb n=>by
   cases z:(PySem.W.hideAll B [C]).get? b with
   | none=>rfl
   | some o=>rw [(hid b o z).1] at n;cases n
  have ffC:∀ {l:List Env},s'.heap.FunFrames B l->(∀ b∈frs l,b≠C)->h'.FunFrames (PySem.W.hideAll B [C]) l:=by
   intro l
   induction l with
   | nil=>exact λ_ _=>trivial
   | cons env rest ih=>
    rintro ⟨k1,⟨L,o,k2,k3,k4,k5⟩,k6⟩ hne
    exact ⟨k1,⟨L,o,k2,hidN _ k3,kp L o (hne L (List.mem_filterMap.mpr ⟨env,List.mem_cons_self ..,k2⟩)) k4,k5⟩,ih k6 λb hb=>hne b (by
     obtain ⟨e,he,h⟩:=List.mem_filterMap.mp hb
     exact List.mem_filterMap.mpr ⟨e,List.mem_cons_of_mem _ he,h⟩)⟩
  have neF:∀ b∈frs (X.env::X.outer),b≠C:=λb hb=>by
   have ff:=I2.stack
   rw [hst] at ff
   obtain ⟨_,o,ho,_⟩:=ff.mem hb
   exact Nat.ne_of_lt (Nat.lt_of_lt_of_le (Heap.lt_size ho) hC)
  have al:ZbQ (PySem.W.hideAll B [C]) (X.env::X.outer) a (.ref Cc) (.ref t) h':=⟨λb o e=>kp b o (hid b o e).2 (b1 b o (hid b o e).1),hidN _ b2,ffC b3 neF,_,oe,vs,T',oT,ts,kp _ _ aC he',hcl,hd,h1,hidN _ hnT,hTe,kp _ _ tC hT,hdT,h3⟩
  refine ZcP (s:={ s' with heap:=h' }) al λh2 al2 sm2=>?_
  have sm2:h'.UpToSlots h2:=sm2
  refine hR pins σ H' { s' with heap:=h2 } a Cc t (PySem.W.hideAll B [C]) al2 (λh3 tk st3 sm3=>?_) (λb o e n=>?_) (λb o0 o hx e0 e nb=>?_) q
  ·exact Zf7 (s':=s') I2 f2 hC hCf un hok bare os trk old (hst▸b3) st3 λb o n e1 e2=>(sm2.trans sm3) b o (kp b o n e1) e2
  ·cases z:H' b with
   | none=>exact absurd z n
   | some u=>
    obtain ⟨v,hv⟩:=(hok b u z).there
    have hB:=PySem.W.hideAll_get [C] (trk b v hv n) (by rintro y;rw [List.mem_singleton.mp y,hCf] at z;cases z)
    have e':=al2.1 b v hB
    have e:h2.get? b=some o:=e
    rw [e] at e'
    cases e'
    exact hB
  ·obtain ⟨o1,e1⟩:=I2.base.there b o0 e0 hx
   have hfb:b ∉ fp:=λz=>by
    rcases (f2 b z).2.2.2.1 with y | y
    ·exact hx y
    ·exact absurd (Heap.lt_size e0) (Nat.not_lt_of_le y)
   obtain ⟨o2,e2⟩:=un.there b o1 e1 hfb
   have hB:=PySem.W.hideAll_get [C] (old b o1 o2 hfb e1 e2 (hst▸nb)) (by rintro y;rw [List.mem_singleton.mp y] at e1;exact absurd (Heap.lt_size e1) (Nat.not_lt_of_le hC))
   have e':=al2.1 b o2 hB
   have e:h2.get? b=some o:=e
   rw [e] at e'
   cases e'
   exact hB
end
end L2
namespace L2
open PySem PySem.Spec PyProof.Rows
theorem Zb9 {P:Program} {w:World} {K:PySem.W.Frag} {mg:Str->Option Value} {base:Heap} {N:List Str} {qual:Str} {scope:Scope} {f:Addr} {cd:Value} {A:Around} {outer:List Env} {s:Shared} {H:Hp} {E:XK} :
  Za2 (ZeA (CXr P w) P w K mg base N qual scope f cd A outer s H E) E:=by
 intro pins σ H1 s1 a C t B al at_ trk old hE
 have I1:=at_ s1.heap s1.toks al.1 (Heap.UpToSlots.refl _)
 show wpAny (model P w) _ (leaving _ (.ref a)) _ _ s1
 unfold leaving
 refine wpAny_bind (Zb3 I1.ok.frames rfl al λh4 held sm4=>wpAny_landsW held λh5 fl5 sm5=>?_)
 have I5:=at_ h5 s1.toks fl5.1 (sm4.trans sm5)
 obtain ⟨k1,k2,⟨_,_,k3⟩,k4⟩:=fl5
 refine ⟨a,C,H1,rfl,⟨t,B,I5.os,I5.bare,I5.base,I5.hok,⟨k1,k2,k3,k4⟩,λb o e n=>?_,λb o0 o e0 e nb=>?_⟩,hE⟩
 ·cases z:H1 b with
  | none=>exact absurd z n
  | some u=>
   obtain ⟨v,hv⟩:=(I1.hok b u z).there
   have hB:=trk b v hv n
   have e':=k1 b v hB
   have e:h5.get? b=some o:=e
   rw [e] at e'
   cases e'
   exact hB
 ·obtain ⟨o1,e1⟩:=I1.base.there b o0 e0 (by intro z;exact absurd (show b∈([]:List Addr) from z) (by simp))
  have hB:=old b o0 o1 (by intro z;exact absurd (show b∈([]:List Addr) from z) (by simp)) e0 e1 λz=>by
   rcases List.mem_cons.mp (I1.stkSub b z) with q | q
   ·exact absurd (Heap.lt_size e0) (by rw [q];exact Nat.lt_irrefl _)
   ·exact nb q
  have e':=k1 b o1 hB
  have e:h5.get? b=some o:=e
  rw [e] at e'
  cases e'
  exact hB
section
variable {X:Cx}
def Zio (X:Cx) (pins:List (Addr×Obj)) (D:Zdm) (hs:List ExceptHandler):Value->Shared->Prop:=λe s1=>
 wpAny (model X.prog X.w) X.A (noteFrame e X.env) (λ_ s2=>wpAny (model X.prog X.w) X.A (setFlight e none) (λ_ s3=>wpAny (model X.prog X.w) X.A (handleBy e X.env hs) (SP X pins D) X.xe s3) X.xe s2) X.xe s1
def Cx.tryX (X:Cx) (YE:Value->Shared->Prop):Cx:={ X with xe:=YE }
theorem Inv.toT {YE:Value->Shared->Prop} {pins:List (Addr×Obj)} {σ:St} {H:Hp} {s:Shared} (I:Inv X pins σ H s):Inv (X.tryX YE) pins σ H s:=
 ⟨⟨I.ok.mod,I.ok.kind,I.ok.glob,I.ok.blt,I.ok.above,I.ok.inj,I.ok.has,I.ok.cab,I.ok.hd,I.ok.frames,I.ok.stk,I.ok.exf,I.ok.bs,I.ok.bsz,I.ok.noex,I.ok.exfs,I.ok.funs,I.ok.frf⟩,I.os,I.bare,I.base,I.loc,I.cell,I.free,I.freeC,I.pin,I.hok,I.len⟩
theorem Inv.ofT {YE:Value->Shared->Prop} {pins:List (Addr×Obj)} {σ:St} {H:Hp} {s:Shared} (I:Inv (X.tryX YE) pins σ H s):Inv X pins σ H s:=
 ⟨⟨I.ok.mod,I.ok.kind,I.ok.glob,I.ok.blt,I.ok.above,I.ok.inj,I.ok.has,I.ok.cab,I.ok.hd,I.ok.frames,I.ok.stk,I.ok.exf,I.ok.bs,I.ok.bsz,I.ok.noex,I.ok.exfs,I.ok.funs,I.ok.frf⟩,I.os,I.bare,I.base,I.loc,I.cell,I.free,I.freeC,I.pin,I.hok,I.len⟩
theorem Zip {EK:XK} {W:Addr} {wx:Str} {np hpos:Pos} {nm:Option Str} {body:List Stmt} {pins:List (Addr×Obj)} {D:Zdm} (hfr:X.env.frame=some X.env.locals) (hst:X.stack=X.env::X.outer) (hgW:Gl X wx) (hmW:X.mg wx=some (.ref W)) (hbE:PySem.W.subIn X.K (.ref W) (.type "BaseException")=some true) (hR:Za2 X EK)
  (no:∀ C H,EK (.ref C) none H->PySem.W.kitCls X.K (.ref C) (.ref W)=some false) (hdb:(wx == ("__debug__" : Str))=false:=by decide):Za2 (X.tryX (Zio X pins D [.ExceptHandler (some (.Name wx np)) nm body hpos])) EK:=by
 intro pins' σ H1 s1 a C t B al at_ trk old hE
 have at2:∀ h2 tk,B.StaysIn h2->s1.heap.UpToSlots h2->Inv X pins' σ H1 { s1 with heap:=h2,toks:=tk }:=λh2 tk a b=>(at_ h2 tk a b).ofT
 have I1:=at2 s1.heap s1.toks al.1 (Heap.UpToSlots.refl _)
 have afr:=I1.ok.frames
 rw [hst] at afr
 refine Zb3 (env:=X.env) (outer:=X.outer) afr hfr al λh4 held sm4=>?_
 refine Zcy (HeldW.aloft held) λh5 al5 sm5=>?_
 have sm5:h4.UpToSlots h5:=sm5
 have I5:=at2 h5 s1.toks al5.1 (sm4.trans sm5)
 obtain ⟨_,_,_,_,oe,vs,T,oT,ts,he,hcl,hd,_⟩:=id al5
 refine wpAny_handleBy_cons (codeAny_handlers_test ?_) (by intro q;cases q)
 refine Zbu (X:=X.inExc a) (I5.inExc a) hgW hmW ?_ hdb
 refine Zct (b:=false) I5.kIn ⟨oe,vs,he,hcl.1,hd⟩ (no C H1 hE) hbE ?_
 refine wpAny_handleBy_nil (ZcP al5 λh6 al6 sm6=>?_)
 have sm6:h5.UpToSlots h6:=sm6
 refine hR pins' σ H1 { s1 with heap:=h6 } a C t B al6 (λh2 tk a b=>at2 h2 tk a ((sm4.trans (sm5.trans sm6)).trans b)) (λb o e n=>?_) (λb o0 o hx e0 e nb=>?_) hE
 ·cases z:H1 b with
  | none=>exact absurd z n
  | some u=>
   obtain ⟨v,hv⟩:=(I1.hok b u z).there
   have hB:=trk b v hv n
   have e':=al6.1 b v hB
   have e:h6.get? b=some o:=e
   rw [e] at e'
   cases e'
   exact hB
 ·obtain ⟨o1,e1⟩:=I1.base.there b o0 e0 hx
  have hB:=old b o0 o1 hx e0 e1 nb
  have e':=al6.1 b o1 hB
  have e:h6.get? b=some o:=e
  rw [e] at e'
  cases e'
  exact hB
end
end L2
namespace L2
open PySem
theorem Zde {M:Model} {Γ:Ctx} {p:Pos} {t:Sem PySem.Fin} {fs:List Frame} {s s':Shared} {e:End} (h:Runs M Γ p t fs s e s') :
  ∀ {e2:End} {s2:Shared},Runs M Γ p t fs s e2 s2->e=e2/\s'=s2:=by
 induction h with
 | done=>intro e2 s2 h2;cases h2;exact ⟨rfl,rfl⟩
 | raise=>intro e2 s2 h2;cases h2;exact ⟨rfl,rfl⟩
 | yield=>intro e2 s2 h2;cases h2;exact ⟨rfl,rfl⟩
 | again q _ ih=>intro e2 s2 h2;cases h2 with | again _ h=>exact ih h
 | rule _ ih=>intro e2 s2 h2;cases h2 with | rule h=>exact ih h
 | «at» _ ih=>intro e2 s2 h2;cases h2 with | «at» h=>exact ih h
 | load o _ ih=>
  intro e2 s2 h2
  cases h2 with
  | load o' h=>
   rw [o] at o';cases o'
   exact ih h
 | update _ _ ih=>intro e2 s2 h2;cases h2 with | update _ h=>exact ih h
 | loadIfAlive _ ih=>intro e2 s2 h2;cases h2 with | loadIfAlive h=>exact ih h
 | point _ ih=>intro e2 s2 h2;cases h2 with | point h=>exact ih h
 | alloc _ ih=>intro e2 s2 h2;cases h2 with | alloc h=>exact ih h
 | fresh _ ih=>intro e2 s2 h2;cases h2 with | fresh h=>exact ih h
 | ask _ ih=>intro e2 s2 h2;cases h2 with | ask h=>exact ih h
 | choose _ _ ih=>intro e2 s2 h2;cases h2 with | choose _ h=>exact ih h
 | os _ ih=>intro e2 s2 h2;cases h2 with | os h=>exact ih h
 | handled _ ih=>intro e2 s2 h2;cases h2 with | handled h=>exact ih h
 | genState o _ ih=>
  intro e2 s2 h2
  cases h2 with
  | genState o' h=>
   rw [o] at o';cases o'
   exact ih h
 | stack _ ih=>intro e2 s2 h2;cases h2 with | stack h=>exact ih h
 | thread _ ih=>intro e2 s2 h2;cases h2 with | thread h=>exact ih h
 | newGen _ ih=>intro e2 s2 h2;cases h2 with | newGen h=>exact ih h
 | call _ _ ih1 ih2=>
  intro e2 s2 h2
  cases h2 with
  | call h3 h4=>
   obtain ⟨q,rfl⟩:=ih1 h3
   cases q
   exact ih2 h4
  | callSusp h3=>exact absurd (ih1 h3).1 (by intro z;cases z)
 | callSusp _ ih=>
  intro e2 s2 h2
  cases h2 with
  | call h3 h4=>exact absurd (ih h3).1 (by intro z;cases z)
  | callSusp h3=>
   obtain ⟨q,rfl⟩:=ih h3
   cases q
   exact ⟨rfl,rfl⟩
 | resumeFresh g _ _ _ ih1 ih2=>
  intro e2 s2 h2
  cases h2 with
  | resumeFresh g' h3 _ h4=>
   rw [g] at g';cases g'
   obtain ⟨rfl,rfl⟩:=ih1 h3
   exact ih2 h4
  | resumeSuspended g'=>rw [g] at g';cases g'
  | resumeJustStarted g' n=>exact absurd rfl n
  | resumeRunning g'=>rw [g] at g';cases g'
  | resumeFinished g'=>rw [g] at g';cases g'
 | resumeSuspended g _ _ _ ih1 ih2=>
  intro e2 s2 h2
  cases h2 with
  | resumeSuspended g' h3 _ h4=>
   rw [g] at g';cases g'
   obtain ⟨rfl,rfl⟩:=ih1 h3
   exact ih2 h4
  | resumeFresh g'=>rw [g] at g';cases g'
  | resumeJustStarted g'=>rw [g] at g';cases g'
  | resumeThrowFresh g'=>rw [g] at g';cases g'
  | resumeRunning g'=>rw [g] at g';cases g'
  | resumeFinished g'=>rw [g] at g';cases g'
 | resumeJustStarted g n _ ih=>
  intro e2 s2 h2
  cases h2 with
  | resumeJustStarted g' _ h=>exact ih h
  | resumeFresh g'=>exact absurd rfl n
  | resumeSuspended g'=>rw [g] at g';cases g'
  | resumeRunning g'=>rw [g] at g';cases g'
  | resumeFinished g'=>rw [g] at g';cases g'
 | resumeThrowFresh g _ ih=>
  intro e2 s2 h2
  cases h2 with
  | resumeThrowFresh g' h=>exact ih h
  | resumeSuspended g'=>rw [g] at g';cases g'
  | resumeRunning g'=>rw [g] at g';cases g'
  | resumeFinished g'=>rw [g] at g';cases g'
 | resumeRunning g _ ih=>
  intro e2 s2 h2
  cases h2 with
  | resumeRunning g' h=>exact ih h
  | resumeFresh g'=>rw [g] at g';cases g'
  | resumeSuspended g'=>rw [g] at g';cases g'
  | resumeJustStarted g'=>rw [g] at g';cases g'
  | resumeThrowFresh g'=>rw [g] at g';cases g'
  | resumeFinished g'=>rw [g] at g';cases g'
 | resumeFinished g _ ih=>
  intro e2 s2 h2
  cases h2 with
  | resumeFinished g' h=>exact ih h
  | resumeFresh g'=>rw [g] at g';cases g'
  | resumeSuspended g'=>rw [g] at g';cases g'
  | resumeJustStarted g'=>rw [g] at g';cases g'
  | resumeThrowFresh g'=>rw [g] at g';cases g'
  | resumeRunning g'=>rw [g] at g';cases g'
 | segRet _ _ ih1 ih2=>
  intro e2 s2 h2
  cases h2 with
  | segRet h3 h4=>
   obtain ⟨q,rfl⟩:=ih1 h3
   cases q
   exact ih2 h4
  | segSuspOut _ h3=>exact absurd (ih1 h3).1 (by intro z;cases z)
  | segSuspGen _ h3=>exact absurd (ih1 h3).1 (by intro z;cases z)
 | segGen _ _ ih1 ih2=>
  intro e2 s2 h2
  cases h2 with
  | segGen h3 h4=>
   obtain ⟨q,rfl⟩:=ih1 h3
   cases q
   exact ih2 h4
  | segSuspOut _ h3=>exact absurd (ih1 h3).1 (by intro z;cases z)
  | segSuspGen _ h3=>exact absurd (ih1 h3).1 (by intro z;cases z)
 | segSuspOut n _ ih=>
  intro e2 s2 h2
  cases h2 with
  | segRet h3=>exact absurd (ih h3).1 (by intro z;cases z)
  | segGen h3=>exact absurd (ih h3).1 (by intro z;cases z)
  | segSuspOut _ h3=>
   obtain ⟨q,rfl⟩:=ih h3
   cases q
   exact ⟨rfl,rfl⟩
  | segSuspGen n' h3=>rw [n] at n';cases n'
 | segSuspGen n _ _ _ ih1 ih2=>
  intro e2 s2 h2
  cases h2 with
  | segRet h3=>exact absurd (ih1 h3).1 (by intro z;cases z)
  | segGen h3=>exact absurd (ih1 h3).1 (by intro z;cases z)
  | segSuspOut n' h3=>rw [n] at n';cases n'
  | segSuspGen n' h3 _ h4=>
   rw [n] at n';cases n'
   obtain ⟨q,rfl⟩:=ih1 h3
   cases q
   exact ih2 h4
theorem Zfu {M:Model} {Γ:Ctx} {p:Pos} {g:Nat} {r:Resume} {s s1 s2:Shared} {a b:GenResult} (h1:Wakes M Γ p g r s a s1) (h2:Wakes M Γ p g r s b s2):a=b/\s1=s2:=by
 unfold Wakes at h1 h2
 split at h1
 ·exact h1.elim
 ·split at h1
  ·obtain ⟨e1,t1,r1,_,rfl,rfl⟩:=h1
   simp only [*] at h2
   obtain ⟨e2,t2,r2,_,rfl,rfl⟩:=h2
   obtain ⟨rfl,rfl⟩:=Zde r1 r2
   exact ⟨rfl,rfl⟩
  ·obtain ⟨rfl,rfl⟩:=h1
   simp only [*] at h2
   exact ⟨h2.1.symm,h2.2.symm⟩
  ·obtain ⟨rfl,rfl⟩:=h1
   simp only [*] at h2
   obtain ⟨rfl,rfl⟩:=h2
   exact ⟨rfl,rfl⟩
 ·obtain ⟨e1,t1,r1,_,rfl,rfl⟩:=h1
  simp only [*] at h2
  obtain ⟨e2,t2,r2,_,rfl,rfl⟩:=h2
  obtain ⟨rfl,rfl⟩:=Zde r1 r2
  exact ⟨rfl,rfl⟩
 ·obtain ⟨rfl,rfl⟩:=h1
  simp only [*] at h2
  obtain ⟨rfl,rfl⟩:=h2
  exact ⟨rfl,rfl⟩
 ·obtain ⟨rfl,rfl⟩:=h1
  simp only [*] at h2
  obtain ⟨rfl,rfl⟩:=h2
  exact ⟨rfl,rfl⟩
theorem Zhd {α:Type} {M:Model} {Γ:Ctx} (t:Sem α):∀ {Q Q':α->Pos->Shared->Prop} {E E':Value->Pos->Shared->Prop} {p:Pos} {s:Shared},Sem.wp M Γ t Q E p s->Sem.wp M Γ t Q' E' p s ->
  Sem.wp M Γ t (λa p s=>Q a p s/\Q' a p s) (λa p s=>E a p s/\E' a p s) p s:=by
 induction t with
 | pure x=>intro Q Q' E E' p s h1 h2;exact ⟨h1,h2⟩
 | raise v=>intro Q Q' E E' p s h1 h2;exact ⟨h1,h2⟩
 | unsupported | finish | yield | fork | await | register=>intro Q Q' E E' p s h1 h2;exact h1.elim
 | rule _ k ih | «at» _ k ih | alloc _ k ih | loadIfAlive _ k ih | point _ k ih | fresh k ih | ask k ih | os _ _ k ih | handled _ k ih | newGen _ k ih | stack k ih | thread k ih=>intro Q Q' E E' p s h1 h2;exact ih _ h1 h2
 | load a _ k ih | genState a k ih=>
  intro Q Q' E E' p s h1 h2
  obtain ⟨o,ho,h1⟩:=h1
  obtain ⟨o',ho',h2⟩:=h2
  rw [ho] at ho';cases ho'
  exact ⟨o,ho,ih _ h1 h2⟩
 | update a _ f k ih | choose _ _ k ih=>intro Q Q' E E' p s h1 h2;exact ⟨h1.1,ih _ h1.2 h2.2⟩
 | call c h g l k ih=>
  intro Q Q' E E' p s h1 h2
  obtain ⟨r,s1,w1,h1⟩:=h1
  obtain ⟨r',s1',w2,h2⟩:=h2
  obtain ⟨q,rfl⟩:=Zde w1 w2
  cases q
  exact ⟨r,s1,w1,ih _ h1 h2⟩
 | resume g r l k ih=>
  intro Q Q' E E' p s h1 h2
  obtain ⟨r,s1,w1,h1⟩:=h1
  obtain ⟨r',s1',w2,h2⟩:=h2
  obtain ⟨rfl,rfl⟩:=Zfu w1 w2
  exact ⟨_,_,w1,ih _ h1 h2⟩
theorem Zbj {α:Type} {M:Model} {A:Around} {t:Sem α} {Q Q':α->Shared->Prop} {E E':Value->Shared->Prop} {s:Shared} (h1:wpAny M A t Q E s) (h2:wpAny M A t Q' E' s) :
  wpAny M A t (λa s=>Q a s/\Q' a s) (λa s=>E a s/\E' a s) s:=λΓ p hΓ=>Zhd t (h1 Γ p hΓ) (h2 Γ p hΓ)
end L2
namespace L2
open PySem PySem.Spec PyProof.Rows
section
variable {M:Model} {A:Around} {E:Value->Shared->Prop} {s:Shared}
def Ctx0 (e:Addr) (h:Heap):Prop:=∃ ob vs,h.get? e=some ob/\ob.data=.fields vs/\vs[2]?=some .none
theorem Ctx0.upd {e T:Addr} {h:Heap} {f:Array Value->Array Value} (x:Ctx0 e h) (n:e≠T):Ctx0 e (h.update T (Obj.mapFields f)):=by
 obtain ⟨ob,vs,e1,d,v⟩:=x
 exact ⟨ob,vs,(Heap.get?_update_other _ _ n.symm).trans e1,d,v⟩
theorem ZdP {base:Heap} {env:Env} {outer:List Env} {L e:Addr} {head:Value} {hadNext:Bool}
  (hfr:A.frames=some (env::outer)) (hl:s.heap.FunFrames base (env::outer)) (hf:env.frame=some L) (x:Ctx0 e s.heap) :
  wpAny M A (do let a <- frameOf env;let pl <- entryPlaceOf L hadNext;let b <- EntryCells.newEntry head a .none (rawInt L) .none pl;setField (.ref e) 1 b) (λ_ s'=>Ctx0 e s'.heap) E s:=by
 obtain ⟨ob,vs,he,d,v⟩:=x
 have l2:=(Array.getElem?_eq_some_iff.mp v).1
 have out:e ∉ (env::outer).filterMap (·.frame):=λz=>by
  obtain ⟨_,o,ho,n⟩:=hl.mem z
  rw [he] at ho;cases ho
  exact n vs d
 refine wpAny_bind (wpAny_frameOf_fun hfr hl hf λh1 k1=>wpAny_bind (wpAny_entryPlaceOf λpl hpl=>?_))
 unfold EntryCells.newEntry newFields
 refine wpAny_bind (wpAny_newObj_type ?_ (hpl.sizeOk5 _ _ _ _ _))
 have e2:=Heap.get?_push_of_some (h:=h1) { cls:=.type "traceback", dict:=none,data:=.fields ([head,.ref L,.none,rawInt L,.none]++(if pl.isEmpty then List.replicate 6 Value.none else pl)).toArray } ((k1.2.1 e out).trans he)
 refine wpAny_setField e2 d (Nat.lt_trans (by decide) l2) ?_
 have d3:=Obj.data_mapFields d (·.setIfInBounds 1 (Value.ref h1.objs.size))
 exact ⟨_,_,Heap.get?_update_self _ e2 (Obj.isFreed_of_fields d3),d3,by rw [Array.getElem?_setIfInBounds_ne (by decide)];exact v⟩
theorem Zf9 {B:Heap} {env:Env} {outer:List Env} {L e:Addr} {cls a0:Value} (hfr:A.frames=some (env::outer)) (hf:env.frame=some L) (h:ZbQ B (env::outer) e cls a0 s.heap) (x:Ctx0 e s.heap) :
  wpAny M A (noteFrame (.ref e) env) (λ_ s'=>Ctx0 e s'.heap) E s:=by
 obtain ⟨f1,f2,f3,fl,tr⟩:=h
 by_cases hfl:fl=rawInt L
 ·subst hfl
  exact wpAny_noteFrame_againW hf tr x
 ·obtain ⟨oe,vs,T,oT,ts,he,⟨hcl,h0⟩,hd,h1,hnT,hTe,hT,hdT,h3⟩:=tr
  have ne:(fl == rawInt L)=false:=by simpa using hfl
  have l3:=(Array.getElem?_eq_some_iff.mp h3).1
  unfold noteFrame
  simp only [hf]
  have hTn:(Value.ref T != Value.none)=true:=by simp
  have B1:Heap.SameBut T s.heap (s.heap.update T (Obj.mapFields λx=>x.setIfInBounds 3 Value.none)):=Heap.SameBut.update ..
  refine wpAny_bind (wpAny_field he hd h1 ?_)
  rw [hTn]
  refine (if_pos rfl).symm▸wpAny_bind (wpAny_field hT hdT h3 ?_)
  rw [ne]
  refine wpAny_bind (wpAny_setField hT hdT l3 ?_)
  refine ZdP hfr (f3.of_keeps λb o hb n=>⟨o,(B1.2 b λz=>?_).trans hb,rfl⟩) hf (x.upd hTe.symm)
  subst z
  rw [hT] at hb
  cases hb
  exact n ts hdT
theorem ZdY {B:Heap} {l:List Env} {e:Addr} {cls a0:Value} {fr:Option Addr} (h:ZbQ B l e cls a0 s.heap) (x:Ctx0 e s.heap):wpAny M A (setFlight (.ref e) fr) (λ_ s'=>Ctx0 e s'.heap) E s:=by
 obtain ⟨f1,f2,f3,fl,oe,vs,T,oT,ts,he,hcl,hd,h1,hnT,hTe,hT,hdT,h3⟩:=h
 have hTn:(Value.ref T != Value.none)=true:=by simp
 unfold setFlight
 refine wpAny_bind (wpAny_field he hd h1 ?_)
 rw [hTn]
 exact (if_pos rfl).symm▸wpAny_setField hT hdT (Array.getElem?_eq_some_iff.mp h3).1 (x.upd hTe.symm)
theorem ZcE {base h:Heap} {env:Env} {outer:List Env} {L e:Addr} {cls:Value} {args:List Value}
  (hfr:A.frames=some (env::outer)) (hf:env.frame=some L) (hkb:base.StaysIn h) (hl:h.FunFrames base (env::outer)) (hx:Heap.MadeExcOf h s.heap e cls args) :
  wpAny M A (leaving env (.ref e)) (λ_ s'=>Ctx0 e s'.heap) E s:=by
 obtain ⟨t,he,htn,ht⟩:=hx.there
 have en:base.get? e=none:=by
  cases hq:base.get? e with
  | none=>rfl
  | some o'=>have:=hkb e o' hq;rw [hx.new] at this;cases this
 have hl':s.heap.FunFrames base (env::outer):=hl.of_keeps λb o hb _=>⟨o,hx.keeps b o hb,rfl⟩
 unfold leaving noteFrame
 simp only [hf]
 refine wpAny_bind (wpAny_bind (wpAny_field he rfl (x:=.none) rfl ?_))
 rw [if_neg (by decide)]
 refine wpAny_mono (Zbj (ZdP (E:=E) hfr hl' hf ⟨_,_,he,rfl,rfl⟩) (wpAny_entryW (E:=E) (Q:=λ_ s'=>ZbQ base (env::outer) e cls (.ref t) s'.heap) hfr hl' hf he (λb o hb=>hx.keeps b o (hkb b o hb)) en rfl (by show 1<6;decide) rfl λh' ⟨x1,x2,x3,x4⟩=>⟨x1,en,x2,_,x3⟩)) (λ_ s1 ⟨q1,q2⟩=>ZdY q2 q1) λ_ _ z=>z.1
end
def CXn (P:Program) (w:World):CXT:=λouter H s E e s'=>CXr P w outer H s E e s'/\∃ a,e=.ref a/\Ctx0 a s'.heap
theorem Zbm {P:Program} {w:World} {K:PySem.W.Frag} {mg:Str->Option Value} {base:Heap} {N:List Str} {qual:Str} {scope:Scope} {f:Addr} {cd:Value} {A:Around} {outer:List Env} {s:Shared} {H:Hp} {E:XK} :
  ZcZ (ZeA (CXn P w) P w K mg base N qual scope f cd A outer s H E) E:=by
 intro pins σ H1 s1 h' a C vs I hx hE
 have I':Inv (ZeA (CXr P w) P w K mg base N qual scope f cd A outer s H E) pins σ H1 s1:=
  ⟨⟨I.ok.mod,I.ok.kind,I.ok.glob,I.ok.blt,I.ok.above,I.ok.inj,I.ok.has,I.ok.cab,I.ok.hd,I.ok.frames,I.ok.stk,I.ok.exf,I.ok.bs,I.ok.bsz,I.ok.noex,I.ok.exfs,I.ok.funs,I.ok.frf⟩,I.os,I.bare,I.base,I.loc,I.cell,I.free,I.freeC,I.pin,I.hok,I.len⟩
 have h1:=Zby pins σ H1 s1 h' a C vs I' hx hE
 have hst:s1.heap.FunFrames base (envOfC qual scope s.heap.objs.size f cd::outer):=I.stack
 have hin:∀ env∈(envOfC qual scope s.heap.objs.size f cd::outer),∀ b,env.frame=some b->b∈frs (envOfC qual scope s.heap.objs.size f cd::outer):=λenv he b hb=>List.mem_filterMap.mpr ⟨env,he,hb⟩
 refine wpAny_mono (Zbj h1 (ZcE (E:=λ_ _=>False) (base:=PySem.W.hideAll s1.heap (frs (envOfC qual scope s.heap.objs.size f cd::outer))) (s:={ s1 with heap:=h' }) I.ok.frames rfl (λb o q=>PySem.W.of_hideAll _ q) (PySem.W.funFrames_hide hst hin) hx)) (λ_ s2 q=>⟨q.1,a,rfl,q.2⟩) λ_ _ z=>z.2.elim
end L2
namespace L2
open PySem PySem.Spec PyProof.Rows
theorem Zdf:entryFor table "proto.unchain" = some Builtin.«proto.unchain»:=entryFor_of_tree (by kernel_rfl)
section
variable {prog:Program} {w:World} {A:Around} {E:Value->Shared->Prop} {s:Shared} {α:Type}
theorem Zdg {h a:Addr} {o:Obj} {vs:Array Value} {Q:α->Shared->Prop} (hh:A.handled=some (.ref h)) (n:h≠a) (x:Ctx0 h s.heap) (ha:s.heap.get? a=some o) (hd:o.data=.fields vs) (l:2<vs.size)
  (hE:E (.ref a) { s with heap:=s.heap.update a (Obj.mapFields (·.setIfInBounds 2 (.ref h))) }):wpAny (model prog w) A (raiseNew (.ref a):Sem α) Q E s:=by
 obtain ⟨ob,us,e1,d1,v1⟩:=x
 unfold raiseNew
 refine wpAny_bind (wpAny_handled ?_)
 rw [hh]
 have ne:(Value.ref h != Value.ref a)=true:=by simpa using n
 simp only [ne,if_true]
 refine wpAny_bind (wpAny_holding (wpAny_runValue (codeAny_builtin Zdf ?_)))
 unfold Builtin.«proto.unchain»
 refine wpAny_bind (wpAny_field e1 d1 v1 ?_)
 have nn:(Value.none == Value.none)=true:=rfl
 rw [nn]
 refine (if_pos rfl).symm▸?_
 unfold ret
 refine wpAny_pure ?_
 show wpAny _ _ _ _ _ _
 exact wpAny_bind (show wpAny (model prog w) A (setField (.ref a) 2 (.ref h)) _ E s from wpAny_setField (a:=a) ha hd l (wpAny_throw hE))
end
end L2
namespace L2
open PySem PySem.Spec PyProof.Rows
section
variable {prog:Program} {w:World} {A:Around} {E:Value->Shared->Prop} {env:Env}
variable {nm q:Str} {C N:Addr} {bs bm:List Value} {hdct:Bool} {sn:List Str} {sub:List Value} {ab:Bool} {col:Option Bool} {dd:Option Addr} {k0 k1 k2 k3 k5:Option Value} {newId:String}
theorem ZbR {s:Shared} {x c:Sem Value} {hx:Addr} {Q:Flow->Shared->Prop} (hbase:bm.contains (.type "BaseException")=true) (hh:A.handled=some (.ref hx))
  (hc:∀ (s:Shared) (Q:Value->Shared->Prop),Q .none s->wpAny (model prog w) A c Q E s)
  (h:wpAny (model prog w) A x (λv s₁=>∃ e t,v=.ref e/\hx≠e/\Ctx0 hx s₁.heap/\s₁.heap.get? C=some (excClassObj nm q C N bs bm hdct sn sub ab col dd k0 k1 k2 k3 k5 newId)/\C≠e /\
   s₁.heap.get? e=some { cls:=.ref C,data:=.fields #[.ref t,.none,.none,.none,.bool false,.none] } /\
   ∀ h',Heap.SameBut e s₁.heap h'->h'.get? e=some { cls:=.ref C,data:=.fields #[.ref t,.none,.ref hx,.none,.bool true,.none] }->E (.ref e) { s₁ with heap:=h' }) E s) :
  wpAny (model prog w) A (raiseStmt env (some x) (some c)) Q E s:=by
 have hcB:(Value.ref C::bm).contains (.type "BaseException")=true:=by rw [List.contains_cons,hbase,Bool.or_true]
 unfold raiseStmt
 refine wpAny_bind (wpAny_mono h (λv s₁ h₁=>?_) λ_ _ x=>x)
 obtain ⟨e,t,rfl,ne,x0,hC,nC,he,hE⟩:=h₁
 obtain ⟨hp,g,d,tk,os⟩:=s₁
 refine wpAny_bind (wpAny_holding (hc _ _ ?_))
 refine wpAny_bind (wpAny_pure ?_)
 refine wpAny_bind (wpAny_holding ?_)
 refine wpAny_mono (Q:=λv s'=>v=.ref e/\s'=⟨hp,g,d,tk,os⟩) (E:=E) ?_ (λv s' z=>?_) λ_ _ z=>z
 ·unfold excFromValue
  repeat (first | with_reducible refine wpAny_loadPart_at he ?_ | with_reducible refine wpAny_loadPart_at hC ?_ | (with_reducible refine wpAny_isSubtype_exc hC ?_;rw [hcB]) | wp_step)
  exact ⟨rfl,rfl⟩
 ·obtain ⟨rfl,rfl⟩:=z
  have nn:(Value.none == Value.none)=true:=rfl
  simp only [nn,if_true]
  refine wpAny_bind (wpAny_pure ?_)
  refine wpAny_bind (wpAny_setField_rec he (by show 3<6;decide) λh1 e1 b1=>?_)
  refine wpAny_bind (wpAny_setField_rec e1 (by show 4<6;decide) λh2 e2 b2=>?_)
  have hC2:h2.get? C=some (excClassObj nm q C N bs bm hdct sn sub ab col dd k0 k1 k2 k3 k5 newId):=(b2.2 C nC).trans ((b1.2 C nC).trans hC)
  repeat (first | with_reducible refine wpAny_loadPart_at e2 ?_ | with_reducible refine wpAny_loadPart_at hC2 ?_ | (with_reducible refine wpAny_isSubtype_exc hC2 ?_;rw [hcB]) | wp_step)
  have x2:Ctx0 hx h2:=by
   obtain ⟨ob,vs,q1,q2,q3⟩:=x0
   exact ⟨ob,vs,(b2.2 hx ne).trans ((b1.2 hx ne).trans q1),q2,q3⟩
  refine Zdg hh ne x2 e2 rfl (by show 2<6;decide) (hE _ ((b1.trans b2).trans (Heap.SameBut.update ..)) ?_)
  exact Heap.get?_update_self _ e2 rfl
end
end L2
namespace L2
open PySem PySem.Spec PyProof.Rows
section
variable {X:Cx}
theorem Zew {EK:XK} {pins:List (Addr×Obj)} {σ:St} {H:Hp} {s:Shared} {a e Cc t:Addr} {us:List Value} {h1 h2:Heap} (hst:X.stack=X.env::X.outer) (hfr:X.env.frame=some X.env.locals) (hR:Za2 X EK) (I:Inv X pins σ H s)
  (mk:Heap.MadeExcOf s.heap h1 e (.ref Cc) us) (sb:Heap.SameBut e h1 h2) (he:h2.get? e=some { cls:=.ref Cc,data:=.fields #[.ref t,.none,.ref a,.none,.bool true,.none] }) (hE:EK (.ref Cc) none H) :
  notedBy (model X.prog X.w) (X.A.mark (some (.ref a))) X.env (cameBackBy (model X.prog X.w) X.A X.env X.xe) (.ref e) { s with heap:=h2 }:=by
 have afr:=I.ok.frames
 rw [hst] at afr
 have stk:s.heap.FunFrames X.base X.stack:=I.stack
 have hin:∀ env∈X.stack,∀ b,env.frame=some b->b∈frs X.stack:=λenv he b hb=>List.mem_filterMap.mpr ⟨env,he,hb⟩
 have inB:∀ b o,s.heap.get? b=some o->b ∉ frs X.stack->(PySem.W.hideAll s.heap (frs X.stack)).get? b=some o:=λb o e n=>PySem.W.hideAll_get _ e n
 have ofB:∀ b o,(PySem.W.hideAll s.heap (frs X.stack)).get? b=some o->s.heap.get? b=some o:=λb o q=>PySem.W.of_hideAll _ q
 have fB:s.heap.FunFrames (PySem.W.hideAll s.heap (frs X.stack)) X.stack:=PySem.W.funFrames_hide stk hin
 generalize hB:PySem.W.hideAll s.heap (frs X.stack)=B at inB ofB fB
 have ne:∀ b o,s.heap.get? b=some o->b≠e:=λb o q z=>by rw [z,mk.new] at q;cases q
 have k2:∀ b o,s.heap.get? b=some o->h2.get? b=some o:=λb o q=>(sb.2 b (ne b o q)).trans (mk.keeps b o q)
 have eB:B.get? e=none:=by
  cases z:B.get? e with
  | none=>rfl
  | some o=>exact absurd rfl (ne e o (ofB e o z))
 have fB2:h2.FunFrames B (X.env::X.outer):=by
  rw [<-hst]
  exact fB.of_keeps λb o q _=>⟨o,k2 b o q,rfl⟩
 show wpAny (model X.prog X.w) (X.A.mark (some (.ref a))) (noteFrame (.ref e) X.env) _ _ _
 unfold noteFrame
 simp only [hfr]
 refine wpAny_bind (wpAny_field he rfl (x:=.none) rfl ?_)
 rw [if_neg (by decide)]
 refine wpAny_entryW (base:=B) (outer:=X.outer) (a0:=.ref t) afr fB2 hfr he (λb o q=>k2 b o (ofB b o q)) eB rfl (by show 1<6;decide) rfl λh3 ⟨x1,x2,x3,x4⟩=>?_
 have al:ZbQ B (X.env::X.outer) e (.ref Cc) (.ref t) h3:=⟨x1,eB,x2,_,x3⟩
 obtain ⟨oe,vs,T,oT,ts,he3,hcl,hd,hv1,_⟩:=x3
 show wpAny (model X.prog X.w) X.A _ _ _ _
 refine wpAny_bind (wpAny_field he3 hd hv1 ?_)
 rw [if_neg (by simp)]
 refine Zcy al λh4 al4 sm4=>?_
 have sm4:h3.UpToSlots h4:=sm4
 have sm:s.heap.UpToSlots h4:=(Heap.UpToSlots.of_keeps k2).trans (Heap.UpToSlots.trans x4 sm4)
 refine hR pins σ H { s with heap:=h4 } e Cc t B al4 (λh5 tk st5 sm5=>?_) (λb o q n=>?_) (λb o0 o hx q0 q n=>?_) hE
 ·obtain ⟨u,k⟩:=Zcc (P:=X.prog) (w:=X.w) (t:=t) (a:=e) (C:=Cc) (s:=s) (s':=s) (outer:=X.stack) (B:=B) (h2:=h5) (Un.refl (H:=H)) I.hok fB (λb o q n=>inB b o q λz=>n (I.stkFree b z)) (λb o0 o _ q n=>inB b o q n) st5 (sm.trans sm5)
  exact I.call' (ch:=[]) (s':={ s with heap:=h5,toks:=tk }) rfl u k I.bare (λb z=>absurd z (by simp))
 ·cases z:H b with
  | none=>exact absurd z n
  | some u=>
   obtain ⟨v,hv⟩:=(I.hok b u z).there
   have hb:=inB b v hv λy=>n (I.stkFree b y)
   have e':=al4.1 b v hb
   have q:h4.get? b=some o:=q
   rw [q] at e'
   cases e'
   exact hb
 ·obtain ⟨o1,e1⟩:=I.base.there b o0 q0 hx
  have hb:=inB b o1 e1 (by rw [hst];exact n)
  have e':=al4.1 b o1 hb
  have q:h4.get? b=some o:=q
  rw [q] at e'
  cases e'
  exact hb
end
end L2
namespace L2
open PySem PySem.Spec PyProof.Rows
def Ziq (a C:Addr):HO:=.ext λh=>ZdB a C h/\Ctx0 a h
theorem Zhe {P:Program} {w:World} {H:Hp} {h:Heap} {a C:Addr} (x:ZdB a C h) (y:Ctx0 a h):ObjOk P w H h a (Ziq a C):=by
 refine ⟨⟨x,y⟩,?_,λh1 h2 p k=>?_⟩
 ·obtain ⟨ob,_,e,_⟩:=x
  exact ⟨ob,e⟩
 ·obtain ⟨⟨ob,vs,e,c,d⟩,ob',vs',e',d',v'⟩:=p
  exact ⟨⟨ob,vs,k ob e,c,d⟩,ob',vs',k ob' e',d',v'⟩
section
variable {X:Cx}
theorem Zfv {C C0 a:Addr} {EK:XK} {x:Str} {np cpos pos npos:Pos} {k:Nat} {e:Expr} {es:List Expr} {t:TA} {YE:Value->Shared->Prop} {Q:Flow->Shared->Prop} {pins:List (Addr×Obj)} {σ:St} {H:Hp} {s:Shared}
  (hg:Gl X x) (hm:X.mg x=some (.ref C)) (ex:ExcC X.K C) (ha:PA (X.inExc a) (e::es) t) (I:Inv (X.inExc a) pins σ H s)
  (h:t σ H λvs H1=>vs.length<=sizeLine/\H1 a=some (Ziq a C0)/\EK (.ref C) none H1)
  (hY:∀ (s2:Shared) (H2:Hp) (h1 h2:Heap) (e' t':Addr) (us:List Value),Inv (X.inExc a) pins σ H2 s2->Heap.MadeExcOf s2.heap h1 e' (.ref C) us->Heap.SameBut e' h1 h2->h2.get? e'=some { cls:=.ref C,data:=.fields #[.ref t',.none,.ref a,.none,.bool true,.none] }->EK (.ref C) none H2->YE (.ref e') { s2 with heap:=h2 })
  (hdb:(x == ("__debug__" : Str))=false:=by decide) (he:starEach (e::es) X.env=(false,eval e X.env)::starEach es X.env:=by rfl) (hpl:(backTo cpos (starEach es X.env)).any (·.1)=false:=by rfl) :
  wpAny (model X.prog X.w) (X.inExc a).A (exec (.Raise (some (.Call (.Name x np) (e::es) [] cpos)) (some (.Constant .none k npos)) pos) X.env) Q YE s:=by
 obtain ⟨mro',ns',mN',⟨nm',qn',bs',hd',sn',sub',ab',col',dd',j0,j1,j2,j3,j5,hC⟩,hN,hni,T⟩:=Zc0 I.mod.kin ex
 have hplain:(backTo cpos (starEach (e::es) X.env)).any (·.1)=false:=by rw [he];show (false || (backTo cpos (starEach es X.env)).any (·.1))=false;rw [hpl];rfl
 rw [arm_exec_Raise]
 refine wpAny_bind (wpAny_standAt ?_)
 refine ZbR (C:=C) (nm:=nm') (q:=qn') (N:=ns') (bs:=bs') (bm:=mro') (hdct:=hd') (sn:=sn') (sub:=sub') (ab:=ab') (col:=col') (dd:=dd') (k0:=j0) (k1:=j1) (k2:=j2) (k3:=j3) (k5:=j5) (newId := "ValueError.__new__") (hx:=a)
  (T.hasType PySem.F.excBase_ValueError.hasBase) rfl (λs Q q=>wpAny_bind (wpAny_Constant_none (wpAny_bind (wpAny_standAt (wpAny_pure q))))) ?_
 refine wpAny_bind (wpAny_mono (wpAny_Call_ofName (Zbu (X:=X.inExc a) I hg hm ?_ hdb)) (λv s₃ h₃=>wpAny_bind (wpAny_standAt (wpAny_pure h₃))) λ_ _ z=>z)
 unfold callWith
 have hA:=wpAny_mono (E':=YE) (ha cpos pins s σ H _ I h) (λ_ _ z=>z) (λ_ _ z=>False.elim z)
 refine wpAny_bind (wpAny_holding ?_)
 have he':starEach (e::es) (X.inExc a).env=(false,eval e X.env)::starEach es X.env:=he
 rw [he'] at hA
 rw [he] at hplain ⊢
 refine Calls.evalArgs_plain (wpAny_mono hA (λus s2 ⟨vs,H2,I2,r2,hl,ha2,q2⟩=>wpAny_bind (wpAny_standAt ?_)) λ_ _ z=>z)
 have hC2:=I2.bk _ _ hC
 have hlen:us.length<=sizeLine:=by rw [<-r2.length];exact hl
 obtain ⟨⟨_,cx⟩,_⟩:=I2.hok a _ ha2
 have I2':=I2
 have hN2:=hN.keeps I2.bk
 have T2:=T.keeps I2.bk
 obtain ⟨hp,g,d,tk,os⟩:=s2
 simp only [hplain]
 refine wpAny_bind (wpAny_keeperOf_exc hC2 ?_)
 refine wpAny_bind (wpAny_call_exc_subT (hrest:=hlen) PySem.F.excBase_ValueError T2 hC2 hN2 hni λh' e' hm=>wpAny_bind (wpAny_holding (wpAny_point (wpAny_pure ?_))))
 obtain ⟨t',ht',_,_⟩:=hm.there
 obtain ⟨ob,vs',c1,c2,c3⟩:=cx
 have new:∀ b o,hp.get? b=some o->b≠e':=λb o q z=>by rw [z] at q;have:=hm.new;rw [q] at this;cases this
 exact ⟨e',t',rfl,new a ob c1,⟨ob,vs',hm.keeps _ _ c1,c2,c3⟩,hm.keeps _ _ hC2,new C _ hC2,ht',λh2 sb q=>hY ⟨hp,g,d,tk,os⟩ H2 h' h2 e' t' _ I2' hm sb q q2⟩
end
end L2
namespace L2
open PySem PySem.Spec PyProof.Rows
section
variable {M:Model} {A:Around} {E:Value->Shared->Prop} {s:Shared}
theorem ZjR {B:Heap} {env:Env} {outer:List Env} {L e:Addr} {cls a0:Value} {Q:Unit->Shared->Prop} (hfr:A.frames=some (env::outer)) (hf:env.frame=some L) (h:ZbQ B (env::outer) e cls a0 s.heap) (x:Ctx0 e s.heap)
  (hQ:∀ h',Heap.HeldW B (env::outer) e cls a0 L h'->Ctx0 e h'->s.heap.UpToSlots h'->Q () { s with heap:=h' }):wpAny M A (noteFrame (.ref e) env) Q E s:=
 wpAny_mono (Zbj (Zf9 (E:=λ_ _=>False) hfr hf h x) (Zb3 (E:=λ_ _=>False) (Q:=λ_ s2=>∃ h',s2={ s with heap:=h' }/\Heap.HeldW B (env::outer) e cls a0 L h'/\s.heap.UpToSlots h') hfr hf h λh' k1 k2=>⟨h',rfl,k1,k2⟩))
  (λ_ s2 ⟨q1,h',q2,q3,q4⟩=>by subst q2;exact hQ h' q3 q1 q4) λ_ _ z=>z.1.elim
theorem Zir {B:Heap} {l:List Env} {e L:Addr} {cls a0:Value} {Q:Unit->Shared->Prop} (h:Heap.HeldW B l e cls a0 L s.heap) (x:Ctx0 e s.heap)
  (hQ:∀ h',Heap.FlyingW B l e cls a0 h'->Ctx0 e h'->s.heap.UpToSlots h'->Q () { s with heap:=h' }):wpAny M A (setFlight (.ref e) none) Q E s:=
 wpAny_mono (Zbj (ZdY (E:=λ_ _=>False) (HeldW.aloft h) x) (wpAny_landsW (E:=λ_ _=>False) (Q:=λ_ s2=>∃ h',s2={ s with heap:=h' }/\Heap.FlyingW B l e cls a0 h'/\s.heap.UpToSlots h') h λh' k1 k2=>⟨h',rfl,k1,k2⟩))
  (λ_ s2 ⟨q1,h',q2,q3,q4⟩=>by subst q2;exact hQ h' q3 q1 q4) λ_ _ z=>z.1.elim
theorem Zis {B:Heap} {l:List Env} {e:Addr} {cls a0:Value} {Q:Unit->Shared->Prop} (h:Heap.FlyingW B l e cls a0 s.heap) (x:Ctx0 e s.heap)
  (hQ:∀ h',Heap.FlyingW B l e cls a0 h'->Ctx0 e h'->s.heap.UpToSlots h'->Q () { s with heap:=h' }):wpAny M A (setFlight (.ref e) none) Q E s:=
 wpAny_mono (Zbj (ZdY (E:=λ_ _=>False) (FlyingW.aloft h) x) (lands_againW (E:=λ_ _=>False) (Q:=λ_ s2=>∃ h',s2={ s with heap:=h' }/\Heap.FlyingW B l e cls a0 h'/\s.heap.UpToSlots h') h λh' k1 k2=>⟨h',rfl,k1,k2⟩))
  (λ_ s2 ⟨q1,h',q2,q3,q4⟩=>by subst q2;exact hQ h' q3 q1 q4) λ_ _ z=>z.1.elim
end
section
variable {X:Cx}
def Zfw (K:PySem.W.Frag) (W C:Addr) (EK:XK) (t:TA) (σ:St):XK:=λcls _ H2=>∃ C0,cls=.ref C0/\PySem.W.kitCls K (.ref C0) (.ref W)=some true /\
 ∀ a,H2 a=none->t σ (upd H2 a (Ziq a C0)) λvs H1=>vs.length<=sizeLine/\H1 a=some (Ziq a C0)/\EK (.ref C) none H1
theorem Zga {pins pins0:List (Addr×Obj)} {σ:St} {H:Hp} {s s':Shared} {D:Zdm} {C W:Addr} {EK:XK} {wx x:Str} {np hpos cnp cpos pos npos:Pos} {k:Nat} {e:Expr} {es:List Expr} {t:TA} {rest:List ExceptHandler} {ev:Value}
  (hst:X.stack=X.env::X.outer) (hfr:X.env.frame=some X.env.locals) (hex:X.ex=[])
  (hgW:Gl X wx) (hmW:X.mg wx=some (.ref W)) (hbE:PySem.W.subIn X.K (.ref W) (.type "BaseException")=some true) (hR:Za2 X EK) (hg:Gl X x) (hm:X.mg x=some (.ref C)) (ex:ExcC X.K C) (ha:∀ a,PA (X.inExc a) (e::es) t) (I:Inv X pins σ H s)
  (h:CXn X.prog X.w X.stack H s (Zfw X.K W C EK t σ) ev s') (hdb:(wx == ("__debug__" : Str))=false:=by decide) (hdx:(x == ("__debug__" : Str))=false:=by decide)
  (he:starEach (e::es) X.env=(false,eval e X.env)::starEach es X.env:=by rfl) (hpl:(backTo cpos (starEach es X.env)).any (·.1)=false:=by rfl) :
  Zio X pins0 D (.ExceptHandler (some (.Name wx np)) none [.Raise (some (.Call (.Name x cnp) (e::es) [] cpos)) (some (.Constant .none k npos)) pos] hpos::rest) ev s':=by
 obtain ⟨⟨a,C0,H',rfl,⟨t1,B,os,bare,un,hok,fl,trk,old⟩,C',eC,hk,q⟩,a',ea,cx⟩:=h
 cases eC
 cases ea
 have flX:=fl
 rw [hst] at flX
 have afr:=I.ok.frames
 rw [hst] at afr
 have new:s.heap.get? a=none:=by
  cases z:s.heap.get? a with
  | none=>rfl
  | some o0=>
   exfalso
   obtain ⟨ob,vs,e1,c1,d1,_⟩:=fl.first
   by_cases hb:a∈frs X.stack
   ·obtain ⟨_,o',ho',hnf⟩:=fl.2.2.1.mem hb
    rw [e1] at ho';cases ho'
    exact hnf vs d1
   ·have:=old a o0 ob z e1 hb
    rw [fl.2.1] at this;cases this
 have hna:H' a=none:=by
  cases z:H' a with
  | none=>rfl
  | some u=>
   exfalso
   obtain ⟨ob,vs,e1,_⟩:=fl.first
   have:=trk a ob e1 (by rw [z];simp)
   rw [fl.2.1] at this;cases this
 have na1:a≠X.env.locals:=λz=>by
  obtain ⟨m,⟨o,_,_,ho,_⟩,_⟩:=I.loc
  rw [<-z,new] at ho;cases ho
 have na2:∀ x c,X.env.cells.lookup x=some c->c≠a:=λx c e z=>by
  obtain ⟨v,o,ho,_⟩:=I.cell x c e
  rw [z,new] at ho;cases ho
 have na3:∀ p∈X.pn++pins,p.1≠a:=λp hp z=>by
  have:=(I.pin p hp).1
  rw [z,new] at this;cases this
 have na4:X.s₀.heap.get? a=none:=by
  cases z:X.s₀.heap.get? a with
  | none=>rfl
  | some o=>
   obtain ⟨o',e'⟩:=I.base.there a o z (by rw [hex];simp)
   rw [new] at e';cases e'
 have at_:∀ {h2:Heap} {tk:Nat},B.StaysIn h2->s'.heap.UpToSlots h2->Inv X pins σ H' { s' with heap:=h2,toks:=tk }:=λ{h2 tk} st sm=>by
  obtain ⟨u2,k2⟩:=Zcc (t:=t1) (a:=a) (C:=C0) un hok fl.2.2.1 trk old st sm
  exact I.call' (ch:=[]) os u2 k2 bare (λb z=>absurd z (by simp))
 unfold Zio
 refine ZjR (outer:=X.outer) afr hfr (FlyingW.aloft flX) cx λh4 held4 c4 sm4=>?_
 refine Zir held4 c4 λh5 fl5 c5 sm5=>?_
 have I5:Inv X pins σ H' { s' with heap:=h5 }:=at_ (tk:=s'.toks) fl5.1 (sm4.trans sm5)
 refine wpAny_handleBy_cons (codeAny_handlers_test ?_) (by intro q;cases q)
 refine Zbu (X:=X.inExc a) (I5.inExc a) hgW hmW ?_ hdb
 obtain ⟨ob,vs,e1,c1,d1,_⟩:=fl5.first
 refine Zct (b:=true) I5.kIn ⟨ob,vs,e1,c1,d1⟩ hk hbE ?_
 refine codeAny_handlers_suite ?_
 refine Zis fl5 c5 λh6 fl6 c6' sm6=>?_
 have I6:Inv X pins σ H' { s' with heap:=h6 }:=at_ (tk:=s'.toks) fl6.1 ((sm4.trans sm5).trans sm6)
 obtain ⟨ob6,vs6,e6,c6,d6,_⟩:=fl6.first
 have I7:=I6.track (u:=Ziq a C0) hna na1 na2 na3 na4 λH2=>Zhe ⟨ob6,vs6,e6,c6,d6⟩ c6'
 refine wpAny_execs_cons (Zfv (X:=X) (C0:=C0) (EK:=EK) hg hm ex (ha a) (I7.inExc a) (q a hna) (λs2 H2 h1 h2 e' t' us I2 mk sb q1 q2=>?_) hdx he hpl)
 exact Zew hst hfr hR (I2.outExc I.ok) mk sb q1 q2
end
end L2
namespace L2
open PySem PySem.Spec PyProof.Rows
section
variable {X:Cx}
def Zhf (K:PySem.W.Frag) (W C:Addr) (EK:XK) (t:TA):XK:=λcls o H2=>∀ σ,Zfw K W C EK t σ cls o H2
theorem CXn.imp {P:Program} {w:World} {outer:List Env} {H:Hp} {s s':Shared} {E E':XK} {e:Value} (h:CXn P w outer H s E e s') (k:∀ c H,E c none H->E' c none H):CXn P w outer H s E' e s':=by
 obtain ⟨⟨a,C,H',q1,q2,q3⟩,r⟩:=h
 exact ⟨⟨a,C,H',q1,q2,k _ _ q3⟩,r⟩
theorem Zhg {pins0:List (Addr×Obj)} {D:Zdm} {C W:Addr} {EK:XK} {wx x:Str} {np hpos cnp cpos pos npos:Pos} {k:Nat} {e:Expr} {es:List Expr} {t:TA} {rest:List ExceptHandler}
  (hst:X.stack=X.env::X.outer) (hfr:X.env.frame=some X.env.locals) (hex:X.ex=[])
  (hgW:Gl X wx) (hmW:X.mg wx=some (.ref W)) (hbE:PySem.W.subIn X.K (.ref W) (.type "BaseException")=some true) (hR:Za2 X EK) (hg:Gl X x) (hm:X.mg x=some (.ref C)) (ex:ExcC X.K C) (ha:∀ a,PA (X.inExc a) (e::es) t)
  (hdb:(wx == ("__debug__" : Str))=false:=by decide) (hdx:(x == ("__debug__" : Str))=false:=by decide)
  (he:starEach (e::es) X.env=(false,eval e X.env)::starEach es X.env:=by rfl) (hpl:(backTo cpos (starEach es X.env)).any (·.1)=false:=by rfl) :
  Zcp (CXn X.prog X.w) (X.tryX (Zio X pins0 D (.ExceptHandler (some (.Name wx np)) none [.Raise (some (.Call (.Name x cnp) (e::es) [] cpos)) (some (.Constant .none k npos)) pos] hpos::rest))) (Zhf X.K W C EK t):=by
 intro pins σ H s ev s' I h
 exact Zga hst hfr hex hgW hmW hbE hR hg hm ex ha I.ofT (h.imp λc H q=>q σ) hdb hdx he hpl
theorem SP.ofT {YE:Value->Shared->Prop} {pins:List (Addr×Obj)} {D:Zdm} {fl:Flow} {s:Shared} (h:SP (X.tryX YE) pins D fl s):SP X pins D fl s:=by
 cases fl with
 | next=>obtain ⟨σ,H,I,q⟩:=h;exact ⟨σ,H,I.ofT,q⟩
 | brk=>obtain ⟨σ,H,I,q⟩:=h;exact ⟨σ,H,I.ofT,q⟩
 | cont=>obtain ⟨σ,H,I,q⟩:=h;exact ⟨σ,H,I.ofT,q⟩
 | ret u=>obtain ⟨v,σ,H,I,r,q⟩:=h;exact ⟨v,σ,H,I.ofT,r,q⟩
theorem Zhh {body:List Stmt} {h0:ExceptHandler} {hs:List ExceptHandler} {ts:TS} {pos:Pos} (hB:∀ pins D,PSs (X.tryX (Zio X pins D (h0::hs))) body ts):PS X (.Try body (h0::hs) [] [] pos) ts:=by
 intro pins s σ H D I h
 refine wpAny_Try_except (wpAny_mono (hB pins D pins s σ H D I.toT h) (λfl s1 q=>?_) λ_ _ q=>q)
 have q':=SP.ofT q
 cases fl with
 | next=>exact wpAny_execs_nil q'
 | brk=>exact q'
 | cont=>exact q'
 | ret u=>exact q'
end
end L2
namespace L2
open PySem PySem.Spec PyProof.Rows
section
variable {P:Program} {w:World} {K:PySem.W.Frag} {mg:Str->Option Value} {base:Heap}
theorem Fun.okN {x qual:Str} {st:Stmt} {f:Addr} {fd:FuncData} {N ps:List Str} {k:Nat} {sp:Sp} (F:Fun K x qual st f fd) (S:ZaC N ps (Zaf st)) (len:∀ vs H Q E,sp vs H Q E->vs.length=ps.length)
  (hbody:∀ (cdv:Value) (A:Around) (outer:List Env) (s:Shared) (H:Hp) (vs:List V) (Q:VK) (E:XK),Room k (A.deeper (envOfC qual (Zaf st) s.heap.objs.size f cdv))->sp vs H Q E ->
   ∃ t,PSs (ZeA (CXn P w) P w K mg base N qual (Zaf st) f cdv A outer s H E) (Zav st) t/\t { nx:=λ_ H'=>Q .non H',rt:=Q } (ZcD N vs) H):ZaY P w K mg base (CXn P w) (k+1) f fd ps sp:=by
 obtain ⟨oc,od,kV,doc,pm,an,cdv,ct,osl,rfl,lk,hcd⟩:=F.ex
 refine ZgQ lk hcd S len λA outer s H vs Q E hr hsp=>?_
 obtain ⟨t,h,q⟩:=hbody cdv A outer s H vs Q E hr hsp
 exact ⟨t,h,q⟩
end
end L2
namespace L2
open PySem PySem.Spec PyProof.Rows
section
variable {X:Cx}
theorem Zhi:OpR X (compareOp .NotIn) (λx y H Q=>∃ (c:Nat) (b:Str),x=.str ⟨#[c]⟩/\y=.str b/\Q (.bl (!decide (c∈b.cps.toList))) H):=by
 intro pins s σ H x y v u Q I rx ry h
 obtain ⟨c,b,rfl,rfl,q⟩:=h
 obtain ⟨t,rfl⟩:=rx
 obtain ⟨t',rfl⟩:=ry
 refine P.notIn_str ?_
 rw [StrLaws.found_one]
 exact ⟨.bl _,H,I,rfl,q⟩
theorem Zhj {x:Str} {g:TG} {tb:TS} {D:Zdm} {σ:St} {H:Hp} (Pv:Nat->St->Hp->Prop) (h0:Pv 0 σ H)
  (hs:∀ i c σ H,x.cps[i]?=some c->Pv i σ H->g (.str ⟨#[c]⟩) σ H λσ2 H2=>tb { D with nx:=Pv (i+1),ct:=Pv (i+1),bk:=D.nx } σ2 H2) (hd:∀ σ H,Pv x.cps.size σ H->D.nx σ H) :
  ∃ W:Nat->Nat->St->Hp->Prop,(∃ m,W 0 m σ H)/\∀ i m σ H,W i m σ H ->
   ((Its x).stop i H/\D.nx σ H)\/((Its x).go i H/\∃ N:St->Hp->Prop,(∀ σ' H',N σ' H'->∃ m',m'<m/\W (i+1) m' σ' H')/\∀ v H',(Its x).yld i H v H'->g v σ H' λσ2 H2=>tb { D with nx:=N,ct:=N,bk:=D.nx } σ2 H2):=by
 refine ⟨λi m σ H=>m=x.cps.size-i/\i<=x.cps.size/\Pv i σ H,⟨x.cps.size,by simp,Nat.zero_le _,h0⟩,?_⟩
 rintro i m σ H ⟨rfl,hi,p⟩
 by_cases hlt:i<x.cps.size
 ·refine .inr ⟨hlt,Pv (i+1),λσ' H' p'=>⟨x.cps.size-(i+1),by omega,rfl,hlt,p'⟩,λv H' y=>?_⟩
  obtain ⟨e,c,hc,rfl⟩:=y
  subst e
  exact hs i c σ _ hc p
 ·have e:i=x.cps.size:=by omega
  subst e
  exact .inl ⟨Nat.le_refl _,hd σ H p⟩
end
end L2
namespace M
open PySem L2
def top (i:Nat):Stmt:=PySem.Challenge.pw_onceways_k84_texts_of_no_web.main.body.getD i (.Pass ⟨0,0,0,0⟩)
abbrev Zhk:Stmt:=top 7
abbrev ZgA:Stmt:=top 8
abbrev Zcz:Stmt:=top 10
abbrev Zhl:Stmt:=top 14
abbrev ZgB:Stmt:=top 15
abbrev Zhm:Stmt:=top 17
abbrev Zhn:Stmt:=top 18
abbrev ZgC:Stmt:=top 19
abbrev ZgD:Stmt:=top 20
abbrev Zho:Stmt:=top 21
abbrev Zhp:Stmt:=top 22
abbrev ZgE:Stmt:=top 23
abbrev Zhq:Stmt:=top 24
abbrev Zhr:Stmt:=top 25
abbrev Zhs:Stmt:=top 26
abbrev Zht:Stmt:=top 27
abbrev Zhu:Stmt:=top 28
abbrev Zgb:Stmt:=top 29
end M
namespace M
open PySem L2
theorem Zbn:bootBuiltins "str" = some (.type "str"):=by first | rfl | decide +kernel
structure Zgc (i:Int):Prop where
 le:(num i).length<=2
 ge:1<=(num i).length
 dg:∀ c∈(num i).cps.toList,c∈("0123456789" : Str).cps.toList
 sp:32 ∉ (num i).cps.toList
 da:45 ∉ (num i).cps.toList
 rd:PySem.intText? (num i)=some i
 zr:(num i=("0" : Str))\/Txt.startswith (num i) ("0" : Str)=false
 as:(num i).cps.all (·<128)=true
 ok:PyData.strOk (num i)=true
theorem ZbS {i:Int} (h0:0<=i) (h1:i<=16):Zgc i:=by
 have key:∀ k:Fin 17,((num (k:Nat)).length<=2/\1<=(num (k:Nat)).length)/\(∀ c∈(num (k:Nat)).cps.toList,c∈("0123456789" : Str).cps.toList)/\(32 ∉ (num (k:Nat)).cps.toList/\45 ∉ (num (k:Nat)).cps.toList) /\
   ((num (k:Nat)=("0" : Str))\/Txt.startswith (num (k:Nat)) ("0" : Str)=false)/\(num (k:Nat)).cps.all (·<128)=true/\PyData.strOk (num (k:Nat))=true:=by decide +kernel
 obtain ⟨n,rfl⟩:∃ n:Nat,i=n:=⟨i.toNat,by omega⟩
 obtain ⟨⟨a,b⟩,c,⟨d,e⟩,f,g,h⟩:=key ⟨n,by omega⟩
 exact ⟨a,b,c,d,e,PySem.W.KIN.num_reads (by omega) (by omega),f,g,h⟩
end M
namespace M
open PySem L2
theorem Zhv (a b:Str):(a++b).cps.toList=a.cps.toList++b.cps.toList:=by rw [PySem.Str.cps_append,Array.toList_append]
theorem Zfx (x:Str):x.cps.toList.length=x.length:=Array.length_toList
def ZaV (p:Int×Int):List Nat:=(num p.1).cps.toList++45::(num p.2).cps.toList
def Zlx (n:Int) (rs:List (Int×Int)):List Nat:=(num n).cps.toList++rs.flatMap (λp=>32::ZaV p)
def Zly (n:Int) (rs:List (Int×Int)):Str:=mkS (Zlx n rs)
def Zgd (n:Int) (rs:List (Int×Int)):Prop:=(0<=n/\n<=16)/\rs.length<=30/\∀ p∈rs,(0<=p.1/\p.1<=16)/\(0<=p.2/\p.2<=16)
structure WebAt (H:Hp) (wb l:Addr) (k:Int) (xs:List V) (rs:List (Int×Int)):Prop where
 w:H wb=some (.tup [.int k,.ref l])
 l:H l=some (.lst xs)
 p:Prs H xs rs
theorem WebAt.same {H H':Hp} {wb l:Addr} {k:Int} {xs:List V} {rs:List (Int×Int)} (h:WebAt H wb l k xs rs) (s:Same H H'):WebAt H' wb l k xs rs:=⟨s _ _ h.w,s _ _ h.l,h.p.same s⟩
section
variable {P:Program} {w:World} {K:PySem.W.Frag} {mg:Str->Option Value} {base:Heap}
def Zlz:Sp:=λvs H Q _=>∃ (wb l:Addr) (n:Int) (xs:List V) (rs:List (Int×Int)),vs=[.ref wb]/\WebAt H wb l n xs rs/\Zgd n rs/\Q (.str (Zly n rs)) H
theorem scWww:ZaC ["web", "found", "one", "other"] ["web"] (Zaf ZgD):=⟨rfl,rfl,rfl,by decide +kernel,rfl,by decide +kernel,by decide +kernel⟩
end
end M
namespace M
open PySem L2
theorem ZaU:2<=sizeLine:=by decide
section
variable {P:Program} {w:World} {K:PySem.W.Frag} {mg:Str->Option Value} {base:Heap}
theorem Zdh:bootBuiltins "max" = some (.builtin "max"):=by first | rfl | decide +kernel
theorem Zdi {p:Nat} {a:Int} (h:a.natAbs<2 ^ p:=by decide +kernel):Lt2 p a:=h
theorem ZaB {ns:List Int} {i:Int} (h0:0<=i) (h1:i<ns.length):atI (ns.map V.int) i=some (.int (ns.getD i.toNat 0)):=by
 obtain ⟨k,rfl⟩:=Int.eq_ofNat_of_zero_le h0
 have hk:k<ns.length:=by omega
 refine Zaj ?_
 show (ns.map V.int)[k]?=some (.int (ns.getD k 0))
 rw [List.getElem?_map,List.getD_eq_getElem?_getD,List.getElem?_eq_getElem hk]
 rfl
def Zit (K:PySem.W.Frag):Sp:=λvs H Q _=>∃ (a:Addr) (ns:List Int) (k:Nat),vs=[.ref a,.int (k:Int)]/\SqL K H a (ns.map V.int)/\∀ z:Int,Q (.int z) H
theorem ZjS:ZaC ["script", "k"] ["script", "k"] (Zaf Zhm):=⟨rfl,rfl,rfl,by decide +kernel,rfl,by decide +kernel,by decide +kernel⟩
theorem Ziu {f:Addr} {fd:FuncData} (F:Fun K "_law_cell_at" "_law_cell_at" Zhm f fd) (mLen:mg "len" = none):ZaY P w K mg base CX0 1 f fd ["script", "k"] (Zit K):=by
 refine F.ok ZjS (λvs H Q E h=>?_) (λcdv A outer s H vs Q E hr h=>?_)
 ·obtain ⟨_,_,_,rfl,_⟩:=h
  rfl
 ·obtain ⟨a,ns,k,rfl,hS,q⟩:=h
  refine ⟨_,(@Zae _ _ _ _ _ (@ZaO _ _ _ _ _ _ _ _ (Zai Zdo (pv 1) (Zah (Ze4 K) rfl mLen PySem.boot_len (@Zaa _ _ _ _ _ (pv 0) Zac rfl)) (Zan _)) (@Zag _ _ _ (@Zau _ _ _ _ (@Zao _ _ _ _ _ _ _ (Za8 K) (pv 0) (pv 1) (λ_ _=>rfl)))) Zat)
    (@Zag _ _ _ (@Zau _ _ _ _ Zab))),?_⟩
  refine ⟨_,rfl,_,rfl,a,_,rfl,.inl hS,_,_,rfl,rfl,_,rfl,?_⟩
  rw [List.length_map]
  refine Zcr (λz=>?_) (λ_=>q 0)
  have z':=of_decide_eq_true z
  exact ⟨_,rfl,_,rfl,a,_,_,_,rfl,rfl,hS,ZaB (by omega) z',q _⟩
def Ziv:Sp:=λvs H Q _=>∃ (c:Int) (m:Nat),vs=[.int c,.int (m:Int)]/\m<=70/\∀ (l:Addr) (row:List Int) (H':Hp),Same H H'->H' l=some (.lst (row.map V.int))->row.length=m->Q (.ref l) H'
theorem scNum:ZaC ["cell", "many", "found", "rest", "stir", "k", "again"] ["cell", "many"] (Zaf Zhn):=⟨rfl,rfl,rfl,by decide +kernel,rfl,by decide +kernel,by decide +kernel⟩
theorem Ziw {f:Addr} {fd:FuncData} (F:Fun K "_law_numbers" "_law_numbers" Zhn f fd) (mRange:mg "range" = none):ZaY P w K mg base CX0 1 f fd ["cell", "many"] Ziv:=by
 refine F.ok scNum (λvs H Q E h=>?_) (λcdv A outer s H vs Q E hr h=>?_)
 ·obtain ⟨_,_,rfl,_⟩:=h
  rfl
 ·obtain ⟨c,m,rfl,hm,q⟩:=h
  have h16:(16777216:Nat)=sizeLine:=sizeLine_eq.symm
  refine ⟨_,(@Zae _ _ _ _ _ (@Zam _ _ 2 _ _ _ _ scNum.nd rfl (Or.inl rfl) (@ZaS _ _ _ _ Zac) rfl (by first | exact .inl rfl | exact .inr rfl))
    (@Zae _ _ _ _ _ (@Zam _ _ 3 _ _ _ _ scNum.nd rfl (Or.inl rfl) (pv 0) rfl (by first | exact .inl rfl | exact .inr rfl))
    (@Zae _ _ _ _ _ (@Zam _ _ 4 _ _ _ _ scNum.nd rfl (Or.inl rfl) (@Zaq _ _ _ _ _ _ _ _ Zaw (pv 0) Zab) rfl (by first | exact .inl rfl | exact .inr rfl))
    (@Zae _ _ _ _ _ (@Zck _ _ _ _ _ _ _ _ PassesOwn.never rfl (Zbd rfl mRange (@Zaa _ _ _ _ _ (pv 1) Zac rfl)) (ZaG (i:=5) scNum.nd rfl (Or.inl rfl))
    (@Zag _ _ _ (@ZaO _ _ _ _ _ _ _ _ (PW.pt (Zcj (Zai ZgM (pv 0) (@Zaq _ _ _ _ _ _ _ _ ZhS Zab Zab) (Zan _)) (ZbH (Zai Zdp (pv 3) Zab (Zan _))))) (@Zae _ _ _ _ _ (ZcU (ZcX PySem.F.plainAttrs_list PySem.F.slot_list_append PySem.F.type_list_append Zbf (pv 2) (@Zaa _ _ _ _ _ (@Zaq _ _ _ _ _ _ _ _ Zaw (pv 3) Zab) Zac rfl)))
    (@Zag _ _ _ (@Zam _ _ 3 _ _ _ _ scNum.nd rfl (Or.inl rfl) (@Zaq _ _ _ _ _ _ _ _ Zc2 (pv 3) Zab) rfl (by first | exact .inl rfl | exact .inr rfl)))) (@Zae _ _ _ _ _ (@Zam _ _ 4 _ _ _ _ scNum.nd rfl (Or.inl rfl) (@Zaq _ _ _ _ _ _ _ _ Zaw (@Zaq _ _ _ _ _ _ _ _ Zcl (@Zaq _ _ _ _ _ _ _ _ Zbe (@Zaq _ _ _ _ _ _ _ _ Zbe (pv 4) (@Zaq _ _ _ _ _ _ _ _ Zcl Zab (pv 5))) Zab) Zab) Zab) rfl (by first | exact .inl rfl | exact .inr rfl))
    (@Zae _ _ _ _ _ (@Zam _ _ 6 _ _ _ _ scNum.nd rfl (Or.inl rfl) (@Zaq _ _ _ _ _ _ _ _ Zaw (@Zaq _ _ _ _ _ _ _ _ Zcl (@Zaq _ _ _ _ _ _ _ _ Zaw (@Zaq _ _ _ _ _ _ _ _ Zcl (pv 4) (pv 4)) Zab) Zab) Zab) rfl (by first | exact .inl rfl | exact .inr rfl))
    (@Zag _ _ _ (ZcU (ZcX PySem.F.plainAttrs_list PySem.F.slot_list_append PySem.F.type_list_append Zbf (pv 2) (@Zaa _ _ _ _ _ (@Zaq _ _ _ _ _ _ _ _ Zaw (@Zaq _ _ _ _ _ _ _ _ Zc2 (pv 6) Zab) Zab) Zac rfl)))))))) (by intro _;rfl))
    (@Zag _ _ _ (@Zau _ _ _ _ (pv 2))))))),?_⟩
  refine ⟨Nat.zero_le _,λl hl=>?_⟩
  refine ⟨_,rfl,?_⟩
  refine ⟨_,rfl,_,_,rfl,rfl,(by show (0:Int)<2147483647;decide),?_⟩
  refine ⟨_,rfl,_,rfl,by omega,by omega,?_⟩
  rw [Int.toNat_natCast]
  refine ZbJ (lo:=0) (n:=m) (λi σ H2=>∃ (row:List Int) (r st:Int) (v5 v6:Option V),σ=[some (.int c),some (.int (m:Int)),some (.ref l),some (.int r),some (.int st),v5,v6]/\Same H H2/\H2 l=some (.lst (row.map V.int))/\row.length=i) ⟨[],_,_,none,none,rfl,Same.new hl,Zad,rfl⟩ ?_ ?_
  ·rintro i σ H2 hi ⟨row,r,st,v5,v6,rfl,s2,e2,rl⟩
   rw [Int.zero_add]
   refine ⟨_,rfl,_,_,rfl,rfl,⟨by decide,by decide,by decide⟩,_,_,rfl,rfl,_,rfl,Zcr (λ_=>?_) (λ_=>?_)⟩
   ·refine ⟨_,rfl,_,_,rfl,rfl,_,rfl,Zcr (λ_=>?_) (λ_=>?_)⟩
    ·refine ⟨_,rfl,.inl ⟨rfl,_,SqL.of e2⟩,_,rfl,_,_,rfl,rfl,(by show (0:Int)<64;decide),l,_,_,rfl,rfl,e2,by rw [List.length_map];omega,?_⟩
     refine ⟨_,rfl,_,_,rfl,rfl,⟨by decide,Zdi⟩,?_⟩
     exact ⟨row++[_],_,_,_,_,rfl,s2.put hl,by rw [Zad,List.map_append];rfl,by rw [List.length_append,List.length_singleton,rl]⟩
    ·refine ⟨_,rfl,_,rfl,_,_,rfl,rfl,.inl ⟨by decide,by decide⟩,_,_,rfl,rfl,_,_,rfl,rfl,_,_,rfl,rfl,.inr ⟨by decide,by decide⟩,_,_,rfl,rfl,(by show (0:Int)<2147483647;decide),?_⟩
     refine ⟨_,rfl,_,rfl,_,_,rfl,rfl,.inl ⟨by omega,by omega⟩,_,_,rfl,rfl,(by show (0:Int)<2147483629;decide),_,_,rfl,rfl,.inr ⟨by decide,by decide⟩,_,_,rfl,rfl,(by show (0:Int)<2147483587;decide),?_⟩
     refine ⟨_,rfl,.inl ⟨rfl,_,SqL.of e2⟩,_,rfl,_,_,rfl,rfl,⟨by decide,Zdi⟩,_,_,rfl,rfl,(by show (0:Int)<720720;decide),l,_,_,rfl,rfl,e2,by rw [List.length_map];omega,?_⟩
     exact ⟨row++[_],_,_,_,_,rfl,s2.put hl,by rw [Zad,List.map_append];rfl,by rw [List.length_append,List.length_singleton,rl]⟩
   ·refine Za5 ?_
    refine ⟨_,rfl,_,rfl,_,_,rfl,rfl,.inl ⟨by decide,by decide⟩,_,_,rfl,rfl,_,_,rfl,rfl,_,_,rfl,rfl,.inr ⟨by decide,by decide⟩,_,_,rfl,rfl,(by show (0:Int)<2147483647;decide),?_⟩
    refine ⟨_,rfl,_,rfl,_,_,rfl,rfl,.inl ⟨by omega,by omega⟩,_,_,rfl,rfl,(by show (0:Int)<2147483629;decide),_,_,rfl,rfl,.inr ⟨by decide,by decide⟩,_,_,rfl,rfl,(by show (0:Int)<2147483587;decide),?_⟩
    refine ⟨_,rfl,.inl ⟨rfl,_,SqL.of e2⟩,_,rfl,_,_,rfl,rfl,⟨by decide,Zdi⟩,_,_,rfl,rfl,(by show (0:Int)<720720;decide),l,_,_,rfl,rfl,e2,by rw [List.length_map];omega,?_⟩
    exact ⟨row++[_],_,_,_,_,rfl,s2.put hl,by rw [Zad,List.map_append];rfl,by rw [List.length_append,List.length_singleton,rl]⟩
  ·rintro σ H2 ⟨row,r,st,v5,v6,rfl,s2,e2,rl⟩
   exact ⟨_,rfl,q l row H2 s2 e2 rl⟩
def Zix (n:Int) (rs:List (Int×Int)):Prop:=rs.length<=30/\(∀ p∈rs,0<=p.1/\p.1<p.2/\p.2<n)/\rs.Nodup
def Ziy:Sp:=λvs H Q _=>∃ (xl:Addr) (ns:List Int) (n m:Int),vs=[.ref xl,.int n,.int m]/\H xl=some (.lst (ns.map V.int))/\ns.length=62/\(1<=n/\n<=16)/\(0<=m/\m<=30) /\
 ∀ (wb l:Addr) (xs:List V) (rs:List (Int×Int)) (H':Hp),Same H H'->WebAt H' wb l n xs rs->Zix n rs->H l=none->Q (.ref wb) H'
theorem scBig:ZaC ["xs", "places", "many", "roads", "k", "one", "other", "pair"] ["xs", "places", "many"] (Zaf ZgC):=⟨rfl,rfl,rfl,by decide +kernel,rfl,by decide +kernel,by decide +kernel⟩
theorem Ziz {f:Addr} {fd:FuncData} (F:Fun K "_law_big_web" "_law_big_web" ZgC f fd) (mRange:mg "range" = none) (mMin:mg "min" = none) (mMax:mg "max" = none):ZaY P w K mg base CX0 1 f fd ["xs", "places", "many"] Ziy:=by
 refine F.ok scBig (λvs H Q E h=>?_) (λcdv A outer s H vs Q E hr h=>?_)
 ·obtain ⟨_,_,_,_,rfl,_⟩:=h
  rfl
 ·obtain ⟨xl,ns,n,m,rfl,ex,hn,hN,hM,q⟩:=h
  have hu5:(A.deeper (PyProof.Rows.envOfC "_law_big_web" (Zaf ZgC) s.heap.objs.size f cdv)).units+65<cLine:=by have:=hr.un;omega
  have h16:(16777216:Nat)=sizeLine:=sizeLine_eq.symm
  obtain ⟨mm,rfl⟩:∃ mm:Nat,m=mm:=⟨m.toNat,by omega⟩
  refine ⟨_,(@Zae _ _ _ _ _ (@Zam _ _ 3 _ _ _ _ scBig.nd rfl (Or.inl rfl) (@ZaS _ _ _ _ Zac) rfl (by first | exact .inl rfl | exact .inr rfl))
    (@Zae _ _ _ _ _ (@Zck _ _ _ _ _ _ _ _ PassesOwn.never rfl (Zbd rfl mRange (@Zaa _ _ _ _ _ (pv 2) Zac rfl)) (ZaG (i:=4) scBig.nd rfl (Or.inl rfl))
    (@Zae _ _ _ _ _ (@Zam _ _ 5 _ _ _ _ scBig.nd rfl (Or.inl rfl) (@Zaq _ _ _ _ _ _ _ _ Zaw (@Zao _ _ _ _ _ _ _ (Za8 K) (pv 0) (@Zaq _ _ _ _ _ _ _ _ Zcl Zab (pv 4)) (λ_ _=>rfl)) (pv 1)) rfl (by first | exact .inl rfl | exact .inr rfl))
    (@Zae _ _ _ _ _ (@Zam _ _ 6 _ _ _ _ scBig.nd rfl (Or.inl rfl) (@Zaq _ _ _ _ _ _ _ _ Zaw (@Zao _ _ _ _ _ _ _ (Za8 K) (pv 0) (@Zaq _ _ _ _ _ _ _ _ Zbe (@Zaq _ _ _ _ _ _ _ _ Zcl Zab (pv 4)) Zab) (λ_ _=>rfl)) (pv 1)) rfl (by first | exact .inl rfl | exact .inr rfl))
    (@Zae _ _ _ _ _ (@Zam _ _ 7 _ _ _ _ scBig.nd rfl (Or.inl rfl) (@ZaW _ _ _ _ _ (@Zaa _ _ _ _ _ (Zah (Zco rfl) rfl mMin Zc3 (@Zaa _ _ _ _ _ (pv 5) (@Zaa _ _ _ _ _ (pv 6) Zac rfl) rfl)) (@Zaa _ _ _ _ _ (Zah (Zcn rfl) rfl mMax Zdh (@Zaa _ _ _ _ _ (pv 5) (@Zaa _ _ _ _ _ (pv 6) Zac rfl) rfl)) Zac rfl) rfl)) rfl (by first | exact .inl rfl | exact .inr rfl))
    (@Zag _ _ _ (@ZaO _ _ _ _ _ _ _ _ (PW.pt (Zcj (Zai ZeM (pv 5) (pv 6) (Zan _)) (ZbH (Zai (Zg0 K hu5) (pv 7) (pv 3) (by with_unfolding_all rfl))))) (@Zag _ _ _ (ZcU (ZcX PySem.F.plainAttrs_list PySem.F.slot_list_append PySem.F.type_list_append Zbf (pv 3) (@Zaa _ _ _ _ _ (pv 7) Zac rfl)))) Zat))))) (by intro _;rfl))
    (@Zag _ _ _ (@Zau _ _ _ _ (@ZaW _ _ _ _ _ (@Zaa _ _ _ _ _ (pv 1) (@Zaa _ _ _ _ _ (pv 3) Zac rfl) rfl)))))),?_⟩
  refine ⟨Nat.zero_le _,λl hl=>?_⟩
  refine ⟨_,rfl,_,rfl,by omega,by omega,?_⟩
  rw [Int.toNat_natCast]
  refine ZbJ (lo:=0) (n:=mm) (λi σ H2=>∃ (xs:List V) (rs:List (Int×Int)) (v4 v5 v6 v7:Option V),σ=[some (.ref xl),some (.int n),some (.int (mm:Int)),some (.ref l),v4,v5,v6,v7]/\Same H H2/\H2 l=some (.lst xs)/\Prs H2 xs rs/\rs.length<=i/\(∀ p∈rs,0<=p.1/\p.1<p.2/\p.2<n)/\rs.Nodup)
   ⟨[],[],none,none,none,none,rfl,Same.new hl,Zad,.nil,Nat.zero_le _,(λp hp=>by simp at hp),List.nodup_nil⟩ ?_ ?_
  ·rintro i σ H2 hi ⟨xs,rs,v4,v5,v6,v7,rfl,s2,e2,pr,hlen,hrs,hnd⟩
   rw [Int.zero_add]
   refine ⟨_,rfl,_,rfl,_,_,rfl,rfl,.inl ⟨by decide,by decide⟩,xl,_,_,_,rfl,rfl,SqL.of (s2 _ _ ex),ZaB (by omega) (by omega),_,rfl,_,_,rfl,rfl,by show 0<n;omega,?_⟩
   refine ⟨_,rfl,_,rfl,_,_,rfl,rfl,.inl ⟨by decide,by decide⟩,_,_,rfl,rfl,xl,_,_,_,rfl,rfl,SqL.of (s2 _ _ ex),ZaB (by omega) (by omega),_,rfl,_,_,rfl,rfl,by show 0<n;omega,?_⟩
   dsimp only [ZbU]
   have ha:0<=ns.getD (2 * (i:Int)).toNat 0 % n/\ns.getD (2 * (i:Int)).toNat 0 % n<n:=⟨Int.emod_nonneg _ (by omega),Int.emod_lt_of_pos _ (by omega)⟩
   have hb:0<=ns.getD (2 * (i:Int)+1).toNat 0 % n/\ns.getD (2 * (i:Int)+1).toNat 0 % n<n:=⟨Int.emod_nonneg _ (by omega),Int.emod_lt_of_pos _ (by omega)⟩
   generalize ns.getD (2 * (i:Int)).toNat 0 % n=a at ha ⊢
   generalize ns.getD (2 * (i:Int)+1).toNat 0 % n=b at hb ⊢
   refine ⟨_,rfl,_,rfl,_,_,rfl,_,rfl,_,rfl,_,_,rfl,ZaU,λT hT=>?_⟩
   have s3:Same H2 (upd H2 T (.tup [.int (if b<a then b else a),.int (if b > a then b else a)])):=Same.new hT
   have e3:upd H2 T (.tup [.int (if b<a then b else a),.int (if b > a then b else a)]) T=some (.tup [.int (if b<a then b else a),.int (if b > a then b else a)]):=Zad
   generalize upd H2 T (.tup [.int (if b<a then b else a),.int (if b > a then b else a)])=H3 at s3 e3 ⊢
   refine ⟨_,rfl,_,rfl,rfl,_,rfl,Zcr (λc=>?_) (λc=>?_)⟩
   ·have hab:a≠b:=λe=>by subst e;exact absurd c (by simp)
    refine ⟨_,rfl,_,rfl,l,xs,prD (if b<a then b else a,if b > a then b else a),rs.map prD,rfl,.inl (SqL.of (s3 _ _ e2)),.tup (SqT.of e3) (.cons (.int _) (.cons (.int _) .nil)),(pr.same s3).dats,Zb0 _,Zeb _,_,rfl,?_⟩
    rw [Ze7]
    refine Zcr (λz=>?_) (λz=>?_)
    ·have hn':(if b<a then b else a,if b > a then b else a) ∉ rs:=λy=>by rw [decide_eq_true y] at z;exact absurd z (by decide)
     have hxl:=pr.len
     refine ⟨_,rfl,.inl ⟨rfl,_,SqL.of (s3 _ _ e2)⟩,_,rfl,l,_,_,rfl,rfl,s3 _ _ e2,by omega,?_⟩
     refine ⟨_,rs++[(if b<a then b else a,if b > a then b else a)],_,_,_,_,rfl,(s2.trans s3).put hl,Zad,((pr.same s3).snoc e3).keep (Zce (s3 _ _ e2)),by rw [List.length_append,List.length_singleton];omega,?_,?_⟩
     ·intro p hp
      rcases List.mem_append.mp hp with hp | hp
      ·exact hrs p hp
      ·rw [List.mem_singleton] at hp
       subst hp
       show 0<=(if b<a then b else a)/\(if b<a then b else a)<(if b > a then b else a)/\(if b > a then b else a)<n
       split <;> split <;> omega
     ·rw [List.nodup_append]
      refine ⟨hnd,by simp,?_⟩
      intro p hp r hr' e
      rw [List.mem_singleton] at hr'
      subst e
      exact hn' (hr'▸hp)
    ·exact ⟨xs,rs,_,_,_,_,rfl,s2.trans s3,s3 _ _ e2,pr.same s3,by omega,hrs,hnd⟩
   ·exact ⟨xs,rs,_,_,_,_,rfl,s2.trans s3,s3 _ _ e2,pr.same s3,by omega,hrs,hnd⟩
  ·rintro σ H2 ⟨xs,rs,v4,v5,v6,v7,rfl,s2,e2,pr,hlen,hrs,hnd⟩
   refine ⟨_,rfl,_,rfl,ZaU,λwb hwb=>?_⟩
   have s3:Same H2 (upd H2 wb (.tup [.int n,.ref l])):=Same.new hwb
   exact q wb l xs rs _ (s2.trans s3) ⟨Zad,s3 _ _ e2,pr.same s3⟩ ⟨by omega,hrs,hnd⟩ hl
end
end M
namespace M
open PySem L2
section
variable {P:Program} {w:World} {K:PySem.W.Frag} {mg:Str->Option Value} {base:Heap}
theorem ZdZ {α:Type} (p:α->Prop) [DecidablePred p] (l:List α):(l.map λx=>decide (p x)).all id=true↔∀ x∈l,p x:=by
 rw [List.all_map,List.all_eq_true]
 constructor
 ·intro h x hx
  exact of_decide_eq_true (h x hx)
 ·intro h x hx
  exact decide_eq_true (h x hx)
theorem Zge {α β:Type} {l:List α} {i:Nat} {x:α} (f:α->β) (h:l[i]?=some x):(l.take (i+1)).map f=(l.take i).map f++[f x]:=by
 rw [List.take_add_one,h,List.map_append]
 rfl
def Zex (n:Int) (rs:List (Int×Int)):Prop:=1<=n/\(∀ p∈rs,0<=p.1/\p.1<p.2/\p.2<n)/\rs.Nodup
def Zfy (C:Addr):Sp:=λvs H Q E=>∃ (l:Addr) (n:Int) (xs:List V) (rs:List (Int×Int)),vs=[.int n,.ref l]/\H l=some (.lst xs)/\Prs H xs rs/\rs.length<=60 /\
 ((Zex n rs/\∀ (t l2:Addr) (H':Hp),Same H H'->H t=none->H l2=none->t≠l2->H' t=some (.tup [.int n,.ref l2])->H' l2=some (.lst xs)->Q (.ref t) H')\/(¬ Zex n rs/\∀ H':Hp,Same H H'->E (.ref C) none H'))
theorem Zhw:ZaC ["places", "roads"] ["places", "roads"] (Zaf Zcz):=⟨rfl,rfl,rfl,by decide +kernel,rfl,by decide +kernel,by decide +kernel⟩
theorem Zgf {f C:Addr} {fd:FuncData} (F:Fun K "web_of" "web_of" Zcz f fd) (mC:mg "NoWeb" = some (.ref C)) (xC:ExcC K C) (mAll:mg "all" = none) (mLen:mg "len" = none) (mSet:mg "set" = none) (mLst:mg "list" = none):ZaY P w K mg base (CXn P w) 1 f fd ["places", "roads"] (Zfy C):=by
 refine F.okN Zhw (λvs H Q E h=>?_) (λcdv A outer s H vs Q E hr h=>?_)
 ·obtain ⟨_,_,_,_,rfl,_⟩:=h
  rfl
 ·obtain ⟨l,n,xs,rs,rfl,hl,pr,hn,h⟩:=h
  have hu:=hr.units
  have h16:(16777216:Nat)=sizeLine:=sizeLine_eq.symm
  have hxl:=pr.len
  refine ⟨_,Zae (ZaO (Zai Zdo (pv 0) Zab (Zan _)) (Zag (ZbK (E:=E) rfl Zbm rfl mC xC (Zaa Zal Zac))) Zat)
    (Zae (ZaO (ZbI (Zbr (Zah (Zkk K rfl) rfl mAll Zec (Zaa (ZcY (own:=["a", "b"]) rfl (Zbb (fr:=[("places", 0)]) [(".0", .local),("a", .local),("b", .local),("places", .cell)] rfl rfl (by decide +kernel) rfl (by decide +kernel) ⟨rfl,trivial⟩ ⟨λh=>ZdE h,λh=>ZdE h,λh=>ZdE h,λ_=>⟨_,rfl⟩,trivial⟩ ⟨⟨rfl,.inl rfl,.inl rfl⟩,trivial⟩) (ZfT K (pv 1)) (λ_ _ _ _=>Zi8 K (n:=2) rfl (ZaZ (ZaG (i:=0) (show List.Nodup (["a", "b", "places"]:List Str) by decide +kernel) rfl (Or.inl rfl)) (ZaZ (ZaG (i:=1) (show List.Nodup (["a", "b", "places"]:List Str) by decide +kernel) rfl (Or.inl rfl)) ZcV))) (λ_ _ _ _=>Zcb) (λ_ _ _ _=>Ze8 ZhT Zdo Zdo Zab (pv 0) (pv 1) (pv 2))) Zac)))) (Zag (ZbK (E:=E) rfl Zbm rfl mC xC (Zaa Zal Zac))) Zat)
    (Zae (ZaO (Zai Zdo (Zah ZjJ rfl mLen PySem.boot_len (Zaa (ZaI (ZjI K rfl hu) rfl mSet ZfW (Zaa (pv 1) Zac)) Zac)) (Zah (Ze4 K) rfl mLen PySem.boot_len (Zaa (pv 1) Zac)) (Zan _)) (Zag (ZbK (E:=E) rfl Zbm rfl mC xC (Zaa Zal Zac))) Zat)
    (Zag (Zau (ZaW (Zaa (pv 0) (Zaa (ZaI (ZgZ K) rfl mLst ZbL (Zaa (pv 1) Zac)) Zac))))))),?_⟩
  refine ⟨_,rfl,_,_,rfl,rfl,_,rfl,?_⟩
  have bad:∀ H',Same H H'->¬ Zex n rs->E (.ref C) none H':=λH' s z=>by
   rcases h with ⟨g,_⟩ | ⟨_,e⟩
   ·exact absurd g z
   ·exact e H' s
  refine Zcr (λc0=>?_) (λc0=>?_)
  ·have c0':=of_decide_eq_true c0
   exact ⟨by decide,bad _ (Same.refl _) λz=>by have:=z.1;omega⟩
  have c0':¬ n<1:=λz=>c0 (decide_eq_true z)
  refine ⟨_,rfl,l,rfl,⟨_,SqL.of hl⟩,λD hD=>?_⟩
  refine ZdA (K:=K) (a:=l) (xs:=xs) (λi ys H3=>Same H H3/\H3 D=some (.lst ys)/\ys=((rs.take i).map λr=>decide (0<=r.1/\r.1<r.2/\r.2<n)).map V.bl) ⟨Same.new hD,Zad,rfl⟩ (λi ys H3 _ ⟨s3,_⟩=>SqL.of (s3 _ _ hl)) ?_ ?_
  ·rintro i x ys H3 hxi ⟨s3,hD3,rfl⟩
   obtain ⟨t,r,rfl,et,er⟩:=pr.get hxi
   have hi:i<xs.length:=(List.getElem?_eq_some_iff.mp hxi).1
   refine ⟨t,_,rfl,SqT.of (s3 _ _ et),rfl,_,_,rfl,_,_,rfl,rfl,⟨rfl,trivial⟩,?_⟩
   unfold Zh1
   refine Za6 ?_
   have fin:∀ b:Bool,b=decide (0<=r.1/\r.1<r.2/\r.2<n)->H3 D=some (.lst (((rs.take i).map λr=>decide (0<=r.1/\r.1<r.2/\r.2<n)).map V.bl))/\(((rs.take i).map λr=>decide (0<=r.1/\r.1<r.2/\r.2<n)).map V.bl).length<sizeLine /\
     Same H (upd H3 D (.lst (((rs.take i).map λr=>decide (0<=r.1/\r.1<r.2/\r.2<n)).map V.bl++[.bl b])))/\upd H3 D (.lst (((rs.take i).map λr=>decide (0<=r.1/\r.1<r.2/\r.2<n)).map V.bl++[.bl b])) D=some (.lst (((rs.take i).map λr=>decide (0<=r.1/\r.1<r.2/\r.2<n)).map V.bl++[.bl b])) /\
     ((rs.take i).map λr=>decide (0<=r.1/\r.1<r.2/\r.2<n)).map V.bl++[.bl b]=((rs.take (i+1)).map λr=>decide (0<=r.1/\r.1<r.2/\r.2<n)).map V.bl:=by
    intro b hb
    refine ⟨hD3,by rw [List.length_map,List.length_map,List.length_take];omega,s3.put hD,Zad,?_⟩
    rw [Zge _ er,List.map_append,hb]
    rfl
   refine ⟨_,rfl,_,_,rfl,rfl,_,rfl,?_⟩
   refine Zcr (λd1=>?_) (λd1=>?_)
   ·have d1':=of_decide_eq_true d1
    refine ⟨_,rfl,_,_,rfl,rfl,_,rfl,?_⟩
    refine Zcr (λd2=>?_) (λd2=>?_)
    ·have d2':=of_decide_eq_true d2
     refine ⟨_,rfl,_,_,rfl,rfl,?_⟩
     refine fin _ ?_
     by_cases d3:r.2<n
     ·rw [decide_eq_true d3,decide_eq_true (⟨d1',d2',d3⟩:0<=r.1/\r.1<r.2/\r.2<n)]
     ·rw [decide_eq_false d3,decide_eq_false λz:0<=r.1/\r.1<r.2/\r.2<n=>d3 z.2.2]
    ·exact fin _ (decide_eq_false λz=>d2 (decide_eq_true z.2.1)).symm
   ·exact fin _ (decide_eq_false λz=>d1 (decide_eq_true z.1)).symm
  rintro ys H3 ⟨s3,hD3,rfl⟩
  rw [hxl,List.take_length] at hD3
  refine ⟨D,_,rfl,SqL.of hD3,⟨_,rfl,?_⟩⟩
  have hal:=ZdZ (λr:Int×Int=>0<=r.1/\r.1<r.2/\r.2<n) rs
  by_cases c2:(rs.map λr=>decide (0<=r.1/\r.1<r.2/\r.2<n)).all id=true
  case neg=>
   rw [Bool.not_eq_true] at c2
   rw [c2]
   refine Za6 ?_
   exact ⟨by decide,bad _ s3 λz=>by
    have:=hal.mpr z.2.1
    rw [c2] at this;cases this⟩
  rw [c2]
  refine Za5 ?_
  have c2':=hal.mp c2
  refine ⟨_,rfl,l,xs,rs,rfl,SqL.of (s3 _ _ hl),pr.same s3,by omega,λst m hst hm1 hm2=>?_⟩
  have s4:=s3.put (o:=ZhG st m) (s3.free hst)
  refine ⟨st,m,rfl,Zad,_,rfl,l,xs,rfl,.inl (SqL.of (s4 _ _ hl)),_,_,rfl,rfl,_,rfl,?_⟩
  refine Zcr (λc3=>?_) (λc3=>?_)
  ·have c3':=of_decide_eq_true c3
   exact ⟨by decide,bad _ s4 λz=>by
    have:=hm2.mpr z.2.2
    omega⟩
  ·have c3':¬ ((m:Int)<(xs.length:Int)):=λz=>c3 (decide_eq_true z)
   have good:Zex n rs:=⟨by omega,c2',hm2.mp (by omega)⟩
   rcases h with ⟨_,q⟩ | ⟨g,_⟩
   case inr=>exact absurd good g
   refine ⟨_,rfl,_,rfl,l,xs,rfl,.inl (SqL.of (s4 _ _ hl)),λl2 hl2=>⟨ZaU,λt ht=>?_⟩⟩
   have s5:=s4.put (o:=.lst xs) (s4.free hl2)
   have e5:upd (upd H3 st (ZhG st m)) l2 (.lst xs) l2=some (.lst xs):=Zad
   exact q t l2 _ (s5.put (o:=.tup [.int n,.ref l2]) (s5.free ht)) (s5.free ht) (s4.free hl2) (Zak e5 ht).symm Zad (Ze1 e5 (Zak e5 ht))
end
section
variable {P:Program} {w:World} {K:PySem.W.Frag} {mg:Str->Option Value} {base:Heap}
end
end M
namespace M
open PySem L2
theorem ZaN {x:Str} (h:PyData.strOk x=true):SeqAt.shaped (.str x)=true:=by
 unfold SeqAt.shaped
 rw [Bool.and_eq_true]
 refine ⟨by simp only [PyData.canLay0];exact h,decide_eq_true ?_⟩
 simp only [PyData.depth]
 omega
section
variable {P:Program} {w:World} {K:PySem.W.Frag} {mg:Str->Option Value} {base:Heap}
def Plain (x:Str):Prop:=x.cps.all (·<128)=true/\PyData.strOk x=true/\x.length<=4096
def Zax (x:Str):Bool:=decide (0<x.length) && decide (x.length<=4) && (x.cps.toList.all λc=>decide (c∈("0123456789" : Str).cps.toList)) && (PyData.eqv (.str x) (.str ("0" : Str)) || !Txt.startswith x ("0" : Str))
def ZiA:Sp:=λvs H Q _=>∃ x:Str,vs=[.str x,.int 4]/\Plain x/\∀ H',Same H H'->Q (.bl (Zax x)) H'
theorem ZjT:ZaC ["word", "most"] ["word", "most"] (Zaf Zhk):=⟨rfl,rfl,rfl,by decide +kernel,rfl,by decide +kernel,by decide +kernel⟩
theorem ZiB {f:Addr} {fd:FuncData} {tF:Tok} (F:Fun K "is_written" "is_written" Zhk f fd) (mFig:mg "FIGURES" = some (.str "0123456789" tF)) (mLen:mg "len" = none) (mAll:mg "all" = none):ZaY P w K mg base CX0 1 f fd ["word", "most"] ZiA:=by
 refine F.ok ZjT (λvs H Q E h=>?_) (λcdv A outer s H vs Q E hr h=>?_)
 ·obtain ⟨_,rfl,_⟩:=h
  rfl
 ·obtain ⟨x,rfl,⟨h0,h1,h2⟩,q⟩:=h
  have hu:=hr.units
  have h16:(16777216:Nat)=sizeLine:=sizeLine_eq.symm
  have no:Zax x=false->∀ H',Same H H'->Q (.bl false) H':=λz H' s=>by have:=q H' s;rw [z] at this;exact this
  refine ⟨_,(@Zae _ _ _ _ _ (@ZaO _ _ _ _ _ _ _ _ (PW.pt (ZbG (ZbI (ZfO Zdo ZhT Zab (Zah Zfp rfl mLen PySem.boot_len (@Zaa _ _ _ _ _ (pv 0) Zac rfl)) (pv 1))) (Zbv (ZbI (Zbr (Zah (Zkk K rfl) rfl mAll Zec (@Zaa _ _ _ _ _ (ZcY (own:=["sign"]) rfl (Zbx (by decide +kernel) (by decide +kernel) rfl (by decide +kernel)) (Zgy (pv 0)) (λ_ _ _ _=>ZaG (i:=0) (show List.Nodup (["sign"]:List Str) by decide +kernel) rfl (Or.inl rfl)) (λ_ _ _ _=>Zcb) (λ_ _ _ _=>Zcm Zlt (pv 0) (Zci (v:=.str "0123456789") rfl mFig ⟨_,rfl⟩) (by with_unfolding_all rfl))) Zac rfl))))))) (@Zag _ _ _ (@Zau _ _ _ _ Zdn)) Zat)
    (@Zag _ _ _ (@Zau _ _ _ _ (Zji (Zcm (Zi7 K hu) (pv 0) Zal (Zan _)) (ZeF (Zgn (ZcX PySem.F.plainAttrs_str PySem.F.slot_str_startswith PySem.F.type_str_startswith Zfr (pv 0) (@Zaa _ _ _ _ _ Zal Zac rfl)))))))),?_⟩
  refine ⟨_,rfl,x,rfl,by omega,0,_,rfl,rfl,_,rfl,Zcr (λc=>?_) (λc=>?_)⟩
  ·refine ⟨_,rfl,_,_,rfl,rfl,_,rfl,?_⟩
   have c':0<x.length:=by have:=of_decide_eq_true c;omega
   by_cases l4:x.length<=4
   ·have c4:decide ((x.length:Int)<=4)=true:=decide_eq_true (by omega)
    rw [c4]
    refine Za5 ?_
    refine ⟨_,rfl,x,rfl,h0,λD hD=>?_⟩
    refine Zf5 (x:=x) (λj vs H2=>Same H H2/\H2 D=some (.lst vs)/\vs=((x.cps.toList.take j).map λc=>decide (c∈("0123456789" : Str).cps.toList)).map V.bl) ⟨Same.new hD,Zad,rfl⟩ ?_ ?_
    ·rintro j c vs H2 hc ⟨s2,hD2,rfl⟩
     refine ⟨trivial,?_⟩
     unfold Zh1
     refine Za6 ?_
     have hc':x.cps.toList[j]?=some c:=by rw [Array.getElem?_toList];exact hc
     have hj:j<x.length:=(Array.getElem?_eq_some_iff.mp hc).1
     refine ⟨_,rfl,c,_,rfl,rfl,hD2,by rw [List.length_map,List.length_map,List.length_take];omega,s2.put hD,Zad,?_⟩
     rw [List.take_add_one,hc']
     simp
    ·rintro vs H2 ⟨s2,hD2,rfl⟩
     refine ⟨D,_,rfl,SqL.of hD2,?_⟩
     have full:x.cps.toList.take x.cps.size=x.cps.toList:=List.take_of_length_le (by rw [Array.length_toList];exact Nat.le_refl _)
     have fa:(((x.cps.toList.take x.cps.size).map λc=>decide (c∈("0123456789" : Str).cps.toList)).all id)=x.cps.toList.all λc=>decide (c∈("0123456789" : Str).cps.toList):=by rw [full,List.all_map];rfl
     cases ha:(x.cps.toList.all λc=>decide (c∈("0123456789" : Str).cps.toList)) with
     | false=>
      rw [ha] at fa
      rw [fa]
      refine ⟨_,rfl,Za6 ?_⟩
      exact no (by unfold Zax;rw [ha];simp) _ s2
     | true=>
      rw [ha] at fa
      rw [fa]
      refine ⟨_,rfl,Za5 ?_⟩
      refine ⟨_,rfl,.str x,.str ("0" : Str),.str _,.str _,ZaN h1,ZaN (by decide +kernel),_,rfl,?_⟩
      show if (false != PyData.eqv (.str x) (.str ("0" : Str)))=true then Q (.bl true) H2 else _
      have qq:=q H2 s2
      have e:Zax x=(PyData.eqv (.str x) (.str ("0" : Str)) || !Txt.startswith x ("0" : Str)):=by unfold Zax;rw [ha,decide_eq_true c',decide_eq_true l4];rfl
      rw [e] at qq
      cases z:PyData.eqv (.str x) (.str ("0" : Str)) with
      | true=>
       rw [z] at qq
       exact qq
      | false=>
       rw [z] at qq
       refine Za5 ?_
       exact ⟨_,rfl,rfl,x,_,rfl,rfl,_,rfl,qq⟩
   ·have c4:decide ((x.length:Int)<=4)=false:=decide_eq_false (by omega)
    rw [c4]
    refine Za6 (Za6 ?_)
    exact no (by unfold Zax;rw [decide_eq_false l4];simp) _ (Same.refl _)
  ·have c0:decide ((0:Int)<(x.length:Int))=false:=eq_false_of_ne_true c
   refine ⟨_,rfl,?_⟩
   refine Za6 (Za6 ?_)
   have c':¬ 0<x.length:=λz=>of_decide_eq_false c0 (by omega)
   exact no (by unfold Zax;rw [decide_eq_false c'];simp) _ (Same.refl _)
def Zhx:Sp:=λvs H Q _=>∃ x:Str,vs=[.str x]/\Plain x/\∀ H',Same H H'->Q (.bl (Zax x)) H'
theorem ZjU:ZaC ["word"] ["word"] (Zaf ZgA):=⟨rfl,rfl,rfl,by decide +kernel,rfl,by decide +kernel,by decide +kernel⟩
theorem ZiC {f fWri:Addr} {fd fdWri:FuncData} {t4:Tok} (F:Fun K "is_number" "is_number" ZgA f fd) (FWri:Fun K "is_written" "is_written" Zhk fWri fdWri) (bWri:Binds K fdWri ["word", "most"] []) (mWri:mg "is_written" = some (.ref fWri))
  (GWri:ZaY P w K mg base CX0 1 fWri fdWri ["word", "most"] ZiA) (mMoF:mg "MOST_FIGURES" = some (.int 4 t4)):ZaY P w K mg base CX0 2 f fd ["word"] Zhx:=by
 refine F.ok ZjU (λvs H Q E h=>?_) (λcdv A outer s H vs Q E hr h=>?_)
 ·obtain ⟨_,rfl,_⟩:=h
  rfl
 ·obtain ⟨x,rfl,hx,q⟩:=h
  refine ⟨_,(@Zag _ _ _ (@Zau _ _ _ _ (@Zay _ _ _ _ _ _ _ _ _ _ _ _ _ _ _ _ GWri (hr.mono (by decide)) rfl mWri FWri.kp bWri .nil Zba (@Zaa _ _ _ _ _ (pv 0) (@Zaa _ _ _ _ _ (Zci (v:=.int 4) rfl mMoF ⟨_,rfl⟩) Zac rfl) rfl) (by decide) rfl rfl))),?_⟩
  exact ⟨_,rfl,x,rfl,hx,q⟩
end
end M
namespace M
open PySem L2
theorem ZdQ {c:Nat}:∀ {u:List Nat} {k:Nat},c ∉ u->Zar c k u=[]
 | [],k,_=>rfl
 | y::u,k,h=>by
  have hy:y≠c:=λe=>h (e▸List.mem_cons_self ..)
  rw [Zar,if_neg hy,ZdQ (λe=>h (List.mem_cons_of_mem _ e))]
theorem Zfz {x:Str} {c:Nat} (h:c ∉ x.cps.toList):Txt.partition x ⟨#[c]⟩=(x,("" : Str),("" : Str)):=by
 unfold Txt.partition
 rw [Zb1,ZdQ h]
 rfl
theorem ZbE {x:Str} (h:∀ c∈x.cps.toList,c<128) (l:x.cps.toList.length<=4096):Plain x:=by
 refine ⟨?_,?_,by rw [Array.length_toList] at l;exact l⟩
 ·rw [Array.all_eq_true']
  intro c hc
  exact decide_eq_true (h c (by simpa using hc))
 ·unfold PyData.strOk
  rw [Array.all_eq_true']
  intro c hc
  have:=h c (by simpa using hc)
  exact decide_eq_true (by omega)
theorem Plain.lt {x:Str} (p:Plain x):∀ c∈x.cps.toList,c<128:=λc hc=>by
 have:=p.1
 rw [Array.all_eq_true'] at this
 exact of_decide_eq_true (this c (by simpa using hc))
theorem Plain.le {x:Str} (p:Plain x):x.cps.toList.length<=4096:=by rw [Array.length_toList];exact p.2.2
theorem ZcQ (x:Str):(∃ u v,x.cps.toList=u++45::v/\45 ∉ u/\Txt.partition x ("-" : Str)=(mkS u,("-" : Str),mkS v))\/(45 ∉ x.cps.toList/\Txt.partition x ("-" : Str)=(x,("" : Str),("" : Str))):=by
 by_cases h:45∈x.cps.toList
 ·obtain ⟨u,v,e,n⟩:=List.eq_append_cons_of_mem h
  exact .inl ⟨u,v,e,n,Zcg e n⟩
 ·exact .inr ⟨h,Zfz h⟩
theorem Zey {x:Str} (p:Plain x):Plain (Txt.partition x ("-" : Str)).1/\Plain (Txt.partition x ("-" : Str)).2.2:=by
 have e0:Plain ("" : Str):=ZbE (by intro c hc;cases hc) (by decide)
 rcases ZcQ x with ⟨u,v,e,n,q⟩ | ⟨n,q⟩
 ·rw [q]
  have hl:=p.le
  rw [e,List.length_append,List.length_cons] at hl
  refine ⟨ZbE (λc hc=>p.lt c ?_) ?_,ZbE (λc hc=>p.lt c ?_) ?_⟩
  ·rw [e];exact List.mem_append_left _ (by simpa [mkS] using hc)
  ·show u.length<=4096;omega
  ·rw [e];exact List.mem_append_right _ (List.mem_cons_of_mem _ (by simpa [mkS] using hc))
  ·show v.length<=4096;omega
 ·rw [q]
  exact ⟨p,e0⟩
end M
namespace M
open PySem L2
theorem Zkx:∀ a b c d:Fin 10,a≠0->(num (((1000 * a.val+100 * b.val+10 * c.val+d.val:Nat)):Int)).cps.toList=[48+a.val,48+b.val,48+c.val,48+d.val]:=by decide +kernel
theorem Zky:∀ b c d:Fin 10,b≠0->(num (((100 * b.val+10 * c.val+d.val:Nat)):Int)).cps.toList=[48+b.val,48+c.val,48+d.val]:=by decide +kernel
theorem Zkz:∀ c d:Fin 10,c≠0->(num (((10 * c.val+d.val:Nat)):Int)).cps.toList=[48+c.val,48+d.val]:=by decide +kernel
theorem ZkA:∀ d:Fin 10,(num ((d.val:Nat):Int)).cps.toList=[48+d.val]:=by decide +kernel
theorem Zhy {c:Nat} (h:c∈("0123456789" : Str).cps.toList):∃ d:Fin 10,c=48+d.val:=by
 have k:∀ c∈("0123456789" : Str).cps.toList,∃ d:Fin 10,c=48+d.val:=by decide +kernel
 exact k c h
end M
namespace M
open PySem L2
theorem z2:∀ d:Fin 10,(PyData.eqv (.str (mkS [48,48+d.val])) (.str ("0" : Str)) || !Txt.startswith (mkS [48,48+d.val]) ("0" : Str))=false:=by decide +kernel
theorem z3:∀ c d:Fin 10,(PyData.eqv (.str (mkS [48,48+c.val,48+d.val])) (.str ("0" : Str)) || !Txt.startswith (mkS [48,48+c.val,48+d.val]) ("0" : Str))=false:=by decide +kernel
theorem z4:∀ b c d:Fin 10,(PyData.eqv (.str (mkS [48,48+b.val,48+c.val,48+d.val])) (.str ("0" : Str)) || !Txt.startswith (mkS [48,48+b.val,48+c.val,48+d.val]) ("0" : Str))=false:=by decide +kernel
theorem Zdj (x:Str):x=mkS x.cps.toList:=by
 obtain ⟨⟨l⟩⟩:=x
 rfl
theorem Zbo {x y:Str} (h:x.cps.toList=y.cps.toList):x=y:=by rw [Zdj x,Zdj y,h]
theorem Zch {x:Str} (h:Zax x=true):∃ n:Nat,n<=9999/\x=num (n:Int):=by
 unfold Zax at h
 rw [Bool.and_eq_true,Bool.and_eq_true,Bool.and_eq_true,decide_eq_true_eq,decide_eq_true_eq,List.all_eq_true] at h
 obtain ⟨⟨⟨l0,l4⟩,hd⟩,hz⟩:=h
 have hl:x.cps.toList.length=x.length:=Array.length_toList
 have fg:∀ c∈x.cps.toList,∃ d:Fin 10,c=48+d.val:=λc hc=>Zhy (of_decide_eq_true (hd c hc))
 rw [Zdj x] at hz
 have key:∀ n:Nat,n<=9999->(num (n:Int)).cps.toList=x.cps.toList->∃ n:Nat,n<=9999/\x=num (n:Int):=λn hn e=>⟨n,hn,Zbo e.symm⟩
 generalize x.cps.toList=L at hl fg hz key
 match L,hl,fg,hz,key with
 | [],hl,fg,hz,key=>exact absurd hl (by simp;omega)
 | [p],hl,fg,hz,key=>
  obtain ⟨d,rfl⟩:=fg p (by simp)
  exact key _ (by have:=d.isLt;omega) (ZkA d)
 | [o,p],hl,fg,hz,key=>
  obtain ⟨c,rfl⟩:=fg o (by simp)
  obtain ⟨d,rfl⟩:=fg p (by simp)
  refine key _ ?_ (Zkz c d λz=>?_)
  ·have:=d.isLt;have:=c.isLt;omega
  ·subst z;have:=z2 d;rw [show (48+(0:Fin 10).val)=48 from rfl] at hz;rw [this] at hz;cases hz
 | [n,o,p],hl,fg,hz,key=>
  obtain ⟨b,rfl⟩:=fg n (by simp)
  obtain ⟨c,rfl⟩:=fg o (by simp)
  obtain ⟨d,rfl⟩:=fg p (by simp)
  refine key _ ?_ (Zky b c d λz=>?_)
  ·have:=d.isLt;have:=c.isLt;have:=b.isLt;omega
  ·subst z;have:=z3 c d;rw [show (48+(0:Fin 10).val)=48 from rfl] at hz;rw [this] at hz;cases hz
 | [m,n,o,p],hl,fg,hz,key=>
  obtain ⟨a,rfl⟩:=fg m (by simp)
  obtain ⟨b,rfl⟩:=fg n (by simp)
  obtain ⟨c,rfl⟩:=fg o (by simp)
  obtain ⟨d,rfl⟩:=fg p (by simp)
  refine key _ ?_ (Zkx a b c d λz=>?_)
  ·have:=d.isLt;have:=c.isLt;have:=b.isLt;have:=a.isLt;omega
  ·subst z;have:=z4 b c d;rw [show (48+(0:Fin 10).val)=48 from rfl] at hz;rw [this] at hz;cases hz
 | _::_::_::_::_::t,hl,fg,hz,key=>exact absurd hl (by simp;omega)
end M
namespace M
open PySem L2
section
variable {P:Program} {w:World} {K:PySem.W.Frag} {mg:Str->Option Value} {base:Heap}
def ZdR (x:Str):Bool:=Zax (Txt.partition x ("-" : Str)).1 && Zax (Txt.partition x ("-" : Str)).2.2
def ZiD (C:Addr):Sp:=λvs H Q E=>∃ x:Str,vs=[.str x]/\Plain x /\
 (∀ a b:Nat,a<=9999->b<=9999->(Txt.partition x ("-" : Str)).1=num (a:Int)->(Txt.partition x ("-" : Str)).2.2=num (b:Int)->ZdR x=true->∀ H' p,Same H H'->H' p=none->Q (.ref p) (upd H' p (.tup [.int (a:Int),.int (b:Int)]))) /\
 (ZdR x=false->∀ H',Same H H'->E (.ref C) none H')
theorem scRoa:ZaC ["word", "a", "dash", "b"] ["word"] (Zaf Zhl):=⟨rfl,rfl,rfl,by decide +kernel,rfl,by decide +kernel,by decide +kernel⟩
theorem Zbp {n:Nat} (h:n<=9999):PySem.intText? (num (n:Int))=some (n:Int):=PySem.W.KIN.num_reads (by omega) (by omega)
theorem Zd0 {x:Str} (h:Zax x=true):x.length<=4:=by
 unfold Zax at h
 rw [Bool.and_eq_true,Bool.and_eq_true,Bool.and_eq_true,decide_eq_true_eq,decide_eq_true_eq] at h
 exact h.1.1.2
theorem ZiE {f fIsn C:Addr} {fd fdIsn:FuncData} (F:Fun K "road_of" "road_of" Zhl f fd) (FIsn:Fun K "is_number" "is_number" ZgA fIsn fdIsn) (bIsn:Binds K fdIsn ["word"] []) (mIsn:mg "is_number" = some (.ref fIsn))
  (GIsn:ZaY P w K mg base CX0 2 fIsn fdIsn ["word"] Zhx) (mInt:mg "int" = none) (mT:mg "NoText" = some (.ref C)) (xT:ExcC K C):ZaY P w K mg base (CXr P w) 3 f fd ["word"] (ZiD C):=by
 refine F.okR scRoa (λvs H Q E h=>?_) (λcdv A outer s H vs Q E hr h=>?_)
 ·obtain ⟨_,rfl,_⟩:=h
  rfl
 ·obtain ⟨x,rfl,hp,hg,hb⟩:=h
  refine ⟨_,(@Zae _ _ _ _ _ (@Zgo _ _ _ _ _ _ (ZcX PySem.F.plainAttrs_str PySem.F.slot_str_partition PySem.F.type_str_partition Zhb (pv 0) (@Zaa _ _ _ _ _ Zal Zac rfl)) (Zi8 K (n:=3) rfl (ZaZ (ZaG (i:=1) scRoa.nd rfl (Or.inl rfl)) (ZaZ (ZaG (i:=2) scRoa.nd rfl (Or.inl rfl)) (ZaZ (ZaG (i:=3) scRoa.nd rfl (Or.inl rfl)) ZcV)))) rfl rfl rfl)
    (@Zae _ _ _ _ _ (@ZaO _ _ _ _ _ _ _ _ (PW.pt (ZbG (ZbI (Zbr (@Zay _ _ _ _ _ _ _ _ _ _ _ _ _ _ _ _ GIsn (hr.mono (by decide)) rfl mIsn FIsn.kp bIsn .nil Zba (@Zaa _ _ _ _ _ (pv 1) Zac rfl) (by decide) rfl rfl))) (Zbv (ZbI (Zbr (@Zay _ _ _ _ _ _ _ _ _ _ _ _ _ _ _ _ GIsn (hr.mono (by decide)) rfl mIsn FIsn.kp bIsn .nil Zba (@Zaa _ _ _ _ _ (pv 3) Zac rfl) (by decide) rfl rfl)))))) (@Zag _ _ _ (ZbK (E:=E) rfl Zby rfl mT xT (@Zaa _ _ _ _ _ Zal Zac rfl))) Zat)
    (@Zag _ _ _ (@Zau _ _ _ _ (@ZaW _ _ _ _ _ (@Zaa _ _ _ _ _ (ZaI Zfq rfl mInt boot_int (@Zaa _ _ _ _ _ (pv 1) Zac rfl)) (@Zaa _ _ _ _ _ (ZaI Zfq rfl mInt boot_int (@Zaa _ _ _ _ _ (pv 3) Zac rfl)) Zac rfl) rfl)))))),?_⟩
  have hl:x.length<=sizeLine:=by have:=hp.2.2;rw [sizeLine_eq];omega
  obtain ⟨pa,pb⟩:=Zey hp
  refine ⟨_,rfl,rfl,x,("-" : Str),rfl,rfl,rfl,hl,λl hll=>?_⟩
  unfold ZdR at hg hb
  generalize (Txt.partition x ("-" : Str)).1=A1 at *
  generalize (Txt.partition x ("-" : Str)).2.1=A2 at *
  generalize (Txt.partition x ("-" : Str)).2.2=A3 at *
  have s1:Same H (upd H l (.tup [.str A1,.str A2,.str A3])):=Same.new hll
  refine ⟨l,_,rfl,SqT.of Zad,rfl,?_⟩
  generalize upd H l _=H1 at s1 ⊢
  dsimp only [ZhN,ZbU,Zj2]
  refine ⟨_,_,rfl,_,_,rfl,_,_,rfl,rfl,?_⟩
  refine ⟨_,rfl,A1,rfl,pa,λH2 s2=>⟨_,rfl,?_⟩⟩
  cases n1:Zax A1 with
  | false=>
   refine Za6 (Za6 ?_)
   exact ⟨by decide,hb (by rw [n1];rfl) _ (s1.trans s2)⟩
  | true=>
   refine Za5 ?_
   refine ⟨_,rfl,A3,rfl,pb,λH3 s3=>⟨_,rfl,?_⟩⟩
   cases n3:Zax A3 with
   | false=>
    refine Za6 ?_
    exact ⟨by decide,hb (by rw [n1,n3];rfl) _ (s1.trans (s2.trans s3))⟩
   | true=>
    refine Za5 ?_
    obtain ⟨a,ha,ea⟩:=Zch n1
    obtain ⟨b,hb',eb⟩:=Zch n3
    have la:=Zd0 n1
    have lb:=Zd0 n3
    have g:=hg a b ha hb' ea eb (by rw [n1,n3];rfl)
    subst ea
    subst eb
    refine ⟨_,rfl,num a,a,rfl,Zbp ha,by omega,_,rfl,num b,b,rfl,Zbp hb',by omega,?_⟩
    exact ⟨by show 2<=sizeLine;rw [sizeLine_eq];omega,λp hp=>g _ _ (s1.trans (s2.trans s3)) hp⟩
end
end M
namespace M
open PySem L2
theorem ZdS (c:Nat):∀ L:List Nat,∃ (w:List Nat) (ws:List (List Nat)),L=w++ws.flatMap (λv=>c::v)/\(∀ v∈w::ws,c ∉ v/\(∀ d∈v,d∈L)/\v.length<=L.length)/\ws.length<=L.length
 | []=>⟨[],[],rfl,by intro v hv;rw [List.mem_singleton.mp hv];exact ⟨by simp,by simp,Nat.le_refl _⟩,Nat.le_refl _⟩
 | x::L=>by
  obtain ⟨w,ws,e,h,hl⟩:=ZdS c L
  by_cases hx:x=c
  ·subst hx
   refine ⟨[],w::ws,?_,?_,by simp;omega⟩
   ·rw [List.flatMap_cons,List.nil_append,List.cons_append,<-e]
   ·intro v hv
    rcases List.mem_cons.mp hv with rfl | hv
    ·exact ⟨by simp,by simp,Nat.zero_le _⟩
    ·obtain ⟨a,b,d⟩:=h v hv
     exact ⟨a,λd hd=>List.mem_cons_of_mem _ (b d hd),by rw [List.length_cons];omega⟩
  ·refine ⟨x::w,ws,by rw [List.cons_append,<-e],?_,by rw [List.length_cons];omega⟩
   intro v hv
   rcases List.mem_cons.mp hv with rfl | hv
   ·obtain ⟨a,b,d⟩:=h w (List.mem_cons_self ..)
    refine ⟨?_,?_,by rw [List.length_cons,List.length_cons];omega⟩
    ·intro z
     rcases List.mem_cons.mp z with z | z
     ·exact hx z.symm
     ·exact a z
    ·intro d hd
     rcases List.mem_cons.mp hd with rfl | hd
     ·exact List.mem_cons_self ..
     ·exact List.mem_cons_of_mem _ (b d hd)
   ·obtain ⟨a,b,d⟩:=h v (List.mem_cons_of_mem _ hv)
    exact ⟨a,λd hd=>List.mem_cons_of_mem _ (b d hd),by rw [List.length_cons];omega⟩
theorem ZbT {x:Str} (p:Plain x) (c:Nat) (hc:c<256):∃ (w:List Nat) (ws:List (List Nat)),x.cps.toList=w++ws.flatMap (λv=>c::v)/\(∀ v∈w::ws,c ∉ v/\Plain (mkS v))/\ws.length<=4096/\Txt.split x ⟨#[c]⟩=(w::ws).map mkS:=by
 obtain ⟨w,ws,e,h,hl⟩:=ZdS c x.cps.toList
 have hx:=p.le
 refine ⟨w,ws,e,λv hv=>⟨(h v hv).1,ZbE (λd hd=>p.lt d ((h v hv).2.1 d (by simpa [mkS] using hd))) ?_⟩,by omega,Zcx hc e λv hv=>(h v hv).1⟩
 have:=(h v hv).2.2
 show v.length<=4096
 omega
theorem ZcA (x:Str) (c k:Nat) (h:x.length<=4096):(Builtin.Str.partsBetween x (Builtin.Str.occurrences x (⟨#[c]⟩:Str) 0 x.length (x.length+1)) k).length<=sizeLine:=by
 unfold Builtin.Str.partsBetween
 have:=List.length_take_le (x.length+1) (Zar c 0 x.cps.toList)
 rw [Zb1,sizeLine_eq]
 simp only [List.length_map,List.length_zip,List.length_cons,List.length_append,List.length_nil]
 omega
theorem Zd1:∀ k:Fin 17,Zax (num ((k.val:Nat):Int))=true:=by decide +kernel
theorem Za9 {n:Int} (h0:0<=n) (h1:n<=16):Zax (num n)=true:=by
 obtain ⟨k,rfl⟩:=Int.eq_ofNat_of_zero_le h0
 exact Zd1 ⟨k,by omega⟩
theorem Zhz {a b:Nat} (ha:a<=9999) (hb:b<=9999) (e:num (a:Int)=num (b:Int)):a=b:=by
 have h1:=Zbp ha
 rw [e,Zbp hb] at h1
 exact (Int.ofNat.inj (Option.some.inj h1)).symm
def Good (ws:List Str) (n:Int) (rs:List (Int×Int)):Prop:=ws=num n::rs.map (λr=>mkS (ZaV r))/\Zex n rs/\n<=16/\rs.length<=30
theorem Good.sm {ws:List Str} {n:Int} {rs:List (Int×Int)} (g:Good ws n rs):∀ r∈rs,(0<=r.1/\r.1<=16)/\(0<=r.2/\r.2<=16):=λr hr=>by
 have:=g.2.1.2.1 r hr
 have:=g.2.2.1
 exact ⟨⟨by omega,by omega⟩,by omega,by omega⟩
theorem ZfA {r:Int×Int} (h1:0<=r.1/\r.1<=16):Txt.partition (mkS (ZaV r)) ("-" : Str)=(num r.1,("-" : Str),num r.2):=by
 have h:=Zcg (x:=mkS (ZaV r)) (c:=45) (u:=(num r.1).cps.toList) (v:=(num r.2).cps.toList) rfl (ZbS h1.1 h1.2).da
 exact h
theorem ZfB {r:Int×Int} (h1:0<=r.1/\r.1<=16) (h2:0<=r.2/\r.2<=16):ZdR (mkS (ZaV r))=true:=by
 unfold ZdR
 rw [ZfA h1,Za9 h1.1 h1.2,Za9 h2.1 h2.2]
 rfl
theorem ZfC {x:Str} {a b:Nat} (ha:(Txt.partition x ("-" : Str)).1=num (a:Int)) (hb:(Txt.partition x ("-" : Str)).2.2=num (b:Int)) (hr:ZdR x=true):x=mkS (ZaV ((a:Int),(b:Int))):=by
 rcases ZcQ x with ⟨u,v,e,n,q⟩ | ⟨n,q⟩
 ·rw [q] at ha hb
  apply Zbo
  rw [e]
  show u++45::v=ZaV _
  unfold ZaV
  rw [<-ha,<-hb]
  rfl
 ·unfold ZdR at hr
  rw [q] at hr
  have:Zax ("" : Str)=false:=by decide +kernel
  rw [this,Bool.and_false] at hr
  cases hr
theorem ZfD {x:Str} (h:Zax x=true):45 ∉ x.cps.toList:=λz=>by
 unfold Zax at h
 rw [Bool.and_eq_true,Bool.and_eq_true,List.all_eq_true] at h
 exact absurd (of_decide_eq_true (h.1.2 45 z)) (by decide +kernel)
def Rd (r:Int×Int):Prop:=(0<=r.1/\r.1<=9999)/\(0<=r.2/\r.2<=9999)/\45 ∉ (num r.1).cps.toList
theorem ZbF {r:Int×Int} (h1:0<=r.1/\r.1<=16) (h2:0<=r.2/\r.2<=16):Rd r:=⟨⟨h1.1,by omega⟩,⟨h2.1,by omega⟩,(ZbS h1.1 h1.2).da⟩
theorem Zbq {a b:Int} (ha:0<=a/\a<=9999) (hb:0<=b/\b<=9999) (e:num a=num b):a=b:=by
 obtain ⟨a,rfl⟩:=Int.eq_ofNat_of_zero_le ha.1
 obtain ⟨b,rfl⟩:=Int.eq_ofNat_of_zero_le hb.1
 rw [Zhz (by omega) (by omega) e]
theorem Zgg {r r':Int×Int} (h:Rd r) (h':Rd r') (e:mkS (ZaV r)=mkS (ZaV r')):r=r':=by
 have p1:=Zcg (x:=mkS (ZaV r)) (c:=45) (u:=(num r.1).cps.toList) (v:=(num r.2).cps.toList) rfl h.2.2
 have p2:=Zcg (x:=mkS (ZaV r')) (c:=45) (u:=(num r'.1).cps.toList) (v:=(num r'.2).cps.toList) rfl h'.2.2
 rw [e,p2] at p1
 have q1:=congrArg (·.1) p1
 have q2:=congrArg (·.2.2) p1
 have e1:=Zbq h'.1 h.1 (Zbo (by exact congrArg (λz:Str=>z.cps.toList) q1))
 have e2:=Zbq h'.2.1 h.2.1 (Zbo (by exact congrArg (λz:Str=>z.cps.toList) q2))
 cases r;cases r'
 simp only at e1 e2
 rw [e1,e2]
theorem ZbB:∀ {rs rs':List (Int×Int)},(∀ r∈rs,Rd r)->(∀ r∈rs',Rd r)->rs.map (λr=>mkS (ZaV r))=rs'.map (λr=>mkS (ZaV r))->rs=rs'
 | [],[],_,_,_=>rfl
 | [],_::_,_,_,e=>by cases e
 | _::_,[],_,_,e=>by cases e
 | r::rs,r'::rs',h,h',e=>by
  rw [List.map_cons,List.map_cons] at e
  rw [Zgg (h r (List.mem_cons_self ..)) (h' r' (List.mem_cons_self ..)) (List.cons.inj e).1,ZbB (λq hq=>h q (List.mem_cons_of_mem _ hq)) (λq hq=>h' q (List.mem_cons_of_mem _ hq)) (List.cons.inj e).2]
theorem Good.one {a:Nat} {ws:List Str} {rs:List (Int×Int)} (ha:a<=9999) (hr:∀ r∈rs,Rd r) (e:ws=rs.map (λr=>mkS (ZaV r))) {n:Int} {rs':List (Int×Int)} (g:Good (num (a:Int)::ws) n rs'):n=a/\rs'=rs:=by
 have h1:=(List.cons.inj g.1).1
 have h2:=(List.cons.inj g.1).2
 refine ⟨(Zbq ⟨by omega,by omega⟩ ⟨by have:=g.2.1.1;omega,by have:=g.2.2.1;omega⟩ h1).symm,ZbB (λr hr'=>ZbF (g.sm r hr').1 (g.sm r hr').2) hr ?_⟩
 rw [<-h2,e]
end M
namespace M
open PySem L2
open PyProof.Rows
def ZiF (T:Addr) (E:XK):XK:=λc o H=>c=.ref T/\E c o H
theorem Zdk {X:Cx} {T:Addr} {E:XK} (h:Za2 X E):Za2 X (ZiF T E):=λpins σ H s a C t B al at_ trk old q=>h pins σ H s a C t B al at_ trk old q.2
section
variable {P:Program} {w:World} {K:PySem.W.Frag} {mg:Str->Option Value} {base:Heap}
def NoS (K:PySem.W.Frag) (H:Hp) (v:V):Prop:=∃ c,ZdT K H v c/\PySem.W.kitOne K c (.type "str")=some false
def Zgh (K:PySem.W.Frag) (T:Addr):Sp:=λvs H Q E=>(∃ x:Str,vs=[.str x]/\Plain x/\(∀ n rs,Good (Txt.split x (" " : Str)) n rs->∀ (wb l:Addr) (xs:List V) (H':Hp),Same H H'->WebAt H' wb l n xs rs->Q (.ref wb) H')/\((∀ n rs,¬ Good (Txt.split x (" " : Str)) n rs)->∀ H',Same H H'->E (.ref T) none H')) \/
 (∃ v,vs=[v]/\NoS K H v/\∀ H',Same H H'->E (.ref T) none H')
theorem scRea:ZaC ["text", "words"] ["text"] (Zaf ZgB):=⟨rfl,rfl,rfl,by decide +kernel,rfl,by decide +kernel,by decide +kernel⟩
theorem ZiG {f fIsn fRoa fO C T:Addr} {fd fdIsn fdRoa fdO:FuncData} {t16 t30:Tok} (F:Fun K "read_web" "read_web" ZgB f fd) (FIsn:Fun K "is_number" "is_number" ZgA fIsn fdIsn) (bIsn:Binds K fdIsn ["word"] []) (mIsn:mg "is_number" = some (.ref fIsn))
  (GIsn:ZaY P w K mg base CX0 2 fIsn fdIsn ["word"] Zhx) (FRoa:Fun K "road_of" "road_of" Zhl fRoa fdRoa) (bRoa:Binds K fdRoa ["word"] []) (mRoa:mg "road_of" = some (.ref fRoa)) (GRoa:ZaY P w K mg base (CXr P w) 3 fRoa fdRoa ["word"] (ZiD T))
  (FO:Fun K "web_of" "web_of" Zcz fO fdO) (bO:Binds K fdO ["places", "roads"] []) (mO:mg "web_of" = some (.ref fO)) (GO:ZaY P w K mg base (CXn P w) 1 fO fdO ["places", "roads"] (Zfy C))
  (mC:mg "NoWeb" = some (.ref C)) (mT:mg "NoText" = some (.ref T)) (xT:ExcC K T) (hbE:PySem.W.subIn K (.ref C) (.type "BaseException")=some true) (hno:PySem.W.kitCls K (.ref T) (.ref C)=some false) (hCC:PySem.W.kitCls K (.ref C) (.ref C)=some true)
  (mMoP:mg "MOST_PLACES" = some (.int 16 t16)) (mMoR:mg "MOST_ROADS" = some (.int 30 t30)) (mIsi:mg "isinstance" = none) (mStr:mg "str" = none) (mInt:mg "int" = none) (mLen:mg "len" = none):ZaY P w K mg base (CXr P w) 4 f fd ["text"] (Zgh K T):=by
 refine F.okR scRea (λvs H Q E h=>?_) (λcdv A outer s H vs Q E hr h=>?_)
 ·rcases h with ⟨_,rfl,_⟩ | ⟨_,rfl,_⟩ <;> rfl
 ·have h16:(16777216:Nat)=sizeLine:=sizeLine_eq.symm
  refine ⟨_,Zae (Zam (i:=1) scRea.nd rfl (Or.inl rfl) (ZfM (Zbr (Zah (Zer K) rfl mIsi ZaK (Zaa (pv 0) (Zaa (Zbs mStr Zbn) Zac)))) (ZcX PySem.F.plainAttrs_str PySem.F.slot_str_split PySem.F.type_str_split Zda (pv 0) (Zaa Zal Zac)) (ZaS (Zaa Zal Zac))))
    (Zae (ZaO (PW.pt (ZbG (ZbI (Zbr (Zay GIsn (hr.mono (by decide)) rfl mIsn FIsn.kp bIsn .nil Zba (Zaa (Zao (Za8 K) (pv 1) Zab (λ_ _=>rfl)) Zac)))) (ZbG (Zai Zdp (ZaI Zfq rfl mInt L2.boot_int (Zaa (Zao (Za8 K) (pv 1) Zab (λ_ _=>rfl)) Zac)) (Zci (v:=.int 16) rfl mMoP ⟨_,rfl⟩) (Zan _)) (Zbv (Zai Zdp (Zaq ZhR (Zah (Ze4 K) rfl mLen PySem.boot_len (Zaa (pv 1) Zac)) Zab) (Zci (v:=.int 30) rfl mMoR ⟨_,rfl⟩) (Zan _)))))) (Zag (ZbK (E:=E) rfl Zby rfl mT xT (Zaa Zal Zac))) Zat)
    (Zag (Zhh (λpins D=>Zag (Zau (Zay GO (hr.mono (by decide)) rfl mO FO.kp bO .nil (Zhg rfl rfl rfl rfl mC hbE Zb9 rfl mT xT (λa=>Zaa Zal Zac)) (Zaa (ZaI Zfq rfl mInt L2.boot_int (Zaa (Zao (Za8 K) (pv 1) Zab (λ_ _=>rfl)) Zac)) (Zaa (Zf8 (EK:=ZiF T E) (own:=["word"]) rfl (Zbx (by decide +kernel) (by decide +kernel) rfl (by decide +kernel)) rfl rfl (Zip rfl rfl rfl mC hbE (Zdk Zb9) (λC H h=>by rw [h.1];exact hno)) (ZfT K (ZaJ (kSl K) (pv 1) (ZaQ Zab) ZaP)) (λ_ _ _ _=>ZaG (i:=0) (show List.Nodup (["word"]:List Str) by decide +kernel) rfl (Or.inl rfl)) (λ_ _ _ _=>Zcb) (λ_ _ _ _ _ pass=>Zay GRoa (hr.mono (by decide)) rfl mRoa FRoa.kp bRoa .nil pass (Zaa (pv 0) Zac))) Zac)))))))),?_⟩
  have nm0:∀ {u:List Str} {n rs},Good u n rs->1<=n/\n<=16:=λg=>⟨g.2.1.1,g.2.2.1⟩
  refine ZaD (λσ1 H1=>∃ (v:V) (l:Addr) (w0:Str) (ws:List Str),σ1=[some v,some (.ref l)]/\Same H H1/\H1 l=some (.lst ((w0::ws).map V.str))/\(∀ u∈w0::ws,Plain u)/\ws.length<=4096/\(∀ n rs,Good (w0::ws) n rs->∀ (wb l:Addr) (xs:List V) (H':Hp),Same H H'->WebAt H' wb l n xs rs->Q (.ref wb) H')/\((∀ n rs,¬ Good (w0::ws) n rs)->∀ H',Same H H'->E (.ref T) none H')) ?_ ?_
  case _=>
   rintro σ1 H1 ⟨v,l,w0,ws,rfl,s1,e1,pl,hws,hg,hb⟩
   have pw0:=pl w0 (List.mem_cons_self ..)
   refine ⟨_,rfl,l,_,_,_,rfl,rfl,SqL.of e1,Zaj (j:=0) rfl,w0,rfl,pw0,λH2 s2=>⟨_,rfl,?_⟩⟩
   cases n1:Zax w0 with
   | false=>
    refine Za6 (Za6 ?_)
    refine ⟨by decide,hb (λn rs g=>?_) _ (s1.trans s2)⟩
    rw [(List.cons.inj g.1).1,Za9 (by have:=(nm0 g).1;omega) (nm0 g).2] at n1
    cases n1
   | true=>
    refine Za5 ?_
    obtain ⟨a,ha,rfl⟩:=Zch n1
    have la:=Zd0 n1
    refine ⟨_,rfl,l,_,_,_,rfl,rfl,SqL.of (s2 _ _ e1),Zaj (j:=0) rfl,num a,a,rfl,Zbp ha,by omega,_,_,rfl,rfl,_,rfl,?_⟩
    by_cases c1:(16:Int)<a
    ·rw [decide_eq_true c1]
     refine Za6 (Za6 ?_)
     refine ⟨by decide,hb (λn rs g=>?_) _ (s1.trans s2)⟩
     have:=Zbq (a:=a) (b:=n) ⟨by omega,by omega⟩ ⟨by have:=(nm0 g).1;omega,by have:=(nm0 g).2;omega⟩ (List.cons.inj g.1).1
     have:=(nm0 g).2
     omega
    rw [decide_eq_false c1]
    refine Za5 ?_
    refine ⟨_,rfl,l,_,rfl,.inl (SqL.of (s2 _ _ e1)),_,_,rfl,rfl,_,_,rfl,rfl,_,rfl,?_⟩
    by_cases c2:(30:Int)<(((num (a:Int)::ws).map V.str).length:Int)-1
    ·rw [decide_eq_true c2]
     refine Za6 ?_
     refine ⟨by decide,hb (λn rs g=>?_) _ (s1.trans s2)⟩
     have h1:=congrArg List.length (List.cons.inj g.1).2
     have h2:=g.2.2.2
     rw [List.length_map] at h1 c2
     rw [List.length_cons] at c2
     omega
    rw [decide_eq_false c2]
    refine Za5 ?_
    rw [List.length_map,List.length_cons] at c2
    refine ⟨_,rfl,l,_,_,_,rfl,rfl,SqL.of (s2 _ _ e1),Zaj (j:=0) rfl,num a,a,rfl,Zbp ha,by omega,?_⟩
    refine ⟨_,rfl,1,rfl,l,_,rfl,SqL.of (s2 _ _ e1),λp hp=>?_⟩
    have ec:Zdu ((num (a:Int)::ws).map V.str) (some 1) none=ws.map V.str:=(ZbM (k:=1)).trans rfl
    rw [ec]
    have s3:Same H2 (upd H2 p (.lst (ws.map V.str))):=Same.new hp
    have e3:upd H2 p (.lst (ws.map V.str)) p=some (.lst (ws.map V.str)):=Zad
    generalize upd H2 p (.lst (ws.map V.str))=H3 at s3 e3 ⊢
    have S3:=s1.trans (s2.trans s3)
    refine ⟨p,rfl,⟨_,SqL.of e3⟩,λD hD=>?_⟩
    refine ZdA (K:=K) (a:=p) (xs:=ws.map V.str) (λi ys H4=>Same H3 H4/\H4 D=some (.lst ys)/\∃ rs,Prs H4 ys rs/\rs.length=i/\(∀ r∈rs,Rd r)/\ws.take i=rs.map (λr=>mkS (ZaV r))) ⟨Same.new hD,Zad,[],.nil,rfl,by simp,rfl⟩ (λi ys H4 _ ⟨s4,_⟩=>SqL.of (s4 _ _ e3)) ?_ ?_
    ·rintro i x ys H4 hxi ⟨s4,hD4,rs,pr4,hl4,hd4,ht4⟩
     rw [List.getElem?_map] at hxi
     obtain ⟨u,hu,rfl⟩:=Option.map_eq_some_iff.mp hxi
     refine ⟨trivial,?_⟩
     unfold Zh1
     refine Za6 ?_
     refine ⟨_,rfl,u,rfl,pl u (List.mem_cons_of_mem _ (List.mem_of_getElem? hu)),?_,?_⟩
     ·intro a' b' ha' hb' ea eb hr5 H5 q s5 hq
      have s6:Same H5 (upd H5 q (.tup [.int (a':Int),.int (b':Int)])):=Same.new hq
      have hlen:=pr4.len
      have hi:i<ws.length:=(List.getElem?_eq_some_iff.mp hu).1
      refine ⟨s6 _ _ (s5 _ _ hD4),by omega,(s4.trans (s5.trans s6)).put hD,Zad,rs++[((a':Int),(b':Int))],((pr4.same (s5.trans s6)).snoc Zad).keep (Zce (s6 _ _ (s5 _ _ hD4))),by simp [hl4],?_,?_⟩
      ·intro r hr
       rcases List.mem_append.mp hr with hr | hr
       ·exact hd4 r hr
       ·rw [List.mem_singleton.mp hr]
        refine ⟨⟨by show (0:Int)<=a';omega,by show (a':Int)<=9999;omega⟩,⟨by show (0:Int)<=b';omega,by show (b':Int)<=9999;omega⟩,?_⟩
        show 45 ∉ (num (a':Int)).cps.toList
        rw [<-ea]
        unfold ZdR at hr5
        rw [Bool.and_eq_true] at hr5
        exact ZfD hr5.1
      ·rw [List.take_add_one,hu,ht4,List.map_append,ZfC ea eb hr5]
       rfl
     ·intro hbad H5 s5
      refine ⟨rfl,hb (λn rs' g=>?_) _ (S3.trans (s4.trans s5))⟩
      have h2:=(List.cons.inj g.1).2
      have hm:=List.mem_of_getElem? hu
      rw [h2] at hm
      obtain ⟨r,hr,rfl⟩:=List.mem_map.mp hm
      rw [ZfB (g.sm r hr).1 (g.sm r hr).2] at hbad
      cases hbad
    ·rintro ys H4 ⟨s4,hD4,rs,pr4,hl4,hd4,ht4⟩
     rw [List.length_map] at hl4 ht4
     rw [List.take_length] at ht4
     have one:=λn rs' (g:Good (num (a:Int)::ws) n rs')=>g.one ha hd4 ht4
     by_cases hw:Zex a rs
     ·refine ⟨D,(a:Int),ys,rs,rfl,hD4,pr4,by omega,.inl ⟨hw,λt l2 H5 s5 ht hl2 _ et el=>?_⟩⟩
      exact hg a rs ⟨by rw [ht4],hw,by omega,by omega⟩ t l2 ys H5 (S3.trans (s4.trans s5)) ⟨et,el,pr4.same s5⟩
     ·refine ⟨D,(a:Int),ys,rs,rfl,hD4,pr4,by omega,.inr ⟨hw,λH5 s5 σ=>⟨C,rfl,hCC,λa' ha'=>⟨by show 1<=sizeLine;omega,Zad,hb (λn rs' g=>?_) _ ((S3.trans (s4.trans s5)).trans (Same.new ha'))⟩⟩⟩⟩
      obtain ⟨rfl,rfl⟩:=one n rs' g
      exact hw g.2.1
  ·intro J
   rcases h with ⟨x,rfl,px,hg,hb⟩ | ⟨v,rfl,⟨c,tc,kc⟩,hb⟩
   ·refine ⟨_,rfl,_,_,true,rfl,⟨_,rfl,Za6 ?_⟩,.inl ⟨_,.str _,rfl,Za0⟩⟩
    have hwl:=px.2.2
    refine ⟨_,rfl,rfl,x,(" " : Str),rfl,rfl,by decide +kernel,by omega,ZcA _ 32 _ hwl,λl hl=>?_⟩
    obtain ⟨w0,ws,_,hp,hlen,e⟩:=ZbT px 32 (by decide)
    have e':Txt.split x (" " : Str)=mkS w0::ws.map mkS:=e
    rw [e'] at hg hb ⊢
    refine J _ _ ⟨_,l,_,_,rfl,Same.new hl,Zad,?_,by rw [List.length_map];exact hlen,hg,hb⟩
    intro u hu
    rcases List.mem_cons.mp hu with rfl | hu
    ·exact (hp _ (List.mem_cons_self ..)).2
    ·obtain ⟨v,hv,rfl⟩:=List.mem_map.mp hu
     exact (hp _ (List.mem_cons_of_mem _ hv)).2
   ·refine ⟨_,rfl,_,_,false,rfl,⟨_,rfl,Za5 ?_⟩,.inl ⟨_,tc,rfl,kc⟩⟩
    refine ⟨by show 1<=sizeLine;omega,λl hl=>?_⟩
    refine J _ _ ⟨_,l,("" : Str),[],rfl,Same.new hl,Zad,?_,Nat.zero_le _,?_,λ_=>hb⟩
    ·intro u hu
     rw [List.mem_singleton.mp hu]
     exact ZbE (by intro c hc;cases hc) (by decide)
    ·intro n rs g
     exfalso
     have g1:=(List.cons.inj g.1).1
     have g2:=Za9 (n:=n) (by have:=(nm0 g).1;omega) (nm0 g).2
     rw [<-g1] at g2
     exact absurd g2 (by decide +kernel)
end
end M
namespace M
open PySem L2
theorem Zb4 (x y:Str):PyData.eqv (.str x) (.str y)=decide (x=y):=by
 simp only [PyData.eqv]
 by_cases h:x=y
 ·subst h;simp
 ·rw [decide_eq_false h];exact beq_eq_false_iff_ne.mpr h
theorem str_nil {x:Str}:x=("" : Str)↔x.length=0:=by
 constructor
 ·rintro rfl;rfl
 ·intro h
  apply Zbo
  have:x.cps.toList.length=0:=by rw [Array.length_toList];exact h
  rw [List.eq_nil_of_length_eq_zero this]
  rfl
theorem ZcB {x:Str} {c:Nat} {t:List Nat} (h:x.cps.toList=c::t):Txt.startswith x ("0" : Str)=decide (c=48):=by
 have hx:x=mkS (c::t):=by rw [<-h];exact Zdj x
 subst hx
 unfold Txt.startswith Builtin.Str.subAt
 have h1:("0" : Str).length=1:=by decide +kernel
 have h2:("0" : Str).cps=#[48]:=by decide +kernel
 have h3:(mkS (c::t)).length=t.length+1:=rfl
 rw [h1,h2,h3]
 have h4:(mkS (c::t)).cps.extract 0 (0+1)=#[c]:=by
  apply Array.ext'
  rw [Array.toList_extract]
  simp [mkS,List.extract_eq_take_drop]
 rw [h4]
 by_cases hc:c=48
 ·subst hc
  simp
 ·rw [decide_eq_false hc]
  have:(#[c] == #[48])=false:=by
   simp [hc]
  rw [this]
  simp
section
variable {P:Program} {w:World} {K:PySem.W.Frag} {mg:Str->Option Value} {base:Heap}
def ZiH:Sp:=λvs H Q _=>∃ x:Str,vs=[.str x]/\Plain x/\(∀ n:Nat,n<=9999->x=num (n:Int)->Zax x=true->Q (.int (n:Int)) H)/\(Zax x=false->Q (.int (-1)) H)
theorem scLnu:ZaC ["word", "sign"] ["word"] (Zaf Zhp):=⟨rfl,rfl,rfl,by decide +kernel,rfl,by decide +kernel,by decide +kernel⟩
theorem ZiI {f:Addr} {fd:FuncData} (F:Fun K "_law_number" "_law_number" Zhp f fd) (mLen:mg "len" = none) (mInt:mg "int" = none):ZaY P w K mg base CX0 1 f fd ["word"] ZiH:=by
 refine F.ok scLnu (λvs H Q E h=>?_) (λcdv A outer s H vs Q E hr h=>?_)
 ·obtain ⟨_,rfl,_⟩:=h
  rfl
 ·obtain ⟨x,rfl,⟨h0,h1,h2⟩,q1,q0⟩:=h
  have hu:=hr.units
  have h16:(16777216:Nat)=sizeLine:=sizeLine_eq.symm
  have hL:x.cps.toList.length=x.length:=Array.length_toList
  refine ⟨_,(@Zae _ _ _ _ _ (@ZaO _ _ _ _ _ _ _ _ (PW.pt (ZbG (Zai (Zi7 K hu) (pv 0) Zal (Zan _)) (ZbG (Zai Zdp (Zah Zfp rfl mLen PySem.boot_len (@Zaa _ _ _ _ _ (pv 0) Zac rfl)) Zab (Zan _)) (Zbv (PW.pt (Zcj (Zai Zdp (Zah Zfp rfl mLen PySem.boot_len (@Zaa _ _ _ _ _ (pv 0) Zac rfl)) Zab (Zan _)) (ZbH (Zai (Zi7 K hu) (Zao ZeT (pv 0) Zab (λ_ _=>rfl)) Zal (Zan _))))))))) (@Zag _ _ _ (@Zau _ _ _ _ (ZhQ Ze6 Zab))) Zat)
    (@Zae _ _ _ _ _ (@Zck _ _ _ _ _ _ _ _ PassesOwn.never rfl (Zgy (pv 0)) (ZaG (i:=1) scLnu.nd rfl (Or.inl rfl))
    (@Zag _ _ _ (@ZaO _ _ _ _ _ _ _ _ (Zai Zhi (pv 1) Zal (by with_unfolding_all rfl)) (@Zag _ _ _ (@Zau _ _ _ _ (ZhQ Ze6 Zab))) Zat)) (by intro _;rfl))
    (@Zag _ _ _ (@Zau _ _ _ _ (ZaI Zfq rfl mInt boot_int (@Zaa _ _ _ _ _ (pv 0) Zac rfl)))))),?_⟩
  refine ZaD (λσ1 H1=>σ1=[some (.str x),none]/\H1=H/\x.length≠0/\x.length<=4/\∀ c t,x.cps.toList=c::t->(decide (x=("0" : Str)) || !decide (c=48))=true) ?_ (λJ=>?_)
  case _=>
   rintro σ1 H1 ⟨rfl,rfl,c0,c4,hz⟩
   obtain ⟨c,t,ect⟩:∃ c t,x.cps.toList=c::t:=by
    cases hx:x.cps.toList with
    | nil=>rw [hx] at hL;exact absurd hL.symm c0
    | cons c t=>exact ⟨c,t,rfl⟩
   have eN:Zax x=(x.cps.toList.all λc=>decide (c∈("0123456789" : Str).cps.toList)):=by
    unfold Zax
    rw [decide_eq_true (by omega:0<x.length),decide_eq_true c4,ZcB ect,Zb4,hz c t ect]
    simp
   refine ⟨_,rfl,x,rfl,h0,?_⟩
   refine Zhj (x:=x) (λj σ2 H2=>∃ v,σ2=[some (.str x),v]/\H2=H1/\∀ c∈x.cps.toList.take j,c∈("0123456789" : Str).cps.toList) ⟨_,rfl,rfl,by simp⟩ ?_ ?_
   ·rintro j c σ2 H2 hc ⟨v,rfl,rfl,hd⟩
    have hc':x.cps.toList[j]?=some c:=by rw [Array.getElem?_toList];exact hc
    refine ⟨_,rfl,c,_,rfl,rfl,_,rfl,?_⟩
    by_cases hm:c∈("0123456789" : Str).cps.toList
    ·rw [decide_eq_true hm]
     refine Za5 ⟨_,rfl,rfl,?_⟩
     intro d hd'
     rw [List.take_add_one,hc'] at hd'
     rcases List.mem_append.mp hd' with z | z
     ·exact hd d z
     ·rw [List.mem_singleton.mp z];exact hm
    ·rw [decide_eq_false hm]
     refine Za6 ?_
     refine ⟨_,rfl,q0 ?_⟩
     rw [eN,Bool.eq_false_iff]
     intro z
     exact hm (of_decide_eq_true (List.all_eq_true.mp z c (List.mem_of_getElem? hc')))
   ·rintro σ2 H2 ⟨v,rfl,rfl,hd⟩
    have full:x.cps.toList.take x.cps.size=x.cps.toList:=List.take_of_length_le (by rw [Array.length_toList];exact Nat.le_refl _)
    rw [full] at hd
    have n1:Zax x=true:=by
     rw [eN,List.all_eq_true]
     exact λc hc=>decide_eq_true (hd c hc)
    obtain ⟨a,ha,ea⟩:=Zch n1
    have g:=q1 a ha ea n1
    refine ⟨_,rfl,x,a,rfl,by rw [ea];exact Zbp ha,by omega,g⟩
  refine ⟨_,rfl,.str x,.str ("" : Str),.str _,.str _,ZaN h1,ZaN (by decide +kernel),_,rfl,?_⟩
  rw [Zb4]
  have e1:decide (x=("" : Str))=decide (x.length=0):=by
   by_cases z:x.length=0
   ·rw [decide_eq_true z,decide_eq_true (str_nil.mpr z)]
   ·rw [decide_eq_false z,decide_eq_false λy=>z (str_nil.mp y)]
  rw [e1]
  by_cases c0:x.length=0
  ·rw [decide_eq_true c0]
   refine Za6 (Za6 ?_)
   exact ⟨_,rfl,q0 (by unfold Zax;rw [decide_eq_false (by omega:¬ 0<x.length)];simp)⟩
  rw [decide_eq_false c0]
  refine Za5 ?_
  refine ⟨_,rfl,x,rfl,by omega,_,_,rfl,rfl,_,rfl,?_⟩
  by_cases c4:(4:Int)<(x.length:Int)
  ·rw [decide_eq_true c4]
   refine Za6 (Za6 ?_)
   exact ⟨_,rfl,q0 (by unfold Zax;rw [decide_eq_false (by omega:¬ x.length<=4)];simp)⟩
  rw [decide_eq_false c4]
  refine Za5 ?_
  obtain ⟨c,t,ect⟩:∃ c t,x.cps.toList=c::t:=by
   cases hx:x.cps.toList with
   | nil=>rw [hx] at hL;exact absurd hL.symm c0
   | cons c t=>exact ⟨c,t,rfl⟩
  have eN:Zax x=((x.cps.toList.all λc=>decide (c∈("0123456789" : Str).cps.toList)) && (decide (x=("0" : Str)) || !decide (c=48))):=by
   unfold Zax
   rw [decide_eq_true (by omega:0<x.length),decide_eq_true (by omega:x.length<=4),ZcB ect,Zb4]
   simp
  have bad:(decide (x=("0" : Str)) || !decide (c=48))=false->Q (.int (-1)) H:=λz=>q0 (by rw [eN,z,Bool.and_false])
  have fin:(decide (x=("0" : Str)) || !decide (c=48))=true->∀ c t,x.cps.toList=c::t->(decide (x=("0" : Str)) || !decide (c=48))=true:=λz c' t' e=>by rw [ect] at e;cases e;exact z
  refine ⟨_,rfl,x,rfl,by omega,_,_,rfl,rfl,_,rfl,?_⟩
  by_cases c1:(1:Int)<(x.length:Int)
  ·rw [decide_eq_true c1]
   refine Za6 ?_
   refine ⟨_,rfl,x,0,c,rfl,rfl,by omega,by rw [ect];exact Zaj (j:=0) rfl,?_⟩
   have hc8:PyData.strOk ⟨#[c]⟩=true:=by
    unfold PyData.strOk at h1 ⊢
    rw [Array.all_eq_true'] at h1
    have hm:c∈x.cps.toList:=by rw [ect];exact List.mem_cons_self ..
    have:=h1 c (by simpa using hm)
    simpa using this
   refine ⟨.str ⟨#[c]⟩,.str ("0" : Str),.str _,.str _,ZaN hc8,ZaN (by decide +kernel),_,rfl,?_⟩
   rw [Zb4]
   have x0:decide (x=("0" : Str))=false:=decide_eq_false λz=>by
    rw [z] at c1
    exact absurd c1 (by decide +kernel)
   have ec:decide ((⟨#[c]⟩:Str)=("0" : Str))=decide (c=48):=by
    by_cases z:c=48
    ·subst z;decide +kernel
    ·rw [decide_eq_false z]
     refine decide_eq_false λy=>z ?_
     have:=congrArg (λu:Str=>u.cps.toList) y
     have e0:("0" : Str).cps.toList=[48]:=by decide +kernel
     simp only [e0] at this
     exact (List.cons.inj this).1
   rw [ec]
   by_cases z:c=48
   ·rw [decide_eq_true z]
    refine Za6 ?_
    exact ⟨_,rfl,bad (by rw [x0,decide_eq_true z];rfl)⟩
   ·rw [decide_eq_false z]
    refine Za5 ?_
    exact J _ _ ⟨rfl,rfl,c0,by omega,fin (by rw [decide_eq_false z];simp)⟩
  ·rw [decide_eq_false c1]
   refine Za5 (Za5 ?_)
   refine J _ _ ⟨rfl,rfl,c0,by omega,fin ?_⟩
   by_cases z:c=48
   ·have hx:x=("0" : Str):=by
     apply Zbo
     rw [ect]
     have ht:t=[]:=by
      apply List.eq_nil_of_length_eq_zero
      rw [ect,List.length_cons] at hL
      omega
     rw [ht,z]
     decide +kernel
    rw [decide_eq_true hx]
    rfl
   ·rw [decide_eq_false z];simp
end
end M
namespace M
open PySem L2
section
variable {P:Program} {w:World} {K:PySem.W.Frag} {mg:Str->Option Value} {base:Heap}
theorem Good.at {w0:Str} {ws:List Str} {n:Int} {rs:List (Int×Int)} (g:Good (w0::ws) n rs) {i:Nat} {u:Str} (hu:ws[i]?=some u):∃ r,rs[i]?=some r/\u=mkS (ZaV r)/\r∈rs:=by
 rw [(List.cons.inj g.1).2,List.getElem?_map] at hu
 obtain ⟨r,hr,e⟩:=Option.map_eq_some_iff.mp hu
 exact ⟨r,hr,e.symm,List.mem_of_getElem? hr⟩
theorem ZcR {r:Int×Int} (h1:0<=r.1/\r.1<=16) (h2:0<=r.2/\r.2<=16):Txt.split (mkS (ZaV r)) ("-" : Str)=[num r.1,num r.2]:=by
 have h:=Zcx (x:=mkS (ZaV r)) (c:=45) (by decide) (w:=(num r.1).cps.toList) (ws:=[(num r.2).cps.toList]) (by
  show ZaV r=_
  unfold ZaV
  simp) (by
  intro v hv
  rcases List.mem_cons.mp hv with rfl | hv
  ·exact (ZbS h1.1 h1.2).da
  ·rw [List.mem_singleton.mp hv]
   exact (ZbS h2.1 h2.2).da)
 refine (show Txt.split (mkS (ZaV r)) ("-" : Str)=_ from h).trans ?_
 rfl
def NumZ (x:Str) (z:Int):Prop:=(Zax x=true/\(0<=z/\z<=9999)/\x=num z)\/(Zax x=false/\z=-1)
theorem NumZ.of {x:Str} {z n:Int} (h:NumZ x z) (hn:0<=n/\n<=16) (e:x=num n):z=n:=by
 rcases h with ⟨_,hz,ez⟩ | ⟨hb,_⟩
 ·exact Zbq hz ⟨hn.1,by omega⟩ (ez.symm.trans e)
 ·rw [e,Za9 hn.1 hn.2] at hb;cases hb
theorem Zez {x:Str} {a b:Nat} (hs:Txt.split x ("-" : Str)=[num (a:Int),num (b:Int)]) (p:Plain x):x=mkS (ZaV ((a:Int),(b:Int))):=by
 obtain ⟨w0,ws,e,_,_,hsp⟩:=ZbT p 45 (by decide)
 have hsp:Txt.split x ("-" : Str)=(w0::ws).map mkS:=hsp
 rw [hs] at hsp
 match ws,hsp with
 | [v],hsp=>
  have e1:num (a:Int)=mkS w0:=(List.cons.inj hsp).1
  have e2:num (b:Int)=mkS v:=(List.cons.inj (List.cons.inj hsp).2).1
  apply Zbo
  rw [e]
  show _=ZaV _
  unfold ZaV
  rw [e1,e2]
  simp [mkS]
def Zgi:Sp:=λvs H Q _=>∃ x:Str,vs=[.str x]/\Plain x/\(∀ n rs,Good (Txt.split x (" " : Str)) n rs->∀ (wb l:Addr) (xs:List V) (H':Hp),Same H H'->WebAt H' wb l n xs rs->Q (.ref wb) H')/\((∀ n rs,¬ Good (Txt.split x (" " : Str)) n rs)->∀ H',Same H H'->Q .non H')
theorem scLre:ZaC ["text", "words", "places", "roads", "word", "parts", "one", "other"] ["text"] (Zaf ZgE):=⟨rfl,rfl,rfl,by decide +kernel,rfl,by decide +kernel,by decide +kernel⟩
theorem ZiJ {f fLnu:Addr} {fd fdLnu:FuncData} (F:Fun K "_law_read" "_law_read" ZgE f fd) (FLnu:Fun K "_law_number" "_law_number" Zhp fLnu fdLnu) (bLnu:Binds K fdLnu ["word"] []) (mLnu:mg "_law_number" = some (.ref fLnu)) (GLnu:ZaY P w K mg base CX0 1 fLnu fdLnu ["word"] ZiH)
  (mLen:mg "len" = none):ZaY P w K mg base CX0 2 f fd ["text"] Zgi:=by
 refine F.ok scLre (λvs H Q E h=>?_) (λcdv A outer s H vs Q E hr h=>?_)
 ·obtain ⟨_,rfl,_⟩:=h
  rfl
 ·obtain ⟨x,rfl,px,hg,hb⟩:=h
  have hu5:(A.deeper (PyProof.Rows.envOfC "_law_read" (Zaf ZgE) s.heap.objs.size f cdv)).units+65<cLine:=by have:=hr.un;omega
  have h16:(16777216:Nat)=sizeLine:=sizeLine_eq.symm
  refine ⟨_,(@Zae _ _ _ _ _ (@Zam _ _ 1 _ _ _ _ scLre.nd rfl (Or.inl rfl) (ZcX PySem.F.plainAttrs_str PySem.F.slot_str_split PySem.F.type_str_split Zda (pv 0) (@Zaa _ _ _ _ _ Zal Zac rfl)) rfl (by first | exact .inl rfl | exact .inr rfl))
    (@Zae _ _ _ _ _ (@Zam _ _ 2 _ _ _ _ scLre.nd rfl (Or.inl rfl) (@Zay _ _ _ _ _ _ _ _ _ _ _ _ _ _ _ _ GLnu (hr.mono (by decide)) rfl mLnu FLnu.kp bLnu .nil Zba (@Zaa _ _ _ _ _ (@Zao _ _ _ _ _ _ _ (Za8 K) (pv 1) Zab (λ_ _=>rfl)) Zac rfl) (by decide) rfl rfl) rfl (by first | exact .inl rfl | exact .inr rfl))
    (@Zae _ _ _ _ _ (@Zam _ _ 3 _ _ _ _ scLre.nd rfl (Or.inl rfl) (@ZaS _ _ _ _ Zac) rfl (by first | exact .inl rfl | exact .inr rfl))
    (@Zae _ _ _ _ _ (@Zck _ _ _ _ _ _ _ _ PassesOwn.never rfl (ZfT K (ZaJ (kSl K) (pv 1) (ZaQ Zab) ZaP)) (ZaG (i:=4) scLre.nd rfl (Or.inl rfl))
    (@Zae _ _ _ _ _ (@Zam _ _ 5 _ _ _ _ scLre.nd rfl (Or.inl rfl) (ZcX PySem.F.plainAttrs_str PySem.F.slot_str_split PySem.F.type_str_split Zda (pv 4) (@Zaa _ _ _ _ _ Zal Zac rfl)) rfl (by first | exact .inl rfl | exact .inr rfl))
    (@Zae _ _ _ _ _ (@ZaO _ _ _ _ _ _ _ _ (Zai ZeM (Zah (Ze4 K) rfl mLen PySem.boot_len (@Zaa _ _ _ _ _ (pv 5) Zac rfl)) Zab (Zan _)) (@Zag _ _ _ (@Zau _ _ _ _ Zb5)) Zat)
    (@Zae _ _ _ _ _ (@Zam _ _ 6 _ _ _ _ scLre.nd rfl (Or.inl rfl) (@Zay _ _ _ _ _ _ _ _ _ _ _ _ _ _ _ _ GLnu (hr.mono (by decide)) rfl mLnu FLnu.kp bLnu .nil Zba (@Zaa _ _ _ _ _ (@Zao _ _ _ _ _ _ _ (Za8 K) (pv 5) Zab (λ_ _=>rfl)) Zac rfl) (by decide) rfl rfl) rfl (by first | exact .inl rfl | exact .inr rfl))
    (@Zae _ _ _ _ _ (@Zam _ _ 7 _ _ _ _ scLre.nd rfl (Or.inl rfl) (@Zay _ _ _ _ _ _ _ _ _ _ _ _ _ _ _ _ GLnu (hr.mono (by decide)) rfl mLnu FLnu.kp bLnu .nil Zba (@Zaa _ _ _ _ _ (@Zao _ _ _ _ _ _ _ (Za8 K) (pv 5) Zab (λ_ _=>rfl)) Zac rfl) (by decide) rfl rfl) rfl (by first | exact .inl rfl | exact .inr rfl))
    (@Zae _ _ _ _ _ (@ZaO _ _ _ _ _ _ _ _ (PW.pt (ZbG (Zai Zdo (pv 6) Zab (Zan _)) (ZbG (Zai ZgM (pv 6) (pv 7) (Zan _)) (ZbG (Zai ZgM (pv 7) (pv 2) (Zan _)) (Zbv (Zai (Zk4 K hu5) (@ZaW _ _ _ _ _ (@Zaa _ _ _ _ _ (pv 6) (@Zaa _ _ _ _ _ (pv 7) Zac rfl) rfl)) (pv 3) (by with_unfolding_all rfl))))))) (@Zag _ _ _ (@Zau _ _ _ _ Zb5)) Zat)
    (@Zag _ _ _ (ZcU (ZcX PySem.F.plainAttrs_list PySem.F.slot_list_append PySem.F.type_list_append Zbf (pv 3) (@Zaa _ _ _ _ _ (@ZaW _ _ _ _ _ (@Zaa _ _ _ _ _ (pv 6) (@Zaa _ _ _ _ _ (pv 7) Zac rfl) rfl)) Zac rfl))))))))) (by intro _;rfl))
    (@Zae _ _ _ _ _ (@ZaO _ _ _ _ _ _ _ _ (PW.pt (ZbG (Zai Zdo (pv 2) Zab (Zan _)) (ZbG (Zai Zdp (pv 2) Zab (Zan _)) (Zbv (Zai Zdp (Zah (Ze4 K) rfl mLen PySem.boot_len (@Zaa _ _ _ _ _ (pv 3) Zac rfl)) Zab (Zan _)))))) (@Zag _ _ _ (@Zau _ _ _ _ Zb5)) Zat)
    (@Zag _ _ _ (@Zau _ _ _ _ (@ZaW _ _ _ _ _ (@Zaa _ _ _ _ _ (pv 2) (@Zaa _ _ _ _ _ (pv 3) Zac rfl) rfl))))))))),?_⟩
  have hwl:=px.2.2
  refine ⟨_,rfl,rfl,x,(" " : Str),rfl,rfl,by decide +kernel,by omega,ZcA _ 32 _ hwl,λl hl=>?_⟩
  obtain ⟨w0,ws,pl,hws,e⟩:∃ (w0:Str) (ws:List Str),(∀ u∈w0::ws,Plain u)/\ws.length<=4096/\Txt.split x (" " : Str)=w0::ws:=by
   obtain ⟨w0,ws,_,hp,hlen,e⟩:=ZbT px 32 (by decide)
   refine ⟨mkS w0,ws.map mkS,?_,by rw [List.length_map];exact hlen,e⟩
   intro u hu
   rcases List.mem_cons.mp hu with rfl | hu
   ·exact (hp _ (List.mem_cons_self ..)).2
   ·obtain ⟨v,hv,rfl⟩:=List.mem_map.mp hu
    exact (hp _ (List.mem_cons_of_mem _ hv)).2
  rw [e] at hg hb ⊢
  have s1:Same H (upd H l (.lst ((w0::ws).map V.str))):=Same.new hl
  have e1:upd H l (.lst ((w0::ws).map V.str)) l=some (.lst ((w0::ws).map V.str)):=Zad
  generalize upd H l (.lst ((w0::ws).map V.str))=H1 at s1 e1 ⊢
  dsimp only [ZbU]
  refine ZaD (λσ2 H2=>∃ z:Int,NumZ w0 z/\σ2=[some (.str x),some (.ref l),some (.int z),none,none,none,none,none]/\H2=H1) ?_ (λJ=>?_)
  case _=>
   rintro σ2 H2 ⟨pz,hz,rfl,rfl⟩
   refine ⟨Nat.zero_le _,λR hR=>?_⟩
   have s2:Same H2 (upd H2 R (.lst [])):=Same.new hR
   have e2:upd H2 R (.lst []) R=some (.lst []):=Zad
   have hRo:H2 R=none:=hR
   generalize upd H2 R (.lst [])=H3 at s2 e2 ⊢
   dsimp only [ZbU]
   refine ⟨_,rfl,1,rfl,l,_,rfl,SqL.of (s2 _ _ e1),λp hp=>?_⟩
   have ec:Zdu ((w0::ws).map V.str) (some 1) none=ws.map V.str:=(ZbM (k:=1)).trans rfl
   rw [ec]
   have s3:Same H3 (upd H3 p (.lst (ws.map V.str))):=Same.new hp
   have e3:upd H3 p (.lst (ws.map V.str)) p=some (.lst (ws.map V.str)):=Zad
   have e2':=s3 _ _ e2
   have hpR:p≠R:=λz=>by rw [z] at hp;rw [hp] at e2;cases e2
   generalize upd H3 p (.lst (ws.map V.str))=H4 at s3 e3 e2' ⊢
   have S4:=s2.trans s3
   refine ⟨p,rfl,⟨_,SqL.of e3⟩,?_⟩
   refine Zd4 (K:=K) (a:=p) (xs:=ws.map V.str) (λi σ H5=>∃ (ys:List V) (rs:List (Int×Int)) (v4 v5 v6 v7:Option V),σ=[some (.str x),some (.ref l),some (.int pz),some (.ref R),v4,v5,v6,v7]/\Same H2 H5/\H5 p=some (.lst (ws.map V.str))/\H5 R=some (.lst ys)/\Prs H5 ys rs/\rs.length=i/\(∀ r∈rs,Rd r)/\ws.take i=rs.map (λr=>mkS (ZaV r))/\(∀ r∈rs,0<=r.1/\r.1<r.2/\r.2<pz)/\rs.Nodup)
    ⟨[],[],none,none,none,none,rfl,S4,e3,e2',.nil,rfl,by simp,rfl,by simp,List.nodup_nil⟩ (λi σ H5 _ ⟨_,_,_,_,_,_,_,_,e5,_⟩=>SqL.of e5) ?_ ?_
   ·rintro i v σ H5 hxi ⟨ys,rs,v4,v5,v6,v7,rfl,s5,e5,eR,pr,hlen,hrd,htk,hrs,hnd⟩
    rw [List.getElem?_map] at hxi
    obtain ⟨u,hu,rfl⟩:=Option.map_eq_some_iff.mp hxi
    have hi:i<ws.length:=(List.getElem?_eq_some_iff.mp hu).1
    have pu:=pl u (List.mem_cons_of_mem _ (List.mem_of_getElem? hu))
    have hul:=pu.2.2
    have inR:∀ {n rs'},Good (w0::ws) n rs'->n=pz:=λg=>(hz.of ⟨by have:=g.2.1.1;omega,g.2.2.1⟩ (List.cons.inj g.1).1).symm
    have inT:∀ {n rs'},Good (w0::ws) n rs'->rs'.take i=rs:=λ{n rs'} g=>by
     refine ZbB (λr hr=>ZbF (g.sm r (List.mem_of_mem_take hr)).1 (g.sm r (List.mem_of_mem_take hr)).2) hrd ?_
     rw [<-htk,(List.cons.inj g.1).2,List.map_take]
    refine ⟨_,rfl,rfl,u,("-" : Str),rfl,rfl,by decide +kernel,by omega,ZcA _ 45 _ hul,λq hq=>?_⟩
    obtain ⟨u0,us,ppl,pe⟩:∃ (u0:Str) (us:List Str),(∀ y∈u0::us,Plain y)/\Txt.split u ("-" : Str)=u0::us:=by
     obtain ⟨w0,ws,_,hp,hlen,e⟩:=ZbT pu 45 (by decide)
     refine ⟨mkS w0,ws.map mkS,?_,e⟩
     intro y hy
     rcases List.mem_cons.mp hy with rfl | hy
     ·exact (hp _ (List.mem_cons_self ..)).2
     ·obtain ⟨v,hv,rfl⟩:=List.mem_map.mp hy
      exact (hp _ (List.mem_cons_of_mem _ hv)).2
    rw [pe]
    have s6:Same H5 (upd H5 q (.lst ((u0::us).map V.str))):=Same.new hq
    have e6:upd H5 q (.lst ((u0::us).map V.str)) q=some (.lst ((u0::us).map V.str)):=Zad
    generalize upd H5 q (.lst ((u0::us).map V.str))=H6 at s6 e6 ⊢
    have S6:=s1.trans (s5.trans s6)
    dsimp only [ZbU]
    refine ⟨_,rfl,q,_,rfl,.inl (SqL.of e6),rfl,_,rfl,?_⟩
    refine Zcr (λc=>?_) (λc=>?_)
    ·refine hb (λn rs' g=>?_) _ S6
     obtain ⟨r,_,eu,hm⟩:=g.at hu
     rw [eu,ZcR (g.sm r hm).1 (g.sm r hm).2] at pe
     rw [<-pe] at c
     exact absurd c (by simp)
    ·have c':us.length=1:=by
      simp at c
      omega
     obtain ⟨u1,rfl⟩:∃ u1,us=[u1]:=by
      match us,c' with
      | [u1],_=>exact ⟨u1,rfl⟩
     have pu0:=ppl u0 (List.mem_cons_self ..)
     have pu1:=ppl u1 (List.mem_cons_of_mem _ (List.mem_cons_self ..))
     dsimp only [ZcT]
     refine ZaD (λσ7 H7=>∃ a:Int,NumZ u0 a/\σ7=[some (.str x),some (.ref l),some (.int pz),some (.ref R),some (.str u),some (.ref q),some (.int a),v7]/\H7=H6) ?_ (λJ7=>⟨_,rfl,q,_,_,_,rfl,rfl,SqL.of e6,Zaj (j:=0) rfl,u0,rfl,pu0,λn hn e0 n1=>J7 _ _ ⟨n,.inl ⟨n1,⟨by omega,by omega⟩,e0⟩,rfl,rfl⟩,λn1=>J7 _ _ ⟨-1,.inr ⟨n1,rfl⟩,rfl,rfl⟩⟩)
     rintro σ7 H7 ⟨a,ha,rfl,rfl⟩
     refine ZaD (λσ8 H8=>∃ b:Int,NumZ u1 b/\σ8=[some (.str x),some (.ref l),some (.int pz),some (.ref R),some (.str u),some (.ref q),some (.int a),some (.int b)]/\H8=H7) ?_ (λJ8=>⟨_,rfl,q,_,_,_,rfl,rfl,SqL.of e6,Zaj (j:=1) rfl,u1,rfl,pu1,λn hn e0 n1=>J8 _ _ ⟨n,.inl ⟨n1,⟨by omega,by omega⟩,e0⟩,rfl,rfl⟩,λn1=>J8 _ _ ⟨-1,.inr ⟨n1,rfl⟩,rfl,rfl⟩⟩)
     rintro σ8 H8 ⟨b,hb1,rfl,rfl⟩
     have key:∀ {n rs'},Good (w0::ws) n rs'->0<=a/\a<b/\b<pz/\(a,b) ∉ rs:=λ{n rs'} g=>by
      obtain ⟨r,hr,eu,hm⟩:=g.at hu
      have hs:=g.sm r hm
      rw [eu,ZcR hs.1 hs.2] at pe
      have ea:=ha.of hs.1 (List.cons.inj pe).1.symm
      have eb:=hb1.of hs.2 (List.cons.inj (List.cons.inj pe).2).1.symm
      have hw:=g.2.1.2.1 r hm
      rw [inR g] at hw
      subst ea
      subst eb
      refine ⟨hw.1,hw.2.1,hw.2.2,λz=>?_⟩
      rw [<-inT g] at z
      obtain ⟨j,hj,ej⟩:=List.getElem_of_mem z
      rw [List.length_take] at hj
      rw [List.getElem_take] at ej
      obtain ⟨hi',er⟩:=List.getElem?_eq_some_iff.mp hr
      exact List.pairwise_iff_getElem.mp g.2.1.2.2 j i (by omega) hi' (by omega) (by rw [ej,er])
     have bad:¬ (0<=a/\a<b/\b<pz/\(a,b) ∉ rs)->∀ H',Same H H'->Q .non H':=λz=>hb λn rs' g=>z (key g)
     refine ⟨_,rfl,_,_,rfl,rfl,_,rfl,?_⟩
     by_cases d1:a<0
     ·rw [decide_eq_true d1]
      refine Za6 (Za6 ?_)
      exact bad (λz=>by omega) _ S6
     rw [decide_eq_false d1]
     refine Za5 ⟨_,rfl,_,rfl,_,_,rfl,rfl,_,rfl,?_⟩
     by_cases d2:b<=a
     ·rw [decide_eq_true d2]
      refine Za6 (Za6 ?_)
      exact bad (λz=>by omega) _ S6
     rw [decide_eq_false d2]
     refine Za5 ⟨_,rfl,_,rfl,_,_,rfl,rfl,_,rfl,?_⟩
     by_cases d3:pz<=b
     ·rw [decide_eq_true d3]
      refine Za6 (Za6 ?_)
      exact bad (λz=>by omega) _ S6
     rw [decide_eq_false d3]
     refine Za5 ⟨_,rfl,_,rfl,ZaU,λT hT=>?_⟩
     have s9:Same H8 (upd H8 T (.tup [.int a,.int b])):=Same.new hT
     have e9:upd H8 T (.tup [.int a,.int b]) T=some (.tup [.int a,.int b]):=Zad
     generalize upd H8 T (.tup [.int a,.int b])=H9 at s9 e9 ⊢
     have eR9:=s9 _ _ (s6 _ _ eR)
     refine ⟨_,rfl,R,ys,prD (a,b),rs.map prD,rfl,.inl (SqL.of eR9),.tup (SqT.of e9) (.cons (.int _) (.cons (.int _) .nil)),(pr.same (s6.trans s9)).dats,Zb0 _,Zeb _,_,rfl,?_⟩
     rw [Ze7]
     by_cases d4:(a,b)∈rs
     ·rw [decide_eq_true d4]
      refine Za6 ?_
      exact bad (λz=>z.2.2.2 d4) _ (S6.trans s9)
     rw [decide_eq_false d4]
     refine Za5 ?_
     have hyl:=pr.len
     refine ⟨_,rfl,.inl ⟨rfl,_,SqL.of eR9⟩,_,rfl,_,rfl,ZaU,λT2 hT2=>?_⟩
     have s10:Same H9 (upd H9 T2 (.tup [.int a,.int b])):=Same.new hT2
     have e10:upd H9 T2 (.tup [.int a,.int b]) T2=some (.tup [.int a,.int b]):=Zad
     generalize upd H9 T2 (.tup [.int a,.int b])=H10 at s10 e10 ⊢
     have eR10:=s10 _ _ eR9
     refine ⟨R,_,_,rfl,rfl,eR10,by omega,?_⟩
     have ga:Zax u0=true/\(0<=a/\a<=9999)/\u0=num a:=ha.resolve_right λz=>by have:=z.2;omega
     have gb:Zax u1=true/\(0<=b/\b<=9999)/\u1=num b:=hb1.resolve_right λz=>by have:=z.2;omega
     have hne:p≠R:=hpR
     refine ⟨_,rs++[(a,b)],_,_,_,_,rfl,((s5.trans s6).trans (s9.trans s10)).put hRo,Ze1 (s10 _ _ (s9 _ _ (s6 _ _ e5))) hne,Zad,((pr.same (s6.trans (s9.trans s10))).snoc e10).keep (Zce eR10),by simp [hlen],?_,?_,?_,?_⟩
     ·intro r hr
      rcases List.mem_append.mp hr with hr | hr
      ·exact hrd r hr
      ·rw [List.mem_singleton.mp hr]
       refine ⟨ga.2.1,gb.2.1,?_⟩
       show 45 ∉ (num a).cps.toList
       rw [<-ga.2.2]
       exact ZfD ga.1
     ·rw [List.take_add_one,hu,htk,List.map_append]
      have:u=mkS (ZaV (a,b)):=by
       obtain ⟨a',rfl⟩:=Int.eq_ofNat_of_zero_le ga.2.1.1
       obtain ⟨b',rfl⟩:=Int.eq_ofNat_of_zero_le gb.2.1.1
       exact Zez (by rw [pe,ga.2.2,gb.2.2]) pu
      rw [this]
      rfl
     ·intro r hr
      rcases List.mem_append.mp hr with hr | hr
      ·exact hrs r hr
      ·rw [List.mem_singleton.mp hr]
       exact ⟨by show 0<=a;omega,by show a<b;omega,by show b<pz;omega⟩
     ·rw [List.nodup_append]
      refine ⟨hnd,by simp,?_⟩
      intro r hr r' hr' ee
      rw [List.mem_singleton.mp hr'] at ee
      subst ee
      exact d4 hr
   ·rintro σ H5 ⟨ys,rs,v4,v5,v6,v7,rfl,s5,e5,eR,pr,hlen,hrd,htk,hrs,hnd⟩
    rw [List.length_map] at hlen htk
    rw [List.take_length] at htk
    have S5:=s1.trans s5
    have hyl:=pr.len
    have bad:¬ (1<=pz/\pz<=16/\rs.length<=30)->∀ H',Same H H'->Q .non H':=λz=>hb λn rs' g=>z (by
     have en:=hz.of ⟨by have:=g.2.1.1;omega,g.2.2.1⟩ (List.cons.inj g.1).1
     have h1:=congrArg List.length (List.cons.inj g.1).2
     rw [List.length_map] at h1
     have:=g.2.1.1
     have:=g.2.2
     omega)
    refine ⟨_,rfl,_,_,rfl,rfl,_,rfl,?_⟩
    by_cases d1:pz<1
    ·rw [decide_eq_true d1]
     refine Za6 (Za6 ?_)
     exact bad (λz=>by omega) _ S5
    rw [decide_eq_false d1]
    refine Za5 ⟨_,rfl,_,_,rfl,rfl,_,rfl,?_⟩
    by_cases d2:16<pz
    ·rw [decide_eq_true d2]
     refine Za6 (Za6 ?_)
     exact bad (λz=>by omega) _ S5
    rw [decide_eq_false d2]
    refine Za5 ⟨_,rfl,R,_,rfl,.inl (SqL.of eR),_,_,rfl,rfl,_,rfl,?_⟩
    by_cases d3:(30:Int)<(ys.length:Int)
    ·rw [decide_eq_true d3]
     refine Za6 ?_
     exact bad (λz=>by omega) _ S5
    rw [decide_eq_false d3]
    refine Za5 ⟨_,rfl,_,rfl,ZaU,λwb hwb=>?_⟩
    have s6:Same H5 (upd H5 wb (.tup [.int pz,.ref R])):=Same.new hwb
    have gz:=hz.resolve_right λz=>by have:=z.2;omega
    exact hg pz rs ⟨by rw [<-gz.2.2,htk],⟨by omega,hrs,hnd⟩,by omega,by omega⟩ wb R ys _ (S5.trans s6) ⟨Zad,s6 _ _ eR,pr.same s6⟩
  ·refine ⟨_,rfl,l,_,_,_,rfl,rfl,SqL.of e1,Zaj (j:=0) rfl,w0,rfl,pl _ (List.mem_cons_self ..),λn hn e0 n1=>?_,λn1=>?_⟩
   ·exact J _ _ ⟨n,.inl ⟨n1,⟨by omega,by omega⟩,e0⟩,rfl,rfl⟩
   ·exact J _ _ ⟨-1,.inr ⟨n1,rfl⟩,rfl,rfl⟩
end
end M
namespace M
open PySem L2
def Pn (k:Nat) (x:Str):Prop:=(∀ c∈x.cps.toList,c<128)/\x.length<=k
theorem Pn.app {k j:Nat} {x y:Str} (h:Pn k x) (g:Pn j y):Pn (k+j) (x++y):=by
 refine ⟨λc hc=>?_,by rw [PySem.Str.length_append];have:=h.2;have:=g.2;omega⟩
 rw [Zhv] at hc
 rcases List.mem_append.mp hc with z | z
 ·exact h.1 c z
 ·exact g.1 c z
theorem Pn.mono {k j:Nat} {x:Str} (h:Pn k x) (l:k<=j):Pn j x:=⟨h.1,Nat.le_trans h.2 l⟩
theorem Pn.sl {k:Nat} {x:Str} (h:Pn k x) (lo hi:Option Int):Pn k (StrLaws.sliceText x lo hi):=⟨λc hc=>h.1 c ((Zbl x lo hi).2 c hc),Nat.le_trans (Zbl x lo hi).1 h.2⟩
theorem Pn.plain {k:Nat} {x:Str} (h:Pn k x) (l:k<=4096):Plain x:=ZbE h.1 (by rw [Array.length_toList];exact Nat.le_trans h.2 l)
def Nm (i:Int):Prop:=0<=i/\i<=9999
theorem Zel {i:Int} (h:Nm i):Pn 4 (num i):=by
 obtain ⟨n,rfl⟩:=Int.eq_ofNat_of_zero_le h.1
 have hn:n<=9999:=by have:=h.2;omega
 have fin:∀ l:List Nat,(num (n:Int)).cps.toList=l->l.length<=4->(∀ c∈l,c<128)->Pn 4 (num (n:Int)):=λl e h1 h2=>⟨by rw [e];exact h2,by rw [<-Zfx,e];exact h1⟩
 have ha:n / 1000<10:=by omega
 have hb:n / 100 % 10<10:=by omega
 have hc:n / 10 % 10<10:=by omega
 have hd:n % 10<10:=by omega
 by_cases a0:n / 1000=0
 ·by_cases b0:n / 100 % 10=0
  ·by_cases c0:n / 10 % 10=0
   ·have e:=ZkA ⟨n % 10,hd⟩
    have en:n % 10=n:=by omega
    refine fin [48+n % 10] ?_ (by simp) ?_
    ·rw [<-e];simp only [en]
    ·intro c hc;simp only [List.mem_cons,List.not_mem_nil,or_false] at hc;omega
   ·have e:=Zkz ⟨n / 10 % 10,hc⟩ ⟨n % 10,hd⟩ (by intro z;exact c0 (congrArg Fin.val z))
    have en:10 * (n / 10 % 10)+n % 10=n:=by omega
    refine fin [48+n / 10 % 10,48+n % 10] ?_ (by simp) ?_
    ·rw [<-e];simp only [en]
    ·intro c hc;simp only [List.mem_cons,List.not_mem_nil,or_false] at hc;omega
  ·have e:=Zky ⟨n / 100 % 10,hb⟩ ⟨n / 10 % 10,hc⟩ ⟨n % 10,hd⟩ (by intro z;exact b0 (congrArg Fin.val z))
   have en:100 * (n / 100 % 10)+10 * (n / 10 % 10)+n % 10=n:=by omega
   refine fin [48+n / 100 % 10,48+n / 10 % 10,48+n % 10] ?_ (by simp) ?_
   ·rw [<-e];simp only [en]
   ·intro c hc;simp only [List.mem_cons,List.not_mem_nil,or_false] at hc;omega
 ·have e:=Zkx ⟨n / 1000,ha⟩ ⟨n / 100 % 10,hb⟩ ⟨n / 10 % 10,hc⟩ ⟨n % 10,hd⟩ (by intro z;exact a0 (congrArg Fin.val z))
  have en:1000 * (n / 1000)+100 * (n / 100 % 10)+10 * (n / 10 % 10)+n % 10=n:=by omega
  refine fin [48+n / 1000,48+n / 100 % 10,48+n / 10 % 10,48+n % 10] ?_ (by simp) ?_
  ·rw [<-e];simp only [en]
  ·intro c hc;simp only [List.mem_cons,List.not_mem_nil,or_false] at hc;omega
theorem pn_sp:Pn 1 (" " : Str):=⟨by decide +kernel,by decide +kernel⟩
theorem ZjV:Pn 1 ("-" : Str):=⟨by decide +kernel,by decide +kernel⟩
section
variable {P:Program} {w:World} {K:PySem.W.Frag} {mg:Str->Option Value} {base:Heap}
def NmW (n:Int) (rs:List (Int×Int)) (k:Nat):Prop:=Nm n/\rs.length<=k/\∀ p∈rs,Nm p.1/\Nm p.2
def ZfE:Sp:=λvs H Q _=>∃ (wb l:Addr) (n:Int) (xs:List V) (rs:List (Int×Int)),vs=[.ref wb]/\WebAt H wb l n xs rs/\NmW n rs 40/\∀ x,Pn 404 x->Q (.str x) H
theorem ZiK {f:Addr} {fd:FuncData} (F:Fun K "_law_web_written" "_law_web_written" ZgD f fd) (mStr:mg "str" = none):ZaY P w K mg base CX0 1 f fd ["web"] ZfE:=by
 refine F.ok scWww (λvs H Q E h=>?_) (λcdv A outer s H vs Q E hr h=>?_)
 ·obtain ⟨_,_,_,_,_,rfl,_⟩:=h
  rfl
 ·obtain ⟨wb,l,n,xs,rs,rfl,W,S,q⟩:=h
  have h16:(16777216:Nat)=sizeLine:=sizeLine_eq.symm
  have hn:=S.1
  have hlen:=W.p.len
  have h40:=S.2.1
  refine ⟨_,(@Zae _ _ _ _ _ (@Zam _ _ 1 _ _ _ _ scWww.nd rfl (Or.inl rfl) (ZaI Zjd rfl mStr Zbn (@Zaa _ _ _ _ _ (@Zao _ _ _ _ _ _ _ (Zes K) (pv 0) Zab (λ_ _=>rfl)) Zac rfl)) rfl (by first | exact .inl rfl | exact .inr rfl))
    (@Zae _ _ _ _ _ (@Zck _ _ _ _ _ _ _ _ PassesOwn.never rfl (ZfT K (@Zao _ _ _ _ _ _ _ (Zes K) (pv 0) Zab (λ_ _=>rfl))) (Zi8 K (n:=2) rfl (ZaZ (ZaG (i:=2) scWww.nd rfl (Or.inl rfl)) (ZaZ (ZaG (i:=3) scWww.nd rfl (Or.inl rfl)) ZcV)))
    (@Zag _ _ _ (@Zam _ _ 1 _ _ _ _ scWww.nd rfl (Or.inl rfl) (@ZaR _ _ _ _ _ _ (@ZaR _ _ _ _ _ _ (@ZaR _ _ _ _ _ _ (@ZaR _ _ _ _ _ _ (pv 1) Zal) (ZaI Zjd rfl mStr Zbn (@Zaa _ _ _ _ _ (pv 2) Zac rfl))) Zal) (ZaI Zjd rfl mStr Zbn (@Zaa _ _ _ _ _ (pv 3) Zac rfl))) rfl (by first | exact .inl rfl | exact .inr rfl))) (by intro _;rfl))
    (@Zag _ _ _ (@Zau _ _ _ _ (pv 1))))),?_⟩
  refine ⟨_,rfl,wb,_,_,_,rfl,rfl,SqT.of W.w,Zaj (j:=0) rfl,n,rfl,⟨hn.1,by have:=hn.2;omega⟩,?_⟩
  refine ⟨_,rfl,wb,_,_,_,rfl,rfl,SqT.of W.w,Zaj (j:=1) rfl,l,rfl,⟨_,SqL.of W.l⟩,?_⟩
  refine Zd4 (K:=K) (a:=l) (xs:=xs) (λi σ H2=>∃ (t:Str) (v2 v3:Option V),σ=[some (.ref wb),some (.str t),v2,v3]/\H2=H/\Pn (4+10 * i) t) ⟨_,none,none,rfl,rfl,Zel hn⟩ (λi σ H2 _ ⟨_,_,_,_,e,_⟩=>e▸SqL.of W.l) ?_ ?_
  ·rintro i x σ H2 hxi ⟨t0,v2,v3,rfl,rfl,ht⟩
   have hi:i<xs.length:=(List.getElem?_eq_some_iff.mp hxi).1
   obtain ⟨t,r,rfl,et,er⟩:=W.p.get hxi
   obtain ⟨ha,hb⟩:=S.2.2 r (List.mem_of_getElem? er)
   have Na:=Zel ha
   have Nb:=Zel hb
   have p1:=ht.app pn_sp
   have p2:=p1.app Na
   have p3:=p2.app ZjV
   have p4:=p3.app Nb
   have l1:=p1.2
   have l2:=p2.2
   have l3:=p3.2
   have l4:=p4.2
   rw [PySem.Str.length_append] at l1 l2 l3 l4
   refine ⟨t,_,rfl,SqT.of et,rfl,_,_,rfl,_,_,rfl,rfl,?_⟩
   refine ⟨_,rfl,t0,(" " : Str),rfl,rfl,by omega,?_⟩
   refine ⟨_,rfl,r.1,rfl,⟨ha.1,by have:=ha.2;omega⟩,_,num r.1,rfl,rfl,by omega,?_⟩
   refine ⟨_,("-" : Str),rfl,rfl,by omega,?_⟩
   refine ⟨_,rfl,r.2,rfl,⟨hb.1,by have:=hb.2;omega⟩,_,num r.2,rfl,rfl,by omega,?_⟩
   exact ⟨_,_,_,rfl,rfl,p4.mono (by omega)⟩
  ·rintro σ H2 ⟨t,v2,v3,rfl,rfl,ht⟩
   exact ⟨_,rfl,q t (ht.mono (by omega))⟩
def Zgj:Sp:=λvs H Q _=>∃ (wb l xl:Addr) (n:Int) (xs:List V) (rs:List (Int×Int)) (ns:List Int),vs=[.ref wb,.ref xl]/\WebAt H wb l n xs rs/\(1<=n/\n<=16)/\rs.length<=30/\(∀ p∈rs,Nm p.1/\Nm p.2)/\H xl=some (.lst (ns.map V.int))/\4<=ns.length /\
 ∀ (wb l:Addr) (n:Int) (xs:List V) (rs:List (Int×Int)) (H':Hp),Same H H'->WebAt H' wb l n xs rs->NmW n rs 40->Q (.ref wb) H'
theorem scWro:ZaC ["web", "xs", "at", "one", "other", "road"] ["web", "xs"] (Zaf Zhq):=⟨rfl,rfl,rfl,by decide +kernel,rfl,by decide +kernel,by decide +kernel⟩
theorem ZcC {H:Hp}:∀ {xs:List V} {rs:List (Int×Int)},Prs H xs rs->∀ k,Prs H (xs.take k) (rs.take k)/\Prs H (xs.drop k) (rs.drop k)
 | _,_,.nil,k=>by simp;exact .nil
 | _,_,.cons e h,0=>⟨.nil,.cons e h⟩
 | _,_,.cons e h,k+1=>⟨.cons e (ZcC h k).1,(ZcC h k).2⟩
theorem ZiL (rs:List (Int×Int)):PyData.eqv (.list (rs.map prD)) (.list [])=decide (rs=[]):=by
 cases rs with
 | nil=>simp [PyData.eqv,PyData.eqvAll]
 | cons r rs=>simp [PyData.eqv,PyData.eqvAll]
theorem ZiM {f:Addr} {fd:FuncData} (F:Fun K "_law_with_road" "_law_with_road" Zhq f fd) (mLen:mg "len" = none) (mMin:mg "min" = none) (mMax:mg "max" = none):ZaY P w K mg base CX0 1 f fd ["web", "xs"] Zgj:=by
 refine F.ok scWro (λvs H Q E h=>?_) (λcdv A outer s H vs Q E hr h=>?_)
 ·obtain ⟨_,_,_,_,_,_,_,rfl,_⟩:=h
  rfl
 ·obtain ⟨wb,l,xl,n,xs,rs,ns,rfl,W,hn,h30,hrs,ex,hns,q⟩:=h
  have hu:=hr.units
  have h16:(16777216:Nat)=sizeLine:=sizeLine_eq.symm
  have hlen:=W.p.len
  refine ⟨_,(@Zae _ _ _ _ _ (@Zam _ _ 2 _ _ _ _ scWro.nd rfl (Or.inl rfl) (@Zaq _ _ _ _ _ _ _ _ Zaw (@Zao _ _ _ _ _ _ _ (Za8 K) (pv 1) Zab (λ_ _=>rfl)) (@Zaq _ _ _ _ _ _ _ _ Zbe (Zah (Ze4 K) rfl mLen PySem.boot_len (@Zaa _ _ _ _ _ (@Zao _ _ _ _ _ _ _ (Zes K) (pv 0) Zab (λ_ _=>rfl)) Zac rfl)) Zab)) rfl (by first | exact .inl rfl | exact .inr rfl))
    (@Zae _ _ _ _ _ (@Zam _ _ 3 _ _ _ _ scWro.nd rfl (Or.inl rfl) (@Zaq _ _ _ _ _ _ _ _ Zaw (@Zao _ _ _ _ _ _ _ (Za8 K) (pv 1) Zab (λ_ _=>rfl)) (@Zao _ _ _ _ _ _ _ (Zes K) (pv 0) Zab (λ_ _=>rfl))) rfl (by first | exact .inl rfl | exact .inr rfl))
    (@Zae _ _ _ _ _ (@Zam _ _ 4 _ _ _ _ scWro.nd rfl (Or.inl rfl) (@Zaq _ _ _ _ _ _ _ _ Zaw (@Zao _ _ _ _ _ _ _ (Za8 K) (pv 1) Zab (λ_ _=>rfl)) (@Zao _ _ _ _ _ _ _ (Zes K) (pv 0) Zab (λ_ _=>rfl))) rfl (by first | exact .inl rfl | exact .inr rfl))
    (@Zae _ _ _ _ _ (@Zam _ _ 5 _ _ _ _ scWro.nd rfl (Or.inl rfl) (@Zao _ _ _ _ _ _ _ (Za8 K) (@ZaS _ _ _ _ (@Zaa _ _ _ _ _ (@ZaW _ _ _ _ _ (@Zaa _ _ _ _ _ (pv 3) (@Zaa _ _ _ _ _ (pv 3) Zac rfl) rfl)) (@Zaa _ _ _ _ _ (@ZaW _ _ _ _ _ (@Zaa _ _ _ _ _ (pv 3) (@Zaa _ _ _ _ _ (@Zaq _ _ _ _ _ _ _ _ Zbe (@Zao _ _ _ _ _ _ _ (Zes K) (pv 0) Zab (λ_ _=>rfl)) (@Zaq _ _ _ _ _ _ _ _ Zaw (@Zao _ _ _ _ _ _ _ (Za8 K) (pv 1) Zab (λ_ _=>rfl)) Zab)) Zac rfl) rfl)) (@Zaa _ _ _ _ _ (@ZaW _ _ _ _ _ (@Zaa _ _ _ _ _ (Zah (Zcn rfl) rfl mMax Zdh (@Zaa _ _ _ _ _ (pv 3) (@Zaa _ _ _ _ _ (pv 4) Zac rfl) rfl)) (@Zaa _ _ _ _ _ (Zah (Zco rfl) rfl mMin Zc3 (@Zaa _ _ _ _ _ (pv 3) (@Zaa _ _ _ _ _ (pv 4) Zac rfl) rfl)) Zac rfl) rfl)) (@Zaa _ _ _ _ _ (@ZaW _ _ _ _ _ (@Zaa _ _ _ _ _ (pv 3) (@Zaa _ _ _ _ _ Zab Zac rfl) rfl)) Zac rfl) rfl) rfl) rfl)) (@Zaq _ _ _ _ _ _ _ _ Zaw (@Zao _ _ _ _ _ _ _ (Za8 K) (pv 1) Zab (λ_ _=>rfl)) Zab) (λ_ _=>rfl)) rfl (by first | exact .inl rfl | exact .inr rfl))
    (@Zae _ _ _ _ _ (@ZaO _ _ _ _ _ _ _ _ (PW.pt (Zcj (Zai ZbV (@Zaq _ _ _ _ _ _ _ _ Zaw (@Zao _ _ _ _ _ _ _ (Za8 K) (pv 1) Zab (λ_ _=>rfl)) Zab) Zab (Zan _)) (ZbH (Zai (Zjx K hu) (@Zao _ _ _ _ _ _ _ (Zes K) (pv 0) Zab (λ_ _=>rfl)) (@ZaS _ _ _ _ Zac) (Zan _))))) (@Zag _ _ _ (@Zam _ _ 5 _ _ _ _ scWro.nd rfl (Or.inl rfl) (@Zao _ _ _ _ _ _ _ (Za8 K) (@Zao _ _ _ _ _ _ _ (Zes K) (pv 0) Zab (λ_ _=>rfl)) (@Zaq _ _ _ _ _ _ _ _ Zaw (@Zao _ _ _ _ _ _ _ (Za8 K) (pv 1) Zab (λ_ _=>rfl)) (Zah (Ze4 K) rfl mLen PySem.boot_len (@Zaa _ _ _ _ _ (@Zao _ _ _ _ _ _ _ (Zes K) (pv 0) Zab (λ_ _=>rfl)) Zac rfl))) (λ_ _=>rfl)) rfl (by first | exact .inl rfl | exact .inr rfl))) Zat)
    (@Zag _ _ _ (@Zau _ _ _ _ (@ZaW _ _ _ _ _ (@Zaa _ _ _ _ _ (@Zao _ _ _ _ _ _ _ (Zes K) (pv 0) Zab (λ_ _=>rfl)) (@Zaa _ _ _ _ _ (@Zaq _ _ _ _ _ _ _ _ ZeU (@Zaq _ _ _ _ _ _ _ _ ZeU (ZaJ (kSl K) (@Zao _ _ _ _ _ _ _ (Zes K) (pv 0) Zab (λ_ _=>rfl)) ZaP (ZaQ (pv 2))) (@ZaS _ _ _ _ (@Zaa _ _ _ _ _ (pv 5) Zac rfl))) (ZaJ (kSl K) (@Zao _ _ _ _ _ _ _ (Zes K) (pv 0) Zab (λ_ _=>rfl)) (ZaQ (pv 2)) ZaP)) Zac rfl) rfl))))))))),?_⟩
  refine ZaD (λσ1 H1=>∃ a:Nat,a<=xs.length/\σ1=[some (.ref wb),some (.ref xl),some (.int (a:Int)),none,none,none]/\H1=H) ?_ (λJ=>?_)
  case _=>
   rintro σ1 H1 ⟨a,ha,rfl,rfl⟩
   refine ZaD (λσ1 H2=>∃ o:Int,(0<=o/\o<n)/\σ1=[some (.ref wb),some (.ref xl),some (.int (a:Int)),some (.int o),none,none]/\H2=H1) ?_ (λJ=>?_)
   case _=>
    rintro σ1 H2 ⟨o,ho,rfl,rfl⟩
    refine ZaD (λσ1 H3=>∃ t:Int,(0<=t/\t<n)/\σ1=[some (.ref wb),some (.ref xl),some (.int (a:Int)),some (.int o),some (.int t),none]/\H3=H2) ?_ (λJ=>?_)
    case _=>
     rintro σ1 H3 ⟨t,ht,rfl,rfl⟩
     refine ZaD (λσ1 H4=>∃ (R:Addr) (r:Int×Int),σ1=[some (.ref wb),some (.ref xl),some (.int (a:Int)),some (.int o),some (.int t),some (.ref R)]/\Same H3 H4/\H4 R=some (.tup [.int r.1,.int r.2])/\Nm r.1/\Nm r.2) ?_ (λJ=>?_)
     case _=>
      rintro σ1 H4 ⟨R,r,rfl,s4,eR,nR⟩
      refine ZaD (λσ1 H5=>∃ (R:Addr) (r:Int×Int),σ1=[some (.ref wb),some (.ref xl),some (.int (a:Int)),some (.int o),some (.int t),some (.ref R)]/\Same H3 H5/\H5 R=some (.tup [.int r.1,.int r.2])/\Nm r.1/\Nm r.2) ?_ (λJ=>?_)
      case _=>
       rintro σ1 H5 ⟨R,r,rfl,s5,eR,nR⟩
       have W5:=W.same s5
       refine ⟨_,rfl,wb,_,_,_,rfl,rfl,SqT.of W5.w,Zaj (j:=0) rfl,?_⟩
       refine ⟨_,rfl,wb,_,_,_,rfl,rfl,SqT.of W5.w,Zaj (j:=1) rfl,_,rfl,(a:Int),rfl,l,_,rfl,SqL.of W5.l,λp1 hp1=>?_⟩
       have ec:Zdu xs none (some (a:Int))=xs.take a:=Zgr (k:=a)
       rw [ec]
       have s6:Same H5 (upd H5 p1 (.lst (xs.take a))):=Same.new hp1
       have e6:upd H5 p1 (.lst (xs.take a)) p1=some (.lst (xs.take a)):=Zad
       generalize upd H5 p1 (.lst (xs.take a))=H6 at s6 e6 ⊢
       refine ⟨_,rfl,(by show 1<=sizeLine;omega),λp2 hp2=>?_⟩
       have s7:Same H6 (upd H6 p2 (.lst [.ref R])):=Same.new hp2
       have e7:upd H6 p2 (.lst [.ref R]) p2=some (.lst [.ref R]):=Zad
       generalize upd H6 p2 (.lst [.ref R])=H7 at s7 e7 ⊢
       refine ⟨p1,p2,_,_,rfl,rfl,s7 _ _ e6,e7,(by rw [List.length_take,List.length_singleton];omega),λp3 hp3=>?_⟩
       have s8:Same H7 (upd H7 p3 (.lst (xs.take a++[.ref R]))):=Same.new hp3
       have e8:upd H7 p3 (.lst (xs.take a++[.ref R])) p3=some (.lst (xs.take a++[.ref R])):=Zad
       generalize upd H7 p3 (.lst (xs.take a++[.ref R]))=H8 at s8 e8 ⊢
       have S8:=s6.trans (s7.trans s8)
       have W8:=W5.same S8
       refine ⟨_,rfl,wb,_,_,_,rfl,rfl,SqT.of W8.w,Zaj (j:=1) rfl,_,rfl,(a:Int),rfl,l,_,rfl,SqL.of W8.l,λp4 hp4=>?_⟩
       have ec:Zdu xs (some (a:Int)) none=xs.drop a:=ZbM (k:=a)
       rw [ec]
       have s9:Same H8 (upd H8 p4 (.lst (xs.drop a))):=Same.new hp4
       have e9:upd H8 p4 (.lst (xs.drop a)) p4=some (.lst (xs.drop a)):=Zad
       generalize upd H8 p4 (.lst (xs.drop a))=H9 at s9 e9 ⊢
       refine ⟨p3,p4,_,_,rfl,rfl,s9 _ _ e8,e9,(by rw [List.length_append,List.length_take,List.length_drop,List.length_singleton];omega),λp5 hp5=>?_⟩
       have s10:Same H9 (upd H9 p5 (.lst (xs.take a++[.ref R]++xs.drop a))):=Same.new hp5
       have e10:upd H9 p5 (.lst (xs.take a++[.ref R]++xs.drop a)) p5=some (.lst (xs.take a++[.ref R]++xs.drop a)):=Zad
       generalize upd H9 p5 (.lst (xs.take a++[.ref R]++xs.drop a))=H10 at s10 e10 ⊢
       refine ⟨ZaU,λwb2 hwb2=>?_⟩
       have s11:Same H10 (upd H10 wb2 (.tup [.int n,.ref p5])):=Same.new hwb2
       have S11:Same H5 _:=S8.trans (s9.trans (s10.trans s11))
       have pr:=W5.p.same S11
       refine q wb2 p5 n _ (rs.take a++[r]++rs.drop a) _ (s5.trans S11) ⟨Zad,s11 _ _ e10,((ZcC pr a).1.snoc (S11 _ _ eR)).app (ZcC pr a).2⟩ ⟨⟨by omega,by omega⟩,?_,?_⟩
       ·rw [List.length_append,List.length_append,List.length_take,List.length_drop,List.length_singleton];omega
       ·intro p hp
        rcases List.mem_append.mp hp with hp | hp
        ·rcases List.mem_append.mp hp with hp | hp
         ·exact hrs p (List.mem_of_mem_take hp)
         ·rw [List.mem_singleton.mp hp];exact nR
        ·exact hrs p (List.mem_of_mem_drop hp)
      ·have W4:=W.same s4
       have no:=J _ _ ⟨R,r,rfl,s4,eR,nR⟩
       refine ⟨_,rfl,xl,_,_,_,rfl,rfl,SqL.of (s4 _ _ ex),ZaB (i:=3) (by decide) (by omega),_,_,rfl,rfl,(by show (0:Int)<5;decide),rfl,_,rfl,Zcr (λc=>?_) (λc=>?_)⟩
       ·refine ⟨_,rfl,wb,_,_,_,rfl,rfl,SqT.of W4.w,Zaj (j:=1) rfl,Nat.zero_le _,λB hB=>?_⟩
        have s5:Same H4 (upd H4 B (.lst [])):=Same.new hB
        have e5:upd H4 B (.lst []) B=some (.lst []):=Zad
        generalize upd H4 B (.lst [])=H5 at s5 e5 ⊢
        have W5:=W4.same s5
        refine ⟨.list (rs.map prD),.list [],.lst (SqL.of W5.l) W5.p.dats,.lst (SqL.of e5) .nil,ZcG _,ZcG [],_,rfl,?_⟩
        rw [ZiL]
        have S5:=s4.trans s5
        by_cases c2:rs=[]
        ·rw [decide_eq_true c2]
         exact Za5 (J _ _ ⟨R,r,rfl,S5,s5 _ _ eR,nR⟩)
        ·rw [decide_eq_false c2]
         refine Za6 ?_
         have hpos:0<xs.length:=by rw [hlen];exact List.length_pos_iff.mpr c2
         refine ⟨_,rfl,wb,_,_,_,rfl,rfl,SqT.of W5.w,Zaj (j:=1) rfl,_,rfl,xl,_,_,_,rfl,rfl,SqL.of (S5 _ _ ex),ZaB (i:=1) (by decide) (by omega),_,rfl,wb,_,_,_,rfl,rfl,SqT.of W5.w,Zaj (j:=1) rfl,l,_,rfl,.inl (SqL.of W5.l),_,_,rfl,rfl,(by show (0:Int)<(xs.length:Int);omega),?_⟩
         have hm:0<=ns.getD (1:Int).toNat 0 % (xs.length:Int)/\ns.getD (1:Int).toNat 0 % (xs.length:Int)<(xs.length:Int):=⟨Int.emod_nonneg _ (by omega),Int.emod_lt_of_pos _ (by omega)⟩
         obtain ⟨k,ek⟩:=Int.eq_ofNat_of_zero_le hm.1
         obtain ⟨v,hv⟩:∃ v,xs[k]?=some v:=⟨_,List.getElem?_eq_getElem (by omega)⟩
         obtain ⟨t',r',rfl,et,er⟩:=W5.p.get hv
         refine ⟨l,_,_,_,rfl,rfl,SqL.of W5.l,by rw [ek];exact Zaj hv,?_⟩
         exact J _ _ ⟨t',r',rfl,S5,et,hrs r' (List.mem_of_getElem? er)⟩
       ·exact Za5 no
     ·have hx3:Same H3 H3:=Same.refl _
      refine ⟨_,rfl,_,rfl,ZaU,λT1 hT1=>?_⟩
      have s1:Same H3 (upd H3 T1 (.tup [.int o,.int o])):=Same.new hT1
      have e1:upd H3 T1 (.tup [.int o,.int o]) T1=some (.tup [.int o,.int o]):=Zad
      generalize upd H3 T1 (.tup [.int o,.int o])=H4 at s1 e1 ⊢
      have W4:=W.same s1
      have z3:0<=ns.getD (2:Int).toNat 0 % 3/\ns.getD (2:Int).toNat 0 % 3<3:=⟨Int.emod_nonneg _ (by decide),Int.emod_lt_of_pos _ (by decide)⟩
      refine ⟨_,rfl,_,rfl,wb,_,_,_,rfl,rfl,SqT.of W4.w,Zaj (j:=0) rfl,_,rfl,xl,_,_,_,rfl,rfl,SqL.of (s1 _ _ ex),ZaB (i:=2) (by decide) (by omega),_,_,rfl,rfl,(by show (0:Int)<3;decide),_,_,rfl,rfl,ZaU,λT2 hT2=>?_⟩
      generalize ns.getD (2:Int).toNat 0 % 3=d at z3 hT2 ⊢
      have s2:Same H4 (upd H4 T2 (.tup [.int o,.int (n+d)])):=Same.new hT2
      have e2:upd H4 T2 (.tup [.int o,.int (n+d)]) T2=some (.tup [.int o,.int (n+d)]):=Zad
      generalize upd H4 T2 (.tup [.int o,.int (n+d)])=H5 at s2 e2 ⊢
      refine ⟨_,rfl,_,rfl,_,_,rfl,_,rfl,_,rfl,_,_,rfl,ZaU,λT3 hT3=>?_⟩
      have s3:Same H5 (upd H5 T3 (.tup [.int (if t > o then t else o),.int (if t<o then t else o)])):=Same.new hT3
      have e3:upd H5 T3 (.tup [.int (if t > o then t else o),.int (if t<o then t else o)]) T3=some (.tup [.int (if t > o then t else o),.int (if t<o then t else o)]):=Zad
      generalize upd H5 T3 (.tup [.int (if t > o then t else o),.int (if t<o then t else o)])=H6 at s3 e3 ⊢
      refine ⟨_,rfl,ZaU,λT4 hT4=>?_⟩
      have s4:Same H6 (upd H6 T4 (.tup [.int o,.int 9999])):=Same.new hT4
      have e4:upd H6 T4 (.tup [.int o,.int 9999]) T4=some (.tup [.int o,.int 9999]):=Zad
      generalize upd H6 T4 (.tup [.int o,.int 9999])=H7 at s4 e4 ⊢
      refine ⟨(by show 4<=sizeLine;omega),λL hL=>?_⟩
      have s5:Same H7 (upd H7 L (.lst [.ref T1,.ref T2,.ref T3,.ref T4])):=Same.new hL
      have e5:upd H7 L (.lst [.ref T1,.ref T2,.ref T3,.ref T4]) L=some (.lst [.ref T1,.ref T2,.ref T3,.ref T4]):=Zad
      generalize upd H7 L (.lst [.ref T1,.ref T2,.ref T3,.ref T4])=H8 at s5 e5 ⊢
      have S8:Same H3 H8:=s1.trans (s2.trans (s3.trans (s4.trans s5)))
      have z4:0<=ns.getD (3:Int).toNat 0 % 4/\ns.getD (3:Int).toNat 0 % 4<4:=⟨Int.emod_nonneg _ (by decide),Int.emod_lt_of_pos _ (by decide)⟩
      have no:Nm o:=⟨ho.1,by omega⟩
      have nt:Nm t:=⟨ht.1,by omega⟩
      obtain ⟨T,r,hat,eT,nr⟩:∃ (T:Addr) (r:Int×Int),atI [V.ref T1,V.ref T2,V.ref T3,V.ref T4] (ns.getD (3:Int).toNat 0 % 4)=some (.ref T)/\H8 T=some (.tup [.int r.1,.int r.2])/\Nm r.1/\Nm r.2:=by
       generalize ns.getD (3:Int).toNat 0 % 4=j at z4 ⊢
       rcases (by omega:j=0\/j=1\/j=2\/j=3) with rfl | rfl | rfl | rfl
       ·exact ⟨T1,(o,o),Zaj (j:=0) rfl,(s2.trans (s3.trans (s4.trans s5))) _ _ e1,no,no⟩
       ·exact ⟨T2,(o,n+d),Zaj (j:=1) rfl,(s3.trans (s4.trans s5)) _ _ e2,no,⟨by show 0<=n+d;omega,by show n+d<=9999;omega⟩⟩
       ·exact ⟨T3,(_,_),Zaj (j:=2) rfl,(s4.trans s5) _ _ e3,(by show Nm (if t > o then t else o);split <;> assumption),(by show Nm (if t<o then t else o);split <;> assumption)⟩
       ·exact ⟨T4,(o,9999),Zaj (j:=3) rfl,s5 _ _ e4,no,⟨by show (0:Int)<=9999;omega,by show (9999:Int)<=9999;omega⟩⟩
      exact ⟨_,rfl,xl,_,_,_,rfl,rfl,SqL.of (S8 _ _ ex),ZaB (i:=3) (by decide) (by omega),_,_,rfl,rfl,(by show (0:Int)<4;decide),L,_,_,_,rfl,rfl,SqL.of e5,hat,J _ _ ⟨T,r,rfl,S8,eT,nr⟩⟩
    ·exact ⟨_,rfl,xl,_,_,_,rfl,rfl,SqL.of ex,ZaB (i:=2) (by decide) (by omega),_,rfl,wb,_,_,_,rfl,rfl,SqT.of W.w,Zaj (j:=0) rfl,_,_,rfl,rfl,by show 0<n;omega,J _ _ ⟨_,⟨Int.emod_nonneg _ (by omega),Int.emod_lt_of_pos _ (by omega)⟩,rfl,rfl⟩⟩
   ·exact ⟨_,rfl,xl,_,_,_,rfl,rfl,SqL.of ex,ZaB (i:=1) (by decide) (by omega),_,rfl,wb,_,_,_,rfl,rfl,SqT.of W.w,Zaj (j:=0) rfl,_,_,rfl,rfl,by show 0<n;omega,J _ _ ⟨_,⟨Int.emod_nonneg _ (by omega),Int.emod_lt_of_pos _ (by omega)⟩,rfl,rfl⟩⟩
  ·have hm:0<=ns.getD (0:Int).toNat 0 % ((xs.length:Int)+1)/\ns.getD (0:Int).toNat 0 % ((xs.length:Int)+1)<(xs.length:Int)+1:=⟨Int.emod_nonneg _ (by omega),Int.emod_lt_of_pos _ (by omega)⟩
   refine ⟨_,rfl,xl,_,_,_,rfl,rfl,SqL.of ex,ZaB (i:=0) (by decide) (by omega),_,rfl,wb,_,_,_,rfl,rfl,SqT.of W.w,Zaj (j:=1) rfl,l,_,rfl,.inl (SqL.of W.l),_,_,rfl,rfl,_,_,rfl,rfl,(by show (0:Int)<(xs.length:Int)+1;omega),?_⟩
   obtain ⟨a,ea⟩:=Int.eq_ofNat_of_zero_le hm.1
   exact J _ _ ⟨a,by omega,by rw [<-ea];rfl,rfl⟩
def ZiN:Sp:=λvs H Q _=>∃ (n:Nat) (m:Nat),vs=[.int (n:Int),.int (m:Int)]/\n<=10/\m<=36 /\
 ∀ (wb l:Addr) (n:Int) (xs:List V) (rs:List (Int×Int)) (H':Hp),Same H H'->WebAt H' wb l n xs rs->NmW n rs 40->Q (.ref wb) H'
theorem scMro:ZaC ["places", "many", "roads", "other"] ["places", "many"] (Zaf Zhr):=⟨rfl,rfl,rfl,by decide +kernel,rfl,by decide +kernel,by decide +kernel⟩
theorem ZiO {f:Addr} {fd:FuncData} (F:Fun K "_law_many_roads" "_law_many_roads" Zhr f fd) (mRange:mg "range" = none):ZaY P w K mg base CX0 1 f fd ["places", "many"] ZiN:=by
 refine F.ok scMro (λvs H Q E h=>?_) (λcdv A outer s H vs Q E hr h=>?_)
 ·obtain ⟨_,_,rfl,_⟩:=h
  rfl
 ·obtain ⟨n,m,rfl,hn,hm,q⟩:=h
  have h16:(16777216:Nat)=sizeLine:=sizeLine_eq.symm
  refine ⟨_,(@Zae _ _ _ _ _ (@Zam _ _ 2 _ _ _ _ scMro.nd rfl (Or.inl rfl) (@ZaS _ _ _ _ Zac) rfl (by first | exact .inl rfl | exact .inr rfl))
    (@Zae _ _ _ _ _ (@Zck _ _ _ _ _ _ _ _ PassesOwn.never rfl (Zbd rfl mRange (@Zaa _ _ _ _ _ (pv 0) Zac rfl)) (ZaG (i:=3) scMro.nd rfl (Or.inr rfl))
    (@Zag _ _ _ (@Zam _ _ 2 _ _ _ _ scMro.nd rfl (Or.inl rfl) (@Zaq _ _ _ _ _ _ _ _ ZeU (pv 2) (ZcY (own:=["one"]) rfl (Zbb (fr:=[("other", 3)]) [(".0", .local),("one", .local),("other", .cell)] rfl rfl (by decide +kernel) rfl (by decide +kernel) ⟨rfl,trivial⟩ ⟨λh=>ZdE h,λh=>ZdE h,λ_=>⟨_,rfl⟩,trivial⟩ ⟨⟨rfl,.inl rfl,.inl rfl⟩,trivial⟩) (Zbd rfl mRange (@Zaa _ _ _ _ _ (pv 3) Zac rfl)) (λ_ _ _ _=>ZaG (i:=0) (show List.Nodup (["one", "other"]:List Str) by decide +kernel) rfl (Or.inl rfl)) (λ_ _ _ _=>Zcb) (λ_ _ _ _=>@ZaW _ _ _ _ _ (@Zaa _ _ _ _ _ (pv 0) (@Zaa _ _ _ _ _ (pv 1) Zac rfl) rfl)))) rfl (by first | exact .inl rfl | exact .inr rfl))) (by intro _;rfl))
    (@Zag _ _ _ (@Zau _ _ _ _ (@ZaW _ _ _ _ _ (@Zaa _ _ _ _ _ (pv 0) (@Zaa _ _ _ _ _ (ZaJ (kSl K) (pv 2) ZaP (ZaQ (pv 1))) Zac rfl) rfl)))))),?_⟩
  refine ⟨Nat.zero_le _,λR hR=>?_⟩
  dsimp only [ZbU]
  refine ⟨_,rfl,_,rfl,by omega,by omega,?_⟩
  rw [Int.toNat_natCast]
  refine ZbJ (lo:=0) (n:=n) (λi σ H2=>∃ (R:Addr) (ys:List V) (rs:List (Int×Int)) (v3:Option V),σ=[some (.int (n:Int)),some (.int (m:Int)),some (.ref R),v3]/\Same H H2/\H2 R=some (.lst ys)/\Prs H2 ys rs/\rs.length<=10 * i/\∀ p∈rs,Nm p.1/\Nm p.2) ⟨R,[],[],none,rfl,Same.new hR,Zad,.nil,Nat.zero_le _,by simp⟩ ?_ ?_
  ·rintro i σ H2 hi ⟨R,ys,rs,v3,rfl,s2,eR,pr,hl,hrs⟩
   rw [Int.zero_add]
   have hyl:=pr.len
   dsimp only [ZbU]
   refine ⟨_,rfl,_,rfl,_,rfl,by omega,by omega,λD hD=>?_⟩
   rw [Int.toNat_natCast]
   refine ZbX (lo:=0) (n:=i) (λj zs H3=>Same H2 H3/\H3 D=some (.lst zs)/\∃ qs,Prs H3 zs qs/\qs.length=j/\∀ p∈qs,Nm p.1/\Nm p.2) ⟨Same.new hD,Zad,[],.nil,rfl,by simp⟩ ?_ ?_
   ·rintro j zs H3 hj ⟨s3,eD,qs,pq,hql,hqs⟩
    rw [Int.zero_add]
    have hzl:=pq.len
    refine ⟨⟨rfl,trivial⟩,?_⟩
    unfold Zh1
    refine Za6 ?_
    refine ⟨_,rfl,_,rfl,ZaU,λT hT=>?_⟩
    have s4:Same H3 (upd H3 T (.tup [.int (j:Int),.int (i:Int)])):=Same.new hT
    refine ⟨s4 _ _ eD,by omega,(s3.trans s4).put hD,Zad,qs++[((j:Int),(i:Int))],((pq.same s4).snoc Zad).keep (Zce (s4 _ _ eD)),by simp [hql],?_⟩
    intro p hp
    rcases List.mem_append.mp hp with hp | hp
    ·exact hqs p hp
    ·rw [List.mem_singleton.mp hp]
     exact ⟨⟨by show (0:Int)<=j;omega,by show (j:Int)<=9999;omega⟩,by show (0:Int)<=i;omega,by show (i:Int)<=9999;omega⟩
   ·rintro zs H3 ⟨s3,eD,qs,pq,hql,hqs⟩
    have hzl:=pq.len
    refine ⟨R,D,ys,zs,rfl,rfl,s3 _ _ eR,eD,by omega,λL hL=>?_⟩
    have s4:Same H3 (upd H3 L (.lst (ys++zs))):=Same.new hL
    refine ⟨L,_,rs++qs,_,rfl,s2.trans (s3.trans s4),Zad,((pr.same s3).app pq).same s4,by rw [List.length_append];omega,?_⟩
    intro p hp
    rcases List.mem_append.mp hp with hp | hp
    ·exact hrs p hp
    ·exact hqs p hp
  ·rintro σ H2 ⟨R,ys,rs,v3,rfl,s2,eR,pr,hl,hrs⟩
   refine ⟨_,rfl,_,rfl,_,rfl,(m:Int),rfl,R,_,rfl,SqL.of eR,λp1 hp1=>?_⟩
   have ec:Zdu ys none (some (m:Int))=ys.take m:=Zgr (k:=m)
   rw [ec]
   have s6:Same H2 (upd H2 p1 (.lst (ys.take m))):=Same.new hp1
   have e6:upd H2 p1 (.lst (ys.take m)) p1=some (.lst (ys.take m)):=Zad
   generalize upd H2 p1 (.lst (ys.take m))=H6 at s6 e6 ⊢
   refine ⟨ZaU,λwb hwb=>?_⟩
   have s7:Same H6 (upd H6 wb (.tup [.int (n:Int),.ref p1])):=Same.new hwb
   refine q wb p1 n _ (rs.take m) _ (s2.trans (s6.trans s7)) ⟨Zad,s7 _ _ e6,((ZcC pr m).1.same (s6.trans s7))⟩ ⟨⟨by omega,by omega⟩,by rw [List.length_take];omega,λp hp=>hrs p (List.mem_of_mem_take hp)⟩
end
end M
namespace M
open PySem L2
theorem Zd2 (ns:List Str) {j:Int} (h0:0<=j) (h1:j<ns.length):∃ z∈ns,atI (ns.map V.str) j=some (.str z):=by
 obtain ⟨k,rfl⟩:=Int.eq_ofNat_of_zero_le h0
 have hk:k<ns.length:=by omega
 refine ⟨ns[k],List.getElem_mem hk,Zaj ?_⟩
 show (ns.map V.str)[k]?=some (.str ns[k])
 rw [List.getElem?_map,List.getElem?_eq_getElem hk]
 rfl
theorem ZhA {x:Str} (h:Pn 21 x) (hl:x.length=21) {j:Int} (h0:0<=j) (h1:j<21):∃ c,atI x.cps.toList j=some c/\Pn 1 ⟨#[c]⟩:=by
 obtain ⟨k,rfl⟩:=Int.eq_ofNat_of_zero_le h0
 have hk:k<x.cps.toList.length:=by rw [Zfx];omega
 refine ⟨x.cps.toList[k],Zaj (List.getElem?_eq_getElem hk),?_,Nat.le_refl _⟩
 intro c hc
 have hc:c∈[x.cps.toList[k]]:=hc
 rw [List.mem_singleton.mp hc]
 exact h.1 _ (List.getElem_mem hk)
section
variable {P:Program} {w:World} {K:PySem.W.Frag} {mg:Str->Option Value} {base:Heap}
def ZiP:Sp:=λvs H Q _=>∃ (wb l xl:Addr) (n:Int) (xs:List V) (rs:List (Int×Int)) (ns:List Int),vs=[.ref wb,.ref xl]/\WebAt H wb l n xs rs/\(1<=n/\n<=16)/\rs.length<=30/\(∀ p∈rs,Nm p.1/\Nm p.2)/\H xl=some (.lst (ns.map V.int))/\ns.length=10 /\
 ∀ (x:Str) (H':Hp),Same H H'->Plain x->Q (.str x) H'
theorem scCha:ZaC ["web", "xs", "text", "at", "way"] ["web", "xs"] (Zaf Zhs):=⟨rfl,rfl,rfl,by decide +kernel,rfl,by decide +kernel,by decide +kernel⟩
def sgns:Str := "0123456789- -,+_\n\t:a/"
theorem Zdl:Pn 21 sgns/\sgns.length=21:=⟨⟨by decide +kernel,by decide +kernel⟩,by decide +kernel⟩
theorem ZiQ {f fWww fWro fMro:Addr} {fd fdWww fdWro fdMro:FuncData} (F:Fun K "_law_changed" "_law_changed" Zhs f fd)
  (FWww:Fun K "_law_web_written" "_law_web_written" ZgD fWww fdWww) (bWww:Binds K fdWww ["web"] []) (mWww:mg "_law_web_written" = some (.ref fWww)) (GWww:ZaY P w K mg base CX0 1 fWww fdWww ["web"] ZfE)
  (FWro:Fun K "_law_with_road" "_law_with_road" Zhq fWro fdWro) (bWro:Binds K fdWro ["web", "xs"] []) (mWro:mg "_law_with_road" = some (.ref fWro)) (GWro:ZaY P w K mg base CX0 1 fWro fdWro ["web", "xs"] Zgj)
  (FMro:Fun K "_law_many_roads" "_law_many_roads" Zhr fMro fdMro) (bMro:Binds K fdMro ["places", "many"] []) (mMro:mg "_law_many_roads" = some (.ref fMro)) (GMro:ZaY P w K mg base CX0 1 fMro fdMro ["places", "many"] ZiN)
  (mLen:mg "len" = none) (mStr:mg "str" = none):ZaY P w K mg base CX0 2 f fd ["web", "xs"] ZiP:=by
 refine F.ok scCha (λvs H Q E h=>?_) (λcdv A outer s H vs Q E hr h=>?_)
 ·obtain ⟨_,_,_,_,_,_,_,rfl,_⟩:=h
  rfl
 ·obtain ⟨wb,l,xl,n,xs,rs,ns,rfl,W,hn,h30,hrs,ex,hns,q⟩:=h
  have h16:(16777216:Nat)=sizeLine:=sizeLine_eq.symm
  refine ⟨_,(@Zae _ _ _ _ _ (@Zam _ _ 2 _ _ _ _ scCha.nd rfl (Or.inl rfl) (@Zay _ _ _ _ _ _ _ _ _ _ _ _ _ _ _ _ GWww (hr.mono (by decide)) rfl mWww FWww.kp bWww .nil Zba (@Zaa _ _ _ _ _ (pv 0) Zac rfl) (by decide) rfl rfl) rfl (by first | exact .inl rfl | exact .inr rfl))
    (@Zae _ _ _ _ _ (@Zam _ _ 3 _ _ _ _ scCha.nd rfl (Or.inl rfl) (@Zaq _ _ _ _ _ _ _ _ Zaw (@Zaq _ _ _ _ _ _ _ _ Zbe (@Zao _ _ _ _ _ _ _ (Za8 K) (pv 1) Zab (λ_ _=>rfl)) (@Zaq _ _ _ _ _ _ _ _ Zcl Zab (@Zao _ _ _ _ _ _ _ (Za8 K) (pv 1) Zab (λ_ _=>rfl)))) (@Zaq _ _ _ _ _ _ _ _ Zbe (Zah Zfp rfl mLen PySem.boot_len (@Zaa _ _ _ _ _ (pv 2) Zac rfl)) Zab)) rfl (by first | exact .inl rfl | exact .inr rfl))
    (@Zae _ _ _ _ _ (@Zam _ _ 4 _ _ _ _ scCha.nd rfl (Or.inl rfl) (@Zaq _ _ _ _ _ _ _ _ Zaw (@Zao _ _ _ _ _ _ _ (Za8 K) (pv 1) Zab (λ_ _=>rfl)) Zab) rfl (by first | exact .inl rfl | exact .inr rfl))
    (@Zae _ _ _ _ _ (@ZaO _ _ _ _ _ _ _ _ (Zai ZbV (pv 4) Zab (Zan _)) (@Zag _ _ _ (@Zau _ _ _ _ (@ZaR _ _ _ _ _ _ (ZaJ Zhc (pv 2) ZaP (ZaQ (pv 3))) (ZaJ Zhc (pv 2) (ZaQ (@Zaq _ _ _ _ _ _ _ _ Zbe (pv 3) Zab)) ZaP)))) Zat)
    (@Zae _ _ _ _ _ (@ZaO _ _ _ _ _ _ _ _ (Zai ZbV (pv 4) Zab (Zan _)) (@Zag _ _ _ (@Zau _ _ _ _ (@ZaR _ _ _ _ _ _ (@ZaR _ _ _ _ _ _ (ZaJ Zhc (pv 2) ZaP (ZaQ (pv 3))) (Zao ZeT Zal (@Zaq _ _ _ _ _ _ _ _ Zaw (@Zao _ _ _ _ _ _ _ (Za8 K) (pv 1) Zab (λ_ _=>rfl)) Zab) (λ_ _=>rfl))) (ZaJ Zhc (pv 2) (ZaQ (pv 3)) ZaP)))) Zat)
    (@Zae _ _ _ _ _ (@ZaO _ _ _ _ _ _ _ _ (Zai ZbV (pv 4) Zab (Zan _)) (@Zag _ _ _ (@Zau _ _ _ _ (@ZaR _ _ _ _ _ _ (@ZaR _ _ _ _ _ _ (ZaJ Zhc (pv 2) ZaP (ZaQ (pv 3))) (Zao ZeT Zal (@Zaq _ _ _ _ _ _ _ _ Zaw (@Zao _ _ _ _ _ _ _ (Za8 K) (pv 1) Zab (λ_ _=>rfl)) Zab) (λ_ _=>rfl))) (ZaJ Zhc (pv 2) (ZaQ (@Zaq _ _ _ _ _ _ _ _ Zbe (pv 3) Zab)) ZaP)))) Zat)
    (@Zae _ _ _ _ _ (@ZaO _ _ _ _ _ _ _ _ (Zai ZbV (pv 4) Zab (Zan _)) (@Zag _ _ _ (@Zau _ _ _ _ (@Zao _ _ _ _ _ _ _ (Za8 K) (@ZaS _ _ _ _ (@Zaa _ _ _ _ _ (@ZaR _ _ _ _ _ _ (pv 2) Zal) (@Zaa _ _ _ _ _ (@ZaR _ _ _ _ _ _ Zal (pv 2)) (@Zaa _ _ _ _ _ (@ZaR _ _ _ _ _ _ (pv 2) Zal) (ZjQ (Zik 2) (Zil 2) (@Zaa _ _ _ _ _ (@ZaR _ _ _ _ _ _ (pv 2) Zal) Zac rfl)) rfl) rfl) rfl)) (@Zaq _ _ _ _ _ _ _ _ Zaw (@Zao _ _ _ _ _ _ _ (Za8 K) (pv 1) Zab (λ_ _=>rfl)) Zab) (λ_ _=>rfl)))) Zat)
    (@Zae _ _ _ _ _ (@ZaO _ _ _ _ _ _ _ _ (PW.pt (ZbG (Zai ZbV (pv 4) Zab (Zan _)) (Zbv (Zai ZbV (pv 4) Zab (Zan _))))) (@Zag _ _ _ (@Zau _ _ _ _ (@Zay _ _ _ _ _ _ _ _ _ _ _ _ _ _ _ _ GWww (hr.mono (by decide)) rfl mWww FWww.kp bWww .nil Zba (@Zaa _ _ _ _ _ (@Zay _ _ _ _ _ _ _ _ _ _ _ _ _ _ _ _ GWro (hr.mono (by decide)) rfl mWro FWro.kp bWro .nil Zba (@Zaa _ _ _ _ _ (pv 0) (@Zaa _ _ _ _ _ (ZaJ (kSl K) (pv 1) (ZaQ Zab) ZaP) Zac rfl) rfl) (by decide) rfl rfl) Zac rfl) (by decide) rfl rfl))) Zat)
    (@Zae _ _ _ _ _ (@ZaO _ _ _ _ _ _ _ _ (Zai ZbV (pv 4) Zab (Zan _)) (@Zag _ _ _ (@Zau _ _ _ _ (@Zay _ _ _ _ _ _ _ _ _ _ _ _ _ _ _ _ GWww (hr.mono (by decide)) rfl mWww FWww.kp bWww .nil Zba (@Zaa _ _ _ _ _ (@Zay _ _ _ _ _ _ _ _ _ _ _ _ _ _ _ _ GMro (hr.mono (by decide)) rfl mMro FMro.kp bMro .nil Zba (@Zaa _ _ _ _ _ (@Zaq _ _ _ _ _ _ _ _ Zbe Zab (@Zaq _ _ _ _ _ _ _ _ Zaw (@Zao _ _ _ _ _ _ _ (Za8 K) (pv 1) Zab (λ_ _=>rfl)) Zab)) (@Zaa _ _ _ _ _ (@Zaq _ _ _ _ _ _ _ _ Zbe Zab (@Zaq _ _ _ _ _ _ _ _ Zaw (@Zao _ _ _ _ _ _ _ (Za8 K) (pv 1) Zab (λ_ _=>rfl)) Zab)) Zac rfl) rfl) (by decide) rfl rfl) Zac rfl) (by decide) rfl rfl))) Zat)
    (@Zag _ _ _ (@Zau _ _ _ _ (@ZaR _ _ _ _ _ _ (@Zao _ _ _ _ _ _ _ (Za8 K) (@ZaS _ _ _ _ (@Zaa _ _ _ _ _ Zal (@Zaa _ _ _ _ _ Zal (@Zaa _ _ _ _ _ Zal (@Zaa _ _ _ _ _ Zal (@Zaa _ _ _ _ _ Zal (@Zaa _ _ _ _ _ Zal (@Zaa _ _ _ _ _ Zal (@Zaa _ _ _ _ _ Zal Zac rfl) rfl) rfl) rfl) rfl) rfl) rfl) rfl)) (@Zaq _ _ _ _ _ _ _ _ Zaw (@Zao _ _ _ _ _ _ _ (Za8 K) (pv 1) Zab (λ_ _=>rfl)) Zab) (λ_ _=>rfl)) (ZaJ Zhc (pv 2) (ZaQ (Zah Zfp rfl mLen PySem.boot_len (@Zaa _ _ _ _ _ (ZaI Zjd rfl mStr Zbn (@Zaa _ _ _ _ _ (@Zao _ _ _ _ _ _ _ (Zes K) (pv 0) Zab (λ_ _=>rfl)) Zac rfl)) Zac rfl))) ZaP))))))))))))),?_⟩
  refine ⟨_,rfl,wb,l,n,xs,rs,rfl,W,⟨⟨by omega,by omega⟩,by omega,hrs⟩,λt ht=>?_⟩
  have htl:=ht.2
  dsimp only [ZbU]
  refine ZaD (λσ1 H1=>∃ a:Nat,σ1=[some (.ref wb),some (.ref xl),some (.str t),some (.int (a:Int)),none]/\H1=H) ?_ (λJ=>?_)
  case _=>
   rintro σ1 H1 ⟨a,rfl,rfl⟩
   refine ZaD (λσ1 H2=>∃ y:Int,(0<=y/\y<8)/\σ1=[some (.ref wb),some (.ref xl),some (.str t),some (.int (a:Int)),some (.int y)]/\H2=H1) ?_ (λJ=>?_)
   case _=>
    rintro σ1 H2 ⟨y,hy,rfl,rfl⟩
    have z21:0<=ns.getD (3:Int).toNat 0 % 21/\ns.getD (3:Int).toNat 0 % 21<21:=⟨Int.emod_nonneg _ (by decide),Int.emod_lt_of_pos _ (by decide)⟩
    obtain ⟨c,hc,pc⟩:=ZhA Zdl.1 Zdl.2 z21.1 z21.2
    have same:=Same.refl H2
    refine ⟨_,rfl,rfl,_,rfl,Zcr (λ_=>?_) (λ_=>?_)⟩
    ·refine ⟨_,rfl,_,rfl,a,rfl,t,rfl,by omega,?_⟩
     refine ⟨_,rfl,_,rfl,_,_,rfl,rfl,_,rfl,t,rfl,by omega,?_⟩
     have p:=(ht.sl none (some (a:Int))).app (ht.sl (some ((a:Int)+1)) none)
     have l1:=(ht.sl none (some (a:Int))).2
     have l2:=(ht.sl (some ((a:Int)+1)) none).2
     exact ⟨_,_,rfl,rfl,by omega,q _ _ same (p.plain (by omega))⟩
    dsimp only [ZcT]
    refine ⟨_,rfl,rfl,_,rfl,Zcr (λ_=>?_) (λ_=>?_)⟩
    ·refine ⟨_,rfl,_,rfl,a,rfl,t,rfl,by omega,?_⟩
     refine ⟨_,rfl,xl,_,_,_,rfl,rfl,SqL.of ex,ZaB (i:=3) (by decide) (by omega),_,_,rfl,rfl,(by show (0:Int)<21;decide),sgns,_,c,rfl,rfl,(by rw [Zdl.2];omega),hc,?_⟩
     have l1:=(ht.sl none (some (a:Int))).2
     have l2:=pc.2
     have l3:=(ht.sl (some (a:Int)) none).2
     have l12:=((ht.sl none (some (a:Int))).app pc).2
     refine ⟨_,_,rfl,rfl,by omega,?_⟩
     refine ⟨_,rfl,_,rfl,a,rfl,t,rfl,by omega,?_⟩
     exact ⟨_,_,rfl,rfl,by omega,q _ _ same ((((ht.sl none (some (a:Int))).app pc).app (ht.sl (some (a:Int)) none)).plain (by omega))⟩
    dsimp only [ZcT]
    refine ⟨_,rfl,rfl,_,rfl,Zcr (λ_=>?_) (λ_=>?_)⟩
    ·refine ⟨_,rfl,_,rfl,a,rfl,t,rfl,by omega,?_⟩
     refine ⟨_,rfl,xl,_,_,_,rfl,rfl,SqL.of ex,ZaB (i:=3) (by decide) (by omega),_,_,rfl,rfl,(by show (0:Int)<21;decide),sgns,_,c,rfl,rfl,(by rw [Zdl.2];omega),hc,?_⟩
     have l1:=(ht.sl none (some (a:Int))).2
     have l2:=pc.2
     have l3:=(ht.sl (some ((a:Int)+1)) none).2
     have l12:=((ht.sl none (some (a:Int))).app pc).2
     refine ⟨_,_,rfl,rfl,by omega,?_⟩
     refine ⟨_,rfl,_,rfl,_,_,rfl,rfl,_,rfl,t,rfl,by omega,?_⟩
     exact ⟨_,_,rfl,rfl,by omega,q _ _ same ((((ht.sl none (some (a:Int))).app pc).app (ht.sl (some ((a:Int)+1)) none)).plain (by omega))⟩
    dsimp only [ZcT]
    refine ⟨_,rfl,rfl,_,rfl,Zcr (λ_=>?_) (λ_=>?_)⟩
    ·have z6:0<=ns.getD (3:Int).toNat 0 % 6/\ns.getD (3:Int).toNat 0 % 6<6:=⟨Int.emod_nonneg _ (by decide),Int.emod_lt_of_pos _ (by decide)⟩
     have pn_lf:Pn 1 ("\n" : Str):=⟨by decide +kernel,by decide +kernel⟩
     have pn_s0:Pn 2 (" 0" : Str):=⟨by decide +kernel,by decide +kernel⟩
     have l0:=pn_sp.2
     have l1:=pn_lf.2
     have l2:=pn_s0.2
     refine ⟨_,rfl,t,(" " : Str),rfl,rfl,by omega,?_⟩
     refine ⟨_,rfl,(" " : Str),t,rfl,rfl,by omega,?_⟩
     refine ⟨_,rfl,t,("\n" : Str),rfl,rfl,by omega,?_⟩
     refine ⟨t,rfl,by omega,t,rfl,by omega,λy hyl hyc=>?_⟩
     refine ⟨_,rfl,t,(" 0" : Str),rfl,rfl,by omega,?_⟩
     have py:Pn 405 y:=⟨λc hc=>(hyc c hc).elim (λz=>ht.1 c z) (λz=>by omega),by omega⟩
     refine ⟨(by show 6<=sizeLine;omega),λL hL=>?_⟩
     obtain ⟨z,hz,hat⟩:=Zd2 [t++(" " : Str),(" " : Str)++t,t++("\n" : Str),("\n" : Str)++t,y,t++(" 0" : Str)] z6.1 z6.2
     refine ⟨_,rfl,xl,_,_,_,rfl,rfl,SqL.of ((Same.new hL) _ _ ex),ZaB (i:=3) (by decide) (by omega),_,_,rfl,rfl,(by show (0:Int)<6;decide),L,_,_,_,rfl,rfl,SqL.of Zad,hat,?_⟩
     refine q z _ (Same.new hL) ?_
     simp only [List.mem_cons,List.not_mem_nil,or_false] at hz
     rcases hz with rfl | rfl | rfl | rfl | rfl | rfl
     ·exact (ht.app pn_sp).plain (by omega)
     ·exact (pn_sp.app ht).plain (by omega)
     ·exact (ht.app pn_lf).plain (by omega)
     ·exact (pn_lf.app ht).plain (by omega)
     ·exact py.plain (by omega)
     ·exact (ht.app pn_s0).plain (by omega)
    dsimp only [ZcT]
    refine ZaD (λσ1 H3=>σ1=[some (.ref wb),some (.ref xl),some (.str t),some (.int (a:Int)),some (.int y)]/\H3=H2) ?_ (λJ=>?_)
    case _=>
     rintro σ1 H3 ⟨rfl,rfl⟩
     refine ⟨_,rfl,rfl,_,rfl,Zcr (λ_=>?_) (λ_=>?_)⟩
     ·have z2:0<=ns.getD (3:Int).toNat 0 % 2/\ns.getD (3:Int).toNat 0 % 2<2:=⟨Int.emod_nonneg _ (by decide),Int.emod_lt_of_pos _ (by decide)⟩
      have z10:0<=ns.getD (4:Int).toNat 0 % 10/\ns.getD (4:Int).toNat 0 % 10<10:=⟨Int.emod_nonneg _ (by decide),Int.emod_lt_of_pos _ (by decide)⟩
      refine ⟨_,rfl,xl,_,_,_,rfl,rfl,SqL.of ex,ZaB (i:=3) (by decide) (by omega),_,_,rfl,rfl,(by show (0:Int)<2;decide),_,_,rfl,rfl,?_⟩
      refine ⟨_,rfl,xl,_,_,_,rfl,rfl,SqL.of ex,ZaB (i:=4) (by decide) (by omega),_,_,rfl,rfl,(by show (0:Int)<10;decide),_,_,rfl,rfl,?_⟩
      obtain ⟨n1,en1⟩:=Int.eq_ofNat_of_zero_le (a:=9+ns.getD (3:Int).toNat 0 % 2) (by omega)
      obtain ⟨n2,en2⟩:=Int.eq_ofNat_of_zero_le (a:=27+ns.getD (4:Int).toNat 0 % 10) (by omega)
      refine ⟨n1,n2,by rw [<-en1,<-en2];rfl,by omega,by omega,λwb2 l2 n2 xs2 rs2 H4 s4 W4 g4=>?_⟩
      exact ⟨wb2,l2,n2,xs2,rs2,rfl,W4,g4,λx hx=>q x _ s4 (hx.plain (by omega))⟩
     dsimp only [ZcT]
     have z8:0<=ns.getD (3:Int).toNat 0 % 8/\ns.getD (3:Int).toNat 0 % 8<8:=⟨Int.emod_nonneg _ (by decide),Int.emod_lt_of_pos _ (by decide)⟩
     refine ⟨(by show 8<=sizeLine;omega),λL hL=>?_⟩
     have s4:Same H3 (upd H3 L (.lst ([("0" : Str), "17", "16", "00", "01", "9999", "+1", "-1"].map V.str))):=Same.new hL
     obtain ⟨z,hz,hat⟩:=Zd2 [("0" : Str), "17", "16", "00", "01", "9999", "+1", "-1"] z8.1 z8.2
     have pz:Pn 4 z:=by
      have:∀ z∈[("0" : Str), "17", "16", "00", "01", "9999", "+1", "-1"],(∀ c∈z.cps.toList,c<128)/\z.length<=4:=by decide +kernel
      exact this z hz
     refine ⟨_,rfl,xl,_,_,_,rfl,rfl,SqL.of (s4 _ _ ex),ZaB (i:=3) (by decide) (by omega),_,_,rfl,rfl,(by show (0:Int)<8;decide),L,_,_,_,rfl,rfl,SqL.of Zad,hat,?_⟩
     refine ⟨_,rfl,_,rfl,wb,_,_,_,rfl,rfl,SqT.of (s4 _ _ W.w),Zaj (j:=0) rfl,n,rfl,⟨by omega,by omega⟩,num n,rfl,(by have:=(Zel (i:=n) ⟨by omega,by omega⟩).2;omega),?_⟩
     refine ⟨_,rfl,t,rfl,by omega,?_⟩
     have l1:=(ht.sl (some ((num n).length:Int)) none).2
     have l2:=pz.2
     exact ⟨_,_,rfl,rfl,by omega,q _ _ s4 ((pz.app (ht.sl (some ((num n).length:Int)) none)).plain (by omega))⟩
    ·have road:∀ (p:Addr) (H3:Hp),Same H2 H3->H3 p=some (.lst ((ns.drop 3).map V.int))->Zgj [.ref wb,.ref p] H3 (λv H4=>ZfE [v] H4 Q E0) E0:=λp H3 s3 ep=>
      ⟨wb,l,p,n,xs,rs,ns.drop 3,rfl,W.same s3,hn,h30,hrs,ep,by rw [List.length_drop];omega,λwb2 l2 n2 xs2 rs2 H4 s4 W4 g4=>⟨wb2,l2,n2,xs2,rs2,rfl,W4,g4,λx hx=>q x _ (s3.trans s4) (hx.plain (by omega))⟩⟩
     have ec:Zdu (ns.map V.int) (some 3) none=(ns.drop 3).map V.int:=(ZbM (k:=3)).trans (List.map_drop ..).symm
     have go:∀ (p:Addr),H2 p=none->Zgj [.ref wb,.ref p] (upd H2 p (.lst (Zdu (ns.map V.int) (some 3) none))) (λv H4=>ZfE [v] H4 Q E0) E0:=λp hp=>by
      rw [ec]
      exact road p _ (Same.new hp) Zad
     refine ⟨_,rfl,rfl,_,rfl,?_⟩
     refine Zcr (λ_=>?_) (λ_=>?_)
     ·exact Za6 ⟨_,rfl,_,rfl,3,rfl,xl,_,rfl,SqL.of ex,λp hp=>go p hp⟩
     ·refine ⟨_,rfl,rfl,_,rfl,Zcr (λ_=>?_) (λ_=>?_)⟩
      ·exact ⟨_,rfl,_,rfl,3,rfl,xl,_,rfl,SqL.of ex,λp hp=>go p hp⟩
      ·exact J _ _ ⟨rfl,rfl⟩
   ·exact ⟨_,rfl,xl,_,_,_,rfl,rfl,SqL.of ex,ZaB (i:=2) (by decide) (by omega),_,_,rfl,rfl,(by show (0:Int)<8;decide),J _ _ ⟨_,⟨Int.emod_nonneg _ (by omega),Int.emod_lt_of_pos _ (by omega)⟩,rfl,rfl⟩⟩
  ·refine ⟨_,rfl,xl,_,_,_,rfl,rfl,SqL.of ex,ZaB (i:=0) (by decide) (by omega),_,rfl,xl,_,_,_,rfl,rfl,SqL.of ex,ZaB (i:=1) (by decide) (by omega),_,_,rfl,rfl,.inl ⟨by decide,by decide⟩,_,_,rfl,rfl,_,rfl,t,rfl,by omega,_,_,rfl,rfl,_,_,rfl,rfl,(by show (0:Int)<(t.length:Int)+1;omega),?_⟩
   have hm:=Int.emod_nonneg (ns.getD (0:Int).toNat 0+64 * ns.getD (1:Int).toNat 0) (b:=(t.length:Int)+1) (by omega)
   obtain ⟨a,ea⟩:=Int.eq_ofNat_of_zero_le hm
   exact J _ _ ⟨a,by rw [<-ea];rfl,rfl⟩
end
end M
namespace M
open PySem L2
structure ZjW (K:PySem.W.Frag) (mg:Str->Option Value) (C T way:Addr):Prop where
 kT:Zi5 K T
 mT:mg "NoText" = some (.ref T)
 mC:mg "NoWeb" = some (.ref C)
 mW:mg "WayError" = some (.ref way)
 tbe:PySem.W.subIn K (.ref T) (.type "BaseException")=some true
 wbe:PySem.W.subIn K (.ref way) (.type "BaseException")=some true
 tt:PySem.W.kitCls K (.ref T) (.ref T)=some true
 tw:PySem.W.kitCls K (.ref T) (.ref way)=some true
 tc:PySem.W.kitOne K (.ref T) (.ref C)=some false
 tv:PySem.W.kitOne K (.ref T) (.type "ValueError")=some true
 vee:mg "ValueError" = none
section
variable {P:Program} {w:World} {K:PySem.W.Frag} {mg:Str->Option Value} {base:Heap}
def Thg (K:PySem.W.Frag) (H:Hp) (v:V) (g:Option (Int×List (Int×Int))):Prop:=(∃ x:Str,v=.str x/\Plain x/\((∃ n rs,g=some (n,rs)/\Good (Txt.split x (" " : Str)) n rs)\/(g=none/\∀ n rs,¬ Good (Txt.split x (" " : Str)) n rs)))\/(g=none/\NoS K H v)
theorem ZfF {K:PySem.W.Frag} {H H':Hp} {v:V} {c:Value} (h:ZdT K H v c) (s:Same H H'):ZdT K H' v c:=by
 cases h with
 | non=>exact .non
 | bl x=>exact .bl x
 | int i=>exact .int i
 | str x=>exact .str x
 | flt x=>exact .flt x
 | lst e=>exact .lst (s _ _ e)
 | frz e=>exact .frz (s _ _ e)
 | tup e=>exact .tup (s _ _ e)
 | dK e=>exact .dK (s _ _ e)
 | dT e=>exact .dT (s _ _ e)
 | ins e cl ha hn htk hm=>exact .ins (s _ _ e) cl ha hn htk hm
theorem Thg.same {H H':Hp} {v:V} {g:Option (Int×List (Int×Int))} (h:Thg K H v g) (s:Same H H'):Thg K H' v g:=by
 rcases h with h | ⟨a,c,b,d⟩
 ·exact .inl h
 ·exact .inr ⟨a,c,ZfF b s,d⟩
theorem Thg.rea {H:Hp} {v:V} {g:Option (Int×List (Int×Int))} {T:Addr} {Q:VK} {E:XK} (h:Thg K H v g) (hg:∀ n rs,g=some (n,rs)->rs.length<=30->∀ (wb l:Addr) (xs:List V) (H':Hp),Same H H'->WebAt H' wb l n xs rs->Q (.ref wb) H') (hb:g=none->∀ H',Same H H'->E (.ref T) none H'):Zgh K T [v] H Q E:=by
 rcases h with ⟨x,rfl,px,h⟩ | ⟨e,h⟩
 ·refine .inl ⟨x,rfl,px,λn rs gd=>?_,λbad=>?_⟩
  ·rcases h with ⟨n',rs',e,gd'⟩ | ⟨_,no⟩
   ·have e1:=gd'.1
    rw [gd.1] at e1
    have en:=Zbq (a:=n) (b:=n') ⟨by have:=gd.2.1.1;omega,by have:=gd.2.2.1;omega⟩ ⟨by have:=gd'.2.1.1;omega,by have:=gd'.2.2.1;omega⟩ (List.cons.inj e1).1
    have er:=ZbB (λr hr=>ZbF (gd.sm r hr).1 (gd.sm r hr).2) (λr hr=>ZbF (gd'.sm r hr).1 (gd'.sm r hr).2) (List.cons.inj e1).2
    subst en
    subst er
    exact hg n rs e gd.2.2.2
   ·exact absurd gd (no n rs)
  ·rcases h with ⟨n',rs',e,gd'⟩ | ⟨e,no⟩
   ·exact absurd gd' (bad _ _)
   ·exact hb e
 ·exact .inr ⟨v,rfl,h,hb e⟩
theorem Thg.lre {H:Hp} {x:Str} {g:Option (Int×List (Int×Int))} {Q:VK} {E:XK} (h:Thg K H (.str x) g) (hp:Plain x) (hs:¬ NoS K H (.str x)) (hg:∀ n rs,g=some (n,rs)->rs.length<=30->∀ (wb l:Addr) (xs:List V) (H':Hp),Same H H'->WebAt H' wb l n xs rs->Q (.ref wb) H') (hb:g=none->∀ H',Same H H'->Q .non H'):Zgi [.str x] H Q E:=by
 rcases h with ⟨x',ex,px,h⟩ | ⟨e,h⟩
 ·cases ex
  refine ⟨x,rfl,px,λn rs gd=>?_,λbad=>?_⟩
  ·rcases h with ⟨n',rs',e,gd'⟩ | ⟨_,no⟩
   ·have e1:=gd'.1
    rw [gd.1] at e1
    have en:=Zbq (a:=n) (b:=n') ⟨by have:=gd.2.1.1;omega,by have:=gd.2.2.1;omega⟩ ⟨by have:=gd'.2.1.1;omega,by have:=gd'.2.2.1;omega⟩ (List.cons.inj e1).1
    have er:=ZbB (λr hr=>ZbF (gd.sm r hr).1 (gd.sm r hr).2) (λr hr=>ZbF (gd'.sm r hr).1 (gd'.sm r hr).2) (List.cons.inj e1).2
    subst en
    subst er
    exact hg n rs e gd.2.2.2
   ·exact absurd gd (no n rs)
  ·rcases h with ⟨n',rs',e,gd'⟩ | ⟨e,no⟩
   ·exact absurd gd' (bad _ _)
   ·exact hb e
 ·exact absurd h hs
def ZiR (K:PySem.W.Frag):Sp:=λvs H Q _=>∃ (v:V) (g:Option (Int×List (Int×Int))),vs=[v]/\Thg K H v g /\
 (∀ n rs,g=some (n,rs)->rs.length<=30->∀ (t wb l:Addr) (xs:List V) (H':Hp),Same H H'->WebAt H' wb l n xs rs->H' t=some (.tup [.str "told", .ref wb])->Q (.ref t) H')/\(g=none->∀ (t:Addr) (H':Hp),Same H H'->H' t=some (.tup [.str "text", .non])->Q (.ref t) H')
theorem scAsk:ZaC ["thing", "word", "found", "e"] ["thing"] (Zaf Zht):=⟨rfl,rfl,rfl,by decide +kernel,rfl,by decide +kernel,by decide +kernel⟩
theorem ZiS {f fRea C T way:Addr} {fd fdRea:FuncData} (F:Fun K "_law_asked" "_law_asked" Zht f fd) (C:ZjW K mg C T way) (FRea:Fun K "read_web" "read_web" ZgB fRea fdRea) (bRea:Binds K fdRea ["text"] []) (mRea:mg "read_web" = some (.ref fRea)) (GRea:ZaY P w K mg base (CXr P w) 4 fRea fdRea ["text"] (Zgh K T))
  (mIsi:mg "isinstance" = none) (mInt:mg "int" = none):ZaY P w K mg base CX0 5 f fd ["thing"] (ZiR K):=by
 refine F.ok scAsk (λvs H Q E h=>?_) (λcdv A outer s H vs Q E hr h=>?_)
 ·obtain ⟨_,_,rfl,_⟩:=h
  rfl
 ·obtain ⟨v,g,rfl,th,hg,hb⟩:=h
  have h16:(16777216:Nat)=sizeLine:=sizeLine_eq.symm
  refine ⟨_,(@Zae _ _ _ _ _ (@Zam _ _ 1 _ _ _ _ scAsk.nd rfl (Or.inl rfl) Zal rfl (by first | exact .inl rfl | exact .inr rfl))
    (@Zae _ _ _ _ _ (@Zam _ _ 2 _ _ _ _ scAsk.nd rfl (Or.inl rfl) Zb5 rfl (by first | exact .inl rfl | exact .inr rfl))
    (@Zae _ _ _ _ _ (Zg1 (i:=3) (Zin (j:=2) GRea (hr.mono (by decide)) rfl mRea FRea.kp bRea .nil (@Zaa _ _ _ _ _ (pv 0) Zac rfl) scAsk.nd rfl (Or.inl rfl)) rfl rfl rfl rfl scAsk.nd rfl rfl rfl C.mT C.tbe (λa=>@Zag _ _ _ (@Zam _ _ 1 _ _ _ _ scAsk.nd rfl (Or.inl rfl) (@Zao _ _ _ _ _ _ _ (Za8 K) (@ZaS _ _ _ _ (@Zaa _ _ _ _ _ Zal (@Zaa _ _ _ _ _ Zal Zac rfl) rfl)) (ZaI ZeN rfl mInt boot_int (@Zaa _ _ _ _ _ (Zah (Zer K) rfl mIsi ZaK (@Zaa _ _ _ _ _ (pv 3) (@Zaa _ _ _ _ _ (Zh7 C.mC) Zac rfl) rfl)) Zac rfl)) (λ_ _=>rfl)) rfl (by first | exact .inl rfl | exact .inr rfl))))
    (@Zag _ _ _ (@Zau _ _ _ _ (@ZaW _ _ _ _ _ (@Zaa _ _ _ _ _ (pv 1) (@Zaa _ _ _ _ _ (pv 2) Zac rfl) rfl))))))),?_⟩
  refine ZaD (λσ1 H1=>σ1=[some v,some (.str "told"),none,none]/\H1=H) ?_ (λJ=>J _ _ ⟨rfl,rfl⟩)
  rintro σ1 H1 ⟨rfl,rfl⟩
  refine ZaD (λσ1 H2=>σ1=[some v,some (.str "told"),some .non,none]/\H2=H1) ?_ (λJ=>J _ _ ⟨rfl,rfl⟩)
  rintro σ1 H2 ⟨rfl,rfl⟩
  refine ZaD (λσ1 H3=>Same H2 H3/\((∃ wb l n xs rs,σ1=[some v,some (.str "told"),some (.ref wb),none]/\g=some (n,rs)/\rs.length<=30/\WebAt H3 wb l n xs rs)\/(g=none/\σ1=[some v,some (.str "text"),some .non,none]))) ?_ (λJ=>?_)
  case _=>
   rintro σ1 H3 ⟨s3,⟨wb,l,n,xs,rs,rfl,eg,hl,W⟩ | ⟨eg,rfl⟩⟩
   ·refine ⟨_,rfl,_,rfl,ZaU,λt ht=>?_⟩
    have s4:Same H3 (upd H3 t (.tup [.str "told", .ref wb])):=Same.new ht
    exact hg n rs eg hl t wb l xs _ (s3.trans s4) (W.same s4) Zad
   ·refine ⟨_,rfl,_,rfl,ZaU,λt ht=>?_⟩
    have s4:Same H3 (upd H3 t (.tup [.str "text", .non])):=Same.new ht
    exact hb eg t _ (s3.trans s4) Zad
  ·refine ⟨_,rfl,?_⟩
   dsimp only [Zi0]
   refine Thg.rea th (λn rs eg hl wb l xs H3 s3 W=>?_) (λeg H3 s3=>?_)
   ·exact J _ _ ⟨s3,.inl ⟨wb,l,n,xs,rs,rfl,eg,hl,W⟩⟩
   ·refine ⟨T,rfl,C.tt,λa ha=>?_⟩
    have s4:Same H3 (upd H3 a (Zeq a T)):=Same.new ha
    have e4:upd H3 a (Zeq a T) a=some (Zeq a T):=Zad
    generalize upd H3 a (Zeq a T)=H4 at s4 e4 ⊢
    refine ⟨ZaU,λL hL=>?_⟩
    have s5:Same H4 (upd H4 L (.lst [.str "text", .str "odd"])):=Same.new hL
    refine ⟨_,rfl,_,_,false,rfl,.inr ⟨false,rfl,?_⟩,.inr (.inl ⟨a,_,rfl,s5 _ _ e4,C.kT,rfl,C.tc⟩)⟩
    refine ⟨L,_,_,_,rfl,rfl,SqL.of Zad,Zaj (j:=0) rfl,?_⟩
    exact J _ _ ⟨s3.trans (s4.trans s5),.inr ⟨eg,rfl⟩⟩
def ZiT (K:PySem.W.Frag):Sp:=λvs H Q _=>∃ v:V,vs=[v]/\Thg K H v none/\∀ H',Same H H'->Q (.bl true) H'
theorem scAny:ZaC ["thing", "found", "e"] ["thing"] (Zaf Zhu):=⟨rfl,rfl,rfl,by decide +kernel,rfl,by decide +kernel,by decide +kernel⟩
theorem ZiU {f fRea C T way:Addr} {fd fdRea:FuncData} (F:Fun K "_law_any" "_law_any" Zhu f fd) (C:ZjW K mg C T way) (FRea:Fun K "read_web" "read_web" ZgB fRea fdRea) (bRea:Binds K fdRea ["text"] []) (mRea:mg "read_web" = some (.ref fRea)) (GRea:ZaY P w K mg base (CXr P w) 4 fRea fdRea ["text"] (Zgh K T))
  (mIsi:mg "isinstance" = none):ZaY P w K mg base CX0 5 f fd ["thing"] (ZiT K):=by
 refine F.ok scAny (λvs H Q E h=>?_) (λcdv A outer s H vs Q E hr h=>?_)
 ·obtain ⟨_,rfl,_⟩:=h
  rfl
 ·obtain ⟨v,rfl,th,q⟩:=h
  refine ⟨_,(@Zae _ _ _ _ _ (@Zam _ _ 1 _ _ _ _ scAny.nd rfl (Or.inl rfl) Zdn rfl (by first | exact .inl rfl | exact .inr rfl))
    (@Zae _ _ _ _ _ (Zh4 (i:=2) GRea (hr.mono (by decide)) rfl mRea FRea.kp bRea .nil (@Zaa _ _ _ _ _ (pv 0) Zac rfl) rfl rfl rfl rfl scAny.nd rfl rfl rfl C.mW C.wbe (λa=>@Zag _ _ _ (@Zam _ _ 1 _ _ _ _ scAny.nd rfl (Or.inl rfl) (Zah (Zer K) rfl mIsi ZaK (@Zaa _ _ _ _ _ (pv 2) (@Zaa _ _ _ _ _ (Zbs C.vee ZgY) Zac rfl) rfl)) rfl (by first | exact .inl rfl | exact .inr rfl))))
    (@Zag _ _ _ (@Zau _ _ _ _ (pv 1))))),?_⟩
  refine ZaD (λσ1 H1=>σ1=[some v,some (.bl false),none]/\H1=H) ?_ (λJ=>J _ _ ⟨rfl,rfl⟩)
  rintro σ1 H1 ⟨rfl,rfl⟩
  refine ⟨_,rfl,?_⟩
  dsimp only [Zi0]
  refine Thg.rea th (λn rs eg=>by cases eg) (λ_ H3 s3=>?_)
  refine ⟨T,rfl,C.tw,λa ha=>?_⟩
  have s4:Same H3 (upd H3 a (Zeq a T)):=Same.new ha
  have e4:upd H3 a (Zeq a T) a=some (Zeq a T):=Zad
  generalize upd H3 a (Zeq a T)=H4 at s4 e4 ⊢
  refine ⟨_,rfl,_,_,true,rfl,?_,.inr (.inl ⟨a,_,rfl,e4,C.kT,rfl,C.tv⟩)⟩
  exact ⟨_,rfl,q _ (s3.trans s4)⟩
end
end M
namespace M
open PySem L2
theorem ZkB {X:Cx} (K:PySem.W.Frag) (h:X.K=K:=by rfl):IxR X (λx i H Q=>Zi2 K x i H Q\/Zi3 K x i H Q):=by
 subst h
 intro value slice pins s σ H x y v u Q I rx ry q e
 rcases q with q | q
 ·exact ZeS value slice pins s σ H x y v u Q I rx ry q e
 ·exact Zgq value slice pins s σ H x y v u Q I rx ry q e
def Zbt:Nat->PyData->Bool
 | 0,_=>false
 | _+1,.int _=>true
 | m+1,.tuple ds=>ds.all (Zbt m)
 | m+1,.list ds=>ds.all (Zbt m)
 | _+1,_=>false
structure ZjX (K:PySem.W.Frag):Prop where
 is:PySem.W.kitOne K (.type "int") (.type "str")=some false
 ls:PySem.W.kitOne K (.type "list") (.type "str")=some false
 ts:PySem.W.kitOne K (.type "tuple") (.type "str")=some false
 it:PySem.W.kitOne K (.type "int") (.type "tuple")=some false
 il:PySem.W.kitOne K (.type "int") (.type "list")=some false
 lt:PySem.W.kitOne K (.type "list") (.type "tuple")=some false
 tl:PySem.W.kitOne K (.type "tuple") (.type "list")=some false
 ib:PySem.W.kitOne K (.type "int") (.type "bool")=some false
section
variable {P:Program} {w:World} {K:PySem.W.Frag} {mg:Str->Option Value} {base:Heap}
def ZiV (m:Nat):Sp:=λvs H Q _=>∃ (v u:V) (d:PyData),vs=[v,u]/\Th H v d/\Th H u d/\Zbt m d=true/\∀ H',Same H H'->Q (.bl true) H'
theorem ZjY:ZaC ["found", "due"] ["found", "due"] (Zaf Zho):=⟨rfl,rfl,rfl,by decide +kernel,rfl,by decide +kernel,by decide +kernel⟩
theorem ZgF {f:Addr} {fd:FuncData} (FAli:Fun K "_law_alike" "_law_alike" Zho f fd) (bAli:Binds K fd ["found", "due"] []) (mAli:mg "_law_alike" = some (.ref f)) (k:ZjX K) (mIsi:mg "isinstance" = none) (mStr:mg "str" = none) (mTup:mg "tuple" = none) (mLst:mg "list" = none)
  (mInt:mg "int" = none) (mBool:mg "bool" = none) (mLen:mg "len" = none) (mRange:mg "range" = none):∀ m,ZaY P w K mg base CX0 m f fd ["found", "due"] (ZiV m)
 | 0=>⟨λvs H Q E h=>by obtain ⟨_,_,_,_,_,_,z,_⟩:=h;exact absurd z (by simp [Zbt]),λA outer s H args us vs Q E _ _ _ _ h=>by obtain ⟨_,_,_,_,_,_,z,_⟩:=h;exact absurd z (by simp [Zbt])⟩
 | m+1=>by
  have GAli:=ZgF FAli bAli mAli k mIsi mStr mTup mLst mInt mBool mLen mRange m
  refine FAli.ok ZjY (λvs H Q E h=>?_) (λcdv A outer s H vs Q E hr h=>?_)
  ·obtain ⟨_,_,_,rfl,_⟩:=h
   rfl
  ·obtain ⟨v,u,d,rfl,hv,hu',hp,q⟩:=h
   have hu:=hr.units
   have h16:(16777216:Nat)=sizeLine:=sizeLine_eq.symm
   refine ⟨_,(@Zae _ _ _ _ _ (@ZaO _ _ _ _ _ _ _ _ (Zbr (Zah (Zer K) rfl mIsi ZaK (@Zaa _ _ _ _ _ (pv 1) (@Zaa _ _ _ _ _ (Zbs mStr Zbn) Zac rfl) rfl))) (@Zag _ _ _ (@Zau _ _ _ _ (ZeG (Zah (Zer K) rfl mIsi ZaK (@Zaa _ _ _ _ _ (pv 0) (@Zaa _ _ _ _ _ (Zbs mStr Zbn) Zac rfl) rfl)) (ZeF (Zcm ZbV (pv 0) (pv 1) (Zan _)))))) Zat)
    (@Zae _ _ _ _ _ (@ZaO _ _ _ _ _ _ _ _ (PW.pt (ZbG (Zbr (Zah (Zer K) rfl mIsi ZaK (@Zaa _ _ _ _ _ (pv 1) (@Zaa _ _ _ _ _ (Zbs mTup ZbY) Zac rfl) rfl))) (Zbv (Zbr (Zah (Zer K) rfl mIsi ZaK (@Zaa _ _ _ _ _ (pv 1) (@Zaa _ _ _ _ _ (Zbs mLst ZbL) Zac rfl) rfl)))))) (@Zae _ _ _ _ _ (@ZaO _ _ _ _ _ _ _ _ (PW.pt (ZbG (Zai ZeM (Zah (Zer K) rfl mIsi ZaK (@Zaa _ _ _ _ _ (pv 0) (@Zaa _ _ _ _ _ (Zbs mTup ZbY) Zac rfl) rfl)) (Zah (Zer K) rfl mIsi ZaK (@Zaa _ _ _ _ _ (pv 1) (@Zaa _ _ _ _ _ (Zbs mTup ZbY) Zac rfl) rfl)) (Zan _)) (Zbv (Zai ZeM (Zah (Zer K) rfl mIsi ZaK (@Zaa _ _ _ _ _ (pv 0) (@Zaa _ _ _ _ _ (Zbs mLst ZbL) Zac rfl) rfl)) (Zah (Zer K) rfl mIsi ZaK (@Zaa _ _ _ _ _ (pv 1) (@Zaa _ _ _ _ _ (Zbs mLst ZbL) Zac rfl) rfl)) (Zan _))))) (@Zag _ _ _ (@Zau _ _ _ _ Zdn)) Zat)
    (@Zae _ _ _ _ _ (@ZaO _ _ _ _ _ _ _ _ (Zai ZeM (Zah (Ze4 K) rfl mLen PySem.boot_len (@Zaa _ _ _ _ _ (pv 0) Zac rfl)) (Zah (Ze4 K) rfl mLen PySem.boot_len (@Zaa _ _ _ _ _ (pv 1) Zac rfl)) (Zan _)) (@Zag _ _ _ (@Zau _ _ _ _ Zdn)) Zat)
    (@Zag _ _ _ (@Zau _ _ _ _ (Zcm (Zi7 K hu) (ZcY (own:=["k"]) rfl (Zbb (fr:=[("found", 0),("due", 1)]) [(".0", .local),("k", .local),("_law_alike", .globalImplicit),("due", .cell),("found", .cell)] rfl rfl (by decide +kernel) rfl (by decide +kernel) ⟨rfl,rfl,trivial⟩ ⟨λh=>ZdE h,λh=>ZdE h,λh=>ZdE h,λ_=>⟨_,rfl⟩,λ_=>⟨_,rfl⟩,trivial⟩ ⟨⟨rfl,.inl rfl,.inl rfl⟩,⟨rfl,.inl rfl,.inl rfl⟩,trivial⟩) (Zbd rfl mRange (@Zaa _ _ _ _ _ (Zah (Ze4 K) rfl mLen PySem.boot_len (@Zaa _ _ _ _ _ (pv 1) Zac rfl)) Zac rfl)) (λ_ _ _ _=>ZaG (i:=0) (show List.Nodup (["k", "found", "due"]:List Str) by decide +kernel) rfl (Or.inl rfl)) (λ_ _ _ _=>ZfR (ZbI (Zbr (@Zay _ _ _ _ _ _ _ _ _ _ _ _ _ _ _ _ GAli (hr.mono (by omega)) rfl mAli FAli.kp bAli .nil Zba (@Zaa _ _ _ _ _ (@Zao _ _ _ _ _ _ _ (ZkB K) (pv 1) (pv 0) (λ_ _=>rfl)) (@Zaa _ _ _ _ _ (@Zao _ _ _ _ _ _ _ (ZkB K) (pv 2) (pv 0) (λ_ _=>rfl)) Zac rfl) rfl) (by decide) rfl rfl)))) (λ_ _ _ _=>pv 0)) (@ZaS _ _ _ _ Zac) (Zan _)))))) Zat)
    (@Zag _ _ _ (@Zau _ _ _ _ (ZeG (Zah (Zer K) rfl mIsi ZaK (@Zaa _ _ _ _ _ (pv 0) (@Zaa _ _ _ _ _ (Zbs mInt boot_int) Zac rfl) rfl)) (ZeG (Zgn (Zah (Zer K) rfl mIsi ZaK (@Zaa _ _ _ _ _ (pv 0) (@Zaa _ _ _ _ _ (Zbs mBool Ze3) Zac rfl) rfl))) (ZeF (Zcm ZbV (pv 0) (pv 1) (Zan _))))))))),?_⟩
   cases hu' with
   | int i=>
    cases hv
    refine ⟨_,rfl,_,_,false,rfl,⟨_,rfl,Za5 ?_⟩,.inl ⟨_,.int _,rfl,k.is⟩⟩
    refine ⟨_,rfl,_,_,false,rfl,⟨_,rfl,Za5 ?_⟩,.inl ⟨_,.int _,rfl,k.it⟩⟩
    refine ⟨_,rfl,_,_,false,rfl,⟨_,rfl,Za5 ?_⟩,.inl ⟨_,.int _,rfl,k.il⟩⟩
    refine ⟨_,rfl,_,_,true,rfl,⟨_,rfl,Za6 ⟨_,rfl,_,_,false,rfl,⟨_,rfl,_,rfl,Za6 ?_⟩,.inl ⟨_,.int _,rfl,k.ib⟩⟩⟩,.inl ⟨_,.int _,rfl,Za0⟩⟩
    refine ⟨_,rfl,_,rfl,rfl,?_⟩
    rw [decide_eq_true rfl]
    exact q _ (Same.refl _)
   | @tup a xs ds e z hd=>
    cases hv with
    | @tup a' xs' _ e' z' hd'=>
     refine ⟨_,rfl,_,_,false,rfl,⟨_,rfl,Za5 ?_⟩,.inl ⟨_,.tup e,rfl,k.ts⟩⟩
     refine ⟨_,rfl,_,_,true,rfl,⟨_,rfl,Za6 ?_⟩,.inl ⟨_,.tup e,rfl,Za0⟩⟩
     refine Za6 ?_
     have cT:(!decide (V.bl true=V.bl true))=false:=by decide
     have cF:(!decide (V.bl false=V.bl false))=false:=by decide
     refine ⟨_,rfl,_,_,true,rfl,⟨_,rfl,_,_,true,rfl,⟨rfl,_,rfl,?_⟩,.inl ⟨_,.tup e,rfl,Za0⟩⟩,.inl ⟨_,.tup e',rfl,Za0⟩⟩
     rw [cT]
     refine Za5 ?_
     refine ⟨_,rfl,_,_,false,rfl,⟨_,rfl,_,_,false,rfl,⟨rfl,_,rfl,?_⟩,.inl ⟨_,.tup e,rfl,k.tl⟩⟩,.inl ⟨_,.tup e',rfl,k.tl⟩⟩
     rw [cF]
     refine Za5 ?_
     have hl:xs'.length=xs.length:=by rw [hd'.len,hd.len]
     refine ⟨_,rfl,a',xs',rfl,.inr (SqT.of e'),_,rfl,a,xs,rfl,.inr (SqT.of e),rfl,_,rfl,?_⟩
     have cL:(!decide (V.int (xs'.length:Int)=V.int (xs.length:Int)))=false:=by rw [hl];simp
     rw [cL]
     refine Za5 ?_
     have hlen:=hd.len
     have hpl:∀ x∈ds,Zbt m x=true:=List.all_eq_true.mp (by simpa only [Zbt] using hp)
     refine ⟨_,rfl,a,xs,rfl,.inr (SqT.of e),_,rfl,by omega,by omega,λD hD=>?_⟩
     rw [Int.toNat_natCast]
     refine ZbX (lo:=0) (n:=xs.length) (λj zs H3=>Same H H3/\H3 D=some (.lst zs)/\zs=[]) ⟨Same.new hD,Zad,rfl⟩ ?_ ?_
     ·rintro j zs H3 hj ⟨s3,e3,rfl⟩
      rw [Int.zero_add]
      refine ⟨⟨rfl,rfl,trivial⟩,?_⟩
      obtain ⟨dx,ex,tx⟩:=(hd.same s3).get (List.getElem?_eq_getElem hj)
      obtain ⟨dx',ex',tx'⟩:=(hd'.same s3).get (List.getElem?_eq_getElem (l:=xs') (i:=j) (by omega))
      rw [ex] at ex'
      cases ex'
      refine ⟨_,rfl,_,rfl,.inr ⟨a',xs',_,_,rfl,rfl,SqT.of (s3 _ _ e'),Zaj (List.getElem?_eq_getElem (by omega)),?_⟩⟩
      refine ⟨_,rfl,_,rfl,.inr ⟨a,xs,_,_,rfl,rfl,SqT.of (s3 _ _ e),Zaj (List.getElem?_eq_getElem hj),?_⟩⟩
      refine ⟨_,_,dx,rfl,tx',tx,hpl dx (List.mem_of_getElem? ex),λH4 s4=>⟨_,rfl,?_⟩⟩
      exact ⟨s3.trans s4,s4 _ _ e3,rfl⟩
     ·rintro zs H3 ⟨s3,e3,rfl⟩
      refine ⟨Nat.zero_le _,λB hB=>?_⟩
      have s4:Same H3 (upd H3 B (.lst [])):=Same.new hB
      refine ⟨.list (([]:List Int).map PyData.int),.list (([]:List Int).map PyData.int),.lst (SqL.of (s4 _ _ e3)) .nil,.lst (SqL.of Zad) .nil,Zbk _,Zbk _,?_⟩
      exact q _ (s3.trans s4)
   | @lst a xs ds e z hd=>
    cases hv with
    | @lst a' xs' _ e' z' hd'=>
     refine ⟨_,rfl,_,_,false,rfl,⟨_,rfl,Za5 ?_⟩,.inl ⟨_,.lst e,rfl,k.ls⟩⟩
     refine ⟨_,rfl,_,_,false,rfl,⟨_,rfl,Za5 ?_⟩,.inl ⟨_,.lst e,rfl,k.lt⟩⟩
     refine ⟨_,rfl,_,_,true,rfl,⟨_,rfl,Za6 ?_⟩,.inl ⟨_,.lst e,rfl,Za0⟩⟩
     have cT:(!decide (V.bl true=V.bl true))=false:=by decide
     have cF:(!decide (V.bl false=V.bl false))=false:=by decide
     refine ⟨_,rfl,_,_,false,rfl,⟨_,rfl,_,_,false,rfl,⟨rfl,_,rfl,?_⟩,.inl ⟨_,.lst e,rfl,k.lt⟩⟩,.inl ⟨_,.lst e',rfl,k.lt⟩⟩
     rw [cF]
     refine Za5 ?_
     refine ⟨_,rfl,_,_,true,rfl,⟨_,rfl,_,_,true,rfl,⟨rfl,_,rfl,?_⟩,.inl ⟨_,.lst e,rfl,Za0⟩⟩,.inl ⟨_,.lst e',rfl,Za0⟩⟩
     rw [cT]
     refine Za5 ?_
     have hl:xs'.length=xs.length:=by rw [hd'.len,hd.len]
     refine ⟨_,rfl,a',xs',rfl,.inl (SqL.of e'),_,rfl,a,xs,rfl,.inl (SqL.of e),rfl,_,rfl,?_⟩
     have cL:(!decide (V.int (xs'.length:Int)=V.int (xs.length:Int)))=false:=by rw [hl];simp
     rw [cL]
     refine Za5 ?_
     have hlen:=hd.len
     have hpl:∀ x∈ds,Zbt m x=true:=List.all_eq_true.mp (by simpa only [Zbt] using hp)
     refine ⟨_,rfl,a,xs,rfl,.inl (SqL.of e),_,rfl,by omega,by omega,λD hD=>?_⟩
     rw [Int.toNat_natCast]
     refine ZbX (lo:=0) (n:=xs.length) (λj zs H3=>Same H H3/\H3 D=some (.lst zs)/\zs=[]) ⟨Same.new hD,Zad,rfl⟩ ?_ ?_
     ·rintro j zs H3 hj ⟨s3,e3,rfl⟩
      rw [Int.zero_add]
      refine ⟨⟨rfl,rfl,trivial⟩,?_⟩
      obtain ⟨dx,ex,tx⟩:=(hd.same s3).get (List.getElem?_eq_getElem hj)
      obtain ⟨dx',ex',tx'⟩:=(hd'.same s3).get (List.getElem?_eq_getElem (l:=xs') (i:=j) (by omega))
      rw [ex] at ex'
      cases ex'
      refine ⟨_,rfl,_,rfl,.inl ⟨a',xs',_,_,rfl,rfl,SqL.of (s3 _ _ e'),Zaj (List.getElem?_eq_getElem (by omega)),?_⟩⟩
      refine ⟨_,rfl,_,rfl,.inl ⟨a,xs,_,_,rfl,rfl,SqL.of (s3 _ _ e),Zaj (List.getElem?_eq_getElem hj),?_⟩⟩
      refine ⟨_,_,dx,rfl,tx',tx,hpl dx (List.mem_of_getElem? ex),λH4 s4=>⟨_,rfl,?_⟩⟩
      exact ⟨s3.trans s4,s4 _ _ e3,rfl⟩
     ·rintro zs H3 ⟨s3,e3,rfl⟩
      refine ⟨Nat.zero_le _,λB hB=>?_⟩
      have s4:Same H3 (upd H3 B (.lst [])):=Same.new hB
      refine ⟨.list (([]:List Int).map PyData.int),.list (([]:List Int).map PyData.int),.lst (SqL.of (s4 _ _ e3)) .nil,.lst (SqL.of Zad) .nil,Zbk _,Zbk _,?_⟩
      exact q _ (s3.trans s4)
   | _=>exact absurd hp (by simp [Zbt])
end
end M
namespace M
open PySem L2
theorem ZfG (ns:List Int) {j:Int} (h0:0<=j) (h1:j<ns.length):∃ z∈ns,atI (ns.map V.int) j=some (.int z):=by
 obtain ⟨k,rfl⟩:=Int.eq_ofNat_of_zero_le h0
 have hk:k<ns.length:=by omega
 refine ⟨ns[k],List.getElem_mem hk,Zaj ?_⟩
 show (ns.map V.int)[k]?=some (.int ns[k])
 rw [List.getElem?_map,List.getElem?_eq_getElem hk]
 rfl
theorem ZfH {H:Hp}:∀ {xs:List V} {rs:List (Int×Int)},Prs H xs rs->Ths H xs (rs.map prD)
 | _,_,.nil=>.nil
 | _,_,.cons e h=>.cons (.tup e (by show 2<=1000;omega) (.cons (.int _) (.cons (.int _) .nil))) (ZfH h)
theorem ZgG {H:Hp} {wb l:Addr} {n:Int} {xs:List V} {rs:List (Int×Int)} (W:WebAt H wb l n xs rs) (h:rs.length<=30):Th H (.ref wb) (.tuple [.int n,.list (rs.map prD)]):=
 .tup W.w (by show 2<=1000;omega) (.cons (.int _) (.cons (.lst W.l (by rw [W.p.len];omega) (ZfH W.p)) .nil))
theorem ZfI (n:Int) (rs:List (Int×Int)):Zbt 4 (.tuple [.int n,.list (rs.map prD)])=true:=by
 simp [Zbt,prD]
structure ZkC (K:PySem.W.Frag):Prop where
 ns:PySem.W.kitOne K (.type "NoneType") (.type "str")=some false
 bs:PySem.W.kitOne K (.type "bool") (.type "str")=some false
 ds:PySem.W.kitOne K (.type "dict") (.type "str")=some false
theorem ZiW:∀ z∈[("" : Str), " ", "web", "3 0-1,1-2", "3 0 1", "2 0-1-1", "2 0--1", "2 -0-1", "3-4"],(∀ c∈z.cps.toList,c<128)/\z.length<=20:=by decide +kernel
section
variable {P:Program} {w:World} {K:PySem.W.Frag} {mg:Str->Option Value} {base:Heap}
theorem Zgk {H:Hp} {x:Str} (p:Plain x):∃ g,Thg K H (.str x) g:=by
 by_cases h:∃ n rs,Good (Txt.split x (" " : Str)) n rs
 ·obtain ⟨n,rs,g⟩:=h
  exact ⟨_,.inl ⟨x,rfl,p,.inl ⟨n,rs,rfl,g⟩⟩⟩
 ·exact ⟨none,.inl ⟨x,rfl,p,.inr ⟨rfl,λn rs g=>h ⟨n,rs,g⟩⟩⟩⟩
theorem ZhB {H:Hp} {x:Str}:¬ NoS K H (.str x):=by
 rintro ⟨c,t,k⟩
 cases t
 rw [Za0] at k
 cases k
def Zgl (K:PySem.W.Frag):Sp:=λvs H Q _=>∃ (a:Addr) (ns:List Int),vs=[.ref a]/\SqL K H a (ns.map V.int)/\ns.length<=63/\∀ H',Q (.bl true) H'
theorem scLaw:ZaC ["script", "k", "xs", "many", "web", "thing", "due", "word", "found"] ["script"] (Zaf Zgb):=⟨rfl,rfl,rfl,by decide +kernel,rfl,by decide +kernel,by decide +kernel⟩
theorem ZiX {f fA fN fBig fWww fCha fLre fAsk fAny fAli:Addr} {fd fdA fdN fdBig fdWww fdCha fdLre fdAsk fdAny fdAli:FuncData} (F:Fun K "law" "law" Zgb f fd) (kt:ZjX K) (kb:ZkC K)
  (FA:Fun K "_law_cell_at" "_law_cell_at" Zhm fA fdA) (bA:Binds K fdA ["script", "k"] []) (mA:mg "_law_cell_at" = some (.ref fA)) (GA:ZaY P w K mg base CX0 1 fA fdA ["script", "k"] (Zit K))
  (FN:Fun K "_law_numbers" "_law_numbers" Zhn fN fdN) (bN:Binds K fdN ["cell", "many"] []) (mN:mg "_law_numbers" = some (.ref fN)) (GN:ZaY P w K mg base CX0 1 fN fdN ["cell", "many"] Ziv)
  (FBig:Fun K "_law_big_web" "_law_big_web" ZgC fBig fdBig) (bBig:Binds K fdBig ["xs", "places", "many"] []) (mBig:mg "_law_big_web" = some (.ref fBig)) (GBig:ZaY P w K mg base CX0 1 fBig fdBig ["xs", "places", "many"] Ziy)
  (FWww:Fun K "_law_web_written" "_law_web_written" ZgD fWww fdWww) (bWww:Binds K fdWww ["web"] []) (mWww:mg "_law_web_written" = some (.ref fWww)) (GWww:ZaY P w K mg base CX0 1 fWww fdWww ["web"] ZfE)
  (FCha:Fun K "_law_changed" "_law_changed" Zhs fCha fdCha) (bCha:Binds K fdCha ["web", "xs"] []) (mCha:mg "_law_changed" = some (.ref fCha)) (GCha:ZaY P w K mg base CX0 2 fCha fdCha ["web", "xs"] ZiP)
  (FLre:Fun K "_law_read" "_law_read" ZgE fLre fdLre) (bLre:Binds K fdLre ["text"] []) (mLre:mg "_law_read" = some (.ref fLre)) (GLre:ZaY P w K mg base CX0 2 fLre fdLre ["text"] Zgi)
  (FAsk:Fun K "_law_asked" "_law_asked" Zht fAsk fdAsk) (bAsk:Binds K fdAsk ["thing"] []) (mAsk:mg "_law_asked" = some (.ref fAsk)) (GAsk:ZaY P w K mg base CX0 5 fAsk fdAsk ["thing"] (ZiR K))
  (FAny:Fun K "_law_any" "_law_any" Zhu fAny fdAny) (bAny:Binds K fdAny ["thing"] []) (mAny:mg "_law_any" = some (.ref fAny)) (GAny:ZaY P w K mg base CX0 5 fAny fdAny ["thing"] (ZiT K))
  (FAli:Fun K "_law_alike" "_law_alike" Zho fAli fdAli) (bAli:Binds K fdAli ["found", "due"] []) (mAli:mg "_law_alike" = some (.ref fAli)) (GAli:ZaY P w K mg base CX0 4 fAli fdAli ["found", "due"] (ZiV 4))
  (mLen:mg "len" = none) (mRange:mg "range" = none) (mMin:mg "min" = none) (mMax:mg "max" = none) :
  ZaY P w K mg base CX0 6 f fd ["script"] (Zgl K):=by
 refine F.ok scLaw (λvs H Q E h=>?_) (λcdv A outer s H vs Q E hr h=>?_)
 ·obtain ⟨a,ns,rfl,_⟩:=h
  rfl
 ·obtain ⟨a,ns,rfl,hS,hlen,q⟩:=h
  have hu:=hr.units
  have h16:(16777216:Nat)=sizeLine:=sizeLine_eq.symm
  refine ⟨_,(@Zae _ _ _ _ _ (@Zck _ _ _ _ _ _ _ _ PassesOwn.never rfl (Zbd rfl mRange (@Zaa _ _ _ _ _ (Zah (Zcn rfl) rfl mMax Zdh (@Zaa _ _ _ _ _ Zab (@Zaa _ _ _ _ _ (Zah (Zco rfl) rfl mMin Zc3 (@Zaa _ _ _ _ _ (Zah (Ze4 K) rfl mLen PySem.boot_len (@Zaa _ _ _ _ _ (pv 0) Zac rfl)) (@Zaa _ _ _ _ _ Zab Zac rfl) rfl)) Zac rfl) rfl)) Zac rfl)) (ZaG (i:=1) scLaw.nd rfl (Or.inl rfl))
    (@Zae _ _ _ _ _ (@Zam _ _ 2 _ _ _ _ scLaw.nd rfl (Or.inl rfl) (@Zay _ _ _ _ _ _ _ _ _ _ _ _ _ _ _ _ GN (hr.mono (by decide)) rfl mN FN.kp bN .nil Zba (@Zaa _ _ _ _ _ (@Zay _ _ _ _ _ _ _ _ _ _ _ _ _ _ _ _ GA (hr.mono (by decide)) rfl mA FA.kp bA .nil Zba (@Zaa _ _ _ _ _ (pv 0) (@Zaa _ _ _ _ _ (pv 1) Zac rfl) rfl) (by decide) rfl rfl) (@Zaa _ _ _ _ _ Zab Zac rfl) rfl) (by decide) rfl rfl) rfl (by first | exact .inl rfl | exact .inr rfl))
    (@Zae _ _ _ _ _ (@Zam _ _ 3 _ _ _ _ scLaw.nd rfl (Or.inl rfl) (@Zao _ _ _ _ _ _ _ (Za8 K) (@ZaS _ _ _ _ (@Zaa _ _ _ _ _ (@Zaq _ _ _ _ _ _ _ _ Zaw (@Zao _ _ _ _ _ _ _ (Za8 K) (pv 2) Zab (λ_ _=>rfl)) Zab) (@Zaa _ _ _ _ _ Zab (@Zaa _ _ _ _ _ (@Zaq _ _ _ _ _ _ _ _ Zaw (@Zao _ _ _ _ _ _ _ (Za8 K) (pv 2) Zab (λ_ _=>rfl)) Zab) (@Zaa _ _ _ _ _ (@Zaq _ _ _ _ _ _ _ _ Zaw (@Zao _ _ _ _ _ _ _ (Za8 K) (pv 2) Zab (λ_ _=>rfl)) Zab) Zac rfl) rfl) rfl) rfl)) (@Zaq _ _ _ _ _ _ _ _ Zaw (@Zao _ _ _ _ _ _ _ (Za8 K) (pv 2) Zab (λ_ _=>rfl)) Zab) (λ_ _=>rfl)) rfl (by first | exact .inl rfl | exact .inr rfl))
    (@Zae _ _ _ _ _ (@Zam _ _ 4 _ _ _ _ scLaw.nd rfl (Or.inl rfl) (@Zay _ _ _ _ _ _ _ _ _ _ _ _ _ _ _ _ GBig (hr.mono (by decide)) rfl mBig FBig.kp bBig .nil Zba (@Zaa _ _ _ _ _ (pv 2) (@Zaa _ _ _ _ _ (@Zao _ _ _ _ _ _ _ (Za8 K) (@ZaS _ _ _ _ (@Zaa _ _ _ _ _ (@Zaq _ _ _ _ _ _ _ _ Zbe Zab (@Zaq _ _ _ _ _ _ _ _ Zaw (@Zao _ _ _ _ _ _ _ (Za8 K) (pv 2) Zab (λ_ _=>rfl)) Zab)) (@Zaa _ _ _ _ _ (@Zaq _ _ _ _ _ _ _ _ Zbe Zab (@Zaq _ _ _ _ _ _ _ _ Zaw (@Zao _ _ _ _ _ _ _ (Za8 K) (pv 2) Zab (λ_ _=>rfl)) Zab)) Zac rfl) rfl)) (@Zaq _ _ _ _ _ _ _ _ Zaw (@Zaq _ _ _ _ _ _ _ _ Zc2 (@Zao _ _ _ _ _ _ _ (Za8 K) (pv 2) Zab (λ_ _=>rfl)) Zab) Zab) (λ_ _=>rfl)) (@Zaa _ _ _ _ _ (pv 3) Zac rfl) rfl) rfl) (by decide) rfl rfl) rfl (by first | exact .inl rfl | exact .inr rfl))
    (@Zae _ _ _ _ _ (@Zam _ _ 5 _ _ _ _ scLaw.nd rfl (Or.inl rfl) (@Zay _ _ _ _ _ _ _ _ _ _ _ _ _ _ _ _ GWww (hr.mono (by decide)) rfl mWww FWww.kp bWww .nil Zba (@Zaa _ _ _ _ _ (pv 4) Zac rfl) (by decide) rfl rfl) rfl (by first | exact .inl rfl | exact .inr rfl))
    (@Zae _ _ _ _ _ (@ZaO _ _ _ _ _ _ _ _ (Zai Zdp (@Zaq _ _ _ _ _ _ _ _ Zaw (@Zao _ _ _ _ _ _ _ (Za8 K) (pv 2) Zab (λ_ _=>rfl)) Zab) Zab (Zan _)) (@Zag _ _ _ (@Zam _ _ 5 _ _ _ _ scLaw.nd rfl (Or.inl rfl) (@Zay _ _ _ _ _ _ _ _ _ _ _ _ _ _ _ _ GCha (hr.mono (by decide)) rfl mCha FCha.kp bCha .nil Zba (@Zaa _ _ _ _ _ (pv 4) (@Zaa _ _ _ _ _ (ZaJ (kSl K) (pv 2) (ZaQ Zab) ZaP) Zac rfl) rfl) (by decide) rfl rfl) rfl (by first | exact .inl rfl | exact .inr rfl))) Zat)
    (@Zae _ _ _ _ _ (@ZaO _ _ _ _ _ _ _ _ (Zai ZbV (@Zaq _ _ _ _ _ _ _ _ Zaw (@Zao _ _ _ _ _ _ _ (Za8 K) (pv 2) Zab (λ_ _=>rfl)) Zab) Zab (Zan _)) (@Zag _ _ _ (@Zam _ _ 5 _ _ _ _ scLaw.nd rfl (Or.inl rfl) (@Zao _ _ _ _ _ _ _ (Za8 K) (@ZaS _ _ _ _ (@Zaa _ _ _ _ _ Zal (@Zaa _ _ _ _ _ Zal (@Zaa _ _ _ _ _ Zal (@Zaa _ _ _ _ _ Zal (@Zaa _ _ _ _ _ Zal (@Zaa _ _ _ _ _ Zal (@Zaa _ _ _ _ _ Zal (@Zaa _ _ _ _ _ Zal (@Zaa _ _ _ _ _ Zal Zac rfl) rfl) rfl) rfl) rfl) rfl) rfl) rfl) rfl)) (@Zaq _ _ _ _ _ _ _ _ Zaw (@Zao _ _ _ _ _ _ _ (Za8 K) (pv 2) Zab (λ_ _=>rfl)) Zab) (λ_ _=>rfl)) rfl (by first | exact .inl rfl | exact .inr rfl))) Zat)
    (@Zae _ _ _ _ _ (@Zam _ _ 6 _ _ _ _ scLaw.nd rfl (Or.inl rfl) Zb5 rfl (by first | exact .inl rfl | exact .inr rfl))
    (@Zae _ _ _ _ _ (@ZaO _ _ _ _ _ _ _ _ (PW.pt (Zcj (Zai ZbV (@Zaq _ _ _ _ _ _ _ _ Zaw (@Zao _ _ _ _ _ _ _ (Za8 K) (pv 2) Zab (λ_ _=>rfl)) Zab) Zab (Zan _)) (ZbH (Zai ZbV (@Zaq _ _ _ _ _ _ _ _ Zaw (@Zao _ _ _ _ _ _ _ (Za8 K) (pv 2) Zab (λ_ _=>rfl)) Zab) Zab (Zan _))))) (@Zag _ _ _ (@Zam _ _ 5 _ _ _ _ scLaw.nd rfl (Or.inl rfl) (@Zao _ _ _ _ _ _ _ (Za8 K) (@ZaS _ _ _ _ (@Zaa _ _ _ _ _ Zb5 (@Zaa _ _ _ _ _ Zab (@Zaa _ _ _ _ _ (@ZaW _ _ _ _ _ (@Zaa _ _ _ _ _ Zab (@Zaa _ _ _ _ _ (@ZaS _ _ _ _ (@Zaa _ _ _ _ _ (@ZaW _ _ _ _ _ (@Zaa _ _ _ _ _ Zab (@Zaa _ _ _ _ _ Zab Zac rfl) rfl)) Zac rfl)) Zac rfl) rfl)) (@Zaa _ _ _ _ _ (@ZaS _ _ _ _ (@Zaa _ _ _ _ _ Zal Zac rfl)) (@Zaa _ _ _ _ _ Zdn (@Zaa _ _ _ _ _ ZfZ Zac rfl) rfl) rfl) rfl) rfl) rfl)) (@Zaq _ _ _ _ _ _ _ _ Zaw (@Zao _ _ _ _ _ _ _ (Za8 K) (pv 2) Zab (λ_ _=>rfl)) Zab) (λ_ _=>rfl)) rfl (by first | exact .inl rfl | exact .inr rfl))) (@Zag _ _ _ (@Zam _ _ 6 _ _ _ _ scLaw.nd rfl (Or.inl rfl) (@Zay _ _ _ _ _ _ _ _ _ _ _ _ _ _ _ _ GLre (hr.mono (by decide)) rfl mLre FLre.kp bLre .nil Zba (@Zaa _ _ _ _ _ (pv 5) Zac rfl) (by decide) rfl rfl) rfl (by first | exact .inl rfl | exact .inr rfl))))
    (@Zae _ _ _ _ _ (@Zgo _ _ _ _ _ _ (@Zay _ _ _ _ _ _ _ _ _ _ _ _ _ _ _ _ GAsk (hr.mono (by decide)) rfl mAsk FAsk.kp bAsk .nil Zba (@Zaa _ _ _ _ _ (pv 5) Zac rfl) (by decide) rfl rfl) (Zi8 K (n:=2) rfl (ZaZ (ZaG (i:=7) scLaw.nd rfl (Or.inl rfl)) (ZaZ (ZaG (i:=8) scLaw.nd rfl (Or.inl rfl)) ZcV))) rfl rfl rfl)
    (@Zae _ _ _ _ _ (@ZaO _ _ _ _ _ _ _ _ (PW.pt (Zcj (Zai ZhU (pv 6) Zb5 (Zan _)) (ZbH (PW.pt (ZbG (Zai (Zjx K hu) (pv 7) Zal (Zan _)) (Zbv (ZbI (Zbr (@Zay _ _ _ _ _ _ _ _ _ _ _ _ _ _ _ _ GAny (hr.mono (by decide)) rfl mAny FAny.kp bAny .nil Zba (@Zaa _ _ _ _ _ (pv 5) Zac rfl) (by decide) rfl rfl))))))))) (@Zag _ _ _ (@Zau _ _ _ _ Zdn)) Zat)
    (@Zag _ _ _ (@ZaO _ _ _ _ _ _ _ _ (PW.pt (Zcj (Zai ZgN (pv 6) Zb5 (Zan _)) (ZbH (PW.pt (ZbG (Zai (Zjx K hu) (pv 7) Zal (Zan _)) (Zbv (ZbI (Zbr (@Zay _ _ _ _ _ _ _ _ _ _ _ _ _ _ _ _ GAli (hr.mono (by decide)) rfl mAli FAli.kp bAli .nil Zba (@Zaa _ _ _ _ _ (pv 8) (@Zaa _ _ _ _ _ (pv 6) Zac rfl) rfl) (by decide) rfl rfl))))))))) (@Zag _ _ _ (@Zau _ _ _ _ Zdn)) Zat)))))))))))) (by intro _;rfl))
    (@Zag _ _ _ (@Zau _ _ _ _ Zdn))),?_⟩
  refine ⟨_,rfl,a,_,rfl,.inl hS,_,_,rfl,_,_,rfl,?_⟩
  rw [List.length_map]
  generalize hX:(if (if (20:Int)<((ns.length:Nat):Int) then 20 else ((ns.length:Nat):Int)) > 1 then (if (20:Int)<((ns.length:Nat):Int) then 20 else ((ns.length:Nat):Int)) else 1)=X
  have hb:0<=X/\X<=63:=by rw [<-hX];split <;> split <;> omega
  obtain ⟨n,rfl⟩:∃ n:Nat,X=n:=⟨X.toNat,by omega⟩
  refine ⟨_,rfl,by omega,by omega,?_⟩
  rw [Int.toNat_natCast]
  refine ZbJ (lo:=0) (n:=n) (λi σ' H'=>∃ v1 v2 v3 v4 v5 v6 v7 v8:Option V,σ'=[some (.ref a),v1,v2,v3,v4,v5,v6,v7,v8]/\Same H H') ⟨none,none,none,none,none,none,none,none,rfl,Same.refl _⟩ ?_ ?_
  ·rintro i σ' H1 hi ⟨v1,v2,v3,v4,v5,v6,v7,v8,rfl,s1⟩
   rw [Int.zero_add]
   dsimp only [ZbU]
   refine ⟨_,rfl,_,rfl,a,ns,i,rfl,s1.seq hS,λz0=>?_⟩
   refine ⟨z0,62,rfl,by decide,λxl row H2 s2 exl hrow=>?_⟩
   dsimp only [ZbU]
   have hm:∀ (k:Nat) (m:Int),0<m->0<=row.getD k 0 % m/\row.getD k 0 % m<m:=λk m h=>⟨Int.emod_nonneg _ (by omega),Int.emod_lt_of_pos _ h⟩
   refine ⟨_,rfl,xl,_,_,_,rfl,rfl,SqL.of exl,ZaB (i:=48) (by decide) (by omega),_,_,rfl,rfl,by show (0:Int)<24;decide,?_⟩
   refine ⟨_,rfl,xl,_,_,_,rfl,rfl,SqL.of exl,ZaB (i:=48) (by decide) (by omega),_,_,rfl,rfl,by show (0:Int)<6;decide,?_⟩
   refine ⟨_,rfl,xl,_,_,_,rfl,rfl,SqL.of exl,ZaB (i:=48) (by decide) (by omega),_,_,rfl,rfl,by show (0:Int)<2;decide,?_⟩
   refine ⟨by show 4<=sizeLine;omega,λp hp=>?_⟩
   obtain ⟨mn,hmn,hm0⟩:∃ mn:Int,atI ([row.getD (48:Int).toNat 0 % 24,23,row.getD (48:Int).toNat 0 % 6,row.getD (48:Int).toNat 0 % 2].map V.int) (row.getD (50:Int).toNat 0 % 4)=some (.int mn)/\0<=mn/\mn<=30:=by
    have a1:=hm (48:Int).toNat 24 (by decide)
    have a2:=hm (48:Int).toNat 6 (by decide)
    have a3:=hm (48:Int).toNat 2 (by decide)
    obtain ⟨z,hz,e⟩:=ZfG [row.getD (48:Int).toNat 0 % 24,23,row.getD (48:Int).toNat 0 % 6,row.getD (48:Int).toNat 0 % 2] (j:=row.getD (50:Int).toNat 0 % 4) (hm _ 4 (by decide)).1 (hm _ 4 (by decide)).2
    refine ⟨z,e,?_⟩
    simp only [List.mem_cons,List.not_mem_nil,or_false] at hz
    rcases hz with rfl | rfl | rfl | rfl <;> omega
   have s3:Same H2 (upd H2 p (.lst ([row.getD (48:Int).toNat 0 % 24,23,row.getD (48:Int).toNat 0 % 6,row.getD (48:Int).toNat 0 % 2].map V.int))):=Same.new hp
   refine ⟨_,rfl,xl,_,_,_,rfl,rfl,SqL.of (s3 _ _ exl),ZaB (i:=50) (by decide) (by omega),_,_,rfl,rfl,by show (0:Int)<4;decide,p,_,_,_,rfl,rfl,SqL.of Zad,hmn,?_⟩
   have S3:=s1.trans (s2.trans s3)
   have ex3:=s3 _ _ exl
   clear exl
   change Zjj _ _ _ _ (upd H2 p (.lst ([row.getD (48:Int).toNat 0 % 24,23,row.getD (48:Int).toNat 0 % 6,row.getD (48:Int).toNat 0 % 2].map V.int)))
   generalize upd H2 p (.lst ([row.getD (48:Int).toNat 0 % 24,23,row.getD (48:Int).toNat 0 % 6,row.getD (48:Int).toNat 0 % 2].map V.int))=H3 at s3 S3 ex3 ⊢
   refine ⟨_,rfl,_,rfl,xl,_,_,_,rfl,rfl,SqL.of ex3,ZaB (i:=49) (by decide) (by omega),_,_,rfl,rfl,by show (0:Int)<16;decide,_,_,rfl,rfl,?_⟩
   refine ⟨_,rfl,xl,_,_,_,rfl,rfl,SqL.of ex3,ZaB (i:=49) (by decide) (by omega),_,_,rfl,rfl,by show (0:Int)<5;decide,_,_,rfl,rfl,?_⟩
   refine ⟨by show 2<=sizeLine;omega,λp2 hp2=>?_⟩
   obtain ⟨pl,hpa,hpl⟩:∃ pl:Int,atI ([1+row.getD (49:Int).toNat 0 % 16,1+row.getD (49:Int).toNat 0 % 5].map V.int) (row.getD (50:Int).toNat 0 / 4 % 2)=some (.int pl)/\1<=pl/\pl<=16:=by
    have a1:=hm (49:Int).toNat 16 (by decide)
    have a2:=hm (49:Int).toNat 5 (by decide)
    have a3:0<=row.getD (50:Int).toNat 0 / 4 % 2/\row.getD (50:Int).toNat 0 / 4 % 2<2:=⟨Int.emod_nonneg _ (by decide),Int.emod_lt_of_pos _ (by decide)⟩
    obtain ⟨z,hz,e⟩:=ZfG [1+row.getD (49:Int).toNat 0 % 16,1+row.getD (49:Int).toNat 0 % 5] (j:=row.getD (50:Int).toNat 0 / 4 % 2) a3.1 a3.2
    refine ⟨z,e,?_⟩
    simp only [List.mem_cons,List.not_mem_nil,or_false] at hz
    rcases hz with rfl | rfl <;> omega
   have s4:Same H3 (upd H3 p2 (.lst ([1+row.getD (49:Int).toNat 0 % 16,1+row.getD (49:Int).toNat 0 % 5].map V.int))):=Same.new hp2
   have ex4:=s4 _ _ ex3
   refine ⟨_,rfl,xl,_,_,_,rfl,rfl,SqL.of ex4,ZaB (i:=50) (by decide) (by omega),_,_,rfl,rfl,⟨by decide,Zdi⟩,_,_,rfl,rfl,by show (0:Int)<2;decide,p2,_,_,_,rfl,rfl,SqL.of Zad,hpa,_,rfl,?_⟩
   refine ⟨xl,row,pl,mn,rfl,ex4,hrow,hpl,hm0,λwb l xs rs H5 s5 W IW hl=>?_⟩
   have S5:=S3.trans (s4.trans s5)
   have ex5:=s5 _ _ ex4
   have h30:=IW.1
   have nrs:∀ p∈rs,Nm p.1/\Nm p.2:=λp hp=>by
    have:=IW.2.1 p hp
    exact ⟨⟨by omega,by omega⟩,by omega,by omega⟩
   dsimp only [ZbU]
   refine ZaD (λσ6 H6=>∃ t:Str,Plain t/\σ6=[some (.ref a),some (.int (i:Int)),some (.ref xl),some (.int mn),some (.ref wb),some (.str t),v6,v7,v8]/\H6=H5) ?_ (λJ=>⟨_,rfl,wb,l,pl,xs,rs,rfl,W,⟨⟨by omega,by omega⟩,by omega,nrs⟩,λx hx=>J _ _ ⟨x,hx.plain (by omega),rfl,rfl⟩⟩)
   rintro σ6 H6 ⟨t,pt,rfl,rfl⟩
   refine ZaD (λσ7 H7=>∃ t:Str,Plain t/\σ7=[some (.ref a),some (.int (i:Int)),some (.ref xl),some (.int mn),some (.ref wb),some (.str t),v6,v7,v8]/\Same H6 H7) ?_ (λJ=>?_)
   case _=>
    rintro σ7 H7 ⟨t,pt,rfl,s7⟩
    refine ZaD (λσ8 H8=>∃ t:Str,Plain t/\σ8=[some (.ref a),some (.int (i:Int)),some (.ref xl),some (.int mn),some (.ref wb),some (.str t),v6,v7,v8]/\Same H6 H8) ?_ (λJ=>?_)
    case _=>
     rintro σ8 H8 ⟨t,pt,rfl,s8⟩
     have ex8:=s8 _ _ ex5
     refine ZaD (λσ9 H9=>σ9=[some (.ref a),some (.int (i:Int)),some (.ref xl),some (.int mn),some (.ref wb),some (.str t),some .non,v7,v8]/\H9=H8) ?_ (λJ=>J _ _ ⟨rfl,rfl⟩)
     rintro σ9 H9 ⟨rfl,rfl⟩
     refine ZaD (λσ10 H10=>∃ (v du:V) (g:Option (Int×List (Int×Int))),Same H9 H10/\Thg K H10 v g/\σ10=[some (.ref a),some (.int (i:Int)),some (.ref xl),some (.int mn),some (.ref wb),some v,some du,v7,v8]/\((g=none/\du=.non)\/∃ n rs wb2 l2 xs2,g=some (n,rs)/\du=.ref wb2/\rs.length<=30/\WebAt H10 wb2 l2 n xs2 rs)) ?_ (λJ=>?_)
     case _=>
      rintro σ10 H10 ⟨v,du,g,s10,th,rfl,hg⟩
      have S10:=S5.trans (s8.trans s10)
      refine ZaD (λσ11 H11=>∃ (wd fo:V),Same H10 H11/\σ11=[some (.ref a),some (.int (i:Int)),some (.ref xl),some (.int mn),some (.ref wb),some v,some du,some wd,some fo]/\((g=none/\wd=.str "text")\/∃ n rs wb2 l2 xs2,g=some (n,rs)/\wd=.str "told" /\ fo=.ref wb2/\rs.length<=30/\WebAt H11 wb2 l2 n xs2 rs)) ?_ (λJ=>?_)
      case _=>
       rintro σ11 H11 ⟨wd,fo,s11,rfl,hw⟩
       have oT:SeqAt.shaped (.str ("text" : Str))=true:=ZaN (by decide +kernel)
       have oO:SeqAt.shaped (.str ("told" : Str))=true:=ZaN (by decide +kernel)
       rcases hg with ⟨eg,rfl⟩ | ⟨n1,rs1,wb1,l1,xs1,eg,rfl,h31,W1⟩
       ·have hw':wd=.str "text" := by
         rcases hw with ⟨_,e⟩ | ⟨_,_,_,_,_,e,_⟩
         ·exact e
         ·rw [eg] at e;cases e
        subst hw'
        refine ⟨_,rfl,rfl,_,rfl,Za6 ?_⟩
        refine ⟨_,rfl,.str ("text" : Str),.str ("text" : Str),.str _,.str _,oT,oT,_,rfl,?_⟩
        rw [Zb4,decide_eq_true rfl]
        refine Za5 ?_
        subst eg
        refine ⟨_,rfl,v,rfl,th.same s11,λH12 s12=>⟨_,rfl,Za5 ?_⟩⟩
        dsimp only [ZcT]
        refine ⟨_,rfl,rfl,_,rfl,Za5 (Za5 ?_)⟩
        exact ⟨_,_,_,_,_,_,_,_,rfl,S10.trans (s11.trans s12)⟩
       ·obtain ⟨n2,rs2,wb2,l2,xs2,eg2,rfl,rfl,h32,W2⟩:∃ n rs wb2 l2 xs2,g=some (n,rs)/\wd=.str "told" /\ fo=.ref wb2/\rs.length<=30/\WebAt H11 wb2 l2 n xs2 rs:=by
         rcases hw with ⟨e,_⟩ | h
         ·rw [eg] at e;cases e
         ·exact h
        rw [eg] at eg2
        cases eg2
        refine ⟨_,rfl,rfl,_,rfl,Za5 (Za5 ?_)⟩
        dsimp only [ZcT]
        refine ⟨_,rfl,rfl,_,rfl,Za6 ?_⟩
        refine ⟨_,rfl,.str ("told" : Str),.str ("told" : Str),.str _,.str _,oO,oO,_,rfl,?_⟩
        rw [Zb4,decide_eq_true rfl]
        refine Za5 ?_
        refine ⟨_,rfl,_,rfl,_,_,_,rfl,ZgG W2 h32,ZgG (W1.same s11) h31,ZfI _ _,λH12 s12=>⟨_,rfl,Za5 ?_⟩⟩
        exact ⟨_,_,_,_,_,_,_,_,rfl,S10.trans (s11.trans s12)⟩
      ·refine ⟨_,rfl,v,g,rfl,th,λn rs eg h30 t2 wb2 l2 xs2 H11 s11 W11 e11=>?_,λeg t2 H11 s11 e11=>?_⟩
       ·refine ⟨t2,_,rfl,SqT.of e11,rfl,_,_,rfl,_,_,rfl,rfl,?_⟩
        exact J _ _ ⟨_,_,s11,rfl,.inr ⟨n,rs,wb2,l2,xs2,eg,rfl,rfl,h30,W11⟩⟩
       ·refine ⟨t2,_,rfl,SqT.of e11,rfl,_,_,rfl,_,_,rfl,rfl,?_⟩
        exact J _ _ ⟨_,_,s11,rfl,.inl ⟨eg,rfl⟩⟩
     ·obtain ⟨g,th⟩:=Zgk (K:=K) (H:=H9) pt
      have read:∀ {R:VK},(∀ du H10,Same H9 H10->((g=none/\du=.non)\/∃ n rs wb2 l2 xs2,g=some (n,rs)/\du=.ref wb2/\rs.length<=30/\WebAt H10 wb2 l2 n xs2 rs)->R du H10)->Zgi [.str t] H9 R E0:=λk=>
       th.lre pt ZhB (λn rs eg h30 wb2 l2 xs2 H10 s10 W10=>k _ _ s10 (.inr ⟨n,rs,wb2,l2,xs2,eg,rfl,h30,W10⟩)) (λeg H10 s10=>k _ _ s10 (.inl ⟨eg,rfl⟩))
      have els:=@read (λdu H10=>_) λdu H10 s10 hd=>J _ _ ⟨.str t,du,g,s10,th.same s10,rfl,hd⟩
      refine ⟨_,rfl,xl,_,_,_,rfl,rfl,SqL.of ex8,ZaB (i:=51) (by decide) (by omega),_,_,rfl,rfl,(by show (0:Int)<16;decide),rfl,_,rfl,Zcr (λ_=>?_) (λ_=>Za5 ⟨_,rfl,els⟩)⟩
      refine ⟨_,rfl,xl,_,_,_,rfl,rfl,SqL.of ex8,ZaB (i:=52) (by decide) (by omega),_,_,rfl,rfl,(by show (0:Int)<3;decide),rfl,_,rfl,Zcr (λ_=>?_) (λ_=>⟨_,rfl,els⟩)⟩
      refine ⟨ZaU,λT1 hT1=>?_⟩
      have s1':Same H9 (upd H9 T1 (.tup [.int 0,.int 1])):=Same.new hT1
      generalize upd H9 T1 (.tup [.int 0,.int 1])=G1 at s1' ⊢
      refine ⟨(by show 1<=sizeLine;omega),λL1 hL1=>?_⟩
      have s2':Same G1 (upd G1 L1 (.lst [.ref T1])):=Same.new hL1
      generalize upd G1 L1 (.lst [.ref T1])=G2 at s2' ⊢
      refine ⟨ZaU,λT2 hT2=>?_⟩
      have s3':Same G2 (upd G2 T2 (.tup [.int 3,.ref L1])):=Same.new hT2
      have e3':upd G2 T2 (.tup [.int 3,.ref L1]) T2=some (.tup [.int 3,.ref L1]):=Zad
      generalize upd G2 T2 (.tup [.int 3,.ref L1])=G3 at s3' e3' ⊢
      refine ⟨(by show 1<=sizeLine;omega),λL2' hL2=>?_⟩
      have s4':Same G3 (upd G3 L2' (.lst [.str "3"])):=Same.new hL2
      have e4':upd G3 L2' (.lst [.str "3"]) L2'=some (.lst [.str "3"]):=Zad
      generalize upd G3 L2' (.lst [.str "3"])=G4 at s4' e4' ⊢
      refine λD1 hD1=>?_
      have s5':Same G4 (upd G4 D1 (.dK [])):=Same.new hD1
      have e5':upd G4 D1 (.dK []) D1=some (.dK []):=Zad
      change Zi0 _ (upd G4 D1 (.dK [])) _
      generalize upd G4 D1 (.dK [])=G5 at s5' e5' ⊢
      refine ⟨(by show 6<=sizeLine;omega),λL hL=>?_⟩
      have s6':Same G5 (upd G5 L (.lst [.non,.int 3,.ref T2,.ref L2',.bl true,.ref D1])):=Same.new hL
      have e6':upd G5 L (.lst [.non,.int 3,.ref T2,.ref L2',.bl true,.ref D1]) L=some (.lst [.non,.int 3,.ref T2,.ref L2',.bl true,.ref D1]):=Zad
      generalize upd G5 L (.lst [.non,.int 3,.ref T2,.ref L2',.bl true,.ref D1])=G6 at s6' e6' ⊢
      have S6':Same H9 G6:=s1'.trans (s2'.trans (s3'.trans (s4'.trans (s5'.trans s6'))))
      obtain ⟨v,hat,nv⟩:∃ v,atI [V.non,.int 3,.ref T2,.ref L2',.bl true,.ref D1] (row.getD (53:Int).toNat 0 % 6)=some v/\NoS K G6 v:=by
       have z6:=hm (53:Int).toNat 6 (by decide)
       generalize row.getD (53:Int).toNat 0 % 6=j at z6 ⊢
       rcases (by omega:j=0\/j=1\/j=2\/j=3\/j=4\/j=5) with rfl | rfl | rfl | rfl | rfl | rfl
       ·exact ⟨_,Zaj (j:=0) rfl,_,.non,kb.ns⟩
       ·exact ⟨_,Zaj (j:=1) rfl,_,.int _,kt.is⟩
       ·exact ⟨_,Zaj (j:=2) rfl,_,.tup ((s4'.trans (s5'.trans s6')) _ _ e3'),kt.ts⟩
       ·exact ⟨_,Zaj (j:=3) rfl,_,.lst ((s5'.trans s6') _ _ e4'),kt.ls⟩
       ·exact ⟨_,Zaj (j:=4) rfl,_,.bl _,kb.bs⟩
       ·exact ⟨_,Zaj (j:=5) rfl,_,.dK (s6' _ _ e5'),kb.ds⟩
      refine ⟨_,rfl,xl,_,_,_,rfl,rfl,SqL.of (S6' _ _ ex8),ZaB (i:=53) (by decide) (by omega),_,_,rfl,rfl,(by show (0:Int)<6;decide),L,_,_,_,rfl,rfl,SqL.of e6',hat,?_⟩
      exact J _ _ ⟨v,.non,none,S6',.inr ⟨rfl,nv⟩,rfl,.inl ⟨rfl,rfl⟩⟩
    ·have ex7:=s7 _ _ ex5
     refine ⟨_,rfl,xl,_,_,_,rfl,rfl,SqL.of ex7,ZaB (i:=51) (by decide) (by omega),_,_,rfl,rfl,(by show (0:Int)<16;decide),rfl,_,rfl,Zcr (λ_=>?_) (λ_=>J _ _ ⟨t,pt,rfl,s7⟩)⟩
     refine ⟨(by show 9<=sizeLine;omega),λL hL=>?_⟩
     have z9:=hm (52:Int).toNat 9 (by decide)
     obtain ⟨z,hz,hat⟩:=Zd2 [("" : Str), " ", "web", "3 0-1,1-2", "3 0 1", "2 0-1-1", "2 0--1", "2 -0-1", "3-4"] z9.1 z9.2
     have pz:Pn 20 z:=ZiW z hz
     refine ⟨_,rfl,xl,_,_,_,rfl,rfl,SqL.of ((Same.new hL) _ _ ex7),ZaB (i:=52) (by decide) (by omega),_,_,rfl,rfl,(by show (0:Int)<9;decide),L,_,_,_,rfl,rfl,SqL.of Zad,hat,?_⟩
     exact J _ _ ⟨z,pz.plain (by omega),rfl,s7.trans (Same.new hL)⟩
   ·refine ⟨_,rfl,xl,_,_,_,rfl,rfl,SqL.of ex5,ZaB (i:=51) (by decide) (by omega),_,_,rfl,rfl,(by show (0:Int)<8;decide),_,_,rfl,rfl,_,rfl,Zcr (λ_=>?_) (λ_=>J _ _ ⟨t,pt,rfl,Same.refl _⟩)⟩
    refine ⟨_,rfl,_,rfl,52,rfl,xl,_,rfl,SqL.of ex5,λp3 hp3=>?_⟩
    have ec:Zdu (row.map V.int) (some 52) none=(row.drop 52).map V.int:=(ZbM (k:=52)).trans (List.map_drop ..).symm
    rw [ec]
    have s7:Same H6 (upd H6 p3 (.lst ((row.drop 52).map V.int))):=Same.new hp3
    refine ⟨wb,l,p3,pl,xs,rs,row.drop 52,rfl,W.same s7,hpl,h30,nrs,Zad,by rw [List.length_drop];omega,λx H7 s8 px=>?_⟩
    exact J _ _ ⟨x,px,rfl,s7.trans s8⟩
  ·rintro σ' H1 ⟨v1,v2,v3,v4,v5,v6,v7,v8,rfl,s1⟩
   exact q _
end
end M
namespace M
open PySem L2
theorem Zem {K:PySem.W.Frag} {C:Addr} (h:PySem.W.subIn K (.ref C) (.ref C)=some true) (ht:PySem.W.typeIn K (.ref C)=some (.type "type")):PySem.W.kitCls K (.ref C) (.ref C)=some true:=by
 have hs:(PySem.W.clsIn K C).isSome=true:=by
  cases e:PySem.W.clsIn K C with
  | some _=>rfl
  | none=>
   have:PySem.W.mroIn K C (.ref C)=some true:=h
   unfold PySem.W.mroIn at this
   rw [e] at this
   cases this
 show (if ((PySem.W.clsIn K C).isSome && PySem.W.typeIn K (Value.ref C) == some (Value.type "type"))=true then PySem.W.subIn K (.ref C) (.ref C) else none)=_
 rw [hs,ht,if_pos (by decide +kernel)]
 exact h
theorem Zgm {K:PySem.W.Frag} {no way:Addr} (h:PySem.W.kitOne K (.ref no) (.ref way)=some true) (ne:no≠way):PySem.W.kitCls K (.ref no) (.ref way)=some true:=by
 unfold PySem.W.kitOne at h
 rw [if_neg (by simpa using ne)] at h
 exact h
theorem ZfJ {K:PySem.W.Frag} {no way:Addr} (h:PySem.W.kitOne K (.ref no) (.ref way)=some false) (ne:no≠way):PySem.W.kitCls K (.ref no) (.ref way)=some false:=by
 unfold PySem.W.kitOne at h
 rw [if_neg (by simpa using ne)] at h
 exact h
theorem all_mk {l:PySem.W.OpenLaw} {w:World} {K:PySem.W.Frag} {h:Heap} {mg:Str->Option Value} {fa f1 f2 f3 f4 f5 f6 f7 f8 f9 f10 f11 f12 f13 f14 f15 f16 f17 f18 C T way:Addr} {tF t4 t16 t30:Tok} (X:K.In h) (G:h.Ns mainGlobals mg) (hfa:mg "law" = some (.ref fa))
  {od1 an1 od2 an2 od3 an3 od4 an4 od5 an5 od6 an6 od7 an7 od8 an8 od9 an9 od10 an10 od11 an11 od12 an12 od13 an13 od14 an14 od15 an15 od16 an16 od17 an17 od18 an18:Option Addr} {sl1 sl2 sl3 sl4 sl5 sl6 sl7 sl8 sl9 sl10 sl11 sl12 sl13 sl14 sl15 sl16 sl17 sl18:Array (Option Value)} {oc1 kV1 dc1 pm1 cd1 ct1 oc2 kV2 dc2 pm2 cd2 ct2 oc3 kV3 dc3 pm3 cd3 ct3 oc4 kV4 dc4 pm4 cd4 ct4 oc5 kV5 dc5 pm5 cd5 ct5 oc6 kV6 dc6 pm6 cd6 ct6 oc7 kV7 dc7 pm7 cd7 ct7 oc8 kV8 dc8 pm8 cd8 ct8 oc9 kV9 dc9 pm9 cd9 ct9 oc10 kV10 dc10 pm10 cd10 ct10 oc11 kV11 dc11 pm11 cd11 ct11 oc12 kV12 dc12 pm12 cd12 ct12 oc13 kV13 dc13 pm13 cd13 ct13 oc14 kV14 dc14 pm14 cd14 ct14 oc15 kV15 dc15 pm15 cd15 ct15 oc16 kV16 dc16 pm16 cd16 ct16 oc17 kV17 dc17 pm17 cd17 ct17 oc18 kV18 dc18 pm18 cd18 ct18:Value}
  (aF1:PySem.W.nsIn K mainGlobals "is_written" = some (some (.ref f1))) (lF1:K.lookup f1=some ⟨oc1,od1,.func (PySem.W.fnOf "is_written" "is_written" (Zaz Zhk) (Zav Zhk) (Zaf Zhk) .none kV1 dc1 pm1 an1 cd1 ct1),sl1⟩) (cF1:PySem.W.codeIn K cd1 "is_written" = true) (kF1:PySem.W.keepIn K (.ref f1)=true)
  (aF2:PySem.W.nsIn K mainGlobals "is_number" = some (some (.ref f2))) (lF2:K.lookup f2=some ⟨oc2,od2,.func (PySem.W.fnOf "is_number" "is_number" (Zaz ZgA) (Zav ZgA) (Zaf ZgA) .none kV2 dc2 pm2 an2 cd2 ct2),sl2⟩) (cF2:PySem.W.codeIn K cd2 "is_number" = true) (kF2:PySem.W.keepIn K (.ref f2)=true)
  (aF3:PySem.W.nsIn K mainGlobals "web_of" = some (some (.ref f3))) (lF3:K.lookup f3=some ⟨oc3,od3,.func (PySem.W.fnOf "web_of" "web_of" (Zaz Zcz) (Zav Zcz) (Zaf Zcz) .none kV3 dc3 pm3 an3 cd3 ct3),sl3⟩) (cF3:PySem.W.codeIn K cd3 "web_of" = true) (kF3:PySem.W.keepIn K (.ref f3)=true)
  (aF4:PySem.W.nsIn K mainGlobals "road_of" = some (some (.ref f4))) (lF4:K.lookup f4=some ⟨oc4,od4,.func (PySem.W.fnOf "road_of" "road_of" (Zaz Zhl) (Zav Zhl) (Zaf Zhl) .none kV4 dc4 pm4 an4 cd4 ct4),sl4⟩) (cF4:PySem.W.codeIn K cd4 "road_of" = true) (kF4:PySem.W.keepIn K (.ref f4)=true)
  (aF5:PySem.W.nsIn K mainGlobals "read_web" = some (some (.ref f5))) (lF5:K.lookup f5=some ⟨oc5,od5,.func (PySem.W.fnOf "read_web" "read_web" (Zaz ZgB) (Zav ZgB) (Zaf ZgB) .none kV5 dc5 pm5 an5 cd5 ct5),sl5⟩) (cF5:PySem.W.codeIn K cd5 "read_web" = true) (kF5:PySem.W.keepIn K (.ref f5)=true)
  (aF6:PySem.W.nsIn K mainGlobals "_law_cell_at" = some (some (.ref f6))) (lF6:K.lookup f6=some ⟨oc6,od6,.func (PySem.W.fnOf "_law_cell_at" "_law_cell_at" (Zaz Zhm) (Zav Zhm) (Zaf Zhm) .none kV6 dc6 pm6 an6 cd6 ct6),sl6⟩) (cF6:PySem.W.codeIn K cd6 "_law_cell_at" = true) (kF6:PySem.W.keepIn K (.ref f6)=true)
  (aF7:PySem.W.nsIn K mainGlobals "_law_numbers" = some (some (.ref f7))) (lF7:K.lookup f7=some ⟨oc7,od7,.func (PySem.W.fnOf "_law_numbers" "_law_numbers" (Zaz Zhn) (Zav Zhn) (Zaf Zhn) .none kV7 dc7 pm7 an7 cd7 ct7),sl7⟩) (cF7:PySem.W.codeIn K cd7 "_law_numbers" = true) (kF7:PySem.W.keepIn K (.ref f7)=true)
  (aF8:PySem.W.nsIn K mainGlobals "_law_big_web" = some (some (.ref f8))) (lF8:K.lookup f8=some ⟨oc8,od8,.func (PySem.W.fnOf "_law_big_web" "_law_big_web" (Zaz ZgC) (Zav ZgC) (Zaf ZgC) .none kV8 dc8 pm8 an8 cd8 ct8),sl8⟩) (cF8:PySem.W.codeIn K cd8 "_law_big_web" = true) (kF8:PySem.W.keepIn K (.ref f8)=true)
  (aF9:PySem.W.nsIn K mainGlobals "_law_web_written" = some (some (.ref f9))) (lF9:K.lookup f9=some ⟨oc9,od9,.func (PySem.W.fnOf "_law_web_written" "_law_web_written" (Zaz ZgD) (Zav ZgD) (Zaf ZgD) .none kV9 dc9 pm9 an9 cd9 ct9),sl9⟩) (cF9:PySem.W.codeIn K cd9 "_law_web_written" = true) (kF9:PySem.W.keepIn K (.ref f9)=true)
  (aF10:PySem.W.nsIn K mainGlobals "_law_alike" = some (some (.ref f10))) (lF10:K.lookup f10=some ⟨oc10,od10,.func (PySem.W.fnOf "_law_alike" "_law_alike" (Zaz Zho) (Zav Zho) (Zaf Zho) .none kV10 dc10 pm10 an10 cd10 ct10),sl10⟩) (cF10:PySem.W.codeIn K cd10 "_law_alike" = true) (kF10:PySem.W.keepIn K (.ref f10)=true)
  (aF11:PySem.W.nsIn K mainGlobals "_law_number" = some (some (.ref f11))) (lF11:K.lookup f11=some ⟨oc11,od11,.func (PySem.W.fnOf "_law_number" "_law_number" (Zaz Zhp) (Zav Zhp) (Zaf Zhp) .none kV11 dc11 pm11 an11 cd11 ct11),sl11⟩) (cF11:PySem.W.codeIn K cd11 "_law_number" = true) (kF11:PySem.W.keepIn K (.ref f11)=true)
  (aF12:PySem.W.nsIn K mainGlobals "_law_read" = some (some (.ref f12))) (lF12:K.lookup f12=some ⟨oc12,od12,.func (PySem.W.fnOf "_law_read" "_law_read" (Zaz ZgE) (Zav ZgE) (Zaf ZgE) .none kV12 dc12 pm12 an12 cd12 ct12),sl12⟩) (cF12:PySem.W.codeIn K cd12 "_law_read" = true) (kF12:PySem.W.keepIn K (.ref f12)=true)
  (aF13:PySem.W.nsIn K mainGlobals "_law_with_road" = some (some (.ref f13))) (lF13:K.lookup f13=some ⟨oc13,od13,.func (PySem.W.fnOf "_law_with_road" "_law_with_road" (Zaz Zhq) (Zav Zhq) (Zaf Zhq) .none kV13 dc13 pm13 an13 cd13 ct13),sl13⟩) (cF13:PySem.W.codeIn K cd13 "_law_with_road" = true) (kF13:PySem.W.keepIn K (.ref f13)=true)
  (aF14:PySem.W.nsIn K mainGlobals "_law_many_roads" = some (some (.ref f14))) (lF14:K.lookup f14=some ⟨oc14,od14,.func (PySem.W.fnOf "_law_many_roads" "_law_many_roads" (Zaz Zhr) (Zav Zhr) (Zaf Zhr) .none kV14 dc14 pm14 an14 cd14 ct14),sl14⟩) (cF14:PySem.W.codeIn K cd14 "_law_many_roads" = true) (kF14:PySem.W.keepIn K (.ref f14)=true)
  (aF15:PySem.W.nsIn K mainGlobals "_law_changed" = some (some (.ref f15))) (lF15:K.lookup f15=some ⟨oc15,od15,.func (PySem.W.fnOf "_law_changed" "_law_changed" (Zaz Zhs) (Zav Zhs) (Zaf Zhs) .none kV15 dc15 pm15 an15 cd15 ct15),sl15⟩) (cF15:PySem.W.codeIn K cd15 "_law_changed" = true) (kF15:PySem.W.keepIn K (.ref f15)=true)
  (aF16:PySem.W.nsIn K mainGlobals "_law_asked" = some (some (.ref f16))) (lF16:K.lookup f16=some ⟨oc16,od16,.func (PySem.W.fnOf "_law_asked" "_law_asked" (Zaz Zht) (Zav Zht) (Zaf Zht) .none kV16 dc16 pm16 an16 cd16 ct16),sl16⟩) (cF16:PySem.W.codeIn K cd16 "_law_asked" = true) (kF16:PySem.W.keepIn K (.ref f16)=true)
  (aF17:PySem.W.nsIn K mainGlobals "_law_any" = some (some (.ref f17))) (lF17:K.lookup f17=some ⟨oc17,od17,.func (PySem.W.fnOf "_law_any" "_law_any" (Zaz Zhu) (Zav Zhu) (Zaf Zhu) .none kV17 dc17 pm17 an17 cd17 ct17),sl17⟩) (cF17:PySem.W.codeIn K cd17 "_law_any" = true) (kF17:PySem.W.keepIn K (.ref f17)=true)
  (aF18:PySem.W.nsIn K mainGlobals "law" = some (some (.ref f18))) (lF18:K.lookup f18=some ⟨oc18,od18,.func (PySem.W.fnOf "law" "law" (Zaz Zgb) (Zav Zgb) (Zaf Zgb) .none kV18 dc18 pm18 an18 cd18 ct18),sl18⟩) (cF18:PySem.W.codeIn K cd18 "law" = true) (kF18:PySem.W.keepIn K (.ref f18)=true)
  (gC:PySem.W.nsIn K mainGlobals "NoWeb" = some (some (.ref C)))
  (gT:PySem.W.nsIn K mainGlobals "NoText" = some (some (.ref T)))
  (gW:PySem.W.nsIn K mainGlobals "WayError" = some (some (.ref way)))
  (xC:ExcC K C)
  (xT:ExcC K T)
  (xga:PySem.W.findIn K (.ref T) "__getattribute__" = some (some (.builtin "BaseException.__getattribute__")))
  (xnga:PySem.W.findIn K (.ref T) "__getattr__" = some none)
  (xcl:PySem.W.findIn K (.ref T) "__class__" = some (some (.builtin "object.__class__")))
  (xob:PySem.W.mroIn K T (.type "object")=some true)
  (tbe:PySem.W.subIn K (.ref T) (.type "BaseException")=some true)
  (wbe:PySem.W.subIn K (.ref way) (.type "BaseException")=some true)
  (cbe:PySem.W.subIn K (.ref C) (.type "BaseException")=some true)
  (kcT:PySem.W.subIn K (.ref T) (.ref T)=some true)
  (ktT:PySem.W.typeIn K (.ref T)=some (.type "type"))
  (kcC:PySem.W.subIn K (.ref C) (.ref C)=some true)
  (ktC:PySem.W.typeIn K (.ref C)=some (.type "type"))
  (tw:PySem.W.kitOne K (.ref T) (.ref way)=some true)
  (ntw:T≠way)
  (tc:PySem.W.kitOne K (.ref T) (.ref C)=some false)
  (ntc:T≠C)
  (tv:PySem.W.kitOne K (.ref T) (.type "ValueError")=some true)
  (gFig:PySem.W.nsIn K mainGlobals "FIGURES" = some (some (.str "0123456789" tF)))
  (gMoF:PySem.W.nsIn K mainGlobals "MOST_FIGURES" = some (some (.int 4 t4)))
  (gMoP:PySem.W.nsIn K mainGlobals "MOST_PLACES" = some (some (.int 16 t16)))
  (gMoR:PySem.W.nsIn K mainGlobals "MOST_ROADS" = some (some (.int 30 t30)))
  (kit:ZjX K)
  (kib:ZkC K)
  (nisinstance:PySem.W.nsIn K mainGlobals "isinstance" = some none)
  (nrange:PySem.W.nsIn K mainGlobals "range" = some none)
  (nlist:PySem.W.nsIn K mainGlobals "list" = some none)
  (nlen:PySem.W.nsIn K mainGlobals "len" = some none)
  (nint:PySem.W.nsIn K mainGlobals "int" = some none)
  (nmin:PySem.W.nsIn K mainGlobals "min" = some none)
  (nmax:PySem.W.nsIn K mainGlobals "max" = some none)
  (nbool:PySem.W.nsIn K mainGlobals "bool" = some none)
  (nset:PySem.W.nsIn K mainGlobals "set" = some none)
  (nall:PySem.W.nsIn K mainGlobals "all" = some none)
  (ntuple:PySem.W.nsIn K mainGlobals "tuple" = some none)
  (nstr:PySem.W.nsIn K mainGlobals "str" = some none)
  (nValueError:PySem.W.nsIn K mainGlobals "ValueError" = some none)
  : ∃ fd:FuncData,(∀ (s:Shared) (v:Value),BindsTo s fd ⟨[v],[]⟩ [("script", v)])/\∀ base:Heap,K.In base->base.Ns mainGlobals mg->ZaY l.prog w K mg base CX0 6 fa fd ["script"] (Zgl K):=by
 have e:=hfa.symm.trans (PySem.W.mg_of X G aF18)
 cases e
 have FWri:=ZaT (st:=Zhk) lF1 cF1 kF1
 have bWri:=FWri.binds (ps:=["word", "most"]) λ_ _ _ _ _ _ us hl=>match us,hl with | [_,_],_=>rfl
 have mWri:mg "is_written" = some (.ref f1):=PySem.W.mg_of X G aF1
 have FIsn:=ZaT (st:=ZgA) lF2 cF2 kF2
 have bIsn:=FIsn.binds (ps:=["word"]) λ_ _ _ _ _ _ us hl=>match us,hl with | [_],_=>rfl
 have mIsn:mg "is_number" = some (.ref f2):=PySem.W.mg_of X G aF2
 have FO:=ZaT (st:=Zcz) lF3 cF3 kF3
 have bO:=FO.binds (ps:=["places", "roads"]) λ_ _ _ _ _ _ us hl=>match us,hl with | [_,_],_=>rfl
 have mO:mg "web_of" = some (.ref f3):=PySem.W.mg_of X G aF3
 have FRoa:=ZaT (st:=Zhl) lF4 cF4 kF4
 have bRoa:=FRoa.binds (ps:=["word"]) λ_ _ _ _ _ _ us hl=>match us,hl with | [_],_=>rfl
 have mRoa:mg "road_of" = some (.ref f4):=PySem.W.mg_of X G aF4
 have FRea:=ZaT (st:=ZgB) lF5 cF5 kF5
 have bRea:=FRea.binds (ps:=["text"]) λ_ _ _ _ _ _ us hl=>match us,hl with | [_],_=>rfl
 have mRea:mg "read_web" = some (.ref f5):=PySem.W.mg_of X G aF5
 have FA:=ZaT (st:=Zhm) lF6 cF6 kF6
 have bA:=FA.binds (ps:=["script", "k"]) λ_ _ _ _ _ _ us hl=>match us,hl with | [_,_],_=>rfl
 have mA:mg "_law_cell_at" = some (.ref f6):=PySem.W.mg_of X G aF6
 have FN:=ZaT (st:=Zhn) lF7 cF7 kF7
 have bN:=FN.binds (ps:=["cell", "many"]) λ_ _ _ _ _ _ us hl=>match us,hl with | [_,_],_=>rfl
 have mN:mg "_law_numbers" = some (.ref f7):=PySem.W.mg_of X G aF7
 have FBig:=ZaT (st:=ZgC) lF8 cF8 kF8
 have bBig:=FBig.binds (ps:=["xs", "places", "many"]) λ_ _ _ _ _ _ us hl=>match us,hl with | [_,_,_],_=>rfl
 have mBig:mg "_law_big_web" = some (.ref f8):=PySem.W.mg_of X G aF8
 have FWww:=ZaT (st:=ZgD) lF9 cF9 kF9
 have bWww:=FWww.binds (ps:=["web"]) λ_ _ _ _ _ _ us hl=>match us,hl with | [_],_=>rfl
 have mWww:mg "_law_web_written" = some (.ref f9):=PySem.W.mg_of X G aF9
 have FAli:=ZaT (st:=Zho) lF10 cF10 kF10
 have bAli:=FAli.binds (ps:=["found", "due"]) λ_ _ _ _ _ _ us hl=>match us,hl with | [_,_],_=>rfl
 have mAli:mg "_law_alike" = some (.ref f10):=PySem.W.mg_of X G aF10
 have FLnu:=ZaT (st:=Zhp) lF11 cF11 kF11
 have bLnu:=FLnu.binds (ps:=["word"]) λ_ _ _ _ _ _ us hl=>match us,hl with | [_],_=>rfl
 have mLnu:mg "_law_number" = some (.ref f11):=PySem.W.mg_of X G aF11
 have FLre:=ZaT (st:=ZgE) lF12 cF12 kF12
 have bLre:=FLre.binds (ps:=["text"]) λ_ _ _ _ _ _ us hl=>match us,hl with | [_],_=>rfl
 have mLre:mg "_law_read" = some (.ref f12):=PySem.W.mg_of X G aF12
 have FWro:=ZaT (st:=Zhq) lF13 cF13 kF13
 have bWro:=FWro.binds (ps:=["web", "xs"]) λ_ _ _ _ _ _ us hl=>match us,hl with | [_,_],_=>rfl
 have mWro:mg "_law_with_road" = some (.ref f13):=PySem.W.mg_of X G aF13
 have FMro:=ZaT (st:=Zhr) lF14 cF14 kF14
 have bMro:=FMro.binds (ps:=["places", "many"]) λ_ _ _ _ _ _ us hl=>match us,hl with | [_,_],_=>rfl
 have mMro:mg "_law_many_roads" = some (.ref f14):=PySem.W.mg_of X G aF14
 have FCha:=ZaT (st:=Zhs) lF15 cF15 kF15
 have bCha:=FCha.binds (ps:=["web", "xs"]) λ_ _ _ _ _ _ us hl=>match us,hl with | [_,_],_=>rfl
 have mCha:mg "_law_changed" = some (.ref f15):=PySem.W.mg_of X G aF15
 have FAsk:=ZaT (st:=Zht) lF16 cF16 kF16
 have bAsk:=FAsk.binds (ps:=["thing"]) λ_ _ _ _ _ _ us hl=>match us,hl with | [_],_=>rfl
 have mAsk:mg "_law_asked" = some (.ref f16):=PySem.W.mg_of X G aF16
 have FAny:=ZaT (st:=Zhu) lF17 cF17 kF17
 have bAny:=FAny.binds (ps:=["thing"]) λ_ _ _ _ _ _ us hl=>match us,hl with | [_],_=>rfl
 have mAny:mg "_law_any" = some (.ref f17):=PySem.W.mg_of X G aF17
 have FL:=ZaT (st:=Zgb) lF18 cF18 kF18
 refine ⟨PySem.W.fnOf "law" "law" (Zaz Zgb) (Zav Zgb) (Zaf Zgb) .none kV18 dc18 pm18 an18 cd18 ct18,λs v=>.of_eq rfl,λbase _ _=>?_⟩
 have TC:ZjW K mg C T way:=⟨⟨xT,xga,xnga,xcl,xob,tbe⟩,(PySem.W.mg_of X G gT),(PySem.W.mg_of X G gC),(PySem.W.mg_of X G gW),tbe,wbe,Zem kcT ktT,Zgm tw ntw,tc,tv,(PySem.W.mg_none_of X G nValueError)⟩
 have GWri:=ZiB (P:=l.prog) (w:=w) (base:=base) FWri (PySem.W.mg_of X G gFig) (PySem.W.mg_none_of X G nlen) (PySem.W.mg_none_of X G nall)
 have GIsn:=ZiC FIsn FWri bWri mWri GWri (PySem.W.mg_of X G gMoF)
 have GRoa:=ZiE FRoa FIsn bIsn mIsn GIsn (PySem.W.mg_none_of X G nint) (PySem.W.mg_of X G gT) xT
 have GO:=Zgf (P:=l.prog) (w:=w) (base:=base) FO (PySem.W.mg_of X G gC) xC (PySem.W.mg_none_of X G nall) (PySem.W.mg_none_of X G nlen) (PySem.W.mg_none_of X G nset) (PySem.W.mg_none_of X G nlist)
 have GRea:=ZiG FRea FIsn bIsn mIsn GIsn FRoa bRoa mRoa GRoa FO bO mO GO (PySem.W.mg_of X G gC) (PySem.W.mg_of X G gT) xT cbe (ZfJ tc ntc) (Zem kcC ktC) (PySem.W.mg_of X G gMoP) (PySem.W.mg_of X G gMoR) (PySem.W.mg_none_of X G nisinstance) (PySem.W.mg_none_of X G nstr) (PySem.W.mg_none_of X G nint) (PySem.W.mg_none_of X G nlen)
 have GAli:=ZgF (P:=l.prog) (w:=w) (base:=base) FAli bAli mAli kit (PySem.W.mg_none_of X G nisinstance) (PySem.W.mg_none_of X G nstr) (PySem.W.mg_none_of X G ntuple) (PySem.W.mg_none_of X G nlist) (PySem.W.mg_none_of X G nint) (PySem.W.mg_none_of X G nbool) (PySem.W.mg_none_of X G nlen) (PySem.W.mg_none_of X G nrange) 4
 have GLnu:=ZiI (P:=l.prog) (w:=w) (base:=base) FLnu (PySem.W.mg_none_of X G nlen) (PySem.W.mg_none_of X G nint)
 have GLre:=ZiJ (P:=l.prog) (w:=w) (base:=base) FLre FLnu bLnu mLnu GLnu (PySem.W.mg_none_of X G nlen)
 have GWww:=ZiK (P:=l.prog) (w:=w) (base:=base) FWww (PySem.W.mg_none_of X G nstr)
 have GWro:=ZiM (P:=l.prog) (w:=w) (base:=base) FWro (PySem.W.mg_none_of X G nlen) (PySem.W.mg_none_of X G nmin) (PySem.W.mg_none_of X G nmax)
 have GMro:=ZiO (P:=l.prog) (w:=w) (base:=base) FMro (PySem.W.mg_none_of X G nrange)
 have GCha:=ZiQ (P:=l.prog) (w:=w) (base:=base) FCha FWww bWww mWww GWww FWro bWro mWro GWro FMro bMro mMro GMro (PySem.W.mg_none_of X G nlen) (PySem.W.mg_none_of X G nstr)
 have GAsk:=ZiS (P:=l.prog) (w:=w) (base:=base) FAsk TC FRea bRea mRea GRea (PySem.W.mg_none_of X G nisinstance) (PySem.W.mg_none_of X G nint)
 have GAny:=ZiU (P:=l.prog) (w:=w) (base:=base) FAny TC FRea bRea mRea GRea (PySem.W.mg_none_of X G nisinstance)
 have GA:=Ziu (P:=l.prog) (w:=w) (base:=base) FA (PySem.W.mg_none_of X G nlen)
 have GN:=Ziw (P:=l.prog) (w:=w) (base:=base) FN (PySem.W.mg_none_of X G nrange)
 have GBig:=Ziz (P:=l.prog) (w:=w) (base:=base) FBig (PySem.W.mg_none_of X G nrange) (PySem.W.mg_none_of X G nmin) (PySem.W.mg_none_of X G nmax)
 exact ZiX FL kit kib FA bA mA GA FN bN mN GN FBig bBig mBig GBig FWww bWww mWww GWww FCha bCha mCha GCha FLre bLre mLre GLre FAsk bAsk mAsk GAsk FAny bAny mAny GAny FAli bAli mAli GAli (PySem.W.mg_none_of X G nlen) (PySem.W.mg_none_of X G nrange) (PySem.W.mg_none_of X G nmin) (PySem.W.mg_none_of X G nmax)
theorem walk {l:PySem.W.OpenLaw} {q:Program} {loose:List Str} {XP:(Str->Option Value)->Heap->Prop} {YP:World->Heap->Prop} {d:DefRec} {K:Params->PySem.W.Frag} (hn:l.most=some 63) (hdf:d.params.defaults=[])
  (hY:∀ (w:World) (h:Heap),YP w h->(K w.params).In h)
  (F:∀ (w:World) (mg:Str->Option Value) (fa:Addr) (h:Heap),(K w.params).In h->h.Ns mainGlobals mg->mg d.name=some (.ref fa) ->
   ∃ fd:FuncData,(∀ (s:Shared) (u:Value),BindsTo s fd ⟨[u],[]⟩ [("script", u)])/\∀ base:Heap,(K w.params).In base->base.Ns mainGlobals mg->ZaY l.prog w (K w.params) mg base CX0 6 fa fd ["script"] (Zgl (K w.params))) :
  PySem.W.WalkO q loose XP YP l.row.toRowW d [] (λf vs=>PySem.call f vs):=
 L2.walk_of (n:=63) (k:=6) (x := "script") (CX:=λ_=>CX0) (sp:=λw=>Zgl (K w.params)) hn (by decide) hdf ⟨rfl,by decide,by decide⟩ hY F (λ_ _ a ns hl _ hS=>⟨a,ns,rfl,hS,hl,λ_=>rfl⟩) λ_ _ _ _ _ z=>z
end M
open PySem PySem.W PyProof.Rows
set_option maxRecDepth 100000 in
set_option maxHeartbeats 0 in
theorem PySem.Challenge.cw_onceways_k84_texts_of_no_web_holds : PySem.Challenge.rw_onceways_k84_texts_of_no_web.Holds := by
 w_on;o_law;k_head;(case hw=>w_witness2)
 k_fill
 refine M.walk (l:=PySem.Challenge.rw_onceways_k84_texts_of_no_web) rfl rfl (λw h Y=>PySem.W.kIn_of Y) ?F
 case F=>
  intro w mg fa h KX G hmg
  refine' M.all_mk KX G hmg ?aF1 ?lF1 ?cF1 ?kF1 ?aF2 ?lF2 ?cF2 ?kF2 ?aF3 ?lF3 ?cF3 ?kF3 ?aF4 ?lF4 ?cF4 ?kF4 ?aF5 ?lF5 ?cF5 ?kF5 ?aF6 ?lF6 ?cF6 ?kF6 ?aF7 ?lF7 ?cF7 ?kF7 ?aF8 ?lF8 ?cF8 ?kF8 ?aF9 ?lF9 ?cF9 ?kF9 ?aF10 ?lF10 ?cF10 ?kF10 ?aF11 ?lF11 ?cF11 ?kF11 ?aF12 ?lF12 ?cF12 ?kF12 ?aF13 ?lF13 ?cF13 ?kF13 ?aF14 ?lF14 ?cF14 ?kF14 ?aF15 ?lF15 ?cF15 ?kF15 ?aF16 ?lF16 ?cF16 ?kF16 ?aF17 ?lF17 ?cF17 ?kF17 ?aF18 ?lF18 ?cF18 ?kF18 ?gC ?gT ?gW ?xC ?xT ?xga ?xnga ?xcl ?xob ?tbe ?wbe ?cbe ?kcT ?ktT ?kcC ?ktC ?tw ?ntw ?tc ?ntc ?tv ?gFig ?gMoF ?gMoP ?gMoR ?kit ?kib ?nisinstance ?nrange ?nlist ?nlen ?nint ?nmin ?nmax ?nbool ?nset ?nall ?ntuple ?nstr ?nValueError
  (case aF1=>k_is)
  (case lF1=>k_is)
  (case cF1=>k_is)
  (case kF1=>k_is)
  (case aF2=>k_is)
  (case lF2=>k_is)
  (case cF2=>k_is)
  (case kF2=>k_is)
  (case aF3=>k_is)
  (case lF3=>k_is)
  (case cF3=>k_is)
  (case kF3=>k_is)
  (case aF4=>k_is)
  (case lF4=>k_is)
  (case cF4=>k_is)
  (case kF4=>k_is)
  (case aF5=>k_is)
  (case lF5=>k_is)
  (case cF5=>k_is)
  (case kF5=>k_is)
  (case aF6=>k_is)
  (case lF6=>k_is)
  (case cF6=>k_is)
  (case kF6=>k_is)
  (case aF7=>k_is)
  (case lF7=>k_is)
  (case cF7=>k_is)
  (case kF7=>k_is)
  (case aF8=>k_is)
  (case lF8=>k_is)
  (case cF8=>k_is)
  (case kF8=>k_is)
  (case aF9=>k_is)
  (case lF9=>k_is)
  (case cF9=>k_is)
  (case kF9=>k_is)
  (case aF10=>k_is)
  (case lF10=>k_is)
  (case cF10=>k_is)
  (case kF10=>k_is)
  (case aF11=>k_is)
  (case lF11=>k_is)
  (case cF11=>k_is)
  (case kF11=>k_is)
  (case aF12=>k_is)
  (case lF12=>k_is)
  (case cF12=>k_is)
  (case kF12=>k_is)
  (case aF13=>k_is)
  (case lF13=>k_is)
  (case cF13=>k_is)
  (case kF13=>k_is)
  (case aF14=>k_is)
  (case lF14=>k_is)
  (case cF14=>k_is)
  (case kF14=>k_is)
  (case aF15=>k_is)
  (case lF15=>k_is)
  (case cF15=>k_is)
  (case kF15=>k_is)
  (case aF16=>k_is)
  (case lF16=>k_is)
  (case cF16=>k_is)
  (case kF16=>k_is)
  (case aF17=>k_is)
  (case lF17=>k_is)
  (case cF17=>k_is)
  (case kF17=>k_is)
  (case aF18=>k_is)
  (case lF18=>k_is)
  (case cF18=>k_is)
  (case kF18=>k_is)
  (case gC=>k_is)
  (case gT=>k_is)
  (case gW=>k_is)
  (case xC=>(unfold L2.ExcC;k_exc))
  (case xT=>(unfold L2.ExcC;k_exc))
  (case xga=>k_is)
  (case xnga=>k_is)
  (case xcl=>k_is)
  (case xob=>k_is)
  (case tbe=>k_is)
  (case wbe=>k_is)
  (case cbe=>k_is)
  (case kcT=>k_is)
  (case ktT=>k_is)
  (case kcC=>k_is)
  (case ktC=>k_is)
  (case tw=>kit_is)
  (case ntw=>decide)
  (case tc=>kit_is)
  (case ntc=>decide)
  (case tv=>kit_is)
  (case gFig=>k_is)
  (case gMoF=>k_is)
  (case gMoP=>k_is)
  (case gMoR=>k_is)
  (case kit=>(constructor <;> kit_is))
  (case kib=>(constructor <;> kit_is))
  (case nisinstance=>k_is)
  (case nrange=>k_is)
  (case nlist=>k_is)
  (case nlen=>k_is)
  (case nint=>k_is)
  (case nmin=>k_is)
  (case nmax=>k_is)
  (case nbool=>k_is)
  (case nset=>k_is)
  (case nall=>k_is)
  (case ntuple=>k_is)
  (case nstr=>k_is)
  (case nValueError=>k_is)
#print axioms PySem.Challenge.cw_onceways_k84_texts_of_no_web_holds
