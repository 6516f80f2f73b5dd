import PyProof.Rows.All
import Wide.All
import OpenK.AllK
import Wide.FinOn
import Lean
import PyProof.EqAt
import PyProof.EqKinds
import PyProof.TupleCall
import PyProof.SumAny
import PySem.Challenge.RW_onceways_k82_texts_of_no_wish
set_option Elab.async false
set_option linter.all false
set_option maxRecDepth 100000
set_option maxHeartbeats 4000000
namespace L2
open PySem PySem.Spec PyProof.Rows
abbrev Key:=Sum Int Str
def ZbX:Key->Value->Bool
 | .inl k,v=>Value.isInt k v
 | .inr x,v=>Value.isStrOf x v
def ZeI (w:World):Key->Int
 | .inl k=>hashInt k
 | .inr x=>hashStr w x
theorem Jb:∀{k:Key}{v:Value},ZbX k v=true->(∃i t,k=Sum.inl i/\v=Value.int i t)\/(∃x t,k=Sum.inr x/\v=Value.str x t)
 | .inl i,v,h=>by
  obtain ⟨t,e⟩:=Value.isInt_shape (k:=i) (v:=v) h;exact .inl ⟨i,t,rfl,e⟩
 | .inr x,v,h=>by
  obtain ⟨t,e⟩:=Value.isStrOf_shape (x:=x) (v:=v) h;exact .inr ⟨x,t,rfl,e⟩
theorem ZbY (a b:Int):decide ((Sum.inl a:Key)=Sum.inl b)=(a == b):=by
 by_cases e:a=b
 ·subst e;simp
 ·have h:¬ (Sum.inl a:Key)=Sum.inl b:=λq=>e (Sum.inl.inj q);rw [decide_eq_false h];exact (beq_eq_false_iff_ne.mpr e).symm
theorem ZbZ (a b:Str):decide ((Sum.inr a:Key)=Sum.inr b)=decide (a=b):=by
 by_cases e:a=b
 ·subst e;simp
 ·have h:¬ (Sum.inr a:Key)=Sum.inr b:=λq=>e (Sum.inr.inj q);rw [decide_eq_false h,decide_eq_false e]
theorem Zb0 (a:Int)(b:Str):decide ((Sum.inl a:Key)=Sum.inr b)=false:=decide_eq_false (λq=>nomatch q)
theorem Zb1 (a:Str)(b:Int):decide ((Sum.inr a:Key)=Sum.inl b)=false:=decide_eq_false (λq=>nomatch q)
def VN (prog:Program)(w:World):PySem.KeyKind prog w Key where
 is:=ZbX
 hash:=ZeI w
 inj:=λv a b ha hb=>by
  rcases Jb ha with ⟨i,t,rfl,rfl⟩ | ⟨x,t,rfl,rfl⟩
  ·rcases Jb hb with ⟨j,u,rfl,e⟩ | ⟨y,u,rfl,e⟩
   ·injection e with e1 _;rw [e1]
   ·exact nomatch e
  ·rcases Jb hb with ⟨j,u,rfl,e⟩ | ⟨y,u,rfl,e⟩
   ·exact nomatch e
   ·injection e with e1 _;rw [e1]
 byValue:=λk v h=>by
  rcases Jb h with ⟨i,t,rfl,rfl⟩ | ⟨x,t,rfl,rfl⟩ <;> rfl
 pyHash:=λhv h=>by
  rcases Jb hv with ⟨i,t,rfl,rfl⟩ | ⟨x,t,rfl,rfl⟩
  ·exact wpAny_pyHash_int h
  ·exact wpAny_pyHash_str h
 eqBool:=λhu hv h=>by
  rcases Jb hu with ⟨i,t,rfl,rfl⟩ | ⟨x,t,rfl,rfl⟩
  ·rcases Jb hv with ⟨j,u,rfl,rfl⟩ | ⟨y,u,rfl,rfl⟩
   ·rw [ZbY] at h;exact wpAny_eqBool_int h
   ·rw [Zb0] at h;exact SeqAt.EqAt.int_str i t y u _ _ _ _ h
  ·rcases Jb hv with ⟨j,u,rfl,rfl⟩ | ⟨y,u,rfl,rfl⟩
   ·rw [Zb1] at h;exact SeqAt.EqAt.str_int x t j u _ _ _ _ h
   ·rw [ZbZ] at h;exact wpAny_eqBool_str h
 «strs»:=λk x t v h=>by
  rcases Jb h with ⟨i,u,rfl,e⟩ | ⟨y,u,rfl,e⟩
  ·exact nomatch e
  ·injection e with e1 _
   subst e1;cases v <;> rfl
end L2
namespace L2
open PySem PySem.Spec PyProof.Rows
inductive V where
 | non | bl (b:Bool) | int (i:Int) | str (x:Str) | byt (b:Array UInt8) | flt (b:UInt64) | ref (a:Addr) | ty (n:String)
 deriving DecidableEq
def RelV:V->Value->Prop
 | .non,u=>u=Value.none
 | .bl b,u=>u=Value.bool b
 | .int i,u=>∃t,u=Value.int i t
 | .str x,u=>∃t,u=Value.str x t
 | .byt b,u=>∃t,u=Value.bytes b t
 | .flt b,u=>∃t,u=Value.float b t
 | .ref a,u=>u=Value.ref a
 | .ty n,u=>u=Value.type n
abbrev Vals:List V->List Value->Prop:=Paired RelV
theorem Vals.length {xs:List V}{us:List Value}(r:Vals xs us):xs.length=us.length:=Paired.length r
theorem Vals.get:∀{xs:List V}{us:List Value}{i:Nat}{x:V},Vals xs us->xs[i]?=some x->∃u,us[i]?=some u/\RelV x u
 | _,_,_,_,.nil,e=>by simp at e
 | _,_,0,_,.cons r _,e=>by simp at e;subst e;exact ⟨_,rfl,r⟩
 | _,_,i+1,x,.cons _ t,e=>by
  obtain ⟨u,h1,h2⟩:=Vals.get (i:=i) (x:=x) t (by simpa using e);exact ⟨u,by simpa using h1,h2⟩
theorem Vals.set {x:V}{u:Value}(r:RelV x u):∀{xs:List V}{us:List Value}(i:Nat),Vals xs us->Vals (xs.set i x) (us.set i u)
 | _,_,_,.nil=>.nil
 | _,_,0,.cons _ t=>.cons r t
 | _,_,i+1,.cons q t=>.cons q (Vals.set r i t)
theorem Vals.append:∀{xs ys:List V}{us ws:List Value},Vals xs us->Vals ys ws->Vals (xs++ys) (us++ws)
 | _,_,_,_,.nil,s=>s
 | _,_,_,_,.cons r t,s=>.cons r (Vals.append t s)
theorem Vals.take:∀{xs:List V}{us:List Value}(n:Nat),Vals xs us->Vals (xs.take n) (us.take n)
 | _,_,0,_=>.nil
 | _,_,_+1,.nil=>.nil
 | _,_,n+1,.cons r t=>.cons r (Vals.take n t)
theorem Vals.drop:∀{xs:List V}{us:List Value}(n:Nat),Vals xs us->Vals (xs.drop n) (us.drop n)
 | _,_,0,r=>r
 | _,_,_+1,.nil=>.nil
 | _,_,n+1,.cons _ t=>Vals.drop n t
def ZdF:Option V->Option Value->Prop
 | some v,some u=>RelV v u
 | none,none=>True
 | _,_=>False
def KV {κ:Type}:List (κ×V)->List (κ×Value)->Prop:=Paired λ(p:κ×V) (q:κ×Value)=>p.1=q.1/\RelV p.2 q.2
def kV:Key->V
 | .inl i=>.int i
 | .inr x=>.str x
inductive HO where
  | lst (xs:List V)
  | tup (xs:List V)
  | dK (kvs:List (Key×V)) | dT (kvs:List (List Key×V))
  | set (S:Int->Bool) (n:Nat)
  | ins (C dx:Addr) (fs:List (Str×V))
  | own (x:Addr)
  | xd (fs:List (Str×V))
  | met (f x:Addr)
  | rng (lo hi:Int)
  | frz (o:Obj) (u:HO)
  | tbl (ps:Array Value)
  | ext (φ:Heap->Prop)
abbrev Hp:=Addr->Option HO
def upd (H:Hp)(a:Addr)(o:HO):Hp:=λb=>if b=a then some o else H b
theorem Gb {H:Hp}{a:Addr}{o:HO}:upd H a o a=some o:=by unfold upd;rw [if_pos rfl]
theorem GB {H:Hp}{a b:Addr}{o:HO}(h:b≠a):upd H a o b=H b:=by unfold upd;rw [if_neg h]
theorem ZdG {H:Hp}{a b:Addr}{o u:HO}(h:H a=some o)(h':H b=some u)(d:o≠u):a≠b:=by
 intro e;subst e;rw [h] at h';exact d (Option.some.inj h')
theorem GG {H:Hp}{a b:Addr}{o:HO}(h:H a=some o)(h':H b=none):a≠b:=by
 intro e;subst e;rw [h] at h';cases h'
section
variable (P:Program)(w:World)
def ObjOk (H:Hp)(h:Heap)(a:Addr):HO->Prop
 | .lst xs=>xs.length<=sizeLine/\∃(its:List Value)(n:Nat),Vals xs its/\h.get? a=some { cls:=.type "list", data:=.seq its.toArray n }
 | .tup xs=>xs.length<=sizeLine/\∃its:List Value,Vals xs its/\IsTup h a its.toArray
 | .dK kvs=>kvs.length<=sizeLine/\(a == sysModules)=false/\∃vs,KV kvs vs/\h.DictOf (VN P w) a vs
 | .dT kvs=>kvs.length<=sizeLine/\(a == sysModules)=false/\∃xs:List (List Key×Addr×Value),
   Paired (λ(p:List Key×V) (q:List Key×Addr×Value)=>p.1=q.1/\H q.2.1=some (.tup (p.1.map kV))/\RelV p.2 q.2.2) kvs xs /\
   ∃o es ep,h.get? a=some o/\o.ExactDict/\o.data=.dict es ep/\es.toList=xs.map (entryOfKey (tupleKind (VN P w)))/\(xs.map (·.1)).Nodup
 | .set S n=>h.SetOf (intKind P w) a S n
 | .ins C dx fs=>H dx=some (.own a)/\fs.length<=1000/\dx≠a/\h.get? a=some (W.instObj C dx) /\
   ∃mA,h.Ns1 dx mA/\(∀f,ZdF (fs.lookup f) (mA f))/\PySem.Within mA (fs.map (·.1))
 | .own _=>∃o,h.get? a=some o
 | .xd fs=>∃mA,h.Ns1 a mA/\∀f,ZdF (fs.lookup f) (mA f)
 | .rng lo hi=>∃t u v,h.get? a=some { cls:=.type "range", data:=.fields #[.int lo t,.int hi u,.int 1 v] }
 | .frz o u=>h.get? a=some o/\ObjOk H h a u
 | .tbl ps=>h.get? a=some { cls:=.none,data:=.fields ps }
 | .met f x=>h.get? a=some (W.methodObj (.ref f) (.ref x))
 | .ext φ=>φ h/\(∃o,h.get? a=some o)/\∀h1 h2:Heap,φ h1->(∀o,h1.get? a=some o->h2.get? a=some o)->φ h2
def HOk (H:Hp)(h:Heap):Prop:=∀a o,H a=some o->ObjOk P w H h a o
end
section
variable {P:Program}{w:World}{H H':Hp}{h h':Heap}{a:Addr}{o:HO}
theorem ObjOk.lt (x:ObjOk P w H h a o):a<h.objs.size:=by
 cases o with
 | lst xs=>obtain ⟨_,_,_,_,e⟩:=x;exact Heap.lt_size e
 | tup xs=>obtain ⟨_,_,_,p⟩:=x;exact p.lt
 | dK kvs=>obtain ⟨_,_,_,_,o,_,_,e,_⟩:=x;exact Heap.lt_size e
 | dT kvs=>obtain ⟨_,_,_,_,o,_,_,e,_⟩:=x;exact Heap.lt_size e
 | set S n=>obtain ⟨o,_,_,_,e,_⟩:=x;exact Heap.lt_size e
 | ins C dx fs=>obtain ⟨_,_,_,e,_⟩:=x;exact Heap.lt_size e
 | own y=>obtain ⟨_,e⟩:=x;exact Heap.lt_size e
 | xd fs=>obtain ⟨_,⟨_,_,_,e,_⟩,_⟩:=x;exact Heap.lt_size e
 | rng lo hi=>obtain ⟨_,_,_,e⟩:=x;exact Heap.lt_size e
 | frz ob u=>obtain ⟨e,_⟩:=x;exact Heap.lt_size e
 | tbl ps=>exact Heap.lt_size (show h.get? a=some _ from x)
 | met f y=>exact Heap.lt_size (show h.get? a=some _ from x)
 | ext φ=>obtain ⟨_,⟨_,e⟩,_⟩:=x;exact Heap.lt_size e
theorem Paired.mapP {α β:Type}{F G:α->β->Prop}:∀{l₁:List α}{l₂:List β},Paired F l₁ l₂->(∀a b,F a b->G a b)->Paired G l₁ l₂
 | _,_,.nil,_=>.nil
 | _,_,.cons r t,f=>.cons (f _ _ r) (Paired.mapP t f)
theorem ObjOk.stay (x:ObjOk P w H h a o)(k:∀b u,(b=a\/H b=some (.own a))->h.get? b=some u->h'.get? b=some u)(ho:∀b,H b=some (.own a)->H' b=some (.own a))(ht:∀b xs,H b=some (.tup xs)->H' b=some (.tup xs)):ObjOk P w H' h' a o:=by
 induction o with
 | lst xs=>obtain ⟨z,its,n,r,e⟩:=x;exact ⟨z,its,n,r,k _ _ (.inl rfl) e⟩
 | tup xs=>obtain ⟨z,its,r,ob,e,c⟩:=x;exact ⟨z,its,r,ob,k _ _ (.inl rfl) e,c⟩
 | dK kvs=>obtain ⟨z,y,vs,r,ob,es,ep,e,c⟩:=x;exact ⟨z,y,vs,r,ob,es,ep,k _ _ (.inl rfl) e,c⟩
 | dT kvs=>
  obtain ⟨z,y,xs,r,ob,es,ep,e,c⟩:=x;exact ⟨z,y,xs,Paired.mapP r λp q z=>⟨z.1,ht _ _ z.2.1,z.2.2⟩,ob,es,ep,k _ _ (.inl rfl) e,c⟩
 | set S n=>obtain ⟨ob,es,ep,t,e,c⟩:=x;exact ⟨ob,es,ep,t,k _ _ (.inl rfl) e,c⟩
 | ins C dx fs=>
  obtain ⟨d,z,ne,e,mA,⟨od,es,ep,e2,c⟩,r⟩:=x;exact ⟨ho _ d,z,ne,k _ _ (.inl rfl) e,mA,⟨od,es,ep,k _ _ (.inr d) e2,c⟩,r⟩
 | own y=>obtain ⟨ob,e⟩:=x;exact ⟨ob,k _ _ (.inl rfl) e⟩
 | xd fs=>obtain ⟨mA,⟨od,es,ep,e,c⟩,r⟩:=x;exact ⟨mA,⟨od,es,ep,k _ _ (.inl rfl) e,c⟩,r⟩
 | rng lo hi=>obtain ⟨t,u,v,e⟩:=x;exact ⟨t,u,v,k _ _ (.inl rfl) e⟩
 | frz ob u ih=>obtain ⟨e,q⟩:=x;exact ⟨k _ _ (.inl rfl) e,ih q⟩
 | tbl ps=>
  have e:h.get? a=some { cls:=.none,data:=.fields ps }:=x;show h'.get? a=some { cls:=.none,data:=.fields ps };exact k a _ (.inl rfl) e
 | met f y=>
  have e:h.get? a=some (W.methodObj (.ref f) (.ref y)):=x;show h'.get? a=some (W.methodObj (.ref f) (.ref y));exact k a _ (.inl rfl) e
 | ext φ=>obtain ⟨p,⟨o,e⟩,st⟩:=x;exact ⟨st _ _ p λo q=>k _ _ (.inl rfl) q,⟨o,k _ _ (.inl rfl) e⟩,st⟩
theorem HOk.lt (x:HOk P w H h)(e:H a=some o):a<h.objs.size:=(x a o e).lt
theorem HOk.fresh (x:HOk P w H h)(e:h.objs.size<=a):H a=none:=by
 cases q:H a with
 | none=>rfl
 | some u=>exact absurd (Nat.lt_of_lt_of_le (x.lt q) e) (Nat.lt_irrefl _)
theorem HOk.kept (x:HOk P w H h)(k:∀b u,h.get? b=some u->h'.get? b=some u):HOk P w H h':=λa o e=>
 (x a o e).stay (λb u _ q=>k b u q) (λ_ q=>q) λ_ _ q=>q
theorem HOk.laid (x:HOk P w H h)(k:∀b u,h.get? b=some u->h'.get? b=some u)(hp:h.objs.size<=a)(new:ObjOk P w (upd H a o) h' a o):HOk P w (upd H a o) h':=λb u e=>by
 have hn:=x.fresh hp;by_cases hb:b=a
 ·subst hb;rw [Gb] at e;cases e;exact new
 ·rw [GB hb] at e;exact (x b u e).stay (λc v _ q=>k c v q) (λc q=>by rw [GB (GG q hn)];exact q) λc xs q=>by rw [GB (GG q hn)];exact q
end
def Rd (H:Hp)(a:Addr)(u:HO):Prop:=H a=some u\/∃o,H a=some (.frz o u)
theorem Rd.ok {P:Program}{w:World}{H:Hp}{h:Heap}{a:Addr}{u:HO}(r:Rd H a u)(x:HOk P w H h):ObjOk P w H h a u:=by
 rcases r with r | ⟨o,r⟩
 ·exact x a u r
 ·obtain ⟨_,q⟩:=x a _ r;exact q
def Mut:Option HO->Prop
 | some (.lst _)=>True
 | some (.dK _)=>True
 | some (.dT _)=>True
 | some (.set _ _)=>True
 | some (.ins _ _ _)=>True
 | some (.ext _)=>True
 | _=>False
section
variable {P:Program}{w:World}{H:Hp}{h h':Heap}{x e:Addr}{o':HO}
theorem HOk.write (ok:HOk P w H h)(mu:Mut (H x))(he:e=x\/H e=some (.own x))(k:∀b u,b≠e->h.get? b=some u->h'.get? b=some u)(heo:∃u,h'.get? e=some u)(new:ObjOk P w (upd H x o') h' x o'):HOk P w (upd H x o') h':=λb u q=>by
 have nown:∀c y,H c=some (.own y)->c≠x:=λc y r z=>by subst z;rw [r] at mu;exact mu
 have ntup:∀c xs,H c=some (.tup xs)->c≠x:=λc xs r z=>by subst z;rw [r] at mu;exact mu
 by_cases hb:b=x
 ·subst hb;rw [Gb] at q;cases q;exact new
 ·rw [GB hb] at q;by_cases hbe:b=e
  ·have q':H b=some (.own x):=by
    rcases he with z | z
    ·exact absurd (hbe.trans z) hb
    ·rw [hbe];exact z
   rw [q] at q';cases q';obtain ⟨v,hv⟩:=heo;exact ⟨v,by rw [hbe];exact hv⟩
  ·refine (ok b u q).stay (λc v hc r=>k c v ?_ r) (λc r=>by rw [GB (nown c b r)];exact r) λc xs r=>by rw [GB (ntup c xs r)];exact r
   rcases hc with rfl | hc
   ·exact hbe
   ·rintro rfl;rcases he with z | z
    ·exact nown c b hc z
    ·rw [hc] at z;cases z;exact hb rfl
end
structure Un (fs ex:List Addr)(H H':Hp)(h h':Heap):Prop where
 keep:∀b o,h.get? b=some o->H b=none->b ∉ fs->b ∉ ex->h'.get? b=some o
 slot:∀b o,h.get? b=some o->H b=none->b∈fs->b ∉ ex->∃sl,h'.get? b=some { o with slots:=sl }
 free:∀b o,h.get? b=some o->H b=none->b ∉ ex->H' b=none
 there:∀b o,h.get? b=some o->b ∉ ex->∃o',h'.get? b=some o'
 tups:∀b xs,H b=some (.tup xs)->H' b=some (.tup xs)
 frzs:∀b o u,H b=some (.frz o u)->H' b=some (.frz o u)
 tbls:∀b ps,H b=some (.tbl ps)->∃more,H' b=some (.tbl (ps++more))
section
variable {fs fs' ex ex':List Addr}{H H1 H2:Hp}{h h1 h2 h':Heap}{a x e:Addr}{o:HO}
theorem Un.any (u:Un fs ex H H1 h h1){b:Addr}{ob:Obj}(q:h.get? b=some ob)(n:H b=none)(hx:b ∉ ex):∃sl,h1.get? b=some { ob with slots:=sl }:=by
 by_cases hb:b∈fs
 ·exact u.slot b ob q n hb hx
 ·exact ⟨ob.slots,u.keep b ob q n hb hx⟩
theorem Un.kept (k:∀b u,h.get? b=some u->h'.get? b=some u):Un fs ex H H h h':=
 ⟨λb ob q _ _ _=>k b ob q,λb ob q _ _ _=>⟨ob.slots,k b ob q⟩,λ_ _ _ n _=>n,λb ob q _=>⟨ob,k b ob q⟩,λ_ _ q=>q,λ_ _ _ q=>q,λ_ ps q=>⟨#[],by rw [q];simp⟩⟩
theorem Un.refl:Un fs ex H H h h:=Un.kept λ_ _ q=>q
theorem Un.laid (k:∀b u,h.get? b=some u->h'.get? b=some u)(hp:h.objs.size<=a)(hn:H a=none):Un fs ex H (upd H a o) h h' where
 keep:=λb u q _ _ _=>k b u q
 slot:=λb u q _ _ _=>⟨u.slots,k b u q⟩
 free:=λb u q n _=>by rw [GB (Nat.ne_of_lt (Nat.lt_of_lt_of_le (Heap.lt_size q) hp))];exact n
 there:=λb u q _=>⟨u,k b u q⟩
 tups:=λb xs q=>by rw [GB (GG q hn)];exact q
 frzs:=λb u xs q=>by rw [GB (GG q hn)];exact q
 tbls:=λb ps q=>⟨#[],by rw [GB (GG q hn),q];simp⟩
theorem Un.write (mu:Mut (H x))(he:e=x\/H e=some (.own x))(k:∀b u,b≠e->h.get? b=some u->h'.get? b=some u)(heo:∃u,h'.get? e=some u):Un fs ex H (upd H x o) h h':=by
 have hx:∀b,H b=none->b≠x:=λb n z=>by subst z;rw [n] at mu;exact mu
 have hb:∀b,H b=none->b≠e:=λb n z=>by
  subst z;rcases he with r | r
  ·exact hx b n r
  ·rw [n] at r;cases r
 have hm:∀b u,H b=some u->¬ Mut (some u)->b≠x:=λb u q nm z=>by subst z;rw [q] at mu;exact nm mu
 refine ⟨λb u q n _ _=>k b u (hb b n) q,λb u q n _ _=>⟨u.slots,k b u (hb b n) q⟩,λb u q n _=>by rw [GB (hx b n)];exact n,λb u q _=>?_,
  λb xs q=>by rw [GB (hm b _ q λz=>z)];exact q,λb u xs q=>by rw [GB (hm b _ q λz=>z)];exact q,λb ps q=>⟨#[],by rw [GB (hm b _ q λz=>z),q];simp⟩⟩
 by_cases hbe:b=e
 ·subst hbe;exact heo
 ·exact ⟨u,k b u hbe q⟩
end
def trk (h:Heap)(H:Hp):List Addr:=(List.range h.objs.size).filter λa=>(H a).isSome
def Xj (h:Heap)(H:Hp):Heap:=W.hideAll h (trk h H)
theorem Xk (h:Heap)(H:Hp):(Xj h H).objs.size=h.objs.size:=W.hideAll_size _ _
theorem YH {h:Heap}{H:Hp}{b:Addr}{o:Obj}(e:h.get? b=some o)(n:H b=none):(Xj h H).get? b=some o:=
 W.hideAll_get _ e λhm=>by
  have q:(H b).isSome=true:=(List.mem_filter.mp hm).2;rw [n] at q;simp at q
theorem Zab {h:Heap}{H:Hp}{b:Addr}{o:Obj}(e:(Xj h H).get? b=some o):h.get? b=some o/\H b=none:=by
 have e':h.get? b=some o:=W.of_hideAll (trk h H) e;refine ⟨e',?_⟩;cases q:H b with
 | none=>rfl
 | some x=>
  have hm:b∈trk h H:=List.mem_filter.mpr ⟨List.mem_range.mpr (Heap.lt_size e'),by simp [q]⟩;have z:(Xj h H).get? b=none:=W.hideAll_none (trk h H) hm;rw [z] at e;cases e
end L2
namespace L2
open PySem PySem.Spec PyProof.Rows
structure Mod (K:W.Frag)(mg:Str->Option Value)(base:Heap):Prop where
 kin:K.In base
 glob:base.Ns mainGlobals mg
 blt:∃mb,base.Ns builtinsNs mb/\∀x:Str,x ≠ "__name__" -> mb x=bootBuiltins x
 nolimit:base.NoLimit
structure Cx where
 prog:Program
 w:World
 K:W.Frag
 mg:Str->Option Value
 base:Heap
 A:Around
 N:List Str
 s₀:Shared
 H₀:Hp
 env:Env
 outer:List Env
 stack:List Env
 ex:List Addr
 fn:Str->Bool
 calm:Bool
 pn:List (Addr×Obj)
 xe:Value->Shared->Prop
def frs (l:List Env):List Addr:=l.filterMap (·.frame)
abbrev Cx.fs (X:Cx):List Addr:=frs X.outer
def Vis (sc:Scope)(x:Str):Prop:=sc.names.lookup x=some .local\/sc.names.lookup x=some .cell\/sc.names.lookup x=some .free
def Loc (sc:Scope)(x:Str):Prop:=sc.names.lookup x=some .local\/sc.names.lookup x=some .cell
def ZeJ (env:Env)(h:Heap)(m:Str->Option Value)(x:Str)(u:Value):Prop:=
 (env.kindOf x=some .local/\m x=some u)\/((env.kindOf x=some .cell\/env.kindOf x=some .free)/\∃c,env.cells.lookup x=some c/\h.IsCell c (some u))
structure Cx.Ok (X:Cx):Prop where
 mod:Mod X.K X.mg X.base
 kind:X.env.scope.kind=.function
 glob:X.env.globals=mainGlobals
 blt:X.env.builtins=builtinsNs
 above:X.s₀.heap.objs.size<=X.env.locals
 inj:∀x y c,X.env.cells.lookup x=some c->X.env.cells.lookup y=some c->x=y
 has:∀x,(X.env.kindOf x=some .cell\/X.env.kindOf x=some .free)->∃c,X.env.cells.lookup x=some c
 cab:∀x c,X.fn x=true->X.env.cells.lookup x=some c->X.s₀.heap.objs.size<=c
 hd:X.calm=true->X.A.handled=none
 frames:X.A.frames=some X.stack
 stk:X.stack=X.outer\/(X.stack=X.env::X.outer/\X.env.frame=some X.env.locals)
 exf:∀b∈X.ex,b≠X.env.locals/\∀x c,X.env.cells.lookup x=some c->c≠b
 bs:∀b o,X.base.get? b=some o->X.s₀.heap.get? b=some o/\X.H₀ b=none
 bsz:X.base.objs.size<=X.s₀.heap.objs.size
 noex:∀b o,X.base.get? b=some o->b ∉ X.ex
 exfs:∀b∈X.ex,b ∉ X.fs
 funs:X.s₀.heap.FunFrames X.base X.outer
 frf:∀b∈X.fs,X.H₀ b=none
structure Inv (X:Cx)(qQ:List (Addr×Obj))(σ:List (Option V))(H:Hp)(s:Shared):Prop where
 ok:X.Ok
 os:s.os=X.s₀.os
 bare:AllBare s.gens
 base:Un X.fs X.ex X.H₀ H X.s₀.heap s.heap
 loc:∃m,s.heap.Ns X.env.locals m/\∀(i:Nat)(x:Str)(v:V),X.N[i]?=some x->σ[i]?=some (some v)->Vis X.env.scope x->∃u,RelV v u/\ZeJ X.env s.heap m x u
 cell:∀x c,X.env.cells.lookup x=some c->∃v,s.heap.IsCell c v
 free:H X.env.locals=none
 freeC:∀x c,X.env.cells.lookup x=some c->H c=none
 pin:∀p∈X.pn++qQ,s.heap.get? p.1=some p.2/\H p.1=none/\p.1≠X.env.locals/\p.1 ∉ X.fs/\∀v,p.2.data≠.cell v
 hok:HOk X.prog X.w H s.heap
 len:σ.length=X.N.length
section
variable {X:Cx}{qQ:List (Addr×Obj)}{σ:List (Option V)}{H H':Hp}{s:Shared}{h':Heap}
theorem Cx.Ok.nofr (ok:X.Ok){b:Addr}{o:Obj}(e:X.base.get? b=some o):b ∉ X.fs:=λhb=>by
 have:=(ok.funs.mem hb).1;rw [e] at this;cases this
theorem Inv.bs (I:Inv X qQ σ H s):∀b o,X.base.get? b=some o->s.heap.get? b=some o/\H b=none:=λb o e=>
 ⟨I.base.keep b o (I.ok.bs b o e).1 (I.ok.bs b o e).2 (I.ok.nofr e) (I.ok.noex b o e),I.base.free b o (I.ok.bs b o e).1 (I.ok.bs b o e).2 (I.ok.noex b o e)⟩
theorem Inv.bk (I:Inv X qQ σ H s):∀b o,X.base.get? b=some o->s.heap.get? b=some o:=λb o e=>(I.bs b o e).1
theorem Inv.mod (I:Inv X qQ σ H s):Mod X.K X.mg X.base:=I.ok.mod
theorem Inv.kIn (I:Inv X qQ σ H s):X.K.In s.heap:=I.ok.mod.kin.keeps I.bk
theorem Inv.lt (I:Inv X qQ σ H s):X.env.locals<s.heap.objs.size:=let ⟨_,hn,_⟩:=I.loc;hn.lt
theorem Inv.sz (I:Inv X qQ σ H s):X.s₀.heap.objs.size<=s.heap.objs.size:=Nat.le_trans I.ok.above (Nat.le_of_lt I.lt)
theorem Inv.nofs (I:Inv X qQ σ H s){a:Addr}(h:s.heap.objs.size<=a):a ∉ X.fs:=λhb=>by
 obtain ⟨_,o,ho,_⟩:=I.ok.funs.mem hb;exact absurd (Nat.lt_of_lt_of_le (Heap.lt_size ho) (Nat.le_trans I.sz h)) (Nat.lt_irrefl _)
theorem Inv.cne (I:Inv X qQ σ H s):∀x c,X.env.cells.lookup x=some c->c≠X.env.locals:=λx c e z=>by
 obtain ⟨v,o,ho,hd⟩:=I.cell x c e;obtain ⟨m,⟨o',es,ep,ho',hd',_⟩,_⟩:=I.loc;rw [z,ho'] at ho;cases ho;rw [hd'] at hd;cases hd
theorem Inv.funs (I:Inv X qQ σ H s):s.heap.FunFrames X.base X.outer:=by
 have all:∀(l:List Env),(∀b∈frs l,b∈X.fs)->X.s₀.heap.FunFrames X.base l->s.heap.FunFrames X.base l:=by
  intro l
  induction l with
  | nil=>intro _ _;trivial
  | cons env r ih=>
   intro hs hl;obtain ⟨hk,⟨L,o,hf,hn,ho,hd⟩,hr⟩:=hl;have hL:L∈X.fs:=hs L (by unfold frs;rw [List.filterMap_cons,hf];exact List.mem_cons_self);obtain ⟨sl,e⟩:=I.base.slot L o ho (I.ok.frf L hL) hL λz=>I.ok.exfs L z hL;exact ⟨hk,⟨L,_,hf,hn,e,hd⟩,ih (λb hb=>hs b (by unfold frs;rw [List.filterMap_cons,hf];exact List.mem_cons_of_mem _ hb)) hr⟩
 exact all X.outer (λ_ hb=>hb) I.ok.funs
theorem Inv.stack (I:Inv X qQ σ H s):s.heap.FunFrames X.base X.stack:=by
 rcases I.ok.stk with e | ⟨e,hf⟩
 ·rw [e];exact I.funs
 ·rw [e];obtain ⟨m,hn,_⟩:=I.loc;refine .cons (by rw [I.ok.kind];decide) hf hn ?_ I.funs;exact Heap.get?_none_of_le (Nat.le_trans I.ok.bsz I.ok.above)
theorem Inv.stkSub (I:Inv X qQ σ H s):∀b∈frs X.stack,b∈X.env.locals::X.fs:=λb hb=>by
 rcases I.ok.stk with e | ⟨e,hf⟩
 ·rw [e] at hb;exact List.mem_cons_of_mem _ hb
 ·rw [e] at hb;unfold frs at hb;rw [List.filterMap_cons,hf] at hb;exact hb
theorem Inv.stkFree (I:Inv X qQ σ H s):∀b∈frs X.stack,H b=none:=λb hb=>by
 rcases List.mem_cons.mp (I.stkSub b hb) with e | hb
 ·rw [e];exact I.free
 ·obtain ⟨_,o,ho,_⟩:=I.ok.funs.mem hb;exact I.base.free b o ho (I.ok.frf b hb) λz=>I.ok.exfs b z hb
theorem Inv.step {g':Array GenState}{t':Nat}{d':Drawn}{ch:List Addr}(I:Inv X qQ σ H s)(hch:∀b∈ch,(b∈X.ex\/X.s₀.heap.objs.size<=b)/\b≠X.env.locals/\(∀x c,X.env.cells.lookup x=some c->c≠b)/\∀p∈X.pn++qQ,p.1≠b)(keep:∀b o,b≠X.env.locals->b ∉ X.fs->b ∉ ch->s.heap.get? b=some o->H b=none->h'.get? b=some o)(slot:∀b o,b≠X.env.locals->b∈X.fs->b ∉ ch->s.heap.get? b=some o->H b=none->∃sl,h'.get? b=some { o with slots:=sl })(free:∀b o,b ∉ ch->s.heap.get? b=some o->H b=none->H' b=none)(there:∀b o,b ∉ ch->s.heap.get? b=some o->∃o',h'.get? b=some o')(tups:∀b xs,H b=some (.tup xs)->H' b=some (.tup xs))(frzs:∀b o u,H b=some (.frz o u)->H' b=some (.frz o u))(tbls:∀b ps,H b=some (.tbl ps)->∃more,H' b=some (.tbl (ps++more)))(ns:∀m,s.heap.Ns X.env.locals m->h'.Ns X.env.locals m)(hok:HOk X.prog X.w H' h')(hg:AllBare g') :
  Inv X qQ σ H' { s with heap:=h',gens:=g',drawn:=d',toks:=t' }:=by
 have neL:∀b o,X.s₀.heap.get? b=some o->b≠X.env.locals:=λb o e=>Nat.ne_of_lt (Nat.lt_of_lt_of_le (Heap.lt_size e) I.ok.above);have neC:∀b o,X.s₀.heap.get? b=some o->b ∉ X.ex->b ∉ ch:=λb o e hx hb=>by
  rcases (hch b hb).1 with z | z
  ·exact hx z
  ·exact absurd (Nat.lt_of_lt_of_le (Heap.lt_size e) z) (Nat.lt_irrefl _)
 have cellK:∀x c,X.env.cells.lookup x=some c->∀v,s.heap.IsCell c v->h'.IsCell c v:=λx c e v ⟨o,ho,hd⟩=>by
  have nch:c ∉ ch:=λz=>(hch c z).2.2.1 x c e rfl;by_cases hc:c∈X.fs
  ·obtain ⟨sl,q⟩:=slot c o (I.cne x c e) hc nch ho (I.freeC x c e);exact ⟨_,q,hd⟩
  ·exact ⟨o,keep c o (I.cne x c e) hc nch ho (I.freeC x c e),hd⟩
 refine ⟨I.ok,I.os,hg,⟨λb o e n hb hx=>?_,λb o e n hb hx=>?_,λb o e n hx=>?_,λb o e hx=>?_,λb xs e=>tups b xs (I.base.tups b xs e),λb o xs e=>frzs b o xs (I.base.frzs b o xs e),λb ps e=>?_⟩,?_,λx c e=>?_,?_,λx c e=>?_,λp hp=>?_,hok,I.len⟩
 ·exact keep b o (neL b o e) hb (neC b o e hx) (I.base.keep b o e n hb hx) (I.base.free b o e n hx)
 ·obtain ⟨sl,e1⟩:=I.base.slot b o e n hb hx;obtain ⟨sl',e2⟩:=slot b _ (neL b o e) hb (neC b o e hx) e1 (I.base.free b o e n hx);exact ⟨sl',e2⟩
 ·obtain ⟨o',e1⟩:=I.base.there b o e hx;exact free b o' (neC b o e hx) e1 (I.base.free b o e n hx)
 ·obtain ⟨o',e1⟩:=I.base.there b o e hx;exact there b o' (neC b o e hx) e1
 ·obtain ⟨m1,e1⟩:=I.base.tbls b ps e;obtain ⟨m2,e2⟩:=tbls b _ e1;exact ⟨m1++m2,by rw [e2,Array.append_assoc]⟩
 ·obtain ⟨m,hn,hl⟩:=I.loc;refine ⟨m,ns m hn,λi x v e1 e2 e3=>?_⟩;obtain ⟨u,r,l⟩:=hl i x v e1 e2 e3;refine ⟨u,r,?_⟩;rcases l with l | ⟨k,c,e,z⟩
  ·exact .inl l
  ·exact .inr ⟨k,c,e,cellK x c e _ z⟩
 ·obtain ⟨v,z⟩:=I.cell x c e;exact ⟨v,cellK x c e v z⟩
 ·obtain ⟨m,⟨o,_,_,ho,_⟩,_⟩:=I.loc;exact free _ o (λz=>(hch _ z).2.1 rfl) ho I.free
 ·obtain ⟨v,o,ho,hd⟩:=I.cell x c e;exact free c o (λz=>(hch c z).2.2.1 x c e rfl) ho (I.freeC x c e)
 ·obtain ⟨e,n,ne,nf,d⟩:=I.pin p hp;have nch:p.1 ∉ ch:=λz=>(hch p.1 z).2.2.2 p hp rfl;exact ⟨keep p.1 p.2 ne nf nch e n,free p.1 p.2 nch e n,ne,nf,d⟩
theorem Inv.un {t':Nat}(I:Inv X qQ σ H s)(u:Un X.fs [] H H' s.heap h')(hok:HOk X.prog X.w H' h'):Inv X qQ σ H' { s with heap:=h',toks:=t' }:=by
 obtain ⟨m,⟨o,es,ep,ho,r⟩,_⟩:=id I.loc;obtain ⟨sl,hL⟩:=u.any ho I.free (by simp);exact I.step (g':=s.gens) (d':=s.drawn) (ch:=[]) (λ_ z=>nomatch z) (λb o _ hb _ e n=>u.keep b o e n hb (by simp)) (λb o _ hb _ e n=>u.slot b o e n hb (by simp)) (λb o _ e n=>u.free b o e n (by simp)) (λb o _ e=>u.there b o e (by simp)) u.tups u.frzs u.tbls (λm' hm=>by
  obtain ⟨o',es',ep',ho',r'⟩:=hm;rw [ho] at ho';cases ho';exact ⟨_,es',ep',hL,r'⟩) hok I.bare
theorem Inv.call {g':Array GenState}{t':Nat}{d':Drawn}{ch:List Addr}(I:Inv X qQ σ H s)(u:Un (frs X.stack) ch H H' s.heap h')(hok:HOk X.prog X.w H' h')(hg:AllBare g')(hch:∀b∈ch,(b∈X.ex\/X.s₀.heap.objs.size<=b)/\b≠X.env.locals/\(∀x c,X.env.cells.lookup x=some c->c≠b)/\∀p∈X.pn++qQ,p.1≠b) :
  Inv X qQ σ H' { s with heap:=h',gens:=g',drawn:=d',toks:=t' }:=by
 obtain ⟨m,⟨o,es,ep,ho,r⟩,_⟩:=id I.loc;obtain ⟨sl,hL⟩:=u.any ho I.free λz=>(hch _ z).2.1 rfl;exact I.step (ch:=ch) hch (λb o hL hb hc e n=>u.keep b o e n (λz=>(List.mem_cons.mp (I.stkSub b z)).elim hL hb) hc) (λb o _ _ hc e n=>u.any e n hc) (λb o hc e n=>u.free b o e n hc) (λb o hc e=>u.there b o e hc) u.tups u.frzs u.tbls (λm' hm=>by
  obtain ⟨o',es',ep',ho',r'⟩:=hm;rw [ho] at ho';cases ho';exact ⟨_,es',ep',hL,r'⟩) hok hg
theorem Inv.turned {t':Nat}{it:Addr}(I:Inv X qQ σ H s)(k:∀b o,b≠it->s.heap.get? b=some o->h'.get? b=some o)(hn:H it=none)(hL:it≠X.env.locals)(h1:it∈X.ex\/X.s₀.heap.objs.size<=it)(h2:∀x c,X.env.cells.lookup x=some c->c≠it)(h3:∀p∈X.pn++qQ,p.1≠it):Inv X qQ σ H { s with heap:=h',toks:=t' }:=by
 have nit:∀b u,H b=some u->b≠it:=λb u e z=>by rw [z,hn] at e;cases e
 refine I.step (g':=s.gens) (d':=s.drawn) (ch:=[it]) (λb hb=>?_) (λb o _ _ hc e _=>k b o (λz=>hc (by simp [z])) e) (λb o _ _ hc e _=>⟨o.slots,k b o (λz=>hc (by simp [z])) e⟩) (λ_ _ _ _ n=>n)
  (λb o hc e=>⟨o,k b o (λz=>hc (by simp [z])) e⟩) (λ_ _ e=>e) (λ_ _ _ e=>e) (λb ps e=>⟨#[],by rw [e];simp⟩) (λm hm=>?_) (λb u e=>?_) I.bare
 ·have e:b=it:=by simpa using hb
  subst e;exact ⟨h1,hL,h2,h3⟩
 ·obtain ⟨o,es,ep,ho,r⟩:=hm;exact ⟨o,es,ep,k _ o (Ne.symm hL) ho,r⟩
 ·refine (I.hok b u e).stay (λc v hc q=>k c v ?_ q) (λ_ q=>q) λ_ _ q=>q;rcases hc with z | z
  ·rw [z];exact nit b u e
  ·exact nit c _ z
theorem Inv.tok (I:Inv X qQ σ H s)(t:Nat):Inv X qQ σ H { s with toks:=t }:=I.un (h':=s.heap) (t':=t) Un.refl I.hok
theorem Inv.kept {t':Nat}(I:Inv X qQ σ H s)(k:∀b u,s.heap.get? b=some u->h'.get? b=some u):Inv X qQ σ H { s with heap:=h',toks:=t' }:=I.un (Un.kept k) (I.hok.kept k)
theorem Inv.laid {a:Addr}{o:HO}{t':Nat}(I:Inv X qQ σ H s)(k:∀b u,s.heap.get? b=some u->h'.get? b=some u)(hp:s.heap.objs.size<=a)(new:ObjOk X.prog X.w (upd H a o) h' a o) :
  Inv X qQ σ (upd H a o) { s with heap:=h',toks:=t' }:=I.un (Un.laid k hp (I.hok.fresh hp)) (I.hok.laid k hp new)
theorem Inv.write {x e:Addr}{o:HO}{t':Nat}(I:Inv X qQ σ H s)(mu:Mut (H x))(he:e=x\/H e=some (.own x))(k:∀b u,b≠e->s.heap.get? b=some u->h'.get? b=some u)(heo:∃u,h'.get? e=some u)(new:ObjOk X.prog X.w (upd H x o) h' x o):Inv X qQ σ (upd H x o) { s with heap:=h',toks:=t' }:=I.un (Un.write mu he k heo) (I.hok.write mu he k heo new)
theorem Inv.weak {σ':List (Option V)}(I:Inv X qQ σ H s)(hl:σ'.length=σ.length)(w:∀(i:Nat) v,σ'[i]?=some (some v)->σ[i]?=some (some v)):Inv X qQ σ' H s:=
 ⟨I.ok,I.os,I.bare,I.base,let ⟨m,hn,hl'⟩:=I.loc;⟨m,hn,λi x v e1 e2 e3=>hl' i x v e1 (w i v e2) e3⟩,I.cell,I.free,I.freeC,I.pin,I.hok,hl.trans I.len⟩
theorem Inv.pins_of {pins':List (Addr×Obj)}(I:Inv X qQ σ H s)(h:∀p∈pins',s.heap.get? p.1=some p.2/\H p.1=none/\p.1≠X.env.locals/\p.1 ∉ X.fs/\∀v,p.2.data≠.cell v):Inv X pins' σ H s:=
 ⟨I.ok,I.os,I.bare,I.base,I.loc,I.cell,I.free,I.freeC,λp hp=>(List.mem_append.mp hp).elim (λz=>I.pin p (List.mem_append_left _ z)) (h p),I.hok,I.len⟩
theorem UU {N:List Str}(hN:N.Nodup){i j:Nat}{x:Str}(a:N[i]?=some x)(b:N[j]?=some x):i=j:=by
 obtain ⟨h1,e1⟩:=List.getElem?_eq_some_iff.mp a;obtain ⟨h2,e2⟩:=List.getElem?_eq_some_iff.mp b;exact (List.getElem_inj hN).mp (e1.trans e2.symm)
theorem Ve {M:Model}{A:Around}{E:Value->Shared->Prop}{i:Nat}{x:Str}{v:V}{u:Value}{Q:Unit->Shared->Prop}(I:Inv X qQ σ H s)(hN:X.N.Nodup)(hi:X.N[i]?=some x)(hx:Loc X.env.scope x)(r:RelV v u)(h:∀s',Inv X qQ (σ.set i (some v)) H s'->(∃a,Heap.SameBut a s.heap s'.heap/\(a=X.env.locals\/X.env.cells.lookup x=some a))->Q () s')(hf:X.fn x=true\/X.env.scope.names.lookup x=some .local:=by first | exact .inl rfl | exact .inr rfl | assumption):wpAny M A (storeName X.env x u) Q E s:=by
 obtain ⟨m,hn,hl⟩:=id I.loc;have hcls:(X.env.scope.kind == .class || (X.env.scope.kind == .module && X.env.locals != X.env.globals))=false:=by rw [I.ok.kind];rfl
 have hiσ:i<σ.length:=by rw [I.len];exact (List.getElem?_eq_some_iff.mp hi).1
 have cne:=I.cne;have tracked:∀{a:Addr}{h':Heap},(∃o,s.heap.get? a=some o/\H a=none)->Heap.SameBut a s.heap h'->HOk X.prog X.w H h':=λ{a h'} ha hs b ob e=>by
  obtain ⟨_,_,hfree⟩:=ha;refine (I.hok b ob e).stay (λc w' hc q=>(hs.2 c ?_).trans q) (λ_ q=>q) λ_ _ q=>q;rintro rfl;rcases hc with rfl | hc
  ·rw [hfree] at e;cases e
  ·rw [hfree] at hc;cases hc
 rcases hx with hk | hk
 ·refine wpAny_storeName_local hk hn (λh' hn' hs=>?_) hcls;obtain ⟨oL,_,_,hoL,_⟩:=id hn;refine h _ ⟨I.ok,I.os,I.bare,⟨λb o e n hb hx=>?_,λb o e n hb hx=>?_,I.base.free,λb o e hx=>?_,I.base.tups,I.base.frzs,I.base.tbls⟩,⟨_,hn',λj y v' e1 e2 e3=>?_⟩,λy c e=>?_,I.free,I.freeC,λp hp=>?_,tracked ⟨oL,hoL,I.free⟩ hs,by simpa using I.len⟩ ⟨_,hs,.inl rfl⟩
  ·exact (hs.2 b (Nat.ne_of_lt (Nat.lt_of_lt_of_le (Heap.lt_size e) I.ok.above))).trans (I.base.keep b o e n hb hx)
  ·obtain ⟨sl,e1⟩:=I.base.slot b o e n hb hx;exact ⟨sl,(hs.2 b (Nat.ne_of_lt (Nat.lt_of_lt_of_le (Heap.lt_size e) I.ok.above))).trans e1⟩
  ·obtain ⟨o',e1⟩:=I.base.there b o e hx;exact ⟨o',(hs.2 b (Nat.ne_of_lt (Nat.lt_of_lt_of_le (Heap.lt_size e) I.ok.above))).trans e1⟩
  ·by_cases hj:j=i
   ·subst hj;rw [hi] at e1;cases e1;rw [List.getElem?_set_self hiσ] at e2;cases e2;exact ⟨u,r,.inl ⟨hk,by simp⟩⟩
   ·rw [List.getElem?_set_ne (Ne.symm hj)] at e2;obtain ⟨u',r',q⟩:=hl j y v' e1 e2 e3;refine ⟨u',r',?_⟩;rcases q with ⟨k,e⟩ | ⟨k,c,e,z⟩
    ·refine .inl ⟨k,?_⟩;have:y≠x:=λe=>hj (UU hN e1 (e▸hi));simp [this,e]
    ·exact .inr ⟨k,c,e,z.sameBut hs (cne y c e)⟩
  ·obtain ⟨w',z⟩:=I.cell y c e;exact ⟨w',z.sameBut hs (cne y c e)⟩
  ·obtain ⟨e,n,ne,nf,d⟩:=I.pin p hp;exact ⟨(hs.2 p.1 ne).trans e,n,ne,nf,d⟩
 ·have hfn:X.fn x=true:=by
   rcases hf with z | z
   ·exact z
   ·rw [z] at hk;cases hk
  obtain ⟨c,hc⟩:=I.ok.has x (.inl hk);obtain ⟨w',z⟩:=I.cell x c hc;refine wpAny_storeName_cell I.ok.kind hk hc z (λh' hc' hs=>?_);obtain ⟨oc,hoc,hocd⟩:=id z;refine h { s with heap:=h' } ⟨I.ok,I.os,I.bare,⟨λb o e n hb hx=>?_,λb o e n hb hx=>?_,I.base.free,λb o e hx=>?_,I.base.tups,I.base.frzs,I.base.tbls⟩,⟨m,hn.sameBut hs (Ne.symm (cne x c hc)),λj y v' e1 e2 e3=>?_⟩,λy c' e=>?_,I.free,I.freeC,λp hp=>?_,tracked ⟨oc,hoc,I.freeC x c hc⟩ hs,by simpa using I.len⟩ ⟨c,hs,.inr hc⟩
  ·exact (hs.2 b (Nat.ne_of_lt (Nat.lt_of_lt_of_le (Heap.lt_size e) (I.ok.cab x c hfn hc)))).trans (I.base.keep b o e n hb hx)
  ·obtain ⟨sl,e1⟩:=I.base.slot b o e n hb hx;exact ⟨sl,(hs.2 b (Nat.ne_of_lt (Nat.lt_of_lt_of_le (Heap.lt_size e) (I.ok.cab x c hfn hc)))).trans e1⟩
  ·obtain ⟨o',e1⟩:=I.base.there b o e hx;exact ⟨o',(hs.2 b (Nat.ne_of_lt (Nat.lt_of_lt_of_le (Heap.lt_size e) (I.ok.cab x c hfn hc)))).trans e1⟩
  ·by_cases hj:j=i
   ·subst hj;rw [hi] at e1;cases e1;rw [List.getElem?_set_self hiσ] at e2;cases e2;exact ⟨u,r,.inr ⟨.inl hk,c,hc,hc'⟩⟩
   ·rw [List.getElem?_set_ne (Ne.symm hj)] at e2;obtain ⟨u',r',q⟩:=hl j y v' e1 e2 e3;refine ⟨u',r',?_⟩;rcases q with q | ⟨k,c',e,z'⟩
    ·exact .inl q
    ·refine .inr ⟨k,c',e,z'.sameBut hs ?_⟩;rintro rfl;exact hj (UU hN e1 (I.ok.inj _ _ _ e hc▸hi))
  ·by_cases hcc:c'=c
   ·subst hcc;exact ⟨_,hc'⟩
   ·obtain ⟨w2,z2⟩:=I.cell y c' e;exact ⟨w2,z2.sameBut hs hcc⟩
  ·obtain ⟨e,n,ne,nf,d⟩:=I.pin p hp;refine ⟨(hs.2 p.1 ?_).trans e,n,ne,nf,d⟩;intro q;rw [q,hoc] at e;have q':oc=p.2:=Option.some.inj e;exact d w' (by rw [<-q'];exact hocd)
theorem JX {M:Model}{A:Around}{E:Value->Shared->Prop}{i:Nat}{x:Str}{v:V}{u:Value}{Q:Unit->Shared->Prop}(I:Inv X qQ σ H s)(hN:X.N.Nodup)(hi:X.N[i]?=some x)(hx:Loc X.env.scope x)(r:RelV v u)(h:∀s',Inv X qQ (σ.set i (some v)) H s'->Q () s')(hf:X.fn x=true\/X.env.scope.names.lookup x=some .local:=by first | exact .inl rfl | exact .inr rfl | assumption):wpAny M A (storeName X.env x u) Q E s:=
 Ve I hN hi hx r (λs' I' _=>h s' I') hf
theorem Inv.call' {s':Shared}{ch:List Addr}(I:Inv X qQ σ H s)(ho:s'.os=s.os)(u:Un (frs X.stack) ch H H' s.heap s'.heap)(hok:HOk X.prog X.w H' s'.heap)(hg:AllBare s'.gens)(hch:∀b∈ch,(b∈X.ex\/X.s₀.heap.objs.size<=b)/\b≠X.env.locals/\(∀x c,X.env.cells.lookup x=some c->c≠b)/\∀p∈X.pn++qQ,p.1≠b):Inv X qQ σ H' s':=by
 obtain ⟨h',g',d',t',o'⟩:=s';have e:o'=s.os:=ho;subst e;exact I.call (g':=g') (t':=t') (d':=d') u hok hg hch
end
abbrev XK:=Value->Option Addr->Hp->Prop
abbrev St:=List (Option V)
abbrev VK:=V->Hp->Prop
abbrev TE:=St->Hp->VK->Prop
abbrev TT:=St->Hp->(Bool->Hp->Prop)->Prop
abbrev TA:=St->Hp->(List V->Hp->Prop)->Prop
structure Vf where
 nx:St->Hp->Prop
 rt:VK
 bk:St->Hp->Prop:=λ_ _=>False
 ct:St->Hp->Prop:=λ_ _=>False
abbrev TS:=Vf->St->Hp->Prop
def EP (X:Cx)(qQ:List (Addr×Obj))(σ:St)(Q:VK)(u:Value)(s':Shared):Prop:=∃v H',Inv X qQ σ H' s'/\RelV v u/\Q v H'
def TP (X:Cx)(qQ:List (Addr×Obj))(σ:St)(Q:Bool->Hp->Prop)(b:Bool)(s':Shared):Prop:=∃H',Inv X qQ σ H' s'/\Q b H'
def AP (X:Cx)(qQ:List (Addr×Obj))(σ:St)(Q:List V->Hp->Prop)(us:List Value)(s':Shared):Prop:=∃vs H',Inv X qQ σ H' s'/\Vals vs us/\Q vs H'
def SP (X:Cx)(qQ:List (Addr×Obj))(D:Vf)(f:Flow)(s':Shared):Prop:=
 match f with
 | .next=>∃ σ' H',Inv X qQ σ' H' s'/\D.nx σ' H'
 | .brk=>∃ σ' H',Inv X qQ σ' H' s'/\D.bk σ' H'
 | .cont=>∃ σ' H',Inv X qQ σ' H' s'/\D.ct σ' H'
 | .ret u=>∃v σ' H',Inv X qQ σ' H' s'/\RelV v u/\D.rt v H'
def PE (X:Cx)(e:Expr)(t:TE):Prop:=
 ∀(qQ:List (Addr×Obj))(s:Shared)(σ:St)(H:Hp)(Q:VK),Inv X qQ σ H s->t σ H Q->wpAny (model X.prog X.w) X.A (eval e X.env) (EP X qQ σ Q) X.xe s
def PT (X:Cx)(e:Expr)(t:TT):Prop:=
 ∀(qQ:List (Addr×Obj))(s:Shared)(σ:St)(H:Hp)(Q:Bool->Hp->Prop),Inv X qQ σ H s->t σ H Q->wpAny (model X.prog X.w) X.A (isTrue e X.env (eval e X.env)) (TP X qQ σ Q) X.xe s
def PW (X:Cx)(e:Expr)(t:TT):Prop:=
 ∀(whole:Sem Value)(qQ:List (Addr×Obj))(s:Shared)(σ:St)(H:Hp)(Q:Bool->Hp->Prop),Inv X qQ σ H s->t σ H Q->wpAny (model X.prog X.w) X.A (isTrue e X.env whole) (TP X qQ σ Q) X.xe s
theorem PW.pt {X:Cx}{e:Expr}{t:TT}(h:PW X e t):PT X e t:=h _
def PA (X:Cx)(es:List Expr)(t:TA):Prop:=
 ∀(pos:Pos)(qQ:List (Addr×Obj))(s:Shared)(σ:St)(H:Hp)(Q:List V->Hp->Prop),Inv X qQ σ H s->t σ H Q->wpAny (model X.prog X.w) X.A (spliced (backTo pos (starEach es X.env))) (AP X qQ σ Q) X.xe s
def PS (X:Cx)(st:Stmt)(t:TS):Prop:=
 ∀(qQ:List (Addr×Obj))(s:Shared)(σ:St)(H:Hp)(D:Vf),Inv X qQ σ H s->t D σ H->wpAny (model X.prog X.w) X.A (exec st X.env) (SP X qQ D) X.xe s
def PSs (X:Cx)(st:List Stmt)(t:TS):Prop:=
 ∀(qQ:List (Addr×Obj))(s:Shared)(σ:St)(H:Hp)(D:Vf),Inv X qQ σ H s->t D σ H->wpAny (model X.prog X.w) X.A (execs st X.env) (SP X qQ D) X.xe s
theorem thn {α:Type}{t:Sem α}{Q Q':α->Shared->Prop}{M:Model}{A:Around}{E:Value->Shared->Prop}{s:Shared}(h:wpAny M A t Q E s)(hQ:∀a s,Q a s->Q' a s):wpAny M A t Q' E s:=wpAny_mono h hQ λ_ _ x=>x
end L2
namespace L2
open PySem PySem.Spec PyProof.Rows
section
variable {X:Cx}
theorem bin {a b:Expr}{ta tb:TE}(ha:PE X a ta)(hb:PE X b tb){qQ:List (Addr×Obj)}{s:Shared}{σ:St}{H:Hp}{R:V->V->Hp->Prop}(I:Inv X qQ σ H s)(h:ta σ H λx H1=>tb σ H1 λy H2=>R x y H2){α:Type}{Q:α->Shared->Prop}{f:Value->Value->Sem α}(hf:∀v u s2 x y H2,Inv X qQ σ H2 s2->RelV x v->RelV y u->R x y H2->wpAny (model X.prog X.w) X.A (f v u) Q X.xe s2) :
  wpAny (model X.prog X.w) X.A (eval a X.env) (λv s₁=>wpAny (model X.prog X.w) X.A (eval b X.env) (λu s₂=>wpAny (model X.prog X.w) X.A (f v u) Q X.xe s₂) X.xe s₁) X.xe s:=by
 refine thn (ha qQ s σ H _ I h) λv s1 ⟨x,H1,I1,r1,q1⟩=>?_;refine thn (hb qQ s1 σ H1 _ I1 q1) λu s2 ⟨y,H2,I2,r2,q2⟩=>?_;exact hf v u s2 x y H2 I2 r1 r2 q2
def OT (i:Nat):TE:=λσ H Q=>∃v,σ[i]?=some (some v)/\Q v H
def tC (v:V):TE:=λ_ H Q=>Q v H
theorem Zb2 {i:Nat}{x:Str}{pos:Pos}(hN:X.N[i]?=some x)(hv:Vis X.env.scope x)(hd:(x == ("__debug__" : Str))=false:=by decide)(hcd:(x == ("__classdict__" : Str))=false:=by decide):PE X (.Name x pos) (OT i):=by
 intro qQ s σ H Q I h;obtain ⟨v,e,h⟩:=h;obtain ⟨m,hn,hl⟩:=I.loc;obtain ⟨u,r,l⟩:=hl i x v hN e hv;have fin:EP X qQ σ Q u s:=⟨v,H,I,r,h⟩;rcases l with ⟨hk,hm⟩ | ⟨hk,c,hc,qU⟩
 ·exact wpAny_Name (wpAny_loadName_local I.ok.kind hk hn hm fin) hd
 ·rcases hk with hk | hk
  ·exact wpAny_Name (wpAny_loadName_cell I.ok.kind hk hc qU fin) hd
  ·exact wpAny_Name (wpAny_loadName_free I.ok.kind hk hc qU fin hcd) hd
theorem Gc {i j pos}:PE X (.Constant (.int i) j pos) (tC (.int i)):=λ_ _ _ H _ I h=>wpAny_Constant_int ⟨.int i,H,I.tok _,⟨_,rfl⟩,h⟩
theorem OZ {b j pos}:PE X (.Constant (.bool b) j pos) (tC (.bl b)):=λ_ _ _ H _ I h=>Constant_bool ⟨.bl b,H,I,rfl,h⟩
theorem Jz {j pos}:PE X (.Constant .none j pos) (tC .non):=λ_ _ _ H _ I h=>Constant_none ⟨.non,H,I,rfl,h⟩
theorem Gg {x j pos}:PE X (.Constant (.str x) j pos) (tC (.str x)):=λ_ _ _ H _ I h=>Calls.Constant_str ⟨.str x,H,I.tok _,⟨_,rfl⟩,h⟩
def Gl (X:Cx)(x:Str):Prop:=X.env.kindOf x=some .globalImplicit
theorem Oo {E:Value->Shared->Prop}{qQ:List (Addr×Obj)}{s:Shared}{σ:St}{H:Hp}{x:Str}{u:Value}{pos:Pos}{Q:Value->Shared->Prop}(I:Inv X qQ σ H s)(hg:Gl X x)(hm:X.mg x=some u)(h:Q u s)(hd:(x == ("__debug__" : Str))=false:=by decide):wpAny (model X.prog X.w) X.A (eval (.Name x pos) X.env) Q E s:=
 Calls.Name_function_global I.ok.kind hg (Calls.loadGlobal_global (by rw [I.ok.glob];exact I.mod.glob.keeps I.bk) hm h) hd
theorem UE {E:Value->Shared->Prop}{qQ:List (Addr×Obj)}{s:Shared}{σ:St}{H:Hp}{x:Str}{u:Value}{pos:Pos}{Q:Value->Shared->Prop}(I:Inv X qQ σ H s)(hg:Gl X x)(hm:X.mg x=none)(hv:bootBuiltins x=some u)(h:Q u s)(hn:x ≠ "__name__" := by decide)(hd:(x == ("__debug__" : Str))=false:=by decide):wpAny (model X.prog X.w) X.A (eval (.Name x pos) X.env) Q E s:=by
 obtain ⟨mb,h1,h2⟩:=I.mod.blt;exact Calls.Name_function_global I.ok.kind hg (Calls.loadGlobal_builtin (by rw [I.ok.glob];exact I.mod.glob.keeps I.bk) hm (by rw [I.ok.blt];exact h1.keeps I.bk) ((h2 x hn).trans hv) h) hd
theorem Uf {x:Str}{v:V}{u:Value}{pos:Pos}(hg:Gl X x)(hm:X.mg x=some u)(r:RelV v u)(hd:(x == ("__debug__" : Str))=false:=by decide):PE X (.Name x pos) (tC v):=
 λ_ _ _ H _ I h=>Oo I hg hm ⟨v,H,I,r,h⟩ hd
theorem Zac {x:Str}{v:V}{u:Value}{pos:Pos}(hg:Gl X x)(hm:X.mg x=none)(hv:bootBuiltins x=some u)(r:RelV v u)(hn:x ≠ "__name__" := by decide)(hd:(x == ("__debug__" : Str))=false:=by decide):PE X (.Name x pos) (tC v):=
 λ_ _ _ H _ I h=>UE I hg hm hv ⟨v,H,I,r,h⟩ hn hd
variable {a b:Expr}{ta tb:TE}{pos:Pos}
def tB (t:TE):TT:=λσ H Q=>t σ H λx H1=>∃c,x=.bl c/\Q c H1
theorem JI {e:Expr}{t:TE}(h:PE X e t)(he:∀whole,isTrue e X.env whole=(do let v <- whole;standAt e.pos;holding [v] (truthy v)):=by intro _;rfl):PT X e (tB t):=by
 intro qQ s σ H Q I hw;refine isTrue_plain (thn (h qQ s σ H _ I hw) λv s1 ⟨x,H1,I1,r1,q1⟩=>?_) (he _);obtain ⟨d,rfl,q⟩:=q1;cases r1;exact wpAny_truthy_bool ⟨H1,I1,q⟩
variable {tA tB':TT}{rest:List Expr}
def Zep (t u:TT):TT:=λσ H Q=>t σ H λc H1=>if c=true then u σ H1 Q else Q false H1
def tOr (t u:TT):TT:=λσ H Q=>t σ H λc H1=>if c=true then Q true H1 else u σ H1 Q
def Zeq (t:TT):TT:=λσ H Q=>t σ H λc H1=>Q (!c) H1
theorem JY (ha:PT X a tA):PW X (.BoolOp .And [a] pos) tA:=by
 intro wh qQ s σ H Q I h;refine isTrue_and (thn (ha qQ s σ H Q I h) λc s1 e=>?_);cases c with
 | true=>exact isTrue_and_nil e
 | false=>exact e
theorem JO (ha:PT X a tA):PW X (.BoolOp .Or [a] pos) tA:=by
 intro wh qQ s σ H Q I h;refine isTrue_or (thn (ha qQ s σ H Q I h) λc s1 e=>?_);cases c with
 | false=>exact isTrue_or_nil e
 | true=>exact e
theorem Oy (ha:PT X a tA)(hb:PW X (.BoolOp .And (b::rest) pos) tB'):PW X (.BoolOp .And (a::b::rest) pos) (Zep tA tB'):=by
 intro wh qQ s σ H Q I h;refine isTrue_and (thn (ha qQ s σ H _ I h) λc s1 ⟨H1,I1,q1⟩=>?_);cases c with
 | true=>exact hb wh qQ s1 σ H1 Q I1 q1
 | false=>exact ⟨H1,I1,q1⟩
theorem JS (ha:PT X a tA)(hb:PW X (.BoolOp .Or (b::rest) pos) tB'):PW X (.BoolOp .Or (a::b::rest) pos) (tOr tA tB'):=by
 intro wh qQ s σ H Q I h;refine isTrue_or (thn (ha qQ s σ H _ I h) λc s1 ⟨H1,I1,q1⟩=>?_);cases c with
 | true=>exact ⟨H1,I1,q1⟩
 | false=>exact hb wh qQ s1 σ H1 Q I1 q1
theorem J4 (ha:PT X a tA):PT X (.UnaryOp .Not a pos) (Zeq tA):=by
 intro qQ s σ H Q I h;exact isTrue_not (ha qQ s σ H (λc H1=>Q (!c) H1) I h)
def ZdH (ta tb:TE):TE:=λσ H Q=>ta σ H λx H1=>∃c,x=.bl c/\if c=true then tb σ H1 Q else Q (.bl false) H1
def ZeK (ta tb:TE):TE:=λσ H Q=>ta σ H λx H1=>∃c,x=.bl c/\if c=true then Q (.bl true) H1 else tb σ H1 Q
def ZdI (ta:TE):TE:=λσ H Q=>ta σ H λx H1=>∃c,x=.bl c/\Q (.bl (!c)) H1
theorem UF {op}{t:TE}(h:PE X a t):PE X (.BoolOp op [a] pos) t:=λqQ s σ H Q I hw=>BoolOp_one (h qQ s σ H Q I hw)
theorem Ug (ha:PE X a ta)(hb:PE X (.BoolOp .And (b::rest) pos) tb):PE X (.BoolOp .And (a::b::rest) pos) (ZdH ta tb):=by
 intro qQ s σ H Q I h;refine BoolOp_and (thn (ha qQ s σ H _ I h) λv s1 ⟨x,H1,I1,r1,q1⟩=>?_);obtain ⟨c,rfl,q1⟩:=q1;cases r1;refine wpAny_truthy_bool ?_;cases c with
 | true=>exact hb qQ s1 σ H1 Q I1 q1
 | false=>exact ⟨.bl false,H1,I1,rfl,q1⟩
theorem Zb3 (ha:PE X a ta)(hb:PE X (.BoolOp .Or (b::rest) pos) tb):PE X (.BoolOp .Or (a::b::rest) pos) (ZeK ta tb):=by
 intro qQ s σ H Q I h;refine BoolOp_or (thn (ha qQ s σ H _ I h) λv s1 ⟨x,H1,I1,r1,q1⟩=>?_);obtain ⟨c,rfl,q1⟩:=q1;cases r1;refine wpAny_truthy_bool ?_;cases c with
 | false=>exact hb qQ s1 σ H1 Q I1 q1
 | true=>exact ⟨.bl true,H1,I1,rfl,q1⟩
theorem Xl (ha:PE X a ta):PE X (.UnaryOp .Not a pos) (ZdI ta):=by
 intro qQ s σ H Q I h;refine UnaryOp_ (thn (ha qQ s σ H _ I h) λv s1 ⟨x,H1,I1,r1,q1⟩=>?_);obtain ⟨c,rfl,q1⟩:=q1;cases r1;exact not_of (wpAny_truthy_bool ⟨.bl (!c),H1,I1,rfl,q1⟩)
def tIf (t:TT)(ta tb:TE):TE:=λσ H Q=>t σ H λc H1=>if c=true then ta σ H1 Q else tb σ H1 Q
theorem O2 {c:Expr}(hc:PT X c tA)(ha:PE X a ta)(hb:PE X b tb):PE X (.IfExp c a b pos) (tIf tA ta tb):=by
 intro qQ s σ H Q I h;refine wpAny_IfExp (thn (hc qQ s σ H _ I h) λd s1 ⟨H1,I1,q1⟩=>?_);cases d with
 | true=>exact ha qQ s1 σ H1 Q I1 q1
 | false=>exact hb qQ s1 σ H1 Q I1 q1
end
end L2
namespace L2
open PySem PySem.Spec PyProof.Rows
def SqL (K:W.Frag)(H:Hp)(a:Addr)(xs:List V):Prop:=
 Rd H a (.lst xs) \/
  ∃(o:Obj)(its:Array Value)(n:Nat),K.lookup a=some o/\o.cls=.type "list" /\ o.dict=none/\o.data=.seq its n/\its.size<=sizeLine/\Vals xs its.toList
def SqT (K:W.Frag)(H:Hp)(a:Addr)(xs:List V):Prop:=
 Rd H a (.tup xs) \/
  ∃(o:Obj)(its:Array Value)(n:Nat),K.lookup a=some o/\o.cls=.type "tuple" /\ o.data=.seq its n/\its.size<=sizeLine/\Vals xs its.toList
def ZeL:Value->Option V
 | .none=>some .non
 | .bool b=>some (.bl b)
 | .int i _=>some (.int i)
 | .str x _=>some (.str x)
 | .bytes b _=>some (.byt b)
 | .float b _=>some (.flt b)
 | .ref a=>some (.ref a)
 | .type n=>some (.ty n)
 | _=>none
theorem RelV.abs {x:V}{u:Value}(r:RelV x u):ZeL u=some x:=by
 cases x with
 | non=>cases r;rfl
 | bl _=>cases r;rfl
 | int _=>obtain ⟨t,rfl⟩:=r;rfl
 | str _=>obtain ⟨t,rfl⟩:=r;rfl
 | byt _=>obtain ⟨t,rfl⟩:=r;rfl
 | flt _=>obtain ⟨t,rfl⟩:=r;rfl
 | ref _=>cases r;rfl
 | ty _=>cases r;rfl
theorem RelV.inj {x y:V}{u:Value}(r:RelV x u)(q:RelV y u):x=y:=Option.some.inj (r.abs.symm.trans q.abs)
theorem Vals.inj:∀{xs ys:List V}{us:List Value},Vals xs us->Vals ys us->xs=ys
 | _,_,_,.nil,.nil=>rfl
 | _,_,_,.cons r t,.cons r' t'=>by rw [r.inj r',Vals.inj t t']
section
variable {X:Cx}{qQ:List (Addr×Obj)}{σ:St}{H:Hp}{s:Shared}{a:Addr}{xs ys:List V}
theorem SqL.of {K:W.Frag}(h:H a=some (.lst xs)):SqL K H a xs:=.inl (.inl h)
theorem SqT.of {K:W.Frag}(h:H a=some (.tup xs)):SqT K H a xs:=.inl (.inl h)
theorem Inv.list (I:Inv X qQ σ H s)(h:SqL X.K H a xs):∃its:List Value,Vals xs its/\PlainL s.heap a its.toArray/\xs.length<=sizeLine:=by
 rcases h with h | ⟨o,its,n,hk,hc,hd,hs,hz,r⟩
 ·obtain ⟨z,its,n,r,e⟩:=h.ok I.hok;exact ⟨its,r,⟨_,n,e,rfl,rfl,rfl⟩,z⟩
 ·refine ⟨its.toList,r,⟨o,n,I.kIn a o hk,hc,hd,by simpa using hs⟩,?_⟩;have e:=r.length;simp only [Array.length_toList] at e
  lia
theorem Inv.tuple (I:Inv X qQ σ H s)(h:SqT X.K H a xs):∃its:List Value,Vals xs its/\IsTup s.heap a its.toArray/\xs.length<=sizeLine:=by
 rcases h with h | ⟨o,its,n,hk,hc,hs,hz,r⟩
 ·obtain ⟨z,its,r,p⟩:=h.ok I.hok;exact ⟨its,r,p,z⟩
 ·refine ⟨its.toList,r,⟨o,I.kIn a o hk,hc,n,by simpa using hs⟩,?_⟩;have e:=r.length;simp only [Array.length_toList] at e
  lia
theorem Inv.list_inj (I:Inv X qQ σ H s)(h:SqL X.K H a xs)(h':SqL X.K H a ys):xs=ys:=by
 obtain ⟨its,r,⟨o,n,e,_,_,d⟩,_⟩:=I.list h;obtain ⟨its',r',⟨o',n',e',_,_,d'⟩,_⟩:=I.list h';rw [e] at e';cases e';rw [d] at d';injection d' with d1 _
 have:its=its':=by simpa using congrArg Array.toList d1
 subst this;exact r.inj r'
theorem Inv.tuple_inj (I:Inv X qQ σ H s)(h:SqT X.K H a xs)(h':SqT X.K H a ys):xs=ys:=by
 obtain ⟨its,r,⟨o,e,_,n,d⟩,_⟩:=I.tuple h;obtain ⟨its',r',⟨o',e',_,n',d'⟩,_⟩:=I.tuple h';rw [e] at e';cases e';rw [d] at d';injection d' with d1 _
 have:its=its':=by simpa using congrArg Array.toList d1
 subst this;exact r.inj r'
end
abbrev Cx.wish (X:Cx)(E:Value->Shared->Prop):Cx:={ X with xe:=E }
abbrev Cx.nox (X:Cx):Cx:=X.wish λ_ _=>False
theorem Cx.Ok.wish {X:Cx}(ok:X.Ok)(E:Value->Shared->Prop):(X.wish E).Ok:=
 ⟨ok.mod,ok.kind,ok.glob,ok.blt,ok.above,ok.inj,ok.has,ok.cab,ok.hd,ok.frames,ok.stk,ok.exf,ok.bs,ok.bsz,ok.noex,ok.exfs,ok.funs,ok.frf⟩
theorem Cx.Ok.unwish {X:Cx}{E:Value->Shared->Prop}(ok:(X.wish E).Ok):X.Ok:=
 ⟨ok.mod,ok.kind,ok.glob,ok.blt,ok.above,ok.inj,ok.has,ok.cab,ok.hd,ok.frames,ok.stk,ok.exf,ok.bs,ok.bsz,ok.noex,ok.exfs,ok.funs,ok.frf⟩
section
variable {X:Cx}{qQ:List (Addr×Obj)}{σ:St}{H:Hp}{s:Shared}{E:Value->Shared->Prop}
theorem Inv.wish (I:Inv X qQ σ H s)(E:Value->Shared->Prop):Inv (X.wish E) qQ σ H s:=⟨I.ok.wish E,I.os,I.bare,I.base,I.loc,I.cell,I.free,I.freeC,I.pin,I.hok,I.len⟩
theorem Inv.unwish (I:Inv (X.wish E) qQ σ H s):Inv X qQ σ H s:=⟨I.ok.unwish,I.os,I.bare,I.base,I.loc,I.cell,I.free,I.freeC,I.pin,I.hok,I.len⟩
theorem SP.unwish {D:Vf}{f:Flow}{s':Shared}(h:SP (X.wish E) qQ D f s'):SP X qQ D f s':=by
 cases f with
 | next=>obtain ⟨σ',H',I,q⟩:=h;exact ⟨σ',H',I.unwish,q⟩
 | brk=>obtain ⟨σ',H',I,q⟩:=h;exact ⟨σ',H',I.unwish,q⟩
 | cont=>obtain ⟨σ',H',I,q⟩:=h;exact ⟨σ',H',I.unwish,q⟩
 | ret u=>obtain ⟨v,σ',H',I,r,q⟩:=h;exact ⟨v,σ',H',I.unwish,r,q⟩
theorem PSs.nox {st:List Stmt}{t:TS}(h:PSs X.nox st t):PSs X st t:=λqQ s σ H D I hw=>
 wpAny_mono (h qQ s σ H D (I.wish _) hw) (λ_ _ q=>q.unwish) λ_ _ z=>False.elim z
end
section
variable {X:Cx}{st:Stmt}{rest:List Stmt}{t u:TS}{e:Expr}{te:TE}{pos:Pos}
def VO:TS:=λD σ H=>D.nx σ H
def ZbQ (t u:TS):TS:=λD σ H=>t { D with nx:=u D } σ H
theorem Gr:PSs X [] VO:=λ_ _ σ H _ I h=>wpAny_execs_nil ⟨σ,H,I,h⟩
theorem Ge (h1:PS X st t)(h2:PSs X rest u):PSs X (st::rest) (ZbQ t u):=by
 intro qQ s σ H D I h;refine wpAny_execs_cons (thn (h1 qQ s σ H { D with nx:=u D } I h) λf s1 q=>?_);cases f with
 | next=>
  obtain ⟨σ',H',I',q⟩:=q;exact h2 qQ s1 σ' H' D I' q
 | ret v=>exact q
 | brk=>exact q
 | cont=>exact q
theorem Gf (h1:PS X st t):PSs X [st] t:=by
 intro qQ s σ H D I h;refine wpAny_execs_cons (thn (h1 qQ s σ H D I h) λf s1 q=>?_);cases f with
 | next=>exact wpAny_execs_nil q
 | ret v=>exact q
 | brk=>exact q
 | cont=>exact q
theorem Inv.quiet {qQ:List (Addr×Obj)}{σ:St}{H:Hp}{s:Shared}(I:Inv X qQ σ H s):interactive X.env=false:=by simp [interactive,I.ok.kind]
def ZdJ (te:TE):TS:=λD σ H=>te σ H λ_ H1=>D.nx σ H1
theorem JJ (he:PE X e te)(hs:swapsWith e none pos.line X.env=pure false:=by rfl):PS X (.Expr e pos) (ZdJ te):=by
 intro qQ s σ H D I h;exact wpAny_Expr_any (thn (he qQ s σ H _ I h) λv s1 ⟨x,H1,I1,r1,q1⟩=>⟨σ,H1,I1,q1⟩) I.quiet hs
def ZE (te:TE):TS:=λD σ H=>te σ H D.rt
theorem Go (he:PE X e te):PS X (.Return (some e) pos) (ZE te):=by
 intro qQ s σ H D I h;exact wpAny_Return_some (thn (he qQ s σ H _ I h) λv s1 ⟨x,H1,I1,r1,q1⟩=>⟨x,σ,H1,I1,r1,q1⟩)
def ZdB (c:TT)(t u:TS):TS:=λD σ H=>c σ H λb H1=>if b=true then t D σ H1 else u D σ H1
theorem GT {c:Expr}{a b:List Stmt}{tc:TT}(hc:PT X c tc)(ha:PSs X a t)(hb:PSs X b u):PS X (.If c a b pos) (ZdB tc t u):=by
 intro qQ s σ H D I h;refine wpAny_If (thn (hc qQ s σ H _ I h) λd s1 ⟨H1,I1,q1⟩=>?_);cases d with
 | true=>exact ha qQ s1 σ H1 D I1 q1
 | false=>exact hb qQ s1 σ H1 D I1 q1
end
abbrev TG:=V->St->Hp->(St->Hp->Prop)->Prop
abbrev TGs:=List V->St->Hp->(St->Hp->Prop)->Prop
def PG (X:Cx)(qZ:Expr)(t:TG):Prop:=
 ∀(qQ:List (Addr×Obj))(s:Shared)(σ:St)(H:Hp)(v:V)(u:Value)(Q:St->Hp->Prop),Inv X qQ σ H s->RelV v u->t v σ H Q ->
  wpAny (model X.prog X.w) X.A (assign qZ X.env u) (λ_ s'=>∃ σ' H',Inv X qQ σ' H' s'/\Q σ' H') X.xe s
def PGs (X:Cx)(ts:List Expr)(t:TGs):Prop:=
 ∀(qQ:List (Addr×Obj))(s:Shared)(σ:St)(H:Hp)(vs:List V)(us:List Value)(Q:St->Hp->Prop),Inv X qQ σ H s->Vals vs us->t vs σ H Q ->
  wpAny (model X.prog X.w) X.A (assignInOrder ((assignEach ts X.env).map (·.2)) us) (λ_ s'=>∃ σ' H',Inv X qQ σ' H' s'/\Q σ' H') X.xe s
abbrev ZdK:=V->V->V->Hp->(Hp->Prop)->Prop
def Zer (X:Cx)(t:ZdK):Prop:=
 ∀(qQ:List (Addr×Obj))(s:Shared)(σ:St)(H:Hp)(o i v:V)(ov iv u:Value)(Q:Hp->Prop),Inv X qQ σ H s->RelV o ov->RelV i iv->RelV v u->t o i v H Q ->
  wpAny (model X.prog X.w) X.A (setItem ov iv u) (λ_ s'=>∃H',Inv X qQ σ H' s'/\Q H') X.xe s
section
variable {X:Cx}{pos:Pos}
def JN (i:Nat):TG:=λv σ H Q=>Q (σ.set i (some v)) H
theorem GV {i:Nat}{x:Str}(hN:X.N.Nodup)(hi:X.N[i]?=some x)(hx:Loc X.env.scope x)(hf:X.fn x=true\/X.env.scope.names.lookup x=some .local:=by first | exact .inl rfl | exact .inr rfl | assumption):PG X (.Name x pos) (JN i):=by
 intro qQ s σ H v u Q I r h;exact wpAny_assign_Name (JX I hN hi hx r (λs' I'=>⟨_,H,I',h⟩) hf)
def ZeM:TGs:=λvs σ H Q=>vs=[]/\Q σ H
def ZdL (t:TG)(u:TGs):TGs:=λvs σ H Q=>∃v r,vs=v::r/\t v σ H λσ' H'=>u r σ' H' Q
theorem Xm:PGs X [] ZeM:=by
 intro qQ s σ H vs us Q I r h;obtain ⟨e,h⟩:=h;subst e;cases r;exact assignInOrder_nil ⟨σ,H,I,h⟩
theorem O3 {e:Expr}{es:List Expr}{t:TG}{u:TGs}(h1:PG X e t)(h2:PGs X es u)(hs:(assignEach (e::es) X.env).map (·.2)=assign e X.env::(assignEach es X.env).map (·.2):=by rfl):PGs X (e::es) (ZdL t u):=by
 intro qQ s σ H vs us Q I r h;obtain ⟨v,vr,e1,h⟩:=h;subst e1;cases r with
 | cons r rr=>
  rw [hs];refine assignInOrder_cons (thn (h1 qQ s σ H _ _ _ I r h) λ_ s1 ⟨σ1,H1,I1,q1⟩=>?_);exact h2 qQ s1 σ1 H1 _ _ Q I1 rr q1
def Zes (K:W.Frag)(n:Nat)(t:TGs):TG:=λv σ H Q=>∃a xs,v=.ref a/\SqT K H a xs/\xs.length=n/\t xs σ H Q
theorem Zb4 {es:List Expr}{k:Nat}{t:TGs}{n:Nat}(hc:X.calm=true)(h:PGs X es t)(hn:(assignEach es X.env).length=n:=by rfl)(hst:(assignEach es X.env).findIdx? (·.1)=none:=by rfl):PG X (.Tuple es k pos) (Zes X.K n t):=by
 intro qQ s σ H v u Q I r hw;obtain ⟨a,xs,e1,hq,hl,hw⟩:=hw;subst e1;cases r;obtain ⟨its,rv,ht,hz⟩:=I.tuple hq;refine assign_Tuple_tuple (I.ok.hd hc) ht (by simp [hn,<-hl,rv.length]) hst λh' hx=>?_;have I1:Inv X qQ σ H { s with heap:=h' }:=I.kept (t':=s.toks) λb o e=>hx b o (Nat.ne_of_lt (Heap.lt_size e)) e;exact h qQ _ σ H xs _ Q I1 (by simpa using rv) hw
def ZeN (to ti:TE)(t:ZdK):TG:=λv σ H Q=>to σ H λo H1=>ti σ H1 λi H2=>t o i v H2 λH3=>Q σ H3
theorem Zb5 {o i:Expr}{to ti:TE}{t:ZdK}(ho:PE X o to)(hi:PE X i ti)(hs:Zer X t)(ha:∀v,assign (.Subscript o i pos) X.env v=(do
   let ov <- holding [v] (eval o X.env)
   let iv <- holding [v,ov] (eval i X.env)
   standAt pos
   holding [v,ov,iv] (setItem ov iv v)
   release [v,ov,iv] []):=by intro _;rfl):PG X (.Subscript o i pos) (ZeN to ti t):=by
 intro qQ s σ H v u Q I r h;rw [ha];refine wpAny_bind (wpAny_holding (thn (ho qQ s σ H _ I h) λov s1 ⟨x,H1,I1,r1,q1⟩=>?_));refine wpAny_bind (wpAny_holding (thn (hi qQ s1 σ H1 _ I1 q1) λiv s2 ⟨y,H2,I2,r2,q2⟩=>?_));refine wpAny_bind (wpAny_standAt (wpAny_bind (wpAny_holding (thn (hs qQ s2 σ H2 x y v ov iv u _ I2 r1 r2 r q2) λ_ s3 ⟨H3,I3,q3⟩=>?_))));exact wpAny_release ⟨σ,H3,I3,q3⟩
def Zad (te:TE)(g:TG):TS:=λD σ H=>te σ H λx H1=>g x σ H1 D.nx
theorem ZG {tg e:Expr}{te:TE}{g:TG}(he:PE X e te)(hg:PG X tg g)(hs:swapsWithSole [tg] e pos.line X.env=pure false:=by rfl)(hw:swappedStores [tg] e X.env=pure none:=by rfl)(h1:(assignEach [tg] X.env).map (·.2)=[assign tg X.env]:=by rfl):PS X (.Assign [tg] e pos) (Zad te g):=by
 intro qQ s σ H D I h;refine wpAny_Assign_stores (thn (he qQ s σ H _ I h) λv s1 ⟨x,H1,I1,r1,q1⟩=>?_) hs hw;rw [h1];exact thn (hg qQ s1 σ H1 x v _ I1 r1 q1) λ_ s2 q=>q
theorem Gs {i:Nat}{x:Str}{e:Expr}{te:TE}{pos':Pos}(hN:X.N.Nodup)(hi:X.N[i]?=some x)(hx:Loc X.env.scope x)(he:PE X e te)(hs:swapsWith e (some (.Name x pos')) pos.line X.env=pure false:=by rfl)(hf:X.fn x=true\/X.env.scope.names.lookup x=some .local:=by first | exact .inl rfl | exact .inr rfl | assumption) :
  PS X (.Assign [.Name x pos'] e pos) (Zad te (JN i)):=by
 intro qQ s σ H D I h;refine wpAny_Assign_Name (thn (he qQ s σ H _ I h) λv s1 ⟨y,H1,I1,r1,q1⟩=>?_) hs;exact JX I1 hN hi hx r1 (λs2 I2=>⟨_,H1,I2,q1⟩) hf
def Zb6 (c:TT)(tb:TS):TS:=λD σ H=>∃W:Nat->St->Hp->Prop,(∃m,W m σ H)/\∀m σ H,W m σ H ->
 c σ H λb H1=>if b=true then ∃N:St->Hp->Prop,(∀ σ' H',N σ' H'->∃m',m'<m/\W m' σ' H')/\tb { D with nx:=N,ct:=N,bk:=D.nx } σ H1 else D.nx σ H1
theorem Wa {c:Expr}{body:List Stmt}{tc:TT}{tb:TS}(hp:PassesOwn (model X.prog X.w) X.A X.env X.xe)(hc:PT X c tc)(hb:PSs X body tb):PS X (.While c body [] pos) (Zb6 tc tb):=by
 intro qQ s σ H D I h;obtain ⟨W,⟨m0,w0⟩,turn⟩:=h;refine wpAny_While (codeAny_whileLoop (λn s'=>∃ σ' H',Inv X qQ σ' H' s'/\W n σ' H') ?_ m0 ⟨σ,H,I,w0⟩);rintro n s1 ⟨σ1,H1,I1,w1⟩;refine wpAny_passesOwn hp (thn (hc qQ s1 σ1 H1 _ I1 (turn n σ1 H1 w1)) λb s2 ⟨H2,I2,q2⟩=>?_);cases b with
 | true=>
  obtain ⟨N,hN,q2⟩:=q2;rw [if_pos rfl];refine wpAny_passesOwn hp (thn (hb qQ s2 σ1 H2 _ I2 q2) λf s3 q3=>?_);cases f with
  | next=>
   obtain ⟨σ3,H3,I3,n3⟩:=q3;obtain ⟨m',hm,w3⟩:=hN σ3 H3 n3;exact ⟨m',hm,σ3,H3,I3,w3⟩
  | cont=>
   obtain ⟨σ3,H3,I3,n3⟩:=q3;obtain ⟨m',hm,w3⟩:=hN σ3 H3 n3;exact ⟨m',hm,σ3,H3,I3,w3⟩
  | brk=>exact q3
  | ret v=>exact q3
 | false=>
  rw [if_neg Bool.false_ne_true];exact wpAny_execs_nil ⟨σ1,H2,I2,q2⟩
end
structure It where
 go:Nat->Hp->Prop
 yld:Nat->Hp->V->Hp->Prop
 stop:Nat->Hp->Prop
def Xn (X:Cx)(qQ:List (Addr×Obj))(H:Hp)(b:Addr):Prop:=
 H b=none/\b≠X.env.locals/\b ∉ X.fs/\(b∈X.ex\/X.s₀.heap.objs.size<=b)/\(∀x c,X.env.cells.lookup x=some c->c≠b)/\∀p∈X.pn++qQ,p.1≠b
theorem Inv.fpOk {X:Cx}{qQ:List (Addr×Obj)}{σ:St}{H H':Hp}{s:Shared}{b:Addr}(I:Inv X qQ σ H s)(hb:s.heap.objs.size<=b)(hn:H' b=none):Xn X qQ H' b:=by
 refine ⟨hn,Nat.ne_of_gt (Nat.lt_of_lt_of_le I.lt hb),I.nofs hb,.inr (Nat.le_trans I.sz hb),λx c e z=>?_,λp hp z=>?_⟩
 ·obtain ⟨v,q⟩:=I.cell x c e;exact absurd (Nat.lt_of_lt_of_le q.lt (by rw [z];exact hb)) (Nat.lt_irrefl _)
 ·exact absurd (Nat.lt_of_lt_of_le (Heap.lt_size (I.pin p hp).1) (by rw [z];exact hb)) (Nat.lt_irrefl _)
structure Zae (P:Program)(w:World)(K:W.Frag)(tg:Expr)(J:It)(fp:List Addr)(it:Addr)(tn:Nat->Heap->Prop):Prop where
 mem:it∈fp
 obj:∀i h,tn i h->∀b∈fp,∃o,h.get? b=some o/\∀v,o.data≠.cell v
 keep:∀i h h',tn i h->(∀b∈fp,∀o,h.get? b=some o->h'.get? b=some o)->tn i h'
 item:∀(X:Cx),X.prog=P->X.w=w->X.K=K->X.calm=true->∀(i:Nat)(qQ:List (Addr×Obj))(s:Shared)(σ:St)(H:Hp)(E:Value->Shared->Prop),Inv X qQ σ H s->(∀b∈fp,Xn X qQ H b)->tn i s.heap->J.go i H ->
  wpAny (model P w) X.A (pyNext (.ref it)) (λr s1=>∃u,r=some u /\
   wpAny (model P w) X.A (letOwnedTupleGo tg (.ref it) u) (λ_ s2=>∃x H',Inv X qQ σ H' s2/\RelV x u/\J.yld i H x H'/\tn (i+1) s2.heap/\∀b∈fp,H' b=none) E s1) E s
 done:∀(X:Cx),X.prog=P->X.w=w->X.K=K->X.calm=true->∀(i:Nat)(qQ:List (Addr×Obj))(s:Shared)(σ:St)(H:Hp)(E:Value->Shared->Prop),Inv X qQ σ H s->(∀b∈fp,Xn X qQ H b)->tn i s.heap->J.stop i H ->
  wpAny (model P w) X.A (pyNext (.ref it)) (λr s1=>r=none/\Inv X qQ σ H s1) E s
 self:∀(A:Around)(i:Nat)(s:Shared)(Q:Value->Shared->Prop)(E:Value->Shared->Prop),tn i s.heap->Q (.ref it) s->wpAny (model P w) A (pyIter (.ref it)) Q E s
abbrev TI:=St->Hp->(It->Hp->Prop)->Prop
def PIE (X:Cx)(qQ:List (Addr×Obj))(σ:St)(tg:Expr)(R:It->Hp->Prop)(itv:Value)(s2:Shared):Prop:=
 ∃(it:Addr)(fp:List Addr)(tn:Nat->Heap->Prop)(J:It)(H':Hp),itv=.ref it/\Inv X qQ σ H' s2/\Zae X.prog X.w X.K tg J fp it tn/\tn 0 s2.heap/\(∀b∈fp,Xn X qQ H' b)/\R J H'
def PI (X:Cx)(tg iter:Expr)(wi:TI):Prop:=
 ∀(qQ:List (Addr×Obj))(s:Shared)(σ:St)(H:Hp)(R:It->Hp->Prop),Inv X qQ σ H s->wi σ H R ->
  wpAny (model X.prog X.w) X.A (eval iter X.env) (λv s1=>wpAny (model X.prog X.w) X.A (pyIter v) (PIE X qQ σ tg R) X.xe s1) X.xe s
theorem Xo {M:Model}{A:Around}{E:Value->Shared->Prop}{s:Shared}{tg:Expr}{it:Addr}{u:Value}{o:Obj}{n:String}{vs:Array Value}{Q:Unit->Shared->Prop}(ho:s.heap.get? it=some o)(hc:o.cls=.type n)(hd:o.data=.fields vs)(hn:["enumerate", "zip", "dict_itemiterator", "dict_reverseitemiterator", "odict_iterator", "itertools.zip_longest", "itertools.pairwise"].contains n=false)(hQ:Q () s):wpAny M A (letOwnedTupleGo tg (.ref it) u) Q E s:=by
 unfold letOwnedTupleGo;cases tg <;> first
  | exact wpAny_pure hQ
  | (cases u <;> first
    | exact wpAny_pure hQ
    | (refine wpAny_bind (wpAny_load ho ?_)
       rw [hc,hd];show wpAny M A (if (["enumerate", "zip", "dict_itemiterator", "dict_reverseitemiterator", "odict_iterator", "itertools.zip_longest", "itertools.pairwise"].contains n && vs[0]? == some (rawInt _))=true then _ else _) Q E s;rw [if_neg (by intro h;rw [hn,Bool.false_and] at h;cases h)];exact wpAny_pure hQ))
def Itl (K:W.Frag)(a:Addr):It:=
 ⟨λi H=>∃xs x,SqL K H a xs/\xs[i]?=some x,λi H x H'=>H'=H/\∀xs,SqL K H a xs->xs[i]?=some x,λi H=>∃xs,SqL K H a xs/\xs.length<=i⟩
def Itt (K:W.Frag)(a:Addr):It:=
 ⟨λi H=>∃xs x,SqT K H a xs/\xs[i]?=some x,λi H x H'=>H'=H/\∀xs,SqT K H a xs->xs[i]?=some x,λi H=>∃xs,SqT K H a xs/\xs.length<=i⟩
def Itr (lo:Int)(n:Nat):It:=⟨λi _=>i<n,λi H x H'=>H'=H/\x=.int (lo+i),λi _=>n<=i⟩
theorem Vg {P:Program}{w:World}{K:W.Frag}{tg:Expr}(a it:Addr):Zae P w K tg (Itl K a) [it] it (λi h=>h.IsListIter it a i) where
 mem:=by simp
 obj:=λi h st b hb=>by
  have e:b=it:=by simpa using hb
  subst e;obtain ⟨o,e,c,d⟩:=st;exact ⟨o,e,λv z=>by rw [d] at z;cases z⟩
 keep:=λi h h' st k=>st.at λo e=>k it (by simp) o e
 item:=by
  intro X hP hw hK hc i qQ s σ H E I hf st hg;subst hP hw hK;obtain ⟨xs,x,hq,hx⟩:=hg;obtain ⟨its,rv,p,hz⟩:=I.list hq;obtain ⟨u,hu,ru⟩:=rv.get hx;obtain ⟨f0,f1,f2,f3,f4,f5⟩:=hf it (by simp);refine wpAny_pyNext_list_item st p.isList (x:=u) (by simpa using hu) λh' st' sb=>?_;have I1:Inv X qQ σ H { s with heap:=h' }:=I.turned (t':=s.toks) (λb o hb e=>(sb.2 b hb).trans e) f0 f1 f3 f4 f5;obtain ⟨o,e,c,d⟩:=id st';exact ⟨u,rfl,Xo (s:={ s with heap:=h' }) e c d (by decide) ⟨x,H,I1,ru,⟨rfl,λys hy=>by rw [I.list_inj hy hq];exact hx⟩,st',λb hb=>(hf b hb).1⟩⟩
 done:=by
  intro X hP hw hK hc i qQ s σ H E I hf st hg;subst hP hw hK;obtain ⟨xs,hq,hx⟩:=hg;obtain ⟨its,rv,p,hz⟩:=I.list hq;obtain ⟨f0,f1,f2,f3,f4,f5⟩:=hf it (by simp);have hl:=rv.length;exact wpAny_pyNext_list_end (I.ok.hd hc) st p.isList (by simp;lia) λh' eb=>⟨rfl,I.turned (t':=s.toks) (λb o hb e=>eb b o hb e) f0 f1 f3 f4 f5⟩
 self:=λ_ _ _ _ _ st h=>wpAny_pyIter_listiter st h
theorem WR {P:Program}{w:World}{K:W.Frag}{tg:Expr}(a it:Addr):Zae P w K tg (Itt K a) [it] it (λi h=>h.IsTupleIter it a i) where
 mem:=by simp
 obj:=λi h st b hb=>by
  have e:b=it:=by simpa using hb
  subst e;obtain ⟨o,e,c,d⟩:=st;exact ⟨o,e,λv z=>by rw [d] at z;cases z⟩
 keep:=λi h h' st k=>st.at λo e=>k it (by simp) o e
 item:=by
  intro X hP hw hK hc i qQ s σ H E I hf st hg;subst hP hw hK;obtain ⟨xs,x,hq,hx⟩:=hg;obtain ⟨its,rv,p,hz⟩:=I.tuple hq;obtain ⟨u,hu,ru⟩:=rv.get hx;obtain ⟨f0,f1,f2,f3,f4,f5⟩:=hf it (by simp);refine wpAny_pyNext_tuple_item st (show s.heap.IsTuple a its.toArray from p) (x:=u) (by simpa using hu) λh' st' sb=>?_;have I1:Inv X qQ σ H { s with heap:=h' }:=I.turned (t':=s.toks) (λb o hb e=>(sb.2 b hb).trans e) f0 f1 f3 f4 f5;obtain ⟨o,e,c,d⟩:=id st';exact ⟨u,rfl,Xo (s:={ s with heap:=h' }) e c d (by decide) ⟨x,H,I1,ru,⟨rfl,λys hy=>by rw [I.tuple_inj hy hq];exact hx⟩,st',λb hb=>(hf b hb).1⟩⟩
 done:=by
  intro X hP hw hK hc i qQ s σ H E I hf st hg;subst hP hw hK;obtain ⟨xs,hq,hx⟩:=hg;obtain ⟨its,rv,p,hz⟩:=I.tuple hq;obtain ⟨f0,f1,f2,f3,f4,f5⟩:=hf it (by simp);have hl:=rv.length;exact wpAny_pyNext_tuple_end (I.ok.hd hc) st (show s.heap.IsTuple a its.toArray from p) (by simp;lia) λh' eb=>⟨rfl,I.turned (t':=s.toks) (λb o hb e=>eb b o hb e) f0 f1 f3 f4 f5⟩
 self:=λ_ _ _ _ _ st h=>wpAny_pyIter_tupleiter st h
theorem WS {P:Program}{w:World}{K:PySem.W.Frag}{tg:Expr}(it:Addr)(lo:Int)(n:Nat):Zae P w K tg (Itr lo n) [it] it (λi h=>IsRangeIter h it (lo+(i:Nat) * 1) ((n:Int)-(i:Nat)) 1) where
 mem:=by simp
 obj:=λi h st b hb=>by
  have e:b=it:=by simpa using hb
  subst e;exact ⟨_,st,λv z=>by
   have z':Data.fields _=Data.cell v:=z;cases z'⟩
 keep:=λi h h' st k=>k it (by simp) _ st
 item:=by
  intro X hP hw hK hc i qQ s σ H E I hf st hg;subst hP hw hK;obtain ⟨f0,f1,f2,f3,f4,f5⟩:=hf it (by simp);have W:=Walks.range (prog:=X.prog) (w:=X.w) (I.ok.hd hc) it lo 1 n;refine W.item i s _ _ hg st λv h' tk hv st' kk=>?_;obtain ⟨t,rfl⟩:=hv;have I1:Inv X qQ σ H { s with heap:=h',toks:=tk }:=I.turned (λb o hb e=>kk b o (by simpa using hb) e) f0 f1 f3 f4 f5;refine ⟨_,rfl,Xo (s:={ s with heap:=h',toks:=tk }) (n := "range_iterator") st' rfl rfl (by decide) ⟨.int (lo+i),H,I1,⟨t,?_⟩,⟨rfl,rfl⟩,st',λb hb=>(hf b hb).1⟩⟩;rw [Int.mul_one]
 done:=by
  intro X hP hw hK hc i qQ s σ H E I hf st hg;subst hP hw hK;obtain ⟨f0,f1,f2,f3,f4,f5⟩:=hf it (by simp);exact wpAny_pyNext_range_end (I.ok.hd hc) st (by have:n<=i:=hg;lia) λh' eb=>⟨rfl,I.turned (t':=s.toks) (λb o hb e=>eb b o hb e) f0 f1 f3 f4 f5⟩
 self:=λ_ _ _ _ _ st h=>wpAny_pyIter_rangeiter st h
end L2
namespace L2
open PySem PySem.Spec PyProof.Rows
section
variable {X:Cx}{tg:Expr}
def Zaf (K:W.Frag)(tl:TE):TI:=λσ H R=>tl σ H λx H1=>∃a,x=.ref a/\(∃xs,SqL K H1 a xs)/\R (Itl K a) H1
def Zet (K:W.Frag)(tl:TE):TI:=λσ H R=>tl σ H λx H1=>∃a,x=.ref a/\(∃xs,SqT K H1 a xs)/\R (Itt K a) H1
theorem Zag {l:Expr}{tl:TE}(hl:PE X l tl):PI X tg l (Zaf X.K tl):=by
 intro qQ s σ H R I h;refine thn (hl qQ s σ H _ I h) λv s1 ⟨x,H1,I1,r1,q1⟩=>?_;obtain ⟨a,e,⟨xs,hq⟩,q⟩:=q1;subst e;cases r1;obtain ⟨its,rv,p,hz⟩:=I1.list hq;refine wpAny_pyIter_list p.isList ?_;refine ⟨s1.heap.objs.size,[s1.heap.objs.size],_,_,H1,rfl,I1.kept (t':=s1.toks) λb o e=>Heap.get?_push_of_some _ e,Vg a _,⟨_,Heap.get?_push_size _ rfl,rfl,rfl⟩,λb hb=>?_,q⟩;have e:b=s1.heap.objs.size:=by simpa using hb
 subst e;exact I1.fpOk (Nat.le_refl _) (I1.hok.fresh (Nat.le_refl _))
theorem Zb7 {l:Expr}{tl:TE}(hl:PE X l tl):PI X tg l (Zet X.K tl):=by
 intro qQ s σ H R I h;refine thn (hl qQ s σ H _ I h) λv s1 ⟨x,H1,I1,r1,q1⟩=>?_;obtain ⟨a,e,⟨xs,hq⟩,q⟩:=q1;subst e;cases r1;obtain ⟨its,rv,p,hz⟩:=I1.tuple hq;refine wpAny_pyIter_tuple (show s1.heap.IsTuple a its.toArray from p) ?_;refine ⟨s1.heap.objs.size,[s1.heap.objs.size],_,_,H1,rfl,I1.kept (t':=s1.toks) λb o e=>Heap.get?_push_of_some _ e,WR a _,⟨_,Heap.get?_push_size _ rfl,rfl,rfl⟩,λb hb=>?_,q⟩;have e:b=s1.heap.objs.size:=by simpa using hb
 subst e;exact I1.fpOk (Nat.le_refl _) (I1.hok.fresh (Nat.le_refl _))
theorem Wb {qQ:List (Addr×Obj)}{σ:St}{H:Hp}{s:Shared}{R:It->Hp->Prop}{E:Value->Shared->Prop}{lo hi:Int}{t u v:Tok}{tk:Nat}(I:Inv X qQ σ H s)(h1:-(2 ^ 62)<=lo)(h2:lo<2 ^ 62)(h3:-(2 ^ 62)<=hi)(h4:hi<2 ^ 62)(q:R (Itr lo (hi-lo).toNat) H):wpAny (model X.prog X.w) X.A (pyIter (.ref s.heap.objs.size)) (PIE X qQ σ tg R) E { s with heap:=s.heap.push { cls:=.type "range", data:=.fields #[.int lo t,.int hi u,.int 1 v] },toks:=tk }:=by
 refine wpAny_pyIter_range (IsRange.new ..) (small_one h1 h2 h3 h4) ?_;have I1:Inv X qQ σ H { s with heap:=s.heap.push { cls:=.type "range", data:=.fields #[.int lo t,.int hi u,.int 1 v] },toks:=tk }:=I.kept λb o e=>Heap.get?_push_of_some _ e;refine ⟨(s.heap.push { cls:=.type "range", data:=.fields #[.int lo t,.int hi u,.int 1 v] }).objs.size,[(s.heap.push { cls:=.type "range", data:=.fields #[.int lo t,.int hi u,.int 1 v] }).objs.size],_,_,H,rfl,
  I1.kept (t':=tk) λb o e=>Heap.get?_push_of_some _ e,WS _ lo (hi-lo).toNat,?_,λb hb=>?_,q⟩
 ·have e1:lo+((0:Nat):Int) * 1=lo:=by simp
  have e2:(((hi-lo).toNat:Nat):Int)-((0:Nat):Int)=Builtin.Range.rangeSize lo hi 1:=by rw [rangeSize_one];split <;> lia
  show IsRangeIter _ _ (lo+((0:Nat):Int) * 1) ((((hi-lo).toNat:Nat):Int)-((0:Nat):Int)) 1;rw [e1,e2];exact Heap.get?_push_size _ rfl
 ·have e:b=(s.heap.push { cls:=.type "range", data:=.fields #[.int lo t,.int hi u,.int 1 v] }).objs.size:=by simpa using hb
  subst e;exact I1.fpOk (Nat.le_refl _) (I1.hok.fresh (Nat.le_refl _))
def ZdM (ta:TA):TI:=λσ H R=>ta σ H λvs H1=>∃j:Int,vs=[.int j]/\-(2 ^ 62)<=j/\j<2 ^ 62/\R (Itr 0 j.toNat) H1
def ZdN (ta:TA):TI:=λσ H R=>ta σ H λvs H1=>∃i j:Int,vs=[.int i,.int j]/\(-(2 ^ 62)<=i/\i<2 ^ 62/\-(2 ^ 62)<=j/\j<2 ^ 62)/\R (Itr i (j-i).toNat) H1
theorem JB {a:Expr}{ta:TA}{p pos:Pos}(hg:Gl X "range")(hm:X.mg "range" = none)(ha:PA X [a] ta)(hs:starEach [a] X.env=[(false,eval a X.env)]:=by rfl):PI X tg (.Call (.Name "range" p) [a] [] pos) (ZdM ta):=by
 intro qQ s σ H R I h;refine Call_ (UE I hg hm boot_range (PyProof.Rows.callWith_type1 (thn (ha pos qQ s σ H _ I h) λus s1 ⟨vs,H1,I1,r1,q1⟩=>?_) hs rfl));obtain ⟨j,e,q1,q2,q⟩:=q1;subst e;cases r1 with
 | cons r rr=>
  cases rr;obtain ⟨t,rfl⟩:=r;exact call_range_1 (Wb I1 (by lia) (by lia) q1 q2 (by simpa using q))
theorem Xp {a b:Expr}{ta:TA}{p pos:Pos}(hg:Gl X "range")(hm:X.mg "range" = none)(ha:PA X [a,b] ta)(hs:starEach [a,b] X.env=[(false,eval a X.env),(false,eval b X.env)]:=by rfl)(hs2:starEach [b] X.env=[(false,eval b X.env)]:=by rfl) :
  PI X tg (.Call (.Name "range" p) [a,b] [] pos) (ZdN ta):=by
 intro qQ s σ H R I h;refine Call_ (UE I hg hm boot_range (PyProof.Rows.callWith_type1 (thn (ha pos qQ s σ H _ I h) λus s1 ⟨vs,H1,I1,r1,q1⟩=>?_) (by rw [hs,hs2]) (by rw [hs2];rfl)));obtain ⟨i,j,e,⟨q1,q2,q3,q4⟩,q⟩:=q1;subst e;cases r1 with
 | cons r rr=>
  cases rr with
  | cons r' rr=>
   cases rr;obtain ⟨t,rfl⟩:=r;obtain ⟨t',rfl⟩:=r';exact call_range_2 (Wb I1 q1 q2 q3 q4 q)
def ZdO (wi:TI)(g:TG)(tb:TS):TS:=λD σ H=>wi σ H λJ H1=>∃W:Nat->Nat->St->Hp->Prop,(∃m,W 0 m σ H1)/\∀i m σ H,W i m σ H ->
 (J.stop i H/\D.nx σ H)\/(J.go i H/\∃N:St->Hp->Prop,(∀ σ' H',N σ' H'->∃m',m'<m/\W (i+1) m' σ' H')/\∀x H',J.yld i H x H'->g x σ H' λσ2 H2=>tb { D with nx:=N,ct:=N,bk:=D.nx } σ2 H2)
def UG (fp:List Addr)(h:Heap):List (Addr×Obj):=fp.filterMap λb=>(h.get? b).map λo=>(b,o)
theorem JG {fp:List Addr}{h:Heap}{b:Addr}{o:Obj}(hb:b∈fp)(e:h.get? b=some o):(b,o)∈UG fp h:=List.mem_filterMap.mpr ⟨b,hb,by rw [e];rfl⟩
theorem Xq {fp:List Addr}{h:Heap}{p:Addr×Obj}(hp:p∈UG fp h):p.1∈fp/\h.get? p.1=some p.2:=by
 obtain ⟨b,hb,e⟩:=List.mem_filterMap.mp hp;cases q:h.get? b with
 | none=>rw [q] at e;cases e
 | some o=>
  rw [q] at e;have e':(b,o)=p:=Option.some.inj e;subst e';exact ⟨hb,q⟩
theorem Inv.pinned {qQ:List (Addr×Obj)}{σ:St}{H:Hp}{s:Shared}{fp:List Addr}(I:Inv X qQ σ H s)(hf:∀b∈fp,Xn X qQ H b)(ho:∀b∈fp,∃o,s.heap.get? b=some o/\∀v,o.data≠.cell v):Inv X (qQ++UG fp s.heap) σ H s:=
 I.pins_of λp hp=>(List.mem_append.mp hp).elim (λz=>I.pin p (List.mem_append_right _ z)) λz=>by
  obtain ⟨hb,e⟩:=Xq z;obtain ⟨f0,f1,f2,_⟩:=hf p.1 hb;obtain ⟨o,e',d⟩:=ho p.1 hb;rw [e] at e';cases e';exact ⟨e,f0,f1,f2,d⟩
theorem Inv.unpinned {qQ pl:List (Addr×Obj)}{σ:St}{H:Hp}{s:Shared}(I:Inv X (qQ++pl) σ H s):Inv X qQ σ H s:=I.pins_of λp hp=>I.pin p (List.mem_append_right _ (List.mem_append_left _ hp))
theorem Om {iter:Expr}{body:List Stmt}{wi:TI}{g:TG}{tb:TS}{pos:Pos}(hp:PassesOwn (model X.prog X.w) X.A X.env X.xe)(hc:X.calm=true)(hi:PI X tg iter wi)(hg:PG X tg g)(hb:PSs X body tb)(hs:∀x,foldedSetIterable iter X.env x=pure x:=by intro _;rfl):PS X (.For tg iter body [] pos) (ZdO wi g tb):=by
 intro qQ s σ H D I h;refine wpAny_For (thn (hi qQ s σ H _ I h) λv s1 h1=>thn h1 λitv s2 h2=>?_) hs;obtain ⟨it,fp,tn,J,H2,e,I2,T,st2,f2,W,⟨m0,w0⟩,turn⟩:=h2;subst e;have stat:∀{H':Hp},(∀b∈fp,H' b=none)->∀b∈fp,Xn X qQ H' b:=λhn b hb=>⟨hn b hb,(f2 b hb).2⟩;refine codeAny_forLoop_any (λn s'=>∃i σ' H',Inv X qQ σ' H' s'/\tn i s'.heap/\(∀b∈fp,H' b=none)/\W i n σ' H') ?_ m0 ⟨0,σ,H2,I2,st2,λb hb=>(f2 b hb).1,w0⟩;rintro n s3 ⟨i,σ3,H3,I3,st3,fr3,w3⟩;rcases turn i n σ3 H3 w3 with ⟨stop,qn⟩ | ⟨go,N,hN,step⟩
 ·refine wpAny_passesOwn hp (thn (T.done X rfl rfl rfl hc i qQ s3 σ3 H3 X.xe I3 (stat fr3) st3 stop) λr s4 ⟨hr,I4⟩=>?_);subst hr;exact wpAny_execs_nil ⟨σ3,H3,I4,qn⟩
 ·refine wpAny_passesOwn hp (thn (T.item X rfl rfl rfl hc i qQ s3 σ3 H3 X.xe I3 (stat fr3) st3 go) λr s4 ⟨u,hr,h4⟩=>?_);subst hr;refine wpAny_passesOwn hp (thn h4 λ_ s5 ⟨x,H5,I5,r5,y5,st5,fr5⟩=>?_);have I5':=I5.pinned (stat fr5) (T.obj _ _ st5);refine wpAny_passesOwn hp (thn (hg _ s5 σ3 H5 x u _ I5' r5 (step x H5 y5)) λ_ s6 ⟨σ6,H6,I6,q6⟩=>?_);refine wpAny_passesOwn hp (thn (hb _ s6 σ6 H6 _ I6 q6) λf s7 q7=>?_);have again:∀{σ7:St}{H7:Hp},Inv X (qQ++UG fp s5.heap) σ7 H7 s7->N σ7 H7->∃m,m<n/\∃i σ' H',Inv X qQ σ' H' s7/\tn i s7.heap/\(∀b∈fp,H' b=none)/\W i m σ' H':=λ{σ7 H7} I7 n7=>by
   obtain ⟨m',hm,w7⟩:=hN σ7 H7 n7;refine ⟨m',hm,i+1,σ7,H7,I7.unpinned,T.keep _ _ _ st5 λb hb o e=>(I7.pin (b,o) (List.mem_append_right _ (List.mem_append_right _ (JG hb e)))).1,λb hb=>?_,w7⟩;obtain ⟨o,e,d⟩:=T.obj _ _ st5 b hb;exact (I7.pin (b,o) (List.mem_append_right _ (List.mem_append_right _ (JG hb e)))).2.1
  cases f with
  | next=>obtain ⟨σ7,H7,I7,n7⟩:=q7;exact again I7 n7
  | cont=>obtain ⟨σ7,H7,I7,n7⟩:=q7;exact again I7 n7
  | brk=>obtain ⟨σ7,H7,I7,q7⟩:=q7;exact ⟨σ7,H7,I7.unpinned,q7⟩
  | ret v=>obtain ⟨x7,σ7,H7,I7,r7,q7⟩:=q7;exact ⟨x7,σ7,H7,I7.unpinned,r7,q7⟩
end
theorem Wd {K:PySem.W.Frag}{a:Addr}{xs:List V}{g:TG}{tb:TS}{D:Vf}{σ:St}{H:Hp}(Pv:Nat->St->Hp->Prop)(h0:Pv 0 σ H)(hl:∀i σ H,i<=xs.length->Pv i σ H->SqL K H a xs)(hs:∀i x σ H,xs[i]?=some x->Pv i σ H->g x σ H λσ2 H2=>tb { D with nx:=Pv (i+1),ct:=Pv (i+1),bk:=D.nx } σ2 H2)(hd:∀ σ H,Pv xs.length σ H->D.nx σ H) :
  ∃W:Nat->Nat->St->Hp->Prop,(∃m,W 0 m σ H)/\∀i m σ H,W i m σ H ->
   ((Itl K a).stop i H/\D.nx σ H)\/((Itl K a).go i H/\∃N:St->Hp->Prop,(∀ σ' H',N σ' H'->∃m',m'<m/\W (i+1) m' σ' H')/\∀x H',(Itl K a).yld i H x H'->g x σ H' λσ2 H2=>tb { D with nx:=N,ct:=N,bk:=D.nx } σ2 H2):=by
 refine ⟨λi m σ H=>m=xs.length-i/\i<=xs.length/\Pv i σ H,⟨xs.length,by simp,Nat.zero_le _,h0⟩,?_⟩;rintro i m σ H ⟨rfl,hi,p⟩;have q:=hl i σ H hi p;by_cases hlt:i<xs.length
 ·refine .inr ⟨⟨xs,xs[i],q,by simp [hlt]⟩,Pv (i+1),λσ' H' p'=>⟨xs.length-(i+1),by lia,rfl,hlt,p'⟩,λx H' y=>?_⟩;obtain ⟨e,y⟩:=y;subst e;exact hs i x σ _ (y xs q) p
 ·have e:i=xs.length:=by lia
  subst e;exact .inl ⟨⟨xs,q,Nat.le_refl _⟩,hd σ H p⟩
theorem Zah {K:PySem.W.Frag}{a:Addr}{xs:List V}{g:TG}{tb:TS}{D:Vf}{σ:St}{H:Hp}(Pv:Nat->St->Hp->Prop)(h0:Pv 0 σ H)(hl:∀i σ H,i<=xs.length->Pv i σ H->SqT K H a xs)(hs:∀i x σ H,xs[i]?=some x->Pv i σ H->g x σ H λσ2 H2=>tb { D with nx:=Pv (i+1),ct:=Pv (i+1),bk:=D.nx } σ2 H2)(hd:∀ σ H,Pv xs.length σ H->D.nx σ H) :
  ∃W:Nat->Nat->St->Hp->Prop,(∃m,W 0 m σ H)/\∀i m σ H,W i m σ H ->
   ((Itt K a).stop i H/\D.nx σ H)\/((Itt K a).go i H/\∃N:St->Hp->Prop,(∀ σ' H',N σ' H'->∃m',m'<m/\W (i+1) m' σ' H')/\∀x H',(Itt K a).yld i H x H'->g x σ H' λσ2 H2=>tb { D with nx:=N,ct:=N,bk:=D.nx } σ2 H2):=by
 refine ⟨λi m σ H=>m=xs.length-i/\i<=xs.length/\Pv i σ H,⟨xs.length,by simp,Nat.zero_le _,h0⟩,?_⟩;rintro i m σ H ⟨rfl,hi,p⟩;have q:=hl i σ H hi p;by_cases hlt:i<xs.length
 ·refine .inr ⟨⟨xs,xs[i],q,by simp [hlt]⟩,Pv (i+1),λσ' H' p'=>⟨xs.length-(i+1),by lia,rfl,hlt,p'⟩,λx H' y=>?_⟩;obtain ⟨e,y⟩:=y;subst e;exact hs i x σ _ (y xs q) p
 ·have e:i=xs.length:=by lia
  subst e;exact .inl ⟨⟨xs,q,Nat.le_refl _⟩,hd σ H p⟩
theorem JT {lo:Int}{n:Nat}{g:TG}{tb:TS}{D:Vf}{σ:St}{H:Hp}(Pv:Nat->St->Hp->Prop)(h0:Pv 0 σ H)(hs:∀i σ H,i<n->Pv i σ H->g (.int (lo+i)) σ H λσ2 H2=>tb { D with nx:=Pv (i+1),ct:=Pv (i+1),bk:=D.nx } σ2 H2)(hd:∀ σ H,Pv n σ H->D.nx σ H) :
  ∃W:Nat->Nat->St->Hp->Prop,(∃m,W 0 m σ H)/\∀i m σ H,W i m σ H ->
   ((Itr lo n).stop i H/\D.nx σ H)\/((Itr lo n).go i H/\∃N:St->Hp->Prop,(∀ σ' H',N σ' H'->∃m',m'<m/\W (i+1) m' σ' H')/\∀x H',(Itr lo n).yld i H x H'->g x σ H' λσ2 H2=>tb { D with nx:=N,ct:=N,bk:=D.nx } σ2 H2):=by
 refine ⟨λi m σ H=>m=n-i/\i<=n/\Pv i σ H,⟨n,by simp,Nat.zero_le _,h0⟩,?_⟩;rintro i m σ H ⟨rfl,hi,p⟩;by_cases hlt:i<n
 ·refine .inr ⟨hlt,Pv (i+1),λσ' H' p'=>⟨n-(i+1),by lia,rfl,hlt,p'⟩,λx H' y=>?_⟩;obtain ⟨e,y⟩:=y;subst e y;exact hs i σ _ hlt p
 ·have e:i=n:=by lia
  subst e;exact .inl ⟨Nat.le_refl _,hd σ H p⟩
end L2
namespace L2
open PySem PySem.Spec PyProof.Rows
abbrev R2:=V->V->Hp->VK->Prop
def OpR (X:Cx)(f:Value->Value->Sem Value)(r:R2):Prop:=
 ∀(qQ:List (Addr×Obj))(s:Shared)(σ:St)(H:Hp)(x y:V)(v u:Value)(Q:VK),Inv X qQ σ H s->RelV x v->RelV y u->r x y H Q ->
  wpAny (model X.prog X.w) X.A (f v u) (EP X qQ σ Q) X.xe s
def UnR (X:Cx)(f:Value->Sem Value)(r:V->Hp->VK->Prop):Prop:=
 ∀(qQ:List (Addr×Obj))(s:Shared)(σ:St)(H:Hp)(x:V)(v:Value)(Q:VK),Inv X qQ σ H s->RelV x v->r x H Q ->
  wpAny (model X.prog X.w) X.A (f v) (EP X qQ σ Q) X.xe s
def Oj (X:Cx)(f:Value)(r:List V->Hp->VK->Prop):Prop:=
 ∀(qQ:List (Addr×Obj))(s:Shared)(σ:St)(H:Hp)(xs:List V)(us:List Value)(Q:VK),Inv X qQ σ H s->Vals xs us->r xs H Q ->
  wpAny (model X.prog X.w) X.A (call f us) (EP X qQ σ Q) X.xe s
def ZeO (X:Cx)(r:V->Hp->(Bool->Hp->Prop)->Prop):Prop:=
 ∀(qQ:List (Addr×Obj))(s:Shared)(σ:St)(H:Hp)(x:V)(v:Value)(Q:Bool->Hp->Prop),Inv X qQ σ H s->RelV x v->r x H Q ->
  wpAny (model X.prog X.w) X.A (truthy v) (TP X qQ σ Q) X.xe s
def tOp (r:R2)(ta tb:TE):TE:=λσ H Q=>ta σ H λx H1=>tb σ H1 λy H2=>r x y H2 Q
def tUn (r:V->Hp->VK->Prop)(ta:TE):TE:=λσ H Q=>ta σ H λx H1=>r x H1 Q
def rI (C:Int->Int->Prop)(g:Int->Int->V):R2:=λx y H Q=>∃i j,x=.int i/\y=.int j/\C i j/\Q (g i j) H
def rI0 (g:Int->Int->V):R2:=λx y H Q=>∃i j,x=.int i/\y=.int j/\Q (g i j) H
def rU (g:Int->V):V->Hp->VK->Prop:=λx H Q=>∃i,x=.int i/\Q (g i) H
section
variable {X:Cx}{a b c:Expr}{ta tb tc:TE}{pos:Pos}
theorem ZdP (ha:PE X a ta)(hb:PE X b tb){qQ:List (Addr×Obj)}{s:Shared}{σ:St}{H:Hp}{R:V->V->Hp->Prop}(I:Inv X qQ σ H s)(h:ta σ H λx H1=>tb σ H1 λy H2=>R x y H2){Q:Value->Shared->Prop}{f:Value->Value->Sem Value}(hf:∀v u s2 x y H2,Inv X qQ σ H2 s2->RelV x v->RelV y u->R x y H2->wpAny (model X.prog X.w) X.A (f v u) Q X.xe s2) :
  wpAny (model X.prog X.w) X.A (eval a X.env) (λv s₁=>wpAny (model X.prog X.w) X.A (eval b X.env) (λu s₂=>wpAny (model X.prog X.w) X.A (f v u) Q X.xe s₂) X.xe s₁) X.xe s:=by
 refine thn (ha qQ s σ H _ I h) λv s1 ⟨x,H1,I1,r1,q1⟩=>?_;refine thn (hb qQ s1 σ H1 _ I1 q1) λu s2 ⟨y,H2,I2,r2,q2⟩=>?_;exact hf v u s2 x y H2 I2 r1 r2 q2
theorem Gn {op:Operator}{r:R2}(ho:OpR X (binaryOp op) r)(ha:PE X a ta)(hb:PE X b tb):PE X (.BinOp a op b pos) (tOp r ta tb):=by
 intro qQ s σ H Q I h;exact wpAny_BinOp (ZdP ha hb I h λv u s2 x y H2 I2 rx ry q=>ho qQ s2 σ H2 x y v u Q I2 rx ry q)
theorem Uy {op:UnaryOp}{r:V->Hp->VK->Prop}(ho:UnR X (unaryOp op) r)(ha:PE X a ta):PE X (.UnaryOp op a pos) (tUn r ta):=by
 intro qQ s σ H Q I h;exact UnaryOp_ (thn (ha qQ s σ H _ I h) λv s1 ⟨x,H1,I1,r1,q1⟩=>ho qQ s1 σ H1 x v Q I1 r1 q1)
theorem opI {f:Value->Value->Sem Value}{C:Int->Int->Prop}{g:Int->Int->Int}(rule:∀(i j:Int)(t u:Tok)(s:Shared)(Q:Value->Shared->Prop)(E:Value->Shared->Prop),C i j->Q (.int (g i j) s.toks) { s with toks:=s.toks+1 }->wpAny (model X.prog X.w) X.A (f (.int i t) (.int j u)) Q E s) :
  OpR X f (rI C λi j=>.int (g i j)):=by
 intro qQ s σ H x y v u Q I rx ry h;obtain ⟨i,j,rfl,rfl,hc,q⟩:=h;obtain ⟨t,rfl⟩:=rx;obtain ⟨t',rfl⟩:=ry;exact rule i j t t' s _ _ hc ⟨.int (g i j),H,I.tok _,⟨_,rfl⟩,q⟩
theorem Zeu {f:Value->Value->Sem Value}{g:Int->Int->Int}(rule:∀(i j:Int)(t u:Tok)(s:Shared)(Q:Value->Shared->Prop)(E:Value->Shared->Prop),Q (.int (g i j) s.toks) { s with toks:=s.toks+1 }->wpAny (model X.prog X.w) X.A (f (.int i t) (.int j u)) Q E s) :
  OpR X f (rI0 λi j=>.int (g i j)):=by
 intro qQ s σ H x y v u Q I rx ry h;obtain ⟨i,j,rfl,rfl,q⟩:=h;obtain ⟨t,rfl⟩:=rx;obtain ⟨t',rfl⟩:=ry;exact rule i j t t' s _ _ ⟨.int (g i j),H,I.tok _,⟨_,rfl⟩,q⟩
theorem ZdC {f:Value->Value->Sem Value}{g:Int->Int->Bool}(rule:∀(i j:Int)(t u:Tok)(s:Shared)(Q:Value->Shared->Prop)(E:Value->Shared->Prop),Q (.bool (g i j)) s->wpAny (model X.prog X.w) X.A (f (.int i t) (.int j u)) Q E s) :
  OpR X f (rI0 λi j=>.bl (g i j)):=by
 intro qQ s σ H x y v u Q I rx ry h;obtain ⟨i,j,rfl,rfl,q⟩:=h;obtain ⟨t,rfl⟩:=rx;obtain ⟨t',rfl⟩:=ry;exact rule i j t t' s _ _ ⟨.bl (g i j),H,I,rfl,q⟩
def ZeP (i j:Int):Prop:=0<=j/\j<=1000000/\i.natAbs<2 ^ 64
def CMul (i j:Int):Prop:=(-(2 ^ 64)<i/\i<2 ^ 64)\/(-(2 ^ 64)<j/\j<2 ^ 64)
theorem CMul.ok {i j:Int}(h:CMul i j):IntMulOk i j:=by
 rcases h with ⟨h1,h2⟩ | ⟨h1,h2⟩
 ·exact .of_left (intBits_le_64 h1 h2)
 ·exact .of_right (intBits_le_64 h1 h2)
theorem Jd:OpR X (binaryOp .Add) (rI0 λi j=>.int (i+j)):=Zeu λ_ _ _ _ _ _ _ q=>add_int q
theorem Vh:OpR X (binaryOp .Sub) (rI0 λi j=>.int (i-j)):=Zeu λ_ _ _ _ _ _ _ q=>sub_int q
theorem J5:OpR X (binaryOp .Mult) (rI CMul λi j=>.int (i * j)):=opI λ_ _ _ _ _ _ _ hc q=>mul_int q hc.ok
theorem GL:OpR X (binaryOp .Mod) (rI (λ_ j=>0<j) λi j=>.int (i % j)):=opI λi j _ _ _ _ _ hc q=>by
 have h1:(0:Int)<j:=hc;exact mod_int' (by lia) (by rw [Int.fmod_eq_emod_of_nonneg i (by lia)];exact q)
theorem Zb8:OpR X (binaryOp .Pow) (rI ZeP λi j=>.int (i ^ j.toNat)):=opI λ_ _ _ _ _ _ _ hc q=>pow_int_small hc.1 hc.2.1 hc.2.2 q
end
def Zev:V->V->Bool
 | .non,.non=>true | .non,.int _=>true | .int _,.non=>true | .non,.bl _=>true | .bl _,.non=>true | .non,.str _=>true | .str _,.non=>true
 | .int _,.int _=>true | .bl _,.bl _=>true | .str _,.str _=>true | .byt _,.byt _=>true
 | .int _,.str _=>true | .str _,.int _=>true | .bl _,.str _=>true | .str _,.bl _=>true
 | _,_=>false
def rEq:R2:=λx y H Q=>Zev x y=true/\Q (.bl (decide (x=y))) H
def rNe:R2:=λx y H Q=>Zev x y=true/\Q (.bl (!decide (x=y))) H
theorem Xr {i j:Int}:decide (V.int i=V.int j)=(i == j):=by
 rw [Bool.eq_iff_iff];simp
theorem ZH {i j:Bool}:decide (V.bl i=V.bl j)=(i == j):=by
 rw [Bool.eq_iff_iff];simp
theorem Xs {i j:Str}:decide (V.str i=V.str j)=(i == j):=by
 rw [Bool.eq_iff_iff];simp
theorem Xu {i j:Array UInt8}:decide (V.byt i=V.byt j)=(i.toList == j.toList):=by
 rw [Bool.eq_iff_iff];cases i;cases j;simp
section
variable {X:Cx}{a b c:Expr}{ta tb tc:TE}{pos:Pos}
theorem GU {qQ:List (Addr×Obj)}{σ:St}{H:Hp}{s:Shared}{Q:VK}{k k':Bool}(I:Inv X qQ σ H s)(q:Q (.bl k) H)(e:k=k'):EP X qQ σ Q (.bool k') s:=by
 subst e;exact ⟨.bl k,H,I,rfl,q⟩
theorem Jj:OpR X (compareOp .Eq) rEq:=by
 intro qQ s σ H x y v u Q I rx ry h;obtain ⟨hs,q⟩:=h;cases x with
 | non=>
  cases rx;cases y with
  | non=>cases ry;exact PySem.EqNone.eq_none_none (GU I q (by simp))
  | bl j=>cases ry;exact PySem.EqNone.eq_none_bool (GU I q (by simp))
  | int j=>obtain ⟨t',rfl⟩:=ry;exact PySem.EqNone.eq_none_int (GU I q (by simp))
  | str j=>obtain ⟨t',rfl⟩:=ry;exact PySem.EqNone.eq_none_str (GU I q (by simp))
  | _=>exact absurd (show false=true from hs) Bool.false_ne_true
 | bl i=>
  cases rx;cases y with
  | non=>cases ry;exact PySem.EqNone.eq_bool_none (GU I q (by simp))
  | bl j=>cases ry;exact eq_bool (GU I q ZH)
  | str j=>obtain ⟨t',rfl⟩:=ry;exact PySem.EqMixed.eq_bool_str (GU I q (by simp))
  | _=>exact absurd (show false=true from hs) Bool.false_ne_true
 | int i=>
  obtain ⟨t,rfl⟩:=rx;cases y with
  | non=>cases ry;exact PySem.EqNone.eq_int_none (GU I q (by simp))
  | int j=>obtain ⟨t',rfl⟩:=ry;exact eq_int (GU I q Xr)
  | str j=>obtain ⟨t',rfl⟩:=ry;exact PySem.EqMixed.eq_int_str (GU I q (by simp))
  | _=>exact absurd (show false=true from hs) Bool.false_ne_true
 | str i=>
  obtain ⟨t,rfl⟩:=rx;cases y with
  | non=>cases ry;exact PySem.EqNone.eq_str_none (GU I q (by simp))
  | bl j=>cases ry;exact PySem.EqMixed.eq_str_bool (GU I q (by simp))
  | int j=>obtain ⟨t',rfl⟩:=ry;exact PySem.EqMixed.eq_str_int (GU I q (by simp))
  | str j=>obtain ⟨t',rfl⟩:=ry;exact eq_str (GU I q Xs)
  | _=>exact absurd (show false=true from hs) Bool.false_ne_true
 | byt i=>
  obtain ⟨t,rfl⟩:=rx;cases y with
  | byt j=>obtain ⟨t',rfl⟩:=ry;exact W.eq_bytes (GU I q Xu)
  | _=>exact absurd (show false=true from hs) Bool.false_ne_true
 | _=>cases y <;> exact absurd (show false=true from hs) Bool.false_ne_true
theorem Uz:OpR X (compareOp .NotEq) rNe:=by
 intro qQ s σ H x y v u Q I rx ry h;obtain ⟨hs,q⟩:=h;cases x with
 | non=>
  cases rx;cases y with
  | non=>cases ry;exact PySem.EqNone.ne_none_none (GU I q (by simp))
  | bl j=>cases ry;exact PySem.EqNone.ne_none_bool (GU I q (by simp))
  | int j=>obtain ⟨t',rfl⟩:=ry;exact PySem.EqNone.ne_none_int (GU I q (by simp))
  | str j=>obtain ⟨t',rfl⟩:=ry;exact PySem.EqNone.ne_none_str (GU I q (by simp))
  | _=>exact absurd (show false=true from hs) Bool.false_ne_true
 | bl i=>
  cases rx;cases y with
  | non=>cases ry;exact PySem.EqNone.ne_bool_none (GU I q (by simp))
  | bl j=>cases ry;exact ne_bool (GU I q (congrArg not ZH))
  | str j=>obtain ⟨t',rfl⟩:=ry;exact PySem.EqMixed.ne_bool_str (GU I q (by simp))
  | _=>exact absurd (show false=true from hs) Bool.false_ne_true
 | int i=>
  obtain ⟨t,rfl⟩:=rx;cases y with
  | non=>cases ry;exact PySem.EqNone.ne_int_none (GU I q (by simp))
  | int j=>obtain ⟨t',rfl⟩:=ry;exact ne_int (GU I q (congrArg not Xr))
  | str j=>obtain ⟨t',rfl⟩:=ry;exact PySem.EqMixed.ne_int_str (GU I q (by simp))
  | _=>exact absurd (show false=true from hs) Bool.false_ne_true
 | str i=>
  obtain ⟨t,rfl⟩:=rx;cases y with
  | non=>cases ry;exact PySem.EqNone.ne_str_none (GU I q (by simp))
  | bl j=>cases ry;exact PySem.EqMixed.ne_str_bool (GU I q (by simp))
  | int j=>obtain ⟨t',rfl⟩:=ry;exact PySem.EqMixed.ne_str_int (GU I q (by simp))
  | str j=>obtain ⟨t',rfl⟩:=ry;exact ne_str (GU I q (congrArg not Xs))
  | _=>exact absurd (show false=true from hs) Bool.false_ne_true
 | byt i=>
  obtain ⟨t,rfl⟩:=rx;cases y with
  | byt j=>obtain ⟨t',rfl⟩:=ry;exact W.ne_bytes (GU I q (congrArg not Xu))
  | _=>exact absurd (show false=true from hs) Bool.false_ne_true
 | _=>cases y <;> exact absurd (show false=true from hs) Bool.false_ne_true
theorem Zai:OpR X (compareOp .Lt) (rI0 λi j=>.bl (decide (i<j))):=ZdC λ_ _ _ _ _ _ _ q=>lt_int q
theorem Zaj:OpR X (compareOp .LtE) (rI0 λi j=>.bl (decide (i<=j))):=ZdC λ_ _ _ _ _ _ _ q=>le_int q
theorem Xv:OpR X (compareOp .Gt) (rI0 λi j=>.bl (decide (j<i))):=ZdC λ_ _ _ _ _ _ _ q=>gt_int q
theorem ZdQ:OpR X (compareOp .GtE) (rI0 λi j=>.bl (decide (j<=i))):=ZdC λ_ _ _ _ _ _ _ q=>ge_int q
theorem Xw:OpR X (compareOp .Is) (λx y H Q=>y=.non/\Q (.bl (decide (x=.non))) H):=by
 intro qQ s σ H x y v u Q I rx ry h;obtain ⟨rfl,q⟩:=h;cases ry;refine is_none_gen (GU I q ?_);cases x <;> first
  | (cases rx;rfl)
  | (obtain ⟨t,rfl⟩:=rx;rfl)
theorem Zak:OpR X (compareOp .IsNot) (λx y H Q=>y=.non/\Q (.bl (!decide (x=.non))) H):=by
 intro qQ s σ H x y v u Q I rx ry h;obtain ⟨rfl,q⟩:=h;cases ry;refine isnot_none_gen (GU I q ?_);cases x <;> first
  | (cases rx;rfl)
  | (obtain ⟨t,rfl⟩:=rx;rfl)
theorem Gq (b:Expr){op:CmpOp}(h:op≠.In:=by decide)(h2:op≠.NotIn:=by decide):behindInMarks op b=false:=by
 have e1:(op == CmpOp.In)=false:=by cases op <;> first | rfl | exact absurd rfl h
 have e2:(op == CmpOp.NotIn)=false:=by cases op <;> first | rfl | exact absurd rfl h2
 cases b <;> simp [behindInMarks,e1,e2]
theorem J7 {op:CmpOp}{r:R2}(ho:OpR X (compareOp op) r)(ha:PE X a ta)(hb:PE X b tb)(hm:behindInMarks op b=false):PE X (.Compare a [op] [b] pos) (tOp r ta tb):=by
 intro qQ s σ H Q I h;exact wpAny_Compare1 (ZdP ha hb I h λv u s2 x y H2 I2 rx ry q=>ho qQ s2 σ H2 x y v u Q I2 rx ry q) hm
def WT (t:TE):TT:=λσ H Q=>t σ H λx H'=>∃k,x=.bl k/\Q k H'
theorem Gj {op:CmpOp}{r:R2}(ho:OpR X (compareOp op) r)(ha:PE X a ta)(hb:PE X b tb)(hm:behindInMarks op b=false):PT X (.Compare a [op] [b] pos) (WT (tOp r ta tb)):=by
 intro qQ s σ H Q I h;refine wpAny_isTrue_Compare1 (thn (ha qQ s σ H _ I h) λv s1 ⟨x,H1,I1,r1,q1⟩=>thn (hb qQ s1 σ H1 _ I1 q1) λu s2 ⟨y,H2,I2,r2,q2⟩=>
  thn (ho qQ s2 σ H2 x y v u _ I2 r1 r2 q2) λc s3 ⟨z,H3,I3,r3,k,e,q3⟩=>?_) hm
 subst e;cases r3;exact wpAny_truthy_bool ⟨H3,I3,q3⟩
def ZI (r r':R2)(ta tb tc:TE):TE:=λσ H Q=>ta σ H λx H1=>tb σ H1 λy H2=>r x y H2 λz H3=>∃k,z=.bl k /\
 (if k=true then tc σ H3 λw' H4=>r' y w' H4 Q else Q (.bl false) H3)
theorem YI {op op':CmpOp}{r r':R2}(ho:OpR X (compareOp op) r)(ho':OpR X (compareOp op') r')(ha:PE X a ta)(hb:PE X b tb)(hc:PE X c tc)(hm:lastMarks [op,op'] [b,c]=false:=by with_unfolding_all rfl):PE X (.Compare a [op,op'] [b,c] pos) (ZI r r' ta tb tc):=by
 intro qQ s σ H Q I h;refine Compare_chain (thn (ha qQ s σ H _ I h) λv s1 ⟨x,H1,I1,r1,q1⟩=>chain_link (thn (hb qQ s1 σ H1 _ I1 q1) λu s2 ⟨y,H2,I2,r2,q2⟩=>
  thn (ho qQ s2 σ H2 x y v u _ I2 r1 r2 q2) λd s3 ⟨z,H3,I3,r3,k,e,q3⟩=>?_)) hm
 subst e;cases r3;refine wpAny_truthy_bool ?_;cases k with
 | false=>exact ite_ff ⟨.bl false,H3,I3,rfl,q3⟩
 | true=>exact ite_tt (chain_last (thn (hc qQ s3 σ H3 _ I3 q3) λw' s4 ⟨z',H4,I4,r4,q4⟩=>ho' qQ s4 σ H4 y z' u w' Q I4 r2 r4 q4))
theorem YJ {op op':CmpOp}{r r':R2}(ho:OpR X (compareOp op) r)(ho':OpR X (compareOp op') r')(ha:PE X a ta)(hb:PE X b tb)(hc:PE X c tc)(hm:lastMarks [op,op'] [b,c]=false:=by with_unfolding_all rfl):PT X (.Compare a [op,op'] [b,c] pos) (WT (ZI r r' ta tb tc)):=by
 intro qQ s σ H Q I h;refine isTrue_chain (thn (ha qQ s σ H _ I h) λv s1 ⟨x,H1,I1,r1,q1⟩=>test_link (thn (hb qQ s1 σ H1 _ I1 q1) λu s2 ⟨y,H2,I2,r2,q2⟩=>
  thn (ho qQ s2 σ H2 x y v u _ I2 r1 r2 q2) λd s3 ⟨z,H3,I3,r3,k,e,q3⟩=>?_)) hm
 subst e;cases r3;refine wpAny_truthy_bool ?_;cases k with
 | false=>
  obtain ⟨k',e',q'⟩:=q3;cases e';exact ite_ff ⟨H3,I3,q'⟩
 | true=>
  refine ite_tt (test_last (thn (hc qQ s3 σ H3 _ I3 q3) λw' s4 ⟨z',H4,I4,r4,q4⟩=>thn (ho' qQ s4 σ H4 y z' u w' _ I4 r2 r4 q4) λd' s5 ⟨z2,H5,I5,r5,k2,e2,q5⟩=>?_));subst e2;cases r5;exact wpAny_truthy_bool ⟨H5,I5,q5⟩
def ZdR (K:W.Frag)(x:V)(H:Hp)(k:Bool):Prop:=
 match x with
 | .non=>k=false
 | .bl b=>k=b
 | .int i=>k=(i != 0)
 | .str y=>y.length<=sizeLine/\k=((y.length:Int) != 0)
 | .byt y=>y.size<=sizeLine/\k=((y.size:Int) != 0)
 | .ref p=>(∃xs,SqL K H p xs/\k=!xs.isEmpty)\/(∃xs,SqT K H p xs/\k=!xs.isEmpty)\/∃kvs,H p=some (.dK kvs)/\k=!kvs.isEmpty
 | _=>False
theorem WU {κ:Type}{kvs:List (κ×V)}{vs:List (κ×Value)}(r:KV kvs vs):(!vs.isEmpty)=!kvs.isEmpty:=by
 cases r <;> rfl
theorem UH {xs:List V}{its:List Value}(r:Vals xs its):(!its.toArray.isEmpty)=!xs.isEmpty:=by
 cases r <;> simp
theorem Uh:(sizeLine:Nat)<2 ^ 63:=by rw [sizeLine_eq];decide
theorem ZJ:ZeO X (λx H Q=>∃k,ZdR X.K x H k/\Q k H):=by
 intro qQ s σ H x v Q I rx h;obtain ⟨k,e,q⟩:=h;have hl:=Uh;have hs:sizeLine=16777216:=sizeLine_eq;cases x with
 | non=>
  cases rx;have e':k=false:=e;subst e';exact truthy_none ⟨H,I,q⟩
 | bl b=>
  cases rx;have e':k=b:=e;subst e';exact wpAny_truthy_bool ⟨H,I,q⟩
 | int i=>
  obtain ⟨t,rfl⟩:=rx;have e':k=(i != 0):=e;subst e';exact PySem.P.truthy_int ⟨H,I,q⟩
 | str y=>
  obtain ⟨t,rfl⟩:=rx;obtain ⟨hy,e'⟩:y.length<=sizeLine/\k=((y.length:Int) != 0):=e;subst e';exact PySem.P.truthy_str (by lia) ⟨H,I.tok _,q⟩
 | byt y=>
  obtain ⟨t,rfl⟩:=rx;obtain ⟨hy,e'⟩:y.size<=sizeLine/\k=((y.size:Int) != 0):=e;subst e';exact W.truthy_bytes (by lia) ⟨H,I.tok _,q⟩
 | ref p=>
  cases rx;have e':(∃xs,SqL X.K H p xs/\k=!xs.isEmpty)\/(∃xs,SqT X.K H p xs/\k=!xs.isEmpty)\/∃kvs,H p=some (.dK kvs)/\k=!kvs.isEmpty:=e;rcases e' with ⟨xs,hx,e'⟩ | ⟨xs,hx,e'⟩ | ⟨kvs,hx,e'⟩
  ·subst e';obtain ⟨its,r,pl,hz⟩:=I.list hx;have qJ:=r.length;exact wpAny_truthy_list pl.isList (by simp only [List.size_toArray];lia) ⟨H,I.tok _,by rw [UH r];exact q⟩
  ·subst e';obtain ⟨its,r,pl,hz⟩:=I.tuple hx;have qJ:=r.length;exact truthy_tuple pl (by simp only [List.size_toArray];lia) ⟨H,I.tok _,by rw [UH r];exact q⟩
  ·subst e';obtain ⟨hz,hS,vs,r,m⟩:kvs.length<=sizeLine/\(p == sysModules)=false/\∃vs,KV kvs vs/\s.heap.DictOf (VN X.prog X.w) p vs:=I.hok p _ hx;have qJ:kvs.length=vs.length:=Paired.length r;exact wpAny_truthy_dict hS m (by lia) ⟨H,I.tok _,by rw [WU r];exact q⟩
 | _=>exact (show False from e).elim
theorem Oz (ha:PE X a ta)(he:∀whole,isTrue a X.env whole=(do let v <- whole;standAt a.pos;holding [v] (truthy v))) :
  PT X a (λσ H Q=>ta σ H λx H'=>∃k,ZdR X.K x H' k/\Q k H'):=by
 intro qQ s σ H Q I h;exact isTrue_plain (thn (ha qQ s σ H _ I h) λv s1 ⟨x,H1,I1,r1,q1⟩=>ZJ qQ s1 σ H1 x v Q I1 r1 q1) (he _)
theorem Xx {x:V}{us:List Value}(r:Vals [x] us):∃u,us=[u]/\RelV x u:=by
 cases r with
 | cons r1 r2=>cases r2;exact ⟨_,rfl,r1⟩
theorem ZdS {x y:V}{us:List Value}(r:Vals [x,y] us):∃u w',us=[u,w']/\RelV x u/\RelV y w':=by
 cases r with
 | cons r1 r2=>
  cases r2 with
  | cons r3 r4=>cases r4;exact ⟨_,_,rfl,r1,r3⟩
theorem Xy (hc:X.calm=true):Oj X (.builtin "max") (λxs H Q=>∃i j,xs=[.int i,.int j]/\Q (.int (if j > i then j else i)) H):=by
 intro qQ s σ H xs us Q I r h;obtain ⟨i,j,rfl,q⟩:=h;obtain ⟨u,w',rfl,⟨t,rfl⟩,⟨t',rfl⟩⟩:=ZdS r;refine max_two_ints (I.ok.hd hc) λh' tk k=>⟨_,H,I.kept k,?_,q⟩;by_cases hj:j > i
 ·rw [if_pos hj,if_pos hj];exact ⟨_,rfl⟩
 ·rw [if_neg hj,if_neg hj];exact ⟨_,rfl⟩
theorem Ui:Oj X (.type "int") (λxs H Q=>(∃i,xs=[.int i]/\Q (.int i) H)\/∃k,xs=[.bl k]/\Q (.int (if k then 1 else 0)) H):=by
 intro qQ s σ H xs us Q I r h;rcases h with ⟨i,rfl,q⟩ | ⟨k,rfl,q⟩
 ·obtain ⟨u,rfl,t,rfl⟩:=Xx r;exact call_int_int ⟨.int i,H,I,⟨_,rfl⟩,q⟩
 ·obtain ⟨u,rfl,r1⟩:=Xx r;cases r1;exact call_int_bool ⟨.int (if k then 1 else 0),H,I.tok _,⟨_,rfl⟩,q⟩
end
end L2
namespace L2
open PySem PySem.Spec PyProof.Rows
structure ObjM (h:Heap)(x dx C:Addr)(mA:Str->Option Value):Prop where
 obj:h.get? x=some (W.instObj C dx)
 ns:h.Ns1 dx mA
 ne:dx≠x
theorem Xz {h:Heap}{dx:Addr}{mA:Str->Option Value}(n:h.Ns1 dx mA):∃od,h.get? dx=some od/\∀name,W.lookIn name od=some (mA name):=by
 obtain ⟨o,es,ep,ho,hd,hk,_,hm⟩:=n;refine ⟨o,ho,λname=>?_⟩;have e:=hm name;unfold nsFind findBy at e;rw [<-Array.find?_toList] at e;unfold W.lookIn;rw [hd];dsimp only;split
 ·rename_i y q;rw [q] at e;exact congrArg some e
 ·rename_i q;rw [q] at e;have a:es.toList.any (·.refKey)=false:=by
   rw [List.any_eq_false];intro y hy;obtain ⟨z,t,hkey⟩:=hk y (Array.mem_toList_iff.mp hy);simp [DictEntry.refKey,hkey]
  have a':¬ es.toList.any (·.refKey)=true:=by rw [a];exact Bool.false_ne_true
  rw [if_neg a'];exact congrArg some e
theorem ObjM.look {h:Heap}{x dx C:Addr}{mA:Str->Option Value}(I:ObjM h x dx C mA):∃od,W.InstAt h x (W.instObj C dx) C (some od)/\∀name,W.lookIn name od=some (mA name):=
 let ⟨od,ho,hl⟩:=Xz I.ns
 ⟨od,⟨I.obj,rfl,rfl,ho⟩,hl⟩
section
variable {P:Program}{w:World}{H H':Hp}{h h':Heap}{a C dx:Addr}{fs fs':List (Str×V)}
theorem Zal (hok:HOk P w H h)(e:H a=some (.ins C dx fs)):∃mA,ObjM h a dx C mA/\(∀f,ZdF (fs.lookup f) (mA f))/\PySem.Within mA (fs.map (·.1))/\fs.length<=1000/\H dx=some (.own a):=by
 obtain ⟨d,z,ne,ob,mA,n,r,q⟩:=(show ObjOk P w H h a (.ins C dx fs) from hok a _ e);exact ⟨mA,⟨ob,n,ne⟩,r,q,z,d⟩
end
structure Cls (K:W.Frag)(C:Addr):Prop where
 pg:W.plainGet K C Str.empty=true
 hd:W.hasDictIn K C=true
 po:W.plainOver K C=true
 sa:W.findIn K (.ref C) "__setattr__" = some (some (.builtin "object.__setattr__"))
theorem Cls.get {K:W.Frag}{C:Addr}(c:Cls K C)(f:Str):W.plainGet K C f=true:=c.pg
section
variable {X:Cx}{qQ:List (Addr×Obj)}{σ:St}{H:Hp}{s:Shared}{A:Around}{E:Value->Shared->Prop}{Q:Value->Shared->Prop}{c:Value}{b:Bool}
inductive TyOf (K:W.Frag)(H:Hp):V->Value->Prop where
 | non:TyOf K H .non (.type "NoneType")
 | bl (x:Bool):TyOf K H (.bl x) (.type "bool")
 | int (i:Int):TyOf K H (.int i) (.type "int")
 | str (x:Str):TyOf K H (.str x) (.type "str")
 | flt (x:UInt64):TyOf K H (.flt x) (.type "float")
 | lst {a:Addr} {xs:List V} (e:H a=some (.lst xs)):TyOf K H (.ref a) (.type "list")
 | frz {a:Addr} {o:Obj} {xs:List V} (e:H a=some (.frz o (.lst xs))):TyOf K H (.ref a) (.type "list")
 | tup {a:Addr} {xs:List V} (e:H a=some (.tup xs)):TyOf K H (.ref a) (.type "tuple")
 | dK {a:Addr} {kvs:List (Key×V)} (e:H a=some (.dK kvs)):TyOf K H (.ref a) (.type "dict")
 | dT {a:Addr} {kvs:List (List Key×V)} (e:H a=some (.dT kvs)):TyOf K H (.ref a) (.type "dict")
 | ins {a C dx:Addr} {fs:List (Str×V)} (e:H a=some (.ins C dx fs)) (cl:Cls K C) (ha:W.findIn K (.ref C) "__class__" = some (some (.builtin "object.__class__")))
   (hn:W.specialIn K (.builtin "object.__class__") "__get__" = some (some (.builtin "getset_descriptor.__get__"))) (htk:W.takesIn K (.builtin "object.__class__")=some true)
   (hm:W.mroIn K C (.type "object")=some true):TyOf K H (.ref a) (.ref C)
theorem XA {x:V}{u t:Value}(I:Inv X qQ σ H s)(rx:RelV x u)(ty:TyOf X.K H x t)(e:W.kitOne X.K t c=some b)(h:∀tk,Q (.bool b) { s with toks:=tk }) :
  wpAny (model X.prog X.w) A (call (.builtin "isinstance") [u,c]) Q E s:=by
 cases ty with
 | non=>cases (show u=Value.none from rx);exact W.kia_one W.kitx_none I.kIn True.intro e (λz=>nomatch z) h
 | bl y=>cases (show u=Value.bool y from rx);exact W.kia_one W.kitx_bool I.kIn True.intro e (λz=>nomatch z) h
 | int i=>obtain ⟨t,q⟩:=(show ∃t,u=Value.int i t from rx);cases q;exact W.kia_one W.kitx_int I.kIn True.intro e (λz=>nomatch z) h
 | str y=>obtain ⟨t,q⟩:=(show ∃t,u=Value.str y t from rx);cases q;exact W.kia_one W.kitx_str I.kIn True.intro e (λz=>nomatch z) h
 | flt y=>obtain ⟨t,q⟩:=(show ∃t,u=Value.float y t from rx);cases q;exact W.kia_one W.kitx_float I.kIn True.intro e (λz=>nomatch z) h
 | @lst a xs ea=>
  cases (show u=Value.ref a from rx);obtain ⟨_,_,n,_,h1⟩:=(show ObjOk X.prog X.w H s.heap a (.lst xs) from I.hok a _ ea);exact W.kia_one W.kitx_list I.kIn ⟨_,h1,rfl⟩ e (λz=>nomatch z) h
 | @frz a ob xs ea=>
  cases (show u=Value.ref a from rx);obtain ⟨_,_,_,n,_,h1⟩:=(show ObjOk X.prog X.w H s.heap a (.frz ob (.lst xs)) from I.hok a _ ea);exact W.kia_one W.kitx_list I.kIn ⟨_,h1,rfl⟩ e (λz=>nomatch z) h
 | @tup a xs ea=>
  cases (show u=Value.ref a from rx);obtain ⟨_,_,_,p⟩:=(show ObjOk X.prog X.w H s.heap a (.tup xs) from I.hok a _ ea);obtain ⟨o,h1,h2,_⟩:=p;exact W.kia_one W.kitx_tuple I.kIn ⟨o,h1,h2⟩ e (λz=>nomatch z) h
 | @dK a kvs ea=>
  cases (show u=Value.ref a from rx);obtain ⟨_,_,vs,_,p⟩:=(show ObjOk X.prog X.w H s.heap a (.dK kvs) from I.hok a _ ea);obtain ⟨o,es,ep,h1,h2,_⟩:=p;exact W.kia_one W.kitx_dict I.kIn ⟨o,h1,h2.1⟩ e (λz=>nomatch z) h
 | @dT a kvs ea=>
  cases (show u=Value.ref a from rx);obtain ⟨_,_,xs,_,o,es,ep,h1,h2,_⟩:=(show ObjOk X.prog X.w H s.heap a (.dT kvs) from I.hok a _ ea);exact W.kia_one W.kitx_dict I.kIn ⟨o,h1,h2.1⟩ e (λz=>nomatch z) h
 | @ins a C dx fs ea cl ha hn htk hm=>
  cases (show u=Value.ref a from rx);obtain ⟨mA,O,_⟩:=Zal I.hok ea;obtain ⟨od,J,_⟩:=O.look;exact W.kia_one (W.kitx_own (cl.get _) cl.hd ha hn htk hm) I.kIn J e (λz=>nomatch z) h
end
end L2
namespace L2
open PySem PySem.Spec PyProof.Rows
structure Room (k:Nat)(A:Around):Prop where
 hd:A.handled=none
 dp:A.depth+3 * k+5<recursionLimit
 un:A.units+16 * k+200<cLine
theorem Room.mono {j k:Nat}{A:Around}(r:Room k A)(h:j<=k):Room j A:=⟨r.hd,by have:=r.dp;lia,by have:=r.un;lia⟩
theorem Room.deeper {k:Nat}{A:Around}(r:Room (k+1) A)(env:Env):Room k (A.deeper env):=
 ⟨r.hd,by have:=r.dp;show A.depth+1+3 * k+5<_;lia,by have:=r.un;show A.units+3+16 * k+200<_;lia⟩
theorem Room.depth {k:Nat}{A:Around}(r:Room k A):A.depth<recursionLimit:=by have:=r.dp;lia
theorem Room.units {k:Nat}{A:Around}(r:Room k A):A.units+64<cLine:=by have:=r.un;lia
def Xi:TA:=λ_ H Q=>Q [] H
def JQ (ta:TE)(tr:TA):TA:=λσ H Q=>ta σ H λx H1=>tr σ H1 λxs H2=>Q (x::xs) H2
section
variable {X:Cx}{e:Expr}{es:List Expr}{te:TE}{t:TA}{pos:Pos}
theorem Gd:PA X [] Xi:=λ_ _ _ _ H Q I h=>Calls.spliced_nil ⟨[],H,I,.nil,h⟩
theorem Ga (ha:PE X e te)(hr:PA X es t)(hs:starEach (e::es) X.env=(false,eval e X.env)::starEach es X.env:=by rfl):PA X (e::es) (JQ te t):=by
 intro pos qQ s σ H Q I h;rw [hs];show wpAny _ _ (spliced ((false,eval e X.env)::backTo pos (starEach es X.env))) _ _ s;refine Calls.spliced_cons (thn (ha qQ s σ H _ I h) λu s1 ⟨x,H1,I1,r1,q1⟩=>?_);exact thn (hr pos qQ s1 σ H1 _ I1 q1) λus s2 ⟨xs,H2,I2,r2,q2⟩=>⟨x::xs,H2,I2,.cons r1 r2,q2⟩
def ZdD (t:TA):TE:=λσ H Q=>t σ H λxs H1=>xs.length<=sizeLine/\∀p,H1 p=none->Q (.ref p) (upd H1 p (.tup xs))
def Zew (t:TA):TE:=λσ H Q=>t σ H λxs H1=>xs.length<=sizeLine/\∀p,H1 p=none->Q (.ref p) (upd H1 p (.lst xs))
theorem Je {x1}(h:PA X es t):PE X (.Tuple es x1 pos) (ZdD t):=by
 intro qQ s σ H Q I hq;refine wpAny_Tuple_spliced (thn (h pos qQ s σ H _ I hq) λus s1 ⟨xs,H1,I1,r,z,q⟩=>⟨by rw [<-r.length];exact z,?_⟩);have hf:H1 s1.heap.objs.size=none:=I1.hok.fresh (Nat.le_refl _);refine ⟨.ref s1.heap.objs.size,upd H1 s1.heap.objs.size (.tup xs),I1.laid (t':=s1.toks) (λb u e=>Heap.get?_push_of_some _ e) (Nat.le_refl _) ?_,rfl,q _ hf⟩;exact ⟨z,us,r,⟨_,Heap.get?_push_size _ rfl,rfl,_,rfl⟩⟩
theorem GO (h:PA X es t):PE X (.List es pos) (Zew t):=by
 intro qQ s σ H Q I hq;refine wpAny_List_spliced (thn (h pos qQ s σ H _ I hq) λus s1 ⟨xs,H1,I1,r,z,q⟩=>⟨by rw [<-r.length];exact z,?_⟩);have hf:H1 s1.heap.objs.size=none:=I1.hok.fresh (Nat.le_refl _);refine ⟨.ref s1.heap.objs.size,upd H1 s1.heap.objs.size (.lst xs),I1.laid (t':=s1.toks) (λb u e=>Heap.get?_push_of_some _ e) (Nat.le_refl _) ?_,rfl,q _ hf⟩;exact ⟨z,us,0,r,Heap.get?_push_size _ rfl⟩
end
abbrev Sp:=List V->Hp->VK->XK->Prop
abbrev CXT:=List Env->Hp->Shared->XK->Value->Shared->Prop
structure Zam (P:Program)(w:World)(K:W.Frag)(mg:Str->Option Value)(base:Heap)(A:Around)(outer:List Env)(s:Shared)(H:Hp):Prop where
 frames:A.frames=some outer
 mod:Mod K mg base
 bs:∀b o,base.get? b=some o->s.heap.get? b=some o/\H b=none
 bsz:base.objs.size<=s.heap.objs.size
 funs:s.heap.FunFrames base outer
 frf:∀b∈frs outer,H b=none
 hok:HOk P w H s.heap
 bare:AllBare s.gens
def CE (outer:List Env)(P:Program)(w:World)(H:Hp)(s:Shared)(Q:VK)(u:Value)(s':Shared):Prop:=
 ∃v H',s'.os=s.os/\AllBare s'.gens/\Un (frs outer) [] H H' s.heap s'.heap/\HOk P w H' s'.heap/\RelV v u/\Q v H'
def CR (CX:CXT)(outer:List Env)(P:Program)(w:World)(H:Hp)(s:Shared)(Q:VK)(E:XK)(r:Result)(s':Shared):Prop:=
 match r with
 | .ok (.ret u)=>CE outer P w H s Q u s'
 | .ok _=>False
 | .error e=>CX outer H s E e s'
structure Jl (P:Program)(w:World)(K:W.Frag)(mg:Str->Option Value)(base:Heap)(CX:CXT)(k:Nat)(f:Addr)(fd:FuncData)(ps:List Str)(sp:Sp):Prop where
 len:∀vs H Q E,sp vs H Q E->vs.length=ps.length
 run:∀(A:Around)(outer:List Env)(s:Shared)(H:Hp)(args:Args)(us:List Value)(vs:List V)(Q:VK)(E:XK),Room k A->Zam P w K mg base A outer s H->BindsTo s fd args (ps.zip us)->Vals vs us->sp vs H Q E ->
  codeAny (model P w) A (.call (.ref f) args) (CR CX outer P w H s Q E) s
section
variable {X:Cx}{qQ:List (Addr×Obj)}{σ:St}{H:Hp}{s s':Shared}
theorem Inv.env0 (I:Inv X qQ σ H s):Zam X.prog X.w X.K X.mg X.base X.A X.stack s H:=
 ⟨I.ok.frames,I.ok.mod,I.bs,Nat.le_trans I.ok.bsz I.sz,I.stack,I.stkFree,I.hok,I.bare⟩
theorem Inv.after {Q:VK}{u:Value}(I:Inv X qQ σ H s)(h:CE X.stack X.prog X.w H s Q u s'):EP X qQ σ Q u s':=by
 obtain ⟨v,H',os,bare,un,hok,r,q⟩:=h;obtain ⟨hh,g,d,t,os'⟩:=s';obtain rfl:os'=s.os:=os;exact ⟨v,H',I.call (h':=hh) (g':=g) (d':=d) (t':=t) (ch:=[]) un hok bare (λb z=>absurd z (by simp)),r,q⟩
end
def VP (sp:Sp)(dvs:List V)(E:XK)(t:TA):TE:=λσ H Q=>t σ H λvs H1=>sp (vs++dvs) H1 Q E
def Binds (K:W.Frag)(fd:FuncData)(ps:List Str)(ds:List Value):Prop:=
 ∀(s:Shared)(us:List Value),K.In s.heap->(us++ds).length=ps.length->BindsTo s fd ⟨us,[]⟩ (ps.zip (us++ds))
theorem Binds.all {K:W.Frag}{fd:FuncData}{ps:List Str}(h:∀us:List Value,us.length=ps.length->bindArgs fd ⟨us,[]⟩=pure (ps.zip us)):Binds K fd ps []:=λs us _ hl=>by
 rw [List.append_nil] at hl ⊢;exact .of_eq (h us hl)
def OU (CX:CXT)(X:Cx)(E:XK):Prop:=∀(qQ:List (Addr×Obj))(σ:St)(H:Hp)(s:Shared)(e:Value)(s':Shared),Inv X qQ σ H s->CX X.stack H s E e s'->X.xe e s'
section
variable {X:Cx}{CX:CXT}{k:Nat}{f C:Addr}{fd:FuncData}{ps:List Str}{sp:Sp}{dvs:List V}{ds:List Value}{E:XK}{x m:Str}{p pos apos:Pos}{e o:Expr}{es:List Expr}{ta:TE}{t:TA}
theorem We {qQ:List (Addr×Obj)}{σ:St}{H:Hp}{s:Shared}{Q:VK}{us:List Value}{vs:List V}(F:Jl X.prog X.w X.K X.mg X.base CX k f fd ps sp)(hr:Room k X.A)(hb:Binds X.K fd ps ds)(hd:Vals dvs ds)(hx:OU CX X E)(I:Inv X qQ σ H s)(r:Vals vs us)(h:sp (vs++dvs) H Q E):wpAny (model X.prog X.w) X.A (call (.ref f) us) (EP X qQ σ Q) X.xe s:=by
 have r2:Vals (vs++dvs) (us++ds):=r.append hd;have hl:(us++ds).length=ps.length:=by rw [<-r2.length];exact F.len _ _ _ _ h
 refine wpAny_call (codeAny_mono (F.run X.A X.stack s H ⟨us,[]⟩ (us++ds) (vs++dvs) Q E hr I.env0 (hb s us I.kIn hl) r2 h) λr s' hq=>?_);cases r with
 | error e=>exact hx qQ σ H s e s' I hq
 | ok fl=>
  cases fl with
  | ret u=>exact I.after hq
  | next=>exact False.elim hq
  | brk=>exact False.elim hq
  | cont=>exact False.elim hq
theorem GH (F:Jl X.prog X.w X.K X.mg X.base CX k f fd ps sp)(hr:Room k X.A)(hg:Gl X x)(hm:X.mg x=some (.ref f))(hk:W.keepIn X.K (.ref f)=true)(hb:Binds X.K fd ps ds)(hd:Vals dvs ds)(hx:OU CX X E)(ha:PA X (e::es) t)(hdb:(x == ("__debug__" : Str))=false:=by decide)(he:starEach (e::es) X.env=(false,eval e X.env)::starEach es X.env:=by rfl)(hpl:(backTo pos (starEach es X.env)).any (·.1)=false:=by rfl) :
  PE X (.Call (.Name x p) (e::es) [] pos) (VP sp dvs E t):=by
 intro qQ s σ H Q I h;refine wpAny_Call_Name_kw (Oo I hg hm ?_ hdb);refine W.callWith_K (h₀:=X.base) I.ok.mod.kin hk (thn (ha pos qQ s σ H _ I h) λus s1 ⟨vs,H1,I1,r,q⟩=>⟨I1.kIn,?_⟩) he hpl;exact We F hr hb hd hx I1 r q
end
structure Gz (N P:List Str)(sc:Scope):Prop where
 kind:sc.kind=.function
 co:sc.isCoroutine=false
 gen:sc.isGenerator=false
 nd:N.Nodup
 pre:N.take P.length=P
 par:∀x∈P,sc.names.lookup x=some .local\/sc.names.lookup x=some .cell
 nofree:∀y∈sc.names,y.2≠.free
theorem Vi {kindOf:Str->Option NameKind}{x:Str}:∀{binds:List (Str×Value)}{m:Str->Option Value},(∀v,(x,v) ∉ binds)->bindL kindOf binds m x=m x
 | [],_,_=>rfl
 | (n,v)::r,m,h=>by
  unfold bindL;rw [Vi λw hw=>h w (List.mem_cons_of_mem _ hw)];split
  ·have:x≠n:=by rintro rfl;exact h v List.mem_cons_self
   simp [this]
  ·rfl
theorem Vj {kindOf:Str->Option NameKind}{x:Str}:∀{binds:List (Str×Value)}{m:Str->Option Value},(∀v,(x,v) ∉ binds)->bindC kindOf binds m x=m x
 | [],_,_=>rfl
 | (n,v)::r,m,h=>by
  unfold bindC;rw [Vj λw hw=>h w (List.mem_cons_of_mem _ hw)];split
  ·rfl
  ·have:x≠n:=by rintro rfl;exact h v List.mem_cons_self
   simp [this]
theorem Vk {kindOf:Str->Option NameKind}{x:Str}{v:Value}:∀{P:List Str}{vs:List Value}{i:Nat}{m:Str->Option Value},P.Nodup->P[i]?=some x->vs[i]?=some v->kindOf x=some .local ->
  bindL kindOf (P.zip vs) m x=some v
 | [],_,_,_,_,h,_,_=>by simp at h
 | _::_,[],_,_,_,_,h,_=>by simp at h
 | p::P,w::vs,0,m,nd,h1,h2,hk=>by
  simp at h1 h2;subst h1;subst h2;show bindL kindOf ((p,w)::P.zip vs) m p=_;unfold bindL;rw [Vi λv hv=>(List.nodup_cons.mp nd).1 (List.of_mem_zip hv).1,if_pos hk];simp
 | p::P,w::vs,i+1,m,nd,h1,h2,hk=>by
  show bindL kindOf ((p,w)::P.zip vs) m x=_;unfold bindL;exact Vk (i:=i) (List.nodup_cons.mp nd).2 (by simpa using h1) (by simpa using h2) hk
theorem Vl {kindOf:Str->Option NameKind}{x:Str}{v:Value}:∀{P:List Str}{vs:List Value}{i:Nat}{m:Str->Option Value},P.Nodup->P[i]?=some x->vs[i]?=some v->kindOf x≠some .local ->
  bindC kindOf (P.zip vs) m x=some v
 | [],_,_,_,_,h,_,_=>by simp at h
 | _::_,[],_,_,_,_,h,_=>by simp at h
 | p::P,w::vs,0,m,nd,h1,h2,hk=>by
  simp at h1 h2;subst h1;subst h2;show bindC kindOf ((p,w)::P.zip vs) m p=_;unfold bindC;rw [Vj λv hv=>(List.nodup_cons.mp nd).1 (List.of_mem_zip hv).1,if_neg hk];simp
 | p::P,w::vs,i+1,m,nd,h1,h2,hk=>by
  show bindC kindOf ((p,w)::P.zip vs) m x=_;unfold bindC;exact Vl (i:=i) (List.nodup_cons.mp nd).2 (by simpa using h1) (by simpa using h2) hk
def JU (N:List Str)(vs:List V):St:=vs.map some++List.replicate (N.length-vs.length) none
def WV (CX:CXT)(P:Program)(w:World)(K:W.Frag)(mg:Str->Option Value)(base:Heap)(N:List Str)(qual:Str)(scope:Scope)(f:Addr)(cd:Value)(A:Around)(outer:List Env)(s:Shared)(H:Hp)(E:XK):Cx where
 prog:=P
 w:=w
 K:=K
 mg:=mg
 base:=base
 A:=A.deeper (envOfC qual scope s.heap.objs.size f cd)
 N:=N
 s₀:=s
 H₀:=H
 env:=envOfC qual scope s.heap.objs.size f cd
 outer:=outer
 stack:=envOfC qual scope s.heap.objs.size f cd::outer
 ex:=[]
 calm:=true
 fn:=λ_=>true
 pn:=[]
 xe:=λe s'=>wpAny (model P w) (A.deeper (envOfC qual scope s.heap.objs.size f cd)) (leaving (envOfC qual scope s.heap.objs.size f cd) e) (λ_ s''=>CX outer H s E e s'') (λe' s''=>CX outer H s E e' s'') s'
theorem Wf {sc:Scope}{n:Nat}{x:Str}(h:sc.names.lookup x=some .cell):∃c,(cellsFrom n sc.names []).lookup x=some c:=by
 have q:=W.cellsFrom_some sc.names n [] (.inl h);exact Option.isSome_iff_exists.mp q
theorem Vm {CX:CXT}{P:Program}{w:World}{K:W.Frag}{mg:Str->Option Value}{base:Heap}{N ps:List Str}{qual:Str}{scope:Scope}{f:Addr}{cd:Value}{A:Around}{outer:List Env}{s s1:Shared}{H:Hp}{E:XK}{us:List Value}{vs:List V}(S:Gz N ps scope)(hd:A.handled=none)(e0:Zam P w K mg base A outer s H)(hl:vs.length=ps.length)(r:Vals vs us)(x:InCallC s s.heap.objs.size (bindL (envOfC qual scope s.heap.objs.size f cd).kindOf (ps.zip us) λ_=>none) (cellsFrom (s.heap.objs.size+1) scope.names []) (bindC (envOfC qual scope s.heap.objs.size f cd).kindOf (ps.zip us) λ_=>none) s1) :
  Inv (WV CX P w K mg base N qual scope f cd A outer s H E) [] (JU N vs) H s1:=by
 have hpl:ps.length<=N.length:=by have:=congrArg List.length S.pre;rw [List.length_take] at this;lia
 obtain ⟨h1,tk,rfl,hk⟩:=x.done;have noA:∀b:Addr,b ∉ (WV CX P w K mg base N qual scope f cd A outer s H E).ex:=λb z=>absurd (show b∈([]:List Addr) from z) (by simp);refine ⟨⟨e0.mod,S.kind,rfl,rfl,Nat.le_refl _,λy z c h1 h2=>?_,λy hy=>?_,λy c _ h=>?_,λ_=>hd,Around.frames_deeper e0.frames,.inr ⟨rfl,rfl⟩,λb z=>absurd z (noA b),e0.bs,e0.bsz,λb _ _=>noA b,λb z=>absurd z (noA b),e0.funs,e0.frf⟩,
  rfl,e0.bare,Un.kept hk,⟨_,x.toInCall.ns,λi y v h1 h2 h3=>?_⟩,λy c h=>⟨_,x.cell y c h⟩,e0.hok.fresh (Nat.le_refl _),λy c h=>?_,λp hp=>absurd (show p∈([]:List (Addr×Obj)) from hp) (by simp),e0.hok.kept hk,?_⟩
 ·exact name_of_addr x.apart (PySem.mem_of_lookup h1) (PySem.mem_of_lookup h2)
 ·have hy:scope.names.lookup y=some .cell\/scope.names.lookup y=some .free:=hy;rcases hy with hy | hy
  ·exact Wf hy
  ·exact absurd rfl (S.nofree _ (PySem.mem_of_lookup hy))
 ·exact Nat.le_of_lt (x.above y c (PySem.mem_of_lookup h))
 ·have hi:i<vs.length:=by
   unfold JU at h2;by_cases hi:i<vs.length
   ·exact hi
   ·rw [List.getElem?_append_right (by simpa using hi)] at h2;rw [List.getElem?_replicate] at h2;split at h2 <;> cases h2
  have ha:vs[i]?=some v:=by
   unfold JU at h2;rw [List.getElem?_append_left (by simpa using hi),List.getElem?_map] at h2;cases e:vs[i]? with
   | none=>rw [e] at h2;cases h2
   | some a=>rw [e] at h2;cases h2;rfl
  obtain ⟨u,hu,rv⟩:=r.get ha;have hp:ps[i]?=some y:=by
   rw [<-S.pre,List.getElem?_take_of_lt (by lia)];exact h1
  have ndP:ps.Nodup:=by rw [<-S.pre];exact S.nd.sublist (List.take_sublist _ _)
  refine ⟨u,rv,?_⟩;rcases S.par y (List.mem_of_getElem? hp) with k | k
  ·exact .inl ⟨k,Vk ndP hp hu k⟩
  ·obtain ⟨c,e⟩:=Wf (n:=s.heap.objs.size+1) k;refine .inr ⟨.inl k,c,e,?_⟩;have q:=x.cell y c e;rw [Vl ndP hp hu (by show scope.names.lookup y≠_;rw [k];decide)] at q;exact q
 ·exact e0.hok.fresh (Nat.le_of_lt (x.above y c (PySem.mem_of_lookup h)))
 ·unfold JU;show _=N.length;rw [List.length_append,List.length_map,List.length_replicate]
  lia
theorem Zb9 {CX:CXT}{P:Program}{w:World}{K:W.Frag}{mg:Str->Option Value}{base:Heap}{k:Nat}{f:Addr}{name qual:Str}{params:Arguments}{body:List Stmt}{scope:Scope}{dV kV doc pm cdv ct oc:Value}{an od:Option Addr}{osl:Array (Option Value)}{N ps:List Str}{sp:Sp}(lk:K.lookup f=some ⟨oc,od,.func (W.fnOf name qual params body scope dV kV doc pm an cdv ct),osl⟩)(hcd:W.codeIn K cdv qual=true)(S:Gz N ps scope)(len:∀vs H Q E,sp vs H Q E->vs.length=ps.length)(qW:∀(A:Around)(outer:List Env)(s:Shared)(H:Hp)(vs:List V)(Q:VK)(E:XK),Room k (A.deeper (envOfC qual scope s.heap.objs.size f cdv))->sp vs H Q E ->
   ∃t,PSs (WV CX P w K mg base N qual scope f cdv A outer s H E) body t/\t { nx:=λ_ H'=>Q .non H',rt:=Q } (JU N vs) H) :
  Jl P w K mg base CX (k+1) f (W.fnOf name qual params body scope dV kV doc pm an cdv ct) ps sp:=by
 refine ⟨len,λA outer s H args us vs Q E hr e0 hb r hsp=>?_⟩;have hl:=len _ _ _ _ hsp;have KX:K.In s.heap:=e0.mod.kin.keeps λb o e=>(e0.bs b o e).1;have lim:s.heap.NoLimit:=e0.mod.nolimit.keeps λb o e=>(e0.bs b o e).1;have hkind:∀y∈ps.zip us,scope.names.lookup y.1=some .local\/(scope.names.lookup y.1=some .cell/\((cellsFrom (s.heap.objs.size+1) scope.names []).lookup y.1).isSome=true):=λ⟨n,v⟩ hy=>by
  rcases S.par n (List.of_mem_zip hy).1 with q | q
  ·exact .inl q
  ·exact .inr ⟨q,W.cellsFrom_some _ _ _ (.inl q)⟩
 refine codeAny_call_function hr.depth (KX _ _ lk) rfl S.co S.gen rfl (W.codeRec_of KX hcd) (hb _ _ _ _ ?_);refine wpAny_newFunctionEnv_cells S.kind hkind λenv he s1 x=>?_;subst he;refine ⟨lim.keeps x.toInCall.keep,codeAny_func ?_⟩;obtain ⟨t,ht,hq⟩:=qW A outer s H vs Q E (hr.deeper _) hsp;have I:Inv (WV CX P w K mg base N qual scope f cdv A outer s H E) [] (JU N vs) H s1:=Vm S hr.hd e0 hl r x;refine wpAny_mono (ht [] s1 (JU N vs) H _ I hq) (λfl s' hs=>?_) λe s' hs=>hs;have fin:∀{σ':St}{H':Hp}{v:V}{u:Value},Inv (WV CX P w K mg base N qual scope f cdv A outer s H E) [] σ' H' s'->RelV v u->Q v H'->CE outer P w H s Q u s':=
  λ{σ' H' v u} J rv q=>⟨v,H',J.os,J.bare,J.base,J.hok,rv,q⟩
 cases fl with
 | ret u=>
  obtain ⟨v,σ',H',J,rv,q⟩:=hs;exact fin J rv q
 | next=>
  obtain ⟨σ',H',J,q⟩:=hs;exact fin (v:=V.non) (u:=Value.none) J rfl q
 | brk=>
  obtain ⟨_,_,_,q⟩:=hs;exact False.elim q
 | cont=>
  obtain ⟨_,_,_,q⟩:=hs;exact False.elim q
end L2
namespace L2
open PySem PySem.Spec PyProof.Rows
section
variable {X:Cx}{x:Str}{p pos:Pos}{e:Expr}{es:List Expr}{t:TA}{id T:String}{r:List V->Hp->VK->Prop}
def tCB (r:List V->Hp->VK->Prop)(t:TA):TE:=λσ H Q=>t σ H λvs H1=>r vs H1 Q
theorem Gm (hc:Oj X (.builtin id) r)(hg:Gl X x)(hm:X.mg x=none)(hv:bootBuiltins x=some (.builtin id))(ha:PA X (e::es) t)(hn:x ≠ "__name__" := by decide)(hdb:(x == ("__debug__" : Str))=false:=by decide)(he:starEach (e::es) X.env=(false,eval e X.env)::starEach es X.env:=by rfl)(hpl:(backTo pos (starEach es X.env)).any (·.1)=false:=by rfl):PE X (.Call (.Name x p) (e::es) [] pos) (tCB r t):=by
 intro qQ s σ H Q I h;refine wpAny_Call_Name_kw (UE I hg hm hv ?_ hn hdb);exact PyProof.Rows.callWith_builtin1 (thn (ha pos qQ s σ H _ I h) λus s1 ⟨vs,H1,I1,r1,q1⟩=>hc qQ s1 σ H1 vs us Q I1 r1 q1) he hpl
theorem Jm (hc:Oj X (.type T) r)(hg:Gl X x)(hm:X.mg x=none)(hv:bootBuiltins x=some (.type T))(ha:PA X (e::es) t)(hn:x ≠ "__name__" := by decide)(hdb:(x == ("__debug__" : Str))=false:=by decide)(he:starEach (e::es) X.env=(false,eval e X.env)::starEach es X.env:=by rfl)(hpl:(backTo pos (starEach es X.env)).any (·.1)=false:=by rfl):PE X (.Call (.Name x p) (e::es) [] pos) (tCB r t):=by
 intro qQ s σ H Q I h;refine wpAny_Call_Name_kw (UE I hg hm hv ?_ hn hdb);exact PyProof.Rows.callWith_type1 (thn (ha pos qQ s σ H _ I h) λus s1 ⟨vs,H1,I1,r1,q1⟩=>hc qQ s1 σ H1 vs us Q I1 r1 q1) he hpl
end
end L2
namespace HT
open PySem PyProof.Rows
section
variable {prog:Program}{w:World}{A:Around}{E:Value->Shared->Prop}{s:Shared}
theorem cat_tup {t b:Addr}{vs ws:List Value}{Q:Value->Shared->Prop}(ht:IsTup s.heap t vs.toArray)(hb:IsTup s.heap b ws.toArray)(hv:vs≠[])(h1:ws=[]->Q (.ref t) s)(h2:ws≠[]->Q (.ref s.heap.objs.size) { s with heap:=s.heap.push { cls:=.type "tuple", data:=.seq (vs++ws).toArray } })(hsz:vs.length+ws.length<=sizeLine):wpAny (model prog w) A (binaryOp .Add (.ref t) (.ref b)) Q E s:=by
 obtain ⟨⟨cls,dd,data,sl⟩,ho,hc,n,hd⟩:=id ht;obtain ⟨⟨cls2,dd2,data2,sl2⟩,ho2,hc2,n2,hd2⟩:=id hb;simp only at hc hd hc2 hd2;subst hc hd hc2 hd2;have e:vs.toArray++ws.toArray=(vs++ws).toArray:=by simp
 by_cases hw:ws=[]
 ·exact concat_meets ⟨_,ho,rfl⟩ ⟨_,ho2,rfl⟩ noFill_tuple_add seq_tuple_add PySem.F.slot_tuple_add PySem.F.entry_tuple_add (PySem.F.args_tuple_add_2 _ _)
   (tuple_addW1 t b vs.toArray ws.toArray n n2 dd dd2 sl sl2 (by simpa using hv) (by simp [hw])) ⟨ho,ho2,h1 hw⟩
 ·refine concat_meets ⟨_,ho,rfl⟩ ⟨_,ho2,rfl⟩ noFill_tuple_add seq_tuple_add PySem.F.slot_tuple_add PySem.F.entry_tuple_add (PySem.F.args_tuple_add_2 _ _)
   (tuple_addW2 t b vs.toArray ws.toArray n n2 dd dd2 sl sl2 (by simpa using hv) (by simpa using hw) (by rw [List.size_toArray,List.size_toArray];exact hsz)) ⟨ho,ho2,?_⟩
  rw [e];exact h2 hw
def sIx (n d:Nat):Option Int->Nat
 | none=>d
 | some v=>if v<0 then (v+(n:Int)).toNat else min v.toNat n
theorem sIx_none (n d:Nat):sIx n d none=d:=rfl
theorem sIx_nat (n d k:Nat):sIx n d (some (k:Int))=min k n:=by
 show (if (k:Int)<0 then ((k:Int)+(n:Int)).toNat else min (k:Int).toNat n)=min k n;rw [if_neg (by lia),Int.toNat_natCast]
theorem Zca (n d:Nat)(hd:d<=n)(o:Option Int):sIx n d o<=n:=by
 cases o with
 | none=>exact hd
 | some v=>
  show (if v<0 then (v+(n:Int)).toNat else min v.toNat n)<=n;by_cases hv:v<0
  ·rw [if_pos hv];lia
  ·rw [if_neg hv];exact Nat.min_le_right _ _
theorem XB (v:Int)(n d:Nat):(if v<0 then max (v+(n:Int)) 0 else min v (n:Int))=((sIx n d (some v):Nat):Int):=by
 show (if v<0 then max (v+(n:Int)) 0 else min v (n:Int))=(((if v<0 then (v+(n:Int)).toNat else min v.toNat n):Nat):Int);by_cases hv:v<0
 ·simp only [if_pos hv];lia
 ·simp only [if_neg hv];lia
theorem WW (lo hi:Option Int)(n:Nat):Builtin.Slice.sliceAdjust lo hi 1 (n:Int)=(((sIx n 0 lo:Nat):Int),((sIx n n hi:Nat):Int)):=by
 have h1:¬ ((1:Int)<0):=by lia
 unfold Builtin.Slice.sliceAdjust;simp only [h1,if_false];refine Prod.ext ?_ ?_
 ·cases lo with
  | none=>rfl
  | some v=>exact XB v n 0
 ·cases hi with
  | none=>rfl
  | some v=>exact XB v n n
theorem WX (i j:Nat):Builtin.Slice.slicePlaces (i:Int) (j:Int) 1=j-i:=by
 unfold Builtin.Slice.slicePlaces;have h1:(1:Int) > 0:=by lia
 simp only [h1,if_true,Int.ediv_one];split <;> lia
theorem UI {v:Value}{o:Option Int}{Q:Option Int->Shared->Prop}(p:IsPart v o)(h:Q o s):wpAny (model prog w) A (Builtin.Slice.slicePartIndex v) Q E s:=by
 cases p with
 | none=>exact slicePart_none h
 | int i t=>exact slicePart_int h
theorem O0 {sl:Addr}{vl vu:Value}{lo hi:Option Int}{n:Nat}{Q:Int×Int×Nat->Shared->Prop}(hs:s.heap.IsSliceOf sl vl vu .none)(pl:IsPart vl lo)(pu:IsPart vu hi)(h:Q (((sIx n 0 lo:Nat):Int),1,sIx n n hi-sIx n 0 lo) s):wpAny (model prog w) A (Builtin.Slice.sliceApplied (.ref sl) (pure (n:Int))) Q E s:=by
 obtain ⟨os,hos,hcs,hds⟩:=id hs;unfold Builtin.Slice.sliceApplied Builtin.Slice.sliceFields;refine wpAny_bind (wpAny_bind (wpAny_field hos hds (x:=vl) rfl (wpAny_bind (wpAny_field hos hds (x:=vu) rfl (wpAny_bind (wpAny_field hos hds (x:=.none) rfl (wpAny_pure ?_)))))));refine wpAny_bind (slicePart_none ?_);show wpAny _ _ (if ((1:Int) == 0)=true then _ else _) _ _ s;rw [if_neg (by decide)];refine wpAny_bind (UI pl (wpAny_bind (UI pu (wpAny_bind (wpAny_pure ?_)))));show wpAny _ _ (match Builtin.Slice.sliceAdjust lo hi 1 (n:Int) with | (lo,hi)=>pure (lo,(1:Int),Builtin.Slice.slicePlaces lo hi 1)) _ _ s;rw [WW lo hi n];show wpAny _ _ (pure (((sIx n 0 lo:Nat):Int),(1:Int),Builtin.Slice.slicePlaces ((sIx n 0 lo:Nat):Int) ((sIx n n hi:Nat):Int) 1)) _ _ s;rw [WX];exact wpAny_pure h
theorem YK (xs:Array Value)(i k:Nat):((List.range k).filterMap λ(m:Nat)=>xs[((i:Int)+(m:Int) * 1).toNat]?).toArray=((xs.toList.drop i).take k).toArray:=by
 have e:(λ(m:Nat)=>xs[((i:Int)+(m:Int) * 1).toNat]?)=λm=>xs[i+m]?:=by
  funext m
  have:((i:Int)+(m:Int) * 1).toNat=i+m:=by lia
  rw [this]
 rw [e];have:=pick_run xs i k;rw [List.filterMap_map] at this;have e2:((λx=>xs[x]?)∘λx=>i+x)=λm=>xs[i+m]?:=rfl;rw [e2] at this;rw [this]
theorem getItem_tuple_cut {t sl:Addr}{items:Array Value}{vl vu:Value}{lo hi:Option Int}{Q:Value->Shared->Prop}(ht:IsTup s.heap t items)(hs:s.heap.IsSliceOf sl vl vu .none)(pl:IsPart vl lo)(pu:IsPart vu hi)(hw:¬ (sIx items.size 0 lo=0/\sIx items.size items.size hi=items.size))(h:Q (.ref s.heap.objs.size) { s with heap:=s.heap.push { cls:=.type "tuple", data:=.seq ((items.toList.drop (sIx items.size 0 lo)).take (sIx items.size items.size hi-sIx items.size 0 lo)).toArray } })(hsz:items.size<=sizeLine):wpAny (model prog w) A (getItem (.ref t) (.ref sl)) Q E s:=by
 have htake:sizeOk (.seq ((items.toList.drop (sIx items.size 0 lo)).take (sIx items.size items.size hi-sIx items.size 0 lo)).toArray):=by
  show ((items.toList.drop (sIx items.size 0 lo)).take (sIx items.size items.size hi-sIx items.size 0 lo)).toArray.size<=sizeLine;rw [List.size_toArray,List.length_take,List.length_drop,Array.length_toList]
  lia
 have hj:sIx items.size items.size hi<=items.size:=Zca _ _ (Nat.le_refl _) hi;obtain ⟨os,hos,hcs,hds⟩:=id hs;have hTs:s.TypeIs (.ref sl) "slice" := ⟨os,hos,hcs⟩;unfold getItem
 try with_reducible refine wpAny_holding ?_
 first | refine wpAny_bind (wpAny_pure ?_) | skip
 refine wpAny_bind (wpAny_sequenceKey ht.typeIs (by decide) ?_);refine wpAny_bind (wpAny_callSpecial?_slot (name:=Str.ofString "__getitem__") ht.typeIs PyProof.Rows.slot_tuple_getitem
  (wpAny_call_entry PyProof.Rows.slot_tuple_getitem ht.typeIs entry_tuple_getitem ?_ (args_tuple_getitem _ _)))
 show wpAny _ _ (Builtin.Tuple.tupleItemsOf (.ref t) >>= _) _ _ s;refine wpAny_bind (tupleItemsOf_ ht ?_);refine wpAny_bind (wpAny_typeOf hTs ?_);rw [if_pos (by decide)];refine wpAny_bind (O0 hs pl pu ?_);have hno:¬ ((((sIx items.size 0 lo:Nat):Int) == 0 && (1:Int) == 1 && (sIx items.size items.size hi-sIx items.size 0 lo) == items.size)=true):=by
  intro q;rw [Bool.and_eq_true,Bool.and_eq_true] at q;have q1:((sIx items.size 0 lo:Nat):Int)=0:=eq_of_beq q.1.1;have q2:sIx items.size items.size hi-sIx items.size 0 lo=items.size:=eq_of_beq q.2;exact hw ⟨by lia,by lia⟩
 show wpAny _ _ (if (((sIx items.size 0 lo:Nat):Int) == 0 && (1:Int) == 1 && (sIx items.size items.size hi-sIx items.size 0 lo) == items.size)=true then _ else _) _ _ s;rw [if_neg hno,YK]
 first
  | exact wpAny_bind (m:=Builtin.Tuple.tupleExact _) (wpAny_newObj_type (wpAny_pure ⟨_,rfl,wpAny_pure h⟩) htake)
  | exact wpAny_bind (m:=Builtin.Tuple.tupleExact _) (wpAny_newObj_type (wpAny_bind (wpAny_pure (wpAny_pure ⟨_,rfl,wpAny_pure h⟩))) htake)
  | exact wpAny_bind (wpAny_bind (m:=Builtin.Tuple.tupleExact _) (wpAny_newObj_type (wpAny_pure (wpAny_pure ⟨_,rfl,wpAny_pure h⟩)) htake))
  | exact wpAny_bind (wpAny_bind (m:=Builtin.Tuple.tupleExact _) (wpAny_newObj_type (wpAny_pure ⟨_,rfl,wpAny_pure h⟩) htake))
end
end HT
namespace L2
open PySem PySem.Spec PyProof.Rows
abbrev TO:=St->Hp->(Option Int->Hp->Prop)->Prop
def PO (X:Cx)(e:Option Expr)(t:TO):Prop:=
 ∀(qQ:List (Addr×Obj))(s:Shared)(σ:St)(H:Hp)(Q:Option Int->Hp->Prop),Inv X qQ σ H s->t σ H Q ->
  wpAny (model X.prog X.w) X.A (evalPart e X.env) (λu s'=>∃o H',Inv X qQ σ H' s'/\IsPart u o/\Q o H') X.xe s
def Zan:TO:=λ_ H Q=>Q none H
def Zao (t:TE):TO:=λσ H Q=>t σ H λx H1=>∃i,x=.int i/\Q (some i) H1
section
variable {X:Cx}{e:Expr}{te:TE}{lo hi:Option Expr}{tl th:TO}{pos p2:Pos}
theorem GX:PO X none Zan:=by
 intro qQ s σ H Q I h;rw [evalPart_none];exact wpAny_pure ⟨none,H,I,.none,h⟩
theorem Gw (h:PE X e te):PO X (some e) (Zao te):=by
 intro qQ s σ H Q I hw;rw [evalPart_some];refine thn (h qQ s σ H _ I hw) λu s1 ⟨x,H1,I1,r1,q1⟩=>?_;obtain ⟨i,rfl,q⟩:=q1;obtain ⟨t,rfl⟩:=r1;exact ⟨some i,H1,I1,.int i t,q⟩
def SlR (X:Cx)(r:V->Option Int->Option Int->Hp->VK->Prop):Prop:=
 ∀(qQ:List (Addr×Obj))(s:Shared)(σ:St)(H:Hp)(x:V)(v vl vu:Value)(lo hi:Option Int)(sl:Addr)(Q:VK),Inv X qQ σ H s->RelV x v->s.heap.IsSliceOf sl vl vu .none->IsPart vl lo->IsPart vu hi->r x lo hi H Q ->
  ∃T id,typeLookup (.type T) "__getitem__" = pure (some (.builtin id))/\s.TypeIs v T/\wpAny (model X.prog X.w) X.A (getItem v (.ref sl)) (EP X qQ σ Q) X.xe s
def tSl (r:V->Option Int->Option Int->Hp->VK->Prop)(te:TE)(tl th:TO):TE:=λσ H Q=>te σ H λx H1=>tl σ H1 λl H2=>th σ H2 λu H3=>r x l u H3 Q
theorem Gx {r:V->Option Int->Option Int->Hp->VK->Prop}(hr:SlR X r)(he:PE X e te)(hl:PO X lo tl)(hu:PO X hi th):PE X (.Subscript e (.Slice lo hi none p2) pos) (tSl r te tl th):=by
 intro qQ s σ H Q I h;refine Subscript_ (thn (he qQ s σ H _ I h) λv s1 ⟨x,H1,I1,r1,q1⟩=>?_);refine wpAny_Slice (thn (hl qQ s1 σ H1 _ I1 q1) λvl s2 ⟨l,H2,I2,pl,q2⟩=>thn (hu qQ s2 σ H2 _ I2 q2) λvu s3 ⟨u,H3,I3,pu,q3⟩=>?_);rw [evalPart_none];refine wpAny_pure ?_;have I4:Inv X qQ σ H3 { s3 with heap:=s3.heap.push { cls:=.type "slice", data:=.fields #[vl,vu,.none] } }:=I3.kept (t':=s3.toks) λb ob q=>Heap.get?_push_of_some _ q;obtain ⟨T,id,hT,ht,hg⟩:=hr qQ { s3 with heap:=s3.heap.push { cls:=.type "slice", data:=.fields #[vl,vu,.none] } } σ H3 x v vl vu l u s3.heap.objs.size Q I4 r1 (Heap.IsSliceOf.new ..) pl pu q3;show wpAny (model X.prog X.w) X.A (subscriptTail e (.Slice lo hi none p2) v (.ref s3.heap.objs.size)) (EP X qQ σ Q) X.xe { s3 with heap:=s3.heap.push { cls:=.type "slice", data:=.fields #[vl,vu,.none] } };exact tail_any (ops:=[.ref s3.heap.objs.size,v]) ht hT hg (by with_unfolding_all rfl)
def J6 (xs:List V)(lo hi:Option Int):List V:=(xs.drop (HT.sIx xs.length 0 lo)).take (HT.sIx xs.length xs.length hi-HT.sIx xs.length 0 lo)
theorem Uj (xs:List V)(lo hi:Option Int):(J6 xs lo hi).length<=xs.length:=by
 unfold J6;rw [List.length_take,List.length_drop]
 lia
def Zex (K:W.Frag):V->Option Int->Option Int->Hp->VK->Prop:=λx lo hi H Q=>∃a xs,x=.ref a/\SqT K H a xs /\
 ¬ (HT.sIx xs.length 0 lo=0/\HT.sIx xs.length xs.length hi=xs.length)/\∀p,H p=none->Q (.ref p) (upd H p (.tup (J6 xs lo hi)))
theorem Zcb:SlR X (Zex X.K):=by
 intro qQ s σ H x v vl vu lo hi sl Q I rx hs pl pu h;obtain ⟨a,xs,rfl,hx,hw,q⟩:=h;cases rx;obtain ⟨its,r,ht,hz⟩:=I.tuple hx;have qJ:its.toArray.size=xs.length:=by rw [List.size_toArray];exact r.length.symm
 refine ⟨"tuple", _,PyProof.Rows.slot_tuple_getitem.lookup,ht.typeIs,?_⟩;refine HT.getItem_tuple_cut ht hs pl pu (by rw [qJ];exact hw) ?_ (by rw [qJ];exact hz);rw [qJ];refine ⟨.ref s.heap.objs.size,_,I.laid (t':=s.toks) (o:=.tup (J6 xs lo hi)) (λb ob q=>Heap.get?_push_of_some _ q) (Nat.le_refl _) ?_,rfl,q _ (I.hok.fresh (Nat.le_refl _))⟩;exact ⟨Nat.le_trans (Uj xs lo hi) hz,_,(r.drop (HT.sIx xs.length 0 lo)).take (HT.sIx xs.length xs.length hi-HT.sIx xs.length 0 lo),IsTup.new _ _⟩
def Zcc (K:W.Frag):R2:=λx y H Q=>∃a b xs ys,x=.ref a/\y=.ref b/\SqT K H a xs/\SqT K H b ys/\xs≠[]/\xs.length+ys.length<=sizeLine /\
 (ys=[]->Q (.ref a) H)/\(ys≠[]->∀p,H p=none->Q (.ref p) (upd H p (.tup (xs++ys))))
theorem Vals.nil_iff {xs:List V}{us:List Value}(r:Vals xs us):us=[]↔xs=[]:=by
 cases r with
 | nil=>simp
 | cons _ _=>simp
theorem Zap:OpR X (binaryOp .Add) (Zcc X.K):=by
 intro qQ s σ H x y v u Q I rx ry h;obtain ⟨a,b,xs,ys,rfl,rfl,ha,hb,hx,hz,q1,q2⟩:=h;cases rx;cases ry;obtain ⟨its,r1,p1,_⟩:=I.tuple ha;obtain ⟨its2,r2,p2,_⟩:=I.tuple hb;refine HT.cat_tup p1 p2 (λz=>hx (r1.nil_iff.mp z)) (λz=>⟨.ref a,H,I,rfl,q1 (r2.nil_iff.mp z)⟩) (λz=>?_) (by rw [<-r1.length,<-r2.length];exact hz);refine ⟨.ref s.heap.objs.size,_,I.laid (t':=s.toks) (o:=.tup (xs++ys)) (λb ob q=>Heap.get?_push_of_some _ q) (Nat.le_refl _) ?_,rfl,q2 (λw=>z (r2.nil_iff.mpr w)) _ (I.hok.fresh (Nat.le_refl _))⟩;exact ⟨by rw [List.length_append];exact hz,_,r1.append r2,IsTup.new _ _⟩
end
end L2
namespace L2
open PySem PySem.Spec PyProof.Rows
def ixN (n:Nat)(i:Int):Option Nat:=if 0<=i then (if i<n then some i.toNat else none) else if -(n:Int)<=i then some (i+n).toNat else none
def atI {α:Type}(xs:List α)(i:Int):Option α:=(ixN xs.length i).bind λj=>xs[j]?
theorem XC {n:Nat}{i:Int}{j:Nat}(h:ixN n i=some j):seqIndex? i n=some j/\j<n/\-(n:Int)<=i/\i<n:=by
 unfold ixN at h;by_cases h0:0<=i
 ·rw [if_pos h0] at h;by_cases h1:i<n
  ·rw [if_pos h1] at h;have e:i.toNat=j:=Option.some.inj h;exact ⟨by rw [seqIndex_of h0 h1,e],by lia,by lia,h1⟩
  ·rw [if_neg h1] at h;cases h
 ·rw [if_neg h0] at h;by_cases h1:-(n:Int)<=i
  ·rw [if_pos h1] at h;have e:(i+n).toNat=j:=Option.some.inj h;exact ⟨by rw [seqIndex_neg (by lia) h1,e],by lia,h1,by lia⟩
  ·rw [if_neg h1] at h;cases h
theorem VQ {α:Type}{xs:List α}{i:Int}{v:α}(h:atI xs i=some v):∃j,seqIndex? i xs.length=some j/\xs[j]?=some v/\j<xs.length/\-(xs.length:Int)<=i/\i<xs.length:=by
 unfold atI at h;cases e:ixN xs.length i with
 | none=>rw [e] at h;cases h
 | some j=>
  rw [e] at h;obtain ⟨h1,h2,h3,h4⟩:=XC e;exact ⟨j,h1,h,h2,h3,h4⟩
theorem Gi {α:Type}{xs:List α}{j:Nat}{v:α}(h:xs[j]?=some v):atI xs (j:Int)=some v:=by
 have hj:j<xs.length:=(List.getElem?_eq_some_iff.mp h).1;have e:ixN xs.length (j:Int)=some j:=by
  unfold ixN;rw [if_pos (by lia),if_pos (by lia)];simp
 unfold atI;rw [e];exact h
theorem O4 {α:Type}(xs:List α)(v:α):atI (xs++[v]) (-1)=some v:=by
 have hl:(xs++[v]).length=xs.length+1:=by simp
 have e:ixN (xs++[v]).length (-1)=some xs.length:=by
  unfold ixN;rw [hl,if_neg (by decide),if_pos (by lia)]
  congr 1
  lia
 unfold atI;rw [e];show (xs++[v])[xs.length]?=some v;simp
def Zaq (b:Expr):Prop:=∀o i,subscripted b false o i=operate [o,i] (getItem o i)
def IxR (X:Cx)(r:R2):Prop:=
 ∀(value slice:Expr)(qQ:List (Addr×Obj))(s:Shared)(σ:St)(H:Hp)(x y:V)(v u:Value)(Q:VK),Inv X qQ σ H s->RelV x v->RelV y u->r x y H Q ->
  subscripted slice false v u=operate [v,u] (getItem v u)->wpAny (model X.prog X.w) X.A (subscriptTail value slice v u) (EP X qQ σ Q) X.xe s
def MtR (X:Cx)(id:String)(r:V->List V->Hp->VK->Prop):Prop:=
 ∀(qQ:List (Addr×Obj))(s:Shared)(σ:St)(H:Hp)(x:V)(xs:List V)(v:Value)(us:List Value)(Q:VK),Inv X qQ σ H s->RelV x v->Vals xs us->r x xs H Q ->
  wpAny (model X.prog X.w) X.A (call (.builtin id) (v::us)) (EP X qQ σ Q) X.xe s
section
variable {X:Cx}{a b:Expr}{ta tb:TE}{pos:Pos}
theorem Gp {r:R2}(hr:IxR X r)(ha:PE X a ta)(hb:PE X b tb)(hs:Zaq b):PE X (.Subscript a b pos) (tOp r ta tb):=by
 intro qQ s σ H Q I h;exact Subscript_ (ZdP ha hb I h λv u s2 x y H2 I2 rx ry q=>hr a b qQ s2 σ H2 x y v u Q I2 rx ry q (hs _ _))
def ZbR (K:W.Frag):R2:=λx y H Q=>∃p xs i v,x=.ref p/\y=.int i/\SqL K H p xs/\atI xs i=some v/\Q v H
def Zcd (K:W.Frag):R2:=λx y H Q=>∃p xs i v,x=.ref p/\y=.int i/\SqT K H p xs/\atI xs i=some v/\Q v H
def ZeQ:R2:=λx y H Q=>∃z i c,x=.str z/\y=.int i/\z.length<=sizeLine/\atI z.cps.toList i=some c/\Q (.str ⟨#[c]⟩) H
theorem Zar:IxR X (ZbR X.K):=by
 intro value slice qQ s σ H x y v u Q I rx ry h hs;obtain ⟨p,xs,i,z,rfl,rfl,hq,he,q⟩:=h;cases rx;obtain ⟨t,rfl⟩:=ry;obtain ⟨its,r,pl,hz⟩:=I.list hq;obtain ⟨j,h1,h2,h3,h4,h5⟩:=VQ he;obtain ⟨w,ew,rw'⟩:=r.get h2;have hl:=r.length;have hn:=Uh;have fin:EP X qQ σ Q w s:=⟨z,H,I,rw',q⟩;by_cases h0:0<=i
 ·have hj:i.toNat=j:=by
   rw [seqIndex_of h0 h5] at h1;exact Option.some.inj h1
  exact item_listR pl.isList h0 (by lia) (by rw [hj];simpa using ew) fin hs
 ·have hj:(i+(its.toArray.size:Int)).toNat=j:=by
   rw [seqIndex_neg (by lia) h4] at h1;rw [List.size_toArray,<-hl];exact Option.some.inj h1
  exact subscriptTail_builtinR (x:=w) pl.isList.typeIs slot_list_getitem.lookup
   (wpAny_getItem_list_neg (Q:=λr s'=>r=w/\EP X qQ σ Q r s') pl.isList (by lia) (by rw [List.size_toArray] <;> lia) (by lia) (by rw [hj];simpa using ew) ⟨rfl,fin⟩) hs
theorem Zce:IxR X (Zcd X.K):=by
 intro value slice qQ s σ H x y v u Q I rx ry h hs;obtain ⟨p,xs,i,z,rfl,rfl,hq,he,q⟩:=h;cases rx;obtain ⟨t,rfl⟩:=ry;obtain ⟨its,r,pl,hz⟩:=I.tuple hq;obtain ⟨j,h1,h2,h3,h4,h5⟩:=VQ he;obtain ⟨w,ew,rw'⟩:=r.get h2;have hl:=r.length;have hn:=Uh;have fin:EP X qQ σ Q w s:=⟨z,H,I,rw',q⟩;exact subscriptTail_builtinR (x:=w) pl.typeIs slot_tuple_getitem.lookup
  (getItem_tuple (j:=j) (Q:=λr s'=>r=w/\EP X qQ σ Q r s') pl (by lia) (by lia) (by rw [List.size_toArray,<-hl];exact h1) (by simpa using ew) ⟨rfl,fin⟩) hs
theorem UJ:IxR X ZeQ:=by
 intro value slice qQ s σ H x y v u Q I rx ry h hs;obtain ⟨z,i,c,rfl,rfl,hz,he,q⟩:=h;obtain ⟨t,rfl⟩:=rx;obtain ⟨t',rfl⟩:=ry;obtain ⟨j,h1,h2,h3,h4,h5⟩:=VQ he;have hl:z.cps.toList.length=z.length:=by simp [Str.length]
 rw [hl] at h1 h4 h5;have hn:=Uh;exact tail_any (typeIs_str s z t) slot_str_getitem.lookup (getItem_str (c:=c) (by
  have e1:decide (i < -(2 ^ 63:Int))=false:=decide_eq_false (by lia);have e2:decide (i>=2 ^ 63)=false:=decide_eq_false (by lia);rw [e1,e2,Bool.or_false]) (by rw [h1];simpa using h2) ⟨.str ⟨#[c]⟩,H,I.tok _,⟨_,rfl⟩,q⟩) hs
theorem WY (its:List Value)(n j:Nat)(u:Value):Obj.mapSeq (·.setIfInBounds j u) { cls:=.type "list", data:=.seq its.toArray n }={ cls:=.type "list", data:=.seq (its.set j u).toArray n }:=by
 simp [Obj.mapSeq]
theorem Inv.lst {qQ:List (Addr×Obj)}{σ:St}{H:Hp}{s:Shared}{p:Addr}{xs:List V}(I:Inv X qQ σ H s)(h:H p=some (.lst xs)) :
  ∃(its:List Value)(n:Nat),Vals xs its/\s.heap.get? p=some { cls:=.type "list", data:=.seq its.toArray n }/\xs.length<=sizeLine:=by
 obtain ⟨z,its,n,r,e⟩:=I.hok p _ h;exact ⟨its,n,r,e,z⟩
theorem Inv.lstUpd {qQ:List (Addr×Obj)}{σ:St}{H:Hp}{s:Shared}{p:Addr}{xs ys:List V}{its its':List Value}{n n':Nat}{f:Obj->Obj}(I:Inv X qQ σ H s)(h:H p=some (.lst xs))(ho:s.heap.get? p=some { cls:=.type "list", data:=.seq its.toArray n })(hf:f { cls:=.type "list", data:=.seq its.toArray n }={ cls:=.type "list", data:=.seq its'.toArray n' })(r:Vals ys its')(hz:ys.length<=sizeLine)(t:Nat) :
  Inv X qQ σ (upd H p (.lst ys)) { s with heap:=s.heap.update p f,toks:=t }:=by
 have e:(s.heap.update p f).get? p=some { cls:=.type "list", data:=.seq its'.toArray n' }:=by
  rw [Heap.get?_update_self f ho (by rw [hf] <;> rfl),hf]
 refine I.write (x:=p) (e:=p) (by rw [h];trivial) (.inl rfl) (λb u hb q=>(Heap.get?_update_other _ _ (Ne.symm hb)).trans q) ⟨_,e⟩ ?_;exact ⟨hz,its',n',r,e⟩
def ZdT:V->V->V->Hp->(Hp->Prop)->Prop:=λo i v H Q=>∃p xs k j,o=.ref p/\i=.int k/\H p=some (.lst xs)/\ixN xs.length k=some j/\Q (upd H p (.lst (xs.set j v)))
theorem YL:Zer X ZdT:=by
 intro qQ s σ H o i v ov iv u Q I ro ri rv h;obtain ⟨p,xs,k,j,rfl,rfl,hp,hj,q⟩:=h;cases ro;obtain ⟨t,rfl⟩:=ri;obtain ⟨its,n,r,ho,hz⟩:=I.lst hp;obtain ⟨h1,h2,h3,h4⟩:=XC hj;have hl:=r.length;have hn:=Uh;have I':Inv X qQ σ (upd H p (.lst (xs.set j v))) { s with heap:=s.heap.update p (Obj.mapSeq (·.setIfInBounds j u)) }:=
  I.lstUpd hp ho (WY its n j u) (r.set rv j) (by rw [List.length_set];exact hz) s.toks
 by_cases h0:0<=k
 ·have hk:k.toNat=j:=by
   rw [seqIndex_of h0 h4] at h1;exact Option.some.inj h1
  exact W.ki_setAt ho h0 (by lia) (by rw [List.size_toArray,<-hl];exact h4) (by rw [hk];exact ⟨_,I',q⟩)
 ·have hk:(k+(its.toArray.size:Int)).toNat=j:=by
   rw [seqIndex_neg (by lia) h3] at h1;rw [List.size_toArray,<-hl];exact Option.some.inj h1
  exact W.ki_setBack ho (by lia) (by rw [List.size_toArray,<-hl];exact h3) (by lia) (by rw [hk];exact ⟨_,I',q⟩)
theorem Vn (lo hi:Option Int)(n:Nat):(sliceBounds lo hi none n).1=((HT.sIx n 0 lo:Nat):Int)/\(sliceBounds lo hi none n).2.1=((HT.sIx n n hi:Nat):Int)/\(sliceBounds lo hi none n).2.2=1:=by
 refine ⟨?_,?_,rfl⟩
 ·cases lo with
  | none=>simp [sliceBounds,HT.sIx]
  | some i=>
   simp only [sliceBounds,HT.sIx,Option.getD_none,show (1:Int) > 0 by decide,if_true];by_cases h:i<0
   ·simp only [h,if_true] <;> lia
   ·simp only [h,if_false] <;> lia
 ·cases hi with
  | none=>simp [sliceBounds,HT.sIx]
  | some i=>
   simp only [sliceBounds,HT.sIx,Option.getD_none,show (1:Int) > 0 by decide,if_true];by_cases h:i<0
   ·simp only [h,if_true] <;> lia
   ·simp only [h,if_false] <;> lia
theorem UV (its:List Value)(lo hi:Option Int):slicePick its.toArray lo hi none=((its.drop (HT.sIx its.length 0 lo)).take (HT.sIx its.length its.length hi-HT.sIx its.length 0 lo)).toArray:=by
 obtain ⟨h1,h2,h3⟩:=Vn lo hi its.toArray.size;unfold slicePick;rw [h1,h2,h3];simp only [sliceRange_one,pick_run,List.size_toArray] <;> rfl
def Zey (K:W.Frag):V->Option Int->Option Int->Hp->VK->Prop:=λx lo hi H Q=>∃a xs,x=.ref a/\SqL K H a xs/\∀p,H p=none->Q (.ref p) (upd H p (.lst (J6 xs lo hi)))
theorem Zas:SlR X (Zey X.K):=by
 intro qQ s σ H x v vl vu lo hi sl Q I rx hs pl pu h;obtain ⟨a,xs,rfl,hx,q⟩:=h;cases rx;obtain ⟨its,r,ht,hz⟩:=I.list hx;have qJ:=r.length;refine ⟨"list", _,slot_list_getitem.lookup,ht.isList.typeIs,?_⟩;refine wpAny_getItem_list_slice ht.isList hs pl pu .none (by simp) ?_ (by rw [List.size_toArray] <;> lia);rw [UV,<-qJ];refine ⟨.ref s.heap.objs.size,_,I.laid (t':=s.toks) (o:=.lst (J6 xs lo hi)) (λb ob q=>Heap.get?_push_of_some _ q) (Nat.le_refl _) ?_,rfl,q _ (I.hok.fresh (Nat.le_refl _))⟩;exact ⟨Nat.le_trans (Uj xs lo hi) hz,_,0,(r.drop (HT.sIx xs.length 0 lo)).take (HT.sIx xs.length xs.length hi-HT.sIx xs.length 0 lo),Heap.get?_push_size _ rfl⟩
def UW:V->Bool
 | .non=>true
 | .bl _=>true
 | .int _=>true
 | .str _=>true
 | _=>false
def eqV:V->V->Bool
 | .non,.non=>true
 | .bl a,.bl b=>a == b
 | .bl a,.int b=>(if a then 1 else 0) == b
 | .int a,.bl b=>a == (if b then 1 else 0)
 | .int a,.int b=>a == b
 | .str a,.str b=>a == b
 | _,_=>false
theorem Zcf {A:Around}{s:Shared}{y x:V}{u v:Value}(ry:RelV y u)(rx:RelV x v)(fy:UW y=true)(fx:UW x=true):SeqAt.EqAt A s u v (eqV y x):=by
 cases y with
 | non=>
  cases ry;cases x with
  | non=>cases rx;exact SeqAt.EqAt.same _
  | bl b=>cases rx;exact SeqAt.EqAt.none_bool b
  | int b=>obtain ⟨t,rfl⟩:=rx;exact SeqAt.EqAt.none_int b t
  | str b=>obtain ⟨t,rfl⟩:=rx;exact SeqAt.EqAt.none_str b t
  | _=>exact absurd (show false=true from fx) Bool.false_ne_true
 | bl a=>
  cases ry;cases x with
  | non=>cases rx;exact SeqAt.EqAt.bool_none a
  | bl b=>cases rx;exact SeqAt.EqAt.bool_bool a b
  | int b=>obtain ⟨t,rfl⟩:=rx;exact SeqAt.EqAt.bool_int a b t
  | str b=>obtain ⟨t,rfl⟩:=rx;exact SeqAt.EqAt.bool_str a b t
  | _=>exact absurd (show false=true from fx) Bool.false_ne_true
 | int a=>
  obtain ⟨t',rfl⟩:=ry;cases x with
  | non=>cases rx;exact SeqAt.EqAt.int_none a t'
  | bl b=>cases rx;exact SeqAt.EqAt.int_bool a t' b
  | int b=>obtain ⟨t,rfl⟩:=rx;exact SeqAt.EqAt.int_int a t' b t
  | str b=>obtain ⟨t,rfl⟩:=rx;exact SeqAt.EqAt.int_str a t' b t
  | _=>exact absurd (show false=true from fx) Bool.false_ne_true
 | str a=>
  obtain ⟨t',rfl⟩:=ry;cases x with
  | non=>cases rx;exact SeqAt.EqAt.str_none a t'
  | bl b=>cases rx;exact SeqAt.EqAt.str_bool a t' b
  | int b=>obtain ⟨t,rfl⟩:=rx;exact SeqAt.EqAt.str_int a t' b t
  | str b=>obtain ⟨t,rfl⟩:=rx;exact SeqAt.EqAt.str_str a t' b t
  | _=>exact absurd (show false=true from fx) Bool.false_ne_true
 | _=>exact absurd (show false=true from fy) Bool.false_ne_true
def eqU (x:V)(u:Value):Bool:=match u with
 | .none=>eqV .non x
 | .bool b=>eqV (.bl b) x
 | .int i _=>eqV (.int i) x
 | .str z _=>eqV (.str z) x
 | _=>false
theorem ZK {x y:V}{u:Value}(r:RelV y u)(f:UW y=true):eqU x u=eqV y x:=by
 cases y with
 | non=>cases r;rfl
 | bl b=>cases r;rfl
 | int i=>obtain ⟨t,rfl⟩:=r;rfl
 | str z=>obtain ⟨t,rfl⟩:=r;rfl
 | _=>exact absurd (show false=true from f) Bool.false_ne_true
theorem Uk {x:V}:∀{xs:List V}{us:List Value},Vals xs us->xs.all UW=true->us.any (eqU x)=xs.any λy=>eqV y x
 | _,_,.nil,_=>rfl
 | y::xs,u::us,.cons r t,f=>by
  rw [List.all_cons,Bool.and_eq_true] at f;rw [List.any_cons,List.any_cons,ZK r f.1,Uk t f.2]
theorem OA {A:Around}{s:Shared}{x:V}{v:Value}(rx:RelV x v)(fx:UW x=true):∀{xs:List V}{us:List Value},Vals xs us->xs.all UW=true->∀u∈us,SeqAt.EqAt A s u v (eqU x u)
 | _,_,.nil,_=>λu hu=>by cases hu
 | y::xs,u::us,.cons r t,f=>λu' hu=>by
  rw [List.all_cons,Bool.and_eq_true] at f;rcases List.mem_cons.mp hu with rfl | hu
  ·rw [ZK r f.1];exact Zcf r rx f.1 fx
  ·exact OA rx fx t f.2 u' hu
def inV (x:V)(xs:List V):Bool:=xs.any λy=>eqV y x
def rIn (K:W.Frag)(neg:Bool):R2:=λx y H Q=>∃p xs,y=.ref p/\(SqL K H p xs\/SqT K H p xs)/\UW x=true/\xs.all UW=true/\Q (.bl (if neg then !inV x xs else inV x xs)) H
theorem XD:OpR X (compareOp .In) (rIn X.K false):=by
 intro qQ s σ H x y v u Q I rx ry h;obtain ⟨p,xs,rfl,hq,fx,fs,q⟩:=h;cases ry;rcases hq with hq | hq
 ·obtain ⟨its,r,pl,hz⟩:=I.list hq;refine SeqAt.in_listAt (eqU x) pl.isList (λw hw=>OA rx fx r fs w (by simpa using hw)) ⟨.bl _,H,I,rfl,?_⟩;rw [show its.toArray.any (eqU x)=its.any (eqU x) by simp,Uk r fs];exact q
 ·obtain ⟨its,r,pl,hz⟩:=I.tuple hq;refine SeqAt.in_tupleAt (eqU x) pl (λw hw=>OA rx fx r fs w (by simpa using hw)) ⟨.bl _,H,I,rfl,?_⟩;rw [show its.toArray.any (eqU x)=its.any (eqU x) by simp,Uk r fs];exact q
theorem Vo:OpR X (compareOp .NotIn) (rIn X.K true):=by
 intro qQ s σ H x y v u Q I rx ry h;obtain ⟨p,xs,rfl,hq,fx,fs,q⟩:=h;cases ry;rcases hq with hq | hq
 ·obtain ⟨its,r,pl,hz⟩:=I.list hq;refine SeqAt.notIn_listAt (eqU x) pl.isList (λw hw=>OA rx fx r fs w (by simpa using hw)) ⟨.bl _,H,I,rfl,?_⟩;rw [show its.toArray.any (eqU x)=its.any (eqU x) by simp,Uk r fs];exact q
 ·obtain ⟨its,r,pl,hz⟩:=I.tuple hq;refine SeqAt.notIn_tupleAt (eqU x) pl (λw hw=>OA rx fx r fs w (by simpa using hw)) ⟨.bl _,H,I,rfl,?_⟩;rw [show its.toArray.any (eqU x)=its.any (eqU x) by simp,Uk r fs];exact q
theorem Vp:Oj X (.builtin "len") (λxs H Q=>∃p ys,xs=[.ref p]/\(SqL X.K H p ys\/SqT X.K H p ys)/\Q (.int ys.length) H):=by
 intro qQ s σ H xs us Q I r h;obtain ⟨p,ys,rfl,hq,q⟩:=h;obtain ⟨u,rfl,rx⟩:=Xx r;cases rx;have hn:=Uh;rcases hq with hq | hq
 ·obtain ⟨its,r',pl,hz⟩:=I.list hq;have qJ:=r'.length;exact Calls.call_len_list pl.isList (by simp only [List.size_toArray] <;> lia) ⟨.int ys.length,H,I.tok _,⟨s.toks+1,by rw [List.size_toArray,qJ]⟩,q⟩
 ·obtain ⟨its,r',pl,hz⟩:=I.tuple hq;have qJ:=r'.length;exact len_tuple pl (by simp only [List.size_toArray] <;> lia) ⟨.int ys.length,H,I.tok _,⟨s.toks+1,by rw [List.size_toArray,qJ]⟩,q⟩
theorem Vq:Oj X (.type "list") (λxs H Q=>∃p ys,xs=[.ref p]/\(SqL X.K H p ys\/SqT X.K H p ys)/\∀l,H l=none->Q (.ref l) (upd H l (.lst ys))):=by
 intro qQ s σ H xs us Q I r h;obtain ⟨p,ys,rfl,hq,q⟩:=h;obtain ⟨u,rfl,rx⟩:=Xx r;cases rx;have fin:∀(its:List Value),Vals ys its->ys.length<=sizeLine->∀(h':Heap)(c':Nat),(∀b o',s.heap.get? b=some o'->h'.get? b=some o') ->
   h'.get? s.heap.objs.size=some { cls:=.type "list", dict:=none,data:=.seq its.toArray c',slots:=#[] }->EP X qQ σ Q (.ref s.heap.objs.size) { s with heap:=h' }:=λits r' hz h' c' kp e=>
  ⟨.ref s.heap.objs.size,_,I.laid (t':=s.toks) kp (Nat.le_refl _) (show ObjOk X.prog X.w _ h' _ (.lst ys) from ⟨hz,its,c',r',e⟩),rfl,q _ (I.hok.fresh (Nat.le_refl _))⟩
 rcases hq with hq | hq
 ·obtain ⟨its,r',pl,hz⟩:=I.list hq;have qJ:=r'.length;obtain ⟨o,ho,hc,n,hd⟩:=pl.isList;exact call_list_seq p (.inl rfl) ho hc hd (λh' c' kp e=>fin its r' hz h' c' kp e) (by simp only [List.size_toArray] <;> lia)
 ·obtain ⟨its,r',pl,hz⟩:=I.tuple hq;have qJ:=r'.length;obtain ⟨o,ho,hc,n,hd⟩:=pl;exact call_list_seq p (.inr rfl) ho hc hd (λh' c' kp e=>fin its r' hz h' c' kp e) (by simp only [List.size_toArray] <;> lia)
theorem UX:Oj X (.type "tuple") (λxs H Q=>∃p ys,xs=[.ref p]/\((SqL X.K H p ys/\∀l,H l=none->Q (.ref l) (upd H l (.tup ys)))\/(SqT X.K H p ys/\Q (.ref p) H))):=by
 intro qQ s σ H xs us Q I r h;obtain ⟨p,ys,rfl,h⟩:=h;obtain ⟨u,rfl,rx⟩:=Xx r;cases rx;rcases h with ⟨hq,q⟩ | ⟨hq,q⟩
 ·obtain ⟨its,r',pl,hz⟩:=I.list hq;have qJ:=r'.length;refine call_tuple_list pl.isList (λh' kp=>?_) (by simp only [List.size_toArray] <;> lia);have I1:Inv X qQ σ H { s with heap:=h' }:=I.kept (t':=s.toks) kp;have I2:Inv X qQ σ (upd H h'.objs.size (.tup ys)) { s with heap:=h'.push { cls:=.type "tuple", data:=.seq its.toArray } }:=
   I1.laid (t':=s.toks) (λb o e=>Heap.get?_push_of_some _ e) (Nat.le_refl _) (show ObjOk X.prog X.w _ _ _ (.tup ys) from ⟨hz,its,r',IsTup.new _ _⟩)
  exact ⟨.ref h'.objs.size,_,I2,rfl,q _ (I1.hok.fresh (Nat.le_refl _))⟩
 ·obtain ⟨its,r',pl,hz⟩:=I.tuple hq;exact call_tuple_same pl ⟨.ref p,H,I,rfl,q⟩
def tyV (K:W.Frag)(T:String)(x:V)(H:Hp):Prop:=match x with
 | .str _=>T = "str"
 | .int _=>T = "int"
 | .ref p=>(T = "list" /\ ∃xs,SqL K H p xs)\/(T = "tuple" /\ ∃o,K.lookup p=some o/\o.cls=.type "tuple" /\ o.dict=none) \/
   (T = "dict" /\ ((∃kvs,H p=some (.dK kvs))\/∃kvs,H p=some (.dT kvs)))\/(T = "set" /\ ∃S n,H p=some (.set S n))
 | _=>False
theorem XE {qQ:List (Addr×Obj)}{σ:St}{H:Hp}{s:Shared}{T:String}{x:V}{v:Value}(I:Inv X qQ σ H s)(r:RelV x v)(ty:tyV X.K T x H) :
  s.TypeIs v T/\∀a,v=.ref a->∃ob,s.heap.get? a=some ob/\ob.dict=none:=by
 cases x with
 | str z=>
  obtain ⟨t,rfl⟩:=r;cases (show T = "str" from ty);exact ⟨typeIs_str s z t,λ_ e=>nomatch e⟩
 | int i=>
  obtain ⟨t,rfl⟩:=r;cases (show T = "int" from ty);exact ⟨typeIs_int s i t,λ_ e=>nomatch e⟩
 | ref p=>
  cases r;rcases ty with ⟨rfl,xs,hq⟩ | ⟨rfl,o,hk,hc,hd⟩ | ⟨rfl,hk⟩ | ⟨rfl,S,n,hk⟩
  ·obtain ⟨its,_,pl,_⟩:=I.list hq;refine ⟨pl.isList.typeIs,λa e=>?_⟩;cases e;obtain ⟨o,n,e,c,hd,_⟩:=pl;exact ⟨o,e,hd⟩
  ·refine ⟨⟨o,I.kIn p o hk,hc⟩,λa e=>?_⟩;cases e;exact ⟨o,I.kIn _ o hk,hd⟩
  ·have z:∃o,s.heap.get? p=some o/\o.ExactDict:=by
    rcases hk with ⟨kvs,hk⟩ | ⟨kvs,hk⟩
    ·obtain ⟨_,_,_,_,o,_,_,e,ex,_⟩:=I.hok p _ hk;exact ⟨o,e,ex⟩
    ·obtain ⟨_,_,_,_,o,_,_,e,ex,_⟩:=I.hok p _ hk;exact ⟨o,e,ex⟩
   obtain ⟨o,e,ex⟩:=z;refine ⟨⟨o,e,ex.1⟩,λa e2=>?_⟩;cases e2;exact ⟨o,e,ex.2.1⟩
  ·obtain ⟨o,_,_,_,e,ex,_⟩:=I.hok p _ hk;refine ⟨⟨o,e,ex.1⟩,λa e2=>?_⟩;cases e2;exact ⟨o,e,ex.2.1⟩
 | _=>exact False.elim ty
def ZeR (K:W.Frag)(T:String)(r:V->List V->Hp->VK->Prop)(to:TE):TE:=λσ H Q=>to σ H λx H1=>tyV K T x H1/\r x [] H1 Q
def tBM (K:W.Frag)(T:String)(r:V->List V->Hp->VK->Prop)(to:TE)(t:TA):TE:=λσ H Q=>to σ H λx H1=>tyV K T x H1/\t σ H1 λxs H2=>r x xs H2 Q
variable {o e:Expr}{es:List Expr}{to:TE}{t:TA}{name:Str}{apos qV:Pos}{T id:String}{r:V->List V->Hp->VK->Prop}
theorem Wg (pa:PlainAttrs T)(slot:Slot T name id)(hty:typeOf (.builtin id)=pure (.type "method_descriptor"))(hm:MtR X id r)(ho:PE X o to)(hbase:attributeBase o name X.env (eval o X.env)=eval o X.env:=by rfl)(hline:(apos.endLine == qV.line)=true:=by rfl):PE X (.Call (.Attribute o name apos) [] [] qV) (ZeR X.K T r to):=by
 intro qQ s σ H Q I h;refine wpAny_Call_method0_late hbase hline (thn (ho qQ s σ H _ I h) λv s1 ⟨x,H1,I1,r1,ty,q1⟩=>?_);obtain ⟨h1,h2⟩:=XE I1 r1 ty;exact ⟨T,id,pa,slot,hty,h1,h2,Calls.callWith_builtin rfl (PySem.evalArgs_none (hm qQ s1 σ H1 x [] v [] Q I1 r1 .nil q1))⟩
theorem Op (pa:PlainAttrs T)(slot:Slot T name id)(hty:typeOf (.builtin id)=pure (.type "method_descriptor"))(hm:MtR X id r)(ho:PE X o to)(ha:PA X (e::es) t)(hbase:attributeBase o name X.env (eval o X.env)=eval o X.env:=by rfl)(hfew:((backTo qV (starEach (e::es) X.env)).all (λx=>!x.1) && (backToKw qV (keywordEach [] X.env)).all (λx=>x.1.isSome)
   && decide ((e::es).length+([]:List Keyword).length+(if ([]:List Keyword).isEmpty then 0 else 1)<30))=true:=by rfl)(hline:(apos.endLine == qV.line)=true:=by rfl)(hs:starEach (e::es) X.env=(false,eval e X.env)::starEach es X.env:=by rfl)(hplain:(backTo qV (starEach es X.env)).any (·.1)=false:=by rfl) :
  PE X (.Call (.Attribute o name apos) (e::es) [] qV) (tBM X.K T r to t):=by
 intro qQ s σ H Q I h;refine wpAny_Call_method_late hbase hfew hline rfl (thn (ho qQ s σ H _ I h) λv s1 ⟨x,H1,I1,r1,ty,q1⟩=>?_);obtain ⟨h1,h2⟩:=XE I1 r1 ty;refine ⟨T,id,pa,slot,hty,h1,h2,?_⟩;have hA:=ha qV qQ s1 σ H1 _ I1 q1;rw [hs] at hA ⊢;refine Calls.callWith_builtin (by show (false || (backTo qV (starEach es X.env)).any (·.1))=false;rw [hplain] <;> rfl) (Calls.evalArgs_plain ?_);exact thn hA λus s2 ⟨vs,H2,I2,r2,q2⟩=>hm qQ s2 σ H2 x vs v us Q I2 r1 r2 q2
/- xs.append(e),list.index on a module's tuple .. are MtR facts of 06m -/
end
end L2
namespace L2
open PySem PySem.Spec PyProof.Rows
def MtM (X:Cx)(id:String)(r:V->List V->Hp->VK->Prop):Prop:=
 ∀(qQ:List (Addr×Obj))(s:Shared)(σ:St)(H:Hp)(x:V)(xs:List V)(v:Value)(us:List Value)(Q:VK),Inv X qQ σ H s->RelV x v->Vals xs us->r x xs H Q ->
  wpAny (model X.prog X.w) X.A (call (.builtin id) (v::us)) (EP X qQ σ Q) X.xe s
theorem Vals.one:∀{x:V}{us:List Value},Vals [x] us->∃u,us=[u]/\RelV x u
 | _,_,.cons r .nil=>⟨_,rfl,r⟩
theorem Vals.two:∀{x y:V}{us:List Value},Vals [x,y] us->∃u v,us=[u,v]/\RelV x u/\RelV y v
 | _,_,_,.cons r (.cons q .nil)=>⟨_,_,rfl,r,q⟩
theorem Vals.zero:∀{us:List Value},Vals [] us->us=[]
 | _,.nil=>rfl
theorem Vals.dropLast {xs:List V}{us:List Value}(h:Vals xs us):Vals xs.dropLast us.dropLast:=by
 induction h with
 | nil=>exact .nil
 | cons r t ih=>
  cases t with
  | nil=>exact .nil
  | cons q t'=>exact .cons r ih
theorem WZ {α:Type}(l:List α):l.eraseIdx (l.length-1)=l.dropLast:=by
 induction l with
 | nil=>rfl
 | cons a r ih=>
  cases r with
  | nil=>rfl
  | cons b r=>
   have e:(a::b::r).length-1=((b::r).length-1)+1:=by
    have h1:(a::b::r).length=r.length+2:=rfl;have h2:(b::r).length=r.length+1:=rfl
    lia
   rw [e,List.eraseIdx_cons_succ,ih]
   all_goals rfl
section
variable {X:Cx}{qQ:List (Addr×Obj)}{σ:St}{H:Hp}{s:Shared}{l b:Addr}{xs ys zs:List V}
theorem Inv.lset {its its':List Value}{n:Nat}{f:Array Value->Array Value}{t':Nat}(I:Inv X qQ σ H s)(hH:H l=some (.lst xs))(e:s.heap.get? l=some { cls:=.type "list", data:=.seq its.toArray n })(hf:f its.toArray=its'.toArray)(hv:Vals ys its')(hz:ys.length<=sizeLine) :
  Inv X qQ σ (upd H l (.lst ys)) { s with heap:=s.heap.update l (Obj.mapSeq f),toks:=t' }:=by
 have q:=PySem.IsL.update e f;rw [hf] at q;refine I.write (x:=l) (e:=l) (by rw [hH];exact trivial) (.inl rfl) (λb' u hb hu=>(Heap.get?_update_other s.heap (Obj.mapSeq f) (Ne.symm hb)).trans hu) ⟨_,q⟩ ?_;exact ⟨hz,its',_,hv,q⟩
theorem Inv.lnew {its:List Value}{t':Nat}(I:Inv X qQ σ H s)(hv:Vals ys its)(hz:ys.length<=sizeLine) :
  Inv X qQ σ (upd H s.heap.objs.size (.lst ys)) { s with heap:=s.heap.push { cls:=.type "list", data:=.seq its.toArray },toks:=t' }:=
 I.laid (λ_ _ q=>Heap.get?_push_of_some _ q) (Nat.le_refl _) ⟨hz,its,0,hv,Heap.get?_push_size _ rfl⟩
theorem Inv.fresh (I:Inv X qQ σ H s):H s.heap.objs.size=none:=I.hok.fresh (Nat.le_refl _)
theorem Inv.lstM (I:Inv X qQ σ H s)(hH:H l=some (.lst xs)):xs.length<=sizeLine/\∃(its:List Value)(n:Nat),Vals xs its/\xs.length=its.length/\s.heap.get? l=some { cls:=.type "list", data:=.seq its.toArray n }:=by
 obtain ⟨z,its,n,r,e⟩:=I.hok l _ hH;exact ⟨z,its,n,r,r.length,e⟩
theorem Wh {n:Nat}(h:n<=sizeLine):Builtin.List.listTooLong n=false:=by
 unfold Builtin.List.listTooLong;exact decide_eq_false (by lia)
end
section
variable {X:Cx}
def Zat:V->List V->Hp->VK->Prop:=λx vs H Q=>∃l xs y,x=.ref l/\vs=[y]/\H l=some (.lst xs)/\xs.length<sizeLine/\Q .non (upd H l (.lst (xs++[y])))
theorem Jn:MtM X "list.append" Zat:=by
 intro qQ s σ H x vs v us Q I rx rv h;obtain ⟨l,xs,y,rfl,rfl,hH,hz,q⟩:=h;cases rx;obtain ⟨u,rfl,ru⟩:=rv.one;obtain ⟨z,its,n,r,hl,e⟩:=I.lstM hH;refine call_meets F.slot_list_append ⟨_,e,rfl⟩ F.entry_list_append (F.args_list_append_2 _ _) (PySem.list_append l its.toArray n u (by rw [List.size_toArray];lia)) ⟨e,?_⟩;refine ⟨.non,_,I.lset (its':=its++[u]) hH e (by simp) (r.append (.cons ru .nil)) ?_,rfl,q⟩;rw [List.length_append,List.length_singleton]
 lia
def Zau:V->List V->Hp->VK->Prop:=λx vs H Q=>∃l b xs zs,x=.ref l/\vs=[.ref b]/\H l=some (.lst xs)/\H b=some (.lst zs)/\xs.length+zs.length<=sizeLine/\Q .non (upd H l (.lst (xs++zs)))
theorem XF:MtM X "list.extend" Zau:=by
 intro qQ s σ H x vs v us Q I rx rv h;obtain ⟨l,b,xs,zs,rfl,rfl,hH,hB,hz,q⟩:=h;cases rx;obtain ⟨u,rfl,ru⟩:=rv.one;cases ru;obtain ⟨z,its,n,r,hl,e⟩:=I.lstM hH;obtain ⟨z2,its2,n2,r2,hl2,e2⟩:=I.lstM hB;have hsz:its.toArray.size+its2.toArray.size<=sizeLine:=by rw [List.size_toArray,List.size_toArray];lia
 have hlong:¬ (!its.toArray.isEmpty && Builtin.List.listTooLong (its.toArray.size+its2.toArray.size))=true:=by
  rw [Wh hsz,Bool.and_false];exact Bool.false_ne_true
 refine call_meets F.slot_list_extend ⟨_,e,rfl⟩ F.entry_list_extend (F.args_list_extend_2 _ _)
  (AutoSeq1.list_extend_list_list_0 l its.toArray n b its2.toArray n2 hlong (by rw [List.size_toArray];lia) (by lia)) ⟨e,e2,?_⟩
 refine ⟨.non,_,I.lset (its':=its++its2) hH e (by simp) (r.append r2) ?_,rfl,q⟩;rw [List.length_append]
 lia
def ZeS:V->List V->Hp->VK->Prop:=λx vs H Q=>∃l xs y,x=.ref l/\vs=[]/\H l=some (.lst xs)/\xs[xs.length-1]?=some y/\Q y (upd H l (.lst xs.dropLast))
theorem Wi:MtM X "list.pop" ZeS:=by
 intro qQ s σ H x vs v us Q I rx rv h;obtain ⟨l,xs,y,rfl,rfl,hH,hy,q⟩:=h;cases rx;have hus:=rv.zero;subst hus;obtain ⟨z,its,n,r,hl,e⟩:=I.lstM hH;obtain ⟨u,hu,ru⟩:=r.get hy;have hy':its.toArray[its.toArray.size-1]?=some u:=by
  show its.toArray[its.length-1]?=some u;rw [<-Array.getElem?_toList,<-hl];exact hu
 refine call_meets F.slot_list_pop ⟨_,e,rfl⟩ F.entry_list_pop (F.args_list_pop_1 _) (MeetsSeq.list_pop_last l its.toArray n u hy' (by rw [List.size_toArray];lia)) ⟨e,?_⟩;refine ⟨y,_,I.lset (its':=its.dropLast) hH e ?_ r.dropLast ?_,ru,q⟩
 ·show its.toArray.eraseIdxIfInBounds (its.toArray.size-1)=its.dropLast.toArray;rw [List.size_toArray,List.eraseIdxIfInBounds_toArray,WZ]
 ·rw [List.length_dropLast]
  lia
def ZeT:R2:=λx y H Q=>∃l b xs zs,x=.ref l/\y=.ref b/\H l=some (.lst xs)/\H b=some (.lst zs)/\xs.length+zs.length<=sizeLine/\∀p,H p=none->Q (.ref p) (upd H p (.lst (xs++zs)))
theorem J8:OpR X (binaryOp .Add) ZeT:=by
 intro qQ s σ H x y v u Q I rx ry h;obtain ⟨l,b,xs,zs,rfl,rfl,hH,hB,hz,q⟩:=h;cases rx;cases ry;obtain ⟨z,its,n,r,hl,e⟩:=I.lstM hH;obtain ⟨z2,its2,n2,r2,hl2,e2⟩:=I.lstM hB;refine PySem.P.add_list e e2 ?_ (by rw [List.size_toArray,List.size_toArray];lia);have ea:its.toArray++its2.toArray=(its++its2).toArray:=by simp
 rw [ea];exact ⟨.ref _,_,I.lnew (t':=s.toks) (r.append r2) (by rw [List.length_append];lia),rfl,q _ I.fresh⟩
end
end L2
namespace Att
open PySem PySem.W PySem.Calls PyProof.Rows
theorem Ul {P:Params}{h:Heap}:∀(ns:List Int)(vs:List Value),WellAll P h vs (ns.map WData.int)->IntsAre vs ns:=by
 intro ns
 induction ns with
 | nil=>
  intro vs w;rw [List.map_nil] at w;cases w;exact .nil
 | cons n ns ih=>
  intro vs w;rw [List.map_cons] at w;cases w with
  | cons a b=>
   cases a;exact .cons _ _ (ih _ b)
theorem XG {l:OpenLaw}{n:Nat}(hn:l.most=some n){P:Params}{h:Heap}{args:List WData}{vals:List Value}(hpre:l.row.toRowW.claim.pre args=true)(hwl:WellAll P h vals args) :
  ∃a vs ns,vals=[Value.ref a]/\args=[WData.list (ns.map WData.int)]/\h.get? a=some { cls:=.type "list", data:=.seq vs.toArray }/\IntsAre vs ns/\ns.length<=n:=by
 have hsh:WShape.hasAll [] args [.list .int]=true:=(pre_splitW hpre).1;have hc:l.pre.holds [] { args:=args }=true:=(pre_splitW hpre).2;obtain ⟨d,r,rfl,h1,h2⟩:=hasAllW_cons hsh;obtain rfl:=hasAllW_nil h2;obtain ⟨xs,rfl,h3⟩:=hasW_list h1;obtain ⟨ns,rfl⟩:=items_int h3;have qJ:ns.length<=n:=by
  unfold OpenLaw.pre at hc;have h4:(WTm.not (.lt (.lit (.int (n:Int))) (.len (.arg 0)))).holds [] { args:=[.list (ns.map .int)] }=true:=by
   have h4:=(holds_andW hc).1;rw [hn] at h4;exact h4
  have h5:=condW_of h4 (w_not (w_lt w_lit (w_len_list (w_arg rfl))));rw [List.length_map] at h5;refine Nat.le_of_not_lt λq=>?_;have q':(n:Int)<((ns.length:Nat):Int):=by lia
  first
   | (rw [decide_eq_true q'] at h5;exact absurd h5 (by decide))
   | (simp at h5;lia)
 cases hwl with
 | cons w1 w2=>
  cases w2;cases w1 with
  | list ho qX=>exact ⟨_,_,ns,rfl,rfl,ho,Ul ns _ qX,qJ⟩
theorem XH (l:OpenLaw)(args:List WData):l.row.toRowW.claim.post args (.bool true) args=true:=
 postW_of (r:=l.row.toRowW) (X:=(true == true))
  (show WShape.has [] (.bool true) .bool=true by first | rfl | decide | simp [WShape.has,WShape.arms,WShape.armsAll])
  (show (WTm.eq .res (.lit (.bool true))).value [] { args:=args,res:=some (.bool true),after:=args }=some (.bool (true == true)) from w_eq_bool (w_res rfl) w_lit) rfl
theorem attach_call {l:OpenLaw}{n:Nat}{q:Program}{loose:List Str}{XP:(Str->Option Value)->Heap->Prop}{YP:World->Heap->Prop}{d:DefRec}(hn:l.most=some n)(hdf:d.params.defaults=[])(call:∀(w:World)(s₀ s₁:Shared)(mg mb:Str->Option Value)(fa:Addr)(o:Obj)(pm cd doc:Value)(a:Addr)(vs:List Value)(ns:List Int),
   Ground q loose [] XP w s₀ mg mb s₁.heap->YP w s₁.heap ->
   s₁.heap.get? fa=some o->o.data=.func (docDef d.name d.params d.body d.scope pm cd doc)->s₁.heap.CodeRec cd d.name->mg d.name=some (.ref fa) ->
   s₁.heap.get? a=some { cls:=.type "list", data:=.seq vs.toArray }->IntsAre vs ns->ns.length<=n->s₁.gens=#[] ->
   codeAny (model l.prog w) callerA (.call (.ref fa) ⟨[.ref a],[]⟩) (λr s'=>r=.ok (.ret (.bool true))/\OldK s₁.heap s'.heap/\s'.os=s₁.os/\AllBare s'.gens) s₁) :
  WalkO q loose XP YP l.row.toRowW d [] (λf vs=>PySem.call f vs):=by
 intro w s₀ s₁ mg mb G Y fa o pm cd doc dV kV ho hd hcd hD hmg hg args vals as hpre hlay hrd hwl hlo;obtain rfl:dV=.none:=Dflts.none hD hdf;obtain rfl:kV=.none:=Dflts.noKw hD;obtain ⟨a,vs,ns,rfl,rfl,hobj,hints,qJ⟩:=XG hn hpre hwl;refine enter_call (codeAny_mono (call w s₀ s₁ mg mb fa o pm cd doc a vs ns G Y ho (fd_plain hd) hcd hmg hobj hints qJ hg) λr s' hq=>?_);obtain ⟨rfl,h2,h3,h4⟩:=hq;exact ⟨.inl ⟨.bool true,.bool true,[],rfl,λ_=>rfl,.bool true,XH l _,λ_=>⟨List.Pairwise.nil,λ_ hm=>(nomatch hm)⟩⟩,h2,h3,h4⟩
end Att
namespace L2
open PySem PySem.Spec PyProof.Rows
theorem Vr:∀{vs:List Value}{ns:List Int},IntsAre vs ns->Vals (ns.map V.int) vs
 | _,_,.nil=>.nil
 | _,_,.cons n t h=>.cons ⟨t,rfl⟩ (Vr h)
end L2
/- THE LAST THEOREM (shape;LID,My.* are yours):
  My.Adr: a structure of the addresses that your layer names (classes,functions);My.Txt K t: a structure (Prop) of the equations over K;
  My.txt_mk:{K} {implicit addresses ..} (e1:nsIn K mainGlobals "law" = some (some (.ref f))) (e2:K.lookup f=some ⟨oc,od,.func (fnOf "law" "law" params body scope dV kV doc pm an cdv ct),sl⟩) (e3:codeIn K cdv "law" = true) ..:∃t,My.Txt K t
set_option maxRecDepth 100000 in
set_option maxHeartbeats 0 in
theorem PySem.Challenge.cw_LID_holds:PySem.Challenge.rw_LID.Holds:=by
 w_on;o_law;k_head;(case hw=>w_witness2)
 k_fill
 refine L2.walk_of (l:=PySem.Challenge.rw_LID) (n:=63) (k:=40) (x := "script") (CX:=λw=>..) (sp:=λ_=>My.sp_law) rfl (by decide) rfl ⟨rfl,by decide,by decide⟩ (λw h Y=>W.kIn_of Y) ?F ?S ?C
 case F=>
  intro w mg fa h KX G hmg;have T:∃t,My.Txt (L2.KOf KX) t:=by
   dsimp only [L2.KOf]                          -- K must stand as «<heap const> w.params» for k_is
   refine' My.txt_mk ?e1 ?e2 ?e3 ..
   (case e1=>W.k_is)                    -- in the order: a name->its address->its object->its parts
   (case e2=>W.k_is)
   ..
  obtain ⟨t,T⟩:=T;have e0:=hmg.symm.trans (W.mg_of KX G T.law);cases e0                                       -- fa is the law's own address;exact ⟨_,λs u=>.of_eq rfl,λbase kb nb=>My.law_fn T kb nb⟩     -- if «.of_eq rfl» comes too early: refine' ⟨_,?b,λbase kb nb=>My.law_fn T kb nb⟩;exact λs u=>.of_eq rfl
 case S=>exact λw H a ns hl hO hS=>..
 case C=>exact ..
(the tactic k_is has no namespace: write k_is) -/
namespace L2
open PySem PySem.Spec PyProof.Rows
def GC (s:Stmt):Arguments:=match s with
 | .FunctionDef _ a _ _ _ _ _ _ _ _=>a
 | _=>{ posonlyargs:=[],args:=[],vararg:=none,kwonlyargs:=[],kw_defaults:=[],kwarg:=none,defaults:=[] }
def Gy (s:Stmt):List Stmt:=match s with
 | .FunctionDef _ _ b _ _ _ _ _ _ _=>b
 | _=>[]
def Gh (s:Stmt):Scope:=match s with
 | .FunctionDef _ _ _ _ _ _ sc _ _ _=>sc
 | _=>{ kind:=.function,names:=[],isGenerator:=false,isCoroutine:=false }
abbrev CX0:CXT:=λ_ _ _ _ _ _=>False
abbrev E0:XK:=λ_ _ _=>False
theorem Jh {X:Cx}:OU CX0 X E0:=λ_ _ _ _ _ _ _ h=>h.elim
structure Fun (K:W.Frag)(x qual:Str)(st:Stmt)(f:Addr)(fd:FuncData):Prop where
 ex:∃(oc:Value)(od:Option Addr)(kV doc pm:Value)(an:Option Addr)(cdv ct:Value)(osl:Array (Option Value)),
  fd=W.fnOf x qual (GC st) (Gy st) (Gh st) .none kV doc pm an cdv ct/\K.lookup f=some ⟨oc,od,.func fd,osl⟩/\W.codeIn K cdv qual=true
 kp:W.keepIn K (.ref f)=true
section
variable {P:Program}{w:World}{K:W.Frag}{mg:Str->Option Value}{base:Heap}
theorem ZeU {α:Type}{l:List α}(h:l.length=0):l=[]:=List.length_eq_zero_iff.mp h
theorem Zav {α:Type}{l:List α}{n:Nat}(h:l.length=n+1):∃a t,l=a::t/\t.length=n:=by
 cases l with
 | nil=>cases h
 | cons a t=>exact ⟨a,t,rfl,by simpa using h⟩
theorem UY {α:Type}{l:List α}(h:l.length=1):∃a,l=[a]:=by
 obtain ⟨a,t,rfl,g⟩:=Zav h;exact ⟨a,by rw [ZeU g]⟩
theorem YE {α:Type}{l:List α}(h:l.length=2):∃x0 x1,l=[x0,x1]:=by
 obtain ⟨a,t,rfl,g⟩:=Zav h;obtain ⟨x1,rfl⟩:=UY g;exact ⟨a,x1,rfl⟩
theorem ZdU {α:Type}{l:List α}(h:l.length=3):∃x0 x1 x2,l=[x0,x1,x2]:=by
 obtain ⟨a,t,rfl,g⟩:=Zav h;obtain ⟨x1,x2,rfl⟩:=YE g;exact ⟨a,x1,x2,rfl⟩
theorem ZeV {α:Type}{l:List α}(h:l.length=4):∃x0 x1 x2 x3,l=[x0,x1,x2,x3]:=by
 obtain ⟨a,t,rfl,g⟩:=Zav h;obtain ⟨x1,x2,x3,rfl⟩:=ZdU g;exact ⟨a,x1,x2,x3,rfl⟩
theorem ZeW {α:Type}{l:List α}(h:l.length=5):∃x0 x1 x2 x3 x4,l=[x0,x1,x2,x3,x4]:=by
 obtain ⟨a,t,rfl,g⟩:=Zav h;obtain ⟨x1,x2,x3,x4,rfl⟩:=ZeV g;exact ⟨a,x1,x2,x3,x4,rfl⟩
theorem ZeX {α:Type}{l:List α}(h:l.length=6):∃x0 x1 x2 x3 x4 x5,l=[x0,x1,x2,x3,x4,x5]:=by
 obtain ⟨a,t,rfl,g⟩:=Zav h;obtain ⟨x1,x2,x3,x4,x5,rfl⟩:=ZeW g;exact ⟨a,x1,x2,x3,x4,x5,rfl⟩
theorem Ze5 {α:Type}{l:List α}(h:l.length=7):∃x0 x1 x2 x3 x4 x5 x6,l=[x0,x1,x2,x3,x4,x5,x6]:=by
 obtain ⟨a,t,rfl,g⟩:=Zav h;obtain ⟨x1,x2,x3,x4,x5,x6,rfl⟩:=ZeX g;exact ⟨a,x1,x2,x3,x4,x5,x6,rfl⟩
theorem Fun.ok {x qual:Str}{st:Stmt}{f:Addr}{fd:FuncData}{N ps:List Str}{k:Nat}{sp:Sp}(F:Fun K x qual st f fd)(S:Gz N ps (Gh st))(len:∀vs H Q E,sp vs H Q E->vs.length=ps.length)(qW:∀(cdv:Value)(A:Around)(outer:List Env)(s:Shared)(H:Hp)(vs:List V)(Q:VK)(E:XK),Room k (A.deeper (envOfC qual (Gh st) s.heap.objs.size f cdv))->sp vs H Q E ->
   ∃t,PSs (WV CX0 P w K mg base N qual (Gh st) f cdv A outer s H E).nox (Gy st) t/\t { nx:=λ_ H'=>Q .non H',rt:=Q } (JU N vs) H):Jl P w K mg base CX0 (k+1) f fd ps sp:=by
 obtain ⟨oc,od,kV,doc,pm,an,cdv,ct,osl,rfl,lk,hcd⟩:=F.ex;refine Zb9 lk hcd S len λA outer s H vs Q E hr hsp=>?_;obtain ⟨t,h,q⟩:=qW cdv A outer s H vs Q E hr hsp;exact ⟨t,h.nox,q⟩
theorem Fun.binds {x qual:Str}{st:Stmt}{f:Addr}{fd:FuncData}{ps:List Str}(F:Fun K x qual st f fd)(h:∀(kV doc pm:Value)(an:Option Addr)(cdv ct:Value)(us:List Value),us.length=ps.length->bindArgs (W.fnOf x qual (GC st) (Gy st) (Gh st) .none kV doc pm an cdv ct) ⟨us,[]⟩=pure (ps.zip us)):Binds K fd ps []:=by
 obtain ⟨oc,od,kV,doc,pm,an,cdv,ct,osl,rfl,lk,hcd⟩:=F.ex;exact .all (h kV doc pm an cdv ct)
theorem GZ {x qual:Str}{st:Stmt}{f:Addr}{oc:Value}{od an:Option Addr}{osl:Array (Option Value)}{kV doc pm cdv ct:Value}(l:K.lookup f=some ⟨oc,od,.func (W.fnOf x qual (GC st) (Gy st) (Gh st) .none kV doc pm an cdv ct),osl⟩)(c:W.codeIn K cdv qual=true)(k:W.keepIn K (.ref f)=true):Fun K x qual st f (W.fnOf x qual (GC st) (Gy st) (Gh st) .none kV doc pm an cdv ct):=⟨⟨oc,od,kV,doc,pm,an,cdv,ct,osl,rfl,l,c⟩,k⟩
end
section
variable {X:Cx}
theorem pv (i:Nat){x:Str}{pos:Pos}(hN:X.N[i]?=some x:=by rfl)(hv:Vis X.env.scope x:=by first | exact Or.inl rfl | exact Or.inr (Or.inl rfl) | exact Or.inr (Or.inr rfl))(hd:(x == ("__debug__" : Str))=false:=by decide)(hcd:(x == ("__classdict__" : Str))=false:=by decide):PE X (.Name x pos) (OT i):=Zb2 hN hv hd hcd
end
theorem GR {A B:Prop}(h:B):if false=true then A else B:=by
 rw [if_neg Bool.false_ne_true];exact h
theorem GI {A B:Prop}(h:A):if true=true then A else B:=by
 rw [if_pos rfl];exact h
theorem Ox {c A B:Prop}[Decidable c](h1:c->A)(h2:¬ c->B):if c then A else B:=by
 by_cases h:c
 ·rw [if_pos h];exact h1 h
 ·rw [if_neg h];exact h2 h
def Same (H H':Hp):Prop:=∀b o,H b=some o->H' b=some o
theorem Same.refl (H:Hp):Same H H:=λ_ _ h=>h
theorem Same.trans {H H1 H2:Hp}(a:Same H H1)(b:Same H1 H2):Same H H2:=λc o h=>b c o (a c o h)
theorem Same.free {H H':Hp}(e:Same H H'){l:Addr}(h:H' l=Option.none):H l=Option.none:=by
 cases q:H l with
 | none=>rfl
 | some o=>
  rw [e l o q] at h;cases h
end L2
namespace L2
open PySem PySem.Spec PyProof.Rows
section
variable {prog:Program}{w:World}{A:Around}{R:Result->Shared->Prop}{s:Shared}
theorem Vs {elt qZ iter:Expr}{ifs:List Expr}{scope:Scope}{pos:Pos}{it acc:Value}{env:Env}(I:Nat->Shared->Prop)(turn:∀n s,I n s->wpAny (model prog w) A (pyNext it) (λr s1=>match r with
   | none=>R (.ok .next) s1
   | some v=>wpAny (model prog w) A (letOwnedTupleGo qZ it v) (λ_ s1'=>wpAny (model prog w) A (assign qZ env v) (λ_ s2=>
     wpAny (model prog w) A (forIn ifs true λc r=>if r=true then do let ok <- isTrue c env (eval c env);pure (ForInStep.yield ok) else pure (ForInStep.yield r)) (λok s3=>
      if ok=true then wpAny (model prog w) A (eval elt env) (λx s4=>
       wpAny (model prog w) A (call (.builtin "list.append") [acc,x]) (λ_ s5=>∃m,m<n/\I m s5) (λ_ _=>False) s4) (λ_ _=>False) s3
      else ∃m,m<n/\I m s3) (λ_ _=>False) s2) (λ_ _=>False) s1') (λ_ _=>False) s1) (λ_ _=>False) s)(n:Nat)(h:I n s) :
  codeAny (model prog w) A (.compLoop (.ListComp elt [⟨qZ,iter,ifs,0⟩] scope pos) 0 it acc env) R s:=by
 have ff:∀{E:Value->Shared->Prop},∀(x:Value)(s:Shared),(λ(_:Value) (_:Shared)=>False) x s->E x s:=λ_ _ z=>False.elim z;refine codeAny_loop rfl I (λn s hI=>?_) n h;show wpAny _ A ((compTurn (.ListComp elt [⟨qZ,iter,ifs,0⟩] scope pos) 0 it acc env).onRaise (λx=>do noteFrame x env;theTreesLotGoes x)) _ _ s;refine wpAny_noted ?_;rw [compTurn_list];refine wpAny_bind (wpAny_standAt (wpAny_bind (wpAny_mono (turn n s hI) (λr s1 h1=>?_) ff)));cases r with
 | none=>exact wpAny_pure h1
 | some v=>
  refine wpAny_bind (wpAny_mono h1 (λ_ s1' h1'=>?_) ff);refine wpAny_bind (wpAny_mono h1' (λ_ s2 h2=>wpAny_bind (wpAny_mono h2 (λok s3 h3=>?_) ff)) ff);cases ok with
  | false=>exact wpAny_pure ⟨rfl,h3⟩
  | true=>
   exact wpAny_bind (wpAny_bind (wpAny_mono h3 (λx s4 h4=>wpAny_bind (wpAny_mono h4 (λ_ s5 h5=>wpAny_pure (wpAny_pure ⟨rfl,h5⟩)) ff)) ff))
end
def Cx.comp (X:Cx)(scope:Scope)(cl:List (Str×Addr))(N:List Str)(C:Addr)(s:Shared)(H:Hp)(fp:List Addr):Cx:=
 { X with N:=N,s₀:=s,H₀:=H,env:=compEnvC scope cl C X.env,outer:=X.stack,ex:=fp,fn:=λ_=>false,pn:=[],xe:=λ_ _=>False }
def Zcg (X:Cx)(ifs:List Expr)(t:TT):Prop:=
 ∀(qQ:List (Addr×Obj))(s:Shared)(σ:St)(H:Hp)(Q:Bool->Hp->Prop),Inv X qQ σ H s->t σ H Q ->
  wpAny (model X.prog X.w) X.A (forIn ifs true λc r=>if r=true then do let ok <- isTrue c X.env (eval c X.env);pure (ForInStep.yield ok) else pure (ForInStep.yield r)) (TP X qQ σ Q) X.xe s
def ZL:TT:=λ_ H Q=>Q true H
theorem JZ {X:Cx}:Zcg X [] ZL:=λ_ _ _ H _ I h=>wpAny_tests_nil ⟨H,I,h⟩
theorem YM {X:Cx}{c:Expr}{t:TT}(h:PT X c t):Zcg X [c] t:=λqQ s σ H Q I hw=>wpAny_tests_one (h qQ s σ H Q I hw)
structure JV (X:Cx)(scope:Scope)(cl:List (Str×Addr))(own:List Str)(fr:List (Str×Nat)):Prop where
 clos:closureFor scope X.env=pure cl
 nocell:∀y∈scope.names,y.2≠.cell
 kind:scope.kind=.function
 names:∀y∈scope.names,y.2=.local->scope.names.lookup y.1=some .local
 cls:∀y c,cl.lookup y=some c->X.env.cells.lookup y=some c
 has:∀y,((relabel scope X.env).names.lookup y=some .cell\/(relabel scope X.env).names.lookup y=some .free)->∃c,cl.lookup y=some c
 free:∀p∈fr,X.N[p.2]?=some p.1/\(X.env.kindOf p.1=some .cell\/X.env.kindOf p.1=some .free)/\((relabel scope X.env).names.lookup p.1=some .cell\/(relabel scope X.env).names.lookup p.1=some .free)
def On (own:List Str)(fr:List (Str×Nat))(σ:St):St:=own.map (λ_=>none)++fr.map λp=>(σ[p.2]?).join
def OV:St->St->Prop
 | [],[]=>True
 | none::r,_::r'=>OV r r'
 | some v::r,some v'::r'=>v=v'/\OV r r'
 | _,_=>False
theorem Oe:∀{a b:St},OV a b->∀(i:Nat)(v:V),a[i]?=some (some v)->b[i]?=some (some v)
 | [],[],_,i,v,h=>by simp at h
 | [],_::_,z,_,_,_=>z.elim
 | none::r,[],z,_,_,_=>z.elim
 | some _::r,[],z,_,_,_=>z.elim
 | some _::r,none::_,z,_,_,_=>z.elim
 | none::r,_::r',z,0,v,h=>by simp at h
 | none::r,_::r',z,i+1,v,h=>by
  have:=Oe (a:=r) (b:=r') z i v (by simpa using h);simpa using this
 | some x::r,some x'::r',z,0,v,h=>by
  obtain ⟨e,_⟩:=z;subst e;simpa using h
 | some x::r,some x'::r',z,i+1,v,h=>by
  have:=Oe (a:=r) (b:=r') z.2 i v (by simpa using h);simpa using this
def JW (J:It)(D:Addr)(g:TG)(tc:TT)(te:TE)(σ0:St)(W:Nat->Nat->List V->Hp->Prop)(R:Hp->Prop):Prop:=
 ∀i m ys H2,W i m ys H2->(J.stop i H2/\R H2)\/(J.go i H2/\∃N:List V->Hp->Prop,(∀ys' H',N ys' H'->∃m',m'<m/\W (i+1) m' ys' H')/\∀x H3,J.yld i H2 x H3->g x σ0 H3 λσ4 H4=>OV σ0 σ4/\tc σ4 H4 λb H5=>
  if b=true then te σ4 H5 λy H6=>H6 D=some (.lst ys)/\ys.length<sizeLine/\N (ys++[y]) (upd H6 D (.lst (ys++[y])))
  else N ys H5)
def Zch (wi:TI)(g:TG)(tc:TT)(te:TE)(own:List Str)(fr:List (Str×Nat)):TE:=λσ H Q=>wi σ H λJ H1=>∀D,H1 D=none ->
 ∃W:Nat->Nat->List V->Hp->Prop,(∃m,W 0 m [] (upd H1 D (.lst [])))/\JW J D g tc te (On own fr σ) W λH2=>Q (.ref D) H2
section
variable {X:Cx}{qZ iter elt:Expr}{ifs:List Expr}{scope:Scope}{cl:List (Str×Addr)}{own:List Str}{fr:List (Str×Nat)}{pos:Pos}{wi:TI}{g:TG}{tc:TT}{te:TE}
theorem Inv.sub_pins {qQ pins':List (Addr×Obj)}{σ:St}{H:Hp}{s:Shared}(I:Inv X qQ σ H s)(h:∀p∈pins',p∈qQ):Inv X pins' σ H s:=I.pins_of λp hp=>I.pin p (List.mem_append_right _ (h p hp))
theorem Zaw {qQ:List (Addr×Obj)}{σ:St}{H:Hp}{s:Shared}{C:Addr}{fp:List Addr}(S:JV X scope cl own fr)(I:Inv X qQ σ H s)(hf:∀b∈fp,Xn X qQ H b)(hC:s.heap.objs.size<=C)(hfl:∀b∈fp,b<s.heap.objs.size) :
  (X.comp scope cl (own++fr.map (·.1)) C s H fp).Ok:=by
 refine ⟨I.ok.mod,?_,I.ok.glob,I.ok.blt,hC,λx y c h1 h2=>I.ok.inj x y c (S.cls x c h1) (S.cls y c h2),S.has,λx c z=>absurd z (by simp [Cx.comp]),I.ok.hd,I.ok.frames,.inl rfl,
  λb hb=>⟨Nat.ne_of_lt (Nat.lt_of_lt_of_le (hfl b hb) hC),λx c h=>(hf b hb).2.2.2.2.1 x c (S.cls x c h)⟩,I.bs,Nat.le_trans I.ok.bsz I.sz,λb o e hb=>?_,λb hb z=>?_,I.stack,I.stkFree⟩
 ·show (relabel scope X.env).kind=.function;exact S.kind
 ·rcases (hf b hb).2.2.2.1 with z | z
  ·exact I.ok.noex b o e z
  ·exact absurd (Nat.lt_of_lt_of_le (Heap.lt_size e) (Nat.le_trans I.ok.bsz z)) (Nat.lt_irrefl _)
 ·rcases List.mem_cons.mp (I.stkSub b z) with q | q
  ·exact (hf b hb).2.1 q
  ·exact (hf b hb).2.2.1 q
theorem UK (own:List Str)(fr:List (Str×Nat))(σ:St):(On own fr σ).length=(own++fr.map (·.1)).length:=by
 unfold On;simp
theorem UL {qQ:List (Addr×Obj)}{σ:St}{H:Hp}{s:Shared}{it:Addr}{fp:List Addr}{tn:Nat->Heap->Prop}{J:It}{E:Value->Shared->Prop}{RR:Value->Addr->Result->Shared->Prop}{Rf:Addr->Hp->Prop}(hc:X.calm=true)(S:JV X scope cl own fr)(I:Inv X qQ σ H s)(T:Zae X.prog X.w X.K qZ J fp it tn)(st:tn 0 s.heap)(hf:∀b∈fp,Xn X qQ H b)(hg:∀C s H fp,PG (X.comp scope cl (own++fr.map (·.1)) C s H fp) qZ g)(ht:∀C s H fp,Zcg (X.comp scope cl (own++fr.map (·.1)) C s H fp) ifs tc)(he:∀C s H fp,PE (X.comp scope cl (own++fr.map (·.1)) C s H fp) elt te)(hw:∀D,H D=none->∃W:Nat->Nat->List V->Hp->Prop,(∃m,W 0 m [] (upd H D (.lst [])))/\JW J D g tc te (On own fr σ) W (Rf D))(hRR:∀D C s' H',s.heap.objs.size<=C->C≠D->(∃m,s'.heap.Ns C m)->H' C=none->Un (frs X.stack) fp H H' s.heap s'.heap->HOk X.prog X.w H' s'.heap->AllBare s'.gens->s'.os=s.os->Rf D H'->RR (.ref D) C (.ok .next) s') :
  wpAny (model X.prog X.w) X.A (newList []) (λacc s3=>wpAny (model X.prog X.w) X.A (newFunctionEnv scope X.env.globals cl [] X.env.qual none .none (some X.env)) (λcenv s4=>
   codeAny (model X.prog X.w) X.A (.compStart (.ListComp elt [⟨qZ,iter,ifs,0⟩] scope pos) 0 (.ref it) acc { cenv with scope:=relabel scope X.env }) (RR acc cenv.locals) s4) E s3) E s:=by
 have hfl:∀b∈fp,b<s.heap.objs.size:=λb hb=>by
  obtain ⟨o,e,_⟩:=T.obj 0 s.heap st b hb;exact Heap.lt_size e
 have hD:H s.heap.objs.size=none:=I.fresh;obtain ⟨W,⟨m0,w0⟩,turns⟩:=hw s.heap.objs.size hD;have I1:Inv X qQ σ (upd H s.heap.objs.size (.lst [])) { s with heap:=s.heap.push { cls:=.type "list", data:=.seq ([]:List Value).toArray },toks:=s.toks }:=I.lnew .nil (Nat.zero_le _);refine wpAny_newObj_type (wpAny_newFunctionEnv S.nocell (by intro y hy;simp at hy) (λh1 hns1 hsb1=>?_) S.kind);dsimp only at hns1 hsb1 ⊢;generalize hH2:s.heap.push { cls:=.type "list", dict:=none,data:=.seq ([]:List Value).toArray }=H2 at hns1 hsb1 ⊢ I1;have hCs:H2.objs.size=s.heap.objs.size+1:=by rw [<-hH2,Heap.size_push]
 have hCle:s.heap.objs.size<=H2.objs.size:=by lia
 have hDC:s.heap.objs.size≠H2.objs.size:=by lia
 have up1:∀b o,H2.get? b=some o->h1.get? b=some o:=λb o e=>hsb1.extBut b o (Nat.ne_of_lt (Heap.lt_size e)) (Heap.get?_push_of_some _ e);have up:∀b o,s.heap.get? b=some o->h1.get? b=some o:=λb o e=>up1 b o (hH2▸Heap.get?_push_of_some _ e);have okY:=Zaw (C:=H2.objs.size) S I hf hCle hfl;have I0:∀tk,Inv (X.comp scope cl (own++fr.map (·.1)) H2.objs.size s H fp) [] (On own fr σ) (upd H s.heap.objs.size (.lst [])) { s with heap:=h1,toks:=tk }:=by
  intro tk;have hok1:HOk X.prog X.w (upd H s.heap.objs.size (.lst [])) h1:=I1.hok.kept up1;refine ⟨okY,rfl,I.bare,⟨λb o e n _ _=>up b o e,λb o e n _ _=>⟨o.slots,up b o e⟩,λb o e n _=>?_,λb o e _=>⟨o,up b o e⟩,λb xs q=>?_,λb o u q=>?_,λb ps q=>⟨#[],?_⟩⟩,
   ⟨_,hns1,λi x v e1 e2 e3=>?_⟩,λx c e=>?_,?_,λx c e=>?_,λp hp=>?_,hok1,UK own fr σ⟩
  ·have e':s.heap.get? b=some o:=e;show upd H s.heap.objs.size (.lst []) b=none;rw [GB (Nat.ne_of_lt (Heap.lt_size e'))];exact n
  ·rw [GB (GG q hD)];exact q
  ·rw [GB (GG q hD)];exact q
  ·have q':H b=some (.tbl ps):=q;rw [GB (GG q' hD),q'];simp
  ·-- the free names
   have e2':(On own fr σ)[i]?=some (some v):=e2;have e1':(own++fr.map (·.1))[i]?=some x:=e1;unfold On at e2';by_cases hi:i<own.length
   ·rw [List.getElem?_append_left (by simpa using hi),List.getElem?_map] at e2';cases q:own[i]? with
    | none=>rw [q] at e2';cases e2'
    | some y=>rw [q] at e2';cases e2'
   ·rw [List.getElem?_append_right (by simpa using hi),List.length_map,List.getElem?_map] at e2';rw [List.getElem?_append_right (by lia),List.getElem?_map] at e1';cases q:fr[i-own.length]? with
    | none=>rw [q] at e2';cases e2'
    | some p=>
     rw [q] at e1' e2';have ex:p.1=x:=Option.some.inj e1';have ev:(σ[p.2]?).join=some v:=Option.some.inj e2';have ev':σ[p.2]?=some (some v):=by
      cases z:σ[p.2]? with
      | none=>rw [z] at ev;cases ev
      | some o=>rw [z] at ev;cases o with
       | none=>cases ev
       | some v'=>have:v'=v:=Option.some.inj ev;rw [this]
     obtain ⟨f1,f2,f3⟩:=S.free p (List.mem_of_getElem? q);subst ex;obtain ⟨m,hn,hl⟩:=I.loc;have vis:Vis X.env.scope p.1:=by
      rcases f2 with f2 | f2
      ·exact .inr (.inl f2)
      ·exact .inr (.inr f2)
     obtain ⟨u,ru,lk⟩:=hl p.2 p.1 v f1 ev' vis;refine ⟨u,ru,?_⟩;rcases lk with ⟨k,_⟩ | ⟨k,c,e,z⟩
     ·rcases f2 with f2 | f2 <;> (rw [f2] at k;cases k)
     ·obtain ⟨c',hc'⟩:=S.has p.1 f3;have e':=S.cls _ _ hc';rw [e] at e';cases e';obtain ⟨oc,ho,hd⟩:=z;exact .inr ⟨f3,c,hc',⟨oc,up _ _ ho,hd⟩⟩
  ·obtain ⟨v,oc,ho,hd⟩:=I.cell x c (S.cls x c e);exact ⟨v,oc,up _ _ ho,hd⟩
  ·show upd H s.heap.objs.size (.lst []) H2.objs.size=none;rw [GB (Ne.symm hDC)];exact I.hok.fresh hCle
  ·obtain ⟨v,z⟩:=I.cell x c (S.cls x c e);show upd H s.heap.objs.size (.lst []) c=none;rw [GB (Nat.ne_of_lt z.lt)];exact I.freeC x c (S.cls x c e)
  ·exact absurd (show p∈([]:List (Addr×Obj)) from hp) (by simp)
 have fpf:∀b∈fp,upd H s.heap.objs.size (.lst []) b=none:=λb hb=>by rw [GB (Nat.ne_of_lt (hfl b hb))];exact (hf b hb).1
 have st1:tn 0 h1:=T.keep 0 _ _ st λb hb o e=>up b o e;have stat:∀{H':Hp},(∀b∈fp,H' b=none)->∀b∈fp,Xn (X.comp scope cl (own++fr.map (·.1)) H2.objs.size s H fp) [] H' b:=λhn b hb=>
  ⟨hn b hb,(okY.exf b hb).1,okY.exfs b hb,.inl hb,(okY.exf b hb).2,λp hp=>absurd (show p∈([]:List (Addr×Obj)) from hp) (by simp)⟩
 have loop:∀s3:Shared,(∃tk,s3={ s with heap:=h1,toks:=tk }) ->
   codeAny (model X.prog X.w) X.A (.compLoop (.ListComp elt [⟨qZ,iter,ifs,0⟩] scope pos) 0 (.ref it) (.ref s.heap.objs.size) (compEnvC scope cl H2.objs.size X.env)) (RR (.ref s.heap.objs.size) H2.objs.size) s3:=by
  rintro s3 ⟨tk,rfl⟩;refine Vs (λn s'=>∃i ys H',Inv (X.comp scope cl (own++fr.map (·.1)) H2.objs.size s H fp) [] (On own fr σ) H' s'/\tn i s'.heap/\(∀b∈fp,H' b=none)/\W i n ys H') ?_ m0 ⟨0,[],_,I0 tk,st1,fpf,w0⟩;rintro n s4 ⟨i,ys,H4,I4,st4,fr4,w4⟩;rcases turns i n ys H4 w4 with ⟨stop,q⟩ | ⟨go,N,hN,step⟩
  ·refine thn (T.done (X.comp scope cl (own++fr.map (·.1)) H2.objs.size s H fp) rfl rfl rfl hc i [] s4 _ H4 _ I4 (stat fr4) st4 stop) λr s5 ⟨hr,I5⟩=>?_;subst hr;exact hRR _ _ s5 H4 hCle (Ne.symm hDC) ⟨_,I5.loc.choose_spec.1⟩ I5.free I5.base I5.hok I5.bare I5.os q
  ·refine thn (T.item (X.comp scope cl (own++fr.map (·.1)) H2.objs.size s H fp) rfl rfl rfl hc i [] s4 _ H4 _ I4 (stat fr4) st4 go) λr s5 ⟨u,hr,h5⟩=>?_;subst hr;refine thn h5 λ_ s6 ⟨x,H6,I6,r6,y6,st6,fr6⟩=>?_;have I6':=I6.pinned (stat fr6) (T.obj _ _ st6);refine thn (hg H2.objs.size s H fp _ s6 _ H6 x u _ I6' r6 (step x H6 y6)) λ_ s7 ⟨σ7,H7,I7,k7,q7⟩=>?_;refine thn (ht H2.objs.size s H fp _ s7 σ7 H7 _ I7 q7) λok s8 ⟨H8,I8,q8⟩=>?_;have again:∀{s9:Shared}{σ9:St}{H9:Hp}{zs:List V},Inv (X.comp scope cl (own++fr.map (·.1)) H2.objs.size s H fp) ([]++UG fp s6.heap) σ9 H9 s9->(∀(i:Nat) v,(On own fr σ)[i]?=some (some v)->σ9[i]?=some (some v))->(∃m',m'<n/\W (i+1) m' zs H9) ->
     ∃m,m<n/\∃i ys H',Inv (X.comp scope cl (own++fr.map (·.1)) H2.objs.size s H fp) [] (On own fr σ) H' s9/\tn i s9.heap/\(∀b∈fp,H' b=none)/\W i m ys H':=by
    intro s9 σ9 H9 zs I9 hσ ⟨m',hm,w9⟩;refine ⟨m',hm,i+1,zs,H9,(I9.sub_pins (λp hp=>absurd (show p∈([]:List (Addr×Obj)) from hp) (by simp))).weak ?_ hσ,T.keep _ _ _ st6 λb hb o e=>(I9.pin (b,o) (List.mem_append_right _ (List.mem_append_right _ (JG hb e)))).1,λb hb=>?_,w9⟩
    ·rw [I9.len];exact UK own fr σ
    ·obtain ⟨o,e,d⟩:=T.obj _ _ st6 b hb;exact (I9.pin (b,o) (List.mem_append_right _ (List.mem_append_right _ (JG hb e)))).2.1
   cases ok with
   | false=>exact (if_neg Bool.false_ne_true).mpr (again I8 (Oe k7) (hN _ _ ((if_neg Bool.false_ne_true).mp q8)))
   | true=>
    refine (if_pos rfl).mpr ?_;have q8':=(if_pos rfl).mp q8;refine thn (he H2.objs.size s H fp _ s8 σ7 H8 _ I8 q8') λy s9 ⟨yv,H9,I9,r9,hD9,hz,q9⟩=>?_;refine thn (Jn _ s9 σ7 H9 (.ref s.heap.objs.size) [yv] (.ref s.heap.objs.size) [y] (λ_ H'=>H'=upd H9 s.heap.objs.size (.lst (ys++[yv]))) I9 rfl (.cons r9 .nil) ⟨_,ys,yv,rfl,rfl,hD9,hz,rfl⟩) λ_ s10 ⟨_,H10,I10,_,e10⟩=>?_;subst e10;exact again I10 (Oe k7) (hN _ _ q9)
 exact codeAny_compStart_list (loop _ ⟨_,rfl⟩) (T.self _ 0 _ _ _ st1 (loop _ ⟨_,rfl⟩))
theorem UM {qQ:List (Addr×Obj)}{σ:St}{H H':Hp}{s s':Shared}{fp:List Addr}(I:Inv X qQ σ H s)(hf:∀b∈fp,Xn X qQ H b)(un:Un (frs X.stack) fp H H' s.heap s'.heap)(hok:HOk X.prog X.w H' s'.heap)(bare:AllBare s'.gens)(os:s'.os=s.os):Inv X qQ σ H' s':=
 I.call' os un hok bare λb hb=>⟨(hf b hb).2.2.2.1,(hf b hb).2.1,(hf b hb).2.2.2.2.1,(hf b hb).2.2.2.2.2⟩
theorem Wj {qQ:List (Addr×Obj)}{σ σ':St}{H H':Hp}{s s':Shared}{C:Addr}{h':Heap}(I:Inv X qQ σ H s)(hC:s.heap.objs.size<=C)(hn:H' C=none)(I':Inv X qQ σ' H' s')(sb:Heap.SameBut C s'.heap h') :
  Inv X qQ σ' H' { s' with heap:=h' }:=by
 obtain ⟨f0,f1,f2,f3,f4,f5⟩:=I.fpOk hC hn;exact I'.turned (t':=s'.toks) (λb o hb e=>(sb.2 b hb).trans e) f0 f1 f3 f4 f5
theorem OJ (hc:X.calm=true)(S:JV X scope cl own fr)(hi:PI X qZ iter wi)(hg:∀C s H fp,PG (X.comp scope cl (own++fr.map (·.1)) C s H fp) qZ g)(ht:∀C s H fp,Zcg (X.comp scope cl (own++fr.map (·.1)) C s H fp) ifs tc)(he:∀C s H fp,PE (X.comp scope cl (own++fr.map (·.1)) C s H fp) elt te)(hs:∀x,foldedSetIterable iter X.env x=pure x:=by intro _;rfl):PE X (.ListComp elt [⟨qZ,iter,ifs,0⟩] scope pos) (Zch wi g tc te own fr):=by
 intro qQ s σ H Q I h;rw [eval_ListComp];refine wpAny_comprehension_free (use:=none) rfl hs S.clos S.kind S.names (thn (hi qQ s σ H _ I h) λv s1 h1=>thn h1 λitv s2 h2=>?_);obtain ⟨it,fp,tn,J,H2,e,I2,T,st2,f2,hw⟩:=h2;subst e;refine UL (RR:=λacc C=>compPost (model X.prog X.w) X.A X.xe none (EP X qQ σ Q) acc C) hc S I2 T st2 f2 hg ht he hw ?_;rintro D C s' H' hC hDC ⟨m,hn⟩ hCf un hok bare os q;refine ⟨m,hn,λh' hs'=>⟨.ref D,H',?_,rfl,q⟩⟩;exact Wj (C:=C) (σ:=σ) I2 hC hCf (UM I2 f2 un hok bare os) hs'
theorem XI {i:Nat}{y:Str}{py spos:Pos}(hN:X.N.Nodup)(hi':X.N[i]?=some y)(hx:Loc X.env.scope y)(hc:X.calm=true)(S:JV X scope cl own fr)(hi:PI X qZ iter wi)(hg:∀C s H fp,PG (X.comp scope cl (own++fr.map (·.1)) C s H fp) qZ g)(ht:∀C s H fp,Zcg (X.comp scope cl (own++fr.map (·.1)) C s H fp) ifs tc)(he:∀C s H fp,PE (X.comp scope cl (own++fr.map (·.1)) C s H fp) elt te)(hf:X.fn y=true\/X.env.scope.names.lookup y=some .local:=by first | exact .inl rfl | exact .inr rfl | assumption)(hsw:swapsWith (.ListComp elt [⟨qZ,iter,ifs,0⟩] scope pos) (some (.Name y py)) spos.line X.env=pure true:=by rfl)(hs:∀x,foldedSetIterable iter X.env x=pure x:=by intro _;rfl):PS X (.Assign [.Name y py] (.ListComp elt [⟨qZ,iter,ifs,0⟩] scope pos) spos) (Zad (Zch wi g tc te own fr) (JN i)):=by
 intro qQ s σ H Dn I h;rw [exec_Assign_Name_used _ _ _ _ hsw];refine wpAny_bind (wpAny_standAt (wpAny_bind ?_));show wpAny _ X.A (do let _ <- comprehension (.ListComp elt [⟨qZ,iter,ifs,0⟩] scope pos) scope X.env _ (newList []) false (eval iter X.env) (some (assign (.Name y py) X.env))) _ _ s;refine wpAny_bind (wpAny_mono (wpAny_comprehension_free (use:=some (assign (.Name y py) X.env)) (Q:=λ_ s'=>SP X qQ Dn .next s') rfl hs S.clos S.kind S.names (thn (hi qQ s σ H _ I h) λv s1 h1=>thn h1 λitv s2 h2=>?_))
  (λ_ s' hq=>wpAny_pure (wpAny_pure hq)) λ_ _ e=>e)
 obtain ⟨it,fp,tn,J,H2,e,I2,T,st2,f2,hw⟩:=h2;subst e;refine UL (RR:=λacc C=>compPost (model X.prog X.w) X.A X.xe (some (assign (.Name y py) X.env)) (λ_ s'=>SP X qQ Dn .next s') acc C) hc S I2 T st2 f2 hg ht he hw ?_;rintro D C s' H' hC hDC ⟨m,hn⟩ hCf un hok bare os q;have I3:Inv X qQ σ H' s':=UM I2 f2 un hok bare os;show wpAny _ X.A (assign (.Name y py) X.env (.ref D)) _ _ s';refine wpAny_assign_Name (Ve I3 hN hi' hx (v:=.ref D) rfl (λs4 I4 ⟨a,hsa,ha⟩=>?_) hf);have hCa:C≠a:=by
  rcases ha with z | z
  ·rw [z];exact Nat.ne_of_gt (Nat.lt_of_lt_of_le I2.lt hC)
  ·obtain ⟨v,q⟩:=I2.cell y a z;exact Nat.ne_of_gt (Nat.lt_of_lt_of_le q.lt hC)
 refine ⟨m,hn.sameBut hsa hCa,λh' hs'=>⟨_,H',Wj (C:=C) (σ:=σ) I2 hC hCf I4 hs',q⟩⟩
end
theorem XJ {K:PySem.W.Frag}{a D:Addr}{xs:List V}{g:TG}{tc:TT}{te:TE}{σ0:St}{R:Hp->Prop}{H1:Hp}(Pv:Nat->List V->Hp->Prop)(h0:Pv 0 [] (upd H1 D (.lst [])))(hl:∀i ys H,i<=xs.length->Pv i ys H->SqL K H a xs)(hs:∀i x ys H,xs[i]?=some x->Pv i ys H->g x σ0 H λσ4 H4=>OV σ0 σ4/\tc σ4 H4 λb H5=>if b=true then te σ4 H5 λy H6=>H6 D=some (.lst ys)/\ys.length<sizeLine/\Pv (i+1) (ys++[y]) (upd H6 D (.lst (ys++[y]))) else Pv (i+1) ys H5)(hd:∀ys H,Pv xs.length ys H->R H):∃W:Nat->Nat->List V->Hp->Prop,(∃m,W 0 m [] (upd H1 D (.lst [])))/\JW (Itl K a) D g tc te σ0 W R:=by
 refine ⟨λi m ys H=>m=xs.length-i/\i<=xs.length/\Pv i ys H,⟨_,rfl,Nat.zero_le _,h0⟩,?_⟩;rintro i m ys H ⟨rfl,hi,p⟩;have q:=hl i ys H hi p;by_cases hlt:i<xs.length
 ·refine .inr ⟨⟨xs,xs[i],q,by simp [hlt]⟩,Pv (i+1),λys' H' p'=>⟨xs.length-(i+1),by lia,rfl,hlt,p'⟩,λx H' y=>?_⟩;obtain ⟨e,y⟩:=y;subst e;exact hs i x ys _ (y xs q) p
 ·have e:i=xs.length:=by lia
  subst e;exact .inl ⟨⟨xs,q,Nat.le_refl _⟩,hd ys H p⟩
theorem OK {lo:Int}{n:Nat}{D:Addr}{g:TG}{tc:TT}{te:TE}{σ0:St}{R:Hp->Prop}{H1:Hp}(Pv:Nat->List V->Hp->Prop)(h0:Pv 0 [] (upd H1 D (.lst [])))(hs:∀i ys H,i<n->Pv i ys H->g (.int (lo+i)) σ0 H λσ4 H4=>OV σ0 σ4/\tc σ4 H4 λb H5=>if b=true then te σ4 H5 λy H6=>H6 D=some (.lst ys)/\ys.length<sizeLine/\Pv (i+1) (ys++[y]) (upd H6 D (.lst (ys++[y]))) else Pv (i+1) ys H5)(hd:∀ys H,Pv n ys H->R H):∃W:Nat->Nat->List V->Hp->Prop,(∃m,W 0 m [] (upd H1 D (.lst [])))/\JW (Itr lo n) D g tc te σ0 W R:=by
 refine ⟨λi m ys H=>m=n-i/\i<=n/\Pv i ys H,⟨_,rfl,Nat.zero_le _,h0⟩,?_⟩;rintro i m ys H ⟨rfl,hi,p⟩;by_cases hlt:i<n
 ·refine .inr ⟨hlt,Pv (i+1),λys' H' p'=>⟨n-(i+1),by lia,rfl,hlt,p'⟩,λx H' y=>?_⟩;obtain ⟨e,y⟩:=y;subst e y;exact hs i ys _ hlt p
 ·have e:i=n:=by lia
  subst e;exact .inl ⟨Nat.le_refl _,hd ys H p⟩
theorem Js {X:Cx}{scope:Scope}{own:List Str}(hf:∀y∈scope.names,y.2≠.free)(hc:∀y∈scope.names,y.2≠.cell)(hk:scope.kind=.function)(hn:∀y∈scope.names,y.2=.local->scope.names.lookup y.1=some .local):JV X scope [] own []:=by
 have rel:(relabel scope X.env).names=scope.names:=by
  unfold relabel;dsimp only;refine (List.map_congr_left λp hp=>?_).trans (List.map_id _);obtain ⟨n,k⟩:=p;have:(k == NameKind.free)=false:=by
   have:=hf _ hp;cases k <;> first | rfl | exact absurd rfl this
  simp [this]
 refine ⟨closureFor_none hf,hc,hk,hn,λy c h=>by simp at h,λy h=>?_,λp hp=>by simp at hp⟩;rw [rel] at h;rcases h with h | h
 ·exact absurd rfl (hc _ (PySem.mem_of_lookup h))
 ·exact absurd rfl (hf _ (PySem.mem_of_lookup h))
end L2
namespace L2
open PySem PySem.Spec PyProof.Rows
def W0 (a C:Addr)(h:Heap):Prop:=∃ob vs,h.get? a=some ob/\ob.cls=.ref C/\ob.data=.fields vs
def W1 (a C:Addr):HO:=.ext (W0 a C)
theorem Zax {P:Program}{w:World}{H:Hp}{h:Heap}{a C:Addr}(x:W0 a C h):ObjOk P w H h a (W1 a C):=by
 refine ⟨x,?_,λh1 h2 p k=>?_⟩
 ·obtain ⟨ob,_,e,_⟩:=x;exact ⟨ob,e⟩
 ·obtain ⟨ob,vs,e,c,d⟩:=p;exact ⟨ob,vs,k ob e,c,d⟩
theorem ObjOk.there {P:Program}{w:World}{H:Hp}{h:Heap}{a:Addr}{u:HO}(ok:ObjOk P w H h a u):∃v,h.get? a=some v:=by
 cases u with
 | lst xs=>obtain ⟨_,_,_,_,e⟩:=ok;exact ⟨_,e⟩
 | tup xs=>obtain ⟨_,_,_,o,e,_⟩:=ok;exact ⟨_,e⟩
 | dK kvs=>obtain ⟨_,_,_,_,o,_,_,e,_⟩:=ok;exact ⟨_,e⟩
 | dT kvs=>obtain ⟨_,_,_,_,o,_,_,e,_⟩:=ok;exact ⟨_,e⟩
 | set S n=>obtain ⟨o,_,_,_,e,_⟩:=ok;exact ⟨_,e⟩
 | ins C dx fs=>obtain ⟨_,_,_,e,_⟩:=ok;exact ⟨_,e⟩
 | own y=>obtain ⟨_,e⟩:=ok;exact ⟨_,e⟩
 | xd fs=>obtain ⟨_,⟨_,_,_,e,_⟩,_⟩:=ok;exact ⟨_,e⟩
 | rng lo hi=>obtain ⟨_,_,_,e⟩:=ok;exact ⟨_,e⟩
 | frz ob u=>obtain ⟨e,_⟩:=ok;exact ⟨_,e⟩
 | tbl ps=>exact ⟨_,show h.get? a=some _ from ok⟩
 | met f y=>exact ⟨_,show h.get? a=some _ from ok⟩
 | ext φ=>obtain ⟨_,⟨_,e⟩,_⟩:=ok;exact ⟨_,e⟩
def ZdV (P:Program)(w:World)(outer:List Env)(H H':Hp)(s:Shared)(a C:Addr)(s':Shared):Prop:=
 ∃(t:Addr)(B:Heap),s'.os=s.os/\AllBare s'.gens/\Un (frs outer) [] H H' s.heap s'.heap/\HOk P w H' s'.heap/\Heap.FlyingW B outer a (.ref C) (.ref t) s'.heap /\
  (∀b o,s'.heap.get? b=some o->H' b≠none->B.get? b=some o)/\(∀b o0 o,s.heap.get? b=some o0->s'.heap.get? b=some o->b ∉ frs outer->B.get? b=some o)
def CXr (P:Program)(w:World):CXT:=λouter H s E e s'=>∃(a C:Addr)(H':Hp),e=.ref a/\ZdV P w outer H H' s a C s'/\E (.ref C) none H'
section
variable {X:Cx}{qQ:List (Addr×Obj)}{σ:St}{H:Hp}{s:Shared}
def Wk (X:Cx)(E:XK):Prop:=∀(qQ:List (Addr×Obj))(σ:St)(H:Hp)(s:Shared)(h':Heap)(a C:Addr)(vs:List Value),Inv X qQ σ H s->Heap.MadeExcOf s.heap h' a (.ref C) vs->E (.ref C) none H->X.xe (.ref a) { s with heap:=h' }
theorem Vt {P:Program}{w:World}{K:W.Frag}{mg:Str->Option Value}{base:Heap}{N:List Str}{qual:Str}{scope:Scope}{f:Addr}{cd:Value}{A:Around}{outer:List Env}{s:Shared}{H:Hp}{E:XK} :
  Wk (WV (CXr P w) P w K mg base N qual scope f cd A outer s H E) E:=by
 intro qQ σ H1 s1 h' a C vs I hx hE;have hfr:=I.ok.frames;have hst:s1.heap.FunFrames base (envOfC qual scope s.heap.objs.size f cd::outer):=I.stack;have hin:∀env∈(envOfC qual scope s.heap.objs.size f cd::outer),∀b,env.frame=some b->b∈frs (envOfC qual scope s.heap.objs.size f cd::outer):=λenv he b hb=>List.mem_filterMap.mpr ⟨env,he,hb⟩;have inB:∀b o,s1.heap.get? b=some o->b ∉ frs (envOfC qual scope s.heap.objs.size f cd::outer)->(W.hideAll s1.heap (frs (envOfC qual scope s.heap.objs.size f cd::outer))).get? b=some o:=λb o e n=>W.hideAll_get _ e n;refine wpAny_leaves_madeW (base:=W.hideAll s1.heap (frs (envOfC qual scope s.heap.objs.size f cd::outer))) hfr rfl (λb o q=>W.of_hideAll _ q) (W.funFrames_hide hst hin) hx λh2 t fl tu tn sm=>?_;refine ⟨a,C,H1,rfl,⟨t,_,I.os,I.bare,⟨λb o e n hb _=>?_,λb o e n hb _=>?_,λb o e n _=>?_,λb o e _=>?_,I.base.tups,I.base.frzs,I.base.tbls⟩,λb u e=>?_,fl,λb o e n=>?_,λb o0 o e0 e nb=>?_⟩,hE⟩
 ·have e1:s1.heap.get? b=some o:=I.base.keep b o e n hb (by intro z;exact absurd (show b∈([]:List Addr) from z) (by simp));refine fl.1 b o (inB b o e1 λz=>?_);rcases List.mem_cons.mp (I.stkSub b z) with q | q
  ·exact absurd (Nat.lt_of_lt_of_le (Heap.lt_size e) I.ok.above) (by rw [q];exact Nat.lt_irrefl _)
  ·exact hb q
 ·obtain ⟨sl,e1⟩:=I.base.slot b o e n hb (by intro z;exact absurd (show b∈([]:List Addr) from z) (by simp));have nf:∀vs,o.data≠.fields vs:=by
   obtain ⟨_,o',ho',hnf⟩:=I.funs.mem (show b∈(outer.filterMap (·.frame)) from hb);rw [e1] at ho';cases ho';exact hnf
  obtain ⟨sl',e2⟩:=sm b { o with slots:=sl } (hx.keeps b _ e1) nf;exact ⟨sl',e2⟩
 ·exact I.base.free b o e n (by intro z;exact absurd (show b∈([]:List Addr) from z) (by simp))
 ·obtain ⟨o1,e1⟩:=I.base.there b o e (by intro z;exact absurd (show b∈([]:List Addr) from z) (by simp));by_cases hb:b∈frs (envOfC qual scope s.heap.objs.size f cd::outer)
  ·obtain ⟨_,o',ho',hnf⟩:=hst.mem hb;rw [e1] at ho';cases ho';obtain ⟨sl',e2⟩:=sm b o1 (hx.keeps b _ e1) hnf;exact ⟨_,e2⟩
  ·exact ⟨o1,fl.1 b o1 (inB b o1 e1 hb)⟩
 ·have trk:∀c v,s1.heap.get? c=some v->H1 c≠none->h2.get? c=some v:=λc v q hc=>fl.1 c v (inB c v q λz=>hc (I.stkFree c z));refine (I.hok b u e).stay (λc v hc q=>trk c v q ?_) (λ_ q=>q) λ_ _ q=>q;rcases hc with z | z
  ·rw [z,e];simp
  ·rw [z];simp
 ·cases q':H1 b with
  | none=>exact absurd q' n
  | some u=>
   obtain ⟨v,q⟩:=(I.hok b u q').there;have nb:b ∉ frs (envOfC qual scope s.heap.objs.size f cd::outer):=λz=>n (I.stkFree b z);have e2:=fl.1 b v (inB b v q nb);rw [e] at e2;cases e2;exact inB b _ q nb
 ·obtain ⟨o1,e1⟩:=I.base.there b o0 e0 (by intro z;exact absurd (show b∈([]:List Addr) from z) (by simp));have nb':b ∉ frs (envOfC qual scope s.heap.objs.size f cd::outer):=λz=>by
   rcases List.mem_cons.mp (I.stkSub b z) with q | q
   ·exact absurd (Nat.lt_of_lt_of_le (Heap.lt_size e0) I.ok.above) (by rw [q];exact Nat.lt_irrefl _)
   ·exact nb q
  have e2:=fl.1 b o1 (inB b o1 e1 nb');have e':h2.get? b=some o:=e;rw [e'] at e2;cases e2;exact inB b _ e1 nb'
theorem YN {P:Program}{w:World}{outer:List Env}{H H':Hp}{s s':Shared}{a C t:Addr}{B h2:Heap}(un:Un (frs outer) [] H H' s.heap s'.heap)(hok:HOk P w H' s'.heap)(fr:s'.heap.FunFrames B outer)(trk:∀b o,s'.heap.get? b=some o->H' b≠none->B.get? b=some o)(old:∀b o0 o,s.heap.get? b=some o0->s'.heap.get? b=some o->b ∉ frs outer->B.get? b=some o)(st:B.StaysIn h2)(sm:s'.heap.UpToSlots h2) :
  Un (frs outer) [] H H' s.heap h2/\HOk P w H' h2:=by
 refine ⟨⟨λb o e n hb hx=>st b o (old b o o e (un.keep b o e n hb hx) hb),λb o e n hb hx=>?_,un.free,λb o e hx=>?_,un.tups,un.frzs,un.tbls⟩,λb u e=>?_⟩
 ·obtain ⟨sl,e1⟩:=un.slot b o e n hb hx;obtain ⟨_,o',ho',hnf⟩:=fr.mem hb;rw [e1] at ho';cases ho';obtain ⟨sl',e2⟩:=sm b _ e1 hnf;exact ⟨sl',e2⟩
 ·obtain ⟨o1,e1⟩:=un.there b o e hx;by_cases hb:b∈frs outer
  ·obtain ⟨_,o',ho',hnf⟩:=fr.mem hb;rw [e1] at ho';cases ho';obtain ⟨sl',e2⟩:=sm b _ e1 hnf;exact ⟨_,e2⟩
  ·exact ⟨o1,st b o1 (old b o o1 e e1 hb)⟩
 ·refine (hok b u e).stay (λc v hc q=>st c v (trk c v q ?_)) (λ_ q=>q) λ_ _ q=>q;rcases hc with z | z
  ·rw [z,e];simp
  ·rw [z];simp
theorem Inv.track {a:Addr}{u:HO}(I:Inv X qQ σ H s)(hn:H a=none)(f1:a≠X.env.locals)(f4:∀x c,X.env.cells.lookup x=some c->c≠a)(f5:∀p∈X.pn++qQ,p.1≠a)(hs:X.s₀.heap.get? a=none)(ok:∀H',ObjOk X.prog X.w H' s.heap a u):Inv X qQ σ (upd H a u) s:=by
 refine ⟨I.ok,I.os,I.bare,⟨I.base.keep,I.base.slot,λb o e n z=>?_,I.base.there,λb xs e=>?_,λb o x e=>?_,λb ps e=>?_⟩,I.loc,I.cell,?_,λx c e=>?_,λp hp=>?_,λb v e=>?_,I.len⟩
 ·rw [GB (show b≠a from λq=>by rw [q,hs] at e;cases e)];exact I.base.free b o e n z
 ·have:=I.base.tups b xs e;rw [GB (GG this hn)];exact this
 ·have:=I.base.frzs b o x e;rw [GB (GG this hn)];exact this
 ·obtain ⟨more,this⟩:=I.base.tbls b ps e;exact ⟨more,by rw [GB (GG this hn)];exact this⟩
 ·rw [GB (Ne.symm f1)];exact I.free
 ·rw [GB (f4 x c e)];exact I.freeC x c e
 ·obtain ⟨e,n,r⟩:=I.pin p hp;exact ⟨e,by rw [GB (f5 p hp)];exact n,r⟩
 ·by_cases hb:b=a
  ·subst hb;rw [Gb] at e;cases e;exact ok _
  ·rw [GB hb] at e;exact (I.hok b v e).stay (λ_ _ _ q=>q) (λc q=>by rw [GB (GG q hn)];exact q) λc xs q=>by rw [GB (GG q hn)];exact q
end
end L2
namespace L2
open PySem PySem.Spec PyProof.Rows
abbrev Zez:List Value:=[.type "ValueError", .type "Exception", .type "BaseException", .type "object"]
abbrev ExcC (K:W.Frag)(C:Addr):Prop:=W.excIn K C Zez "ValueError.__new__" = true
theorem VR {K:W.Frag}{h:Heap}{C:Addr}(KX:K.In h)(ex:ExcC K C):∃mro' ns' mN',(∃nm' qn' bs' hd' sn' sub' ab' col' dd' j0 j1 j2 j3 j5,
  h.get? C=some (excClassObj nm' qn' C ns' bs' mro' hd' sn' sub' ab' col' dd' j0 j1 j2 j3 j5 "ValueError.__new__"))/\h.Ns ns' mN'/\mN' "__init__" = none/\OwnTail h Zez mro':=by
 have ex':=ex;unfold ExcC W.excIn at ex';split at ex'
 ·rename_i dd' cd' sl' lk;have lk':=KX _ _ lk;split at ex'
  ·rename_i C' rest' j0 j1 j2 j3 n' j5 hm hs;rw [Bool.and_eq_true,Bool.and_eq_true,Bool.and_eq_true,Bool.and_eq_true,Bool.and_eq_true,beq_iff_eq,beq_iff_eq,beq_iff_eq] at ex';obtain ⟨⟨⟨⟨⟨z1,z2⟩,z3⟩,z4⟩,z5⟩,z6⟩:=ex';have z3':cd'.hasDel=false:=by simpa using z3
   subst z1 z2;cases cd' with
   | mk a1 a2 a3 a4 a5 a6 a7 a8 a9 a10 a11=>
    have hm':a3=.ref C'::rest':=hm;have h11:a11=false:=z3';subst hm' h11;have es:sl'=#[j0,j1,j2,j3,some (.builtin "ValueError.__new__"),j5]:=by
     cases sl' with
     | mk l=>exact congrArg Array.mk hs
    subst es;exact ⟨rest',a4,_,⟨_,_,_,_,_,_,_,_,_,_,_,_,_,_,lk'⟩,.of_isNs (W.isNs_of_in KX z5),W.nsMap_none_of_in KX z5 z6,W.tail_of_in KX z4⟩
  ·cases ex'
 ·cases ex'
section
variable {X:Cx}
def Zci (C:Addr)(E:XK)(t:TA):TS:=λ_ σ H=>t σ H λvs H1=>vs.length<=sizeLine/\E (.ref C) none H1
theorem YO {C:Addr}{E:XK}{x:Str}{np qV pos:Pos}{e:Expr}{es:List Expr}{t:TA}(hc:X.calm=true)(hR:Wk X E)(hg:Gl X x)(hm:X.mg x=some (.ref C))(ex:ExcC X.K C)(ha:PA X (e::es) t)(hdb:(x == ("__debug__" : Str))=false:=by decide)(he:starEach (e::es) X.env=(false,eval e X.env)::starEach es X.env:=by rfl)(hpl:(backTo qV (starEach es X.env)).any (·.1)=false:=by rfl) :
  PS X (.Raise (some (.Call (.Name x np) (e::es) [] qV)) none pos) (Zci C E t):=by
 intro qQ s σ H D I h;obtain ⟨mro',ns',mN',⟨nm',qn',bs',hd',sn',sub',ab',col',dd',j0,j1,j2,j3,j5,hC⟩,hN,hni,T⟩:=VR I.mod.kin ex;refine wpAny_Raise_call_subT (C:=C) (nm:=nm') (q:=qn') (N:=ns') (bs:=bs') (bm:=mro') (hdct:=hd') (sn:=sn') (sub:=sub') (ab:=ab') (col:=col') (dd:=dd') (k0:=j0) (k1:=j1) (k2:=j2) (k3:=j3) (k5:=j5)
  PySem.F.excBase_ValueError (mN:=mN') (T.hasType PySem.F.excBase_ValueError.hasBase) (I.ok.hd hc) (by rw [he];show (false || (backTo qV (starEach es X.env)).any (·.1))=false;rw [hpl];rfl) hni (Oo I hg hm ⟨rfl,?_⟩ hdb)
 have hA:=ha qV qQ s σ H _ I h;rw [he] at hA ⊢;refine Calls.evalArgs_plain (thn hA λus s2 ⟨vs,H2,I2,r2,hl,q2⟩=>?_);exact ⟨rfl,by rw [<-r2.length];exact hl,I2.bk _ _ hC,hN.keeps I2.bk,T.keeps I2.bk,λh' a hm=>hR qQ σ H2 s2 h' a C us I2 hm q2⟩
def Cx.inExc (X:Cx)(a:Addr):Cx:={ X with A:=X.A.mark (some (.ref a)),calm:=false,xe:=λ_ _=>False }
theorem Cx.Ok.inExc {X:Cx}(ok:X.Ok)(a:Addr):(X.inExc a).Ok:=
 ⟨ok.mod,ok.kind,ok.glob,ok.blt,ok.above,ok.inj,ok.has,ok.cab,(λz=>nomatch z),ok.frames,ok.stk,ok.exf,ok.bs,ok.bsz,ok.noex,ok.exfs,ok.funs,ok.frf⟩
variable {qQ:List (Addr×Obj)}{σ:St}{H:Hp}{s:Shared}
theorem Inv.inExc (I:Inv X qQ σ H s)(a:Addr):Inv (X.inExc a) qQ σ H s:=⟨I.ok.inExc a,I.os,I.bare,I.base,I.loc,I.cell,I.free,I.freeC,I.pin,I.hok,I.len⟩
theorem Inv.outExc {a:Addr}(ok:X.Ok)(I:Inv (X.inExc a) qQ σ H s):Inv X qQ σ H s:=⟨ok,I.os,I.bare,I.base,I.loc,I.cell,I.free,I.freeC,I.pin,I.hok,I.len⟩
theorem O5 {M:Model}{A:Around}{E:Value->Shared->Prop}{i:Nat}{n:Str}{pos:Pos}{Q:Unit->Shared->Prop}(I:Inv X qQ σ H s)(hN:X.N.Nodup)(hi:X.N[i]?=some n)(hl:X.env.scope.names.lookup n=some .local)(h:∀s',Inv X qQ (σ.set i none) H s'->Q () s'):wpAny M A (do bindName X.env n .none;unbindBehindTheSuite X.env n pos) Q E s:=by
 obtain ⟨m,hn,hlk⟩:=id I.loc;refine wpAny_nameGoes_keeps hl hn (by rw [I.ok.kind];rfl) λh' v hn' sb=>h _ ?_;have old:∀b o,X.s₀.heap.get? b=some o->b≠X.env.locals:=λb o e=>Nat.ne_of_lt (Nat.lt_of_lt_of_le (Heap.lt_size e) I.ok.above);have hLn:∀b u,H b=some u->b≠X.env.locals:=λb u e z=>by rw [z,I.free] at e;cases e
 refine ⟨I.ok,I.os,I.bare,⟨λb o e z hb hx=>(sb.2 b (old b o e)).trans (I.base.keep b o e z hb hx),λb o e z hb hx=>?_,I.base.free,λb o e hx=>?_,I.base.tups,I.base.frzs,I.base.tbls⟩,
  ⟨_,hn',λj y v' e1 e2 e3=>?_⟩,λy c e=>?_,I.free,I.freeC,λp hp=>?_,λb u e=>?_,by simpa using I.len⟩
 ·obtain ⟨sl,q⟩:=I.base.slot b o e z hb hx;exact ⟨sl,(sb.2 b (old b o e)).trans q⟩
 ·obtain ⟨o',q⟩:=I.base.there b o e hx;exact ⟨o',(sb.2 b (old b o e)).trans q⟩
 ·by_cases hj:j=i
  ·subst hj;have hiσ:j<σ.length:=by rw [I.len];exact (List.getElem?_eq_some_iff.mp hi).1
   rw [List.getElem?_set_self hiσ] at e2;cases e2
  ·rw [List.getElem?_set_ne (Ne.symm hj)] at e2;obtain ⟨u,ru,lk⟩:=hlk j y v' e1 e2 e3;refine ⟨u,ru,?_⟩;have hyn:y≠n:=λz=>hj (UU hN e1 (z▸hi));rcases lk with ⟨k,e⟩ | ⟨k,c,e,z⟩
   ·exact .inl ⟨k,by simp [hyn,e]⟩
   ·exact .inr ⟨k,c,e,z.sameBut sb (I.cne y c e)⟩
 ·obtain ⟨v',z⟩:=I.cell y c e;exact ⟨v',z.sameBut sb (I.cne y c e)⟩
 ·obtain ⟨e,z,ne,nf,d⟩:=I.pin p hp;exact ⟨(sb.2 p.1 ne).trans e,z,ne,nf,d⟩
 ·refine (I.hok b u e).stay (λc v' hc q=>(sb.2 c ?_).trans q) (λ_ q=>q) λ_ _ q=>q;rcases hc with z | z
  ·rw [z];exact hLn b u e
  ·exact hLn c _ z
end
end L2
namespace L2
open PySem PySem.Spec PyProof.Rows
theorem UZ {M:Model}{h:Heap}{a C:Addr}(hx:W0 a C h):W.Looks M h (typeOf (.ref a)) (.ref C):=by
 obtain ⟨ob,vs,e,c,d⟩:=hx;exact c▸(W.Looks.ld e).andThen .now
theorem XM {K:PySem.W.Frag}{M:Model}{A:Around}{E:Value->Shared->Prop}{Q:Bool->Shared->Prop}{s:Shared}{a C W:Addr}{b:Bool}(KX:K.In s.heap)(hx:W0 a C s.heap)(hk:PySem.W.kitCls K (.ref C) (.ref W)=some b)(hb:PySem.W.subIn K (.ref W) (.type "BaseException")=some true)(h:Q b s):wpAny M A (excMatches (.ref a) (.ref W)) Q E s:=by
 obtain ⟨hty,his,hsub⟩:=PySem.W.kit_cls (M:=M) KX hk;have hB:=PySem.W.looks_subIn (M:=M) KX hb;have LT:=UZ (M:=M) hx;obtain ⟨h0,g,dd,tk,os⟩:=s;have f:=tc_notTuple;unfold excMatches isInstance isExcClass;refine wpAny_bind (wpAny_bind (hty.at (wpAny_of_eq f ?_)));simp only [Bool.false_eq_true,if_false];refine wpAny_bind (wpAny_pure ?_);simp only [List.forIn_cons,List.forIn_nil];refine wpAny_bind (wpAny_bind (wpAny_bind (wpAny_bind (his.at ?_))));simp only [if_true];refine hB.at ?_;simp only [Bool.not_true,Bool.false_eq_true,if_false];refine wpAny_pure (wpAny_pure ?_);refine wpAny_bind (LT.at ?_);refine wpAny_bind (wpAny_bind (wpAny_bind (hsub.at ?_)));cases b with
 | true=>simp only [if_true];first | exact wpAny_pure (wpAny_pure (wpAny_pure h)) | exact wpAny_pure (wpAny_pure h) | exact wpAny_pure h
 | false=>simp only [Bool.false_eq_true,if_false];first | exact wpAny_pure (wpAny_pure (wpAny_pure h)) | exact wpAny_pure (wpAny_pure h) | exact wpAny_pure h
section
variable {X:Cx}{k:Nat}{f:Addr}{fd:FuncData}{ps:List Str}{sp:Sp}{dvs:List V}{ds:List Value}{fx:Str}{fp qV bpos np hpos pos:Pos}{e:Expr}{es:List Expr}{t:TA}
def XN (K:PySem.W.Frag)(W:Addr)(i:Nat)(ts:TS)(D:Vf)(σ:St):XK:=λcls _ H2=>∃C,cls=.ref C/\PySem.W.kitCls K (.ref C) (.ref W)=some true /\
 ∀a,H2 a=none->ts { nx:=λσ' H'=>D.nx (σ'.set i none) H',rt:=D.rt,bk:=λσ' H'=>D.bk (σ'.set i none) H',ct:=λσ' H'=>D.ct (σ'.set i none) H' } (σ.set i (some (.ref a))) (upd H2 a (W1 a C))
theorem handled {qQ:List (Addr×Obj)}{σ:St}{H:Hp}{s s':Shared}{D:Vf}{W:Addr}{wx n:Str}{i:Nat}{b0:Stmt}{suite:List Stmt}{rest:List ExceptHandler}{ts:TS}{ev:Value}(hc:X.calm=true)(hst:X.stack=X.env::X.outer)(hfr:X.env.frame=some X.env.locals)(hex:X.ex=[])(hN:X.N.Nodup)(hi:X.N[i]?=some n)(hl:X.env.scope.names.lookup n=some .local)(hgW:Gl X wx)(hmW:X.mg wx=some (.ref W))(hbE:PySem.W.subIn X.K (.ref W) (.type "BaseException")=some true)(hsu:∀a,PSs (X.inExc a) (b0::suite) ts)(I:Inv X qQ σ H s)(h:CXr X.prog X.w X.stack H s (XN X.K W i ts D σ) ev s')(hdb:(wx == ("__debug__" : Str))=false:=by decide) :
  wpAny (model X.prog X.w) X.A (noteFrame ev X.env) (λ_ s2=>wpAny (model X.prog X.w) X.A (setFlight ev none) (λ_ s3=>
   wpAny (model X.prog X.w) X.A (handleBy ev X.env (.ExceptHandler (some (.Name wx np)) (some n) (b0::suite) hpos::rest)) (SP X qQ D) X.xe s3) X.xe s2) X.xe s':=by
 obtain ⟨a,C,H',rfl,⟨t,B,os,bare,un,hok,fl,trk,old⟩,C',eC,hk,q⟩:=h;cases eC;have ff:∀{E:Value->Shared->Prop},∀(x:Value)(s:Shared),(λ(_:Value) (_:Shared)=>False) x s->E x s:=λ_ _ z=>False.elim z;have flX:=fl;rw [hst] at flX;have afr:=I.ok.frames;rw [hst] at afr;have new:s.heap.get? a=none:=by
  cases z:s.heap.get? a with
  | none=>rfl
  | some o0=>
   exfalso;obtain ⟨ob,vs,e1,c1,d1,_⟩:=fl.first;by_cases hb:a∈frs X.stack
   ·obtain ⟨_,o',ho',hnf⟩:=fl.2.2.1.mem hb;rw [e1] at ho';cases ho';exact hnf vs d1
   ·have:=old a o0 ob z e1 hb;rw [fl.2.1] at this;cases this
 have hna:H' a=none:=by
  cases z:H' a with
  | none=>rfl
  | some u=>
   exfalso;obtain ⟨ob,vs,e1,_⟩:=fl.first;have:=trk a ob e1 (by rw [z];simp);rw [fl.2.1] at this;cases this
 have na1:a≠X.env.locals:=λz=>by
  obtain ⟨m,⟨o,_,_,ho,_⟩,_⟩:=I.loc;rw [<-z,new] at ho;cases ho
 have na2:∀x c,X.env.cells.lookup x=some c->c≠a:=λx c e z=>by
  obtain ⟨v,o,ho,_⟩:=I.cell x c e;rw [z,new] at ho;cases ho
 have na3:∀p∈X.pn++qQ,p.1≠a:=λp hp z=>by
  have:=(I.pin p hp).1;rw [z,new] at this;cases this
 have na4:X.s₀.heap.get? a=none:=by
  cases z:X.s₀.heap.get? a with
  | none=>rfl
  | some o=>
   obtain ⟨o',e'⟩:=I.base.there a o z (by rw [hex];simp);rw [new] at e';cases e'
 have at_:∀{h2:Heap}{tk:Nat},B.StaysIn h2->s'.heap.UpToSlots h2->Inv X qQ σ H' { s' with heap:=h2,toks:=tk }:=λ{h2 tk} st sm=>by
  obtain ⟨u2,k2⟩:=YN (t:=t) (a:=a) (C:=C) un hok fl.2.2.1 trk old st sm;exact I.call' (ch:=[]) os u2 k2 bare (λb z=>absurd z (by simp))
 refine wpAny_looks_onW afr hfr flX λh4 held4 sm4=>?_;refine wpAny_landsW held4 λh5 fl5 sm5=>?_;have I5:Inv X qQ σ H' { s' with heap:=h5 }:=at_ (tk:=s'.toks) fl5.1 (sm4.trans sm5);refine wpAny_handleBy_cons (codeAny_handlers_test ?_) (by intro q;cases q);refine Oo (X:=X.inExc a) (I5.inExc a) hgW hmW ?_ hdb;obtain ⟨ob,vs,e1,c1,d1,_⟩:=fl5.first;refine XM (b:=true) I5.kIn ⟨ob,vs,e1,c1,d1⟩ hk hbE ?_;refine codeAny_handlers_suite_as ?_;refine lands_againW fl5 λh6 fl6 sm6=>?_;have I6:Inv X qQ σ H' { s' with heap:=h6 }:=at_ (tk:=s'.toks) fl6.1 ((sm4.trans sm5).trans sm6);obtain ⟨ob6,vs6,e6,c6,d6,_⟩:=fl6.first;have I7:=I6.track (u:=W1 a C) hna na1 na2 na3 na4 λH2=>Zax ⟨ob6,vs6,e6,c6,d6⟩;refine JX (X:=X.inExc a) (I7.inExc a) hN hi (.inl hl) (v:=.ref a) rfl (λs8 I8=>?_) (.inr hl);refine wpAny_mono (hsu a qQ s8 _ _ _ I8 (q a hna)) (λfl s9 q9=>?_) ff;show wpAny _ _ (do bindName X.env n .none;unbindBehindTheSuite X.env n hpos) _ _ s9;cases fl with
 | next=>
  obtain ⟨σ9,H9,I9,q9⟩:=q9;exact O5 (I9.outExc I.ok) hN hi hl λs10 I10=>⟨_,_,I10,q9⟩
 | brk=>
  obtain ⟨σ9,H9,I9,q9⟩:=q9;exact O5 (I9.outExc I.ok) hN hi hl λs10 I10=>⟨_,_,I10,q9⟩
 | cont=>
  obtain ⟨σ9,H9,I9,q9⟩:=q9;exact O5 (I9.outExc I.ok) hN hi hl λs10 I10=>⟨_,_,I10,q9⟩
 | ret u=>
  obtain ⟨v,σ9,H9,I9,r9,q9⟩:=q9;exact O5 (I9.outExc I.ok) hN hi hl λs10 I10=>⟨v,_,_,I10,r9,q9⟩
def ZeY (K:PySem.W.Frag)(W:Addr)(i:Nat)(sp:Sp)(dvs:List V)(t:TA)(ts:TS):TS:=λD σ H=>t σ H λvs H1=>sp (vs++dvs) H1 (λ_ H2=>D.nx σ H2) (XN K W i ts D σ)
end
end L2
namespace L2
open PySem PySem.Spec PyProof.Rows
theorem XO {K:W.Frag}{prog:Program}{w:World}{A:Around}{E:Value->Shared->Prop}{Q:Option Value->Shared->Prop}{s:Shared}{a C:Addr}(KX:K.In s.heap)(hx:W0 a C s.heap)(hga:W.findIn K (.ref C) "__getattribute__" = some (some (.builtin "BaseException.__getattribute__")))(hnga:W.findIn K (.ref C) "__getattr__" = some none)(hcl:W.findIn K (.ref C) "__class__" = some (some (.builtin "object.__class__")))(hm:W.mroIn K C (.type "object")=some true)(hB:W.subIn K (.ref C) (.type "BaseException")=some true)(h:Q (some (.ref C)) { s with toks:=s.toks+1 }):wpAny (model prog w) A (getAttr? (.ref a) "__class__") Q E s:=by
 have L0:=UZ (M:=model prog w) hx;have L1:=W.looks_findIn (M:=model prog w) KX hga;have L2:=W.looks_findIn (M:=model prog w) KX hnga;have L3:=W.looks_findIn (M:=model prog w) KX hcl;have L4:=W.looks_subIn (M:=model prog w) KX hB;obtain ⟨h0,g,d,t,os⟩:=s;have f3:=PySem.F.attr_ValueError.ga.bind (.ref a);unfold getAttr? getAttrBy? getAttrBy;refine wpAny_bind (wpAny_mkText (wpAny_bind (wpAny_attempt (wpAny_holding (wpAny_bind (L0.at (wpAny_bind (L1.at ?_))))))));dsimp only;have hx2:(onTheHeap (Value.ref C) && Value.builtin "BaseException.__getattribute__" == Value.builtin "object.__getattribute__")=false:=by
  have z:(Value.builtin "BaseException.__getattribute__" == Value.builtin "object.__getattribute__")=false:=by decide +kernel
  rw [z,Bool.and_false]
 rw [hx2];simp only [Bool.false_eq_true,if_false];unfold getAttrByItsOwn
 repeat (any_goals (first | assumption | with_reducible refine L0.at ?_ | with_reducible refine L2.at ?_ | wp_step))
 have hsp:splitId "BaseException.__getattribute__" = some ("BaseException", "__getattribute__"):=by decide +kernel
 have hkd:builtinKind "BaseException.__getattribute__" = some .slot:=by decide +kernel
 have har:=PySem.F.args_bexc_ga (.ref a) (.str (Str.ofString "__class__") t);refine codeAny_call_builtin PySem.F.attr_ValueError.ga.plain PySem.F.entry_bexc_ga ?_;show wpAny _ _ (checkBuiltinCall "BaseException.__getattribute__" ⟨[.ref a,.str (Str.ofString "__class__") t],[]⟩) _ _ _;simp only [checkBuiltinCall,hkd,hsp];refine wpAny_bind ?_;unfold isInstance;have f5:=PySem.F.typeOf_object_class;have f6:=PySem.F.slot_gs_get.lookup;have f7:=PySem.F.slot_gs_set.lookup;have hT5:(⟨h0,g,d,t+1,os⟩:Shared).TypeIs (.builtin "object.__class__") "getset_descriptor" := PySem.F.typeOf_object_class;refine wpAny_bind (L0.at (L4.at ?_))
 repeat (any_goals (first | assumption | with_reducible refine L0.at ?_ | with_reducible refine L3.at ?_ | wp_step))
 have Lo:W.Looks (model prog w) h0 (isSubtype (.ref C) (.type (".".intercalate ("object.__class__".cutAt '.').dropLast))) true:=by
  rw [PySem.F.owner_object_class];exact W.looks_mroIn KX hm
 have hT6:(⟨h0,g,d,t+1,os⟩:Shared).TypeIs (.builtin "object.__class__") "getset_descriptor" := PySem.F.typeOf_object_class;refine codeAny_call_builtin PySem.F.slot_gs_get.plain PySem.F.entry_gs_get (PySem.F.slot_gs_get.check _ _ _ _ _ _ _ _ hT6 (PySem.F.args_gs_get _ _ _) ?_)
 repeat (any_goals (first | assumption | with_reducible refine L0.at ?_ | with_reducible refine Lo.at ?_ | wp_step))
 refine ⟨Code.quiet_builtin _ (by decide +kernel),codeAny_builtin PySem.F.entry_object_class ?_⟩
 repeat (any_goals (first | assumption | with_reducible refine L0.at ?_ | wp_step))
end L2
namespace L2
open PySem PySem.Spec PyProof.Rows
structure ZdE (K:W.Frag)(C:Addr):Prop where
 ex:ExcC K C
 ga:W.findIn K (.ref C) "__getattribute__" = some (some (.builtin "BaseException.__getattribute__"))
 nga:W.findIn K (.ref C) "__getattr__" = some none
 cl:W.findIn K (.ref C) "__class__" = some (some (.builtin "object.__class__"))
 ob:W.mroIn K C (.type "object")=some true
 be:W.subIn K (.ref C) (.type "BaseException")=some true
theorem Wm {K:W.Frag}{a C:Addr}(k:ZdE K C):W.KitX K (.ref a) (.ref C) (W0 a C) where
 ty:=λ_ _ _ p=>UZ p
 it:=λM h KX _=>by
  obtain ⟨_,_,_,⟨_,_,_,_,_,_,_,_,_,_,_,_,_,_,hC⟩,_⟩:=VR KX k.ex;intro A Q E s kk q;unfold isType loadHead;exact wpAny_bind (wpAny_loadPart (kk _ _ hC) (wpAny_pure q))
 ne:=λh tp dd its n sl KX htp=>by
  obtain ⟨_,_,_,⟨_,_,_,_,_,_,_,_,_,_,_,_,_,_,hC⟩,_⟩:=VR KX k.ex;refine Bool.eq_false_iff.mpr λq=>?_;have e:C=tp:=Value.ref.inj (beq_iff_eq.mp q);rw [<-e,hC] at htp;have z:=congrArg Obj.data (Option.some.inj htp);unfold excClassObj at z;cases z
 ca:=λKX p q=>XO KX p k.ga k.nga k.cl k.ob k.be q
def Vu:V->Value
 | .ty n=>.type n
 | .ref a=>.ref a
 | _=>.none
def XQ:V->Bool
 | .ty _=>true
 | .ref _=>true
 | _=>false
theorem RelV.cls {c:V}{u:Value}(r:RelV c u)(h:XQ c=true):u=Vu c:=by
 cases c with
 | ty n=>exact r
 | ref a=>exact r
 | _=>cases h
theorem Vals.cls:∀{cs:List V}{us:List Value},Vals cs us->cs.all XQ=true->us=cs.map Vu
 | _,_,.nil,_=>rfl
 | _,_,.cons r t,h=>by
  rw [List.all_cons,Bool.and_eq_true] at h;rw [List.map_cons,r.cls h.1,Vals.cls t h.2]
def ZeA (K:W.Frag):List V->Hp->VK->Prop:=λxs H Q=>∃x c b,xs=[x,c]/\Q (.bl b) H /\
 ((∃t,TyOf K H x t/\XQ c=true/\W.kitOne K t (Vu c)=some b) \/
  (∃a C,x=.ref a/\H a=some (W1 a C)/\ZdE K C/\XQ c=true/\W.kitOne K (.ref C) (Vu c)=some b) \/
  (∃a C tp cs,x=.ref a/\H a=some (W1 a C)/\ZdE K C/\c=.ref tp/\H tp=some (.tup cs)/\cs.all XQ=true/\W.kitAny K (.ref C) (cs.map Vu)=some b))
theorem YQ {X:Cx}:Oj X (.builtin "isinstance") (ZeA X.K):=by
 intro qQ s σ H xs us Q I rv h;obtain ⟨x,c,b,rfl,q,h⟩:=h;obtain ⟨u,cv,rfl,ru,rc⟩:=rv.two;have fin:∀tk,EP X qQ σ Q (.bool b) { s with toks:=tk }:=λtk=>⟨.bl b,H,I.tok tk,rfl,q⟩;rcases h with ⟨t,ty,hc,e⟩ | ⟨a,C,rfl,ha,k,hc,e⟩ | ⟨a,C,tp,cs,rfl,ha,k,rfl,ht,hc,e⟩
 ·rw [rc.cls hc];exact XA I ru ty e fin
 ·rw [rc.cls hc];cases (show u=Value.ref a from ru);obtain ⟨p,_⟩:=I.hok a _ ha;exact W.kia_one (Wm k) I.kIn p e (λz=>nomatch z) fin
 ·cases (show u=Value.ref a from ru);cases (show cv=Value.ref tp from rc);obtain ⟨p,_⟩:=I.hok a _ ha;obtain ⟨_,its,r,o,eo,co,n,dn⟩:=I.hok tp _ ht;obtain ⟨ocl,odi,oda,osl⟩:=o;cases (show ocl=.type "tuple" from co);cases (show oda=.seq its.toArray n from dn);exact W.kia_tup (its:=its) (Wm k) I.kIn p eo (by rw [r.cls hc];exact e) (λz=>nomatch z) fin
mutual
inductive DatV (K:W.Frag)(H:Hp):V->PyData->Prop
 | non:DatV K H .non .none
 | bl (b:Bool):DatV K H (.bl b) (.bool b)
 | int (i:Int):DatV K H (.int i) (.int i)
 | str (x:Str):DatV K H (.str x) (.str x)
 | lst {a:Addr} {xs:List V} {ds:List PyData}:SqL K H a xs->DatVs K H xs ds->DatV K H (.ref a) (.list ds)
 | tup {a:Addr} {xs:List V} {ds:List PyData}:SqT K H a xs->DatVs K H xs ds->DatV K H (.ref a) (.tuple ds)
inductive DatVs (K:W.Frag)(H:Hp):List V->List PyData->Prop
 | nil:DatVs K H [] []
 | cons {x:V} {d:PyData} {xs:List V} {ds:List PyData}:DatV K H x d->DatVs K H xs ds->DatVs K H (x::xs) (d::ds)
end
section
variable {X:Cx}{qQ:List (Addr×Obj)}{σ:St}{H:Hp}{s:Shared}
mutual
theorem DatV.reads (I:Inv X qQ σ H s):∀{x:V}{d:PyData}{u:Value},DatV X.K H x d->RelV x u->∃as,Reads s.heap u d as
 | _,_,_,.non,r=>by cases r;exact ⟨_,.none⟩
 | _,_,_,.bl b,r=>by cases r;exact ⟨_,.bool b⟩
 | _,_,_,.int i,r=>by obtain ⟨t,rfl⟩:=r;exact ⟨_,.int i t⟩
 | _,_,_,.str x,r=>by obtain ⟨t,rfl⟩:=r;exact ⟨_,.str x t⟩
 | _,_,_,.lst hq hs,r=>by
  cases r;obtain ⟨its,rv,⟨o,n,e,c,dd,dt⟩,_⟩:=I.list hq;obtain ⟨as,ra⟩:=DatVs.reads I hs rv;exact ⟨_,.list e c dt (by simpa using ra)⟩
 | _,_,_,.tup hq hs,r=>by
  cases r;obtain ⟨its,rv,⟨o,e,c,n,dt⟩,_⟩:=I.tuple hq;obtain ⟨as,ra⟩:=DatVs.reads I hs rv;exact ⟨_,.tuple e c dt (by simpa using ra)⟩
theorem DatVs.reads (I:Inv X qQ σ H s):∀{xs:List V}{ds:List PyData}{us:List Value},DatVs X.K H xs ds->Vals xs us->∃as,ReadsAll s.heap us ds as
 | _,_,_,.nil,.nil=>⟨_,.nil⟩
 | _,_,_,.cons h hs,.cons r rs=>by
  obtain ⟨as,ra⟩:=DatV.reads I h r;obtain ⟨bs,rb⟩:=DatVs.reads I hs rs;exact ⟨_,.cons ra rb⟩
end
end
def ZeB (K:W.Frag)(neg:Bool):R2:=λx y H Q=>∃d1 d2,DatV K H x d1/\DatV K H y d2/\SeqAt.shaped d1=true/\SeqAt.shaped d2=true/\Q (.bl (neg != PyData.eqv d1 d2)) H
theorem Zcj {X:Cx}(hu:X.A.units+64<cLine):OpR X (compareOp .Eq) (ZeB X.K false):=by
 intro qQ s σ H x y v u Q I rx ry h;obtain ⟨d1,d2,h1,h2,s1,s2,q⟩:=h;obtain ⟨as,r1⟩:=h1.reads I rx;obtain ⟨bs,r2⟩:=h2.reads I ry;exact eq_dataH r1 r2 s1 s2 hu ⟨.bl _,H,I,by cases PyData.eqv d1 d2 <;> rfl,q⟩
def Lt2 (p:Nat)(a:Int):Prop:=a.natAbs<2 ^ p
def ZdW (i j:Int):Prop:=0<j/\Lt2 9000 j
theorem U0 {X:Cx}:OpR X (binaryOp .FloorDiv) (rI ZdW λi j=>.int (i / j)):=opI λi j _ _ _ _ _ hc q=>by
 have h1:(0:Int)<j:=hc.1;have h2:j.natAbs<2 ^ 9000:=hc.2;refine floordiv_int (by lia) (by rw [Int.fdiv_eq_ediv_of_nonneg i (by lia)];exact q) (.inl (PyProof.noPylong_of_log2 ?_));exact (Nat.log2_lt (by lia)).mpr h2
theorem Same.new {H:Hp}{p:Addr}{o:HO}(h:H p=none):Same H (upd H p o):=λb u e=>by rw [GB (GG e h)];exact e
theorem Same.put {H H1:Hp}{p:Addr}{o:HO}(s:Same H H1)(h:H p=none):Same H (upd H1 p o):=λb u e=>by rw [GB (GG e h)];exact s b u e
theorem Wn {H:Hp}{p b:Addr}{o u:HO}(h:H b=some u)(n:b≠p):upd H p o b=some u:=by rw [GB n];exact h
theorem O6 {H:Hp}{l:Addr}{zs:List V}{o:HO}(h:H l=some (.lst zs)):∀p ys,H p=some (.tup ys)->upd H l o p=some (.tup ys):=λp ys e=>Wn e (ZdG e h (λz=>by cases z))
end L2
namespace L2
open PySem PySem.Spec PyProof.Rows
section
variable {X:Cx}
theorem Jt {x:Str}{a:Addr}{pos:Pos}(hm:X.mg x=some (.ref a))(hg:Gl X x:=by rfl)(hd:(x == ("__debug__" : Str))=false:=by decide):PE X (.Name x pos) (tC (.ref a)):=Uf hg hm rfl hd
theorem Ju {x:Str}{T:String}{pos:Pos}(hm:X.mg x=none)(hv:bootBuiltins x=some (.type T))(hg:Gl X x:=by rfl)(hn:x ≠ "__name__" := by decide)(hd:(x == ("__debug__" : Str))=false:=by decide):PE X (.Name x pos) (tC (.ty T)):=Zac hg hm hv rfl hn hd
end
theorem GP:bootBuiltins "isinstance" = some (.builtin "isinstance"):=by first | rfl | decide +kernel
theorem Zay:bootBuiltins "ValueError" = some (.type "ValueError"):=by first | rfl | decide +kernel
theorem Ji:bootBuiltins "tuple" = some (.type "tuple"):=by first | rfl | decide +kernel
theorem OB:bootBuiltins "list" = some (.type "list"):=by first | rfl | decide +kernel
theorem Vv:bootBuiltins "bool" = some (.type "bool"):=by first | rfl | decide +kernel
theorem J0:bootBuiltins "int" = some (.type "int"):=by first | rfl | decide +kernel
theorem Jc {K:W.Frag}{t:Value}:W.kitOne K t t=some true:=by
 unfold W.kitOne;rw [if_pos (beq_self_eq_true t)]
section
variable {X:Cx}(K:W.Frag)
theorem UA (h:X.K=K:=by rfl):Oj X (.builtin "isinstance") (ZeA K):=h▸YQ
theorem Jp (h:X.K=K:=by rfl):IxR X (ZbR K):=h▸Zar
theorem OW (h:X.K=K:=by rfl):IxR X (Zcd K):=h▸Zce
theorem kIn (h:X.K=K:=by rfl):OpR X (compareOp .In) (rIn K false):=h▸XD
theorem Zck (h:X.K=K:=by rfl):OpR X (compareOp .NotIn) (rIn K true):=h▸Vo
theorem VS (h:X.K=K:=by rfl):Oj X (.builtin "len") (λxs H Q=>∃p ys,xs=[.ref p]/\(SqL K H p ys\/SqT K H p ys)/\Q (.int ys.length) H):=h▸Vp
theorem Zaz (h:X.K=K:=by rfl):Oj X (.type "list") (λxs H Q=>∃p ys,xs=[.ref p]/\(SqL K H p ys\/SqT K H p ys)/\∀l,H l=none->Q (.ref l) (upd H l (.lst ys))):=h▸Vq
theorem Zcl (hu:X.A.units+64<cLine)(h:X.K=K:=by rfl):OpR X (compareOp .Eq) (ZeB K false):=h▸Zcj hu
theorem kSl (h:X.K=K:=by rfl):SlR X (Zey K):=h▸Zas
theorem ZeC {es:List Expr}{k:Nat}{t:TGs}{n:Nat}{pos:Pos}(hc:X.calm=true)(h:PGs X es t)(hK:X.K=K:=by rfl)(hn:(assignEach es X.env).length=n:=by rfl)(hst:(assignEach es X.env).findIdx? (·.1)=none:=by rfl):PG X (.Tuple es k pos) (Zes K n t):=hK▸Zb4 hc h hn hst
theorem Zcm {tg l:Expr}{tl:TE}(hl:PE X l tl)(h:X.K=K:=by rfl):PI X tg l (Zaf K tl):=h▸Zag hl
end
end L2
namespace L2
open PySem PySem.Spec PyProof.Rows
def AllP {α:Type}(P:α->Prop):List α->Prop
 | []=>True
 | x::r=>P x/\AllP P r
theorem AllP.mem {α:Type}{P:α->Prop}:∀{l:List α},AllP P l->∀x∈l,P x
 | _::_,h,_,.head _=>h.1
 | _::_,h,x,.tail _ m=>AllP.mem h.2 x m
theorem JA {X:Cx}{scope:Scope}{cl:List (Str×Addr)}{own:List Str}{fr:List (Str×Nat)}(L:List (Str×NameKind))(hcl:closureFor scope X.env=pure cl)(hL:(relabel scope X.env).names=L)(hc:∀y∈scope.names,y.2≠.cell)(hk:scope.kind=.function)(hn:∀y∈scope.names,y.2=.local->scope.names.lookup y.1=some .local)(hcs:AllP (λp=>X.env.cells.lookup p.1=some p.2) cl)(qX:AllP (λp=>(p.2=.cell\/p.2=.free)->∃c,cl.lookup p.1=some c) L)(hfr:AllP (λp=>X.N[p.2]?=some p.1/\(X.env.kindOf p.1=some .cell\/X.env.kindOf p.1=some .free)/\(L.lookup p.1=some .cell\/L.lookup p.1=some .free)) fr):JV X scope cl own fr:=
 ⟨hcl,hc,hk,hn,λy c h=>hcs.mem (y,c) (PySem.mem_of_lookup h),λy h=>by
  rw [hL] at h;rcases h with h | h
  ·exact qX.mem _ (PySem.mem_of_lookup h) (.inl rfl)
  ·exact qX.mem _ (PySem.mem_of_lookup h) (.inr rfl),λp hp=>by
  rw [hL];exact hfr.mem p hp⟩
theorem UB {k:NameKind}{P:Prop}(h:k=.cell\/k=.free)(h1:(k == .cell)=false:=by rfl)(h2:(k == .free)=false:=by rfl):P:=by
 rcases h with z | z
 ·subst z;exact absurd h1 (by decide)
 ·subst z;exact absurd h2 (by decide)
theorem GD {t u:TS}{D:Vf}{σ:St}{H:Hp}(Pm:St->Hp->Prop)(h2:∀ σ' H',Pm σ' H'->u D σ' H')(h1:(∀ σ' H',Pm σ' H'->u D σ' H')->t { D with nx:=u D } σ H):ZbQ t u D σ H:=h1 h2
end L2
namespace L2
open PySem PySem.Spec PyProof.Rows
section
variable {X:Cx}
theorem JR:UnR X (unaryOp .USub) (rU λi=>.int (-i)):=by
 intro qQ s σ H x v Q I rx h;obtain ⟨i,rfl,q⟩:=h;obtain ⟨t,rfl⟩:=rx;exact neg_int ⟨.int (-i),H,I.tok _,⟨_,rfl⟩,q⟩
end
theorem Zcn {xs:List V}{k:Nat}:J6 xs none (some (k:Int))=xs.take k:=by
 unfold J6;rw [HT.sIx_none,HT.sIx_nat,List.drop_zero,Nat.sub_zero];by_cases h:k<=xs.length
 ·rw [Nat.min_eq_left h]
 ·rw [Nat.min_eq_right (by lia),List.take_length,List.take_of_length_le (by lia)]
theorem J1 {xs:List V}{k:Nat}:J6 xs (some (k:Int)) none=xs.drop k:=by
 unfold J6;rw [HT.sIx_none,HT.sIx_nat];by_cases h:k<=xs.length
 ·rw [Nat.min_eq_left h,List.take_of_length_le (by rw [List.length_drop];exact Nat.le_refl _)]
 ·rw [Nat.min_eq_right (by lia),List.drop_length,List.drop_of_length_le (by lia),List.take_nil]
theorem Wo:∀ns:List Int,PyData.canLayAll0 (ns.map PyData.int)=true
 | []=>by simp [PyData.canLayAll0]
 | n::ns=>by
  rw [List.map_cons];simp [PyData.canLayAll0,PyData.canLay0,Wo ns]
theorem UN:∀ns:List Int,PyData.depthAll (ns.map PyData.int)<=1
 | []=>by simp [PyData.depthAll]
 | n::ns=>by
  have ih:=UN ns;rw [List.map_cons];simp only [PyData.depthAll,PyData.depth]
  lia
theorem J2 (ns:List Int):SeqAt.shaped (.list (ns.map PyData.int))=true:=by
 unfold SeqAt.shaped;rw [Bool.and_eq_true];have:=UN ns;refine ⟨by simp only [PyData.canLay0];exact Wo ns,decide_eq_true ?_⟩;simp only [PyData.depth]
 lia
end L2
namespace L2
open PySem PySem.Spec PyProof.Rows
section
variable {X:Cx}{a b c d:Expr}{ta tb tc td:TE}{pos:Pos}
theorem Wp:bootBuiltins "all" = some (.builtin "all"):=by first | rfl | decide +kernel
theorem Vw:∀{bs:List Bool}{us:List Value},Vals (bs.map V.bl) us->us=bs.map Value.bool
 | [],_,.nil=>rfl
 | b::bs,_,.cons r t=>by rw [List.map_cons,<-Vw t];cases r;rfl
theorem XR (bs:List Bool):(List.range bs.length).all (λi=>bs.getD i false)=bs.all id:=by
 induction bs with
 | nil=>rfl
 | cons b bs ih=>
  rw [List.length_cons,List.range_succ_eq_map,List.all_cons,List.all_map,List.all_cons];show (b && _)=(b && _)
  congr 1
theorem ZeD (K:W.Frag)(hc:X.calm=true)(h:X.K=K:=by rfl):Oj X (.builtin "all") (λxs H Q=>∃(p:Addr)(bs:List Bool),xs=[.ref p]/\SqL K H p (bs.map V.bl)/\Q (.bl (bs.all id)) H):=by
 subst h;intro qQ s σ H xs us Q I rv h;obtain ⟨p,bs,rfl,hq,q⟩:=h;obtain ⟨u,rfl,ru⟩:=rv.one;cases ru;obtain ⟨its,r,pl,hz⟩:=I.list hq;have e:=Vw r;have hh:X.A.in1.handled=none:=I.ok.hd hc;obtain ⟨o,eo,_⟩:=id pl.isList;have hlt:p<s.heap.objs.size:=Heap.lt_size eo;refine call_all_walk (wpAny_pyIter_list pl.isList ?_);refine ⟨s.heap.objs.size,_,_,_,_,_,λi=>bs.getD i false,rfl,Walks.list hh s.heap.objs.size p (Nat.ne_of_lt hlt) its.toArray,⟨⟨_,Heap.get?_push_size _ rfl,rfl,rfl⟩,pl.isList.at λo e=>Heap.get?_push_of_some _ e⟩,?_,λh' tk hk=>?_⟩
 ·intro i v s' Q' E' hv hq';have hv':its[i]?=some v:=by simpa using hv
  rw [e,List.getElem?_map] at hv';cases z:bs[i]? with
  | none=>rw [z] at hv';cases hv'
  | some b=>
   rw [z] at hv';cases hv';have eb:bs.getD i false=b:=by rw [List.getD_eq_getElem?_getD,z];rfl
   exact wpAny_truthy_bool (by rw [<-eb];exact hq')
 ·have hl:its.toArray.size=bs.length:=by rw [List.size_toArray,e,List.length_map]
  have I1:Inv X qQ σ H { s with heap:=s.heap.push { cls:=.type "list_iterator", data:=.fields #[.ref p,.int 0 0] } }:=I.kept (t':=s.toks) λb o e=>Heap.get?_push_of_some _ e;refine ⟨.bl _,H,I.kept λb o e'=>hk b o ?_ (Heap.get?_push_of_some _ e'),?_,q⟩
  ·intro z;have:b=s.heap.objs.size:=by simpa using z
   exact absurd (Heap.lt_size e') (by rw [this];exact Nat.lt_irrefl _)
  ·show Value.bool _=Value.bool _;rw [hl,XR]
end
end L2
namespace L2
open PySem PySem.Spec PyProof.Rows
section
variable {X:Cx}{qQ:List (Addr×Obj)}{σ:St}{H:Hp}{s:Shared}{a:Addr}{y v:V}{u r:Value}{o:Option V}{A:Around}{E:Value->Shared->Prop}
theorem Inv.big (I:Inv X qQ σ H s):sysModules<s.heap.objs.size:=by
 have h:mainGlobals<s.heap.objs.size:=(I.mod.glob.keeps I.bk).lt;exact Nat.lt_trans (by decide) h
end
theorem YR {P:Program}{w:World}{H:Hp}(h:Heap)(hb:sysModules<h.objs.size):ObjOk P w H (h.push { cls:=.type "dict", data:=.dict #[] }) h.objs.size (.dK []):=
 ⟨Nat.zero_le _,beq_eq_false_iff_ne.mpr (Ne.symm (Nat.ne_of_lt hb)),[],.nil,Heap.DictOf.new h⟩
def Zco:TE:=λ_ H Q=>∀p,H p=none->Q (.ref p) (upd H p (.dK []))
section
variable {X:Cx}{pos:Pos}
theorem YS:PE X (.Dict [] [] pos) Zco:=λqQ s σ H Q I h=>
 wpAny_Dict_empty ⟨.ref s.heap.objs.size,_,I.laid (a:=s.heap.objs.size) (o:=.dK []) (t':=s.toks) (λ_ _ q=>Heap.get?_push_of_some _ q) (Nat.le_refl _) (YR s.heap I.big),rfl,h _ (I.hok.fresh (Nat.le_refl _))⟩
end
end L2
namespace L2
open PySem PySem.Spec PyProof.Rows
section
variable {X:Cx}(K:W.Frag)
theorem ZbS (h:X.K=K:=by rfl):SlR X (Zex K):=h▸Zcb
theorem YT {tg:Expr}{l:Expr}{tl:TE}(hl:PE X l tl)(h:X.K=K:=by rfl):PI X tg l (Zet K tl):=h▸Zb7 hl
end
end L2
namespace L2
open PySem PySem.Spec PyProof.Rows
theorem U1 {K:PySem.W.Frag}{a D:Addr}{xs:List V}{g:TG}{tc:TT}{te:TE}{σ0:St}{R:Hp->Prop}{H1:Hp}(Pv:Nat->List V->Hp->Prop)(h0:Pv 0 [] (upd H1 D (.lst [])))(hl:∀i ys H,i<=xs.length->Pv i ys H->SqT K H a xs)(hs:∀i x ys H,xs[i]?=some x->Pv i ys H->g x σ0 H λσ4 H4=>OV σ0 σ4/\tc σ4 H4 λb H5=>if b=true then te σ4 H5 λy H6=>H6 D=some (.lst ys)/\ys.length<sizeLine/\Pv (i+1) (ys++[y]) (upd H6 D (.lst (ys++[y]))) else Pv (i+1) ys H5)(hd:∀ys H,Pv xs.length ys H->R H):∃W:Nat->Nat->List V->Hp->Prop,(∃m,W 0 m [] (upd H1 D (.lst [])))/\JW (Itt K a) D g tc te σ0 W R:=by
 refine ⟨λi m ys H=>m=xs.length-i/\i<=xs.length/\Pv i ys H,⟨_,rfl,Nat.zero_le _,h0⟩,?_⟩;rintro i m ys H ⟨rfl,hi,p⟩;have q:=hl i ys H hi p;by_cases hlt:i<xs.length
 ·refine .inr ⟨⟨xs,xs[i],q,by simp [hlt]⟩,Pv (i+1),λys' H' p'=>⟨xs.length-(i+1),by lia,rfl,hlt,p'⟩,λx H' y=>?_⟩;obtain ⟨e,y⟩:=y;subst e;exact hs i x ys _ (y xs q) p
 ·have e:i=xs.length:=by lia
  subst e;exact .inl ⟨⟨xs,q,Nat.le_refl _⟩,hd ys H p⟩
set_option maxRecDepth 8000 in
theorem W6 (l:Addr)(items:Array Value)(n:Nat)(b:Addr)(items2:Array Value)(n2:Nat)(dc:Option Addr)(sl:Array (Option Value))(hs0:¬(!items.isEmpty && Builtin.List.listTooLong (items.size+items2.size))=true)(hs1:items.size<=sizeLine)(hs2:items.size+items2.size<=sizeLine+1) :
  Meets (Builtin.«list.extend» ⟨[.ref l,.ref b],[]⟩) (λ_ R s=>s.heap.get? l=some { cls:=.type "list", dict:=none,data:=.seq items n,slots:=#[] }/\s.heap.get? b=some { cls:=.type "tuple", dict:=dc,data:=.seq items2 n2,slots:=sl }/\R (.ok (.ret Value.none)) { s with heap:=s.heap.update l (Obj.mapSeq λx=>x++items2),toks:=s.toks }):=
 .of_wp λprog w A R s h=>by
  obtain ⟨hp,g,d,tk,os⟩:=s;obtain ⟨hl,hb,h⟩:=h;have f1:=AutoSeq1.idx_int;have f2:=AutoSeq1.sub_tuple_tuple;have f3:=AutoSeq1.sub_list_list;have f4:=AutoSeq1.sub_tuple_list;have f5:=AutoSeq1.sub_list_tuple;have hz':(items++items2).size<=sizeLine+1:=by rw [Array.size_append];exact hs2
  wp_walk using (wpAny_updateSeq hl rfl (hz:=hs1) (_hz':=hz')),AutoSeq1.wpAny_loadPart' hl,AutoSeq1.wpAny_loadPart' hb
  exact ⟨_,rfl,h⟩
section
variable {X:Cx}
def YU:V->List V->Hp->VK->Prop:=λx vs H Q=>∃l b xs zs,x=.ref l/\vs=[.ref b]/\H l=some (.lst xs)/\H b=some (.tup zs)/\xs.length+zs.length<=sizeLine/\Q .non (upd H l (.lst (xs++zs)))
theorem W7:MtM X "list.extend" YU:=by
 intro qQ s σ H x vs v us Q I rx rv h;obtain ⟨l,b,xs,zs,rfl,rfl,hH,hB,hz,q⟩:=h;cases rx;obtain ⟨u,rfl,ru⟩:=rv.one;cases ru;obtain ⟨z,its,n,r,hl,e⟩:=I.lstM hH;obtain ⟨_,its2,r2,o,ho,hc,n2,hd⟩:=I.hok b _ hB;have hl2:=r2.length;have hll:=r.length;have hsz:its.toArray.size+its2.toArray.size<=sizeLine:=by rw [List.size_toArray,List.size_toArray];lia
 have hlong:¬ (!its.toArray.isEmpty && Builtin.List.listTooLong (its.toArray.size+its2.toArray.size))=true:=by
  rw [Wh hsz,Bool.and_false];exact Bool.false_ne_true
 refine call_meets F.slot_list_extend ⟨_,e,rfl⟩ F.entry_list_extend (F.args_list_extend_2 _ _)
  (W6 l its.toArray n b its2.toArray n2 o.dict o.slots hlong (by rw [List.size_toArray];lia) (by lia)) ⟨e,?_,?_⟩
 ·rw [ho];cases o;simp only at hc hd;rw [hc,hd]
 refine ⟨.non,_,I.lset (its':=its++its2) hH e (by simp) (r.append r2) ?_,rfl,q⟩;rw [List.length_append]
 lia
end
end L2
namespace L2
open PySem PySem.Spec PyProof.Rows
mutual
inductive Th (H:Hp):V->PyData->Prop
 | non:Th H .non .none
 | bl (b:Bool):Th H (.bl b) (.bool b)
 | int (i:Int):Th H (.int i) (.int i)
 | str (x:Str):Th H (.str x) (.str x)
 | lst {a:Addr} {xs:List V} {ds:List PyData}:H a=some (.lst xs)->xs.length<=1000->Ths H xs ds->Th H (.ref a) (.list ds)
 | tup {a:Addr} {xs:List V} {ds:List PyData}:H a=some (.tup xs)->xs.length<=1000->Ths H xs ds->Th H (.ref a) (.tuple ds)
inductive Ths (H:Hp):List V->List PyData->Prop
 | nil:Ths H [] []
 | cons {x:V} {d:PyData} {xs:List V} {ds:List PyData}:Th H x d->Ths H xs ds->Ths H (x::xs) (d::ds)
end
mutual
theorem Th.same {H H':Hp}(s:Same H H'):∀{v:V}{d:PyData},Th H v d->Th H' v d
 | _,_,.non=>.non
 | _,_,.bl b=>.bl b
 | _,_,.int i=>.int i
 | _,_,.str x=>.str x
 | _,_,.lst e z h=>.lst (s _ _ e) z (Ths.same s h)
 | _,_,.tup e z h=>.tup (s _ _ e) z (Ths.same s h)
theorem Ths.same {H H':Hp}(s:Same H H'):∀{vs:List V}{ds:List PyData},Ths H vs ds->Ths H' vs ds
 | _,_,.nil=>.nil
 | _,_,.cons h t=>.cons (Th.same s h) (Ths.same s t)
end
theorem Ths.len {H:Hp}:∀{vs:List V}{ds:List PyData},Ths H vs ds->vs.length=ds.length
 | _,_,.nil=>rfl
 | _,_,.cons _ t=>by rw [List.length_cons,List.length_cons,Ths.len t]
theorem Ths.get {H:Hp}:∀{vs:List V}{ds:List PyData},Ths H vs ds->∀{i:Nat}{x:V},vs[i]?=some x->∃d,ds[i]?=some d/\Th H x d
 | _,_,.nil,_,_,h=>by simp at h
 | _,_,.cons h _,0,_,e=>by
  simp at e;subst e;exact ⟨_,rfl,h⟩
 | _,_,.cons _ t,i+1,_,e=>by
  rw [List.getElem?_cons_succ] at e ⊢;exact Ths.get t e
theorem Ths.at {H:Hp}{vs:List V}{ds:List PyData}(h:Ths H vs ds){i:Nat}{d:PyData}(e:ds[i]?=some d):∃x,vs[i]?=some x/\Th H x d:=by
 have hi:i<vs.length:=by rw [h.len];exact (List.getElem?_eq_some_iff.mp e).1
 obtain ⟨d',e',t⟩:=h.get (List.getElem?_eq_getElem hi);rw [e] at e';cases e';exact ⟨_,List.getElem?_eq_getElem hi,t⟩
theorem Ths.app {H:Hp}:∀{vs us:List V}{ds es:List PyData},Ths H vs ds->Ths H us es->Ths H (vs++us) (ds++es)
 | _,_,_,_,.nil,k=>k
 | _,_,_,_,.cons h t,k=>.cons h (Ths.app t k)
theorem Ths.take {H:Hp}:∀{vs:List V}{ds:List PyData},Ths H vs ds->∀n,Ths H (vs.take n) (ds.take n)
 | _,_,.nil,n=>by rw [List.take_nil,List.take_nil];exact .nil
 | _,_,.cons h t,0=>.nil
 | _,_,.cons h t,n+1=>.cons h (Ths.take t n)
theorem Ths.drop {H:Hp}:∀{vs:List V}{ds:List PyData},Ths H vs ds->∀n,Ths H (vs.drop n) (ds.drop n)
 | _,_,.nil,n=>by rw [List.drop_nil,List.drop_nil];exact .nil
 | _,_,.cons h t,0=>.cons h t
 | _,_,.cons h t,n+1=>Ths.drop t n
section
variable {X:Cx}{a:Expr}{ta:TE}{pos:Pos}
theorem ZaA (ha:PE X a ta)(K:W.Frag)(hK:X.K=K:=by rfl):PE X (.UnaryOp .Not a pos) (λσ H Q=>ta σ H λx H1=>∃k,ZdR K x H1 k/\Q (.bl (!k)) H1):=by
 subst hK;intro qQ s σ H Q I h;refine UnaryOp_ (thn (ha qQ s σ H _ I h) λv s1 ⟨x,H1,I1,r1,k,tk,q1⟩=>?_);exact not_of (thn (ZJ qQ s1 σ H1 x v (λk H2=>Q (.bl (!k)) H2) I1 r1 ⟨k,tk,q1⟩) λc s2 ⟨H2,I2,q2⟩=>⟨.bl (!c),H2,I2,rfl,q2⟩)
theorem Vx (K:W.Frag)(h:X.K=K:=by rfl):OpR X (binaryOp .Add) (Zcc K):=h▸Zap
theorem ZM (K:W.Frag)(h:X.K=K:=by rfl):Oj X (.type "tuple") (λxs H Q=>∃p ys,xs=[.ref p]/\((SqL K H p ys/\∀l,H l=none->Q (.ref l) (upd H l (.tup ys)))\/(SqT K H p ys/\Q (.ref p) H))):=h▸UX
end
def sJoin:List Str:=["and", "or", "but"]
def sBare:List Str:=["closed", "shy", "all"]
def sPair:List Str:=["open", "long"]
def sFour:List Str:=["with", "off", "over", "past"]
def Ol:PyData->Bool
 | .int i=>decide (0<=i) && decide (i<=9999)
 | _=>false
def Ja (w:Str)(rest:List PyData):Bool:=
 if w∈sBare then rest.isEmpty
 else if w∈sPair then (match rest with | [a,b]=>Ol a && Ol b | _=>false)
 else if w∈sFour then (match rest with | [.tuple ds]=>ds.all Ol | _=>false)
 else false
def Jo:Nat->PyData->Bool
 | 0,_=>false
 | n+1,.tuple (.str w::rest)=>if w∈sJoin/\rest.length=2 then rest.all (Jo n) else Ja w rest
 | _+1,_=>false
inductive Ws:PyData->Nat->Prop
 | leaf {w:Str} {rest:List PyData}:Ja w rest=true->Ws (.tuple (.str w::rest)) 1
 | join {w:Str} {a b:PyData} {m n:Nat}:w∈sJoin->Ws a m->Ws b n->Ws (.tuple [.str w,a,b]) (max m n+1)
theorem join_leaf {w:Str}{rest:List PyData}(h:w∈sJoin):Ja w rest=false:=by
 unfold Ja;have h1:w ∉ sBare/\w ∉ sPair/\w ∉ sFour:=by
  unfold sJoin at h;rcases List.mem_cons.mp h with rfl | h
  ·decide +kernel
  ·rcases List.mem_cons.mp h with rfl | h
   ·decide +kernel
   ·rw [List.mem_singleton] at h;subst h;decide +kernel
 rw [if_neg h1.1,if_neg h1.2.1,if_neg h1.2.2]
theorem G0 {w:Str}{rest:List PyData}(h:Ja w rest=true):w ∉ sJoin:=λz=>by rw [join_leaf z] at h;cases h
theorem W8 {w:Str}{rest:List PyData}(h:w ∉ sJoin)(n:Nat):Jo (n+1) (.tuple (.str w::rest))=Ja w rest:=by
 rw [Jo,if_neg (λz=>h z.1)]
theorem OL {w:Str}{a b:PyData}(h:w∈sJoin)(n:Nat):Jo (n+1) (.tuple [.str w,a,b])=(Jo n a && Jo n b):=by
 rw [Jo,if_pos ⟨h,rfl⟩,List.all_cons,List.all_cons,List.all_nil,Bool.and_true]
theorem Ws.iff {d:PyData}{m:Nat}(h:Ws d m):∀n,Jo n d=true↔m<=n:=by
 induction h with
 | leaf h=>
  intro n;cases n with
  | zero=>exact ⟨λz=>(by cases z),λz=>absurd z (by decide)⟩
  | succ n=>
   rw [W8 (G0 h),h];exact ⟨λ_=>by lia,λ_=>rfl⟩
 | @join w a b m n hw _ _ ih1 ih2=>
  intro k;cases k with
  | zero=>exact ⟨λz=>(by cases z),λz=>absurd z (by lia)⟩
  | succ k=>
   rw [OL hw,Bool.and_eq_true,ih1,ih2]
   lia
theorem Ws.pos {d:PyData}{m:Nat}(h:Ws d m):1<=m:=by
 cases h <;> lia
end L2
namespace L2
open PySem PySem.Spec PyProof.Rows
section
variable {X:Cx}
theorem Wq {α β:Type}{F:α->β->Prop}{l:List α}{m:List β}(h:Paired F l m):∀{i:Nat}{x:α},l[i]?=some x->∃y,m[i]?=some y/\F x y:=by
 induction h with
 | nil=>intro i x e;simp at e
 | @cons p q _ _ r _ ih=>
  intro i x e;cases i with
  | zero=>simp at e;subst e;exact ⟨q,by simp,r⟩
  | succ i=>simp at e;obtain ⟨y,h1,h2⟩:=ih e;exact ⟨y,by simpa using h1,h2⟩
end
end L2
namespace L2
open PySem PySem.Spec PyProof.Rows
section
variable {prog:Program}{w:World}{A:Around}{E:Value->Shared->Prop}{s:Shared}
theorem YV {it l:Addr}{k:Nat}{items:Array Value}{x:Value}{Q:Value->Shared->Prop}(st:s.heap.get? it=some (revObj l (k:Int)))(hl:s.heap.IsList l items)(hx:items[k]?=some x)(q:∀h',h'.get? it=some (revObj l ((k:Int)-1))->Heap.SameBut it s.heap h'->Q x { s with heap:=h' }) :
  wpAny (model prog w) A (Builtin.«list_reverseiterator.__next__» ⟨[.ref it],[]⟩) (λfin s'=>∃v,fin=.done (.ret v)/\Q v s') E s:=by
 obtain ⟨ol,e1,e2,n,e3⟩:=hl
 wp_walk using wpAny_field st rfl (x:=rawInt (k:Int)) rfl
 rw [e3];refine wpAny_pure ?_;dsimp only;rw [Int.toNat_natCast,hx];dsimp only;refine wpAny_bind (wpAny_setField_rec st (by simp) λh' e' b'=>?_);exact wpAny_pure ⟨_,rfl,q h' e' b'⟩
theorem YW {it l:Addr}{Q:Value->Shared->Prop}(hh:A.handled=none)(st:s.heap.get? it=some (revObj l (-1)))(q:∀h' e,(∀c o,s.heap.get? c=some o->h'.get? c=some o)->(∃o,h'.get? e=some o/\o.cls=.type "StopIteration")->E (.ref e) { s with heap:=h' }):wpAny (model prog w) A (Builtin.«list_reverseiterator.__next__» ⟨[.ref it],[]⟩) (λfin s'=>∃v,fin=.done (.ret v)/\Q v s') E s:=by
 wp_walk using wpAny_field st rfl (x:=rawInt (-1)) rfl,wpAny_raiseNew_none hh
 exact q _ _ (λc o e=>Heap.get?_push_of_some _ (Heap.get?_push_of_some _ e)) ⟨_,Heap.get?_push_size _ rfl,rfl⟩
theorem YX {it l:Addr}{k:Nat}{items:Array Value}{x:Value}{Q:Option Value->Shared->Prop}(st:s.heap.get? it=some (revObj l (k:Int)))(hl:s.heap.IsList l items)(hx:items[k]?=some x)(q:∀h',h'.get? it=some (revObj l ((k:Int)-1))->Heap.SameBut it s.heap h'->Q (some x) { s with heap:=h' }):wpAny (model prog w) A (pyNext (.ref it)) Q E s:=by
 have T:s.TypeIs (.ref it) "list_reverseiterator" := ⟨_,st,rfl⟩;refine wpAny_bind (wpAny_attempt (wpAny_callSpecial?_slot T F.slot_lri_next (wpAny_call_entry F.slot_lri_next T F.entry_lri_next (YV st hl hx λh' a b=>?_) (F.args_lri_next_1 _))))
 wp_walk
 exact q h' a b
theorem YY {it l:Addr}{Q:Option Value->Shared->Prop}(hh:A.in1.handled=none)(st:s.heap.get? it=some (revObj l (-1)))(q:∀h',(∀c o,s.heap.get? c=some o->h'.get? c=some o)->Q none { s with heap:=h' }):wpAny (model prog w) A (pyNext (.ref it)) Q E s:=by
 have T:s.TypeIs (.ref it) "list_reverseiterator" := ⟨_,st,rfl⟩;refine wpAny_bind (wpAny_attempt (wpAny_callSpecial?_slot T F.slot_lri_next (wpAny_call_entry F.slot_lri_next T F.entry_lri_next (YW hh st ?_) (F.args_lri_next_1 _))));rintro h' e k ⟨o',e1,e2⟩;exact wpAny_bind (wpAny_isInstance ⟨o',e1,e2⟩ isSubtype_stop (wpAny_pure (q h' k)))
theorem Wt {it l:Addr}{k:Int}{Q:Value->Shared->Prop}(st:s.heap.get? it=some (revObj l k))(q:Q (.ref it) s):wpAny (model prog w) A (pyIter (.ref it)) Q E s:=by
 have T:s.TypeIs (.ref it) "list_reverseiterator" := ⟨_,st,rfl⟩;refine wpAny_pyIter_slot T F.slot_lri_iter (wpAny_call_entry F.slot_lri_iter T F.entry_lri_iter ?_ (F.args_lri_iter_1 _))
 wp_walk
 exact ⟨_,rfl, "list_reverseiterator", _,T,F.slot_lri_next.lookup,q⟩
end
def Itv (K:W.Frag)(a:Addr)(n:Nat):It:=
 ⟨λi H=>i<n/\∃xs,SqL K H a xs/\xs.length=n,λi H x H'=>H'=H/\∀xs,SqL K H a xs->xs[n-1-i]?=some x,λi _=>i=n⟩
theorem YZ {P:Program}{w:World}{K:W.Frag}{tg:Expr}(a it:Addr)(n:Nat):Zae P w K tg (Itv K a n) [it] it (λi h=>h.get? it=some (revObj a ((n:Int)-1-i))) where
 mem:=by simp
 obj:=λi h st b hb=>by
  have e:b=it:=by simpa using hb
  subst e;exact ⟨_,st,λv z=>by cases z⟩
 keep:=λi h h' st k=>k it (by simp) _ st
 item:=by
  intro X hP hw hK hc i qQ s σ H E I hf st hg;subst hP hw hK;obtain ⟨hi,xs,hq,hl⟩:=hg;obtain ⟨its,rv,p,hz⟩:=I.list hq;have hx:xs[n-1-i]?=some xs[n-1-i]:=List.getElem?_eq_getElem (by lia);obtain ⟨u,hu,ru⟩:=rv.get hx;obtain ⟨f0,f1,f2,f3,f4,f5⟩:=hf it (by simp);have ek:((n:Int)-1-i)=((n-1-i:Nat):Int):=by lia
  rw [ek] at st;refine YX st p.isList (x:=u) (by simpa using hu) λh' st' sb=>?_;have I1:Inv X qQ σ H { s with heap:=h' }:=I.turned (t':=s.toks) (λb o hb e=>(sb.2 b hb).trans e) f0 f1 f3 f4 f5;refine ⟨u,rfl,Xo (s:={ s with heap:=h' }) st' rfl rfl (by decide) ⟨xs[n-1-i],H,I1,ru,⟨rfl,λys hy=>by rw [I.list_inj hy hq];exact hx⟩,?_,λb hb=>(hf b hb).1⟩⟩;rw [show ((n:Int)-1-((i+1:Nat):Int))=((n-1-i:Nat):Int)-1 by lia];exact st'
 done:=by
  intro X hP hw hK hc i qQ s σ H E I hf st hg;subst hP hw hK;have hg:i=n:=hg;subst hg;obtain ⟨f0,f1,f2,f3,f4,f5⟩:=hf it (by simp);rw [show ((i:Int)-1-i)=-1 by lia] at st;exact YY (I.ok.hd hc) st λh' eb=>⟨rfl,I.turned (t':=s.toks) (λb o _ e=>eb b o e) f0 f1 f3 f4 f5⟩
 self:=λ_ _ _ _ _ st h=>Wt st h
section
variable {X:Cx}{tg:Expr}
def ZeZ (K:W.Frag)(ta:TA):TI:=λσ H R=>ta σ H λvs H1=>∃a xs,vs=[.ref a]/\SqL K H1 a xs/\R (Itv K a xs.length) H1
theorem Ze0 (K:W.Frag){l:Expr}{ta:TA}{p pos:Pos}(hg:Gl X "reversed")(hm:X.mg "reversed" = none)(ha:PA X [l] ta)(hK:X.K=K:=by rfl)(hs:starEach [l] X.env=[(false,eval l X.env)]:=by rfl) :
  PI X tg (.Call (.Name "reversed" p) [l] [] pos) (ZeZ K ta):=by
 subst hK;intro qQ s σ H R I h;refine Call_ (UE I hg hm boot_reversed (PyProof.Rows.callWith_type1 (thn (ha pos qQ s σ H _ I h) λus s1 ⟨vs,H1,I1,r1,q1⟩=>?_) hs rfl));obtain ⟨a,xs,e,hq,q⟩:=q1;subst e;obtain ⟨u,rfl,ru⟩:=r1.one;cases ru;obtain ⟨its,rv,pl,hz⟩:=I1.list hq;refine call_reversed_list pl.isList ?_;have e0:((its.toArray.size:Int)-1)=((xs.length:Int)-1-(0:Nat)):=by
  have:=rv.length;simp
  lia
 have st:(s1.heap.push (revObj a ((its.toArray.size:Int)-1))).get? s1.heap.objs.size=some (revObj a ((xs.length:Int)-1-(0:Nat))):=by rw [<-e0];exact Heap.get?_push_size _ rfl
 refine Wt (s:={ s1 with heap:=s1.heap.push (revObj a ((its.toArray.size:Int)-1)) }) st ?_;refine ⟨s1.heap.objs.size,[s1.heap.objs.size],_,_,H1,rfl,I1.kept (t':=s1.toks) λb o e=>Heap.get?_push_of_some _ e,YZ a _ xs.length,st,λb hb=>?_,q⟩;have e:b=s1.heap.objs.size:=by simpa using hb
 subst e;exact I1.fpOk (Nat.le_refl _) (I1.hok.fresh (Nat.le_refl _))
theorem ZaB {K:PySem.W.Frag}{a:Addr}{xs:List V}{g:TG}{tb:TS}{D:Vf}{σ:St}{H:Hp}(Pv:Nat->St->Hp->Prop)(h0:Pv 0 σ H)(hl:∀i σ H,i<=xs.length->Pv i σ H->SqL K H a xs)(hs:∀i x σ H,i<xs.length->xs[xs.length-1-i]?=some x->Pv i σ H->g x σ H λσ2 H2=>tb { D with nx:=Pv (i+1),ct:=Pv (i+1),bk:=D.nx } σ2 H2)(hd:∀ σ H,Pv xs.length σ H->D.nx σ H) :
  ∃W:Nat->Nat->St->Hp->Prop,(∃m,W 0 m σ H)/\∀i m σ H,W i m σ H ->
   ((Itv K a xs.length).stop i H/\D.nx σ H)\/((Itv K a xs.length).go i H/\∃N:St->Hp->Prop,(∀ σ' H',N σ' H'->∃m',m'<m/\W (i+1) m' σ' H')/\∀x H',(Itv K a xs.length).yld i H x H'->g x σ H' λσ2 H2=>tb { D with nx:=N,ct:=N,bk:=D.nx } σ2 H2):=by
 refine ⟨λi m σ H=>m=xs.length-i/\i<=xs.length/\Pv i σ H,⟨xs.length,by simp,Nat.zero_le _,h0⟩,?_⟩;rintro i m σ H ⟨rfl,hi,p⟩;have q:=hl i σ H hi p;by_cases hlt:i<xs.length
 ·refine .inr ⟨⟨hlt,xs,q,rfl⟩,Pv (i+1),λσ' H' p'=>⟨xs.length-(i+1),by lia,rfl,hlt,p'⟩,λx H' y=>?_⟩;obtain ⟨e,y⟩:=y;subst e;exact hs i x σ _ hlt (y xs q) p
 ·have e:i=xs.length:=by lia
  subst e;exact .inl ⟨rfl,hd σ H p⟩
end
end L2
namespace L2
open PySem PySem.Spec PyProof.Rows
variable {X:Cx}
abbrev num (i:Int):Str:=Str.ofString (toString i)
theorem ZeE:Oj X (.type "str") (λxs H Q=>∃i:Int,xs=[.int i]/\(0<=i/\i<10 ^ 10)/\Q (.str (num i)) H):=by
 intro qQ s σ H xs us Q I rv h;obtain ⟨i,rfl,⟨h0,h1⟩,q⟩:=h;obtain ⟨u,rfl,ru⟩:=rv.one;obtain ⟨t,rfl⟩:=ru;refine P.str_of_int (shown (N:=10 ^ 10) (by lia) h1 (by decide +kernel)) ?_;exact ⟨.str _,H,I.tok _,⟨_,rfl⟩,q⟩
theorem W9:Oj X (.builtin "len") (λxs H Q=>∃x:Str,xs=[.str x]/\x.length<=16777216/\Q (.int x.length) H):=by
 intro qQ s σ H xs us Q I rv h;obtain ⟨x,rfl,hl,q⟩:=h;obtain ⟨u,rfl,ru⟩:=rv.one;obtain ⟨t,rfl⟩:=ru;refine P.len_str (by lia) ?_;exact ⟨.int _,H,I.tok _,⟨_,rfl⟩,q⟩
theorem Zcp:Oj X (.type "int") (λxs H Q=>∃(x:Str)(n:Int),xs=[.str x]/\PySem.intText? x=some n/\x.length<=640/\Q (.int n) H):=by
 intro qQ s σ H xs us Q I rv h;obtain ⟨x,n,rfl,hn,hl,q⟩:=h;obtain ⟨u,rfl,ru⟩:=rv.one;obtain ⟨t,rfl⟩:=ru;refine W.KIN.call_text hn hl ?_;exact ⟨.int _,H,I.tok _,⟨_,rfl⟩,q⟩
def Vy (ta tb:TE):TE:=λσ H Q=>ta σ H λx H1=>tb σ H1 λy H2=>∃a b,x=.str a/\y=.str b/\a.length+b.length<=16777216/\Q (.str (a++b)) H2
theorem Jf {a b:Expr}{ta tb:TE}{pos:Pos}(ha:PE X a ta)(hb:PE X b tb):PE X (.BinOp a .Add b pos) (Vy ta tb):=by
 intro qQ s σ H Q I h;refine wpAny_BinOp (bin ha hb I h λv u s2 x y H2 I2 rx ry q=>?_);obtain ⟨i,j,rfl,rfl,hl,q⟩:=q;obtain ⟨t,rfl⟩:=rx;obtain ⟨t',rfl⟩:=ry;exact SBL.add (hsz:=hl) λt' k _=>⟨.str _,H2,I2.tok _,⟨_,rfl⟩,q⟩
theorem XS:MtR X "str.startswith" (λx xs H Q=>∃a b,x=.str a/\xs=[.str b]/\Q (.bl (Txt.startswith a b)) H):=by
 intro qQ s σ H x xs v us Q I rx rv h;obtain ⟨a,b,rfl,rfl,q⟩:=h;obtain ⟨u,rfl,ru⟩:=rv.one;obtain ⟨t,rfl⟩:=ru;obtain ⟨t',rfl⟩:=rx;exact SC.startswith ⟨.bl _,H,I,rfl,q⟩
theorem Vz:∀{ys:List Str}{its:List Value},Vals (ys.map V.str) its->∃l:List (Str×Tok),strValues l=its/\l.map (·.1)=ys
 | [],_,h=>by cases h;exact ⟨[],rfl,rfl⟩
 | y::ys,_,h=>by
  cases h with
  | cons r h=>
   obtain ⟨t,rfl⟩:=r;obtain ⟨l,rfl,e⟩:=Vz h;exact ⟨(y,t)::l,rfl,by rw [List.map_cons,e]⟩
theorem XT:∀(tk:Nat)(ys:List Str),Vals (ys.map V.str) (strsFrom tk ys)
 | _,[]=>.nil
 | tk,y::ys=>.cons ⟨_,rfl⟩ (XT (tk+1) ys)
theorem ZaC (K:W.Frag)(hK:X.K=K:=by rfl):MtR X "str.join" (λx xs H Q=>∃a l ys,x=.str a/\xs=[.ref l]/\SqL K H l (ys.map V.str)/\JoinOk a ys=true/\Q (.str (Txt.join a ys)) H):=by
 subst hK;intro qQ s σ H x xs v us Q I rx rv h;obtain ⟨a,l,ys,rfl,rfl,hl,hj,q⟩:=h;obtain ⟨u,rfl,ru⟩:=rv.one;cases ru;obtain ⟨t',rfl⟩:=rx;obtain ⟨its,hv,pl,_⟩:=I.list hl;obtain ⟨ls,rfl,e⟩:=Vz hv;exact SC.join pl.isList e hj λt' k=>⟨.str _,H,I.tok _,⟨_,rfl⟩,q⟩
theorem Wu:MtR X "str.split" (λx xs H Q=>∃a b,x=.str a/\xs=[.str b]/\(b.length == 0)=false/\a.length<=sizeLine/\(Builtin.Str.partsBetween a (Builtin.Str.occurrences a b 0 a.length (a.length+1)) b.length).length<=sizeLine /\
  ∀l,H l=none->Q (.ref l) (upd H l (.lst ((Txt.split a b).map V.str)))):=by
 intro qQ s σ H x xs v us Q I rx rv h;obtain ⟨a,b,rfl,rfl,hy,hsz,hsz2,q⟩:=h;obtain ⟨u,rfl,ru⟩:=rv.one;obtain ⟨t,rfl⟩:=ru;obtain ⟨t',rfl⟩:=rx;have hf:H s.heap.objs.size=none:=I.hok.fresh (Nat.le_refl _);have one:∀k,Txt.split a b=[a]->EP X qQ σ Q (.ref s.heap.objs.size) { s with toks:=k,heap:=s.heap.push { cls:=.type "list", data:=.seq [Value.str a t'].toArray } }:=λk e=>
  ⟨.ref s.heap.objs.size,upd H s.heap.objs.size (.lst ((Txt.split a b).map V.str)),I.laid (t':=k) (λb u e=>Heap.get?_push_of_some _ e) (Nat.le_refl _) (by
   rw [e];exact ⟨by show 1<=sizeLine;decide +kernel,_,0,.cons ⟨_,rfl⟩ .nil,Heap.get?_push_size _ rfl⟩),rfl,q _ hf⟩
 cases h1:(decide (a.length<b.length) || decide (Builtin.Str.strKind a<Builtin.Str.strKind b))
 ·cases h2:(Builtin.Str.occurrences a b 0 a.length (a.length+1)).isEmpty
  ·refine call_meets F.slot_str_split (typeIs_str _ _ _) F.entry_str_split (F.args_str_split_2 _ _) (meets_str_split_sep a b t' t h1 hy h2 hsz hsz2) ?_;have e:Txt.split a b=Builtin.Str.partsBetween a (Builtin.Str.occurrences a b 0 a.length (a.length+1)) b.length:=(if_neg (ne_true_of_eq_false h1)).trans (if_neg (ne_true_of_eq_false h2));refine ⟨.ref s.heap.objs.size,upd H s.heap.objs.size (.lst ((Txt.split a b).map V.str)),I.laid (λb u e=>Heap.get?_push_of_some _ e) (Nat.le_refl _) ?_,rfl,q _ hf⟩;rw [e];exact ⟨by rw [List.length_map];exact hsz2,_,0,XT _ _,Heap.get?_push_size _ rfl⟩
  ·exact call_meets F.slot_str_split (typeIs_str _ _ _) F.entry_str_split (F.args_str_split_2 _ _) (meets_str_split_not_found a b t' t h1 hy h2) (one _ ((if_neg (ne_true_of_eq_false h1)).trans (if_pos h2)))
 ·exact call_meets F.slot_str_split (typeIs_str _ _ _) F.entry_str_split (F.args_str_split_2 _ _) (meets_str_split_cannot_occur a b t' t h1) (one _ (if_pos h1))
theorem ZaD:MtR X "str.partition" (λx xs H Q=>∃a b,x=.str a/\xs=[.str b]/\(b.length == 0)=false/\a.length<=sizeLine /\
  ∀l,H l=none->Q (.ref l) (upd H l (.tup [.str (Txt.partition a b).1,.str (Txt.partition a b).2.1,.str (Txt.partition a b).2.2]))):=by
 intro qQ s σ H x xs v us Q I rx rv h;obtain ⟨a,b,rfl,rfl,hy,hsz,q⟩:=h;obtain ⟨u,rfl,ru⟩:=rv.one;obtain ⟨t,rfl⟩:=ru;obtain ⟨t',rfl⟩:=rx;have hf:H s.heap.objs.size=none:=I.hok.fresh (Nat.le_refl _);refine call_meets F.slot_str_partition (typeIs_str _ _ _) F.entry_str_partition (F.args_str_partition_2 _ _) (meets_str_partition a b t' t hy hsz) ?_;unfold Txt.partition at q
 revert q
 cases Builtin.Str.occurrences a b 0 a.length 1 with
 | nil=>
  intro q;exact ⟨.ref s.heap.objs.size,upd H s.heap.objs.size (.tup [.str a,.str Str.empty,.str Str.empty]),I.laid (λb u e=>Heap.get?_push_of_some _ e) (Nat.le_refl _) ⟨by show 3<=sizeLine;decide +kernel,_,.cons ⟨_,rfl⟩ (.cons ⟨_,rfl⟩ (.cons ⟨_,rfl⟩ .nil)),⟨_,Heap.get?_push_size _ rfl,rfl,_,rfl⟩⟩,rfl,q _ hf⟩
 | cons i r=>
  intro q;exact ⟨.ref s.heap.objs.size,upd H s.heap.objs.size (.tup [.str (Builtin.Str.strSub a 0 i),.str b,.str (Builtin.Str.strSub a (i+b.length) a.length)]),I.laid (λb u e=>Heap.get?_push_of_some _ e) (Nat.le_refl _) ⟨by show 3<=sizeLine;decide +kernel,_,.cons ⟨_,rfl⟩ (.cons ⟨_,rfl⟩ (.cons ⟨_,rfl⟩ .nil)),⟨_,Heap.get?_push_size _ rfl,rfl,_,rfl⟩⟩,rfl,q _ hf⟩
def PJ (X:Cx)(es:List Expr)(t:Str->TE):Prop:=∀(qQ:List (Addr×Obj))(s:Shared)(σ:St)(H:Hp)(Q:VK)(out:Str),Inv X qQ σ H s->t out σ H Q ->
 wpAny (model X.prog X.w) X.A (joinParts out (evalEach es X.env)) (EP X qQ σ Q) X.xe s
theorem Zcq:PJ X [] (λout _ H Q=>out.length<=sizeLine/\Q (.str out) H):=λqQ s σ H Q out I h=>
 joinParts_nil ⟨.str _,H,I.tok _,⟨_,rfl⟩,h.2⟩ h.1
theorem Oq {e:Expr}{es:List Expr}{te:TE}{t:Str->TE}(he:PE X e te)(h:PJ X es t) :
  PJ X (e::es) (λout σ H Q=>te σ H λv H1=>∃y,v=.str y/\(out++y).length<=sizeLine/\t (out++y) σ H1 Q):=by
 intro qQ s σ H Q out I q;refine joinParts_cons (thn (he qQ s σ H _ I q) λv s1 ⟨x,H1,I1,r1,y,e1,hl,q1⟩=>?_);subst e1;obtain ⟨t,rfl⟩:=r1;exact ⟨hl,h qQ s1 σ H1 Q _ I1 q1⟩
theorem ZaE {e1 e2:Expr}{es:List Expr}{t:Str->TE}{pos:Pos}(h:PJ X (e1::e2::es) t):PE X (.JoinedStr (e1::e2::es) pos) (t Str.empty):=λqQ s σ H Q I q=>
 JoinedStr_many (h qQ s σ H Q _ I q)
end L2
namespace L2
open PySem PySem.Spec PyProof.Rows
def Gu (c:Nat):Nat->List Nat->List Nat
 | _,[]=>[]
 | k,x::xs=>if x=c then k::Gu c (k+1) xs else Gu c (k+1) xs
theorem J9 (c:Nat):∀(k:Nat)(l:List Nat),(Gu c k l).length<=l.length
 | _,[]=>Nat.le_refl _
 | k,x::xs=>by
  have:=J9 c (k+1) xs;unfold Gu;split <;> simp only [List.length_cons] <;> lia
theorem Wv (x:Str)(c limit:Nat):∀(m k:Nat)(st:Array Nat×Nat),k+m=x.length+1->st.2<=k ->
  (forIn (List.range' k m) st (StrLaws.occBody x ⟨#[c]⟩ x.length limit)).run.fst.toList=st.1.toList++(Gu c k (x.cps.toList.drop k)).take (limit-st.1.size)
 | 0,k,st,e,_=>by
  have:x.cps.toList.drop k=[]:=List.drop_eq_nil_of_le (by show x.cps.toList.length<=k;have:x.cps.toList.length=x.length:=Array.length_toList;lia);rw [this];show st.1.toList=st.1.toList++_;simp [Gu]
 | m+1,k,st,e,hf=>by
  have hL:x.cps.toList.length=x.length:=Array.length_toList;rw [List.range'_succ,List.forIn_cons];unfold StrLaws.occBody;by_cases hc:x.cps.toList[k]?=some c
  ·obtain ⟨hk,hv⟩:=List.getElem?_eq_some_iff.mp hc;have hd:x.cps.toList.drop k=c::x.cps.toList.drop (k+1):=by rw [List.drop_eq_getElem_cons hk,hv]
   have hs:=(StrLaws.subAt_one x c k).mpr hc;rw [hd];unfold Gu;rw [if_pos rfl];by_cases hl:st.1.size<limit
   ·rw [if_pos ⟨⟨⟨hl,hf⟩,hs.1⟩,hs.2⟩];refine (Wv x c limit m (k+1) (st.1.push k,k+1) (by lia) (Nat.le_refl _)).trans ?_;obtain ⟨d,hd⟩:∃d,limit-st.1.size=d+1:=⟨limit-st.1.size-1,by lia⟩;have hd2:limit-(st.1.push k).size=d:=by rw [Array.size_push];lia
    simp only [hd,hd2,Array.toList_push,List.take_succ_cons,List.append_assoc,List.singleton_append]
   ·rw [if_neg λh=>hl h.1.1.1];refine (Wv x c limit m (k+1) (st.1,st.2) (by lia) (Nat.le_succ_of_le hf)).trans ?_;have hd2:limit-st.1.size=0:=by lia
    simp only [hd2,List.take_zero]
  ·rw [if_neg λh=>hc ((StrLaws.subAt_one x c k).mp ⟨h.1.2,h.2⟩)];refine (Wv x c limit m (k+1) (st.1,st.2) (by lia) (Nat.le_succ_of_le hf)).trans ?_;by_cases hk:k<x.cps.toList.length
   ·rw [List.drop_eq_getElem_cons hk];have hn:x.cps.toList[k]≠c:=λe=>hc (by rw [List.getElem?_eq_getElem hk,e]);rw [Gu,if_neg hn]
   ·rw [List.drop_eq_nil_of_le (by lia),List.drop_eq_nil_of_le (by lia)]
    rfl
theorem Os (x:Str)(c limit:Nat):Builtin.Str.occurrences x ⟨#[c]⟩ 0 x.length limit=(Gu c 0 x.cps.toList).take limit:=by
 rw [StrLaws.occ_eq];refine (Wv x c limit (x.length+1-0) 0 (#[],0) (by lia) (Nat.le_refl _)).trans ?_;simp
def GF (c:Nat):List Nat->List Nat->List (List Nat)
 | B,[]=>[B]
 | B,x::xs=>if x=c then B::GF c [] xs else GF c (B++[x]) xs
theorem U2 (c:Nat):∀(R A B:List Nat),((A.length::(Gu c (A.length+B.length) R).map (·+1)).zip (Gu c (A.length+B.length) R++[(A++B++R).length])).map (λp=>((A++B++R).take p.2).drop p.1)=GF c B R
 | [],A,B=>by
  simp [Gu,GF];rw [List.take_of_length_le (by simp)];simp
 | x::xs,A,B=>by
  unfold Gu GF;by_cases h:x=c
  ·subst h;rw [if_pos rfl,if_pos rfl];have ih:=U2 x xs (A++B++[x]) [];have e:A++B++[x]++[]++xs=A++B++x::xs:=by simp
   have e2:(A++B++[x]).length=A.length+B.length+1:=by simp [Nat.add_assoc]
   rw [e,e2] at ih;simp only [List.length_nil,Nat.add_zero] at ih;rw [List.map_cons,List.cons_append,List.zip_cons_cons,List.map_cons,ih]
   congr 1
   have:(A++B++x::xs).take (A.length+B.length)=A++B:=by
    rw [List.take_append_of_le_length (by simp),List.take_of_length_le (by simp)]
   show ((A++B++x::xs).take (A.length+B.length)).drop A.length=B;rw [this];simp
  ·rw [if_neg h,if_neg h];have ih:=U2 c xs A (B++[x]);have e:A++(B++[x])++xs=A++B++x::xs:=by simp
   have e2:(B++[x]).length=B.length+1:=by simp
   rw [e,e2] at ih;exact ih
def mkS (l:List Nat):Str:=⟨l.toArray⟩
theorem Of (x:Str)(i j:Nat):Builtin.Str.strSub x i j=mkS ((x.cps.toList.take j).drop i):=by
 unfold Builtin.Str.strSub mkS
 congr 1
 apply Array.ext';rw [Array.toList_extract];simp [List.extract_eq_take_drop,List.drop_take]
theorem Um (x:Str)(c:Nat):Builtin.Str.partsBetween x (Gu c 0 x.cps.toList) 1=(GF c [] x.cps.toList).map mkS:=by
 have h:=U2 c x.cps.toList [] [];simp only [List.length_nil,Nat.add_zero,List.nil_append] at h;unfold Builtin.Str.partsBetween;have hL:x.cps.toList.length=x.length:=Array.length_toList;rw [<-h,List.map_map,hL];refine List.map_congr_left λp _=>?_;exact Of x p.1 p.2
theorem OM {c:Nat}:∀{w:List Nat}{B R:List Nat},c ∉ w->GF c B (w++R)=GF c (B++w) R
 | [],B,R,_=>by simp
 | y::w,B,R,h=>by
  have hy:y≠c:=λe=>h (e▸List.mem_cons_self ..);rw [List.cons_append,GF,if_neg hy,OM (w:=w) (λe=>h (List.mem_cons_of_mem _ e))];simp
theorem Jq {c:Nat}:∀{ws:List (List Nat)}{w:List Nat},(∀v∈w::ws,c ∉ v)->GF c [] (w++ws.flatMap (λv=>c::v))=w::ws
 | [],w,h=>by
  rw [List.flatMap_nil,OM (h w (List.mem_cons_self ..))];simp [GF]
 | v::ws,w,h=>by
  rw [List.flatMap_cons,OM (h w (List.mem_cons_self ..)),List.cons_append,GF,if_pos rfl,Jq (λu hu=>h u (List.mem_cons_of_mem _ hu))];simp
theorem VT {x:Str}{c:Nat}(hc:c<256){w:List Nat}{ws:List (List Nat)}(hx:x.cps.toList=w++ws.flatMap (λv=>c::v))(h:∀v∈w::ws,c ∉ v):Txt.split x ⟨#[c]⟩=(w::ws).map mkS:=by
 have key:(GF c [] x.cps.toList).map mkS=(w::ws).map mkS:=by rw [hx,Jq h]
 have self:mkS x.cps.toList=x:=rfl;have none:Gu c 0 x.cps.toList=[]->[x]=(w::ws).map mkS:=by
  intro e;rw [<-key,<-Um,e];simp [Builtin.Str.partsBetween,Of];rw [List.take_of_length_le (by rw [Array.length_toList];exact Nat.le_refl _)];exact self.symm
 unfold Txt.split;split
 ·rename_i h1;rw [Bool.or_eq_true,decide_eq_true_eq,decide_eq_true_eq] at h1;refine none ?_;rcases h1 with h1 | h1
  ·have:x.cps.toList=[]:=by
    apply List.eq_nil_of_length_eq_zero;rw [Array.length_toList];have:x.length<1:=h1;have e:x.length=x.cps.size:=rfl
    lia
   rw [this];rfl
  ·exfalso;have k1:Builtin.Str.strKind ⟨#[c]⟩=1:=by unfold Builtin.Str.strKind;rw [if_pos (by simp;lia)]
   have k2:1<=Builtin.Str.strKind x:=by unfold Builtin.Str.strKind;split;lia;split <;> lia
   lia
 ·have hlim:Builtin.Str.occurrences x ⟨#[c]⟩ 0 x.length (x.length+1)=Gu c 0 x.cps.toList:=by
   rw [Os,List.take_of_length_le];have:=J9 c 0 x.cps.toList;rw [Array.length_toList] at this;exact Nat.le_succ_of_le this
  rw [hlim];split
  ·rename_i h2;exact none (List.isEmpty_iff.mp h2)
  ·exact (Um x c).trans key
theorem U3 {c:Nat}:∀{u:List Nat}{k:Nat}{v:List Nat},c ∉ u->Gu c k (u++c::v)=(k+u.length)::Gu c (k+u.length+1) v
 | [],k,v,_=>by simp [Gu]
 | y::u,k,v,h=>by
  have hy:y≠c:=λe=>h (e▸List.mem_cons_self ..);rw [List.cons_append,Gu,if_neg hy,U3 (λe=>h (List.mem_cons_of_mem _ e))];simp only [List.length_cons];rw [show k+1+u.length=k+(u.length+1) by lia]
theorem Y0 {x:Str}{c:Nat}{u v:List Nat}(hx:x.cps.toList=u++c::v)(h:c ∉ u):Txt.partition x ⟨#[c]⟩=(mkS u,⟨#[c]⟩,mkS v):=by
 unfold Txt.partition;rw [Os,hx,U3 h];simp only [List.take_succ_cons,List.take_zero,Nat.zero_add];have hL:x.length=u.length+(v.length+1):=by
  have e:x.cps.toList.length=x.length:=Array.length_toList;rw [<-e,hx];simp
 rw [Of,Of,hx,hL];have e1:(u++c::v).take u.length=u:=by rw [List.take_append_of_le_length (Nat.le_refl _),List.take_of_length_le (Nat.le_refl _)]
 have e2:((u++c::v).take (u.length+(v.length+1))).drop (u.length+(⟨#[c]⟩:Str).length)=v:=by
  rw [List.take_of_length_le (by simp)];show (u++c::v).drop (u.length+1)=v;rw [List.drop_append];simp
 rw [e1,e2,List.drop_zero]
end L2
namespace L2
open PySem PySem.Spec PyProof.Rows
def Its (x:Str):It:=⟨λi _=>i<x.cps.size,λi H v H'=>H'=H/\∃c,x.cps[i]?=some c/\v=.str ⟨#[c]⟩,λi _=>x.cps.size<=i⟩
theorem Y1 {P:Program}{w:World}{K:W.Frag}{tg:Expr}(it:Addr)(x:Str)(t:Tok):Zae P w K tg (Its x) [it] it (λi h=>h.IsStrIter it "str_ascii_iterator" x t i) where
 mem:=by simp
 obj:=λi h st b hb=>by
  have e:b=it:=by simpa using hb
  subst e;obtain ⟨o,e,c,d⟩:=st;exact ⟨o,e,λv z=>by rw [d] at z;cases z⟩
 keep:=λi h h' st k=>by
  obtain ⟨o,e,r⟩:=st;exact ⟨o,k it (by simp) o e,r⟩
 item:=by
  intro X hP hw hK hc i qQ s σ H E I hf st hg;subst hP hw hK;have hg:i<x.cps.size:=hg;obtain ⟨f0,f1,f2,f3,f4,f5⟩:=hf it (by simp);refine wpAny_pyNext_ascii_item st (c:=x.cps[i]) (by simp [hg]) λh' st' sb=>?_;have I1:Inv X qQ σ H { s with heap:=h',toks:=s.toks+1 }:=I.turned (λb o hb e=>(sb.2 b hb).trans e) f0 f1 f3 f4 f5;obtain ⟨o,e,c,d⟩:=id st';exact ⟨_,rfl,Xo (s:={ s with heap:=h',toks:=s.toks+1 }) e c d (by decide) ⟨.str ⟨#[x.cps[i]]⟩,H,I1,⟨_,rfl⟩,⟨rfl,x.cps[i],by simp [hg],rfl⟩,st',λb hb=>(hf b hb).1⟩⟩
 done:=by
  intro X hP hw hK hc i qQ s σ H E I hf st hg;subst hP hw hK;obtain ⟨f0,f1,f2,f3,f4,f5⟩:=hf it (by simp);have hg:x.cps.size<=i:=hg;exact wpAny_pyNext_ascii_end (I.ok.hd hc) st (by simp;lia) λh' eb=>⟨rfl,I.turned (t':=s.toks) (λb o hb e=>eb b o hb e) f0 f1 f3 f4 f5⟩
 self:=λ_ _ _ _ _ st h=>wpAny_pyIter_striter_ascii st h
section
variable {X:Cx}{tg:Expr}
def Ze1 (tl:TE):TI:=λσ H R=>tl σ H λv H1=>∃x:Str,v=.str x/\x.cps.all (·<128)=true/\R (Its x) H1
theorem ZN {l:Expr}{tl:TE}(hl:PE X l tl):PI X tg l (Ze1 tl):=by
 intro qQ s σ H R I h;refine thn (hl qQ s σ H _ I h) λv s1 ⟨x,H1,I1,r1,q1⟩=>?_;obtain ⟨y,e,ha,q⟩:=q1;subst e;obtain ⟨t,rfl⟩:=r1;refine wpAny_pyIter_ascii ha ?_;refine ⟨s1.heap.objs.size,[s1.heap.objs.size],_,_,H1,rfl,I1.kept (t':=s1.toks) λb o e=>Heap.get?_push_of_some _ e,Y1 _ y t,⟨_,Heap.get?_push_size _ rfl,rfl,rfl⟩,λb hb=>?_,q⟩;have e:b=s1.heap.objs.size:=by simpa using hb
 subst e;exact I1.fpOk (Nat.le_refl _) (I1.hok.fresh (Nat.le_refl _))
theorem Y2 {x:Str}{D:Addr}{g:TG}{tc:TT}{te:TE}{σ0:St}{R:Hp->Prop}{H1:Hp}(Pv:Nat->List V->Hp->Prop)(h0:Pv 0 [] (upd H1 D (.lst [])))(hs:∀i c ys H,x.cps[i]?=some c->Pv i ys H->g (.str ⟨#[c]⟩) σ0 H λσ4 H4=>OV σ0 σ4/\tc σ4 H4 λb H5=>if b=true then te σ4 H5 λy H6=>H6 D=some (.lst ys)/\ys.length<sizeLine/\Pv (i+1) (ys++[y]) (upd H6 D (.lst (ys++[y]))) else Pv (i+1) ys H5)(hd:∀ys H,Pv x.cps.size ys H->R H):∃W:Nat->Nat->List V->Hp->Prop,(∃m,W 0 m [] (upd H1 D (.lst [])))/\JW (Its x) D g tc te σ0 W R:=by
 refine ⟨λi m ys H=>m=x.cps.size-i/\i<=x.cps.size/\Pv i ys H,⟨_,rfl,Nat.zero_le _,h0⟩,?_⟩;rintro i m ys H ⟨rfl,hi,p⟩;by_cases hlt:i<x.cps.size
 ·refine .inr ⟨hlt,Pv (i+1),λys' H' p'=>⟨x.cps.size-(i+1),by lia,rfl,hlt,p'⟩,λv H' y=>?_⟩;obtain ⟨e,c,hc,rfl⟩:=y;subst e;exact hs i c ys _ hc p
 ·have e:i=x.cps.size:=by lia
  subst e;exact .inl ⟨Nat.le_refl _,hd ys H p⟩
theorem Ze2:OpR X (compareOp .In) (λx y H Q=>∃(c:Nat)(b:Str),x=.str ⟨#[c]⟩/\y=.str b/\Q (.bl (decide (c∈b.cps.toList))) H):=by
 intro qQ s σ H x y v u Q I rx ry h;obtain ⟨c,b,rfl,rfl,q⟩:=h;obtain ⟨t,rfl⟩:=rx;obtain ⟨t',rfl⟩:=ry;refine P.in_str ?_;rw [StrLaws.found_one];exact ⟨.bl _,H,I,rfl,q⟩
end
end L2
namespace L2
open PySem PySem.Spec PyProof.Rows
variable {X:Cx}
theorem U4 (z:Str)(lo hi:Option Int):(StrLaws.sliceText z lo hi).length<=z.length/\∀c∈(StrLaws.sliceText z lo hi).cps.toList,c∈z.cps.toList:=by
 refine ⟨PyProof.Txt.length_slice_le z lo hi,?_⟩;unfold StrLaws.sliceText;split
 ·exact λc h=>h
 ·intro c h;have h:c∈List.filterMap (λi=>z.cps[i]?) (Builtin.Str.strSliceIndices lo hi 1 z.length):=h;obtain ⟨i,_,e⟩:=List.mem_filterMap.mp h;obtain ⟨h1,h2⟩:=Array.getElem?_eq_some_iff.mp e;rw [<-h2];simp
theorem VM:SlR X (λx lo hi H Q=>∃z:Str,x=.str z/\z.length<=sizeLine/\Q (.str (StrLaws.sliceText z lo hi)) H):=by
 intro qQ s σ H x v vl vu lo hi sl Q I rx hs pl pu h;obtain ⟨z,rfl,hz,q⟩:=h;obtain ⟨t,rfl⟩:=rx;refine ⟨"str", _,PyProof.Rows.slot_str_getitem.lookup,typeIs_str _ _ _,?_⟩;have key:∀(l u:Option (Int×Tok)),vl=partValue l->vu=partValue u->lo=l.map (·.1)->hi=u.map (·.1)->wpAny (model X.prog X.w) X.A (getItem (.str z t) (.ref sl)) (EP X qQ σ Q) X.xe s:=by
  intro l u e1 e2 e3 e4;subst e1 e2 e3 e4;refine wpAny_getItem_str_slice (l:=l) (u:=u) (st:=none) hs rfl ?_;have fin:∀(y:Str)(t':Tok)(k:Nat),y=StrLaws.sliceText z (l.map (·.1)) (u.map (·.1))->EP X qQ σ Q (.str y t') { s with toks:=k }:=λy t' k e=>⟨.str y,H,I.tok _,⟨_,rfl⟩,e▸q⟩;unfold sliceMade;split
  ·rename_i hc;rw [Made.post.eq_1];exact fin z t s.toks (if_pos hc).symm
  ·rename_i hc;have e:(⟨(List.filterMap (λi=>z.cps[i]?) (slicePicked z l u none)).toArray⟩:Str)=StrLaws.sliceText z (l.map (·.1)) (u.map (·.1)):=(if_neg hc).symm;rw [Made.post.eq_3];exact ⟨by rw [e];exact Nat.le_trans (U4 z _ _).1 hz,fin _ _ _ e⟩
 cases pl <;> cases pu
 ·exact key none none rfl rfl rfl rfl
 ·exact key none (some (_,_)) rfl rfl rfl rfl
 ·exact key (some (_,_)) none rfl rfl rfl rfl
 ·exact key (some (_,_)) (some (_,_)) rfl rfl rfl rfl
theorem XU (x y z:Str)(t u v t1: Tok)(hu:u≠0)(hv:v≠0)(huv:u≠v)(hyz:y≠z)(hy:0<y.length)(hl:x.length+z.length<=sizeLine)(hc:(Builtin.Str.occurrences x y 0 x.length 1).length<=1):Gives (Builtin.«str.replace» { pos:=[Value.str x t,Value.str y u,Value.str z v,Value.int 1 t1] })
  (if (Builtin.Str.occurrences x y 0 x.length 1).isEmpty=true then Made.val (.str x t) else Made.str (Builtin.Str.glued z (Builtin.Str.partsBetween x (Builtin.Str.occurrences x y 0 x.length 1) y.length))):=by
 intro prog w A R s h;unfold Builtin.«str.replace»;unfold Builtin.Str.strSelf Builtin.Str.bindOptional;have hn:¬ (y.length=0/\z.length=0):=by lia
 simp [Builtin.Str.textOf,Builtin.Str.strArg,asStr?,Builtin.Str.countLimit,Builtin.Str.asSsize,asIndex,asInt?,isSame,isSame.created,hu,hv,huv,hyz,Builtin.Str.strUnchanged,Builtin.Str.isExactStr];by_cases e:Builtin.Str.occurrences x y 0 x.length 1=[]
 ·rw [if_pos (.inl e)];rw [if_pos (by rw [e];rfl)] at h;exact wpAny_bind (wpAny_rule (wpAny_pure h))
 ·rw [if_neg (by rintro (h | h);exact e h;exact hn h)];rw [if_neg (by rw [List.isEmpty_iff];exact e),Made.post.eq_3] at h;rw [if_neg (by
   unfold Builtin.Str.tooLong;rw [decide_eq_true_eq];have:(Builtin.Str.occurrences x y 0 x.length 1).length * z.length<=1 * z.length:=Nat.mul_le_mul_right _ hc
   lia)]
  unfold retStr;exact wpAny_bind (wpAny_mkStr (wpAny_pure h.2) h.1)
theorem Y3 (x z:Str)(c:Nat):((Builtin.Str.occurrences x ⟨#[c]⟩ 0 x.length 1).isEmpty=false)->∃u v:List Nat,x.cps.toList=u++c::v/\Builtin.Str.glued z (Builtin.Str.partsBetween x (Builtin.Str.occurrences x ⟨#[c]⟩ 0 x.length 1) 1)=mkS (u++z.cps.toList++v):=by
 rw [Os];intro h;have hm:c∈x.cps.toList:=by
  refine Classical.byContradiction λhn=>?_;have:∀(l:List Nat)(k:Nat),c ∉ l->Gu c k l=[]:=by
   intro l
   induction l with
   | nil=>intro k _;rfl
   | cons y l ih=>
    intro k hy;rw [Gu,if_neg (λe:y=c=>hy (by rw [e];exact List.mem_cons_self ..)),ih _ (λe=>hy (List.mem_cons_of_mem _ e))]
  rw [this _ _ hn] at h;cases h
 obtain ⟨u,v,hx,hu⟩:=List.append_of_mem hm |>.elim λs ⟨t,e⟩=>(show ∃u v,x.cps.toList=u++c::v/\c ∉ u from by
  have:∀(l:List Nat),c∈l->∃u v,l=u++c::v/\c ∉ u:=by
   intro l
   induction l with
   | nil=>intro h;cases h
   | cons y l ih=>
    intro h;by_cases e:y=c
    ·exact ⟨[],l,by rw [e];rfl,by simp⟩
    ·obtain ⟨u,v,e1,e2⟩:=ih ((List.mem_cons.mp h).resolve_left (λz=>e z.symm));exact ⟨y::u,v,by rw [e1];rfl,λz=>(List.mem_cons.mp z).elim (λz=>e z.symm) e2⟩
  exact this _ hm)
 refine ⟨u,v,hx,?_⟩;rw [hx,U3 hu];simp only [List.take_succ_cons,List.take_zero,Nat.zero_add];have hL:x.length=u.length+(v.length+1):=by
  have e:x.cps.toList.length=x.length:=Array.length_toList;rw [<-e,hx];simp
 unfold Builtin.Str.partsBetween;simp only [List.map_cons,List.map_nil,List.cons_append,List.nil_append,List.zip_cons_cons,List.zip_nil_right,Of,hx,hL];have e1:((u++c::v).take u.length).drop 0=u:=by rw [List.drop_zero,List.take_append_of_le_length (Nat.le_refl _),List.take_of_length_le (Nat.le_refl _)]
 have e2:((u++c::v).take (u.length+(v.length+1))).drop (u.length+1)=v:=by
  rw [List.take_of_length_le (by simp)];rw [List.drop_append];simp
 rw [e1,e2];unfold Builtin.Str.glued;simp [mkS]
def PEq (X:Cx)(e:Expr)(te:TE):Prop:=∀(qQ:List (Addr×Obj))(s:Shared)(σ:St)(H:Hp)(Q:VK),Inv X qQ σ H s->0<s.toks->te σ H Q->wpAny (model X.prog X.w) X.A (eval e X.env) (EP X qQ σ Q) X.xe s
def PEp (X:Cx)(e:Expr)(te:TE):Prop:=∀(qQ:List (Addr×Obj))(s:Shared)(σ:St)(H:Hp)(Q:VK),Inv X qQ σ H s->te σ H Q->wpAny (model X.prog X.w) X.A (eval e X.env) (λv s'=>0<s'.toks/\EP X qQ σ Q v s') X.xe s
theorem ZO {i:Nat}{x:Str}{pos:Pos}{qQ:List (Addr×Obj)}{s:Shared}{σ:St}{H:Hp}{v:V}{R:Value->Shared->Prop}(I:Inv X qQ σ H s)(e:σ[i]?=some (some v))(hN:X.N[i]?=some x)(hv:Vis X.env.scope x)(hd:(x == ("__debug__" : Str))=false)(hcd:(x == ("__classdict__" : Str))=false)(fin:∀u,RelV v u->R u s):wpAny (model X.prog X.w) X.A (eval (.Name x pos) X.env) R X.xe s:=by
 obtain ⟨m,hn,hl⟩:=I.loc;obtain ⟨u,r,l⟩:=hl i x v hN e hv;rcases l with ⟨hk,hm⟩ | ⟨hk,c,hc,qU⟩
 ·exact wpAny_Name (wpAny_loadName_local I.ok.kind hk hn hm (fin u r)) hd
 ·rcases hk with hk | hk
  ·exact wpAny_Name (wpAny_loadName_cell I.ok.kind hk hc qU (fin u r)) hd
  ·exact wpAny_Name (wpAny_loadName_free I.ok.kind hk hc qU (fin u r) hcd) hd
end L2
namespace L2
open PySem PySem.Spec PyProof.Rows
theorem U5 {α:Type}{t:Sem α}{Q Q':α->Shared->Prop}{M:Model}{A:Around}{E:Value->Shared->Prop}{s:Shared}(hs:0<s.toks)(h:wpAny M A t Q E s)(k:∀a s',0<s'.toks->Q a s'->Q' a s'):wpAny M A t Q' E s:=
 wpAny_with_toks (n:=1) hs (wpAny_mono h (λa s' q hn=>k a s' hn q) λ_ _ x _=>x)
section
variable (X:Cx)
def PTq (e:Expr)(t:TT):Prop:=∀(qQ:List (Addr×Obj))(s:Shared)(σ:St)(H:Hp)(Q:Bool->Hp->Prop),Inv X qQ σ H s->0<s.toks->t σ H Q->wpAny (model X.prog X.w) X.A (isTrue e X.env (eval e X.env)) (TP X qQ σ Q) X.xe s
def PWq (e:Expr)(t:TT):Prop:=∀(whole:Sem Value)(qQ:List (Addr×Obj))(s:Shared)(σ:St)(H:Hp)(Q:Bool->Hp->Prop),Inv X qQ σ H s->0<s.toks->t σ H Q->wpAny (model X.prog X.w) X.A (isTrue e X.env whole) (TP X qQ σ Q) X.xe s
def PAq (es:List Expr)(t:TA):Prop:=∀(pos:Pos)(qQ:List (Addr×Obj))(s:Shared)(σ:St)(H:Hp)(Q:List V->Hp->Prop),Inv X qQ σ H s->0<s.toks->t σ H Q->wpAny (model X.prog X.w) X.A (spliced (backTo pos (starEach es X.env))) (AP X qQ σ Q) X.xe s
def PAp (es:List Expr)(t:TA):Prop:=∀(pos:Pos)(qQ:List (Addr×Obj))(s:Shared)(σ:St)(H:Hp)(Q:List V->Hp->Prop),Inv X qQ σ H s->t σ H Q->wpAny (model X.prog X.w) X.A (spliced (backTo pos (starEach es X.env))) (λus s'=>0<s'.toks/\AP X qQ σ Q us s') X.xe s
def PSq (st:Stmt)(t:TS):Prop:=∀(qQ:List (Addr×Obj))(s:Shared)(σ:St)(H:Hp)(D:Vf),Inv X qQ σ H s->0<s.toks->t D σ H->wpAny (model X.prog X.w) X.A (exec st X.env) (SP X qQ D) X.xe s
def PSp (st:Stmt)(t:TS):Prop:=∀(qQ:List (Addr×Obj))(s:Shared)(σ:St)(H:Hp)(D:Vf),Inv X qQ σ H s->t D σ H->wpAny (model X.prog X.w) X.A (exec st X.env) (λf s'=>0<s'.toks/\SP X qQ D f s') X.xe s
def PSsq (st:List Stmt)(t:TS):Prop:=∀(qQ:List (Addr×Obj))(s:Shared)(σ:St)(H:Hp)(D:Vf),Inv X qQ σ H s->0<s.toks->t D σ H->wpAny (model X.prog X.w) X.A (execs st X.env) (SP X qQ D) X.xe s
def PIq (tg iter:Expr)(wi:TI):Prop:=∀(qQ:List (Addr×Obj))(s:Shared)(σ:St)(H:Hp)(R:It->Hp->Prop),Inv X qQ σ H s->0<s.toks->wi σ H R ->
  wpAny (model X.prog X.w) X.A (eval iter X.env) (λv s1=>wpAny (model X.prog X.w) X.A (pyIter v) (PIE X qQ σ tg R) X.xe s1) X.xe s
def PIt (c:Shared->Prop)(tg iter:Expr)(wi:TI):Prop:=∀(qQ:List (Addr×Obj))(s:Shared)(σ:St)(H:Hp)(R:It->Hp->Prop),Inv X qQ σ H s->c s->wi σ H R ->
  wpAny (model X.prog X.w) X.A (eval iter X.env) (λv s1=>wpAny (model X.prog X.w) X.A (pyIter v) (λi s2=>0<s2.toks/\PIE X qQ σ tg R i s2) X.xe s1) X.xe s
end
section
variable {X:Cx}{a b e:Expr}{es rest:List Expr}{ta tb te:TE}{tA tB':TT}{t:TA}{pos:Pos}{st:Stmt}{sts:List Stmt}{ts us:TS}
theorem PE.q (h:PE X e te):PEq X e te:=λqQ s σ H Q I _ q=>h qQ s σ H Q I q
theorem PT.q (h:PT X e tA):PTq X e tA:=λqQ s σ H Q I _ q=>h qQ s σ H Q I q
theorem PA.q (h:PA X es t):PAq X es t:=λpos qQ s σ H Q I _ q=>h pos qQ s σ H Q I q
theorem PS.q (h:PS X st ts):PSq X st ts:=λqQ s σ H D I _ q=>h qQ s σ H D I q
theorem PSs.q (h:PSs X sts ts):PSsq X sts ts:=λqQ s σ H D I _ q=>h qQ s σ H D I q
theorem ZaF (h:PEq X e te)(he:∀whole,isTrue e X.env whole=(do let v <- whole;standAt e.pos;holding [v] (truthy v)):=by intro _;rfl):PTq X e (tB te):=by
 intro qQ s σ H Q I hs hw;refine isTrue_plain (thn (h qQ s σ H _ I hs hw) λv s1 ⟨x,H1,I1,r1,q1⟩=>?_) (he _);obtain ⟨d,rfl,q⟩:=q1;cases r1;exact wpAny_truthy_bool ⟨H1,I1,q⟩
theorem ZaG (ha:PTq X a tA):PTq X (.UnaryOp .Not a pos) (Zeq tA):=λqQ s σ H Q I hs h=>isTrue_not (ha qQ s σ H (λc H1=>Q (!c) H1) I hs h)
theorem ZaH (ha:PTq X a tA):PWq X (.BoolOp .Or [a] pos) tA:=by
 intro wh qQ s σ H Q I hs h;refine isTrue_or (thn (ha qQ s σ H Q I hs h) λc s1 e=>?_);cases c with
 | false=>exact isTrue_or_nil e
 | true=>exact e
theorem Zcr (ha:PTq X a tA)(hb:PWq X (.BoolOp .Or (b::rest) pos) tB'):PWq X (.BoolOp .Or (a::b::rest) pos) (tOr tA tB'):=by
 intro wh qQ s σ H Q I hs h;refine isTrue_or (U5 hs (ha qQ s σ H _ I hs h) λc s1 hs1 ⟨H1,I1,q1⟩=>?_);cases c with
 | true=>exact ⟨H1,I1,q1⟩
 | false=>exact hb wh qQ s1 σ H1 Q I1 hs1 q1
theorem PWq.pt (h:PWq X e tA):PTq X e tA:=h _
theorem XV {c:Expr}(hc:PTq X c tA)(ha:PEq X a ta)(hb:PEq X b tb):PEq X (.IfExp c a b pos) (tIf tA ta tb):=by
 intro qQ s σ H Q I hs h;refine wpAny_IfExp (U5 hs (hc qQ s σ H _ I hs h) λd s1 hs1 ⟨H1,I1,q1⟩=>?_);cases d with
 | true=>exact ha qQ s1 σ H1 Q I1 hs1 q1
 | false=>exact hb qQ s1 σ H1 Q I1 hs1 q1
theorem Ze3 (ha:PE X e te)(hr:PAp X es t)(hs:starEach (e::es) X.env=(false,eval e X.env)::starEach es X.env:=by rfl):PAp X (e::es) (JQ te t):=by
 intro pos qQ s σ H Q I h;rw [hs];show wpAny _ _ (spliced ((false,eval e X.env)::backTo pos (starEach es X.env))) _ _ s;refine Calls.spliced_cons (thn (ha qQ s σ H _ I h) λu s1 ⟨x,H1,I1,r1,q1⟩=>?_);exact thn (hr pos qQ s1 σ H1 _ I1 q1) λus s2 ⟨hp,xs,H2,I2,r2,q2⟩=>⟨hp,x::xs,H2,I2,.cons r1 r2,q2⟩
theorem ZdX {i:Int}{j:Nat}{p1:Pos}(hr:PA X es t)(hs:starEach (.Constant (.int i) j p1::es) X.env=(false,eval (.Constant (.int i) j p1) X.env)::starEach es X.env:=by rfl):PAp X (.Constant (.int i) j p1::es) (JQ (tC (.int i)) t):=by
 intro pos qQ s σ H Q I h;rw [hs];show wpAny _ _ (spliced ((false,eval (.Constant (.int i) j p1) X.env)::backTo pos (starEach es X.env))) _ _ s;refine Calls.spliced_cons (wpAny_Constant_int ?_);have h1:(0:Nat)<s.toks+1:=Nat.succ_pos _;refine U5 (s:={ s with toks:=s.toks+1 }) h1 (hr pos qQ { s with toks:=s.toks+1 } σ H _ (I.tok _) h) λus s2 hp ⟨xs,H2,I2,r2,q2⟩=>⟨hp,V.int i::xs,H2,I2,.cons ⟨_,rfl⟩ r2,q2⟩
end
structure J3 (P:Program)(w:World)(K:W.Frag)(mg:Str->Option Value)(base:Heap)(CX:CXT)(k:Nat)(f:Addr)(fd:FuncData)(ps:List Str)(sp:Sp):Prop where
 len:∀vs H Q E,sp vs H Q E->vs.length=ps.length
 run:∀(A:Around)(outer:List Env)(s:Shared)(H:Hp)(args:Args)(us:List Value)(vs:List V)(Q:VK)(E:XK),0<s.toks->Room k A->Zam P w K mg base A outer s H->BindsTo s fd args (ps.zip us)->Vals vs us->sp vs H Q E ->
  codeAny (model P w) A (.call (.ref f) args) (CR CX outer P w H s Q E) s
section
variable {X:Cx}{CX:CXT}{k:Nat}{f:Addr}{fd:FuncData}{ps:List Str}{sp:Sp}{dvs:List V}{ds:List Value}{E:XK}{x:Str}{p pos:Pos}{e:Expr}{es:List Expr}{t:TA}
theorem ZaI {qQ:List (Addr×Obj)}{σ:St}{H:Hp}{s:Shared}{Q:VK}{us:List Value}{vs:List V}(F:J3 X.prog X.w X.K X.mg X.base CX k f fd ps sp)(hr:Room k X.A)(hb:Binds X.K fd ps ds)(hd:Vals dvs ds)(hx:OU CX X E)(I:Inv X qQ σ H s)(h0:0<s.toks)(r:Vals vs us)(h:sp (vs++dvs) H Q E):wpAny (model X.prog X.w) X.A (call (.ref f) us) (EP X qQ σ Q) X.xe s:=by
 have r2:Vals (vs++dvs) (us++ds):=r.append hd;have hl:(us++ds).length=ps.length:=by rw [<-r2.length];exact F.len _ _ _ _ h
 refine wpAny_call (codeAny_mono (F.run X.A X.stack s H ⟨us,[]⟩ (us++ds) (vs++dvs) Q E h0 hr I.env0 (hb s us I.kIn hl) r2 h) λr s' hq=>?_);cases r with
 | error e=>exact hx qQ σ H s e s' I hq
 | ok fl=>
  cases fl with
  | ret u=>exact I.after hq
  | next=>exact False.elim hq
  | brk=>exact False.elim hq
  | cont=>exact False.elim hq
theorem O7 (F:J3 X.prog X.w X.K X.mg X.base CX k f fd ps sp)(hr:Room k X.A)(hg:Gl X x)(hm:X.mg x=some (.ref f))(hk:W.keepIn X.K (.ref f)=true)(hb:Binds X.K fd ps ds)(hd:Vals dvs ds)(hx:OU CX X E)(ha:PAq X (e::es) t)(hdb:(x == ("__debug__" : Str))=false:=by decide)(he:starEach (e::es) X.env=(false,eval e X.env)::starEach es X.env:=by rfl)(hpl:(backTo pos (starEach es X.env)).any (·.1)=false:=by rfl) :
  PEq X (.Call (.Name x p) (e::es) [] pos) (VP sp dvs E t):=by
 intro qQ s σ H Q I h0 h;refine wpAny_Call_Name_kw (Oo I hg hm ?_ hdb);refine W.callWith_K (h₀:=X.base) I.ok.mod.kin hk (U5 h0 (ha pos qQ s σ H _ I h0 h) λus s1 h1 ⟨vs,H1,I1,r,q⟩=>⟨I1.kIn,?_⟩) he hpl;exact ZaI F hr hb hd hx I1 h1 r q
theorem Y4 (F:Jl X.prog X.w X.K X.mg X.base CX k f fd ps sp)(hr:Room k X.A)(hg:Gl X x)(hm:X.mg x=some (.ref f))(hk:W.keepIn X.K (.ref f)=true)(hb:Binds X.K fd ps ds)(hd:Vals dvs ds)(hx:OU CX X E)(ha:PAp X (e::es) t)(hdb:(x == ("__debug__" : Str))=false:=by decide)(he:starEach (e::es) X.env=(false,eval e X.env)::starEach es X.env:=by rfl)(hpl:(backTo pos (starEach es X.env)).any (·.1)=false:=by rfl) :
  PEp X (.Call (.Name x p) (e::es) [] pos) (VP sp dvs E t):=by
 intro qQ s σ H Q I h;refine wpAny_Call_Name_kw (Oo I hg hm ?_ hdb);refine W.callWith_K (h₀:=X.base) I.ok.mod.kin hk (thn (ha pos qQ s σ H _ I h) λus s1 ⟨h1,vs,H1,I1,r,q⟩=>⟨I1.kIn,?_⟩) he hpl;exact U5 h1 (We F hr hb hd hx I1 r q) λv s2 h2 z=>⟨h2,z⟩
end
section
variable {X:Cx}{pos:Pos}{st:Stmt}{sts:List Stmt}{ts us:TS}{e:Expr}{te:TE}{tg:Expr}
theorem Gv (h1:PSq X st ts)(h2:PSsq X sts us):PSsq X (st::sts) (ZbQ ts us):=by
 intro qQ s σ H D I h0 h;refine wpAny_execs_cons (U5 h0 (h1 qQ s σ H { D with nx:=us D } I h0 h) λf s1 h1' q=>?_);cases f with
 | next=>
  obtain ⟨σ',H',I',q⟩:=q;exact h2 qQ s1 σ' H' D I' h1' q
 | ret v=>exact q
 | brk=>exact q
 | cont=>exact q
theorem XW (h1:PSp X st ts)(h2:PSsq X sts us):PSs X (st::sts) (ZbQ ts us):=by
 intro qQ s σ H D I h;refine wpAny_execs_cons (thn (h1 qQ s σ H { D with nx:=us D } I h) λf s1 ⟨h1',q⟩=>?_);cases f with
 | next=>
  obtain ⟨σ',H',I',q⟩:=q;exact h2 qQ s1 σ' H' D I' h1' q
 | ret v=>exact q
 | brk=>exact q
 | cont=>exact q
theorem O8 (h1:PSq X st ts):PSsq X [st] ts:=by
 intro qQ s σ H D I h0 h;refine wpAny_execs_cons (thn (h1 qQ s σ H D I h0 h) λf s1 q=>?_);cases f with
 | next=>exact wpAny_execs_nil q
 | ret v=>exact q
 | brk=>exact q
 | cont=>exact q
theorem Ww {c:Expr}{a b:List Stmt}{tc:TT}(hc:PTq X c tc)(ha:PSsq X a ts)(hb:PSsq X b us):PSq X (.If c a b pos) (ZdB tc ts us):=by
 intro qQ s σ H D I h0 h;refine wpAny_If (U5 h0 (hc qQ s σ H _ I h0 h) λd s1 h1 ⟨H1,I1,q1⟩=>?_);cases d with
 | true=>exact ha qQ s1 σ H1 D I1 h1 q1
 | false=>exact hb qQ s1 σ H1 D I1 h1 q1
theorem ZaJ (he:PEq X e te):PSq X (.Return (some e) pos) (ZE te):=by
 intro qQ s σ H D I h0 h;exact wpAny_Return_some (thn (he qQ s σ H _ I h0 h) λv s1 ⟨x,H1,I1,r1,q1⟩=>⟨x,σ,H1,I1,r1,q1⟩)
theorem XX {i:Nat}{x:Str}{pos':Pos}(hN:X.N.Nodup)(hi:X.N[i]?=some x)(hx:Loc X.env.scope x)(he:PEq X e te)(hs:swapsWith e (some (.Name x pos')) pos.line X.env=pure false:=by rfl)(hf:X.fn x=true\/X.env.scope.names.lookup x=some .local:=by first | exact .inl rfl | exact .inr rfl | assumption) :
  PSq X (.Assign [.Name x pos'] e pos) (Zad te (JN i)):=by
 intro qQ s σ H D I h0 h;refine wpAny_Assign_Name (thn (he qQ s σ H _ I h0 h) λv s1 ⟨y,H1,I1,r1,q1⟩=>?_) hs;exact JX I1 hN hi hx r1 (λs2 I2=>⟨_,H1,I2,q1⟩) hf
theorem ZaK {i:Nat}{x:Str}{pos':Pos}(hN:X.N.Nodup)(hi:X.N[i]?=some x)(hx:Loc X.env.scope x)(he:PEp X e te)(hs:swapsWith e (some (.Name x pos')) pos.line X.env=pure false:=by rfl)(hf:X.fn x=true\/X.env.scope.names.lookup x=some .local:=by first | exact .inl rfl | exact .inr rfl | assumption) :
  PSp X (.Assign [.Name x pos'] e pos) (Zad te (JN i)):=by
 intro qQ s σ H D I h;refine wpAny_Assign_Name (thn (he qQ s σ H _ I h) λv s1 ⟨h1,y,H1,I1,r1,q1⟩=>?_) hs;exact U5 h1 (JX (Q:=λ_ s2=>SP X qQ D .next s2) I1 hN hi hx r1 (λs2 I2=>⟨_,H1,I2,q1⟩) hf) λ_ s2 h2 z=>⟨h2,z⟩
theorem PIq.t {iter:Expr}{wi:TI}(hi:PIq X tg iter wi):PIt X (λs=>0<s.toks) tg iter wi:=λqQ s σ H R I h0 h=>U5 h0 (hi qQ s σ H R I h0 h) λv s1 h1 q=>U5 h1 q λi s2 h2 z=>⟨h2,z⟩
theorem ZaL {c:Shared->Prop}{iter:Expr}{body:List Stmt}{wi:TI}{g:TG}{tb:TS}(hp:PassesOwn (model X.prog X.w) X.A X.env X.xe)(hc:X.calm=true)(hi:PIt X c tg iter wi)(hg:PG X tg g)(hb:PSsq X body tb)(hs:∀x,foldedSetIterable iter X.env x=pure x:=by intro _;rfl){qQ:List (Addr×Obj)}{s:Shared}{σ:St}{H:Hp}{D:Vf}(I:Inv X qQ σ H s)(h0:c s)(h:ZdO wi g tb D σ H):wpAny (model X.prog X.w) X.A (exec (.For tg iter body [] pos) X.env) (SP X qQ D) X.xe s:=by
 refine wpAny_For (thn (hi qQ s σ H _ I h0 h) λv s1 h1=>thn h1 λitv s2 ⟨k2,h2⟩=>?_) hs;obtain ⟨it,fp,tn,J,H2,e,I2,T,st2,f2,W,⟨m0,w0⟩,turn⟩:=h2;subst e;have stat:∀{H':Hp},(∀b∈fp,H' b=none)->∀b∈fp,Xn X qQ H' b:=λhn b hb=>⟨hn b hb,(f2 b hb).2⟩;refine codeAny_forLoop_any (λn s'=>0<s'.toks/\∃i σ' H',Inv X qQ σ' H' s'/\tn i s'.heap/\(∀b∈fp,H' b=none)/\W i n σ' H') ?_ m0 ⟨k2,0,σ,H2,I2,st2,λb hb=>(f2 b hb).1,w0⟩;rintro n s3 ⟨k3,i,σ3,H3,I3,st3,fr3,w3⟩;rcases turn i n σ3 H3 w3 with ⟨stop,qn⟩ | ⟨go,N,hN,step⟩
 ·refine wpAny_passesOwn hp (thn (T.done X rfl rfl rfl hc i qQ s3 σ3 H3 X.xe I3 (stat fr3) st3 stop) λr s4 ⟨hr,I4⟩=>?_);subst hr;exact wpAny_execs_nil ⟨σ3,H3,I4,qn⟩
 ·refine wpAny_passesOwn hp (U5 k3 (T.item X rfl rfl rfl hc i qQ s3 σ3 H3 X.xe I3 (stat fr3) st3 go) λr s4 k4 ⟨u,hr,h4⟩=>?_);subst hr;refine wpAny_passesOwn hp (U5 k4 h4 λ_ s5 k5 ⟨x,H5,I5,r5,y5,st5,fr5⟩=>?_);have I5':=I5.pinned (stat fr5) (T.obj _ _ st5);refine wpAny_passesOwn hp (U5 k5 (hg _ s5 σ3 H5 x u _ I5' r5 (step x H5 y5)) λ_ s6 k6 ⟨σ6,H6,I6,q6⟩=>?_);refine wpAny_passesOwn hp (U5 k6 (hb _ s6 σ6 H6 _ I6 k6 q6) λf s7 k7 q7=>?_);have again:∀{σ7:St}{H7:Hp},Inv X (qQ++UG fp s5.heap) σ7 H7 s7->N σ7 H7->∃m,m<n/\0<s7.toks/\∃i σ' H',Inv X qQ σ' H' s7/\tn i s7.heap/\(∀b∈fp,H' b=none)/\W i m σ' H':=λ{σ7 H7} I7 n7=>by
   obtain ⟨m',hm,w7⟩:=hN σ7 H7 n7;refine ⟨m',hm,k7,i+1,σ7,H7,I7.unpinned,T.keep _ _ _ st5 λb hb o e=>(I7.pin (b,o) (List.mem_append_right _ (List.mem_append_right _ (JG hb e)))).1,λb hb=>?_,w7⟩;obtain ⟨o,e,d⟩:=T.obj _ _ st5 b hb;exact (I7.pin (b,o) (List.mem_append_right _ (List.mem_append_right _ (JG hb e)))).2.1
  cases f with
  | next=>obtain ⟨σ7,H7,I7,n7⟩:=q7;exact again I7 n7
  | cont=>obtain ⟨σ7,H7,I7,n7⟩:=q7;exact again I7 n7
  | brk=>obtain ⟨σ7,H7,I7,q7⟩:=q7;exact ⟨σ7,H7,I7.unpinned,q7⟩
  | ret v=>obtain ⟨x7,σ7,H7,I7,r7,q7⟩:=q7;exact ⟨x7,σ7,H7,I7.unpinned,r7,q7⟩
theorem ZaM {iter:Expr}{body:List Stmt}{wi:TI}{g:TG}{tb:TS}(hp:PassesOwn (model X.prog X.w) X.A X.env X.xe)(hc:X.calm=true)(hi:PIq X tg iter wi)(hg:PG X tg g)(hb:PSsq X body tb)(hs:∀x,foldedSetIterable iter X.env x=pure x:=by intro _;rfl):PSq X (.For tg iter body [] pos) (ZdO wi g tb):=
 λqQ s σ H D I h0 h=>ZaL hp hc hi.t hg hb hs I h0 h
theorem Y5 {l:Expr}{tl:TE}(hl:PEq X l tl)(K:W.Frag)(hK:X.K=K:=by rfl):PIq X tg l (Zaf K tl):=by
 subst hK;intro qQ s σ H R I h0 h;refine thn (hl qQ s σ H _ I h0 h) λv s1 ⟨x,H1,I1,r1,q1⟩=>?_;obtain ⟨a,e,⟨xs,hq⟩,q⟩:=q1;subst e;cases r1;obtain ⟨its,rv,p,hz⟩:=I1.list hq;refine wpAny_pyIter_list p.isList ?_;refine ⟨s1.heap.objs.size,[s1.heap.objs.size],_,_,H1,rfl,I1.kept (t':=s1.toks) λb o e=>Heap.get?_push_of_some _ e,Vg a _,⟨_,Heap.get?_push_size _ rfl,rfl,rfl⟩,λb hb=>?_,q⟩;have e:b=s1.heap.objs.size:=by simpa using hb
 subst e;exact I1.fpOk (Nat.le_refl _) (I1.hok.fresh (Nat.le_refl _))
end
end L2
namespace L2
open PySem PySem.Spec PyProof.Rows
theorem ZP {CX:CXT}{P:Program}{w:World}{K:W.Frag}{mg:Str->Option Value}{base:Heap}{k:Nat}{f:Addr}{name qual:Str}{params:Arguments}{body:List Stmt}{scope:Scope}{dV kV doc pm cdv ct oc:Value}{an od:Option Addr}{osl:Array (Option Value)}{N ps:List Str}{sp:Sp}(lk:K.lookup f=some ⟨oc,od,.func (W.fnOf name qual params body scope dV kV doc pm an cdv ct),osl⟩)(hcd:W.codeIn K cdv qual=true)(S:Gz N ps scope)(len:∀vs H Q E,sp vs H Q E->vs.length=ps.length)(qW:∀(A:Around)(outer:List Env)(s:Shared)(H:Hp)(vs:List V)(Q:VK)(E:XK),Room k (A.deeper (envOfC qual scope s.heap.objs.size f cdv))->sp vs H Q E ->
   ∃t,PSsq (WV CX P w K mg base N qual scope f cdv A outer s H E) body t/\t { nx:=λ_ H'=>Q .non H',rt:=Q } (JU N vs) H) :
  J3 P w K mg base CX (k+1) f (W.fnOf name qual params body scope dV kV doc pm an cdv ct) ps sp:=by
 refine ⟨len,λA outer s H args us vs Q E h0 hr e0 hb r hsp=>?_⟩;have hl:=len _ _ _ _ hsp;have KX:K.In s.heap:=e0.mod.kin.keeps λb o e=>(e0.bs b o e).1;have lim:s.heap.NoLimit:=e0.mod.nolimit.keeps λb o e=>(e0.bs b o e).1;have hkind:∀y∈ps.zip us,scope.names.lookup y.1=some .local\/(scope.names.lookup y.1=some .cell/\((cellsFrom (s.heap.objs.size+1) scope.names []).lookup y.1).isSome=true):=λ⟨n,v⟩ hy=>by
  rcases S.par n (List.of_mem_zip hy).1 with q | q
  ·exact .inl q
  ·exact .inr ⟨q,W.cellsFrom_some _ _ _ (.inl q)⟩
 refine codeAny_call_function hr.depth (KX _ _ lk) rfl S.co S.gen rfl (W.codeRec_of KX hcd) (hb _ _ _ _ ?_);refine wpAny_with_toks (n:=1) h0 (wpAny_newFunctionEnv_cells S.kind hkind λenv he s1 x=>λh1=>?_);subst he;refine ⟨lim.keeps x.toInCall.keep,codeAny_func ?_⟩;obtain ⟨t,ht,hq⟩:=qW A outer s H vs Q E (hr.deeper _) hsp;have I:Inv (WV CX P w K mg base N qual scope f cdv A outer s H E) [] (JU N vs) H s1:=Vm S hr.hd e0 hl r x;refine wpAny_mono (ht [] s1 (JU N vs) H _ I h1 hq) (λfl s' hs=>?_) λe s' hs=>hs;have fin:∀{σ':St}{H':Hp}{v:V}{u:Value},Inv (WV CX P w K mg base N qual scope f cdv A outer s H E) [] σ' H' s'->RelV v u->Q v H'->CE outer P w H s Q u s':=
  λ{σ' H' v u} J rv q=>⟨v,H',J.os,J.bare,J.base,J.hok,rv,q⟩
 cases fl with
 | ret u=>
  obtain ⟨v,σ',H',J,rv,q⟩:=hs;exact fin J rv q
 | next=>
  obtain ⟨σ',H',J,q⟩:=hs;exact fin (v:=V.non) (u:=Value.none) J rfl q
 | brk=>
  obtain ⟨_,_,_,q⟩:=hs;exact False.elim q
 | cont=>
  obtain ⟨_,_,_,q⟩:=hs;exact False.elim q
section
variable {P:Program}{w:World}{K:W.Frag}{mg:Str->Option Value}{base:Heap}
theorem PSsq.nox {X:Cx}{sts:List Stmt}{t:TS}(h:PSsq X.nox sts t):PSsq X sts t:=λqQ s σ H D I h0 hw=>
 wpAny_mono (h qQ s σ H D (I.wish _) h0 hw) (λ_ _ q=>q.unwish) λ_ _ z=>False.elim z
theorem Fun.okQ {x qual:Str}{st:Stmt}{f:Addr}{fd:FuncData}{N ps:List Str}{k:Nat}{sp:Sp}(F:Fun K x qual st f fd)(S:Gz N ps (Gh st))(len:∀vs H Q E,sp vs H Q E->vs.length=ps.length)(qW:∀(cdv:Value)(A:Around)(outer:List Env)(s:Shared)(H:Hp)(vs:List V)(Q:VK)(E:XK),Room k (A.deeper (envOfC qual (Gh st) s.heap.objs.size f cdv))->sp vs H Q E ->
   ∃t,PSsq (WV CX0 P w K mg base N qual (Gh st) f cdv A outer s H E).nox (Gy st) t/\t { nx:=λ_ H'=>Q .non H',rt:=Q } (JU N vs) H):J3 P w K mg base CX0 (k+1) f fd ps sp:=by
 obtain ⟨oc,od,kV,doc,pm,an,cdv,ct,osl,rfl,lk,hcd⟩:=F.ex;refine ZP lk hcd S len λA outer s H vs Q E hr hsp=>?_;obtain ⟨t,h,q⟩:=qW cdv A outer s H vs Q E hr hsp;exact ⟨t,h.nox,q⟩
end
end L2
namespace L2
open PySem PySem.Spec PyProof.Rows
def OX (c:Nat)(z l:List Nat):List Nat:=l.flatMap λx=>if x=c then z else [x]
def Uo (z:List Nat):List (List Nat)->List Nat
 | []=>[]
 | p::ps=>p++ps.flatMap λq=>z++q
theorem ON (c:Nat)(z:List Nat):∀(l B:List Nat),Uo z (GF c B l)=B++OX c z l
 | [],B=>by simp [GF,Uo,OX]
 | x::l,B=>by
  unfold GF;by_cases h:x=c
  ·rw [if_pos h];have ih:=ON c z l [];have ne:GF c [] l≠[]:=by
    have:∀(l B:List Nat),GF c B l≠[]:=by
     intro l
     induction l with
     | nil=>intro B;simp [GF]
     | cons y l ih=>intro B;unfold GF;split <;> simp [ih]
    exact this l []
   cases hs:GF c [] l with
   | nil=>exact absurd hs ne
   | cons p ps=>
    rw [hs] at ih;have ih:p++ps.flatMap (λq=>z++q)=OX c z l:=ih;show B++(p::ps).flatMap (λq=>z++q)=_;rw [List.flatMap_cons,List.append_assoc,ih];unfold OX;rw [List.flatMap_cons,if_pos h]
  ·rw [if_neg h,ON c z l (B++[x])];unfold OX;rw [List.flatMap_cons,if_neg h];simp
theorem UO (z:Str):∀ps:List (List Nat),Builtin.Str.glued z (ps.map mkS)=mkS (Uo z.cps.toList ps):=by
 have fold:∀(ps:List (List Nat))(a:Array Nat),(List.foldl (λacc p=>acc++z.cps++p.cps) a (ps.map mkS)).toList=a.toList++ps.flatMap λq=>z.cps.toList++q:=by
  intro ps
  induction ps with
  | nil=>intro a;simp
  | cons p ps ih=>
   intro a;rw [List.map_cons,List.foldl_cons,ih];simp [mkS]
 intro ps;unfold Builtin.Str.glued mkS
 congr 1
 apply Array.ext';cases ps with
 | nil=>simp [Uo,Str.empty]
 | cons p ps=>
  have:=fold ps p.toArray;simp only [List.map_cons,List.headD_cons,List.drop_one,List.tail_cons];rw [show (λl=>({ cps:=l.toArray }:Str))=mkS from rfl,this];simp [Uo]
theorem Up {c:Nat}{z l:List Nat}(h:c ∉ l):OX c z l=l:=by
 unfold OX
 induction l with
 | nil=>rfl
 | cons x l ih=>
  rw [List.flatMap_cons,if_neg (λe=>h (by rw [e];exact List.mem_cons_self ..)),ih (λe=>h (List.mem_cons_of_mem _ e))]
  rfl
theorem VA {c:Nat}:∀{l:List Nat}{k:Nat},Gu c k l=[]->c ∉ l
 | [],_,_=>by simp
 | x::l,k,h=>by
  unfold Gu at h;by_cases e:x=c
  ·rw [if_pos e] at h;cases h
  ·rw [if_neg e] at h;intro hm;rcases List.mem_cons.mp hm with z | z
   ·exact e z.symm
   ·exact VA h z
theorem Xa (x z:Str)(c:Nat)(t u v:Tok)(hu:u≠0)(hv:v≠0)(huv:u≠v)(hyz:(⟨#[c]⟩:Str)≠z)(hl:x.length+x.length * z.length<=sizeLine):Gives (Builtin.«str.replace» { pos:=[Value.str x t,Value.str ⟨#[c]⟩ u,Value.str z v] })
  (if (Gu c 0 x.cps.toList).isEmpty=true then Made.val (.str x t) else Made.str (mkS (OX c z.cps.toList x.cps.toList))):=by
 intro prog w A R s h;have hcl:=J9 c 0 x.cps.toList;have hL:x.cps.toList.length=x.length:=Array.length_toList;have hcut:Builtin.Str.occurrences x ⟨#[c]⟩ 0 x.length (x.length+1)=Gu c 0 x.cps.toList:=by
  rw [Os,List.take_of_length_le]
  lia
 have hg:Builtin.Str.glued z (Builtin.Str.partsBetween x (Gu c 0 x.cps.toList) 1)=mkS (OX c z.cps.toList x.cps.toList):=by
  rw [Um,UO,ON]
  rfl
 unfold Builtin.«str.replace»;unfold Builtin.Str.strSelf Builtin.Str.bindOptional;have h1:((⟨#[c]⟩:Str).length=0)=False:=by simp [Str.length]
 simp [Builtin.Str.textOf,Builtin.Str.strArg,asStr?,Builtin.Str.countLimit,isSame,isSame.created,hu,hv,huv,hyz,Builtin.Str.strUnchanged,Builtin.Str.isExactStr,hcut];by_cases e:Gu c 0 x.cps.toList=[]
 ·rw [if_pos (.inl e)];rw [if_pos (by rw [e];rfl)] at h;exact wpAny_bind (wpAny_rule (wpAny_pure h))
 ·rw [if_neg (by rintro (h | h);exact e h;rw [h1] at h;exact h.1)];rw [if_neg (by rw [List.isEmpty_iff];exact e),Made.post.eq_3] at h;rw [if_neg (by
   unfold Builtin.Str.tooLong;rw [decide_eq_true_eq];have:(Gu c 0 x.cps.toList).length * z.length<=x.length * z.length:=Nat.mul_le_mul_right _ (by lia)
   lia)]
  show wpAny _ _ (retStr (Builtin.Str.glued z (Builtin.Str.partsBetween x (Gu c 0 x.cps.toList) 1))) _ _ _;rw [hg];unfold retStr;exact wpAny_bind (wpAny_mkStr (wpAny_pure h.2) h.1)
section
variable {X:Cx}
theorem Og (c:Nat)(z:List Nat):∀l:List Nat,(OX c z l).length<=l.length * (z.length+1)
 | []=>by simp [OX]
 | x::l=>by
  have ih:=Og c z l;unfold OX at ih ⊢;rw [List.flatMap_cons,List.length_append,List.length_cons,Nat.succ_mul];have:(if x=c then z else [x]).length<=z.length+1:=by split <;> simp
  lia
theorem XY {o:Expr}{to:TE}{c:Nat}{y z:Str}{j1 j2:Nat}{apos p1 p2 qV:Pos}(ho:PEq X o to)(hy:y=⟨#[c]⟩:=by rfl)(hyz:(⟨#[c]⟩:Str)≠z:=by decide)(hbase:attributeBase o "replace" X.env (eval o X.env)=eval o X.env:=by rfl)(hline:(apos.endLine == qV.line)=true:=by rfl)(hst:starEach [.Constant (.str y) j1 p1,.Constant (.str z) j2 p2] X.env=[(false,eval (.Constant (.str y) j1 p1) X.env),(false,eval (.Constant (.str z) j2 p2) X.env)]:=by rfl) :
  PEq X (.Call (.Attribute o "replace" apos) [.Constant (.str y) j1 p1,.Constant (.str z) j2 p2] [] qV)
   (λσ H Q=>to σ H λx H1=>∃a:Str,x=.str a/\a.length * (z.length+1)<=sizeLine/\Q (.str (mkS (OX c z.cps.toList a.cps.toList))) H1):=by
 subst hy;intro qQ s σ H Q I h0 h;refine wpAny_Call_method_late hbase rfl hline rfl (U5 h0 (ho qQ s σ H _ I h0 h) λov s1 h1 ⟨x,H1,I1,r1,a,e,hl,q⟩=>?_);subst e;obtain ⟨t,rfl⟩:=r1;refine ⟨"str", "str.replace", PySem.F.plainAttrs_str,PySem.F.slot_str_replace,PySem.F.type_str_replace,typeIs_str _ _ _,(λ_ z=>by cases z),?_⟩;refine Calls.callWith_builtin rfl (Calls.evalArgs_plain ?_);refine Calls.spliced_cons (Calls.Constant_str (k:=j1) (pos:=p1) ?_);refine Calls.spliced_cons (Calls.Constant_str (k:=j2) (pos:=p2) ?_);refine Calls.spliced_nil ?_;have hm:a.length+a.length * z.length<=sizeLine:=by rw [Nat.mul_succ] at hl;lia
 refine call_gives PySem.F.slot_str_replace (typeIs_str _ _ _) PySem.F.entry_str_replace (PySem.F.args_str_replace_3 _ _ _) (Xa a z c t s1.toks (s1.toks+1) (Nat.pos_iff_ne_zero.mp h1) (Nat.succ_ne_zero s1.toks) (Nat.ne_of_lt (Nat.lt_succ_self s1.toks)) hyz hm) ?_;split
 ·rename_i e;rw [Made.post.eq_1];rw [Up (VA (List.isEmpty_iff.mp e))] at q;exact ⟨.str a,H1,I1.tok _,⟨_,rfl⟩,q⟩
 ·rw [Made.post.eq_3];have hz:(mkS (OX c z.cps.toList a.cps.toList)).length<=sizeLine:=by
   have h1:=Og c z.cps.toList a.cps.toList;have e1:(mkS (OX c z.cps.toList a.cps.toList)).length=(OX c z.cps.toList a.cps.toList).length:=by simp [mkS,Str.length]
   have e2:a.cps.toList.length=a.length:=Array.length_toList;have e3:z.cps.toList.length=z.length:=Array.length_toList;rw [e1];rw [e2,e3] at h1
   lia
  exact ⟨hz,.str _,H1,I1.tok _,⟨_,rfl⟩,q⟩
end
end L2
namespace L2
open PySem PySem.Spec PyProof.Rows
variable {X:Cx}
theorem VU {e:Expr}{te:TE}{pos:Pos}(he:PE X e te):PE X (.FormattedValue e (-1) none pos) (λσ H Q=>te σ H λv H1=>∃y:Str,v=.str y/\y.length<=sizeLine/\Q (.str y) H1):=by
 intro qQ s σ H Q I h;refine FormattedValue_plain (thn (he qQ s σ H _ I h) λv s1 ⟨x,H1,I1,r1,q1⟩=>?_);obtain ⟨y,rfl,hl,q⟩:=q1;obtain ⟨t,rfl⟩:=r1;exact wpAny_formatField_str ⟨.str y,H1,I1,⟨_,rfl⟩,q⟩ ⟨.str y,H1,I1.tok _,⟨_,rfl⟩,q⟩ hl
end L2
namespace L2
open PySem PySem.Spec PyProof.Rows
variable {X:Cx}{o e:Expr}{es:List Expr}{to:TE}{t:TA}{name:Str}{apos qV:Pos}{T id:String}{r:V->List V->Hp->VK->Prop}
theorem ZdY (pa:PlainAttrs T)(slot:Slot T name id)(hty:typeOf (.builtin id)=pure (.type "method_descriptor"))(hm:MtR X id r)(ho:PEq X o to)(ha:PA X (e::es) t)(hbase:attributeBase o name X.env (eval o X.env)=eval o X.env:=by rfl)(hfew:((backTo qV (starEach (e::es) X.env)).all (λx=>!x.1) && (backToKw qV (keywordEach [] X.env)).all (λx=>x.1.isSome)
   && decide ((e::es).length+([]:List Keyword).length+(if ([]:List Keyword).isEmpty then 0 else 1)<30))=true:=by rfl)(hline:(apos.endLine == qV.line)=true:=by rfl)(hs:starEach (e::es) X.env=(false,eval e X.env)::starEach es X.env:=by rfl)(hplain:(backTo qV (starEach es X.env)).any (·.1)=false:=by rfl) :
  PEq X (.Call (.Attribute o name apos) (e::es) [] qV) (tBM X.K T r to t):=by
 intro qQ s σ H Q I h0 h;refine wpAny_Call_method_late hbase hfew hline rfl (thn (ho qQ s σ H _ I h0 h) λv s1 ⟨x,H1,I1,r1,ty,q1⟩=>?_);obtain ⟨h1,h2⟩:=XE I1 r1 ty;refine ⟨T,id,pa,slot,hty,h1,h2,?_⟩;have hA:=ha qV qQ s1 σ H1 _ I1 q1;rw [hs] at hA ⊢;refine Calls.callWith_builtin (by show (false || (backTo qV (starEach es X.env)).any (·.1))=false;rw [hplain] <;> rfl) (Calls.evalArgs_plain ?_);exact thn hA λus s2 ⟨vs,H2,I2,r2,q2⟩=>hm qQ s2 σ H2 x vs v us Q I2 r1 r2 q2
end L2
namespace L2
open PySem PySem.Spec PyProof.Rows
section
variable {P:Program}{w:World}{K:W.Frag}{mg:Str->Option Value}{base:Heap}
theorem Fun.okRQ {x qual:Str}{st:Stmt}{f:Addr}{fd:FuncData}{N ps:List Str}{k:Nat}{sp:Sp}(F:Fun K x qual st f fd)(S:Gz N ps (Gh st))(len:∀vs H Q E,sp vs H Q E->vs.length=ps.length)(qW:∀(cdv:Value)(A:Around)(outer:List Env)(s:Shared)(H:Hp)(vs:List V)(Q:VK)(E:XK),Room k (A.deeper (envOfC qual (Gh st) s.heap.objs.size f cdv))->sp vs H Q E ->
   ∃t,PSsq (WV (CXr P w) P w K mg base N qual (Gh st) f cdv A outer s H E) (Gy st) t/\t { nx:=λ_ H'=>Q .non H',rt:=Q } (JU N vs) H):J3 P w K mg base (CXr P w) (k+1) f fd ps sp:=by
 obtain ⟨oc,od,kV,doc,pm,an,cdv,ct,osl,rfl,lk,hcd⟩:=F.ex;exact ZP lk hcd S len λA outer s H vs Q E hr hsp=>qW cdv A outer s H vs Q E hr hsp
end
section
variable {X:Cx}{k:Nat}{f:Addr}{fd:FuncData}{ps:List Str}{sp:Sp}{dvs:List V}{ds:List Value}{fx:Str}{fp qV bpos np hpos pos:Pos}{e:Expr}{es:List Expr}{t:TA}
theorem VB {qQ:List (Addr×Obj)}{σ:St}{H:Hp}{s:Shared}{Q:VK}{E:XK}{QQ:Value->Shared->Prop}{EE:Value->Shared->Prop}(F:J3 X.prog X.w X.K X.mg X.base (CXr X.prog X.w) k f fd ps sp)(hr:Room k X.A)(hg:Gl X fx)(hm:X.mg fx=some (.ref f))(hk:W.keepIn X.K (.ref f)=true)(hb:Binds X.K fd ps ds)(hd:Vals dvs ds)(ha:PA X.nox (e::es) t)(I:Inv X qQ σ H s)(h0:0<s.toks)(h:t σ H λvs H1=>sp (vs++dvs) H1 Q E)(hQ:∀u s',EP X qQ σ Q u s'->QQ u s')(hE:∀ev H1 s1 s',Inv X qQ σ H1 s1->CXr X.prog X.w X.stack H1 s1 E ev s'->EE ev s')(hdb:(fx == ("__debug__" : Str))=false:=by decide)(he:starEach (e::es) X.env=(false,eval e X.env)::starEach es X.env:=by rfl)(hpl:(backTo qV (starEach es X.env)).any (·.1)=false:=by rfl) :
  wpAny (model X.prog X.w) X.A (eval (.Call (.Name fx fp) (e::es) [] qV) X.env) QQ EE s:=by
 refine wpAny_Call_Name_kw (Oo I hg hm ?_ hdb);refine W.callWith_K (h₀:=X.base) I.ok.mod.kin hk (wpAny_mono (U5 h0 (ha qV qQ s σ H _ (I.wish _) h) λus s1 h1 z=>(⟨h1,z⟩:0<s1.toks/\_)) (λus s1 ⟨h1,vs,H1,I1,r,q⟩=>⟨I1.unwish.kIn,?_⟩) (λ_ _ z=>False.elim z)) he hpl;have I1:=I1.unwish;have r2:Vals (vs++dvs) (us++ds):=r.append hd;have hl:(us++ds).length=ps.length:=by rw [<-r2.length];exact F.len _ _ _ _ q
 refine wpAny_call (codeAny_mono (F.run X.A X.stack s1 H1 ⟨us,[]⟩ (us++ds) (vs++dvs) Q E h1 hr I1.env0 (hb s1 us I1.kIn hl) r2 q) λr s' hq=>?_);cases r with
 | error ev=>exact hE ev H1 s1 s' I1 hq
 | ok fl=>
  cases fl with
  | ret u=>exact hQ u s' (I1.after hq)
  | next=>exact False.elim hq
  | brk=>exact False.elim hq
  | cont=>exact False.elim hq
theorem Y6 {j i:Nat}{y n wx:Str}{W:Addr}{b0:Stmt}{suite:List Stmt}{ts:TS}{np2:Pos}(F:J3 X.prog X.w X.K X.mg X.base (CXr X.prog X.w) k f fd ps sp)(hr:Room k X.A)(hg:Gl X fx)(hm:X.mg fx=some (.ref f))(hk:PySem.W.keepIn X.K (.ref f)=true)(hb:Binds X.K fd ps ds)(hd:Vals dvs ds)(ha:PA X.nox (e::es) t)(hN:X.N.Nodup)(hj:X.N[j]?=some y)(hx:Loc X.env.scope y)(hc:X.calm=true)(hst:X.stack=X.env::X.outer)(hfr:X.env.frame=some X.env.locals)(hex:X.ex=[])(hi:X.N[i]?=some n)(hl:X.env.scope.names.lookup n=some .local)(hgW:Gl X wx)(hmW:X.mg wx=some (.ref W))(hbE:PySem.W.subIn X.K (.ref W) (.type "BaseException")=some true)(hsu:∀a,PSs (X.inExc a) (b0::suite) ts)(hdb:(fx == ("__debug__" : Str))=false:=by decide)(hdb2:(wx == ("__debug__" : Str))=false:=by decide)(he:starEach (e::es) X.env=(false,eval e X.env)::starEach es X.env:=by rfl)(hpl:(backTo qV (starEach es X.env)).any (·.1)=false:=by rfl)(hs:swapsWith (.Call (.Name fx fp) (e::es) [] qV) (some (.Name y np)) bpos.line X.env=pure false:=by rfl)(hf:X.fn y=true\/X.env.scope.names.lookup y=some .local:=by first | exact .inl rfl | exact .inr rfl | assumption) :
  PSq X (.Try [.Assign [.Name y np] (.Call (.Name fx fp) (e::es) [] qV) bpos] [.ExceptHandler (some (.Name wx np2)) (some n) (b0::suite) hpos] [] [] pos) (λD σ H=>t σ H λvs H1=>sp (vs++dvs) H1 (λv H2=>D.nx (σ.set j (some v)) H2) (XN X.K W i ts D σ)):=by
 intro qQ s σ H D I h0 h;refine wpAny_Try_except (wpAny_execs_cons (wpAny_Assign_Name (VB F hr hg hm hk hb hd ha I h0 h (λu s' hq=>?_) (λev H1 s1 s' I1 hq=>?_) hdb he hpl) hs))
 ·obtain ⟨v,H2,I2,rv,q⟩:=hq;exact JX I2 hN hj hx rv (λs2 I3=>wpAny_execs_nil (wpAny_execs_nil ⟨_,H2,I3,q⟩)) hf
 ·exact handled hc hst hfr hex hN hi hl hgW hmW hbE hsu I1 hq hdb2
theorem ZaN {W:Addr}{wx n:Str}{i:Nat}{b0:Stmt}{suite:List Stmt}{ts:TS}(F:J3 X.prog X.w X.K X.mg X.base (CXr X.prog X.w) k f fd ps sp)(hr:Room k X.A)(hg:Gl X fx)(hm:X.mg fx=some (.ref f))(hk:PySem.W.keepIn X.K (.ref f)=true)(hb:Binds X.K fd ps ds)(hd:Vals dvs ds)(ha:PA X.nox (e::es) t)(hc:X.calm=true)(hst:X.stack=X.env::X.outer)(hfr:X.env.frame=some X.env.locals)(hex:X.ex=[])(hN:X.N.Nodup)(hi:X.N[i]?=some n)(hl:X.env.scope.names.lookup n=some .local)(hgW:Gl X wx)(hmW:X.mg wx=some (.ref W))(hbE:PySem.W.subIn X.K (.ref W) (.type "BaseException")=some true)(hsu:∀a,PSs (X.inExc a) (b0::suite) ts)(hdb:(fx == ("__debug__" : Str))=false:=by decide)(hdb2:(wx == ("__debug__" : Str))=false:=by decide)(he:starEach (e::es) X.env=(false,eval e X.env)::starEach es X.env:=by rfl)(hpl:(backTo qV (starEach es X.env)).any (·.1)=false:=by rfl)(hs:swapsWith (.Call (.Name fx fp) (e::es) [] qV) none bpos.line X.env=pure false:=by rfl) :
  PSq X (.Try [.Expr (.Call (.Name fx fp) (e::es) [] qV) bpos] [.ExceptHandler (some (.Name wx np)) (some n) (b0::suite) hpos] [] [] pos) (ZeY X.K W i sp dvs t ts):=by
 intro qQ s σ H D I h0 h;refine wpAny_Try_except (wpAny_execs_cons (wpAny_Expr_any (VB F hr hg hm hk hb hd ha I h0 h (λu s' hq=>?_) (λev H1 s1 s' I1 hq=>?_) hdb he hpl) I.quiet hs))
 ·obtain ⟨v,H2,I2,_,q⟩:=hq;exact wpAny_execs_nil (wpAny_execs_nil ⟨σ,H2,I2,q⟩)
 ·exact handled hc hst hfr hex hN hi hl hgW hmW hbE hsu I1 hq hdb2
end
end L2
namespace L2
open PySem
theorem U6 {M:Model}{Γ:Ctx}{p:Pos}{t:Sem PySem.Fin}{fs:List Frame}{s s':Shared}{e:End}(h:Runs M Γ p t fs s e s') :
  ∀{e2:End}{s2:Shared},Runs M Γ p t fs s e2 s2->e=e2/\s'=s2:=by
 induction h with
 | done=>intro e2 s2 h2;cases h2;exact ⟨rfl,rfl⟩
 | raise=>intro e2 s2 h2;cases h2;exact ⟨rfl,rfl⟩
 | yield=>intro e2 s2 h2;cases h2;exact ⟨rfl,rfl⟩
 | again q _ ih=>intro e2 s2 h2;cases h2 with | again _ h=>exact ih h
 | rule _ ih=>intro e2 s2 h2;cases h2 with | rule h=>exact ih h
 | «at» _ ih=>intro e2 s2 h2;cases h2 with | «at» h=>exact ih h
 | load o _ ih=>
  intro e2 s2 h2;cases h2 with
  | load o' h=>
   rw [o] at o';cases o';exact ih h
 | update _ _ ih=>intro e2 s2 h2;cases h2 with | update _ h=>exact ih h
 | loadIfAlive _ ih=>intro e2 s2 h2;cases h2 with | loadIfAlive h=>exact ih h
 | point _ ih=>intro e2 s2 h2;cases h2 with | point h=>exact ih h
 | alloc _ ih=>intro e2 s2 h2;cases h2 with | alloc h=>exact ih h
 | fresh _ ih=>intro e2 s2 h2;cases h2 with | fresh h=>exact ih h
 | ask _ ih=>intro e2 s2 h2;cases h2 with | ask h=>exact ih h
 | choose _ _ ih=>intro e2 s2 h2;cases h2 with | choose _ h=>exact ih h
 | os _ ih=>intro e2 s2 h2;cases h2 with | os h=>exact ih h
 | handled _ ih=>intro e2 s2 h2;cases h2 with | handled h=>exact ih h
 | genState o _ ih=>
  intro e2 s2 h2;cases h2 with
  | genState o' h=>
   rw [o] at o';cases o';exact ih h
 | stack _ ih=>intro e2 s2 h2;cases h2 with | stack h=>exact ih h
 | thread _ ih=>intro e2 s2 h2;cases h2 with | thread h=>exact ih h
 | newGen _ ih=>intro e2 s2 h2;cases h2 with | newGen h=>exact ih h
 | call _ _ ih1 ih2=>
  intro e2 s2 h2;cases h2 with
  | call h3 h4=>
   obtain ⟨q,rfl⟩:=ih1 h3;cases q;exact ih2 h4
  | callSusp h3=>exact absurd (ih1 h3).1 (by intro z;cases z)
 | callSusp _ ih=>
  intro e2 s2 h2;cases h2 with
  | call h3 h4=>exact absurd (ih h3).1 (by intro z;cases z)
  | callSusp h3=>
   obtain ⟨q,rfl⟩:=ih h3;cases q;exact ⟨rfl,rfl⟩
 | resumeFresh g _ _ _ ih1 ih2=>
  intro e2 s2 h2;cases h2 with
  | resumeFresh g' h3 _ h4=>
   rw [g] at g';cases g';obtain ⟨rfl,rfl⟩:=ih1 h3;exact ih2 h4
  | resumeSuspended g'=>rw [g] at g';cases g'
  | resumeJustStarted g' n=>exact absurd rfl n
  | resumeRunning g'=>rw [g] at g';cases g'
  | resumeFinished g'=>rw [g] at g';cases g'
 | resumeSuspended g _ _ _ ih1 ih2=>
  intro e2 s2 h2;cases h2 with
  | resumeSuspended g' h3 _ h4=>
   rw [g] at g';cases g';obtain ⟨rfl,rfl⟩:=ih1 h3;exact ih2 h4
  | resumeFresh g'=>rw [g] at g';cases g'
  | resumeJustStarted g'=>rw [g] at g';cases g'
  | resumeThrowFresh g'=>rw [g] at g';cases g'
  | resumeRunning g'=>rw [g] at g';cases g'
  | resumeFinished g'=>rw [g] at g';cases g'
 | resumeJustStarted g n _ ih=>
  intro e2 s2 h2;cases h2 with
  | resumeJustStarted g' _ h=>exact ih h
  | resumeFresh g'=>exact absurd rfl n
  | resumeSuspended g'=>rw [g] at g';cases g'
  | resumeRunning g'=>rw [g] at g';cases g'
  | resumeFinished g'=>rw [g] at g';cases g'
 | resumeThrowFresh g _ ih=>
  intro e2 s2 h2;cases h2 with
  | resumeThrowFresh g' h=>exact ih h
  | resumeSuspended g'=>rw [g] at g';cases g'
  | resumeRunning g'=>rw [g] at g';cases g'
  | resumeFinished g'=>rw [g] at g';cases g'
 | resumeRunning g _ ih=>
  intro e2 s2 h2;cases h2 with
  | resumeRunning g' h=>exact ih h
  | resumeFresh g'=>rw [g] at g';cases g'
  | resumeSuspended g'=>rw [g] at g';cases g'
  | resumeJustStarted g'=>rw [g] at g';cases g'
  | resumeThrowFresh g'=>rw [g] at g';cases g'
  | resumeFinished g'=>rw [g] at g';cases g'
 | resumeFinished g _ ih=>
  intro e2 s2 h2;cases h2 with
  | resumeFinished g' h=>exact ih h
  | resumeFresh g'=>rw [g] at g';cases g'
  | resumeSuspended g'=>rw [g] at g';cases g'
  | resumeJustStarted g'=>rw [g] at g';cases g'
  | resumeThrowFresh g'=>rw [g] at g';cases g'
  | resumeRunning g'=>rw [g] at g';cases g'
 | segRet _ _ ih1 ih2=>
  intro e2 s2 h2;cases h2 with
  | segRet h3 h4=>
   obtain ⟨q,rfl⟩:=ih1 h3;cases q;exact ih2 h4
  | segSuspOut _ h3=>exact absurd (ih1 h3).1 (by intro z;cases z)
  | segSuspGen _ h3=>exact absurd (ih1 h3).1 (by intro z;cases z)
 | segGen _ _ ih1 ih2=>
  intro e2 s2 h2;cases h2 with
  | segGen h3 h4=>
   obtain ⟨q,rfl⟩:=ih1 h3;cases q;exact ih2 h4
  | segSuspOut _ h3=>exact absurd (ih1 h3).1 (by intro z;cases z)
  | segSuspGen _ h3=>exact absurd (ih1 h3).1 (by intro z;cases z)
 | segSuspOut n _ ih=>
  intro e2 s2 h2;cases h2 with
  | segRet h3=>exact absurd (ih h3).1 (by intro z;cases z)
  | segGen h3=>exact absurd (ih h3).1 (by intro z;cases z)
  | segSuspOut _ h3=>
   obtain ⟨q,rfl⟩:=ih h3;cases q;exact ⟨rfl,rfl⟩
  | segSuspGen n' h3=>rw [n] at n';cases n'
 | segSuspGen n _ _ _ ih1 ih2=>
  intro e2 s2 h2;cases h2 with
  | segRet h3=>exact absurd (ih1 h3).1 (by intro z;cases z)
  | segGen h3=>exact absurd (ih1 h3).1 (by intro z;cases z)
  | segSuspOut n' h3=>rw [n] at n';cases n'
  | segSuspGen n' h3 _ h4=>
   rw [n] at n';cases n';obtain ⟨q,rfl⟩:=ih1 h3;cases q;exact ih2 h4
theorem XZ {M:Model}{Γ:Ctx}{p:Pos}{g:Nat}{r:Resume}{s s1 s2:Shared}{a b:GenResult}(h1:Wakes M Γ p g r s a s1)(h2:Wakes M Γ p g r s b s2):a=b/\s1=s2:=by
 unfold Wakes at h1 h2;split at h1
 ·exact h1.elim
 ·split at h1
  ·obtain ⟨e1,t1,r1,_,rfl,rfl⟩:=h1;simp only [*] at h2;obtain ⟨e2,t2,r2,_,rfl,rfl⟩:=h2;obtain ⟨rfl,rfl⟩:=U6 r1 r2;exact ⟨rfl,rfl⟩
  ·obtain ⟨rfl,rfl⟩:=h1;simp only [*] at h2;exact ⟨h2.1.symm,h2.2.symm⟩
  ·obtain ⟨rfl,rfl⟩:=h1;simp only [*] at h2;obtain ⟨rfl,rfl⟩:=h2;exact ⟨rfl,rfl⟩
 ·obtain ⟨e1,t1,r1,_,rfl,rfl⟩:=h1;simp only [*] at h2;obtain ⟨e2,t2,r2,_,rfl,rfl⟩:=h2;obtain ⟨rfl,rfl⟩:=U6 r1 r2;exact ⟨rfl,rfl⟩
 ·obtain ⟨rfl,rfl⟩:=h1;simp only [*] at h2;obtain ⟨rfl,rfl⟩:=h2;exact ⟨rfl,rfl⟩
 ·obtain ⟨rfl,rfl⟩:=h1;simp only [*] at h2;obtain ⟨rfl,rfl⟩:=h2;exact ⟨rfl,rfl⟩
theorem ZaO {α:Type}{M:Model}{Γ:Ctx}(t:Sem α):∀{Q Q':α->Pos->Shared->Prop}{E E':Value->Pos->Shared->Prop}{p:Pos}{s:Shared},Sem.wp M Γ t Q E p s->Sem.wp M Γ t Q' E' p s ->
  Sem.wp M Γ t (λa p s=>Q a p s/\Q' a p s) (λa p s=>E a p s/\E' a p s) p s:=by
 induction t with
 | pure x=>intro Q Q' E E' p s h1 h2;exact ⟨h1,h2⟩
 | raise v=>intro Q Q' E E' p s h1 h2;exact ⟨h1,h2⟩
 | unsupported | finish | yield | fork | await | register=>intro Q Q' E E' p s h1 h2;exact h1.elim
 | rule _ k ih | «at» _ k ih | alloc _ k ih | loadIfAlive _ k ih | point _ k ih | fresh k ih | ask k ih | os _ _ k ih | handled _ k ih | newGen _ k ih | stack k ih | thread k ih=>intro Q Q' E E' p s h1 h2;exact ih _ h1 h2
 | load a _ k ih | genState a k ih=>
  intro Q Q' E E' p s h1 h2;obtain ⟨o,ho,h1⟩:=h1;obtain ⟨o',ho',h2⟩:=h2;rw [ho] at ho';cases ho';exact ⟨o,ho,ih _ h1 h2⟩
 | update a _ f k ih | choose _ _ k ih=>intro Q Q' E E' p s h1 h2;exact ⟨h1.1,ih _ h1.2 h2.2⟩
 | call c h g l k ih=>
  intro Q Q' E E' p s h1 h2;obtain ⟨r,s1,w1,h1⟩:=h1;obtain ⟨r',s1',w2,h2⟩:=h2;obtain ⟨q,rfl⟩:=U6 w1 w2;cases q;exact ⟨r,s1,w1,ih _ h1 h2⟩
 | resume g r l k ih=>
  intro Q Q' E E' p s h1 h2;obtain ⟨r,s1,w1,h1⟩:=h1;obtain ⟨r',s1',w2,h2⟩:=h2;obtain ⟨rfl,rfl⟩:=XZ w1 w2;exact ⟨_,_,w1,ih _ h1 h2⟩
theorem Xb {α:Type}{M:Model}{A:Around}{t:Sem α}{Q Q':α->Shared->Prop}{E E':Value->Shared->Prop}{s:Shared}(h1:wpAny M A t Q E s)(h2:wpAny M A t Q' E' s) :
  wpAny M A t (λa s=>Q a s/\Q' a s) (λa s=>E a s/\E' a s) s:=λΓ p hΓ=>ZaO t (h1 Γ p hΓ) (h2 Γ p hΓ)
end L2
namespace L2
open PySem PySem.Spec PyProof.Rows
inductive Zcs:List Expr->List Str->Prop
 | nil:Zcs [] []
 | cons {y:Str} {j:Nat} {p:Pos} {es:List Expr} {ys:List Str}:Zcs es ys->Zcs (.Constant (.str y) j p::es) (y::ys)
inductive Toks:List Value->List Str->Prop
 | nil:Toks [] []
 | cons {y:Str} {t:Tok} {us:List Value} {ys:List Str}:t≠0->Toks us ys->Toks (.str y t::us) (y::ys)
theorem Toks.get {us:List Value}{ys:List Str}(h:Toks us ys):∀{k:Nat}{y:Str},ys[k]?=some y->∃t,t≠0/\us[k]?=some (.str y t):=by
 induction h with
 | nil=>intro k y e;simp at e
 | cons ht _ ih=>
  intro k y e;cases k with
  | zero=>simp at e;subst e;exact ⟨_,ht,rfl⟩
  | succ k=>exact ih (by simpa using e)
theorem Toks.len {us:List Value}{ys:List Str}(h:Toks us ys):us.length=ys.length:=by
 induction h with
 | nil=>rfl
 | cons _ _ ih=>rw [List.length_cons,List.length_cons,ih]
section
variable {X:Cx}
theorem Y7 {M:Model}{A:Around}{E:Value->Shared->Prop}{env:Env}{pos:Pos}{es:List Expr}{ys:List Str}(L:Zcs es ys):∀{s:Shared}{Q:List Value->Shared->Prop},0<s.toks->(∀us tk,s.toks<=tk->Toks us ys->Q us { s with toks:=tk })->wpAny M A (spliced (backTo pos (starEach es env))) Q E s:=by
 induction L with
 | nil=>intro s Q h0 h;exact Calls.spliced_nil (h [] s.toks (Nat.le_refl _) .nil)
 | @cons y j p es ys L ih=>
  intro s Q h0 h;show wpAny _ _ (spliced ((false,eval (.Constant (.str y) j p) env)::backTo pos (starEach es env))) _ _ _;refine Calls.spliced_cons (Calls.Constant_str ?_);refine ih (s:={ s with toks:=s.toks+1 }) (Nat.succ_pos _) λus tk hk ht=>?_;exact h _ tk (by have:s.toks+1<=tk:=hk;lia) (.cons (Nat.pos_iff_ne_zero.mp h0) ht)
def PEk (X:Cx)(e:Expr)(S:St->Hp->(Str->Hp->Prop)->Prop):Prop:=∀(qQ:List (Addr×Obj))(s:Shared)(σ:St)(H:Hp)(Q:Str->Hp->Prop),Inv X qQ σ H s->0<s.toks->S σ H Q ->
 wpAny (model X.prog X.w) X.A (eval e X.env) (λv s'=>∃y t H',v=.str y t/\t≠0/\(∀b o,s.heap.get? b=some o->s'.heap.get? b=some o)/\0<s'.toks/\Inv X qQ σ H' s'/\Q y H') X.xe s
theorem Zct {y:Str}{j:Nat}{p:Pos}:PEk X (.Constant (.str y) j p) (λ_ H Q=>Q y H):=by
 intro qQ s σ H Q I h0 h;exact Calls.Constant_str ⟨y,s.toks,H,rfl,Nat.pos_iff_ne_zero.mp h0,λ_ _ e=>e,Nat.succ_pos _,I.tok _,h⟩
theorem VV {ix:Nat}{x:Str}{es:List Expr}{ys:List Str}{i m:Int}{j1 j2:Nat}{p1 p2 p3 p4 p5 p6 p7:Pos}(L:Zcs es ys)(h16:ys.length<=sizeLine)(hm:0<m)(hi:0<=i)(hN:X.N[ix]?=some x:=by rfl)(hv:Vis X.env.scope x:=by first | exact Or.inl rfl | exact Or.inr (Or.inl rfl) | exact Or.inr (Or.inr rfl))(hd:(x == ("__debug__" : Str))=false:=by decide)(hcd:(x == ("__classdict__" : Str))=false:=by decide) :
  PEk X (.Subscript (.List es p1) (.BinOp (.Subscript (.Name x p2) (.Constant (.int i) j1 p3) p4) .Mod (.Constant (.int m) j2 p5) p6) p7)
   (λσ H Q=>∃(xl:Addr)(ns:List Int)(n:Int),σ[ix]?=some (some (.ref xl))/\H xl=some (.lst (ns.map V.int))/\ns[i.toNat]?=some n/\ns.length<=1000/\m<=ys.length/\∀y,ys[(n % m).toNat]?=some y->∀H',Same H H'->Q y H'):=by
 intro qQ s σ H Q I h0 h;obtain ⟨xl,ns,n,ex,exl,en,hns,hmy,q⟩:=h;refine Subscript_ (wpAny_List_spliced (Y7 L h0 λus tk hk ht=>⟨by rw [ht.len];exact h16,?_⟩));have hl:=ht.len;have h1:0<tk:=Nat.lt_of_lt_of_le h0 hk;have hf:H s.heap.objs.size=none:=I.hok.fresh (Nat.le_refl _);have kp:∀b o,s.heap.get? b=some o->(s.heap.push { cls:=.type "list", data:=.seq us.toArray }).get? b=some o:=λb o e=>Heap.get?_push_of_some _ e;have hL:(s.heap.push { cls:=.type "list", data:=.seq us.toArray }).get? s.heap.objs.size=some { cls:=.type "list", data:=.seq us.toArray }:=Heap.get?_push_size _ rfl;have I1:Inv X qQ σ (upd H s.heap.objs.size (.frz { cls:=.type "list", data:=.seq us.toArray } (.own s.heap.objs.size))) { s with heap:=s.heap.push { cls:=.type "list", data:=.seq us.toArray },toks:=tk }:=I.laid kp (Nat.le_refl _) ⟨hL,_,hL⟩;have sm:Same H (upd H s.heap.objs.size (.frz { cls:=.type "list", data:=.seq us.toArray } (.own s.heap.objs.size))):=Same.new hf;have exl1:=sm _ _ exl;generalize upd H s.heap.objs.size (.frz { cls:=.type "list", data:=.seq us.toArray } (.own s.heap.objs.size))=H1 at I1 sm exl1;refine wpAny_BinOp (Subscript_ (ZO I1 ex hN hv hd hcd λu r=>?_));cases r;refine wpAny_Constant_int ?_;obtain ⟨its,r,pl,hz⟩:=I1.list (SqL.of exl1);have eV:(ns.map V.int)[i.toNat]?=some (.int n):=by rw [List.getElem?_map,en];rfl
 obtain ⟨u,eu,ru⟩:=r.get eV;obtain ⟨t,rfl⟩:=ru;have hil:i.toNat<ns.length:=(List.getElem?_eq_some_iff.mp en).1;have hn63:=Uh;refine item_listR (s:={ s with heap:=s.heap.push { cls:=.type "list", data:=.seq us.toArray },toks:=tk+1 }) pl.isList hi (by lia) (by simpa using eu) ?_ (by rfl);refine wpAny_Constant_int (mod_int' (by lia) ?_);rw [Int.fmod_eq_emod_of_nonneg n (by lia)];have m0:0<=n % m:=Int.emod_nonneg _ (by lia);have m1:n % m<m:=Int.emod_lt_of_pos _ hm;have hlt:(n % m).toNat<ys.length:=by lia
 have ey:ys[(n % m).toNat]?=some ys[(n % m).toNat]:=List.getElem?_eq_getElem hlt;obtain ⟨t2,ht2,eu2⟩:=ht.get ey;refine item_listR (items:=us.toArray) ⟨_,hL,rfl,_,rfl⟩ m0 (by lia) (by simpa using eu2) ?_ (by rfl);exact ⟨_,t2,H1,rfl,ht2,kp,Nat.succ_pos _,I1.tok _,q _ ey _ sm⟩
def Y8 (x y z:Str):Str:=Builtin.Str.glued z (Builtin.Str.partsBetween x (Builtin.Str.occurrences x y 0 x.length (x.length+1)) y.length)
theorem Xc (x y z:Str)(t u v:Tok)(hu:u≠0)(hv:v≠0)(hyz:y≠z)(hy:0<y.length)(hl:x.length+(Builtin.Str.occurrences x y 0 x.length (x.length+1)).length * z.length<=sizeLine):Gives (Builtin.«str.replace» { pos:=[Value.str x t,Value.str y u,Value.str z v] })
  (if Builtin.Str.occurrences x y 0 x.length (x.length+1)=[]\/u=v then Made.val (.str x t) else Made.str (Y8 x y z)):=by
 intro prog w A R s h;unfold Builtin.«str.replace»;unfold Builtin.Str.strSelf Builtin.Str.bindOptional;have hn:¬ (y.length=0/\z.length=0):=by lia
 simp [Builtin.Str.textOf,Builtin.Str.strArg,asStr?,Builtin.Str.countLimit,isSame,isSame.created,hu,hv,hyz,Builtin.Str.strUnchanged,Builtin.Str.isExactStr];by_cases e:Builtin.Str.occurrences x y 0 x.length (x.length+1)=[]
 ·rw [if_pos (.inl e)];rw [if_pos (.inl e)] at h;exact wpAny_bind (wpAny_rule (wpAny_pure h))
 ·rw [if_neg (by rintro (h | h);exact e h;exact hn h)];by_cases huv:u=v
  ·rw [if_pos (.inr huv)] at h;simp [huv];exact wpAny_bind (wpAny_rule (wpAny_pure h))
  ·rw [if_neg (by rintro (h | h);exact e h;exact huv h),Made.post.eq_3] at h;simp [huv];rw [if_neg (by
    unfold Builtin.Str.tooLong;rw [decide_eq_true_eq]
    lia)]
   show wpAny _ _ (retStr (Y8 x y z)) _ _ _;unfold retStr;exact wpAny_bind (wpAny_mkStr (wpAny_pure h.2) h.1)
theorem X0 {it io:Nat}{tx x:Str}{e1 e2:Expr}{S1 S2:St->Hp->(Str->Hp->Prop)->Prop}{np p1 p2 p3 p4 pos apos qV rp:Pos}(h1:PEk X e1 S1)(h2:PEk X e2 S2)(hND:X.N.Nodup)(hi:X.N[io]?=some x)(hk:X.env.scope.names.lookup x=some .local)(hn:X.env.kindOf x=some .local)(hio:io≠it)(hN:X.N[it]?=some tx:=by rfl)(hv:Vis X.env.scope tx:=by first | exact Or.inl rfl | exact Or.inr (Or.inl rfl) | exact Or.inr (Or.inr rfl))(hd:(tx == ("__debug__" : Str))=false:=by decide)(hcd:(tx == ("__classdict__" : Str))=false:=by decide)(hd2:(x == ("__debug__" : Str))=false:=by decide)(hs:swapsWith e1 (some (.Name x np)) pos.line X.env=pure false:=by rfl)(hbase:attributeBase (.Name tx p1) "replace" X.env (eval (.Name tx p1) X.env)=eval (.Name tx p1) X.env:=by rfl)(hline:(apos.endLine == qV.line)=true:=by rfl)(hst:starEach [e2,.Name x p2] X.env=[(false,eval e2 X.env),(false,eval (.Name x p2) X.env)]:=by rfl) :
  PSsq X [.Assign [.Name x np] e1 pos,.Return (some (.Call (.Attribute (.Name tx p1) "replace" apos) [e2,.Name x p2] [] qV)) rp]
   (λD σ H=>∃a:Str,σ[it]?=some (some (.str a))/\S1 σ H λz H1=>S2 (σ.set io (some (.str z))) H1 λy H2=>y≠z/\0<y.length/\a.length+(Builtin.Str.occurrences a y 0 a.length (a.length+1)).length * z.length<=sizeLine/\(Y8 a y z).length<=sizeLine/\∀r,r=a\/r=Y8 a y z->D.rt (.str r) H2):=by
 intro qQ s σ H D I h0 h;obtain ⟨a,ea0,h⟩:=h;refine wpAny_execs_cons (wpAny_Assign_Name (thn (h1 qQ s σ H _ I h0 h) λv s1 hv1=>?_) hs);obtain ⟨z,tz,H1,rfl,htz,kp1,t1,I1,q1⟩:=hv1;obtain ⟨m,hm,_⟩:=id I1.loc;have hcls:(X.env.scope.kind == .class || (X.env.scope.kind == .module && X.env.locals != X.env.globals))=false:=by rw [I1.ok.kind];rfl
 have both:=Xb (U5 t1 (JX (M:=model X.prog X.w) (A:=X.A) (E:=X.xe) (v:=.str z) (Q:=λ_ s'=>Inv X qQ (σ.set io (some (.str z))) H1 s') I1 hND hi (.inl hk) ⟨tz,rfl⟩ (λs' J=>J) (.inr hk)) (Q':=λ_ s'=>0<s'.toks/\Inv X qQ (σ.set io (some (.str z))) H1 s') λ_ s' h J=>⟨h,J⟩) (wpAny_storeName_local (M:=model X.prog X.w) (A:=X.A) (E:=X.xe) (v:=.str z tz) (Q:=λ_ s'=>∃m,s'.heap.Ns X.env.locals m/\m x=some (.str z tz)) hn hm (λh' hn' _=>⟨_,hn',by simp⟩) hcls);refine wpAny_mono both (λ_ s2 ⟨⟨t2,I2⟩,m2,hm2,em2⟩=>?_) (λ_ _ z=>z.1);refine wpAny_execs_cons (wpAny_Return_some ?_);have ea:(σ.set io (some (.str z)))[it]?=some (some (.str a)):=by rw [List.getElem?_set_ne hio];exact ea0
 refine wpAny_Call_method_late hbase (by rw [hst];rfl) hline (congrArg (backTo qV) hst) (ZO I2 ea hN hv hd hcd λu ru=>?_);obtain ⟨ta',rfl⟩:=ru;refine ⟨"str", "str.replace", PySem.F.plainAttrs_str,PySem.F.slot_str_replace,PySem.F.type_str_replace,typeIs_str _ _ _,(λ_ z=>by cases z),?_⟩;refine Calls.callWith_builtin rfl (Calls.evalArgs_plain ?_);refine Calls.spliced_cons (thn (h2 qQ s2 _ H1 _ I2 t2 q1) λv s3 hv3=>?_);obtain ⟨y,ty,H3,rfl,hty,kp3,t3,I3,hyz,hy0,hl,hR,q⟩:=hv3;refine Calls.spliced_cons (wpAny_Name (wpAny_loadName_local I3.ok.kind hn (hm2.keeps kp3) em2 ?_) hd2);refine Calls.spliced_nil ?_;refine call_gives PySem.F.slot_str_replace (typeIs_str _ _ _) PySem.F.entry_str_replace (PySem.F.args_str_replace_3 _ _ _) (Xc a y z ta' ty tz hty htz hyz hy0 hl) ?_;split
 ·rw [Made.post.eq_1];exact ⟨.str a,_,H3,I3,⟨_,rfl⟩,q a (.inl rfl)⟩
 ·rw [Made.post.eq_3];exact ⟨hR,.str _,_,H3,I3.tok _,⟨_,rfl⟩,q _ (.inr rfl)⟩
end
end L2
namespace L2
open PySem PySem.Spec PyProof.Rows
section
variable {X:Cx}
theorem Y9 {a b:Expr}{ta tb:TE}{pos:Pos}(ha:PEq X a ta)(hb:PE X b tb):PEq X (.BinOp a .Add b pos) (Vy ta tb):=by
 intro qQ s σ H Q I h0 h;refine wpAny_BinOp (thn (ha qQ s σ H _ I h0 h) λv s1 ⟨x,H1,I1,rx,q1⟩=>thn (hb qQ s1 σ H1 _ I1 q1) λu s2 ⟨y,H2,I2,ry,q⟩=>?_);obtain ⟨i,j,rfl,rfl,hl,q⟩:=q;obtain ⟨t,rfl⟩:=rx;obtain ⟨t',rfl⟩:=ry;exact SBL.add (hsz:=hl) λt' k _=>⟨.str _,H2,I2.tok _,⟨_,rfl⟩,q⟩
theorem ZaP {o:Expr}{to:TE}{j1 j2 j3:Nat}{apos p1 p2 p3 qV:Pos}(ho:PE X o to)(hbase:attributeBase o "replace" X.env (eval o X.env)=eval o X.env:=by rfl)(hline:(apos.endLine == qV.line)=true:=by rfl) :
  PEq X (.Call (.Attribute o "replace" apos) [.Constant (.str " ") j1 p1,.Constant (.str "  ") j2 p2,.Constant (.int 1) j3 p3] [] qV)
   (λσ H Q=>to σ H λx H1=>∃a:Str,x=.str a/\a.length<=1000000/\∀y:Str,y=a\/(∃u v,a.cps.toList=u++32::v/\y=mkS (u++[32,32]++v))->Q (.str y) H1):=by
 intro qQ s σ H Q I h0 h;have h16:(16777216:Nat)=sizeLine:=sizeLine_eq.symm;refine wpAny_Call_method_late hbase rfl hline rfl (U5 h0 (ho qQ s σ H _ I h) λov s1 h1 ⟨x,H1,I1,r1,a,e,hl,q⟩=>?_);subst e;obtain ⟨t,rfl⟩:=r1;refine ⟨"str", "str.replace", PySem.F.plainAttrs_str,PySem.F.slot_str_replace,PySem.F.type_str_replace,typeIs_str _ _ _,(λ_ z=>by cases z),?_⟩;refine Calls.callWith_builtin rfl (Calls.evalArgs_plain ?_);refine Calls.spliced_cons (Calls.Constant_str (k:=j1) (pos:=p1) ?_);refine Calls.spliced_cons (Calls.Constant_str (k:=j2) (pos:=p2) ?_);refine Calls.spliced_cons (wpAny_Constant_int (k:=j3) (pos:=p3) ?_);refine Calls.spliced_nil ?_;have hc:(Builtin.Str.occurrences a " " 0 a.length 1).length<=1:=by
  show (Builtin.Str.occurrences a ⟨#[32]⟩ 0 a.length 1).length<=1;rw [Os,List.length_take]
  lia
 refine call_gives PySem.F.slot_str_replace (typeIs_str _ _ _) PySem.F.entry_str_replace (PySem.F.args_str_replace_4 _ _ _ _) (XU a " " "  " t s1.toks (s1.toks+1) _ (show s1.toks≠0 from Nat.pos_iff_ne_zero.mp h1) (Nat.succ_ne_zero s1.toks) (Nat.ne_of_lt (Nat.lt_succ_self s1.toks)) (by decide) (by decide) (by show a.length+2<=sizeLine;lia) hc) ?_;have toL:∀y:Str,y.cps.toList.length=y.length:=λy=>Array.length_toList;split
 ·rw [Made.post.eq_1];exact ⟨.str a,H1,I1.tok _,⟨_,rfl⟩,q a (.inl rfl)⟩
 ·rename_i hm;obtain ⟨u,v,e1,e2⟩:=Y3 a "  " 32 (Bool.eq_false_iff.mpr hm);have e2:Builtin.Str.glued "  " (Builtin.Str.partsBetween a (Builtin.Str.occurrences a " " 0 a.length 1) (" " : Str).length)=mkS (u++[32,32]++v):=e2;rw [e2,Made.post.eq_3];have qJ:(mkS (u++[32,32]++v)).length=a.length+1:=by
   rw [<-toL,<-toL a,e1];show (u++[32,32]++v).length=_;simp
   lia
  exact ⟨by lia,.str _,H1,I1.tok _,⟨_,rfl⟩,q _ (.inr ⟨u,v,e1,rfl⟩)⟩
end
inductive Rp (y z:List Nat):List Nat->List Nat->Prop
 | nil:Rp y z [] []
 | keep {c:Nat} {x r:List Nat}:Rp y z x r->Rp y z (c::x) (c::r)
 | rep {x r:List Nat}:Rp y z x r->Rp y z (y++x) (z++r)
theorem Rp.app {y z a x r:List Nat}(h:Rp y z x r):Rp y z (a++x) (a++r):=by
 induction a with
 | nil=>exact h
 | cons c a ih=>exact .keep ih
theorem Rp.refl {y z a:List Nat}:Rp y z a a:=by
 have:=Rp.app (y:=y) (z:=z) (a:=a) .nil;simpa using this
inductive ZbT (x y:List Nat):Nat->List Nat->Prop
 | nil {k:Nat}:k<=x.length->ZbT x y k []
 | cons {k p:Nat} {F:List Nat}:k<=p->(x.drop p).take y.length=y->p+y.length<=x.length->ZbT x y (p+y.length) F->ZbT x y k (p::F)
theorem VC {x y z:List Nat}:∀{F:List Nat}{k:Nat},ZbT x y k F->Rp y z (x.drop k) (Uo z (((k::F.map (·+y.length)).zip (F++[x.length])).map λp=>(x.take p.2).drop p.1))
 | [],k,.nil hk=>by
  simp [Uo];exact Rp.refl
 | p::F,k,.cons h1 h2 h3 h4=>by
  have ih:=VC (z:=z) h4;have e:x.drop k=(x.take p).drop k++(y++x.drop (p+y.length)):=by
   have e1:y++x.drop (p+y.length)=x.drop p:=by
    have:=List.take_append_drop y.length (x.drop p);rw [h2,List.drop_drop] at this;exact this
   rw [e1];have:=List.take_append_drop (p-k) (x.drop k);rw [List.drop_drop] at this;rw [List.drop_take];rw [show k+(p-k)=p by lia] at this;exact this.symm
  rw [e];have e2:Uo z (((k::(p::F).map (·+y.length)).zip ((p::F)++[x.length])).map λq=>(x.take q.2).drop q.1)=(x.take p).drop k++(z++Uo z ((((p+y.length)::F.map (·+y.length)).zip (F++[x.length])).map λq=>(x.take q.2).drop q.1)):=by
   cases F with
   | nil=>simp [Uo]
   | cons p' F=>simp [Uo]
  rw [e2];exact Rp.app (.rep ih)
theorem O9 (x y:Str)(limit:Nat)(hy:0<y.length):∀(m k:Nat)(st:Array Nat×Nat),k+m=x.length+1->st.2<=x.length ->
  ∃F,(forIn (List.range' k m) st (StrLaws.occBody x y x.length limit)).run.fst.toList=st.1.toList++F/\ZbT x.cps.toList y.cps.toList st.2 F
 | 0,k,st,e,hf=>⟨[],by show st.1.toList=st.1.toList++[];simp,.nil (by rw [Array.length_toList];exact hf)⟩
 | m+1,k,st,e,hf=>by
  have hL:x.cps.toList.length=x.length:=Array.length_toList;have hLy:y.cps.toList.length=y.length:=Array.length_toList;rw [List.range'_succ,List.forIn_cons];unfold StrLaws.occBody;split
  ·rename_i hc;obtain ⟨⟨⟨hl,h1⟩,h2⟩,h3⟩:=hc;obtain ⟨F,e1,c1⟩:=O9 x y limit hy m (k+1) (st.1.push k,k+y.length) (by lia) h2;refine ⟨k::F,e1.trans ?_,.cons h1 ?_ (by lia) (by rw [hLy];exact c1)⟩
   ·simp
   ·have h3:(x.cps.extract k (k+y.length) == y.cps)=true:=h3;have h3:=eq_of_beq h3;have h4:=congrArg Array.toList h3;rw [Array.toList_extract,List.extract_eq_take_drop] at h4;rw [hLy,<-h4];simp
  ·exact O9 x y limit hy m (k+1) (st.1,st.2) (by lia) hf
theorem Zcu {x y z:Str}(hy:0<y.length):Rp y.cps.toList z.cps.toList x.cps.toList (Y8 x y z).cps.toList:=by
 obtain ⟨F,e,c⟩:=O9 x y (x.length+1) hy (x.length+1) 0 (#[],0) (by lia) (Nat.zero_le _);have eo:Builtin.Str.occurrences x y 0 x.length (x.length+1)=F:=by
  rw [StrLaws.occ_eq];refine Eq.trans ?_ (e.trans (by simp))
  rfl
 have hLy:y.cps.toList.length=y.length:=Array.length_toList;have hL:x.cps.toList.length=x.length:=Array.length_toList;unfold Y8;rw [eo];have g:=VC (z:=z.cps.toList) c;rw [List.drop_zero] at g;have ep:Builtin.Str.partsBetween x F y.length=(((0::F.map (·+y.cps.toList.length)).zip (F++[x.cps.toList.length])).map λp=>(x.cps.toList.take p.2).drop p.1).map mkS:=by
  unfold Builtin.Str.partsBetween;rw [List.map_map,hLy,hL];refine List.map_congr_left λp _=>?_;exact Of x p.1 p.2
 rw [ep,UO];exact g
theorem ZQ {x y:List Nat}(hy:0<y.length):∀{F:List Nat}{k:Nat},ZbT x y k F->F.length+k<=x.length
 | [],k,.nil h=>by simpa using h
 | p::F,k,.cons h1 h2 h3 h4=>by
  have:=ZQ hy h4;rw [List.length_cons]
  lia
theorem X1 {x y:Str}(hy:0<y.length):(Builtin.Str.occurrences x y 0 x.length (x.length+1)).length<=x.length:=by
 obtain ⟨F,e,c⟩:=O9 x y (x.length+1) hy (x.length+1) 0 (#[],0) (by lia) (Nat.zero_le _);have eo:Builtin.Str.occurrences x y 0 x.length (x.length+1)=F:=by
  rw [StrLaws.occ_eq];refine Eq.trans ?_ (e.trans (by simp))
  rfl
 rw [eo];have:=ZQ (by rw [Array.length_toList];exact hy) c;have hL:x.cps.toList.length=x.length:=Array.length_toList
 lia
end L2
namespace L2
open PySem PySem.Spec PyProof.Rows
def SameL (P:Addr)(H H':Hp):Prop:=∀a o,a≠P->H a=some o->H' a=some o
theorem SameL.of {P:Addr}{H H':Hp}(s:Same H H'):SameL P H H':=λa o _ e=>s a o e
theorem SameL.trans {P:Addr}{H H' H'':Hp}(a:SameL P H H')(b:SameL P H' H''):SameL P H H'':=λc o n e=>b c o n (a c o n e)
def Zcv (qual:Str)(oc:Obj):Prop:=∃vs t,oc.data=.fields vs/\vs[1]?=some (.str qual t)
end L2
namespace L2
open PySem PySem.Spec PyProof.Rows
def ZaQ (P:Addr)(H:Hp):Prop:=∀b,b≠P->H b=none\/∃o xs,H b=some (.frz o (.lst xs))
theorem X2 {Pr:Program}{w:World}{K:W.Frag}{mg mb:Str->Option Value}{CX:CXT}{k:Nat}{fa a c P:Addr}{fd:FuncData}{x:Str}{sp:Sp}{s₁:Shared}{vs:List Value}{ns:List Int}(KX:K.In s₁.heap)(hns:s₁.heap.Ns mainGlobals mg)(hb:s₁.heap.Ns builtinsNs mb)(hbb:∀x:Str,x ≠ "__name__" -> mb x=bootBuiltins x)(hlim:s₁.heap.NoLimit)(hg:s₁.gens=#[])(C:W.CodeHd s₁.heap c P)(hP:s₁.heap.get? P=some (W.tabObj #[]))(hKP:K.lookup P=none)(hB:s₁.heap.BuiltinsAt mg P)(ha:s₁.heap.get? a=some { cls:=.type "list", data:=.seq vs.toArray })(hi:IntsAre vs ns)(hl:ns.length<=sizeLine)(hr:Room k callerA)(F:∀base:Heap,K.In base->base.Ns mainGlobals mg->W.CodeHd base c P->base.BuiltinsAt mg P->Jl Pr w K mg base CX k fa fd [x] sp)(hbind:∀(s:Shared)(u:Value),BindsTo s fd ⟨[u],[]⟩ [(x,u)])(hsp:∀H:Hp,ZaQ P H->H P=some (.tbl #[])->SqL K H a (ns.map V.int)->sp [.ref a] H (λv _=>v=.bl true) λ_ _ _=>False)(hCX:∀H e s',CX [] H s₁ (λ_ _ _=>False) e s'->False) :
  codeAny (model Pr w) callerA (.call (.ref fa) ⟨[.ref a],[]⟩) (λr s'=>r=.ok (.ret (.bool true))/\OldK s₁.heap s'.heap/\s'.os=s₁.os/\AllBare s'.gens) s₁:=by
 have rv:=Vr hi;have lenV:=hi.length;have naP:a≠P:=λz=>by rw [z,hP] at ha;cases ha
 have core:∀H:Hp,ZaQ P H->H P=some (.tbl #[])->SqL K H a (ns.map V.int)->HOk Pr w H s₁.heap->(∀b,H b≠none->b=a\/b=P)->(H a≠none->K.lookup a=none) ->
   codeAny (model Pr w) callerA (.call (.ref fa) ⟨[.ref a],[]⟩) (λr s'=>r=.ok (.ret (.bool true))/\OldK s₁.heap s'.heap/\s'.os=s₁.os/\AllBare s'.gens) s₁:=by
  intro H hO hHP hS hok hA hK;have base_of:∀{b:Addr}{o:Obj},s₁.heap.get? b=some o->H b=none->(Xj s₁.heap H).get? b=some o:=λe n=>YH e n;have noA:∀{b:Addr}{o:Obj},s₁.heap.get? b=some o->o.cls≠.type "list" -> o.cls≠.none->H b=none:=λ{b o} e d1 d2=>by
   cases q:H b with
   | none=>rfl
   | some u=>
    rcases hA b (by rw [q];simp) with e' | e'
    ·rw [e',ha] at e;cases e;exact absurd rfl d1
    ·rw [e',hP] at e;cases e;exact absurd rfl d2
  have noD:∀{b:Addr}{o:Obj}{es:Array DictEntry}{ep:Nat},s₁.heap.get? b=some o->o.data=.dict es ep->H b=none:=λ{b o es ep} e d=>by
   cases q:H b with
   | none=>rfl
   | some u=>
    rcases hA b (by rw [q];simp) with e' | e'
    ·rw [e',ha] at e;cases e;cases d
    ·rw [e',hP] at e;cases e;cases d
  have nsK:∀{b:Addr}{m:Str->Option Value},s₁.heap.Ns b m->(Xj s₁.heap H).Ns b m:=λ{b m} ⟨o,es,ep,e,d,r⟩=>⟨o,es,ep,base_of e (noD e d),d,r⟩;have hKb:K.In (Xj s₁.heap H):=λb o e=>base_of (KX b o e) (by
   cases q:H b with
   | none=>rfl
   | some u=>
    rcases hA b (by rw [q];simp) with e' | e'
    ·subst e';rw [hK (by rw [q];simp)] at e;cases e
    ·subst e';rw [hKP] at e;cases e)
  have hM:Mod K mg (Xj s₁.heap H):=⟨hKb,nsK hns,⟨mb,nsK hb,hbb⟩,let ⟨mc,h1,h2⟩:=hlim;⟨mc,nsK h1,h2⟩⟩;have e0:Zam Pr w K mg (Xj s₁.heap H) callerA [] s₁ H:=⟨rfl,hM,λb o e=>Zab e,Nat.le_of_eq (Xk _ _),trivial,λb hb=>absurd (show b∈([]:List Addr) from hb) (by simp),hok,.of_eq hg⟩;have Cb:W.CodeHd (Xj s₁.heap H) c P:=by
   obtain ⟨o,ws,file,tf,flags,tg,inF,text,tt,e1,r1,r2⟩:=C;exact ⟨o,ws,file,tf,flags,tg,inF,text,tt,base_of e1 (noA e1 (by rw [r1];decide) (by rw [r1];nofun)),r1,r2⟩
  have Bb:(Xj s₁.heap H).BuiltinsAt mg P:=by
   obtain ⟨bm,o,h1,h2,h3,h4,h5,h6,h7⟩:=hB;exact ⟨bm,o,h1,h2,h3,h4,base_of h5 (noA h5 (by rw [h6];decide) (by rw [h6];nofun)),h6,h7⟩
  refine codeAny_mono ((F _ hKb (nsK hns) Cb Bb).run callerA [] s₁ H ⟨[.ref a],[]⟩ [.ref a] [.ref a] _ _ hr e0 (hbind s₁ (.ref a)) (.cons rfl .nil) (hsp H hO hHP hS)) λr s' h=>?_;cases r with
  | error e=>exact (hCX H e s' h).elim
  | ok fl=>
   cases fl with
   | next=>exact False.elim h
   | brk=>exact False.elim h
   | cont=>exact False.elim h
   | ret u=>
    obtain ⟨v,H',os,bare,un,hok',r',q⟩:=h;have q':v=.bl true:=q;subst q';obtain rfl:u=Value.bool true:=r';obtain ⟨more,eP⟩:=un.tbls P _ hHP;have hP':s'.heap.get? P=some { cls:=.none,data:=.fields (#[]++more) }:=hok' P _ eP;have kp:∀b o,b≠P->s₁.heap.get? b=some o->s'.heap.get? b=some o:=λb o hbP e=>by
     cases q:H b with
     | none=>exact un.keep b o e q (by intro z;exact absurd (show b∈([]:List Addr) from z) (by simp)) (by simp)
     | some u=>
      rcases hO b hbP with z | ⟨ob,xs,z⟩
      ·rw [q] at z;cases z
      ·have z2:=un.frzs b ob _ z;obtain ⟨e1,_⟩:=hok b _ z;obtain ⟨e2,_⟩:=hok' b _ z2;rw [e] at e1;cases e1;exact e2
    refine ⟨rfl,⟨λb o e=>?_,λb o e=>?_⟩,os,bare⟩
    ·by_cases hbP:b=P
     ·subst hbP;rw [hP] at e;cases e;exact .inr (.inl ⟨(C.tab hP).isCodeTable,rfl,#[],more,rfl,hP'⟩)
     ·exact .inl (kp b o hbP e)
    ·by_cases hbP:b=P
     ·rw [hbP];exact ⟨_,hP'⟩
     ·exact ⟨o,kp b o hbP e⟩
 cases hk:K.lookup a with
 | some o=>
  have e:=KX a o hk;rw [ha] at e;cases e;refine core (λb=>if b=P then some (.tbl #[]) else none) (λb hb=>.inl (if_neg hb)) (if_pos rfl) (.inr ⟨_,vs.toArray,_,hk,rfl,rfl,rfl,by rw [List.size_toArray,lenV];exact hl,by simpa using rv⟩) (λb u z=>?_) (λb z=>?_) λz=>absurd (if_neg naP) z
  ·by_cases hb:b=P
   ·have z':=(if_pos hb).symm.trans z;cases z';rw [hb];exact hP
   ·have z':=(if_neg hb).symm.trans z;cases z'
  ·by_cases hb:b=P
   ·exact .inr hb
   ·exact absurd (if_neg hb) z
 | none=>
  refine core (λb=>if b=P then some (.tbl #[]) else if b=a then some (.frz { cls:=.type "list", data:=.seq vs.toArray } (.lst (ns.map V.int))) else none) (λb hb=>?_) (if_pos rfl) (.inl (.inr ⟨{ cls:=.type "list", data:=.seq vs.toArray },(if_neg naP).trans (if_pos rfl)⟩)) (λb u z=>?_) (λb z=>?_) λ_=>hk
  ·by_cases hb2:b=a
   ·exact .inr ⟨_,_,(if_neg hb).trans (if_pos hb2)⟩
   ·exact .inl ((if_neg hb).trans (if_neg hb2))
  ·by_cases hb:b=P
   ·have z':=(if_pos hb).symm.trans z;cases z';rw [hb];exact hP
   ·by_cases hb2:b=a
    ·have z':=((if_neg hb).trans (if_pos hb2)).symm.trans z;cases z';subst hb2;exact ⟨ha,by rw [List.length_map];exact hl,vs,_,rv,ha⟩
    ·have z':=((if_neg hb).trans (if_neg hb2)).symm.trans z;cases z'
  ·by_cases hb:b=P
   ·exact .inr hb
   ·by_cases hb2:b=a
    ·exact .inl hb2
    ·exact absurd ((if_neg hb).trans (if_neg hb2)) z
theorem walk_ofT {l:W.OpenLaw}{n k:Nat}{q:Program}{loose:List Str}{XP:(Str->Option Value)->Heap->Prop}{YP:World->Heap->Prop}{d dd:DefRec}{K:Params->W.Frag}{CX:World->CXT}{sp:World->Addr->Sp}{x tn:Str}(hn:l.most=some n)(hn2:n<=sizeLine)(hdf:d.params.defaults=[])(hr:Room k callerA)(hY:∀(w:World)(h:Heap),YP w h->(K w.params).In h)(hrec:(recsOf q).find? (λe=>e.name == tn)=some dd)(F:∀(w:World)(mg:Str->Option Value)(fa:Addr)(h:Heap),(K w.params).In h->h.Ns mainGlobals mg->mg d.name=some (.ref fa) ->
   ∃(fd:FuncData)(c P:Addr),W.tabIn (K w.params) tn=some (c,P)/\(K w.params).lookup P=none/\(∀(s:Shared)(u:Value),BindsTo s fd ⟨[u],[]⟩ [(x,u)]) /\
    ∀base:Heap,(K w.params).In base->base.Ns mainGlobals mg->W.CodeHd base c P->base.BuiltinsAt mg P->Jl l.prog w (K w.params) mg base (CX w) k fa fd [x] (sp w P))(hsp:∀(w:World)(P:Addr)(H:Hp)(a:Addr)(ns:List Int),ns.length<=n->ZaQ P H->H P=some (.tbl #[])->SqL (K w.params) H a (ns.map V.int)->sp w P [.ref a] H (λv _=>v=.bl true) λ_ _ _=>False)(hCX:∀(w:World)(H:Hp)(s:Shared)(e:Value)(s':Shared),CX w [] H s (λ_ _ _=>False) e s'->False) :
  W.WalkO q loose XP YP l.row.toRowW d [] (λf vs=>PySem.call f vs):=by
 refine Att.attach_call hn hdf λw s₀ s₁ mg mb fa o pm cd doc a vs ns G Y ho hd hcd hmg hobj hints qJ hg=>?_;have KX:=hY w _ Y;obtain ⟨fd,c,P,htab,hKP,hb,hF⟩:=F w mg fa _ KX G.T.g hmg;obtain ⟨C,hP⟩:=W.tab_of G.T KX hrec htab;have hB:s₁.heap.BuiltinsAt mg P:=by
  obtain ⟨bm,ob,b1,b2,b3,b4,b5,b6⟩:=G.T.bmain;refine ⟨bm,ob,b1,b2,λz=>?_,λz=>?_,b3,b4,b5,b6⟩
  ·obtain ⟨o',es,ep,e,hd',_⟩:=G.T.g;rw [z,e] at b3;cases b3;rw [hd'] at b6;cases b6
  ·rw [z,hP] at b3;cases b3;cases b4
 exact X2 KX G.T.g G.T.b G.T.builtins G.T.nolimit hg C hP hKP hB hobj hints (Nat.le_trans qJ hn2) hr hF hb (λH hO hT hS=>hsp w P H a ns qJ hO hT hS) λH e s'=>hCX w H s₁ e s'
end L2
namespace L2
open PySem PySem.Spec PyProof.Rows
section
variable {P:Program}{w:World}{K:W.Frag}{mg:Str->Option Value}{base:Heap}
theorem Fun.okC {x qual:Str}{st:Stmt}{f c:Addr}{fd:FuncData}{N ps:List Str}{k:Nat}{sp:Sp}(F:Fun K x qual st f fd)(hc:fd.code=.ref c)(S:Gz N ps (Gh st))(len:∀vs H Q E,sp vs H Q E->vs.length=ps.length)(qW:∀(A:Around)(outer:List Env)(s:Shared)(H:Hp)(vs:List V)(Q:VK)(E:XK),Room k (A.deeper (envOfC qual (Gh st) s.heap.objs.size f (.ref c)))->sp vs H Q E ->
   ∃t,PSs (WV CX0 P w K mg base N qual (Gh st) f (.ref c) A outer s H E).nox (Gy st) t/\t { nx:=λ_ H'=>Q .non H',rt:=Q } (JU N vs) H):Jl P w K mg base CX0 (k+1) f fd ps sp:=by
 obtain ⟨oc,od,kV,doc,pm,an,cdv,ct,osl,rfl,lk,hcd⟩:=F.ex;have e:cdv=.ref c:=hc;subst e;refine Zb9 lk hcd S len λA outer s H vs Q E hr hsp=>?_;obtain ⟨t,h,q⟩:=qW A outer s H vs Q E hr hsp;exact ⟨t,h.nox,q⟩
theorem SameL.tup {P:Addr}{H H':Hp}{a:Addr}{xs:List V}{ps:Array Value}(s:SameL P H H')(hP:H P=some (.tbl ps))(e:H a=some (.tup xs)):H' a=some (.tup xs):=s a _ (λz=>by rw [z,hP] at e;cases e) e
end
end L2
namespace L2
open PySem PySem.Spec PyProof.Rows
section
variable {X:Cx}
def Zcw (i:Nat)(f:Addr)(sp:Sp)(dvs:List V)(E:XK)(t:TA):TE:=λσ H Q=>σ[i]?=some (some (.ref f))/\VP sp dvs E t σ H Q
theorem Za {CX:CXT}{k i:Nat}{f:Addr}{fd:FuncData}{ps:List Str}{sp:Sp}{ds:List Value}{dvs:List V}{E:XK}{x:Str}{e:Expr}{es:List Expr}{t:TA}{p pos:Pos}(F:Jl X.prog X.w X.K X.mg X.base CX k f fd ps sp)(hr:Room k X.A)(hv:PE X (.Name x p) (OT i))(hk:W.keepIn X.K (.ref f)=true)(hb:Binds X.K fd ps ds)(hd:Vals dvs ds)(hx:OU CX X E)(ha:PA X (e::es) t)(he:starEach (e::es) X.env=(false,eval e X.env)::starEach es X.env:=by rfl)(hpl:(backTo pos (starEach es X.env)).any (·.1)=false:=by rfl):PE X (.Call (.Name x p) (e::es) [] pos) (Zcw i f sp dvs E t):=by
 intro qQ s σ H Q I h;refine wpAny_Call_Name_kw (thn (hv qQ s σ H (λv H'=>v=.ref f/\H'=H) I ⟨_,h.1,rfl,rfl⟩) λu s1 ⟨v,H1,I1,r1,ev,eH⟩=>?_);subst ev eH;obtain rfl:u=Value.ref f:=r1;refine W.callWith_K (h₀:=X.base) I1.ok.mod.kin hk (thn (ha pos qQ s1 σ H1 _ I1 h.2) λus s2 ⟨vs,H2,I2,r,q⟩=>⟨I2.kIn,?_⟩) he hpl;exact We F hr hb hd hx I2 r q
end
end L2
namespace L2
open PySem PySem.Spec PyProof.Rows
def Zcx (H:Hp)(c:Addr)(v:V):Prop:=∃o u,H c=some (.frz o (.own c))/\o.data=.cell (some u)/\RelV v u
abbrev Zb:=List (Str×Addr)
def CellsAt (H:Hp)(cl:Zb)(vs:List V):Prop:=Paired (λ(q:Str×Addr) v=>Zcx H q.2 v) cl vs
def OC (cl:Zb)(H:Hp):Hp:=λb=>if b∈cl.map (·.2) then none else H b
def Xd (cl:Zb)(H H':Hp):Hp:=λb=>if b∈cl.map (·.2) then H b else H' b
section
variable {cl:Zb}{H H':Hp}{b:Addr}
theorem Oa (h:b∈cl.map (·.2)):OC cl H b=none:=if_pos h
theorem Jv (h:b ∉ cl.map (·.2)):OC cl H b=H b:=if_neg h
theorem VW (h:b∈cl.map (·.2)):Xd cl H H' b=H b:=if_pos h
theorem JP (h:b ∉ cl.map (·.2)):Xd cl H H' b=H' b:=if_neg h
theorem CellsAt.frz:∀{cl:Zb}{vs:List V},CellsAt H cl vs->∀c∈cl.map (·.2),∃o,H c=some (.frz o (.own c))
 | _,_,.nil,c,h=>by simp at h
 | _,_,.cons r t,c,h=>by
  rw [List.map_cons] at h;rcases List.mem_cons.mp h with rfl | h
  ·obtain ⟨o,u,e,_⟩:=r;exact ⟨o,e⟩
  ·exact CellsAt.frz t c h
theorem Zc {P:Program}{w:World}{h:Heap}(ok:HOk P w H h)(hz:∀c∈cl.map (·.2),∃o,H c=some (.frz o (.own c))):HOk P w (OC cl H) h:=λa o e=>by
 have ha:a ∉ cl.map (·.2):=λz=>by rw [Oa z] at e;cases e
 rw [Jv ha] at e;refine (ok a o e).stay (λ_ _ _ q=>q) (λd q=>?_) λd ys q=>?_
 ·rw [Jv (λz=>by obtain ⟨o',e'⟩:=hz d z;rw [e'] at q;cases q)];exact q
 ·rw [Jv (λz=>by obtain ⟨o',e'⟩:=hz d z;rw [e'] at q;cases q)];exact q
theorem OD {α:Type}:∀{l:List (Str×α)}{x:Str}{u:α},(l.map (·.1)).Nodup->(x,u)∈l->l.lookup x=some u
 | [],_,_,_,h=>by cases h
 | p::l,x,u,nd,h=>by
  rw [List.map_cons,List.nodup_cons] at nd;rw [List.lookup_cons];rcases List.mem_cons.mp h with rfl | h
  ·simp
  ·have hne:(x == p.1)=false:=by
    rw [beq_eq_false_iff_ne];exact λz=>nd.1 (by rw [<-z];exact List.mem_map.mpr ⟨_,h,rfl⟩)
   rw [hne];exact OD nd.2 h
theorem Xe {ps:List Str}{us:List Value}(hl:us.length=ps.length)(nd:ps.Nodup){i:Nat}{x:Str}{u:Value}(h1:ps[i]?=some x)(h2:us[i]?=some u):(ps.zip us).reverse.lookup x=some u:=by
 refine OD ?_ ?_
 ·rw [List.map_reverse,List.map_fst_zip (by lia)];unfold List.Nodup at nd ⊢;rw [List.pairwise_reverse];exact nd.imp λh=>Ne.symm h
 ·rw [List.mem_reverse];refine List.mem_of_getElem? (i:=i) ?_;rw [List.getElem?_zip_eq_some];exact ⟨h1,h2⟩
end
structure U7 (N ps fr:List Str)(sc:Scope):Prop where
 kind:sc.kind=.function
 co:sc.isCoroutine=false
 gen:sc.isGenerator=false
 nd:N.Nodup
 pre:N.take (ps++fr).length=ps++fr
 par:∀x∈ps,sc.names.lookup x=some .local
 frk:∀x∈fr,sc.names.lookup x=some .free
 nocell:∀y∈sc.names,y.2≠.cell
 free:∀y∈sc.names,y.2=.free->y.1∈fr
def UC (P:Program)(w:World)(K:W.Frag)(mg:Str->Option Value)(base:Heap)(N:List Str)(qual:Str)(scope:Scope)(clos:Zb)(f:Addr)(cd:Value)(A:Around)(outer:List Env)(s:Shared)(H:Hp):Cx where
 prog:=P
 w:=w
 K:=K
 mg:=mg
 base:=base
 A:=A.deeper (W.envX qual scope s.heap.objs.size f cd clos)
 N:=N
 s₀:=s
 H₀:=OC clos H
 env:=W.envX qual scope s.heap.objs.size f cd clos
 outer:=outer
 stack:=W.envX qual scope s.heap.objs.size f cd clos::outer
 ex:=[]
 calm:=true
 fn:=λ_=>false
 pn:=[]
 xe:=λ_ _=>False
section
variable {P:Program}{w:World}{K:W.Frag}{mg:Str->Option Value}{base:Heap}{N ps fr:List Str}{qual:Str}{scope:Scope}{clos:Zb}{f:Addr}{cd:Value}{A:Around}{outer:List Env}{s:Shared}{H:Hp}{us:List Value}{vs fvs:List V}
theorem ZaR {h1:Heap}{tk:Nat}(S:U7 N ps fr scope)(hd:A.handled=none)(e0:Zam P w K mg base A outer s H)(hl:vs.length=ps.length)(r:Vals vs us)(hc:CellsAt H clos fvs)(hfr:clos.map (·.1)=fr)(hnd:(clos.map (·.2)).Nodup)(hns:h1.Ns s.heap.objs.size (λx=>(ps.zip us).reverse.lookup x))(hk:∀b o,s.heap.get? b=some o->h1.get? b=some o) :
  Inv (UC P w K mg base N qual scope clos f cd A outer s H) [] (JU N (vs++fvs)) (OC clos H) { s with heap:=h1,toks:=tk }:=by
 have hfl:fvs.length=fr.length:=by rw [<-hfr,List.length_map];exact (Paired.length hc).symm
 have hpl:(vs++fvs).length<=N.length:=by
  have:=congrArg List.length S.pre;rw [List.length_take,List.length_append] at this;rw [List.length_append]
  lia
 have ndA:(ps++fr).Nodup:=by rw [<-S.pre];exact S.nd.sublist (List.take_sublist _ _)
 have ndP:ps.Nodup:=(List.nodup_append.mp ndA).1;have ndF:fr.Nodup:=(List.nodup_append.mp ndA).2.1;have cellOf:∀{i:Nat}{x:Str}{v:V},fr[i]?=some x->fvs[i]?=some v->∃c u,clos.lookup x=some c/\RelV v u/\h1.IsCell c (some u):=λ{i x v} e1 e2=>by
  rw [<-hfr,List.getElem?_map] at e1;obtain ⟨q,hq,rfl⟩:=Option.map_eq_some_iff.mp e1;obtain ⟨v',hv',o,u,ho,hd',rv⟩:=Wq hc hq;rw [e2] at hv';cases hv';refine ⟨q.2,u,OD (by rw [hfr];exact ndF) (List.mem_of_getElem? hq),rv,o,hk _ _ ?_,hd'⟩;exact (show ObjOk P w H s.heap q.2 (.frz o (.own q.2)) from e0.hok _ _ ho).1
 have ofLook:∀{x:Str}{c:Addr},clos.lookup x=some c->c∈clos.map (·.2):=λ{x c} e=>List.mem_map.mpr ⟨_,PySem.mem_of_lookup e,rfl⟩;have nob:∀b:Addr,b ∉ (UC P w K mg base N qual scope clos f cd A outer s H).ex:=λb z=>absurd (show b∈([]:List Addr) from z) (by simp);refine ⟨⟨e0.mod,S.kind,rfl,rfl,Nat.le_refl _,λy z c h1 h2=>?_,λy hy=>?_,λy c h _=>(nomatch h),λ_=>hd,Around.frames_deeper e0.frames,.inr ⟨rfl,rfl⟩,λb z=>absurd z (nob b),λb o e=>⟨(e0.bs b o e).1,?_⟩,e0.bsz,λb _ _=>nob b,λb z=>absurd z (nob b),e0.funs,λb hb=>?_⟩,
  rfl,e0.bare,Un.kept hk,⟨_,hns,λi y v h1 h2 h3=>?_⟩,λy c h=>?_,?_,λy c h=>Oa (ofLook h),λp hp=>absurd (show p∈([]:List (Addr×Obj)) from hp) (by simp),(Zc e0.hok hc.frz).kept hk,?_⟩
 ·have m1:=PySem.mem_of_lookup h1;have m2:=PySem.mem_of_lookup h2;have hp:clos.Pairwise λa b=>a.2≠b.2:=by unfold List.Nodup at hnd;rwa [List.pairwise_map] at hnd
  exact name_of_addr hp m1 m2
 ·have hy:scope.names.lookup y=some .cell\/scope.names.lookup y=some .free:=hy;rcases hy with hy | hy
  ·exact absurd rfl (S.nocell _ (PySem.mem_of_lookup hy))
  ·have hm:=S.free _ (PySem.mem_of_lookup hy) rfl;rw [<-hfr] at hm;obtain ⟨q,hq,rfl⟩:=List.mem_map.mp hm;exact ⟨q.2,OD (l:=clos) (by rw [hfr];exact ndF) hq⟩
 ·by_cases z:b∈clos.map (·.2)
  ·exact Oa z
  ·show OC clos H b=none;rw [Jv z];exact (e0.bs b o e).2
 ·by_cases z:b∈clos.map (·.2)
  ·exact Oa z
  ·show OC clos H b=none;rw [Jv z];exact e0.frf b hb
 ·have hi:i<(vs++fvs).length:=by
   unfold JU at h2;by_cases hi:i<(vs++fvs).length
   ·exact hi
   ·rw [List.getElem?_append_right (by simpa using hi)] at h2;rw [List.getElem?_replicate] at h2;split at h2 <;> cases h2
  have ha:(vs++fvs)[i]?=some v:=by
   unfold JU at h2;rw [List.getElem?_append_left (by rw [List.length_map];exact hi),List.getElem?_map] at h2;cases e:(vs++fvs)[i]? with
   | none=>rw [e] at h2;cases h2
   | some a=>rw [e] at h2;cases h2;rfl
  have hp:(ps++fr)[i]?=some y:=by
   rw [<-S.pre,List.getElem?_take_of_lt (by rw [List.length_append] at hi ⊢;lia)];exact h1
  by_cases hv:i<vs.length
  ·rw [List.getElem?_append_left hv] at ha;rw [List.getElem?_append_left (by lia)] at hp;obtain ⟨u,hu,rv⟩:=r.get ha;exact ⟨u,rv,.inl ⟨S.par y (List.mem_of_getElem? hp),Xe (by rw [<-hl];exact r.length.symm) ndP hp hu⟩⟩
  ·rw [List.getElem?_append_right (by lia)] at ha hp;rw [hl] at ha;obtain ⟨c,u,e1,rv,ic⟩:=cellOf hp ha;exact ⟨u,rv,.inr ⟨.inr (S.frk y (List.mem_of_getElem? hp)),c,e1,ic⟩⟩
 ·have hm:=PySem.mem_of_lookup h;obtain ⟨i,hi⟩:=List.getElem?_of_mem hm;obtain ⟨v,hv,o,u,ho,hd',rv⟩:=Wq hc hi;exact ⟨some u,o,hk _ _ (show ObjOk P w H s.heap c (.frz o (.own c)) from e0.hok _ _ ho).1,hd'⟩
 ·have:H s.heap.objs.size=none:=e0.hok.fresh (Nat.le_refl _);show OC clos H s.heap.objs.size=none;by_cases z:s.heap.objs.size∈clos.map (·.2)
  ·exact Oa z
  ·rw [Jv z];exact this
 ·unfold JU;show _=N.length;rw [List.length_append,List.length_map,List.length_replicate]
  lia
theorem ZaS {H':Hp}{s':Shared}{Q:VK}{u:Value}{v:V}{σ':St}(e0:Zam P w K mg base A outer s H)(hc:CellsAt H clos fvs)(J:Inv (UC P w K mg base N qual scope clos f cd A outer s H) [] σ' H' s')(rv:RelV v u)(q:(∀c∈clos.map (·.2),H' c=none)->Q v (Xd clos H H')) :
  CE outer P w H s Q u s':=by
 have hz:=hc.frz;have B:=J.base;have nH:∀{b:Addr}{o:HO},H b=some o->(∀ob,o≠.frz ob (.own b))->b ∉ clos.map (·.2):=λ{b o} e n z=>by
  obtain ⟨ob,e'⟩:=hz b z;rw [e] at e';cases e';exact n _ rfl
 have hn:∀{b:Addr},H b=none->OC clos H b=none:=λ{b} n=>by
  by_cases z:b∈clos.map (·.2)
  ·exact Oa z
  ·rw [Jv z];exact n
 have nz:∀{b:Addr},H b=none->b ∉ clos.map (·.2):=λ{b} n z=>by
  obtain ⟨ob,e'⟩:=hz b z;rw [n] at e';cases e'
 have at0:∀{b:Addr}{ob:Obj},H b=some (.frz ob (.own b))->s.heap.get? b=some ob:=λ{b ob} e=>(show ObjOk P w H s.heap b (.frz ob (.own b)) from e0.hok _ _ e).1;have at1:∀{b:Addr}{ob:Obj},b∈clos.map (·.2)->H b=some (.frz ob (.own b))->s'.heap.get? b=some ob:=λ{b ob} z e=>B.keep b ob (at0 e) (Oa z) (λy=>by have:=e0.frf b y;rw [e] at this;cases this) (by simp [UC]);have fr0:∀{b:Addr},b∈clos.map (·.2)->H' b=none:=λ{b} z=>by
  obtain ⟨ob,e⟩:=hz b z;exact B.free b ob (at0 e) (Oa z) (by simp [UC])
 refine ⟨v,Xd clos H H',J.os,J.bare,⟨λb o e n h1 h2=>B.keep b o e (hn n) h1 (by simp [UC]),λb o e n h1 h2=>B.slot b o e (hn n) h1 (by simp [UC]),λb o e n h1=>?_,λb o e h1=>B.there b o e (by simp [UC]),λb ys e=>?_,λb o y e=>?_,λb ys e=>?_⟩,λa o e=>?_,rv,q λc hc=>fr0 hc⟩
 ·rw [JP (nz n)];exact B.free b o e (hn n) (by simp [UC])
 ·have z:=nH e (λ_=>by simp);rw [JP z];exact B.tups b ys (by show OC clos H b=_;rw [Jv z];exact e)
 ·by_cases z:b∈clos.map (·.2)
  ·rw [VW z];exact e
  ·rw [JP z];exact B.frzs b o y (by show OC clos H b=_;rw [Jv z];exact e)
 ·have z:=nH e (λ_=>by simp);rw [JP z];exact B.tbls b ys (by show OC clos H b=_;rw [Jv z];exact e)
 ·by_cases z:a∈clos.map (·.2)
  ·obtain ⟨ob,e'⟩:=hz a z;rw [VW z,e'] at e;cases e;exact ⟨at1 z e',_,at1 z e'⟩
  ·rw [JP z] at e;refine (J.hok a o e).stay (λ_ _ _ y=>y) (λd y=>?_) λd ys y=>?_
   ·rw [JP (λzz=>by rw [fr0 zz] at y;cases y)];exact y
   ·rw [JP (λzz=>by rw [fr0 zz] at y;cases y)];exact y
def CloFn (H:Hp)(f c:Addr)(qual:Str)(o:Obj):Prop:=H f=some (.frz o (.own f))/\∃oc,H c=some (.frz oc (.own c))/\Zcv qual oc
theorem CloFn.same {H H':Hp}{f c:Addr}{qual:Str}{o:Obj}(h:CloFn H f c qual o)(s:Same H H'):CloFn H' f c qual o:=⟨s _ _ h.1,h.2.elim λoc z=>⟨oc,s _ _ z.1,z.2⟩⟩
theorem CloFn.rec_ {f c:Addr}{o:Obj}(h:CloFn H f c qual o)(ok:HOk P w H s.heap):s.heap.get? f=some o/\s.heap.CodeRec (.ref c) qual:=by
 obtain ⟨h1,oc,h2,vs,t,hd,hv⟩:=h;exact ⟨(show ObjOk P w H s.heap f (.frz o (.own f)) from ok _ _ h1).1,c,oc,vs,t,rfl,(show ObjOk P w H s.heap c (.frz oc (.own c)) from ok _ _ h2).1,hd,hv⟩
theorem Zcy {k:Nat}{c':Addr}{name:Str}{params:Arguments}{body:Expr}{pm ctv:Value}{sp:Sp}(S:U7 N ps fr scope)(hfr:clos.map (·.1)=fr)(hnd:(clos.map (·.2)).Nodup)(len:∀vs H Q E,sp vs H Q E->vs.length=ps.length)(hsp:∀(A:Around)(outer:List Env)(s:Shared)(H:Hp)(vs:List V)(Q:VK)(E:XK),Room k (A.deeper (W.envX qual scope s.heap.objs.size f (.ref c') clos))->sp vs H Q E->CloFn H f c' qual (W.kla_obj name qual params body scope clos pm c' ctv)/\∃fvs,CellsAt H clos fvs /\
   ∃t,PE (UC P w K mg base N qual scope clos f (.ref c') A outer s H) body t/\t (JU N (vs++fvs)) (OC clos H) (λv H'=>(∀c∈clos.map (·.2),H' c=none)->Q v (Xd clos H H'))) :
  Jl P w K mg base CX0 (k+1) f (W.kla_fn name qual params body scope clos pm (.ref c') ctv) ps sp:=by
 refine ⟨len,λA outer s H args us vs Q E hr e0 hb r h=>?_⟩;have hl:=len _ _ _ _ h;obtain ⟨hf,fvs,hc,t,ht,q⟩:=hsp A outer s H vs Q E (hr.deeper _) h;obtain ⟨ho,hcd⟩:=hf.rec_ e0.hok;have lim:s.heap.NoLimit:=e0.mod.nolimit.keeps λb o e=>(e0.bs b o e).1;refine W.kla_callFunE hr.depth ho rfl S.co S.gen rfl hcd (hb _ _ _ _ ?_);refine wpAny_newFunctionEnv S.nocell (λy hy=>S.par y.1 (List.of_mem_zip (show (y.1,y.2)∈ps.zip us from hy)).1) (λh1 hns hsb=>⟨lim.fresh _ hsb,W.kla_codeExpr ?_⟩) S.kind;have hk:∀b o,s.heap.get? b=some o->h1.get? b=some o:=λb o e=>hsb.extBut b o (Nat.ne_of_lt (Heap.lt_size e)) (Heap.get?_push_of_some _ e);have I:=ZaR (qual:=qual) (f:=f) (cd:=.ref c') (tk:=s.toks+(ps.zip us).length) S hr.hd e0 hl r hc hfr hnd hns hk;refine wpAny_mono (ht [] _ (JU N (vs++fvs)) _ _ I q) (λu s' hs=>?_) λe s' hs=>hs.elim;obtain ⟨v,H',J,rv,q⟩:=hs;exact ZaS e0 hc J rv q
end
end L2
namespace L2
open PySem PySem.Spec PyProof.Rows
structure ZbU where
 line:Nat
 col:Nat
 qual:Str
 c:Addr
def YF (es:List ZbU):List Value:=es.flatMap λe=>[rawInt e.line,rawInt e.col,.ref e.c]
def TabOn (P:Addr)(es:List ZbU)(H:Hp):Prop:=H P=some (.tbl (YF es).toArray)/\∀e∈es,∃oc,H e.c=some (.frz oc (.own e.c))/\Zcv e.qual oc
theorem TabOn.same {P:Addr}{es:List ZbU}{H H':Hp}(h:TabOn P es H)(s:Same H H'):TabOn P es H':=⟨s _ _ h.1,λe he=>(h.2 e he).elim λoc z=>⟨oc,s _ _ z.1,z.2⟩⟩
theorem X3:∀es:List ZbU,TriplesOk (YF es)
 | []=>trivial
 | e::es=>by
  show TriplesOk (rawInt e.line::rawInt e.col::.ref e.c::YF es);exact X3 es
theorem X4 (es:List ZbU)(e:ZbU):(YF (es++[e])).toArray=(YF es).toArray++#[rawInt e.line,rawInt e.col,.ref e.c]:=by
 unfold YF;rw [List.flatMap_append];simp
section
variable {X:Cx}{qQ:List (Addr×Obj)}{σ:St}{H:Hp}{s:Shared}
theorem ZaT {P c':Addr}{ps more:Array Value}{h':Heap}{tk:Nat}{oc o:Obj}(I:Inv X qQ σ H s)(e0:H P=some (.tbl ps))(hx:Heap.ExtBut P s.heap h')(hge:s.heap.objs.size<=c')(hlt:c'<h'.objs.size)(hoc:h'.get? c'=some oc)(htb:h'.get? P=some (W.tabObj (ps++more)))(hrd:(h'.push o).get? h'.objs.size=some o) :
  ∃H',Inv X qQ σ H' { s with heap:=h'.push o,toks:=tk }/\SameL P H H'/\H' P=some (.tbl (ps++more))/\H' c'=some (.frz oc (.own c'))/\H' h'.objs.size=some (.frz o (.own h'.objs.size))/\H c'=none/\H h'.objs.size=none:=by
 have hP:s.heap.get? P=some (W.tabObj ps):=I.hok P _ e0;have hcP:c'≠P:=λz=>by rw [z] at hge;exact Nat.lt_irrefl _ (Nat.lt_of_lt_of_le (Heap.lt_size hP) hge)
 have hlP:P<h'.objs.size:=Heap.lt_size htb;have nc:H c'=none:=I.hok.fresh hge;have hsz:s.heap.objs.size<=h'.objs.size:=Nat.le_trans hge (Nat.le_of_lt hlt);have nf:H h'.objs.size=none:=I.hok.fresh hsz;have hcf:c'≠h'.objs.size:=Nat.ne_of_lt hlt;have hPf:P≠h'.objs.size:=Nat.ne_of_lt hlP;generalize hH':upd (upd (upd H P (.tbl (ps++more))) c' (.frz oc (.own c'))) h'.objs.size (.frz o (.own h'.objs.size))=H';have aP:H' P=some (.tbl (ps++more)):=by rw [<-hH',GB hPf,GB (Ne.symm hcP),Gb]
 have ac:H' c'=some (.frz oc (.own c')):=by rw [<-hH',GB hcf,Gb]
 have af:H' h'.objs.size=some (.frz o (.own h'.objs.size)):=by rw [<-hH',Gb]
 have ao:∀b,b≠P->b≠c'->b≠h'.objs.size->H' b=H b:=λb h1 h2 h3=>by rw [<-hH',GB h3,GB h2,GB h1]
 have sl:SameL P H H':=λb o hb e=>by
  rw [ao b hb (λz=>by rw [z,nc] at e;cases e) (λz=>by rw [z,nf] at e;cases e)];exact e
 have kp:∀b u,b≠P->s.heap.get? b=some u->(h'.push o).get? b=some u:=λb u hb e=>Heap.get?_push_of_some _ (hx b u hb e);have nP:∀b,H b=none->b≠P:=λb n z=>by rw [z,e0] at n;cases n
 have gf:=hrd;have I':Inv X qQ σ H' { s with heap:=h'.push o,toks:=tk }:=by
  refine I.un ⟨λb o e n _ _=>kp b o (nP b n) e,λb o e n _ _=>⟨o.slots,kp b o (nP b n) e⟩,λb o e n _=>?_,λb o e _=>?_,λb ys e=>sl b _ (λz=>by rw [z,e0] at e;cases e) e,λb o u e=>sl b _ (λz=>by rw [z,e0] at e;cases e) e,λb qs e=>?_⟩ λb u e=>?_
  ·rw [ao b (nP b n) (Nat.ne_of_lt (Nat.lt_of_lt_of_le (Heap.lt_size e) hge)) (Nat.ne_of_lt (Nat.lt_of_lt_of_le (Heap.lt_size e) hsz))];exact n
  ·by_cases z:b=P
   ·rw [z];exact ⟨_,Heap.get?_push_of_some _ htb⟩
   ·exact ⟨o,kp b o z e⟩
  ·by_cases z:b=P
   ·rw [z,e0] at e;cases e;exact ⟨more,by rw [z];exact aP⟩
   ·exact ⟨#[],by rw [sl b _ z e];simp⟩
  ·by_cases z:b=P
   ·rw [z,aP] at e;cases e;rw [z];exact Heap.get?_push_of_some _ htb
   ·by_cases z2:b=c'
    ·rw [z2,ac] at e;cases e;rw [z2];exact ⟨Heap.get?_push_of_some _ hoc,_,Heap.get?_push_of_some _ hoc⟩
    ·by_cases z3:b=h'.objs.size
     ·rw [z3,af] at e;cases e;rw [z3];exact ⟨gf,_,gf⟩
     ·rw [ao b z z2 z3] at e;refine (I.hok b u e).stay (λd y hd qd=>kp d y ?_ qd) (λd qd=>sl d _ (λy=>by rw [y,e0] at qd;cases qd) qd) λd ys qd=>sl d _ (λy=>by rw [y,e0] at qd;cases qd) qd;rcases hd with rfl | hd
      ·exact z
      ·exact λy=>by rw [y,e0] at hd;cases hd
 exact ⟨H',I',sl,aP,ac,af,nc,nf⟩
end
section
variable {X:Cx}
def tMk (P:Addr)(pos:Pos)(qual:Str)(o:Addr->Value->Value->Obj)(H:Hp)(Q:VK):Prop:=∃es,TabOn P es H /\
 ((codeAmong pos (YF es)=none/\∀(f c':Addr)(ctv doc:Value)(H':Hp),SameL P H H'->TabOn P (es++[⟨pos.line,pos.col,qual,c'⟩]) H'->H f=none->CloFn H' f c' qual (o c' ctv doc)->Q (.ref f) H') \/
  ∃e∈es,codeAmong pos (YF es)=some (.ref e.c)/\e.qual=qual/\∀(f:Addr)(ctv doc:Value)(H':Hp),Same H H'->H f=none->CloFn H' f e.c qual (o e.c ctv doc)->Q (.ref f) H')
theorem ZaU {P:Addr}{ps:Array Value}{mg:Str->Option Value}{h:Heap}(hg:h.Ns mainGlobals mg)(hP:h.get? P=some (W.tabObj ps)):mainGlobals≠P:=λz=>by
 obtain ⟨o,es,ep,e,hd,_⟩:=hg;rw [z,hP] at e;cases e;cases hd
theorem ZaV {params:Arguments}{body:Expr}{scope:Scope}{pos:Pos}{clos:Zb}{c P:Addr}{qual:Str}(hcl:closureFor scope X.env=pure clos)(hcode:X.env.code=.ref c)(C:W.CodeHd X.base c P)(hb:X.base.BuiltinsAt X.mg P)(hq:X.env.qual ++ "<lambda>" = qual)(hdef:defaultsOf params X.env=([],[]):=by rfl):PE X (.Lambda params body scope pos) (λ_ H Q=>tMk P pos qual (λc' ctv _=>W.kla_obj "<lambda>" qual params body scope clos ((X.mg "__name__").getD .none) c' ctv) H Q):=by
 intro qQ s σ H Q I h;refine W.kla_eval hdef ?_;rw [hq];have hg:s.heap.Ns mainGlobals X.mg:=I.ok.mod.glob.keeps I.bk;have hB:s.heap.BuiltinsAt X.mg P:=by
  obtain ⟨bm,o,h1,h2,h3,h4,h5,h6⟩:=hb;exact ⟨bm,o,h1,h2,h3,h4,I.bk _ _ h5,h6⟩
 obtain ⟨es,on,h⟩:=h;have hP:s.heap.get? P=some (W.tabObj (YF es).toArray):=I.hok P _ on.1;rcases h with ⟨hnf,q⟩ | ⟨e,he,hf',hqe,q⟩
 ·refine W.kla_makeFunction (mg:=X.mg) hcl I.ok.glob hg hcode (C.keeps I.bk) hP (X3 es) hnf (ZaU hg hP) hB λc' ctv h' tk hx' hge hlt hrec htb=>?_;obtain ⟨c2,oc,vs,tq,ec,hoc,hd,hv⟩:=hrec;cases ec;obtain ⟨H',I',sl,aP,ac,af,nc,nf⟩:=ZaT (o:=W.kla_obj "<lambda>" qual params body scope clos ((X.mg "__name__").getD .none) c' ctv) (tk:=tk) I on.1 hx' hge hlt hoc htb (Heap.get?_push_size _ rfl);refine ⟨.ref h'.objs.size,H',I',rfl,q _ c' ctv .none H' sl ⟨?_,λy hy=>?_⟩ nf ⟨af,oc,ac,vs,tq,hd,hv⟩⟩
  ·rw [X4];exact aP
  ·rcases List.mem_append.mp hy with hy | hy
   ·obtain ⟨oy,z1,z2⟩:=on.2 y hy;exact ⟨oy,sl _ _ (λz=>by rw [z,on.1] at z1;cases z1) z1,z2⟩
   ·rw [List.mem_singleton.mp hy];exact ⟨oc,ac,vs,tq,hd,hv⟩
 ·refine W.kla_makeFunctionHit (cv:=.ref e.c) (mg:=X.mg) hcl I.ok.glob hg hcode (C.keeps I.bk) hP (X3 es) hf' hB λctv h' tk hk hsz=>?_;have nf:H h'.objs.size=none:=I.hok.fresh hsz;have I':=I.laid (a:=h'.objs.size) (o:=.frz (W.kla_obj "<lambda>" qual params body scope clos ((X.mg "__name__").getD .none) e.c ctv) (.own h'.objs.size)) (h':=h'.push (W.kla_obj "<lambda>" qual params body scope clos ((X.mg "__name__").getD .none) e.c ctv)) (t':=tk) (λb o e=>Heap.get?_push_of_some _ (hk b o e)) hsz ⟨Heap.get?_push_size _ rfl,_,Heap.get?_push_size _ rfl⟩;have sm:Same H (upd H h'.objs.size (.frz (W.kla_obj "<lambda>" qual params body scope clos ((X.mg "__name__").getD .none) e.c ctv) (.own h'.objs.size))):=Same.new nf;obtain ⟨oc,z1,z2⟩:=on.2 e he;rw [hqe] at z2;exact ⟨.ref h'.objs.size,_,I',rfl,q _ ctv .none _ sm nf ⟨Gb,oc,sm _ _ z1,z2⟩⟩
def FnIn (H:Hp)(f:Addr):Prop:=∃o u fd,H f=some (.frz o u)/\o.data=.func fd
theorem CloFn.fin {H:Hp}{f c:Addr}{qual:Str}{o:Obj}{fd:FuncData}(h:CloFn H f c qual o)(e:o.data=.func fd):FnIn H f:=⟨o,_,fd,h.1,e⟩
theorem FnIn.at_ {qQ:List (Addr×Obj)}{σ:St}{H:Hp}{s:Shared}{f:Addr}(h:FnIn H f)(I:Inv X qQ σ H s):W.FnAt f s.heap:=by
 obtain ⟨o,u,fd,e,hd⟩:=h;have hg:=(show ObjOk X.prog X.w H s.heap f (.frz o u) from I.hok _ _ e).1;obtain ⟨oc,od,dt,sl⟩:=o;cases hd;exact ⟨oc,od,fd,sl,hg⟩
def Zcz (i:Nat)(f:Addr)(sp:Sp)(dvs:List V)(E:XK)(t:TA):TE:=λσ H Q=>σ[i]?=some (some (.ref f))/\FnIn H f/\t σ H λvs H1=>FnIn H1 f/\sp (vs++dvs) H1 Q E
theorem Zd {CX:CXT}{k i:Nat}{f:Addr}{fd:FuncData}{ps:List Str}{sp:Sp}{ds:List Value}{dvs:List V}{E:XK}{x:Str}{e:Expr}{es:List Expr}{t:TA}{p pos:Pos}(F:Jl X.prog X.w X.K X.mg X.base CX k f fd ps sp)(hr:Room k X.A)(hv:PE X (.Name x p) (OT i))(hb:Binds X.K fd ps ds)(hd:Vals dvs ds)(hx:OU CX X E)(ha:PA X (e::es) t)(he:starEach (e::es) X.env=(false,eval e X.env)::starEach es X.env:=by rfl)(hpl:(backTo pos (starEach es X.env)).any (·.1)=false:=by rfl):PE X (.Call (.Name x p) (e::es) [] pos) (Zcz i f sp dvs E t):=by
 intro qQ s σ H Q I h;refine wpAny_Call_Name_kw (thn (hv qQ s σ H (λv H'=>v=.ref f/\H'=H) I ⟨_,h.1,rfl,rfl⟩) λu s1 ⟨v,H1,I1,r1,ev,eH⟩=>?_);subst ev eH;obtain rfl:u=Value.ref f:=r1;refine W.callWith_F (h.2.1.at_ I1) (thn (ha pos qQ s1 σ H1 _ I1 h.2.2) λus s2 ⟨vs,H2,I2,r,hf,q⟩=>⟨hf.at_ I2,?_⟩) he hpl;exact We F hr hb hd hx I2 r q
end
end L2
namespace L2
open PySem PySem.Spec PyProof.Rows
section
variable {X:Cx}
theorem ZaW:OpR X (compareOp .NotIn) (λx y H Q=>∃(c:Nat)(b:Str),x=.str ⟨#[c]⟩/\y=.str b/\Q (.bl (!decide (c∈b.cps.toList))) H):=by
 intro qQ s σ H x y v u Q I rx ry h;obtain ⟨c,b,rfl,rfl,q⟩:=h;obtain ⟨t,rfl⟩:=rx;obtain ⟨t',rfl⟩:=ry;refine P.notIn_str ?_;rw [StrLaws.found_one];exact ⟨.bl _,H,I,rfl,q⟩
theorem ZaX {x:Str}{g:TG}{tb:TS}{D:Vf}{σ:St}{H:Hp}(Pv:Nat->St->Hp->Prop)(h0:Pv 0 σ H)(hs:∀i c σ H,x.cps[i]?=some c->Pv i σ H->g (.str ⟨#[c]⟩) σ H λσ2 H2=>tb { D with nx:=Pv (i+1),ct:=Pv (i+1),bk:=D.nx } σ2 H2)(hd:∀ σ H,Pv x.cps.size σ H->D.nx σ H) :
  ∃W:Nat->Nat->St->Hp->Prop,(∃m,W 0 m σ H)/\∀i m σ H,W i m σ H ->
   ((Its x).stop i H/\D.nx σ H)\/((Its x).go i H/\∃N:St->Hp->Prop,(∀ σ' H',N σ' H'->∃m',m'<m/\W (i+1) m' σ' H')/\∀v H',(Its x).yld i H v H'->g v σ H' λσ2 H2=>tb { D with nx:=N,ct:=N,bk:=D.nx } σ2 H2):=by
 refine ⟨λi m σ H=>m=x.cps.size-i/\i<=x.cps.size/\Pv i σ H,⟨x.cps.size,by simp,Nat.zero_le _,h0⟩,?_⟩;rintro i m σ H ⟨rfl,hi,p⟩;by_cases hlt:i<x.cps.size
 ·refine .inr ⟨hlt,Pv (i+1),λσ' H' p'=>⟨x.cps.size-(i+1),by lia,rfl,hlt,p'⟩,λv H' y=>?_⟩;obtain ⟨e,c,hc,rfl⟩:=y;subst e;exact hs i c σ _ hc p
 ·have e:i=x.cps.size:=by lia
  subst e;exact .inl ⟨Nat.le_refl _,hd σ H p⟩
end
end L2
namespace M
open PySem L2
def top (i:Nat):Stmt:=PySem.Challenge.pw_onceways_k82_texts_of_no_wish.main.body.getD i (.Pass ⟨0,0,0,0⟩)
abbrev ZaY:Stmt:=top 8
abbrev ZaZ:Stmt:=top 9
abbrev Za0:Stmt:=top 12
abbrev Za1:Stmt:=top 13
abbrev ZR:Stmt:=top 21
abbrev Za2:Stmt:=top 22
abbrev Za3:Stmt:=top 23
abbrev Za4:Stmt:=top 25
abbrev ZbV:Stmt:=top 26
abbrev ZS:Stmt:=top 27
abbrev Za5:Stmt:=top 28
abbrev Za6:Stmt:=top 29
abbrev Za7:Stmt:=top 30
abbrev ZT:Stmt:=top 31
abbrev Za8:Stmt:=top 33
abbrev Za9:Stmt:=top 34
abbrev Zba:Stmt:=top 35
abbrev Zbb:Stmt:=top 36
abbrev Zbc:Stmt:=top 37
abbrev Zbd:Stmt:=top 38
abbrev Zbe:Stmt:=top 39
abbrev Zbf:Stmt:=top 40
abbrev ZU:Stmt:=top 41
abbrev ZV:Stmt:=top 42
abbrev Zbg:Stmt:=top 43
abbrev Zbh:Stmt:=top 44
abbrev Zbi:Stmt:=top 45
abbrev Zbj:Stmt:=top 46
abbrev Ze:Stmt:=top 47
end M
namespace M
open PySem L2
theorem Oh:bootBuiltins "str" = some (.type "str"):=by first | rfl | decide +kernel
theorem JK:2<=sizeLine:=by decide
theorem GQ (w:Str):∀ws:List Str,inV (.str w) (ws.map V.str)=decide (w∈ws):=by
 intro ws;unfold inV
 induction ws with
 | nil=>rfl
 | cons m ms ih=>
  rw [List.map_cons,List.any_cons,ih];by_cases h1:w=m <;> by_cases h2:w∈ms <;> simp [eqV,h1,h2] <;> (try (intro z;exact h1 z.symm))
structure AllB {α:Type}(Pr:α->Prop)(bs:List Bool)(cs:List α):Prop where
 len:bs.length=cs.length
 all:bs.all id=true↔∀c∈cs,Pr c
theorem AllB.nil {α:Type}{Pr:α->Prop}:AllB Pr [] []:=⟨rfl,⟨λ_ c hc=>(by cases hc),λ_=>rfl⟩⟩
theorem AllB.snoc {α:Type}{Pr:α->Prop}{bs:List Bool}{cs:List α}(h:AllB Pr bs cs){b:Bool}{c:α}(hb:b=true↔Pr c):AllB Pr (bs++[b]) (cs++[c]):=by
 refine ⟨by rw [List.length_append,List.length_append,h.len];rfl,?_⟩;rw [List.all_append,Bool.and_eq_true,h.all];constructor
 ·rintro ⟨h1,h2⟩ x hx;rcases List.mem_append.mp hx with z | z
  ·exact h1 x z
  ·rw [List.mem_singleton] at z;rw [z];exact hb.mp (by simpa using h2)
 ·intro hx;refine ⟨λc hc=>hx c (List.mem_append_left _ hc),?_⟩;have:=hb.mpr (hx c (List.mem_append_right _ (List.mem_singleton.mpr rfl)));rw [this]
  rfl
theorem AllB.next {α:Type}{Pr:α->Prop}{bs:List Bool}{cs:List α}{i:Nat}{c:α}(h:AllB Pr bs (cs.take i))(e:cs[i]?=some c){b:Bool}(hb:b=true↔Pr c):AllB Pr (bs++[b]) (cs.take (i+1)):=by
 obtain ⟨hi,e'⟩:=List.getElem?_eq_some_iff.mp e;rw [List.take_succ_eq_append_getElem hi,e'];exact h.snoc hb
structure ZbW (K:W.Frag):Prop where
 ni:W.kitOne K (.type "NoneType") (.type "int")=some false
 bi:W.kitOne K (.type "bool") (.type "int")=some true
 si:W.kitOne K (.type "str") (.type "int")=some false
 li:W.kitOne K (.type "list") (.type "int")=some false
 ti:W.kitOne K (.type "tuple") (.type "int")=some false
 ib:W.kitOne K (.type "int") (.type "bool")=some false
 nt:W.kitOne K (.type "NoneType") (.type "tuple")=some false
 bt:W.kitOne K (.type "bool") (.type "tuple")=some false
 it:W.kitOne K (.type "int") (.type "tuple")=some false
 st:W.kitOne K (.type "str") (.type "tuple")=some false
 lt:W.kitOne K (.type "list") (.type "tuple")=some false
 ns:W.kitOne K (.type "NoneType") (.type "str")=some false
 bs:W.kitOne K (.type "bool") (.type "str")=some false
 is:W.kitOne K (.type "int") (.type "str")=some false
 ls:W.kitOne K (.type "list") (.type "str")=some false
 ts:W.kitOne K (.type "tuple") (.type "str")=some false
section
variable {P:Program}{w:World}{K:W.Frag}{mg:Str->Option Value}{base:Heap}
def ZcA:Sp:=λvs H Q _=>∃(v:V)(d:PyData),vs=[v]/\Th H v d/\Q (.bl (Ol d)) H
theorem ZdZ:Gz ["thing"] ["thing"] (Gh ZR):=⟨rfl,rfl,rfl,by decide +kernel,rfl,by decide +kernel,by decide +kernel⟩
theorem ZcB {f:Addr}{fd:FuncData}{tG:Tok}(F:Fun K "is_small" "is_small" ZR f fd)(k:ZbW K)(mGre:mg "GREATEST" = some (.int 9999 tG))(mIsi:mg "isinstance" = none)(mInt:mg "int" = none)(mBool:mg "bool" = none):Jl P w K mg base CX0 1 f fd ["thing"] ZcA:=by
 refine F.ok ZdZ (λvs H Q E h=>?_) (λcdv A outer s H vs Q E hr h=>?_)
 ·obtain ⟨_,_,rfl,_⟩:=h
  rfl
 ·obtain ⟨v,d,rfl,h,q⟩:=h;refine ⟨_,Gf (Go (Ug (Gm (UA K) rfl mIsi GP (Ga (pv 0) (Ga (Ju mInt J0) Gd))) (Ug (Xl (Gm (UA K) rfl mIsi GP (Ga (pv 0) (Ga (Ju mBool Vv) Gd)))) (UF (YI Zaj Zaj Gc (pv 0) (Uf (v:=.int 9999) rfl mGre ⟨_,rfl⟩)))))),?_⟩;cases h with
  | non=>exact ⟨_,rfl,_,_,false,rfl,⟨_,rfl,GR q⟩,.inl ⟨_,.non,rfl,k.ni⟩⟩
  | bl b=>exact ⟨_,rfl,_,_,true,rfl,⟨_,rfl,GI ⟨_,rfl,_,_,true,rfl,⟨_,rfl,_,rfl,GR q⟩,.inl ⟨_,.bl _,rfl,Jc⟩⟩⟩,.inl ⟨_,.bl _,rfl,k.bi⟩⟩
  | int i=>
   refine ⟨_,rfl,_,_,true,rfl,⟨_,rfl,GI ⟨_,rfl,_,_,false,rfl,⟨_,rfl,_,rfl,GI ?_⟩,.inl ⟨_,.int _,rfl,k.ib⟩⟩⟩,.inl ⟨_,.int _,rfl,Jc⟩⟩;have q:Q (.bl (decide (0<=i) && decide (i<=9999))) H:=q;refine ⟨_,rfl,_,_,rfl,rfl,_,rfl,Ox (λc=>?_) (λc=>?_)⟩
   ·rw [c,Bool.true_and] at q;exact ⟨_,_,rfl,rfl,q⟩
   ·rw [Bool.eq_false_iff.mpr c,Bool.false_and] at q;exact q
  | str x=>exact ⟨_,rfl,_,_,false,rfl,⟨_,rfl,GR q⟩,.inl ⟨_,.str _,rfl,k.si⟩⟩
  | lst e z h=>exact ⟨_,rfl,_,_,false,rfl,⟨_,rfl,GR q⟩,.inl ⟨_,.lst e,rfl,k.li⟩⟩
  | tup e z h=>exact ⟨_,rfl,_,_,false,rfl,⟨_,rfl,GR q⟩,.inl ⟨_,.tup e,rfl,k.ti⟩⟩
def ZcC:Sp:=λvs H Q _=>∃(wd:Str)(r:Addr)(xs:List V)(rest:List PyData),vs=[.str wd,.ref r]/\H r=some (.tup xs)/\xs.length<=1000/\Ths H xs rest/\∀H',Same H H'->Q (.bl (Ja wd rest)) H'
theorem Zd0:Gz ["word", "rest"] ["word", "rest"] (Gh Za2):=⟨rfl,rfl,rfl,by decide +kernel,rfl,by decide +kernel,by decide +kernel⟩
structure Wds (K:W.Frag)(aJ aB aP aR aL:Addr):Prop where
 j:∀H:Hp,SqT K H aJ (sJoin.map V.str)
 b:∀H:Hp,SqT K H aB (sBare.map V.str)
 p:∀H:Hp,SqT K H aP (sPair.map V.str)
 r:∀H:Hp,SqT K H aR [.str "with", .str "off"]
 l:∀H:Hp,SqT K H aL [.str "over", .str "past"]
theorem ZcD {f fS aJ aB aP aR aL:Addr}{fd fdS:FuncData}{tG:Tok}(F:Fun K "is_leaf" "is_leaf" Za2 f fd)(FS:Fun K "is_small" "is_small" ZR fS fdS)(bS:Binds K fdS ["thing"] [])(mS:mg "is_small" = some (.ref fS))(k:ZbW K)(T:Wds K aJ aB aP aR aL)(mBar:mg "BARE" = some (.ref aB))(mPai:mg "PAIRED" = some (.ref aP))(mOfR:mg "OF_ROADS" = some (.ref aR))(mOfP:mg "OF_PLACES" = some (.ref aL))(mGre:mg "GREATEST" = some (.int 9999 tG))(mIsi:mg "isinstance" = none)(mInt:mg "int" = none)(mBool:mg "bool" = none)(mTup:mg "tuple" = none)(mLen:mg "len" = none)(mAll:mg "all" = none):Jl P w K mg base CX0 2 f fd ["word", "rest"] ZcC:=by
 have GS:Jl P w K mg base CX0 1 fS fdS ["thing"] ZcA:=ZcB FS k mGre mIsi mInt mBool;refine F.ok Zd0 (λvs H Q E h=>?_) (λcdv A outer s H vs Q E hr h=>?_)
 ·obtain ⟨_,_,_,_,rfl,_⟩:=h
  rfl
 ·obtain ⟨wd,r,xs,rest,rfl,e,z,hs,q⟩:=h;have h16:(16777216:Nat)=sizeLine:=sizeLine_eq.symm;have hl:=hs.len;refine ⟨_,Ge (GT (Gj (kIn K) (pv 0) (Jt mBar) (by with_unfolding_all rfl)) (Gf (Go (ZaA (pv 1) K))) Gr)
    (Ge (GT (Gj (kIn K) (pv 0) (Jt mPai) (by with_unfolding_all rfl)) (Gf (Go (Ug (J7 Jj (Gm (VS K) rfl mLen PySem.boot_len (Ga (pv 1) Gd)) Gc (Gq _)) (Ug (GH GS (hr.mono (by decide)) rfl mS FS.kp bS .nil Jh (Ga (Gp (OW K) (pv 1) Gc (λ_ _=>rfl)) Gd)) (UF (GH GS (hr.mono (by decide)) rfl mS FS.kp bS .nil Jh (Ga (Gp (OW K) (pv 1) Gc (λ_ _=>rfl)) Gd))))))) Gr)
    (Ge (GT (PW.pt (JS (Gj (Zck K) (pv 0) (Gn (Vx K) (Jt mOfR) (Jt mOfP)) (by with_unfolding_all rfl)) (JS (Gj Uz (Gm (VS K) rfl mLen PySem.boot_len (Ga (pv 1) Gd)) Gc (Gq _)) (JO (J4 (JI (Gm (UA K) rfl mIsi GP (Ga (Gp (OW K) (pv 1) Gc (λ_ _=>rfl)) (Ga (Ju mTup Ji) Gd))))))))) (Gf (Go OZ)) Gr)
    (Gf (Go (Gm (ZeD K rfl) rfl mAll Wp (Ga (OJ (own:=["thing"]) rfl (Js (by decide +kernel) (by decide +kernel) rfl (by decide +kernel)) (YT K (Gp (OW K) (pv 1) Gc (λ_ _=>rfl))) (λ_ _ _ _=>GV (i:=0) (show List.Nodup (["thing"]:List Str) by decide +kernel) rfl (Or.inl rfl)) (λ_ _ _ _=>JZ) (λ_ _ _ _=>GH GS (hr.mono (by decide)) rfl mS FS.kp bS .nil Jh (Ga (pv 0) Gd))) Gd)))))),?_⟩
  refine ⟨_,rfl,aB,_,rfl,.inr (T.b H),rfl,rfl,_,rfl,?_⟩;show if (inV (.str wd) (sBare.map V.str))=true then _ else _
  rw [GQ];unfold Ja at q;by_cases c1:wd∈sBare
  ·rw [decide_eq_true c1];rw [if_pos c1] at q;refine GI ?_;refine ⟨_,rfl,!xs.isEmpty,.inr (.inl ⟨_,SqT.of e,rfl⟩),?_⟩;have:(!(!xs.isEmpty))=rest.isEmpty:=by
    rw [Bool.not_not];cases hs <;> rfl
   rw [this];exact q _ (Same.refl _)
  rw [decide_eq_false c1];rw [if_neg c1] at q;refine GR ?_;refine ⟨_,rfl,aP,_,rfl,.inr (T.p H),rfl,rfl,_,rfl,?_⟩;show if (inV (.str wd) (sPair.map V.str))=true then _ else _
  rw [GQ];by_cases c2:wd∈sPair
  ·rw [decide_eq_true c2];rw [if_pos c2] at q;refine GI ?_;refine ⟨_,rfl,r,xs,rfl,.inr (SqT.of e),rfl,_,rfl,Ox (λc=>?_) (λc=>?_)⟩
   ·have c:(xs.length:Int)=2:=V.int.inj (of_decide_eq_true c)
    match xs,rest,hs,(show xs.length=2 by lia) with
    | [x0,x1],[d0,d1],.cons t0 (.cons t1 .nil),_=>
     refine ⟨_,rfl,r,_,_,_,rfl,rfl,SqT.of e,Gi (j:=0) rfl,x0,d0,rfl,t0,_,rfl,Ox (λb0=>?_) (λb0=>?_)⟩
     ·refine ⟨_,rfl,r,_,_,_,rfl,rfl,SqT.of e,Gi (j:=1) rfl,x1,d1,rfl,t1,?_⟩;have:=q _ (Same.refl _);simp only [b0,Bool.true_and] at this;exact this
     ·have:=q _ (Same.refl _);simp only [Bool.eq_false_iff.mpr b0,Bool.false_and] at this;exact this
   ·have c:¬ xs.length=2:=λy=>c (decide_eq_true (by rw [y];rfl));have q:=q _ (Same.refl _)
    match rest,q,hl with
    | [],q,_=>exact q
    | [_],q,_=>exact q
    | [_,_],_,hl=>exact absurd hl c
    | _::_::_::_,q,_=>exact q
  rw [decide_eq_false c2];rw [if_neg c2] at q;refine GR ?_;refine ⟨_,rfl,aR,aL,_,_,rfl,rfl,T.r H,T.l H,by simp,by show 4<=sizeLine;lia,(λy=>(by cases y)),λ_ p hp=>?_⟩;refine ⟨p,_,rfl,.inr (SqT.of Gb),rfl,rfl,_,rfl,?_⟩;have s1:Same H (upd H p (.tup ([.str "with", .str "off"]++[.str "over", .str "past"]))):=Same.new hp;generalize upd H p (.tup ([.str "with", .str "off"]++[.str "over", .str "past"]))=H1 at s1 ⊢;show if (!inV (.str wd) (sFour.map V.str))=true then _ else _
  rw [GQ];by_cases c3:wd∈sFour;rotate_left
  ·rw [decide_eq_false c3];rw [if_neg c3] at q;exact GI (GI (q _ s1))
  rw [decide_eq_true c3];rw [if_pos c3] at q;refine GR ?_;refine ⟨_,rfl,r,xs,rfl,.inr (SqT.of (s1 _ _ e)),rfl,_,rfl,?_⟩;by_cases c4:V.int (xs.length:Int)=V.int 1;rotate_left
  ·rw [decide_eq_false c4];refine GI (GI ?_);have c4:¬ xs.length=1:=λy=>c4 (by rw [y];rfl);have q:=q _ s1
   match rest,q,hl with
   | [],q,_=>exact q
   | [_],_,hl=>exact absurd hl c4
   | d::_::_,q,_=>cases d <;> exact q
  rw [decide_eq_true c4];refine GR ?_;have c4:(xs.length:Int)=1:=V.int.inj c4
  match xs,rest,hs,(show xs.length=1 by lia) with
  | [x0],[d0],.cons t0 .nil,_=>
   cases t0 with
   | non=>exact ⟨_,rfl,r,_,_,_,rfl,rfl,SqT.of (s1 _ _ e),Gi (j:=0) rfl,_,_,false,rfl,⟨_,rfl,GI (q _ s1)⟩,.inl ⟨_,.non,rfl,k.nt⟩⟩
   | bl b=>exact ⟨_,rfl,r,_,_,_,rfl,rfl,SqT.of (s1 _ _ e),Gi (j:=0) rfl,_,_,false,rfl,⟨_,rfl,GI (q _ s1)⟩,.inl ⟨_,.bl _,rfl,k.bt⟩⟩
   | int i=>exact ⟨_,rfl,r,_,_,_,rfl,rfl,SqT.of (s1 _ _ e),Gi (j:=0) rfl,_,_,false,rfl,⟨_,rfl,GI (q _ s1)⟩,.inl ⟨_,.int _,rfl,k.it⟩⟩
   | str x=>exact ⟨_,rfl,r,_,_,_,rfl,rfl,SqT.of (s1 _ _ e),Gi (j:=0) rfl,_,_,false,rfl,⟨_,rfl,GI (q _ s1)⟩,.inl ⟨_,.str _,rfl,k.st⟩⟩
   | lst e' z' h'=>exact ⟨_,rfl,r,_,_,_,rfl,rfl,SqT.of (s1 _ _ e),Gi (j:=0) rfl,_,_,false,rfl,⟨_,rfl,GI (q _ s1)⟩,.inl ⟨_,TyOf.lst (s1 _ _ e'),rfl,k.lt⟩⟩
   | @tup a0 xs0 ds0 e' z' h'=>
    refine ⟨_,rfl,r,_,_,_,rfl,rfl,SqT.of (s1 _ _ e),Gi (j:=0) rfl,_,_,true,rfl,⟨_,rfl,GR ?_⟩,.inl ⟨_,.tup (s1 _ _ e'),rfl,Jc⟩⟩;refine ⟨_,rfl,r,_,_,_,rfl,rfl,SqT.of (s1 _ _ e),Gi (j:=0) rfl,a0,rfl,⟨_,SqT.of (s1 _ _ e')⟩,λD hD=>?_⟩;refine U1 (K:=K) (a:=a0) (xs:=xs0) (λi vs H2=>Same H1 H2/\H2 D=some (.lst vs)/\∃bs:List Bool,vs=bs.map V.bl/\AllB (λc=>Ol c=true) bs (ds0.take i)) ⟨Same.new hD,Gb,[],rfl,AllB.nil⟩ (λi vs H2 _ ⟨s2,_⟩=>SqT.of (s2 _ _ (s1 _ _ e'))) ?_ ?_
    ·rintro i x vs H2 hx ⟨s2,hD2,bs,rfl,B⟩;obtain ⟨dx,ex,tx⟩:=(h'.same (s1.trans s2)).get hx;have hbl:bs.length<=1000:=by have:=h'.len;rw [B.len,List.length_take];lia
     refine ⟨trivial,?_⟩;unfold ZL;refine GI ?_;exact ⟨_,rfl,x,dx,rfl,tx,hD2,by rw [List.length_map];lia,s2.put hD,Gb,bs++[Ol dx],by rw [List.map_append];rfl,B.next ex Iff.rfl⟩
    ·rintro vs H2 ⟨s2,hD2,bs,rfl,B⟩;rw [h'.len,List.take_length] at B;refine ⟨D,bs,rfl,SqL.of hD2,?_⟩;have eq:bs.all id=ds0.all Ol:=by
      rw [Bool.eq_iff_iff,B.all,List.all_eq_true]
     rw [eq];exact q _ (s1.trans s2)
end
end M
namespace M
open PySem L2
inductive Pr:PyData->List PyData->Prop
 | leaf {w:Str} {rest:List PyData}:Ja w rest=true->Pr (.tuple (.str w::rest)) [.tuple (.str w::rest)]
 | join {w:Str} {a b:PyData} {ps qs:List PyData}:w∈sJoin->Pr a ps->Pr b qs->Pr (.tuple [.str w,a,b]) (.tuple [.str w,a,b]::(qs++ps))
theorem Ws.pr {d:PyData}{m:Nat}(h:Ws d m):∃ps,Pr d ps/\ps.length<2 ^ m:=by
 induction h with
 | leaf h=>exact ⟨_,.leaf h,by rw [List.length_singleton];decide⟩
 | @join w a b m n hw _ _ iha ihb=>
  obtain ⟨ps,p1,p2⟩:=iha;obtain ⟨qs,q1,q2⟩:=ihb;refine ⟨_,.join hw p1 q1,?_⟩;have h1:2 ^ m<=2 ^ max m n:=Nat.pow_le_pow_right (by decide) (Nat.le_max_left ..);have h2:2 ^ n<=2 ^ max m n:=Nat.pow_le_pow_right (by decide) (Nat.le_max_right ..);rw [List.length_cons,List.length_append,Nat.pow_succ]
  lia
theorem Zf {H:Hp}{us:List V}{ds:List PyData}{d:PyData}(h:Ths H us (ds++[d])):∃us' x,us=us'++[x]/\Ths H us' ds/\Th H x d:=by
 induction ds generalizing us with
 | nil=>
  cases h with
  | cons t r=>cases r;exact ⟨[],_,rfl,.nil,t⟩
 | cons e ds ih=>
  cases h with
  | cons t r=>
   obtain ⟨us',x,rfl,h1,h2⟩:=ih r;exact ⟨_::us',x,rfl,.cons t h1,h2⟩
theorem Pr.one_le {d:PyData}{ps:List PyData}(h:Pr d ps):1<=ps.length:=by
 cases h with
 | leaf _=>simp
 | join _ _ _=>simp
section
variable {P:Program}{w:World}{K:W.Frag}{mg:Str->Option Value}{base:Heap}
def ZcE:Sp:=λvs H Q _=>∃(v:V)(d:PyData)(ps:List PyData),vs=[v]/\Th H v d/\Pr d ps/\ps.length<=100000/\∀(l:Addr)(us:List V)(H':Hp),Same H H'->H l=none->H' l=some (.lst us)->Ths H us ps->Q (.ref l) H'
theorem scPar:Gz ["wish", "found", "pending", "part"] ["wish"] (Gh Za0):=⟨rfl,rfl,rfl,by decide +kernel,rfl,by decide +kernel,by decide +kernel⟩
theorem ZcF {f aJ aB aP aR aL:Addr}{fd:FuncData}(F:Fun K "parts_of" "parts_of" Za0 f fd)(T:Wds K aJ aB aP aR aL)(mJoi:mg "JOINING" = some (.ref aJ)):Jl P w K mg base CX0 1 f fd ["wish"] ZcE:=by
 refine F.ok scPar (λvs H Q E h=>?_) (λcdv A outer s H vs Q E hr h=>?_)
 ·obtain ⟨_,_,_,rfl,_⟩:=h
  rfl
 ·obtain ⟨v0,d0,ps,rfl,h0,pr0,hpl,q⟩:=h;have h16:(16777216:Nat)=sizeLine:=sizeLine_eq.symm;refine ⟨_,(@Ge _ _ _ _ _ (@Gs _ _ 1 _ _ _ _ scPar.nd rfl (Or.inl rfl) (@GO _ _ _ _ Gd) rfl (by first | exact .inl rfl | exact .inr rfl))
    (@Ge _ _ _ _ _ (@Gs _ _ 2 _ _ _ _ scPar.nd rfl (Or.inl rfl) (@GO _ _ _ _ (@Ga _ _ _ _ _ (pv 0) Gd rfl)) rfl (by first | exact .inl rfl | exact .inr rfl))
    (@Ge _ _ _ _ _ (Wa PassesOwn.never (Oz (pv 2) (λ_=>rfl))
    (@Ge _ _ _ _ _ (@Gs _ _ 3 _ _ _ _ scPar.nd rfl (Or.inl rfl) (Wg PySem.F.plainAttrs_list PySem.F.slot_list_pop PySem.F.type_list_pop Wi (pv 2)) rfl (by first | exact .inl rfl | exact .inr rfl))
    (@Ge _ _ _ _ _ (JJ (Op PySem.F.plainAttrs_list PySem.F.slot_list_append PySem.F.type_list_append Jn (pv 1) (@Ga _ _ _ _ _ (pv 3) Gd rfl)))
    (@Gf _ _ _ (@GT _ _ _ _ _ _ _ _ (Gj (kIn K) (@Gp _ _ _ _ _ _ _ (OW K) (pv 3) Gc (λ_ _=>rfl)) (Jt mJoi) (by with_unfolding_all rfl)) (@Gf _ _ _ (JJ (Op PySem.F.plainAttrs_list PySem.F.slot_list_extend PySem.F.type_list_extend W7 (pv 2) (@Ga _ _ _ _ _ (Gx (ZbS K) (pv 3) (Gw Gc) GX) Gd rfl)))) Gr)))))
    (@Gf _ _ _ (@Go _ _ _ _ (pv 1)))))),?_⟩
  refine ⟨Nat.zero_le _,λfl hfl=>?_⟩;have s1:Same H (upd H fl (.lst [])):=Same.new hfl;have ef0:upd H fl (.lst []) fl=some (.lst []):=Gb;generalize upd H fl (.lst [])=H1 at s1 ef0 ⊢;refine ⟨_,rfl,(by show 1<=sizeLine;lia),λpl hpl1=>?_⟩;have s2:Same H1 (upd H1 pl (.lst [v0])):=Same.new hpl1;have ep0:upd H1 pl (.lst [v0]) pl=some (.lst [v0]):=Gb;have hHpl:H pl=none:=s1.free hpl1;have nfp:fl≠pl:=GG ef0 hpl1;have ef1:=s2 _ _ ef0;generalize upd H1 pl (.lst [v0])=H2 at s2 ep0 ef1 ⊢;dsimp only [JN];refine ⟨λm σ' H'=>∃(fs us:List V)(Fd:List PyData)(pend:List (PyData×List PyData))(v3:Option V),σ'=[some v0,some (.ref fl),some (.ref pl),v3]/\Same H H'/\H' fl=some (.lst fs)/\H' pl=some (.lst us)/\Ths H fs Fd/\Ths H us (pend.map (·.1))/\(∀p∈pend,Pr p.1 p.2)/\ps=Fd++pend.reverse.flatMap (·.2)/\m=(pend.map λp=>p.2.length).sum,
   ⟨_,[],[v0],[],[(d0,ps)],none,rfl,s1.trans s2,ef1,ep0,.nil,.cons h0 .nil,λp hp=>by rw [List.mem_singleton.mp hp];exact pr0,by simp,rfl⟩,?_⟩
  clear s1 s2 ef0 ef1 ep0 hpl1;rintro m σ' H3 ⟨fs,us,Fd,pend,v3,rfl,s3,ef,ep,tf,tu,hpr,eps,rfl⟩;rcases List.eq_nil_or_concat pend with rfl | ⟨pend,⟨d,qs⟩,rfl⟩
  ·cases tu;refine ⟨_,rfl,false,.inl ⟨_,SqL.of ep,rfl⟩,GR ?_⟩;have eps:ps=Fd:=by simpa using eps
   rw [<-eps] at tf;exact ⟨_,rfl,q fl fs H3 s3 hfl ef tf⟩
  ·rw [List.concat_eq_append] at tu hpr eps ⊢;rw [List.map_append] at tu;obtain ⟨us,x,rfl,tu',tx⟩:=Zf tu;have hd:=hpr (d,qs) (by simp);have hsum:((pend++[(d,qs)]).map λp=>p.2.length).sum=(pend.map λp=>p.2.length).sum+qs.length:=by simp
   rw [hsum];have eps2:ps=Fd++(qs++pend.reverse.flatMap (·.2)):=by rw [eps];simp
   have hul:=tu'.len;have qJ:Fd.length+(qs.length+(pend.reverse.flatMap (·.2)).length)=ps.length:=by rw [eps2];simp
   have hq1:1<=qs.length:=Pr.one_le hd;have hpend:pend.length<=(pend.reverse.flatMap (·.2)).length:=by
    have:∀l:List (PyData×List PyData),(∀p∈l,Pr p.1 p.2)->l.length<=(l.flatMap (·.2)).length:=by
     intro l
     induction l with
     | nil=>simp
     | cons p l ih=>
      intro h;have h1:1<=p.2.length:=(h p (List.mem_cons_self ..)).one_le;have:=ih λz hz=>h z (List.mem_cons_of_mem _ hz);rw [List.flatMap_cons,List.length_append,List.length_cons]
      lia
    have:=this pend.reverse λp hp=>hpr p (List.mem_append_left _ (List.mem_reverse.mp hp));simpa using this
   rw [List.length_map] at hul;have hfl':=tf.len;refine ⟨_,rfl,true,.inl ⟨_,SqL.of ep,by cases us <;> rfl⟩,GI ?_⟩;refine ⟨_,λ_ _ h=>h,?_⟩;have hlast:(us++[x])[(us++[x]).length-1]?=some x:=by simp
   refine ⟨_,rfl,.inl ⟨rfl,_,SqL.of ep⟩,pl,_,_,rfl,rfl,ep,hlast,?_⟩;rw [List.dropLast_concat];have s4:Same H (upd H3 pl (.lst us)):=s3.put hHpl;have ep4:upd H3 pl (.lst us) pl=some (.lst us):=Gb;have ef4:upd H3 pl (.lst us) fl=some (.lst fs):=Wn ef nfp;generalize upd H3 pl (.lst us)=H4 at s4 ep4 ef4 ⊢;dsimp only [JN];refine ⟨_,rfl,.inl ⟨rfl,_,SqL.of ef4⟩,_,rfl,fl,_,_,rfl,rfl,ef4,by lia,?_⟩;have s5:Same H (upd H4 fl (.lst (fs++[x]))):=s4.put hfl;have ef5:upd H4 fl (.lst (fs++[x])) fl=some (.lst (fs++[x])):=Gb;have ep5:upd H4 fl (.lst (fs++[x])) pl=some (.lst us):=Wn ep4 (Ne.symm nfp);generalize upd H4 fl (.lst (fs++[x]))=H5 at s5 ef5 ep5 ⊢;dsimp only [VO];cases hd with
   | @leaf wd rest hw=>
    cases tx with
    | @tup a xs1 _ e z hh=>
     cases hh with
     | @cons x1 _ vs1 _ tx1 hr1=>
      cases tx1;have e5:=s5 _ _ e;refine ⟨_,rfl,a,_,_,_,rfl,rfl,SqT.of e5,Gi (j:=0) rfl,aJ,_,rfl,.inr (T.j _),rfl,rfl,_,rfl,?_⟩;show if (inV (.str wd) (sJoin.map V.str))=true then _ else _
      rw [GQ,decide_eq_false (G0 hw)];refine GR ?_;refine ⟨(pend.map λp=>p.2.length).sum,by simp,fs++[.ref a],us,Fd++[.tuple (.str wd::rest)],pend,_,rfl,s5,ef5,ep5,tf.app (.cons (.tup e z (.cons (.str _) hr1)) .nil),tu',λp hp=>hpr p (List.mem_append_left _ hp),by rw [eps2];simp,rfl⟩
   | @join wd da db pa pb hw ha hb=>
    cases tx with
    | @tup a xs1 _ e z hh=>
     cases hh with
     | @cons x1 _ vs1 _ tx1 hr1=>
      cases tx1;cases hr1 with
      | @cons va _ vs2 _ ta hr2=>
       cases hr2 with
       | @cons vb _ vs3 _ tb hr3=>
        cases hr3;have e5:=s5 _ _ e;refine ⟨_,rfl,a,_,_,_,rfl,rfl,SqT.of e5,Gi (j:=0) rfl,aJ,_,rfl,.inr (T.j _),rfl,rfl,_,rfl,?_⟩;show if (inV (.str wd) (sJoin.map V.str))=true then _ else _
        rw [GQ,decide_eq_true hw];refine GI ?_;refine ⟨_,rfl,.inl ⟨rfl,_,SqL.of ep5⟩,_,rfl,_,rfl,a,_,rfl,SqT.of e5,(by show ¬ (HT.sIx 3 0 (some 1)=0/\HT.sIx 3 3 none=3);decide),λt ht=>?_⟩;rw [show J6 [V.str wd,va,vb] (some 1) none=[va,vb] from rfl];have s6:Same H5 (upd H5 t (.tup [va,vb])):=Same.new ht;have et:upd H5 t (.tup [va,vb]) t=some (.tup [va,vb]):=Gb;have ep6:=s6 _ _ ep5;have ef6:=s6 _ _ ef5;refine ⟨pl,t,_,[va,vb],rfl,rfl,ep6,et,by show us.length+2<=sizeLine;lia,?_⟩;generalize upd H5 t (.tup [va,vb])=H6 at s6 et ep6 ef6 ⊢;refine ⟨(pend.map λp=>p.2.length).sum+(pa.length+pb.length),by simp;lia,fs++[.ref a],us++[va,vb],Fd++[.tuple [.str wd,da,db]],pend++[(da,pa),(db,pb)],_,rfl,(s5.trans s6).put hHpl,Wn ef6 nfp,Gb,tf.app (.cons (.tup e z (.cons (.str _) (.cons ta (.cons tb .nil)))) .nil),?_,?_,?_,by simp⟩
        ·rw [List.map_append];exact tu'.app (.cons ta (.cons tb .nil))
        ·intro p hp;rcases List.mem_append.mp hp with h | h
         ·exact hpr p (List.mem_append_left _ h)
         ·rcases List.mem_cons.mp h with h | h
          ·rw [h];exact ha
          ·rw [List.mem_singleton.mp h];exact hb
        ·rw [eps2];simp
end
end M
namespace M
open PySem L2
theorem JC {a b:Str}(h:a.cps.toList=b.cps.toList):a=b:=by
 cases a;cases b
 congr 1
 exact Array.ext' h
theorem Jk (a b:Str):(a++b).cps.toList=a.cps.toList++b.cps.toList:=by rw [PySem.Str.cps_append,Array.toList_append]
theorem Jw (x:Str):x.cps.toList.length=x.length:=Array.length_toList
def Wx:PyData->List Nat
 | .int i=>(num i).cps.toList
 | _=>[]
def Jx (w:Str)(rest:List PyData):List PyData:=if w∈sFour then (match rest with | [.tuple ds]=>ds | _=>[]) else rest
def JE (w:Str)(rest:List PyData):List Nat:=w.cps.toList++(Jx w rest).flatMap λd=>32::Wx d
def Jg (w:Str)(s t:List Nat):List Nat:=40::(s++32::(w.cps.toList++32::(t++[41])))
inductive Tx:PyData->List Nat->Prop
 | leaf {w:Str} {rest:List PyData}:Ja w rest=true->Tx (.tuple (.str w::rest)) (JE w rest)
 | join {w:Str} {a b:PyData} {s t:List Nat}:w∈sJoin->Tx a s->Tx b t->Tx (.tuple [.str w,a,b]) (Jg w s t)
inductive Ev:List PyData->List (List Nat)->List (List Nat)->Prop
 | nil {S:List (List Nat)}:Ev [] S S
 | leaf {w:Str} {rest:List PyData} {ds:List PyData} {S R:List (List Nat)}:Ja w rest=true->Ev ds (S++[JE w rest]) R->Ev (.tuple (.str w::rest)::ds) S R
 | join {w:Str} {a b:PyData} {s t:List Nat} {ds:List PyData} {S R:List (List Nat)}:w∈sJoin->Ev ds (S++[Jg w s t]) R->Ev (.tuple [.str w,a,b]::ds) (S++[s,t]) R
theorem Zd1 {d:PyData}{ps:List PyData}(h:Pr d ps):∀{s:List Nat}{ds:List PyData}{S R:List (List Nat)},Tx d s->Ev ds (S++[s]) R->Ev (ps.reverse++ds) S R:=by
 induction h with
 | leaf hl=>
  intro s ds S R tx ev;cases tx with
  | leaf _=>exact .leaf hl ev
  | join hw _ _=>exact absurd hw (G0 hl)
 | join hw _ _ iha ihb=>
  intro s ds S R tx ev;cases tx with
  | leaf hl=>exact absurd hw (G0 hl)
  | join _ ta tb=>
   rw [List.reverse_cons,List.reverse_append,List.append_assoc,List.append_assoc];refine iha ta (ihb tb ?_);rw [List.append_assoc];exact .join hw ev
def Zg (S:List (List Nat)):Nat:=(S.map List.length).sum
theorem ZcG {ds:List PyData}{S R:List (List Nat)}(h:Ev ds S R):Zg S<=Zg R:=by
 induction h with
 | nil=>exact Nat.le_refl _
 | leaf _ _ ih=>unfold Zg at ih ⊢;simp at ih;lia
 | join _ _ ih=>unfold Zg at ih ⊢;simp [Jg] at ih ⊢;lia
theorem Zh (S:List (List Nat))(s:List Nat):Zg (S++[s])=Zg S+s.length:=by simp [Zg]
theorem X5:∀(k m:Nat),m<10 ^ (k+1)->(Nat.toDigits 10 m).length<=k+1
 | 0,m,h=>by
  rw [Nat.toDigits_of_lt_base (by simpa using h)];simp
 | k+1,m,h=>by
  rw [Nat.toDigits_eq_if (by decide)];split
  ·simp
  ·have:=X5 k (m / 10) (by rw [Nat.pow_succ] at h;lia);rw [List.length_append,List.length_singleton]
   lia
theorem Zbk:∀(k m:Nat),m<10 ^ (k+1)->∀c∈(Nat.toDigits 10 m).map Char.toNat,48<=c/\c<=57:=by
 have one:∀d:Fin 10,48<=(Nat.digitChar d.val).toNat/\(Nat.digitChar d.val).toNat<=57:=by decide +kernel
 intro k
 induction k with
 | zero=>
  intro m h c hc;rw [Nat.toDigits_of_lt_base (by simpa using h)] at hc;rw [List.map_singleton,List.mem_singleton] at hc;rw [hc];exact one ⟨m,by simpa using h⟩
 | succ k ih=>
  intro m h c hc;rw [Nat.toDigits_eq_if (by decide)] at hc;split at hc
  ·rename_i hm;rw [List.map_singleton,List.mem_singleton] at hc;rw [hc];exact one ⟨m,hm⟩
  ·rw [List.map_append,List.mem_append] at hc;rcases hc with hc | hc
   ·exact ih (m / 10) (by rw [Nat.pow_succ] at h;lia) c hc
   ·rw [List.map_singleton,List.mem_singleton] at hc;rw [hc];exact one ⟨m % 10,Nat.mod_lt _ (by decide)⟩
theorem Uq {i:Int}(h0:0<=i)(h1:i<=9999):(num i).cps.toList.length<=4/\∀c∈(num i).cps.toList,48<=c/\c<=57:=by
 obtain ⟨n,rfl⟩:∃n:Nat,i=n:=⟨i.toNat,by lia⟩;rw [W.KIN.signs_num];have hn:n<10 ^ (3+1):=by lia
 exact ⟨by rw [List.length_map];exact X5 3 n hn,Zbk 3 n hn⟩
theorem Jy {w:Str}{rest:List PyData}(h:Ja w rest=true):∃ns:List Int,Jx w rest=ns.map .int/\(∀i∈ns,0<=i/\i<=9999)/\((w∈sFour/\rest=[.tuple (ns.map .int)])\/(w ∉ sFour/\rest=ns.map .int)):=by
 have sm:∀{d:PyData},Ol d=true->∃i,d=.int i/\0<=i/\i<=9999:=by
  intro d hd;cases d with
  | int i=>
   have:(decide (0<=i) && decide (i<=9999))=true:=hd;rw [Bool.and_eq_true,decide_eq_true_eq,decide_eq_true_eq] at this;exact ⟨i,rfl,this⟩
  | _=>cases hd
 have all:∀ds:List PyData,ds.all Ol=true->∃ns:List Int,ds=ns.map .int/\∀i∈ns,0<=i/\i<=9999:=by
  intro ds
  induction ds with
  | nil=>exact λ_=>⟨[],rfl,λi hi=>by cases hi⟩
  | cons d ds ih=>
   intro h;rw [List.all_cons,Bool.and_eq_true] at h;obtain ⟨ns,e,hn⟩:=ih h.2;obtain ⟨i,rfl,hi⟩:=sm h.1;exact ⟨i::ns,by rw [e];rfl,λj hj=>(List.mem_cons.mp hj).elim (λz=>z▸hi) (hn j)⟩
 unfold Ja at h;by_cases hb:w∈sBare
 ·rw [if_pos hb] at h;have h4:w ∉ sFour:=by
   unfold sBare at hb;simp at hb;rcases hb with rfl | rfl | rfl <;> decide +kernel
  have e:rest=[]:=List.isEmpty_iff.mp h;exact ⟨[],by unfold Jx;rw [if_neg h4,e];rfl,λi hi=>(by cases hi),.inr ⟨h4,by rw [e];rfl⟩⟩
 ·rw [if_neg hb] at h;by_cases hp:w∈sPair
  ·rw [if_pos hp] at h;have h4:w ∉ sFour:=by
    unfold sPair at hp;simp at hp;rcases hp with rfl | rfl <;> decide +kernel
   match rest,h with
   | [a,b],h=>
    obtain ⟨ns,e,hn⟩:=all [a,b] (by rw [List.all_cons,List.all_cons,List.all_nil,Bool.and_true];exact h);exact ⟨ns,by unfold Jx;rw [if_neg h4,e],hn,.inr ⟨h4,e⟩⟩
  ·rw [if_neg hp] at h;by_cases h4:w∈sFour
   ·rw [if_pos h4] at h
    match rest,h with
    | [.tuple ds],h=>
     obtain ⟨ns,e,hn⟩:=all ds h;exact ⟨ns,by unfold Jx;rw [if_pos h4];exact e,hn,.inl ⟨h4,by rw [e]⟩⟩
   ·rw [if_neg h4] at h;cases h
theorem Ob {H:Hp}:∀{vs:List V}{ns:List Int},Ths H vs (ns.map .int)->vs=ns.map V.int
 | _,[],.nil=>rfl
 | _,n::ns,.cons t r=>by
  cases t;rw [Ob r]
  rfl
section
variable {P:Program}{w:World}{K:W.Frag}{mg:Str->Option Value}{base:Heap}
def ZcH:Sp:=λvs H Q _=>∃(v:V)(wd:Str)(rest:List PyData),vs=[v]/\Th H v (.tuple (.str wd::rest))/\Ja wd rest=true/\∀(t:Addr)(ns:List Int)(H':Hp),Same H H'->H' t=some (.tup (ns.map V.int))->Jx wd rest=ns.map .int->(∀i∈ns,0<=i/\i<=9999)->ns.length<=1000->Q (.ref t) H'
theorem Zd2:Gz ["leaf"] ["leaf"] (Gh Za4):=⟨rfl,rfl,rfl,by decide +kernel,rfl,by decide +kernel,by decide +kernel⟩
theorem ZcI {f aJ aB aP aR aL:Addr}{fd:FuncData}(F:Fun K "numbers_of" "numbers_of" Za4 f fd)(T:Wds K aJ aB aP aR aL)(mOfR:mg "OF_ROADS" = some (.ref aR))(mOfP:mg "OF_PLACES" = some (.ref aL)):Jl P w K mg base CX0 1 f fd ["leaf"] ZcH:=by
 refine F.ok Zd2 (λvs H Q E h=>?_) (λcdv A outer s H vs Q E hr h=>?_)
 ·obtain ⟨_,_,_,rfl,_⟩:=h
  rfl
 ·obtain ⟨v,wd,rest,rfl,th,hl,q⟩:=h;refine ⟨_,Gf (Go (O2 (Gj (kIn K) (Gp (OW K) (pv 0) Gc (λ_ _=>rfl)) (Gn (Vx K) (Jt mOfR) (Jt mOfP)) (by with_unfolding_all rfl)) (Gp (OW K) (pv 0) Gc (λ_ _=>rfl)) (Gx (ZbS K) (pv 0) (Gw Gc) GX))),?_⟩;cases th with
  | @tup a xs1 _ e z hh=>
   cases hh with
   | @cons x1 _ vs1 _ tx1 hr1=>
    cases tx1;obtain ⟨ns,en,hn,hc⟩:=Jy hl;have qJ:=hr1.len;rw [List.length_cons] at z;refine ⟨_,rfl,a,_,_,_,rfl,rfl,SqT.of e,Gi (j:=0) rfl,aR,aL,_,_,rfl,rfl,T.r _,T.l _,(by simp),(by show 4<=sizeLine;decide),(λz=>by cases z),λ_ p hp=>?_⟩;have s1:Same H (upd H p (.tup (sFour.map V.str))):=Same.new hp;refine ⟨p,_,rfl,.inr (SqT.of (xs:=sFour.map V.str) Gb),rfl,rfl,_,rfl,?_⟩;show if (inV (.str wd) (sFour.map V.str))=true then _ else _
    rw [GQ];have e1:=s1 _ _ e;rcases hc with ⟨h4,er⟩ | ⟨h4,er⟩
    ·rw [decide_eq_true h4];subst er;cases hr1 with
     | cons t2 r2=>
      cases r2;cases t2 with
      | @tup b ys _ e2 z2 hh2=>
       rw [Ob hh2] at e2 z2;rw [List.length_map] at z2;exact GI ⟨_,rfl,a,_,_,_,rfl,rfl,SqT.of e1,Gi (j:=1) rfl,q b ns _ s1 (s1 _ _ e2) en hn z2⟩
    ·rw [decide_eq_false h4];rw [er] at hr1;obtain rfl:=Ob hr1;refine GR ⟨_,rfl,_,rfl,a,_,rfl,SqT.of e1,?_,λt ht=>?_⟩
     ·rw [List.length_cons];intro hz;have:=hz.1;simp [HT.sIx] at this
     ·have ec:J6 (V.str wd::ns.map V.int) (some 1) none=ns.map V.int:=by
       have:=J1 (xs:=V.str wd::ns.map V.int) (k:=1);exact this
      rw [ec];exact q t ns _ (s1.trans (Same.new ht)) Gb en hn (by rw [List.length_map] at qJ;rw [List.length_map] at z;lia)
end
end M
namespace M
open PySem L2
theorem VD:∀(ns:List Int)(acc:Array Nat),((ns.map num).foldl (λacc p=>acc++(" " : Str).cps++p.cps) acc).toList=acc.toList++(ns.map PyData.int).flatMap (λd=>32::Wx d)
 | [],acc=>by simp
 | n::ns,acc=>by
  rw [List.map_cons,List.foldl_cons,VD ns,List.map_cons,List.flatMap_cons];simp only [Array.toList_append];show acc.toList++[32]++(num n).cps.toList++_=acc.toList++(32::(num n).cps.toList++_);simp
theorem join_leaf {w:Str}{rest:List PyData}{ns:List Int}(e:Jx w rest=ns.map .int):Txt.join (" " : Str) (w::ns.map num)=mkS (JE w rest):=by
 apply JC;show (((w::ns.map num).drop 1).foldl (λacc p=>acc++(" " : Str).cps++p.cps) ((w::ns.map num).headD Str.empty).cps).toList=JE w rest;unfold JE;rw [e];exact VD ns w.cps
theorem VX {i:Int}(h:0<=i/\i<=9999):(num i).length<=4:=by
 have:=(Uq h.1 h.2).1
 rwa [Jw] at this
theorem Zi {w:Str}{ns:List Int}(hw:w.length<=6)(h:∀i∈ns,0<=i/\i<=9999)(hn:ns.length<=1000):PySem.JoinOk (" " : Str) (w::ns.map num)=true:=by
 unfold PySem.JoinOk;have h4:(" " : Str).length=1:=by decide +kernel
 have key:∀(l:List Int)(a:Nat),(∀p∈l,0<=p/\p<=9999)->(l.map num).foldl (λa s=>a+s.length+(" " : Str).length) a<=a+5 * l.length:=by
  intro l
  induction l with
  | nil=>intro a _;exact Nat.le_refl _
  | cons p l ih=>
   intro a hl;have h2:=VX (hl p (List.mem_cons_self ..));rw [List.map_cons,List.foldl_cons];refine Nat.le_trans (ih _ λq hq=>hl q (List.mem_cons_of_mem _ hq)) ?_;rw [List.length_cons]
   lia
 have h3:=key ns (0+w.length+(" " : Str).length) h;rw [List.foldl_toArray',List.foldl_cons] <;> try rfl
 simp only [Bool.not_eq_true'];unfold Builtin.Str.tooLong;apply decide_eq_false;rw [sizeLine_eq]
 lia
theorem X6 {w:Str}{rest:List PyData}(h:Ja w rest=true):w∈sBare\/w∈sPair\/w∈sFour:=by
 unfold Ja at h;by_cases hb:w∈sBare
 ·exact .inl hb
 rw [if_neg hb] at h;by_cases hp:w∈sPair
 ·exact .inr (.inl hp)
 rw [if_neg hp] at h;by_cases h4:w∈sFour
 ·exact .inr (.inr h4)
 rw [if_neg h4] at h;cases h
def allW:List Str:=["closed", "shy", "all", "open", "long", "with", "off", "over", "past"]
theorem JF {w:Str}{rest:List PyData}(h:Ja w rest=true):w∈allW:=by
 have key:∀w,w∈sBare\/w∈sPair\/w∈sFour->w∈allW:=by
  have h1:∀w∈sBare,w∈allW:=by decide +kernel
  have h2:∀w∈sPair,w∈allW:=by decide +kernel
  have h3:∀w∈sFour,w∈allW:=by decide +kernel
  exact λw h=>h.elim (h1 w) λh=>h.elim (h2 w) (h3 w)
 exact key w (X6 h)
theorem U8 {w:Str}(h:w∈allW):w.length<=6:=by
 have:∀w∈allW,w.length<=6:=by decide +kernel
 exact this w h
theorem Ur {w:Str}{rest:List PyData}{ns:List Int}(h:Ja w rest=true)(e:Jx w rest=ns.map .int)(hi:∀i∈ns,0<=i/\i<=9999):(JE w rest).length<=6+5 * ns.length:=by
 have key:∀l:List Int,(∀p∈l,0<=p/\p<=9999)->((l.map PyData.int).flatMap λd=>32::Wx d).length<=5 * l.length:=by
  intro l
  induction l with
  | nil=>intro _;exact Nat.le_refl _
  | cons p l ih=>
   intro hl;have h2:=(Uq (hl p (List.mem_cons_self ..)).1 (hl p (List.mem_cons_self ..)).2).1;have:=ih λq hq=>hl q (List.mem_cons_of_mem _ hq);rw [List.map_cons,List.flatMap_cons,List.length_append,List.length_cons,List.length_cons];show (num p).cps.toList.length+1+_<=_
   lia
 unfold JE;rw [e,List.length_append,Jw];have:=key ns hi;have:=U8 (JF h)
 lia
section
variable {P:Program}{w:World}{K:W.Frag}{mg:Str->Option Value}{base:Heap}
def ZcJ:Sp:=λvs H Q _=>∃(v:V)(wd:Str)(rest:List PyData),vs=[v]/\Th H v (.tuple (.str wd::rest))/\Ja wd rest=true/\∀H',Same H H'->(JE wd rest).length<=5006->Q (.str (mkS (JE wd rest))) H'
theorem Zd3:Gz ["leaf"] ["leaf"] (Gh ZbV):=⟨rfl,rfl,rfl,by decide +kernel,rfl,by decide +kernel,by decide +kernel⟩
theorem ZcK {f fNo:Addr}{fd fdNo:FuncData}(F:Fun K "show_leaf" "show_leaf" ZbV f fd)(FNo:Fun K "numbers_of" "numbers_of" Za4 fNo fdNo)(bNo:Binds K fdNo ["leaf"] [])(mNo:mg "numbers_of" = some (.ref fNo))(GNo:Jl P w K mg base CX0 1 fNo fdNo ["leaf"] ZcH)(mStr:mg "str" = none):Jl P w K mg base CX0 2 f fd ["leaf"] ZcJ:=by
 refine F.ok Zd3 (λvs H Q E h=>?_) (λcdv A outer s H vs Q E hr h=>?_)
 ·obtain ⟨_,_,_,rfl,_⟩:=h
  rfl
 ·obtain ⟨v,wd,rest,rfl,th,hl,q⟩:=h;have h16:(16777216:Nat)=sizeLine:=sizeLine_eq.symm;refine ⟨_,Gf (Go (Op PySem.F.plainAttrs_str PySem.F.slot_str_join PySem.F.type_str_join (ZaC K) Gg (Ga (Gn J8 (GO (Ga (Gp (OW K) (pv 0) Gc (λ_ _=>rfl)) Gd)) (OJ (own:=["number"]) rfl (Js (by decide +kernel) (by decide +kernel) rfl (by decide +kernel)) (YT K (GH GNo (hr.mono (by decide)) rfl mNo FNo.kp bNo .nil Jh (Ga (pv 0) Gd))) (λ_ _ _ _=>GV (i:=0) (show List.Nodup (["number"]:List Str) by decide +kernel) rfl (Or.inl rfl)) (λ_ _ _ _=>JZ) (λ_ _ _ _=>Jm ZeE rfl mStr Oh (Ga (pv 0) Gd)))) Gd))),?_⟩;obtain ⟨a,x0,e,hx0⟩:∃a xs,v=.ref a/\H a=some (.tup (.str wd::xs)):=by
   cases th with
   | tup e z hh=>cases hh with | cons t1 _=>cases t1;exact ⟨_,_,rfl,e⟩
  subst e;refine ⟨rfl,_,rfl,a,_,_,_,rfl,rfl,SqT.of hx0,Gi (j:=0) rfl,by show 1<=sizeLine;lia,λp hp=>?_⟩;have s1:Same H (upd H p (.lst [.str wd])):=Same.new hp;have e1:upd H p (.lst [.str wd]) p=some (.lst [.str wd]):=Gb;generalize upd H p (.lst [.str wd])=H1 at s1 e1 ⊢;refine ⟨_,rfl,.ref a,wd,rest,rfl,th.same s1,hl,λt ns H2 s2 et en hn hz=>?_⟩;refine ⟨t,rfl,⟨_,SqT.of et⟩,λD hD=>?_⟩;refine U1 (K:=K) (a:=t) (xs:=ns.map V.int) (λi ys H3=>Same H2 H3/\H3 D=some (.lst ys)/\ys=((ns.take i).map num).map V.str) ⟨Same.new hD,Gb,rfl⟩ (λi ys H3 _ ⟨s3,_⟩=>SqT.of (s3 _ _ et)) ?_ ?_
  ·rintro i x ys H3 hxi ⟨s3,hD3,rfl⟩;rw [List.getElem?_map] at hxi;obtain ⟨n,hn1,rfl⟩:=Option.map_eq_some_iff.mp hxi;obtain ⟨hi,er'⟩:=List.getElem?_eq_some_iff.mp hn1;have hm:=hn n (List.mem_of_getElem? hn1);refine ⟨trivial,?_⟩;unfold ZL;refine GI ?_;refine ⟨_,rfl,n,rfl,⟨hm.1,by lia⟩,hD3,?_,s3.put hD,Gb,?_⟩
   ·rw [List.length_map,List.length_map,List.length_take]
    lia
   ·rw [List.take_succ_eq_append_getElem hi,er',List.map_append,List.map_append]
    rfl
  ·rintro ys H3 ⟨s3,hD3,rfl⟩;rw [List.length_map,List.take_length] at hD3;refine ⟨p,D,_,_,rfl,rfl,s3 _ _ (s2 _ _ e1),hD3,by simp only [List.length_map,List.length_singleton];lia,λc hc=>?_⟩;refine ⟨(" " : Str),c,wd::ns.map num,rfl,rfl,SqL.of (by rw [Gb];rfl),Zi (U8 (JF hl)) hn hz,?_⟩;rw [join_leaf en];have:=Ur hl en hn;exact q _ (s1.trans (s2.trans (s3.trans (Same.new hc)))) (by lia)
end
end M
namespace M
open PySem L2
abbrev noE:Expr:=.Name "" ⟨0,0,0,0⟩
abbrev noA:Arguments:={ posonlyargs:=[],args:=[],vararg:=none,kwonlyargs:=[],kw_defaults:=[],kwarg:=none,defaults:=[] }
abbrev YG:Expr:=match (Gy ZS).getD 0 (.Pass ⟨0,0,0,0⟩) with
 | .Return (some (.Call _ as _ _)) _=>as.getD 2 noE
 | _=>noE
abbrev Zbl (e:Expr):Arguments:=match e with
 | .Lambda a _ _ _=>a
 | _=>noA
abbrev Zbm (e:Expr):Expr:=match e with
 | .Lambda _ b _ _=>b
 | _=>noE
abbrev Wy (e:Expr):Scope:=match e with
 | .Lambda _ _ c _=>c
 | _=>{ kind:=.function,names:=[],isGenerator:=false,isCoroutine:=false }
theorem X7 {H H':Hp}{clos:Zb}(s:Same (OC clos H) H'):Same H (Xd clos H H'):=λa u e=>by
 by_cases z:a∈clos.map (·.2)
 ·rw [VW z];exact e
 ·rw [JP z];exact s a u (by rw [Jv z];exact e)
section
variable {P:Program}{w:World}{K:W.Frag}{mg:Str->Option Value}{base:Heap}
abbrev Zbn:Str:=Str.ofString "show_wish.<locals>.<lambda>"
abbrev ZcL (pm:Value)(c':Addr)(ctv:Value):Obj:=W.kla_obj "<lambda>" Zbn (Zbl YG) (Zbm YG) (Wy YG) [] pm c' ctv
theorem Zd4:U7 ["word", "first", "second"] ["word", "first", "second"] [] (Wy YG):=⟨rfl,rfl,rfl,by decide +kernel,rfl,by decide +kernel,by decide +kernel,by decide +kernel,by decide +kernel⟩
def ZeF (HG:Hp->Prop):Sp:=λvs H Q _=>∃(wd:Str)(x y:List Nat),vs=[.str wd,.str (mkS x),.str (mkS y)]/\HG H/\(Jg wd x y).length<=16000000/\∀H':Hp,Same H H'->Q (.str (mkS (Jg wd x y))) H'
theorem Gk (l:List Nat):(mkS l).length=l.length:=by simp [mkS,Str.length]
theorem X8 (wd:Str)(x y:List Nat):Str.empty++("(" : Str)++mkS x++(" " : Str)++wd++(" " : Str)++mkS y++(")" : Str)=mkS (Jg wd x y):=by
 apply JC;rw [Jk,Jk,Jk,Jk,Jk,Jk,Jk];show []++[40]++x++[32]++wd.cps.toList++[32]++y++[41]=Jg wd x y;unfold Jg;simp
theorem ZcM {f c':Addr}{pm ctv:Value}:Jl P w K mg base CX0 1 f (W.kla_fn "<lambda>" Zbn (Zbl YG) (Zbm YG) (Wy YG) [] pm (.ref c') ctv) ["word", "first", "second"] (ZeF (λH=>CloFn H f c' Zbn (ZcL pm c' ctv))):=by
 refine Zcy (N:=["word", "first", "second"]) Zd4 rfl (by simp) (λvs H Q E h=>?_) (λA outer s H vs Q E hr h=>?_)
 ·obtain ⟨_,_,_,rfl,_⟩:=h
  rfl
 ·obtain ⟨wd,x,y,rfl,hf,hl,q⟩:=h;refine ⟨hf,[],.nil,_,ZaE (Oq Gg (Oq (VU (pv 1)) (Oq Gg (Oq (VU (pv 0)) (Oq Gg (Oq (VU (pv 2)) (Oq Gg Zcq))))))),?_⟩;have h16:(16777216:Nat)=sizeLine:=sizeLine_eq.symm;have l0:Str.empty.length=0:=rfl;have l1:("(" : Str).length=1:=by decide +kernel
  have l2:(" " : Str).length=1:=by decide +kernel
  have l3:(")" : Str).length=1:=by decide +kernel
  have lx:=Gk x;have ly:=Gk y;have lw:=Jw wd;have lj:(Jg wd x y).length=x.length+wd.length+y.length+4:=by
   unfold Jg;simp only [List.length_cons,List.length_append,List.length_nil,lw]
   lia
  have lf:(Str.empty++("(" : Str)++mkS x++(" " : Str)++wd++(" " : Str)++mkS y++(")" : Str)).length<=sizeLine:=by
   simp only [PySem.Str.length_append];lia
  refine ⟨("(" : Str),rfl,by simp only [PySem.Str.length_append];lia,_,rfl,mkS x,rfl,by lia,mkS x,rfl,by simp only [PySem.Str.length_append];lia,(" " : Str),rfl,by simp only [PySem.Str.length_append];lia,_,rfl,wd,rfl,by lia,wd,rfl,by simp only [PySem.Str.length_append];lia,(" " : Str),rfl,by simp only [PySem.Str.length_append];lia,_,rfl,mkS y,rfl,by lia,mkS y,rfl,by simp only [PySem.Str.length_append];lia,(")" : Str),rfl,lf,lf,λhN=>?_⟩;rw [X8];exact q _ (X7 (Same.refl _))
def Zbo (P:Program)(w:World)(K:W.Frag)(mg:Str->Option Value)(base:Heap)(fTo:Addr):Sp:=λvs H Q _=>∃(v:V)(d:PyData)(ps:List PyData)(tx:List Nat)(fJ:Addr)(fdJ:FuncData)(HG:Hp->Prop),vs=[v,.ref fTo,.ref fJ]/\Th H v d/\Pr d ps/\ps.length<=1000/\Tx d tx/\tx.length<=1000000 /\
 (∀H',Same H H'->HG H'/\FnIn H' fJ)/\Binds K fdJ ["word", "first", "second"] []/\Jl P w K mg base CX0 1 fJ fdJ ["word", "first", "second"] (ZeF HG)/\∀H',Same H H'->Q (.str (mkS tx)) H'
theorem scFol:Gz ["wish", "told_of", "joined", "told", "part", "second", "first"] ["wish", "told_of", "joined"] (Gh Za1):=⟨rfl,rfl,rfl,by decide +kernel,rfl,by decide +kernel,by decide +kernel⟩
theorem Xf {H H':Hp}{v:V}{d:PyData}(h:Ol d=true)(t:Th H v d):Th H' v d:=by
 cases t with
 | int i=>exact .int i
 | _=>exact absurd h Bool.false_ne_true
theorem Ot {H H':Hp}:∀{vs:List V}{ds:List PyData},ds.all Ol=true->Ths H vs ds->Ths H' vs ds
 | _,_,_,.nil=>.nil
 | _,_,h,.cons a b=>by
  rw [List.all_cons,Bool.and_eq_true] at h;exact .cons (Xf h.1 a) (Ot h.2 b)
theorem VE {H H':Hp}(k:∀t ys,H t=some (.tup ys)->H' t=some (.tup ys)){wd:Str}{rest:List PyData}{vs:List V}(h:Ja wd rest=true)(t:Ths H vs rest):Ths H' vs rest:=by
 unfold Ja at h;by_cases h1:wd∈sBare
 ·rw [if_pos h1] at h
  match rest,h,t with
  | [],_,.nil=>exact .nil
 rw [if_neg h1] at h;by_cases h2:wd∈sPair
 ·rw [if_pos h2] at h
  match rest,h,t with
  | [a,b],h,t=>
   exact Ot (by simpa using h) t
 rw [if_neg h2] at h;by_cases h3:wd∈sFour
 ·rw [if_pos h3] at h
  match rest,h,t with
  | [.tuple ds],h,.cons (.tup e z hh) .nil=>exact .cons (.tup (k _ _ e) z (Ot h hh)) .nil
 rw [if_neg h3] at h;cases h
theorem Zj {d:PyData}{ds:List PyData}{S R:List (List Nat)}(h:Ev (d::ds) S R):(∃w rest,d=.tuple (.str w::rest)/\Ja w rest=true/\Ev ds (S++[JE w rest]) R)\/∃w a b s t S',d=.tuple [.str w,a,b]/\w∈sJoin/\S=S'++[s,t]/\Ev ds (S'++[Jg w s t]) R:=by
 cases h with
 | leaf a b=>exact .inl ⟨_,_,rfl,a,b⟩
 | join a b=>exact .inr ⟨_,_,_,_,_,_,rfl,a,rfl,b⟩
def UD (s:List Nat):V:=.str (mkS s)
theorem ZcN {f fPa fTo aJ aB aP aR aL:Addr}{fd fdPa fdTo:FuncData}(F:Fun K "folded" "folded" Za1 f fd)(FPa:Fun K "parts_of" "parts_of" Za0 fPa fdPa)(bPa:Binds K fdPa ["wish"] [])(mPa:mg "parts_of" = some (.ref fPa))(GPa:Jl P w K mg base CX0 1 fPa fdPa ["wish"] ZcE)(kTo:W.keepIn K (.ref fTo)=true)(bTo:Binds K fdTo ["leaf"] [])(GTo:Jl P w K mg base CX0 2 fTo fdTo ["leaf"] ZcJ)(T:Wds K aJ aB aP aR aL)(mJoi:mg "JOINING" = some (.ref aJ))(mRev:mg "reversed" = none):Jl P w K mg base CX0 3 f fd ["wish", "told_of", "joined"] (Zbo P w K mg base fTo):=by
 refine F.ok scFol (λvs H Q E h=>?_) (λcdv A outer s H vs Q E hr h=>?_)
 ·obtain ⟨_,_,_,_,_,_,_,rfl,_⟩:=h
  rfl
 ·obtain ⟨v,d,ps,tx,fJ,fdJ,HG,rfl,th,pr,hpl,htx,hxl,hG,bJn,GJn,q⟩:=h;have h16:(16777216:Nat)=sizeLine:=sizeLine_eq.symm;refine ⟨_,(@Ge _ _ _ _ _ (@Gs _ _ 3 _ _ _ _ scFol.nd rfl (Or.inl rfl) (@GO _ _ _ _ Gd) rfl (by first | exact .inl rfl | exact .inr rfl))
    (@Ge _ _ _ _ _ (@Om _ _ _ _ _ _ _ _ PassesOwn.never rfl (Ze0 K rfl mRev (@Ga _ _ _ _ _ (@GH _ _ _ _ _ _ _ _ _ _ _ _ _ _ _ _ GPa (hr.mono (by decide)) rfl mPa FPa.kp bPa .nil Jh (@Ga _ _ _ _ _ (pv 0) Gd rfl) (by decide) rfl rfl) Gd rfl)) (GV (i:=4) scFol.nd rfl (Or.inl rfl))
    (@Gf _ _ _ (@GT _ _ _ _ _ _ _ _ (Gj (kIn K) (@Gp _ _ _ _ _ _ _ (OW K) (pv 4) Gc (λ_ _=>rfl)) (Jt mJoi) (by with_unfolding_all rfl)) (@Ge _ _ _ _ _ (@Gs _ _ 5 _ _ _ _ scFol.nd rfl (Or.inl rfl) (Wg PySem.F.plainAttrs_list PySem.F.slot_list_pop PySem.F.type_list_pop Wi (pv 3)) rfl (by first | exact .inl rfl | exact .inr rfl))
    (@Ge _ _ _ _ _ (@Gs _ _ 6 _ _ _ _ scFol.nd rfl (Or.inl rfl) (Wg PySem.F.plainAttrs_list PySem.F.slot_list_pop PySem.F.type_list_pop Wi (pv 3)) rfl (by first | exact .inl rfl | exact .inr rfl))
    (@Gf _ _ _ (JJ (Op PySem.F.plainAttrs_list PySem.F.slot_list_append PySem.F.type_list_append Jn (pv 3) (@Ga _ _ _ _ _ (Zd GJn (hr.mono (by lia)) (pv 2) bJn .nil Jh (@Ga _ _ _ _ _ (@Gp _ _ _ _ _ _ _ (OW K) (pv 4) Gc (λ_ _=>rfl)) (@Ga _ _ _ _ _ (pv 6) (@Ga _ _ _ _ _ (pv 5) Gd rfl) rfl) rfl)) Gd rfl)))))) (@Gf _ _ _ (JJ (Op PySem.F.plainAttrs_list PySem.F.slot_list_append PySem.F.type_list_append Jn (pv 3) (@Ga _ _ _ _ _ (Za GTo (hr.mono (by lia)) (pv 1) kTo bTo .nil Jh (@Ga _ _ _ _ _ (pv 4) Gd rfl)) Gd rfl)))))) (by intro _;rfl))
    (@Gf _ _ _ (@Go _ _ _ _ (@Gp _ _ _ _ _ _ _ (Jp K) (pv 3) Gc (λ_ _=>rfl)))))),?_⟩
  refine ⟨Nat.zero_le _,λtl htl=>?_⟩;have s1:Same H (upd H tl (.lst [])):=Same.new htl;have e1:upd H tl (.lst []) tl=some (.lst []):=Gb;generalize upd H tl (.lst [])=H1 at s1 e1 ⊢;refine ⟨_,rfl,v,d,ps,rfl,th.same s1,pr,by lia,λfl us H2 s2 hfl efl tu=>?_⟩;have hul:=tu.len;refine ⟨fl,us,rfl,SqL.of efl,?_⟩;have nft:fl≠tl:=λz=>by rw [z,e1] at hfl;cases hfl
  have e2:=s2 _ _ e1;refine ZaB (K:=K) (a:=fl) (xs:=us) (λi σ H3=>∃(S:List (List Nat))(v4 v5 v6:Option V),σ=[some v,some (.ref fTo),some (.ref fJ),some (.ref tl),v4,v5,v6]/\Same H H3/\SameL tl H2 H3/\H3 tl=some (.lst (S.map UD))/\S.length<=i/\Ev (ps.reverse.drop i) S [tx]) ⟨[],none,none,none,rfl,s1.trans s2,SameL.of (Same.refl _),e2,Nat.le_refl _,?_⟩ ?_ ?_ ?_
  ·have:=Zd1 pr (S:=[]) (ds:=[]) (R:=[tx]) htx .nil;rw [List.append_nil] at this;exact this
  ·rintro i σ H3 hi ⟨S,v4,v5,v6,rfl,s3,sl3,_⟩;exact SqL.of (sl3 _ _ nft efl)
  ·rintro i x σ H3 hi hx ⟨S,v4,v5,v6,rfl,s3,sl3,e3,hS,ev⟩;obtain ⟨p,ep,tp⟩:=(tu.same s2).get hx;have hps:ps.reverse[i]?=some p:=by
    rw [List.getElem?_reverse (by lia),<-hul];exact ep
   obtain ⟨hi',ep'⟩:=List.getElem?_eq_some_iff.mp hps;rw [List.drop_eq_getElem_cons hi',ep'] at ev;have kk:∀t ys,H2 t=some (.tup ys)->H3 t=some (.tup ys):=λt ys e=>sl3 _ _ (λz=>by rw [z,e2] at e;cases e) e;rcases Zj ev with ⟨wd,rest,rfl,hl,ev'⟩ | ⟨wd,da,db,sa,sb,S',rfl,hw,rfl,ev'⟩
   ·cases tp with
    | @tup a xs1 _ e z hh=>
     cases hh with
     | @cons x1 _ vs1 _ tx1 hr1=>
      cases tx1;have e':=kk _ _ e;refine ⟨_,rfl,a,_,_,_,rfl,rfl,SqT.of e',Gi (j:=0) rfl,aJ,_,rfl,.inr (T.j _),rfl,rfl,_,rfl,?_⟩;show if (inV (.str wd) (sJoin.map V.str))=true then _ else _
      rw [GQ,decide_eq_false (G0 hl)];refine GR ?_;refine ⟨_,rfl,.inl ⟨rfl,_,SqL.of e3⟩,rfl,_,rfl,.ref a,wd,rest,rfl,.tup e' z (.cons (.str _) (VE kk hl hr1)),hl,λH4 s4 qJ=>?_⟩;refine ⟨tl,_,_,rfl,rfl,s4 _ _ e3,by rw [List.length_map];lia,?_⟩;refine ⟨S++[JE wd rest],_,_,_,rfl,(s3.trans s4).put htl,λb o n eb=>?_,by rw [Gb,List.map_append];rfl,by rw [List.length_append,List.length_singleton];lia,ev'⟩;rw [GB n];exact s4 _ _ (sl3 _ _ n eb)
   ·cases tp with
    | @tup a xs1 _ e z hh=>
     cases hh with
     | @cons x1 _ vs1 _ tx1 hr1=>
      cases tx1;have e':=kk _ _ e;have hsum:=ZcG ev';rw [Zh] at hsum;have hj:(Jg wd sa sb).length<=1000000:=by
       have:Zg [tx]=tx.length:=by simp [Zg]
       lia
      refine ⟨_,rfl,a,_,_,_,rfl,rfl,SqT.of e',Gi (j:=0) rfl,aJ,_,rfl,.inr (T.j _),rfl,rfl,_,rfl,?_⟩;show if (inV (.str wd) (sJoin.map V.str))=true then _ else _
      rw [GQ,decide_eq_true hw];refine GI ?_;rw [List.length_append] at hS;have e3':H3 tl=some (.lst ((S'.map UD++[UD sa])++[UD sb])):=by rw [e3,List.map_append,List.append_assoc];rfl
      refine ⟨_,rfl,.inl ⟨rfl,_,SqL.of e3'⟩,tl,_,UD sb,rfl,rfl,e3',(by simp),?_⟩;rw [List.dropLast_concat];have s4:SameL tl H2 (upd H3 tl (.lst (S'.map UD++[UD sa]))):=λb o n eb=>by rw [GB n];exact sl3 _ _ n eb
      have t4:Same H (upd H3 tl (.lst (S'.map UD++[UD sa]))):=s3.put htl;have e4:upd H3 tl (.lst (S'.map UD++[UD sa])) tl=some (.lst (S'.map UD++[UD sa])):=Gb;generalize upd H3 tl (.lst (S'.map UD++[UD sa]))=H4 at s4 t4 e4 ⊢;refine ⟨_,rfl,.inl ⟨rfl,_,SqL.of e4⟩,tl,_,UD sa,rfl,rfl,e4,(by simp),?_⟩;rw [List.dropLast_concat];have s5:SameL tl H2 (upd H4 tl (.lst (S'.map UD))):=λb o n eb=>by rw [GB n];exact s4 _ _ n eb
      have t5:Same H (upd H4 tl (.lst (S'.map UD))):=t4.put htl;have e5:upd H4 tl (.lst (S'.map UD)) tl=some (.lst (S'.map UD)):=Gb;generalize upd H4 tl (.lst (S'.map UD))=H5 at s5 t5 e5 ⊢;have e5':=s5 _ _ (λz=>by rw [z,e2] at e;cases e) e;refine ⟨_,rfl,.inl ⟨rfl,_,SqL.of e5⟩,rfl,(hG _ t5).2,_,rfl,a,_,_,_,rfl,rfl,SqT.of e5',Gi (j:=0) rfl,_,rfl,_,rfl,(hG _ t5).2,wd,sa,sb,rfl,(hG _ t5).1,by lia,λH6 s6=>?_⟩;refine ⟨tl,_,_,rfl,rfl,s6 _ _ e5,by rw [List.length_map];lia,?_⟩;refine ⟨S'++[Jg wd sa sb],_,_,_,rfl,(t5.trans s6).put htl,λb o n eb=>?_,by rw [Gb,List.map_append];rfl,by rw [List.length_append,List.length_singleton];simp only [List.length_cons,List.length_nil] at hS;lia,ev'⟩;rw [GB n];exact s6 _ _ (s5 _ _ n eb)
  ·rintro σ H3 ⟨S,v4,v5,v6,rfl,s3,sl3,e3,hS,ev⟩;rw [List.drop_of_length_le (by rw [List.length_reverse];lia)] at ev;cases ev;refine ⟨_,rfl,tl,_,_,_,rfl,rfl,SqL.of e3,Gi (j:=0) rfl,?_⟩;exact q _ s3
end
end M
namespace M
open PySem L2
theorem _root_.L2.Ws.keep {H H':Hp}(k:∀t ys,H t=some (.tup ys)->H' t=some (.tup ys)){d:PyData}{m:Nat}(w:Ws d m):∀{v:V},Th H v d->Th H' v d:=by
 induction w with
 | leaf h=>
  intro v t;cases t with
  | tup e z hh=>
   cases hh with
   | cons a b=>
    cases a;exact .tup (k _ _ e) z (.cons (.str _) (VE k h b))
 | join hw _ _ ih1 ih2=>
  intro v t;cases t with
  | tup e z hh=>
   cases hh with
   | cons a b=>
    cases a;cases b with
    | cons a b=>
     cases b with
     | cons b c=>
      cases c;exact .tup (k _ _ e) z (.cons (.str _) (.cons (ih1 a) (.cons (ih2 b) .nil)))
theorem X9 {H:Hp}{v:V}{w:Str}{rest:List PyData}(t:Th H v (.tuple (.str w::rest)))(h:Ja w rest=true):∃ns:List Int,Jx w rest=ns.map .int/\(∀i∈ns,0<=i/\i<=9999)/\ns.length<=1000/\((w∈sFour/\rest=[.tuple (ns.map .int)])\/(w ∉ sFour/\rest=ns.map .int)):=by
 obtain ⟨ns,e,hn,hc⟩:=Jy h;refine ⟨ns,e,hn,?_,hc⟩;cases t with
 | tup e z hh=>
  cases hh with
  | cons a b=>
   have hl:=b.len;rw [List.length_cons] at z;rcases hc with ⟨h4,er⟩ | ⟨h4,er⟩
   ·rw [er] at b;cases b with
    | cons t2 r2=>
     cases t2 with
     | tup e2 z2 hh2=>
      have:=hh2.len;rw [List.length_map] at this
      lia
   ·rw [er,List.length_map] at hl
    lia
theorem Ws.tx {d:PyData}{m:Nat}(h:Ws d m):∃tx,Tx d tx:=by
 induction h with
 | leaf h=>exact ⟨_,.leaf h⟩
 | join hw _ _ iha ihb=>
  obtain ⟨s,hs⟩:=iha;obtain ⟨t,ht⟩:=ihb;exact ⟨_,.join hw hs ht⟩
theorem Zk {w:Str}(h:w∈sJoin):w.length<=3:=by
 have:∀w∈sJoin,w.length<=3:=by decide +kernel
 exact this w h
theorem Us (wd:Str)(x y:List Nat):(Jg wd x y).length=x.length+wd.length+y.length+4:=by
 unfold Jg;simp only [List.length_cons,List.length_append,List.length_nil,Jw]
 lia
theorem ZW {H:Hp}{d:PyData}{m:Nat}(h:Ws d m):∀{v:V}{tx:List Nat},Th H v d->Tx d tx->tx.length+7<=2507 * 2 ^ m:=by
 induction h with
 | leaf hl=>
  intro v tx th ht;cases ht with
  | leaf _=>
   obtain ⟨ns,en,hn,hz,_⟩:=X9 th hl;have:=Ur hl en hn
   lia
  | join hw _ _=>exact absurd hw (G0 hl)
 | @join w a b m n hw _ _ iha ihb=>
  intro v tx th ht;cases ht with
  | leaf hl=>exact absurd hw (G0 hl)
  | join _ ta tb=>
   cases th with
   | tup e z hh=>
    cases hh with
    | cons t0 b=>
     cases b with
     | cons a b=>
      cases b with
      | cons b c=>
       have h1:=iha a ta;have h2:=ihb b tb;have p1:2 ^ m<=2 ^ max m n:=Nat.pow_le_pow_right (by decide) (Nat.le_max_left ..);have p2:2 ^ n<=2 ^ max m n:=Nat.pow_le_pow_right (by decide) (Nat.le_max_right ..);have:=Zk hw;rw [Us,Nat.pow_succ]
       lia
theorem Zbp {H:Hp}{d:PyData}{m:Nat}(h:Ws d m)(h8:m<=8){v:V}{tx:List Nat}(th:Th H v d)(ht:Tx d tx):tx.length<=650000:=by
 have h1:=ZW h th ht;have:2 ^ m<=2 ^ 8:=Nat.pow_le_pow_right (by decide) h8
 lia
theorem ZcO {d:PyData}{m:Nat}(h:Ws d m)(h8:m<=8):∃ps,Pr d ps/\ps.length<=1000:=by
 obtain ⟨ps,p,hl⟩:=Ws.pr h;have:2 ^ m<=2 ^ 8:=Nat.pow_le_pow_right (by decide) h8;exact ⟨ps,p,by lia⟩
section
variable {P:Program}{w:World}{K:W.Frag}{mg:Str->Option Value}{base:Heap}
def TabW (tbW:Addr)(H:Hp):Prop:=∃es,TabOn tbW es H/\(es=[]\/∃c,es=[⟨74,35,Zbn,c⟩])
theorem TabW.tbl {tbW:Addr}{H:Hp}(h:TabW tbW H):∃ps,H tbW=some (.tbl ps):=h.elim λ_ z=>⟨_,z.1.1⟩
theorem TabW.same {tbW:Addr}{H H':Hp}(h:TabW tbW H)(s:Same H H'):TabW tbW H':=h.elim λes z=>⟨es,z.1.same s,z.2⟩
theorem SameL.tups {tbW:Addr}{H H':Hp}(s:SameL tbW H H')(h:TabW tbW H):∀t ys,H t=some (.tup ys)->H' t=some (.tup ys):=λt ys e=>h.tbl.elim λ_ z=>s.tup z e
def ZcP (tbW:Addr):Sp:=λvs H Q _=>∃(v:V)(d:PyData)(m:Nat)(tx:List Nat),vs=[v]/\Th H v d/\Ws d m/\m<=8/\Tx d tx/\TabW tbW H/\∀H',SameL tbW H H'->TabW tbW H'->Q (.str (mkS tx)) H'
theorem Zd5:Gz ["wish"] ["wish"] (Gh ZS):=⟨rfl,rfl,rfl,by decide +kernel,rfl,by decide +kernel,by decide +kernel⟩
theorem ZcQ {f cW fFo fSl tbW:Addr}{fd fdFo:FuncData}(F:Fun K "show_wish" "show_wish" ZS f fd)(hc:fd.code=.ref cW)(hC:W.CodeHd base cW tbW)(hBl:base.BuiltinsAt mg tbW)(FFo:Fun K "folded" "folded" Za1 fFo fdFo)(bFo:Binds K fdFo ["wish", "told_of", "joined"] [])(mFo:mg "folded" = some (.ref fFo))(GFo:Jl P w K mg base CX0 3 fFo fdFo ["wish", "told_of", "joined"] (Zbo P w K mg base fSl))(mSl:mg "show_leaf" = some (.ref fSl)) :
  Jl P w K mg base CX0 4 f fd ["wish"] (ZcP tbW):=by
 refine Fun.okC F hc Zd5 (λvs H Q E h=>?_) (λA outer s H vs Q E hr h=>?_)
 ·obtain ⟨_,_,_,_,rfl,_⟩:=h
  rfl
 ·obtain ⟨v,d,m,tx,rfl,th,hw,h8,htx,⟨es,on,hes⟩,q⟩:=h;refine ⟨_,Gf (Go (GH GFo hr rfl mFo FFo.kp bFo .nil Jh (Ga (pv 0) (Ga (Jt mSl) (Ga (ZaV (qual:=Zbn) (params:=Zbl YG) (body:=Zbm YG) (scope:=Wy YG) (clos:=[]) rfl rfl hC hBl rfl) Gd))))),?_⟩;obtain ⟨ps,pr,hpl⟩:=ZcO hw h8;have hxl:=Zbp hw h8 th htx;have go:∀(fJ cG:Addr)(ct2:Value)(H2:Hp),SameL tbW H H2->TabOn tbW [⟨74,35,Zbn,cG⟩] H2->CloFn H2 fJ cG Zbn (ZcL ((mg "__name__").getD .none) cG ct2)->Zbo P w K mg base fSl [v,.ref fSl,.ref fJ] H2 Q E0:=by
   intro fJ cG ct2 H2 s2 on2 cf;have t2:=hw.keep (λt ys e=>s2.tup on.1 e) th;exact ⟨v,d,ps,tx,fJ,_,_,rfl,t2,pr,hpl,htx,by lia,λH3 s3=>⟨cf.same s3,(cf.same s3).fin rfl⟩,Binds.all (λus hl=>by obtain ⟨_,_,_,rfl⟩:=ZdU hl;rfl),ZcM,λH3 s3=>q _ (s2.trans (SameL.of s3)) ⟨_,on2.same s3,.inr ⟨cG,rfl⟩⟩⟩
  refine ⟨_,rfl,?_⟩;rcases hes with rfl | ⟨c,rfl⟩
  ·exact ⟨[],on,.inl ⟨rfl,λfJ c' ctv doc H' sl on' nf cf=>go fJ c' ctv H' sl on' cf⟩⟩
  ·exact ⟨_,on,.inr ⟨_,List.mem_cons_self ..,by simp [YF,codeAmong,rawInt],rfl,λfJ ctv doc H' sm nf cf=>go fJ c ctv H' (SameL.of sm) (on.same sm) cf⟩⟩
end
end M
namespace M
open PySem L2
theorem JH {x:Str}(h:PyData.strOk x=true):SeqAt.shaped (.str x)=true:=by
 unfold SeqAt.shaped;rw [Bool.and_eq_true];refine ⟨by simp only [PyData.canLay0];exact h,decide_eq_true ?_⟩;simp only [PyData.depth]
 lia
section
variable {P:Program}{w:World}{K:W.Frag}{mg:Str->Option Value}{base:Heap}
def Ut (x:Str):Prop:=x.cps.all (·<128)=true/\PyData.strOk x=true/\x.length<=1000000
def G7 (x:Str):Bool:=decide (0<x.length) && decide (x.length<=4) && (x.cps.toList.all λc=>decide (c∈("0123456789" : Str).cps.toList)) && (PyData.eqv (.str x) (.str ("0" : Str)) || !Txt.startswith x ("0" : Str))
def ZcR:Sp:=λvs H Q _=>∃x:Str,vs=[.str x,.int 4]/\Ut x/\∀H',Same H H'->Q (.bl (G7 x)) H'
theorem Zd6:Gz ["word", "most"] ["word", "most"] (Gh ZaY):=⟨rfl,rfl,rfl,by decide +kernel,rfl,by decide +kernel,by decide +kernel⟩
theorem ZcS {f:Addr}{fd:FuncData}{tF:Tok}(F:Fun K "is_written" "is_written" ZaY f fd)(mFig:mg "FIGURES" = some (.str "0123456789" tF))(mLen:mg "len" = none)(mAll:mg "all" = none):Jl P w K mg base CX0 1 f fd ["word", "most"] ZcR:=by
 refine F.ok Zd6 (λvs H Q E h=>?_) (λcdv A outer s H vs Q E hr h=>?_)
 ·obtain ⟨_,rfl,_⟩:=h
  rfl
 ·obtain ⟨x,rfl,⟨h0,h1,h2⟩,q⟩:=h;have hu:=hr.units;have h16:(16777216:Nat)=sizeLine:=sizeLine_eq.symm;have no:G7 x=false->∀H',Same H H'->Q (.bl false) H':=λz H' s=>by have:=q H' s;rw [z] at this;exact this
  refine ⟨_,Ge (GT (PW.pt (JS (J4 (YJ Zai Zaj Gc (Gm W9 rfl mLen PySem.boot_len (Ga (pv 0) Gd)) (pv 1))) (JO (J4 (JI (Gm (ZeD K rfl) rfl mAll Wp (Ga (OJ (own:=["sign"]) rfl (Js (by decide +kernel) (by decide +kernel) rfl (by decide +kernel)) (ZN (pv 0)) (λ_ _ _ _=>GV (i:=0) (show List.Nodup (["sign"]:List Str) by decide +kernel) rfl (Or.inl rfl)) (λ_ _ _ _=>JZ) (λ_ _ _ _=>J7 Ze2 (pv 0) (Uf (v:=.str "0123456789") rfl mFig ⟨_,rfl⟩) (by with_unfolding_all rfl))) Gd))))))) (Gf (Go OZ)) Gr)
    (Gf (Go (Zb3 (J7 (Zcl K hu) (pv 0) Gg (Gq _)) (UF (Xl (Op PySem.F.plainAttrs_str PySem.F.slot_str_startswith PySem.F.type_str_startswith XS (pv 0) (Ga Gg Gd))))))),?_⟩
  refine ⟨_,rfl,x,rfl,by lia,0,_,rfl,rfl,_,rfl,Ox (λc=>?_) (λc=>?_)⟩
  ·refine ⟨_,rfl,_,_,rfl,rfl,_,rfl,?_⟩;have c':0<x.length:=by have:=of_decide_eq_true c;lia
   by_cases l4:x.length<=4
   ·have c4:decide ((x.length:Int)<=4)=true:=decide_eq_true (by lia);rw [c4];refine GR ?_;refine ⟨_,rfl,x,rfl,h0,λD hD=>?_⟩;refine Y2 (x:=x) (λj vs H2=>Same H H2/\H2 D=some (.lst vs)/\vs=((x.cps.toList.take j).map λc=>decide (c∈("0123456789" : Str).cps.toList)).map V.bl) ⟨Same.new hD,Gb,rfl⟩ ?_ ?_
    ·rintro j c vs H2 hc ⟨s2,hD2,rfl⟩;refine ⟨trivial,?_⟩;unfold ZL;refine GI ?_;have hc':x.cps.toList[j]?=some c:=by rw [Array.getElem?_toList];exact hc
     have hj:j<x.length:=(Array.getElem?_eq_some_iff.mp hc).1;refine ⟨_,rfl,c,_,rfl,rfl,hD2,by rw [List.length_map,List.length_map,List.length_take];lia,s2.put hD,Gb,?_⟩;rw [List.take_add_one,hc'];simp
    ·rintro vs H2 ⟨s2,hD2,rfl⟩;refine ⟨D,_,rfl,SqL.of hD2,?_⟩;have full:x.cps.toList.take x.cps.size=x.cps.toList:=List.take_of_length_le (by rw [Array.length_toList];exact Nat.le_refl _);have fa:(((x.cps.toList.take x.cps.size).map λc=>decide (c∈("0123456789" : Str).cps.toList)).all id)=x.cps.toList.all λc=>decide (c∈("0123456789" : Str).cps.toList):=by rw [full,List.all_map];rfl
     cases ha:(x.cps.toList.all λc=>decide (c∈("0123456789" : Str).cps.toList)) with
     | false=>
      rw [ha] at fa;rw [fa];refine ⟨_,rfl,GI ?_⟩;exact no (by unfold G7;rw [ha];simp) _ s2
     | true=>
      rw [ha] at fa;rw [fa];refine ⟨_,rfl,GR ?_⟩;refine ⟨_,rfl,.str x,.str ("0" : Str),.str _,.str _,JH h1,JH (by decide +kernel),_,rfl,?_⟩;show if (false != PyData.eqv (.str x) (.str ("0" : Str)))=true then Q (.bl true) H2 else _
      have qq:=q H2 s2;have e:G7 x=(PyData.eqv (.str x) (.str ("0" : Str)) || !Txt.startswith x ("0" : Str)):=by unfold G7;rw [ha,decide_eq_true c',decide_eq_true l4];rfl
      rw [e] at qq;cases z:PyData.eqv (.str x) (.str ("0" : Str)) with
      | true=>
       rw [z] at qq;exact qq
      | false=>
       rw [z] at qq;refine GR ?_;exact ⟨_,rfl,rfl,x,_,rfl,rfl,_,rfl,qq⟩
   ·have c4:decide ((x.length:Int)<=4)=false:=decide_eq_false (by lia);rw [c4];refine GI (GI ?_);exact no (by unfold G7;rw [decide_eq_false l4];simp) _ (Same.refl _)
  ·have c0:decide ((0:Int)<(x.length:Int))=false:=eq_false_of_ne_true c;refine ⟨_,rfl,?_⟩;refine GI (GI ?_);have c':¬ 0<x.length:=λz=>of_decide_eq_false c0 (by lia);exact no (by unfold G7;rw [decide_eq_false c'];simp) _ (Same.refl _)
def ZcT:Sp:=λvs H Q _=>∃x:Str,vs=[.str x]/\Ut x/\∀H',Same H H'->Q (.bl (G7 x)) H'
theorem Zd7:Gz ["word"] ["word"] (Gh ZaZ):=⟨rfl,rfl,rfl,by decide +kernel,rfl,by decide +kernel,by decide +kernel⟩
theorem ZcU {f fWri:Addr}{fd fdWri:FuncData}{t4:Tok}(F:Fun K "is_number" "is_number" ZaZ f fd)(FWri:Fun K "is_written" "is_written" ZaY fWri fdWri)(bWri:Binds K fdWri ["word", "most"] [])(mWri:mg "is_written" = some (.ref fWri))(GWri:Jl P w K mg base CX0 1 fWri fdWri ["word", "most"] ZcR)(mMoF:mg "MOST_FIGURES" = some (.int 4 t4)):Jl P w K mg base CX0 2 f fd ["word"] ZcT:=by
 refine F.ok Zd7 (λvs H Q E h=>?_) (λcdv A outer s H vs Q E hr h=>?_)
 ·obtain ⟨_,rfl,_⟩:=h
  rfl
 ·obtain ⟨x,rfl,hx,q⟩:=h;refine ⟨_,Gf (Go (GH GWri (hr.mono (by decide)) rfl mWri FWri.kp bWri .nil Jh (Ga (pv 0) (Ga (Uf (v:=.int 4) rfl mMoF ⟨_,rfl⟩) Gd)))),?_⟩;exact ⟨_,rfl,x,rfl,hx,q⟩
end
end M
namespace M
open PySem L2
theorem Ua {x:Str}(h:∀c∈x.cps.toList,c<128)(l:x.cps.toList.length<=1000000):Ut x:=by
 refine ⟨?_,?_,by rw [Array.length_toList] at l;exact l⟩
 ·rw [Array.all_eq_true'];intro c hc;exact decide_eq_true (h c (by simpa using hc))
 ·unfold PyData.strOk;rw [Array.all_eq_true'];intro c hc;have:=h c (by simpa using hc);exact decide_eq_true (by lia)
theorem VY {c:Nat}{r:List Nat}{x:Str}(e:x.cps.toList=c::r)(h:c≠48):Txt.startswith x ("0" : Str)=false:=by
 have ex:x=mkS (c::r):=JC e;rw [ex];unfold Txt.startswith Builtin.Str.subAt;have l0:("0" : Str).length=1:=by decide +kernel
 have c0:("0" : Str).cps=#[48]:=by decide +kernel
 rw [l0,c0];simp [mkS,h]
def ZX (m:Nat):List Nat:=(Nat.toDigits 10 m).map Char.toNat
theorem Wz (d:Nat)(h:d<10):(Nat.digitChar d).toNat=48+d:=by
 have:∀d:Fin 10,(Nat.digitChar d.val).toNat=48+d.val:=by decide +kernel
 exact this ⟨d,h⟩
theorem Oi {d:Nat}(h:d<10):ZX d=[48+d]:=by
 unfold ZX;rw [Nat.toDigits_of_lt_base h,List.map_singleton,Wz d h]
theorem JL {m d:Nat}(h:m≠0)(hd:d<10):ZX (10 * m+d)=ZX m++[48+d]:=by
 unfold ZX;rw [Nat.toDigits_eq_if (by decide),if_neg (by lia),List.map_append,List.map_singleton,show (10 * m+d) / 10=m by lia,show (10 * m+d) % 10=d by lia,Wz d hd]
theorem WA (n:Nat):(num (n:Int)).cps.toList=ZX n:=W.KIN.signs_num n
theorem WB:∀(k m:Nat),m<10 ^ (k+1)->m≠0->∃c r,ZX m=c::r/\c≠48
 | 0,m,h,h0=>⟨48+m,[],Oi (by simpa using h),by lia⟩
 | k+1,m,h,h0=>by
  by_cases hm:m<10
  ·exact ⟨48+m,[],Oi hm,by lia⟩
  ·obtain ⟨c,r,e,hc⟩:=WB k (m / 10) (by rw [Nat.pow_succ] at h;lia) (by lia);refine ⟨c,r++[48+m % 10],?_,hc⟩;have:=JL (m:=m / 10) (d:=m % 10) (by lia) (by lia);rw [show 10 * (m / 10)+m % 10=m by lia] at this;rw [this,e]
   rfl
theorem Zbq (i:Int)(h0:0<=i):0<(num i).cps.toList.length:=by
 obtain ⟨n,rfl⟩:∃n:Nat,i=n:=⟨i.toNat,by lia⟩;rw [W.KIN.signs_num,List.length_map];rw [Nat.toDigits_eq_if (by decide)];split <;> simp
theorem OE {i:Int}(h:0<=i/\i<=9999):G7 (num i)=true:=by
 obtain ⟨l4,fg⟩:=Uq h.1 h.2;have l0:=Zbq i h.1;rw [Jw] at l4 l0;unfold G7;rw [Bool.and_eq_true,Bool.and_eq_true,Bool.and_eq_true,decide_eq_true_eq,decide_eq_true_eq,List.all_eq_true];refine ⟨⟨⟨l0,l4⟩,λc hc=>decide_eq_true ?_⟩,?_⟩
 ·have key:∀d:Fin 10,48+d.val∈("0123456789" : Str).cps.toList:=by decide +kernel
  have:=fg c hc;have e:c=48+(⟨c-48,by lia⟩:Fin 10).val:=by show c=48+(c-48);lia
  rw [e];exact key _
 ·by_cases z:i=0
  ·subst z;decide +kernel
  ·obtain ⟨n,rfl⟩:∃n:Nat,i=n:=⟨i.toNat,by lia⟩;obtain ⟨c,r,e,hc⟩:=WB 3 n (by lia) (by lia);rw [VY ((WA n).trans e) hc];simp
theorem Zbr {c:Nat}(h:c∈("0123456789" : Str).cps.toList):∃d,d<10/\c=48+d:=by
 have k:∀c∈("0123456789" : Str).cps.toList,∃d:Fin 10,c=48+d.val:=by decide +kernel
 obtain ⟨d,e⟩:=k c h;exact ⟨d.val,d.isLt,e⟩
theorem Yb {r:List Nat}{x:Str}(e:x.cps.toList=48::r):Txt.startswith x ("0" : Str)=true:=by
 have ex:x=mkS (48::r):=JC e;rw [ex];unfold Txt.startswith Builtin.Str.subAt;have l0:("0" : Str).length=1:=by decide +kernel
 have c0:("0" : Str).cps=#[48]:=by decide +kernel
 rw [l0,c0];have:(mkS (48::r)).length=r.length+1:=by rw [Gk];rfl
 simp [mkS,Str.length]
theorem Ou (x y:Str):PyData.eqv (.str x) (.str y)=decide (x=y):=by
 simp only [PyData.eqv];by_cases h:x=y
 ·subst h;simp
 ·rw [decide_eq_false h];exact beq_eq_false_iff_ne.mpr h
theorem WC {x:Str}(h:G7 x=true):∃n:Int,(0<=n/\n<=9999)/\x=num n:=by
 unfold G7 at h;rw [Bool.and_eq_true,Bool.and_eq_true,Bool.and_eq_true,decide_eq_true_eq,decide_eq_true_eq,List.all_eq_true] at h;obtain ⟨⟨⟨l0,l4⟩,hd⟩,hz⟩:=h;have hl:x.cps.toList.length=x.length:=Array.length_toList;have fg:∀c∈x.cps.toList,∃d,d<10/\c=48+d:=λc hc=>Zbr (of_decide_eq_true (hd c hc));have key:∀n:Nat,n<=9999->ZX n=x.cps.toList->∃n:Int,(0<=n/\n<=9999)/\x=num n:=λn hn e=>⟨n,by lia,JC (by rw [WA,e])⟩;have nz:∀d r,x.cps.toList=(48+d)::r->r≠[]->d≠0:=λd r e hr h0=>by
  subst h0;rw [Yb e,Bool.not_true,Bool.or_false,Ou,decide_eq_true_eq] at hz;rw [hz] at e;have e:[48]=(48+0)::r:=e;cases r with
  | nil=>exact hr rfl
  | cons _ _=>cases e
 match hx:x.cps.toList with
 | []=>rw [hx] at hl;simp at hl;lia
 | [p]=>
  obtain ⟨d,h1,rfl⟩:=fg p (by rw [hx];simp);exact key d (by lia) (by rw [Oi h1,hx])
 | [o,p]=>
  obtain ⟨c,h2,rfl⟩:=fg o (by rw [hx];simp);obtain ⟨d,h1,rfl⟩:=fg p (by rw [hx];simp);have:=nz c _ hx (by simp);exact key (10 * c+d) (by lia) (by rw [JL this h1,Oi h2,hx];rfl)
 | [n,o,p]=>
  obtain ⟨b,h3,rfl⟩:=fg n (by rw [hx];simp);obtain ⟨c,h2,rfl⟩:=fg o (by rw [hx];simp);obtain ⟨d,h1,rfl⟩:=fg p (by rw [hx];simp);have:=nz b _ hx (by simp);exact key (10 * (10 * b+c)+d) (by lia) (by rw [JL (by lia) h1,JL this h2,Oi h3,hx];rfl)
 | [m,n,o,p]=>
  obtain ⟨a,h4,rfl⟩:=fg m (by rw [hx];simp);obtain ⟨b,h3,rfl⟩:=fg n (by rw [hx];simp);obtain ⟨c,h2,rfl⟩:=fg o (by rw [hx];simp);obtain ⟨d,h1,rfl⟩:=fg p (by rw [hx];simp);have:=nz a _ hx (by simp);exact key (10 * (10 * (10 * a+b)+c)+d) (by lia) (by rw [JL (by lia) h1,JL (by lia) h2,JL this h3,Oi h4,hx];rfl)
 | _::_::_::_::_::t=>rw [hx] at hl;simp at hl;lia
theorem VF {i:Int}(h:0<=i/\i<=9999):Ut (num i):=by
 obtain ⟨l4,fg⟩:=Uq h.1 h.2;exact Ua (λc hc=>by have:=fg c hc;lia) (by lia)
theorem Ub {i:Int}(h:0<=i/\i<=9999):PySem.intText? (num i)=some i:=W.KIN.num_reads h.1 (by lia)
end M
namespace M
open PySem L2
def sSign:List Str:=["and", "or", "but", "(", ")"]
theorem Zbs:∀w∈allW,G7 w=false:=by decide +kernel
theorem Zbt:∀w∈sSign,G7 w=false/\w ∉ allW:=by decide +kernel
theorem VZ:G7 ("" : Str)=false/\("" : Str) ∉ allW/\("" : Str) ∉ sSign:=by decide +kernel
theorem OO:∀w∈allW++sSign++[("" : Str)],Ut w:=by
 have h:∀w∈allW++sSign++[("" : Str)],(∀c∈w.cps.toList,c<128)/\w.cps.toList.length<=1000000:=by decide +kernel
 exact λw hw=>Ua (h w hw).1 (h w hw).2
inductive Jr where
 | leaf (w:Str) (ns:List Int)
 | sign (w:Str)
inductive ItAt (H:Hp):V->Jr->Prop
 | leaf {a:Addr} {w:Str} {ns:List Int}:H a=some (.tup (.str w::ns.map V.int))->ItAt H (.ref a) (.leaf w ns)
 | sign {w:Str}:ItAt H (.str w) (.sign w)
inductive Its (H:Hp):List V->List Jr->Prop
 | nil:Its H [] []
 | cons {v:V} {t:Jr} {vs:List V} {ts:List Jr}:ItAt H v t->Its H vs ts->Its H (v::vs) (t::ts)
theorem ItAt.keep {H H':Hp}(k:∀t ys,H t=some (.tup ys)->H' t=some (.tup ys)){v:V}{t:Jr}(h:ItAt H v t):ItAt H' v t:=by
 cases h with
 | leaf e=>exact .leaf (k _ _ e)
 | sign=>exact .sign
theorem Its.keep {H H':Hp}(k:∀t ys,H t=some (.tup ys)->H' t=some (.tup ys)){vs:List V}{ts:List Jr}(h:Its H vs ts):Its H' vs ts:=by
 induction h with
 | nil=>exact .nil
 | cons a _ ih=>exact .cons (a.keep k) ih
theorem Its.len {H:Hp}{vs:List V}{ts:List Jr}(h:Its H vs ts):vs.length=ts.length:=by
 induction h with
 | nil=>rfl
 | cons _ _ ih=>rw [List.length_cons,List.length_cons,ih]
theorem Its.snoc {H:Hp}{vs:List V}{ts:List Jr}{v:V}{t:Jr}(h:Its H vs ts)(a:ItAt H v t):Its H (vs++[v]) (ts++[t]):=by
 induction h with
 | nil=>exact .cons a .nil
 | cons b _ ih=>exact .cons b ih
theorem Its.last {H:Hp}{vs:List V}{ts:List Jr}{t:Jr}(h:Its H vs (ts++[t])):∃us v,vs=us++[v]/\Its H us ts/\ItAt H v t:=by
 induction ts generalizing vs with
 | nil=>
  cases h with
  | cons a b=>cases b;exact ⟨[],_,rfl,.nil,a⟩
 | cons e ts ih=>
  cases h with
  | cons a b=>
   obtain ⟨us,v,rfl,h1,h2⟩:=ih b;exact ⟨_::us,v,rfl,.cons a h1,h2⟩
theorem Its.get {H:Hp}{vs:List V}{ts:List Jr}(h:Its H vs ts):∀{i:Nat}{v:V},vs[i]?=some v->∃t,ts[i]?=some t/\ItAt H v t:=by
 induction h with
 | nil=>intro i v e;simp at e
 | cons a _ ih=>
  intro i v e;cases i with
  | zero=>simp at e;subst e;exact ⟨_,rfl,a⟩
  | succ i=>exact ih (by simpa using e)
inductive Rd:List Jr->List Str->Option (List Jr)->Prop
 | nil {A:List Jr}:Rd A [] (some A)
 | num {A:List Jr} {R:Option (List Jr)} {v:Str} {ns:List Int} {n:Int} {ws:List Str}:0<=n/\n<=9999->Rd (A++[.leaf v (ns++[n])]) ws R->Rd (A++[.leaf v ns]) (num n::ws) R
 | word {A:List Jr} {R:Option (List Jr)} {w:Str} {ws:List Str}:w∈allW->Rd (A++[.leaf w []]) ws R->Rd A (w::ws) R
 | sign {A:List Jr} {R:Option (List Jr)} {w:Str} {ws:List Str}:w∈sSign->Rd (A++[.sign w]) ws R->Rd A (w::ws) R
 | none {A:List Jr} {R:Option (List Jr)} {ws:List Str}:Rd A ws R->Rd A ("" :: ws) R
 | numBad {A:List Jr} {n:Int} {ws:List Str}:0<=n/\n<=9999->(A=[]\/∃A' s,A=A'++[.sign s])->Rd A (num n::ws) Option.none
 | bad {A:List Jr} {w:Str} {ws:List Str}:G7 w=false->w ∉ allW->w ∉ sSign->w ≠ "" -> Ut w->Rd A (w::ws) Option.none
theorem Zl {A:List Jr}{R:Option (List Jr)}{w:Str}{ws:List Str}(h:Rd A (w::ws) R):(∃n A' v ns,w=num n/\(0<=n/\n<=9999)/\A=A'++[.leaf v ns]/\Rd (A'++[.leaf v (ns++[n])]) ws R)\/(w∈allW/\Rd (A++[.leaf w []]) ws R)\/(w∈sSign/\Rd (A++[.sign w]) ws R)\/(w = "" /\ Rd A ws R)\/(∃n,w=num n/\(0<=n/\n<=9999)/\(A=[]\/∃A' s,A=A'++[.sign s])/\R=Option.none)\/(G7 w=false/\w ∉ allW/\w ∉ sSign/\w ≠ "" /\ Ut w/\R=Option.none):=by
 cases h with
 | num a b=>exact .inl ⟨_,_,_,_,rfl,a,rfl,b⟩
 | word a b=>exact .inr (.inl ⟨a,b⟩)
 | sign a b=>exact .inr (.inr (.inl ⟨a,b⟩))
 | none a=>exact .inr (.inr (.inr (.inl ⟨rfl,a⟩)))
 | numBad a b=>exact .inr (.inr (.inr (.inr (.inl ⟨_,rfl,a,b,rfl⟩))))
 | bad a b c d e=>exact .inr (.inr (.inr (.inr (.inr ⟨a,b,c,d,e,rfl⟩))))
theorem Xg (A:List Jr):A=[]\/(∃A' v ns,A=A'++[.leaf v ns])\/∃A' s,A=A'++[.sign s]:=by
 rcases List.eq_nil_or_concat A with h | ⟨A',t,h⟩
 ·exact .inl h
 ·rw [List.concat_eq_append] at h;cases t with
  | leaf v ns=>exact .inr (.inl ⟨A',v,ns,h⟩)
  | sign s=>exact .inr (.inr ⟨A',s,h⟩)
theorem WD:∀(ws:List Str)(A:List Jr),(∀w∈ws,Ut w)->∃R,Rd A ws R
 | [],A,_=>⟨some A,.nil⟩
 | w::ws,A,h=>by
  have ih:=λA=>WD ws A λu hu=>h u (List.mem_cons_of_mem _ hu);cases hn:G7 w with
  | true=>
   obtain ⟨n,hn9,rfl⟩:=WC hn;rcases Xg A with h1 | ⟨A',v,ns,rfl⟩ | h1
   ·exact ⟨Option.none,.numBad hn9 (.inl h1)⟩
   ·obtain ⟨R,r⟩:=ih (A'++[.leaf v (ns++[n])]);exact ⟨R,.num hn9 r⟩
   ·exact ⟨Option.none,.numBad hn9 (.inr h1)⟩
  | false=>
   by_cases h1:w∈allW
   ·obtain ⟨R,r⟩:=ih (A++[.leaf w []]);exact ⟨R,.word h1 r⟩
   by_cases h2:w∈sSign
   ·obtain ⟨R,r⟩:=ih (A++[.sign w]);exact ⟨R,.sign h2 r⟩
   by_cases h3:w = ""
   ·obtain ⟨R,r⟩:=ih A;rw [h3];exact ⟨R,.none r⟩
   exact ⟨Option.none,.bad hn h1 h2 h3 (h w (List.mem_cons_self ..))⟩
def VG (x:Str):Str:=mkS (OX 41 [32,41,32] (OX 40 [32,40,32] x.cps.toList))
def Zbu:Jr->Nat
 | .leaf _ ns=>ns.length
 | .sign _=>0
section
variable {P:Program}{w:World}{K:W.Frag}{mg:Str->Option Value}{base:Heap}
def ZcV:Sp:=λvs H Q _=>∃(x:Str)(R:Option (List Jr)),vs=[.str x]/\x.length<=700000/\(Txt.split (VG x) (" " : Str)).length<=15000000/\Rd [] (Txt.split (VG x) (" " : Str)) R/\(∀its,R=some its->∀(l:Addr)(us:List V)(H':Hp),Same H H'->H l=none->H' l=some (.lst us)->Its H' us its->Q (.ref l) H')/\(R=none->∀H',Same H H'->Q .non H')
theorem scItm:Gz ["text", "items", "word"] ["text"] (Gh Za5):=⟨rfl,rfl,rfl,by decide +kernel,rfl,by decide +kernel,by decide +kernel⟩
theorem VH (x:Str)(k:Nat)(h:x.length<=15000000):(Builtin.Str.partsBetween x (Builtin.Str.occurrences x (⟨#[32]⟩:Str) 0 x.length (x.length+1)) k).length<=sizeLine:=by
 unfold Builtin.Str.partsBetween;have:=List.length_take_le (x.length+1) (Gu 32 0 x.cps.toList);rw [Os,sizeLine_eq];simp only [List.length_map,List.length_zip,List.length_cons,List.length_append,List.length_nil]
 lia
theorem ZcW {f fIsn aJ aB aP aR aL:Addr}{fd fdIsn:FuncData}(F:Fun K "items_of" "items_of" Za5 f fd)(FIsn:Fun K "is_number" "is_number" ZaZ fIsn fdIsn)(bIsn:Binds K fdIsn ["word"] [])(mIsn:mg "is_number" = some (.ref fIsn))(GIsn:Jl P w K mg base CX0 2 fIsn fdIsn ["word"] ZcT)(k:ZbW K)(T:Wds K aJ aB aP aR aL)(mJoi:mg "JOINING" = some (.ref aJ))(mBar:mg "BARE" = some (.ref aB))(mPai:mg "PAIRED" = some (.ref aP))(mOfR:mg "OF_ROADS" = some (.ref aR))(mOfP:mg "OF_PLACES" = some (.ref aL))(mIsi:mg "isinstance" = none)(mTup:mg "tuple" = none)(mInt:mg "int" = none):J3 P w K mg base CX0 3 f fd ["text"] ZcV:=by
 refine F.okQ scItm (λvs H Q E h=>?_) (λcdv A outer s H vs Q E hr h=>?_)
 ·obtain ⟨_,_,rfl,_⟩:=h
  rfl
 ·obtain ⟨x,R,rfl,hx,hwl,rd,q,qn⟩:=h;have h16:(16777216:Nat)=sizeLine:=sizeLine_eq.symm;refine ⟨_,Gv (PS.q (Gs (i:=1) scItm.nd rfl (Or.inl rfl) (GO Gd))) (Gv (ZaM PassesOwn.never rfl (Y5 (ZdY PySem.F.plainAttrs_str PySem.F.slot_str_split PySem.F.type_str_split Wu (XY (c:=41) (XY (c:=40) (PE.q (pv 0)))) (Ga Gg Gd)) K) (GV (i:=2) scItm.nd rfl (Or.inl rfl)) (PSs.q (Gf (GT (JI (GH GIsn (hr.mono (by decide)) rfl mIsn FIsn.kp bIsn .nil Jh (Ga (pv 2) Gd))) (Ge (GT (PW.pt (JS (J4 (Oz (pv 1) (λ_=>rfl))) (JO (J4 (JI (Gm (UA K) rfl mIsi GP (Ga (Gp (Jp K) (pv 1) (Uy JR Gc) (λ_ _=>rfl)) (Ga (Ju mTup Ji) Gd)))))))) (Gf (Go Jz)) Gr)
    (Gf (ZG (Gn (Vx K) (Gp (Jp K) (pv 1) (Uy JR Gc) (λ_ _=>rfl)) (Je (Ga (Jm Zcp rfl mInt J0 (Ga (pv 2) Gd)) Gd))) (Zb5 (pv 1) (Uy JR Gc) YL)))) (Gf (GT (Gj (kIn K) (pv 2) (Gn (Vx K) (Gn (Vx K) (Gn (Vx K) (Jt mBar) (Jt mPai)) (Jt mOfR)) (Jt mOfP)) (by with_unfolding_all rfl)) (Gf (JJ (Op PySem.F.plainAttrs_list PySem.F.slot_list_append PySem.F.type_list_append Jn (pv 1) (Ga (Je (Ga (pv 2) Gd)) Gd)))) (Gf (GT (Gj (kIn K) (pv 2) (Gn (Vx K) (Jt mJoi) (Je (Ga Gg (Ga Gg Gd)))) (by with_unfolding_all rfl)) (Gf (JJ (Op PySem.F.plainAttrs_list PySem.F.slot_list_append PySem.F.type_list_append Jn (pv 1) (Ga (pv 2) Gd)))) (Gf (GT (Gj Uz (pv 2) Gg (Gq _)) (Gf (Go Jz)) Gr)))))))))) (O8 (PS.q (Go (pv 1))))),?_⟩
  refine ⟨Nat.zero_le _,λil hil=>?_⟩;have s1:Same H (upd H il (.lst [])):=Same.new hil;have e1:upd H il (.lst []) il=some (.lst []):=Gb;generalize upd H il (.lst [])=H1 at s1 e1 ⊢;have lz1:(" ( " : Str).length=3:=by decide +kernel
  have lz2:(" ) " : Str).length=3:=by decide +kernel
  have cz1:(" ( " : Str).cps.toList=[32,40,32]:=by decide +kernel
  have cz2:(" ) " : Str).cps.toList=[32,41,32]:=by decide +kernel
  have r1:=Og 40 [32,40,32] x.cps.toList;have r2:=Og 41 [32,41,32] (OX 40 [32,40,32] x.cps.toList);rw [Jw] at r1;simp only [List.length_cons,List.length_nil] at r1 r2;have lB:(VG x).length<=15000000:=by unfold VG;rw [Gk];lia
  refine ⟨_,rfl,x,rfl,by rw [lz1];lia,_,rfl,by rw [lz2,cz1,Gk];lia,rfl,?_⟩;rw [cz1,cz2];refine ⟨VG x,(" " : Str),rfl,rfl,by decide +kernel,by lia,VH _ _ lB,λwl hwl2=>?_⟩;generalize Txt.split (VG x) (" " : Str)=words at hwl rd ⊢;have s2:Same H1 (upd H1 wl (.lst (words.map V.str))):=Same.new hwl2;have e2:upd H1 wl (.lst (words.map V.str)) wl=some (.lst (words.map V.str)):=Gb;have nwi:wl≠il:=λz=>by rw [z,e1] at hwl2;cases hwl2
  generalize upd H1 wl (.lst (words.map V.str))=H2 at s2 e2 ⊢;refine ⟨wl,rfl,⟨_,SqL.of e2⟩,?_⟩;have e2i:=s2 _ _ e1;refine Wd (K:=K) (a:=wl) (xs:=words.map V.str) (λi σ H3=>∃(us:List V)(It:List Jr)(v2:Option V),σ=[some (.str x),some (.ref il),v2]/\Same H H3/\SameL il H2 H3/\H3 il=some (.lst us)/\Its H3 us It/\It.length<=i/\(∀t∈It,Zbu t<=i)/\Rd It (words.drop i) R) ⟨[],[],none,rfl,s1.trans s2,SameL.of (Same.refl _),e2i,.nil,Nat.le_refl _,λt ht=>(by cases ht),rd⟩ ?_ ?_ ?_
  ·rintro i σ H3 hi ⟨us,It,v2,rfl,s3,sl3,_⟩;exact SqL.of (sl3 _ _ nwi e2)
  ·rintro i y σ H3 hy ⟨us,It,v2,rfl,s3,sl3,e3,its,hIt,hlf,rd⟩;rw [List.getElem?_map] at hy;obtain ⟨wd,hwd,rfl⟩:=Option.map_eq_some_iff.mp hy;obtain ⟨hi',ep'⟩:=List.getElem?_eq_some_iff.mp hwd;rw [List.drop_eq_getElem_cons hi',ep'] at rd;have hus:=its.len;have upk:∀{Ha:Hp}{zs:List V}{ys:List V},Ha il=some (.lst ys)->∀t ws,Ha t=some (.tup ws)->upd Ha il (.lst zs) t=some (.tup ws):=λ{Ha zs ys} ea t ws e=>by rw [GB (λz=>by rw [z,ea] at e;cases e)];exact e
   have upl:∀{Ha:Hp}{zs:List V},SameL il H2 Ha->SameL il H2 (upd Ha il (.lst zs)):=λ{Ha zs} sa b o n eb=>by rw [GB n];exact sa _ _ n eb
   rcases Zl rd with ⟨n,A',v,ns,rfl,hn,rfl,rd'⟩ | ⟨hw,rd'⟩ | ⟨hw,rd'⟩ | ⟨rfl,rd'⟩ | ⟨n,rfl,hn,hA,hR⟩ | ⟨hn,hw1,hw2,hw3,hpw,hR⟩
   ·obtain ⟨us',u,rfl,its',at'⟩:=its.last;have hl':=its'.len;have hln:=hlf (.leaf v ns) (by simp);refine ⟨_,rfl,num n,rfl,VF hn,λH4 s4=>?_⟩;rw [OE hn];refine ⟨_,rfl,GI ?_⟩;have e4:=s4 _ _ e3;cases at' with
    | @leaf a _ _ ea=>
     have ea4:=s4 _ _ ea;refine ⟨_,rfl,true,.inl ⟨_,SqL.of e4,by cases us' <;> rfl⟩,GR ?_⟩;refine ⟨_,rfl,_,rfl,il,_,_,_,rfl,rfl,SqL.of e4,O4 _ _,_,_,true,rfl,⟨_,rfl,GR ?_⟩,.inl ⟨_,.tup ea4,rfl,Jc⟩⟩;refine ⟨_,rfl,_,rfl,il,_,_,_,rfl,rfl,SqL.of e4,O4 _ _,_,rfl,num n,n,rfl,Ub hn,by have:=VX hn;lia,by show 1<=sizeLine;lia,λt ht=>?_⟩;have s5:Same H4 (upd H4 t (.tup [.int n])):=Same.new ht;have e5:upd H4 t (.tup [.int n]) t=some (.tup [.int n]):=Gb;generalize upd H4 t (.tup [.int n])=H5 at s5 e5 ⊢;refine ⟨a,t,_,_,rfl,rfl,SqT.of (s5 _ _ ea4),SqT.of e5,by simp,?_,λz=>(by cases z),λ_ p hp=>?_⟩
     ·rw [List.length_cons,List.length_map,List.length_singleton];have:ns.length<=i:=hln
      lia
     have s6:Same H5 (upd H5 p (.tup ((.str v::ns.map V.int)++[.int n]))):=Same.new hp;have e6:upd H5 p (.tup ((.str v::ns.map V.int)++[.int n])) p=some (.tup (.str v::(ns++[n]).map V.int)):=by rw [Gb,List.map_append];rfl
     generalize upd H5 p (.tup ((.str v::ns.map V.int)++[.int n]))=H6 at s6 e6 ⊢;have S46:=s4.trans (s5.trans s6);have e6i:=S46 _ _ e3;refine ⟨_,rfl,_,rfl,il,_,_,us'.length,rfl,rfl,e6i,?_,?_⟩
     ·unfold ixN;rw [if_neg (by decide),List.length_append,List.length_singleton];simp
      lia
     refine ⟨us'++[.ref p],A'++[.leaf v (ns++[n])],_,rfl,(s3.trans S46).put hil,upl (λb o n' eb=>S46 _ _ (sl3 _ _ n' eb)),?_,?_,?_,?_,rd'⟩
     ·rw [Gb];simp
     ·exact ((its'.keep (λt ws e=>S46 _ _ e)).snoc (.leaf e6)).keep (upk e6i)
     ·rw [List.length_append,List.length_singleton] at hIt ⊢;lia
     ·intro t ht;rcases List.mem_append.mp ht with h | h
      ·have:=hlf t (List.mem_append_left _ h);lia
      ·rw [List.mem_singleton.mp h];show (ns++[n]).length<=i+1;rw [List.length_append,List.length_singleton];have:ns.length<=i:=hln
       lia
   ·refine ⟨_,rfl,wd,rfl,OO wd (by simp [hw]),λH4 s4=>?_⟩;rw [Zbs wd hw];refine ⟨_,rfl,GR ?_⟩;have e4:=s4 _ _ e3;refine ⟨_,rfl,aB,aP,_,_,rfl,rfl,T.b _,T.p _,by decide,by show 5<=sizeLine;lia,λz=>(by cases z),λ_ p1 hp1=>?_⟩;refine ⟨p1,aR,_,_,rfl,rfl,SqT.of Gb,T.r _,by decide,by show 7<=sizeLine;lia,λz=>(by cases z),λ_ p2 hp2=>?_⟩;refine ⟨p2,aL,_,_,rfl,rfl,SqT.of Gb,T.l _,by decide,by show 9<=sizeLine;lia,λz=>(by cases z),λ_ p3 hp3=>?_⟩;have s5:=(Same.new (o:=.tup (sBare.map V.str++sPair.map V.str)) hp1).trans ((Same.new (o:=.tup (sBare.map V.str++sPair.map V.str++[.str "with", .str "off"])) hp2).trans (Same.new (o:=.tup (sBare.map V.str++sPair.map V.str++[.str "with", .str "off"]++[.str "over", .str "past"])) hp3));refine ⟨p3,_,rfl,.inr (SqT.of (xs:=allW.map V.str) Gb),rfl,rfl,_,rfl,?_⟩;show if (inV (.str wd) (allW.map V.str))=true then _ else _
    rw [GQ,decide_eq_true hw];refine GI ?_;have S45:=s4.trans s5;have e5:=S45 _ _ e3;refine ⟨_,rfl,.inl ⟨rfl,_,SqL.of e5⟩,_,rfl,by show 1<=sizeLine;lia,λt ht=>?_⟩;have s6:=Same.new (o:=.tup [.str wd]) ht;have e6:=s6 _ _ e5;have S46:=S45.trans s6;refine ⟨il,_,_,rfl,rfl,e6,by lia,?_⟩;refine ⟨us++[.ref t],It++[.leaf wd []],_,rfl,(s3.trans S46).put hil,upl (λb o n' eb=>S46 _ _ (sl3 _ _ n' eb)),Gb,((its.keep (λt ws e=>S46 _ _ e)).snoc (.leaf (ns:=[]) Gb)).keep (upk e6),by rw [List.length_append,List.length_singleton];lia,?_,rd'⟩;intro t ht;rcases List.mem_append.mp ht with h | h
    ·have:=hlf t h;lia
    ·rw [List.mem_singleton.mp h];exact Nat.zero_le _
   ·have hnn:=Zbt wd hw;refine ⟨_,rfl,wd,rfl,OO wd (by simp [hw]),λH4 s4=>?_⟩;rw [hnn.1];refine ⟨_,rfl,GR ?_⟩;have e4:=s4 _ _ e3;refine ⟨_,rfl,aB,aP,_,_,rfl,rfl,T.b _,T.p _,by decide,by show 5<=sizeLine;lia,λz=>(by cases z),λ_ p1 hp1=>?_⟩;refine ⟨p1,aR,_,_,rfl,rfl,SqT.of Gb,T.r _,by decide,by show 7<=sizeLine;lia,λz=>(by cases z),λ_ p2 hp2=>?_⟩;refine ⟨p2,aL,_,_,rfl,rfl,SqT.of Gb,T.l _,by decide,by show 9<=sizeLine;lia,λz=>(by cases z),λ_ p3 hp3=>?_⟩;have s5:=(Same.new (o:=.tup (sBare.map V.str++sPair.map V.str)) hp1).trans ((Same.new (o:=.tup (sBare.map V.str++sPair.map V.str++[.str "with", .str "off"])) hp2).trans (Same.new (o:=.tup (sBare.map V.str++sPair.map V.str++[.str "with", .str "off"]++[.str "over", .str "past"])) hp3));refine ⟨p3,_,rfl,.inr (SqT.of (xs:=allW.map V.str) Gb),rfl,rfl,_,rfl,?_⟩;show if (inV (.str wd) (allW.map V.str))=true then _ else _
    rw [GQ,decide_eq_false hnn.2];refine GR ?_;refine ⟨_,rfl,by show 2<=sizeLine;lia,λp4 hp4=>?_⟩;refine ⟨aJ,p4,_,_,rfl,rfl,T.j _,SqT.of Gb,by decide,by show 5<=sizeLine;lia,λz=>(by cases z),λ_ p5 hp5=>?_⟩;have s6:=(Same.new (o:=.tup [.str "(", .str ")"]) hp4).trans (Same.new (o:=.tup (sJoin.map V.str++[.str "(", .str ")"])) hp5);refine ⟨p5,_,rfl,.inr (SqT.of (xs:=sSign.map V.str) Gb),rfl,rfl,_,rfl,?_⟩;show if (inV (.str wd) (sSign.map V.str))=true then _ else _
    rw [GQ,decide_eq_true hw];refine GI ?_;have S46:=s4.trans (s5.trans s6);have e6:=S46 _ _ e3;refine ⟨_,rfl,.inl ⟨rfl,_,SqL.of e6⟩,_,rfl,il,_,_,rfl,rfl,e6,by lia,?_⟩;refine ⟨us++[.str wd],It++[.sign wd],_,rfl,(s3.trans S46).put hil,upl (λb o n' eb=>S46 _ _ (sl3 _ _ n' eb)),Gb,((its.keep (λt ws e=>S46 _ _ e)).snoc .sign).keep (upk e6),by rw [List.length_append,List.length_singleton];lia,?_,rd'⟩;intro t ht;rcases List.mem_append.mp ht with h | h
    ·have:=hlf t h;lia
    ·rw [List.mem_singleton.mp h];exact Nat.zero_le _
   ·refine ⟨_,rfl,_,rfl,OO "" (by simp),λH4 s4=>?_⟩;rw [VZ.1];refine ⟨_,rfl,GR ?_⟩;have e4:=s4 _ _ e3;refine ⟨_,rfl,aB,aP,_,_,rfl,rfl,T.b _,T.p _,by decide,by show 5<=sizeLine;lia,λz=>(by cases z),λ_ p1 hp1=>?_⟩;refine ⟨p1,aR,_,_,rfl,rfl,SqT.of Gb,T.r _,by decide,by show 7<=sizeLine;lia,λz=>(by cases z),λ_ p2 hp2=>?_⟩;refine ⟨p2,aL,_,_,rfl,rfl,SqT.of Gb,T.l _,by decide,by show 9<=sizeLine;lia,λz=>(by cases z),λ_ p3 hp3=>?_⟩;have s5:=(Same.new (o:=.tup (sBare.map V.str++sPair.map V.str)) hp1).trans ((Same.new (o:=.tup (sBare.map V.str++sPair.map V.str++[.str "with", .str "off"])) hp2).trans (Same.new (o:=.tup (sBare.map V.str++sPair.map V.str++[.str "with", .str "off"]++[.str "over", .str "past"])) hp3));refine ⟨p3,_,rfl,.inr (SqT.of (xs:=allW.map V.str) Gb),rfl,rfl,_,rfl,?_⟩;show if (inV (.str "") (allW.map V.str))=true then _ else _
    rw [GQ,decide_eq_false VZ.2.1];refine GR ?_;refine ⟨_,rfl,by show 2<=sizeLine;lia,λp4 hp4=>?_⟩;refine ⟨aJ,p4,_,_,rfl,rfl,T.j _,SqT.of Gb,by decide,by show 5<=sizeLine;lia,λz=>(by cases z),λ_ p5 hp5=>?_⟩;have s6:=(Same.new (o:=.tup [.str "(", .str ")"]) hp4).trans (Same.new (o:=.tup (sJoin.map V.str++[.str "(", .str ")"])) hp5);refine ⟨p5,_,rfl,.inr (SqT.of (xs:=sSign.map V.str) Gb),rfl,rfl,_,rfl,?_⟩;show if (inV (.str "") (sSign.map V.str))=true then _ else _
    rw [GQ,decide_eq_false VZ.2.2];refine GR ?_;have S46:=s4.trans (s5.trans s6);have e6:=S46 _ _ e3;refine ⟨_,rfl,rfl,_,rfl,?_⟩;rw [decide_eq_true rfl];refine GR ?_;exact ⟨us,It,_,rfl,s3.trans S46,λb o n' eb=>S46 _ _ (sl3 _ _ n' eb),e6,its.keep (λt ws e=>S46 _ _ e),by lia,λt ht=>by have:=hlf t ht;lia,rd'⟩
   ·refine ⟨_,rfl,num n,rfl,VF hn,λH4 s4=>?_⟩;rw [OE hn];refine ⟨_,rfl,GI ?_⟩;have e4:=s4 _ _ e3;rcases hA with rfl | ⟨A',sg,rfl⟩
    ·cases its;refine ⟨_,rfl,false,.inl ⟨_,SqL.of e4,rfl⟩,GI (GI ?_)⟩;exact qn hR _ (s3.trans s4)
    ·obtain ⟨us',u,rfl,its',at'⟩:=its.last;cases at';refine ⟨_,rfl,true,.inl ⟨_,SqL.of e4,by cases us' <;> rfl⟩,GR ?_⟩;refine ⟨_,rfl,_,rfl,il,_,_,_,rfl,rfl,SqL.of e4,O4 _ _,_,_,false,rfl,⟨_,rfl,GI ?_⟩,.inl ⟨_,.str _,rfl,k.st⟩⟩;exact qn hR _ (s3.trans s4)
   ·refine ⟨_,rfl,wd,rfl,hpw,λH4 s4=>?_⟩;rw [hn];refine ⟨_,rfl,GR ?_⟩;have e4:=s4 _ _ e3;refine ⟨_,rfl,aB,aP,_,_,rfl,rfl,T.b _,T.p _,by decide,by show 5<=sizeLine;lia,λz=>(by cases z),λ_ p1 hp1=>?_⟩;refine ⟨p1,aR,_,_,rfl,rfl,SqT.of Gb,T.r _,by decide,by show 7<=sizeLine;lia,λz=>(by cases z),λ_ p2 hp2=>?_⟩;refine ⟨p2,aL,_,_,rfl,rfl,SqT.of Gb,T.l _,by decide,by show 9<=sizeLine;lia,λz=>(by cases z),λ_ p3 hp3=>?_⟩;have s5:=(Same.new (o:=.tup (sBare.map V.str++sPair.map V.str)) hp1).trans ((Same.new (o:=.tup (sBare.map V.str++sPair.map V.str++[.str "with", .str "off"])) hp2).trans (Same.new (o:=.tup (sBare.map V.str++sPair.map V.str++[.str "with", .str "off"]++[.str "over", .str "past"])) hp3));refine ⟨p3,_,rfl,.inr (SqT.of (xs:=allW.map V.str) Gb),rfl,rfl,_,rfl,?_⟩;show if (inV (.str wd) (allW.map V.str))=true then _ else _
    rw [GQ,decide_eq_false hw1];refine GR ?_;refine ⟨_,rfl,by show 2<=sizeLine;lia,λp4 hp4=>?_⟩;refine ⟨aJ,p4,_,_,rfl,rfl,T.j _,SqT.of Gb,by decide,by show 5<=sizeLine;lia,λz=>(by cases z),λ_ p5 hp5=>?_⟩;have s6:=(Same.new (o:=.tup [.str "(", .str ")"]) hp4).trans (Same.new (o:=.tup (sJoin.map V.str++[.str "(", .str ")"])) hp5);refine ⟨p5,_,rfl,.inr (SqT.of (xs:=sSign.map V.str) Gb),rfl,rfl,_,rfl,?_⟩;show if (inV (.str wd) (sSign.map V.str))=true then _ else _
    rw [GQ,decide_eq_false hw2];refine GR ?_;refine ⟨_,rfl,rfl,_,rfl,?_⟩;rw [show (!decide (V.str wd=V.str ""))=true by rw [decide_eq_false (λz=>hw3 (V.str.inj z))];rfl];refine GI ?_;exact qn hR _ (s3.trans (s4.trans (s5.trans s6)))
  ·rintro σ H3 ⟨us,It,v2,rfl,s3,sl3,e3,its,hIt,hlf,rd⟩;rw [List.drop_of_length_le (by rw [List.length_map];exact Nat.le_refl _)] at rd;cases rd;exact ⟨_,rfl,q _ rfl _ _ _ s3 hil e3 its⟩
end
end M
namespace M
open PySem L2
theorem OF (H:Hp):∀ms:List Int,Ths H (ms.map V.int) (ms.map PyData.int)
 | []=>.nil
 | m::ms=>.cons (.int m) (OF H ms)
def O1 (w:Str)(ns:List Int):PyData:=if w∈sFour then .tuple [.str w,.tuple (ns.map .int)] else .tuple (.str w::ns.map .int)
section
variable {P:Program}{w:World}{K:W.Frag}{mg:Str->Option Value}{base:Heap}
def ZcX (w:Str)(ns:List Int):Prop:=ns.length<=1000/\(w ∉ sFour->ns.length<=999)
def ZcY:Sp:=λvs H Q _=>∃(a:Addr)(wd:Str)(ns:List Int),vs=[.ref a]/\H a=some (.tup (.str wd::ns.map V.int))/\ZcX wd ns/\∀(v:V)(H':Hp),Same H H'->Th H' v (O1 wd ns)->Q v H'
theorem Zd8:Gz ["item"] ["item"] (Gh Za6):=⟨rfl,rfl,rfl,by decide +kernel,rfl,by decide +kernel,by decide +kernel⟩
theorem ZcZ {f aJ aB aP aR aL:Addr}{fd:FuncData}(F:Fun K "leaf_of" "leaf_of" Za6 f fd)(T:Wds K aJ aB aP aR aL)(mOfR:mg "OF_ROADS" = some (.ref aR))(mOfP:mg "OF_PLACES" = some (.ref aL)):Jl P w K mg base CX0 1 f fd ["item"] ZcY:=by
 refine F.ok Zd8 (λvs H Q E h=>?_) (λcdv A outer s H vs Q E hr h=>?_)
 ·obtain ⟨_,_,_,rfl,_⟩:=h
  rfl
 ·obtain ⟨a,wd,ns,rfl,e,⟨z1,z2⟩,q⟩:=h;refine ⟨_,Gf (Go (O2 (Gj (kIn K) (Gp (OW K) (pv 0) Gc (λ_ _=>rfl)) (Gn (Vx K) (Jt mOfR) (Jt mOfP)) (by with_unfolding_all rfl)) (Je (Ga (Gp (OW K) (pv 0) Gc (λ_ _=>rfl)) (Ga (Gx (ZbS K) (pv 0) (Gw Gc) GX) Gd))) (pv 0))),?_⟩;refine ⟨_,rfl,a,_,_,_,rfl,rfl,SqT.of e,Gi (j:=0) rfl,aR,aL,_,_,rfl,rfl,T.r _,T.l _,(by simp),(by show 4<=sizeLine;decide),(λz=>by cases z),λ_ p hp=>?_⟩;have s1:Same H (upd H p (.tup (sFour.map V.str))):=Same.new hp;refine ⟨p,_,rfl,.inr (SqT.of (xs:=sFour.map V.str) Gb),rfl,rfl,_,rfl,?_⟩;show if (inV (.str wd) (sFour.map V.str))=true then _ else _
  rw [GQ];have e1:=s1 _ _ e;unfold O1 at q;by_cases h4:wd∈sFour
  ·rw [decide_eq_true h4];rw [if_pos h4] at q;refine GI ⟨_,rfl,a,_,_,_,rfl,rfl,SqT.of e1,Gi (j:=0) rfl,_,rfl,_,rfl,a,_,rfl,SqT.of e1,?_,λt ht=>?_⟩
   ·rw [List.length_cons];intro hz;have:=hz.1;simp [HT.sIx] at this
   ·have ec:J6 (V.str wd::ns.map V.int) (some 1) none=ns.map V.int:=J1 (xs:=V.str wd::ns.map V.int) (k:=1);rw [ec];have s2:Same (upd H p (.tup (sFour.map V.str))) (upd (upd H p (.tup (sFour.map V.str))) t (.tup (ns.map V.int))):=Same.new ht;refine ⟨JK,λt2 ht2=>?_⟩;have s3:=Same.new (o:=.tup [.str wd,.ref t]) ht2;exact q _ _ (s1.trans (s2.trans s3)) (.tup Gb (by simp) (.cons (.str _) (.cons (.tup (s3 _ _ Gb) (by rw [List.length_map];exact z1) (OF _ ns)) .nil)))
  ·rw [decide_eq_false h4];rw [if_neg h4] at q;refine GR ⟨_,rfl,?_⟩;exact q _ _ s1 (.tup e1 (by rw [List.length_cons,List.length_map];have:=z2 h4;lia) (.cons (.str _) (OF _ ns)))
end
inductive LF:PyData->Prop
 | str {x:Str}:PyData.strOk x=true->LF (.str x)
 | int {i:Int}:0<=i/\i<=9999->LF (.int i)
 | tup {ds:List PyData}:(∀d∈ds,LF d)->LF (.tuple ds)
theorem Yc {H H':Hp}:∀{vs:List V}{ds:List PyData},(∀d∈ds,∀v,Th H v d->Th H' v d)->Ths H vs ds->Ths H' vs ds
 | _,_,_,.nil=>.nil
 | _,_,h,.cons a b=>.cons (h _ (List.mem_cons_self ..) _ a) (Yc (λd hd=>h d (List.mem_cons_of_mem _ hd)) b)
theorem LF.keep {H H':Hp}(k:∀t ys,H t=some (.tup ys)->H' t=some (.tup ys)){d:PyData}(h:LF d):∀v,Th H v d->Th H' v d:=by
 induction h with
 | str _=>intro v t;cases t;exact .str _
 | int _=>intro v t;cases t;exact .int _
 | tup _ ih=>
  intro v t;cases t with
  | tup e z hh=>exact .tup (k _ _ e) z (Yc ih hh)
theorem WE {H H':Hp}(k:∀t ys,H t=some (.tup ys)->H' t=some (.tup ys)){vs:List V}{ds:List PyData}(h:∀d∈ds,LF d)(t:Ths H vs ds):Ths H' vs ds:=Yc (λd hd=>(h d hd).keep k) t
mutual
theorem ZY {K:W.Frag}{H:Hp}:∀{v:V}{d:PyData},Th H v d->DatV K H v d
 | _,_,.non=>.non
 | _,_,.bl b=>.bl b
 | _,_,.int i=>.int i
 | _,_,.str x=>.str x
 | _,_,.lst e _ h=>.lst (SqL.of e) (ths_dat h)
 | _,_,.tup e _ h=>.tup (SqT.of e) (ths_dat h)
theorem ths_dat {K:W.Frag}{H:Hp}:∀{vs:List V}{ds:List PyData},Ths H vs ds->DatVs K H vs ds
 | _,_,.nil=>.nil
 | _,_,.cons a b=>.cons (ZY a) (ths_dat b)
end
theorem Yd:∀{ds:List PyData},(∀d∈ds,d.canLay0=true)->PyData.canLayAll0 ds=true
 | [],_=>by simp only [PyData.canLayAll0]
 | d::ds,h=>by
  simp only [PyData.canLayAll0];rw [h d (List.mem_cons_self ..),Yd λx hx=>h x (List.mem_cons_of_mem _ hx)]
  rfl
theorem LF.can {d:PyData}(h:LF d):d.canLay0=true:=by
 induction h with
 | str h=>simp only [PyData.canLay0];exact h
 | int h=>simp only [PyData.canLay0]
 | tup _ ih=>simp only [PyData.canLay0];exact Yd ih
theorem Ze4 {X:Cx}(K:W.Frag)(hu:X.A.units+64<cLine)(hK:X.K=K:=by rfl):OpR X (compareOp .NotEq) (λx y H Q=>∃(d:PyData)(z:Str),DatV K H x d/\y=.str z/\d.canLay0=true/\PyData.strOk z=true/\Q (.bl (!PyData.eqv d (.str z))) H):=by
 subst hK;intro qQ s σ H x y v u Q I rx ry h;obtain ⟨d,z,h1,rfl,c1,c2,q⟩:=h;obtain ⟨as,r1⟩:=h1.reads I rx;obtain ⟨bs,r2⟩:=(DatV.str (K:=X.K) (H:=H) z).reads I ry;refine SeqAt.compareNe_reads r1 r2 c1 (by simp only [PyData.canLay0];exact c2) ?_ ⟨.bl _,H,I,rfl,q⟩;have:(PyData.str z).depth<=64:=by simp only [PyData.depth];lia
 lia
inductive Run:List PyData->List Jr->Option (List PyData)->Prop
 | nil {S:List PyData}:Run S [] (some S)
 | leaf {S:List PyData} {R:Option (List PyData)} {w:Str} {ns:List Int} {ts:List Jr}:Run (S++[O1 w ns]) ts R->Run S (.leaf w ns::ts) R
 | sign {S:List PyData} {R:Option (List PyData)} {w:Str} {ts:List Jr}:w ≠ ")" -> Run (S++[.str w]) ts R->Run S (.sign w::ts) R
 | close {S:List PyData} {R:Option (List PyData)} {c b d:PyData} {ts:List Jr}:Run (S++[.tuple [c,b,d]]) ts R->Run (S++[.str "(", b,c,d]) (.sign ")" :: ts) R
 | few {S:List PyData} {ts:List Jr}:S.length<4->Run S (.sign ")" :: ts) none
 | bad {S:List PyData} {a b c d:PyData} {ts:List Jr}:a≠.str "(" -> Run (S++[a,b,c,d]) (.sign ")" :: ts) none
theorem Ye {α:Type}(S:List α)(h:4<=S.length):∃S' a b c d,S=S'++[a,b,c,d]:=by
 have hl:(S.drop (S.length-4)).length=4:=by rw [List.length_drop];lia
 match hd:S.drop (S.length-4),hl with
 | [a,b,c,d],_=>exact ⟨S.take (S.length-4),a,b,c,d,by rw [<-hd,List.take_append_drop]⟩
theorem OG:∀(ts:List Jr)(S:List PyData),∃R,Run S ts R
 | [],S=>⟨_,.nil⟩
 | .leaf w ns::ts,S=>by
  obtain ⟨R,r⟩:=OG ts (S++[O1 w ns]);exact ⟨R,.leaf r⟩
 | .sign w::ts,S=>by
  by_cases h:w = ")"
  ·subst h;by_cases h4:S.length<4
   ·exact ⟨none,.few h4⟩
   obtain ⟨S',a,b,c,d,rfl⟩:=Ye S (by lia);by_cases ha:a=.str "("
   ·subst ha;obtain ⟨R,r⟩:=OG ts (S'++[.tuple [c,b,d]]);exact ⟨R,.close r⟩
   ·exact ⟨none,.bad ha⟩
  ·obtain ⟨R,r⟩:=OG ts (S++[.str w]);exact ⟨R,.sign h r⟩
theorem Yg {S:List PyData}{R:Option (List PyData)}{t:Jr}{ts:List Jr}(h:Run S (t::ts) R):(∃w ns,t=.leaf w ns/\Run (S++[O1 w ns]) ts R)\/(∃w,t=.sign w/\w ≠ ")" /\ Run (S++[.str w]) ts R)\/(∃S' c b d,t=.sign ")" /\ S=S'++[.str "(", b,c,d]/\Run (S'++[.tuple [c,b,d]]) ts R)\/(t=.sign ")" /\ S.length<4/\R=none)\/(∃S' a b c d,t=.sign ")" /\ S=S'++[a,b,c,d]/\a≠.str "(" /\ R=none):=by
 cases h with
 | leaf a=>exact .inl ⟨_,_,rfl,a⟩
 | sign a b=>exact .inr (.inl ⟨_,rfl,a,b⟩)
 | close b=>exact .inr (.inr (.inl ⟨_,_,_,_,rfl,rfl,b⟩))
 | few a=>exact .inr (.inr (.inr (.inl ⟨rfl,a,rfl⟩)))
 | bad a=>exact .inr (.inr (.inr (.inr ⟨_,_,_,_,_,rfl,rfl,a,rfl⟩)))
theorem Uu {H:Hp}:∀{us:List V}{ds es:List PyData},Ths H us (ds++es)->∃xs ys,us=xs++ys/\Ths H xs ds/\Ths H ys es
 | us,[],es,h=>⟨[],us,rfl,.nil,h⟩
 | _,d::ds,es,.cons a b=>by
  obtain ⟨xs,ys,rfl,h1,h2⟩:=Uu b;exact ⟨_::xs,ys,rfl,.cons a h1,h2⟩
def Zc0:Jr->Prop
 | .leaf w ns=>PyData.strOk w=true/\ZcX w ns/\∀i∈ns,0<=i/\i<=9999
 | .sign w=>PyData.strOk w=true
theorem Zm {w:Str}{ns:List Int}(h:Zc0 (.leaf w ns)):LF (O1 w ns):=by
 obtain ⟨h1,_,h2⟩:=h;have hi:∀d∈ns.map PyData.int,LF d:=λd hd=>by
  obtain ⟨i,hi,rfl⟩:=List.mem_map.mp hd;exact .int (h2 i hi)
 unfold O1;split
 ·refine .tup λd hd=>?_;rcases List.mem_cons.mp hd with rfl | hd
  ·exact .str h1
  ·rw [List.mem_singleton.mp hd];exact .tup hi
 ·refine .tup λd hd=>?_;rcases List.mem_cons.mp hd with rfl | hd
  ·exact .str h1
  ·exact hi d hd
def Zd9:Option (List PyData)->PyData
 | some [d]=>d
 | _=>.none
section
variable {P:Program}{w:World}{K:W.Frag}{mg:Str->Option Value}{base:Heap}
def Zc1:Sp:=λvs H Q _=>∃(il:Addr)(us:List V)(ts:List Jr)(R:Option (List PyData)),vs=[.ref il]/\H il=some (.lst us)/\Its H us ts/\us.length<=15000000/\Run [] ts R/\(∀t∈ts,Zc0 t)/\∀(v:V)(H':Hp),Same H H'->Th H' v (Zd9 R)->Q v H'
theorem scWsh:Gz ["items", "stack", "item", "within"] ["items"] (Gh Za7):=⟨rfl,rfl,rfl,by decide +kernel,rfl,by decide +kernel,by decide +kernel⟩
theorem VI (xs:List V)(a b c d:V):J6 (xs++[a,b,c,d]) (some (-4)) none=[a,b,c,d]/\J6 (xs++[a,b,c,d]) none (some (-4))=xs:=by
 have e:HT.sIx (xs++[a,b,c,d]).length 0 (some (-4))=xs.length:=by
  unfold HT.sIx;simp
  lia
 have e2:HT.sIx (xs++[a,b,c,d]).length (xs++[a,b,c,d]).length (some (-4))=xs.length:=by
  unfold HT.sIx;simp
  lia
 unfold J6;rw [e,e2];refine ⟨?_,?_⟩
 ·rw [List.drop_left];apply List.take_of_length_le;simp [HT.sIx]
 ·show ((xs++[a,b,c,d]).drop 0).take (xs.length-0)=xs;simp
theorem Zbv (xs:List V)(h:xs.length<4):J6 xs (some (-4)) none=xs:=by
 have e:HT.sIx xs.length 0 (some (-4))=0:=by
  unfold HT.sIx;simp
  lia
 unfold J6;rw [e,List.drop_zero];apply List.take_of_length_le;simp [HT.sIx]
theorem V0:PyData.strOk ("(" : Str)=true:=by decide +kernel
theorem Zn {d:PyData}(h:d≠.str "(")(hl:LF d):PyData.eqv d (.str "(")=false:=by
 cases hl with
 | str _=>
  rw [Ou];exact decide_eq_false λz=>h (by rw [z])
 | int _=>simp [PyData.eqv]
 | tup _=>simp [PyData.eqv]
theorem Zc2 {f fLo:Addr}{fd fdLo:FuncData}(F:Fun K "wish_of" "wish_of" Za7 f fd)(FLo:Fun K "leaf_of" "leaf_of" Za6 fLo fdLo)(bLo:Binds K fdLo ["item"] [])(mLo:mg "leaf_of" = some (.ref fLo))(GLo:Jl P w K mg base CX0 1 fLo fdLo ["item"] ZcY)(k:ZbW K)(mIsi:mg "isinstance" = none)(mTup:mg "tuple" = none)(mLen:mg "len" = none):Jl P w K mg base CX0 2 f fd ["items"] Zc1:=by
 refine F.ok scWsh (λvs H Q E h=>?_) (λcdv A outer s H vs Q E hr h=>?_)
 ·obtain ⟨_,_,_,_,rfl,_⟩:=h
  rfl
 ·obtain ⟨il,us,ts,R,rfl,eil,its,hul,run,iok,q⟩:=h;have h16:(16777216:Nat)=sizeLine:=sizeLine_eq.symm;have hu:=hr.units;have qJ:=its.len;refine ⟨_,Ge (Gs (i:=1) scWsh.nd rfl (Or.inl rfl) (GO Gd))
    (Ge (Om PassesOwn.never rfl (Zcm K (pv 0)) (GV (i:=2) scWsh.nd rfl (Or.inl rfl))
    (Gf (GT (JI (Gm (UA K) rfl mIsi GP (Ga (pv 2) (Ga (Ju mTup Ji) Gd)))) (Gf (JJ (Op PySem.F.plainAttrs_list PySem.F.slot_list_append PySem.F.type_list_append Jn (pv 1) (Ga (GH GLo (hr.mono (by decide)) rfl mLo FLo.kp bLo .nil Jh (Ga (pv 2) Gd)) Gd)))) (Gf (GT (Gj Uz (pv 2) Gg (Gq _)) (Gf (JJ (Op PySem.F.plainAttrs_list PySem.F.slot_list_append PySem.F.type_list_append Jn (pv 1) (Ga (pv 2) Gd)))) (Ge (Gs (i:=3) scWsh.nd rfl (Or.inl rfl) (Gx (kSl K) (pv 1) (Gw (Uy JR Gc)) GX))
    (Ge (GT (PW.pt (JS (Gj Zai (Gm (VS K) rfl mLen PySem.boot_len (Ga (pv 3) Gd)) Gc (Gq _)) (JO (Gj (Ze4 K hu) (Gp (Jp K) (pv 3) Gc (λ_ _=>rfl)) Gg (Gq _))))) (Gf (Go Jz)) Gr)
    (Gf (Gs (i:=1) scWsh.nd rfl (Or.inl rfl) (Gn J8 (Gx (kSl K) (pv 1) GX (Gw (Uy JR Gc))) (GO (Ga (Je (Ga (Gp (Jp K) (pv 3) Gc (λ_ _=>rfl)) (Ga (Gp (Jp K) (pv 3) Gc (λ_ _=>rfl)) (Ga (Gp (Jp K) (pv 3) Gc (λ_ _=>rfl)) Gd)))) Gd))))))))))))
    (Gf (Go (O2 (Gj Jj (Gm (VS K) rfl mLen PySem.boot_len (Ga (pv 1) Gd)) Gc (Gq _)) (Gp (Jp K) (pv 1) Gc (λ_ _=>rfl)) Jz)))),?_⟩
  refine ⟨Nat.zero_le _,λs0 hs0=>?_⟩;have s1:Same H (upd H s0 (.lst [])):=Same.new hs0;have e1:upd H s0 (.lst []) s0=some (.lst []):=Gb;generalize upd H s0 (.lst [])=H1 at s1 e1 ⊢;refine ⟨_,rfl,il,rfl,⟨_,SqL.of (s1 _ _ eil)⟩,?_⟩;refine Wd (K:=K) (a:=il) (xs:=us) (λi σ H3=>∃(sl:Addr)(xs:List V)(S:List PyData)(v2 v3:Option V),σ=[some (.ref il),some (.ref sl),v2,v3]/\Same H H3/\H sl=none/\H3 sl=some (.lst xs)/\Ths H3 xs S/\(∀d∈S,LF d)/\S.length<=i/\Run S (ts.drop i) R) ⟨s0,[],[],none,none,rfl,s1,hs0,e1,.nil,λd hd=>(by cases hd),Nat.le_refl _,run⟩ ?_ ?_ ?_
  ·rintro i σ H3 hi ⟨sl,xs,S,v2,v3,rfl,s3,_⟩;exact SqL.of (s3 _ _ eil)
  ·rintro i y σ H3 hy ⟨sl,xs,S,v2,v3,rfl,s3,hsl,e3,th,hel,hS,run⟩;obtain ⟨t,ht,at0⟩:=its.get hy;have at3:=at0.keep (λt ys e=>s3 _ _ e);obtain ⟨hi',ep'⟩:=List.getElem?_eq_some_iff.mp ht;have itk:=iok t (List.mem_of_getElem? ht);rw [List.drop_eq_getElem_cons hi',ep'] at run;have hxs:=th.len;have upk:∀{Ha:Hp}{zs:List V}{ys:List V},Ha sl=some (.lst ys)->∀t ws,Ha t=some (.tup ws)->upd Ha sl (.lst zs) t=some (.tup ws):=λ{Ha zs ys} ea t ws e=>by rw [GB (λz=>by rw [z,ea] at e;cases e)];exact e
   rcases Yg run with ⟨wd,ns,rfl,run'⟩ | ⟨wd,rfl,hne,run'⟩ | ⟨S',c,b,d',rfl,rfl,run'⟩ | ⟨rfl,hfew,hR⟩ | ⟨S',a,b,c,d',rfl,rfl,hna,hR⟩
   ·cases at3 with
    | @leaf a _ _ ea=>
     refine ⟨_,rfl,_,_,true,rfl,⟨_,rfl,GI ?_⟩,.inl ⟨_,.tup ea,rfl,Jc⟩⟩;refine ⟨_,rfl,.inl ⟨rfl,_,SqL.of e3⟩,_,rfl,a,wd,ns,rfl,ea,itk.2.1,λv H4 s4 t4=>?_⟩;have e4:=s4 _ _ e3;refine ⟨sl,_,_,rfl,rfl,e4,by lia,?_⟩;have hel':∀x∈S++[O1 wd ns],LF x:=λx hx=>(List.mem_append.mp hx).elim (hel x) λz=>by rw [List.mem_singleton.mp z];exact Zm itk
     exact ⟨sl,xs++[v],S++[O1 wd ns],_,_,rfl,(s3.trans s4).put hsl,hsl,Gb,WE (upk e4) hel' ((th.same s4).app (.cons t4 .nil)),hel',by rw [List.length_append,List.length_singleton];lia,run'⟩
   ·cases at3;refine ⟨_,rfl,_,_,false,rfl,⟨_,rfl,GR ?_⟩,.inl ⟨_,.str _,rfl,k.st⟩⟩;refine ⟨_,rfl,rfl,_,rfl,?_⟩;rw [show (!decide (V.str wd=V.str ")"))=true by rw [decide_eq_false (λz=>hne (V.str.inj z))];rfl];refine GI ?_;refine ⟨_,rfl,.inl ⟨rfl,_,SqL.of e3⟩,_,rfl,sl,_,_,rfl,rfl,e3,by lia,?_⟩;have hel':∀x∈S++[.str wd],LF x:=λx hx=>(List.mem_append.mp hx).elim (hel x) λz=>by rw [List.mem_singleton.mp z];exact .str itk
    exact ⟨sl,xs++[.str wd],S++[.str wd],_,_,rfl,s3.put hsl,hsl,Gb,WE (upk e3) hel' (th.app (.cons (.str _) .nil)),hel',by rw [List.length_append,List.length_singleton];lia,run'⟩
   ·cases at3;refine ⟨_,rfl,_,_,false,rfl,⟨_,rfl,GR ?_⟩,.inl ⟨_,.str _,rfl,k.st⟩⟩;refine ⟨_,rfl,rfl,_,rfl,?_⟩;rw [decide_eq_true rfl];refine GR ?_;obtain ⟨xs',ys,rfl,th1,th2⟩:=Uu th;obtain ⟨vb,vc,vd,rfl,tb,tc,td⟩:∃vb vc vd,ys=[.str "(", vb,vc,vd]/\Th H3 vb b/\Th H3 vc c/\Th H3 vd d':=by
     cases th2 with
     | cons t1 r1=>
      cases t1;cases r1 with
      | cons t2 r2=>
       cases r2 with
       | cons t3 r3=>
        cases r3 with
        | cons t4 r4=>
         cases r4;exact ⟨_,_,_,rfl,t2,t3,t4⟩
    obtain ⟨c1,c2⟩:=VI xs' (.str "(") vb vc vd;refine ⟨_,rfl,_,rfl,_,rfl,sl,_,rfl,SqL.of e3,λp1 hp1=>?_⟩;rw [show J6 (xs'++[V.str "(", vb,vc,vd]) (some (-4)) none=_ from c1];have s4:Same H3 (upd H3 p1 (.lst [.str "(", vb,vc,vd])):=Same.new hp1;have e4:upd H3 p1 (.lst [.str "(", vb,vc,vd]) p1=some (.lst [.str "(", vb,vc,vd]):=Gb;generalize upd H3 p1 (.lst [.str "(", vb,vc,vd])=H4 at s4 e4 ⊢;dsimp only [JN];refine ⟨_,rfl,p1,_,rfl,.inl (SqL.of e4),_,_,rfl,rfl,_,rfl,GR ?_⟩;refine ⟨_,rfl,p1,_,_,_,rfl,rfl,SqL.of e4,Gi (j:=0) rfl,.str ("(" : Str), "(", .str _,rfl,(LF.str V0).can,V0,_,rfl,?_⟩;rw [Ou,decide_eq_true rfl];refine GR ?_;refine ⟨_,rfl,_,rfl,_,rfl,sl,_,rfl,SqL.of (s4 _ _ e3),λp2 hp2=>?_⟩;rw [show J6 (xs'++[V.str "(", vb,vc,vd]) none (some (-4))=_ from c2];have s5:Same H4 (upd H4 p2 (.lst xs')):=Same.new hp2;have e5:upd H4 p2 (.lst xs') p2=some (.lst xs'):=Gb;generalize upd H4 p2 (.lst xs')=H5 at s5 e5 ⊢;have e45:=s5 _ _ e4;refine ⟨_,rfl,p1,_,_,_,rfl,rfl,SqL.of e45,Gi (j:=2) rfl,_,rfl,p1,_,_,_,rfl,rfl,SqL.of e45,Gi (j:=1) rfl,_,rfl,p1,_,_,_,rfl,rfl,SqL.of e45,Gi (j:=3) rfl,by show 3<=sizeLine;lia,λp3 hp3=>?_⟩;have s6:Same H5 (upd H5 p3 (.tup [vc,vb,vd])):=Same.new hp3;have e6:upd H5 p3 (.tup [vc,vb,vd]) p3=some (.tup [vc,vb,vd]):=Gb;generalize upd H5 p3 (.tup [vc,vb,vd])=H6 at s6 e6 ⊢;refine ⟨by show 1<=sizeLine;lia,λp4 hp4=>?_⟩;have s7:Same H6 (upd H6 p4 (.lst [.ref p3])):=Same.new hp4;have e7:upd H6 p4 (.lst [.ref p3]) p4=some (.lst [.ref p3]):=Gb;generalize upd H6 p4 (.lst [.ref p3])=H7 at s7 e7 ⊢;rw [List.length_append] at hxs hS;simp only [List.length_append,List.length_cons,List.length_nil] at hxs hS;refine ⟨p2,p4,_,_,rfl,rfl,s7 _ _ (s6 _ _ e5),e7,by rw [List.length_singleton];lia,λp5 hp5=>?_⟩;have s8:=Same.new (o:=.lst (xs'++[.ref p3])) hp5;have S78:=s7.trans s8;have S48:=(s4.trans s5).trans (s6.trans S78);refine ⟨p5,xs'++[.ref p3],S'++[.tuple [c,b,d']],_,_,rfl,s3.trans S48,?_,Gb,(th1.same S48).app (.cons (.tup (S78 _ _ e6) (by simp) (.cons (tc.same S48) (.cons (tb.same S48) (.cons (td.same S48) .nil)))) .nil),λx hx=>?_,by rw [List.length_append,List.length_singleton];lia,run'⟩
    ·exact (s3.trans ((s4.trans s5).trans (s6.trans s7))).free hp5
    ·rcases List.mem_append.mp hx with z | z
     ·exact hel x (List.mem_append_left _ z)
     ·rw [List.mem_singleton.mp z];refine .tup λe he=>?_;rcases List.mem_cons.mp he with rfl | he
      ·exact hel _ (by simp)
      rcases List.mem_cons.mp he with rfl | he
      ·exact hel _ (by simp)
      ·rw [List.mem_singleton.mp he];exact hel _ (by simp)
   ·cases at3;refine ⟨_,rfl,_,_,false,rfl,⟨_,rfl,GR ?_⟩,.inl ⟨_,.str _,rfl,k.st⟩⟩;refine ⟨_,rfl,rfl,_,rfl,?_⟩;rw [decide_eq_true rfl];refine GR ?_;refine ⟨_,rfl,_,rfl,_,rfl,sl,_,rfl,SqL.of e3,λp1 hp1=>?_⟩;rw [show J6 xs (some (-4)) none=_ from Zbv xs (by lia)];have s4:Same H3 (upd H3 p1 (.lst xs)):=Same.new hp1;have e4:upd H3 p1 (.lst xs) p1=some (.lst xs):=Gb;generalize upd H3 p1 (.lst xs)=H4 at s4 e4 ⊢;dsimp only [JN];refine ⟨_,rfl,p1,_,rfl,.inl (SqL.of e4),_,_,rfl,rfl,_,rfl,?_⟩;rw [decide_eq_true (show (xs.length:Int)<4 by lia)];refine GI (GI ?_);subst hR;exact q _ _ (s3.trans s4) .non
   ·cases at3;refine ⟨_,rfl,_,_,false,rfl,⟨_,rfl,GR ?_⟩,.inl ⟨_,.str _,rfl,k.st⟩⟩;refine ⟨_,rfl,rfl,_,rfl,?_⟩;rw [decide_eq_true rfl];refine GR ?_;obtain ⟨xs',ys,rfl,th1,th2⟩:=Uu th;obtain ⟨va,vb,vc,vd,rfl,ta⟩:∃va vb vc vd,ys=[va,vb,vc,vd]/\Th H3 va a:=by
     cases th2 with
     | cons t1 r1=>
      cases r1 with
      | cons t2 r2=>
       cases r2 with
       | cons t3 r3=>
        cases r3 with
        | cons t4 r4=>
         cases r4;exact ⟨_,_,_,_,rfl,t1⟩
    obtain ⟨c1,c2⟩:=VI xs' va vb vc vd;refine ⟨_,rfl,_,rfl,_,rfl,sl,_,rfl,SqL.of e3,λp1 hp1=>?_⟩;rw [show J6 (xs'++[va,vb,vc,vd]) (some (-4)) none=_ from c1];have s4:Same H3 (upd H3 p1 (.lst [va,vb,vc,vd])):=Same.new hp1;have e4:upd H3 p1 (.lst [va,vb,vc,vd]) p1=some (.lst [va,vb,vc,vd]):=Gb;generalize upd H3 p1 (.lst [va,vb,vc,vd])=H4 at s4 e4 ⊢;dsimp only [JN];have hla:LF a:=hel a (by simp);refine ⟨_,rfl,p1,_,rfl,.inl (SqL.of e4),_,_,rfl,rfl,_,rfl,GR ?_⟩;refine ⟨_,rfl,p1,_,_,_,rfl,rfl,SqL.of e4,Gi (j:=0) rfl,a, "(", ZY (ta.same s4),rfl,hla.can,V0,_,rfl,?_⟩;rw [Zn hna hla];refine GI ?_;subst hR;exact q _ _ (s3.trans s4) .non
  ·rintro σ H3 ⟨sl,xs,S,v2,v3,rfl,s3,hsl,e3,th,hel,hS,run⟩;rw [List.drop_of_length_le (by lia)] at run;cases run;have hxs:=th.len;refine ⟨_,rfl,sl,_,rfl,.inl (SqL.of e3),rfl,_,rfl,?_⟩
   match S,xs,th with
   | [d],[v],.cons t1 .nil=>
    refine GI ?_;exact ⟨_,rfl,sl,_,_,_,rfl,rfl,SqL.of e3,Gi (j:=0) rfl,q _ _ s3 t1⟩
   | [],[],_=>exact GR (q _ _ s3 .non)
   | _::_::S,_::_::xs,_=>
    rw [decide_eq_false (λz=>by have z:=V.int.inj z;rw [List.length_cons,List.length_cons] at z;lia)];exact GR (q _ _ s3 .non)
end
end M
namespace M
open PySem L2
def Wsp (l:List Nat):List (List Nat):=GF 32 [] l
theorem V1 (b:List Nat):∀(a B:List Nat),GF 32 B (a++32::b)=GF 32 B a++GF 32 [] b
 | [],B=>by simp [GF]
 | x::a,B=>by
  show (if x=32 then B::GF 32 [] (a++32::b) else GF 32 (B++[x]) (a++32::b))=(if x=32 then B::GF 32 [] a else GF 32 (B++[x]) a)++GF 32 [] b;by_cases h:x=32
  ·rw [if_pos h,if_pos h,V1 b a [],List.cons_append]
  ·rw [if_neg h,if_neg h,V1 b a (B++[x])]
theorem OP (a b:List Nat):Wsp (a++32::b)=Wsp a++Wsp b:=V1 b a []
theorem V2 {a:List Nat}(h:32 ∉ a):Wsp a=[a]:=by
 unfold Wsp;have:=Jq (c:=32) (ws:=[]) (w:=a) (by simpa using h);simpa using this
theorem Zbw:Wsp []=[[]]:=rfl
theorem UP (x:Str):Txt.split x (" " : Str)=(Wsp x.cps.toList).map mkS:=by
 have key:∀l:List Nat,∃w ws,l=w++ws.flatMap (λv=>32::v)/\(∀v∈w::ws,32 ∉ v):=by
  intro l
  induction l with
  | nil=>exact ⟨[],[],rfl,by simp⟩
  | cons x l ih=>
   obtain ⟨w,ws,e,h⟩:=ih;by_cases hx:x=32
   ·exact ⟨[],w::ws,by rw [e,hx];rfl,λv hv=>(List.mem_cons.mp hv).elim (λz=>by rw [z];simp) (h v)⟩
   ·refine ⟨x::w,ws,by rw [e];rfl,λv hv=>(List.mem_cons.mp hv).elim (λz=>?_) λz=>h v (List.mem_cons_of_mem _ z)⟩;rw [z];intro y;rcases List.mem_cons.mp y with y | y
    ·exact hx y.symm
    ·exact h w (List.mem_cons_self ..) y
 obtain ⟨w,ws,e,h⟩:=key x.cps.toList;have h1:=VT (x:=x) (c:=32) (by decide) e h;have h2:=Jq (c:=32) h;unfold Wsp;rw [e,h2];exact h1
def rep (l:List Nat):List Nat:=OX 41 [32,41,32] (OX 40 [32,40,32] l)
theorem WF (c:Nat)(z a b:List Nat):OX c z (a++b)=OX c z a++OX c z b:=by unfold OX;rw [List.flatMap_append]
theorem Oc (a b:List Nat):rep (a++b)=rep a++rep b:=by unfold rep;rw [WF,WF]
theorem OH {l:List Nat}(h:∀c∈l,c≠40/\c≠41):rep l=l:=by
 unfold rep;rw [Up (λz=>(h _ z).1 rfl),Up (λz=>(h _ z).2 rfl)]
theorem U9:rep [40]=[32,40,32]:=by decide
theorem Uv:rep [41]=[32,41,32]:=by decide
theorem Zbx (l:List Nat):(rep l).length<=16 * l.length:=by
 have r1:=Og 40 [32,40,32] l;have r2:=Og 41 [32,41,32] (OX 40 [32,40,32] l);simp only [List.length_cons,List.length_nil] at r1 r2;unfold rep
 lia
theorem Od:∀w∈allW++sJoin,32 ∉ w.cps.toList/\∀c∈w.cps.toList,c≠40/\c≠41:=by decide +kernel
theorem OY {i:Int}(h:0<=i/\i<=9999):32 ∉ (num i).cps.toList/\∀c∈(num i).cps.toList,c≠40/\c≠41:=by
 have:=(Uq h.1 h.2).2;exact ⟨λz=>by have:=this 32 z;lia,λc hc=>by have:=this c hc;lia⟩
theorem JD (x:Str):mkS x.cps.toList=x:=JC rfl
inductive Dx:PyData->List Nat->List Jr->Prop
 | leaf {w:Str} {ns:List Int}:w∈allW->(∀i∈ns,0<=i/\i<=9999)->Dx (O1 w ns) (w.cps.toList++(ns.map PyData.int).flatMap λd=>32::Wx d) [.leaf w ns]
 | join {w:Str} {a b:PyData} {s t:List Nat} {xs ys:List Jr}:w∈sJoin->Dx a s xs->Dx b t ys->Dx (.tuple [.str w,a,b]) (Jg w s t) (.sign "(" :: (xs++.sign w::(ys++[.sign ")"])))
theorem Zea {d:PyData}{tx:List Nat}(h:Tx d tx):∃its,Dx d tx its:=by
 induction h with
 | @leaf w rest hl=>
  obtain ⟨ns,en,hn,hc⟩:=Jy hl;have eD:O1 w ns=.tuple (.str w::rest):=by
   unfold O1;rcases hc with ⟨h4,er⟩ | ⟨h4,er⟩
   ·rw [if_pos h4,er]
   ·rw [if_neg h4,er]
  have:=Dx.leaf (JF hl) hn;rw [eD] at this;unfold JE;rw [en];exact ⟨_,this⟩
 | join hw _ _ iha ihb=>
  obtain ⟨xs,hx⟩:=iha;obtain ⟨ys,hy⟩:=ihb;exact ⟨_,.join hw hx hy⟩
theorem Zo {ns:List Int}(h:∀i∈ns,0<=i/\i<=9999):rep ((ns.map PyData.int).flatMap λd=>32::Wx d)=(ns.map PyData.int).flatMap λd=>32::Wx d:=by
 apply OH;intro c hc;obtain ⟨d,hd,hc⟩:=List.mem_flatMap.mp hc;obtain ⟨i,hi,rfl⟩:=List.mem_map.mp hd;rcases List.mem_cons.mp hc with rfl | hc
 ·decide
 ·exact (OY (h i hi)).2 c hc
theorem WG {w:List Nat}(hw:32 ∉ w):∀{ns:List Int},(∀i∈ns,0<=i/\i<=9999)->Wsp (w++(ns.map PyData.int).flatMap λd=>32::Wx d)=w::ns.map λi=>(num i).cps.toList:=by
 intro ns h;unfold Wsp;have:=Jq (c:=32) (w:=w) (ws:=ns.map λi=>(num i).cps.toList) (λv hv=>by
  rcases List.mem_cons.mp hv with rfl | hv
  ·exact hw
  ·obtain ⟨i,hi,rfl⟩:=List.mem_map.mp hv;exact (OY (h i hi)).1)
 rw [<-this,List.flatMap_map,List.flatMap_map]
 rfl
theorem Yh {A:List Jr}{R:Option (List Jr)}{w:Str}{ws:List Str}:∀{ns ms:List Int},(∀i∈ns,0<=i/\i<=9999)->Rd (A++[.leaf w (ms++ns)]) ws R->Rd (A++[.leaf w ms]) (ns.map num++ws) R
 | [],ms,_,h=>by rw [List.append_nil] at h;exact h
 | n::ns,ms,hn,h=>by
  refine .num (hn n (List.mem_cons_self ..)) (Yh (λi hi=>hn i (List.mem_cons_of_mem _ hi)) ?_);rw [List.append_assoc];exact h
theorem Zeb {d:PyData}{tx:List Nat}{its:List Jr}(h:Dx d tx its):∀{A:List Jr}{R:Option (List Jr)}{ws:List Str},Rd (A++its) ws R->Rd A ((Wsp (rep tx)).map mkS++ws) R:=by
 induction h with
 | @leaf w ns hw hn=>
  intro A R ws h;obtain ⟨w1,w2⟩:=Od w (List.mem_append_left _ hw);rw [Oc,OH w2,Zo hn,WG w1 hn,List.map_cons,JD,List.map_map];rw [show (mkS∘λi:Int=>(num i).cps.toList)=num from funext λi=>JD _];exact .word hw (Yh (ms:=[]) hn h)
 | @join w a b s t xs ys hw _ _ iha ihb=>
  intro A R ws h;obtain ⟨w1,w2⟩:=Od w (List.mem_append_right _ hw);have e:rep (Jg w s t)=[]++32::([40]++32::(rep s++32::(w.cps.toList++32::(rep t++32::([41]++32::[]))))):=by
   unfold Jg;rw [show (40::(s++32::(w.cps.toList++32::(t++[41]))))=[40]++(s++([32]++(w.cps.toList++([32]++(t++[41]))))) from rfl];rw [Oc,Oc,Oc,Oc,Oc,Oc,U9,Uv,OH w2,OH (l:=[32]) (by decide)];simp
  rw [e,OP,OP,OP,OP,OP,OP,Zbw,V2 (a:=[40]) (by decide),V2 (a:=[41]) (by decide),V2 w1];simp only [List.map_append,List.map_cons,List.map_nil,List.append_assoc,List.cons_append,List.nil_append];rw [JD];show Rd A ("" :: ("(" : Str)::_) R;refine .none (.sign (by decide +kernel) (iha ?_));refine .sign ?_ (ihb ?_)
  ·have:∀w∈sJoin,w∈sSign:=by decide +kernel
   exact this w hw
  ·show Rd _ ((")" : Str) :: "" :: ws) R;refine .sign (by decide +kernel) (.none ?_);simpa using h
theorem ZZ {A:List Jr}{R:Option (List Jr)}{ws:List Str}(h:Rd A ws R):∀{its:List Jr},R=some its->its.length<=A.length+ws.length:=by
 induction h with
 | nil=>intro its e;cases e;simp
 | num _ _ ih=>intro its e;have:=ih e;simp at this ⊢;lia
 | word _ _ ih=>intro its e;have:=ih e;simp at this ⊢;lia
 | sign _ _ ih=>intro its e;have:=ih e;simp at this ⊢;lia
 | none _ ih=>intro its e;have:=ih e;simp at this ⊢;lia
 | numBad _ _=>intro its e;cases e
 | bad _ _ _ _ _=>intro its e;cases e
def ItB (n:Nat):Jr->Prop
 | .leaf w ns=>w∈allW/\ns.length<=n/\∀i∈ns,0<=i/\i<=9999
 | .sign w=>w∈sSign
theorem ItB.mono {m n:Nat}(h:m<=n):∀{t:Jr},ItB m t->ItB n t
 | .leaf _ _,⟨a,b,c⟩=>⟨a,by lia,c⟩
 | .sign _,a=>a
theorem Zc3 {A:List Jr}{R:Option (List Jr)}{ws:List Str}(h:Rd A ws R):∀{k:Nat}{its:List Jr},(∀t∈A,ItB k t)->R=some its->∀t∈its,ItB (k+ws.length) t:=by
 induction h with
 | nil=>intro k its hA e;cases e;exact hA
 | @num A R v ns n ws hn _ ih=>
  intro k its hA e t ht;have:=ih (k:=k+1) (λt ht=>?_) e t ht
  ·rw [List.length_cons];exact this.mono (by lia)
  ·rcases List.mem_append.mp ht with h | h
   ·exact (hA t (List.mem_append_left _ h)).mono (by lia)
   ·rw [List.mem_singleton.mp h];obtain ⟨a,b,c⟩:=hA (.leaf v ns) (by simp);refine ⟨a,by rw [List.length_append,List.length_singleton];lia,λi hi=>?_⟩;rcases List.mem_append.mp hi with h | h
    ·exact c i h
    ·rw [List.mem_singleton.mp h];exact hn
 | word hw _ ih=>
  intro k its hA e t ht;have:=ih (k:=k) (λt ht=>?_) e t ht
  ·rw [List.length_cons];exact this.mono (by lia)
  ·rcases List.mem_append.mp ht with h | h
   ·exact hA t h
   ·rw [List.mem_singleton.mp h];exact ⟨hw,Nat.zero_le _,λi hi=>by cases hi⟩
 | sign hw _ ih=>
  intro k its hA e t ht;have:=ih (k:=k) (λt ht=>?_) e t ht
  ·rw [List.length_cons];exact this.mono (by lia)
  ·rcases List.mem_append.mp ht with h | h
   ·exact hA t h
   ·rw [List.mem_singleton.mp h];exact hw
 | none _ ih=>
  intro k its hA e t ht;rw [List.length_cons];exact (ih hA e t ht).mono (by lia)
 | numBad _ _=>intro k its hA e;cases e
 | bad _ _ _ _ _=>intro k its hA e;cases e
theorem UQ:∀w∈allW++sSign,PyData.strOk w=true:=by decide +kernel
theorem ItB.ok {n:Nat}(h:n<=999):∀{t:Jr},ItB n t->Zc0 t
 | .leaf w ns,⟨a,b,c⟩=>⟨UQ w (List.mem_append_left _ a),⟨by lia,λ_=>by lia⟩,c⟩
 | .sign w,a=>UQ w (List.mem_append_right _ a)
theorem Zc4 {d:PyData}{tx:List Nat}{its:List Jr}(h:Dx d tx its):∀{S:List PyData}{R:Option (List PyData)}{ts:List Jr},Run (S++[d]) ts R->Run S (its++ts) R:=by
 induction h with
 | leaf hw hn=>
  intro S R ts h;exact .leaf h
 | @join w a b s t xs ys hw _ _ iha ihb=>
  intro S R ts h;show Run S (.sign "(" :: ((xs++.sign w::(ys++[.sign ")"]))++ts)) R;refine .sign (by decide +kernel) ?_;rw [List.append_assoc xs];refine iha ?_;show Run _ (.sign w::((ys++[.sign ")"])++ts)) R;refine .sign ?_ ?_
  ·have:∀w∈sJoin,w ≠ ")" := by decide +kernel
   exact this w hw
  rw [List.append_assoc ys];refine ihb ?_;have e:S++[.str "("]++[a]++[.str w]++[b]=S++[.str "(", a,.str w,b]:=by simp
  rw [e];exact .close h
theorem Zec {d:PyData}{tx:List Nat}{its:List Jr}(h:Dx d tx its):its≠[]:=by
 cases h <;> simp
theorem Z0 {l v:List Nat}(h:v∈Wsp l):∀c∈v,c∈l:=by
 have:∀(l B:List Nat),∀v∈GF 32 B l,∀c∈v,c∈B++l:=by
  intro l
  induction l with
  | nil=>intro B v hv c hc;rw [show GF 32 B []=[B] from rfl,List.mem_singleton] at hv;subst hv;simpa using hc
  | cons x l ih=>
   intro B v hv c hc;unfold GF at hv;split at hv
   ·rcases List.mem_cons.mp hv with rfl | hv
    ·exact List.mem_append_left _ hc
    ·have:=ih [] v hv c hc;exact List.mem_append_right _ (List.mem_cons_of_mem _ (by simpa using this))
   ·have:=ih (B++[x]) v hv c hc;simpa using this
 exact λc hc=>by simpa using this l [] v h c hc
theorem Z1 {l v:List Nat}(h:v∈Wsp l):v.length<=l.length:=by
 have:∀(l B:List Nat),∀v∈GF 32 B l,v.length<=B.length+l.length:=by
  intro l
  induction l with
  | nil=>intro B v hv;rw [show GF 32 B []=[B] from rfl,List.mem_singleton] at hv;subst hv;simp
  | cons x l ih=>
   intro B v hv;unfold GF at hv;split at hv
   ·rcases List.mem_cons.mp hv with rfl | hv
    ·lia
    ·have:=ih [] v hv;simp at this ⊢;lia
   ·have:=ih (B++[x]) v hv;simp at this ⊢;lia
 simpa using this l [] v h
def cst (l:List Nat):Nat:=l.count 32+2 * (l.count 40+l.count 41)
theorem G8 (a b:List Nat):cst (a++b)=cst a+cst b:=by unfold cst;simp only [List.count_append];lia
theorem OI (c:Nat)(l:List Nat):cst (c::l)=cst [c]+cst l:=G8 [c] l
theorem VJ (l:List Nat):(Wsp l).length=l.count 32+1:=by
 have:∀(l B:List Nat),(GF 32 B l).length=l.count 32+1:=by
  intro l
  induction l with
  | nil=>intro B;rfl
  | cons x l ih=>
   intro B;unfold GF;by_cases h:x=32
   ·rw [if_pos h,List.length_cons,ih,h,List.count_cons_self]
   ·rw [if_neg h,ih,List.count_cons_of_ne (by simpa using h)]
 exact this l []
theorem WH (x:Nat)(l:List Nat):rep (x::l)=rep [x]++rep l:=Oc [x] l
theorem Yi (x:Nat):rep [x]=if x=40 then [32,40,32] else if x=41 then [32,41,32] else [x]:=by
 by_cases h:x=40
 ·subst h;exact U9
 ·by_cases h2:x=41
  ·subst h2;exact Uv
  ·rw [if_neg h,if_neg h2];exact OH λc hc=>by rw [List.mem_singleton.mp hc];exact ⟨h,h2⟩
theorem Yj (l:List Nat):(rep l).count 32=cst l:=by
 induction l with
 | nil=>rfl
 | cons x l ih=>
  rw [WH,List.count_append,ih,OI]
  congr 1
  rw [Yi];by_cases h:x=40
  ·subst h;rfl
  ·by_cases h2:x=41
   ·subst h2;rfl
   ·rw [if_neg h,if_neg h2];unfold cst;rw [List.count_singleton (a:=40),List.count_singleton (a:=41)];simp [h,h2]
theorem Zc5 {l:List Nat}{c:Nat}(hc:c∈rep l):c∈l\/c=32:=by
 induction l with
 | nil=>cases hc
 | cons x l ih=>
  rw [WH] at hc;rcases List.mem_append.mp hc with h | h
  ·by_cases h1:x=40
   ·subst h1;rw [U9] at h;have:c=32\/c=40:=by simp at h;lia
    exact this.elim .inr λz=>.inl (z▸List.mem_cons_self ..)
   ·by_cases h2:x=41
    ·subst h2;rw [Uv] at h;have:c=32\/c=41:=by simp at h;lia
     exact this.elim .inr λz=>.inl (z▸List.mem_cons_self ..)
    ·rw [Yi,if_neg h1,if_neg h2] at h;rw [List.mem_singleton.mp h];exact .inl (List.mem_cons_self ..)
  ·rcases ih h with h | h
   ·exact .inl (List.mem_cons_of_mem _ h)
   ·exact .inr h
def Txy (x:List Nat):Prop:=(∀c∈x,c<128)/\x.length<=50000/\cst x<=980
theorem V3 {x:List Nat}(h:Txy x):∀u∈(Wsp (rep x)).map mkS,Ut u:=λu hu=>by
 obtain ⟨v,hv,rfl⟩:=List.mem_map.mp hu;refine Ua (λc hc=>?_) ?_
 ·rcases Zc5 (Z0 hv c hc) with h1 | h1
  ·exact h.1 c h1
  ·lia
 ·have h1:=Z1 hv;have h2:=Zbx x;have h3:=h.2.1;show v.length<=_
  lia
theorem Yk {x:List Nat}(h:Txy x):((Wsp (rep x)).map mkS).length<=981:=by
 rw [List.length_map,VJ,Yj];have:=h.2.2
 lia
end M
namespace M
open PySem L2
inductive Pn (H0 H:Hp):List V->List (PyData×Nat)->Prop
 | nil:Pn H0 H [] []
 | snoc {xs:List V} {ps:List (PyData×Nat)} {t:Addr} {v:V} {d:PyData} {k:Nat}:Pn H0 H xs ps->H t=some (.tup [v,.int (k:Int)])->Th H0 v d->Pn H0 H (xs++[.ref t]) (ps++[(d,k)])
theorem Pn.keep {H0 H H':Hp}(k:∀t ys,H t=some (.tup ys)->H' t=some (.tup ys)){xs:List V}{ps:List (PyData×Nat)}(h:Pn H0 H xs ps):Pn H0 H' xs ps:=by
 induction h with
 | nil=>exact .nil
 | snoc _ e t ih=>exact .snoc ih (k _ _ e) t
theorem Pn.same {H0 H H':Hp}(s:Same H H'){xs:List V}{ps:List (PyData×Nat)}(h:Pn H0 H xs ps):Pn H0 H' xs ps:=h.keep λt ys e=>s _ _ e
theorem Pn.len {H0 H:Hp}{xs:List V}{ps:List (PyData×Nat)}(h:Pn H0 H xs ps):xs.length=ps.length:=by
 induction h with
 | nil=>rfl
 | snoc _ _ _ ih=>rw [List.length_append,List.length_append,ih];rfl
def ms (ps:List (PyData×Nat)):Nat:=(ps.map λp=>3 ^ (10-p.2)).sum
theorem OQ (ps:List (PyData×Nat))(p:PyData×Nat):ms (ps++[p])=ms ps+3 ^ (10-p.2):=by
 unfold ms;rw [List.map_append,List.sum_append];simp
theorem Z2 (ps:List (PyData×Nat)):ps.length<=ms ps:=by
 unfold ms
 induction ps with
 | nil=>simp
 | cons p ps ih=>
  rw [List.map_cons,List.sum_cons,List.length_cons];have:1<=3 ^ (10-p.2):=Nat.one_le_pow _ _ (by decide)
  lia
theorem Pn.app {H0 H:Hp}{xs ys:List V}{ps qs:List (PyData×Nat)}(h:Pn H0 H xs ps)(k:Pn H0 H ys qs):Pn H0 H (xs++ys) (ps++qs):=by
 induction k with
 | nil=>rw [List.append_nil,List.append_nil];exact h
 | snoc _ e t ih=>rw [<-List.append_assoc,<-List.append_assoc];exact .snoc ih e t
section
variable {P:Program}{w:World}{K:W.Frag}{mg:Str->Option Value}{base:Heap}
def Zc6:Sp:=λvs H Q _=>∃(v:V)(d:PyData),vs=[v]/\Th H v d/\∀H',Same H H'->Q (.bl (Jo 8 d)) H'
theorem scWis:Gz ["thing", "pending", "part", "depth"] ["thing"] (Gh Za3):=⟨rfl,rfl,rfl,by decide +kernel,rfl,by decide +kernel,by decide +kernel⟩
theorem Zc7 {f fS fE aJ aB aP aR aL:Addr}{fd fdS fdE:FuncData}{tG tD:Tok}(F:Fun K "is_wish" "is_wish" Za3 f fd)(FS:Fun K "is_small" "is_small" ZR fS fdS)(bS:Binds K fdS ["thing"] [])(mS:mg "is_small" = some (.ref fS))(FE:Fun K "is_leaf" "is_leaf" Za2 fE fdE)(bE:Binds K fdE ["word", "rest"] [])(mE:mg "is_leaf" = some (.ref fE))(k:ZbW K)(T:Wds K aJ aB aP aR aL)(mJoi:mg "JOINING" = some (.ref aJ))(mBar:mg "BARE" = some (.ref aB))(mPai:mg "PAIRED" = some (.ref aP))(mOfR:mg "OF_ROADS" = some (.ref aR))(mOfP:mg "OF_PLACES" = some (.ref aL))(mGre:mg "GREATEST" = some (.int 9999 tG))(mDee:mg "DEEPEST" = some (.int 8 tD))(mIsi:mg "isinstance" = none)(mInt:mg "int" = none)(mBool:mg "bool" = none)(mTup:mg "tuple" = none)(mStr:mg "str" = none)(mLen:mg "len" = none)(mAll:mg "all" = none):Jl P w K mg base CX0 3 f fd ["thing"] Zc6:=by
 have GE:Jl P w K mg base CX0 2 fE fdE ["word", "rest"] ZcC:=ZcD FE FS bS mS k T mBar mPai mOfR mOfP mGre mIsi mInt mBool mTup mLen mAll;refine F.ok scWis (λvs H Q E h=>?_) (λcdv A outer s H vs Q E hr h=>?_)
 ·obtain ⟨_,_,rfl,_⟩:=h
  rfl
 ·obtain ⟨v0,d0,rfl,h0,q⟩:=h;have h16:(16777216:Nat)=sizeLine:=sizeLine_eq.symm;refine ⟨_,Ge (Gs (i:=1) scWis.nd rfl (Or.inl rfl) (GO (Ga (Je (Ga (pv 0) (Ga Gc Gd))) Gd)))
    (Ge (Wa PassesOwn.never (Oz (pv 1) (λ_=>rfl))
    (Ge (ZG (Wg PySem.F.plainAttrs_list PySem.F.slot_list_pop PySem.F.type_list_pop Wi (pv 1)) (ZeC K (n:=2) rfl (O3 (GV (i:=2) scWis.nd rfl (Or.inl rfl)) (O3 (GV (i:=3) scWis.nd rfl (Or.inr rfl)) Xm))))
    (Ge (GT (PW.pt (JS (Gj Xv (pv 3) (Uf (v:=.int 8) rfl mDee ⟨_,rfl⟩) (Gq _)) (JS (J4 (JI (Gm (UA K) rfl mIsi GP (Ga (pv 2) (Ga (Ju mTup Ji) Gd))))) (JS (J4 (Oz (pv 2) (λ_=>rfl))) (JO (J4 (JI (Gm (UA K) rfl mIsi GP (Ga (Gp (OW K) (pv 2) Gc (λ_ _=>rfl)) (Ga (Ju mStr Oh) Gd)))))))))) (Gf (Go OZ)) Gr)
    (Gf (GT (PW.pt (Oy (Gj (kIn K) (Gp (OW K) (pv 2) Gc (λ_ _=>rfl)) (Jt mJoi) (by with_unfolding_all rfl)) (JY (Gj Jj (Gm (VS K) rfl mLen PySem.boot_len (Ga (pv 2) Gd)) Gc (Gq _))))) (Gf (JJ (Op PySem.F.plainAttrs_list PySem.F.slot_list_extend PySem.F.type_list_extend XF (pv 1) (Ga (OJ (own:=["within"]) rfl (JA (fr:=[("depth", 3)]) [(".0", .local),("within", .local),("depth", .cell)] rfl rfl (by decide +kernel) rfl (by decide +kernel) ⟨rfl,trivial⟩ ⟨λh=>UB h,λh=>UB h,λ_=>⟨_,rfl⟩,trivial⟩ ⟨⟨rfl,.inl rfl,.inl rfl⟩,trivial⟩) (YT K (Gx (ZbS K) (pv 2) (Gw Gc) GX)) (λ_ _ _ _=>GV (i:=0) (show List.Nodup (["within", "depth"]:List Str) by decide +kernel) rfl (Or.inl rfl)) (λ_ _ _ _=>JZ) (λ_ _ _ _=>Je (Ga (pv 0) (Ga (Gn Jd (pv 1) Gc) Gd)))) Gd)))) (Gf (GT (J4 (JI (GH GE (hr.mono (by decide)) rfl mE FE.kp bE .nil Jh (Ga (Gp (OW K) (pv 2) Gc (λ_ _=>rfl)) (Ga (Gx (ZbS K) (pv 2) (Gw Gc) GX) Gd))))) (Gf (Go OZ)) Gr)))))))
    (Gf (Go OZ))),?_⟩
  refine ⟨_,rfl,JK,λt0 ht0=>?_⟩;have s1:Same H (upd H t0 (.tup [v0,.int 1])):=Same.new ht0;have et0:upd H t0 (.tup [v0,.int 1]) t0=some (.tup [v0,.int ((1:Nat):Int)]):=Gb;generalize upd H t0 (.tup [v0,.int 1])=H1 at s1 et0 ⊢;refine ⟨(by show 1<=sizeLine;lia),λpl hpl=>?_⟩;have s2:Same H1 (upd H1 pl (.lst [.ref t0])):=Same.new hpl;have epl0:upd H1 pl (.lst [.ref t0]) pl=some (.lst [.ref t0]):=Gb;have hHpl:H pl=none:=s1.free hpl;generalize upd H1 pl (.lst [.ref t0])=H2 at s2 epl0 ⊢;have no:∀H',Same H H'->¬ Jo 8 d0=true->Q (.bl false) H':=λH' s h=>by
   have:=q H' s;rw [Bool.eq_false_iff.mpr h] at this;exact this
  refine ⟨λm σ' H'=>∃(xs:List V)(ps:List (PyData×Nat))(v2 v3:Option V),σ'=[some v0,some (.ref pl),v2,v3]/\Same H H'/\H' pl=some (.lst xs)/\Pn H H' xs ps/\(Jo 8 d0=true↔∀p∈ps,Jo (9-p.2) p.1=true)/\(∀p∈ps,1<=p.2/\p.2<=9)/\ms ps<=19683/\m=ms ps,
   ⟨_,[.ref t0],[(d0,1)],none,none,rfl,s1.trans s2,epl0,Pn.snoc (xs:=[]) (ps:=[]) .nil (s2 _ _ et0) h0,⟨λh p hp=>by rw [List.mem_singleton] at hp;rw [hp];exact h,λh=>h (d0,1) (List.mem_singleton.mpr rfl)⟩,λp hp=>by rw [List.mem_singleton] at hp;rw [hp];exact ⟨Nat.le_refl _,(by show 1<=9;decide)⟩,(by show (3 ^ 9+0:Nat)<=19683;decide),rfl⟩,?_⟩
  clear s1 s2 et0 epl0 hpl ht0;rintro m σ' H3 ⟨xs,ps,v2,v3,rfl,s3,epl,pn,hw,hk,hms,rfl⟩;cases pn with
  | nil=>
   refine ⟨_,rfl,false,.inl ⟨_,SqL.of epl,rfl⟩,GR ?_⟩;have:=q H3 s3;rw [hw.mpr (λp hp=>(by cases hp))] at this;exact this
  | @snoc xs ps t v d kk pn et th=>
   refine ⟨_,rfl,true,.inl ⟨_,SqL.of epl,by cases xs <;> rfl⟩,GI ?_⟩;refine ⟨_,λ_ _ h=>h,?_⟩;have qJ:=Z2 (ps++[(d,kk)]);have hxl:=pn.len;rw [List.length_append,List.length_singleton] at qJ;obtain ⟨hk1,hk9⟩:=hk (d,kk) (List.mem_append_right _ (List.mem_singleton.mpr rfl));rw [OQ] at hms;have hmsp:ms ps<=19683:=Nat.le_trans (Nat.le_add_right _ _) hms;have hlps:=Z2 ps;have hlast:(xs++[V.ref t])[(xs++[V.ref t]).length-1]?=some (.ref t):=by
    rw [List.length_append,List.length_singleton,Nat.add_sub_cancel,List.getElem?_append_right (Nat.le_refl _),Nat.sub_self]
    rfl
   refine ⟨_,rfl,.inl ⟨rfl,_,SqL.of epl⟩,pl,_,_,rfl,rfl,epl,hlast,?_⟩;rw [List.dropLast_concat];have k4:=O6 (o:=.lst xs) epl;have s4:Same H (upd H3 pl (.lst xs)):=s3.put hHpl;have epl4:upd H3 pl (.lst xs) pl=some (.lst xs):=Gb;have et4:=k4 _ _ et;have pn4:=pn.keep k4;generalize upd H3 pl (.lst xs)=H4 at k4 s4 epl4 et4 pn4 ⊢;refine ⟨t,_,rfl,SqT.of et4,rfl,_,_,rfl,_,_,rfl,rfl,?_⟩;have bad:Jo (9-kk) d=false->¬ Jo 8 d0=true:=λh z=>by
    have:=hw.mp z (d,kk) (List.mem_append_right _ (List.mem_singleton.mpr rfl));rw [h] at this;cases this
   refine ⟨_,rfl,_,_,rfl,rfl,_,rfl,Ox (λc1=>?_) (λc1=>?_)⟩
   ·have c1:(8:Int)<(kk:Int):=of_decide_eq_true c1;refine GI (no _ s4 (bad ?_));have:9-kk=0:=by lia
    rw [this]
    rfl
   have c1:¬ (8:Int)<(kk:Int):=λz=>c1 (decide_eq_true z);obtain ⟨n,hn⟩:∃n,9-kk=n+1:=⟨8-kk,by lia⟩;rw [hn] at bad;cases th with
   | non=>exact ⟨_,rfl,_,_,false,rfl,⟨_,rfl,GI (GI (no _ s4 (bad rfl)))⟩,.inl ⟨_,.non,rfl,k.nt⟩⟩
   | bl b=>exact ⟨_,rfl,_,_,false,rfl,⟨_,rfl,GI (GI (no _ s4 (bad rfl)))⟩,.inl ⟨_,.bl _,rfl,k.bt⟩⟩
   | int i=>exact ⟨_,rfl,_,_,false,rfl,⟨_,rfl,GI (GI (no _ s4 (bad rfl)))⟩,.inl ⟨_,.int _,rfl,k.it⟩⟩
   | str x=>exact ⟨_,rfl,_,_,false,rfl,⟨_,rfl,GI (GI (no _ s4 (bad rfl)))⟩,.inl ⟨_,.str _,rfl,k.st⟩⟩
   | lst e z hh=>exact ⟨_,rfl,_,_,false,rfl,⟨_,rfl,GI (GI (no _ s4 (bad rfl)))⟩,.inl ⟨_,.lst (s4 _ _ e),rfl,k.lt⟩⟩
   | @tup a xs1 ds e z hh=>
    refine ⟨_,rfl,_,_,true,rfl,⟨_,rfl,GR ?_⟩,.inl ⟨_,.tup (s4 _ _ e),rfl,Jc⟩⟩;have e4:=s4 _ _ e;cases hh with
    | nil=>
     refine ⟨_,rfl,false,.inr (.inl ⟨_,SqT.of e4,rfl⟩),GI (GI (no _ s4 (bad rfl)))⟩
    | @cons x1 dx vs1 rest tx hr1=>
     refine ⟨_,rfl,true,.inr (.inl ⟨_,SqT.of e4,rfl⟩),GR ?_⟩;cases tx with
     | non=>exact ⟨_,rfl,a,_,_,_,rfl,rfl,SqT.of e4,Gi (j:=0) rfl,_,_,false,rfl,⟨_,rfl,GI (no _ s4 (bad rfl))⟩,.inl ⟨_,.non,rfl,k.ns⟩⟩
     | bl b=>exact ⟨_,rfl,a,_,_,_,rfl,rfl,SqT.of e4,Gi (j:=0) rfl,_,_,false,rfl,⟨_,rfl,GI (no _ s4 (bad rfl))⟩,.inl ⟨_,.bl _,rfl,k.bs⟩⟩
     | int i=>exact ⟨_,rfl,a,_,_,_,rfl,rfl,SqT.of e4,Gi (j:=0) rfl,_,_,false,rfl,⟨_,rfl,GI (no _ s4 (bad rfl))⟩,.inl ⟨_,.int _,rfl,k.is⟩⟩
     | lst e' z' h'=>exact ⟨_,rfl,a,_,_,_,rfl,rfl,SqT.of e4,Gi (j:=0) rfl,_,_,false,rfl,⟨_,rfl,GI (no _ s4 (bad rfl))⟩,.inl ⟨_,.lst (s4 _ _ e'),rfl,k.ls⟩⟩
     | tup e' z' h'=>exact ⟨_,rfl,a,_,_,_,rfl,rfl,SqT.of e4,Gi (j:=0) rfl,_,_,false,rfl,⟨_,rfl,GI (no _ s4 (bad rfl))⟩,.inl ⟨_,.tup (s4 _ _ e'),rfl,k.ts⟩⟩
     | str wd=>
      refine ⟨_,rfl,a,_,_,_,rfl,rfl,SqT.of e4,Gi (j:=0) rfl,_,_,true,rfl,⟨_,rfl,GR ?_⟩,.inl ⟨_,.str _,rfl,Jc⟩⟩;have hvl:=hr1.len;rw [List.length_cons] at z;refine ⟨_,rfl,a,_,_,_,rfl,rfl,SqT.of e4,Gi (j:=0) rfl,aJ,_,rfl,.inr (T.j _),rfl,rfl,_,rfl,?_⟩;show if (inV (.str wd) (sJoin.map V.str))=true then _ else _
      rw [GQ];by_cases c2:wd∈sJoin
      ·rw [decide_eq_true c2];refine GI ?_;refine ⟨_,rfl,a,_,rfl,.inr (SqT.of e4),rfl,_,rfl,?_⟩;by_cases c3:rest.length=2
       ·rw [decide_eq_true (show V.int ((V.str wd::vs1).length:Int)=V.int 3 by rw [List.length_cons,hvl,c3];rfl)];refine GI ?_;obtain ⟨va,vb,da,db,ta,tb,rfl,rfl⟩:∃va vb da db,∃(ta:Th H va da)(tb:Th H vb db),vs1=[va,vb]/\rest=[da,db]:=by
         cases hr1 with
         | nil=>exact absurd c3 (by decide)
         | cons ta hr2=>
          cases hr2 with
          | nil=>exact absurd c3 (by simp)
          | cons tb hr3=>
           cases hr3 with
           | nil=>exact ⟨_,_,_,_,ta,tb,rfl,rfl⟩
           | cons _ _=>exact absurd c3 (by simp)
        refine ⟨_,rfl,.inl ⟨rfl,_,SqL.of epl4⟩,_,rfl,_,rfl,a,_,rfl,SqT.of e4,(λz=>by have:=z.1;simp [HT.sIx] at this),λp5 hp5=>?_⟩;have s5:Same H4 (upd H4 p5 (.tup (J6 [V.str wd,va,vb] (some 1) none))):=Same.new hp5;have e5:upd H4 p5 (.tup (J6 [V.str wd,va,vb] (some 1) none)) p5=some (.tup [va,vb]):=Gb;generalize upd H4 p5 (.tup (J6 [V.str wd,va,vb] (some 1) none))=H5 at s5 e5 ⊢;refine ⟨p5,rfl,⟨_,SqT.of e5⟩,λD hD=>?_⟩;refine U1 (K:=K) (a:=p5) (xs:=[va,vb]) (λi vs H'=>Same H5 H'/\H' D=some (.lst vs)/\Pn H H' vs (([(da,kk+1),(db,kk+1)]:List (PyData×Nat)).take i)) ⟨Same.new hD,Gb,.nil⟩ (λi vs H' _ ⟨s6,_⟩=>SqT.of (s6 _ _ e5)) ?_ ?_
        ·rintro i x vs H6 hx ⟨s6,eD,pq⟩;have hvs:=pq.len;have hvs2:vs.length<=2:=by rw [hvs,List.length_take];exact Nat.min_le_right _ _
         refine ⟨⟨rfl,trivial⟩,?_⟩;unfold ZL;refine GI ?_;refine ⟨_,rfl,_,rfl,_,_,rfl,rfl,JK,λT7 hT7=>?_⟩;have s7:Same H6 (upd H6 T7 (.tup [x,.int ((kk:Int)+1)])):=Same.new hT7;have e7:upd H6 T7 (.tup [x,.int ((kk:Int)+1)]) T7=some (.tup [x,.int (((kk+1:Nat)):Int)]):=Gb;have k8:=O6 (o:=.lst (vs++[.ref T7])) (s7 _ _ eD);refine ⟨s7 _ _ eD,by lia,(s6.trans s7).put hD,Gb,?_⟩
         match i,hx with
         | 0,hx=>
          simp at hx;subst hx;exact ((pq.same s7).keep k8).snoc (k8 _ _ e7) ta
         | 1,hx=>
          simp at hx;subst hx;exact ((pq.same s7).keep k8).snoc (k8 _ _ e7) tb
        ·rintro vs H6 ⟨s6,eD,pq⟩;have pq:Pn H H6 vs [(da,kk+1),(db,kk+1)]:=pq;have hvs:=pq.len;have S6:=s5.trans s6;refine ⟨pl,D,xs,vs,rfl,rfl,S6 _ _ epl4,eD,by rw [hvs];show xs.length+2<=sizeLine;lia,?_⟩;have k7:=O6 (o:=.lst (xs++vs)) (S6 _ _ epl4);have hp3:3 ^ (10-kk)=3 * 3 ^ (10-(kk+1)):=by rw [show 10-kk=(10-(kk+1))+1 by lia,Nat.pow_succ,Nat.mul_comm]
         have hp1:1<=3 ^ (10-(kk+1)):=Nat.one_le_pow _ _ (by decide);have hm2:ms (ps++[(da,kk+1),(db,kk+1)])=ms ps+3 ^ (10-(kk+1))+3 ^ (10-(kk+1)):=by
          rw [show ps++[(da,kk+1),(db,kk+1)]=(ps++[(da,kk+1)])++[(db,kk+1)] by rw [List.append_assoc];rfl,OQ,OQ]
         refine ⟨ms (ps++[(da,kk+1),(db,kk+1)]),by rw [hm2,OQ];show _<ms ps+3 ^ (10-kk);lia,xs++vs,ps++[(da,kk+1),(db,kk+1)],_,_,rfl,(s4.trans S6).put hHpl,Gb,((pn4.same S6).keep k7).app (pq.keep k7),hw.trans ?_,λp hp=>?_,by rw [hm2];have hms:ms ps+3 ^ (10-kk)<=19683:=hms;lia,rfl⟩
         ·have hnn:9-(kk+1)=n:=by lia
          have hj:Jo (n+1) (.tuple [.str wd,da,db])=(Jo n da && Jo n db):=OL c2 n;constructor
          ·intro h p hp;have h1:=h (.tuple [.str wd,da,db],kk) (List.mem_append_right _ (List.mem_singleton.mpr rfl));have h1:Jo (9-kk) (.tuple [.str wd,da,db])=true:=h1;rw [hn,hj,Bool.and_eq_true] at h1;rcases List.mem_append.mp hp with y | y
           ·exact h p (List.mem_append_left _ y)
           ·rcases List.mem_cons.mp y with y | y
            ·rw [y];show Jo (9-(kk+1)) da=true;rw [hnn];exact h1.1
            ·rw [List.mem_singleton] at y;rw [y];show Jo (9-(kk+1)) db=true;rw [hnn];exact h1.2
          ·intro h p hp;rcases List.mem_append.mp hp with y | y
           ·exact h p (List.mem_append_left _ y)
           ·rw [List.mem_singleton] at y;rw [y];show Jo (9-kk) (.tuple [.str wd,da,db])=true;rw [hn,hj,Bool.and_eq_true];have g1:Jo (9-(kk+1)) da=true:=h (da,kk+1) (List.mem_append_right _ List.mem_cons_self);have g2:Jo (9-(kk+1)) db=true:=h (db,kk+1) (List.mem_append_right _ (List.mem_cons_of_mem _ (List.mem_singleton.mpr rfl)));rw [hnn] at g1 g2;exact ⟨g1,g2⟩
         ·rcases List.mem_append.mp hp with y | y
          ·exact hk p (List.mem_append_left _ y)
          ·rcases List.mem_cons.mp y with y | y
           ·rw [y];exact ⟨by show 1<=kk+1;lia,by show kk+1<=9;lia⟩
           ·rw [List.mem_singleton] at y;rw [y];exact ⟨by show 1<=kk+1;lia,by show kk+1<=9;lia⟩
       ·rw [decide_eq_false (λy=>c3 (by have:=V.int.inj y;rw [List.length_cons] at this;lia))];refine GR ?_;have cj:¬ (wd∈sJoin/\rest.length=2):=λy=>c3 y.2;have hnj:Jo (n+1) (.tuple (.str wd::rest))=Ja wd rest:=by rw [Jo,if_neg cj]
        refine ⟨_,rfl,a,_,_,_,rfl,rfl,SqT.of e4,Gi (j:=0) rfl,_,rfl,_,rfl,a,_,rfl,SqT.of e4,(λz=>by have:=z.1;simp [HT.sIx] at this),λp5 hp5=>?_⟩;rw [show J6 (V.str wd::vs1) (some 1) none=vs1 from J1 (k:=1)];have s5:Same H4 (upd H4 p5 (.tup vs1)):=Same.new hp5;have e5:upd H4 p5 (.tup vs1) p5=some (.tup vs1):=Gb;generalize upd H4 p5 (.tup vs1)=H5 at s5 e5 ⊢;refine ⟨wd,p5,vs1,rest,rfl,e5,by lia,hr1.same (s4.trans s5),λH6 s6=>⟨_,rfl,?_⟩⟩;by_cases cl:Ja wd rest=true
        ·rw [cl];refine GR ?_;have S6:=s5.trans s6;refine ⟨ms ps,by rw [OQ];have:1<=3 ^ (10-kk):=Nat.one_le_pow _ _ (by decide);show ms ps<ms ps+3 ^ (10-kk);lia,xs,ps,_,_,rfl,s4.trans S6,S6 _ _ epl4,pn4.same S6,hw.trans ⟨λh p hp=>h p (List.mem_append_left _ hp),λh p hp=>?_⟩,λp hp=>hk p (List.mem_append_left _ hp),by lia,rfl⟩;rcases List.mem_append.mp hp with y | y
         ·exact h p y
         ·rw [List.mem_singleton] at y;rw [y];show Jo (9-kk) _=true;rw [hn,hnj];exact cl
        ·rw [Bool.eq_false_iff.mpr cl];exact GI (no _ ((s4.trans s5).trans s6) (bad (by rw [hnj];exact Bool.eq_false_iff.mpr cl)))
      ·rw [decide_eq_false c2];refine GR (GR ?_);have cj:¬ (wd∈sJoin/\rest.length=2):=λy=>c2 y.1;have hnj:Jo (n+1) (.tuple (.str wd::rest))=Ja wd rest:=by rw [Jo,if_neg cj]
       refine ⟨_,rfl,a,_,_,_,rfl,rfl,SqT.of e4,Gi (j:=0) rfl,_,rfl,_,rfl,a,_,rfl,SqT.of e4,(λz=>by have:=z.1;simp [HT.sIx] at this),λp5 hp5=>?_⟩;rw [show J6 (V.str wd::vs1) (some 1) none=vs1 from J1 (k:=1)];have s5:Same H4 (upd H4 p5 (.tup vs1)):=Same.new hp5;have e5:upd H4 p5 (.tup vs1) p5=some (.tup vs1):=Gb;generalize upd H4 p5 (.tup vs1)=H5 at s5 e5 ⊢;refine ⟨wd,p5,vs1,rest,rfl,e5,by lia,hr1.same (s4.trans s5),λH6 s6=>⟨_,rfl,?_⟩⟩;by_cases cl:Ja wd rest=true
       ·rw [cl];refine GR ?_;have S6:=s5.trans s6;refine ⟨ms ps,by rw [OQ];have:1<=3 ^ (10-kk):=Nat.one_le_pow _ _ (by decide);show ms ps<ms ps+3 ^ (10-kk);lia,xs,ps,_,_,rfl,s4.trans S6,S6 _ _ epl4,pn4.same S6,hw.trans ⟨λh p hp=>h p (List.mem_append_left _ hp),λh p hp=>?_⟩,λp hp=>hk p (List.mem_append_left _ hp),by lia,rfl⟩;rcases List.mem_append.mp hp with y | y
        ·exact h p y
        ·rw [List.mem_singleton] at y;rw [y];show Jo (9-kk) _=true;rw [hn,hnj];exact cl
       ·rw [Bool.eq_false_iff.mpr cl];exact GI (no _ ((s4.trans s5).trans s6) (bad (by rw [hnj];exact Bool.eq_false_iff.mpr cl)))
end
end M
namespace M
open PySem L2
def Wr (n:Nat)(x:List Nat)(d:PyData):Prop:=∃m,m<=n/\Ws d m/\Tx d x
theorem V4 {x:List Nat}{d:PyData}:¬ Wr 0 x d:=λ⟨m,h,w,_⟩=>by have:=w.pos;lia
theorem Zby {n:Nat}{w:Str}{rest:List PyData}(h:Ja w rest=true):Wr (n+1) (JE w rest) (.tuple (.str w::rest)):=⟨1,by lia,.leaf h,.leaf h⟩
theorem Zbz {n:Nat}{w:Str}{a b:PyData}{s t:List Nat}(hw:w∈sJoin):Wr n s a->Wr n t b->Wr (n+1) (Jg w s t) (.tuple [.str w,a,b])
 | ⟨m,h,wa,ta⟩,⟨k,i,wb,tb⟩=>⟨max m k+1,by lia,.join hw wa wb,.join hw ta tb⟩
theorem WI {n:Nat}{x:List Nat}{d:PyData}(h:Wr (n+1) x d):(∃w rest,Ja w rest=true/\d=.tuple (.str w::rest)/\x=JE w rest)\/∃w a b s t,w∈sJoin/\d=.tuple [.str w,a,b]/\x=Jg w s t/\Wr n s a/\Wr n t b:=by
 obtain ⟨m,hm,w,t⟩:=h;cases w with
 | leaf hl=>
  cases t with
  | leaf _=>exact .inl ⟨_,_,hl,rfl,rfl⟩
  | join hw _ _=>exact absurd hw (G0 hl)
 | join hw wa wb=>
  cases t with
  | leaf hl=>exact absurd hw (G0 hl)
  | join _ ta tb=>exact .inr ⟨_,_,_,_,_,hw,rfl,rfl,⟨_,by lia,wa,ta⟩,⟨_,by lia,wb,tb⟩⟩
theorem Va:∀{n:Nat}{d:PyData},Jo n d=true->∃m,m<=n/\Ws d m
 | 0,_,h=>by cases h
 | n+1,.tuple (.str w::rest),h=>by
  by_cases hj:w∈sJoin/\rest.length=2
  ·obtain ⟨hw,h2⟩:=hj
   match rest,h2 with
   | [a,b],_=>
    rw [OL hw,Bool.and_eq_true] at h;obtain ⟨m,hm,wa⟩:=Va h.1;obtain ⟨k,hk,wb⟩:=Va h.2;exact ⟨_,by lia,.join hw wa wb⟩
  ·rw [Jo,if_neg hj] at h;exact ⟨1,by lia,.leaf h⟩
 | n+1,.tuple [],h=>by cases h
 | n+1,.tuple (.none::_),h=>by cases h
 | n+1,.tuple (.int _::_),h=>by cases h
 | n+1,.tuple (.tuple _::_),h=>by cases h
 | n+1,.none,h=>by cases h
 | n+1,.int _,h=>by cases h
 | n+1,.str _,h=>by cases h
open PyProof.Rows
section
variable {P:Program}{w:World}{K:W.Frag}{mg:Str->Option Value}{base:Heap}
def NoS (K:W.Frag)(H:Hp)(v:V):Prop:=∃c,TyOf K H v c/\W.kitOne K c (.type "str")=some false
def Zp (K:W.Frag)(tbW T:Addr):Sp:=λvs H Q E=>TabW tbW H/\((∃x:List Nat,vs=[.str (mkS x)]/\Txy x/\(∀d,Wr 8 x d->∀(v:V)(H':Hp),SameL tbW H H'->TabW tbW H'->Th H' v d->Q v H')/\((∀d,¬ Wr 8 x d)->∀H',SameL tbW H H'->TabW tbW H'->E (.ref T) none H')) \/
 (∃v,vs=[v]/\NoS K H v/\∀H',SameL tbW H H'->TabW tbW H'->E (.ref T) none H'))
theorem scRea:Gz ["text", "items", "wish"] ["text"] (Gh ZT):=⟨rfl,rfl,rfl,by decide +kernel,rfl,by decide +kernel,by decide +kernel⟩
theorem Zc8 {f fIt fWo fW fSw tbW T:Addr}{fd fdIt fdWo fdW fdSw:FuncData}(F:Fun K "read_wish" "read_wish" ZT f fd)(FIt:Fun K "items_of" "items_of" Za5 fIt fdIt)(bIt:Binds K fdIt ["text"] [])(mIt:mg "items_of" = some (.ref fIt))(GIt:J3 P w K mg base CX0 3 fIt fdIt ["text"] ZcV)(FWo:Fun K "wish_of" "wish_of" Za7 fWo fdWo)(bWo:Binds K fdWo ["items"] [])(mWo:mg "wish_of" = some (.ref fWo))(GWo:Jl P w K mg base CX0 2 fWo fdWo ["items"] Zc1)(FW:Fun K "is_wish" "is_wish" Za3 fW fdW)(bW:Binds K fdW ["thing"] [])(mW:mg "is_wish" = some (.ref fW))(GW:Jl P w K mg base CX0 3 fW fdW ["thing"] Zc6)(FSw:Fun K "show_wish" "show_wish" ZS fSw fdSw)(bSw:Binds K fdSw ["wish"] [])(mSw:mg "show_wish" = some (.ref fSw))(GSw:Jl P w K mg base CX0 4 fSw fdSw ["wish"] (ZcP tbW))(mT:mg "NoText" = some (.ref T))(xT:ExcC K T)(mIsi:mg "isinstance" = none)(mStr:mg "str" = none):J3 P w K mg base (CXr P w) 5 f fd ["text"] (Zp K tbW T):=by
 refine F.okRQ scRea (λvs H Q E h=>?_) (λcdv A outer s H vs Q E hr h=>?_)
 ·rcases h with ⟨_,⟨_,rfl,_⟩ | ⟨_,rfl,_⟩⟩ <;> rfl
 ·have h16:(16777216:Nat)=sizeLine:=sizeLine_eq.symm;obtain ⟨tab,h⟩:=h;refine ⟨_,Gv (XX (i:=1) scRea.nd rfl (Or.inl rfl) (XV (PT.q (JI (Gm (UA K) rfl mIsi GP (Ga (pv 0) (Ga (Ju mStr Oh) Gd))))) (O7 GIt (hr.mono (by decide)) rfl mIt FIt.kp bIt .nil Jh (PA.q (Ga (pv 0) Gd))) (PE.q Jz))) (PSs.q (Ge (Gs (i:=2) scRea.nd rfl (Or.inl rfl) (O2 (Oz (pv 1) (λ_=>rfl)) (GH GWo (hr.mono (by decide)) rfl mWo FWo.kp bWo .nil Jh (Ga (pv 1) Gd)) Jz))
    (Ge (GT (PW.pt (JS (J4 (JI (GH GW (hr.mono (by decide)) rfl mW FW.kp bW .nil Jh (Ga (pv 2) Gd)))) (JO (Gj Uz (GH GSw (hr.mono (by decide)) rfl mSw FSw.kp bSw .nil Jh (Ga (pv 2) Gd)) (pv 0) (Gq _))))) (Gf (YO (E:=E) rfl Vt rfl mT xT (Ga Gg Gd))) Gr)
    (Gf (Go (pv 2)))))),?_⟩
  refine GD (λσ1 H1=>∃(v0 v1:V),σ1=[some v0,some v1,none]/\Same H H1/\((∃x its d l us,v0=.str (mkS x)/\v1=.ref l/\H1 l=some (.lst us)/\Its H1 us its/\us≠[]/\us.length<=15000000/\Run [] its (some [d])/\(∀t∈its,Zc0 t)/\Wr 8 x d/\∀(v:V)(H':Hp),SameL tbW H H'->TabW tbW H'->Th H' v d->Q v H') \/
   ((∀x,v0=.str (mkS x)->∀d,¬ Wr 8 x d)/\(∀H',SameL tbW H H'->TabW tbW H'->E (.ref T) none H')/\(v1=.non\/∃x its l us,v0=.str (mkS x)/\v1=.ref l/\H1 l=some (.lst us)/\Its H1 us its/\us.length<=15000000/\∀t∈its,Zc0 t)))) ?_ ?_
  case _=>
   rintro σ1 H1 ⟨v0,v1,rfl,s1,⟨x,its,d,l,us,rfl,rfl,e1,its1,une,hul,run,iok,⟨m,h8,hw,htx⟩,q⟩ | ⟨nw,bad,hc⟩⟩
   ·refine ⟨_,rfl,true,.inl ⟨_,SqL.of e1,by cases us with | nil=>exact absurd rfl une | cons _ _=>rfl⟩,GI ?_⟩;refine ⟨_,rfl,l,us,its,some [d],rfl,e1,its1,hul,run,iok,λv H2 s2 t2=>?_⟩;refine ⟨_,rfl,v,d,rfl,t2,λH3 s3=>?_⟩;rw [(hw.iff 8).mpr h8];refine ⟨_,rfl,GR ?_⟩;have S3:=(s1.trans s2).trans s3;refine ⟨_,rfl,v,d,m,x,rfl,t2.same s3,hw,h8,htx,tab.same S3,λH4 s4 tab4=>?_⟩;refine ⟨_,rfl,rfl,_,rfl,?_⟩;rw [decide_eq_true rfl];refine GR ?_;exact ⟨_,rfl,q v H4 ((SameL.of S3).trans s4) tab4 (hw.keep (SameL.tups s4 (tab.same S3)) (t2.same s3))⟩
   ·refine GD (λσ2 H2=>∃(v2:V)(d:PyData),σ2=[some v0,some v1,some v2]/\Same H H2/\Th H2 v2 d/\(d=.none\/∃x,v0=.str (mkS x))) ?_ ?_
    case _=>
     rintro σ2 H2 ⟨v2,d,rfl,s2,t2,hd⟩;refine ⟨_,rfl,v2,d,rfl,t2,λH3 s3=>⟨_,rfl,?_⟩⟩;have S3:=s2.trans s3;cases hB:Jo 8 d with
     | false=>exact GI (GI ⟨by decide,bad _ (SameL.of S3) (tab.same S3)⟩)
     | true=>
      refine GR ?_;obtain ⟨m,h8,hw⟩:=Va hB;rcases hd with rfl | ⟨x,rfl⟩
      ·cases hB
      obtain ⟨tx,htx⟩:=Ws.tx hw;refine ⟨_,rfl,v2,d,m,tx,rfl,t2.same s3,hw,h8,htx,tab.same S3,λH4 s4 tab4=>?_⟩;refine ⟨_,rfl,rfl,_,rfl,?_⟩;have hne:¬ (V.str (mkS tx)=V.str (mkS x)):=λz=>by
       have:=congrArg (λa:Str=>a.cps.toList) (V.str.inj z);have:tx=x:=this;exact nw x rfl d ⟨m,h8,hw,this▸htx⟩
      rw [decide_eq_false hne];exact GI ⟨by decide,bad _ ((SameL.of S3).trans s4) tab4⟩
    ·intro J;rcases hc with rfl | ⟨x,its,l,us,rfl,rfl,e1,its1,hul,iok⟩
     ·refine ⟨_,rfl,false,rfl,GR ?_⟩;exact J _ _ ⟨.non,.none,rfl,s1,.non,.inl rfl⟩
     ·cases us with
      | nil=>
       refine ⟨_,rfl,false,.inl ⟨_,SqL.of e1,rfl⟩,GR ?_⟩;exact J _ _ ⟨.non,.none,rfl,s1,.non,.inl rfl⟩
      | cons u us=>
       refine ⟨_,rfl,true,.inl ⟨_,SqL.of e1,rfl⟩,GI ?_⟩;obtain ⟨R,run⟩:=OG its [];refine ⟨_,rfl,l,_,its,R,rfl,e1,its1,hul,run,iok,λv H2 s2 t2=>?_⟩;exact J _ _ ⟨v,_,rfl,s1.trans s2,t2,.inr ⟨x,rfl⟩⟩
  ·intro J;rcases h with ⟨x,rfl,px,hg,hb⟩ | ⟨v,rfl,⟨c,tc,kc⟩,hb⟩
   ·refine ⟨_,rfl,_,_,true,rfl,⟨_,rfl,GI ?_⟩,.inl ⟨_,.str _,rfl,Jc⟩⟩;have e:Txt.split (VG (mkS x)) (" " : Str)=(Wsp (rep x)).map mkS:=by rw [UP];rfl
    have hfew:=Yk px;have hpl:=V3 px;have hx:=px.2.1;by_cases hw:∃d,Wr 8 x d
    ·obtain ⟨d,hw⟩:=hw;obtain ⟨m,h8,ws,htx⟩:=id hw;obtain ⟨its,dx⟩:=Zea htx;have rd:Rd [] (Txt.split (VG (mkS x)) (" " : Str)) (some its):=by
      rw [e];have:=Zeb dx (A:=[]) (R:=some its) (ws:=[]) .nil
      rwa [List.append_nil] at this
     refine ⟨_,rfl,mkS x,some its,rfl,by rw [Gk];lia,by rw [e];lia,rd,λits' ei l us H1 s1 hl e1 its1=>?_,λz=>by cases z⟩;cases ei;have hul:=its1.len;have hil:=ZZ rd rfl;rw [List.length_nil,e] at hil;refine J _ _ ⟨_,_,rfl,s1,.inl ⟨x,its,d,l,us,rfl,rfl,e1,its1,λz=>?_,by lia,?_,λt ht=>?_,hw,hg d hw⟩⟩
     ·rw [z,List.length_nil] at hul;exact Zec dx (List.eq_nil_of_length_eq_zero hul.symm)
     ·have:=Zc4 dx (S:=[]) (R:=some [d]) (ts:=[]) .nil
      rwa [List.append_nil] at this
     ·exact (Zc3 rd (k:=0) (λt ht=>by cases ht) rfl t ht).ok (by rw [e];lia)
    ·have nw:∀d,¬ Wr 8 x d:=λd hd=>hw ⟨d,hd⟩;have nw':∀y,V.str (mkS x)=V.str (mkS y)->∀d,¬ Wr 8 y d:=λy z d=>by
      have:x=y:=congrArg (λa:Str=>a.cps.toList) (V.str.inj z);rw [<-this];exact nw d
     obtain ⟨R,rd⟩:=WD _ [] hpl;rw [<-e] at rd;refine ⟨_,rfl,mkS x,R,rfl,by rw [Gk];lia,by rw [e];lia,rd,λits' ei l us H1 s1 hl e1 its1=>?_,λ_ H1 s1=>?_⟩
     ·have hul:=its1.len;have hil:=ZZ rd ei;rw [List.length_nil,e] at hil;refine J _ _ ⟨_,_,rfl,s1,.inr ⟨nw',hb nw,.inr ⟨x,its',l,us,rfl,rfl,e1,its1,by lia,λt ht=>?_⟩⟩⟩;exact (Zc3 rd (k:=0) (λt ht=>by cases ht) ei t ht).ok (by rw [e];lia)
     ·exact J _ _ ⟨_,_,rfl,s1,.inr ⟨nw',hb nw,.inl rfl⟩⟩
   ·refine ⟨_,rfl,_,_,false,rfl,⟨_,rfl,GR ?_⟩,.inl ⟨_,tc,rfl,kc⟩⟩;refine J _ _ ⟨v,.non,rfl,Same.refl _,.inr ⟨λx z=>?_,hb,.inl rfl⟩⟩;exfalso;subst z;cases tc;rw [Jc] at kc;cases kc
end
end M
namespace M
open PySem L2
def sg (c:Nat):Int:=if c=40 then 1 else if c=41 then -1 else 0
def lv (l:List Nat):Int:=(l.map sg).sum
theorem UR (a b:List Nat):lv (a++b)=lv a+lv b:=by unfold lv;rw [List.map_append,List.sum_append]
theorem Uw (c:Nat)(l:List Nat):lv (c::l)=sg c+lv l:=by unfold lv;rw [List.map_cons,List.sum_cons]
theorem Vb:∀{l:List Nat},(∀c∈l,c≠40/\c≠41)->lv l=0
 | [],_=>rfl
 | c::l,h=>by
  rw [Uw,Vb λd hd=>h d (List.mem_cons_of_mem _ hd)];obtain ⟨h1,h2⟩:=h c (List.mem_cons_self ..);unfold sg;rw [if_neg h1,if_neg h2]
  rfl
def Pz (l:List Nat):Prop:=∀k,0<=lv (l.take k)
theorem Z3 {a b:List Nat}(h:Pz a)(h':Pz b):Pz (a++b):=λk=>by
 rw [List.take_append,UR];have:=h k;have:=h' (k-a.length)
 lia
theorem Yl {l:List Nat}(h:∀c∈l,c≠40/\c≠41):Pz l:=λk=>by
 rw [Vb λc hc=>h c (List.mem_of_mem_take hc)]
 lia
def fw (q:List Nat):List Nat:=q.takeWhile λc=>c != 32
theorem OR {u v:List Nat}(h:32 ∉ u):fw (u++32::v)=u:=by
 unfold fw
 induction u with
 | nil=>rfl
 | cons c u ih=>
  rw [List.cons_append,List.takeWhile_cons,if_pos (by simpa using λz:c=32=>h (by rw [z];exact List.mem_cons_self ..)),ih λz=>h (List.mem_cons_of_mem _ z)]
theorem Zc9 {u:List Nat}(h:32 ∉ u):fw u=u:=by
 unfold fw
 induction u with
 | nil=>rfl
 | cons c u ih=>rw [List.takeWhile_cons,if_pos (by simpa using λz:c=32=>h (by rw [z];exact List.mem_cons_self ..)),ih λz=>h (List.mem_cons_of_mem _ z)]
theorem WJ (q:List Nat):(fw q=q/\32 ∉ q)\/∃v,q=fw q++32::v/\32 ∉ fw q:=by
 by_cases h:32∈q
 ·obtain ⟨u,v,e,hu⟩:=List.eq_append_cons_of_mem h;exact .inr ⟨v,by rw [e,OR hu],by rw [e,OR hu];exact hu⟩
 ·exact .inl ⟨Zc9 h,h⟩
theorem Ym {c:Nat}:∀{u:List Nat}{k:Nat},c ∉ u->Gu c k u=[]
 | [],k,_=>rfl
 | y::u,k,h=>by
  rw [Gu,if_neg λe:y=c=>h (e▸List.mem_cons_self ..),Ym λe=>h (List.mem_cons_of_mem _ e)]
theorem ZbA {x:Str}{c:Nat}(h:c ∉ x.cps.toList):Txt.partition x ⟨#[c]⟩=(x,("" : Str),("" : Str)):=by
 unfold Txt.partition;rw [Os,Ym h]
 rfl
theorem ZbB (q:List Nat):(Txt.partition (mkS q) (" " : Str)).1=mkS (fw q):=by
 rcases WJ q with ⟨e,h⟩ | ⟨v,e,h⟩
 ·rw [e];show (Txt.partition (mkS q) ⟨#[32]⟩).1=_;rw [ZbA (by exact h)]
 ·show (Txt.partition (mkS q) ⟨#[32]⟩).1=_;rw [Y0 (u:=fw q) (v:=v) (by exact e) h]
def Stp (x:List Nat)(i:Nat):Prop:=1<=i/\x[i]?=some 32/\lv ((x.take i).drop 1)=0/\mkS (fw (x.drop (i+1)))∈sJoin/\x.getLast?=some 41
theorem Zed {w a p q:List Nat}(h:32 ∉ w)(e:w++32::a=p++32::q):(p=w/\q=a)\/∃p',p=w++32::p'/\a=p'++32::q:=by
 induction w generalizing p with
 | nil=>
  cases p with
  | nil=>exact .inl ⟨rfl,(List.cons.inj e).2.symm⟩
  | cons c p=>
   obtain ⟨rfl,e'⟩:=List.cons.inj e;exact .inr ⟨p,rfl,e'⟩
 | cons c w ih=>
  cases p with
  | nil=>exact absurd (List.mem_cons.mpr (.inl (List.cons.inj e).1.symm)) h
  | cons d p=>
   obtain ⟨rfl,e'⟩:=List.cons.inj e;rcases ih (λz=>h (List.mem_cons_of_mem _ z)) e' with ⟨rfl,e2⟩ | ⟨p',rfl,e2⟩
   ·exact .inl ⟨rfl,e2⟩
   ·exact .inr ⟨p',rfl,e2⟩
theorem WK:∀{ns:List Int}{w p q:List Nat},(∀i∈ns,0<=i/\i<=9999)->32 ∉ w->w++((ns.map PyData.int).flatMap λd=>32::Wx d)=p++32::q->∃i∈ns,∃q',q=(num i).cps.toList++q'/\(q'=[]\/∃q2,q'=32::q2)
 | [],w,p,q,_,hw,e=>by
  rw [List.map_nil,List.flatMap_nil,List.append_nil] at e;exact absurd (by rw [e];simp) hw
 | n::ns,w,p,q,hn,hw,e=>by
  rw [List.map_cons,List.flatMap_cons] at e;have e:w++32::((num n).cps.toList++((ns.map PyData.int).flatMap λd=>32::Wx d))=p++32::q:=e;rcases Zed hw e with ⟨_,rfl⟩ | ⟨p',_,e⟩
  ·refine ⟨n,List.mem_cons_self ..,_,rfl,?_⟩;cases ns with
   | nil=>exact .inl rfl
   | cons m ns=>exact .inr ⟨_,rfl⟩
  ·obtain ⟨i,hi,h⟩:=WK (λi hi=>hn i (List.mem_cons_of_mem _ hi)) (OY (hn n (List.mem_cons_self ..))).1 e;exact ⟨i,List.mem_cons_of_mem _ hi,h⟩
theorem Zq {i:Int}(h:0<=i/\i<=9999):num i ∉ sJoin:=λz=>by
 have:∀w∈sJoin,G7 w=false:=by decide +kernel
 have:=this _ z;rw [OE h] at this;cases this
theorem Yn {w:Str}(hw:w∈allW){ns:List Int}(hn:∀i∈ns,0<=i/\i<=9999):∀c∈w.cps.toList++((ns.map PyData.int).flatMap λd=>32::Wx d),c≠40/\c≠41:=by
 intro c hc;rcases List.mem_append.mp hc with hc | hc
 ·exact (Od w (List.mem_append_left _ hw)).2 c hc
 ·obtain ⟨d,hd,hc⟩:=List.mem_flatMap.mp hc;obtain ⟨i,hi,rfl⟩:=List.mem_map.mp hd;rcases List.mem_cons.mp hc with rfl | hc
  ·decide
  ·exact (OY (hn i hi)).2 c hc
theorem Zee {a:PyData}{s:List Nat}(h:Tx a s):lv s=0/\Pz s/\∀p q,s=p++32::q->lv p=0->∀r,mkS (fw (q++32::r)) ∉ sJoin:=by
 induction h with
 | @leaf w rest hl=>
  obtain ⟨ns,en,hn,_⟩:=Jy hl;have hw:=JF hl;unfold JE;rw [en];have fl:=Yn hw hn;refine ⟨Vb fl,Yl fl,λp q e _ r=>?_⟩;obtain ⟨i,hi,q',rfl,hq⟩:=WK hn (Od w (List.mem_append_left _ hw)).1 e;have:fw ((num i).cps.toList++q'++32::r)=(num i).cps.toList:=by
   rcases hq with rfl | ⟨q2,rfl⟩
   ·rw [List.append_nil];exact OR (OY (hn i hi)).1
   ·rw [List.append_assoc];exact OR (OY (hn i hi)).1
  rw [this,JD];exact Zq (hn i hi)
 | @join w a b s t hw _ _ iha ihb=>
  obtain ⟨w1,w2⟩:=Od w (List.mem_append_right _ hw);have hm:∀c∈32::(w.cps.toList++[32]),c≠40/\c≠41:=λc hc=>by
   rcases List.mem_cons.mp hc with rfl | hc
   ·decide
   ·rcases List.mem_append.mp hc with hc | hc
    ·exact w2 c hc
    ·rw [List.mem_singleton.mp hc];decide
  have eM:Jg w s t=40::((s++(32::(w.cps.toList++[32])++t))++[41]):=by unfold Jg;simp
  have pM:Pz (s++(32::(w.cps.toList++[32])++t)):=Z3 iha.2.1 (Z3 (Yl hm) ihb.2.1);have lM:lv (s++(32::(w.cps.toList++[32])++t))=0:=by rw [UR,UR,iha.1,Vb hm,ihb.1];rfl
  have g1:sg 40=1:=rfl;have g2:lv [41]=-1:=rfl;generalize s++(32::(w.cps.toList++[32])++t)=M at eM pM lM;rw [eM];refine ⟨by rw [Uw,UR,lM,g1,g2];rfl,λk=>?_,λp q e l0 r=>?_⟩
  ·cases k with
   | zero=>exact Int.le_refl _
   | succ k=>
    rw [List.take_succ_cons,Uw,List.take_append,UR,g1];have h1:=pM k;have h2:-1<=lv ([41].take (k-M.length)):=by
     cases k-M.length with
     | zero=>decide
     | succ j=>rw [List.take_succ_cons,List.take_nil];decide
    lia
  ·exfalso;cases p with
   | nil=>cases (List.cons.inj e).1
   | cons c p=>
    obtain ⟨rfl,e'⟩:=List.cons.inj e;have e:M++[41]=p++32::q:=e';clear e';rw [Uw,g1] at l0;have hl:p.length<=M.length:=by
     have:=congrArg List.length e;simp at this
     lia
    have ep:p=M.take p.length:=by
     have:=congrArg (List.take p.length) e;rw [List.take_append_of_le_length hl,List.take_left] at this;exact this.symm
    have:=pM p.length;rw [<-ep] at this
    lia
theorem OS {w:Str}(h:w∈sJoin):32 ∉ w.cps.toList/\w.cps.toList≠[]/\41 ∉ w.cps.toList:=by
 have:∀w∈sJoin,32 ∉ w.cps.toList/\w.cps.toList≠[]/\41 ∉ w.cps.toList:=by decide +kernel
 exact this w h
theorem Yo {w:Str}{s t:List Nat}{a:PyData}(hw:w∈sJoin)(ha:Tx a s):Stp (Jg w s t) (1+s.length)/\∀i,i<1+s.length->¬ Stp (Jg w s t) i:=by
 obtain ⟨l0,_,no⟩:=Zee ha;have w1:=(OS hw).1;have e0:Jg w s t=(40::s)++32::(w.cps.toList++32::(t++[41])):=rfl;refine ⟨⟨by lia,?_,?_,?_,?_⟩,λi hi ⟨h1,h2,h3,h4,_⟩=>?_⟩
 ·rw [e0,List.getElem?_append_right (by rw [List.length_cons];lia)];rw [List.length_cons,show 1+s.length-(s.length+1)=0 by lia]
  rfl
 ·rw [e0,List.take_left' (by rw [List.length_cons];lia)];exact l0
 ·rw [e0,List.append_cons (40::s),List.drop_left' (by simp;lia),OR w1,JD];exact hw
 ·rw [e0,show (40::s)++32::(w.cps.toList++32::(t++[41]))=((40::s)++32::(w.cps.toList++32::t))++[41] by simp];exact List.getLast?_concat
 ·obtain ⟨j,rfl⟩:∃j,i=j+1:=⟨i-1,by lia⟩;have hj:j<s.length:=by lia
  have e1:Jg w s t=40::(s++32::(w.cps.toList++32::(t++[41]))):=rfl;rw [e1,List.getElem?_cons_succ,List.getElem?_append_left hj] at h2;rw [e1,List.take_succ_cons,List.drop_one,List.tail_cons,List.take_append_of_le_length (by lia)] at h3;rw [e1,List.drop_succ_cons,List.drop_append_of_le_length (by lia)] at h4;have es:s=s.take j++32::s.drop (j+1):=by
   have:=List.drop_eq_getElem_cons hj;rw [(List.getElem?_eq_some_iff.mp h2).2] at this;rw [<-this,List.take_append_drop]
  exact no _ _ es h3 _ h4
theorem WL {a b:List Nat}(h:b≠[]):(a++b).getLast?=b.getLast?:=by
 rw [List.getLast?_append,List.getLast?_eq_some_getLast h]
 rfl
theorem ZbC {x:List Nat}{i:Nat}(h:Stp x i)(h0:x.head?=some 40):x=Jg (mkS (fw (x.drop (i+1)))) ((x.take i).drop 1) ((x.drop (i+(fw (x.drop (i+1))).length+2)).dropLast):=by
 obtain ⟨h1,h2,h3,h4,h5⟩:=h;obtain ⟨hi,e2⟩:=List.getElem?_eq_some_iff.mp h2;have ex:x=x.take i++32::x.drop (i+1):=by
  have:=List.drop_eq_getElem_cons hi;rw [e2] at this;rw [<-this,List.take_append_drop]
 have et:x.take i=40::(x.take i).drop 1:=by
  cases x with
  | nil=>cases h0
  | cons c x=>
   cases h0;obtain ⟨j,rfl⟩:∃j,i=j+1:=⟨i-1,by lia⟩
   rfl
 have h4':=OS h4;have ed:∀k,x.drop (i+k+2)=(x.drop (i+1)).drop (k+1):=λk=>by rw [List.drop_drop];congr 1;lia
 rw [ed];generalize x.drop (i+1)=q at ex h4 h4' ⊢;have h4':32 ∉ fw q/\fw q≠[]/\41 ∉ fw q:=h4';rcases WJ q with ⟨e,h⟩ | ⟨v,e,h⟩
 ·exfalso;rw [e] at h4';rw [ex,WL (by simp),List.getLast?_cons_of_ne_nil h4'.2.1] at h5;exact h4'.2.2 (List.mem_of_getLast? h5)
 ·generalize fw q=u at e h h4' ⊢;subst e;have hv:(32::v).getLast?=some 41:=by
   rw [ex] at h5;rw [show x.take i++32::(u++32::v)=(x.take i++32::u)++32::v by simp,WL (by simp)] at h5;exact h5
  have hvn:v≠[]:=λz=>by rw [z] at hv;cases hv
  rw [List.getLast?_cons_of_ne_nil hvn] at hv;have ev:v=v.dropLast++[41]:=by
   have:=List.dropLast_concat_getLast hvn;rw [List.getLast?_eq_some_getLast hvn] at hv;rw [Option.some.inj hv] at this;exact this.symm
  have edv:(u++32::v).drop (u.length+1)=v:=by rw [List.append_cons u];exact List.drop_left' (by simp)
  rw [edv];unfold Jg;show x=40::((x.take i).drop 1++32::(u++32::(v.dropLast++[41])));rw [<-ev,<-List.cons_append,<-et];exact ex
theorem Ux {w:Str}{rest:List PyData}(h:Ja w rest=true):(JE w rest).head?≠some 40:=by
 have:∀w∈allW,w.cps.toList.head?≠some 40/\w.cps.toList≠[]:=by decide +kernel
 obtain ⟨h1,h2⟩:=this w (JF h);unfold JE;cases hx:w.cps.toList with
 | nil=>exact absurd hx h2
 | cons c l=>rw [hx] at h1;exact h1
theorem Zef {n:Nat}{x:List Nat}{d:PyData}(h0:x.head?=some 40)(h:∀i,¬ Stp x i):¬ Wr n x d:=λhw=>by
 cases n with
 | zero=>exact V4 hw
 | succ n=>
  rcases WI hw with ⟨w,rest,hl,_,rfl⟩ | ⟨w,a,b,s,t,hj,_,rfl,⟨_,_,_,ta⟩,_⟩
  ·exact Ux hl h0
  ·exact h _ (Yo hj ta).1
theorem ZbD {n:Nat}{x:List Nat}{d:PyData}{i:Nat}(h0:x.head?=some 40)(h:Stp x i)(h':∀j,j<i->¬ Stp x j)(hw:Wr (n+1) x d):∃a b,d=.tuple [.str (mkS (fw (x.drop (i+1)))),a,b]/\Wr n ((x.take i).drop 1) a/\Wr n ((x.drop (i+(fw (x.drop (i+1))).length+2)).dropLast) b:=by
 rcases WI hw with ⟨w,rest,hl,_,rfl⟩ | ⟨w,a,b,s,t,hj,rfl,rfl,wa,wb⟩
 ·exact absurd h0 (Ux hl)
 ·obtain ⟨_,_,_,ta⟩:=id wa;obtain ⟨s1,s2⟩:=Yo (t:=t) hj ta;have ei:i=1+s.length:=by
   rcases Nat.lt_trichotomy i (1+s.length) with z | z | z
   ·exact absurd h (s2 i z)
   ·exact z
   ·exact absurd s1 (h' _ z)
  subst ei;have e0:Jg w s t=(40::s)++32::(w.cps.toList++32::(t++[41])):=rfl;have w1:=(OS hj).1;have e1:(Jg w s t).drop (1+s.length+1)=w.cps.toList++32::(t++[41]):=by
   rw [e0,List.append_cons (40::s)];exact List.drop_left' (by simp;lia)
  have e2:((Jg w s t).take (1+s.length)).drop 1=s:=by
   rw [e0,List.take_left' (by rw [List.length_cons];lia)]
   rfl
  have e3:(Jg w s t).drop (1+s.length+w.cps.toList.length+2)=t++[41]:=by
   rw [show 1+s.length+w.cps.toList.length+2=(1+s.length+1)+(w.cps.toList.length+1) by lia,<-List.drop_drop,e1,List.append_cons w.cps.toList];exact List.drop_left' (by simp)
  rw [e1,OR w1,e2,e3,JD,List.dropLast_concat];exact ⟨a,b,rfl,wa,wb⟩
end M
namespace M
open PySem L2
theorem str_nil {x:Str}:x=("" : Str)↔x.length=0:=by
 constructor
 ·rintro rfl;rfl
 ·intro h;apply JC;have:x.cps.toList.length=0:=by rw [Array.length_toList];exact h
  rw [List.eq_nil_of_length_eq_zero this]
  rfl
theorem Z4 {x:Str}{c:Nat}{t:List Nat}(h:x.cps.toList=c::t):Txt.startswith x ("0" : Str)=decide (c=48):=by
 have hx:x=mkS (c::t):=by rw [<-h];exact (JD x).symm
 subst hx;unfold Txt.startswith Builtin.Str.subAt;have h1:("0" : Str).length=1:=by decide +kernel
 have h2:("0" : Str).cps=#[48]:=by decide +kernel
 have h3:(mkS (c::t)).length=t.length+1:=rfl;rw [h1,h2,h3];have h4:(mkS (c::t)).cps.extract 0 (0+1)=#[c]:=by
  apply Array.ext';rw [Array.toList_extract];simp [mkS,List.extract_eq_take_drop]
 rw [h4];by_cases hc:c=48
 ·subst hc;simp
 ·rw [decide_eq_false hc];have:(#[c] == #[48])=false:=by
   simp [hc]
  rw [this];simp
section
variable {P:Program}{w:World}{K:W.Frag}{mg:Str->Option Value}{base:Heap}
def Zda:Sp:=λvs H Q _=>∃x:Str,vs=[.str x]/\Ut x/\(∀n:Int,0<=n/\n<=9999->x=num n->Q (.int n) H)/\(G7 x=false->Q (.int (-1)) H)
theorem scLnu:Gz ["word", "sign"] ["word"] (Gh Zbf):=⟨rfl,rfl,rfl,by decide +kernel,rfl,by decide +kernel,by decide +kernel⟩
theorem Zdb {f:Addr}{fd:FuncData}(F:Fun K "_law_number" "_law_number" Zbf f fd)(mLen:mg "len" = none)(mInt:mg "int" = none):Jl P w K mg base CX0 1 f fd ["word"] Zda:=by
 refine F.ok scLnu (λvs H Q E h=>?_) (λcdv A outer s H vs Q E hr h=>?_)
 ·obtain ⟨_,rfl,_⟩:=h
  rfl
 ·obtain ⟨x,rfl,⟨h0,h1,h2⟩,q1,q0⟩:=h;have hu:=hr.units;have h16:(16777216:Nat)=sizeLine:=sizeLine_eq.symm;have hL:x.cps.toList.length=x.length:=Array.length_toList;refine ⟨_,Ge (GT (PW.pt (JS (Gj (Zcl K hu) (pv 0) Gg (Gq _)) (JS (Gj Xv (Gm W9 rfl mLen PySem.boot_len (Ga (pv 0) Gd)) Gc (Gq _)) (JO (PW.pt (Oy (Gj Xv (Gm W9 rfl mLen PySem.boot_len (Ga (pv 0) Gd)) Gc (Gq _)) (JY (Gj (Zcl K hu) (Gp UJ (pv 0) Gc (λ_ _=>rfl)) Gg (Gq _))))))))) (Gf (Go (Uy JR Gc))) Gr)
    (Ge (Om PassesOwn.never rfl (ZN (pv 0)) (GV (i:=1) scLnu.nd rfl (Or.inl rfl))
    (Gf (GT (Gj ZaW (pv 1) Gg (by with_unfolding_all rfl)) (Gf (Go (Uy JR Gc))) Gr)))
    (Gf (Go (Jm Zcp rfl mInt J0 (Ga (pv 0) Gd))))),?_⟩
  refine GD (λσ1 H1=>σ1=[some (.str x),none]/\H1=H/\x.length≠0/\x.length<=4/\∀c t,x.cps.toList=c::t->(decide (x=("0" : Str)) || !decide (c=48))=true) ?_ (λJ=>?_)
  case _=>
   rintro σ1 H1 ⟨rfl,rfl,c0,c4,hz⟩;obtain ⟨c,t,ect⟩:∃c t,x.cps.toList=c::t:=by
    cases hx:x.cps.toList with
    | nil=>rw [hx] at hL;exact absurd hL.symm c0
    | cons c t=>exact ⟨c,t,rfl⟩
   have eN:G7 x=(x.cps.toList.all λc=>decide (c∈("0123456789" : Str).cps.toList)):=by
    unfold G7;rw [decide_eq_true (by lia:0<x.length),decide_eq_true c4,Z4 ect,Ou,hz c t ect];simp
   refine ⟨_,rfl,x,rfl,h0,?_⟩;refine ZaX (x:=x) (λj σ2 H2=>∃v,σ2=[some (.str x),v]/\H2=H1/\∀c∈x.cps.toList.take j,c∈("0123456789" : Str).cps.toList) ⟨_,rfl,rfl,by simp⟩ ?_ ?_
   ·rintro j c σ2 H2 hc ⟨v,rfl,rfl,hd⟩;have hc':x.cps.toList[j]?=some c:=by rw [Array.getElem?_toList];exact hc
    refine ⟨_,rfl,c,_,rfl,rfl,_,rfl,?_⟩;by_cases hm:c∈("0123456789" : Str).cps.toList
    ·rw [decide_eq_true hm];refine GR ⟨_,rfl,rfl,?_⟩;intro d hd';rw [List.take_add_one,hc'] at hd';rcases List.mem_append.mp hd' with z | z
     ·exact hd d z
     ·rw [List.mem_singleton.mp z];exact hm
    ·rw [decide_eq_false hm];refine GI ?_;refine ⟨_,rfl,q0 ?_⟩;rw [eN,Bool.eq_false_iff];intro z;exact hm (of_decide_eq_true (List.all_eq_true.mp z c (List.mem_of_getElem? hc')))
   ·rintro σ2 H2 ⟨v,rfl,rfl,hd⟩;have full:x.cps.toList.take x.cps.size=x.cps.toList:=List.take_of_length_le (by rw [Array.length_toList];exact Nat.le_refl _);rw [full] at hd;have n1:G7 x=true:=by
     rw [eN,List.all_eq_true];exact λc hc=>decide_eq_true (hd c hc)
    obtain ⟨a,ha,ea⟩:=WC n1;have g:=q1 a ha ea;refine ⟨_,rfl,x,a,rfl,by rw [ea];exact Ub ha,by lia,g⟩
  refine ⟨_,rfl,.str x,.str ("" : Str),.str _,.str _,JH h1,JH (by decide +kernel),_,rfl,?_⟩;rw [Ou];have e1:decide (x=("" : Str))=decide (x.length=0):=by
   by_cases z:x.length=0
   ·rw [decide_eq_true z,decide_eq_true (str_nil.mpr z)]
   ·rw [decide_eq_false z,decide_eq_false λy=>z (str_nil.mp y)]
  rw [e1];by_cases c0:x.length=0
  ·rw [decide_eq_true c0];refine GI (GI ?_);exact ⟨_,rfl,q0 (by unfold G7;rw [decide_eq_false (by lia:¬ 0<x.length)];simp)⟩
  rw [decide_eq_false c0];refine GR ?_;refine ⟨_,rfl,x,rfl,by lia,_,_,rfl,rfl,_,rfl,?_⟩;by_cases c4:(4:Int)<(x.length:Int)
  ·rw [decide_eq_true c4];refine GI (GI ?_);exact ⟨_,rfl,q0 (by unfold G7;rw [decide_eq_false (by lia:¬ x.length<=4)];simp)⟩
  rw [decide_eq_false c4];refine GR ?_;obtain ⟨c,t,ect⟩:∃c t,x.cps.toList=c::t:=by
   cases hx:x.cps.toList with
   | nil=>rw [hx] at hL;exact absurd hL.symm c0
   | cons c t=>exact ⟨c,t,rfl⟩
  have eN:G7 x=((x.cps.toList.all λc=>decide (c∈("0123456789" : Str).cps.toList)) && (decide (x=("0" : Str)) || !decide (c=48))):=by
   unfold G7;rw [decide_eq_true (by lia:0<x.length),decide_eq_true (by lia:x.length<=4),Z4 ect,Ou];simp
  have bad:(decide (x=("0" : Str)) || !decide (c=48))=false->Q (.int (-1)) H:=λz=>q0 (by rw [eN,z,Bool.and_false]);have fin:(decide (x=("0" : Str)) || !decide (c=48))=true->∀c t,x.cps.toList=c::t->(decide (x=("0" : Str)) || !decide (c=48))=true:=λz c' t' e=>by rw [ect] at e;cases e;exact z
  refine ⟨_,rfl,x,rfl,by lia,_,_,rfl,rfl,_,rfl,?_⟩;by_cases c1:(1:Int)<(x.length:Int)
  ·rw [decide_eq_true c1];refine GI ?_;refine ⟨_,rfl,x,0,c,rfl,rfl,by lia,by rw [ect];exact Gi (j:=0) rfl,?_⟩;have hc8:PyData.strOk ⟨#[c]⟩=true:=by
    unfold PyData.strOk at h1 ⊢;rw [Array.all_eq_true'] at h1;have hm:c∈x.cps.toList:=by rw [ect];exact List.mem_cons_self ..
    have:=h1 c (by simpa using hm);simpa using this
   refine ⟨.str ⟨#[c]⟩,.str ("0" : Str),.str _,.str _,JH hc8,JH (by decide +kernel),_,rfl,?_⟩;rw [Ou];have x0:decide (x=("0" : Str))=false:=decide_eq_false λz=>by
    rw [z] at c1;exact absurd c1 (by decide +kernel)
   have ec:decide ((⟨#[c]⟩:Str)=("0" : Str))=decide (c=48):=by
    by_cases z:c=48
    ·subst z;decide +kernel
    ·rw [decide_eq_false z];refine decide_eq_false λy=>z ?_;have:=congrArg (λu:Str=>u.cps.toList) y;have e0:("0" : Str).cps.toList=[48]:=by decide +kernel
     simp only [e0] at this;exact (List.cons.inj this).1
   rw [ec];by_cases z:c=48
   ·rw [decide_eq_true z];refine GI ?_;exact ⟨_,rfl,bad (by rw [x0,decide_eq_true z];rfl)⟩
   ·rw [decide_eq_false z];refine GR ?_;exact J _ _ ⟨rfl,rfl,c0,by lia,fin (by rw [decide_eq_false z];simp)⟩
  ·rw [decide_eq_false c1];refine GR (GR ?_);refine J _ _ ⟨rfl,rfl,c0,by lia,fin ?_⟩;by_cases z:c=48
   ·have hx:x=("0" : Str):=by
     apply JC;rw [ect];have ht:t=[]:=by
      apply List.eq_nil_of_length_eq_zero;rw [ect,List.length_cons] at hL
      lia
     rw [ht,z];decide +kernel
    rw [decide_eq_true hx]
    rfl
   ·rw [decide_eq_false z];simp
end
end M
namespace M
open PySem L2
inductive Nvs:List Str->List Int->Prop
 | nil:Nvs [] []
 | snoc {ws:List Str} {ns:List Int} {u:Str} {n:Int}:Nvs ws ns->((0<=n/\n<=9999)/\u=num n)\/(G7 u=false/\n=-1)->Nvs (ws++[u]) (ns++[n])
theorem Nvs.good {ws:List Str}{ns:List Int}(h:Nvs ws ns)(h1:(-1:Int) ∉ ns):ws=ns.map num/\∀i∈ns,0<=i/\i<=9999:=by
 induction h with
 | nil=>exact ⟨rfl,λi hi=>by cases hi⟩
 | snoc _ a ih=>
  obtain ⟨e,hn⟩:=ih λz=>h1 (List.mem_append_left _ z);rcases a with ⟨hb,rfl⟩ | ⟨_,rfl⟩
  ·refine ⟨by rw [List.map_append,<-e];rfl,λi hi=>?_⟩;rcases List.mem_append.mp hi with z | z
   ·exact hn i z
   ·rw [List.mem_singleton.mp z];exact hb
  ·exact absurd (by simp) h1
theorem Nvs.bad {ws:List Str}{ns:List Int}(h:Nvs ws ns)(h1:(-1:Int)∈ns):∃u∈ws,G7 u=false:=by
 induction h with
 | nil=>cases h1
 | snoc _ a ih=>
  rcases List.mem_append.mp h1 with z | z
  ·obtain ⟨u,hu,h⟩:=ih z;exact ⟨u,List.mem_append_left _ hu,h⟩
  ·rw [List.mem_singleton] at z;subst z;rcases a with ⟨hb,_⟩ | ⟨h,_⟩
   ·lia
   ·exact ⟨_,by simp,h⟩
theorem Nvs.len {ws:List Str}{ns:List Int}(h:Nvs ws ns):ns.length=ws.length:=by
 induction h with
 | nil=>rfl
 | snoc _ _ ih=>rw [List.length_append,List.length_append,ih];rfl
theorem Zr (p:Int):∀ms:List Int,inV (.int p) (ms.map V.int)=decide (p∈ms):=by
 intro ms;unfold inV
 induction ms with
 | nil=>rfl
 | cons m ms ih=>
  rw [List.map_cons,List.any_cons,ih];by_cases h1:p=m <;> by_cases h2:p∈ms <;> simp [eqV,h1,h2] <;> (try lia) <;> (try (intro z;exact h1 z.symm))
theorem Yp (ms:List Int):(ms.map V.int).all UW=true:=by
 rw [List.all_map];exact List.all_eq_true.mpr λ_ _=>rfl
def PRd (u:Str)(ws:List Str)(d:PyData):Prop:=∃(ns:List Int)(rest:List PyData),(∀i∈ns,0<=i/\i<=9999)/\ws=ns.map num/\Ja u rest=true/\Jx u rest=ns.map .int/\d=.tuple (.str u::rest)
theorem Yq {ns ms:List Int}(hn:∀i∈ns,0<=i/\i<=9999)(hm:∀i∈ms,0<=i/\i<=9999)(e:ns.map num=ms.map num):ns=ms:=by
 induction ns generalizing ms with
 | nil=>cases ms with
  | nil=>rfl
  | cons _ _=>cases e
 | cons n ns ih=>
  cases ms with
  | nil=>cases e
  | cons m ms=>
   rw [List.map_cons,List.map_cons] at e;obtain ⟨e1,e2⟩:=List.cons.inj e;have h1:=Ub (hn n (List.mem_cons_self ..));rw [e1,Ub (hm m (List.mem_cons_self ..))] at h1;rw [Option.some.inj h1,ih (λi hi=>hn i (List.mem_cons_of_mem _ hi)) (λi hi=>hm i (List.mem_cons_of_mem _ hi)) e2]
theorem ZbE {u:Str}{ws:List Str}{d d':PyData}(h:PRd u ws d)(h':PRd u ws d'):d=d':=by
 obtain ⟨ns,rest,hn,e,hl,en,rfl⟩:=h;obtain ⟨ms,rest',hm,e',hl',em,rfl⟩:=h';obtain rfl:=Yq hn hm (e.symm.trans e');obtain ⟨a,ea,_,ha⟩:=Jy hl;obtain ⟨b,eb,_,hb⟩:=Jy hl';have eab:a.map PyData.int=b.map .int:=by rw [<-ea,<-eb,en,em]
 rcases ha with ⟨h4,rfl⟩ | ⟨h4,rfl⟩
 ·rcases hb with ⟨_,rfl⟩ | ⟨h5,_⟩
  ·rw [eab]
  ·exact absurd h4 h5
 ·rcases hb with ⟨h5,_⟩ | ⟨_,rfl⟩
  ·exact absurd h5 h4
  ·rw [eab]
theorem Z5 {ns:List Int}(hn:∀i∈ns,0<=i/\i<=9999):(ns.map PyData.int).all Ol=true:=by
 rw [List.all_eq_true];intro d hd;obtain ⟨i,hi,rfl⟩:=List.mem_map.mp hd;have:=hn i hi;show (decide (0<=i) && decide (i<=9999))=true;rw [decide_eq_true this.1,decide_eq_true this.2]
 rfl
theorem ZbF:∀w∈sFour,w ∉ sBare/\w ∉ sPair:=by decide +kernel
theorem Yr:∀w∈sPair,w ∉ sBare/\w ∉ sFour:=by decide +kernel
theorem Ys:∀w∈sBare,w ∉ sPair/\w ∉ sFour:=by decide +kernel
theorem Zs {u:Str}{ns:List Int}(hn:∀i∈ns,0<=i/\i<=9999)(h:u∈sFour):PRd u (ns.map num) (.tuple [.str u,.tuple (ns.map .int)]):=by
 obtain ⟨h1,h2⟩:=ZbF u h;refine ⟨ns,[.tuple (ns.map .int)],hn,rfl,?_,?_,rfl⟩
 ·unfold Ja;rw [if_neg h1,if_neg h2,if_pos h];exact Z5 hn
 ·unfold Jx;rw [if_pos h]
theorem Zt {u:Str}{a b:Int}(hn:∀i∈[a,b],0<=i/\i<=9999)(h:u∈sPair):PRd u ([a,b].map num) (.tuple [.str u,.int a,.int b]):=by
 obtain ⟨h1,h2⟩:=Yr u h;refine ⟨[a,b],[.int a,.int b],hn,rfl,?_,?_,rfl⟩
 ·unfold Ja;rw [if_neg h1,if_pos h];have:=Z5 hn;rw [List.map_cons,List.map_cons,List.all_cons,List.all_cons,List.map_nil,List.all_nil,Bool.and_true] at this;exact this
 ·unfold Jx;rw [if_neg h2]
  rfl
theorem Zu {u:Str}(h:u∈sBare):PRd u [] (.tuple [.str u]):=by
 obtain ⟨h1,h2⟩:=Ys u h;refine ⟨[],[],λi hi=>(by cases hi),rfl,?_,?_,rfl⟩
 ·unfold Ja;rw [if_pos h]
  rfl
 ·unfold Jx;rw [if_neg h2]
  rfl
theorem Yt {u:Str}{ns:List Int}{d:PyData}(hn:∀i∈ns,0<=i/\i<=9999)(h:PRd u (ns.map num) d):u∈sFour\/(u∈sPair/\ns.length=2)\/(u∈sBare/\ns=[]):=by
 obtain ⟨ms,rest,hm,e,hl,en,_⟩:=h;obtain rfl:=Yq hn hm e;unfold Ja at hl;by_cases hb:u∈sBare
 ·rw [if_pos hb] at hl;have e:rest=[]:=List.isEmpty_iff.mp hl;unfold Jx at en;rw [if_neg (Ys u hb).2,e] at en;exact .inr (.inr ⟨hb,List.map_eq_nil_iff.mp en.symm⟩)
 ·rw [if_neg hb] at hl;by_cases hp:u∈sPair
  ·rw [if_pos hp] at hl;unfold Jx at en;rw [if_neg (Yr u hp).2] at en
   match rest,hl with
   | [a,b],_=>
    have:=congrArg List.length en;rw [List.length_map] at this;exact .inr (.inl ⟨hp,this.symm⟩)
  ·rw [if_neg hp] at hl;by_cases h4:u∈sFour
   ·exact .inl h4
   ·rw [if_neg h4] at hl;cases hl
section
variable {P:Program}{w:World}{K:W.Frag}{mg:Str->Option Value}{base:Heap}
def ZbG:Sp:=λvs H Q _=>∃(l:Addr)(u:Str)(ws:List Str),vs=[.ref l]/\H l=some (.lst ((u::ws).map V.str))/\(∀v∈ws,Ut v)/\ws.length<=990/\(∀d,PRd u ws d->∀(v:V)(H':Hp),Same H H'->Th H' v d->Q v H')/\((∀d,¬ PRd u ws d)->∀H',Same H H'->Q .non H')
theorem scPlr:Gz ["words", "numbers"] ["words"] (Gh ZU):=⟨rfl,rfl,rfl,by decide +kernel,rfl,by decide +kernel,by decide +kernel⟩
theorem Zdc {f fLnu:Addr}{fd fdLnu:FuncData}(F:Fun K "_law_plain_read" "_law_plain_read" ZU f fd)(FLnu:Fun K "_law_number" "_law_number" Zbf fLnu fdLnu)(bLnu:Binds K fdLnu ["word"] [])(mLnu:mg "_law_number" = some (.ref fLnu))(GLnu:Jl P w K mg base CX0 1 fLnu fdLnu ["word"] Zda)(mLen:mg "len" = none)(mTup:mg "tuple" = none):Jl P w K mg base CX0 2 f fd ["words"] ZbG:=by
 refine F.ok scPlr (λvs H Q E h=>?_) (λcdv A outer s H vs Q E hr h=>?_)
 ·obtain ⟨_,_,_,rfl,_⟩:=h
  rfl
 ·obtain ⟨l,u,ws,rfl,el,pl,qJ,q1,q0⟩:=h;have h16:(16777216:Nat)=sizeLine:=sizeLine_eq.symm;have hu:=hr.units;refine ⟨_,Ge (XI (i:=1) scPlr.nd rfl (Or.inl rfl) (own:=["word"]) rfl (Js (by decide +kernel) (by decide +kernel) rfl (by decide +kernel)) (Zcm K (Gx (kSl K) (pv 0) (Gw Gc) GX)) (λ_ _ _ _=>GV (i:=0) (show List.Nodup (["word"]:List Str) by decide +kernel) rfl (Or.inl rfl)) (λ_ _ _ _=>JZ) (λ_ _ _ _=>GH GLnu (hr.mono (by decide)) rfl mLnu FLnu.kp bLnu .nil Jh (Ga (pv 0) Gd)))
    (Ge (GT (Gj (kIn K) (Uy JR Gc) (pv 1) (by with_unfolding_all rfl)) (Gf (Go Jz)) Gr)
    (Ge (GT (Gj (kIn K) (Gp (Jp K) (pv 0) Gc (λ_ _=>rfl)) (GO (Ga Gg (Ga Gg (Ga Gg (Ga Gg Gd))))) (by with_unfolding_all rfl)) (Gf (Go (Je (Ga (Gp (Jp K) (pv 0) Gc (λ_ _=>rfl)) (Ga (Jm (ZM K) rfl mTup Ji (Ga (pv 1) Gd)) Gd))))) Gr)
    (Ge (GT (PW.pt (Oy (Gj (kIn K) (Gp (Jp K) (pv 0) Gc (λ_ _=>rfl)) (GO (Ga Gg (Ga Gg Gd))) (by with_unfolding_all rfl)) (JY (Gj Jj (Gm (VS K) rfl mLen PySem.boot_len (Ga (pv 1) Gd)) Gc (Gq _))))) (Gf (Go (Je (Ga (Gp (Jp K) (pv 0) Gc (λ_ _=>rfl)) (Ga (Gp (Jp K) (pv 1) Gc (λ_ _=>rfl)) (Ga (Gp (Jp K) (pv 1) Gc (λ_ _=>rfl)) Gd)))))) Gr)
    (Ge (GT (PW.pt (Oy (Gj (kIn K) (Gp (Jp K) (pv 0) Gc (λ_ _=>rfl)) (GO (Ga Gg (Ga Gg (Ga Gg Gd)))) (by with_unfolding_all rfl)) (JY (Gj (Zcl K hu) (pv 1) (GO Gd) (Gq _))))) (Gf (Go (Je (Ga (Gp (Jp K) (pv 0) Gc (λ_ _=>rfl)) Gd)))) Gr)
    (Gf (Go Jz)))))),?_⟩
  refine GD (λσ1 H1=>∃(D:Addr)(ns:List Int),σ1=[some (.ref l),some (.ref D)]/\Same H H1/\H1 D=some (.lst (ns.map V.int))/\Nvs ws ns) ?_ ?_
  case _=>
   rintro σ1 H1 ⟨D,ns,rfl,s1,eD,nv⟩;have el1:=s1 _ _ el;have nl:=nv.len;refine ⟨_,rfl,_,rfl,D,_,rfl,.inl (SqL.of eD),rfl,Yp ns,_,rfl,?_⟩;show if (inV (.int (-1)) (ns.map V.int))=true then _ else _
   rw [Zr];by_cases hb:(-1:Int)∈ns
   ·rw [decide_eq_true hb];refine GI ?_;obtain ⟨v,hv,hn⟩:=nv.bad hb;refine q0 (λd ⟨ms,_,hm,e,_⟩=>?_) _ s1;rw [e] at hv;obtain ⟨i,hi,rfl⟩:=List.mem_map.mp hv;rw [OE (hm i hi)] at hn;cases hn
   rw [decide_eq_false hb];refine GR ?_;obtain ⟨rfl,hn⟩:=nv.good hb;have at0:∀Hx,Same H1 Hx->SqL K Hx l ((u::ns.map num).map V.str):=λHx sx=>SqL.of (sx _ _ el1);refine ⟨_,rfl,l,_,_,_,rfl,rfl,at0 _ (Same.refl _),Gi (j:=0) rfl,by show 4<=sizeLine;lia,λp hp=>?_⟩;have s2:Same H1 (upd H1 p (.lst [.str "with", .str "off", .str "over", .str "past"])):=Same.new hp;have e2:upd H1 p (.lst [.str "with", .str "off", .str "over", .str "past"]) p=some (.lst [.str "with", .str "off", .str "over", .str "past"]):=Gb;refine ⟨p,sFour.map V.str,rfl,.inl (SqL.of e2),rfl,rfl,_,rfl,?_⟩;show if (inV (.str u) (sFour.map V.str))=true then _ else _
   rw [GQ];have S2:=s1.trans s2;generalize upd H1 p (.lst [.str "with", .str "off", .str "over", .str "past"])=H2 at s2 e2 S2 ⊢;by_cases h4:u∈sFour
   ·rw [decide_eq_true h4];refine GI ?_;refine ⟨_,rfl,l,_,_,_,rfl,rfl,at0 _ s2,Gi (j:=0) rfl,_,rfl,D,_,rfl,.inl ⟨SqL.of (s2 _ _ eD),λt ht=>⟨JK,λt2 ht2=>?_⟩⟩⟩;have s3:Same H2 (upd H2 t (.tup (ns.map V.int))):=Same.new ht;have s4:=Same.new (o:=.tup [.str u,.ref t]) ht2;refine q1 _ (Zs hn h4) _ _ (S2.trans (s3.trans s4)) (.tup Gb (by simp) (.cons (.str _) (.cons (.tup (s4 _ _ Gb) ?_ (OF _ ns)) .nil)));rw [List.length_map] at qJ ⊢
    lia
   rw [decide_eq_false h4];refine GR ?_;dsimp only [VO];refine GD (λσ4 H4=>σ4=[some (.ref l),some (.ref D)]/\Same H2 H4/\¬ (u∈sPair/\ns.length=2)) ?_ ?_
   case _=>
    rintro σ4 H4 ⟨rfl,s3,hnp⟩;have s13:=s2.trans s3;have S3:=S2.trans s3;refine ⟨_,rfl,l,_,_,_,rfl,rfl,at0 _ s13,Gi (j:=0) rfl,by show 3<=sizeLine;lia,λp5 hp5=>?_⟩;have s5:Same H4 (upd H4 p5 (.lst [.str "closed", .str "shy", .str "all"])):=Same.new hp5;have e5:upd H4 p5 (.lst [.str "closed", .str "shy", .str "all"]) p5=some (.lst [.str "closed", .str "shy", .str "all"]):=Gb;refine ⟨p5,sBare.map V.str,rfl,.inl (SqL.of e5),rfl,rfl,_,rfl,?_⟩;show if (inV (.str u) (sBare.map V.str))=true then _ else _
    rw [GQ];have S5:=S3.trans s5;generalize upd H4 p5 (.lst [.str "closed", .str "shy", .str "all"])=H5 at s5 e5 S5 ⊢;have s15:=s13.trans s5;have none:(u∈sBare->ns≠[])->∀H6,Same H H6->Q .non H6:=λhz=>q0 λd hd=>by
     rcases Yt hn hd with z | z | z
     ·exact h4 z
     ·exact hnp z
     ·exact hz z.1 z.2
    by_cases hbr:u∈sBare
    ·rw [decide_eq_true hbr];refine GI ?_;refine ⟨_,rfl,Nat.zero_le _,λp6 hp6=>?_⟩;have s6:Same H5 (upd H5 p6 (.lst [])):=Same.new hp6;refine ⟨.list (ns.map PyData.int),.list (([]:List Int).map PyData.int),.lst (SqL.of (s6 _ _ (s15 _ _ eD))) (ths_dat (OF _ ns)),.lst (SqL.of Gb) .nil,J2 _,J2 _,_,rfl,?_⟩;cases ns with
     | nil=>
      refine GI ?_;refine ⟨_,rfl,l,_,_,_,rfl,rfl,at0 _ (s15.trans s6),Gi (j:=0) rfl,by show 1<=sizeLine;lia,λt ht=>?_⟩;exact q1 _ (Zu hbr) _ _ (S5.trans (s6.trans (Same.new ht))) (.tup Gb (by simp) (.cons (.str _) .nil))
     | cons n ns=>
      have ez:PyData.eqv (.list ((n::ns).map PyData.int)) (.list (([]:List Int).map PyData.int))=false:=by simp [PyData.eqv,PyData.eqvAll]
      rw [ez];refine GR ?_;exact none (λ_ z=>by cases z) _ (S5.trans s6)
    ·rw [decide_eq_false hbr];refine GR (GR ?_);exact none (λz=>absurd z hbr) _ S5
   ·intro J;refine ⟨_,rfl,l,_,_,_,rfl,rfl,at0 _ s2,Gi (j:=0) rfl,JK,λp3 hp3=>?_⟩;have s3:Same H2 (upd H2 p3 (.lst [.str "open", .str "long"])):=Same.new hp3;have e3:upd H2 p3 (.lst [.str "open", .str "long"]) p3=some (.lst [.str "open", .str "long"]):=Gb;refine ⟨p3,sPair.map V.str,rfl,.inl (SqL.of e3),rfl,rfl,_,rfl,?_⟩;show if (inV (.str u) (sPair.map V.str))=true then _ else _
    rw [GQ];have S3:=S2.trans s3;generalize upd H2 p3 (.lst [.str "open", .str "long"])=H3 at s3 e3 S3 ⊢;have s13:=s2.trans s3;by_cases hp:u∈sPair
    ·rw [decide_eq_true hp];refine GI ?_;refine ⟨_,rfl,D,_,rfl,.inl (SqL.of (s13 _ _ eD)),rfl,_,rfl,?_⟩;rw [List.length_map];by_cases h2:ns.length=2
     ·rw [decide_eq_true (by rw [h2];rfl)];refine GI ?_
      match ns,h2 with
      | [a,b],_=>
       have eD3:=s13 _ _ eD;refine ⟨_,rfl,l,_,_,_,rfl,rfl,at0 _ s13,Gi (j:=0) rfl,_,rfl,D,_,_,_,rfl,rfl,SqL.of eD3,Gi (j:=0) rfl,_,rfl,D,_,_,_,rfl,rfl,SqL.of eD3,Gi (j:=1) rfl,by show 3<=sizeLine;lia,λt ht=>?_⟩;exact q1 _ (Zt hn hp) _ _ (S3.trans (Same.new ht)) (.tup Gb (by simp) (.cons (.str _) (.cons (.int _) (.cons (.int _) .nil))))
     ·rw [decide_eq_false (λz=>h2 (by have:=V.int.inj z;lia))];refine GR ?_;exact J _ _ ⟨rfl,s3,λz=>h2 z.2⟩
    ·rw [decide_eq_false hp];refine GR (GR ?_);exact J _ _ ⟨rfl,s3,λz=>hp z.1⟩
  ·intro J;refine ⟨_,rfl,1,rfl,l,_,rfl,SqL.of el,λp hp=>?_⟩;have ec:J6 ((u::ws).map V.str) (some 1) none=ws.map V.str:=(J1 (k:=1)).trans rfl;rw [ec];have s1:Same H (upd H p (.lst (ws.map V.str))):=Same.new hp;have e1:upd H p (.lst (ws.map V.str)) p=some (.lst (ws.map V.str)):=Gb;generalize upd H p (.lst (ws.map V.str))=H1 at s1 e1 ⊢;refine ⟨p,rfl,⟨_,SqL.of e1⟩,λD hD=>?_⟩;refine XJ (K:=K) (a:=p) (xs:=ws.map V.str) (λi ys H4=>Same H1 H4/\H4 D=some (.lst ys)/\∃ns,ys=ns.map V.int/\Nvs (ws.take i) ns) ⟨Same.new hD,Gb,[],rfl,.nil⟩ (λi ys H4 _ ⟨s4,_⟩=>SqL.of (s4 _ _ e1)) ?_ ?_
   ·rintro i x ys H4 hxi ⟨s4,hD4,ns,rfl,nv⟩;rw [List.getElem?_map] at hxi;obtain ⟨v,hv,rfl⟩:=Option.map_eq_some_iff.mp hxi;have hi:i<ws.length:=(List.getElem?_eq_some_iff.mp hv).1;have hnl:=nv.len;rw [List.length_take] at hnl;refine ⟨trivial,?_⟩;unfold ZL;refine GI ?_;have et:ws.take (i+1)=ws.take i++[v]:=by rw [List.take_add_one,hv];rfl
    refine ⟨_,rfl,v,rfl,pl v (List.mem_of_getElem? hv),λn hn e=>?_,λhb=>?_⟩
    ·exact ⟨hD4,by rw [List.length_map];lia,s4.put hD,Gb,ns++[n],by rw [List.map_append];rfl,by rw [et];exact nv.snoc (.inl ⟨hn,e⟩)⟩
    ·exact ⟨hD4,by rw [List.length_map];lia,s4.put hD,Gb,ns++[-1],by rw [List.map_append];rfl,by rw [et];exact nv.snoc (.inr ⟨hb,rfl⟩)⟩
   ·rintro ys H4 ⟨s4,hD4,ns,rfl,nv⟩;rw [List.length_map,List.take_length] at nv;exact J _ _ ⟨D,ns,rfl,s1.trans s4,hD4,nv⟩
end
end M
namespace M
open PySem L2
theorem WM (l:List Nat):∃w ws,Wsp l=w::ws/\l=w++ws.flatMap (λv=>32::v):=by
 have key:∀l:List Nat,∃w ws,l=w++ws.flatMap (λv=>32::v)/\(∀v∈w::ws,32 ∉ v):=by
  intro l
  induction l with
  | nil=>exact ⟨[],[],rfl,by simp⟩
  | cons x l ih=>
   obtain ⟨w,ws,e,h⟩:=ih;by_cases hx:x=32
   ·exact ⟨[],w::ws,by rw [e,hx];rfl,λv hv=>(List.mem_cons.mp hv).elim (λz=>by rw [z];simp) (h v)⟩
   ·refine ⟨x::w,ws,by rw [e];rfl,λv hv=>(List.mem_cons.mp hv).elim (λz=>?_) λz=>h v (List.mem_cons_of_mem _ z)⟩;rw [z];intro y;rcases List.mem_cons.mp y with y | y
    ·exact hx y.symm
    ·exact h w (List.mem_cons_self ..) y
 obtain ⟨w,ws,e,h⟩:=key l;exact ⟨w,ws,by unfold Wsp;rw [e];exact Jq (c:=32) h,e⟩
theorem Yu {n:Nat}{x u:List Nat}{ws:List (List Nat)}{d:PyData}(h0:x.head?≠some 40)(e:Wsp x=u::ws)(hw:Wr (n+1) x d):PRd (mkS u) (ws.map mkS) d:=by
 rcases WI hw with ⟨w,rest,hl,rfl,rfl⟩ | ⟨w,a,b,s,t,_,_,rfl,_,_⟩
 ·obtain ⟨ns,en,hn,_⟩:=Jy hl;unfold JE at e;rw [en,WG (Od w (List.mem_append_left _ (JF hl))).1 hn] at e;obtain ⟨rfl,rfl⟩:=List.cons.inj e;refine ⟨ns,rest,hn,?_,by rw [JD];exact hl,by rw [JD];exact en,by rw [JD]⟩;rw [List.map_map];exact List.map_congr_left λi _=>JD _
 ·exact absurd rfl h0
theorem Zdd {n:Nat}{x u:List Nat}{ws:List (List Nat)}{d:PyData}(ex:x=u++ws.flatMap (λv=>32::v))(h:PRd (mkS u) (ws.map mkS) d):Wr (n+1) x d:=by
 obtain ⟨ns,rest,hn,e,hl,en,rfl⟩:=h;have:x=JE (mkS u) rest:=by
  unfold JE;rw [en,ex,List.flatMap_map];have e2:ws=ns.map λi=>(num i).cps.toList:=by
   have:=congrArg (List.map λv:Str=>v.cps.toList) e;rw [List.map_map,List.map_map] at this;rw [show ((λv:Str=>v.cps.toList)∘mkS)=id from funext λ_=>rfl,List.map_id] at this;exact this
  rw [e2,List.flatMap_map]
  rfl
 rw [this];exact Zby hl
theorem Zde (x:List Nat):StrLaws.sliceText (mkS x) none (some 1)=mkS (x.take 1):=by
 cases x with
 | nil=>decide +kernel
 | cons c x=>rw [StrLaws.sliceText_to ⟨by decide,by show (1:Int)<=((c::x).length:Int);rw [List.length_cons];lia⟩];rfl
theorem Yv (x:List Nat){a b:Nat}(h:a<=b)(hb:b<=x.length):StrLaws.sliceText (mkS x) (some (a:Int)) (some (b:Int))=mkS ((x.drop a).take (b-a)):=StrLaws.sliceText_nat (mkS x) h (by rw [Gk];exact hb)
theorem ZbH (x:List Nat){a:Nat}(h:a<=x.length):StrLaws.sliceText (mkS x) (some (a:Int)) none=mkS (x.drop a):=by
 rw [StrLaws.sliceText_from ⟨by lia,by show (a:Int)<=(x.length:Int);lia⟩];show mkS ((x.drop (a:Int).toNat).take ((x.length:Int)-(a:Int)).toNat)=_;rw [Int.toNat_natCast,List.take_of_length_le (by rw [List.length_drop];lia)]
theorem ZbI (x:List Nat){a:Nat}(h:a<x.length):StrLaws.sliceText (mkS x) (some (a:Int)) (some (-1))=mkS ((x.drop a).dropLast):=by
 rw [StrLaws.sliceText_neg_hi (mkS x) _ (by decide) (by rw [Gk];lia),Gk,show (-1:Int)+(x.length:Int)=((x.length-1:Nat):Int) by lia,Yv x (by lia) (by lia),List.dropLast_eq_take,List.length_drop]
 congr 2
 lia
theorem Txy.sub {x a b c:List Nat}(h:Txy x)(e:x=a++(b++c)):Txy b:=by
 subst e;obtain ⟨h1,h2,h3⟩:=h;rw [G8,G8] at h3;rw [List.length_append,List.length_append] at h2;exact ⟨λd hd=>h1 d (by simp [hd]),by lia,by lia⟩
theorem Uc (c k:Nat):decide (V.str ⟨#[c]⟩=V.str ⟨#[k]⟩)=decide (c=k):=by
 by_cases h:c=k
 ·rw [h,decide_eq_true rfl,decide_eq_true rfl]
 ·rw [decide_eq_false h];refine decide_eq_false λz=>h ?_;have:=congrArg (λu:Str=>u.cps.toList) (V.str.inj z);exact (List.cons.inj (show [c]=[k] from this)).1
theorem V5 {x:List Nat}{i c:Nat}(h:x[i+1]?=some c):lv ((x.take (i+1+1)).drop 1)=lv ((x.take (i+1)).drop 1)+sg c:=by
 obtain ⟨hi,_⟩:=List.getElem?_eq_some_iff.mp h;rw [List.take_add_one,h,List.drop_append_of_le_length (by rw [List.length_take];lia),UR];show _+lv [c]=_;rw [Uw];show _+(sg c+0)=_
 lia
section
variable {P:Program}{w:World}{K:W.Frag}{mg:Str->Option Value}{base:Heap}
def V6 (n:Nat):Sp:=λvs H Q _=>∃x:List Nat,vs=[.str (mkS x),.int (n:Int)]/\Txy x/\(∀d,Wr n x d->∀(v:V)(H':Hp),Same H H'->Th H' v d->Q v H')/\((∀d,¬ Wr n x d)->∀H',Same H H'->Q .non H')
theorem scLre:Gz ["text", "depth", "level", "at", "word", "one", "other"] ["text", "depth"] (Gh ZV):=⟨rfl,rfl,rfl,by decide +kernel,rfl,by decide +kernel,by decide +kernel⟩
theorem WN {f fPlr:Addr}{fd fdPlr:FuncData}(FLre:Fun K "_law_read" "_law_read" ZV f fd)(bLre:Binds K fd ["text", "depth"] [])(mLre:mg "_law_read" = some (.ref f))(FPlr:Fun K "_law_plain_read" "_law_plain_read" ZU fPlr fdPlr)(bPlr:Binds K fdPlr ["words"] [])(mPlr:mg "_law_plain_read" = some (.ref fPlr))(GPlr:Jl P w K mg base CX0 2 fPlr fdPlr ["words"] ZbG)(mLen:mg "len" = none)(mInt:mg "int" = none)(mRange:mg "range" = none)(n k:Nat)(spR:Sp)(GLre:Jl P w K mg base CX0 (2+k) f fd ["text", "depth"] spR)(hR:n=0\/∃m,n=m+1/\spR=V6 m):Jl P w K mg base CX0 (2+k+1) f fd ["text", "depth"] (V6 n):=by
 refine FLre.ok scLre (λvs H Q E h=>?_) (λcdv A outer s H vs Q E hr h=>?_)
 ·obtain ⟨_,rfl,_⟩:=h
  rfl
 ·obtain ⟨x,rfl,px,q1,q0⟩:=h;have h16:(16777216:Nat)=sizeLine:=sizeLine_eq.symm;have hx:=px.2.1;have hu:=hr.units;refine ⟨_,Ge (GT (Gj Jj (pv 1) Gc (Gq _)) (Gf (Go Jz)) Gr)
    (Ge (GT (Gj Uz (Gx VM (pv 0) GX (Gw Gc)) Gg (Gq _)) (Gf (Go (GH GPlr (hr.mono (by lia)) rfl mPlr FPlr.kp bPlr .nil Jh (Ga (Op PySem.F.plainAttrs_str PySem.F.slot_str_split PySem.F.type_str_split Wu (pv 0) (Ga Gg Gd)) Gd)))) Gr)
    (Ge (Gs (i:=2) scLre.nd rfl (Or.inl rfl) Gc)
    (Ge (Om PassesOwn.never rfl (Xp rfl mRange (Ga Gc (Ga (Gm W9 rfl mLen PySem.boot_len (Ga (pv 0) Gd)) Gd))) (GV (i:=3) scLre.nd rfl (Or.inl rfl))
    (Ge (Gs (i:=2) scLre.nd rfl (Or.inl rfl) (Gn Vh (Gn Jd (pv 2) (Jm Ui rfl mInt J0 (Ga (J7 Jj (Gp UJ (pv 0) (pv 3) (λ_ _=>rfl)) Gg (Gq _)) Gd))) (Jm Ui rfl mInt J0 (Ga (J7 Jj (Gp UJ (pv 0) (pv 3) (λ_ _=>rfl)) Gg (Gq _)) Gd))))
    (Gf (GT (PW.pt (Oy (Gj Jj (pv 2) Gc (Gq _)) (JY (Gj Jj (Gp UJ (pv 0) (pv 3) (λ_ _=>rfl)) Gg (Gq _))))) (Ge (Gs (i:=4) scLre.nd rfl (Or.inl rfl) (Gp (OW K) (Op PySem.F.plainAttrs_str PySem.F.slot_str_partition PySem.F.type_str_partition ZaD (Gx VM (pv 0) (Gw (Gn Jd (pv 3) Gc)) GX) (Ga Gg Gd)) Gc (λ_ _=>rfl)))
    (Gf (GT (PW.pt (Oy (Gj (kIn K) (pv 4) (GO (Ga Gg (Ga Gg (Ga Gg Gd)))) (by with_unfolding_all rfl)) (JY (Gj Jj (Gp UJ (pv 0) (Uy JR Gc) (λ_ _=>rfl)) Gg (Gq _))))) (Ge (Gs (i:=5) scLre.nd rfl (Or.inl rfl) (GH GLre hr rfl mLre FLre.kp bLre .nil Jh (Ga (Gx VM (pv 0) (Gw Gc) (Gw (pv 3))) (Ga (Gn Vh (pv 1) Gc) Gd))))
    (Ge (Gs (i:=6) scLre.nd rfl (Or.inl rfl) (GH GLre hr rfl mLre FLre.kp bLre .nil Jh (Ga (Gx VM (pv 0) (Gw (Gn Jd (Gn Jd (pv 3) (Gm W9 rfl mLen PySem.boot_len (Ga (pv 4) Gd))) Gc)) (Gw (Uy JR Gc))) (Ga (Gn Vh (pv 1) Gc) Gd))))
    (Ge (GT (PW.pt (JS (Gj Xw (pv 5) Jz (Gq _)) (JO (Gj Xw (pv 6) Jz (Gq _))))) (Gf (Go Jz)) Gr)
    (Gf (Go (Je (Ga (pv 4) (Ga (pv 5) (Ga (pv 6) Gd))))))))) Gr))) Gr))))
    (Gf (Go Jz))))),?_⟩
  refine ⟨_,rfl,rfl,_,rfl,?_⟩;rcases hR with rfl | ⟨m,rfl,rfl⟩
  ·exact GI (q0 (λd=>V4) _ (Same.refl _))
  rw [decide_eq_false (λz=>by have:=V.int.inj z;lia)];refine GR ?_;refine ⟨_,rfl,1,rfl,mkS x,rfl,by rw [Gk];lia,?_⟩;rw [Zde];refine ⟨rfl,_,rfl,?_⟩;by_cases h0:x.head?=some 40
  case neg=>
   have hne:¬ (V.str (mkS (x.take 1))=V.str "("):=λz=>h0 (by
    have:=congrArg (λu:Str=>u.cps.toList) (V.str.inj z);have:x.take 1=[40]:=this;cases x with
    | nil=>cases this
    | cons c x=>exact congrArg some (List.cons.inj this).1)
   rw [decide_eq_false hne];refine GI ?_;obtain ⟨u,ws,e,ex⟩:=WM x;refine ⟨_,rfl,rfl,mkS x,(" " : Str),rfl,rfl,by decide +kernel,by rw [Gk];lia,VH _ _ (by rw [Gk];lia),λl hl=>?_⟩;have es:Txt.split (mkS x) (" " : Str)=mkS u::ws.map mkS:=by
    rw [UP];show (Wsp x).map mkS=_;rw [e];rfl
   rw [es];have hcnt:=VJ x;rw [e,List.length_cons] at hcnt;have hc:=px.2.2;unfold cst at hc;refine ⟨l,mkS u,ws.map mkS,rfl,Gb,λv hv=>?_,by rw [List.length_map];lia,λd hd v H' s' t'=>q1 d (Zdd ex hd) v H' ((Same.new hl).trans s') t',λhd H' s'=>q0 (λd hw=>hd d (Yu h0 e hw)) H' ((Same.new hl).trans s')⟩;obtain ⟨v',hv',rfl⟩:=List.mem_map.mp hv;have hin:v'∈Wsp x:=by rw [e];exact List.mem_cons_of_mem _ hv'
   refine Ua (λc hc=>px.1 c (Z0 hin c hc)) ?_;have:=Z1 hin;show v'.length<=_
   lia
  case pos=>
   have heq:V.str (mkS (x.take 1))=V.str "(" := by
    cases x with
    | nil=>cases h0
    | cons c x=>cases h0;rfl
   rw [decide_eq_true heq];refine GR ?_;have x0:1<=x.length:=by
    cases x with
    | nil=>cases h0
    | cons c x=>rw [List.length_cons];lia
   refine ⟨_,rfl,mkS x,rfl,by rw [Gk];lia,1,_,rfl,⟨by decide,by decide,by lia,by rw [Gk];lia⟩,?_⟩;rw [Gk];refine JT (lo:=1) (n:=((x.length:Int)-1).toNat) (λi σ' H'=>∃(v3 v4 v5 v6:Option V),σ'=[some (.str (mkS x)),some (.int ((m+1:Nat):Int)),some (.int (lv ((x.take (i+1)).drop 1))),v3,v4,v5,v6]/\Same H H'/\∀j,j<i+1->¬ Stp x j) ⟨none,none,none,none,?_,Same.refl _,λj hj z=>by have:=z.1;lia⟩ ?_ ?_
   ·have:(x.take (0+1)).drop 1=[]:=by
     cases x with
     | nil=>rfl
     | cons c x=>rfl
    rw [this]
    rfl
   ·rintro i σ' H1 hi ⟨v3,v4,v5,v6,rfl,s1,no⟩;have hi':i+1<x.length:=by lia
    obtain ⟨c,hc⟩:∃c,x[i+1]?=some c:=⟨_,List.getElem?_eq_getElem hi'⟩;have hat:atI (mkS x).cps.toList ((1:Int)+(i:Int))=some c:=by
     rw [show (1:Int)+(i:Int)=((i+1:Nat):Int) by lia];exact Gi (xs:=x) hc
    have lx:(mkS x).length<=sizeLine:=by rw [Gk];lia
    dsimp only [JN];have hlev:lv ((x.take (i+1)).drop 1)+(if decide (c=40)=true then 1 else 0)-(if decide (c=41)=true then 1 else 0)=lv ((x.take (i+1+1)).drop 1):=by
     rw [V5 hc];unfold sg;by_cases h1:c=40
     ·subst h1;simp
     ·by_cases h2:c=41
      ·subst h2;simp;lia
      ·simp [h1,h2]
    refine ⟨_,rfl,_,rfl,_,rfl,_,_,c,rfl,rfl,lx,hat,rfl,.inr ⟨_,rfl,?_⟩⟩;refine ⟨_,_,rfl,rfl,_,rfl,_,rfl,_,_,c,rfl,rfl,lx,hat,rfl,.inr ⟨_,rfl,_,_,rfl,rfl,?_⟩⟩;dsimp only [JN];rw [show decide (V.str ⟨#[c]⟩=V.str "(")=decide (c=40) from Uc c 40,show decide (V.str ⟨#[c]⟩=V.str ")")=decide (c=41) from Uc c 41,hlev];refine ⟨_,rfl,rfl,_,rfl,?_⟩;have next:¬ Stp x (i+1)->∀(v4 v5 v6:Option V)(H2:Hp),Same H H2->∃(v3 v4' v5' v6':Option V),([some (.str (mkS x)),some (.int ((m+1:Nat):Int)),some (.int (lv ((x.take (i+1+1)).drop 1))),some (.int (1+(i:Int))),v4,v5,v6]:St)=[some (.str (mkS x)),some (.int ((m+1:Nat):Int)),some (.int (lv ((x.take (i+1+1)).drop 1))),v3,v4',v5',v6']/\Same H H2/\∀j,j<i+1+1->¬ Stp x j:=λhs v4 v5 v6 H2 s2=>⟨_,_,_,_,rfl,s2,λj hj z=>(Nat.lt_or_ge j (i+1)).elim (λh=>no j h z) λh=>hs (by rw [show i+1=j by lia];exact z)⟩
    by_cases hl0:lv ((x.take (i+1+1)).drop 1)=0
    case neg=>
     rw [decide_eq_false (λz=>hl0 (V.int.inj z))];refine GR (GR ?_);refine next (λz=>hl0 ?_) _ _ _ _ s1
     have h2:=z.2.1;have h3:=z.2.2.1;rw [hc] at h2;cases h2;rw [V5 hc,h3]
     rfl
    rw [decide_eq_true (by rw [hl0])];refine GI ?_;refine ⟨_,rfl,_,rfl,_,_,c,rfl,rfl,lx,hat,rfl,_,rfl,?_⟩;rw [show decide (V.str ⟨#[c]⟩=V.str " ")=decide (c=32) from Uc c 32];by_cases h32:c=32
    case neg=>
     rw [decide_eq_false h32];refine GR ?_;refine next (λz=>h32 ?_) _ _ _ _ s1
     have h2:=z.2.1;rw [hc] at h2;exact Option.some.inj h2
    subst h32;rw [decide_eq_true rfl];refine GI ?_;have hl1:lv ((x.take (i+1)).drop 1)=0:=by
     rw [V5 hc] at hl0;have:sg 32=0:=rfl
     lia
    refine ⟨_,rfl,_,rfl,_,_,rfl,rfl,_,rfl,_,rfl,lx,?_⟩;rw [show (1:Int)+(i:Int)+1=((i+1+1:Nat):Int) by lia,ZbH x (by lia)];refine ⟨rfl,_,(" " : Str),rfl,rfl,by decide +kernel,by rw [Gk,List.length_drop];lia,λt ht=>?_⟩;rw [ZbB];generalize (Txt.partition (mkS (x.drop (i+1+1))) (" " : Str)).2.1=A2;generalize (Txt.partition (mkS (x.drop (i+1+1))) (" " : Str)).2.2=A3;have s2:=s1.trans (Same.new (o:=.tup [.str (mkS (fw (x.drop (i+1+1)))),.str A2,.str A3]) ht);have e2:upd H1 t (.tup [.str (mkS (fw (x.drop (i+1+1)))),.str A2,.str A3]) t=some (.tup [.str (mkS (fw (x.drop (i+1+1)))),.str A2,.str A3]):=Gb;generalize upd H1 t (.tup [.str (mkS (fw (x.drop (i+1+1)))),.str A2,.str A3])=H2 at s2 e2 ⊢;refine ⟨t,_,_,_,rfl,rfl,SqT.of e2,Gi (j:=0) rfl,?_⟩;dsimp only [JN];refine ⟨_,rfl,by show 3<=sizeLine;lia,λp hp=>?_⟩;have s3:=s2.trans (Same.new (o:=.lst [.str "and", .str "or", .str "but"]) hp);have e3:upd H2 p (.lst [.str "and", .str "or", .str "but"]) p=some (.lst [.str "and", .str "or", .str "but"]):=Gb;generalize upd H2 p (.lst [.str "and", .str "or", .str "but"])=H3 at s3 e3 ⊢;refine ⟨p,sJoin.map V.str,rfl,.inl (SqL.of e3),rfl,rfl,_,rfl,?_⟩;show if (inV (.str _) (sJoin.map V.str))=true then _ else _
    rw [GQ];by_cases hj:mkS (fw (x.drop (i+1+1)))∈sJoin
    case neg=>
     rw [decide_eq_false hj];refine GR (GR ?_);exact next (λz=>hj z.2.2.2.1) _ _ _ _ s3
    rw [decide_eq_true hj];refine GI ?_;obtain ⟨b,hb⟩:∃b,x.getLast?=some b:=⟨_,List.getLast?_eq_some_getLast (λz=>by rw [z] at x0;exact absurd x0 (by decide))⟩;have hat2:atI (mkS x).cps.toList (-1)=some b:=by
     obtain ⟨y,rfl⟩:=List.getLast?_eq_some_iff.mp hb;exact O4 y b
    refine ⟨_,rfl,_,rfl,_,_,b,rfl,rfl,lx,hat2,rfl,_,rfl,?_⟩;rw [show decide (V.str ⟨#[b]⟩=V.str ")")=decide (b=41) from Uc b 41];by_cases h41:b=41
    case neg=>
     rw [decide_eq_false h41];refine GR ?_;refine next (λz=>h41 ?_) _ _ _ _ s3
     have h2:=z.2.2.2.2;rw [hb] at h2;exact Option.some.inj h2
    subst h41;rw [decide_eq_true rfl];refine GI ?_;have st:Stp x (i+1):=⟨by lia,hc,hl1,hj,hb⟩;have cut:=ZbC st h0;have inv:=λd=>ZbD (n:=m) (d:=d) h0 st no;generalize hfw:fw (x.drop (i+1+1))=u at *;have lj:=congrArg List.length cut;rw [Us] at lj;have lu:(mkS u).length=u.length:=Gk u;have ld:((x.drop (i+1+u.length+2)).dropLast).length=x.length-(i+1+u.length+2)-1:=by rw [List.length_dropLast,List.length_drop]
    have ls:((x.take (i+1)).drop 1).length=i:=by rw [List.length_drop,List.length_take];lia
    have es:(x.drop 1).take (i+1-1)=(x.take (i+1)).drop 1:=by rw [List.drop_take]
    have hwl:i+1+u.length+2<x.length:=by lia
    generalize hS:(x.take (i+1)).drop 1=S at *;generalize hT:(x.drop (i+1+u.length+2)).dropLast=T at *;have pS:Txy S:=px.sub (a:=[40]) (c:=32::(u++32::(T++[41]))) cut;have pT:Txy T:=px.sub (a:=40::(S++32::(u++[32]))) (c:=[41]) (by rw [cut];unfold Jg;show 40::(S++32::(u++32::(T++[41])))=_;simp);have dm:((m+1:Nat):Int)-1=(m:Int):=by lia
    have after:∀(v5:V)(H4:Hp),Same H H4->((∃a,Wr m S a/\Th H4 v5 a)\/(v5=.non/\∀a,¬ Wr m S a))->V6 m [.str (mkS T),.int (m:Int)] H4 (λv6 H5=>ZbQ (ZdB (tOr (WT (tOp (λx y H Q=>y=.non/\Q (.bl (decide (x=.non))) H) (OT 5) (tC .non))) (WT (tOp (λx y H Q=>y=.non/\Q (.bl (decide (x=.non))) H) (OT 6) (tC .non)))) (ZE (tC .non)) VO) (ZE (ZdD (JQ (OT 4) (JQ (OT 5) (JQ (OT 6) Xi))))) { nx:=λx H'=>Q V.non H',rt:=Q } [some (.str (mkS x)),some (.int ((m+1:Nat):Int)),some (.int (lv ((x.take (i+1+1)).drop 1))),some (.int (1+(i:Int))),some (.str (mkS u)),some v5,some v6] H5) E0:=by
     intro v5 H4 s4 h5;refine ⟨T,rfl,pT,λb wb v6 H5 s5 t6=>?_,λnb H5 s5=>?_⟩
     ·rcases h5 with ⟨a,wa,t5⟩ | ⟨rfl,na⟩
      ·have n5:¬ v5=.non:=λz=>by obtain ⟨_,_,wsa,_⟩:=wa;rw [z] at t5;cases t5;cases wsa
       have n6:¬ v6=.non:=λz=>by obtain ⟨_,_,wsb,_⟩:=wb;rw [z] at t6;cases t6;cases wsb
       refine ⟨_,rfl,rfl,_,rfl,?_⟩;rw [decide_eq_false n5];refine GR ⟨_,rfl,rfl,_,rfl,?_⟩;rw [decide_eq_false n6];refine GR ?_;refine ⟨_,rfl,_,rfl,_,rfl,by show 3<=sizeLine;lia,λt7 ht7=>?_⟩;have s7:=Same.new (o:=.tup [.str (mkS u),v5,v6]) ht7;refine q1 _ ?_ _ _ (s4.trans (s5.trans s7)) (.tup Gb (by simp) (.cons (.str _) (.cons ((t5.same s5).same s7) (.cons (t6.same s7) .nil))));rw [cut];exact Zbz hj wa wb
      ·refine ⟨_,rfl,rfl,_,rfl,GI (GI ?_)⟩;refine q0 (λd hd=>?_) _ (s4.trans s5);obtain ⟨a,b,_,wa,_⟩:=inv d hd;exact na a wa
     ·have bad:Q .non H5:=q0 (λd hd=>by obtain ⟨a,b,_,_,wb⟩:=inv d hd;exact nb b wb) _ (s4.trans s5);refine ⟨_,rfl,rfl,_,rfl,?_⟩;by_cases n5:v5=.non
      ·rw [decide_eq_true n5];exact GI (GI bad)
      ·rw [decide_eq_false n5];exact GR ⟨_,rfl,rfl,_,rfl,GI bad⟩
    have e1:StrLaws.sliceText (mkS x) (some 1) (some (1+(i:Int)))=mkS S:=by
     rw [show (1:Int)+(i:Int)=((i+1:Nat):Int) by lia,show (1:Int)=((1:Nat):Int) from rfl,Yv x (a:=1) (by lia) (by lia),es]
    have e2':StrLaws.sliceText (mkS x) (some (1+(i:Int)+((mkS u).length:Int)+2)) (some (-1))=mkS T:=by
     rw [lu,show (1:Int)+(i:Int)+(u.length:Int)+2=((i+1+u.length+2:Nat):Int) by lia,ZbI x hwl,hT]
    have two:∀(v5:V)(H4:Hp),Same H H4->((∃a,Wr m S a/\Th H4 v5 a)\/(v5=.non/\∀a,¬ Wr m S a))->_:=λv5 H4 s4 h5=>(⟨_,rfl,_,rfl,_,rfl,mkS u,rfl,by rw [lu];lia,_,_,rfl,rfl,_,_,rfl,rfl,_,rfl,_,rfl,_,rfl,_,rfl,lx,_,rfl,_,_,rfl,rfl,by rw [e2'];have h9:=after v5 H4 s4 h5;rw [<-dm] at h9;exact h9⟩:Zad (VP (V6 m) [] E0 (JQ (tSl (λx lo hi H Q=>∃z:Str,x=.str z/\z.length<=sizeLine/\Q (.str (StrLaws.sliceText z lo hi)) H) (OT 0) (Zao (tOp (rI0 λi j=>V.int (i+j)) (tOp (rI0 λi j=>V.int (i+j)) (OT 3) (tCB (λxs H Q=>∃x:Str,xs=[.str x]/\x.length<=16777216/\Q (.int x.length) H) (JQ (OT 4) Xi))) (tC (.int 2)))) (Zao (tUn (rU λi=>V.int (-i)) (tC (.int 1))))) (JQ (tOp (rI0 λi j=>V.int (i-j)) (OT 1) (tC (.int 1))) Xi))) (JN 6) { nx:=ZbQ (ZdB (tOr (WT (tOp (λx y H Q=>y=.non/\Q (.bl (decide (x=.non))) H) (OT 5) (tC .non))) (WT (tOp (λx y H Q=>y=.non/\Q (.bl (decide (x=.non))) H) (OT 6) (tC .non)))) (ZE (tC .non)) VO) (ZE (ZdD (JQ (OT 4) (JQ (OT 5) (JQ (OT 6) Xi))))) { nx:=λx H'=>Q V.non H',rt:=Q },rt:=Q } [some (.str (mkS x)),some (.int ((m+1:Nat):Int)),some (.int (lv ((x.take (i+1+1)).drop 1))),some (.int (1+(i:Int))),some (.str (mkS u)),some v5,v6] H4);refine ⟨_,rfl,1,rfl,_,rfl,_,rfl,_,rfl,lx,_,rfl,_,_,rfl,rfl,S,by rw [e1];show [V.str (mkS S),V.int (((m+1:Nat):Int)-1)]=_;rw [dm],pS,λa wa v5 H4 s4 t5=>?_,λna H4 s4=>?_⟩
    ·exact two v5 H4 (s3.trans s4) (.inl ⟨a,wa,t5⟩)
    ·exact two .non H4 (s3.trans s4) (.inr ⟨rfl,na⟩)
   ·rintro σ' H1 ⟨v3,v4,v5,v6,rfl,s1,no⟩;refine q0 (λd=>Zef h0 λj z=>?_) _ s1;obtain ⟨hj,_⟩:=List.getElem?_eq_some_iff.mp z.2.1;exact no j (by lia) z
theorem Z6 {f fPlr:Addr}{fd fdPlr:FuncData}(FLre:Fun K "_law_read" "_law_read" ZV f fd)(bLre:Binds K fd ["text", "depth"] [])(mLre:mg "_law_read" = some (.ref f))(FPlr:Fun K "_law_plain_read" "_law_plain_read" ZU fPlr fdPlr)(bPlr:Binds K fdPlr ["words"] [])(mPlr:mg "_law_plain_read" = some (.ref fPlr))(GPlr:Jl P w K mg base CX0 2 fPlr fdPlr ["words"] ZbG)(mLen:mg "len" = none)(mInt:mg "int" = none)(mRange:mg "range" = none):∀n,Jl P w K mg base CX0 (2+n+1) f fd ["text", "depth"] (V6 n)
 | 0=>WN FLre bLre mLre FPlr bPlr mPlr GPlr mLen mInt mRange 0 0 (λ_ _ _ _=>False) ⟨λ_ _ _ _ h=>h.elim,λ_ _ _ _ _ _ _ _ _ _ _ _ _ h=>h.elim⟩ (.inl rfl)
 | n+1=>WN FLre bLre mLre FPlr bPlr mPlr GPlr mLen mInt mRange (n+1) (n+1) (V6 n) (Z6 FLre bLre mLre FPlr bPlr mPlr GPlr mLen mInt mRange n) (.inr ⟨n,rfl,rfl⟩)
end
end M
namespace M
open PySem L2
section
variable {P:Program}{w:World}{K:W.Frag}{mg:Str->Option Value}{base:Heap}
theorem Zv:bootBuiltins "max" = some (.builtin "max"):=by first | rfl | decide +kernel
theorem V7 {p:Nat}{a:Int}(h:a.natAbs<2 ^ p:=by decide +kernel):Lt2 p a:=h
theorem Zeg {n:Int}(h:n.natAbs<2 ^ 40):Lt2 9000 n:=Nat.lt_of_lt_of_le h (Nat.pow_le_pow_right (by decide) (by decide))
theorem Yw {ns:List Int}{i:Nat}(h:i<ns.length):ns.getD i 0=ns[i]:=by
 rw [List.getD_eq_getElem?_getD,List.getElem?_eq_getElem h]
 rfl
theorem GY {ns:List Int}{i:Int}(h0:0<=i)(h1:i<ns.length):atI (ns.map V.int) i=some (.int (ns.getD i.toNat 0)):=by
 obtain ⟨k,rfl⟩:=Int.eq_ofNat_of_zero_le h0;have hk:k<ns.length:=by lia
 refine Gi ?_;show (ns.map V.int)[k]?=some (.int (ns.getD k 0));rw [List.getElem?_map,List.getD_eq_getElem?_getD,List.getElem?_eq_getElem hk]
 rfl
def Zdf (K:W.Frag):Sp:=λvs H Q _=>∃(a:Addr)(ns:List Int)(k:Nat),vs=[.ref a,.int (k:Int)]/\SqL K H a (ns.map V.int)/\∀z:Int,Q (.int z) H
theorem Zeh:Gz ["script", "k"] ["script", "k"] (Gh Za8):=⟨rfl,rfl,rfl,by decide +kernel,rfl,by decide +kernel,by decide +kernel⟩
theorem Zdg {f:Addr}{fd:FuncData}(F:Fun K "_law_cell_at" "_law_cell_at" Za8 f fd)(mLen:mg "len" = none):Jl P w K mg base CX0 1 f fd ["script", "k"] (Zdf K):=by
 refine F.ok Zeh (λvs H Q E h=>?_) (λcdv A outer s H vs Q E hr h=>?_)
 ·obtain ⟨_,_,_,rfl,_⟩:=h
  rfl
 ·obtain ⟨a,ns,k,rfl,hS,q⟩:=h;refine ⟨_,Ge (GT (Gj Zai (pv 1) (Gm (VS K) rfl mLen PySem.boot_len (Ga (pv 0) Gd)) (Gq _)) (Gf (Go (Gp (Jp K) (pv 0) (pv 1) (λ_ _=>rfl)))) Gr)
    (Gf (Go Gc)),?_⟩
  refine ⟨_,rfl,_,rfl,a,_,rfl,.inl hS,_,_,rfl,rfl,_,rfl,?_⟩;rw [List.length_map];refine Ox (λz=>?_) (λ_=>q 0);have z':=of_decide_eq_true z;exact ⟨_,rfl,_,rfl,a,_,_,_,rfl,rfl,hS,GY (by lia) z',q _⟩
def Zdh:Sp:=λvs H Q _=>∃(c:Int)(m:Nat),vs=[.int c,.int (m:Int)]/\m<=50/\∀(l:Addr)(row:List Int)(H':Hp),Same H H'->H' l=some (.lst (row.map V.int))->row.length=m->Q (.ref l) H'
theorem scNum:Gz ["cell", "many", "found", "rest", "stir", "k", "again"] ["cell", "many"] (Gh Za9):=⟨rfl,rfl,rfl,by decide +kernel,rfl,by decide +kernel,by decide +kernel⟩
theorem Zdi {f:Addr}{fd:FuncData}(F:Fun K "_law_numbers" "_law_numbers" Za9 f fd)(mRange:mg "range" = none):Jl P w K mg base CX0 1 f fd ["cell", "many"] Zdh:=by
 refine F.ok scNum (λvs H Q E h=>?_) (λcdv A outer s H vs Q E hr h=>?_)
 ·obtain ⟨_,_,rfl,_⟩:=h
  rfl
 ·obtain ⟨c,m,rfl,hm,q⟩:=h;have h16:(16777216:Nat)=sizeLine:=sizeLine_eq.symm;refine ⟨_,Ge (Gs (i:=2) scNum.nd rfl (Or.inl rfl) (GO Gd))
    (Ge (Gs (i:=3) scNum.nd rfl (Or.inl rfl) (pv 0))
    (Ge (Gs (i:=4) scNum.nd rfl (Or.inl rfl) (Gn GL (pv 0) Gc))
    (Ge (Om PassesOwn.never rfl (JB rfl mRange (Ga (pv 1) Gd)) (GV (i:=5) scNum.nd rfl (Or.inl rfl))
    (Gf (GT (PW.pt (Oy (Gj ZdQ (pv 0) (Gn Zb8 Gc Gc) (Gq _)) (JY (Gj Xv (pv 3) Gc (Gq _))))) (Ge (JJ (Op PySem.F.plainAttrs_list PySem.F.slot_list_append PySem.F.type_list_append Jn (pv 2) (Ga (Gn GL (pv 3) Gc) Gd)))
    (Gf (Gs (i:=3) scNum.nd rfl (Or.inl rfl) (Gn U0 (pv 3) Gc)))) (Ge (Gs (i:=4) scNum.nd rfl (Or.inl rfl) (Gn GL (Gn J5 (Gn Jd (Gn Jd (pv 4) (Gn J5 Gc (pv 5))) Gc) Gc) Gc))
    (Ge (Gs (i:=6) scNum.nd rfl (Or.inl rfl) (Gn GL (Gn J5 (Gn GL (Gn J5 (pv 4) (pv 4)) Gc) Gc) Gc))
    (Gf (JJ (Op PySem.F.plainAttrs_list PySem.F.slot_list_append PySem.F.type_list_append Jn (pv 2) (Ga (Gn GL (Gn U0 (pv 6) Gc) Gc) Gd)))))))))
    (Gf (Go (pv 2)))))),?_⟩
  refine ⟨Nat.zero_le _,λl hl=>?_⟩;refine ⟨_,rfl,?_⟩;refine ⟨_,rfl,_,_,rfl,rfl,(by show (0:Int)<2147483647;decide),?_⟩;refine ⟨_,rfl,_,rfl,by lia,by lia,?_⟩;rw [Int.toNat_natCast];refine JT (lo:=0) (n:=m) (λi σ H2=>∃(row:List Int)(r st:Int)(v5 v6:Option V),σ=[some (.int c),some (.int (m:Int)),some (.ref l),some (.int r),some (.int st),v5,v6]/\Same H H2/\H2 l=some (.lst (row.map V.int))/\row.length=i) ⟨[],_,_,none,none,rfl,Same.new hl,Gb,rfl⟩ ?_ ?_
  ·rintro i σ H2 hi ⟨row,r,st,v5,v6,rfl,s2,e2,rl⟩;rw [Int.zero_add];refine ⟨_,rfl,_,_,rfl,rfl,⟨by decide,by decide,by decide⟩,_,_,rfl,rfl,_,rfl,Ox (λ_=>?_) (λ_=>?_)⟩
   ·refine ⟨_,rfl,_,_,rfl,rfl,_,rfl,Ox (λ_=>?_) (λ_=>?_)⟩
    ·refine ⟨_,rfl,.inl ⟨rfl,_,SqL.of e2⟩,_,rfl,_,_,rfl,rfl,(by show (0:Int)<64;decide),l,_,_,rfl,rfl,e2,by rw [List.length_map];lia,?_⟩;refine ⟨_,rfl,_,_,rfl,rfl,⟨by decide,V7⟩,?_⟩;exact ⟨row++[_],_,_,_,_,rfl,s2.put hl,by rw [Gb,List.map_append];rfl,by rw [List.length_append,List.length_singleton,rl]⟩
    ·refine ⟨_,rfl,_,rfl,_,_,rfl,rfl,.inl ⟨by decide,by decide⟩,_,_,rfl,rfl,_,_,rfl,rfl,_,_,rfl,rfl,.inr ⟨by decide,by decide⟩,_,_,rfl,rfl,(by show (0:Int)<2147483647;decide),?_⟩;refine ⟨_,rfl,_,rfl,_,_,rfl,rfl,.inl ⟨by lia,by lia⟩,_,_,rfl,rfl,(by show (0:Int)<2147483629;decide),_,_,rfl,rfl,.inr ⟨by decide,by decide⟩,_,_,rfl,rfl,(by show (0:Int)<2147483587;decide),?_⟩;refine ⟨_,rfl,.inl ⟨rfl,_,SqL.of e2⟩,_,rfl,_,_,rfl,rfl,⟨by decide,V7⟩,_,_,rfl,rfl,(by show (0:Int)<720720;decide),l,_,_,rfl,rfl,e2,by rw [List.length_map];lia,?_⟩;exact ⟨row++[_],_,_,_,_,rfl,s2.put hl,by rw [Gb,List.map_append];rfl,by rw [List.length_append,List.length_singleton,rl]⟩
   ·refine GR ?_;refine ⟨_,rfl,_,rfl,_,_,rfl,rfl,.inl ⟨by decide,by decide⟩,_,_,rfl,rfl,_,_,rfl,rfl,_,_,rfl,rfl,.inr ⟨by decide,by decide⟩,_,_,rfl,rfl,(by show (0:Int)<2147483647;decide),?_⟩;refine ⟨_,rfl,_,rfl,_,_,rfl,rfl,.inl ⟨by lia,by lia⟩,_,_,rfl,rfl,(by show (0:Int)<2147483629;decide),_,_,rfl,rfl,.inr ⟨by decide,by decide⟩,_,_,rfl,rfl,(by show (0:Int)<2147483587;decide),?_⟩;refine ⟨_,rfl,.inl ⟨rfl,_,SqL.of e2⟩,_,rfl,_,_,rfl,rfl,⟨by decide,V7⟩,_,_,rfl,rfl,(by show (0:Int)<720720;decide),l,_,_,rfl,rfl,e2,by rw [List.length_map];lia,?_⟩;exact ⟨row++[_],_,_,_,_,rfl,s2.put hl,by rw [Gb,List.map_append];rfl,by rw [List.length_append,List.length_singleton,rl]⟩
  ·rintro σ H2 ⟨row,r,st,v5,v6,rfl,s2,e2,rl⟩;exact ⟨_,rfl,q l row H2 s2 e2 rl⟩
theorem Ov (ws:List Str){j:Int}(h0:0<=j)(h1:j<ws.length):∃wd∈ws,atI (ws.map V.str) j=some (.str wd):=by
 obtain ⟨k,rfl⟩:=Int.eq_ofNat_of_zero_le h0;have hk:k<ws.length:=by lia
 refine ⟨ws[k],List.getElem_mem hk,Gi ?_⟩;show (ws.map V.str)[k]?=some (.str ws[k]);rw [List.getElem?_map,List.getElem?_eq_getElem hk]
 rfl
theorem V8 (ns:List Int){j:Int}(h0:0<=j)(h1:j<ns.length):∃z∈ns,atI (ns.map V.int) j=some (.int z):=by
 obtain ⟨k,rfl⟩:=Int.eq_ofNat_of_zero_le h0;have hk:k<ns.length:=by lia
 refine ⟨ns[k],List.getElem_mem hk,Gi ?_⟩;show (ns.map V.int)[k]?=some (.int ns[k]);rw [List.getElem?_map,List.getElem?_eq_getElem hk]
 rfl
def nine:List Str:=["open", "closed", "with", "off", "over", "past", "long", "shy", "all"]
theorem Yx {wd:Str}(h:wd∈nine):wd∈sBare\/wd∈sPair\/wd∈sFour:=by
 have:∀x∈nine,x∈sBare\/x∈sPair\/x∈sFour:=by decide +kernel
 exact this wd h
inductive Wc:PyData->Nat->Nat->Prop
 | leaf {w:Str} {rest:List PyData}:Ja w rest=true->(Jx w rest).length<=6->Wc (.tuple (.str w::rest)) 1 6
 | join {w:Str} {a b:PyData} {m n p q:Nat}:w∈sJoin->Wc a m p->Wc b n q->Wc (.tuple [.str w,a,b]) (max m n+1) (p+q+6)
theorem Wc.ws {d:PyData}{m c:Nat}(h:Wc d m c):Ws d m:=by
 induction h with
 | leaf h _=>exact .leaf h
 | join hw _ _ iha ihb=>exact .join hw iha ihb
theorem Wc.pos {d:PyData}{m c:Nat}(h:Wc d m c):1<=m:=h.ws.pos
theorem Z7 {wd:Str}(h:wd∈sBare):Wc (.tuple [.str wd]) 1 6:=.leaf (by unfold Ja;rw [if_pos h];rfl) (by unfold Jx;split <;> simp)
theorem Zdj {wd:Str}{a b:Int}(h:wd∈sPair)(ha:0<=a/\a<=9999)(hb:0<=b/\b<=9999):Wc (.tuple [.str wd,.int a,.int b]) 1 6:=by
 have h1:∀w∈sPair,w ∉ sBare/\w ∉ sFour:=by decide +kernel
 refine .leaf ?_ (by unfold Jx;rw [if_neg (h1 wd h).2];simp);unfold Ja;rw [if_neg (h1 wd h).1,if_pos h];simp [Ol,ha.1,ha.2,hb.1,hb.2]
theorem Z8 {wd:Str}{ds:List PyData}(h:wd∈sFour)(hd:ds.all Ol=true)(hl:ds.length<=6):Wc (.tuple [.str wd,.tuple ds]) 1 6:=by
 have h1:∀w∈sFour,w ∉ sBare/\w ∉ sPair:=by decide +kernel
 refine .leaf ?_ (by unfold Jx;rw [if_pos h];exact hl);unfold Ja;rw [if_neg (h1 wd h).1,if_neg (h1 wd h).2,if_pos h];exact hd
def ZbJ (H:Hp)(Q:VK)(b c:Nat):Prop:=∀(v:V)(d:PyData)(m k:Nat)(H':Hp),Same H H'->Th H' v d->Wc d m k->m<=b->k<=c->Q v H'
def Zdk:Sp:=λvs H Q _=>∃(xl:Addr)(ns:List Int),vs=[.ref xl]/\H xl=some (.lst (ns.map V.int))/\ns.length=6/\ZbJ H Q 1 6
theorem scSom:Gz ["xs", "word", "great"] ["xs"] (Gh Zba):=⟨rfl,rfl,rfl,by decide +kernel,rfl,by decide +kernel,by decide +kernel⟩
theorem US {ms:List Int}(h:∀m∈ms,0<=m/\m<=9999):(ms.map PyData.int).all Ol=true:=by
 rw [List.all_map,List.all_eq_true];intro m hm;have:=h m hm;simp [Ol,this.1,this.2]
theorem Vc (H:Hp):∀ms:List Int,Ths H (ms.map V.int) (ms.map PyData.int)
 | []=>.nil
 | m::ms=>.cons (.int m) (Vc H ms)
theorem Zdl {f:Addr}{fd:FuncData}(F:Fun K "_law_some" "_law_some" Zba f fd)(mRange:mg "range" = none)(mTup:mg "tuple" = none):Jl P w K mg base CX0 1 f fd ["xs"] Zdk:=by
 refine F.ok scSom (λvs H Q E h=>?_) (λcdv A outer s H vs Q E hr h=>?_)
 ·obtain ⟨_,_,rfl,_⟩:=h
  rfl
 ·obtain ⟨xl,ns,rfl,exl,hn,q⟩:=h;have h16:(16777216:Nat)=sizeLine:=sizeLine_eq.symm;refine ⟨_,Ge (Gs (i:=1) scSom.nd rfl (Or.inl rfl) (Gp (Jp K) (GO (Ga Gg (Ga Gg (Ga Gg (Ga Gg (Ga Gg (Ga Gg (Ga Gg (Ga Gg (Ga Gg Gd)))))))))) (Gn GL (Gp (Jp K) (pv 0) Gc (λ_ _=>rfl)) Gc) (λ_ _=>rfl)))
    (Ge (GT (PW.pt (JS (Gj Jj (pv 1) Gg (Gq _)) (JS (Gj Jj (pv 1) Gg (Gq _)) (JO (Gj Jj (pv 1) Gg (Gq _)))))) (Gf (Go (Je (Ga (pv 1) Gd)))) Gr)
    (Ge (Gs (i:=2) scSom.nd rfl (Or.inr rfl) (Gp (Jp K) (GO (Ga (Gn GL (Gp (Jp K) (pv 0) Gc (λ_ _=>rfl)) Gc) (Ga (Gn GL (Gn J5 (Gp (Jp K) (pv 0) Gc (λ_ _=>rfl)) Gc) Gc) (Ga Gc (Ga Gc Gd))))) (Gn GL (Gp (Jp K) (pv 0) Gc (λ_ _=>rfl)) Gc) (λ_ _=>rfl)))
    (Ge (GT (PW.pt (JS (Gj Jj (pv 1) Gg (Gq _)) (JO (Gj Jj (pv 1) Gg (Gq _))))) (Gf (Go (Je (Ga (pv 1) (Ga (pv 2) (Ga (Gp (Jp K) (GO (Ga (Gn GL (Gp (Jp K) (pv 0) Gc (λ_ _=>rfl)) Gc) (Ga Gc (Ga (Gn GL (Gn J5 (Gp (Jp K) (pv 0) Gc (λ_ _=>rfl)) Gc) Gc) Gd)))) (Gn GL (Gp (Jp K) (pv 0) Gc (λ_ _=>rfl)) Gc) (λ_ _=>rfl)) Gd)))))) Gr)
    (Gf (Go (Je (Ga (pv 1) (Ga (Jm (ZM K) rfl mTup Ji (Ga (OJ (own:=["j"]) rfl (JA (fr:=[("xs", 0),("great", 2)]) [(".0", .local),("j", .local),("great", .cell),("xs", .cell)] rfl rfl (by decide +kernel) rfl (by decide +kernel) ⟨rfl,rfl,trivial⟩ ⟨λh=>UB h,λh=>UB h,λ_=>⟨_,rfl⟩,λ_=>⟨_,rfl⟩,trivial⟩ ⟨⟨rfl,.inl rfl,.inl rfl⟩,⟨rfl,.inl rfl,.inl rfl⟩,trivial⟩) (JB rfl mRange (Ga (Gn GL (Gp (Jp K) (pv 0) Gc (λ_ _=>rfl)) Gc) Gd)) (λ_ _ _ _=>GV (i:=0) (show List.Nodup (["j", "xs", "great"]:List Str) by decide +kernel) rfl (Or.inl rfl)) (λ_ _ _ _=>JZ) (λ_ _ _ _=>Gp (Jp K) (GO (Ga (pv 2) (Ga (Gn GL (Gn J5 (Gp (Jp K) (pv 1) (Gn Jd Gc (Gn GL (pv 0) Gc)) (λ_ _=>rfl)) (Gn Jd (pv 0) Gc)) Gc) Gd))) (Gn GL (pv 0) Gc) (λ_ _=>rfl))) Gd)) Gd)))))))),?_⟩
  refine GD (λσ' H'=>∃wd:Str,σ'=[some (.ref xl),some (.str wd),none]/\Same H H'/\wd∈nine) ?s1 ?f1
  case f1=>
   intro hk;refine ⟨(by show 9<=sizeLine;lia),λp hp=>?_⟩;have s1:Same H (upd H p (.lst (nine.map V.str))):=Same.new hp;obtain ⟨wd,hwd,ewd⟩:=Ov nine (j:=ns.getD (0:Int).toNat 0 % 9) (Int.emod_nonneg _ (by decide)) (Int.emod_lt_of_pos _ (by decide));refine ⟨_,rfl,xl,_,_,_,rfl,rfl,SqL.of (s1 _ _ exl),GY (by lia) (by lia),_,_,rfl,rfl,(by show (0:Int)<9;decide),p,_,_,_,rfl,rfl,SqL.of Gb,ewd,?_⟩;exact hk _ _ ⟨wd,rfl,s1,hwd⟩
  rintro σ' H1 ⟨wd,rfl,s1,hwd⟩;have exl1:=s1 _ _ exl;refine GD (λσ' H'=>σ'=[some (.ref xl),some (.str wd),none]/\H1=H'/\wd ∉ sBare) ?s2 ?f2
  case f2=>
   intro hk;have bare:wd∈sBare->∀p,H1 p=none->Q (.ref p) (upd H1 p (.tup [.str wd])):=λh p hp=>q _ _ 1 6 _ (s1.put (s1.free hp)) (.tup Gb (by simp) (.cons (.str wd) .nil)) (Z7 h) (Nat.le_refl _) (Nat.le_refl _);refine ⟨_,rfl,rfl,_,rfl,Ox (λc1=>?_) (λc1=>?_)⟩
   ·have c1:=V.str.inj (of_decide_eq_true c1);exact GI ⟨_,rfl,(by show 1<=sizeLine;lia),bare (by rw [c1];decide +kernel)⟩
   refine ⟨_,rfl,rfl,_,rfl,Ox (λc2=>?_) (λc2=>?_)⟩
   ·have c2:=V.str.inj (of_decide_eq_true c2);exact GI ⟨_,rfl,(by show 1<=sizeLine;lia),bare (by rw [c2];decide +kernel)⟩
   refine ⟨_,rfl,rfl,_,rfl,Ox (λc3=>?_) (λc3=>?_)⟩
   ·have c3:=V.str.inj (of_decide_eq_true c3);exact ⟨_,rfl,(by show 1<=sizeLine;lia),bare (by rw [c3];decide +kernel)⟩
   refine hk _ _ ⟨rfl,rfl,λz=>?_⟩;unfold sBare at z;rcases List.mem_cons.mp z with z | z
   ·exact c1 (decide_eq_true (congrArg V.str z))
   rcases List.mem_cons.mp z with z | z
   ·exact c2 (decide_eq_true (congrArg V.str z))
   ·rw [List.mem_singleton] at z;exact c3 (decide_eq_true (congrArg V.str z))
  rintro σ' H' ⟨rfl,rfl,hnb⟩;refine GD (λσ' H'=>∃g:Int,σ'=[some (.ref xl),some (.str wd),some (.int g)]/\Same H H'/\0<=g/\g<=9999) ?s3 ?f3
  case f3=>
   intro hk;refine ⟨_,rfl,xl,_,_,_,rfl,rfl,SqL.of exl1,GY (by lia) (by lia),_,_,rfl,rfl,(by show (0:Int)<12;decide),_,rfl,xl,_,_,_,rfl,rfl,SqL.of exl1,GY (by lia) (by lia),_,_,rfl,rfl,.inr ⟨by decide,by decide⟩,_,_,rfl,rfl,(by show (0:Int)<10000;decide),(by show 4<=sizeLine;lia),λp hp=>?_⟩;have s2:=s1.put (o:=.lst (([ns.getD (1:Int).toNat 0 % 12,ns.getD (1:Int).toNat 0 * 641 % 10000,9999,0]:List Int).map V.int)) (s1.free hp);obtain ⟨g,hg,eg⟩:=V8 [ns.getD (1:Int).toNat 0 % 12,ns.getD (1:Int).toNat 0 * 641 % 10000,9999,0] (j:=ns.getD (2:Int).toNat 0 % 4) (Int.emod_nonneg _ (by decide)) (Int.emod_lt_of_pos _ (by decide));refine ⟨_,rfl,xl,_,_,_,rfl,rfl,SqL.of (s2 _ _ exl),GY (by lia) (by lia),_,_,rfl,rfl,(by show (0:Int)<4;decide),p,_,_,_,rfl,rfl,SqL.of Gb,eg,?_⟩;refine hk _ _ ⟨g,rfl,s2,?_⟩;simp only [List.mem_cons,List.not_mem_nil,or_false] at hg
   lia
  rintro σ' H2 ⟨g,rfl,s2,hg0,hg1⟩;have exl2:=s2 _ _ exl;have pair:wd∈sPair->ZE (ZdD (JQ (OT 1) (JQ (OT 2) (JQ (tOp (ZbR K) (Zew (JQ (tOp (rI (λ_ j=>0<j) λi j=>V.int (i % j)) (tOp (ZbR K) (OT 0) (tC (V.int 3))) (tC (V.int 5))) (JQ (tC (V.int 9999)) (JQ (tOp (rI (λ_ j=>0<j) λi j=>V.int (i % j)) (tOp (rI CMul λi j=>V.int (i * j)) (tOp (ZbR K) (OT 0) (tC (V.int 3))) (tC (V.int 157))) (tC (V.int 10000))) Xi)))) (tOp (rI (λ_ j=>0<j) λi j=>V.int (i % j)) (tOp (ZbR K) (OT 0) (tC (V.int 4))) (tC (V.int 3)))) Xi)))) { nx:=λx H'=>Q V.non H',rt:=Q } [some (.ref xl),some (.str wd),some (.int g)] H2:=λh=>by
   refine ⟨_,rfl,_,rfl,_,rfl,xl,_,_,_,rfl,rfl,SqL.of exl2,GY (by lia) (by lia),_,_,rfl,rfl,(by show (0:Int)<5;decide),_,rfl,xl,_,_,_,rfl,rfl,SqL.of exl2,GY (by lia) (by lia),_,_,rfl,rfl,.inr ⟨by decide,by decide⟩,_,_,rfl,rfl,(by show (0:Int)<10000;decide),(by show 3<=sizeLine;lia),λp hp=>?_⟩;have s3:=s2.put (o:=.lst (([ns.getD (3:Int).toNat 0 % 5,9999,ns.getD (3:Int).toNat 0 * 157 % 10000]:List Int).map V.int)) (s2.free hp);obtain ⟨g2,hg2,eg2⟩:=V8 [ns.getD (3:Int).toNat 0 % 5,9999,ns.getD (3:Int).toNat 0 * 157 % 10000] (j:=ns.getD (4:Int).toNat 0 % 3) (Int.emod_nonneg _ (by decide)) (Int.emod_lt_of_pos _ (by decide));refine ⟨_,rfl,xl,_,_,_,rfl,rfl,SqL.of (s3 _ _ exl),GY (by lia) (by lia),_,_,rfl,rfl,(by show (0:Int)<3;decide),p,_,_,_,rfl,rfl,SqL.of Gb,eg2,(by show 3<=sizeLine;lia),λp4 hp4=>?_⟩;simp only [List.mem_cons,List.not_mem_nil,or_false] at hg2;exact q _ _ 1 6 _ (s3.put (s3.free hp4)) (.tup Gb (by simp) (.cons (.str wd) (.cons (.int g) (.cons (.int g2) .nil)))) (Zdj h ⟨hg0,hg1⟩ (by lia)) (Nat.le_refl _) (Nat.le_refl _)
  refine ⟨_,rfl,rfl,_,rfl,Ox (λc1=>?_) (λc1=>?_)⟩
  ·have c1:=V.str.inj (of_decide_eq_true c1);exact GI (pair (by rw [c1];decide +kernel))
  refine ⟨_,rfl,rfl,_,rfl,Ox (λc2=>?_) (λc2=>?_)⟩
  ·have c2:=V.str.inj (of_decide_eq_true c2);exact pair (by rw [c2];decide +kernel)
  have h4:wd∈sFour:=by
   rcases Yx hwd with h | h | h
   ·exact absurd h hnb
   ·unfold sPair at h;rcases List.mem_cons.mp h with z | z
    ·exact absurd (decide_eq_true (congrArg V.str z)) c1
    ·rw [List.mem_singleton] at z;exact absurd (decide_eq_true (congrArg V.str z)) c2
   ·exact h
  have hr0:0<=ns.getD (5:Int).toNat 0 % 7:=Int.emod_nonneg _ (by decide);have hr1:ns.getD (5:Int).toNat 0 % 7<7:=Int.emod_lt_of_pos _ (by decide);refine ⟨_,rfl,_,rfl,xl,_,_,_,rfl,rfl,SqL.of exl2,GY (by lia) (by lia),_,_,rfl,rfl,(by show (0:Int)<7;decide),_,rfl,by lia,by lia,λD hD=>?_⟩;refine OK (lo:=0) (n:=(ns.getD (5:Int).toNat 0 % 7).toNat) (λj ys H'=>Same H2 H'/\H' D=some (.lst ys)/\∃ms:List Int,ys=ms.map V.int/\ms.length=j/\∀m∈ms,0<=m/\m<=9999) ⟨Same.new hD,Gb,[],rfl,rfl,λm hm=>(by cases hm)⟩ ?_ ?_
  ·rintro j ys H3 hj ⟨s3,eD,ms,rfl,hms,hb⟩;rw [Int.zero_add];have exl3:=s3 _ _ exl2;have hj7:j<7:=by lia
   have hj4:0<=(j:Int) % 4:=Int.emod_nonneg _ (by decide);have hj5:(j:Int) % 4<4:=Int.emod_lt_of_pos _ (by decide);refine ⟨⟨rfl,rfl,trivial⟩,?_⟩;unfold ZL;refine GI ?_;have hz0:0<=ns.getD (1+(j:Int) % 4).toNat 0 * ((j:Int)+1) % 10000:=Int.emod_nonneg _ (by decide);have hz1:ns.getD (1+(j:Int) % 4).toNat 0 * ((j:Int)+1) % 10000<10000:=Int.emod_lt_of_pos _ (by decide);refine ⟨_,rfl,_,rfl,_,rfl,_,_,rfl,rfl,(by show (0:Int)<4;decide),_,_,rfl,rfl,xl,_,_,_,rfl,rfl,SqL.of exl3,GY (by lia) (by lia),_,rfl,_,_,rfl,rfl,_,_,rfl,rfl,.inr ⟨by lia,by lia⟩,_,_,rfl,rfl,(by show (0:Int)<10000;decide),JK,λp hp=>?_⟩;obtain ⟨z,hz,ez⟩:=V8 [g,ns.getD (1+(j:Int) % 4).toNat 0 * ((j:Int)+1) % 10000] (j:=(j:Int) % 2) (Int.emod_nonneg _ (by decide)) (Int.emod_lt_of_pos _ (by decide));have s4:Same H3 (upd H3 p (.lst (([g,ns.getD (1+(j:Int) % 4).toNat 0 * ((j:Int)+1) % 10000]:List Int).map V.int))):=Same.new hp;refine ⟨_,rfl,_,_,rfl,rfl,(by show (0:Int)<2;decide),p,_,_,_,rfl,rfl,SqL.of Gb,ez,s4 _ _ eD,by rw [List.length_map];lia,(s3.trans s4).put hD,Gb,ms++[z],by rw [List.map_append];rfl,by rw [List.length_append,List.length_singleton,hms],λm hm=>?_⟩;rcases List.mem_append.mp hm with y | y
   ·exact hb m y
   ·rw [List.mem_singleton] at y;rw [y];rcases List.mem_cons.mp hz with y | y
    ·rw [y];exact ⟨hg0,hg1⟩
    ·rw [List.mem_singleton] at y;rw [y];exact ⟨hz0,by lia⟩
  ·rintro ys H3 ⟨s3,eD,ms,rfl,hms,hb⟩;refine ⟨D,_,rfl,.inl ⟨SqL.of eD,λt ht=>?_⟩⟩;have s4:Same H3 (upd H3 t (.tup (ms.map V.int))):=Same.new ht;have e4:upd H3 t (.tup (ms.map V.int)) t=some (.tup (ms.map V.int)):=Gb;generalize upd H3 t (.tup (ms.map V.int))=H4 at s4 e4 ⊢;refine ⟨JK,λp5 hp5=>?_⟩;have s5:=Same.new (o:=.tup [.str wd,.ref t]) hp5;exact q _ _ 1 6 _ (((s2.trans s3).trans s4).trans s5) (.tup Gb (by simp) (.cons (.str wd) (.cons (.tup (s5 _ _ e4) (by rw [List.length_map];lia) (Vc _ ms)) .nil))) (Z8 h4 (US hb) (by rw [List.length_map];lia)) (Nat.le_refl _) (Nat.le_refl _)
end
end M
namespace M
open PySem L2
theorem Zw {H:Hp}{d:PyData}{m:Nat}(h:Ws d m)(h8:m<=10){v:V}{tx:List Nat}(th:Th H v d)(ht:Tx d tx):tx.length<=2600000:=by
 have h1:=ZW h th ht;have:2 ^ m<=2 ^ 10:=Nat.pow_le_pow_right (by decide) h8
 lia
def Lt (l:List Nat):Prop:=∀c∈l,c<128
theorem G9 {a b:List Nat}(h:Lt a)(g:Lt b):Lt (a++b):=λc hc=>(List.mem_append.mp hc).elim (h c) (g c)
theorem Vd {l:List Nat}(h:32 ∉ l)(g:∀c∈l,c≠40/\c≠41):cst l=0:=by
 unfold cst;rw [List.count_eq_zero_of_not_mem h,List.count_eq_zero_of_not_mem (λz=>(g 40 z).1 rfl),List.count_eq_zero_of_not_mem (λz=>(g 41 z).2 rfl)]
theorem Yy:∀w∈allW++sJoin,(∀c∈w.cps.toList,c<128)/\w.cps.toList.length<=6:=by decide +kernel
theorem Yz {ns:List Int}(h:∀i∈ns,0<=i/\i<=9999):cst ((ns.map PyData.int).flatMap λd=>32::Wx d)=ns.length/\Lt ((ns.map PyData.int).flatMap λd=>32::Wx d):=by
 induction ns with
 | nil=>exact ⟨rfl,λc hc=>by cases hc⟩
 | cons n ns ih=>
  obtain ⟨h1,h2⟩:=ih λi hi=>h i (List.mem_cons_of_mem _ hi);have hn:=h n (List.mem_cons_self ..);rw [List.map_cons,List.flatMap_cons];refine ⟨?_,G9 (λc hc=>?_) h2⟩
  ·rw [G8,h1];show cst (32::(num n).cps.toList)+_=_;rw [OI,Vd (OY hn).1 (OY hn).2,List.length_cons];show 1+0+_=_
   lia
  ·rcases List.mem_cons.mp hc with rfl | hc
   ·decide
   ·have:=(Uq hn.1 hn.2).2 c hc
    lia
theorem Wc.tx {d:PyData}{m c:Nat}(h:Wc d m c):∀{tx:List Nat},Tx d tx->Lt tx/\tx.length<=6 * c/\cst tx<=c:=by
 induction h with
 | @leaf w rest hl h6=>
  intro tx t;cases t with
  | join hw _ _=>exact absurd hw (G0 hl)
  | leaf _=>
   obtain ⟨ns,en,hn,_⟩:=Jy hl;have h1:=Ur hl en hn;rw [en,List.length_map] at h6;obtain ⟨w1,w2⟩:=Od w (List.mem_append_left _ (JF hl));obtain ⟨n1,n2⟩:=Yz hn;refine ⟨?_,by lia,?_⟩
   ·unfold JE;rw [en];exact G9 (Yy w (List.mem_append_left _ (JF hl))).1 n2
   ·unfold JE;rw [en,G8,Vd w1 w2,n1]
    lia
 | @join w a b m n p q hw _ _ iha ihb=>
  intro tx t;cases t with
  | leaf hl=>exact absurd hw (G0 hl)
  | @join _ _ _ s t _ ta tb=>
   obtain ⟨a1,a2,a3⟩:=iha ta;obtain ⟨b1,b2,b3⟩:=ihb tb;obtain ⟨w1,w2⟩:=Od w (List.mem_append_right _ hw);obtain ⟨w3,w4⟩:=Yy w (List.mem_append_right _ hw);have e:Jg w s t=[40]++(s++([32]++(w.cps.toList++([32]++(t++[41]))))):=rfl;rw [e];have o:∀c,c<128->Lt [c]:=λc hc d hd=>by rw [List.mem_singleton.mp hd];exact hc
   have c1:cst [40]=2:=rfl;have c2:cst [41]=2:=rfl;have c3:cst [32]=1:=rfl;refine ⟨G9 (o 40 (by decide)) (G9 a1 (G9 (o 32 (by decide)) (G9 w3 (G9 (o 32 (by decide)) (G9 b1 (o 41 (by decide))))))),?_,?_⟩
   ·simp only [List.length_append,List.length_singleton]
    lia
   ·simp only [G8,c1,c2,c3,Vd w1 w2]
    lia
theorem JM (a b:List Nat):mkS a++mkS b=mkS (a++b):=by
 apply JC;rw [Jk]
 rfl
theorem WO (x:List Nat){a b:Nat}(h:a<=b):StrLaws.sliceText (mkS x) (some (a:Int)) (some (b:Int))=mkS ((x.drop a).take (b-a)):=by
 have e:StrLaws.sliceText (mkS x) (some (a:Int)) (some (b:Int))=StrLaws.sliceText (mkS x) (some ((min a x.length:Nat):Int)) (some ((min b x.length:Nat):Int)):=by
  have c:Builtin.Str.strSliceIndices (some (a:Int)) (some (b:Int)) 1 x.length=Builtin.Str.strSliceIndices (some ((min a x.length:Nat):Int)) (some ((min b x.length:Nat):Int)) 1 x.length:=by
   have h1:¬ ((a:Int)<0):=by lia
   have h2:¬ ((b:Int)<0):=by lia
   have h3:¬ (((min a x.length:Nat):Int)<0):=by lia
   have h4:¬ (((min b x.length:Nat):Int)<0):=by lia
   have h5:max 0 (min (a:Int) (x.length:Int))=max 0 (min ((min a x.length:Nat):Int) (x.length:Int)):=by lia
   have h6:max 0 (min (b:Int) (x.length:Int))=max 0 (min ((min b x.length:Nat):Int) (x.length:Int)):=by lia
   unfold Builtin.Str.strSliceIndices;simp only [if_neg h1,if_neg h2,if_neg h3,if_neg h4,h5,h6,gt_iff_lt,Int.zero_lt_one,if_true]
  unfold StrLaws.sliceText;rw [Gk,c]
 rw [e,Yv x (by lia) (by lia)]
 congr 1
 by_cases ha:a<=x.length
 ·rw [Nat.min_eq_left ha];by_cases hb:b<=x.length
  ·rw [Nat.min_eq_left hb]
  ·rw [Nat.min_eq_right (by lia),List.take_of_length_le (by rw [List.length_drop];lia),List.take_of_length_le (by rw [List.length_drop];lia)]
 ·rw [Nat.min_eq_right (show x.length<=a by lia),List.drop_of_length_le (Nat.le_refl _),List.drop_of_length_le (show x.length<=a by lia),List.take_nil,List.take_nil]
theorem V9 (x:List Nat)(a:Nat):StrLaws.sliceText (mkS x) (some (a:Int)) none=mkS (x.drop a):=by
 have e:StrLaws.sliceText (mkS x) (some (a:Int)) none=StrLaws.sliceText (mkS x) (some (a:Int)) (some ((max a x.length:Nat):Int)):=by
  have c:Builtin.Str.strSliceIndices (some (a:Int)) none 1 x.length=Builtin.Str.strSliceIndices (some (a:Int)) (some ((max a x.length:Nat):Int)) 1 x.length:=by
   have h4:¬ (((max a x.length:Nat):Int)<0):=by lia
   have h6:(x.length:Int)=max 0 (min ((max a x.length:Nat):Int) (x.length:Int)):=by lia
   unfold Builtin.Str.strSliceIndices;simp only [if_neg h4,<-h6];simp
  unfold StrLaws.sliceText;rw [Gk,c]
 rw [e,WO x (by lia),List.take_of_length_le (by rw [List.length_drop];lia)]
theorem ZbK (x:List Nat){b:Nat}:StrLaws.sliceText (mkS x) none (some (b:Int))=mkS (x.take b):=by
 have e:StrLaws.sliceText (mkS x) none (some (b:Int))=StrLaws.sliceText (mkS x) (some ((0:Nat):Int)) (some (b:Int)):=by
  unfold StrLaws.sliceText;rw [StrLaws.sliceIdx_none_lo]
  rfl
 rw [e,WO x (by lia)]
 rfl
theorem Rp.cost {y z x r:List Nat}(h:Rp y z x r)(h1:2 * cst z<=3 * cst y)(h2:z.length<=3 * y.length)(h3:Lt z):Lt x->Lt r/\r.length<=3 * x.length/\2 * cst r<=3 * cst x:=by
 induction h with
 | nil=>exact λh=>⟨h,by simp,by unfold cst;simp⟩
 | @keep c x r _ ih=>
  intro hx;obtain ⟨a,b,d⟩:=ih λe he=>hx e (List.mem_cons_of_mem _ he);refine ⟨λe he=>(List.mem_cons.mp he).elim (λz=>z▸hx c (List.mem_cons_self ..)) (a e),by simp only [List.length_cons];lia,?_⟩;rw [OI c r,OI c x]
  lia
 | @rep x r _ ih=>
  intro hx;obtain ⟨a,b,d⟩:=ih λe he=>hx e (List.mem_append_right _ he);refine ⟨G9 h3 a,by simp only [List.length_append];lia,?_⟩;rw [G8,G8]
  lia
end M
namespace M
open PySem L2
section
variable {P:Program}{w:World}{K:W.Frag}{mg:Str->Option Value}{base:Heap}
def Zdm:Sp:=λvs H Q _=>∃(x:List Nat)(xl:Addr)(ns:List Int),vs=[.str (mkS x),.ref xl]/\Lt x/\x.length<=3420/\cst x<=570/\H xl=some (.lst (ns.map V.int))/\ns.length=6/\∀(r:List Nat)(H':Hp),Same H H'->Txy r->Q (.str (mkS r)) H'
theorem scCha:Gz ["text", "xs", "at", "sign", "way", "rest", "other"] ["text", "xs"] (Gh Zbg):=⟨rfl,rfl,rfl,by decide +kernel,rfl,by decide +kernel,by decide +kernel⟩
def signs:List Nat:=(" ()0123456789abdehlnoprstuvwy-+,.AO_\n\t~" : Str).cps.toList
theorem WP:39<=signs.length/\∀c∈signs,c<128/\cst [c]<=2:=by decide +kernel
def w4:List Str:=[" ", "\n", ")", " 1", "\t", " and shy", "s"]
def w5:List Str:=[" ", "\n", "(", "\t", "(("]
def w7:List Str:=[" 01", " 10", " 12345", " -1", " +1", " 1_0", " 1.", "1"]
def w8:List Str:=[" nor ", " And ", "  and ", " or", " "]
def w9:List Str:=[" and ", " or ", " but "]
theorem Zei:∀w∈w4,(∀c∈w.cps.toList,c<128)/\w.cps.toList.length<=8/\cst w.cps.toList<=4:=by decide +kernel
theorem Zej:∀w∈w5,(∀c∈w.cps.toList,c<128)/\w.cps.toList.length<=8/\cst w.cps.toList<=4:=by decide +kernel
theorem Zek:∀w∈w7,(∀c∈w.cps.toList,c<128)/\w.cps.toList.length<=6/\cst w.cps.toList<=1/\(" 1" : Str)≠w:=by decide +kernel
theorem Zel:∀w∈w8,(∀c∈w.cps.toList,c<128)/\w.cps.toList.length<=6/\cst w.cps.toList<=3:=by decide +kernel
theorem Zem:∀y∈w9,4<=y.cps.toList.length/\cst y.cps.toList=2/\∀z∈w8,y≠z:=by decide +kernel
theorem UT (l:List Nat)(k:Nat):l.drop k=(l.drop k).take 1++l.drop (k+1):=by rw [<-List.drop_drop];exact (List.take_append_drop 1 _).symm
theorem YA {x:List Nat}{y z:Str}(hx:Lt x)(hl:x.length<=3420)(hc:cst x<=570)(hy:0<y.length)(h1:2 * cst z.cps.toList<=3 * cst y.cps.toList)(h2:z.cps.toList.length<=3 * y.cps.toList.length)(h3:Lt z.cps.toList):Txy (Y8 (mkS x) y z).cps.toList:=by
 obtain ⟨a,b,c⟩:=Rp.cost (Zcu (x:=mkS x) (z:=z) hy) h1 h2 h3 hx;have b:(Y8 (mkS x) y z).cps.toList.length<=3 * x.length:=b;have c:2 * cst (Y8 (mkS x) y z).cps.toList<=3 * cst x:=c;exact ⟨a,by lia,by lia⟩
theorem Zdn {f:Addr}{fd:FuncData}(F:Fun K "_law_changed" "_law_changed" Zbg f fd)(mLen:mg "len" = none):J3 P w K mg base CX0 1 f fd ["text", "xs"] Zdm:=by
 refine F.okQ scCha (λvs H Q E h=>?_) (λcdv A outer s H vs Q E hr h=>?_)
 ·obtain ⟨_,_,_,rfl,_⟩:=h
  rfl
 ·obtain ⟨x,xl,ns,rfl,hx,hxl,hxc,exl,hn,q⟩:=h;have h16:(16777216:Nat)=sizeLine:=sizeLine_eq.symm;have lx:(mkS x).length<=sizeLine:=by rw [Gk];lia
  refine ⟨_,(Gv (PS.q (@Gs _ _ 2 _ _ _ _ scCha.nd rfl (Or.inl rfl) (@Gn _ _ _ _ _ _ _ _ GL (@Gn _ _ _ _ _ _ _ _ Jd (@Gp _ _ _ _ _ _ _ (Jp K) (pv 1) Gc (λ_ _=>rfl)) (@Gn _ _ _ _ _ _ _ _ J5 Gc (@Gp _ _ _ _ _ _ _ (Jp K) (pv 1) Gc (λ_ _=>rfl)))) (@Gn _ _ _ _ _ _ _ _ Jd (Gm W9 rfl mLen PySem.boot_len (@Ga _ _ _ _ _ (pv 0) Gd rfl)) Gc)) rfl (by first | exact .inl rfl | exact .inr rfl)))
    (Gv (PS.q (@Gs _ _ 3 _ _ _ _ scCha.nd rfl (Or.inl rfl) (Gp UJ Gg (@Gn _ _ _ _ _ _ _ _ GL (@Gp _ _ _ _ _ _ _ (Jp K) (pv 1) Gc (λ_ _=>rfl)) Gc) (λ_ _=>rfl)) rfl (by first | exact .inl rfl | exact .inr rfl)))
    (Gv (PS.q (@Gs _ _ 4 _ _ _ _ scCha.nd rfl (Or.inl rfl) (@Gn _ _ _ _ _ _ _ _ GL (@Gp _ _ _ _ _ _ _ (Jp K) (pv 1) Gc (λ_ _=>rfl)) Gc) rfl (by first | exact .inl rfl | exact .inr rfl)))
    (Gv (PS.q (@GT _ _ _ _ _ _ _ _ (Gj Jj (pv 4) Gc (Gq _)) (@Gf _ _ _ (@Go _ _ _ _ (@Jf _ _ _ _ _ _ (Gx VM (pv 0) GX (Gw (pv 2))) (Gx VM (pv 0) (Gw (@Gn _ _ _ _ _ _ _ _ Jd (pv 2) Gc)) GX)))) Gr))
    (Gv (PS.q (@GT _ _ _ _ _ _ _ _ (Gj Jj (pv 4) Gc (Gq _)) (@Gf _ _ _ (@Go _ _ _ _ (@Jf _ _ _ _ _ _ (@Jf _ _ _ _ _ _ (Gx VM (pv 0) GX (Gw (pv 2))) (pv 3)) (Gx VM (pv 0) (Gw (pv 2)) GX)))) Gr))
    (Gv (PS.q (@GT _ _ _ _ _ _ _ _ (Gj Jj (pv 4) Gc (Gq _)) (@Gf _ _ _ (@Go _ _ _ _ (@Jf _ _ _ _ _ _ (@Jf _ _ _ _ _ _ (Gx VM (pv 0) GX (Gw (pv 2))) (pv 3)) (Gx VM (pv 0) (Gw (@Gn _ _ _ _ _ _ _ _ Jd (pv 2) Gc)) GX)))) Gr))
    (Gv (PS.q (@GT _ _ _ _ _ _ _ _ (Gj Jj (pv 4) Gc (Gq _)) (@Ge _ _ _ _ _ (@Gs _ _ 5 _ _ _ _ scCha.nd rfl (Or.inl rfl) (@Jf _ _ _ _ _ _ (Gx VM (pv 0) (Gw (pv 2)) (Gw (@Gn _ _ _ _ _ _ _ _ Jd (pv 2) Gc))) (Gx VM (pv 0) (Gw (@Gn _ _ _ _ _ _ _ _ Jd (pv 2) Gc)) GX)) rfl (by first | exact .inl rfl | exact .inr rfl))
    (@Gf _ _ _ (@Go _ _ _ _ (@Jf _ _ _ _ _ _ (@Jf _ _ _ _ _ _ (Gx VM (pv 0) GX (Gw (pv 2))) (Gx VM (pv 0) (Gw (@Gn _ _ _ _ _ _ _ _ Jd (pv 2) Gc)) (Gw (@Gn _ _ _ _ _ _ _ _ Jd (pv 2) Gc)))) (pv 5))))) Gr))
    (Gv (PS.q (@GT _ _ _ _ _ _ _ _ (Gj Jj (pv 4) Gc (Gq _)) (@Gf _ _ _ (@Go _ _ _ _ (@Jf _ _ _ _ _ _ (pv 0) (@Gp _ _ _ _ _ _ _ (Jp K) (@GO _ _ _ _ (@Ga _ _ _ _ _ Gg (@Ga _ _ _ _ _ Gg (@Ga _ _ _ _ _ Gg (@Ga _ _ _ _ _ Gg (@Ga _ _ _ _ _ Gg (@Ga _ _ _ _ _ Gg (@Ga _ _ _ _ _ Gg Gd rfl) rfl) rfl) rfl) rfl) rfl) rfl)) (@Gn _ _ _ _ _ _ _ _ GL (@Gp _ _ _ _ _ _ _ (Jp K) (pv 1) Gc (λ_ _=>rfl)) Gc) (λ_ _=>rfl))))) Gr))
    (Gv (PS.q (@GT _ _ _ _ _ _ _ _ (Gj Jj (pv 4) Gc (Gq _)) (@Gf _ _ _ (@Go _ _ _ _ (@Jf _ _ _ _ _ _ (@Gp _ _ _ _ _ _ _ (Jp K) (@GO _ _ _ _ (@Ga _ _ _ _ _ Gg (@Ga _ _ _ _ _ Gg (@Ga _ _ _ _ _ Gg (@Ga _ _ _ _ _ Gg (@Ga _ _ _ _ _ Gg Gd rfl) rfl) rfl) rfl) rfl)) (@Gn _ _ _ _ _ _ _ _ GL (@Gp _ _ _ _ _ _ _ (Jp K) (pv 1) Gc (λ_ _=>rfl)) Gc) (λ_ _=>rfl)) (pv 0)))) Gr))
    (Gv (Ww (PT.q (Gj Jj (pv 4) Gc (Gq _))) (O8 (ZaJ (Y9 (ZaP (Gx VM (pv 0) GX (Gw (pv 2)))) (Gx VM (pv 0) (Gw (pv 2)) GX)))) (PSs.q Gr))
    (Gv (Ww (PT.q (Gj Jj (pv 4) Gc (Gq _))) (X0 (p3:=⟨0,0,0,0⟩) (p4:=⟨0,0,0,0⟩) (it:=0) (io:=6) (VV (ix:=1) (.cons (.cons (.cons (.cons (.cons (.cons (.cons (.cons .nil)))))))) (by show 8<=sizeLine;lia) (by decide) (by decide)) Zct scCha.nd rfl rfl rfl (by decide)) (PSs.q Gr))
    (X0 (p3:=⟨0,0,0,0⟩) (p4:=⟨0,0,0,0⟩) (it:=0) (io:=6) (VV (ix:=1) (.cons (.cons (.cons (.cons (.cons .nil))))) (by show 5<=sizeLine;lia) (by decide) (by decide)) (VV (ix:=1) (.cons (.cons (.cons .nil))) (by show 3<=sizeLine;lia) (by decide) (by decide)) scCha.nd rfl rfl rfl (by decide))))))))))))),?_⟩
  have hpos:(0:Int)<(x.length:Int)+1:=by lia
  obtain ⟨k,hk⟩:=Int.eq_ofNat_of_zero_le (Int.emod_nonneg (ns.getD (0:Int).toNat 0+64 * ns.getD (1:Int).toNat 0) (Int.ne_of_gt hpos));have hk1:=Int.emod_lt_of_pos (ns.getD (0:Int).toNat 0+64 * ns.getD (1:Int).toNat 0) hpos;rw [hk] at hk1;refine ⟨_,rfl,xl,_,_,_,rfl,rfl,SqL.of exl,GY (by lia) (by lia),_,rfl,xl,_,_,_,rfl,rfl,SqL.of exl,GY (by lia) (by lia),_,_,rfl,rfl,.inl ⟨by decide,by decide⟩,_,_,rfl,rfl,_,rfl,mkS x,rfl,by rw [Gk];lia,_,_,rfl,rfl,_,_,rfl,rfl,?_⟩;rw [Gk];refine ⟨hpos,?_⟩;dsimp only [JN];rw [hk];obtain ⟨c,hc,ec⟩:∃c∈signs,atI signs (ns.getD (2:Int).toNat 0 % 39)=some c:=by
   obtain ⟨j,hj⟩:=Int.eq_ofNat_of_zero_le (Int.emod_nonneg (ns.getD (2:Int).toNat 0) (show (39:Int)≠0 by decide));have hj1:=Int.emod_lt_of_pos (ns.getD (2:Int).toNat 0) (show (0:Int)<39 by decide);rw [hj] at hj1 ⊢;have hjl:j<signs.length:=by have:=WP.1;lia
   exact ⟨signs[j],List.getElem_mem hjl,Gi (List.getElem?_eq_getElem hjl)⟩
  obtain ⟨c1,c2⟩:=WP.2 c hc;refine ⟨_,rfl,xl,_,_,_,rfl,rfl,SqL.of exl,GY (by lia) (by lia),_,_,rfl,rfl,(by show (0:Int)<39;decide),_,_,c,rfl,rfl,by decide +kernel,ec,?_⟩;refine ⟨_,rfl,xl,_,_,_,rfl,rfl,SqL.of exl,GY (by lia) (by lia),_,_,rfl,rfl,(by show (0:Int)<9;decide),?_⟩;have e0:x=x.take k++x.drop k:=(List.take_append_drop k x).symm;have e1:x.drop k=(x.drop k).take 1++x.drop (k+1):=UT x k;have e2:x.drop (k+1)=(x.drop (k+1)).take 1++x.drop (k+2):=UT x (k+1);have t0:StrLaws.sliceText (mkS x) none (some (k:Int))=mkS (x.take k):=ZbK x;have t1:StrLaws.sliceText (mkS x) (some (k:Int)) none=mkS (x.drop k):=V9 x k;have t2:StrLaws.sliceText (mkS x) (some ((k:Int)+1)) none=mkS (x.drop (k+1)):=V9 x (k+1);have t3:StrLaws.sliceText (mkS x) (some ((k:Int)+2)) none=mkS (x.drop (k+2)):=V9 x (k+2);have t4:StrLaws.sliceText (mkS x) (some (k:Int)) (some ((k:Int)+1))=mkS ((x.drop k).take 1):=by
   have:=WO x (a:=k) (b:=k+1) (by lia);rw [show k+1-k=1 by lia] at this;exact this
  have t5:StrLaws.sliceText (mkS x) (some ((k:Int)+1)) (some ((k:Int)+2))=mkS ((x.drop (k+1)).take 1):=by
   have:=WO x (a:=k+1) (b:=k+2) (by lia);rw [show k+2-(k+1)=1 by lia] at this;exact this
  have el:x.length=(x.take k).length+(((x.drop k).take 1).length+(((x.drop (k+1)).take 1).length+(x.drop (k+2)).length)):=by
   have:=congrArg List.length e0;rw [List.length_append,e1,List.length_append,e2,List.length_append] at this;exact this
  have ecs:cst x=cst (x.take k)+(cst ((x.drop k).take 1)+(cst ((x.drop (k+1)).take 1)+cst (x.drop (k+2)))):=by
   have:=congrArg cst e0;rw [G8,e1,G8,e2,G8] at this;exact this
  have lA:Lt (x.take k):=λc hc=>hx c (List.mem_of_mem_take hc);have lB:Lt ((x.drop k).take 1):=λc hc=>hx c (List.mem_of_mem_drop (List.mem_of_mem_take hc));have lC:Lt ((x.drop (k+1)).take 1):=λc hc=>hx c (List.mem_of_mem_drop (List.mem_of_mem_take hc));have lD:Lt (x.drop (k+2)):=λc hc=>hx c (List.mem_of_mem_drop hc);rw [e2] at t2;rw [e1,e2] at t1;generalize x.take k=pA at t0 el ecs lA;generalize (x.drop k).take 1=pB at t1 t4 el ecs lB;generalize (x.drop (k+1)).take 1=pC at t1 t2 t5 el ecs lC;generalize x.drop (k+2)=pD at t1 t2 t3 el ecs lD;have lc:Lt [c]:=λd hd=>by rw [List.mem_singleton.mp hd];exact c1
  have ls:(⟨#[c]⟩:Str)=mkS [c]:=rfl;have sm:=Same.refl H;have lenA:(mkS pA).length=pA.length:=Gk pA;dsimp only [JN];refine ⟨_,rfl,rfl,_,rfl,Ox (λ_=>?_) (λ_=>?_)⟩
  ·refine ⟨_,rfl,_,rfl,_,rfl,_,rfl,lx,_,rfl,_,rfl,_,_,rfl,rfl,_,rfl,_,rfl,lx,?_⟩;rw [t0,t2];refine ⟨_,_,rfl,rfl,by rw [Gk,Gk,List.length_append];lia,?_⟩;rw [JM];exact q _ _ sm ⟨G9 lA (G9 lC lD),by simp only [List.length_append];lia,by simp only [G8];lia⟩
  refine ⟨_,rfl,rfl,_,rfl,Ox (λ_=>?_) (λ_=>?_)⟩
  ·refine ⟨_,rfl,_,rfl,_,rfl,_,rfl,lx,?_⟩;rw [t0];refine ⟨_,rfl,_,_,rfl,rfl,by rw [Gk];show pA.length+1<=_;lia,?_⟩;refine ⟨_,rfl,_,rfl,_,rfl,_,rfl,lx,?_⟩;rw [t1,ls,JM];refine ⟨_,_,rfl,rfl,by rw [Gk,Gk];simp only [List.length_append,List.length_singleton];lia,?_⟩;rw [JM];exact q _ _ sm ⟨G9 (G9 lA lc) (G9 lB (G9 lC lD)),by simp only [List.length_append,List.length_singleton];lia,by simp only [G8];lia⟩
  refine ⟨_,rfl,rfl,_,rfl,Ox (λ_=>?_) (λ_=>?_)⟩
  ·refine ⟨_,rfl,_,rfl,_,rfl,_,rfl,lx,?_⟩;rw [t0];refine ⟨_,rfl,_,_,rfl,rfl,by rw [Gk];show pA.length+1<=_;lia,?_⟩;refine ⟨_,rfl,_,rfl,_,_,rfl,rfl,_,rfl,_,rfl,lx,?_⟩;rw [t2,ls,JM];refine ⟨_,_,rfl,rfl,by rw [Gk,Gk];simp only [List.length_append,List.length_singleton];lia,?_⟩;rw [JM];exact q _ _ sm ⟨G9 (G9 lA lc) (G9 lC lD),by simp only [List.length_append,List.length_singleton];lia,by simp only [G8];lia⟩
  refine ⟨_,rfl,rfl,_,rfl,Ox (λ_=>?_) (λ_=>?_)⟩
  ·refine ⟨_,rfl,_,rfl,_,rfl,_,rfl,_,_,rfl,rfl,_,rfl,_,rfl,lx,?_⟩;rw [t4];refine ⟨_,rfl,_,rfl,_,_,rfl,rfl,_,rfl,_,rfl,lx,?_⟩;rw [t3];refine ⟨_,_,rfl,rfl,by rw [Gk,Gk];lia,?_⟩;rw [JM];dsimp only [JN];refine ⟨_,rfl,_,rfl,_,rfl,_,rfl,lx,?_⟩;rw [t0];refine ⟨_,rfl,_,rfl,_,_,rfl,rfl,_,rfl,_,rfl,_,_,rfl,rfl,_,rfl,_,rfl,lx,?_⟩;rw [t5];refine ⟨_,_,rfl,rfl,by rw [Gk,Gk];lia,?_⟩;rw [JM];refine ⟨_,rfl,_,_,rfl,rfl,by rw [Gk,Gk];simp only [List.length_append];lia,?_⟩;rw [JM];exact q _ _ sm ⟨G9 (G9 lA lC) (G9 lB lD),by simp only [List.length_append];lia,by simp only [G8];lia⟩
  refine ⟨_,rfl,rfl,_,rfl,Ox (λ_=>?_) (λ_=>?_)⟩
  ·refine ⟨_,rfl,(by show 7<=sizeLine;lia),λp hp=>?_⟩;obtain ⟨wd,hwd,ewd⟩:=Ov w4 (j:=ns.getD (4:Int).toNat 0 % 7) (Int.emod_nonneg _ (by decide)) (Int.emod_lt_of_pos _ (by decide));obtain ⟨a1,a2,a3⟩:=Zei wd hwd;have s3:Same H (upd H p (.lst (w4.map V.str))):=Same.new hp;refine ⟨_,rfl,xl,_,_,_,rfl,rfl,SqL.of (s3 _ _ exl),GY (by lia) (by lia),_,_,rfl,rfl,(by show (0:Int)<7;decide),p,_,_,_,rfl,rfl,SqL.of Gb,ewd,_,_,rfl,rfl,?_⟩;refine ⟨by rw [Gk,<-Jw];lia,?_⟩;rw [<-JD wd,JM];exact q _ _ s3 ⟨G9 hx a1,by simp only [List.length_append];lia,by simp only [G8];lia⟩
  refine ⟨_,rfl,rfl,_,rfl,Ox (λ_=>?_) (λ_=>?_)⟩
  ·refine ⟨(by show 5<=sizeLine;lia),λp hp=>?_⟩;obtain ⟨wd,hwd,ewd⟩:=Ov w5 (j:=ns.getD (4:Int).toNat 0 % 5) (Int.emod_nonneg _ (by decide)) (Int.emod_lt_of_pos _ (by decide));obtain ⟨a1,a2,a3⟩:=Zej wd hwd;have s3:Same H (upd H p (.lst (w5.map V.str))):=Same.new hp;refine ⟨_,rfl,xl,_,_,_,rfl,rfl,SqL.of (s3 _ _ exl),GY (by lia) (by lia),_,_,rfl,rfl,(by show (0:Int)<5;decide),p,_,_,_,rfl,rfl,SqL.of Gb,ewd,_,rfl,_,_,rfl,rfl,?_⟩;refine ⟨by rw [Gk,<-Jw];lia,?_⟩;rw [<-JD wd,JM];exact q _ _ s3 ⟨G9 a1 hx,by simp only [List.length_append];lia,by simp only [G8];lia⟩
  refine ⟨_,rfl,rfl,_,rfl,Ox (λ_=>?_) (λ_=>?_)⟩
  ·refine ⟨_,rfl,_,rfl,_,rfl,_,rfl,lx,?_⟩;rw [t0];refine ⟨mkS pA,rfl,by rw [Gk];lia,λy hy=>?_⟩;have hy':∃r,y=mkS r/\Lt r/\r.length<=pA.length+1/\cst r<=cst pA+1:=by
    rcases hy with rfl | ⟨u,v,e,rfl⟩
    ·exact ⟨pA,rfl,lA,by lia,by lia⟩
    ·have e:pA=u++32::v:=e;have c3:cst [32,32]=2:=rfl;have c4:cst [32]=1:=rfl;refine ⟨_,rfl,G9 (G9 (λc hc=>lA c (by rw [e];exact List.mem_append_left _ hc)) (λc hc=>by simp at hc;lia)) (λc hc=>lA c (by rw [e];exact List.mem_append_right _ (List.mem_cons_of_mem _ hc))),?_,?_⟩
     ·rw [e];simp;lia
     ·rw [e,G8,G8,G8,OI 32 v];lia
   obtain ⟨r,rfl,r1,r2,r3⟩:=hy';refine ⟨_,rfl,_,rfl,_,rfl,_,rfl,lx,?_⟩;rw [t1];refine ⟨_,_,rfl,rfl,by rw [Gk,Gk];simp only [List.length_append];lia,?_⟩;rw [JM];exact q _ _ sm ⟨G9 r1 (G9 lB (G9 lC lD)),by simp only [List.length_append];lia,by simp only [G8];lia⟩
  have hxT:Txy x:=⟨hx,by lia,by lia⟩;have at4:ns[(4:Int).toNat]?=some (ns.getD 4 0):=by rw [Yw (by lia)];exact List.getElem?_eq_getElem _
  have at5:ns[(5:Int).toNat]?=some (ns.getD 5 0):=by rw [Yw (by lia)];exact List.getElem?_eq_getElem _
  refine ⟨_,rfl,rfl,_,rfl,Ox (λ_=>?_) (λ_=>?_)⟩
  ·refine ⟨mkS x,rfl,xl,ns,_,rfl,exl,at4,by lia,by decide,λz hz H1 s1=>?_⟩;have hzm:z∈w7:=List.mem_of_getElem? hz;obtain ⟨a1,a2,a3,a4⟩:=Zek z hzm;have hy0:0<(" 1" : Str).length:=by decide +kernel
   have hyc:cst (" 1" : Str).cps.toList=1/\(" 1" : Str).cps.toList.length=2:=by decide +kernel
   have ho:=X1 (x:=mkS x) (y:=(" 1" : Str)) hy0;have T:=YA (y:=(" 1" : Str)) (z:=z) hx hxl hxc hy0 (by lia) (by lia) a1;have lz:z.length<=6:=by rw [<-Jw];exact a2
   rw [Gk] at ho;refine ⟨a4,hy0,?_,by rw [<-Jw];have:=T.2.1;lia,λr hr=>?_⟩
   ·have:(Builtin.Str.occurrences (mkS x) (" 1" : Str) 0 (mkS x).length ((mkS x).length+1)).length * z.length<=3420 * 6:=Nat.mul_le_mul (by rw [Gk];lia) lz;rw [Gk] at this ⊢
    lia
   ·rcases hr with rfl | rfl
    ·exact q _ _ s1 hxT
    ·have:=q _ _ s1 T;rw [JD] at this;exact this
  ·refine ⟨mkS x,rfl,xl,ns,_,rfl,exl,at5,by lia,by decide,λz hz H1 s1=>?_⟩;refine ⟨xl,ns,_,rfl,s1 _ _ exl,at4,by lia,by decide,λy hy H2 s2=>?_⟩;obtain ⟨a1,a2,a3⟩:=Zel z (List.mem_of_getElem? hz);obtain ⟨b1,b2,b3⟩:=Zem y (List.mem_of_getElem? hy);have hy0:0<y.length:=by rw [<-Jw];lia
   have ho:=X1 (x:=mkS x) (y:=y) hy0;have T:=YA (y:=y) (z:=z) hx hxl hxc hy0 (by lia) (by lia) a1;have lz:z.length<=6:=by rw [<-Jw];exact a2
   rw [Gk] at ho;refine ⟨b3 z (List.mem_of_getElem? hz),hy0,?_,by rw [<-Jw];have:=T.2.1;lia,λr hr=>?_⟩
   ·have:(Builtin.Str.occurrences (mkS x) y 0 (mkS x).length ((mkS x).length+1)).length * z.length<=3420 * 6:=Nat.mul_le_mul (by rw [Gk];lia) lz;rw [Gk] at this ⊢
    lia
   ·rcases hr with rfl | rfl
    ·exact q _ _ (s1.trans s2) hxT
    ·have:=q _ _ (s1.trans s2) T;rw [JD] at this;exact this
end
end M
namespace M
open PySem L2
theorem WQ:∀{n:Nat}{x:List Nat}{d d':PyData},Wr n x d->Wr n x d'->d=d'
 | 0,_,_,_,h,_=>absurd h V4
 | n+1,x,d,d',h,h'=>by
  by_cases h0:x.head?=some 40
  ·rcases WI h with ⟨w,rest,hl,_,rfl⟩ | ⟨w,a,b,s,t,hj,_,rfl,⟨_,_,_,ta⟩,_⟩
   ·exact absurd h0 (Ux hl)
   ·obtain ⟨s1,s2⟩:=Yo (t:=t) hj ta;obtain ⟨a1,b1,rfl,wa,wb⟩:=ZbD h0 s1 s2 h;obtain ⟨a2,b2,rfl,wa',wb'⟩:=ZbD h0 s1 s2 h';rw [WQ wa wa',WQ wb wb']
  ·obtain ⟨u,ws,e,_⟩:=WM x;exact ZbE (Yu h0 e h) (Yu h0 e h')
section
open PySem.Spec PyProof.Rows
variable {X:Cx}{a b:Expr}{rest:List Expr}{pos:Pos}{tA tB':TT}
theorem Zx (ha:PTq X a tA):PWq X (.BoolOp .And [a] pos) tA:=by
 intro wh qQ s σ H Q I hs h;refine isTrue_and (thn (ha qQ s σ H Q I hs h) λc s1 e=>?_);cases c with
 | true=>exact isTrue_and_nil e
 | false=>exact e
theorem ZbL (ha:PTq X a tA)(hb:PWq X (.BoolOp .And (b::rest) pos) tB'):PWq X (.BoolOp .And (a::b::rest) pos) (Zep tA tB'):=by
 intro wh qQ s σ H Q I hs h;refine isTrue_and (U5 hs (ha qQ s σ H _ I hs h) λc s1 hs1 ⟨H1,I1,q1⟩=>?_);cases c with
 | false=>exact ⟨H1,I1,q1⟩
 | true=>exact hb wh qQ s1 σ H1 Q I1 hs1 q1
theorem ZbM {tg e:Expr}{te:TE}{g:TG}(he:PEq X e te)(hg:PG X tg g)(hs:swapsWithSole [tg] e pos.line X.env=pure false:=by rfl)(hw:swappedStores [tg] e X.env=pure none:=by rfl)(h1:(assignEach [tg] X.env).map (·.2)=[assign tg X.env]:=by rfl):PSq X (.Assign [tg] e pos) (Zad te g):=by
 intro qQ s σ H D I h0 h;refine wpAny_Assign_stores (thn (he qQ s σ H _ I h0 h) λv s1 ⟨x,H1,I1,r1,q1⟩=>?_) hs hw;rw [h1];exact thn (hg qQ s1 σ H1 x v _ I1 r1 q1) λ_ s2 q=>q
end
section
variable {P:Program}{w:World}{K:W.Frag}{mg:Str->Option Value}{base:Heap}
def od0:List Str:=["", " ", "open", "open 1", "open 1 2 3", "open 1  2", "open 01 2", "open 1 -2", "with", "with "]
def od1:List Str:=["with 1 2 2", "with 1,2", "closed 1", "(closed)", "()", "(", ")"]
def od2:List Str:=["shy or all", "(shy or all", "(shy nor all)"]
def od3:List Str:=["(shy and all or closed)", "((shy and all) or closed)", "(shy and)", "( shy and all)"]
def od4:List Str:=["(shy and all )", "(shy  and all)", "(shy andall)", "SHY", "Shy", "shyall"]
def od5:List Str:=["long 0 9999", "long 0 10000", "long 00 1"]
def od6:List Str:=["with 0", "(with and off)", "(with 1 and off 2 3)", "and shy all", "(and shy all)"]
def od7:List Str:=["all\n", "with0"]
def odds:List Str:=od0++od1++od2++od3++od4++od5++od6++od7
theorem ZbN:odds.length=40/\∀z∈odds,(∀c∈z.cps.toList,c<128)/\z.cps.toList.length<=30/\cst z.cps.toList<=30:=by decide +kernel
def Zdo:Sp:=λvs H Q _=>∃n:Int,vs=[.int n]/\∀(r:List Nat)(H':Hp),Same H H'->Txy r->Q (.str (mkS r)) H'
theorem scOdd:Gz ["number", "some"] ["number"] (Gh Zbh):=⟨rfl,rfl,rfl,by decide +kernel,rfl,by decide +kernel,by decide +kernel⟩
theorem Zdp {f:Addr}{fd:FuncData}(F:Fun K "_law_odd" "_law_odd" Zbh f fd)(mLen:mg "len" = none):Jl P w K mg base CX0 1 f fd ["number"] Zdo:=by
 refine F.ok scOdd (λvs H Q E h=>?_) (λcdv A outer s H vs Q E hr h=>?_)
 ·obtain ⟨_,rfl,_⟩:=h
  rfl
 ·obtain ⟨n,rfl,q⟩:=h;have h16:(16777216:Nat)=sizeLine:=sizeLine_eq.symm;refine ⟨_,(@Ge _ _ _ _ _ (@Gs _ _ 1 _ _ _ _ scOdd.nd rfl (Or.inl rfl) (@GO _ _ _ _ (@Ga _ _ _ _ _ Gg (@Ga _ _ _ _ _ Gg (@Ga _ _ _ _ _ Gg (@Ga _ _ _ _ _ Gg (@Ga _ _ _ _ _ Gg (@Ga _ _ _ _ _ Gg (@Ga _ _ _ _ _ Gg (@Ga _ _ _ _ _ Gg (@Ga _ _ _ _ _ Gg (@Ga _ _ _ _ _ Gg Gd rfl) rfl) rfl) rfl) rfl) rfl) rfl) rfl) rfl) rfl)) rfl (by first | exact .inl rfl | exact .inr rfl))
    (@Ge _ _ _ _ _ (@Gs _ _ 1 _ _ _ _ scOdd.nd rfl (Or.inl rfl) (@Gn _ _ _ _ _ _ _ _ J8 (pv 1) (@GO _ _ _ _ (@Ga _ _ _ _ _ Gg (@Ga _ _ _ _ _ Gg (@Ga _ _ _ _ _ Gg (@Ga _ _ _ _ _ Gg (@Ga _ _ _ _ _ Gg (@Ga _ _ _ _ _ Gg (@Ga _ _ _ _ _ Gg Gd rfl) rfl) rfl) rfl) rfl) rfl) rfl))) rfl (by first | exact .inl rfl | exact .inr rfl))
    (@Ge _ _ _ _ _ (@Gs _ _ 1 _ _ _ _ scOdd.nd rfl (Or.inl rfl) (@Gn _ _ _ _ _ _ _ _ J8 (pv 1) (@GO _ _ _ _ (@Ga _ _ _ _ _ Gg (@Ga _ _ _ _ _ Gg (@Ga _ _ _ _ _ Gg Gd rfl) rfl) rfl))) rfl (by first | exact .inl rfl | exact .inr rfl))
    (@Ge _ _ _ _ _ (@Gs _ _ 1 _ _ _ _ scOdd.nd rfl (Or.inl rfl) (@Gn _ _ _ _ _ _ _ _ J8 (pv 1) (@GO _ _ _ _ (@Ga _ _ _ _ _ Gg (@Ga _ _ _ _ _ Gg (@Ga _ _ _ _ _ Gg (@Ga _ _ _ _ _ Gg Gd rfl) rfl) rfl) rfl))) rfl (by first | exact .inl rfl | exact .inr rfl))
    (@Ge _ _ _ _ _ (@Gs _ _ 1 _ _ _ _ scOdd.nd rfl (Or.inl rfl) (@Gn _ _ _ _ _ _ _ _ J8 (pv 1) (@GO _ _ _ _ (@Ga _ _ _ _ _ Gg (@Ga _ _ _ _ _ Gg (@Ga _ _ _ _ _ Gg (@Ga _ _ _ _ _ Gg (@Ga _ _ _ _ _ Gg (@Ga _ _ _ _ _ Gg Gd rfl) rfl) rfl) rfl) rfl) rfl))) rfl (by first | exact .inl rfl | exact .inr rfl))
    (@Ge _ _ _ _ _ (@Gs _ _ 1 _ _ _ _ scOdd.nd rfl (Or.inl rfl) (@Gn _ _ _ _ _ _ _ _ J8 (pv 1) (@GO _ _ _ _ (@Ga _ _ _ _ _ Gg (@Ga _ _ _ _ _ Gg (@Ga _ _ _ _ _ Gg Gd rfl) rfl) rfl))) rfl (by first | exact .inl rfl | exact .inr rfl))
    (@Ge _ _ _ _ _ (@Gs _ _ 1 _ _ _ _ scOdd.nd rfl (Or.inl rfl) (@Gn _ _ _ _ _ _ _ _ J8 (pv 1) (@GO _ _ _ _ (@Ga _ _ _ _ _ Gg (@Ga _ _ _ _ _ Gg (@Ga _ _ _ _ _ Gg (@Ga _ _ _ _ _ Gg (@Ga _ _ _ _ _ Gg Gd rfl) rfl) rfl) rfl) rfl))) rfl (by first | exact .inl rfl | exact .inr rfl))
    (@Ge _ _ _ _ _ (@Gs _ _ 1 _ _ _ _ scOdd.nd rfl (Or.inl rfl) (@Gn _ _ _ _ _ _ _ _ J8 (pv 1) (@GO _ _ _ _ (@Ga _ _ _ _ _ Gg (@Ga _ _ _ _ _ Gg Gd rfl) rfl))) rfl (by first | exact .inl rfl | exact .inr rfl))
    (@Gf _ _ _ (@Go _ _ _ _ (@Gp _ _ _ _ _ _ _ (Jp K) (pv 1) (@Gn _ _ _ _ _ _ _ _ GL (pv 0) (Gm (VS K) rfl mLen PySem.boot_len (@Ga _ _ _ _ _ (pv 1) Gd rfl))) (λ_ _=>rfl)))))))))))),?_⟩
  refine GD (λσ1 H1=>∃p:Addr,σ1=[some (.int n),some (.ref p)]/\Same H H1/\H1 p=some (.lst (od0.map V.str))) ?_ (λJ=>⟨by show 10<=sizeLine;lia,λp hp=>J _ _ ⟨p,rfl,Same.new hp,Gb⟩⟩);rintro σ1 H1 ⟨p,rfl,s1,e1⟩;refine GD (λσ1 H2=>∃p:Addr,σ1=[some (.int n),some (.ref p)]/\Same H H2/\H2 p=some (.lst ((od0++od1).map V.str))) ?_ (λJ=>⟨_,rfl,by show 7<=sizeLine;lia,λp2 hp2=>⟨p,p2,_,od1.map V.str,rfl,rfl,(Same.new hp2) _ _ e1,Gb,by show 17<=sizeLine;lia,λp3 hp3=>J _ _ ⟨p3,rfl,s1.trans ((Same.new hp2).trans (Same.new hp3)),Gb⟩⟩⟩);clear e1 s1 p;rintro σ1 H1' ⟨p,rfl,s1,e1⟩;refine GD (λσ1 H2=>∃p:Addr,σ1=[some (.int n),some (.ref p)]/\Same H H2/\H2 p=some (.lst ((od0++od1++od2).map V.str))) ?_ (λJ=>⟨_,rfl,by show 3<=sizeLine;lia,λp2 hp2=>⟨p,p2,_,od2.map V.str,rfl,rfl,(Same.new hp2) _ _ e1,Gb,by show 20<=sizeLine;lia,λp3 hp3=>J _ _ ⟨p3,rfl,s1.trans ((Same.new hp2).trans (Same.new hp3)),Gb⟩⟩⟩);clear e1 s1 p;rintro σ1 H1' ⟨p,rfl,s1,e1⟩;refine GD (λσ1 H2=>∃p:Addr,σ1=[some (.int n),some (.ref p)]/\Same H H2/\H2 p=some (.lst ((od0++od1++od2++od3).map V.str))) ?_ (λJ=>⟨_,rfl,by show 4<=sizeLine;lia,λp2 hp2=>⟨p,p2,_,od3.map V.str,rfl,rfl,(Same.new hp2) _ _ e1,Gb,by show 24<=sizeLine;lia,λp3 hp3=>J _ _ ⟨p3,rfl,s1.trans ((Same.new hp2).trans (Same.new hp3)),Gb⟩⟩⟩);clear e1 s1 p;rintro σ1 H1' ⟨p,rfl,s1,e1⟩;refine GD (λσ1 H2=>∃p:Addr,σ1=[some (.int n),some (.ref p)]/\Same H H2/\H2 p=some (.lst ((od0++od1++od2++od3++od4).map V.str))) ?_ (λJ=>⟨_,rfl,by show 6<=sizeLine;lia,λp2 hp2=>⟨p,p2,_,od4.map V.str,rfl,rfl,(Same.new hp2) _ _ e1,Gb,by show 30<=sizeLine;lia,λp3 hp3=>J _ _ ⟨p3,rfl,s1.trans ((Same.new hp2).trans (Same.new hp3)),Gb⟩⟩⟩);clear e1 s1 p;rintro σ1 H1' ⟨p,rfl,s1,e1⟩;refine GD (λσ1 H2=>∃p:Addr,σ1=[some (.int n),some (.ref p)]/\Same H H2/\H2 p=some (.lst ((od0++od1++od2++od3++od4++od5).map V.str))) ?_ (λJ=>⟨_,rfl,by show 3<=sizeLine;lia,λp2 hp2=>⟨p,p2,_,od5.map V.str,rfl,rfl,(Same.new hp2) _ _ e1,Gb,by show 33<=sizeLine;lia,λp3 hp3=>J _ _ ⟨p3,rfl,s1.trans ((Same.new hp2).trans (Same.new hp3)),Gb⟩⟩⟩);clear e1 s1 p;rintro σ1 H1' ⟨p,rfl,s1,e1⟩;refine GD (λσ1 H2=>∃p:Addr,σ1=[some (.int n),some (.ref p)]/\Same H H2/\H2 p=some (.lst ((od0++od1++od2++od3++od4++od5++od6).map V.str))) ?_ (λJ=>⟨_,rfl,by show 5<=sizeLine;lia,λp2 hp2=>⟨p,p2,_,od6.map V.str,rfl,rfl,(Same.new hp2) _ _ e1,Gb,by show 38<=sizeLine;lia,λp3 hp3=>J _ _ ⟨p3,rfl,s1.trans ((Same.new hp2).trans (Same.new hp3)),Gb⟩⟩⟩);clear e1 s1 p;rintro σ1 H1' ⟨p,rfl,s1,e1⟩;refine GD (λσ1 H2=>∃p:Addr,σ1=[some (.int n),some (.ref p)]/\Same H H2/\H2 p=some (.lst ((od0++od1++od2++od3++od4++od5++od6++od7).map V.str))) ?_ (λJ=>⟨_,rfl,by show 2<=sizeLine;lia,λp2 hp2=>⟨p,p2,_,od7.map V.str,rfl,rfl,(Same.new hp2) _ _ e1,Gb,by show 40<=sizeLine;lia,λp3 hp3=>J _ _ ⟨p3,rfl,s1.trans ((Same.new hp2).trans (Same.new hp3)),Gb⟩⟩⟩);clear e1 s1 p;rintro σ1 H1' ⟨p,rfl,s1,e1⟩;obtain ⟨wd,hwd,ewd⟩:=Ov odds (j:=n % 40) (Int.emod_nonneg _ (by decide)) (Int.emod_lt_of_pos _ (by decide));obtain ⟨a1,a2,a3⟩:=ZbN.2 wd hwd;refine ⟨_,rfl,_,rfl,_,rfl,p,_,rfl,.inl (SqL.of e1),_,_,rfl,rfl,by show (0:Int)<40;decide,p,_,_,_,rfl,rfl,SqL.of e1,ewd,?_⟩;have:=q wd.cps.toList _ s1 ⟨a1,by lia,by lia⟩;rw [JD] at this;exact this
structure Zen (K:W.Frag)(mg:Str->Option Value)(T R N way:Addr):Prop where
 kT:ZdE K T
 mT:mg "NoText" = some (.ref T)
 mR:mg "NoRow" = some (.ref R)
 mN:mg "NoWay" = some (.ref N)
 mW:mg "WayError" = some (.ref way)
 tbe:W.subIn K (.ref T) (.type "BaseException")=some true
 wbe:W.subIn K (.ref way) (.type "BaseException")=some true
 tt:W.kitCls K (.ref T) (.ref T)=some true
 tw:W.kitCls K (.ref T) (.ref way)=some true
 tr:W.kitOne K (.ref T) (.ref R)=some false
 tn:W.kitOne K (.ref T) (.ref N)=some false
 tv:W.kitOne K (.ref T) (.type "ValueError")=some true
 vee:mg "ValueError" = none
def Thg (K:W.Frag)(H:Hp)(v:V)(g:Option PyData):Prop:=(∃x:List Nat,v=.str (mkS x)/\Txy x/\((∃d,g=some d/\Wr 8 x d)\/(g=none/\∀d,¬ Wr 8 x d)))\/(g=none/\NoS K H v)
theorem YB {K:W.Frag}{H H':Hp}{v:V}{c:Value}{tb:Addr}{ps:Array Value}(h:TyOf K H v c)(s:SameL tb H H')(e:H tb=some (.tbl ps)):TyOf K H' v c:=by
 have k:∀p o,H p=some o->(∀ps,o≠.tbl ps)->H' p=some o:=λp o eo ne=>s p o (λz=>by rw [z,e] at eo;exact ne ps (Option.some.inj eo).symm) eo;cases h with
 | non=>exact .non
 | bl x=>exact .bl x
 | int i=>exact .int i
 | str x=>exact .str x
 | flt x=>exact .flt x
 | lst e=>exact .lst (k _ _ e (λ_ z=>by cases z))
 | frz e=>exact .frz (k _ _ e (λ_ z=>by cases z))
 | tup e=>exact .tup (k _ _ e (λ_ z=>by cases z))
 | dK e=>exact .dK (k _ _ e (λ_ z=>by cases z))
 | dT e=>exact .dT (k _ _ e (λ_ z=>by cases z))
 | ins e cl ha hn htk hm=>exact .ins (k _ _ e (λ_ z=>by cases z)) cl ha hn htk hm
theorem Thg.keep {H H':Hp}{v:V}{g:Option PyData}{tbW:Addr}(h:Thg K H v g)(s:SameL tbW H H')(t:TabW tbW H):Thg K H' v g:=by
 rcases h with h | ⟨a,c,b,d⟩
 ·exact .inl h
 ·obtain ⟨ps,e⟩:=t.tbl;exact .inr ⟨a,c,YB b s e,d⟩
theorem Thg.rea {H:Hp}{v:V}{g:Option PyData}{tbW T:Addr}{Q:VK}{E:XK}(h:Thg K H v g)(tab:TabW tbW H)(hg:∀d,g=some d->(∃m,m<=8/\Ws d m)->∀(v:V)(H':Hp),SameL tbW H H'->TabW tbW H'->Th H' v d->Q v H')(hb:g=none->∀H',SameL tbW H H'->TabW tbW H'->E (.ref T) none H'):Zp K tbW T [v] H Q E:=by
 refine ⟨tab,?_⟩;rcases h with ⟨x,rfl,px,h⟩ | ⟨e,h⟩
 ·refine .inl ⟨x,rfl,px,λd hd=>?_,λbad=>?_⟩
  ·rcases h with ⟨d',e,hd'⟩ | ⟨_,no⟩
   ·rw [WQ hd hd'];obtain ⟨m,hm,hw,_⟩:=hd';exact hg d' e ⟨m,hm,hw⟩
   ·exact absurd hd (no d)
  ·rcases h with ⟨d',e,hd'⟩ | ⟨e,no⟩
   ·exact absurd hd' (bad _)
   ·exact hb e
 ·exact .inr ⟨v,rfl,h,hb e⟩
def Zdq (K:W.Frag)(tbW:Addr):Sp:=λvs H Q _=>∃(v:V)(g:Option PyData),vs=[v]/\Thg K H v g/\TabW tbW H /\
 (∀d,g=some d->(∃m,m<=8/\Ws d m)->∀(t:Addr)(u:V)(H':Hp),SameL tbW H H'->TabW tbW H'->Th H' u d->H' t=some (.tup [.str "told", u])->Q (.ref t) H')/\(g=none->∀(t:Addr)(H':Hp),SameL tbW H H'->TabW tbW H'->H' t=some (.tup [.str "text", .non])->Q (.ref t) H')
theorem scAsk:Gz ["thing", "word", "found", "e"] ["thing"] (Gh Zbi):=⟨rfl,rfl,rfl,by decide +kernel,rfl,by decide +kernel,by decide +kernel⟩
theorem Zdr {f fRw T R N way tbW:Addr}{fd fdRw:FuncData}(F:Fun K "_law_asked" "_law_asked" Zbi f fd)(C:Zen K mg T R N way)(FRw:Fun K "read_wish" "read_wish" ZT fRw fdRw)(bRw:Binds K fdRw ["text"] [])(mRw:mg "read_wish" = some (.ref fRw))(GRw:J3 P w K mg base (CXr P w) 5 fRw fdRw ["text"] (Zp K tbW T))(mIsi:mg "isinstance" = none)(mInt:mg "int" = none):J3 P w K mg base CX0 6 f fd ["thing"] (Zdq K tbW):=by
 refine F.okQ scAsk (λvs H Q E h=>?_) (λcdv A outer s H vs Q E hr h=>?_)
 ·obtain ⟨_,_,rfl,_⟩:=h
  rfl
 ·obtain ⟨v,g,rfl,th,tab,hg,hb⟩:=h;have h16:(16777216:Nat)=sizeLine:=sizeLine_eq.symm;refine ⟨_,(Gv (PS.q (@Gs _ _ 1 _ _ _ _ scAsk.nd rfl (Or.inl rfl) Gg rfl (by first | exact .inl rfl | exact .inr rfl)))
    (Gv (PS.q (@Gs _ _ 2 _ _ _ _ scAsk.nd rfl (Or.inl rfl) Jz rfl (by first | exact .inl rfl | exact .inr rfl)))
    (Gv (Y6 (j:=2) (i:=3) GRw (hr.mono (by decide)) rfl mRw FRw.kp bRw .nil (@Ga _ _ _ _ _ (pv 0) Gd rfl) scAsk.nd rfl (Or.inl rfl) rfl rfl rfl rfl rfl rfl rfl C.mT C.tbe (λa=>@Gf _ _ _ (@Gs _ _ 1 _ _ _ _ scAsk.nd rfl (Or.inl rfl) (@Gp _ _ _ _ _ _ _ (Jp K) (@GO _ _ _ _ (@Ga _ _ _ _ _ Gg (@Ga _ _ _ _ _ Gg Gd rfl) rfl)) (Jm Ui rfl mInt J0 (@Ga _ _ _ _ _ (Zb3 (Gm (UA K) rfl mIsi GP (@Ga _ _ _ _ _ (pv 3) (@Ga _ _ _ _ _ (Jt C.mR) Gd rfl) rfl)) (UF (Gm (UA K) rfl mIsi GP (@Ga _ _ _ _ _ (pv 3) (@Ga _ _ _ _ _ (Jt C.mN) Gd rfl) rfl)))) Gd rfl)) (λ_ _=>rfl)) rfl (by first | exact .inl rfl | exact .inr rfl))))
    (PSs.q (@Gf _ _ _ (@Go _ _ _ _ (@Je _ _ _ _ _ (@Ga _ _ _ _ _ (pv 1) (@Ga _ _ _ _ _ (pv 2) Gd rfl) rfl)))))))),?_⟩
  refine GD (λσ1 H1=>σ1=[some v,some (.str "told"),none,none]/\H1=H) ?_ (λJ=>J _ _ ⟨rfl,rfl⟩);rintro σ1 H1 ⟨rfl,rfl⟩;refine GD (λσ1 H2=>σ1=[some v,some (.str "told"),some .non,none]/\H2=H1) ?_ (λJ=>J _ _ ⟨rfl,rfl⟩);rintro σ1 H2 ⟨rfl,rfl⟩;refine GD (λσ1 H3=>SameL tbW H2 H3/\TabW tbW H3/\((∃u d,σ1=[some v,some (.str "told"),some u,none]/\g=some d/\(∃m,m<=8/\Ws d m)/\Th H3 u d)\/(g=none/\σ1=[some v,some (.str "text"),some .non,none]))) ?_ (λJ=>?_)
  case _=>
   rintro σ1 H3 ⟨s3,tab3,⟨u,d,rfl,eg,hd,W⟩ | ⟨eg,rfl⟩⟩
   ·refine ⟨_,rfl,_,rfl,JK,λt ht=>?_⟩;have s4:Same H3 (upd H3 t (.tup [.str "told", u])):=Same.new ht;exact hg d eg hd t u _ (s3.trans (SameL.of s4)) (tab3.same s4) (W.same s4) Gb
   ·refine ⟨_,rfl,_,rfl,JK,λt ht=>?_⟩;have s4:Same H3 (upd H3 t (.tup [.str "text", .non])):=Same.new ht;exact hb eg t _ (s3.trans (SameL.of s4)) (tab3.same s4) Gb
  ·refine ⟨_,rfl,?_⟩;dsimp only [Xi];refine Thg.rea th tab (λd eg hd u H3 s3 tab3 W=>?_) (λeg H3 s3 tab3=>?_)
   ·exact J _ _ ⟨s3,tab3,.inl ⟨u,d,rfl,eg,hd,W⟩⟩
   ·refine ⟨T,rfl,C.tt,λa ha=>?_⟩;have s4:Same H3 (upd H3 a (W1 a T)):=Same.new ha;have e4:upd H3 a (W1 a T) a=some (W1 a T):=Gb;generalize upd H3 a (W1 a T)=H4 at s4 e4 ⊢;refine ⟨JK,λL hL=>?_⟩;have s5:Same H4 (upd H4 L (.lst [.str "text", .str "odd"])):=Same.new hL;refine ⟨_,rfl,_,_,false,rfl,⟨false,rfl,GR ⟨_,rfl,_,_,false,rfl,.inr ⟨false,rfl,?_⟩,.inr (.inl ⟨a,_,rfl,s5 _ _ e4,C.kT,rfl,C.tn⟩)⟩⟩,.inr (.inl ⟨a,_,rfl,s5 _ _ e4,C.kT,rfl,C.tr⟩)⟩;refine ⟨L,_,_,_,rfl,rfl,SqL.of Gb,Gi (j:=0) rfl,?_⟩;exact J _ _ ⟨s3.trans (SameL.of (s4.trans s5)),tab3.same (s4.trans s5),.inr ⟨eg,rfl⟩⟩
def Zds (K:W.Frag)(tbW:Addr):Sp:=λvs H Q _=>∃v:V,vs=[v]/\Thg K H v none/\TabW tbW H/\∀H',SameL tbW H H'->TabW tbW H'->Q (.bl true) H'
theorem scAny:Gz ["thing", "found", "e"] ["thing"] (Gh Zbj):=⟨rfl,rfl,rfl,by decide +kernel,rfl,by decide +kernel,by decide +kernel⟩
theorem Zdt {f fRw T R N way tbW:Addr}{fd fdRw:FuncData}(F:Fun K "_law_any" "_law_any" Zbj f fd)(C:Zen K mg T R N way)(FRw:Fun K "read_wish" "read_wish" ZT fRw fdRw)(bRw:Binds K fdRw ["text"] [])(mRw:mg "read_wish" = some (.ref fRw))(GRw:J3 P w K mg base (CXr P w) 5 fRw fdRw ["text"] (Zp K tbW T))(mIsi:mg "isinstance" = none):J3 P w K mg base CX0 6 f fd ["thing"] (Zds K tbW):=by
 refine F.okQ scAny (λvs H Q E h=>?_) (λcdv A outer s H vs Q E hr h=>?_)
 ·obtain ⟨_,rfl,_⟩:=h
  rfl
 ·obtain ⟨v,rfl,th,tab,q⟩:=h;refine ⟨_,(Gv (PS.q (@Gs _ _ 1 _ _ _ _ scAny.nd rfl (Or.inl rfl) OZ rfl (by first | exact .inl rfl | exact .inr rfl)))
    (Gv (ZaN (i:=2) GRw (hr.mono (by decide)) rfl mRw FRw.kp bRw .nil (@Ga _ _ _ _ _ (pv 0) Gd rfl) rfl rfl rfl rfl scAny.nd rfl rfl rfl C.mW C.wbe (λa=>@Gf _ _ _ (@Gs _ _ 1 _ _ _ _ scAny.nd rfl (Or.inl rfl) (Gm (UA K) rfl mIsi GP (@Ga _ _ _ _ _ (pv 2) (@Ga _ _ _ _ _ (Ju C.vee Zay) Gd rfl) rfl)) rfl (by first | exact .inl rfl | exact .inr rfl))))
    (PSs.q (@Gf _ _ _ (@Go _ _ _ _ (pv 1)))))),?_⟩
  refine GD (λσ1 H1=>σ1=[some v,some (.bl false),none]/\H1=H) ?_ (λJ=>J _ _ ⟨rfl,rfl⟩);rintro σ1 H1 ⟨rfl,rfl⟩;refine ⟨_,rfl,?_⟩;dsimp only [Xi];refine Thg.rea th tab (λd eg=>by cases eg) (λ_ H3 s3 tab3=>?_);refine ⟨T,rfl,C.tw,λa ha=>?_⟩;have s4:Same H3 (upd H3 a (W1 a T)):=Same.new ha;have e4:upd H3 a (W1 a T) a=some (W1 a T):=Gb;generalize upd H3 a (W1 a T)=H4 at s4 e4 ⊢;refine ⟨_,rfl,_,_,true,rfl,?_,.inr (.inl ⟨a,_,rfl,e4,C.kT,rfl,C.tv⟩)⟩;exact ⟨_,rfl,q _ (s3.trans (SameL.of s4)) (tab3.same s4)⟩
end
end M
namespace M
open PySem L2
section
variable {P:Program}{w:World}{K:W.Frag}{mg:Str->Option Value}{base:Heap}
inductive Wcs (b:Nat):List PyData->Nat->Prop
 | nil:Wcs b [] 0
 | cons {d:PyData} {ds:List PyData} {m k t:Nat}:Wc d m k->m<=b->Wcs b ds t->Wcs b (d::ds) (k+6+t)
theorem Wcs.mono {b b' t:Nat}{ds:List PyData}(h:Wcs b ds t)(hb:b<=b'):Wcs b' ds t:=by
 induction h with
 | nil=>exact .nil
 | cons a l _ ih=>exact .cons a (by lia) ih
theorem Wcs.app {b t t':Nat}{ds es:List PyData}(h:Wcs b ds t)(h':Wcs b es t'):Wcs b (ds++es) (t+t'):=by
 induction h with
 | nil=>rw [Nat.zero_add];exact h'
 | cons a l _ ih=>rw [List.cons_append,Nat.add_assoc];exact .cons a l ih
theorem Wcs.cut {b:Nat}:∀{ds es:List PyData}{t:Nat},Wcs b (ds++es) t->∃t1 t2,Wcs b ds t1/\Wcs b es t2/\t=t1+t2
 | [],es,t,h=>⟨0,t,.nil,h,(Nat.zero_add t).symm⟩
 | d::ds,es,_,.cons a l r=>by
  obtain ⟨t1,t2,h1,h2,rfl⟩:=Wcs.cut r;exact ⟨_,t2,.cons a l h1,h2,by lia⟩
structure Wl (H:Hp)(vs:List V)(ds:List PyData)(b c:Nat):Prop where
 t:Ths H vs ds
 w:Wcs b ds c
theorem Wl.same {H H':Hp}{vs:List V}{ds:List PyData}{b t:Nat}(h:Wl H vs ds b t)(s:Same H H'):Wl H' vs ds b t:=⟨h.t.same s,h.w⟩
theorem ZbO {ds:List PyData}{k:Nat}(h:k+1<ds.length):ds=ds.take k++(ds[k]::ds[k+1]::ds.drop (k+2)):=by
 rw [<-List.drop_eq_getElem_cons h,<-List.drop_eq_getElem_cons (show k<ds.length by lia),List.take_append_drop]
def Zdu:Sp:=λvs H Q _=>∃(pa xl:Addr)(us:List V)(ds:List PyData)(ns:List Int)(T0:Nat),vs=[.ref pa,.ref xl]/\H pa=some (.lst us)/\Wl H us ds 1 T0/\T0<=36/\1<=ds.length/\ds.length<=3/\H xl=some (.lst (ns.map V.int))/\ns.length=4/\ZbJ H Q 3 30
theorem scJoi:Gz ["parts", "xs", "k", "at", "word"] ["parts", "xs"] (Gh Zbb):=⟨rfl,rfl,rfl,by decide +kernel,rfl,by decide +kernel,by decide +kernel⟩
theorem Zdv {f:Addr}{fd:FuncData}(F:Fun K "_law_joined" "_law_joined" Zbb f fd)(mRange:mg "range" = none)(mLen:mg "len" = none)(mLst:mg "list" = none):Jl P w K mg base CX0 1 f fd ["parts", "xs"] Zdu:=by
 refine F.ok scJoi (λvs H Q E h=>?_) (λcdv A outer s H vs Q E hr h=>?_)
 ·obtain ⟨_,_,_,_,_,_,rfl,_⟩:=h
  rfl
 ·obtain ⟨pa,xl,us,ds,ns,T0,rfl,epa,W,hT0,h1,h4,exl,hn,q⟩:=h;have h16:(16777216:Nat)=sizeLine:=sizeLine_eq.symm;have n3:3<=sizeLine:=by lia
  have hul:=W.t.len;refine ⟨_,Ge (Gs (i:=0) scJoi.nd rfl (Or.inl rfl) (Jm (Zaz K) rfl mLst OB (Ga (pv 0) Gd)))
    (Ge (Om PassesOwn.never rfl (JB rfl mRange (Ga (Gn Vh (Gm (VS K) rfl mLen PySem.boot_len (Ga (pv 0) Gd)) Gc) Gd)) (GV (i:=2) scJoi.nd rfl (Or.inl rfl))
    (Ge (Gs (i:=3) scJoi.nd rfl (Or.inl rfl) (Gn GL (Gp (Jp K) (pv 1) (Gn J5 Gc (pv 2)) (λ_ _=>rfl)) (Gn Vh (Gm (VS K) rfl mLen PySem.boot_len (Ga (pv 0) Gd)) Gc)))
    (Ge (Gs (i:=4) scJoi.nd rfl (Or.inl rfl) (Gp (Jp K) (GO (Ga Gg (Ga Gg (Ga Gg Gd)))) (Gn GL (Gp (Jp K) (pv 1) (Gn Jd (Gn J5 Gc (pv 2)) Gc) (λ_ _=>rfl)) Gc) (λ_ _=>rfl)))
    (Gf (Gs (i:=0) scJoi.nd rfl (Or.inl rfl) (Gn J8 (Gn J8 (Gx (kSl K) (pv 0) GX (Gw (pv 3))) (GO (Ga (Je (Ga (pv 4) (Ga (Gp (Jp K) (pv 0) (pv 3) (λ_ _=>rfl)) (Ga (Gp (Jp K) (pv 0) (Gn Jd (pv 3) Gc) (λ_ _=>rfl)) Gd)))) Gd))) (Gx (kSl K) (pv 0) (Gw (Gn Jd (pv 3) Gc)) GX)))))))
    (Gf (Go (Gp (Jp K) (pv 0) Gc (λ_ _=>rfl))))),?_⟩
  refine ⟨_,rfl,pa,us,rfl,.inl (SqL.of epa),λpb hpb=>?_⟩;have s1:Same H (upd H pb (.lst us)):=Same.new hpb;have epb:upd H pb (.lst us) pb=some (.lst us):=Gb;generalize upd H pb (.lst us)=H1 at s1 epb ⊢;refine ⟨_,rfl,pb,us,rfl,.inl (SqL.of epb),_,_,rfl,rfl,_,rfl,by lia,by lia,?_⟩;refine JT (lo:=0) (n:=((us.length:Int)-1).toNat) (λi σ' H'=>∃(pc:Addr)(vs:List V)(es:List PyData)(v2 v3 v4:Option V),σ'=[some (.ref pc),some (.ref xl),v2,v3,v4]/\Same H H'/\H' pc=some (.lst vs)/\Wl H' vs es (i+1) T0/\es.length+i=ds.length) ⟨pb,us,ds,none,none,none,rfl,s1,epb,W.same s1,rfl⟩ ?_ ?_
  ·rintro i σ' H2 hi ⟨pc,vs,es,v2,v3,v4,rfl,s2,epc,W2,hes⟩;rw [Int.zero_add];have hvl:=W2.t.len;have exl2:=s2 _ _ exl;have hi4:i<4:=by lia
   have hpos:(0:Int)<(vs.length:Int)-1:=by lia
   dsimp only [JN];refine GD (λσ' H'=>∃aN:Nat,σ'=[some (.ref pc),some (.ref xl),some (.int (i:Int)),some (.int (aN:Int)),v4]/\H2=H'/\aN+1<es.length) ?s1 ?f1
   case f1=>
    intro hk;refine ⟨_,rfl,_,rfl,_,_,rfl,rfl,.inl ⟨by decide,by decide⟩,xl,_,_,_,rfl,rfl,SqL.of exl2,GY (by lia) (by lia),_,rfl,pc,_,rfl,.inl (SqL.of epc),_,_,rfl,rfl,_,_,rfl,rfl,hpos,?_⟩;obtain ⟨aN,haN⟩:=Int.eq_ofNat_of_zero_le (Int.emod_nonneg (ns.getD (2 * (i:Int)).toNat 0) (Int.ne_of_gt hpos));have hlt:=Int.emod_lt_of_pos (ns.getD (2 * (i:Int)).toNat 0) hpos;rw [haN] at hlt;exact hk _ _ ⟨aN,by rw [<-haN];rfl,rfl,by lia⟩
   rintro σ' H' ⟨aN,rfl,rfl,haN⟩;refine GD (λσ' H'=>∃wd:Str,σ'=[some (.ref pc),some (.ref xl),some (.int (i:Int)),some (.int (aN:Int)),some (.str wd)]/\Same H2 H'/\wd∈sJoin) ?s2 ?f2
   case f2=>
    intro hk;refine ⟨n3,λp hp=>?_⟩;have s3:Same H2 (upd H2 p (.lst (sJoin.map V.str))):=Same.new hp;obtain ⟨wd,hwd,ewd⟩:=Ov sJoin (j:=ns.getD (2 * (i:Int)+1).toNat 0 % 3) (Int.emod_nonneg _ (by decide)) (Int.emod_lt_of_pos _ (by decide));refine ⟨_,rfl,_,rfl,_,_,rfl,rfl,.inl ⟨by decide,by decide⟩,_,_,rfl,rfl,xl,_,_,_,rfl,rfl,SqL.of (s3 _ _ exl2),GY (by lia) (by lia),_,_,rfl,rfl,(by show (0:Int)<3;decide),p,_,_,_,rfl,rfl,SqL.of Gb,ewd,?_⟩;exact hk _ _ ⟨wd,rfl,s3,hwd⟩
   rintro σ' H3 ⟨wd,rfl,s3,hwd⟩;have W3:=W2.same s3;have epc3:=s3 _ _ epc;obtain ⟨va,ga,ta⟩:=W3.t.at (List.getElem?_eq_getElem (show aN<es.length by lia));obtain ⟨vb,gb,tb⟩:=W3.t.at (List.getElem?_eq_getElem (show aN+1<es.length by lia));have w3:=W3.w;rw [ZbO haN] at w3;obtain ⟨u1,u2,z1,z2,eT⟩:=w3.cut;generalize es[aN]=da at ta z2;generalize es[aN+1]=db at tb z2;obtain ⟨m1,k1,m2,k2,u3,w1,l1,w2,l2,z3,rfl⟩:∃m1 k1 m2 k2 u3,Wc da m1 k1/\m1<=i+1/\Wc db m2 k2/\m2<=i+1/\Wcs (i+1) (es.drop (aN+2)) u3/\u2=k1+6+(k2+6+u3):=by
    cases z2 with
    | cons a l r=>cases r with | cons a' l' r'=>exact ⟨_,_,_,_,_,a,l,a',l',r',rfl⟩
   have htk:(vs.take aN).length<=4:=by rw [List.length_take];lia
   have hdr:(vs.drop (aN+2)).length<=4:=by rw [List.length_drop];lia
   refine ⟨_,rfl,_,rfl,_,rfl,pc,_,rfl,SqL.of epc3,λc1 hc1=>?_⟩;rw [show J6 vs none (some (aN:Int))=vs.take aN from Zcn];have t1:Same H3 (upd H3 c1 (.lst (vs.take aN))):=Same.new hc1;have e1:upd H3 c1 (.lst (vs.take aN)) c1=some (.lst (vs.take aN)):=Gb;generalize upd H3 c1 (.lst (vs.take aN))=H4 at t1 e1 ⊢;refine ⟨_,rfl,_,rfl,_,rfl,pc,_,_,_,rfl,rfl,SqL.of (t1 _ _ epc3),Gi ga,_,rfl,_,rfl,_,_,rfl,rfl,pc,_,_,_,rfl,rfl,SqL.of (t1 _ _ epc3),Gi (j:=aN+1) gb,n3,λt ht=>?_⟩;have t2:Same H4 (upd H4 t (.tup [.str wd,va,vb])):=Same.new ht;have e2:upd H4 t (.tup [.str wd,va,vb]) t=some (.tup [.str wd,va,vb]):=Gb;generalize upd H4 t (.tup [.str wd,va,vb])=H5 at t2 e2 ⊢;refine ⟨(by show 1<=sizeLine;lia),λc2 hc2=>?_⟩;have t3:Same H5 (upd H5 c2 (.lst [.ref t])):=Same.new hc2;have e3:upd H5 c2 (.lst [.ref t]) c2=some (.lst [.ref t]):=Gb;generalize upd H5 c2 (.lst [.ref t])=H6 at t3 e3 ⊢;refine ⟨c1,c2,_,_,rfl,rfl,t3 _ _ (t2 _ _ e1),e3,by rw [List.length_singleton];lia,λc3 hc3=>?_⟩;have t4:Same H6 (upd H6 c3 (.lst (vs.take aN++[.ref t]))):=Same.new hc3;have e4:upd H6 c3 (.lst (vs.take aN++[.ref t])) c3=some (.lst (vs.take aN++[.ref t])):=Gb;generalize upd H6 c3 (.lst (vs.take aN++[.ref t]))=H7 at t4 e4 ⊢;have T4:=(t1.trans t2).trans (t3.trans t4);refine ⟨_,rfl,_,rfl,_,_,rfl,rfl,_,rfl,pc,_,rfl,SqL.of (T4 _ _ epc3),λc4 hc4=>?_⟩;rw [show J6 vs (some ((aN:Int)+2)) none=vs.drop (aN+2) from J1 (k:=aN+2)];have t5:Same H7 (upd H7 c4 (.lst (vs.drop (aN+2)))):=Same.new hc4;have e5:upd H7 c4 (.lst (vs.drop (aN+2))) c4=some (.lst (vs.drop (aN+2))):=Gb;generalize upd H7 c4 (.lst (vs.drop (aN+2)))=H8 at t5 e5 ⊢;refine ⟨c3,c4,_,_,rfl,rfl,t5 _ _ e4,e5,by rw [List.length_append,List.length_singleton];lia,λc5 hc5=>?_⟩;have t6:=Same.new (o:=.lst (vs.take aN++[.ref t]++vs.drop (aN+2))) hc5;have T6:=(T4.trans t5).trans t6;have tt:Th _ (.ref t) (.tuple [.str wd,da,db]):=.tup ((((t3.trans t4).trans t5).trans t6) _ _ e2) (by simp) (.cons (.str wd) (.cons (ta.same T6) (.cons (tb.same T6) .nil)));refine ⟨c5,_,es.take aN++[.tuple [.str wd,da,db]]++es.drop (aN+2),_,_,_,rfl,(s2.trans s3).trans T6,Gb,⟨(((W3.t.same T6).take aN).app (.cons tt .nil)).app ((W3.t.same T6).drop (aN+2)),?_⟩,?_⟩
   ·have h9:=((z1.mono (Nat.le_succ _)).app (Wcs.cons (.join hwd w1 w2) (by lia) .nil)).app (z3.mono (Nat.le_succ _));rw [show u1+(k1+k2+6+6+0)+u3=T0 by lia] at h9;exact h9
   ·rw [List.length_append,List.length_append,List.length_take,List.length_drop,List.length_singleton]
    lia
  ·rintro σ' H2 ⟨pc,vs,es,v2,v3,v4,rfl,s2,epc,W2,hes⟩;have hvl:=W2.t.len;have he1:0<es.length:=by lia
   obtain ⟨va,ga,ta⟩:=W2.t.at (List.getElem?_eq_getElem he1);obtain ⟨d0,rfl⟩:∃d0,es=[d0]:=List.length_eq_one_iff.mp (by lia);obtain ⟨m,k,wm,lm,lk⟩:∃m k,Wc d0 m k/\m<=((us.length:Int)-1).toNat+1/\k<=30:=by
    have h9:=W2.w;generalize T0=t9 at h9 hT0;cases h9 with
    | cons a l r=>exact ⟨_,_,a,l,by lia⟩
   refine ⟨_,rfl,pc,_,_,_,rfl,rfl,SqL.of epc,Gi (j:=0) ga,?_⟩;exact q _ _ m k _ s2 ta wm (by lia) lk
end
end M
namespace M
open PySem L2
section
variable {P:Program}{w:World}{K:W.Frag}{mg:Str->Option Value}{base:Heap}
def Zdw:Sp:=λvs H Q _=>∃(v:V)(xl:Addr)(d:PyData)(m c:Nat)(ns:List Int),vs=[v,.ref xl]/\Th H v d/\Wc d m c/\m<=3/\c<=30/\H xl=some (.lst (ns.map V.int))/\ns.length=3/\ZbJ H Q 10 570
theorem scDee:Gz ["thing", "xs", "k", "word"] ["thing", "xs"] (Gh Zbc):=⟨rfl,rfl,rfl,by decide +kernel,rfl,by decide +kernel,by decide +kernel⟩
theorem Zdx {f:Addr}{fd:FuncData}(F:Fun K "_law_deep" "_law_deep" Zbc f fd)(mRange:mg "range" = none):Jl P w K mg base CX0 1 f fd ["thing", "xs"] Zdw:=by
 refine F.ok scDee (λvs H Q E h=>?_) (λcdv A outer s H vs Q E hr h=>?_)
 ·obtain ⟨_,_,_,_,_,_,rfl,_⟩:=h
  rfl
 ·obtain ⟨v0,xl,d0,m0,c0,ns,rfl,t0,w0,l0,k0,exl,hn,q⟩:=h;have h16:(16777216:Nat)=sizeLine:=sizeLine_eq.symm;have n3:3<=sizeLine:=by lia
  have n1:1<=sizeLine:=by lia
  refine ⟨_,Ge (GT (Gj Jj (Gn GL (Gp (Jp K) (pv 1) Gc (λ_ _=>rfl)) Gc) Gc (Gq _)) (Ge (Om PassesOwn.never rfl (JB rfl mRange (Ga (Gn GL (Gp (Jp K) (pv 1) Gc (λ_ _=>rfl)) Gc) Gd)) (GV (i:=2) scDee.nd rfl (Or.inl rfl))
    (Gf (Gs (i:=0) scDee.nd rfl (Or.inl rfl) (Je (Ga (Gp (Jp K) (GO (Ga Gg (Ga Gg (Ga Gg Gd)))) (Gn GL (Gn Jd (Gp (Jp K) (pv 1) Gc (λ_ _=>rfl)) (pv 2)) Gc) (λ_ _=>rfl)) (Ga (pv 0) (Ga (pv 0) Gd)))))))
    (Gf (Go (pv 0)))) Gr)
    (Ge (Om PassesOwn.never rfl (JB rfl mRange (Ga (Gn GL (Gp (Jp K) (pv 1) Gc (λ_ _=>rfl)) Gc) Gd)) (GV (i:=2) scDee.nd rfl (Or.inl rfl))
    (Ge (Gs (i:=3) scDee.nd rfl (Or.inl rfl) (Gp (Jp K) (GO (Ga Gg (Ga Gg (Ga Gg Gd)))) (Gn GL (Gn Jd (Gp (Jp K) (pv 1) Gc (λ_ _=>rfl)) (pv 2)) Gc) (λ_ _=>rfl)))
    (Gf (Gs (i:=0) scDee.nd rfl (Or.inl rfl) (Gp (Jp K) (GO (Ga (Je (Ga (pv 3) (Ga (pv 0) (Ga (Je (Ga Gg Gd)) Gd)))) (Ga (Je (Ga (pv 3) (Ga (Je (Ga Gg (Ga (Je (Ga (pv 2) (Ga Gc Gd))) Gd))) (Ga (pv 0) Gd)))) Gd))) (Gn GL (Gn U0 (Gp (Jp K) (pv 1) Gc (λ_ _=>rfl)) (Gn Jd Gc (pv 2))) Gc) (λ_ _=>rfl))))))
    (Gf (Go (pv 0)))),?_⟩
  refine ⟨_,rfl,xl,_,_,_,rfl,rfl,SqL.of exl,GY (by lia) (by lia),_,_,rfl,rfl,(by show (0:Int)<4;decide),rfl,_,rfl,Ox (λ_=>?_) (λ_=>?_)⟩
  ·have r0:0<=ns.getD (0:Int).toNat 0 % 5:=Int.emod_nonneg _ (by decide);have r1:ns.getD (0:Int).toNat 0 % 5<5:=Int.emod_lt_of_pos _ (by decide);refine ⟨_,rfl,xl,_,_,_,rfl,rfl,SqL.of exl,GY (by lia) (by lia),_,_,rfl,rfl,(by show (0:Int)<5;decide),_,rfl,by lia,by lia,?_⟩;refine JT (lo:=0) (n:=(ns.getD (0:Int).toNat 0 % 5).toNat) (λi σ' H'=>∃(v:V)(d:PyData)(m c:Nat)(v2 v3:Option V),σ'=[some v,some (.ref xl),v2,v3]/\Same H H'/\Th H' v d/\Wc d m c/\m<=3+i/\c+6<=36 * 2 ^ i) ⟨v0,d0,m0,c0,none,none,rfl,Same.refl _,t0,w0,by lia,by rw [Nat.pow_zero];lia⟩ ?_ ?_
   ·rintro i σ' H1 hi ⟨v,d,m,c,v2,v3,rfl,s1,t1,w1,l1,k1⟩;rw [Int.zero_add];have exl1:=s1 _ _ exl;dsimp only [JN];refine ⟨n3,λp hp=>?_⟩;have s3:Same H1 (upd H1 p (.lst (sJoin.map V.str))):=Same.new hp;obtain ⟨wd,hwd,ewd⟩:=Ov sJoin (j:=(ns.getD (1:Int).toNat 0+(i:Int)) % 3) (Int.emod_nonneg _ (by decide)) (Int.emod_lt_of_pos _ (by decide));refine ⟨_,rfl,xl,_,_,_,rfl,rfl,SqL.of (s3 _ _ exl1),GY (by lia) (by lia),_,rfl,_,_,rfl,rfl,_,_,rfl,rfl,(by show (0:Int)<3;decide),p,_,_,_,rfl,rfl,SqL.of Gb,ewd,_,rfl,_,rfl,n3,λp2 hp2=>?_⟩;have s4:=Same.new (o:=.tup [.str wd,v,v]) hp2;have S:=s3.trans s4;exact ⟨_,_,_,_,_,_,rfl,s1.trans S,.tup Gb (by simp) (.cons (.str wd) (.cons (t1.same S) (.cons (t1.same S) .nil))),.join hwd w1 w1,by lia,by rw [Nat.pow_succ];lia⟩
   ·rintro σ' H1 ⟨v,d,m,c,v2,v3,rfl,s1,t1,w1,l1,k1⟩;refine ⟨_,rfl,q _ _ m c _ s1 t1 w1 (by lia) ?_⟩;have:2 ^ (ns.getD (0:Int).toNat 0 % 5).toNat<=2 ^ 4:=Nat.pow_le_pow_right (by decide) (by lia)
    lia
  ·have r0:0<=ns.getD (0:Int).toNat 0 % 8:=Int.emod_nonneg _ (by decide);have r1:ns.getD (0:Int).toNat 0 % 8<8:=Int.emod_lt_of_pos _ (by decide);refine ⟨_,rfl,xl,_,_,_,rfl,rfl,SqL.of exl,GY (by lia) (by lia),_,_,rfl,rfl,(by show (0:Int)<8;decide),_,rfl,by lia,by lia,?_⟩;refine JT (lo:=0) (n:=(ns.getD (0:Int).toNat 0 % 8).toNat) (λi σ' H'=>∃(v:V)(d:PyData)(m c:Nat)(v2 v3:Option V),σ'=[some v,some (.ref xl),v2,v3]/\Same H H'/\Th H' v d/\Wc d m c/\m<=3+i/\c<=30+12 * i) ⟨v0,d0,m0,c0,none,none,rfl,Same.refl _,t0,w0,by lia,by lia⟩ ?_ ?_
   ·rintro i σ' H1 hi ⟨v,d,m,c,v2,v3,rfl,s1,t1,w1,l1,k1⟩;rw [Int.zero_add];have exl1:=s1 _ _ exl;have hi9:i<10:=by lia
    dsimp only [JN];refine GD (λσ' H'=>∃wd:Str,σ'=[some v,some (.ref xl),some (.int (i:Int)),some (.str wd)]/\Same H1 H'/\wd∈sJoin) ?s2 ?f2
    case f2=>
     intro hk;refine ⟨n3,λp hp=>?_⟩;have s3:Same H1 (upd H1 p (.lst (sJoin.map V.str))):=Same.new hp;obtain ⟨wd,hwd,ewd⟩:=Ov sJoin (j:=(ns.getD (1:Int).toNat 0+(i:Int)) % 3) (Int.emod_nonneg _ (by decide)) (Int.emod_lt_of_pos _ (by decide));refine ⟨_,rfl,xl,_,_,_,rfl,rfl,SqL.of (s3 _ _ exl1),GY (by lia) (by lia),_,rfl,_,_,rfl,rfl,_,_,rfl,rfl,(by show (0:Int)<3;decide),p,_,_,_,rfl,rfl,SqL.of Gb,ewd,?_⟩;exact hk _ _ ⟨wd,rfl,s3,hwd⟩
    rintro σ' H2 ⟨wd,rfl,s2,hwd⟩;refine ⟨_,rfl,_,rfl,n1,λp1 hp1=>?_⟩;have u1:Same H2 (upd H2 p1 (.tup [.str "shy"])):=Same.new hp1;have e1:upd H2 p1 (.tup [.str "shy"]) p1=some (.tup [.str "shy"]):=Gb;generalize upd H2 p1 (.tup [.str "shy"])=H3 at u1 e1 ⊢;refine ⟨n3,λp2 hp2=>?_⟩;have u2:Same H3 (upd H3 p2 (.tup [.str wd,v,.ref p1])):=Same.new hp2;have e2:upd H3 p2 (.tup [.str wd,v,.ref p1]) p2=some (.tup [.str wd,v,.ref p1]):=Gb;generalize upd H3 p2 (.tup [.str wd,v,.ref p1])=H4 at u2 e2 ⊢;refine ⟨_,rfl,_,rfl,JK,λp3 hp3=>?_⟩;have u3:Same H4 (upd H4 p3 (.tup [.int (i:Int),.int 9999])):=Same.new hp3;have e3:upd H4 p3 (.tup [.int (i:Int),.int 9999]) p3=some (.tup (([(i:Int),9999]:List Int).map V.int)):=Gb;generalize upd H4 p3 (.tup [.int (i:Int),.int 9999])=H5 at u3 e3 ⊢;refine ⟨JK,λp4 hp4=>?_⟩;have u4:Same H5 (upd H5 p4 (.tup [.str "with", .ref p3])):=Same.new hp4;have e4:upd H5 p4 (.tup [.str "with", .ref p3]) p4=some (.tup [.str "with", .ref p3]):=Gb;generalize upd H5 p4 (.tup [.str "with", .ref p3])=H6 at u4 e4 ⊢;refine ⟨_,rfl,n3,λp5 hp5=>?_⟩;have u5:Same H6 (upd H6 p5 (.tup [.str wd,.ref p4,v])):=Same.new hp5;have e5:upd H6 p5 (.tup [.str wd,.ref p4,v]) p5=some (.tup [.str wd,.ref p4,v]):=Gb;generalize upd H6 p5 (.tup [.str wd,.ref p4,v])=H7 at u5 e5 ⊢;refine ⟨JK,λp6 hp6=>?_⟩;have u6:Same H7 (upd H7 p6 (.lst [.ref p2,.ref p5])):=Same.new hp6;have e6:upd H7 p6 (.lst [.ref p2,.ref p5]) p6=some (.lst [.ref p2,.ref p5]):=Gb;generalize upd H7 p6 (.lst [.ref p2,.ref p5])=H8 at u6 e6 ⊢;have U:=((u3.trans u4).trans u5).trans u6;have S:=(s1.trans s2).trans ((u1.trans u2).trans U);have tA:Th H8 (.ref p2) (.tuple [.str wd,d,.tuple [.str "shy"]]):=.tup (U _ _ e2) (by simp) (.cons (.str wd) (.cons (t1.same (s2.trans ((u1.trans u2).trans U))) (.cons (.tup ((u2.trans U) _ _ e1) (by simp) (.cons (.str _) .nil)) .nil)));have tB:Th H8 (.ref p5) (.tuple [.str wd,.tuple [.str "with", .tuple (([(i:Int),9999]:List Int).map PyData.int)],d]):=.tup (u6 _ _ e5) (by simp) (.cons (.str wd) (.cons (.tup ((u5.trans u6) _ _ e4) (by simp) (.cons (.str _) (.cons (.tup (((u4.trans u5).trans u6) _ _ e3) (by simp) (Vc _ _)) .nil))) (.cons (t1.same (s2.trans ((u1.trans u2).trans U))) .nil)));have wA:Wc (.tuple [.str wd,d,.tuple [.str "shy"]]) (max m 1+1) (c+6+6):=.join hwd w1 (Z7 (by decide +kernel));have wB:Wc (.tuple [.str wd,.tuple [.str "with", .tuple (([(i:Int),9999]:List Int).map PyData.int)],d]) (max 1 m+1) (6+c+6):=.join hwd (Z8 (by decide +kernel) (US λz hz=>by
     rcases List.mem_cons.mp hz with y | y
     ·lia
     ·rw [List.mem_singleton] at y;lia) (by simp)) w1
    have pm:=w1.pos;have exl8:=S _ _ exl;generalize hj:ns.getD (2:Int).toNat 0 / (1+(i:Int)) % 2=jj;have hj0:0<=jj:=by rw [<-hj];exact Int.emod_nonneg _ (by decide)
    have hj1:jj<2:=by rw [<-hj];exact Int.emod_lt_of_pos _ (by decide)
    have fin:∃x dd mm cc,atI ([.ref p2,.ref p5]:List V) jj=some x/\Th H8 x dd/\Wc dd mm cc/\mm<=3+(i+1)/\cc<=30+12 * (i+1):=by
     rcases (by lia:jj=0\/jj=1) with z | z
     ·rw [z];exact ⟨_,_,_,_,Gi (j:=0) rfl,tA,wA,by lia,by lia⟩
     ·rw [z];exact ⟨_,_,_,_,Gi (j:=1) rfl,tB,wB,by lia,by lia⟩
    obtain ⟨x,dd,mm,cc,ex,tx,wx,lx,kx⟩:=fin;rw [<-hj] at ex;refine ⟨_,rfl,xl,_,_,_,rfl,rfl,SqL.of exl8,GY (by lia) (by lia),_,rfl,_,_,rfl,rfl,_,_,rfl,rfl,⟨(by show (0:Int)<1+(i:Int);lia),Zeg (by lia)⟩,_,_,rfl,rfl,(by show (0:Int)<2;decide),p6,_,_,_,rfl,rfl,SqL.of e6,ex,?_⟩;exact ⟨x,dd,mm,cc,_,_,rfl,S,tx,wx,lx,kx⟩
   ·rintro σ' H1 ⟨v,d,m,c,v2,v3,rfl,s1,t1,w1,l1,k1⟩;exact ⟨_,rfl,q _ _ m c _ s1 t1 w1 (by lia) (by lia)⟩
end
end M
namespace M
open PySem L2
section
variable {P:Program}{w:World}{K:W.Frag}{mg:Str->Option Value}{base:Heap}
def Zy (m:Nat):Sp:=λvs H Q _=>∃(v:V)(d:PyData)(j:Nat)(tx:List Nat),vs=[v]/\Th H v d/\Ws d j/\j<=m/\j<=10/\Tx d tx/\∀H',Same H H'->Q (.str (mkS tx)) H'
theorem scWrt:Gz ["wish", "numbers", "found", "one"] ["wish"] (Gh Zbd):=⟨rfl,rfl,rfl,by decide +kernel,rfl,by decide +kernel,by decide +kernel⟩
theorem Zz (wd:Str)(x y:List Nat):("(" : Str)++mkS x++(" " : Str)++wd++(" " : Str)++mkS y++(")" : Str)=mkS (Jg wd x y):=by
 apply JC;rw [Jk,Jk,Jk,Jk,Jk,Jk];show [40]++x++[32]++wd.cps.toList++[32]++y++[41]=Jg wd x y;unfold Jg;simp
def Ow (ns:List Int):List Nat:=(ns.map PyData.int).flatMap λd=>32::Wx d
theorem Xh (ns:List Int)(n:Int):Ow (ns++[n])=Ow ns++32::(num n).cps.toList:=by
 unfold Ow;rw [List.map_append,List.flatMap_append];simp [Wx]
theorem YC {ns:List Int}(h:∀i∈ns,0<=i/\i<=9999):(Ow ns).length<=5 * ns.length:=by
 induction ns with
 | nil=>exact Nat.le_refl _
 | cons p l ih=>
  have h2:=(Uq (h p (List.mem_cons_self ..)).1 (h p (List.mem_cons_self ..)).2).1;have:=ih λq hq=>h q (List.mem_cons_of_mem _ hq);unfold Ow at this ⊢;rw [List.map_cons,List.flatMap_cons,List.length_append,List.length_cons,List.length_cons];show (num p).cps.toList.length+1+_<=_
  lia
theorem YD {wd:Str}(h:wd∈sJoin):wd = "and" \/ wd = "or" \/ wd = "but" := by
 unfold sJoin at h;rcases List.mem_cons.mp h with h | h
 ·exact .inl h
 rcases List.mem_cons.mp h with h | h
 ·exact .inr (.inl h)
 ·exact .inr (.inr (List.mem_singleton.mp h))
theorem Z9 {f:Addr}{fd:FuncData}(FWt:Fun K "_law_written" "_law_written" Zbd f fd)(bWt:Binds K fd ["wish"] [])(mWt:mg "_law_written" = some (.ref f))(mLen:mg "len" = none)(mStr:mg "str" = none):∀m,Jl P w K mg base CX0 m f fd ["wish"] (Zy m)
 | 0=>⟨λvs H Q E h=>by obtain ⟨_,_,_,_,_,_,z,l,_⟩:=h;exact absurd z.pos (by lia),λA outer s H args us vs Q E _ _ _ _ h=>by obtain ⟨_,_,_,_,_,_,z,l,_⟩:=h;exact absurd z.pos (by lia)⟩
 | m+1=>by
  have GWt:=Z9 FWt bWt mWt mLen mStr m;refine FWt.ok scWrt (λvs H Q E h=>?_) (λcdv A outer s H vs Q E hr h=>?_)
  ·obtain ⟨_,_,_,_,rfl,_⟩:=h
   rfl
  ·obtain ⟨v,d,j,tx,rfl,th,hw,hj,h8,htx,q⟩:=h;have h16:(16777216:Nat)=sizeLine:=sizeLine_eq.symm;have lx:=Zw hw h8 th htx;have l1:("(" : Str).length=1:=by decide +kernel
   have l2:(" " : Str).length=1:=by decide +kernel
   have l3:(")" : Str).length=1:=by decide +kernel
   refine ⟨_,Ge (GT (PW.pt (JS (Gj Jj (Gp (OW K) (pv 0) Gc (λ_ _=>rfl)) Gg (Gq _)) (JS (Gj Jj (Gp (OW K) (pv 0) Gc (λ_ _=>rfl)) Gg (Gq _)) (JO (Gj Jj (Gp (OW K) (pv 0) Gc (λ_ _=>rfl)) Gg (Gq _)))))) (Gf (Go (Jf (Jf (Jf (Jf (Jf (Jf Gg (GH GWt (hr.mono (by lia)) rfl mWt FWt.kp bWt .nil Jh (Ga (Gp (OW K) (pv 0) Gc (λ_ _=>rfl)) Gd))) Gg) (Gp (OW K) (pv 0) Gc (λ_ _=>rfl))) Gg) (GH GWt (hr.mono (by lia)) rfl mWt FWt.kp bWt .nil Jh (Ga (Gp (OW K) (pv 0) Gc (λ_ _=>rfl)) Gd))) Gg))) Gr)
    (Ge (Gs (i:=1) scWrt.nd rfl (Or.inl rfl) (Gx (ZbS K) (pv 0) (Gw Gc) GX))
    (Ge (GT (Gj Jj (Gm (VS K) rfl mLen PySem.boot_len (Ga (pv 0) Gd)) Gc (Gq _)) (Gf (Gs (i:=1) scWrt.nd rfl (Or.inl rfl) (Gp (OW K) (pv 0) Gc (λ_ _=>rfl)))) Gr)
    (Ge (Gs (i:=2) scWrt.nd rfl (Or.inl rfl) (Gp (OW K) (pv 0) Gc (λ_ _=>rfl)))
    (Ge (Om PassesOwn.never rfl (YT K (pv 1)) (GV (i:=3) scWrt.nd rfl (Or.inl rfl))
    (Gf (Gs (i:=2) scWrt.nd rfl (Or.inl rfl) (Jf (Jf (pv 2) Gg) (Jm ZeE rfl mStr Oh (Ga (pv 3) Gd))))))
    (Gf (Go (pv 2))))))),?_⟩
   cases hw with
   | @leaf wd rest hl=>
    cases htx with
    | join hw _ _=>exact absurd hw (G0 hl)
    | leaf _=>
     obtain ⟨ns,en,hn,hz,hc⟩:=X9 th hl;have nj:=G0 hl;have no:∀x∈sJoin,¬ decide (V.str wd=V.str x)=true:=λx hx z=>nj (by rw [V.str.inj (of_decide_eq_true z)];exact hx);cases th with
     | @tup a xs1 _ e z hh=>
      cases hh with
      | @cons x1 _ vs1 _ tx1 hr1=>
       cases tx1;refine ⟨_,rfl,a,_,_,_,rfl,rfl,SqT.of e,Gi (j:=0) rfl,rfl,_,rfl,Ox (λc=>absurd c (no "and" (by decide +kernel))) (λ_=>?_)⟩;refine ⟨_,rfl,a,_,_,_,rfl,rfl,SqT.of e,Gi (j:=0) rfl,rfl,_,rfl,Ox (λc=>absurd c (no "or" (by decide +kernel))) (λ_=>?_)⟩;refine ⟨_,rfl,a,_,_,_,rfl,rfl,SqT.of e,Gi (j:=0) rfl,rfl,_,rfl,Ox (λc=>absurd c (no "but" (by decide +kernel))) (λ_=>?_)⟩;refine ⟨_,rfl,_,rfl,a,_,rfl,SqT.of e,?_,λt ht=>?_⟩
       ·rw [List.length_cons];intro hz;have:=hz.1;simp [HT.sIx] at this
       rw [show J6 (V.str wd::vs1) (some 1) none=vs1 from J1 (xs:=V.str wd::vs1) (k:=1)];have s1:Same H (upd H t (.tup vs1)):=Same.new ht;have e1:upd H t (.tup vs1) t=some (.tup vs1):=Gb;generalize upd H t (.tup vs1)=H1 at s1 e1 ⊢;have ea:=s1 _ _ e;dsimp only [JN];refine GD (λσ' H'=>∃nt:Addr,σ'=[some (.ref a),some (.ref nt),none,none]/\H1=H'/\H1 nt=some (.tup (ns.map V.int))) ?sm ?fm
       case fm=>
        intro hk;refine ⟨_,rfl,a,_,rfl,.inr (SqT.of ea),rfl,_,rfl,?_⟩;rcases hc with ⟨h4,er⟩ | ⟨h4,er⟩
        ·subst er;cases hr1 with
         | cons t2 r2=>
          cases r2;cases t2 with
          | @tup b ys _ e2 z2 hh2=>
           rw [Ob hh2] at e2;refine GI ?_;exact ⟨_,rfl,a,_,_,_,rfl,rfl,SqT.of ea,Gi (j:=1) rfl,hk _ _ ⟨b,rfl,rfl,s1 _ _ e2⟩⟩
        ·rw [er] at hr1;obtain rfl:=Ob hr1;have c2:¬ decide (V.int ((V.str wd::ns.map V.int).length:Int)=V.int 2)=true:=λz=>by
          have z:=V.int.inj (of_decide_eq_true z);rw [List.length_cons,List.length_map] at z;have h1:ns.length=1:=by lia
          unfold Ja at hl;rw [er] at hl;by_cases hb:wd∈sBare
          ·rw [if_pos hb] at hl;have:=List.isEmpty_iff.mp hl;rw [List.map_eq_nil_iff] at this;rw [this] at h1;cases h1
          ·rw [if_neg hb] at hl;by_cases hp:wd∈sPair
           ·rw [if_pos hp] at hl
            match ns,h1,hl with
            | [_],_,hl=>cases hl
           ·rw [if_neg hp,if_neg h4] at hl;cases hl
         refine Ox (λz=>absurd z c2) (λ_=>?_);exact hk _ _ ⟨t,rfl,rfl,e1⟩
       rintro σ' H' ⟨nt,rfl,rfl,en1⟩;refine ⟨_,rfl,a,_,_,_,rfl,rfl,SqT.of ea,Gi (j:=0) rfl,?_⟩;refine ⟨_,rfl,nt,rfl,⟨_,SqT.of en1⟩,?_⟩;refine Zah (K:=K) (a:=nt) (xs:=ns.map V.int) (λi σ' H'=>∃v3:Option V,σ'=[some (.ref a),some (.ref nt),some (.str (mkS (wd.cps.toList++Ow (ns.take i)))),v3]/\H1=H') ⟨none,?_,rfl⟩ ?_ ?_ ?_
       ·rw [List.take_zero];show [some (V.ref a),some (V.ref nt),some (V.str wd),none]=_;rw [show mkS (wd.cps.toList++Ow [])=wd from JC (by show wd.cps.toList++[]=_;rw [List.append_nil])]
       ·rintro i σ' H' _ ⟨_,_,rfl⟩;exact SqT.of en1
       ·rintro i x σ' H' hx ⟨v3,rfl,rfl⟩;rw [List.getElem?_map] at hx;obtain ⟨n,hn1,rfl⟩:=Option.map_eq_some_iff.mp hx;obtain ⟨hi,er'⟩:=List.getElem?_eq_some_iff.mp hn1;have hm:=hn n (List.mem_of_getElem? hn1);have hw6:=U8 (JF hl);have lt:(Ow (ns.take i)).length<=5000:=by
         have:=YC (ns:=ns.take i) λp hp=>hn p (List.mem_of_mem_take hp);rw [List.length_take] at this
         lia
        have lN:=VX hm;have lM:(mkS (wd.cps.toList++Ow (ns.take i))).length<=6000:=by rw [Gk,List.length_append,Jw];lia
        refine ⟨_,rfl,_,(" " : Str),rfl,rfl,by lia,_,rfl,n,rfl,⟨hm.1,by lia⟩,_,num n,rfl,rfl,by rw [PySem.Str.length_append];lia,?_⟩;refine ⟨some (.int n),?_,rfl⟩;have e2:mkS (wd.cps.toList++Ow (ns.take i))++(" " : Str)++num n=mkS (wd.cps.toList++Ow (ns.take (i+1))):=by
         apply JC;rw [Jk,Jk,List.take_succ_eq_append_getElem hi,er'];show wd.cps.toList++Ow (ns.take i)++[32]++(num n).cps.toList=wd.cps.toList++Ow (ns.take i++[n]);rw [Xh];simp
        rw [<-e2]
        rfl
       ·rintro σ' H' ⟨v3,rfl,rfl⟩;rw [List.length_map,List.take_length];refine ⟨_,rfl,?_⟩;have e2:wd.cps.toList++Ow ns=JE wd rest:=by unfold JE Ow;rw [en]
        rw [e2];exact q _ s1
   | @join wd da db m1 m2 hw wa wb=>
    cases htx with
    | leaf hl=>exact absurd hw (G0 hl)
    | @join _ _ _ ta tb _ xa xb=>
     cases th with
     | @tup a _ _ ea za hs=>
     cases hs with
     | @cons _ _ vs1 _ tw hr1=>
     cases hr1 with
     | @cons va _ vs2 _ tha hr2=>
     cases hr2 with
     | @cons vb _ vs3 _ thb hr3=>
     cases hr3;cases tw;have go:ZE (Vy (Vy (Vy (Vy (Vy (Vy (tC (.str "(")) (VP (Zy m) [] E0 (JQ (tOp (Zcd K) (OT 0) (tC (.int 1))) Xi))) (tC (.str " "))) (tOp (Zcd K) (OT 0) (tC (.int 0)))) (tC (.str " "))) (VP (Zy m) [] E0 (JQ (tOp (Zcd K) (OT 0) (tC (.int 2))) Xi))) (tC (.str ")"))) { nx:=λx H'=>Q V.non H',rt:=Q } [some (.ref a),none,none,none] H:=by
      rw [Us] at lx;refine ⟨_,rfl,a,_,_,_,rfl,rfl,SqT.of ea,Gi (j:=1) rfl,va,da,m1,ta,rfl,tha,wa,by lia,by lia,xa,λH1 s1=>?_⟩;refine ⟨_,_,rfl,rfl,by rw [Gk];lia,_,(" " : Str),rfl,rfl,by simp only [PySem.Str.length_append,Gk];lia,?_⟩;refine ⟨_,rfl,a,_,_,_,rfl,rfl,SqT.of (s1 _ _ ea),Gi (j:=0) rfl,_,wd,rfl,rfl,by simp only [PySem.Str.length_append,Gk];lia,?_⟩;refine ⟨_,(" " : Str),rfl,rfl,by simp only [PySem.Str.length_append,Gk];lia,?_⟩;refine ⟨_,rfl,a,_,_,_,rfl,rfl,SqT.of (s1 _ _ ea),Gi (j:=2) rfl,vb,db,m2,tb,rfl,thb.same s1,wb,by lia,by lia,xb,λH2 s2=>?_⟩;refine ⟨_,_,rfl,rfl,by simp only [PySem.Str.length_append,Gk];lia,_,(")" : Str),rfl,rfl,by simp only [PySem.Str.length_append,Gk];lia,?_⟩;rw [Zz];exact q _ (s1.trans s2)
     rcases YD hw with rfl | rfl | rfl
     ·exact ⟨_,rfl,a,_,_,_,rfl,rfl,SqT.of ea,Gi (j:=0) rfl,rfl,_,rfl,GI (GI go)⟩
     ·refine ⟨_,rfl,a,_,_,_,rfl,rfl,SqT.of ea,Gi (j:=0) rfl,rfl,_,rfl,GR ?_⟩;exact ⟨_,rfl,a,_,_,_,rfl,rfl,SqT.of ea,Gi (j:=0) rfl,rfl,_,rfl,GI (GI go)⟩
     ·refine ⟨_,rfl,a,_,_,_,rfl,rfl,SqT.of ea,Gi (j:=0) rfl,rfl,_,rfl,GR ?_⟩;refine ⟨_,rfl,a,_,_,_,rfl,rfl,SqT.of ea,Gi (j:=0) rfl,rfl,_,rfl,GR ?_⟩;exact ⟨_,rfl,a,_,_,_,rfl,rfl,SqT.of ea,Gi (j:=0) rfl,rfl,_,rfl,GI go⟩
end
end M
namespace M
open PySem L2
def plB:Nat->PyData->Bool
 | 0,_=>false
 | _+1,.int _=>true
 | _+1,.str _=>true
 | m+1,.tuple ds=>ds.all (plB m)
 | _+1,_=>false
theorem Ud:∀{m n:Nat}{d:PyData},plB m d=true->m<=n->plB n d=true
 | 0,_,_,h,_=>by simp [plB] at h
 | m+1,0,_,_,hl=>by lia
 | m+1,n+1,d,h,hl=>by
  cases d with
  | int i=>rfl
  | str x=>rfl
  | tuple ds=>
   have h:ds.all (plB m)=true:=h;show ds.all (plB n)=true;rw [List.all_eq_true] at h ⊢;exact λx hx=>Ud (h x hx) (by lia)
  | _=>simp [plB] at h
theorem Ws.pl {d:PyData}{m:Nat}(h:Ws d m):plB (m+2) d=true:=by
 induction h with
 | @leaf w rest hl=>
  obtain ⟨ns,en,hn,hc⟩:=Jy hl;have hi:∀k,(ns.map PyData.int).all (plB (k+1))=true:=λk=>by rw [List.all_map,List.all_eq_true];intro x _;rfl
  show (PyData.str w::rest).all (plB 2)=true;rw [List.all_cons];rcases hc with ⟨_,er⟩ | ⟨_,er⟩
  ·rw [er];show (true && ([PyData.tuple (ns.map .int)].all (plB 2)))=true;rw [List.all_cons,List.all_nil];show (true && ((ns.map PyData.int).all (plB 1) && true))=true;rw [hi 0];rfl
  ·rw [er,hi 1];rfl
 | @join w a b m n hw _ _ iha ihb=>
  show (PyData.str w::[a,b]).all (plB (max m n+2))=true;rw [List.all_cons,List.all_cons,List.all_cons,List.all_nil,Ud iha (by lia),Ud ihb (by lia)]
  rfl
structure ZeG (K:W.Frag):Prop where
 is:W.kitOne K (.type "int") (.type "str")=some false
 ts:W.kitOne K (.type "tuple") (.type "str")=some false
 it:W.kitOne K (.type "int") (.type "tuple")=some false
 il:W.kitOne K (.type "int") (.type "list")=some false
 tl:W.kitOne K (.type "tuple") (.type "list")=some false
 ib:W.kitOne K (.type "int") (.type "bool")=some false
section
variable {P:Program}{w:World}{K:W.Frag}{mg:Str->Option Value}{base:Heap}
def Zdy (m:Nat):Sp:=λvs H Q _=>∃(v u:V)(d:PyData),vs=[v,u]/\Th H v d/\Th H u d/\plB m d=true/\∀H',Same H H'->Q (.bl true) H'
theorem Zeo:Gz ["found", "due"] ["found", "due"] (Gh Zbe):=⟨rfl,rfl,rfl,by decide +kernel,rfl,by decide +kernel,by decide +kernel⟩
theorem Zaa {f:Addr}{fd:FuncData}(FAl:Fun K "_law_alike" "_law_alike" Zbe f fd)(bAl:Binds K fd ["found", "due"] [])(mAl:mg "_law_alike" = some (.ref f))(k:ZeG K)(mIsi:mg "isinstance" = none)(mStr:mg "str" = none)(mTup:mg "tuple" = none)(mLst:mg "list" = none)(mInt:mg "int" = none)(mBool:mg "bool" = none)(mLen:mg "len" = none)(mRange:mg "range" = none):∀m,Jl P w K mg base CX0 m f fd ["found", "due"] (Zdy m)
 | 0=>⟨λvs H Q E h=>by obtain ⟨_,_,_,_,_,_,z,_⟩:=h;exact absurd z (by simp [plB]),λA outer s H args us vs Q E _ _ _ _ h=>by obtain ⟨_,_,_,_,_,_,z,_⟩:=h;exact absurd z (by simp [plB])⟩
 | m+1=>by
  have GAl:=Zaa FAl bAl mAl k mIsi mStr mTup mLst mInt mBool mLen mRange m;refine FAl.ok Zeo (λvs H Q E h=>?_) (λcdv A outer s H vs Q E hr h=>?_)
  ·obtain ⟨_,_,_,rfl,_⟩:=h
   rfl
  ·obtain ⟨v,u,d,rfl,hv,hu',hp,q⟩:=h;have hu:=hr.units;have h16:(16777216:Nat)=sizeLine:=sizeLine_eq.symm;refine ⟨_,Ge (GT (JI (Gm (UA K) rfl mIsi GP (Ga (pv 1) (Ga (Ju mStr Oh) Gd)))) (Gf (Go (Ug (Gm (UA K) rfl mIsi GP (Ga (pv 0) (Ga (Ju mStr Oh) Gd))) (UF (J7 Jj (pv 0) (pv 1) (Gq _)))))) Gr)
    (Ge (GT (PW.pt (JS (JI (Gm (UA K) rfl mIsi GP (Ga (pv 1) (Ga (Ju mTup Ji) Gd)))) (JO (JI (Gm (UA K) rfl mIsi GP (Ga (pv 1) (Ga (Ju mLst OB) Gd))))))) (Ge (GT (PW.pt (JS (Gj Uz (Gm (UA K) rfl mIsi GP (Ga (pv 0) (Ga (Ju mTup Ji) Gd))) (Gm (UA K) rfl mIsi GP (Ga (pv 1) (Ga (Ju mTup Ji) Gd))) (Gq _)) (JO (Gj Uz (Gm (UA K) rfl mIsi GP (Ga (pv 0) (Ga (Ju mLst OB) Gd))) (Gm (UA K) rfl mIsi GP (Ga (pv 1) (Ga (Ju mLst OB) Gd))) (Gq _))))) (Gf (Go OZ)) Gr)
    (Ge (GT (Gj Uz (Gm (VS K) rfl mLen PySem.boot_len (Ga (pv 0) Gd)) (Gm (VS K) rfl mLen PySem.boot_len (Ga (pv 1) Gd)) (Gq _)) (Gf (Go OZ)) Gr)
    (Gf (Go (J7 (Zcl K hu) (OJ (own:=["k"]) rfl (JA (fr:=[("found", 0),("due", 1)]) [(".0", .local),("k", .local),("_law_alike", .globalImplicit),("due", .cell),("found", .cell)] rfl rfl (by decide +kernel) rfl (by decide +kernel) ⟨rfl,rfl,trivial⟩ ⟨λh=>UB h,λh=>UB h,λh=>UB h,λ_=>⟨_,rfl⟩,λ_=>⟨_,rfl⟩,trivial⟩ ⟨⟨rfl,.inl rfl,.inl rfl⟩,⟨rfl,.inl rfl,.inl rfl⟩,trivial⟩) (JB rfl mRange (Ga (Gm (VS K) rfl mLen PySem.boot_len (Ga (pv 1) Gd)) Gd)) (λ_ _ _ _=>GV (i:=0) (show List.Nodup (["k", "found", "due"]:List Str) by decide +kernel) rfl (Or.inl rfl)) (λ_ _ _ _=>YM (J4 (JI (GH GAl (hr.mono (by lia)) rfl mAl FAl.kp bAl .nil Jh (Ga (Gp (OW K) (pv 1) (pv 0) (λ_ _=>rfl)) (Ga (Gp (OW K) (pv 2) (pv 0) (λ_ _=>rfl)) Gd)))))) (λ_ _ _ _=>pv 0)) (GO Gd) (Gq _)))))) Gr)
    (Gf (Go (Ug (Gm (UA K) rfl mIsi GP (Ga (pv 0) (Ga (Ju mInt J0) Gd))) (Ug (Xl (Gm (UA K) rfl mIsi GP (Ga (pv 0) (Ga (Ju mBool Vv) Gd)))) (UF (J7 Jj (pv 0) (pv 1) (Gq _)))))))),?_⟩
   cases hu' with
   | int i=>
    cases hv;refine ⟨_,rfl,_,_,false,rfl,⟨_,rfl,GR ?_⟩,.inl ⟨_,.int _,rfl,k.is⟩⟩;refine ⟨_,rfl,_,_,false,rfl,⟨_,rfl,GR ?_⟩,.inl ⟨_,.int _,rfl,k.it⟩⟩;refine ⟨_,rfl,_,_,false,rfl,⟨_,rfl,GR ?_⟩,.inl ⟨_,.int _,rfl,k.il⟩⟩;refine ⟨_,rfl,_,_,true,rfl,⟨_,rfl,GI ⟨_,rfl,_,_,false,rfl,⟨_,rfl,_,rfl,GI ?_⟩,.inl ⟨_,.int _,rfl,k.ib⟩⟩⟩,.inl ⟨_,.int _,rfl,Jc⟩⟩;refine ⟨_,rfl,_,rfl,rfl,?_⟩;rw [decide_eq_true rfl];exact q _ (Same.refl _)
   | str x=>
    cases hv;refine ⟨_,rfl,_,_,true,rfl,⟨_,rfl,GI ?_⟩,.inl ⟨_,.str _,rfl,Jc⟩⟩;refine ⟨_,rfl,_,_,true,rfl,⟨_,rfl,GI ?_⟩,.inl ⟨_,.str _,rfl,Jc⟩⟩;refine ⟨_,rfl,_,rfl,rfl,?_⟩;rw [decide_eq_true rfl];exact q _ (Same.refl _)
   | @tup a xs ds e z hd=>
    cases hv with
    | @tup a' xs' _ e' z' hd'=>
     refine ⟨_,rfl,_,_,false,rfl,⟨_,rfl,GR ?_⟩,.inl ⟨_,.tup e,rfl,k.ts⟩⟩;refine ⟨_,rfl,_,_,true,rfl,⟨_,rfl,GI ?_⟩,.inl ⟨_,.tup e,rfl,Jc⟩⟩;refine GI ?_;have cT:(!decide (V.bl true=V.bl true))=false:=by decide
     have cF:(!decide (V.bl false=V.bl false))=false:=by decide
     refine ⟨_,rfl,_,_,true,rfl,⟨_,rfl,_,_,true,rfl,⟨rfl,_,rfl,?_⟩,.inl ⟨_,.tup e,rfl,Jc⟩⟩,.inl ⟨_,.tup e',rfl,Jc⟩⟩;rw [cT];refine GR ?_;refine ⟨_,rfl,_,_,false,rfl,⟨_,rfl,_,_,false,rfl,⟨rfl,_,rfl,?_⟩,.inl ⟨_,.tup e,rfl,k.tl⟩⟩,.inl ⟨_,.tup e',rfl,k.tl⟩⟩;rw [cF];refine GR ?_;have hl:xs'.length=xs.length:=by rw [hd'.len,hd.len]
     refine ⟨_,rfl,a',xs',rfl,.inr (SqT.of e'),_,rfl,a,xs,rfl,.inr (SqT.of e),rfl,_,rfl,?_⟩;have cL:(!decide (V.int (xs'.length:Int)=V.int (xs.length:Int)))=false:=by rw [hl];simp
     rw [cL];refine GR ?_;have qJ:=hd.len;have hpl:∀x∈ds,plB m x=true:=List.all_eq_true.mp (by simpa only [plB] using hp);refine ⟨_,rfl,a,xs,rfl,.inr (SqT.of e),_,rfl,by lia,by lia,λD hD=>?_⟩;rw [Int.toNat_natCast];refine OK (lo:=0) (n:=xs.length) (λj zs H3=>Same H H3/\H3 D=some (.lst zs)/\zs=[]) ⟨Same.new hD,Gb,rfl⟩ ?_ ?_
     ·rintro j zs H3 hj ⟨s3,e3,rfl⟩;rw [Int.zero_add];refine ⟨⟨rfl,rfl,trivial⟩,?_⟩;obtain ⟨dx,ex,tx⟩:=(hd.same s3).get (List.getElem?_eq_getElem hj);obtain ⟨dx',ex',tx'⟩:=(hd'.same s3).get (List.getElem?_eq_getElem (l:=xs') (i:=j) (by lia));rw [ex] at ex';cases ex';refine ⟨_,rfl,_,rfl,a',xs',_,_,rfl,rfl,SqT.of (s3 _ _ e'),Gi (List.getElem?_eq_getElem (by lia)),?_⟩;refine ⟨_,rfl,_,rfl,a,xs,_,_,rfl,rfl,SqT.of (s3 _ _ e),Gi (List.getElem?_eq_getElem hj),?_⟩;refine ⟨_,_,dx,rfl,tx',tx,hpl dx (List.mem_of_getElem? ex),λH4 s4=>⟨_,rfl,?_⟩⟩;exact ⟨s3.trans s4,s4 _ _ e3,rfl⟩
     ·rintro zs H3 ⟨s3,e3,rfl⟩;refine ⟨Nat.zero_le _,λB hB=>?_⟩;have s4:Same H3 (upd H3 B (.lst [])):=Same.new hB;refine ⟨.list (([]:List Int).map PyData.int),.list (([]:List Int).map PyData.int),.lst (SqL.of (s4 _ _ e3)) .nil,.lst (SqL.of Gb) .nil,J2 _,J2 _,?_⟩;exact q _ (s3.trans s4)
   | _=>exact absurd hp (by simp [plB])
end
end M
namespace M
open PySem L2
theorem Wcs.all {b t:Nat}{ds:List PyData}(h:Wcs b ds t):∀d∈ds,∃m,Ws d m/\m<=b:=by
 induction h with
 | nil=>exact λd hd=>by cases hd
 | cons a l _ ih=>
  intro d hd;rcases List.mem_cons.mp hd with rfl | hd
  ·exact ⟨_,a.ws,l⟩
  ·exact ih d hd
theorem VL {H H':Hp}(k:∀t ys,H t=some (.tup ys)->H' t=some (.tup ys)){b:Nat}:∀{vs:List V}{ds:List PyData},Ths H vs ds->(∀d∈ds,∃m,Ws d m/\m<=b)->Ths H' vs ds
 | _,_,.nil,_=>.nil
 | _,_,.cons a c,h=>by
  obtain ⟨m,w,_⟩:=h _ (List.mem_cons_self ..);exact .cons (w.keep k a) (VL k c λd hd=>h d (List.mem_cons_of_mem _ hd))
theorem Wl.keep {H H':Hp}(k:∀t ys,H t=some (.tup ys)->H' t=some (.tup ys)){vs:List V}{ds:List PyData}{b t:Nat}(h:Wl H vs ds b t):Wl H' vs ds b t:=⟨VL k h.t h.w.all,h.w⟩
theorem Ue {ns:List Int}{lo n:Nat}(h:lo+n<=ns.length):J6 (ns.map V.int) (some (lo:Int)) (some ((lo+n:Nat):Int))=((ns.drop lo).take n).map V.int/\((ns.drop lo).take n).length=n:=by
 constructor
 ·unfold J6;rw [List.length_map,HT.sIx_nat,HT.sIx_nat,Nat.min_eq_left (by lia),Nat.min_eq_left (by lia),show lo+n-lo=n by lia,List.map_take,List.map_drop]
 ·rw [List.length_take,List.length_drop]
  lia
structure ZeH (K:W.Frag):Prop where
 ns:W.kitOne K (.type "NoneType") (.type "str")=some false
 bs:W.kitOne K (.type "bool") (.type "str")=some false
 ds:W.kitOne K (.type "dict") (.type "str")=some false
 is:W.kitOne K (.type "int") (.type "str")=some false
 ts:W.kitOne K (.type "tuple") (.type "str")=some false
 ls:W.kitOne K (.type "list") (.type "str")=some false
section
variable {P:Program}{w:World}{K:W.Frag}{mg:Str->Option Value}{base:Heap}
theorem ZA {H:Hp}{x:List Nat}(p:Txy x):∃g,Thg K H (.str (mkS x)) g/\((∃d,g=some d/\Wr 8 x d)\/(g=none/\∀d,¬ Wr 8 x d)):=by
 by_cases h:∃d,Wr 8 x d
 ·obtain ⟨d,hd⟩:=h;exact ⟨some d,.inl ⟨x,rfl,p,.inl ⟨d,rfl,hd⟩⟩,.inl ⟨d,rfl,hd⟩⟩
 ·exact ⟨none,.inl ⟨x,rfl,p,.inr ⟨rfl,λd hd=>h ⟨d,hd⟩⟩⟩,.inr ⟨rfl,λd hd=>h ⟨d,hd⟩⟩⟩
theorem ZbP {tbW a:Addr}{H0 H:Hp}{xs:List V}{ps:Array Value}(s:SameL tbW H0 H)(e0:H0 tbW=some (.tbl ps))(q:SqL K H0 a xs):SqL K H a xs:=by
 rcases q with (e | ⟨o,e⟩) | e
 ·exact .inl (.inl (s _ _ (λz=>by rw [z,e0] at e;cases e) e))
 ·exact .inl (.inr ⟨o,s _ _ (λz=>by rw [z,e0] at e;cases e) e⟩)
 ·exact .inr e
def Zdz (H:Hp)(du:V)(g:Option PyData):Prop:=(g=none/\du=.non)\/∃d m,g=some d/\m<=8/\Ws d m/\Th H du d
def ZB (K:W.Frag)(tbW:Addr):Sp:=λvs H Q _=>∃(a:Addr)(ns:List Int),vs=[.ref a]/\SqL K H a (ns.map V.int)/\ns.length<=63/\H tbW=some (.tbl #[])/\∀H',Q (.bl true) H'
theorem scLaw:Gz ["script", "k", "xs", "parts", "thing", "due", "word", "found"] ["script"] (Gh Ze):=⟨rfl,rfl,rfl,by decide +kernel,rfl,by decide +kernel,by decide +kernel⟩
theorem ZdA {f fA fN fM fJ fDp fWt fCha fOdd fLre fAsk fAny fAl tbW:Addr}{fd fdA fdN fdM fdJ fdDp fdWt fdCha fdOdd fdLre fdAsk fdAny fdAl:FuncData}(F:Fun K "law" "law" Ze f fd)(kb:ZeH K)(FA:Fun K "_law_cell_at" "_law_cell_at" Za8 fA fdA)(bA:Binds K fdA ["script", "k"] [])(mA:mg "_law_cell_at" = some (.ref fA))(GA:Jl P w K mg base CX0 1 fA fdA ["script", "k"] (Zdf K))(FN:Fun K "_law_numbers" "_law_numbers" Za9 fN fdN)(bN:Binds K fdN ["cell", "many"] [])(mN:mg "_law_numbers" = some (.ref fN))(GN:Jl P w K mg base CX0 1 fN fdN ["cell", "many"] Zdh)(FM:Fun K "_law_some" "_law_some" Zba fM fdM)(bM:Binds K fdM ["xs"] [])(mM:mg "_law_some" = some (.ref fM))(GM:Jl P w K mg base CX0 1 fM fdM ["xs"] Zdk)(FJ:Fun K "_law_joined" "_law_joined" Zbb fJ fdJ)(bJ:Binds K fdJ ["parts", "xs"] [])(mJ:mg "_law_joined" = some (.ref fJ))(GJ:Jl P w K mg base CX0 1 fJ fdJ ["parts", "xs"] Zdu)(FDp:Fun K "_law_deep" "_law_deep" Zbc fDp fdDp)(bDp:Binds K fdDp ["thing", "xs"] [])(mDp:mg "_law_deep" = some (.ref fDp))(GDp:Jl P w K mg base CX0 1 fDp fdDp ["thing", "xs"] Zdw)(FWt:Fun K "_law_written" "_law_written" Zbd fWt fdWt)(bWt:Binds K fdWt ["wish"] [])(mWt:mg "_law_written" = some (.ref fWt))(GWt:Jl P w K mg base CX0 10 fWt fdWt ["wish"] (Zy 10))(FCha:Fun K "_law_changed" "_law_changed" Zbg fCha fdCha)(bCha:Binds K fdCha ["text", "xs"] [])(mCha:mg "_law_changed" = some (.ref fCha))(GCha:J3 P w K mg base CX0 1 fCha fdCha ["text", "xs"] Zdm)(FOdd:Fun K "_law_odd" "_law_odd" Zbh fOdd fdOdd)(bOdd:Binds K fdOdd ["number"] [])(mOdd:mg "_law_odd" = some (.ref fOdd))(GOdd:Jl P w K mg base CX0 1 fOdd fdOdd ["number"] Zdo)(FLre:Fun K "_law_read" "_law_read" ZV fLre fdLre)(bLre:Binds K fdLre ["text", "depth"] [])(mLre:mg "_law_read" = some (.ref fLre))(GLre:Jl P w K mg base CX0 11 fLre fdLre ["text", "depth"] (V6 8))(FAsk:Fun K "_law_asked" "_law_asked" Zbi fAsk fdAsk)(bAsk:Binds K fdAsk ["thing"] [])(mAsk:mg "_law_asked" = some (.ref fAsk))(GAsk:J3 P w K mg base CX0 6 fAsk fdAsk ["thing"] (Zdq K tbW))(FAny:Fun K "_law_any" "_law_any" Zbj fAny fdAny)(bAny:Binds K fdAny ["thing"] [])(mAny:mg "_law_any" = some (.ref fAny))(GAny:J3 P w K mg base CX0 6 fAny fdAny ["thing"] (Zds K tbW))(FAl:Fun K "_law_alike" "_law_alike" Zbe fAl fdAl)(bAl:Binds K fdAl ["found", "due"] [])(mAl:mg "_law_alike" = some (.ref fAl))(GAl:Jl P w K mg base CX0 10 fAl fdAl ["found", "due"] (Zdy 10))(mLen:mg "len" = none)(mRange:mg "range" = none)(mMax:mg "max" = none) :
  Jl P w K mg base CX0 12 f fd ["script"] (ZB K tbW):=by
 refine F.ok scLaw (λvs H Q E h=>?_) (λcdv A outer s H vs Q E hr h=>?_)
 ·obtain ⟨a,ns,rfl,_⟩:=h
  rfl
 ·obtain ⟨a,ns,rfl,hS,qJ,hT0,q⟩:=h;have h16:(16777216:Nat)=sizeLine:=sizeLine_eq.symm;refine ⟨_,(@Ge _ _ _ _ _ (@Om _ _ _ _ _ _ _ _ PassesOwn.never rfl (JB rfl mRange (@Ga _ _ _ _ _ (Gm (Xy rfl) rfl mMax Zv (@Ga _ _ _ _ _ Gc (@Ga _ _ _ _ _ (Gm (VS K) rfl mLen PySem.boot_len (@Ga _ _ _ _ _ (pv 0) Gd rfl)) Gd rfl) rfl)) Gd rfl)) (GV (i:=1) scLaw.nd rfl (Or.inl rfl)) (XW (ZaK (i:=2) scLaw.nd rfl (Or.inr rfl) (Y4 GN (hr.mono (by decide)) rfl mN FN.kp bN .nil Jh (Ze3 (@GH _ _ _ _ _ _ _ _ _ _ _ _ _ _ _ _ GA (hr.mono (by decide)) rfl mA FA.kp bA .nil Jh (@Ga _ _ _ _ _ (pv 0) (@Ga _ _ _ _ _ (pv 1) Gd rfl) rfl) (by decide) rfl rfl) (ZdX Gd))))
    (Gv (PS.q (XI (i:=3) scLaw.nd rfl (Or.inl rfl) (own:=["j"]) rfl (JA (fr:=[("xs", 2)]) [(".0", .local),("j", .local),("_law_some", .globalImplicit),("xs", .cell)] rfl rfl (by decide +kernel) rfl (by decide +kernel) ⟨rfl,trivial⟩ ⟨λh=>UB h,λh=>UB h,λh=>UB h,λ_=>⟨_,rfl⟩,trivial⟩ ⟨⟨rfl,.inl rfl,.inl rfl⟩,trivial⟩) (JB rfl mRange (@Ga _ _ _ _ _ (@Gn _ _ _ _ _ _ _ _ Jd Gc (@Gn _ _ _ _ _ _ _ _ GL (@Gp _ _ _ _ _ _ _ (Jp K) (pv 2) Gc (λ_ _=>rfl)) Gc)) Gd rfl)) (λ_ _ _ _=>GV (i:=0) (show List.Nodup (["j", "xs"]:List Str) by decide +kernel) rfl (Or.inl rfl)) (λ_ _ _ _=>JZ) (λ_ _ _ _=>GH GM (hr.mono (by decide)) rfl mM FM.kp bM .nil Jh (@Ga _ _ _ _ _ (Gx (kSl K) (pv 1) (Gw (@Gn _ _ _ _ _ _ _ _ J5 Gc (pv 0))) (Gw (@Gn _ _ _ _ _ _ _ _ Jd (@Gn _ _ _ _ _ _ _ _ J5 Gc (pv 0)) Gc))) Gd rfl))))
    (Gv (PS.q (@Gs _ _ 4 _ _ _ _ scLaw.nd rfl (Or.inl rfl) (@GH _ _ _ _ _ _ _ _ _ _ _ _ _ _ _ _ GWt (hr.mono (by decide)) rfl mWt FWt.kp bWt .nil Jh (@Ga _ _ _ _ _ (@GH _ _ _ _ _ _ _ _ _ _ _ _ _ _ _ _ GDp (hr.mono (by decide)) rfl mDp FDp.kp bDp .nil Jh (@Ga _ _ _ _ _ (@GH _ _ _ _ _ _ _ _ _ _ _ _ _ _ _ _ GJ (hr.mono (by decide)) rfl mJ FJ.kp bJ .nil Jh (@Ga _ _ _ _ _ (pv 3) (@Ga _ _ _ _ _ (Gx (kSl K) (pv 2) (Gw Gc) (Gw Gc)) Gd rfl) rfl) (by decide) rfl rfl) (@Ga _ _ _ _ _ (Gx (kSl K) (pv 2) (Gw Gc) (Gw Gc)) Gd rfl) rfl) (by decide) rfl rfl) Gd rfl) (by decide) rfl rfl) rfl (by first | exact .inl rfl | exact .inr rfl)))
    (Gv (Ww (PT.q (Gj Xv (@Gn _ _ _ _ _ _ _ _ GL (@Gp _ _ _ _ _ _ _ (Jp K) (pv 2) Gc (λ_ _=>rfl)) Gc) Gc (Gq _))) (O8 (XX (i:=4) scLaw.nd rfl (Or.inl rfl) (O7 GCha (hr.mono (by decide)) rfl mCha FCha.kp bCha .nil Jh (PA.q (@Ga _ _ _ _ _ (pv 4) (@Ga _ _ _ _ _ (Gx (kSl K) (pv 2) (Gw Gc) (Gw Gc)) Gd rfl) rfl))))) (PSs.q Gr))
    (Gv (PS.q (@GT _ _ _ _ _ _ _ _ (Gj Jj (@Gn _ _ _ _ _ _ _ _ GL (@Gp _ _ _ _ _ _ _ (Jp K) (pv 2) Gc (λ_ _=>rfl)) Gc) Gc (Gq _)) (@Gf _ _ _ (@Gs _ _ 4 _ _ _ _ scLaw.nd rfl (Or.inl rfl) (@GH _ _ _ _ _ _ _ _ _ _ _ _ _ _ _ _ GOdd (hr.mono (by decide)) rfl mOdd FOdd.kp bOdd .nil Jh (@Ga _ _ _ _ _ (@Gp _ _ _ _ _ _ _ (Jp K) (pv 2) Gc (λ_ _=>rfl)) Gd rfl) (by decide) rfl rfl) rfl (by first | exact .inl rfl | exact .inr rfl))) Gr))
    (Gv (PS.q (@Gs _ _ 5 _ _ _ _ scLaw.nd rfl (Or.inl rfl) (@GH _ _ _ _ _ _ _ _ _ _ _ _ _ _ _ _ GLre (hr.mono (by decide)) rfl mLre FLre.kp bLre .nil Jh (@Ga _ _ _ _ _ (pv 4) (@Ga _ _ _ _ _ Gc Gd rfl) rfl) (by decide) rfl rfl) rfl (by first | exact .inl rfl | exact .inr rfl)))
    (Gv (PS.q (@GT _ _ _ _ _ _ _ _ (PW.pt (Oy (Gj Jj (@Gn _ _ _ _ _ _ _ _ GL (@Gp _ _ _ _ _ _ _ (Jp K) (pv 2) Gc (λ_ _=>rfl)) Gc) Gc (Gq _)) (JY (Gj Jj (@Gn _ _ _ _ _ _ _ _ GL (@Gp _ _ _ _ _ _ _ (Jp K) (pv 2) Gc (λ_ _=>rfl)) Gc) Gc (Gq _))))) (@Ge _ _ _ _ _ (@Gs _ _ 4 _ _ _ _ scLaw.nd rfl (Or.inl rfl) (@Gp _ _ _ _ _ _ _ (Jp K) (@GO _ _ _ _ (@Ga _ _ _ _ _ Jz (@Ga _ _ _ _ _ Gc (@Ga _ _ _ _ _ (@Je _ _ _ _ _ (@Ga _ _ _ _ _ Gg Gd rfl)) (@Ga _ _ _ _ _ (@GO _ _ _ _ (@Ga _ _ _ _ _ Gg Gd rfl)) (@Ga _ _ _ _ _ OZ (@Ga _ _ _ _ _ (@Je _ _ _ _ _ (@Ga _ _ _ _ _ Gg (@Ga _ _ _ _ _ (@Je _ _ _ _ _ (@Ga _ _ _ _ _ Gc (@Ga _ _ _ _ _ Gc Gd rfl) rfl)) Gd rfl) rfl)) (@Ga _ _ _ _ _ YS (@Ga _ _ _ _ _ Gc Gd rfl) rfl) rfl) rfl) rfl) rfl) rfl) rfl)) (@Gn _ _ _ _ _ _ _ _ GL (@Gp _ _ _ _ _ _ _ (Jp K) (pv 2) Gc (λ_ _=>rfl)) Gc) (λ_ _=>rfl)) rfl (by first | exact .inl rfl | exact .inr rfl))
    (@Gf _ _ _ (@Gs _ _ 5 _ _ _ _ scLaw.nd rfl (Or.inl rfl) Jz rfl (by first | exact .inl rfl | exact .inr rfl)))) Gr))
    (Gv (ZbM (O7 GAsk (hr.mono (by decide)) rfl mAsk FAsk.kp bAsk .nil Jh (PA.q (@Ga _ _ _ _ _ (pv 4) Gd rfl))) (ZeC K (n:=2) rfl (O3 (GV (i:=6) scLaw.nd rfl (Or.inl rfl)) (O3 (GV (i:=7) scLaw.nd rfl (Or.inl rfl)) Xm))))
    (Gv (Ww (PWq.pt (ZbL (PT.q (Gj Xw (pv 5) Jz (Gq _))) (Zx (PWq.pt (Zcr (PT.q (Gj Uz (pv 6) Gg (Gq _))) (ZaH (ZaG (ZaF (O7 GAny (hr.mono (by decide)) rfl mAny FAny.kp bAny .nil Jh (PA.q (@Ga _ _ _ _ _ (pv 4) Gd rfl))))))))))) (PSs.q (@Gf _ _ _ (@Go _ _ _ _ OZ))) (PSs.q Gr))
    (O8 (PS.q (@GT _ _ _ _ _ _ _ _ (PW.pt (Oy (Gj Zak (pv 5) Jz (Gq _)) (JY (PW.pt (JS (Gj Uz (pv 6) Gg (Gq _)) (JO (J4 (JI (@GH _ _ _ _ _ _ _ _ _ _ _ _ _ _ _ _ GAl (hr.mono (by decide)) rfl mAl FAl.kp bAl .nil Jh (@Ga _ _ _ _ _ (pv 7) (@Ga _ _ _ _ _ (pv 5) Gd rfl) rfl) (by decide) rfl rfl))))))))) (@Gf _ _ _ (@Go _ _ _ _ OZ)) Gr)))))))))))) (by intro _;rfl))
    (@Gf _ _ _ (@Go _ _ _ _ OZ))),?_⟩
  have tab0:TabW tbW H:=⟨[],⟨hT0,λe he=>(by cases he)⟩,.inl rfl⟩;refine ⟨_,rfl,a,_,rfl,.inl hS,_,_,rfl,_,rfl,?_⟩;rw [List.length_map];obtain ⟨n,hn,hn1,hn2⟩:∃n:Nat,(if ((ns.length:Nat):Int) > 1 then ((ns.length:Nat):Int) else 1)=(n:Int)/\1<=n/\n<=63:=by
   by_cases hz:((ns.length:Nat):Int) > 1
   ·rw [if_pos hz];exact ⟨ns.length,rfl,by lia,qJ⟩
   ·rw [if_neg hz];exact ⟨1,rfl,by decide,by decide⟩
  rw [hn];refine ⟨by lia,by lia,?_⟩;rw [Int.toNat_natCast];refine JT (lo:=0) (n:=n) (λi σ' H'=>∃(v1 v2 v3 v4 v5 v6 v7:Option V),σ'=[some (.ref a),v1,v2,v3,v4,v5,v6,v7]/\SameL tbW H H'/\TabW tbW H') ⟨none,none,none,none,none,none,none,rfl,SameL.of (Same.refl _),tab0⟩ ?_ ?_
  ·rintro i σ' H1 hi ⟨v1,v2,v3,v4,v5,v6,v7,rfl,sl1,tab1⟩;rw [Int.zero_add];refine ⟨_,rfl,_,rfl,a,ns,i,rfl,ZbP sl1 hT0 hS,λz0=>?_⟩;refine ⟨z0,40,rfl,by decide,λxl row H2 s2 exl hrow=>?_⟩;have sl2:=sl1.trans (SameL.of s2);have tab2:=tab1.same s2;dsimp only [JN];refine GD (λσ' H'=>∃(D:Addr)(ys:List V)(ds:List PyData)(T:Nat),σ'=[some (.ref a),some (.int (i:Int)),some (.ref xl),some (.ref D),v4,v5,v6,v7]/\Same H2 H'/\H2 D=none/\H' D=some (.lst ys)/\Wl H' ys ds 1 T/\T<=36/\1<=ds.length/\ds.length<=3) ?s1 ?f1
   case f1=>
    intro hk;have r0:0<=row.getD (18:Int).toNat 0 % 3:=Int.emod_nonneg _ (by decide);have r1:row.getD (18:Int).toNat 0 % 3<3:=Int.emod_lt_of_pos _ (by decide);refine ⟨_,rfl,xl,_,_,_,rfl,rfl,SqL.of exl,GY (by lia) (by lia),_,_,rfl,rfl,(by show (0:Int)<3;decide),_,_,rfl,rfl,_,rfl,by lia,by lia,λD hD=>?_⟩;refine OK (lo:=0) (n:=(1+row.getD (18:Int).toNat 0 % 3).toNat) (λj ys H'=>Same H2 H'/\H' D=some (.lst ys)/\∃(ds:List PyData)(T:Nat),Wl H' ys ds 1 T/\T<=12 * j/\ds.length=j) ⟨Same.new hD,Gb,[],0,⟨.nil,.nil⟩,by lia,rfl⟩ ?_ ?_
    ·rintro j ys H3 hj ⟨s3,eD,ds,T,W,hT,hds⟩;rw [Int.zero_add];have hj4:j<3:=by lia
     refine ⟨⟨rfl,trivial⟩,?_⟩;unfold ZL;refine GI ?_;obtain ⟨ec,lc⟩:=Ue (ns:=row) (lo:=6 * j) (n:=6) (by lia);have exl3:=s3 _ _ exl;refine ⟨_,rfl,_,rfl,_,_,rfl,rfl,.inl ⟨by decide,by decide⟩,_,rfl,_,rfl,_,_,rfl,rfl,.inl ⟨by decide,by decide⟩,_,_,rfl,rfl,_,rfl,xl,_,rfl,SqL.of exl3,λp hp=>?_⟩;rw [show J6 (row.map V.int) (some (6 * (j:Int))) (some (6 * (j:Int)+6))=((row.drop (6 * j)).take 6).map V.int from ec];have s4:Same H3 (upd H3 p (.lst (((row.drop (6 * j)).take 6).map V.int))):=Same.new hp;refine ⟨p,_,rfl,Gb,lc,λv d m k H5 s5 t5 w5 l5 k5=>?_⟩;have eD5:=s5 _ _ (s4 _ _ eD);have kk:=O6 (o:=.lst (ys++[v])) eD5;refine ⟨eD5,by have:=W.t.len;lia,((s3.trans s4).trans s5).put hD,Gb,ds++[d],T+(k+6+0),?_,?_,by rw [List.length_append,List.length_singleton,hds]⟩
     ·have W5:=(W.same s4).same s5;exact Wl.keep kk ⟨W5.t.app (.cons t5 .nil),W5.w.app (.cons w5 l5 .nil)⟩
     ·lia
    ·rintro ys H3 ⟨s3,eD,ds,T,W,hT,hds⟩;exact hk _ _ ⟨D,ys,ds,T,rfl,s3,hD,eD,W,by lia,by lia,by lia⟩
   rintro σ' H4 ⟨D,ys,ds,T,rfl,s4,hD,eD4,W4,hT,hd1,hd3⟩;have exl4:=s4 _ _ exl;refine GD (λσ' H'=>∃x:List Nat,σ'=[some (.ref a),some (.int (i:Int)),some (.ref xl),some (.ref D),some (.str (mkS x)),v5,v6,v7]/\Same H4 H'/\Lt x/\x.length<=3420/\cst x<=570) ?s2 ?f2
   case f2=>
    intro hk;refine ⟨_,rfl,_,rfl,_,rfl,_,rfl,xl,_,rfl,SqL.of exl4,λp hp=>?_⟩;obtain ⟨ec1,lc1⟩:=Ue (ns:=row) (lo:=19) (n:=4) (by lia);obtain ⟨ec2,lc2⟩:=Ue (ns:=row) (lo:=23) (n:=3) (by lia);rw [show J6 (row.map V.int) (some 19) (some 23)=((row.drop 19).take 4).map V.int from ec1];have s5:Same H4 (upd H4 p (.lst (((row.drop 19).take 4).map V.int))):=Same.new hp;refine ⟨D,p,ys,ds,_,T,rfl,s5 _ _ eD4,W4.same s5,hT,hd1,hd3,Gb,lc1,λv d m k H6 s6 t6 w6 l6 k6=>?_⟩;have exl6:=s6 _ _ (s5 _ _ exl4);refine ⟨_,rfl,_,rfl,_,rfl,xl,_,rfl,SqL.of exl6,λp2 hp2=>?_⟩;rw [show J6 (row.map V.int) (some 23) (some 26)=((row.drop 23).take 3).map V.int from ec2];have s7:Same H6 (upd H6 p2 (.lst (((row.drop 23).take 3).map V.int))):=Same.new hp2;refine ⟨v,p2,d,m,k,_,rfl,t6.same s7,w6,l6,k6,Gb,lc2,λv d m k H8 s8 t8 w8 l8 k8=>?_⟩;obtain ⟨tx,htx⟩:=Ws.tx w8.ws;obtain ⟨x1,x2,x3⟩:=Wc.tx w8 htx;refine ⟨v,d,m,tx,rfl,t8,w8.ws,l8,l8,htx,λH9 s9=>?_⟩;exact hk _ _ ⟨tx,rfl,(s5.trans s6).trans ((s7.trans s8).trans s9),x1,by lia,by lia⟩
   rintro σ' H5 ⟨x0,rfl,s5,x1,x2,x3⟩;have exl5:=s5 _ _ exl4;refine GD (λσ' H'=>∃x:List Nat,σ'=[some (.ref a),some (.int (i:Int)),some (.ref xl),some (.ref D),some (.str (mkS x)),v5,v6,v7]/\Same H5 H'/\Txy x) ?s3 ?f3
   case f3=>
    intro hk;refine ⟨_,rfl,xl,_,_,_,rfl,rfl,SqL.of exl5,GY (i:=26) (by decide) (by lia),_,_,rfl,rfl,(by show (0:Int)<8;decide),_,_,rfl,rfl,_,rfl,Ox (λ_=>?_) (λ_=>hk _ _ ⟨x0,rfl,Same.refl _,x1,by lia,by lia⟩)⟩;refine ⟨_,rfl,_,rfl,_,rfl,_,rfl,xl,_,rfl,SqL.of exl5,λp hp=>?_⟩;obtain ⟨ec,lc⟩:=Ue (ns:=row) (lo:=27) (n:=6) (by lia);rw [show J6 (row.map V.int) (some 27) (some 33)=((row.drop 27).take 6).map V.int from ec];have s6:Same H5 (upd H5 p (.lst (((row.drop 27).take 6).map V.int))):=Same.new hp;exact ⟨x0,p,_,rfl,x1,x2,x3,Gb,lc,λr H7 s7 hr=>hk _ _ ⟨r,rfl,s6.trans s7,hr⟩⟩
   clear x1 x2 x3;rintro σ' H6 ⟨x1,rfl,s6,p1⟩;have exl6:=s6 _ _ exl5;refine GD (λσ' H'=>∃x:List Nat,σ'=[some (.ref a),some (.int (i:Int)),some (.ref xl),some (.ref D),some (.str (mkS x)),v5,v6,v7]/\Same H6 H'/\Txy x) ?s4 ?f4
   case f4=>
    intro hk;refine ⟨_,rfl,xl,_,_,_,rfl,rfl,SqL.of exl6,GY (i:=26) (by decide) (by lia),_,_,rfl,rfl,(by show (0:Int)<8;decide),rfl,_,rfl,Ox (λ_=>?_) (λ_=>hk _ _ ⟨x1,rfl,Same.refl _,p1⟩)⟩;refine ⟨_,rfl,xl,_,_,_,rfl,rfl,SqL.of exl6,GY (i:=33) (by decide) (by lia),?_⟩;exact ⟨_,rfl,λr H7 s7 hr=>hk _ _ ⟨r,rfl,s7,hr⟩⟩
   rintro σ' H7 ⟨x,rfl,s7,px⟩;have exl7:=s7 _ _ exl6;have S7:=s4.trans (s5.trans (s6.trans s7));have sl7:=sl2.trans (SameL.of S7);have tab7:=tab2.same S7;obtain ⟨g,th7,hgx⟩:=ZA (K:=K) (H:=H7) px;refine GD (λσ' H'=>∃du:V,σ'=[some (.ref a),some (.int (i:Int)),some (.ref xl),some (.ref D),some (.str (mkS x)),some du,v6,v7]/\Same H7 H'/\Zdz H' du g) ?s5 ?f5
   case f5=>
    intro hk;refine ⟨_,rfl,x,rfl,px,λd hd v H8 s8 t8=>?_,λhd H8 s8=>?_⟩
    ·refine hk _ _ ⟨v,rfl,s8,.inr ?_⟩;rcases hgx with ⟨d',eg,hd'⟩ | ⟨_,no⟩
     ·obtain ⟨m,hm,hw,_⟩:=id hd;exact ⟨d,m,by rw [eg,WQ hd hd'],hm,hw,t8⟩
     ·exact absurd hd (no d)
    ·refine hk _ _ ⟨.non,rfl,s8,.inl ⟨?_,rfl⟩⟩;rcases hgx with ⟨d',eg,hd'⟩ | ⟨eg,_⟩
     ·exact absurd hd' (hd d')
     ·exact eg
   rintro σ' H8 ⟨du,rfl,s8,hdu⟩;have exl8:=s8 _ _ exl7;have th8:=th7.keep (SameL.of s8) tab7;have sl8:=sl7.trans (SameL.of s8);have tab8:=tab7.same s8;refine GD (λσ' H'=>∃(v du:V)(g:Option PyData),σ'=[some (.ref a),some (.int (i:Int)),some (.ref xl),some (.ref D),some v,some du,v6,v7]/\Same H8 H'/\Thg K H' v g/\Zdz H' du g) ?s6 ?f6
   case f6=>
    intro hk;have pass:=hk _ _ ⟨_,du,g,rfl,Same.refl _,th8,hdu⟩;refine ⟨_,rfl,xl,_,_,_,rfl,rfl,SqL.of exl8,GY (i:=26) (by decide) (by lia),_,_,rfl,rfl,(by show (0:Int)<8;decide),rfl,_,rfl,Ox (λ_=>?_) (λ_=>GR pass)⟩;refine ⟨_,rfl,xl,_,_,_,rfl,rfl,SqL.of exl8,GY (i:=34) (by decide) (by lia),_,_,rfl,rfl,(by show (0:Int)<4;decide),rfl,_,rfl,Ox (λ_=>?_) (λ_=>pass)⟩;refine ⟨(by show 1<=sizeLine;lia),λT1 hT1=>?_⟩;have s1':Same H8 (upd H8 T1 (.tup [.str "shy"])):=Same.new hT1;have e1':upd H8 T1 (.tup [.str "shy"]) T1=some (.tup [.str "shy"]):=Gb;generalize upd H8 T1 (.tup [.str "shy"])=G1 at s1' e1' ⊢;refine ⟨(by show 1<=sizeLine;lia),λL1 hL1=>?_⟩;have s2':Same G1 (upd G1 L1 (.lst [.str "shy"])):=Same.new hL1;have e2':upd G1 L1 (.lst [.str "shy"]) L1=some (.lst [.str "shy"]):=Gb;generalize upd G1 L1 (.lst [.str "shy"])=G2 at s2' e2' ⊢;refine ⟨JK,λT2 hT2=>?_⟩;have s3':Same G2 (upd G2 T2 (.tup [.int 1,.int 2])):=Same.new hT2;generalize upd G2 T2 (.tup [.int 1,.int 2])=G3 at s3' ⊢;refine ⟨JK,λT3 hT3=>?_⟩;have s4':Same G3 (upd G3 T3 (.tup [.str "with", .ref T2])):=Same.new hT3;have e4':upd G3 T3 (.tup [.str "with", .ref T2]) T3=some (.tup [.str "with", .ref T2]):=Gb;generalize upd G3 T3 (.tup [.str "with", .ref T2])=G4 at s4' e4' ⊢;refine λD1 hD1=>?_;have s5':Same G4 (upd G4 D1 (.dK [])):=Same.new hD1;have e5':upd G4 D1 (.dK []) D1=some (.dK []):=Gb;change JQ (tC (.int 0)) Xi _ (upd G4 D1 (.dK [])) _;generalize upd G4 D1 (.dK [])=G5 at s5' e5' ⊢;refine ⟨(by show 8<=sizeLine;lia),λL hL=>?_⟩;have s6':Same G5 (upd G5 L (.lst [.non,.int 7,.ref T1,.ref L1,.bl true,.ref T3,.ref D1,.int 0])):=Same.new hL;have e6':upd G5 L (.lst [.non,.int 7,.ref T1,.ref L1,.bl true,.ref T3,.ref D1,.int 0]) L=some (.lst [.non,.int 7,.ref T1,.ref L1,.bl true,.ref T3,.ref D1,.int 0]):=Gb;generalize upd G5 L (.lst [.non,.int 7,.ref T1,.ref L1,.bl true,.ref T3,.ref D1,.int 0])=G6 at s6' e6' ⊢;have S6':Same H8 G6:=s1'.trans (s2'.trans (s3'.trans (s4'.trans (s5'.trans s6'))));obtain ⟨v,hat,nv⟩:∃v,atI [V.non,.int 7,.ref T1,.ref L1,.bl true,.ref T3,.ref D1,.int 0] (row.getD (35:Int).toNat 0 % 8)=some v/\NoS K G6 v:=by
     have z0:0<=row.getD (35:Int).toNat 0 % 8:=Int.emod_nonneg _ (by decide);have z1:row.getD (35:Int).toNat 0 % 8<8:=Int.emod_lt_of_pos _ (by decide);generalize row.getD (35:Int).toNat 0 % 8=j at z0 z1 ⊢;rcases (by lia:j=0\/j=1\/j=2\/j=3\/j=4\/j=5\/j=6\/j=7) with rfl | rfl | rfl | rfl | rfl | rfl | rfl | rfl
     ·exact ⟨_,Gi (j:=0) rfl,_,.non,kb.ns⟩
     ·exact ⟨_,Gi (j:=1) rfl,_,.int _,kb.is⟩
     ·exact ⟨_,Gi (j:=2) rfl,_,.tup ((s2'.trans (s3'.trans (s4'.trans (s5'.trans s6')))) _ _ e1'),kb.ts⟩
     ·exact ⟨_,Gi (j:=3) rfl,_,.lst ((s3'.trans (s4'.trans (s5'.trans s6'))) _ _ e2'),kb.ls⟩
     ·exact ⟨_,Gi (j:=4) rfl,_,.bl _,kb.bs⟩
     ·exact ⟨_,Gi (j:=5) rfl,_,.tup ((s5'.trans s6') _ _ e4'),kb.ts⟩
     ·exact ⟨_,Gi (j:=6) rfl,_,.dK (s6' _ _ e5'),kb.ds⟩
     ·exact ⟨_,Gi (j:=7) rfl,_,.int _,kb.is⟩
    refine ⟨_,rfl,xl,_,_,_,rfl,rfl,SqL.of (S6' _ _ exl8),GY (i:=35) (by decide) (by lia),_,_,rfl,rfl,(by show (0:Int)<8;decide),L,_,_,_,rfl,rfl,SqL.of e6',hat,?_⟩;exact hk _ _ ⟨v,.non,none,rfl,S6',.inr ⟨rfl,nv⟩,.inl ⟨rfl,rfl⟩⟩
   clear th7 hgx hdu th8;rintro σ' H9 ⟨v,du,g,rfl,s9,th9,hdu⟩;have sl9:=sl8.trans (SameL.of s9);have tab9:=tab8.same s9;refine GD (λσ' H'=>∃(wd fo:V),σ'=[some (.ref a),some (.int (i:Int)),some (.ref xl),some (.ref D),some v,some du,some wd,some fo]/\SameL tbW H9 H'/\TabW tbW H'/\((g=none/\wd=.str "text")\/∃d,g=some d/\wd=.str "told" /\ Th H' fo d)) ?s7 ?f7
   case f7=>
    intro hk;refine ⟨_,rfl,v,g,rfl,th9,tab9,λd eg hd t u H10 s10 tab10 tu e10=>?_,λeg t H10 s10 tab10 e10=>?_⟩
    ·refine ⟨t,_,rfl,SqT.of e10,rfl,_,_,rfl,_,_,rfl,rfl,?_⟩;exact hk _ _ ⟨_,u,rfl,s10,tab10,.inr ⟨d,eg,rfl,tu⟩⟩
    ·refine ⟨t,_,rfl,SqT.of e10,rfl,_,_,rfl,_,_,rfl,rfl,?_⟩;exact hk _ _ ⟨_,_,rfl,s10,tab10,.inl ⟨eg,rfl⟩⟩
   rintro σ' H10 ⟨wd,fo,rfl,s10,tab10,hw⟩;have sl10:=sl9.trans s10;rcases hdu with ⟨rfl,rfl⟩ | ⟨d,m,rfl,hm,hwd,tdu⟩
   ·rcases hw with ⟨_,rfl⟩ | ⟨d,eg,_⟩
    ·refine ⟨_,rfl,rfl,_,rfl,GI ?_⟩;refine ⟨_,rfl,rfl,_,rfl,GR ?_⟩;refine ⟨_,rfl,v,rfl,th9.keep s10 tab9,tab10,λH11 s11 tab11=>⟨_,rfl,GR ?_⟩⟩;dsimp only [VO];refine ⟨_,rfl,rfl,_,rfl,GR (GR ?_)⟩;exact ⟨_,_,_,_,_,_,_,rfl,sl10.trans s11,tab11⟩
    ·cases eg
   ·rcases hw with ⟨eg,_⟩ | ⟨d',eg,rfl,tfo⟩
    ·cases eg
    ·cases eg;have ndu:¬ du=.non:=λz=>by rw [z] at tdu;cases tdu;cases hwd
     have td10:=hwd.keep (SameL.tups s10 tab9) tdu;refine ⟨_,rfl,rfl,_,rfl,?_⟩;rw [decide_eq_false ndu];refine GR (GR ?_);dsimp only [VO];refine ⟨_,rfl,rfl,_,rfl,?_⟩;rw [decide_eq_false ndu];refine GI ?_;refine ⟨_,rfl,rfl,_,rfl,GR ?_⟩;refine ⟨_,rfl,_,rfl,fo,du,d,rfl,tfo,td10,Ud (Ws.pl hwd) (by lia),λH11 s11=>⟨_,rfl,GR ?_⟩⟩;exact ⟨_,_,_,_,_,_,_,rfl,sl10.trans (SameL.of s11),tab10.same s11⟩
  ·rintro σ' H1 ⟨v1,v2,v3,v4,v5,v6,v7,rfl,sl1,tab1⟩;exact q _
end
end M
section
open PySem PySem.W PyProof.Rows
def M.rowP:Program:=PySem.Challenge.rw_onceways_k82_texts_of_no_wish.prog
def M.seenP:Program:={ M.rowP with main:={ M.rowP.main with body:=[1,2,3,4,6,7,8,9,11,12,13,15,16,17,18,19,20,21,22,23,25,26,27,28,29,30,31,33,34,35,36,37,38,39,40,41,42,43,44,45,46,47].filterMap (λi=>M.rowP.main.body[i]?) } }
def M.loosely:List Str:=[]
def M.hookX (s:Shared):Bool:=xlAt M.seenP [] s && recOk (RowW.records (OpenRow.toRowW PySem.Challenge.rw_onceways_k82_texts_of_no_wish.row)) s
noncomputable def M.atBoot (w:World)(os:OsState):Shared:=⟨boot_heap w.params,Array.mk [],boot_drawn,boot_toks,os⟩
noncomputable def M.topOf (p:Program)(N:Nat)(w:World)(os:OsState):Option Shared:=topRun treeTable p w (M.atBoot w os).heap.objs.size ((M.atBoot w os).heap.nsMap mainGlobals "__annotations__") N (M.atBoot w os) (topStub p)
theorem M.top_run {p:Program}{N:Nat}{w:World}{os:OsState}{s:Shared}(h:topFrom treeTable p w N (M.atBoot w os)=some s):M.topOf p N w os=some s:=by
 unfold topFrom at h;split at h
 ·obtain ⟨s1,h1,h2⟩:=Option.bind_eq_some_iff.mp h;split at h2
  ·cases h2;exact h1
  ·cases h2
 ·cases h
theorem M.left_boot {p q:Program}{loose:List Str}{Xt:Shared->Bool}{α:Type}{Yf:Shared->α}{Ya:World->α}{N:Nat}(e:opening p=plainProg p.main.scope.names)(hN:Nat.ble 600 N=true)(f:∀s,fenceModules? p s=some s)(hc:∀(w:World)(os:OsState),(topFrom treeTable p w N (M.atBoot w os)).isSome=true)(ha:∀(w:World)(os:OsState),(M.topOf p N w os).map (openSeen q loose (importedModules p.main.body) Xt true)=some (openGood q loose))(hb:∀(w:World)(os:OsState),(M.topOf p N w os).map Yf=some (Ya w)) :
  LeftO p q loose Xt Yf Ya N:=λw=>by
 obtain ⟨⟨a,b,c,d,os⟩,e1,e2⟩:=Option.map_eq_some_iff.mp (boot_open e hN f w);obtain ⟨rfl,rfl,rfl,rfl⟩:a=boot_heap w.params/\b=Array.mk []/\c=boot_drawn/\d=boot_toks:=by simpa using e2
 obtain ⟨s,hs⟩:=Option.isSome_iff_exists.mp (hc w os);have h1:=ha w os;have h2:=hb w os;rw [M.top_run hs] at h1 h2;unfold openEnds;rw [e1];show (topFrom treeTable p w N (M.atBoot w os)).map _=_;rw [hs];simp only [Option.map_some,Option.some.injEq] at h1 h2 ⊢;rw [h1,h2]
set_option maxHeartbeats 0 in
theorem M.topA (w:World)(os:OsState):(M.topOf M.rowP 3818 w os).map (openSeen M.seenP M.loosely (importedModules M.rowP.main.body) M.hookX true)=some (openGood M.seenP M.loosely):=by
 unfold M.topOf;rw [W.Fast.te14082659384304107361,W.Fast.te14364793385576792824,W.Fast.te4187177175401517315];kernel_rfl
set_option maxHeartbeats 0 in
theorem M.topC (w:World)(os:OsState):(topFrom treeTable M.rowP w 3818 (M.atBoot w os)).isSome=true:=by
 unfold topFrom;rw [W.Fast.te14082659384304107361,W.Fast.te14364793385576792824];kernel_rfl
end
namespace M
open PySem L2
theorem ZC {K:W.Frag}{C:Addr}(h:W.subIn K (.ref C) (.ref C)=some true)(ht:W.typeIn K (.ref C)=some (.type "type")):W.kitCls K (.ref C) (.ref C)=some true:=by
 have hs:(W.clsIn K C).isSome=true:=by
  cases e:W.clsIn K C with
  | some _=>rfl
  | none=>
   have:W.mroIn K C (.ref C)=some true:=h;unfold W.mroIn at this;rw [e] at this;cases this
 show (if ((W.clsIn K C).isSome && W.typeIn K (Value.ref C) == some (Value.type "type"))=true then W.subIn K (.ref C) (.ref C) else none)=_;rw [hs,ht,if_pos (by decide +kernel)];exact h
theorem ZD {K:W.Frag}{no way:Addr}(h:W.kitOne K (.ref no) (.ref way)=some true)(ne:no≠way):W.kitCls K (.ref no) (.ref way)=some true:=by
 unfold W.kitOne at h;rw [if_neg (by simpa using ne)] at h;exact h
theorem all_mk {l:W.OpenLaw}{w:World}{K:W.Frag}{h:Heap}{mg:Str->Option Value}{fa f1 f2 f3 f4 f5 f6 f7 f8 f9 f10 f11 f12 f13 f14 f15 f16 f17 f18 f19 f20 f21 f22 f23 f24 f25 f26 f27 f28 f29 aJ aB aP aR aL cT tb xT0 xR0 xN0 xW0:Addr}{tJ0 tJ1 tJ2 tB0 tB1 tB2 tP0 tP1 tR0 tR1 tL0 tL1 tG tD tF t4:Tok}{oJ oB oP oR oL:Option Addr}{nJ nB nP nR nL:Nat}{sJ sB sP sR sL:Array (Option Value)}{occT:Value}{odcT:Option Addr}{vsT:Array Value}{slcT:Array (Option Value)}(X:K.In h)(G:h.Ns mainGlobals mg)(hfa:mg "law" = some (.ref fa)){od1 an1 od2 an2 od3 an3 od4 an4 od5 an5 od6 an6 od7 an7 od8 an8 od9 an9 od10 an10 od11 an11 od12 an12 od13 an13 od14 an14 od15 an15 od16 an16 od17 an17 od18 an18 od19 an19 od20 an20 od21 an21 od22 an22 od23 an23 od24 an24 od25 an25 od26 an26 od27 an27 od28 an28 od29 an29:Option Addr}{sl1 sl2 sl3 sl4 sl5 sl6 sl7 sl8 sl9 sl10 sl11 sl12 sl13 sl14 sl15 sl16 sl17 sl18 sl19 sl20 sl21 sl22 sl23 sl24 sl25 sl26 sl27 sl28 sl29:Array (Option Value)}{oc1 kV1 dc1 pm1 cd1 ct1 oc2 kV2 dc2 pm2 cd2 ct2 oc3 kV3 dc3 pm3 cd3 ct3 oc4 kV4 dc4 pm4 cd4 ct4 oc5 kV5 dc5 pm5 cd5 ct5 oc6 kV6 dc6 pm6 cd6 ct6 oc7 kV7 dc7 pm7 cd7 ct7 oc8 kV8 dc8 pm8 cd8 ct8 oc9 kV9 dc9 pm9 cd9 ct9 oc10 kV10 dc10 pm10 ct10 oc11 kV11 dc11 pm11 cd11 ct11 oc12 kV12 dc12 pm12 cd12 ct12 oc13 kV13 dc13 pm13 cd13 ct13 oc14 kV14 dc14 pm14 cd14 ct14 oc15 kV15 dc15 pm15 cd15 ct15 oc16 kV16 dc16 pm16 cd16 ct16 oc17 kV17 dc17 pm17 cd17 ct17 oc18 kV18 dc18 pm18 cd18 ct18 oc19 kV19 dc19 pm19 cd19 ct19 oc20 kV20 dc20 pm20 cd20 ct20 oc21 kV21 dc21 pm21 cd21 ct21 oc22 kV22 dc22 pm22 cd22 ct22 oc23 kV23 dc23 pm23 cd23 ct23 oc24 kV24 dc24 pm24 cd24 ct24 oc25 kV25 dc25 pm25 cd25 ct25 oc26 kV26 dc26 pm26 cd26 ct26 oc27 kV27 dc27 pm27 cd27 ct27 oc28 kV28 dc28 pm28 cd28 ct28 oc29 kV29 dc29 pm29 cd29 ct29:Value}(aF1:W.nsIn K mainGlobals "is_written" = some (some (.ref f1)))(lF1:K.lookup f1=some ⟨oc1,od1,.func (W.fnOf "is_written" "is_written" (GC ZaY) (Gy ZaY) (Gh ZaY) .none kV1 dc1 pm1 an1 cd1 ct1),sl1⟩)(cF1:W.codeIn K cd1 "is_written" = true)(kF1:W.keepIn K (.ref f1)=true)(aF2:W.nsIn K mainGlobals "is_number" = some (some (.ref f2)))(lF2:K.lookup f2=some ⟨oc2,od2,.func (W.fnOf "is_number" "is_number" (GC ZaZ) (Gy ZaZ) (Gh ZaZ) .none kV2 dc2 pm2 an2 cd2 ct2),sl2⟩)(cF2:W.codeIn K cd2 "is_number" = true)(kF2:W.keepIn K (.ref f2)=true)(aF3:W.nsIn K mainGlobals "parts_of" = some (some (.ref f3)))(lF3:K.lookup f3=some ⟨oc3,od3,.func (W.fnOf "parts_of" "parts_of" (GC Za0) (Gy Za0) (Gh Za0) .none kV3 dc3 pm3 an3 cd3 ct3),sl3⟩)(cF3:W.codeIn K cd3 "parts_of" = true)(kF3:W.keepIn K (.ref f3)=true)(aF4:W.nsIn K mainGlobals "folded" = some (some (.ref f4)))(lF4:K.lookup f4=some ⟨oc4,od4,.func (W.fnOf "folded" "folded" (GC Za1) (Gy Za1) (Gh Za1) .none kV4 dc4 pm4 an4 cd4 ct4),sl4⟩)(cF4:W.codeIn K cd4 "folded" = true)(kF4:W.keepIn K (.ref f4)=true)(aF5:W.nsIn K mainGlobals "is_small" = some (some (.ref f5)))(lF5:K.lookup f5=some ⟨oc5,od5,.func (W.fnOf "is_small" "is_small" (GC ZR) (Gy ZR) (Gh ZR) .none kV5 dc5 pm5 an5 cd5 ct5),sl5⟩)(cF5:W.codeIn K cd5 "is_small" = true)(kF5:W.keepIn K (.ref f5)=true)(aF6:W.nsIn K mainGlobals "is_leaf" = some (some (.ref f6)))(lF6:K.lookup f6=some ⟨oc6,od6,.func (W.fnOf "is_leaf" "is_leaf" (GC Za2) (Gy Za2) (Gh Za2) .none kV6 dc6 pm6 an6 cd6 ct6),sl6⟩)(cF6:W.codeIn K cd6 "is_leaf" = true)(kF6:W.keepIn K (.ref f6)=true)(aF7:W.nsIn K mainGlobals "is_wish" = some (some (.ref f7)))(lF7:K.lookup f7=some ⟨oc7,od7,.func (W.fnOf "is_wish" "is_wish" (GC Za3) (Gy Za3) (Gh Za3) .none kV7 dc7 pm7 an7 cd7 ct7),sl7⟩)(cF7:W.codeIn K cd7 "is_wish" = true)(kF7:W.keepIn K (.ref f7)=true)(aF8:W.nsIn K mainGlobals "numbers_of" = some (some (.ref f8)))(lF8:K.lookup f8=some ⟨oc8,od8,.func (W.fnOf "numbers_of" "numbers_of" (GC Za4) (Gy Za4) (Gh Za4) .none kV8 dc8 pm8 an8 cd8 ct8),sl8⟩)(cF8:W.codeIn K cd8 "numbers_of" = true)(kF8:W.keepIn K (.ref f8)=true)(aF9:W.nsIn K mainGlobals "show_leaf" = some (some (.ref f9)))(lF9:K.lookup f9=some ⟨oc9,od9,.func (W.fnOf "show_leaf" "show_leaf" (GC ZbV) (Gy ZbV) (Gh ZbV) .none kV9 dc9 pm9 an9 cd9 ct9),sl9⟩)(cF9:W.codeIn K cd9 "show_leaf" = true)(kF9:W.keepIn K (.ref f9)=true)(aF10:W.nsIn K mainGlobals "show_wish" = some (some (.ref f10)))(lF10:K.lookup f10=some ⟨oc10,od10,.func (W.fnOf "show_wish" "show_wish" (GC ZS) (Gy ZS) (Gh ZS) .none kV10 dc10 pm10 an10 (.ref cT) ct10),sl10⟩)(cF10:W.codeIn K (.ref cT) "show_wish" = true)(kF10:W.keepIn K (.ref f10)=true)(aF11:W.nsIn K mainGlobals "items_of" = some (some (.ref f11)))(lF11:K.lookup f11=some ⟨oc11,od11,.func (W.fnOf "items_of" "items_of" (GC Za5) (Gy Za5) (Gh Za5) .none kV11 dc11 pm11 an11 cd11 ct11),sl11⟩)(cF11:W.codeIn K cd11 "items_of" = true)(kF11:W.keepIn K (.ref f11)=true)(aF12:W.nsIn K mainGlobals "leaf_of" = some (some (.ref f12)))(lF12:K.lookup f12=some ⟨oc12,od12,.func (W.fnOf "leaf_of" "leaf_of" (GC Za6) (Gy Za6) (Gh Za6) .none kV12 dc12 pm12 an12 cd12 ct12),sl12⟩)(cF12:W.codeIn K cd12 "leaf_of" = true)(kF12:W.keepIn K (.ref f12)=true)(aF13:W.nsIn K mainGlobals "wish_of" = some (some (.ref f13)))(lF13:K.lookup f13=some ⟨oc13,od13,.func (W.fnOf "wish_of" "wish_of" (GC Za7) (Gy Za7) (Gh Za7) .none kV13 dc13 pm13 an13 cd13 ct13),sl13⟩)(cF13:W.codeIn K cd13 "wish_of" = true)(kF13:W.keepIn K (.ref f13)=true)(aF14:W.nsIn K mainGlobals "read_wish" = some (some (.ref f14)))(lF14:K.lookup f14=some ⟨oc14,od14,.func (W.fnOf "read_wish" "read_wish" (GC ZT) (Gy ZT) (Gh ZT) .none kV14 dc14 pm14 an14 cd14 ct14),sl14⟩)(cF14:W.codeIn K cd14 "read_wish" = true)(kF14:W.keepIn K (.ref f14)=true)(aF15:W.nsIn K mainGlobals "_law_cell_at" = some (some (.ref f15)))(lF15:K.lookup f15=some ⟨oc15,od15,.func (W.fnOf "_law_cell_at" "_law_cell_at" (GC Za8) (Gy Za8) (Gh Za8) .none kV15 dc15 pm15 an15 cd15 ct15),sl15⟩)(cF15:W.codeIn K cd15 "_law_cell_at" = true)(kF15:W.keepIn K (.ref f15)=true)(aF16:W.nsIn K mainGlobals "_law_numbers" = some (some (.ref f16)))(lF16:K.lookup f16=some ⟨oc16,od16,.func (W.fnOf "_law_numbers" "_law_numbers" (GC Za9) (Gy Za9) (Gh Za9) .none kV16 dc16 pm16 an16 cd16 ct16),sl16⟩)(cF16:W.codeIn K cd16 "_law_numbers" = true)(kF16:W.keepIn K (.ref f16)=true)(aF17:W.nsIn K mainGlobals "_law_some" = some (some (.ref f17)))(lF17:K.lookup f17=some ⟨oc17,od17,.func (W.fnOf "_law_some" "_law_some" (GC Zba) (Gy Zba) (Gh Zba) .none kV17 dc17 pm17 an17 cd17 ct17),sl17⟩)(cF17:W.codeIn K cd17 "_law_some" = true)(kF17:W.keepIn K (.ref f17)=true)(aF18:W.nsIn K mainGlobals "_law_joined" = some (some (.ref f18)))(lF18:K.lookup f18=some ⟨oc18,od18,.func (W.fnOf "_law_joined" "_law_joined" (GC Zbb) (Gy Zbb) (Gh Zbb) .none kV18 dc18 pm18 an18 cd18 ct18),sl18⟩)(cF18:W.codeIn K cd18 "_law_joined" = true)(kF18:W.keepIn K (.ref f18)=true)(aF19:W.nsIn K mainGlobals "_law_deep" = some (some (.ref f19)))(lF19:K.lookup f19=some ⟨oc19,od19,.func (W.fnOf "_law_deep" "_law_deep" (GC Zbc) (Gy Zbc) (Gh Zbc) .none kV19 dc19 pm19 an19 cd19 ct19),sl19⟩)(cF19:W.codeIn K cd19 "_law_deep" = true)(kF19:W.keepIn K (.ref f19)=true)(aF20:W.nsIn K mainGlobals "_law_written" = some (some (.ref f20)))(lF20:K.lookup f20=some ⟨oc20,od20,.func (W.fnOf "_law_written" "_law_written" (GC Zbd) (Gy Zbd) (Gh Zbd) .none kV20 dc20 pm20 an20 cd20 ct20),sl20⟩)(cF20:W.codeIn K cd20 "_law_written" = true)(kF20:W.keepIn K (.ref f20)=true)(aF21:W.nsIn K mainGlobals "_law_alike" = some (some (.ref f21)))(lF21:K.lookup f21=some ⟨oc21,od21,.func (W.fnOf "_law_alike" "_law_alike" (GC Zbe) (Gy Zbe) (Gh Zbe) .none kV21 dc21 pm21 an21 cd21 ct21),sl21⟩)(cF21:W.codeIn K cd21 "_law_alike" = true)(kF21:W.keepIn K (.ref f21)=true)(aF22:W.nsIn K mainGlobals "_law_number" = some (some (.ref f22)))(lF22:K.lookup f22=some ⟨oc22,od22,.func (W.fnOf "_law_number" "_law_number" (GC Zbf) (Gy Zbf) (Gh Zbf) .none kV22 dc22 pm22 an22 cd22 ct22),sl22⟩)(cF22:W.codeIn K cd22 "_law_number" = true)(kF22:W.keepIn K (.ref f22)=true)(aF23:W.nsIn K mainGlobals "_law_plain_read" = some (some (.ref f23)))(lF23:K.lookup f23=some ⟨oc23,od23,.func (W.fnOf "_law_plain_read" "_law_plain_read" (GC ZU) (Gy ZU) (Gh ZU) .none kV23 dc23 pm23 an23 cd23 ct23),sl23⟩)(cF23:W.codeIn K cd23 "_law_plain_read" = true)(kF23:W.keepIn K (.ref f23)=true)(aF24:W.nsIn K mainGlobals "_law_read" = some (some (.ref f24)))(lF24:K.lookup f24=some ⟨oc24,od24,.func (W.fnOf "_law_read" "_law_read" (GC ZV) (Gy ZV) (Gh ZV) .none kV24 dc24 pm24 an24 cd24 ct24),sl24⟩)(cF24:W.codeIn K cd24 "_law_read" = true)(kF24:W.keepIn K (.ref f24)=true)(aF25:W.nsIn K mainGlobals "_law_changed" = some (some (.ref f25)))(lF25:K.lookup f25=some ⟨oc25,od25,.func (W.fnOf "_law_changed" "_law_changed" (GC Zbg) (Gy Zbg) (Gh Zbg) .none kV25 dc25 pm25 an25 cd25 ct25),sl25⟩)(cF25:W.codeIn K cd25 "_law_changed" = true)(kF25:W.keepIn K (.ref f25)=true)(aF26:W.nsIn K mainGlobals "_law_odd" = some (some (.ref f26)))(lF26:K.lookup f26=some ⟨oc26,od26,.func (W.fnOf "_law_odd" "_law_odd" (GC Zbh) (Gy Zbh) (Gh Zbh) .none kV26 dc26 pm26 an26 cd26 ct26),sl26⟩)(cF26:W.codeIn K cd26 "_law_odd" = true)(kF26:W.keepIn K (.ref f26)=true)(aF27:W.nsIn K mainGlobals "_law_asked" = some (some (.ref f27)))(lF27:K.lookup f27=some ⟨oc27,od27,.func (W.fnOf "_law_asked" "_law_asked" (GC Zbi) (Gy Zbi) (Gh Zbi) .none kV27 dc27 pm27 an27 cd27 ct27),sl27⟩)(cF27:W.codeIn K cd27 "_law_asked" = true)(kF27:W.keepIn K (.ref f27)=true)(aF28:W.nsIn K mainGlobals "_law_any" = some (some (.ref f28)))(lF28:K.lookup f28=some ⟨oc28,od28,.func (W.fnOf "_law_any" "_law_any" (GC Zbj) (Gy Zbj) (Gh Zbj) .none kV28 dc28 pm28 an28 cd28 ct28),sl28⟩)(cF28:W.codeIn K cd28 "_law_any" = true)(kF28:W.keepIn K (.ref f28)=true)(aF29:W.nsIn K mainGlobals "law" = some (some (.ref f29)))(lF29:K.lookup f29=some ⟨oc29,od29,.func (W.fnOf "law" "law" (GC Ze) (Gy Ze) (Gh Ze) .none kV29 dc29 pm29 an29 cd29 ct29),sl29⟩)(cF29:W.codeIn K cd29 "law" = true)(kF29:W.keepIn K (.ref f29)=true)(kk:ZbW K)(ka:ZeG K)(kb:ZeH K)(gTx:W.nsIn K mainGlobals "NoText" = some (some (.ref xT0)))(gRo:W.nsIn K mainGlobals "NoRow" = some (some (.ref xR0)))(gNw:W.nsIn K mainGlobals "NoWay" = some (some (.ref xN0)))(gWy:W.nsIn K mainGlobals "WayError" = some (some (.ref xW0)))(exT:ExcC K xT0)(xga:W.findIn K (.ref xT0) "__getattribute__" = some (some (.builtin "BaseException.__getattribute__")))(xnga:W.findIn K (.ref xT0) "__getattr__" = some none)(xcl:W.findIn K (.ref xT0) "__class__" = some (some (.builtin "object.__class__")))(xob:W.mroIn K xT0 (.type "object")=some true)(tbe:W.subIn K (.ref xT0) (.type "BaseException")=some true)(wbe:W.subIn K (.ref xW0) (.type "BaseException")=some true)(kcT:W.subIn K (.ref xT0) (.ref xT0)=some true)(ktT:W.typeIn K (.ref xT0)=some (.type "type"))(tw:W.kitOne K (.ref xT0) (.ref xW0)=some true)(ntw:xT0≠xW0)(tr:W.kitOne K (.ref xT0) (.ref xR0)=some false)(tn:W.kitOne K (.ref xT0) (.ref xN0)=some false)(tv:W.kitOne K (.ref xT0) (.type "ValueError")=some true)(gJ:W.nsIn K mainGlobals "JOINING" = some (some (.ref aJ)))(lJ:K.lookup aJ=some ⟨.type "tuple", oJ,.seq #[.str "and" tJ0,.str "or" tJ1,.str "but" tJ2] nJ,sJ⟩)(gB:W.nsIn K mainGlobals "BARE" = some (some (.ref aB)))(lB:K.lookup aB=some ⟨.type "tuple", oB,.seq #[.str "closed" tB0,.str "shy" tB1,.str "all" tB2] nB,sB⟩)(gP:W.nsIn K mainGlobals "PAIRED" = some (some (.ref aP)))(lP:K.lookup aP=some ⟨.type "tuple", oP,.seq #[.str "open" tP0,.str "long" tP1] nP,sP⟩)(gR:W.nsIn K mainGlobals "OF_ROADS" = some (some (.ref aR)))(lR:K.lookup aR=some ⟨.type "tuple", oR,.seq #[.str "with" tR0,.str "off" tR1] nR,sR⟩)(gL:W.nsIn K mainGlobals "OF_PLACES" = some (some (.ref aL)))(lL:K.lookup aL=some ⟨.type "tuple", oL,.seq #[.str "over" tL0,.str "past" tL1] nL,sL⟩)(gG:W.nsIn K mainGlobals "GREATEST" = some (some (.int 9999 tG)))(gD:W.nsIn K mainGlobals "DEEPEST" = some (some (.int 8 tD)))(gFig:W.nsIn K mainGlobals "FIGURES" = some (some (.str "0123456789" tF)))(gMoF:W.nsIn K mainGlobals "MOST_FIGURES" = some (some (.int 4 t4)))(lcT:K.lookup cT=some ⟨occT,odcT,.fields vsT,slcT⟩)(v11:(vsT[11]?:Option Value)=some (.ref tb))(nTab:K.lookup tb=none)(nisinstance:W.nsIn K mainGlobals "isinstance" = some none)(nint:W.nsIn K mainGlobals "int" = some none)(nbool:W.nsIn K mainGlobals "bool" = some none)(ntuple:W.nsIn K mainGlobals "tuple" = some none)(nstr:W.nsIn K mainGlobals "str" = some none)(nlen:W.nsIn K mainGlobals "len" = some none)(nall:W.nsIn K mainGlobals "all" = some none)(nrange:W.nsIn K mainGlobals "range" = some none)(nlist:W.nsIn K mainGlobals "list" = some none)(nmax:W.nsIn K mainGlobals "max" = some none)(nreversed:W.nsIn K mainGlobals "reversed" = some none)(nValueError:W.nsIn K mainGlobals "ValueError" = some none)
  : ∃(fd:FuncData)(c P:Addr),W.tabIn K "show_wish" = some (c,P)/\K.lookup P=none/\(∀(s:Shared)(v:Value),BindsTo s fd ⟨[v],[]⟩ [("script", v)])/\∀base:Heap,K.In base->base.Ns mainGlobals mg->W.CodeHd base c P->base.BuiltinsAt mg P->Jl l.prog w K mg base CX0 12 fa fd ["script"] (ZB K P):=by
 have e:=hfa.symm.trans (W.mg_of X G aF29);cases e;have FWri:=GZ (st:=ZaY) lF1 cF1 kF1;have bWri:=FWri.binds (ps:=["word", "most"]) λ_ _ _ _ _ _ us hl=>by obtain ⟨_,_,rfl⟩:=YE hl;rfl
 have mWri:mg "is_written" = some (.ref f1):=W.mg_of X G aF1;have FIsn:=GZ (st:=ZaZ) lF2 cF2 kF2;have bIsn:=FIsn.binds (ps:=["word"]) λ_ _ _ _ _ _ us hl=>by obtain ⟨_,rfl⟩:=UY hl;rfl
 have mIsn:mg "is_number" = some (.ref f2):=W.mg_of X G aF2;have FPa:=GZ (st:=Za0) lF3 cF3 kF3;have bPa:=FPa.binds (ps:=["wish"]) λ_ _ _ _ _ _ us hl=>by obtain ⟨_,rfl⟩:=UY hl;rfl
 have mPa:mg "parts_of" = some (.ref f3):=W.mg_of X G aF3;have FFo:=GZ (st:=Za1) lF4 cF4 kF4;have bFo:=FFo.binds (ps:=["wish", "told_of", "joined"]) λ_ _ _ _ _ _ us hl=>by obtain ⟨_,_,_,rfl⟩:=ZdU hl;rfl
 have mFo:mg "folded" = some (.ref f4):=W.mg_of X G aF4;have FS:=GZ (st:=ZR) lF5 cF5 kF5;have bS:=FS.binds (ps:=["thing"]) λ_ _ _ _ _ _ us hl=>by obtain ⟨_,rfl⟩:=UY hl;rfl
 have mS:mg "is_small" = some (.ref f5):=W.mg_of X G aF5;have FE:=GZ (st:=Za2) lF6 cF6 kF6;have bE:=FE.binds (ps:=["word", "rest"]) λ_ _ _ _ _ _ us hl=>by obtain ⟨_,_,rfl⟩:=YE hl;rfl
 have mE:mg "is_leaf" = some (.ref f6):=W.mg_of X G aF6;have FW:=GZ (st:=Za3) lF7 cF7 kF7;have bW:=FW.binds (ps:=["thing"]) λ_ _ _ _ _ _ us hl=>by obtain ⟨_,rfl⟩:=UY hl;rfl
 have mW:mg "is_wish" = some (.ref f7):=W.mg_of X G aF7;have FNo:=GZ (st:=Za4) lF8 cF8 kF8;have bNo:=FNo.binds (ps:=["leaf"]) λ_ _ _ _ _ _ us hl=>by obtain ⟨_,rfl⟩:=UY hl;rfl
 have mNo:mg "numbers_of" = some (.ref f8):=W.mg_of X G aF8;have FSl:=GZ (st:=ZbV) lF9 cF9 kF9;have bSl:=FSl.binds (ps:=["leaf"]) λ_ _ _ _ _ _ us hl=>by obtain ⟨_,rfl⟩:=UY hl;rfl
 have mSl:mg "show_leaf" = some (.ref f9):=W.mg_of X G aF9;have FSw:=GZ (st:=ZS) lF10 cF10 kF10;have bSw:=FSw.binds (ps:=["wish"]) λ_ _ _ _ _ _ us hl=>by obtain ⟨_,rfl⟩:=UY hl;rfl
 have mSw:mg "show_wish" = some (.ref f10):=W.mg_of X G aF10;have FIt:=GZ (st:=Za5) lF11 cF11 kF11;have bIt:=FIt.binds (ps:=["text"]) λ_ _ _ _ _ _ us hl=>by obtain ⟨_,rfl⟩:=UY hl;rfl
 have mIt:mg "items_of" = some (.ref f11):=W.mg_of X G aF11;have FLo:=GZ (st:=Za6) lF12 cF12 kF12;have bLo:=FLo.binds (ps:=["item"]) λ_ _ _ _ _ _ us hl=>by obtain ⟨_,rfl⟩:=UY hl;rfl
 have mLo:mg "leaf_of" = some (.ref f12):=W.mg_of X G aF12;have FWo:=GZ (st:=Za7) lF13 cF13 kF13;have bWo:=FWo.binds (ps:=["items"]) λ_ _ _ _ _ _ us hl=>by obtain ⟨_,rfl⟩:=UY hl;rfl
 have mWo:mg "wish_of" = some (.ref f13):=W.mg_of X G aF13;have FRw:=GZ (st:=ZT) lF14 cF14 kF14;have bRw:=FRw.binds (ps:=["text"]) λ_ _ _ _ _ _ us hl=>by obtain ⟨_,rfl⟩:=UY hl;rfl
 have mRw:mg "read_wish" = some (.ref f14):=W.mg_of X G aF14;have FA:=GZ (st:=Za8) lF15 cF15 kF15;have bA:=FA.binds (ps:=["script", "k"]) λ_ _ _ _ _ _ us hl=>by obtain ⟨_,_,rfl⟩:=YE hl;rfl
 have mA:mg "_law_cell_at" = some (.ref f15):=W.mg_of X G aF15;have FN:=GZ (st:=Za9) lF16 cF16 kF16;have bN:=FN.binds (ps:=["cell", "many"]) λ_ _ _ _ _ _ us hl=>by obtain ⟨_,_,rfl⟩:=YE hl;rfl
 have mN:mg "_law_numbers" = some (.ref f16):=W.mg_of X G aF16;have FM:=GZ (st:=Zba) lF17 cF17 kF17;have bM:=FM.binds (ps:=["xs"]) λ_ _ _ _ _ _ us hl=>by obtain ⟨_,rfl⟩:=UY hl;rfl
 have mM:mg "_law_some" = some (.ref f17):=W.mg_of X G aF17;have FJ:=GZ (st:=Zbb) lF18 cF18 kF18;have bJ:=FJ.binds (ps:=["parts", "xs"]) λ_ _ _ _ _ _ us hl=>by obtain ⟨_,_,rfl⟩:=YE hl;rfl
 have mJ:mg "_law_joined" = some (.ref f18):=W.mg_of X G aF18;have FDp:=GZ (st:=Zbc) lF19 cF19 kF19;have bDp:=FDp.binds (ps:=["thing", "xs"]) λ_ _ _ _ _ _ us hl=>by obtain ⟨_,_,rfl⟩:=YE hl;rfl
 have mDp:mg "_law_deep" = some (.ref f19):=W.mg_of X G aF19;have FWt:=GZ (st:=Zbd) lF20 cF20 kF20;have bWt:=FWt.binds (ps:=["wish"]) λ_ _ _ _ _ _ us hl=>by obtain ⟨_,rfl⟩:=UY hl;rfl
 have mWt:mg "_law_written" = some (.ref f20):=W.mg_of X G aF20;have FAl:=GZ (st:=Zbe) lF21 cF21 kF21;have bAl:=FAl.binds (ps:=["found", "due"]) λ_ _ _ _ _ _ us hl=>by obtain ⟨_,_,rfl⟩:=YE hl;rfl
 have mAl:mg "_law_alike" = some (.ref f21):=W.mg_of X G aF21;have FLnu:=GZ (st:=Zbf) lF22 cF22 kF22;have bLnu:=FLnu.binds (ps:=["word"]) λ_ _ _ _ _ _ us hl=>by obtain ⟨_,rfl⟩:=UY hl;rfl
 have mLnu:mg "_law_number" = some (.ref f22):=W.mg_of X G aF22;have FPlr:=GZ (st:=ZU) lF23 cF23 kF23;have bPlr:=FPlr.binds (ps:=["words"]) λ_ _ _ _ _ _ us hl=>by obtain ⟨_,rfl⟩:=UY hl;rfl
 have mPlr:mg "_law_plain_read" = some (.ref f23):=W.mg_of X G aF23;have FLre:=GZ (st:=ZV) lF24 cF24 kF24;have bLre:=FLre.binds (ps:=["text", "depth"]) λ_ _ _ _ _ _ us hl=>by obtain ⟨_,_,rfl⟩:=YE hl;rfl
 have mLre:mg "_law_read" = some (.ref f24):=W.mg_of X G aF24;have FCha:=GZ (st:=Zbg) lF25 cF25 kF25;have bCha:=FCha.binds (ps:=["text", "xs"]) λ_ _ _ _ _ _ us hl=>by obtain ⟨_,_,rfl⟩:=YE hl;rfl
 have mCha:mg "_law_changed" = some (.ref f25):=W.mg_of X G aF25;have FOdd:=GZ (st:=Zbh) lF26 cF26 kF26;have bOdd:=FOdd.binds (ps:=["number"]) λ_ _ _ _ _ _ us hl=>by obtain ⟨_,rfl⟩:=UY hl;rfl
 have mOdd:mg "_law_odd" = some (.ref f26):=W.mg_of X G aF26;have FAsk:=GZ (st:=Zbi) lF27 cF27 kF27;have bAsk:=FAsk.binds (ps:=["thing"]) λ_ _ _ _ _ _ us hl=>by obtain ⟨_,rfl⟩:=UY hl;rfl
 have mAsk:mg "_law_asked" = some (.ref f27):=W.mg_of X G aF27;have FAny:=GZ (st:=Zbj) lF28 cF28 kF28;have bAny:=FAny.binds (ps:=["thing"]) λ_ _ _ _ _ _ us hl=>by obtain ⟨_,rfl⟩:=UY hl;rfl
 have mAny:mg "_law_any" = some (.ref f28):=W.mg_of X G aF28;have FL:=GZ (st:=Ze) lF29 cF29 kF29;have tTab:W.tabIn K "show_wish" = some (cT,tb):=by
  unfold W.tabIn;simp only [aF10,lF10,W.fnOf,lcT,v11]
 refine ⟨W.fnOf "law" "law" (GC Ze) (Gy Ze) (Gh Ze) .none kV29 dc29 pm29 an29 cd29 ct29,cT,tb,tTab,nTab,λs v=>.of_eq rfl,λbase _ _ hC hBl=>?_⟩;have T:Wds K aJ aB aP aR aL:=⟨λ_=>.inr ⟨_,_,_,lJ,rfl,rfl,(by show 3<=sizeLine;decide),.cons ⟨_,rfl⟩ (.cons ⟨_,rfl⟩ (.cons ⟨_,rfl⟩ .nil))⟩,λ_=>.inr ⟨_,_,_,lB,rfl,rfl,(by show 3<=sizeLine;decide),.cons ⟨_,rfl⟩ (.cons ⟨_,rfl⟩ (.cons ⟨_,rfl⟩ .nil))⟩,λ_=>.inr ⟨_,_,_,lP,rfl,rfl,(by show 2<=sizeLine;decide),.cons ⟨_,rfl⟩ (.cons ⟨_,rfl⟩ .nil)⟩,λ_=>.inr ⟨_,_,_,lR,rfl,rfl,(by show 2<=sizeLine;decide),.cons ⟨_,rfl⟩ (.cons ⟨_,rfl⟩ .nil)⟩,λ_=>.inr ⟨_,_,_,lL,rfl,rfl,(by show 2<=sizeLine;decide),.cons ⟨_,rfl⟩ (.cons ⟨_,rfl⟩ .nil)⟩⟩;have GWri:=ZcS (P:=l.prog) (w:=w) (base:=base) FWri (W.mg_of X G gFig) (W.mg_none_of X G nlen) (W.mg_none_of X G nall);have GIsn:=ZcU FIsn FWri bWri mWri GWri (W.mg_of X G gMoF);have GPa:=ZcF (P:=l.prog) (w:=w) (base:=base) FPa T (W.mg_of X G gJ);have GNo:=ZcI (P:=l.prog) (w:=w) (base:=base) FNo T (W.mg_of X G gR) (W.mg_of X G gL);have GSl:=ZcK FSl FNo bNo mNo GNo (W.mg_none_of X G nstr);have GFo:=ZcN FFo FPa bPa mPa GPa FSl.kp bSl GSl T (W.mg_of X G gJ) (W.mg_none_of X G nreversed);have GSw:=ZcQ FSw rfl hC hBl FFo bFo mFo GFo mSl;have GW:=Zc7 (P:=l.prog) (w:=w) (base:=base) FW FS bS mS FE bE mE kk T (W.mg_of X G gJ) (W.mg_of X G gB) (W.mg_of X G gP) (W.mg_of X G gR) (W.mg_of X G gL) (W.mg_of X G gG) (W.mg_of X G gD) (W.mg_none_of X G nisinstance) (W.mg_none_of X G nint) (W.mg_none_of X G nbool) (W.mg_none_of X G ntuple) (W.mg_none_of X G nstr) (W.mg_none_of X G nlen) (W.mg_none_of X G nall);have GIt:=ZcW FIt FIsn bIsn mIsn GIsn kk T (W.mg_of X G gJ) (W.mg_of X G gB) (W.mg_of X G gP) (W.mg_of X G gR) (W.mg_of X G gL) (W.mg_none_of X G nisinstance) (W.mg_none_of X G ntuple) (W.mg_none_of X G nint);have GLo:=ZcZ (P:=l.prog) (w:=w) (base:=base) FLo T (W.mg_of X G gR) (W.mg_of X G gL);have GWo:=Zc2 FWo FLo bLo mLo GLo kk (W.mg_none_of X G nisinstance) (W.mg_none_of X G ntuple) (W.mg_none_of X G nlen);have TC:Zen K mg xT0 xR0 xN0 xW0:=⟨⟨exT,xga,xnga,xcl,xob,tbe⟩,(W.mg_of X G gTx),(W.mg_of X G gRo),(W.mg_of X G gNw),(W.mg_of X G gWy),tbe,wbe,ZC kcT ktT,ZD tw ntw,tr,tn,tv,(W.mg_none_of X G nValueError)⟩;have GRw:=Zc8 FRw FIt bIt mIt GIt FWo bWo mWo GWo FW bW mW GW FSw bSw mSw GSw (W.mg_of X G gTx) exT (W.mg_none_of X G nisinstance) (W.mg_none_of X G nstr);have GWt:=Z9 (P:=l.prog) (w:=w) (base:=base) FWt bWt mWt (W.mg_none_of X G nlen) (W.mg_none_of X G nstr) 10;have GAl:=Zaa (P:=l.prog) (w:=w) (base:=base) FAl bAl mAl ka (W.mg_none_of X G nisinstance) (W.mg_none_of X G nstr) (W.mg_none_of X G ntuple) (W.mg_none_of X G nlist) (W.mg_none_of X G nint) (W.mg_none_of X G nbool) (W.mg_none_of X G nlen) (W.mg_none_of X G nrange) 10;have GLnu:=Zdb (P:=l.prog) (w:=w) (base:=base) FLnu (W.mg_none_of X G nlen) (W.mg_none_of X G nint);have GPlr:=Zdc FPlr FLnu bLnu mLnu GLnu (W.mg_none_of X G nlen) (W.mg_none_of X G ntuple);have GLre:=Z6 FLre bLre mLre FPlr bPlr mPlr GPlr (W.mg_none_of X G nlen) (W.mg_none_of X G nint) (W.mg_none_of X G nrange) 8;have GCha:=Zdn (P:=l.prog) (w:=w) (base:=base) FCha (W.mg_none_of X G nlen);have GOdd:=Zdp (P:=l.prog) (w:=w) (base:=base) FOdd (W.mg_none_of X G nlen);have GAsk:=Zdr FAsk TC FRw bRw mRw GRw (W.mg_none_of X G nisinstance) (W.mg_none_of X G nint);have GAny:=Zdt FAny TC FRw bRw mRw GRw (W.mg_none_of X G nisinstance);exact ZdA FL kb FA bA mA (Zdg FA (W.mg_none_of X G nlen)) FN bN mN (Zdi FN (W.mg_none_of X G nrange)) FM bM mM (Zdl FM (W.mg_none_of X G nrange) (W.mg_none_of X G ntuple)) FJ bJ mJ (Zdv FJ (W.mg_none_of X G nrange) (W.mg_none_of X G nlen) (W.mg_none_of X G nlist)) FDp bDp mDp (Zdx FDp (W.mg_none_of X G nrange)) FWt bWt mWt GWt FCha bCha mCha GCha FOdd bOdd mOdd GOdd FLre bLre mLre GLre FAsk bAsk mAsk GAsk FAny bAny mAny GAny FAl bAl mAl GAl (W.mg_none_of X G nlen) (W.mg_none_of X G nrange) (W.mg_none_of X G nmax)
theorem walk {l:W.OpenLaw}{q:Program}{loose:List Str}{XP:(Str->Option Value)->Heap->Prop}{YP:World->Heap->Prop}{d dd:DefRec}{K:Params->W.Frag}(hn:l.most=some 63)(hdf:d.params.defaults=[])(hY:∀(w:World)(h:Heap),YP w h->(K w.params).In h)(hrec:(PyProof.Rows.recsOf q).find? (λe=>e.name == Str.ofString "show_wish")=some dd)(F:∀(w:World)(mg:Str->Option Value)(fa:Addr)(h:Heap),(K w.params).In h->h.Ns mainGlobals mg->mg d.name=some (.ref fa) ->
   ∃(fd:FuncData)(c P:Addr),W.tabIn (K w.params) "show_wish" = some (c,P)/\(K w.params).lookup P=none/\(∀(s:Shared)(u:Value),BindsTo s fd ⟨[u],[]⟩ [("script", u)])/\∀base:Heap,(K w.params).In base->base.Ns mainGlobals mg->W.CodeHd base c P->base.BuiltinsAt mg P->Jl l.prog w (K w.params) mg base CX0 12 fa fd ["script"] (ZB (K w.params) P)) :
  W.WalkO q loose XP YP l.row.toRowW d [] (λf vs=>PySem.call f vs):=
 L2.walk_ofT (n:=63) (k:=12) (x := "script") (tn:=Str.ofString "show_wish") (CX:=λ_=>CX0) (sp:=λw P=>ZB (K w.params) P) hn (by decide) hdf ⟨rfl,by decide,by decide⟩ hY hrec F (λ_ P _ a ns hl _ hP hS=>⟨a,ns,rfl,hS,hl,hP,λ_=>rfl⟩) λ_ _ _ _ _ z=>z
end M
open PySem PySem.W PyProof.Rows
local macro_rules
 | `(tactic| o_head $H)=>`(tactic| (
  refine @holds_open _ M.seenP M.loosely M.hookX (XL M.seenP []) _ (Hook.obs $H) (Hook.val $H) (Hook.says $H) _ _ 3818
   (@M.left_boot M.rowP M.seenP M.loosely M.hookX _ (Hook.obs $H) (Hook.val $H) 3818 ?b1 ?b2 ?b3 M.topC M.topA ?hl)
   (Hook.of $H) (Hook.keeps $H) ?h1 XL.keeps (by rfl) (by rfl) (by rfl) ?h5 ?h6 ?h7 ?h8 ?h9 ?hw ?hc
  (case h1=>exact λs e=>xl_of s (Bool.and_eq_true_iff.mp e).1)
  (case h5=>exact λs e=>recFacts_of (Bool.and_eq_true_iff.mp e).2)
  (case h6=>rfl)
  (case h7=>first | assumption | decide +kernel)
  (case h8=>decide +kernel)
  (case h9=>exact ⟨rfl,rfl,rfl,rfl,rfl,by decide +kernel⟩)
  (case b1=>kernel_rfl)
  (case b2=>decide)
  (case b3=>(intro s;kernel_rfl))
  (case hl=>(intro w os;unfold M.topOf;rw [W.Fast.te14082659384304107361,W.Fast.te14364793385576792824];kernel_rfl))))
set_option maxRecDepth 100000 in
set_option maxHeartbeats 0 in
theorem PySem.Challenge.cw_onceways_k82_texts_of_no_wish_holds : PySem.Challenge.rw_onceways_k82_texts_of_no_wish.Holds := by
 w_on;o_law;k_head;(case hw=>w_witness2)
 k_fill
 refine M.walk (l:=PySem.Challenge.rw_onceways_k82_texts_of_no_wish) rfl rfl (λw h Y=>W.km_in_of Y) (by rfl) ?F
 case F=>
  intro w mg fa h KX G hmg
  refine' M.all_mk KX G hmg ?aF1 ?lF1 ?cF1 ?kF1 ?aF2 ?lF2 ?cF2 ?kF2 ?aF3 ?lF3 ?cF3 ?kF3 ?aF4 ?lF4 ?cF4 ?kF4 ?aF5 ?lF5 ?cF5 ?kF5 ?aF6 ?lF6 ?cF6 ?kF6 ?aF7 ?lF7 ?cF7 ?kF7 ?aF8 ?lF8 ?cF8 ?kF8 ?aF9 ?lF9 ?cF9 ?kF9 ?aF10 ?lF10 ?cF10 ?kF10 ?aF11 ?lF11 ?cF11 ?kF11 ?aF12 ?lF12 ?cF12 ?kF12 ?aF13 ?lF13 ?cF13 ?kF13 ?aF14 ?lF14 ?cF14 ?kF14 ?aF15 ?lF15 ?cF15 ?kF15 ?aF16 ?lF16 ?cF16 ?kF16 ?aF17 ?lF17 ?cF17 ?kF17 ?aF18 ?lF18 ?cF18 ?kF18 ?aF19 ?lF19 ?cF19 ?kF19 ?aF20 ?lF20 ?cF20 ?kF20 ?aF21 ?lF21 ?cF21 ?kF21 ?aF22 ?lF22 ?cF22 ?kF22 ?aF23 ?lF23 ?cF23 ?kF23 ?aF24 ?lF24 ?cF24 ?kF24 ?aF25 ?lF25 ?cF25 ?kF25 ?aF26 ?lF26 ?cF26 ?kF26 ?aF27 ?lF27 ?cF27 ?kF27 ?aF28 ?lF28 ?cF28 ?kF28 ?aF29 ?lF29 ?cF29 ?kF29 ?kk ?ka ?kb ?gTx ?gRo ?gNw ?gWy ?exT ?xga ?xnga ?xcl ?xob ?tbe ?wbe ?kcT ?ktT ?tw ?ntw ?tr ?tn ?tv ?gJ ?lJ ?gB ?lB ?gP ?lP ?gR ?lR ?gL ?lL ?gG ?gD ?gFig ?gMoF ?lcT ?v11 ?nTab ?nisinstance ?nint ?nbool ?ntuple ?nstr ?nlen ?nall ?nrange ?nlist ?nmax ?nreversed ?nValueError
  (case aF1=>k_is)
  (case lF1=>k_is)
  (case cF1=>k_is)
  (case kF1=>k_is)
  (case aF2=>k_is)
  (case lF2=>k_is)
  (case cF2=>k_is)
  (case kF2=>k_is)
  (case aF3=>k_is)
  (case lF3=>k_is)
  (case cF3=>k_is)
  (case kF3=>k_is)
  (case aF4=>k_is)
  (case lF4=>k_is)
  (case cF4=>k_is)
  (case kF4=>k_is)
  (case aF5=>k_is)
  (case lF5=>k_is)
  (case cF5=>k_is)
  (case kF5=>k_is)
  (case aF6=>k_is)
  (case lF6=>k_is)
  (case cF6=>k_is)
  (case kF6=>k_is)
  (case aF7=>k_is)
  (case lF7=>k_is)
  (case cF7=>k_is)
  (case kF7=>k_is)
  (case aF8=>k_is)
  (case lF8=>k_is)
  (case cF8=>k_is)
  (case kF8=>k_is)
  (case aF9=>k_is)
  (case lF9=>k_is)
  (case cF9=>k_is)
  (case kF9=>k_is)
  (case aF10=>k_is)
  (case lF10=>k_is)
  (case cF10=>k_is)
  (case kF10=>k_is)
  (case aF11=>k_is)
  (case lF11=>k_is)
  (case cF11=>k_is)
  (case kF11=>k_is)
  (case aF12=>k_is)
  (case lF12=>k_is)
  (case cF12=>k_is)
  (case kF12=>k_is)
  (case aF13=>k_is)
  (case lF13=>k_is)
  (case cF13=>k_is)
  (case kF13=>k_is)
  (case aF14=>k_is)
  (case lF14=>k_is)
  (case cF14=>k_is)
  (case kF14=>k_is)
  (case aF15=>k_is)
  (case lF15=>k_is)
  (case cF15=>k_is)
  (case kF15=>k_is)
  (case aF16=>k_is)
  (case lF16=>k_is)
  (case cF16=>k_is)
  (case kF16=>k_is)
  (case aF17=>k_is)
  (case lF17=>k_is)
  (case cF17=>k_is)
  (case kF17=>k_is)
  (case aF18=>k_is)
  (case lF18=>k_is)
  (case cF18=>k_is)
  (case kF18=>k_is)
  (case aF19=>k_is)
  (case lF19=>k_is)
  (case cF19=>k_is)
  (case kF19=>k_is)
  (case aF20=>k_is)
  (case lF20=>k_is)
  (case cF20=>k_is)
  (case kF20=>k_is)
  (case aF21=>k_is)
  (case lF21=>k_is)
  (case cF21=>k_is)
  (case kF21=>k_is)
  (case aF22=>k_is)
  (case lF22=>k_is)
  (case cF22=>k_is)
  (case kF22=>k_is)
  (case aF23=>k_is)
  (case lF23=>k_is)
  (case cF23=>k_is)
  (case kF23=>k_is)
  (case aF24=>k_is)
  (case lF24=>k_is)
  (case cF24=>k_is)
  (case kF24=>k_is)
  (case aF25=>k_is)
  (case lF25=>k_is)
  (case cF25=>k_is)
  (case kF25=>k_is)
  (case aF26=>k_is)
  (case lF26=>k_is)
  (case cF26=>k_is)
  (case kF26=>k_is)
  (case aF27=>k_is)
  (case lF27=>k_is)
  (case cF27=>k_is)
  (case kF27=>k_is)
  (case aF28=>k_is)
  (case lF28=>k_is)
  (case cF28=>k_is)
  (case kF28=>k_is)
  (case aF29=>k_is)
  (case lF29=>k_is)
  (case cF29=>k_is)
  (case kF29=>k_is)
  (case kk=>(constructor <;> kit_is))
  (case ka=>(constructor <;> kit_is))
  (case kb=>(constructor <;> kit_is))
  (case gTx=>k_is)
  (case gRo=>k_is)
  (case gNw=>k_is)
  (case gWy=>k_is)
  (case exT=>(unfold L2.ExcC;k_exc))
  (case xga=>k_is)
  (case xnga=>k_is)
  (case xcl=>k_is)
  (case xob=>k_is)
  (case tbe=>k_is)
  (case wbe=>k_is)
  (case kcT=>k_is)
  (case ktT=>k_is)
  (case tw=>kit_is)
  (case ntw=>decide)
  (case tr=>kit_is)
  (case tn=>kit_is)
  (case tv=>kit_is)
  (case gJ=>k_is)
  (case lJ=>k_is)
  (case gB=>k_is)
  (case lB=>k_is)
  (case gP=>k_is)
  (case lP=>k_is)
  (case gR=>k_is)
  (case lR=>k_is)
  (case gL=>k_is)
  (case lL=>k_is)
  (case gG=>k_is)
  (case gD=>k_is)
  (case gFig=>k_is)
  (case gMoF=>k_is)
  (case lcT=>k_is)
  (case v11=>exact rfl)
  (case nTab=>kernel_rfl)
  (case nisinstance=>k_is)
  (case nint=>k_is)
  (case nbool=>k_is)
  (case ntuple=>k_is)
  (case nstr=>k_is)
  (case nlen=>k_is)
  (case nall=>k_is)
  (case nrange=>k_is)
  (case nlist=>k_is)
  (case nmax=>k_is)
  (case nreversed=>k_is)
  (case nValueError=>k_is)
#print axioms PySem.Challenge.cw_onceways_k82_texts_of_no_wish_holds
