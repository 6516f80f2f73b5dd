import PyProof.Rows.All
import Wide.All
import OpenK.AllK
import Wide.FinOn
import Lean
import PyProof.EqAt
import PyProof.EqKinds
import PyProof.TupleCall
import PyProof.SumAny
import PySem.Challenge.RW_onceways_k81_wishes_written_and_read
set_option Elab.async false
set_option linter.all false
set_option maxRecDepth 100000
set_option maxHeartbeats 4000000
namespace L2
open PySem PySem.Spec PyProof.Rows
abbrev Key:=Sum Int Str
def Za:Key->Value->Bool
 | .inl k,v=>Value.isInt k v
 | .inr x,v=>Value.isStrOf x v
def Zbx (w:World):Key->Int
 | .inl k=>hashInt k
 | .inr x=>hashStr w x
theorem GH:∀{k:Key}{v:Value},Za k v=true->(∃i t,k=Sum.inl i/\v=Value.int i t)\/(∃x t,k=Sum.inr x/\v=Value.str x t)
 | .inl i,v,h=>by
  obtain ⟨t,e⟩:=Value.isInt_shape (k:=i) (v:=v) h;exact .inl ⟨i,t,rfl,e⟩
 | .inr x,v,h=>by
  obtain ⟨t,e⟩:=Value.isStrOf_shape (x:=x) (v:=v) h;exact .inr ⟨x,t,rfl,e⟩
theorem Zb (a b:Int):decide ((Sum.inl a:Key)=Sum.inl b)=(a == b):=by
 by_cases e:a=b
 ·subst e;simp
 ·have h:¬ (Sum.inl a:Key)=Sum.inl b:=λq=>e (Sum.inl.inj q);rw [decide_eq_false h];exact (beq_eq_false_iff_ne.mpr e).symm
theorem Zc (a b:Str):decide ((Sum.inr a:Key)=Sum.inr b)=decide (a=b):=by
 by_cases e:a=b
 ·subst e;simp
 ·have h:¬ (Sum.inr a:Key)=Sum.inr b:=λq=>e (Sum.inr.inj q);rw [decide_eq_false h,decide_eq_false e]
theorem Zd (a:Int)(b:Str):decide ((Sum.inl a:Key)=Sum.inr b)=false:=decide_eq_false (λq=>nomatch q)
theorem Ze (a:Str)(b:Int):decide ((Sum.inr a:Key)=Sum.inl b)=false:=decide_eq_false (λq=>nomatch q)
def UL (prog:Program)(w:World):PySem.KeyKind prog w Key where
 is:=Za
 hash:=Zbx w
 inj:=λv a b ha hb=>by
  rcases GH ha with ⟨i,t,rfl,rfl⟩ | ⟨x,t,rfl,rfl⟩
  ·rcases GH hb with ⟨j,u,rfl,e⟩ | ⟨y,u,rfl,e⟩
   ·injection e with e1 _;rw [e1]
   ·exact nomatch e
  ·rcases GH hb with ⟨j,u,rfl,e⟩ | ⟨y,u,rfl,e⟩
   ·exact nomatch e
   ·injection e with e1 _;rw [e1]
 byValue:=λk v h=>by
  rcases GH h with ⟨i,t,rfl,rfl⟩ | ⟨x,t,rfl,rfl⟩ <;> rfl
 pyHash:=λhv h=>by
  rcases GH hv with ⟨i,t,rfl,rfl⟩ | ⟨x,t,rfl,rfl⟩
  ·exact wpAny_pyHash_int h
  ·exact wpAny_pyHash_str h
 eqBool:=λhu hv h=>by
  rcases GH hu with ⟨i,t,rfl,rfl⟩ | ⟨x,t,rfl,rfl⟩
  ·rcases GH hv with ⟨j,u,rfl,rfl⟩ | ⟨y,u,rfl,rfl⟩
   ·rw [Zb] at h;exact wpAny_eqBool_int h
   ·rw [Zd] at h;exact SeqAt.EqAt.int_str i t y u _ _ _ _ h
  ·rcases GH hv with ⟨j,u,rfl,rfl⟩ | ⟨y,u,rfl,rfl⟩
   ·rw [Ze] at h;exact SeqAt.EqAt.str_int x t j u _ _ _ _ h
   ·rw [Zc] at h;exact wpAny_eqBool_str h
 «strs»:=λk x t v h=>by
  rcases GH h with ⟨i,u,rfl,e⟩ | ⟨y,u,rfl,e⟩
  ·exact nomatch e
  ·injection e with e1 _
   subst e1;cases v <;> rfl
end L2
namespace L2
open PySem PySem.Spec PyProof.Rows
inductive V where
 | non | bl (b:Bool) | int (i:Int) | str (x:Str) | byt (b:Array UInt8) | flt (b:UInt64) | ref (a:Addr) | ty (n:String)
 deriving DecidableEq
def RelV:V->Value->Prop
 | .non,u=>u=Value.none
 | .bl b,u=>u=Value.bool b
 | .int i,u=>∃t,u=Value.int i t
 | .str x,u=>∃t,u=Value.str x t
 | .byt b,u=>∃t,u=Value.bytes b t
 | .flt b,u=>∃t,u=Value.float b t
 | .ref a,u=>u=Value.ref a
 | .ty n,u=>u=Value.type n
abbrev Vals:List V->List Value->Prop:=Paired RelV
theorem Vals.length {xs:List V}{us:List Value}(r:Vals xs us):xs.length=us.length:=Paired.length r
theorem Vals.get:∀{xs:List V}{us:List Value}{i:Nat}{x:V},Vals xs us->xs[i]?=some x->∃u,us[i]?=some u/\RelV x u
 | _,_,_,_,.nil,e=>by simp at e
 | _,_,0,_,.cons r _,e=>by simp at e;subst e;exact ⟨_,rfl,r⟩
 | _,_,i+1,x,.cons _ t,e=>by
  obtain ⟨u,h1,h2⟩:=Vals.get (i:=i) (x:=x) t (by simpa using e);exact ⟨u,by simpa using h1,h2⟩
theorem Vals.set {x:V}{u:Value}(r:RelV x u):∀{xs:List V}{us:List Value}(i:Nat),Vals xs us->Vals (xs.set i x) (us.set i u)
 | _,_,_,.nil=>.nil
 | _,_,0,.cons _ t=>.cons r t
 | _,_,i+1,.cons q t=>.cons q (Vals.set r i t)
theorem Vals.append:∀{xs ys:List V}{us ws:List Value},Vals xs us->Vals ys ws->Vals (xs++ys) (us++ws)
 | _,_,_,_,.nil,s=>s
 | _,_,_,_,.cons r t,s=>.cons r (Vals.append t s)
theorem Vals.take:∀{xs:List V}{us:List Value}(n:Nat),Vals xs us->Vals (xs.take n) (us.take n)
 | _,_,0,_=>.nil
 | _,_,_+1,.nil=>.nil
 | _,_,n+1,.cons r t=>.cons r (Vals.take n t)
theorem Vals.drop:∀{xs:List V}{us:List Value}(n:Nat),Vals xs us->Vals (xs.drop n) (us.drop n)
 | _,_,0,r=>r
 | _,_,_+1,.nil=>.nil
 | _,_,n+1,.cons _ t=>Vals.drop n t
def Zay:Option V->Option Value->Prop
 | some v,some u=>RelV v u
 | none,none=>True
 | _,_=>False
def KV {κ:Type}:List (κ×V)->List (κ×Value)->Prop:=Paired λ(p:κ×V) (q:κ×Value)=>p.1=q.1/\RelV p.2 q.2
def kV:Key->V
 | .inl i=>.int i
 | .inr x=>.str x
inductive HO where
  | lst (xs:List V)
  | tup (xs:List V)
  | dK (kvs:List (Key×V)) | dT (kvs:List (List Key×V))
  | set (S:Int->Bool) (n:Nat)
  | ins (C dx:Addr) (fs:List (Str×V))
  | own (x:Addr)
  | xd (fs:List (Str×V))
  | met (f x:Addr)
  | rng (lo hi:Int)
  | frz (o:Obj) (u:HO)
  | tbl (ps:Array Value)
  | ext (φ:Heap->Prop)
abbrev Hp:=Addr->Option HO
def upd (H:Hp)(a:Addr)(o:HO):Hp:=λb=>if b=a then some o else H b
theorem Gb {H:Hp}{a:Addr}{o:HO}:upd H a o a=some o:=by unfold upd;rw [if_pos rfl]
theorem Gr {H:Hp}{a b:Addr}{o:HO}(h:b≠a):upd H a o b=H b:=by unfold upd;rw [if_neg h]
theorem Zaz {H:Hp}{a b:Addr}{o u:HO}(h:H a=some o)(h':H b=some u)(d:o≠u):a≠b:=by
 intro e;subst e;rw [h] at h';exact d (Option.some.inj h')
theorem GG {H:Hp}{a b:Addr}{o:HO}(h:H a=some o)(h':H b=none):a≠b:=by
 intro e;subst e;rw [h] at h';cases h'
section
variable (P:Program)(w:World)
def ObjOk (H:Hp)(h:Heap)(a:Addr):HO->Prop
 | .lst xs=>xs.length<=sizeLine/\∃(its:List Value)(n:Nat),Vals xs its/\h.get? a=some { cls:=.type "list", data:=.seq its.toArray n }
 | .tup xs=>xs.length<=sizeLine/\∃its:List Value,Vals xs its/\IsTup h a its.toArray
 | .dK kvs=>kvs.length<=sizeLine/\(a == sysModules)=false/\∃vs,KV kvs vs/\h.DictOf (UL P w) a vs
 | .dT kvs=>kvs.length<=sizeLine/\(a == sysModules)=false/\∃xs:List (List Key×Addr×Value),
   Paired (λ(p:List Key×V) (q:List Key×Addr×Value)=>p.1=q.1/\H q.2.1=some (.tup (p.1.map kV))/\RelV p.2 q.2.2) kvs xs /\
   ∃o es ep,h.get? a=some o/\o.ExactDict/\o.data=.dict es ep/\es.toList=xs.map (entryOfKey (tupleKind (UL P w)))/\(xs.map (·.1)).Nodup
 | .set S n=>h.SetOf (intKind P w) a S n
 | .ins C dx fs=>H dx=some (.own a)/\fs.length<=1000/\dx≠a/\h.get? a=some (W.instObj C dx) /\
   ∃mA,h.Ns1 dx mA/\(∀f,Zay (fs.lookup f) (mA f))/\PySem.Within mA (fs.map (·.1))
 | .own _=>∃o,h.get? a=some o
 | .xd fs=>∃mA,h.Ns1 a mA/\∀f,Zay (fs.lookup f) (mA f)
 | .rng lo hi=>∃t u v,h.get? a=some { cls:=.type "range", data:=.fields #[.int lo t,.int hi u,.int 1 v] }
 | .frz o u=>h.get? a=some o/\ObjOk H h a u
 | .tbl ps=>h.get? a=some { cls:=.none,data:=.fields ps }
 | .met f x=>h.get? a=some (W.methodObj (.ref f) (.ref x))
 | .ext φ=>φ h/\(∃o,h.get? a=some o)/\∀h1 h2:Heap,φ h1->(∀o,h1.get? a=some o->h2.get? a=some o)->φ h2
def HOk (H:Hp)(h:Heap):Prop:=∀a o,H a=some o->ObjOk P w H h a o
end
section
variable {P:Program}{w:World}{H H':Hp}{h h':Heap}{a:Addr}{o:HO}
theorem ObjOk.lt (x:ObjOk P w H h a o):a<h.objs.size:=by
 cases o with
 | lst xs=>obtain ⟨_,_,_,_,e⟩:=x;exact Heap.lt_size e
 | tup xs=>obtain ⟨_,_,_,p⟩:=x;exact p.lt
 | dK kvs=>obtain ⟨_,_,_,_,o,_,_,e,_⟩:=x;exact Heap.lt_size e
 | dT kvs=>obtain ⟨_,_,_,_,o,_,_,e,_⟩:=x;exact Heap.lt_size e
 | set S n=>obtain ⟨o,_,_,_,e,_⟩:=x;exact Heap.lt_size e
 | ins C dx fs=>obtain ⟨_,_,_,e,_⟩:=x;exact Heap.lt_size e
 | own y=>obtain ⟨_,e⟩:=x;exact Heap.lt_size e
 | xd fs=>obtain ⟨_,⟨_,_,_,e,_⟩,_⟩:=x;exact Heap.lt_size e
 | rng lo hi=>obtain ⟨_,_,_,e⟩:=x;exact Heap.lt_size e
 | frz ob u=>obtain ⟨e,_⟩:=x;exact Heap.lt_size e
 | tbl ps=>exact Heap.lt_size (show h.get? a=some _ from x)
 | met f y=>exact Heap.lt_size (show h.get? a=some _ from x)
 | ext φ=>obtain ⟨_,⟨_,e⟩,_⟩:=x;exact Heap.lt_size e
theorem Paired.mapP {α β:Type}{F G:α->β->Prop}:∀{l₁:List α}{l₂:List β},Paired F l₁ l₂->(∀a b,F a b->G a b)->Paired G l₁ l₂
 | _,_,.nil,_=>.nil
 | _,_,.cons r t,f=>.cons (f _ _ r) (Paired.mapP t f)
theorem ObjOk.stay (x:ObjOk P w H h a o)(k:∀b u,(b=a\/H b=some (.own a))->h.get? b=some u->h'.get? b=some u)(ho:∀b,H b=some (.own a)->H' b=some (.own a))(ht:∀b xs,H b=some (.tup xs)->H' b=some (.tup xs)):ObjOk P w H' h' a o:=by
 induction o with
 | lst xs=>obtain ⟨z,its,n,r,e⟩:=x;exact ⟨z,its,n,r,k _ _ (.inl rfl) e⟩
 | tup xs=>obtain ⟨z,its,r,ob,e,c⟩:=x;exact ⟨z,its,r,ob,k _ _ (.inl rfl) e,c⟩
 | dK kvs=>obtain ⟨z,y,vs,r,ob,es,ep,e,c⟩:=x;exact ⟨z,y,vs,r,ob,es,ep,k _ _ (.inl rfl) e,c⟩
 | dT kvs=>
  obtain ⟨z,y,xs,r,ob,es,ep,e,c⟩:=x;exact ⟨z,y,xs,Paired.mapP r λp q z=>⟨z.1,ht _ _ z.2.1,z.2.2⟩,ob,es,ep,k _ _ (.inl rfl) e,c⟩
 | set S n=>obtain ⟨ob,es,ep,t,e,c⟩:=x;exact ⟨ob,es,ep,t,k _ _ (.inl rfl) e,c⟩
 | ins C dx fs=>
  obtain ⟨d,z,ne,e,mA,⟨od,es,ep,e2,c⟩,r⟩:=x;exact ⟨ho _ d,z,ne,k _ _ (.inl rfl) e,mA,⟨od,es,ep,k _ _ (.inr d) e2,c⟩,r⟩
 | own y=>obtain ⟨ob,e⟩:=x;exact ⟨ob,k _ _ (.inl rfl) e⟩
 | xd fs=>obtain ⟨mA,⟨od,es,ep,e,c⟩,r⟩:=x;exact ⟨mA,⟨od,es,ep,k _ _ (.inl rfl) e,c⟩,r⟩
 | rng lo hi=>obtain ⟨t,u,v,e⟩:=x;exact ⟨t,u,v,k _ _ (.inl rfl) e⟩
 | frz ob u ih=>obtain ⟨e,q⟩:=x;exact ⟨k _ _ (.inl rfl) e,ih q⟩
 | tbl ps=>
  have e:h.get? a=some { cls:=.none,data:=.fields ps }:=x;show h'.get? a=some { cls:=.none,data:=.fields ps };exact k a _ (.inl rfl) e
 | met f y=>
  have e:h.get? a=some (W.methodObj (.ref f) (.ref y)):=x;show h'.get? a=some (W.methodObj (.ref f) (.ref y));exact k a _ (.inl rfl) e
 | ext φ=>obtain ⟨p,⟨o,e⟩,st⟩:=x;exact ⟨st _ _ p λo q=>k _ _ (.inl rfl) q,⟨o,k _ _ (.inl rfl) e⟩,st⟩
theorem HOk.lt (x:HOk P w H h)(e:H a=some o):a<h.objs.size:=(x a o e).lt
theorem HOk.fresh (x:HOk P w H h)(e:h.objs.size<=a):H a=none:=by
 cases q:H a with
 | none=>rfl
 | some u=>exact absurd (Nat.lt_of_lt_of_le (x.lt q) e) (Nat.lt_irrefl _)
theorem HOk.kept (x:HOk P w H h)(k:∀b u,h.get? b=some u->h'.get? b=some u):HOk P w H h':=λa o e=>
 (x a o e).stay (λb u _ q=>k b u q) (λ_ q=>q) λ_ _ q=>q
theorem HOk.laid (x:HOk P w H h)(k:∀b u,h.get? b=some u->h'.get? b=some u)(hp:h.objs.size<=a)(new:ObjOk P w (upd H a o) h' a o):HOk P w (upd H a o) h':=λb u e=>by
 have hn:=x.fresh hp;by_cases hb:b=a
 ·subst hb;rw [Gb] at e;cases e;exact new
 ·rw [Gr hb] at e;exact (x b u e).stay (λc v _ q=>k c v q) (λc q=>by rw [Gr (GG q hn)];exact q) λc xs q=>by rw [Gr (GG q hn)];exact q
end
def Rd (H:Hp)(a:Addr)(u:HO):Prop:=H a=some u\/∃o,H a=some (.frz o u)
theorem Rd.ok {P:Program}{w:World}{H:Hp}{h:Heap}{a:Addr}{u:HO}(r:Rd H a u)(x:HOk P w H h):ObjOk P w H h a u:=by
 rcases r with r | ⟨o,r⟩
 ·exact x a u r
 ·obtain ⟨_,q⟩:=x a _ r;exact q
def Mut:Option HO->Prop
 | some (.lst _)=>True
 | some (.dK _)=>True
 | some (.dT _)=>True
 | some (.set _ _)=>True
 | some (.ins _ _ _)=>True
 | some (.ext _)=>True
 | _=>False
section
variable {P:Program}{w:World}{H:Hp}{h h':Heap}{x e:Addr}{o':HO}
theorem HOk.write (ok:HOk P w H h)(mu:Mut (H x))(he:e=x\/H e=some (.own x))(k:∀b u,b≠e->h.get? b=some u->h'.get? b=some u)(heo:∃u,h'.get? e=some u)(new:ObjOk P w (upd H x o') h' x o'):HOk P w (upd H x o') h':=λb u q=>by
 have nown:∀c y,H c=some (.own y)->c≠x:=λc y r z=>by subst z;rw [r] at mu;exact mu
 have ntup:∀c xs,H c=some (.tup xs)->c≠x:=λc xs r z=>by subst z;rw [r] at mu;exact mu
 by_cases hb:b=x
 ·subst hb;rw [Gb] at q;cases q;exact new
 ·rw [Gr hb] at q;by_cases hbe:b=e
  ·have q':H b=some (.own x):=by
    rcases he with z | z
    ·exact absurd (hbe.trans z) hb
    ·rw [hbe];exact z
   rw [q] at q';cases q';obtain ⟨v,hv⟩:=heo;exact ⟨v,by rw [hbe];exact hv⟩
  ·refine (ok b u q).stay (λc v hc r=>k c v ?_ r) (λc r=>by rw [Gr (nown c b r)];exact r) λc xs r=>by rw [Gr (ntup c xs r)];exact r
   rcases hc with rfl | hc
   ·exact hbe
   ·rintro rfl;rcases he with z | z
    ·exact nown c b hc z
    ·rw [hc] at z;cases z;exact hb rfl
end
structure Un (fs ex:List Addr)(H H':Hp)(h h':Heap):Prop where
 keep:∀b o,h.get? b=some o->H b=none->b ∉ fs->b ∉ ex->h'.get? b=some o
 slot:∀b o,h.get? b=some o->H b=none->b∈fs->b ∉ ex->∃sl,h'.get? b=some { o with slots:=sl }
 free:∀b o,h.get? b=some o->H b=none->b ∉ ex->H' b=none
 there:∀b o,h.get? b=some o->b ∉ ex->∃o',h'.get? b=some o'
 tups:∀b xs,H b=some (.tup xs)->H' b=some (.tup xs)
 frzs:∀b o u,H b=some (.frz o u)->H' b=some (.frz o u)
 tbls:∀b ps,H b=some (.tbl ps)->∃more,H' b=some (.tbl (ps++more))
section
variable {fs fs' ex ex':List Addr}{H H1 H2:Hp}{h h1 h2 h':Heap}{a x e:Addr}{o:HO}
theorem Un.any (u:Un fs ex H H1 h h1){b:Addr}{ob:Obj}(q:h.get? b=some ob)(n:H b=none)(hx:b ∉ ex):∃sl,h1.get? b=some { ob with slots:=sl }:=by
 by_cases hb:b∈fs
 ·exact u.slot b ob q n hb hx
 ·exact ⟨ob.slots,u.keep b ob q n hb hx⟩
theorem Un.kept (k:∀b u,h.get? b=some u->h'.get? b=some u):Un fs ex H H h h':=
 ⟨λb ob q _ _ _=>k b ob q,λb ob q _ _ _=>⟨ob.slots,k b ob q⟩,λ_ _ _ n _=>n,λb ob q _=>⟨ob,k b ob q⟩,λ_ _ q=>q,λ_ _ _ q=>q,λ_ ps q=>⟨#[],by rw [q];simp⟩⟩
theorem Un.refl:Un fs ex H H h h:=Un.kept λ_ _ q=>q
theorem Un.laid (k:∀b u,h.get? b=some u->h'.get? b=some u)(hp:h.objs.size<=a)(hn:H a=none):Un fs ex H (upd H a o) h h' where
 keep:=λb u q _ _ _=>k b u q
 slot:=λb u q _ _ _=>⟨u.slots,k b u q⟩
 free:=λb u q n _=>by rw [Gr (Nat.ne_of_lt (Nat.lt_of_lt_of_le (Heap.lt_size q) hp))];exact n
 there:=λb u q _=>⟨u,k b u q⟩
 tups:=λb xs q=>by rw [Gr (GG q hn)];exact q
 frzs:=λb u xs q=>by rw [Gr (GG q hn)];exact q
 tbls:=λb ps q=>⟨#[],by rw [Gr (GG q hn),q];simp⟩
theorem Un.write (mu:Mut (H x))(he:e=x\/H e=some (.own x))(k:∀b u,b≠e->h.get? b=some u->h'.get? b=some u)(heo:∃u,h'.get? e=some u):Un fs ex H (upd H x o) h h':=by
 have hx:∀b,H b=none->b≠x:=λb n z=>by subst z;rw [n] at mu;exact mu
 have hb:∀b,H b=none->b≠e:=λb n z=>by
  subst z;rcases he with r | r
  ·exact hx b n r
  ·rw [n] at r;cases r
 have hm:∀b u,H b=some u->¬ Mut (some u)->b≠x:=λb u q nm z=>by subst z;rw [q] at mu;exact nm mu
 refine ⟨λb u q n _ _=>k b u (hb b n) q,λb u q n _ _=>⟨u.slots,k b u (hb b n) q⟩,λb u q n _=>by rw [Gr (hx b n)];exact n,λb u q _=>?_,
  λb xs q=>by rw [Gr (hm b _ q λz=>z)];exact q,λb u xs q=>by rw [Gr (hm b _ q λz=>z)];exact q,λb ps q=>⟨#[],by rw [Gr (hm b _ q λz=>z),q];simp⟩⟩
 by_cases hbe:b=e
 ·subst hbe;exact heo
 ·exact ⟨u,k b u hbe q⟩
end
def trk (h:Heap)(H:Hp):List Addr:=(List.range h.objs.size).filter λa=>(H a).isSome
def VN (h:Heap)(H:Hp):Heap:=W.hideAll h (trk h H)
theorem VO (h:Heap)(H:Hp):(VN h H).objs.size=h.objs.size:=W.hideAll_size _ _
theorem WT {h:Heap}{H:Hp}{b:Addr}{o:Obj}(e:h.get? b=some o)(n:H b=none):(VN h H).get? b=some o:=
 W.hideAll_get _ e λhm=>by
  have q:(H b).isSome=true:=(List.mem_filter.mp hm).2;rw [n] at q;simp at q
theorem XZ {h:Heap}{H:Hp}{b:Addr}{o:Obj}(e:(VN h H).get? b=some o):h.get? b=some o/\H b=none:=by
 have e':h.get? b=some o:=W.of_hideAll (trk h H) e;refine ⟨e',?_⟩;cases q:H b with
 | none=>rfl
 | some x=>
  have hm:b∈trk h H:=List.mem_filter.mpr ⟨List.mem_range.mpr (Heap.lt_size e'),by simp [q]⟩;have z:(VN h H).get? b=none:=W.hideAll_none (trk h H) hm;rw [z] at e;cases e
end L2
namespace L2
open PySem PySem.Spec PyProof.Rows
structure Mod (K:W.Frag)(mg:Str->Option Value)(base:Heap):Prop where
 kin:K.In base
 glob:base.Ns mainGlobals mg
 blt:∃mb,base.Ns builtinsNs mb/\∀x:Str,x ≠ "__name__" -> mb x=bootBuiltins x
 nolimit:base.NoLimit
structure Cx where
 prog:Program
 w:World
 K:W.Frag
 mg:Str->Option Value
 base:Heap
 A:Around
 N:List Str
 s₀:Shared
 H₀:Hp
 env:Env
 outer:List Env
 stack:List Env
 ex:List Addr
 fn:Str->Bool
 calm:Bool
 pn:List (Addr×Obj)
 xe:Value->Shared->Prop
def frs (l:List Env):List Addr:=l.filterMap (·.frame)
abbrev Cx.fs (X:Cx):List Addr:=frs X.outer
def Vis (sc:Scope)(x:Str):Prop:=sc.names.lookup x=some .local\/sc.names.lookup x=some .cell\/sc.names.lookup x=some .free
def Loc (sc:Scope)(x:Str):Prop:=sc.names.lookup x=some .local\/sc.names.lookup x=some .cell
def Zby (env:Env)(h:Heap)(m:Str->Option Value)(x:Str)(u:Value):Prop:=
 (env.kindOf x=some .local/\m x=some u)\/((env.kindOf x=some .cell\/env.kindOf x=some .free)/\∃c,env.cells.lookup x=some c/\h.IsCell c (some u))
structure Cx.Ok (X:Cx):Prop where
 mod:Mod X.K X.mg X.base
 kind:X.env.scope.kind=.function
 glob:X.env.globals=mainGlobals
 blt:X.env.builtins=builtinsNs
 above:X.s₀.heap.objs.size<=X.env.locals
 inj:∀x y c,X.env.cells.lookup x=some c->X.env.cells.lookup y=some c->x=y
 has:∀x,(X.env.kindOf x=some .cell\/X.env.kindOf x=some .free)->∃c,X.env.cells.lookup x=some c
 cab:∀x c,X.fn x=true->X.env.cells.lookup x=some c->X.s₀.heap.objs.size<=c
 hd:X.calm=true->X.A.handled=none
 frames:X.A.frames=some X.stack
 stk:X.stack=X.outer\/(X.stack=X.env::X.outer/\X.env.frame=some X.env.locals)
 exf:∀b∈X.ex,b≠X.env.locals/\∀x c,X.env.cells.lookup x=some c->c≠b
 bs:∀b o,X.base.get? b=some o->X.s₀.heap.get? b=some o/\X.H₀ b=none
 bsz:X.base.objs.size<=X.s₀.heap.objs.size
 noex:∀b o,X.base.get? b=some o->b ∉ X.ex
 exfs:∀b∈X.ex,b ∉ X.fs
 funs:X.s₀.heap.FunFrames X.base X.outer
 frf:∀b∈X.fs,X.H₀ b=none
structure Inv (X:Cx)(qQ:List (Addr×Obj))(σ:List (Option V))(H:Hp)(s:Shared):Prop where
 ok:X.Ok
 os:s.os=X.s₀.os
 bare:AllBare s.gens
 base:Un X.fs X.ex X.H₀ H X.s₀.heap s.heap
 loc:∃m,s.heap.Ns X.env.locals m/\∀(i:Nat)(x:Str)(v:V),X.N[i]?=some x->σ[i]?=some (some v)->Vis X.env.scope x->∃u,RelV v u/\Zby X.env s.heap m x u
 cell:∀x c,X.env.cells.lookup x=some c->∃v,s.heap.IsCell c v
 free:H X.env.locals=none
 freeC:∀x c,X.env.cells.lookup x=some c->H c=none
 pin:∀p∈X.pn++qQ,s.heap.get? p.1=some p.2/\H p.1=none/\p.1≠X.env.locals/\p.1 ∉ X.fs/\∀v,p.2.data≠.cell v
 hok:HOk X.prog X.w H s.heap
 len:σ.length=X.N.length
section
variable {X:Cx}{qQ:List (Addr×Obj)}{σ:List (Option V)}{H H':Hp}{s:Shared}{h':Heap}
theorem Cx.Ok.nofr (ok:X.Ok){b:Addr}{o:Obj}(e:X.base.get? b=some o):b ∉ X.fs:=λhb=>by
 have:=(ok.funs.mem hb).1;rw [e] at this;cases this
theorem Inv.bs (I:Inv X qQ σ H s):∀b o,X.base.get? b=some o->s.heap.get? b=some o/\H b=none:=λb o e=>
 ⟨I.base.keep b o (I.ok.bs b o e).1 (I.ok.bs b o e).2 (I.ok.nofr e) (I.ok.noex b o e),I.base.free b o (I.ok.bs b o e).1 (I.ok.bs b o e).2 (I.ok.noex b o e)⟩
theorem Inv.bk (I:Inv X qQ σ H s):∀b o,X.base.get? b=some o->s.heap.get? b=some o:=λb o e=>(I.bs b o e).1
theorem Inv.mod (I:Inv X qQ σ H s):Mod X.K X.mg X.base:=I.ok.mod
theorem Inv.kIn (I:Inv X qQ σ H s):X.K.In s.heap:=I.ok.mod.kin.keeps I.bk
theorem Inv.lt (I:Inv X qQ σ H s):X.env.locals<s.heap.objs.size:=let ⟨_,hn,_⟩:=I.loc;hn.lt
theorem Inv.sz (I:Inv X qQ σ H s):X.s₀.heap.objs.size<=s.heap.objs.size:=Nat.le_trans I.ok.above (Nat.le_of_lt I.lt)
theorem Inv.nofs (I:Inv X qQ σ H s){a:Addr}(h:s.heap.objs.size<=a):a ∉ X.fs:=λhb=>by
 obtain ⟨_,o,ho,_⟩:=I.ok.funs.mem hb;exact absurd (Nat.lt_of_lt_of_le (Heap.lt_size ho) (Nat.le_trans I.sz h)) (Nat.lt_irrefl _)
theorem Inv.cne (I:Inv X qQ σ H s):∀x c,X.env.cells.lookup x=some c->c≠X.env.locals:=λx c e z=>by
 obtain ⟨v,o,ho,hd⟩:=I.cell x c e;obtain ⟨m,⟨o',es,ep,ho',hd',_⟩,_⟩:=I.loc;rw [z,ho'] at ho;cases ho;rw [hd'] at hd;cases hd
theorem Inv.funs (I:Inv X qQ σ H s):s.heap.FunFrames X.base X.outer:=by
 have all:∀(l:List Env),(∀b∈frs l,b∈X.fs)->X.s₀.heap.FunFrames X.base l->s.heap.FunFrames X.base l:=by
  intro l
  induction l with
  | nil=>intro _ _;trivial
  | cons env r ih=>
   intro hs hl;obtain ⟨hk,⟨L,o,hf,hn,ho,hd⟩,hr⟩:=hl;have hL:L∈X.fs:=hs L (by unfold frs;rw [List.filterMap_cons,hf];exact List.mem_cons_self);obtain ⟨sl,e⟩:=I.base.slot L o ho (I.ok.frf L hL) hL λz=>I.ok.exfs L z hL;exact ⟨hk,⟨L,_,hf,hn,e,hd⟩,ih (λb hb=>hs b (by unfold frs;rw [List.filterMap_cons,hf];exact List.mem_cons_of_mem _ hb)) hr⟩
 exact all X.outer (λ_ hb=>hb) I.ok.funs
theorem Inv.stack (I:Inv X qQ σ H s):s.heap.FunFrames X.base X.stack:=by
 rcases I.ok.stk with e | ⟨e,hf⟩
 ·rw [e];exact I.funs
 ·rw [e];obtain ⟨m,hn,_⟩:=I.loc;refine .cons (by rw [I.ok.kind];decide) hf hn ?_ I.funs;exact Heap.get?_none_of_le (Nat.le_trans I.ok.bsz I.ok.above)
theorem Inv.stkSub (I:Inv X qQ σ H s):∀b∈frs X.stack,b∈X.env.locals::X.fs:=λb hb=>by
 rcases I.ok.stk with e | ⟨e,hf⟩
 ·rw [e] at hb;exact List.mem_cons_of_mem _ hb
 ·rw [e] at hb;unfold frs at hb;rw [List.filterMap_cons,hf] at hb;exact hb
theorem Inv.stkFree (I:Inv X qQ σ H s):∀b∈frs X.stack,H b=none:=λb hb=>by
 rcases List.mem_cons.mp (I.stkSub b hb) with e | hb
 ·rw [e];exact I.free
 ·obtain ⟨_,o,ho,_⟩:=I.ok.funs.mem hb;exact I.base.free b o ho (I.ok.frf b hb) λz=>I.ok.exfs b z hb
theorem Inv.step {g':Array GenState}{t':Nat}{d':Drawn}{ch:List Addr}(I:Inv X qQ σ H s)(hch:∀b∈ch,(b∈X.ex\/X.s₀.heap.objs.size<=b)/\b≠X.env.locals/\(∀x c,X.env.cells.lookup x=some c->c≠b)/\∀p∈X.pn++qQ,p.1≠b)(keep:∀b o,b≠X.env.locals->b ∉ X.fs->b ∉ ch->s.heap.get? b=some o->H b=none->h'.get? b=some o)(slot:∀b o,b≠X.env.locals->b∈X.fs->b ∉ ch->s.heap.get? b=some o->H b=none->∃sl,h'.get? b=some { o with slots:=sl })(free:∀b o,b ∉ ch->s.heap.get? b=some o->H b=none->H' b=none)(there:∀b o,b ∉ ch->s.heap.get? b=some o->∃o',h'.get? b=some o')(tups:∀b xs,H b=some (.tup xs)->H' b=some (.tup xs))(frzs:∀b o u,H b=some (.frz o u)->H' b=some (.frz o u))(tbls:∀b ps,H b=some (.tbl ps)->∃more,H' b=some (.tbl (ps++more)))(ns:∀m,s.heap.Ns X.env.locals m->h'.Ns X.env.locals m)(hok:HOk X.prog X.w H' h')(hg:AllBare g') :
  Inv X qQ σ H' { s with heap:=h',gens:=g',drawn:=d',toks:=t' }:=by
 have neL:∀b o,X.s₀.heap.get? b=some o->b≠X.env.locals:=λb o e=>Nat.ne_of_lt (Nat.lt_of_lt_of_le (Heap.lt_size e) I.ok.above);have neC:∀b o,X.s₀.heap.get? b=some o->b ∉ X.ex->b ∉ ch:=λb o e hx hb=>by
  rcases (hch b hb).1 with z | z
  ·exact hx z
  ·exact absurd (Nat.lt_of_lt_of_le (Heap.lt_size e) z) (Nat.lt_irrefl _)
 have cellK:∀x c,X.env.cells.lookup x=some c->∀v,s.heap.IsCell c v->h'.IsCell c v:=λx c e v ⟨o,ho,hd⟩=>by
  have nch:c ∉ ch:=λz=>(hch c z).2.2.1 x c e rfl;by_cases hc:c∈X.fs
  ·obtain ⟨sl,q⟩:=slot c o (I.cne x c e) hc nch ho (I.freeC x c e);exact ⟨_,q,hd⟩
  ·exact ⟨o,keep c o (I.cne x c e) hc nch ho (I.freeC x c e),hd⟩
 refine ⟨I.ok,I.os,hg,⟨λb o e n hb hx=>?_,λb o e n hb hx=>?_,λb o e n hx=>?_,λb o e hx=>?_,λb xs e=>tups b xs (I.base.tups b xs e),λb o xs e=>frzs b o xs (I.base.frzs b o xs e),λb ps e=>?_⟩,?_,λx c e=>?_,?_,λx c e=>?_,λp hp=>?_,hok,I.len⟩
 ·exact keep b o (neL b o e) hb (neC b o e hx) (I.base.keep b o e n hb hx) (I.base.free b o e n hx)
 ·obtain ⟨sl,e1⟩:=I.base.slot b o e n hb hx;obtain ⟨sl',e2⟩:=slot b _ (neL b o e) hb (neC b o e hx) e1 (I.base.free b o e n hx);exact ⟨sl',e2⟩
 ·obtain ⟨o',e1⟩:=I.base.there b o e hx;exact free b o' (neC b o e hx) e1 (I.base.free b o e n hx)
 ·obtain ⟨o',e1⟩:=I.base.there b o e hx;exact there b o' (neC b o e hx) e1
 ·obtain ⟨m1,e1⟩:=I.base.tbls b ps e;obtain ⟨m2,e2⟩:=tbls b _ e1;exact ⟨m1++m2,by rw [e2,Array.append_assoc]⟩
 ·obtain ⟨m,hn,hl⟩:=I.loc;refine ⟨m,ns m hn,λi x v e1 e2 e3=>?_⟩;obtain ⟨u,r,l⟩:=hl i x v e1 e2 e3;refine ⟨u,r,?_⟩;rcases l with l | ⟨k,c,e,z⟩
  ·exact .inl l
  ·exact .inr ⟨k,c,e,cellK x c e _ z⟩
 ·obtain ⟨v,z⟩:=I.cell x c e;exact ⟨v,cellK x c e v z⟩
 ·obtain ⟨m,⟨o,_,_,ho,_⟩,_⟩:=I.loc;exact free _ o (λz=>(hch _ z).2.1 rfl) ho I.free
 ·obtain ⟨v,o,ho,hd⟩:=I.cell x c e;exact free c o (λz=>(hch c z).2.2.1 x c e rfl) ho (I.freeC x c e)
 ·obtain ⟨e,n,ne,nf,d⟩:=I.pin p hp;have nch:p.1 ∉ ch:=λz=>(hch p.1 z).2.2.2 p hp rfl;exact ⟨keep p.1 p.2 ne nf nch e n,free p.1 p.2 nch e n,ne,nf,d⟩
theorem Inv.un {t':Nat}(I:Inv X qQ σ H s)(u:Un X.fs [] H H' s.heap h')(hok:HOk X.prog X.w H' h'):Inv X qQ σ H' { s with heap:=h',toks:=t' }:=by
 obtain ⟨m,⟨o,es,ep,ho,r⟩,_⟩:=id I.loc;obtain ⟨sl,hL⟩:=u.any ho I.free (by simp);exact I.step (g':=s.gens) (d':=s.drawn) (ch:=[]) (λ_ z=>nomatch z) (λb o _ hb _ e n=>u.keep b o e n hb (by simp)) (λb o _ hb _ e n=>u.slot b o e n hb (by simp)) (λb o _ e n=>u.free b o e n (by simp)) (λb o _ e=>u.there b o e (by simp)) u.tups u.frzs u.tbls (λm' hm=>by
  obtain ⟨o',es',ep',ho',r'⟩:=hm;rw [ho] at ho';cases ho';exact ⟨_,es',ep',hL,r'⟩) hok I.bare
theorem Inv.call {g':Array GenState}{t':Nat}{d':Drawn}{ch:List Addr}(I:Inv X qQ σ H s)(u:Un (frs X.stack) ch H H' s.heap h')(hok:HOk X.prog X.w H' h')(hg:AllBare g')(hch:∀b∈ch,(b∈X.ex\/X.s₀.heap.objs.size<=b)/\b≠X.env.locals/\(∀x c,X.env.cells.lookup x=some c->c≠b)/\∀p∈X.pn++qQ,p.1≠b) :
  Inv X qQ σ H' { s with heap:=h',gens:=g',drawn:=d',toks:=t' }:=by
 obtain ⟨m,⟨o,es,ep,ho,r⟩,_⟩:=id I.loc;obtain ⟨sl,hL⟩:=u.any ho I.free λz=>(hch _ z).2.1 rfl;exact I.step (ch:=ch) hch (λb o hL hb hc e n=>u.keep b o e n (λz=>(List.mem_cons.mp (I.stkSub b z)).elim hL hb) hc) (λb o _ _ hc e n=>u.any e n hc) (λb o hc e n=>u.free b o e n hc) (λb o hc e=>u.there b o e hc) u.tups u.frzs u.tbls (λm' hm=>by
  obtain ⟨o',es',ep',ho',r'⟩:=hm;rw [ho] at ho';cases ho';exact ⟨_,es',ep',hL,r'⟩) hok hg
theorem Inv.turned {t':Nat}{it:Addr}(I:Inv X qQ σ H s)(k:∀b o,b≠it->s.heap.get? b=some o->h'.get? b=some o)(hn:H it=none)(hL:it≠X.env.locals)(h1:it∈X.ex\/X.s₀.heap.objs.size<=it)(h2:∀x c,X.env.cells.lookup x=some c->c≠it)(h3:∀p∈X.pn++qQ,p.1≠it):Inv X qQ σ H { s with heap:=h',toks:=t' }:=by
 have nit:∀b u,H b=some u->b≠it:=λb u e z=>by rw [z,hn] at e;cases e
 refine I.step (g':=s.gens) (d':=s.drawn) (ch:=[it]) (λb hb=>?_) (λb o _ _ hc e _=>k b o (λz=>hc (by simp [z])) e) (λb o _ _ hc e _=>⟨o.slots,k b o (λz=>hc (by simp [z])) e⟩) (λ_ _ _ _ n=>n)
  (λb o hc e=>⟨o,k b o (λz=>hc (by simp [z])) e⟩) (λ_ _ e=>e) (λ_ _ _ e=>e) (λb ps e=>⟨#[],by rw [e];simp⟩) (λm hm=>?_) (λb u e=>?_) I.bare
 ·have e:b=it:=by simpa using hb
  subst e;exact ⟨h1,hL,h2,h3⟩
 ·obtain ⟨o,es,ep,ho,r⟩:=hm;exact ⟨o,es,ep,k _ o (Ne.symm hL) ho,r⟩
 ·refine (I.hok b u e).stay (λc v hc q=>k c v ?_ q) (λ_ q=>q) λ_ _ q=>q;rcases hc with z | z
  ·rw [z];exact nit b u e
  ·exact nit c _ z
theorem Inv.tok (I:Inv X qQ σ H s)(t:Nat):Inv X qQ σ H { s with toks:=t }:=I.un (h':=s.heap) (t':=t) Un.refl I.hok
theorem Inv.kept {t':Nat}(I:Inv X qQ σ H s)(k:∀b u,s.heap.get? b=some u->h'.get? b=some u):Inv X qQ σ H { s with heap:=h',toks:=t' }:=I.un (Un.kept k) (I.hok.kept k)
theorem Inv.laid {a:Addr}{o:HO}{t':Nat}(I:Inv X qQ σ H s)(k:∀b u,s.heap.get? b=some u->h'.get? b=some u)(hp:s.heap.objs.size<=a)(new:ObjOk X.prog X.w (upd H a o) h' a o) :
  Inv X qQ σ (upd H a o) { s with heap:=h',toks:=t' }:=I.un (Un.laid k hp (I.hok.fresh hp)) (I.hok.laid k hp new)
theorem Inv.write {x e:Addr}{o:HO}{t':Nat}(I:Inv X qQ σ H s)(mu:Mut (H x))(he:e=x\/H e=some (.own x))(k:∀b u,b≠e->s.heap.get? b=some u->h'.get? b=some u)(heo:∃u,h'.get? e=some u)(new:ObjOk X.prog X.w (upd H x o) h' x o):Inv X qQ σ (upd H x o) { s with heap:=h',toks:=t' }:=I.un (Un.write mu he k heo) (I.hok.write mu he k heo new)
theorem Inv.weak {σ':List (Option V)}(I:Inv X qQ σ H s)(hl:σ'.length=σ.length)(w:∀(i:Nat) v,σ'[i]?=some (some v)->σ[i]?=some (some v)):Inv X qQ σ' H s:=
 ⟨I.ok,I.os,I.bare,I.base,let ⟨m,hn,hl'⟩:=I.loc;⟨m,hn,λi x v e1 e2 e3=>hl' i x v e1 (w i v e2) e3⟩,I.cell,I.free,I.freeC,I.pin,I.hok,hl.trans I.len⟩
theorem Inv.pins_of {pins':List (Addr×Obj)}(I:Inv X qQ σ H s)(h:∀p∈pins',s.heap.get? p.1=some p.2/\H p.1=none/\p.1≠X.env.locals/\p.1 ∉ X.fs/\∀v,p.2.data≠.cell v):Inv X pins' σ H s:=
 ⟨I.ok,I.os,I.bare,I.base,I.loc,I.cell,I.free,I.freeC,λp hp=>(List.mem_append.mp hp).elim (λz=>I.pin p (List.mem_append_left _ z)) (h p),I.hok,I.len⟩
theorem U1 {N:List Str}(hN:N.Nodup){i j:Nat}{x:Str}(a:N[i]?=some x)(b:N[j]?=some x):i=j:=by
 obtain ⟨h1,e1⟩:=List.getElem?_eq_some_iff.mp a;obtain ⟨h2,e2⟩:=List.getElem?_eq_some_iff.mp b;exact (List.getElem_inj hN).mp (e1.trans e2.symm)
theorem Uf {M:Model}{A:Around}{E:Value->Shared->Prop}{i:Nat}{x:Str}{v:V}{u:Value}{Q:Unit->Shared->Prop}(I:Inv X qQ σ H s)(hN:X.N.Nodup)(hi:X.N[i]?=some x)(hx:Loc X.env.scope x)(r:RelV v u)(h:∀s',Inv X qQ (σ.set i (some v)) H s'->(∃a,Heap.SameBut a s.heap s'.heap/\(a=X.env.locals\/X.env.cells.lookup x=some a))->Q () s')(hf:X.fn x=true\/X.env.scope.names.lookup x=some .local:=by first | exact .inl rfl | exact .inr rfl | assumption):wpAny M A (storeName X.env x u) Q E s:=by
 obtain ⟨m,hn,hl⟩:=id I.loc;have hcls:(X.env.scope.kind == .class || (X.env.scope.kind == .module && X.env.locals != X.env.globals))=false:=by rw [I.ok.kind];rfl
 have hiσ:i<σ.length:=by rw [I.len];exact (List.getElem?_eq_some_iff.mp hi).1
 have cne:=I.cne;have tracked:∀{a:Addr}{h':Heap},(∃o,s.heap.get? a=some o/\H a=none)->Heap.SameBut a s.heap h'->HOk X.prog X.w H h':=λ{a h'} ha hs b ob e=>by
  obtain ⟨_,_,hfree⟩:=ha;refine (I.hok b ob e).stay (λc w' hc q=>(hs.2 c ?_).trans q) (λ_ q=>q) λ_ _ q=>q;rintro rfl;rcases hc with rfl | hc
  ·rw [hfree] at e;cases e
  ·rw [hfree] at hc;cases hc
 rcases hx with hk | hk
 ·refine wpAny_storeName_local hk hn (λh' hn' hs=>?_) hcls;obtain ⟨oL,_,_,hoL,_⟩:=id hn;refine h _ ⟨I.ok,I.os,I.bare,⟨λb o e n hb hx=>?_,λb o e n hb hx=>?_,I.base.free,λb o e hx=>?_,I.base.tups,I.base.frzs,I.base.tbls⟩,⟨_,hn',λj y v' e1 e2 e3=>?_⟩,λy c e=>?_,I.free,I.freeC,λp hp=>?_,tracked ⟨oL,hoL,I.free⟩ hs,by simpa using I.len⟩ ⟨_,hs,.inl rfl⟩
  ·exact (hs.2 b (Nat.ne_of_lt (Nat.lt_of_lt_of_le (Heap.lt_size e) I.ok.above))).trans (I.base.keep b o e n hb hx)
  ·obtain ⟨sl,e1⟩:=I.base.slot b o e n hb hx;exact ⟨sl,(hs.2 b (Nat.ne_of_lt (Nat.lt_of_lt_of_le (Heap.lt_size e) I.ok.above))).trans e1⟩
  ·obtain ⟨o',e1⟩:=I.base.there b o e hx;exact ⟨o',(hs.2 b (Nat.ne_of_lt (Nat.lt_of_lt_of_le (Heap.lt_size e) I.ok.above))).trans e1⟩
  ·by_cases hj:j=i
   ·subst hj;rw [hi] at e1;cases e1;rw [List.getElem?_set_self hiσ] at e2;cases e2;exact ⟨u,r,.inl ⟨hk,by simp⟩⟩
   ·rw [List.getElem?_set_ne (Ne.symm hj)] at e2;obtain ⟨u',r',q⟩:=hl j y v' e1 e2 e3;refine ⟨u',r',?_⟩;rcases q with ⟨k,e⟩ | ⟨k,c,e,z⟩
    ·refine .inl ⟨k,?_⟩;have:y≠x:=λe=>hj (U1 hN e1 (e▸hi));simp [this,e]
    ·exact .inr ⟨k,c,e,z.sameBut hs (cne y c e)⟩
  ·obtain ⟨w',z⟩:=I.cell y c e;exact ⟨w',z.sameBut hs (cne y c e)⟩
  ·obtain ⟨e,n,ne,nf,d⟩:=I.pin p hp;exact ⟨(hs.2 p.1 ne).trans e,n,ne,nf,d⟩
 ·have hfn:X.fn x=true:=by
   rcases hf with z | z
   ·exact z
   ·rw [z] at hk;cases hk
  obtain ⟨c,hc⟩:=I.ok.has x (.inl hk);obtain ⟨w',z⟩:=I.cell x c hc;refine wpAny_storeName_cell I.ok.kind hk hc z (λh' hc' hs=>?_);obtain ⟨oc,hoc,hocd⟩:=id z;refine h { s with heap:=h' } ⟨I.ok,I.os,I.bare,⟨λb o e n hb hx=>?_,λb o e n hb hx=>?_,I.base.free,λb o e hx=>?_,I.base.tups,I.base.frzs,I.base.tbls⟩,⟨m,hn.sameBut hs (Ne.symm (cne x c hc)),λj y v' e1 e2 e3=>?_⟩,λy c' e=>?_,I.free,I.freeC,λp hp=>?_,tracked ⟨oc,hoc,I.freeC x c hc⟩ hs,by simpa using I.len⟩ ⟨c,hs,.inr hc⟩
  ·exact (hs.2 b (Nat.ne_of_lt (Nat.lt_of_lt_of_le (Heap.lt_size e) (I.ok.cab x c hfn hc)))).trans (I.base.keep b o e n hb hx)
  ·obtain ⟨sl,e1⟩:=I.base.slot b o e n hb hx;exact ⟨sl,(hs.2 b (Nat.ne_of_lt (Nat.lt_of_lt_of_le (Heap.lt_size e) (I.ok.cab x c hfn hc)))).trans e1⟩
  ·obtain ⟨o',e1⟩:=I.base.there b o e hx;exact ⟨o',(hs.2 b (Nat.ne_of_lt (Nat.lt_of_lt_of_le (Heap.lt_size e) (I.ok.cab x c hfn hc)))).trans e1⟩
  ·by_cases hj:j=i
   ·subst hj;rw [hi] at e1;cases e1;rw [List.getElem?_set_self hiσ] at e2;cases e2;exact ⟨u,r,.inr ⟨.inl hk,c,hc,hc'⟩⟩
   ·rw [List.getElem?_set_ne (Ne.symm hj)] at e2;obtain ⟨u',r',q⟩:=hl j y v' e1 e2 e3;refine ⟨u',r',?_⟩;rcases q with q | ⟨k,c',e,z'⟩
    ·exact .inl q
    ·refine .inr ⟨k,c',e,z'.sameBut hs ?_⟩;rintro rfl;exact hj (U1 hN e1 (I.ok.inj _ _ _ e hc▸hi))
  ·by_cases hcc:c'=c
   ·subst hcc;exact ⟨_,hc'⟩
   ·obtain ⟨w2,z2⟩:=I.cell y c' e;exact ⟨w2,z2.sameBut hs hcc⟩
  ·obtain ⟨e,n,ne,nf,d⟩:=I.pin p hp;refine ⟨(hs.2 p.1 ?_).trans e,n,ne,nf,d⟩;intro q;rw [q,hoc] at e;have q':oc=p.2:=Option.some.inj e;exact d w' (by rw [<-q'];exact hocd)
theorem Op {M:Model}{A:Around}{E:Value->Shared->Prop}{i:Nat}{x:Str}{v:V}{u:Value}{Q:Unit->Shared->Prop}(I:Inv X qQ σ H s)(hN:X.N.Nodup)(hi:X.N[i]?=some x)(hx:Loc X.env.scope x)(r:RelV v u)(h:∀s',Inv X qQ (σ.set i (some v)) H s'->Q () s')(hf:X.fn x=true\/X.env.scope.names.lookup x=some .local:=by first | exact .inl rfl | exact .inr rfl | assumption):wpAny M A (storeName X.env x u) Q E s:=
 Uf I hN hi hx r (λs' I' _=>h s' I') hf
theorem Inv.call' {s':Shared}{ch:List Addr}(I:Inv X qQ σ H s)(ho:s'.os=s.os)(u:Un (frs X.stack) ch H H' s.heap s'.heap)(hok:HOk X.prog X.w H' s'.heap)(hg:AllBare s'.gens)(hch:∀b∈ch,(b∈X.ex\/X.s₀.heap.objs.size<=b)/\b≠X.env.locals/\(∀x c,X.env.cells.lookup x=some c->c≠b)/\∀p∈X.pn++qQ,p.1≠b):Inv X qQ σ H' s':=by
 obtain ⟨h',g',d',t',o'⟩:=s';have e:o'=s.os:=ho;subst e;exact I.call (g':=g') (t':=t') (d':=d') u hok hg hch
end
abbrev XK:=Value->Option Addr->Hp->Prop
abbrev St:=List (Option V)
abbrev VK:=V->Hp->Prop
abbrev TE:=St->Hp->VK->Prop
abbrev TT:=St->Hp->(Bool->Hp->Prop)->Prop
abbrev TA:=St->Hp->(List V->Hp->Prop)->Prop
structure U2 where
 nx:St->Hp->Prop
 rt:VK
 bk:St->Hp->Prop:=λ_ _=>False
 ct:St->Hp->Prop:=λ_ _=>False
abbrev TS:=U2->St->Hp->Prop
def EP (X:Cx)(qQ:List (Addr×Obj))(σ:St)(Q:VK)(u:Value)(s':Shared):Prop:=∃v H',Inv X qQ σ H' s'/\RelV v u/\Q v H'
def TP (X:Cx)(qQ:List (Addr×Obj))(σ:St)(Q:Bool->Hp->Prop)(b:Bool)(s':Shared):Prop:=∃H',Inv X qQ σ H' s'/\Q b H'
def AP (X:Cx)(qQ:List (Addr×Obj))(σ:St)(Q:List V->Hp->Prop)(us:List Value)(s':Shared):Prop:=∃vs H',Inv X qQ σ H' s'/\Vals vs us/\Q vs H'
def SP (X:Cx)(qQ:List (Addr×Obj))(D:U2)(f:Flow)(s':Shared):Prop:=
 match f with
 | .next=>∃ σ' H',Inv X qQ σ' H' s'/\D.nx σ' H'
 | .brk=>∃ σ' H',Inv X qQ σ' H' s'/\D.bk σ' H'
 | .cont=>∃ σ' H',Inv X qQ σ' H' s'/\D.ct σ' H'
 | .ret u=>∃v σ' H',Inv X qQ σ' H' s'/\RelV v u/\D.rt v H'
def PE (X:Cx)(e:Expr)(t:TE):Prop:=
 ∀(qQ:List (Addr×Obj))(s:Shared)(σ:St)(H:Hp)(Q:VK),Inv X qQ σ H s->t σ H Q->wpAny (model X.prog X.w) X.A (eval e X.env) (EP X qQ σ Q) X.xe s
def PT (X:Cx)(e:Expr)(t:TT):Prop:=
 ∀(qQ:List (Addr×Obj))(s:Shared)(σ:St)(H:Hp)(Q:Bool->Hp->Prop),Inv X qQ σ H s->t σ H Q->wpAny (model X.prog X.w) X.A (isTrue e X.env (eval e X.env)) (TP X qQ σ Q) X.xe s
def PW (X:Cx)(e:Expr)(t:TT):Prop:=
 ∀(whole:Sem Value)(qQ:List (Addr×Obj))(s:Shared)(σ:St)(H:Hp)(Q:Bool->Hp->Prop),Inv X qQ σ H s->t σ H Q->wpAny (model X.prog X.w) X.A (isTrue e X.env whole) (TP X qQ σ Q) X.xe s
theorem PW.pt {X:Cx}{e:Expr}{t:TT}(h:PW X e t):PT X e t:=h _
def PA (X:Cx)(es:List Expr)(t:TA):Prop:=
 ∀(pos:Pos)(qQ:List (Addr×Obj))(s:Shared)(σ:St)(H:Hp)(Q:List V->Hp->Prop),Inv X qQ σ H s->t σ H Q->wpAny (model X.prog X.w) X.A (spliced (backTo pos (starEach es X.env))) (AP X qQ σ Q) X.xe s
def PS (X:Cx)(st:Stmt)(t:TS):Prop:=
 ∀(qQ:List (Addr×Obj))(s:Shared)(σ:St)(H:Hp)(D:U2),Inv X qQ σ H s->t D σ H->wpAny (model X.prog X.w) X.A (exec st X.env) (SP X qQ D) X.xe s
def PSs (X:Cx)(st:List Stmt)(t:TS):Prop:=
 ∀(qQ:List (Addr×Obj))(s:Shared)(σ:St)(H:Hp)(D:U2),Inv X qQ σ H s->t D σ H->wpAny (model X.prog X.w) X.A (execs st X.env) (SP X qQ D) X.xe s
theorem thn {α:Type}{t:Sem α}{Q Q':α->Shared->Prop}{M:Model}{A:Around}{E:Value->Shared->Prop}{s:Shared}(h:wpAny M A t Q E s)(hQ:∀a s,Q a s->Q' a s):wpAny M A t Q' E s:=wpAny_mono h hQ λ_ _ x=>x
end L2
namespace L2
open PySem PySem.Spec PyProof.Rows
section
variable {X:Cx}
theorem bin {a b:Expr}{ta tb:TE}(ha:PE X a ta)(hb:PE X b tb){qQ:List (Addr×Obj)}{s:Shared}{σ:St}{H:Hp}{R:V->V->Hp->Prop}(I:Inv X qQ σ H s)(h:ta σ H λx H1=>tb σ H1 λy H2=>R x y H2){α:Type}{Q:α->Shared->Prop}{f:Value->Value->Sem α}(hf:∀v u s2 x y H2,Inv X qQ σ H2 s2->RelV x v->RelV y u->R x y H2->wpAny (model X.prog X.w) X.A (f v u) Q X.xe s2) :
  wpAny (model X.prog X.w) X.A (eval a X.env) (λv s₁=>wpAny (model X.prog X.w) X.A (eval b X.env) (λu s₂=>wpAny (model X.prog X.w) X.A (f v u) Q X.xe s₂) X.xe s₁) X.xe s:=by
 refine thn (ha qQ s σ H _ I h) λv s1 ⟨x,H1,I1,r1,q1⟩=>?_;refine thn (hb qQ s1 σ H1 _ I1 q1) λu s2 ⟨y,H2,I2,r2,q2⟩=>?_;exact hf v u s2 x y H2 I2 r1 r2 q2
def VM (i:Nat):TE:=λσ H Q=>∃v,σ[i]?=some (some v)/\Q v H
def tC (v:V):TE:=λ_ H Q=>Q v H
theorem Zf {i:Nat}{x:Str}{pos:Pos}(hN:X.N[i]?=some x)(hv:Vis X.env.scope x)(hd:(x == ("__debug__" : Str))=false:=by decide)(hcd:(x == ("__classdict__" : Str))=false:=by decide):PE X (.Name x pos) (VM i):=by
 intro qQ s σ H Q I h;obtain ⟨v,e,h⟩:=h;obtain ⟨m,hn,hl⟩:=I.loc;obtain ⟨u,r,l⟩:=hl i x v hN e hv;have fin:EP X qQ σ Q u s:=⟨v,H,I,r,h⟩;rcases l with ⟨hk,hm⟩ | ⟨hk,c,hc,qU⟩
 ·exact wpAny_Name (wpAny_loadName_local I.ok.kind hk hn hm fin) hd
 ·rcases hk with hk | hk
  ·exact wpAny_Name (wpAny_loadName_cell I.ok.kind hk hc qU fin) hd
  ·exact wpAny_Name (wpAny_loadName_free I.ok.kind hk hc qU fin hcd) hd
theorem Gc {i j pos}:PE X (.Constant (.int i) j pos) (tC (.int i)):=λ_ _ _ H _ I h=>wpAny_Constant_int ⟨.int i,H,I.tok _,⟨_,rfl⟩,h⟩
theorem OK {b j pos}:PE X (.Constant (.bool b) j pos) (tC (.bl b)):=λ_ _ _ H _ I h=>Constant_bool ⟨.bl b,H,I,rfl,h⟩
theorem ON {j pos}:PE X (.Constant .none j pos) (tC .non):=λ_ _ _ H _ I h=>Constant_none ⟨.non,H,I,rfl,h⟩
theorem Gm {x j pos}:PE X (.Constant (.str x) j pos) (tC (.str x)):=λ_ _ _ H _ I h=>Calls.Constant_str ⟨.str x,H,I.tok _,⟨_,rfl⟩,h⟩
def Gl (X:Cx)(x:Str):Prop:=X.env.kindOf x=some .globalImplicit
theorem OZ {E:Value->Shared->Prop}{qQ:List (Addr×Obj)}{s:Shared}{σ:St}{H:Hp}{x:Str}{u:Value}{pos:Pos}{Q:Value->Shared->Prop}(I:Inv X qQ σ H s)(hg:Gl X x)(hm:X.mg x=some u)(h:Q u s)(hd:(x == ("__debug__" : Str))=false:=by decide):wpAny (model X.prog X.w) X.A (eval (.Name x pos) X.env) Q E s:=
 Calls.Name_function_global I.ok.kind hg (Calls.loadGlobal_global (by rw [I.ok.glob];exact I.mod.glob.keeps I.bk) hm h) hd
theorem Ug {E:Value->Shared->Prop}{qQ:List (Addr×Obj)}{s:Shared}{σ:St}{H:Hp}{x:Str}{u:Value}{pos:Pos}{Q:Value->Shared->Prop}(I:Inv X qQ σ H s)(hg:Gl X x)(hm:X.mg x=none)(hv:bootBuiltins x=some u)(h:Q u s)(hn:x ≠ "__name__" := by decide)(hd:(x == ("__debug__" : Str))=false:=by decide):wpAny (model X.prog X.w) X.A (eval (.Name x pos) X.env) Q E s:=by
 obtain ⟨mb,h1,h2⟩:=I.mod.blt;exact Calls.Name_function_global I.ok.kind hg (Calls.loadGlobal_builtin (by rw [I.ok.glob];exact I.mod.glob.keeps I.bk) hm (by rw [I.ok.blt];exact h1.keeps I.bk) ((h2 x hn).trans hv) h) hd
theorem Ov {x:Str}{v:V}{u:Value}{pos:Pos}(hg:Gl X x)(hm:X.mg x=some u)(r:RelV v u)(hd:(x == ("__debug__" : Str))=false:=by decide):PE X (.Name x pos) (tC v):=
 λ_ _ _ H _ I h=>OZ I hg hm ⟨v,H,I,r,h⟩ hd
theorem X0 {x:Str}{v:V}{u:Value}{pos:Pos}(hg:Gl X x)(hm:X.mg x=none)(hv:bootBuiltins x=some u)(r:RelV v u)(hn:x ≠ "__name__" := by decide)(hd:(x == ("__debug__" : Str))=false:=by decide):PE X (.Name x pos) (tC v):=
 λ_ _ _ H _ I h=>Ug I hg hm hv ⟨v,H,I,r,h⟩ hn hd
variable {a b:Expr}{ta tb:TE}{pos:Pos}
def tB (t:TE):TT:=λσ H Q=>t σ H λx H1=>∃c,x=.bl c/\Q c H1
theorem Jh {e:Expr}{t:TE}(h:PE X e t)(he:∀whole,isTrue e X.env whole=(do let v <- whole;standAt e.pos;holding [v] (truthy v)):=by intro _;rfl):PT X e (tB t):=by
 intro qQ s σ H Q I hw;refine isTrue_plain (thn (h qQ s σ H _ I hw) λv s1 ⟨x,H1,I1,r1,q1⟩=>?_) (he _);obtain ⟨d,rfl,q⟩:=q1;cases r1;exact wpAny_truthy_bool ⟨H1,I1,q⟩
variable {tA tB':TT}{rest:List Expr}
def Zbz (t u:TT):TT:=λσ H Q=>t σ H λc H1=>if c=true then u σ H1 Q else Q false H1
def tOr (t u:TT):TT:=λσ H Q=>t σ H λc H1=>if c=true then Q true H1 else u σ H1 Q
def Zbc (t:TT):TT:=λσ H Q=>t σ H λc H1=>Q (!c) H1
theorem UM (ha:PT X a tA):PW X (.BoolOp .And [a] pos) tA:=by
 intro wh qQ s σ H Q I h;refine isTrue_and (thn (ha qQ s σ H Q I h) λc s1 e=>?_);cases c with
 | true=>exact isTrue_and_nil e
 | false=>exact e
theorem Jy (ha:PT X a tA):PW X (.BoolOp .Or [a] pos) tA:=by
 intro wh qQ s σ H Q I h;refine isTrue_or (thn (ha qQ s σ H Q I h) λc s1 e=>?_);cases c with
 | false=>exact isTrue_or_nil e
 | true=>exact e
theorem VP (ha:PT X a tA)(hb:PW X (.BoolOp .And (b::rest) pos) tB'):PW X (.BoolOp .And (a::b::rest) pos) (Zbz tA tB'):=by
 intro wh qQ s σ H Q I h;refine isTrue_and (thn (ha qQ s σ H _ I h) λc s1 ⟨H1,I1,q1⟩=>?_);cases c with
 | true=>exact hb wh qQ s1 σ H1 Q I1 q1
 | false=>exact ⟨H1,I1,q1⟩
theorem JL (ha:PT X a tA)(hb:PW X (.BoolOp .Or (b::rest) pos) tB'):PW X (.BoolOp .Or (a::b::rest) pos) (tOr tA tB'):=by
 intro wh qQ s σ H Q I h;refine isTrue_or (thn (ha qQ s σ H _ I h) λc s1 ⟨H1,I1,q1⟩=>?_);cases c with
 | true=>exact ⟨H1,I1,q1⟩
 | false=>exact hb wh qQ s1 σ H1 Q I1 q1
theorem Jw (ha:PT X a tA):PT X (.UnaryOp .Not a pos) (Zbc tA):=by
 intro qQ s σ H Q I h;exact isTrue_not (ha qQ s σ H (λc H1=>Q (!c) H1) I h)
def ZaA (ta tb:TE):TE:=λσ H Q=>ta σ H λx H1=>∃c,x=.bl c/\if c=true then tb σ H1 Q else Q (.bl false) H1
def ZbA (ta tb:TE):TE:=λσ H Q=>ta σ H λx H1=>∃c,x=.bl c/\if c=true then Q (.bl true) H1 else tb σ H1 Q
def ZaB (ta:TE):TE:=λσ H Q=>ta σ H λx H1=>∃c,x=.bl c/\Q (.bl (!c)) H1
theorem Uh {op}{t:TE}(h:PE X a t):PE X (.BoolOp op [a] pos) t:=λqQ s σ H Q I hw=>BoolOp_one (h qQ s σ H Q I hw)
theorem Ow (ha:PE X a ta)(hb:PE X (.BoolOp .And (b::rest) pos) tb):PE X (.BoolOp .And (a::b::rest) pos) (ZaA ta tb):=by
 intro qQ s σ H Q I h;refine BoolOp_and (thn (ha qQ s σ H _ I h) λv s1 ⟨x,H1,I1,r1,q1⟩=>?_);obtain ⟨c,rfl,q1⟩:=q1;cases r1;refine wpAny_truthy_bool ?_;cases c with
 | true=>exact hb qQ s1 σ H1 Q I1 q1
 | false=>exact ⟨.bl false,H1,I1,rfl,q1⟩
theorem ZaC (ha:PE X a ta)(hb:PE X (.BoolOp .Or (b::rest) pos) tb):PE X (.BoolOp .Or (a::b::rest) pos) (ZbA ta tb):=by
 intro qQ s σ H Q I h;refine BoolOp_or (thn (ha qQ s σ H _ I h) λv s1 ⟨x,H1,I1,r1,q1⟩=>?_);obtain ⟨c,rfl,q1⟩:=q1;cases r1;refine wpAny_truthy_bool ?_;cases c with
 | false=>exact hb qQ s1 σ H1 Q I1 q1
 | true=>exact ⟨.bl true,H1,I1,rfl,q1⟩
theorem VQ (ha:PE X a ta):PE X (.UnaryOp .Not a pos) (ZaB ta):=by
 intro qQ s σ H Q I h;refine UnaryOp_ (thn (ha qQ s σ H _ I h) λv s1 ⟨x,H1,I1,r1,q1⟩=>?_);obtain ⟨c,rfl,q1⟩:=q1;cases r1;exact not_of (wpAny_truthy_bool ⟨.bl (!c),H1,I1,rfl,q1⟩)
def tIf (t:TT)(ta tb:TE):TE:=λσ H Q=>t σ H λc H1=>if c=true then ta σ H1 Q else tb σ H1 Q
theorem Oq {c:Expr}(hc:PT X c tA)(ha:PE X a ta)(hb:PE X b tb):PE X (.IfExp c a b pos) (tIf tA ta tb):=by
 intro qQ s σ H Q I h;refine wpAny_IfExp (thn (hc qQ s σ H _ I h) λd s1 ⟨H1,I1,q1⟩=>?_);cases d with
 | true=>exact ha qQ s1 σ H1 Q I1 q1
 | false=>exact hb qQ s1 σ H1 Q I1 q1
end
end L2
namespace L2
open PySem PySem.Spec PyProof.Rows
def SqL (K:W.Frag)(H:Hp)(a:Addr)(xs:List V):Prop:=
 Rd H a (.lst xs) \/
  ∃(o:Obj)(its:Array Value)(n:Nat),K.lookup a=some o/\o.cls=.type "list" /\ o.dict=none/\o.data=.seq its n/\its.size<=sizeLine/\Vals xs its.toList
def SqT (K:W.Frag)(H:Hp)(a:Addr)(xs:List V):Prop:=
 Rd H a (.tup xs) \/
  ∃(o:Obj)(its:Array Value)(n:Nat),K.lookup a=some o/\o.cls=.type "tuple" /\ o.data=.seq its n/\its.size<=sizeLine/\Vals xs its.toList
def ZbB:Value->Option V
 | .none=>some .non
 | .bool b=>some (.bl b)
 | .int i _=>some (.int i)
 | .str x _=>some (.str x)
 | .bytes b _=>some (.byt b)
 | .float b _=>some (.flt b)
 | .ref a=>some (.ref a)
 | .type n=>some (.ty n)
 | _=>none
theorem RelV.abs {x:V}{u:Value}(r:RelV x u):ZbB u=some x:=by
 cases x with
 | non=>cases r;rfl
 | bl _=>cases r;rfl
 | int _=>obtain ⟨t,rfl⟩:=r;rfl
 | str _=>obtain ⟨t,rfl⟩:=r;rfl
 | byt _=>obtain ⟨t,rfl⟩:=r;rfl
 | flt _=>obtain ⟨t,rfl⟩:=r;rfl
 | ref _=>cases r;rfl
 | ty _=>cases r;rfl
theorem RelV.inj {x y:V}{u:Value}(r:RelV x u)(q:RelV y u):x=y:=Option.some.inj (r.abs.symm.trans q.abs)
theorem Vals.inj:∀{xs ys:List V}{us:List Value},Vals xs us->Vals ys us->xs=ys
 | _,_,_,.nil,.nil=>rfl
 | _,_,_,.cons r t,.cons r' t'=>by rw [r.inj r',Vals.inj t t']
section
variable {X:Cx}{qQ:List (Addr×Obj)}{σ:St}{H:Hp}{s:Shared}{a:Addr}{xs ys:List V}
theorem SqL.of {K:W.Frag}(h:H a=some (.lst xs)):SqL K H a xs:=.inl (.inl h)
theorem SqT.of {K:W.Frag}(h:H a=some (.tup xs)):SqT K H a xs:=.inl (.inl h)
theorem Inv.list (I:Inv X qQ σ H s)(h:SqL X.K H a xs):∃its:List Value,Vals xs its/\PlainL s.heap a its.toArray/\xs.length<=sizeLine:=by
 rcases h with h | ⟨o,its,n,hk,hc,hd,hs,hz,r⟩
 ·obtain ⟨z,its,n,r,e⟩:=h.ok I.hok;exact ⟨its,r,⟨_,n,e,rfl,rfl,rfl⟩,z⟩
 ·refine ⟨its.toList,r,⟨o,n,I.kIn a o hk,hc,hd,by simpa using hs⟩,?_⟩;have e:=r.length;simp only [Array.length_toList] at e
  lia
theorem Inv.tuple (I:Inv X qQ σ H s)(h:SqT X.K H a xs):∃its:List Value,Vals xs its/\IsTup s.heap a its.toArray/\xs.length<=sizeLine:=by
 rcases h with h | ⟨o,its,n,hk,hc,hs,hz,r⟩
 ·obtain ⟨z,its,r,p⟩:=h.ok I.hok;exact ⟨its,r,p,z⟩
 ·refine ⟨its.toList,r,⟨o,I.kIn a o hk,hc,n,by simpa using hs⟩,?_⟩;have e:=r.length;simp only [Array.length_toList] at e
  lia
theorem Inv.list_inj (I:Inv X qQ σ H s)(h:SqL X.K H a xs)(h':SqL X.K H a ys):xs=ys:=by
 obtain ⟨its,r,⟨o,n,e,_,_,d⟩,_⟩:=I.list h;obtain ⟨its',r',⟨o',n',e',_,_,d'⟩,_⟩:=I.list h';rw [e] at e';cases e';rw [d] at d';injection d' with d1 _
 have:its=its':=by simpa using congrArg Array.toList d1
 subst this;exact r.inj r'
theorem Inv.tuple_inj (I:Inv X qQ σ H s)(h:SqT X.K H a xs)(h':SqT X.K H a ys):xs=ys:=by
 obtain ⟨its,r,⟨o,e,_,n,d⟩,_⟩:=I.tuple h;obtain ⟨its',r',⟨o',e',_,n',d'⟩,_⟩:=I.tuple h';rw [e] at e';cases e';rw [d] at d';injection d' with d1 _
 have:its=its':=by simpa using congrArg Array.toList d1
 subst this;exact r.inj r'
end
abbrev Cx.wish (X:Cx)(E:Value->Shared->Prop):Cx:={ X with xe:=E }
abbrev Cx.nox (X:Cx):Cx:=X.wish λ_ _=>False
theorem Cx.Ok.wish {X:Cx}(ok:X.Ok)(E:Value->Shared->Prop):(X.wish E).Ok:=
 ⟨ok.mod,ok.kind,ok.glob,ok.blt,ok.above,ok.inj,ok.has,ok.cab,ok.hd,ok.frames,ok.stk,ok.exf,ok.bs,ok.bsz,ok.noex,ok.exfs,ok.funs,ok.frf⟩
theorem Cx.Ok.unwish {X:Cx}{E:Value->Shared->Prop}(ok:(X.wish E).Ok):X.Ok:=
 ⟨ok.mod,ok.kind,ok.glob,ok.blt,ok.above,ok.inj,ok.has,ok.cab,ok.hd,ok.frames,ok.stk,ok.exf,ok.bs,ok.bsz,ok.noex,ok.exfs,ok.funs,ok.frf⟩
section
variable {X:Cx}{qQ:List (Addr×Obj)}{σ:St}{H:Hp}{s:Shared}{E:Value->Shared->Prop}
theorem Inv.wish (I:Inv X qQ σ H s)(E:Value->Shared->Prop):Inv (X.wish E) qQ σ H s:=⟨I.ok.wish E,I.os,I.bare,I.base,I.loc,I.cell,I.free,I.freeC,I.pin,I.hok,I.len⟩
theorem Inv.unwish (I:Inv (X.wish E) qQ σ H s):Inv X qQ σ H s:=⟨I.ok.unwish,I.os,I.bare,I.base,I.loc,I.cell,I.free,I.freeC,I.pin,I.hok,I.len⟩
theorem SP.unwish {D:U2}{f:Flow}{s':Shared}(h:SP (X.wish E) qQ D f s'):SP X qQ D f s':=by
 cases f with
 | next=>obtain ⟨σ',H',I,q⟩:=h;exact ⟨σ',H',I.unwish,q⟩
 | brk=>obtain ⟨σ',H',I,q⟩:=h;exact ⟨σ',H',I.unwish,q⟩
 | cont=>obtain ⟨σ',H',I,q⟩:=h;exact ⟨σ',H',I.unwish,q⟩
 | ret u=>obtain ⟨v,σ',H',I,r,q⟩:=h;exact ⟨v,σ',H',I.unwish,r,q⟩
theorem PSs.nox {st:List Stmt}{t:TS}(h:PSs X.nox st t):PSs X st t:=λqQ s σ H D I hw=>
 wpAny_mono (h qQ s σ H D (I.wish _) hw) (λ_ _ q=>q.unwish) λ_ _ z=>False.elim z
end
section
variable {X:Cx}{st:Stmt}{rest:List Stmt}{t u:TS}{e:Expr}{te:TE}{pos:Pos}
def Zg:TS:=λD σ H=>D.nx σ H
def Zav (t u:TS):TS:=λD σ H=>t { D with nx:=u D } σ H
theorem Gy:PSs X [] Zg:=λ_ _ σ H _ I h=>wpAny_execs_nil ⟨σ,H,I,h⟩
theorem Gf (h1:PS X st t)(h2:PSs X rest u):PSs X (st::rest) (Zav t u):=by
 intro qQ s σ H D I h;refine wpAny_execs_cons (thn (h1 qQ s σ H { D with nx:=u D } I h) λf s1 q=>?_);cases f with
 | next=>
  obtain ⟨σ',H',I',q⟩:=q;exact h2 qQ s1 σ' H' D I' q
 | ret v=>exact q
 | brk=>exact q
 | cont=>exact q
theorem Gg (h1:PS X st t):PSs X [st] t:=by
 intro qQ s σ H D I h;refine wpAny_execs_cons (thn (h1 qQ s σ H D I h) λf s1 q=>?_);cases f with
 | next=>exact wpAny_execs_nil q
 | ret v=>exact q
 | brk=>exact q
 | cont=>exact q
theorem Inv.quiet {qQ:List (Addr×Obj)}{σ:St}{H:Hp}{s:Shared}(I:Inv X qQ σ H s):interactive X.env=false:=by simp [interactive,I.ok.kind]
def ZaD (te:TE):TS:=λD σ H=>te σ H λ_ H1=>D.nx σ H1
theorem Jd (he:PE X e te)(hs:swapsWith e none pos.line X.env=pure false:=by rfl):PS X (.Expr e pos) (ZaD te):=by
 intro qQ s σ H D I h;exact wpAny_Expr_any (thn (he qQ s σ H _ I h) λv s1 ⟨x,H1,I1,r1,q1⟩=>⟨σ,H1,I1,q1⟩) I.quiet hs
def ZaE (te:TE):TS:=λD σ H=>te σ H D.rt
theorem Gp (he:PE X e te):PS X (.Return (some e) pos) (ZaE te):=by
 intro qQ s σ H D I h;exact wpAny_Return_some (thn (he qQ s σ H _ I h) λv s1 ⟨x,H1,I1,r1,q1⟩=>⟨x,σ,H1,I1,r1,q1⟩)
def Zbd (c:TT)(t u:TS):TS:=λD σ H=>c σ H λb H1=>if b=true then t D σ H1 else u D σ H1
theorem G3 {c:Expr}{a b:List Stmt}{tc:TT}(hc:PT X c tc)(ha:PSs X a t)(hb:PSs X b u):PS X (.If c a b pos) (Zbd tc t u):=by
 intro qQ s σ H D I h;refine wpAny_If (thn (hc qQ s σ H _ I h) λd s1 ⟨H1,I1,q1⟩=>?_);cases d with
 | true=>exact ha qQ s1 σ H1 D I1 q1
 | false=>exact hb qQ s1 σ H1 D I1 q1
def Zh:TS:=λ_ _ _=>False
theorem VR {sts:List Stmt}:PSs X sts Zh:=λ_ _ _ _ _ _ h=>h.elim
end
abbrev TG:=V->St->Hp->(St->Hp->Prop)->Prop
abbrev TGs:=List V->St->Hp->(St->Hp->Prop)->Prop
def PG (X:Cx)(qZ:Expr)(t:TG):Prop:=
 ∀(qQ:List (Addr×Obj))(s:Shared)(σ:St)(H:Hp)(v:V)(u:Value)(Q:St->Hp->Prop),Inv X qQ σ H s->RelV v u->t v σ H Q ->
  wpAny (model X.prog X.w) X.A (assign qZ X.env u) (λ_ s'=>∃ σ' H',Inv X qQ σ' H' s'/\Q σ' H') X.xe s
def PGs (X:Cx)(ts:List Expr)(t:TGs):Prop:=
 ∀(qQ:List (Addr×Obj))(s:Shared)(σ:St)(H:Hp)(vs:List V)(us:List Value)(Q:St->Hp->Prop),Inv X qQ σ H s->Vals vs us->t vs σ H Q ->
  wpAny (model X.prog X.w) X.A (assignInOrder ((assignEach ts X.env).map (·.2)) us) (λ_ s'=>∃ σ' H',Inv X qQ σ' H' s'/\Q σ' H') X.xe s
abbrev ZaF:=V->V->V->Hp->(Hp->Prop)->Prop
def Zbe (X:Cx)(t:ZaF):Prop:=
 ∀(qQ:List (Addr×Obj))(s:Shared)(σ:St)(H:Hp)(o i v:V)(ov iv u:Value)(Q:Hp->Prop),Inv X qQ σ H s->RelV o ov->RelV i iv->RelV v u->t o i v H Q ->
  wpAny (model X.prog X.w) X.A (setItem ov iv u) (λ_ s'=>∃H',Inv X qQ σ H' s'/\Q H') X.xe s
section
variable {X:Cx}{pos:Pos}
def Jz (i:Nat):TG:=λv σ H Q=>Q (σ.set i (some v)) H
theorem GF {i:Nat}{x:Str}(hN:X.N.Nodup)(hi:X.N[i]?=some x)(hx:Loc X.env.scope x)(hf:X.fn x=true\/X.env.scope.names.lookup x=some .local:=by first | exact .inl rfl | exact .inr rfl | assumption):PG X (.Name x pos) (Jz i):=by
 intro qQ s σ H v u Q I r h;exact wpAny_assign_Name (Op I hN hi hx r (λs' I'=>⟨_,H,I',h⟩) hf)
def ZbC:TGs:=λvs σ H Q=>vs=[]/\Q σ H
def ZaG (t:TG)(u:TGs):TGs:=λvs σ H Q=>∃v r,vs=v::r/\t v σ H λσ' H'=>u r σ' H' Q
theorem VS:PGs X [] ZbC:=by
 intro qQ s σ H vs us Q I r h;obtain ⟨e,h⟩:=h;subst e;cases r;exact assignInOrder_nil ⟨σ,H,I,h⟩
theorem Os {e:Expr}{es:List Expr}{t:TG}{u:TGs}(h1:PG X e t)(h2:PGs X es u)(hs:(assignEach (e::es) X.env).map (·.2)=assign e X.env::(assignEach es X.env).map (·.2):=by rfl):PGs X (e::es) (ZaG t u):=by
 intro qQ s σ H vs us Q I r h;obtain ⟨v,vr,e1,h⟩:=h;subst e1;cases r with
 | cons r rr=>
  rw [hs];refine assignInOrder_cons (thn (h1 qQ s σ H _ _ _ I r h) λ_ s1 ⟨σ1,H1,I1,q1⟩=>?_);exact h2 qQ s1 σ1 H1 _ _ Q I1 rr q1
def Zbf (K:W.Frag)(n:Nat)(t:TGs):TG:=λv σ H Q=>∃a xs,v=.ref a/\SqT K H a xs/\xs.length=n/\t xs σ H Q
theorem Zi {es:List Expr}{k:Nat}{t:TGs}{n:Nat}(hc:X.calm=true)(h:PGs X es t)(hn:(assignEach es X.env).length=n:=by rfl)(hst:(assignEach es X.env).findIdx? (·.1)=none:=by rfl):PG X (.Tuple es k pos) (Zbf X.K n t):=by
 intro qQ s σ H v u Q I r hw;obtain ⟨a,xs,e1,hq,hl,hw⟩:=hw;subst e1;cases r;obtain ⟨its,rv,ht,hz⟩:=I.tuple hq;refine assign_Tuple_tuple (I.ok.hd hc) ht (by simp [hn,<-hl,rv.length]) hst λh' hx=>?_;have I1:Inv X qQ σ H { s with heap:=h' }:=I.kept (t':=s.toks) λb o e=>hx b o (Nat.ne_of_lt (Heap.lt_size e)) e;exact h qQ _ σ H xs _ Q I1 (by simpa using rv) hw
def ZbD (to ti:TE)(t:ZaF):TG:=λv σ H Q=>to σ H λo H1=>ti σ H1 λi H2=>t o i v H2 λH3=>Q σ H3
theorem XH {o i:Expr}{to ti:TE}{t:ZaF}(ho:PE X o to)(hi:PE X i ti)(hs:Zbe X t)(ha:∀v,assign (.Subscript o i pos) X.env v=(do
   let ov <- holding [v] (eval o X.env)
   let iv <- holding [v,ov] (eval i X.env)
   standAt pos
   holding [v,ov,iv] (setItem ov iv v)
   release [v,ov,iv] []):=by intro _;rfl):PG X (.Subscript o i pos) (ZbD to ti t):=by
 intro qQ s σ H v u Q I r h;rw [ha];refine wpAny_bind (wpAny_holding (thn (ho qQ s σ H _ I h) λov s1 ⟨x,H1,I1,r1,q1⟩=>?_));refine wpAny_bind (wpAny_holding (thn (hi qQ s1 σ H1 _ I1 q1) λiv s2 ⟨y,H2,I2,r2,q2⟩=>?_));refine wpAny_bind (wpAny_standAt (wpAny_bind (wpAny_holding (thn (hs qQ s2 σ H2 x y v ov iv u _ I2 r1 r2 r q2) λ_ s3 ⟨H3,I3,q3⟩=>?_))));exact wpAny_release ⟨σ,H3,I3,q3⟩
def Zj (te:TE)(g:TG):TS:=λD σ H=>te σ H λx H1=>g x σ H1 D.nx
theorem VT {tg e:Expr}{te:TE}{g:TG}(he:PE X e te)(hg:PG X tg g)(hs:swapsWithSole [tg] e pos.line X.env=pure false:=by rfl)(hw:swappedStores [tg] e X.env=pure none:=by rfl)(h1:(assignEach [tg] X.env).map (·.2)=[assign tg X.env]:=by rfl):PS X (.Assign [tg] e pos) (Zj te g):=by
 intro qQ s σ H D I h;refine wpAny_Assign_stores (thn (he qQ s σ H _ I h) λv s1 ⟨x,H1,I1,r1,q1⟩=>?_) hs hw;rw [h1];exact thn (hg qQ s1 σ H1 x v _ I1 r1 q1) λ_ s2 q=>q
theorem Gv {i:Nat}{x:Str}{e:Expr}{te:TE}{pos':Pos}(hN:X.N.Nodup)(hi:X.N[i]?=some x)(hx:Loc X.env.scope x)(he:PE X e te)(hs:swapsWith e (some (.Name x pos')) pos.line X.env=pure false:=by rfl)(hf:X.fn x=true\/X.env.scope.names.lookup x=some .local:=by first | exact .inl rfl | exact .inr rfl | assumption) :
  PS X (.Assign [.Name x pos'] e pos) (Zj te (Jz i)):=by
 intro qQ s σ H D I h;refine wpAny_Assign_Name (thn (he qQ s σ H _ I h) λv s1 ⟨y,H1,I1,r1,q1⟩=>?_) hs;exact Op I1 hN hi hx r1 (λs2 I2=>⟨_,H1,I2,q1⟩) hf
def Zk (c:TT)(tb:TS):TS:=λD σ H=>∃W:Nat->St->Hp->Prop,(∃m,W m σ H)/\∀m σ H,W m σ H ->
 c σ H λb H1=>if b=true then ∃N:St->Hp->Prop,(∀ σ' H',N σ' H'->∃m',m'<m/\W m' σ' H')/\tb { D with nx:=N,ct:=N,bk:=D.nx } σ H1 else D.nx σ H1
theorem U3 {c:Expr}{body:List Stmt}{tc:TT}{tb:TS}(hp:PassesOwn (model X.prog X.w) X.A X.env X.xe)(hc:PT X c tc)(hb:PSs X body tb):PS X (.While c body [] pos) (Zk tc tb):=by
 intro qQ s σ H D I h;obtain ⟨W,⟨m0,w0⟩,turn⟩:=h;refine wpAny_While (codeAny_whileLoop (λn s'=>∃ σ' H',Inv X qQ σ' H' s'/\W n σ' H') ?_ m0 ⟨σ,H,I,w0⟩);rintro n s1 ⟨σ1,H1,I1,w1⟩;refine wpAny_passesOwn hp (thn (hc qQ s1 σ1 H1 _ I1 (turn n σ1 H1 w1)) λb s2 ⟨H2,I2,q2⟩=>?_);cases b with
 | true=>
  obtain ⟨N,hN,q2⟩:=q2;rw [if_pos rfl];refine wpAny_passesOwn hp (thn (hb qQ s2 σ1 H2 _ I2 q2) λf s3 q3=>?_);cases f with
  | next=>
   obtain ⟨σ3,H3,I3,n3⟩:=q3;obtain ⟨m',hm,w3⟩:=hN σ3 H3 n3;exact ⟨m',hm,σ3,H3,I3,w3⟩
  | cont=>
   obtain ⟨σ3,H3,I3,n3⟩:=q3;obtain ⟨m',hm,w3⟩:=hN σ3 H3 n3;exact ⟨m',hm,σ3,H3,I3,w3⟩
  | brk=>exact q3
  | ret v=>exact q3
 | false=>
  rw [if_neg Bool.false_ne_true];exact wpAny_execs_nil ⟨σ1,H2,I2,q2⟩
end
structure It where
 go:Nat->Hp->Prop
 yld:Nat->Hp->V->Hp->Prop
 stop:Nat->Hp->Prop
def VU (X:Cx)(qQ:List (Addr×Obj))(H:Hp)(b:Addr):Prop:=
 H b=none/\b≠X.env.locals/\b ∉ X.fs/\(b∈X.ex\/X.s₀.heap.objs.size<=b)/\(∀x c,X.env.cells.lookup x=some c->c≠b)/\∀p∈X.pn++qQ,p.1≠b
theorem Inv.fpOk {X:Cx}{qQ:List (Addr×Obj)}{σ:St}{H H':Hp}{s:Shared}{b:Addr}(I:Inv X qQ σ H s)(hb:s.heap.objs.size<=b)(hn:H' b=none):VU X qQ H' b:=by
 refine ⟨hn,Nat.ne_of_gt (Nat.lt_of_lt_of_le I.lt hb),I.nofs hb,.inr (Nat.le_trans I.sz hb),λx c e z=>?_,λp hp z=>?_⟩
 ·obtain ⟨v,q⟩:=I.cell x c e;exact absurd (Nat.lt_of_lt_of_le q.lt (by rw [z];exact hb)) (Nat.lt_irrefl _)
 ·exact absurd (Nat.lt_of_lt_of_le (Heap.lt_size (I.pin p hp).1) (by rw [z];exact hb)) (Nat.lt_irrefl _)
structure X1 (P:Program)(w:World)(K:W.Frag)(tg:Expr)(J:It)(fp:List Addr)(it:Addr)(tn:Nat->Heap->Prop):Prop where
 mem:it∈fp
 obj:∀i h,tn i h->∀b∈fp,∃o,h.get? b=some o/\∀v,o.data≠.cell v
 keep:∀i h h',tn i h->(∀b∈fp,∀o,h.get? b=some o->h'.get? b=some o)->tn i h'
 item:∀(X:Cx),X.prog=P->X.w=w->X.K=K->X.calm=true->∀(i:Nat)(qQ:List (Addr×Obj))(s:Shared)(σ:St)(H:Hp)(E:Value->Shared->Prop),Inv X qQ σ H s->(∀b∈fp,VU X qQ H b)->tn i s.heap->J.go i H ->
  wpAny (model P w) X.A (pyNext (.ref it)) (λr s1=>∃u,r=some u /\
   wpAny (model P w) X.A (letOwnedTupleGo tg (.ref it) u) (λ_ s2=>∃x H',Inv X qQ σ H' s2/\RelV x u/\J.yld i H x H'/\tn (i+1) s2.heap/\∀b∈fp,H' b=none) E s1) E s
 done:∀(X:Cx),X.prog=P->X.w=w->X.K=K->X.calm=true->∀(i:Nat)(qQ:List (Addr×Obj))(s:Shared)(σ:St)(H:Hp)(E:Value->Shared->Prop),Inv X qQ σ H s->(∀b∈fp,VU X qQ H b)->tn i s.heap->J.stop i H ->
  wpAny (model P w) X.A (pyNext (.ref it)) (λr s1=>r=none/\Inv X qQ σ H s1) E s
 self:∀(A:Around)(i:Nat)(s:Shared)(Q:Value->Shared->Prop)(E:Value->Shared->Prop),tn i s.heap->Q (.ref it) s->wpAny (model P w) A (pyIter (.ref it)) Q E s
abbrev TI:=St->Hp->(It->Hp->Prop)->Prop
def PIE (X:Cx)(qQ:List (Addr×Obj))(σ:St)(tg:Expr)(R:It->Hp->Prop)(itv:Value)(s2:Shared):Prop:=
 ∃(it:Addr)(fp:List Addr)(tn:Nat->Heap->Prop)(J:It)(H':Hp),itv=.ref it/\Inv X qQ σ H' s2/\X1 X.prog X.w X.K tg J fp it tn/\tn 0 s2.heap/\(∀b∈fp,VU X qQ H' b)/\R J H'
def PI (X:Cx)(tg iter:Expr)(wi:TI):Prop:=
 ∀(qQ:List (Addr×Obj))(s:Shared)(σ:St)(H:Hp)(R:It->Hp->Prop),Inv X qQ σ H s->wi σ H R ->
  wpAny (model X.prog X.w) X.A (eval iter X.env) (λv s1=>wpAny (model X.prog X.w) X.A (pyIter v) (PIE X qQ σ tg R) X.xe s1) X.xe s
theorem VV {M:Model}{A:Around}{E:Value->Shared->Prop}{s:Shared}{tg:Expr}{it:Addr}{u:Value}{o:Obj}{n:String}{vs:Array Value}{Q:Unit->Shared->Prop}(ho:s.heap.get? it=some o)(hc:o.cls=.type n)(hd:o.data=.fields vs)(hn:["enumerate", "zip", "dict_itemiterator", "dict_reverseitemiterator", "odict_iterator", "itertools.zip_longest", "itertools.pairwise"].contains n=false)(hQ:Q () s):wpAny M A (letOwnedTupleGo tg (.ref it) u) Q E s:=by
 unfold letOwnedTupleGo;cases tg <;> first
  | exact wpAny_pure hQ
  | (cases u <;> first
    | exact wpAny_pure hQ
    | (refine wpAny_bind (wpAny_load ho ?_)
       rw [hc,hd];show wpAny M A (if (["enumerate", "zip", "dict_itemiterator", "dict_reverseitemiterator", "odict_iterator", "itertools.zip_longest", "itertools.pairwise"].contains n && vs[0]? == some (rawInt _))=true then _ else _) Q E s;rw [if_neg (by intro h;rw [hn,Bool.false_and] at h;cases h)];exact wpAny_pure hQ))
def Itl (K:W.Frag)(a:Addr):It:=
 ⟨λi H=>∃xs x,SqL K H a xs/\xs[i]?=some x,λi H x H'=>H'=H/\∀xs,SqL K H a xs->xs[i]?=some x,λi H=>∃xs,SqL K H a xs/\xs.length<=i⟩
def Itt (K:W.Frag)(a:Addr):It:=
 ⟨λi H=>∃xs x,SqT K H a xs/\xs[i]?=some x,λi H x H'=>H'=H/\∀xs,SqT K H a xs->xs[i]?=some x,λi H=>∃xs,SqT K H a xs/\xs.length<=i⟩
def Itr (lo:Int)(n:Nat):It:=⟨λi _=>i<n,λi H x H'=>H'=H/\x=.int (lo+i),λi _=>n<=i⟩
theorem Ox {P:Program}{w:World}{K:W.Frag}{tg:Expr}(a it:Addr):X1 P w K tg (Itl K a) [it] it (λi h=>h.IsListIter it a i) where
 mem:=by simp
 obj:=λi h st b hb=>by
  have e:b=it:=by simpa using hb
  subst e;obtain ⟨o,e,c,d⟩:=st;exact ⟨o,e,λv z=>by rw [d] at z;cases z⟩
 keep:=λi h h' st k=>st.at λo e=>k it (by simp) o e
 item:=by
  intro X hP hw hK hc i qQ s σ H E I hf st hg;subst hP hw hK;obtain ⟨xs,x,hq,hx⟩:=hg;obtain ⟨its,rv,p,hz⟩:=I.list hq;obtain ⟨u,hu,ru⟩:=rv.get hx;obtain ⟨f0,f1,f2,f3,f4,f5⟩:=hf it (by simp);refine wpAny_pyNext_list_item st p.isList (x:=u) (by simpa using hu) λh' st' sb=>?_;have I1:Inv X qQ σ H { s with heap:=h' }:=I.turned (t':=s.toks) (λb o hb e=>(sb.2 b hb).trans e) f0 f1 f3 f4 f5;obtain ⟨o,e,c,d⟩:=id st';exact ⟨u,rfl,VV (s:={ s with heap:=h' }) e c d (by decide) ⟨x,H,I1,ru,⟨rfl,λys hy=>by rw [I.list_inj hy hq];exact hx⟩,st',λb hb=>(hf b hb).1⟩⟩
 done:=by
  intro X hP hw hK hc i qQ s σ H E I hf st hg;subst hP hw hK;obtain ⟨xs,hq,hx⟩:=hg;obtain ⟨its,rv,p,hz⟩:=I.list hq;obtain ⟨f0,f1,f2,f3,f4,f5⟩:=hf it (by simp);have hl:=rv.length;exact wpAny_pyNext_list_end (I.ok.hd hc) st p.isList (by simp;lia) λh' eb=>⟨rfl,I.turned (t':=s.toks) (λb o hb e=>eb b o hb e) f0 f1 f3 f4 f5⟩
 self:=λ_ _ _ _ _ st h=>wpAny_pyIter_listiter st h
theorem Vs {P:Program}{w:World}{K:W.Frag}{tg:Expr}(a it:Addr):X1 P w K tg (Itt K a) [it] it (λi h=>h.IsTupleIter it a i) where
 mem:=by simp
 obj:=λi h st b hb=>by
  have e:b=it:=by simpa using hb
  subst e;obtain ⟨o,e,c,d⟩:=st;exact ⟨o,e,λv z=>by rw [d] at z;cases z⟩
 keep:=λi h h' st k=>st.at λo e=>k it (by simp) o e
 item:=by
  intro X hP hw hK hc i qQ s σ H E I hf st hg;subst hP hw hK;obtain ⟨xs,x,hq,hx⟩:=hg;obtain ⟨its,rv,p,hz⟩:=I.tuple hq;obtain ⟨u,hu,ru⟩:=rv.get hx;obtain ⟨f0,f1,f2,f3,f4,f5⟩:=hf it (by simp);refine wpAny_pyNext_tuple_item st (show s.heap.IsTuple a its.toArray from p) (x:=u) (by simpa using hu) λh' st' sb=>?_;have I1:Inv X qQ σ H { s with heap:=h' }:=I.turned (t':=s.toks) (λb o hb e=>(sb.2 b hb).trans e) f0 f1 f3 f4 f5;obtain ⟨o,e,c,d⟩:=id st';exact ⟨u,rfl,VV (s:={ s with heap:=h' }) e c d (by decide) ⟨x,H,I1,ru,⟨rfl,λys hy=>by rw [I.tuple_inj hy hq];exact hx⟩,st',λb hb=>(hf b hb).1⟩⟩
 done:=by
  intro X hP hw hK hc i qQ s σ H E I hf st hg;subst hP hw hK;obtain ⟨xs,hq,hx⟩:=hg;obtain ⟨its,rv,p,hz⟩:=I.tuple hq;obtain ⟨f0,f1,f2,f3,f4,f5⟩:=hf it (by simp);have hl:=rv.length;exact wpAny_pyNext_tuple_end (I.ok.hd hc) st (show s.heap.IsTuple a its.toArray from p) (by simp;lia) λh' eb=>⟨rfl,I.turned (t':=s.toks) (λb o hb e=>eb b o hb e) f0 f1 f3 f4 f5⟩
 self:=λ_ _ _ _ _ st h=>wpAny_pyIter_tupleiter st h
theorem Vt {P:Program}{w:World}{K:PySem.W.Frag}{tg:Expr}(it:Addr)(lo:Int)(n:Nat):X1 P w K tg (Itr lo n) [it] it (λi h=>IsRangeIter h it (lo+(i:Nat) * 1) ((n:Int)-(i:Nat)) 1) where
 mem:=by simp
 obj:=λi h st b hb=>by
  have e:b=it:=by simpa using hb
  subst e;exact ⟨_,st,λv z=>by
   have z':Data.fields _=Data.cell v:=z;cases z'⟩
 keep:=λi h h' st k=>k it (by simp) _ st
 item:=by
  intro X hP hw hK hc i qQ s σ H E I hf st hg;subst hP hw hK;obtain ⟨f0,f1,f2,f3,f4,f5⟩:=hf it (by simp);have W:=Walks.range (prog:=X.prog) (w:=X.w) (I.ok.hd hc) it lo 1 n;refine W.item i s _ _ hg st λv h' tk hv st' kk=>?_;obtain ⟨t,rfl⟩:=hv;have I1:Inv X qQ σ H { s with heap:=h',toks:=tk }:=I.turned (λb o hb e=>kk b o (by simpa using hb) e) f0 f1 f3 f4 f5;refine ⟨_,rfl,VV (s:={ s with heap:=h',toks:=tk }) (n := "range_iterator") st' rfl rfl (by decide) ⟨.int (lo+i),H,I1,⟨t,?_⟩,⟨rfl,rfl⟩,st',λb hb=>(hf b hb).1⟩⟩;rw [Int.mul_one]
 done:=by
  intro X hP hw hK hc i qQ s σ H E I hf st hg;subst hP hw hK;obtain ⟨f0,f1,f2,f3,f4,f5⟩:=hf it (by simp);exact wpAny_pyNext_range_end (I.ok.hd hc) st (by have:n<=i:=hg;lia) λh' eb=>⟨rfl,I.turned (t':=s.toks) (λb o hb e=>eb b o hb e) f0 f1 f3 f4 f5⟩
 self:=λ_ _ _ _ _ st h=>wpAny_pyIter_rangeiter st h
end L2
namespace L2
open PySem PySem.Spec PyProof.Rows
section
variable {X:Cx}{tg:Expr}
def WU (K:W.Frag)(tl:TE):TI:=λσ H R=>tl σ H λx H1=>∃a,x=.ref a/\(∃xs,SqL K H1 a xs)/\R (Itl K a) H1
def Zbg (K:W.Frag)(tl:TE):TI:=λσ H R=>tl σ H λx H1=>∃a,x=.ref a/\(∃xs,SqT K H1 a xs)/\R (Itt K a) H1
theorem X2 {l:Expr}{tl:TE}(hl:PE X l tl):PI X tg l (WU X.K tl):=by
 intro qQ s σ H R I h;refine thn (hl qQ s σ H _ I h) λv s1 ⟨x,H1,I1,r1,q1⟩=>?_;obtain ⟨a,e,⟨xs,hq⟩,q⟩:=q1;subst e;cases r1;obtain ⟨its,rv,p,hz⟩:=I1.list hq;refine wpAny_pyIter_list p.isList ?_;refine ⟨s1.heap.objs.size,[s1.heap.objs.size],_,_,H1,rfl,I1.kept (t':=s1.toks) λb o e=>Heap.get?_push_of_some _ e,Ox a _,⟨_,Heap.get?_push_size _ rfl,rfl,rfl⟩,λb hb=>?_,q⟩;have e:b=s1.heap.objs.size:=by simpa using hb
 subst e;exact I1.fpOk (Nat.le_refl _) (I1.hok.fresh (Nat.le_refl _))
theorem Zl {l:Expr}{tl:TE}(hl:PE X l tl):PI X tg l (Zbg X.K tl):=by
 intro qQ s σ H R I h;refine thn (hl qQ s σ H _ I h) λv s1 ⟨x,H1,I1,r1,q1⟩=>?_;obtain ⟨a,e,⟨xs,hq⟩,q⟩:=q1;subst e;cases r1;obtain ⟨its,rv,p,hz⟩:=I1.tuple hq;refine wpAny_pyIter_tuple (show s1.heap.IsTuple a its.toArray from p) ?_;refine ⟨s1.heap.objs.size,[s1.heap.objs.size],_,_,H1,rfl,I1.kept (t':=s1.toks) λb o e=>Heap.get?_push_of_some _ e,Vs a _,⟨_,Heap.get?_push_size _ rfl,rfl,rfl⟩,λb hb=>?_,q⟩;have e:b=s1.heap.objs.size:=by simpa using hb
 subst e;exact I1.fpOk (Nat.le_refl _) (I1.hok.fresh (Nat.le_refl _))
theorem WV {qQ:List (Addr×Obj)}{σ:St}{H:Hp}{s:Shared}{R:It->Hp->Prop}{E:Value->Shared->Prop}{lo hi:Int}{t u v:Tok}{tk:Nat}(I:Inv X qQ σ H s)(h1:-(2 ^ 62)<=lo)(h2:lo<2 ^ 62)(h3:-(2 ^ 62)<=hi)(h4:hi<2 ^ 62)(q:R (Itr lo (hi-lo).toNat) H):wpAny (model X.prog X.w) X.A (pyIter (.ref s.heap.objs.size)) (PIE X qQ σ tg R) E { s with heap:=s.heap.push { cls:=.type "range", data:=.fields #[.int lo t,.int hi u,.int 1 v] },toks:=tk }:=by
 refine wpAny_pyIter_range (IsRange.new ..) (small_one h1 h2 h3 h4) ?_;have I1:Inv X qQ σ H { s with heap:=s.heap.push { cls:=.type "range", data:=.fields #[.int lo t,.int hi u,.int 1 v] },toks:=tk }:=I.kept λb o e=>Heap.get?_push_of_some _ e;refine ⟨(s.heap.push { cls:=.type "range", data:=.fields #[.int lo t,.int hi u,.int 1 v] }).objs.size,[(s.heap.push { cls:=.type "range", data:=.fields #[.int lo t,.int hi u,.int 1 v] }).objs.size],_,_,H,rfl,
  I1.kept (t':=tk) λb o e=>Heap.get?_push_of_some _ e,Vt _ lo (hi-lo).toNat,?_,λb hb=>?_,q⟩
 ·have e1:lo+((0:Nat):Int) * 1=lo:=by simp
  have e2:(((hi-lo).toNat:Nat):Int)-((0:Nat):Int)=Builtin.Range.rangeSize lo hi 1:=by rw [rangeSize_one];split <;> lia
  show IsRangeIter _ _ (lo+((0:Nat):Int) * 1) ((((hi-lo).toNat:Nat):Int)-((0:Nat):Int)) 1;rw [e1,e2];exact Heap.get?_push_size _ rfl
 ·have e:b=(s.heap.push { cls:=.type "range", data:=.fields #[.int lo t,.int hi u,.int 1 v] }).objs.size:=by simpa using hb
  subst e;exact I1.fpOk (Nat.le_refl _) (I1.hok.fresh (Nat.le_refl _))
def ZaH (ta:TA):TI:=λσ H R=>ta σ H λvs H1=>∃j:Int,vs=[.int j]/\-(2 ^ 62)<=j/\j<2 ^ 62/\R (Itr 0 j.toNat) H1
theorem G5 {a:Expr}{ta:TA}{p pos:Pos}(hg:Gl X "range")(hm:X.mg "range" = none)(ha:PA X [a] ta)(hs:starEach [a] X.env=[(false,eval a X.env)]:=by rfl):PI X tg (.Call (.Name "range" p) [a] [] pos) (ZaH ta):=by
 intro qQ s σ H R I h;refine Call_ (Ug I hg hm boot_range (PyProof.Rows.callWith_type1 (thn (ha pos qQ s σ H _ I h) λus s1 ⟨vs,H1,I1,r1,q1⟩=>?_) hs rfl));obtain ⟨j,e,q1,q2,q⟩:=q1;subst e;cases r1 with
 | cons r rr=>
  cases rr;obtain ⟨t,rfl⟩:=r;exact call_range_1 (WV I1 (by lia) (by lia) q1 q2 (by simpa using q))
def Zaw (wi:TI)(g:TG)(tb:TS):TS:=λD σ H=>wi σ H λJ H1=>∃W:Nat->Nat->St->Hp->Prop,(∃m,W 0 m σ H1)/\∀i m σ H,W i m σ H ->
 (J.stop i H/\D.nx σ H)\/(J.go i H/\∃N:St->Hp->Prop,(∀ σ' H',N σ' H'->∃m',m'<m/\W (i+1) m' σ' H')/\∀x H',J.yld i H x H'->g x σ H' λσ2 H2=>tb { D with nx:=N,ct:=N,bk:=D.nx } σ2 H2)
def OO (fp:List Addr)(h:Heap):List (Addr×Obj):=fp.filterMap λb=>(h.get? b).map λo=>(b,o)
theorem Jg {fp:List Addr}{h:Heap}{b:Addr}{o:Obj}(hb:b∈fp)(e:h.get? b=some o):(b,o)∈OO fp h:=List.mem_filterMap.mpr ⟨b,hb,by rw [e];rfl⟩
theorem VW {fp:List Addr}{h:Heap}{p:Addr×Obj}(hp:p∈OO fp h):p.1∈fp/\h.get? p.1=some p.2:=by
 obtain ⟨b,hb,e⟩:=List.mem_filterMap.mp hp;cases q:h.get? b with
 | none=>rw [q] at e;cases e
 | some o=>
  rw [q] at e;have e':(b,o)=p:=Option.some.inj e;subst e';exact ⟨hb,q⟩
theorem Inv.pinned {qQ:List (Addr×Obj)}{σ:St}{H:Hp}{s:Shared}{fp:List Addr}(I:Inv X qQ σ H s)(hf:∀b∈fp,VU X qQ H b)(ho:∀b∈fp,∃o,s.heap.get? b=some o/\∀v,o.data≠.cell v):Inv X (qQ++OO fp s.heap) σ H s:=
 I.pins_of λp hp=>(List.mem_append.mp hp).elim (λz=>I.pin p (List.mem_append_right _ z)) λz=>by
  obtain ⟨hb,e⟩:=VW z;obtain ⟨f0,f1,f2,_⟩:=hf p.1 hb;obtain ⟨o,e',d⟩:=ho p.1 hb;rw [e] at e';cases e';exact ⟨e,f0,f1,f2,d⟩
theorem Inv.unpinned {qQ pl:List (Addr×Obj)}{σ:St}{H:Hp}{s:Shared}(I:Inv X (qQ++pl) σ H s):Inv X qQ σ H s:=I.pins_of λp hp=>I.pin p (List.mem_append_right _ (List.mem_append_left _ hp))
theorem Og {iter:Expr}{body:List Stmt}{wi:TI}{g:TG}{tb:TS}{pos:Pos}(hp:PassesOwn (model X.prog X.w) X.A X.env X.xe)(hc:X.calm=true)(hi:PI X tg iter wi)(hg:PG X tg g)(hb:PSs X body tb)(hs:∀x,foldedSetIterable iter X.env x=pure x:=by intro _;rfl):PS X (.For tg iter body [] pos) (Zaw wi g tb):=by
 intro qQ s σ H D I h;refine wpAny_For (thn (hi qQ s σ H _ I h) λv s1 h1=>thn h1 λitv s2 h2=>?_) hs;obtain ⟨it,fp,tn,J,H2,e,I2,T,st2,f2,W,⟨m0,w0⟩,turn⟩:=h2;subst e;have stat:∀{H':Hp},(∀b∈fp,H' b=none)->∀b∈fp,VU X qQ H' b:=λhn b hb=>⟨hn b hb,(f2 b hb).2⟩;refine codeAny_forLoop_any (λn s'=>∃i σ' H',Inv X qQ σ' H' s'/\tn i s'.heap/\(∀b∈fp,H' b=none)/\W i n σ' H') ?_ m0 ⟨0,σ,H2,I2,st2,λb hb=>(f2 b hb).1,w0⟩;rintro n s3 ⟨i,σ3,H3,I3,st3,fr3,w3⟩;rcases turn i n σ3 H3 w3 with ⟨stop,qn⟩ | ⟨go,N,hN,step⟩
 ·refine wpAny_passesOwn hp (thn (T.done X rfl rfl rfl hc i qQ s3 σ3 H3 X.xe I3 (stat fr3) st3 stop) λr s4 ⟨hr,I4⟩=>?_);subst hr;exact wpAny_execs_nil ⟨σ3,H3,I4,qn⟩
 ·refine wpAny_passesOwn hp (thn (T.item X rfl rfl rfl hc i qQ s3 σ3 H3 X.xe I3 (stat fr3) st3 go) λr s4 ⟨u,hr,h4⟩=>?_);subst hr;refine wpAny_passesOwn hp (thn h4 λ_ s5 ⟨x,H5,I5,r5,y5,st5,fr5⟩=>?_);have I5':=I5.pinned (stat fr5) (T.obj _ _ st5);refine wpAny_passesOwn hp (thn (hg _ s5 σ3 H5 x u _ I5' r5 (step x H5 y5)) λ_ s6 ⟨σ6,H6,I6,q6⟩=>?_);refine wpAny_passesOwn hp (thn (hb _ s6 σ6 H6 _ I6 q6) λf s7 q7=>?_);have again:∀{σ7:St}{H7:Hp},Inv X (qQ++OO fp s5.heap) σ7 H7 s7->N σ7 H7->∃m,m<n/\∃i σ' H',Inv X qQ σ' H' s7/\tn i s7.heap/\(∀b∈fp,H' b=none)/\W i m σ' H':=λ{σ7 H7} I7 n7=>by
   obtain ⟨m',hm,w7⟩:=hN σ7 H7 n7;refine ⟨m',hm,i+1,σ7,H7,I7.unpinned,T.keep _ _ _ st5 λb hb o e=>(I7.pin (b,o) (List.mem_append_right _ (List.mem_append_right _ (Jg hb e)))).1,λb hb=>?_,w7⟩;obtain ⟨o,e,d⟩:=T.obj _ _ st5 b hb;exact (I7.pin (b,o) (List.mem_append_right _ (List.mem_append_right _ (Jg hb e)))).2.1
  cases f with
  | next=>obtain ⟨σ7,H7,I7,n7⟩:=q7;exact again I7 n7
  | cont=>obtain ⟨σ7,H7,I7,n7⟩:=q7;exact again I7 n7
  | brk=>obtain ⟨σ7,H7,I7,q7⟩:=q7;exact ⟨σ7,H7,I7.unpinned,q7⟩
  | ret v=>obtain ⟨x7,σ7,H7,I7,r7,q7⟩:=q7;exact ⟨x7,σ7,H7,I7.unpinned,r7,q7⟩
end
theorem O0 {K:PySem.W.Frag}{a:Addr}{xs:List V}{g:TG}{tb:TS}{D:U2}{σ:St}{H:Hp}(Pv:Nat->St->Hp->Prop)(h0:Pv 0 σ H)(hl:∀i σ H,i<=xs.length->Pv i σ H->SqL K H a xs)(hs:∀i x σ H,xs[i]?=some x->Pv i σ H->g x σ H λσ2 H2=>tb { D with nx:=Pv (i+1),ct:=Pv (i+1),bk:=D.nx } σ2 H2)(hd:∀ σ H,Pv xs.length σ H->D.nx σ H) :
  ∃W:Nat->Nat->St->Hp->Prop,(∃m,W 0 m σ H)/\∀i m σ H,W i m σ H ->
   ((Itl K a).stop i H/\D.nx σ H)\/((Itl K a).go i H/\∃N:St->Hp->Prop,(∀ σ' H',N σ' H'->∃m',m'<m/\W (i+1) m' σ' H')/\∀x H',(Itl K a).yld i H x H'->g x σ H' λσ2 H2=>tb { D with nx:=N,ct:=N,bk:=D.nx } σ2 H2):=by
 refine ⟨λi m σ H=>m=xs.length-i/\i<=xs.length/\Pv i σ H,⟨xs.length,by simp,Nat.zero_le _,h0⟩,?_⟩;rintro i m σ H ⟨rfl,hi,p⟩;have q:=hl i σ H hi p;by_cases hlt:i<xs.length
 ·refine .inr ⟨⟨xs,xs[i],q,by simp [hlt]⟩,Pv (i+1),λσ' H' p'=>⟨xs.length-(i+1),by lia,rfl,hlt,p'⟩,λx H' y=>?_⟩;obtain ⟨e,y⟩:=y;subst e;exact hs i x σ _ (y xs q) p
 ·have e:i=xs.length:=by lia
  subst e;exact .inl ⟨⟨xs,q,Nat.le_refl _⟩,hd σ H p⟩
theorem X3 {K:PySem.W.Frag}{a:Addr}{xs:List V}{g:TG}{tb:TS}{D:U2}{σ:St}{H:Hp}(Pv:Nat->St->Hp->Prop)(h0:Pv 0 σ H)(hl:∀i σ H,i<=xs.length->Pv i σ H->SqT K H a xs)(hs:∀i x σ H,xs[i]?=some x->Pv i σ H->g x σ H λσ2 H2=>tb { D with nx:=Pv (i+1),ct:=Pv (i+1),bk:=D.nx } σ2 H2)(hd:∀ σ H,Pv xs.length σ H->D.nx σ H) :
  ∃W:Nat->Nat->St->Hp->Prop,(∃m,W 0 m σ H)/\∀i m σ H,W i m σ H ->
   ((Itt K a).stop i H/\D.nx σ H)\/((Itt K a).go i H/\∃N:St->Hp->Prop,(∀ σ' H',N σ' H'->∃m',m'<m/\W (i+1) m' σ' H')/\∀x H',(Itt K a).yld i H x H'->g x σ H' λσ2 H2=>tb { D with nx:=N,ct:=N,bk:=D.nx } σ2 H2):=by
 refine ⟨λi m σ H=>m=xs.length-i/\i<=xs.length/\Pv i σ H,⟨xs.length,by simp,Nat.zero_le _,h0⟩,?_⟩;rintro i m σ H ⟨rfl,hi,p⟩;have q:=hl i σ H hi p;by_cases hlt:i<xs.length
 ·refine .inr ⟨⟨xs,xs[i],q,by simp [hlt]⟩,Pv (i+1),λσ' H' p'=>⟨xs.length-(i+1),by lia,rfl,hlt,p'⟩,λx H' y=>?_⟩;obtain ⟨e,y⟩:=y;subst e;exact hs i x σ _ (y xs q) p
 ·have e:i=xs.length:=by lia
  subst e;exact .inl ⟨⟨xs,q,Nat.le_refl _⟩,hd σ H p⟩
theorem JA {lo:Int}{n:Nat}{g:TG}{tb:TS}{D:U2}{σ:St}{H:Hp}(Pv:Nat->St->Hp->Prop)(h0:Pv 0 σ H)(hs:∀i σ H,i<n->Pv i σ H->g (.int (lo+i)) σ H λσ2 H2=>tb { D with nx:=Pv (i+1),ct:=Pv (i+1),bk:=D.nx } σ2 H2)(hd:∀ σ H,Pv n σ H->D.nx σ H) :
  ∃W:Nat->Nat->St->Hp->Prop,(∃m,W 0 m σ H)/\∀i m σ H,W i m σ H ->
   ((Itr lo n).stop i H/\D.nx σ H)\/((Itr lo n).go i H/\∃N:St->Hp->Prop,(∀ σ' H',N σ' H'->∃m',m'<m/\W (i+1) m' σ' H')/\∀x H',(Itr lo n).yld i H x H'->g x σ H' λσ2 H2=>tb { D with nx:=N,ct:=N,bk:=D.nx } σ2 H2):=by
 refine ⟨λi m σ H=>m=n-i/\i<=n/\Pv i σ H,⟨n,by simp,Nat.zero_le _,h0⟩,?_⟩;rintro i m σ H ⟨rfl,hi,p⟩;by_cases hlt:i<n
 ·refine .inr ⟨hlt,Pv (i+1),λσ' H' p'=>⟨n-(i+1),by lia,rfl,hlt,p'⟩,λx H' y=>?_⟩;obtain ⟨e,y⟩:=y;subst e y;exact hs i σ _ hlt p
 ·have e:i=n:=by lia
  subst e;exact .inl ⟨Nat.le_refl _,hd σ H p⟩
end L2
namespace L2
open PySem PySem.Spec PyProof.Rows
abbrev R2:=V->V->Hp->VK->Prop
def OpR (X:Cx)(f:Value->Value->Sem Value)(r:R2):Prop:=
 ∀(qQ:List (Addr×Obj))(s:Shared)(σ:St)(H:Hp)(x y:V)(v u:Value)(Q:VK),Inv X qQ σ H s->RelV x v->RelV y u->r x y H Q ->
  wpAny (model X.prog X.w) X.A (f v u) (EP X qQ σ Q) X.xe s
def UnR (X:Cx)(f:Value->Sem Value)(r:V->Hp->VK->Prop):Prop:=
 ∀(qQ:List (Addr×Obj))(s:Shared)(σ:St)(H:Hp)(x:V)(v:Value)(Q:VK),Inv X qQ σ H s->RelV x v->r x H Q ->
  wpAny (model X.prog X.w) X.A (f v) (EP X qQ σ Q) X.xe s
def JQ (X:Cx)(f:Value)(r:List V->Hp->VK->Prop):Prop:=
 ∀(qQ:List (Addr×Obj))(s:Shared)(σ:St)(H:Hp)(xs:List V)(us:List Value)(Q:VK),Inv X qQ σ H s->Vals xs us->r xs H Q ->
  wpAny (model X.prog X.w) X.A (call f us) (EP X qQ σ Q) X.xe s
def ZbE (X:Cx)(r:V->Hp->(Bool->Hp->Prop)->Prop):Prop:=
 ∀(qQ:List (Addr×Obj))(s:Shared)(σ:St)(H:Hp)(x:V)(v:Value)(Q:Bool->Hp->Prop),Inv X qQ σ H s->RelV x v->r x H Q ->
  wpAny (model X.prog X.w) X.A (truthy v) (TP X qQ σ Q) X.xe s
def tOp (r:R2)(ta tb:TE):TE:=λσ H Q=>ta σ H λx H1=>tb σ H1 λy H2=>r x y H2 Q
def tUn (r:V->Hp->VK->Prop)(ta:TE):TE:=λσ H Q=>ta σ H λx H1=>r x H1 Q
def rI (C:Int->Int->Prop)(g:Int->Int->V):R2:=λx y H Q=>∃i j,x=.int i/\y=.int j/\C i j/\Q (g i j) H
def rI0 (g:Int->Int->V):R2:=λx y H Q=>∃i j,x=.int i/\y=.int j/\Q (g i j) H
def rU (g:Int->V):V->Hp->VK->Prop:=λx H Q=>∃i,x=.int i/\Q (g i) H
section
variable {X:Cx}{a b c:Expr}{ta tb tc:TE}{pos:Pos}
theorem ZaI (ha:PE X a ta)(hb:PE X b tb){qQ:List (Addr×Obj)}{s:Shared}{σ:St}{H:Hp}{R:V->V->Hp->Prop}(I:Inv X qQ σ H s)(h:ta σ H λx H1=>tb σ H1 λy H2=>R x y H2){Q:Value->Shared->Prop}{f:Value->Value->Sem Value}(hf:∀v u s2 x y H2,Inv X qQ σ H2 s2->RelV x v->RelV y u->R x y H2->wpAny (model X.prog X.w) X.A (f v u) Q X.xe s2) :
  wpAny (model X.prog X.w) X.A (eval a X.env) (λv s₁=>wpAny (model X.prog X.w) X.A (eval b X.env) (λu s₂=>wpAny (model X.prog X.w) X.A (f v u) Q X.xe s₂) X.xe s₁) X.xe s:=by
 refine thn (ha qQ s σ H _ I h) λv s1 ⟨x,H1,I1,r1,q1⟩=>?_;refine thn (hb qQ s1 σ H1 _ I1 q1) λu s2 ⟨y,H2,I2,r2,q2⟩=>?_;exact hf v u s2 x y H2 I2 r1 r2 q2
theorem Gk {op:Operator}{r:R2}(ho:OpR X (binaryOp op) r)(ha:PE X a ta)(hb:PE X b tb):PE X (.BinOp a op b pos) (tOp r ta tb):=by
 intro qQ s σ H Q I h;exact wpAny_BinOp (ZaI ha hb I h λv u s2 x y H2 I2 rx ry q=>ho qQ s2 σ H2 x y v u Q I2 rx ry q)
theorem VX {op:UnaryOp}{r:V->Hp->VK->Prop}(ho:UnR X (unaryOp op) r)(ha:PE X a ta):PE X (.UnaryOp op a pos) (tUn r ta):=by
 intro qQ s σ H Q I h;exact UnaryOp_ (thn (ha qQ s σ H _ I h) λv s1 ⟨x,H1,I1,r1,q1⟩=>ho qQ s1 σ H1 x v Q I1 r1 q1)
theorem opI {f:Value->Value->Sem Value}{C:Int->Int->Prop}{g:Int->Int->Int}(rule:∀(i j:Int)(t u:Tok)(s:Shared)(Q:Value->Shared->Prop)(E:Value->Shared->Prop),C i j->Q (.int (g i j) s.toks) { s with toks:=s.toks+1 }->wpAny (model X.prog X.w) X.A (f (.int i t) (.int j u)) Q E s) :
  OpR X f (rI C λi j=>.int (g i j)):=by
 intro qQ s σ H x y v u Q I rx ry h;obtain ⟨i,j,rfl,rfl,hc,q⟩:=h;obtain ⟨t,rfl⟩:=rx;obtain ⟨t',rfl⟩:=ry;exact rule i j t t' s _ _ hc ⟨.int (g i j),H,I.tok _,⟨_,rfl⟩,q⟩
theorem Zbh {f:Value->Value->Sem Value}{g:Int->Int->Int}(rule:∀(i j:Int)(t u:Tok)(s:Shared)(Q:Value->Shared->Prop)(E:Value->Shared->Prop),Q (.int (g i j) s.toks) { s with toks:=s.toks+1 }->wpAny (model X.prog X.w) X.A (f (.int i t) (.int j u)) Q E s) :
  OpR X f (rI0 λi j=>.int (g i j)):=by
 intro qQ s σ H x y v u Q I rx ry h;obtain ⟨i,j,rfl,rfl,q⟩:=h;obtain ⟨t,rfl⟩:=rx;obtain ⟨t',rfl⟩:=ry;exact rule i j t t' s _ _ ⟨.int (g i j),H,I.tok _,⟨_,rfl⟩,q⟩
theorem Zax {f:Value->Value->Sem Value}{g:Int->Int->Bool}(rule:∀(i j:Int)(t u:Tok)(s:Shared)(Q:Value->Shared->Prop)(E:Value->Shared->Prop),Q (.bool (g i j)) s->wpAny (model X.prog X.w) X.A (f (.int i t) (.int j u)) Q E s) :
  OpR X f (rI0 λi j=>.bl (g i j)):=by
 intro qQ s σ H x y v u Q I rx ry h;obtain ⟨i,j,rfl,rfl,q⟩:=h;obtain ⟨t,rfl⟩:=rx;obtain ⟨t',rfl⟩:=ry;exact rule i j t t' s _ _ ⟨.bl (g i j),H,I,rfl,q⟩
def ZbF (i j:Int):Prop:=0<=j/\j<=1000000/\i.natAbs<2 ^ 64
def CMul (i j:Int):Prop:=(-(2 ^ 64)<i/\i<2 ^ 64)\/(-(2 ^ 64)<j/\j<2 ^ 64)
theorem CMul.ok {i j:Int}(h:CMul i j):IntMulOk i j:=by
 rcases h with ⟨h1,h2⟩ | ⟨h1,h2⟩
 ·exact .of_left (intBits_le_64 h1 h2)
 ·exact .of_right (intBits_le_64 h1 h2)
theorem Jf:OpR X (binaryOp .Add) (rI0 λi j=>.int (i+j)):=Zbh λ_ _ _ _ _ _ _ q=>add_int q
theorem XI:OpR X (binaryOp .Sub) (rI0 λi j=>.int (i-j)):=Zbh λ_ _ _ _ _ _ _ q=>sub_int q
theorem Jx:OpR X (binaryOp .Mult) (rI CMul λi j=>.int (i * j)):=opI λ_ _ _ _ _ _ _ hc q=>mul_int q hc.ok
theorem GB:OpR X (binaryOp .Mod) (rI (λ_ j=>0<j) λi j=>.int (i % j)):=opI λi j _ _ _ _ _ hc q=>by
 have h1:(0:Int)<j:=hc;exact mod_int' (by lia) (by rw [Int.fmod_eq_emod_of_nonneg i (by lia)];exact q)
theorem Zm:OpR X (binaryOp .Pow) (rI ZbF λi j=>.int (i ^ j.toNat)):=opI λ_ _ _ _ _ _ _ hc q=>pow_int_small hc.1 hc.2.1 hc.2.2 q
end
def Zbi:V->V->Bool
 | .non,.non=>true | .non,.int _=>true | .int _,.non=>true | .non,.bl _=>true | .bl _,.non=>true | .non,.str _=>true | .str _,.non=>true
 | .int _,.int _=>true | .bl _,.bl _=>true | .str _,.str _=>true | .byt _,.byt _=>true
 | .int _,.str _=>true | .str _,.int _=>true | .bl _,.str _=>true | .str _,.bl _=>true
 | _,_=>false
def rEq:R2:=λx y H Q=>Zbi x y=true/\Q (.bl (decide (x=y))) H
def rNe:R2:=λx y H Q=>Zbi x y=true/\Q (.bl (!decide (x=y))) H
theorem VY {i j:Int}:decide (V.int i=V.int j)=(i == j):=by
 rw [Bool.eq_iff_iff];simp
theorem XJ {i j:Bool}:decide (V.bl i=V.bl j)=(i == j):=by
 rw [Bool.eq_iff_iff];simp
theorem VZ {i j:Str}:decide (V.str i=V.str j)=(i == j):=by
 rw [Bool.eq_iff_iff];simp
theorem V0 {i j:Array UInt8}:decide (V.byt i=V.byt j)=(i.toList == j.toList):=by
 rw [Bool.eq_iff_iff];cases i;cases j;simp
section
variable {X:Cx}{a b c:Expr}{ta tb tc:TE}{pos:Pos}
theorem GD {qQ:List (Addr×Obj)}{σ:St}{H:Hp}{s:Shared}{Q:VK}{k k':Bool}(I:Inv X qQ σ H s)(q:Q (.bl k) H)(e:k=k'):EP X qQ σ Q (.bool k') s:=by
 subst e;exact ⟨.bl k,H,I,rfl,q⟩
theorem JM:OpR X (compareOp .Eq) rEq:=by
 intro qQ s σ H x y v u Q I rx ry h;obtain ⟨hs,q⟩:=h;cases x with
 | non=>
  cases rx;cases y with
  | non=>cases ry;exact PySem.EqNone.eq_none_none (GD I q (by simp))
  | bl j=>cases ry;exact PySem.EqNone.eq_none_bool (GD I q (by simp))
  | int j=>obtain ⟨t',rfl⟩:=ry;exact PySem.EqNone.eq_none_int (GD I q (by simp))
  | str j=>obtain ⟨t',rfl⟩:=ry;exact PySem.EqNone.eq_none_str (GD I q (by simp))
  | _=>exact absurd (show false=true from hs) Bool.false_ne_true
 | bl i=>
  cases rx;cases y with
  | non=>cases ry;exact PySem.EqNone.eq_bool_none (GD I q (by simp))
  | bl j=>cases ry;exact eq_bool (GD I q XJ)
  | str j=>obtain ⟨t',rfl⟩:=ry;exact PySem.EqMixed.eq_bool_str (GD I q (by simp))
  | _=>exact absurd (show false=true from hs) Bool.false_ne_true
 | int i=>
  obtain ⟨t,rfl⟩:=rx;cases y with
  | non=>cases ry;exact PySem.EqNone.eq_int_none (GD I q (by simp))
  | int j=>obtain ⟨t',rfl⟩:=ry;exact eq_int (GD I q VY)
  | str j=>obtain ⟨t',rfl⟩:=ry;exact PySem.EqMixed.eq_int_str (GD I q (by simp))
  | _=>exact absurd (show false=true from hs) Bool.false_ne_true
 | str i=>
  obtain ⟨t,rfl⟩:=rx;cases y with
  | non=>cases ry;exact PySem.EqNone.eq_str_none (GD I q (by simp))
  | bl j=>cases ry;exact PySem.EqMixed.eq_str_bool (GD I q (by simp))
  | int j=>obtain ⟨t',rfl⟩:=ry;exact PySem.EqMixed.eq_str_int (GD I q (by simp))
  | str j=>obtain ⟨t',rfl⟩:=ry;exact eq_str (GD I q VZ)
  | _=>exact absurd (show false=true from hs) Bool.false_ne_true
 | byt i=>
  obtain ⟨t,rfl⟩:=rx;cases y with
  | byt j=>obtain ⟨t',rfl⟩:=ry;exact W.eq_bytes (GD I q V0)
  | _=>exact absurd (show false=true from hs) Bool.false_ne_true
 | _=>cases y <;> exact absurd (show false=true from hs) Bool.false_ne_true
theorem Oy:OpR X (compareOp .NotEq) rNe:=by
 intro qQ s σ H x y v u Q I rx ry h;obtain ⟨hs,q⟩:=h;cases x with
 | non=>
  cases rx;cases y with
  | non=>cases ry;exact PySem.EqNone.ne_none_none (GD I q (by simp))
  | bl j=>cases ry;exact PySem.EqNone.ne_none_bool (GD I q (by simp))
  | int j=>obtain ⟨t',rfl⟩:=ry;exact PySem.EqNone.ne_none_int (GD I q (by simp))
  | str j=>obtain ⟨t',rfl⟩:=ry;exact PySem.EqNone.ne_none_str (GD I q (by simp))
  | _=>exact absurd (show false=true from hs) Bool.false_ne_true
 | bl i=>
  cases rx;cases y with
  | non=>cases ry;exact PySem.EqNone.ne_bool_none (GD I q (by simp))
  | bl j=>cases ry;exact ne_bool (GD I q (congrArg not XJ))
  | str j=>obtain ⟨t',rfl⟩:=ry;exact PySem.EqMixed.ne_bool_str (GD I q (by simp))
  | _=>exact absurd (show false=true from hs) Bool.false_ne_true
 | int i=>
  obtain ⟨t,rfl⟩:=rx;cases y with
  | non=>cases ry;exact PySem.EqNone.ne_int_none (GD I q (by simp))
  | int j=>obtain ⟨t',rfl⟩:=ry;exact ne_int (GD I q (congrArg not VY))
  | str j=>obtain ⟨t',rfl⟩:=ry;exact PySem.EqMixed.ne_int_str (GD I q (by simp))
  | _=>exact absurd (show false=true from hs) Bool.false_ne_true
 | str i=>
  obtain ⟨t,rfl⟩:=rx;cases y with
  | non=>cases ry;exact PySem.EqNone.ne_str_none (GD I q (by simp))
  | bl j=>cases ry;exact PySem.EqMixed.ne_str_bool (GD I q (by simp))
  | int j=>obtain ⟨t',rfl⟩:=ry;exact PySem.EqMixed.ne_str_int (GD I q (by simp))
  | str j=>obtain ⟨t',rfl⟩:=ry;exact ne_str (GD I q (congrArg not VZ))
  | _=>exact absurd (show false=true from hs) Bool.false_ne_true
 | byt i=>
  obtain ⟨t,rfl⟩:=rx;cases y with
  | byt j=>obtain ⟨t',rfl⟩:=ry;exact W.ne_bytes (GD I q (congrArg not V0))
  | _=>exact absurd (show false=true from hs) Bool.false_ne_true
 | _=>cases y <;> exact absurd (show false=true from hs) Bool.false_ne_true
theorem X4:OpR X (compareOp .Lt) (rI0 λi j=>.bl (decide (i<j))):=Zax λ_ _ _ _ _ _ _ q=>lt_int q
theorem X5:OpR X (compareOp .LtE) (rI0 λi j=>.bl (decide (i<=j))):=Zax λ_ _ _ _ _ _ _ q=>le_int q
theorem Zn:OpR X (compareOp .Gt) (rI0 λi j=>.bl (decide (j<i))):=Zax λ_ _ _ _ _ _ _ q=>gt_int q
theorem ZaJ:OpR X (compareOp .GtE) (rI0 λi j=>.bl (decide (j<=i))):=Zax λ_ _ _ _ _ _ _ q=>ge_int q
theorem Gw (b:Expr){op:CmpOp}(h:op≠.In:=by decide)(h2:op≠.NotIn:=by decide):behindInMarks op b=false:=by
 have e1:(op == CmpOp.In)=false:=by cases op <;> first | rfl | exact absurd rfl h
 have e2:(op == CmpOp.NotIn)=false:=by cases op <;> first | rfl | exact absurd rfl h2
 cases b <;> simp [behindInMarks,e1,e2]
theorem J9 {op:CmpOp}{r:R2}(ho:OpR X (compareOp op) r)(ha:PE X a ta)(hb:PE X b tb)(hm:behindInMarks op b=false):PE X (.Compare a [op] [b] pos) (tOp r ta tb):=by
 intro qQ s σ H Q I h;exact wpAny_Compare1 (ZaI ha hb I h λv u s2 x y H2 I2 rx ry q=>ho qQ s2 σ H2 x y v u Q I2 rx ry q) hm
def Zo (t:TE):TT:=λσ H Q=>t σ H λx H'=>∃k,x=.bl k/\Q k H'
theorem Gj {op:CmpOp}{r:R2}(ho:OpR X (compareOp op) r)(ha:PE X a ta)(hb:PE X b tb)(hm:behindInMarks op b=false):PT X (.Compare a [op] [b] pos) (Zo (tOp r ta tb)):=by
 intro qQ s σ H Q I h;refine wpAny_isTrue_Compare1 (thn (ha qQ s σ H _ I h) λv s1 ⟨x,H1,I1,r1,q1⟩=>thn (hb qQ s1 σ H1 _ I1 q1) λu s2 ⟨y,H2,I2,r2,q2⟩=>
  thn (ho qQ s2 σ H2 x y v u _ I2 r1 r2 q2) λc s3 ⟨z,H3,I3,r3,k,e,q3⟩=>?_) hm
 subst e;cases r3;exact wpAny_truthy_bool ⟨H3,I3,q3⟩
def XL (r r':R2)(ta tb tc:TE):TE:=λσ H Q=>ta σ H λx H1=>tb σ H1 λy H2=>r x y H2 λz H3=>∃k,z=.bl k /\
 (if k=true then tc σ H3 λw' H4=>r' y w' H4 Q else Q (.bl false) H3)
theorem WW {op op':CmpOp}{r r':R2}(ho:OpR X (compareOp op) r)(ho':OpR X (compareOp op') r')(ha:PE X a ta)(hb:PE X b tb)(hc:PE X c tc)(hm:lastMarks [op,op'] [b,c]=false:=by with_unfolding_all rfl):PE X (.Compare a [op,op'] [b,c] pos) (XL r r' ta tb tc):=by
 intro qQ s σ H Q I h;refine Compare_chain (thn (ha qQ s σ H _ I h) λv s1 ⟨x,H1,I1,r1,q1⟩=>chain_link (thn (hb qQ s1 σ H1 _ I1 q1) λu s2 ⟨y,H2,I2,r2,q2⟩=>
  thn (ho qQ s2 σ H2 x y v u _ I2 r1 r2 q2) λd s3 ⟨z,H3,I3,r3,k,e,q3⟩=>?_)) hm
 subst e;cases r3;refine wpAny_truthy_bool ?_;cases k with
 | false=>exact ite_ff ⟨.bl false,H3,I3,rfl,q3⟩
 | true=>exact ite_tt (chain_last (thn (hc qQ s3 σ H3 _ I3 q3) λw' s4 ⟨z',H4,I4,r4,q4⟩=>ho' qQ s4 σ H4 y z' u w' Q I4 r2 r4 q4))
theorem WX {op op':CmpOp}{r r':R2}(ho:OpR X (compareOp op) r)(ho':OpR X (compareOp op') r')(ha:PE X a ta)(hb:PE X b tb)(hc:PE X c tc)(hm:lastMarks [op,op'] [b,c]=false:=by with_unfolding_all rfl):PT X (.Compare a [op,op'] [b,c] pos) (Zo (XL r r' ta tb tc)):=by
 intro qQ s σ H Q I h;refine isTrue_chain (thn (ha qQ s σ H _ I h) λv s1 ⟨x,H1,I1,r1,q1⟩=>test_link (thn (hb qQ s1 σ H1 _ I1 q1) λu s2 ⟨y,H2,I2,r2,q2⟩=>
  thn (ho qQ s2 σ H2 x y v u _ I2 r1 r2 q2) λd s3 ⟨z,H3,I3,r3,k,e,q3⟩=>?_)) hm
 subst e;cases r3;refine wpAny_truthy_bool ?_;cases k with
 | false=>
  obtain ⟨k',e',q'⟩:=q3;cases e';exact ite_ff ⟨H3,I3,q'⟩
 | true=>
  refine ite_tt (test_last (thn (hc qQ s3 σ H3 _ I3 q3) λw' s4 ⟨z',H4,I4,r4,q4⟩=>thn (ho' qQ s4 σ H4 y z' u w' _ I4 r2 r4 q4) λd' s5 ⟨z2,H5,I5,r5,k2,e2,q5⟩=>?_));subst e2;cases r5;exact wpAny_truthy_bool ⟨H5,I5,q5⟩
def ZaK (K:W.Frag)(x:V)(H:Hp)(k:Bool):Prop:=
 match x with
 | .non=>k=false
 | .bl b=>k=b
 | .int i=>k=(i != 0)
 | .str y=>y.length<=sizeLine/\k=((y.length:Int) != 0)
 | .byt y=>y.size<=sizeLine/\k=((y.size:Int) != 0)
 | .ref p=>(∃xs,SqL K H p xs/\k=!xs.isEmpty)\/(∃xs,SqT K H p xs/\k=!xs.isEmpty)\/∃kvs,H p=some (.dK kvs)/\k=!kvs.isEmpty
 | _=>False
theorem Vu {κ:Type}{kvs:List (κ×V)}{vs:List (κ×Value)}(r:KV kvs vs):(!vs.isEmpty)=!kvs.isEmpty:=by
 cases r <;> rfl
theorem OP {xs:List V}{its:List Value}(r:Vals xs its):(!its.toArray.isEmpty)=!xs.isEmpty:=by
 cases r <;> simp
theorem Ui:(sizeLine:Nat)<2 ^ 63:=by rw [sizeLine_eq];decide
theorem XM:ZbE X (λx H Q=>∃k,ZaK X.K x H k/\Q k H):=by
 intro qQ s σ H x v Q I rx h;obtain ⟨k,e,q⟩:=h;have hl:=Ui;have hs:sizeLine=16777216:=sizeLine_eq;cases x with
 | non=>
  cases rx;have e':k=false:=e;subst e';exact truthy_none ⟨H,I,q⟩
 | bl b=>
  cases rx;have e':k=b:=e;subst e';exact wpAny_truthy_bool ⟨H,I,q⟩
 | int i=>
  obtain ⟨t,rfl⟩:=rx;have e':k=(i != 0):=e;subst e';exact PySem.P.truthy_int ⟨H,I,q⟩
 | str y=>
  obtain ⟨t,rfl⟩:=rx;obtain ⟨hy,e'⟩:y.length<=sizeLine/\k=((y.length:Int) != 0):=e;subst e';exact PySem.P.truthy_str (by lia) ⟨H,I.tok _,q⟩
 | byt y=>
  obtain ⟨t,rfl⟩:=rx;obtain ⟨hy,e'⟩:y.size<=sizeLine/\k=((y.size:Int) != 0):=e;subst e';exact W.truthy_bytes (by lia) ⟨H,I.tok _,q⟩
 | ref p=>
  cases rx;have e':(∃xs,SqL X.K H p xs/\k=!xs.isEmpty)\/(∃xs,SqT X.K H p xs/\k=!xs.isEmpty)\/∃kvs,H p=some (.dK kvs)/\k=!kvs.isEmpty:=e;rcases e' with ⟨xs,hx,e'⟩ | ⟨xs,hx,e'⟩ | ⟨kvs,hx,e'⟩
  ·subst e';obtain ⟨its,r,pl,hz⟩:=I.list hx;have qJ:=r.length;exact wpAny_truthy_list pl.isList (by simp only [List.size_toArray];lia) ⟨H,I.tok _,by rw [OP r];exact q⟩
  ·subst e';obtain ⟨its,r,pl,hz⟩:=I.tuple hx;have qJ:=r.length;exact truthy_tuple pl (by simp only [List.size_toArray];lia) ⟨H,I.tok _,by rw [OP r];exact q⟩
  ·subst e';obtain ⟨hz,hS,vs,r,m⟩:kvs.length<=sizeLine/\(p == sysModules)=false/\∃vs,KV kvs vs/\s.heap.DictOf (UL X.prog X.w) p vs:=I.hok p _ hx;have qJ:kvs.length=vs.length:=Paired.length r;exact wpAny_truthy_dict hS m (by lia) ⟨H,I.tok _,by rw [Vu r];exact q⟩
 | _=>exact (show False from e).elim
theorem JZ (ha:PE X a ta)(he:∀whole,isTrue a X.env whole=(do let v <- whole;standAt a.pos;holding [v] (truthy v))) :
  PT X a (λσ H Q=>ta σ H λx H'=>∃k,ZaK X.K x H' k/\Q k H'):=by
 intro qQ s σ H Q I h;exact isTrue_plain (thn (ha qQ s σ H _ I h) λv s1 ⟨x,H1,I1,r1,q1⟩=>XM qQ s1 σ H1 x v Q I1 r1 q1) (he _)
theorem X6 {x:V}{us:List Value}(r:Vals [x] us):∃u,us=[u]/\RelV x u:=by
 cases r with
 | cons r1 r2=>cases r2;exact ⟨_,rfl,r1⟩
theorem ZaL {x y:V}{us:List Value}(r:Vals [x,y] us):∃u w',us=[u,w']/\RelV x u/\RelV y w':=by
 cases r with
 | cons r1 r2=>
  cases r2 with
  | cons r3 r4=>cases r4;exact ⟨_,_,rfl,r1,r3⟩
theorem V1 (hc:X.calm=true):JQ X (.builtin "max") (λxs H Q=>∃i j,xs=[.int i,.int j]/\Q (.int (if j > i then j else i)) H):=by
 intro qQ s σ H xs us Q I r h;obtain ⟨i,j,rfl,q⟩:=h;obtain ⟨u,w',rfl,⟨t,rfl⟩,⟨t',rfl⟩⟩:=ZaL r;refine max_two_ints (I.ok.hd hc) λh' tk k=>⟨_,H,I.kept k,?_,q⟩;by_cases hj:j > i
 ·rw [if_pos hj,if_pos hj];exact ⟨_,rfl⟩
 ·rw [if_neg hj,if_neg hj];exact ⟨_,rfl⟩
end
end L2
namespace L2
open PySem PySem.Spec PyProof.Rows
structure ObjM (h:Heap)(x dx C:Addr)(mA:Str->Option Value):Prop where
 obj:h.get? x=some (W.instObj C dx)
 ns:h.Ns1 dx mA
 ne:dx≠x
theorem V2 {h:Heap}{dx:Addr}{mA:Str->Option Value}(n:h.Ns1 dx mA):∃od,h.get? dx=some od/\∀name,W.lookIn name od=some (mA name):=by
 obtain ⟨o,es,ep,ho,hd,hk,_,hm⟩:=n;refine ⟨o,ho,λname=>?_⟩;have e:=hm name;unfold nsFind findBy at e;rw [<-Array.find?_toList] at e;unfold W.lookIn;rw [hd];dsimp only;split
 ·rename_i y q;rw [q] at e;exact congrArg some e
 ·rename_i q;rw [q] at e;have a:es.toList.any (·.refKey)=false:=by
   rw [List.any_eq_false];intro y hy;obtain ⟨z,t,hkey⟩:=hk y (Array.mem_toList_iff.mp hy);simp [DictEntry.refKey,hkey]
  have a':¬ es.toList.any (·.refKey)=true:=by rw [a];exact Bool.false_ne_true
  rw [if_neg a'];exact congrArg some e
theorem ObjM.look {h:Heap}{x dx C:Addr}{mA:Str->Option Value}(I:ObjM h x dx C mA):∃od,W.InstAt h x (W.instObj C dx) C (some od)/\∀name,W.lookIn name od=some (mA name):=
 let ⟨od,ho,hl⟩:=V2 I.ns
 ⟨od,⟨I.obj,rfl,rfl,ho⟩,hl⟩
section
variable {P:Program}{w:World}{H H':Hp}{h h':Heap}{a C dx:Addr}{fs fs':List (Str×V)}
theorem X7 (hok:HOk P w H h)(e:H a=some (.ins C dx fs)):∃mA,ObjM h a dx C mA/\(∀f,Zay (fs.lookup f) (mA f))/\PySem.Within mA (fs.map (·.1))/\fs.length<=1000/\H dx=some (.own a):=by
 obtain ⟨d,z,ne,ob,mA,n,r,q⟩:=(show ObjOk P w H h a (.ins C dx fs) from hok a _ e);exact ⟨mA,⟨ob,n,ne⟩,r,q,z,d⟩
end
structure Cls (K:W.Frag)(C:Addr):Prop where
 pg:W.plainGet K C Str.empty=true
 hd:W.hasDictIn K C=true
 po:W.plainOver K C=true
 sa:W.findIn K (.ref C) "__setattr__" = some (some (.builtin "object.__setattr__"))
theorem Cls.get {K:W.Frag}{C:Addr}(c:Cls K C)(f:Str):W.plainGet K C f=true:=c.pg
section
variable {X:Cx}{qQ:List (Addr×Obj)}{σ:St}{H:Hp}{s:Shared}{A:Around}{E:Value->Shared->Prop}{Q:Value->Shared->Prop}{c:Value}{b:Bool}
inductive TyOf (K:W.Frag)(H:Hp):V->Value->Prop where
 | non:TyOf K H .non (.type "NoneType")
 | bl (x:Bool):TyOf K H (.bl x) (.type "bool")
 | int (i:Int):TyOf K H (.int i) (.type "int")
 | str (x:Str):TyOf K H (.str x) (.type "str")
 | flt (x:UInt64):TyOf K H (.flt x) (.type "float")
 | lst {a:Addr} {xs:List V} (e:H a=some (.lst xs)):TyOf K H (.ref a) (.type "list")
 | frz {a:Addr} {o:Obj} {xs:List V} (e:H a=some (.frz o (.lst xs))):TyOf K H (.ref a) (.type "list")
 | tup {a:Addr} {xs:List V} (e:H a=some (.tup xs)):TyOf K H (.ref a) (.type "tuple")
 | dK {a:Addr} {kvs:List (Key×V)} (e:H a=some (.dK kvs)):TyOf K H (.ref a) (.type "dict")
 | dT {a:Addr} {kvs:List (List Key×V)} (e:H a=some (.dT kvs)):TyOf K H (.ref a) (.type "dict")
 | ins {a C dx:Addr} {fs:List (Str×V)} (e:H a=some (.ins C dx fs)) (cl:Cls K C) (ha:W.findIn K (.ref C) "__class__" = some (some (.builtin "object.__class__")))
   (hn:W.specialIn K (.builtin "object.__class__") "__get__" = some (some (.builtin "getset_descriptor.__get__"))) (htk:W.takesIn K (.builtin "object.__class__")=some true)
   (hm:W.mroIn K C (.type "object")=some true):TyOf K H (.ref a) (.ref C)
theorem V3 {x:V}{u t:Value}(I:Inv X qQ σ H s)(rx:RelV x u)(ty:TyOf X.K H x t)(e:W.kitOne X.K t c=some b)(h:∀tk,Q (.bool b) { s with toks:=tk }) :
  wpAny (model X.prog X.w) A (call (.builtin "isinstance") [u,c]) Q E s:=by
 cases ty with
 | non=>cases (show u=Value.none from rx);exact W.kia_one W.kitx_none I.kIn True.intro e (λz=>nomatch z) h
 | bl y=>cases (show u=Value.bool y from rx);exact W.kia_one W.kitx_bool I.kIn True.intro e (λz=>nomatch z) h
 | int i=>obtain ⟨t,q⟩:=(show ∃t,u=Value.int i t from rx);cases q;exact W.kia_one W.kitx_int I.kIn True.intro e (λz=>nomatch z) h
 | str y=>obtain ⟨t,q⟩:=(show ∃t,u=Value.str y t from rx);cases q;exact W.kia_one W.kitx_str I.kIn True.intro e (λz=>nomatch z) h
 | flt y=>obtain ⟨t,q⟩:=(show ∃t,u=Value.float y t from rx);cases q;exact W.kia_one W.kitx_float I.kIn True.intro e (λz=>nomatch z) h
 | @lst a xs ea=>
  cases (show u=Value.ref a from rx);obtain ⟨_,_,n,_,h1⟩:=(show ObjOk X.prog X.w H s.heap a (.lst xs) from I.hok a _ ea);exact W.kia_one W.kitx_list I.kIn ⟨_,h1,rfl⟩ e (λz=>nomatch z) h
 | @frz a ob xs ea=>
  cases (show u=Value.ref a from rx);obtain ⟨_,_,_,n,_,h1⟩:=(show ObjOk X.prog X.w H s.heap a (.frz ob (.lst xs)) from I.hok a _ ea);exact W.kia_one W.kitx_list I.kIn ⟨_,h1,rfl⟩ e (λz=>nomatch z) h
 | @tup a xs ea=>
  cases (show u=Value.ref a from rx);obtain ⟨_,_,_,p⟩:=(show ObjOk X.prog X.w H s.heap a (.tup xs) from I.hok a _ ea);obtain ⟨o,h1,h2,_⟩:=p;exact W.kia_one W.kitx_tuple I.kIn ⟨o,h1,h2⟩ e (λz=>nomatch z) h
 | @dK a kvs ea=>
  cases (show u=Value.ref a from rx);obtain ⟨_,_,vs,_,p⟩:=(show ObjOk X.prog X.w H s.heap a (.dK kvs) from I.hok a _ ea);obtain ⟨o,es,ep,h1,h2,_⟩:=p;exact W.kia_one W.kitx_dict I.kIn ⟨o,h1,h2.1⟩ e (λz=>nomatch z) h
 | @dT a kvs ea=>
  cases (show u=Value.ref a from rx);obtain ⟨_,_,xs,_,o,es,ep,h1,h2,_⟩:=(show ObjOk X.prog X.w H s.heap a (.dT kvs) from I.hok a _ ea);exact W.kia_one W.kitx_dict I.kIn ⟨o,h1,h2.1⟩ e (λz=>nomatch z) h
 | @ins a C dx fs ea cl ha hn htk hm=>
  cases (show u=Value.ref a from rx);obtain ⟨mA,O,_⟩:=X7 I.hok ea;obtain ⟨od,J,_⟩:=O.look;exact W.kia_one (W.kitx_own (cl.get _) cl.hd ha hn htk hm) I.kIn J e (λz=>nomatch z) h
end
end L2
namespace L2
open PySem PySem.Spec PyProof.Rows
structure Room (k:Nat)(A:Around):Prop where
 hd:A.handled=none
 dp:A.depth+3 * k+5<recursionLimit
 un:A.units+16 * k+200<cLine
theorem Room.mono {j k:Nat}{A:Around}(r:Room k A)(h:j<=k):Room j A:=⟨r.hd,by have:=r.dp;lia,by have:=r.un;lia⟩
theorem Room.deeper {k:Nat}{A:Around}(r:Room (k+1) A)(env:Env):Room k (A.deeper env):=
 ⟨r.hd,by have:=r.dp;show A.depth+1+3 * k+5<_;lia,by have:=r.un;show A.units+3+16 * k+200<_;lia⟩
theorem Room.depth {k:Nat}{A:Around}(r:Room k A):A.depth<recursionLimit:=by have:=r.dp;lia
theorem Room.units {k:Nat}{A:Around}(r:Room k A):A.units+64<cLine:=by have:=r.un;lia
def Zp:TA:=λ_ H Q=>Q [] H
def Oj (ta:TE)(tr:TA):TA:=λσ H Q=>ta σ H λx H1=>tr σ H1 λxs H2=>Q (x::xs) H2
section
variable {X:Cx}{e:Expr}{es:List Expr}{te:TE}{t:TA}{pos:Pos}
theorem Gd:PA X [] Zp:=λ_ _ _ _ H Q I h=>Calls.spliced_nil ⟨[],H,I,.nil,h⟩
theorem Ga (ha:PE X e te)(hr:PA X es t)(hs:starEach (e::es) X.env=(false,eval e X.env)::starEach es X.env:=by rfl):PA X (e::es) (Oj te t):=by
 intro pos qQ s σ H Q I h;rw [hs];show wpAny _ _ (spliced ((false,eval e X.env)::backTo pos (starEach es X.env))) _ _ s;refine Calls.spliced_cons (thn (ha qQ s σ H _ I h) λu s1 ⟨x,H1,I1,r1,q1⟩=>?_);exact thn (hr pos qQ s1 σ H1 _ I1 q1) λus s2 ⟨xs,H2,I2,r2,q2⟩=>⟨x::xs,H2,I2,.cons r1 r2,q2⟩
def Zbj (t:TA):TE:=λσ H Q=>t σ H λxs H1=>xs.length<=sizeLine/\∀p,H1 p=none->Q (.ref p) (upd H1 p (.tup xs))
def Zbk (t:TA):TE:=λσ H Q=>t σ H λxs H1=>xs.length<=sizeLine/\∀p,H1 p=none->Q (.ref p) (upd H1 p (.lst xs))
theorem G6 {x1}(h:PA X es t):PE X (.Tuple es x1 pos) (Zbj t):=by
 intro qQ s σ H Q I hq;refine wpAny_Tuple_spliced (thn (h pos qQ s σ H _ I hq) λus s1 ⟨xs,H1,I1,r,z,q⟩=>⟨by rw [<-r.length];exact z,?_⟩);have hf:H1 s1.heap.objs.size=none:=I1.hok.fresh (Nat.le_refl _);refine ⟨.ref s1.heap.objs.size,upd H1 s1.heap.objs.size (.tup xs),I1.laid (t':=s1.toks) (λb u e=>Heap.get?_push_of_some _ e) (Nat.le_refl _) ?_,rfl,q _ hf⟩;exact ⟨z,us,r,⟨_,Heap.get?_push_size _ rfl,rfl,_,rfl⟩⟩
theorem GY (h:PA X es t):PE X (.List es pos) (Zbk t):=by
 intro qQ s σ H Q I hq;refine wpAny_List_spliced (thn (h pos qQ s σ H _ I hq) λus s1 ⟨xs,H1,I1,r,z,q⟩=>⟨by rw [<-r.length];exact z,?_⟩);have hf:H1 s1.heap.objs.size=none:=I1.hok.fresh (Nat.le_refl _);refine ⟨.ref s1.heap.objs.size,upd H1 s1.heap.objs.size (.lst xs),I1.laid (t':=s1.toks) (λb u e=>Heap.get?_push_of_some _ e) (Nat.le_refl _) ?_,rfl,q _ hf⟩;exact ⟨z,us,0,r,Heap.get?_push_size _ rfl⟩
end
abbrev Sp:=List V->Hp->VK->XK->Prop
abbrev CXT:=List Env->Hp->Shared->XK->Value->Shared->Prop
structure X8 (P:Program)(w:World)(K:W.Frag)(mg:Str->Option Value)(base:Heap)(A:Around)(outer:List Env)(s:Shared)(H:Hp):Prop where
 frames:A.frames=some outer
 mod:Mod K mg base
 bs:∀b o,base.get? b=some o->s.heap.get? b=some o/\H b=none
 bsz:base.objs.size<=s.heap.objs.size
 funs:s.heap.FunFrames base outer
 frf:∀b∈frs outer,H b=none
 hok:HOk P w H s.heap
 bare:AllBare s.gens
def CE (outer:List Env)(P:Program)(w:World)(H:Hp)(s:Shared)(Q:VK)(u:Value)(s':Shared):Prop:=
 ∃v H',s'.os=s.os/\AllBare s'.gens/\Un (frs outer) [] H H' s.heap s'.heap/\HOk P w H' s'.heap/\RelV v u/\Q v H'
def CR (CX:CXT)(outer:List Env)(P:Program)(w:World)(H:Hp)(s:Shared)(Q:VK)(E:XK)(r:Result)(s':Shared):Prop:=
 match r with
 | .ok (.ret u)=>CE outer P w H s Q u s'
 | .ok _=>False
 | .error e=>CX outer H s E e s'
structure FnOk (P:Program)(w:World)(K:W.Frag)(mg:Str->Option Value)(base:Heap)(CX:CXT)(k:Nat)(f:Addr)(fd:FuncData)(ps:List Str)(sp:Sp):Prop where
 len:∀vs H Q E,sp vs H Q E->vs.length=ps.length
 run:∀(A:Around)(outer:List Env)(s:Shared)(H:Hp)(args:Args)(us:List Value)(vs:List V)(Q:VK)(E:XK),Room k A->X8 P w K mg base A outer s H->BindsTo s fd args (ps.zip us)->Vals vs us->sp vs H Q E ->
  codeAny (model P w) A (.call (.ref f) args) (CR CX outer P w H s Q E) s
section
variable {X:Cx}{qQ:List (Addr×Obj)}{σ:St}{H:Hp}{s s':Shared}
theorem Inv.env0 (I:Inv X qQ σ H s):X8 X.prog X.w X.K X.mg X.base X.A X.stack s H:=
 ⟨I.ok.frames,I.ok.mod,I.bs,Nat.le_trans I.ok.bsz I.sz,I.stack,I.stkFree,I.hok,I.bare⟩
theorem Inv.after {Q:VK}{u:Value}(I:Inv X qQ σ H s)(h:CE X.stack X.prog X.w H s Q u s'):EP X qQ σ Q u s':=by
 obtain ⟨v,H',os,bare,un,hok,r,q⟩:=h;obtain ⟨hh,g,d,t,os'⟩:=s';obtain rfl:os'=s.os:=os;exact ⟨v,H',I.call (h':=hh) (g':=g) (d':=d) (t':=t) (ch:=[]) un hok bare (λb z=>absurd z (by simp)),r,q⟩
end
def Vv (sp:Sp)(dvs:List V)(E:XK)(t:TA):TE:=λσ H Q=>t σ H λvs H1=>sp (vs++dvs) H1 Q E
def Binds (K:W.Frag)(fd:FuncData)(ps:List Str)(ds:List Value):Prop:=
 ∀(s:Shared)(us:List Value),K.In s.heap->(us++ds).length=ps.length->BindsTo s fd ⟨us,[]⟩ (ps.zip (us++ds))
theorem Binds.all {K:W.Frag}{fd:FuncData}{ps:List Str}(h:∀us:List Value,us.length=ps.length->bindArgs fd ⟨us,[]⟩=pure (ps.zip us)):Binds K fd ps []:=λs us _ hl=>by
 rw [List.append_nil] at hl ⊢;exact .of_eq (h us hl)
def Oh (CX:CXT)(X:Cx)(E:XK):Prop:=∀(qQ:List (Addr×Obj))(σ:St)(H:Hp)(s:Shared)(e:Value)(s':Shared),Inv X qQ σ H s->CX X.stack H s E e s'->X.xe e s'
section
variable {X:Cx}{CX:CXT}{k:Nat}{f C:Addr}{fd:FuncData}{ps:List Str}{sp:Sp}{dvs:List V}{ds:List Value}{E:XK}{x m:Str}{p pos apos:Pos}{e o:Expr}{es:List Expr}{ta:TE}{t:TA}
theorem U4 {qQ:List (Addr×Obj)}{σ:St}{H:Hp}{s:Shared}{Q:VK}{us:List Value}{vs:List V}(F:FnOk X.prog X.w X.K X.mg X.base CX k f fd ps sp)(hr:Room k X.A)(hb:Binds X.K fd ps ds)(hd:Vals dvs ds)(hx:Oh CX X E)(I:Inv X qQ σ H s)(r:Vals vs us)(h:sp (vs++dvs) H Q E):wpAny (model X.prog X.w) X.A (call (.ref f) us) (EP X qQ σ Q) X.xe s:=by
 have r2:Vals (vs++dvs) (us++ds):=r.append hd;have hl:(us++ds).length=ps.length:=by rw [<-r2.length];exact F.len _ _ _ _ h
 refine wpAny_call (codeAny_mono (F.run X.A X.stack s H ⟨us,[]⟩ (us++ds) (vs++dvs) Q E hr I.env0 (hb s us I.kIn hl) r2 h) λr s' hq=>?_);cases r with
 | error e=>exact hx qQ σ H s e s' I hq
 | ok fl=>
  cases fl with
  | ret u=>exact I.after hq
  | next=>exact False.elim hq
  | brk=>exact False.elim hq
  | cont=>exact False.elim hq
theorem GC (F:FnOk X.prog X.w X.K X.mg X.base CX k f fd ps sp)(hr:Room k X.A)(hg:Gl X x)(hm:X.mg x=some (.ref f))(hk:W.keepIn X.K (.ref f)=true)(hb:Binds X.K fd ps ds)(hd:Vals dvs ds)(hx:Oh CX X E)(ha:PA X (e::es) t)(hdb:(x == ("__debug__" : Str))=false:=by decide)(he:starEach (e::es) X.env=(false,eval e X.env)::starEach es X.env:=by rfl)(hpl:(backTo pos (starEach es X.env)).any (·.1)=false:=by rfl) :
  PE X (.Call (.Name x p) (e::es) [] pos) (Vv sp dvs E t):=by
 intro qQ s σ H Q I h;refine wpAny_Call_Name_kw (OZ I hg hm ?_ hdb);refine W.callWith_K (h₀:=X.base) I.ok.mod.kin hk (thn (ha pos qQ s σ H _ I h) λus s1 ⟨vs,H1,I1,r,q⟩=>⟨I1.kIn,?_⟩) he hpl;exact U4 F hr hb hd hx I1 r q
end
structure Gs (N P:List Str)(sc:Scope):Prop where
 kind:sc.kind=.function
 co:sc.isCoroutine=false
 gen:sc.isGenerator=false
 nd:N.Nodup
 pre:N.take P.length=P
 par:∀x∈P,sc.names.lookup x=some .local\/sc.names.lookup x=some .cell
 nofree:∀y∈sc.names,y.2≠.free
theorem Uj {kindOf:Str->Option NameKind}{x:Str}:∀{binds:List (Str×Value)}{m:Str->Option Value},(∀v,(x,v) ∉ binds)->bindL kindOf binds m x=m x
 | [],_,_=>rfl
 | (n,v)::r,m,h=>by
  unfold bindL;rw [Uj λw hw=>h w (List.mem_cons_of_mem _ hw)];split
  ·have:x≠n:=by rintro rfl;exact h v List.mem_cons_self
   simp [this]
  ·rfl
theorem Uk {kindOf:Str->Option NameKind}{x:Str}:∀{binds:List (Str×Value)}{m:Str->Option Value},(∀v,(x,v) ∉ binds)->bindC kindOf binds m x=m x
 | [],_,_=>rfl
 | (n,v)::r,m,h=>by
  unfold bindC;rw [Uk λw hw=>h w (List.mem_cons_of_mem _ hw)];split
  ·rfl
  ·have:x≠n:=by rintro rfl;exact h v List.mem_cons_self
   simp [this]
theorem Ul {kindOf:Str->Option NameKind}{x:Str}{v:Value}:∀{P:List Str}{vs:List Value}{i:Nat}{m:Str->Option Value},P.Nodup->P[i]?=some x->vs[i]?=some v->kindOf x=some .local ->
  bindL kindOf (P.zip vs) m x=some v
 | [],_,_,_,_,h,_,_=>by simp at h
 | _::_,[],_,_,_,_,h,_=>by simp at h
 | p::P,w::vs,0,m,nd,h1,h2,hk=>by
  simp at h1 h2;subst h1;subst h2;show bindL kindOf ((p,w)::P.zip vs) m p=_;unfold bindL;rw [Uj λv hv=>(List.nodup_cons.mp nd).1 (List.of_mem_zip hv).1,if_pos hk];simp
 | p::P,w::vs,i+1,m,nd,h1,h2,hk=>by
  show bindL kindOf ((p,w)::P.zip vs) m x=_;unfold bindL;exact Ul (i:=i) (List.nodup_cons.mp nd).2 (by simpa using h1) (by simpa using h2) hk
theorem Um {kindOf:Str->Option NameKind}{x:Str}{v:Value}:∀{P:List Str}{vs:List Value}{i:Nat}{m:Str->Option Value},P.Nodup->P[i]?=some x->vs[i]?=some v->kindOf x≠some .local ->
  bindC kindOf (P.zip vs) m x=some v
 | [],_,_,_,_,h,_,_=>by simp at h
 | _::_,[],_,_,_,_,h,_=>by simp at h
 | p::P,w::vs,0,m,nd,h1,h2,hk=>by
  simp at h1 h2;subst h1;subst h2;show bindC kindOf ((p,w)::P.zip vs) m p=_;unfold bindC;rw [Uk λv hv=>(List.nodup_cons.mp nd).1 (List.of_mem_zip hv).1,if_neg hk];simp
 | p::P,w::vs,i+1,m,nd,h1,h2,hk=>by
  show bindC kindOf ((p,w)::P.zip vs) m x=_;unfold bindC;exact Um (i:=i) (List.nodup_cons.mp nd).2 (by simpa using h1) (by simpa using h2) hk
def Jq (N:List Str)(vs:List V):St:=vs.map some++List.replicate (N.length-vs.length) none
def V4 (CX:CXT)(P:Program)(w:World)(K:W.Frag)(mg:Str->Option Value)(base:Heap)(N:List Str)(qual:Str)(scope:Scope)(f:Addr)(cd:Value)(A:Around)(outer:List Env)(s:Shared)(H:Hp)(E:XK):Cx where
 prog:=P
 w:=w
 K:=K
 mg:=mg
 base:=base
 A:=A.deeper (envOfC qual scope s.heap.objs.size f cd)
 N:=N
 s₀:=s
 H₀:=H
 env:=envOfC qual scope s.heap.objs.size f cd
 outer:=outer
 stack:=envOfC qual scope s.heap.objs.size f cd::outer
 ex:=[]
 calm:=true
 fn:=λ_=>true
 pn:=[]
 xe:=λe s'=>wpAny (model P w) (A.deeper (envOfC qual scope s.heap.objs.size f cd)) (leaving (envOfC qual scope s.heap.objs.size f cd) e) (λ_ s''=>CX outer H s E e s'') (λe' s''=>CX outer H s E e' s'') s'
theorem U5 {sc:Scope}{n:Nat}{x:Str}(h:sc.names.lookup x=some .cell):∃c,(cellsFrom n sc.names []).lookup x=some c:=by
 have q:=W.cellsFrom_some sc.names n [] (.inl h);exact Option.isSome_iff_exists.mp q
theorem Uo {CX:CXT}{P:Program}{w:World}{K:W.Frag}{mg:Str->Option Value}{base:Heap}{N ps:List Str}{qual:Str}{scope:Scope}{f:Addr}{cd:Value}{A:Around}{outer:List Env}{s s1:Shared}{H:Hp}{E:XK}{us:List Value}{vs:List V}(S:Gs N ps scope)(hd:A.handled=none)(e0:X8 P w K mg base A outer s H)(hl:vs.length=ps.length)(r:Vals vs us)(x:InCallC s s.heap.objs.size (bindL (envOfC qual scope s.heap.objs.size f cd).kindOf (ps.zip us) λ_=>none) (cellsFrom (s.heap.objs.size+1) scope.names []) (bindC (envOfC qual scope s.heap.objs.size f cd).kindOf (ps.zip us) λ_=>none) s1) :
  Inv (V4 CX P w K mg base N qual scope f cd A outer s H E) [] (Jq N vs) H s1:=by
 have hpl:ps.length<=N.length:=by have:=congrArg List.length S.pre;rw [List.length_take] at this;lia
 obtain ⟨h1,tk,rfl,hk⟩:=x.done;have noA:∀b:Addr,b ∉ (V4 CX P w K mg base N qual scope f cd A outer s H E).ex:=λb z=>absurd (show b∈([]:List Addr) from z) (by simp);refine ⟨⟨e0.mod,S.kind,rfl,rfl,Nat.le_refl _,λy z c h1 h2=>?_,λy hy=>?_,λy c _ h=>?_,λ_=>hd,Around.frames_deeper e0.frames,.inr ⟨rfl,rfl⟩,λb z=>absurd z (noA b),e0.bs,e0.bsz,λb _ _=>noA b,λb z=>absurd z (noA b),e0.funs,e0.frf⟩,
  rfl,e0.bare,Un.kept hk,⟨_,x.toInCall.ns,λi y v h1 h2 h3=>?_⟩,λy c h=>⟨_,x.cell y c h⟩,e0.hok.fresh (Nat.le_refl _),λy c h=>?_,λp hp=>absurd (show p∈([]:List (Addr×Obj)) from hp) (by simp),e0.hok.kept hk,?_⟩
 ·exact name_of_addr x.apart (PySem.mem_of_lookup h1) (PySem.mem_of_lookup h2)
 ·have hy:scope.names.lookup y=some .cell\/scope.names.lookup y=some .free:=hy;rcases hy with hy | hy
  ·exact U5 hy
  ·exact absurd rfl (S.nofree _ (PySem.mem_of_lookup hy))
 ·exact Nat.le_of_lt (x.above y c (PySem.mem_of_lookup h))
 ·have hi:i<vs.length:=by
   unfold Jq at h2;by_cases hi:i<vs.length
   ·exact hi
   ·rw [List.getElem?_append_right (by simpa using hi)] at h2;rw [List.getElem?_replicate] at h2;split at h2 <;> cases h2
  have ha:vs[i]?=some v:=by
   unfold Jq at h2;rw [List.getElem?_append_left (by simpa using hi),List.getElem?_map] at h2;cases e:vs[i]? with
   | none=>rw [e] at h2;cases h2
   | some a=>rw [e] at h2;cases h2;rfl
  obtain ⟨u,hu,rv⟩:=r.get ha;have hp:ps[i]?=some y:=by
   rw [<-S.pre,List.getElem?_take_of_lt (by lia)];exact h1
  have ndP:ps.Nodup:=by rw [<-S.pre];exact S.nd.sublist (List.take_sublist _ _)
  refine ⟨u,rv,?_⟩;rcases S.par y (List.mem_of_getElem? hp) with k | k
  ·exact .inl ⟨k,Ul ndP hp hu k⟩
  ·obtain ⟨c,e⟩:=U5 (n:=s.heap.objs.size+1) k;refine .inr ⟨.inl k,c,e,?_⟩;have q:=x.cell y c e;rw [Um ndP hp hu (by show scope.names.lookup y≠_;rw [k];decide)] at q;exact q
 ·exact e0.hok.fresh (Nat.le_of_lt (x.above y c (PySem.mem_of_lookup h)))
 ·unfold Jq;show _=N.length;rw [List.length_append,List.length_map,List.length_replicate]
  lia
theorem Zq {CX:CXT}{P:Program}{w:World}{K:W.Frag}{mg:Str->Option Value}{base:Heap}{k:Nat}{f:Addr}{name qual:Str}{params:Arguments}{body:List Stmt}{scope:Scope}{dV kV doc pm cdv ct oc:Value}{an od:Option Addr}{osl:Array (Option Value)}{N ps:List Str}{sp:Sp}(lk:K.lookup f=some ⟨oc,od,.func (W.fnOf name qual params body scope dV kV doc pm an cdv ct),osl⟩)(hcd:W.codeIn K cdv qual=true)(S:Gs N ps scope)(len:∀vs H Q E,sp vs H Q E->vs.length=ps.length)(qW:∀(A:Around)(outer:List Env)(s:Shared)(H:Hp)(vs:List V)(Q:VK)(E:XK),Room k (A.deeper (envOfC qual scope s.heap.objs.size f cdv))->sp vs H Q E ->
   ∃t,PSs (V4 CX P w K mg base N qual scope f cdv A outer s H E) body t/\t { nx:=λ_ H'=>Q .non H',rt:=Q } (Jq N vs) H) :
  FnOk P w K mg base CX (k+1) f (W.fnOf name qual params body scope dV kV doc pm an cdv ct) ps sp:=by
 refine ⟨len,λA outer s H args us vs Q E hr e0 hb r hsp=>?_⟩;have hl:=len _ _ _ _ hsp;have KX:K.In s.heap:=e0.mod.kin.keeps λb o e=>(e0.bs b o e).1;have lim:s.heap.NoLimit:=e0.mod.nolimit.keeps λb o e=>(e0.bs b o e).1;have hkind:∀y∈ps.zip us,scope.names.lookup y.1=some .local\/(scope.names.lookup y.1=some .cell/\((cellsFrom (s.heap.objs.size+1) scope.names []).lookup y.1).isSome=true):=λ⟨n,v⟩ hy=>by
  rcases S.par n (List.of_mem_zip hy).1 with q | q
  ·exact .inl q
  ·exact .inr ⟨q,W.cellsFrom_some _ _ _ (.inl q)⟩
 refine codeAny_call_function hr.depth (KX _ _ lk) rfl S.co S.gen rfl (W.codeRec_of KX hcd) (hb _ _ _ _ ?_);refine wpAny_newFunctionEnv_cells S.kind hkind λenv he s1 x=>?_;subst he;refine ⟨lim.keeps x.toInCall.keep,codeAny_func ?_⟩;obtain ⟨t,ht,hq⟩:=qW A outer s H vs Q E (hr.deeper _) hsp;have I:Inv (V4 CX P w K mg base N qual scope f cdv A outer s H E) [] (Jq N vs) H s1:=Uo S hr.hd e0 hl r x;refine wpAny_mono (ht [] s1 (Jq N vs) H _ I hq) (λfl s' hs=>?_) λe s' hs=>hs;have fin:∀{σ':St}{H':Hp}{v:V}{u:Value},Inv (V4 CX P w K mg base N qual scope f cdv A outer s H E) [] σ' H' s'->RelV v u->Q v H'->CE outer P w H s Q u s':=
  λ{σ' H' v u} J rv q=>⟨v,H',J.os,J.bare,J.base,J.hok,rv,q⟩
 cases fl with
 | ret u=>
  obtain ⟨v,σ',H',J,rv,q⟩:=hs;exact fin J rv q
 | next=>
  obtain ⟨σ',H',J,q⟩:=hs;exact fin (v:=V.non) (u:=Value.none) J rfl q
 | brk=>
  obtain ⟨_,_,_,q⟩:=hs;exact False.elim q
 | cont=>
  obtain ⟨_,_,_,q⟩:=hs;exact False.elim q
end L2
namespace L2
open PySem PySem.Spec PyProof.Rows
section
variable {X:Cx}{x:Str}{p pos:Pos}{e:Expr}{es:List Expr}{t:TA}{id T:String}{r:List V->Hp->VK->Prop}
def tCB (r:List V->Hp->VK->Prop)(t:TA):TE:=λσ H Q=>t σ H λvs H1=>r vs H1 Q
theorem Gi (hc:JQ X (.builtin id) r)(hg:Gl X x)(hm:X.mg x=none)(hv:bootBuiltins x=some (.builtin id))(ha:PA X (e::es) t)(hn:x ≠ "__name__" := by decide)(hdb:(x == ("__debug__" : Str))=false:=by decide)(he:starEach (e::es) X.env=(false,eval e X.env)::starEach es X.env:=by rfl)(hpl:(backTo pos (starEach es X.env)).any (·.1)=false:=by rfl):PE X (.Call (.Name x p) (e::es) [] pos) (tCB r t):=by
 intro qQ s σ H Q I h;refine wpAny_Call_Name_kw (Ug I hg hm hv ?_ hn hdb);exact PyProof.Rows.callWith_builtin1 (thn (ha pos qQ s σ H _ I h) λus s1 ⟨vs,H1,I1,r1,q1⟩=>hc qQ s1 σ H1 vs us Q I1 r1 q1) he hpl
theorem Jn (hc:JQ X (.type T) r)(hg:Gl X x)(hm:X.mg x=none)(hv:bootBuiltins x=some (.type T))(ha:PA X (e::es) t)(hn:x ≠ "__name__" := by decide)(hdb:(x == ("__debug__" : Str))=false:=by decide)(he:starEach (e::es) X.env=(false,eval e X.env)::starEach es X.env:=by rfl)(hpl:(backTo pos (starEach es X.env)).any (·.1)=false:=by rfl):PE X (.Call (.Name x p) (e::es) [] pos) (tCB r t):=by
 intro qQ s σ H Q I h;refine wpAny_Call_Name_kw (Ug I hg hm hv ?_ hn hdb);exact PyProof.Rows.callWith_type1 (thn (ha pos qQ s σ H _ I h) λus s1 ⟨vs,H1,I1,r1,q1⟩=>hc qQ s1 σ H1 vs us Q I1 r1 q1) he hpl
end
end L2
namespace HT
open PySem PyProof.Rows
section
variable {prog:Program}{w:World}{A:Around}{E:Value->Shared->Prop}{s:Shared}
theorem cat_tup {t b:Addr}{vs ws:List Value}{Q:Value->Shared->Prop}(ht:IsTup s.heap t vs.toArray)(hb:IsTup s.heap b ws.toArray)(hv:vs≠[])(h1:ws=[]->Q (.ref t) s)(h2:ws≠[]->Q (.ref s.heap.objs.size) { s with heap:=s.heap.push { cls:=.type "tuple", data:=.seq (vs++ws).toArray } })(hsz:vs.length+ws.length<=sizeLine):wpAny (model prog w) A (binaryOp .Add (.ref t) (.ref b)) Q E s:=by
 obtain ⟨⟨cls,dd,data,sl⟩,ho,hc,n,hd⟩:=id ht;obtain ⟨⟨cls2,dd2,data2,sl2⟩,ho2,hc2,n2,hd2⟩:=id hb;simp only at hc hd hc2 hd2;subst hc hd hc2 hd2;have e:vs.toArray++ws.toArray=(vs++ws).toArray:=by simp
 by_cases hw:ws=[]
 ·exact concat_meets ⟨_,ho,rfl⟩ ⟨_,ho2,rfl⟩ noFill_tuple_add seq_tuple_add PySem.F.slot_tuple_add PySem.F.entry_tuple_add (PySem.F.args_tuple_add_2 _ _)
   (tuple_addW1 t b vs.toArray ws.toArray n n2 dd dd2 sl sl2 (by simpa using hv) (by simp [hw])) ⟨ho,ho2,h1 hw⟩
 ·refine concat_meets ⟨_,ho,rfl⟩ ⟨_,ho2,rfl⟩ noFill_tuple_add seq_tuple_add PySem.F.slot_tuple_add PySem.F.entry_tuple_add (PySem.F.args_tuple_add_2 _ _)
   (tuple_addW2 t b vs.toArray ws.toArray n n2 dd dd2 sl sl2 (by simpa using hv) (by simpa using hw) (by rw [List.size_toArray,List.size_toArray];exact hsz)) ⟨ho,ho2,?_⟩
  rw [e];exact h2 hw
def sIx (n d:Nat):Option Int->Nat
 | none=>d
 | some v=>if v<0 then (v+(n:Int)).toNat else min v.toNat n
theorem sIx_none (n d:Nat):sIx n d none=d:=rfl
theorem sIx_nat (n d k:Nat):sIx n d (some (k:Int))=min k n:=by
 show (if (k:Int)<0 then ((k:Int)+(n:Int)).toNat else min (k:Int).toNat n)=min k n;rw [if_neg (by lia),Int.toNat_natCast]
theorem Zr (n d:Nat)(hd:d<=n)(o:Option Int):sIx n d o<=n:=by
 cases o with
 | none=>exact hd
 | some v=>
  show (if v<0 then (v+(n:Int)).toNat else min v.toNat n)<=n;by_cases hv:v<0
  ·rw [if_pos hv];lia
  ·rw [if_neg hv];exact Nat.min_le_right _ _
theorem V5 (v:Int)(n d:Nat):(if v<0 then max (v+(n:Int)) 0 else min v (n:Int))=((sIx n d (some v):Nat):Int):=by
 show (if v<0 then max (v+(n:Int)) 0 else min v (n:Int))=(((if v<0 then (v+(n:Int)).toNat else min v.toNat n):Nat):Int);by_cases hv:v<0
 ·simp only [if_pos hv];lia
 ·simp only [if_neg hv];lia
theorem Vw (lo hi:Option Int)(n:Nat):Builtin.Slice.sliceAdjust lo hi 1 (n:Int)=(((sIx n 0 lo:Nat):Int),((sIx n n hi:Nat):Int)):=by
 have h1:¬ ((1:Int)<0):=by lia
 unfold Builtin.Slice.sliceAdjust;simp only [h1,if_false];refine Prod.ext ?_ ?_
 ·cases lo with
  | none=>rfl
  | some v=>exact V5 v n 0
 ·cases hi with
  | none=>rfl
  | some v=>exact V5 v n n
theorem Vx (i j:Nat):Builtin.Slice.slicePlaces (i:Int) (j:Int) 1=j-i:=by
 unfold Builtin.Slice.slicePlaces;have h1:(1:Int) > 0:=by lia
 simp only [h1,if_true,Int.ediv_one];split <;> lia
theorem OQ {v:Value}{o:Option Int}{Q:Option Int->Shared->Prop}(p:IsPart v o)(h:Q o s):wpAny (model prog w) A (Builtin.Slice.slicePartIndex v) Q E s:=by
 cases p with
 | none=>exact slicePart_none h
 | int i t=>exact slicePart_int h
theorem Ol {sl:Addr}{vl vu:Value}{lo hi:Option Int}{n:Nat}{Q:Int×Int×Nat->Shared->Prop}(hs:s.heap.IsSliceOf sl vl vu .none)(pl:IsPart vl lo)(pu:IsPart vu hi)(h:Q (((sIx n 0 lo:Nat):Int),1,sIx n n hi-sIx n 0 lo) s):wpAny (model prog w) A (Builtin.Slice.sliceApplied (.ref sl) (pure (n:Int))) Q E s:=by
 obtain ⟨os,hos,hcs,hds⟩:=id hs;unfold Builtin.Slice.sliceApplied Builtin.Slice.sliceFields;refine wpAny_bind (wpAny_bind (wpAny_field hos hds (x:=vl) rfl (wpAny_bind (wpAny_field hos hds (x:=vu) rfl (wpAny_bind (wpAny_field hos hds (x:=.none) rfl (wpAny_pure ?_)))))));refine wpAny_bind (slicePart_none ?_);show wpAny _ _ (if ((1:Int) == 0)=true then _ else _) _ _ s;rw [if_neg (by decide)];refine wpAny_bind (OQ pl (wpAny_bind (OQ pu (wpAny_bind (wpAny_pure ?_)))));show wpAny _ _ (match Builtin.Slice.sliceAdjust lo hi 1 (n:Int) with | (lo,hi)=>pure (lo,(1:Int),Builtin.Slice.slicePlaces lo hi 1)) _ _ s;rw [Vw lo hi n];show wpAny _ _ (pure (((sIx n 0 lo:Nat):Int),(1:Int),Builtin.Slice.slicePlaces ((sIx n 0 lo:Nat):Int) ((sIx n n hi:Nat):Int) 1)) _ _ s;rw [Vx];exact wpAny_pure h
theorem WY (xs:Array Value)(i k:Nat):((List.range k).filterMap λ(m:Nat)=>xs[((i:Int)+(m:Int) * 1).toNat]?).toArray=((xs.toList.drop i).take k).toArray:=by
 have e:(λ(m:Nat)=>xs[((i:Int)+(m:Int) * 1).toNat]?)=λm=>xs[i+m]?:=by
  funext m
  have:((i:Int)+(m:Int) * 1).toNat=i+m:=by lia
  rw [this]
 rw [e];have:=pick_run xs i k;rw [List.filterMap_map] at this;have e2:((λx=>xs[x]?)∘λx=>i+x)=λm=>xs[i+m]?:=rfl;rw [e2] at this;rw [this]
theorem getItem_tuple_cut {t sl:Addr}{items:Array Value}{vl vu:Value}{lo hi:Option Int}{Q:Value->Shared->Prop}(ht:IsTup s.heap t items)(hs:s.heap.IsSliceOf sl vl vu .none)(pl:IsPart vl lo)(pu:IsPart vu hi)(hw:¬ (sIx items.size 0 lo=0/\sIx items.size items.size hi=items.size))(h:Q (.ref s.heap.objs.size) { s with heap:=s.heap.push { cls:=.type "tuple", data:=.seq ((items.toList.drop (sIx items.size 0 lo)).take (sIx items.size items.size hi-sIx items.size 0 lo)).toArray } })(hsz:items.size<=sizeLine):wpAny (model prog w) A (getItem (.ref t) (.ref sl)) Q E s:=by
 have htake:sizeOk (.seq ((items.toList.drop (sIx items.size 0 lo)).take (sIx items.size items.size hi-sIx items.size 0 lo)).toArray):=by
  show ((items.toList.drop (sIx items.size 0 lo)).take (sIx items.size items.size hi-sIx items.size 0 lo)).toArray.size<=sizeLine;rw [List.size_toArray,List.length_take,List.length_drop,Array.length_toList]
  lia
 have hj:sIx items.size items.size hi<=items.size:=Zr _ _ (Nat.le_refl _) hi;obtain ⟨os,hos,hcs,hds⟩:=id hs;have hTs:s.TypeIs (.ref sl) "slice" := ⟨os,hos,hcs⟩;unfold getItem
 try with_reducible refine wpAny_holding ?_
 first | refine wpAny_bind (wpAny_pure ?_) | skip
 refine wpAny_bind (wpAny_sequenceKey ht.typeIs (by decide) ?_);refine wpAny_bind (wpAny_callSpecial?_slot (name:=Str.ofString "__getitem__") ht.typeIs PyProof.Rows.slot_tuple_getitem
  (wpAny_call_entry PyProof.Rows.slot_tuple_getitem ht.typeIs entry_tuple_getitem ?_ (args_tuple_getitem _ _)))
 show wpAny _ _ (Builtin.Tuple.tupleItemsOf (.ref t) >>= _) _ _ s;refine wpAny_bind (tupleItemsOf_ ht ?_);refine wpAny_bind (wpAny_typeOf hTs ?_);rw [if_pos (by decide)];refine wpAny_bind (Ol hs pl pu ?_);have hno:¬ ((((sIx items.size 0 lo:Nat):Int) == 0 && (1:Int) == 1 && (sIx items.size items.size hi-sIx items.size 0 lo) == items.size)=true):=by
  intro q;rw [Bool.and_eq_true,Bool.and_eq_true] at q;have q1:((sIx items.size 0 lo:Nat):Int)=0:=eq_of_beq q.1.1;have q2:sIx items.size items.size hi-sIx items.size 0 lo=items.size:=eq_of_beq q.2;exact hw ⟨by lia,by lia⟩
 show wpAny _ _ (if (((sIx items.size 0 lo:Nat):Int) == 0 && (1:Int) == 1 && (sIx items.size items.size hi-sIx items.size 0 lo) == items.size)=true then _ else _) _ _ s;rw [if_neg hno,WY]
 first
  | exact wpAny_bind (m:=Builtin.Tuple.tupleExact _) (wpAny_newObj_type (wpAny_pure ⟨_,rfl,wpAny_pure h⟩) htake)
  | exact wpAny_bind (m:=Builtin.Tuple.tupleExact _) (wpAny_newObj_type (wpAny_bind (wpAny_pure (wpAny_pure ⟨_,rfl,wpAny_pure h⟩))) htake)
  | exact wpAny_bind (wpAny_bind (m:=Builtin.Tuple.tupleExact _) (wpAny_newObj_type (wpAny_pure (wpAny_pure ⟨_,rfl,wpAny_pure h⟩)) htake))
  | exact wpAny_bind (wpAny_bind (m:=Builtin.Tuple.tupleExact _) (wpAny_newObj_type (wpAny_pure ⟨_,rfl,wpAny_pure h⟩) htake))
end
end HT
namespace L2
open PySem PySem.Spec PyProof.Rows
abbrev TO:=St->Hp->(Option Int->Hp->Prop)->Prop
def PO (X:Cx)(e:Option Expr)(t:TO):Prop:=
 ∀(qQ:List (Addr×Obj))(s:Shared)(σ:St)(H:Hp)(Q:Option Int->Hp->Prop),Inv X qQ σ H s->t σ H Q ->
  wpAny (model X.prog X.w) X.A (evalPart e X.env) (λu s'=>∃o H',Inv X qQ σ H' s'/\IsPart u o/\Q o H') X.xe s
def X9:TO:=λ_ H Q=>Q none H
def Zs (t:TE):TO:=λσ H Q=>t σ H λx H1=>∃i,x=.int i/\Q (some i) H1
section
variable {X:Cx}{e:Expr}{te:TE}{lo hi:Option Expr}{tl th:TO}{pos p2:Pos}
theorem Ji:PO X none X9:=by
 intro qQ s σ H Q I h;rw [evalPart_none];exact wpAny_pure ⟨none,H,I,.none,h⟩
theorem GX (h:PE X e te):PO X (some e) (Zs te):=by
 intro qQ s σ H Q I hw;rw [evalPart_some];refine thn (h qQ s σ H _ I hw) λu s1 ⟨x,H1,I1,r1,q1⟩=>?_;obtain ⟨i,rfl,q⟩:=q1;obtain ⟨t,rfl⟩:=r1;exact ⟨some i,H1,I1,.int i t,q⟩
def SlR (X:Cx)(r:V->Option Int->Option Int->Hp->VK->Prop):Prop:=
 ∀(qQ:List (Addr×Obj))(s:Shared)(σ:St)(H:Hp)(x:V)(v vl vu:Value)(lo hi:Option Int)(sl:Addr)(Q:VK),Inv X qQ σ H s->RelV x v->s.heap.IsSliceOf sl vl vu .none->IsPart vl lo->IsPart vu hi->r x lo hi H Q ->
  ∃T id,typeLookup (.type T) "__getitem__" = pure (some (.builtin id))/\s.TypeIs v T/\wpAny (model X.prog X.w) X.A (getItem v (.ref sl)) (EP X qQ σ Q) X.xe s
def tSl (r:V->Option Int->Option Int->Hp->VK->Prop)(te:TE)(tl th:TO):TE:=λσ H Q=>te σ H λx H1=>tl σ H1 λl H2=>th σ H2 λu H3=>r x l u H3 Q
theorem GT {r:V->Option Int->Option Int->Hp->VK->Prop}(hr:SlR X r)(he:PE X e te)(hl:PO X lo tl)(hu:PO X hi th):PE X (.Subscript e (.Slice lo hi none p2) pos) (tSl r te tl th):=by
 intro qQ s σ H Q I h;refine Subscript_ (thn (he qQ s σ H _ I h) λv s1 ⟨x,H1,I1,r1,q1⟩=>?_);refine wpAny_Slice (thn (hl qQ s1 σ H1 _ I1 q1) λvl s2 ⟨l,H2,I2,pl,q2⟩=>thn (hu qQ s2 σ H2 _ I2 q2) λvu s3 ⟨u,H3,I3,pu,q3⟩=>?_);rw [evalPart_none];refine wpAny_pure ?_;have I4:Inv X qQ σ H3 { s3 with heap:=s3.heap.push { cls:=.type "slice", data:=.fields #[vl,vu,.none] } }:=I3.kept (t':=s3.toks) λb ob q=>Heap.get?_push_of_some _ q;obtain ⟨T,id,hT,ht,hg⟩:=hr qQ { s3 with heap:=s3.heap.push { cls:=.type "slice", data:=.fields #[vl,vu,.none] } } σ H3 x v vl vu l u s3.heap.objs.size Q I4 r1 (Heap.IsSliceOf.new ..) pl pu q3;show wpAny (model X.prog X.w) X.A (subscriptTail e (.Slice lo hi none p2) v (.ref s3.heap.objs.size)) (EP X qQ σ Q) X.xe { s3 with heap:=s3.heap.push { cls:=.type "slice", data:=.fields #[vl,vu,.none] } };exact tail_any (ops:=[.ref s3.heap.objs.size,v]) ht hT hg (by with_unfolding_all rfl)
def JN (xs:List V)(lo hi:Option Int):List V:=(xs.drop (HT.sIx xs.length 0 lo)).take (HT.sIx xs.length xs.length hi-HT.sIx xs.length 0 lo)
theorem Oz (xs:List V)(lo hi:Option Int):(JN xs lo hi).length<=xs.length:=by
 unfold JN;rw [List.length_take,List.length_drop]
 lia
def Zbl (K:W.Frag):V->Option Int->Option Int->Hp->VK->Prop:=λx lo hi H Q=>∃a xs,x=.ref a/\SqT K H a xs /\
 ¬ (HT.sIx xs.length 0 lo=0/\HT.sIx xs.length xs.length hi=xs.length)/\∀p,H p=none->Q (.ref p) (upd H p (.tup (JN xs lo hi)))
theorem Zt:SlR X (Zbl X.K):=by
 intro qQ s σ H x v vl vu lo hi sl Q I rx hs pl pu h;obtain ⟨a,xs,rfl,hx,hw,q⟩:=h;cases rx;obtain ⟨its,r,ht,hz⟩:=I.tuple hx;have qJ:its.toArray.size=xs.length:=by rw [List.size_toArray];exact r.length.symm
 refine ⟨"tuple", _,PyProof.Rows.slot_tuple_getitem.lookup,ht.typeIs,?_⟩;refine HT.getItem_tuple_cut ht hs pl pu (by rw [qJ];exact hw) ?_ (by rw [qJ];exact hz);rw [qJ];refine ⟨.ref s.heap.objs.size,_,I.laid (t':=s.toks) (o:=.tup (JN xs lo hi)) (λb ob q=>Heap.get?_push_of_some _ q) (Nat.le_refl _) ?_,rfl,q _ (I.hok.fresh (Nat.le_refl _))⟩;exact ⟨Nat.le_trans (Oz xs lo hi) hz,_,(r.drop (HT.sIx xs.length 0 lo)).take (HT.sIx xs.length xs.length hi-HT.sIx xs.length 0 lo),IsTup.new _ _⟩
def Zu (K:W.Frag):R2:=λx y H Q=>∃a b xs ys,x=.ref a/\y=.ref b/\SqT K H a xs/\SqT K H b ys/\xs≠[]/\xs.length+ys.length<=sizeLine /\
 (ys=[]->Q (.ref a) H)/\(ys≠[]->∀p,H p=none->Q (.ref p) (upd H p (.tup (xs++ys))))
theorem Vals.nil_iff {xs:List V}{us:List Value}(r:Vals xs us):us=[]↔xs=[]:=by
 cases r with
 | nil=>simp
 | cons _ _=>simp
theorem Ya:OpR X (binaryOp .Add) (Zu X.K):=by
 intro qQ s σ H x y v u Q I rx ry h;obtain ⟨a,b,xs,ys,rfl,rfl,ha,hb,hx,hz,q1,q2⟩:=h;cases rx;cases ry;obtain ⟨its,r1,p1,_⟩:=I.tuple ha;obtain ⟨its2,r2,p2,_⟩:=I.tuple hb;refine HT.cat_tup p1 p2 (λz=>hx (r1.nil_iff.mp z)) (λz=>⟨.ref a,H,I,rfl,q1 (r2.nil_iff.mp z)⟩) (λz=>?_) (by rw [<-r1.length,<-r2.length];exact hz);refine ⟨.ref s.heap.objs.size,_,I.laid (t':=s.toks) (o:=.tup (xs++ys)) (λb ob q=>Heap.get?_push_of_some _ q) (Nat.le_refl _) ?_,rfl,q2 (λw=>z (r2.nil_iff.mpr w)) _ (I.hok.fresh (Nat.le_refl _))⟩;exact ⟨by rw [List.length_append];exact hz,_,r1.append r2,IsTup.new _ _⟩
end
end L2
namespace L2
open PySem PySem.Spec PyProof.Rows
def ixN (n:Nat)(i:Int):Option Nat:=if 0<=i then (if i<n then some i.toNat else none) else if -(n:Int)<=i then some (i+n).toNat else none
def atI {α:Type}(xs:List α)(i:Int):Option α:=(ixN xs.length i).bind λj=>xs[j]?
theorem V6 {n:Nat}{i:Int}{j:Nat}(h:ixN n i=some j):seqIndex? i n=some j/\j<n/\-(n:Int)<=i/\i<n:=by
 unfold ixN at h;by_cases h0:0<=i
 ·rw [if_pos h0] at h;by_cases h1:i<n
  ·rw [if_pos h1] at h;have e:i.toNat=j:=Option.some.inj h;exact ⟨by rw [seqIndex_of h0 h1,e],by lia,by lia,h1⟩
  ·rw [if_neg h1] at h;cases h
 ·rw [if_neg h0] at h;by_cases h1:-(n:Int)<=i
  ·rw [if_pos h1] at h;have e:(i+n).toNat=j:=Option.some.inj h;exact ⟨by rw [seqIndex_neg (by lia) h1,e],by lia,h1,by lia⟩
  ·rw [if_neg h1] at h;cases h
theorem V7 {α:Type}{xs:List α}{i:Int}{v:α}(h:atI xs i=some v):∃j,seqIndex? i xs.length=some j/\xs[j]?=some v/\j<xs.length/\-(xs.length:Int)<=i/\i<xs.length:=by
 unfold atI at h;cases e:ixN xs.length i with
 | none=>rw [e] at h;cases h
 | some j=>
  rw [e] at h;obtain ⟨h1,h2,h3,h4⟩:=V6 e;exact ⟨j,h1,h,h2,h3,h4⟩
theorem Gh {α:Type}{xs:List α}{j:Nat}{v:α}(h:xs[j]?=some v):atI xs (j:Int)=some v:=by
 have hj:j<xs.length:=(List.getElem?_eq_some_iff.mp h).1;have e:ixN xs.length (j:Int)=some j:=by
  unfold ixN;rw [if_pos (by lia),if_pos (by lia)];simp
 unfold atI;rw [e];exact h
theorem U6 {α:Type}(xs:List α)(v:α):atI (xs++[v]) (-1)=some v:=by
 have hl:(xs++[v]).length=xs.length+1:=by simp
 have e:ixN (xs++[v]).length (-1)=some xs.length:=by
  unfold ixN;rw [hl,if_neg (by decide),if_pos (by lia)]
  congr 1
  lia
 unfold atI;rw [e];show (xs++[v])[xs.length]?=some v;simp
def Yb (b:Expr):Prop:=∀o i,subscripted b false o i=operate [o,i] (getItem o i)
def IxR (X:Cx)(r:R2):Prop:=
 ∀(value slice:Expr)(qQ:List (Addr×Obj))(s:Shared)(σ:St)(H:Hp)(x y:V)(v u:Value)(Q:VK),Inv X qQ σ H s->RelV x v->RelV y u->r x y H Q ->
  subscripted slice false v u=operate [v,u] (getItem v u)->wpAny (model X.prog X.w) X.A (subscriptTail value slice v u) (EP X qQ σ Q) X.xe s
def MtR (X:Cx)(id:String)(r:V->List V->Hp->VK->Prop):Prop:=
 ∀(qQ:List (Addr×Obj))(s:Shared)(σ:St)(H:Hp)(x:V)(xs:List V)(v:Value)(us:List Value)(Q:VK),Inv X qQ σ H s->RelV x v->Vals xs us->r x xs H Q ->
  wpAny (model X.prog X.w) X.A (call (.builtin id) (v::us)) (EP X qQ σ Q) X.xe s
section
variable {X:Cx}{a b:Expr}{ta tb:TE}{pos:Pos}
theorem Gn {r:R2}(hr:IxR X r)(ha:PE X a ta)(hb:PE X b tb)(hs:Yb b):PE X (.Subscript a b pos) (tOp r ta tb):=by
 intro qQ s σ H Q I h;exact Subscript_ (ZaI ha hb I h λv u s2 x y H2 I2 rx ry q=>hr a b qQ s2 σ H2 x y v u Q I2 rx ry q (hs _ _))
def Y6 (K:W.Frag):R2:=λx y H Q=>∃p xs i v,x=.ref p/\y=.int i/\SqL K H p xs/\atI xs i=some v/\Q v H
def Zv (K:W.Frag):R2:=λx y H Q=>∃p xs i v,x=.ref p/\y=.int i/\SqT K H p xs/\atI xs i=some v/\Q v H
theorem Yc:IxR X (Y6 X.K):=by
 intro value slice qQ s σ H x y v u Q I rx ry h hs;obtain ⟨p,xs,i,z,rfl,rfl,hq,he,q⟩:=h;cases rx;obtain ⟨t,rfl⟩:=ry;obtain ⟨its,r,pl,hz⟩:=I.list hq;obtain ⟨j,h1,h2,h3,h4,h5⟩:=V7 he;obtain ⟨w,ew,rw'⟩:=r.get h2;have hl:=r.length;have hn:=Ui;have fin:EP X qQ σ Q w s:=⟨z,H,I,rw',q⟩;by_cases h0:0<=i
 ·have hj:i.toNat=j:=by
   rw [seqIndex_of h0 h5] at h1;exact Option.some.inj h1
  exact item_listR pl.isList h0 (by lia) (by rw [hj];simpa using ew) fin hs
 ·have hj:(i+(its.toArray.size:Int)).toNat=j:=by
   rw [seqIndex_neg (by lia) h4] at h1;rw [List.size_toArray,<-hl];exact Option.some.inj h1
  exact subscriptTail_builtinR (x:=w) pl.isList.typeIs slot_list_getitem.lookup
   (wpAny_getItem_list_neg (Q:=λr s'=>r=w/\EP X qQ σ Q r s') pl.isList (by lia) (by rw [List.size_toArray] <;> lia) (by lia) (by rw [hj];simpa using ew) ⟨rfl,fin⟩) hs
theorem Zw:IxR X (Zv X.K):=by
 intro value slice qQ s σ H x y v u Q I rx ry h hs;obtain ⟨p,xs,i,z,rfl,rfl,hq,he,q⟩:=h;cases rx;obtain ⟨t,rfl⟩:=ry;obtain ⟨its,r,pl,hz⟩:=I.tuple hq;obtain ⟨j,h1,h2,h3,h4,h5⟩:=V7 he;obtain ⟨w,ew,rw'⟩:=r.get h2;have hl:=r.length;have hn:=Ui;have fin:EP X qQ σ Q w s:=⟨z,H,I,rw',q⟩;exact subscriptTail_builtinR (x:=w) pl.typeIs slot_tuple_getitem.lookup
  (getItem_tuple (j:=j) (Q:=λr s'=>r=w/\EP X qQ σ Q r s') pl (by lia) (by lia) (by rw [List.size_toArray,<-hl];exact h1) (by simpa using ew) ⟨rfl,fin⟩) hs
theorem Vy (its:List Value)(n j:Nat)(u:Value):Obj.mapSeq (·.setIfInBounds j u) { cls:=.type "list", data:=.seq its.toArray n }={ cls:=.type "list", data:=.seq (its.set j u).toArray n }:=by
 simp [Obj.mapSeq]
theorem Inv.lst {qQ:List (Addr×Obj)}{σ:St}{H:Hp}{s:Shared}{p:Addr}{xs:List V}(I:Inv X qQ σ H s)(h:H p=some (.lst xs)) :
  ∃(its:List Value)(n:Nat),Vals xs its/\s.heap.get? p=some { cls:=.type "list", data:=.seq its.toArray n }/\xs.length<=sizeLine:=by
 obtain ⟨z,its,n,r,e⟩:=I.hok p _ h;exact ⟨its,n,r,e,z⟩
theorem Inv.lstUpd {qQ:List (Addr×Obj)}{σ:St}{H:Hp}{s:Shared}{p:Addr}{xs ys:List V}{its its':List Value}{n n':Nat}{f:Obj->Obj}(I:Inv X qQ σ H s)(h:H p=some (.lst xs))(ho:s.heap.get? p=some { cls:=.type "list", data:=.seq its.toArray n })(hf:f { cls:=.type "list", data:=.seq its.toArray n }={ cls:=.type "list", data:=.seq its'.toArray n' })(r:Vals ys its')(hz:ys.length<=sizeLine)(t:Nat) :
  Inv X qQ σ (upd H p (.lst ys)) { s with heap:=s.heap.update p f,toks:=t }:=by
 have e:(s.heap.update p f).get? p=some { cls:=.type "list", data:=.seq its'.toArray n' }:=by
  rw [Heap.get?_update_self f ho (by rw [hf] <;> rfl),hf]
 refine I.write (x:=p) (e:=p) (by rw [h];trivial) (.inl rfl) (λb u hb q=>(Heap.get?_update_other _ _ (Ne.symm hb)).trans q) ⟨_,e⟩ ?_;exact ⟨hz,its',n',r,e⟩
def ZaM:V->V->V->Hp->(Hp->Prop)->Prop:=λo i v H Q=>∃p xs k j,o=.ref p/\i=.int k/\H p=some (.lst xs)/\ixN xs.length k=some j/\Q (upd H p (.lst (xs.set j v)))
theorem U7:Zbe X ZaM:=by
 intro qQ s σ H o i v ov iv u Q I ro ri rv h;obtain ⟨p,xs,k,j,rfl,rfl,hp,hj,q⟩:=h;cases ro;obtain ⟨t,rfl⟩:=ri;obtain ⟨its,n,r,ho,hz⟩:=I.lst hp;obtain ⟨h1,h2,h3,h4⟩:=V6 hj;have hl:=r.length;have hn:=Ui;have I':Inv X qQ σ (upd H p (.lst (xs.set j v))) { s with heap:=s.heap.update p (Obj.mapSeq (·.setIfInBounds j u)) }:=
  I.lstUpd hp ho (Vy its n j u) (r.set rv j) (by rw [List.length_set];exact hz) s.toks
 by_cases h0:0<=k
 ·have hk:k.toNat=j:=by
   rw [seqIndex_of h0 h4] at h1;exact Option.some.inj h1
  exact W.ki_setAt ho h0 (by lia) (by rw [List.size_toArray,<-hl];exact h4) (by rw [hk];exact ⟨_,I',q⟩)
 ·have hk:(k+(its.toArray.size:Int)).toNat=j:=by
   rw [seqIndex_neg (by lia) h3] at h1;rw [List.size_toArray,<-hl];exact Option.some.inj h1
  exact W.ki_setBack ho (by lia) (by rw [List.size_toArray,<-hl];exact h3) (by lia) (by rw [hk];exact ⟨_,I',q⟩)
theorem Up (lo hi:Option Int)(n:Nat):(sliceBounds lo hi none n).1=((HT.sIx n 0 lo:Nat):Int)/\(sliceBounds lo hi none n).2.1=((HT.sIx n n hi:Nat):Int)/\(sliceBounds lo hi none n).2.2=1:=by
 refine ⟨?_,?_,rfl⟩
 ·cases lo with
  | none=>simp [sliceBounds,HT.sIx]
  | some i=>
   simp only [sliceBounds,HT.sIx,Option.getD_none,show (1:Int) > 0 by decide,if_true];by_cases h:i<0
   ·simp only [h,if_true] <;> lia
   ·simp only [h,if_false] <;> lia
 ·cases hi with
  | none=>simp [sliceBounds,HT.sIx]
  | some i=>
   simp only [sliceBounds,HT.sIx,Option.getD_none,show (1:Int) > 0 by decide,if_true];by_cases h:i<0
   ·simp only [h,if_true] <;> lia
   ·simp only [h,if_false] <;> lia
theorem O1 (its:List Value)(lo hi:Option Int):slicePick its.toArray lo hi none=((its.drop (HT.sIx its.length 0 lo)).take (HT.sIx its.length its.length hi-HT.sIx its.length 0 lo)).toArray:=by
 obtain ⟨h1,h2,h3⟩:=Up lo hi its.toArray.size;unfold slicePick;rw [h1,h2,h3];simp only [sliceRange_one,pick_run,List.size_toArray] <;> rfl
def Zbm (K:W.Frag):V->Option Int->Option Int->Hp->VK->Prop:=λx lo hi H Q=>∃a xs,x=.ref a/\SqL K H a xs/\∀p,H p=none->Q (.ref p) (upd H p (.lst (JN xs lo hi)))
theorem Yd:SlR X (Zbm X.K):=by
 intro qQ s σ H x v vl vu lo hi sl Q I rx hs pl pu h;obtain ⟨a,xs,rfl,hx,q⟩:=h;cases rx;obtain ⟨its,r,ht,hz⟩:=I.list hx;have qJ:=r.length;refine ⟨"list", _,slot_list_getitem.lookup,ht.isList.typeIs,?_⟩;refine wpAny_getItem_list_slice ht.isList hs pl pu .none (by simp) ?_ (by rw [List.size_toArray] <;> lia);rw [O1,<-qJ];refine ⟨.ref s.heap.objs.size,_,I.laid (t':=s.toks) (o:=.lst (JN xs lo hi)) (λb ob q=>Heap.get?_push_of_some _ q) (Nat.le_refl _) ?_,rfl,q _ (I.hok.fresh (Nat.le_refl _))⟩;exact ⟨Nat.le_trans (Oz xs lo hi) hz,_,0,(r.drop (HT.sIx xs.length 0 lo)).take (HT.sIx xs.length xs.length hi-HT.sIx xs.length 0 lo),Heap.get?_push_size _ rfl⟩
def Uq:V->Bool
 | .non=>true
 | .bl _=>true
 | .int _=>true
 | .str _=>true
 | _=>false
def eqV:V->V->Bool
 | .non,.non=>true
 | .bl a,.bl b=>a == b
 | .bl a,.int b=>(if a then 1 else 0) == b
 | .int a,.bl b=>a == (if b then 1 else 0)
 | .int a,.int b=>a == b
 | .str a,.str b=>a == b
 | _,_=>false
theorem Zx {A:Around}{s:Shared}{y x:V}{u v:Value}(ry:RelV y u)(rx:RelV x v)(fy:Uq y=true)(fx:Uq x=true):SeqAt.EqAt A s u v (eqV y x):=by
 cases y with
 | non=>
  cases ry;cases x with
  | non=>cases rx;exact SeqAt.EqAt.same _
  | bl b=>cases rx;exact SeqAt.EqAt.none_bool b
  | int b=>obtain ⟨t,rfl⟩:=rx;exact SeqAt.EqAt.none_int b t
  | str b=>obtain ⟨t,rfl⟩:=rx;exact SeqAt.EqAt.none_str b t
  | _=>exact absurd (show false=true from fx) Bool.false_ne_true
 | bl a=>
  cases ry;cases x with
  | non=>cases rx;exact SeqAt.EqAt.bool_none a
  | bl b=>cases rx;exact SeqAt.EqAt.bool_bool a b
  | int b=>obtain ⟨t,rfl⟩:=rx;exact SeqAt.EqAt.bool_int a b t
  | str b=>obtain ⟨t,rfl⟩:=rx;exact SeqAt.EqAt.bool_str a b t
  | _=>exact absurd (show false=true from fx) Bool.false_ne_true
 | int a=>
  obtain ⟨t',rfl⟩:=ry;cases x with
  | non=>cases rx;exact SeqAt.EqAt.int_none a t'
  | bl b=>cases rx;exact SeqAt.EqAt.int_bool a t' b
  | int b=>obtain ⟨t,rfl⟩:=rx;exact SeqAt.EqAt.int_int a t' b t
  | str b=>obtain ⟨t,rfl⟩:=rx;exact SeqAt.EqAt.int_str a t' b t
  | _=>exact absurd (show false=true from fx) Bool.false_ne_true
 | str a=>
  obtain ⟨t',rfl⟩:=ry;cases x with
  | non=>cases rx;exact SeqAt.EqAt.str_none a t'
  | bl b=>cases rx;exact SeqAt.EqAt.str_bool a t' b
  | int b=>obtain ⟨t,rfl⟩:=rx;exact SeqAt.EqAt.str_int a t' b t
  | str b=>obtain ⟨t,rfl⟩:=rx;exact SeqAt.EqAt.str_str a t' b t
  | _=>exact absurd (show false=true from fx) Bool.false_ne_true
 | _=>exact absurd (show false=true from fy) Bool.false_ne_true
def eqU (x:V)(u:Value):Bool:=match u with
 | .none=>eqV .non x
 | .bool b=>eqV (.bl b) x
 | .int i _=>eqV (.int i) x
 | .str z _=>eqV (.str z) x
 | _=>false
theorem XN {x y:V}{u:Value}(r:RelV y u)(f:Uq y=true):eqU x u=eqV y x:=by
 cases y with
 | non=>cases r;rfl
 | bl b=>cases r;rfl
 | int i=>obtain ⟨t,rfl⟩:=r;rfl
 | str z=>obtain ⟨t,rfl⟩:=r;rfl
 | _=>exact absurd (show false=true from f) Bool.false_ne_true
theorem OA {x:V}:∀{xs:List V}{us:List Value},Vals xs us->xs.all Uq=true->us.any (eqU x)=xs.any λy=>eqV y x
 | _,_,.nil,_=>rfl
 | y::xs,u::us,.cons r t,f=>by
  rw [List.all_cons,Bool.and_eq_true] at f;rw [List.any_cons,List.any_cons,XN r f.1,OA t f.2]
theorem J0 {A:Around}{s:Shared}{x:V}{v:Value}(rx:RelV x v)(fx:Uq x=true):∀{xs:List V}{us:List Value},Vals xs us->xs.all Uq=true->∀u∈us,SeqAt.EqAt A s u v (eqU x u)
 | _,_,.nil,_=>λu hu=>by cases hu
 | y::xs,u::us,.cons r t,f=>λu' hu=>by
  rw [List.all_cons,Bool.and_eq_true] at f;rcases List.mem_cons.mp hu with rfl | hu
  ·rw [XN r f.1];exact Zx r rx f.1 fx
  ·exact J0 rx fx t f.2 u' hu
def inV (x:V)(xs:List V):Bool:=xs.any λy=>eqV y x
def rIn (K:W.Frag)(neg:Bool):R2:=λx y H Q=>∃p xs,y=.ref p/\(SqL K H p xs\/SqT K H p xs)/\Uq x=true/\xs.all Uq=true/\Q (.bl (if neg then !inV x xs else inV x xs)) H
theorem V8:OpR X (compareOp .In) (rIn X.K false):=by
 intro qQ s σ H x y v u Q I rx ry h;obtain ⟨p,xs,rfl,hq,fx,fs,q⟩:=h;cases ry;rcases hq with hq | hq
 ·obtain ⟨its,r,pl,hz⟩:=I.list hq;refine SeqAt.in_listAt (eqU x) pl.isList (λw hw=>J0 rx fx r fs w (by simpa using hw)) ⟨.bl _,H,I,rfl,?_⟩;rw [show its.toArray.any (eqU x)=its.any (eqU x) by simp,OA r fs];exact q
 ·obtain ⟨its,r,pl,hz⟩:=I.tuple hq;refine SeqAt.in_tupleAt (eqU x) pl (λw hw=>J0 rx fx r fs w (by simpa using hw)) ⟨.bl _,H,I,rfl,?_⟩;rw [show its.toArray.any (eqU x)=its.any (eqU x) by simp,OA r fs];exact q
theorem Ur:OpR X (compareOp .NotIn) (rIn X.K true):=by
 intro qQ s σ H x y v u Q I rx ry h;obtain ⟨p,xs,rfl,hq,fx,fs,q⟩:=h;cases ry;rcases hq with hq | hq
 ·obtain ⟨its,r,pl,hz⟩:=I.list hq;refine SeqAt.notIn_listAt (eqU x) pl.isList (λw hw=>J0 rx fx r fs w (by simpa using hw)) ⟨.bl _,H,I,rfl,?_⟩;rw [show its.toArray.any (eqU x)=its.any (eqU x) by simp,OA r fs];exact q
 ·obtain ⟨its,r,pl,hz⟩:=I.tuple hq;refine SeqAt.notIn_tupleAt (eqU x) pl (λw hw=>J0 rx fx r fs w (by simpa using hw)) ⟨.bl _,H,I,rfl,?_⟩;rw [show its.toArray.any (eqU x)=its.any (eqU x) by simp,OA r fs];exact q
theorem Us:JQ X (.builtin "len") (λxs H Q=>∃p ys,xs=[.ref p]/\(SqL X.K H p ys\/SqT X.K H p ys)/\Q (.int ys.length) H):=by
 intro qQ s σ H xs us Q I r h;obtain ⟨p,ys,rfl,hq,q⟩:=h;obtain ⟨u,rfl,rx⟩:=X6 r;cases rx;have hn:=Ui;rcases hq with hq | hq
 ·obtain ⟨its,r',pl,hz⟩:=I.list hq;have qJ:=r'.length;exact Calls.call_len_list pl.isList (by simp only [List.size_toArray] <;> lia) ⟨.int ys.length,H,I.tok _,⟨s.toks+1,by rw [List.size_toArray,qJ]⟩,q⟩
 ·obtain ⟨its,r',pl,hz⟩:=I.tuple hq;have qJ:=r'.length;exact len_tuple pl (by simp only [List.size_toArray] <;> lia) ⟨.int ys.length,H,I.tok _,⟨s.toks+1,by rw [List.size_toArray,qJ]⟩,q⟩
theorem Ut:JQ X (.type "list") (λxs H Q=>∃p ys,xs=[.ref p]/\(SqL X.K H p ys\/SqT X.K H p ys)/\∀l,H l=none->Q (.ref l) (upd H l (.lst ys))):=by
 intro qQ s σ H xs us Q I r h;obtain ⟨p,ys,rfl,hq,q⟩:=h;obtain ⟨u,rfl,rx⟩:=X6 r;cases rx;have fin:∀(its:List Value),Vals ys its->ys.length<=sizeLine->∀(h':Heap)(c':Nat),(∀b o',s.heap.get? b=some o'->h'.get? b=some o') ->
   h'.get? s.heap.objs.size=some { cls:=.type "list", dict:=none,data:=.seq its.toArray c',slots:=#[] }->EP X qQ σ Q (.ref s.heap.objs.size) { s with heap:=h' }:=λits r' hz h' c' kp e=>
  ⟨.ref s.heap.objs.size,_,I.laid (t':=s.toks) kp (Nat.le_refl _) (show ObjOk X.prog X.w _ h' _ (.lst ys) from ⟨hz,its,c',r',e⟩),rfl,q _ (I.hok.fresh (Nat.le_refl _))⟩
 rcases hq with hq | hq
 ·obtain ⟨its,r',pl,hz⟩:=I.list hq;have qJ:=r'.length;obtain ⟨o,ho,hc,n,hd⟩:=pl.isList;exact call_list_seq p (.inl rfl) ho hc hd (λh' c' kp e=>fin its r' hz h' c' kp e) (by simp only [List.size_toArray] <;> lia)
 ·obtain ⟨its,r',pl,hz⟩:=I.tuple hq;have qJ:=r'.length;obtain ⟨o,ho,hc,n,hd⟩:=pl;exact call_list_seq p (.inr rfl) ho hc hd (λh' c' kp e=>fin its r' hz h' c' kp e) (by simp only [List.size_toArray] <;> lia)
theorem O2:JQ X (.type "tuple") (λxs H Q=>∃p ys,xs=[.ref p]/\((SqL X.K H p ys/\∀l,H l=none->Q (.ref l) (upd H l (.tup ys)))\/(SqT X.K H p ys/\Q (.ref p) H))):=by
 intro qQ s σ H xs us Q I r h;obtain ⟨p,ys,rfl,h⟩:=h;obtain ⟨u,rfl,rx⟩:=X6 r;cases rx;rcases h with ⟨hq,q⟩ | ⟨hq,q⟩
 ·obtain ⟨its,r',pl,hz⟩:=I.list hq;have qJ:=r'.length;refine call_tuple_list pl.isList (λh' kp=>?_) (by simp only [List.size_toArray] <;> lia);have I1:Inv X qQ σ H { s with heap:=h' }:=I.kept (t':=s.toks) kp;have I2:Inv X qQ σ (upd H h'.objs.size (.tup ys)) { s with heap:=h'.push { cls:=.type "tuple", data:=.seq its.toArray } }:=
   I1.laid (t':=s.toks) (λb o e=>Heap.get?_push_of_some _ e) (Nat.le_refl _) (show ObjOk X.prog X.w _ _ _ (.tup ys) from ⟨hz,its,r',IsTup.new _ _⟩)
  exact ⟨.ref h'.objs.size,_,I2,rfl,q _ (I1.hok.fresh (Nat.le_refl _))⟩
 ·obtain ⟨its,r',pl,hz⟩:=I.tuple hq;exact call_tuple_same pl ⟨.ref p,H,I,rfl,q⟩
def tyV (K:W.Frag)(T:String)(x:V)(H:Hp):Prop:=match x with
 | .str _=>T = "str"
 | .int _=>T = "int"
 | .ref p=>(T = "list" /\ ∃xs,SqL K H p xs)\/(T = "tuple" /\ ∃o,K.lookup p=some o/\o.cls=.type "tuple" /\ o.dict=none) \/
   (T = "dict" /\ ((∃kvs,H p=some (.dK kvs))\/∃kvs,H p=some (.dT kvs)))\/(T = "set" /\ ∃S n,H p=some (.set S n))
 | _=>False
theorem V9 {qQ:List (Addr×Obj)}{σ:St}{H:Hp}{s:Shared}{T:String}{x:V}{v:Value}(I:Inv X qQ σ H s)(r:RelV x v)(ty:tyV X.K T x H) :
  s.TypeIs v T/\∀a,v=.ref a->∃ob,s.heap.get? a=some ob/\ob.dict=none:=by
 cases x with
 | str z=>
  obtain ⟨t,rfl⟩:=r;cases (show T = "str" from ty);exact ⟨typeIs_str s z t,λ_ e=>nomatch e⟩
 | int i=>
  obtain ⟨t,rfl⟩:=r;cases (show T = "int" from ty);exact ⟨typeIs_int s i t,λ_ e=>nomatch e⟩
 | ref p=>
  cases r;rcases ty with ⟨rfl,xs,hq⟩ | ⟨rfl,o,hk,hc,hd⟩ | ⟨rfl,hk⟩ | ⟨rfl,S,n,hk⟩
  ·obtain ⟨its,_,pl,_⟩:=I.list hq;refine ⟨pl.isList.typeIs,λa e=>?_⟩;cases e;obtain ⟨o,n,e,c,hd,_⟩:=pl;exact ⟨o,e,hd⟩
  ·refine ⟨⟨o,I.kIn p o hk,hc⟩,λa e=>?_⟩;cases e;exact ⟨o,I.kIn _ o hk,hd⟩
  ·have z:∃o,s.heap.get? p=some o/\o.ExactDict:=by
    rcases hk with ⟨kvs,hk⟩ | ⟨kvs,hk⟩
    ·obtain ⟨_,_,_,_,o,_,_,e,ex,_⟩:=I.hok p _ hk;exact ⟨o,e,ex⟩
    ·obtain ⟨_,_,_,_,o,_,_,e,ex,_⟩:=I.hok p _ hk;exact ⟨o,e,ex⟩
   obtain ⟨o,e,ex⟩:=z;refine ⟨⟨o,e,ex.1⟩,λa e2=>?_⟩;cases e2;exact ⟨o,e,ex.2.1⟩
  ·obtain ⟨o,_,_,_,e,ex,_⟩:=I.hok p _ hk;refine ⟨⟨o,e,ex.1⟩,λa e2=>?_⟩;cases e2;exact ⟨o,e,ex.2.1⟩
 | _=>exact False.elim ty
def ZbG (K:W.Frag)(T:String)(r:V->List V->Hp->VK->Prop)(to:TE):TE:=λσ H Q=>to σ H λx H1=>tyV K T x H1/\r x [] H1 Q
def tBM (K:W.Frag)(T:String)(r:V->List V->Hp->VK->Prop)(to:TE)(t:TA):TE:=λσ H Q=>to σ H λx H1=>tyV K T x H1/\t σ H1 λxs H2=>r x xs H2 Q
variable {o e:Expr}{es:List Expr}{to:TE}{t:TA}{name:Str}{apos qV:Pos}{T id:String}{r:V->List V->Hp->VK->Prop}
theorem U8 (pa:PlainAttrs T)(slot:Slot T name id)(hty:typeOf (.builtin id)=pure (.type "method_descriptor"))(hm:MtR X id r)(ho:PE X o to)(hbase:attributeBase o name X.env (eval o X.env)=eval o X.env:=by rfl)(hline:(apos.endLine == qV.line)=true:=by rfl):PE X (.Call (.Attribute o name apos) [] [] qV) (ZbG X.K T r to):=by
 intro qQ s σ H Q I h;refine wpAny_Call_method0_late hbase hline (thn (ho qQ s σ H _ I h) λv s1 ⟨x,H1,I1,r1,ty,q1⟩=>?_);obtain ⟨h1,h2⟩:=V9 I1 r1 ty;exact ⟨T,id,pa,slot,hty,h1,h2,Calls.callWith_builtin rfl (PySem.evalArgs_none (hm qQ s1 σ H1 x [] v [] Q I1 r1 .nil q1))⟩
theorem J1 (pa:PlainAttrs T)(slot:Slot T name id)(hty:typeOf (.builtin id)=pure (.type "method_descriptor"))(hm:MtR X id r)(ho:PE X o to)(ha:PA X (e::es) t)(hbase:attributeBase o name X.env (eval o X.env)=eval o X.env:=by rfl)(hfew:((backTo qV (starEach (e::es) X.env)).all (λx=>!x.1) && (backToKw qV (keywordEach [] X.env)).all (λx=>x.1.isSome)
   && decide ((e::es).length+([]:List Keyword).length+(if ([]:List Keyword).isEmpty then 0 else 1)<30))=true:=by rfl)(hline:(apos.endLine == qV.line)=true:=by rfl)(hs:starEach (e::es) X.env=(false,eval e X.env)::starEach es X.env:=by rfl)(hplain:(backTo qV (starEach es X.env)).any (·.1)=false:=by rfl) :
  PE X (.Call (.Attribute o name apos) (e::es) [] qV) (tBM X.K T r to t):=by
 intro qQ s σ H Q I h;refine wpAny_Call_method_late hbase hfew hline rfl (thn (ho qQ s σ H _ I h) λv s1 ⟨x,H1,I1,r1,ty,q1⟩=>?_);obtain ⟨h1,h2⟩:=V9 I1 r1 ty;refine ⟨T,id,pa,slot,hty,h1,h2,?_⟩;have hA:=ha qV qQ s1 σ H1 _ I1 q1;rw [hs] at hA ⊢;refine Calls.callWith_builtin (by show (false || (backTo qV (starEach es X.env)).any (·.1))=false;rw [hplain] <;> rfl) (Calls.evalArgs_plain ?_);exact thn hA λus s2 ⟨vs,H2,I2,r2,q2⟩=>hm qQ s2 σ H2 x vs v us Q I2 r1 r2 q2
/- xs.append(e),list.index on a module's tuple .. are MtR facts of 06m -/
end
end L2
namespace L2
open PySem PySem.Spec PyProof.Rows
def MtM (X:Cx)(id:String)(r:V->List V->Hp->VK->Prop):Prop:=
 ∀(qQ:List (Addr×Obj))(s:Shared)(σ:St)(H:Hp)(x:V)(xs:List V)(v:Value)(us:List Value)(Q:VK),Inv X qQ σ H s->RelV x v->Vals xs us->r x xs H Q ->
  wpAny (model X.prog X.w) X.A (call (.builtin id) (v::us)) (EP X qQ σ Q) X.xe s
theorem Vals.one:∀{x:V}{us:List Value},Vals [x] us->∃u,us=[u]/\RelV x u
 | _,_,.cons r .nil=>⟨_,rfl,r⟩
theorem Vals.two:∀{x y:V}{us:List Value},Vals [x,y] us->∃u v,us=[u,v]/\RelV x u/\RelV y v
 | _,_,_,.cons r (.cons q .nil)=>⟨_,_,rfl,r,q⟩
theorem Vals.zero:∀{us:List Value},Vals [] us->us=[]
 | _,.nil=>rfl
theorem Vals.dropLast {xs:List V}{us:List Value}(h:Vals xs us):Vals xs.dropLast us.dropLast:=by
 induction h with
 | nil=>exact .nil
 | cons r t ih=>
  cases t with
  | nil=>exact .nil
  | cons q t'=>exact .cons r ih
theorem Vz {α:Type}(l:List α):l.eraseIdx (l.length-1)=l.dropLast:=by
 induction l with
 | nil=>rfl
 | cons a r ih=>
  cases r with
  | nil=>rfl
  | cons b r=>
   have e:(a::b::r).length-1=((b::r).length-1)+1:=by
    have h1:(a::b::r).length=r.length+2:=rfl;have h2:(b::r).length=r.length+1:=rfl
    lia
   rw [e,List.eraseIdx_cons_succ,ih]
   all_goals rfl
section
variable {X:Cx}{qQ:List (Addr×Obj)}{σ:St}{H:Hp}{s:Shared}{l b:Addr}{xs ys zs:List V}
theorem Inv.lset {its its':List Value}{n:Nat}{f:Array Value->Array Value}{t':Nat}(I:Inv X qQ σ H s)(hH:H l=some (.lst xs))(e:s.heap.get? l=some { cls:=.type "list", data:=.seq its.toArray n })(hf:f its.toArray=its'.toArray)(hv:Vals ys its')(hz:ys.length<=sizeLine) :
  Inv X qQ σ (upd H l (.lst ys)) { s with heap:=s.heap.update l (Obj.mapSeq f),toks:=t' }:=by
 have q:=PySem.IsL.update e f;rw [hf] at q;refine I.write (x:=l) (e:=l) (by rw [hH];exact trivial) (.inl rfl) (λb' u hb hu=>(Heap.get?_update_other s.heap (Obj.mapSeq f) (Ne.symm hb)).trans hu) ⟨_,q⟩ ?_;exact ⟨hz,its',_,hv,q⟩
theorem Inv.lnew {its:List Value}{t':Nat}(I:Inv X qQ σ H s)(hv:Vals ys its)(hz:ys.length<=sizeLine) :
  Inv X qQ σ (upd H s.heap.objs.size (.lst ys)) { s with heap:=s.heap.push { cls:=.type "list", data:=.seq its.toArray },toks:=t' }:=
 I.laid (λ_ _ q=>Heap.get?_push_of_some _ q) (Nat.le_refl _) ⟨hz,its,0,hv,Heap.get?_push_size _ rfl⟩
theorem Inv.fresh (I:Inv X qQ σ H s):H s.heap.objs.size=none:=I.hok.fresh (Nat.le_refl _)
theorem Inv.lstM (I:Inv X qQ σ H s)(hH:H l=some (.lst xs)):xs.length<=sizeLine/\∃(its:List Value)(n:Nat),Vals xs its/\xs.length=its.length/\s.heap.get? l=some { cls:=.type "list", data:=.seq its.toArray n }:=by
 obtain ⟨z,its,n,r,e⟩:=I.hok l _ hH;exact ⟨z,its,n,r,r.length,e⟩
theorem U9 {n:Nat}(h:n<=sizeLine):Builtin.List.listTooLong n=false:=by
 unfold Builtin.List.listTooLong;exact decide_eq_false (by lia)
end
section
variable {X:Cx}
def Ye:V->List V->Hp->VK->Prop:=λx vs H Q=>∃l xs y,x=.ref l/\vs=[y]/\H l=some (.lst xs)/\xs.length<sizeLine/\Q .non (upd H l (.lst (xs++[y])))
theorem GR:MtM X "list.append" Ye:=by
 intro qQ s σ H x vs v us Q I rx rv h;obtain ⟨l,xs,y,rfl,rfl,hH,hz,q⟩:=h;cases rx;obtain ⟨u,rfl,ru⟩:=rv.one;obtain ⟨z,its,n,r,hl,e⟩:=I.lstM hH;refine call_meets F.slot_list_append ⟨_,e,rfl⟩ F.entry_list_append (F.args_list_append_2 _ _) (PySem.list_append l its.toArray n u (by rw [List.size_toArray];lia)) ⟨e,?_⟩;refine ⟨.non,_,I.lset (its':=its++[u]) hH e (by simp) (r.append (.cons ru .nil)) ?_,rfl,q⟩;rw [List.length_append,List.length_singleton]
 lia
def Yf:V->List V->Hp->VK->Prop:=λx vs H Q=>∃l b xs zs,x=.ref l/\vs=[.ref b]/\H l=some (.lst xs)/\H b=some (.lst zs)/\xs.length+zs.length<=sizeLine/\Q .non (upd H l (.lst (xs++zs)))
theorem Wa:MtM X "list.extend" Yf:=by
 intro qQ s σ H x vs v us Q I rx rv h;obtain ⟨l,b,xs,zs,rfl,rfl,hH,hB,hz,q⟩:=h;cases rx;obtain ⟨u,rfl,ru⟩:=rv.one;cases ru;obtain ⟨z,its,n,r,hl,e⟩:=I.lstM hH;obtain ⟨z2,its2,n2,r2,hl2,e2⟩:=I.lstM hB;have hsz:its.toArray.size+its2.toArray.size<=sizeLine:=by rw [List.size_toArray,List.size_toArray];lia
 have hlong:¬ (!its.toArray.isEmpty && Builtin.List.listTooLong (its.toArray.size+its2.toArray.size))=true:=by
  rw [U9 hsz,Bool.and_false];exact Bool.false_ne_true
 refine call_meets F.slot_list_extend ⟨_,e,rfl⟩ F.entry_list_extend (F.args_list_extend_2 _ _)
  (AutoSeq1.list_extend_list_list_0 l its.toArray n b its2.toArray n2 hlong (by rw [List.size_toArray];lia) (by lia)) ⟨e,e2,?_⟩
 refine ⟨.non,_,I.lset (its':=its++its2) hH e (by simp) (r.append r2) ?_,rfl,q⟩;rw [List.length_append]
 lia
def ZbH:V->List V->Hp->VK->Prop:=λx vs H Q=>∃l xs y,x=.ref l/\vs=[]/\H l=some (.lst xs)/\xs[xs.length-1]?=some y/\Q y (upd H l (.lst xs.dropLast))
theorem Va:MtM X "list.pop" ZbH:=by
 intro qQ s σ H x vs v us Q I rx rv h;obtain ⟨l,xs,y,rfl,rfl,hH,hy,q⟩:=h;cases rx;have hus:=rv.zero;subst hus;obtain ⟨z,its,n,r,hl,e⟩:=I.lstM hH;obtain ⟨u,hu,ru⟩:=r.get hy;have hy':its.toArray[its.toArray.size-1]?=some u:=by
  show its.toArray[its.length-1]?=some u;rw [<-Array.getElem?_toList,<-hl];exact hu
 refine call_meets F.slot_list_pop ⟨_,e,rfl⟩ F.entry_list_pop (F.args_list_pop_1 _) (MeetsSeq.list_pop_last l its.toArray n u hy' (by rw [List.size_toArray];lia)) ⟨e,?_⟩;refine ⟨y,_,I.lset (its':=its.dropLast) hH e ?_ r.dropLast ?_,ru,q⟩
 ·show its.toArray.eraseIdxIfInBounds (its.toArray.size-1)=its.dropLast.toArray;rw [List.size_toArray,List.eraseIdxIfInBounds_toArray,Vz]
 ·rw [List.length_dropLast]
  lia
def ZbI:R2:=λx y H Q=>∃l b xs zs,x=.ref l/\y=.ref b/\H l=some (.lst xs)/\H b=some (.lst zs)/\xs.length+zs.length<=sizeLine/\∀p,H p=none->Q (.ref p) (upd H p (.lst (xs++zs)))
theorem Vb:OpR X (binaryOp .Add) ZbI:=by
 intro qQ s σ H x y v u Q I rx ry h;obtain ⟨l,b,xs,zs,rfl,rfl,hH,hB,hz,q⟩:=h;cases rx;cases ry;obtain ⟨z,its,n,r,hl,e⟩:=I.lstM hH;obtain ⟨z2,its2,n2,r2,hl2,e2⟩:=I.lstM hB;refine PySem.P.add_list e e2 ?_ (by rw [List.size_toArray,List.size_toArray];lia);have ea:its.toArray++its2.toArray=(its++its2).toArray:=by simp
 rw [ea];exact ⟨.ref _,_,I.lnew (t':=s.toks) (r.append r2) (by rw [List.length_append];lia),rfl,q _ I.fresh⟩
end
end L2
namespace Att
open PySem PySem.W PySem.Calls PyProof.Rows
theorem OB {P:Params}{h:Heap}:∀(ns:List Int)(vs:List Value),WellAll P h vs (ns.map WData.int)->IntsAre vs ns:=by
 intro ns
 induction ns with
 | nil=>
  intro vs w;rw [List.map_nil] at w;cases w;exact .nil
 | cons n ns ih=>
  intro vs w;rw [List.map_cons] at w;cases w with
  | cons a b=>
   cases a;exact .cons _ _ (ih _ b)
theorem Wb {l:OpenLaw}{n:Nat}(hn:l.most=some n){P:Params}{h:Heap}{args:List WData}{vals:List Value}(hpre:l.row.toRowW.claim.pre args=true)(hwl:WellAll P h vals args) :
  ∃a vs ns,vals=[Value.ref a]/\args=[WData.list (ns.map WData.int)]/\h.get? a=some { cls:=.type "list", data:=.seq vs.toArray }/\IntsAre vs ns/\ns.length<=n:=by
 have hsh:WShape.hasAll [] args [.list .int]=true:=(pre_splitW hpre).1;have hc:l.pre.holds [] { args:=args }=true:=(pre_splitW hpre).2;obtain ⟨d,r,rfl,h1,h2⟩:=hasAllW_cons hsh;obtain rfl:=hasAllW_nil h2;obtain ⟨xs,rfl,h3⟩:=hasW_list h1;obtain ⟨ns,rfl⟩:=items_int h3;have qJ:ns.length<=n:=by
  unfold OpenLaw.pre at hc;have h4:(WTm.not (.lt (.lit (.int (n:Int))) (.len (.arg 0)))).holds [] { args:=[.list (ns.map .int)] }=true:=by
   have h4:=(holds_andW hc).1;rw [hn] at h4;exact h4
  have h5:=condW_of h4 (w_not (w_lt w_lit (w_len_list (w_arg rfl))));rw [List.length_map] at h5;refine Nat.le_of_not_lt λq=>?_;have q':(n:Int)<((ns.length:Nat):Int):=by lia
  first
   | (rw [decide_eq_true q'] at h5;exact absurd h5 (by decide))
   | (simp at h5;lia)
 cases hwl with
 | cons w1 w2=>
  cases w2;cases w1 with
  | list ho qX=>exact ⟨_,_,ns,rfl,rfl,ho,OB ns _ qX,qJ⟩
theorem Wc (l:OpenLaw)(args:List WData):l.row.toRowW.claim.post args (.bool true) args=true:=
 postW_of (r:=l.row.toRowW) (X:=(true == true))
  (show WShape.has [] (.bool true) .bool=true by first | rfl | decide | simp [WShape.has,WShape.arms,WShape.armsAll])
  (show (WTm.eq .res (.lit (.bool true))).value [] { args:=args,res:=some (.bool true),after:=args }=some (.bool (true == true)) from w_eq_bool (w_res rfl) w_lit) rfl
theorem attach_call {l:OpenLaw}{n:Nat}{q:Program}{loose:List Str}{XP:(Str->Option Value)->Heap->Prop}{YP:World->Heap->Prop}{d:DefRec}(hn:l.most=some n)(hdf:d.params.defaults=[])(call:∀(w:World)(s₀ s₁:Shared)(mg mb:Str->Option Value)(fa:Addr)(o:Obj)(pm cd doc:Value)(a:Addr)(vs:List Value)(ns:List Int),
   Ground q loose [] XP w s₀ mg mb s₁.heap->YP w s₁.heap ->
   s₁.heap.get? fa=some o->o.data=.func (docDef d.name d.params d.body d.scope pm cd doc)->s₁.heap.CodeRec cd d.name->mg d.name=some (.ref fa) ->
   s₁.heap.get? a=some { cls:=.type "list", data:=.seq vs.toArray }->IntsAre vs ns->ns.length<=n->s₁.gens=#[] ->
   codeAny (model l.prog w) callerA (.call (.ref fa) ⟨[.ref a],[]⟩) (λr s'=>r=.ok (.ret (.bool true))/\OldK s₁.heap s'.heap/\s'.os=s₁.os/\AllBare s'.gens) s₁) :
  WalkO q loose XP YP l.row.toRowW d [] (λf vs=>PySem.call f vs):=by
 intro w s₀ s₁ mg mb G Y fa o pm cd doc dV kV ho hd hcd hD hmg hg args vals as hpre hlay hrd hwl hlo;obtain rfl:dV=.none:=Dflts.none hD hdf;obtain rfl:kV=.none:=Dflts.noKw hD;obtain ⟨a,vs,ns,rfl,rfl,hobj,hints,qJ⟩:=Wb hn hpre hwl;refine enter_call (codeAny_mono (call w s₀ s₁ mg mb fa o pm cd doc a vs ns G Y ho (fd_plain hd) hcd hmg hobj hints qJ hg) λr s' hq=>?_);obtain ⟨rfl,h2,h3,h4⟩:=hq;exact ⟨.inl ⟨.bool true,.bool true,[],rfl,λ_=>rfl,.bool true,Wc l _,λ_=>⟨List.Pairwise.nil,λ_ hm=>(nomatch hm)⟩⟩,h2,h3,h4⟩
end Att
namespace L2
open PySem PySem.Spec PyProof.Rows
theorem Uu:∀{vs:List Value}{ns:List Int},IntsAre vs ns->Vals (ns.map V.int) vs
 | _,_,.nil=>.nil
 | _,_,.cons n t h=>.cons ⟨t,rfl⟩ (Uu h)
end L2
/- THE LAST THEOREM (shape;LID,My.* are yours):
  My.Adr: a structure of the addresses that your layer names (classes,functions);My.Txt K t: a structure (Prop) of the equations over K;
  My.txt_mk:{K} {implicit addresses ..} (e1:nsIn K mainGlobals "law" = some (some (.ref f))) (e2:K.lookup f=some ⟨oc,od,.func (fnOf "law" "law" params body scope dV kV doc pm an cdv ct),sl⟩) (e3:codeIn K cdv "law" = true) ..:∃t,My.Txt K t
set_option maxRecDepth 100000 in
set_option maxHeartbeats 0 in
theorem PySem.Challenge.cw_LID_holds:PySem.Challenge.rw_LID.Holds:=by
 w_on;o_law;k_head;(case hw=>w_witness2)
 k_fill
 refine L2.walk_of (l:=PySem.Challenge.rw_LID) (n:=63) (k:=40) (x := "script") (CX:=λw=>..) (sp:=λ_=>My.sp_law) rfl (by decide) rfl ⟨rfl,by decide,by decide⟩ (λw h Y=>W.kIn_of Y) ?F ?S ?C
 case F=>
  intro w mg fa h KX G hmg;have T:∃t,My.Txt (L2.KOf KX) t:=by
   dsimp only [L2.KOf]                          -- K must stand as «<heap const> w.params» for k_is
   refine' My.txt_mk ?e1 ?e2 ?e3 ..
   (case e1=>W.k_is)                    -- in the order: a name->its address->its object->its parts
   (case e2=>W.k_is)
   ..
  obtain ⟨t,T⟩:=T;have e0:=hmg.symm.trans (W.mg_of KX G T.law);cases e0                                       -- fa is the law's own address;exact ⟨_,λs u=>.of_eq rfl,λbase kb nb=>My.law_fn T kb nb⟩     -- if «.of_eq rfl» comes too early: refine' ⟨_,?b,λbase kb nb=>My.law_fn T kb nb⟩;exact λs u=>.of_eq rfl
 case S=>exact λw H a ns hl hO hS=>..
 case C=>exact ..
(the tactic k_is has no namespace: write k_is) -/
namespace L2
open PySem PySem.Spec PyProof.Rows
def Gu (s:Stmt):Arguments:=match s with
 | .FunctionDef _ a _ _ _ _ _ _ _ _=>a
 | _=>{ posonlyargs:=[],args:=[],vararg:=none,kwonlyargs:=[],kw_defaults:=[],kwarg:=none,defaults:=[] }
def Gq (s:Stmt):List Stmt:=match s with
 | .FunctionDef _ _ b _ _ _ _ _ _ _=>b
 | _=>[]
def Ge (s:Stmt):Scope:=match s with
 | .FunctionDef _ _ _ _ _ _ sc _ _ _=>sc
 | _=>{ kind:=.function,names:=[],isGenerator:=false,isCoroutine:=false }
abbrev CX0:CXT:=λ_ _ _ _ _ _=>False
abbrev E0:XK:=λ_ _ _=>False
theorem G0 {X:Cx}:Oh CX0 X E0:=λ_ _ _ _ _ _ _ h=>h.elim
structure Fun (K:W.Frag)(x qual:Str)(st:Stmt)(f:Addr)(fd:FuncData):Prop where
 ex:∃(oc:Value)(od:Option Addr)(kV doc pm:Value)(an:Option Addr)(cdv ct:Value)(osl:Array (Option Value)),
  fd=W.fnOf x qual (Gu st) (Gq st) (Ge st) .none kV doc pm an cdv ct/\K.lookup f=some ⟨oc,od,.func fd,osl⟩/\W.codeIn K cdv qual=true
 kp:W.keepIn K (.ref f)=true
section
variable {P:Program}{w:World}{K:W.Frag}{mg:Str->Option Value}{base:Heap}
theorem ZbJ {α:Type}{l:List α}(h:l.length=0):l=[]:=List.length_eq_zero_iff.mp h
theorem Yg {α:Type}{l:List α}{n:Nat}(h:l.length=n+1):∃a t,l=a::t/\t.length=n:=by
 cases l with
 | nil=>cases h
 | cons a t=>exact ⟨a,t,rfl,by simpa using h⟩
theorem Vc {α:Type}{l:List α}(h:l.length=1):∃a,l=[a]:=by
 obtain ⟨a,t,rfl,g⟩:=Yg h;exact ⟨a,by rw [ZbJ g]⟩
theorem XO {α:Type}{l:List α}(h:l.length=2):∃x0 x1,l=[x0,x1]:=by
 obtain ⟨a,t,rfl,g⟩:=Yg h;obtain ⟨x1,rfl⟩:=Vc g;exact ⟨a,x1,rfl⟩
theorem ZaN {α:Type}{l:List α}(h:l.length=3):∃x0 x1 x2,l=[x0,x1,x2]:=by
 obtain ⟨a,t,rfl,g⟩:=Yg h;obtain ⟨x1,x2,rfl⟩:=XO g;exact ⟨a,x1,x2,rfl⟩
theorem ZbK {α:Type}{l:List α}(h:l.length=4):∃x0 x1 x2 x3,l=[x0,x1,x2,x3]:=by
 obtain ⟨a,t,rfl,g⟩:=Yg h;obtain ⟨x1,x2,x3,rfl⟩:=ZaN g;exact ⟨a,x1,x2,x3,rfl⟩
theorem ZbL {α:Type}{l:List α}(h:l.length=5):∃x0 x1 x2 x3 x4,l=[x0,x1,x2,x3,x4]:=by
 obtain ⟨a,t,rfl,g⟩:=Yg h;obtain ⟨x1,x2,x3,x4,rfl⟩:=ZbK g;exact ⟨a,x1,x2,x3,x4,rfl⟩
theorem ZbM {α:Type}{l:List α}(h:l.length=6):∃x0 x1 x2 x3 x4 x5,l=[x0,x1,x2,x3,x4,x5]:=by
 obtain ⟨a,t,rfl,g⟩:=Yg h;obtain ⟨x1,x2,x3,x4,x5,rfl⟩:=ZbL g;exact ⟨a,x1,x2,x3,x4,x5,rfl⟩
theorem ZbS {α:Type}{l:List α}(h:l.length=7):∃x0 x1 x2 x3 x4 x5 x6,l=[x0,x1,x2,x3,x4,x5,x6]:=by
 obtain ⟨a,t,rfl,g⟩:=Yg h;obtain ⟨x1,x2,x3,x4,x5,x6,rfl⟩:=ZbM g;exact ⟨a,x1,x2,x3,x4,x5,x6,rfl⟩
theorem Fun.ok {x qual:Str}{st:Stmt}{f:Addr}{fd:FuncData}{N ps:List Str}{k:Nat}{sp:Sp}(F:Fun K x qual st f fd)(S:Gs N ps (Ge st))(len:∀vs H Q E,sp vs H Q E->vs.length=ps.length)(qW:∀(cdv:Value)(A:Around)(outer:List Env)(s:Shared)(H:Hp)(vs:List V)(Q:VK)(E:XK),Room k (A.deeper (envOfC qual (Ge st) s.heap.objs.size f cdv))->sp vs H Q E ->
   ∃t,PSs (V4 CX0 P w K mg base N qual (Ge st) f cdv A outer s H E).nox (Gq st) t/\t { nx:=λ_ H'=>Q .non H',rt:=Q } (Jq N vs) H):FnOk P w K mg base CX0 (k+1) f fd ps sp:=by
 obtain ⟨oc,od,kV,doc,pm,an,cdv,ct,osl,rfl,lk,hcd⟩:=F.ex;refine Zq lk hcd S len λA outer s H vs Q E hr hsp=>?_;obtain ⟨t,h,q⟩:=qW cdv A outer s H vs Q E hr hsp;exact ⟨t,h.nox,q⟩
theorem Fun.binds {x qual:Str}{st:Stmt}{f:Addr}{fd:FuncData}{ps:List Str}(F:Fun K x qual st f fd)(h:∀(kV doc pm:Value)(an:Option Addr)(cdv ct:Value)(us:List Value),us.length=ps.length->bindArgs (W.fnOf x qual (Gu st) (Gq st) (Ge st) .none kV doc pm an cdv ct) ⟨us,[]⟩=pure (ps.zip us)):Binds K fd ps []:=by
 obtain ⟨oc,od,kV,doc,pm,an,cdv,ct,osl,rfl,lk,hcd⟩:=F.ex;exact .all (h kV doc pm an cdv ct)
theorem GV {x qual:Str}{st:Stmt}{f:Addr}{oc:Value}{od an:Option Addr}{osl:Array (Option Value)}{kV doc pm cdv ct:Value}(l:K.lookup f=some ⟨oc,od,.func (W.fnOf x qual (Gu st) (Gq st) (Ge st) .none kV doc pm an cdv ct),osl⟩)(c:W.codeIn K cdv qual=true)(k:W.keepIn K (.ref f)=true):Fun K x qual st f (W.fnOf x qual (Gu st) (Gq st) (Ge st) .none kV doc pm an cdv ct):=⟨⟨oc,od,kV,doc,pm,an,cdv,ct,osl,rfl,l,c⟩,k⟩
end
section
variable {X:Cx}
theorem pv (i:Nat){x:Str}{pos:Pos}(hN:X.N[i]?=some x:=by rfl)(hv:Vis X.env.scope x:=by first | exact Or.inl rfl | exact Or.inr (Or.inl rfl) | exact Or.inr (Or.inr rfl))(hd:(x == ("__debug__" : Str))=false:=by decide)(hcd:(x == ("__classdict__" : Str))=false:=by decide):PE X (.Name x pos) (VM i):=Zf hN hv hd hcd
end
theorem G4 {A B:Prop}(h:B):if false=true then A else B:=by
 rw [if_neg Bool.false_ne_true];exact h
theorem GO {A B:Prop}(h:A):if true=true then A else B:=by
 rw [if_pos rfl];exact h
theorem OR {c A B:Prop}[Decidable c](h1:c->A)(h2:¬ c->B):if c then A else B:=by
 by_cases h:c
 ·rw [if_pos h];exact h1 h
 ·rw [if_neg h];exact h2 h
def Same (H H':Hp):Prop:=∀b o,H b=some o->H' b=some o
theorem Same.refl (H:Hp):Same H H:=λ_ _ h=>h
theorem Same.trans {H H1 H2:Hp}(a:Same H H1)(b:Same H1 H2):Same H H2:=λc o h=>b c o (a c o h)
theorem Same.free {H H':Hp}(e:Same H H'){l:Addr}(h:H' l=Option.none):H l=Option.none:=by
 cases q:H l with
 | none=>rfl
 | some o=>
  rw [e l o q] at h;cases h
theorem Same.seq {K:W.Frag}{H H':Hp}{a:Addr}{xs:List V}(e:Same H H')(h:SqL K H a xs):SqL K H' a xs:=by
 rcases h with (h | ⟨o,h⟩) | h
 ·exact .inl (.inl (e _ _ h))
 ·exact .inl (.inr ⟨o,e _ _ h⟩)
 ·exact .inr h
end L2
namespace L2
open PySem PySem.Spec PyProof.Rows
section
variable {prog:Program}{w:World}{A:Around}{R:Result->Shared->Prop}{s:Shared}
theorem Uv {elt qZ iter:Expr}{ifs:List Expr}{scope:Scope}{pos:Pos}{it acc:Value}{env:Env}(I:Nat->Shared->Prop)(turn:∀n s,I n s->wpAny (model prog w) A (pyNext it) (λr s1=>match r with
   | none=>R (.ok .next) s1
   | some v=>wpAny (model prog w) A (letOwnedTupleGo qZ it v) (λ_ s1'=>wpAny (model prog w) A (assign qZ env v) (λ_ s2=>
     wpAny (model prog w) A (forIn ifs true λc r=>if r=true then do let ok <- isTrue c env (eval c env);pure (ForInStep.yield ok) else pure (ForInStep.yield r)) (λok s3=>
      if ok=true then wpAny (model prog w) A (eval elt env) (λx s4=>
       wpAny (model prog w) A (call (.builtin "list.append") [acc,x]) (λ_ s5=>∃m,m<n/\I m s5) (λ_ _=>False) s4) (λ_ _=>False) s3
      else ∃m,m<n/\I m s3) (λ_ _=>False) s2) (λ_ _=>False) s1') (λ_ _=>False) s1) (λ_ _=>False) s)(n:Nat)(h:I n s) :
  codeAny (model prog w) A (.compLoop (.ListComp elt [⟨qZ,iter,ifs,0⟩] scope pos) 0 it acc env) R s:=by
 have ff:∀{E:Value->Shared->Prop},∀(x:Value)(s:Shared),(λ(_:Value) (_:Shared)=>False) x s->E x s:=λ_ _ z=>False.elim z;refine codeAny_loop rfl I (λn s hI=>?_) n h;show wpAny _ A ((compTurn (.ListComp elt [⟨qZ,iter,ifs,0⟩] scope pos) 0 it acc env).onRaise (λx=>do noteFrame x env;theTreesLotGoes x)) _ _ s;refine wpAny_noted ?_;rw [compTurn_list];refine wpAny_bind (wpAny_standAt (wpAny_bind (wpAny_mono (turn n s hI) (λr s1 h1=>?_) ff)));cases r with
 | none=>exact wpAny_pure h1
 | some v=>
  refine wpAny_bind (wpAny_mono h1 (λ_ s1' h1'=>?_) ff);refine wpAny_bind (wpAny_mono h1' (λ_ s2 h2=>wpAny_bind (wpAny_mono h2 (λok s3 h3=>?_) ff)) ff);cases ok with
  | false=>exact wpAny_pure ⟨rfl,h3⟩
  | true=>
   exact wpAny_bind (wpAny_bind (wpAny_mono h3 (λx s4 h4=>wpAny_bind (wpAny_mono h4 (λ_ s5 h5=>wpAny_pure (wpAny_pure ⟨rfl,h5⟩)) ff)) ff))
end
def Cx.comp (X:Cx)(scope:Scope)(cl:List (Str×Addr))(N:List Str)(C:Addr)(s:Shared)(H:Hp)(fp:List Addr):Cx:=
 { X with N:=N,s₀:=s,H₀:=H,env:=compEnvC scope cl C X.env,outer:=X.stack,ex:=fp,fn:=λ_=>false,pn:=[],xe:=λ_ _=>False }
def Zy (X:Cx)(ifs:List Expr)(t:TT):Prop:=
 ∀(qQ:List (Addr×Obj))(s:Shared)(σ:St)(H:Hp)(Q:Bool->Hp->Prop),Inv X qQ σ H s->t σ H Q ->
  wpAny (model X.prog X.w) X.A (forIn ifs true λc r=>if r=true then do let ok <- isTrue c X.env (eval c X.env);pure (ForInStep.yield ok) else pure (ForInStep.yield r)) (TP X qQ σ Q) X.xe s
def XQ:TT:=λ_ H Q=>Q true H
theorem Jr {X:Cx}:Zy X [] XQ:=λ_ _ _ H _ I h=>wpAny_tests_nil ⟨H,I,h⟩
theorem WZ {X:Cx}{c:Expr}{t:TT}(h:PT X c t):Zy X [c] t:=λqQ s σ H Q I hw=>wpAny_tests_one (h qQ s σ H Q I hw)
structure Jo (X:Cx)(scope:Scope)(cl:List (Str×Addr))(own:List Str)(fr:List (Str×Nat)):Prop where
 clos:closureFor scope X.env=pure cl
 nocell:∀y∈scope.names,y.2≠.cell
 kind:scope.kind=.function
 names:∀y∈scope.names,y.2=.local->scope.names.lookup y.1=some .local
 cls:∀y c,cl.lookup y=some c->X.env.cells.lookup y=some c
 has:∀y,((relabel scope X.env).names.lookup y=some .cell\/(relabel scope X.env).names.lookup y=some .free)->∃c,cl.lookup y=some c
 free:∀p∈fr,X.N[p.2]?=some p.1/\(X.env.kindOf p.1=some .cell\/X.env.kindOf p.1=some .free)/\((relabel scope X.env).names.lookup p.1=some .cell\/(relabel scope X.env).names.lookup p.1=some .free)
def JO (own:List Str)(fr:List (Str×Nat))(σ:St):St:=own.map (λ_=>none)++fr.map λp=>(σ[p.2]?).join
def OC:St->St->Prop
 | [],[]=>True
 | none::r,_::r'=>OC r r'
 | some v::r,some v'::r'=>v=v'/\OC r r'
 | _,_=>False
theorem JG:∀{a b:St},OC a b->∀(i:Nat)(v:V),a[i]?=some (some v)->b[i]?=some (some v)
 | [],[],_,i,v,h=>by simp at h
 | [],_::_,z,_,_,_=>z.elim
 | none::r,[],z,_,_,_=>z.elim
 | some _::r,[],z,_,_,_=>z.elim
 | some _::r,none::_,z,_,_,_=>z.elim
 | none::r,_::r',z,0,v,h=>by simp at h
 | none::r,_::r',z,i+1,v,h=>by
  have:=JG (a:=r) (b:=r') z i v (by simpa using h);simpa using this
 | some x::r,some x'::r',z,0,v,h=>by
  obtain ⟨e,_⟩:=z;subst e;simpa using h
 | some x::r,some x'::r',z,i+1,v,h=>by
  have:=JG (a:=r) (b:=r') z.2 i v (by simpa using h);simpa using this
def JB (J:It)(D:Addr)(g:TG)(tc:TT)(te:TE)(σ0:St)(W:Nat->Nat->List V->Hp->Prop)(R:Hp->Prop):Prop:=
 ∀i m ys H2,W i m ys H2->(J.stop i H2/\R H2)\/(J.go i H2/\∃N:List V->Hp->Prop,(∀ys' H',N ys' H'->∃m',m'<m/\W (i+1) m' ys' H')/\∀x H3,J.yld i H2 x H3->g x σ0 H3 λσ4 H4=>OC σ0 σ4/\tc σ4 H4 λb H5=>
  if b=true then te σ4 H5 λy H6=>H6 D=some (.lst ys)/\ys.length<sizeLine/\N (ys++[y]) (upd H6 D (.lst (ys++[y])))
  else N ys H5)
def Zz (wi:TI)(g:TG)(tc:TT)(te:TE)(own:List Str)(fr:List (Str×Nat)):TE:=λσ H Q=>wi σ H λJ H1=>∀D,H1 D=none ->
 ∃W:Nat->Nat->List V->Hp->Prop,(∃m,W 0 m [] (upd H1 D (.lst [])))/\JB J D g tc te (JO own fr σ) W λH2=>Q (.ref D) H2
section
variable {X:Cx}{qZ iter elt:Expr}{ifs:List Expr}{scope:Scope}{cl:List (Str×Addr)}{own:List Str}{fr:List (Str×Nat)}{pos:Pos}{wi:TI}{g:TG}{tc:TT}{te:TE}
theorem Inv.sub_pins {qQ pins':List (Addr×Obj)}{σ:St}{H:Hp}{s:Shared}(I:Inv X qQ σ H s)(h:∀p∈pins',p∈qQ):Inv X pins' σ H s:=I.pins_of λp hp=>I.pin p (List.mem_append_right _ (h p hp))
theorem Yh {qQ:List (Addr×Obj)}{σ:St}{H:Hp}{s:Shared}{C:Addr}{fp:List Addr}(S:Jo X scope cl own fr)(I:Inv X qQ σ H s)(hf:∀b∈fp,VU X qQ H b)(hC:s.heap.objs.size<=C)(hfl:∀b∈fp,b<s.heap.objs.size) :
  (X.comp scope cl (own++fr.map (·.1)) C s H fp).Ok:=by
 refine ⟨I.ok.mod,?_,I.ok.glob,I.ok.blt,hC,λx y c h1 h2=>I.ok.inj x y c (S.cls x c h1) (S.cls y c h2),S.has,λx c z=>absurd z (by simp [Cx.comp]),I.ok.hd,I.ok.frames,.inl rfl,
  λb hb=>⟨Nat.ne_of_lt (Nat.lt_of_lt_of_le (hfl b hb) hC),λx c h=>(hf b hb).2.2.2.2.1 x c (S.cls x c h)⟩,I.bs,Nat.le_trans I.ok.bsz I.sz,λb o e hb=>?_,λb hb z=>?_,I.stack,I.stkFree⟩
 ·show (relabel scope X.env).kind=.function;exact S.kind
 ·rcases (hf b hb).2.2.2.1 with z | z
  ·exact I.ok.noex b o e z
  ·exact absurd (Nat.lt_of_lt_of_le (Heap.lt_size e) (Nat.le_trans I.ok.bsz z)) (Nat.lt_irrefl _)
 ·rcases List.mem_cons.mp (I.stkSub b z) with q | q
  ·exact (hf b hb).2.1 q
  ·exact (hf b hb).2.2.1 q
theorem OS (own:List Str)(fr:List (Str×Nat))(σ:St):(JO own fr σ).length=(own++fr.map (·.1)).length:=by
 unfold JO;simp
theorem OT {qQ:List (Addr×Obj)}{σ:St}{H:Hp}{s:Shared}{it:Addr}{fp:List Addr}{tn:Nat->Heap->Prop}{J:It}{E:Value->Shared->Prop}{RR:Value->Addr->Result->Shared->Prop}{Rf:Addr->Hp->Prop}(hc:X.calm=true)(S:Jo X scope cl own fr)(I:Inv X qQ σ H s)(T:X1 X.prog X.w X.K qZ J fp it tn)(st:tn 0 s.heap)(hf:∀b∈fp,VU X qQ H b)(hg:∀C s H fp,PG (X.comp scope cl (own++fr.map (·.1)) C s H fp) qZ g)(ht:∀C s H fp,Zy (X.comp scope cl (own++fr.map (·.1)) C s H fp) ifs tc)(he:∀C s H fp,PE (X.comp scope cl (own++fr.map (·.1)) C s H fp) elt te)(hw:∀D,H D=none->∃W:Nat->Nat->List V->Hp->Prop,(∃m,W 0 m [] (upd H D (.lst [])))/\JB J D g tc te (JO own fr σ) W (Rf D))(hRR:∀D C s' H',s.heap.objs.size<=C->C≠D->(∃m,s'.heap.Ns C m)->H' C=none->Un (frs X.stack) fp H H' s.heap s'.heap->HOk X.prog X.w H' s'.heap->AllBare s'.gens->s'.os=s.os->Rf D H'->RR (.ref D) C (.ok .next) s') :
  wpAny (model X.prog X.w) X.A (newList []) (λacc s3=>wpAny (model X.prog X.w) X.A (newFunctionEnv scope X.env.globals cl [] X.env.qual none .none (some X.env)) (λcenv s4=>
   codeAny (model X.prog X.w) X.A (.compStart (.ListComp elt [⟨qZ,iter,ifs,0⟩] scope pos) 0 (.ref it) acc { cenv with scope:=relabel scope X.env }) (RR acc cenv.locals) s4) E s3) E s:=by
 have hfl:∀b∈fp,b<s.heap.objs.size:=λb hb=>by
  obtain ⟨o,e,_⟩:=T.obj 0 s.heap st b hb;exact Heap.lt_size e
 have hD:H s.heap.objs.size=none:=I.fresh;obtain ⟨W,⟨m0,w0⟩,turns⟩:=hw s.heap.objs.size hD;have I1:Inv X qQ σ (upd H s.heap.objs.size (.lst [])) { s with heap:=s.heap.push { cls:=.type "list", data:=.seq ([]:List Value).toArray },toks:=s.toks }:=I.lnew .nil (Nat.zero_le _);refine wpAny_newObj_type (wpAny_newFunctionEnv S.nocell (by intro y hy;simp at hy) (λh1 hns1 hsb1=>?_) S.kind);dsimp only at hns1 hsb1 ⊢;generalize hH2:s.heap.push { cls:=.type "list", dict:=none,data:=.seq ([]:List Value).toArray }=H2 at hns1 hsb1 ⊢ I1;have hCs:H2.objs.size=s.heap.objs.size+1:=by rw [<-hH2,Heap.size_push]
 have hCle:s.heap.objs.size<=H2.objs.size:=by lia
 have hDC:s.heap.objs.size≠H2.objs.size:=by lia
 have up1:∀b o,H2.get? b=some o->h1.get? b=some o:=λb o e=>hsb1.extBut b o (Nat.ne_of_lt (Heap.lt_size e)) (Heap.get?_push_of_some _ e);have up:∀b o,s.heap.get? b=some o->h1.get? b=some o:=λb o e=>up1 b o (hH2▸Heap.get?_push_of_some _ e);have okY:=Yh (C:=H2.objs.size) S I hf hCle hfl;have I0:∀tk,Inv (X.comp scope cl (own++fr.map (·.1)) H2.objs.size s H fp) [] (JO own fr σ) (upd H s.heap.objs.size (.lst [])) { s with heap:=h1,toks:=tk }:=by
  intro tk;have hok1:HOk X.prog X.w (upd H s.heap.objs.size (.lst [])) h1:=I1.hok.kept up1;refine ⟨okY,rfl,I.bare,⟨λb o e n _ _=>up b o e,λb o e n _ _=>⟨o.slots,up b o e⟩,λb o e n _=>?_,λb o e _=>⟨o,up b o e⟩,λb xs q=>?_,λb o u q=>?_,λb ps q=>⟨#[],?_⟩⟩,
   ⟨_,hns1,λi x v e1 e2 e3=>?_⟩,λx c e=>?_,?_,λx c e=>?_,λp hp=>?_,hok1,OS own fr σ⟩
  ·have e':s.heap.get? b=some o:=e;show upd H s.heap.objs.size (.lst []) b=none;rw [Gr (Nat.ne_of_lt (Heap.lt_size e'))];exact n
  ·rw [Gr (GG q hD)];exact q
  ·rw [Gr (GG q hD)];exact q
  ·have q':H b=some (.tbl ps):=q;rw [Gr (GG q' hD),q'];simp
  ·-- the free names
   have e2':(JO own fr σ)[i]?=some (some v):=e2;have e1':(own++fr.map (·.1))[i]?=some x:=e1;unfold JO at e2';by_cases hi:i<own.length
   ·rw [List.getElem?_append_left (by simpa using hi),List.getElem?_map] at e2';cases q:own[i]? with
    | none=>rw [q] at e2';cases e2'
    | some y=>rw [q] at e2';cases e2'
   ·rw [List.getElem?_append_right (by simpa using hi),List.length_map,List.getElem?_map] at e2';rw [List.getElem?_append_right (by lia),List.getElem?_map] at e1';cases q:fr[i-own.length]? with
    | none=>rw [q] at e2';cases e2'
    | some p=>
     rw [q] at e1' e2';have ex:p.1=x:=Option.some.inj e1';have ev:(σ[p.2]?).join=some v:=Option.some.inj e2';have ev':σ[p.2]?=some (some v):=by
      cases z:σ[p.2]? with
      | none=>rw [z] at ev;cases ev
      | some o=>rw [z] at ev;cases o with
       | none=>cases ev
       | some v'=>have:v'=v:=Option.some.inj ev;rw [this]
     obtain ⟨f1,f2,f3⟩:=S.free p (List.mem_of_getElem? q);subst ex;obtain ⟨m,hn,hl⟩:=I.loc;have vis:Vis X.env.scope p.1:=by
      rcases f2 with f2 | f2
      ·exact .inr (.inl f2)
      ·exact .inr (.inr f2)
     obtain ⟨u,ru,lk⟩:=hl p.2 p.1 v f1 ev' vis;refine ⟨u,ru,?_⟩;rcases lk with ⟨k,_⟩ | ⟨k,c,e,z⟩
     ·rcases f2 with f2 | f2 <;> (rw [f2] at k;cases k)
     ·obtain ⟨c',hc'⟩:=S.has p.1 f3;have e':=S.cls _ _ hc';rw [e] at e';cases e';obtain ⟨oc,ho,hd⟩:=z;exact .inr ⟨f3,c,hc',⟨oc,up _ _ ho,hd⟩⟩
  ·obtain ⟨v,oc,ho,hd⟩:=I.cell x c (S.cls x c e);exact ⟨v,oc,up _ _ ho,hd⟩
  ·show upd H s.heap.objs.size (.lst []) H2.objs.size=none;rw [Gr (Ne.symm hDC)];exact I.hok.fresh hCle
  ·obtain ⟨v,z⟩:=I.cell x c (S.cls x c e);show upd H s.heap.objs.size (.lst []) c=none;rw [Gr (Nat.ne_of_lt z.lt)];exact I.freeC x c (S.cls x c e)
  ·exact absurd (show p∈([]:List (Addr×Obj)) from hp) (by simp)
 have fpf:∀b∈fp,upd H s.heap.objs.size (.lst []) b=none:=λb hb=>by rw [Gr (Nat.ne_of_lt (hfl b hb))];exact (hf b hb).1
 have st1:tn 0 h1:=T.keep 0 _ _ st λb hb o e=>up b o e;have stat:∀{H':Hp},(∀b∈fp,H' b=none)->∀b∈fp,VU (X.comp scope cl (own++fr.map (·.1)) H2.objs.size s H fp) [] H' b:=λhn b hb=>
  ⟨hn b hb,(okY.exf b hb).1,okY.exfs b hb,.inl hb,(okY.exf b hb).2,λp hp=>absurd (show p∈([]:List (Addr×Obj)) from hp) (by simp)⟩
 have loop:∀s3:Shared,(∃tk,s3={ s with heap:=h1,toks:=tk }) ->
   codeAny (model X.prog X.w) X.A (.compLoop (.ListComp elt [⟨qZ,iter,ifs,0⟩] scope pos) 0 (.ref it) (.ref s.heap.objs.size) (compEnvC scope cl H2.objs.size X.env)) (RR (.ref s.heap.objs.size) H2.objs.size) s3:=by
  rintro s3 ⟨tk,rfl⟩;refine Uv (λn s'=>∃i ys H',Inv (X.comp scope cl (own++fr.map (·.1)) H2.objs.size s H fp) [] (JO own fr σ) H' s'/\tn i s'.heap/\(∀b∈fp,H' b=none)/\W i n ys H') ?_ m0 ⟨0,[],_,I0 tk,st1,fpf,w0⟩;rintro n s4 ⟨i,ys,H4,I4,st4,fr4,w4⟩;rcases turns i n ys H4 w4 with ⟨stop,q⟩ | ⟨go,N,hN,step⟩
  ·refine thn (T.done (X.comp scope cl (own++fr.map (·.1)) H2.objs.size s H fp) rfl rfl rfl hc i [] s4 _ H4 _ I4 (stat fr4) st4 stop) λr s5 ⟨hr,I5⟩=>?_;subst hr;exact hRR _ _ s5 H4 hCle (Ne.symm hDC) ⟨_,I5.loc.choose_spec.1⟩ I5.free I5.base I5.hok I5.bare I5.os q
  ·refine thn (T.item (X.comp scope cl (own++fr.map (·.1)) H2.objs.size s H fp) rfl rfl rfl hc i [] s4 _ H4 _ I4 (stat fr4) st4 go) λr s5 ⟨u,hr,h5⟩=>?_;subst hr;refine thn h5 λ_ s6 ⟨x,H6,I6,r6,y6,st6,fr6⟩=>?_;have I6':=I6.pinned (stat fr6) (T.obj _ _ st6);refine thn (hg H2.objs.size s H fp _ s6 _ H6 x u _ I6' r6 (step x H6 y6)) λ_ s7 ⟨σ7,H7,I7,k7,q7⟩=>?_;refine thn (ht H2.objs.size s H fp _ s7 σ7 H7 _ I7 q7) λok s8 ⟨H8,I8,q8⟩=>?_;have again:∀{s9:Shared}{σ9:St}{H9:Hp}{zs:List V},Inv (X.comp scope cl (own++fr.map (·.1)) H2.objs.size s H fp) ([]++OO fp s6.heap) σ9 H9 s9->(∀(i:Nat) v,(JO own fr σ)[i]?=some (some v)->σ9[i]?=some (some v))->(∃m',m'<n/\W (i+1) m' zs H9) ->
     ∃m,m<n/\∃i ys H',Inv (X.comp scope cl (own++fr.map (·.1)) H2.objs.size s H fp) [] (JO own fr σ) H' s9/\tn i s9.heap/\(∀b∈fp,H' b=none)/\W i m ys H':=by
    intro s9 σ9 H9 zs I9 hσ ⟨m',hm,w9⟩;refine ⟨m',hm,i+1,zs,H9,(I9.sub_pins (λp hp=>absurd (show p∈([]:List (Addr×Obj)) from hp) (by simp))).weak ?_ hσ,T.keep _ _ _ st6 λb hb o e=>(I9.pin (b,o) (List.mem_append_right _ (List.mem_append_right _ (Jg hb e)))).1,λb hb=>?_,w9⟩
    ·rw [I9.len];exact OS own fr σ
    ·obtain ⟨o,e,d⟩:=T.obj _ _ st6 b hb;exact (I9.pin (b,o) (List.mem_append_right _ (List.mem_append_right _ (Jg hb e)))).2.1
   cases ok with
   | false=>exact (if_neg Bool.false_ne_true).mpr (again I8 (JG k7) (hN _ _ ((if_neg Bool.false_ne_true).mp q8)))
   | true=>
    refine (if_pos rfl).mpr ?_;have q8':=(if_pos rfl).mp q8;refine thn (he H2.objs.size s H fp _ s8 σ7 H8 _ I8 q8') λy s9 ⟨yv,H9,I9,r9,hD9,hz,q9⟩=>?_;refine thn (GR _ s9 σ7 H9 (.ref s.heap.objs.size) [yv] (.ref s.heap.objs.size) [y] (λ_ H'=>H'=upd H9 s.heap.objs.size (.lst (ys++[yv]))) I9 rfl (.cons r9 .nil) ⟨_,ys,yv,rfl,rfl,hD9,hz,rfl⟩) λ_ s10 ⟨_,H10,I10,_,e10⟩=>?_;subst e10;exact again I10 (JG k7) (hN _ _ q9)
 exact codeAny_compStart_list (loop _ ⟨_,rfl⟩) (T.self _ 0 _ _ _ st1 (loop _ ⟨_,rfl⟩))
theorem OU {qQ:List (Addr×Obj)}{σ:St}{H H':Hp}{s s':Shared}{fp:List Addr}(I:Inv X qQ σ H s)(hf:∀b∈fp,VU X qQ H b)(un:Un (frs X.stack) fp H H' s.heap s'.heap)(hok:HOk X.prog X.w H' s'.heap)(bare:AllBare s'.gens)(os:s'.os=s.os):Inv X qQ σ H' s':=
 I.call' os un hok bare λb hb=>⟨(hf b hb).2.2.2.1,(hf b hb).2.1,(hf b hb).2.2.2.2.1,(hf b hb).2.2.2.2.2⟩
theorem Vd {qQ:List (Addr×Obj)}{σ σ':St}{H H':Hp}{s s':Shared}{C:Addr}{h':Heap}(I:Inv X qQ σ H s)(hC:s.heap.objs.size<=C)(hn:H' C=none)(I':Inv X qQ σ' H' s')(sb:Heap.SameBut C s'.heap h') :
  Inv X qQ σ' H' { s' with heap:=h' }:=by
 obtain ⟨f0,f1,f2,f3,f4,f5⟩:=I.fpOk hC hn;exact I'.turned (t':=s'.toks) (λb o hb e=>(sb.2 b hb).trans e) f0 f1 f3 f4 f5
theorem JR (hc:X.calm=true)(S:Jo X scope cl own fr)(hi:PI X qZ iter wi)(hg:∀C s H fp,PG (X.comp scope cl (own++fr.map (·.1)) C s H fp) qZ g)(ht:∀C s H fp,Zy (X.comp scope cl (own++fr.map (·.1)) C s H fp) ifs tc)(he:∀C s H fp,PE (X.comp scope cl (own++fr.map (·.1)) C s H fp) elt te)(hs:∀x,foldedSetIterable iter X.env x=pure x:=by intro _;rfl):PE X (.ListComp elt [⟨qZ,iter,ifs,0⟩] scope pos) (Zz wi g tc te own fr):=by
 intro qQ s σ H Q I h;rw [eval_ListComp];refine wpAny_comprehension_free (use:=none) rfl hs S.clos S.kind S.names (thn (hi qQ s σ H _ I h) λv s1 h1=>thn h1 λitv s2 h2=>?_);obtain ⟨it,fp,tn,J,H2,e,I2,T,st2,f2,hw⟩:=h2;subst e;refine OT (RR:=λacc C=>compPost (model X.prog X.w) X.A X.xe none (EP X qQ σ Q) acc C) hc S I2 T st2 f2 hg ht he hw ?_;rintro D C s' H' hC hDC ⟨m,hn⟩ hCf un hok bare os q;refine ⟨m,hn,λh' hs'=>⟨.ref D,H',?_,rfl,q⟩⟩;exact Vd (C:=C) (σ:=σ) I2 hC hCf (OU I2 f2 un hok bare os) hs'
theorem Yi {i:Nat}{y:Str}{py spos:Pos}(hN:X.N.Nodup)(hi':X.N[i]?=some y)(hx:Loc X.env.scope y)(hc:X.calm=true)(S:Jo X scope cl own fr)(hi:PI X qZ iter wi)(hg:∀C s H fp,PG (X.comp scope cl (own++fr.map (·.1)) C s H fp) qZ g)(ht:∀C s H fp,Zy (X.comp scope cl (own++fr.map (·.1)) C s H fp) ifs tc)(he:∀C s H fp,PE (X.comp scope cl (own++fr.map (·.1)) C s H fp) elt te)(hf:X.fn y=true\/X.env.scope.names.lookup y=some .local:=by first | exact .inl rfl | exact .inr rfl | assumption)(hsw:swapsWith (.ListComp elt [⟨qZ,iter,ifs,0⟩] scope pos) (some (.Name y py)) spos.line X.env=pure true:=by rfl)(hs:∀x,foldedSetIterable iter X.env x=pure x:=by intro _;rfl):PS X (.Assign [.Name y py] (.ListComp elt [⟨qZ,iter,ifs,0⟩] scope pos) spos) (Zj (Zz wi g tc te own fr) (Jz i)):=by
 intro qQ s σ H Dn I h;rw [exec_Assign_Name_used _ _ _ _ hsw];refine wpAny_bind (wpAny_standAt (wpAny_bind ?_));show wpAny _ X.A (do let _ <- comprehension (.ListComp elt [⟨qZ,iter,ifs,0⟩] scope pos) scope X.env _ (newList []) false (eval iter X.env) (some (assign (.Name y py) X.env))) _ _ s;refine wpAny_bind (wpAny_mono (wpAny_comprehension_free (use:=some (assign (.Name y py) X.env)) (Q:=λ_ s'=>SP X qQ Dn .next s') rfl hs S.clos S.kind S.names (thn (hi qQ s σ H _ I h) λv s1 h1=>thn h1 λitv s2 h2=>?_))
  (λ_ s' hq=>wpAny_pure (wpAny_pure hq)) λ_ _ e=>e)
 obtain ⟨it,fp,tn,J,H2,e,I2,T,st2,f2,hw⟩:=h2;subst e;refine OT (RR:=λacc C=>compPost (model X.prog X.w) X.A X.xe (some (assign (.Name y py) X.env)) (λ_ s'=>SP X qQ Dn .next s') acc C) hc S I2 T st2 f2 hg ht he hw ?_;rintro D C s' H' hC hDC ⟨m,hn⟩ hCf un hok bare os q;have I3:Inv X qQ σ H' s':=OU I2 f2 un hok bare os;show wpAny _ X.A (assign (.Name y py) X.env (.ref D)) _ _ s';refine wpAny_assign_Name (Uf I3 hN hi' hx (v:=.ref D) rfl (λs4 I4 ⟨a,hsa,ha⟩=>?_) hf);have hCa:C≠a:=by
  rcases ha with z | z
  ·rw [z];exact Nat.ne_of_gt (Nat.lt_of_lt_of_le I2.lt hC)
  ·obtain ⟨v,q⟩:=I2.cell y a z;exact Nat.ne_of_gt (Nat.lt_of_lt_of_le q.lt hC)
 refine ⟨m,hn.sameBut hsa hCa,λh' hs'=>⟨_,H',Vd (C:=C) (σ:=σ) I2 hC hCf I4 hs',q⟩⟩
end
theorem JH {lo:Int}{n:Nat}{D:Addr}{g:TG}{tc:TT}{te:TE}{σ0:St}{R:Hp->Prop}{H1:Hp}(Pv:Nat->List V->Hp->Prop)(h0:Pv 0 [] (upd H1 D (.lst [])))(hs:∀i ys H,i<n->Pv i ys H->g (.int (lo+i)) σ0 H λσ4 H4=>OC σ0 σ4/\tc σ4 H4 λb H5=>if b=true then te σ4 H5 λy H6=>H6 D=some (.lst ys)/\ys.length<sizeLine/\Pv (i+1) (ys++[y]) (upd H6 D (.lst (ys++[y]))) else Pv (i+1) ys H5)(hd:∀ys H,Pv n ys H->R H):∃W:Nat->Nat->List V->Hp->Prop,(∃m,W 0 m [] (upd H1 D (.lst [])))/\JB (Itr lo n) D g tc te σ0 W R:=by
 refine ⟨λi m ys H=>m=n-i/\i<=n/\Pv i ys H,⟨_,rfl,Nat.zero_le _,h0⟩,?_⟩;rintro i m ys H ⟨rfl,hi,p⟩;by_cases hlt:i<n
 ·refine .inr ⟨hlt,Pv (i+1),λys' H' p'=>⟨n-(i+1),by lia,rfl,hlt,p'⟩,λx H' y=>?_⟩;obtain ⟨e,y⟩:=y;subst e y;exact hs i ys _ hlt p
 ·have e:i=n:=by lia
  subst e;exact .inl ⟨Nat.le_refl _,hd ys H p⟩
theorem Jj {X:Cx}{scope:Scope}{own:List Str}(hf:∀y∈scope.names,y.2≠.free)(hc:∀y∈scope.names,y.2≠.cell)(hk:scope.kind=.function)(hn:∀y∈scope.names,y.2=.local->scope.names.lookup y.1=some .local):Jo X scope [] own []:=by
 have rel:(relabel scope X.env).names=scope.names:=by
  unfold relabel;dsimp only;refine (List.map_congr_left λp hp=>?_).trans (List.map_id _);obtain ⟨n,k⟩:=p;have:(k == NameKind.free)=false:=by
   have:=hf _ hp;cases k <;> first | rfl | exact absurd rfl this
  simp [this]
 refine ⟨closureFor_none hf,hc,hk,hn,λy c h=>by simp at h,λy h=>?_,λp hp=>by simp at hp⟩;rw [rel] at h;rcases h with h | h
 ·exact absurd rfl (hc _ (PySem.mem_of_lookup h))
 ·exact absurd rfl (hf _ (PySem.mem_of_lookup h))
end L2
namespace L2
open PySem PySem.Spec PyProof.Rows
def W0 (a C:Addr)(h:Heap):Prop:=∃ob vs,h.get? a=some ob/\ob.cls=.ref C/\ob.data=.fields vs
def Zbn (a C:Addr):HO:=.ext (W0 a C)
end L2
namespace L2
open PySem PySem.Spec PyProof.Rows
abbrev Zbo:List Value:=[.type "ValueError", .type "Exception", .type "BaseException", .type "object"]
abbrev ZaO (K:W.Frag)(C:Addr):Prop:=W.excIn K C Zbo "ValueError.__new__" = true
theorem Wd {K:W.Frag}{h:Heap}{C:Addr}(KX:K.In h)(ex:ZaO K C):∃mro' ns' mN',(∃nm' qn' bs' hd' sn' sub' ab' col' dd' j0 j1 j2 j3 j5,
  h.get? C=some (excClassObj nm' qn' C ns' bs' mro' hd' sn' sub' ab' col' dd' j0 j1 j2 j3 j5 "ValueError.__new__"))/\h.Ns ns' mN'/\mN' "__init__" = none/\OwnTail h Zbo mro':=by
 have ex':=ex;unfold ZaO W.excIn at ex';split at ex'
 ·rename_i dd' cd' sl' lk;have lk':=KX _ _ lk;split at ex'
  ·rename_i C' rest' j0 j1 j2 j3 n' j5 hm hs;rw [Bool.and_eq_true,Bool.and_eq_true,Bool.and_eq_true,Bool.and_eq_true,Bool.and_eq_true,beq_iff_eq,beq_iff_eq,beq_iff_eq] at ex';obtain ⟨⟨⟨⟨⟨z1,z2⟩,z3⟩,z4⟩,z5⟩,z6⟩:=ex';have z3':cd'.hasDel=false:=by simpa using z3
   subst z1 z2;cases cd' with
   | mk a1 a2 a3 a4 a5 a6 a7 a8 a9 a10 a11=>
    have hm':a3=.ref C'::rest':=hm;have h11:a11=false:=z3';subst hm' h11;have es:sl'=#[j0,j1,j2,j3,some (.builtin "ValueError.__new__"),j5]:=by
     cases sl' with
     | mk l=>exact congrArg Array.mk hs
    subst es;exact ⟨rest',a4,_,⟨_,_,_,_,_,_,_,_,_,_,_,_,_,_,lk'⟩,.of_isNs (W.isNs_of_in KX z5),W.nsMap_none_of_in KX z5 z6,W.tail_of_in KX z4⟩
  ·cases ex'
 ·cases ex'
end L2
namespace L2
open PySem PySem.Spec PyProof.Rows
theorem Ve {M:Model}{h:Heap}{a C:Addr}(hx:W0 a C h):W.Looks M h (typeOf (.ref a)) (.ref C):=by
 obtain ⟨ob,vs,e,c,d⟩:=hx;exact c▸(W.Looks.ld e).andThen .now
end L2
namespace L2
open PySem PySem.Spec PyProof.Rows
theorem We {K:W.Frag}{prog:Program}{w:World}{A:Around}{E:Value->Shared->Prop}{Q:Option Value->Shared->Prop}{s:Shared}{a C:Addr}(KX:K.In s.heap)(hx:W0 a C s.heap)(hga:W.findIn K (.ref C) "__getattribute__" = some (some (.builtin "BaseException.__getattribute__")))(hnga:W.findIn K (.ref C) "__getattr__" = some none)(hcl:W.findIn K (.ref C) "__class__" = some (some (.builtin "object.__class__")))(hm:W.mroIn K C (.type "object")=some true)(hB:W.subIn K (.ref C) (.type "BaseException")=some true)(h:Q (some (.ref C)) { s with toks:=s.toks+1 }):wpAny (model prog w) A (getAttr? (.ref a) "__class__") Q E s:=by
 have L0:=Ve (M:=model prog w) hx;have L1:=W.looks_findIn (M:=model prog w) KX hga;have L2:=W.looks_findIn (M:=model prog w) KX hnga;have L3:=W.looks_findIn (M:=model prog w) KX hcl;have L4:=W.looks_subIn (M:=model prog w) KX hB;obtain ⟨h0,g,d,t,os⟩:=s;have f3:=PySem.F.attr_ValueError.ga.bind (.ref a);unfold getAttr? getAttrBy? getAttrBy;refine wpAny_bind (wpAny_mkText (wpAny_bind (wpAny_attempt (wpAny_holding (wpAny_bind (L0.at (wpAny_bind (L1.at ?_))))))));dsimp only;have hx2:(onTheHeap (Value.ref C) && Value.builtin "BaseException.__getattribute__" == Value.builtin "object.__getattribute__")=false:=by
  have z:(Value.builtin "BaseException.__getattribute__" == Value.builtin "object.__getattribute__")=false:=by decide +kernel
  rw [z,Bool.and_false]
 rw [hx2];simp only [Bool.false_eq_true,if_false];unfold getAttrByItsOwn
 repeat (any_goals (first | assumption | with_reducible refine L0.at ?_ | with_reducible refine L2.at ?_ | wp_step))
 have hsp:splitId "BaseException.__getattribute__" = some ("BaseException", "__getattribute__"):=by decide +kernel
 have hkd:builtinKind "BaseException.__getattribute__" = some .slot:=by decide +kernel
 have har:=PySem.F.args_bexc_ga (.ref a) (.str (Str.ofString "__class__") t);refine codeAny_call_builtin PySem.F.attr_ValueError.ga.plain PySem.F.entry_bexc_ga ?_;show wpAny _ _ (checkBuiltinCall "BaseException.__getattribute__" ⟨[.ref a,.str (Str.ofString "__class__") t],[]⟩) _ _ _;simp only [checkBuiltinCall,hkd,hsp];refine wpAny_bind ?_;unfold isInstance;have f5:=PySem.F.typeOf_object_class;have f6:=PySem.F.slot_gs_get.lookup;have f7:=PySem.F.slot_gs_set.lookup;have hT5:(⟨h0,g,d,t+1,os⟩:Shared).TypeIs (.builtin "object.__class__") "getset_descriptor" := PySem.F.typeOf_object_class;refine wpAny_bind (L0.at (L4.at ?_))
 repeat (any_goals (first | assumption | with_reducible refine L0.at ?_ | with_reducible refine L3.at ?_ | wp_step))
 have Lo:W.Looks (model prog w) h0 (isSubtype (.ref C) (.type (".".intercalate ("object.__class__".cutAt '.').dropLast))) true:=by
  rw [PySem.F.owner_object_class];exact W.looks_mroIn KX hm
 have hT6:(⟨h0,g,d,t+1,os⟩:Shared).TypeIs (.builtin "object.__class__") "getset_descriptor" := PySem.F.typeOf_object_class;refine codeAny_call_builtin PySem.F.slot_gs_get.plain PySem.F.entry_gs_get (PySem.F.slot_gs_get.check _ _ _ _ _ _ _ _ hT6 (PySem.F.args_gs_get _ _ _) ?_)
 repeat (any_goals (first | assumption | with_reducible refine L0.at ?_ | with_reducible refine Lo.at ?_ | wp_step))
 refine ⟨Code.quiet_builtin _ (by decide +kernel),codeAny_builtin PySem.F.entry_object_class ?_⟩
 repeat (any_goals (first | assumption | with_reducible refine L0.at ?_ | wp_step))
end L2
namespace L2
open PySem PySem.Spec PyProof.Rows
structure ZaP (K:W.Frag)(C:Addr):Prop where
 ex:ZaO K C
 ga:W.findIn K (.ref C) "__getattribute__" = some (some (.builtin "BaseException.__getattribute__"))
 nga:W.findIn K (.ref C) "__getattr__" = some none
 cl:W.findIn K (.ref C) "__class__" = some (some (.builtin "object.__class__"))
 ob:W.mroIn K C (.type "object")=some true
 be:W.subIn K (.ref C) (.type "BaseException")=some true
theorem Vf {K:W.Frag}{a C:Addr}(k:ZaP K C):W.KitX K (.ref a) (.ref C) (W0 a C) where
 ty:=λ_ _ _ p=>Ve p
 it:=λM h KX _=>by
  obtain ⟨_,_,_,⟨_,_,_,_,_,_,_,_,_,_,_,_,_,_,hC⟩,_⟩:=Wd KX k.ex;intro A Q E s kk q;unfold isType loadHead;exact wpAny_bind (wpAny_loadPart (kk _ _ hC) (wpAny_pure q))
 ne:=λh tp dd its n sl KX htp=>by
  obtain ⟨_,_,_,⟨_,_,_,_,_,_,_,_,_,_,_,_,_,_,hC⟩,_⟩:=Wd KX k.ex;refine Bool.eq_false_iff.mpr λq=>?_;have e:C=tp:=Value.ref.inj (beq_iff_eq.mp q);rw [<-e,hC] at htp;have z:=congrArg Obj.data (Option.some.inj htp);unfold excClassObj at z;cases z
 ca:=λKX p q=>We KX p k.ga k.nga k.cl k.ob k.be q
def Uw:V->Value
 | .ty n=>.type n
 | .ref a=>.ref a
 | _=>.none
def Wf:V->Bool
 | .ty _=>true
 | .ref _=>true
 | _=>false
theorem RelV.cls {c:V}{u:Value}(r:RelV c u)(h:Wf c=true):u=Uw c:=by
 cases c with
 | ty n=>exact r
 | ref a=>exact r
 | _=>cases h
theorem Vals.cls:∀{cs:List V}{us:List Value},Vals cs us->cs.all Wf=true->us=cs.map Uw
 | _,_,.nil,_=>rfl
 | _,_,.cons r t,h=>by
  rw [List.all_cons,Bool.and_eq_true] at h;rw [List.map_cons,r.cls h.1,Vals.cls t h.2]
def Zbp (K:W.Frag):List V->Hp->VK->Prop:=λxs H Q=>∃x c b,xs=[x,c]/\Q (.bl b) H /\
 ((∃t,TyOf K H x t/\Wf c=true/\W.kitOne K t (Uw c)=some b) \/
  (∃a C,x=.ref a/\H a=some (Zbn a C)/\ZaP K C/\Wf c=true/\W.kitOne K (.ref C) (Uw c)=some b) \/
  (∃a C tp cs,x=.ref a/\H a=some (Zbn a C)/\ZaP K C/\c=.ref tp/\H tp=some (.tup cs)/\cs.all Wf=true/\W.kitAny K (.ref C) (cs.map Uw)=some b))
theorem W1 {X:Cx}:JQ X (.builtin "isinstance") (Zbp X.K):=by
 intro qQ s σ H xs us Q I rv h;obtain ⟨x,c,b,rfl,q,h⟩:=h;obtain ⟨u,cv,rfl,ru,rc⟩:=rv.two;have fin:∀tk,EP X qQ σ Q (.bool b) { s with toks:=tk }:=λtk=>⟨.bl b,H,I.tok tk,rfl,q⟩;rcases h with ⟨t,ty,hc,e⟩ | ⟨a,C,rfl,ha,k,hc,e⟩ | ⟨a,C,tp,cs,rfl,ha,k,rfl,ht,hc,e⟩
 ·rw [rc.cls hc];exact V3 I ru ty e fin
 ·rw [rc.cls hc];cases (show u=Value.ref a from ru);obtain ⟨p,_⟩:=I.hok a _ ha;exact W.kia_one (Vf k) I.kIn p e (λz=>nomatch z) fin
 ·cases (show u=Value.ref a from ru);cases (show cv=Value.ref tp from rc);obtain ⟨p,_⟩:=I.hok a _ ha;obtain ⟨_,its,r,o,eo,co,n,dn⟩:=I.hok tp _ ht;obtain ⟨ocl,odi,oda,osl⟩:=o;cases (show ocl=.type "tuple" from co);cases (show oda=.seq its.toArray n from dn);exact W.kia_tup (its:=its) (Vf k) I.kIn p eo (by rw [r.cls hc];exact e) (λz=>nomatch z) fin
mutual
inductive DatV (K:W.Frag)(H:Hp):V->PyData->Prop
 | non:DatV K H .non .none
 | bl (b:Bool):DatV K H (.bl b) (.bool b)
 | int (i:Int):DatV K H (.int i) (.int i)
 | str (x:Str):DatV K H (.str x) (.str x)
 | lst {a:Addr} {xs:List V} {ds:List PyData}:SqL K H a xs->DatVs K H xs ds->DatV K H (.ref a) (.list ds)
 | tup {a:Addr} {xs:List V} {ds:List PyData}:SqT K H a xs->DatVs K H xs ds->DatV K H (.ref a) (.tuple ds)
inductive DatVs (K:W.Frag)(H:Hp):List V->List PyData->Prop
 | nil:DatVs K H [] []
 | cons {x:V} {d:PyData} {xs:List V} {ds:List PyData}:DatV K H x d->DatVs K H xs ds->DatVs K H (x::xs) (d::ds)
end
section
variable {X:Cx}{qQ:List (Addr×Obj)}{σ:St}{H:Hp}{s:Shared}
mutual
theorem DatV.reads (I:Inv X qQ σ H s):∀{x:V}{d:PyData}{u:Value},DatV X.K H x d->RelV x u->∃as,Reads s.heap u d as
 | _,_,_,.non,r=>by cases r;exact ⟨_,.none⟩
 | _,_,_,.bl b,r=>by cases r;exact ⟨_,.bool b⟩
 | _,_,_,.int i,r=>by obtain ⟨t,rfl⟩:=r;exact ⟨_,.int i t⟩
 | _,_,_,.str x,r=>by obtain ⟨t,rfl⟩:=r;exact ⟨_,.str x t⟩
 | _,_,_,.lst hq hs,r=>by
  cases r;obtain ⟨its,rv,⟨o,n,e,c,dd,dt⟩,_⟩:=I.list hq;obtain ⟨as,ra⟩:=DatVs.reads I hs rv;exact ⟨_,.list e c dt (by simpa using ra)⟩
 | _,_,_,.tup hq hs,r=>by
  cases r;obtain ⟨its,rv,⟨o,e,c,n,dt⟩,_⟩:=I.tuple hq;obtain ⟨as,ra⟩:=DatVs.reads I hs rv;exact ⟨_,.tuple e c dt (by simpa using ra)⟩
theorem DatVs.reads (I:Inv X qQ σ H s):∀{xs:List V}{ds:List PyData}{us:List Value},DatVs X.K H xs ds->Vals xs us->∃as,ReadsAll s.heap us ds as
 | _,_,_,.nil,.nil=>⟨_,.nil⟩
 | _,_,_,.cons h hs,.cons r rs=>by
  obtain ⟨as,ra⟩:=DatV.reads I h r;obtain ⟨bs,rb⟩:=DatVs.reads I hs rs;exact ⟨_,.cons ra rb⟩
end
end
def Zbq (K:W.Frag)(neg:Bool):R2:=λx y H Q=>∃d1 d2,DatV K H x d1/\DatV K H y d2/\SeqAt.shaped d1=true/\SeqAt.shaped d2=true/\Q (.bl (neg != PyData.eqv d1 d2)) H
theorem ZA {X:Cx}(hu:X.A.units+64<cLine):OpR X (compareOp .Eq) (Zbq X.K false):=by
 intro qQ s σ H x y v u Q I rx ry h;obtain ⟨d1,d2,h1,h2,s1,s2,q⟩:=h;obtain ⟨as,r1⟩:=h1.reads I rx;obtain ⟨bs,r2⟩:=h2.reads I ry;exact eq_dataH r1 r2 s1 s2 hu ⟨.bl _,H,I,by cases PyData.eqv d1 d2 <;> rfl,q⟩
def Lt2 (p:Nat)(a:Int):Prop:=a.natAbs<2 ^ p
def ZaQ (i j:Int):Prop:=0<j/\Lt2 9000 j
theorem O3 {X:Cx}:OpR X (binaryOp .FloorDiv) (rI ZaQ λi j=>.int (i / j)):=opI λi j _ _ _ _ _ hc q=>by
 have h1:(0:Int)<j:=hc.1;have h2:j.natAbs<2 ^ 9000:=hc.2;refine floordiv_int (by lia) (by rw [Int.fdiv_eq_ediv_of_nonneg i (by lia)];exact q) (.inl (PyProof.noPylong_of_log2 ?_));exact (Nat.log2_lt (by lia)).mpr h2
theorem Same.new {H:Hp}{p:Addr}{o:HO}(h:H p=none):Same H (upd H p o):=λb u e=>by rw [Gr (GG e h)];exact e
theorem Same.put {H H1:Hp}{p:Addr}{o:HO}(s:Same H H1)(h:H p=none):Same H (upd H1 p o):=λb u e=>by rw [Gr (GG e h)];exact s b u e
theorem Ux {H:Hp}{p b:Addr}{o u:HO}(h:H b=some u)(n:b≠p):upd H p o b=some u:=by rw [Gr n];exact h
theorem Js {H:Hp}{l:Addr}{zs:List V}{o:HO}(h:H l=some (.lst zs)):∀p ys,H p=some (.tup ys)->upd H l o p=some (.tup ys):=λp ys e=>Ux e (Zaz e h (λz=>by cases z))
end L2
namespace L2
open PySem PySem.Spec PyProof.Rows
section
variable {X:Cx}
theorem Jb {x:Str}{a:Addr}{pos:Pos}(hm:X.mg x=some (.ref a))(hg:Gl X x:=by rfl)(hd:(x == ("__debug__" : Str))=false:=by decide):PE X (.Name x pos) (tC (.ref a)):=Ov hg hm rfl hd
theorem G7 {x:Str}{T:String}{pos:Pos}(hm:X.mg x=none)(hv:bootBuiltins x=some (.type T))(hg:Gl X x:=by rfl)(hn:x ≠ "__name__" := by decide)(hd:(x == ("__debug__" : Str))=false:=by decide):PE X (.Name x pos) (tC (.ty T)):=X0 hg hm hv rfl hn hd
end
theorem Gz:bootBuiltins "isinstance" = some (.builtin "isinstance"):=by first | rfl | decide +kernel
theorem GU:bootBuiltins "tuple" = some (.type "tuple"):=by first | rfl | decide +kernel
theorem J2:bootBuiltins "list" = some (.type "list"):=by first | rfl | decide +kernel
theorem Uy:bootBuiltins "bool" = some (.type "bool"):=by first | rfl | decide +kernel
theorem O4:bootBuiltins "int" = some (.type "int"):=by first | rfl | decide +kernel
theorem GI {K:W.Frag}{t:Value}:W.kitOne K t t=some true:=by
 unfold W.kitOne;rw [if_pos (beq_self_eq_true t)]
section
variable {X:Cx}(K:W.Frag)
theorem O5 (h:X.K=K:=by rfl):JQ X (.builtin "isinstance") (Zbp K):=h▸W1
theorem Jk (h:X.K=K:=by rfl):IxR X (Y6 K):=h▸Yc
theorem Om (h:X.K=K:=by rfl):IxR X (Zv K):=h▸Zw
theorem kIn (h:X.K=K:=by rfl):OpR X (compareOp .In) (rIn K false):=h▸V8
theorem ZB (h:X.K=K:=by rfl):OpR X (compareOp .NotIn) (rIn K true):=h▸Ur
theorem VA (h:X.K=K:=by rfl):JQ X (.builtin "len") (λxs H Q=>∃p ys,xs=[.ref p]/\(SqL K H p ys\/SqT K H p ys)/\Q (.int ys.length) H):=h▸Us
theorem Yj (h:X.K=K:=by rfl):JQ X (.type "list") (λxs H Q=>∃p ys,xs=[.ref p]/\(SqL K H p ys\/SqT K H p ys)/\∀l,H l=none->Q (.ref l) (upd H l (.lst ys))):=h▸Ut
theorem Zbr (hu:X.A.units+64<cLine)(h:X.K=K:=by rfl):OpR X (compareOp .Eq) (Zbq K false):=h▸ZA hu
theorem kSl (h:X.K=K:=by rfl):SlR X (Zbm K):=h▸Yd
theorem Zbs {es:List Expr}{k:Nat}{t:TGs}{n:Nat}{pos:Pos}(hc:X.calm=true)(h:PGs X es t)(hK:X.K=K:=by rfl)(hn:(assignEach es X.env).length=n:=by rfl)(hst:(assignEach es X.env).findIdx? (·.1)=none:=by rfl):PG X (.Tuple es k pos) (Zbf K n t):=hK▸Zi hc h hn hst
theorem ZaR {tg l:Expr}{tl:TE}(hl:PE X l tl)(h:X.K=K:=by rfl):PI X tg l (WU K tl):=h▸X2 hl
end
end L2
namespace L2
open PySem PySem.Spec PyProof.Rows
def AllP {α:Type}(P:α->Prop):List α->Prop
 | []=>True
 | x::r=>P x/\AllP P r
theorem AllP.mem {α:Type}{P:α->Prop}:∀{l:List α},AllP P l->∀x∈l,P x
 | _::_,h,_,.head _=>h.1
 | _::_,h,x,.tail _ m=>AllP.mem h.2 x m
theorem GZ {X:Cx}{scope:Scope}{cl:List (Str×Addr)}{own:List Str}{fr:List (Str×Nat)}(L:List (Str×NameKind))(hcl:closureFor scope X.env=pure cl)(hL:(relabel scope X.env).names=L)(hc:∀y∈scope.names,y.2≠.cell)(hk:scope.kind=.function)(hn:∀y∈scope.names,y.2=.local->scope.names.lookup y.1=some .local)(hcs:AllP (λp=>X.env.cells.lookup p.1=some p.2) cl)(qX:AllP (λp=>(p.2=.cell\/p.2=.free)->∃c,cl.lookup p.1=some c) L)(hfr:AllP (λp=>X.N[p.2]?=some p.1/\(X.env.kindOf p.1=some .cell\/X.env.kindOf p.1=some .free)/\(L.lookup p.1=some .cell\/L.lookup p.1=some .free)) fr):Jo X scope cl own fr:=
 ⟨hcl,hc,hk,hn,λy c h=>hcs.mem (y,c) (PySem.mem_of_lookup h),λy h=>by
  rw [hL] at h;rcases h with h | h
  ·exact qX.mem _ (PySem.mem_of_lookup h) (.inl rfl)
  ·exact qX.mem _ (PySem.mem_of_lookup h) (.inr rfl),λp hp=>by
  rw [hL];exact hfr.mem p hp⟩
theorem On {k:NameKind}{P:Prop}(h:k=.cell\/k=.free)(h1:(k == .cell)=false:=by rfl)(h2:(k == .free)=false:=by rfl):P:=by
 rcases h with z | z
 ·subst z;exact absurd h1 (by decide)
 ·subst z;exact absurd h2 (by decide)
theorem Jt {t u:TS}{D:U2}{σ:St}{H:Hp}(Pm:St->Hp->Prop)(h2:∀ σ' H',Pm σ' H'->u D σ' H')(h1:(∀ σ' H',Pm σ' H'->u D σ' H')->t { D with nx:=u D } σ H):Zav t u D σ H:=h1 h2
end L2
namespace L2
open PySem PySem.Spec PyProof.Rows
section
variable {X:Cx}
theorem OD:UnR X (unaryOp .USub) (rU λi=>.int (-i)):=by
 intro qQ s σ H x v Q I rx h;obtain ⟨i,rfl,q⟩:=h;obtain ⟨t,rfl⟩:=rx;exact neg_int ⟨.int (-i),H,I.tok _,⟨_,rfl⟩,q⟩
end
theorem XR {xs:List V}{k:Nat}:JN xs none (some (k:Int))=xs.take k:=by
 unfold JN;rw [HT.sIx_none,HT.sIx_nat,List.drop_zero,Nat.sub_zero];by_cases h:k<=xs.length
 ·rw [Nat.min_eq_left h]
 ·rw [Nat.min_eq_right (by lia),List.take_length,List.take_of_length_le (by lia)]
theorem JI {xs:List V}{k:Nat}:JN xs (some (k:Int)) none=xs.drop k:=by
 unfold JN;rw [HT.sIx_none,HT.sIx_nat];by_cases h:k<=xs.length
 ·rw [Nat.min_eq_left h,List.take_of_length_le (by rw [List.length_drop];exact Nat.le_refl _)]
 ·rw [Nat.min_eq_right (by lia),List.drop_length,List.drop_of_length_le (by lia),List.take_nil]
theorem Vg:∀ns:List Int,PyData.canLayAll0 (ns.map PyData.int)=true
 | []=>by simp [PyData.canLayAll0]
 | n::ns=>by
  rw [List.map_cons];simp [PyData.canLayAll0,PyData.canLay0,Vg ns]
theorem OV:∀ns:List Int,PyData.depthAll (ns.map PyData.int)<=1
 | []=>by simp [PyData.depthAll]
 | n::ns=>by
  have ih:=OV ns;rw [List.map_cons];simp only [PyData.depthAll,PyData.depth]
  lia
theorem OE (ns:List Int):SeqAt.shaped (.list (ns.map PyData.int))=true:=by
 unfold SeqAt.shaped;rw [Bool.and_eq_true];have:=OV ns;refine ⟨by simp only [PyData.canLay0];exact Vg ns,decide_eq_true ?_⟩;simp only [PyData.depth]
 lia
end L2
namespace L2
open PySem PySem.Spec PyProof.Rows
section
variable {X:Cx}{a b c d:Expr}{ta tb tc td:TE}{pos:Pos}
theorem Vh:bootBuiltins "all" = some (.builtin "all"):=by first | rfl | decide +kernel
theorem Uz:∀{bs:List Bool}{us:List Value},Vals (bs.map V.bl) us->us=bs.map Value.bool
 | [],_,.nil=>rfl
 | b::bs,_,.cons r t=>by rw [List.map_cons,<-Uz t];cases r;rfl
theorem Wg (bs:List Bool):(List.range bs.length).all (λi=>bs.getD i false)=bs.all id:=by
 induction bs with
 | nil=>rfl
 | cons b bs ih=>
  rw [List.length_cons,List.range_succ_eq_map,List.all_cons,List.all_map,List.all_cons];show (b && _)=(b && _)
  congr 1
theorem Zbt (K:W.Frag)(hc:X.calm=true)(h:X.K=K:=by rfl):JQ X (.builtin "all") (λxs H Q=>∃(p:Addr)(bs:List Bool),xs=[.ref p]/\SqL K H p (bs.map V.bl)/\Q (.bl (bs.all id)) H):=by
 subst h;intro qQ s σ H xs us Q I rv h;obtain ⟨p,bs,rfl,hq,q⟩:=h;obtain ⟨u,rfl,ru⟩:=rv.one;cases ru;obtain ⟨its,r,pl,hz⟩:=I.list hq;have e:=Uz r;have hh:X.A.in1.handled=none:=I.ok.hd hc;obtain ⟨o,eo,_⟩:=id pl.isList;have hlt:p<s.heap.objs.size:=Heap.lt_size eo;refine call_all_walk (wpAny_pyIter_list pl.isList ?_);refine ⟨s.heap.objs.size,_,_,_,_,_,λi=>bs.getD i false,rfl,Walks.list hh s.heap.objs.size p (Nat.ne_of_lt hlt) its.toArray,⟨⟨_,Heap.get?_push_size _ rfl,rfl,rfl⟩,pl.isList.at λo e=>Heap.get?_push_of_some _ e⟩,?_,λh' tk hk=>?_⟩
 ·intro i v s' Q' E' hv hq';have hv':its[i]?=some v:=by simpa using hv
  rw [e,List.getElem?_map] at hv';cases z:bs[i]? with
  | none=>rw [z] at hv';cases hv'
  | some b=>
   rw [z] at hv';cases hv';have eb:bs.getD i false=b:=by rw [List.getD_eq_getElem?_getD,z];rfl
   exact wpAny_truthy_bool (by rw [<-eb];exact hq')
 ·have hl:its.toArray.size=bs.length:=by rw [List.size_toArray,e,List.length_map]
  have I1:Inv X qQ σ H { s with heap:=s.heap.push { cls:=.type "list_iterator", data:=.fields #[.ref p,.int 0 0] } }:=I.kept (t':=s.toks) λb o e=>Heap.get?_push_of_some _ e;refine ⟨.bl _,H,I.kept λb o e'=>hk b o ?_ (Heap.get?_push_of_some _ e'),?_,q⟩
  ·intro z;have:b=s.heap.objs.size:=by simpa using z
   exact absurd (Heap.lt_size e') (by rw [this];exact Nat.lt_irrefl _)
  ·show Value.bool _=Value.bool _;rw [hl,Wg]
end
end L2
namespace L2
open PySem PySem.Spec PyProof.Rows
section
variable {X:Cx}(K:W.Frag)
theorem Y7 (h:X.K=K:=by rfl):SlR X (Zbl K):=h▸Zt
theorem W6 {tg:Expr}{l:Expr}{tl:TE}(hl:PE X l tl)(h:X.K=K:=by rfl):PI X tg l (Zbg K tl):=h▸Zl hl
end
end L2
namespace L2
open PySem PySem.Spec PyProof.Rows
theorem O6 {K:PySem.W.Frag}{a D:Addr}{xs:List V}{g:TG}{tc:TT}{te:TE}{σ0:St}{R:Hp->Prop}{H1:Hp}(Pv:Nat->List V->Hp->Prop)(h0:Pv 0 [] (upd H1 D (.lst [])))(hl:∀i ys H,i<=xs.length->Pv i ys H->SqT K H a xs)(hs:∀i x ys H,xs[i]?=some x->Pv i ys H->g x σ0 H λσ4 H4=>OC σ0 σ4/\tc σ4 H4 λb H5=>if b=true then te σ4 H5 λy H6=>H6 D=some (.lst ys)/\ys.length<sizeLine/\Pv (i+1) (ys++[y]) (upd H6 D (.lst (ys++[y]))) else Pv (i+1) ys H5)(hd:∀ys H,Pv xs.length ys H->R H):∃W:Nat->Nat->List V->Hp->Prop,(∃m,W 0 m [] (upd H1 D (.lst [])))/\JB (Itt K a) D g tc te σ0 W R:=by
 refine ⟨λi m ys H=>m=xs.length-i/\i<=xs.length/\Pv i ys H,⟨_,rfl,Nat.zero_le _,h0⟩,?_⟩;rintro i m ys H ⟨rfl,hi,p⟩;have q:=hl i ys H hi p;by_cases hlt:i<xs.length
 ·refine .inr ⟨⟨xs,xs[i],q,by simp [hlt]⟩,Pv (i+1),λys' H' p'=>⟨xs.length-(i+1),by lia,rfl,hlt,p'⟩,λx H' y=>?_⟩;obtain ⟨e,y⟩:=y;subst e;exact hs i x ys _ (y xs q) p
 ·have e:i=xs.length:=by lia
  subst e;exact .inl ⟨⟨xs,q,Nat.le_refl _⟩,hd ys H p⟩
set_option maxRecDepth 8000 in
theorem VB (l:Addr)(items:Array Value)(n:Nat)(b:Addr)(items2:Array Value)(n2:Nat)(dc:Option Addr)(sl:Array (Option Value))(hs0:¬(!items.isEmpty && Builtin.List.listTooLong (items.size+items2.size))=true)(hs1:items.size<=sizeLine)(hs2:items.size+items2.size<=sizeLine+1) :
  Meets (Builtin.«list.extend» ⟨[.ref l,.ref b],[]⟩) (λ_ R s=>s.heap.get? l=some { cls:=.type "list", dict:=none,data:=.seq items n,slots:=#[] }/\s.heap.get? b=some { cls:=.type "tuple", dict:=dc,data:=.seq items2 n2,slots:=sl }/\R (.ok (.ret Value.none)) { s with heap:=s.heap.update l (Obj.mapSeq λx=>x++items2),toks:=s.toks }):=
 .of_wp λprog w A R s h=>by
  obtain ⟨hp,g,d,tk,os⟩:=s;obtain ⟨hl,hb,h⟩:=h;have f1:=AutoSeq1.idx_int;have f2:=AutoSeq1.sub_tuple_tuple;have f3:=AutoSeq1.sub_list_list;have f4:=AutoSeq1.sub_tuple_list;have f5:=AutoSeq1.sub_list_tuple;have hz':(items++items2).size<=sizeLine+1:=by rw [Array.size_append];exact hs2
  wp_walk using (wpAny_updateSeq hl rfl (hz:=hs1) (_hz':=hz')),AutoSeq1.wpAny_loadPart' hl,AutoSeq1.wpAny_loadPart' hb
  exact ⟨_,rfl,h⟩
section
variable {X:Cx}
def W9:V->List V->Hp->VK->Prop:=λx vs H Q=>∃l b xs zs,x=.ref l/\vs=[.ref b]/\H l=some (.lst xs)/\H b=some (.tup zs)/\xs.length+zs.length<=sizeLine/\Q .non (upd H l (.lst (xs++zs)))
theorem VC:MtM X "list.extend" W9:=by
 intro qQ s σ H x vs v us Q I rx rv h;obtain ⟨l,b,xs,zs,rfl,rfl,hH,hB,hz,q⟩:=h;cases rx;obtain ⟨u,rfl,ru⟩:=rv.one;cases ru;obtain ⟨z,its,n,r,hl,e⟩:=I.lstM hH;obtain ⟨_,its2,r2,o,ho,hc,n2,hd⟩:=I.hok b _ hB;have hl2:=r2.length;have hll:=r.length;have hsz:its.toArray.size+its2.toArray.size<=sizeLine:=by rw [List.size_toArray,List.size_toArray];lia
 have hlong:¬ (!its.toArray.isEmpty && Builtin.List.listTooLong (its.toArray.size+its2.toArray.size))=true:=by
  rw [U9 hsz,Bool.and_false];exact Bool.false_ne_true
 refine call_meets F.slot_list_extend ⟨_,e,rfl⟩ F.entry_list_extend (F.args_list_extend_2 _ _)
  (VB l its.toArray n b its2.toArray n2 o.dict o.slots hlong (by rw [List.size_toArray];lia) (by lia)) ⟨e,?_,?_⟩
 ·rw [ho];cases o;simp only at hc hd;rw [hc,hd]
 refine ⟨.non,_,I.lset (its':=its++its2) hH e (by simp) (r.append r2) ?_,rfl,q⟩;rw [List.length_append]
 lia
end
end L2
namespace L2
open PySem PySem.Spec PyProof.Rows
mutual
inductive Th (H:Hp):V->PyData->Prop
 | non:Th H .non .none
 | bl (b:Bool):Th H (.bl b) (.bool b)
 | int (i:Int):Th H (.int i) (.int i)
 | str (x:Str):Th H (.str x) (.str x)
 | lst {a:Addr} {xs:List V} {ds:List PyData}:H a=some (.lst xs)->xs.length<=1000->Ths H xs ds->Th H (.ref a) (.list ds)
 | tup {a:Addr} {xs:List V} {ds:List PyData}:H a=some (.tup xs)->xs.length<=1000->Ths H xs ds->Th H (.ref a) (.tuple ds)
inductive Ths (H:Hp):List V->List PyData->Prop
 | nil:Ths H [] []
 | cons {x:V} {d:PyData} {xs:List V} {ds:List PyData}:Th H x d->Ths H xs ds->Ths H (x::xs) (d::ds)
end
mutual
theorem Th.same {H H':Hp}(s:Same H H'):∀{v:V}{d:PyData},Th H v d->Th H' v d
 | _,_,.non=>.non
 | _,_,.bl b=>.bl b
 | _,_,.int i=>.int i
 | _,_,.str x=>.str x
 | _,_,.lst e z h=>.lst (s _ _ e) z (Ths.same s h)
 | _,_,.tup e z h=>.tup (s _ _ e) z (Ths.same s h)
theorem Ths.same {H H':Hp}(s:Same H H'):∀{vs:List V}{ds:List PyData},Ths H vs ds->Ths H' vs ds
 | _,_,.nil=>.nil
 | _,_,.cons h t=>.cons (Th.same s h) (Ths.same s t)
end
theorem Ths.len {H:Hp}:∀{vs:List V}{ds:List PyData},Ths H vs ds->vs.length=ds.length
 | _,_,.nil=>rfl
 | _,_,.cons _ t=>by rw [List.length_cons,List.length_cons,Ths.len t]
theorem Ths.get {H:Hp}:∀{vs:List V}{ds:List PyData},Ths H vs ds->∀{i:Nat}{x:V},vs[i]?=some x->∃d,ds[i]?=some d/\Th H x d
 | _,_,.nil,_,_,h=>by simp at h
 | _,_,.cons h _,0,_,e=>by
  simp at e;subst e;exact ⟨_,rfl,h⟩
 | _,_,.cons _ t,i+1,_,e=>by
  rw [List.getElem?_cons_succ] at e ⊢;exact Ths.get t e
theorem Ths.at {H:Hp}{vs:List V}{ds:List PyData}(h:Ths H vs ds){i:Nat}{d:PyData}(e:ds[i]?=some d):∃x,vs[i]?=some x/\Th H x d:=by
 have hi:i<vs.length:=by rw [h.len];exact (List.getElem?_eq_some_iff.mp e).1
 obtain ⟨d',e',t⟩:=h.get (List.getElem?_eq_getElem hi);rw [e] at e';cases e';exact ⟨_,List.getElem?_eq_getElem hi,t⟩
theorem Ths.app {H:Hp}:∀{vs us:List V}{ds es:List PyData},Ths H vs ds->Ths H us es->Ths H (vs++us) (ds++es)
 | _,_,_,_,.nil,k=>k
 | _,_,_,_,.cons h t,k=>.cons h (Ths.app t k)
theorem Ths.take {H:Hp}:∀{vs:List V}{ds:List PyData},Ths H vs ds->∀n,Ths H (vs.take n) (ds.take n)
 | _,_,.nil,n=>by rw [List.take_nil,List.take_nil];exact .nil
 | _,_,.cons h t,0=>.nil
 | _,_,.cons h t,n+1=>.cons h (Ths.take t n)
theorem Ths.drop {H:Hp}:∀{vs:List V}{ds:List PyData},Ths H vs ds->∀n,Ths H (vs.drop n) (ds.drop n)
 | _,_,.nil,n=>by rw [List.drop_nil,List.drop_nil];exact .nil
 | _,_,.cons h t,0=>.cons h t
 | _,_,.cons h t,n+1=>Ths.drop t n
section
variable {X:Cx}{a:Expr}{ta:TE}{pos:Pos}
theorem Yk (ha:PE X a ta)(K:W.Frag)(hK:X.K=K:=by rfl):PE X (.UnaryOp .Not a pos) (λσ H Q=>ta σ H λx H1=>∃k,ZaK K x H1 k/\Q (.bl (!k)) H1):=by
 subst hK;intro qQ s σ H Q I h;refine UnaryOp_ (thn (ha qQ s σ H _ I h) λv s1 ⟨x,H1,I1,r1,k,tk,q1⟩=>?_);exact not_of (thn (XM qQ s1 σ H1 x v (λk H2=>Q (.bl (!k)) H2) I1 r1 ⟨k,tk,q1⟩) λc s2 ⟨H2,I2,q2⟩=>⟨.bl (!c),H2,I2,rfl,q2⟩)
theorem UA (K:W.Frag)(h:X.K=K:=by rfl):OpR X (binaryOp .Add) (Zu K):=h▸Ya
theorem XS (K:W.Frag)(h:X.K=K:=by rfl):JQ X (.type "tuple") (λxs H Q=>∃p ys,xs=[.ref p]/\((SqL K H p ys/\∀l,H l=none->Q (.ref l) (upd H l (.tup ys)))\/(SqT K H p ys/\Q (.ref p) H))):=h▸O2
end
def sJoin:List Str:=["and", "or", "but"]
def sBare:List Str:=["closed", "shy", "all"]
def sPair:List Str:=["open", "long"]
def sFour:List Str:=["with", "off", "over", "past"]
def JS:PyData->Bool
 | .int i=>decide (0<=i) && decide (i<=9999)
 | _=>false
def G1 (w:Str)(rest:List PyData):Bool:=
 if w∈sBare then rest.isEmpty
 else if w∈sPair then (match rest with | [a,b]=>JS a && JS b | _=>false)
 else if w∈sFour then (match rest with | [.tuple ds]=>ds.all JS | _=>false)
 else false
def G8:Nat->PyData->Bool
 | 0,_=>false
 | n+1,.tuple (.str w::rest)=>if w∈sJoin/\rest.length=2 then rest.all (G8 n) else G1 w rest
 | _+1,_=>false
inductive Ws:PyData->Nat->Prop
 | leaf {w:Str} {rest:List PyData}:G1 w rest=true->Ws (.tuple (.str w::rest)) 1
 | join {w:Str} {a b:PyData} {m n:Nat}:w∈sJoin->Ws a m->Ws b n->Ws (.tuple [.str w,a,b]) (max m n+1)
theorem join_leaf {w:Str}{rest:List PyData}(h:w∈sJoin):G1 w rest=false:=by
 unfold G1;have h1:w ∉ sBare/\w ∉ sPair/\w ∉ sFour:=by
  unfold sJoin at h;rcases List.mem_cons.mp h with rfl | h
  ·decide +kernel
  ·rcases List.mem_cons.mp h with rfl | h
   ·decide +kernel
   ·rw [List.mem_singleton] at h;subst h;decide +kernel
 rw [if_neg h1.1,if_neg h1.2.1,if_neg h1.2.2]
theorem GP {w:Str}{rest:List PyData}(h:G1 w rest=true):w ∉ sJoin:=λz=>by rw [join_leaf z] at h;cases h
theorem VD {w:Str}{rest:List PyData}(h:w ∉ sJoin)(n:Nat):G8 (n+1) (.tuple (.str w::rest))=G1 w rest:=by
 rw [G8,if_neg (λz=>h z.1)]
theorem OW {w:Str}{a b:PyData}(h:w∈sJoin)(n:Nat):G8 (n+1) (.tuple [.str w,a,b])=(G8 n a && G8 n b):=by
 rw [G8,if_pos ⟨h,rfl⟩,List.all_cons,List.all_cons,List.all_nil,Bool.and_true]
theorem Ws.iff {d:PyData}{m:Nat}(h:Ws d m):∀n,G8 n d=true↔m<=n:=by
 induction h with
 | leaf h=>
  intro n;cases n with
  | zero=>exact ⟨λz=>(by cases z),λz=>absurd z (by decide)⟩
  | succ n=>
   rw [VD (GP h),h];exact ⟨λ_=>by lia,λ_=>rfl⟩
 | @join w a b m n hw _ _ ih1 ih2=>
  intro k;cases k with
  | zero=>exact ⟨λz=>(by cases z),λz=>absurd z (by lia)⟩
  | succ k=>
   rw [OW hw,Bool.and_eq_true,ih1,ih2]
   lia
theorem Ws.pos {d:PyData}{m:Nat}(h:Ws d m):1<=m:=by
 cases h <;> lia
end L2
namespace L2
open PySem PySem.Spec PyProof.Rows
section
variable {X:Cx}
theorem Vi {α β:Type}{F:α->β->Prop}{l:List α}{m:List β}(h:Paired F l m):∀{i:Nat}{x:α},l[i]?=some x->∃y,m[i]?=some y/\F x y:=by
 induction h with
 | nil=>intro i x e;simp at e
 | @cons p q _ _ r _ ih=>
  intro i x e;cases i with
  | zero=>simp at e;subst e;exact ⟨q,by simp,r⟩
  | succ i=>simp at e;obtain ⟨y,h1,h2⟩:=ih e;exact ⟨y,by simpa using h1,h2⟩
end
end L2
namespace L2
open PySem PySem.Spec PyProof.Rows
section
variable {prog:Program}{w:World}{A:Around}{E:Value->Shared->Prop}{s:Shared}
theorem Xa {it l:Addr}{k:Nat}{items:Array Value}{x:Value}{Q:Value->Shared->Prop}(st:s.heap.get? it=some (revObj l (k:Int)))(hl:s.heap.IsList l items)(hx:items[k]?=some x)(q:∀h',h'.get? it=some (revObj l ((k:Int)-1))->Heap.SameBut it s.heap h'->Q x { s with heap:=h' }) :
  wpAny (model prog w) A (Builtin.«list_reverseiterator.__next__» ⟨[.ref it],[]⟩) (λfin s'=>∃v,fin=.done (.ret v)/\Q v s') E s:=by
 obtain ⟨ol,e1,e2,n,e3⟩:=hl
 wp_walk using wpAny_field st rfl (x:=rawInt (k:Int)) rfl
 rw [e3];refine wpAny_pure ?_;dsimp only;rw [Int.toNat_natCast,hx];dsimp only;refine wpAny_bind (wpAny_setField_rec st (by simp) λh' e' b'=>?_);exact wpAny_pure ⟨_,rfl,q h' e' b'⟩
theorem Xb {it l:Addr}{Q:Value->Shared->Prop}(hh:A.handled=none)(st:s.heap.get? it=some (revObj l (-1)))(q:∀h' e,(∀c o,s.heap.get? c=some o->h'.get? c=some o)->(∃o,h'.get? e=some o/\o.cls=.type "StopIteration")->E (.ref e) { s with heap:=h' }):wpAny (model prog w) A (Builtin.«list_reverseiterator.__next__» ⟨[.ref it],[]⟩) (λfin s'=>∃v,fin=.done (.ret v)/\Q v s') E s:=by
 wp_walk using wpAny_field st rfl (x:=rawInt (-1)) rfl,wpAny_raiseNew_none hh
 exact q _ _ (λc o e=>Heap.get?_push_of_some _ (Heap.get?_push_of_some _ e)) ⟨_,Heap.get?_push_size _ rfl,rfl⟩
theorem Xc {it l:Addr}{k:Nat}{items:Array Value}{x:Value}{Q:Option Value->Shared->Prop}(st:s.heap.get? it=some (revObj l (k:Int)))(hl:s.heap.IsList l items)(hx:items[k]?=some x)(q:∀h',h'.get? it=some (revObj l ((k:Int)-1))->Heap.SameBut it s.heap h'->Q (some x) { s with heap:=h' }):wpAny (model prog w) A (pyNext (.ref it)) Q E s:=by
 have T:s.TypeIs (.ref it) "list_reverseiterator" := ⟨_,st,rfl⟩;refine wpAny_bind (wpAny_attempt (wpAny_callSpecial?_slot T F.slot_lri_next (wpAny_call_entry F.slot_lri_next T F.entry_lri_next (Xa st hl hx λh' a b=>?_) (F.args_lri_next_1 _))))
 wp_walk
 exact q h' a b
theorem Xd {it l:Addr}{Q:Option Value->Shared->Prop}(hh:A.in1.handled=none)(st:s.heap.get? it=some (revObj l (-1)))(q:∀h',(∀c o,s.heap.get? c=some o->h'.get? c=some o)->Q none { s with heap:=h' }):wpAny (model prog w) A (pyNext (.ref it)) Q E s:=by
 have T:s.TypeIs (.ref it) "list_reverseiterator" := ⟨_,st,rfl⟩;refine wpAny_bind (wpAny_attempt (wpAny_callSpecial?_slot T F.slot_lri_next (wpAny_call_entry F.slot_lri_next T F.entry_lri_next (Xb hh st ?_) (F.args_lri_next_1 _))));rintro h' e k ⟨o',e1,e2⟩;exact wpAny_bind (wpAny_isInstance ⟨o',e1,e2⟩ isSubtype_stop (wpAny_pure (q h' k)))
theorem Vj {it l:Addr}{k:Int}{Q:Value->Shared->Prop}(st:s.heap.get? it=some (revObj l k))(q:Q (.ref it) s):wpAny (model prog w) A (pyIter (.ref it)) Q E s:=by
 have T:s.TypeIs (.ref it) "list_reverseiterator" := ⟨_,st,rfl⟩;refine wpAny_pyIter_slot T F.slot_lri_iter (wpAny_call_entry F.slot_lri_iter T F.entry_lri_iter ?_ (F.args_lri_iter_1 _))
 wp_walk
 exact ⟨_,rfl, "list_reverseiterator", _,T,F.slot_lri_next.lookup,q⟩
end
def Itv (K:W.Frag)(a:Addr)(n:Nat):It:=
 ⟨λi H=>i<n/\∃xs,SqL K H a xs/\xs.length=n,λi H x H'=>H'=H/\∀xs,SqL K H a xs->xs[n-1-i]?=some x,λi _=>i=n⟩
theorem Xe {P:Program}{w:World}{K:W.Frag}{tg:Expr}(a it:Addr)(n:Nat):X1 P w K tg (Itv K a n) [it] it (λi h=>h.get? it=some (revObj a ((n:Int)-1-i))) where
 mem:=by simp
 obj:=λi h st b hb=>by
  have e:b=it:=by simpa using hb
  subst e;exact ⟨_,st,λv z=>by cases z⟩
 keep:=λi h h' st k=>k it (by simp) _ st
 item:=by
  intro X hP hw hK hc i qQ s σ H E I hf st hg;subst hP hw hK;obtain ⟨hi,xs,hq,hl⟩:=hg;obtain ⟨its,rv,p,hz⟩:=I.list hq;have hx:xs[n-1-i]?=some xs[n-1-i]:=List.getElem?_eq_getElem (by lia);obtain ⟨u,hu,ru⟩:=rv.get hx;obtain ⟨f0,f1,f2,f3,f4,f5⟩:=hf it (by simp);have ek:((n:Int)-1-i)=((n-1-i:Nat):Int):=by lia
  rw [ek] at st;refine Xc st p.isList (x:=u) (by simpa using hu) λh' st' sb=>?_;have I1:Inv X qQ σ H { s with heap:=h' }:=I.turned (t':=s.toks) (λb o hb e=>(sb.2 b hb).trans e) f0 f1 f3 f4 f5;refine ⟨u,rfl,VV (s:={ s with heap:=h' }) st' rfl rfl (by decide) ⟨xs[n-1-i],H,I1,ru,⟨rfl,λys hy=>by rw [I.list_inj hy hq];exact hx⟩,?_,λb hb=>(hf b hb).1⟩⟩;rw [show ((n:Int)-1-((i+1:Nat):Int))=((n-1-i:Nat):Int)-1 by lia];exact st'
 done:=by
  intro X hP hw hK hc i qQ s σ H E I hf st hg;subst hP hw hK;have hg:i=n:=hg;subst hg;obtain ⟨f0,f1,f2,f3,f4,f5⟩:=hf it (by simp);rw [show ((i:Int)-1-i)=-1 by lia] at st;exact Xd (I.ok.hd hc) st λh' eb=>⟨rfl,I.turned (t':=s.toks) (λb o _ e=>eb b o e) f0 f1 f3 f4 f5⟩
 self:=λ_ _ _ _ _ st h=>Vj st h
section
variable {X:Cx}{tg:Expr}
def ZbN (K:W.Frag)(ta:TA):TI:=λσ H R=>ta σ H λvs H1=>∃a xs,vs=[.ref a]/\SqL K H1 a xs/\R (Itv K a xs.length) H1
theorem ZbO (K:W.Frag){l:Expr}{ta:TA}{p pos:Pos}(hg:Gl X "reversed")(hm:X.mg "reversed" = none)(ha:PA X [l] ta)(hK:X.K=K:=by rfl)(hs:starEach [l] X.env=[(false,eval l X.env)]:=by rfl) :
  PI X tg (.Call (.Name "reversed" p) [l] [] pos) (ZbN K ta):=by
 subst hK;intro qQ s σ H R I h;refine Call_ (Ug I hg hm boot_reversed (PyProof.Rows.callWith_type1 (thn (ha pos qQ s σ H _ I h) λus s1 ⟨vs,H1,I1,r1,q1⟩=>?_) hs rfl));obtain ⟨a,xs,e,hq,q⟩:=q1;subst e;obtain ⟨u,rfl,ru⟩:=r1.one;cases ru;obtain ⟨its,rv,pl,hz⟩:=I1.list hq;refine call_reversed_list pl.isList ?_;have e0:((its.toArray.size:Int)-1)=((xs.length:Int)-1-(0:Nat)):=by
  have:=rv.length;simp
  lia
 have st:(s1.heap.push (revObj a ((its.toArray.size:Int)-1))).get? s1.heap.objs.size=some (revObj a ((xs.length:Int)-1-(0:Nat))):=by rw [<-e0];exact Heap.get?_push_size _ rfl
 refine Vj (s:={ s1 with heap:=s1.heap.push (revObj a ((its.toArray.size:Int)-1)) }) st ?_;refine ⟨s1.heap.objs.size,[s1.heap.objs.size],_,_,H1,rfl,I1.kept (t':=s1.toks) λb o e=>Heap.get?_push_of_some _ e,Xe a _ xs.length,st,λb hb=>?_,q⟩;have e:b=s1.heap.objs.size:=by simpa using hb
 subst e;exact I1.fpOk (Nat.le_refl _) (I1.hok.fresh (Nat.le_refl _))
theorem Yl {K:PySem.W.Frag}{a:Addr}{xs:List V}{g:TG}{tb:TS}{D:U2}{σ:St}{H:Hp}(Pv:Nat->St->Hp->Prop)(h0:Pv 0 σ H)(hl:∀i σ H,i<=xs.length->Pv i σ H->SqL K H a xs)(hs:∀i x σ H,i<xs.length->xs[xs.length-1-i]?=some x->Pv i σ H->g x σ H λσ2 H2=>tb { D with nx:=Pv (i+1),ct:=Pv (i+1),bk:=D.nx } σ2 H2)(hd:∀ σ H,Pv xs.length σ H->D.nx σ H) :
  ∃W:Nat->Nat->St->Hp->Prop,(∃m,W 0 m σ H)/\∀i m σ H,W i m σ H ->
   ((Itv K a xs.length).stop i H/\D.nx σ H)\/((Itv K a xs.length).go i H/\∃N:St->Hp->Prop,(∀ σ' H',N σ' H'->∃m',m'<m/\W (i+1) m' σ' H')/\∀x H',(Itv K a xs.length).yld i H x H'->g x σ H' λσ2 H2=>tb { D with nx:=N,ct:=N,bk:=D.nx } σ2 H2):=by
 refine ⟨λi m σ H=>m=xs.length-i/\i<=xs.length/\Pv i σ H,⟨xs.length,by simp,Nat.zero_le _,h0⟩,?_⟩;rintro i m σ H ⟨rfl,hi,p⟩;have q:=hl i σ H hi p;by_cases hlt:i<xs.length
 ·refine .inr ⟨⟨hlt,xs,q,rfl⟩,Pv (i+1),λσ' H' p'=>⟨xs.length-(i+1),by lia,rfl,hlt,p'⟩,λx H' y=>?_⟩;obtain ⟨e,y⟩:=y;subst e;exact hs i x σ _ hlt (y xs q) p
 ·have e:i=xs.length:=by lia
  subst e;exact .inl ⟨rfl,hd σ H p⟩
end
end L2
namespace L2
open PySem PySem.Spec PyProof.Rows
variable {X:Cx}
abbrev num (i:Int):Str:=Str.ofString (toString i)
theorem Zbu:JQ X (.type "str") (λxs H Q=>∃i:Int,xs=[.int i]/\(0<=i/\i<10 ^ 10)/\Q (.str (num i)) H):=by
 intro qQ s σ H xs us Q I rv h;obtain ⟨i,rfl,⟨h0,h1⟩,q⟩:=h;obtain ⟨u,rfl,ru⟩:=rv.one;obtain ⟨t,rfl⟩:=ru;refine P.str_of_int (shown (N:=10 ^ 10) (by lia) h1 (by decide +kernel)) ?_;exact ⟨.str _,H,I.tok _,⟨_,rfl⟩,q⟩
theorem ZaS:JQ X (.builtin "len") (λxs H Q=>∃x:Str,xs=[.str x]/\x.length<=16777216/\Q (.int x.length) H):=by
 intro qQ s σ H xs us Q I rv h;obtain ⟨x,rfl,hl,q⟩:=h;obtain ⟨u,rfl,ru⟩:=rv.one;obtain ⟨t,rfl⟩:=ru;refine P.len_str (by lia) ?_;exact ⟨.int _,H,I.tok _,⟨_,rfl⟩,q⟩
theorem ZaT:JQ X (.type "int") (λxs H Q=>∃(x:Str)(n:Int),xs=[.str x]/\PySem.intText? x=some n/\x.length<=640/\Q (.int n) H):=by
 intro qQ s σ H xs us Q I rv h;obtain ⟨x,n,rfl,hn,hl,q⟩:=h;obtain ⟨u,rfl,ru⟩:=rv.one;obtain ⟨t,rfl⟩:=ru;refine W.KIN.call_text hn hl ?_;exact ⟨.int _,H,I.tok _,⟨_,rfl⟩,q⟩
def UN (ta tb:TE):TE:=λσ H Q=>ta σ H λx H1=>tb σ H1 λy H2=>∃a b,x=.str a/\y=.str b/\a.length+b.length<=16777216/\Q (.str (a++b)) H2
theorem JC {a b:Expr}{ta tb:TE}{pos:Pos}(ha:PE X a ta)(hb:PE X b tb):PE X (.BinOp a .Add b pos) (UN ta tb):=by
 intro qQ s σ H Q I h;refine wpAny_BinOp (bin ha hb I h λv u s2 x y H2 I2 rx ry q=>?_);obtain ⟨i,j,rfl,rfl,hl,q⟩:=q;obtain ⟨t,rfl⟩:=rx;obtain ⟨t',rfl⟩:=ry;exact SBL.add (hsz:=hl) λt' k _=>⟨.str _,H2,I2.tok _,⟨_,rfl⟩,q⟩
theorem Wh:MtR X "str.startswith" (λx xs H Q=>∃a b,x=.str a/\xs=[.str b]/\Q (.bl (Txt.startswith a b)) H):=by
 intro qQ s σ H x xs v us Q I rx rv h;obtain ⟨a,b,rfl,rfl,q⟩:=h;obtain ⟨u,rfl,ru⟩:=rv.one;obtain ⟨t,rfl⟩:=ru;obtain ⟨t',rfl⟩:=rx;exact SC.startswith ⟨.bl _,H,I,rfl,q⟩
theorem UB:∀{ys:List Str}{its:List Value},Vals (ys.map V.str) its->∃l:List (Str×Tok),strValues l=its/\l.map (·.1)=ys
 | [],_,h=>by cases h;exact ⟨[],rfl,rfl⟩
 | y::ys,_,h=>by
  cases h with
  | cons r h=>
   obtain ⟨t,rfl⟩:=r;obtain ⟨l,rfl,e⟩:=UB h;exact ⟨(y,t)::l,rfl,by rw [List.map_cons,e]⟩
theorem Wi:∀(tk:Nat)(ys:List Str),Vals (ys.map V.str) (strsFrom tk ys)
 | _,[]=>.nil
 | tk,y::ys=>.cons ⟨_,rfl⟩ (Wi (tk+1) ys)
theorem Ym (K:W.Frag)(hK:X.K=K:=by rfl):MtR X "str.join" (λx xs H Q=>∃a l ys,x=.str a/\xs=[.ref l]/\SqL K H l (ys.map V.str)/\JoinOk a ys=true/\Q (.str (Txt.join a ys)) H):=by
 subst hK;intro qQ s σ H x xs v us Q I rx rv h;obtain ⟨a,l,ys,rfl,rfl,hl,hj,q⟩:=h;obtain ⟨u,rfl,ru⟩:=rv.one;cases ru;obtain ⟨t',rfl⟩:=rx;obtain ⟨its,hv,pl,_⟩:=I.list hl;obtain ⟨ls,rfl,e⟩:=UB hv;exact SC.join pl.isList e hj λt' k=>⟨.str _,H,I.tok _,⟨_,rfl⟩,q⟩
theorem Xf:MtR X "str.split" (λx xs H Q=>∃a b,x=.str a/\xs=[.str b]/\(b.length == 0)=false/\a.length<=sizeLine/\(Builtin.Str.partsBetween a (Builtin.Str.occurrences a b 0 a.length (a.length+1)) b.length).length<=sizeLine /\
  ∀l,H l=none->Q (.ref l) (upd H l (.lst ((Txt.split a b).map V.str)))):=by
 intro qQ s σ H x xs v us Q I rx rv h;obtain ⟨a,b,rfl,rfl,hy,hsz,hsz2,q⟩:=h;obtain ⟨u,rfl,ru⟩:=rv.one;obtain ⟨t,rfl⟩:=ru;obtain ⟨t',rfl⟩:=rx;have hf:H s.heap.objs.size=none:=I.hok.fresh (Nat.le_refl _);have one:∀k,Txt.split a b=[a]->EP X qQ σ Q (.ref s.heap.objs.size) { s with toks:=k,heap:=s.heap.push { cls:=.type "list", data:=.seq [Value.str a t'].toArray } }:=λk e=>
  ⟨.ref s.heap.objs.size,upd H s.heap.objs.size (.lst ((Txt.split a b).map V.str)),I.laid (t':=k) (λb u e=>Heap.get?_push_of_some _ e) (Nat.le_refl _) (by
   rw [e];exact ⟨by show 1<=sizeLine;decide +kernel,_,0,.cons ⟨_,rfl⟩ .nil,Heap.get?_push_size _ rfl⟩),rfl,q _ hf⟩
 cases h1:(decide (a.length<b.length) || decide (Builtin.Str.strKind a<Builtin.Str.strKind b))
 ·cases h2:(Builtin.Str.occurrences a b 0 a.length (a.length+1)).isEmpty
  ·refine call_meets F.slot_str_split (typeIs_str _ _ _) F.entry_str_split (F.args_str_split_2 _ _) (meets_str_split_sep a b t' t h1 hy h2 hsz hsz2) ?_;have e:Txt.split a b=Builtin.Str.partsBetween a (Builtin.Str.occurrences a b 0 a.length (a.length+1)) b.length:=(if_neg (ne_true_of_eq_false h1)).trans (if_neg (ne_true_of_eq_false h2));refine ⟨.ref s.heap.objs.size,upd H s.heap.objs.size (.lst ((Txt.split a b).map V.str)),I.laid (λb u e=>Heap.get?_push_of_some _ e) (Nat.le_refl _) ?_,rfl,q _ hf⟩;rw [e];exact ⟨by rw [List.length_map];exact hsz2,_,0,Wi _ _,Heap.get?_push_size _ rfl⟩
  ·exact call_meets F.slot_str_split (typeIs_str _ _ _) F.entry_str_split (F.args_str_split_2 _ _) (meets_str_split_not_found a b t' t h1 hy h2) (one _ ((if_neg (ne_true_of_eq_false h1)).trans (if_pos h2)))
 ·exact call_meets F.slot_str_split (typeIs_str _ _ _) F.entry_str_split (F.args_str_split_2 _ _) (meets_str_split_cannot_occur a b t' t h1) (one _ (if_pos h1))
def PJ (X:Cx)(es:List Expr)(t:Str->TE):Prop:=∀(qQ:List (Addr×Obj))(s:Shared)(σ:St)(H:Hp)(Q:VK)(out:Str),Inv X qQ σ H s->t out σ H Q ->
 wpAny (model X.prog X.w) X.A (joinParts out (evalEach es X.env)) (EP X qQ σ Q) X.xe s
theorem ZC:PJ X [] (λout _ H Q=>out.length<=sizeLine/\Q (.str out) H):=λqQ s σ H Q out I h=>
 joinParts_nil ⟨.str _,H,I.tok _,⟨_,rfl⟩,h.2⟩ h.1
theorem JT {e:Expr}{es:List Expr}{te:TE}{t:Str->TE}(he:PE X e te)(h:PJ X es t) :
  PJ X (e::es) (λout σ H Q=>te σ H λv H1=>∃y,v=.str y/\(out++y).length<=sizeLine/\t (out++y) σ H1 Q):=by
 intro qQ s σ H Q out I q;refine joinParts_cons (thn (he qQ s σ H _ I q) λv s1 ⟨x,H1,I1,r1,y,e1,hl,q1⟩=>?_);subst e1;obtain ⟨t,rfl⟩:=r1;exact ⟨hl,h qQ s1 σ H1 Q _ I1 q1⟩
theorem Yn {e1 e2:Expr}{es:List Expr}{t:Str->TE}{pos:Pos}(h:PJ X (e1::e2::es) t):PE X (.JoinedStr (e1::e2::es) pos) (t Str.empty):=λqQ s σ H Q I q=>
 JoinedStr_many (h qQ s σ H Q _ I q)
end L2
namespace L2
open PySem PySem.Spec PyProof.Rows
def Go (c:Nat):Nat->List Nat->List Nat
 | _,[]=>[]
 | k,x::xs=>if x=c then k::Go c (k+1) xs else Go c (k+1) xs
theorem JD (c:Nat):∀(k:Nat)(l:List Nat),(Go c k l).length<=l.length
 | _,[]=>Nat.le_refl _
 | k,x::xs=>by
  have:=JD c (k+1) xs;unfold Go;split <;> simp only [List.length_cons] <;> lia
theorem Vk (x:Str)(c limit:Nat):∀(m k:Nat)(st:Array Nat×Nat),k+m=x.length+1->st.2<=k ->
  (forIn (List.range' k m) st (StrLaws.occBody x ⟨#[c]⟩ x.length limit)).run.fst.toList=st.1.toList++(Go c k (x.cps.toList.drop k)).take (limit-st.1.size)
 | 0,k,st,e,_=>by
  have:x.cps.toList.drop k=[]:=List.drop_eq_nil_of_le (by show x.cps.toList.length<=k;have:x.cps.toList.length=x.length:=Array.length_toList;lia);rw [this];show st.1.toList=st.1.toList++_;simp [Go]
 | m+1,k,st,e,hf=>by
  have hL:x.cps.toList.length=x.length:=Array.length_toList;rw [List.range'_succ,List.forIn_cons];unfold StrLaws.occBody;by_cases hc:x.cps.toList[k]?=some c
  ·obtain ⟨hk,hv⟩:=List.getElem?_eq_some_iff.mp hc;have hd:x.cps.toList.drop k=c::x.cps.toList.drop (k+1):=by rw [List.drop_eq_getElem_cons hk,hv]
   have hs:=(StrLaws.subAt_one x c k).mpr hc;rw [hd];unfold Go;rw [if_pos rfl];by_cases hl:st.1.size<limit
   ·rw [if_pos ⟨⟨⟨hl,hf⟩,hs.1⟩,hs.2⟩];refine (Vk x c limit m (k+1) (st.1.push k,k+1) (by lia) (Nat.le_refl _)).trans ?_;obtain ⟨d,hd⟩:∃d,limit-st.1.size=d+1:=⟨limit-st.1.size-1,by lia⟩;have hd2:limit-(st.1.push k).size=d:=by rw [Array.size_push];lia
    simp only [hd,hd2,Array.toList_push,List.take_succ_cons,List.append_assoc,List.singleton_append]
   ·rw [if_neg λh=>hl h.1.1.1];refine (Vk x c limit m (k+1) (st.1,st.2) (by lia) (Nat.le_succ_of_le hf)).trans ?_;have hd2:limit-st.1.size=0:=by lia
    simp only [hd2,List.take_zero]
  ·rw [if_neg λh=>hc ((StrLaws.subAt_one x c k).mp ⟨h.1.2,h.2⟩)];refine (Vk x c limit m (k+1) (st.1,st.2) (by lia) (Nat.le_succ_of_le hf)).trans ?_;by_cases hk:k<x.cps.toList.length
   ·rw [List.drop_eq_getElem_cons hk];have hn:x.cps.toList[k]≠c:=λe=>hc (by rw [List.getElem?_eq_getElem hk,e]);rw [Go,if_neg hn]
   ·rw [List.drop_eq_nil_of_le (by lia),List.drop_eq_nil_of_le (by lia)]
    rfl
theorem UO (x:Str)(c limit:Nat):Builtin.Str.occurrences x ⟨#[c]⟩ 0 x.length limit=(Go c 0 x.cps.toList).take limit:=by
 rw [StrLaws.occ_eq];refine (Vk x c limit (x.length+1-0) 0 (#[],0) (by lia) (Nat.le_refl _)).trans ?_;simp
def Gx (c:Nat):List Nat->List Nat->List (List Nat)
 | B,[]=>[B]
 | B,x::xs=>if x=c then B::Gx c [] xs else Gx c (B++[x]) xs
theorem O7 (c:Nat):∀(R A B:List Nat),((A.length::(Go c (A.length+B.length) R).map (·+1)).zip (Go c (A.length+B.length) R++[(A++B++R).length])).map (λp=>((A++B++R).take p.2).drop p.1)=Gx c B R
 | [],A,B=>by
  simp [Go,Gx];rw [List.take_of_length_le (by simp)];simp
 | x::xs,A,B=>by
  unfold Go Gx;by_cases h:x=c
  ·subst h;rw [if_pos rfl,if_pos rfl];have ih:=O7 x xs (A++B++[x]) [];have e:A++B++[x]++[]++xs=A++B++x::xs:=by simp
   have e2:(A++B++[x]).length=A.length+B.length+1:=by simp [Nat.add_assoc]
   rw [e,e2] at ih;simp only [List.length_nil,Nat.add_zero] at ih;rw [List.map_cons,List.cons_append,List.zip_cons_cons,List.map_cons,ih]
   congr 1
   have:(A++B++x::xs).take (A.length+B.length)=A++B:=by
    rw [List.take_append_of_le_length (by simp),List.take_of_length_le (by simp)]
   show ((A++B++x::xs).take (A.length+B.length)).drop A.length=B;rw [this];simp
  ·rw [if_neg h,if_neg h];have ih:=O7 c xs A (B++[x]);have e:A++(B++[x])++xs=A++B++x::xs:=by simp
   have e2:(B++[x]).length=B.length+1:=by simp
   rw [e,e2] at ih;exact ih
def mkS (l:List Nat):Str:=⟨l.toArray⟩
theorem Vl (x:Str)(i j:Nat):Builtin.Str.strSub x i j=mkS ((x.cps.toList.take j).drop i):=by
 unfold Builtin.Str.strSub mkS
 congr 1
 apply Array.ext';rw [Array.toList_extract];simp [List.extract_eq_take_drop,List.drop_take]
theorem OF (x:Str)(c:Nat):Builtin.Str.partsBetween x (Go c 0 x.cps.toList) 1=(Gx c [] x.cps.toList).map mkS:=by
 have h:=O7 c x.cps.toList [] [];simp only [List.length_nil,Nat.add_zero,List.nil_append] at h;unfold Builtin.Str.partsBetween;have hL:x.cps.toList.length=x.length:=Array.length_toList;rw [<-h,List.map_map,hL];refine List.map_congr_left λp _=>?_;exact Vl x p.1 p.2
theorem Oa {c:Nat}:∀{w:List Nat}{B R:List Nat},c ∉ w->Gx c B (w++R)=Gx c (B++w) R
 | [],B,R,_=>by simp
 | y::w,B,R,h=>by
  have hy:y≠c:=λe=>h (e▸List.mem_cons_self ..);rw [List.cons_append,Gx,if_neg hy,Oa (w:=w) (λe=>h (List.mem_cons_of_mem _ e))];simp
theorem Jc {c:Nat}:∀{ws:List (List Nat)}{w:List Nat},(∀v∈w::ws,c ∉ v)->Gx c [] (w++ws.flatMap (λv=>c::v))=w::ws
 | [],w,h=>by
  rw [List.flatMap_nil,Oa (h w (List.mem_cons_self ..))];simp [Gx]
 | v::ws,w,h=>by
  rw [List.flatMap_cons,Oa (h w (List.mem_cons_self ..)),List.cons_append,Gx,if_pos rfl,Jc (λu hu=>h u (List.mem_cons_of_mem _ hu))];simp
theorem UP {x:Str}{c:Nat}(hc:c<256){w:List Nat}{ws:List (List Nat)}(hx:x.cps.toList=w++ws.flatMap (λv=>c::v))(h:∀v∈w::ws,c ∉ v):Txt.split x ⟨#[c]⟩=(w::ws).map mkS:=by
 have key:(Gx c [] x.cps.toList).map mkS=(w::ws).map mkS:=by rw [hx,Jc h]
 have self:mkS x.cps.toList=x:=rfl;have none:Go c 0 x.cps.toList=[]->[x]=(w::ws).map mkS:=by
  intro e;rw [<-key,<-OF,e];simp [Builtin.Str.partsBetween,Vl];rw [List.take_of_length_le (by rw [Array.length_toList];exact Nat.le_refl _)];exact self.symm
 unfold Txt.split;split
 ·rename_i h1;rw [Bool.or_eq_true,decide_eq_true_eq,decide_eq_true_eq] at h1;refine none ?_;rcases h1 with h1 | h1
  ·have:x.cps.toList=[]:=by
    apply List.eq_nil_of_length_eq_zero;rw [Array.length_toList];have:x.length<1:=h1;have e:x.length=x.cps.size:=rfl
    lia
   rw [this];rfl
  ·exfalso;have k1:Builtin.Str.strKind ⟨#[c]⟩=1:=by unfold Builtin.Str.strKind;rw [if_pos (by simp;lia)]
   have k2:1<=Builtin.Str.strKind x:=by unfold Builtin.Str.strKind;split;lia;split <;> lia
   lia
 ·have hlim:Builtin.Str.occurrences x ⟨#[c]⟩ 0 x.length (x.length+1)=Go c 0 x.cps.toList:=by
   rw [UO,List.take_of_length_le];have:=JD c 0 x.cps.toList;rw [Array.length_toList] at this;exact Nat.le_succ_of_le this
  rw [hlim];split
  ·rename_i h2;exact none (List.isEmpty_iff.mp h2)
  ·exact (OF x c).trans key
end L2
namespace L2
open PySem PySem.Spec PyProof.Rows
def Its (x:Str):It:=⟨λi _=>i<x.cps.size,λi H v H'=>H'=H/\∃c,x.cps[i]?=some c/\v=.str ⟨#[c]⟩,λi _=>x.cps.size<=i⟩
theorem Xg {P:Program}{w:World}{K:W.Frag}{tg:Expr}(it:Addr)(x:Str)(t:Tok):X1 P w K tg (Its x) [it] it (λi h=>h.IsStrIter it "str_ascii_iterator" x t i) where
 mem:=by simp
 obj:=λi h st b hb=>by
  have e:b=it:=by simpa using hb
  subst e;obtain ⟨o,e,c,d⟩:=st;exact ⟨o,e,λv z=>by rw [d] at z;cases z⟩
 keep:=λi h h' st k=>by
  obtain ⟨o,e,r⟩:=st;exact ⟨o,k it (by simp) o e,r⟩
 item:=by
  intro X hP hw hK hc i qQ s σ H E I hf st hg;subst hP hw hK;have hg:i<x.cps.size:=hg;obtain ⟨f0,f1,f2,f3,f4,f5⟩:=hf it (by simp);refine wpAny_pyNext_ascii_item st (c:=x.cps[i]) (by simp [hg]) λh' st' sb=>?_;have I1:Inv X qQ σ H { s with heap:=h',toks:=s.toks+1 }:=I.turned (λb o hb e=>(sb.2 b hb).trans e) f0 f1 f3 f4 f5;obtain ⟨o,e,c,d⟩:=id st';exact ⟨_,rfl,VV (s:={ s with heap:=h',toks:=s.toks+1 }) e c d (by decide) ⟨.str ⟨#[x.cps[i]]⟩,H,I1,⟨_,rfl⟩,⟨rfl,x.cps[i],by simp [hg],rfl⟩,st',λb hb=>(hf b hb).1⟩⟩
 done:=by
  intro X hP hw hK hc i qQ s σ H E I hf st hg;subst hP hw hK;obtain ⟨f0,f1,f2,f3,f4,f5⟩:=hf it (by simp);have hg:x.cps.size<=i:=hg;exact wpAny_pyNext_ascii_end (I.ok.hd hc) st (by simp;lia) λh' eb=>⟨rfl,I.turned (t':=s.toks) (λb o hb e=>eb b o hb e) f0 f1 f3 f4 f5⟩
 self:=λ_ _ _ _ _ st h=>wpAny_pyIter_striter_ascii st h
section
variable {X:Cx}{tg:Expr}
def ZbP (tl:TE):TI:=λσ H R=>tl σ H λv H1=>∃x:Str,v=.str x/\x.cps.all (·<128)=true/\R (Its x) H1
theorem ZD {l:Expr}{tl:TE}(hl:PE X l tl):PI X tg l (ZbP tl):=by
 intro qQ s σ H R I h;refine thn (hl qQ s σ H _ I h) λv s1 ⟨x,H1,I1,r1,q1⟩=>?_;obtain ⟨y,e,ha,q⟩:=q1;subst e;obtain ⟨t,rfl⟩:=r1;refine wpAny_pyIter_ascii ha ?_;refine ⟨s1.heap.objs.size,[s1.heap.objs.size],_,_,H1,rfl,I1.kept (t':=s1.toks) λb o e=>Heap.get?_push_of_some _ e,Xg _ y t,⟨_,Heap.get?_push_size _ rfl,rfl,rfl⟩,λb hb=>?_,q⟩;have e:b=s1.heap.objs.size:=by simpa using hb
 subst e;exact I1.fpOk (Nat.le_refl _) (I1.hok.fresh (Nat.le_refl _))
theorem Xh {x:Str}{D:Addr}{g:TG}{tc:TT}{te:TE}{σ0:St}{R:Hp->Prop}{H1:Hp}(Pv:Nat->List V->Hp->Prop)(h0:Pv 0 [] (upd H1 D (.lst [])))(hs:∀i c ys H,x.cps[i]?=some c->Pv i ys H->g (.str ⟨#[c]⟩) σ0 H λσ4 H4=>OC σ0 σ4/\tc σ4 H4 λb H5=>if b=true then te σ4 H5 λy H6=>H6 D=some (.lst ys)/\ys.length<sizeLine/\Pv (i+1) (ys++[y]) (upd H6 D (.lst (ys++[y]))) else Pv (i+1) ys H5)(hd:∀ys H,Pv x.cps.size ys H->R H):∃W:Nat->Nat->List V->Hp->Prop,(∃m,W 0 m [] (upd H1 D (.lst [])))/\JB (Its x) D g tc te σ0 W R:=by
 refine ⟨λi m ys H=>m=x.cps.size-i/\i<=x.cps.size/\Pv i ys H,⟨_,rfl,Nat.zero_le _,h0⟩,?_⟩;rintro i m ys H ⟨rfl,hi,p⟩;by_cases hlt:i<x.cps.size
 ·refine .inr ⟨hlt,Pv (i+1),λys' H' p'=>⟨x.cps.size-(i+1),by lia,rfl,hlt,p'⟩,λv H' y=>?_⟩;obtain ⟨e,c,hc,rfl⟩:=y;subst e;exact hs i c ys _ hc p
 ·have e:i=x.cps.size:=by lia
  subst e;exact .inl ⟨Nat.le_refl _,hd ys H p⟩
theorem ZbQ:OpR X (compareOp .In) (λx y H Q=>∃(c:Nat)(b:Str),x=.str ⟨#[c]⟩/\y=.str b/\Q (.bl (decide (c∈b.cps.toList))) H):=by
 intro qQ s σ H x y v u Q I rx ry h;obtain ⟨c,b,rfl,rfl,q⟩:=h;obtain ⟨t,rfl⟩:=rx;obtain ⟨t',rfl⟩:=ry;refine P.in_str ?_;rw [StrLaws.found_one];exact ⟨.bl _,H,I,rfl,q⟩
end
end L2
namespace L2
open PySem PySem.Spec PyProof.Rows
variable {X:Cx}
def PEq (X:Cx)(e:Expr)(te:TE):Prop:=∀(qQ:List (Addr×Obj))(s:Shared)(σ:St)(H:Hp)(Q:VK),Inv X qQ σ H s->0<s.toks->te σ H Q->wpAny (model X.prog X.w) X.A (eval e X.env) (EP X qQ σ Q) X.xe s
def PEp (X:Cx)(e:Expr)(te:TE):Prop:=∀(qQ:List (Addr×Obj))(s:Shared)(σ:St)(H:Hp)(Q:VK),Inv X qQ σ H s->te σ H Q->wpAny (model X.prog X.w) X.A (eval e X.env) (λv s'=>0<s'.toks/\EP X qQ σ Q v s') X.xe s
end L2
namespace L2
open PySem PySem.Spec PyProof.Rows
theorem UC {α:Type}{t:Sem α}{Q Q':α->Shared->Prop}{M:Model}{A:Around}{E:Value->Shared->Prop}{s:Shared}(hs:0<s.toks)(h:wpAny M A t Q E s)(k:∀a s',0<s'.toks->Q a s'->Q' a s'):wpAny M A t Q' E s:=
 wpAny_with_toks (n:=1) hs (wpAny_mono h (λa s' q hn=>k a s' hn q) λ_ _ x _=>x)
section
variable (X:Cx)
def PTq (e:Expr)(t:TT):Prop:=∀(qQ:List (Addr×Obj))(s:Shared)(σ:St)(H:Hp)(Q:Bool->Hp->Prop),Inv X qQ σ H s->0<s.toks->t σ H Q->wpAny (model X.prog X.w) X.A (isTrue e X.env (eval e X.env)) (TP X qQ σ Q) X.xe s
def PWq (e:Expr)(t:TT):Prop:=∀(whole:Sem Value)(qQ:List (Addr×Obj))(s:Shared)(σ:St)(H:Hp)(Q:Bool->Hp->Prop),Inv X qQ σ H s->0<s.toks->t σ H Q->wpAny (model X.prog X.w) X.A (isTrue e X.env whole) (TP X qQ σ Q) X.xe s
def PAq (es:List Expr)(t:TA):Prop:=∀(pos:Pos)(qQ:List (Addr×Obj))(s:Shared)(σ:St)(H:Hp)(Q:List V->Hp->Prop),Inv X qQ σ H s->0<s.toks->t σ H Q->wpAny (model X.prog X.w) X.A (spliced (backTo pos (starEach es X.env))) (AP X qQ σ Q) X.xe s
def PAp (es:List Expr)(t:TA):Prop:=∀(pos:Pos)(qQ:List (Addr×Obj))(s:Shared)(σ:St)(H:Hp)(Q:List V->Hp->Prop),Inv X qQ σ H s->t σ H Q->wpAny (model X.prog X.w) X.A (spliced (backTo pos (starEach es X.env))) (λus s'=>0<s'.toks/\AP X qQ σ Q us s') X.xe s
def PSq (st:Stmt)(t:TS):Prop:=∀(qQ:List (Addr×Obj))(s:Shared)(σ:St)(H:Hp)(D:U2),Inv X qQ σ H s->0<s.toks->t D σ H->wpAny (model X.prog X.w) X.A (exec st X.env) (SP X qQ D) X.xe s
def PSp (st:Stmt)(t:TS):Prop:=∀(qQ:List (Addr×Obj))(s:Shared)(σ:St)(H:Hp)(D:U2),Inv X qQ σ H s->t D σ H->wpAny (model X.prog X.w) X.A (exec st X.env) (λf s'=>0<s'.toks/\SP X qQ D f s') X.xe s
def PSsq (st:List Stmt)(t:TS):Prop:=∀(qQ:List (Addr×Obj))(s:Shared)(σ:St)(H:Hp)(D:U2),Inv X qQ σ H s->0<s.toks->t D σ H->wpAny (model X.prog X.w) X.A (execs st X.env) (SP X qQ D) X.xe s
def PIq (tg iter:Expr)(wi:TI):Prop:=∀(qQ:List (Addr×Obj))(s:Shared)(σ:St)(H:Hp)(R:It->Hp->Prop),Inv X qQ σ H s->0<s.toks->wi σ H R ->
  wpAny (model X.prog X.w) X.A (eval iter X.env) (λv s1=>wpAny (model X.prog X.w) X.A (pyIter v) (PIE X qQ σ tg R) X.xe s1) X.xe s
def PIt (c:Shared->Prop)(tg iter:Expr)(wi:TI):Prop:=∀(qQ:List (Addr×Obj))(s:Shared)(σ:St)(H:Hp)(R:It->Hp->Prop),Inv X qQ σ H s->c s->wi σ H R ->
  wpAny (model X.prog X.w) X.A (eval iter X.env) (λv s1=>wpAny (model X.prog X.w) X.A (pyIter v) (λi s2=>0<s2.toks/\PIE X qQ σ tg R i s2) X.xe s1) X.xe s
end
section
variable {X:Cx}{a b e:Expr}{es rest:List Expr}{ta tb te:TE}{tA tB':TT}{t:TA}{pos:Pos}{st:Stmt}{sts:List Stmt}{ts us:TS}
theorem PE.q (h:PE X e te):PEq X e te:=λqQ s σ H Q I _ q=>h qQ s σ H Q I q
theorem PT.q (h:PT X e tA):PTq X e tA:=λqQ s σ H Q I _ q=>h qQ s σ H Q I q
theorem PA.q (h:PA X es t):PAq X es t:=λpos qQ s σ H Q I _ q=>h pos qQ s σ H Q I q
theorem PS.q (h:PS X st ts):PSq X st ts:=λqQ s σ H D I _ q=>h qQ s σ H D I q
theorem PSs.q (h:PSs X sts ts):PSsq X sts ts:=λqQ s σ H D I _ q=>h qQ s σ H D I q
theorem Wj (h:PEq X e te)(he:∀whole,isTrue e X.env whole=(do let v <- whole;standAt e.pos;holding [v] (truthy v)):=by intro _;rfl):PTq X e (tB te):=by
 intro qQ s σ H Q I hs hw;refine isTrue_plain (thn (h qQ s σ H _ I hs hw) λv s1 ⟨x,H1,I1,r1,q1⟩=>?_) (he _);obtain ⟨d,rfl,q⟩:=q1;cases r1;exact wpAny_truthy_bool ⟨H1,I1,q⟩
theorem Wk (ha:PTq X a tA):PTq X (.UnaryOp .Not a pos) (Zbc tA):=λqQ s σ H Q I hs h=>isTrue_not (ha qQ s σ H (λc H1=>Q (!c) H1) I hs h)
theorem Wm (ha:PTq X a tA):PWq X (.BoolOp .Or [a] pos) tA:=by
 intro wh qQ s σ H Q I hs h;refine isTrue_or (thn (ha qQ s σ H Q I hs h) λc s1 e=>?_);cases c with
 | false=>exact isTrue_or_nil e
 | true=>exact e
theorem Wn (ha:PTq X a tA)(hb:PWq X (.BoolOp .Or (b::rest) pos) tB'):PWq X (.BoolOp .Or (a::b::rest) pos) (tOr tA tB'):=by
 intro wh qQ s σ H Q I hs h;refine isTrue_or (UC hs (ha qQ s σ H _ I hs h) λc s1 hs1 ⟨H1,I1,q1⟩=>?_);cases c with
 | true=>exact ⟨H1,I1,q1⟩
 | false=>exact hb wh qQ s1 σ H1 Q I1 hs1 q1
theorem PWq.pt (h:PWq X e tA):PTq X e tA:=h _
theorem Wo {c:Expr}(hc:PTq X c tA)(ha:PEq X a ta)(hb:PEq X b tb):PEq X (.IfExp c a b pos) (tIf tA ta tb):=by
 intro qQ s σ H Q I hs h;refine wpAny_IfExp (UC hs (hc qQ s σ H _ I hs h) λd s1 hs1 ⟨H1,I1,q1⟩=>?_);cases d with
 | true=>exact ha qQ s1 σ H1 Q I1 hs1 q1
 | false=>exact hb qQ s1 σ H1 Q I1 hs1 q1
theorem Vm (ha:PEq X e te)(hr:PAq X es t)(hs:starEach (e::es) X.env=(false,eval e X.env)::starEach es X.env:=by rfl):PAq X (e::es) (Oj te t):=by
 intro pos qQ s σ H Q I h0 h;rw [hs];show wpAny _ _ (spliced ((false,eval e X.env)::backTo pos (starEach es X.env))) _ _ s;refine Calls.spliced_cons (UC h0 (ha qQ s σ H _ I h0 h) λu s1 h1 ⟨x,H1,I1,r1,q1⟩=>?_);exact thn (hr pos qQ s1 σ H1 _ I1 h1 q1) λus s2 ⟨xs,H2,I2,r2,q2⟩=>⟨x::xs,H2,I2,.cons r1 r2,q2⟩
theorem ZbR (ha:PE X e te)(hr:PAp X es t)(hs:starEach (e::es) X.env=(false,eval e X.env)::starEach es X.env:=by rfl):PAp X (e::es) (Oj te t):=by
 intro pos qQ s σ H Q I h;rw [hs];show wpAny _ _ (spliced ((false,eval e X.env)::backTo pos (starEach es X.env))) _ _ s;refine Calls.spliced_cons (thn (ha qQ s σ H _ I h) λu s1 ⟨x,H1,I1,r1,q1⟩=>?_);exact thn (hr pos qQ s1 σ H1 _ I1 q1) λus s2 ⟨hp,xs,H2,I2,r2,q2⟩=>⟨hp,x::xs,H2,I2,.cons r1 r2,q2⟩
theorem ZaU {i:Int}{j:Nat}{p1:Pos}(hr:PA X es t)(hs:starEach (.Constant (.int i) j p1::es) X.env=(false,eval (.Constant (.int i) j p1) X.env)::starEach es X.env:=by rfl):PAp X (.Constant (.int i) j p1::es) (Oj (tC (.int i)) t):=by
 intro pos qQ s σ H Q I h;rw [hs];show wpAny _ _ (spliced ((false,eval (.Constant (.int i) j p1) X.env)::backTo pos (starEach es X.env))) _ _ s;refine Calls.spliced_cons (wpAny_Constant_int ?_);have h1:(0:Nat)<s.toks+1:=Nat.succ_pos _;refine UC (s:={ s with toks:=s.toks+1 }) h1 (hr pos qQ { s with toks:=s.toks+1 } σ H _ (I.tok _) h) λus s2 hp ⟨xs,H2,I2,r2,q2⟩=>⟨hp,V.int i::xs,H2,I2,.cons ⟨_,rfl⟩ r2,q2⟩
end
structure O8 (P:Program)(w:World)(K:W.Frag)(mg:Str->Option Value)(base:Heap)(CX:CXT)(k:Nat)(f:Addr)(fd:FuncData)(ps:List Str)(sp:Sp):Prop where
 len:∀vs H Q E,sp vs H Q E->vs.length=ps.length
 run:∀(A:Around)(outer:List Env)(s:Shared)(H:Hp)(args:Args)(us:List Value)(vs:List V)(Q:VK)(E:XK),0<s.toks->Room k A->X8 P w K mg base A outer s H->BindsTo s fd args (ps.zip us)->Vals vs us->sp vs H Q E ->
  codeAny (model P w) A (.call (.ref f) args) (CR CX outer P w H s Q E) s
theorem FnOk.q {P:Program}{w:World}{K:W.Frag}{mg:Str->Option Value}{base:Heap}{CX:CXT}{k:Nat}{f:Addr}{fd:FuncData}{ps:List Str}{sp:Sp}(F:FnOk P w K mg base CX k f fd ps sp):O8 P w K mg base CX k f fd ps sp:=⟨F.len,λA outer s H args us vs Q E _=>F.run A outer s H args us vs Q E⟩
section
variable {X:Cx}{CX:CXT}{k:Nat}{f:Addr}{fd:FuncData}{ps:List Str}{sp:Sp}{dvs:List V}{ds:List Value}{E:XK}{x:Str}{p pos:Pos}{e:Expr}{es:List Expr}{t:TA}
theorem Yo {qQ:List (Addr×Obj)}{σ:St}{H:Hp}{s:Shared}{Q:VK}{us:List Value}{vs:List V}(F:O8 X.prog X.w X.K X.mg X.base CX k f fd ps sp)(hr:Room k X.A)(hb:Binds X.K fd ps ds)(hd:Vals dvs ds)(hx:Oh CX X E)(I:Inv X qQ σ H s)(h0:0<s.toks)(r:Vals vs us)(h:sp (vs++dvs) H Q E):wpAny (model X.prog X.w) X.A (call (.ref f) us) (EP X qQ σ Q) X.xe s:=by
 have r2:Vals (vs++dvs) (us++ds):=r.append hd;have hl:(us++ds).length=ps.length:=by rw [<-r2.length];exact F.len _ _ _ _ h
 refine wpAny_call (codeAny_mono (F.run X.A X.stack s H ⟨us,[]⟩ (us++ds) (vs++dvs) Q E h0 hr I.env0 (hb s us I.kIn hl) r2 h) λr s' hq=>?_);cases r with
 | error e=>exact hx qQ σ H s e s' I hq
 | ok fl=>
  cases fl with
  | ret u=>exact I.after hq
  | next=>exact False.elim hq
  | brk=>exact False.elim hq
  | cont=>exact False.elim hq
theorem J3 (F:O8 X.prog X.w X.K X.mg X.base CX k f fd ps sp)(hr:Room k X.A)(hg:Gl X x)(hm:X.mg x=some (.ref f))(hk:W.keepIn X.K (.ref f)=true)(hb:Binds X.K fd ps ds)(hd:Vals dvs ds)(hx:Oh CX X E)(ha:PAq X (e::es) t)(hdb:(x == ("__debug__" : Str))=false:=by decide)(he:starEach (e::es) X.env=(false,eval e X.env)::starEach es X.env:=by rfl)(hpl:(backTo pos (starEach es X.env)).any (·.1)=false:=by rfl) :
  PEq X (.Call (.Name x p) (e::es) [] pos) (Vv sp dvs E t):=by
 intro qQ s σ H Q I h0 h;refine wpAny_Call_Name_kw (OZ I hg hm ?_ hdb);refine W.callWith_K (h₀:=X.base) I.ok.mod.kin hk (UC h0 (ha pos qQ s σ H _ I h0 h) λus s1 h1 ⟨vs,H1,I1,r,q⟩=>⟨I1.kIn,?_⟩) he hpl;exact Yo F hr hb hd hx I1 h1 r q
theorem Xi (F:FnOk X.prog X.w X.K X.mg X.base CX k f fd ps sp)(hr:Room k X.A)(hg:Gl X x)(hm:X.mg x=some (.ref f))(hk:W.keepIn X.K (.ref f)=true)(hb:Binds X.K fd ps ds)(hd:Vals dvs ds)(hx:Oh CX X E)(ha:PAp X (e::es) t)(hdb:(x == ("__debug__" : Str))=false:=by decide)(he:starEach (e::es) X.env=(false,eval e X.env)::starEach es X.env:=by rfl)(hpl:(backTo pos (starEach es X.env)).any (·.1)=false:=by rfl) :
  PEp X (.Call (.Name x p) (e::es) [] pos) (Vv sp dvs E t):=by
 intro qQ s σ H Q I h;refine wpAny_Call_Name_kw (OZ I hg hm ?_ hdb);refine W.callWith_K (h₀:=X.base) I.ok.mod.kin hk (thn (ha pos qQ s σ H _ I h) λus s1 ⟨h1,vs,H1,I1,r,q⟩=>⟨I1.kIn,?_⟩) he hpl;exact UC h1 (U4 F hr hb hd hx I1 r q) λv s2 h2 z=>⟨h2,z⟩
end
section
variable {X:Cx}{pos:Pos}{st:Stmt}{sts:List Stmt}{ts us:TS}{e:Expr}{te:TE}{tg:Expr}
theorem G9 (h1:PSq X st ts)(h2:PSsq X sts us):PSsq X (st::sts) (Zav ts us):=by
 intro qQ s σ H D I h0 h;refine wpAny_execs_cons (UC h0 (h1 qQ s σ H { D with nx:=us D } I h0 h) λf s1 h1' q=>?_);cases f with
 | next=>
  obtain ⟨σ',H',I',q⟩:=q;exact h2 qQ s1 σ' H' D I' h1' q
 | ret v=>exact q
 | brk=>exact q
 | cont=>exact q
theorem Wp (h1:PSp X st ts)(h2:PSsq X sts us):PSs X (st::sts) (Zav ts us):=by
 intro qQ s σ H D I h;refine wpAny_execs_cons (thn (h1 qQ s σ H { D with nx:=us D } I h) λf s1 ⟨h1',q⟩=>?_);cases f with
 | next=>
  obtain ⟨σ',H',I',q⟩:=q;exact h2 qQ s1 σ' H' D I' h1' q
 | ret v=>exact q
 | brk=>exact q
 | cont=>exact q
theorem O9 (h1:PSq X st ts):PSsq X [st] ts:=by
 intro qQ s σ H D I h0 h;refine wpAny_execs_cons (thn (h1 qQ s σ H D I h0 h) λf s1 q=>?_);cases f with
 | next=>exact wpAny_execs_nil q
 | ret v=>exact q
 | brk=>exact q
 | cont=>exact q
theorem XT {c:Expr}{a b:List Stmt}{tc:TT}(hc:PTq X c tc)(ha:PSsq X a ts)(hb:PSsq X b us):PSq X (.If c a b pos) (Zbd tc ts us):=by
 intro qQ s σ H D I h0 h;refine wpAny_If (UC h0 (hc qQ s σ H _ I h0 h) λd s1 h1 ⟨H1,I1,q1⟩=>?_);cases d with
 | true=>exact ha qQ s1 σ H1 D I1 h1 q1
 | false=>exact hb qQ s1 σ H1 D I1 h1 q1
theorem Yp {i:Nat}{x:Str}{pos':Pos}(hN:X.N.Nodup)(hi:X.N[i]?=some x)(hx:Loc X.env.scope x)(he:PEq X e te)(hs:swapsWith e (some (.Name x pos')) pos.line X.env=pure false:=by rfl)(hf:X.fn x=true\/X.env.scope.names.lookup x=some .local:=by first | exact .inl rfl | exact .inr rfl | assumption) :
  PSq X (.Assign [.Name x pos'] e pos) (Zj te (Jz i)):=by
 intro qQ s σ H D I h0 h;refine wpAny_Assign_Name (thn (he qQ s σ H _ I h0 h) λv s1 ⟨y,H1,I1,r1,q1⟩=>?_) hs;exact Op I1 hN hi hx r1 (λs2 I2=>⟨_,H1,I2,q1⟩) hf
theorem Yq {i:Nat}{x:Str}{pos':Pos}(hN:X.N.Nodup)(hi:X.N[i]?=some x)(hx:Loc X.env.scope x)(he:PEp X e te)(hs:swapsWith e (some (.Name x pos')) pos.line X.env=pure false:=by rfl)(hf:X.fn x=true\/X.env.scope.names.lookup x=some .local:=by first | exact .inl rfl | exact .inr rfl | assumption) :
  PSp X (.Assign [.Name x pos'] e pos) (Zj te (Jz i)):=by
 intro qQ s σ H D I h;refine wpAny_Assign_Name (thn (he qQ s σ H _ I h) λv s1 ⟨h1,y,H1,I1,r1,q1⟩=>?_) hs;exact UC h1 (Op (Q:=λ_ s2=>SP X qQ D .next s2) I1 hN hi hx r1 (λs2 I2=>⟨_,H1,I2,q1⟩) hf) λ_ s2 h2 z=>⟨h2,z⟩
theorem PIq.t {iter:Expr}{wi:TI}(hi:PIq X tg iter wi):PIt X (λs=>0<s.toks) tg iter wi:=λqQ s σ H R I h0 h=>UC h0 (hi qQ s σ H R I h0 h) λv s1 h1 q=>UC h1 q λi s2 h2 z=>⟨h2,z⟩
theorem Wq {c:Shared->Prop}{iter:Expr}{body:List Stmt}{wi:TI}{g:TG}{tb:TS}(hp:PassesOwn (model X.prog X.w) X.A X.env X.xe)(hc:X.calm=true)(hi:PIt X c tg iter wi)(hg:PG X tg g)(hb:PSsq X body tb)(hs:∀x,foldedSetIterable iter X.env x=pure x:=by intro _;rfl){qQ:List (Addr×Obj)}{s:Shared}{σ:St}{H:Hp}{D:U2}(I:Inv X qQ σ H s)(h0:c s)(h:Zaw wi g tb D σ H):wpAny (model X.prog X.w) X.A (exec (.For tg iter body [] pos) X.env) (SP X qQ D) X.xe s:=by
 refine wpAny_For (thn (hi qQ s σ H _ I h0 h) λv s1 h1=>thn h1 λitv s2 ⟨k2,h2⟩=>?_) hs;obtain ⟨it,fp,tn,J,H2,e,I2,T,st2,f2,W,⟨m0,w0⟩,turn⟩:=h2;subst e;have stat:∀{H':Hp},(∀b∈fp,H' b=none)->∀b∈fp,VU X qQ H' b:=λhn b hb=>⟨hn b hb,(f2 b hb).2⟩;refine codeAny_forLoop_any (λn s'=>0<s'.toks/\∃i σ' H',Inv X qQ σ' H' s'/\tn i s'.heap/\(∀b∈fp,H' b=none)/\W i n σ' H') ?_ m0 ⟨k2,0,σ,H2,I2,st2,λb hb=>(f2 b hb).1,w0⟩;rintro n s3 ⟨k3,i,σ3,H3,I3,st3,fr3,w3⟩;rcases turn i n σ3 H3 w3 with ⟨stop,qn⟩ | ⟨go,N,hN,step⟩
 ·refine wpAny_passesOwn hp (thn (T.done X rfl rfl rfl hc i qQ s3 σ3 H3 X.xe I3 (stat fr3) st3 stop) λr s4 ⟨hr,I4⟩=>?_);subst hr;exact wpAny_execs_nil ⟨σ3,H3,I4,qn⟩
 ·refine wpAny_passesOwn hp (UC k3 (T.item X rfl rfl rfl hc i qQ s3 σ3 H3 X.xe I3 (stat fr3) st3 go) λr s4 k4 ⟨u,hr,h4⟩=>?_);subst hr;refine wpAny_passesOwn hp (UC k4 h4 λ_ s5 k5 ⟨x,H5,I5,r5,y5,st5,fr5⟩=>?_);have I5':=I5.pinned (stat fr5) (T.obj _ _ st5);refine wpAny_passesOwn hp (UC k5 (hg _ s5 σ3 H5 x u _ I5' r5 (step x H5 y5)) λ_ s6 k6 ⟨σ6,H6,I6,q6⟩=>?_);refine wpAny_passesOwn hp (UC k6 (hb _ s6 σ6 H6 _ I6 k6 q6) λf s7 k7 q7=>?_);have again:∀{σ7:St}{H7:Hp},Inv X (qQ++OO fp s5.heap) σ7 H7 s7->N σ7 H7->∃m,m<n/\0<s7.toks/\∃i σ' H',Inv X qQ σ' H' s7/\tn i s7.heap/\(∀b∈fp,H' b=none)/\W i m σ' H':=λ{σ7 H7} I7 n7=>by
   obtain ⟨m',hm,w7⟩:=hN σ7 H7 n7;refine ⟨m',hm,k7,i+1,σ7,H7,I7.unpinned,T.keep _ _ _ st5 λb hb o e=>(I7.pin (b,o) (List.mem_append_right _ (List.mem_append_right _ (Jg hb e)))).1,λb hb=>?_,w7⟩;obtain ⟨o,e,d⟩:=T.obj _ _ st5 b hb;exact (I7.pin (b,o) (List.mem_append_right _ (List.mem_append_right _ (Jg hb e)))).2.1
  cases f with
  | next=>obtain ⟨σ7,H7,I7,n7⟩:=q7;exact again I7 n7
  | cont=>obtain ⟨σ7,H7,I7,n7⟩:=q7;exact again I7 n7
  | brk=>obtain ⟨σ7,H7,I7,q7⟩:=q7;exact ⟨σ7,H7,I7.unpinned,q7⟩
  | ret v=>obtain ⟨x7,σ7,H7,I7,r7,q7⟩:=q7;exact ⟨x7,σ7,H7,I7.unpinned,r7,q7⟩
theorem Yr {iter:Expr}{body:List Stmt}{wi:TI}{g:TG}{tb:TS}(hp:PassesOwn (model X.prog X.w) X.A X.env X.xe)(hc:X.calm=true)(hi:PIq X tg iter wi)(hg:PG X tg g)(hb:PSsq X body tb)(hs:∀x,foldedSetIterable iter X.env x=pure x:=by intro _;rfl):PSq X (.For tg iter body [] pos) (Zaw wi g tb):=
 λqQ s σ H D I h0 h=>Wq hp hc hi.t hg hb hs I h0 h
theorem Ys {iter:Expr}{body:List Stmt}{wi:TI}{g:TG}{tb:TS}(hp:PassesOwn (model X.prog X.w) X.A X.env X.xe)(hc:X.calm=true)(hi:PIt X (λ_=>True) tg iter wi)(hg:PG X tg g)(hb:PSsq X body tb)(hs:∀x,foldedSetIterable iter X.env x=pure x:=by intro _;rfl):PS X (.For tg iter body [] pos) (Zaw wi g tb):=
 λqQ s σ H D I h=>Wq hp hc hi hg hb hs I trivial h
theorem Xj {l:Expr}{tl:TE}(hl:PEp X l tl)(K:W.Frag)(hK:X.K=K:=by rfl):PIt X (λ_=>True) tg l (WU K tl):=by
 subst hK;intro qQ s σ H R I _ h;refine thn (hl qQ s σ H _ I h) λv s1 ⟨h1,x,H1,I1,r1,q1⟩=>?_;obtain ⟨a,e,⟨xs,hq⟩,q⟩:=q1;subst e;cases r1;obtain ⟨its,rv,p,hz⟩:=I1.list hq;refine wpAny_pyIter_list p.isList ⟨h1,?_⟩;refine ⟨s1.heap.objs.size,[s1.heap.objs.size],_,_,H1,rfl,I1.kept (t':=s1.toks) λb o e=>Heap.get?_push_of_some _ e,Ox a _,⟨_,Heap.get?_push_size _ rfl,rfl,rfl⟩,λb hb=>?_,q⟩;have e:b=s1.heap.objs.size:=by simpa using hb
 subst e;exact I1.fpOk (Nat.le_refl _) (I1.hok.fresh (Nat.le_refl _))
theorem Xk {l:Expr}{tl:TE}(hl:PEq X l tl)(K:W.Frag)(hK:X.K=K:=by rfl):PIq X tg l (WU K tl):=by
 subst hK;intro qQ s σ H R I h0 h;refine thn (hl qQ s σ H _ I h0 h) λv s1 ⟨x,H1,I1,r1,q1⟩=>?_;obtain ⟨a,e,⟨xs,hq⟩,q⟩:=q1;subst e;cases r1;obtain ⟨its,rv,p,hz⟩:=I1.list hq;refine wpAny_pyIter_list p.isList ?_;refine ⟨s1.heap.objs.size,[s1.heap.objs.size],_,_,H1,rfl,I1.kept (t':=s1.toks) λb o e=>Heap.get?_push_of_some _ e,Ox a _,⟨_,Heap.get?_push_size _ rfl,rfl,rfl⟩,λb hb=>?_,q⟩;have e:b=s1.heap.objs.size:=by simpa using hb
 subst e;exact I1.fpOk (Nat.le_refl _) (I1.hok.fresh (Nat.le_refl _))
end
end L2
namespace L2
open PySem PySem.Spec PyProof.Rows
theorem ZE {CX:CXT}{P:Program}{w:World}{K:W.Frag}{mg:Str->Option Value}{base:Heap}{k:Nat}{f:Addr}{name qual:Str}{params:Arguments}{body:List Stmt}{scope:Scope}{dV kV doc pm cdv ct oc:Value}{an od:Option Addr}{osl:Array (Option Value)}{N ps:List Str}{sp:Sp}(lk:K.lookup f=some ⟨oc,od,.func (W.fnOf name qual params body scope dV kV doc pm an cdv ct),osl⟩)(hcd:W.codeIn K cdv qual=true)(S:Gs N ps scope)(len:∀vs H Q E,sp vs H Q E->vs.length=ps.length)(qW:∀(A:Around)(outer:List Env)(s:Shared)(H:Hp)(vs:List V)(Q:VK)(E:XK),Room k (A.deeper (envOfC qual scope s.heap.objs.size f cdv))->sp vs H Q E ->
   ∃t,PSsq (V4 CX P w K mg base N qual scope f cdv A outer s H E) body t/\t { nx:=λ_ H'=>Q .non H',rt:=Q } (Jq N vs) H) :
  O8 P w K mg base CX (k+1) f (W.fnOf name qual params body scope dV kV doc pm an cdv ct) ps sp:=by
 refine ⟨len,λA outer s H args us vs Q E h0 hr e0 hb r hsp=>?_⟩;have hl:=len _ _ _ _ hsp;have KX:K.In s.heap:=e0.mod.kin.keeps λb o e=>(e0.bs b o e).1;have lim:s.heap.NoLimit:=e0.mod.nolimit.keeps λb o e=>(e0.bs b o e).1;have hkind:∀y∈ps.zip us,scope.names.lookup y.1=some .local\/(scope.names.lookup y.1=some .cell/\((cellsFrom (s.heap.objs.size+1) scope.names []).lookup y.1).isSome=true):=λ⟨n,v⟩ hy=>by
  rcases S.par n (List.of_mem_zip hy).1 with q | q
  ·exact .inl q
  ·exact .inr ⟨q,W.cellsFrom_some _ _ _ (.inl q)⟩
 refine codeAny_call_function hr.depth (KX _ _ lk) rfl S.co S.gen rfl (W.codeRec_of KX hcd) (hb _ _ _ _ ?_);refine wpAny_with_toks (n:=1) h0 (wpAny_newFunctionEnv_cells S.kind hkind λenv he s1 x=>λh1=>?_);subst he;refine ⟨lim.keeps x.toInCall.keep,codeAny_func ?_⟩;obtain ⟨t,ht,hq⟩:=qW A outer s H vs Q E (hr.deeper _) hsp;have I:Inv (V4 CX P w K mg base N qual scope f cdv A outer s H E) [] (Jq N vs) H s1:=Uo S hr.hd e0 hl r x;refine wpAny_mono (ht [] s1 (Jq N vs) H _ I h1 hq) (λfl s' hs=>?_) λe s' hs=>hs;have fin:∀{σ':St}{H':Hp}{v:V}{u:Value},Inv (V4 CX P w K mg base N qual scope f cdv A outer s H E) [] σ' H' s'->RelV v u->Q v H'->CE outer P w H s Q u s':=
  λ{σ' H' v u} J rv q=>⟨v,H',J.os,J.bare,J.base,J.hok,rv,q⟩
 cases fl with
 | ret u=>
  obtain ⟨v,σ',H',J,rv,q⟩:=hs;exact fin J rv q
 | next=>
  obtain ⟨σ',H',J,q⟩:=hs;exact fin (v:=V.non) (u:=Value.none) J rfl q
 | brk=>
  obtain ⟨_,_,_,q⟩:=hs;exact False.elim q
 | cont=>
  obtain ⟨_,_,_,q⟩:=hs;exact False.elim q
section
variable {P:Program}{w:World}{K:W.Frag}{mg:Str->Option Value}{base:Heap}
theorem PSsq.nox {X:Cx}{sts:List Stmt}{t:TS}(h:PSsq X.nox sts t):PSsq X sts t:=λqQ s σ H D I h0 hw=>
 wpAny_mono (h qQ s σ H D (I.wish _) h0 hw) (λ_ _ q=>q.unwish) λ_ _ z=>False.elim z
theorem Fun.okQ {x qual:Str}{st:Stmt}{f:Addr}{fd:FuncData}{N ps:List Str}{k:Nat}{sp:Sp}(F:Fun K x qual st f fd)(S:Gs N ps (Ge st))(len:∀vs H Q E,sp vs H Q E->vs.length=ps.length)(qW:∀(cdv:Value)(A:Around)(outer:List Env)(s:Shared)(H:Hp)(vs:List V)(Q:VK)(E:XK),Room k (A.deeper (envOfC qual (Ge st) s.heap.objs.size f cdv))->sp vs H Q E ->
   ∃t,PSsq (V4 CX0 P w K mg base N qual (Ge st) f cdv A outer s H E).nox (Gq st) t/\t { nx:=λ_ H'=>Q .non H',rt:=Q } (Jq N vs) H):O8 P w K mg base CX0 (k+1) f fd ps sp:=by
 obtain ⟨oc,od,kV,doc,pm,an,cdv,ct,osl,rfl,lk,hcd⟩:=F.ex;refine ZE lk hcd S len λA outer s H vs Q E hr hsp=>?_;obtain ⟨t,h,q⟩:=qW cdv A outer s H vs Q E hr hsp;exact ⟨t,h.nox,q⟩
end
end L2
namespace L2
open PySem PySem.Spec PyProof.Rows
def Oi (c:Nat)(z l:List Nat):List Nat:=l.flatMap λx=>if x=c then z else [x]
def Wr (z:List Nat):List (List Nat)->List Nat
 | []=>[]
 | p::ps=>p++ps.flatMap λq=>z++q
theorem Ob (c:Nat)(z:List Nat):∀(l B:List Nat),Wr z (Gx c B l)=B++Oi c z l
 | [],B=>by simp [Gx,Wr,Oi]
 | x::l,B=>by
  unfold Gx;by_cases h:x=c
  ·rw [if_pos h];have ih:=Ob c z l [];have ne:Gx c [] l≠[]:=by
    have:∀(l B:List Nat),Gx c B l≠[]:=by
     intro l
     induction l with
     | nil=>intro B;simp [Gx]
     | cons y l ih=>intro B;unfold Gx;split <;> simp [ih]
    exact this l []
   cases hs:Gx c [] l with
   | nil=>exact absurd hs ne
   | cons p ps=>
    rw [hs] at ih;have ih:p++ps.flatMap (λq=>z++q)=Oi c z l:=ih;show B++(p::ps).flatMap (λq=>z++q)=_;rw [List.flatMap_cons,List.append_assoc,ih];unfold Oi;rw [List.flatMap_cons,if_pos h]
  ·rw [if_neg h,Ob c z l (B++[x])];unfold Oi;rw [List.flatMap_cons,if_neg h];simp
theorem VE (z:Str):∀ps:List (List Nat),Builtin.Str.glued z (ps.map mkS)=mkS (Wr z.cps.toList ps):=by
 have fold:∀(ps:List (List Nat))(a:Array Nat),(List.foldl (λacc p=>acc++z.cps++p.cps) a (ps.map mkS)).toList=a.toList++ps.flatMap λq=>z.cps.toList++q:=by
  intro ps
  induction ps with
  | nil=>intro a;simp
  | cons p ps ih=>
   intro a;rw [List.map_cons,List.foldl_cons,ih];simp [mkS]
 intro ps;unfold Builtin.Str.glued mkS
 congr 1
 apply Array.ext';cases ps with
 | nil=>simp [Wr,Str.empty]
 | cons p ps=>
  have:=fold ps p.toArray;simp only [List.map_cons,List.headD_cons,List.drop_one,List.tail_cons];rw [show (λl=>({ cps:=l.toArray }:Str))=mkS from rfl,this];simp [Wr]
theorem OG {c:Nat}{z l:List Nat}(h:c ∉ l):Oi c z l=l:=by
 unfold Oi
 induction l with
 | nil=>rfl
 | cons x l ih=>
  rw [List.flatMap_cons,if_neg (λe=>h (by rw [e];exact List.mem_cons_self ..)),ih (λe=>h (List.mem_cons_of_mem _ e))]
  rfl
theorem UD {c:Nat}:∀{l:List Nat}{k:Nat},Go c k l=[]->c ∉ l
 | [],_,_=>by simp
 | x::l,k,h=>by
  unfold Go at h;by_cases e:x=c
  ·rw [if_pos e] at h;cases h
  ·rw [if_neg e] at h;intro hm;rcases List.mem_cons.mp hm with z | z
   ·exact e z.symm
   ·exact UD h z
theorem VF (x z:Str)(c:Nat)(t u v:Tok)(hu:u≠0)(hv:v≠0)(huv:u≠v)(hyz:(⟨#[c]⟩:Str)≠z)(hl:x.length+x.length * z.length<=sizeLine):Gives (Builtin.«str.replace» { pos:=[Value.str x t,Value.str ⟨#[c]⟩ u,Value.str z v] })
  (if (Go c 0 x.cps.toList).isEmpty=true then Made.val (.str x t) else Made.str (mkS (Oi c z.cps.toList x.cps.toList))):=by
 intro prog w A R s h;have hcl:=JD c 0 x.cps.toList;have hL:x.cps.toList.length=x.length:=Array.length_toList;have hcut:Builtin.Str.occurrences x ⟨#[c]⟩ 0 x.length (x.length+1)=Go c 0 x.cps.toList:=by
  rw [UO,List.take_of_length_le]
  lia
 have hg:Builtin.Str.glued z (Builtin.Str.partsBetween x (Go c 0 x.cps.toList) 1)=mkS (Oi c z.cps.toList x.cps.toList):=by
  rw [OF,VE,Ob]
  rfl
 unfold Builtin.«str.replace»;unfold Builtin.Str.strSelf Builtin.Str.bindOptional;have h1:((⟨#[c]⟩:Str).length=0)=False:=by simp [Str.length]
 simp [Builtin.Str.textOf,Builtin.Str.strArg,asStr?,Builtin.Str.countLimit,isSame,isSame.created,hu,hv,huv,hyz,Builtin.Str.strUnchanged,Builtin.Str.isExactStr,hcut];by_cases e:Go c 0 x.cps.toList=[]
 ·rw [if_pos (.inl e)];rw [if_pos (by rw [e];rfl)] at h;exact wpAny_bind (wpAny_rule (wpAny_pure h))
 ·rw [if_neg (by rintro (h | h);exact e h;rw [h1] at h;exact h.1)];rw [if_neg (by rw [List.isEmpty_iff];exact e),Made.post.eq_3] at h;rw [if_neg (by
   unfold Builtin.Str.tooLong;rw [decide_eq_true_eq];have:(Go c 0 x.cps.toList).length * z.length<=x.length * z.length:=Nat.mul_le_mul_right _ (by lia)
   lia)]
  show wpAny _ _ (retStr (Builtin.Str.glued z (Builtin.Str.partsBetween x (Go c 0 x.cps.toList) 1))) _ _ _;rw [hg];unfold retStr;exact wpAny_bind (wpAny_mkStr (wpAny_pure h.2) h.1)
section
variable {X:Cx}
theorem JJ (c:Nat)(z:List Nat):∀l:List Nat,(Oi c z l).length<=l.length * (z.length+1)
 | []=>by simp [Oi]
 | x::l=>by
  have ih:=JJ c z l;unfold Oi at ih ⊢;rw [List.flatMap_cons,List.length_append,List.length_cons,Nat.succ_mul];have:(if x=c then z else [x]).length<=z.length+1:=by split <;> simp
  lia
theorem Wt {o:Expr}{to:TE}{c:Nat}{y z:Str}{j1 j2:Nat}{apos p1 p2 qV:Pos}(ho:PEq X o to)(hy:y=⟨#[c]⟩:=by rfl)(hyz:(⟨#[c]⟩:Str)≠z:=by decide)(hbase:attributeBase o "replace" X.env (eval o X.env)=eval o X.env:=by rfl)(hline:(apos.endLine == qV.line)=true:=by rfl)(hst:starEach [.Constant (.str y) j1 p1,.Constant (.str z) j2 p2] X.env=[(false,eval (.Constant (.str y) j1 p1) X.env),(false,eval (.Constant (.str z) j2 p2) X.env)]:=by rfl) :
  PEq X (.Call (.Attribute o "replace" apos) [.Constant (.str y) j1 p1,.Constant (.str z) j2 p2] [] qV)
   (λσ H Q=>to σ H λx H1=>∃a:Str,x=.str a/\a.length * (z.length+1)<=sizeLine/\Q (.str (mkS (Oi c z.cps.toList a.cps.toList))) H1):=by
 subst hy;intro qQ s σ H Q I h0 h;refine wpAny_Call_method_late hbase rfl hline rfl (UC h0 (ho qQ s σ H _ I h0 h) λov s1 h1 ⟨x,H1,I1,r1,a,e,hl,q⟩=>?_);subst e;obtain ⟨t,rfl⟩:=r1;refine ⟨"str", "str.replace", PySem.F.plainAttrs_str,PySem.F.slot_str_replace,PySem.F.type_str_replace,typeIs_str _ _ _,(λ_ z=>by cases z),?_⟩;refine Calls.callWith_builtin rfl (Calls.evalArgs_plain ?_);refine Calls.spliced_cons (Calls.Constant_str (k:=j1) (pos:=p1) ?_);refine Calls.spliced_cons (Calls.Constant_str (k:=j2) (pos:=p2) ?_);refine Calls.spliced_nil ?_;have hm:a.length+a.length * z.length<=sizeLine:=by rw [Nat.mul_succ] at hl;lia
 refine call_gives PySem.F.slot_str_replace (typeIs_str _ _ _) PySem.F.entry_str_replace (PySem.F.args_str_replace_3 _ _ _) (VF a z c t s1.toks (s1.toks+1) (Nat.pos_iff_ne_zero.mp h1) (Nat.succ_ne_zero s1.toks) (Nat.ne_of_lt (Nat.lt_succ_self s1.toks)) hyz hm) ?_;split
 ·rename_i e;rw [Made.post.eq_1];rw [OG (UD (List.isEmpty_iff.mp e))] at q;exact ⟨.str a,H1,I1.tok _,⟨_,rfl⟩,q⟩
 ·rw [Made.post.eq_3];have hz:(mkS (Oi c z.cps.toList a.cps.toList)).length<=sizeLine:=by
   have h1:=JJ c z.cps.toList a.cps.toList;have e1:(mkS (Oi c z.cps.toList a.cps.toList)).length=(Oi c z.cps.toList a.cps.toList).length:=by simp [mkS,Str.length]
   have e2:a.cps.toList.length=a.length:=Array.length_toList;have e3:z.cps.toList.length=z.length:=Array.length_toList;rw [e1];rw [e2,e3] at h1
   lia
  exact ⟨hz,.str _,H1,I1.tok _,⟨_,rfl⟩,q⟩
end
end L2
namespace L2
open PySem PySem.Spec PyProof.Rows
variable {X:Cx}
theorem UQ {e:Expr}{te:TE}{pos:Pos}(he:PE X e te):PE X (.FormattedValue e (-1) none pos) (λσ H Q=>te σ H λv H1=>∃y:Str,v=.str y/\y.length<=sizeLine/\Q (.str y) H1):=by
 intro qQ s σ H Q I h;refine FormattedValue_plain (thn (he qQ s σ H _ I h) λv s1 ⟨x,H1,I1,r1,q1⟩=>?_);obtain ⟨y,rfl,hl,q⟩:=q1;obtain ⟨t,rfl⟩:=r1;exact wpAny_formatField_str ⟨.str y,H1,I1,⟨_,rfl⟩,q⟩ ⟨.str y,H1,I1.tok _,⟨_,rfl⟩,q⟩ hl
end L2
namespace L2
open PySem PySem.Spec PyProof.Rows
variable {X:Cx}{o e:Expr}{es:List Expr}{to:TE}{t:TA}{name:Str}{apos qV:Pos}{T id:String}{r:V->List V->Hp->VK->Prop}
theorem ZaV (pa:PlainAttrs T)(slot:Slot T name id)(hty:typeOf (.builtin id)=pure (.type "method_descriptor"))(hm:MtR X id r)(ho:PEq X o to)(ha:PA X (e::es) t)(hbase:attributeBase o name X.env (eval o X.env)=eval o X.env:=by rfl)(hfew:((backTo qV (starEach (e::es) X.env)).all (λx=>!x.1) && (backToKw qV (keywordEach [] X.env)).all (λx=>x.1.isSome)
   && decide ((e::es).length+([]:List Keyword).length+(if ([]:List Keyword).isEmpty then 0 else 1)<30))=true:=by rfl)(hline:(apos.endLine == qV.line)=true:=by rfl)(hs:starEach (e::es) X.env=(false,eval e X.env)::starEach es X.env:=by rfl)(hplain:(backTo qV (starEach es X.env)).any (·.1)=false:=by rfl) :
  PEq X (.Call (.Attribute o name apos) (e::es) [] qV) (tBM X.K T r to t):=by
 intro qQ s σ H Q I h0 h;refine wpAny_Call_method_late hbase hfew hline rfl (thn (ho qQ s σ H _ I h0 h) λv s1 ⟨x,H1,I1,r1,ty,q1⟩=>?_);obtain ⟨h1,h2⟩:=V9 I1 r1 ty;refine ⟨T,id,pa,slot,hty,h1,h2,?_⟩;have hA:=ha qV qQ s1 σ H1 _ I1 q1;rw [hs] at hA ⊢;refine Calls.callWith_builtin (by show (false || (backTo qV (starEach es X.env)).any (·.1))=false;rw [hplain] <;> rfl) (Calls.evalArgs_plain ?_);exact thn hA λus s2 ⟨vs,H2,I2,r2,q2⟩=>hm qQ s2 σ H2 x vs v us Q I2 r1 r2 q2
theorem Wu {i:Int}{j:Nat}{p1 p2 pos:Pos}{lo:Option Expr}{te:TE}{tl:TO}{r:V->Option Int->Option Int->Hp->VK->Prop}(hr:SlR X r)(he:PE X e te)(hl:PO X lo tl):PEp X (.Subscript e (.Slice lo (some (.Constant (.int i) j p1)) none p2) pos) (tSl r te tl (Zs (tC (.int i)))):=by
 intro qQ s σ H Q I h;refine Subscript_ (thn (he qQ s σ H _ I h) λv s1 ⟨x,H1,I1,r1,q1⟩=>?_);refine wpAny_Slice (thn (hl qQ s1 σ H1 _ I1 q1) λvl s2 ⟨l,H2,I2,pl,q2⟩=>?_);obtain ⟨i',ei,q3⟩:=q2;cases ei;rw [evalPart_some];refine wpAny_Constant_int ?_;have I3:=I2.tok (s2.toks+1);have h3:(0:Nat)<s2.toks+1:=Nat.succ_pos _;rw [evalPart_none];refine wpAny_pure ?_;generalize hs3:{ s2 with toks:=s2.toks+1 }=s3 at I3;have h3':0<s3.toks:=by rw [<-hs3];exact h3
 have I4:Inv X qQ σ H2 { s3 with heap:=s3.heap.push { cls:=.type "slice", data:=.fields #[vl,.int i s2.toks,.none] } }:=I3.kept (t':=s3.toks) λb ob q=>Heap.get?_push_of_some _ q;obtain ⟨T,id,hT,ht,hg⟩:=hr qQ { s3 with heap:=s3.heap.push { cls:=.type "slice", data:=.fields #[vl,.int i s2.toks,.none] } } σ H2 x v vl (.int i s2.toks) l (some i) s3.heap.objs.size Q I4 r1 (Heap.IsSliceOf.new ..) pl (.int i _) q3;show wpAny (model X.prog X.w) X.A (subscriptTail e (.Slice lo (some (.Constant (.int i) j p1)) none p2) v (.ref s3.heap.objs.size)) (λv s'=>0<s'.toks/\EP X qQ σ Q v s') X.xe { s3 with heap:=s3.heap.push { cls:=.type "slice", data:=.fields #[vl,.int i s2.toks,.none] } };exact UC (s:={ s3 with heap:=s3.heap.push { cls:=.type "slice", data:=.fields #[vl,.int i s2.toks,.none] } }) h3' (tail_any (ops:=[.ref s3.heap.objs.size,v]) ht hT hg (by with_unfolding_all rfl)) λv s' h z=>⟨h,z⟩
end L2
namespace L2
open PySem PySem.Spec PyProof.Rows
def SameL (P:Addr)(H H':Hp):Prop:=∀a o,a≠P->H a=some o->H' a=some o
theorem SameL.of {P:Addr}{H H':Hp}(s:Same H H'):SameL P H H':=λa o _ e=>s a o e
theorem SameL.trans {P:Addr}{H H' H'':Hp}(a:SameL P H H')(b:SameL P H' H''):SameL P H H'':=λc o n e=>b c o n (a c o n e)
def ZG (qual:Str)(oc:Obj):Prop:=∃vs t,oc.data=.fields vs/\vs[1]?=some (.str qual t)
end L2
namespace L2
open PySem PySem.Spec PyProof.Rows
def Yt (P:Addr)(H:Hp):Prop:=∀b,b≠P->H b=none\/∃o xs,H b=some (.frz o (.lst xs))
theorem Wv {Pr:Program}{w:World}{K:W.Frag}{mg mb:Str->Option Value}{CX:CXT}{k:Nat}{fa a c P:Addr}{fd:FuncData}{x:Str}{sp:Sp}{s₁:Shared}{vs:List Value}{ns:List Int}(KX:K.In s₁.heap)(hns:s₁.heap.Ns mainGlobals mg)(hb:s₁.heap.Ns builtinsNs mb)(hbb:∀x:Str,x ≠ "__name__" -> mb x=bootBuiltins x)(hlim:s₁.heap.NoLimit)(hg:s₁.gens=#[])(C:W.CodeHd s₁.heap c P)(hP:s₁.heap.get? P=some (W.tabObj #[]))(hKP:K.lookup P=none)(hB:s₁.heap.BuiltinsAt mg P)(ha:s₁.heap.get? a=some { cls:=.type "list", data:=.seq vs.toArray })(hi:IntsAre vs ns)(hl:ns.length<=sizeLine)(hr:Room k callerA)(F:∀base:Heap,K.In base->base.Ns mainGlobals mg->W.CodeHd base c P->base.BuiltinsAt mg P->FnOk Pr w K mg base CX k fa fd [x] sp)(hbind:∀(s:Shared)(u:Value),BindsTo s fd ⟨[u],[]⟩ [(x,u)])(hsp:∀H:Hp,Yt P H->H P=some (.tbl #[])->SqL K H a (ns.map V.int)->sp [.ref a] H (λv _=>v=.bl true) λ_ _ _=>False)(hCX:∀H e s',CX [] H s₁ (λ_ _ _=>False) e s'->False) :
  codeAny (model Pr w) callerA (.call (.ref fa) ⟨[.ref a],[]⟩) (λr s'=>r=.ok (.ret (.bool true))/\OldK s₁.heap s'.heap/\s'.os=s₁.os/\AllBare s'.gens) s₁:=by
 have rv:=Uu hi;have lenV:=hi.length;have naP:a≠P:=λz=>by rw [z,hP] at ha;cases ha
 have core:∀H:Hp,Yt P H->H P=some (.tbl #[])->SqL K H a (ns.map V.int)->HOk Pr w H s₁.heap->(∀b,H b≠none->b=a\/b=P)->(H a≠none->K.lookup a=none) ->
   codeAny (model Pr w) callerA (.call (.ref fa) ⟨[.ref a],[]⟩) (λr s'=>r=.ok (.ret (.bool true))/\OldK s₁.heap s'.heap/\s'.os=s₁.os/\AllBare s'.gens) s₁:=by
  intro H hO hHP hS hok hA hK;have base_of:∀{b:Addr}{o:Obj},s₁.heap.get? b=some o->H b=none->(VN s₁.heap H).get? b=some o:=λe n=>WT e n;have noA:∀{b:Addr}{o:Obj},s₁.heap.get? b=some o->o.cls≠.type "list" -> o.cls≠.none->H b=none:=λ{b o} e d1 d2=>by
   cases q:H b with
   | none=>rfl
   | some u=>
    rcases hA b (by rw [q];simp) with e' | e'
    ·rw [e',ha] at e;cases e;exact absurd rfl d1
    ·rw [e',hP] at e;cases e;exact absurd rfl d2
  have noD:∀{b:Addr}{o:Obj}{es:Array DictEntry}{ep:Nat},s₁.heap.get? b=some o->o.data=.dict es ep->H b=none:=λ{b o es ep} e d=>by
   cases q:H b with
   | none=>rfl
   | some u=>
    rcases hA b (by rw [q];simp) with e' | e'
    ·rw [e',ha] at e;cases e;cases d
    ·rw [e',hP] at e;cases e;cases d
  have nsK:∀{b:Addr}{m:Str->Option Value},s₁.heap.Ns b m->(VN s₁.heap H).Ns b m:=λ{b m} ⟨o,es,ep,e,d,r⟩=>⟨o,es,ep,base_of e (noD e d),d,r⟩;have hKb:K.In (VN s₁.heap H):=λb o e=>base_of (KX b o e) (by
   cases q:H b with
   | none=>rfl
   | some u=>
    rcases hA b (by rw [q];simp) with e' | e'
    ·subst e';rw [hK (by rw [q];simp)] at e;cases e
    ·subst e';rw [hKP] at e;cases e)
  have hM:Mod K mg (VN s₁.heap H):=⟨hKb,nsK hns,⟨mb,nsK hb,hbb⟩,let ⟨mc,h1,h2⟩:=hlim;⟨mc,nsK h1,h2⟩⟩;have e0:X8 Pr w K mg (VN s₁.heap H) callerA [] s₁ H:=⟨rfl,hM,λb o e=>XZ e,Nat.le_of_eq (VO _ _),trivial,λb hb=>absurd (show b∈([]:List Addr) from hb) (by simp),hok,.of_eq hg⟩;have Cb:W.CodeHd (VN s₁.heap H) c P:=by
   obtain ⟨o,ws,file,tf,flags,tg,inF,text,tt,e1,r1,r2⟩:=C;exact ⟨o,ws,file,tf,flags,tg,inF,text,tt,base_of e1 (noA e1 (by rw [r1];decide) (by rw [r1];nofun)),r1,r2⟩
  have Bb:(VN s₁.heap H).BuiltinsAt mg P:=by
   obtain ⟨bm,o,h1,h2,h3,h4,h5,h6,h7⟩:=hB;exact ⟨bm,o,h1,h2,h3,h4,base_of h5 (noA h5 (by rw [h6];decide) (by rw [h6];nofun)),h6,h7⟩
  refine codeAny_mono ((F _ hKb (nsK hns) Cb Bb).run callerA [] s₁ H ⟨[.ref a],[]⟩ [.ref a] [.ref a] _ _ hr e0 (hbind s₁ (.ref a)) (.cons rfl .nil) (hsp H hO hHP hS)) λr s' h=>?_;cases r with
  | error e=>exact (hCX H e s' h).elim
  | ok fl=>
   cases fl with
   | next=>exact False.elim h
   | brk=>exact False.elim h
   | cont=>exact False.elim h
   | ret u=>
    obtain ⟨v,H',os,bare,un,hok',r',q⟩:=h;have q':v=.bl true:=q;subst q';obtain rfl:u=Value.bool true:=r';obtain ⟨more,eP⟩:=un.tbls P _ hHP;have hP':s'.heap.get? P=some { cls:=.none,data:=.fields (#[]++more) }:=hok' P _ eP;have kp:∀b o,b≠P->s₁.heap.get? b=some o->s'.heap.get? b=some o:=λb o hbP e=>by
     cases q:H b with
     | none=>exact un.keep b o e q (by intro z;exact absurd (show b∈([]:List Addr) from z) (by simp)) (by simp)
     | some u=>
      rcases hO b hbP with z | ⟨ob,xs,z⟩
      ·rw [q] at z;cases z
      ·have z2:=un.frzs b ob _ z;obtain ⟨e1,_⟩:=hok b _ z;obtain ⟨e2,_⟩:=hok' b _ z2;rw [e] at e1;cases e1;exact e2
    refine ⟨rfl,⟨λb o e=>?_,λb o e=>?_⟩,os,bare⟩
    ·by_cases hbP:b=P
     ·subst hbP;rw [hP] at e;cases e;exact .inr (.inl ⟨(C.tab hP).isCodeTable,rfl,#[],more,rfl,hP'⟩)
     ·exact .inl (kp b o hbP e)
    ·by_cases hbP:b=P
     ·rw [hbP];exact ⟨_,hP'⟩
     ·exact ⟨o,kp b o hbP e⟩
 cases hk:K.lookup a with
 | some o=>
  have e:=KX a o hk;rw [ha] at e;cases e;refine core (λb=>if b=P then some (.tbl #[]) else none) (λb hb=>.inl (if_neg hb)) (if_pos rfl) (.inr ⟨_,vs.toArray,_,hk,rfl,rfl,rfl,by rw [List.size_toArray,lenV];exact hl,by simpa using rv⟩) (λb u z=>?_) (λb z=>?_) λz=>absurd (if_neg naP) z
  ·by_cases hb:b=P
   ·have z':=(if_pos hb).symm.trans z;cases z';rw [hb];exact hP
   ·have z':=(if_neg hb).symm.trans z;cases z'
  ·by_cases hb:b=P
   ·exact .inr hb
   ·exact absurd (if_neg hb) z
 | none=>
  refine core (λb=>if b=P then some (.tbl #[]) else if b=a then some (.frz { cls:=.type "list", data:=.seq vs.toArray } (.lst (ns.map V.int))) else none) (λb hb=>?_) (if_pos rfl) (.inl (.inr ⟨{ cls:=.type "list", data:=.seq vs.toArray },(if_neg naP).trans (if_pos rfl)⟩)) (λb u z=>?_) (λb z=>?_) λ_=>hk
  ·by_cases hb2:b=a
   ·exact .inr ⟨_,_,(if_neg hb).trans (if_pos hb2)⟩
   ·exact .inl ((if_neg hb).trans (if_neg hb2))
  ·by_cases hb:b=P
   ·have z':=(if_pos hb).symm.trans z;cases z';rw [hb];exact hP
   ·by_cases hb2:b=a
    ·have z':=((if_neg hb).trans (if_pos hb2)).symm.trans z;cases z';subst hb2;exact ⟨ha,by rw [List.length_map];exact hl,vs,_,rv,ha⟩
    ·have z':=((if_neg hb).trans (if_neg hb2)).symm.trans z;cases z'
  ·by_cases hb:b=P
   ·exact .inr hb
   ·by_cases hb2:b=a
    ·exact .inl hb2
    ·exact absurd ((if_neg hb).trans (if_neg hb2)) z
theorem walk_ofT {l:W.OpenLaw}{n k:Nat}{q:Program}{loose:List Str}{XP:(Str->Option Value)->Heap->Prop}{YP:World->Heap->Prop}{d dd:DefRec}{K:Params->W.Frag}{CX:World->CXT}{sp:World->Addr->Sp}{x tn:Str}(hn:l.most=some n)(hn2:n<=sizeLine)(hdf:d.params.defaults=[])(hr:Room k callerA)(hY:∀(w:World)(h:Heap),YP w h->(K w.params).In h)(hrec:(recsOf q).find? (λe=>e.name == tn)=some dd)(F:∀(w:World)(mg:Str->Option Value)(fa:Addr)(h:Heap),(K w.params).In h->h.Ns mainGlobals mg->mg d.name=some (.ref fa) ->
   ∃(fd:FuncData)(c P:Addr),W.tabIn (K w.params) tn=some (c,P)/\(K w.params).lookup P=none/\(∀(s:Shared)(u:Value),BindsTo s fd ⟨[u],[]⟩ [(x,u)]) /\
    ∀base:Heap,(K w.params).In base->base.Ns mainGlobals mg->W.CodeHd base c P->base.BuiltinsAt mg P->FnOk l.prog w (K w.params) mg base (CX w) k fa fd [x] (sp w P))(hsp:∀(w:World)(P:Addr)(H:Hp)(a:Addr)(ns:List Int),ns.length<=n->Yt P H->H P=some (.tbl #[])->SqL (K w.params) H a (ns.map V.int)->sp w P [.ref a] H (λv _=>v=.bl true) λ_ _ _=>False)(hCX:∀(w:World)(H:Hp)(s:Shared)(e:Value)(s':Shared),CX w [] H s (λ_ _ _=>False) e s'->False) :
  W.WalkO q loose XP YP l.row.toRowW d [] (λf vs=>PySem.call f vs):=by
 refine Att.attach_call hn hdf λw s₀ s₁ mg mb fa o pm cd doc a vs ns G Y ho hd hcd hmg hobj hints qJ hg=>?_;have KX:=hY w _ Y;obtain ⟨fd,c,P,htab,hKP,hb,hF⟩:=F w mg fa _ KX G.T.g hmg;obtain ⟨C,hP⟩:=W.tab_of G.T KX hrec htab;have hB:s₁.heap.BuiltinsAt mg P:=by
  obtain ⟨bm,ob,b1,b2,b3,b4,b5,b6⟩:=G.T.bmain;refine ⟨bm,ob,b1,b2,λz=>?_,λz=>?_,b3,b4,b5,b6⟩
  ·obtain ⟨o',es,ep,e,hd',_⟩:=G.T.g;rw [z,e] at b3;cases b3;rw [hd'] at b6;cases b6
  ·rw [z,hP] at b3;cases b3;cases b4
 exact Wv KX G.T.g G.T.b G.T.builtins G.T.nolimit hg C hP hKP hB hobj hints (Nat.le_trans qJ hn2) hr hF hb (λH hO hT hS=>hsp w P H a ns qJ hO hT hS) λH e s'=>hCX w H s₁ e s'
end L2
namespace L2
open PySem PySem.Spec PyProof.Rows
section
variable {P:Program}{w:World}{K:W.Frag}{mg:Str->Option Value}{base:Heap}
theorem Fun.okC {x qual:Str}{st:Stmt}{f c:Addr}{fd:FuncData}{N ps:List Str}{k:Nat}{sp:Sp}(F:Fun K x qual st f fd)(hc:fd.code=.ref c)(S:Gs N ps (Ge st))(len:∀vs H Q E,sp vs H Q E->vs.length=ps.length)(qW:∀(A:Around)(outer:List Env)(s:Shared)(H:Hp)(vs:List V)(Q:VK)(E:XK),Room k (A.deeper (envOfC qual (Ge st) s.heap.objs.size f (.ref c)))->sp vs H Q E ->
   ∃t,PSs (V4 CX0 P w K mg base N qual (Ge st) f (.ref c) A outer s H E).nox (Gq st) t/\t { nx:=λ_ H'=>Q .non H',rt:=Q } (Jq N vs) H):FnOk P w K mg base CX0 (k+1) f fd ps sp:=by
 obtain ⟨oc,od,kV,doc,pm,an,cdv,ct,osl,rfl,lk,hcd⟩:=F.ex;have e:cdv=.ref c:=hc;subst e;refine Zq lk hcd S len λA outer s H vs Q E hr hsp=>?_;obtain ⟨t,h,q⟩:=qW A outer s H vs Q E hr hsp;exact ⟨t,h.nox,q⟩
theorem SameL.lst {P:Addr}{H H':Hp}{a:Addr}{xs:List V}{ps:Array Value}(s:SameL P H H')(hP:H P=some (.tbl ps))(e:H a=some (.lst xs)):H' a=some (.lst xs):=s a _ (λz=>by rw [z,hP] at e;cases e) e
theorem SameL.tup {P:Addr}{H H':Hp}{a:Addr}{xs:List V}{ps:Array Value}(s:SameL P H H')(hP:H P=some (.tbl ps))(e:H a=some (.tup xs)):H' a=some (.tup xs):=s a _ (λz=>by rw [z,hP] at e;cases e) e
theorem SameL.free {P p:Addr}{H H':Hp}{ps:Array Value}(s:SameL P H H')(hP:H P=some (.tbl ps))(hP':∃qs,H' P=some (.tbl qs))(h:H' p=none):H p=none:=by
 cases e:H p with
 | none=>rfl
 | some o=>
  by_cases z:p=P
  ·obtain ⟨qs,e'⟩:=hP';rw [z,e'] at h;cases h
  ·rw [s p o z e] at h;cases h
theorem SameL.put {P p:Addr}{H H':Hp}{o:HO}(s:SameL P H H')(h:H p=none):SameL P H (upd H' p o):=λa u n e=>Ux (s a u n e) (λz=>by rw [z,h] at e;cases e)
end
end L2
namespace L2
open PySem PySem.Spec PyProof.Rows
section
variable {X:Cx}
def ZH (i:Nat)(f:Addr)(sp:Sp)(dvs:List V)(E:XK)(t:TA):TE:=λσ H Q=>σ[i]?=some (some (.ref f))/\Vv sp dvs E t σ H Q
theorem Xl {CX:CXT}{k i:Nat}{f:Addr}{fd:FuncData}{ps:List Str}{sp:Sp}{ds:List Value}{dvs:List V}{E:XK}{x:Str}{e:Expr}{es:List Expr}{t:TA}{p pos:Pos}(F:FnOk X.prog X.w X.K X.mg X.base CX k f fd ps sp)(hr:Room k X.A)(hv:PE X (.Name x p) (VM i))(hk:W.keepIn X.K (.ref f)=true)(hb:Binds X.K fd ps ds)(hd:Vals dvs ds)(hx:Oh CX X E)(ha:PA X (e::es) t)(he:starEach (e::es) X.env=(false,eval e X.env)::starEach es X.env:=by rfl)(hpl:(backTo pos (starEach es X.env)).any (·.1)=false:=by rfl):PE X (.Call (.Name x p) (e::es) [] pos) (ZH i f sp dvs E t):=by
 intro qQ s σ H Q I h;refine wpAny_Call_Name_kw (thn (hv qQ s σ H (λv H'=>v=.ref f/\H'=H) I ⟨_,h.1,rfl,rfl⟩) λu s1 ⟨v,H1,I1,r1,ev,eH⟩=>?_);subst ev eH;obtain rfl:u=Value.ref f:=r1;refine W.callWith_K (h₀:=X.base) I1.ok.mod.kin hk (thn (ha pos qQ s1 σ H1 _ I1 h.2) λus s2 ⟨vs,H2,I2,r,q⟩=>⟨I2.kIn,?_⟩) he hpl;exact U4 F hr hb hd hx I2 r q
end
end L2
namespace L2
open PySem PySem.Spec PyProof.Rows
def ZI (H:Hp)(c:Addr)(v:V):Prop:=∃o u,H c=some (.frz o (.own c))/\o.data=.cell (some u)/\RelV v u
abbrev Xm:=List (Str×Addr)
def CellsAt (H:Hp)(cl:Xm)(vs:List V):Prop:=Paired (λ(q:Str×Addr) v=>ZI H q.2 v) cl vs
def J4 (cl:Xm)(H:Hp):Hp:=λb=>if b∈cl.map (·.2) then none else H b
def VG (cl:Xm)(H H':Hp):Hp:=λb=>if b∈cl.map (·.2) then H b else H' b
section
variable {cl:Xm}{H H':Hp}{b:Addr}
theorem JE (h:b∈cl.map (·.2)):J4 cl H b=none:=if_pos h
theorem Ja (h:b ∉ cl.map (·.2)):J4 cl H b=H b:=if_neg h
theorem UR (h:b∈cl.map (·.2)):VG cl H H' b=H b:=if_pos h
theorem Jl (h:b ∉ cl.map (·.2)):VG cl H H' b=H' b:=if_neg h
theorem CellsAt.frz:∀{cl:Xm}{vs:List V},CellsAt H cl vs->∀c∈cl.map (·.2),∃o,H c=some (.frz o (.own c))
 | _,_,.nil,c,h=>by simp at h
 | _,_,.cons r t,c,h=>by
  rw [List.map_cons] at h;rcases List.mem_cons.mp h with rfl | h
  ·obtain ⟨o,u,e,_⟩:=r;exact ⟨o,e⟩
  ·exact CellsAt.frz t c h
theorem Xn {P:Program}{w:World}{h:Heap}(ok:HOk P w H h)(hz:∀c∈cl.map (·.2),∃o,H c=some (.frz o (.own c))):HOk P w (J4 cl H) h:=λa o e=>by
 have ha:a ∉ cl.map (·.2):=λz=>by rw [JE z] at e;cases e
 rw [Ja ha] at e;refine (ok a o e).stay (λ_ _ _ q=>q) (λd q=>?_) λd ys q=>?_
 ·rw [Ja (λz=>by obtain ⟨o',e'⟩:=hz d z;rw [e'] at q;cases q)];exact q
 ·rw [Ja (λz=>by obtain ⟨o',e'⟩:=hz d z;rw [e'] at q;cases q)];exact q
theorem J5 {α:Type}:∀{l:List (Str×α)}{x:Str}{u:α},(l.map (·.1)).Nodup->(x,u)∈l->l.lookup x=some u
 | [],_,_,_,h=>by cases h
 | p::l,x,u,nd,h=>by
  rw [List.map_cons,List.nodup_cons] at nd;rw [List.lookup_cons];rcases List.mem_cons.mp h with rfl | h
  ·simp
  ·have hne:(x == p.1)=false:=by
    rw [beq_eq_false_iff_ne];exact λz=>nd.1 (by rw [<-z];exact List.mem_map.mpr ⟨_,h,rfl⟩)
   rw [hne];exact J5 nd.2 h
theorem VH {ps:List Str}{us:List Value}(hl:us.length=ps.length)(nd:ps.Nodup){i:Nat}{x:Str}{u:Value}(h1:ps[i]?=some x)(h2:us[i]?=some u):(ps.zip us).reverse.lookup x=some u:=by
 refine J5 ?_ ?_
 ·rw [List.map_reverse,List.map_fst_zip (by lia)];unfold List.Nodup at nd ⊢;rw [List.pairwise_reverse];exact nd.imp λh=>Ne.symm h
 ·rw [List.mem_reverse];refine List.mem_of_getElem? (i:=i) ?_;rw [List.getElem?_zip_eq_some];exact ⟨h1,h2⟩
end
structure Ua (N ps fr:List Str)(sc:Scope):Prop where
 kind:sc.kind=.function
 co:sc.isCoroutine=false
 gen:sc.isGenerator=false
 nd:N.Nodup
 pre:N.take (ps++fr).length=ps++fr
 par:∀x∈ps,sc.names.lookup x=some .local
 frk:∀x∈fr,sc.names.lookup x=some .free
 nocell:∀y∈sc.names,y.2≠.cell
 free:∀y∈sc.names,y.2=.free->y.1∈fr
def OL (P:Program)(w:World)(K:W.Frag)(mg:Str->Option Value)(base:Heap)(N:List Str)(qual:Str)(scope:Scope)(clos:Xm)(f:Addr)(cd:Value)(A:Around)(outer:List Env)(s:Shared)(H:Hp):Cx where
 prog:=P
 w:=w
 K:=K
 mg:=mg
 base:=base
 A:=A.deeper (W.envX qual scope s.heap.objs.size f cd clos)
 N:=N
 s₀:=s
 H₀:=J4 clos H
 env:=W.envX qual scope s.heap.objs.size f cd clos
 outer:=outer
 stack:=W.envX qual scope s.heap.objs.size f cd clos::outer
 ex:=[]
 calm:=true
 fn:=λ_=>false
 pn:=[]
 xe:=λ_ _=>False
section
variable {P:Program}{w:World}{K:W.Frag}{mg:Str->Option Value}{base:Heap}{N ps fr:List Str}{qual:Str}{scope:Scope}{clos:Xm}{f:Addr}{cd:Value}{A:Around}{outer:List Env}{s:Shared}{H:Hp}{us:List Value}{vs fvs:List V}
theorem Yu {h1:Heap}{tk:Nat}(S:Ua N ps fr scope)(hd:A.handled=none)(e0:X8 P w K mg base A outer s H)(hl:vs.length=ps.length)(r:Vals vs us)(hc:CellsAt H clos fvs)(hfr:clos.map (·.1)=fr)(hnd:(clos.map (·.2)).Nodup)(hns:h1.Ns s.heap.objs.size (λx=>(ps.zip us).reverse.lookup x))(hk:∀b o,s.heap.get? b=some o->h1.get? b=some o) :
  Inv (OL P w K mg base N qual scope clos f cd A outer s H) [] (Jq N (vs++fvs)) (J4 clos H) { s with heap:=h1,toks:=tk }:=by
 have hfl:fvs.length=fr.length:=by rw [<-hfr,List.length_map];exact (Paired.length hc).symm
 have hpl:(vs++fvs).length<=N.length:=by
  have:=congrArg List.length S.pre;rw [List.length_take,List.length_append] at this;rw [List.length_append]
  lia
 have ndA:(ps++fr).Nodup:=by rw [<-S.pre];exact S.nd.sublist (List.take_sublist _ _)
 have ndP:ps.Nodup:=(List.nodup_append.mp ndA).1;have ndF:fr.Nodup:=(List.nodup_append.mp ndA).2.1;have cellOf:∀{i:Nat}{x:Str}{v:V},fr[i]?=some x->fvs[i]?=some v->∃c u,clos.lookup x=some c/\RelV v u/\h1.IsCell c (some u):=λ{i x v} e1 e2=>by
  rw [<-hfr,List.getElem?_map] at e1;obtain ⟨q,hq,rfl⟩:=Option.map_eq_some_iff.mp e1;obtain ⟨v',hv',o,u,ho,hd',rv⟩:=Vi hc hq;rw [e2] at hv';cases hv';refine ⟨q.2,u,J5 (by rw [hfr];exact ndF) (List.mem_of_getElem? hq),rv,o,hk _ _ ?_,hd'⟩;exact (show ObjOk P w H s.heap q.2 (.frz o (.own q.2)) from e0.hok _ _ ho).1
 have ofLook:∀{x:Str}{c:Addr},clos.lookup x=some c->c∈clos.map (·.2):=λ{x c} e=>List.mem_map.mpr ⟨_,PySem.mem_of_lookup e,rfl⟩;have nob:∀b:Addr,b ∉ (OL P w K mg base N qual scope clos f cd A outer s H).ex:=λb z=>absurd (show b∈([]:List Addr) from z) (by simp);refine ⟨⟨e0.mod,S.kind,rfl,rfl,Nat.le_refl _,λy z c h1 h2=>?_,λy hy=>?_,λy c h _=>(nomatch h),λ_=>hd,Around.frames_deeper e0.frames,.inr ⟨rfl,rfl⟩,λb z=>absurd z (nob b),λb o e=>⟨(e0.bs b o e).1,?_⟩,e0.bsz,λb _ _=>nob b,λb z=>absurd z (nob b),e0.funs,λb hb=>?_⟩,
  rfl,e0.bare,Un.kept hk,⟨_,hns,λi y v h1 h2 h3=>?_⟩,λy c h=>?_,?_,λy c h=>JE (ofLook h),λp hp=>absurd (show p∈([]:List (Addr×Obj)) from hp) (by simp),(Xn e0.hok hc.frz).kept hk,?_⟩
 ·have m1:=PySem.mem_of_lookup h1;have m2:=PySem.mem_of_lookup h2;have hp:clos.Pairwise λa b=>a.2≠b.2:=by unfold List.Nodup at hnd;rwa [List.pairwise_map] at hnd
  exact name_of_addr hp m1 m2
 ·have hy:scope.names.lookup y=some .cell\/scope.names.lookup y=some .free:=hy;rcases hy with hy | hy
  ·exact absurd rfl (S.nocell _ (PySem.mem_of_lookup hy))
  ·have hm:=S.free _ (PySem.mem_of_lookup hy) rfl;rw [<-hfr] at hm;obtain ⟨q,hq,rfl⟩:=List.mem_map.mp hm;exact ⟨q.2,J5 (l:=clos) (by rw [hfr];exact ndF) hq⟩
 ·by_cases z:b∈clos.map (·.2)
  ·exact JE z
  ·show J4 clos H b=none;rw [Ja z];exact (e0.bs b o e).2
 ·by_cases z:b∈clos.map (·.2)
  ·exact JE z
  ·show J4 clos H b=none;rw [Ja z];exact e0.frf b hb
 ·have hi:i<(vs++fvs).length:=by
   unfold Jq at h2;by_cases hi:i<(vs++fvs).length
   ·exact hi
   ·rw [List.getElem?_append_right (by simpa using hi)] at h2;rw [List.getElem?_replicate] at h2;split at h2 <;> cases h2
  have ha:(vs++fvs)[i]?=some v:=by
   unfold Jq at h2;rw [List.getElem?_append_left (by rw [List.length_map];exact hi),List.getElem?_map] at h2;cases e:(vs++fvs)[i]? with
   | none=>rw [e] at h2;cases h2
   | some a=>rw [e] at h2;cases h2;rfl
  have hp:(ps++fr)[i]?=some y:=by
   rw [<-S.pre,List.getElem?_take_of_lt (by rw [List.length_append] at hi ⊢;lia)];exact h1
  by_cases hv:i<vs.length
  ·rw [List.getElem?_append_left hv] at ha;rw [List.getElem?_append_left (by lia)] at hp;obtain ⟨u,hu,rv⟩:=r.get ha;exact ⟨u,rv,.inl ⟨S.par y (List.mem_of_getElem? hp),VH (by rw [<-hl];exact r.length.symm) ndP hp hu⟩⟩
  ·rw [List.getElem?_append_right (by lia)] at ha hp;rw [hl] at ha;obtain ⟨c,u,e1,rv,ic⟩:=cellOf hp ha;exact ⟨u,rv,.inr ⟨.inr (S.frk y (List.mem_of_getElem? hp)),c,e1,ic⟩⟩
 ·have hm:=PySem.mem_of_lookup h;obtain ⟨i,hi⟩:=List.getElem?_of_mem hm;obtain ⟨v,hv,o,u,ho,hd',rv⟩:=Vi hc hi;exact ⟨some u,o,hk _ _ (show ObjOk P w H s.heap c (.frz o (.own c)) from e0.hok _ _ ho).1,hd'⟩
 ·have:H s.heap.objs.size=none:=e0.hok.fresh (Nat.le_refl _);show J4 clos H s.heap.objs.size=none;by_cases z:s.heap.objs.size∈clos.map (·.2)
  ·exact JE z
  ·rw [Ja z];exact this
 ·unfold Jq;show _=N.length;rw [List.length_append,List.length_map,List.length_replicate]
  lia
theorem Yv {H':Hp}{s':Shared}{Q:VK}{u:Value}{v:V}{σ':St}(e0:X8 P w K mg base A outer s H)(hc:CellsAt H clos fvs)(J:Inv (OL P w K mg base N qual scope clos f cd A outer s H) [] σ' H' s')(rv:RelV v u)(q:(∀c∈clos.map (·.2),H' c=none)->Q v (VG clos H H')) :
  CE outer P w H s Q u s':=by
 have hz:=hc.frz;have B:=J.base;have nH:∀{b:Addr}{o:HO},H b=some o->(∀ob,o≠.frz ob (.own b))->b ∉ clos.map (·.2):=λ{b o} e n z=>by
  obtain ⟨ob,e'⟩:=hz b z;rw [e] at e';cases e';exact n _ rfl
 have hn:∀{b:Addr},H b=none->J4 clos H b=none:=λ{b} n=>by
  by_cases z:b∈clos.map (·.2)
  ·exact JE z
  ·rw [Ja z];exact n
 have nz:∀{b:Addr},H b=none->b ∉ clos.map (·.2):=λ{b} n z=>by
  obtain ⟨ob,e'⟩:=hz b z;rw [n] at e';cases e'
 have at0:∀{b:Addr}{ob:Obj},H b=some (.frz ob (.own b))->s.heap.get? b=some ob:=λ{b ob} e=>(show ObjOk P w H s.heap b (.frz ob (.own b)) from e0.hok _ _ e).1;have at1:∀{b:Addr}{ob:Obj},b∈clos.map (·.2)->H b=some (.frz ob (.own b))->s'.heap.get? b=some ob:=λ{b ob} z e=>B.keep b ob (at0 e) (JE z) (λy=>by have:=e0.frf b y;rw [e] at this;cases this) (by simp [OL]);have fr0:∀{b:Addr},b∈clos.map (·.2)->H' b=none:=λ{b} z=>by
  obtain ⟨ob,e⟩:=hz b z;exact B.free b ob (at0 e) (JE z) (by simp [OL])
 refine ⟨v,VG clos H H',J.os,J.bare,⟨λb o e n h1 h2=>B.keep b o e (hn n) h1 (by simp [OL]),λb o e n h1 h2=>B.slot b o e (hn n) h1 (by simp [OL]),λb o e n h1=>?_,λb o e h1=>B.there b o e (by simp [OL]),λb ys e=>?_,λb o y e=>?_,λb ys e=>?_⟩,λa o e=>?_,rv,q λc hc=>fr0 hc⟩
 ·rw [Jl (nz n)];exact B.free b o e (hn n) (by simp [OL])
 ·have z:=nH e (λ_=>by simp);rw [Jl z];exact B.tups b ys (by show J4 clos H b=_;rw [Ja z];exact e)
 ·by_cases z:b∈clos.map (·.2)
  ·rw [UR z];exact e
  ·rw [Jl z];exact B.frzs b o y (by show J4 clos H b=_;rw [Ja z];exact e)
 ·have z:=nH e (λ_=>by simp);rw [Jl z];exact B.tbls b ys (by show J4 clos H b=_;rw [Ja z];exact e)
 ·by_cases z:a∈clos.map (·.2)
  ·obtain ⟨ob,e'⟩:=hz a z;rw [UR z,e'] at e;cases e;exact ⟨at1 z e',_,at1 z e'⟩
  ·rw [Jl z] at e;refine (J.hok a o e).stay (λ_ _ _ y=>y) (λd y=>?_) λd ys y=>?_
   ·rw [Jl (λzz=>by rw [fr0 zz] at y;cases y)];exact y
   ·rw [Jl (λzz=>by rw [fr0 zz] at y;cases y)];exact y
def CloFn (H:Hp)(f c:Addr)(qual:Str)(o:Obj):Prop:=H f=some (.frz o (.own f))/\∃oc,H c=some (.frz oc (.own c))/\ZG qual oc
theorem CloFn.same {H H':Hp}{f c:Addr}{qual:Str}{o:Obj}(h:CloFn H f c qual o)(s:Same H H'):CloFn H' f c qual o:=⟨s _ _ h.1,h.2.elim λoc z=>⟨oc,s _ _ z.1,z.2⟩⟩
theorem CloFn.rec_ {f c:Addr}{o:Obj}(h:CloFn H f c qual o)(ok:HOk P w H s.heap):s.heap.get? f=some o/\s.heap.CodeRec (.ref c) qual:=by
 obtain ⟨h1,oc,h2,vs,t,hd,hv⟩:=h;exact ⟨(show ObjOk P w H s.heap f (.frz o (.own f)) from ok _ _ h1).1,c,oc,vs,t,rfl,(show ObjOk P w H s.heap c (.frz oc (.own c)) from ok _ _ h2).1,hd,hv⟩
theorem ZJ {k:Nat}{c':Addr}{name:Str}{params:Arguments}{body:Expr}{pm ctv:Value}{sp:Sp}(S:Ua N ps fr scope)(hfr:clos.map (·.1)=fr)(hnd:(clos.map (·.2)).Nodup)(len:∀vs H Q E,sp vs H Q E->vs.length=ps.length)(hsp:∀(A:Around)(outer:List Env)(s:Shared)(H:Hp)(vs:List V)(Q:VK)(E:XK),Room k (A.deeper (W.envX qual scope s.heap.objs.size f (.ref c') clos))->sp vs H Q E->CloFn H f c' qual (W.kla_obj name qual params body scope clos pm c' ctv)/\∃fvs,CellsAt H clos fvs /\
   ∃t,PE (OL P w K mg base N qual scope clos f (.ref c') A outer s H) body t/\t (Jq N (vs++fvs)) (J4 clos H) (λv H'=>(∀c∈clos.map (·.2),H' c=none)->Q v (VG clos H H'))) :
  FnOk P w K mg base CX0 (k+1) f (W.kla_fn name qual params body scope clos pm (.ref c') ctv) ps sp:=by
 refine ⟨len,λA outer s H args us vs Q E hr e0 hb r h=>?_⟩;have hl:=len _ _ _ _ h;obtain ⟨hf,fvs,hc,t,ht,q⟩:=hsp A outer s H vs Q E (hr.deeper _) h;obtain ⟨ho,hcd⟩:=hf.rec_ e0.hok;have lim:s.heap.NoLimit:=e0.mod.nolimit.keeps λb o e=>(e0.bs b o e).1;refine W.kla_callFunE hr.depth ho rfl S.co S.gen rfl hcd (hb _ _ _ _ ?_);refine wpAny_newFunctionEnv S.nocell (λy hy=>S.par y.1 (List.of_mem_zip (show (y.1,y.2)∈ps.zip us from hy)).1) (λh1 hns hsb=>⟨lim.fresh _ hsb,W.kla_codeExpr ?_⟩) S.kind;have hk:∀b o,s.heap.get? b=some o->h1.get? b=some o:=λb o e=>hsb.extBut b o (Nat.ne_of_lt (Heap.lt_size e)) (Heap.get?_push_of_some _ e);have I:=Yu (qual:=qual) (f:=f) (cd:=.ref c') (tk:=s.toks+(ps.zip us).length) S hr.hd e0 hl r hc hfr hnd hns hk;refine wpAny_mono (ht [] _ (Jq N (vs++fvs)) _ _ I q) (λu s' hs=>?_) λe s' hs=>hs.elim;obtain ⟨v,H',J,rv,q⟩:=hs;exact Yv e0 hc J rv q
end
end L2
namespace L2
open PySem PySem.Spec PyProof.Rows
structure Y8 where
 line:Nat
 col:Nat
 qual:Str
 c:Addr
def WR (es:List Y8):List Value:=es.flatMap λe=>[rawInt e.line,rawInt e.col,.ref e.c]
def TabOn (P:Addr)(es:List Y8)(H:Hp):Prop:=H P=some (.tbl (WR es).toArray)/\∀e∈es,∃oc,H e.c=some (.frz oc (.own e.c))/\ZG e.qual oc
theorem TabOn.same {P:Addr}{es:List Y8}{H H':Hp}(h:TabOn P es H)(s:Same H H'):TabOn P es H':=⟨s _ _ h.1,λe he=>(h.2 e he).elim λoc z=>⟨oc,s _ _ z.1,z.2⟩⟩
theorem Ww:∀es:List Y8,TriplesOk (WR es)
 | []=>trivial
 | e::es=>by
  show TriplesOk (rawInt e.line::rawInt e.col::.ref e.c::WR es);exact Ww es
theorem Wx (es:List Y8)(e:Y8):(WR (es++[e])).toArray=(WR es).toArray++#[rawInt e.line,rawInt e.col,.ref e.c]:=by
 unfold WR;rw [List.flatMap_append];simp
section
variable {X:Cx}{qQ:List (Addr×Obj)}{σ:St}{H:Hp}{s:Shared}
theorem Yw {P c':Addr}{ps more:Array Value}{h':Heap}{tk:Nat}{oc o:Obj}(I:Inv X qQ σ H s)(e0:H P=some (.tbl ps))(hx:Heap.ExtBut P s.heap h')(hge:s.heap.objs.size<=c')(hlt:c'<h'.objs.size)(hoc:h'.get? c'=some oc)(htb:h'.get? P=some (W.tabObj (ps++more)))(hrd:(h'.push o).get? h'.objs.size=some o) :
  ∃H',Inv X qQ σ H' { s with heap:=h'.push o,toks:=tk }/\SameL P H H'/\H' P=some (.tbl (ps++more))/\H' c'=some (.frz oc (.own c'))/\H' h'.objs.size=some (.frz o (.own h'.objs.size))/\H c'=none/\H h'.objs.size=none:=by
 have hP:s.heap.get? P=some (W.tabObj ps):=I.hok P _ e0;have hcP:c'≠P:=λz=>by rw [z] at hge;exact Nat.lt_irrefl _ (Nat.lt_of_lt_of_le (Heap.lt_size hP) hge)
 have hlP:P<h'.objs.size:=Heap.lt_size htb;have nc:H c'=none:=I.hok.fresh hge;have hsz:s.heap.objs.size<=h'.objs.size:=Nat.le_trans hge (Nat.le_of_lt hlt);have nf:H h'.objs.size=none:=I.hok.fresh hsz;have hcf:c'≠h'.objs.size:=Nat.ne_of_lt hlt;have hPf:P≠h'.objs.size:=Nat.ne_of_lt hlP;generalize hH':upd (upd (upd H P (.tbl (ps++more))) c' (.frz oc (.own c'))) h'.objs.size (.frz o (.own h'.objs.size))=H';have aP:H' P=some (.tbl (ps++more)):=by rw [<-hH',Gr hPf,Gr (Ne.symm hcP),Gb]
 have ac:H' c'=some (.frz oc (.own c')):=by rw [<-hH',Gr hcf,Gb]
 have af:H' h'.objs.size=some (.frz o (.own h'.objs.size)):=by rw [<-hH',Gb]
 have ao:∀b,b≠P->b≠c'->b≠h'.objs.size->H' b=H b:=λb h1 h2 h3=>by rw [<-hH',Gr h3,Gr h2,Gr h1]
 have sl:SameL P H H':=λb o hb e=>by
  rw [ao b hb (λz=>by rw [z,nc] at e;cases e) (λz=>by rw [z,nf] at e;cases e)];exact e
 have kp:∀b u,b≠P->s.heap.get? b=some u->(h'.push o).get? b=some u:=λb u hb e=>Heap.get?_push_of_some _ (hx b u hb e);have nP:∀b,H b=none->b≠P:=λb n z=>by rw [z,e0] at n;cases n
 have gf:=hrd;have I':Inv X qQ σ H' { s with heap:=h'.push o,toks:=tk }:=by
  refine I.un ⟨λb o e n _ _=>kp b o (nP b n) e,λb o e n _ _=>⟨o.slots,kp b o (nP b n) e⟩,λb o e n _=>?_,λb o e _=>?_,λb ys e=>sl b _ (λz=>by rw [z,e0] at e;cases e) e,λb o u e=>sl b _ (λz=>by rw [z,e0] at e;cases e) e,λb qs e=>?_⟩ λb u e=>?_
  ·rw [ao b (nP b n) (Nat.ne_of_lt (Nat.lt_of_lt_of_le (Heap.lt_size e) hge)) (Nat.ne_of_lt (Nat.lt_of_lt_of_le (Heap.lt_size e) hsz))];exact n
  ·by_cases z:b=P
   ·rw [z];exact ⟨_,Heap.get?_push_of_some _ htb⟩
   ·exact ⟨o,kp b o z e⟩
  ·by_cases z:b=P
   ·rw [z,e0] at e;cases e;exact ⟨more,by rw [z];exact aP⟩
   ·exact ⟨#[],by rw [sl b _ z e];simp⟩
  ·by_cases z:b=P
   ·rw [z,aP] at e;cases e;rw [z];exact Heap.get?_push_of_some _ htb
   ·by_cases z2:b=c'
    ·rw [z2,ac] at e;cases e;rw [z2];exact ⟨Heap.get?_push_of_some _ hoc,_,Heap.get?_push_of_some _ hoc⟩
    ·by_cases z3:b=h'.objs.size
     ·rw [z3,af] at e;cases e;rw [z3];exact ⟨gf,_,gf⟩
     ·rw [ao b z z2 z3] at e;refine (I.hok b u e).stay (λd y hd qd=>kp d y ?_ qd) (λd qd=>sl d _ (λy=>by rw [y,e0] at qd;cases qd) qd) λd ys qd=>sl d _ (λy=>by rw [y,e0] at qd;cases qd) qd;rcases hd with rfl | hd
      ·exact z
      ·exact λy=>by rw [y,e0] at hd;cases hd
 exact ⟨H',I',sl,aP,ac,af,nc,nf⟩
end
section
variable {X:Cx}
def tMk (P:Addr)(pos:Pos)(qual:Str)(o:Addr->Value->Value->Obj)(H:Hp)(Q:VK):Prop:=∃es,TabOn P es H /\
 ((codeAmong pos (WR es)=none/\∀(f c':Addr)(ctv doc:Value)(H':Hp),SameL P H H'->TabOn P (es++[⟨pos.line,pos.col,qual,c'⟩]) H'->H f=none->CloFn H' f c' qual (o c' ctv doc)->Q (.ref f) H') \/
  ∃e∈es,codeAmong pos (WR es)=some (.ref e.c)/\e.qual=qual/\∀(f:Addr)(ctv doc:Value)(H':Hp),Same H H'->H f=none->CloFn H' f e.c qual (o e.c ctv doc)->Q (.ref f) H')
theorem Yx {P:Addr}{ps:Array Value}{mg:Str->Option Value}{h:Heap}(hg:h.Ns mainGlobals mg)(hP:h.get? P=some (W.tabObj ps)):mainGlobals≠P:=λz=>by
 obtain ⟨o,es,ep,e,hd,_⟩:=hg;rw [z,hP] at e;cases e;cases hd
theorem Yy {params:Arguments}{body:Expr}{scope:Scope}{pos:Pos}{clos:Xm}{c P:Addr}{qual:Str}(hcl:closureFor scope X.env=pure clos)(hcode:X.env.code=.ref c)(C:W.CodeHd X.base c P)(hb:X.base.BuiltinsAt X.mg P)(hq:X.env.qual ++ "<lambda>" = qual)(hdef:defaultsOf params X.env=([],[]):=by rfl):PE X (.Lambda params body scope pos) (λ_ H Q=>tMk P pos qual (λc' ctv _=>W.kla_obj "<lambda>" qual params body scope clos ((X.mg "__name__").getD .none) c' ctv) H Q):=by
 intro qQ s σ H Q I h;refine W.kla_eval hdef ?_;rw [hq];have hg:s.heap.Ns mainGlobals X.mg:=I.ok.mod.glob.keeps I.bk;have hB:s.heap.BuiltinsAt X.mg P:=by
  obtain ⟨bm,o,h1,h2,h3,h4,h5,h6⟩:=hb;exact ⟨bm,o,h1,h2,h3,h4,I.bk _ _ h5,h6⟩
 obtain ⟨es,on,h⟩:=h;have hP:s.heap.get? P=some (W.tabObj (WR es).toArray):=I.hok P _ on.1;rcases h with ⟨hnf,q⟩ | ⟨e,he,hf',hqe,q⟩
 ·refine W.kla_makeFunction (mg:=X.mg) hcl I.ok.glob hg hcode (C.keeps I.bk) hP (Ww es) hnf (Yx hg hP) hB λc' ctv h' tk hx' hge hlt hrec htb=>?_;obtain ⟨c2,oc,vs,tq,ec,hoc,hd,hv⟩:=hrec;cases ec;obtain ⟨H',I',sl,aP,ac,af,nc,nf⟩:=Yw (o:=W.kla_obj "<lambda>" qual params body scope clos ((X.mg "__name__").getD .none) c' ctv) (tk:=tk) I on.1 hx' hge hlt hoc htb (Heap.get?_push_size _ rfl);refine ⟨.ref h'.objs.size,H',I',rfl,q _ c' ctv .none H' sl ⟨?_,λy hy=>?_⟩ nf ⟨af,oc,ac,vs,tq,hd,hv⟩⟩
  ·rw [Wx];exact aP
  ·rcases List.mem_append.mp hy with hy | hy
   ·obtain ⟨oy,z1,z2⟩:=on.2 y hy;exact ⟨oy,sl _ _ (λz=>by rw [z,on.1] at z1;cases z1) z1,z2⟩
   ·rw [List.mem_singleton.mp hy];exact ⟨oc,ac,vs,tq,hd,hv⟩
 ·refine W.kla_makeFunctionHit (cv:=.ref e.c) (mg:=X.mg) hcl I.ok.glob hg hcode (C.keeps I.bk) hP (Ww es) hf' hB λctv h' tk hk hsz=>?_;have nf:H h'.objs.size=none:=I.hok.fresh hsz;have I':=I.laid (a:=h'.objs.size) (o:=.frz (W.kla_obj "<lambda>" qual params body scope clos ((X.mg "__name__").getD .none) e.c ctv) (.own h'.objs.size)) (h':=h'.push (W.kla_obj "<lambda>" qual params body scope clos ((X.mg "__name__").getD .none) e.c ctv)) (t':=tk) (λb o e=>Heap.get?_push_of_some _ (hk b o e)) hsz ⟨Heap.get?_push_size _ rfl,_,Heap.get?_push_size _ rfl⟩;have sm:Same H (upd H h'.objs.size (.frz (W.kla_obj "<lambda>" qual params body scope clos ((X.mg "__name__").getD .none) e.c ctv) (.own h'.objs.size))):=Same.new nf;obtain ⟨oc,z1,z2⟩:=on.2 e he;rw [hqe] at z2;exact ⟨.ref h'.objs.size,_,I',rfl,q _ ctv .none _ sm nf ⟨Gb,oc,sm _ _ z1,z2⟩⟩
def FnIn (H:Hp)(f:Addr):Prop:=∃o u fd,H f=some (.frz o u)/\o.data=.func fd
theorem CloFn.fin {H:Hp}{f c:Addr}{qual:Str}{o:Obj}{fd:FuncData}(h:CloFn H f c qual o)(e:o.data=.func fd):FnIn H f:=⟨o,_,fd,h.1,e⟩
theorem FnIn.at_ {qQ:List (Addr×Obj)}{σ:St}{H:Hp}{s:Shared}{f:Addr}(h:FnIn H f)(I:Inv X qQ σ H s):W.FnAt f s.heap:=by
 obtain ⟨o,u,fd,e,hd⟩:=h;have hg:=(show ObjOk X.prog X.w H s.heap f (.frz o u) from I.hok _ _ e).1;obtain ⟨oc,od,dt,sl⟩:=o;cases hd;exact ⟨oc,od,fd,sl,hg⟩
def ZK (i:Nat)(f:Addr)(sp:Sp)(dvs:List V)(E:XK)(t:TA):TE:=λσ H Q=>σ[i]?=some (some (.ref f))/\FnIn H f/\t σ H λvs H1=>FnIn H1 f/\sp (vs++dvs) H1 Q E
theorem Xo {CX:CXT}{k i:Nat}{f:Addr}{fd:FuncData}{ps:List Str}{sp:Sp}{ds:List Value}{dvs:List V}{E:XK}{x:Str}{e:Expr}{es:List Expr}{t:TA}{p pos:Pos}(F:FnOk X.prog X.w X.K X.mg X.base CX k f fd ps sp)(hr:Room k X.A)(hv:PE X (.Name x p) (VM i))(hb:Binds X.K fd ps ds)(hd:Vals dvs ds)(hx:Oh CX X E)(ha:PA X (e::es) t)(he:starEach (e::es) X.env=(false,eval e X.env)::starEach es X.env:=by rfl)(hpl:(backTo pos (starEach es X.env)).any (·.1)=false:=by rfl):PE X (.Call (.Name x p) (e::es) [] pos) (ZK i f sp dvs E t):=by
 intro qQ s σ H Q I h;refine wpAny_Call_Name_kw (thn (hv qQ s σ H (λv H'=>v=.ref f/\H'=H) I ⟨_,h.1,rfl,rfl⟩) λu s1 ⟨v,H1,I1,r1,ev,eH⟩=>?_);subst ev eH;obtain rfl:u=Value.ref f:=r1;refine W.callWith_F (h.2.1.at_ I1) (thn (ha pos qQ s1 σ H1 _ I1 h.2.2) λus s2 ⟨vs,H2,I2,r,hf,q⟩=>⟨hf.at_ I2,?_⟩) he hpl;exact U4 F hr hb hd hx I2 r q
end
end L2
namespace M
open PySem L2
def top (i:Nat):Stmt:=PySem.Challenge.pw_onceways_k81_wishes_written_and_read.main.body.getD i (.Pass ⟨0,0,0,0⟩)
abbrev Yz:Stmt:=top 6
abbrev YA:Stmt:=top 7
abbrev YB:Stmt:=top 10
abbrev YC:Stmt:=top 11
abbrev XU:Stmt:=top 19
abbrev YD:Stmt:=top 20
abbrev YE:Stmt:=top 21
abbrev YF:Stmt:=top 23
abbrev Y9:Stmt:=top 24
abbrev Xp:Stmt:=top 25
abbrev YG:Stmt:=top 26
abbrev YH:Stmt:=top 27
abbrev YI:Stmt:=top 28
abbrev YJ:Stmt:=top 29
abbrev YK:Stmt:=top 31
abbrev YL:Stmt:=top 32
abbrev YM:Stmt:=top 33
abbrev YN:Stmt:=top 34
abbrev YO:Stmt:=top 35
abbrev YQ:Stmt:=top 36
abbrev YR:Stmt:=top 37
abbrev Xq:Stmt:=top 38
end M
namespace M
open PySem L2
theorem Ju:bootBuiltins "str" = some (.type "str"):=by first | rfl | decide +kernel
theorem JP:2<=sizeLine:=by decide
theorem GL (w:Str):∀ws:List Str,inV (.str w) (ws.map V.str)=decide (w∈ws):=by
 intro ws;unfold inV
 induction ws with
 | nil=>rfl
 | cons m ms ih=>
  rw [List.map_cons,List.any_cons,ih];by_cases h1:w=m <;> by_cases h2:w∈ms <;> simp [eqV,h1,h2] <;> (try (intro z;exact h1 z.symm))
structure AllB {α:Type}(Pr:α->Prop)(bs:List Bool)(cs:List α):Prop where
 len:bs.length=cs.length
 all:bs.all id=true↔∀c∈cs,Pr c
theorem AllB.nil {α:Type}{Pr:α->Prop}:AllB Pr [] []:=⟨rfl,⟨λ_ c hc=>(by cases hc),λ_=>rfl⟩⟩
theorem AllB.snoc {α:Type}{Pr:α->Prop}{bs:List Bool}{cs:List α}(h:AllB Pr bs cs){b:Bool}{c:α}(hb:b=true↔Pr c):AllB Pr (bs++[b]) (cs++[c]):=by
 refine ⟨by rw [List.length_append,List.length_append,h.len];rfl,?_⟩;rw [List.all_append,Bool.and_eq_true,h.all];constructor
 ·rintro ⟨h1,h2⟩ x hx;rcases List.mem_append.mp hx with z | z
  ·exact h1 x z
  ·rw [List.mem_singleton] at z;rw [z];exact hb.mp (by simpa using h2)
 ·intro hx;refine ⟨λc hc=>hx c (List.mem_append_left _ hc),?_⟩;have:=hb.mpr (hx c (List.mem_append_right _ (List.mem_singleton.mpr rfl)));rw [this]
  rfl
theorem AllB.next {α:Type}{Pr:α->Prop}{bs:List Bool}{cs:List α}{i:Nat}{c:α}(h:AllB Pr bs (cs.take i))(e:cs[i]?=some c){b:Bool}(hb:b=true↔Pr c):AllB Pr (bs++[b]) (cs.take (i+1)):=by
 obtain ⟨hi,e'⟩:=List.getElem?_eq_some_iff.mp e;rw [List.take_succ_eq_append_getElem hi,e'];exact h.snoc hb
structure ZL (K:W.Frag):Prop where
 ni:W.kitOne K (.type "NoneType") (.type "int")=some false
 bi:W.kitOne K (.type "bool") (.type "int")=some true
 si:W.kitOne K (.type "str") (.type "int")=some false
 li:W.kitOne K (.type "list") (.type "int")=some false
 ti:W.kitOne K (.type "tuple") (.type "int")=some false
 ib:W.kitOne K (.type "int") (.type "bool")=some false
 nt:W.kitOne K (.type "NoneType") (.type "tuple")=some false
 bt:W.kitOne K (.type "bool") (.type "tuple")=some false
 it:W.kitOne K (.type "int") (.type "tuple")=some false
 st:W.kitOne K (.type "str") (.type "tuple")=some false
 lt:W.kitOne K (.type "list") (.type "tuple")=some false
 ns:W.kitOne K (.type "NoneType") (.type "str")=some false
 bs:W.kitOne K (.type "bool") (.type "str")=some false
 is:W.kitOne K (.type "int") (.type "str")=some false
 ls:W.kitOne K (.type "list") (.type "str")=some false
 ts:W.kitOne K (.type "tuple") (.type "str")=some false
section
variable {P:Program}{w:World}{K:W.Frag}{mg:Str->Option Value}{base:Heap}
def ZM:Sp:=λvs H Q _=>∃(v:V)(d:PyData),vs=[v]/\Th H v d/\Q (.bl (JS d)) H
theorem ZaW:Gs ["thing"] ["thing"] (Ge XU):=⟨rfl,rfl,rfl,by decide +kernel,rfl,by decide +kernel,by decide +kernel⟩
theorem ZN {f:Addr}{fd:FuncData}{tG:Tok}(F:Fun K "is_small" "is_small" XU f fd)(k:ZL K)(mGre:mg "GREATEST" = some (.int 9999 tG))(mIsi:mg "isinstance" = none)(mInt:mg "int" = none)(mBool:mg "bool" = none):FnOk P w K mg base CX0 1 f fd ["thing"] ZM:=by
 refine F.ok ZaW (λvs H Q E h=>?_) (λcdv A outer s H vs Q E hr h=>?_)
 ·obtain ⟨_,_,rfl,_⟩:=h
  rfl
 ·obtain ⟨v,d,rfl,h,q⟩:=h;refine ⟨_,Gg (Gp (Ow (Gi (O5 K) rfl mIsi Gz (Ga (pv 0) (Ga (G7 mInt O4) Gd))) (Ow (VQ (Gi (O5 K) rfl mIsi Gz (Ga (pv 0) (Ga (G7 mBool Uy) Gd)))) (Uh (WW X5 X5 Gc (pv 0) (Ov (v:=.int 9999) rfl mGre ⟨_,rfl⟩)))))),?_⟩;cases h with
  | non=>exact ⟨_,rfl,_,_,false,rfl,⟨_,rfl,G4 q⟩,.inl ⟨_,.non,rfl,k.ni⟩⟩
  | bl b=>exact ⟨_,rfl,_,_,true,rfl,⟨_,rfl,GO ⟨_,rfl,_,_,true,rfl,⟨_,rfl,_,rfl,G4 q⟩,.inl ⟨_,.bl _,rfl,GI⟩⟩⟩,.inl ⟨_,.bl _,rfl,k.bi⟩⟩
  | int i=>
   refine ⟨_,rfl,_,_,true,rfl,⟨_,rfl,GO ⟨_,rfl,_,_,false,rfl,⟨_,rfl,_,rfl,GO ?_⟩,.inl ⟨_,.int _,rfl,k.ib⟩⟩⟩,.inl ⟨_,.int _,rfl,GI⟩⟩;have q:Q (.bl (decide (0<=i) && decide (i<=9999))) H:=q;refine ⟨_,rfl,_,_,rfl,rfl,_,rfl,OR (λc=>?_) (λc=>?_)⟩
   ·rw [c,Bool.true_and] at q;exact ⟨_,_,rfl,rfl,q⟩
   ·rw [Bool.eq_false_iff.mpr c,Bool.false_and] at q;exact q
  | str x=>exact ⟨_,rfl,_,_,false,rfl,⟨_,rfl,G4 q⟩,.inl ⟨_,.str _,rfl,k.si⟩⟩
  | lst e z h=>exact ⟨_,rfl,_,_,false,rfl,⟨_,rfl,G4 q⟩,.inl ⟨_,.lst e,rfl,k.li⟩⟩
  | tup e z h=>exact ⟨_,rfl,_,_,false,rfl,⟨_,rfl,G4 q⟩,.inl ⟨_,.tup e,rfl,k.ti⟩⟩
def ZO:Sp:=λvs H Q _=>∃(wd:Str)(r:Addr)(xs:List V)(rest:List PyData),vs=[.str wd,.ref r]/\H r=some (.tup xs)/\xs.length<=1000/\Ths H xs rest/\∀H',Same H H'->Q (.bl (G1 wd rest)) H'
theorem ZaX:Gs ["word", "rest"] ["word", "rest"] (Ge YD):=⟨rfl,rfl,rfl,by decide +kernel,rfl,by decide +kernel,by decide +kernel⟩
structure Wds (K:W.Frag)(aJ aB aP aR aL:Addr):Prop where
 j:∀H:Hp,SqT K H aJ (sJoin.map V.str)
 b:∀H:Hp,SqT K H aB (sBare.map V.str)
 p:∀H:Hp,SqT K H aP (sPair.map V.str)
 r:∀H:Hp,SqT K H aR [.str "with", .str "off"]
 l:∀H:Hp,SqT K H aL [.str "over", .str "past"]
theorem ZP {f fS aJ aB aP aR aL:Addr}{fd fdS:FuncData}{tG:Tok}(F:Fun K "is_leaf" "is_leaf" YD f fd)(FS:Fun K "is_small" "is_small" XU fS fdS)(bS:Binds K fdS ["thing"] [])(mS:mg "is_small" = some (.ref fS))(k:ZL K)(T:Wds K aJ aB aP aR aL)(mBar:mg "BARE" = some (.ref aB))(mPai:mg "PAIRED" = some (.ref aP))(mOfR:mg "OF_ROADS" = some (.ref aR))(mOfP:mg "OF_PLACES" = some (.ref aL))(mGre:mg "GREATEST" = some (.int 9999 tG))(mIsi:mg "isinstance" = none)(mInt:mg "int" = none)(mBool:mg "bool" = none)(mTup:mg "tuple" = none)(mLen:mg "len" = none)(mAll:mg "all" = none):FnOk P w K mg base CX0 2 f fd ["word", "rest"] ZO:=by
 have GS:FnOk P w K mg base CX0 1 fS fdS ["thing"] ZM:=ZN FS k mGre mIsi mInt mBool;refine F.ok ZaX (λvs H Q E h=>?_) (λcdv A outer s H vs Q E hr h=>?_)
 ·obtain ⟨_,_,_,_,rfl,_⟩:=h
  rfl
 ·obtain ⟨wd,r,xs,rest,rfl,e,z,hs,q⟩:=h;have h16:(16777216:Nat)=sizeLine:=sizeLine_eq.symm;have hl:=hs.len;refine ⟨_,Gf (G3 (Gj (kIn K) (pv 0) (Jb mBar) (by with_unfolding_all rfl)) (Gg (Gp (Yk (pv 1) K))) Gy)
    (Gf (G3 (Gj (kIn K) (pv 0) (Jb mPai) (by with_unfolding_all rfl)) (Gg (Gp (Ow (J9 JM (Gi (VA K) rfl mLen PySem.boot_len (Ga (pv 1) Gd)) Gc (Gw _)) (Ow (GC GS (hr.mono (by decide)) rfl mS FS.kp bS .nil G0 (Ga (Gn (Om K) (pv 1) Gc (λ_ _=>rfl)) Gd)) (Uh (GC GS (hr.mono (by decide)) rfl mS FS.kp bS .nil G0 (Ga (Gn (Om K) (pv 1) Gc (λ_ _=>rfl)) Gd))))))) Gy)
    (Gf (G3 (PW.pt (JL (Gj (ZB K) (pv 0) (Gk (UA K) (Jb mOfR) (Jb mOfP)) (by with_unfolding_all rfl)) (JL (Gj Oy (Gi (VA K) rfl mLen PySem.boot_len (Ga (pv 1) Gd)) Gc (Gw _)) (Jy (Jw (Jh (Gi (O5 K) rfl mIsi Gz (Ga (Gn (Om K) (pv 1) Gc (λ_ _=>rfl)) (Ga (G7 mTup GU) Gd))))))))) (Gg (Gp OK)) Gy)
    (Gg (Gp (Gi (Zbt K rfl) rfl mAll Vh (Ga (JR (own:=["thing"]) rfl (Jj (by decide +kernel) (by decide +kernel) rfl (by decide +kernel)) (W6 K (Gn (Om K) (pv 1) Gc (λ_ _=>rfl))) (λ_ _ _ _=>GF (i:=0) (show List.Nodup (["thing"]:List Str) by decide +kernel) rfl (Or.inl rfl)) (λ_ _ _ _=>Jr) (λ_ _ _ _=>GC GS (hr.mono (by decide)) rfl mS FS.kp bS .nil G0 (Ga (pv 0) Gd))) Gd)))))),?_⟩
  refine ⟨_,rfl,aB,_,rfl,.inr (T.b H),rfl,rfl,_,rfl,?_⟩;show if (inV (.str wd) (sBare.map V.str))=true then _ else _
  rw [GL];unfold G1 at q;by_cases c1:wd∈sBare
  ·rw [decide_eq_true c1];rw [if_pos c1] at q;refine GO ?_;refine ⟨_,rfl,!xs.isEmpty,.inr (.inl ⟨_,SqT.of e,rfl⟩),?_⟩;have:(!(!xs.isEmpty))=rest.isEmpty:=by
    rw [Bool.not_not];cases hs <;> rfl
   rw [this];exact q _ (Same.refl _)
  rw [decide_eq_false c1];rw [if_neg c1] at q;refine G4 ?_;refine ⟨_,rfl,aP,_,rfl,.inr (T.p H),rfl,rfl,_,rfl,?_⟩;show if (inV (.str wd) (sPair.map V.str))=true then _ else _
  rw [GL];by_cases c2:wd∈sPair
  ·rw [decide_eq_true c2];rw [if_pos c2] at q;refine GO ?_;refine ⟨_,rfl,r,xs,rfl,.inr (SqT.of e),rfl,_,rfl,OR (λc=>?_) (λc=>?_)⟩
   ·have c:(xs.length:Int)=2:=V.int.inj (of_decide_eq_true c)
    match xs,rest,hs,(show xs.length=2 by lia) with
    | [x0,x1],[d0,d1],.cons t0 (.cons t1 .nil),_=>
     refine ⟨_,rfl,r,_,_,_,rfl,rfl,SqT.of e,Gh (j:=0) rfl,x0,d0,rfl,t0,_,rfl,OR (λb0=>?_) (λb0=>?_)⟩
     ·refine ⟨_,rfl,r,_,_,_,rfl,rfl,SqT.of e,Gh (j:=1) rfl,x1,d1,rfl,t1,?_⟩;have:=q _ (Same.refl _);simp only [b0,Bool.true_and] at this;exact this
     ·have:=q _ (Same.refl _);simp only [Bool.eq_false_iff.mpr b0,Bool.false_and] at this;exact this
   ·have c:¬ xs.length=2:=λy=>c (decide_eq_true (by rw [y];rfl));have q:=q _ (Same.refl _)
    match rest,q,hl with
    | [],q,_=>exact q
    | [_],q,_=>exact q
    | [_,_],_,hl=>exact absurd hl c
    | _::_::_::_,q,_=>exact q
  rw [decide_eq_false c2];rw [if_neg c2] at q;refine G4 ?_;refine ⟨_,rfl,aR,aL,_,_,rfl,rfl,T.r H,T.l H,by simp,by show 4<=sizeLine;lia,(λy=>(by cases y)),λ_ p hp=>?_⟩;refine ⟨p,_,rfl,.inr (SqT.of Gb),rfl,rfl,_,rfl,?_⟩;have s1:Same H (upd H p (.tup ([.str "with", .str "off"]++[.str "over", .str "past"]))):=Same.new hp;generalize upd H p (.tup ([.str "with", .str "off"]++[.str "over", .str "past"]))=H1 at s1 ⊢;show if (!inV (.str wd) (sFour.map V.str))=true then _ else _
  rw [GL];by_cases c3:wd∈sFour;rotate_left
  ·rw [decide_eq_false c3];rw [if_neg c3] at q;exact GO (GO (q _ s1))
  rw [decide_eq_true c3];rw [if_pos c3] at q;refine G4 ?_;refine ⟨_,rfl,r,xs,rfl,.inr (SqT.of (s1 _ _ e)),rfl,_,rfl,?_⟩;by_cases c4:V.int (xs.length:Int)=V.int 1;rotate_left
  ·rw [decide_eq_false c4];refine GO (GO ?_);have c4:¬ xs.length=1:=λy=>c4 (by rw [y];rfl);have q:=q _ s1
   match rest,q,hl with
   | [],q,_=>exact q
   | [_],_,hl=>exact absurd hl c4
   | d::_::_,q,_=>cases d <;> exact q
  rw [decide_eq_true c4];refine G4 ?_;have c4:(xs.length:Int)=1:=V.int.inj c4
  match xs,rest,hs,(show xs.length=1 by lia) with
  | [x0],[d0],.cons t0 .nil,_=>
   cases t0 with
   | non=>exact ⟨_,rfl,r,_,_,_,rfl,rfl,SqT.of (s1 _ _ e),Gh (j:=0) rfl,_,_,false,rfl,⟨_,rfl,GO (q _ s1)⟩,.inl ⟨_,.non,rfl,k.nt⟩⟩
   | bl b=>exact ⟨_,rfl,r,_,_,_,rfl,rfl,SqT.of (s1 _ _ e),Gh (j:=0) rfl,_,_,false,rfl,⟨_,rfl,GO (q _ s1)⟩,.inl ⟨_,.bl _,rfl,k.bt⟩⟩
   | int i=>exact ⟨_,rfl,r,_,_,_,rfl,rfl,SqT.of (s1 _ _ e),Gh (j:=0) rfl,_,_,false,rfl,⟨_,rfl,GO (q _ s1)⟩,.inl ⟨_,.int _,rfl,k.it⟩⟩
   | str x=>exact ⟨_,rfl,r,_,_,_,rfl,rfl,SqT.of (s1 _ _ e),Gh (j:=0) rfl,_,_,false,rfl,⟨_,rfl,GO (q _ s1)⟩,.inl ⟨_,.str _,rfl,k.st⟩⟩
   | lst e' z' h'=>exact ⟨_,rfl,r,_,_,_,rfl,rfl,SqT.of (s1 _ _ e),Gh (j:=0) rfl,_,_,false,rfl,⟨_,rfl,GO (q _ s1)⟩,.inl ⟨_,TyOf.lst (s1 _ _ e'),rfl,k.lt⟩⟩
   | @tup a0 xs0 ds0 e' z' h'=>
    refine ⟨_,rfl,r,_,_,_,rfl,rfl,SqT.of (s1 _ _ e),Gh (j:=0) rfl,_,_,true,rfl,⟨_,rfl,G4 ?_⟩,.inl ⟨_,.tup (s1 _ _ e'),rfl,GI⟩⟩;refine ⟨_,rfl,r,_,_,_,rfl,rfl,SqT.of (s1 _ _ e),Gh (j:=0) rfl,a0,rfl,⟨_,SqT.of (s1 _ _ e')⟩,λD hD=>?_⟩;refine O6 (K:=K) (a:=a0) (xs:=xs0) (λi vs H2=>Same H1 H2/\H2 D=some (.lst vs)/\∃bs:List Bool,vs=bs.map V.bl/\AllB (λc=>JS c=true) bs (ds0.take i)) ⟨Same.new hD,Gb,[],rfl,AllB.nil⟩ (λi vs H2 _ ⟨s2,_⟩=>SqT.of (s2 _ _ (s1 _ _ e'))) ?_ ?_
    ·rintro i x vs H2 hx ⟨s2,hD2,bs,rfl,B⟩;obtain ⟨dx,ex,tx⟩:=(h'.same (s1.trans s2)).get hx;have hbl:bs.length<=1000:=by have:=h'.len;rw [B.len,List.length_take];lia
     refine ⟨trivial,?_⟩;unfold XQ;refine GO ?_;exact ⟨_,rfl,x,dx,rfl,tx,hD2,by rw [List.length_map];lia,s2.put hD,Gb,bs++[JS dx],by rw [List.map_append];rfl,B.next ex Iff.rfl⟩
    ·rintro vs H2 ⟨s2,hD2,bs,rfl,B⟩;rw [h'.len,List.take_length] at B;refine ⟨D,bs,rfl,SqL.of hD2,?_⟩;have eq:bs.all id=ds0.all JS:=by
      rw [Bool.eq_iff_iff,B.all,List.all_eq_true]
     rw [eq];exact q _ (s1.trans s2)
end
end M
namespace M
open PySem L2
section
variable {P:Program}{w:World}{K:W.Frag}{mg:Str->Option Value}{base:Heap}
theorem Xr:bootBuiltins "max" = some (.builtin "max"):=by first | rfl | decide +kernel
theorem US {p:Nat}{a:Int}(h:a.natAbs<2 ^ p:=by decide +kernel):Lt2 p a:=h
theorem ZaY {n:Int}(h:n.natAbs<2 ^ 40):Lt2 9000 n:=Nat.lt_of_lt_of_le h (Nat.pow_le_pow_right (by decide) (by decide))
theorem GQ {ns:List Int}{i:Int}(h0:0<=i)(h1:i<ns.length):atI (ns.map V.int) i=some (.int (ns.getD i.toNat 0)):=by
 obtain ⟨k,rfl⟩:=Int.eq_ofNat_of_zero_le h0;have hk:k<ns.length:=by lia
 refine Gh ?_;show (ns.map V.int)[k]?=some (.int (ns.getD k 0));rw [List.getElem?_map,List.getD_eq_getElem?_getD,List.getElem?_eq_getElem hk]
 rfl
def ZQ (K:W.Frag):Sp:=λvs H Q _=>∃(a:Addr)(ns:List Int)(k:Nat),vs=[.ref a,.int (k:Int)]/\SqL K H a (ns.map V.int)/\∀z:Int,Q (.int z) H
theorem ZaZ:Gs ["script", "k"] ["script", "k"] (Ge YK):=⟨rfl,rfl,rfl,by decide +kernel,rfl,by decide +kernel,by decide +kernel⟩
theorem ZR {f:Addr}{fd:FuncData}(F:Fun K "_law_cell_at" "_law_cell_at" YK f fd)(mLen:mg "len" = none):FnOk P w K mg base CX0 1 f fd ["script", "k"] (ZQ K):=by
 refine F.ok ZaZ (λvs H Q E h=>?_) (λcdv A outer s H vs Q E hr h=>?_)
 ·obtain ⟨_,_,_,rfl,_⟩:=h
  rfl
 ·obtain ⟨a,ns,k,rfl,hS,q⟩:=h;refine ⟨_,Gf (G3 (Gj X4 (pv 1) (Gi (VA K) rfl mLen PySem.boot_len (Ga (pv 0) Gd)) (Gw _)) (Gg (Gp (Gn (Jk K) (pv 0) (pv 1) (λ_ _=>rfl)))) Gy)
    (Gg (Gp Gc)),?_⟩
  refine ⟨_,rfl,_,rfl,a,_,rfl,.inl hS,_,_,rfl,rfl,_,rfl,?_⟩;rw [List.length_map];refine OR (λz=>?_) (λ_=>q 0);have z':=of_decide_eq_true z;exact ⟨_,rfl,_,rfl,a,_,_,_,rfl,rfl,hS,GQ (by lia) z',q _⟩
def ZS:Sp:=λvs H Q _=>∃(c:Int)(m:Nat),vs=[.int c,.int (m:Int)]/\m<=50/\∀(l:Addr)(row:List Int)(H':Hp),Same H H'->H' l=some (.lst (row.map V.int))->row.length=m->Q (.ref l) H'
theorem scNum:Gs ["cell", "many", "found", "rest", "stir", "k", "again"] ["cell", "many"] (Ge YL):=⟨rfl,rfl,rfl,by decide +kernel,rfl,by decide +kernel,by decide +kernel⟩
theorem ZT {f:Addr}{fd:FuncData}(F:Fun K "_law_numbers" "_law_numbers" YL f fd)(mRange:mg "range" = none):FnOk P w K mg base CX0 1 f fd ["cell", "many"] ZS:=by
 refine F.ok scNum (λvs H Q E h=>?_) (λcdv A outer s H vs Q E hr h=>?_)
 ·obtain ⟨_,_,rfl,_⟩:=h
  rfl
 ·obtain ⟨c,m,rfl,hm,q⟩:=h;have h16:(16777216:Nat)=sizeLine:=sizeLine_eq.symm;refine ⟨_,Gf (Gv (i:=2) scNum.nd rfl (Or.inl rfl) (GY Gd))
    (Gf (Gv (i:=3) scNum.nd rfl (Or.inl rfl) (pv 0))
    (Gf (Gv (i:=4) scNum.nd rfl (Or.inl rfl) (Gk GB (pv 0) Gc))
    (Gf (Og PassesOwn.never rfl (G5 rfl mRange (Ga (pv 1) Gd)) (GF (i:=5) scNum.nd rfl (Or.inl rfl))
    (Gg (G3 (PW.pt (VP (Gj ZaJ (pv 0) (Gk Zm Gc Gc) (Gw _)) (UM (Gj Zn (pv 3) Gc (Gw _))))) (Gf (Jd (J1 PySem.F.plainAttrs_list PySem.F.slot_list_append PySem.F.type_list_append GR (pv 2) (Ga (Gk GB (pv 3) Gc) Gd)))
    (Gg (Gv (i:=3) scNum.nd rfl (Or.inl rfl) (Gk O3 (pv 3) Gc)))) (Gf (Gv (i:=4) scNum.nd rfl (Or.inl rfl) (Gk GB (Gk Jx (Gk Jf (Gk Jf (pv 4) (Gk Jx Gc (pv 5))) Gc) Gc) Gc))
    (Gf (Gv (i:=6) scNum.nd rfl (Or.inl rfl) (Gk GB (Gk Jx (Gk GB (Gk Jx (pv 4) (pv 4)) Gc) Gc) Gc))
    (Gg (Jd (J1 PySem.F.plainAttrs_list PySem.F.slot_list_append PySem.F.type_list_append GR (pv 2) (Ga (Gk GB (Gk O3 (pv 6) Gc) Gc) Gd)))))))))
    (Gg (Gp (pv 2)))))),?_⟩
  refine ⟨Nat.zero_le _,λl hl=>?_⟩;refine ⟨_,rfl,?_⟩;refine ⟨_,rfl,_,_,rfl,rfl,(by show (0:Int)<2147483647;decide),?_⟩;refine ⟨_,rfl,_,rfl,by lia,by lia,?_⟩;rw [Int.toNat_natCast];refine JA (lo:=0) (n:=m) (λi σ H2=>∃(row:List Int)(r st:Int)(v5 v6:Option V),σ=[some (.int c),some (.int (m:Int)),some (.ref l),some (.int r),some (.int st),v5,v6]/\Same H H2/\H2 l=some (.lst (row.map V.int))/\row.length=i) ⟨[],_,_,none,none,rfl,Same.new hl,Gb,rfl⟩ ?_ ?_
  ·rintro i σ H2 hi ⟨row,r,st,v5,v6,rfl,s2,e2,rl⟩;rw [Int.zero_add];refine ⟨_,rfl,_,_,rfl,rfl,⟨by decide,by decide,by decide⟩,_,_,rfl,rfl,_,rfl,OR (λ_=>?_) (λ_=>?_)⟩
   ·refine ⟨_,rfl,_,_,rfl,rfl,_,rfl,OR (λ_=>?_) (λ_=>?_)⟩
    ·refine ⟨_,rfl,.inl ⟨rfl,_,SqL.of e2⟩,_,rfl,_,_,rfl,rfl,(by show (0:Int)<64;decide),l,_,_,rfl,rfl,e2,by rw [List.length_map];lia,?_⟩;refine ⟨_,rfl,_,_,rfl,rfl,⟨by decide,US⟩,?_⟩;exact ⟨row++[_],_,_,_,_,rfl,s2.put hl,by rw [Gb,List.map_append];rfl,by rw [List.length_append,List.length_singleton,rl]⟩
    ·refine ⟨_,rfl,_,rfl,_,_,rfl,rfl,.inl ⟨by decide,by decide⟩,_,_,rfl,rfl,_,_,rfl,rfl,_,_,rfl,rfl,.inr ⟨by decide,by decide⟩,_,_,rfl,rfl,(by show (0:Int)<2147483647;decide),?_⟩;refine ⟨_,rfl,_,rfl,_,_,rfl,rfl,.inl ⟨by lia,by lia⟩,_,_,rfl,rfl,(by show (0:Int)<2147483629;decide),_,_,rfl,rfl,.inr ⟨by decide,by decide⟩,_,_,rfl,rfl,(by show (0:Int)<2147483587;decide),?_⟩;refine ⟨_,rfl,.inl ⟨rfl,_,SqL.of e2⟩,_,rfl,_,_,rfl,rfl,⟨by decide,US⟩,_,_,rfl,rfl,(by show (0:Int)<720720;decide),l,_,_,rfl,rfl,e2,by rw [List.length_map];lia,?_⟩;exact ⟨row++[_],_,_,_,_,rfl,s2.put hl,by rw [Gb,List.map_append];rfl,by rw [List.length_append,List.length_singleton,rl]⟩
   ·refine G4 ?_;refine ⟨_,rfl,_,rfl,_,_,rfl,rfl,.inl ⟨by decide,by decide⟩,_,_,rfl,rfl,_,_,rfl,rfl,_,_,rfl,rfl,.inr ⟨by decide,by decide⟩,_,_,rfl,rfl,(by show (0:Int)<2147483647;decide),?_⟩;refine ⟨_,rfl,_,rfl,_,_,rfl,rfl,.inl ⟨by lia,by lia⟩,_,_,rfl,rfl,(by show (0:Int)<2147483629;decide),_,_,rfl,rfl,.inr ⟨by decide,by decide⟩,_,_,rfl,rfl,(by show (0:Int)<2147483587;decide),?_⟩;refine ⟨_,rfl,.inl ⟨rfl,_,SqL.of e2⟩,_,rfl,_,_,rfl,rfl,⟨by decide,US⟩,_,_,rfl,rfl,(by show (0:Int)<720720;decide),l,_,_,rfl,rfl,e2,by rw [List.length_map];lia,?_⟩;exact ⟨row++[_],_,_,_,_,rfl,s2.put hl,by rw [Gb,List.map_append];rfl,by rw [List.length_append,List.length_singleton,rl]⟩
  ·rintro σ H2 ⟨row,r,st,v5,v6,rfl,s2,e2,rl⟩;exact ⟨_,rfl,q l row H2 s2 e2 rl⟩
theorem OH (ws:List Str){j:Int}(h0:0<=j)(h1:j<ws.length):∃wd∈ws,atI (ws.map V.str) j=some (.str wd):=by
 obtain ⟨k,rfl⟩:=Int.eq_ofNat_of_zero_le h0;have hk:k<ws.length:=by lia
 refine ⟨ws[k],List.getElem_mem hk,Gh ?_⟩;show (ws.map V.str)[k]?=some (.str ws[k]);rw [List.getElem?_map,List.getElem?_eq_getElem hk]
 rfl
theorem UT (ns:List Int){j:Int}(h0:0<=j)(h1:j<ns.length):∃z∈ns,atI (ns.map V.int) j=some (.int z):=by
 obtain ⟨k,rfl⟩:=Int.eq_ofNat_of_zero_le h0;have hk:k<ns.length:=by lia
 refine ⟨ns[k],List.getElem_mem hk,Gh ?_⟩;show (ns.map V.int)[k]?=some (.int ns[k]);rw [List.getElem?_map,List.getElem?_eq_getElem hk]
 rfl
def nine:List Str:=["open", "closed", "with", "off", "over", "past", "long", "shy", "all"]
theorem UE {wd:Str}(h:wd∈sBare):Ws (.tuple [.str wd]) 1:=.leaf (by unfold G1;rw [if_pos h];rfl)
theorem Wy {wd:Str}{a b:Int}(h:wd∈sPair)(ha:0<=a/\a<=9999)(hb:0<=b/\b<=9999):Ws (.tuple [.str wd,.int a,.int b]) 1:=by
 refine .leaf ?_;have h1:wd ∉ sBare:=by
  unfold sPair at h;rcases List.mem_cons.mp h with rfl | h
  ·decide +kernel
  ·rw [List.mem_singleton] at h;subst h;decide +kernel
 unfold G1;rw [if_neg h1,if_pos h];simp [JS,ha.1,ha.2,hb.1,hb.2]
theorem OI {wd:Str}{ds:List PyData}(h:wd∈sFour)(hd:ds.all JS=true):Ws (.tuple [.str wd,.tuple ds]) 1:=by
 refine .leaf ?_;have h1:wd ∉ sBare/\wd ∉ sPair:=by
  unfold sFour at h;rcases List.mem_cons.mp h with rfl | h
  ·decide +kernel
  rcases List.mem_cons.mp h with rfl | h
  ·decide +kernel
  rcases List.mem_cons.mp h with rfl | h
  ·decide +kernel
  rw [List.mem_singleton] at h;subst h;decide +kernel
 unfold G1;rw [if_neg h1.1,if_neg h1.2,if_pos h];exact hd
theorem Wz {wd:Str}(h:wd∈nine):wd∈sBare\/wd∈sPair\/wd∈sFour:=by
 have:∀x∈nine,x∈sBare\/x∈sPair\/x∈sFour:=by decide +kernel
 exact this wd h
def YS (H:Hp)(Q:VK)(b:Nat):Prop:=∀(v:V)(d:PyData)(m:Nat)(H':Hp),Same H H'->Th H' v d->Ws d m->m<=b->Q v H'
def ZU:Sp:=λvs H Q _=>∃(xl:Addr)(ns:List Int),vs=[.ref xl]/\H xl=some (.lst (ns.map V.int))/\ns.length=6/\YS H Q 1
theorem scSom:Gs ["xs", "word", "great"] ["xs"] (Ge YM):=⟨rfl,rfl,rfl,by decide +kernel,rfl,by decide +kernel,by decide +kernel⟩
theorem Oc {ms:List Int}(h:∀m∈ms,0<=m/\m<=9999):(ms.map PyData.int).all JS=true:=by
 rw [List.all_map,List.all_eq_true];intro m hm;have:=h m hm;simp [JS,this.1,this.2]
theorem JK (H:Hp):∀ms:List Int,Ths H (ms.map V.int) (ms.map PyData.int)
 | []=>.nil
 | m::ms=>.cons (.int m) (JK H ms)
theorem ZV {f:Addr}{fd:FuncData}(F:Fun K "_law_some" "_law_some" YM f fd)(mRange:mg "range" = none)(mTup:mg "tuple" = none):FnOk P w K mg base CX0 1 f fd ["xs"] ZU:=by
 refine F.ok scSom (λvs H Q E h=>?_) (λcdv A outer s H vs Q E hr h=>?_)
 ·obtain ⟨_,_,rfl,_⟩:=h
  rfl
 ·obtain ⟨xl,ns,rfl,exl,hn,q⟩:=h;have h16:(16777216:Nat)=sizeLine:=sizeLine_eq.symm;refine ⟨_,Gf (Gv (i:=1) scSom.nd rfl (Or.inl rfl) (Gn (Jk K) (GY (Ga Gm (Ga Gm (Ga Gm (Ga Gm (Ga Gm (Ga Gm (Ga Gm (Ga Gm (Ga Gm Gd)))))))))) (Gk GB (Gn (Jk K) (pv 0) Gc (λ_ _=>rfl)) Gc) (λ_ _=>rfl)))
    (Gf (G3 (PW.pt (JL (Gj JM (pv 1) Gm (Gw _)) (JL (Gj JM (pv 1) Gm (Gw _)) (Jy (Gj JM (pv 1) Gm (Gw _)))))) (Gg (Gp (G6 (Ga (pv 1) Gd)))) Gy)
    (Gf (Gv (i:=2) scSom.nd rfl (Or.inr rfl) (Gn (Jk K) (GY (Ga (Gk GB (Gn (Jk K) (pv 0) Gc (λ_ _=>rfl)) Gc) (Ga (Gk GB (Gk Jx (Gn (Jk K) (pv 0) Gc (λ_ _=>rfl)) Gc) Gc) (Ga Gc (Ga Gc Gd))))) (Gk GB (Gn (Jk K) (pv 0) Gc (λ_ _=>rfl)) Gc) (λ_ _=>rfl)))
    (Gf (G3 (PW.pt (JL (Gj JM (pv 1) Gm (Gw _)) (Jy (Gj JM (pv 1) Gm (Gw _))))) (Gg (Gp (G6 (Ga (pv 1) (Ga (pv 2) (Ga (Gn (Jk K) (GY (Ga (Gk GB (Gn (Jk K) (pv 0) Gc (λ_ _=>rfl)) Gc) (Ga Gc (Ga (Gk GB (Gk Jx (Gn (Jk K) (pv 0) Gc (λ_ _=>rfl)) Gc) Gc) Gd)))) (Gk GB (Gn (Jk K) (pv 0) Gc (λ_ _=>rfl)) Gc) (λ_ _=>rfl)) Gd)))))) Gy)
    (Gg (Gp (G6 (Ga (pv 1) (Ga (Jn (XS K) rfl mTup GU (Ga (JR (own:=["j"]) rfl (GZ (fr:=[("xs", 0),("great", 2)]) [(".0", .local),("j", .local),("great", .cell),("xs", .cell)] rfl rfl (by decide +kernel) rfl (by decide +kernel) ⟨rfl,rfl,trivial⟩ ⟨λh=>On h,λh=>On h,λ_=>⟨_,rfl⟩,λ_=>⟨_,rfl⟩,trivial⟩ ⟨⟨rfl,.inl rfl,.inl rfl⟩,⟨rfl,.inl rfl,.inl rfl⟩,trivial⟩) (G5 rfl mRange (Ga (Gk GB (Gn (Jk K) (pv 0) Gc (λ_ _=>rfl)) Gc) Gd)) (λ_ _ _ _=>GF (i:=0) (show List.Nodup (["j", "xs", "great"]:List Str) by decide +kernel) rfl (Or.inl rfl)) (λ_ _ _ _=>Jr) (λ_ _ _ _=>Gn (Jk K) (GY (Ga (pv 2) (Ga (Gk GB (Gk Jx (Gn (Jk K) (pv 1) (Gk Jf Gc (Gk GB (pv 0) Gc)) (λ_ _=>rfl)) (Gk Jf (pv 0) Gc)) Gc) Gd))) (Gk GB (pv 0) Gc) (λ_ _=>rfl))) Gd)) Gd)))))))),?_⟩
  refine Jt (λσ' H'=>∃wd:Str,σ'=[some (.ref xl),some (.str wd),none]/\Same H H'/\wd∈nine) ?s1 ?f1
  case f1=>
   intro hk;refine ⟨(by show 9<=sizeLine;lia),λp hp=>?_⟩;have s1:Same H (upd H p (.lst (nine.map V.str))):=Same.new hp;obtain ⟨wd,hwd,ewd⟩:=OH nine (j:=ns.getD (0:Int).toNat 0 % 9) (Int.emod_nonneg _ (by decide)) (Int.emod_lt_of_pos _ (by decide));refine ⟨_,rfl,xl,_,_,_,rfl,rfl,SqL.of (s1 _ _ exl),GQ (by lia) (by lia),_,_,rfl,rfl,(by show (0:Int)<9;decide),p,_,_,_,rfl,rfl,SqL.of Gb,ewd,?_⟩;exact hk _ _ ⟨wd,rfl,s1,hwd⟩
  rintro σ' H1 ⟨wd,rfl,s1,hwd⟩;have exl1:=s1 _ _ exl;refine Jt (λσ' H'=>σ'=[some (.ref xl),some (.str wd),none]/\H1=H'/\wd ∉ sBare) ?s2 ?f2
  case f2=>
   intro hk;have bare:wd∈sBare->∀p,H1 p=none->Q (.ref p) (upd H1 p (.tup [.str wd])):=λh p hp=>q _ _ 1 _ (s1.put (s1.free hp)) (.tup Gb (by simp) (.cons (.str wd) .nil)) (UE h) (Nat.le_refl _);refine ⟨_,rfl,rfl,_,rfl,OR (λc1=>?_) (λc1=>?_)⟩
   ·have c1:=V.str.inj (of_decide_eq_true c1);exact GO ⟨_,rfl,(by show 1<=sizeLine;lia),bare (by rw [c1];decide +kernel)⟩
   refine ⟨_,rfl,rfl,_,rfl,OR (λc2=>?_) (λc2=>?_)⟩
   ·have c2:=V.str.inj (of_decide_eq_true c2);exact GO ⟨_,rfl,(by show 1<=sizeLine;lia),bare (by rw [c2];decide +kernel)⟩
   refine ⟨_,rfl,rfl,_,rfl,OR (λc3=>?_) (λc3=>?_)⟩
   ·have c3:=V.str.inj (of_decide_eq_true c3);exact ⟨_,rfl,(by show 1<=sizeLine;lia),bare (by rw [c3];decide +kernel)⟩
   refine hk _ _ ⟨rfl,rfl,λz=>?_⟩;unfold sBare at z;rcases List.mem_cons.mp z with z | z
   ·exact c1 (decide_eq_true (congrArg V.str z))
   rcases List.mem_cons.mp z with z | z
   ·exact c2 (decide_eq_true (congrArg V.str z))
   ·rw [List.mem_singleton] at z;exact c3 (decide_eq_true (congrArg V.str z))
  rintro σ' H' ⟨rfl,rfl,hnb⟩;refine Jt (λσ' H'=>∃g:Int,σ'=[some (.ref xl),some (.str wd),some (.int g)]/\Same H H'/\0<=g/\g<=9999) ?s3 ?f3
  case f3=>
   intro hk;refine ⟨_,rfl,xl,_,_,_,rfl,rfl,SqL.of exl1,GQ (by lia) (by lia),_,_,rfl,rfl,(by show (0:Int)<12;decide),_,rfl,xl,_,_,_,rfl,rfl,SqL.of exl1,GQ (by lia) (by lia),_,_,rfl,rfl,.inr ⟨by decide,by decide⟩,_,_,rfl,rfl,(by show (0:Int)<10000;decide),(by show 4<=sizeLine;lia),λp hp=>?_⟩;have s2:=s1.put (o:=.lst (([ns.getD (1:Int).toNat 0 % 12,ns.getD (1:Int).toNat 0 * 641 % 10000,9999,0]:List Int).map V.int)) (s1.free hp);obtain ⟨g,hg,eg⟩:=UT [ns.getD (1:Int).toNat 0 % 12,ns.getD (1:Int).toNat 0 * 641 % 10000,9999,0] (j:=ns.getD (2:Int).toNat 0 % 4) (Int.emod_nonneg _ (by decide)) (Int.emod_lt_of_pos _ (by decide));refine ⟨_,rfl,xl,_,_,_,rfl,rfl,SqL.of (s2 _ _ exl),GQ (by lia) (by lia),_,_,rfl,rfl,(by show (0:Int)<4;decide),p,_,_,_,rfl,rfl,SqL.of Gb,eg,?_⟩;refine hk _ _ ⟨g,rfl,s2,?_⟩;simp only [List.mem_cons,List.not_mem_nil,or_false] at hg
   lia
  rintro σ' H2 ⟨g,rfl,s2,hg0,hg1⟩;have exl2:=s2 _ _ exl;have pair:wd∈sPair->ZaE (Zbj (Oj (VM 1) (Oj (VM 2) (Oj (tOp (Y6 K) (Zbk (Oj (tOp (rI (λ_ j=>0<j) λi j=>V.int (i % j)) (tOp (Y6 K) (VM 0) (tC (V.int 3))) (tC (V.int 5))) (Oj (tC (V.int 9999)) (Oj (tOp (rI (λ_ j=>0<j) λi j=>V.int (i % j)) (tOp (rI CMul λi j=>V.int (i * j)) (tOp (Y6 K) (VM 0) (tC (V.int 3))) (tC (V.int 157))) (tC (V.int 10000))) Zp)))) (tOp (rI (λ_ j=>0<j) λi j=>V.int (i % j)) (tOp (Y6 K) (VM 0) (tC (V.int 4))) (tC (V.int 3)))) Zp)))) { nx:=λx H'=>Q V.non H',rt:=Q } [some (.ref xl),some (.str wd),some (.int g)] H2:=λh=>by
   refine ⟨_,rfl,_,rfl,_,rfl,xl,_,_,_,rfl,rfl,SqL.of exl2,GQ (by lia) (by lia),_,_,rfl,rfl,(by show (0:Int)<5;decide),_,rfl,xl,_,_,_,rfl,rfl,SqL.of exl2,GQ (by lia) (by lia),_,_,rfl,rfl,.inr ⟨by decide,by decide⟩,_,_,rfl,rfl,(by show (0:Int)<10000;decide),(by show 3<=sizeLine;lia),λp hp=>?_⟩;have s3:=s2.put (o:=.lst (([ns.getD (3:Int).toNat 0 % 5,9999,ns.getD (3:Int).toNat 0 * 157 % 10000]:List Int).map V.int)) (s2.free hp);obtain ⟨g2,hg2,eg2⟩:=UT [ns.getD (3:Int).toNat 0 % 5,9999,ns.getD (3:Int).toNat 0 * 157 % 10000] (j:=ns.getD (4:Int).toNat 0 % 3) (Int.emod_nonneg _ (by decide)) (Int.emod_lt_of_pos _ (by decide));refine ⟨_,rfl,xl,_,_,_,rfl,rfl,SqL.of (s3 _ _ exl),GQ (by lia) (by lia),_,_,rfl,rfl,(by show (0:Int)<3;decide),p,_,_,_,rfl,rfl,SqL.of Gb,eg2,(by show 3<=sizeLine;lia),λp4 hp4=>?_⟩;simp only [List.mem_cons,List.not_mem_nil,or_false] at hg2;exact q _ _ 1 _ (s3.put (s3.free hp4)) (.tup Gb (by simp) (.cons (.str wd) (.cons (.int g) (.cons (.int g2) .nil)))) (Wy h ⟨hg0,hg1⟩ (by lia)) (Nat.le_refl _)
  refine ⟨_,rfl,rfl,_,rfl,OR (λc1=>?_) (λc1=>?_)⟩
  ·have c1:=V.str.inj (of_decide_eq_true c1);exact GO (pair (by rw [c1];decide +kernel))
  refine ⟨_,rfl,rfl,_,rfl,OR (λc2=>?_) (λc2=>?_)⟩
  ·have c2:=V.str.inj (of_decide_eq_true c2);exact pair (by rw [c2];decide +kernel)
  have h4:wd∈sFour:=by
   rcases Wz hwd with h | h | h
   ·exact absurd h hnb
   ·unfold sPair at h;rcases List.mem_cons.mp h with z | z
    ·exact absurd (decide_eq_true (congrArg V.str z)) c1
    ·rw [List.mem_singleton] at z;exact absurd (decide_eq_true (congrArg V.str z)) c2
   ·exact h
  have hr0:0<=ns.getD (5:Int).toNat 0 % 7:=Int.emod_nonneg _ (by decide);have hr1:ns.getD (5:Int).toNat 0 % 7<7:=Int.emod_lt_of_pos _ (by decide);refine ⟨_,rfl,_,rfl,xl,_,_,_,rfl,rfl,SqL.of exl2,GQ (by lia) (by lia),_,_,rfl,rfl,(by show (0:Int)<7;decide),_,rfl,by lia,by lia,λD hD=>?_⟩;refine JH (lo:=0) (n:=(ns.getD (5:Int).toNat 0 % 7).toNat) (λj ys H'=>Same H2 H'/\H' D=some (.lst ys)/\∃ms:List Int,ys=ms.map V.int/\ms.length=j/\∀m∈ms,0<=m/\m<=9999) ⟨Same.new hD,Gb,[],rfl,rfl,λm hm=>(by cases hm)⟩ ?_ ?_
  ·rintro j ys H3 hj ⟨s3,eD,ms,rfl,hms,hb⟩;rw [Int.zero_add];have exl3:=s3 _ _ exl2;have hj7:j<7:=by lia
   have hj4:0<=(j:Int) % 4:=Int.emod_nonneg _ (by decide);have hj5:(j:Int) % 4<4:=Int.emod_lt_of_pos _ (by decide);refine ⟨⟨rfl,rfl,trivial⟩,?_⟩;unfold XQ;refine GO ?_;have hz0:0<=ns.getD (1+(j:Int) % 4).toNat 0 * ((j:Int)+1) % 10000:=Int.emod_nonneg _ (by decide);have hz1:ns.getD (1+(j:Int) % 4).toNat 0 * ((j:Int)+1) % 10000<10000:=Int.emod_lt_of_pos _ (by decide);refine ⟨_,rfl,_,rfl,_,rfl,_,_,rfl,rfl,(by show (0:Int)<4;decide),_,_,rfl,rfl,xl,_,_,_,rfl,rfl,SqL.of exl3,GQ (by lia) (by lia),_,rfl,_,_,rfl,rfl,_,_,rfl,rfl,.inr ⟨by lia,by lia⟩,_,_,rfl,rfl,(by show (0:Int)<10000;decide),JP,λp hp=>?_⟩;obtain ⟨z,hz,ez⟩:=UT [g,ns.getD (1+(j:Int) % 4).toNat 0 * ((j:Int)+1) % 10000] (j:=(j:Int) % 2) (Int.emod_nonneg _ (by decide)) (Int.emod_lt_of_pos _ (by decide));have s4:Same H3 (upd H3 p (.lst (([g,ns.getD (1+(j:Int) % 4).toNat 0 * ((j:Int)+1) % 10000]:List Int).map V.int))):=Same.new hp;refine ⟨_,rfl,_,_,rfl,rfl,(by show (0:Int)<2;decide),p,_,_,_,rfl,rfl,SqL.of Gb,ez,s4 _ _ eD,by rw [List.length_map];lia,(s3.trans s4).put hD,Gb,ms++[z],by rw [List.map_append];rfl,by rw [List.length_append,List.length_singleton,hms],λm hm=>?_⟩;rcases List.mem_append.mp hm with y | y
   ·exact hb m y
   ·rw [List.mem_singleton] at y;rw [y];rcases List.mem_cons.mp hz with y | y
    ·rw [y];exact ⟨hg0,hg1⟩
    ·rw [List.mem_singleton] at y;rw [y];exact ⟨hz0,by lia⟩
  ·rintro ys H3 ⟨s3,eD,ms,rfl,hms,hb⟩;refine ⟨D,_,rfl,.inl ⟨SqL.of eD,λt ht=>?_⟩⟩;have s4:Same H3 (upd H3 t (.tup (ms.map V.int))):=Same.new ht;have e4:upd H3 t (.tup (ms.map V.int)) t=some (.tup (ms.map V.int)):=Gb;generalize upd H3 t (.tup (ms.map V.int))=H4 at s4 e4 ⊢;refine ⟨JP,λp5 hp5=>?_⟩;have s5:=Same.new (o:=.tup [.str wd,.ref t]) hp5;exact q _ _ 1 _ (((s2.trans s3).trans s4).trans s5) (.tup Gb (by simp) (.cons (.str wd) (.cons (.tup (s5 _ _ e4) (by rw [List.length_map];lia) (JK _ ms)) .nil))) (OI h4 (Oc hb)) (Nat.le_refl _)
end
end M
namespace M
open PySem L2
section
variable {P:Program}{w:World}{K:W.Frag}{mg:Str->Option Value}{base:Heap}
structure Wl (H:Hp)(vs:List V)(ds:List PyData)(b:Nat):Prop where
 t:Ths H vs ds
 w:∀d∈ds,∃m,Ws d m/\m<=b
theorem Wl.same {H H':Hp}{vs:List V}{ds:List PyData}{b:Nat}(h:Wl H vs ds b)(s:Same H H'):Wl H' vs ds b:=⟨h.t.same s,h.w⟩
def ZW:Sp:=λvs H Q _=>∃(pa xl:Addr)(us:List V)(ds:List PyData)(ns:List Int),vs=[.ref pa,.ref xl]/\H pa=some (.lst us)/\Wl H us ds 1/\1<=ds.length/\ds.length<=3/\H xl=some (.lst (ns.map V.int))/\ns.length=4/\YS H Q 3
theorem scJoi:Gs ["parts", "xs", "k", "at", "word"] ["parts", "xs"] (Ge YN):=⟨rfl,rfl,rfl,by decide +kernel,rfl,by decide +kernel,by decide +kernel⟩
theorem ZX {f:Addr}{fd:FuncData}(F:Fun K "_law_joined" "_law_joined" YN f fd)(mRange:mg "range" = none)(mLen:mg "len" = none)(mLst:mg "list" = none):FnOk P w K mg base CX0 1 f fd ["parts", "xs"] ZW:=by
 refine F.ok scJoi (λvs H Q E h=>?_) (λcdv A outer s H vs Q E hr h=>?_)
 ·obtain ⟨_,_,_,_,_,rfl,_⟩:=h
  rfl
 ·obtain ⟨pa,xl,us,ds,ns,rfl,epa,W,h1,h4,exl,hn,q⟩:=h;have h16:(16777216:Nat)=sizeLine:=sizeLine_eq.symm;have n3:3<=sizeLine:=by lia
  have hul:=W.t.len;refine ⟨_,Gf (Gv (i:=0) scJoi.nd rfl (Or.inl rfl) (Jn (Yj K) rfl mLst J2 (Ga (pv 0) Gd)))
    (Gf (Og PassesOwn.never rfl (G5 rfl mRange (Ga (Gk XI (Gi (VA K) rfl mLen PySem.boot_len (Ga (pv 0) Gd)) Gc) Gd)) (GF (i:=2) scJoi.nd rfl (Or.inl rfl))
    (Gf (Gv (i:=3) scJoi.nd rfl (Or.inl rfl) (Gk GB (Gn (Jk K) (pv 1) (Gk Jx Gc (pv 2)) (λ_ _=>rfl)) (Gk XI (Gi (VA K) rfl mLen PySem.boot_len (Ga (pv 0) Gd)) Gc)))
    (Gf (Gv (i:=4) scJoi.nd rfl (Or.inl rfl) (Gn (Jk K) (GY (Ga Gm (Ga Gm (Ga Gm Gd)))) (Gk GB (Gn (Jk K) (pv 1) (Gk Jf (Gk Jx Gc (pv 2)) Gc) (λ_ _=>rfl)) Gc) (λ_ _=>rfl)))
    (Gg (Gv (i:=0) scJoi.nd rfl (Or.inl rfl) (Gk Vb (Gk Vb (GT (kSl K) (pv 0) Ji (GX (pv 3))) (GY (Ga (G6 (Ga (pv 4) (Ga (Gn (Jk K) (pv 0) (pv 3) (λ_ _=>rfl)) (Ga (Gn (Jk K) (pv 0) (Gk Jf (pv 3) Gc) (λ_ _=>rfl)) Gd)))) Gd))) (GT (kSl K) (pv 0) (GX (Gk Jf (pv 3) Gc)) Ji)))))))
    (Gg (Gp (Gn (Jk K) (pv 0) Gc (λ_ _=>rfl))))),?_⟩
  refine ⟨_,rfl,pa,us,rfl,.inl (SqL.of epa),λpb hpb=>?_⟩;have s1:Same H (upd H pb (.lst us)):=Same.new hpb;have epb:upd H pb (.lst us) pb=some (.lst us):=Gb;generalize upd H pb (.lst us)=H1 at s1 epb ⊢;refine ⟨_,rfl,pb,us,rfl,.inl (SqL.of epb),_,_,rfl,rfl,_,rfl,by lia,by lia,?_⟩;refine JA (lo:=0) (n:=((us.length:Int)-1).toNat) (λi σ' H'=>∃(pc:Addr)(vs:List V)(es:List PyData)(v2 v3 v4:Option V),σ'=[some (.ref pc),some (.ref xl),v2,v3,v4]/\Same H H'/\H' pc=some (.lst vs)/\Wl H' vs es (i+1)/\es.length+i=ds.length) ⟨pb,us,ds,none,none,none,rfl,s1,epb,W.same s1,rfl⟩ ?_ ?_
  ·rintro i σ' H2 hi ⟨pc,vs,es,v2,v3,v4,rfl,s2,epc,W2,hes⟩;rw [Int.zero_add];have hvl:=W2.t.len;have exl2:=s2 _ _ exl;have hi4:i<4:=by lia
   have hpos:(0:Int)<(vs.length:Int)-1:=by lia
   dsimp only [Jz];refine Jt (λσ' H'=>∃aN:Nat,σ'=[some (.ref pc),some (.ref xl),some (.int (i:Int)),some (.int (aN:Int)),v4]/\H2=H'/\aN+1<es.length) ?s1 ?f1
   case f1=>
    intro hk;refine ⟨_,rfl,_,rfl,_,_,rfl,rfl,.inl ⟨by decide,by decide⟩,xl,_,_,_,rfl,rfl,SqL.of exl2,GQ (by lia) (by lia),_,rfl,pc,_,rfl,.inl (SqL.of epc),_,_,rfl,rfl,_,_,rfl,rfl,hpos,?_⟩;obtain ⟨aN,haN⟩:=Int.eq_ofNat_of_zero_le (Int.emod_nonneg (ns.getD (2 * (i:Int)).toNat 0) (Int.ne_of_gt hpos));have hlt:=Int.emod_lt_of_pos (ns.getD (2 * (i:Int)).toNat 0) hpos;rw [haN] at hlt;exact hk _ _ ⟨aN,by rw [<-haN];rfl,rfl,by lia⟩
   rintro σ' H' ⟨aN,rfl,rfl,haN⟩;refine Jt (λσ' H'=>∃wd:Str,σ'=[some (.ref pc),some (.ref xl),some (.int (i:Int)),some (.int (aN:Int)),some (.str wd)]/\Same H2 H'/\wd∈sJoin) ?s2 ?f2
   case f2=>
    intro hk;refine ⟨n3,λp hp=>?_⟩;have s3:Same H2 (upd H2 p (.lst (sJoin.map V.str))):=Same.new hp;obtain ⟨wd,hwd,ewd⟩:=OH sJoin (j:=ns.getD (2 * (i:Int)+1).toNat 0 % 3) (Int.emod_nonneg _ (by decide)) (Int.emod_lt_of_pos _ (by decide));refine ⟨_,rfl,_,rfl,_,_,rfl,rfl,.inl ⟨by decide,by decide⟩,_,_,rfl,rfl,xl,_,_,_,rfl,rfl,SqL.of (s3 _ _ exl2),GQ (by lia) (by lia),_,_,rfl,rfl,(by show (0:Int)<3;decide),p,_,_,_,rfl,rfl,SqL.of Gb,ewd,?_⟩;exact hk _ _ ⟨wd,rfl,s3,hwd⟩
   rintro σ' H3 ⟨wd,rfl,s3,hwd⟩;have W3:=W2.same s3;have epc3:=s3 _ _ epc;obtain ⟨va,ga,ta⟩:=W3.t.at (List.getElem?_eq_getElem (show aN<es.length by lia));obtain ⟨vb,gb,tb⟩:=W3.t.at (List.getElem?_eq_getElem (show aN+1<es.length by lia));have ma:=W3.w es[aN] (List.getElem_mem _);have mb:=W3.w es[aN+1] (List.getElem_mem _);generalize es[aN]=da at ta ma;generalize es[aN+1]=db at tb mb;obtain ⟨m1,w1,l1⟩:=ma;obtain ⟨m2,w2,l2⟩:=mb;have htk:(vs.take aN).length<=4:=by rw [List.length_take];lia
   have hdr:(vs.drop (aN+2)).length<=4:=by rw [List.length_drop];lia
   refine ⟨_,rfl,_,rfl,_,rfl,pc,_,rfl,SqL.of epc3,λc1 hc1=>?_⟩;rw [show JN vs none (some (aN:Int))=vs.take aN from XR];have t1:Same H3 (upd H3 c1 (.lst (vs.take aN))):=Same.new hc1;have e1:upd H3 c1 (.lst (vs.take aN)) c1=some (.lst (vs.take aN)):=Gb;generalize upd H3 c1 (.lst (vs.take aN))=H4 at t1 e1 ⊢;refine ⟨_,rfl,_,rfl,_,rfl,pc,_,_,_,rfl,rfl,SqL.of (t1 _ _ epc3),Gh ga,_,rfl,_,rfl,_,_,rfl,rfl,pc,_,_,_,rfl,rfl,SqL.of (t1 _ _ epc3),Gh (j:=aN+1) gb,n3,λt ht=>?_⟩;have t2:Same H4 (upd H4 t (.tup [.str wd,va,vb])):=Same.new ht;have e2:upd H4 t (.tup [.str wd,va,vb]) t=some (.tup [.str wd,va,vb]):=Gb;generalize upd H4 t (.tup [.str wd,va,vb])=H5 at t2 e2 ⊢;refine ⟨(by show 1<=sizeLine;lia),λc2 hc2=>?_⟩;have t3:Same H5 (upd H5 c2 (.lst [.ref t])):=Same.new hc2;have e3:upd H5 c2 (.lst [.ref t]) c2=some (.lst [.ref t]):=Gb;generalize upd H5 c2 (.lst [.ref t])=H6 at t3 e3 ⊢;refine ⟨c1,c2,_,_,rfl,rfl,t3 _ _ (t2 _ _ e1),e3,by rw [List.length_singleton];lia,λc3 hc3=>?_⟩;have t4:Same H6 (upd H6 c3 (.lst (vs.take aN++[.ref t]))):=Same.new hc3;have e4:upd H6 c3 (.lst (vs.take aN++[.ref t])) c3=some (.lst (vs.take aN++[.ref t])):=Gb;generalize upd H6 c3 (.lst (vs.take aN++[.ref t]))=H7 at t4 e4 ⊢;have T4:=(t1.trans t2).trans (t3.trans t4);refine ⟨_,rfl,_,rfl,_,_,rfl,rfl,_,rfl,pc,_,rfl,SqL.of (T4 _ _ epc3),λc4 hc4=>?_⟩;rw [show JN vs (some ((aN:Int)+2)) none=vs.drop (aN+2) from JI (k:=aN+2)];have t5:Same H7 (upd H7 c4 (.lst (vs.drop (aN+2)))):=Same.new hc4;have e5:upd H7 c4 (.lst (vs.drop (aN+2))) c4=some (.lst (vs.drop (aN+2))):=Gb;generalize upd H7 c4 (.lst (vs.drop (aN+2)))=H8 at t5 e5 ⊢;refine ⟨c3,c4,_,_,rfl,rfl,t5 _ _ e4,e5,by rw [List.length_append,List.length_singleton];lia,λc5 hc5=>?_⟩;have t6:=Same.new (o:=.lst (vs.take aN++[.ref t]++vs.drop (aN+2))) hc5;have T6:=(T4.trans t5).trans t6;have tt:Th _ (.ref t) (.tuple [.str wd,da,db]):=.tup ((((t3.trans t4).trans t5).trans t6) _ _ e2) (by simp) (.cons (.str wd) (.cons (ta.same T6) (.cons (tb.same T6) .nil)));refine ⟨c5,_,es.take aN++[.tuple [.str wd,da,db]]++es.drop (aN+2),_,_,_,rfl,(s2.trans s3).trans T6,Gb,⟨(((W3.t.same T6).take aN).app (.cons tt .nil)).app ((W3.t.same T6).drop (aN+2)),λd hd=>?_⟩,?_⟩
   ·rcases List.mem_append.mp hd with z | z
    ·rcases List.mem_append.mp z with z | z
     ·obtain ⟨m,a,b⟩:=W3.w d (List.mem_of_mem_take z);exact ⟨m,a,by lia⟩
     ·rw [List.mem_singleton] at z;subst z;exact ⟨_,.join hwd w1 w2,by lia⟩
    ·obtain ⟨m,a,b⟩:=W3.w d (List.mem_of_mem_drop z);exact ⟨m,a,by lia⟩
   ·rw [List.length_append,List.length_append,List.length_take,List.length_drop,List.length_singleton]
    lia
  ·rintro σ' H2 ⟨pc,vs,es,v2,v3,v4,rfl,s2,epc,W2,hes⟩;have hvl:=W2.t.len;have he1:0<es.length:=by lia
   obtain ⟨va,ga,ta⟩:=W2.t.at (List.getElem?_eq_getElem he1);obtain ⟨m,wm,lm⟩:=W2.w es[0] (List.getElem_mem _);refine ⟨_,rfl,pc,_,_,_,rfl,rfl,SqL.of epc,Gh (j:=0) ga,?_⟩;exact q _ _ m _ s2 ta wm (by lia)
end
end M
namespace M
open PySem L2
inductive Pr:PyData->List PyData->Prop
 | leaf {w:Str} {rest:List PyData}:G1 w rest=true->Pr (.tuple (.str w::rest)) [.tuple (.str w::rest)]
 | join {w:Str} {a b:PyData} {ps qs:List PyData}:w∈sJoin->Pr a ps->Pr b qs->Pr (.tuple [.str w,a,b]) (.tuple [.str w,a,b]::(qs++ps))
theorem Ws.pr {d:PyData}{m:Nat}(h:Ws d m):∃ps,Pr d ps/\ps.length<2 ^ m:=by
 induction h with
 | leaf h=>exact ⟨_,.leaf h,by rw [List.length_singleton];decide⟩
 | @join w a b m n hw _ _ iha ihb=>
  obtain ⟨ps,p1,p2⟩:=iha;obtain ⟨qs,q1,q2⟩:=ihb;refine ⟨_,.join hw p1 q1,?_⟩;have h1:2 ^ m<=2 ^ max m n:=Nat.pow_le_pow_right (by decide) (Nat.le_max_left ..);have h2:2 ^ n<=2 ^ max m n:=Nat.pow_le_pow_right (by decide) (Nat.le_max_right ..);rw [List.length_cons,List.length_append,Nat.pow_succ]
  lia
theorem Xs {H:Hp}{us:List V}{ds:List PyData}{d:PyData}(h:Ths H us (ds++[d])):∃us' x,us=us'++[x]/\Ths H us' ds/\Th H x d:=by
 induction ds generalizing us with
 | nil=>
  cases h with
  | cons t r=>cases r;exact ⟨[],_,rfl,.nil,t⟩
 | cons e ds ih=>
  cases h with
  | cons t r=>
   obtain ⟨us',x,rfl,h1,h2⟩:=ih r;exact ⟨_::us',x,rfl,.cons t h1,h2⟩
theorem Pr.one_le {d:PyData}{ps:List PyData}(h:Pr d ps):1<=ps.length:=by
 cases h with
 | leaf _=>simp
 | join _ _ _=>simp
section
variable {P:Program}{w:World}{K:W.Frag}{mg:Str->Option Value}{base:Heap}
def ZY:Sp:=λvs H Q _=>∃(v:V)(d:PyData)(ps:List PyData),vs=[v]/\Th H v d/\Pr d ps/\ps.length<=100000/\∀(l:Addr)(us:List V)(H':Hp),Same H H'->H l=none->H' l=some (.lst us)->Ths H us ps->Q (.ref l) H'
theorem scPar:Gs ["wish", "found", "pending", "part"] ["wish"] (Ge YB):=⟨rfl,rfl,rfl,by decide +kernel,rfl,by decide +kernel,by decide +kernel⟩
theorem ZZ {f aJ aB aP aR aL:Addr}{fd:FuncData}(F:Fun K "parts_of" "parts_of" YB f fd)(T:Wds K aJ aB aP aR aL)(mJoi:mg "JOINING" = some (.ref aJ)):FnOk P w K mg base CX0 1 f fd ["wish"] ZY:=by
 refine F.ok scPar (λvs H Q E h=>?_) (λcdv A outer s H vs Q E hr h=>?_)
 ·obtain ⟨_,_,_,rfl,_⟩:=h
  rfl
 ·obtain ⟨v0,d0,ps,rfl,h0,pr0,hpl,q⟩:=h;have h16:(16777216:Nat)=sizeLine:=sizeLine_eq.symm;refine ⟨_,(@Gf _ _ _ _ _ (@Gv _ _ 1 _ _ _ _ scPar.nd rfl (Or.inl rfl) (@GY _ _ _ _ Gd) rfl (by first | exact .inl rfl | exact .inr rfl))
    (@Gf _ _ _ _ _ (@Gv _ _ 2 _ _ _ _ scPar.nd rfl (Or.inl rfl) (@GY _ _ _ _ (@Ga _ _ _ _ _ (pv 0) Gd rfl)) rfl (by first | exact .inl rfl | exact .inr rfl))
    (@Gf _ _ _ _ _ (U3 PassesOwn.never (JZ (pv 2) (λ_=>rfl))
    (@Gf _ _ _ _ _ (@Gv _ _ 3 _ _ _ _ scPar.nd rfl (Or.inl rfl) (U8 PySem.F.plainAttrs_list PySem.F.slot_list_pop PySem.F.type_list_pop Va (pv 2)) rfl (by first | exact .inl rfl | exact .inr rfl))
    (@Gf _ _ _ _ _ (Jd (J1 PySem.F.plainAttrs_list PySem.F.slot_list_append PySem.F.type_list_append GR (pv 1) (@Ga _ _ _ _ _ (pv 3) Gd rfl)))
    (@Gg _ _ _ (@G3 _ _ _ _ _ _ _ _ (Gj (kIn K) (@Gn _ _ _ _ _ _ _ (Om K) (pv 3) Gc (λ_ _=>rfl)) (Jb mJoi) (by with_unfolding_all rfl)) (@Gg _ _ _ (Jd (J1 PySem.F.plainAttrs_list PySem.F.slot_list_extend PySem.F.type_list_extend VC (pv 2) (@Ga _ _ _ _ _ (GT (Y7 K) (pv 3) (GX Gc) Ji) Gd rfl)))) Gy)))))
    (@Gg _ _ _ (@Gp _ _ _ _ (pv 1)))))),?_⟩
  refine ⟨Nat.zero_le _,λfl hfl=>?_⟩;have s1:Same H (upd H fl (.lst [])):=Same.new hfl;have ef0:upd H fl (.lst []) fl=some (.lst []):=Gb;generalize upd H fl (.lst [])=H1 at s1 ef0 ⊢;refine ⟨_,rfl,(by show 1<=sizeLine;lia),λpl hpl1=>?_⟩;have s2:Same H1 (upd H1 pl (.lst [v0])):=Same.new hpl1;have ep0:upd H1 pl (.lst [v0]) pl=some (.lst [v0]):=Gb;have hHpl:H pl=none:=s1.free hpl1;have nfp:fl≠pl:=GG ef0 hpl1;have ef1:=s2 _ _ ef0;generalize upd H1 pl (.lst [v0])=H2 at s2 ep0 ef1 ⊢;dsimp only [Jz];refine ⟨λm σ' H'=>∃(fs us:List V)(Fd:List PyData)(pend:List (PyData×List PyData))(v3:Option V),σ'=[some v0,some (.ref fl),some (.ref pl),v3]/\Same H H'/\H' fl=some (.lst fs)/\H' pl=some (.lst us)/\Ths H fs Fd/\Ths H us (pend.map (·.1))/\(∀p∈pend,Pr p.1 p.2)/\ps=Fd++pend.reverse.flatMap (·.2)/\m=(pend.map λp=>p.2.length).sum,
   ⟨_,[],[v0],[],[(d0,ps)],none,rfl,s1.trans s2,ef1,ep0,.nil,.cons h0 .nil,λp hp=>by rw [List.mem_singleton.mp hp];exact pr0,by simp,rfl⟩,?_⟩
  clear s1 s2 ef0 ef1 ep0 hpl1;rintro m σ' H3 ⟨fs,us,Fd,pend,v3,rfl,s3,ef,ep,tf,tu,hpr,eps,rfl⟩;rcases List.eq_nil_or_concat pend with rfl | ⟨pend,⟨d,qs⟩,rfl⟩
  ·cases tu;refine ⟨_,rfl,false,.inl ⟨_,SqL.of ep,rfl⟩,G4 ?_⟩;have eps:ps=Fd:=by simpa using eps
   rw [<-eps] at tf;exact ⟨_,rfl,q fl fs H3 s3 hfl ef tf⟩
  ·rw [List.concat_eq_append] at tu hpr eps ⊢;rw [List.map_append] at tu;obtain ⟨us,x,rfl,tu',tx⟩:=Xs tu;have hd:=hpr (d,qs) (by simp);have hsum:((pend++[(d,qs)]).map λp=>p.2.length).sum=(pend.map λp=>p.2.length).sum+qs.length:=by simp
   rw [hsum];have eps2:ps=Fd++(qs++pend.reverse.flatMap (·.2)):=by rw [eps];simp
   have hul:=tu'.len;have qJ:Fd.length+(qs.length+(pend.reverse.flatMap (·.2)).length)=ps.length:=by rw [eps2];simp
   have hq1:1<=qs.length:=Pr.one_le hd;have hpend:pend.length<=(pend.reverse.flatMap (·.2)).length:=by
    have:∀l:List (PyData×List PyData),(∀p∈l,Pr p.1 p.2)->l.length<=(l.flatMap (·.2)).length:=by
     intro l
     induction l with
     | nil=>simp
     | cons p l ih=>
      intro h;have h1:1<=p.2.length:=(h p (List.mem_cons_self ..)).one_le;have:=ih λz hz=>h z (List.mem_cons_of_mem _ hz);rw [List.flatMap_cons,List.length_append,List.length_cons]
      lia
    have:=this pend.reverse λp hp=>hpr p (List.mem_append_left _ (List.mem_reverse.mp hp));simpa using this
   rw [List.length_map] at hul;have hfl':=tf.len;refine ⟨_,rfl,true,.inl ⟨_,SqL.of ep,by cases us <;> rfl⟩,GO ?_⟩;refine ⟨_,λ_ _ h=>h,?_⟩;have hlast:(us++[x])[(us++[x]).length-1]?=some x:=by simp
   refine ⟨_,rfl,.inl ⟨rfl,_,SqL.of ep⟩,pl,_,_,rfl,rfl,ep,hlast,?_⟩;rw [List.dropLast_concat];have s4:Same H (upd H3 pl (.lst us)):=s3.put hHpl;have ep4:upd H3 pl (.lst us) pl=some (.lst us):=Gb;have ef4:upd H3 pl (.lst us) fl=some (.lst fs):=Ux ef nfp;generalize upd H3 pl (.lst us)=H4 at s4 ep4 ef4 ⊢;dsimp only [Jz];refine ⟨_,rfl,.inl ⟨rfl,_,SqL.of ef4⟩,_,rfl,fl,_,_,rfl,rfl,ef4,by lia,?_⟩;have s5:Same H (upd H4 fl (.lst (fs++[x]))):=s4.put hfl;have ef5:upd H4 fl (.lst (fs++[x])) fl=some (.lst (fs++[x])):=Gb;have ep5:upd H4 fl (.lst (fs++[x])) pl=some (.lst us):=Ux ep4 (Ne.symm nfp);generalize upd H4 fl (.lst (fs++[x]))=H5 at s5 ef5 ep5 ⊢;dsimp only [Zg];cases hd with
   | @leaf wd rest hw=>
    cases tx with
    | @tup a xs1 _ e z hh=>
     cases hh with
     | @cons x1 _ vs1 _ tx1 hr1=>
      cases tx1;have e5:=s5 _ _ e;refine ⟨_,rfl,a,_,_,_,rfl,rfl,SqT.of e5,Gh (j:=0) rfl,aJ,_,rfl,.inr (T.j _),rfl,rfl,_,rfl,?_⟩;show if (inV (.str wd) (sJoin.map V.str))=true then _ else _
      rw [GL,decide_eq_false (GP hw)];refine G4 ?_;refine ⟨(pend.map λp=>p.2.length).sum,by simp,fs++[.ref a],us,Fd++[.tuple (.str wd::rest)],pend,_,rfl,s5,ef5,ep5,tf.app (.cons (.tup e z (.cons (.str _) hr1)) .nil),tu',λp hp=>hpr p (List.mem_append_left _ hp),by rw [eps2];simp,rfl⟩
   | @join wd da db pa pb hw ha hb=>
    cases tx with
    | @tup a xs1 _ e z hh=>
     cases hh with
     | @cons x1 _ vs1 _ tx1 hr1=>
      cases tx1;cases hr1 with
      | @cons va _ vs2 _ ta hr2=>
       cases hr2 with
       | @cons vb _ vs3 _ tb hr3=>
        cases hr3;have e5:=s5 _ _ e;refine ⟨_,rfl,a,_,_,_,rfl,rfl,SqT.of e5,Gh (j:=0) rfl,aJ,_,rfl,.inr (T.j _),rfl,rfl,_,rfl,?_⟩;show if (inV (.str wd) (sJoin.map V.str))=true then _ else _
        rw [GL,decide_eq_true hw];refine GO ?_;refine ⟨_,rfl,.inl ⟨rfl,_,SqL.of ep5⟩,_,rfl,_,rfl,a,_,rfl,SqT.of e5,(by show ¬ (HT.sIx 3 0 (some 1)=0/\HT.sIx 3 3 none=3);decide),λt ht=>?_⟩;rw [show JN [V.str wd,va,vb] (some 1) none=[va,vb] from rfl];have s6:Same H5 (upd H5 t (.tup [va,vb])):=Same.new ht;have et:upd H5 t (.tup [va,vb]) t=some (.tup [va,vb]):=Gb;have ep6:=s6 _ _ ep5;have ef6:=s6 _ _ ef5;refine ⟨pl,t,_,[va,vb],rfl,rfl,ep6,et,by show us.length+2<=sizeLine;lia,?_⟩;generalize upd H5 t (.tup [va,vb])=H6 at s6 et ep6 ef6 ⊢;refine ⟨(pend.map λp=>p.2.length).sum+(pa.length+pb.length),by simp;lia,fs++[.ref a],us++[va,vb],Fd++[.tuple [.str wd,da,db]],pend++[(da,pa),(db,pb)],_,rfl,(s5.trans s6).put hHpl,Ux ef6 nfp,Gb,tf.app (.cons (.tup e z (.cons (.str _) (.cons ta (.cons tb .nil)))) .nil),?_,?_,?_,by simp⟩
        ·rw [List.map_append];exact tu'.app (.cons ta (.cons tb .nil))
        ·intro p hp;rcases List.mem_append.mp hp with h | h
         ·exact hpr p (List.mem_append_left _ h)
         ·rcases List.mem_cons.mp h with h | h
          ·rw [h];exact ha
          ·rw [List.mem_singleton.mp h];exact hb
        ·rw [eps2];simp
end
end M
namespace M
open PySem L2
theorem JU {a b:Str}(h:a.cps.toList=b.cps.toList):a=b:=by
 cases a;cases b
 congr 1
 exact Array.ext' h
theorem G2 (a b:Str):(a++b).cps.toList=a.cps.toList++b.cps.toList:=by rw [PySem.Str.cps_append,Array.toList_append]
theorem JV (x:Str):x.cps.toList.length=x.length:=Array.length_toList
def Xt:PyData->List Nat
 | .int i=>(num i).cps.toList
 | _=>[]
def J6 (w:Str)(rest:List PyData):List PyData:=if w∈sFour then (match rest with | [.tuple ds]=>ds | _=>[]) else rest
def J7 (w:Str)(rest:List PyData):List Nat:=w.cps.toList++(J6 w rest).flatMap λd=>32::Xt d
def Jm (w:Str)(s t:List Nat):List Nat:=40::(s++32::(w.cps.toList++32::(t++[41])))
inductive Tx:PyData->List Nat->Prop
 | leaf {w:Str} {rest:List PyData}:G1 w rest=true->Tx (.tuple (.str w::rest)) (J7 w rest)
 | join {w:Str} {a b:PyData} {s t:List Nat}:w∈sJoin->Tx a s->Tx b t->Tx (.tuple [.str w,a,b]) (Jm w s t)
inductive Ev:List PyData->List (List Nat)->List (List Nat)->Prop
 | nil {S:List (List Nat)}:Ev [] S S
 | leaf {w:Str} {rest:List PyData} {ds:List PyData} {S R:List (List Nat)}:G1 w rest=true->Ev ds (S++[J7 w rest]) R->Ev (.tuple (.str w::rest)::ds) S R
 | join {w:Str} {a b:PyData} {s t:List Nat} {ds:List PyData} {S R:List (List Nat)}:w∈sJoin->Ev ds (S++[Jm w s t]) R->Ev (.tuple [.str w,a,b]::ds) (S++[s,t]) R
theorem Za0 {d:PyData}{ps:List PyData}(h:Pr d ps):∀{s:List Nat}{ds:List PyData}{S R:List (List Nat)},Tx d s->Ev ds (S++[s]) R->Ev (ps.reverse++ds) S R:=by
 induction h with
 | leaf hl=>
  intro s ds S R tx ev;cases tx with
  | leaf _=>exact .leaf hl ev
  | join hw _ _=>exact absurd hw (GP hl)
 | join hw _ _ iha ihb=>
  intro s ds S R tx ev;cases tx with
  | leaf hl=>exact absurd hw (GP hl)
  | join _ ta tb=>
   rw [List.reverse_cons,List.reverse_append,List.append_assoc,List.append_assoc];refine iha ta (ihb tb ?_);rw [List.append_assoc];exact .join hw ev
def Xu (S:List (List Nat)):Nat:=(S.map List.length).sum
theorem Z0 {ds:List PyData}{S R:List (List Nat)}(h:Ev ds S R):Xu S<=Xu R:=by
 induction h with
 | nil=>exact Nat.le_refl _
 | leaf _ _ ih=>unfold Xu at ih ⊢;simp at ih;lia
 | join _ _ ih=>unfold Xu at ih ⊢;simp [Jm] at ih ⊢;lia
theorem Xv (S:List (List Nat))(s:List Nat):Xu (S++[s])=Xu S+s.length:=by simp [Xu]
theorem WA:∀(k m:Nat),m<10 ^ (k+1)->(Nat.toDigits 10 m).length<=k+1
 | 0,m,h=>by
  rw [Nat.toDigits_of_lt_base (by simpa using h)];simp
 | k+1,m,h=>by
  rw [Nat.toDigits_eq_if (by decide)];split
  ·simp
  ·have:=WA k (m / 10) (by rw [Nat.pow_succ] at h;lia);rw [List.length_append,List.length_singleton]
   lia
theorem YT:∀(k m:Nat),m<10 ^ (k+1)->∀c∈(Nat.toDigits 10 m).map Char.toNat,48<=c/\c<=57:=by
 have one:∀d:Fin 10,48<=(Nat.digitChar d.val).toNat/\(Nat.digitChar d.val).toNat<=57:=by decide +kernel
 intro k
 induction k with
 | zero=>
  intro m h c hc;rw [Nat.toDigits_of_lt_base (by simpa using h)] at hc;rw [List.map_singleton,List.mem_singleton] at hc;rw [hc];exact one ⟨m,by simpa using h⟩
 | succ k ih=>
  intro m h c hc;rw [Nat.toDigits_eq_if (by decide)] at hc;split at hc
  ·rename_i hm;rw [List.map_singleton,List.mem_singleton] at hc;rw [hc];exact one ⟨m,hm⟩
  ·rw [List.map_append,List.mem_append] at hc;rcases hc with hc | hc
   ·exact ih (m / 10) (by rw [Nat.pow_succ] at h;lia) c hc
   ·rw [List.map_singleton,List.mem_singleton] at hc;rw [hc];exact one ⟨m % 10,Nat.mod_lt _ (by decide)⟩
theorem OX {i:Int}(h0:0<=i)(h1:i<=9999):(num i).cps.toList.length<=4/\∀c∈(num i).cps.toList,48<=c/\c<=57:=by
 obtain ⟨n,rfl⟩:∃n:Nat,i=n:=⟨i.toNat,by lia⟩;rw [W.KIN.signs_num];have hn:n<10 ^ (3+1):=by lia
 exact ⟨by rw [List.length_map];exact WA 3 n hn,YT 3 n hn⟩
theorem OJ {w:Str}{rest:List PyData}(h:G1 w rest=true):∃ns:List Int,J6 w rest=ns.map .int/\(∀i∈ns,0<=i/\i<=9999)/\((w∈sFour/\rest=[.tuple (ns.map .int)])\/(w ∉ sFour/\rest=ns.map .int)):=by
 have sm:∀{d:PyData},JS d=true->∃i,d=.int i/\0<=i/\i<=9999:=by
  intro d hd;cases d with
  | int i=>
   have:(decide (0<=i) && decide (i<=9999))=true:=hd;rw [Bool.and_eq_true,decide_eq_true_eq,decide_eq_true_eq] at this;exact ⟨i,rfl,this⟩
  | _=>cases hd
 have all:∀ds:List PyData,ds.all JS=true->∃ns:List Int,ds=ns.map .int/\∀i∈ns,0<=i/\i<=9999:=by
  intro ds
  induction ds with
  | nil=>exact λ_=>⟨[],rfl,λi hi=>by cases hi⟩
  | cons d ds ih=>
   intro h;rw [List.all_cons,Bool.and_eq_true] at h;obtain ⟨ns,e,hn⟩:=ih h.2;obtain ⟨i,rfl,hi⟩:=sm h.1;exact ⟨i::ns,by rw [e];rfl,λj hj=>(List.mem_cons.mp hj).elim (λz=>z▸hi) (hn j)⟩
 unfold G1 at h;by_cases hb:w∈sBare
 ·rw [if_pos hb] at h;have h4:w ∉ sFour:=by
   unfold sBare at hb;simp at hb;rcases hb with rfl | rfl | rfl <;> decide +kernel
  have e:rest=[]:=List.isEmpty_iff.mp h;exact ⟨[],by unfold J6;rw [if_neg h4,e];rfl,λi hi=>(by cases hi),.inr ⟨h4,by rw [e];rfl⟩⟩
 ·rw [if_neg hb] at h;by_cases hp:w∈sPair
  ·rw [if_pos hp] at h;have h4:w ∉ sFour:=by
    unfold sPair at hp;simp at hp;rcases hp with rfl | rfl <;> decide +kernel
   match rest,h with
   | [a,b],h=>
    obtain ⟨ns,e,hn⟩:=all [a,b] (by rw [List.all_cons,List.all_cons,List.all_nil,Bool.and_true];exact h);exact ⟨ns,by unfold J6;rw [if_neg h4,e],hn,.inr ⟨h4,e⟩⟩
  ·rw [if_neg hp] at h;by_cases h4:w∈sFour
   ·rw [if_pos h4] at h
    match rest,h with
    | [.tuple ds],h=>
     obtain ⟨ns,e,hn⟩:=all ds h;exact ⟨ns,by unfold J6;rw [if_pos h4];exact e,hn,.inl ⟨h4,by rw [e]⟩⟩
   ·rw [if_neg h4] at h;cases h
theorem JF {H:Hp}:∀{vs:List V}{ns:List Int},Ths H vs (ns.map .int)->vs=ns.map V.int
 | _,[],.nil=>rfl
 | _,n::ns,.cons t r=>by
  cases t;rw [JF r]
  rfl
section
variable {P:Program}{w:World}{K:W.Frag}{mg:Str->Option Value}{base:Heap}
def Z1:Sp:=λvs H Q _=>∃(v:V)(wd:Str)(rest:List PyData),vs=[v]/\Th H v (.tuple (.str wd::rest))/\G1 wd rest=true/\∀(t:Addr)(ns:List Int)(H':Hp),Same H H'->H' t=some (.tup (ns.map V.int))->J6 wd rest=ns.map .int->(∀i∈ns,0<=i/\i<=9999)->ns.length<=1000->Q (.ref t) H'
theorem Za1:Gs ["leaf"] ["leaf"] (Ge YF):=⟨rfl,rfl,rfl,by decide +kernel,rfl,by decide +kernel,by decide +kernel⟩
theorem Z2 {f aJ aB aP aR aL:Addr}{fd:FuncData}(F:Fun K "numbers_of" "numbers_of" YF f fd)(T:Wds K aJ aB aP aR aL)(mOfR:mg "OF_ROADS" = some (.ref aR))(mOfP:mg "OF_PLACES" = some (.ref aL)):FnOk P w K mg base CX0 1 f fd ["leaf"] Z1:=by
 refine F.ok Za1 (λvs H Q E h=>?_) (λcdv A outer s H vs Q E hr h=>?_)
 ·obtain ⟨_,_,_,rfl,_⟩:=h
  rfl
 ·obtain ⟨v,wd,rest,rfl,th,hl,q⟩:=h;refine ⟨_,Gg (Gp (Oq (Gj (kIn K) (Gn (Om K) (pv 0) Gc (λ_ _=>rfl)) (Gk (UA K) (Jb mOfR) (Jb mOfP)) (by with_unfolding_all rfl)) (Gn (Om K) (pv 0) Gc (λ_ _=>rfl)) (GT (Y7 K) (pv 0) (GX Gc) Ji))),?_⟩;cases th with
  | @tup a xs1 _ e z hh=>
   cases hh with
   | @cons x1 _ vs1 _ tx1 hr1=>
    cases tx1;obtain ⟨ns,en,hn,hc⟩:=OJ hl;have qJ:=hr1.len;rw [List.length_cons] at z;refine ⟨_,rfl,a,_,_,_,rfl,rfl,SqT.of e,Gh (j:=0) rfl,aR,aL,_,_,rfl,rfl,T.r _,T.l _,(by simp),(by show 4<=sizeLine;decide),(λz=>by cases z),λ_ p hp=>?_⟩;have s1:Same H (upd H p (.tup (sFour.map V.str))):=Same.new hp;refine ⟨p,_,rfl,.inr (SqT.of (xs:=sFour.map V.str) Gb),rfl,rfl,_,rfl,?_⟩;show if (inV (.str wd) (sFour.map V.str))=true then _ else _
    rw [GL];have e1:=s1 _ _ e;rcases hc with ⟨h4,er⟩ | ⟨h4,er⟩
    ·rw [decide_eq_true h4];subst er;cases hr1 with
     | cons t2 r2=>
      cases r2;cases t2 with
      | @tup b ys _ e2 z2 hh2=>
       rw [JF hh2] at e2 z2;rw [List.length_map] at z2;exact GO ⟨_,rfl,a,_,_,_,rfl,rfl,SqT.of e1,Gh (j:=1) rfl,q b ns _ s1 (s1 _ _ e2) en hn z2⟩
    ·rw [decide_eq_false h4];rw [er] at hr1;obtain rfl:=JF hr1;refine G4 ⟨_,rfl,_,rfl,a,_,rfl,SqT.of e1,?_,λt ht=>?_⟩
     ·rw [List.length_cons];intro hz;have:=hz.1;simp [HT.sIx] at this
     ·have ec:JN (V.str wd::ns.map V.int) (some 1) none=ns.map V.int:=by
       have:=JI (xs:=V.str wd::ns.map V.int) (k:=1);exact this
      rw [ec];exact q t ns _ (s1.trans (Same.new ht)) Gb en hn (by rw [List.length_map] at qJ;rw [List.length_map] at z;lia)
end
end M
namespace M
open PySem L2
theorem UF:∀(ns:List Int)(acc:Array Nat),((ns.map num).foldl (λacc p=>acc++(" " : Str).cps++p.cps) acc).toList=acc.toList++(ns.map PyData.int).flatMap (λd=>32::Xt d)
 | [],acc=>by simp
 | n::ns,acc=>by
  rw [List.map_cons,List.foldl_cons,UF ns,List.map_cons,List.flatMap_cons];simp only [Array.toList_append];show acc.toList++[32]++(num n).cps.toList++_=acc.toList++(32::(num n).cps.toList++_);simp
theorem join_leaf {w:Str}{rest:List PyData}{ns:List Int}(e:J6 w rest=ns.map .int):Txt.join (" " : Str) (w::ns.map num)=mkS (J7 w rest):=by
 apply JU;show (((w::ns.map num).drop 1).foldl (λacc p=>acc++(" " : Str).cps++p.cps) ((w::ns.map num).headD Str.empty).cps).toList=J7 w rest;unfold J7;rw [e];exact UF ns w.cps
theorem UU {i:Int}(h:0<=i/\i<=9999):(num i).length<=4:=by
 have:=(OX h.1 h.2).1
 rwa [JV] at this
theorem Xw {w:Str}{ns:List Int}(hw:w.length<=6)(h:∀i∈ns,0<=i/\i<=9999)(hn:ns.length<=1000):PySem.JoinOk (" " : Str) (w::ns.map num)=true:=by
 unfold PySem.JoinOk;have h4:(" " : Str).length=1:=by decide +kernel
 have key:∀(l:List Int)(a:Nat),(∀p∈l,0<=p/\p<=9999)->(l.map num).foldl (λa s=>a+s.length+(" " : Str).length) a<=a+5 * l.length:=by
  intro l
  induction l with
  | nil=>intro a _;exact Nat.le_refl _
  | cons p l ih=>
   intro a hl;have h2:=UU (hl p (List.mem_cons_self ..));rw [List.map_cons,List.foldl_cons];refine Nat.le_trans (ih _ λq hq=>hl q (List.mem_cons_of_mem _ hq)) ?_;rw [List.length_cons]
   lia
 have h3:=key ns (0+w.length+(" " : Str).length) h;rw [List.foldl_toArray',List.foldl_cons] <;> try rfl
 simp only [Bool.not_eq_true'];unfold Builtin.Str.tooLong;apply decide_eq_false;rw [sizeLine_eq]
 lia
theorem WB {w:Str}{rest:List PyData}(h:G1 w rest=true):w∈sBare\/w∈sPair\/w∈sFour:=by
 unfold G1 at h;by_cases hb:w∈sBare
 ·exact .inl hb
 rw [if_neg hb] at h;by_cases hp:w∈sPair
 ·exact .inr (.inl hp)
 rw [if_neg hp] at h;by_cases h4:w∈sFour
 ·exact .inr (.inr h4)
 rw [if_neg h4] at h;cases h
def allW:List Str:=["closed", "shy", "all", "open", "long", "with", "off", "over", "past"]
theorem Ot {w:Str}{rest:List PyData}(h:G1 w rest=true):w∈allW:=by
 have key:∀w,w∈sBare\/w∈sPair\/w∈sFour->w∈allW:=by
  have h1:∀w∈sBare,w∈allW:=by decide +kernel
  have h2:∀w∈sPair,w∈allW:=by decide +kernel
  have h3:∀w∈sFour,w∈allW:=by decide +kernel
  exact λw h=>h.elim (h1 w) λh=>h.elim (h2 w) (h3 w)
 exact key w (WB h)
theorem Ub {w:Str}(h:w∈allW):w.length<=6:=by
 have:∀w∈allW,w.length<=6:=by decide +kernel
 exact this w h
theorem UG {w:Str}{rest:List PyData}{ns:List Int}(h:G1 w rest=true)(e:J6 w rest=ns.map .int)(hi:∀i∈ns,0<=i/\i<=9999):(J7 w rest).length<=6+5 * ns.length:=by
 have key:∀l:List Int,(∀p∈l,0<=p/\p<=9999)->((l.map PyData.int).flatMap λd=>32::Xt d).length<=5 * l.length:=by
  intro l
  induction l with
  | nil=>intro _;exact Nat.le_refl _
  | cons p l ih=>
   intro hl;have h2:=(OX (hl p (List.mem_cons_self ..)).1 (hl p (List.mem_cons_self ..)).2).1;have:=ih λq hq=>hl q (List.mem_cons_of_mem _ hq);rw [List.map_cons,List.flatMap_cons,List.length_append,List.length_cons,List.length_cons];show (num p).cps.toList.length+1+_<=_
   lia
 unfold J7;rw [e,List.length_append,JV];have:=key ns hi;have:=Ub (Ot h)
 lia
section
variable {P:Program}{w:World}{K:W.Frag}{mg:Str->Option Value}{base:Heap}
def Z3:Sp:=λvs H Q _=>∃(v:V)(wd:Str)(rest:List PyData),vs=[v]/\Th H v (.tuple (.str wd::rest))/\G1 wd rest=true/\∀H',Same H H'->(J7 wd rest).length<=5006->Q (.str (mkS (J7 wd rest))) H'
theorem Za2:Gs ["leaf"] ["leaf"] (Ge Y9):=⟨rfl,rfl,rfl,by decide +kernel,rfl,by decide +kernel,by decide +kernel⟩
theorem Z4 {f fNo:Addr}{fd fdNo:FuncData}(F:Fun K "show_leaf" "show_leaf" Y9 f fd)(FNo:Fun K "numbers_of" "numbers_of" YF fNo fdNo)(bNo:Binds K fdNo ["leaf"] [])(mNo:mg "numbers_of" = some (.ref fNo))(GNo:FnOk P w K mg base CX0 1 fNo fdNo ["leaf"] Z1)(mStr:mg "str" = none):FnOk P w K mg base CX0 2 f fd ["leaf"] Z3:=by
 refine F.ok Za2 (λvs H Q E h=>?_) (λcdv A outer s H vs Q E hr h=>?_)
 ·obtain ⟨_,_,_,rfl,_⟩:=h
  rfl
 ·obtain ⟨v,wd,rest,rfl,th,hl,q⟩:=h;have h16:(16777216:Nat)=sizeLine:=sizeLine_eq.symm;refine ⟨_,Gg (Gp (J1 PySem.F.plainAttrs_str PySem.F.slot_str_join PySem.F.type_str_join (Ym K) Gm (Ga (Gk Vb (GY (Ga (Gn (Om K) (pv 0) Gc (λ_ _=>rfl)) Gd)) (JR (own:=["number"]) rfl (Jj (by decide +kernel) (by decide +kernel) rfl (by decide +kernel)) (W6 K (GC GNo (hr.mono (by decide)) rfl mNo FNo.kp bNo .nil G0 (Ga (pv 0) Gd))) (λ_ _ _ _=>GF (i:=0) (show List.Nodup (["number"]:List Str) by decide +kernel) rfl (Or.inl rfl)) (λ_ _ _ _=>Jr) (λ_ _ _ _=>Jn Zbu rfl mStr Ju (Ga (pv 0) Gd)))) Gd))),?_⟩;obtain ⟨a,x0,e,hx0⟩:∃a xs,v=.ref a/\H a=some (.tup (.str wd::xs)):=by
   cases th with
   | tup e z hh=>cases hh with | cons t1 _=>cases t1;exact ⟨_,_,rfl,e⟩
  subst e;refine ⟨rfl,_,rfl,a,_,_,_,rfl,rfl,SqT.of hx0,Gh (j:=0) rfl,by show 1<=sizeLine;lia,λp hp=>?_⟩;have s1:Same H (upd H p (.lst [.str wd])):=Same.new hp;have e1:upd H p (.lst [.str wd]) p=some (.lst [.str wd]):=Gb;generalize upd H p (.lst [.str wd])=H1 at s1 e1 ⊢;refine ⟨_,rfl,.ref a,wd,rest,rfl,th.same s1,hl,λt ns H2 s2 et en hn hz=>?_⟩;refine ⟨t,rfl,⟨_,SqT.of et⟩,λD hD=>?_⟩;refine O6 (K:=K) (a:=t) (xs:=ns.map V.int) (λi ys H3=>Same H2 H3/\H3 D=some (.lst ys)/\ys=((ns.take i).map num).map V.str) ⟨Same.new hD,Gb,rfl⟩ (λi ys H3 _ ⟨s3,_⟩=>SqT.of (s3 _ _ et)) ?_ ?_
  ·rintro i x ys H3 hxi ⟨s3,hD3,rfl⟩;rw [List.getElem?_map] at hxi;obtain ⟨n,hn1,rfl⟩:=Option.map_eq_some_iff.mp hxi;obtain ⟨hi,er'⟩:=List.getElem?_eq_some_iff.mp hn1;have hm:=hn n (List.mem_of_getElem? hn1);refine ⟨trivial,?_⟩;unfold XQ;refine GO ?_;refine ⟨_,rfl,n,rfl,⟨hm.1,by lia⟩,hD3,?_,s3.put hD,Gb,?_⟩
   ·rw [List.length_map,List.length_map,List.length_take]
    lia
   ·rw [List.take_succ_eq_append_getElem hi,er',List.map_append,List.map_append]
    rfl
  ·rintro ys H3 ⟨s3,hD3,rfl⟩;rw [List.length_map,List.take_length] at hD3;refine ⟨p,D,_,_,rfl,rfl,s3 _ _ (s2 _ _ e1),hD3,by simp only [List.length_map,List.length_singleton];lia,λc hc=>?_⟩;refine ⟨(" " : Str),c,wd::ns.map num,rfl,rfl,SqL.of (by rw [Gb];rfl),Xw (Ub (Ot hl)) hn hz,?_⟩;rw [join_leaf en];have:=UG hl en hn;exact q _ (s1.trans (s2.trans (s3.trans (Same.new hc)))) (by lia)
end
end M
namespace M
open PySem L2
abbrev noE:Expr:=.Name "" ⟨0,0,0,0⟩
abbrev noA:Arguments:={ posonlyargs:=[],args:=[],vararg:=none,kwonlyargs:=[],kw_defaults:=[],kwarg:=none,defaults:=[] }
abbrev WS:Expr:=match (Gq Xp).getD 0 (.Pass ⟨0,0,0,0⟩) with
 | .Return (some (.Call _ as _ _)) _=>as.getD 2 noE
 | _=>noE
abbrev YU (e:Expr):Arguments:=match e with
 | .Lambda a _ _ _=>a
 | _=>noA
abbrev YV (e:Expr):Expr:=match e with
 | .Lambda _ b _ _=>b
 | _=>noE
abbrev Vn (e:Expr):Scope:=match e with
 | .Lambda _ _ c _=>c
 | _=>{ kind:=.function,names:=[],isGenerator:=false,isCoroutine:=false }
theorem WC {H H':Hp}{clos:Xm}(s:Same (J4 clos H) H'):Same H (VG clos H H'):=λa u e=>by
 by_cases z:a∈clos.map (·.2)
 ·rw [UR z];exact e
 ·rw [Jl z];exact s a u (by rw [Ja z];exact e)
section
variable {P:Program}{w:World}{K:W.Frag}{mg:Str->Option Value}{base:Heap}
abbrev YW:Str:=Str.ofString "show_wish.<locals>.<lambda>"
abbrev Z5 (pm:Value)(c':Addr)(ctv:Value):Obj:=W.kla_obj "<lambda>" YW (YU WS) (YV WS) (Vn WS) [] pm c' ctv
theorem Za3:Ua ["word", "first", "second"] ["word", "first", "second"] [] (Vn WS):=⟨rfl,rfl,rfl,by decide +kernel,rfl,by decide +kernel,by decide +kernel,by decide +kernel,by decide +kernel⟩
def Zbv (HG:Hp->Prop):Sp:=λvs H Q _=>∃(wd:Str)(x y:List Nat),vs=[.str wd,.str (mkS x),.str (mkS y)]/\HG H/\(Jm wd x y).length<=16000000/\∀H':Hp,Same H H'->Q (.str (mkS (Jm wd x y))) H'
theorem Je (l:List Nat):(mkS l).length=l.length:=by simp [mkS,Str.length]
theorem WD (wd:Str)(x y:List Nat):Str.empty++("(" : Str)++mkS x++(" " : Str)++wd++(" " : Str)++mkS y++(")" : Str)=mkS (Jm wd x y):=by
 apply JU;rw [G2,G2,G2,G2,G2,G2,G2];show []++[40]++x++[32]++wd.cps.toList++[32]++y++[41]=Jm wd x y;unfold Jm;simp
theorem Z6 {f c':Addr}{pm ctv:Value}:FnOk P w K mg base CX0 1 f (W.kla_fn "<lambda>" YW (YU WS) (YV WS) (Vn WS) [] pm (.ref c') ctv) ["word", "first", "second"] (Zbv (λH=>CloFn H f c' YW (Z5 pm c' ctv))):=by
 refine ZJ (N:=["word", "first", "second"]) Za3 rfl (by simp) (λvs H Q E h=>?_) (λA outer s H vs Q E hr h=>?_)
 ·obtain ⟨_,_,_,rfl,_⟩:=h
  rfl
 ·obtain ⟨wd,x,y,rfl,hf,hl,q⟩:=h;refine ⟨hf,[],.nil,_,Yn (JT Gm (JT (UQ (pv 1)) (JT Gm (JT (UQ (pv 0)) (JT Gm (JT (UQ (pv 2)) (JT Gm ZC))))))),?_⟩;have h16:(16777216:Nat)=sizeLine:=sizeLine_eq.symm;have l0:Str.empty.length=0:=rfl;have l1:("(" : Str).length=1:=by decide +kernel
  have l2:(" " : Str).length=1:=by decide +kernel
  have l3:(")" : Str).length=1:=by decide +kernel
  have lx:=Je x;have ly:=Je y;have lw:=JV wd;have lj:(Jm wd x y).length=x.length+wd.length+y.length+4:=by
   unfold Jm;simp only [List.length_cons,List.length_append,List.length_nil,lw]
   lia
  have lf:(Str.empty++("(" : Str)++mkS x++(" " : Str)++wd++(" " : Str)++mkS y++(")" : Str)).length<=sizeLine:=by
   simp only [PySem.Str.length_append];lia
  refine ⟨("(" : Str),rfl,by simp only [PySem.Str.length_append];lia,_,rfl,mkS x,rfl,by lia,mkS x,rfl,by simp only [PySem.Str.length_append];lia,(" " : Str),rfl,by simp only [PySem.Str.length_append];lia,_,rfl,wd,rfl,by lia,wd,rfl,by simp only [PySem.Str.length_append];lia,(" " : Str),rfl,by simp only [PySem.Str.length_append];lia,_,rfl,mkS y,rfl,by lia,mkS y,rfl,by simp only [PySem.Str.length_append];lia,(")" : Str),rfl,lf,lf,λhN=>?_⟩;rw [WD];exact q _ (WC (Same.refl _))
def YX (P:Program)(w:World)(K:W.Frag)(mg:Str->Option Value)(base:Heap)(fTo:Addr):Sp:=λvs H Q _=>∃(v:V)(d:PyData)(ps:List PyData)(tx:List Nat)(fJ:Addr)(fdJ:FuncData)(HG:Hp->Prop),vs=[v,.ref fTo,.ref fJ]/\Th H v d/\Pr d ps/\ps.length<=1000/\Tx d tx/\tx.length<=1000000 /\
 (∀H',Same H H'->HG H'/\FnIn H' fJ)/\Binds K fdJ ["word", "first", "second"] []/\FnOk P w K mg base CX0 1 fJ fdJ ["word", "first", "second"] (Zbv HG)/\∀H',Same H H'->Q (.str (mkS tx)) H'
theorem scFol:Gs ["wish", "told_of", "joined", "told", "part", "second", "first"] ["wish", "told_of", "joined"] (Ge YC):=⟨rfl,rfl,rfl,by decide +kernel,rfl,by decide +kernel,by decide +kernel⟩
theorem VI {H H':Hp}{v:V}{d:PyData}(h:JS d=true)(t:Th H v d):Th H' v d:=by
 cases t with
 | int i=>exact .int i
 | _=>exact absurd h Bool.false_ne_true
theorem JW {H H':Hp}:∀{vs:List V}{ds:List PyData},ds.all JS=true->Ths H vs ds->Ths H' vs ds
 | _,_,_,.nil=>.nil
 | _,_,h,.cons a b=>by
  rw [List.all_cons,Bool.and_eq_true] at h;exact .cons (VI h.1 a) (JW h.2 b)
theorem UH {H H':Hp}(k:∀t ys,H t=some (.tup ys)->H' t=some (.tup ys)){wd:Str}{rest:List PyData}{vs:List V}(h:G1 wd rest=true)(t:Ths H vs rest):Ths H' vs rest:=by
 unfold G1 at h;by_cases h1:wd∈sBare
 ·rw [if_pos h1] at h
  match rest,h,t with
  | [],_,.nil=>exact .nil
 rw [if_neg h1] at h;by_cases h2:wd∈sPair
 ·rw [if_pos h2] at h
  match rest,h,t with
  | [a,b],h,t=>
   exact JW (by simpa using h) t
 rw [if_neg h2] at h;by_cases h3:wd∈sFour
 ·rw [if_pos h3] at h
  match rest,h,t with
  | [.tuple ds],h,.cons (.tup e z hh) .nil=>exact .cons (.tup (k _ _ e) z (JW h hh)) .nil
 rw [if_neg h3] at h;cases h
theorem Xx {d:PyData}{ds:List PyData}{S R:List (List Nat)}(h:Ev (d::ds) S R):(∃w rest,d=.tuple (.str w::rest)/\G1 w rest=true/\Ev ds (S++[J7 w rest]) R)\/∃w a b s t S',d=.tuple [.str w,a,b]/\w∈sJoin/\S=S'++[s,t]/\Ev ds (S'++[Jm w s t]) R:=by
 cases h with
 | leaf a b=>exact .inl ⟨_,_,rfl,a,b⟩
 | join a b=>exact .inr ⟨_,_,_,_,_,_,rfl,a,rfl,b⟩
def OM (s:List Nat):V:=.str (mkS s)
theorem Z7 {f fPa fTo aJ aB aP aR aL:Addr}{fd fdPa fdTo:FuncData}(F:Fun K "folded" "folded" YC f fd)(FPa:Fun K "parts_of" "parts_of" YB fPa fdPa)(bPa:Binds K fdPa ["wish"] [])(mPa:mg "parts_of" = some (.ref fPa))(GPa:FnOk P w K mg base CX0 1 fPa fdPa ["wish"] ZY)(kTo:W.keepIn K (.ref fTo)=true)(bTo:Binds K fdTo ["leaf"] [])(GTo:FnOk P w K mg base CX0 2 fTo fdTo ["leaf"] Z3)(T:Wds K aJ aB aP aR aL)(mJoi:mg "JOINING" = some (.ref aJ))(mRev:mg "reversed" = none):FnOk P w K mg base CX0 3 f fd ["wish", "told_of", "joined"] (YX P w K mg base fTo):=by
 refine F.ok scFol (λvs H Q E h=>?_) (λcdv A outer s H vs Q E hr h=>?_)
 ·obtain ⟨_,_,_,_,_,_,_,rfl,_⟩:=h
  rfl
 ·obtain ⟨v,d,ps,tx,fJ,fdJ,HG,rfl,th,pr,hpl,htx,hxl,hG,bJn,GJn,q⟩:=h;have h16:(16777216:Nat)=sizeLine:=sizeLine_eq.symm;refine ⟨_,(@Gf _ _ _ _ _ (@Gv _ _ 3 _ _ _ _ scFol.nd rfl (Or.inl rfl) (@GY _ _ _ _ Gd) rfl (by first | exact .inl rfl | exact .inr rfl))
    (@Gf _ _ _ _ _ (@Og _ _ _ _ _ _ _ _ PassesOwn.never rfl (ZbO K rfl mRev (@Ga _ _ _ _ _ (@GC _ _ _ _ _ _ _ _ _ _ _ _ _ _ _ _ GPa (hr.mono (by decide)) rfl mPa FPa.kp bPa .nil G0 (@Ga _ _ _ _ _ (pv 0) Gd rfl) (by decide) rfl rfl) Gd rfl)) (GF (i:=4) scFol.nd rfl (Or.inl rfl))
    (@Gg _ _ _ (@G3 _ _ _ _ _ _ _ _ (Gj (kIn K) (@Gn _ _ _ _ _ _ _ (Om K) (pv 4) Gc (λ_ _=>rfl)) (Jb mJoi) (by with_unfolding_all rfl)) (@Gf _ _ _ _ _ (@Gv _ _ 5 _ _ _ _ scFol.nd rfl (Or.inl rfl) (U8 PySem.F.plainAttrs_list PySem.F.slot_list_pop PySem.F.type_list_pop Va (pv 3)) rfl (by first | exact .inl rfl | exact .inr rfl))
    (@Gf _ _ _ _ _ (@Gv _ _ 6 _ _ _ _ scFol.nd rfl (Or.inl rfl) (U8 PySem.F.plainAttrs_list PySem.F.slot_list_pop PySem.F.type_list_pop Va (pv 3)) rfl (by first | exact .inl rfl | exact .inr rfl))
    (@Gg _ _ _ (Jd (J1 PySem.F.plainAttrs_list PySem.F.slot_list_append PySem.F.type_list_append GR (pv 3) (@Ga _ _ _ _ _ (Xo GJn (hr.mono (by lia)) (pv 2) bJn .nil G0 (@Ga _ _ _ _ _ (@Gn _ _ _ _ _ _ _ (Om K) (pv 4) Gc (λ_ _=>rfl)) (@Ga _ _ _ _ _ (pv 6) (@Ga _ _ _ _ _ (pv 5) Gd rfl) rfl) rfl)) Gd rfl)))))) (@Gg _ _ _ (Jd (J1 PySem.F.plainAttrs_list PySem.F.slot_list_append PySem.F.type_list_append GR (pv 3) (@Ga _ _ _ _ _ (Xl GTo (hr.mono (by lia)) (pv 1) kTo bTo .nil G0 (@Ga _ _ _ _ _ (pv 4) Gd rfl)) Gd rfl)))))) (by intro _;rfl))
    (@Gg _ _ _ (@Gp _ _ _ _ (@Gn _ _ _ _ _ _ _ (Jk K) (pv 3) Gc (λ_ _=>rfl)))))),?_⟩
  refine ⟨Nat.zero_le _,λtl htl=>?_⟩;have s1:Same H (upd H tl (.lst [])):=Same.new htl;have e1:upd H tl (.lst []) tl=some (.lst []):=Gb;generalize upd H tl (.lst [])=H1 at s1 e1 ⊢;refine ⟨_,rfl,v,d,ps,rfl,th.same s1,pr,by lia,λfl us H2 s2 hfl efl tu=>?_⟩;have hul:=tu.len;refine ⟨fl,us,rfl,SqL.of efl,?_⟩;have nft:fl≠tl:=λz=>by rw [z,e1] at hfl;cases hfl
  have e2:=s2 _ _ e1;refine Yl (K:=K) (a:=fl) (xs:=us) (λi σ H3=>∃(S:List (List Nat))(v4 v5 v6:Option V),σ=[some v,some (.ref fTo),some (.ref fJ),some (.ref tl),v4,v5,v6]/\Same H H3/\SameL tl H2 H3/\H3 tl=some (.lst (S.map OM))/\S.length<=i/\Ev (ps.reverse.drop i) S [tx]) ⟨[],none,none,none,rfl,s1.trans s2,SameL.of (Same.refl _),e2,Nat.le_refl _,?_⟩ ?_ ?_ ?_
  ·have:=Za0 pr (S:=[]) (ds:=[]) (R:=[tx]) htx .nil;rw [List.append_nil] at this;exact this
  ·rintro i σ H3 hi ⟨S,v4,v5,v6,rfl,s3,sl3,_⟩;exact SqL.of (sl3 _ _ nft efl)
  ·rintro i x σ H3 hi hx ⟨S,v4,v5,v6,rfl,s3,sl3,e3,hS,ev⟩;obtain ⟨p,ep,tp⟩:=(tu.same s2).get hx;have hps:ps.reverse[i]?=some p:=by
    rw [List.getElem?_reverse (by lia),<-hul];exact ep
   obtain ⟨hi',ep'⟩:=List.getElem?_eq_some_iff.mp hps;rw [List.drop_eq_getElem_cons hi',ep'] at ev;have kk:∀t ys,H2 t=some (.tup ys)->H3 t=some (.tup ys):=λt ys e=>sl3 _ _ (λz=>by rw [z,e2] at e;cases e) e;rcases Xx ev with ⟨wd,rest,rfl,hl,ev'⟩ | ⟨wd,da,db,sa,sb,S',rfl,hw,rfl,ev'⟩
   ·cases tp with
    | @tup a xs1 _ e z hh=>
     cases hh with
     | @cons x1 _ vs1 _ tx1 hr1=>
      cases tx1;have e':=kk _ _ e;refine ⟨_,rfl,a,_,_,_,rfl,rfl,SqT.of e',Gh (j:=0) rfl,aJ,_,rfl,.inr (T.j _),rfl,rfl,_,rfl,?_⟩;show if (inV (.str wd) (sJoin.map V.str))=true then _ else _
      rw [GL,decide_eq_false (GP hl)];refine G4 ?_;refine ⟨_,rfl,.inl ⟨rfl,_,SqL.of e3⟩,rfl,_,rfl,.ref a,wd,rest,rfl,.tup e' z (.cons (.str _) (UH kk hl hr1)),hl,λH4 s4 qJ=>?_⟩;refine ⟨tl,_,_,rfl,rfl,s4 _ _ e3,by rw [List.length_map];lia,?_⟩;refine ⟨S++[J7 wd rest],_,_,_,rfl,(s3.trans s4).put htl,λb o n eb=>?_,by rw [Gb,List.map_append];rfl,by rw [List.length_append,List.length_singleton];lia,ev'⟩;rw [Gr n];exact s4 _ _ (sl3 _ _ n eb)
   ·cases tp with
    | @tup a xs1 _ e z hh=>
     cases hh with
     | @cons x1 _ vs1 _ tx1 hr1=>
      cases tx1;have e':=kk _ _ e;have hsum:=Z0 ev';rw [Xv] at hsum;have hj:(Jm wd sa sb).length<=1000000:=by
       have:Xu [tx]=tx.length:=by simp [Xu]
       lia
      refine ⟨_,rfl,a,_,_,_,rfl,rfl,SqT.of e',Gh (j:=0) rfl,aJ,_,rfl,.inr (T.j _),rfl,rfl,_,rfl,?_⟩;show if (inV (.str wd) (sJoin.map V.str))=true then _ else _
      rw [GL,decide_eq_true hw];refine GO ?_;rw [List.length_append] at hS;have e3':H3 tl=some (.lst ((S'.map OM++[OM sa])++[OM sb])):=by rw [e3,List.map_append,List.append_assoc];rfl
      refine ⟨_,rfl,.inl ⟨rfl,_,SqL.of e3'⟩,tl,_,OM sb,rfl,rfl,e3',(by simp),?_⟩;rw [List.dropLast_concat];have s4:SameL tl H2 (upd H3 tl (.lst (S'.map OM++[OM sa]))):=λb o n eb=>by rw [Gr n];exact sl3 _ _ n eb
      have t4:Same H (upd H3 tl (.lst (S'.map OM++[OM sa]))):=s3.put htl;have e4:upd H3 tl (.lst (S'.map OM++[OM sa])) tl=some (.lst (S'.map OM++[OM sa])):=Gb;generalize upd H3 tl (.lst (S'.map OM++[OM sa]))=H4 at s4 t4 e4 ⊢;refine ⟨_,rfl,.inl ⟨rfl,_,SqL.of e4⟩,tl,_,OM sa,rfl,rfl,e4,(by simp),?_⟩;rw [List.dropLast_concat];have s5:SameL tl H2 (upd H4 tl (.lst (S'.map OM))):=λb o n eb=>by rw [Gr n];exact s4 _ _ n eb
      have t5:Same H (upd H4 tl (.lst (S'.map OM))):=t4.put htl;have e5:upd H4 tl (.lst (S'.map OM)) tl=some (.lst (S'.map OM)):=Gb;generalize upd H4 tl (.lst (S'.map OM))=H5 at s5 t5 e5 ⊢;have e5':=s5 _ _ (λz=>by rw [z,e2] at e;cases e) e;refine ⟨_,rfl,.inl ⟨rfl,_,SqL.of e5⟩,rfl,(hG _ t5).2,_,rfl,a,_,_,_,rfl,rfl,SqT.of e5',Gh (j:=0) rfl,_,rfl,_,rfl,(hG _ t5).2,wd,sa,sb,rfl,(hG _ t5).1,by lia,λH6 s6=>?_⟩;refine ⟨tl,_,_,rfl,rfl,s6 _ _ e5,by rw [List.length_map];lia,?_⟩;refine ⟨S'++[Jm wd sa sb],_,_,_,rfl,(t5.trans s6).put htl,λb o n eb=>?_,by rw [Gb,List.map_append];rfl,by rw [List.length_append,List.length_singleton];simp only [List.length_cons,List.length_nil] at hS;lia,ev'⟩;rw [Gr n];exact s6 _ _ (s5 _ _ n eb)
  ·rintro σ H3 ⟨S,v4,v5,v6,rfl,s3,sl3,e3,hS,ev⟩;rw [List.drop_of_length_le (by rw [List.length_reverse];lia)] at ev;cases ev;refine ⟨_,rfl,tl,_,_,_,rfl,rfl,SqL.of e3,Gh (j:=0) rfl,?_⟩;exact q _ s3
end
end M
namespace M
open PySem L2
theorem _root_.L2.Ws.keep {H H':Hp}(k:∀t ys,H t=some (.tup ys)->H' t=some (.tup ys)){d:PyData}{m:Nat}(w:Ws d m):∀{v:V},Th H v d->Th H' v d:=by
 induction w with
 | leaf h=>
  intro v t;cases t with
  | tup e z hh=>
   cases hh with
   | cons a b=>
    cases a;exact .tup (k _ _ e) z (.cons (.str _) (UH k h b))
 | join hw _ _ ih1 ih2=>
  intro v t;cases t with
  | tup e z hh=>
   cases hh with
   | cons a b=>
    cases a;cases b with
    | cons a b=>
     cases b with
     | cons b c=>
      cases c;exact .tup (k _ _ e) z (.cons (.str _) (.cons (ih1 a) (.cons (ih2 b) .nil)))
theorem UV {H:Hp}{v:V}{w:Str}{rest:List PyData}(t:Th H v (.tuple (.str w::rest)))(h:G1 w rest=true):∃ns:List Int,J6 w rest=ns.map .int/\(∀i∈ns,0<=i/\i<=9999)/\ns.length<=1000/\((w∈sFour/\rest=[.tuple (ns.map .int)])\/(w ∉ sFour/\rest=ns.map .int)):=by
 obtain ⟨ns,e,hn,hc⟩:=OJ h;refine ⟨ns,e,hn,?_,hc⟩;cases t with
 | tup e z hh=>
  cases hh with
  | cons a b=>
   have hl:=b.len;rw [List.length_cons] at z;rcases hc with ⟨h4,er⟩ | ⟨h4,er⟩
   ·rw [er] at b;cases b with
    | cons t2 r2=>
     cases t2 with
     | tup e2 z2 hh2=>
      have:=hh2.len;rw [List.length_map] at this
      lia
   ·rw [er,List.length_map] at hl
    lia
theorem Ws.tx {d:PyData}{m:Nat}(h:Ws d m):∃tx,Tx d tx:=by
 induction h with
 | leaf h=>exact ⟨_,.leaf h⟩
 | join hw _ _ iha ihb=>
  obtain ⟨s,hs⟩:=iha;obtain ⟨t,ht⟩:=ihb;exact ⟨_,.join hw hs ht⟩
theorem Xy {w:Str}(h:w∈sJoin):w.length<=3:=by
 have:∀w∈sJoin,w.length<=3:=by decide +kernel
 exact this w h
theorem UI (wd:Str)(x y:List Nat):(Jm wd x y).length=x.length+wd.length+y.length+4:=by
 unfold Jm;simp only [List.length_cons,List.length_append,List.length_nil,JV]
 lia
theorem Z8 {H:Hp}{d:PyData}{m:Nat}(h:Ws d m):∀{v:V}{tx:List Nat},Th H v d->Tx d tx->tx.length+7<=2507 * 2 ^ m:=by
 induction h with
 | leaf hl=>
  intro v tx th ht;cases ht with
  | leaf _=>
   obtain ⟨ns,en,hn,hz,_⟩:=UV th hl;have:=UG hl en hn
   lia
  | join hw _ _=>exact absurd hw (GP hl)
 | @join w a b m n hw _ _ iha ihb=>
  intro v tx th ht;cases ht with
  | leaf hl=>exact absurd hw (GP hl)
  | join _ ta tb=>
   cases th with
   | tup e z hh=>
    cases hh with
    | cons t0 b=>
     cases b with
     | cons a b=>
      cases b with
      | cons b c=>
       have h1:=iha a ta;have h2:=ihb b tb;have p1:2 ^ m<=2 ^ max m n:=Nat.pow_le_pow_right (by decide) (Nat.le_max_left ..);have p2:2 ^ n<=2 ^ max m n:=Nat.pow_le_pow_right (by decide) (Nat.le_max_right ..);have:=Xy hw;rw [UI,Nat.pow_succ]
       lia
theorem UW {H:Hp}{d:PyData}{m:Nat}(h:Ws d m)(h8:m<=8){v:V}{tx:List Nat}(th:Th H v d)(ht:Tx d tx):tx.length<=650000:=by
 have h1:=Z8 h th ht;have:2 ^ m<=2 ^ 8:=Nat.pow_le_pow_right (by decide) h8
 lia
theorem Z9 {d:PyData}{m:Nat}(h:Ws d m)(h8:m<=8):∃ps,Pr d ps/\ps.length<=1000:=by
 obtain ⟨ps,p,hl⟩:=Ws.pr h;have:2 ^ m<=2 ^ 8:=Nat.pow_le_pow_right (by decide) h8;exact ⟨ps,p,by lia⟩
section
variable {P:Program}{w:World}{K:W.Frag}{mg:Str->Option Value}{base:Heap}
def TabW (tbW:Addr)(H:Hp):Prop:=∃es,TabOn tbW es H/\(es=[]\/∃c,es=[⟨70,35,YW,c⟩])
theorem TabW.tbl {tbW:Addr}{H:Hp}(h:TabW tbW H):∃ps,H tbW=some (.tbl ps):=h.elim λ_ z=>⟨_,z.1.1⟩
theorem TabW.same {tbW:Addr}{H H':Hp}(h:TabW tbW H)(s:Same H H'):TabW tbW H':=h.elim λes z=>⟨es,z.1.same s,z.2⟩
theorem SameL.tups {tbW:Addr}{H H':Hp}(s:SameL tbW H H')(h:TabW tbW H):∀t ys,H t=some (.tup ys)->H' t=some (.tup ys):=λt ys e=>h.tbl.elim λ_ z=>s.tup z e
theorem SameL.lsts {tbW:Addr}{H H':Hp}(s:SameL tbW H H')(h:TabW tbW H){t:Addr}{ys:List V}(e:H t=some (.lst ys)):H' t=some (.lst ys):=h.tbl.elim λ_ z=>s.lst z e
def YY (tbW:Addr):Sp:=λvs H Q _=>∃(v:V)(d:PyData)(m:Nat)(tx:List Nat),vs=[v]/\Th H v d/\Ws d m/\m<=8/\Tx d tx/\TabW tbW H/\∀H',SameL tbW H H'->TabW tbW H'->Q (.str (mkS tx)) H'
theorem Za4:Gs ["wish"] ["wish"] (Ge Xp):=⟨rfl,rfl,rfl,by decide +kernel,rfl,by decide +kernel,by decide +kernel⟩
theorem Zaa {f cW fFo fSl tbW:Addr}{fd fdFo:FuncData}(F:Fun K "show_wish" "show_wish" Xp f fd)(hc:fd.code=.ref cW)(hC:W.CodeHd base cW tbW)(hBl:base.BuiltinsAt mg tbW)(FFo:Fun K "folded" "folded" YC fFo fdFo)(bFo:Binds K fdFo ["wish", "told_of", "joined"] [])(mFo:mg "folded" = some (.ref fFo))(GFo:FnOk P w K mg base CX0 3 fFo fdFo ["wish", "told_of", "joined"] (YX P w K mg base fSl))(mSl:mg "show_leaf" = some (.ref fSl)) :
  FnOk P w K mg base CX0 4 f fd ["wish"] (YY tbW):=by
 refine Fun.okC F hc Za4 (λvs H Q E h=>?_) (λA outer s H vs Q E hr h=>?_)
 ·obtain ⟨_,_,_,_,rfl,_⟩:=h
  rfl
 ·obtain ⟨v,d,m,tx,rfl,th,hw,h8,htx,⟨es,on,hes⟩,q⟩:=h;refine ⟨_,Gg (Gp (GC GFo hr rfl mFo FFo.kp bFo .nil G0 (Ga (pv 0) (Ga (Jb mSl) (Ga (Yy (qual:=YW) (params:=YU WS) (body:=YV WS) (scope:=Vn WS) (clos:=[]) rfl rfl hC hBl rfl) Gd))))),?_⟩;obtain ⟨ps,pr,hpl⟩:=Z9 hw h8;have hxl:=UW hw h8 th htx;have go:∀(fJ cG:Addr)(ct2:Value)(H2:Hp),SameL tbW H H2->TabOn tbW [⟨70,35,YW,cG⟩] H2->CloFn H2 fJ cG YW (Z5 ((mg "__name__").getD .none) cG ct2)->YX P w K mg base fSl [v,.ref fSl,.ref fJ] H2 Q E0:=by
   intro fJ cG ct2 H2 s2 on2 cf;have t2:=hw.keep (λt ys e=>s2.tup on.1 e) th;exact ⟨v,d,ps,tx,fJ,_,_,rfl,t2,pr,hpl,htx,by lia,λH3 s3=>⟨cf.same s3,(cf.same s3).fin rfl⟩,Binds.all (λus hl=>by obtain ⟨_,_,_,rfl⟩:=ZaN hl;rfl),Z6,λH3 s3=>q _ (s2.trans (SameL.of s3)) ⟨_,on2.same s3,.inr ⟨cG,rfl⟩⟩⟩
  refine ⟨_,rfl,?_⟩;rcases hes with rfl | ⟨c,rfl⟩
  ·exact ⟨[],on,.inl ⟨rfl,λfJ c' ctv doc H' sl on' nf cf=>go fJ c' ctv H' sl on' cf⟩⟩
  ·exact ⟨_,on,.inr ⟨_,List.mem_cons_self ..,by simp [WR,codeAmong,rawInt],rfl,λfJ ctv doc H' sm nf cf=>go fJ c ctv H' (SameL.of sm) (on.same sm) cf⟩⟩
end
end M
namespace M
open PySem L2
theorem OY {x:Str}(h:PyData.strOk x=true):SeqAt.shaped (.str x)=true:=by
 unfold SeqAt.shaped;rw [Bool.and_eq_true];refine ⟨by simp only [PyData.canLay0];exact h,decide_eq_true ?_⟩;simp only [PyData.depth]
 lia
section
variable {P:Program}{w:World}{K:W.Frag}{mg:Str->Option Value}{base:Heap}
def WE (x:Str):Prop:=x.cps.all (·<128)=true/\PyData.strOk x=true/\x.length<=4096
def Jp (x:Str):Bool:=decide (0<x.length) && decide (x.length<=4) && (x.cps.toList.all λc=>decide (c∈("0123456789" : Str).cps.toList)) && (PyData.eqv (.str x) (.str ("0" : Str)) || !Txt.startswith x ("0" : Str))
def Zab:Sp:=λvs H Q _=>∃x:Str,vs=[.str x,.int 4]/\WE x/\∀H',Same H H'->Q (.bl (Jp x)) H'
theorem Za5:Gs ["word", "most"] ["word", "most"] (Ge Yz):=⟨rfl,rfl,rfl,by decide +kernel,rfl,by decide +kernel,by decide +kernel⟩
theorem Zac {f:Addr}{fd:FuncData}{tF:Tok}(F:Fun K "is_written" "is_written" Yz f fd)(mFig:mg "FIGURES" = some (.str "0123456789" tF))(mLen:mg "len" = none)(mAll:mg "all" = none):FnOk P w K mg base CX0 1 f fd ["word", "most"] Zab:=by
 refine F.ok Za5 (λvs H Q E h=>?_) (λcdv A outer s H vs Q E hr h=>?_)
 ·obtain ⟨_,rfl,_⟩:=h
  rfl
 ·obtain ⟨x,rfl,⟨h0,h1,h2⟩,q⟩:=h;have hu:=hr.units;have h16:(16777216:Nat)=sizeLine:=sizeLine_eq.symm;have no:Jp x=false->∀H',Same H H'->Q (.bl false) H':=λz H' s=>by have:=q H' s;rw [z] at this;exact this
  refine ⟨_,Gf (G3 (PW.pt (JL (Jw (WX X4 X5 Gc (Gi ZaS rfl mLen PySem.boot_len (Ga (pv 0) Gd)) (pv 1))) (Jy (Jw (Jh (Gi (Zbt K rfl) rfl mAll Vh (Ga (JR (own:=["sign"]) rfl (Jj (by decide +kernel) (by decide +kernel) rfl (by decide +kernel)) (ZD (pv 0)) (λ_ _ _ _=>GF (i:=0) (show List.Nodup (["sign"]:List Str) by decide +kernel) rfl (Or.inl rfl)) (λ_ _ _ _=>Jr) (λ_ _ _ _=>J9 ZbQ (pv 0) (Ov (v:=.str "0123456789") rfl mFig ⟨_,rfl⟩) (by with_unfolding_all rfl))) Gd))))))) (Gg (Gp OK)) Gy)
    (Gg (Gp (ZaC (J9 (Zbr K hu) (pv 0) Gm (Gw _)) (Uh (VQ (J1 PySem.F.plainAttrs_str PySem.F.slot_str_startswith PySem.F.type_str_startswith Wh (pv 0) (Ga Gm Gd))))))),?_⟩
  refine ⟨_,rfl,x,rfl,by lia,0,_,rfl,rfl,_,rfl,OR (λc=>?_) (λc=>?_)⟩
  ·refine ⟨_,rfl,_,_,rfl,rfl,_,rfl,?_⟩;have c':0<x.length:=by have:=of_decide_eq_true c;lia
   by_cases l4:x.length<=4
   ·have c4:decide ((x.length:Int)<=4)=true:=decide_eq_true (by lia);rw [c4];refine G4 ?_;refine ⟨_,rfl,x,rfl,h0,λD hD=>?_⟩;refine Xh (x:=x) (λj vs H2=>Same H H2/\H2 D=some (.lst vs)/\vs=((x.cps.toList.take j).map λc=>decide (c∈("0123456789" : Str).cps.toList)).map V.bl) ⟨Same.new hD,Gb,rfl⟩ ?_ ?_
    ·rintro j c vs H2 hc ⟨s2,hD2,rfl⟩;refine ⟨trivial,?_⟩;unfold XQ;refine GO ?_;have hc':x.cps.toList[j]?=some c:=by rw [Array.getElem?_toList];exact hc
     have hj:j<x.length:=(Array.getElem?_eq_some_iff.mp hc).1;refine ⟨_,rfl,c,_,rfl,rfl,hD2,by rw [List.length_map,List.length_map,List.length_take];lia,s2.put hD,Gb,?_⟩;rw [List.take_add_one,hc'];simp
    ·rintro vs H2 ⟨s2,hD2,rfl⟩;refine ⟨D,_,rfl,SqL.of hD2,?_⟩;have full:x.cps.toList.take x.cps.size=x.cps.toList:=List.take_of_length_le (by rw [Array.length_toList];exact Nat.le_refl _);have fa:(((x.cps.toList.take x.cps.size).map λc=>decide (c∈("0123456789" : Str).cps.toList)).all id)=x.cps.toList.all λc=>decide (c∈("0123456789" : Str).cps.toList):=by rw [full,List.all_map];rfl
     cases ha:(x.cps.toList.all λc=>decide (c∈("0123456789" : Str).cps.toList)) with
     | false=>
      rw [ha] at fa;rw [fa];refine ⟨_,rfl,GO ?_⟩;exact no (by unfold Jp;rw [ha];simp) _ s2
     | true=>
      rw [ha] at fa;rw [fa];refine ⟨_,rfl,G4 ?_⟩;refine ⟨_,rfl,.str x,.str ("0" : Str),.str _,.str _,OY h1,OY (by decide +kernel),_,rfl,?_⟩;show if (false != PyData.eqv (.str x) (.str ("0" : Str)))=true then Q (.bl true) H2 else _
      have qq:=q H2 s2;have e:Jp x=(PyData.eqv (.str x) (.str ("0" : Str)) || !Txt.startswith x ("0" : Str)):=by unfold Jp;rw [ha,decide_eq_true c',decide_eq_true l4];rfl
      rw [e] at qq;cases z:PyData.eqv (.str x) (.str ("0" : Str)) with
      | true=>
       rw [z] at qq;exact qq
      | false=>
       rw [z] at qq;refine G4 ?_;exact ⟨_,rfl,rfl,x,_,rfl,rfl,_,rfl,qq⟩
   ·have c4:decide ((x.length:Int)<=4)=false:=decide_eq_false (by lia);rw [c4];refine GO (GO ?_);exact no (by unfold Jp;rw [decide_eq_false l4];simp) _ (Same.refl _)
  ·have c0:decide ((0:Int)<(x.length:Int))=false:=eq_false_of_ne_true c;refine ⟨_,rfl,?_⟩;refine GO (GO ?_);have c':¬ 0<x.length:=λz=>of_decide_eq_false c0 (by lia);exact no (by unfold Jp;rw [decide_eq_false c'];simp) _ (Same.refl _)
def Zad:Sp:=λvs H Q _=>∃x:Str,vs=[.str x]/\WE x/\∀H',Same H H'->Q (.bl (Jp x)) H'
theorem Za6:Gs ["word"] ["word"] (Ge YA):=⟨rfl,rfl,rfl,by decide +kernel,rfl,by decide +kernel,by decide +kernel⟩
theorem Zae {f fWri:Addr}{fd fdWri:FuncData}{t4:Tok}(F:Fun K "is_number" "is_number" YA f fd)(FWri:Fun K "is_written" "is_written" Yz fWri fdWri)(bWri:Binds K fdWri ["word", "most"] [])(mWri:mg "is_written" = some (.ref fWri))(GWri:FnOk P w K mg base CX0 1 fWri fdWri ["word", "most"] Zab)(mMoF:mg "MOST_FIGURES" = some (.int 4 t4)):FnOk P w K mg base CX0 2 f fd ["word"] Zad:=by
 refine F.ok Za6 (λvs H Q E h=>?_) (λcdv A outer s H vs Q E hr h=>?_)
 ·obtain ⟨_,rfl,_⟩:=h
  rfl
 ·obtain ⟨x,rfl,hx,q⟩:=h;refine ⟨_,Gg (Gp (GC GWri (hr.mono (by decide)) rfl mWri FWri.kp bWri .nil G0 (Ga (pv 0) (Ga (Ov (v:=.int 4) rfl mMoF ⟨_,rfl⟩) Gd)))),?_⟩;exact ⟨_,rfl,x,rfl,hx,q⟩
end
end M
namespace M
open PySem L2
theorem Vo {x:Str}(h:∀c∈x.cps.toList,c<128)(l:x.cps.toList.length<=4096):WE x:=by
 refine ⟨?_,?_,by rw [Array.length_toList] at l;exact l⟩
 ·rw [Array.all_eq_true'];intro c hc;exact decide_eq_true (h c (by simpa using hc))
 ·unfold PyData.strOk;rw [Array.all_eq_true'];intro c hc;have:=h c (by simpa using hc);exact decide_eq_true (by lia)
theorem UX {c:Nat}{r:List Nat}{x:Str}(e:x.cps.toList=c::r)(h:c≠48):Txt.startswith x ("0" : Str)=false:=by
 have ex:x=mkS (c::r):=JU e;rw [ex];unfold Txt.startswith Builtin.Str.subAt;have l0:("0" : Str).length=1:=by decide +kernel
 have c0:("0" : Str).cps=#[48]:=by decide +kernel
 rw [l0,c0];simp [mkS,h]
theorem Vp:∀(k m:Nat),m<10 ^ (k+1)->m≠0->∃c r,(Nat.toDigits 10 m).map Char.toNat=c::r/\c≠48
 | 0,m,h,h0=>by
  rw [Nat.toDigits_of_lt_base (by simpa using h)];refine ⟨_,[],rfl,?_⟩;have:∀d:Fin 10,d.val≠0->(Nat.digitChar d.val).toNat≠48:=by decide +kernel
  exact this ⟨m,by simpa using h⟩ h0
 | k+1,m,h,h0=>by
  rw [Nat.toDigits_eq_if (by decide)];split
  ·rename_i hm;refine ⟨_,[],rfl,?_⟩;have:∀d:Fin 10,d.val≠0->(Nat.digitChar d.val).toNat≠48:=by decide +kernel
   exact this ⟨m,hm⟩ h0
  ·obtain ⟨c,r,e,hc⟩:=Vp k (m / 10) (by rw [Nat.pow_succ] at h;lia) (by lia);exact ⟨c,r++[_],by rw [List.map_append,e];rfl,hc⟩
theorem YZ (i:Int)(h0:0<=i):0<(num i).cps.toList.length:=by
 obtain ⟨n,rfl⟩:∃n:Nat,i=n:=⟨i.toNat,by lia⟩;rw [W.KIN.signs_num,List.length_map];rw [Nat.toDigits_eq_if (by decide)];split <;> simp
theorem WF {i:Int}(h:0<=i/\i<=9999):Jp (num i)=true:=by
 obtain ⟨l4,fg⟩:=OX h.1 h.2;have l0:=YZ i h.1;rw [JV] at l4 l0;unfold Jp;rw [Bool.and_eq_true,Bool.and_eq_true,Bool.and_eq_true,decide_eq_true_eq,decide_eq_true_eq,List.all_eq_true];refine ⟨⟨⟨l0,l4⟩,λc hc=>decide_eq_true ?_⟩,?_⟩
 ·have key:∀d:Fin 10,48+d.val∈("0123456789" : Str).cps.toList:=by decide +kernel
  have:=fg c hc;have e:c=48+(⟨c-48,by lia⟩:Fin 10).val:=by show c=48+(c-48);lia
  rw [e];exact key _
 ·by_cases z:i=0
  ·subst z;decide +kernel
  ·obtain ⟨n,rfl⟩:∃n:Nat,i=n:=⟨i.toNat,by lia⟩;obtain ⟨c,r,e,hc⟩:=Vp 3 n (by lia) (by lia);rw [UX ((W.KIN.signs_num n).trans e) hc];simp
theorem WG {i:Int}(h:0<=i/\i<=9999):WE (num i):=by
 obtain ⟨l4,fg⟩:=OX h.1 h.2;exact Vo (λc hc=>by have:=fg c hc;lia) (by lia)
theorem Xz {i:Int}(h:0<=i/\i<=9999):PySem.intText? (num i)=some i:=W.KIN.num_reads h.1 (by lia)
def sSign:List Str:=["and", "or", "but", "(", ")"]
theorem Y0:∀w∈allW,Jp w=false:=by decide +kernel
theorem Y1:∀w∈sSign,Jp w=false/\w ∉ allW:=by decide +kernel
theorem UY:Jp ("" : Str)=false/\("" : Str) ∉ allW/\("" : Str) ∉ sSign:=by decide +kernel
theorem Od:∀w∈allW++sSign++[("" : Str)],WE w:=by
 have h:∀w∈allW++sSign++[("" : Str)],(∀c∈w.cps.toList,c<128)/\w.cps.toList.length<=4096:=by decide +kernel
 exact λw hw=>Vo (h w hw).1 (h w hw).2
inductive Jv where
 | leaf (w:Str) (ns:List Int)
 | sign (w:Str)
inductive ItAt (H:Hp):V->Jv->Prop
 | leaf {a:Addr} {w:Str} {ns:List Int}:H a=some (.tup (.str w::ns.map V.int))->ItAt H (.ref a) (.leaf w ns)
 | sign {w:Str}:ItAt H (.str w) (.sign w)
inductive Its (H:Hp):List V->List Jv->Prop
 | nil:Its H [] []
 | cons {v:V} {t:Jv} {vs:List V} {ts:List Jv}:ItAt H v t->Its H vs ts->Its H (v::vs) (t::ts)
theorem ItAt.keep {H H':Hp}(k:∀t ys,H t=some (.tup ys)->H' t=some (.tup ys)){v:V}{t:Jv}(h:ItAt H v t):ItAt H' v t:=by
 cases h with
 | leaf e=>exact .leaf (k _ _ e)
 | sign=>exact .sign
theorem Its.keep {H H':Hp}(k:∀t ys,H t=some (.tup ys)->H' t=some (.tup ys)){vs:List V}{ts:List Jv}(h:Its H vs ts):Its H' vs ts:=by
 induction h with
 | nil=>exact .nil
 | cons a _ ih=>exact .cons (a.keep k) ih
theorem Its.len {H:Hp}{vs:List V}{ts:List Jv}(h:Its H vs ts):vs.length=ts.length:=by
 induction h with
 | nil=>rfl
 | cons _ _ ih=>rw [List.length_cons,List.length_cons,ih]
theorem Its.snoc {H:Hp}{vs:List V}{ts:List Jv}{v:V}{t:Jv}(h:Its H vs ts)(a:ItAt H v t):Its H (vs++[v]) (ts++[t]):=by
 induction h with
 | nil=>exact .cons a .nil
 | cons b _ ih=>exact .cons b ih
theorem Its.last {H:Hp}{vs:List V}{ts:List Jv}{t:Jv}(h:Its H vs (ts++[t])):∃us v,vs=us++[v]/\Its H us ts/\ItAt H v t:=by
 induction ts generalizing vs with
 | nil=>
  cases h with
  | cons a b=>cases b;exact ⟨[],_,rfl,.nil,a⟩
 | cons e ts ih=>
  cases h with
  | cons a b=>
   obtain ⟨us,v,rfl,h1,h2⟩:=ih b;exact ⟨_::us,v,rfl,.cons a h1,h2⟩
theorem Its.get {H:Hp}{vs:List V}{ts:List Jv}(h:Its H vs ts):∀{i:Nat}{v:V},vs[i]?=some v->∃t,ts[i]?=some t/\ItAt H v t:=by
 induction h with
 | nil=>intro i v e;simp at e
 | cons a _ ih=>
  intro i v e;cases i with
  | zero=>simp at e;subst e;exact ⟨_,rfl,a⟩
  | succ i=>exact ih (by simpa using e)
inductive Rd:List Jv->List Str->List Jv->Prop
 | nil {A:List Jv}:Rd A [] A
 | num {A R:List Jv} {v:Str} {ns:List Int} {n:Int} {ws:List Str}:0<=n/\n<=9999->Rd (A++[.leaf v (ns++[n])]) ws R->Rd (A++[.leaf v ns]) (num n::ws) R
 | word {A R:List Jv} {w:Str} {ws:List Str}:w∈allW->Rd (A++[.leaf w []]) ws R->Rd A (w::ws) R
 | sign {A R:List Jv} {w:Str} {ws:List Str}:w∈sSign->Rd (A++[.sign w]) ws R->Rd A (w::ws) R
 | none {A R:List Jv} {ws:List Str}:Rd A ws R->Rd A ("" :: ws) R
theorem XA {A R:List Jv}{w:Str}{ws:List Str}(h:Rd A (w::ws) R):(∃n A' v ns,w=num n/\(0<=n/\n<=9999)/\A=A'++[.leaf v ns]/\Rd (A'++[.leaf v (ns++[n])]) ws R)\/(w∈allW/\Rd (A++[.leaf w []]) ws R)\/(w∈sSign/\Rd (A++[.sign w]) ws R)\/(w = "" /\ Rd A ws R):=by
 cases h with
 | num a b=>exact .inl ⟨_,_,_,_,rfl,a,rfl,b⟩
 | word a b=>exact .inr (.inl ⟨a,b⟩)
 | sign a b=>exact .inr (.inr (.inl ⟨a,b⟩))
 | none a=>exact .inr (.inr (.inr ⟨rfl,a⟩))
def Uc (x:Str):Str:=mkS (Oi 41 [32,41,32] (Oi 40 [32,40,32] x.cps.toList))
def Y2:Jv->Nat
 | .leaf _ ns=>ns.length
 | .sign _=>0
section
variable {P:Program}{w:World}{K:W.Frag}{mg:Str->Option Value}{base:Heap}
def Zaf:Sp:=λvs H Q _=>∃(x:Str)(R:List Jv),vs=[.str x]/\x.length<=700000/\(Txt.split (Uc x) (" " : Str)).length<=15000000/\Rd [] (Txt.split (Uc x) (" " : Str)) R/\∀(l:Addr)(us:List V)(H':Hp),Same H H'->H l=none->H' l=some (.lst us)->Its H' us R->Q (.ref l) H'
theorem scItm:Gs ["text", "items", "word"] ["text"] (Ge YG):=⟨rfl,rfl,rfl,by decide +kernel,rfl,by decide +kernel,by decide +kernel⟩
theorem WH (x:Str)(k:Nat)(h:x.length<=15000000):(Builtin.Str.partsBetween x (Builtin.Str.occurrences x (⟨#[32]⟩:Str) 0 x.length (x.length+1)) k).length<=sizeLine:=by
 unfold Builtin.Str.partsBetween;have:=List.length_take_le (x.length+1) (Go 32 0 x.cps.toList);rw [UO,sizeLine_eq];simp only [List.length_map,List.length_zip,List.length_cons,List.length_append,List.length_nil]
 lia
theorem Zag {f fIsn aJ aB aP aR aL:Addr}{fd fdIsn:FuncData}(F:Fun K "items_of" "items_of" YG f fd)(FIsn:Fun K "is_number" "is_number" YA fIsn fdIsn)(bIsn:Binds K fdIsn ["word"] [])(mIsn:mg "is_number" = some (.ref fIsn))(GIsn:FnOk P w K mg base CX0 2 fIsn fdIsn ["word"] Zad)(T:Wds K aJ aB aP aR aL)(mJoi:mg "JOINING" = some (.ref aJ))(mBar:mg "BARE" = some (.ref aB))(mPai:mg "PAIRED" = some (.ref aP))(mOfR:mg "OF_ROADS" = some (.ref aR))(mOfP:mg "OF_PLACES" = some (.ref aL))(mIsi:mg "isinstance" = none)(mTup:mg "tuple" = none)(mInt:mg "int" = none):O8 P w K mg base CX0 3 f fd ["text"] Zaf:=by
 refine F.okQ scItm (λvs H Q E h=>?_) (λcdv A outer s H vs Q E hr h=>?_)
 ·obtain ⟨_,_,rfl,_⟩:=h
  rfl
 ·obtain ⟨x,R,rfl,hx,hwl,rd,q⟩:=h;have h16:(16777216:Nat)=sizeLine:=sizeLine_eq.symm;refine ⟨_,G9 (PS.q (Gv (i:=1) scItm.nd rfl (Or.inl rfl) (GY Gd))) (G9 (Yr PassesOwn.never rfl (Xk (ZaV PySem.F.plainAttrs_str PySem.F.slot_str_split PySem.F.type_str_split Xf (Wt (c:=41) (Wt (c:=40) (PE.q (pv 0)))) (Ga Gm Gd)) K) (GF (i:=2) scItm.nd rfl (Or.inl rfl)) (PSs.q (Gg (G3 (Jh (GC GIsn (hr.mono (by decide)) rfl mIsn FIsn.kp bIsn .nil G0 (Ga (pv 2) Gd))) (Gf (G3 (PW.pt (JL (Jw (JZ (pv 1) (λ_=>rfl))) (Jy (Jw (Jh (Gi (O5 K) rfl mIsi Gz (Ga (Gn (Jk K) (pv 1) (VX OD Gc) (λ_ _=>rfl)) (Ga (G7 mTup GU) Gd)))))))) (Gg (Gp ON)) Gy)
    (Gg (VT (Gk (UA K) (Gn (Jk K) (pv 1) (VX OD Gc) (λ_ _=>rfl)) (G6 (Ga (Jn ZaT rfl mInt O4 (Ga (pv 2) Gd)) Gd))) (XH (pv 1) (VX OD Gc) U7)))) (Gg (G3 (Gj (kIn K) (pv 2) (Gk (UA K) (Gk (UA K) (Gk (UA K) (Jb mBar) (Jb mPai)) (Jb mOfR)) (Jb mOfP)) (by with_unfolding_all rfl)) (Gg (Jd (J1 PySem.F.plainAttrs_list PySem.F.slot_list_append PySem.F.type_list_append GR (pv 1) (Ga (G6 (Ga (pv 2) Gd)) Gd)))) (Gg (G3 (Gj (kIn K) (pv 2) (Gk (UA K) (Jb mJoi) (G6 (Ga Gm (Ga Gm Gd)))) (by with_unfolding_all rfl)) (Gg (Jd (J1 PySem.F.plainAttrs_list PySem.F.slot_list_append PySem.F.type_list_append GR (pv 1) (Ga (pv 2) Gd)))) (Gg (G3 (Gj Oy (pv 2) Gm (Gw _)) (Gg (Gp ON)) Gy)))))))))) (O9 (PS.q (Gp (pv 1))))),?_⟩
  refine ⟨Nat.zero_le _,λil hil=>?_⟩;have s1:Same H (upd H il (.lst [])):=Same.new hil;have e1:upd H il (.lst []) il=some (.lst []):=Gb;generalize upd H il (.lst [])=H1 at s1 e1 ⊢;have lz1:(" ( " : Str).length=3:=by decide +kernel
  have lz2:(" ) " : Str).length=3:=by decide +kernel
  have cz1:(" ( " : Str).cps.toList=[32,40,32]:=by decide +kernel
  have cz2:(" ) " : Str).cps.toList=[32,41,32]:=by decide +kernel
  have r1:=JJ 40 [32,40,32] x.cps.toList;have r2:=JJ 41 [32,41,32] (Oi 40 [32,40,32] x.cps.toList);rw [JV] at r1;simp only [List.length_cons,List.length_nil] at r1 r2;have lB:(Uc x).length<=15000000:=by unfold Uc;rw [Je];lia
  refine ⟨_,rfl,x,rfl,by rw [lz1];lia,_,rfl,by rw [lz2,cz1,Je];lia,rfl,?_⟩;rw [cz1,cz2];refine ⟨Uc x,(" " : Str),rfl,rfl,by decide +kernel,by lia,WH _ _ lB,λwl hwl2=>?_⟩;generalize Txt.split (Uc x) (" " : Str)=words at hwl rd ⊢;have s2:Same H1 (upd H1 wl (.lst (words.map V.str))):=Same.new hwl2;have e2:upd H1 wl (.lst (words.map V.str)) wl=some (.lst (words.map V.str)):=Gb;have nwi:wl≠il:=λz=>by rw [z,e1] at hwl2;cases hwl2
  generalize upd H1 wl (.lst (words.map V.str))=H2 at s2 e2 ⊢;refine ⟨wl,rfl,⟨_,SqL.of e2⟩,?_⟩;have e2i:=s2 _ _ e1;refine O0 (K:=K) (a:=wl) (xs:=words.map V.str) (λi σ H3=>∃(us:List V)(It:List Jv)(v2:Option V),σ=[some (.str x),some (.ref il),v2]/\Same H H3/\SameL il H2 H3/\H3 il=some (.lst us)/\Its H3 us It/\It.length<=i/\(∀t∈It,Y2 t<=i)/\Rd It (words.drop i) R) ⟨[],[],none,rfl,s1.trans s2,SameL.of (Same.refl _),e2i,.nil,Nat.le_refl _,λt ht=>(by cases ht),rd⟩ ?_ ?_ ?_
  ·rintro i σ H3 hi ⟨us,It,v2,rfl,s3,sl3,_⟩;exact SqL.of (sl3 _ _ nwi e2)
  ·rintro i y σ H3 hy ⟨us,It,v2,rfl,s3,sl3,e3,its,hIt,hlf,rd⟩;rw [List.getElem?_map] at hy;obtain ⟨wd,hwd,rfl⟩:=Option.map_eq_some_iff.mp hy;obtain ⟨hi',ep'⟩:=List.getElem?_eq_some_iff.mp hwd;rw [List.drop_eq_getElem_cons hi',ep'] at rd;have hus:=its.len;have upk:∀{Ha:Hp}{zs:List V}{ys:List V},Ha il=some (.lst ys)->∀t ws,Ha t=some (.tup ws)->upd Ha il (.lst zs) t=some (.tup ws):=λ{Ha zs ys} ea t ws e=>by rw [Gr (λz=>by rw [z,ea] at e;cases e)];exact e
   have upl:∀{Ha:Hp}{zs:List V},SameL il H2 Ha->SameL il H2 (upd Ha il (.lst zs)):=λ{Ha zs} sa b o n eb=>by rw [Gr n];exact sa _ _ n eb
   rcases XA rd with ⟨n,A',v,ns,rfl,hn,rfl,rd'⟩ | ⟨hw,rd'⟩ | ⟨hw,rd'⟩ | ⟨rfl,rd'⟩
   ·obtain ⟨us',u,rfl,its',at'⟩:=its.last;have hl':=its'.len;have hln:=hlf (.leaf v ns) (by simp);refine ⟨_,rfl,num n,rfl,WG hn,λH4 s4=>?_⟩;rw [WF hn];refine ⟨_,rfl,GO ?_⟩;have e4:=s4 _ _ e3;cases at' with
    | @leaf a _ _ ea=>
     have ea4:=s4 _ _ ea;refine ⟨_,rfl,true,.inl ⟨_,SqL.of e4,by cases us' <;> rfl⟩,G4 ?_⟩;refine ⟨_,rfl,_,rfl,il,_,_,_,rfl,rfl,SqL.of e4,U6 _ _,_,_,true,rfl,⟨_,rfl,G4 ?_⟩,.inl ⟨_,.tup ea4,rfl,GI⟩⟩;refine ⟨_,rfl,_,rfl,il,_,_,_,rfl,rfl,SqL.of e4,U6 _ _,_,rfl,num n,n,rfl,Xz hn,by have:=UU hn;lia,by show 1<=sizeLine;lia,λt ht=>?_⟩;have s5:Same H4 (upd H4 t (.tup [.int n])):=Same.new ht;have e5:upd H4 t (.tup [.int n]) t=some (.tup [.int n]):=Gb;generalize upd H4 t (.tup [.int n])=H5 at s5 e5 ⊢;refine ⟨a,t,_,_,rfl,rfl,SqT.of (s5 _ _ ea4),SqT.of e5,by simp,?_,λz=>(by cases z),λ_ p hp=>?_⟩
     ·rw [List.length_cons,List.length_map,List.length_singleton];have:ns.length<=i:=hln
      lia
     have s6:Same H5 (upd H5 p (.tup ((.str v::ns.map V.int)++[.int n]))):=Same.new hp;have e6:upd H5 p (.tup ((.str v::ns.map V.int)++[.int n])) p=some (.tup (.str v::(ns++[n]).map V.int)):=by rw [Gb,List.map_append];rfl
     generalize upd H5 p (.tup ((.str v::ns.map V.int)++[.int n]))=H6 at s6 e6 ⊢;have S46:=s4.trans (s5.trans s6);have e6i:=S46 _ _ e3;refine ⟨_,rfl,_,rfl,il,_,_,us'.length,rfl,rfl,e6i,?_,?_⟩
     ·unfold ixN;rw [if_neg (by decide),List.length_append,List.length_singleton];simp
      lia
     refine ⟨us'++[.ref p],A'++[.leaf v (ns++[n])],_,rfl,(s3.trans S46).put hil,upl (λb o n' eb=>S46 _ _ (sl3 _ _ n' eb)),?_,?_,?_,?_,rd'⟩
     ·rw [Gb];simp
     ·exact ((its'.keep (λt ws e=>S46 _ _ e)).snoc (.leaf e6)).keep (upk e6i)
     ·rw [List.length_append,List.length_singleton] at hIt ⊢;lia
     ·intro t ht;rcases List.mem_append.mp ht with h | h
      ·have:=hlf t (List.mem_append_left _ h);lia
      ·rw [List.mem_singleton.mp h];show (ns++[n]).length<=i+1;rw [List.length_append,List.length_singleton];have:ns.length<=i:=hln
       lia
   ·refine ⟨_,rfl,wd,rfl,Od wd (by simp [hw]),λH4 s4=>?_⟩;rw [Y0 wd hw];refine ⟨_,rfl,G4 ?_⟩;have e4:=s4 _ _ e3;refine ⟨_,rfl,aB,aP,_,_,rfl,rfl,T.b _,T.p _,by decide,by show 5<=sizeLine;lia,λz=>(by cases z),λ_ p1 hp1=>?_⟩;refine ⟨p1,aR,_,_,rfl,rfl,SqT.of Gb,T.r _,by decide,by show 7<=sizeLine;lia,λz=>(by cases z),λ_ p2 hp2=>?_⟩;refine ⟨p2,aL,_,_,rfl,rfl,SqT.of Gb,T.l _,by decide,by show 9<=sizeLine;lia,λz=>(by cases z),λ_ p3 hp3=>?_⟩;have s5:=(Same.new (o:=.tup (sBare.map V.str++sPair.map V.str)) hp1).trans ((Same.new (o:=.tup (sBare.map V.str++sPair.map V.str++[.str "with", .str "off"])) hp2).trans (Same.new (o:=.tup (sBare.map V.str++sPair.map V.str++[.str "with", .str "off"]++[.str "over", .str "past"])) hp3));refine ⟨p3,_,rfl,.inr (SqT.of (xs:=allW.map V.str) Gb),rfl,rfl,_,rfl,?_⟩;show if (inV (.str wd) (allW.map V.str))=true then _ else _
    rw [GL,decide_eq_true hw];refine GO ?_;have S45:=s4.trans s5;have e5:=S45 _ _ e3;refine ⟨_,rfl,.inl ⟨rfl,_,SqL.of e5⟩,_,rfl,by show 1<=sizeLine;lia,λt ht=>?_⟩;have s6:=Same.new (o:=.tup [.str wd]) ht;have e6:=s6 _ _ e5;have S46:=S45.trans s6;refine ⟨il,_,_,rfl,rfl,e6,by lia,?_⟩;refine ⟨us++[.ref t],It++[.leaf wd []],_,rfl,(s3.trans S46).put hil,upl (λb o n' eb=>S46 _ _ (sl3 _ _ n' eb)),Gb,((its.keep (λt ws e=>S46 _ _ e)).snoc (.leaf (ns:=[]) Gb)).keep (upk e6),by rw [List.length_append,List.length_singleton];lia,?_,rd'⟩;intro t ht;rcases List.mem_append.mp ht with h | h
    ·have:=hlf t h;lia
    ·rw [List.mem_singleton.mp h];exact Nat.zero_le _
   ·have hnn:=Y1 wd hw;refine ⟨_,rfl,wd,rfl,Od wd (by simp [hw]),λH4 s4=>?_⟩;rw [hnn.1];refine ⟨_,rfl,G4 ?_⟩;have e4:=s4 _ _ e3;refine ⟨_,rfl,aB,aP,_,_,rfl,rfl,T.b _,T.p _,by decide,by show 5<=sizeLine;lia,λz=>(by cases z),λ_ p1 hp1=>?_⟩;refine ⟨p1,aR,_,_,rfl,rfl,SqT.of Gb,T.r _,by decide,by show 7<=sizeLine;lia,λz=>(by cases z),λ_ p2 hp2=>?_⟩;refine ⟨p2,aL,_,_,rfl,rfl,SqT.of Gb,T.l _,by decide,by show 9<=sizeLine;lia,λz=>(by cases z),λ_ p3 hp3=>?_⟩;have s5:=(Same.new (o:=.tup (sBare.map V.str++sPair.map V.str)) hp1).trans ((Same.new (o:=.tup (sBare.map V.str++sPair.map V.str++[.str "with", .str "off"])) hp2).trans (Same.new (o:=.tup (sBare.map V.str++sPair.map V.str++[.str "with", .str "off"]++[.str "over", .str "past"])) hp3));refine ⟨p3,_,rfl,.inr (SqT.of (xs:=allW.map V.str) Gb),rfl,rfl,_,rfl,?_⟩;show if (inV (.str wd) (allW.map V.str))=true then _ else _
    rw [GL,decide_eq_false hnn.2];refine G4 ?_;refine ⟨_,rfl,by show 2<=sizeLine;lia,λp4 hp4=>?_⟩;refine ⟨aJ,p4,_,_,rfl,rfl,T.j _,SqT.of Gb,by decide,by show 5<=sizeLine;lia,λz=>(by cases z),λ_ p5 hp5=>?_⟩;have s6:=(Same.new (o:=.tup [.str "(", .str ")"]) hp4).trans (Same.new (o:=.tup (sJoin.map V.str++[.str "(", .str ")"])) hp5);refine ⟨p5,_,rfl,.inr (SqT.of (xs:=sSign.map V.str) Gb),rfl,rfl,_,rfl,?_⟩;show if (inV (.str wd) (sSign.map V.str))=true then _ else _
    rw [GL,decide_eq_true hw];refine GO ?_;have S46:=s4.trans (s5.trans s6);have e6:=S46 _ _ e3;refine ⟨_,rfl,.inl ⟨rfl,_,SqL.of e6⟩,_,rfl,il,_,_,rfl,rfl,e6,by lia,?_⟩;refine ⟨us++[.str wd],It++[.sign wd],_,rfl,(s3.trans S46).put hil,upl (λb o n' eb=>S46 _ _ (sl3 _ _ n' eb)),Gb,((its.keep (λt ws e=>S46 _ _ e)).snoc .sign).keep (upk e6),by rw [List.length_append,List.length_singleton];lia,?_,rd'⟩;intro t ht;rcases List.mem_append.mp ht with h | h
    ·have:=hlf t h;lia
    ·rw [List.mem_singleton.mp h];exact Nat.zero_le _
   ·refine ⟨_,rfl,_,rfl,Od "" (by simp),λH4 s4=>?_⟩;rw [UY.1];refine ⟨_,rfl,G4 ?_⟩;have e4:=s4 _ _ e3;refine ⟨_,rfl,aB,aP,_,_,rfl,rfl,T.b _,T.p _,by decide,by show 5<=sizeLine;lia,λz=>(by cases z),λ_ p1 hp1=>?_⟩;refine ⟨p1,aR,_,_,rfl,rfl,SqT.of Gb,T.r _,by decide,by show 7<=sizeLine;lia,λz=>(by cases z),λ_ p2 hp2=>?_⟩;refine ⟨p2,aL,_,_,rfl,rfl,SqT.of Gb,T.l _,by decide,by show 9<=sizeLine;lia,λz=>(by cases z),λ_ p3 hp3=>?_⟩;have s5:=(Same.new (o:=.tup (sBare.map V.str++sPair.map V.str)) hp1).trans ((Same.new (o:=.tup (sBare.map V.str++sPair.map V.str++[.str "with", .str "off"])) hp2).trans (Same.new (o:=.tup (sBare.map V.str++sPair.map V.str++[.str "with", .str "off"]++[.str "over", .str "past"])) hp3));refine ⟨p3,_,rfl,.inr (SqT.of (xs:=allW.map V.str) Gb),rfl,rfl,_,rfl,?_⟩;show if (inV (.str "") (allW.map V.str))=true then _ else _
    rw [GL,decide_eq_false UY.2.1];refine G4 ?_;refine ⟨_,rfl,by show 2<=sizeLine;lia,λp4 hp4=>?_⟩;refine ⟨aJ,p4,_,_,rfl,rfl,T.j _,SqT.of Gb,by decide,by show 5<=sizeLine;lia,λz=>(by cases z),λ_ p5 hp5=>?_⟩;have s6:=(Same.new (o:=.tup [.str "(", .str ")"]) hp4).trans (Same.new (o:=.tup (sJoin.map V.str++[.str "(", .str ")"])) hp5);refine ⟨p5,_,rfl,.inr (SqT.of (xs:=sSign.map V.str) Gb),rfl,rfl,_,rfl,?_⟩;show if (inV (.str "") (sSign.map V.str))=true then _ else _
    rw [GL,decide_eq_false UY.2.2];refine G4 ?_;have S46:=s4.trans (s5.trans s6);have e6:=S46 _ _ e3;refine ⟨_,rfl,rfl,_,rfl,?_⟩;rw [decide_eq_true rfl];refine G4 ?_;exact ⟨us,It,_,rfl,s3.trans S46,λb o n' eb=>S46 _ _ (sl3 _ _ n' eb),e6,its.keep (λt ws e=>S46 _ _ e),by lia,λt ht=>by have:=hlf t ht;lia,rd'⟩
  ·rintro σ H3 ⟨us,It,v2,rfl,s3,sl3,e3,its,hIt,hlf,rd⟩;rw [List.drop_of_length_le (by rw [List.length_map];exact Nat.le_refl _)] at rd;cases rd;exact ⟨_,rfl,q _ _ _ s3 hil e3 its⟩
end
end M
namespace M
open PySem L2
def Oo (w:Str)(ns:List Int):PyData:=if w∈sFour then .tuple [.str w,.tuple (ns.map .int)] else .tuple (.str w::ns.map .int)
section
variable {P:Program}{w:World}{K:W.Frag}{mg:Str->Option Value}{base:Heap}
def WI (w:Str)(ns:List Int):Prop:=ns.length<=1000/\(w ∉ sFour->ns.length<=999)
def Zah:Sp:=λvs H Q _=>∃(a:Addr)(wd:Str)(ns:List Int),vs=[.ref a]/\H a=some (.tup (.str wd::ns.map V.int))/\WI wd ns/\∀(v:V)(H':Hp),Same H H'->Th H' v (Oo wd ns)->Q v H'
theorem Za7:Gs ["item"] ["item"] (Ge YH):=⟨rfl,rfl,rfl,by decide +kernel,rfl,by decide +kernel,by decide +kernel⟩
theorem Zai {f aJ aB aP aR aL:Addr}{fd:FuncData}(F:Fun K "leaf_of" "leaf_of" YH f fd)(T:Wds K aJ aB aP aR aL)(mOfR:mg "OF_ROADS" = some (.ref aR))(mOfP:mg "OF_PLACES" = some (.ref aL)):FnOk P w K mg base CX0 1 f fd ["item"] Zah:=by
 refine F.ok Za7 (λvs H Q E h=>?_) (λcdv A outer s H vs Q E hr h=>?_)
 ·obtain ⟨_,_,_,rfl,_⟩:=h
  rfl
 ·obtain ⟨a,wd,ns,rfl,e,⟨z1,z2⟩,q⟩:=h;refine ⟨_,Gg (Gp (Oq (Gj (kIn K) (Gn (Om K) (pv 0) Gc (λ_ _=>rfl)) (Gk (UA K) (Jb mOfR) (Jb mOfP)) (by with_unfolding_all rfl)) (G6 (Ga (Gn (Om K) (pv 0) Gc (λ_ _=>rfl)) (Ga (GT (Y7 K) (pv 0) (GX Gc) Ji) Gd))) (pv 0))),?_⟩;refine ⟨_,rfl,a,_,_,_,rfl,rfl,SqT.of e,Gh (j:=0) rfl,aR,aL,_,_,rfl,rfl,T.r _,T.l _,(by simp),(by show 4<=sizeLine;decide),(λz=>by cases z),λ_ p hp=>?_⟩;have s1:Same H (upd H p (.tup (sFour.map V.str))):=Same.new hp;refine ⟨p,_,rfl,.inr (SqT.of (xs:=sFour.map V.str) Gb),rfl,rfl,_,rfl,?_⟩;show if (inV (.str wd) (sFour.map V.str))=true then _ else _
  rw [GL];have e1:=s1 _ _ e;unfold Oo at q;by_cases h4:wd∈sFour
  ·rw [decide_eq_true h4];rw [if_pos h4] at q;refine GO ⟨_,rfl,a,_,_,_,rfl,rfl,SqT.of e1,Gh (j:=0) rfl,_,rfl,_,rfl,a,_,rfl,SqT.of e1,?_,λt ht=>?_⟩
   ·rw [List.length_cons];intro hz;have:=hz.1;simp [HT.sIx] at this
   ·have ec:JN (V.str wd::ns.map V.int) (some 1) none=ns.map V.int:=JI (xs:=V.str wd::ns.map V.int) (k:=1);rw [ec];have s2:Same (upd H p (.tup (sFour.map V.str))) (upd (upd H p (.tup (sFour.map V.str))) t (.tup (ns.map V.int))):=Same.new ht;refine ⟨JP,λt2 ht2=>?_⟩;have s3:=Same.new (o:=.tup [.str wd,.ref t]) ht2;exact q _ _ (s1.trans (s2.trans s3)) (.tup Gb (by simp) (.cons (.str _) (.cons (.tup (s3 _ _ Gb) (by rw [List.length_map];exact z1) (JK _ ns)) .nil)))
  ·rw [decide_eq_false h4];rw [if_neg h4] at q;refine G4 ⟨_,rfl,?_⟩;exact q _ _ s1 (.tup e1 (by rw [List.length_cons,List.length_map];have:=z2 h4;lia) (.cons (.str _) (JK _ ns)))
def El (d:PyData):Prop:=(∃w,d=.str w)\/∃m,Ws d m
theorem El.keep {H H':Hp}(k:∀t ys,H t=some (.tup ys)->H' t=some (.tup ys)){d:PyData}(h:El d){v:V}(t:Th H v d):Th H' v d:=by
 rcases h with ⟨w,rfl⟩ | ⟨m,hw⟩
 ·cases t;exact .str _
 ·exact hw.keep k t
theorem Ud {H H':Hp}(k:∀t ys,H t=some (.tup ys)->H' t=some (.tup ys)):∀{vs:List V}{ds:List PyData},(∀d∈ds,El d)->Ths H vs ds->Ths H' vs ds
 | _,_,_,.nil=>.nil
 | _,_,h,.cons a b=>.cons ((h _ (List.mem_cons_self ..)).keep k a) (Ud k (λd hd=>h d (List.mem_cons_of_mem _ hd)) b)
inductive Run:List PyData->List Jv->List PyData->Prop
 | nil {S:List PyData}:Run S [] S
 | leaf {S R:List PyData} {w:Str} {ns:List Int} {ts:List Jv}:WI w ns->Ws (Oo w ns) 1->Run (S++[Oo w ns]) ts R->Run S (.leaf w ns::ts) R
 | sign {S R:List PyData} {w:Str} {ts:List Jv}:w ≠ ")" -> Run (S++[.str w]) ts R->Run S (.sign w::ts) R
 | close {S R:List PyData} {c:Str} {b d:PyData} {m:Nat} {ts:List Jv}:Ws (.tuple [.str c,b,d]) m->Run (S++[.tuple [.str c,b,d]]) ts R->Run (S++[.str "(", b,.str c,d]) (.sign ")" :: ts) R
theorem WJ {S R:List PyData}{t:Jv}{ts:List Jv}(h:Run S (t::ts) R):(∃w ns,t=.leaf w ns/\WI w ns/\Ws (Oo w ns) 1/\Run (S++[Oo w ns]) ts R)\/(∃w,t=.sign w/\w ≠ ")" /\ Run (S++[.str w]) ts R)\/(∃S' c b d m,t=.sign ")" /\ S=S'++[.str "(", b,.str c,d]/\Ws (.tuple [.str c,b,d]) m/\Run (S'++[.tuple [.str c,b,d]]) ts R):=by
 cases h with
 | leaf a b c=>exact .inl ⟨_,_,rfl,a,b,c⟩
 | sign a b=>exact .inr (.inl ⟨_,rfl,a,b⟩)
 | close a b=>exact .inr (.inr ⟨_,_,_,_,_,rfl,rfl,a,b⟩)
theorem UJ {H:Hp}:∀{us:List V}{ds es:List PyData},Ths H us (ds++es)->∃xs ys,us=xs++ys/\Ths H xs ds/\Ths H ys es
 | us,[],es,h=>⟨[],us,rfl,.nil,h⟩
 | _,d::ds,es,.cons a b=>by
  obtain ⟨xs,ys,rfl,h1,h2⟩:=UJ b;exact ⟨_::xs,ys,rfl,.cons a h1,h2⟩
def Zaj:Sp:=λvs H Q _=>∃(il:Addr)(us:List V)(ts:List Jv)(d:PyData),vs=[.ref il]/\H il=some (.lst us)/\Its H us ts/\us.length<=15000000/\Run [] ts [d]/\El d/\∀(v:V)(H':Hp),Same H H'->Th H' v d->Q v H'
theorem scWsh:Gs ["items", "stack", "item", "within"] ["items"] (Ge YI):=⟨rfl,rfl,rfl,by decide +kernel,rfl,by decide +kernel,by decide +kernel⟩
theorem WK (xs:List V)(a b c d:V):JN (xs++[a,b,c,d]) (some (-4)) none=[a,b,c,d]/\JN (xs++[a,b,c,d]) none (some (-4))=xs:=by
 have e:HT.sIx (xs++[a,b,c,d]).length 0 (some (-4))=xs.length:=by
  unfold HT.sIx;simp
  lia
 have e2:HT.sIx (xs++[a,b,c,d]).length (xs++[a,b,c,d]).length (some (-4))=xs.length:=by
  unfold HT.sIx;simp
  lia
 unfold JN;rw [e,e2];refine ⟨?_,?_⟩
 ·rw [List.drop_left];apply List.take_of_length_le;simp [HT.sIx]
 ·show ((xs++[a,b,c,d]).drop 0).take (xs.length-0)=xs;simp
theorem Zak {f fLo:Addr}{fd fdLo:FuncData}(F:Fun K "wish_of" "wish_of" YI f fd)(FLo:Fun K "leaf_of" "leaf_of" YH fLo fdLo)(bLo:Binds K fdLo ["item"] [])(mLo:mg "leaf_of" = some (.ref fLo))(GLo:FnOk P w K mg base CX0 1 fLo fdLo ["item"] Zah)(k:ZL K)(mIsi:mg "isinstance" = none)(mTup:mg "tuple" = none)(mLen:mg "len" = none):FnOk P w K mg base CX0 2 f fd ["items"] Zaj:=by
 refine F.ok scWsh (λvs H Q E h=>?_) (λcdv A outer s H vs Q E hr h=>?_)
 ·obtain ⟨_,_,_,_,rfl,_⟩:=h
  rfl
 ·obtain ⟨il,us,ts,d,rfl,eil,its,hul,run,eld,q⟩:=h;have h16:(16777216:Nat)=sizeLine:=sizeLine_eq.symm;have qJ:=its.len;refine ⟨_,Gf (Gv (i:=1) scWsh.nd rfl (Or.inl rfl) (GY Gd))
    (Gf (Og PassesOwn.never rfl (ZaR K (pv 0)) (GF (i:=2) scWsh.nd rfl (Or.inl rfl))
    (Gg (G3 (Jh (Gi (O5 K) rfl mIsi Gz (Ga (pv 2) (Ga (G7 mTup GU) Gd)))) (Gg (Jd (J1 PySem.F.plainAttrs_list PySem.F.slot_list_append PySem.F.type_list_append GR (pv 1) (Ga (GC GLo (hr.mono (by decide)) rfl mLo FLo.kp bLo .nil G0 (Ga (pv 2) Gd)) Gd)))) (Gg (G3 (Gj Oy (pv 2) Gm (Gw _)) (Gg (Jd (J1 PySem.F.plainAttrs_list PySem.F.slot_list_append PySem.F.type_list_append GR (pv 1) (Ga (pv 2) Gd)))) (Gf (Gv (i:=3) scWsh.nd rfl (Or.inl rfl) (GT (kSl K) (pv 1) (GX (VX OD Gc)) Ji))
    (Gf (G3 (PW.pt (JL (Gj X4 (Gi (VA K) rfl mLen PySem.boot_len (Ga (pv 3) Gd)) Gc (Gw _)) (Jy (Gj Oy (Gn (Jk K) (pv 3) Gc (λ_ _=>rfl)) Gm (Gw _))))) (Gg (Gp ON)) Gy)
    (Gg (Gv (i:=1) scWsh.nd rfl (Or.inl rfl) (Gk Vb (GT (kSl K) (pv 1) Ji (GX (VX OD Gc))) (GY (Ga (G6 (Ga (Gn (Jk K) (pv 3) Gc (λ_ _=>rfl)) (Ga (Gn (Jk K) (pv 3) Gc (λ_ _=>rfl)) (Ga (Gn (Jk K) (pv 3) Gc (λ_ _=>rfl)) Gd)))) Gd))))))))))))
    (Gg (Gp (Oq (Gj JM (Gi (VA K) rfl mLen PySem.boot_len (Ga (pv 1) Gd)) Gc (Gw _)) (Gn (Jk K) (pv 1) Gc (λ_ _=>rfl)) ON)))),?_⟩
  refine ⟨Nat.zero_le _,λs0 hs0=>?_⟩;have s1:Same H (upd H s0 (.lst [])):=Same.new hs0;have e1:upd H s0 (.lst []) s0=some (.lst []):=Gb;generalize upd H s0 (.lst [])=H1 at s1 e1 ⊢;refine ⟨_,rfl,il,rfl,⟨_,SqL.of (s1 _ _ eil)⟩,?_⟩;refine O0 (K:=K) (a:=il) (xs:=us) (λi σ H3=>∃(sl:Addr)(xs:List V)(S:List PyData)(v2 v3:Option V),σ=[some (.ref il),some (.ref sl),v2,v3]/\Same H H3/\H sl=none/\H3 sl=some (.lst xs)/\Ths H3 xs S/\(∀d∈S,El d)/\S.length<=i/\Run S (ts.drop i) [d]) ⟨s0,[],[],none,none,rfl,s1,hs0,e1,.nil,λd hd=>(by cases hd),Nat.le_refl _,run⟩ ?_ ?_ ?_
  ·rintro i σ H3 hi ⟨sl,xs,S,v2,v3,rfl,s3,_⟩;exact SqL.of (s3 _ _ eil)
  ·rintro i y σ H3 hy ⟨sl,xs,S,v2,v3,rfl,s3,hsl,e3,th,hel,hS,run⟩;obtain ⟨t,ht,at0⟩:=its.get hy;have at3:=at0.keep (λt ys e=>s3 _ _ e);obtain ⟨hi',ep'⟩:=List.getElem?_eq_some_iff.mp ht;rw [List.drop_eq_getElem_cons hi',ep'] at run;have hxs:=th.len;have upk:∀{Ha:Hp}{zs:List V}{ys:List V},Ha sl=some (.lst ys)->∀t ws,Ha t=some (.tup ws)->upd Ha sl (.lst zs) t=some (.tup ws):=λ{Ha zs ys} ea t ws e=>by rw [Gr (λz=>by rw [z,ea] at e;cases e)];exact e
   rcases WJ run with ⟨wd,ns,rfl,hlk,hws,run'⟩ | ⟨wd,rfl,hne,run'⟩ | ⟨S',c,b,d',m,rfl,rfl,hws,run'⟩
   ·cases at3 with
    | @leaf a _ _ ea=>
     refine ⟨_,rfl,_,_,true,rfl,⟨_,rfl,GO ?_⟩,.inl ⟨_,.tup ea,rfl,GI⟩⟩;refine ⟨_,rfl,.inl ⟨rfl,_,SqL.of e3⟩,_,rfl,a,wd,ns,rfl,ea,hlk,λv H4 s4 t4=>?_⟩;have e4:=s4 _ _ e3;refine ⟨sl,_,_,rfl,rfl,e4,by lia,?_⟩;have hel':∀x∈S++[Oo wd ns],El x:=λx hx=>(List.mem_append.mp hx).elim (hel x) λz=>by rw [List.mem_singleton.mp z];exact .inr ⟨1,hws⟩
     exact ⟨sl,xs++[v],S++[Oo wd ns],_,_,rfl,(s3.trans s4).put hsl,hsl,Gb,Ud (upk e4) hel' ((th.same s4).app (.cons t4 .nil)),hel',by rw [List.length_append,List.length_singleton];lia,run'⟩
   ·cases at3;refine ⟨_,rfl,_,_,false,rfl,⟨_,rfl,G4 ?_⟩,.inl ⟨_,.str _,rfl,k.st⟩⟩;refine ⟨_,rfl,rfl,_,rfl,?_⟩;rw [show (!decide (V.str wd=V.str ")"))=true by rw [decide_eq_false (λz=>hne (V.str.inj z))];rfl];refine GO ?_;refine ⟨_,rfl,.inl ⟨rfl,_,SqL.of e3⟩,_,rfl,sl,_,_,rfl,rfl,e3,by lia,?_⟩;have hel':∀x∈S++[.str wd],El x:=λx hx=>(List.mem_append.mp hx).elim (hel x) λz=>by rw [List.mem_singleton.mp z];exact .inl ⟨wd,rfl⟩
    exact ⟨sl,xs++[.str wd],S++[.str wd],_,_,rfl,s3.put hsl,hsl,Gb,Ud (upk e3) hel' (th.app (.cons (.str _) .nil)),hel',by rw [List.length_append,List.length_singleton];lia,run'⟩
   ·cases at3;refine ⟨_,rfl,_,_,false,rfl,⟨_,rfl,G4 ?_⟩,.inl ⟨_,.str _,rfl,k.st⟩⟩;refine ⟨_,rfl,rfl,_,rfl,?_⟩;rw [decide_eq_true rfl];refine G4 ?_;obtain ⟨xs',ys,rfl,th1,th2⟩:=UJ th;obtain ⟨vb,vd,rfl,tb,td⟩:∃vb vd,ys=[.str "(", vb,.str c,vd]/\Th H3 vb b/\Th H3 vd d':=by
     cases th2 with
     | cons t1 r1=>
      cases t1;cases r1 with
      | cons t2 r2=>
       cases r2 with
       | cons t3 r3=>
        cases t3;cases r3 with
        | cons t4 r4=>
         cases r4;exact ⟨_,_,rfl,t2,t4⟩
    obtain ⟨c1,c2⟩:=WK xs' (.str "(") vb (.str c) vd;refine ⟨_,rfl,_,rfl,_,rfl,sl,_,rfl,SqL.of e3,λp1 hp1=>?_⟩;rw [show JN (xs'++[V.str "(", vb,.str c,vd]) (some (-4)) none=_ from c1];have s4:Same H3 (upd H3 p1 (.lst [.str "(", vb,.str c,vd])):=Same.new hp1;have e4:upd H3 p1 (.lst [.str "(", vb,.str c,vd]) p1=some (.lst [.str "(", vb,.str c,vd]):=Gb;generalize upd H3 p1 (.lst [.str "(", vb,.str c,vd])=H4 at s4 e4 ⊢;dsimp only [Jz];refine ⟨_,rfl,p1,_,rfl,.inl (SqL.of e4),_,_,rfl,rfl,_,rfl,G4 ?_⟩;refine ⟨_,rfl,p1,_,_,_,rfl,rfl,SqL.of e4,Gh (j:=0) rfl,rfl,_,rfl,?_⟩;rw [decide_eq_true rfl];refine G4 ?_;refine ⟨_,rfl,_,rfl,_,rfl,sl,_,rfl,SqL.of (s4 _ _ e3),λp2 hp2=>?_⟩;rw [show JN (xs'++[V.str "(", vb,.str c,vd]) none (some (-4))=_ from c2];have s5:Same H4 (upd H4 p2 (.lst xs')):=Same.new hp2;have e5:upd H4 p2 (.lst xs') p2=some (.lst xs'):=Gb;generalize upd H4 p2 (.lst xs')=H5 at s5 e5 ⊢;have e45:=s5 _ _ e4;refine ⟨_,rfl,p1,_,_,_,rfl,rfl,SqL.of e45,Gh (j:=2) rfl,_,rfl,p1,_,_,_,rfl,rfl,SqL.of e45,Gh (j:=1) rfl,_,rfl,p1,_,_,_,rfl,rfl,SqL.of e45,Gh (j:=3) rfl,by show 3<=sizeLine;lia,λp3 hp3=>?_⟩;have s6:Same H5 (upd H5 p3 (.tup [.str c,vb,vd])):=Same.new hp3;have e6:upd H5 p3 (.tup [.str c,vb,vd]) p3=some (.tup [.str c,vb,vd]):=Gb;generalize upd H5 p3 (.tup [.str c,vb,vd])=H6 at s6 e6 ⊢;refine ⟨by show 1<=sizeLine;lia,λp4 hp4=>?_⟩;have s7:Same H6 (upd H6 p4 (.lst [.ref p3])):=Same.new hp4;have e7:upd H6 p4 (.lst [.ref p3]) p4=some (.lst [.ref p3]):=Gb;generalize upd H6 p4 (.lst [.ref p3])=H7 at s7 e7 ⊢;rw [List.length_append] at hxs hS;simp only [List.length_append,List.length_cons,List.length_nil] at hxs hS;refine ⟨p2,p4,_,_,rfl,rfl,s7 _ _ (s6 _ _ e5),e7,by rw [List.length_singleton];lia,λp5 hp5=>?_⟩;have s8:=Same.new (o:=.lst (xs'++[.ref p3])) hp5;have S78:=s7.trans s8;have S48:=(s4.trans s5).trans (s6.trans S78);refine ⟨p5,xs'++[.ref p3],S'++[.tuple [.str c,b,d']],_,_,rfl,s3.trans S48,?_,Gb,(th1.same S48).app (.cons (.tup (S78 _ _ e6) (by simp) (.cons (.str _) (.cons (tb.same S48) (.cons (td.same S48) .nil)))) .nil),λx hx=>?_,by rw [List.length_append,List.length_singleton];lia,run'⟩
    ·exact (s3.trans ((s4.trans s5).trans (s6.trans s7))).free hp5
    ·rcases List.mem_append.mp hx with z | z
     ·exact hel x (List.mem_append_left _ z)
     ·rw [List.mem_singleton.mp z];exact .inr ⟨m,hws⟩
  ·rintro σ H3 ⟨sl,xs,S,v2,v3,rfl,s3,hsl,e3,th,hel,hS,run⟩;rw [List.drop_of_length_le (by lia)] at run;cases run;cases th with
   | cons t1 r1=>
    cases r1;refine ⟨_,rfl,sl,_,rfl,.inl (SqL.of e3),rfl,_,rfl,GO ?_⟩;exact ⟨_,rfl,sl,_,_,_,rfl,rfl,SqL.of e3,Gh (j:=0) rfl,q _ _ s3 t1⟩
end
end M
namespace M
open PySem L2
def Wsp (l:List Nat):List (List Nat):=Gx 32 [] l
theorem UZ (b:List Nat):∀(a B:List Nat),Gx 32 B (a++32::b)=Gx 32 B a++Gx 32 [] b
 | [],B=>by simp [Gx]
 | x::a,B=>by
  show (if x=32 then B::Gx 32 [] (a++32::b) else Gx 32 (B++[x]) (a++32::b))=(if x=32 then B::Gx 32 [] a else Gx 32 (B++[x]) a)++Gx 32 [] b;by_cases h:x=32
  ·rw [if_pos h,if_pos h,UZ b a [],List.cons_append]
  ·rw [if_neg h,if_neg h,UZ b a (B++[x])]
theorem Oe (a b:List Nat):Wsp (a++32::b)=Wsp a++Wsp b:=UZ b a []
theorem U0 {a:List Nat}(h:32 ∉ a):Wsp a=[a]:=by
 unfold Wsp;have:=Jc (c:=32) (ws:=[]) (w:=a) (by simpa using h);simpa using this
theorem Y3:Wsp []=[[]]:=rfl
theorem Y4 (l:List Nat):(Wsp l).length<=l.length+1:=by
 have:∀(l B:List Nat),(Gx 32 B l).length<=l.length+1:=by
  intro l
  induction l with
  | nil=>intro B;simp [Gx]
  | cons x l ih=>
   intro B;unfold Gx;split
   ·rw [List.length_cons,List.length_cons];have:=ih [];lia
   ·have:=ih (B++[x]);rw [List.length_cons];lia
 exact this l []
theorem VJ (x:Str):Txt.split x (" " : Str)=(Wsp x.cps.toList).map mkS:=by
 have key:∀l:List Nat,∃w ws,l=w++ws.flatMap (λv=>32::v)/\(∀v∈w::ws,32 ∉ v):=by
  intro l
  induction l with
  | nil=>exact ⟨[],[],rfl,by simp⟩
  | cons x l ih=>
   obtain ⟨w,ws,e,h⟩:=ih;by_cases hx:x=32
   ·exact ⟨[],w::ws,by rw [e,hx];rfl,λv hv=>(List.mem_cons.mp hv).elim (λz=>by rw [z];simp) (h v)⟩
   ·refine ⟨x::w,ws,by rw [e];rfl,λv hv=>(List.mem_cons.mp hv).elim (λz=>?_) λz=>h v (List.mem_cons_of_mem _ z)⟩;rw [z];intro y;rcases List.mem_cons.mp y with y | y
    ·exact hx y.symm
    ·exact h w (List.mem_cons_self ..) y
 obtain ⟨w,ws,e,h⟩:=key x.cps.toList;have h1:=UP (x:=x) (c:=32) (by decide) e h;have h2:=Jc (c:=32) h;unfold Wsp;rw [e,h2];exact h1
def rep (l:List Nat):List Nat:=Oi 41 [32,41,32] (Oi 40 [32,40,32] l)
theorem Vq (c:Nat)(z a b:List Nat):Oi c z (a++b)=Oi c z a++Oi c z b:=by unfold Oi;rw [List.flatMap_append]
theorem JX (a b:List Nat):rep (a++b)=rep a++rep b:=by unfold rep;rw [Vq,Vq]
theorem Ou {l:List Nat}(h:∀c∈l,c≠40/\c≠41):rep l=l:=by
 unfold rep;rw [OG (λz=>(h _ z).1 rfl),OG (λz=>(h _ z).2 rfl)]
theorem XB:rep [40]=[32,40,32]:=by decide
theorem WL:rep [41]=[32,41,32]:=by decide
theorem Y5 (l:List Nat):(rep l).length<=16 * l.length:=by
 have r1:=JJ 40 [32,40,32] l;have r2:=JJ 41 [32,41,32] (Oi 40 [32,40,32] l);simp only [List.length_cons,List.length_nil] at r1 r2;unfold rep
 lia
theorem WM:∀w∈allW++sJoin,32 ∉ w.cps.toList/\∀c∈w.cps.toList,c≠40/\c≠41:=by decide +kernel
theorem XV {i:Int}(h:0<=i/\i<=9999):32 ∉ (num i).cps.toList/\∀c∈(num i).cps.toList,c≠40/\c≠41:=by
 have:=(OX h.1 h.2).2;exact ⟨λz=>by have:=this 32 z;lia,λc hc=>by have:=this c hc;lia⟩
theorem WN (x:Str):mkS x.cps.toList=x:=JU rfl
inductive Dx:PyData->List Nat->List Jv->Prop
 | leaf {w:Str} {ns:List Int}:w∈allW->WI w ns->Ws (Oo w ns) 1->(∀i∈ns,0<=i/\i<=9999)->Dx (Oo w ns) (w.cps.toList++(ns.map PyData.int).flatMap λd=>32::Xt d) [.leaf w ns]
 | join {w:Str} {a b:PyData} {s t:List Nat} {xs ys:List Jv} {m n:Nat}:w∈sJoin->Ws a m->Ws b n->Dx a s xs->Dx b t ys->Dx (.tuple [.str w,a,b]) (Jm w s t) (.sign "(" :: (xs++.sign w::(ys++[.sign ")"])))
theorem Za8 {H:Hp}{d:PyData}{m:Nat}(h:Ws d m):∀{v:V}{tx:List Nat},Th H v d->Tx d tx->∃its,Dx d tx its:=by
 induction h with
 | @leaf w rest hl=>
  intro v tx th ht;cases ht with
  | leaf _=>
   obtain ⟨ns,en,hn,hz,hc⟩:=UV th hl;have eD:Oo w ns=.tuple (.str w::rest):=by
    unfold Oo;rcases hc with ⟨h4,er⟩ | ⟨h4,er⟩
    ·rw [if_pos h4,er]
    ·rw [if_neg h4,er]
   have lk:WI w ns:=by
    refine ⟨hz,λh4=>?_⟩;rcases hc with ⟨h4',_⟩ | ⟨_,er⟩
    ·exact absurd h4' h4
    ·cases th with
     | tup e z hh=>
      have:=hh.len;rw [er,List.length_cons,List.length_map] at this
      lia
   have:=Dx.leaf (Ot hl) lk (by rw [eD];exact .leaf hl) hn;rw [eD] at this;unfold J7;rw [en];exact ⟨_,this⟩
  | join hw _ _=>exact absurd hw (GP hl)
 | @join w a b m n hw wa wb iha ihb=>
  intro v tx th ht;cases ht with
  | leaf hl=>exact absurd hw (GP hl)
  | join _ ta tb=>
   cases th with
   | tup e z hh=>
    cases hh with
    | cons t0 b=>
     cases b with
     | cons a b=>
      cases b with
      | cons b c=>
       obtain ⟨xs,hx⟩:=iha a ta;obtain ⟨ys,hy⟩:=ihb b tb;exact ⟨_,.join hw wa wb hx hy⟩
theorem XC {ns:List Int}(h:∀i∈ns,0<=i/\i<=9999):rep ((ns.map PyData.int).flatMap λd=>32::Xt d)=(ns.map PyData.int).flatMap λd=>32::Xt d:=by
 apply Ou;intro c hc;obtain ⟨d,hd,hc⟩:=List.mem_flatMap.mp hc;obtain ⟨i,hi,rfl⟩:=List.mem_map.mp hd;rcases List.mem_cons.mp hc with rfl | hc
 ·decide
 ·exact (XV (h i hi)).2 c hc
theorem XD {w:List Nat}(hw:32 ∉ w):∀{ns:List Int},(∀i∈ns,0<=i/\i<=9999)->Wsp (w++(ns.map PyData.int).flatMap λd=>32::Xt d)=w::ns.map λi=>(num i).cps.toList:=by
 intro ns h;unfold Wsp;have:=Jc (c:=32) (w:=w) (ws:=ns.map λi=>(num i).cps.toList) (λv hv=>by
  rcases List.mem_cons.mp hv with rfl | hv
  ·exact hw
  ·obtain ⟨i,hi,rfl⟩:=List.mem_map.mp hv;exact (XV (h i hi)).1)
 rw [<-this,List.flatMap_map,List.flatMap_map]
 rfl
theorem WO {A R:List Jv}{w:Str}{ws:List Str}:∀{ns ms:List Int},(∀i∈ns,0<=i/\i<=9999)->Rd (A++[.leaf w (ms++ns)]) ws R->Rd (A++[.leaf w ms]) (ns.map num++ws) R
 | [],ms,_,h=>by rw [List.append_nil] at h;exact h
 | n::ns,ms,hn,h=>by
  refine .num (hn n (List.mem_cons_self ..)) (WO (λi hi=>hn i (List.mem_cons_of_mem _ hi)) ?_);rw [List.append_assoc];exact h
theorem Za9 {d:PyData}{tx:List Nat}{its:List Jv}(h:Dx d tx its):∀{A R:List Jv}{ws:List Str},Rd (A++its) ws R->Rd A ((Wsp (rep tx)).map mkS++ws) R:=by
 induction h with
 | @leaf w ns hw _ _ hn=>
  intro A R ws h;obtain ⟨w1,w2⟩:=WM w (List.mem_append_left _ hw);rw [JX,Ou w2,XC hn,XD w1 hn,List.map_cons,WN,List.map_map];rw [show (mkS∘λi:Int=>(num i).cps.toList)=num from funext λi=>WN _];exact .word hw (WO (ms:=[]) hn h)
 | @join w a b s t xs ys m n hw _ _ _ _ iha ihb=>
  intro A R ws h;obtain ⟨w1,w2⟩:=WM w (List.mem_append_right _ hw);have e:rep (Jm w s t)=[]++32::([40]++32::(rep s++32::(w.cps.toList++32::(rep t++32::([41]++32::[]))))):=by
   unfold Jm;rw [show (40::(s++32::(w.cps.toList++32::(t++[41]))))=[40]++(s++([32]++(w.cps.toList++([32]++(t++[41]))))) from rfl];rw [JX,JX,JX,JX,JX,JX,XB,WL,Ou w2,Ou (l:=[32]) (by decide)];simp
  rw [e,Oe,Oe,Oe,Oe,Oe,Oe,Y3,U0 (a:=[40]) (by decide),U0 (a:=[41]) (by decide),U0 w1];simp only [List.map_append,List.map_cons,List.map_nil,List.append_assoc,List.cons_append,List.nil_append];rw [WN];show Rd A ("" :: ("(" : Str)::_) R;refine .none (.sign (by decide +kernel) (iha ?_));refine .sign ?_ (ihb ?_)
  ·have:∀w∈sJoin,w∈sSign:=by decide +kernel
   exact this w hw
  ·show Rd _ ((")" : Str) :: "" :: ws) R;refine .sign (by decide +kernel) (.none ?_);simpa using h
theorem Zal {A R:List Jv}{ws:List Str}(h:Rd A ws R):R.length<=A.length+ws.length:=by
 induction h with
 | nil=>simp
 | num _ _ ih=>simp at ih ⊢;lia
 | word _ _ ih=>simp at ih ⊢;lia
 | sign _ _ ih=>simp at ih ⊢;lia
 | none _ ih=>simp at ih ⊢;lia
theorem Zam {d:PyData}{tx:List Nat}{its:List Jv}(h:Dx d tx its):∀{S R:List PyData}{ts:List Jv},Run (S++[d]) ts R->Run S (its++ts) R:=by
 induction h with
 | leaf hw hl hd hn=>
  intro S R ts h;exact .leaf hl hd h
 | @join w a b s t xs ys m n hw wa wb _ _ iha ihb=>
  intro S R ts h;show Run S (.sign "(" :: ((xs++.sign w::(ys++[.sign ")"]))++ts)) R;refine .sign (by decide +kernel) ?_;rw [List.append_assoc xs];refine iha ?_;show Run _ (.sign w::((ys++[.sign ")"])++ts)) R;refine .sign ?_ ?_
  ·have:∀w∈sJoin,w ≠ ")" := by decide +kernel
   exact this w hw
  rw [List.append_assoc ys];refine ihb ?_;have e:S++[.str "("]++[a]++[.str w]++[b]=S++[.str "(", a,.str w,b]:=by simp
  rw [e];exact .close (.join hw wa wb) h
theorem Zba {d:PyData}{tx:List Nat}{its:List Jv}(h:Dx d tx its):its≠[]:=by
 cases h <;> simp
end M
namespace M
open PySem L2
inductive Pn (H0 H:Hp):List V->List (PyData×Nat)->Prop
 | nil:Pn H0 H [] []
 | snoc {xs:List V} {ps:List (PyData×Nat)} {t:Addr} {v:V} {d:PyData} {k:Nat}:Pn H0 H xs ps->H t=some (.tup [v,.int (k:Int)])->Th H0 v d->Pn H0 H (xs++[.ref t]) (ps++[(d,k)])
theorem Pn.keep {H0 H H':Hp}(k:∀t ys,H t=some (.tup ys)->H' t=some (.tup ys)){xs:List V}{ps:List (PyData×Nat)}(h:Pn H0 H xs ps):Pn H0 H' xs ps:=by
 induction h with
 | nil=>exact .nil
 | snoc _ e t ih=>exact .snoc ih (k _ _ e) t
theorem Pn.same {H0 H H':Hp}(s:Same H H'){xs:List V}{ps:List (PyData×Nat)}(h:Pn H0 H xs ps):Pn H0 H' xs ps:=h.keep λt ys e=>s _ _ e
theorem Pn.len {H0 H:Hp}{xs:List V}{ps:List (PyData×Nat)}(h:Pn H0 H xs ps):xs.length=ps.length:=by
 induction h with
 | nil=>rfl
 | snoc _ _ _ ih=>rw [List.length_append,List.length_append,ih];rfl
def ms (ps:List (PyData×Nat)):Nat:=(ps.map λp=>3 ^ (10-p.2)).sum
theorem Of (ps:List (PyData×Nat))(p:PyData×Nat):ms (ps++[p])=ms ps+3 ^ (10-p.2):=by
 unfold ms;rw [List.map_append,List.sum_append];simp
theorem XW (ps:List (PyData×Nat)):ps.length<=ms ps:=by
 unfold ms
 induction ps with
 | nil=>simp
 | cons p ps ih=>
  rw [List.map_cons,List.sum_cons,List.length_cons];have:1<=3 ^ (10-p.2):=Nat.one_le_pow _ _ (by decide)
  lia
theorem Pn.app {H0 H:Hp}{xs ys:List V}{ps qs:List (PyData×Nat)}(h:Pn H0 H xs ps)(k:Pn H0 H ys qs):Pn H0 H (xs++ys) (ps++qs):=by
 induction k with
 | nil=>rw [List.append_nil,List.append_nil];exact h
 | snoc _ e t ih=>rw [<-List.append_assoc,<-List.append_assoc];exact .snoc ih e t
section
variable {P:Program}{w:World}{K:W.Frag}{mg:Str->Option Value}{base:Heap}
def Zan:Sp:=λvs H Q _=>∃(v:V)(d:PyData),vs=[v]/\Th H v d/\∀H',Same H H'->Q (.bl (G8 8 d)) H'
theorem scWis:Gs ["thing", "pending", "part", "depth"] ["thing"] (Ge YE):=⟨rfl,rfl,rfl,by decide +kernel,rfl,by decide +kernel,by decide +kernel⟩
theorem Zao {f fS fE aJ aB aP aR aL:Addr}{fd fdS fdE:FuncData}{tG tD:Tok}(F:Fun K "is_wish" "is_wish" YE f fd)(FS:Fun K "is_small" "is_small" XU fS fdS)(bS:Binds K fdS ["thing"] [])(mS:mg "is_small" = some (.ref fS))(FE:Fun K "is_leaf" "is_leaf" YD fE fdE)(bE:Binds K fdE ["word", "rest"] [])(mE:mg "is_leaf" = some (.ref fE))(k:ZL K)(T:Wds K aJ aB aP aR aL)(mJoi:mg "JOINING" = some (.ref aJ))(mBar:mg "BARE" = some (.ref aB))(mPai:mg "PAIRED" = some (.ref aP))(mOfR:mg "OF_ROADS" = some (.ref aR))(mOfP:mg "OF_PLACES" = some (.ref aL))(mGre:mg "GREATEST" = some (.int 9999 tG))(mDee:mg "DEEPEST" = some (.int 8 tD))(mIsi:mg "isinstance" = none)(mInt:mg "int" = none)(mBool:mg "bool" = none)(mTup:mg "tuple" = none)(mStr:mg "str" = none)(mLen:mg "len" = none)(mAll:mg "all" = none):FnOk P w K mg base CX0 3 f fd ["thing"] Zan:=by
 have GE:FnOk P w K mg base CX0 2 fE fdE ["word", "rest"] ZO:=ZP FE FS bS mS k T mBar mPai mOfR mOfP mGre mIsi mInt mBool mTup mLen mAll;refine F.ok scWis (λvs H Q E h=>?_) (λcdv A outer s H vs Q E hr h=>?_)
 ·obtain ⟨_,_,rfl,_⟩:=h
  rfl
 ·obtain ⟨v0,d0,rfl,h0,q⟩:=h;have h16:(16777216:Nat)=sizeLine:=sizeLine_eq.symm;refine ⟨_,Gf (Gv (i:=1) scWis.nd rfl (Or.inl rfl) (GY (Ga (G6 (Ga (pv 0) (Ga Gc Gd))) Gd)))
    (Gf (U3 PassesOwn.never (JZ (pv 1) (λ_=>rfl))
    (Gf (VT (U8 PySem.F.plainAttrs_list PySem.F.slot_list_pop PySem.F.type_list_pop Va (pv 1)) (Zbs K (n:=2) rfl (Os (GF (i:=2) scWis.nd rfl (Or.inl rfl)) (Os (GF (i:=3) scWis.nd rfl (Or.inr rfl)) VS))))
    (Gf (G3 (PW.pt (JL (Gj Zn (pv 3) (Ov (v:=.int 8) rfl mDee ⟨_,rfl⟩) (Gw _)) (JL (Jw (Jh (Gi (O5 K) rfl mIsi Gz (Ga (pv 2) (Ga (G7 mTup GU) Gd))))) (JL (Jw (JZ (pv 2) (λ_=>rfl))) (Jy (Jw (Jh (Gi (O5 K) rfl mIsi Gz (Ga (Gn (Om K) (pv 2) Gc (λ_ _=>rfl)) (Ga (G7 mStr Ju) Gd)))))))))) (Gg (Gp OK)) Gy)
    (Gg (G3 (PW.pt (VP (Gj (kIn K) (Gn (Om K) (pv 2) Gc (λ_ _=>rfl)) (Jb mJoi) (by with_unfolding_all rfl)) (UM (Gj JM (Gi (VA K) rfl mLen PySem.boot_len (Ga (pv 2) Gd)) Gc (Gw _))))) (Gg (Jd (J1 PySem.F.plainAttrs_list PySem.F.slot_list_extend PySem.F.type_list_extend Wa (pv 1) (Ga (JR (own:=["within"]) rfl (GZ (fr:=[("depth", 3)]) [(".0", .local),("within", .local),("depth", .cell)] rfl rfl (by decide +kernel) rfl (by decide +kernel) ⟨rfl,trivial⟩ ⟨λh=>On h,λh=>On h,λ_=>⟨_,rfl⟩,trivial⟩ ⟨⟨rfl,.inl rfl,.inl rfl⟩,trivial⟩) (W6 K (GT (Y7 K) (pv 2) (GX Gc) Ji)) (λ_ _ _ _=>GF (i:=0) (show List.Nodup (["within", "depth"]:List Str) by decide +kernel) rfl (Or.inl rfl)) (λ_ _ _ _=>Jr) (λ_ _ _ _=>G6 (Ga (pv 0) (Ga (Gk Jf (pv 1) Gc) Gd)))) Gd)))) (Gg (G3 (Jw (Jh (GC GE (hr.mono (by decide)) rfl mE FE.kp bE .nil G0 (Ga (Gn (Om K) (pv 2) Gc (λ_ _=>rfl)) (Ga (GT (Y7 K) (pv 2) (GX Gc) Ji) Gd))))) (Gg (Gp OK)) Gy)))))))
    (Gg (Gp OK))),?_⟩
  refine ⟨_,rfl,JP,λt0 ht0=>?_⟩;have s1:Same H (upd H t0 (.tup [v0,.int 1])):=Same.new ht0;have et0:upd H t0 (.tup [v0,.int 1]) t0=some (.tup [v0,.int ((1:Nat):Int)]):=Gb;generalize upd H t0 (.tup [v0,.int 1])=H1 at s1 et0 ⊢;refine ⟨(by show 1<=sizeLine;lia),λpl hpl=>?_⟩;have s2:Same H1 (upd H1 pl (.lst [.ref t0])):=Same.new hpl;have epl0:upd H1 pl (.lst [.ref t0]) pl=some (.lst [.ref t0]):=Gb;have hHpl:H pl=none:=s1.free hpl;generalize upd H1 pl (.lst [.ref t0])=H2 at s2 epl0 ⊢;have no:∀H',Same H H'->¬ G8 8 d0=true->Q (.bl false) H':=λH' s h=>by
   have:=q H' s;rw [Bool.eq_false_iff.mpr h] at this;exact this
  refine ⟨λm σ' H'=>∃(xs:List V)(ps:List (PyData×Nat))(v2 v3:Option V),σ'=[some v0,some (.ref pl),v2,v3]/\Same H H'/\H' pl=some (.lst xs)/\Pn H H' xs ps/\(G8 8 d0=true↔∀p∈ps,G8 (9-p.2) p.1=true)/\(∀p∈ps,1<=p.2/\p.2<=9)/\ms ps<=19683/\m=ms ps,
   ⟨_,[.ref t0],[(d0,1)],none,none,rfl,s1.trans s2,epl0,Pn.snoc (xs:=[]) (ps:=[]) .nil (s2 _ _ et0) h0,⟨λh p hp=>by rw [List.mem_singleton] at hp;rw [hp];exact h,λh=>h (d0,1) (List.mem_singleton.mpr rfl)⟩,λp hp=>by rw [List.mem_singleton] at hp;rw [hp];exact ⟨Nat.le_refl _,(by show 1<=9;decide)⟩,(by show (3 ^ 9+0:Nat)<=19683;decide),rfl⟩,?_⟩
  clear s1 s2 et0 epl0 hpl ht0;rintro m σ' H3 ⟨xs,ps,v2,v3,rfl,s3,epl,pn,hw,hk,hms,rfl⟩;cases pn with
  | nil=>
   refine ⟨_,rfl,false,.inl ⟨_,SqL.of epl,rfl⟩,G4 ?_⟩;have:=q H3 s3;rw [hw.mpr (λp hp=>(by cases hp))] at this;exact this
  | @snoc xs ps t v d kk pn et th=>
   refine ⟨_,rfl,true,.inl ⟨_,SqL.of epl,by cases xs <;> rfl⟩,GO ?_⟩;refine ⟨_,λ_ _ h=>h,?_⟩;have qJ:=XW (ps++[(d,kk)]);have hxl:=pn.len;rw [List.length_append,List.length_singleton] at qJ;obtain ⟨hk1,hk9⟩:=hk (d,kk) (List.mem_append_right _ (List.mem_singleton.mpr rfl));rw [Of] at hms;have hmsp:ms ps<=19683:=Nat.le_trans (Nat.le_add_right _ _) hms;have hlps:=XW ps;have hlast:(xs++[V.ref t])[(xs++[V.ref t]).length-1]?=some (.ref t):=by
    rw [List.length_append,List.length_singleton,Nat.add_sub_cancel,List.getElem?_append_right (Nat.le_refl _),Nat.sub_self]
    rfl
   refine ⟨_,rfl,.inl ⟨rfl,_,SqL.of epl⟩,pl,_,_,rfl,rfl,epl,hlast,?_⟩;rw [List.dropLast_concat];have k4:=Js (o:=.lst xs) epl;have s4:Same H (upd H3 pl (.lst xs)):=s3.put hHpl;have epl4:upd H3 pl (.lst xs) pl=some (.lst xs):=Gb;have et4:=k4 _ _ et;have pn4:=pn.keep k4;generalize upd H3 pl (.lst xs)=H4 at k4 s4 epl4 et4 pn4 ⊢;refine ⟨t,_,rfl,SqT.of et4,rfl,_,_,rfl,_,_,rfl,rfl,?_⟩;have bad:G8 (9-kk) d=false->¬ G8 8 d0=true:=λh z=>by
    have:=hw.mp z (d,kk) (List.mem_append_right _ (List.mem_singleton.mpr rfl));rw [h] at this;cases this
   refine ⟨_,rfl,_,_,rfl,rfl,_,rfl,OR (λc1=>?_) (λc1=>?_)⟩
   ·have c1:(8:Int)<(kk:Int):=of_decide_eq_true c1;refine GO (no _ s4 (bad ?_));have:9-kk=0:=by lia
    rw [this]
    rfl
   have c1:¬ (8:Int)<(kk:Int):=λz=>c1 (decide_eq_true z);obtain ⟨n,hn⟩:∃n,9-kk=n+1:=⟨8-kk,by lia⟩;rw [hn] at bad;cases th with
   | non=>exact ⟨_,rfl,_,_,false,rfl,⟨_,rfl,GO (GO (no _ s4 (bad rfl)))⟩,.inl ⟨_,.non,rfl,k.nt⟩⟩
   | bl b=>exact ⟨_,rfl,_,_,false,rfl,⟨_,rfl,GO (GO (no _ s4 (bad rfl)))⟩,.inl ⟨_,.bl _,rfl,k.bt⟩⟩
   | int i=>exact ⟨_,rfl,_,_,false,rfl,⟨_,rfl,GO (GO (no _ s4 (bad rfl)))⟩,.inl ⟨_,.int _,rfl,k.it⟩⟩
   | str x=>exact ⟨_,rfl,_,_,false,rfl,⟨_,rfl,GO (GO (no _ s4 (bad rfl)))⟩,.inl ⟨_,.str _,rfl,k.st⟩⟩
   | lst e z hh=>exact ⟨_,rfl,_,_,false,rfl,⟨_,rfl,GO (GO (no _ s4 (bad rfl)))⟩,.inl ⟨_,.lst (s4 _ _ e),rfl,k.lt⟩⟩
   | @tup a xs1 ds e z hh=>
    refine ⟨_,rfl,_,_,true,rfl,⟨_,rfl,G4 ?_⟩,.inl ⟨_,.tup (s4 _ _ e),rfl,GI⟩⟩;have e4:=s4 _ _ e;cases hh with
    | nil=>
     refine ⟨_,rfl,false,.inr (.inl ⟨_,SqT.of e4,rfl⟩),GO (GO (no _ s4 (bad rfl)))⟩
    | @cons x1 dx vs1 rest tx hr1=>
     refine ⟨_,rfl,true,.inr (.inl ⟨_,SqT.of e4,rfl⟩),G4 ?_⟩;cases tx with
     | non=>exact ⟨_,rfl,a,_,_,_,rfl,rfl,SqT.of e4,Gh (j:=0) rfl,_,_,false,rfl,⟨_,rfl,GO (no _ s4 (bad rfl))⟩,.inl ⟨_,.non,rfl,k.ns⟩⟩
     | bl b=>exact ⟨_,rfl,a,_,_,_,rfl,rfl,SqT.of e4,Gh (j:=0) rfl,_,_,false,rfl,⟨_,rfl,GO (no _ s4 (bad rfl))⟩,.inl ⟨_,.bl _,rfl,k.bs⟩⟩
     | int i=>exact ⟨_,rfl,a,_,_,_,rfl,rfl,SqT.of e4,Gh (j:=0) rfl,_,_,false,rfl,⟨_,rfl,GO (no _ s4 (bad rfl))⟩,.inl ⟨_,.int _,rfl,k.is⟩⟩
     | lst e' z' h'=>exact ⟨_,rfl,a,_,_,_,rfl,rfl,SqT.of e4,Gh (j:=0) rfl,_,_,false,rfl,⟨_,rfl,GO (no _ s4 (bad rfl))⟩,.inl ⟨_,.lst (s4 _ _ e'),rfl,k.ls⟩⟩
     | tup e' z' h'=>exact ⟨_,rfl,a,_,_,_,rfl,rfl,SqT.of e4,Gh (j:=0) rfl,_,_,false,rfl,⟨_,rfl,GO (no _ s4 (bad rfl))⟩,.inl ⟨_,.tup (s4 _ _ e'),rfl,k.ts⟩⟩
     | str wd=>
      refine ⟨_,rfl,a,_,_,_,rfl,rfl,SqT.of e4,Gh (j:=0) rfl,_,_,true,rfl,⟨_,rfl,G4 ?_⟩,.inl ⟨_,.str _,rfl,GI⟩⟩;have hvl:=hr1.len;rw [List.length_cons] at z;refine ⟨_,rfl,a,_,_,_,rfl,rfl,SqT.of e4,Gh (j:=0) rfl,aJ,_,rfl,.inr (T.j _),rfl,rfl,_,rfl,?_⟩;show if (inV (.str wd) (sJoin.map V.str))=true then _ else _
      rw [GL];by_cases c2:wd∈sJoin
      ·rw [decide_eq_true c2];refine GO ?_;refine ⟨_,rfl,a,_,rfl,.inr (SqT.of e4),rfl,_,rfl,?_⟩;by_cases c3:rest.length=2
       ·rw [decide_eq_true (show V.int ((V.str wd::vs1).length:Int)=V.int 3 by rw [List.length_cons,hvl,c3];rfl)];refine GO ?_;obtain ⟨va,vb,da,db,ta,tb,rfl,rfl⟩:∃va vb da db,∃(ta:Th H va da)(tb:Th H vb db),vs1=[va,vb]/\rest=[da,db]:=by
         cases hr1 with
         | nil=>exact absurd c3 (by decide)
         | cons ta hr2=>
          cases hr2 with
          | nil=>exact absurd c3 (by simp)
          | cons tb hr3=>
           cases hr3 with
           | nil=>exact ⟨_,_,_,_,ta,tb,rfl,rfl⟩
           | cons _ _=>exact absurd c3 (by simp)
        refine ⟨_,rfl,.inl ⟨rfl,_,SqL.of epl4⟩,_,rfl,_,rfl,a,_,rfl,SqT.of e4,(λz=>by have:=z.1;simp [HT.sIx] at this),λp5 hp5=>?_⟩;have s5:Same H4 (upd H4 p5 (.tup (JN [V.str wd,va,vb] (some 1) none))):=Same.new hp5;have e5:upd H4 p5 (.tup (JN [V.str wd,va,vb] (some 1) none)) p5=some (.tup [va,vb]):=Gb;generalize upd H4 p5 (.tup (JN [V.str wd,va,vb] (some 1) none))=H5 at s5 e5 ⊢;refine ⟨p5,rfl,⟨_,SqT.of e5⟩,λD hD=>?_⟩;refine O6 (K:=K) (a:=p5) (xs:=[va,vb]) (λi vs H'=>Same H5 H'/\H' D=some (.lst vs)/\Pn H H' vs (([(da,kk+1),(db,kk+1)]:List (PyData×Nat)).take i)) ⟨Same.new hD,Gb,.nil⟩ (λi vs H' _ ⟨s6,_⟩=>SqT.of (s6 _ _ e5)) ?_ ?_
        ·rintro i x vs H6 hx ⟨s6,eD,pq⟩;have hvs:=pq.len;have hvs2:vs.length<=2:=by rw [hvs,List.length_take];exact Nat.min_le_right _ _
         refine ⟨⟨rfl,trivial⟩,?_⟩;unfold XQ;refine GO ?_;refine ⟨_,rfl,_,rfl,_,_,rfl,rfl,JP,λT7 hT7=>?_⟩;have s7:Same H6 (upd H6 T7 (.tup [x,.int ((kk:Int)+1)])):=Same.new hT7;have e7:upd H6 T7 (.tup [x,.int ((kk:Int)+1)]) T7=some (.tup [x,.int (((kk+1:Nat)):Int)]):=Gb;have k8:=Js (o:=.lst (vs++[.ref T7])) (s7 _ _ eD);refine ⟨s7 _ _ eD,by lia,(s6.trans s7).put hD,Gb,?_⟩
         match i,hx with
         | 0,hx=>
          simp at hx;subst hx;exact ((pq.same s7).keep k8).snoc (k8 _ _ e7) ta
         | 1,hx=>
          simp at hx;subst hx;exact ((pq.same s7).keep k8).snoc (k8 _ _ e7) tb
        ·rintro vs H6 ⟨s6,eD,pq⟩;have pq:Pn H H6 vs [(da,kk+1),(db,kk+1)]:=pq;have hvs:=pq.len;have S6:=s5.trans s6;refine ⟨pl,D,xs,vs,rfl,rfl,S6 _ _ epl4,eD,by rw [hvs];show xs.length+2<=sizeLine;lia,?_⟩;have k7:=Js (o:=.lst (xs++vs)) (S6 _ _ epl4);have hp3:3 ^ (10-kk)=3 * 3 ^ (10-(kk+1)):=by rw [show 10-kk=(10-(kk+1))+1 by lia,Nat.pow_succ,Nat.mul_comm]
         have hp1:1<=3 ^ (10-(kk+1)):=Nat.one_le_pow _ _ (by decide);have hm2:ms (ps++[(da,kk+1),(db,kk+1)])=ms ps+3 ^ (10-(kk+1))+3 ^ (10-(kk+1)):=by
          rw [show ps++[(da,kk+1),(db,kk+1)]=(ps++[(da,kk+1)])++[(db,kk+1)] by rw [List.append_assoc];rfl,Of,Of]
         refine ⟨ms (ps++[(da,kk+1),(db,kk+1)]),by rw [hm2,Of];show _<ms ps+3 ^ (10-kk);lia,xs++vs,ps++[(da,kk+1),(db,kk+1)],_,_,rfl,(s4.trans S6).put hHpl,Gb,((pn4.same S6).keep k7).app (pq.keep k7),hw.trans ?_,λp hp=>?_,by rw [hm2];have hms:ms ps+3 ^ (10-kk)<=19683:=hms;lia,rfl⟩
         ·have hnn:9-(kk+1)=n:=by lia
          have hj:G8 (n+1) (.tuple [.str wd,da,db])=(G8 n da && G8 n db):=OW c2 n;constructor
          ·intro h p hp;have h1:=h (.tuple [.str wd,da,db],kk) (List.mem_append_right _ (List.mem_singleton.mpr rfl));have h1:G8 (9-kk) (.tuple [.str wd,da,db])=true:=h1;rw [hn,hj,Bool.and_eq_true] at h1;rcases List.mem_append.mp hp with y | y
           ·exact h p (List.mem_append_left _ y)
           ·rcases List.mem_cons.mp y with y | y
            ·rw [y];show G8 (9-(kk+1)) da=true;rw [hnn];exact h1.1
            ·rw [List.mem_singleton] at y;rw [y];show G8 (9-(kk+1)) db=true;rw [hnn];exact h1.2
          ·intro h p hp;rcases List.mem_append.mp hp with y | y
           ·exact h p (List.mem_append_left _ y)
           ·rw [List.mem_singleton] at y;rw [y];show G8 (9-kk) (.tuple [.str wd,da,db])=true;rw [hn,hj,Bool.and_eq_true];have g1:G8 (9-(kk+1)) da=true:=h (da,kk+1) (List.mem_append_right _ List.mem_cons_self);have g2:G8 (9-(kk+1)) db=true:=h (db,kk+1) (List.mem_append_right _ (List.mem_cons_of_mem _ (List.mem_singleton.mpr rfl)));rw [hnn] at g1 g2;exact ⟨g1,g2⟩
         ·rcases List.mem_append.mp hp with y | y
          ·exact hk p (List.mem_append_left _ y)
          ·rcases List.mem_cons.mp y with y | y
           ·rw [y];exact ⟨by show 1<=kk+1;lia,by show kk+1<=9;lia⟩
           ·rw [List.mem_singleton] at y;rw [y];exact ⟨by show 1<=kk+1;lia,by show kk+1<=9;lia⟩
       ·rw [decide_eq_false (λy=>c3 (by have:=V.int.inj y;rw [List.length_cons] at this;lia))];refine G4 ?_;have cj:¬ (wd∈sJoin/\rest.length=2):=λy=>c3 y.2;have hnj:G8 (n+1) (.tuple (.str wd::rest))=G1 wd rest:=by rw [G8,if_neg cj]
        refine ⟨_,rfl,a,_,_,_,rfl,rfl,SqT.of e4,Gh (j:=0) rfl,_,rfl,_,rfl,a,_,rfl,SqT.of e4,(λz=>by have:=z.1;simp [HT.sIx] at this),λp5 hp5=>?_⟩;rw [show JN (V.str wd::vs1) (some 1) none=vs1 from JI (k:=1)];have s5:Same H4 (upd H4 p5 (.tup vs1)):=Same.new hp5;have e5:upd H4 p5 (.tup vs1) p5=some (.tup vs1):=Gb;generalize upd H4 p5 (.tup vs1)=H5 at s5 e5 ⊢;refine ⟨wd,p5,vs1,rest,rfl,e5,by lia,hr1.same (s4.trans s5),λH6 s6=>⟨_,rfl,?_⟩⟩;by_cases cl:G1 wd rest=true
        ·rw [cl];refine G4 ?_;have S6:=s5.trans s6;refine ⟨ms ps,by rw [Of];have:1<=3 ^ (10-kk):=Nat.one_le_pow _ _ (by decide);show ms ps<ms ps+3 ^ (10-kk);lia,xs,ps,_,_,rfl,s4.trans S6,S6 _ _ epl4,pn4.same S6,hw.trans ⟨λh p hp=>h p (List.mem_append_left _ hp),λh p hp=>?_⟩,λp hp=>hk p (List.mem_append_left _ hp),by lia,rfl⟩;rcases List.mem_append.mp hp with y | y
         ·exact h p y
         ·rw [List.mem_singleton] at y;rw [y];show G8 (9-kk) _=true;rw [hn,hnj];exact cl
        ·rw [Bool.eq_false_iff.mpr cl];exact GO (no _ ((s4.trans s5).trans s6) (bad (by rw [hnj];exact Bool.eq_false_iff.mpr cl)))
      ·rw [decide_eq_false c2];refine G4 (G4 ?_);have cj:¬ (wd∈sJoin/\rest.length=2):=λy=>c2 y.1;have hnj:G8 (n+1) (.tuple (.str wd::rest))=G1 wd rest:=by rw [G8,if_neg cj]
       refine ⟨_,rfl,a,_,_,_,rfl,rfl,SqT.of e4,Gh (j:=0) rfl,_,rfl,_,rfl,a,_,rfl,SqT.of e4,(λz=>by have:=z.1;simp [HT.sIx] at this),λp5 hp5=>?_⟩;rw [show JN (V.str wd::vs1) (some 1) none=vs1 from JI (k:=1)];have s5:Same H4 (upd H4 p5 (.tup vs1)):=Same.new hp5;have e5:upd H4 p5 (.tup vs1) p5=some (.tup vs1):=Gb;generalize upd H4 p5 (.tup vs1)=H5 at s5 e5 ⊢;refine ⟨wd,p5,vs1,rest,rfl,e5,by lia,hr1.same (s4.trans s5),λH6 s6=>⟨_,rfl,?_⟩⟩;by_cases cl:G1 wd rest=true
       ·rw [cl];refine G4 ?_;have S6:=s5.trans s6;refine ⟨ms ps,by rw [Of];have:1<=3 ^ (10-kk):=Nat.one_le_pow _ _ (by decide);show ms ps<ms ps+3 ^ (10-kk);lia,xs,ps,_,_,rfl,s4.trans S6,S6 _ _ epl4,pn4.same S6,hw.trans ⟨λh p hp=>h p (List.mem_append_left _ hp),λh p hp=>?_⟩,λp hp=>hk p (List.mem_append_left _ hp),by lia,rfl⟩;rcases List.mem_append.mp hp with y | y
        ·exact h p y
        ·rw [List.mem_singleton] at y;rw [y];show G8 (9-kk) _=true;rw [hn,hnj];exact cl
       ·rw [Bool.eq_false_iff.mpr cl];exact GO (no _ ((s4.trans s5).trans s6) (bad (by rw [hnj];exact Bool.eq_false_iff.mpr cl)))
end
end M
namespace M
open PySem L2
section
variable {P:Program}{w:World}{K:W.Frag}{mg:Str->Option Value}{base:Heap}
def Zap (tbW:Addr):Sp:=λvs H Q _=>∃(tx:List Nat)(d:PyData)(m:Nat)(v0:V),vs=[.str (mkS tx)]/\Th H v0 d/\Ws d m/\m<=8/\Tx d tx/\TabW tbW H/\∀(v:V)(H':Hp),SameL tbW H H'->TabW tbW H'->Th H' v d->Q v H'
theorem scRea:Gs ["text", "items", "wish"] ["text"] (Ge YJ):=⟨rfl,rfl,rfl,by decide +kernel,rfl,by decide +kernel,by decide +kernel⟩
theorem Zaq {f fIt fWo fW fSw tbW:Addr}{fd fdIt fdWo fdW fdSw:FuncData}(F:Fun K "read_wish" "read_wish" YJ f fd)(FIt:Fun K "items_of" "items_of" YG fIt fdIt)(bIt:Binds K fdIt ["text"] [])(mIt:mg "items_of" = some (.ref fIt))(GIt:O8 P w K mg base CX0 3 fIt fdIt ["text"] Zaf)(FWo:Fun K "wish_of" "wish_of" YI fWo fdWo)(bWo:Binds K fdWo ["items"] [])(mWo:mg "wish_of" = some (.ref fWo))(GWo:FnOk P w K mg base CX0 2 fWo fdWo ["items"] Zaj)(FW:Fun K "is_wish" "is_wish" YE fW fdW)(bW:Binds K fdW ["thing"] [])(mW:mg "is_wish" = some (.ref fW))(GW:FnOk P w K mg base CX0 3 fW fdW ["thing"] Zan)(FSw:Fun K "show_wish" "show_wish" Xp fSw fdSw)(bSw:Binds K fdSw ["wish"] [])(mSw:mg "show_wish" = some (.ref fSw))(GSw:FnOk P w K mg base CX0 4 fSw fdSw ["wish"] (YY tbW))(mIsi:mg "isinstance" = none)(mStr:mg "str" = none):O8 P w K mg base CX0 5 f fd ["text"] (Zap tbW):=by
 refine F.okQ scRea (λvs H Q E h=>?_) (λcdv A outer s H vs Q E hr h=>?_)
 ·obtain ⟨_,_,_,_,rfl,_⟩:=h
  rfl
 ·obtain ⟨tx,d,m,v0,rfl,th,hw,h8,htx,tab,q⟩:=h;have h16:(16777216:Nat)=sizeLine:=sizeLine_eq.symm;refine ⟨_,G9 (Yp (i:=1) scRea.nd rfl (Or.inl rfl) (Wo (PT.q (Jh (Gi (O5 K) rfl mIsi Gz (Ga (pv 0) (Ga (G7 mStr Ju) Gd))))) (J3 GIt (hr.mono (by decide)) rfl mIt FIt.kp bIt .nil G0 (PA.q (Ga (pv 0) Gd))) (PE.q ON))) (PSs.q (Gf (Gv (i:=2) scRea.nd rfl (Or.inl rfl) (Oq (JZ (pv 1) (λ_=>rfl)) (GC GWo (hr.mono (by decide)) rfl mWo FWo.kp bWo .nil G0 (Ga (pv 1) Gd)) ON))
    (Gf (G3 (PW.pt (JL (Jw (Jh (GC GW (hr.mono (by decide)) rfl mW FW.kp bW .nil G0 (Ga (pv 2) Gd)))) (Jy (Gj Oy (GC GSw (hr.mono (by decide)) rfl mSw FSw.kp bSw .nil G0 (Ga (pv 2) Gd)) (pv 0) (Gw _))))) VR Gy)
    (Gg (Gp (pv 2)))))),?_⟩
  obtain ⟨its,dx⟩:=Za8 hw th htx;have hxl:=UW hw h8 th htx;have e:Txt.split (Uc (mkS tx)) (" " : Str)=(Wsp (rep tx)).map mkS++[]:=by rw [List.append_nil,VJ];rfl
  have rd:Rd [] (Txt.split (Uc (mkS tx)) (" " : Str)) its:=by rw [e];exact Za9 dx (A:=[]) .nil
  have wl:(Txt.split (Uc (mkS tx)) (" " : Str)).length<=15000000:=by
   rw [e,List.append_nil,List.length_map];have:=Y4 (rep tx);have:=Y5 tx
   lia
  refine ⟨_,rfl,_,_,true,rfl,⟨_,rfl,GO ?_⟩,.inl ⟨_,.str _,rfl,GI⟩⟩;refine ⟨_,rfl,mkS tx,its,rfl,by rw [Je];lia,wl,rd,λl us H1 s1 hl e1 its1=>?_⟩;have hul:=its1.len;have hil:=Zal rd;rw [List.length_nil] at hil;have une:us≠[]:=λz=>by
   rw [z,List.length_nil] at hul;exact Zba dx (List.eq_nil_of_length_eq_zero hul.symm)
  refine ⟨_,rfl,true,.inl ⟨_,SqL.of e1,by cases us with | nil=>exact absurd rfl une | cons _ _=>rfl⟩,GO ?_⟩;have run:Run [] its [d]:=by
   have:=Zam dx (S:=[]) (R:=[d]) (ts:=[]) .nil
   rwa [List.append_nil] at this
  refine ⟨_,rfl,l,us,its,d,rfl,e1,its1,by lia,run,.inr ⟨m,hw⟩,λv H2 s2 t2=>?_⟩;refine ⟨_,rfl,v,d,rfl,t2,λH3 s3=>?_⟩;rw [(hw.iff 8).mpr h8];refine ⟨_,rfl,G4 ?_⟩;have S3:=(s1.trans s2).trans s3;refine ⟨_,rfl,v,d,m,tx,rfl,t2.same s3,hw,h8,htx,tab.same S3,λH4 s4 tab4=>?_⟩;refine ⟨_,rfl,rfl,_,rfl,?_⟩;rw [decide_eq_true rfl];refine G4 ?_;exact ⟨_,rfl,q v H4 ((SameL.of S3).trans s4) tab4 (hw.keep (SameL.tups s4 (tab.same S3)) (t2.same s3))⟩
end
end M
namespace M
open PySem L2
section
variable {P:Program}{w:World}{K:W.Frag}{mg:Str->Option Value}{base:Heap}
def Zar:Sp:=λvs H Q _=>∃(v:V)(xl:Addr)(d:PyData)(m:Nat)(ns:List Int),vs=[v,.ref xl]/\Th H v d/\Ws d m/\m<=3/\H xl=some (.lst (ns.map V.int))/\ns.length=3/\YS H Q 8
theorem scDee:Gs ["thing", "xs", "k", "word"] ["thing", "xs"] (Ge YO):=⟨rfl,rfl,rfl,by decide +kernel,rfl,by decide +kernel,by decide +kernel⟩
theorem Zas {f:Addr}{fd:FuncData}(F:Fun K "_law_deep" "_law_deep" YO f fd)(mRange:mg "range" = none):FnOk P w K mg base CX0 1 f fd ["thing", "xs"] Zar:=by
 refine F.ok scDee (λvs H Q E h=>?_) (λcdv A outer s H vs Q E hr h=>?_)
 ·obtain ⟨_,_,_,_,_,rfl,_⟩:=h
  rfl
 ·obtain ⟨v0,xl,d0,m0,ns,rfl,t0,w0,l0,exl,hn,q⟩:=h;have h16:(16777216:Nat)=sizeLine:=sizeLine_eq.symm;have n3:3<=sizeLine:=by lia
  have n1:1<=sizeLine:=by lia
  refine ⟨_,Gf (G3 (Gj JM (Gk GB (Gn (Jk K) (pv 1) Gc (λ_ _=>rfl)) Gc) Gc (Gw _)) (Gf (Og PassesOwn.never rfl (G5 rfl mRange (Ga (Gk GB (Gn (Jk K) (pv 1) Gc (λ_ _=>rfl)) Gc) Gd)) (GF (i:=2) scDee.nd rfl (Or.inl rfl))
    (Gg (Gv (i:=0) scDee.nd rfl (Or.inl rfl) (G6 (Ga (Gn (Jk K) (GY (Ga Gm (Ga Gm (Ga Gm Gd)))) (Gk GB (Gk Jf (Gn (Jk K) (pv 1) Gc (λ_ _=>rfl)) (pv 2)) Gc) (λ_ _=>rfl)) (Ga (pv 0) (Ga (pv 0) Gd)))))))
    (Gg (Gp (pv 0)))) Gy)
    (Gf (Og PassesOwn.never rfl (G5 rfl mRange (Ga (Gk GB (Gn (Jk K) (pv 1) Gc (λ_ _=>rfl)) Gc) Gd)) (GF (i:=2) scDee.nd rfl (Or.inl rfl))
    (Gf (Gv (i:=3) scDee.nd rfl (Or.inl rfl) (Gn (Jk K) (GY (Ga Gm (Ga Gm (Ga Gm Gd)))) (Gk GB (Gk Jf (Gn (Jk K) (pv 1) Gc (λ_ _=>rfl)) (pv 2)) Gc) (λ_ _=>rfl)))
    (Gg (Gv (i:=0) scDee.nd rfl (Or.inl rfl) (Gn (Jk K) (GY (Ga (G6 (Ga (pv 3) (Ga (pv 0) (Ga (G6 (Ga Gm Gd)) Gd)))) (Ga (G6 (Ga (pv 3) (Ga (G6 (Ga Gm (Ga (G6 (Ga (pv 2) (Ga Gc Gd))) Gd))) (Ga (pv 0) Gd)))) Gd))) (Gk GB (Gk O3 (Gn (Jk K) (pv 1) Gc (λ_ _=>rfl)) (Gk Jf Gc (pv 2))) Gc) (λ_ _=>rfl))))))
    (Gg (Gp (pv 0)))),?_⟩
  refine ⟨_,rfl,xl,_,_,_,rfl,rfl,SqL.of exl,GQ (by lia) (by lia),_,_,rfl,rfl,(by show (0:Int)<4;decide),rfl,_,rfl,OR (λ_=>?_) (λ_=>?_)⟩
  ·have r0:0<=ns.getD (0:Int).toNat 0 % 5:=Int.emod_nonneg _ (by decide);have r1:ns.getD (0:Int).toNat 0 % 5<5:=Int.emod_lt_of_pos _ (by decide);refine ⟨_,rfl,xl,_,_,_,rfl,rfl,SqL.of exl,GQ (by lia) (by lia),_,_,rfl,rfl,(by show (0:Int)<5;decide),_,rfl,by lia,by lia,?_⟩;refine JA (lo:=0) (n:=(ns.getD (0:Int).toNat 0 % 5).toNat) (λi σ' H'=>∃(v:V)(d:PyData)(m:Nat)(v2 v3:Option V),σ'=[some v,some (.ref xl),v2,v3]/\Same H H'/\Th H' v d/\Ws d m/\m<=3+i) ⟨v0,d0,m0,none,none,rfl,Same.refl _,t0,w0,by lia⟩ ?_ ?_
   ·rintro i σ' H1 hi ⟨v,d,m,v2,v3,rfl,s1,t1,w1,l1⟩;rw [Int.zero_add];have exl1:=s1 _ _ exl;dsimp only [Jz];refine ⟨n3,λp hp=>?_⟩;have s3:Same H1 (upd H1 p (.lst (sJoin.map V.str))):=Same.new hp;obtain ⟨wd,hwd,ewd⟩:=OH sJoin (j:=(ns.getD (1:Int).toNat 0+(i:Int)) % 3) (Int.emod_nonneg _ (by decide)) (Int.emod_lt_of_pos _ (by decide));refine ⟨_,rfl,xl,_,_,_,rfl,rfl,SqL.of (s3 _ _ exl1),GQ (by lia) (by lia),_,rfl,_,_,rfl,rfl,_,_,rfl,rfl,(by show (0:Int)<3;decide),p,_,_,_,rfl,rfl,SqL.of Gb,ewd,_,rfl,_,rfl,n3,λp2 hp2=>?_⟩;have s4:=Same.new (o:=.tup [.str wd,v,v]) hp2;have S:=s3.trans s4;exact ⟨_,_,_,_,_,rfl,s1.trans S,.tup Gb (by simp) (.cons (.str wd) (.cons (t1.same S) (.cons (t1.same S) .nil))),.join hwd w1 w1,by lia⟩
   ·rintro σ' H1 ⟨v,d,m,v2,v3,rfl,s1,t1,w1,l1⟩;exact ⟨_,rfl,q _ _ m _ s1 t1 w1 (by lia)⟩
  ·have r0:0<=ns.getD (0:Int).toNat 0 % 6:=Int.emod_nonneg _ (by decide);have r1:ns.getD (0:Int).toNat 0 % 6<6:=Int.emod_lt_of_pos _ (by decide);refine ⟨_,rfl,xl,_,_,_,rfl,rfl,SqL.of exl,GQ (by lia) (by lia),_,_,rfl,rfl,(by show (0:Int)<6;decide),_,rfl,by lia,by lia,?_⟩;refine JA (lo:=0) (n:=(ns.getD (0:Int).toNat 0 % 6).toNat) (λi σ' H'=>∃(v:V)(d:PyData)(m:Nat)(v2 v3:Option V),σ'=[some v,some (.ref xl),v2,v3]/\Same H H'/\Th H' v d/\Ws d m/\m<=3+i) ⟨v0,d0,m0,none,none,rfl,Same.refl _,t0,w0,by lia⟩ ?_ ?_
   ·rintro i σ' H1 hi ⟨v,d,m,v2,v3,rfl,s1,t1,w1,l1⟩;rw [Int.zero_add];have exl1:=s1 _ _ exl;have hi9:i<10:=by lia
    dsimp only [Jz];refine Jt (λσ' H'=>∃wd:Str,σ'=[some v,some (.ref xl),some (.int (i:Int)),some (.str wd)]/\Same H1 H'/\wd∈sJoin) ?s2 ?f2
    case f2=>
     intro hk;refine ⟨n3,λp hp=>?_⟩;have s3:Same H1 (upd H1 p (.lst (sJoin.map V.str))):=Same.new hp;obtain ⟨wd,hwd,ewd⟩:=OH sJoin (j:=(ns.getD (1:Int).toNat 0+(i:Int)) % 3) (Int.emod_nonneg _ (by decide)) (Int.emod_lt_of_pos _ (by decide));refine ⟨_,rfl,xl,_,_,_,rfl,rfl,SqL.of (s3 _ _ exl1),GQ (by lia) (by lia),_,rfl,_,_,rfl,rfl,_,_,rfl,rfl,(by show (0:Int)<3;decide),p,_,_,_,rfl,rfl,SqL.of Gb,ewd,?_⟩;exact hk _ _ ⟨wd,rfl,s3,hwd⟩
    rintro σ' H2 ⟨wd,rfl,s2,hwd⟩;refine ⟨_,rfl,_,rfl,n1,λp1 hp1=>?_⟩;have u1:Same H2 (upd H2 p1 (.tup [.str "shy"])):=Same.new hp1;have e1:upd H2 p1 (.tup [.str "shy"]) p1=some (.tup [.str "shy"]):=Gb;generalize upd H2 p1 (.tup [.str "shy"])=H3 at u1 e1 ⊢;refine ⟨n3,λp2 hp2=>?_⟩;have u2:Same H3 (upd H3 p2 (.tup [.str wd,v,.ref p1])):=Same.new hp2;have e2:upd H3 p2 (.tup [.str wd,v,.ref p1]) p2=some (.tup [.str wd,v,.ref p1]):=Gb;generalize upd H3 p2 (.tup [.str wd,v,.ref p1])=H4 at u2 e2 ⊢;refine ⟨_,rfl,_,rfl,JP,λp3 hp3=>?_⟩;have u3:Same H4 (upd H4 p3 (.tup [.int (i:Int),.int 9999])):=Same.new hp3;have e3:upd H4 p3 (.tup [.int (i:Int),.int 9999]) p3=some (.tup (([(i:Int),9999]:List Int).map V.int)):=Gb;generalize upd H4 p3 (.tup [.int (i:Int),.int 9999])=H5 at u3 e3 ⊢;refine ⟨JP,λp4 hp4=>?_⟩;have u4:Same H5 (upd H5 p4 (.tup [.str "with", .ref p3])):=Same.new hp4;have e4:upd H5 p4 (.tup [.str "with", .ref p3]) p4=some (.tup [.str "with", .ref p3]):=Gb;generalize upd H5 p4 (.tup [.str "with", .ref p3])=H6 at u4 e4 ⊢;refine ⟨_,rfl,n3,λp5 hp5=>?_⟩;have u5:Same H6 (upd H6 p5 (.tup [.str wd,.ref p4,v])):=Same.new hp5;have e5:upd H6 p5 (.tup [.str wd,.ref p4,v]) p5=some (.tup [.str wd,.ref p4,v]):=Gb;generalize upd H6 p5 (.tup [.str wd,.ref p4,v])=H7 at u5 e5 ⊢;refine ⟨JP,λp6 hp6=>?_⟩;have u6:Same H7 (upd H7 p6 (.lst [.ref p2,.ref p5])):=Same.new hp6;have e6:upd H7 p6 (.lst [.ref p2,.ref p5]) p6=some (.lst [.ref p2,.ref p5]):=Gb;generalize upd H7 p6 (.lst [.ref p2,.ref p5])=H8 at u6 e6 ⊢;have U:=((u3.trans u4).trans u5).trans u6;have S:=(s1.trans s2).trans ((u1.trans u2).trans U);have tA:Th H8 (.ref p2) (.tuple [.str wd,d,.tuple [.str "shy"]]):=.tup (U _ _ e2) (by simp) (.cons (.str wd) (.cons (t1.same (s2.trans ((u1.trans u2).trans U))) (.cons (.tup ((u2.trans U) _ _ e1) (by simp) (.cons (.str _) .nil)) .nil)));have tB:Th H8 (.ref p5) (.tuple [.str wd,.tuple [.str "with", .tuple (([(i:Int),9999]:List Int).map PyData.int)],d]):=.tup (u6 _ _ e5) (by simp) (.cons (.str wd) (.cons (.tup ((u5.trans u6) _ _ e4) (by simp) (.cons (.str _) (.cons (.tup (((u4.trans u5).trans u6) _ _ e3) (by simp) (JK _ _)) .nil))) (.cons (t1.same (s2.trans ((u1.trans u2).trans U))) .nil)));have wA:Ws (.tuple [.str wd,d,.tuple [.str "shy"]]) (max m 1+1):=.join hwd w1 (UE (by decide +kernel));have wB:Ws (.tuple [.str wd,.tuple [.str "with", .tuple (([(i:Int),9999]:List Int).map PyData.int)],d]) (max 1 m+1):=.join hwd (OI (by decide +kernel) (Oc λz hz=>by
     rcases List.mem_cons.mp hz with y | y
     ·lia
     ·rw [List.mem_singleton] at y;lia)) w1
    have pm:=w1.pos;have exl8:=S _ _ exl;generalize hj:ns.getD (2:Int).toNat 0 / (1+(i:Int)) % 2=jj;have hj0:0<=jj:=by rw [<-hj];exact Int.emod_nonneg _ (by decide)
    have hj1:jj<2:=by rw [<-hj];exact Int.emod_lt_of_pos _ (by decide)
    have fin:∃x dd mm,atI ([.ref p2,.ref p5]:List V) jj=some x/\Th H8 x dd/\Ws dd mm/\mm<=3+(i+1):=by
     rcases (by lia:jj=0\/jj=1) with z | z
     ·rw [z];exact ⟨_,_,_,Gh (j:=0) rfl,tA,wA,by lia⟩
     ·rw [z];exact ⟨_,_,_,Gh (j:=1) rfl,tB,wB,by lia⟩
    obtain ⟨x,dd,mm,ex,tx,wx,lx⟩:=fin;rw [<-hj] at ex;refine ⟨_,rfl,xl,_,_,_,rfl,rfl,SqL.of exl8,GQ (by lia) (by lia),_,rfl,_,_,rfl,rfl,_,_,rfl,rfl,⟨(by show (0:Int)<1+(i:Int);lia),ZaY (by lia)⟩,_,_,rfl,rfl,(by show (0:Int)<2;decide),p6,_,_,_,rfl,rfl,SqL.of e6,ex,?_⟩;exact ⟨x,dd,mm,_,_,rfl,S,tx,wx,lx⟩
   ·rintro σ' H1 ⟨v,d,m,v2,v3,rfl,s1,t1,w1,l1⟩;exact ⟨_,rfl,q _ _ m _ s1 t1 w1 (by lia)⟩
end
end M
namespace M
open PySem L2
section
variable {P:Program}{w:World}{K:W.Frag}{mg:Str->Option Value}{base:Heap}
def XE (m:Nat):Sp:=λvs H Q _=>∃(v:V)(d:PyData)(j:Nat)(tx:List Nat),vs=[v]/\Th H v d/\Ws d j/\j<=m/\j<=8/\Tx d tx/\∀H',Same H H'->Q (.str (mkS tx)) H'
theorem scWrt:Gs ["wish", "numbers", "found", "one"] ["wish"] (Ge YQ):=⟨rfl,rfl,rfl,by decide +kernel,rfl,by decide +kernel,by decide +kernel⟩
theorem XF (wd:Str)(x y:List Nat):("(" : Str)++mkS x++(" " : Str)++wd++(" " : Str)++mkS y++(")" : Str)=mkS (Jm wd x y):=by
 apply JU;rw [G2,G2,G2,G2,G2,G2];show [40]++x++[32]++wd.cps.toList++[32]++y++[41]=Jm wd x y;unfold Jm;simp
def JY (ns:List Int):List Nat:=(ns.map PyData.int).flatMap λd=>32::Xt d
theorem VL (ns:List Int)(n:Int):JY (ns++[n])=JY ns++32::(num n).cps.toList:=by
 unfold JY;rw [List.map_append,List.flatMap_append];simp [Xt]
theorem WP {ns:List Int}(h:∀i∈ns,0<=i/\i<=9999):(JY ns).length<=5 * ns.length:=by
 induction ns with
 | nil=>exact Nat.le_refl _
 | cons p l ih=>
  have h2:=(OX (h p (List.mem_cons_self ..)).1 (h p (List.mem_cons_self ..)).2).1;have:=ih λq hq=>h q (List.mem_cons_of_mem _ hq);unfold JY at this ⊢;rw [List.map_cons,List.flatMap_cons,List.length_append,List.length_cons,List.length_cons];show (num p).cps.toList.length+1+_<=_
  lia
theorem WQ {wd:Str}(h:wd∈sJoin):wd = "and" \/ wd = "or" \/ wd = "but" := by
 unfold sJoin at h;rcases List.mem_cons.mp h with h | h
 ·exact .inl h
 rcases List.mem_cons.mp h with h | h
 ·exact .inr (.inl h)
 ·exact .inr (.inr (List.mem_singleton.mp h))
theorem XX {f:Addr}{fd:FuncData}(FWt:Fun K "_law_written" "_law_written" YQ f fd)(bWt:Binds K fd ["wish"] [])(mWt:mg "_law_written" = some (.ref f))(mLen:mg "len" = none)(mStr:mg "str" = none):∀m,FnOk P w K mg base CX0 m f fd ["wish"] (XE m)
 | 0=>⟨λvs H Q E h=>by obtain ⟨_,_,_,_,_,_,z,l,_⟩:=h;exact absurd z.pos (by lia),λA outer s H args us vs Q E _ _ _ _ h=>by obtain ⟨_,_,_,_,_,_,z,l,_⟩:=h;exact absurd z.pos (by lia)⟩
 | m+1=>by
  have GWt:=XX FWt bWt mWt mLen mStr m;refine FWt.ok scWrt (λvs H Q E h=>?_) (λcdv A outer s H vs Q E hr h=>?_)
  ·obtain ⟨_,_,_,_,rfl,_⟩:=h
   rfl
  ·obtain ⟨v,d,j,tx,rfl,th,hw,hj,h8,htx,q⟩:=h;have h16:(16777216:Nat)=sizeLine:=sizeLine_eq.symm;have lx:=UW hw h8 th htx;have l1:("(" : Str).length=1:=by decide +kernel
   have l2:(" " : Str).length=1:=by decide +kernel
   have l3:(")" : Str).length=1:=by decide +kernel
   refine ⟨_,Gf (G3 (PW.pt (JL (Gj JM (Gn (Om K) (pv 0) Gc (λ_ _=>rfl)) Gm (Gw _)) (JL (Gj JM (Gn (Om K) (pv 0) Gc (λ_ _=>rfl)) Gm (Gw _)) (Jy (Gj JM (Gn (Om K) (pv 0) Gc (λ_ _=>rfl)) Gm (Gw _)))))) (Gg (Gp (JC (JC (JC (JC (JC (JC Gm (GC GWt (hr.mono (by lia)) rfl mWt FWt.kp bWt .nil G0 (Ga (Gn (Om K) (pv 0) Gc (λ_ _=>rfl)) Gd))) Gm) (Gn (Om K) (pv 0) Gc (λ_ _=>rfl))) Gm) (GC GWt (hr.mono (by lia)) rfl mWt FWt.kp bWt .nil G0 (Ga (Gn (Om K) (pv 0) Gc (λ_ _=>rfl)) Gd))) Gm))) Gy)
    (Gf (Gv (i:=1) scWrt.nd rfl (Or.inl rfl) (GT (Y7 K) (pv 0) (GX Gc) Ji))
    (Gf (G3 (Gj JM (Gi (VA K) rfl mLen PySem.boot_len (Ga (pv 0) Gd)) Gc (Gw _)) (Gg (Gv (i:=1) scWrt.nd rfl (Or.inl rfl) (Gn (Om K) (pv 0) Gc (λ_ _=>rfl)))) Gy)
    (Gf (Gv (i:=2) scWrt.nd rfl (Or.inl rfl) (Gn (Om K) (pv 0) Gc (λ_ _=>rfl)))
    (Gf (Og PassesOwn.never rfl (W6 K (pv 1)) (GF (i:=3) scWrt.nd rfl (Or.inl rfl))
    (Gg (Gv (i:=2) scWrt.nd rfl (Or.inl rfl) (JC (JC (pv 2) Gm) (Jn Zbu rfl mStr Ju (Ga (pv 3) Gd))))))
    (Gg (Gp (pv 2))))))),?_⟩
   cases hw with
   | @leaf wd rest hl=>
    cases htx with
    | join hw _ _=>exact absurd hw (GP hl)
    | leaf _=>
     obtain ⟨ns,en,hn,hz,hc⟩:=UV th hl;have nj:=GP hl;have no:∀x∈sJoin,¬ decide (V.str wd=V.str x)=true:=λx hx z=>nj (by rw [V.str.inj (of_decide_eq_true z)];exact hx);cases th with
     | @tup a xs1 _ e z hh=>
      cases hh with
      | @cons x1 _ vs1 _ tx1 hr1=>
       cases tx1;refine ⟨_,rfl,a,_,_,_,rfl,rfl,SqT.of e,Gh (j:=0) rfl,rfl,_,rfl,OR (λc=>absurd c (no "and" (by decide +kernel))) (λ_=>?_)⟩;refine ⟨_,rfl,a,_,_,_,rfl,rfl,SqT.of e,Gh (j:=0) rfl,rfl,_,rfl,OR (λc=>absurd c (no "or" (by decide +kernel))) (λ_=>?_)⟩;refine ⟨_,rfl,a,_,_,_,rfl,rfl,SqT.of e,Gh (j:=0) rfl,rfl,_,rfl,OR (λc=>absurd c (no "but" (by decide +kernel))) (λ_=>?_)⟩;refine ⟨_,rfl,_,rfl,a,_,rfl,SqT.of e,?_,λt ht=>?_⟩
       ·rw [List.length_cons];intro hz;have:=hz.1;simp [HT.sIx] at this
       rw [show JN (V.str wd::vs1) (some 1) none=vs1 from JI (xs:=V.str wd::vs1) (k:=1)];have s1:Same H (upd H t (.tup vs1)):=Same.new ht;have e1:upd H t (.tup vs1) t=some (.tup vs1):=Gb;generalize upd H t (.tup vs1)=H1 at s1 e1 ⊢;have ea:=s1 _ _ e;dsimp only [Jz];refine Jt (λσ' H'=>∃nt:Addr,σ'=[some (.ref a),some (.ref nt),none,none]/\H1=H'/\H1 nt=some (.tup (ns.map V.int))) ?sm ?fm
       case fm=>
        intro hk;refine ⟨_,rfl,a,_,rfl,.inr (SqT.of ea),rfl,_,rfl,?_⟩;rcases hc with ⟨h4,er⟩ | ⟨h4,er⟩
        ·subst er;cases hr1 with
         | cons t2 r2=>
          cases r2;cases t2 with
          | @tup b ys _ e2 z2 hh2=>
           rw [JF hh2] at e2;refine GO ?_;exact ⟨_,rfl,a,_,_,_,rfl,rfl,SqT.of ea,Gh (j:=1) rfl,hk _ _ ⟨b,rfl,rfl,s1 _ _ e2⟩⟩
        ·rw [er] at hr1;obtain rfl:=JF hr1;have c2:¬ decide (V.int ((V.str wd::ns.map V.int).length:Int)=V.int 2)=true:=λz=>by
          have z:=V.int.inj (of_decide_eq_true z);rw [List.length_cons,List.length_map] at z;have h1:ns.length=1:=by lia
          unfold G1 at hl;rw [er] at hl;by_cases hb:wd∈sBare
          ·rw [if_pos hb] at hl;have:=List.isEmpty_iff.mp hl;rw [List.map_eq_nil_iff] at this;rw [this] at h1;cases h1
          ·rw [if_neg hb] at hl;by_cases hp:wd∈sPair
           ·rw [if_pos hp] at hl
            match ns,h1,hl with
            | [_],_,hl=>cases hl
           ·rw [if_neg hp,if_neg h4] at hl;cases hl
         refine OR (λz=>absurd z c2) (λ_=>?_);exact hk _ _ ⟨t,rfl,rfl,e1⟩
       rintro σ' H' ⟨nt,rfl,rfl,en1⟩;refine ⟨_,rfl,a,_,_,_,rfl,rfl,SqT.of ea,Gh (j:=0) rfl,?_⟩;refine ⟨_,rfl,nt,rfl,⟨_,SqT.of en1⟩,?_⟩;refine X3 (K:=K) (a:=nt) (xs:=ns.map V.int) (λi σ' H'=>∃v3:Option V,σ'=[some (.ref a),some (.ref nt),some (.str (mkS (wd.cps.toList++JY (ns.take i)))),v3]/\H1=H') ⟨none,?_,rfl⟩ ?_ ?_ ?_
       ·rw [List.take_zero];show [some (V.ref a),some (V.ref nt),some (V.str wd),none]=_;rw [show mkS (wd.cps.toList++JY [])=wd from JU (by show wd.cps.toList++[]=_;rw [List.append_nil])]
       ·rintro i σ' H' _ ⟨_,_,rfl⟩;exact SqT.of en1
       ·rintro i x σ' H' hx ⟨v3,rfl,rfl⟩;rw [List.getElem?_map] at hx;obtain ⟨n,hn1,rfl⟩:=Option.map_eq_some_iff.mp hx;obtain ⟨hi,er'⟩:=List.getElem?_eq_some_iff.mp hn1;have hm:=hn n (List.mem_of_getElem? hn1);have hw6:=Ub (Ot hl);have lt:(JY (ns.take i)).length<=5000:=by
         have:=WP (ns:=ns.take i) λp hp=>hn p (List.mem_of_mem_take hp);rw [List.length_take] at this
         lia
        have lN:=UU hm;have lM:(mkS (wd.cps.toList++JY (ns.take i))).length<=6000:=by rw [Je,List.length_append,JV];lia
        refine ⟨_,rfl,_,(" " : Str),rfl,rfl,by lia,_,rfl,n,rfl,⟨hm.1,by lia⟩,_,num n,rfl,rfl,by rw [PySem.Str.length_append];lia,?_⟩;refine ⟨some (.int n),?_,rfl⟩;have e2:mkS (wd.cps.toList++JY (ns.take i))++(" " : Str)++num n=mkS (wd.cps.toList++JY (ns.take (i+1))):=by
         apply JU;rw [G2,G2,List.take_succ_eq_append_getElem hi,er'];show wd.cps.toList++JY (ns.take i)++[32]++(num n).cps.toList=wd.cps.toList++JY (ns.take i++[n]);rw [VL];simp
        rw [<-e2]
        rfl
       ·rintro σ' H' ⟨v3,rfl,rfl⟩;rw [List.length_map,List.take_length];refine ⟨_,rfl,?_⟩;have e2:wd.cps.toList++JY ns=J7 wd rest:=by unfold J7 JY;rw [en]
        rw [e2];exact q _ s1
   | @join wd da db m1 m2 hw wa wb=>
    cases htx with
    | leaf hl=>exact absurd hw (GP hl)
    | @join _ _ _ ta tb _ xa xb=>
     cases th with
     | @tup a _ _ ea za hs=>
     cases hs with
     | @cons _ _ vs1 _ tw hr1=>
     cases hr1 with
     | @cons va _ vs2 _ tha hr2=>
     cases hr2 with
     | @cons vb _ vs3 _ thb hr3=>
     cases hr3;cases tw;have go:ZaE (UN (UN (UN (UN (UN (UN (tC (.str "(")) (Vv (XE m) [] E0 (Oj (tOp (Zv K) (VM 0) (tC (.int 1))) Zp))) (tC (.str " "))) (tOp (Zv K) (VM 0) (tC (.int 0)))) (tC (.str " "))) (Vv (XE m) [] E0 (Oj (tOp (Zv K) (VM 0) (tC (.int 2))) Zp))) (tC (.str ")"))) { nx:=λx H'=>Q V.non H',rt:=Q } [some (.ref a),none,none,none] H:=by
      rw [UI] at lx;refine ⟨_,rfl,a,_,_,_,rfl,rfl,SqT.of ea,Gh (j:=1) rfl,va,da,m1,ta,rfl,tha,wa,by lia,by lia,xa,λH1 s1=>?_⟩;refine ⟨_,_,rfl,rfl,by rw [Je];lia,_,(" " : Str),rfl,rfl,by simp only [PySem.Str.length_append,Je];lia,?_⟩;refine ⟨_,rfl,a,_,_,_,rfl,rfl,SqT.of (s1 _ _ ea),Gh (j:=0) rfl,_,wd,rfl,rfl,by simp only [PySem.Str.length_append,Je];lia,?_⟩;refine ⟨_,(" " : Str),rfl,rfl,by simp only [PySem.Str.length_append,Je];lia,?_⟩;refine ⟨_,rfl,a,_,_,_,rfl,rfl,SqT.of (s1 _ _ ea),Gh (j:=2) rfl,vb,db,m2,tb,rfl,thb.same s1,wb,by lia,by lia,xb,λH2 s2=>?_⟩;refine ⟨_,_,rfl,rfl,by simp only [PySem.Str.length_append,Je];lia,_,(")" : Str),rfl,rfl,by simp only [PySem.Str.length_append,Je];lia,?_⟩;rw [XF];exact q _ (s1.trans s2)
     rcases WQ hw with rfl | rfl | rfl
     ·exact ⟨_,rfl,a,_,_,_,rfl,rfl,SqT.of ea,Gh (j:=0) rfl,rfl,_,rfl,GO (GO go)⟩
     ·refine ⟨_,rfl,a,_,_,_,rfl,rfl,SqT.of ea,Gh (j:=0) rfl,rfl,_,rfl,G4 ?_⟩;exact ⟨_,rfl,a,_,_,_,rfl,rfl,SqT.of ea,Gh (j:=0) rfl,rfl,_,rfl,GO (GO go)⟩
     ·refine ⟨_,rfl,a,_,_,_,rfl,rfl,SqT.of ea,Gh (j:=0) rfl,rfl,_,rfl,G4 ?_⟩;refine ⟨_,rfl,a,_,_,_,rfl,rfl,SqT.of ea,Gh (j:=0) rfl,rfl,_,rfl,G4 ?_⟩;exact ⟨_,rfl,a,_,_,_,rfl,rfl,SqT.of ea,Gh (j:=0) rfl,rfl,_,rfl,GO go⟩
end
end M
namespace M
open PySem L2
def plB:Nat->PyData->Bool
 | 0,_=>false
 | _+1,.int _=>true
 | _+1,.str _=>true
 | m+1,.tuple ds=>ds.all (plB m)
 | _+1,_=>false
theorem J8:∀{m n:Nat}{d:PyData},plB m d=true->m<=n->plB n d=true
 | 0,_,_,h,_=>by simp [plB] at h
 | m+1,0,_,_,hl=>by lia
 | m+1,n+1,d,h,hl=>by
  cases d with
  | int i=>rfl
  | str x=>rfl
  | tuple ds=>
   have h:ds.all (plB m)=true:=h;show ds.all (plB n)=true;rw [List.all_eq_true] at h ⊢;exact λx hx=>J8 (h x hx) (by lia)
  | _=>simp [plB] at h
theorem Ws.pl {d:PyData}{m:Nat}(h:Ws d m):plB (m+2) d=true:=by
 induction h with
 | @leaf w rest hl=>
  obtain ⟨ns,en,hn,hc⟩:=OJ hl;have hi:∀k,(ns.map PyData.int).all (plB (k+1))=true:=λk=>by rw [List.all_map,List.all_eq_true];intro x _;rfl
  show (PyData.str w::rest).all (plB 2)=true;rw [List.all_cons];rcases hc with ⟨_,er⟩ | ⟨_,er⟩
  ·rw [er];show (true && ([PyData.tuple (ns.map .int)].all (plB 2)))=true;rw [List.all_cons,List.all_nil];show (true && ((ns.map PyData.int).all (plB 1) && true))=true;rw [hi 0];rfl
  ·rw [er,hi 1];rfl
 | @join w a b m n hw _ _ iha ihb=>
  show (PyData.str w::[a,b]).all (plB (max m n+2))=true;rw [List.all_cons,List.all_cons,List.all_cons,List.all_nil,J8 iha (by lia),J8 ihb (by lia)]
  rfl
structure Zbw (K:W.Frag):Prop where
 is:W.kitOne K (.type "int") (.type "str")=some false
 ts:W.kitOne K (.type "tuple") (.type "str")=some false
 it:W.kitOne K (.type "int") (.type "tuple")=some false
 il:W.kitOne K (.type "int") (.type "list")=some false
 tl:W.kitOne K (.type "tuple") (.type "list")=some false
 ib:W.kitOne K (.type "int") (.type "bool")=some false
section
variable {P:Program}{w:World}{K:W.Frag}{mg:Str->Option Value}{base:Heap}
def Zat (m:Nat):Sp:=λvs H Q _=>∃(v u:V)(d:PyData),vs=[v,u]/\Th H v d/\Th H u d/\plB m d=true/\∀H',Same H H'->Q (.bl true) H'
theorem Zbb:Gs ["found", "due"] ["found", "due"] (Ge YR):=⟨rfl,rfl,rfl,by decide +kernel,rfl,by decide +kernel,by decide +kernel⟩
theorem XY {f:Addr}{fd:FuncData}(FAl:Fun K "_law_alike" "_law_alike" YR f fd)(bAl:Binds K fd ["found", "due"] [])(mAl:mg "_law_alike" = some (.ref f))(k:Zbw K)(mIsi:mg "isinstance" = none)(mStr:mg "str" = none)(mTup:mg "tuple" = none)(mLst:mg "list" = none)(mInt:mg "int" = none)(mBool:mg "bool" = none)(mLen:mg "len" = none)(mRange:mg "range" = none):∀m,FnOk P w K mg base CX0 m f fd ["found", "due"] (Zat m)
 | 0=>⟨λvs H Q E h=>by obtain ⟨_,_,_,_,_,_,z,_⟩:=h;exact absurd z (by simp [plB]),λA outer s H args us vs Q E _ _ _ _ h=>by obtain ⟨_,_,_,_,_,_,z,_⟩:=h;exact absurd z (by simp [plB])⟩
 | m+1=>by
  have GAl:=XY FAl bAl mAl k mIsi mStr mTup mLst mInt mBool mLen mRange m;refine FAl.ok Zbb (λvs H Q E h=>?_) (λcdv A outer s H vs Q E hr h=>?_)
  ·obtain ⟨_,_,_,rfl,_⟩:=h
   rfl
  ·obtain ⟨v,u,d,rfl,hv,hu',hp,q⟩:=h;have hu:=hr.units;have h16:(16777216:Nat)=sizeLine:=sizeLine_eq.symm;refine ⟨_,Gf (G3 (Jh (Gi (O5 K) rfl mIsi Gz (Ga (pv 1) (Ga (G7 mStr Ju) Gd)))) (Gg (Gp (Ow (Gi (O5 K) rfl mIsi Gz (Ga (pv 0) (Ga (G7 mStr Ju) Gd))) (Uh (J9 JM (pv 0) (pv 1) (Gw _)))))) Gy)
    (Gf (G3 (PW.pt (JL (Jh (Gi (O5 K) rfl mIsi Gz (Ga (pv 1) (Ga (G7 mTup GU) Gd)))) (Jy (Jh (Gi (O5 K) rfl mIsi Gz (Ga (pv 1) (Ga (G7 mLst J2) Gd))))))) (Gf (G3 (PW.pt (JL (Gj Oy (Gi (O5 K) rfl mIsi Gz (Ga (pv 0) (Ga (G7 mTup GU) Gd))) (Gi (O5 K) rfl mIsi Gz (Ga (pv 1) (Ga (G7 mTup GU) Gd))) (Gw _)) (Jy (Gj Oy (Gi (O5 K) rfl mIsi Gz (Ga (pv 0) (Ga (G7 mLst J2) Gd))) (Gi (O5 K) rfl mIsi Gz (Ga (pv 1) (Ga (G7 mLst J2) Gd))) (Gw _))))) (Gg (Gp OK)) Gy)
    (Gf (G3 (Gj Oy (Gi (VA K) rfl mLen PySem.boot_len (Ga (pv 0) Gd)) (Gi (VA K) rfl mLen PySem.boot_len (Ga (pv 1) Gd)) (Gw _)) (Gg (Gp OK)) Gy)
    (Gg (Gp (J9 (Zbr K hu) (JR (own:=["k"]) rfl (GZ (fr:=[("found", 0),("due", 1)]) [(".0", .local),("k", .local),("_law_alike", .globalImplicit),("due", .cell),("found", .cell)] rfl rfl (by decide +kernel) rfl (by decide +kernel) ⟨rfl,rfl,trivial⟩ ⟨λh=>On h,λh=>On h,λh=>On h,λ_=>⟨_,rfl⟩,λ_=>⟨_,rfl⟩,trivial⟩ ⟨⟨rfl,.inl rfl,.inl rfl⟩,⟨rfl,.inl rfl,.inl rfl⟩,trivial⟩) (G5 rfl mRange (Ga (Gi (VA K) rfl mLen PySem.boot_len (Ga (pv 1) Gd)) Gd)) (λ_ _ _ _=>GF (i:=0) (show List.Nodup (["k", "found", "due"]:List Str) by decide +kernel) rfl (Or.inl rfl)) (λ_ _ _ _=>WZ (Jw (Jh (GC GAl (hr.mono (by lia)) rfl mAl FAl.kp bAl .nil G0 (Ga (Gn (Om K) (pv 1) (pv 0) (λ_ _=>rfl)) (Ga (Gn (Om K) (pv 2) (pv 0) (λ_ _=>rfl)) Gd)))))) (λ_ _ _ _=>pv 0)) (GY Gd) (Gw _)))))) Gy)
    (Gg (Gp (Ow (Gi (O5 K) rfl mIsi Gz (Ga (pv 0) (Ga (G7 mInt O4) Gd))) (Ow (VQ (Gi (O5 K) rfl mIsi Gz (Ga (pv 0) (Ga (G7 mBool Uy) Gd)))) (Uh (J9 JM (pv 0) (pv 1) (Gw _)))))))),?_⟩
   cases hu' with
   | int i=>
    cases hv;refine ⟨_,rfl,_,_,false,rfl,⟨_,rfl,G4 ?_⟩,.inl ⟨_,.int _,rfl,k.is⟩⟩;refine ⟨_,rfl,_,_,false,rfl,⟨_,rfl,G4 ?_⟩,.inl ⟨_,.int _,rfl,k.it⟩⟩;refine ⟨_,rfl,_,_,false,rfl,⟨_,rfl,G4 ?_⟩,.inl ⟨_,.int _,rfl,k.il⟩⟩;refine ⟨_,rfl,_,_,true,rfl,⟨_,rfl,GO ⟨_,rfl,_,_,false,rfl,⟨_,rfl,_,rfl,GO ?_⟩,.inl ⟨_,.int _,rfl,k.ib⟩⟩⟩,.inl ⟨_,.int _,rfl,GI⟩⟩;refine ⟨_,rfl,_,rfl,rfl,?_⟩;rw [decide_eq_true rfl];exact q _ (Same.refl _)
   | str x=>
    cases hv;refine ⟨_,rfl,_,_,true,rfl,⟨_,rfl,GO ?_⟩,.inl ⟨_,.str _,rfl,GI⟩⟩;refine ⟨_,rfl,_,_,true,rfl,⟨_,rfl,GO ?_⟩,.inl ⟨_,.str _,rfl,GI⟩⟩;refine ⟨_,rfl,_,rfl,rfl,?_⟩;rw [decide_eq_true rfl];exact q _ (Same.refl _)
   | @tup a xs ds e z hd=>
    cases hv with
    | @tup a' xs' _ e' z' hd'=>
     refine ⟨_,rfl,_,_,false,rfl,⟨_,rfl,G4 ?_⟩,.inl ⟨_,.tup e,rfl,k.ts⟩⟩;refine ⟨_,rfl,_,_,true,rfl,⟨_,rfl,GO ?_⟩,.inl ⟨_,.tup e,rfl,GI⟩⟩;refine GO ?_;have cT:(!decide (V.bl true=V.bl true))=false:=by decide
     have cF:(!decide (V.bl false=V.bl false))=false:=by decide
     refine ⟨_,rfl,_,_,true,rfl,⟨_,rfl,_,_,true,rfl,⟨rfl,_,rfl,?_⟩,.inl ⟨_,.tup e,rfl,GI⟩⟩,.inl ⟨_,.tup e',rfl,GI⟩⟩;rw [cT];refine G4 ?_;refine ⟨_,rfl,_,_,false,rfl,⟨_,rfl,_,_,false,rfl,⟨rfl,_,rfl,?_⟩,.inl ⟨_,.tup e,rfl,k.tl⟩⟩,.inl ⟨_,.tup e',rfl,k.tl⟩⟩;rw [cF];refine G4 ?_;have hl:xs'.length=xs.length:=by rw [hd'.len,hd.len]
     refine ⟨_,rfl,a',xs',rfl,.inr (SqT.of e'),_,rfl,a,xs,rfl,.inr (SqT.of e),rfl,_,rfl,?_⟩;have cL:(!decide (V.int (xs'.length:Int)=V.int (xs.length:Int)))=false:=by rw [hl];simp
     rw [cL];refine G4 ?_;have qJ:=hd.len;have hpl:∀x∈ds,plB m x=true:=List.all_eq_true.mp (by simpa only [plB] using hp);refine ⟨_,rfl,a,xs,rfl,.inr (SqT.of e),_,rfl,by lia,by lia,λD hD=>?_⟩;rw [Int.toNat_natCast];refine JH (lo:=0) (n:=xs.length) (λj zs H3=>Same H H3/\H3 D=some (.lst zs)/\zs=[]) ⟨Same.new hD,Gb,rfl⟩ ?_ ?_
     ·rintro j zs H3 hj ⟨s3,e3,rfl⟩;rw [Int.zero_add];refine ⟨⟨rfl,rfl,trivial⟩,?_⟩;obtain ⟨dx,ex,tx⟩:=(hd.same s3).get (List.getElem?_eq_getElem hj);obtain ⟨dx',ex',tx'⟩:=(hd'.same s3).get (List.getElem?_eq_getElem (l:=xs') (i:=j) (by lia));rw [ex] at ex';cases ex';refine ⟨_,rfl,_,rfl,a',xs',_,_,rfl,rfl,SqT.of (s3 _ _ e'),Gh (List.getElem?_eq_getElem (by lia)),?_⟩;refine ⟨_,rfl,_,rfl,a,xs,_,_,rfl,rfl,SqT.of (s3 _ _ e),Gh (List.getElem?_eq_getElem hj),?_⟩;refine ⟨_,_,dx,rfl,tx',tx,hpl dx (List.mem_of_getElem? ex),λH4 s4=>⟨_,rfl,?_⟩⟩;exact ⟨s3.trans s4,s4 _ _ e3,rfl⟩
     ·rintro zs H3 ⟨s3,e3,rfl⟩;refine ⟨Nat.zero_le _,λB hB=>?_⟩;have s4:Same H3 (upd H3 B (.lst [])):=Same.new hB;refine ⟨.list (([]:List Int).map PyData.int),.list (([]:List Int).map PyData.int),.lst (SqL.of (s4 _ _ e3)) .nil,.lst (SqL.of Gb) .nil,OE _,OE _,?_⟩;exact q _ (s3.trans s4)
   | _=>exact absurd hp (by simp [plB])
end
end M
namespace M
open PySem L2
section
variable {P:Program}{w:World}{K:W.Frag}{mg:Str->Option Value}{base:Heap}
theorem Ue {ns:List Int}{lo n:Nat}(h:lo+n<=ns.length):JN (ns.map V.int) (some (lo:Int)) (some ((lo+n:Nat):Int))=((ns.drop lo).take n).map V.int/\((ns.drop lo).take n).length=n:=by
 constructor
 ·unfold JN;rw [List.length_map,HT.sIx_nat,HT.sIx_nat,Nat.min_eq_left (by lia),Nat.min_eq_left (by lia),show lo+n-lo=n by lia,List.map_take,List.map_drop]
 ·rw [List.length_take,List.length_drop]
  lia
theorem UK {H H':Hp}(k:∀t ys,H t=some (.tup ys)->H' t=some (.tup ys)){b:Nat}:∀{vs:List V}{ds:List PyData},Ths H vs ds->(∀d∈ds,∃m,Ws d m/\m<=b)->Ths H' vs ds
 | _,_,.nil,_=>.nil
 | _,_,.cons a c,h=>by
  obtain ⟨m,w,_⟩:=h _ (List.mem_cons_self ..);exact .cons (w.keep k a) (UK k c λd hd=>h d (List.mem_cons_of_mem _ hd))
theorem _root_.M.Wl.keep {H H':Hp}(k:∀t ys,H t=some (.tup ys)->H' t=some (.tup ys)){vs:List V}{ds:List PyData}{b:Nat}(h:Wl H vs ds b):Wl H' vs ds b:=⟨UK k h.t h.w,h.w⟩
def HdAt (H:Hp)(x:V):Prop:=∃(t:Addr)(v:V)(d:PyData)(m:Nat)(tx:List Nat),x=.ref t/\H t=some (.tup [v,.str (mkS tx)])/\Th H v d/\Ws d m/\m<=8/\Tx d tx
theorem HdAt.keep {H H':Hp}(k:∀t ys,H t=some (.tup ys)->H' t=some (.tup ys)){x:V}(h:HdAt H x):HdAt H' x:=by
 obtain ⟨t,v,d,m,tx,rfl,e,th,hw,h8,ht⟩:=h;exact ⟨t,v,d,m,tx,rfl,k _ _ e,hw.keep k th,hw,h8,ht⟩
structure Env (tbW hl:Addr)(H0 H:Hp)(us:List V):Prop where
 s:SameL tbW H0 H
 tab:TabW tbW H
 hl:H hl=some (.lst us)
 held:∀x∈us,HdAt H x
theorem Env.same {tbW hl:Addr}{H0 H H':Hp}{us:List V}(h:Env tbW hl H0 H us)(s:Same H H'):Env tbW hl H0 H' us:=⟨h.s.trans (SameL.of s),h.tab.same s,s _ _ h.hl,λx hx=>(h.held x hx).keep λt ys e=>s _ _ e⟩
theorem Env.slW {tbW hl:Addr}{H0 H H':Hp}{us:List V}(h:Env tbW hl H0 H us)(s:SameL tbW H H')(t:TabW tbW H'):Env tbW hl H0 H' us:=⟨h.s.trans s,t,SameL.lsts s h.tab h.hl,λx hx=>(h.held x hx).keep (SameL.tups s h.tab)⟩
theorem Env.script {tbW hl a:Addr}{H0 H:Hp}{us xs:List V}{ps:Array Value}(h:Env tbW hl H0 H us)(e0:H0 tbW=some (.tbl ps))(q:SqL K H0 a xs):SqL K H a xs:=by
 rcases q with (e | ⟨o,e⟩) | e
 ·exact .inl (.inl (h.s _ _ (λz=>by rw [z,e0] at e;cases e) e))
 ·exact .inl (.inr ⟨o,h.s _ _ (λz=>by rw [z,e0] at e;cases e) e⟩)
 ·exact .inr e
theorem Env.free {tbW hl p:Addr}{H0 H:Hp}{us:List V}{ps:Array Value}(h:Env tbW hl H0 H us)(e0:H0 tbW=some (.tbl ps))(n:H p=none):H0 p=none:=h.s.free e0 h.tab.tbl n
theorem Vr {tbW D:Addr}{H:Hp}{ys zs:List V}(h:TabW tbW H)(e:H D=some (.lst ys)):TabW tbW (upd H D (.lst zs)):=by
 obtain ⟨es,on,hes⟩:=h;refine ⟨es,⟨by rw [Gr (λz=>by have:=on.1;rw [z,e] at this;cases this)];exact on.1,λy hy=>?_⟩,hes⟩;obtain ⟨oc,z1,z2⟩:=on.2 y hy;exact ⟨oc,by rw [Gr (λz=>by rw [z,e] at z1;cases z1)];exact z1,z2⟩
theorem Env.put {tbW hl D:Addr}{H0 H:Hp}{us ys zs:List V}(h:Env tbW hl H0 H us)(d0:H0 D=none)(e:H D=some (.lst ys))(ne:D≠hl):Env tbW hl H0 (upd H D (.lst zs)) us:=
 ⟨h.s.put d0,Vr h.tab e,by rw [Gr (Ne.symm ne)];exact h.hl,λx hx=>(h.held x hx).keep (Js e)⟩
def XG (K:W.Frag)(tbW:Addr):Sp:=λvs H Q _=>∃(a:Addr)(ns:List Int),vs=[.ref a]/\SqL K H a (ns.map V.int)/\ns.length<=63/\H tbW=some (.tbl #[])/\∀H',Q (.bl true) H'
theorem scLaw:Gs ["script", "held", "k", "xs", "parts", "word", "wish", "due", "found"] ["script"] (Ge Xq):=⟨rfl,rfl,rfl,by decide +kernel,rfl,by decide +kernel,by decide +kernel⟩
theorem Zau {f fA fN fM fJ fDp fWt fSw fRw fAl tbW:Addr}{fd fdA fdN fdM fdJ fdDp fdWt fdSw fdRw fdAl:FuncData}(F:Fun K "law" "law" Xq f fd)(FA:Fun K "_law_cell_at" "_law_cell_at" YK fA fdA)(bA:Binds K fdA ["script", "k"] [])(mA:mg "_law_cell_at" = some (.ref fA))(GA:FnOk P w K mg base CX0 1 fA fdA ["script", "k"] (ZQ K))(FN:Fun K "_law_numbers" "_law_numbers" YL fN fdN)(bN:Binds K fdN ["cell", "many"] [])(mN:mg "_law_numbers" = some (.ref fN))(GN:FnOk P w K mg base CX0 1 fN fdN ["cell", "many"] ZS)(FM:Fun K "_law_some" "_law_some" YM fM fdM)(bM:Binds K fdM ["xs"] [])(mM:mg "_law_some" = some (.ref fM))(GM:FnOk P w K mg base CX0 1 fM fdM ["xs"] ZU)(FJ:Fun K "_law_joined" "_law_joined" YN fJ fdJ)(bJ:Binds K fdJ ["parts", "xs"] [])(mJ:mg "_law_joined" = some (.ref fJ))(GJ:FnOk P w K mg base CX0 1 fJ fdJ ["parts", "xs"] ZW)(FDp:Fun K "_law_deep" "_law_deep" YO fDp fdDp)(bDp:Binds K fdDp ["thing", "xs"] [])(mDp:mg "_law_deep" = some (.ref fDp))(GDp:FnOk P w K mg base CX0 1 fDp fdDp ["thing", "xs"] Zar)(FWt:Fun K "_law_written" "_law_written" YQ fWt fdWt)(bWt:Binds K fdWt ["wish"] [])(mWt:mg "_law_written" = some (.ref fWt))(GWt:FnOk P w K mg base CX0 8 fWt fdWt ["wish"] (XE 8))(FSw:Fun K "show_wish" "show_wish" Xp fSw fdSw)(bSw:Binds K fdSw ["wish"] [])(mSw:mg "show_wish" = some (.ref fSw))(GSw:FnOk P w K mg base CX0 4 fSw fdSw ["wish"] (YY tbW))(FRw:Fun K "read_wish" "read_wish" YJ fRw fdRw)(bRw:Binds K fdRw ["text"] [])(mRw:mg "read_wish" = some (.ref fRw))(GRw:O8 P w K mg base CX0 5 fRw fdRw ["text"] (Zap tbW))(FAl:Fun K "_law_alike" "_law_alike" YR fAl fdAl)(bAl:Binds K fdAl ["found", "due"] [])(mAl:mg "_law_alike" = some (.ref fAl))(GAl:FnOk P w K mg base CX0 10 fAl fdAl ["found", "due"] (Zat 10))(mIsi:mg "isinstance" = none)(mTup:mg "tuple" = none)(mStr:mg "str" = none)(mLen:mg "len" = none)(mRange:mg "range" = none)(mMax:mg "max" = none) :
  FnOk P w K mg base CX0 11 f fd ["script"] (XG K tbW):=by
 refine F.ok scLaw (λvs H Q E h=>?_) (λcdv A outer s H vs Q E hr h=>?_)
 ·obtain ⟨a,ns,rfl,_⟩:=h
  rfl
 ·obtain ⟨a,ns,rfl,hS,qJ,hT0,q⟩:=h;have h16:(16777216:Nat)=sizeLine:=sizeLine_eq.symm;refine ⟨_,Gf (Gv (i:=1) scLaw.nd rfl (Or.inl rfl) (GY Gd))
    (Gf (Og PassesOwn.never rfl (G5 rfl mRange (Ga (Gi (V1 rfl) rfl mMax Xr (Ga Gc (Ga (Gi (VA K) rfl mLen PySem.boot_len (Ga (pv 0) Gd)) Gd))) Gd)) (GF (i:=2) scLaw.nd rfl (Or.inl rfl)) (Wp (Yq (i:=3) scLaw.nd rfl (Or.inr rfl) (Xi GN (hr.mono (by decide)) rfl mN FN.kp bN .nil G0 (ZbR (GC GA (hr.mono (by decide)) rfl mA FA.kp bA .nil G0 (Ga (pv 0) (Ga (pv 2) Gd))) (ZaU Gd))))
    (G9 (PS.q (Yi (i:=4) scLaw.nd rfl (Or.inl rfl) (own:=["j"]) rfl (GZ (fr:=[("xs", 3)]) [(".0", .local),("j", .local),("_law_some", .globalImplicit),("xs", .cell)] rfl rfl (by decide +kernel) rfl (by decide +kernel) ⟨rfl,trivial⟩ ⟨λh=>On h,λh=>On h,λh=>On h,λ_=>⟨_,rfl⟩,trivial⟩ ⟨⟨rfl,.inl rfl,.inl rfl⟩,trivial⟩) (G5 rfl mRange (Ga (Gk Jf Gc (Gk GB (Gn (Jk K) (pv 3) Gc (λ_ _=>rfl)) Gc)) Gd)) (λ_ _ _ _=>GF (i:=0) (show List.Nodup (["j", "xs"]:List Str) by decide +kernel) rfl (Or.inl rfl)) (λ_ _ _ _=>Jr) (λ_ _ _ _=>GC GM (hr.mono (by decide)) rfl mM FM.kp bM .nil G0 (Ga (GT (kSl K) (pv 1) (GX (Gk Jx Gc (pv 0))) (GX (Gk Jf (Gk Jx Gc (pv 0)) Gc))) Gd))))
    (G9 (PS.q (G3 (PW.pt (VP (Gj JM (Gk GB (Gn (Jk K) (pv 3) Gc (λ_ _=>rfl)) Gc) Gc (Gw _)) (UM (Gj Oy (Gk GB (Gn (Jk K) (pv 3) Gc (λ_ _=>rfl)) Gc) Gc (Gw _))))) (Gf (Gv (i:=5) scLaw.nd rfl (Or.inl rfl) (Gn (Jk K) (GY (Ga Gm (Ga Gm (Ga Gm (Ga Gm Gd))))) (Gk GB (Gn (Jk K) (pv 3) Gc (λ_ _=>rfl)) Gc) (λ_ _=>rfl)))
    (Gg (VT (G6 (Ga (pv 5) (Ga (Jn (XS K) rfl mTup GU (Ga (JR (own:=["j"]) rfl (GZ (fr:=[("xs", 3)]) [(".0", .local),("j", .local),("xs", .cell)] rfl rfl (by decide +kernel) rfl (by decide +kernel) ⟨rfl,trivial⟩ ⟨λh=>On h,λh=>On h,λ_=>⟨_,rfl⟩,trivial⟩ ⟨⟨rfl,.inl rfl,.inl rfl⟩,trivial⟩) (G5 rfl mRange (Ga (Gk Jf Gc (Gk GB (Gn (Jk K) (pv 3) Gc (λ_ _=>rfl)) Gc)) Gd)) (λ_ _ _ _=>GF (i:=0) (show List.Nodup (["j", "xs"]:List Str) by decide +kernel) rfl (Or.inl rfl)) (λ_ _ _ _=>Jr) (λ_ _ _ _=>Gk GB (Gk Jx (Gn (Jk K) (pv 1) (Gk Jf Gc (Gk GB (pv 0) Gc)) (λ_ _=>rfl)) (Gk Jf (pv 0) Gc)) Gc)) Gd)) Gd))) (XH (pv 4) Gc U7)))) Gy))
    (G9 (PS.q (Gv (i:=6) scLaw.nd rfl (Or.inl rfl) (GC GDp (hr.mono (by decide)) rfl mDp FDp.kp bDp .nil G0 (Ga (GC GJ (hr.mono (by decide)) rfl mJ FJ.kp bJ .nil G0 (Ga (pv 4) (Ga (GT (kSl K) (pv 3) (GX Gc) (GX Gc)) Gd))) (Ga (GT (kSl K) (pv 3) (GX Gc) (GX Gc)) Gd)))))
    (G9 (PS.q (Gv (i:=7) scLaw.nd rfl (Or.inl rfl) (GC GWt (hr.mono (by decide)) rfl mWt FWt.kp bWt .nil G0 (Ga (pv 6) Gd))))
    (G9 (PS.q (Gv (i:=8) scLaw.nd rfl (Or.inl rfl) (GC GSw (hr.mono (by decide)) rfl mSw FSw.kp bSw .nil G0 (Ga (pv 6) Gd))))
    (G9 (XT (PWq.pt (Wn (PT.q (Jw (Jh (Gi (O5 K) rfl mIsi Gz (Ga (pv 8) (Ga (G7 mStr Ju) Gd)))))) (Wn (PT.q (Gj Oy (pv 8) (pv 7) (Gw _))) (Wm (Wk (Wj (J3 GAl.q (hr.mono (by decide)) rfl mAl FAl.kp bAl .nil G0 (Vm (J3 GRw (hr.mono (by decide)) rfl mRw FRw.kp bRw .nil G0 (PA.q (Ga (pv 7) Gd))) (PA.q (Ga (pv 6) Gd)))))))))) (PSs.q (Gg (Gp OK))) (PSs.q Gy))
    (O9 (PS.q (Jd (J1 PySem.F.plainAttrs_list PySem.F.slot_list_append PySem.F.type_list_append GR (pv 1) (Ga (G6 (Ga (pv 6) (Ga (pv 7) Gd))) Gd)))))))))))))
    (Gf (Ys PassesOwn.never rfl (Xj (Wu (kSl K) (pv 1) Ji) K) (Zbs K (n:=2) rfl (Os (GF (i:=6) scLaw.nd rfl (Or.inl rfl)) (Os (GF (i:=7) scLaw.nd rfl (Or.inl rfl)) VS))) (O9 (XT (PWq.pt (Wn (Wk (Wj (J3 GAl.q (hr.mono (by decide)) rfl mAl FAl.kp bAl .nil G0 (Vm (J3 GRw (hr.mono (by decide)) rfl mRw FRw.kp bRw .nil G0 (PA.q (Ga (pv 7) Gd))) (PA.q (Ga (pv 6) Gd)))))) (Wm (PT.q (Gj Oy (GC GSw (hr.mono (by decide)) rfl mSw FSw.kp bSw .nil G0 (Ga (pv 6) Gd)) (pv 7) (Gw _)))))) (PSs.q (Gg (Gp OK))) (PSs.q Gy))))
    (Gg (Gp OK)))),?_⟩
  refine ⟨Nat.zero_le _,λhl hhl=>?_⟩;have s0:Same H (upd H hl (.lst [])):=Same.new hhl;have e0:upd H hl (.lst []) hl=some (.lst []):=Gb;generalize upd H hl (.lst [])=H0 at s0 e0 ⊢;have tab0:TabW tbW H0:=⟨[],⟨s0 _ _ hT0,λe he=>(by cases he)⟩,.inl rfl⟩;have hS0:=s0.seq hS;refine ⟨_,rfl,a,_,rfl,.inl hS0,_,_,rfl,_,rfl,?_⟩;rw [List.length_map];obtain ⟨n,hn,hn1,hn2⟩:∃n:Nat,(if ((ns.length:Nat):Int) > 1 then ((ns.length:Nat):Int) else 1)=(n:Int)/\1<=n/\n<=63:=by
   by_cases hz:((ns.length:Nat):Int) > 1
   ·rw [if_pos hz];exact ⟨ns.length,rfl,by lia,qJ⟩
   ·rw [if_neg hz];exact ⟨1,rfl,by decide,by decide⟩
  rw [hn];refine ⟨by lia,by lia,?_⟩;rw [Int.toNat_natCast];refine JA (lo:=0) (n:=n) (λi σ' H'=>∃(us:List V)(v2 v3 v4 v5 v6 v7 v8:Option V),σ'=[some (.ref a),some (.ref hl),v2,v3,v4,v5,v6,v7,v8]/\Env tbW hl H H' us/\us.length<=i) ⟨[],none,none,none,none,none,none,none,rfl,⟨SameL.of s0,tab0,e0,λx hx=>(by cases hx)⟩,Nat.le_refl _⟩ ?_ ?_
  ·rintro i σ' H1 hi ⟨us,v2,v3,v4,v5,v6,v7,v8,rfl,env1,hus⟩;rw [Int.zero_add];refine ⟨_,rfl,_,rfl,a,ns,i,rfl,env1.script hT0 hS,λz0=>?_⟩;refine ⟨z0,32,rfl,by decide,λxl row H2 s2 exl hrow=>?_⟩;have env2:=env1.same s2;dsimp only [Jz];refine Jt (λσ' H'=>∃(D:Addr)(ys:List V)(ds:List PyData),σ'=[some (.ref a),some (.ref hl),some (.int (i:Int)),some (.ref xl),some (.ref D),v5,v6,v7,v8]/\Same H2 H'/\H2 D=none/\H' D=some (.lst ys)/\Wl H' ys ds 1/\1<=ds.length/\ds.length<=3) ?s1 ?f1
   case f1=>
    intro hk;have r0:0<=row.getD (18:Int).toNat 0 % 3:=Int.emod_nonneg _ (by decide);have r1:row.getD (18:Int).toNat 0 % 3<3:=Int.emod_lt_of_pos _ (by decide);refine ⟨_,rfl,xl,_,_,_,rfl,rfl,SqL.of exl,GQ (by lia) (by lia),_,_,rfl,rfl,(by show (0:Int)<3;decide),_,_,rfl,rfl,_,rfl,by lia,by lia,λD hD=>?_⟩;refine JH (lo:=0) (n:=(1+row.getD (18:Int).toNat 0 % 3).toNat) (λj ys H'=>Same H2 H'/\H' D=some (.lst ys)/\∃ds:List PyData,Wl H' ys ds 1/\ds.length=j) ⟨Same.new hD,Gb,[],⟨.nil,λd hd=>(by cases hd)⟩,rfl⟩ ?_ ?_
    ·rintro j ys H3 hj ⟨s3,eD,ds,W,hds⟩;rw [Int.zero_add];have hj4:j<3:=by lia
     refine ⟨⟨rfl,trivial⟩,?_⟩;unfold XQ;refine GO ?_;obtain ⟨ec,lc⟩:=Ue (ns:=row) (lo:=6 * j) (n:=6) (by lia);have exl3:=s3 _ _ exl;refine ⟨_,rfl,_,rfl,_,_,rfl,rfl,.inl ⟨by decide,by decide⟩,_,rfl,_,rfl,_,_,rfl,rfl,.inl ⟨by decide,by decide⟩,_,_,rfl,rfl,_,rfl,xl,_,rfl,SqL.of exl3,λp hp=>?_⟩;rw [show JN (row.map V.int) (some (6 * (j:Int))) (some (6 * (j:Int)+6))=((row.drop (6 * j)).take 6).map V.int from ec];have s4:Same H3 (upd H3 p (.lst (((row.drop (6 * j)).take 6).map V.int))):=Same.new hp;refine ⟨p,_,rfl,Gb,lc,λv d m H5 s5 t5 w5 l5=>?_⟩;have eD5:=s5 _ _ (s4 _ _ eD);have kk:=Js (o:=.lst (ys++[v])) eD5;refine ⟨eD5,by have:=W.t.len;lia,((s3.trans s4).trans s5).put hD,Gb,ds++[d],?_,by rw [List.length_append,List.length_singleton,hds]⟩;have W5:=(W.same s4).same s5;refine Wl.keep kk ⟨W5.t.app (.cons t5 .nil),λd' hd'=>?_⟩;rcases List.mem_append.mp hd' with z | z
     ·exact W.w d' z
     ·rw [List.mem_singleton] at z;rw [z];exact ⟨m,w5,l5⟩
    ·rintro ys H3 ⟨s3,eD,ds,W,hds⟩;exact hk _ _ ⟨D,ys,ds,rfl,s3,hD,eD,W,by lia,by lia⟩
   rintro σ' H3 ⟨D,ys,ds,rfl,s3,hD,eD,W,hd1,hd3⟩;have env3:=env2.same s3;have exl3:=s3 _ _ exl;have nDx:D≠xl:=λz=>by rw [z,exl] at hD;cases hD
   have nDh:D≠hl:=λz=>by rw [z,env2.hl] at hD;cases hD
   refine Jt (λσ' H'=>∃(v5:Option V)(ys:List V)(ds:List PyData),σ'=[some (.ref a),some (.ref hl),some (.int (i:Int)),some (.ref xl),some (.ref D),v5,v6,v7,v8]/\Env tbW hl H H' us/\H' xl=some (.lst (row.map V.int))/\H' D=some (.lst ys)/\Wl H' ys ds 1/\1<=ds.length/\ds.length<=3) ?s2 ?f2
   case f2=>
    intro hk;have pass:_:=hk _ _ ⟨v5,ys,ds,rfl,env3,exl3,eD,W,hd1,hd3⟩;refine ⟨_,rfl,xl,_,_,_,rfl,rfl,SqL.of exl3,GQ (by lia) (by lia),_,_,rfl,rfl,(by show (0:Int)<8;decide),rfl,_,rfl,OR (λ_=>?_) (λ_=>G4 pass)⟩;refine ⟨_,rfl,xl,_,_,_,rfl,rfl,SqL.of exl3,GQ (by lia) (by lia),_,_,rfl,rfl,(by show (0:Int)<4;decide),rfl,_,rfl,OR (λ_=>?_) (λ_=>pass)⟩;refine ⟨(by show 4<=sizeLine;lia),λp hp=>?_⟩;have s4:Same H3 (upd H3 p (.lst [.str "with", .str "off", .str "over", .str "past"])):=Same.new hp;obtain ⟨wd,hwd,ewd⟩:=OH sFour (j:=row.getD (28:Int).toNat 0 % 4) (Int.emod_nonneg _ (by decide)) (Int.emod_lt_of_pos _ (by decide));have exl4:=s4 _ _ exl3;refine ⟨_,rfl,xl,_,_,_,rfl,rfl,SqL.of exl4,GQ (by lia) (by lia),_,_,rfl,rfl,(by show (0:Int)<4;decide),p,_,_,_,rfl,rfl,SqL.of Gb,ewd,?_⟩;have eD4:=s4 _ _ eD;generalize upd H3 p (.lst [.str "with", .str "off", .str "over", .str "past"])=H4 at s4 exl4 eD4 ⊢;dsimp only [Jz];have r0:0<=row.getD (27:Int).toNat 0 % 24:=Int.emod_nonneg _ (by decide);have r1:row.getD (27:Int).toNat 0 % 24<24:=Int.emod_lt_of_pos _ (by decide);refine ⟨_,rfl,_,rfl,xl,_,_,_,rfl,rfl,SqL.of exl4,GQ (by lia) (by lia),_,_,rfl,rfl,(by show (0:Int)<24;decide),_,_,rfl,rfl,_,rfl,by lia,by lia,λD2 hD2=>?_⟩;refine JH (lo:=0) (n:=(7+row.getD (27:Int).toNat 0 % 24).toNat) (λj zs H'=>Same H4 H'/\H' D2=some (.lst zs)/\∃ms:List Int,zs=ms.map V.int/\ms.length=j/\∀m∈ms,0<=m/\m<=9999) ⟨Same.new hD2,Gb,[],rfl,rfl,λm hm=>(by cases hm)⟩ ?_ ?_
    ·rintro j zs H5 hj ⟨s5,eD5,ms,rfl,hms,hb⟩;rw [Int.zero_add];have exl5:=s5 _ _ exl4;have hj7:j<31:=by lia
     have hj4:0<=(j:Int) % 4:=Int.emod_nonneg _ (by decide);have hj5:(j:Int) % 4<4:=Int.emod_lt_of_pos _ (by decide);refine ⟨⟨rfl,trivial⟩,?_⟩;unfold XQ;refine GO ?_;have hz0:0<=row.getD (1+(j:Int) % 4).toNat 0 * ((j:Int)+3) % 10000:=Int.emod_nonneg _ (by decide);have hz1:row.getD (1+(j:Int) % 4).toNat 0 * ((j:Int)+3) % 10000<10000:=Int.emod_lt_of_pos _ (by decide);refine ⟨_,rfl,_,rfl,_,_,rfl,rfl,(by show (0:Int)<4;decide),_,_,rfl,rfl,xl,_,_,_,rfl,rfl,SqL.of exl5,GQ (by lia) (by lia),_,rfl,_,_,rfl,rfl,_,_,rfl,rfl,.inr ⟨by lia,by lia⟩,_,_,rfl,rfl,(by show (0:Int)<10000;decide),eD5,by rw [List.length_map];lia,s5.put hD2,Gb,ms++[_],by rw [List.map_append];rfl,by rw [List.length_append,List.length_singleton,hms],λm hm=>?_⟩;rcases List.mem_append.mp hm with y | y
     ·exact hb m y
     ·rw [List.mem_singleton] at y;rw [y];exact ⟨hz0,by lia⟩
    ·rintro zs H5 ⟨s5,eD5,ms,rfl,hms,hb⟩;refine ⟨D2,_,rfl,.inl ⟨SqL.of eD5,λt ht=>?_⟩⟩;have s6:Same H5 (upd H5 t (.tup (ms.map V.int))):=Same.new ht;have e6:upd H5 t (.tup (ms.map V.int)) t=some (.tup (ms.map V.int)):=Gb;generalize upd H5 t (.tup (ms.map V.int))=H6 at s6 e6 ⊢;refine ⟨JP,λp5 hp5=>?_⟩;have s7:Same H6 (upd H6 p5 (.tup [.str wd,.ref t])):=Same.new hp5;have e7:upd H6 p5 (.tup [.str wd,.ref t]) p5=some (.tup [.str wd,.ref t]):=Gb;generalize upd H6 p5 (.tup [.str wd,.ref t])=H7 at s7 e7 ⊢;have S37:=(s4.trans s5).trans (s6.trans s7);have eD7:=S37 _ _ eD;have hyl:=W.t.len;refine ⟨_,rfl,D,ys,_,0,rfl,rfl,eD7,?_,?_⟩
     ·unfold ixN;rw [if_pos (by decide),if_pos (by lia)]
      rfl
     have t7:Th H7 (.ref p5) (.tuple [.str wd,.tuple (ms.map .int)]):=.tup e7 (by simp) (.cons (.str wd) (.cons (.tup (s7 _ _ e6) (by rw [List.length_map];lia) (JK _ ms)) .nil));have W7:=W.same S37;have hw7:Ws (.tuple [.str wd,.tuple (ms.map .int)]) 1:=OI hwd (Oc hb);obtain ⟨y0,ys',rfl⟩:∃y0 ys',ys=y0::ys':=by
      cases ys with
      | nil=>rw [List.length_nil] at hyl;lia
      | cons y0 ys'=>exact ⟨y0,ys',rfl⟩
     obtain ⟨d0,ds',rfl⟩:∃d0 ds',ds=d0::ds':=by
      cases ds with
      | nil=>rw [List.length_nil] at hd1;lia
      | cons d0 ds'=>exact ⟨d0,ds',rfl⟩
     have W8:Wl H7 (.ref p5::ys') (.tuple [.str wd,.tuple (ms.map .int)]::ds') 1:=by
      refine ⟨.cons t7 ?_,λd hd=>?_⟩
      ·cases W7.t with
       | cons _ r=>exact r
      ·rcases List.mem_cons.mp hd with z | z
       ·rw [z];exact ⟨1,hw7,Nat.le_refl _⟩
       ·exact W7.w d (List.mem_cons_of_mem _ z)
     refine hk _ _ ⟨_,.ref p5::ys',_,rfl,(env3.same S37).put (env2.free hT0 hD) eD7 nDh,by rw [Gr (Ne.symm nDx)];exact S37 _ _ exl3,Gb,W8.keep (Js eD7),by rw [List.length_cons];lia,by rw [List.length_cons] at hd3 ⊢;exact hd3⟩
   rintro σ' H4 ⟨v5,ys,ds,rfl,env4,exl4,eD4,W4,hd1,hd3⟩;clear W eD env3 exl3;refine ⟨_,rfl,_,rfl,_,rfl,_,rfl,xl,_,rfl,SqL.of exl4,λp hp=>?_⟩;obtain ⟨ec1,lc1⟩:=Ue (ns:=row) (lo:=19) (n:=4) (by lia);obtain ⟨ec2,lc2⟩:=Ue (ns:=row) (lo:=23) (n:=3) (by lia);rw [show JN (row.map V.int) (some 19) (some 23)=((row.drop 19).take 4).map V.int from ec1];have s5:Same H4 (upd H4 p (.lst (((row.drop 19).take 4).map V.int))):=Same.new hp;refine ⟨D,p,ys,ds,_,rfl,s5 _ _ eD4,W4.same s5,hd1,hd3,Gb,lc1,λv d m H6 s6 t6 w6 l6=>?_⟩;have exl6:=s6 _ _ (s5 _ _ exl4);refine ⟨_,rfl,_,rfl,_,rfl,xl,_,rfl,SqL.of exl6,λp2 hp2=>?_⟩;rw [show JN (row.map V.int) (some 23) (some 26)=((row.drop 23).take 3).map V.int from ec2];have s7:Same H6 (upd H6 p2 (.lst (((row.drop 23).take 3).map V.int))):=Same.new hp2;refine ⟨v,p2,d,m,_,rfl,t6.same s7,w6,l6,Gb,lc2,λv d m H8 s8 t8 w8 l8=>?_⟩;have env8:=((env4.same s5).same s6).same (s7.trans s8);obtain ⟨tx,htx⟩:=Ws.tx w8;dsimp only [Jz];refine ⟨_,rfl,v,d,m,tx,rfl,t8,w8,l8,l8,htx,λH9 s9=>?_⟩;have env9:=env8.same s9;have t9:=t8.same s9;dsimp only [Jz];refine ⟨_,rfl,v,d,m,tx,rfl,t9,w8,l8,htx,env9.tab,λH10 s10 tab10=>?_⟩;have env10:=env9.slW s10 tab10;have t10:=w8.keep (SameL.tups s10 env9.tab) t9;dsimp only [Jz];refine ⟨_,rfl,_,_,true,rfl,⟨_,rfl,G4 ?_⟩,.inl ⟨_,.str _,rfl,GI⟩⟩;refine ⟨_,rfl,_,rfl,rfl,_,rfl,?_⟩;rw [decide_eq_true rfl];refine G4 ?_;refine ⟨_,rfl,tx,d,m,v,rfl,t10,w8,l8,htx,tab10,λu H11 s11 tab11 t11=>?_⟩;have env11:=env10.slW s11 tab11;have t11':=w8.keep (SameL.tups s11 tab10) t10;refine ⟨_,rfl,u,v,d,rfl,t11,t11',J8 (Ws.pl w8) (by lia),λH12 s12=>?_⟩;have env12:=env11.same s12;refine ⟨_,rfl,G4 ?_⟩;refine ⟨_,rfl,.inl ⟨rfl,_,SqL.of env12.hl⟩,_,rfl,_,rfl,JP,λpt hpt=>?_⟩;have s13:Same H12 (upd H12 pt (.tup [v,.str (mkS tx)])):=Same.new hpt;have e13:upd H12 pt (.tup [v,.str (mkS tx)]) pt=some (.tup [v,.str (mkS tx)]):=Gb;generalize upd H12 pt (.tup [v,.str (mkS tx)])=H13 at s13 e13 ⊢;have env13:=env12.same s13;refine ⟨hl,_,_,rfl,rfl,env13.hl,by lia,?_⟩;have kk:=Js (o:=.lst (us++[.ref pt])) env13.hl;have hd13:HdAt H13 (.ref pt):=⟨pt,v,d,m,tx,rfl,e13,(t11'.same s12).same s13,w8,l8,htx⟩;refine ⟨us++[.ref pt],_,_,_,_,_,_,_,rfl,⟨env13.s.put hhl,Vr env13.tab env13.hl,Gb,λx hx=>?_⟩,by rw [List.length_append,List.length_singleton];lia⟩;rcases List.mem_append.mp hx with z | z
   ·exact (env13.held x z).keep kk
   ·rw [List.mem_singleton.mp z];exact hd13.keep kk
  ·rintro σ' H1 ⟨us,v2,v3,v4,v5,v6,v7,v8,rfl,env1,hus⟩;refine ⟨_,rfl,_,rfl,hl,_,rfl,SqL.of env1.hl,λp hp=>?_⟩;have ec:JN us none (some (20:Int))=us.take 20:=XR (k:=20);rw [ec];have s2:Same H1 (upd H1 p (.lst (us.take 20))):=Same.new hp;have e2:upd H1 p (.lst (us.take 20)) p=some (.lst (us.take 20)):=Gb;generalize upd H1 p (.lst (us.take 20))=H2 at s2 e2 ⊢;refine ⟨p,rfl,⟨_,SqL.of e2⟩,?_⟩;refine O0 (K:=K) (a:=p) (xs:=us.take 20) (λi σ' H'=>∃(v6 v7:Option V),σ'=[some (.ref a),some (.ref hl),v2,v3,v4,v5,v6,v7,v8]/\Env tbW hl H H' us/\H' p=some (.lst (us.take 20))) ⟨v6,v7,rfl,env1.same s2,e2⟩ ?_ ?_ ?_
   ·rintro i σ' H' _ ⟨_,_,_,_,e⟩;exact SqL.of e
   ·rintro i x σ' H3 hx ⟨v6,v7,rfl,env3,e3⟩;obtain ⟨t,v,d,m,tx,rfl,et,th,hw,h8,htx⟩:=env3.held x (List.mem_of_mem_take (List.mem_of_getElem? hx));refine ⟨t,_,rfl,SqT.of et,rfl,_,_,rfl,_,_,rfl,rfl,?_⟩;refine ⟨_,rfl,tx,d,m,v,rfl,th,hw,h8,htx,env3.tab,λu H4 s4 tab4 t4=>?_⟩;have env4:=env3.slW s4 tab4;have th4:=hw.keep (SameL.tups s4 env3.tab) th;refine ⟨_,rfl,u,v,d,rfl,t4,th4,J8 (Ws.pl hw) (by lia),λH5 s5=>?_⟩;refine ⟨_,rfl,G4 ?_⟩;have env5:=env4.same s5;refine ⟨_,rfl,v,d,m,tx,rfl,th4.same s5,hw,h8,htx,env5.tab,λH6 s6 tab6=>?_⟩;refine ⟨_,rfl,rfl,_,rfl,?_⟩;rw [decide_eq_true rfl];refine G4 ?_;exact ⟨_,_,rfl,env5.slW s6 tab6,SameL.lsts s6 env5.tab (s5 _ _ (SameL.lsts s4 env3.tab e3))⟩
   ·rintro σ' H3 ⟨v6,v7,rfl,env3,e3⟩;exact q _
end
end M
namespace M
open PySem L2
theorem all_mk {l:W.OpenLaw}{w:World}{K:W.Frag}{h:Heap}{mg:Str->Option Value}{fa f1 f2 f3 f4 f5 f6 f7 f8 f9 f10 f11 f12 f13 f14 f15 f16 f17 f18 f19 f20 f21 f22 aJ aB aP aR aL cT tb:Addr}{tJ0 tJ1 tJ2 tB0 tB1 tB2 tP0 tP1 tR0 tR1 tL0 tL1 tG tD tF t4:Tok}{oJ oB oP oR oL:Option Addr}{nJ nB nP nR nL:Nat}{sJ sB sP sR sL:Array (Option Value)}{occT:Value}{odcT:Option Addr}{vsT:Array Value}{slcT:Array (Option Value)}(X:K.In h)(G:h.Ns mainGlobals mg)(hfa:mg "law" = some (.ref fa)){od1 an1 od2 an2 od3 an3 od4 an4 od5 an5 od6 an6 od7 an7 od8 an8 od9 an9 od10 an10 od11 an11 od12 an12 od13 an13 od14 an14 od15 an15 od16 an16 od17 an17 od18 an18 od19 an19 od20 an20 od21 an21 od22 an22:Option Addr}{sl1 sl2 sl3 sl4 sl5 sl6 sl7 sl8 sl9 sl10 sl11 sl12 sl13 sl14 sl15 sl16 sl17 sl18 sl19 sl20 sl21 sl22:Array (Option Value)}{oc1 kV1 dc1 pm1 cd1 ct1 oc2 kV2 dc2 pm2 cd2 ct2 oc3 kV3 dc3 pm3 cd3 ct3 oc4 kV4 dc4 pm4 cd4 ct4 oc5 kV5 dc5 pm5 cd5 ct5 oc6 kV6 dc6 pm6 cd6 ct6 oc7 kV7 dc7 pm7 cd7 ct7 oc8 kV8 dc8 pm8 cd8 ct8 oc9 kV9 dc9 pm9 cd9 ct9 oc10 kV10 dc10 pm10 ct10 oc11 kV11 dc11 pm11 cd11 ct11 oc12 kV12 dc12 pm12 cd12 ct12 oc13 kV13 dc13 pm13 cd13 ct13 oc14 kV14 dc14 pm14 cd14 ct14 oc15 kV15 dc15 pm15 cd15 ct15 oc16 kV16 dc16 pm16 cd16 ct16 oc17 kV17 dc17 pm17 cd17 ct17 oc18 kV18 dc18 pm18 cd18 ct18 oc19 kV19 dc19 pm19 cd19 ct19 oc20 kV20 dc20 pm20 cd20 ct20 oc21 kV21 dc21 pm21 cd21 ct21 oc22 kV22 dc22 pm22 cd22 ct22:Value}(aF1:W.nsIn K mainGlobals "is_written" = some (some (.ref f1)))(lF1:K.lookup f1=some ⟨oc1,od1,.func (W.fnOf "is_written" "is_written" (Gu Yz) (Gq Yz) (Ge Yz) .none kV1 dc1 pm1 an1 cd1 ct1),sl1⟩)(cF1:W.codeIn K cd1 "is_written" = true)(kF1:W.keepIn K (.ref f1)=true)(aF2:W.nsIn K mainGlobals "is_number" = some (some (.ref f2)))(lF2:K.lookup f2=some ⟨oc2,od2,.func (W.fnOf "is_number" "is_number" (Gu YA) (Gq YA) (Ge YA) .none kV2 dc2 pm2 an2 cd2 ct2),sl2⟩)(cF2:W.codeIn K cd2 "is_number" = true)(kF2:W.keepIn K (.ref f2)=true)(aF3:W.nsIn K mainGlobals "parts_of" = some (some (.ref f3)))(lF3:K.lookup f3=some ⟨oc3,od3,.func (W.fnOf "parts_of" "parts_of" (Gu YB) (Gq YB) (Ge YB) .none kV3 dc3 pm3 an3 cd3 ct3),sl3⟩)(cF3:W.codeIn K cd3 "parts_of" = true)(kF3:W.keepIn K (.ref f3)=true)(aF4:W.nsIn K mainGlobals "folded" = some (some (.ref f4)))(lF4:K.lookup f4=some ⟨oc4,od4,.func (W.fnOf "folded" "folded" (Gu YC) (Gq YC) (Ge YC) .none kV4 dc4 pm4 an4 cd4 ct4),sl4⟩)(cF4:W.codeIn K cd4 "folded" = true)(kF4:W.keepIn K (.ref f4)=true)(aF5:W.nsIn K mainGlobals "is_small" = some (some (.ref f5)))(lF5:K.lookup f5=some ⟨oc5,od5,.func (W.fnOf "is_small" "is_small" (Gu XU) (Gq XU) (Ge XU) .none kV5 dc5 pm5 an5 cd5 ct5),sl5⟩)(cF5:W.codeIn K cd5 "is_small" = true)(kF5:W.keepIn K (.ref f5)=true)(aF6:W.nsIn K mainGlobals "is_leaf" = some (some (.ref f6)))(lF6:K.lookup f6=some ⟨oc6,od6,.func (W.fnOf "is_leaf" "is_leaf" (Gu YD) (Gq YD) (Ge YD) .none kV6 dc6 pm6 an6 cd6 ct6),sl6⟩)(cF6:W.codeIn K cd6 "is_leaf" = true)(kF6:W.keepIn K (.ref f6)=true)(aF7:W.nsIn K mainGlobals "is_wish" = some (some (.ref f7)))(lF7:K.lookup f7=some ⟨oc7,od7,.func (W.fnOf "is_wish" "is_wish" (Gu YE) (Gq YE) (Ge YE) .none kV7 dc7 pm7 an7 cd7 ct7),sl7⟩)(cF7:W.codeIn K cd7 "is_wish" = true)(kF7:W.keepIn K (.ref f7)=true)(aF8:W.nsIn K mainGlobals "numbers_of" = some (some (.ref f8)))(lF8:K.lookup f8=some ⟨oc8,od8,.func (W.fnOf "numbers_of" "numbers_of" (Gu YF) (Gq YF) (Ge YF) .none kV8 dc8 pm8 an8 cd8 ct8),sl8⟩)(cF8:W.codeIn K cd8 "numbers_of" = true)(kF8:W.keepIn K (.ref f8)=true)(aF9:W.nsIn K mainGlobals "show_leaf" = some (some (.ref f9)))(lF9:K.lookup f9=some ⟨oc9,od9,.func (W.fnOf "show_leaf" "show_leaf" (Gu Y9) (Gq Y9) (Ge Y9) .none kV9 dc9 pm9 an9 cd9 ct9),sl9⟩)(cF9:W.codeIn K cd9 "show_leaf" = true)(kF9:W.keepIn K (.ref f9)=true)(aF10:W.nsIn K mainGlobals "show_wish" = some (some (.ref f10)))(lF10:K.lookup f10=some ⟨oc10,od10,.func (W.fnOf "show_wish" "show_wish" (Gu Xp) (Gq Xp) (Ge Xp) .none kV10 dc10 pm10 an10 (.ref cT) ct10),sl10⟩)(cF10:W.codeIn K (.ref cT) "show_wish" = true)(kF10:W.keepIn K (.ref f10)=true)(aF11:W.nsIn K mainGlobals "items_of" = some (some (.ref f11)))(lF11:K.lookup f11=some ⟨oc11,od11,.func (W.fnOf "items_of" "items_of" (Gu YG) (Gq YG) (Ge YG) .none kV11 dc11 pm11 an11 cd11 ct11),sl11⟩)(cF11:W.codeIn K cd11 "items_of" = true)(kF11:W.keepIn K (.ref f11)=true)(aF12:W.nsIn K mainGlobals "leaf_of" = some (some (.ref f12)))(lF12:K.lookup f12=some ⟨oc12,od12,.func (W.fnOf "leaf_of" "leaf_of" (Gu YH) (Gq YH) (Ge YH) .none kV12 dc12 pm12 an12 cd12 ct12),sl12⟩)(cF12:W.codeIn K cd12 "leaf_of" = true)(kF12:W.keepIn K (.ref f12)=true)(aF13:W.nsIn K mainGlobals "wish_of" = some (some (.ref f13)))(lF13:K.lookup f13=some ⟨oc13,od13,.func (W.fnOf "wish_of" "wish_of" (Gu YI) (Gq YI) (Ge YI) .none kV13 dc13 pm13 an13 cd13 ct13),sl13⟩)(cF13:W.codeIn K cd13 "wish_of" = true)(kF13:W.keepIn K (.ref f13)=true)(aF14:W.nsIn K mainGlobals "read_wish" = some (some (.ref f14)))(lF14:K.lookup f14=some ⟨oc14,od14,.func (W.fnOf "read_wish" "read_wish" (Gu YJ) (Gq YJ) (Ge YJ) .none kV14 dc14 pm14 an14 cd14 ct14),sl14⟩)(cF14:W.codeIn K cd14 "read_wish" = true)(kF14:W.keepIn K (.ref f14)=true)(aF15:W.nsIn K mainGlobals "_law_cell_at" = some (some (.ref f15)))(lF15:K.lookup f15=some ⟨oc15,od15,.func (W.fnOf "_law_cell_at" "_law_cell_at" (Gu YK) (Gq YK) (Ge YK) .none kV15 dc15 pm15 an15 cd15 ct15),sl15⟩)(cF15:W.codeIn K cd15 "_law_cell_at" = true)(kF15:W.keepIn K (.ref f15)=true)(aF16:W.nsIn K mainGlobals "_law_numbers" = some (some (.ref f16)))(lF16:K.lookup f16=some ⟨oc16,od16,.func (W.fnOf "_law_numbers" "_law_numbers" (Gu YL) (Gq YL) (Ge YL) .none kV16 dc16 pm16 an16 cd16 ct16),sl16⟩)(cF16:W.codeIn K cd16 "_law_numbers" = true)(kF16:W.keepIn K (.ref f16)=true)(aF17:W.nsIn K mainGlobals "_law_some" = some (some (.ref f17)))(lF17:K.lookup f17=some ⟨oc17,od17,.func (W.fnOf "_law_some" "_law_some" (Gu YM) (Gq YM) (Ge YM) .none kV17 dc17 pm17 an17 cd17 ct17),sl17⟩)(cF17:W.codeIn K cd17 "_law_some" = true)(kF17:W.keepIn K (.ref f17)=true)(aF18:W.nsIn K mainGlobals "_law_joined" = some (some (.ref f18)))(lF18:K.lookup f18=some ⟨oc18,od18,.func (W.fnOf "_law_joined" "_law_joined" (Gu YN) (Gq YN) (Ge YN) .none kV18 dc18 pm18 an18 cd18 ct18),sl18⟩)(cF18:W.codeIn K cd18 "_law_joined" = true)(kF18:W.keepIn K (.ref f18)=true)(aF19:W.nsIn K mainGlobals "_law_deep" = some (some (.ref f19)))(lF19:K.lookup f19=some ⟨oc19,od19,.func (W.fnOf "_law_deep" "_law_deep" (Gu YO) (Gq YO) (Ge YO) .none kV19 dc19 pm19 an19 cd19 ct19),sl19⟩)(cF19:W.codeIn K cd19 "_law_deep" = true)(kF19:W.keepIn K (.ref f19)=true)(aF20:W.nsIn K mainGlobals "_law_written" = some (some (.ref f20)))(lF20:K.lookup f20=some ⟨oc20,od20,.func (W.fnOf "_law_written" "_law_written" (Gu YQ) (Gq YQ) (Ge YQ) .none kV20 dc20 pm20 an20 cd20 ct20),sl20⟩)(cF20:W.codeIn K cd20 "_law_written" = true)(kF20:W.keepIn K (.ref f20)=true)(aF21:W.nsIn K mainGlobals "_law_alike" = some (some (.ref f21)))(lF21:K.lookup f21=some ⟨oc21,od21,.func (W.fnOf "_law_alike" "_law_alike" (Gu YR) (Gq YR) (Ge YR) .none kV21 dc21 pm21 an21 cd21 ct21),sl21⟩)(cF21:W.codeIn K cd21 "_law_alike" = true)(kF21:W.keepIn K (.ref f21)=true)(aF22:W.nsIn K mainGlobals "law" = some (some (.ref f22)))(lF22:K.lookup f22=some ⟨oc22,od22,.func (W.fnOf "law" "law" (Gu Xq) (Gq Xq) (Ge Xq) .none kV22 dc22 pm22 an22 cd22 ct22),sl22⟩)(cF22:W.codeIn K cd22 "law" = true)(kF22:W.keepIn K (.ref f22)=true)(kk:ZL K)(ka:Zbw K)(gJ:W.nsIn K mainGlobals "JOINING" = some (some (.ref aJ)))(lJ:K.lookup aJ=some ⟨.type "tuple", oJ,.seq #[.str "and" tJ0,.str "or" tJ1,.str "but" tJ2] nJ,sJ⟩)(gB:W.nsIn K mainGlobals "BARE" = some (some (.ref aB)))(lB:K.lookup aB=some ⟨.type "tuple", oB,.seq #[.str "closed" tB0,.str "shy" tB1,.str "all" tB2] nB,sB⟩)(gP:W.nsIn K mainGlobals "PAIRED" = some (some (.ref aP)))(lP:K.lookup aP=some ⟨.type "tuple", oP,.seq #[.str "open" tP0,.str "long" tP1] nP,sP⟩)(gR:W.nsIn K mainGlobals "OF_ROADS" = some (some (.ref aR)))(lR:K.lookup aR=some ⟨.type "tuple", oR,.seq #[.str "with" tR0,.str "off" tR1] nR,sR⟩)(gL:W.nsIn K mainGlobals "OF_PLACES" = some (some (.ref aL)))(lL:K.lookup aL=some ⟨.type "tuple", oL,.seq #[.str "over" tL0,.str "past" tL1] nL,sL⟩)(gG:W.nsIn K mainGlobals "GREATEST" = some (some (.int 9999 tG)))(gD:W.nsIn K mainGlobals "DEEPEST" = some (some (.int 8 tD)))(gFig:W.nsIn K mainGlobals "FIGURES" = some (some (.str "0123456789" tF)))(gMoF:W.nsIn K mainGlobals "MOST_FIGURES" = some (some (.int 4 t4)))(lcT:K.lookup cT=some ⟨occT,odcT,.fields vsT,slcT⟩)(v11:(vsT[11]?:Option Value)=some (.ref tb))(nTab:K.lookup tb=none)(nisinstance:W.nsIn K mainGlobals "isinstance" = some none)(nint:W.nsIn K mainGlobals "int" = some none)(nbool:W.nsIn K mainGlobals "bool" = some none)(ntuple:W.nsIn K mainGlobals "tuple" = some none)(nstr:W.nsIn K mainGlobals "str" = some none)(nlen:W.nsIn K mainGlobals "len" = some none)(nall:W.nsIn K mainGlobals "all" = some none)(nrange:W.nsIn K mainGlobals "range" = some none)(nlist:W.nsIn K mainGlobals "list" = some none)(nmax:W.nsIn K mainGlobals "max" = some none)(nreversed:W.nsIn K mainGlobals "reversed" = some none)
  : ∃(fd:FuncData)(c P:Addr),W.tabIn K "show_wish" = some (c,P)/\K.lookup P=none/\(∀(s:Shared)(v:Value),BindsTo s fd ⟨[v],[]⟩ [("script", v)])/\∀base:Heap,K.In base->base.Ns mainGlobals mg->W.CodeHd base c P->base.BuiltinsAt mg P->FnOk l.prog w K mg base CX0 11 fa fd ["script"] (XG K P):=by
 have e:=hfa.symm.trans (W.mg_of X G aF22);cases e;have FWri:=GV (st:=Yz) lF1 cF1 kF1;have bWri:=FWri.binds (ps:=["word", "most"]) λ_ _ _ _ _ _ us hl=>by obtain ⟨_,_,rfl⟩:=XO hl;rfl
 have mWri:mg "is_written" = some (.ref f1):=W.mg_of X G aF1;have FIsn:=GV (st:=YA) lF2 cF2 kF2;have bIsn:=FIsn.binds (ps:=["word"]) λ_ _ _ _ _ _ us hl=>by obtain ⟨_,rfl⟩:=Vc hl;rfl
 have mIsn:mg "is_number" = some (.ref f2):=W.mg_of X G aF2;have FPa:=GV (st:=YB) lF3 cF3 kF3;have bPa:=FPa.binds (ps:=["wish"]) λ_ _ _ _ _ _ us hl=>by obtain ⟨_,rfl⟩:=Vc hl;rfl
 have mPa:mg "parts_of" = some (.ref f3):=W.mg_of X G aF3;have FFo:=GV (st:=YC) lF4 cF4 kF4;have bFo:=FFo.binds (ps:=["wish", "told_of", "joined"]) λ_ _ _ _ _ _ us hl=>by obtain ⟨_,_,_,rfl⟩:=ZaN hl;rfl
 have mFo:mg "folded" = some (.ref f4):=W.mg_of X G aF4;have FS:=GV (st:=XU) lF5 cF5 kF5;have bS:=FS.binds (ps:=["thing"]) λ_ _ _ _ _ _ us hl=>by obtain ⟨_,rfl⟩:=Vc hl;rfl
 have mS:mg "is_small" = some (.ref f5):=W.mg_of X G aF5;have FE:=GV (st:=YD) lF6 cF6 kF6;have bE:=FE.binds (ps:=["word", "rest"]) λ_ _ _ _ _ _ us hl=>by obtain ⟨_,_,rfl⟩:=XO hl;rfl
 have mE:mg "is_leaf" = some (.ref f6):=W.mg_of X G aF6;have FW:=GV (st:=YE) lF7 cF7 kF7;have bW:=FW.binds (ps:=["thing"]) λ_ _ _ _ _ _ us hl=>by obtain ⟨_,rfl⟩:=Vc hl;rfl
 have mW:mg "is_wish" = some (.ref f7):=W.mg_of X G aF7;have FNo:=GV (st:=YF) lF8 cF8 kF8;have bNo:=FNo.binds (ps:=["leaf"]) λ_ _ _ _ _ _ us hl=>by obtain ⟨_,rfl⟩:=Vc hl;rfl
 have mNo:mg "numbers_of" = some (.ref f8):=W.mg_of X G aF8;have FSl:=GV (st:=Y9) lF9 cF9 kF9;have bSl:=FSl.binds (ps:=["leaf"]) λ_ _ _ _ _ _ us hl=>by obtain ⟨_,rfl⟩:=Vc hl;rfl
 have mSl:mg "show_leaf" = some (.ref f9):=W.mg_of X G aF9;have FSw:=GV (st:=Xp) lF10 cF10 kF10;have bSw:=FSw.binds (ps:=["wish"]) λ_ _ _ _ _ _ us hl=>by obtain ⟨_,rfl⟩:=Vc hl;rfl
 have mSw:mg "show_wish" = some (.ref f10):=W.mg_of X G aF10;have FIt:=GV (st:=YG) lF11 cF11 kF11;have bIt:=FIt.binds (ps:=["text"]) λ_ _ _ _ _ _ us hl=>by obtain ⟨_,rfl⟩:=Vc hl;rfl
 have mIt:mg "items_of" = some (.ref f11):=W.mg_of X G aF11;have FLo:=GV (st:=YH) lF12 cF12 kF12;have bLo:=FLo.binds (ps:=["item"]) λ_ _ _ _ _ _ us hl=>by obtain ⟨_,rfl⟩:=Vc hl;rfl
 have mLo:mg "leaf_of" = some (.ref f12):=W.mg_of X G aF12;have FWo:=GV (st:=YI) lF13 cF13 kF13;have bWo:=FWo.binds (ps:=["items"]) λ_ _ _ _ _ _ us hl=>by obtain ⟨_,rfl⟩:=Vc hl;rfl
 have mWo:mg "wish_of" = some (.ref f13):=W.mg_of X G aF13;have FRw:=GV (st:=YJ) lF14 cF14 kF14;have bRw:=FRw.binds (ps:=["text"]) λ_ _ _ _ _ _ us hl=>by obtain ⟨_,rfl⟩:=Vc hl;rfl
 have mRw:mg "read_wish" = some (.ref f14):=W.mg_of X G aF14;have FA:=GV (st:=YK) lF15 cF15 kF15;have bA:=FA.binds (ps:=["script", "k"]) λ_ _ _ _ _ _ us hl=>by obtain ⟨_,_,rfl⟩:=XO hl;rfl
 have mA:mg "_law_cell_at" = some (.ref f15):=W.mg_of X G aF15;have FN:=GV (st:=YL) lF16 cF16 kF16;have bN:=FN.binds (ps:=["cell", "many"]) λ_ _ _ _ _ _ us hl=>by obtain ⟨_,_,rfl⟩:=XO hl;rfl
 have mN:mg "_law_numbers" = some (.ref f16):=W.mg_of X G aF16;have FM:=GV (st:=YM) lF17 cF17 kF17;have bM:=FM.binds (ps:=["xs"]) λ_ _ _ _ _ _ us hl=>by obtain ⟨_,rfl⟩:=Vc hl;rfl
 have mM:mg "_law_some" = some (.ref f17):=W.mg_of X G aF17;have FJ:=GV (st:=YN) lF18 cF18 kF18;have bJ:=FJ.binds (ps:=["parts", "xs"]) λ_ _ _ _ _ _ us hl=>by obtain ⟨_,_,rfl⟩:=XO hl;rfl
 have mJ:mg "_law_joined" = some (.ref f18):=W.mg_of X G aF18;have FDp:=GV (st:=YO) lF19 cF19 kF19;have bDp:=FDp.binds (ps:=["thing", "xs"]) λ_ _ _ _ _ _ us hl=>by obtain ⟨_,_,rfl⟩:=XO hl;rfl
 have mDp:mg "_law_deep" = some (.ref f19):=W.mg_of X G aF19;have FWt:=GV (st:=YQ) lF20 cF20 kF20;have bWt:=FWt.binds (ps:=["wish"]) λ_ _ _ _ _ _ us hl=>by obtain ⟨_,rfl⟩:=Vc hl;rfl
 have mWt:mg "_law_written" = some (.ref f20):=W.mg_of X G aF20;have FAl:=GV (st:=YR) lF21 cF21 kF21;have bAl:=FAl.binds (ps:=["found", "due"]) λ_ _ _ _ _ _ us hl=>by obtain ⟨_,_,rfl⟩:=XO hl;rfl
 have mAl:mg "_law_alike" = some (.ref f21):=W.mg_of X G aF21;have FL:=GV (st:=Xq) lF22 cF22 kF22;have tTab:W.tabIn K "show_wish" = some (cT,tb):=by
  unfold W.tabIn;simp only [aF10,lF10,W.fnOf,lcT,v11]
 refine ⟨W.fnOf "law" "law" (Gu Xq) (Gq Xq) (Ge Xq) .none kV22 dc22 pm22 an22 cd22 ct22,cT,tb,tTab,nTab,λs v=>.of_eq rfl,λbase _ _ hC hBl=>?_⟩;have T:Wds K aJ aB aP aR aL:=⟨λ_=>.inr ⟨_,_,_,lJ,rfl,rfl,(by show 3<=sizeLine;decide),.cons ⟨_,rfl⟩ (.cons ⟨_,rfl⟩ (.cons ⟨_,rfl⟩ .nil))⟩,λ_=>.inr ⟨_,_,_,lB,rfl,rfl,(by show 3<=sizeLine;decide),.cons ⟨_,rfl⟩ (.cons ⟨_,rfl⟩ (.cons ⟨_,rfl⟩ .nil))⟩,λ_=>.inr ⟨_,_,_,lP,rfl,rfl,(by show 2<=sizeLine;decide),.cons ⟨_,rfl⟩ (.cons ⟨_,rfl⟩ .nil)⟩,λ_=>.inr ⟨_,_,_,lR,rfl,rfl,(by show 2<=sizeLine;decide),.cons ⟨_,rfl⟩ (.cons ⟨_,rfl⟩ .nil)⟩,λ_=>.inr ⟨_,_,_,lL,rfl,rfl,(by show 2<=sizeLine;decide),.cons ⟨_,rfl⟩ (.cons ⟨_,rfl⟩ .nil)⟩⟩;have GWri:=Zac (P:=l.prog) (w:=w) (base:=base) FWri (W.mg_of X G gFig) (W.mg_none_of X G nlen) (W.mg_none_of X G nall);have GIsn:=Zae FIsn FWri bWri mWri GWri (W.mg_of X G gMoF);have GPa:=ZZ (P:=l.prog) (w:=w) (base:=base) FPa T (W.mg_of X G gJ);have GNo:=Z2 (P:=l.prog) (w:=w) (base:=base) FNo T (W.mg_of X G gR) (W.mg_of X G gL);have GSl:=Z4 FSl FNo bNo mNo GNo (W.mg_none_of X G nstr);have GFo:=Z7 FFo FPa bPa mPa GPa FSl.kp bSl GSl T (W.mg_of X G gJ) (W.mg_none_of X G nreversed);have GSw:=Zaa FSw rfl hC hBl FFo bFo mFo GFo mSl;have GW:=Zao (P:=l.prog) (w:=w) (base:=base) FW FS bS mS FE bE mE kk T (W.mg_of X G gJ) (W.mg_of X G gB) (W.mg_of X G gP) (W.mg_of X G gR) (W.mg_of X G gL) (W.mg_of X G gG) (W.mg_of X G gD) (W.mg_none_of X G nisinstance) (W.mg_none_of X G nint) (W.mg_none_of X G nbool) (W.mg_none_of X G ntuple) (W.mg_none_of X G nstr) (W.mg_none_of X G nlen) (W.mg_none_of X G nall);have GIt:=Zag FIt FIsn bIsn mIsn GIsn T (W.mg_of X G gJ) (W.mg_of X G gB) (W.mg_of X G gP) (W.mg_of X G gR) (W.mg_of X G gL) (W.mg_none_of X G nisinstance) (W.mg_none_of X G ntuple) (W.mg_none_of X G nint);have GLo:=Zai (P:=l.prog) (w:=w) (base:=base) FLo T (W.mg_of X G gR) (W.mg_of X G gL);have GWo:=Zak FWo FLo bLo mLo GLo kk (W.mg_none_of X G nisinstance) (W.mg_none_of X G ntuple) (W.mg_none_of X G nlen);have GRw:=Zaq FRw FIt bIt mIt GIt FWo bWo mWo GWo FW bW mW GW FSw bSw mSw GSw (W.mg_none_of X G nisinstance) (W.mg_none_of X G nstr);have GWt:=XX (P:=l.prog) (w:=w) (base:=base) FWt bWt mWt (W.mg_none_of X G nlen) (W.mg_none_of X G nstr) 8;have GAl:=XY (P:=l.prog) (w:=w) (base:=base) FAl bAl mAl ka (W.mg_none_of X G nisinstance) (W.mg_none_of X G nstr) (W.mg_none_of X G ntuple) (W.mg_none_of X G nlist) (W.mg_none_of X G nint) (W.mg_none_of X G nbool) (W.mg_none_of X G nlen) (W.mg_none_of X G nrange) 10;exact Zau FL FA bA mA (ZR FA (W.mg_none_of X G nlen)) FN bN mN (ZT FN (W.mg_none_of X G nrange)) FM bM mM (ZV FM (W.mg_none_of X G nrange) (W.mg_none_of X G ntuple)) FJ bJ mJ (ZX FJ (W.mg_none_of X G nrange) (W.mg_none_of X G nlen) (W.mg_none_of X G nlist)) FDp bDp mDp (Zas FDp (W.mg_none_of X G nrange)) FWt bWt mWt GWt FSw bSw mSw GSw FRw bRw mRw GRw FAl bAl mAl GAl (W.mg_none_of X G nisinstance) (W.mg_none_of X G ntuple) (W.mg_none_of X G nstr) (W.mg_none_of X G nlen) (W.mg_none_of X G nrange) (W.mg_none_of X G nmax)
theorem walk {l:W.OpenLaw}{q:Program}{loose:List Str}{XP:(Str->Option Value)->Heap->Prop}{YP:World->Heap->Prop}{d dd:DefRec}{K:Params->W.Frag}(hn:l.most=some 63)(hdf:d.params.defaults=[])(hY:∀(w:World)(h:Heap),YP w h->(K w.params).In h)(hrec:(PyProof.Rows.recsOf q).find? (λe=>e.name == Str.ofString "show_wish")=some dd)(F:∀(w:World)(mg:Str->Option Value)(fa:Addr)(h:Heap),(K w.params).In h->h.Ns mainGlobals mg->mg d.name=some (.ref fa) ->
   ∃(fd:FuncData)(c P:Addr),W.tabIn (K w.params) "show_wish" = some (c,P)/\(K w.params).lookup P=none/\(∀(s:Shared)(u:Value),BindsTo s fd ⟨[u],[]⟩ [("script", u)])/\∀base:Heap,(K w.params).In base->base.Ns mainGlobals mg->W.CodeHd base c P->base.BuiltinsAt mg P->FnOk l.prog w (K w.params) mg base CX0 11 fa fd ["script"] (XG (K w.params) P)) :
  W.WalkO q loose XP YP l.row.toRowW d [] (λf vs=>PySem.call f vs):=
 L2.walk_ofT (n:=63) (k:=11) (x := "script") (tn:=Str.ofString "show_wish") (CX:=λ_=>CX0) (sp:=λw P=>XG (K w.params) P) hn (by decide) hdf ⟨rfl,by decide,by decide⟩ hY hrec F (λ_ P _ a ns hl _ hP hS=>⟨a,ns,rfl,hS,hl,hP,λ_=>rfl⟩) λ_ _ _ _ _ z=>z
end M
open PySem PySem.W PyProof.Rows
set_option maxRecDepth 100000 in
set_option maxHeartbeats 0 in
theorem PySem.Challenge.cw_onceways_k81_wishes_written_and_read_holds : PySem.Challenge.rw_onceways_k81_wishes_written_and_read.Holds := by
 w_on;o_law;k_head;(case hw=>w_witness2)
 k_fill
 refine M.walk (l:=PySem.Challenge.rw_onceways_k81_wishes_written_and_read) rfl rfl (λw h Y=>W.km_in_of Y) (by rfl) ?F
 case F=>
  intro w mg fa h KX G hmg
  refine' M.all_mk KX G hmg ?aF1 ?lF1 ?cF1 ?kF1 ?aF2 ?lF2 ?cF2 ?kF2 ?aF3 ?lF3 ?cF3 ?kF3 ?aF4 ?lF4 ?cF4 ?kF4 ?aF5 ?lF5 ?cF5 ?kF5 ?aF6 ?lF6 ?cF6 ?kF6 ?aF7 ?lF7 ?cF7 ?kF7 ?aF8 ?lF8 ?cF8 ?kF8 ?aF9 ?lF9 ?cF9 ?kF9 ?aF10 ?lF10 ?cF10 ?kF10 ?aF11 ?lF11 ?cF11 ?kF11 ?aF12 ?lF12 ?cF12 ?kF12 ?aF13 ?lF13 ?cF13 ?kF13 ?aF14 ?lF14 ?cF14 ?kF14 ?aF15 ?lF15 ?cF15 ?kF15 ?aF16 ?lF16 ?cF16 ?kF16 ?aF17 ?lF17 ?cF17 ?kF17 ?aF18 ?lF18 ?cF18 ?kF18 ?aF19 ?lF19 ?cF19 ?kF19 ?aF20 ?lF20 ?cF20 ?kF20 ?aF21 ?lF21 ?cF21 ?kF21 ?aF22 ?lF22 ?cF22 ?kF22 ?kk ?ka ?gJ ?lJ ?gB ?lB ?gP ?lP ?gR ?lR ?gL ?lL ?gG ?gD ?gFig ?gMoF ?lcT ?v11 ?nTab ?nisinstance ?nint ?nbool ?ntuple ?nstr ?nlen ?nall ?nrange ?nlist ?nmax ?nreversed
  (case aF1=>k_is)
  (case lF1=>k_is)
  (case cF1=>k_is)
  (case kF1=>k_is)
  (case aF2=>k_is)
  (case lF2=>k_is)
  (case cF2=>k_is)
  (case kF2=>k_is)
  (case aF3=>k_is)
  (case lF3=>k_is)
  (case cF3=>k_is)
  (case kF3=>k_is)
  (case aF4=>k_is)
  (case lF4=>k_is)
  (case cF4=>k_is)
  (case kF4=>k_is)
  (case aF5=>k_is)
  (case lF5=>k_is)
  (case cF5=>k_is)
  (case kF5=>k_is)
  (case aF6=>k_is)
  (case lF6=>k_is)
  (case cF6=>k_is)
  (case kF6=>k_is)
  (case aF7=>k_is)
  (case lF7=>k_is)
  (case cF7=>k_is)
  (case kF7=>k_is)
  (case aF8=>k_is)
  (case lF8=>k_is)
  (case cF8=>k_is)
  (case kF8=>k_is)
  (case aF9=>k_is)
  (case lF9=>k_is)
  (case cF9=>k_is)
  (case kF9=>k_is)
  (case aF10=>k_is)
  (case lF10=>k_is)
  (case cF10=>k_is)
  (case kF10=>k_is)
  (case aF11=>k_is)
  (case lF11=>k_is)
  (case cF11=>k_is)
  (case kF11=>k_is)
  (case aF12=>k_is)
  (case lF12=>k_is)
  (case cF12=>k_is)
  (case kF12=>k_is)
  (case aF13=>k_is)
  (case lF13=>k_is)
  (case cF13=>k_is)
  (case kF13=>k_is)
  (case aF14=>k_is)
  (case lF14=>k_is)
  (case cF14=>k_is)
  (case kF14=>k_is)
  (case aF15=>k_is)
  (case lF15=>k_is)
  (case cF15=>k_is)
  (case kF15=>k_is)
  (case aF16=>k_is)
  (case lF16=>k_is)
  (case cF16=>k_is)
  (case kF16=>k_is)
  (case aF17=>k_is)
  (case lF17=>k_is)
  (case cF17=>k_is)
  (case kF17=>k_is)
  (case aF18=>k_is)
  (case lF18=>k_is)
  (case cF18=>k_is)
  (case kF18=>k_is)
  (case aF19=>k_is)
  (case lF19=>k_is)
  (case cF19=>k_is)
  (case kF19=>k_is)
  (case aF20=>k_is)
  (case lF20=>k_is)
  (case cF20=>k_is)
  (case kF20=>k_is)
  (case aF21=>k_is)
  (case lF21=>k_is)
  (case cF21=>k_is)
  (case kF21=>k_is)
  (case aF22=>k_is)
  (case lF22=>k_is)
  (case cF22=>k_is)
  (case kF22=>k_is)
  (case kk=>(constructor <;> kit_is))
  (case ka=>(constructor <;> kit_is))
  (case gJ=>k_is)
  (case lJ=>k_is)
  (case gB=>k_is)
  (case lB=>k_is)
  (case gP=>k_is)
  (case lP=>k_is)
  (case gR=>k_is)
  (case lR=>k_is)
  (case gL=>k_is)
  (case lL=>k_is)
  (case gG=>k_is)
  (case gD=>k_is)
  (case gFig=>k_is)
  (case gMoF=>k_is)
  (case lcT=>k_is)
  (case v11=>exact rfl)
  (case nTab=>kernel_rfl)
  (case nisinstance=>k_is)
  (case nint=>k_is)
  (case nbool=>k_is)
  (case ntuple=>k_is)
  (case nstr=>k_is)
  (case nlen=>k_is)
  (case nall=>k_is)
  (case nrange=>k_is)
  (case nlist=>k_is)
  (case nmax=>k_is)
  (case nreversed=>k_is)
#print axioms PySem.Challenge.cw_onceways_k81_wishes_written_and_read_holds
